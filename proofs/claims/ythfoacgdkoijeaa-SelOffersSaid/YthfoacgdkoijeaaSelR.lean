/- The selection: a port that is offered the best. No statement is proved here. -/
import Derived.Test.YthfoacgdkoijeaaSelQ
import Derived.Test.YthfoacgdkoijeaaInfI
namespace Go.Proofs.Ythfoacgdkoijeaa
open Go.RowKit Go.BigFrame Go.WideShapes Go.ChangeShapes Go.Deep
set_option linter.unusedVariables false
set_option linter.unusedSimpArgs false

def OZ : List Value := [.int .u64 0, .int .u32 0, .int .u64 0, .int .u16 0, .int .u16 0]
abbrev ofZ1 (Z : Br) (k : Nat) : Br := (Z.setp k 86 (.int .i64 3)).setr k 68 OZ
def ofZ (Z : Br) (k : Nat) : Br := ((Z.setp k 86 (.int .i64 3)).setr k 68 OZ).setp k 1 (.int .u32 0)
theorem ofZ_np {Z : Br} {k : Nat} : (ofZ Z k).np = Z.np := rfl
theorem ofZ_hi {Z : Br} {k : Nat} (j : Nat) : (ofZ Z k).hi j = Z.hi j := rfl
theorem ofZ_l1 {Z : Br} {k : Nat} (h : k * 89 + 89 ≤ Z.ps.length) : k * 89 + 89 ≤ (Z.setp k 86 (.int .i64 3)).ps.length := by rw [len_setp]; exact h
theorem ofZ_l2 {Z : Br} {k : Nat} (h : k * 89 + 89 ≤ Z.ps.length) : k * 89 + 89 ≤ ((Z.setp k 86 (.int .i64 3)).setr k 68 OZ).ps.length := by
  rw [len_setr (ofZ_l1 h) (by exact (by decide : 68 + 5 ≤ 89)), len_setp]; exact h
theorem ofZ1_ok {Z : Br} {k : Nat} (ho : Z.ok) (hk : k < Z.np) : (ofZ1 Z k).ok :=
  Br.ok.setr (k := k) (j := 68) (ho.setI (k := k) hk 86 .i64 3 rfl (by decide)) hk (l := OZ) (by exact (by decide : 68 + 5 ≤ 89)) (fun i v hv c hc => by
    match i, hv with
    | 0, hv => cases hv; cases hc; exact ⟨0, rfl, by decide⟩
    | 1, hv => cases hv; cases hc; exact ⟨0, rfl, by decide⟩
    | 2, hv => cases hv; cases hc; exact ⟨0, rfl, by decide⟩
    | 3, hv => cases hv; cases hc; exact ⟨0, rfl, by decide⟩
    | 4, hv => cases hv; cases hc; exact ⟨0, rfl, by decide⟩
    | n + 5, hv => simp [OZ] at hv)
theorem ofZ_ok {Z : Br} {k : Nat} (ho : Z.ok) (hk : k < Z.np) : (ofZ Z k).ok := Br.ok.setI (k := k) (ofZ1_ok ho hk) hk 1 .u32 0 rfl (by decide)
theorem ofZ_other {Z : Br} {k n j : Nat} (h : k * 89 + 89 ≤ Z.ps.length) (hn : n ≠ k) (hj : j < 89) : (ofZ Z k).gi n j = Z.gi n j := by
  unfold ofZ
  rw [gi_setp_port _ _ (Ne.symm hn) (by decide) hj, ← pI_port hj, setr_eq (ofZ_l1 h) (by exact (by decide : 68 + 5 ≤ 89)),
    s_port_ne (by rw [setL_len (by rw [port_len (ofZ_l1 h)]; exact (by decide : 68 + 5 ≤ 89)), port_len (ofZ_l1 h)]) (ofZ_l1 h) hn, pI_port hj, gi_setp_port _ _ (Ne.symm hn) (by decide) hj]
theorem ofZ_1 {Z : Br} {k : Nat} (h : k * 89 + 89 ≤ Z.ps.length) : (ofZ Z k).gi k 1 = 0 := gi_setp_same _ _ _ _ _ (by have := ofZ_l2 h; omega)
theorem ofZ_in {Z : Br} {k j : Nat} (h : k * 89 + 89 ≤ Z.ps.length) (h1 : 68 ≤ j) (h2 : j < 73) : (ofZ Z k).gi k j = pI OZ (j - 68) := by
  unfold ofZ
  rw [gi_setp_ne _ _ _ _ _ (by omega), ← pI_port (by omega), port_setr (ofZ_l1 h) (by exact (by decide : 68 + 5 ≤ 89)), sI_setL_in (by rw [port_len (ofZ_l1 h)]; exact (by decide : 68 + 5 ≤ 89)) h1 (by exact (show j < 68 + 5 by omega))]
theorem ofZ_out {Z : Br} {k j : Nat} (h : k * 89 + 89 ≤ Z.ps.length) (h1 : j < 68 ∨ 73 ≤ j) (h2 : j ≠ 1) (hj : j < 89) : (ofZ Z k).gi k j = (Z.setp k 86 (.int .i64 3)).gi k j := by
  unfold ofZ
  rw [gi_setp_ne _ _ _ _ _ (by omega), ← pI_port hj, port_setr (ofZ_l1 h) (by exact (by decide : 68 + 5 ≤ 89)), sI_setL_out (by rw [port_len (ofZ_l1 h)]; exact (by decide : 68 + 5 ≤ 89)) (by exact (show j < 68 ∨ 68 + 5 ≤ j by omega)), pI_port hj]
theorem ofZ_86 {Z : Br} {k : Nat} (h : k * 89 + 89 ≤ Z.ps.length) : (ofZ Z k).gi k 86 = 3 := by
  rw [ofZ_out h (by decide) (by decide) (by decide), gi_setp_same _ _ _ _ _ (by omega)]
theorem ofZ_keep {Z : Br} {k n j : Nat} (h : k * 89 + 89 ≤ Z.ps.length) (h1 : j < 68 ∨ 73 ≤ j) (h2 : j ≠ 1) (h3 : j ≠ 86) (hj : j < 89) : (ofZ Z k).gi n j = Z.gi n j := by
  by_cases e : n = k
  · subst e
    rw [ofZ_out h h1 h2 hj, gi_setp_ne _ _ _ _ _ (Ne.symm h3)]
  · exact ofZ_other h e hj
theorem ofZ_43 {Z : Br} {k : Nat} (h : k * 89 + 89 ≤ Z.ps.length) : (ofZ Z k).gb k 43 = Z.gb k 43 := by
  unfold ofZ
  rw [gb_setp_ne _ _ _ _ _ (by decide), ← pB_port (by decide), port_setr (ofZ_l1 h) (by exact (by decide : 68 + 5 ≤ 89))]
  have e : pB (setL (Go.Proofs.Ythfoacgdkoijeaa.port (Z.setp k 86 (.int .i64 3)).ps k) 68 OZ) 43 = pB (Go.Proofs.Ythfoacgdkoijeaa.port (Z.setp k 86 (.int .i64 3)).ps k) 43 := by
    unfold pB
    rw [setL_at (by rw [port_len (ofZ_l1 h)]; exact (by decide : 68 + 5 ≤ 89)), if_neg (by decide)]
  rw [e, pB_port (by decide), gb_setp_ne _ _ _ _ _ (by decide)]
theorem ofZ_43a {Z : Br} {k n : Nat} (h : k * 89 + 89 ≤ Z.ps.length) : (ofZ Z k).gb n 43 = Z.gb n 43 := by
  by_cases e : n = k
  · subst e
    exact ofZ_43 h
  · unfold ofZ
    rw [gb_setp_port _ _ (Ne.symm e) (by decide) (by decide), ← pB_port (by decide), setr_eq (ofZ_l1 h) (by exact (by decide : 68 + 5 ≤ 89)),
      s_port_ne (by rw [setL_len (by rw [port_len (ofZ_l1 h)]; exact (by decide : 68 + 5 ≤ 89)), port_len (ofZ_l1 h)]) (ofZ_l1 h) e, pB_port (by decide), gb_setp_port _ _ (Ne.symm e) (by decide) (by decide)]
/-- The best is what port k offers. -/
theorem rootF_best {C : Br} {k : Nat} (hid : 1 ≤ C.hi 0) (hs : sameA 0 (C.hi 0) = false) (h86 : C.gi k 86 = 3) (h68 : C.gi k 68 = 0) (h69 : C.gi k 69 = 0) (h70 : C.gi k 70 = 0) (h71 : C.gi k 71 = 0) (h1 : C.gi k 1 = 0)
    (hoth : ∀ n, n < C.np → n ≠ k → 1 ≤ C.gi n 68) : ∀ n, n ≤ C.np → (if k < n then rootF C n = ⟨0, 0, 0, 0, C.gi k 0, k⟩ else 1 ≤ (rootF C n).r)
  | 0, _ => by
    rw [if_neg (by omega)]
    exact hid
  | n + 1, hn => by
    have ih := rootF_best hid hs h86 h68 h69 h70 h71 h1 hoth n (by omega)
    have ht : thr 0 0 = 0 := by decide
    by_cases e : n = k
    · subst e
      rw [if_neg (by omega)] at ih
      rw [if_pos (by omega)]
      have hof : offers C n = true := by
        unfold offers
        rw [h86, h70, hs]
        rfl
      have hlt : (rootF C n).lt (C.gi n 68) (thr (C.gi n 69) (C.gi n 1)) (C.gi n 70) (C.gi n 71) (C.gi n 0) = true := by
        unfold R5.lt
        rw [h68, h69, h70, h71, h1, ht]
        exact decide_eq_true ((c5_rg _ _ _ _ _ _ _ _ _ _).2.2.1.2 (.inl (by omega)))
      unfold rootF
      rw [hof, hlt, if_pos (by rfl), h68, h69, h70, h71, h1, ht]
    · have h6 := hoth n (by omega) e
      by_cases l : k < n
      · rw [if_pos l] at ih
        rw [if_pos (by omega)]
        have hlt : (rootF C n).lt (C.gi n 68) (thr (C.gi n 69) (C.gi n 1)) (C.gi n 70) (C.gi n 71) (C.gi n 0) = false := by
          unfold R5.lt
          rw [ih]
          refine decide_eq_false (fun hc => ?_)
          have := (c5_rg _ _ _ _ _ _ _ _ _ _).2.2.1.1 hc
          simp only at this
          omega
        unfold rootF
        rw [hlt, Bool.and_false, if_neg (by decide), ih]
      · rw [if_neg l] at ih
        rw [if_neg (by omega)]
        unfold rootF
        split
        · exact h6
        · exact ih
theorem offers_out {B Z Y : Br} {k : Nat} (ho : B.ok) (hk : k < B.np) (hid : B.hi 0 % 281474976710656 ≠ 0) (hZ : of3 B B.np = Z) (S : SelOut (ofZ Z k) Y) :
    Y.hi 7 = 0 ∧ Y.hi 8 = 0 ∧ Y.hi 12 = k ∧ Y.gi k 88 = 3 ∧ Y.gb k 50 = false := by
  subst hZ
  have okZ := of3_ok ho B.np (Nat.le_refl _)
  have npZ := of3_np B B.np
  have hkZ : k < (of3 B B.np).np := by omega
  have h := len89 okZ hkZ
  have okC := ofZ_ok okZ hkZ
  have hi0 : (ofZ (of3 B B.np) k).hi 0 = B.hi 0 := (ofZ_hi 0).trans (of3_hi B _ 0)
  have hw := wf_u64 (ho.hw 0 rfl)
  have hr := rootF_best (C := ofZ (of3 B B.np) k) (k := k) (by rw [hi0]; omega) (by rw [hi0]; unfold sameA; simp; omega) (ofZ_86 h) (ofZ_in h (by decide) (by decide)) (ofZ_in h (by decide) (by decide)) (ofZ_in h (by decide) (by decide)) (ofZ_in h (by decide) (by decide)) (ofZ_1 h)
    (fun n hn hne => by
      have hn2 : n < B.np := by rw [ofZ_np, npZ] at hn; exact hn
      rw [ofZ_other h hne (by decide), (of3_lt ho B.np (Nat.le_refl _) n hn2).1]
      exact of3V_rg _) (ofZ (of3 B B.np) k).np (Nat.le_refl _)
  rw [if_pos (by rw [ofZ_np]; exact hkZ)] at hr
  obtain ⟨r7, r8, -, -, -⟩ := S.root
  have r12 := S.at_
  rw [hr] at r7 r8 r12
  obtain ⟨L, hl, l86, -, l88, l50⟩ := so_role S okC (n := k) (by rw [ofZ_np]; exact hkZ)
  rw [ofZ_86 h] at l86
  obtain ⟨a, b⟩ := chL_rp (k := k) (rp := Y.hi 12) (id := Y.hi 0) hl l86 (by rw [r12])
  exact ⟨r7, r8, r12, l88.trans a, l50.trans b⟩

end Go.Proofs.Ythfoacgdkoijeaa
