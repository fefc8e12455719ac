/- The laws of the selection: what they set at all ports; which role a port gets. No statement is proved here. -/
import Derived.Test.YthfoacgdkoijeaaSelP
namespace Go.Proofs.Ythfoacgdkoijeaa
open Go.RowKit Go.BigFrame Go.WideShapes Go.ChangeShapes Go.Deep
set_option linter.unusedVariables false
set_option linter.unusedSimpArgs false

theorem wf_i64_of {z : Int} (h : -9223372036854775808 ≤ z ∧ z < 9223372036854775808) : (Lit.int .i64 z).wf = true := by
  simp [Lit.wf, IntKind.min, IntKind.max, IntKind.signed, IntKind.bits]
  omega

def al3V (z : Int) : Int := if 0 < (if z < 2 then z else 2) then (if z < 2 then z else 2) else 0
theorem al3V_rg (z : Int) : al3V z = 0 ∨ al3V z = 1 ∨ al3V z = 2 := by unfold al3V; split <;> split <;> omega
def al3 (B : Br) : Nat → Br
  | 0 => B
  | n + 1 => ((al3 B n).setp n 86 (.int .i64 (al3V ((al3 B n).gi n 86)))).setp n 43 (.bool true)
theorem al3_np (B : Br) : ∀ n, (al3 B n).np = B.np
  | 0 => rfl
  | n + 1 => al3_np B n
theorem al3_hd (B : Br) : ∀ n, (al3 B n).hd = B.hd
  | 0 => rfl
  | n + 1 => al3_hd B n
theorem al3_hi (B : Br) (n j : Nat) : (al3 B n).hi j = B.hi j := by unfold Br.hi; rw [al3_hd]
theorem al3_len (B : Br) : ∀ n, (al3 B n).ps.length = B.ps.length
  | 0 => rfl
  | n + 1 => by simp only [al3, len_setp]; exact al3_len B n
theorem al3_ok {B : Br} (ho : B.ok) : ∀ n, n ≤ B.np → (al3 B n).ok
  | 0, _ => ho
  | n + 1, h => by
    have ih := al3_ok ho n (by omega)
    have hk : n < (al3 B n).np := by rw [al3_np]; omega
    exact ((ih.setI (k := n) hk 86 .i64 _ rfl (wf_i64_of (by have := al3V_rg ((al3 B n).gi n 86); omega))).setB (k := n) hk 43 true rfl)
theorem al3_gi (B : Br) {j : Nat} (h1 : j < 89) (h2 : j ≠ 86) (h3 : j ≠ 43) : ∀ n k, (al3 B n).gi k j = B.gi k j
  | 0, _ => rfl
  | n + 1, k => by
    have ih := al3_gi B h1 h2 h3 n k
    unfold al3
    by_cases e : n = k
    · subst e
      rw [gi_setp_ne _ _ _ _ _ (Ne.symm h3), gi_setp_ne _ _ _ _ _ (Ne.symm h2)]
      exact ih
    · rw [gi_setp_port _ _ e (by decide) h1, gi_setp_port _ _ e (by decide) h1]
      exact ih
theorem al3_ge (B : Br) : ∀ n k, n ≤ k → (al3 B n).gi k 86 = B.gi k 86
  | 0, _, _ => rfl
  | n + 1, k, h => by
    have ih := al3_ge B n k (by omega)
    have h1 : 86 < 89 := by decide
    have e : n ≠ k := by omega
    unfold al3
    rw [gi_setp_port _ _ e (by decide) h1, gi_setp_port _ _ e (by decide) h1]
    exact ih
theorem al3_lt {B : Br} (ho : B.ok) : ∀ n, n ≤ B.np → ∀ k, k < n → (al3 B n).gi k 86 = al3V (B.gi k 86) ∧ (al3 B n).gb k 43 = true
  | 0, _, k, hk => by omega
  | n + 1, h, k, hk => by
    have hl : n * 89 + 89 ≤ (al3 B n).ps.length := by rw [al3_len, ho.len]; omega
    have h0 := al3_ge B n n (Nat.le_refl n)
    unfold al3
    by_cases e : n = k
    · subst e
      refine ⟨?_, gb_setp_same _ _ _ _ (by simp only [len_setp]; omega)⟩
      rw [gi_setp_ne _ _ _ _ _ (by decide), gi_setp_same _ _ _ _ _ (by omega), h0]
    · have ih := al3_lt ho n (by omega) k (by omega)
      refine ⟨?_, ?_⟩
      · rw [gi_setp_port _ _ e (by decide) (by decide), gi_setp_port _ _ e (by decide) (by decide)]
        exact ih.1
      · rw [gb_setp_port _ _ e (by decide) (by decide), gb_setp_port _ _ e (by decide) (by decide)]
        exact ih.2

def be3V (z : Int) : Int := if 0 < (if z < 3 then z else 3) then (if z < 3 then z else 3) else 0
theorem be3V_rg (z : Int) : be3V z = 0 ∨ be3V z = 1 ∨ be3V z = 2 ∨ be3V z = 3 := by unfold be3V; split <;> split <;> omega
def be3 (B : Br) : Nat → Br
  | 0 => B
  | n + 1 => ((be3 B n).setp n 86 (.int .i64 (be3V ((be3 B n).gi n 86))))
theorem be3_np (B : Br) : ∀ n, (be3 B n).np = B.np
  | 0 => rfl
  | n + 1 => be3_np B n
theorem be3_hd (B : Br) : ∀ n, (be3 B n).hd = B.hd
  | 0 => rfl
  | n + 1 => be3_hd B n
theorem be3_hi (B : Br) (n j : Nat) : (be3 B n).hi j = B.hi j := by unfold Br.hi; rw [be3_hd]
theorem be3_len (B : Br) : ∀ n, (be3 B n).ps.length = B.ps.length
  | 0 => rfl
  | n + 1 => by simp only [be3, len_setp]; exact be3_len B n
theorem be3_ok {B : Br} (ho : B.ok) : ∀ n, n ≤ B.np → (be3 B n).ok
  | 0, _ => ho
  | n + 1, h => by
    have ih := be3_ok ho n (by omega)
    have hk : n < (be3 B n).np := by rw [be3_np]; omega
    exact ih.setI (k := n) hk 86 .i64 _ rfl (wf_i64_of (by have := be3V_rg ((be3 B n).gi n 86); omega))
theorem be3_gi (B : Br) {j : Nat} (h1 : j < 89) (h2 : j ≠ 86) (h3 : j ≠ 43) : ∀ n k, (be3 B n).gi k j = B.gi k j
  | 0, _ => rfl
  | n + 1, k => by
    have ih := be3_gi B h1 h2 h3 n k
    unfold be3
    by_cases e : n = k
    · subst e
      rw [gi_setp_ne _ _ _ _ _ (Ne.symm h2)]
      exact ih
    · rw [gi_setp_port _ _ e (by decide) h1]
      exact ih
theorem be3_ge (B : Br) : ∀ n k, n ≤ k → (be3 B n).gi k 86 = B.gi k 86
  | 0, _, _ => rfl
  | n + 1, k, h => by
    have ih := be3_ge B n k (by omega)
    have h1 : 86 < 89 := by decide
    have e : n ≠ k := by omega
    unfold be3
    rw [gi_setp_port _ _ e (by decide) h1]
    exact ih
theorem be3_lt {B : Br} (ho : B.ok) : ∀ n, n ≤ B.np → ∀ k, k < n → (be3 B n).gi k 86 = be3V (B.gi k 86)
  | 0, _, k, hk => by omega
  | n + 1, h, k, hk => by
    have hl : n * 89 + 89 ≤ (be3 B n).ps.length := by rw [be3_len, ho.len]; omega
    have h0 := be3_ge B n n (Nat.le_refl n)
    unfold be3
    by_cases e : n = k
    · subst e
      rw [gi_setp_same _ _ _ _ _ (by omega), h0]
    · have ih := be3_lt ho n (by omega) k (by omega)
      rw [gi_setp_port _ _ e (by decide) (by decide)]
      exact ih

def of3V (z : Int) : Int := if 1 < z then z else 1
theorem of3V_rg (z : Int) : 1 ≤ of3V z := by unfold of3V; split <;> omega
theorem of3V_wf {z : Int} (h : (Lit.int .u64 z).wf = true) : (Lit.int .u64 (of3V z)).wf = true := by
  unfold of3V
  split
  · exact h
  · decide
def of3 (B : Br) : Nat → Br
  | 0 => B
  | n + 1 => ((of3 B n).setp n 68 (.int .u64 (of3V ((of3 B n).gi n 68)))).setp n 43 (.bool true)
theorem of3_np (B : Br) : ∀ n, (of3 B n).np = B.np
  | 0 => rfl
  | n + 1 => of3_np B n
theorem of3_hd (B : Br) : ∀ n, (of3 B n).hd = B.hd
  | 0 => rfl
  | n + 1 => of3_hd B n
theorem of3_hi (B : Br) (n j : Nat) : (of3 B n).hi j = B.hi j := by unfold Br.hi; rw [of3_hd]
theorem of3_len (B : Br) : ∀ n, (of3 B n).ps.length = B.ps.length
  | 0 => rfl
  | n + 1 => by simp only [of3, len_setp]; exact of3_len B n
theorem of3_ok {B : Br} (ho : B.ok) : ∀ n, n ≤ B.np → (of3 B n).ok
  | 0, _ => ho
  | n + 1, h => by
    have ih := of3_ok ho n (by omega)
    have hk : n < (of3 B n).np := by rw [of3_np]; omega
    exact ((ih.setI (k := n) hk 68 .u64 _ rfl (of3V_wf (ih.gw hk 68 rfl))).setB (k := n) hk 43 true rfl)
theorem of3_gi (B : Br) {j : Nat} (h1 : j < 89) (h2 : j ≠ 68) (h3 : j ≠ 43) : ∀ n k, (of3 B n).gi k j = B.gi k j
  | 0, _ => rfl
  | n + 1, k => by
    have ih := of3_gi B h1 h2 h3 n k
    unfold of3
    by_cases e : n = k
    · subst e
      rw [gi_setp_ne _ _ _ _ _ (Ne.symm h3), gi_setp_ne _ _ _ _ _ (Ne.symm h2)]
      exact ih
    · rw [gi_setp_port _ _ e (by decide) h1, gi_setp_port _ _ e (by decide) h1]
      exact ih
theorem of3_ge (B : Br) : ∀ n k, n ≤ k → (of3 B n).gi k 68 = B.gi k 68
  | 0, _, _ => rfl
  | n + 1, k, h => by
    have ih := of3_ge B n k (by omega)
    have h1 : 68 < 89 := by decide
    have e : n ≠ k := by omega
    unfold of3
    rw [gi_setp_port _ _ e (by decide) h1, gi_setp_port _ _ e (by decide) h1]
    exact ih
theorem of3_lt {B : Br} (ho : B.ok) : ∀ n, n ≤ B.np → ∀ k, k < n → (of3 B n).gi k 68 = of3V (B.gi k 68) ∧ (of3 B n).gb k 43 = true
  | 0, _, k, hk => by omega
  | n + 1, h, k, hk => by
    have hl : n * 89 + 89 ≤ (of3 B n).ps.length := by rw [of3_len, ho.len]; omega
    have h0 := of3_ge B n n (Nat.le_refl n)
    unfold of3
    by_cases e : n = k
    · subst e
      refine ⟨?_, gb_setp_same _ _ _ _ (by simp only [len_setp]; omega)⟩
      rw [gi_setp_ne _ _ _ _ _ (by decide), gi_setp_same _ _ _ _ _ (by omega), h0]
    · have ih := of3_lt ho n (by omega) k (by omega)
      refine ⟨?_, ?_⟩
      · rw [gi_setp_port _ _ e (by decide) (by decide), gi_setp_port _ _ e (by decide) (by decide)]
        exact ih.1
      · rw [gb_setp_port _ _ e (by decide) (by decide), gb_setp_port _ _ e (by decide) (by decide)]
        exact ih.2


/-! ### Which role -/
theorem chL_0 {k : Nat} {rp id : Int} {L : List Value} (hl : L.length = 89) (h : pI L 86 = 0) : pI (chL k rp id L) 88 = 0 := by
  unfold chL
  rw [if_pos h, sI_set_same (by omega)]
theorem dsL_88 {a b : Bool} {M : List Value} (hl : M.length = 89) : pI (dsL a b M) 88 = 4 := by
  cases a <;> cases b <;> simp only [dsL] <;> (try rw [sI_set_ne (by decide)]) <;> rw [sI_set_same (by omega)]
theorem chL_12 {k : Nat} {rp id : Int} {L : List Value} (hl : L.length = 89) (h : pI L 86 = 1 ∨ pI L 86 = 2) : pI (chL k rp id L) 88 = 4 := by
  unfold chL
  rw [if_neg (by omega), if_neg (by omega)]
  rcases h with h | h
  · rw [if_pos h, dsL_88 (by rw [List.length_set]; exact hl)]
  · rw [if_neg (by omega), if_pos h, dsL_88 hl]
theorem chL_rp {k : Nat} {rp id : Int} {L : List Value} (hl : L.length = 89) (h : pI L 86 = 3) (hr : (k : Int) = rp) : pI (chL k rp id L) 88 = 3 ∧ pB (chL k rp id L) 50 = false := by
  have hb : ((k : Int) == rp) = true := by simpa using hr
  unfold chL roleF
  rw [if_neg (by omega), if_pos h, hb, if_pos (by simp), if_pos rfl]
  refine ⟨?_, sB_set_same (by rw [List.length_set]; omega)⟩
  rw [sI_set_ne (by decide), sI_set_same (by omega)]
theorem chL_nr {k : Nat} {rp id : Int} {L : List Value} (hl : L.length = 89) (h : pI L 86 = 3) (hr : (k : Int) ≠ rp) : pI (chL k rp id L) 88 ≠ 3 := by
  have hb : ((k : Int) == rp) = false := by simpa using hr
  unfold chL roleF
  rw [if_neg (by omega), if_pos h, hb]
  split
  · rw [sI_set_ne (by decide), sI_set_same (by omega), if_neg (by decide)]
    split <;> decide
  · rw [dsL_88 (by rw [List.length_set]; exact hl)]
    decide
theorem so_role {B Y : Br} (S : SelOut B Y) (ho : B.ok) {n : Nat} (hn : n < B.np) : ∃ L, L.length = 89 ∧ pI L 86 = B.gi n 86 ∧ pI L 70 = B.gi n 70 ∧ Y.gi n 88 = pI (chL n (Y.hi 12) (Y.hi 0) L) 88 ∧ Y.gb n 50 = pB (chL n (Y.hi 12) (Y.hi 0) L) 50 := by
  have hT := br_typed (noR_ok ho (Nat.le_refl _)) (k := n) (by rw [show (noR B B.np).np = B.np from upd_np B 43 _ _]; exact hn)
  refine ⟨tellL Y (Go.Proofs.Ythfoacgdkoijeaa.port (noR B B.np).ps n), ?_, ?_, ?_, ?_, ?_⟩
  · unfold tellL
    rw [List.length_set, setL_len (by rw [setL_len (by rw [tpL hT]; exact (by decide : 73 + 5 ≤ 89)), tpL hT]; exact (by decide : 82 + 4 ≤ 89)), setL_len (by rw [tpL hT]; exact (by decide : 73 + 5 ≤ 89)), tpL hT]
  · rw [tellL_out (tpL hT) (by decide), pI_port (by decide), noR_gi ho (by decide) (by decide)]
  · rw [tellL_out (tpL hT) (by decide), pI_port (by decide), noR_gi ho (by decide) (by decide)]
  · rw [← pI_port (by decide), S.port n hn]
    exact sI_set_ne (by decide)
  · rw [← pB_port (by decide), S.port n hn]
    exact sB_set_ne (by decide)
theorem rootF_none (Z : Br) : ∀ n, (∀ k, k < n → Z.gi k 86 ≠ 3) → rootF Z n = ⟨Z.hi 0, 0, Z.hi 0, 0, 0, -1⟩
  | 0, _ => rfl
  | n + 1, h => by
    have ih := rootF_none Z n (fun k hk => h k (by omega))
    have hb : offers Z n = false := by
      unfold offers
      rw [show (Z.gi n 86 == 3) = false by simpa using h n (by omega)]
      rfl
    unfold rootF
    rw [hb, Bool.false_and, if_neg (by decide), ih]
/-- A bridge that heard nothing. -/
structure AloneOut (B Y : Br) : Prop where
  h7 : Y.hi 7 = B.hi 0
  h8 : Y.hi 8 = 0
  h9 : Y.hi 9 = B.hi 0
  h10 : Y.hi 10 = 0
  h11 : Y.hi 11 = 0
  h12 : Y.hi 12 = -1
  h13 : Y.hi 13 = B.hi 2
  h14 : Y.hi 14 = B.hi 3
  h15 : Y.hi 15 = B.hi 4
  h16 : Y.hi 16 = B.hi 5
  role : ∀ n, n < B.np → Y.gi n 88 = if Y.gi n 86 = 0 then 0 else 4
theorem alone_out {B Z Y : Br} (ho : B.ok) (hZ : al3 B B.np = Z) (S : SelOut Z Y) : AloneOut B Y := by
  subst hZ
  have okZ := al3_ok ho B.np (Nat.le_refl _)
  have npZ := al3_np B B.np
  have h86 : ∀ k, k < B.np → (al3 B B.np).gi k 86 = 0 ∨ (al3 B B.np).gi k 86 = 1 ∨ (al3 B B.np).gi k 86 = 2 := fun k hk => by
    rw [(al3_lt ho B.np (Nat.le_refl _) k hk).1]
    exact al3V_rg _
  have hr := rootF_none (al3 B B.np) (al3 B B.np).np (fun k hk => by have := h86 k (by omega); omega)
  obtain ⟨r7, r8, r9, r10, r11⟩ := S.root
  have r12 := S.at_
  rw [hr] at r7 r8 r9 r10 r11 r12
  simp only [al3_hi] at r7 r8 r9 r10 r11 r12
  have ht := S.times
  simp only [al3_hi] at ht
  rcases ht with ⟨e12, e13, e14, e15, e16⟩ | ⟨k, _, e12, _⟩
  · refine ⟨r7, r8, r9, r10, r11, r12, e13, e14, e15, e16, fun n hn => ?_⟩
    obtain ⟨L, hl, l86, -, l88, -⟩ := so_role S okZ (n := n) (by omega)
    have k86 : Y.gi n 86 = (al3 B B.np).gi n 86 := so_keep S okZ (by omega) (by decide) (by decide) (by decide) (by decide)
    rw [k86, l88]
    rcases h86 n hn with h | h | h
    · rw [if_pos h, chL_0 hl (by omega)]
    · rw [if_neg (by omega), chL_12 hl (by omega)]
    · rw [if_neg (by omega), chL_12 hl (by omega)]
  · omega

end Go.Proofs.Ythfoacgdkoijeaa
