/- The selection by the document: what it makes of a port, and that this is what the program makes of it. No statement is proved here. -/
import Derived.Test.YthfoacgdkoijeaaSelO
namespace Go.Proofs.Ythfoacgdkoijeaa
open Go.RowKit Go.BigFrame Go.WideShapes Go.ChangeShapes Go.Deep
set_option linter.unusedVariables false
set_option linter.unusedSimpArgs false

/-- A port with its flags set, and what it tells. -/
def dtlL (B : Br) (L : List Value) : List Value := setL (setL ((L.set 43 (.bool false)).set 44 (.bool true)) 73 [.int .u64 (B.hi 7), .int .u32 (B.hi 8), .int .u64 (B.hi 0), .int .u16 (pI L 0), .int .u16 0]) 82 [.int .i64 (B.hi 13), .int .i64 (B.hi 14), .int .i64 (B.hi 4), .int .i64 (B.hi 16)]
theorem tl_ext {A B : List Value} (ha : A.length = 89) (hb : B.length = 89) (h : ∀ j, j < 89 → A[j]? = B[j]?) : A = B := by
  apply List.ext_getElem?
  intro j
  by_cases hj : j < 89
  · exact h j hj
  · rw [List.getElem?_eq_none (by omega), List.getElem?_eq_none (by omega)]
theorem dtl_len {B : Br} {L : List Value} (hl : L.length = 89) : (dtlL B L).length = 89 := by
  unfold dtlL
  rw [setL_len (by rw [setL_len] <;> simp [hl]), setL_len (by simp [hl])]
  simp [hl]
theorem tell_len {B : Br} {L : List Value} (hl : L.length = 89) : (tellL B L).length = 89 := by
  unfold tellL
  rw [List.length_set, setL_len (by rw [setL_len] <;> simp [hl]), setL_len (by simp [hl])]
  exact hl
/-- The document's port is the program's, whose flags are set at its ends. -/
theorem dtl_tell {B : Br} {L : List Value} (hl : L.length = 89) : dtlL B L = (tellL B (L.set 43 (.bool false))).set 44 (.bool true) := by
  have hl2 : (L.set 43 (.bool false)).length = 89 := by rw [List.length_set]; exact hl
  refine tl_ext (dtl_len hl) (by rw [List.length_set]; exact tell_len hl2) fun j hj => ?_
  have e0 : pI (L.set 43 (.bool false)) 0 = pI L 0 := sI_set_ne (by decide)
  unfold dtlL tellL
  rw [e0]
  rw [setL_at (by rw [setL_len] <;> simp [hl]), setL_at (by simp [hl])]
  by_cases h44 : j = 44
  · subst h44
    rw [if_neg (fun h => absurd h.1 (by decide)), if_neg (fun h => absurd h.1 (by decide)), get_same (by simp [hl]) (by decide), get_same (by rw [List.length_set, setL_len (by rw [setL_len] <;> simp [hl]), setL_len (by simp [hl])]; simp [hl]) (by decide)]
  rw [get_ne (Ne.symm h44), get_ne (Ne.symm h44)]
  by_cases h84 : j = 84
  · subst h84
    rw [get_same (by rw [setL_len (by rw [setL_len] <;> simp [hl]), setL_len (by simp [hl])]; simp [hl]) (by decide), if_pos (⟨by decide, Nat.lt_of_lt_of_le (by decide : 84 < 86) (Nat.le_refl _)⟩ : 82 ≤ 84 ∧ 84 < 82 + [Value.int IntKind.i64 (B.hi 13), Value.int IntKind.i64 (B.hi 14), Value.int IntKind.i64 (B.hi 4), Value.int IntKind.i64 (B.hi 16)].length)]
    rfl
  rw [get_ne (Ne.symm h84), setL_at (by rw [setL_len] <;> simp [hl]), setL_at (by simp [hl])]
  simp only [List.length_cons, List.length_nil]
  by_cases h1 : 82 ≤ j ∧ j < 82 + (0 + 1 + 1 + 1 + 1)
  · rw [if_pos h1, if_pos h1]
    obtain ⟨a, b⟩ := h1
    rcases (show j = 82 ∨ j = 83 ∨ j = 85 by omega) with rfl | rfl | rfl <;> rfl
  · rw [if_neg h1, if_neg h1]
/-- What the document makes of a port. -/
def dstL (B : Br) (k : Nat) (L : List Value) : List Value := (chL k (B.hi 12) (B.hi 0) (tellL B (L.set 43 (.bool false)))).set 44 (.bool true)
theorem chL_set44 {k : Nat} {rp id : Int} {L : List Value} {v : Value} : (chL k rp id L).set 44 v = chL k rp id (L.set 44 v) := by
  have s : ∀ j, j ≠ 44 → pI (L.set 44 v) j = pI L j := fun j hj => sI_set_ne (Ne.symm hj)
  have e1 : smL (L.set 44 v) = smL L := by unfold smL; rw [s, s, s, s, s, s, s, s] <;> decide
  have e2 : teL (L.set 44 v) = teL L := by unfold teL; rw [s, s, s, s, s, s, s, s] <;> decide
  have e3 : lsL (L.set 44 v) = lsL L := by unfold lsL; rw [s, s, s, s, s, s, s, s] <;> decide
  have c1 : ∀ (M : List Value) (x : Value), (M.set 88 x).set 44 v = (M.set 44 v).set 88 x := fun M x => List.set_comm _ _ (by decide)
  have c2 : ∀ (M : List Value) (x : Value), (M.set 50 x).set 44 v = (M.set 44 v).set 50 x := fun M x => List.set_comm _ _ (by decide)
  have d : ∀ (a b : Bool) (M : List Value), (dsL a b M).set 44 v = dsL a b (M.set 44 v) := fun a b M => by
    unfold dsL
    cases a <;> cases b <;> simp only [c1, c2]
  unfold chL
  rw [e1, e2, e3, s 86 (by decide), s 70 (by decide)]
  (repeat' split) <;> simp only [c1, c2, d]
theorem dst_eq {B : Br} {k : Nat} {L : List Value} (hl : L.length = 89) : dstL B k L = chL k (B.hi 12) (B.hi 0) (dtlL B L) := by
  unfold dstL
  rw [chL_set44, ← dtl_tell hl]
/-! ### Less and same, the other way round -/
theorem c4_ls (L : List Value) : lsL L = decide (c4 (pI L 73) (pI L 74) (pI L 75) (pI L 76) (pI L 68) (pI L 69) (pI L 70) (pI L 71) < 0) := rfl
theorem c4_sm (L : List Value) : smL L = (c4 (pI L 73) (pI L 74) (pI L 75) (pI L 76) (pI L 68) (pI L 69) (pI L 70) (pI L 71) == 0) := by
  unfold smL
  have h1 := c4_rg (pI L 68) (pI L 69) (pI L 70) (pI L 71) (pI L 73) (pI L 74) (pI L 75) (pI L 76)
  have h2 := c4_rg (pI L 73) (pI L 74) (pI L 75) (pI L 76) (pI L 68) (pI L 69) (pI L 70) (pI L 71)
  by_cases h : c4 (pI L 68) (pI L 69) (pI L 70) (pI L 71) (pI L 73) (pI L 74) (pI L 75) (pI L 76) = 0
  · have h3 : c4 (pI L 73) (pI L 74) (pI L 75) (pI L 76) (pI L 68) (pI L 69) (pI L 70) (pI L 71) = 0 := by omega
    rw [h, h3]
  · have h3 : ¬ c4 (pI L 73) (pI L 74) (pI L 75) (pI L 76) (pI L 68) (pI L 69) (pI L 70) (pI L 71) = 0 := by omega
    rw [beq_eq_false_iff_ne.2 h, beq_eq_false_iff_ne.2 h3]
/-! ### All ports -/
def pdst (B : Br) : Nat → Br | 0 => B | n + 1 => (pdst B n).setPort n (dstL B n (port (pdst B n).ps n))
theorem pdst_np (B : Br) : ∀ n, (pdst B n).np = B.np | 0 => rfl | n + 1 => pdst_np B n
theorem pdst_hd (B : Br) : ∀ n, (pdst B n).hd = B.hd | 0 => rfl | n + 1 => pdst_hd B n
theorem dst_typed {B : Br} (ho : B.ok) {k : Nat} {L : List Value} (hT : Typed PL L) : Typed PL (dstL B k L) := tset_b (chL_typed (tellL_typed ho (tset_b hT 43 _ rfl))) 44 _ rfl
theorem pdst_ok {B : Br} (ho : B.ok) : ∀ n, n ≤ B.np → (pdst B n).ok
  | 0, _ => ho
  | n + 1, h => s_setPort_ok (pdst_ok ho n (by omega)) (by rw [pdst_np]; omega) (dst_typed ho (br_typed (pdst_ok ho n (by omega)) (by rw [pdst_np]; omega)))
theorem pdst_hi (B : Br) (n j : Nat) : (pdst B n).hi j = B.hi j := by unfold Br.hi; rw [pdst_hd]
theorem pdst_len {D : Br} (ho : D.ok) {n : Nat} (hn : n ≤ D.np) : (pdst D n).ps.length = D.ps.length := by
  have h1 := (pdst_ok ho n hn).len
  have h2 := ho.len
  rw [pdst_np] at h1
  omega
theorem pdst_port {D : Br} (ho : D.ok) : ∀ n, n ≤ D.np → ∀ k, k < D.np → port (pdst D n).ps k = if k < n then dstL D k (port D.ps k) else port D.ps k
  | 0, _, k, _ => by rw [if_neg (by omega)]; rfl
  | n + 1, hn, k, hk => by
    have ih := pdst_port ho n (by omega)
    have okn := pdst_ok ho n (by omega)
    have h89 := len89 okn (k := n) (by rw [pdst_np]; omega)
    have hl : (dstL D n (port (pdst D n).ps n)).length = 89 := tpL (dst_typed ho (br_typed okn (by rw [pdst_np]; omega)))
    show port ((pdst D n).setPort n (dstL D n (port (pdst D n).ps n))).ps k = _
    by_cases e : k = n
    · subst e
      rw [s_port_setPort hl h89, ih k hk, if_neg (by omega), if_pos (by omega)]
    · rw [s_port_ne hl h89 e, ih k hk]
      by_cases h : k < n
      · rw [if_pos h, if_pos (by omega)]
      · rw [if_neg h, if_neg (by omega)]
theorem br_ext {A B : Br} (h1 : A.hd = B.hd) (h2 : A.ps = B.ps) (h3 : A.os = B.os) (h4 : A.fl = B.fl) (h5 : A.np = B.np) (h6 : A.no = B.no) (h7 : A.nf = B.nf) : A = B := by
  obtain ⟨a1, a2, a3, a4, a5, a6, a7⟩ := A
  obtain ⟨b1, b2, b3, b4, b5, b6, b7⟩ := B
  dsimp only at *
  rw [h1, h2, h3, h4, h5, h6, h7]
theorem ps_ext {A B : Br} {n : Nat} (ha : A.ps.length = n * 89) (hb : B.ps.length = n * 89) (h : ∀ k, k < n → port A.ps k = port B.ps k) : A.ps = B.ps := by
  apply List.ext_getElem?
  intro j
  by_cases hj : j < n * 89
  · have hk : j / 89 < n := by omega
    have hm : j % 89 < 89 := Nat.mod_lt _ (by decide)
    have e : j = j / 89 * 89 + j % 89 := by omega
    have h2 : (port A.ps (j / 89))[j % 89]? = (port B.ps (j / 89))[j % 89]? := by rw [h _ hk]
    rw [port_at hm, port_at hm, ← e] at h2
    exact h2
  · rw [List.getElem?_eq_none (by omega), List.getElem?_eq_none (by omega)]
theorem noR_port {B : Br} (ho : B.ok) {k : Nat} (hk : k < B.np) : port (noR B B.np).ps k = (port B.ps k).set 43 (.bool false) := by
  have hl : (port B.ps k).length = 89 := tpL (br_typed ho hk)
  have hl2 : (port (noR B B.np).ps k).length = 89 := tpL (br_typed (noR_ok ho (Nat.le_refl _)) (by rw [show (noR B B.np).np = B.np from upd_np B 43 _ _]; exact hk))
  refine tl_ext hl2 (by rw [List.length_set]; exact hl) fun j hj => ?_
  rw [port_at hj, show (noR B B.np).ps[k * 89 + j]? = _ from upd_cell B (by decide) _ (by rw [ho.len]; exact Nat.le_refl _) hj]
  by_cases e : j = 43
  · subst e
    rw [if_pos ⟨rfl, hk⟩, get_same hl (by decide)]
  · rw [if_neg (fun h => e h.1), get_ne (Ne.symm e), port_at hj]
theorem noR_none {B : Br} (ho : B.ok) (h : anyR B B.np = false) : noR B B.np = B := by
  have hz : ∀ n, anyR B n = false → ∀ k, k < n → B.gb k 43 = false := by
    intro n
    induction n with
    | zero => intro _ k hk; omega
    | succ n ih =>
      intro h k hk
      have h2 : (anyR B n || B.gb n 43) = false := h
      rw [Bool.or_eq_false_iff] at h2
      by_cases e : k = n
      · subst e; exact h2.2
      · exact ih h2.1 k (by omega)
  obtain ⟨r1, r2, r3, r4⟩ := upd_rest B 43 (fun _ => .bool false) B.np
  refine br_ext (upd_hd B 43 _ _) ?_ r2 r4 (upd_np B 43 _ _) r1 r3
  refine ps_ext (n := B.np) (by rw [show (noR B B.np).ps.length = B.ps.length from upd_len B 43 _ _]; exact ho.len) ho.len fun k hk => ?_
  rw [noR_port ho hk]
  have h43 : (port B.ps k)[43]? = some (.bool false) := by rw [port_at (by decide), ho.gb hk 43 rfl, hz _ h k hk]
  exact (List.ext_getElem? fun j => by
    by_cases e : 43 = j
    · subst e; rw [List.getElem?_set_self (List.getElem?_eq_some_iff.1 h43).1, h43]
    · rw [List.getElem?_set_ne e])
theorem stL_congr {D E : Br} (h : ∀ j, E.hi j = D.hi j) (k : Nat) (L : List Value) : stL E k L = stL D k L := by
  unfold stL
  rw [tellL_congr h, h, h]
theorem setPort_rest (B : Br) (k : Nat) (l : List Value) : (B.setPort k l).no = B.no ∧ (B.setPort k l).os = B.os ∧ (B.setPort k l).nf = B.nf ∧ (B.setPort k l).fl = B.fl := ⟨rfl, rfl, rfl, rfl⟩
theorem psel_rest (B : Br) : ∀ n, (psel B n).no = B.no ∧ (psel B n).os = B.os ∧ (psel B n).nf = B.nf ∧ (psel B n).fl = B.fl | 0 => ⟨rfl, rfl, rfl, rfl⟩ | n + 1 => psel_rest B n
theorem pdst_rest (B : Br) : ∀ n, (pdst B n).no = B.no ∧ (pdst B n).os = B.os ∧ (pdst B n).nf = B.nf ∧ (pdst B n).fl = B.fl | 0 => ⟨rfl, rfl, rfl, rfl⟩ | n + 1 => pdst_rest B n
theorem selB2_hd {B : Br} (ho : B.ok) : (selB2 (noR B B.np)).hd = (selB2 B).hd := by
  have e : selV (noR B B.np) = selV B := by unfold selV; rw [show (noR B B.np).np = B.np from upd_np B 43 _ _]; exact rootF_noR ho _
  have h1 : (selB1 (noR B B.np)).hd = (selB1 B).hd := by
    show setL (setL (noR B B.np).hd 7 (selV (noR B B.np)).cells.toList) 12 [.int .i64 (selV (noR B B.np)).at_] = _
    rw [e, show (noR B B.np).hd = B.hd from upd_hd B 43 _ _]
    rfl
  have h2 : rtL (selB1 (noR B B.np)) (selV B).at_ = rtL (selB1 B) (selV B).at_ := by
    have hh : ∀ j, (selB1 (noR B B.np)).hi j = (selB1 B).hi j := fun j => by unfold Br.hi; rw [h1]
    have hg : ∀ k j, j < 89 → j ≠ 43 → (selB1 (noR B B.np)).gi k j = (selB1 B).gi k j := fun k j hj hne => noR_gi ho hj hne
    unfold rtL
    rw [hh, hh, hh, hh, hg _ _ (by decide) (by decide), hg _ _ (by decide) (by decide), hg _ _ (by decide) (by decide), hg _ _ (by decide) (by decide)]
  show setL (selB1 (noR B B.np)).hd 13 (rtL (selB1 (noR B B.np)) (selV (noR B B.np)).at_) = setL (selB1 B).hd 13 (rtL (selB1 B) (selV B).at_)
  rw [e, h1, h2]
/-- What the document leaves is what the program leaves. -/
theorem pdst_psel {B : Br} (ho : B.ok) (ok2 : (selB2 B).ok) (okN : (selB2 (noR B B.np)).ok) : pdst (selB2 B) B.np = psel (selB2 (noR B B.np)) B.np := by
  have hnN : (noR B B.np).np = B.np := upd_np B 43 _ _
  obtain ⟨p1, p2, p3, p4⟩ := pdst_rest (selB2 B) B.np
  obtain ⟨q1, q2, q3, q4⟩ := psel_rest (selB2 (noR B B.np)) B.np
  obtain ⟨r1, r2, r3, r4⟩ := upd_rest B 43 (fun _ => .bool false) B.np
  have np1 : (pdst (selB2 B) B.np).np = B.np := pdst_np _ _
  have np2 : (psel (selB2 (noR B B.np)) B.np).np = B.np := (psel_np _ _).trans hnN
  refine br_ext (by rw [pdst_hd, psel_hd, selB2_hd ho]) ?_ (p2.trans (r2.symm.trans q2.symm)) (p4.trans (r4.symm.trans q4.symm)) (np1.trans np2.symm) (p1.trans (r1.symm.trans q1.symm)) (p3.trans (r3.symm.trans q3.symm))
  have l1 := (pdst_ok ok2 B.np (Nat.le_refl _)).len
  have l2 := (psel_ok okN B.np (by rw [show (selB2 (noR B B.np)).np = B.np from hnN]; exact Nat.le_refl _)).len
  rw [np1] at l1
  rw [np2] at l2
  refine ps_ext (n := B.np) l1 l2 fun k hk => ?_
  rw [pdst_port ok2 B.np (Nat.le_refl _) k hk, psel_port okN B.np (by rw [show (selB2 (noR B B.np)).np = B.np from hnN]; exact Nat.le_refl _) k (by rw [show (selB2 (noR B B.np)).np = B.np from hnN]; exact hk), if_pos hk, if_pos hk]
  rw [show (selB2 (noR B B.np)).ps = (noR B B.np).ps from rfl, noR_port ho hk]
  rw [stL_congr (D := selB2 B) (fun j => by unfold Br.hi; rw [selB2_hd ho])]
  rfl
end Go.Proofs.Ythfoacgdkoijeaa
