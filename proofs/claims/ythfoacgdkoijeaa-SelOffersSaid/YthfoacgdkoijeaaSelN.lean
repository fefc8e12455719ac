/- The selection: the head behind it; on what the best depends. No statement is proved here. -/
import Derived.Test.YthfoacgdkoijeaaSelM
namespace Go.Proofs.Ythfoacgdkoijeaa
open Go.RowKit Go.BigFrame Go.WideShapes Go.ChangeShapes Go.Deep
set_option linter.unusedVariables false
set_option linter.unusedSimpArgs false

theorem rootF_congr {B C : Br} (h0 : C.hi 0 = B.hi 0) : ∀ n, (∀ k, k < n → C.gi k 0 = B.gi k 0 ∧ C.gi k 1 = B.gi k 1 ∧ C.gi k 68 = B.gi k 68 ∧ C.gi k 69 = B.gi k 69 ∧ C.gi k 70 = B.gi k 70 ∧ C.gi k 71 = B.gi k 71 ∧ C.gi k 86 = B.gi k 86) → rootF C n = rootF B n
  | 0, _ => by unfold rootF; rw [h0]
  | n + 1, h => by
    have ih := rootF_congr h0 n (fun k hk => h k (by omega))
    obtain ⟨a0, a1, a68, a69, a70, a71, a86⟩ := h n (by omega)
    unfold rootF offers
    rw [ih, a0, a1, a68, a69, a70, a71, a86, h0]
theorem rootF_noR {B : Br} (ho : B.ok) (n : Nat) : rootF (noR B B.np) n = rootF B n :=
  rootF_congr (show Br.hi (noR B B.np) 0 = B.hi 0 by unfold Br.hi; rw [show (noR B B.np).hd = B.hd from upd_hd B 43 _ _]) n (fun k _ => ⟨noR_gi ho (by decide) (by decide), noR_gi ho (by decide) (by decide), noR_gi ho (by decide) (by decide), noR_gi ho (by decide) (by decide), noR_gi ho (by decide) (by decide), noR_gi ho (by decide) (by decide), noR_gi ho (by decide) (by decide)⟩)
theorem sethr_len {B : Br} (hl : B.hd.length = 17) {j : Nat} {vs : List Value} (hj : j + vs.length ≤ 17) : (B.sethr j vs).hd.length = 17 := by
  show (setL B.hd j vs).length = 17
  rw [setL_len (by omega), hl]
theorem selB1_len {C : Br} (ho : C.ok) : (selB1 C).hd.length = 17 := sethr_len (sethr_len ho.hd.1 (by exact (by decide : 7 + 5 ≤ 17))) (by exact (by decide : 12 + 1 ≤ 17))
theorem rtL_len (B : Br) (a : Int) : (rtL B a).length = 4 := by unfold rtL; split <;> rfl
/-- What the head says behind the selection. -/
theorem selB2_lo {C : Br} (ho : C.ok) {j : Nat} (hj : j < 7) : (selB2 C).hi j = C.hi j := by
  unfold selB2
  rw [hi_sethr_out (selB1_len ho) (by rw [rtL_len]; decide) (by omega)]
  unfold selB1
  rw [hi_sethr_out (sethr_len ho.hd.1 (by exact (by decide : 7 + 5 ≤ 17))) (by exact (by decide : 12 + 1 ≤ 17)) (by omega), hi_sethr_out ho.hd.1 (by exact (by decide : 7 + 5 ≤ 17)) (by omega)]
theorem selB2_root {C : Br} (ho : C.ok) : (selB2 C).hi 7 = (selV C).r ∧ (selB2 C).hi 8 = (selV C).c ∧ (selB2 C).hi 9 = (selV C).b ∧ (selB2 C).hi 10 = (selV C).p ∧ (selB2 C).hi 11 = (selV C).x := by
  have g : ∀ j, 7 ≤ j → j < 12 → (selB2 C).hi j = pI (selV C).cells.toList (j - 7) := fun j h1 h2 => by
    unfold selB2
    rw [hi_sethr_out (selB1_len ho) (by rw [rtL_len]; decide) (by omega)]
    unfold selB1
    rw [hi_sethr_out (sethr_len ho.hd.1 (by exact (by decide : 7 + 5 ≤ 17))) (by exact (by decide : 12 + 1 ≤ 17)) (by omega), hi_sethr_in ho.hd.1 (by exact (by decide : 7 + 5 ≤ 17)) h1 (by exact (show j < 7 + 5 by omega))]
  exact ⟨g 7 (by decide) (by decide), g 8 (by decide) (by decide), g 9 (by decide) (by decide), g 10 (by decide) (by decide), g 11 (by decide) (by decide)⟩
theorem selB2_at {C : Br} (ho : C.ok) : (selB2 C).hi 12 = (selV C).at_ := by
  unfold selB2
  rw [hi_sethr_out (selB1_len ho) (by rw [rtL_len]; decide) (by omega)]
  exact selB1_12 ho
theorem selB2_times {C : Br} (ho : C.ok) {i : Nat} (hi : i < 4) : (selB2 C).hi (13 + i) = pI (rtL (selB1 C) (selV C).at_) i := by
  unfold selB2
  rw [hi_sethr_in (selB1_len ho) (by rw [rtL_len]; decide) (by omega) (by rw [rtL_len]; omega)]
  congr 1; omega
theorem selB1_lo {C : Br} (ho : C.ok) {j : Nat} (hj : j < 7) : (selB1 C).hi j = C.hi j := by
  unfold selB1
  rw [hi_sethr_out (sethr_len ho.hd.1 (by exact (by decide : 7 + 5 ≤ 17))) (by exact (by decide : 12 + 1 ≤ 17)) (by omega), hi_sethr_out ho.hd.1 (by exact (by decide : 7 + 5 ≤ 17)) (by omega)]
theorem selB2_gi (C : Br) (k j : Nat) : (selB2 C).gi k j = C.gi k j := rfl
theorem selB1_gi (C : Br) (k j : Nat) : (selB1 C).gi k j = C.gi k j := rfl
theorem selB2_ps (C : Br) : (selB2 C).ps = C.ps := rfl

end Go.Proofs.Ythfoacgdkoijeaa
