/- The receive machine by itself: it ends. No statement is proved here. -/
import Derived.Test.YtpieamfpgfabgaaRxM
namespace Go.Proofs.Ytpieamfpgfabgaa
open Go.RowKit Go.BigFrame Go.WideShapes Go.ChangeShapes Go.Deep
set_option linter.unusedVariables false

theorem rxDisc_2 (B : Br) (k : Nat) (h : k * 89 + 89 ≤ B.ps.length) : (rxDisc B k).gb k 2 = B.gb k 2 := by (unfold rxDisc; rw [gb_setp_ne _ _ _ _ _ (by decide), gb_setp_ne _ _ _ _ _ (by decide), gb_setp_ne _ _ _ _ _ (by decide), gb_setp_ne _ _ _ _ _ (by decide), gb_setp_ne _ _ _ _ _ (by decide), gb_setp_ne _ _ _ _ _ (by decide)])
theorem rxDisc_35 (B : Br) (k : Nat) (h : k * 89 + 89 ≤ B.ps.length) : (rxDisc B k).gb k 35 = false := by (unfold rxDisc; rw [gb_setp_ne _ _ _ _ _ (by decide), gb_setp_ne _ _ _ _ _ (by decide), gb_setp_ne _ _ _ _ _ (by decide), gb_setp_ne _ _ _ _ _ (by decide), gb_setp_ne _ _ _ _ _ (by decide), gb_setp_same _ _ _ _ (by omega)])
theorem rxDisc_36 (B : Br) (k : Nat) (h : k * 89 + 89 ≤ B.ps.length) : (rxDisc B k).gb k 36 = false := by (unfold rxDisc; rw [gb_setp_ne _ _ _ _ _ (by decide), gb_setp_ne _ _ _ _ _ (by decide), gb_setp_same _ _ _ _ (by simp only [len_setp]; omega)])
theorem rxDisc_6 (B : Br) (k : Nat) (h : k * 89 + 89 ≤ B.ps.length) : (rxDisc B k).gi k 6 = 3 := by (unfold rxDisc; rw [gi_setp_ne _ _ _ _ _ (by decide), gi_setp_same _ _ _ _ _ (by simp only [len_setp]; omega)])
theorem rxDisc_15 (B : Br) (k : Nat) (h : k * 89 + 89 ≤ B.ps.length) : (rxDisc B k).gi k 15 = 0 := by (unfold rxDisc; rw [gi_setp_same _ _ _ _ _ (by simp only [len_setp]; omega)])
theorem rxRcvR_2 (B : Br) (k : Nat) (h : k * 89 + 89 ≤ B.ps.length) : (rxRcvR B k).gb k 2 = B.gb k 2 := by (unfold rxRcvR; rw [gb_setp_ne _ _ _ _ _ (by decide), gb_setp_ne _ _ _ _ _ (by decide), gb_setp_ne _ _ _ _ _ (by decide), gb_setp_ne _ _ _ _ _ (by decide), gb_setp_ne _ _ _ _ _ (by decide), gb_setp_ne _ _ _ _ _ (by decide)])
theorem rxRcvR_35 (B : Br) (k : Nat) (h : k * 89 + 89 ≤ B.ps.length) : (rxRcvR B k).gb k 35 = false := by (unfold rxRcvR; rw [gb_setp_ne _ _ _ _ _ (by decide), gb_setp_ne _ _ _ _ _ (by decide), gb_setp_ne _ _ _ _ _ (by decide), gb_setp_same _ _ _ _ (by simp only [len_setp]; omega)])
theorem rxRcvR_36 (B : Br) (k : Nat) (h : k * 89 + 89 ≤ B.ps.length) : (rxRcvR B k).gb k 36 = true := by (unfold rxRcvR; rw [gb_setp_ne _ _ _ _ _ (by decide), gb_setp_ne _ _ _ _ _ (by decide), gb_setp_same _ _ _ _ (by simp only [len_setp]; omega)])
theorem rxRcvR_6 (B : Br) (k : Nat) (h : k * 89 + 89 ≤ B.ps.length) : (rxRcvR B k).gi k 6 = 3 := by (unfold rxRcvR; rw [gi_setp_ne _ _ _ _ _ (by decide), gi_setp_same _ _ _ _ _ (by simp only [len_setp]; omega)])
theorem rxRcvR_15 (B : Br) (k : Nat) (h : k * 89 + 89 ≤ B.ps.length) : (rxRcvR B k).gi k 15 = 1 := by (unfold rxRcvR; rw [gi_setp_same _ _ _ _ _ (by simp only [len_setp]; omega)])
theorem rxRcvS_2 (B : Br) (k : Nat) (h : k * 89 + 89 ≤ B.ps.length) : (rxRcvS B k).gb k 2 = B.gb k 2 := by (unfold rxRcvS; rw [gb_setp_ne _ _ _ _ _ (by decide), gb_setp_ne _ _ _ _ _ (by decide), gb_setp_ne _ _ _ _ _ (by decide), gb_setp_ne _ _ _ _ _ (by decide), gb_setp_ne _ _ _ _ _ (by decide), gb_setp_ne _ _ _ _ _ (by decide)])
theorem rxRcvS_35 (B : Br) (k : Nat) (h : k * 89 + 89 ≤ B.ps.length) : (rxRcvS B k).gb k 35 = false := by (unfold rxRcvS; rw [gb_setp_ne _ _ _ _ _ (by decide), gb_setp_ne _ _ _ _ _ (by decide), gb_setp_ne _ _ _ _ _ (by decide), gb_setp_same _ _ _ _ (by simp only [len_setp]; omega)])
theorem rxRcvS_36 (B : Br) (k : Nat) (h : k * 89 + 89 ≤ B.ps.length) : (rxRcvS B k).gb k 36 = true := by (unfold rxRcvS; rw [gb_setp_ne _ _ _ _ _ (by decide), gb_setp_ne _ _ _ _ _ (by decide), gb_setp_same _ _ _ _ (by simp only [len_setp]; omega)])
theorem rxRcvS_6 (B : Br) (k : Nat) (h : k * 89 + 89 ≤ B.ps.length) : (rxRcvS B k).gi k 6 = 3 := by (unfold rxRcvS; rw [gi_setp_ne _ _ _ _ _ (by decide), gi_setp_same _ _ _ _ _ (by simp only [len_setp]; omega)])
theorem rxRcvS_15 (B : Br) (k : Nat) (h : k * 89 + 89 ≤ B.ps.length) : (rxRcvS B k).gi k 15 = 1 := by (unfold rxRcvS; rw [gi_setp_same _ _ _ _ _ (by simp only [len_setp]; omega)])
theorem rxF_of {B : Br} {k : Nat} (h : rxS B k = 0) : rxF B k = (false, B) := by simp [rxF, h]
/-- Who has nothing waiting takes no step. -/
theorem rxF_still {C : Br} {k : Nat} (h35 : C.gb k 35 = false) (h6 : C.gi k 6 = 3) : rxF C k = (false, C) := by
  refine rxF_of ?_
  cases h2 : C.gb k 2 <;> simp [rxS, rxSel, h2, h35, h6]
theorem rxF_one (B : Br) (k : Nat) (h : k * 89 + 89 ≤ B.ps.length) : rxF B k = (false, B) ∨ ((rxF B k).1 = true ∧ rxF (rxF B k).2 k = (false, (rxF B k).2) ∧ (rxF B k).2.gb k 2 = B.gb k 2 ∧ (rxF B k).2.gb k 35 = false ∧ (rxF B k).2.gi k 6 = 3) := by
  unfold rxF
  by_cases h1 : rxS B k = 1
  · rw [if_pos h1]
    exact .inr ⟨rfl, rxF_still (rxDisc_35 B k h) (rxDisc_6 B k h), rxDisc_2 B k h, rxDisc_35 B k h, rxDisc_6 B k h⟩
  · rw [if_neg h1]
    by_cases h2 : rxS B k = 2
    · rw [if_pos h2]
      unfold rxRcv
      by_cases hm : B.gi k 51 = 2
      · rw [if_pos hm]
        exact .inr ⟨rfl, rxF_still (rxRcvR_35 B k h) (rxRcvR_6 B k h), rxRcvR_2 B k h, rxRcvR_35 B k h, rxRcvR_6 B k h⟩
      · rw [if_neg hm]
        exact .inr ⟨rfl, rxF_still (rxRcvS_35 B k h) (rxRcvS_6 B k h), rxRcvS_2 B k h, rxRcvS_35 B k h, rxRcvS_6 B k h⟩
    · rw [if_neg h2]
      exact .inl rfl
/-- Behind two steps. -/
def rx2 (B : Br) (k : Nat) : Br := (rxF (rxF B k).2 k).2
theorem rx2_ends (B : Br) (k : Nat) (h : k * 89 + 89 ≤ B.ps.length) : rxF (rx2 B k) k = (false, rx2 B k) ∧ (rx2 B k).gb k 2 = B.gb k 2 ∧
    (B.gb k 2 = false → (rx2 B k).gb k 35 = false ∧ (rx2 B k).gi k 6 = 3) ∧
    (B.gb k 2 = true → (B.gi k 15 = 0 ∨ B.gi k 15 = 1) → B.gb k 36 = false → (rx2 B k).gb k 36 = B.gb k 35 ∧ (rx2 B k).gb k 35 = false) := by
  have e2 : rx2 B k = (rxF B k).2 := by
    unfold rx2
    rcases rxF_one B k h with h1 | h1
    · rw [h1]; simp only [h1]
    · rw [h1.2.1]
  rw [e2]
  rcases rxF_one B k h with h1 | ⟨h1, h2, h3, h4, h5⟩
  · have hs : rxS B k = 0 := by
      by_cases a : rxS B k = 1
      · simp [rxF, a] at h1
      · by_cases b : rxS B k = 2
        · simp [rxF, b] at h1
        · unfold rxS rxSel at *
          split at a <;> (try split at b) <;> (try split at b) <;> simp_all
    simp only [h1]
    refine ⟨trivial, trivial, fun he => ?_, fun he hr hm => ?_⟩
    · unfold rxS rxSel at hs
      rw [he] at hs
      cases h35 : B.gb k 35
      · by_cases h6 : B.gi k 6 = 3
        · exact ⟨rfl, h6⟩
        · simp [h35, h6] at hs
      · simp [h35] at hs
    · unfold rxS rxSel at hs
      rw [he, hm] at hs
      cases h35 : B.gb k 35
      · exact ⟨hm, rfl⟩
      · rcases hr with hr | hr <;> simp [h35, hr] at hs
  · refine ⟨h2, h3, fun _ => ⟨h4, h5⟩, fun he hr hm => ⟨?_, h4⟩⟩
    cases h35 : B.gb k 35
    · have : rxS B k = 0 := by
        rcases hr with hr | hr <;> simp [rxS, rxSel, he, h35]
      rw [rxF_of this] at h1
      cases h1
    · have hs : rxS B k = 2 := by
        rcases hr with hr | hr <;> simp [rxS, rxSel, he, h35, hr, hm]
      unfold rxF
      rw [if_neg (by omega), if_pos hs]
      unfold rxRcv
      split
      · exact rxRcvR_36 B k h
      · exact rxRcvS_36 B k h

end Go.Proofs.Ytpieamfpgfabgaa
