/- What is decoded is plain. No statement is proved here. -/
import Derived.Test.YtdfaagchlnkpnaaBpH
namespace Go.Proofs.Ytdfaagchlnkpnaa
open Go.RowKit Go.BigFrame Go.WideShapes Go.ChangeShapes Go.Deep
set_option linter.unusedVariables false
set_option linter.unusedSimpArgs false

theorem dec_err (xs : List Int) (h : (decF xs).2 ≠ 0) : (decF xs).1 = Mg.zero := by
  by_cases h4 : xs.length < 4
  · unfold decF; rw [if_pos h4]
  by_cases hf : nu xs 0 2 ≠ 0
  · unfold decF; rw [if_neg h4, if_pos hf]
  by_cases hn : nu xs 3 1 = 128
  · unfold decF at h; rw [if_neg h4, if_neg hf, if_pos hn] at h; exact absurd rfl h
  by_cases h2 : nu xs 3 1 = 2 ∧ 2 ≤ nu xs 2 1
  · by_cases h36 : xs.length < 36
    · unfold decF decB; rw [if_neg h4, if_neg hf, if_neg hn, if_pos h2, if_pos h36]
    · unfold decF decB at h; rw [if_neg h4, if_neg hf, if_neg hn, if_pos h2, if_neg h36, if_neg (by omega)] at h; exact absurd rfl h
  by_cases h0 : nu xs 3 1 ≠ 0
  · unfold decF; rw [if_neg h4, if_neg hf, if_neg hn, if_neg h2, if_pos h0]
  by_cases h35 : xs.length < 35
  · unfold decF decB; rw [if_neg h4, if_neg hf, if_neg hn, if_neg h2, if_neg h0, if_pos h35]
  by_cases hy : (0 : Int) = 0 ∧ ¬ nu xs 27 2 < nu xs 29 2
  · unfold decF decB; rw [if_neg h4, if_neg hf, if_neg hn, if_neg h2, if_neg h0, if_neg h35, if_pos hy]
  · unfold decF decB at h; rw [if_neg h4, if_neg hf, if_neg hn, if_neg h2, if_neg h0, if_neg h35, if_neg hy] at h; exact absurd rfl h
def cfgM (s1 s2 : Bool) (r c b p a m h d : Int) : Mg := ⟨0, s1, s2, false, false, false, false, 4, r, c, b, p, 0, a, m, h, d⟩
def rstM (s1 s2 s3 s4 s5 s6 : Bool) (n r c b p a m h d : Int) : Mg := ⟨2, s1, s2, s3, s4, s5, s6, roB n, r, c, b, p, 0, a, m, h, d⟩
theorem roB_rg (n : Int) : 0 ≤ roB n ∧ roB n ≤ 4 := by unfold roB; split <;> (try split) <;> (try split) <;> omega
theorem roB_back (n : Int) : roB (roN (roB n)) = roB n := by
  rw [roB_roN]
  unfold roB
  split
  · rfl
  · split
    · rfl
    · split <;> rfl
theorem told_small (s : Int) (h0 : 0 ≤ s) (h1 : s ≤ 255) : told s = s := by have := toV_small s h0 h1; unfold told fromV; omega
theorem fromV_rg {n : Int} (h : 0 ≤ n ∧ n < 65536) : 0 ≤ fromV n ∧ fromV n ≤ 256 := by unfold fromV; omega
theorem dec_shape (xs : List Int) (hx : ∀ x ∈ xs, 0 ≤ x ∧ x < 256) (h : (decF xs).2 = 0) : (decF xs).1.ok ∧ ((decF xs).1 = Mg.tcn ∨ (∃ s1 s2 r c b p a m h d, (decF xs).1 = cfgM s1 s2 r c b p a m h d ∧ 0 ≤ a ∧ 0 ≤ m ∧ 0 ≤ h ∧ 0 ≤ d) ∨ ∃ s1 s2 s3 s4 s5 s6 n r c b p a m h d, (decF xs).1 = rstM s1 s2 s3 s4 s5 s6 n r c b p a m h d ∧ 0 ≤ a ∧ 0 ≤ m ∧ 0 ≤ h ∧ 0 ≤ d) := by
  have g8 := nu_rg hx 5 8
  have g4 := nu_rg hx 13 4
  have g17 := nu_rg hx 17 8
  have g25 := nu_rg hx 25 2
  have t := fun i => fromV_rg (n := nu xs i 2) (by have := nu_rg hx i 2; omega)
  have t27 := t 27
  have t29 := t 29
  have t31 := t 31
  have t33 := t 33
  by_cases h4 : xs.length < 4
  · unfold decF at h; rw [if_pos h4] at h; exact absurd h (by decide)
  by_cases hf : nu xs 0 2 ≠ 0
  · unfold decF at h; rw [if_neg h4, if_pos hf] at h; exact absurd h (by decide)
  by_cases hn : nu xs 3 1 = 128
  · have e : decF xs = (Mg.tcn, 0) := by unfold decF; rw [if_neg h4, if_neg hf, if_pos hn]
    rw [e]
    exact ⟨tcn_ok, .inl rfl⟩
  by_cases h2 : nu xs 3 1 = 2 ∧ 2 ≤ nu xs 2 1
  · by_cases h36 : xs.length < 36
    · unfold decF decB at h; rw [if_neg h4, if_neg hf, if_neg hn, if_pos h2, if_pos h36] at h; exact absurd h (by decide)
    · have e : decF xs = (rstM (isB (nu xs 4 1) 1) (isB (nu xs 4 1) 128) (isB (nu xs 4 1) 2) (isB (nu xs 4 1) 64) (isB (nu xs 4 1) 16) (isB (nu xs 4 1) 32) (bits .and .u64 (nu xs 4 1 / 4) 3) (nu xs 5 8) (nu xs 13 4) (nu xs 17 8) (nu xs 25 2) (fromV (nu xs 27 2)) (fromV (nu xs 29 2)) (fromV (nu xs 31 2)) (fromV (nu xs 33 2)), 0) := by
        unfold decF decB flagged
        rw [if_neg h4, if_neg hf, if_neg hn, if_pos h2, if_neg h36, if_neg (by omega), if_pos rfl]
        rfl
      rw [e]
      have hr := roB_rg (bits .and .u64 (nu xs 4 1 / 4) 3)
      refine ⟨⟨by show (-9223372036854775808 : Int) ≤ 2 ∧ (2 : Int) ≤ 9223372036854775807; decide, ⟨by show _ ≤ roB _; omega, by show roB _ ≤ _; omega⟩, ?_, ?_, ?_, ?_, by show (0 : Int) ≤ 0 ∧ (0 : Int) < 65536; decide, ?_, ?_, ?_, ?_⟩, .inr (.inr ⟨_, _, _, _, _, _, _, _, _, _, _, _, _, _, _, rfl, t27.1, t29.1, t31.1, t33.1⟩)⟩
      · show 0 ≤ nu xs 5 8 ∧ nu xs 5 8 < _; omega
      · show 0 ≤ nu xs 13 4 ∧ nu xs 13 4 < _; omega
      · show 0 ≤ nu xs 17 8 ∧ nu xs 17 8 < _; omega
      · show 0 ≤ nu xs 25 2 ∧ nu xs 25 2 < _; omega
      · show _ ≤ fromV (nu xs 27 2) ∧ fromV (nu xs 27 2) ≤ _; omega
      · show _ ≤ fromV (nu xs 29 2) ∧ fromV (nu xs 29 2) ≤ _; omega
      · show _ ≤ fromV (nu xs 31 2) ∧ fromV (nu xs 31 2) ≤ _; omega
      · show _ ≤ fromV (nu xs 33 2) ∧ fromV (nu xs 33 2) ≤ _; omega
  by_cases h0 : nu xs 3 1 ≠ 0
  · unfold decF at h; rw [if_neg h4, if_neg hf, if_neg hn, if_neg h2, if_pos h0] at h; exact absurd h (by decide)
  by_cases h35 : xs.length < 35
  · unfold decF decB at h; rw [if_neg h4, if_neg hf, if_neg hn, if_neg h2, if_neg h0, if_pos h35] at h; exact absurd h (by decide)
  by_cases hy : (0 : Int) = 0 ∧ ¬ nu xs 27 2 < nu xs 29 2
  · unfold decF decB at h; rw [if_neg h4, if_neg hf, if_neg hn, if_neg h2, if_neg h0, if_neg h35, if_pos hy] at h; exact absurd h (by decide)
  · have e : decF xs = (cfgM (isB (nu xs 4 1) 1) (isB (nu xs 4 1) 128) (nu xs 5 8) (nu xs 13 4) (nu xs 17 8) (nu xs 25 2) (fromV (nu xs 27 2)) (fromV (nu xs 29 2)) (fromV (nu xs 31 2)) (fromV (nu xs 33 2)), 0) := by
      unfold decF decB flagged
      rw [if_neg h4, if_neg hf, if_neg hn, if_neg h2, if_neg h0, if_neg h35, if_neg hy, if_neg (by decide)]
      rfl
    rw [e]
    refine ⟨⟨by show (-9223372036854775808 : Int) ≤ 0 ∧ (0 : Int) ≤ 9223372036854775807; decide, by show (-9223372036854775808 : Int) ≤ 4 ∧ (4 : Int) ≤ 9223372036854775807; decide, ?_, ?_, ?_, ?_, by show (0 : Int) ≤ 0 ∧ (0 : Int) < 65536; decide, ?_, ?_, ?_, ?_⟩, .inr (.inl ⟨_, _, _, _, _, _, _, _, _, _, rfl, t27.1, t29.1, t31.1, t33.1⟩)⟩
    · show 0 ≤ nu xs 5 8 ∧ nu xs 5 8 < _; omega
    · show 0 ≤ nu xs 13 4 ∧ nu xs 13 4 < _; omega
    · show 0 ≤ nu xs 17 8 ∧ nu xs 17 8 < _; omega
    · show 0 ≤ nu xs 25 2 ∧ nu xs 25 2 < _; omega
    · show _ ≤ fromV (nu xs 27 2) ∧ fromV (nu xs 27 2) ≤ _; omega
    · show _ ≤ fromV (nu xs 29 2) ∧ fromV (nu xs 29 2) ≤ _; omega
    · show _ ≤ fromV (nu xs 31 2) ∧ fromV (nu xs 31 2) ≤ _; omega
    · show _ ≤ fromV (nu xs 33 2) ∧ fromV (nu xs 33 2) ≤ _; omega
theorem plain_cfg (s1 s2 : Bool) (r c b p a m h d : Int) (ha : 0 ≤ a ∧ a ≤ 255) (hm : 0 ≤ m ∧ m ≤ 255) (hh : 0 ≤ h ∧ h ≤ 255) (hd : 0 ≤ d ∧ d ≤ 255) : plainM (cfgM s1 s2 r c b p a m h d) = cfgM s1 s2 r c b p a m h d := by
  unfold plainM
  rw [if_neg (show ¬ (cfgM s1 s2 r c b p a m h d).kd = 1 from (by show ¬ (0 : Int) = 1; decide)), if_pos (show (cfgM s1 s2 r c b p a m h d).kd = 0 ∨ (cfgM s1 s2 r c b p a m h d).kd = 2 from .inl rfl), flagged_flags, if_neg (show ¬ (cfgM s1 s2 r c b p a m h d).kd = 2 from (by show ¬ (0 : Int) = 2; decide))]
  show (⟨0, s1, s2, false, false, false, false, 4, r, c, b, p, 0, told a, told m, told h, told d⟩ : Mg) = _
  rw [told_small a ha.1 ha.2, told_small m hm.1 hm.2, told_small h hh.1 hh.2, told_small d hd.1 hd.2]
  rfl
theorem plain_rst (s1 s2 s3 s4 s5 s6 : Bool) (n r c b p a m h d : Int) (ha : 0 ≤ a ∧ a ≤ 255) (hm : 0 ≤ m ∧ m ≤ 255) (hh : 0 ≤ h ∧ h ≤ 255) (hd : 0 ≤ d ∧ d ≤ 255) : plainM (rstM s1 s2 s3 s4 s5 s6 n r c b p a m h d) = rstM s1 s2 s3 s4 s5 s6 n r c b p a m h d := by
  unfold plainM
  rw [if_neg (show ¬ (rstM s1 s2 s3 s4 s5 s6 n r c b p a m h d).kd = 1 from (by show ¬ (2 : Int) = 1; decide)), if_pos (show (rstM s1 s2 s3 s4 s5 s6 n r c b p a m h d).kd = 0 ∨ (rstM s1 s2 s3 s4 s5 s6 n r c b p a m h d).kd = 2 from .inr rfl), flagged_flags, if_pos (show (rstM s1 s2 s3 s4 s5 s6 n r c b p a m h d).kd = 2 from rfl)]
  show (⟨2, s1, s2, s3, s4, s5, s6, roB (roN (roB n)), r, c, b, p, 0, told a, told m, told h, told d⟩ : Mg) = _
  rw [told_small a ha.1 ha.2, told_small m hm.1 hm.2, told_small h hh.1 hh.2, told_small d hd.1 hd.2, roB_back]
  rfl
/-- What the law asks of a message that was decoded. -/
theorem dec_one (xs : List Int) (hx : ∀ x ∈ xs, 0 ≤ x ∧ x < 256) (h : (decF xs).2 = 0) : (decF xs).1.ok ∧ ((decF xs).1.kd = 0 ∨ (decF xs).1.kd = 1 ∨ (decF xs).1.kd = 2) ∧
    (0 ≤ (decF xs).1.a ∧ 0 ≤ (decF xs).1.m ∧ 0 ≤ (decF xs).1.h ∧ 0 ≤ (decF xs).1.d) ∧
    (((decF xs).1.a > 255 ∨ (decF xs).1.m > 255 ∨ (decF xs).1.h > 255 ∨ (decF xs).1.d > 255) → (decF xs).1.kd ≠ 1) ∧
    ((decF xs).1.a ≤ 255 → (decF xs).1.m ≤ 255 → (decF xs).1.h ≤ 255 → (decF xs).1.d ≤ 255 → plainM (decF xs).1 = (decF xs).1) := by
  obtain ⟨hok, e | ⟨s1, s2, r, c, b, p, a, m, h, d, e, h1, h2, h3, h4⟩ | ⟨s1, s2, s3, s4, s5, s6, n, r, c, b, p, a, m, h, d, e, h1, h2, h3, h4⟩⟩ := dec_shape xs hx h
  · refine ⟨hok, ?_⟩
    rw [e]
    exact ⟨.inr (.inl rfl), ⟨Int.le_refl 0, Int.le_refl 0, Int.le_refl 0, Int.le_refl 0⟩, fun hh => by rcases hh with hh | hh | hh | hh <;> exact absurd hh (by decide), fun _ _ _ _ => if_pos rfl⟩
  · refine ⟨hok, ?_⟩
    rw [e]
    exact ⟨.inl rfl, ⟨h1, h2, h3, h4⟩, fun _ => (by show (0 : Int) ≠ 1; decide), fun ha hm hh hd => plain_cfg s1 s2 r c b p a m h d ⟨h1, ha⟩ ⟨h2, hm⟩ ⟨h3, hh⟩ ⟨h4, hd⟩⟩
  · refine ⟨hok, ?_⟩
    rw [e]
    exact ⟨.inr (.inr rfl), ⟨h1, h2, h3, h4⟩, fun _ => (by show (2 : Int) ≠ 1; decide), fun ha hm hh hd => plain_rst s1 s2 s3 s4 s5 s6 n r c b p a m h d ⟨h1, ha⟩ ⟨h2, hm⟩ ⟨h3, hh⟩ ⟨h4, hd⟩⟩

end Go.Proofs.Ytdfaagchlnkpnaa
