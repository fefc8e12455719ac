/- The machine of changes ends. No statement is proved here. -/
import Derived.Test.YtpieamfpgfabgaaTopK
namespace Go.Proofs.Ytpieamfpgfabgaa
open Go.RowKit Go.BigFrame Go.WideShapes Go.ChangeShapes Go.Deep
set_option linter.unusedVariables false
set_option linter.unusedSimpArgs false

theorem d0 : ∀ c e f g : Bool, tm1 c e f true g false (tm2 c e true g false false false false) < 1 + (c && f && !e).toNat := by decide +kernel
theorem d1a (c e f l g t : Bool) (m : Nat) (h : learnSel c f e l g t = 1) : m < tm1 c e f l g t m := by
  have : (c && f && !e) = true := by
    revert h
    cases c <;> cases f <;> cases e <;> cases l <;> cases g <;> cases t <;> decide
  unfold tm1
  rw [if_pos this]
  omega
theorem d1b (c e f l g t : Bool) (m : Nat) (h : learnSel c f e l g t = 2) : l = false ∧ 1 < tm1 c e f l g t m := by
  revert h
  unfold tm1
  cases c <;> cases f <;> cases e <;> cases l <;> cases g <;> cases t <;> simp [learnSel]
theorem d1c (c e f l g t : Bool) (m m' : Nat) (h : learnSel c f e l g t = 3) : tm1 c e f l g false m' < tm1 c e f l g t m := by
  revert h
  unfold tm1
  cases c <;> cases f <;> cases e <;> cases l <;> cases g <;> cases t <;> simp [learnSel]
theorem d21 : ∀ c e f l g tc tcn a p : Bool, actSel c e tcn tc p a = 1 → tm1 c e f l g false (tm2 c e l g false false false false) < tm2 c e l g tc tcn a p := by decide +kernel
theorem d22 : ∀ c e l g tc tcn a p : Bool, (actSel c e tcn tc p a = 2 ∨ actSel c e tcn tc p a = 3) → tm2 c e l g false false a p < tm2 c e l g tc tcn a p := by decide +kernel
theorem d24 : ∀ c e l g tc tcn a p : Bool, actSel c e tcn tc p a = 4 → 1 + tm2 c e l g tc tcn a false < tm2 c e l g tc tcn a p := by decide +kernel
theorem d25 : ∀ c e l g tc tcn a p : Bool, actSel c e tcn tc p a = 5 → tm2 c e l g tc tcn false p < tm2 c e l g tc tcn a p := by decide +kernel

theorem topMu_step {B : Br} (ho : B.ok) {k : Nat} (hk : k < B.np) (h : (topF B k).1 = true) : topMu (topF B k).2 k < topMu B k := by
  have h89 := len89 ho hk
  have hn : B.np * 89 ≤ B.ps.length := by rw [ho.len]; exact Nat.le_refl _
  unfold topF at h ⊢
  cases h25 : B.gb k 25
  · rw [h25] at h
    rw [if_neg (by simp)] at h ⊢
    unfold topN at h ⊢
    by_cases h0 : B.gi k 21 = 0
    · rw [if_pos h0] at h ⊢
      cases hl : B.gb k 28
      · rw [hl] at h
        exact absurd h (by simp)
      · rw [if_pos rfl]
        show topMu (tforget B k) k < _
        rw [mu_forget h89]
        unfold topMu
        rw [if_pos h0, h25, hl, if_pos rfl]
        have := d0 (tcnt B k) (B.gb k 32) (B.gb k 26) (B.gb k 29)
        simp only [Bool.toNat_false, Nat.zero_add]
        exact this
    rw [if_neg h0] at h ⊢
    by_cases h1 : B.gi k 21 = 1
    · rw [if_pos h1] at h ⊢
      have hmu : topMu B k = tm1 (tcnt B k) (B.gb k 32) (B.gb k 26) (B.gb k 28) (B.gb k 29) (toldB B k) (tm2 (tcnt B k) (B.gb k 32) (B.gb k 28) (B.gb k 29) (B.gb k 39) (B.gb k 41) (B.gb k 40) (B.gb k 49)) := by
        unfold topMu
        rw [if_neg h0, if_pos h1, h25]
        simp only [Bool.toNat_false, Nat.zero_add]
      rw [hmu]
      rcases act1_cases B k with ha | ha | ha | ha <;> rw [ha] at h ⊢
      · exact absurd h (by simp)
      · show topMu (tactiv B k) k < _
        rw [mu_activ h89 hn, h25]
        simp only [Bool.toNat_false, Nat.zero_add]
        exact d1a _ _ _ _ _ _ _ ha
      · show topMu (tleave B k) k < _
        have hd := d1b (tcnt B k) (B.gb k 32) (B.gb k 26) (B.gb k 28) (B.gb k 29) (toldB B k) (tm2 (tcnt B k) (B.gb k 32) (B.gb k 28) (B.gb k 29) (B.gb k 39) (B.gb k 41) (B.gb k 40) (B.gb k 49)) ha
        rw [mu_leave h89 hd.1]
        exact hd.2
      · show topMu (tforget B k) k < _
        rw [mu_forget h89, h25]
        simp only [Bool.toNat_false, Nat.zero_add]
        exact d1c _ _ _ _ _ _ _ _ ha
    rw [if_neg h1] at h ⊢
    by_cases h2 : B.gi k 21 = 2
    · rw [if_pos h2] at h ⊢
      have hmu : topMu B k = tm2 (tcnt B k) (B.gb k 32) (B.gb k 28) (B.gb k 29) (B.gb k 39) (B.gb k 41) (B.gb k 40) (B.gb k 49) := by
        unfold topMu
        rw [if_neg h0, if_neg h1, if_pos h2, h25]
        simp only [Bool.toNat_false, Nat.zero_add]
      rw [hmu]
      rcases act2_cases B k with ha | ha | ha | ha | ha | ha <;> rw [ha] at h ⊢
      · exact absurd h (by simp)
      · show topMu (tforget B k) k < _
        rw [mu_forget h89, h25]
        simp only [Bool.toNat_false, Nat.zero_add]
        exact d21 _ _ _ _ _ _ _ _ _ ha
      · show topMu (tpass (tbegin B k) k) k < _
        have gb : ∀ j, j ≠ 31 → j ≠ 13 → (tbegin B k).gb k j = B.gb k j := fun j b c => tbegin_gb k j b c
        have gi : ∀ j, j ≠ 31 → j ≠ 13 → (tbegin B k).gi k j = B.gi k j := fun j b c => tbegin_gi2 B k j b c
        have e : tcnt (tbegin B k) k = tcnt B k := by unfold tcnt; rw [gi 87 (by decide) (by decide)]
        rw [mu_pass (by rw [tbegin_len]; exact h89) (by rw [tbegin_np, tbegin_len]; exact hn) (by rw [gi 21 (by decide) (by decide)]; exact h2), e, gb 25 (by decide) (by decide), gb 32 (by decide) (by decide), gb 28 (by decide) (by decide), gb 29 (by decide) (by decide), gb 40 (by decide) (by decide), gb 49 (by decide) (by decide), h25]
        simp only [Bool.toNat_false, Nat.zero_add]
        exact d22 _ _ _ _ _ _ _ _ (.inl ha)
      · show topMu (tpass B k) k < _
        rw [mu_pass h89 hn h2, h25]
        simp only [Bool.toNat_false, Nat.zero_add]
        exact d22 _ _ _ _ _ _ _ _ (.inr ha)
      · show topMu (tspread B k) k < _
        rw [mu_spread h89 h2]
        exact d24 _ _ _ _ _ _ _ _ ha
      · show topMu (tack B k) k < _
        rw [mu_ack h89 h2, h25]
        simp only [Bool.toNat_false, Nat.zero_add]
        exact d25 _ _ _ _ _ _ _ _ ha
    · rw [if_neg h2] at h
      exact absurd h (by simp)
  · rw [if_pos rfl]
    exact mu_flush h89 h25
theorem topF_none {B : Br} {k : Nat} (h : (topF B k).1 = false) : topF B k = (false, B) ∧ B.gb k 25 = false := by
  unfold topF at h ⊢
  cases h25 : B.gb k 25
  · rw [h25] at h
    rw [if_neg (by simp)] at h ⊢
    refine ⟨?_, rfl⟩
    unfold topN at h ⊢
    by_cases h0 : B.gi k 21 = 0
    · rw [if_pos h0] at h ⊢
      cases hl : B.gb k 28
      · rfl
      · rw [hl] at h
        exact absurd h (by simp)
    rw [if_neg h0] at h ⊢
    by_cases h1 : B.gi k 21 = 1
    · rw [if_pos h1] at h ⊢
      rcases act1_cases B k with ha | ha | ha | ha <;> rw [ha] at h ⊢ <;> first | rfl | exact absurd h (by simp)
    rw [if_neg h1] at h ⊢
    by_cases h2 : B.gi k 21 = 2
    · rw [if_pos h2] at h ⊢
      rcases act2_cases B k with ha | ha | ha | ha | ha | ha <;> rw [ha] at h ⊢ <;> first | rfl | exact absurd h (by simp)
    · rw [if_neg h2]
  · rw [h25] at h
    exact absurd h (by simp)
/-- Behind n steps. -/
def topIt (B : Br) (k : Nat) : Nat → Br
  | 0 => B
  | n + 1 => (topF (topIt B k n) k).2
theorem topIt_inv {B : Br} (ho : B.ok) {k : Nat} (hk : k < B.np) (hn : B.np < 1000) (hT : TR (B.hi 2) (B.hi 3) (B.hi 4) (B.hi 5)) : ∀ n, (topIt B k n).ok ∧ (topIt B k n).np = B.np ∧ (topIt B k n).hd = B.hd ∧ (topIt B k n).nf ≤ B.nf + n
  | 0 => ⟨ho, rfl, rfl, Nat.le_refl _⟩
  | n + 1 => by
    obtain ⟨i1, i2, i3, i4⟩ := topIt_inv ho hk hn hT n
    have hT' : TR ((topIt B k n).hi 2) ((topIt B k n).hi 3) ((topIt B k n).hi 4) ((topIt B k n).hi 5) := by unfold Br.hi; rw [i3]; exact hT
    obtain ⟨a, b, c, d⟩ := topF_keeps i1 (by rw [i2]; exact hk) (by rw [i2]; exact hn) hT'
    exact ⟨a, b.trans i2, c.trans i3, by show (topF (topIt B k n) k).2.nf ≤ _; omega⟩
theorem topIt_TR {B : Br} (ho : B.ok) {k : Nat} (hk : k < B.np) (hn : B.np < 1000) (hT : TR (B.hi 2) (B.hi 3) (B.hi 4) (B.hi 5)) (n : Nat) : TR ((topIt B k n).hi 2) ((topIt B k n).hi 3) ((topIt B k n).hi 4) ((topIt B k n).hi 5) := by
  unfold Br.hi
  rw [(topIt_inv ho hk hn hT n).2.2.1]
  exact hT
theorem topIt_mu {B : Br} (ho : B.ok) {k : Nat} (hk : k < B.np) (hn : B.np < 1000) (hT : TR (B.hi 2) (B.hi 3) (B.hi 4) (B.hi 5)) : ∀ n, (topF (topIt B k n) k).1 = true → topMu (topIt B k n) k + n ≤ 6
  | 0, _ => topMu_le B k
  | n + 1, h => by
    obtain ⟨i1, i2, i3⟩ := topIt_inv ho hk hn hT n
    have hk' : k < (topIt B k n).np := by rw [i2]; exact hk
    by_cases hp : (topF (topIt B k n) k).1 = true
    · have h1 := topIt_mu ho hk hn hT n hp
      have h2 := topMu_step i1 hk' hp
      show topMu (topF (topIt B k n) k).2 k + (n + 1) ≤ 6
      omega
    · have hf : (topF (topIt B k n) k).1 = false := by simpa using hp
      have e : topIt B k (n + 1) = topIt B k n := by
        show (topF (topIt B k n) k).2 = _
        rw [(topF_none hf).1]
      rw [e, hf] at h
      cases h
theorem topIt_ends {B : Br} (ho : B.ok) {k : Nat} (hk : k < B.np) (hn : B.np < 1000) (hT : TR (B.hi 2) (B.hi 3) (B.hi 4) (B.hi 5)) : topF (topIt B k 10) k = (false, topIt B k 10) ∧ (topIt B k 10).gb k 25 = false := by
  refine topF_none ?_
  cases h : (topF (topIt B k 10) k).1
  · rfl
  · have := topIt_mu ho hk hn hT 10 h
    omega
theorem few_TR {B : Br} (h : RightP B) : TR (B.hi 2) (B.hi 3) (B.hi 4) (B.hi 5) := h.1.1

end Go.Proofs.Ytpieamfpgfabgaa
