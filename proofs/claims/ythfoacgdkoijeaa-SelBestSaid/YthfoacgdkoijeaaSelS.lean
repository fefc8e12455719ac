/- The selection: nobody offers less than the best; who is the root's. No statement is proved here. -/
import Derived.Test.YthfoacgdkoijeaaSelQ
namespace Go.Proofs.Ythfoacgdkoijeaa
open Go.RowKit Go.BigFrame Go.WideShapes Go.ChangeShapes Go.Deep
set_option linter.unusedVariables false
set_option linter.unusedSimpArgs false

theorem c5_turn (r c b p x r' c' b' p' x' : Int) : c5 r' c' b' p' x' r c b p x = -(c5 r c b p x r' c' b' p' x') := by
  have h1 := c5_rg r c b p x r' c' b' p' x'
  have h2 := c5_rg r' c' b' p' x' r c b p x
  omega
theorem c5_le (r c b p x r' c' b' p' x' : Int) : c5 r c b p x r' c' b' p' x' ≤ 0 ↔ (r < r' ∨ r = r' ∧ (c < c' ∨ c = c' ∧ (b < b' ∨ b = b' ∧ (p < p' ∨ p = p' ∧ x ≤ x')))) := by
  have h1 := c5_rg r c b p x r' c' b' p' x'
  omega
theorem c5_trans1 (r c b p x r' c' b' p' x' r'' c'' b'' p'' x'' : Int) : c5 r c b p x r' c' b' p' x' ≤ 0 → c5 r' c' b' p' x' r'' c'' b'' p'' x'' ≤ 0 → c5 r c b p x r'' c'' b'' p'' x'' ≤ 0 := by
  rw [c5_le, c5_le, c5_le]
  rintro (h | ⟨rfl, h | ⟨rfl, h | ⟨rfl, h | ⟨rfl, h⟩⟩⟩⟩) (k | ⟨rfl, k | ⟨rfl, k | ⟨rfl, k | ⟨rfl, k⟩⟩⟩⟩) <;> omega
theorem c5_self (r c b p x : Int) : c5 r c b p x r c b p x ≤ 0 := by
  rw [c5_le]
  omega
theorem wrap16 {a b : Int} (h : (IntKind.u64.wrap (a * 65536) == IntKind.u64.wrap (b * 65536)) = false) : sameA a b = false := by
  have e : ∀ x : Int, IntKind.u64.wrap (x * 65536) = (x * 65536) % 18446744073709551616 := fun x => by simp [IntKind.wrap, IntKind.signed, IntKind.bits]
  rw [e, e] at h
  unfold sameA
  have h2 : ¬ (a * 65536 % 18446744073709551616 = b * 65536 % 18446744073709551616) := by simpa using h
  have h3 : ¬ (a % 281474976710656 = b % 281474976710656) := by omega
  simpa using h3
def offC (B : Br) (v : R5) (k : Nat) : Int := c5 v.r v.c v.b v.p v.x (B.gi k 68) (thr (B.gi k 69) (B.gi k 1)) (B.gi k 70) (B.gi k 71) (B.gi k 0)
theorem R5.lt_iff (v : R5) (r c b p x : Int) : v.lt r c b p x = true ↔ c5 r c b p x v.r v.c v.b v.p v.x < 0 := by unfold R5.lt; exact decide_eq_true_iff
theorem rootF_own (B : Br) : ∀ n, c5 (rootF B n).r (rootF B n).c (rootF B n).b (rootF B n).p (rootF B n).x (B.hi 0) 0 (B.hi 0) 0 0 ≤ 0
  | 0 => c5_self _ _ _ _ _
  | n + 1 => by
    have ih := rootF_own B n
    unfold rootF
    split
    · rename_i h
      have h2 := (R5.lt_iff _ _ _ _ _ _).1 ((Bool.and_eq_true _ _ ▸ h).2)
      exact c5_trans1 _ _ _ _ _ _ _ _ _ _ _ _ _ _ _ (Int.le_of_lt h2) ih
    · exact ih
theorem rootF_off (B : Br) : ∀ n k, k < n → offers B k = true → offC B (rootF B n) k ≤ 0
  | 0, k, hk, _ => by omega
  | n + 1, k, hk, ho => by
    by_cases e : k = n
    · subst e
      unfold rootF
      split
      · exact c5_self _ _ _ _ _
      · rename_i h
        rw [ho, Bool.true_and] at h
        have h2 : ¬ c5 (B.gi k 68) (thr (B.gi k 69) (B.gi k 1)) (B.gi k 70) (B.gi k 71) (B.gi k 0) (rootF B k).r (rootF B k).c (rootF B k).b (rootF B k).p (rootF B k).x < 0 := fun hc => h ((R5.lt_iff _ _ _ _ _ _).2 hc)
        unfold offC
        rw [c5_turn]
        omega
    · have ih := rootF_off B n k (by omega) ho
      unfold rootF
      split
      · rename_i h
        have h2 := (R5.lt_iff _ _ _ _ _ _).1 ((Bool.and_eq_true _ _ ▸ h).2)
        exact c5_trans1 _ _ _ _ _ _ _ _ _ _ _ _ _ _ _ (Int.le_of_lt h2) ih
      · exact ih
theorem rootF_at (B : Br) : ∀ n (k : Nat), (rootF B n).at_ = k → offers B k = true
  | 0, k, h => by
    have h : (-1 : Int) = k := h
    omega
  | n + 1, k, h => by
    unfold rootF at h
    split at h
    · rename_i h2
      have e : n = k := by
        have h : ((n : Nat) : Int) = k := h
        omega
      subst e
      exact (Bool.and_eq_true _ _ ▸ h2).1
    · exact rootF_at B n k h
theorem best_role {Z Y : Br} (okZ : Z.ok) (S : SelOut Z Y) (h86 : ∀ k, k < Z.np → Z.gi k 86 = 0 ∨ Z.gi k 86 = 1 ∨ Z.gi k 86 = 2 ∨ Z.gi k 86 = 3) {n : Nat} (hn : n < Z.np) : Y.gi n 88 = 3 ↔ (n : Int) = Y.hi 12 := by
  obtain ⟨L, hl, l86, -, l88, -⟩ := so_role S okZ hn
  rw [l88]
  constructor
  · intro h
    rcases h86 n hn with e | e | e | e
    · rw [chL_0 hl (by omega)] at h
      omega
    · rw [chL_12 hl (by omega)] at h
      omega
    · rw [chL_12 hl (by omega)] at h
      omega
    · by_cases hr : (n : Int) = Y.hi 12
      · exact hr
      · exact absurd h (chL_nr hl (by omega) hr)
  · intro h
    have ho := rootF_at Z Z.np n (by rw [← S.at_]; exact h.symm)
    have e : Z.gi n 86 = 3 := by
      unfold offers at ho
      exact eq_of_beq (Bool.and_eq_true _ _ ▸ ho).1
    exact (chL_rp hl (by omega) h).1
theorem best_rg {Z Y : Br} (S : SelOut Z Y) : -1 ≤ Y.hi 12 ∧ Y.hi 12 < Z.np := by
  rw [S.at_]
  rcases rootF_rg Z Z.np with h | ⟨k, hk, h⟩
  · rw [h]
    omega
  · rw [h]
    omega
theorem be3_gb (B : Br) : ∀ n k, (be3 B n).gb k 43 = B.gb k 43
  | 0, _ => rfl
  | n + 1, k => by
    have ih := be3_gb B n k
    unfold be3
    by_cases e : n = k
    · subst e
      rw [gb_setp_ne _ _ _ _ _ (by decide)]
      exact ih
    · rw [gb_setp_port _ _ e (by decide) (by decide)]
      exact ih
def rootsN (rp : Int) (n : Nat) : Int := if 0 ≤ rp ∧ rp < n then 1 else 0

theorem rootsN_step {rp : Int} {n : Nat} (h : (n : Int) = rp) : rootsN rp (n + 1) = 1 ∧ rootsN rp n = 0 := by
  unfold rootsN
  rw [if_pos (by omega), if_neg (by omega)]
  exact ⟨rfl, rfl⟩
theorem rootsN_same {rp : Int} {n : Nat} (h : ¬ (n : Int) = rp) : rootsN rp (n + 1) = rootsN rp n := by
  unfold rootsN
  by_cases h2 : 0 ≤ rp ∧ rp < n
  · rw [if_pos (by omega), if_pos h2]
  · rw [if_neg (by omega), if_neg h2]
theorem rootsN_end {rp : Int} {n : Nat} (h : rp < n) : rootsN rp n = if 0 ≤ rp then 1 else 0 := by
  unfold rootsN
  by_cases h2 : 0 ≤ rp
  · rw [if_pos ⟨h2, h⟩, if_pos h2]
  · rw [if_neg (by omega), if_neg h2]

end Go.Proofs.Ythfoacgdkoijeaa
