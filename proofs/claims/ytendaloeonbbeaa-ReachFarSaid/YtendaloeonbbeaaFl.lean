/- Whole numbers as floating point numbers: what they are read as, added, held against each other. No statement is proved here. -/
import Derived.Test.YtendaloeonbbeaaBase
import Derived.Laws.ComplexArith
namespace Go.Proofs.Ytendaloeonbbeaa
open Go.RowKit Go.BigFrame Go.WideShapes Go.ChangeShapes Go.Deep
set_option linter.unusedVariables false
set_option linter.unusedSimpArgs false
set_option maxRecDepth 10000

/-- The bits of a whole number. -/
def fl (n : Nat) : Nat := Ieee.double.nearest false n 0
theorem f_lp : Ieee.double.leastPlace = -1074 := by decide
theorem f_bin : Ieee.double.binade = 4503599627370496 := by decide
theorem f_inf : Ieee.double.infRung = 9218868437227405312 := by decide
theorem f_sgn : Ieee.double.signWeight = 9223372036854775808 := by decide
theorem f_frac : Ieee.double.fractionBits = 52 := rfl
theorem near_0 (p : Int) : Ieee.double.nearest false 0 p = 0 := by
  unfold Ieee.Format.nearest
  rw [if_pos rfl]
  rfl
theorem fl_zero : fl 0 = 0 := near_0 0
theorem f_log {n : Nat} (h0 : n ≠ 0) (h : n < 2 ^ 53) : n.log2 ≤ 52 := by
  have := (Nat.log2_lt h0).2 h
  omega
/-- What is kept of a whole number. -/
def fm (n : Nat) : Nat := n * 2 ^ (52 - n.log2)
theorem fm_rg {n : Nat} (h0 : n ≠ 0) (h : n < 2 ^ 53) : 2 ^ 52 ≤ fm n ∧ fm n < 2 ^ 53 := by
  have hl := f_log h0 h
  have h1 := Nat.log2_self_le h0
  have h2 := @Nat.lt_log2_self n
  have e1 : 2 ^ 52 = 2 ^ n.log2 * 2 ^ (52 - n.log2) := by rw [← Nat.pow_add]; congr 1; omega
  have e2 : 2 ^ 53 = 2 ^ (n.log2 + 1) * 2 ^ (52 - n.log2) := by rw [← Nat.pow_add]; congr 1; omega
  unfold fm
  constructor
  · rw [e1]; exact Nat.mul_le_mul_right _ h1
  · rw [e2]; exact Nat.mul_lt_mul_of_pos_right h2 (Nat.two_pow_pos _)
theorem cut_none (neg : Bool) (n : Nat) : Ieee.Toward.even.cut neg n 0 = n := by
  unfold Ieee.Toward.cut
  simp [Nat.mod_one]
/-- What is cut off, where that is nothing. -/
theorem cut_even (m d : Nat) (h : d ≤ (m * 2 ^ d).log2 + 2) : Ieee.Toward.even.cut false (m * 2 ^ d) d = m := by
  unfold Ieee.Toward.cut
  rw [Nat.min_eq_left h, Nat.shiftLeft_eq, Nat.one_mul]
  have hp : 0 < 2 ^ d := Nat.two_pow_pos d
  simp only [Nat.mul_div_cancel _ hp, Nat.mul_mod_left]
  have h2 : (2 ^ d == 2 * 0) = false := by simp
  simp [h2]
theorem log2_mul_pow {n : Nat} (h0 : n ≠ 0) (b : Nat) : (n * 2 ^ b).log2 = n.log2 + b := by
  have hp : 0 < 2 ^ b := Nat.two_pow_pos b
  have hne : n * 2 ^ b ≠ 0 := Nat.mul_ne_zero h0 (by omega)
  have h1 := Nat.log2_self_le h0
  have h2 := @Nat.lt_log2_self n
  have a : n.log2 + b ≤ (n * 2 ^ b).log2 := by
    rw [Nat.le_log2 hne, Nat.pow_add]
    exact Nat.mul_le_mul_right _ h1
  have c : (n * 2 ^ b).log2 < n.log2 + b + 1 := by
    rw [Nat.log2_lt hne, show n.log2 + b + 1 = n.log2 + 1 + b by omega, Nat.pow_add]
    exact Nat.mul_lt_mul_of_pos_right h2 hp
  omega
/-- The word of a whole number, however it is told. -/
theorem near_any {n : Nat} (h0 : n ≠ 0) (h : n < 2 ^ 53) (b : Nat) (hb : b ≤ 1074) : Ieee.double.nearest false (n * 2 ^ b) (-(b : Int)) = (n.log2 + 1022) * 4503599627370496 + fm n := by
  have hl := f_log h0 h
  have hr := fm_rg h0 h
  have hne : n * 2 ^ b ≠ 0 := Nat.mul_ne_zero h0 (by have := Nat.two_pow_pos b; omega)
  unfold Ieee.Format.nearest
  rw [if_neg hne, log2_mul_pow h0, f_lp, f_bin, f_inf, f_frac]
  have el : max (-(b : Int) + (n.log2 + b : Nat) - (52 : Nat)) (-1074) = (n.log2 : Int) - 52 := by omega
  rw [el]
  have ek : Ieee.Toward.even.cut false ((n * 2 ^ b) <<< (-(b : Int) - ((n.log2 : Int) - 52)).toNat) (((n.log2 : Int) - 52 - -(b : Int)).toNat) = fm n := by
    by_cases hc : b ≤ 52 - n.log2
    · rw [show (-(b : Int) - ((n.log2 : Int) - 52)).toNat = 52 - n.log2 - b by omega, show ((n.log2 : Int) - 52 - -(b : Int)).toNat = 0 by omega, cut_none, Nat.shiftLeft_eq, Nat.mul_assoc, ← Nat.pow_add]
      unfold fm
      congr 2; omega
    · rw [show (-(b : Int) - ((n.log2 : Int) - 52)).toNat = 0 by omega, show ((n.log2 : Int) - 52 - -(b : Int)).toNat = b - (52 - n.log2) by omega, Nat.shiftLeft_zero]
      have e : n * 2 ^ b = fm n * 2 ^ (b - (52 - n.log2)) := by
        unfold fm
        rw [Nat.mul_assoc, ← Nat.pow_add]
        congr 2; omega
      rw [e]
      refine cut_even _ _ ?_
      rw [← e, log2_mul_pow h0]
      omega
  simp only [ek]
  unfold Ieee.Format.word
  rw [if_neg (by decide), show ((n.log2 : Int) - 52 - -1074).toNat = n.log2 + 1022 by omega, Nat.min_eq_left (by omega)]
theorem fl_eq {n : Nat} (h0 : n ≠ 0) (h : n < 2 ^ 53) : fl n = (n.log2 + 1022) * 4503599627370496 + fm n := by
  have := near_any h0 h 0 (by omega)
  unfold fl
  rw [Nat.pow_zero, Nat.mul_one] at this
  exact this
theorem fl_lt {n : Nat} (h : n < 2 ^ 53) : fl n < 9218868437227405312 := by
  by_cases h0 : n = 0
  · subst h0; decide
  · have hl := f_log h0 h
    have hr := fm_rg h0 h
    rw [fl_eq h0 h]
    omega
theorem fl_read {n : Nat} (h0 : n ≠ 0) (h : n < 2 ^ 53) : Ieee.double.read (fl n) = .number false (fm n) ((n.log2 : Int) - 52) := by
  have hl := f_log h0 h
  have hr := fm_rg h0 h
  have hlt := fl_lt h
  have he := fl_eq h0 h
  unfold Ieee.Format.read
  rw [f_sgn, f_bin, f_inf, f_lp]
  have e1 : (fl n / 9223372036854775808 % 2 == 1) = false := by
    rw [Nat.div_eq_of_lt (by omega)]
    rfl
  have e2 : fl n % 9223372036854775808 = fl n := Nat.mod_eq_of_lt (by omega)
  simp only [e1, e2]
  rw [if_neg (by omega), if_pos hlt]
  have e3 : fl n % 4503599627370496 = fm n - 4503599627370496 := by omega
  have e4 : fl n / 4503599627370496 = n.log2 + 1023 := by omega
  rw [e3, e4, show 4503599627370496 + (fm n - 4503599627370496) = fm n by omega, show (-1074 : Int) + ((n.log2 + 1023 - 1 : Nat) : Int) = (n.log2 : Int) - 52 by omega]
theorem fl_read0 : Ieee.double.read (fl 0) = .number false 0 (-1074) := by decide
/-- As whole numbers of units 2 ^ -b. -/
theorem fl_units {n b : Nat} (h : n < 2 ^ 53) : ∃ m p, Ieee.double.read (fl n) = .number false m p ∧ p ≤ 0 ∧ -1074 ≤ p ∧ ∀ base : Int, base ≤ p → base ≤ 0 → (m <<< (p - base).toNat : Nat) = n * 2 ^ (-base).toNat := by
  by_cases h0 : n = 0
  · subst h0
    exact ⟨0, -1074, fl_read0, by omega, by omega, fun base _ _ => by simp⟩
  · have hl := f_log h0 h
    refine ⟨fm n, (n.log2 : Int) - 52, fl_read h0 h, by omega, by omega, fun base h1 h2 => ?_⟩
    rw [Nat.shiftLeft_eq]
    unfold fm
    rw [Nat.mul_assoc, ← Nat.pow_add]
    congr 2
    omega
theorem fl_add {n m : Nat} (h : n + m < 2 ^ 53) : Ieee.double.add (fl n) (fl m) = some (fl (n + m)) := by
  obtain ⟨a, p, e1, p1, p2, u1⟩ := fl_units (n := n) (b := 0) (by omega)
  obtain ⟨c, q, e2, q1, q2, u2⟩ := fl_units (n := m) (b := 0) (by omega)
  unfold Ieee.Format.add
  rw [e1, e2]
  unfold Ieee.Datum.sum
  have hb0 : min p q ≤ 0 := by omega
  have k1 := u1 (min p q) (by omega) hb0
  have k2 := u2 (min p q) (by omega) hb0
  have et : (Ieee.signed false a (p - min p q).toNat + Ieee.signed false c (q - min p q).toNat) = (((n + m) * 2 ^ (-(min p q)).toNat : Nat) : Int) := by
    unfold Ieee.signed
    simp only [Bool.false_eq_true, if_false]
    rw [k1, k2, Nat.add_mul]
    push_cast
    rfl
  simp only [et]
  by_cases hz : n + m = 0
  · rw [hz]
    simp only [Nat.zero_mul]
    show some (Ieee.double.nearest false 0 _) = some (fl 0)
    rw [near_0, fl_zero]
  · have hne : ¬ ((((n + m) * 2 ^ (-(min p q)).toNat : Nat) : Int) = 0) := by
      have := Nat.mul_ne_zero hz (Nat.pos_iff_ne_zero.1 (Nat.two_pow_pos (-(min p q)).toNat))
      omega
    rw [if_neg hne, show decide ((((n + m) * 2 ^ (-(min p q)).toNat : Nat) : Int) < 0) = false from decide_eq_false (Int.not_lt.2 (Int.natCast_nonneg _))]
    show some (Ieee.double.nearest false ((((n + m) * 2 ^ (-(min p q)).toNat : Nat) : Int).natAbs) (min p q)) = _
    rw [Int.natAbs_natCast]
    have hm := near_any hz h (-(min p q)).toNat (by omega)
    rw [show -(((-(min p q)).toNat : Nat) : Int) = min p q by omega] at hm
    rw [hm, fl_eq hz h]
theorem fl_order {n m : Nat} (h1 : n < 2 ^ 53) (h2 : m < 2 ^ 53) : Ieee.double.order (fl n) (fl m) = some (compare n m) := by
  obtain ⟨a, p, e1, p1, p2, u1⟩ := fl_units (n := n) (b := 0) h1
  obtain ⟨c, q, e2, q1, q2, u2⟩ := fl_units (n := m) (b := 0) h2
  unfold Ieee.Format.order
  rw [e1, e2]
  unfold Ieee.Datum.order
  have hb0 : min p q ≤ 0 := by omega
  have k1 := u1 (min p q) (by omega) hb0
  have k2 := u2 (min p q) (by omega) hb0
  have hp := Nat.two_pow_pos (-(min p q)).toNat
  unfold Ieee.signed
  simp only [Bool.false_eq_true, if_false, k1, k2]
  refine congrArg some ?_
  show compareOfLessAndEq (((n * 2 ^ (-(min p q)).toNat : Nat) : Int)) (((m * 2 ^ (-(min p q)).toNat : Nat) : Int)) = compareOfLessAndEq n m
  unfold compareOfLessAndEq
  rcases Nat.lt_trichotomy n m with h | h | h
  · have h3 := Nat.mul_lt_mul_of_pos_right h hp
    rw [if_pos h, if_pos (by omega)]
  · subst h
    rw [if_neg (by omega), if_pos rfl, if_neg (by omega), if_pos rfl]
  · have h3 := Nat.mul_lt_mul_of_pos_right h hp
    rw [if_neg (by omega), if_neg (by omega), if_neg (by omega), if_neg (by omega)]

end Go.Proofs.Ytendaloeonbbeaa
