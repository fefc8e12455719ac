/- How far it is: lengths as complex numbers: a hop's, which of two is shorter, none. No statement is proved here. -/
import Derived.Test.YtendaloeonbbeaaFl
namespace Go.Proofs.Ytendaloeonbbeaa
open Go.RowKit Go.BigFrame Go.WideShapes Go.ChangeShapes Go.Deep
set_option linter.unusedVariables false
set_option linter.unusedSimpArgs false

/-- The bits of -1. -/
def fneg : Nat := 13830554455654793216
/-- A length: what it costs, and its hops; none. -/
abbrev Way := Option (Nat × Nat)
def cvW : Way → Value
  | none => .complex .f64 fneg fneg
  | some (c, h) => .complex .f64 (fl c) (fl h)
/-- Its numbers are whole as floating point numbers. -/
def Way.fits : Way → Prop
  | none => True
  | some (c, h) => c < 2 ^ 53 ∧ h < 2 ^ 53
theorem fl_one : fl 1 = 4607182418800017408 := by decide
theorem f_ord {n m : Nat} (h1 : n < 2 ^ 53) (h2 : m < 2 ^ 53) : FloatKind.f64.format.order (fl n) (fl m) = some (compare n m) := fl_order h1 h2
theorem f_neg_read : Ieee.double.read fneg = .number true 4503599627370496 (-52) := by decide
theorem f_ord_neg {n : Nat} (h : n < 2 ^ 53) : FloatKind.f64.format.order (fl n) fneg = some .gt := by
  obtain ⟨a, p, e1, p1, p2, u1⟩ := fl_units (n := n) (b := 0) h
  show Ieee.double.order (fl n) fneg = some .gt
  unfold Ieee.Format.order
  rw [e1, f_neg_read]
  have hp : 0 < 4503599627370496 <<< (-52 - min p (-52)).toNat := by
    rw [Nat.shiftLeft_eq]
    exact Nat.mul_pos (by decide) (Nat.two_pow_pos _)
  have key : ∀ x y : Nat, 0 < y → compareOfLessAndEq ((x : Nat) : Int) (-((y : Nat) : Int)) = .gt := fun x y hy => by
    unfold compareOfLessAndEq
    rw [if_neg (by omega), if_neg (by omega)]
  exact congrArg some (key (a <<< (p - min p (-52)).toNat) (4503599627370496 <<< (-52 - min p (-52)).toNat) hp)
theorem f_ord_nn : FloatKind.f64.format.order fneg fneg = some .eq := by decide
theorem f_int {c : Int} (h : 0 ≤ c) : floatOfInt .f64 c = fl c.toNat := by
  show Ieee.double.nearest (decide (c < 0)) c.natAbs 0 = fl c.toNat
  rw [decide_eq_false (by omega), show c.natAbs = c.toNat by omega]
  rfl
theorem f_add {n m : Nat} (h : n + m < 2 ^ 53) : floatBits .add .f64 (fl n) (fl m) = some (fl (n + m)) := fl_add h
theorem cmp_eq (n m : Nat) : (some (compare n m) == some Ordering.eq) = (n == m) := by
  show ((some (compareOfLessAndEq n m)) == some Ordering.eq) = _
  unfold compareOfLessAndEq
  rcases Nat.lt_trichotomy n m with h | h | h
  · rw [if_pos h, show (n == m) = false by simpa using Nat.ne_of_lt h]; rfl
  · subst h; rw [if_neg (by omega), if_pos rfl, show (n == n) = true by simp]; rfl
  · rw [if_neg (by omega), if_neg (by omega), show (n == m) = false by simpa using Nat.ne_of_gt h]; rfl
theorem cmp_lt (n m : Nat) : (some (compare n m) == some Ordering.lt) = decide (n < m) := by
  show ((some (compareOfLessAndEq n m)) == some Ordering.lt) = _
  unfold compareOfLessAndEq
  rcases Nat.lt_trichotomy n m with h | h | h
  · rw [if_pos h, decide_eq_true h]; rfl
  · subst h; rw [if_neg (by omega), if_pos rfl, decide_eq_false (by omega)]; rfl
  · rw [if_neg (by omega), if_neg (by omega), decide_eq_false (by omega)]; rfl
theorem rlen_any (c : Int) (w : World) (h : 0 ≤ c) : Calls Try.prog 32 #[.int .u32 c] w fun e w' => e = .returned (cvW (some (c.toNat, 1))) ∧ w = w' := by
  have hf := f_int h
  have h1 := fl_one
  go_enter Try.func32, Try.ntmps32
  go_wp2
  go_ret
  exact ⟨by simp [cvW, hf, h1], rfl⟩
theorem rnone_any (v : Way) (w : World) (h : v.fits) : Calls Try.prog 18 #[cvW v] w fun e w' => e = .returned (.bool v.isNone) ∧ w = w' := by
  cases v with
  | none =>
    have h1 : FloatKind.f64.format.order 13830554455654793216 13830554455654793216 = some .eq := f_ord_nn
    unfold cvW fneg
    go_enter Try.func18, Try.ntmps18
    go_wp2
    go_ret
    exact ⟨by simp, rfl⟩
  | some q =>
    obtain ⟨c, b⟩ := q
    have h1 : FloatKind.f64.format.order (fl c) 13830554455654793216 = some .gt := f_ord_neg h.1
    unfold cvW
    go_enter Try.func18, Try.ntmps18
    go_wp2
    go_ret
    exact ⟨by simp, rfl⟩
/-- Which of two is shorter. -/
def ltW (a b c d : Nat) : Bool := decide (a < c) || (a == c && decide (b < d))
theorem rless_any (a b c d : Nat) (w : World) (ha : a < 2 ^ 53) (hb : b < 2 ^ 53) (hc : c < 2 ^ 53) (hd : d < 2 ^ 53) : Calls Try.prog 20 #[cvW (some (a, b)), cvW (some (c, d))] w fun e w' => e = .returned (.bool (ltW a b c d)) ∧ w = w' := by
  have h1 : (FloatKind.f64.format.order (fl a) (fl c) == some Ordering.lt) = decide (a < c) := by rw [f_ord ha hc, cmp_lt]
  have h2 : (FloatKind.f64.format.order (fl a) (fl c) == some Ordering.eq) = (a == c) := by rw [f_ord ha hc, cmp_eq]
  have h3 : (FloatKind.f64.format.order (fl b) (fl d) == some Ordering.lt) = decide (b < d) := by rw [f_ord hb hd, cmp_lt]
  unfold cvW ltW
  cases e1 : decide (a < c)
  · cases e2 : (a == c)
    all_goals
      rw [e1] at h1
      rw [e2] at h2
      clear e1 e2
      go_enter Try.func20, Try.ntmps20
      go_wp2
      go_ret
      exact ⟨by simp [h3], rfl⟩
  · rw [e1] at h1
    clear e1
    go_enter Try.func20, Try.ntmps20
    go_wp2
    go_ret
    exact ⟨by simp, rfl⟩

end Go.Proofs.Ytendaloeonbbeaa
