/- Contracts of package times and of the document's answers, and the walks of its laws. -/
import Derived.Test.YtdfaagchlnkpnaaBase
import Derived.Deep.RegionHeld3
import Derived.Laws.StructEq
namespace Go.Proofs.Ytdfaagchlnkpnaa
open Go.RowKit
set_option linter.unusedVariables false
set_option linter.unusedSimpArgs false

def toV (s : Int) : Int := if s < 0 then 0 else if 255 < s then 65280 else s * 256

theorem to_any (s : Int) (w : World) : Calls Try.prog 38 #[.int .i64 s] w fun e w' => e = .returned (.int .u16 (toV s)) ∧ w = w' := by
  by_cases h : s < 0
  · refine asi (x := 0) ?_ (by simp [toV, h])
    go_enter Try.func38, Try.ntmps38
    go_wp2
    go_ret
    exact ⟨retI (by omega), rfl⟩
  · by_cases h2 : 255 < s
    · refine asi (x := 65280) ?_ (by simp [toV, h, h2])
      go_enter Try.func38, Try.ntmps38
      go_wp2
      go_ret
      exact ⟨retI (by omega), rfl⟩
    · refine asi (x := s * 256) ?_ (by simp [toV, h, h2])
      go_enter Try.func38, Try.ntmps38
      go_wp2
      go_ret
      exact ⟨retI (by omega), rfl⟩

theorem ref_to (s : Int) (w : World) : Calls Try.prog 41 #[.int .i64 s] w fun e w' => e = .returned (.int .u16 (toV s)) ∧ w = w' := by
  by_cases h : s < 0
  · refine asi (x := 0) ?_ (by simp [toV, h])
    go_enter Try.func41, Try.ntmps41
    go_wp2
    go_ret
    exact ⟨retI (by omega), rfl⟩
  · by_cases h2 : 255 < s
    · refine asi (x := 65280) ?_ (by simp [toV, h, h2])
      go_enter Try.func41, Try.ntmps41
      go_wp2
      go_ret
      exact ⟨retI (by omega), rfl⟩
    · refine asi (x := s * 256) ?_ (by simp [toV, h, h2])
      go_enter Try.func41, Try.ntmps41
      go_wp2
      go_ret
      exact ⟨retI (by omega), rfl⟩

theorem from_any (x : Int) (w : World) (h0 : 0 ≤ x) (h1 : x < 65536) : Calls Try.prog 59 #[.int .u16 x] w fun e w' => e = .returned (.int .i64 ((x + 128) / 256)) ∧ w = w' := by
  go_enter Try.func59, Try.ntmps59
  go_wp2
  go_ret
  exact ⟨retI (by omega), rfl⟩

theorem ref_from (x : Int) (w : World) (h0 : 0 ≤ x) (h1 : x < 65536) : Calls Try.prog 44 #[.int .u16 x] w fun e w' => e = .returned (.int .i64 ((x + 128) / 256)) ∧ w = w' := by
  have hd : (x.tdiv 256) = x / 256 := Int.tdiv_eq_ediv_of_nonneg h0
  have hm : (x.tmod 256) = x % 256 := Int.tmod_eq_emod_of_nonneg h0
  have e0 : IntKind.u16.wrap (x / 256) = x / 256 := by rw [IntKind.wrap_u16]; omega
  have e1 : wrap64 (x / 256) = x / 256 := by unfold wrap64; omega
  have e2 : wrap64 (x / 256 + 1) = x / 256 + 1 := by unfold wrap64; omega
  by_cases h : 128 ≤ x % 256
  · go_enter Try.func44, Try.ntmps44
    go_wp2
    go_ret
    exact ⟨retI (by omega), rfl⟩
  · go_enter Try.func44, Try.ntmps44
    go_wp2
    go_ret
    exact ⟨retI (by omega), rfl⟩

theorem eq_times (w : World) (a m h d a' m' h' d' : Int) : (binOp .eql 28 (.agg #[.int .i64 a, .int .i64 m, .int .i64 h, .int .i64 d]) (.agg #[.int .i64 a', .int .i64 m', .int .i64 h', .int .i64 d'])).run Try.prog w =
    .ok (.bool (a == a' && m == m' && h == h' && d == d')) w := by
  have k1 : Try.prog.stoodInHeld 28 = false := by kernel_rfl
  simp [go_sem, k1, Try.underlying28]
  split
  · split
    · split
      · split <;> simp_all
      · simp_all
    · simp_all
  · simp_all
theorem guard_times : Try.prog.eqGuardType Try.prog.depth 28 = false := by kernel_rfl
theorem field_age (w : World) (a m h d : Int) : (Instr.field 28 (.agg #[.int .i64 a, .int .i64 m, .int .i64 h, .int .i64 d]) 0).run Try.prog w = .ok (.int .i64 a) w := by kernel_rfl
attribute [local go_sem] field_age

theorem w64 (n : Int) (h0 : -9223372036854775808 ≤ n) (h1 : n ≤ 9223372036854775807) : wrap64 n = n := by unfold wrap64; omega

/-- Whether times may be. -/
def rightB (a m h d : Int) : Bool := decide (0 ≤ a ∧ a ≤ 255 ∧ 6 ≤ m ∧ m ≤ 40 ∧ 1 ≤ h ∧ h ≤ 10 ∧ 4 ≤ d ∧ d ≤ 30 ∧ m ≤ 2 * (d - 1) ∧ 2 * (h + 1) ≤ m)

def waitsV (a m h : Int) : Int := if a < m then 3 * h else 0

end Go.Proofs.Ytdfaagchlnkpnaa
