/- Contracts of the functions of package ident that cut a number. No statement is proved here. -/
import Derived.Test.YthfoacgdkoijeaaBase
namespace Go.Proofs.Ythfoacgdkoijeaa
open Go.RowKit
set_option linter.unusedVariables false
set_option linter.unusedSimpArgs false

theorem low_nat (n b : Nat) (w : World) (hn : n < 18446744073709551616) (hb : b < 64) :
    Calls Try.prog 93 #[.int .u64 n, .int .u64 b] w fun e w' => e = .returned (.int .u64 ((n % 2 ^ b : Nat) : Int)) ∧ w = w' := by
  have hm := and_mask n b hn hb
  go_enter Try.func93, Try.ntmps93
  go_wp2
  go_ret
  refine ⟨?_, rfl⟩
  show Ending.returned (Value.int .u64 _) = _
  exact congrArg (fun x => Ending.returned (.int .u64 x)) (by simp)

theorem addr_any (x : Int) (w : World) (h2 : 0 ≤ x) (h3 : x < 18446744073709551616) :
    Calls Try.prog 83 #[.int .u64 x] w fun e w' => e = .returned (.int .u64 (x % 281474976710656)) ∧ w = w' := by
  obtain ⟨x, rfl⟩ := Int.eq_ofNat_of_zero_le h2
  go_enter Try.func83, Try.ntmps83
  go_wp2_with fail
  refine (low_nat x 48 _ (by omega) (by decide)).mono ?_
  rintro e w1 ⟨rfl, rfl⟩
  go_wp2
  go_ret
  exact ⟨retI (by omega), rfl⟩

theorem num_any (x : Int) (w : World) (h2 : 0 ≤ x) (h3 : x < 65536) :
    Calls Try.prog 84 #[.int .u16 x] w fun e w' => e = .returned (.int .u16 (x % 4096)) ∧ w = w' := by
  obtain ⟨x, rfl⟩ := Int.eq_ofNat_of_zero_le h2
  go_enter Try.func84, Try.ntmps84
  go_wp2_with fail
  refine (low_nat x 12 _ (by omega) (by decide)).mono ?_
  rintro e w1 ⟨rfl, rfl⟩
  go_wp2
  go_ret
  exact ⟨retI (by omega), rfl⟩

end Go.Proofs.Ythfoacgdkoijeaa
