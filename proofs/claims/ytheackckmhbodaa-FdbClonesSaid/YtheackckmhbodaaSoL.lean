/- The library's sort: bits.Len, nextPowerOfTwo, xorshift. No statement is proved here. -/
import Derived.Test.YtheackckmhbodaaSoI
import Derived.Sort.LotD5
import Derived.Laws.Bits64
import Derived.Laws.Bits64b
namespace Go.Proofs.Ytheackckmhbodaa
open Go.RowKit Go.BigFrame Go.WideShapes Go.ChangeShapes Go.Deep
set_option linter.unusedVariables false
set_option linter.unusedSimpArgs false
set_option maxRecDepth 100000

set_option maxRecDepth 100000 in
set_option maxHeartbeats 8000000 in
theorem len64x_any (n : Nat) (hn : n ≤ 60) (w : World) : Calls Try.prog 51 #[.int .u64 n] w fun e w' => e = .returned (.int .i64 ((Go.Sort.bitsLen n : Nat) : Int)) ∧ w' = w := by
  have hc : n = 0 ∨ n = 1 ∨ n = 2 ∨ n = 3 ∨ n = 4 ∨ n = 5 ∨ n = 6 ∨ n = 7 ∨ n = 8 ∨ n = 9 ∨ n = 10 ∨ n = 11 ∨ n = 12 ∨ n = 13 ∨ n = 14 ∨ n = 15 ∨ n = 16 ∨ n = 17 ∨ n = 18 ∨ n = 19 ∨ n = 20 ∨ n = 21 ∨ n = 22 ∨ n = 23 ∨ n = 24 ∨ n = 25 ∨ n = 26 ∨ n = 27 ∨ n = 28 ∨ n = 29 ∨ n = 30 ∨ n = 31 ∨ n = 32 ∨ n = 33 ∨ n = 34 ∨ n = 35 ∨ n = 36 ∨ n = 37 ∨ n = 38 ∨ n = 39 ∨ n = 40 ∨ n = 41 ∨ n = 42 ∨ n = 43 ∨ n = 44 ∨ n = 45 ∨ n = 46 ∨ n = 47 ∨ n = 48 ∨ n = 49 ∨ n = 50 ∨ n = 51 ∨ n = 52 ∨ n = 53 ∨ n = 54 ∨ n = 55 ∨ n = 56 ∨ n = 57 ∨ n = 58 ∨ n = 59 ∨ n = 60 := by omega
  clear hn
  rcases hc with rfl | rfl | rfl | rfl | rfl | rfl | rfl | rfl | rfl | rfl | rfl | rfl | rfl | rfl | rfl | rfl | rfl | rfl | rfl | rfl | rfl | rfl | rfl | rfl | rfl | rfl | rfl | rfl | rfl | rfl | rfl | rfl | rfl | rfl | rfl | rfl | rfl | rfl | rfl | rfl | rfl | rfl | rfl | rfl | rfl | rfl | rfl | rfl | rfl | rfl | rfl | rfl | rfl | rfl | rfl | rfl | rfl | rfl | rfl | rfl | rfl <;>
  · go_enter Try.func51, Try.ntmps51
    go_wp2
    go_ret
    exact ⟨congrArg (fun z : Int => Ending.returned (Value.int .i64 z)) (by decide +kernel), rfl⟩
theorem lenx_any (n : Nat) (hn : n ≤ 60) (w : World) : Calls Try.prog 40 #[.int .u64 n] w fun e w' => e = .returned (.int .i64 ((Go.Sort.bitsLen n : Nat) : Int)) ∧ w' = w := by
  have H := Lib.hid (len64x_any n hn)
  obtain ⟨k, hk⟩ : ∃ k, Go.Sort.bitsLen n = k := ⟨_, rfl⟩
  rw [hk] at H ⊢
  clear hk
  go_enter Try.func40, Try.ntmps40
  go_wp2_with fail
  refine (H.out _).mono ?_
  rintro e w1 ⟨rfl, rfl⟩
  go_wp2_with fail
  go_ret
  exact ⟨rfl, rfl⟩
theorem len_6 {n : Nat} (hn : n ≤ 60) : Go.Sort.bitsLen n ≤ 6 := (Go.Sort.bitsLen_le_iff n 6).2 (by omega)
theorem pow_any (n : Nat) (hn : n ≤ 60) (w : World) : Calls Try.prog 53 #[.int .i64 n] w fun e w' => e = .returned (.int .u64 ((1 <<< Go.Sort.bitsLen n : Nat) : Int)) ∧ w' = w := by
  have H := Lib.hid (lenx_any n hn)
  have h6 := len_6 hn
  obtain ⟨k, hk⟩ : ∃ k, Go.Sort.bitsLen n = k := ⟨_, rfl⟩
  rw [hk] at H h6 ⊢
  clear hk
  have hw : IntKind.u64.wrap (n : Int) = n := by rw [IntKind.wrap_u64]; omega
  have hc : k = 0 ∨ k = 1 ∨ k = 2 ∨ k = 3 ∨ k = 4 ∨ k = 5 ∨ k = 6 := by omega
  clear h6
  rcases hc with rfl | rfl | rfl | rfl | rfl | rfl | rfl <;>
  · go_enter Try.func53, Try.ntmps53
    go_wp2_with fail
    refine (H.out _).mono ?_
    rintro e w1 ⟨rfl, rfl⟩
    go_wp2_with fail
    go_ret
    exact ⟨rfl, rfl⟩

end Go.Proofs.Ytheackckmhbodaa
