/- How far it is: from no point, or among none. No statement is proved here. -/
import Derived.Test.YtendaloeonbbeaaReR
import Derived.Test.YtendaloeonbbeaaReS
namespace Go.Proofs.Ytendaloeonbbeaa
open Go.RowKit Go.BigFrame Go.WideShapes Go.ChangeShapes Go.Deep
set_option linter.unusedVariables false
set_option linter.unusedSimpArgs false

/-- Points that are not among these. -/
def farBad (n s : Int) : Prop := n < 1 ∨ 1000 < n ∨ s < 0 ∨ n ≤ s
set_option maxRecDepth 100000 in
set_option maxHeartbeats 1000000 in
theorem rfar_bad (n s : Int) (v : Value) (w : World) (h : farBad n s) : Calls Try.prog 14 #[.int .i64 n, v, .int .i64 s] w fun e w' => e = .returned (.slice Option.none 0 0) ∧ w = w' := by
  by_cases h1 : n < 1
  · go_enter Try.func14, Try.ntmps14
    go_wp2_with fail
    go_ret
    exact ⟨rfl, rfl⟩
  by_cases h2 : 1000 < n
  · go_enter Try.func14, Try.ntmps14
    go_wp2_with fail
    go_ret
    exact ⟨rfl, rfl⟩
  by_cases h3 : s < 0
  · go_enter Try.func14, Try.ntmps14
    go_wp2_with fail
    go_ret
    exact ⟨rfl, rfl⟩
  have h4 : n ≤ s := by unfold farBad at h; omega
  go_enter Try.func14, Try.ntmps14
  go_wp2_with fail
  go_ret
  exact ⟨rfl, rfl⟩
set_option maxRecDepth 100000 in
set_option maxHeartbeats 1000000 in
theorem rdfar_bad (n s : Int) (v : Value) (w : World) (h : farBad n s) : Calls Try.prog 16 #[.int .i64 n, v, .int .i64 s] w fun e w' => e = .returned (.slice Option.none 0 0) ∧ w = w' := by
  by_cases h1 : n < 1
  · go_enter Try.func16, Try.ntmps16
    go_wp2_with fail
    go_ret
    exact ⟨rfl, rfl⟩
  by_cases h2 : 1000 < n
  · go_enter Try.func16, Try.ntmps16
    go_wp2_with fail
    go_ret
    exact ⟨rfl, rfl⟩
  by_cases h3 : s < 0
  · go_enter Try.func16, Try.ntmps16
    go_wp2_with fail
    go_ret
    exact ⟨rfl, rfl⟩
  have h4 : n ≤ s := by unfold farBad at h; omega
  go_enter Try.func16, Try.ntmps16
  go_wp2_with fail
  go_ret
  exact ⟨rfl, rfl⟩

end Go.Proofs.Ytendaloeonbbeaa
