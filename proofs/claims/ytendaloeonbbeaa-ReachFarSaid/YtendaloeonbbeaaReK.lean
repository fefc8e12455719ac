/- How far it is: the document's lengths. No statement is proved here. -/
import Derived.Test.YtendaloeonbbeaaReI
namespace Go.Proofs.Ytendaloeonbbeaa
open Go.RowKit Go.BigFrame Go.WideShapes Go.ChangeShapes Go.Deep
set_option linter.unusedVariables false
set_option linter.unusedSimpArgs false

set_option maxRecDepth 100000 in
set_option maxHeartbeats 1000000 in
theorem rcomplex_any (c h : Int) (hc : 0 ≤ c) (hh : 0 ≤ h) (w : World) : Calls Try.prog 17 #[.agg #[.int .u64 c, .int .u64 h, .bool true]] w fun e w' => e = .returned (cvW (Option.some (c.toNat, h.toNat))) ∧ Ext w w' := by
  have hf1 := f_int hc
  have hf2 := f_int hh
  go_enter Try.func17, Try.ntmps17
  go_wp2_with fail
  have hA_w0 : (w.alloc (.cells #[.int .u64 c, .int .u64 h, .bool true] 34)).heap[w.heap.size]? = some (.cells #[.int .u64 c, .int .u64 h, .bool true] 34 (0, 0)) := heap_alloc_new _ _
  have hE_w0 : Ext w (w.alloc (.cells #[.int .u64 c, .int .u64 h, .bool true] 34)) := (Ext.refl _).alloc _
  generalize w.alloc (.cells #[.int .u64 c, .int .u64 h, .bool true] 34) = w0 at *
  obtain ⟨A0, hA0⟩ : ∃ n, w.heap.size = n := ⟨_, rfl⟩
  rw [hA0] at hA_w0 ⊢
  have rA0_w0 : w0.cell? ⟨A0, 0, none⟩ = some (.int .u64 c) := (cell_of_row _ _ _ _ _ _ hA_w0).trans rfl
  have rA1_w0 : w0.cell? ⟨A0, 1, none⟩ = some (.int .u64 h) := (cell_of_row _ _ _ _ _ _ hA_w0).trans rfl
  have rA2_w0 : w0.cell? ⟨A0, 2, none⟩ = some (.bool true) := (cell_of_row _ _ _ _ _ _ hA_w0).trans rfl
  go_wp2_with fail
  go_ret
  exact ⟨by simp [cvW, hf1, hf2], hE_w0⟩
set_option maxRecDepth 100000 in
set_option maxHeartbeats 1000000 in
theorem rdless_any (a b c d : Nat) (w : World) : Calls Try.prog 21 #[.agg #[.int .u64 (a : Int), .int .u64 (b : Int), .bool true], .agg #[.int .u64 (c : Int), .int .u64 (d : Int), .bool true]] w fun e w' => e = .returned (.bool (ltW a b c d)) ∧ Ext w w' := by
  by_cases hac : a = c
  · have h1 : ((a : Int) != (c : Int)) = false := by simp [hac]
    go_enter Try.func21, Try.ntmps21
    go_wp2_with fail
    go_ret
    exact ⟨by simp [ltW, hac], ((Ext.refl _).alloc _).alloc _⟩
  · have h1 : ((a : Int) != (c : Int)) = true := by simp; omega
    go_enter Try.func21, Try.ntmps21
    go_wp2_with fail
    go_ret
    exact ⟨by simp [ltW, hac], ((Ext.refl _).alloc _).alloc _⟩

end Go.Proofs.Ytendaloeonbbeaa
