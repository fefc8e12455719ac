/- 'ford/fordlaw04.TimesTells': for every input the law returns true, and each argument reads behind the call as it read before. No condition. -/
import Derived.Test.YtgiobcbdbhnneabTimesLaws
namespace Go.Proofs.Ytgiobcbdbhnneab.TimesTells
open Go.ChangeShapes Go.WideShapes Go.ChangeAt Go.RowKit

set_option maxRecDepth 100000 in
theorem lifted (os : Os) (started : os.Started) (H : Type) (enc : TypeId × Value → H) :
    ReturnsInHanded {} Try.checked os 6 .any (Rows.timesTellsSpec.pre6 enc Try.prog Try.f6 Rows.timesTellsRow.domain false) (Rows.timesTellsSpec.post enc Try.prog Try.f6 false true false false) := by
  refine returnsInHanded_of_change (C := Try.checked) ownK started (by kernel_rfl) Try.func6
    (ChangeSpec.witness6 (enc := enc) (C := Try.checked) false ⟨#[], #[.agg #[.int .i64 0, .int .i64 0, .int .i64 0, .int .i64 0]], []⟩ 8 (by kernel_rfl) (by kernel_rfl) (by kernel_rfl) (by kernel_rfl)) ?_
  intro W base args ds gs before hval0 hW _ _
  have hval : ∀ (j : Nat) t v, Try.f6.params[j]? = some t → args[j]? = some v → Value.okWide Try.prog W .any base t v := hval0
  have hW' := hW
  obtain ⟨p, q, hA0, hV, rfl, _, _⟩ := hW
  obtain ⟨rfl, rfl⟩ := trodVars_none hV
  have hA : DataW.TrodAll enc Try.prog W 0 (fun _ => true) true Try.f6.params.toList args.toList ds p := hA0
  rw [Try.params6] at hA hval
  obtain ⟨v0, vs0, d0, ds0, p0, q0, hargs, rfl, rfl, h0, r0⟩ := trodAll_cons hA
  obtain ⟨rfl, rfl, rfl⟩ := trodAll_nil r0
  obtain rfl : args = #[v0] := by cases args; simp_all
  obtain ⟨cs0, rfl, z0, g0⟩ := open_flat Try.underlying34 (by kernel_rfl) (by kernel_rfl) (hval 0 34 v0 rfl rfl) h0
  obtain ⟨c0_0, x0_0, n0_0, e0_0, t0_0⟩ := g0 0 _ rfl
  obtain ⟨a0_0, rfl, w0_0⟩ := flat_int Try.underlying3 t0_0
  have b0_0 := wf_i64 w0_0
  obtain ⟨c0_1, x0_1, n0_1, e0_1, t0_1⟩ := g0 1 _ rfl
  obtain ⟨a0_1, rfl, w0_1⟩ := flat_int Try.underlying3 t0_1
  have b0_1 := wf_i64 w0_1
  obtain ⟨c0_2, x0_2, n0_2, e0_2, t0_2⟩ := g0 2 _ rfl
  obtain ⟨a0_2, rfl, w0_2⟩ := flat_int Try.underlying3 t0_2
  have b0_2 := wf_i64 w0_2
  obtain ⟨c0_3, x0_3, n0_3, e0_3, t0_3⟩ := g0 3 _ rfl
  obtain ⟨a0_3, rfl, w0_3⟩ := flat_int Try.underlying3 t0_3
  have b0_3 := wf_i64 w0_3
  obtain rfl : cs0 = #[.int .i64 a0_0, .int .i64 a0_1, .int .i64 a0_2, .int .i64 a0_3] := flat_eq [.int .i64 a0_0, .int .i64 a0_1, .int .i64 a0_2, .int .i64 a0_3] cs0 z0 (by intro j hj; match j, hj with
    | 0, _ => exact e0_0
    | 1, _ => exact e0_1
    | 2, _ => exact e0_2
    | 3, _ => exact e0_3
    | j + 4, hj => simp at hj; omega)
  exact ends (k := 6) laidO (by kernel_rfl) rfl rfl Try.underlying4 hW' rfl (law_TimesTells a0_0 b0_0 a0_1 b0_1 a0_2 b0_2 a0_3 b0_3 W)

theorem over : Rows.timesTellsRow.holds Try.pinned (OpenSpec.ofChange Rows.timesTellsSpec) :=
  OpenClaim.holds_of_wide 6 Try.f6 rfl rfl rfl rfl rfl rfl rfl ⟨rfl, rfl, rfl, rfl, rfl⟩ rfl rfl rfl rfl rfl (by kernel_rfl) Try.func6 (by kernel_rfl)
    (of_decide_eq_true (by kernel_rfl)) (by unfold Func.isWrapper; first | (rw [if_pos (by decide +kernel)]; kernel_rfl) | (rw [if_neg (by decide +kernel)]; exact ⟨rfl, rfl⟩))
    (fun os started H enc _ => lifted os started H enc)

/-- The given statement. -/
theorem proved : Rows.TimesTellsSaid :=
  over
#print axioms proved
end Go.Proofs.Ytgiobcbdbhnneab.TimesTells
