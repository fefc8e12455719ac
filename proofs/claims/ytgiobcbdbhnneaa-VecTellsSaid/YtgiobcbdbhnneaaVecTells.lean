/- 'ford/fordlaw03.VecTells': for every input the law returns true, and each argument reads behind the call as it read before. No condition. -/
import Derived.Test.YtgiobcbdbhnneaaVecY
namespace Go.Proofs.Ytgiobcbdbhnneaa.VecTells
open Go.ChangeShapes Go.WideShapes Go.ChangeAt Go.RowKit

set_option maxRecDepth 100000 in
theorem lifted (os : Os) (started : os.Started) (H : Type) (enc : TypeId × Value → H) :
    ReturnsInHanded {} Try.checked os 13 .any (Rows.vecTellsSpec.pre6 enc Try.prog Try.f13 Rows.vecTellsRow.domain false) (Rows.vecTellsSpec.post enc Try.prog Try.f13 false true false false) := by
  refine returnsInHanded_of_change (C := Try.checked) ownK started (by kernel_rfl) Try.func13
    (ChangeSpec.witness6 (enc := enc) (C := Try.checked) false ⟨#[], #[.agg #[.int .u64 0, .int .u32 0, .int .u64 0, .int .u16 0, .int .u16 0], .agg #[.int .u64 0, .int .u32 0, .int .u64 0, .int .u16 0, .int .u16 0], .int .u32 0, .int .u16 0], []⟩ 8 (by kernel_rfl) (by kernel_rfl) (by kernel_rfl) (by kernel_rfl)) ?_
  intro W base args ds gs before hval0 hW _ _
  have hval : ∀ (j : Nat) t v, Try.f13.params[j]? = some t → args[j]? = some v → Value.okWide Try.prog W .any base t v := hval0
  have hW' := hW
  obtain ⟨p, q, hA0, hV, rfl, _, _⟩ := hW
  obtain ⟨rfl, rfl⟩ := trodVars_none hV
  have hA : DataW.TrodAll enc Try.prog W 0 (fun _ => true) true Try.f13.params.toList args.toList ds p := hA0
  rw [Try.params13] at hA hval
  obtain ⟨v0, vs0, d0, ds0, p0, q0, hargs, rfl, rfl, h0, r0⟩ := trodAll_cons hA
  obtain ⟨v1, vs1, d1, ds1, p1, q1, rfl, rfl, rfl, h1, r1⟩ := trodAll_cons r0
  obtain ⟨v2, vs2, d2, ds2, p2, q2, rfl, rfl, rfl, h2, r2⟩ := trodAll_cons r1
  obtain ⟨v3, vs3, d3, ds3, p3, q3, rfl, rfl, rfl, h3, r3⟩ := trodAll_cons r2
  obtain ⟨rfl, rfl, rfl⟩ := trodAll_nil r3
  obtain rfl : args = #[v0, v1, v2, v3] := by cases args; simp_all
  obtain ⟨cs0, rfl, z0, g0⟩ := open_flat Try.underlying56 (by kernel_rfl) (by kernel_rfl) (hval 0 56 v0 rfl rfl) h0
  obtain ⟨c0_0, x0_0, n0_0, e0_0, t0_0⟩ := g0 0 _ rfl
  obtain ⟨a0_0, rfl, w0_0⟩ := flat_int Try.underlying22 t0_0
  have b0_0 := wf_u64 w0_0
  obtain ⟨c0_1, x0_1, n0_1, e0_1, t0_1⟩ := g0 1 _ rfl
  obtain ⟨a0_1, rfl, w0_1⟩ := flat_int Try.underlying54 t0_1
  have b0_1 := wf_u32 w0_1
  obtain ⟨c0_2, x0_2, n0_2, e0_2, t0_2⟩ := g0 2 _ rfl
  obtain ⟨a0_2, rfl, w0_2⟩ := flat_int Try.underlying22 t0_2
  have b0_2 := wf_u64 w0_2
  obtain ⟨c0_3, x0_3, n0_3, e0_3, t0_3⟩ := g0 3 _ rfl
  obtain ⟨a0_3, rfl, w0_3⟩ := flat_int Try.underlying41 t0_3
  have b0_3 := wf_u16 w0_3
  obtain ⟨c0_4, x0_4, n0_4, e0_4, t0_4⟩ := g0 4 _ rfl
  obtain ⟨a0_4, rfl, w0_4⟩ := flat_int Try.underlying41 t0_4
  have b0_4 := wf_u16 w0_4
  obtain rfl : cs0 = #[.int .u64 a0_0, .int .u32 a0_1, .int .u64 a0_2, .int .u16 a0_3, .int .u16 a0_4] := flat_eq [.int .u64 a0_0, .int .u32 a0_1, .int .u64 a0_2, .int .u16 a0_3, .int .u16 a0_4] cs0 z0 (by intro j hj; match j, hj with
    | 0, _ => exact e0_0
    | 1, _ => exact e0_1
    | 2, _ => exact e0_2
    | 3, _ => exact e0_3
    | 4, _ => exact e0_4
    | j + 5, hj => simp at hj; omega)
  obtain ⟨cs1, rfl, z1, g1⟩ := open_flat Try.underlying56 (by kernel_rfl) (by kernel_rfl) (hval 1 56 v1 rfl rfl) h1
  obtain ⟨c1_0, x1_0, n1_0, e1_0, t1_0⟩ := g1 0 _ rfl
  obtain ⟨a1_0, rfl, w1_0⟩ := flat_int Try.underlying22 t1_0
  have b1_0 := wf_u64 w1_0
  obtain ⟨c1_1, x1_1, n1_1, e1_1, t1_1⟩ := g1 1 _ rfl
  obtain ⟨a1_1, rfl, w1_1⟩ := flat_int Try.underlying54 t1_1
  have b1_1 := wf_u32 w1_1
  obtain ⟨c1_2, x1_2, n1_2, e1_2, t1_2⟩ := g1 2 _ rfl
  obtain ⟨a1_2, rfl, w1_2⟩ := flat_int Try.underlying22 t1_2
  have b1_2 := wf_u64 w1_2
  obtain ⟨c1_3, x1_3, n1_3, e1_3, t1_3⟩ := g1 3 _ rfl
  obtain ⟨a1_3, rfl, w1_3⟩ := flat_int Try.underlying41 t1_3
  have b1_3 := wf_u16 w1_3
  obtain ⟨c1_4, x1_4, n1_4, e1_4, t1_4⟩ := g1 4 _ rfl
  obtain ⟨a1_4, rfl, w1_4⟩ := flat_int Try.underlying41 t1_4
  have b1_4 := wf_u16 w1_4
  obtain rfl : cs1 = #[.int .u64 a1_0, .int .u32 a1_1, .int .u64 a1_2, .int .u16 a1_3, .int .u16 a1_4] := flat_eq [.int .u64 a1_0, .int .u32 a1_1, .int .u64 a1_2, .int .u16 a1_3, .int .u16 a1_4] cs1 z1 (by intro j hj; match j, hj with
    | 0, _ => exact e1_0
    | 1, _ => exact e1_1
    | 2, _ => exact e1_2
    | 3, _ => exact e1_3
    | 4, _ => exact e1_4
    | j + 5, hj => simp at hj; omega)
  obtain ⟨a2, rfl, rfl, rfl, w2⟩ := open_int Try.underlying54 (hval 2 54 v2 rfl rfl) h2
  have b2 := wf_u32 w2
  obtain ⟨a3, rfl, rfl, rfl, w3⟩ := open_int Try.underlying41 (hval 3 41 v3 rfl rfl) h3
  have b3 := wf_u16 w3
  exact ends (k := 13) laidO (by kernel_rfl) rfl rfl Try.underlying4 hW' rfl (law_VecTells a0_0 b0_0 a0_1 b0_1 a0_2 b0_2 a0_3 b0_3 a0_4 b0_4 a1_0 b1_0 a1_1 b1_1 a1_2 b1_2 a1_3 b1_3 a1_4 b1_4 a2 b2 a3 b3 W)

theorem over : Rows.vecTellsRow.holds Try.pinned (OpenSpec.ofChange Rows.vecTellsSpec) :=
  OpenClaim.holds_of_wide 13 Try.f13 rfl rfl rfl rfl rfl rfl rfl ⟨rfl, rfl, rfl, rfl, rfl⟩ rfl rfl rfl rfl rfl (by kernel_rfl) Try.func13 (by kernel_rfl)
    (of_decide_eq_true (by kernel_rfl)) (by unfold Func.isWrapper; first | (rw [if_pos (by decide +kernel)]; kernel_rfl) | (rw [if_neg (by decide +kernel)]; exact ⟨rfl, rfl⟩))
    (fun os started H enc _ => lifted os started H enc)

/-- The given statement. -/
theorem proved : Rows.VecTellsSaid :=
  over
#print axioms proved
end Go.Proofs.Ytgiobcbdbhnneaa.VecTells
