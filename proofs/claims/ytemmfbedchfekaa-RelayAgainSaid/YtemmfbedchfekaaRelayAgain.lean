/- 'ford/fordlaw19.RelayAgain': for every input the law returns true, and each argument reads behind the call as it read before. No condition. -/
import Derived.Test.YtemmfbedchfekaaRelayAgainW
namespace Go.Proofs.Ytemmfbedchfekaa.RelayAgain
open Go.ChangeShapes Go.WideShapes Go.ChangeAt Go.RowKit

set_option maxRecDepth 100000 in
theorem lifted (os : Os) (started : os.Started) (H : Type) (enc : TypeId × Value → H) :
    ReturnsInHanded {} Try.checked os 7 .any (Rows.relayAgainSpec.pre6 enc Try.prog Try.f7 Rows.relayAgainRow.domain false) (Rows.relayAgainSpec.post enc Try.prog Try.f7 false true false false) := by
  refine returnsInHanded_of_change (C := Try.checked) ownK started (by kernel_rfl) Try.func7
    (ChangeSpec.witness6 (enc := enc) (C := Try.checked) false ⟨#[], #[.agg #[.int .u64 0, .bool false, .int .i64 0, .int .i64 0, .int .i64 0, .int .i64 0, .int .i64 0, .int .u64 0, .int .u32 0, .int .u64 0, .int .u16 0, .int .u16 0, .int .i64 0, .int .i64 0, .int .i64 0, .int .i64 0, .int .i64 0, .slice none 0 0, .slice none 0 0, .slice none 0 0], .agg #[.int .i64 0, .int .u64 0, .int .u64 0]], []⟩ 8 (by kernel_rfl) (by kernel_rfl) (by kernel_rfl) (by kernel_rfl)) ?_
  intro W base args ds gs before hval0 hW _ _
  have hval : ∀ (j : Nat) t v, Try.f7.params[j]? = some t → args[j]? = some v → Value.okWide Try.prog W .any base t v := hval0
  have hW' := hW
  obtain ⟨p, q, hA0, hV, rfl, _, _⟩ := hW
  obtain ⟨rfl, rfl⟩ := trodVars_none hV
  have hA : DataW.TrodAll enc Try.prog W 0 (fun _ => true) true Try.f7.params.toList args.toList ds p := hA0
  rw [Try.params7] at hA hval
  obtain ⟨v0, vs0, d0, ds0, p0, q0, hargs, rfl, rfl, h0, r0⟩ := trodAll_cons hA
  obtain ⟨v1, vs1, d1, ds1, p1, q1, rfl, rfl, rfl, h1, r1⟩ := trodAll_cons r0
  obtain ⟨rfl, rfl, rfl⟩ := trodAll_nil r1
  obtain rfl : args = #[v0, v1] := by cases args; simp_all
  obtain ⟨c0, B0, rfl, hb0, ho0⟩ := open_br (hval 0 33 v0 rfl rfl) h0
  obtain ⟨cs1, rfl, z1, g1⟩ := open_flat Try.underlying45 (by kernel_rfl) (by kernel_rfl) (hval 1 45 v1 rfl rfl) h1
  obtain ⟨c1_0, x1_0, n1_0, e1_0, t1_0⟩ := g1 0 _ rfl
  obtain ⟨a1_0, rfl, w1_0⟩ := flat_int Try.underlying3 t1_0
  have b1_0 := wf_i64 w1_0
  obtain ⟨c1_1, x1_1, n1_1, e1_1, t1_1⟩ := g1 1 _ rfl
  obtain ⟨a1_1, rfl, w1_1⟩ := flat_int Try.underlying22 t1_1
  have b1_1 := wf_u64 w1_1
  obtain ⟨c1_2, x1_2, n1_2, e1_2, t1_2⟩ := g1 2 _ rfl
  obtain ⟨a1_2, rfl, w1_2⟩ := flat_int Try.underlying22 t1_2
  have b1_2 := wf_u64 w1_2
  obtain rfl : cs1 = #[.int .i64 a1_0, .int .u64 a1_1, .int .u64 a1_2] := flat_eq [.int .i64 a1_0, .int .u64 a1_1, .int .u64 a1_2] cs1 z1 (by intro j hj; match j, hj with
    | 0, _ => exact e1_0
    | 1, _ => exact e1_1
    | 2, _ => exact e1_2
    | j + 3, hj => simp at hj; omega)
  exact ends (k := 7) laidO (by kernel_rfl) rfl rfl Try.underlying4 hW' rfl (law_RelayAgain (w := W) c0 B0 hb0 ho0 a1_0 b1_0 a1_1 b1_1 a1_2 b1_2)

theorem over : Rows.relayAgainRow.holds Try.pinned (OpenSpec.ofChange Rows.relayAgainSpec) :=
  OpenClaim.holds_of_wide 7 Try.f7 rfl rfl rfl rfl rfl rfl rfl ⟨rfl, rfl, rfl, rfl, rfl⟩ rfl rfl rfl rfl rfl (by kernel_rfl) Try.func7 (by kernel_rfl)
    (of_decide_eq_true (by kernel_rfl)) (by unfold Func.isWrapper; first | (rw [if_pos (by decide +kernel)]; kernel_rfl) | (rw [if_neg (by decide +kernel)]; exact ⟨rfl, rfl⟩))
    (fun os started H enc _ => lifted os started H enc)

/-- The given statement. -/
theorem proved : Rows.RelayAgainSaid :=
  over
#print axioms proved
end Go.Proofs.Ytemmfbedchfekaa.RelayAgain
