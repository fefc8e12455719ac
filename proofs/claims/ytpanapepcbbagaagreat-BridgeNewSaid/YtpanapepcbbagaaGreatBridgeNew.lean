/- 'ford/fordlaw18.BridgeNew': for every input the law returns true, and each argument reads behind the call as it read before. No condition. -/
import Derived.Test.YtpanapepcbbagaaGreatBws
namespace Go.Proofs.YtpanapepcbbagaaGreat.BridgeNew
open Go.ChangeShapes Go.WideShapes Go.ChangeAt Go.RowKit

set_option maxRecDepth 100000 in
theorem lifted (os : Os) (started : os.Started) (H : Type) (enc : TypeId × Value → H) :
    ReturnsInHanded {} Tryz.checked os 3 .any (Rows.bridgeNewSpec.pre6 enc Tryz.prog Tryz.f3 Rows.bridgeNewRow.domain false) (Rows.bridgeNewSpec.post enc Tryz.prog Tryz.f3 false true false false) := by
  refine returnsInHanded_of_change (C := Tryz.checked) ownK started (by kernel_rfl) Tryz.func3
    (ChangeSpec.witness6 (enc := enc) (C := Tryz.checked) false ⟨#[], #[.int .u64 0, .bool false, .agg #[.int .i64 0, .int .i64 0, .int .i64 0, .int .i64 0], .int .i64 0, .slice none 0 0], []⟩ 8 (by kernel_rfl) (by kernel_rfl) (by kernel_rfl) (by kernel_rfl)) ?_
  intro W base args ds gs before hval0 hW _ _
  have hval : ∀ (j : Nat) t v, Tryz.f3.params[j]? = some t → args[j]? = some v → Value.okWide Tryz.prog W .any base t v := hval0
  have hW' := hW
  obtain ⟨p, q, hA0, hV, rfl, _, _⟩ := hW
  obtain ⟨rfl, rfl⟩ := trodVars_none hV
  have hA : DataW.TrodAll enc Tryz.prog W 0 (fun _ => true) true Tryz.f3.params.toList args.toList ds p := hA0
  rw [Tryz.params3] at hA hval
  obtain ⟨v0, vs0, d0, ds0, p0, q0, hargs, rfl, rfl, h0, r0⟩ := trodAll_cons hA
  obtain ⟨v1, vs1, d1, ds1, p1, q1, rfl, rfl, rfl, h1, r1⟩ := trodAll_cons r0
  obtain ⟨v2, vs2, d2, ds2, p2, q2, rfl, rfl, rfl, h2, r2⟩ := trodAll_cons r1
  obtain ⟨v3, vs3, d3, ds3, p3, q3, rfl, rfl, rfl, h3, r3⟩ := trodAll_cons r2
  obtain ⟨v4, vs4, d4, ds4, p4, q4, rfl, rfl, rfl, h4, r4⟩ := trodAll_cons r3
  obtain ⟨rfl, rfl, rfl⟩ := trodAll_nil r4
  obtain rfl : args = #[v0, v1, v2, v3, v4] := by cases args; simp_all
  obtain ⟨a0, rfl, rfl, rfl, w0⟩ := open_int Tryz.underlying22 (hval 0 22 v0 rfl rfl) h0
  have b0 := wf_u64 w0
  obtain ⟨a1, rfl, rfl, rfl⟩ := open_bool Tryz.underlying4 (hval 1 4 v1 rfl rfl) h1
  obtain ⟨cs2, rfl, z2, g2⟩ := open_flat Tryz.underlying24 (by kernel_rfl) (by kernel_rfl) (hval 2 24 v2 rfl rfl) h2
  obtain ⟨c2_0, x2_0, n2_0, e2_0, t2_0⟩ := g2 0 _ rfl
  obtain ⟨a2_0, rfl, w2_0⟩ := flat_int Tryz.underlying3 t2_0
  have b2_0 := wf_i64 w2_0
  obtain ⟨c2_1, x2_1, n2_1, e2_1, t2_1⟩ := g2 1 _ rfl
  obtain ⟨a2_1, rfl, w2_1⟩ := flat_int Tryz.underlying3 t2_1
  have b2_1 := wf_i64 w2_1
  obtain ⟨c2_2, x2_2, n2_2, e2_2, t2_2⟩ := g2 2 _ rfl
  obtain ⟨a2_2, rfl, w2_2⟩ := flat_int Tryz.underlying3 t2_2
  have b2_2 := wf_i64 w2_2
  obtain ⟨c2_3, x2_3, n2_3, e2_3, t2_3⟩ := g2 3 _ rfl
  obtain ⟨a2_3, rfl, w2_3⟩ := flat_int Tryz.underlying3 t2_3
  have b2_3 := wf_i64 w2_3
  obtain rfl : cs2 = #[.int .i64 a2_0, .int .i64 a2_1, .int .i64 a2_2, .int .i64 a2_3] := flat_eq [.int .i64 a2_0, .int .i64 a2_1, .int .i64 a2_2, .int .i64 a2_3] cs2 z2 (by intro j hj; match j, hj with
    | 0, _ => exact e2_0
    | 1, _ => exact e2_1
    | 2, _ => exact e2_2
    | 3, _ => exact e2_3
    | j + 4, hj => simp at hj; omega)
  obtain ⟨a3, rfl, rfl, rfl, w3⟩ := open_int Tryz.underlying3 (hval 3 3 v3 rfl rfl) h3
  have b3 := wf_i64 w3
  obtain ⟨z4, s4, r4⟩ := open_sus (hval 4 25 v4 rfl rfl) h4
  exact ends (k := 3) laidO (by kernel_rfl) rfl rfl Tryz.underlying4 hW' rfl (law_BridgeNew (w := W) a0 b0 a1 a2_0 b2_0 a2_1 b2_1 a2_2 b2_2 a2_3 b2_3 a3 b3 v4 z4 s4 r4)

theorem over : Rows.bridgeNewRow.holds Tryz.pinned (OpenSpec.ofChange Rows.bridgeNewSpec) :=
  OpenClaim.holds_of_wide 3 Tryz.f3 rfl rfl rfl rfl rfl rfl rfl ⟨rfl, rfl, rfl, rfl, rfl⟩ rfl rfl rfl rfl rfl (by kernel_rfl) Tryz.func3 (by kernel_rfl)
    (of_decide_eq_true (by kernel_rfl)) (by unfold Func.isWrapper; first | (rw [if_pos (by decide +kernel)]; kernel_rfl) | (rw [if_neg (by decide +kernel)]; exact ⟨rfl, rfl⟩))
    (fun os started H enc _ => lifted os started H enc)

/-- The given statement. -/
theorem proved : Rows.BridgeNewSaid :=
  over
#print axioms proved
end Go.Proofs.YtpanapepcbbagaaGreat.BridgeNew
