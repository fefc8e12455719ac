/- How far it is: the example, by the program. No statement is proved here. -/
import Derived.Test.YtendaloeonbbeaaReI
namespace Go.Proofs.Ytendaloeonbbeaa
open Go.RowKit Go.BigFrame Go.WideShapes Go.ChangeShapes Go.Deep
set_option linter.unusedVariables false
set_option linter.unusedSimpArgs false

set_option maxRecDepth 100000 in
set_option maxHeartbeats 2000000 in
theorem awake22 (w : World) : Calls Try.prog 13 #[] w fun e w' => e = .returned (.bool true) ∧ Ext w w' := by
  go_enter Try.func13, Try.ntmps13
  go_wp2_with fail
  have hr : (w.alloc (.cells (flatH LA).toArray 47)).heap[w.heap.size]? = some (.cells (flatH LA).toArray 47 (0, 0)) := heap_alloc_new w _
  have hE0 : Ext w (w.alloc (.cells (flatH LA).toArray 47)) := (Ext.refl _).alloc _
  have hL : (flatH LA).toArray = #[.int .i64 0, .int .i64 1, .int .u32 5, .int .i64 1, .int .i64 2, .int .u32 5, .int .i64 0, .int .i64 2, .int .u32 10] := rfl
  rw [← hL]
  generalize w.alloc (.cells (flatH LA).toArray 47) = w1 at *
  generalize w.heap.size = g at *
  clear hL
  have hH : HopsAt w1 (.slice (some ⟨g, 0, none⟩) 3 3) LA := ⟨_, 3, rfl, by decide, fun _ => ⟨g, 0, rfl, heap_lt hr, by decide, by decide, row_whole hr⟩⟩
  refine (rfar_any 4 0 _ LA _ hH (by decide) (by decide) (by decide) (by decide) LA_wf).mono ?_
  rintro e w2 ⟨g1, t, D, dn, rfl, hR, hq, hs, hx⟩
  obtain rfl := awake_far hR
  have hE2 := hE0.trans hx
  have c0 : w2.cell? ⟨g1, 0, none⟩ = some (.complex .f64 0 0) := by rw [cell_of_row _ _ _ _ _ _ hq, ← cv00]; rfl
  have c1 : w2.cell? ⟨g1, 1, none⟩ = some (.complex .f64 4617315517961601024 4607182418800017408) := by rw [cell_of_row _ _ _ _ _ _ hq, ← v51]; rfl
  have c2 : w2.cell? ⟨g1, 2, none⟩ = some (.complex .f64 4621819117588971520 4607182418800017408) := by rw [cell_of_row _ _ _ _ _ _ hq, ← v101]; rfl
  have c3 : w2.cell? ⟨g1, 3, none⟩ = some (cvW Option.none) := by rw [cell_of_row _ _ _ _ _ _ hq]; rfl
  have HN := Lib.hid (rnone_any Option.none w2 trivial)
  obtain ⟨x, hx⟩ : ∃ x, cvW Option.none = x := ⟨_, rfl⟩
  rw [hx] at HN c3
  have e0 := q00
  have e1 := q51
  have e2 := q101
  have e3 := q102
  clear hx hq hr hR
  go_wp2_with fail
  refine HN.out.mono ?_
  rintro e w3 ⟨rfl, rfl⟩
  go_wp2_with fail
  have hr5 : (w2.alloc (.cells #[.int .u32 5, .int .u32 5] 38)).heap[w2.heap.size]? = some (.cells #[.int .u32 5, .int .u32 5] 38 (0, 0)) := heap_alloc_new w2 _
  have hE5 : Ext w2 (w2.alloc (.cells #[.int .u32 5, .int .u32 5] 38)) := (Ext.refl _).alloc _
  generalize w2.alloc (.cells #[.int .u32 5, .int .u32 5] 38) = w5 at *
  generalize w2.heap.size = g5 at *
  have hI : IsInts w5 .u32 (.slice (some ⟨g5, 0, none⟩) [(5 : Int), 5].length 2) [5, 5] := .inr ⟨g5, 0, 2, rfl, by decide, by decide, by decide, heap_lt hr5, fun i hi => by
    rw [cell_of_row _ _ _ _ _ _ hr5]
    have : i = 0 ∨ i = 1 := by simp at hi; omega
    rcases this with rfl | rfl <;> rfl⟩
  refine (rlength_any _ _ _ hI (by intro z hz; simp at hz; omega) (by decide)).mono ?_
  rintro e w6 ⟨rfl, rfl⟩
  rw [show cvW (Option.some (sumC [5, 5], [(5 : Int), 5].length)) = .complex .f64 4621819117588971520 4611686018427387904 from v102]
  go_wp2_with fail
  go_ret
  exact ⟨rfl, hE2.trans hE5⟩

end Go.Proofs.Ytendaloeonbbeaa
