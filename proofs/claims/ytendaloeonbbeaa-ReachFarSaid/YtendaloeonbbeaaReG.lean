/- How far it is: the search's memory. No statement is proved here. -/
import Derived.Test.YtendaloeonbbeaaReF
namespace Go.Proofs.Ytendaloeonbbeaa
open Go.RowKit Go.BigFrame Go.WideShapes Go.ChangeShapes Go.Deep
set_option linter.unusedVariables false
set_option linter.unusedSimpArgs false

theorem made_rep (z : Value) (n : Nat) : madeCells #[z] n = (List.replicate n z).toArray := by
  apply Array.ext'
  apply List.ext_getElem?
  intro i
  by_cases h : i < n
  · simp [madeCells, h, Nat.mod_one, List.getElem?_replicate]
  · rw [List.getElem?_eq_none (by simp [madeCells]; omega), List.getElem?_eq_none (by simp; omega)]
theorem cv00 : cvW (Option.some (0, 0)) = .complex .f64 0 0 := by
  show Value.complex .f64 (fl 0) (fl 0) = _
  rw [fl_zero]
structure FarM (w : World) (g1 g2 T n : Nat) (S : Nat → List Hp) (vs : List Value) (D : List Way) (dn : List Bool) : Prop where
  way : w.heap[g1]? = some (.cells (D.map cvW).toArray 30 (0, 0))
  don : w.heap[g2]? = some (.cells (dn.map Value.bool).toArray 4 (0, 0))
  rows : Rows w (T + 1) T n S vs
  n12 : g1 ≠ g2
  nT : T ≠ g1 ∧ T ≠ g2
  own : ∀ f m, f < n → (vs.getD f undef).ownBlock = some m → m ≠ g1 ∧ m ≠ g2
theorem FarM.ext {w w' : World} {g1 g2 T n : Nat} {S : Nat → List Hp} {vs : List Value} {D : List Way} {dn : List Bool} (h : FarM w g1 g2 T n S vs D dn) (hx : Ext w w') : FarM w' g1 g2 T n S vs D dn :=
  ⟨(hx.block _ (heap_lt h.way)).trans h.way, (hx.block _ (heap_lt h.don)).trans h.don, h.rows.ext hx, h.n12, h.nT, h.own⟩
theorem FarM.setWay {w w' : World} {g1 g2 T n : Nat} {S : Nat → List Hp} {vs : List Value} {D D' : List Way} {dn : List Bool} (h : FarM w g1 g2 T n S vs D dn) (hq : w'.heap[g1]? = some (.cells (D'.map cvW).toArray 30 (0, 0))) (hm : Mut (fun m => m = g1) w w') : FarM w' g1 g2 T n S vs D' dn :=
  ⟨hq, (hm.heap (heap_lt h.don) (Ne.symm h.n12)).trans h.don, h.rows.keep (hm.heap (heap_lt h.rows.row) h.nT.1) (fun f g hf hg => hm.heap (own_lt2 (h.rows.own f hf) hg).2 (h.own f g hf hg).1), h.n12, h.nT, h.own⟩
theorem FarM.setDone {w w' : World} {g1 g2 T n : Nat} {S : Nat → List Hp} {vs : List Value} {D : List Way} {dn dn' : List Bool} (h : FarM w g1 g2 T n S vs D dn) (hq : w'.heap[g2]? = some (.cells (dn'.map Value.bool).toArray 4 (0, 0))) (hm : Mut (fun m => m = g2) w w') : FarM w' g1 g2 T n S vs D dn' :=
  ⟨(hm.heap (heap_lt h.way) h.n12).trans h.way, hq, h.rows.keep (hm.heap (heap_lt h.rows.row) h.nT.2) (fun f g hf hg => hm.heap (own_lt2 (h.rows.own f hf) hg).2 (h.own f g hf hg).2), h.n12, h.nT, h.own⟩
theorem FarM.wayAt {w : World} {g1 g2 T n : Nat} {S : Nat → List Hp} {vs : List Value} {D : List Way} {dn : List Bool} (h : FarM w g1 g2 T n S vs D dn) : WayAt w g1 D := ⟨heap_lt h.way, fun i hi => by
  rw [cell_of_row _ _ _ _ _ _ h.way]
  simp [List.getD, hi]⟩
theorem FarM.boolAt {w : World} {g1 g2 T n : Nat} {S : Nat → List Hp} {vs : List Value} {D : List Way} {dn : List Bool} (h : FarM w g1 g2 T n S vs D dn) : BoolAt w g2 dn := ⟨heap_lt h.don, fun i hi => by
  rw [cell_of_row _ _ _ _ _ _ h.don]
  simp [List.getD, hi]⟩
theorem FarM.cellT {w : World} {g1 g2 T n : Nat} {S : Nat → List Hp} {vs : List Value} {D : List Way} {dn : List Bool} (h : FarM w g1 g2 T n S vs D dn) {k : Nat} (hk : k < n) : w.cell? ⟨T, k, none⟩ = some (vs.getD k undef) := by
  rw [cell_of_row _ _ _ _ _ _ h.rows.row]
  have := h.rows.len
  simp [List.getD, this, hk]
theorem way_row {D : List Way} {k : Nat} (q : Way) (hk : k < D.length) : ((D.map cvW).toArray.toList.take k ++ (#[cvW q] : Array Value).toList ++ (D.map cvW).toArray.toList.drop (k + (#[cvW q] : Array Value).size)).toArray = ((D.set k q).map cvW).toArray := by
  rw [set_row (by simpa using hk), List.map_set]
theorem bool_row {D : List Bool} {k : Nat} (q : Bool) (hk : k < D.length) : ((D.map Value.bool).toArray.toList.take k ++ (#[Value.bool q] : Array Value).toList ++ (D.map Value.bool).toArray.toList.drop (k + (#[Value.bool q] : Array Value).size)).toArray = ((D.set k q).map Value.bool).toArray := by
  rw [set_row (by simpa using hk), List.map_set]
theorem cvW_one (q : Way) : (cvW q).oneCell' = true := by cases q <;> rfl
theorem cvW_cells (q : Way) : (cvW q).cells = #[cvW q] := by cases q <;> rfl
/-- What lies in an own row. -/
theorem own_range {w : World} {base size n g cap : Nat} {e : TypeId} {xs : List Value} (h : w.ownsRow base e size (.slice (some ⟨g, 0, none⟩) n cap) n xs) : w.rangeAt g 0 xs := fun j v hv => by
  rcases h.2 with ⟨h0, -⟩ | ⟨g2, cap2, cur, e1, e2, e3, e4, e5, e6, e7⟩
  · cases h0
  · cases e1
    rw [Nat.zero_add, cell_of_row _ _ _ _ _ _ e3]
    rw [← e7, List.getElem?_take] at hv
    split at hv
    · simpa using hv
    · cases hv
/-- The points that are done with, read out of memory. -/
def readB (w : World) (g n : Nat) : List Bool := (List.range n).map fun i => match w.cell? ⟨g, i, none⟩ with | some (.bool b) => b | _ => false
theorem readB_eq {w : World} {g n : Nat} {dn : List Bool} (h : BoolAt w g dn) (hl : dn.length = n) : readB w g n = dn := by
  apply List.ext_getElem?
  intro i
  unfold readB
  by_cases hi : i < n
  · rw [List.getElem?_map, List.getElem?_range hi]
    have := h.2 i (by omega)
    simp only [Option.map_some, this]
    rw [List.getElem?_eq_getElem (by omega)]
    simp [List.getD, List.getElem?_eq_getElem (show i < dn.length by omega)]
  · rw [List.getElem?_eq_none (by simp; omega), List.getElem?_eq_none (by omega)]
theorem rep_step {α : Type} (x y : α) (n k : Nat) (hk : k < n) : (List.replicate k x ++ List.replicate (n - k) y).set k x = List.replicate (k + 1) x ++ List.replicate (n - (k + 1)) y := by
  apply List.ext_getElem?
  intro i
  rw [List.getElem?_set]
  by_cases e : k = i
  · subst e
    rw [if_pos rfl, if_pos (by simp; omega), List.getElem?_append_left (by simp), List.getElem?_replicate, if_pos (by omega)]
  · rw [if_neg e]
    by_cases h : i < k
    · rw [List.getElem?_append_left (by simpa using h), List.getElem?_append_left (by simp; omega), List.getElem?_replicate, List.getElem?_replicate, if_pos h, if_pos (by omega)]
    · rw [List.getElem?_append_right (by simp; omega), List.getElem?_append_right (by simp; omega), List.getElem?_replicate, List.getElem?_replicate]
      simp only [List.length_replicate]
      by_cases h2 : i < n
      · rw [if_pos (by omega), if_pos (by omega)]
      · rw [if_neg (by omega), if_neg (by omega)]

end Go.Proofs.Ytendaloeonbbeaa
