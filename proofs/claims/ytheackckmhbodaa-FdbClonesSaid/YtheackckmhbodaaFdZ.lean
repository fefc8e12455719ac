/- An entry out of the answer of All. No statement is proved here. -/
import Derived.Test.YtheackckmhbodaaFdY
namespace Go.Proofs.Ytheackckmhbodaa
open Go.RowKit Go.BigFrame Go.WideShapes Go.ChangeShapes Go.Deep
set_option linter.unusedVariables false
set_option linter.unusedSimpArgs false

theorem evs_at : ∀ (L : List En) (k : Nat) (hk : k < L.length) (j : Nat), j < 3 → (evs L)[k * 3 + j]? = (ev (L[k]'hk))[j]?
  | a :: r, 0, _, j, hj => by
    show (ev a ++ evs r)[0 * 3 + j]? = _
    rw [List.getElem?_append_left (by simp [ev]; omega)]
    simp
  | a :: r, k + 1, hk, j, hj => by
    show (ev a ++ evs r)[(k + 1) * 3 + j]? = _
    rw [List.getElem?_append_right (by simp [ev]; omega), show (k + 1) * 3 + j - (ev a).length = k * 3 + j by simp [ev]; omega, evs_at r k (by simpa using hk) j hj]
    rfl
theorem ent_range {w : World} {base g cap n : Nat} {L : List En} (h : w.ownsRow base 43 3 (.slice (some ⟨g, 0, none⟩) n cap) n (evs L)) (hn : L.length = n) (k : Nat) (hk : k < L.length) : w.rangeAt g (k * 3) (ev (L[k]'hk)) := by
  intro j v hv
  have hj : j < 3 := by
    have := (List.getElem?_eq_some_iff.1 hv).1
    simpa [ev] using this
  rcases h.2 with ⟨h0, _⟩ | ⟨g', cap', cur, hv', hb, hg, h1, h2, h3, h4⟩
  · cases h0
  · cases hv'
    have e : (cur.toList.take (n * 3))[k * 3 + j]? = (evs L)[k * 3 + j]? := by rw [h4]
    rw [List.getElem?_take_of_lt (by omega), Array.getElem?_toList, evs_at L k hk j hj, hv] at e
    simp [World.cell?, hg, e]
theorem size_ent : (Try.prog.info? 43).map (·.size) = some 3 := by kernel_rfl

end Go.Proofs.Ytheackckmhbodaa
