/- Slices of integers that came in, or that are laid: what they read as. No statement is proved here. -/
import Derived.Test.YtheackckmhbodaaBase
import Derived.ChangeSlices
import Derived.Laws.AppendOwn
namespace Go.Proofs.Ytheackckmhbodaa
open Go.RowKit Go.WideShapes Go.ChangeShapes
set_option linter.unusedVariables false
set_option linter.unusedSimpArgs false

/-- A value that reads as these integers. -/
def IsInts (w : World) (k : IntKind) (v : Value) (xs : List Int) : Prop :=
  (xs = [] ∧ (v = .slice none 0 0 ∨ ∃ a cap, v = .slice (some a) 0 cap)) ∨
  ∃ b off cap, v = .slice (some ⟨b, off, none⟩) xs.length cap ∧ 0 < xs.length ∧ xs.length ≤ cap ∧ cap ≤ maxLen ∧ b < w.heap.size ∧ ∀ i, i < xs.length → w.cell? ⟨b, off + i, none⟩ = some (.int k (xs.getD i 0))

theorem IsInts.ext {w w' : World} {k : IntKind} {v : Value} {xs : List Int} (h : IsInts w k v xs) (hx : Ext w w') : IsInts w' k v xs := by
  rcases h with h | ⟨b, off, cap, h1, g0, g1, g2, h2, h3⟩
  · exact .inl h
  · exact .inr ⟨b, off, cap, h1, g0, g1, g2, Nat.lt_of_lt_of_le h2 hx.size, fun i hi => (hx.cell h2).trans (h3 i hi)⟩

theorem IsInts.form {w : World} {k : IntKind} {v : Value} {xs : List Int} (h : IsInts w k v xs) : ∃ a cap, v = .slice a xs.length cap ∧ xs.length ≤ 9223372036854775807 ∧
    (0 < xs.length → ∃ b off, a = some ⟨b, off, none⟩ ∧ b < w.heap.size ∧ xs.length ≤ cap ∧ cap ≤ 9223372036854775807 ∧ ∀ i, i < xs.length → w.cell? ⟨b, off + i, none⟩ = some (.int k (xs.getD i 0))) := by
  rcases h with ⟨rfl, rfl | ⟨a, cap, rfl⟩⟩ | ⟨b, off, cap, rfl, h0, h1, h2, h3, h4⟩
  · exact ⟨none, 0, rfl, by simp, fun h => by simp at h⟩
  · exact ⟨some a, cap, rfl, by simp, fun h => by simp at h⟩
  · unfold maxLen at h2
    exact ⟨_, cap, rfl, by omega, fun _ => ⟨b, off, rfl, h3, h1, by omega, h4⟩⟩

theorem open_intlist {H : Type} {enc : TypeId × Value → H} {P : Program} {w : World} {r : Reach} {b0 : Nat} {t e : TypeId} {k : IntKind} {v : Value} {d : DataW H} {p : List MemPlace}
    (ht : P.underlying t = some (.slice e)) (he : P.underlying e = some (.int k)) (hc : P.cellsOf e = 1) (hv : Value.okWide P w r b0 t v) (h : DataW.Trod enc P w 0 (fun _ => true) true t v d p) :
    ∃ zs : List Int, IsInts w k v zs ∧ ∀ z ∈ zs, (Lit.int k z).wf = true := by
  obtain ⟨fuel, hf⟩ := h
  obtain ⟨a0, l0, c0, rfl⟩ := okWide_slice ht hv
  have slice_of : ∀ {a : Option Addr} {l c : Nat}, (Value.slice a0 l0 c0).cells.toList = [.slice a l c] → Value.slice a0 l0 c0 = .slice a l c := by
    intro a l c h1
    simpa [Value.cells] using h1
  rcases open_ints ht he hc hf with ⟨hcs, _⟩ | ⟨a, len, cap, zs, hcs, _, hl, hm, hz, _, hcell, hwz⟩
  · exact ⟨[], .inl ⟨rfl, .inl (slice_of hcs)⟩, fun z hz => by simp at hz⟩
  · have hv' := slice_of hcs
    simp only [if_true] at hz
    by_cases h0 : len = 0
    · subst h0
      exact ⟨[], .inl ⟨rfl, .inr ⟨_, _, hv'⟩⟩, fun z hz => by simp at hz⟩
    · obtain ⟨b, off, spot⟩ := a
      have hspot : spot = none := by simpa [Addr.add] using World.cell?_spot (hcell 0 (by omega))
      subst hspot
      have hlen : (zs.take len).length = len := by rw [List.length_take]; omega
      refine ⟨zs.take len, .inr ⟨b, off, cap, by rw [hlen]; exact hv', by omega, by omega, hm, ?_, fun i hi => ?_⟩, fun z hz => hwz z (List.mem_of_mem_take hz)⟩
      · have := hcell 0 (by omega)
        rw [add_plain] at this
        rcases Nat.lt_or_ge b w.heap.size with h | h
        · exact h
        · exfalso
          have hn : w.heap[b]? = none := Array.getElem?_eq_none h
          simp [World.cell?, hn] at this
      · have := hcell i (by omega)
        rw [add_plain] at this
        rw [this]
        simp [List.getD, List.getElem?_take, show i < len by omega]

end Go.Proofs.Ytheackckmhbodaa
