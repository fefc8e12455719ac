/- A bridge put into its box. No statement is proved here. -/
import Derived.Test.YtemmfbedchfekaaBrAq
namespace Go.Proofs.Ytemmfbedchfekaa
open Go.RowKit Go.BigFrame Go.WideShapes Go.ChangeShapes Go.Deep
set_option linter.unusedVariables false
set_option linter.unusedSimpArgs false

theorem OwnC.size {w : World} {N : Nat} {c : Array Value} {B : Br} (h : OwnC w N c B) (ho : B.ok) : c.size = 20 := by
  obtain ⟨s1, s2, s3, rfl, _⟩ := h
  have := ho.hd.1
  simp only [HL] at this
  simp; simpa using this
theorem OwnC.one {w : World} {N : Nat} {c : Array Value} {B : Br} (h : OwnC w N c B) (ho : B.ok) : c.toList.all (·.oneCell') = true := by
  obtain ⟨s1, s2, s3, rfl, h1, h2, h3⟩ := h
  obtain ⟨_, _, rfl⟩ := own_form h1
  obtain ⟨_, _, rfl⟩ := own_form h2
  obtain ⟨_, _, rfl⟩ := own_form h3
  rw [List.all_eq_true]
  intro v hv
  simp at hv
  rcases hv with hv | rfl | rfl | rfl
  · exact ho.hd.one v hv
  · rfl
  · rfl
  · rfl
theorem OwnC.made {w : World} {N : Nat} {c : Array Value} {B : Br} (h : OwnC w N c B) (hN : N ≤ w.heap.size) (hp : 0 < B.np) :
    ∃ g, BrG (w.alloc (.cells c 33)) (fun k => N ≤ k ∧ k < w.heap.size + 1) w.heap.size g B := by
  obtain ⟨s1, s2, s3, rfl, ⟨hl, h1⟩, h2, h3⟩ := h
  rcases h1 with ⟨_, h0⟩ | ⟨g, cap, cur, rfl, hb, hg, hn, hm, hs, ht⟩
  · omega
  · have keep : ∀ {e : TypeId} {m n : Nat} {v : Value} {xs : List Value} (o : Obj), w.ownsRow N e m v n xs → (w.alloc o).ownsRow 0 e m v n xs ∧ ∀ h, v.ownBlock = some h → (N ≤ h ∧ h < w.heap.size + 1) := by
      intro e m n v xs o h
      obtain ⟨hz, h4⟩ := owns_keep (w' := w.alloc o) h (fun g _ hl => heap_alloc_old _ _ hl)
      refine ⟨⟨hz, ?_⟩, fun b hb => ?_⟩
      · rcases h4 with h4 | ⟨a, b, c, d, e1, rest⟩
        · exact .inl h4
        · exact .inr ⟨a, b, c, d, Nat.zero_le _, rest⟩
      · have := h.lt b hb
        exact ⟨this.1, by omega⟩
    obtain ⟨p, r⟩ := keep _ h2
    obtain ⟨q, s⟩ := keep _ h3
    exact ⟨g, ⟨hN, by omega⟩, ⟨hb, by have := heap_lt hg; omega⟩, cap, cur, s2, s3, heap_alloc_new _ _, (heap_alloc_old _ _ (heap_lt hg)).trans hg, hs, hn, hm, ht, p, q, r, s⟩

end Go.Proofs.Ytemmfbedchfekaa
