/- What the laws on bridges share. No statement is proved here. -/
import Derived.Test.YtnblchilgaimhaaBrR
import Derived.Test.YtnblchilgaimhaaBrS
namespace Go.Proofs.Ytnblchilgaimhaa
open Go.RowKit Go.WideShapes Go.ChangeShapes Go.Deep
set_option linter.unusedVariables false
set_option linter.unusedSimpArgs false

theorem Ext.mutE {a b c : World} {F : Nat → Prop} (h : Ext a b) (m : Mut F b c) (hF : ∀ k, k < a.heap.size → ¬ F k) : Ext a c :=
  ⟨m.1.trans h.os, m.2.1.trans h.tape, m.2.2.1.trans h.output, Nat.le_trans h.size m.2.2.2.1, fun k hk => (m.2.2.2.2 k (Nat.lt_of_lt_of_le hk h.size) (hF k hk)).trans (h.block k hk)⟩

theorem OwnC.size {w : World} {N : Nat} {c : Array Value} {B : Br} (h : OwnC w N c B) (ho : B.ok) : c.size = 20 := by
  obtain ⟨s1, s2, s3, rfl, _⟩ := h
  have := ho.hd.1
  simp only [HL] at this
  simp; simpa using this
theorem OwnC.one {w : World} {N : Nat} {c : Array Value} {B : Br} (h : OwnC w N c B) (ho : B.ok) : c.toList.all (·.oneCell') = true := by
  obtain ⟨s1, s2, s3, rfl, h1, h2, h3⟩ := h
  obtain ⟨_, _, rfl⟩ := own_form h1
  obtain ⟨_, _, rfl⟩ := own_form h2
  obtain ⟨_, _, rfl⟩ := own_form h3
  rw [List.all_eq_true]
  intro v hv
  simp at hv
  rcases hv with hv | rfl | rfl | rfl
  · exact ho.hd.one v hv
  · rfl
  · rfl
  · rfl
theorem OwnC.made {w : World} {N : Nat} {c : Array Value} {B : Br} (h : OwnC w N c B) (hN : N ≤ w.heap.size) (hp : 0 < B.np) :
    ∃ g, BrG (w.alloc (.cells c 33)) (fun k => N ≤ k ∧ k < w.heap.size + 1) w.heap.size g B := by
  obtain ⟨s1, s2, s3, rfl, ⟨hl, h1⟩, h2, h3⟩ := h
  rcases h1 with ⟨_, h0⟩ | ⟨g, cap, cur, rfl, hb, hg, hn, hm, hs, ht⟩
  · omega
  · have keep : ∀ {e : TypeId} {m n : Nat} {v : Value} {xs : List Value} (o : Obj), w.ownsRow N e m v n xs → (w.alloc o).ownsRow 0 e m v n xs ∧ ∀ h, v.ownBlock = some h → (N ≤ h ∧ h < w.heap.size + 1) := by
      intro e m n v xs o h
      obtain ⟨hz, h4⟩ := owns_keep (w' := w.alloc o) h (fun g _ hl => heap_alloc_old _ _ hl)
      refine ⟨⟨hz, ?_⟩, fun b hb => ?_⟩
      · rcases h4 with h4 | ⟨a, b, c, d, e1, rest⟩
        · exact .inl h4
        · exact .inr ⟨a, b, c, d, Nat.zero_le _, rest⟩
      · have := h.lt b hb
        exact ⟨this.1, by omega⟩
    obtain ⟨p, r⟩ := keep _ h2
    obtain ⟨q, s⟩ := keep _ h3
    exact ⟨g, ⟨hN, by omega⟩, ⟨hb, by have := heap_lt hg; omega⟩, cap, cur, s2, s3, heap_alloc_new _ _, (heap_alloc_old _ _ (heap_lt hg)).trans hg, hs, hn, hm, ht, p, q, r, s⟩

theorem lt89 {k N j : Nat} (hk : k < N) (hj : j < 89) : k * 89 + j < N * 89 := by omega

/-- What a step leaves. -/
def Stepped (w : World) (F : Nat → Prop) (X g : Nat) (r : Bool × Br) (e : Ending) (w' : World) : Prop := e = .returned (.bool r.1) ∧ BrG w' F X g r.2 ∧ Mut F w w'

theorem size_z20 : (#[Value.int .u64 0, .bool false, .int .i64 0, .int .i64 0, .int .i64 0, .int .i64 0, .int .i64 0, .int .u64 0, .int .u32 0, .int .u64 0, .int .u16 0, .int .u16 0, .int .i64 0, .int .i64 0, .int .i64 0, .int .i64 0, .int .i64 0, .slice none 0 0, .slice none 0 0, .slice none 0 0] : Array Value).size = 20 := rfl

end Go.Proofs.Ytnblchilgaimhaa
