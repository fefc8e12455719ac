/- Boxes as rows: what a store leaves, with the world under a name. No statement is proved here. -/
import Derived.Test.YtheackckmhbodaaRegO
import Derived.Test.YtheackckmhbodaaFdA
import Derived.Laws.CopyRow
namespace Go.Proofs.Ytheackckmhbodaa
open Go.RowKit Go.BigFrame Go.WideShapes Go.ChangeShapes Go.Deep
set_option linter.unusedVariables false
set_option linter.unusedSimpArgs false

theorem Ext.mutE {a b c : World} {F : Nat → Prop} (h : Ext a b) (m : Mut F b c) (hF : ∀ k, k < a.heap.size → ¬ F k) : Ext a c :=
  ⟨m.1.trans h.os, m.2.1.trans h.tape, m.2.2.1.trans h.output, Nat.le_trans h.size m.2.2.2.1, fun k hk => (m.2.2.2.2 k (Nat.lt_of_lt_of_le hk h.size) (hF k hk)).trans (h.block k hk)⟩
theorem mut_setRow (w : World) (g : Nat) (cs : Array Value) : Mut (fun n => n = g) w (w.setRow g cs) := ⟨rfl, rfl, rfl, by simp, fun k _ hf => setRow_other w g k cs hf⟩
/-- A store into a box that is known as a row: the world behind it is a letter. -/
theorem st_at {P : Program} {ops : Array Oper} {rest : List Oper} {op : Oper} {a : Act} {w : World} {Q : Exit → Act → World → Prop} (hgd : op.guard = none) (hdst : op.dst = none) (ty : TypeId) (x y : Operand) (ho : op.op = .store ty x y)
    (g o : Nat) (u : Value) (vs cs cs' : Array Value) (t : TypeId) (hx : a.eval x = .pointer (some ⟨g, o, none⟩)) (hy : a.eval y = u) (hv : u.cells = vs) (hX : w.heap[g]? = some (.cells cs t (0, 0))) (hl : o + vs.size ≤ cs.size)
    (hi : (P.info? ty).map (·.size) = some vs.size) (h1 : vs.toList.all (·.oneCell') = true) (hcs : (cs.toList.take o ++ vs.toList ++ cs.toList.drop (o + vs.size)).toArray = cs')
    (h : ∀ w', w'.heap[g]? = some (.cells cs' t (0, 0)) → Mut (fun n => n = g) w w' → wpList P ops Q rest a w') : wpList P ops Q (op :: rest) a w := by
  subst hcs
  refine wpList_plain hgd fun K hK => ?_
  have h3 := run_storeCells_at (P := P) g o t vs.toList 0 cs w hX (by simpa using hl) (fun v hv => List.all_eq_true.1 h1 v hv)
  simp only [Nat.add_zero, Array.length_toList] at h3
  have hrun : (storeVar ty ⟨g, o, none⟩ u).run P w = .ok () (w.setRow g (cs.toList.take o ++ vs.toList ++ cs.toList.drop (o + vs.size)).toArray) := by
    cases hq : P.info? ty with
    | none => simp [hq] at hi
    | some i =>
      have hs : vs.size = i.size := by simp [hq] at hi; omega
      simp [storeVar, sizeOf, typeInfo, hq, hv, hs]
      simpa [hs] using h3
  unfold Oper.wp execOp
  simp only [ho, hx, hy, Instr.storeAt, Instr.sureAddr, Sem.run_bind, Sem.run_pure, Result.andThen_ok, hrun]
  refine hK _ _ ?_
  rw [show a.put op.dst undef = a by rw [hdst]; rfl]
  exact h _ (setRow_heap _ _ _ _ _ _ hX) (mut_setRow w g _)
theorem at_alloc (T : TypeId) {P : Program} {ops : Array Oper} {rest : List Oper} {a : Act} {w : World} {Q : Exit → Act → World → Prop} {d : Option Tmp} {ty : TypeId} {pos : String} {after : Array Edge}
    (h : wpList P ops Q ({ dst := d, op := .alloc T, type := ty, pos := pos, after := after, guard := none } :: rest) a w) : wpList P ops Q ({ dst := d, op := .alloc T, type := ty, pos := pos, after := after, guard := none } :: rest) a w := h
/-- A new variable: its world is a letter. -/
theorem al_zero {P : Program} {ops : Array Oper} {rest : List Oper} {op : Oper} {a : Act} {w : World} {Q : Exit → Act → World → Prop} (hgd : op.guard = none) (ty : TypeId) (ho : op.op = .alloc ty)
    (z : Array Value) (hz : ∀ w, (zeroValue ty).run P w = .ok (.agg z) w) (h : ∀ (X : Nat) (w' : World), w'.heap[X]? = some (.cells z ty (0, 0)) → w.heap.size = X → Ext w w' → wpList P ops Q rest (a.put op.dst (.pointer (some ⟨X, 0, none⟩))) w') : wpList P ops Q (op :: rest) a w :=
  wpList_plain hgd fun K hK => wp_alloc_zero ty ho z (hz w) (hK _ _ (h _ _ (heap_alloc_new _ _) rfl ((Ext.refl w).alloc _)))
/-- The same among operations in an open order. -/
theorem wp_st_at {P : Program} {op : Oper} {a : Act} {w : World} {K : Act → World → Prop} {Q : Exit → Act → World → Prop} (hdst : op.dst = none) (ty : TypeId) (x y : Operand) (ho : op.op = .store ty x y)
    (g o : Nat) (u : Value) (vs cs cs' : Array Value) (t : TypeId) (hx : a.eval x = .pointer (some ⟨g, o, none⟩)) (hy : a.eval y = u) (hv : u.cells = vs) (hX : w.heap[g]? = some (.cells cs t (0, 0))) (hl : o + vs.size ≤ cs.size)
    (hi : (P.info? ty).map (·.size) = some vs.size) (h1 : vs.toList.all (·.oneCell') = true) (hcs : (cs.toList.take o ++ vs.toList ++ cs.toList.drop (o + vs.size)).toArray = cs')
    (h : ∀ w', w'.heap[g]? = some (.cells cs' t (0, 0)) → Mut (fun n => n = g) w w' → K a w') : op.wp P a w K Q := by
  subst hcs
  have h3 := run_storeCells_at (P := P) g o t vs.toList 0 cs w hX (by simpa using hl) (fun v hv => List.all_eq_true.1 h1 v hv)
  simp only [Nat.add_zero, Array.length_toList] at h3
  have hrun : (storeVar ty ⟨g, o, none⟩ u).run P w = .ok () (w.setRow g (cs.toList.take o ++ vs.toList ++ cs.toList.drop (o + vs.size)).toArray) := by
    cases hq : P.info? ty with
    | none => simp [hq] at hi
    | some i =>
      have hs : vs.size = i.size := by simp [hq] at hi; omega
      simp [storeVar, sizeOf, typeInfo, hq, hv, hs]
      simpa [hs] using h3
  unfold Oper.wp execOp
  simp only [ho, hx, hy, Instr.storeAt, Instr.sureAddr, Sem.run_bind, Sem.run_pure, Result.andThen_ok, hrun]
  have h4 : K (a.put op.dst undef) (w.setRow g (cs.toList.take o ++ vs.toList ++ cs.toList.drop (o + vs.size)).toArray) := by
    rw [show a.put op.dst undef = a by rw [hdst]; rfl]
    exact h _ (setRow_heap _ _ _ _ _ _ hX) (mut_setRow w g _)
  exact h4
theorem wp_al_zero {P : Program} {op : Oper} {a : Act} {w : World} {K : Act → World → Prop} {Q : Exit → Act → World → Prop} (ty : TypeId) (ho : op.op = .alloc ty)
    (z : Array Value) (hz : ∀ w, (zeroValue ty).run P w = .ok (.agg z) w) (h : ∀ (X : Nat) (w' : World), w'.heap[X]? = some (.cells z ty (0, 0)) → w.heap.size = X → Ext w w' → K (a.put op.dst (.pointer (some ⟨X, 0, none⟩))) w') : op.wp P a w K Q :=
  wp_alloc_zero ty ho z (hz w) (h _ _ (heap_alloc_new _ _) rfl ((Ext.refl w).alloc _))
/-- Two may come up. -/
theorem runL2 {P : Program} {md : Region.Mode} {Q : Exit → Act → World → Prop} {S : World → Prop} {l r1 r2 : List Oper} {i j : Nat} {oi oj : Oper} {fuel : Nat} {listed : Array Bool} {a : Act} {w : World} (hi : l.drop i = oi :: r1) (hgi : oi.guard = none)
    (hj : l.drop j = oj :: r2) (hgj : oj.guard = none) (hr : Region.ready md l.toArray listed = [i, j])
    (h1 : ∀ K' : Act → World → Prop, Shut (∀ a w, S w → (S w → wpAnyH P md l.toArray Q S fuel (listed.setIfInBounds i true) a w) → K' a w) → Oper.wp P oi a w K' Q)
    (h2 : ∀ K' : Act → World → Prop, Shut (∀ a w, S w → (S w → wpAnyH P md l.toArray Q S fuel (listed.setIfInBounds j true) a w) → K' a w) → Oper.wp P oj a w K' Q) : wpAnyH P md l.toArray Q S (fuel + 1) listed a w := by
  have at_ : ∀ {n : Nat} {o : Oper} {r : List Oper}, l.drop n = o :: r → l.toArray[n]? = some o := fun {n o r} h => by
    have e : (l.drop n)[0]? = some o := by rw [h]; rfl
    rw [List.getElem?_drop, Nat.add_zero] at e
    simpa using e
  refine wpAnyH_ready hr (by simp) (AllReadyH.cons (o := oi) (at_ hi) (fun K hK => ?_) (AllReadyH.cons (o := oj) (at_ hj) (fun K hK => ?_) AllReadyH.nil))
  · rw [if_pos (by simp [Region.wanted, hgi])]
    exact h1 K hK
  · rw [if_pos (by simp [Region.wanted, hgj])]
    exact h2 K hK

end Go.Proofs.Ytheackckmhbodaa
