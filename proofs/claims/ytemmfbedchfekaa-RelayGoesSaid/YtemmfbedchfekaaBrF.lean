/- Contracts on bridges: whether one may be, its ports' places. No statement is proved here. -/
import Derived.Test.YtemmfbedchfekaaBr
import Derived.Deep.WholeRow
namespace Go.Proofs.Ytemmfbedchfekaa
open Go.RowKit Go.WideShapes Go.ChangeShapes Go.Deep
set_option linter.unusedVariables false
set_option linter.unusedSimpArgs false

theorem IsRow.form {w : World} {m n : Nat} {v : Value} {xs : List Value} (h : IsRow w m v n xs) : ∃ a cap, v = .slice a n cap ∧ n ≤ 9223372036854775807 ∧ (0 < n → ∃ b off, a = some ⟨b, off, none⟩ ∧ b < w.heap.size ∧ n ≤ cap ∧ cap ≤ 9223372036854775807 ∧ w.rangeAt b off xs) := by
  obtain ⟨_, ⟨rfl, rfl | ⟨a, cap, rfl⟩⟩ | ⟨b, off, cap, rfl, h0, h1, h2, h3, h4⟩⟩ := h
  · exact ⟨none, 0, rfl, by simp, fun h => by simp at h⟩
  · exact ⟨some a, cap, rfl, by simp, fun h => by simp at h⟩
  · unfold maxLen at h2
    exact ⟨_, cap, rfl, by omega, fun _ => ⟨b, off, rfl, h3, h1, h2, h4⟩⟩

theorem BrC.facts {w : World} {c : Array Value} {B : Br} (h : BrC w c B) (hl : B.hd.length = 17) : ∃ s1 s2 s3, c.size = 20 ∧ (∀ j, j < 17 → c[j]? = B.hd[j]?) ∧ c[17]? = some s1 ∧ c[18]? = some s2 ∧ c[19]? = some s3 ∧ IsRow w 89 s1 B.np B.ps ∧ IsRow w 18 s2 B.no B.os ∧ IsRow w 1 s3 B.nf B.fl := by
  obtain ⟨s1, s2, s3, rfl, h1, h2, h3⟩ := h
  refine ⟨s1, s2, s3, by simp [hl], fun j hj => ?_, ?_, ?_, ?_, h1, h2, h3⟩
  · simp only [List.getElem?_toArray]
    exact List.getElem?_append_left (by omega)
  · simp [hl]
  · simp [hl]
  · simp [hl]

/-- A box's cells in a later world. -/
theorem box_cell {w w' : World} {c : Array Value} {t : TypeId} (hx : Ext (w.alloc (.cells c t)) w') : ∀ j, w'.cell? ⟨w.heap.size, j, none⟩ = c[j]? :=
  fun j => (hx.cell (by simp)).trans (World.cell?_alloc_at _ _ _ _ rfl)
theorem box_heap {w w' : World} {c : Array Value} {t : TypeId} (hx : Ext (w.alloc (.cells c t)) w') : w'.heap[w.heap.size]? = some (.cells c t (0, 0)) :=
  (hx.block _ (by simp)).trans (heap_alloc_new _ _)

theorem size_br : (Try.prog.info? 33).map (·.size) = some 20 := by kernel_rfl
theorem size_port : (Try.prog.info? 69).map (·.size) = some 89 := by kernel_rfl

def zc : Option IntKind → Value
  | none => .bool false
  | some k => .int k 0
/-- A port's cells at first. -/
def PZ : Array Value := (PL.map zc).toArray
theorem size_PZ : PZ.size = 89 := by kernel_rfl
theorem zero_port : ∀ w, (zeroValue 69).run Try.prog w = .ok (.agg PZ) w := (zero_of_info (P := Try.prog) (t := 69) (v := .agg PZ) (n := 89) (by kernel_rfl)).1

/-- Guards for the walk's own arms: the next operation is a load, a store, of this type. -/
theorem at_load (T : TypeId) {P : Program} {ops : Array Oper} {rest : List Oper} {a : Act} {w : World} {Q : Exit → Act → World → Prop} {d : Option Tmp} {x : Operand} {ty : TypeId} {pos : String} {af : Array Edge}
    (h : wpList P ops Q ({ dst := d, op := .load T x, type := ty, pos := pos, after := af, guard := none } :: rest) a w) : wpList P ops Q ({ dst := d, op := .load T x, type := ty, pos := pos, after := af, guard := none } :: rest) a w := h
theorem at_store (T : TypeId) {P : Program} {ops : Array Oper} {rest : List Oper} {a : Act} {w : World} {Q : Exit → Act → World → Prop} {d : Option Tmp} {x y : Operand} {ty : TypeId} {pos : String} {af : Array Edge}
    (h : wpList P ops Q ({ dst := d, op := .store T x y, type := ty, pos := pos, after := af, guard := none } :: rest) a w) : wpList P ops Q ({ dst := d, op := .store T x y, type := ty, pos := pos, after := af, guard := none } :: rest) a w := h

theorem at_loadG (T : TypeId) {P : Program} {ops : Array Oper} {rest : List Oper} {a : Act} {w : World} {Q : Exit → Act → World → Prop} {d : Option Tmp} {x : Operand} {ty : TypeId} {pos : String} {af : Array Edge} {gd : Nat × Bool}
    (h : wpList P ops Q ({ dst := d, op := .load T x, type := ty, pos := pos, after := af, guard := some gd } :: rest) a w) : wpList P ops Q ({ dst := d, op := .load T x, type := ty, pos := pos, after := af, guard := some gd } :: rest) a w := h
/-- Where the operation's guard lets it run. -/
theorem wpList_load_rowG {P : Program} {ops : Array Oper} {rest : List Oper} {o : Oper} {a : Act} {w : World} {Q : Exit → Act → World → Prop} (hw : Region.wanted o (yielded ops a.tmps) = true) (ty : TypeId) (x : Operand) (ho : o.op = .load ty x)
    (g : Nat) (hx : a.eval x = .pointer (some ⟨g, 0, none⟩)) (t : TypeId) (cs : Array Value) (fr : Nat × Nat) (d : TypeDesc) (hg : w.heap[g]? = some (.cells cs t fr))
    (hu : P.underlying ty = some d) (hd : (match d with | .struct _ | .array _ _ => true | _ => false) = true) (hi : (P.info? ty).map (·.size) = some cs.size)
    (h : wpList P ops Q rest (a.put o.dst (.agg cs)) w) : wpList P ops Q (o :: rest) a w :=
  BigFrame.wpList_want hw fun _ hK => wp_load_row ty x ho g hx t cs fr d hg hu hd hi (hK _ _ h)
theorem wpList_load_midG {P : Program} {ops : Array Oper} {rest : List Oper} {op : Oper} {a : Act} {w : World} {Q : Exit → Act → World → Prop} (hw : Region.wanted op (yielded ops a.tmps) = true) (ty : TypeId) (x : Operand) (ho : op.op = .load ty x)
    (b o : Nat) (hx : a.eval x = .pointer (some ⟨b, o, none⟩)) (cs : List Value) (d : TypeDesc) (hc : w.rangeAt b o cs)
    (hu : P.underlying ty = some d) (hd : d.isRow = true) (hi : (P.info? ty).map (·.size) = some cs.length)
    (h : wpList P ops Q rest (a.put op.dst (.agg cs.toArray)) w) : wpList P ops Q (op :: rest) a w :=
  BigFrame.wpList_want hw fun _ hK => wp_load_mid ty x ho b o hx cs d hc hu hd hi (hK _ _ h)

/-- A whole value into the box that was made last. -/
theorem wpList_store_new {P : Program} {ops : Array Oper} {rest : List Oper} {op : Oper} {a : Act} {w : World} {Q : Exit → Act → World → Prop} (hgd : op.guard = none) (t : TypeId) (x y : Operand) (ho : op.op = .store t x y)
    (c c' : Array Value) (hx : a.eval x = .pointer (some ⟨w.heap.size, 0, none⟩)) (hy : a.eval y = .agg c') (hi : (P.info? t).map (·.size) = some c'.size) (hs : c.size = c'.size) (h1 : c'.all (·.oneCell') = true)
    (h : wpList P ops Q rest (a.put op.dst undef) (w.alloc (.cells c' t))) : wpList P ops Q (op :: rest) a (w.alloc (.cells c t)) :=
  wpList_plain hgd fun K hK => by
    unfold Oper.wp execOp
    simp only [ho, hx, hy, Instr.storeAt, Instr.sureAddr, Sem.run_bind, Sem.run_pure, Result.andThen_ok, run_storeVar_new w t c c' hi hs h1]
    exact hK _ _ h

/-- Likewise, into a box whose cells are told by another type. -/
theorem wpList_store_new2 {P : Program} {ops : Array Oper} {rest : List Oper} {op : Oper} {a : Act} {w : World} {Q : Exit → Act → World → Prop} (hgd : op.guard = none) (hdst : op.dst = none) (t t0 : TypeId) (x y : Operand) (ho : op.op = .store t x y)
    (c c' : Array Value) (n : Nat) (hx : a.eval x = .pointer (some ⟨n, 0, none⟩)) (hn : n = w.heap.size) (hy : a.eval y = .agg c') (hi : (P.info? t).map (·.size) = some c'.size) (hs : c.size = c'.size) (h1 : c'.toList.all (·.oneCell') = true)
    (h : wpList P ops Q rest a (w.alloc (.cells c' t0))) : wpList P ops Q (op :: rest) a (w.alloc (.cells c t0)) :=
  wpList_plain hgd fun K hK => by
    subst hn
    unfold Oper.wp execOp
    simp only [ho, hx, hy, Instr.storeAt, Instr.sureAddr, Sem.run_bind, Sem.run_pure, Result.andThen_ok, run_storeVar_row _ _ t0 t c c' (heap_alloc_new w _) hi hs (by rw [← Array.all_toList]; exact h1), World.setRow_alloc_new]
    exact hK _ _ (by rw [show a.put op.dst undef = a by rw [hdst]; rfl]; exact h)

/-- Likewise, the world behind it under a name. -/
theorem wpList_store_new3 {P : Program} {ops : Array Oper} {rest : List Oper} {op : Oper} {a : Act} {w : World} {Q : Exit → Act → World → Prop} (hgd : op.guard = none) (hdst : op.dst = none) (t t0 : TypeId) (x y : Operand) (ho : op.op = .store t x y)
    (c c' : Array Value) (n : Nat) (hx : a.eval x = .pointer (some ⟨n, 0, none⟩)) (hn : n = w.heap.size) (hy : a.eval y = .agg c') (hi : (P.info? t).map (·.size) = some c'.size) (hs : c.size = c'.size) (h1 : c'.toList.all (·.oneCell') = true)
    (h : ∀ w' : World, w' = w.alloc (.cells c' t0) → wpList P ops Q rest a w') : wpList P ops Q (op :: rest) a (w.alloc (.cells c t0)) :=
  wpList_plain hgd fun K hK => by
    subst hn
    unfold Oper.wp execOp
    simp only [ho, hx, hy, Instr.storeAt, Instr.sureAddr, Sem.run_bind, Sem.run_pure, Result.andThen_ok, run_storeVar_row _ _ t0 t c c' (heap_alloc_new w _) hi hs (by rw [← Array.all_toList]; exact h1), World.setRow_alloc_new]
    exact hK _ _ (by rw [show a.put op.dst undef = a by rw [hdst]; rfl]; exact h _ rfl)

/-- A port's cells. -/
def port (ps : List Value) (i : Nat) : List Value := (ps.drop (i * 89)).take 89
theorem port_typed {B : Br} (ho : B.ok) {i : Nat} (hi : i < B.np) : Typed PL (port B.ps i) := ho.ps.2 i hi
theorem port_range {w : World} {b off : Nat} {ps : List Value} (h : w.rangeAt b off ps) (i : Nat) : w.rangeAt b (off + i * 89) (port ps i) := fun j v hv => by
  unfold port at hv
  rw [List.getElem?_take] at hv
  split at hv
  · rw [List.getElem?_drop] at hv
    have := h _ _ hv
    rwa [← Nat.add_assoc] at this
  · cases hv

end Go.Proofs.Ytemmfbedchfekaa
