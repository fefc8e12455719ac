/- Ports in rows of memory: chains of stores; an argument's box. No statement is proved here. -/
import Derived.Test.YthlapkddgnpaeaaPvAt
namespace Go.Proofs.Ythlapkddgnpaeaa
open Go.RowKit Go.BigFrame Go.WideShapes Go.ChangeShapes Go.Deep
set_option linter.unusedVariables false
set_option linter.unusedSimpArgs false

theorem pv_one {w : World} {G o j : Nat} {L : List Value} {v : Value} (h : Pv w G o (setL L j [v])) (hl : L.length = 89) (hj : j < 89) : Pv w G o (L.set j v) := by
  rw [setL_one v (by omega)] at h
  exact h
theorem len_setL {L vs : List Value} {j : Nat} (h : L.length = 89) (hj : j + vs.length ≤ 89) : (setL L j vs).length = 89 := by rw [setL_len (by omega), h]
theorem get_in {L vs : List Value} {i j : Nat} {v : Value} (h : L.length = 89) (hj : (decide (j ≤ i) && decide (i < j + vs.length) && decide (j + vs.length ≤ 89)) = true) (hv : vs[i - j]? = some v) : (setL L j vs)[i]? = some v := by
  simp only [Bool.and_eq_true, decide_eq_true_eq] at hj
  rw [setL_at (by omega), if_pos hj.1, hv]
theorem get_out {L vs : List Value} {i j : Nat} (h : L.length = 89) (hj : j + vs.length ≤ 89) (hi : i < j ∨ j + vs.length ≤ i) : (setL L j vs)[i]? = L[i]? := by
  rw [setL_at (by omega), if_neg (by omega)]
theorem seg_ne {L : List Value} {i j n : Nat} {v : Value} (h : i < j ∨ j + n ≤ i) : ((L.set i v).drop j).take n = (L.drop j).take n := by
  apply List.ext_getElem?
  intro m
  rw [List.getElem?_take, List.getElem?_take]
  split
  · rw [List.getElem?_drop, List.getElem?_drop, List.getElem?_set_ne (by omega)]
  · rfl
theorem seg_out {L vs : List Value} {i j n : Nat} (hl : L.length = 89) (hi : i + vs.length ≤ 89) (h : i + vs.length ≤ j ∨ j + n ≤ i) : ((setL L i vs).drop j).take n = (L.drop j).take n := by
  apply List.ext_getElem?
  intro m
  rw [List.getElem?_take, List.getElem?_take]
  split
  · rw [List.getElem?_drop, List.getElem?_drop, setL_at (by omega), if_neg (by omega)]
  · rfl
theorem at_box (T : TypeId) {P : Program} {ops : Array Oper} {rest : List Oper} {a : Act} {w : World} {Q : Exit → Act → World → Prop} {d : Option Tmp} {x : Operand} {ty : TypeId} {pos : String} {after : Array Edge}
    (h : wpList P ops Q ({ dst := d, op := .box T x, type := ty, pos := pos, after := after, guard := none } :: rest) a w) : wpList P ops Q ({ dst := d, op := .box T x, type := ty, pos := pos, after := after, guard := none } :: rest) a w := h
theorem bx_row {P : Program} {ops : Array Oper} {rest : List Oper} {op : Oper} {a : Act} {w : World} {Q : Exit → Act → World → Prop} (hgd : op.guard = none) (t : TypeId) (x : Operand) (ho : op.op = .box t x) (cells : Array Value) (hx : (a.eval x).cells = cells)
    (h : ∀ (X : Nat) (w' : World), w'.heap[X]? = some (.cells cells t (0, 0)) → w.heap.size = X → Ext w w' → wpList P ops Q rest (a.put op.dst (.pointer (some ⟨X, 0, none⟩))) w') : wpList P ops Q (op :: rest) a w := by
  subst hx
  refine wpList_plain hgd fun K hK => ?_
  unfold Oper.wp execOp
  simp only [ho, Sem.run_bind, Instr.box, newVar, newRow, run_newObj_alloc, Sem.run_pure, Result.andThen_ok]
  exact hK _ _ (h _ _ (heap_alloc_new _ _) rfl ((Ext.refl w).alloc _))
theorem tset_b {L : List Value} (h : Typed PL L) (j : Nat) (z : Bool) (hj : PL[j]? = some none) : Typed PL (L.set j (.bool z)) := h.set j _ (fun k hk => by rw [hj] at hk; cases hk; exact ⟨z, rfl⟩)
theorem tset_i {L : List Value} (h : Typed PL L) (j : Nat) (K : IntKind) (z : Int) (hj : PL[j]? = some (some K)) (hz : (Lit.int K z).wf = true) : Typed PL (L.set j (.int K z)) := h.set j _ (fun k hk => by rw [hj] at hk; cases hk; exact ⟨z, rfl, hz⟩)

end Go.Proofs.Ythlapkddgnpaeaa
