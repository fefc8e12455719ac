/- What the laws on other ports share. No statement is proved here. -/
import Derived.Test.YtnblchilgaimhaaBrL
import Derived.Deep.RegionHeld3
import Derived.BigQuiet
namespace Go.Proofs.Ytnblchilgaimhaa
open Go.RowKit Go.WideShapes Go.ChangeShapes Go.Deep
set_option linter.unusedVariables false
set_option linter.unusedSimpArgs false

/-- Alike but for one port's cells. -/
structure OnlyP (k : Nat) (B C : Br) : Prop where
  hd : C.hd = B.hd
  np : C.np = B.np
  no : C.no = B.no
  os : C.os = B.os
  nf : C.nf = B.nf
  fl : C.fl = B.fl
  ps : ∀ i, ¬ (k * 89 ≤ i ∧ i < k * 89 + 89) → C.ps[i]? = B.ps[i]?
theorem OnlyP.refl (k : Nat) (B : Br) : OnlyP k B B := ⟨rfl, rfl, rfl, rfl, rfl, rfl, fun _ _ => rfl⟩
theorem OnlyP.setp {k : Nat} {B C : Br} (h : OnlyP k B C) {j : Nat} (hj : j < 89) (v : Value) : OnlyP k B (C.setp k j v) :=
  ⟨h.hd, h.np, h.no, h.os, h.nf, h.fl, fun i hi => by
    show (C.ps.set _ v)[i]? = _
    rw [List.getElem?_set_ne (by omega)]
    exact h.ps i hi⟩
theorem OnlyP.port {k : Nat} {B C : Br} (h : OnlyP k B C) {n : Nat} (hn : n ≠ k) : port C.ps n = port B.ps n := by
  apply List.ext_getElem?
  intro j
  by_cases hj : j < 89
  · rw [port_at (B := C) hj, port_at (B := B) hj]
    exact h.ps _ (by omega)
  · unfold Go.Proofs.Ytnblchilgaimhaa.port
    rw [List.getElem?_eq_none (by simp; omega), List.getElem?_eq_none (by simp; omega)]

/-- The ports of another bridge in the place of the box's own. -/
theorem BrG.swap {w : World} {F : Nat → Prop} {X g : Nat} {B C : Br} (h : BrG w F X g C) (ho : C.hd.length = 17) {k : Nat} (hc : OnlyP k B C) {s1 : Value} (hr : IsRow (w.setCell ⟨X, 17, none⟩ s1) 89 s1 B.np B.ps) :
    ∃ D : Array Value, (w.setCell ⟨X, 17, none⟩ s1).heap[X]? = some (.cells D 33 (0, 0)) ∧ BrC (w.setCell ⟨X, 17, none⟩ s1) D B ∧ D.size = 20 := by
  obtain ⟨h1, h2, cap, cur, s2, s3, a, b, c, d, e, f, p, q, r, s⟩ := h
  refine ⟨_, heap_setCell_same _ _ _ _ _ _ a, ⟨s1, s2, s3, ?_, hr, ?_, ?_⟩, by simp [ho]⟩
  · rw [← hc.hd]
    simp only [List.setIfInBounds_toArray]
    rw [List.set_append_right _ _ (by omega), ho]
    rfl
  · rw [← hc.no, ← hc.os]
    exact own_row (own_set p a (by decide) s1)
  · rw [← hc.nf, ← hc.fl]
    exact own_row (own_set q a (by decide) s1)

/-- A whole row is read in each world that holds its block. -/
theorem yieldsIf_load_row {P : Program} {ops : Array Oper} {wz : World} {op : Oper} {a : Act} (hw : Region.wanted op (yielded ops a.tmps) = true) (ty : TypeId) (x : Operand) (ho : op.op = .load ty x)
    (X : Nat) (hx : a.eval x = .pointer (some ⟨X, 0, none⟩)) (C : Array Value) (t : TypeId) (d : TypeDesc) (hX : wz.heap[X]? = some (.cells C t (0, 0)))
    (hu : P.underlying ty = some d) (hd : (match d with | .struct _ | .array _ _ => true | _ => false) = true) (hi : (P.info? ty).map (·.size) = some C.size) : YieldsIf P ops (fun W' => Ext wz W') op (.agg C) a :=
  .inl ⟨hw, fun W' hW' => by
    have h := ((show Ext wz W' from hW').block X (heap_lt hX)).trans hX
    unfold execOp
    simp only [ho, hx, Instr.loadAt, Instr.sureAddr, Sem.run_bind, Sem.run_pure, Result.andThen_ok, run_loadVar_row W' X t ty C (0, 0) d h hu hd hi]⟩

end Go.Proofs.Ytnblchilgaimhaa
