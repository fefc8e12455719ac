/- The machine of passage: its rows. No statement is proved here. -/
import Derived.Test.YthlapkddgnpaeaaBrL
import Derived.StillTailTactics
import Derived.Deep.Light
namespace Go.Proofs.Ythlapkddgnpaeaa
open Go.RowKit Go.BigFrame Go.WideShapes Go.ChangeShapes Go.Deep
set_option linter.unusedVariables false

theorem pas_h1 (fl : List Value) (b : Bool) (w : World) (h : fl[6]? = some (.bool b)) : Calls Try.prog 33 #[.agg fl.toArray] w fun e w' => e = .returned (.bool b) ∧ Ext w w' := by
  go_enter Try.func33, Try.ntmps33
  go_wp2
  go_ret
  exact ⟨rfl, (Ext.refl w).alloc _⟩
theorem pas_h2 (fl : List Value) (b : Bool) (w : World) (h : fl[6]? = some (.bool b)) : Calls Try.prog 35 #[.agg fl.toArray] w fun e w' => e = .returned (.bool (!b)) ∧ Ext w w' := by
  go_enter Try.func35, Try.ntmps35
  go_wp2
  go_ret
  exact ⟨rfl, (Ext.refl w).alloc _⟩
theorem pas_h3 (fl : List Value) (b : Bool) (w : World) (h : fl[4]? = some (.bool b)) : Calls Try.prog 37 #[.agg fl.toArray] w fun e w' => e = .returned (.bool b) ∧ Ext w w' := by
  go_enter Try.func37, Try.ntmps37
  go_wp2
  go_ret
  exact ⟨rfl, (Ext.refl w).alloc _⟩
theorem pas_h4 (fl : List Value) (b : Bool) (w : World) (h : fl[4]? = some (.bool b)) : Calls Try.prog 39 #[.agg fl.toArray] w fun e w' => e = .returned (.bool (!b)) ∧ Ext w w' := by
  go_enter Try.func39, Try.ntmps39
  go_wp2
  go_ret
  exact ⟨rfl, (Ext.refl w).alloc _⟩
theorem pas_learn (g o : Nat) (u : Value) (w : World) (h7 : w.cell? ⟨g, o + 7, none⟩ = some u) (hf : ∀ j, w.frozen? ⟨g, j, none⟩ = false) :
    Calls Try.prog 34 #[.pointer (some ⟨g, o, none⟩)] w fun e w' => e = .returned (.tuple #[]) ∧ w' = w.setCell ⟨g, o + 7, none⟩ (.bool true) := by
  go_enter Try.func34, Try.ntmps34
  go_wp2
  go_end0
  exact ⟨rfl, rfl⟩
theorem pas_forward (g o : Nat) (u : Value) (w : World) (h5 : w.cell? ⟨g, o + 5, none⟩ = some u) (hf : ∀ j, w.frozen? ⟨g, j, none⟩ = false) :
    Calls Try.prog 38 #[.pointer (some ⟨g, o, none⟩)] w fun e w' => e = .returned (.tuple #[]) ∧ w' = w.setCell ⟨g, o + 5, none⟩ (.bool true) := by
  go_enter Try.func38, Try.ntmps38
  go_wp2
  go_end0
  exact ⟨rfl, rfl⟩
theorem pas_stop (g o : Nat) (u v : Value) (w : World) (h7 : w.cell? ⟨g, o + 7, none⟩ = some u) (h5 : w.cell? ⟨g, o + 5, none⟩ = some v) (hf : ∀ j, w.frozen? ⟨g, j, none⟩ = false) :
    Calls Try.prog 36 #[.pointer (some ⟨g, o, none⟩)] w fun e w' => e = .returned (.tuple #[]) ∧ w' = (w.setCell ⟨g, o + 7, none⟩ (.bool false)).setCell ⟨g, o + 5, none⟩ (.bool false) := by
  go_enter Try.func36, Try.ntmps36
  go_wp2
  go_end0
  exact ⟨rfl, rfl⟩

def pasRows : Array Value := #[.int .i64 0, .func (.func 33) #[] #[], .func (.func 34) #[] #[], .int .i64 1, .int .i64 1, .func (.func 35) #[] #[], .func (.func 36) #[] #[], .int .i64 0, .int .i64 1, .func (.func 37) #[] #[], .func (.func 38) #[] #[], .int .i64 2, .int .i64 2, .func (.func 39) #[] #[], .func (.func 36) #[] #[], .int .i64 0]
theorem size_prows : (Try.prog.info? 68).map (·.size) = some pasRows.size := by kernel_rfl
theorem size_prow : (Try.prog.info? 67).map (·.size) = some 4 := by kernel_rfl
theorem pas_rows (w : World) : Calls Try.prog 29 #[] w fun e w' => e = .returned (.agg pasRows) ∧ Ext w w' := by
  have hi := Lib.hid size_prows
  go_enter Try.func29, Try.ntmps29
  go_wp2_with (first | fail | ((with_reducible refine at_store 68 ?_); refine wpList_store_new2 rfl rfl 68 _ _ _ rfl _ pasRows _ rfl ?_ rfl hi.out rfl rfl ?_; · rfl))
  exact bodyPost_ret (results_cell_row rfl _ _ _ _ pasRows (0, 0) _ rfl (heap_alloc_new _ _) Try.underlying68 rfl hi.out) rfl ⟨rfl, (Ext.refl w).alloc _⟩
theorem pas_ix0 (w : World) : (Instr.index 68 (.agg pasRows) (.int .i64 0)).run Try.prog w = .ok (.agg #[.int .i64 0, .func (.func 33) #[] #[], .func (.func 34) #[] #[], .int .i64 1]) w := by kernel_rfl
theorem pas_ix1 (w : World) : (Instr.index 68 (.agg pasRows) (.int .i64 1)).run Try.prog w = .ok (.agg #[.int .i64 1, .func (.func 35) #[] #[], .func (.func 36) #[] #[], .int .i64 0]) w := by kernel_rfl
theorem pas_ix2 (w : World) : (Instr.index 68 (.agg pasRows) (.int .i64 2)).run Try.prog w = .ok (.agg #[.int .i64 1, .func (.func 37) #[] #[], .func (.func 38) #[] #[], .int .i64 2]) w := by kernel_rfl
theorem pas_ix3 (w : World) : (Instr.index 68 (.agg pasRows) (.int .i64 3)).run Try.prog w = .ok (.agg #[.int .i64 2, .func (.func 39) #[] #[], .func (.func 36) #[] #[], .int .i64 0]) w := by kernel_rfl

theorem size_flags : (Try.prog.info? 47).map (·.size) = some 29 := by kernel_rfl
/-- A part of a row read where the world stands still, behind a guard. -/
theorem wpStill_load_midG {P : Program} {ops : Array Oper} {w : World} {Q : Act → Prop} {a : Act} {o : Oper} {rest : List Oper} (hw : Region.wanted o (yielded ops a.tmps) = true) (ty : TypeId) (x : Operand) (ho : o.op = .load ty x) (b off : Nat) (hx : a.eval x = .pointer (some ⟨b, off, none⟩))
    (cs : List Value) (d : TypeDesc) (hc : w.rangeAt b off cs) (hu : P.underlying ty = some d) (hd : d.isRow = true) (hi : (P.info? ty).map (·.size) = some cs.length)
    (h : wpStill P ops w Q rest (a.put o.dst (.agg cs.toArray))) : wpStill P ops w Q (o :: rest) a :=
  wpStill_step fun K hK => by
    rw [if_pos hw]
    unfold Oper.still execOp
    simp only [ho, hx, Instr.loadAt, Instr.sureAddr, Sem.run_bind, Sem.run_pure, Result.andThen_ok, run_loadVar_mid w b off ty cs d hc hu hd hi]
    exact ⟨rfl, hK _ h⟩
/-- A port's flags. -/
def flags (ps : List Value) (k : Nat) : List Value := (ps.drop (k * 89 + 22)).take 29
theorem flags_at {B : Br} {k j : Nat} (hj : j < 29) : (flags B.ps k)[j]? = B.ps[k * 89 + (22 + j)]? := by
  unfold flags
  rw [List.getElem?_take, if_pos hj, List.getElem?_drop, Nat.add_assoc]
theorem flags_range {w : World} {F : Nat → Prop} {X g : Nat} {B : Br} (h : BrG w F X g B) {k : Nat} (hk : k < B.np) : w.rangeAt g (k * 89 + 22) (flags B.ps k) := fun j v hv => by
  have hj : j < 29 := by
    have := (List.getElem?_eq_some_iff.1 hv).1
    simp [flags] at this; omega
  rw [Nat.add_assoc, h.cellg (lt89 hk (by omega)), ← flags_at hj]
  exact hv
theorem flags_len {B : Br} (ho : B.ok) {k : Nat} (hk : k < B.np) : (flags B.ps k).length = 29 := by
  have := len89 ho hk
  simp [flags]; omega

def pasLearn (B : Br) (k : Nat) : Br := (B.setp k 29 (.bool true)).setp k 20 (.int .i64 1)
def pasStop (B : Br) (k : Nat) : Br := ((B.setp k 29 (.bool false)).setp k 27 (.bool false)).setp k 20 (.int .i64 0)
def pasForward (B : Br) (k : Nat) : Br := (B.setp k 27 (.bool true)).setp k 20 (.int .i64 2)
/-- The machine's step. -/
def pasF (B : Br) (k : Nat) : Bool × Br :=
  if B.gi k 20 = 0 then if B.gb k 28 = true then (true, pasLearn B k) else (false, B)
  else if B.gi k 20 = 1 then if B.gb k 28 = false then (true, pasStop B k) else if B.gb k 26 = true then (true, pasForward B k) else (false, B)
  else if B.gi k 20 = 2 then if B.gb k 26 = false then (true, pasStop B k) else (false, B)
  else (false, B)
theorem pasF_np (B : Br) (k : Nat) : (pasF B k).2.np = B.np := by
  unfold pasF pasLearn pasStop pasForward
  split <;> (try split) <;> (try split) <;> (try split) <;> rfl
theorem pasF_ok {B : Br} {k : Nat} (ho : B.ok) (hk : k < B.np) : (pasF B k).2.ok := by
  have h1 : (pasLearn B k).ok := (ho.setB hk 29 _ rfl).setI hk 20 .i64 _ rfl (by decide)
  have h2 : (pasStop B k).ok := ((ho.setB hk 29 _ rfl).setB hk 27 _ rfl).setI hk 20 .i64 _ rfl (by decide)
  have h3 : (pasForward B k).ok := (ho.setB hk 27 _ rfl).setI hk 20 .i64 _ rfl (by decide)
  unfold pasF
  split <;> (try split) <;> (try split) <;> (try split) <;> first | exact ho | exact h1 | exact h2 | exact h3

end Go.Proofs.Ythlapkddgnpaeaa
