/- The migration machine: its rows, its step, by the program and by the document. No statement is proved here. -/
import Derived.Test.YtfbgianmcmgekaaBrL
import Derived.StillTailTactics
namespace Go.Proofs.Ytfbgianmcmgekaa
open Go.RowKit Go.BigFrame Go.WideShapes Go.ChangeShapes Go.Deep
set_option linter.unusedVariables false

theorem mig_h1 (r : Bool) (g o : Nat) (m : Int) (w : World) (h9 : w.cell? ⟨g, o + 9, none⟩ = some (.int .i64 m)) :
    Calls Try.prog 28 #[.bool r, .pointer (some ⟨g, o, none⟩)] w fun e w' => e = .returned (.bool (m == 0)) ∧ w = w' := by
  go_enter Try.func28, Try.ntmps28
  go_wp2
  go_ret
  exact ⟨rfl, rfl⟩
theorem mig_h2 (r : Bool) (g o : Nat) (m : Int) (en : Bool) (w : World) (h9 : w.cell? ⟨g, o + 9, none⟩ = some (.int .i64 m)) (h2 : w.cell? ⟨g, o + 2, none⟩ = some (.bool en)) :
    Calls Try.prog 30 #[.bool r, .pointer (some ⟨g, o, none⟩)] w fun e w' => e = .returned (.bool ((m != 3) && !en)) ∧ w = w' := by
  go_enter Try.func30, Try.ntmps30
  go_wp2
  all_goals (go_ret; exact ⟨retB (by simp [*]), rfl⟩)
theorem mig_h3 (r : Bool) (g o : Nat) (en mc rr sr : Bool) (w : World) (h2 : w.cell? ⟨g, o + 2, none⟩ = some (.bool en)) (h30 : w.cell? ⟨g, o + 30, none⟩ = some (.bool mc)) (h37 : w.cell? ⟨g, o + 37, none⟩ = some (.bool rr)) (h45 : w.cell? ⟨g, o + 45, none⟩ = some (.bool sr)) :
    Calls Try.prog 32 #[.bool r, .pointer (some ⟨g, o, none⟩)] w fun e w' => e = .returned (.bool (!en || mc || r && rr && !sr)) ∧ w = w' := by
  cases en <;> cases mc <;> cases r <;> cases rr
  all_goals
    go_enter Try.func32, Try.ntmps32
    go_wp2
    go_ret
    exact ⟨retB (by simp), rfl⟩
theorem mig_h4 (r : Bool) (g o : Nat) (sr rp : Bool) (w : World) (h45 : w.cell? ⟨g, o + 45, none⟩ = some (.bool sr)) (h38 : w.cell? ⟨g, o + 38, none⟩ = some (.bool rp)) :
    Calls Try.prog 33 #[.bool r, .pointer (some ⟨g, o, none⟩)] w fun e w' => e = .returned (.bool (sr && rp)) ∧ w = w' := by
  cases sr
  all_goals
    go_enter Try.func33, Try.ntmps33
    go_wp2
    go_ret
    exact ⟨retB (by simp), rfl⟩
theorem mig_h5 (r : Bool) (g o : Nat) (m : Int) (en mc : Bool) (w : World) (h9 : w.cell? ⟨g, o + 9, none⟩ = some (.int .i64 m)) (h2 : w.cell? ⟨g, o + 2, none⟩ = some (.bool en)) (h30 : w.cell? ⟨g, o + 30, none⟩ = some (.bool mc)) :
    Calls Try.prog 35 #[.bool r, .pointer (some ⟨g, o, none⟩)] w fun e w' => e = .returned (.bool ((m == 0) || !en || mc)) ∧ w = w' := by
  cases en
  all_goals
    go_enter Try.func35, Try.ntmps35
    go_wp2
    all_goals (go_ret; exact ⟨retB (by simp [*]), rfl⟩)

theorem mig_listen (r : Bool) (g o : Nat) (u v : Value) (w : World) (h37 : w.cell? ⟨g, o + 37, none⟩ = some u) (h38 : w.cell? ⟨g, o + 38, none⟩ = some v) (hf : ∀ j, w.frozen? ⟨g, j, none⟩ = false) :
    Calls Try.prog 29 #[.bool r, .pointer (some ⟨g, o, none⟩)] w fun e w' => e = .returned (.tuple #[]) ∧ w' = (w.setCell ⟨g, o + 37, none⟩ (.bool false)).setCell ⟨g, o + 38, none⟩ (.bool false) := by
  go_enter Try.func29, Try.ntmps29
  go_wp2
  go_end0
  exact ⟨rfl, rfl⟩
theorem mig_begin (r : Bool) (g o : Nat) (u v x : Value) (w : World) (h9 : w.cell? ⟨g, o + 9, none⟩ = some x) (h30 : w.cell? ⟨g, o + 30, none⟩ = some u) (h45 : w.cell? ⟨g, o + 45, none⟩ = some v) (hf : ∀ j, w.frozen? ⟨g, j, none⟩ = false) :
    Calls Try.prog 31 #[.bool r, .pointer (some ⟨g, o, none⟩)] w fun e w' => e = .returned (.tuple #[]) ∧ w' = ((w.setCell ⟨g, o + 30, none⟩ (.bool false)).setCell ⟨g, o + 45, none⟩ (.bool r)).setCell ⟨g, o + 9, none⟩ (.int .i64 3) := by
  go_enter Try.func31, Try.ntmps31
  go_wp2
  go_end0
  exact ⟨rfl, rfl⟩
theorem mig_yield (r : Bool) (g o : Nat) (v x : Value) (w : World) (h9 : w.cell? ⟨g, o + 9, none⟩ = some x) (h45 : w.cell? ⟨g, o + 45, none⟩ = some v) (hf : ∀ j, w.frozen? ⟨g, j, none⟩ = false) :
    Calls Try.prog 34 #[.bool r, .pointer (some ⟨g, o, none⟩)] w fun e w' => e = .returned (.tuple #[]) ∧ w' = (w.setCell ⟨g, o + 45, none⟩ (.bool false)).setCell ⟨g, o + 9, none⟩ (.int .i64 3) := by
  go_enter Try.func34, Try.ntmps34
  go_wp2
  go_end0
  exact ⟨rfl, rfl⟩

def migRows : Array Value := #[.int .i64 0, .func (.func 28) #[] #[], .func (.func 29) #[] #[], .int .i64 2, .int .i64 0, .func (.func 30) #[] #[], .func (.func 31) #[] #[], .int .i64 0, .int .i64 2, .func (.func 32) #[] #[], .func (.func 31) #[] #[], .int .i64 0, .int .i64 2, .func (.func 33) #[] #[], .func (.func 34) #[] #[], .int .i64 1, .int .i64 1, .func (.func 35) #[] #[], .func (.func 29) #[] #[], .int .i64 2]
theorem size_mrows : (Try.prog.info? 60).map (·.size) = some migRows.size := by kernel_rfl
theorem mig_rows (w : World) : Calls Try.prog 24 #[] w fun e w' => e = .returned (.agg migRows) ∧ Ext w w' := by
  have hi := Lib.hid size_mrows
  go_enter Try.func24, Try.ntmps24
  go_wp2_with (first | fail | ((with_reducible refine at_store 60 ?_); refine wpList_store_new2 rfl rfl 60 _ _ _ rfl _ migRows _ rfl ?_ rfl hi.out rfl rfl ?_; · rfl))
  exact bodyPost_ret (results_cell_row rfl _ _ _ _ migRows (0, 0) _ rfl (heap_alloc_new _ _) Try.underlying60 rfl hi.out) rfl ⟨rfl, (Ext.refl w).alloc _⟩

def mr0 : Array Value := #[.int .i64 0, .func (.func 28) #[] #[], .func (.func 29) #[] #[], .int .i64 2]
def mr1 : Array Value := #[.int .i64 0, .func (.func 30) #[] #[], .func (.func 31) #[] #[], .int .i64 0]
def mr2 : Array Value := #[.int .i64 2, .func (.func 32) #[] #[], .func (.func 31) #[] #[], .int .i64 0]
def mr3 : Array Value := #[.int .i64 2, .func (.func 33) #[] #[], .func (.func 34) #[] #[], .int .i64 1]
def mr4 : Array Value := #[.int .i64 1, .func (.func 35) #[] #[], .func (.func 29) #[] #[], .int .i64 2]
theorem size_mrow : (Try.prog.info? 59).map (·.size) = some 4 := by kernel_rfl
theorem mig_ix0 (w : World) : (Instr.index 60 (.agg migRows) (.int .i64 0)).run Try.prog w = .ok (.agg #[.int .i64 0, .func (.func 28) #[] #[], .func (.func 29) #[] #[], .int .i64 2]) w := by kernel_rfl
theorem mig_ix1 (w : World) : (Instr.index 60 (.agg migRows) (.int .i64 1)).run Try.prog w = .ok (.agg #[.int .i64 0, .func (.func 30) #[] #[], .func (.func 31) #[] #[], .int .i64 0]) w := by kernel_rfl
theorem mig_ix2 (w : World) : (Instr.index 60 (.agg migRows) (.int .i64 2)).run Try.prog w = .ok (.agg #[.int .i64 2, .func (.func 32) #[] #[], .func (.func 31) #[] #[], .int .i64 0]) w := by kernel_rfl
theorem mig_ix3 (w : World) : (Instr.index 60 (.agg migRows) (.int .i64 3)).run Try.prog w = .ok (.agg #[.int .i64 2, .func (.func 33) #[] #[], .func (.func 34) #[] #[], .int .i64 1]) w := by kernel_rfl
theorem mig_ix4 (w : World) : (Instr.index 60 (.agg migRows) (.int .i64 4)).run Try.prog w = .ok (.agg #[.int .i64 1, .func (.func 35) #[] #[], .func (.func 29) #[] #[], .int .i64 2]) w := by kernel_rfl

def migListen (B : Br) (k : Nat) : Br := ((B.setp k 37 (.bool false)).setp k 38 (.bool false)).setp k 16 (.int .i64 2)
def migBegin (B : Br) (k : Nat) : Br := (((B.setp k 30 (.bool false)).setp k 45 (.bool (B.hb 1))).setp k 9 (.int .i64 3)).setp k 16 (.int .i64 0)
def migYield (B : Br) (k : Nat) : Br := ((B.setp k 45 (.bool false)).setp k 9 (.int .i64 3)).setp k 16 (.int .i64 1)
def mh1 (B : Br) (k : Nat) : Bool := B.gi k 9 == 0
def mh2 (B : Br) (k : Nat) : Bool := (B.gi k 9 != 3) && !B.gb k 2
def mh3 (B : Br) (k : Nat) : Bool := !B.gb k 2 || B.gb k 30 || B.hb 1 && B.gb k 37 && !B.gb k 45
def mh4 (B : Br) (k : Nat) : Bool := B.gb k 45 && B.gb k 38
def mh5 (B : Br) (k : Nat) : Bool := (B.gi k 9 == 0) || !B.gb k 2 || B.gb k 30
/-- The machine's step. -/
def migF (B : Br) (k : Nat) : Bool × Br :=
  if B.gi k 16 = 0 then if mh1 B k = true then (true, migListen B k) else if mh2 B k = true then (true, migBegin B k) else (false, B)
  else if B.gi k 16 = 2 then if mh3 B k = true then (true, migBegin B k) else if mh4 B k = true then (true, migYield B k) else (false, B)
  else if B.gi k 16 = 1 then if mh5 B k = true then (true, migListen B k) else (false, B)
  else (false, B)

end Go.Proofs.Ytfbgianmcmgekaa
