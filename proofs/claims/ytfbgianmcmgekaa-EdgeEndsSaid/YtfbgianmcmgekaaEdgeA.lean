/- The machine of edges: its step by the program and by the document. No statement is proved here. -/
import Derived.Test.YtfbgianmcmgekaaBrL
import Derived.StillTailTactics
import Derived.Deep.Light
namespace Go.Proofs.Ytfbgianmcmgekaa
open Go.RowKit Go.BigFrame Go.WideShapes Go.ChangeShapes Go.Deep
set_option linter.unusedVariables false

def el0 (B : Br) (k : Nat) : Bool := !B.gb k 32 || (!B.gb k 2 && !B.gb k 4)
def el1 (B : Br) (k : Nat) : Bool := (!B.gb k 2 && B.gb k 4) || ((B.gi k 6 == 0) && B.gb k 5 && B.gb k 45 && B.gb k 34)
def edgeOff (B : Br) (k : Nat) : Br := (B.setp k 32 (.bool false)).setp k 17 (.int .i64 1)
def edgeOn (B : Br) (k : Nat) : Br := (B.setp k 32 (.bool true)).setp k 17 (.int .i64 0)
/-- The machine's step. -/
def edgeF (B : Br) (k : Nat) : Bool × Br :=
  if B.gi k 17 = 0 then if el0 B k = true then (true, edgeOff B k) else (false, B)
  else if B.gi k 17 = 1 then if el1 B k = true then (true, edgeOn B k) else (false, B)
  else (false, B)

theorem edgeF_np (B : Br) (k : Nat) : (edgeF B k).2.np = B.np := by
  unfold edgeF edgeOff edgeOn
  split <;> (try split) <;> (try split) <;> rfl
theorem edgeF_ok {B : Br} {k : Nat} (ho : B.ok) (hk : k < B.np) : (edgeF B k).2.ok := by
  have h1 : (edgeOff B k).ok := (ho.setB hk 32 _ rfl).setI hk 17 .i64 _ rfl (by decide)
  have h2 : (edgeOn B k).ok := (ho.setB hk 32 _ rfl).setI hk 17 .i64 _ rfl (by decide)
  unfold edgeF
  split <;> (try split) <;> (try split) <;> first | exact ho | exact h1 | exact h2

set_option maxHeartbeats 1000000 in
theorem edge_leaves (p : List Value) (en ad au oe pr sr : Bool) (ed : Int) (w : World) (p2 : p[2]? = some (.bool en)) (p4 : p[4]? = some (.bool ad)) (p5 : p[5]? = some (.bool au)) (p6 : p[6]? = some (.int .i64 ed)) (p32 : p[32]? = some (.bool oe)) (p34 : p[34]? = some (.bool pr)) (p45 : p[45]? = some (.bool sr)) :
    Calls Try.prog 25 #[.agg p.toArray] w fun e w' => e = .returned (.agg #[.bool (!oe || (!en && !ad)), .bool ((!en && ad) || ((ed == 0) && au && sr && pr))]) ∧ Ext w w' := by
  obtain ⟨z, hz⟩ : ∃ z : Bool, (ed == 0) = z := ⟨_, rfl⟩
  rw [hz]
  obtain ⟨x0, h0⟩ : ∃ x, (!oe || (!en && !ad)) = x := ⟨_, rfl⟩
  obtain ⟨x1, h1⟩ : ∃ x, ((!en && ad) || (z && au && sr && pr)) = x := ⟨_, rfl⟩
  rw [h0, h1]
  go_enter Try.func25, Try.ntmps25
  go_wp2_with fail
  all_goals
    refine bodyPost_ret (v := .agg #[.bool x0, .bool x1]) ?_ rfl ⟨rfl, ((Ext.refl w).alloc _).alloc _⟩
    subst h0
    subst h1
    clear hz
    simp [results, Try.results25, go_sem, *]

theorem edge_ix0 (a b : Bool) (w : World) : (Instr.index 64 (.agg #[.bool a, .bool b]) (.int .i64 0)).run Try.prog w = .ok (.bool a) w := by kernel_rfl
theorem edge_ix1 (a b : Bool) (w : World) : (Instr.index 64 (.agg #[.bool a, .bool b]) (.int .i64 1)).run Try.prog w = .ok (.bool b) w := by kernel_rfl
theorem edge_iy0 (w : World) : (Instr.index 66 (.agg #[.int .i64 1, .int .i64 0]) (.int .i64 0)).run Try.prog w = .ok (.int .i64 1) w := by kernel_rfl
theorem edge_iy1 (w : World) : (Instr.index 66 (.agg #[.int .i64 1, .int .i64 0]) (.int .i64 1)).run Try.prog w = .ok (.int .i64 0) w := by kernel_rfl

end Go.Proofs.Ytfbgianmcmgekaa
