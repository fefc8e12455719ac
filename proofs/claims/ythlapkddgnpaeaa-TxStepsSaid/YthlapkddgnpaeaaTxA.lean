/- The machine that sends: of which kind. No statement is proved here. -/
import Derived.Test.YthlapkddgnpaeaaBrL
import Derived.BigQuiet
namespace Go.Proofs.Ythlapkddgnpaeaa
open Go.RowKit Go.BigFrame Go.WideShapes Go.ChangeShapes Go.Deep
set_option linter.unusedVariables false
set_option linter.unusedSimpArgs false

/-- Of which kind a message is that a port tells news in; and whether it has any to tell. -/
def txKind (sr : Bool) (r : Int) : Int := if sr = true then 2 else if r = 3 then 1 else 0
def txTells (sr : Bool) (r : Int) : Bool := if sr = true then r != 0 else if r = 3 then true else r == 4

theorem tx_kind (g o : Nat) (sr : Bool) (r : Int) (w : World) (h45 : w.cell? ⟨g, o + 45, none⟩ = some (.bool sr)) (h87 : w.cell? ⟨g, o + 87, none⟩ = some (.int .i64 r)) :
    Calls Try.prog 27 #[.pointer (some ⟨g, o, none⟩)] w fun e w' => e = .returned (.tuple #[.int .i64 (txKind sr r), .bool (txTells sr r)]) ∧ Ext w w' := by
  cases sr
  · by_cases h3 : r = 3
    · subst h3
      go_enter Try.func27, Try.ntmps27
      go_wp2_with fail
      go_ret2
      exact ⟨rfl, Ext.refl w⟩
    · have hb : (r == 3) = false := by simpa using h3
      have e1 : txKind false r = 0 := by simp [txKind, h3]
      have e2 : txTells false r = (r == 4) := by simp [txTells, h3]
      rw [e1, e2]
      clear e1 e2
      go_enter Try.func27, Try.ntmps27
      go_wp2_with fail
      go_quiet (fail)
      go_wp2_with fail
      go_ret2
      exact ⟨rfl, (Ext.refl w).drewN _⟩
  · have e1 : txKind true r = 2 := by simp [txKind]
    have e2 : txTells true r = (r != 0) := by simp [txTells]
    rw [e1, e2]
    clear e1 e2
    go_enter Try.func27, Try.ntmps27
    go_wp2_with fail
    go_quiet (fail)
    go_wp2_with fail
    go_ret2
    exact ⟨rfl, (Ext.refl w).drewN _⟩

end Go.Proofs.Ythlapkddgnpaeaa
