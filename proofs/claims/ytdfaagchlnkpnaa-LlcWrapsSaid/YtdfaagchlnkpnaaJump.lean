/- Gotos within a scope. No statement is proved here. -/
import Derived.Test.YtdfaagchlnkpnaaBpD
import Derived.ScopeJumps
namespace Go.Proofs.Ytdfaagchlnkpnaa
open Go.RowKit Go.BigFrame Go.WideShapes Go.ChangeShapes Go.Deep
set_option linter.unusedVariables false
set_option linter.unusedSimpArgs false

/-- As Q; a goto goes on behind its label, at most n times. -/
def jumpN (P : Program) (c : Code) (Q : Exit → Act → World → Prop) : Nat → Exit → Act → World → Prop
  | 0, .goto _, _, _ => False
  | n + 1, .goto l, a, w => ∃ rest, findLabel c l = some rest ∧ rest.wp P (jumpN P c Q n) a w
  | _, e, a, w => Q e a w
theorem wp_scope_n {P : Program} {a : Act} {w : World} {Q : Exit → Act → World → Prop} {c : Code} (n : Nat) (h : c.wp P (jumpN P c Q n) a w) : (Code.scope c).wp P Q a w := by
  intro b k cs
  have key : ∀ n (rest : Code) a w, rest.wp P (jumpN P c Q n) a w → ∃ e a' w', Q e a' w' ∧ Arrives P (lone (b.at a (.code rest :: .inScope c :: k)) cs w) b k cs e a' w' := by
    intro n
    induction n with
    | zero =>
      intro rest a w h
      obtain ⟨e, a₁, w₁, hq, harr⟩ := h b (.inScope c :: k) cs
      cases e with
      | normal => exact ⟨.normal, a₁, w₁, hq, Steps.trans harr (.one step_inScope)⟩
      | exit id => exact ⟨.exit id, a₁, w₁, hq, fun k' hk => harr k' (by simp [exitTo, hk])⟩
      | goto l => exact hq.elim
      | ret => exact ⟨_, a₁, w₁, hq, harr⟩
      | panic ch => exact ⟨_, a₁, w₁, hq, harr⟩
      | outgrown => exact ⟨_, a₁, w₁, hq, harr⟩
    | succ n ih =>
      intro rest a w h
      obtain ⟨e, a₁, w₁, hq, harr⟩ := h b (.inScope c :: k) cs
      cases e with
      | normal => exact ⟨.normal, a₁, w₁, hq, Steps.trans harr (.one step_inScope)⟩
      | exit id => exact ⟨.exit id, a₁, w₁, hq, fun k' hk => harr k' (by simp [exitTo, hk])⟩
      | goto l =>
        obtain ⟨r2, hf, h2⟩ := hq
        obtain ⟨e₂, a₂, w₂, hq₂, harr₂⟩ := ih r2 a₁ w₁ h2
        exact ⟨e₂, a₂, w₂, hq₂, .of_steps (harr _ (by simp [gotoIn, hf])) harr₂⟩
      | ret => exact ⟨_, a₁, w₁, hq, harr⟩
      | panic ch => exact ⟨_, a₁, w₁, hq, harr⟩
      | outgrown => exact ⟨_, a₁, w₁, hq, harr⟩
  obtain ⟨e, a₁, w₁, hq, harr⟩ := key n c a w h
  exact ⟨e, a₁, w₁, hq, .of_steps (.one step_scope) harr⟩
theorem scope_hid {P : Program} {a : Act} {w : World} {Q : Exit → Act → World → Prop} {c : Code} (n : Nat) (h : ∀ J, Hid (J = jumpN P c Q n) → c.wp P J a w) : (Code.scope c).wp P Q a w :=
  wp_scope_n n (h _ (Lib.hid rfl))
theorem jump_hid {P : Program} {a : Act} {w : World} {Q : Exit → Act → World → Prop} {c rest : Code} {n l : Nat} {J : Exit → Act → World → Prop} (hJ : Hid (J = jumpN P c Q (n + 1))) (hf : findLabel c l = some rest) (h : ∀ J', Hid (J' = jumpN P c Q n) → rest.wp P J' a w) : J (.goto l) a w := by
  rw [hJ.out]
  exact ⟨rest, hf, h _ (Lib.hid rfl)⟩
theorem jump_ret {P : Program} {a : Act} {w : World} {Q : Exit → Act → World → Prop} {c : Code} {n : Nat} {J : Exit → Act → World → Prop} (hJ : Hid (J = jumpN P c Q n)) (h : Q .ret a w) : J .ret a w := by
  rw [hJ.out]
  cases n <;> exact h

end Go.Proofs.Ytdfaagchlnkpnaa
