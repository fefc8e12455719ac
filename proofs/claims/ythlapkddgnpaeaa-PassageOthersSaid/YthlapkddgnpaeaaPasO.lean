/- The machine of passage turns three cells of one port. No statement is proved here. -/
import Derived.Test.YthlapkddgnpaeaaPasM
namespace Go.Proofs.Ythlapkddgnpaeaa
open Go.RowKit Go.WideShapes Go.ChangeShapes Go.Deep
set_option linter.unusedVariables false

theorem pas_back (B : Br) (k : Nat) (ho : B.ok) (hk : k < B.np) : (((pasF B k).2.setp k 20 (.int .i64 (B.gi k 20))).setp k 29 (.bool (B.gb k 29))).setp k 27 (.bool (B.gb k 27)) = B := by
  have h89 := len89 ho hk
  have c20 := ho.gi hk 20 rfl
  have c29 := ho.gb hk 29 rfl
  have c27 := ho.gb hk 27 rfl
  have key : ∀ C : Br, C.hd = B.hd → C.np = B.np → C.no = B.no → C.os = B.os → C.nf = B.nf → C.fl = B.fl → C.ps.length = B.ps.length → (∀ i, i ≠ k * 89 + 20 → i ≠ k * 89 + 29 → i ≠ k * 89 + 27 → C.ps[i]? = B.ps[i]?) →
      ((C.setp k 20 (.int .i64 (B.gi k 20))).setp k 29 (.bool (B.gb k 29))).setp k 27 (.bool (B.gb k 27)) = B := by
    intro C h1 h2 h3 h4 h5 h6 hl hc
    refine Br.ext_ps h1 h2 (fun i => ?_) h3 h4 h5 h6
    show (((C.ps.set _ _).set _ _).set _ _)[i]? = _
    by_cases e27 : i = k * 89 + 27
    · subst e27
      rw [c27, List.getElem?_set_self (by simp; omega)]
    · rw [List.getElem?_set_ne (by omega)]
      by_cases e29 : i = k * 89 + 29
      · subst e29
        rw [c29, List.getElem?_set_self (by simp; omega)]
      · rw [List.getElem?_set_ne (by omega)]
        by_cases e20 : i = k * 89 + 20
        · subst e20
          rw [c20, List.getElem?_set_self (by omega)]
        · rw [List.getElem?_set_ne (by omega)]
          exact hc i e20 e29 e27
  have st : ∀ (C : Br) (j : Nat) (v : Value), (j = 20 ∨ j = 29 ∨ j = 27) → (∀ i, i ≠ k * 89 + 20 → i ≠ k * 89 + 29 → i ≠ k * 89 + 27 → C.ps[i]? = B.ps[i]?) → (∀ i, i ≠ k * 89 + 20 → i ≠ k * 89 + 29 → i ≠ k * 89 + 27 → (C.setp k j v).ps[i]? = B.ps[i]?) := by
    intro C j v hj hc i a b c
    show (C.ps.set _ _)[i]? = _
    rw [List.getElem?_set_ne (by omega)]
    exact hc i a b c
  have b0 : ∀ i, i ≠ k * 89 + 20 → i ≠ k * 89 + 29 → i ≠ k * 89 + 27 → B.ps[i]? = B.ps[i]? := fun _ _ _ _ => rfl
  unfold pasF
  split <;> (try split) <;> (try split) <;> (try split)
  all_goals first
    | exact key B rfl rfl rfl rfl rfl rfl rfl b0
    | exact key (pasLearn B k) rfl rfl rfl rfl rfl rfl (by simp [pasLearn]) (st _ _ _ (by simp) (st _ _ _ (by simp) b0))
    | exact key (pasStop B k) rfl rfl rfl rfl rfl rfl (by simp [pasStop]) (st _ _ _ (by simp) (st _ _ _ (by simp) (st _ _ _ (by simp) b0)))
    | exact key (pasForward B k) rfl rfl rfl rfl rfl rfl (by simp [pasForward]) (st _ _ _ (by simp) (st _ _ _ (by simp) b0))

end Go.Proofs.Ythlapkddgnpaeaa
