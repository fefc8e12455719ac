/- What the clock's laws set at all ports. No statement is proved here. -/
import Derived.Test.YtnblchilgaimhaaClkM
import Derived.Test.YtnblchilgaimhaaUpd
namespace Go.Proofs.Ytnblchilgaimhaa
open Go.RowKit Go.BigFrame Go.WideShapes Go.ChangeShapes Go.Deep
set_option linter.unusedVariables false
set_option linter.unusedSimpArgs false

def rr0 (B : Br) (n : Nat) : Br := B.upd 12 (fun _ => .int .i64 0) n
theorem rr0_np (B : Br) (n : Nat) : (rr0 B n).np = B.np := upd_np B _ _ n
theorem rr0_ok {B : Br} (ho : B.ok) (n : Nat) (hn : n ≤ B.np) : (rr0 B n).ok := upd_ok ho (by decide) (fun i c hc => by cases hc; exact ⟨0, rfl, by decide⟩) n hn
theorem rr0_12 {B : Br} (ho : B.ok) {k : Nat} (hk : k < B.np) : (rr0 B B.np).gi k 12 = 0 := upd_gi B (by decide) (fun _ => 0) (by rw [ho.len]; exact Nat.le_refl _) hk

def syn3 (B : Br) : Nat → Br
  | 0 => B
  | n + 1 => (((syn3 B n).setp n 44 (.bool true)).setp n 47 (.bool true)).setp n 88 (.int .i64 ((syn3 B n).gi n 87))
theorem syn3_np (B : Br) : ∀ n, (syn3 B n).np = B.np
  | 0 => rfl
  | n + 1 => syn3_np B n
theorem syn3_len (B : Br) : ∀ n, (syn3 B n).ps.length = B.ps.length
  | 0 => rfl
  | n + 1 => by simp only [syn3, len_setp]; exact syn3_len B n
theorem syn3_ok {B : Br} (ho : B.ok) : ∀ n, n ≤ B.np → (syn3 B n).ok
  | 0, _ => ho
  | n + 1, h => by
    have ih := syn3_ok ho n (by omega)
    have hk : n < (syn3 B n).np := by rw [syn3_np]; omega
    exact ((ih.setB hk 44 true rfl).setB (k := n) hk 47 true rfl).setI (k := n) hk 88 .i64 _ rfl (ih.gw hk 87 rfl)
theorem syn3_87 {B : Br} (ho : B.ok) : ∀ n, n ≤ B.np → ∀ k, k < B.np → (syn3 B n).gi k 87 = B.gi k 87
  | 0, _, _, _ => rfl
  | n + 1, h, k, hk => by
    have ih := syn3_87 ho n (by omega) k hk
    unfold syn3
    by_cases e : n = k
    · subst e
      rw [gi_setp_ne _ _ _ _ _ (by decide), gi_setp_ne _ _ _ _ _ (by decide), gi_setp_ne _ _ _ _ _ (by decide), ih]
    · rw [gi_setp_port _ _ e (by decide) (by decide), gi_setp_port _ _ e (by decide) (by decide), gi_setp_port _ _ e (by decide) (by decide), ih]
theorem syn3_of {B : Br} (ho : B.ok) : ∀ n, n ≤ B.np → ∀ k, k < n → (syn3 B n).gb k 44 = true ∧ (syn3 B n).gb k 47 = true ∧ (syn3 B n).gi k 88 = B.gi k 87
  | 0, _, k, hk => by omega
  | n + 1, h, k, hk => by
    have hl : n * 89 + 89 ≤ (syn3 B n).ps.length := by rw [syn3_len, ho.len]; omega
    have h87 := syn3_87 ho n (by omega) n (by omega)
    unfold syn3
    by_cases e : n = k
    · subst e
      refine ⟨?_, ?_, ?_⟩
      · rw [gb_setp_ne _ _ _ _ _ (by decide), gb_setp_ne _ _ _ _ _ (by decide), gb_setp_same _ _ _ _ (by omega)]
      · rw [gb_setp_ne _ _ _ _ _ (by decide), gb_setp_same _ _ _ _ (by simp only [len_setp]; omega)]
      · rw [gi_setp_same _ _ _ _ _ (by simp only [len_setp]; omega), h87]
    · obtain ⟨a, b, c⟩ := syn3_of ho n (by omega) k (by omega)
      refine ⟨?_, ?_, ?_⟩
      · rw [gb_setp_port _ _ e (by decide) (by decide), gb_setp_port _ _ e (by decide) (by decide), gb_setp_port _ _ e (by decide) (by decide), a]
      · rw [gb_setp_port _ _ e (by decide) (by decide), gb_setp_port _ _ e (by decide) (by decide), gb_setp_port _ _ e (by decide) (by decide), b]
      · rw [gi_setp_port _ _ e (by decide) (by decide), gi_setp_port _ _ e (by decide) (by decide), gi_setp_port _ _ e (by decide) (by decide), c]
/-- All set: all in step. -/
theorem syn3_all {B Z : Br} (ho : B.ok) (hZ : syn3 B B.np = Z) (hn : Z.np = B.np) : ∀ k, k < Z.np → syncP Z k = true := fun k hk => by
  subst hZ
  rw [hn] at hk
  obtain ⟨a, b, c⟩ := syn3_of ho B.np (Nat.le_refl _) k hk
  have d := syn3_87 ho B.np (Nat.le_refl _) k hk
  simp [syncP, syncB, a, b, c, d]
/-- One that isn't synced: all are in step just if it is the root's. -/
theorem syn_one {Z : Br} (hall : ∀ k, k < Z.np → syncP Z k = true) {k : Nat} (hk : k < Z.np) (h : k * 89 + 89 ≤ Z.ps.length) : AllSyn (Z.setp k 47 (.bool false)) ↔ Z.gi k 87 = 3 := by
  have ak := hall k hk
  have e : syncP (Z.setp k 47 (.bool false)) k = true ↔ Z.gi k 87 = 3 := by
    simp only [syncP, syncB, Bool.and_eq_true] at ak ⊢
    rw [gb_setp_ne _ _ _ _ _ (by decide), gi_setp_ne _ _ _ _ _ (by decide), gi_setp_ne _ _ _ _ _ (by decide), gb_setp_same _ _ _ _ (by omega), ak.1.1]
    have := ak.1.2
    simp at this ⊢
    intro _
    exact this
  constructor
  · intro h1
    exact e.1 (h1 k hk)
  · intro h1 i hi
    by_cases ei : k = i
    · subst ei
      exact e.2 h1
    · have := hall i hi
      simp only [syncP, gb_setp_port _ _ ei (by decide : 47 < 89) (by decide : 44 < 89), gi_setp_port _ _ ei (by decide : 47 < 89) (by decide : 87 < 89), gi_setp_port _ _ ei (by decide : 47 < 89) (by decide : 88 < 89), gb_setp_port _ _ ei (by decide : 47 < 89) (by decide : 47 < 89)] at this ⊢
      exact this
theorem syn_none {Z : Br} {k : Nat} (hk : k < Z.np) (h : Z.gb k 44 = false) : ¬ AllSyn Z := fun h1 => by
  have := h1 k hk
  simp [syncP, syncB, h] at this

end Go.Proofs.Ytnblchilgaimhaa
