/- The selection: cell by cell what it leaves in a port. No statement is proved here. -/
import Derived.Test.YthfoacgdkoijeaaSelO
namespace Go.Proofs.Ythfoacgdkoijeaa
open Go.RowKit Go.BigFrame Go.WideShapes Go.ChangeShapes Go.Deep
set_option linter.unusedVariables false
set_option linter.unusedSimpArgs false

theorem so_cell {B Z : Br} (S : SelOut B Z) {n j : Nat} (hn : n < B.np) (hj : j < 89) (h88 : j ≠ 88) (h50 : j ≠ 50) (h44 : j ≠ 44) : Z.gi n j = pI (tellL Z (port (noR B B.np).ps n)) j := by
  rw [← pI_port hj, S.port n hn, stL_I h88 h50 h44]
theorem nr_len {B : Br} (ho : B.ok) {n : Nat} (hn : n < B.np) : (port (noR B B.np).ps n).length = 89 :=
  tpL (br_typed (noR_ok ho (Nat.le_refl _)) (k := n) (by rw [show (noR B B.np).np = B.np from upd_np B 43 _ _]; exact hn))
theorem so_keep {B Z : Br} (S : SelOut B Z) (ho : B.ok) {n j : Nat} (hn : n < B.np) (hj : j < 73 ∨ (85 < j ∧ j < 88) ∨ (77 < j ∧ j < 82)) (h50 : j ≠ 50) (h44 : j ≠ 44) (h43 : j ≠ 43) : Z.gi n j = B.gi n j := by
  rw [so_cell S hn (by omega) (by omega) h50 h44, tellL_out (nr_len ho hn) (by omega), pI_port (by omega), noR_gi ho (by omega) h43]
theorem so_des {B Z : Br} (S : SelOut B Z) (ho : B.ok) {n : Nat} (hn : n < B.np) :
    Z.gi n 73 = Z.hi 7 ∧ Z.gi n 74 = Z.hi 8 ∧ Z.gi n 75 = B.hi 0 ∧ Z.gi n 76 = B.gi n 0 ∧ Z.gi n 77 = 0 ∧ Z.gi n 82 = Z.hi 13 ∧ Z.gi n 83 = Z.hi 14 ∧ Z.gi n 84 = B.hi 4 ∧ Z.gi n 85 = Z.hi 16 := by
  have hl := nr_len ho hn
  have q0 : pI (port (noR B B.np).ps n) 0 = B.gi n 0 := (pI_port (j := 0) (by decide)).trans (noR_gi ho (by decide) (by decide))
  have c := fun j h1 h2 h3 h4 => so_cell S (j := j) hn h1 h2 h3 h4
  refine ⟨(c 73 (by decide) (by decide) (by decide) (by decide)).trans (tellL_73 hl), (c 74 (by decide) (by decide) (by decide) (by decide)).trans (tellL_74 hl), (c 75 (by decide) (by decide) (by decide) (by decide)).trans ((tellL_75 hl).trans (S.lo 0 (by decide))),
    (c 76 (by decide) (by decide) (by decide) (by decide)).trans ((tellL_76 hl).trans q0), (c 77 (by decide) (by decide) (by decide) (by decide)).trans (tellL_77 hl), (c 82 (by decide) (by decide) (by decide) (by decide)).trans (tellL_82 hl), (c 83 (by decide) (by decide) (by decide) (by decide)).trans (tellL_83 hl),
    (c 84 (by decide) (by decide) (by decide) (by decide)).trans ((tellL_84 hl).trans (S.lo 4 (by decide))), (c 85 (by decide) (by decide) (by decide) (by decide)).trans (tellL_85 hl)⟩

end Go.Proofs.Ythfoacgdkoijeaa
