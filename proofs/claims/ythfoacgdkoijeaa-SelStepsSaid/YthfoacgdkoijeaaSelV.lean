/- What a selection leaves is a bridge. No statement is proved here. -/
import Derived.Test.YthfoacgdkoijeaaSelT
namespace Go.Proofs.Ythfoacgdkoijeaa
open Go.RowKit Go.BigFrame Go.WideShapes Go.ChangeShapes Go.Deep
set_option linter.unusedVariables false
set_option linter.unusedSimpArgs false

theorem selB2_ok {C : Br} (ho : C.ok) (hn : C.np < 1000) (hR : ∀ k, k < C.np → 0 ≤ C.gi k 78 ∧ C.gi k 78 ≤ 65535) : (selB2 C).ok := by
  have ok1 := selB1_ok ho hn
  have hq := rtL_typed ok1 (a := (selB1 C).hi 12) (by rw [selB1_12 ho]; exact rootF_rg _ _) hR
  unfold selB2
  rw [selB1_12 ho] at hq
  exact sethr_ok ok1 (j := 13) (m := 4) (by decide) hq.2 hq.1
theorem selF_np (B : Br) : (selF B).2.np = B.np := by
  unfold selF
  split
  · exact (psel_np _ _).trans (upd_np B 43 _ _)
  · exact upd_np B 43 _ _
theorem selF_ok {B : Br} (ho : B.ok) (hn : B.np < 1000) (hR : ∀ k, k < B.np → 0 ≤ B.gi k 78 ∧ B.gi k 78 ≤ 65535) : (selF B).2.ok := by
  have okN := noR_ok ho (Nat.le_refl B.np)
  have npN : (noR B B.np).np = B.np := upd_np B 43 _ _
  have ok2 : (selB2 (noR B B.np)).ok := selB2_ok okN (by rw [npN]; exact hn) (fun k hk => by
    rw [noR_gi ho (by decide) (by decide)]
    exact hR k (by rw [← npN]; exact hk))
  unfold selF
  split
  · exact psel_ok ok2 B.np (by rw [show (selB2 (noR B B.np)).np = B.np from npN]; exact Nat.le_refl _)
  · exact okN

end Go.Proofs.Ythfoacgdkoijeaa
