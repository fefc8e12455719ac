/- The migration machine of a bridge of the elder protocol. No statement is proved here. -/
import Derived.Test.YtfbgianmcmgekaaMigM
namespace Go.Proofs.Ytfbgianmcmgekaa
open Go.RowKit Go.WideShapes Go.ChangeShapes Go.Deep
set_option linter.unusedVariables false

/-- What such a port is between steps. -/
def EInv (B : Br) (k : Nat) : Prop := B.gb k 45 = false ∧ B.hb 1 = false ∧ 0 ≤ B.gi k 9 ∧ B.gi k 9 ≤ 1000
theorem einv_step (B : Br) (k : Nat) (h : k * 89 + 89 ≤ B.ps.length) (hi : B.gb k 45 = false ∧ B.hb 1 = false ∧ 0 ≤ B.gi k 9 ∧ B.gi k 9 ≤ 1000) : EInv (migF B k).2 k := by
  obtain ⟨h1, h2, h3⟩ := hi
  have l45 : (migListen B k).gb k 45 = B.gb k 45 := by (unfold migListen; rw [gb_setp_ne _ _ _ _ _ (by decide), gb_setp_ne _ _ _ _ _ (by decide), gb_setp_ne _ _ _ _ _ (by decide)])
  have l9 : (migListen B k).gi k 9 = B.gi k 9 := by (unfold migListen; rw [gi_setp_ne _ _ _ _ _ (by decide), gi_setp_ne _ _ _ _ _ (by decide), gi_setp_ne _ _ _ _ _ (by decide)])
  have b45 : (migBegin B k).gb k 45 = B.hb 1 := by (unfold migBegin; rw [gb_setp_ne _ _ _ _ _ (by decide), gb_setp_ne _ _ _ _ _ (by decide), gb_setp_same _ _ _ _ (by simp only [len_setp]; omega)])
  have b9 : (migBegin B k).gi k 9 = 3 := by (unfold migBegin; rw [gi_setp_ne _ _ _ _ _ (by decide), gi_setp_same _ _ _ _ _ (by simp only [len_setp]; omega)])
  have y45 : (migYield B k).gb k 45 = false := by (unfold migYield; rw [gb_setp_ne _ _ _ _ _ (by decide), gb_setp_ne _ _ _ _ _ (by decide), gb_setp_same _ _ _ _ (by omega)])
  have y9 : (migYield B k).gi k 9 = 3 := by (unfold migYield; rw [gi_setp_ne _ _ _ _ _ (by decide), gi_setp_same _ _ _ _ _ (by simp only [len_setp]; omega)])
  have hL : EInv (migListen B k) k := ⟨l45.trans h1, h2, by rw [l9]; exact h3⟩
  have hB : EInv (migBegin B k) k := ⟨b45.trans h2, h2, by rw [b9]; decide⟩
  have hY : EInv (migYield B k) k := ⟨y45, h2, by rw [y9]; decide⟩
  unfold migF
  split <;> (try split) <;> (try split) <;> (try split) <;> first | exact ⟨h1, h2, h3⟩ | exact hL | exact hB | exact hY
theorem einv_set (B : Br) (k : Nat) (a b c d : Bool) (m : Int) (h : k * 89 + 89 ≤ B.ps.length) (hi : EInv B k) (hm : 0 ≤ m ∧ m ≤ 1000) : EInv (((((B.setp k 37 (.bool a)).setp k 38 (.bool b)).setp k 30 (.bool c)).setp k 2 (.bool d)).setp k 9 (.int .i64 m)) k := by
  refine ⟨?_, hi.2.1, ?_⟩
  · rw [gb_setp_ne _ _ _ _ _ (by decide), gb_setp_ne _ _ _ _ _ (by decide), gb_setp_ne _ _ _ _ _ (by decide), gb_setp_ne _ _ _ _ _ (by decide), gb_setp_ne _ _ _ _ _ (by decide)]
    exact hi.1
  · rw [gi_setp_same _ _ _ _ _ (by simp only [len_setp]; omega)]
    exact hm
theorem wf_mdelay (m : Int) (h : 0 ≤ m ∧ m ≤ 1000) : (Lit.int .i64 m).wf = true := by
  simp [Lit.wf, IntKind.min, IntKind.max, IntKind.signed, IntKind.bits]; omega

end Go.Proofs.Ytfbgianmcmgekaa
