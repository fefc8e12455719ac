/- The migration machine, by itself. No statement is proved here. -/
import Derived.Test.YtfbgianmcmgekaaMigL
namespace Go.Proofs.Ytfbgianmcmgekaa
open Go.RowKit Go.WideShapes Go.ChangeShapes Go.Deep
set_option linter.unusedVariables false

theorem mig_listen_next (B : Br) (k : Nat) (h : k * 89 + 89 ≤ B.ps.length) : migF (migListen B k) k = if (!B.gb k 2 || B.gb k 30) = true then (true, migBegin (migListen B k) k) else (false, migListen B k) := by
  have e16 : (migListen B k).gi k 16 = 2 := by unfold migListen; rw [gi_setp_same _ _ _ _ _ (by simp only [len_setp]; omega)]
  have e2 : (migListen B k).gb k 2 = B.gb k 2 := by unfold migListen; simp [gb_setp_ne]
  have e30 : (migListen B k).gb k 30 = B.gb k 30 := by unfold migListen; simp [gb_setp_ne]
  have e37 : (migListen B k).gb k 37 = false := by unfold migListen; rw [gb_setp_ne _ _ _ _ _ (by decide), gb_setp_ne _ _ _ _ _ (by decide), gb_setp_same _ _ _ _ (by omega)]
  have e38 : (migListen B k).gb k 38 = false := by unfold migListen; rw [gb_setp_ne _ _ _ _ _ (by decide), gb_setp_same _ _ _ _ (by simp only [len_setp]; omega)]
  simp [migF, mh3, mh4, e16, e2, e30, e37, e38]
theorem mig_begin_next (B : Br) (k : Nat) (h : k * 89 + 89 ≤ B.ps.length) : migF (migBegin B k) k = (false, migBegin B k) := by
  have e16 : (migBegin B k).gi k 16 = 0 := by unfold migBegin; rw [gi_setp_same _ _ _ _ _ (by simp only [len_setp]; omega)]
  have e9 : (migBegin B k).gi k 9 = 3 := by unfold migBegin; rw [gi_setp_ne _ _ _ _ _ (by decide), gi_setp_same _ _ _ _ _ (by simp only [len_setp]; omega)]
  simp [migF, mh1, mh2, e16, e9]
theorem mig_yield_next (B : Br) (k : Nat) (h : k * 89 + 89 ≤ B.ps.length) : migF (migYield B k) k = if (!B.gb k 2 || B.gb k 30) = true then (true, migListen (migYield B k) k) else (false, migYield B k) := by
  have e16 : (migYield B k).gi k 16 = 1 := by unfold migYield; rw [gi_setp_same _ _ _ _ _ (by simp only [len_setp]; omega)]
  have e9 : (migYield B k).gi k 9 = 3 := by unfold migYield; rw [gi_setp_ne _ _ _ _ _ (by decide), gi_setp_same _ _ _ _ _ (by simp only [len_setp]; omega)]
  have e2 : (migYield B k).gb k 2 = B.gb k 2 := by unfold migYield; simp [gb_setp_ne]
  have e30 : (migYield B k).gb k 30 = B.gb k 30 := by unfold migYield; simp [gb_setp_ne]
  simp [migF, mh5, e16, e9, e2, e30]

theorem migListen_len (B : Br) (k : Nat) : (migListen B k).ps.length = B.ps.length := by simp [migListen]
theorem migBegin_len (B : Br) (k : Nat) : (migBegin B k).ps.length = B.ps.length := by simp [migBegin]
theorem migYield_len (B : Br) (k : Nat) : (migYield B k).ps.length = B.ps.length := by simp [migYield]

/-- Behind a step that is none, none is. -/
theorem mig_stuck {B : Br} {k : Nat} (h : (migF B k).1 = false) : migF B k = (false, B) := by
  revert h
  unfold migF
  split <;> (try split) <;> (try split) <;> (try split) <;> simp
theorem mig_listen2 (B : Br) (k : Nat) (h : k * 89 + 89 ≤ B.ps.length) : (migF (migF (migListen B k) k).2 k).1 = false := by
  rw [mig_listen_next B k h]
  split
  · rw [mig_begin_next _ _ (by rw [migListen_len]; exact h)]
  · rename_i hc
    rw [mig_listen_next B k h, if_neg hc]
theorem mig_more {B : Br} {k : Nat} (h : (migF B k).1 = false) : (migF (migF B k).2 k).1 = false := by
  rw [mig_stuck h, mig_stuck h]
theorem mig_ends (B : Br) (k : Nat) (hk : k < B.np) (ho : B.ok) : (migF (migF (migF (migF B k).2 k).2 k).2 k).1 = false := by
  have h := len89 ho hk
  have hL := mig_more (mig_listen2 B k h)
  have hB : (migF (migBegin B k) k).1 = false := by rw [mig_begin_next B k h]
  have hY : (migF (migF (migF (migYield B k) k).2 k).2 k).1 = false := by
    rw [mig_yield_next B k h]
    split
    · exact mig_listen2 _ _ (by rw [migYield_len]; exact h)
    · rename_i hc
      rw [mig_yield_next B k h, if_neg hc]
      rw [mig_yield_next B k h, if_neg hc]
  rcases hr : migF B k with ⟨d, C⟩
  have : C = B ∧ d = false ∨ C = migListen B k ∨ C = migBegin B k ∨ C = migYield B k := by
    unfold migF at hr
    repeat' split at hr
    all_goals (cases hr; simp)
  rcases this with ⟨rfl, rfl⟩ | rfl | rfl | rfl
  · have h0 : (migF C k).1 = false := by rw [hr]
    rw [hr, hr, hr]
  · exact hL
  · exact mig_more (mig_more hB)
  · exact hY

/-! ### MigHears -/
def hears1 (B : Br) (k : Nat) : Br := (((((B.seth 1 (.bool true)).setp k 2 (.bool true)).setp k 16 (.int .i64 2)).setp k 45 (.bool true)).setp k 30 (.bool false)).setp k 38 (.bool true)
def hears2 (B : Br) (k : Nat) : Br := (migYield (hears1 B k) k).setp k 37 (.bool true)
def hears3 (B : Br) (k : Nat) : Br := (hears2 B k).setp k 30 (.bool true)
section
variable (B : Br) (k : Nat) (h : k * 89 + 89 ≤ B.ps.length)
include h
theorem hears1_step : migF (hears1 B k) k = (true, migYield (hears1 B k) k) := by
  have e16 : (hears1 B k).gi k 16 = 2 := by simp (disch := first | decide | (simp only [len_setp, len_seth]; omega)) only [hears1, gi_setp_same, gi_setp_ne, gb_setp_same, gb_setp_ne, gi_seth, gb_seth]
  have e2 : (hears1 B k).gb k 2 = true := by simp (disch := first | decide | (simp only [len_setp, len_seth]; omega)) only [hears1, gi_setp_same, gi_setp_ne, gb_setp_same, gb_setp_ne, gi_seth, gb_seth]
  have e30 : (hears1 B k).gb k 30 = false := by simp (disch := first | decide | (simp only [len_setp, len_seth]; omega)) only [hears1, gi_setp_same, gi_setp_ne, gb_setp_same, gb_setp_ne, gi_seth, gb_seth]
  have e45 : (hears1 B k).gb k 45 = true := by simp (disch := first | decide | (simp only [len_setp, len_seth]; omega)) only [hears1, gi_setp_same, gi_setp_ne, gb_setp_same, gb_setp_ne, gi_seth, gb_seth]
  have e38 : (hears1 B k).gb k 38 = true := by simp (disch := first | decide | (simp only [len_setp, len_seth]; omega)) only [hears1, gi_setp_same, gi_setp_ne, gb_setp_same, gb_setp_ne, gi_seth, gb_seth]
  simp [migF, mh3, mh4, e16, e2, e30, e45, e38]
theorem hears2_step : migF (hears2 B k) k = (false, hears2 B k) := by
  have e16 : (hears2 B k).gi k 16 = 1 := by simp (disch := first | decide | (simp only [len_setp, len_seth]; omega)) only [hears2, migYield, hears1, gi_setp_same, gi_setp_ne, gb_setp_same, gb_setp_ne, gi_seth, gb_seth]
  have e9 : (hears2 B k).gi k 9 = 3 := by simp (disch := first | decide | (simp only [len_setp, len_seth]; omega)) only [hears2, migYield, hears1, gi_setp_same, gi_setp_ne, gb_setp_same, gb_setp_ne, gi_seth, gb_seth]
  have e2 : (hears2 B k).gb k 2 = true := by simp (disch := first | decide | (simp only [len_setp, len_seth]; omega)) only [hears2, migYield, hears1, gi_setp_same, gi_setp_ne, gb_setp_same, gb_setp_ne, gi_seth, gb_seth]
  have e30 : (hears2 B k).gb k 30 = false := by simp (disch := first | decide | (simp only [len_setp, len_seth]; omega)) only [hears2, migYield, hears1, gi_setp_same, gi_setp_ne, gb_setp_same, gb_setp_ne, gi_seth, gb_seth]
  simp [migF, mh5, e16, e9, e2, e30]
theorem hears3_step : migF (hears3 B k) k = (true, migListen (hears3 B k) k) := by
  have e16 : (hears3 B k).gi k 16 = 1 := by simp (disch := first | decide | (simp only [len_setp, len_seth]; omega)) only [hears3, hears2, migYield, hears1, gi_setp_same, gi_setp_ne, gb_setp_same, gb_setp_ne, gi_seth, gb_seth]
  have e30 : (hears3 B k).gb k 30 = true := by simp (disch := first | decide | (simp only [len_setp, len_seth]; omega)) only [hears3, hears2, migYield, hears1, gi_setp_same, gi_setp_ne, gb_setp_same, gb_setp_ne, gi_seth, gb_seth]
  simp [migF, mh5, e16, e30]
theorem hears4_step : migF (migListen (hears3 B k) k) k = (true, migBegin (migListen (hears3 B k) k) k) := by
  have e16 : (migListen (hears3 B k) k).gi k 16 = 2 := by simp (disch := first | decide | (simp only [len_setp, len_seth]; omega)) only [migListen, hears3, hears2, migYield, hears1, gi_setp_same, gi_setp_ne, gb_setp_same, gb_setp_ne, gi_seth, gb_seth]
  have e30 : (migListen (hears3 B k) k).gb k 30 = true := by simp (disch := first | decide | (simp only [len_setp, len_seth]; omega)) only [migListen, hears3, hears2, migYield, hears1, gi_setp_same, gi_setp_ne, gb_setp_same, gb_setp_ne, gi_seth, gb_seth]
  simp [migF, mh3, e16, e30]
theorem hears_45 : (migYield (hears1 B k) k).gb k 45 = false := by simp (disch := first | decide | (simp only [len_setp, len_seth]; omega)) only [hears2, migYield, hears1, gi_setp_same, gi_setp_ne, gb_setp_same, gb_setp_ne, gi_seth, gb_seth]
theorem hears_9 : (migYield (hears1 B k) k).gi k 9 = 3 := by simp (disch := first | decide | (simp only [len_setp, len_seth]; omega)) only [hears2, migYield, hears1, gi_setp_same, gi_setp_ne, gb_setp_same, gb_setp_ne, gi_seth, gb_seth]
theorem hears_z45 (hl : B.hd.length = 17) : (migBegin (migListen (hears3 B k) k) k).gb k 45 = true := by
  have e : (migListen (hears3 B k) k).hb 1 = true := by
    show (B.seth 1 (.bool true)).hb 1 = true
    rw [hb_seth_same _ _ _ (by omega)]
  simp (disch := first | decide | (simp only [len_setp, len_seth]; omega)) only [migBegin, migListen, hears3, hears2, migYield, hears1, gi_setp_same, gi_setp_ne, gb_setp_same, gb_setp_ne, gi_seth, gb_seth]
  exact e
theorem hears_z30 : (migBegin (migListen (hears3 B k) k) k).gb k 30 = false := by simp (disch := first | decide | (simp only [len_setp, len_seth]; omega)) only [migBegin, migListen, hears3, hears2, migYield, hears1, gi_setp_same, gi_setp_ne, gb_setp_same, gb_setp_ne, gi_seth, gb_seth]
theorem hears_z16 : (migBegin (migListen (hears3 B k) k) k).gi k 16 = 0 := by simp (disch := first | decide | (simp only [len_setp, len_seth]; omega)) only [migBegin, migListen, hears3, hears2, migYield, hears1, gi_setp_same, gi_setp_ne, gb_setp_same, gb_setp_ne, gi_seth, gb_seth]
end

end Go.Proofs.Ytfbgianmcmgekaa
