/- What the laws of changes set. No statement is proved here. -/
import Derived.Test.YtpieamfpgfabgaaTopE
namespace Go.Proofs.Ytpieamfpgfabgaa
open Go.RowKit Go.BigFrame Go.WideShapes Go.ChangeShapes Go.Deep
set_option linter.unusedVariables false
set_option linter.unusedSimpArgs false

def ak0 (Z : Br) (k : Nat) : Br := (((((((Z.setp k 21 (.int .i64 2)).setp k 87 (.int .i64 3)).setp k 32 (.bool false)).setp k 25 (.bool false)).setp k 39 (.bool false)).setp k 41 (.bool false)).setp k 40 (.bool true))
def tkD (Z : Br) (k : Nat) : Br := ((((((Z.setp k 21 (.int .i64 2)).setp k 87 (.int .i64 4)).setp k 32 (.bool false)).setp k 25 (.bool false)).setp k 48 (.bool false)).setp k 39 (.bool true))
def tkR (Z : Br) (k : Nat) : Br := (((((((Z.setp k 21 (.int .i64 2)).setp k 87 (.int .i64 4)).setp k 87 (.int .i64 3)).setp k 32 (.bool false)).setp k 25 (.bool false)).setp k 48 (.bool false)).setp k 39 (.bool true))
theorem ak0_21 (Z : Br) (k : Nat) (h : k * 89 + 89 ≤ Z.ps.length) : (ak0 Z k).gi k 21 = 2 := by (unfold ak0; rw [gi_setp_ne _ _ _ _ _ (by decide), gi_setp_ne _ _ _ _ _ (by decide), gi_setp_ne _ _ _ _ _ (by decide), gi_setp_ne _ _ _ _ _ (by decide), gi_setp_ne _ _ _ _ _ (by decide), gi_setp_ne _ _ _ _ _ (by decide), gi_setp_same _ _ _ _ _ (by omega)])
theorem ak0_25 (Z : Br) (k : Nat) (h : k * 89 + 89 ≤ Z.ps.length) : (ak0 Z k).gb k 25 = false := by (unfold ak0; rw [gb_setp_ne _ _ _ _ _ (by decide), gb_setp_ne _ _ _ _ _ (by decide), gb_setp_ne _ _ _ _ _ (by decide), gb_setp_same _ _ _ _ (by simp only [len_setp]; omega)])
theorem ak0_32 (Z : Br) (k : Nat) (h : k * 89 + 89 ≤ Z.ps.length) : (ak0 Z k).gb k 32 = false := by (unfold ak0; rw [gb_setp_ne _ _ _ _ _ (by decide), gb_setp_ne _ _ _ _ _ (by decide), gb_setp_ne _ _ _ _ _ (by decide), gb_setp_ne _ _ _ _ _ (by decide), gb_setp_same _ _ _ _ (by simp only [len_setp]; omega)])
theorem ak0_39 (Z : Br) (k : Nat) (h : k * 89 + 89 ≤ Z.ps.length) : (ak0 Z k).gb k 39 = false := by (unfold ak0; rw [gb_setp_ne _ _ _ _ _ (by decide), gb_setp_ne _ _ _ _ _ (by decide), gb_setp_same _ _ _ _ (by simp only [len_setp]; omega)])
theorem ak0_40 (Z : Br) (k : Nat) (h : k * 89 + 89 ≤ Z.ps.length) : (ak0 Z k).gb k 40 = true := by (unfold ak0; rw [gb_setp_same _ _ _ _ (by simp only [len_setp]; omega)])
theorem ak0_41 (Z : Br) (k : Nat) (h : k * 89 + 89 ≤ Z.ps.length) : (ak0 Z k).gb k 41 = false := by (unfold ak0; rw [gb_setp_ne _ _ _ _ _ (by decide), gb_setp_same _ _ _ _ (by simp only [len_setp]; omega)])
theorem ak0_87 (Z : Br) (k : Nat) (h : k * 89 + 89 ≤ Z.ps.length) : (ak0 Z k).gi k 87 = 3 := by (unfold ak0; rw [gi_setp_ne _ _ _ _ _ (by decide), gi_setp_ne _ _ _ _ _ (by decide), gi_setp_ne _ _ _ _ _ (by decide), gi_setp_ne _ _ _ _ _ (by decide), gi_setp_ne _ _ _ _ _ (by decide), gi_setp_same _ _ _ _ _ (by simp only [len_setp]; omega)])
theorem ak0_49 (Z : Br) (k : Nat) (h : k * 89 + 89 ≤ Z.ps.length) : (ak0 Z k).gb k 49 = Z.gb k 49 := by (unfold ak0; rw [gb_setp_ne _ _ _ _ _ (by decide), gb_setp_ne _ _ _ _ _ (by decide), gb_setp_ne _ _ _ _ _ (by decide), gb_setp_ne _ _ _ _ _ (by decide), gb_setp_ne _ _ _ _ _ (by decide), gb_setp_ne _ _ _ _ _ (by decide), gb_setp_ne _ _ _ _ _ (by decide)])
theorem ak0_len (Z : Br) (k : Nat) : (ak0 Z k).ps.length = Z.ps.length := by simp [ak0]
theorem tkD_21 (Z : Br) (k : Nat) (h : k * 89 + 89 ≤ Z.ps.length) : (tkD Z k).gi k 21 = 2 := by (unfold tkD; rw [gi_setp_ne _ _ _ _ _ (by decide), gi_setp_ne _ _ _ _ _ (by decide), gi_setp_ne _ _ _ _ _ (by decide), gi_setp_ne _ _ _ _ _ (by decide), gi_setp_ne _ _ _ _ _ (by decide), gi_setp_same _ _ _ _ _ (by omega)])
theorem tkD_25 (Z : Br) (k : Nat) (h : k * 89 + 89 ≤ Z.ps.length) : (tkD Z k).gb k 25 = false := by (unfold tkD; rw [gb_setp_ne _ _ _ _ _ (by decide), gb_setp_ne _ _ _ _ _ (by decide), gb_setp_same _ _ _ _ (by simp only [len_setp]; omega)])
theorem tkD_32 (Z : Br) (k : Nat) (h : k * 89 + 89 ≤ Z.ps.length) : (tkD Z k).gb k 32 = false := by (unfold tkD; rw [gb_setp_ne _ _ _ _ _ (by decide), gb_setp_ne _ _ _ _ _ (by decide), gb_setp_ne _ _ _ _ _ (by decide), gb_setp_same _ _ _ _ (by simp only [len_setp]; omega)])
theorem tkD_39 (Z : Br) (k : Nat) (h : k * 89 + 89 ≤ Z.ps.length) : (tkD Z k).gb k 39 = true := by (unfold tkD; rw [gb_setp_same _ _ _ _ (by simp only [len_setp]; omega)])
theorem tkD_48 (Z : Br) (k : Nat) (h : k * 89 + 89 ≤ Z.ps.length) : (tkD Z k).gb k 48 = false := by (unfold tkD; rw [gb_setp_ne _ _ _ _ _ (by decide), gb_setp_same _ _ _ _ (by simp only [len_setp]; omega)])
theorem tkD_87 (Z : Br) (k : Nat) (h : k * 89 + 89 ≤ Z.ps.length) : (tkD Z k).gi k 87 = 4 := by (unfold tkD; rw [gi_setp_ne _ _ _ _ _ (by decide), gi_setp_ne _ _ _ _ _ (by decide), gi_setp_ne _ _ _ _ _ (by decide), gi_setp_ne _ _ _ _ _ (by decide), gi_setp_same _ _ _ _ _ (by simp only [len_setp]; omega)])
theorem tkD_49 (Z : Br) (k : Nat) (h : k * 89 + 89 ≤ Z.ps.length) : (tkD Z k).gb k 49 = Z.gb k 49 := by (unfold tkD; rw [gb_setp_ne _ _ _ _ _ (by decide), gb_setp_ne _ _ _ _ _ (by decide), gb_setp_ne _ _ _ _ _ (by decide), gb_setp_ne _ _ _ _ _ (by decide), gb_setp_ne _ _ _ _ _ (by decide), gb_setp_ne _ _ _ _ _ (by decide)])
theorem tkD_41 (Z : Br) (k : Nat) (h : k * 89 + 89 ≤ Z.ps.length) : (tkD Z k).gb k 41 = Z.gb k 41 := by (unfold tkD; rw [gb_setp_ne _ _ _ _ _ (by decide), gb_setp_ne _ _ _ _ _ (by decide), gb_setp_ne _ _ _ _ _ (by decide), gb_setp_ne _ _ _ _ _ (by decide), gb_setp_ne _ _ _ _ _ (by decide), gb_setp_ne _ _ _ _ _ (by decide)])
theorem tkD_len (Z : Br) (k : Nat) : (tkD Z k).ps.length = Z.ps.length := by simp [tkD]
theorem tkR_21 (Z : Br) (k : Nat) (h : k * 89 + 89 ≤ Z.ps.length) : (tkR Z k).gi k 21 = 2 := by (unfold tkR; rw [gi_setp_ne _ _ _ _ _ (by decide), gi_setp_ne _ _ _ _ _ (by decide), gi_setp_ne _ _ _ _ _ (by decide), gi_setp_ne _ _ _ _ _ (by decide), gi_setp_ne _ _ _ _ _ (by decide), gi_setp_ne _ _ _ _ _ (by decide), gi_setp_same _ _ _ _ _ (by omega)])
theorem tkR_25 (Z : Br) (k : Nat) (h : k * 89 + 89 ≤ Z.ps.length) : (tkR Z k).gb k 25 = false := by (unfold tkR; rw [gb_setp_ne _ _ _ _ _ (by decide), gb_setp_ne _ _ _ _ _ (by decide), gb_setp_same _ _ _ _ (by simp only [len_setp]; omega)])
theorem tkR_32 (Z : Br) (k : Nat) (h : k * 89 + 89 ≤ Z.ps.length) : (tkR Z k).gb k 32 = false := by (unfold tkR; rw [gb_setp_ne _ _ _ _ _ (by decide), gb_setp_ne _ _ _ _ _ (by decide), gb_setp_ne _ _ _ _ _ (by decide), gb_setp_same _ _ _ _ (by simp only [len_setp]; omega)])
theorem tkR_39 (Z : Br) (k : Nat) (h : k * 89 + 89 ≤ Z.ps.length) : (tkR Z k).gb k 39 = true := by (unfold tkR; rw [gb_setp_same _ _ _ _ (by simp only [len_setp]; omega)])
theorem tkR_48 (Z : Br) (k : Nat) (h : k * 89 + 89 ≤ Z.ps.length) : (tkR Z k).gb k 48 = false := by (unfold tkR; rw [gb_setp_ne _ _ _ _ _ (by decide), gb_setp_same _ _ _ _ (by simp only [len_setp]; omega)])
theorem tkR_87 (Z : Br) (k : Nat) (h : k * 89 + 89 ≤ Z.ps.length) : (tkR Z k).gi k 87 = 3 := by (unfold tkR; rw [gi_setp_ne _ _ _ _ _ (by decide), gi_setp_ne _ _ _ _ _ (by decide), gi_setp_ne _ _ _ _ _ (by decide), gi_setp_ne _ _ _ _ _ (by decide), gi_setp_same _ _ _ _ _ (by simp only [len_setp]; omega)])
theorem tkR_49 (Z : Br) (k : Nat) (h : k * 89 + 89 ≤ Z.ps.length) : (tkR Z k).gb k 49 = Z.gb k 49 := by (unfold tkR; rw [gb_setp_ne _ _ _ _ _ (by decide), gb_setp_ne _ _ _ _ _ (by decide), gb_setp_ne _ _ _ _ _ (by decide), gb_setp_ne _ _ _ _ _ (by decide), gb_setp_ne _ _ _ _ _ (by decide), gb_setp_ne _ _ _ _ _ (by decide), gb_setp_ne _ _ _ _ _ (by decide)])
theorem tkR_41 (Z : Br) (k : Nat) (h : k * 89 + 89 ≤ Z.ps.length) : (tkR Z k).gb k 41 = Z.gb k 41 := by (unfold tkR; rw [gb_setp_ne _ _ _ _ _ (by decide), gb_setp_ne _ _ _ _ _ (by decide), gb_setp_ne _ _ _ _ _ (by decide), gb_setp_ne _ _ _ _ _ (by decide), gb_setp_ne _ _ _ _ _ (by decide), gb_setp_ne _ _ _ _ _ (by decide), gb_setp_ne _ _ _ _ _ (by decide)])
theorem tkR_len (Z : Br) (k : Nat) : (tkR Z k).ps.length = Z.ps.length := by simp [tkR]
theorem ta_21 (Z : Br) (k : Nat) (h : k * 89 + 89 ≤ Z.ps.length) : (tack (ak0 Z k) k).gi k 21 = 2 := by (unfold tack ak0; rw [gi_setp_ne _ _ _ _ _ (by decide), gi_setp_ne _ _ _ _ _ (by decide), gi_setp_ne _ _ _ _ _ (by decide), gi_setp_ne _ _ _ _ _ (by decide), gi_setp_ne _ _ _ _ _ (by decide), gi_setp_ne _ _ _ _ _ (by decide), gi_setp_ne _ _ _ _ _ (by decide), gi_setp_ne _ _ _ _ _ (by decide), gi_setp_same _ _ _ _ _ (by omega)])
theorem ta_87 (Z : Br) (k : Nat) (h : k * 89 + 89 ≤ Z.ps.length) : (tack (ak0 Z k) k).gi k 87 = 3 := by (unfold tack ak0; rw [gi_setp_ne _ _ _ _ _ (by decide), gi_setp_ne _ _ _ _ _ (by decide), gi_setp_ne _ _ _ _ _ (by decide), gi_setp_ne _ _ _ _ _ (by decide), gi_setp_ne _ _ _ _ _ (by decide), gi_setp_ne _ _ _ _ _ (by decide), gi_setp_ne _ _ _ _ _ (by decide), gi_setp_same _ _ _ _ _ (by simp only [len_setp]; omega)])
theorem ta_32 (Z : Br) (k : Nat) (h : k * 89 + 89 ≤ Z.ps.length) : (tack (ak0 Z k) k).gb k 32 = false := by (unfold tack ak0; rw [gb_setp_ne _ _ _ _ _ (by decide), gb_setp_ne _ _ _ _ _ (by decide), gb_setp_ne _ _ _ _ _ (by decide), gb_setp_ne _ _ _ _ _ (by decide), gb_setp_ne _ _ _ _ _ (by decide), gb_setp_ne _ _ _ _ _ (by decide), gb_setp_same _ _ _ _ (by simp only [len_setp]; omega)])
theorem ta_25 (Z : Br) (k : Nat) (h : k * 89 + 89 ≤ Z.ps.length) : (tack (ak0 Z k) k).gb k 25 = false := by (unfold tack ak0; rw [gb_setp_ne _ _ _ _ _ (by decide), gb_setp_ne _ _ _ _ _ (by decide), gb_setp_ne _ _ _ _ _ (by decide), gb_setp_ne _ _ _ _ _ (by decide), gb_setp_ne _ _ _ _ _ (by decide), gb_setp_same _ _ _ _ (by simp only [len_setp]; omega)])
theorem ta_39 (Z : Br) (k : Nat) (h : k * 89 + 89 ≤ Z.ps.length) : (tack (ak0 Z k) k).gb k 39 = false := by (unfold tack ak0; rw [gb_setp_ne _ _ _ _ _ (by decide), gb_setp_ne _ _ _ _ _ (by decide), gb_setp_ne _ _ _ _ _ (by decide), gb_setp_ne _ _ _ _ _ (by decide), gb_setp_same _ _ _ _ (by simp only [len_setp]; omega)])
theorem ta_41 (Z : Br) (k : Nat) (h : k * 89 + 89 ≤ Z.ps.length) : (tack (ak0 Z k) k).gb k 41 = false := by (unfold tack ak0; rw [gb_setp_ne _ _ _ _ _ (by decide), gb_setp_ne _ _ _ _ _ (by decide), gb_setp_ne _ _ _ _ _ (by decide), gb_setp_same _ _ _ _ (by simp only [len_setp]; omega)])
theorem ta_40 (Z : Br) (k : Nat) (h : k * 89 + 89 ≤ Z.ps.length) : (tack (ak0 Z k) k).gb k 40 = false := by (unfold tack ak0; rw [gb_setp_same _ _ _ _ (by simp only [len_setp]; omega)])
theorem ta_13 (Z : Br) (k : Nat) (h : k * 89 + 89 ≤ Z.ps.length) : (tack (ak0 Z k) k).gi k 13 = 0 := by (unfold tack ak0; rw [gi_setp_ne _ _ _ _ _ (by decide), gi_setp_same _ _ _ _ _ (by simp only [len_setp]; omega)])
theorem ta_49 (Z : Br) (k : Nat) (h : k * 89 + 89 ≤ Z.ps.length) : (tack (ak0 Z k) k).gb k 49 = Z.gb k 49 := by (unfold tack ak0; rw [gb_setp_ne _ _ _ _ _ (by decide), gb_setp_ne _ _ _ _ _ (by decide), gb_setp_ne _ _ _ _ _ (by decide), gb_setp_ne _ _ _ _ _ (by decide), gb_setp_ne _ _ _ _ _ (by decide), gb_setp_ne _ _ _ _ _ (by decide), gb_setp_ne _ _ _ _ _ (by decide), gb_setp_ne _ _ _ _ _ (by decide), gb_setp_ne _ _ _ _ _ (by decide)])
theorem ta_port (Z : Br) (k n : Nat) (hne : k ≠ n) : (tack (ak0 Z k) k).gb n 49 = Z.gb n 49 := by
  unfold tack ak0
  rw [gb_setp_port _ _ hne (by decide) (by decide), gb_setp_port _ _ hne (by decide) (by decide), gb_setp_port _ _ hne (by decide) (by decide), gb_setp_port _ _ hne (by decide) (by decide), gb_setp_port _ _ hne (by decide) (by decide), gb_setp_port _ _ hne (by decide) (by decide), gb_setp_port _ _ hne (by decide) (by decide), gb_setp_port _ _ hne (by decide) (by decide), gb_setp_port _ _ hne (by decide) (by decide)]
theorem ak_act (Z : Br) (k : Nat) (h : k * 89 + 89 ≤ Z.ps.length) (h49 : Z.gb k 49 = false) : act2 (ak0 Z k) k = 5 := by
  unfold act2
  rw [ak0_87 Z k h, ak0_32 Z k h, ak0_41 Z k h, ak0_39 Z k h, ak0_49 Z k h, ak0_40 Z k h, h49]
  rfl
theorem ta_act (Z : Br) (k : Nat) (h : k * 89 + 89 ≤ Z.ps.length) (h49 : Z.gb k 49 = false) : act2 (tack (ak0 Z k) k) k = 0 := by
  unfold act2
  rw [ta_87 Z k h, ta_32 Z k h, ta_41 Z k h, ta_39 Z k h, ta_49 Z k h, ta_40 Z k h, h49]
  rfl
theorem tkD_act (Z : Br) (k : Nat) (h : k * 89 + 89 ≤ Z.ps.length) : act2 (tkD Z k) k = if Z.gb k 41 = true then 2 else 3 := by
  unfold act2
  rw [tkD_87 Z k h, tkD_32 Z k h, tkD_41 Z k h, tkD_39 Z k h]
  cases Z.gb k 41 <;> rfl
/-- Behind the step: who is told, what is owed. -/
theorem tkD_tells (Z : Br) (k : Nat) (ho : Z.ok) (hok : (tkD Z k).ok) (hk : k < Z.np) (h49 : Z.gb k 49 = false) (hT : TR (Z.hi 2) (Z.hi 3) (Z.hi 4) (Z.hi 5)) :
    (∀ R, (R = tpass (tkD Z k) k ∨ R = tpass (tbegin (tkD Z k) k) k) → R.ok ∧ R.np = Z.np ∧ (∀ j, j < Z.np → R.gb j 49 = decide (j ≠ k)) ∧ R.gb k 48 = true ∧ R.gb k 39 = false) := by
  have h := len89 ho hk
  have h1 := tpass_reads (C := tkD Z k) hok (k := k) hk (by rw [tkD_49 Z k h, h49]) (tkD_48 Z k h)
  have okb := tbegin_ok hok (k := k) hk hT
  have h2 := tpass_reads (C := tbegin (tkD Z k) k) okb (k := k) (by rw [tbegin_np]; exact hk) (by rw [tbegin_gb k 49 (by decide) (by decide), tkD_49 Z k h, h49]) (by rw [tbegin_gb k 48 (by decide) (by decide)]; exact tkD_48 Z k h)
  rw [tkD_87 Z k h] at h1
  rw [tbegin_gi k 87 (by decide) (by decide), tkD_87 Z k h, tbegin_np] at h2
  rintro R (rfl | rfl)
  · exact ⟨tpass_ok hok hk, tpass_np _ _, h1.1, h1.2.1, h1.2.2⟩
  · exact ⟨tpass_ok okb (by rw [tbegin_np]; exact hk), (tpass_np _ _).trans (tbegin_np _ _), h2.1, h2.2.1, h2.2.2⟩
theorem tkR_act (Z : Br) (k : Nat) (h : k * 89 + 89 ≤ Z.ps.length) : act2 (tkR Z k) k = if Z.gb k 41 = true then 2 else 3 := by
  unfold act2
  rw [tkR_87 Z k h, tkR_32 Z k h, tkR_41 Z k h, tkR_39 Z k h]
  cases Z.gb k 41 <;> rfl
/-- Behind the step: who is told, what is owed. -/
theorem tkR_tells (Z : Br) (k : Nat) (ho : Z.ok) (hok : (tkR Z k).ok) (hk : k < Z.np) (h49 : Z.gb k 49 = false) (hT : TR (Z.hi 2) (Z.hi 3) (Z.hi 4) (Z.hi 5)) :
    (∀ R, (R = tpass (tkR Z k) k ∨ R = tpass (tbegin (tkR Z k) k) k) → R.ok ∧ R.np = Z.np ∧ (∀ j, j < Z.np → R.gb j 49 = decide (j ≠ k)) ∧ R.gb k 48 = false ∧ R.gb k 39 = false) := by
  have h := len89 ho hk
  have h1 := tpass_reads (C := tkR Z k) hok (k := k) hk (by rw [tkR_49 Z k h, h49]) (tkR_48 Z k h)
  have okb := tbegin_ok hok (k := k) hk hT
  have h2 := tpass_reads (C := tbegin (tkR Z k) k) okb (k := k) (by rw [tbegin_np]; exact hk) (by rw [tbegin_gb k 49 (by decide) (by decide), tkR_49 Z k h, h49]) (by rw [tbegin_gb k 48 (by decide) (by decide)]; exact tkR_48 Z k h)
  rw [tkR_87 Z k h] at h1
  rw [tbegin_gi k 87 (by decide) (by decide), tkR_87 Z k h, tbegin_np] at h2
  rintro R (rfl | rfl)
  · exact ⟨tpass_ok hok hk, tpass_np _ _, h1.1, h1.2.1, h1.2.2⟩
  · exact ⟨tpass_ok okb (by rw [tbegin_np]; exact hk), (tpass_np _ _).trans (tbegin_np _ _), h2.1, h2.2.1, h2.2.2⟩

end Go.Proofs.Ytpieamfpgfabgaa
