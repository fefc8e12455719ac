/- The machine of passage, by itself. No statement is proved here. -/
import Derived.Test.YthlapkddgnpaeaaPasL
namespace Go.Proofs.Ythlapkddgnpaeaa
open Go.RowKit Go.WideShapes Go.ChangeShapes Go.Deep
set_option linter.unusedVariables false

theorem flags_one {B : Br} (ho : B.ok) {k : Nat} (hk : k < B.np) : ∀ v ∈ flags B.ps k, v.oneCell' = true := fun v hv => by
  refine ho.ps.one v ?_
  unfold flags at hv
  exact List.mem_of_mem_drop (List.mem_of_mem_take hv)

def pe0 (B : Br) (k : Nat) (l f : Bool) : Br := ((((B.setp k 20 (.int .i64 0)).setp k 29 (.bool false)).setp k 27 (.bool false)).setp k 28 (.bool l)).setp k 26 (.bool f)
/-- A port in one of the states, that is to do neither. -/
def ps0 (B : Br) (k : Nat) (s : Int) (l f : Bool) : Br := ((((B.setp k 20 (.int .i64 s)).setp k 29 (.bool l)).setp k 27 (.bool f)).setp k 28 (.bool false)).setp k 26 (.bool false)
section
variable (B : Br) (k : Nat) (h : k * 89 + 89 ≤ B.ps.length)
include h
theorem pe0_f (f : Bool) : pasF (pe0 B k false f) k = (false, pe0 B k false f) := by
  have e20 : (pe0 B k false f).gi k 20 = 0 := by (unfold pe0; rw [gi_setp_ne _ _ _ _ _ (by decide), gi_setp_ne _ _ _ _ _ (by decide), gi_setp_ne _ _ _ _ _ (by decide), gi_setp_ne _ _ _ _ _ (by decide), gi_setp_same _ _ _ _ _ (by omega)])
  have e28 : (pe0 B k false f).gb k 28 = false := by (unfold pe0; rw [gb_setp_ne _ _ _ _ _ (by decide), gb_setp_same _ _ _ _ (by simp only [len_setp]; omega)])
  simp [pasF, e20, e28]
theorem pe0_t (f : Bool) : pasF (pe0 B k true f) k = (true, pasLearn (pe0 B k true f) k) := by
  have e20 : (pe0 B k true f).gi k 20 = 0 := by (unfold pe0; rw [gi_setp_ne _ _ _ _ _ (by decide), gi_setp_ne _ _ _ _ _ (by decide), gi_setp_ne _ _ _ _ _ (by decide), gi_setp_ne _ _ _ _ _ (by decide), gi_setp_same _ _ _ _ _ (by omega)])
  have e28 : (pe0 B k true f).gb k 28 = true := by (unfold pe0; rw [gb_setp_ne _ _ _ _ _ (by decide), gb_setp_same _ _ _ _ (by simp only [len_setp]; omega)])
  simp [pasF, e20, e28]
theorem pe1_f : pasF (pasLearn (pe0 B k true false) k) k = (false, pasLearn (pe0 B k true false) k) := by
  have e20 : (pasLearn (pe0 B k true false) k).gi k 20 = 1 := by (unfold pasLearn pe0; rw [gi_setp_same _ _ _ _ _ (by simp only [len_setp]; omega)])
  have e28 : (pasLearn (pe0 B k true false) k).gb k 28 = true := by (unfold pasLearn pe0; rw [gb_setp_ne _ _ _ _ _ (by decide), gb_setp_ne _ _ _ _ _ (by decide), gb_setp_ne _ _ _ _ _ (by decide), gb_setp_same _ _ _ _ (by simp only [len_setp]; omega)])
  have e26 : (pasLearn (pe0 B k true false) k).gb k 26 = false := by (unfold pasLearn pe0; rw [gb_setp_ne _ _ _ _ _ (by decide), gb_setp_ne _ _ _ _ _ (by decide), gb_setp_same _ _ _ _ (by simp only [len_setp]; omega)])
  simp [pasF, e20, e28, e26]
theorem pe1_t : pasF (pasLearn (pe0 B k true true) k) k = (true, pasForward (pasLearn (pe0 B k true true) k) k) := by
  have e20 : (pasLearn (pe0 B k true true) k).gi k 20 = 1 := by (unfold pasLearn pe0; rw [gi_setp_same _ _ _ _ _ (by simp only [len_setp]; omega)])
  have e28 : (pasLearn (pe0 B k true true) k).gb k 28 = true := by (unfold pasLearn pe0; rw [gb_setp_ne _ _ _ _ _ (by decide), gb_setp_ne _ _ _ _ _ (by decide), gb_setp_ne _ _ _ _ _ (by decide), gb_setp_same _ _ _ _ (by simp only [len_setp]; omega)])
  have e26 : (pasLearn (pe0 B k true true) k).gb k 26 = true := by (unfold pasLearn pe0; rw [gb_setp_ne _ _ _ _ _ (by decide), gb_setp_ne _ _ _ _ _ (by decide), gb_setp_same _ _ _ _ (by simp only [len_setp]; omega)])
  simp [pasF, e20, e28, e26]
theorem pe2_t : pasF (pasForward (pasLearn (pe0 B k true true) k) k) k = (false, pasForward (pasLearn (pe0 B k true true) k) k) := by
  have e20 : (pasForward (pasLearn (pe0 B k true true) k) k).gi k 20 = 2 := by (unfold pasForward pasLearn pe0; rw [gi_setp_same _ _ _ _ _ (by simp only [len_setp]; omega)])
  have e26 : (pasForward (pasLearn (pe0 B k true true) k) k).gb k 26 = true := by (unfold pasForward pasLearn pe0; rw [gb_setp_ne _ _ _ _ _ (by decide), gb_setp_ne _ _ _ _ _ (by decide), gb_setp_ne _ _ _ _ _ (by decide), gb_setp_ne _ _ _ _ _ (by decide), gb_setp_same _ _ _ _ (by simp only [len_setp]; omega)])
  simp [pasF, e20, e26]
theorem ps0_0 : pasF (ps0 B k 0 false false) k = (false, ps0 B k 0 false false) := by
  have e20 : (ps0 B k 0 false false).gi k 20 = 0 := by (unfold ps0; rw [gi_setp_ne _ _ _ _ _ (by decide), gi_setp_ne _ _ _ _ _ (by decide), gi_setp_ne _ _ _ _ _ (by decide), gi_setp_ne _ _ _ _ _ (by decide), gi_setp_same _ _ _ _ _ (by omega)])
  have e28 : (ps0 B k 0 false false).gb k 28 = false := by (unfold ps0; rw [gb_setp_ne _ _ _ _ _ (by decide), gb_setp_same _ _ _ _ (by simp only [len_setp]; omega)])
  simp [pasF, e20, e28]
theorem ps0_1 : pasF (ps0 B k 1 true false) k = (true, pasStop (ps0 B k 1 true false) k) := by
  have e20 : (ps0 B k 1 true false).gi k 20 = 1 := by (unfold ps0; rw [gi_setp_ne _ _ _ _ _ (by decide), gi_setp_ne _ _ _ _ _ (by decide), gi_setp_ne _ _ _ _ _ (by decide), gi_setp_ne _ _ _ _ _ (by decide), gi_setp_same _ _ _ _ _ (by omega)])
  have e28 : (ps0 B k 1 true false).gb k 28 = false := by (unfold ps0; rw [gb_setp_ne _ _ _ _ _ (by decide), gb_setp_same _ _ _ _ (by simp only [len_setp]; omega)])
  simp [pasF, e20, e28]
theorem ps0_2 : pasF (ps0 B k 2 true true) k = (true, pasStop (ps0 B k 2 true true) k) := by
  have e20 : (ps0 B k 2 true true).gi k 20 = 2 := by (unfold ps0; rw [gi_setp_ne _ _ _ _ _ (by decide), gi_setp_ne _ _ _ _ _ (by decide), gi_setp_ne _ _ _ _ _ (by decide), gi_setp_ne _ _ _ _ _ (by decide), gi_setp_same _ _ _ _ _ (by omega)])
  have e26 : (ps0 B k 2 true true).gb k 26 = false := by (unfold ps0; rw [gb_setp_same _ _ _ _ (by simp only [len_setp]; omega)])
  simp [pasF, e20, e26]
theorem ps1 (s : Int) (l f : Bool) : pasF (pasStop (ps0 B k s l f) k) k = (false, pasStop (ps0 B k s l f) k) := by
  have e20 : (pasStop (ps0 B k s l f) k).gi k 20 = 0 := by (unfold pasStop ps0; rw [gi_setp_same _ _ _ _ _ (by simp only [len_setp]; omega)])
  have e28 : (pasStop (ps0 B k s l f) k).gb k 28 = false := by (unfold pasStop ps0; rw [gb_setp_ne _ _ _ _ _ (by decide), gb_setp_ne _ _ _ _ _ (by decide), gb_setp_ne _ _ _ _ _ (by decide), gb_setp_ne _ _ _ _ _ (by decide), gb_setp_same _ _ _ _ (by simp only [len_setp]; omega)])
  simp [pasF, e20, e28]
theorem ps0_c29 (s : Int) (l f : Bool) : (ps0 B k s l f).gb k 29 = l := by (unfold ps0; rw [gb_setp_ne _ _ _ _ _ (by decide), gb_setp_ne _ _ _ _ _ (by decide), gb_setp_ne _ _ _ _ _ (by decide), gb_setp_same _ _ _ _ (by simp only [len_setp]; omega)])
theorem ps0_c27 (s : Int) (l f : Bool) : (ps0 B k s l f).gb k 27 = f := by (unfold ps0; rw [gb_setp_ne _ _ _ _ _ (by decide), gb_setp_ne _ _ _ _ _ (by decide), gb_setp_same _ _ _ _ (by simp only [len_setp]; omega)])
theorem ps0_c28 (s : Int) (l f : Bool) : (ps0 B k s l f).gb k 28 = false := by (unfold ps0; rw [gb_setp_ne _ _ _ _ _ (by decide), gb_setp_same _ _ _ _ (by simp only [len_setp]; omega)])
theorem ps0_c26 (s : Int) (l f : Bool) : (ps0 B k s l f).gb k 26 = false := by (unfold ps0; rw [gb_setp_same _ _ _ _ (by simp only [len_setp]; omega)])
theorem ps0_c20 (s : Int) (l f : Bool) : (ps0 B k s l f).gi k 20 = s := by (unfold ps0; rw [gi_setp_ne _ _ _ _ _ (by decide), gi_setp_ne _ _ _ _ _ (by decide), gi_setp_ne _ _ _ _ _ (by decide), gi_setp_ne _ _ _ _ _ (by decide), gi_setp_same _ _ _ _ _ (by omega)])
theorem ps1_c29 (s : Int) (l f : Bool) : (pasStop (ps0 B k s l f) k).gb k 29 = false := by (unfold pasStop ps0; rw [gb_setp_ne _ _ _ _ _ (by decide), gb_setp_ne _ _ _ _ _ (by decide), gb_setp_same _ _ _ _ (by simp only [len_setp]; omega)])
theorem ps1_c27 (s : Int) (l f : Bool) : (pasStop (ps0 B k s l f) k).gb k 27 = false := by (unfold pasStop ps0; rw [gb_setp_ne _ _ _ _ _ (by decide), gb_setp_same _ _ _ _ (by simp only [len_setp]; omega)])
theorem ps1_c28 (s : Int) (l f : Bool) : (pasStop (ps0 B k s l f) k).gb k 28 = false := by (unfold pasStop ps0; rw [gb_setp_ne _ _ _ _ _ (by decide), gb_setp_ne _ _ _ _ _ (by decide), gb_setp_ne _ _ _ _ _ (by decide), gb_setp_ne _ _ _ _ _ (by decide), gb_setp_same _ _ _ _ (by simp only [len_setp]; omega)])
theorem ps1_c26 (s : Int) (l f : Bool) : (pasStop (ps0 B k s l f) k).gb k 26 = false := by (unfold pasStop ps0; rw [gb_setp_ne _ _ _ _ _ (by decide), gb_setp_ne _ _ _ _ _ (by decide), gb_setp_ne _ _ _ _ _ (by decide), gb_setp_same _ _ _ _ (by simp only [len_setp]; omega)])
theorem ps1_c20 (s : Int) (l f : Bool) : (pasStop (ps0 B k s l f) k).gi k 20 = 0 := by (unfold pasStop ps0; rw [gi_setp_same _ _ _ _ _ (by simp only [len_setp]; omega)])
theorem pe0_29 (f : Bool) : (pe0 B k false f).gb k 29 = false := by (unfold pe0; rw [gb_setp_ne _ _ _ _ _ (by decide), gb_setp_ne _ _ _ _ _ (by decide), gb_setp_ne _ _ _ _ _ (by decide), gb_setp_same _ _ _ _ (by simp only [len_setp]; omega)])
theorem pe0_27 (f : Bool) : (pe0 B k false f).gb k 27 = false := by (unfold pe0; rw [gb_setp_ne _ _ _ _ _ (by decide), gb_setp_ne _ _ _ _ _ (by decide), gb_setp_same _ _ _ _ (by simp only [len_setp]; omega)])
theorem pe1_29 (f : Bool) : (pasLearn (pe0 B k true f) k).gb k 29 = true := by (unfold pasLearn pe0; rw [gb_setp_ne _ _ _ _ _ (by decide), gb_setp_same _ _ _ _ (by simp only [len_setp]; omega)])
theorem pe1_27 (f : Bool) : (pasLearn (pe0 B k true f) k).gb k 27 = false := by (unfold pasLearn pe0; rw [gb_setp_ne _ _ _ _ _ (by decide), gb_setp_ne _ _ _ _ _ (by decide), gb_setp_ne _ _ _ _ _ (by decide), gb_setp_ne _ _ _ _ _ (by decide), gb_setp_same _ _ _ _ (by simp only [len_setp]; omega)])
theorem pe2_29 : (pasForward (pasLearn (pe0 B k true true) k) k).gb k 29 = true := by (unfold pasForward pasLearn pe0; rw [gb_setp_ne _ _ _ _ _ (by decide), gb_setp_ne _ _ _ _ _ (by decide), gb_setp_ne _ _ _ _ _ (by decide), gb_setp_same _ _ _ _ (by simp only [len_setp]; omega)])
theorem pe2_27 : (pasForward (pasLearn (pe0 B k true true) k) k).gb k 27 = true := by (unfold pasForward pasLearn pe0; rw [gb_setp_ne _ _ _ _ _ (by decide), gb_setp_same _ _ _ _ (by simp only [len_setp]; omega)])
end

/-- What a port is between steps. -/
def PInv (B : Br) (k : Nat) : Prop := (B.gi k 20 = 0 ∧ B.gb k 29 = false ∧ B.gb k 27 = false) ∨ (B.gi k 20 = 1 ∧ B.gb k 29 = true ∧ B.gb k 27 = false) ∨ (B.gi k 20 = 2 ∧ B.gb k 29 = true ∧ B.gb k 27 = true)
theorem pinv_set (B : Br) (k : Nat) (x y : Bool) (h : k * 89 + 89 ≤ B.ps.length) (hi : PInv B k) : PInv ((B.setp k 28 (.bool x)).setp k 26 (.bool y)) k := by
  unfold PInv at *
  simp (disch := first | decide | omega | (simp only [len_setp, len_seth]; omega)) only [gi_setp_same, gi_setp_ne, gb_setp_same, gb_setp_ne]
  exact hi
theorem pinv_step (B : Br) (k : Nat) (h : k * 89 + 89 ≤ B.ps.length) (hi : PInv B k) : PInv (pasF B k).2 k := by
  have l20 : (pasLearn B k).gi k 20 = 1 := by (unfold pasLearn; rw [gi_setp_same _ _ _ _ _ (by simp only [len_setp]; omega)])
  have l29 : (pasLearn B k).gb k 29 = true := by (unfold pasLearn; rw [gb_setp_ne _ _ _ _ _ (by decide), gb_setp_same _ _ _ _ (by omega)])
  have l27 : (pasLearn B k).gb k 27 = B.gb k 27 := by (unfold pasLearn; rw [gb_setp_ne _ _ _ _ _ (by decide), gb_setp_ne _ _ _ _ _ (by decide)])
  have s20 : (pasStop B k).gi k 20 = 0 := by (unfold pasStop; rw [gi_setp_same _ _ _ _ _ (by simp only [len_setp]; omega)])
  have s29 : (pasStop B k).gb k 29 = false := by (unfold pasStop; rw [gb_setp_ne _ _ _ _ _ (by decide), gb_setp_ne _ _ _ _ _ (by decide), gb_setp_same _ _ _ _ (by omega)])
  have s27 : (pasStop B k).gb k 27 = false := by (unfold pasStop; rw [gb_setp_ne _ _ _ _ _ (by decide), gb_setp_same _ _ _ _ (by simp only [len_setp]; omega)])
  have f20 : (pasForward B k).gi k 20 = 2 := by (unfold pasForward; rw [gi_setp_same _ _ _ _ _ (by simp only [len_setp]; omega)])
  have f29 : (pasForward B k).gb k 29 = B.gb k 29 := by (unfold pasForward; rw [gb_setp_ne _ _ _ _ _ (by decide), gb_setp_ne _ _ _ _ _ (by decide)])
  have f27 : (pasForward B k).gb k 27 = true := by (unfold pasForward; rw [gb_setp_ne _ _ _ _ _ (by decide), gb_setp_same _ _ _ _ (by omega)])
  unfold PInv at *
  unfold pasF
  rcases hi with ⟨a, b, c⟩ | ⟨a, b, c⟩ | ⟨a, b, c⟩
  all_goals
    split <;> (try split) <;> (try split) <;> (try split) <;> simp_all
theorem pinv_start (B : Br) (k : Nat) (h : k * 89 + 89 ≤ B.ps.length) : PInv (((B.setp k 20 (.int .i64 0)).setp k 29 (.bool false)).setp k 27 (.bool false)) k := by
  unfold PInv
  left
  refine ⟨?_, ?_, ?_⟩
  · simp (disch := first | decide | omega | (simp only [len_setp, len_seth]; omega)) only [gi_setp_same, gi_setp_ne, gb_setp_same, gb_setp_ne]
  · simp (disch := first | decide | omega | (simp only [len_setp, len_seth]; omega)) only [gi_setp_same, gi_setp_ne, gb_setp_same, gb_setp_ne]
  · simp (disch := first | decide | omega | (simp only [len_setp, len_seth]; omega)) only [gi_setp_same, gi_setp_ne, gb_setp_same, gb_setp_ne]

end Go.Proofs.Ythlapkddgnpaeaa
