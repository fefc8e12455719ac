/- Which role a port is to have: what is chosen, as one function on the port's cells. No statement is proved here. -/
import Derived.Test.YthfoacgdkoijeaaSelC
namespace Go.Proofs.Ythfoacgdkoijeaa
open Go.RowKit Go.BigFrame Go.WideShapes Go.ChangeShapes Go.Deep
set_option linter.unusedVariables false
set_option linter.unusedSimpArgs false

/-- A port that is to be designated. -/
def dsL (sm te : Bool) (M : List Value) : List Value := match sm, te with | true, true => M.set 88 (.int .i64 4) | _, _ => (M.set 88 (.int .i64 4)).set 50 (.bool true)
def smL (L : List Value) : Bool := ((c4 (pI L 68) (pI L 69) (pI L 70) (pI L 71) (pI L 73) (pI L 74) (pI L 75) (pI L 76)) == 0)
def teL (L : List Value) : Bool := ((pI L 78) == (pI L 82) && (pI L 79) == (pI L 83) && (pI L 80) == (pI L 84) && (pI L 81) == (pI L 85))
def lsL (L : List Value) : Bool := (decide ((c4 (pI L 73) (pI L 74) (pI L 75) (pI L 76) (pI L 68) (pI L 69) (pI L 70) (pI L 71)) < 0))
/-- What is chosen for port k: rp: the root's port; id: the bridge's number. -/
def chL (k : Nat) (rp id : Int) (L : List Value) : List Value :=
  if pI L 86 = 0 then L.set 88 (.int .i64 0)
  else if pI L 86 = 3 then (if ((k : Int) == rp || !lsL L) = true then (L.set 88 (.int .i64 (roleF k rp (pI L 70) id))).set 50 (.bool false) else dsL (smL L) (teL L) (L.set 50 (.bool true)))
  else if pI L 86 = 1 then dsL (smL L) (teL L) (L.set 50 (.bool true))
  else if pI L 86 = 2 then dsL (smL L) (teL L) L
  else L
theorem choose_any {w : World} (G k : Nat) (L : List Value) (hP_w : Pv w G (k * 89) L) (hT : Typed PL L) (X : Nat) (id rp : Int) (np cap : Nat) (hid0 : w.cell? ⟨X, 0, none⟩ = some (.int .u64 id)) (hrp : w.cell? ⟨X, 12, none⟩ = some (.int .i64 rp)) (h17 : w.cell? ⟨X, 17, none⟩ = some (.slice (some ⟨G, 0, none⟩) np cap)) (hXl : X < w.heap.size) (hXG : X ≠ G) (hk : k < np) (hn : np < 1000) (gid : 0 ≤ id ∧ id < 18446744073709551616) : Calls Try.prog 55 #[.pointer (some ⟨X, 0, none⟩), .int .i64 k] w fun e w' => e = .returned (.tuple #[]) ∧ Pv w' G (k * 89) (chL k rp id L) ∧ Pm G (k * 89) w w' := by
  have hl := tpL hT
  have g70 := wf_u64 (tpW hT 70 rfl)
  have h86 := tpI hT 86 rfl
  unfold chL
  by_cases e0 : pI L 86 = 0
  · rw [if_pos e0]
    rw [e0] at h86
    exact choose_0 G k L hP_w hl X id rp np cap hid0 hrp h17 hXl hXG hk hn gid _ (tpI hT 68 rfl) _ (tpI hT 69 rfl) _ (tpI hT 70 rfl) _ (tpI hT 71 rfl) _ (tpI hT 72 rfl) _ (tpI hT 73 rfl) _ (tpI hT 74 rfl) _ (tpI hT 75 rfl) _ (tpI hT 76 rfl) _ (tpI hT 77 rfl) _ (tpI hT 78 rfl) _ (tpI hT 79 rfl) _ (tpI hT 80 rfl) _ (tpI hT 81 rfl) _ (tpI hT 82 rfl) _ (tpI hT 83 rfl) _ (tpI hT 84 rfl) _ (tpI hT 85 rfl) h86 g70
  rw [if_neg e0]
  obtain ⟨sm, hsm⟩ : ∃ b, smL L = b := ⟨_, rfl⟩
  obtain ⟨te, hte⟩ : ∃ b, teL L = b := ⟨_, rfl⟩
  rw [hsm, hte]
  unfold smL at hsm
  unfold teL at hte
  by_cases e3 : pI L 86 = 3
  · rw [if_pos e3]
    rw [e3] at h86
    cases hrb : ((k : Int) == rp)
    · cases hls : lsL L
      · simp only [Bool.false_or, Bool.not_false, if_true]
        exact choose_3kp G k L hP_w hl X id rp np cap hid0 hrp h17 hXl hXG hk hn gid _ (tpI hT 68 rfl) _ (tpI hT 69 rfl) _ (tpI hT 70 rfl) _ (tpI hT 71 rfl) _ (tpI hT 72 rfl) _ (tpI hT 73 rfl) _ (tpI hT 74 rfl) _ (tpI hT 75 rfl) _ (tpI hT 76 rfl) _ (tpI hT 77 rfl) _ (tpI hT 78 rfl) _ (tpI hT 79 rfl) _ (tpI hT 80 rfl) _ (tpI hT 81 rfl) _ (tpI hT 82 rfl) _ (tpI hT 83 rfl) _ (tpI hT 84 rfl) _ (tpI hT 85 rfl) h86 g70 hrb hls
      · simp only [Bool.false_or, Bool.not_true, Bool.false_eq_true, if_false]
        cases sm
        · exact choose_3_00 G k L hP_w hl X id rp np cap hid0 hrp h17 hXl hXG hk hn gid _ (tpI hT 68 rfl) _ (tpI hT 69 rfl) _ (tpI hT 70 rfl) _ (tpI hT 71 rfl) _ (tpI hT 72 rfl) _ (tpI hT 73 rfl) _ (tpI hT 74 rfl) _ (tpI hT 75 rfl) _ (tpI hT 76 rfl) _ (tpI hT 77 rfl) _ (tpI hT 78 rfl) _ (tpI hT 79 rfl) _ (tpI hT 80 rfl) _ (tpI hT 81 rfl) _ (tpI hT 82 rfl) _ (tpI hT 83 rfl) _ (tpI hT 84 rfl) _ (tpI hT 85 rfl) h86 g70 hrb hls hsm
        · cases te
          · exact choose_3_10 G k L hP_w hl X id rp np cap hid0 hrp h17 hXl hXG hk hn gid _ (tpI hT 68 rfl) _ (tpI hT 69 rfl) _ (tpI hT 70 rfl) _ (tpI hT 71 rfl) _ (tpI hT 72 rfl) _ (tpI hT 73 rfl) _ (tpI hT 74 rfl) _ (tpI hT 75 rfl) _ (tpI hT 76 rfl) _ (tpI hT 77 rfl) _ (tpI hT 78 rfl) _ (tpI hT 79 rfl) _ (tpI hT 80 rfl) _ (tpI hT 81 rfl) _ (tpI hT 82 rfl) _ (tpI hT 83 rfl) _ (tpI hT 84 rfl) _ (tpI hT 85 rfl) h86 g70 hrb hls hsm (fun w => (neq_times w (pI L 78) (pI L 79) (pI L 80) (pI L 81) (pI L 82) (pI L 83) (pI L 84) (pI L 85)).trans (by rw [hte]; rfl))
          · exact choose_3_11 G k L hP_w hl X id rp np cap hid0 hrp h17 hXl hXG hk hn gid _ (tpI hT 68 rfl) _ (tpI hT 69 rfl) _ (tpI hT 70 rfl) _ (tpI hT 71 rfl) _ (tpI hT 72 rfl) _ (tpI hT 73 rfl) _ (tpI hT 74 rfl) _ (tpI hT 75 rfl) _ (tpI hT 76 rfl) _ (tpI hT 77 rfl) _ (tpI hT 78 rfl) _ (tpI hT 79 rfl) _ (tpI hT 80 rfl) _ (tpI hT 81 rfl) _ (tpI hT 82 rfl) _ (tpI hT 83 rfl) _ (tpI hT 84 rfl) _ (tpI hT 85 rfl) h86 g70 hrb hls hsm (fun w => (neq_times w (pI L 78) (pI L 79) (pI L 80) (pI L 81) (pI L 82) (pI L 83) (pI L 84) (pI L 85)).trans (by rw [hte]; rfl))
    · simp only [Bool.true_or, if_true]
      exact choose_3rp G k L hP_w hl X id rp np cap hid0 hrp h17 hXl hXG hk hn gid _ (tpI hT 68 rfl) _ (tpI hT 69 rfl) _ (tpI hT 70 rfl) _ (tpI hT 71 rfl) _ (tpI hT 72 rfl) _ (tpI hT 73 rfl) _ (tpI hT 74 rfl) _ (tpI hT 75 rfl) _ (tpI hT 76 rfl) _ (tpI hT 77 rfl) _ (tpI hT 78 rfl) _ (tpI hT 79 rfl) _ (tpI hT 80 rfl) _ (tpI hT 81 rfl) _ (tpI hT 82 rfl) _ (tpI hT 83 rfl) _ (tpI hT 84 rfl) _ (tpI hT 85 rfl) h86 g70 hrb
  rw [if_neg e3]
  by_cases e1 : pI L 86 = 1
  · rw [if_pos e1]
    rw [e1] at h86
    cases sm
    · exact choose_1_00 G k L hP_w hl X id rp np cap hid0 hrp h17 hXl hXG hk hn gid _ (tpI hT 68 rfl) _ (tpI hT 69 rfl) _ (tpI hT 70 rfl) _ (tpI hT 71 rfl) _ (tpI hT 72 rfl) _ (tpI hT 73 rfl) _ (tpI hT 74 rfl) _ (tpI hT 75 rfl) _ (tpI hT 76 rfl) _ (tpI hT 77 rfl) _ (tpI hT 78 rfl) _ (tpI hT 79 rfl) _ (tpI hT 80 rfl) _ (tpI hT 81 rfl) _ (tpI hT 82 rfl) _ (tpI hT 83 rfl) _ (tpI hT 84 rfl) _ (tpI hT 85 rfl) h86 g70 hsm
    · cases te
      · exact choose_1_10 G k L hP_w hl X id rp np cap hid0 hrp h17 hXl hXG hk hn gid _ (tpI hT 68 rfl) _ (tpI hT 69 rfl) _ (tpI hT 70 rfl) _ (tpI hT 71 rfl) _ (tpI hT 72 rfl) _ (tpI hT 73 rfl) _ (tpI hT 74 rfl) _ (tpI hT 75 rfl) _ (tpI hT 76 rfl) _ (tpI hT 77 rfl) _ (tpI hT 78 rfl) _ (tpI hT 79 rfl) _ (tpI hT 80 rfl) _ (tpI hT 81 rfl) _ (tpI hT 82 rfl) _ (tpI hT 83 rfl) _ (tpI hT 84 rfl) _ (tpI hT 85 rfl) h86 g70 hsm (fun w => (neq_times w (pI L 78) (pI L 79) (pI L 80) (pI L 81) (pI L 82) (pI L 83) (pI L 84) (pI L 85)).trans (by rw [hte]; rfl))
      · exact choose_1_11 G k L hP_w hl X id rp np cap hid0 hrp h17 hXl hXG hk hn gid _ (tpI hT 68 rfl) _ (tpI hT 69 rfl) _ (tpI hT 70 rfl) _ (tpI hT 71 rfl) _ (tpI hT 72 rfl) _ (tpI hT 73 rfl) _ (tpI hT 74 rfl) _ (tpI hT 75 rfl) _ (tpI hT 76 rfl) _ (tpI hT 77 rfl) _ (tpI hT 78 rfl) _ (tpI hT 79 rfl) _ (tpI hT 80 rfl) _ (tpI hT 81 rfl) _ (tpI hT 82 rfl) _ (tpI hT 83 rfl) _ (tpI hT 84 rfl) _ (tpI hT 85 rfl) h86 g70 hsm (fun w => (neq_times w (pI L 78) (pI L 79) (pI L 80) (pI L 81) (pI L 82) (pI L 83) (pI L 84) (pI L 85)).trans (by rw [hte]; rfl))
  rw [if_neg e1]
  by_cases e2 : pI L 86 = 2
  · rw [if_pos e2]
    rw [e2] at h86
    cases sm
    · exact choose_2_00 G k L hP_w hl X id rp np cap hid0 hrp h17 hXl hXG hk hn gid _ (tpI hT 68 rfl) _ (tpI hT 69 rfl) _ (tpI hT 70 rfl) _ (tpI hT 71 rfl) _ (tpI hT 72 rfl) _ (tpI hT 73 rfl) _ (tpI hT 74 rfl) _ (tpI hT 75 rfl) _ (tpI hT 76 rfl) _ (tpI hT 77 rfl) _ (tpI hT 78 rfl) _ (tpI hT 79 rfl) _ (tpI hT 80 rfl) _ (tpI hT 81 rfl) _ (tpI hT 82 rfl) _ (tpI hT 83 rfl) _ (tpI hT 84 rfl) _ (tpI hT 85 rfl) h86 g70 hsm
    · cases te
      · exact choose_2_10 G k L hP_w hl X id rp np cap hid0 hrp h17 hXl hXG hk hn gid _ (tpI hT 68 rfl) _ (tpI hT 69 rfl) _ (tpI hT 70 rfl) _ (tpI hT 71 rfl) _ (tpI hT 72 rfl) _ (tpI hT 73 rfl) _ (tpI hT 74 rfl) _ (tpI hT 75 rfl) _ (tpI hT 76 rfl) _ (tpI hT 77 rfl) _ (tpI hT 78 rfl) _ (tpI hT 79 rfl) _ (tpI hT 80 rfl) _ (tpI hT 81 rfl) _ (tpI hT 82 rfl) _ (tpI hT 83 rfl) _ (tpI hT 84 rfl) _ (tpI hT 85 rfl) h86 g70 hsm (fun w => (neq_times w (pI L 78) (pI L 79) (pI L 80) (pI L 81) (pI L 82) (pI L 83) (pI L 84) (pI L 85)).trans (by rw [hte]; rfl))
      · exact choose_2_11 G k L hP_w hl X id rp np cap hid0 hrp h17 hXl hXG hk hn gid _ (tpI hT 68 rfl) _ (tpI hT 69 rfl) _ (tpI hT 70 rfl) _ (tpI hT 71 rfl) _ (tpI hT 72 rfl) _ (tpI hT 73 rfl) _ (tpI hT 74 rfl) _ (tpI hT 75 rfl) _ (tpI hT 76 rfl) _ (tpI hT 77 rfl) _ (tpI hT 78 rfl) _ (tpI hT 79 rfl) _ (tpI hT 80 rfl) _ (tpI hT 81 rfl) _ (tpI hT 82 rfl) _ (tpI hT 83 rfl) _ (tpI hT 84 rfl) _ (tpI hT 85 rfl) h86 g70 hsm (fun w => (neq_times w (pI L 78) (pI L 79) (pI L 80) (pI L 81) (pI L 82) (pI L 83) (pI L 84) (pI L 85)).trans (by rw [hte]; rfl))
  rw [if_neg e2]
  exact choose_no G k L hP_w hl X id rp np cap hid0 hrp h17 hXl hXG hk hn gid _ (tpI hT 68 rfl) _ (tpI hT 69 rfl) _ (tpI hT 70 rfl) _ (tpI hT 71 rfl) _ (tpI hT 72 rfl) _ (tpI hT 73 rfl) _ (tpI hT 74 rfl) _ (tpI hT 75 rfl) _ (tpI hT 76 rfl) _ (tpI hT 77 rfl) _ (tpI hT 78 rfl) _ (tpI hT 79 rfl) _ (tpI hT 80 rfl) _ (tpI hT 81 rfl) _ (tpI hT 82 rfl) _ (tpI hT 83 rfl) _ (tpI hT 84 rfl) _ (tpI hT 85 rfl) _ h86 g70 ⟨ne_b e0, ne_b e1, ne_b e2, ne_b e3⟩

end Go.Proofs.Ythfoacgdkoijeaa
