/- Role transitions as one function of a bridge. No statement is proved here. -/
import Derived.Test.YtnblchilgaimhaaTrG
namespace Go.Proofs.Ytnblchilgaimhaa
open Go.RowKit Go.BigFrame Go.WideShapes Go.ChangeShapes Go.Deep
set_option linter.unusedVariables false
set_option linter.unusedSimpArgs false

theorem setp_sort (B : Br) (k : Nat) {i j : Nat} (u v : Value) (h : i < j) : (B.setp k j v).setp k i u = (B.setp k i u).setp k j v := by
  unfold Br.setp
  congr 1
  exact List.set_comm _ _ (by omega)

def trWait (B : Br) (k : Nat) : Int := if B.gb k 45 = true then B.hi 4 else B.hi 5
def trEd (B : Br) (k : Nat) : Int := if B.gb k 3 = true then B.hi 3 else 3
def trAll (B : Br) : Bool := (List.range B.np).all (syncP B)
theorem trAll_iff (B : Br) : trAll B = true ↔ AllSyn B := by
  unfold trAll AllSyn
  simp [List.all_eq_true]
def trRer (B : Br) (k : Nat) : Bool := (List.range B.np).all fun j => j == k || B.gi j 12 == 0
theorem trRer_iff (B : Br) (k : Nat) : trRer B k = true ↔ ReR B k := by
  unfold trRer ReR
  simp only [List.all_eq_true, List.mem_range, Bool.or_eq_true, beq_iff_eq]
  constructor
  · intro h j hj hne
    rcases h j hj with h1 | h1
    · exact absurd (by exact_mod_cast h1) hne
    · exact h1
  · intro h j hj
    by_cases e : j = k
    · exact .inl e
    · exact .inr (h j hj (by exact_mod_cast e))

def trUns (B : Br) (k : Nat) (fd : Int) : Bool := B.gi k 7 != fd || B.gb k 46 || B.gb k 42 || !B.gb k 47
def trMay (B : Br) (k : Nat) : Bool := B.gi k 7 == 0 || (B.hb 1 && trRer B k && B.gi k 10 == 0)
def trAgs (B : Br) (k : Nat) : Bool := (trAll B && !B.gb k 22) || (B.gb k 33 && B.gb k 22)
def trDes (B : Br) (k : Nat) : Bool := (B.gi k 7 == 0 || B.gb k 23 || B.gb k 32) && (!B.gb k 42 || B.gi k 12 == 0) && !B.gb k 46

/-- Whether a row holds. -/
def trHB (B : Br) (k : Nat) : Nat → Bool
  | 0 => B.gi k 88 == 0 && B.gi k 87 != 0
  | 1 => B.gi k 88 == 3 && B.gi k 87 != 3
  | 2 => B.gi k 88 == 4 && B.gi k 87 != 4
  | 3 => (B.gi k 88 == 1 && B.gi k 87 != 1) || (B.gi k 88 == 2 && B.gi k 87 != 2)
  | 4 => !B.gb k 29 && !B.gb k 27
  | 5 => trUns B k (B.hi 3)
  | 6 => !B.gb k 29 && !B.gb k 27
  | 7 => B.gb k 33 && !B.gb k 22
  | 8 => trAgs B k
  | 9 => B.gi k 87 == 2 && B.gi k 10 != 2 * B.hi 4
  | 10 => trUns B k (trWait B k)
  | 11 => B.gb k 33 && !B.gb k 22
  | 12 => trAgs B k
  | 13 => !B.gb k 26 && !B.gb k 42
  | 14 => trMay B k && !B.gb k 28
  | 15 => trMay B k && B.gb k 28 && !B.gb k 26
  | 16 => B.gb k 42 && B.gb k 26
  | 17 => B.gi k 12 != B.hi 5
  | 18 => !B.gb k 26 && !B.gb k 23 && !B.gb k 34 && !B.gb k 32
  | 19 => if B.gb k 47 = true then B.gb k 46 else (!B.gb k 29 && !B.gb k 27) || B.gb k 23 || B.gb k 32
  | 20 => B.gb k 42 && B.gi k 12 == 0
  | 21 => (B.gb k 28 || B.gb k 26) && !B.gb k 32 && ((B.gb k 46 && !B.gb k 47) || (B.gb k 42 && B.gi k 12 != 0) || B.gb k 24)
  | 22 => trDes B k && !B.gb k 28
  | _ => trDes B k && B.gb k 28 && !B.gb k 26

def trSettle (B : Br) (k : Nat) (fd : Int) : Br := ((((B.setp k 7 (.int .i64 fd)).setp k 12 (.int .i64 0)).setp k 47 (.bool true)).setp k 46 (.bool false)).setp k 42 (.bool false)
def trAskAll (B : Br) (k : Nat) : Br := (B.upd 46 (fun _ => .bool true) B.np).setp k 33 (.bool false)
def trReAll (B : Br) : Br := B.upd 42 (fun _ => .bool true) B.np
def trAgree (B : Br) (k : Nat) : Br := ((B.setp k 33 (.bool false)).setp k 22 (.bool true)).setp k 31 (.bool true)
def trLearn (B : Br) (k : Nat) : Br := (B.setp k 28 (.bool true)).setp k 7 (.int .i64 (trWait B k))
def trFwd (B : Br) (k : Nat) : Br := (B.setp k 26 (.bool true)).setp k 7 (.int .i64 0)
def trStop (B : Br) (k : Nat) : Br := ((B.setp k 28 (.bool false)).setp k 26 (.bool false)).setp k 87 (.int .i64 (B.gi k 88))

/-- What a row does. -/
def trAB (B : Br) (k : Nat) : Nat → Br
  | 0 => trStop B k
  | 1 => (B.setp k 87 (.int .i64 (B.gi k 88))).setp k 12 (.int .i64 (B.hi 5))
  | 2 => B.setp k 87 (.int .i64 (B.gi k 88))
  | 3 => trStop B k
  | 4 => trSettle B k (B.hi 3)
  | 5 => trSettle B k (B.hi 3)
  | 6 => trSettle B k (trWait B k)
  | 7 => trAskAll B k
  | 8 => trAgree B k
  | 9 => B.setp k 10 (.int .i64 (2 * B.hi 4))
  | 10 => trSettle B k (trWait B k)
  | 11 => trAskAll B k
  | 12 => (trAgree B k).setp k 46 (.bool false)
  | 13 => trReAll B
  | 14 => trLearn B k
  | 15 => trFwd B k
  | 16 => B.setp k 42 (.bool false)
  | 17 => B.setp k 12 (.int .i64 (B.hi 5))
  | 18 => ((B.setp k 34 (.bool true)).setp k 31 (.bool true)).setp k 6 (.int .i64 (trEd B k))
  | 19 => ((B.setp k 12 (.int .i64 0)).setp k 47 (.bool true)).setp k 46 (.bool false)
  | 20 => B.setp k 42 (.bool false)
  | 21 => (((B.setp k 28 (.bool false)).setp k 26 (.bool false)).setp k 24 (.bool false)).setp k 7 (.int .i64 (trWait B k))
  | 22 => trLearn B k
  | _ => (trFwd B k).setp k 23 (.bool (B.gb k 45))

/-- Which row holds first; 24: none. -/
def trR (B : Br) (k : Nat) : Nat :=
  if trHB B k 0 = true then 0 else if trHB B k 1 = true then 1 else if trHB B k 2 = true then 2 else if trHB B k 3 = true then 3 else
  if B.gi k 19 = 0 then (if trHB B k 4 = true then 4 else 24) else
  if B.gi k 19 = 1 then (if trHB B k 5 = true then 5 else 24) else
  if B.gi k 19 = 4 then (if trHB B k 6 = true then 6 else 24) else
  if B.gi k 19 = 5 then (if trHB B k 7 = true then 7 else if trHB B k 8 = true then 8 else if trHB B k 9 = true then 9 else if trHB B k 10 = true then 10 else 24) else
  if B.gi k 19 = 2 then (if trHB B k 11 = true then 11 else if trHB B k 12 = true then 12 else if trHB B k 13 = true then 13 else if trHB B k 14 = true then 14 else if trHB B k 15 = true then 15 else if trHB B k 16 = true then 16 else if trHB B k 17 = true then 17 else 24) else
  if B.gi k 19 = 3 then (if trHB B k 18 = true then 18 else if trHB B k 19 = true then 19 else if trHB B k 20 = true then 20 else if trHB B k 21 = true then 21 else if trHB B k 22 = true then 22 else if trHB B k 23 = true then 23 else 24) else 24

def trRow (B : Br) (k r : Nat) : Bool × Br := if r = 24 then (false, B) else if trN r = -2 then (true, trAB B k r) else (true, (trAB B k r).setp k 19 (.int .i64 (trN r)))
/-- A step of role transitions. -/
def trF (B : Br) (k : Nat) : Bool × Br := if B.gb k 44 = true ∧ B.gb k 50 = false then trRow B k (trR B k) else (false, B)

section
variable {B : Br} {k : Nat}
theorem trR_le : trR B k ≤ 24 := by
  unfold trR
  grind (splits := 40)
theorem trR_yes (h : trR B k < 24) : (trS (trR B k) = -1 ∨ trS (trR B k) = B.gi k 19) ∧ trHB B k (trR B k) = true := by
  revert h
  unfold trR
  grind (splits := 40) [trS]
theorem trR_no : ∀ i, i < trR B k → ¬ ((trS i = -1 ∨ trS i = B.gi k 19) ∧ trHB B k i = true) := by
  intro i hi
  have h24 : i < 24 := Nat.lt_of_lt_of_le hi trR_le
  rintro ⟨hs, hh⟩
  unfold trR at hi
  rcases (by omega : i = 0 ∨ i = 1 ∨ i = 2 ∨ i = 3 ∨ i = 4 ∨ i = 5 ∨ i = 6 ∨ i = 7 ∨ i = 8 ∨ i = 9 ∨ i = 10 ∨ i = 11 ∨ i = 12 ∨ i = 13 ∨ i = 14 ∨ i = 15 ∨ i = 16 ∨ i = 17 ∨ i = 18 ∨ i = 19 ∨ i = 20 ∨ i = 21 ∨ i = 22 ∨ i = 23) with rfl | rfl | rfl | rfl | rfl | rfl | rfl | rfl | rfl | rfl | rfl | rfl | rfl | rfl | rfl | rfl | rfl | rfl | rfl | rfl | rfl | rfl | rfl | rfl
  all_goals
    simp only [trS] at hs
    grind (splits := 40)
end

end Go.Proofs.Ytnblchilgaimhaa
