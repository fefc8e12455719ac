/- The library's sort: the scans. No statement is proved here. -/
import Derived.Test.YtheackckmhbodaaSoE
import Derived.Deep.CutRange
import Derived.Deep.DeepCutAuto
import Derived.Sort.LotC
namespace Go.Proofs.Ytheackckmhbodaa
open Go.RowKit Go.BigFrame Go.WideShapes Go.ChangeShapes Go.Deep
set_option linter.unusedVariables false
set_option linter.unusedSimpArgs false
set_option maxRecDepth 100000

theorem sup_go (p : Int → Bool) (d : Array Int) (j i : Nat) (h : (decide (i ≤ j) && p d[i]!) = true) : Go.Sort.scanUp p d j i = Go.Sort.scanUp p d j (i + 1) := by
  rw [Go.Sort.scanUp, if_pos h]
theorem sup_stop (p : Int → Bool) (d : Array Int) (j i : Nat) (h : (decide (i ≤ j) && p d[i]!) = false) : Go.Sort.scanUp p d j i = i := by
  rw [Go.Sort.scanUp, if_neg (by rw [h]; decide)]
theorem sdn_go (p : Int → Bool) (d : Array Int) (i j : Nat) (h : (decide (i ≤ j) && p d[j]!) = true) : Go.Sort.scanDown p d i j = Go.Sort.scanDown p d i (j - 1) := by
  cases j with
  | zero => rfl
  | succ j => rw [Go.Sort.scanDown, if_pos h, Nat.add_sub_cancel]
theorem sdn_stop (p : Int → Bool) (d : Array Int) (i j : Nat) (h : (decide (i ≤ j) && p d[j]!) = false) : Go.Sort.scanDown p d i j = j := by
  cases j with
  | zero => rfl
  | succ j => rw [Go.Sort.scanDown, if_neg (by rw [h]; decide)]
/-- What partition leaves. -/
def PartP (w : World) (g n : Nat) (r : Nat × Bool × Array Int) (e : Ending) (w' : World) : Prop := ∃ (mid : Nat) (ap : Bool) (d' : Array Int), e = .returned (.tuple #[.int .i64 mid, .bool ap]) ∧ r = (mid, ap, d') ∧ SoP w g n d' w'
def ParteP (w : World) (g n : Nat) (r : Nat × Array Int) (e : Ending) (w' : World) : Prop := ∃ (mid : Nat) (d' : Array Int), e = .returned (.int .i64 mid) ∧ r = (mid, d') ∧ SoP w g n d' w'
theorem part_split (d0 : Array Int) (a b pv : Nat) (d : Array Int) (pru prd : Int → Bool) (I J : Nat) (hd : Go.Sort.swp d0 a pv = d) (hu : (fun x => ltI x d[a]!) = pru) (hn : (fun x => !ltI x d[a]!) = prd) (hI : Go.Sort.scanUp pru d (b - 1) (a + 1) = I) (hJ : Go.Sort.scanDown prd d I (b - 1) = J) :
    Go.Sort.partition ltI d0 a b pv = if I > J then (J, true, Go.Sort.swp d J a) else ((Go.Sort.partLoop ltI a (I + 1) (J - 1) (Go.Sort.swp d I J)).1, false, Go.Sort.swp (Go.Sort.partLoop ltI a (I + 1) (J - 1) (Go.Sort.swp d I J)).2 (Go.Sort.partLoop ltI a (I + 1) (J - 1) (Go.Sort.swp d I J)).1 a) := by
  subst hd; subst hu; subst hn; subst hI; subst hJ
  rfl
theorem loop_split (a i j : Nat) (d : Array Int) (pru prd : Int → Bool) (I J : Nat) (hu : (fun x => ltI x d[a]!) = pru) (hn : (fun x => !ltI x d[a]!) = prd) (hI : Go.Sort.scanUp pru d j i = I) (hJ : Go.Sort.scanDown prd d I j = J) :
    Go.Sort.partLoop ltI a i j d = if I > J then (J, d) else Go.Sort.partLoop ltI a (I + 1) (J - 1) (Go.Sort.swp d I J) := by
  subst hu; subst hn; subst hI; subst hJ
  exact Go.Sort.partLoop_eq ltI a i j d
theorem eq_split (a i j : Nat) (d : Array Int) (pru prd : Int → Bool) (I J : Nat) (hu : (fun x => !ltI d[a]! x) = pru) (hn : (fun x => ltI d[a]! x) = prd) (hI : Go.Sort.scanUp pru d j i = I) (hJ : Go.Sort.scanDown prd d I j = J) :
    Go.Sort.partEqLoop ltI a i j d = if I > J then (I, d) else Go.Sort.partEqLoop ltI a (I + 1) (J - 1) (Go.Sort.swp d I J) := by
  subst hu; subst hn; subst hI; subst hJ
  exact Go.Sort.partEqLoop_eq ltI a i j d

end Go.Proofs.Ytheackckmhbodaa
