/- The library's sort: what a round leaves to be sorted. No statement is proved here. -/
import Derived.Test.YtheackckmhbodaaSoO
import Derived.Test.YtheackckmhbodaaSoN
import Derived.Test.YtheackckmhbodaaSoG
import Derived.Test.YtheackckmhbodaaSoH
import Derived.Test.YtheackckmhbodaaSoD
import Derived.Sort.AssemblyPlain
namespace Go.Proofs.Ytheackckmhbodaa
open Go.RowKit Go.BigFrame Go.WideShapes Go.ChangeShapes Go.Deep
set_option linter.unusedVariables false
set_option linter.unusedSimpArgs false
open Go.Sort (PermIn SortedIn Below permIn_trans permIn_refl)
set_option maxRecDepth 100000

/-- [A, B) of D is sorted by whoever sorts [a, b) of l. -/
def RestP (A B : Nat) (D : Array Int) (a b : Nat) (l : List Int) : Prop := Go.Sort.Below ltI a b l.toArray ∧ ∀ R, PermIn a b l.toArray R → SortedIn ltI a b R → PermIn A B D R ∧ SortedIn ltI A B R
theorem RestP.start {a b : Nat} {l : List Int} (h : Go.Sort.Below ltI a b l.toArray) : RestP a b l.toArray a b l := ⟨h, fun _ hp hs => ⟨hp, hs⟩⟩
theorem RestP.perm {A B : Nat} {D : Array Int} {a b : Nat} {l l' : List Int} (h : RestP A B D a b l) (hb : b ≤ l.length) (hp : PermIn a b l.toArray l'.toArray) : RestP A B D a b l' :=
  ⟨Go.Sort.Below.perm h.1 (by simpa using hb) hp, fun R hR hs => h.2 R (permIn_trans _ _ _ a b hp hR) hs⟩
theorem RestP.eq {A B : Nat} {D : Array Int} {a b pv mid : Nat} {d4 : Array Int} {l l' : List Int} (h : RestP A B D a b l) (ha : 0 < a) (h1 : a ≤ pv) (h2 : pv < b) (hb : b ≤ l.length) (hnl : ltI l.toArray[a - 1]! l.toArray[pv]! = false)
    (hx : Go.Sort.partitionEqual ltI l.toArray a b pv = (mid, d4)) (hl : l'.toArray = d4) : a < mid ∧ mid ≤ b ∧ RestP A B D mid b l' := by
  subst hl
  obtain ⟨g1, g2, _, g4, g5⟩ := Go.Sort.round_eq Go.Sort.swo_ltInt (Go.Sort.partitionEqual_holds _) ha h1 h2 (by simpa using hb) h.1 hnl hx
  exact ⟨g1, g2, g4, fun R hR hs => let ⟨p, s⟩ := g5 R hR hs; h.2 R p s⟩
theorem RestP.part {A B : Nat} {D : Array Int} {a b pv mid : Nat} {ap : Bool} {d4 : Array Int} {l l' : List Int} (h : RestP A B D a b l) (h1 : a ≤ pv) (h2 : pv < b) (hb : b ≤ l.length)
    (hx : Go.Sort.partition ltI l.toArray a b pv = (mid, ap, d4)) (hl : l'.toArray = d4) : a ≤ mid ∧ mid < b ∧ Go.Sort.Below ltI a mid l'.toArray ∧ Go.Sort.Below ltI (mid + 1) b l'.toArray ∧
      (∀ L : List Int, PermIn a mid l'.toArray L.toArray → SortedIn ltI a mid L.toArray → RestP A B D (mid + 1) b L) ∧ (∀ L : List Int, PermIn (mid + 1) b l'.toArray L.toArray → SortedIn ltI (mid + 1) b L.toArray → RestP A B D a mid L) := by
  subst hl
  obtain ⟨g1, g2, _, g4, g5, g6, g7⟩ := Go.Sort.round_part Go.Sort.swo_ltInt (Go.Sort.partition_holds _) h1 h2 (by simpa using hb) h.1 hx
  exact ⟨g1, g2, g4, g5, fun L hp hs => ⟨(g6 L.toArray hp hs).1, fun R hR hs2 => let ⟨p, s⟩ := (g6 L.toArray hp hs).2 R hR hs2; h.2 R p s⟩, fun L hp hs => ⟨(g7 L.toArray hp hs).1, fun R hR hs2 => let ⟨p, s⟩ := (g7 L.toArray hp hs).2 R hR hs2; h.2 R p s⟩⟩
theorem rest_ins {A B : Nat} {D : Array Int} {a b : Nat} {l l' : List Int} (h : RestP A B D a b l) (hab : a ≤ b) (hb : b ≤ l.length) (hl : l'.toArray = Go.Sort.insertionSort ltI l.toArray a b) : PermIn A B D l'.toArray ∧ SortedIn ltI A B l'.toArray := by
  obtain ⟨p, s⟩ := Go.Sort.insertionSort_holds Go.Sort.swo_ltInt l.toArray a b hab (by simpa using hb)
  rw [← hl] at p s
  exact h.2 _ p s
theorem rest_heap {A B : Nat} {D : Array Int} {a b : Nat} {l l' : List Int} (h : RestP A B D a b l) (hab : a ≤ b) (hb : b ≤ l.length) (hl : l'.toArray = Go.Sort.heapSort ltI l.toArray a b) : PermIn A B D l'.toArray ∧ SortedIn ltI A B l'.toArray := by
  obtain ⟨p, s⟩ := Go.Sort.heapSort_holds Go.Sort.swo_ltInt l.toArray a b hab (by simpa using hb)
  rw [← hl] at p s
  exact h.2 _ p s
theorem rest_brk {A B : Nat} {D : Array Int} {a b : Nat} {l l' : List Int} (h : RestP A B D a b l) (hab : a ≤ b) (hb : b ≤ l.length) (hl : l'.toArray = Go.Sort.breakPatterns l.toArray a b) : RestP A B D a b l' :=
  h.perm hb (by rw [hl]; exact Go.Sort.breakPatterns_holds l.toArray a b hab (by simpa using hb))
theorem rest_rev {A B : Nat} {D : Array Int} {a b : Nat} {l l' : List Int} (h : RestP A B D a b l) (hab : a ≤ b) (hb : b ≤ l.length) (hl : l'.toArray = Go.Sort.reverseRange l.toArray a b) : RestP A B D a b l' :=
  h.perm hb (by rw [hl]; exact Go.Sort.reverseRange_holds l.toArray a b hab (by simpa using hb))
theorem rest_pins {A B : Nat} {D : Array Int} {a b : Nat} {ok : Bool} {d' : Array Int} {l l' : List Int} (h : RestP A B D a b l) (hab : a < b) (hb : b ≤ l.length) (hx : Go.Sort.partialInsertionSort ltI l.toArray a b = (d', ok)) (hl : l'.toArray = d') :
    RestP A B D a b l' ∧ (ok = true → PermIn A B D l'.toArray ∧ SortedIn ltI A B l'.toArray) := by
  obtain ⟨p, s⟩ := Go.Sort.partialInsertionSort_holds Go.Sort.swo_ltInt l.toArray a b hab (by simpa using hb) h.1
  rw [hx] at p s
  rw [← hl] at p s
  exact ⟨h.perm hb p, fun ho => h.2 _ p (s ho)⟩
/-- Block g is sorted from a to b. -/
def SortP (w : World) (g n a b : Nat) (D : Array Int) (w' : World) : Prop := ∃ l, Nums w' g l ∧ l.length = n ∧ (PermIn a b D l.toArray ∧ SortedIn ltI a b l.toArray) ∧ Mut (fun k => k = g) w w'

end Go.Proofs.Ytheackckmhbodaa
