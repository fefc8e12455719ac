/- Short forms of the steps of drawn regions. No statement is proved here. -/
import Derived.Test.YthfoacgdkoijeaaPvB
import Derived.Test.YthfoacgdkoijeaaZtwo
namespace Go.Proofs.Ythfoacgdkoijeaa
open Go.RowKit Go.BigFrame Go.WideShapes Go.ChangeShapes Go.Deep
set_option linter.unusedVariables false
set_option linter.unusedSimpArgs false

theorem ps : (∀ (a : Act) (d : Nat) (v : Value), a.put (some d) v = { a with tmps := a.tmps.setIfInBounds d v }) ∧ (∀ (a : Act) (v : Value), a.put none v = a) ∧ (∀ (l : List Value) (i : Nat) (v : Value), l.toArray.setIfInBounds i v = (l.set i v).toArray) ∧
    (∀ (x v : Value) (l : List Value), (x :: l).set 0 v = v :: l) ∧ (∀ (x v : Value) (l : List Value) (n : Nat), (x :: l).set (n + 1) v = x :: l.set n v) :=
  ⟨fun _ _ _ => rfl, fun _ _ => rfl, fun _ _ _ => List.setIfInBounds_toArray .., fun _ _ _ => rfl, fun _ _ _ _ => rfl⟩
theorem tL {P : Program} {md : Region.Mode} {Q : Exit → Act → World → Prop} {S : World → Prop} {l rest : List Oper} {oi : Oper} {fuel : Nat} {listed : Array Bool} {a : Act} {w : World} (i : Nat) (v : Value) (hi : l.drop i = oi :: rest) (hy : YieldsIf P l.toArray S oi v a) (hS : S w)
    (h : wpAnyH P md l.toArray Q S fuel (listed.setIfInBounds i true) (a.put oi.dst v) w)
    (hs : Region.noSelect l.toArray = true := by kernel_rfl) (hf : Region.free md l.toArray listed i = true := by kernel_rfl) (hr : (Region.ready md l.toArray listed).contains i = true := by kernel_rfl)
    (hQ : ∀ c a w, Q (.panic c) (a.put oi.dst v) w → Q (.panic c) a w := by exact fun _ _ _ h => h) : wpAnyH P md l.toArray Q S (fuel + 1) listed a w := takeL hi hs hf hr hQ hy hS h
theorem tLp {P : Program} {md : Region.Mode} {Q : Exit → Act → World → Prop} {S : World → Prop} {l rest : List Oper} {oi : Oper} {fuel : Nat} {listed : Array Bool} {a : Act} {w : World} (i : Nat) (v : Value) (hi : l.drop i = oi :: rest) (hS : S w)
    (h : wpAnyH P md l.toArray Q S fuel (listed.setIfInBounds i true) (a.put oi.dst v) w)
    (hs : Region.noSelect l.toArray = true := by kernel_rfl) (hf : Region.free md l.toArray listed i = true := by kernel_rfl) (hr : (Region.ready md l.toArray listed).contains i = true := by kernel_rfl)
    (hQ : ∀ c a w, Q (.panic c) (a.put oi.dst v) w → Q (.panic c) a w := by exact fun _ _ _ h => h) (hy : YieldsIf P l.toArray S oi v a := by exact Or.inl ⟨rfl, fun _ _ => rfl⟩) : wpAnyH P md l.toArray Q S (fuel + 1) listed a w := takeL hi hs hf hr hQ hy hS h
theorem tW {P : Program} {md : Region.Mode} {Q : Exit → Act → World → Prop} {w0 : World} {G o : Nat} {l rest rz : List Oper} {oi oz : Oper} {fuel : Nat} {listed : Array Bool} {a : Act} {w : World} (i z : Nat) (v : Value) (hi : l.drop i = oi :: rest) (hz : l.drop z = oz :: rz)
    (hy : YieldsIf P l.toArray (fun W' => Ext w0 W') oi v a) (hS : Ext w0 w) (h : wpAnyW P md l.toArray Q (fun W' => Ext w0 W') (fun W' => Pm G o w0 W') z fuel (listed.setIfInBounds i true) (a.put oi.dst v) w)
    (hzi : (oz.after.toList.any fun e => Region.binds md e && e.on == i) = true := by kernel_rfl) (hne : (z == i) = false := by kernel_rfl) (hzl : listed.getD z true = false := by kernel_rfl)
    (hs : Region.noSelect l.toArray = true := by kernel_rfl) (hf : Region.free md l.toArray listed i = true := by kernel_rfl) (hr : (Region.ready md l.toArray listed).contains i = true := by kernel_rfl)
    (hQ : ∀ c a w, Q (.panic c) (a.put oi.dst v) w → Q (.panic c) a w := by exact fun _ _ _ h => h) : wpAnyW P md l.toArray Q (fun W' => Ext w0 W') (fun W' => Pm G o w0 W') z (fuel + 1) listed a w := takeW hi hz hzi hne hzl hs hf hr hQ hy hS (hS.pm G o) h
theorem tWp {P : Program} {md : Region.Mode} {Q : Exit → Act → World → Prop} {w0 : World} {G o : Nat} {l rest rz : List Oper} {oi oz : Oper} {fuel : Nat} {listed : Array Bool} {a : Act} {w : World} (i z : Nat) (v : Value) (hi : l.drop i = oi :: rest) (hz : l.drop z = oz :: rz)
    (hS : Ext w0 w) (h : wpAnyW P md l.toArray Q (fun W' => Ext w0 W') (fun W' => Pm G o w0 W') z fuel (listed.setIfInBounds i true) (a.put oi.dst v) w)
    (hzi : (oz.after.toList.any fun e => Region.binds md e && e.on == i) = true := by kernel_rfl) (hne : (z == i) = false := by kernel_rfl) (hzl : listed.getD z true = false := by kernel_rfl)
    (hs : Region.noSelect l.toArray = true := by kernel_rfl) (hf : Region.free md l.toArray listed i = true := by kernel_rfl) (hr : (Region.ready md l.toArray listed).contains i = true := by kernel_rfl)
    (hQ : ∀ c a w, Q (.panic c) (a.put oi.dst v) w → Q (.panic c) a w := by exact fun _ _ _ h => h) (hy : YieldsIf P l.toArray (fun W' => Ext w0 W') oi v a := by exact Or.inl ⟨rfl, fun _ _ => rfl⟩) : wpAnyW P md l.toArray Q (fun W' => Ext w0 W') (fun W' => Pm G o w0 W') z (fuel + 1) listed a w := takeW hi hz hzi hne hzl hs hf hr hQ hy hS (hS.pm G o) h
theorem tV {P : Program} {md : Region.Mode} {Q : Exit → Act → World → Prop} {w0 : World} {G o : Nat} {l rest : List Oper} {oi : Oper} {fuel : Nat} {listed : Array Bool} {a : Act} {w : World} (i z : Nat) (v : Value) (hi : l.drop i = oi :: rest)
    (hy : YieldsIf P l.toArray (fun W' => Pm G o w0 W') oi v a) (hS : Ext w0 w) (h : wpAnyW P md l.toArray Q (fun W' => Ext w0 W') (fun W' => Pm G o w0 W') z fuel (listed.setIfInBounds i true) (a.put oi.dst v) w)
    (hne : (z == i) = false := by kernel_rfl) (hs : Region.noSelect l.toArray = true := by kernel_rfl) (hf : Region.free md l.toArray listed i = true := by kernel_rfl) (hr : (Region.ready md l.toArray listed).contains i = true := by kernel_rfl)
    (hQ : ∀ c a w, Q (.panic c) (a.put oi.dst v) w → Q (.panic c) a w := by exact fun _ _ _ h => h) : wpAnyW P md l.toArray Q (fun W' => Ext w0 W') (fun W' => Pm G o w0 W') z (fuel + 1) listed a w := takeWb hi hne hs hf hr hQ hy hS (hS.pm G o) h
theorem tVp {P : Program} {md : Region.Mode} {Q : Exit → Act → World → Prop} {w0 : World} {G o : Nat} {l rest : List Oper} {oi : Oper} {fuel : Nat} {listed : Array Bool} {a : Act} {w : World} (i z : Nat) (v : Value) (hi : l.drop i = oi :: rest)
    (hS : Ext w0 w) (h : wpAnyW P md l.toArray Q (fun W' => Ext w0 W') (fun W' => Pm G o w0 W') z fuel (listed.setIfInBounds i true) (a.put oi.dst v) w)
    (hne : (z == i) = false := by kernel_rfl) (hs : Region.noSelect l.toArray = true := by kernel_rfl) (hf : Region.free md l.toArray listed i = true := by kernel_rfl) (hr : (Region.ready md l.toArray listed).contains i = true := by kernel_rfl)
    (hQ : ∀ c a w, Q (.panic c) (a.put oi.dst v) w → Q (.panic c) a w := by exact fun _ _ _ h => h) (hy : YieldsIf P l.toArray (fun W' => Pm G o w0 W') oi v a := by exact Or.inl ⟨rfl, fun _ _ => rfl⟩) : wpAnyW P md l.toArray Q (fun W' => Ext w0 W') (fun W' => Pm G o w0 W') z (fuel + 1) listed a w := takeWb hi hne hs hf hr hQ hy hS (hS.pm G o) h

end Go.Proofs.Ythfoacgdkoijeaa
