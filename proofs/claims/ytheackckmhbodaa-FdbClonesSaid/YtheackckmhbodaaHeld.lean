/- In the middle of a region's walk the condition that is held may be made stronger. No statement is proved here. -/
import Derived.Test.YtheackckmhbodaaBase
import Derived.Deep.RegionHeld3
namespace Go.Proofs.Ytheackckmhbodaa
open Go.RowKit
set_option linter.unusedVariables false
set_option linter.unusedSimpArgs false

/-- In the middle of a region's walk the condition may be made stronger: it stands positively alone. -/
theorem anyH_mono {P : Program} {ops : Array Oper} {Q : Exit → Act → World → Prop} {md : Region.Mode} {S S2 : World → Prop} (hs : ∀ w, S2 w → S w) :
    ∀ (fuel : Nat) (listed : Array Bool) (a : Act) (w : World), wpAnyH P md ops Q S2 fuel listed a w → wpAnyH P md ops Q S fuel listed a w
  | 0, _, _, _, h => h
  | fuel + 1, _, _, _, h => ⟨h.1, fun i hi => wpOp_mono (fun a' w' h' => ⟨hs w' h'.1, anyH_mono hs fuel _ a' w' h'.2⟩) (h.2 i hi)⟩

theorem shut_change {P : Program} {ops : Array Oper} {Q : Exit → Act → World → Prop} {md : Region.Mode} {S S2 : World → Prop} {fuel : Nat} {listed : Array Bool} {K : Act → World → Prop}
    (h : Shut (∀ a w, S w → (S w → wpAnyH P md ops Q S fuel listed a w) → K a w)) (hs : ∀ w, S2 w → S w) :
    Shut (∀ a w, S w → (S w → wpAnyH P md ops Q S fuel listed a w) → K a w) = Shut (∀ a w, S2 w → (S2 w → wpAnyH P md ops Q S2 fuel listed a w) → K a w) :=
  propext ⟨fun _ a w h2 hW => h.out a w (hs w h2) (fun _ => anyH_mono hs fuel listed a w (hW h2)), fun _ => h⟩

end Go.Proofs.Ytheackckmhbodaa
