/-
  No cell of these rows narrows 'for every input' (looked for: loops, veiled, ifaces, maps, wideKeys, modest, calm, conditions, laid).
  DERIVED. THE GIVEN ROWS OF THIS SEAT. 12 by the template 'for every input the law returns true; each argument reads behind the call as it read before'; 0 by the template 'total and deterministic' (their statements: YtdfaagchlnkpnaaTotals.lean).
  GIVEN WITH THE SEED: the statements are not yours to turn. If you find one false, say at which input.
  Laid BY PROGRAM, IN A SANDBOX (cutbox-rows.mjs): the forced cells as the released guide's own fill.sh prints them over the translation 435f460dd31d7c2e… (all of the seat's roots in one cut). By AI agents, Wed Nov 11 2026. No macro, syntax, notation, axiom, sorry.
-/
import Derived.Test.YtdfaagchlnkpnaaChecked
import GoSem.Claim
import GoSem.ClaimJoined
import GoSem.ClaimMapViews
import Derived.JoinedTies
import Derived.KernelRfl
namespace Go.Proofs.Ytdfaagchlnkpnaa
/- THE CELL 'sum', in the pinned program and in every row, IS THE sha256 OF THE DUMP (.gsa) THAT YtdfaagchlnkpnaaProg.lean LOADS. Nothing in Lean hashes anything: it is a label: what it is worth is what the hold of that sum in a sandbox is worth. -/
noncomputable def Try.pinned : Pinned := { name := "ytdfaagchlnkpnaa", sum := "435f460dd31d7c2e919b9f88c0e629b3d55b929309be463573fa3815cb0e79af", checked := Try.checked }
namespace Rows
def none {H : Type} : Left H := { results := [], args := [] }

/-- 'fordlaw05.BpduEncodes': WHATEVER THE INPUT: true; the input reads as it did. -/
def bpduEncodesSpec : ChangeSpec := { name := "bpduEncodes", fn := fun _ => fun
  | [d] => { results := [.lit (.bool true)], args := [d] }
  | _ => none }
def bpduEncodesRow : OpenClaim := { program := "ytdfaagchlnkpnaa", sum := "435f460dd31d7c2e919b9f88c0e629b3d55b929309be463573fa3815cb0e79af", func := "ford/fordlaw05.BpduEncodes", spec := "bpduEncodes", recurses := true, apart := false }
def BpduEncodesSaid : Prop := bpduEncodesRow.holds Try.pinned (OpenSpec.ofChange bpduEncodesSpec)

/-- ITS FALSE NEIGHBOUR: 'it returns false'. Refute it at one input. -/
def bpduEncodesWrong : ChangeSpec := { name := "bpduEncodes", fn := fun _ => fun
  | [d] => { results := [.lit (.bool false)], args := [d] }
  | _ => none }
def BpduEncodesWrongFalsely : Prop := bpduEncodesRow.holds Try.pinned (OpenSpec.ofChange bpduEncodesWrong)

/-- 'fordlaw05.BpduBack': WHATEVER THE INPUT: true; the input reads as it did. -/
def bpduBackSpec : ChangeSpec := { name := "bpduBack", fn := fun _ => fun
  | [d1, d2] => { results := [.lit (.bool true)], args := [d1, d2] }
  | _ => none }
def bpduBackRow : OpenClaim := { program := "ytdfaagchlnkpnaa", sum := "435f460dd31d7c2e919b9f88c0e629b3d55b929309be463573fa3815cb0e79af", func := "ford/fordlaw05.BpduBack", spec := "bpduBack", apart := false }
def BpduBackSaid : Prop := bpduBackRow.holds Try.pinned (OpenSpec.ofChange bpduBackSpec)

/-- ITS FALSE NEIGHBOUR: 'it returns false'. Refute it at one input. -/
def bpduBackWrong : ChangeSpec := { name := "bpduBack", fn := fun _ => fun
  | [d1, d2] => { results := [.lit (.bool false)], args := [d1, d2] }
  | _ => none }
def BpduBackWrongFalsely : Prop := bpduBackRow.holds Try.pinned (OpenSpec.ofChange bpduBackWrong)

/-- 'fordlaw05.BpduCuts': WHATEVER THE INPUT: true; the input reads as it did. -/
def bpduCutsSpec : ChangeSpec := { name := "bpduCuts", fn := fun _ => fun
  | [d1, d2] => { results := [.lit (.bool true)], args := [d1, d2] }
  | _ => none }
def bpduCutsRow : OpenClaim := { program := "ytdfaagchlnkpnaa", sum := "435f460dd31d7c2e919b9f88c0e629b3d55b929309be463573fa3815cb0e79af", func := "ford/fordlaw05.BpduCuts", spec := "bpduCuts", apart := false }
def BpduCutsSaid : Prop := bpduCutsRow.holds Try.pinned (OpenSpec.ofChange bpduCutsSpec)

/-- ITS FALSE NEIGHBOUR: 'it returns false'. Refute it at one input. -/
def bpduCutsWrong : ChangeSpec := { name := "bpduCuts", fn := fun _ => fun
  | [d1, d2] => { results := [.lit (.bool false)], args := [d1, d2] }
  | _ => none }
def BpduCutsWrongFalsely : Prop := bpduCutsRow.holds Try.pinned (OpenSpec.ofChange bpduCutsWrong)

/-- 'fordlaw05.BpduOne': WHATEVER THE INPUT: true; the input reads as it did. -/
def bpduOneSpec : ChangeSpec := { name := "bpduOne", fn := fun _ => fun
  | [d] => { results := [.lit (.bool true)], args := [d] }
  | _ => none }
def bpduOneRow : OpenClaim := { program := "ytdfaagchlnkpnaa", sum := "435f460dd31d7c2e919b9f88c0e629b3d55b929309be463573fa3815cb0e79af", func := "ford/fordlaw05.BpduOne", spec := "bpduOne", apart := false }
def BpduOneSaid : Prop := bpduOneRow.holds Try.pinned (OpenSpec.ofChange bpduOneSpec)

/-- ITS FALSE NEIGHBOUR: 'it returns false'. Refute it at one input. -/
def bpduOneWrong : ChangeSpec := { name := "bpduOne", fn := fun _ => fun
  | [d] => { results := [.lit (.bool false)], args := [d] }
  | _ => none }
def BpduOneWrongFalsely : Prop := bpduOneRow.holds Try.pinned (OpenSpec.ofChange bpduOneWrong)

/-- 'fordlaw05.BpduKinds': WHATEVER THE INPUT: true; the input reads as it did. -/
def bpduKindsSpec : ChangeSpec := { name := "bpduKinds", fn := fun _ => fun
  | [d] => { results := [.lit (.bool true)], args := [d] }
  | _ => none }
def bpduKindsRow : OpenClaim := { program := "ytdfaagchlnkpnaa", sum := "435f460dd31d7c2e919b9f88c0e629b3d55b929309be463573fa3815cb0e79af", func := "ford/fordlaw05.BpduKinds", spec := "bpduKinds", apart := false }
def BpduKindsSaid : Prop := bpduKindsRow.holds Try.pinned (OpenSpec.ofChange bpduKindsSpec)

/-- ITS FALSE NEIGHBOUR: 'it returns false'. Refute it at one input. -/
def bpduKindsWrong : ChangeSpec := { name := "bpduKinds", fn := fun _ => fun
  | [d] => { results := [.lit (.bool false)], args := [d] }
  | _ => none }
def BpduKindsWrongFalsely : Prop := bpduKindsRow.holds Try.pinned (OpenSpec.ofChange bpduKindsWrong)

/-- 'fordlaw06.LlcWraps': WHATEVER THE INPUT: true; the input reads as it did. -/
def llcWrapsSpec : ChangeSpec := { name := "llcWraps", fn := fun _ => fun
  | [d1, d2] => { results := [.lit (.bool true)], args := [d1, d2] }
  | _ => none }
def llcWrapsRow : OpenClaim := { program := "ytdfaagchlnkpnaa", sum := "435f460dd31d7c2e919b9f88c0e629b3d55b929309be463573fa3815cb0e79af", func := "ford/fordlaw06.LlcWraps", spec := "llcWraps", recurses := true, apart := false }
def LlcWrapsSaid : Prop := llcWrapsRow.holds Try.pinned (OpenSpec.ofChange llcWrapsSpec)

/-- ITS FALSE NEIGHBOUR: 'it returns false'. Refute it at one input. -/
def llcWrapsWrong : ChangeSpec := { name := "llcWraps", fn := fun _ => fun
  | [d1, d2] => { results := [.lit (.bool false)], args := [d1, d2] }
  | _ => none }
def LlcWrapsWrongFalsely : Prop := llcWrapsRow.holds Try.pinned (OpenSpec.ofChange llcWrapsWrong)

/-- 'fordlaw06.LlcBack': WHATEVER THE INPUT: true; the input reads as it did. -/
def llcBackSpec : ChangeSpec := { name := "llcBack", fn := fun _ => fun
  | [d1, d2, d3] => { results := [.lit (.bool true)], args := [d1, d2, d3] }
  | _ => none }
def llcBackRow : OpenClaim := { program := "ytdfaagchlnkpnaa", sum := "435f460dd31d7c2e919b9f88c0e629b3d55b929309be463573fa3815cb0e79af", func := "ford/fordlaw06.LlcBack", spec := "llcBack", apart := false }
def LlcBackSaid : Prop := llcBackRow.holds Try.pinned (OpenSpec.ofChange llcBackSpec)

/-- ITS FALSE NEIGHBOUR: 'it returns false'. Refute it at one input. -/
def llcBackWrong : ChangeSpec := { name := "llcBack", fn := fun _ => fun
  | [d1, d2, d3] => { results := [.lit (.bool false)], args := [d1, d2, d3] }
  | _ => none }
def LlcBackWrongFalsely : Prop := llcBackRow.holds Try.pinned (OpenSpec.ofChange llcBackWrong)

/-- 'fordlaw06.LlcTurned': WHATEVER THE INPUT: true; the input reads as it did. -/
def llcTurnedSpec : ChangeSpec := { name := "llcTurned", fn := fun _ => fun
  | [d1, d2, d3, d4, d5] => { results := [.lit (.bool true)], args := [d1, d2, d3, d4, d5] }
  | _ => none }
def llcTurnedRow : OpenClaim := { program := "ytdfaagchlnkpnaa", sum := "435f460dd31d7c2e919b9f88c0e629b3d55b929309be463573fa3815cb0e79af", func := "ford/fordlaw06.LlcTurned", spec := "llcTurned", apart := false }
def LlcTurnedSaid : Prop := llcTurnedRow.holds Try.pinned (OpenSpec.ofChange llcTurnedSpec)

/-- ITS FALSE NEIGHBOUR: 'it returns false'. Refute it at one input. -/
def llcTurnedWrong : ChangeSpec := { name := "llcTurned", fn := fun _ => fun
  | [d1, d2, d3, d4, d5] => { results := [.lit (.bool false)], args := [d1, d2, d3, d4, d5] }
  | _ => none }
def LlcTurnedWrongFalsely : Prop := llcTurnedRow.holds Try.pinned (OpenSpec.ofChange llcTurnedWrong)

/-- 'fordlaw06.LlcSizes': WHATEVER THE INPUT: true; the input reads as it did. -/
def llcSizesSpec : ChangeSpec := { name := "llcSizes", fn := fun _ => fun
  | [d1, d2, d3] => { results := [.lit (.bool true)], args := [d1, d2, d3] }
  | _ => none }
def llcSizesRow : OpenClaim := { program := "ytdfaagchlnkpnaa", sum := "435f460dd31d7c2e919b9f88c0e629b3d55b929309be463573fa3815cb0e79af", func := "ford/fordlaw06.LlcSizes", spec := "llcSizes", apart := false }
def LlcSizesSaid : Prop := llcSizesRow.holds Try.pinned (OpenSpec.ofChange llcSizesSpec)

/-- ITS FALSE NEIGHBOUR: 'it returns false'. Refute it at one input. -/
def llcSizesWrong : ChangeSpec := { name := "llcSizes", fn := fun _ => fun
  | [d1, d2, d3] => { results := [.lit (.bool false)], args := [d1, d2, d3] }
  | _ => none }
def LlcSizesWrongFalsely : Prop := llcSizesRow.holds Try.pinned (OpenSpec.ofChange llcSizesWrong)

/-- 'fordlaw22.ReachFar': WHATEVER THE INPUT: true; the input reads as it did. -/
def reachFarSpec : ChangeSpec := { name := "reachFar", fn := fun _ => fun
  | [d1, d2, d3] => { results := [.lit (.bool true)], args := [d1, d2, d3] }
  | _ => none }
def reachFarRow : OpenClaim := { program := "ytdfaagchlnkpnaa", sum := "435f460dd31d7c2e919b9f88c0e629b3d55b929309be463573fa3815cb0e79af", func := "ford/fordlaw22.ReachFar", spec := "reachFar", apart := false }
def ReachFarSaid : Prop := reachFarRow.holds Try.pinned (OpenSpec.ofChange reachFarSpec)

/-- ITS FALSE NEIGHBOUR: 'it returns false'. Refute it at one input. -/
def reachFarWrong : ChangeSpec := { name := "reachFar", fn := fun _ => fun
  | [d1, d2, d3] => { results := [.lit (.bool false)], args := [d1, d2, d3] }
  | _ => none }
def ReachFarWrongFalsely : Prop := reachFarRow.holds Try.pinned (OpenSpec.ofChange reachFarWrong)

/-- 'fordlaw22.ReachLength': WHATEVER THE INPUT: true; the input reads as it did. -/
def reachLengthSpec : ChangeSpec := { name := "reachLength", fn := fun _ => fun
  | [d1, d2] => { results := [.lit (.bool true)], args := [d1, d2] }
  | _ => none }
def reachLengthRow : OpenClaim := { program := "ytdfaagchlnkpnaa", sum := "435f460dd31d7c2e919b9f88c0e629b3d55b929309be463573fa3815cb0e79af", func := "ford/fordlaw22.ReachLength", spec := "reachLength", apart := false }
def ReachLengthSaid : Prop := reachLengthRow.holds Try.pinned (OpenSpec.ofChange reachLengthSpec)

/-- ITS FALSE NEIGHBOUR: 'it returns false'. Refute it at one input. -/
def reachLengthWrong : ChangeSpec := { name := "reachLength", fn := fun _ => fun
  | [d1, d2] => { results := [.lit (.bool false)], args := [d1, d2] }
  | _ => none }
def ReachLengthWrongFalsely : Prop := reachLengthRow.holds Try.pinned (OpenSpec.ofChange reachLengthWrong)

/-- 'fordlaw22.ReachShort': WHATEVER THE INPUT: true; the input reads as it did. -/
def reachShortSpec : ChangeSpec := { name := "reachShort", fn := fun _ => fun
  | [d1, d2, d3] => { results := [.lit (.bool true)], args := [d1, d2, d3] }
  | _ => none }
def reachShortRow : OpenClaim := { program := "ytdfaagchlnkpnaa", sum := "435f460dd31d7c2e919b9f88c0e629b3d55b929309be463573fa3815cb0e79af", func := "ford/fordlaw22.ReachShort", spec := "reachShort", apart := false }
def ReachShortSaid : Prop := reachShortRow.holds Try.pinned (OpenSpec.ofChange reachShortSpec)

/-- ITS FALSE NEIGHBOUR: 'it returns false'. Refute it at one input. -/
def reachShortWrong : ChangeSpec := { name := "reachShort", fn := fun _ => fun
  | [d1, d2, d3] => { results := [.lit (.bool false)], args := [d1, d2, d3] }
  | _ => none }
def ReachShortWrongFalsely : Prop := reachShortRow.holds Try.pinned (OpenSpec.ofChange reachShortWrong)

/- THE SECOND FORM. 'bulk': how many values and letters a reading holds, each counted each time it is reached (what is shared counts as often as it is met; a slice's spare places count too). A statement '..UptoSaid' is the law's where the arguments, and the package variables that the reading takes, are together of bulk at most 1048576: NARROWER than '..Said'. Prove '..Said' where nothing that the law and all that it calls make is longer than what came in: it says more and counts as full. Else prove '..UptoSaid'. A law counts once. -/
mutual
def uptoBulk {H : Type} : DataW H → Nat
  | .lit (.string bytes) => bytes.length + 1
  | .lit _ => 1
  | .nil => 1
  | .ptr d => uptoBulk d + 1
  | .slice elems spare => uptoBulkAll elems + uptoBulkAll spare + 1
  | .agg parts => uptoBulkAll parts + 1
  | .iface _ d => uptoBulk d + 1
  | .map entries => uptoBulkEntries entries + 1
  | .held _ => 1
def uptoBulkAll {H : Type} : List (DataW H) → Nat
  | [] => 0
  | d :: r => uptoBulk d + uptoBulkAll r
def uptoBulkEntries {H : Type} : List (Lit × DataW H) → Nat
  | [] => 0
  | x :: r => uptoBulkEntry x + uptoBulkEntries r
def uptoBulkEntry {H : Type} : Lit × DataW H → Nat
  | (.string bytes, d) => bytes.length + uptoBulk d + 1
  | (_, d) => uptoBulk d + 1
 end
def uptoSmall : (H : Type) → List (DataW H) → Bool := fun _ ds => decide (uptoBulkAll ds ≤ 1048576)
def OpenSpec.upto (s : _root_.Go.ChangeSpec) : _root_.Go.OpenSpec := { _root_.Go.OpenSpec.ofChange s with cond := some uptoSmall }

/-- 'fordlaw05.BpduEncodes', WHERE WHAT IT READS IS OF BULK AT MOST 1048576: true; the input reads as it did. -/
def bpduEncodesUptoRow : OpenClaim := { program := "ytdfaagchlnkpnaa", sum := "435f460dd31d7c2e919b9f88c0e629b3d55b929309be463573fa3815cb0e79af", func := "ford/fordlaw05.BpduEncodes", spec := "bpduEncodes", recurses := true, apart := false, narrowed := true }
def BpduEncodesUptoSaid : Prop := bpduEncodesUptoRow.holds Try.pinned (OpenSpec.upto bpduEncodesSpec)

/-- 'fordlaw05.BpduBack', WHERE WHAT IT READS IS OF BULK AT MOST 1048576: true; the input reads as it did. -/
def bpduBackUptoRow : OpenClaim := { program := "ytdfaagchlnkpnaa", sum := "435f460dd31d7c2e919b9f88c0e629b3d55b929309be463573fa3815cb0e79af", func := "ford/fordlaw05.BpduBack", spec := "bpduBack", apart := false, narrowed := true }
def BpduBackUptoSaid : Prop := bpduBackUptoRow.holds Try.pinned (OpenSpec.upto bpduBackSpec)

/-- 'fordlaw05.BpduCuts', WHERE WHAT IT READS IS OF BULK AT MOST 1048576: true; the input reads as it did. -/
def bpduCutsUptoRow : OpenClaim := { program := "ytdfaagchlnkpnaa", sum := "435f460dd31d7c2e919b9f88c0e629b3d55b929309be463573fa3815cb0e79af", func := "ford/fordlaw05.BpduCuts", spec := "bpduCuts", apart := false, narrowed := true }
def BpduCutsUptoSaid : Prop := bpduCutsUptoRow.holds Try.pinned (OpenSpec.upto bpduCutsSpec)

/-- 'fordlaw05.BpduOne', WHERE WHAT IT READS IS OF BULK AT MOST 1048576: true; the input reads as it did. -/
def bpduOneUptoRow : OpenClaim := { program := "ytdfaagchlnkpnaa", sum := "435f460dd31d7c2e919b9f88c0e629b3d55b929309be463573fa3815cb0e79af", func := "ford/fordlaw05.BpduOne", spec := "bpduOne", apart := false, narrowed := true }
def BpduOneUptoSaid : Prop := bpduOneUptoRow.holds Try.pinned (OpenSpec.upto bpduOneSpec)

/-- 'fordlaw05.BpduKinds', WHERE WHAT IT READS IS OF BULK AT MOST 1048576: true; the input reads as it did. -/
def bpduKindsUptoRow : OpenClaim := { program := "ytdfaagchlnkpnaa", sum := "435f460dd31d7c2e919b9f88c0e629b3d55b929309be463573fa3815cb0e79af", func := "ford/fordlaw05.BpduKinds", spec := "bpduKinds", apart := false, narrowed := true }
def BpduKindsUptoSaid : Prop := bpduKindsUptoRow.holds Try.pinned (OpenSpec.upto bpduKindsSpec)

/-- 'fordlaw06.LlcWraps', WHERE WHAT IT READS IS OF BULK AT MOST 1048576: true; the input reads as it did. -/
def llcWrapsUptoRow : OpenClaim := { program := "ytdfaagchlnkpnaa", sum := "435f460dd31d7c2e919b9f88c0e629b3d55b929309be463573fa3815cb0e79af", func := "ford/fordlaw06.LlcWraps", spec := "llcWraps", recurses := true, apart := false, narrowed := true }
def LlcWrapsUptoSaid : Prop := llcWrapsUptoRow.holds Try.pinned (OpenSpec.upto llcWrapsSpec)

/-- 'fordlaw06.LlcBack', WHERE WHAT IT READS IS OF BULK AT MOST 1048576: true; the input reads as it did. -/
def llcBackUptoRow : OpenClaim := { program := "ytdfaagchlnkpnaa", sum := "435f460dd31d7c2e919b9f88c0e629b3d55b929309be463573fa3815cb0e79af", func := "ford/fordlaw06.LlcBack", spec := "llcBack", apart := false, narrowed := true }
def LlcBackUptoSaid : Prop := llcBackUptoRow.holds Try.pinned (OpenSpec.upto llcBackSpec)

/-- 'fordlaw06.LlcTurned', WHERE WHAT IT READS IS OF BULK AT MOST 1048576: true; the input reads as it did. -/
def llcTurnedUptoRow : OpenClaim := { program := "ytdfaagchlnkpnaa", sum := "435f460dd31d7c2e919b9f88c0e629b3d55b929309be463573fa3815cb0e79af", func := "ford/fordlaw06.LlcTurned", spec := "llcTurned", apart := false, narrowed := true }
def LlcTurnedUptoSaid : Prop := llcTurnedUptoRow.holds Try.pinned (OpenSpec.upto llcTurnedSpec)

/-- 'fordlaw06.LlcSizes', WHERE WHAT IT READS IS OF BULK AT MOST 1048576: true; the input reads as it did. -/
def llcSizesUptoRow : OpenClaim := { program := "ytdfaagchlnkpnaa", sum := "435f460dd31d7c2e919b9f88c0e629b3d55b929309be463573fa3815cb0e79af", func := "ford/fordlaw06.LlcSizes", spec := "llcSizes", apart := false, narrowed := true }
def LlcSizesUptoSaid : Prop := llcSizesUptoRow.holds Try.pinned (OpenSpec.upto llcSizesSpec)

/-- 'fordlaw22.ReachFar', WHERE WHAT IT READS IS OF BULK AT MOST 1048576: true; the input reads as it did. -/
def reachFarUptoRow : OpenClaim := { program := "ytdfaagchlnkpnaa", sum := "435f460dd31d7c2e919b9f88c0e629b3d55b929309be463573fa3815cb0e79af", func := "ford/fordlaw22.ReachFar", spec := "reachFar", apart := false, narrowed := true }
def ReachFarUptoSaid : Prop := reachFarUptoRow.holds Try.pinned (OpenSpec.upto reachFarSpec)

/-- 'fordlaw22.ReachLength', WHERE WHAT IT READS IS OF BULK AT MOST 1048576: true; the input reads as it did. -/
def reachLengthUptoRow : OpenClaim := { program := "ytdfaagchlnkpnaa", sum := "435f460dd31d7c2e919b9f88c0e629b3d55b929309be463573fa3815cb0e79af", func := "ford/fordlaw22.ReachLength", spec := "reachLength", apart := false, narrowed := true }
def ReachLengthUptoSaid : Prop := reachLengthUptoRow.holds Try.pinned (OpenSpec.upto reachLengthSpec)

/-- 'fordlaw22.ReachShort', WHERE WHAT IT READS IS OF BULK AT MOST 1048576: true; the input reads as it did. -/
def reachShortUptoRow : OpenClaim := { program := "ytdfaagchlnkpnaa", sum := "435f460dd31d7c2e919b9f88c0e629b3d55b929309be463573fa3815cb0e79af", func := "ford/fordlaw22.ReachShort", spec := "reachShort", apart := false, narrowed := true }
def ReachShortUptoSaid : Prop := reachShortUptoRow.holds Try.pinned (OpenSpec.upto reachShortSpec)

end Rows
end Go.Proofs.Ytdfaagchlnkpnaa
