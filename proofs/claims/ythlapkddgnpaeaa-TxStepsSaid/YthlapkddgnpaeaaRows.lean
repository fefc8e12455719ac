/-
  No cell of these rows narrows 'for every input' (looked for: loops, veiled, ifaces, maps, wideKeys, modest, calm, conditions, laid).
  DERIVED. THE GIVEN ROWS OF THIS SEAT. 11 by the template 'for every input the law returns true; each argument reads behind the call as it read before'; 0 by the template 'total and deterministic' (their statements: YthlapkddgnpaeaaTotals.lean).
  GIVEN WITH THE SEED: the statements are not yours to turn. If you find one false, say at which input.
  Laid BY PROGRAM, IN A SANDBOX (cutbox-rows.mjs): the forced cells as the released guide's own fill.sh prints them over the translation 216648805311ffa7… (all of the seat's roots in one cut). By AI agents, Wed Nov 11 2026. No macro, syntax, notation, axiom, sorry.
-/
import Derived.Test.YthlapkddgnpaeaaChecked
import GoSem.Claim
import GoSem.ClaimJoined
import GoSem.ClaimMapViews
import Derived.JoinedTies
import Derived.KernelRfl
namespace Go.Proofs.Ythlapkddgnpaeaa
/- THE CELL 'sum', in the pinned program and in every row, IS THE sha256 OF THE DUMP (.gsa) THAT YthlapkddgnpaeaaProg.lean LOADS. Nothing in Lean hashes anything: it is a label: what it is worth is what the hold of that sum in a sandbox is worth. -/
noncomputable def Try.pinned : Pinned := { name := "ythlapkddgnpaeaa", sum := "216648805311ffa7f2cfd11426e0c254078e946f154a89be5bdde2c58e747b10", checked := Try.checked }
namespace Rows
def none {H : Type} : Left H := { results := [], args := [] }

/-- 'fordlaw12.TxSteps': WHATEVER THE INPUT: true; the input reads as it did. -/
def txStepsSpec : ChangeSpec := { name := "txSteps", fn := fun _ => fun
  | [d1, d2] => { results := [.lit (.bool true)], args := [d1, d2] }
  | _ => none }
def txStepsRow : OpenClaim := { program := "ythlapkddgnpaeaa", sum := "216648805311ffa7f2cfd11426e0c254078e946f154a89be5bdde2c58e747b10", func := "ford/fordlaw12.TxSteps", spec := "txSteps", apart := false }
def TxStepsSaid : Prop := txStepsRow.holds Try.pinned (OpenSpec.ofChange txStepsSpec)

/-- ITS FALSE NEIGHBOUR: 'it returns false'. Refute it at one input. -/
def txStepsWrong : ChangeSpec := { name := "txSteps", fn := fun _ => fun
  | [d1, d2] => { results := [.lit (.bool false)], args := [d1, d2] }
  | _ => none }
def TxStepsWrongFalsely : Prop := txStepsRow.holds Try.pinned (OpenSpec.ofChange txStepsWrong)

/-- 'fordlaw12.TxTells': WHATEVER THE INPUT: true; the input reads as it did. -/
def txTellsSpec : ChangeSpec := { name := "txTells", fn := fun _ => fun
  | [d1, d2, d3] => { results := [.lit (.bool true)], args := [d1, d2, d3] }
  | _ => none }
def txTellsRow : OpenClaim := { program := "ythlapkddgnpaeaa", sum := "216648805311ffa7f2cfd11426e0c254078e946f154a89be5bdde2c58e747b10", func := "ford/fordlaw12.TxTells", spec := "txTells", apart := false }
def TxTellsSaid : Prop := txTellsRow.holds Try.pinned (OpenSpec.ofChange txTellsSpec)

/-- ITS FALSE NEIGHBOUR: 'it returns false'. Refute it at one input. -/
def txTellsWrong : ChangeSpec := { name := "txTells", fn := fun _ => fun
  | [d1, d2, d3] => { results := [.lit (.bool false)], args := [d1, d2, d3] }
  | _ => none }
def TxTellsWrongFalsely : Prop := txTellsRow.holds Try.pinned (OpenSpec.ofChange txTellsWrong)

/-- 'fordlaw12.TxHold': WHATEVER THE INPUT: true; the input reads as it did. -/
def txHoldSpec : ChangeSpec := { name := "txHold", fn := fun _ => fun
  | [d1, d2, d3] => { results := [.lit (.bool true)], args := [d1, d2, d3] }
  | _ => none }
def txHoldRow : OpenClaim := { program := "ythlapkddgnpaeaa", sum := "216648805311ffa7f2cfd11426e0c254078e946f154a89be5bdde2c58e747b10", func := "ford/fordlaw12.TxHold", spec := "txHold", apart := false }
def TxHoldSaid : Prop := txHoldRow.holds Try.pinned (OpenSpec.ofChange txHoldSpec)

/-- ITS FALSE NEIGHBOUR: 'it returns false'. Refute it at one input. -/
def txHoldWrong : ChangeSpec := { name := "txHold", fn := fun _ => fun
  | [d1, d2, d3] => { results := [.lit (.bool false)], args := [d1, d2, d3] }
  | _ => none }
def TxHoldWrongFalsely : Prop := txHoldRow.holds Try.pinned (OpenSpec.ofChange txHoldWrong)

/-- 'fordlaw12.TxKinds': WHATEVER THE INPUT: true; the input reads as it did. -/
def txKindsSpec : ChangeSpec := { name := "txKinds", fn := fun _ => fun
  | [d1, d2] => { results := [.lit (.bool true)], args := [d1, d2] }
  | _ => none }
def txKindsRow : OpenClaim := { program := "ythlapkddgnpaeaa", sum := "216648805311ffa7f2cfd11426e0c254078e946f154a89be5bdde2c58e747b10", func := "ford/fordlaw12.TxKinds", spec := "txKinds", apart := false }
def TxKindsSaid : Prop := txKindsRow.holds Try.pinned (OpenSpec.ofChange txKindsSpec)

/-- ITS FALSE NEIGHBOUR: 'it returns false'. Refute it at one input. -/
def txKindsWrong : ChangeSpec := { name := "txKinds", fn := fun _ => fun
  | [d1, d2] => { results := [.lit (.bool false)], args := [d1, d2] }
  | _ => none }
def TxKindsWrongFalsely : Prop := txKindsRow.holds Try.pinned (OpenSpec.ofChange txKindsWrong)

/-- 'fordlaw12.TxIdle': WHATEVER THE INPUT: true; the input reads as it did. -/
def txIdleSpec : ChangeSpec := { name := "txIdle", fn := fun _ => fun
  | [d1, d2] => { results := [.lit (.bool true)], args := [d1, d2] }
  | _ => none }
def txIdleRow : OpenClaim := { program := "ythlapkddgnpaeaa", sum := "216648805311ffa7f2cfd11426e0c254078e946f154a89be5bdde2c58e747b10", func := "ford/fordlaw12.TxIdle", spec := "txIdle", apart := false }
def TxIdleSaid : Prop := txIdleRow.holds Try.pinned (OpenSpec.ofChange txIdleSpec)

/-- ITS FALSE NEIGHBOUR: 'it returns false'. Refute it at one input. -/
def txIdleWrong : ChangeSpec := { name := "txIdle", fn := fun _ => fun
  | [d1, d2] => { results := [.lit (.bool false)], args := [d1, d2] }
  | _ => none }
def TxIdleWrongFalsely : Prop := txIdleRow.holds Try.pinned (OpenSpec.ofChange txIdleWrong)

/-- 'fordlaw12.TxVec': WHATEVER THE INPUT: true; the input reads as it did. -/
def txVecSpec : ChangeSpec := { name := "txVec", fn := fun _ => fun
  | [d1, d2] => { results := [.lit (.bool true)], args := [d1, d2] }
  | _ => none }
def txVecRow : OpenClaim := { program := "ythlapkddgnpaeaa", sum := "216648805311ffa7f2cfd11426e0c254078e946f154a89be5bdde2c58e747b10", func := "ford/fordlaw12.TxVec", spec := "txVec", apart := false }
def TxVecSaid : Prop := txVecRow.holds Try.pinned (OpenSpec.ofChange txVecSpec)

/-- ITS FALSE NEIGHBOUR: 'it returns false'. Refute it at one input. -/
def txVecWrong : ChangeSpec := { name := "txVec", fn := fun _ => fun
  | [d1, d2] => { results := [.lit (.bool false)], args := [d1, d2] }
  | _ => none }
def TxVecWrongFalsely : Prop := txVecRow.holds Try.pinned (OpenSpec.ofChange txVecWrong)

/-- 'fordlaw16.PassageSteps': WHATEVER THE INPUT: true; the input reads as it did. -/
def passageStepsSpec : ChangeSpec := { name := "passageSteps", fn := fun _ => fun
  | [d1, d2] => { results := [.lit (.bool true)], args := [d1, d2] }
  | _ => none }
def passageStepsRow : OpenClaim := { program := "ythlapkddgnpaeaa", sum := "216648805311ffa7f2cfd11426e0c254078e946f154a89be5bdde2c58e747b10", func := "ford/fordlaw16.PassageSteps", spec := "passageSteps", unfollowed := true, recurses := true, apart := false }
def PassageStepsSaid : Prop := passageStepsRow.holds Try.pinned (OpenSpec.ofChange passageStepsSpec)

/-- ITS FALSE NEIGHBOUR: 'it returns false'. Refute it at one input. -/
def passageStepsWrong : ChangeSpec := { name := "passageSteps", fn := fun _ => fun
  | [d1, d2] => { results := [.lit (.bool false)], args := [d1, d2] }
  | _ => none }
def PassageStepsWrongFalsely : Prop := passageStepsRow.holds Try.pinned (OpenSpec.ofChange passageStepsWrong)

/-- 'fordlaw16.PassageEnds': WHATEVER THE INPUT: true; the input reads as it did. -/
def passageEndsSpec : ChangeSpec := { name := "passageEnds", fn := fun _ => fun
  | [d1, d2, d3, d4] => { results := [.lit (.bool true)], args := [d1, d2, d3, d4] }
  | _ => none }
def passageEndsRow : OpenClaim := { program := "ythlapkddgnpaeaa", sum := "216648805311ffa7f2cfd11426e0c254078e946f154a89be5bdde2c58e747b10", func := "ford/fordlaw16.PassageEnds", spec := "passageEnds", unfollowed := true, recurses := true, apart := false }
def PassageEndsSaid : Prop := passageEndsRow.holds Try.pinned (OpenSpec.ofChange passageEndsSpec)

/-- ITS FALSE NEIGHBOUR: 'it returns false'. Refute it at one input. -/
def passageEndsWrong : ChangeSpec := { name := "passageEnds", fn := fun _ => fun
  | [d1, d2, d3, d4] => { results := [.lit (.bool false)], args := [d1, d2, d3, d4] }
  | _ => none }
def PassageEndsWrongFalsely : Prop := passageEndsRow.holds Try.pinned (OpenSpec.ofChange passageEndsWrong)

/-- 'fordlaw16.PassageStops': WHATEVER THE INPUT: true; the input reads as it did. -/
def passageStopsSpec : ChangeSpec := { name := "passageStops", fn := fun _ => fun
  | [d1, d2, d3] => { results := [.lit (.bool true)], args := [d1, d2, d3] }
  | _ => none }
def passageStopsRow : OpenClaim := { program := "ythlapkddgnpaeaa", sum := "216648805311ffa7f2cfd11426e0c254078e946f154a89be5bdde2c58e747b10", func := "ford/fordlaw16.PassageStops", spec := "passageStops", unfollowed := true, recurses := true, apart := false }
def PassageStopsSaid : Prop := passageStopsRow.holds Try.pinned (OpenSpec.ofChange passageStopsSpec)

/-- ITS FALSE NEIGHBOUR: 'it returns false'. Refute it at one input. -/
def passageStopsWrong : ChangeSpec := { name := "passageStops", fn := fun _ => fun
  | [d1, d2, d3] => { results := [.lit (.bool false)], args := [d1, d2, d3] }
  | _ => none }
def PassageStopsWrongFalsely : Prop := passageStopsRow.holds Try.pinned (OpenSpec.ofChange passageStopsWrong)

/-- 'fordlaw16.PassageOthers': WHATEVER THE INPUT: true; the input reads as it did. -/
def passageOthersSpec : ChangeSpec := { name := "passageOthers", fn := fun _ => fun
  | [d1, d2] => { results := [.lit (.bool true)], args := [d1, d2] }
  | _ => none }
def passageOthersRow : OpenClaim := { program := "ythlapkddgnpaeaa", sum := "216648805311ffa7f2cfd11426e0c254078e946f154a89be5bdde2c58e747b10", func := "ford/fordlaw16.PassageOthers", spec := "passageOthers", unfollowed := true, recurses := true, apart := false }
def PassageOthersSaid : Prop := passageOthersRow.holds Try.pinned (OpenSpec.ofChange passageOthersSpec)

/-- ITS FALSE NEIGHBOUR: 'it returns false'. Refute it at one input. -/
def passageOthersWrong : ChangeSpec := { name := "passageOthers", fn := fun _ => fun
  | [d1, d2] => { results := [.lit (.bool false)], args := [d1, d2] }
  | _ => none }
def PassageOthersWrongFalsely : Prop := passageOthersRow.holds Try.pinned (OpenSpec.ofChange passageOthersWrong)

/-- 'fordlaw16.PassageOrder': WHATEVER THE INPUT: true; the input reads as it did. -/
def passageOrderSpec : ChangeSpec := { name := "passageOrder", fn := fun _ => fun
  | [d1, d2, d3] => { results := [.lit (.bool true)], args := [d1, d2, d3] }
  | _ => none }
def passageOrderRow : OpenClaim := { program := "ythlapkddgnpaeaa", sum := "216648805311ffa7f2cfd11426e0c254078e946f154a89be5bdde2c58e747b10", func := "ford/fordlaw16.PassageOrder", spec := "passageOrder", unfollowed := true, recurses := true, apart := false }
def PassageOrderSaid : Prop := passageOrderRow.holds Try.pinned (OpenSpec.ofChange passageOrderSpec)

/-- ITS FALSE NEIGHBOUR: 'it returns false'. Refute it at one input. -/
def passageOrderWrong : ChangeSpec := { name := "passageOrder", fn := fun _ => fun
  | [d1, d2, d3] => { results := [.lit (.bool false)], args := [d1, d2, d3] }
  | _ => none }
def PassageOrderWrongFalsely : Prop := passageOrderRow.holds Try.pinned (OpenSpec.ofChange passageOrderWrong)

/- THE SECOND FORM. 'bulk': how many values and letters a reading holds, each counted each time it is reached (what is shared counts as often as it is met; a slice's spare places count too). A statement '..UptoSaid' is the law's where the arguments, and the package variables that the reading takes, are together of bulk at most 1048576: NARROWER than '..Said'. Prove '..Said' where nothing that the law and all that it calls make is longer than what came in: it says more and counts as full. Else prove '..UptoSaid'. A law counts once. -/
mutual
def uptoBulk {H : Type} : DataW H → Nat
  | .lit (.string bytes) => bytes.length + 1
  | .lit _ => 1
  | .nil => 1
  | .ptr d => uptoBulk d + 1
  | .slice elems spare => uptoBulkAll elems + uptoBulkAll spare + 1
  | .agg parts => uptoBulkAll parts + 1
  | .iface _ d => uptoBulk d + 1
  | .map entries => uptoBulkEntries entries + 1
  | .held _ => 1
def uptoBulkAll {H : Type} : List (DataW H) → Nat
  | [] => 0
  | d :: r => uptoBulk d + uptoBulkAll r
def uptoBulkEntries {H : Type} : List (Lit × DataW H) → Nat
  | [] => 0
  | x :: r => uptoBulkEntry x + uptoBulkEntries r
def uptoBulkEntry {H : Type} : Lit × DataW H → Nat
  | (.string bytes, d) => bytes.length + uptoBulk d + 1
  | (_, d) => uptoBulk d + 1
 end
def uptoSmall : (H : Type) → List (DataW H) → Bool := fun _ ds => decide (uptoBulkAll ds ≤ 1048576)
def OpenSpec.upto (s : _root_.Go.ChangeSpec) : _root_.Go.OpenSpec := { _root_.Go.OpenSpec.ofChange s with cond := some uptoSmall }

/-- 'fordlaw12.TxSteps', WHERE WHAT IT READS IS OF BULK AT MOST 1048576: true; the input reads as it did. -/
def txStepsUptoRow : OpenClaim := { program := "ythlapkddgnpaeaa", sum := "216648805311ffa7f2cfd11426e0c254078e946f154a89be5bdde2c58e747b10", func := "ford/fordlaw12.TxSteps", spec := "txSteps", apart := false, narrowed := true }
def TxStepsUptoSaid : Prop := txStepsUptoRow.holds Try.pinned (OpenSpec.upto txStepsSpec)

/-- 'fordlaw12.TxTells', WHERE WHAT IT READS IS OF BULK AT MOST 1048576: true; the input reads as it did. -/
def txTellsUptoRow : OpenClaim := { program := "ythlapkddgnpaeaa", sum := "216648805311ffa7f2cfd11426e0c254078e946f154a89be5bdde2c58e747b10", func := "ford/fordlaw12.TxTells", spec := "txTells", apart := false, narrowed := true }
def TxTellsUptoSaid : Prop := txTellsUptoRow.holds Try.pinned (OpenSpec.upto txTellsSpec)

/-- 'fordlaw12.TxHold', WHERE WHAT IT READS IS OF BULK AT MOST 1048576: true; the input reads as it did. -/
def txHoldUptoRow : OpenClaim := { program := "ythlapkddgnpaeaa", sum := "216648805311ffa7f2cfd11426e0c254078e946f154a89be5bdde2c58e747b10", func := "ford/fordlaw12.TxHold", spec := "txHold", apart := false, narrowed := true }
def TxHoldUptoSaid : Prop := txHoldUptoRow.holds Try.pinned (OpenSpec.upto txHoldSpec)

/-- 'fordlaw12.TxKinds', WHERE WHAT IT READS IS OF BULK AT MOST 1048576: true; the input reads as it did. -/
def txKindsUptoRow : OpenClaim := { program := "ythlapkddgnpaeaa", sum := "216648805311ffa7f2cfd11426e0c254078e946f154a89be5bdde2c58e747b10", func := "ford/fordlaw12.TxKinds", spec := "txKinds", apart := false, narrowed := true }
def TxKindsUptoSaid : Prop := txKindsUptoRow.holds Try.pinned (OpenSpec.upto txKindsSpec)

/-- 'fordlaw12.TxIdle', WHERE WHAT IT READS IS OF BULK AT MOST 1048576: true; the input reads as it did. -/
def txIdleUptoRow : OpenClaim := { program := "ythlapkddgnpaeaa", sum := "216648805311ffa7f2cfd11426e0c254078e946f154a89be5bdde2c58e747b10", func := "ford/fordlaw12.TxIdle", spec := "txIdle", apart := false, narrowed := true }
def TxIdleUptoSaid : Prop := txIdleUptoRow.holds Try.pinned (OpenSpec.upto txIdleSpec)

/-- 'fordlaw12.TxVec', WHERE WHAT IT READS IS OF BULK AT MOST 1048576: true; the input reads as it did. -/
def txVecUptoRow : OpenClaim := { program := "ythlapkddgnpaeaa", sum := "216648805311ffa7f2cfd11426e0c254078e946f154a89be5bdde2c58e747b10", func := "ford/fordlaw12.TxVec", spec := "txVec", apart := false, narrowed := true }
def TxVecUptoSaid : Prop := txVecUptoRow.holds Try.pinned (OpenSpec.upto txVecSpec)

/-- 'fordlaw16.PassageSteps', WHERE WHAT IT READS IS OF BULK AT MOST 1048576: true; the input reads as it did. -/
def passageStepsUptoRow : OpenClaim := { program := "ythlapkddgnpaeaa", sum := "216648805311ffa7f2cfd11426e0c254078e946f154a89be5bdde2c58e747b10", func := "ford/fordlaw16.PassageSteps", spec := "passageSteps", unfollowed := true, recurses := true, apart := false, narrowed := true }
def PassageStepsUptoSaid : Prop := passageStepsUptoRow.holds Try.pinned (OpenSpec.upto passageStepsSpec)

/-- 'fordlaw16.PassageEnds', WHERE WHAT IT READS IS OF BULK AT MOST 1048576: true; the input reads as it did. -/
def passageEndsUptoRow : OpenClaim := { program := "ythlapkddgnpaeaa", sum := "216648805311ffa7f2cfd11426e0c254078e946f154a89be5bdde2c58e747b10", func := "ford/fordlaw16.PassageEnds", spec := "passageEnds", unfollowed := true, recurses := true, apart := false, narrowed := true }
def PassageEndsUptoSaid : Prop := passageEndsUptoRow.holds Try.pinned (OpenSpec.upto passageEndsSpec)

/-- 'fordlaw16.PassageStops', WHERE WHAT IT READS IS OF BULK AT MOST 1048576: true; the input reads as it did. -/
def passageStopsUptoRow : OpenClaim := { program := "ythlapkddgnpaeaa", sum := "216648805311ffa7f2cfd11426e0c254078e946f154a89be5bdde2c58e747b10", func := "ford/fordlaw16.PassageStops", spec := "passageStops", unfollowed := true, recurses := true, apart := false, narrowed := true }
def PassageStopsUptoSaid : Prop := passageStopsUptoRow.holds Try.pinned (OpenSpec.upto passageStopsSpec)

/-- 'fordlaw16.PassageOthers', WHERE WHAT IT READS IS OF BULK AT MOST 1048576: true; the input reads as it did. -/
def passageOthersUptoRow : OpenClaim := { program := "ythlapkddgnpaeaa", sum := "216648805311ffa7f2cfd11426e0c254078e946f154a89be5bdde2c58e747b10", func := "ford/fordlaw16.PassageOthers", spec := "passageOthers", unfollowed := true, recurses := true, apart := false, narrowed := true }
def PassageOthersUptoSaid : Prop := passageOthersUptoRow.holds Try.pinned (OpenSpec.upto passageOthersSpec)

/-- 'fordlaw16.PassageOrder', WHERE WHAT IT READS IS OF BULK AT MOST 1048576: true; the input reads as it did. -/
def passageOrderUptoRow : OpenClaim := { program := "ythlapkddgnpaeaa", sum := "216648805311ffa7f2cfd11426e0c254078e946f154a89be5bdde2c58e747b10", func := "ford/fordlaw16.PassageOrder", spec := "passageOrder", unfollowed := true, recurses := true, apart := false, narrowed := true }
def PassageOrderUptoSaid : Prop := passageOrderUptoRow.holds Try.pinned (OpenSpec.upto passageOrderSpec)

end Rows
end Go.Proofs.Ythlapkddgnpaeaa
