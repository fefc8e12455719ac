/-
  No cell of these rows narrows 'for every input' (looked for: loops, veiled, ifaces, maps, wideKeys, modest, calm, conditions, laid).
  DERIVED. THE GIVEN ROWS OF THIS SEAT. 7 by the template 'for every input the law returns true; each argument reads behind the call as it read before'; 0 by the template 'total and deterministic' (their statements: YtheackckmhbodaaTotals.lean).
  GIVEN WITH THE SEED: the statements are not yours to turn. If you find one false, say at which input.
  Laid BY PROGRAM, IN A SANDBOX (cutbox-rows.mjs): the forced cells as the released guide's own fill.sh prints them over the translation 7ace60b63739abff… (all of the seat's roots in one cut). By AI agents, Wed Nov 11 2026. No macro, syntax, notation, axiom, sorry.
-/
import Derived.Test.YtheackckmhbodaaChecked
import GoSem.Claim
import GoSem.ClaimJoined
import GoSem.ClaimMapViews
import Derived.JoinedTies
import Derived.KernelRfl
namespace Go.Proofs.Ytheackckmhbodaa
/- THE CELL 'sum', in the pinned program and in every row, IS THE sha256 OF THE DUMP (.gsa) THAT YtheackckmhbodaaProg.lean LOADS. Nothing in Lean hashes anything: it is a label: what it is worth is what the hold of that sum in a sandbox is worth. -/
noncomputable def Try.pinned : Pinned := { name := "ytheackckmhbodaa", sum := "7ace60b63739abffab9caf498a5c81e8adccbe30960cd202bd8f4144343a288f", checked := Try.checked }
namespace Rows
def none {H : Type} : Left H := { results := [], args := [] }

/-- 'fordlaw07.FdbPlays': WHATEVER THE INPUT: true; the input reads as it did. -/
def fdbPlaysSpec : ChangeSpec := { name := "fdbPlays", fn := fun _ => fun
  | [d1, d2, d3] => { results := [.lit (.bool true)], args := [d1, d2, d3] }
  | _ => none }
def fdbPlaysRow : OpenClaim := { program := "ytheackckmhbodaa", sum := "7ace60b63739abffab9caf498a5c81e8adccbe30960cd202bd8f4144343a288f", func := "ford/fordlaw07.FdbPlays", spec := "fdbPlays", unfollowed := true, recurses := true, apart := false }
def FdbPlaysSaid : Prop := fdbPlaysRow.holds Try.pinned (OpenSpec.ofChange fdbPlaysSpec)

/-- ITS FALSE NEIGHBOUR: 'it returns false'. Refute it at one input. -/
def fdbPlaysWrong : ChangeSpec := { name := "fdbPlays", fn := fun _ => fun
  | [d1, d2, d3] => { results := [.lit (.bool false)], args := [d1, d2, d3] }
  | _ => none }
def FdbPlaysWrongFalsely : Prop := fdbPlaysRow.holds Try.pinned (OpenSpec.ofChange fdbPlaysWrong)

/-- 'fordlaw07.FdbNew': WHATEVER THE INPUT: true; the input reads as it did. -/
def fdbNewSpec : ChangeSpec := { name := "fdbNew", fn := fun _ => fun
  | [d1, d2] => { results := [.lit (.bool true)], args := [d1, d2] }
  | _ => none }
def fdbNewRow : OpenClaim := { program := "ytheackckmhbodaa", sum := "7ace60b63739abffab9caf498a5c81e8adccbe30960cd202bd8f4144343a288f", func := "ford/fordlaw07.FdbNew", spec := "fdbNew", unfollowed := true, recurses := true, apart := false }
def FdbNewSaid : Prop := fdbNewRow.holds Try.pinned (OpenSpec.ofChange fdbNewSpec)

/-- ITS FALSE NEIGHBOUR: 'it returns false'. Refute it at one input. -/
def fdbNewWrong : ChangeSpec := { name := "fdbNew", fn := fun _ => fun
  | [d1, d2] => { results := [.lit (.bool false)], args := [d1, d2] }
  | _ => none }
def FdbNewWrongFalsely : Prop := fdbNewRow.holds Try.pinned (OpenSpec.ofChange fdbNewWrong)

/-- 'fordlaw07.FdbBound': WHATEVER THE INPUT: true; the input reads as it did. -/
def fdbBoundSpec : ChangeSpec := { name := "fdbBound", fn := fun _ => fun
  | [d1, d2, d3] => { results := [.lit (.bool true)], args := [d1, d2, d3] }
  | _ => none }
def fdbBoundRow : OpenClaim := { program := "ytheackckmhbodaa", sum := "7ace60b63739abffab9caf498a5c81e8adccbe30960cd202bd8f4144343a288f", func := "ford/fordlaw07.FdbBound", spec := "fdbBound", unfollowed := true, recurses := true, apart := false }
def FdbBoundSaid : Prop := fdbBoundRow.holds Try.pinned (OpenSpec.ofChange fdbBoundSpec)

/-- ITS FALSE NEIGHBOUR: 'it returns false'. Refute it at one input. -/
def fdbBoundWrong : ChangeSpec := { name := "fdbBound", fn := fun _ => fun
  | [d1, d2, d3] => { results := [.lit (.bool false)], args := [d1, d2, d3] }
  | _ => none }
def FdbBoundWrongFalsely : Prop := fdbBoundRow.holds Try.pinned (OpenSpec.ofChange fdbBoundWrong)

/-- 'fordlaw07.FdbAges': WHATEVER THE INPUT: true; the input reads as it did. -/
def fdbAgesSpec : ChangeSpec := { name := "fdbAges", fn := fun _ => fun
  | [d1, d2, d3, d4] => { results := [.lit (.bool true)], args := [d1, d2, d3, d4] }
  | _ => none }
def fdbAgesRow : OpenClaim := { program := "ytheackckmhbodaa", sum := "7ace60b63739abffab9caf498a5c81e8adccbe30960cd202bd8f4144343a288f", func := "ford/fordlaw07.FdbAges", spec := "fdbAges", unfollowed := true, recurses := true, apart := false }
def FdbAgesSaid : Prop := fdbAgesRow.holds Try.pinned (OpenSpec.ofChange fdbAgesSpec)

/-- ITS FALSE NEIGHBOUR: 'it returns false'. Refute it at one input. -/
def fdbAgesWrong : ChangeSpec := { name := "fdbAges", fn := fun _ => fun
  | [d1, d2, d3, d4] => { results := [.lit (.bool false)], args := [d1, d2, d3, d4] }
  | _ => none }
def FdbAgesWrongFalsely : Prop := fdbAgesRow.holds Try.pinned (OpenSpec.ofChange fdbAgesWrong)

/-- 'fordlaw07.FdbClones': WHATEVER THE INPUT: true; the input reads as it did. -/
def fdbClonesSpec : ChangeSpec := { name := "fdbClones", fn := fun _ => fun
  | [d1, d2, d3] => { results := [.lit (.bool true)], args := [d1, d2, d3] }
  | _ => none }
def fdbClonesRow : OpenClaim := { program := "ytheackckmhbodaa", sum := "7ace60b63739abffab9caf498a5c81e8adccbe30960cd202bd8f4144343a288f", func := "ford/fordlaw07.FdbClones", spec := "fdbClones", unfollowed := true, recurses := true, apart := false }
def FdbClonesSaid : Prop := fdbClonesRow.holds Try.pinned (OpenSpec.ofChange fdbClonesSpec)

/-- ITS FALSE NEIGHBOUR: 'it returns false'. Refute it at one input. -/
def fdbClonesWrong : ChangeSpec := { name := "fdbClones", fn := fun _ => fun
  | [d1, d2, d3] => { results := [.lit (.bool false)], args := [d1, d2, d3] }
  | _ => none }
def FdbClonesWrongFalsely : Prop := fdbClonesRow.holds Try.pinned (OpenSpec.ofChange fdbClonesWrong)

/-- 'fordlaw07.FdbPorts': WHATEVER THE INPUT: true; the input reads as it did. -/
def fdbPortsSpec : ChangeSpec := { name := "fdbPorts", fn := fun _ => fun
  | [d1, d2] => { results := [.lit (.bool true)], args := [d1, d2] }
  | _ => none }
def fdbPortsRow : OpenClaim := { program := "ytheackckmhbodaa", sum := "7ace60b63739abffab9caf498a5c81e8adccbe30960cd202bd8f4144343a288f", func := "ford/fordlaw07.FdbPorts", spec := "fdbPorts", unfollowed := true, recurses := true, apart := false }
def FdbPortsSaid : Prop := fdbPortsRow.holds Try.pinned (OpenSpec.ofChange fdbPortsSpec)

/-- ITS FALSE NEIGHBOUR: 'it returns false'. Refute it at one input. -/
def fdbPortsWrong : ChangeSpec := { name := "fdbPorts", fn := fun _ => fun
  | [d1, d2] => { results := [.lit (.bool false)], args := [d1, d2] }
  | _ => none }
def FdbPortsWrongFalsely : Prop := fdbPortsRow.holds Try.pinned (OpenSpec.ofChange fdbPortsWrong)

/-- 'fordlaw07.FdbFull': WHATEVER THE INPUT: true; the input reads as it did. -/
def fdbFullSpec : ChangeSpec := { name := "fdbFull", fn := fun _ => fun
  | [d1, d2] => { results := [.lit (.bool true)], args := [d1, d2] }
  | _ => none }
def fdbFullRow : OpenClaim := { program := "ytheackckmhbodaa", sum := "7ace60b63739abffab9caf498a5c81e8adccbe30960cd202bd8f4144343a288f", func := "ford/fordlaw07.FdbFull", spec := "fdbFull", unfollowed := true, recurses := true, apart := false }
def FdbFullSaid : Prop := fdbFullRow.holds Try.pinned (OpenSpec.ofChange fdbFullSpec)

/-- ITS FALSE NEIGHBOUR: 'it returns false'. Refute it at one input. -/
def fdbFullWrong : ChangeSpec := { name := "fdbFull", fn := fun _ => fun
  | [d1, d2] => { results := [.lit (.bool false)], args := [d1, d2] }
  | _ => none }
def FdbFullWrongFalsely : Prop := fdbFullRow.holds Try.pinned (OpenSpec.ofChange fdbFullWrong)

/- THE SECOND FORM. 'bulk': how many values and letters a reading holds, each counted each time it is reached (what is shared counts as often as it is met; a slice's spare places count too). A statement '..UptoSaid' is the law's where the arguments, and the package variables that the reading takes, are together of bulk at most 1048576: NARROWER than '..Said'. Prove '..Said' where nothing that the law and all that it calls make is longer than what came in: it says more and counts as full. Else prove '..UptoSaid'. A law counts once. -/
mutual
def uptoBulk {H : Type} : DataW H → Nat
  | .lit (.string bytes) => bytes.length + 1
  | .lit _ => 1
  | .nil => 1
  | .ptr d => uptoBulk d + 1
  | .slice elems spare => uptoBulkAll elems + uptoBulkAll spare + 1
  | .agg parts => uptoBulkAll parts + 1
  | .iface _ d => uptoBulk d + 1
  | .map entries => uptoBulkEntries entries + 1
  | .held _ => 1
def uptoBulkAll {H : Type} : List (DataW H) → Nat
  | [] => 0
  | d :: r => uptoBulk d + uptoBulkAll r
def uptoBulkEntries {H : Type} : List (Lit × DataW H) → Nat
  | [] => 0
  | x :: r => uptoBulkEntry x + uptoBulkEntries r
def uptoBulkEntry {H : Type} : Lit × DataW H → Nat
  | (.string bytes, d) => bytes.length + uptoBulk d + 1
  | (_, d) => uptoBulk d + 1
 end
def uptoSmall : (H : Type) → List (DataW H) → Bool := fun _ ds => decide (uptoBulkAll ds ≤ 1048576)
def OpenSpec.upto (s : _root_.Go.ChangeSpec) : _root_.Go.OpenSpec := { _root_.Go.OpenSpec.ofChange s with cond := some uptoSmall }

/-- 'fordlaw07.FdbPlays', WHERE WHAT IT READS IS OF BULK AT MOST 1048576: true; the input reads as it did. -/
def fdbPlaysUptoRow : OpenClaim := { program := "ytheackckmhbodaa", sum := "7ace60b63739abffab9caf498a5c81e8adccbe30960cd202bd8f4144343a288f", func := "ford/fordlaw07.FdbPlays", spec := "fdbPlays", unfollowed := true, recurses := true, apart := false, narrowed := true }
def FdbPlaysUptoSaid : Prop := fdbPlaysUptoRow.holds Try.pinned (OpenSpec.upto fdbPlaysSpec)

/-- 'fordlaw07.FdbNew', WHERE WHAT IT READS IS OF BULK AT MOST 1048576: true; the input reads as it did. -/
def fdbNewUptoRow : OpenClaim := { program := "ytheackckmhbodaa", sum := "7ace60b63739abffab9caf498a5c81e8adccbe30960cd202bd8f4144343a288f", func := "ford/fordlaw07.FdbNew", spec := "fdbNew", unfollowed := true, recurses := true, apart := false, narrowed := true }
def FdbNewUptoSaid : Prop := fdbNewUptoRow.holds Try.pinned (OpenSpec.upto fdbNewSpec)

/-- 'fordlaw07.FdbBound', WHERE WHAT IT READS IS OF BULK AT MOST 1048576: true; the input reads as it did. -/
def fdbBoundUptoRow : OpenClaim := { program := "ytheackckmhbodaa", sum := "7ace60b63739abffab9caf498a5c81e8adccbe30960cd202bd8f4144343a288f", func := "ford/fordlaw07.FdbBound", spec := "fdbBound", unfollowed := true, recurses := true, apart := false, narrowed := true }
def FdbBoundUptoSaid : Prop := fdbBoundUptoRow.holds Try.pinned (OpenSpec.upto fdbBoundSpec)

/-- 'fordlaw07.FdbAges', WHERE WHAT IT READS IS OF BULK AT MOST 1048576: true; the input reads as it did. -/
def fdbAgesUptoRow : OpenClaim := { program := "ytheackckmhbodaa", sum := "7ace60b63739abffab9caf498a5c81e8adccbe30960cd202bd8f4144343a288f", func := "ford/fordlaw07.FdbAges", spec := "fdbAges", unfollowed := true, recurses := true, apart := false, narrowed := true }
def FdbAgesUptoSaid : Prop := fdbAgesUptoRow.holds Try.pinned (OpenSpec.upto fdbAgesSpec)

/-- 'fordlaw07.FdbClones', WHERE WHAT IT READS IS OF BULK AT MOST 1048576: true; the input reads as it did. -/
def fdbClonesUptoRow : OpenClaim := { program := "ytheackckmhbodaa", sum := "7ace60b63739abffab9caf498a5c81e8adccbe30960cd202bd8f4144343a288f", func := "ford/fordlaw07.FdbClones", spec := "fdbClones", unfollowed := true, recurses := true, apart := false, narrowed := true }
def FdbClonesUptoSaid : Prop := fdbClonesUptoRow.holds Try.pinned (OpenSpec.upto fdbClonesSpec)

/-- 'fordlaw07.FdbPorts', WHERE WHAT IT READS IS OF BULK AT MOST 1048576: true; the input reads as it did. -/
def fdbPortsUptoRow : OpenClaim := { program := "ytheackckmhbodaa", sum := "7ace60b63739abffab9caf498a5c81e8adccbe30960cd202bd8f4144343a288f", func := "ford/fordlaw07.FdbPorts", spec := "fdbPorts", unfollowed := true, recurses := true, apart := false, narrowed := true }
def FdbPortsUptoSaid : Prop := fdbPortsUptoRow.holds Try.pinned (OpenSpec.upto fdbPortsSpec)

/-- 'fordlaw07.FdbFull', WHERE WHAT IT READS IS OF BULK AT MOST 1048576: true; the input reads as it did. -/
def fdbFullUptoRow : OpenClaim := { program := "ytheackckmhbodaa", sum := "7ace60b63739abffab9caf498a5c81e8adccbe30960cd202bd8f4144343a288f", func := "ford/fordlaw07.FdbFull", spec := "fdbFull", unfollowed := true, recurses := true, apart := false, narrowed := true }
def FdbFullUptoSaid : Prop := fdbFullUptoRow.holds Try.pinned (OpenSpec.upto fdbFullSpec)

end Rows
end Go.Proofs.Ytheackckmhbodaa
