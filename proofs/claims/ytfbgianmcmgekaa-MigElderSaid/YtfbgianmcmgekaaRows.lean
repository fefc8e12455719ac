/-
  No cell of these rows narrows 'for every input' (looked for: loops, veiled, ifaces, maps, wideKeys, modest, calm, conditions, laid).
  DERIVED. THE GIVEN ROWS OF THIS SEAT. 10 by the template 'for every input the law returns true; each argument reads behind the call as it read before'; 0 by the template 'total and deterministic' (their statements: YtfbgianmcmgekaaTotals.lean).
  GIVEN WITH THE SEED: the statements are not yours to turn. If you find one false, say at which input.
  Laid BY PROGRAM, IN A SANDBOX (cutbox-rows.mjs): the forced cells as the released guide's own fill.sh prints them over the translation 904aa9d9e7c61a1d… (all of the seat's roots in one cut). By AI agents, Wed Nov 11 2026. No macro, syntax, notation, axiom, sorry.
-/
import Derived.Test.YtfbgianmcmgekaaChecked
import GoSem.Claim
import GoSem.ClaimJoined
import GoSem.ClaimMapViews
import Derived.JoinedTies
import Derived.KernelRfl
namespace Go.Proofs.Ytfbgianmcmgekaa
/- THE CELL 'sum', in the pinned program and in every row, IS THE sha256 OF THE DUMP (.gsa) THAT YtfbgianmcmgekaaProg.lean LOADS. Nothing in Lean hashes anything: it is a label: what it is worth is what the hold of that sum in a sandbox is worth. -/
noncomputable def Try.pinned : Pinned := { name := "ytfbgianmcmgekaa", sum := "904aa9d9e7c61a1d3b54c096d682a9d7f4e271d687241875a4fc811fe336deda", checked := Try.checked }
namespace Rows
def none {H : Type} : Left H := { results := [], args := [] }

/-- 'fordlaw10.MigSteps': WHATEVER THE INPUT: true; the input reads as it did. -/
def migStepsSpec : ChangeSpec := { name := "migSteps", fn := fun _ => fun
  | [d1, d2] => { results := [.lit (.bool true)], args := [d1, d2] }
  | _ => none }
def migStepsRow : OpenClaim := { program := "ytfbgianmcmgekaa", sum := "904aa9d9e7c61a1d3b54c096d682a9d7f4e271d687241875a4fc811fe336deda", func := "ford/fordlaw10.MigSteps", spec := "migSteps", unfollowed := true, recurses := true, apart := false }
def MigStepsSaid : Prop := migStepsRow.holds Try.pinned (OpenSpec.ofChange migStepsSpec)

/-- ITS FALSE NEIGHBOUR: 'it returns false'. Refute it at one input. -/
def migStepsWrong : ChangeSpec := { name := "migSteps", fn := fun _ => fun
  | [d1, d2] => { results := [.lit (.bool false)], args := [d1, d2] }
  | _ => none }
def MigStepsWrongFalsely : Prop := migStepsRow.holds Try.pinned (OpenSpec.ofChange migStepsWrong)

/-- 'fordlaw10.MigEnds': WHATEVER THE INPUT: true; the input reads as it did. -/
def migEndsSpec : ChangeSpec := { name := "migEnds", fn := fun _ => fun
  | [d1, d2] => { results := [.lit (.bool true)], args := [d1, d2] }
  | _ => none }
def migEndsRow : OpenClaim := { program := "ytfbgianmcmgekaa", sum := "904aa9d9e7c61a1d3b54c096d682a9d7f4e271d687241875a4fc811fe336deda", func := "ford/fordlaw10.MigEnds", spec := "migEnds", unfollowed := true, recurses := true, apart := false }
def MigEndsSaid : Prop := migEndsRow.holds Try.pinned (OpenSpec.ofChange migEndsSpec)

/-- ITS FALSE NEIGHBOUR: 'it returns false'. Refute it at one input. -/
def migEndsWrong : ChangeSpec := { name := "migEnds", fn := fun _ => fun
  | [d1, d2] => { results := [.lit (.bool false)], args := [d1, d2] }
  | _ => none }
def MigEndsWrongFalsely : Prop := migEndsRow.holds Try.pinned (OpenSpec.ofChange migEndsWrong)

/-- 'fordlaw10.MigElder': WHATEVER THE INPUT: true; the input reads as it did. -/
def migElderSpec : ChangeSpec := { name := "migElder", fn := fun _ => fun
  | [d1, d2, d3] => { results := [.lit (.bool true)], args := [d1, d2, d3] }
  | _ => none }
def migElderRow : OpenClaim := { program := "ytfbgianmcmgekaa", sum := "904aa9d9e7c61a1d3b54c096d682a9d7f4e271d687241875a4fc811fe336deda", func := "ford/fordlaw10.MigElder", spec := "migElder", unfollowed := true, recurses := true, apart := false }
def MigElderSaid : Prop := migElderRow.holds Try.pinned (OpenSpec.ofChange migElderSpec)

/-- ITS FALSE NEIGHBOUR: 'it returns false'. Refute it at one input. -/
def migElderWrong : ChangeSpec := { name := "migElder", fn := fun _ => fun
  | [d1, d2, d3] => { results := [.lit (.bool false)], args := [d1, d2, d3] }
  | _ => none }
def MigElderWrongFalsely : Prop := migElderRow.holds Try.pinned (OpenSpec.ofChange migElderWrong)

/-- 'fordlaw10.MigHears': WHATEVER THE INPUT: true; the input reads as it did. -/
def migHearsSpec : ChangeSpec := { name := "migHears", fn := fun _ => fun
  | [d1, d2] => { results := [.lit (.bool true)], args := [d1, d2] }
  | _ => none }
def migHearsRow : OpenClaim := { program := "ytfbgianmcmgekaa", sum := "904aa9d9e7c61a1d3b54c096d682a9d7f4e271d687241875a4fc811fe336deda", func := "ford/fordlaw10.MigHears", spec := "migHears", unfollowed := true, recurses := true, apart := false }
def MigHearsSaid : Prop := migHearsRow.holds Try.pinned (OpenSpec.ofChange migHearsSpec)

/-- ITS FALSE NEIGHBOUR: 'it returns false'. Refute it at one input. -/
def migHearsWrong : ChangeSpec := { name := "migHears", fn := fun _ => fun
  | [d1, d2] => { results := [.lit (.bool false)], args := [d1, d2] }
  | _ => none }
def MigHearsWrongFalsely : Prop := migHearsRow.holds Try.pinned (OpenSpec.ofChange migHearsWrong)

/-- 'fordlaw10.MigOthers': WHATEVER THE INPUT: true; the input reads as it did. -/
def migOthersSpec : ChangeSpec := { name := "migOthers", fn := fun _ => fun
  | [d1, d2] => { results := [.lit (.bool true)], args := [d1, d2] }
  | _ => none }
def migOthersRow : OpenClaim := { program := "ytfbgianmcmgekaa", sum := "904aa9d9e7c61a1d3b54c096d682a9d7f4e271d687241875a4fc811fe336deda", func := "ford/fordlaw10.MigOthers", spec := "migOthers", unfollowed := true, recurses := true, apart := false }
def MigOthersSaid : Prop := migOthersRow.holds Try.pinned (OpenSpec.ofChange migOthersSpec)

/-- ITS FALSE NEIGHBOUR: 'it returns false'. Refute it at one input. -/
def migOthersWrong : ChangeSpec := { name := "migOthers", fn := fun _ => fun
  | [d1, d2] => { results := [.lit (.bool false)], args := [d1, d2] }
  | _ => none }
def MigOthersWrongFalsely : Prop := migOthersRow.holds Try.pinned (OpenSpec.ofChange migOthersWrong)

/-- 'fordlaw11.EdgeSteps': WHATEVER THE INPUT: true; the input reads as it did. -/
def edgeStepsSpec : ChangeSpec := { name := "edgeSteps", fn := fun _ => fun
  | [d1, d2] => { results := [.lit (.bool true)], args := [d1, d2] }
  | _ => none }
def edgeStepsRow : OpenClaim := { program := "ytfbgianmcmgekaa", sum := "904aa9d9e7c61a1d3b54c096d682a9d7f4e271d687241875a4fc811fe336deda", func := "ford/fordlaw11.EdgeSteps", spec := "edgeSteps", apart := false }
def EdgeStepsSaid : Prop := edgeStepsRow.holds Try.pinned (OpenSpec.ofChange edgeStepsSpec)

/-- ITS FALSE NEIGHBOUR: 'it returns false'. Refute it at one input. -/
def edgeStepsWrong : ChangeSpec := { name := "edgeSteps", fn := fun _ => fun
  | [d1, d2] => { results := [.lit (.bool false)], args := [d1, d2] }
  | _ => none }
def EdgeStepsWrongFalsely : Prop := edgeStepsRow.holds Try.pinned (OpenSpec.ofChange edgeStepsWrong)

/-- 'fordlaw11.EdgeEnds': WHATEVER THE INPUT: true; the input reads as it did. -/
def edgeEndsSpec : ChangeSpec := { name := "edgeEnds", fn := fun _ => fun
  | [d1, d2] => { results := [.lit (.bool true)], args := [d1, d2] }
  | _ => none }
def edgeEndsRow : OpenClaim := { program := "ytfbgianmcmgekaa", sum := "904aa9d9e7c61a1d3b54c096d682a9d7f4e271d687241875a4fc811fe336deda", func := "ford/fordlaw11.EdgeEnds", spec := "edgeEnds", apart := false }
def EdgeEndsSaid : Prop := edgeEndsRow.holds Try.pinned (OpenSpec.ofChange edgeEndsSpec)

/-- ITS FALSE NEIGHBOUR: 'it returns false'. Refute it at one input. -/
def edgeEndsWrong : ChangeSpec := { name := "edgeEnds", fn := fun _ => fun
  | [d1, d2] => { results := [.lit (.bool false)], args := [d1, d2] }
  | _ => none }
def EdgeEndsWrongFalsely : Prop := edgeEndsRow.holds Try.pinned (OpenSpec.ofChange edgeEndsWrong)

/-- 'fordlaw11.EdgeHand': WHATEVER THE INPUT: true; the input reads as it did. -/
def edgeHandSpec : ChangeSpec := { name := "edgeHand", fn := fun _ => fun
  | [d1, d2, d3] => { results := [.lit (.bool true)], args := [d1, d2, d3] }
  | _ => none }
def edgeHandRow : OpenClaim := { program := "ytfbgianmcmgekaa", sum := "904aa9d9e7c61a1d3b54c096d682a9d7f4e271d687241875a4fc811fe336deda", func := "ford/fordlaw11.EdgeHand", spec := "edgeHand", apart := false }
def EdgeHandSaid : Prop := edgeHandRow.holds Try.pinned (OpenSpec.ofChange edgeHandSpec)

/-- ITS FALSE NEIGHBOUR: 'it returns false'. Refute it at one input. -/
def edgeHandWrong : ChangeSpec := { name := "edgeHand", fn := fun _ => fun
  | [d1, d2, d3] => { results := [.lit (.bool false)], args := [d1, d2, d3] }
  | _ => none }
def EdgeHandWrongFalsely : Prop := edgeHandRow.holds Try.pinned (OpenSpec.ofChange edgeHandWrong)

/-- 'fordlaw11.EdgeHeard': WHATEVER THE INPUT: true; the input reads as it did. -/
def edgeHeardSpec : ChangeSpec := { name := "edgeHeard", fn := fun _ => fun
  | [d1, d2, d3] => { results := [.lit (.bool true)], args := [d1, d2, d3] }
  | _ => none }
def edgeHeardRow : OpenClaim := { program := "ytfbgianmcmgekaa", sum := "904aa9d9e7c61a1d3b54c096d682a9d7f4e271d687241875a4fc811fe336deda", func := "ford/fordlaw11.EdgeHeard", spec := "edgeHeard", apart := false }
def EdgeHeardSaid : Prop := edgeHeardRow.holds Try.pinned (OpenSpec.ofChange edgeHeardSpec)

/-- ITS FALSE NEIGHBOUR: 'it returns false'. Refute it at one input. -/
def edgeHeardWrong : ChangeSpec := { name := "edgeHeard", fn := fun _ => fun
  | [d1, d2, d3] => { results := [.lit (.bool false)], args := [d1, d2, d3] }
  | _ => none }
def EdgeHeardWrongFalsely : Prop := edgeHeardRow.holds Try.pinned (OpenSpec.ofChange edgeHeardWrong)

/-- 'fordlaw11.EdgeOthers': WHATEVER THE INPUT: true; the input reads as it did. -/
def edgeOthersSpec : ChangeSpec := { name := "edgeOthers", fn := fun _ => fun
  | [d1, d2] => { results := [.lit (.bool true)], args := [d1, d2] }
  | _ => none }
def edgeOthersRow : OpenClaim := { program := "ytfbgianmcmgekaa", sum := "904aa9d9e7c61a1d3b54c096d682a9d7f4e271d687241875a4fc811fe336deda", func := "ford/fordlaw11.EdgeOthers", spec := "edgeOthers", apart := false }
def EdgeOthersSaid : Prop := edgeOthersRow.holds Try.pinned (OpenSpec.ofChange edgeOthersSpec)

/-- ITS FALSE NEIGHBOUR: 'it returns false'. Refute it at one input. -/
def edgeOthersWrong : ChangeSpec := { name := "edgeOthers", fn := fun _ => fun
  | [d1, d2] => { results := [.lit (.bool false)], args := [d1, d2] }
  | _ => none }
def EdgeOthersWrongFalsely : Prop := edgeOthersRow.holds Try.pinned (OpenSpec.ofChange edgeOthersWrong)

/- THE SECOND FORM. 'bulk': how many values and letters a reading holds, each counted each time it is reached (what is shared counts as often as it is met; a slice's spare places count too). A statement '..UptoSaid' is the law's where the arguments, and the package variables that the reading takes, are together of bulk at most 1048576: NARROWER than '..Said'. Prove '..Said' where nothing that the law and all that it calls make is longer than what came in: it says more and counts as full. Else prove '..UptoSaid'. A law counts once. -/
mutual
def uptoBulk {H : Type} : DataW H → Nat
  | .lit (.string bytes) => bytes.length + 1
  | .lit _ => 1
  | .nil => 1
  | .ptr d => uptoBulk d + 1
  | .slice elems spare => uptoBulkAll elems + uptoBulkAll spare + 1
  | .agg parts => uptoBulkAll parts + 1
  | .iface _ d => uptoBulk d + 1
  | .map entries => uptoBulkEntries entries + 1
  | .held _ => 1
def uptoBulkAll {H : Type} : List (DataW H) → Nat
  | [] => 0
  | d :: r => uptoBulk d + uptoBulkAll r
def uptoBulkEntries {H : Type} : List (Lit × DataW H) → Nat
  | [] => 0
  | x :: r => uptoBulkEntry x + uptoBulkEntries r
def uptoBulkEntry {H : Type} : Lit × DataW H → Nat
  | (.string bytes, d) => bytes.length + uptoBulk d + 1
  | (_, d) => uptoBulk d + 1
 end
def uptoSmall : (H : Type) → List (DataW H) → Bool := fun _ ds => decide (uptoBulkAll ds ≤ 1048576)
def OpenSpec.upto (s : _root_.Go.ChangeSpec) : _root_.Go.OpenSpec := { _root_.Go.OpenSpec.ofChange s with cond := some uptoSmall }

/-- 'fordlaw10.MigSteps', WHERE WHAT IT READS IS OF BULK AT MOST 1048576: true; the input reads as it did. -/
def migStepsUptoRow : OpenClaim := { program := "ytfbgianmcmgekaa", sum := "904aa9d9e7c61a1d3b54c096d682a9d7f4e271d687241875a4fc811fe336deda", func := "ford/fordlaw10.MigSteps", spec := "migSteps", unfollowed := true, recurses := true, apart := false, narrowed := true }
def MigStepsUptoSaid : Prop := migStepsUptoRow.holds Try.pinned (OpenSpec.upto migStepsSpec)

/-- 'fordlaw10.MigEnds', WHERE WHAT IT READS IS OF BULK AT MOST 1048576: true; the input reads as it did. -/
def migEndsUptoRow : OpenClaim := { program := "ytfbgianmcmgekaa", sum := "904aa9d9e7c61a1d3b54c096d682a9d7f4e271d687241875a4fc811fe336deda", func := "ford/fordlaw10.MigEnds", spec := "migEnds", unfollowed := true, recurses := true, apart := false, narrowed := true }
def MigEndsUptoSaid : Prop := migEndsUptoRow.holds Try.pinned (OpenSpec.upto migEndsSpec)

/-- 'fordlaw10.MigElder', WHERE WHAT IT READS IS OF BULK AT MOST 1048576: true; the input reads as it did. -/
def migElderUptoRow : OpenClaim := { program := "ytfbgianmcmgekaa", sum := "904aa9d9e7c61a1d3b54c096d682a9d7f4e271d687241875a4fc811fe336deda", func := "ford/fordlaw10.MigElder", spec := "migElder", unfollowed := true, recurses := true, apart := false, narrowed := true }
def MigElderUptoSaid : Prop := migElderUptoRow.holds Try.pinned (OpenSpec.upto migElderSpec)

/-- 'fordlaw10.MigHears', WHERE WHAT IT READS IS OF BULK AT MOST 1048576: true; the input reads as it did. -/
def migHearsUptoRow : OpenClaim := { program := "ytfbgianmcmgekaa", sum := "904aa9d9e7c61a1d3b54c096d682a9d7f4e271d687241875a4fc811fe336deda", func := "ford/fordlaw10.MigHears", spec := "migHears", unfollowed := true, recurses := true, apart := false, narrowed := true }
def MigHearsUptoSaid : Prop := migHearsUptoRow.holds Try.pinned (OpenSpec.upto migHearsSpec)

/-- 'fordlaw10.MigOthers', WHERE WHAT IT READS IS OF BULK AT MOST 1048576: true; the input reads as it did. -/
def migOthersUptoRow : OpenClaim := { program := "ytfbgianmcmgekaa", sum := "904aa9d9e7c61a1d3b54c096d682a9d7f4e271d687241875a4fc811fe336deda", func := "ford/fordlaw10.MigOthers", spec := "migOthers", unfollowed := true, recurses := true, apart := false, narrowed := true }
def MigOthersUptoSaid : Prop := migOthersUptoRow.holds Try.pinned (OpenSpec.upto migOthersSpec)

/-- 'fordlaw11.EdgeSteps', WHERE WHAT IT READS IS OF BULK AT MOST 1048576: true; the input reads as it did. -/
def edgeStepsUptoRow : OpenClaim := { program := "ytfbgianmcmgekaa", sum := "904aa9d9e7c61a1d3b54c096d682a9d7f4e271d687241875a4fc811fe336deda", func := "ford/fordlaw11.EdgeSteps", spec := "edgeSteps", apart := false, narrowed := true }
def EdgeStepsUptoSaid : Prop := edgeStepsUptoRow.holds Try.pinned (OpenSpec.upto edgeStepsSpec)

/-- 'fordlaw11.EdgeEnds', WHERE WHAT IT READS IS OF BULK AT MOST 1048576: true; the input reads as it did. -/
def edgeEndsUptoRow : OpenClaim := { program := "ytfbgianmcmgekaa", sum := "904aa9d9e7c61a1d3b54c096d682a9d7f4e271d687241875a4fc811fe336deda", func := "ford/fordlaw11.EdgeEnds", spec := "edgeEnds", apart := false, narrowed := true }
def EdgeEndsUptoSaid : Prop := edgeEndsUptoRow.holds Try.pinned (OpenSpec.upto edgeEndsSpec)

/-- 'fordlaw11.EdgeHand', WHERE WHAT IT READS IS OF BULK AT MOST 1048576: true; the input reads as it did. -/
def edgeHandUptoRow : OpenClaim := { program := "ytfbgianmcmgekaa", sum := "904aa9d9e7c61a1d3b54c096d682a9d7f4e271d687241875a4fc811fe336deda", func := "ford/fordlaw11.EdgeHand", spec := "edgeHand", apart := false, narrowed := true }
def EdgeHandUptoSaid : Prop := edgeHandUptoRow.holds Try.pinned (OpenSpec.upto edgeHandSpec)

/-- 'fordlaw11.EdgeHeard', WHERE WHAT IT READS IS OF BULK AT MOST 1048576: true; the input reads as it did. -/
def edgeHeardUptoRow : OpenClaim := { program := "ytfbgianmcmgekaa", sum := "904aa9d9e7c61a1d3b54c096d682a9d7f4e271d687241875a4fc811fe336deda", func := "ford/fordlaw11.EdgeHeard", spec := "edgeHeard", apart := false, narrowed := true }
def EdgeHeardUptoSaid : Prop := edgeHeardUptoRow.holds Try.pinned (OpenSpec.upto edgeHeardSpec)

/-- 'fordlaw11.EdgeOthers', WHERE WHAT IT READS IS OF BULK AT MOST 1048576: true; the input reads as it did. -/
def edgeOthersUptoRow : OpenClaim := { program := "ytfbgianmcmgekaa", sum := "904aa9d9e7c61a1d3b54c096d682a9d7f4e271d687241875a4fc811fe336deda", func := "ford/fordlaw11.EdgeOthers", spec := "edgeOthers", apart := false, narrowed := true }
def EdgeOthersUptoSaid : Prop := edgeOthersUptoRow.holds Try.pinned (OpenSpec.upto edgeOthersSpec)

end Rows
end Go.Proofs.Ytfbgianmcmgekaa
