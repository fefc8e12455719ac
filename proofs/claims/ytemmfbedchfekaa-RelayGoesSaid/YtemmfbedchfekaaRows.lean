/-
  No cell of these rows narrows 'for every input' (looked for: loops, veiled, ifaces, maps, wideKeys, modest, calm, conditions, laid).
  DERIVED. THE GIVEN ROWS OF THIS SEAT. 5 by the template 'for every input the law returns true; each argument reads behind the call as it read before'; 0 by the template 'total and deterministic' (their statements: YtemmfbedchfekaaTotals.lean).
  GIVEN WITH THE SEED: the statements are not yours to turn. If you find one false, say at which input.
  Laid BY PROGRAM, IN A SANDBOX (cutbox-rows.mjs): the forced cells as the released guide's own fill.sh prints them over the translation 8e3998531811c653… (all of the seat's roots in one cut). By AI agents, Wed Nov 11 2026. No macro, syntax, notation, axiom, sorry.
-/
import Derived.Test.YtemmfbedchfekaaChecked
import GoSem.Claim
import GoSem.ClaimJoined
import GoSem.ClaimMapViews
import Derived.JoinedTies
import Derived.KernelRfl
namespace Go.Proofs.Ytemmfbedchfekaa
/- THE CELL 'sum', in the pinned program and in every row, IS THE sha256 OF THE DUMP (.gsa) THAT YtemmfbedchfekaaProg.lean LOADS. Nothing in Lean hashes anything: it is a label: what it is worth is what the hold of that sum in a sandbox is worth. -/
noncomputable def Try.pinned : Pinned := { name := "ytemmfbedchfekaa", sum := "8e3998531811c653561f7b38154fecdbf322af428a5de89ef58370193dd9ffd8", checked := Try.checked }
namespace Rows
def none {H : Type} : Left H := { results := [], args := [] }

/-- 'fordlaw19.RelayGoes': WHATEVER THE INPUT: true; the input reads as it did. -/
def relayGoesSpec : ChangeSpec := { name := "relayGoes", fn := fun _ => fun
  | [d1, d2, d3] => { results := [.lit (.bool true)], args := [d1, d2, d3] }
  | _ => none }
def relayGoesRow : OpenClaim := { program := "ytemmfbedchfekaa", sum := "8e3998531811c653561f7b38154fecdbf322af428a5de89ef58370193dd9ffd8", func := "ford/fordlaw19.RelayGoes", spec := "relayGoes", unfollowed := true, recurses := true, apart := false }
def RelayGoesSaid : Prop := relayGoesRow.holds Try.pinned (OpenSpec.ofChange relayGoesSpec)

/-- ITS FALSE NEIGHBOUR: 'it returns false'. Refute it at one input. -/
def relayGoesWrong : ChangeSpec := { name := "relayGoes", fn := fun _ => fun
  | [d1, d2, d3] => { results := [.lit (.bool false)], args := [d1, d2, d3] }
  | _ => none }
def RelayGoesWrongFalsely : Prop := relayGoesRow.holds Try.pinned (OpenSpec.ofChange relayGoesWrong)

/-- 'fordlaw19.RelayNever': WHATEVER THE INPUT: true; the input reads as it did. -/
def relayNeverSpec : ChangeSpec := { name := "relayNever", fn := fun _ => fun
  | [d1, d2] => { results := [.lit (.bool true)], args := [d1, d2] }
  | _ => none }
def relayNeverRow : OpenClaim := { program := "ytemmfbedchfekaa", sum := "8e3998531811c653561f7b38154fecdbf322af428a5de89ef58370193dd9ffd8", func := "ford/fordlaw19.RelayNever", spec := "relayNever", unfollowed := true, recurses := true, apart := false }
def RelayNeverSaid : Prop := relayNeverRow.holds Try.pinned (OpenSpec.ofChange relayNeverSpec)

/-- ITS FALSE NEIGHBOUR: 'it returns false'. Refute it at one input. -/
def relayNeverWrong : ChangeSpec := { name := "relayNever", fn := fun _ => fun
  | [d1, d2] => { results := [.lit (.bool false)], args := [d1, d2] }
  | _ => none }
def RelayNeverWrongFalsely : Prop := relayNeverRow.holds Try.pinned (OpenSpec.ofChange relayNeverWrong)

/-- 'fordlaw19.RelayLearns': WHATEVER THE INPUT: true; the input reads as it did. -/
def relayLearnsSpec : ChangeSpec := { name := "relayLearns", fn := fun _ => fun
  | [d1, d2, d3, d4, d5] => { results := [.lit (.bool true)], args := [d1, d2, d3, d4, d5] }
  | _ => none }
def relayLearnsRow : OpenClaim := { program := "ytemmfbedchfekaa", sum := "8e3998531811c653561f7b38154fecdbf322af428a5de89ef58370193dd9ffd8", func := "ford/fordlaw19.RelayLearns", spec := "relayLearns", unfollowed := true, recurses := true, apart := false }
def RelayLearnsSaid : Prop := relayLearnsRow.holds Try.pinned (OpenSpec.ofChange relayLearnsSpec)

/-- ITS FALSE NEIGHBOUR: 'it returns false'. Refute it at one input. -/
def relayLearnsWrong : ChangeSpec := { name := "relayLearns", fn := fun _ => fun
  | [d1, d2, d3, d4, d5] => { results := [.lit (.bool false)], args := [d1, d2, d3, d4, d5] }
  | _ => none }
def RelayLearnsWrongFalsely : Prop := relayLearnsRow.holds Try.pinned (OpenSpec.ofChange relayLearnsWrong)

/-- 'fordlaw19.RelayAlone': WHATEVER THE INPUT: true; the input reads as it did. -/
def relayAloneSpec : ChangeSpec := { name := "relayAlone", fn := fun _ => fun
  | [d1, d2, d3, d4, d5] => { results := [.lit (.bool true)], args := [d1, d2, d3, d4, d5] }
  | _ => none }
def relayAloneRow : OpenClaim := { program := "ytemmfbedchfekaa", sum := "8e3998531811c653561f7b38154fecdbf322af428a5de89ef58370193dd9ffd8", func := "ford/fordlaw19.RelayAlone", spec := "relayAlone", unfollowed := true, recurses := true, apart := false }
def RelayAloneSaid : Prop := relayAloneRow.holds Try.pinned (OpenSpec.ofChange relayAloneSpec)

/-- ITS FALSE NEIGHBOUR: 'it returns false'. Refute it at one input. -/
def relayAloneWrong : ChangeSpec := { name := "relayAlone", fn := fun _ => fun
  | [d1, d2, d3, d4, d5] => { results := [.lit (.bool false)], args := [d1, d2, d3, d4, d5] }
  | _ => none }
def RelayAloneWrongFalsely : Prop := relayAloneRow.holds Try.pinned (OpenSpec.ofChange relayAloneWrong)

/-- 'fordlaw19.RelayAgain': WHATEVER THE INPUT: true; the input reads as it did. -/
def relayAgainSpec : ChangeSpec := { name := "relayAgain", fn := fun _ => fun
  | [d1, d2] => { results := [.lit (.bool true)], args := [d1, d2] }
  | _ => none }
def relayAgainRow : OpenClaim := { program := "ytemmfbedchfekaa", sum := "8e3998531811c653561f7b38154fecdbf322af428a5de89ef58370193dd9ffd8", func := "ford/fordlaw19.RelayAgain", spec := "relayAgain", unfollowed := true, recurses := true, apart := false }
def RelayAgainSaid : Prop := relayAgainRow.holds Try.pinned (OpenSpec.ofChange relayAgainSpec)

/-- ITS FALSE NEIGHBOUR: 'it returns false'. Refute it at one input. -/
def relayAgainWrong : ChangeSpec := { name := "relayAgain", fn := fun _ => fun
  | [d1, d2] => { results := [.lit (.bool false)], args := [d1, d2] }
  | _ => none }
def RelayAgainWrongFalsely : Prop := relayAgainRow.holds Try.pinned (OpenSpec.ofChange relayAgainWrong)

/- THE SECOND FORM. 'bulk': how many values and letters a reading holds, each counted each time it is reached (what is shared counts as often as it is met; a slice's spare places count too). A statement '..UptoSaid' is the law's where the arguments, and the package variables that the reading takes, are together of bulk at most 1048576: NARROWER than '..Said'. Prove '..Said' where nothing that the law and all that it calls make is longer than what came in: it says more and counts as full. Else prove '..UptoSaid'. A law counts once. -/
mutual
def uptoBulk {H : Type} : DataW H → Nat
  | .lit (.string bytes) => bytes.length + 1
  | .lit _ => 1
  | .nil => 1
  | .ptr d => uptoBulk d + 1
  | .slice elems spare => uptoBulkAll elems + uptoBulkAll spare + 1
  | .agg parts => uptoBulkAll parts + 1
  | .iface _ d => uptoBulk d + 1
  | .map entries => uptoBulkEntries entries + 1
  | .held _ => 1
def uptoBulkAll {H : Type} : List (DataW H) → Nat
  | [] => 0
  | d :: r => uptoBulk d + uptoBulkAll r
def uptoBulkEntries {H : Type} : List (Lit × DataW H) → Nat
  | [] => 0
  | x :: r => uptoBulkEntry x + uptoBulkEntries r
def uptoBulkEntry {H : Type} : Lit × DataW H → Nat
  | (.string bytes, d) => bytes.length + uptoBulk d + 1
  | (_, d) => uptoBulk d + 1
 end
def uptoSmall : (H : Type) → List (DataW H) → Bool := fun _ ds => decide (uptoBulkAll ds ≤ 1048576)
def OpenSpec.upto (s : _root_.Go.ChangeSpec) : _root_.Go.OpenSpec := { _root_.Go.OpenSpec.ofChange s with cond := some uptoSmall }

/-- 'fordlaw19.RelayGoes', WHERE WHAT IT READS IS OF BULK AT MOST 1048576: true; the input reads as it did. -/
def relayGoesUptoRow : OpenClaim := { program := "ytemmfbedchfekaa", sum := "8e3998531811c653561f7b38154fecdbf322af428a5de89ef58370193dd9ffd8", func := "ford/fordlaw19.RelayGoes", spec := "relayGoes", unfollowed := true, recurses := true, apart := false, narrowed := true }
def RelayGoesUptoSaid : Prop := relayGoesUptoRow.holds Try.pinned (OpenSpec.upto relayGoesSpec)

/-- 'fordlaw19.RelayNever', WHERE WHAT IT READS IS OF BULK AT MOST 1048576: true; the input reads as it did. -/
def relayNeverUptoRow : OpenClaim := { program := "ytemmfbedchfekaa", sum := "8e3998531811c653561f7b38154fecdbf322af428a5de89ef58370193dd9ffd8", func := "ford/fordlaw19.RelayNever", spec := "relayNever", unfollowed := true, recurses := true, apart := false, narrowed := true }
def RelayNeverUptoSaid : Prop := relayNeverUptoRow.holds Try.pinned (OpenSpec.upto relayNeverSpec)

/-- 'fordlaw19.RelayLearns', WHERE WHAT IT READS IS OF BULK AT MOST 1048576: true; the input reads as it did. -/
def relayLearnsUptoRow : OpenClaim := { program := "ytemmfbedchfekaa", sum := "8e3998531811c653561f7b38154fecdbf322af428a5de89ef58370193dd9ffd8", func := "ford/fordlaw19.RelayLearns", spec := "relayLearns", unfollowed := true, recurses := true, apart := false, narrowed := true }
def RelayLearnsUptoSaid : Prop := relayLearnsUptoRow.holds Try.pinned (OpenSpec.upto relayLearnsSpec)

/-- 'fordlaw19.RelayAlone', WHERE WHAT IT READS IS OF BULK AT MOST 1048576: true; the input reads as it did. -/
def relayAloneUptoRow : OpenClaim := { program := "ytemmfbedchfekaa", sum := "8e3998531811c653561f7b38154fecdbf322af428a5de89ef58370193dd9ffd8", func := "ford/fordlaw19.RelayAlone", spec := "relayAlone", unfollowed := true, recurses := true, apart := false, narrowed := true }
def RelayAloneUptoSaid : Prop := relayAloneUptoRow.holds Try.pinned (OpenSpec.upto relayAloneSpec)

/-- 'fordlaw19.RelayAgain', WHERE WHAT IT READS IS OF BULK AT MOST 1048576: true; the input reads as it did. -/
def relayAgainUptoRow : OpenClaim := { program := "ytemmfbedchfekaa", sum := "8e3998531811c653561f7b38154fecdbf322af428a5de89ef58370193dd9ffd8", func := "ford/fordlaw19.RelayAgain", spec := "relayAgain", unfollowed := true, recurses := true, apart := false, narrowed := true }
def RelayAgainUptoSaid : Prop := relayAgainUptoRow.holds Try.pinned (OpenSpec.upto relayAgainSpec)

end Rows
end Go.Proofs.Ytemmfbedchfekaa
