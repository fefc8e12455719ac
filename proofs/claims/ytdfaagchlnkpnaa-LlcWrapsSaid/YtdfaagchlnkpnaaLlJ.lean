/- A message with another kind. No statement is proved here. -/
import Derived.Test.YtdfaagchlnkpnaaLlI
namespace Go.Proofs.Ytdfaagchlnkpnaa
open Go.RowKit Go.BigFrame Go.WideShapes Go.ChangeShapes Go.Deep
set_option linter.unusedVariables false
set_option linter.unusedSimpArgs false

theorem ok_kd (q : Mg) (hq : q.ok) (k : Int) (hk : -9223372036854775808 ≤ k ∧ k ≤ 9223372036854775807) : Mg.ok { q with kd := k } := { hq with kd := hk }

end Go.Proofs.Ytdfaagchlnkpnaa
