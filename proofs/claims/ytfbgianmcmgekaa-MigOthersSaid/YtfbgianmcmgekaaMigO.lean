/- The migration machine turns one port alone. No statement is proved here. -/
import Derived.Test.YtfbgianmcmgekaaMigL
import Derived.Test.YtfbgianmcmgekaaBrO
namespace Go.Proofs.Ytfbgianmcmgekaa
open Go.RowKit Go.WideShapes Go.ChangeShapes Go.Deep
set_option linter.unusedVariables false

theorem migF_only (B : Br) (k : Nat) : OnlyP k B (migF B k).2 := by
  have hL : OnlyP k B (migListen B k) := (((OnlyP.refl k B).setp (by decide) _).setp (by decide) _).setp (by decide) _
  have hB : OnlyP k B (migBegin B k) := ((((OnlyP.refl k B).setp (by decide) _).setp (by decide) _).setp (by decide) _).setp (by decide) _
  have hY : OnlyP k B (migYield B k) := (((OnlyP.refl k B).setp (by decide) _).setp (by decide) _).setp (by decide) _
  unfold migF
  split <;> (try split) <;> (try split) <;> (try split) <;> first | exact OnlyP.refl k B | exact hL | exact hB | exact hY

end Go.Proofs.Ytfbgianmcmgekaa
