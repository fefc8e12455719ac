/- The number that a piece of a frame is, by the program. No statement is proved here. -/
import Derived.Test.YtdfaagchlnkpnaaLlB
import Derived.Test.YtdfaagchlnkpnaaBpF
namespace Go.Proofs.Ytdfaagchlnkpnaa
open Go.RowKit Go.BigFrame Go.WideShapes Go.ChangeShapes Go.Deep
set_option linter.unusedVariables false
set_option linter.unusedSimpArgs false

set_option maxRecDepth 100000 in
theorem num_any (v : Value) (xs : List Int) (w : World) (h : IsInts w .u8 v xs) (hx : ∀ x ∈ xs, 0 ≤ x ∧ x < 256) (h0 : 1 ≤ xs.length) (h8 : xs.length ≤ 8) : Calls Try.prog 50 #[v] w fun e w' =>
    e = .returned (.int .u64 (num xs)) ∧ Ext w w' := by
  obtain ⟨av, cv, hv, -, -⟩ := h.form
  obtain ⟨n, hn⟩ : ∃ n, xs.length = n := ⟨_, rfl⟩
  rw [hn] at hv
  subst hv
  have HN := Lib.hid hn
  clear hn
  go_enter Try.func50, Try.ntmps50
  go_wp2_with fail
  refine (new_any _ xs _ h hx (by omega)).mono ?_
  rintro e z1 ⟨Q, rfl, nrd, hQ, hx1⟩
  go_wp2_with fail
  refine (take_g Q xs false n _ nrd).mono ?_
  rintro e z2 ⟨rfl, nrd2, hm⟩
  have E2 : Ext w z2 := Ext.mutE hx1 hm (fun n hn h => by have h2 : n = Q := h; omega)
  have hval : tkV xs false n = num xs := by
    have hl := HN.out
    unfold tkV
    rw [if_pos ⟨(fits_iff _).2 ⟨by omega, by omega⟩, rfl, by omega⟩, List.take_of_length_le (by omega)]
  rw [hval]
  clear nrd2 hm
  go_wp2_with fail
  go_ret
  exact ⟨rfl, E2⟩

end Go.Proofs.Ytdfaagchlnkpnaa
