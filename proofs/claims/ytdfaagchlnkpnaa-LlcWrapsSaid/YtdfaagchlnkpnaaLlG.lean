/- A frame's length, its bytes, its sender. No statement is proved here. -/
import Derived.Test.YtdfaagchlnkpnaaLlF
namespace Go.Proofs.Ytdfaagchlnkpnaa
open Go.RowKit Go.BigFrame Go.WideShapes Go.ChangeShapes Go.Deep
set_option linter.unusedVariables false
set_option linter.unusedSimpArgs false

theorem wrapL_len (s : Int) (q : Mg) (hk : q.kd = 0 ∨ q.kd = 1 ∨ q.kd = 2) : (wrapL s q).length = 60 := by
  have hn := encL_le q
  have := wrap_parts s q hk []
  rw [List.append_nil] at this
  rw [this]
  simp [bts_len, zrs]
  omega
theorem wrapL_bytes (s : Int) (q : Mg) (hk : q.kd = 0 ∨ q.kd = 1 ∨ q.kd = 2) : ∀ x ∈ wrapL s q, 0 ≤ x ∧ x < 256 := by
  have hn := encL_le q
  have := wrap_parts s q hk []
  rw [List.append_nil] at this
  rw [this]
  intro x hx
  simp only [List.mem_append] at hx
  rcases hx with h | h | h | h | h | h | h
  · revert h; revert x; decide
  · exact bts_rg _ _ x h
  · simp at h; rcases h with h | h <;> omega
  · revert h; revert x; decide
  · exact enc_bytes q x h
  · have := List.eq_of_mem_replicate h; omega
  · simp at h
theorem low_shift (s : Int) (hs : 0 ≤ s ∧ s < 18446744073709551616) : low48 s = s * 65536 % 18446744073709551616 / 65536 := by
  unfold low48
  omega

end Go.Proofs.Ytdfaagchlnkpnaa
