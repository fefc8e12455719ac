/- The selection: what it leaves in a port. No statement is proved here. -/
import Derived.Test.YthfoacgdkoijeaaSelJ
namespace Go.Proofs.Ythfoacgdkoijeaa
open Go.RowKit Go.BigFrame Go.WideShapes Go.ChangeShapes Go.Deep
set_option linter.unusedVariables false
set_option linter.unusedSimpArgs false

theorem s_port_ne {B : Br} {n k : Nat} {l : List Value} (hl : l.length = 89) (hn : n * 89 + 89 ≤ B.ps.length) (hne : k ≠ n) : port (B.setPort n l).ps k = port B.ps k := by
  apply List.ext_getElem?
  intro i
  by_cases hi : i < 89
  · rw [port_at hi, port_at hi, setPort_at hl hn, if_neg (by omega)]
  · rw [List.getElem?_eq_none (by simp [port]; omega), List.getElem?_eq_none (by simp [port]; omega)]
theorem psel_len {D : Br} (ho : D.ok) {n : Nat} (hn : n ≤ D.np) : (psel D n).ps.length = D.ps.length := by
  rw [(psel_ok ho n hn).len, psel_np, ho.len]
/-- Behind n rounds the first n ports are done. -/
theorem psel_port {D : Br} (ho : D.ok) : ∀ n, n ≤ D.np → ∀ k, k < D.np → port (psel D n).ps k = if k < n then stL D k (port D.ps k) else port D.ps k
  | 0, _, k, _ => by rw [if_neg (by omega)]; rfl
  | n + 1, hn, k, hk => by
    have ih := psel_port ho n (by omega)
    have okn := psel_ok ho n (by omega)
    have hnp : n < (psel D n).np := by rw [psel_np]; omega
    have hl : (stL D n (port (psel D n).ps n)).length = 89 := tpL (stL_typed ho (br_typed okn hnp))
    show port ((psel D n).setPort n (stL D n (port (psel D n).ps n))).ps k = _
    by_cases e : k = n
    · subst e
      rw [s_port_setPort hl (len89 okn hnp), if_pos (by omega), ih k (by omega), if_neg (by omega)]
    · rw [s_port_ne hl (len89 okn hnp) e, ih k hk]
      by_cases e2 : k < n
      · rw [if_pos e2, if_pos (by omega)]
      · rw [if_neg e2, if_neg (by omega)]
theorem sI_set_ne {L : List Value} {i j : Nat} {v : Value} (h : i ≠ j) : pI (L.set i v) j = pI L j := by unfold pI; rw [get_ne h]
theorem sB_set_ne {L : List Value} {i j : Nat} {v : Value} (h : i ≠ j) : pB (L.set i v) j = pB L j := by unfold pB; rw [get_ne h]
theorem sI_set_same {L : List Value} {j : Nat} {K : IntKind} {z : Int} (h : j < L.length) : pI (L.set j (.int K z)) j = z := by unfold pI; simp [h]
theorem sB_set_same {L : List Value} {j : Nat} {z : Bool} (h : j < L.length) : pB (L.set j (.bool z)) j = z := by unfold pB; simp [h]
theorem sI_setL_out {L vs : List Value} {i j : Nat} (h : i + vs.length ≤ L.length) (h2 : j < i ∨ i + vs.length ≤ j) : pI (setL L i vs) j = pI L j := by unfold pI; rw [setL_at h, if_neg (by omega)]
theorem sI_setL_in {L vs : List Value} {i j : Nat} (h : i + vs.length ≤ L.length) (h2 : i ≤ j) (h3 : j < i + vs.length) : pI (setL L i vs) j = pI vs (j - i) := by unfold pI; rw [setL_at h, if_pos (by omega)]
theorem dsL_I {a b : Bool} {M : List Value} {j : Nat} (h88 : j ≠ 88) (h50 : j ≠ 50) : pI (dsL a b M) j = pI M j := by
  cases a <;> cases b <;> simp only [dsL] <;> repeat rw [sI_set_ne (by omega)]
/-- What is chosen touches the role and one flag alone. -/
theorem chL_I {k : Nat} {rp id : Int} {L : List Value} {j : Nat} (h88 : j ≠ 88) (h50 : j ≠ 50) : pI (chL k rp id L) j = pI L j := by
  unfold chL
  split
  · rw [sI_set_ne (by omega)]
  · split
    · split
      · rw [sI_set_ne (by omega), sI_set_ne (by omega)]
      · rw [dsL_I h88 h50, sI_set_ne (by omega)]
    · split
      · rw [dsL_I h88 h50, sI_set_ne (by omega)]
      · split
        · rw [dsL_I h88 h50]
        · rfl
theorem stL_I {D : Br} {k : Nat} {L : List Value} {j : Nat} (h88 : j ≠ 88) (h50 : j ≠ 50) (h44 : j ≠ 44) : pI (stL D k L) j = pI (tellL D L) j := by
  unfold stL
  rw [sI_set_ne (by omega), chL_I h88 h50]
theorem tellL_out {D : Br} {L : List Value} (hl : L.length = 89) {j : Nat} (h1 : j < 73 ∨ 85 < j ∨ (77 < j ∧ j < 82)) : pI (tellL D L) j = pI L j := by
  unfold tellL
  rw [sI_set_ne (by omega), sI_setL_out (by rw [setL_len (by rw [hl]; exact (by decide : 73 + 5 ≤ 89)), hl]; exact (by decide : 82 + 4 ≤ 89)) (by simp; omega), sI_setL_out (by rw [hl]; exact (by decide : 73 + 5 ≤ 89)) (by simp; omega)]
theorem tellL_73 {D : Br} {L : List Value} (hl : L.length = 89) : pI (tellL D L) 73 = D.hi 7 := by
  unfold tellL
  rw [sI_set_ne (by decide), sI_setL_out (by rw [setL_len (by rw [hl]; exact (by decide : 73 + 5 ≤ 89)), hl]; exact (by decide : 82 + 4 ≤ 89)) (by simp), sI_setL_in (by rw [hl]; exact (by decide : 73 + 5 ≤ 89)) (by decide) (by exact (by decide : 73 < 73 + 5))]
  rfl
theorem tellL_74 {D : Br} {L : List Value} (hl : L.length = 89) : pI (tellL D L) 74 = D.hi 8 := by
  unfold tellL
  rw [sI_set_ne (by decide), sI_setL_out (by rw [setL_len (by rw [hl]; exact (by decide : 73 + 5 ≤ 89)), hl]; exact (by decide : 82 + 4 ≤ 89)) (by simp), sI_setL_in (by rw [hl]; exact (by decide : 73 + 5 ≤ 89)) (by decide) (by exact (by decide : 74 < 73 + 5))]
  rfl
theorem tellL_75 {D : Br} {L : List Value} (hl : L.length = 89) : pI (tellL D L) 75 = D.hi 0 := by
  unfold tellL
  rw [sI_set_ne (by decide), sI_setL_out (by rw [setL_len (by rw [hl]; exact (by decide : 73 + 5 ≤ 89)), hl]; exact (by decide : 82 + 4 ≤ 89)) (by simp), sI_setL_in (by rw [hl]; exact (by decide : 73 + 5 ≤ 89)) (by decide) (by exact (by decide : 75 < 73 + 5))]
  rfl
theorem tellL_76 {D : Br} {L : List Value} (hl : L.length = 89) : pI (tellL D L) 76 = pI L 0 := by
  unfold tellL
  rw [sI_set_ne (by decide), sI_setL_out (by rw [setL_len (by rw [hl]; exact (by decide : 73 + 5 ≤ 89)), hl]; exact (by decide : 82 + 4 ≤ 89)) (by simp), sI_setL_in (by rw [hl]; exact (by decide : 73 + 5 ≤ 89)) (by decide) (by exact (by decide : 76 < 73 + 5))]
  rfl
theorem tellL_77 {D : Br} {L : List Value} (hl : L.length = 89) : pI (tellL D L) 77 = 0 := by
  unfold tellL
  rw [sI_set_ne (by decide), sI_setL_out (by rw [setL_len (by rw [hl]; exact (by decide : 73 + 5 ≤ 89)), hl]; exact (by decide : 82 + 4 ≤ 89)) (by simp), sI_setL_in (by rw [hl]; exact (by decide : 73 + 5 ≤ 89)) (by decide) (by exact (by decide : 77 < 73 + 5))]
  rfl
theorem tellL_82 {D : Br} {L : List Value} (hl : L.length = 89) : pI (tellL D L) 82 = D.hi 13 := by
  unfold tellL
  rw [sI_set_ne (by decide), sI_setL_in (by rw [setL_len (by rw [hl]; exact (by decide : 73 + 5 ≤ 89)), hl]; exact (by decide : 82 + 4 ≤ 89)) (by decide) (by exact (by decide : 82 < 82 + 4))]
  rfl
theorem tellL_83 {D : Br} {L : List Value} (hl : L.length = 89) : pI (tellL D L) 83 = D.hi 14 := by
  unfold tellL
  rw [sI_set_ne (by decide), sI_setL_in (by rw [setL_len (by rw [hl]; exact (by decide : 73 + 5 ≤ 89)), hl]; exact (by decide : 82 + 4 ≤ 89)) (by decide) (by exact (by decide : 83 < 82 + 4))]
  rfl
theorem tellL_84 {D : Br} {L : List Value} (hl : L.length = 89) : pI (tellL D L) 84 = D.hi 4 := by
  unfold tellL
  rw [sI_set_same (by rw [setL_len (by rw [setL_len (by rw [hl]; exact (by decide : 73 + 5 ≤ 89)), hl]; exact (by decide : 82 + 4 ≤ 89)), setL_len (by rw [hl]; exact (by decide : 73 + 5 ≤ 89)), hl]; decide)]
theorem tellL_85 {D : Br} {L : List Value} (hl : L.length = 89) : pI (tellL D L) 85 = D.hi 16 := by
  unfold tellL
  rw [sI_set_ne (by decide), sI_setL_in (by rw [setL_len (by rw [hl]; exact (by decide : 73 + 5 ≤ 89)), hl]; exact (by decide : 82 + 4 ≤ 89)) (by decide) (by exact (by decide : 85 < 82 + 4))]
  rfl

end Go.Proofs.Ythfoacgdkoijeaa
