/- One cell set at each of the first ports. No statement is proved here. -/
import Derived.Test.YtnblchilgaimhaaRg
namespace Go.Proofs.Ytnblchilgaimhaa
open Go.RowKit Go.BigFrame Go.WideShapes Go.ChangeShapes Go.Deep
set_option linter.unusedVariables false
set_option linter.unusedSimpArgs false

/-- Cell j of the first n ports set to what v says. -/
def Br.upd (B : Br) (j : Nat) (v : Nat → Value) : Nat → Br
  | 0 => B
  | n + 1 => (B.upd j v n).setp n j (v n)
theorem upd_np (B : Br) (j : Nat) (v : Nat → Value) : ∀ n, (B.upd j v n).np = B.np
  | 0 => rfl
  | n + 1 => upd_np B j v n
theorem upd_hd (B : Br) (j : Nat) (v : Nat → Value) : ∀ n, (B.upd j v n).hd = B.hd
  | 0 => rfl
  | n + 1 => upd_hd B j v n
theorem upd_len (B : Br) (j : Nat) (v : Nat → Value) : ∀ n, (B.upd j v n).ps.length = B.ps.length
  | 0 => rfl
  | n + 1 => by
    show ((B.upd j v n).setp n j (v n)).ps.length = _
    rw [len_setp]
    exact upd_len B j v n
theorem upd_rest (B : Br) (j : Nat) (v : Nat → Value) : ∀ n, (B.upd j v n).no = B.no ∧ (B.upd j v n).os = B.os ∧ (B.upd j v n).nf = B.nf ∧ (B.upd j v n).fl = B.fl
  | 0 => ⟨rfl, rfl, rfl, rfl⟩
  | n + 1 => upd_rest B j v n
theorem upd_ok {B : Br} (ho : B.ok) {j : Nat} (hj : j < 89) {v : Nat → Value} (hv : ∀ i c, PL[j]? = some c → cellOk c (v i)) : ∀ n, n ≤ B.np → (B.upd j v n).ok
  | 0, _ => ho
  | n + 1, h => (upd_ok ho hj hv n (by omega)).setp (by rw [upd_np]; omega) hj (hv n)
theorem upd_at (B : Br) {j : Nat} (hj : j < 89) (v : Nat → Value) : ∀ n, n * 89 ≤ B.ps.length → ∀ i, (B.upd j v n).ps[i]? = if i % 89 = j ∧ i / 89 < n then some (v (i / 89)) else B.ps[i]?
  | 0, _, i => by rw [if_neg (by omega)]; rfl
  | n + 1, h, i => by
    have ih := upd_at B hj v n (by omega) i
    show ((B.upd j v n).ps.set (n * 89 + j) (v n))[i]? = _
    by_cases e : i = n * 89 + j
    · subst e
      rw [List.getElem?_set_self (by rw [upd_len]; omega), if_pos (by omega), show (n * 89 + j) / 89 = n by omega]
    · rw [List.getElem?_set_ne (by omega), ih]
      by_cases a : i % 89 = j ∧ i / 89 < n
      · rw [if_pos a, if_pos (by omega)]
      · rw [if_neg a, if_neg (by omega)]
theorem upd_cell (B : Br) {j : Nat} (hj : j < 89) (v : Nat → Value) {n : Nat} (h : n * 89 ≤ B.ps.length) {k j' : Nat} (hj' : j' < 89) : (B.upd j v n).ps[k * 89 + j']? = if j' = j ∧ k < n then some (v k) else B.ps[k * 89 + j']? := by
  rw [upd_at B hj v n h, show (k * 89 + j') % 89 = j' by omega, show (k * 89 + j') / 89 = k by omega]
theorem upd_gi (B : Br) {j : Nat} (hj : j < 89) (z : Nat → Int) {n : Nat} (h : n * 89 ≤ B.ps.length) {k : Nat} (hk : k < n) : (B.upd j (fun i => .int .i64 (z i)) n).gi k j = z k := by
  unfold Br.gi
  rw [upd_cell B hj _ h hj, if_pos ⟨rfl, hk⟩]
theorem upd_gb (B : Br) {j : Nat} (hj : j < 89) (z : Nat → Bool) {n : Nat} (h : n * 89 ≤ B.ps.length) {k : Nat} (hk : k < n) : (B.upd j (fun i => .bool (z i)) n).gb k j = z k := by
  unfold Br.gb
  rw [upd_cell B hj _ h hj, if_pos ⟨rfl, hk⟩]
theorem upd_gi_ne (B : Br) {j : Nat} (hj : j < 89) (v : Nat → Value) {n : Nat} (h : n * 89 ≤ B.ps.length) {k j' : Nat} (hj' : j' < 89) (hne : j' ≠ j) : (B.upd j v n).gi k j' = B.gi k j' := by
  unfold Br.gi
  rw [upd_cell B hj _ h hj', if_neg (by omega)]
theorem upd_gb_ne (B : Br) {j : Nat} (hj : j < 89) (v : Nat → Value) {n : Nat} (h : n * 89 ≤ B.ps.length) {k j' : Nat} (hj' : j' < 89) (hne : j' ≠ j) : (B.upd j v n).gb k j' = B.gb k j' := by
  unfold Br.gb
  rw [upd_cell B hj _ h hj', if_neg (by omega)]
/-- A cell set at a port, read at another one. -/
theorem gi_setp_port (B : Br) {k j k' j' : Nat} (v : Value) (h : k ≠ k') (hj : j < 89) (hj' : j' < 89) : (B.setp k j v).gi k' j' = B.gi k' j' := by
  unfold Br.gi
  rw [cell_setp_port _ _ _ _ _ _ h hj hj']
theorem gb_setp_port (B : Br) {k j k' j' : Nat} (v : Value) (h : k ≠ k') (hj : j < 89) (hj' : j' < 89) : (B.setp k j v).gb k' j' = B.gb k' j' := by
  unfold Br.gb
  rw [cell_setp_port _ _ _ _ _ _ h hj hj']

end Go.Proofs.Ytnblchilgaimhaa
