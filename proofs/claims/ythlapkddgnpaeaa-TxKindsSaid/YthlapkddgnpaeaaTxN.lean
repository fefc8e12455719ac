/- What TxVec sets, and what is sent then. No statement is proved here. -/
import Derived.Test.YthlapkddgnpaeaaTxM
namespace Go.Proofs.Ythlapkddgnpaeaa
open Go.RowKit Go.BigFrame Go.WideShapes Go.ChangeShapes Go.Deep
set_option linter.unusedVariables false
set_option linter.unusedSimpArgs false

def tv0 (B : Br) (k : Nat) : Br := (((((B.setp k 44 (.bool true)).setp k 50 (.bool false)).setp k 31 (.bool true)).setp k 8 (.int .i64 1)).setp k 14 (.int .i64 0))
theorem tv0_ok {B : Br} (ho : B.ok) {k : Nat} (hk : k < B.np) : (tv0 B k).ok := (((((ho.setB (k := k) hk 44 true rfl).setB (k := k) hk 50 false rfl).setB (k := k) hk 31 true rfl).setI (k := k) hk 8 .i64 1 rfl (by decide)).setI (k := k) hk 14 .i64 0 rfl (by decide))
theorem tv0_len (B : Br) (k : Nat) : (tv0 B k).ps.length = B.ps.length := by unfold tv0; simp only [len_setp]
theorem tv0_cells {B : Br} {k : Nat} (h89 : k * 89 + 89 ≤ B.ps.length) : (tv0 B k).gb k 44 = true ∧ (tv0 B k).gb k 50 = false ∧ (tv0 B k).gb k 31 = true ∧ (tv0 B k).gi k 8 = 1 ∧ (tv0 B k).gi k 14 = 0 ∧ (tv0 B k).gb k 45 = B.gb k 45 ∧ (tv0 B k).gi k 87 = B.gi k 87 := by
  unfold tv0
  refine ⟨?_, ?_, ?_, ?_, ?_, ?_, ?_⟩ <;> simp [gb_at, gi_at, gi_setp_ne, gb_setp_ne, len_setp, h89]
theorem tv_gi (B : Br) (k j : Nat) (h : j ≠ 8 ∧ j ≠ 14 ∧ j ≠ 44 ∧ j ≠ 50 ∧ j ≠ 31) : (tv0 B k).gi k j = B.gi k j := by
  unfold tv0
  rw [gi_setp_ne _ _ _ _ _ (by omega), gi_setp_ne _ _ _ _ _ (by omega), gi_setp_ne _ _ _ _ _ (by omega), gi_setp_ne _ _ _ _ _ (by omega), gi_setp_ne _ _ _ _ _ (by omega)]
theorem tv_gb (B : Br) (k j : Nat) (h : j ≠ 8 ∧ j ≠ 14 ∧ j ≠ 44 ∧ j ≠ 50 ∧ j ≠ 31) : (tv0 B k).gb k j = B.gb k j := by
  unfold tv0
  rw [gb_setp_ne _ _ _ _ _ (by omega), gb_setp_ne _ _ _ _ _ (by omega), gb_setp_ne _ _ _ _ _ (by omega), gb_setp_ne _ _ _ _ _ (by omega), gb_setp_ne _ _ _ _ _ (by omega)]
theorem tv_msg (B : Br) (k : Nat) (kd : Int) : txMsg (tv0 B k) k kd = txMsg B k kd := by
  unfold txMsg
  simp only [tv_gi B k 13 (by decide), tv_gi B k 73 (by decide), tv_gi B k 74 (by decide), tv_gi B k 75 (by decide), tv_gi B k 76 (by decide), tv_gi B k 82 (by decide), tv_gi B k 83 (by decide), tv_gi B k 84 (by decide), tv_gi B k 85 (by decide), tv_gi B k 87 (by decide),
    tv_gb B k 48 (by decide), tv_gb B k 34 (by decide), tv_gb B k 22 (by decide), tv_gb B k 29 (by decide), tv_gb B k 27 (by decide)]
theorem tv_no {B : Br} {k : Nat} (h89 : k * 89 + 89 ≤ B.ps.length) (ht : txTells (B.gb k 45) (B.gi k 87) = false) : txF (tv0 B k) k = (false, tv0 B k) := by
  obtain ⟨a, b, c, d, e, f, g⟩ := tv0_cells h89
  have hs : txSel (tv0 B k) k = 0 := by
    unfold txSel
    rw [a, b, c, d, e, f, g, ht]
    rfl
  unfold txF
  rw [hs]
  rfl
theorem tv_yes {B : Br} {k : Nat} (h89 : k * 89 + 89 ≤ B.ps.length) (ht : txTells (B.gb k 45) (B.gi k 87) = true) (h6 : 0 < B.hi 6) : txF (tv0 B k) k = (true, txNews (tv0 B k) k) := by
  obtain ⟨a, b, c, d, e, f, g⟩ := tv0_cells h89
  have h6' : (tv0 B k).hi 6 = B.hi 6 := by unfold Br.hi tv0; simp only [hd_setp]
  have hs : txSel (tv0 B k) k = 2 := by
    unfold txSel
    rw [a, b, c, d, e, f, g, ht, h6']
    simp [h6]
  unfold txF
  rw [hs]
  rfl
theorem txSend_os (Z : Br) (k : Nat) (kd : Int) : (txSend Z k kd).os = Z.os ++ sentL k (txMsg Z k kd) := by unfold txSend; split <;> rfl
theorem tv_os {B : Br} {k : Nat} (h89 : k * 89 + 89 ≤ B.ps.length) : (txNews (tv0 B k) k).os = B.os ++ sentL k (txMsg B k (txKind (B.gb k 45) (B.gi k 87))) := by
  obtain ⟨a, b, c, d, e, f, g⟩ := tv0_cells h89
  show (txSend (tv0 B k) k (txKind ((tv0 B k).gb k 45) ((tv0 B k).gi k 87))).os = _
  rw [txSend_os, f, g, tv_msg]
  rfl
/-- What was sent last, in memory. -/
theorem sent_range {w : World} {g3 : Nat} {os : List Value} {n : Nat} (hl : os.length = n * 18) {k : Int} {m : Array Value} (h : ∀ j v, (os ++ sentL k m)[j]? = some v → w.cell? ⟨g3, j, none⟩ = some v) {l : List Value} (hm : m = l.toArray) : w.rangeAt g3 (n * 18 + 1) l := fun j v hv => by
  refine h (n * 18 + 1 + j) v ?_
  rw [List.getElem?_append_right (by omega), hl, show n * 18 + 1 + j - n * 18 = j + 1 by omega, hm]
  exact hv
theorem tcn_eq (w : World) : (binOp BinOp.eql 43 (.agg #[.int .i64 1, .bool false, .bool false, .bool false, .bool false, .bool false, .bool false, .int .i64 0, .int .u64 0, .int .u32 0, .int .u64 0, .int .u16 0, .int .u16 0, .int .i64 0, .int .i64 0, .int .i64 0, .int .i64 0]) (.agg (MZ.setIfInBounds 0 (.int .i64 1)))).run Try.prog w = .ok (.bool true) w := by kernel_rfl
theorem msg_run1 (w : World) : (Instr.build 43 #[(0, .int .i64 1)]).run Try.prog w = .ok (.agg #[.int .i64 1, .bool false, .bool false, .bool false, .bool false, .bool false, .bool false, .int .i64 0, .int .u64 0, .int .u32 0, .int .u64 0, .int .u16 0, .int .u16 0, .int .i64 0, .int .i64 0, .int .i64 0, .int .i64 0]) w := by kernel_rfl
end Go.Proofs.Ythlapkddgnpaeaa
