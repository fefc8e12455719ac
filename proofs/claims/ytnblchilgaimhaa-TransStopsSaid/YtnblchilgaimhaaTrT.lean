/- What the laws of role transitions set, and the steps behind it. No statement is proved here. -/
import Derived.Test.YtnblchilgaimhaaTrR
namespace Go.Proofs.Ytnblchilgaimhaa
open Go.RowKit Go.BigFrame Go.WideShapes Go.ChangeShapes Go.Deep
set_option linter.unusedVariables false
set_option linter.unusedSimpArgs false

theorem setr_gb {B : Br} {k j : Nat} {l : List Value} {i : Nat} {z : Bool} (h : k * 89 + 89 ≤ B.ps.length) (hj : j + l.length ≤ 89) (hi : j ≤ i) (hz : l[i - j]? = some (.bool z)) : (B.setr k j l).gb k i = z := by
  have hl : i - j < l.length := (List.getElem?_eq_some_iff.1 hz).1
  unfold Br.gb
  rw [setr_at h hj, if_pos (by omega), show k * 89 + i - (k * 89 + j) = i - j by omega, hz]
theorem setr_gi {B : Br} {k j : Nat} {l : List Value} {i : Nat} (h : k * 89 + 89 ≤ B.ps.length) (hj : j + l.length ≤ 89) (hi : i < j ∨ j + l.length ≤ i) : (B.setr k j l).gi k i = B.gi k i := by
  unfold Br.gi
  rw [setr_at h hj, if_neg (by omega)]
theorem setr_gb_out {B : Br} {k j : Nat} {l : List Value} {i : Nat} (h : k * 89 + 89 ≤ B.ps.length) (hj : j + l.length ≤ 89) (hi : i < j ∨ j + l.length ≤ i) : (B.setr k j l).gb k i = B.gb k i := by
  unfold Br.gb
  rw [setr_at h hj, if_neg (by omega)]
theorem setr_len {B : Br} {k j : Nat} {l : List Value} (h : k * 89 + 89 ≤ B.ps.length) (hj : j + l.length ≤ 89) : (B.setr k j l).ps.length = B.ps.length := len_setr h hj
theorem wpList_store_midN {P : Program} {ops : Array Oper} {rest : List Oper} {op : Oper} {a : Act} {w : World} {Q : Exit → Act → World → Prop} (hgd : op.guard = none) (hdst : op.dst = none) (ty : TypeId) (x y : Operand) (ho : op.op = .store ty x y)
    (b o : Nat) (cells : Array Value) (hx : a.eval x = .pointer (some ⟨b, o, none⟩)) (hy : a.eval y = .agg cells) (ht : w.there b o cells.size) (hi : (P.info? ty).map (·.size) = some cells.size) (h1 : cells.all (·.oneCell') = true)
    (h : ∀ w' : World, w' = w.setCells b o cells.toList → wpList P ops Q rest a w') : wpList P ops Q (op :: rest) a w :=
  wpList_store_mid hgd ty x y ho b o cells hx hy ht hi h1 (by rw [show a.put op.dst undef = a by rw [hdst]; rfl]; exact h _ rfl)
def flags (l : List Nat) : List Value := (List.range 29).map fun j => .bool (l.contains j)
theorem flags_len (l : List Nat) : (flags l).length = 29 := by simp [flags]
theorem flags_size (l : List Nat) : (Try.prog.info? 49).map (·.size) = some (flags l).toArray.size := by rw [List.size_toArray, flags_len]; exact size_flags
theorem flags_one (l : List Nat) : (flags l).toArray.all (·.oneCell') = true := all_oneCell_toArray (fun v hv => by
  obtain ⟨j, _, rfl⟩ := List.mem_map.1 hv
  rfl)
theorem flags_typed {B : Br} (ho : B.ok) {k : Nat} (hk : k < B.np) (l : List Nat) : (B.setr k 22 (flags l)).ok := by
  refine ho.setr hk (by rw [flags_len]; decide) (fun i v hv c hc => ?_)
  have hi : i < 29 := by rw [← flags_len l]; exact (List.getElem?_eq_some_iff.1 hv).1
  have e : (flags l)[i]? = some (.bool (l.contains i)) := by simp [flags, hi]
  rw [e] at hv
  cases hv
  have e2 : PL[22 + i]? = some none := by
    rcases (by omega : i = 0 ∨ i = 1 ∨ i = 2 ∨ i = 3 ∨ i = 4 ∨ i = 5 ∨ i = 6 ∨ i = 7 ∨ i = 8 ∨ i = 9 ∨ i = 10 ∨ i = 11 ∨ i = 12 ∨ i = 13 ∨ i = 14 ∨ i = 15 ∨ i = 16 ∨ i = 17 ∨ i = 18 ∨ i = 19 ∨ i = 20 ∨ i = 21 ∨ i = 22 ∨ i = 23 ∨ i = 24 ∨ i = 25 ∨ i = 26 ∨ i = 27 ∨ i = 28) with rfl | rfl | rfl | rfl | rfl | rfl | rfl | rfl | rfl | rfl | rfl | rfl | rfl | rfl | rfl | rfl | rfl | rfl | rfl | rfl | rfl | rfl | rfl | rfl | rfl | rfl | rfl | rfl | rfl <;> rfl
  rw [e2] at hc
  cases hc
  exact ⟨_, rfl⟩

def op0 (B : Br) (k : Nat) : Br := ((((B.setr k 22 (flags [22, 1, 25, 23])).setp k 87 (.int .i64 4)).setp k 88 (.int .i64 4)).setp k 19 (.int .i64 3))
theorem op0_len {B : Br} {k : Nat} (h : k * 89 + 89 ≤ B.ps.length) : k * 89 + 89 ≤ (op0 B k).ps.length := by
  unfold op0
  simp only [len_setp]
  rw [setr_len h (by rw [flags_len]; decide)]
  exact h
theorem op0_np (B : Br) (k : Nat) : (op0 B k).np = B.np := by
  unfold op0
  simp only [trLearn, trFwd, np_setp, np_setr]
theorem op0_hd (B : Br) (k : Nat) : (op0 B k).hd = B.hd := by
  unfold op0
  simp only [trLearn, trFwd, hd_setp, hd_setr]
theorem op0_hi (B : Br) (k j : Nat) : (op0 B k).hi j = B.hi j := by
  unfold Br.hi
  rw [op0_hd]
theorem op0_22 {B : Br} {k : Nat} (h : k * 89 + 89 ≤ B.ps.length) : (op0 B k).gb k 22 = false := by
  unfold op0
  have h2 : k * 89 + 89 ≤ (B.setr k 22 (flags [22, 1, 25, 23])).ps.length := by rw [setr_len h (by rw [flags_len]; decide)]; exact h
  have h3 : (B.setr k 22 (flags [22, 1, 25, 23])).gb k 22 = false := setr_gb h (by rw [flags_len]; decide) (by decide) (by rfl)
  simp [gb_at, gi_at, gi_setp_ne, gb_setp_ne, len_setp, h2, h3]
theorem op0_23 {B : Br} {k : Nat} (h : k * 89 + 89 ≤ B.ps.length) : (op0 B k).gb k 23 = true := by
  unfold op0
  have h2 : k * 89 + 89 ≤ (B.setr k 22 (flags [22, 1, 25, 23])).ps.length := by rw [setr_len h (by rw [flags_len]; decide)]; exact h
  have h3 : (B.setr k 22 (flags [22, 1, 25, 23])).gb k 23 = true := setr_gb h (by rw [flags_len]; decide) (by decide) (by rfl)
  simp [gb_at, gi_at, gi_setp_ne, gb_setp_ne, len_setp, h2, h3]
theorem op0_24 {B : Br} {k : Nat} (h : k * 89 + 89 ≤ B.ps.length) : (op0 B k).gb k 24 = false := by
  unfold op0
  have h2 : k * 89 + 89 ≤ (B.setr k 22 (flags [22, 1, 25, 23])).ps.length := by rw [setr_len h (by rw [flags_len]; decide)]; exact h
  have h3 : (B.setr k 22 (flags [22, 1, 25, 23])).gb k 24 = false := setr_gb h (by rw [flags_len]; decide) (by decide) (by rfl)
  simp [gb_at, gi_at, gi_setp_ne, gb_setp_ne, len_setp, h2, h3]
theorem op0_26 {B : Br} {k : Nat} (h : k * 89 + 89 ≤ B.ps.length) : (op0 B k).gb k 26 = false := by
  unfold op0
  have h2 : k * 89 + 89 ≤ (B.setr k 22 (flags [22, 1, 25, 23])).ps.length := by rw [setr_len h (by rw [flags_len]; decide)]; exact h
  have h3 : (B.setr k 22 (flags [22, 1, 25, 23])).gb k 26 = false := setr_gb h (by rw [flags_len]; decide) (by decide) (by rfl)
  simp [gb_at, gi_at, gi_setp_ne, gb_setp_ne, len_setp, h2, h3]
theorem op0_27 {B : Br} {k : Nat} (h : k * 89 + 89 ≤ B.ps.length) : (op0 B k).gb k 27 = false := by
  unfold op0
  have h2 : k * 89 + 89 ≤ (B.setr k 22 (flags [22, 1, 25, 23])).ps.length := by rw [setr_len h (by rw [flags_len]; decide)]; exact h
  have h3 : (B.setr k 22 (flags [22, 1, 25, 23])).gb k 27 = false := setr_gb h (by rw [flags_len]; decide) (by decide) (by rfl)
  simp [gb_at, gi_at, gi_setp_ne, gb_setp_ne, len_setp, h2, h3]
theorem op0_28 {B : Br} {k : Nat} (h : k * 89 + 89 ≤ B.ps.length) : (op0 B k).gb k 28 = false := by
  unfold op0
  have h2 : k * 89 + 89 ≤ (B.setr k 22 (flags [22, 1, 25, 23])).ps.length := by rw [setr_len h (by rw [flags_len]; decide)]; exact h
  have h3 : (B.setr k 22 (flags [22, 1, 25, 23])).gb k 28 = false := setr_gb h (by rw [flags_len]; decide) (by decide) (by rfl)
  simp [gb_at, gi_at, gi_setp_ne, gb_setp_ne, len_setp, h2, h3]
theorem op0_29 {B : Br} {k : Nat} (h : k * 89 + 89 ≤ B.ps.length) : (op0 B k).gb k 29 = false := by
  unfold op0
  have h2 : k * 89 + 89 ≤ (B.setr k 22 (flags [22, 1, 25, 23])).ps.length := by rw [setr_len h (by rw [flags_len]; decide)]; exact h
  have h3 : (B.setr k 22 (flags [22, 1, 25, 23])).gb k 29 = false := setr_gb h (by rw [flags_len]; decide) (by decide) (by rfl)
  simp [gb_at, gi_at, gi_setp_ne, gb_setp_ne, len_setp, h2, h3]
theorem op0_32 {B : Br} {k : Nat} (h : k * 89 + 89 ≤ B.ps.length) : (op0 B k).gb k 32 = false := by
  unfold op0
  have h2 : k * 89 + 89 ≤ (B.setr k 22 (flags [22, 1, 25, 23])).ps.length := by rw [setr_len h (by rw [flags_len]; decide)]; exact h
  have h3 : (B.setr k 22 (flags [22, 1, 25, 23])).gb k 32 = false := setr_gb h (by rw [flags_len]; decide) (by decide) (by rfl)
  simp [gb_at, gi_at, gi_setp_ne, gb_setp_ne, len_setp, h2, h3]
theorem op0_33 {B : Br} {k : Nat} (h : k * 89 + 89 ≤ B.ps.length) : (op0 B k).gb k 33 = false := by
  unfold op0
  have h2 : k * 89 + 89 ≤ (B.setr k 22 (flags [22, 1, 25, 23])).ps.length := by rw [setr_len h (by rw [flags_len]; decide)]; exact h
  have h3 : (B.setr k 22 (flags [22, 1, 25, 23])).gb k 33 = false := setr_gb h (by rw [flags_len]; decide) (by decide) (by rfl)
  simp [gb_at, gi_at, gi_setp_ne, gb_setp_ne, len_setp, h2, h3]
theorem op0_34 {B : Br} {k : Nat} (h : k * 89 + 89 ≤ B.ps.length) : (op0 B k).gb k 34 = false := by
  unfold op0
  have h2 : k * 89 + 89 ≤ (B.setr k 22 (flags [22, 1, 25, 23])).ps.length := by rw [setr_len h (by rw [flags_len]; decide)]; exact h
  have h3 : (B.setr k 22 (flags [22, 1, 25, 23])).gb k 34 = false := setr_gb h (by rw [flags_len]; decide) (by decide) (by rfl)
  simp [gb_at, gi_at, gi_setp_ne, gb_setp_ne, len_setp, h2, h3]
theorem op0_42 {B : Br} {k : Nat} (h : k * 89 + 89 ≤ B.ps.length) : (op0 B k).gb k 42 = false := by
  unfold op0
  have h2 : k * 89 + 89 ≤ (B.setr k 22 (flags [22, 1, 25, 23])).ps.length := by rw [setr_len h (by rw [flags_len]; decide)]; exact h
  have h3 : (B.setr k 22 (flags [22, 1, 25, 23])).gb k 42 = false := setr_gb h (by rw [flags_len]; decide) (by decide) (by rfl)
  simp [gb_at, gi_at, gi_setp_ne, gb_setp_ne, len_setp, h2, h3]
theorem op0_44 {B : Br} {k : Nat} (h : k * 89 + 89 ≤ B.ps.length) : (op0 B k).gb k 44 = true := by
  unfold op0
  have h2 : k * 89 + 89 ≤ (B.setr k 22 (flags [22, 1, 25, 23])).ps.length := by rw [setr_len h (by rw [flags_len]; decide)]; exact h
  have h3 : (B.setr k 22 (flags [22, 1, 25, 23])).gb k 44 = true := setr_gb h (by rw [flags_len]; decide) (by decide) (by rfl)
  simp [gb_at, gi_at, gi_setp_ne, gb_setp_ne, len_setp, h2, h3]
theorem op0_45 {B : Br} {k : Nat} (h : k * 89 + 89 ≤ B.ps.length) : (op0 B k).gb k 45 = true := by
  unfold op0
  have h2 : k * 89 + 89 ≤ (B.setr k 22 (flags [22, 1, 25, 23])).ps.length := by rw [setr_len h (by rw [flags_len]; decide)]; exact h
  have h3 : (B.setr k 22 (flags [22, 1, 25, 23])).gb k 45 = true := setr_gb h (by rw [flags_len]; decide) (by decide) (by rfl)
  simp [gb_at, gi_at, gi_setp_ne, gb_setp_ne, len_setp, h2, h3]
theorem op0_46 {B : Br} {k : Nat} (h : k * 89 + 89 ≤ B.ps.length) : (op0 B k).gb k 46 = false := by
  unfold op0
  have h2 : k * 89 + 89 ≤ (B.setr k 22 (flags [22, 1, 25, 23])).ps.length := by rw [setr_len h (by rw [flags_len]; decide)]; exact h
  have h3 : (B.setr k 22 (flags [22, 1, 25, 23])).gb k 46 = false := setr_gb h (by rw [flags_len]; decide) (by decide) (by rfl)
  simp [gb_at, gi_at, gi_setp_ne, gb_setp_ne, len_setp, h2, h3]
theorem op0_47 {B : Br} {k : Nat} (h : k * 89 + 89 ≤ B.ps.length) : (op0 B k).gb k 47 = true := by
  unfold op0
  have h2 : k * 89 + 89 ≤ (B.setr k 22 (flags [22, 1, 25, 23])).ps.length := by rw [setr_len h (by rw [flags_len]; decide)]; exact h
  have h3 : (B.setr k 22 (flags [22, 1, 25, 23])).gb k 47 = true := setr_gb h (by rw [flags_len]; decide) (by decide) (by rfl)
  simp [gb_at, gi_at, gi_setp_ne, gb_setp_ne, len_setp, h2, h3]
theorem op0_50 {B : Br} {k : Nat} (h : k * 89 + 89 ≤ B.ps.length) : (op0 B k).gb k 50 = false := by
  unfold op0
  have h2 : k * 89 + 89 ≤ (B.setr k 22 (flags [22, 1, 25, 23])).ps.length := by rw [setr_len h (by rw [flags_len]; decide)]; exact h
  have h3 : (B.setr k 22 (flags [22, 1, 25, 23])).gb k 50 = false := setr_gb h (by rw [flags_len]; decide) (by decide) (by rfl)
  simp [gb_at, gi_at, gi_setp_ne, gb_setp_ne, len_setp, h2, h3]
theorem op0_19 {B : Br} {k : Nat} (h : k * 89 + 89 ≤ B.ps.length) : (op0 B k).gi k 19 = 3 := by
  unfold op0
  have h2 : k * 89 + 89 ≤ (B.setr k 22 (flags [22, 1, 25, 23])).ps.length := by rw [setr_len h (by rw [flags_len]; decide)]; exact h
  simp [gb_at, gi_at, gi_setp_ne, gb_setp_ne, len_setp, h2]
theorem op0_87 {B : Br} {k : Nat} (h : k * 89 + 89 ≤ B.ps.length) : (op0 B k).gi k 87 = 4 := by
  unfold op0
  have h2 : k * 89 + 89 ≤ (B.setr k 22 (flags [22, 1, 25, 23])).ps.length := by rw [setr_len h (by rw [flags_len]; decide)]; exact h
  simp [gb_at, gi_at, gi_setp_ne, gb_setp_ne, len_setp, h2]
theorem op0_88 {B : Br} {k : Nat} (h : k * 89 + 89 ≤ B.ps.length) : (op0 B k).gi k 88 = 4 := by
  unfold op0
  have h2 : k * 89 + 89 ≤ (B.setr k 22 (flags [22, 1, 25, 23])).ps.length := by rw [setr_len h (by rw [flags_len]; decide)]; exact h
  simp [gb_at, gi_at, gi_setp_ne, gb_setp_ne, len_setp, h2]
def op1 (B : Br) (k : Nat) : Br := trLearn (op0 B k) k
theorem op0_step {B : Br} {k : Nat} (h : k * 89 + 89 ≤ B.ps.length) : trF (op0 B k) k = (true, op1 B k) := by
  have hr : trR (op0 B k) k = 22 := by unfold trR; simp [trHB, trDes, op0_22 h, op0_23 h, op0_24 h, op0_26 h, op0_27 h, op0_28 h, op0_29 h, op0_32 h, op0_33 h, op0_34 h, op0_42 h, op0_44 h, op0_45 h, op0_46 h, op0_47 h, op0_50 h, op0_19 h, op0_87 h, op0_88 h]
  unfold trF
  rw [if_pos ⟨op0_44 h, op0_50 h⟩, hr]
  rfl
theorem op1_len {B : Br} {k : Nat} (h : k * 89 + 89 ≤ B.ps.length) : k * 89 + 89 ≤ (op1 B k).ps.length := by
  unfold op1
  simp only [trLearn, trFwd, len_setp]
  exact op0_len h
theorem op1_np (B : Br) (k : Nat) : (op1 B k).np = B.np := by
  unfold op1
  simp only [trLearn, trFwd, np_setp, np_setr, op0_np]
theorem op1_hd (B : Br) (k : Nat) : (op1 B k).hd = B.hd := by
  unfold op1
  simp only [trLearn, trFwd, hd_setp, hd_setr, op0_hd]
theorem op1_hi (B : Br) (k j : Nat) : (op1 B k).hi j = B.hi j := by
  unfold Br.hi
  rw [op1_hd]
theorem op1_22 {B : Br} {k : Nat} (h : k * 89 + 89 ≤ B.ps.length) : (op1 B k).gb k 22 = false := by
  unfold op1
  simp [trLearn, trFwd, gb_at, gi_at, gi_setp_ne, gb_setp_ne, len_setp, op0_len h, op0_22 h, op0_45 h]
theorem op1_23 {B : Br} {k : Nat} (h : k * 89 + 89 ≤ B.ps.length) : (op1 B k).gb k 23 = true := by
  unfold op1
  simp [trLearn, trFwd, gb_at, gi_at, gi_setp_ne, gb_setp_ne, len_setp, op0_len h, op0_23 h, op0_45 h]
theorem op1_24 {B : Br} {k : Nat} (h : k * 89 + 89 ≤ B.ps.length) : (op1 B k).gb k 24 = false := by
  unfold op1
  simp [trLearn, trFwd, gb_at, gi_at, gi_setp_ne, gb_setp_ne, len_setp, op0_len h, op0_24 h, op0_45 h]
theorem op1_26 {B : Br} {k : Nat} (h : k * 89 + 89 ≤ B.ps.length) : (op1 B k).gb k 26 = false := by
  unfold op1
  simp [trLearn, trFwd, gb_at, gi_at, gi_setp_ne, gb_setp_ne, len_setp, op0_len h, op0_26 h, op0_45 h]
theorem op1_27 {B : Br} {k : Nat} (h : k * 89 + 89 ≤ B.ps.length) : (op1 B k).gb k 27 = false := by
  unfold op1
  simp [trLearn, trFwd, gb_at, gi_at, gi_setp_ne, gb_setp_ne, len_setp, op0_len h, op0_27 h, op0_45 h]
theorem op1_28 {B : Br} {k : Nat} (h : k * 89 + 89 ≤ B.ps.length) : (op1 B k).gb k 28 = true := by
  unfold op1
  simp [trLearn, trFwd, gb_at, gi_at, gi_setp_ne, gb_setp_ne, len_setp, op0_len h, op0_28 h, op0_45 h]
theorem op1_29 {B : Br} {k : Nat} (h : k * 89 + 89 ≤ B.ps.length) : (op1 B k).gb k 29 = false := by
  unfold op1
  simp [trLearn, trFwd, gb_at, gi_at, gi_setp_ne, gb_setp_ne, len_setp, op0_len h, op0_29 h, op0_45 h]
theorem op1_32 {B : Br} {k : Nat} (h : k * 89 + 89 ≤ B.ps.length) : (op1 B k).gb k 32 = false := by
  unfold op1
  simp [trLearn, trFwd, gb_at, gi_at, gi_setp_ne, gb_setp_ne, len_setp, op0_len h, op0_32 h, op0_45 h]
theorem op1_33 {B : Br} {k : Nat} (h : k * 89 + 89 ≤ B.ps.length) : (op1 B k).gb k 33 = false := by
  unfold op1
  simp [trLearn, trFwd, gb_at, gi_at, gi_setp_ne, gb_setp_ne, len_setp, op0_len h, op0_33 h, op0_45 h]
theorem op1_34 {B : Br} {k : Nat} (h : k * 89 + 89 ≤ B.ps.length) : (op1 B k).gb k 34 = false := by
  unfold op1
  simp [trLearn, trFwd, gb_at, gi_at, gi_setp_ne, gb_setp_ne, len_setp, op0_len h, op0_34 h, op0_45 h]
theorem op1_42 {B : Br} {k : Nat} (h : k * 89 + 89 ≤ B.ps.length) : (op1 B k).gb k 42 = false := by
  unfold op1
  simp [trLearn, trFwd, gb_at, gi_at, gi_setp_ne, gb_setp_ne, len_setp, op0_len h, op0_42 h, op0_45 h]
theorem op1_44 {B : Br} {k : Nat} (h : k * 89 + 89 ≤ B.ps.length) : (op1 B k).gb k 44 = true := by
  unfold op1
  simp [trLearn, trFwd, gb_at, gi_at, gi_setp_ne, gb_setp_ne, len_setp, op0_len h, op0_44 h, op0_45 h]
theorem op1_45 {B : Br} {k : Nat} (h : k * 89 + 89 ≤ B.ps.length) : (op1 B k).gb k 45 = true := by
  unfold op1
  simp [trLearn, trFwd, gb_at, gi_at, gi_setp_ne, gb_setp_ne, len_setp, op0_len h, op0_45 h, op0_45 h]
theorem op1_46 {B : Br} {k : Nat} (h : k * 89 + 89 ≤ B.ps.length) : (op1 B k).gb k 46 = false := by
  unfold op1
  simp [trLearn, trFwd, gb_at, gi_at, gi_setp_ne, gb_setp_ne, len_setp, op0_len h, op0_46 h, op0_45 h]
theorem op1_47 {B : Br} {k : Nat} (h : k * 89 + 89 ≤ B.ps.length) : (op1 B k).gb k 47 = true := by
  unfold op1
  simp [trLearn, trFwd, gb_at, gi_at, gi_setp_ne, gb_setp_ne, len_setp, op0_len h, op0_47 h, op0_45 h]
theorem op1_50 {B : Br} {k : Nat} (h : k * 89 + 89 ≤ B.ps.length) : (op1 B k).gb k 50 = false := by
  unfold op1
  simp [trLearn, trFwd, gb_at, gi_at, gi_setp_ne, gb_setp_ne, len_setp, op0_len h, op0_50 h, op0_45 h]
theorem op1_19 {B : Br} {k : Nat} (h : k * 89 + 89 ≤ B.ps.length) : (op1 B k).gi k 19 = 3 := by
  unfold op1
  simp [trLearn, trFwd, gb_at, gi_at, gi_setp_ne, gb_setp_ne, len_setp, op0_len h, op0_19 h, op0_45 h]
theorem op1_87 {B : Br} {k : Nat} (h : k * 89 + 89 ≤ B.ps.length) : (op1 B k).gi k 87 = 4 := by
  unfold op1
  simp [trLearn, trFwd, gb_at, gi_at, gi_setp_ne, gb_setp_ne, len_setp, op0_len h, op0_87 h, op0_45 h]
theorem op1_88 {B : Br} {k : Nat} (h : k * 89 + 89 ≤ B.ps.length) : (op1 B k).gi k 88 = 4 := by
  unfold op1
  simp [trLearn, trFwd, gb_at, gi_at, gi_setp_ne, gb_setp_ne, len_setp, op0_len h, op0_88 h, op0_45 h]
def op2 (B : Br) (k : Nat) : Br := (trFwd (op1 B k) k).setp k 23 (.bool ((op1 B k).gb k 45))
theorem op1_step {B : Br} {k : Nat} (h : k * 89 + 89 ≤ B.ps.length) : trF (op1 B k) k = (true, op2 B k) := by
  have hr : trR (op1 B k) k = 23 := by unfold trR; simp [trHB, trDes, op1_22 h, op1_23 h, op1_24 h, op1_26 h, op1_27 h, op1_28 h, op1_29 h, op1_32 h, op1_33 h, op1_34 h, op1_42 h, op1_44 h, op1_45 h, op1_46 h, op1_47 h, op1_50 h, op1_19 h, op1_87 h, op1_88 h]
  unfold trF
  rw [if_pos ⟨op1_44 h, op1_50 h⟩, hr]
  rfl
theorem op2_len {B : Br} {k : Nat} (h : k * 89 + 89 ≤ B.ps.length) : k * 89 + 89 ≤ (op2 B k).ps.length := by
  unfold op2
  simp only [trLearn, trFwd, len_setp]
  exact op1_len h
theorem op2_np (B : Br) (k : Nat) : (op2 B k).np = B.np := by
  unfold op2
  simp only [trLearn, trFwd, np_setp, np_setr, op1_np]
theorem op2_hd (B : Br) (k : Nat) : (op2 B k).hd = B.hd := by
  unfold op2
  simp only [trLearn, trFwd, hd_setp, hd_setr, op1_hd]
theorem op2_hi (B : Br) (k j : Nat) : (op2 B k).hi j = B.hi j := by
  unfold Br.hi
  rw [op2_hd]
theorem op2_22 {B : Br} {k : Nat} (h : k * 89 + 89 ≤ B.ps.length) : (op2 B k).gb k 22 = false := by
  unfold op2
  simp [trLearn, trFwd, gb_at, gi_at, gi_setp_ne, gb_setp_ne, len_setp, op1_len h, op1_22 h, op1_45 h]
theorem op2_23 {B : Br} {k : Nat} (h : k * 89 + 89 ≤ B.ps.length) : (op2 B k).gb k 23 = true := by
  unfold op2
  simp [trLearn, trFwd, gb_at, gi_at, gi_setp_ne, gb_setp_ne, len_setp, op1_len h, op1_23 h, op1_45 h]
theorem op2_24 {B : Br} {k : Nat} (h : k * 89 + 89 ≤ B.ps.length) : (op2 B k).gb k 24 = false := by
  unfold op2
  simp [trLearn, trFwd, gb_at, gi_at, gi_setp_ne, gb_setp_ne, len_setp, op1_len h, op1_24 h, op1_45 h]
theorem op2_26 {B : Br} {k : Nat} (h : k * 89 + 89 ≤ B.ps.length) : (op2 B k).gb k 26 = true := by
  unfold op2
  simp [trLearn, trFwd, gb_at, gi_at, gi_setp_ne, gb_setp_ne, len_setp, op1_len h, op1_26 h, op1_45 h]
theorem op2_27 {B : Br} {k : Nat} (h : k * 89 + 89 ≤ B.ps.length) : (op2 B k).gb k 27 = false := by
  unfold op2
  simp [trLearn, trFwd, gb_at, gi_at, gi_setp_ne, gb_setp_ne, len_setp, op1_len h, op1_27 h, op1_45 h]
theorem op2_28 {B : Br} {k : Nat} (h : k * 89 + 89 ≤ B.ps.length) : (op2 B k).gb k 28 = true := by
  unfold op2
  simp [trLearn, trFwd, gb_at, gi_at, gi_setp_ne, gb_setp_ne, len_setp, op1_len h, op1_28 h, op1_45 h]
theorem op2_29 {B : Br} {k : Nat} (h : k * 89 + 89 ≤ B.ps.length) : (op2 B k).gb k 29 = false := by
  unfold op2
  simp [trLearn, trFwd, gb_at, gi_at, gi_setp_ne, gb_setp_ne, len_setp, op1_len h, op1_29 h, op1_45 h]
theorem op2_32 {B : Br} {k : Nat} (h : k * 89 + 89 ≤ B.ps.length) : (op2 B k).gb k 32 = false := by
  unfold op2
  simp [trLearn, trFwd, gb_at, gi_at, gi_setp_ne, gb_setp_ne, len_setp, op1_len h, op1_32 h, op1_45 h]
theorem op2_33 {B : Br} {k : Nat} (h : k * 89 + 89 ≤ B.ps.length) : (op2 B k).gb k 33 = false := by
  unfold op2
  simp [trLearn, trFwd, gb_at, gi_at, gi_setp_ne, gb_setp_ne, len_setp, op1_len h, op1_33 h, op1_45 h]
theorem op2_34 {B : Br} {k : Nat} (h : k * 89 + 89 ≤ B.ps.length) : (op2 B k).gb k 34 = false := by
  unfold op2
  simp [trLearn, trFwd, gb_at, gi_at, gi_setp_ne, gb_setp_ne, len_setp, op1_len h, op1_34 h, op1_45 h]
theorem op2_42 {B : Br} {k : Nat} (h : k * 89 + 89 ≤ B.ps.length) : (op2 B k).gb k 42 = false := by
  unfold op2
  simp [trLearn, trFwd, gb_at, gi_at, gi_setp_ne, gb_setp_ne, len_setp, op1_len h, op1_42 h, op1_45 h]
theorem op2_44 {B : Br} {k : Nat} (h : k * 89 + 89 ≤ B.ps.length) : (op2 B k).gb k 44 = true := by
  unfold op2
  simp [trLearn, trFwd, gb_at, gi_at, gi_setp_ne, gb_setp_ne, len_setp, op1_len h, op1_44 h, op1_45 h]
theorem op2_45 {B : Br} {k : Nat} (h : k * 89 + 89 ≤ B.ps.length) : (op2 B k).gb k 45 = true := by
  unfold op2
  simp [trLearn, trFwd, gb_at, gi_at, gi_setp_ne, gb_setp_ne, len_setp, op1_len h, op1_45 h, op1_45 h]
theorem op2_46 {B : Br} {k : Nat} (h : k * 89 + 89 ≤ B.ps.length) : (op2 B k).gb k 46 = false := by
  unfold op2
  simp [trLearn, trFwd, gb_at, gi_at, gi_setp_ne, gb_setp_ne, len_setp, op1_len h, op1_46 h, op1_45 h]
theorem op2_47 {B : Br} {k : Nat} (h : k * 89 + 89 ≤ B.ps.length) : (op2 B k).gb k 47 = true := by
  unfold op2
  simp [trLearn, trFwd, gb_at, gi_at, gi_setp_ne, gb_setp_ne, len_setp, op1_len h, op1_47 h, op1_45 h]
theorem op2_50 {B : Br} {k : Nat} (h : k * 89 + 89 ≤ B.ps.length) : (op2 B k).gb k 50 = false := by
  unfold op2
  simp [trLearn, trFwd, gb_at, gi_at, gi_setp_ne, gb_setp_ne, len_setp, op1_len h, op1_50 h, op1_45 h]
theorem op2_7 {B : Br} {k : Nat} (h : k * 89 + 89 ≤ B.ps.length) : (op2 B k).gi k 7 = 0 := by
  unfold op2
  simp [trLearn, trFwd, gb_at, gi_at, gi_setp_ne, gb_setp_ne, len_setp, op1_len h, op1_45 h]
theorem op2_19 {B : Br} {k : Nat} (h : k * 89 + 89 ≤ B.ps.length) : (op2 B k).gi k 19 = 3 := by
  unfold op2
  simp [trLearn, trFwd, gb_at, gi_at, gi_setp_ne, gb_setp_ne, len_setp, op1_len h, op1_19 h, op1_45 h]
theorem op2_87 {B : Br} {k : Nat} (h : k * 89 + 89 ≤ B.ps.length) : (op2 B k).gi k 87 = 4 := by
  unfold op2
  simp [trLearn, trFwd, gb_at, gi_at, gi_setp_ne, gb_setp_ne, len_setp, op1_len h, op1_87 h, op1_45 h]
theorem op2_88 {B : Br} {k : Nat} (h : k * 89 + 89 ≤ B.ps.length) : (op2 B k).gi k 88 = 4 := by
  unfold op2
  simp [trLearn, trFwd, gb_at, gi_at, gi_setp_ne, gb_setp_ne, len_setp, op1_len h, op1_88 h, op1_45 h]
theorem op2_step {B : Br} {k : Nat} (h : k * 89 + 89 ≤ B.ps.length) : trF (op2 B k) k = (false, op2 B k) := by
  have hr : trR (op2 B k) k = 24 := by unfold trR; simp [trHB, trDes, op2_22 h, op2_23 h, op2_24 h, op2_26 h, op2_27 h, op2_28 h, op2_29 h, op2_32 h, op2_33 h, op2_34 h, op2_42 h, op2_44 h, op2_45 h, op2_46 h, op2_47 h, op2_50 h, op2_7 h, op2_19 h, op2_87 h, op2_88 h]
  unfold trF
  rw [if_pos ⟨op2_44 h, op2_50 h⟩, hr]
  rfl

def sp0 (B : Br) (k : Nat) : Br := ((((B.setr k 22 (flags [22, 24, 6, 4, 7, 5])).setp k 87 (.int .i64 4)).setp k 88 (.int .i64 4)).setp k 19 (.int .i64 3))
theorem sp0_len {B : Br} {k : Nat} (h : k * 89 + 89 ≤ B.ps.length) : k * 89 + 89 ≤ (sp0 B k).ps.length := by
  unfold sp0
  simp only [len_setp]
  rw [setr_len h (by rw [flags_len]; decide)]
  exact h
theorem sp0_np (B : Br) (k : Nat) : (sp0 B k).np = B.np := by
  unfold sp0
  simp only [trLearn, trFwd, np_setp, np_setr]
theorem sp0_hd (B : Br) (k : Nat) : (sp0 B k).hd = B.hd := by
  unfold sp0
  simp only [trLearn, trFwd, hd_setp, hd_setr]
theorem sp0_hi (B : Br) (k j : Nat) : (sp0 B k).hi j = B.hi j := by
  unfold Br.hi
  rw [sp0_hd]
theorem sp0_22 {B : Br} {k : Nat} (h : k * 89 + 89 ≤ B.ps.length) : (sp0 B k).gb k 22 = false := by
  unfold sp0
  have h2 : k * 89 + 89 ≤ (B.setr k 22 (flags [22, 24, 6, 4, 7, 5])).ps.length := by rw [setr_len h (by rw [flags_len]; decide)]; exact h
  have h3 : (B.setr k 22 (flags [22, 24, 6, 4, 7, 5])).gb k 22 = false := setr_gb h (by rw [flags_len]; decide) (by decide) (by rfl)
  simp [gb_at, gi_at, gi_setp_ne, gb_setp_ne, len_setp, h2, h3]
theorem sp0_23 {B : Br} {k : Nat} (h : k * 89 + 89 ≤ B.ps.length) : (sp0 B k).gb k 23 = false := by
  unfold sp0
  have h2 : k * 89 + 89 ≤ (B.setr k 22 (flags [22, 24, 6, 4, 7, 5])).ps.length := by rw [setr_len h (by rw [flags_len]; decide)]; exact h
  have h3 : (B.setr k 22 (flags [22, 24, 6, 4, 7, 5])).gb k 23 = false := setr_gb h (by rw [flags_len]; decide) (by decide) (by rfl)
  simp [gb_at, gi_at, gi_setp_ne, gb_setp_ne, len_setp, h2, h3]
theorem sp0_24 {B : Br} {k : Nat} (h : k * 89 + 89 ≤ B.ps.length) : (sp0 B k).gb k 24 = false := by
  unfold sp0
  have h2 : k * 89 + 89 ≤ (B.setr k 22 (flags [22, 24, 6, 4, 7, 5])).ps.length := by rw [setr_len h (by rw [flags_len]; decide)]; exact h
  have h3 : (B.setr k 22 (flags [22, 24, 6, 4, 7, 5])).gb k 24 = false := setr_gb h (by rw [flags_len]; decide) (by decide) (by rfl)
  simp [gb_at, gi_at, gi_setp_ne, gb_setp_ne, len_setp, h2, h3]
theorem sp0_26 {B : Br} {k : Nat} (h : k * 89 + 89 ≤ B.ps.length) : (sp0 B k).gb k 26 = true := by
  unfold sp0
  have h2 : k * 89 + 89 ≤ (B.setr k 22 (flags [22, 24, 6, 4, 7, 5])).ps.length := by rw [setr_len h (by rw [flags_len]; decide)]; exact h
  have h3 : (B.setr k 22 (flags [22, 24, 6, 4, 7, 5])).gb k 26 = true := setr_gb h (by rw [flags_len]; decide) (by decide) (by rfl)
  simp [gb_at, gi_at, gi_setp_ne, gb_setp_ne, len_setp, h2, h3]
theorem sp0_27 {B : Br} {k : Nat} (h : k * 89 + 89 ≤ B.ps.length) : (sp0 B k).gb k 27 = true := by
  unfold sp0
  have h2 : k * 89 + 89 ≤ (B.setr k 22 (flags [22, 24, 6, 4, 7, 5])).ps.length := by rw [setr_len h (by rw [flags_len]; decide)]; exact h
  have h3 : (B.setr k 22 (flags [22, 24, 6, 4, 7, 5])).gb k 27 = true := setr_gb h (by rw [flags_len]; decide) (by decide) (by rfl)
  simp [gb_at, gi_at, gi_setp_ne, gb_setp_ne, len_setp, h2, h3]
theorem sp0_28 {B : Br} {k : Nat} (h : k * 89 + 89 ≤ B.ps.length) : (sp0 B k).gb k 28 = true := by
  unfold sp0
  have h2 : k * 89 + 89 ≤ (B.setr k 22 (flags [22, 24, 6, 4, 7, 5])).ps.length := by rw [setr_len h (by rw [flags_len]; decide)]; exact h
  have h3 : (B.setr k 22 (flags [22, 24, 6, 4, 7, 5])).gb k 28 = true := setr_gb h (by rw [flags_len]; decide) (by decide) (by rfl)
  simp [gb_at, gi_at, gi_setp_ne, gb_setp_ne, len_setp, h2, h3]
theorem sp0_29 {B : Br} {k : Nat} (h : k * 89 + 89 ≤ B.ps.length) : (sp0 B k).gb k 29 = true := by
  unfold sp0
  have h2 : k * 89 + 89 ≤ (B.setr k 22 (flags [22, 24, 6, 4, 7, 5])).ps.length := by rw [setr_len h (by rw [flags_len]; decide)]; exact h
  have h3 : (B.setr k 22 (flags [22, 24, 6, 4, 7, 5])).gb k 29 = true := setr_gb h (by rw [flags_len]; decide) (by decide) (by rfl)
  simp [gb_at, gi_at, gi_setp_ne, gb_setp_ne, len_setp, h2, h3]
theorem sp0_32 {B : Br} {k : Nat} (h : k * 89 + 89 ≤ B.ps.length) : (sp0 B k).gb k 32 = false := by
  unfold sp0
  have h2 : k * 89 + 89 ≤ (B.setr k 22 (flags [22, 24, 6, 4, 7, 5])).ps.length := by rw [setr_len h (by rw [flags_len]; decide)]; exact h
  have h3 : (B.setr k 22 (flags [22, 24, 6, 4, 7, 5])).gb k 32 = false := setr_gb h (by rw [flags_len]; decide) (by decide) (by rfl)
  simp [gb_at, gi_at, gi_setp_ne, gb_setp_ne, len_setp, h2, h3]
theorem sp0_33 {B : Br} {k : Nat} (h : k * 89 + 89 ≤ B.ps.length) : (sp0 B k).gb k 33 = false := by
  unfold sp0
  have h2 : k * 89 + 89 ≤ (B.setr k 22 (flags [22, 24, 6, 4, 7, 5])).ps.length := by rw [setr_len h (by rw [flags_len]; decide)]; exact h
  have h3 : (B.setr k 22 (flags [22, 24, 6, 4, 7, 5])).gb k 33 = false := setr_gb h (by rw [flags_len]; decide) (by decide) (by rfl)
  simp [gb_at, gi_at, gi_setp_ne, gb_setp_ne, len_setp, h2, h3]
theorem sp0_34 {B : Br} {k : Nat} (h : k * 89 + 89 ≤ B.ps.length) : (sp0 B k).gb k 34 = false := by
  unfold sp0
  have h2 : k * 89 + 89 ≤ (B.setr k 22 (flags [22, 24, 6, 4, 7, 5])).ps.length := by rw [setr_len h (by rw [flags_len]; decide)]; exact h
  have h3 : (B.setr k 22 (flags [22, 24, 6, 4, 7, 5])).gb k 34 = false := setr_gb h (by rw [flags_len]; decide) (by decide) (by rfl)
  simp [gb_at, gi_at, gi_setp_ne, gb_setp_ne, len_setp, h2, h3]
theorem sp0_42 {B : Br} {k : Nat} (h : k * 89 + 89 ≤ B.ps.length) : (sp0 B k).gb k 42 = false := by
  unfold sp0
  have h2 : k * 89 + 89 ≤ (B.setr k 22 (flags [22, 24, 6, 4, 7, 5])).ps.length := by rw [setr_len h (by rw [flags_len]; decide)]; exact h
  have h3 : (B.setr k 22 (flags [22, 24, 6, 4, 7, 5])).gb k 42 = false := setr_gb h (by rw [flags_len]; decide) (by decide) (by rfl)
  simp [gb_at, gi_at, gi_setp_ne, gb_setp_ne, len_setp, h2, h3]
theorem sp0_44 {B : Br} {k : Nat} (h : k * 89 + 89 ≤ B.ps.length) : (sp0 B k).gb k 44 = true := by
  unfold sp0
  have h2 : k * 89 + 89 ≤ (B.setr k 22 (flags [22, 24, 6, 4, 7, 5])).ps.length := by rw [setr_len h (by rw [flags_len]; decide)]; exact h
  have h3 : (B.setr k 22 (flags [22, 24, 6, 4, 7, 5])).gb k 44 = true := setr_gb h (by rw [flags_len]; decide) (by decide) (by rfl)
  simp [gb_at, gi_at, gi_setp_ne, gb_setp_ne, len_setp, h2, h3]
theorem sp0_45 {B : Br} {k : Nat} (h : k * 89 + 89 ≤ B.ps.length) : (sp0 B k).gb k 45 = false := by
  unfold sp0
  have h2 : k * 89 + 89 ≤ (B.setr k 22 (flags [22, 24, 6, 4, 7, 5])).ps.length := by rw [setr_len h (by rw [flags_len]; decide)]; exact h
  have h3 : (B.setr k 22 (flags [22, 24, 6, 4, 7, 5])).gb k 45 = false := setr_gb h (by rw [flags_len]; decide) (by decide) (by rfl)
  simp [gb_at, gi_at, gi_setp_ne, gb_setp_ne, len_setp, h2, h3]
theorem sp0_46 {B : Br} {k : Nat} (h : k * 89 + 89 ≤ B.ps.length) : (sp0 B k).gb k 46 = true := by
  unfold sp0
  have h2 : k * 89 + 89 ≤ (B.setr k 22 (flags [22, 24, 6, 4, 7, 5])).ps.length := by rw [setr_len h (by rw [flags_len]; decide)]; exact h
  have h3 : (B.setr k 22 (flags [22, 24, 6, 4, 7, 5])).gb k 46 = true := setr_gb h (by rw [flags_len]; decide) (by decide) (by rfl)
  simp [gb_at, gi_at, gi_setp_ne, gb_setp_ne, len_setp, h2, h3]
theorem sp0_47 {B : Br} {k : Nat} (h : k * 89 + 89 ≤ B.ps.length) : (sp0 B k).gb k 47 = false := by
  unfold sp0
  have h2 : k * 89 + 89 ≤ (B.setr k 22 (flags [22, 24, 6, 4, 7, 5])).ps.length := by rw [setr_len h (by rw [flags_len]; decide)]; exact h
  have h3 : (B.setr k 22 (flags [22, 24, 6, 4, 7, 5])).gb k 47 = false := setr_gb h (by rw [flags_len]; decide) (by decide) (by rfl)
  simp [gb_at, gi_at, gi_setp_ne, gb_setp_ne, len_setp, h2, h3]
theorem sp0_50 {B : Br} {k : Nat} (h : k * 89 + 89 ≤ B.ps.length) : (sp0 B k).gb k 50 = false := by
  unfold sp0
  have h2 : k * 89 + 89 ≤ (B.setr k 22 (flags [22, 24, 6, 4, 7, 5])).ps.length := by rw [setr_len h (by rw [flags_len]; decide)]; exact h
  have h3 : (B.setr k 22 (flags [22, 24, 6, 4, 7, 5])).gb k 50 = false := setr_gb h (by rw [flags_len]; decide) (by decide) (by rfl)
  simp [gb_at, gi_at, gi_setp_ne, gb_setp_ne, len_setp, h2, h3]
theorem sp0_19 {B : Br} {k : Nat} (h : k * 89 + 89 ≤ B.ps.length) : (sp0 B k).gi k 19 = 3 := by
  unfold sp0
  have h2 : k * 89 + 89 ≤ (B.setr k 22 (flags [22, 24, 6, 4, 7, 5])).ps.length := by rw [setr_len h (by rw [flags_len]; decide)]; exact h
  simp [gb_at, gi_at, gi_setp_ne, gb_setp_ne, len_setp, h2]
theorem sp0_87 {B : Br} {k : Nat} (h : k * 89 + 89 ≤ B.ps.length) : (sp0 B k).gi k 87 = 4 := by
  unfold sp0
  have h2 : k * 89 + 89 ≤ (B.setr k 22 (flags [22, 24, 6, 4, 7, 5])).ps.length := by rw [setr_len h (by rw [flags_len]; decide)]; exact h
  simp [gb_at, gi_at, gi_setp_ne, gb_setp_ne, len_setp, h2]
theorem sp0_88 {B : Br} {k : Nat} (h : k * 89 + 89 ≤ B.ps.length) : (sp0 B k).gi k 88 = 4 := by
  unfold sp0
  have h2 : k * 89 + 89 ≤ (B.setr k 22 (flags [22, 24, 6, 4, 7, 5])).ps.length := by rw [setr_len h (by rw [flags_len]; decide)]; exact h
  simp [gb_at, gi_at, gi_setp_ne, gb_setp_ne, len_setp, h2]
def sp1 (B : Br) (k : Nat) : Br := ((((sp0 B k).setp k 28 (.bool false)).setp k 26 (.bool false)).setp k 24 (.bool false)).setp k 7 (.int .i64 (trWait (sp0 B k) k))
theorem sp0_step {B : Br} {k : Nat} (h : k * 89 + 89 ≤ B.ps.length) : trF (sp0 B k) k = (true, sp1 B k) := by
  have hr : trR (sp0 B k) k = 21 := by unfold trR; simp [trHB, trDes, sp0_22 h, sp0_23 h, sp0_24 h, sp0_26 h, sp0_27 h, sp0_28 h, sp0_29 h, sp0_32 h, sp0_33 h, sp0_34 h, sp0_42 h, sp0_44 h, sp0_45 h, sp0_46 h, sp0_47 h, sp0_50 h, sp0_19 h, sp0_87 h, sp0_88 h]
  unfold trF
  rw [if_pos ⟨sp0_44 h, sp0_50 h⟩, hr]
  rfl
theorem sp1_len {B : Br} {k : Nat} (h : k * 89 + 89 ≤ B.ps.length) : k * 89 + 89 ≤ (sp1 B k).ps.length := by
  unfold sp1
  simp only [trLearn, trFwd, len_setp]
  exact sp0_len h
theorem sp1_np (B : Br) (k : Nat) : (sp1 B k).np = B.np := by
  unfold sp1
  simp only [trLearn, trFwd, np_setp, np_setr, sp0_np]
theorem sp1_hd (B : Br) (k : Nat) : (sp1 B k).hd = B.hd := by
  unfold sp1
  simp only [trLearn, trFwd, hd_setp, hd_setr, sp0_hd]
theorem sp1_hi (B : Br) (k j : Nat) : (sp1 B k).hi j = B.hi j := by
  unfold Br.hi
  rw [sp1_hd]
theorem sp1_22 {B : Br} {k : Nat} (h : k * 89 + 89 ≤ B.ps.length) : (sp1 B k).gb k 22 = false := by
  unfold sp1
  simp [trLearn, trFwd, gb_at, gi_at, gi_setp_ne, gb_setp_ne, len_setp, sp0_len h, sp0_22 h, sp0_45 h]
theorem sp1_23 {B : Br} {k : Nat} (h : k * 89 + 89 ≤ B.ps.length) : (sp1 B k).gb k 23 = false := by
  unfold sp1
  simp [trLearn, trFwd, gb_at, gi_at, gi_setp_ne, gb_setp_ne, len_setp, sp0_len h, sp0_23 h, sp0_45 h]
theorem sp1_24 {B : Br} {k : Nat} (h : k * 89 + 89 ≤ B.ps.length) : (sp1 B k).gb k 24 = false := by
  unfold sp1
  simp [trLearn, trFwd, gb_at, gi_at, gi_setp_ne, gb_setp_ne, len_setp, sp0_len h, sp0_24 h, sp0_45 h]
theorem sp1_26 {B : Br} {k : Nat} (h : k * 89 + 89 ≤ B.ps.length) : (sp1 B k).gb k 26 = false := by
  unfold sp1
  simp [trLearn, trFwd, gb_at, gi_at, gi_setp_ne, gb_setp_ne, len_setp, sp0_len h, sp0_26 h, sp0_45 h]
theorem sp1_27 {B : Br} {k : Nat} (h : k * 89 + 89 ≤ B.ps.length) : (sp1 B k).gb k 27 = true := by
  unfold sp1
  simp [trLearn, trFwd, gb_at, gi_at, gi_setp_ne, gb_setp_ne, len_setp, sp0_len h, sp0_27 h, sp0_45 h]
theorem sp1_28 {B : Br} {k : Nat} (h : k * 89 + 89 ≤ B.ps.length) : (sp1 B k).gb k 28 = false := by
  unfold sp1
  simp [trLearn, trFwd, gb_at, gi_at, gi_setp_ne, gb_setp_ne, len_setp, sp0_len h, sp0_28 h, sp0_45 h]
theorem sp1_29 {B : Br} {k : Nat} (h : k * 89 + 89 ≤ B.ps.length) : (sp1 B k).gb k 29 = true := by
  unfold sp1
  simp [trLearn, trFwd, gb_at, gi_at, gi_setp_ne, gb_setp_ne, len_setp, sp0_len h, sp0_29 h, sp0_45 h]
theorem sp1_32 {B : Br} {k : Nat} (h : k * 89 + 89 ≤ B.ps.length) : (sp1 B k).gb k 32 = false := by
  unfold sp1
  simp [trLearn, trFwd, gb_at, gi_at, gi_setp_ne, gb_setp_ne, len_setp, sp0_len h, sp0_32 h, sp0_45 h]
theorem sp1_33 {B : Br} {k : Nat} (h : k * 89 + 89 ≤ B.ps.length) : (sp1 B k).gb k 33 = false := by
  unfold sp1
  simp [trLearn, trFwd, gb_at, gi_at, gi_setp_ne, gb_setp_ne, len_setp, sp0_len h, sp0_33 h, sp0_45 h]
theorem sp1_34 {B : Br} {k : Nat} (h : k * 89 + 89 ≤ B.ps.length) : (sp1 B k).gb k 34 = false := by
  unfold sp1
  simp [trLearn, trFwd, gb_at, gi_at, gi_setp_ne, gb_setp_ne, len_setp, sp0_len h, sp0_34 h, sp0_45 h]
theorem sp1_42 {B : Br} {k : Nat} (h : k * 89 + 89 ≤ B.ps.length) : (sp1 B k).gb k 42 = false := by
  unfold sp1
  simp [trLearn, trFwd, gb_at, gi_at, gi_setp_ne, gb_setp_ne, len_setp, sp0_len h, sp0_42 h, sp0_45 h]
theorem sp1_44 {B : Br} {k : Nat} (h : k * 89 + 89 ≤ B.ps.length) : (sp1 B k).gb k 44 = true := by
  unfold sp1
  simp [trLearn, trFwd, gb_at, gi_at, gi_setp_ne, gb_setp_ne, len_setp, sp0_len h, sp0_44 h, sp0_45 h]
theorem sp1_45 {B : Br} {k : Nat} (h : k * 89 + 89 ≤ B.ps.length) : (sp1 B k).gb k 45 = false := by
  unfold sp1
  simp [trLearn, trFwd, gb_at, gi_at, gi_setp_ne, gb_setp_ne, len_setp, sp0_len h, sp0_45 h, sp0_45 h]
theorem sp1_46 {B : Br} {k : Nat} (h : k * 89 + 89 ≤ B.ps.length) : (sp1 B k).gb k 46 = true := by
  unfold sp1
  simp [trLearn, trFwd, gb_at, gi_at, gi_setp_ne, gb_setp_ne, len_setp, sp0_len h, sp0_46 h, sp0_45 h]
theorem sp1_47 {B : Br} {k : Nat} (h : k * 89 + 89 ≤ B.ps.length) : (sp1 B k).gb k 47 = false := by
  unfold sp1
  simp [trLearn, trFwd, gb_at, gi_at, gi_setp_ne, gb_setp_ne, len_setp, sp0_len h, sp0_47 h, sp0_45 h]
theorem sp1_50 {B : Br} {k : Nat} (h : k * 89 + 89 ≤ B.ps.length) : (sp1 B k).gb k 50 = false := by
  unfold sp1
  simp [trLearn, trFwd, gb_at, gi_at, gi_setp_ne, gb_setp_ne, len_setp, sp0_len h, sp0_50 h, sp0_45 h]
theorem sp1_19 {B : Br} {k : Nat} (h : k * 89 + 89 ≤ B.ps.length) : (sp1 B k).gi k 19 = 3 := by
  unfold sp1
  simp [trLearn, trFwd, gb_at, gi_at, gi_setp_ne, gb_setp_ne, len_setp, sp0_len h, sp0_19 h, sp0_45 h]
theorem sp1_87 {B : Br} {k : Nat} (h : k * 89 + 89 ≤ B.ps.length) : (sp1 B k).gi k 87 = 4 := by
  unfold sp1
  simp [trLearn, trFwd, gb_at, gi_at, gi_setp_ne, gb_setp_ne, len_setp, sp0_len h, sp0_87 h, sp0_45 h]
theorem sp1_88 {B : Br} {k : Nat} (h : k * 89 + 89 ≤ B.ps.length) : (sp1 B k).gi k 88 = 4 := by
  unfold sp1
  simp [trLearn, trFwd, gb_at, gi_at, gi_setp_ne, gb_setp_ne, len_setp, sp0_len h, sp0_88 h, sp0_45 h]
def sp2 (B : Br) (k : Nat) : Br := ((sp1 B k).setp k 29 (.bool false)).setp k 27 (.bool false)
theorem sp2_len {B : Br} {k : Nat} (h : k * 89 + 89 ≤ B.ps.length) : k * 89 + 89 ≤ (sp2 B k).ps.length := by
  unfold sp2
  simp only [trLearn, trFwd, len_setp]
  exact sp1_len h
theorem sp2_np (B : Br) (k : Nat) : (sp2 B k).np = B.np := by
  unfold sp2
  simp only [trLearn, trFwd, np_setp, np_setr, sp1_np]
theorem sp2_hd (B : Br) (k : Nat) : (sp2 B k).hd = B.hd := by
  unfold sp2
  simp only [trLearn, trFwd, hd_setp, hd_setr, sp1_hd]
theorem sp2_hi (B : Br) (k j : Nat) : (sp2 B k).hi j = B.hi j := by
  unfold Br.hi
  rw [sp2_hd]
theorem sp2_22 {B : Br} {k : Nat} (h : k * 89 + 89 ≤ B.ps.length) : (sp2 B k).gb k 22 = false := by
  unfold sp2
  simp [trLearn, trFwd, gb_at, gi_at, gi_setp_ne, gb_setp_ne, len_setp, sp1_len h, sp1_22 h, sp1_45 h]
theorem sp2_23 {B : Br} {k : Nat} (h : k * 89 + 89 ≤ B.ps.length) : (sp2 B k).gb k 23 = false := by
  unfold sp2
  simp [trLearn, trFwd, gb_at, gi_at, gi_setp_ne, gb_setp_ne, len_setp, sp1_len h, sp1_23 h, sp1_45 h]
theorem sp2_24 {B : Br} {k : Nat} (h : k * 89 + 89 ≤ B.ps.length) : (sp2 B k).gb k 24 = false := by
  unfold sp2
  simp [trLearn, trFwd, gb_at, gi_at, gi_setp_ne, gb_setp_ne, len_setp, sp1_len h, sp1_24 h, sp1_45 h]
theorem sp2_26 {B : Br} {k : Nat} (h : k * 89 + 89 ≤ B.ps.length) : (sp2 B k).gb k 26 = false := by
  unfold sp2
  simp [trLearn, trFwd, gb_at, gi_at, gi_setp_ne, gb_setp_ne, len_setp, sp1_len h, sp1_26 h, sp1_45 h]
theorem sp2_27 {B : Br} {k : Nat} (h : k * 89 + 89 ≤ B.ps.length) : (sp2 B k).gb k 27 = false := by
  unfold sp2
  simp [trLearn, trFwd, gb_at, gi_at, gi_setp_ne, gb_setp_ne, len_setp, sp1_len h, sp1_27 h, sp1_45 h]
theorem sp2_28 {B : Br} {k : Nat} (h : k * 89 + 89 ≤ B.ps.length) : (sp2 B k).gb k 28 = false := by
  unfold sp2
  simp [trLearn, trFwd, gb_at, gi_at, gi_setp_ne, gb_setp_ne, len_setp, sp1_len h, sp1_28 h, sp1_45 h]
theorem sp2_29 {B : Br} {k : Nat} (h : k * 89 + 89 ≤ B.ps.length) : (sp2 B k).gb k 29 = false := by
  unfold sp2
  simp [trLearn, trFwd, gb_at, gi_at, gi_setp_ne, gb_setp_ne, len_setp, sp1_len h, sp1_29 h, sp1_45 h]
theorem sp2_32 {B : Br} {k : Nat} (h : k * 89 + 89 ≤ B.ps.length) : (sp2 B k).gb k 32 = false := by
  unfold sp2
  simp [trLearn, trFwd, gb_at, gi_at, gi_setp_ne, gb_setp_ne, len_setp, sp1_len h, sp1_32 h, sp1_45 h]
theorem sp2_33 {B : Br} {k : Nat} (h : k * 89 + 89 ≤ B.ps.length) : (sp2 B k).gb k 33 = false := by
  unfold sp2
  simp [trLearn, trFwd, gb_at, gi_at, gi_setp_ne, gb_setp_ne, len_setp, sp1_len h, sp1_33 h, sp1_45 h]
theorem sp2_34 {B : Br} {k : Nat} (h : k * 89 + 89 ≤ B.ps.length) : (sp2 B k).gb k 34 = false := by
  unfold sp2
  simp [trLearn, trFwd, gb_at, gi_at, gi_setp_ne, gb_setp_ne, len_setp, sp1_len h, sp1_34 h, sp1_45 h]
theorem sp2_42 {B : Br} {k : Nat} (h : k * 89 + 89 ≤ B.ps.length) : (sp2 B k).gb k 42 = false := by
  unfold sp2
  simp [trLearn, trFwd, gb_at, gi_at, gi_setp_ne, gb_setp_ne, len_setp, sp1_len h, sp1_42 h, sp1_45 h]
theorem sp2_44 {B : Br} {k : Nat} (h : k * 89 + 89 ≤ B.ps.length) : (sp2 B k).gb k 44 = true := by
  unfold sp2
  simp [trLearn, trFwd, gb_at, gi_at, gi_setp_ne, gb_setp_ne, len_setp, sp1_len h, sp1_44 h, sp1_45 h]
theorem sp2_45 {B : Br} {k : Nat} (h : k * 89 + 89 ≤ B.ps.length) : (sp2 B k).gb k 45 = false := by
  unfold sp2
  simp [trLearn, trFwd, gb_at, gi_at, gi_setp_ne, gb_setp_ne, len_setp, sp1_len h, sp1_45 h, sp1_45 h]
theorem sp2_46 {B : Br} {k : Nat} (h : k * 89 + 89 ≤ B.ps.length) : (sp2 B k).gb k 46 = true := by
  unfold sp2
  simp [trLearn, trFwd, gb_at, gi_at, gi_setp_ne, gb_setp_ne, len_setp, sp1_len h, sp1_46 h, sp1_45 h]
theorem sp2_47 {B : Br} {k : Nat} (h : k * 89 + 89 ≤ B.ps.length) : (sp2 B k).gb k 47 = false := by
  unfold sp2
  simp [trLearn, trFwd, gb_at, gi_at, gi_setp_ne, gb_setp_ne, len_setp, sp1_len h, sp1_47 h, sp1_45 h]
theorem sp2_50 {B : Br} {k : Nat} (h : k * 89 + 89 ≤ B.ps.length) : (sp2 B k).gb k 50 = false := by
  unfold sp2
  simp [trLearn, trFwd, gb_at, gi_at, gi_setp_ne, gb_setp_ne, len_setp, sp1_len h, sp1_50 h, sp1_45 h]
theorem sp2_19 {B : Br} {k : Nat} (h : k * 89 + 89 ≤ B.ps.length) : (sp2 B k).gi k 19 = 3 := by
  unfold sp2
  simp [trLearn, trFwd, gb_at, gi_at, gi_setp_ne, gb_setp_ne, len_setp, sp1_len h, sp1_19 h, sp1_45 h]
theorem sp2_87 {B : Br} {k : Nat} (h : k * 89 + 89 ≤ B.ps.length) : (sp2 B k).gi k 87 = 4 := by
  unfold sp2
  simp [trLearn, trFwd, gb_at, gi_at, gi_setp_ne, gb_setp_ne, len_setp, sp1_len h, sp1_87 h, sp1_45 h]
theorem sp2_88 {B : Br} {k : Nat} (h : k * 89 + 89 ≤ B.ps.length) : (sp2 B k).gi k 88 = 4 := by
  unfold sp2
  simp [trLearn, trFwd, gb_at, gi_at, gi_setp_ne, gb_setp_ne, len_setp, sp1_len h, sp1_88 h, sp1_45 h]
def sp3 (B : Br) (k : Nat) : Br := (((sp2 B k).setp k 34 (.bool true)).setp k 31 (.bool true)).setp k 6 (.int .i64 (trEd (sp2 B k) k))
theorem sp2_step {B : Br} {k : Nat} (h : k * 89 + 89 ≤ B.ps.length) : trF (sp2 B k) k = (true, sp3 B k) := by
  have hr : trR (sp2 B k) k = 18 := by unfold trR; simp [trHB, trDes, sp2_22 h, sp2_23 h, sp2_24 h, sp2_26 h, sp2_27 h, sp2_28 h, sp2_29 h, sp2_32 h, sp2_33 h, sp2_34 h, sp2_42 h, sp2_44 h, sp2_45 h, sp2_46 h, sp2_47 h, sp2_50 h, sp2_19 h, sp2_87 h, sp2_88 h]
  unfold trF
  rw [if_pos ⟨sp2_44 h, sp2_50 h⟩, hr]
  rfl
theorem sp3_len {B : Br} {k : Nat} (h : k * 89 + 89 ≤ B.ps.length) : k * 89 + 89 ≤ (sp3 B k).ps.length := by
  unfold sp3
  simp only [trLearn, trFwd, len_setp]
  exact sp2_len h
theorem sp3_np (B : Br) (k : Nat) : (sp3 B k).np = B.np := by
  unfold sp3
  simp only [trLearn, trFwd, np_setp, np_setr, sp2_np]
theorem sp3_hd (B : Br) (k : Nat) : (sp3 B k).hd = B.hd := by
  unfold sp3
  simp only [trLearn, trFwd, hd_setp, hd_setr, sp2_hd]
theorem sp3_hi (B : Br) (k j : Nat) : (sp3 B k).hi j = B.hi j := by
  unfold Br.hi
  rw [sp3_hd]
theorem sp3_22 {B : Br} {k : Nat} (h : k * 89 + 89 ≤ B.ps.length) : (sp3 B k).gb k 22 = false := by
  unfold sp3
  simp [trLearn, trFwd, gb_at, gi_at, gi_setp_ne, gb_setp_ne, len_setp, sp2_len h, sp2_22 h, sp2_45 h]
theorem sp3_23 {B : Br} {k : Nat} (h : k * 89 + 89 ≤ B.ps.length) : (sp3 B k).gb k 23 = false := by
  unfold sp3
  simp [trLearn, trFwd, gb_at, gi_at, gi_setp_ne, gb_setp_ne, len_setp, sp2_len h, sp2_23 h, sp2_45 h]
theorem sp3_24 {B : Br} {k : Nat} (h : k * 89 + 89 ≤ B.ps.length) : (sp3 B k).gb k 24 = false := by
  unfold sp3
  simp [trLearn, trFwd, gb_at, gi_at, gi_setp_ne, gb_setp_ne, len_setp, sp2_len h, sp2_24 h, sp2_45 h]
theorem sp3_26 {B : Br} {k : Nat} (h : k * 89 + 89 ≤ B.ps.length) : (sp3 B k).gb k 26 = false := by
  unfold sp3
  simp [trLearn, trFwd, gb_at, gi_at, gi_setp_ne, gb_setp_ne, len_setp, sp2_len h, sp2_26 h, sp2_45 h]
theorem sp3_27 {B : Br} {k : Nat} (h : k * 89 + 89 ≤ B.ps.length) : (sp3 B k).gb k 27 = false := by
  unfold sp3
  simp [trLearn, trFwd, gb_at, gi_at, gi_setp_ne, gb_setp_ne, len_setp, sp2_len h, sp2_27 h, sp2_45 h]
theorem sp3_28 {B : Br} {k : Nat} (h : k * 89 + 89 ≤ B.ps.length) : (sp3 B k).gb k 28 = false := by
  unfold sp3
  simp [trLearn, trFwd, gb_at, gi_at, gi_setp_ne, gb_setp_ne, len_setp, sp2_len h, sp2_28 h, sp2_45 h]
theorem sp3_29 {B : Br} {k : Nat} (h : k * 89 + 89 ≤ B.ps.length) : (sp3 B k).gb k 29 = false := by
  unfold sp3
  simp [trLearn, trFwd, gb_at, gi_at, gi_setp_ne, gb_setp_ne, len_setp, sp2_len h, sp2_29 h, sp2_45 h]
theorem sp3_32 {B : Br} {k : Nat} (h : k * 89 + 89 ≤ B.ps.length) : (sp3 B k).gb k 32 = false := by
  unfold sp3
  simp [trLearn, trFwd, gb_at, gi_at, gi_setp_ne, gb_setp_ne, len_setp, sp2_len h, sp2_32 h, sp2_45 h]
theorem sp3_33 {B : Br} {k : Nat} (h : k * 89 + 89 ≤ B.ps.length) : (sp3 B k).gb k 33 = false := by
  unfold sp3
  simp [trLearn, trFwd, gb_at, gi_at, gi_setp_ne, gb_setp_ne, len_setp, sp2_len h, sp2_33 h, sp2_45 h]
theorem sp3_34 {B : Br} {k : Nat} (h : k * 89 + 89 ≤ B.ps.length) : (sp3 B k).gb k 34 = true := by
  unfold sp3
  simp [trLearn, trFwd, gb_at, gi_at, gi_setp_ne, gb_setp_ne, len_setp, sp2_len h, sp2_34 h, sp2_45 h]
theorem sp3_42 {B : Br} {k : Nat} (h : k * 89 + 89 ≤ B.ps.length) : (sp3 B k).gb k 42 = false := by
  unfold sp3
  simp [trLearn, trFwd, gb_at, gi_at, gi_setp_ne, gb_setp_ne, len_setp, sp2_len h, sp2_42 h, sp2_45 h]
theorem sp3_44 {B : Br} {k : Nat} (h : k * 89 + 89 ≤ B.ps.length) : (sp3 B k).gb k 44 = true := by
  unfold sp3
  simp [trLearn, trFwd, gb_at, gi_at, gi_setp_ne, gb_setp_ne, len_setp, sp2_len h, sp2_44 h, sp2_45 h]
theorem sp3_45 {B : Br} {k : Nat} (h : k * 89 + 89 ≤ B.ps.length) : (sp3 B k).gb k 45 = false := by
  unfold sp3
  simp [trLearn, trFwd, gb_at, gi_at, gi_setp_ne, gb_setp_ne, len_setp, sp2_len h, sp2_45 h, sp2_45 h]
theorem sp3_46 {B : Br} {k : Nat} (h : k * 89 + 89 ≤ B.ps.length) : (sp3 B k).gb k 46 = true := by
  unfold sp3
  simp [trLearn, trFwd, gb_at, gi_at, gi_setp_ne, gb_setp_ne, len_setp, sp2_len h, sp2_46 h, sp2_45 h]
theorem sp3_47 {B : Br} {k : Nat} (h : k * 89 + 89 ≤ B.ps.length) : (sp3 B k).gb k 47 = false := by
  unfold sp3
  simp [trLearn, trFwd, gb_at, gi_at, gi_setp_ne, gb_setp_ne, len_setp, sp2_len h, sp2_47 h, sp2_45 h]
theorem sp3_50 {B : Br} {k : Nat} (h : k * 89 + 89 ≤ B.ps.length) : (sp3 B k).gb k 50 = false := by
  unfold sp3
  simp [trLearn, trFwd, gb_at, gi_at, gi_setp_ne, gb_setp_ne, len_setp, sp2_len h, sp2_50 h, sp2_45 h]
theorem sp3_19 {B : Br} {k : Nat} (h : k * 89 + 89 ≤ B.ps.length) : (sp3 B k).gi k 19 = 3 := by
  unfold sp3
  simp [trLearn, trFwd, gb_at, gi_at, gi_setp_ne, gb_setp_ne, len_setp, sp2_len h, sp2_19 h, sp2_45 h]
theorem sp3_87 {B : Br} {k : Nat} (h : k * 89 + 89 ≤ B.ps.length) : (sp3 B k).gi k 87 = 4 := by
  unfold sp3
  simp [trLearn, trFwd, gb_at, gi_at, gi_setp_ne, gb_setp_ne, len_setp, sp2_len h, sp2_87 h, sp2_45 h]
theorem sp3_88 {B : Br} {k : Nat} (h : k * 89 + 89 ≤ B.ps.length) : (sp3 B k).gi k 88 = 4 := by
  unfold sp3
  simp [trLearn, trFwd, gb_at, gi_at, gi_setp_ne, gb_setp_ne, len_setp, sp2_len h, sp2_88 h, sp2_45 h]
def sp4 (B : Br) (k : Nat) : Br := (((sp3 B k).setp k 12 (.int .i64 0)).setp k 47 (.bool true)).setp k 46 (.bool false)
theorem sp3_step {B : Br} {k : Nat} (h : k * 89 + 89 ≤ B.ps.length) : trF (sp3 B k) k = (true, sp4 B k) := by
  have hr : trR (sp3 B k) k = 19 := by unfold trR; simp [trHB, trDes, sp3_22 h, sp3_23 h, sp3_24 h, sp3_26 h, sp3_27 h, sp3_28 h, sp3_29 h, sp3_32 h, sp3_33 h, sp3_34 h, sp3_42 h, sp3_44 h, sp3_45 h, sp3_46 h, sp3_47 h, sp3_50 h, sp3_19 h, sp3_87 h, sp3_88 h]
  unfold trF
  rw [if_pos ⟨sp3_44 h, sp3_50 h⟩, hr]
  rfl
theorem sp4_len {B : Br} {k : Nat} (h : k * 89 + 89 ≤ B.ps.length) : k * 89 + 89 ≤ (sp4 B k).ps.length := by
  unfold sp4
  simp only [trLearn, trFwd, len_setp]
  exact sp3_len h
theorem sp4_np (B : Br) (k : Nat) : (sp4 B k).np = B.np := by
  unfold sp4
  simp only [trLearn, trFwd, np_setp, np_setr, sp3_np]
theorem sp4_hd (B : Br) (k : Nat) : (sp4 B k).hd = B.hd := by
  unfold sp4
  simp only [trLearn, trFwd, hd_setp, hd_setr, sp3_hd]
theorem sp4_hi (B : Br) (k j : Nat) : (sp4 B k).hi j = B.hi j := by
  unfold Br.hi
  rw [sp4_hd]
theorem sp4_22 {B : Br} {k : Nat} (h : k * 89 + 89 ≤ B.ps.length) : (sp4 B k).gb k 22 = false := by
  unfold sp4
  simp [trLearn, trFwd, gb_at, gi_at, gi_setp_ne, gb_setp_ne, len_setp, sp3_len h, sp3_22 h, sp3_45 h]
theorem sp4_23 {B : Br} {k : Nat} (h : k * 89 + 89 ≤ B.ps.length) : (sp4 B k).gb k 23 = false := by
  unfold sp4
  simp [trLearn, trFwd, gb_at, gi_at, gi_setp_ne, gb_setp_ne, len_setp, sp3_len h, sp3_23 h, sp3_45 h]
theorem sp4_24 {B : Br} {k : Nat} (h : k * 89 + 89 ≤ B.ps.length) : (sp4 B k).gb k 24 = false := by
  unfold sp4
  simp [trLearn, trFwd, gb_at, gi_at, gi_setp_ne, gb_setp_ne, len_setp, sp3_len h, sp3_24 h, sp3_45 h]
theorem sp4_26 {B : Br} {k : Nat} (h : k * 89 + 89 ≤ B.ps.length) : (sp4 B k).gb k 26 = false := by
  unfold sp4
  simp [trLearn, trFwd, gb_at, gi_at, gi_setp_ne, gb_setp_ne, len_setp, sp3_len h, sp3_26 h, sp3_45 h]
theorem sp4_27 {B : Br} {k : Nat} (h : k * 89 + 89 ≤ B.ps.length) : (sp4 B k).gb k 27 = false := by
  unfold sp4
  simp [trLearn, trFwd, gb_at, gi_at, gi_setp_ne, gb_setp_ne, len_setp, sp3_len h, sp3_27 h, sp3_45 h]
theorem sp4_28 {B : Br} {k : Nat} (h : k * 89 + 89 ≤ B.ps.length) : (sp4 B k).gb k 28 = false := by
  unfold sp4
  simp [trLearn, trFwd, gb_at, gi_at, gi_setp_ne, gb_setp_ne, len_setp, sp3_len h, sp3_28 h, sp3_45 h]
theorem sp4_29 {B : Br} {k : Nat} (h : k * 89 + 89 ≤ B.ps.length) : (sp4 B k).gb k 29 = false := by
  unfold sp4
  simp [trLearn, trFwd, gb_at, gi_at, gi_setp_ne, gb_setp_ne, len_setp, sp3_len h, sp3_29 h, sp3_45 h]
theorem sp4_32 {B : Br} {k : Nat} (h : k * 89 + 89 ≤ B.ps.length) : (sp4 B k).gb k 32 = false := by
  unfold sp4
  simp [trLearn, trFwd, gb_at, gi_at, gi_setp_ne, gb_setp_ne, len_setp, sp3_len h, sp3_32 h, sp3_45 h]
theorem sp4_33 {B : Br} {k : Nat} (h : k * 89 + 89 ≤ B.ps.length) : (sp4 B k).gb k 33 = false := by
  unfold sp4
  simp [trLearn, trFwd, gb_at, gi_at, gi_setp_ne, gb_setp_ne, len_setp, sp3_len h, sp3_33 h, sp3_45 h]
theorem sp4_34 {B : Br} {k : Nat} (h : k * 89 + 89 ≤ B.ps.length) : (sp4 B k).gb k 34 = true := by
  unfold sp4
  simp [trLearn, trFwd, gb_at, gi_at, gi_setp_ne, gb_setp_ne, len_setp, sp3_len h, sp3_34 h, sp3_45 h]
theorem sp4_42 {B : Br} {k : Nat} (h : k * 89 + 89 ≤ B.ps.length) : (sp4 B k).gb k 42 = false := by
  unfold sp4
  simp [trLearn, trFwd, gb_at, gi_at, gi_setp_ne, gb_setp_ne, len_setp, sp3_len h, sp3_42 h, sp3_45 h]
theorem sp4_44 {B : Br} {k : Nat} (h : k * 89 + 89 ≤ B.ps.length) : (sp4 B k).gb k 44 = true := by
  unfold sp4
  simp [trLearn, trFwd, gb_at, gi_at, gi_setp_ne, gb_setp_ne, len_setp, sp3_len h, sp3_44 h, sp3_45 h]
theorem sp4_45 {B : Br} {k : Nat} (h : k * 89 + 89 ≤ B.ps.length) : (sp4 B k).gb k 45 = false := by
  unfold sp4
  simp [trLearn, trFwd, gb_at, gi_at, gi_setp_ne, gb_setp_ne, len_setp, sp3_len h, sp3_45 h, sp3_45 h]
theorem sp4_46 {B : Br} {k : Nat} (h : k * 89 + 89 ≤ B.ps.length) : (sp4 B k).gb k 46 = false := by
  unfold sp4
  simp [trLearn, trFwd, gb_at, gi_at, gi_setp_ne, gb_setp_ne, len_setp, sp3_len h, sp3_46 h, sp3_45 h]
theorem sp4_47 {B : Br} {k : Nat} (h : k * 89 + 89 ≤ B.ps.length) : (sp4 B k).gb k 47 = true := by
  unfold sp4
  simp [trLearn, trFwd, gb_at, gi_at, gi_setp_ne, gb_setp_ne, len_setp, sp3_len h, sp3_47 h, sp3_45 h]
theorem sp4_50 {B : Br} {k : Nat} (h : k * 89 + 89 ≤ B.ps.length) : (sp4 B k).gb k 50 = false := by
  unfold sp4
  simp [trLearn, trFwd, gb_at, gi_at, gi_setp_ne, gb_setp_ne, len_setp, sp3_len h, sp3_50 h, sp3_45 h]
theorem sp4_12 {B : Br} {k : Nat} (h : k * 89 + 89 ≤ B.ps.length) : (sp4 B k).gi k 12 = 0 := by
  unfold sp4
  simp [trLearn, trFwd, gb_at, gi_at, gi_setp_ne, gb_setp_ne, len_setp, sp3_len h, sp3_45 h]
theorem sp4_19 {B : Br} {k : Nat} (h : k * 89 + 89 ≤ B.ps.length) : (sp4 B k).gi k 19 = 3 := by
  unfold sp4
  simp [trLearn, trFwd, gb_at, gi_at, gi_setp_ne, gb_setp_ne, len_setp, sp3_len h, sp3_19 h, sp3_45 h]
theorem sp4_87 {B : Br} {k : Nat} (h : k * 89 + 89 ≤ B.ps.length) : (sp4 B k).gi k 87 = 4 := by
  unfold sp4
  simp [trLearn, trFwd, gb_at, gi_at, gi_setp_ne, gb_setp_ne, len_setp, sp3_len h, sp3_87 h, sp3_45 h]
theorem sp4_88 {B : Br} {k : Nat} (h : k * 89 + 89 ≤ B.ps.length) : (sp4 B k).gi k 88 = 4 := by
  unfold sp4
  simp [trLearn, trFwd, gb_at, gi_at, gi_setp_ne, gb_setp_ne, len_setp, sp3_len h, sp3_88 h, sp3_45 h]

theorem op_fb : Try.prog.built 49 [(22, .bool true), (1, .bool true), (25, .bool true), (23, .bool true)] = some (flags [22, 1, 25, 23]).toArray := by kernel_rfl
theorem op0_ok {B : Br} (ho : B.ok) {k : Nat} (hk : k < B.np) : (op0 B k).ok := (((flags_typed ho hk _).setI (k := k) hk 87 .i64 4 rfl (by decide)).setI (k := k) hk 88 .i64 4 rfl (by decide)).setI (k := k) hk 19 .i64 3 rfl (by decide)
theorem sp_fb : Try.prog.built 49 [(22, .bool true), (24, .bool true), (6, .bool true), (4, .bool true), (7, .bool true), (5, .bool true)] = some (flags [22, 24, 6, 4, 7, 5]).toArray := by kernel_rfl
theorem sp0_ok {B : Br} (ho : B.ok) {k : Nat} (hk : k < B.np) : (sp0 B k).ok := (((flags_typed ho hk _).setI (k := k) hk 87 .i64 4 rfl (by decide)).setI (k := k) hk 88 .i64 4 rfl (by decide)).setI (k := k) hk 19 .i64 3 rfl (by decide)
end Go.Proofs.Ytnblchilgaimhaa
