/- What further laws of role transitions set, and the steps behind it. No statement is proved here. -/
import Derived.Test.YtnblchilgaimhaaTrR
namespace Go.Proofs.Ytnblchilgaimhaa
open Go.RowKit Go.BigFrame Go.WideShapes Go.ChangeShapes Go.Deep
set_option linter.unusedVariables false
set_option linter.unusedSimpArgs false

theorem trF_idle {B : Br} {k : Nat} (h : ¬ (B.gb k 44 = true ∧ B.gb k 50 = false)) : trF B k = (false, B) := if_neg h
theorem wait_x {B : Br} {k : Nat} (h : k * 89 + 89 ≤ B.ps.length) : trF (B.setp k 44 (.bool false)) k = (false, B.setp k 44 (.bool false)) :=
  trF_idle (by rw [gb_setp_same _ _ _ _ (by omega)]; simp)
theorem wait_y {B : Br} {k : Nat} (h : k * 89 + 89 ≤ B.ps.length) : trF (B.setp k 50 (.bool true)) k = (false, B.setp k 50 (.bool true)) :=
  trF_idle (by rw [gb_setp_same (B := B) _ _ _ (by omega)]; simp)

def bl0 (B : Br) (k : Nat) (r : Int) : Br := (((((B.setp k 44 (.bool true)).setp k 50 (.bool false)).setp k 88 (.int .i64 r)).setp k 87 (.int .i64 4)).setp k 29 (.bool false)).setp k 27 (.bool false)
theorem bl0_np (B : Br) (k : Nat) (r : Int) : (bl0 B k r).np = B.np := by unfold bl0; simp only [np_setp]
theorem bl0_hi (B : Br) (k : Nat) (r : Int) (j : Nat) : (bl0 B k r).hi j = B.hi j := by unfold bl0; simp only [hi_setp]
theorem bl0_ok {B : Br} (ho : B.ok) {k : Nat} (hk : k < B.np) {r : Int} (hr : (Lit.int .i64 r).wf = true) : (bl0 B k r).ok :=
  (((((ho.setB hk 44 true rfl).setB (k := k) hk 50 false rfl).setI (k := k) hk 88 .i64 r rfl hr).setI (k := k) hk 87 .i64 4 rfl (by decide)).setB (k := k) hk 29 false rfl).setB (k := k) hk 27 false rfl
structure BlA (Z : Br) (k : Nat) (r : Int) : Prop where
  c44 : Z.gb k 44 = true
  c50 : Z.gb k 50 = false
  c88 : Z.gi k 88 = r
  c87 : Z.gi k 87 = r
  c28 : Z.gb k 28 = false
  c26 : Z.gb k 26 = false
  c29 : Z.gb k 29 = false
  c27 : Z.gb k 27 = false
def Bl1 (Z : Br) (k : Nat) (r : Int) : Prop := BlA Z k r ∧ ((r = 0 ∧ Z.gi k 19 = 0) ∨ (r ≠ 0 ∧ Z.gi k 19 = 4))
def Bl2 (Z : Br) (k : Nat) (r : Int) : Prop := BlA Z k r ∧ Z.gb k 47 = true ∧ Z.gb k 42 = false ∧ Z.gi k 12 = 0 ∧ (Z.gi k 19 = 1 ∨ Z.gi k 19 = 5)
theorem bl_first {B : Br} {k : Nat} {r : Int} (h89 : k * 89 + 89 ≤ B.ps.length) (hr : r = 0 ∨ r = 1 ∨ r = 2) : Bl1 (trF (bl0 B k r) k).2 k r := by
  have hl : k * 89 + 89 ≤ (bl0 B k r).ps.length := by unfold bl0; simp only [len_setp]; exact h89
  have c44 : (bl0 B k r).gb k 44 = true := by unfold bl0; simp [gb_at, gi_at, gi_setp_ne, gb_setp_ne, len_setp, upd_len, h89, hi_setp, hb_setp, hi_upd, hb_upd]
  have c50 : (bl0 B k r).gb k 50 = false := by unfold bl0; simp [gb_at, gi_at, gi_setp_ne, gb_setp_ne, len_setp, upd_len, h89, hi_setp, hb_setp, hi_upd, hb_upd]
  have c88 : (bl0 B k r).gi k 88 = r := by unfold bl0; simp [gb_at, gi_at, gi_setp_ne, gb_setp_ne, len_setp, upd_len, h89, hi_setp, hb_setp, hi_upd, hb_upd]
  have c87 : (bl0 B k r).gi k 87 = 4 := by unfold bl0; simp [gb_at, gi_at, gi_setp_ne, gb_setp_ne, len_setp, upd_len, h89, hi_setp, hb_setp, hi_upd, hb_upd]
  have c29 : (bl0 B k r).gb k 29 = false := by unfold bl0; simp [gb_at, gi_at, gi_setp_ne, gb_setp_ne, len_setp, upd_len, h89, hi_setp, hb_setp, hi_upd, hb_upd]
  have c27 : (bl0 B k r).gb k 27 = false := by unfold bl0; simp [gb_at, gi_at, gi_setp_ne, gb_setp_ne, len_setp, upd_len, h89, hi_setp, hb_setp, hi_upd, hb_upd]
  generalize bl0 B k r = Z at *
  clear h89
  have h89 := hl
  unfold trF
  rw [if_pos ⟨c44, c50⟩]
  rcases hr with rfl | rfl | rfl
  · have hR : trR Z k = 0 := by unfold trR; simp [trHB, c88, c87]
    rw [hR]
    refine ⟨⟨?_, ?_, ?_, ?_, ?_, ?_, ?_, ?_⟩, .inl ⟨rfl, ?_⟩⟩ <;> simp [trRow, trN, trAB, trStop, trSettle, trAskAll, trReAll, trAgree, trLearn, trFwd, gb_at, gi_at, gi_setp_ne, gb_setp_ne, len_setp, upd_len, h89, hi_setp, hb_setp, hi_upd, hb_upd, c44, c50, c88, c29, c27]
  · have hR : trR Z k = 3 := by unfold trR; simp [trHB, c88, c87]
    rw [hR]
    refine ⟨⟨?_, ?_, ?_, ?_, ?_, ?_, ?_, ?_⟩, .inr ⟨by decide, ?_⟩⟩ <;> simp [trRow, trN, trAB, trStop, trSettle, trAskAll, trReAll, trAgree, trLearn, trFwd, gb_at, gi_at, gi_setp_ne, gb_setp_ne, len_setp, upd_len, h89, hi_setp, hb_setp, hi_upd, hb_upd, c44, c50, c88, c29, c27]
  · have hR : trR Z k = 3 := by unfold trR; simp [trHB, c88, c87]
    rw [hR]
    refine ⟨⟨?_, ?_, ?_, ?_, ?_, ?_, ?_, ?_⟩, .inr ⟨by decide, ?_⟩⟩ <;> simp [trRow, trN, trAB, trStop, trSettle, trAskAll, trReAll, trAgree, trLearn, trFwd, gb_at, gi_at, gi_setp_ne, gb_setp_ne, len_setp, upd_len, h89, hi_setp, hb_setp, hi_upd, hb_upd, c44, c50, c88, c29, c27]
theorem bl_second {Z : Br} {k : Nat} {r : Int} (h89 : k * 89 + 89 ≤ Z.ps.length) (h : Bl1 Z k r) : Bl2 (trF Z k).2 k r := by
  obtain ⟨⟨c44, c50, c88, c87, c28, c26, c29, c27⟩, hs⟩ := h
  have hro : trRole Z k = false := trRole_of (c87.trans c88.symm)
  have h0 : trHB Z k 0 = false ∧ trHB Z k 1 = false ∧ trHB Z k 2 = false ∧ trHB Z k 3 = false := by
    unfold trRole at hro
    simpa [Bool.or_eq_false_iff, and_assoc] using hro
  unfold trF
  rw [if_pos ⟨c44, c50⟩]
  rcases hs with ⟨rfl, hs⟩ | ⟨hne, hs⟩
  · have hR : trR Z k = 4 := by unfold trR; simp [h0.1, h0.2.1, h0.2.2.1, h0.2.2.2, hs]; simp [trHB, c29, c27]
    rw [hR]
    refine ⟨⟨?_, ?_, ?_, ?_, ?_, ?_, ?_, ?_⟩, ?_, ?_, ?_, .inl ?_⟩ <;> simp [trRow, trN, trAB, trStop, trSettle, trAskAll, trReAll, trAgree, trLearn, trFwd, gb_at, gi_at, gi_setp_ne, gb_setp_ne, len_setp, upd_len, h89, hi_setp, hb_setp, hi_upd, hb_upd, c44, c50, c88, c87, c28, c26, c29, c27]
  · have hR : trR Z k = 6 := by unfold trR; simp [h0.1, h0.2.1, h0.2.2.1, h0.2.2.2, hs]; simp [trHB, c29, c27]
    rw [hR]
    refine ⟨⟨?_, ?_, ?_, ?_, ?_, ?_, ?_, ?_⟩, ?_, ?_, ?_, .inr ?_⟩ <;> simp [trRow, trN, trAB, trStop, trSettle, trAskAll, trReAll, trAgree, trLearn, trFwd, gb_at, gi_at, gi_setp_ne, gb_setp_ne, len_setp, upd_len, h89, hi_setp, hb_setp, hi_upd, hb_upd, c44, c50, c88, c87, c28, c26, c29, c27]
theorem bl_more {Z : Br} {k : Nat} {r : Int} (ho : Z.ok) (hk : k < Z.np) (h : Bl2 Z k r) : Bl2 (trF Z k).2 k r := by
  have h89 := len89 ho hk
  have h' := h
  obtain ⟨⟨c44, c50, c88, c87, c28, c26, c29, c27⟩, c47, c42, c12, hs⟩ := h
  have hro : trRole Z k = false := trRole_of (c87.trans c88.symm)
  unfold trF
  rw [if_pos ⟨c44, c50⟩]
  obtain ⟨q, hq⟩ : ∃ q, trR Z k = q := ⟨_, rfl⟩
  have hle := trR_le (B := Z) (k := k)
  rw [hq] at hle ⊢
  by_cases h24 : q = 24
  · subst h24
    exact h'
  by_cases h4 : q < 4
  · exfalso
    have hy := trR_yes (B := Z) (k := k) (by omega)
    rw [hq] at hy
    unfold trRole at hro
    simp only [Bool.or_eq_false_iff] at hro
    rcases (by omega : q = 0 ∨ q = 1 ∨ q = 2 ∨ q = 3) with rfl | rfl | rfl | rfl <;> simp_all
  · obtain ⟨hst, -, -⟩ := trR_state hq (by omega) (by omega)
    have hq5 : q = 5 ∨ q = 7 ∨ q = 8 ∨ q = 9 ∨ q = 10 := by
      rcases (by omega : q = 4 ∨ q = 5 ∨ q = 6 ∨ q = 7 ∨ q = 8 ∨ q = 9 ∨ q = 10 ∨ q = 11 ∨ q = 12 ∨ q = 13 ∨ q = 14 ∨ q = 15 ∨ q = 16 ∨ q = 17 ∨ q = 18 ∨ q = 19 ∨ q = 20 ∨ q = 21 ∨ q = 22 ∨ q = 23) with rfl | rfl | rfl | rfl | rfl | rfl | rfl | rfl | rfl | rfl | rfl | rfl | rfl | rfl | rfl | rfl | rfl | rfl | rfl | rfl <;> simp only [trS] at hst <;> omega
    rcases hq5 with rfl | rfl | rfl | rfl | rfl
    · refine ⟨⟨?_, ?_, ?_, ?_, ?_, ?_, ?_, ?_⟩, ?_, ?_, ?_, .inl ?_⟩ <;> simp [trRow, trN, trAB, trStop, trSettle, trAskAll, trReAll, trAgree, trLearn, trFwd, gb_at, gi_at, gi_setp_ne, gb_setp_ne, len_setp, upd_len, h89, hi_setp, hb_setp, hi_upd, hb_upd, c44, c50, c88, c87, c28, c26, c29, c27]
    · refine ⟨⟨?_, ?_, ?_, ?_, ?_, ?_, ?_, ?_⟩, ?_, ?_, ?_, ?_⟩ <;> simp [trRow, trN, trAB, trStop, trSettle, trAskAll, trReAll, trAgree, trLearn, trFwd, gb_at, gi_at, gi_setp_ne, gb_setp_ne, len_setp, upd_len, h89, hi_setp, hb_setp, hi_upd, hb_upd, gb_all ho hk, gi_all ho, c44, c50, c88, c87, c28, c26, c29, c27, c47, c42, c12, hs]
    · refine ⟨⟨?_, ?_, ?_, ?_, ?_, ?_, ?_, ?_⟩, ?_, ?_, ?_, ?_⟩ <;> simp [trRow, trN, trAB, trStop, trSettle, trAskAll, trReAll, trAgree, trLearn, trFwd, gb_at, gi_at, gi_setp_ne, gb_setp_ne, len_setp, upd_len, h89, hi_setp, hb_setp, hi_upd, hb_upd, c44, c50, c88, c87, c28, c26, c29, c27, c47, c42, c12, hs]
    · refine ⟨⟨?_, ?_, ?_, ?_, ?_, ?_, ?_, ?_⟩, ?_, ?_, ?_, ?_⟩ <;> simp [trRow, trN, trAB, trStop, trSettle, trAskAll, trReAll, trAgree, trLearn, trFwd, gb_at, gi_at, gi_setp_ne, gb_setp_ne, len_setp, upd_len, h89, hi_setp, hb_setp, hi_upd, hb_upd, c44, c50, c88, c87, c28, c26, c29, c27, c47, c42, c12, hs]
    · refine ⟨⟨?_, ?_, ?_, ?_, ?_, ?_, ?_, ?_⟩, ?_, ?_, ?_, .inr ?_⟩ <;> simp [trRow, trN, trAB, trStop, trSettle, trAskAll, trReAll, trAgree, trLearn, trFwd, gb_at, gi_at, gi_setp_ne, gb_setp_ne, len_setp, upd_len, h89, hi_setp, hb_setp, hi_upd, hb_upd, c44, c50, c88, c87, c28, c26, c29, c27]
theorem bl_all {B : Br} (ho : B.ok) {k : Nat} (hk : k < B.np) (h4 : 0 ≤ B.hi 4 ∧ B.hi 4 ≤ 1000) {r : Int} (hr : r = 0 ∨ r = 1 ∨ r = 2) : ∀ n, Bl2 (trIt (bl0 B k r) k (n + 2)) k r := by
  have hrw : (Lit.int .i64 r).wf = true := by rcases hr with rfl | rfl | rfl <;> decide
  have hok := bl0_ok ho hk hrw
  have hk0 : k < (bl0 B k r).np := by rw [bl0_np]; exact hk
  have h40 : 0 ≤ (bl0 B k r).hi 4 ∧ (bl0 B k r).hi 4 ≤ 1000 := by rw [bl0_hi]; exact h4
  intro n
  induction n with
  | zero =>
    obtain ⟨i1, i2, i3⟩ := trIt_inv hok hk0 h40 1
    exact bl_second (len89 i1 (by rw [i2]; exact hk0)) (bl_first (len89 ho hk) hr)
  | succ n ih =>
    obtain ⟨i1, i2, i3⟩ := trIt_inv hok hk0 h40 (n + 2)
    exact bl_more i1 (by rw [i2]; exact hk0) ih
theorem bl_any {B : Br} (ho : B.ok) {k : Nat} (hk : k < B.np) (h4 : 0 ≤ B.hi 4 ∧ B.hi 4 ≤ 1000) {r : Int} (hr : r = 0 ∨ r = 1 ∨ r = 2) : ∀ n, BlA (trIt (bl0 B k r) k (n + 1)) k r
  | 0 => (bl_first (len89 ho hk) hr).1
  | n + 1 => (bl_all ho hk h4 hr n).1

/-! ### A port that is proposed to -/
def ag0 (B : Br) (k : Nat) : Br := (((((B.setp k 44 (.bool true)).setp k 50 (.bool false)).setp k 88 (.int .i64 3)).setp k 87 (.int .i64 3)).setp k 19 (.int .i64 2)).setp k 33 (.bool true)
theorem ag0_np (B : Br) (k : Nat) : (ag0 B k).np = B.np := by unfold ag0; simp only [np_setp]
theorem ag0_hi (B : Br) (k j : Nat) : (ag0 B k).hi j = B.hi j := by unfold ag0; simp only [hi_setp]
theorem ag0_ok {B : Br} (ho : B.ok) {k : Nat} (hk : k < B.np) : (ag0 B k).ok :=
  (((((ho.setB hk 44 true rfl).setB (k := k) hk 50 false rfl).setI (k := k) hk 88 .i64 3 rfl (by decide)).setI (k := k) hk 87 .i64 3 rfl (by decide)).setI (k := k) hk 19 .i64 2 rfl (by decide)).setB (k := k) hk 33 true rfl
theorem ag0_cells {B : Br} {k : Nat} (h89 : k * 89 + 89 ≤ B.ps.length) : (ag0 B k).gb k 44 = true ∧ (ag0 B k).gb k 50 = false ∧ (ag0 B k).gi k 88 = 3 ∧ (ag0 B k).gi k 87 = 3 ∧ (ag0 B k).gi k 19 = 2 ∧ (ag0 B k).gb k 33 = true ∧ (ag0 B k).gb k 22 = B.gb k 22 ∧ k * 89 + 89 ≤ (ag0 B k).ps.length := by
  unfold ag0
  refine ⟨?_, ?_, ?_, ?_, ?_, ?_, ?_, ?_⟩ <;> simp [gb_at, gi_at, gi_setp_ne, gb_setp_ne, len_setp, upd_len, h89, hi_setp, hb_setp, hi_upd, hb_upd]
theorem ag_t {B : Br} {k : Nat} (h : k * 89 + 89 ≤ B.ps.length) (h22 : B.gb k 22 = true) : trF (ag0 B k) k = (true, (trAgree (ag0 B k) k).setp k 46 (.bool false)) := by
  obtain ⟨c44, c50, c88, c87, c19, c33, c22, hl⟩ := ag0_cells h
  rw [h22] at c22
  have hR : trR (ag0 B k) k = 12 := by unfold trR; simp [trHB, trAgs, c88, c87, c19, c33, c22]
  unfold trF
  rw [if_pos ⟨c44, c50⟩, hR]
  rfl
theorem ag_f {B : Br} {k : Nat} (h : k * 89 + 89 ≤ B.ps.length) (h22 : B.gb k 22 = false) : trF (ag0 B k) k = (true, trAskAll (ag0 B k) k) := by
  obtain ⟨c44, c50, c88, c87, c19, c33, c22, hl⟩ := ag0_cells h
  rw [h22] at c22
  have hR : trR (ag0 B k) k = 11 := by unfold trR; simp [trHB, trAgs, c88, c87, c19, c33, c22]
  unfold trF
  rw [if_pos ⟨c44, c50⟩, hR]
  rfl
def agA (B : Br) (k : Nat) : Br := trAskAll (ag0 B k) k
theorem agA_np (B : Br) (k : Nat) : (agA B k).np = B.np := by unfold agA trAskAll; rw [np_setp, upd_np, ag0_np]
theorem agA_ok {B : Br} (ho : B.ok) {k : Nat} (hk : k < B.np) : (agA B k).ok :=
  (upd_flag_ok (ag0_ok ho hk) 46 (by decide) rfl _ (Nat.le_refl _)).setB (k := k) (by rw [upd_np, ag0_np]; exact hk) 33 false rfl
theorem agA_46 {B : Br} (ho : B.ok) {k n : Nat} (hk : k < B.np) (hn : n < B.np) : (agA B k).gb n 46 = true := by
  have ok0 := ag0_ok ho hk
  have hl : (ag0 B k).np * 89 ≤ (ag0 B k).ps.length := by rw [ok0.len]; exact Nat.le_refl _
  unfold agA trAskAll
  have e : ((ag0 B k).upd 46 (fun _ => .bool true) (ag0 B k).np).gb n 46 = true := upd_gb _ (by decide) (fun _ => true) hl (by rw [ag0_np]; exact hn)
  by_cases hkn : k = n
  · subst hkn
    rw [gb_setp_ne _ _ _ _ _ (by decide), e]
  · rw [gb_setp_port _ _ hkn (by decide) (by decide), e]
theorem agA_cells {B : Br} (ho : B.ok) {k : Nat} (hk : k < B.np) (h22 : B.gb k 22 = false) : (agA B k).gb k 50 = false ∧ (agA B k).gi k 87 = 3 ∧ (agA B k).gi k 19 = 2 ∧ (agA B k).gb k 33 = false ∧ (agA B k).gb k 22 = false := by
  have ok0 := ag0_ok ho hk
  have hk0 : k < (ag0 B k).np := by rw [ag0_np]; exact hk
  obtain ⟨c44, c50, c88, c87, c19, c33, c22, h89⟩ := ag0_cells (len89 ho hk)
  rw [h22] at c22
  unfold agA
  generalize ag0 B k = Z at *
  refine ⟨?_, ?_, ?_, ?_, ?_⟩ <;> simp [trRow, trN, trAB, trStop, trSettle, trAskAll, trReAll, trAgree, trLearn, trFwd, gb_at, gi_at, gi_setp_ne, gb_setp_ne, len_setp, upd_len, h89, hi_setp, hb_setp, hi_upd, hb_upd, gb_all ok0 hk0, gi_all ok0, c50, c87, c19, c22]
theorem syn3_gb_ne (B : Br) (k j : Nat) (hj : j < 89) (h1 : j ≠ 44) (h2 : j ≠ 47) (h3 : j ≠ 88) : ∀ n, (syn3 B n).gb k j = B.gb k j
  | 0 => rfl
  | n + 1 => by
    have ih := syn3_gb_ne B k j hj h1 h2 h3 n
    have s : ∀ (Z : Br) (q : Nat) (v : Value), q < 89 → j ≠ q → (Z.setp n q v).gb k j = Z.gb k j := fun Z q v hq hne => by
      by_cases e : n = k
      · subst e; exact gb_setp_ne _ _ _ _ _ (Ne.symm hne)
      · exact gb_setp_port _ _ e hq hj
    unfold syn3
    rw [s _ 88 _ (by decide) h3, s _ 47 _ (by decide) h2, s _ 44 _ (by decide) h1, ih]
theorem syn3_gi_ne (B : Br) (k j : Nat) (hj : j < 89) (h1 : j ≠ 44) (h2 : j ≠ 47) (h3 : j ≠ 88) : ∀ n, (syn3 B n).gi k j = B.gi k j
  | 0 => rfl
  | n + 1 => by
    have ih := syn3_gi_ne B k j hj h1 h2 h3 n
    have s : ∀ (Z : Br) (q : Nat) (v : Value), q < 89 → j ≠ q → (Z.setp n q v).gi k j = Z.gi k j := fun Z q v hq hne => by
      by_cases e : n = k
      · subst e; exact gi_setp_ne _ _ _ _ _ (Ne.symm hne)
      · exact gi_setp_port _ _ e hq hj
    unfold syn3
    rw [s _ 88 _ (by decide) h3, s _ 47 _ (by decide) h2, s _ 44 _ (by decide) h1, ih]
theorem syn3_hi (B : Br) (j : Nat) : ∀ n, (syn3 B n).hi j = B.hi j
  | 0 => rfl
  | n + 1 => syn3_hi B j n
theorem syn3_swap (B : Br) (n : Nat) : (((syn3 B n).setp n 44 (.bool true)).setp n 88 (.int .i64 ((syn3 B n).gi n 87))).setp n 47 (.bool true) = syn3 B (n + 1) := setp_sort _ _ _ _ (by decide)
/-- All are in step, and the port is proposed to no more: it agrees. -/
theorem ag_last {B Z : Br} (ho : B.ok) {k : Nat} (hk : k < B.np) (h22 : B.gb k 22 = false) (hZ : syn3 (agA B k) B.np = Z) : trF Z k = (true, (trAgree Z k).setp k 46 (.bool false)) := by
  have okA := agA_ok ho hk
  have hn := agA_np B k
  obtain ⟨a50, a87, a19, a33, a22⟩ := agA_cells ho hk h22
  have hall := syn3_all (B := agA B k) (Z := Z) okA (by rw [hn]; exact hZ) (by rw [← hZ, syn3_np])
  have hnp : Z.np = B.np := by rw [← hZ, syn3_np, hn]
  obtain ⟨s44, s47, s88⟩ := syn3_of okA B.np (by rw [hn]; exact Nat.le_refl _) k hk
  have c50 : Z.gb k 50 = false := by rw [← hZ, syn3_gb_ne _ _ _ (by decide) (by decide) (by decide) (by decide), a50]
  have c33 : Z.gb k 33 = false := by rw [← hZ, syn3_gb_ne _ _ _ (by decide) (by decide) (by decide) (by decide), a33]
  have c22 : Z.gb k 22 = false := by rw [← hZ, syn3_gb_ne _ _ _ (by decide) (by decide) (by decide) (by decide), a22]
  have c87 : Z.gi k 87 = 3 := by rw [← hZ, syn3_gi_ne _ _ _ (by decide) (by decide) (by decide) (by decide), a87]
  have c19 : Z.gi k 19 = 2 := by rw [← hZ, syn3_gi_ne _ _ _ (by decide) (by decide) (by decide) (by decide), a19]
  rw [hZ] at s44 s88
  rw [a87] at s88
  have hA : trAll Z = true := (trAll_iff Z).2 hall
  have hR : trR Z k = 12 := by unfold trR; simp [trHB, trAgs, s88, c87, c19, c33, c22, hA]
  unfold trF
  rw [if_pos ⟨s44, c50⟩, hR]
  rfl

end Go.Proofs.Ytnblchilgaimhaa
