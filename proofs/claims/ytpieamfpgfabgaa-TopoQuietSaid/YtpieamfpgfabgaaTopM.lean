/- What TopoFlushes sets, and the steps behind it. No statement is proved here. -/
import Derived.Test.YtpieamfpgfabgaaTopL
namespace Go.Proofs.Ytpieamfpgfabgaa
open Go.RowKit Go.BigFrame Go.WideShapes Go.ChangeShapes Go.Deep
set_option linter.unusedVariables false
set_option linter.unusedSimpArgs false

theorem flush_np (Z : Br) (k : Nat) : (Z.flush k).np = Z.np := rfl
theorem flush_hd (Z : Br) (k : Nat) : (Z.flush k).hd = Z.hd := rfl
theorem flush_nf (Z : Br) (k : Nat) : (Z.flush k).nf = Z.nf + 1 := rfl
theorem flush_fl (Z : Br) (k : Nat) : (Z.flush k).fl = Z.fl ++ [.int .i64 k] := rfl
theorem setp_nf (Z : Br) (k j : Nat) (v : Value) : (Z.setp k j v).nf = Z.nf := rfl
theorem setp_fl (Z : Br) (k j : Nat) (v : Value) : (Z.setp k j v).fl = Z.fl := rfl
def tf0 (B : Br) (k : Nat) : Br := ((((((((B.setp k 21 (.int .i64 2)).setp k 87 (.int .i64 4)).setp k 32 (.bool false)).setp k 25 (.bool false)).setp k 39 (.bool false)).setp k 41 (.bool false)).setp k 40 (.bool false)).setp k 49 (.bool true))
theorem tf0_ok {B : Br} (ho : B.ok) {k : Nat} (hk : k < B.np) : (tf0 B k).ok := ((((((((ho.setI (k := k) hk 21 .i64 2 rfl (by decide)).setI (k := k) hk 87 .i64 4 rfl (by decide)).setB (k := k) hk 32 false rfl).setB (k := k) hk 25 false rfl).setB (k := k) hk 39 false rfl).setB (k := k) hk 41 false rfl).setB (k := k) hk 40 false rfl).setB (k := k) hk 49 true rfl)
theorem tf0_np (B : Br) (k : Nat) : (tf0 B k).np = B.np := by unfold tf0; simp only [np_setp]
theorem tf0_hd (B : Br) (k : Nat) : (tf0 B k).hd = B.hd := by unfold tf0; simp only [hd_setp]
theorem tf0_nf (B : Br) (k : Nat) : (tf0 B k).nf = B.nf ∧ (tf0 B k).fl = B.fl := by unfold tf0 Br.setp; exact ⟨rfl, rfl⟩
theorem tf0_len (B : Br) (k : Nat) : (tf0 B k).ps.length = B.ps.length := by unfold tf0; simp only [len_setp]
theorem tf0_cells {B : Br} {k : Nat} (h89 : k * 89 + 89 ≤ B.ps.length) : (tf0 B k).gi k 21 = 2 ∧ (tf0 B k).gi k 87 = 4 ∧ (tf0 B k).gb k 32 = false ∧ (tf0 B k).gb k 25 = false ∧ (tf0 B k).gb k 39 = false ∧ (tf0 B k).gb k 41 = false ∧ (tf0 B k).gb k 40 = false ∧ (tf0 B k).gb k 49 = true ∧ (tf0 B k).gi k 13 = B.gi k 13 := by
  unfold tf0
  refine ⟨?_, ?_, ?_, ?_, ?_, ?_, ?_, ?_, ?_⟩ <;> simp [gb_at, gi_at, gi_setp_ne, gb_setp_ne, len_setp, h89]
def tf1 (B : Br) (k : Nat) : Br := tspread (tf0 B k) k
def tf2 (B : Br) (k : Nat) : Br := ((tf1 B k).flush k).setp k 25 (.bool false)
theorem tf0_step {B : Br} {k : Nat} (h89 : k * 89 + 89 ≤ B.ps.length) : topF (tf0 B k) k = (true, tf1 B k) := by
  obtain ⟨c21, c87, c32, c25, c39, c41, c40, c49, -⟩ := tf0_cells h89
  have ha : act2 (tf0 B k) k = 4 := by unfold act2; rw [c87, c32, c41, c39, c49, c40]; rfl
  unfold topF topN
  rw [c25, c21, ha]
  rfl
theorem tf1_cells {B : Br} {k : Nat} (h89 : k * 89 + 89 ≤ B.ps.length) : (tf1 B k).gi k 21 = 2 ∧ (tf1 B k).gi k 87 = 4 ∧ (tf1 B k).gb k 32 = false ∧ (tf1 B k).gb k 25 = true ∧ (tf1 B k).gb k 39 = false ∧ (tf1 B k).gb k 41 = false ∧ (tf1 B k).gb k 40 = false ∧ (tf1 B k).gb k 49 = false ∧ (tf1 B k).gi k 13 = (tbegin (tf0 B k) k).gi k 13 ∧ (tf1 B k).ps.length = B.ps.length := by
  obtain ⟨c21, c87, c32, c25, c39, c41, c40, c49, -⟩ := tf0_cells h89
  have gb : ∀ j, j ≠ 31 → j ≠ 13 → (tbegin (tf0 B k) k).gb k j = (tf0 B k).gb k j := fun j b c => tbegin_gb k j b c
  have gi : ∀ j, j ≠ 31 → j ≠ 13 → (tbegin (tf0 B k) k).gi k j = (tf0 B k).gi k j := fun j b c => tbegin_gi2 _ k j b c
  have hl : (tbegin (tf0 B k) k).ps.length = B.ps.length := by rw [tbegin_len, tf0_len]
  unfold tf1 tspread
  generalize tbegin (tf0 B k) k = C at *
  have h9 : k * 89 + 89 ≤ C.ps.length := by rw [hl]; exact h89
  refine ⟨?_, ?_, ?_, ?_, ?_, ?_, ?_, ?_, ?_, ?_⟩
  · rw [gi_setp_ne _ _ _ _ _ (by decide), gi_setp_ne _ _ _ _ _ (by decide), gi 21 (by decide) (by decide), c21]
  · rw [gi_setp_ne _ _ _ _ _ (by decide), gi_setp_ne _ _ _ _ _ (by decide), gi 87 (by decide) (by decide), c87]
  · rw [gb_setp_ne _ _ _ _ _ (by decide), gb_setp_ne _ _ _ _ _ (by decide), gb 32 (by decide) (by decide), c32]
  · rw [gb_setp_ne _ _ _ _ _ (by decide), gb_setp_same _ _ _ _ (by omega)]
  · rw [gb_setp_ne _ _ _ _ _ (by decide), gb_setp_ne _ _ _ _ _ (by decide), gb 39 (by decide) (by decide), c39]
  · rw [gb_setp_ne _ _ _ _ _ (by decide), gb_setp_ne _ _ _ _ _ (by decide), gb 41 (by decide) (by decide), c41]
  · rw [gb_setp_ne _ _ _ _ _ (by decide), gb_setp_ne _ _ _ _ _ (by decide), gb 40 (by decide) (by decide), c40]
  · rw [gb_setp_same _ _ _ _ (by simp only [len_setp]; omega)]
  · rw [gi_setp_ne _ _ _ _ _ (by decide), gi_setp_ne _ _ _ _ _ (by decide)]
  · rw [len_setp, len_setp, hl]
theorem tf1_step {B : Br} {k : Nat} (h89 : k * 89 + 89 ≤ B.ps.length) : topF (tf1 B k) k = (true, tf2 B k) := by
  obtain ⟨-, -, -, c25, -⟩ := tf1_cells h89
  unfold topF
  rw [c25]
  rfl
theorem tf2_cells {B : Br} {k : Nat} (h89 : k * 89 + 89 ≤ B.ps.length) : (tf2 B k).gi k 21 = 2 ∧ (tf2 B k).gi k 87 = 4 ∧ (tf2 B k).gb k 32 = false ∧ (tf2 B k).gb k 25 = false ∧ (tf2 B k).gb k 39 = false ∧ (tf2 B k).gb k 41 = false ∧ (tf2 B k).gb k 40 = false ∧ (tf2 B k).gb k 49 = false ∧ (tf2 B k).gi k 13 = (tbegin (tf0 B k) k).gi k 13 := by
  obtain ⟨c21, c87, c32, c25, c39, c41, c40, c49, c13, hl⟩ := tf1_cells h89
  have gb : ∀ j, ((tf1 B k).flush k).gb k j = (tf1 B k).gb k j := fun _ => rfl
  have gi : ∀ j, ((tf1 B k).flush k).gi k j = (tf1 B k).gi k j := fun _ => rfl
  have h9 : k * 89 + 89 ≤ ((tf1 B k).flush k).ps.length := by show _ ≤ (tf1 B k).ps.length; rw [hl]; exact h89
  unfold tf2
  refine ⟨?_, ?_, ?_, ?_, ?_, ?_, ?_, ?_, ?_⟩ <;> simp [gb_at, gi_at, gi_setp_ne, gb_setp_ne, len_setp, h9, gb, gi, c21, c87, c32, c39, c41, c40, c49, c13]
theorem tf2_step {B : Br} {k : Nat} (h89 : k * 89 + 89 ≤ B.ps.length) : topF (tf2 B k) k = (false, tf2 B k) := by
  obtain ⟨c21, c87, c32, c25, c39, c41, c40, c49, -⟩ := tf2_cells h89
  have ha : act2 (tf2 B k) k = 0 := by unfold act2; rw [c87, c32, c41, c39, c49, c40]; rfl
  unfold topF topN
  rw [c25, c21, ha]
  rfl
theorem tf2_13 {B : Br} {k : Nat} (h89 : k * 89 + 89 ≤ B.ps.length) (h0 : 0 ≤ B.gi k 13) (hT : TR (B.hi 2) (B.hi 3) (B.hi 4) (B.hi 5)) : 0 < (tf2 B k).gi k 13 := by
  obtain ⟨-, -, -, -, -, -, -, -, c13⟩ := tf2_cells h89
  obtain ⟨-, -, -, -, -, -, -, -, z13⟩ := tf0_cells h89
  have h9 : k * 89 + 89 ≤ (tf0 B k).ps.length := by rw [tf0_len]; exact h89
  have e3 : (tf0 B k).hi 3 = B.hi 3 := by unfold Br.hi; rw [tf0_hd]
  have e4 : (tf0 B k).hi 4 = B.hi 4 := by unfold Br.hi; rw [tf0_hd]
  have e5 : (tf0 B k).hi 5 = B.hi 5 := by unfold Br.hi; rw [tf0_hd]
  unfold TR at hT
  rw [c13]
  unfold tbegin
  rw [z13, e3, e4, e5]
  split
  · split
    · rw [gi_setp_ne _ _ _ _ _ (by decide), gi_setp_same _ _ _ _ _ (by omega)]
      omega
    · rw [gi_setp_same _ _ _ _ _ (by omega)]
      omega
  · rw [z13]
    omega
theorem tf1_keeps {B : Br} (ho : B.ok) {k : Nat} (hk : k < B.np) (hT : TR (B.hi 2) (B.hi 3) (B.hi 4) (B.hi 5)) : (tf1 B k).ok ∧ (tf1 B k).np = B.np ∧ (tf1 B k).hd = B.hd ∧ (tf1 B k).nf = B.nf ∧ (tf1 B k).fl = B.fl := by
  have hT0 : TR ((tf0 B k).hi 2) ((tf0 B k).hi 3) ((tf0 B k).hi 4) ((tf0 B k).hi 5) := by unfold Br.hi; rw [tf0_hd]; exact hT
  have hfl : ∀ Z : Br, (tbegin Z k).fl = Z.fl := fun Z => by
    unfold tbegin
    split
    · split <;> rfl
    · rfl
  have okT := tspread_ok (tf0_ok ho hk) (k := k) (by rw [tf0_np]; exact hk) hT0
  refine ⟨okT, ?_, ?_, ?_, ?_⟩
  · unfold tf1 tspread
    rw [np_setp, np_setp, tbegin_np, tf0_np]
  · unfold tf1 tspread
    rw [hd_setp, hd_setp, tbegin_hd, tf0_hd]
  · unfold tf1 tspread Br.setp
    simp only
    rw [tbegin_nf]
    exact (tf0_nf B k).1
  · unfold tf1 tspread Br.setp
    simp only
    rw [hfl]
    exact (tf0_nf B k).2
theorem tf2_keeps {B : Br} (ho : B.ok) {k : Nat} (hk : k < B.np) (hn : B.np < 1000) (hT : TR (B.hi 2) (B.hi 3) (B.hi 4) (B.hi 5)) : (tf2 B k).ok ∧ (tf2 B k).np = B.np ∧ (tf2 B k).hd = B.hd ∧ (tf2 B k).nf = B.nf + 1 ∧ (tf2 B k).fl = B.fl ++ [.int .i64 k] := by
  obtain ⟨a, b, c, d, e⟩ := tf1_keeps ho hk hT
  refine ⟨(flush_ok a (by omega)).setB (k := k) (by rw [flush_np, b]; exact hk) 25 false rfl, ?_, ?_, ?_, ?_⟩
  · unfold tf2
    rw [np_setp, flush_np, b]
  · unfold tf2
    rw [hd_setp, flush_hd, c]
  · unfold tf2
    rw [setp_nf, flush_nf, d]
  · unfold tf2
    rw [setp_fl, flush_fl, e]
/-- The blocks of a box that may grow. -/
theorem BrG.widen {w : World} {N X g : Nat} {B : Br} (h : BrG w (fun n => N ≤ n ∧ n < X + 1) X g B) : BrG w (fun n => N ≤ n ∧ n < w.heap.size) X g B :=
  h.mono (fun n hn => ⟨hn.1, by have h1 := h.lt.1; have h2 := hn.2; omega⟩)
/-- What is to be flushed, read out of the box. -/
theorem BrG.cell19 {w : World} {F : Nat → Prop} {X g : Nat} {B : Br} (h : BrG w F X g B) (hd : B.hd.length = 17) (hp : 0 < B.nf) : ∃ g3 cp, w.cell? ⟨X, 19, none⟩ = some (.slice (some ⟨g3, 0, none⟩) B.nf cp) ∧ B.nf ≤ cp ∧ cp ≤ 9223372036854775807 ∧ ∀ j, j < B.nf → w.cell? ⟨g3, j, none⟩ = B.fl[j]? := by
  obtain ⟨-, -, cap3, cur, s2, s3, aX, -, -, -, -, -, -, q3, -, -⟩ := h
  obtain ⟨hl, ⟨rfl, hz⟩ | ⟨g3, cp, cu, rfl, -, hg3, h1, h2, h3, h4⟩⟩ := q3
  · omega
  · unfold maxLen at h2
    refine ⟨g3, cp, ?_, h1, by omega, fun j hj => ?_⟩
    · rw [cell_of_row _ _ _ _ _ _ aX]
      simp [hd]
    · rw [cell_of_row _ _ _ _ _ _ hg3, ← h4, List.getElem?_take, if_pos (by omega)]
      simp
end Go.Proofs.Ytpieamfpgfabgaa
