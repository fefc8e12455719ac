/- A second, and what hangs on all ports, by the document. No statement is proved here. -/
import Derived.Test.YtnblchilgaimhaaClkT
namespace Go.Proofs.Ytnblchilgaimhaa
open Go.RowKit Go.BigFrame Go.WideShapes Go.ChangeShapes Go.Deep
set_option linter.unusedVariables false
set_option linter.unusedSimpArgs false

theorem BrG.thereAt {w : World} {F : Nat → Prop} {X g : Nat} {B : Br} (h : BrG w F X g B) {k j n : Nat} (hk : k < B.np) (hj : j + n ≤ 89) : w.there g (k * 89 + j) n := fun i hi => by
  have := h.there hk (j + i) (by omega)
  rw [show k * 89 + (j + i) = k * 89 + j + i by omega] at this
  exact this
theorem down_any (n : Int) (w : World) (h : -9223372036854775808 ≤ n ∧ n ≤ 9223372036854775807) : Calls Try.prog 42 #[.int .i64 n] w fun e w' => e = .returned (.int .i64 (dwn n)) ∧ w = w' := by
  obtain ⟨h1, h2⟩ := h
  by_cases h0 : 0 < n
  · go_enter Try.func42, Try.ntmps42
    go_wp2
    go_ret
    exact ⟨retI (by unfold dwn; rw [if_pos h0]), rfl⟩
  · have hf : decide (0 < n) = false := by simpa using h0
    go_enter Try.func42, Try.ntmps42
    go_wp2
    go_ret
    exact ⟨retI (by unfold dwn; rw [if_neg (by omega)]), rfl⟩

theorem tickP_setr0 {B : Br} (ho : B.ok) {k : Nat} (hk : k < B.np) (l : List Value) (hl : l.length = 9) (hv : ∀ j, j < 9 → l[j]? = some (.int .i64 (dwn (B.gi k (6 + j))))) : B.setr k 6 l = tickP B k 9 := by
  obtain ⟨r1, r2, r3, r4⟩ := tickP_rest B k 9
  refine Br.ext_ps (tickP_hd B k 9).symm (tickP_np B k 9).symm (fun i => ?_) r1.symm r2.symm r3.symm r4.symm
  rw [setr_at (len89 ho hk) (by omega), tickP_at ho hk 9 (Nat.le_refl _), hl]
  by_cases a : k * 89 + 6 ≤ i ∧ i < k * 89 + 6 + 9
  · rw [if_pos a, if_pos a, hv _ (by omega), show 6 + (i - (k * 89 + 6)) = i - k * 89 by omega]
  · rw [if_neg a, if_neg a]
theorem tickP_setr {B : Br} (ho : B.ok) {k : Nat} (hk : k < B.np) : B.setr k 6 [.int .i64 (dwn (B.gi k 6)), .int .i64 (dwn (B.gi k 7)), .int .i64 (dwn (B.gi k 8)), .int .i64 (dwn (B.gi k 9)), .int .i64 (dwn (B.gi k 10)), .int .i64 (dwn (B.gi k 11)), .int .i64 (dwn (B.gi k 12)), .int .i64 (dwn (B.gi k 13)), .int .i64 (dwn (B.gi k 14))] = tickP B k 9 :=
  tickP_setr0 ho hk _ rfl (fun j hj => by
    rcases (by omega : j = 0 ∨ j = 1 ∨ j = 2 ∨ j = 3 ∨ j = 4 ∨ j = 5 ∨ j = 6 ∨ j = 7 ∨ j = 8) with rfl | rfl | rfl | rfl | rfl | rfl | rfl | rfl | rfl <;> rfl)

theorem clk_build (y0 y1 y2 y3 y4 y5 y6 y7 y8 : Int) (w : World) : (Instr.build 45 #[(0, .int .i64 y0), (1, .int .i64 y1), (2, .int .i64 y2), (3, .int .i64 y3), (4, .int .i64 y4), (5, .int .i64 y5), (6, .int .i64 y6), (7, .int .i64 y7), (8, .int .i64 y8)]).run Try.prog w = .ok (.agg #[.int .i64 y0, .int .i64 y1, .int .i64 y2, .int .i64 y3, .int .i64 y4, .int .i64 y5, .int .i64 y6, .int .i64 y7, .int .i64 y8]) w := by kernel_rfl
theorem size_clk : (Try.prog.info? 45).map (·.size) = some 9 := by kernel_rfl
/-- A port's clocks in a row. -/
theorem clk_range {w : World} {F : Nat → Prop} {X g : Nat} {B : Br} (h : BrG w F X g B) (ho : B.ok) {k : Nat} (hk : k < B.np) : w.rangeAt g (k * 89 + 6) [.int .i64 (B.gi k 6), .int .i64 (B.gi k 7), .int .i64 (B.gi k 8), .int .i64 (B.gi k 9), .int .i64 (B.gi k 10), .int .i64 (B.gi k 11), .int .i64 (B.gi k 12), .int .i64 (B.gi k 13), .int .i64 (B.gi k 14)] := fun j v hv => by
  have hj : j < 9 := by simpa using (List.getElem?_eq_some_iff.1 hv).1
  have key : ∀ j, j < 9 → w.cell? ⟨g, k * 89 + 6 + j, none⟩ = some (.int .i64 (B.gi k (6 + j))) := fun j hj => by
    rw [show k * 89 + 6 + j = k * 89 + (6 + j) by omega]
    exact (h.cellg (lt89 hk (by omega))).trans (ho.gi hk (6 + j) (clkc j hj))
  rw [key j hj]
  rcases (by omega : j = 0 ∨ j = 1 ∨ j = 2 ∨ j = 3 ∨ j = 4 ∨ j = 5 ∨ j = 6 ∨ j = 7 ∨ j = 8) with rfl | rfl | rfl | rfl | rfl | rfl | rfl | rfl | rfl <;> exact hv

set_option maxRecDepth 100000 in
set_option maxHeartbeats 4000000 in
theorem dtick_any (w : World) (F : Nat → Prop) (X g : Nat) (B : Br) (h : BrG w F X g B) (ho : B.ok) (hn : B.np < 1000) :
    Calls Try.prog 22 #[.pointer (some ⟨X, 0, none⟩)] w fun e w' => e = .returned (.tuple #[]) ∧ BrG w' F X g (tickB B) ∧ Mut F w w' := by
  obtain ⟨hX, hg, hne⟩ := h.lt
  obtain ⟨cap, c17, hc1, hc2⟩ := h.cell17 ho
  have H := Lib.hid h
  clear h
  go_enter Try.func22, Try.ntmps22
  go_wp2_with fail
  go_loopw [2] (fun v wr => ∃ n : Nat, n ≤ B.np ∧ v = .int .i64 n ∧ BrG wr F X g (tickN B n) ∧ Mut F w wr) (fun v _ => B.np - (intOf v).toNat)
  case atStart => exact ⟨0, by omega, rfl, H.out, Mut.refl F w⟩
  case round =>
    clear c17
    obtain ⟨n, hn2, rfl, hB, hm⟩ := hrel
    have HB := Lib.hid hB
    have HM := Lib.hid hm
    clear hB hm
    have okn := tickN_ok ho n hn2
    obtain ⟨cap2, c17, hc3, hc4⟩ := HB.out.cell17 okn
    rw [tickN_np] at c17 hc3
    by_cases hlt : n < B.np
    · obtain ⟨hX2, hg2, hne2⟩ := HB.out.lt
      have hkn : n < (tickN B n).np := by rw [tickN_np]; exact hlt
      have hr9 := clk_range HB.out okn hkn
      have HT := Lib.hid (tickP_setr okn hkn)
      have HE := Lib.hid (show tickN B (n + 1) = tickP (tickN B n) n 9 from rfl)
      have hw0 := wf_i64 (okn.gw hkn 6 rfl)
      have hw1 := wf_i64 (okn.gw hkn 7 rfl)
      have hw2 := wf_i64 (okn.gw hkn 8 rfl)
      have hw3 := wf_i64 (okn.gw hkn 9 rfl)
      have hw4 := wf_i64 (okn.gw hkn 10 rfl)
      have hw5 := wf_i64 (okn.gw hkn 11 rfl)
      have hw6 := wf_i64 (okn.gw hkn 12 rfl)
      have hw7 := wf_i64 (okn.gw hkn 13 rfl)
      have hw8 := wf_i64 (okn.gw hkn 14 rfl)
      obtain ⟨z0, hz0⟩ : ∃ z, (tickN B n).gi n 6 = z := ⟨_, rfl⟩
      rw [hz0] at hr9 HT hw0
      clear hz0
      obtain ⟨z1, hz1⟩ : ∃ z, (tickN B n).gi n 7 = z := ⟨_, rfl⟩
      rw [hz1] at hr9 HT hw1
      clear hz1
      obtain ⟨z2, hz2⟩ : ∃ z, (tickN B n).gi n 8 = z := ⟨_, rfl⟩
      rw [hz2] at hr9 HT hw2
      clear hz2
      obtain ⟨z3, hz3⟩ : ∃ z, (tickN B n).gi n 9 = z := ⟨_, rfl⟩
      rw [hz3] at hr9 HT hw3
      clear hz3
      obtain ⟨z4, hz4⟩ : ∃ z, (tickN B n).gi n 10 = z := ⟨_, rfl⟩
      rw [hz4] at hr9 HT hw4
      clear hz4
      obtain ⟨z5, hz5⟩ : ∃ z, (tickN B n).gi n 11 = z := ⟨_, rfl⟩
      rw [hz5] at hr9 HT hw5
      clear hz5
      obtain ⟨z6, hz6⟩ : ∃ z, (tickN B n).gi n 12 = z := ⟨_, rfl⟩
      rw [hz6] at hr9 HT hw6
      clear hz6
      obtain ⟨z7, hz7⟩ : ∃ z, (tickN B n).gi n 13 = z := ⟨_, rfl⟩
      rw [hz7] at hr9 HT hw7
      clear hz7
      obtain ⟨z8, hz8⟩ : ∃ z, (tickN B n).gi n 14 = z := ⟨_, rfl⟩
      rw [hz8] at hr9 HT hw8
      clear hz8
      have HR9 := Lib.hid hr9
      clear hr9
      go_wp2_with (first | fail | ((with_reducible refine at_load 45 ?_); refine wpList_load_mid rfl 45 _ rfl g (n * 89 + 6) rfl [.int .i64 z0, .int .i64 z1, .int .i64 z2, .int .i64 z3, .int .i64 z4, .int .i64 z5, .int .i64 z6, .int .i64 z7, .int .i64 z8] _ HR9.out Try.underlying45 rfl size_clk ?_))
      have hez := (Ext.refl wr).alloc (.cells #[.int .i64 z0, .int .i64 z1, .int .i64 z2, .int .i64 z3, .int .i64 z4, .int .i64 z5, .int .i64 z6, .int .i64 z7, .int .i64 z8] 45)
      have zc0 : (wr.alloc (.cells #[.int .i64 z0, .int .i64 z1, .int .i64 z2, .int .i64 z3, .int .i64 z4, .int .i64 z5, .int .i64 z6, .int .i64 z7, .int .i64 z8] 45)).cell? ⟨wr.heap.size, 0, none⟩ = some (.int .i64 z0) := (World.cell?_alloc_at _ _ _ _ rfl).trans rfl
      have zc1 : (wr.alloc (.cells #[.int .i64 z0, .int .i64 z1, .int .i64 z2, .int .i64 z3, .int .i64 z4, .int .i64 z5, .int .i64 z6, .int .i64 z7, .int .i64 z8] 45)).cell? ⟨wr.heap.size, 1, none⟩ = some (.int .i64 z1) := (World.cell?_alloc_at _ _ _ _ rfl).trans rfl
      have zc2 : (wr.alloc (.cells #[.int .i64 z0, .int .i64 z1, .int .i64 z2, .int .i64 z3, .int .i64 z4, .int .i64 z5, .int .i64 z6, .int .i64 z7, .int .i64 z8] 45)).cell? ⟨wr.heap.size, 2, none⟩ = some (.int .i64 z2) := (World.cell?_alloc_at _ _ _ _ rfl).trans rfl
      have zc3 : (wr.alloc (.cells #[.int .i64 z0, .int .i64 z1, .int .i64 z2, .int .i64 z3, .int .i64 z4, .int .i64 z5, .int .i64 z6, .int .i64 z7, .int .i64 z8] 45)).cell? ⟨wr.heap.size, 3, none⟩ = some (.int .i64 z3) := (World.cell?_alloc_at _ _ _ _ rfl).trans rfl
      have zc4 : (wr.alloc (.cells #[.int .i64 z0, .int .i64 z1, .int .i64 z2, .int .i64 z3, .int .i64 z4, .int .i64 z5, .int .i64 z6, .int .i64 z7, .int .i64 z8] 45)).cell? ⟨wr.heap.size, 4, none⟩ = some (.int .i64 z4) := (World.cell?_alloc_at _ _ _ _ rfl).trans rfl
      have zc5 : (wr.alloc (.cells #[.int .i64 z0, .int .i64 z1, .int .i64 z2, .int .i64 z3, .int .i64 z4, .int .i64 z5, .int .i64 z6, .int .i64 z7, .int .i64 z8] 45)).cell? ⟨wr.heap.size, 5, none⟩ = some (.int .i64 z5) := (World.cell?_alloc_at _ _ _ _ rfl).trans rfl
      have zc6 : (wr.alloc (.cells #[.int .i64 z0, .int .i64 z1, .int .i64 z2, .int .i64 z3, .int .i64 z4, .int .i64 z5, .int .i64 z6, .int .i64 z7, .int .i64 z8] 45)).cell? ⟨wr.heap.size, 6, none⟩ = some (.int .i64 z6) := (World.cell?_alloc_at _ _ _ _ rfl).trans rfl
      have zc7 : (wr.alloc (.cells #[.int .i64 z0, .int .i64 z1, .int .i64 z2, .int .i64 z3, .int .i64 z4, .int .i64 z5, .int .i64 z6, .int .i64 z7, .int .i64 z8] 45)).cell? ⟨wr.heap.size, 7, none⟩ = some (.int .i64 z7) := (World.cell?_alloc_at _ _ _ _ rfl).trans rfl
      have zc8 : (wr.alloc (.cells #[.int .i64 z0, .int .i64 z1, .int .i64 z2, .int .i64 z3, .int .i64 z4, .int .i64 z5, .int .i64 z6, .int .i64 z7, .int .i64 z8] 45)).cell? ⟨wr.heap.size, 8, none⟩ = some (.int .i64 z8) := (World.cell?_alloc_at _ _ _ _ rfl).trans rfl
      have hbc0 : wr.heap.size < (wr.alloc (.cells #[.int .i64 z0, .int .i64 z1, .int .i64 z2, .int .i64 z3, .int .i64 z4, .int .i64 z5, .int .i64 z6, .int .i64 z7, .int .i64 z8] 45)).heap.size := by simp
      generalize wr.alloc (.cells #[.int .i64 z0, .int .i64 z1, .int .i64 z2, .int .i64 z3, .int .i64 z4, .int .i64 z5, .int .i64 z6, .int .i64 z7, .int .i64 z8] 45) = wz at *
      obtain ⟨bc, hbcq⟩ : ∃ b, wr.heap.size = b := ⟨_, rfl⟩
      rw [hbcq] at zc0 zc1 zc2 zc3 zc4 zc5 zc6 zc7 zc8 hbc0 ⊢
      have hbc := hbc0
      have hbg : ¬ bc = g := by rw [← hbcq]; omega
      clear hbcq
      have hXz : X < wz.heap.size := Nat.lt_of_lt_of_le hX2 hez.size
      have c17z := (hez.cell (p := ⟨X, 17, none⟩) hX2).trans c17
      have HBz := Lib.hid (HB.out.ext hez)
      have HMz := Lib.hid (HM.out.trans (hez.mut F))
      clear c17 HB HM hez
      refine beginL (S := fun W' => Mut (fun k => k = g) wz W') (by kernel_rfl) ?_
      intro wd hrf
      have hrm := hrf.mut (fun k => k = g)
      refine takeL (i := 0) (v := (.pointer (some ⟨X, 0, none⟩))) rfl (by kernel_rfl) (by kernel_rfl) (by kernel_rfl) (fun _ _ _ h => h) (Or.inl ⟨rfl, fun _ _ => rfl⟩) hrm ?_
      simp only [Act.put, List.setIfInBounds_toArray, List.set_cons_zero, List.set_cons_succ]
      refine takeL (i := 1) (v := (.pointer (some ⟨X, 0, none⟩))) rfl (by kernel_rfl) (by kernel_rfl) (by kernel_rfl) (fun _ _ _ h => h) (Or.inl ⟨rfl, fun _ _ => rfl⟩) hrm ?_
      simp only [Act.put, List.setIfInBounds_toArray, List.set_cons_zero, List.set_cons_succ]
      refine takeL (i := 2) (v := (.pointer (some ⟨X, 17, none⟩))) rfl (by kernel_rfl) (by kernel_rfl) (by kernel_rfl) (fun _ _ _ h => h) (Or.inl ⟨rfl, fun _ _ => rfl⟩) hrm ?_
      simp only [Act.put, List.setIfInBounds_toArray, List.set_cons_zero, List.set_cons_succ]
      refine takeL (i := 3) (v := _) rfl (by kernel_rfl) (by kernel_rfl) (by kernel_rfl) (fun _ _ _ h => h) (yieldsIf_cell rfl 29 _ rfl ⟨X, 17, none⟩ rfl (.slice (some ⟨g, 0, none⟩) B.np cap2) _ (fun W' hW' => (hW'.cell (p := ⟨X, 17, none⟩) hXz hne2).trans c17z) Try.underlying29 rfl) hrm ?_
      simp only [Act.put, List.setIfInBounds_toArray, List.set_cons_zero, List.set_cons_succ]
      refine takeL (i := 4) (v := (.int .i64 (n : Int))) rfl (by kernel_rfl) (by kernel_rfl) (by kernel_rfl) (fun _ _ _ h => h) (Or.inl ⟨rfl, fun _ _ => rfl⟩) hrm ?_
      simp only [Act.put, List.setIfInBounds_toArray, List.set_cons_zero, List.set_cons_succ]
      refine takeL (i := 5) (v := (.pointer (some ⟨bc, 0, none⟩))) rfl (by kernel_rfl) (by kernel_rfl) (by kernel_rfl) (fun _ _ _ h => h) (Or.inl ⟨rfl, fun _ _ => rfl⟩) hrm ?_
      simp only [Act.put, List.setIfInBounds_toArray, List.set_cons_zero, List.set_cons_succ]
      refine takeL (i := 6) (v := _) rfl (by kernel_rfl) (by kernel_rfl) (by kernel_rfl) (fun _ _ _ h => h) (yieldsIf_cell rfl 3 _ rfl ⟨bc, 0, none⟩ rfl (.int .i64 z0) _ (fun W' hW' => (hW'.cell (p := ⟨bc, 0, none⟩) hbc hbg).trans zc0) Try.underlying3 rfl) hrm ?_
      simp only [Act.put, List.setIfInBounds_toArray, List.set_cons_zero, List.set_cons_succ]
      refine takeL (i := 8) (v := (.pointer (some ⟨bc, 1, none⟩))) rfl (by kernel_rfl) (by kernel_rfl) (by kernel_rfl) (fun _ _ _ h => h) (Or.inl ⟨rfl, fun _ _ => rfl⟩) hrm ?_
      simp only [Act.put, List.setIfInBounds_toArray, List.set_cons_zero, List.set_cons_succ]
      refine takeL (i := 9) (v := _) rfl (by kernel_rfl) (by kernel_rfl) (by kernel_rfl) (fun _ _ _ h => h) (yieldsIf_cell rfl 3 _ rfl ⟨bc, 1, none⟩ rfl (.int .i64 z1) _ (fun W' hW' => (hW'.cell (p := ⟨bc, 1, none⟩) hbc hbg).trans zc1) Try.underlying3 rfl) hrm ?_
      simp only [Act.put, List.setIfInBounds_toArray, List.set_cons_zero, List.set_cons_succ]
      refine takeL (i := 11) (v := (.pointer (some ⟨bc, 2, none⟩))) rfl (by kernel_rfl) (by kernel_rfl) (by kernel_rfl) (fun _ _ _ h => h) (Or.inl ⟨rfl, fun _ _ => rfl⟩) hrm ?_
      simp only [Act.put, List.setIfInBounds_toArray, List.set_cons_zero, List.set_cons_succ]
      refine takeL (i := 12) (v := _) rfl (by kernel_rfl) (by kernel_rfl) (by kernel_rfl) (fun _ _ _ h => h) (yieldsIf_cell rfl 3 _ rfl ⟨bc, 2, none⟩ rfl (.int .i64 z2) _ (fun W' hW' => (hW'.cell (p := ⟨bc, 2, none⟩) hbc hbg).trans zc2) Try.underlying3 rfl) hrm ?_
      simp only [Act.put, List.setIfInBounds_toArray, List.set_cons_zero, List.set_cons_succ]
      refine takeL (i := 14) (v := (.pointer (some ⟨bc, 3, none⟩))) rfl (by kernel_rfl) (by kernel_rfl) (by kernel_rfl) (fun _ _ _ h => h) (Or.inl ⟨rfl, fun _ _ => rfl⟩) hrm ?_
      simp only [Act.put, List.setIfInBounds_toArray, List.set_cons_zero, List.set_cons_succ]
      refine takeL (i := 15) (v := _) rfl (by kernel_rfl) (by kernel_rfl) (by kernel_rfl) (fun _ _ _ h => h) (yieldsIf_cell rfl 3 _ rfl ⟨bc, 3, none⟩ rfl (.int .i64 z3) _ (fun W' hW' => (hW'.cell (p := ⟨bc, 3, none⟩) hbc hbg).trans zc3) Try.underlying3 rfl) hrm ?_
      simp only [Act.put, List.setIfInBounds_toArray, List.set_cons_zero, List.set_cons_succ]
      refine takeL (i := 17) (v := (.pointer (some ⟨bc, 4, none⟩))) rfl (by kernel_rfl) (by kernel_rfl) (by kernel_rfl) (fun _ _ _ h => h) (Or.inl ⟨rfl, fun _ _ => rfl⟩) hrm ?_
      simp only [Act.put, List.setIfInBounds_toArray, List.set_cons_zero, List.set_cons_succ]
      refine takeL (i := 18) (v := _) rfl (by kernel_rfl) (by kernel_rfl) (by kernel_rfl) (fun _ _ _ h => h) (yieldsIf_cell rfl 3 _ rfl ⟨bc, 4, none⟩ rfl (.int .i64 z4) _ (fun W' hW' => (hW'.cell (p := ⟨bc, 4, none⟩) hbc hbg).trans zc4) Try.underlying3 rfl) hrm ?_
      simp only [Act.put, List.setIfInBounds_toArray, List.set_cons_zero, List.set_cons_succ]
      refine takeL (i := 20) (v := (.pointer (some ⟨bc, 5, none⟩))) rfl (by kernel_rfl) (by kernel_rfl) (by kernel_rfl) (fun _ _ _ h => h) (Or.inl ⟨rfl, fun _ _ => rfl⟩) hrm ?_
      simp only [Act.put, List.setIfInBounds_toArray, List.set_cons_zero, List.set_cons_succ]
      refine takeL (i := 21) (v := _) rfl (by kernel_rfl) (by kernel_rfl) (by kernel_rfl) (fun _ _ _ h => h) (yieldsIf_cell rfl 3 _ rfl ⟨bc, 5, none⟩ rfl (.int .i64 z5) _ (fun W' hW' => (hW'.cell (p := ⟨bc, 5, none⟩) hbc hbg).trans zc5) Try.underlying3 rfl) hrm ?_
      simp only [Act.put, List.setIfInBounds_toArray, List.set_cons_zero, List.set_cons_succ]
      refine takeL (i := 23) (v := (.pointer (some ⟨bc, 6, none⟩))) rfl (by kernel_rfl) (by kernel_rfl) (by kernel_rfl) (fun _ _ _ h => h) (Or.inl ⟨rfl, fun _ _ => rfl⟩) hrm ?_
      simp only [Act.put, List.setIfInBounds_toArray, List.set_cons_zero, List.set_cons_succ]
      refine takeL (i := 24) (v := _) rfl (by kernel_rfl) (by kernel_rfl) (by kernel_rfl) (fun _ _ _ h => h) (yieldsIf_cell rfl 3 _ rfl ⟨bc, 6, none⟩ rfl (.int .i64 z6) _ (fun W' hW' => (hW'.cell (p := ⟨bc, 6, none⟩) hbc hbg).trans zc6) Try.underlying3 rfl) hrm ?_
      simp only [Act.put, List.setIfInBounds_toArray, List.set_cons_zero, List.set_cons_succ]
      refine takeL (i := 26) (v := (.pointer (some ⟨bc, 7, none⟩))) rfl (by kernel_rfl) (by kernel_rfl) (by kernel_rfl) (fun _ _ _ h => h) (Or.inl ⟨rfl, fun _ _ => rfl⟩) hrm ?_
      simp only [Act.put, List.setIfInBounds_toArray, List.set_cons_zero, List.set_cons_succ]
      refine takeL (i := 27) (v := _) rfl (by kernel_rfl) (by kernel_rfl) (by kernel_rfl) (fun _ _ _ h => h) (yieldsIf_cell rfl 3 _ rfl ⟨bc, 7, none⟩ rfl (.int .i64 z7) _ (fun W' hW' => (hW'.cell (p := ⟨bc, 7, none⟩) hbc hbg).trans zc7) Try.underlying3 rfl) hrm ?_
      simp only [Act.put, List.setIfInBounds_toArray, List.set_cons_zero, List.set_cons_succ]
      refine takeL (i := 29) (v := (.pointer (some ⟨bc, 8, none⟩))) rfl (by kernel_rfl) (by kernel_rfl) (by kernel_rfl) (fun _ _ _ h => h) (Or.inl ⟨rfl, fun _ _ => rfl⟩) hrm ?_
      simp only [Act.put, List.setIfInBounds_toArray, List.set_cons_zero, List.set_cons_succ]
      refine takeL (i := 30) (v := _) rfl (by kernel_rfl) (by kernel_rfl) (by kernel_rfl) (fun _ _ _ h => h) (yieldsIf_cell rfl 3 _ rfl ⟨bc, 8, none⟩ rfl (.int .i64 z8) _ (fun W' hW' => (hW'.cell (p := ⟨bc, 8, none⟩) hbc hbg).trans zc8) Try.underlying3 rfl) hrm ?_
      simp only [Act.put, List.setIfInBounds_toArray, List.set_cons_zero, List.set_cons_succ]
      refine runL (i := 7) rfl rfl (by kernel_rfl) (fun K hK => ?_)
      go_simp
      refine (down_any z0 _ hw0).mono ?_
      rintro e w' ⟨rfl, rfl⟩
      refine hK.out _ _ hrm (fun hHeld => ?_)
      try simp only [Act.put, List.setIfInBounds_toArray, List.set_cons_zero, List.set_cons_succ]
      clear hK K
      refine runL (i := 10) rfl rfl (by kernel_rfl) (fun K hK => ?_)
      go_simp
      refine (down_any z1 _ hw1).mono ?_
      rintro e w' ⟨rfl, rfl⟩
      refine hK.out _ _ hrm (fun hHeld => ?_)
      try simp only [Act.put, List.setIfInBounds_toArray, List.set_cons_zero, List.set_cons_succ]
      clear hK K
      refine runL (i := 13) rfl rfl (by kernel_rfl) (fun K hK => ?_)
      go_simp
      refine (down_any z2 _ hw2).mono ?_
      rintro e w' ⟨rfl, rfl⟩
      refine hK.out _ _ hrm (fun hHeld => ?_)
      try simp only [Act.put, List.setIfInBounds_toArray, List.set_cons_zero, List.set_cons_succ]
      clear hK K
      refine runL (i := 16) rfl rfl (by kernel_rfl) (fun K hK => ?_)
      go_simp
      refine (down_any z3 _ hw3).mono ?_
      rintro e w' ⟨rfl, rfl⟩
      refine hK.out _ _ hrm (fun hHeld => ?_)
      try simp only [Act.put, List.setIfInBounds_toArray, List.set_cons_zero, List.set_cons_succ]
      clear hK K
      refine runL (i := 19) rfl rfl (by kernel_rfl) (fun K hK => ?_)
      go_simp
      refine (down_any z4 _ hw4).mono ?_
      rintro e w' ⟨rfl, rfl⟩
      refine hK.out _ _ hrm (fun hHeld => ?_)
      try simp only [Act.put, List.setIfInBounds_toArray, List.set_cons_zero, List.set_cons_succ]
      clear hK K
      refine runL (i := 22) rfl rfl (by kernel_rfl) (fun K hK => ?_)
      go_simp
      refine (down_any z5 _ hw5).mono ?_
      rintro e w' ⟨rfl, rfl⟩
      refine hK.out _ _ hrm (fun hHeld => ?_)
      try simp only [Act.put, List.setIfInBounds_toArray, List.set_cons_zero, List.set_cons_succ]
      clear hK K
      refine runL (i := 25) rfl rfl (by kernel_rfl) (fun K hK => ?_)
      go_simp
      refine (down_any z6 _ hw6).mono ?_
      rintro e w' ⟨rfl, rfl⟩
      refine hK.out _ _ hrm (fun hHeld => ?_)
      try simp only [Act.put, List.setIfInBounds_toArray, List.set_cons_zero, List.set_cons_succ]
      clear hK K
      refine runL (i := 28) rfl rfl (by kernel_rfl) (fun K hK => ?_)
      go_simp
      refine (down_any z7 _ hw7).mono ?_
      rintro e w' ⟨rfl, rfl⟩
      refine hK.out _ _ hrm (fun hHeld => ?_)
      try simp only [Act.put, List.setIfInBounds_toArray, List.set_cons_zero, List.set_cons_succ]
      clear hK K
      refine runL (i := 31) rfl rfl (by kernel_rfl) (fun K hK => ?_)
      go_simp
      refine (down_any z8 _ hw8).mono ?_
      rintro e w' ⟨rfl, rfl⟩
      refine hK.out _ _ hrm (fun hHeld => ?_)
      try simp only [Act.put, List.setIfInBounds_toArray, List.set_cons_zero, List.set_cons_succ]
      clear hK K
      have hbd := clk_build (dwn z0) (dwn z1) (dwn z2) (dwn z3) (dwn z4) (dwn z5) (dwn z6) (dwn z7) (dwn z8)
      refine takeL (i := 32) (v := (.agg #[.int .i64 (dwn z0), .int .i64 (dwn z1), .int .i64 (dwn z2), .int .i64 (dwn z3), .int .i64 (dwn z4), .int .i64 (dwn z5), .int .i64 (dwn z6), .int .i64 (dwn z7), .int .i64 (dwn z8)])) rfl (by kernel_rfl) (by kernel_rfl) (by kernel_rfl) (fun _ _ _ h => h) (Or.inl ⟨rfl, fun W' _ => by go_simp⟩) hrm ?_
      simp only [Act.put, List.setIfInBounds_toArray, List.set_cons_zero, List.set_cons_succ]
      have HBd := Lib.hid (HBz.out.ext hrf)
      have HMd := Lib.hid (HMz.out.trans (hrf.mut F))
      have hth := Lib.hid (HBd.out.thereAt (k := n) (j := 6) (n := 9) hkn (by decide))
      refine takeL (i := 33) (v := .pointer (some ⟨g, n * 89, none⟩)) rfl (by kernel_rfl) (by kernel_rfl) (by kernel_rfl) (fun _ _ _ h => h) (Or.inl ⟨rfl, fun W' _ => by go_simp⟩) hrm ?_
      simp only [Act.put, List.setIfInBounds_toArray, List.set_cons_zero, List.set_cons_succ]
      refine takeL (i := 34) (v := .pointer (some ⟨g, n * 89 + 6, none⟩)) rfl (by kernel_rfl) (by kernel_rfl) (by kernel_rfl) (fun _ _ _ h => h) (Or.inl ⟨rfl, fun _ _ => rfl⟩) hrm ?_
      simp only [Act.put, List.setIfInBounds_toArray, List.set_cons_zero, List.set_cons_succ]
      refine runL (i := 35) rfl rfl (by kernel_rfl) (fun K hK => ?_)
      refine wp_store_mid 45 _ _ rfl g (n * 89 + 6) #[.int .i64 (dwn z0), .int .i64 (dwn z1), .int .i64 (dwn z2), .int .i64 (dwn z3), .int .i64 (dwn z4), .int .i64 (dwn z5), .int .i64 (dwn z6), .int .i64 (dwn z7), .int .i64 (dwn z8)] rfl rfl hth.out size_clk (by rw [← Array.all_toList]; rfl) ?_
      refine hK.out _ _ (Mut.setCells (F := fun k => k = g) (g := g) (.inl rfl) _ _ hrm) (fun hHeld => ?_)
      try simp only [Act.put, List.setIfInBounds_toArray, List.set_cons_zero, List.set_cons_succ]
      clear hK K hHeld
      refine wpAnyH_done (by kernel_rfl) ?_ _
      have hBn := HBd.out.setr (k := n) (j := 6) (l := [.int .i64 (dwn z0), .int .i64 (dwn z1), .int .i64 (dwn z2), .int .i64 (dwn z3), .int .i64 (dwn z4), .int .i64 (dwn z5), .int .i64 (dwn z6), .int .i64 (dwn z7), .int .i64 (dwn z8)]) hkn (show 6 + 9 ≤ 89 by decide)
      rw [HT.out, ← HE.out] at hBn
      have HBn := Lib.hid hBn
      have HMn := Lib.hid (Mut.setCells (.inl HBd.out.F2) [.int .i64 (dwn z0), .int .i64 (dwn z1), .int .i64 (dwn z2), .int .i64 (dwn z3), .int .i64 (dwn z4), .int .i64 (dwn z5), .int .i64 (dwn z6), .int .i64 (dwn z7), .int .i64 (dwn z8)] (n * 89 + 6) HMd.out)
      clear hBn
      go_wp2_with fail
      go_roundw
      case rel => exact ⟨n + 1, by omega, by go_num, HBn.out, HMn.out⟩
      case measure => simp [intOf]; omega
    · obtain rfl : n = B.np := by omega
      go_wp2_with fail
      go_end0
      exact ⟨rfl, HB.out, HM.out⟩

end Go.Proofs.Ytnblchilgaimhaa
