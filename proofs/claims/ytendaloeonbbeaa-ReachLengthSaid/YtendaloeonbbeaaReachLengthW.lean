/- The walk of ReachLength. No statement is proved here. -/
import Derived.Test.YtendaloeonbbeaaReL
namespace Go.Proofs.Ytendaloeonbbeaa
open Go.RowKit Go.BigFrame Go.WideShapes Go.ChangeShapes Go.Deep
set_option linter.unusedVariables false
set_option linter.unusedSimpArgs false

theorem toExt {P : Program} {f : FuncId} {args : Array Value} {w : World} {v : Value} (h : Calls P f args w fun e w' => e = .returned v ∧ w = w') : Calls P f args w fun e w' => e = .returned v ∧ Ext w w' :=
  h.mono fun e w' ⟨h1, h2⟩ => ⟨h1, h2 ▸ Ext.refl _⟩
set_option maxRecDepth 100000 in
set_option maxHeartbeats 4000000 in
theorem law_ReachLength {w : World} (v0 : Value) (xs : List Int) (h0 : IsInts w .u32 v0 xs ∧ ∀ z ∈ xs, (Lit.int .u32 z).wf = true) (v1 : Value) (ys : List Int) (h1 : IsInts w .u32 v1 ys ∧ ∀ z ∈ ys, (Lit.int .u32 z).wf = true) :
    Calls Try.prog 4 #[v0, v1] w fun e w' => e = .returned (.bool true) ∧ Ext w w' := by
  have hxg : ∀ z ∈ xs, 0 ≤ z ∧ z < 4294967296 := fun z hz => wf_u32 (h0.2 z hz)
  have hyg : ∀ z ∈ ys, 0 ≤ z ∧ z < 4294967296 := fun z hz => wf_u32 (h1.2 z hz)
  have HXG := Lib.hid hxg
  have HYG := Lib.hid hyg
  have HI0 := Lib.hid h0.1
  have HI1 := Lib.hid h1.1
  obtain ⟨a0, c0, rfl, hm0, hf0⟩ := h0.1.form
  obtain ⟨a1, c1, rfl, hm1, hf1⟩ := h1.1.form
  have HF0 := Lib.hid hf0
  have HF1 := Lib.hid hf1
  clear hxg hyg h0 h1 hf0 hf1
  by_cases hl0 : xs.length ≤ 60
  rotate_left
  · go_enter Try.func4, Try.ntmps4
    have hd0 : decide (60 < (xs.length : Int)) = true := by simp; omega
    go_wp2_with fail
    refine (awake22 _).mono ?_
    rintro e z1 ⟨rfl, hx⟩
    go_wp2_with fail
    go_ret
    exact ⟨rfl, hx⟩
  have hd0 : decide (60 < (xs.length : Int)) = false := by simp; omega
  by_cases hl1 : ys.length ≤ 60
  rotate_left
  · go_enter Try.func4, Try.ntmps4
    have hd1 : decide (60 < (ys.length : Int)) = true := by simp; omega
    go_wp2_with fail
    refine (awake22 _).mono ?_
    rintro e z1 ⟨rfl, hx⟩
    go_wp2_with fail
    go_ret
    exact ⟨rfl, hx⟩
  have hd1 : decide (60 < (ys.length : Int)) = false := by simp; omega
  go_enter Try.func4, Try.ntmps4
  go_wp2_with fail
  refine (awake22 _).mono ?_
  rintro e z1 ⟨rfl, hx⟩
  have E_z1 : Ext w z1 := hx
  clear hx
  go_wp2_with (first
    | fail
    | ((with_reducible refine at_alloc 34 ?_); refine al_zero rfl 34 rfl WZ zero_way ?_
       intro X0 z2 hq hs hx
       have E_z2 : Ext w z2 := E_z1.trans hx
       have hX_z2 : z2.heap[X0]? = some (.cells #[.int .u64 0, .int .u64 0, .bool false] 34 (0, 0)) := hq
       have hb_X0 : w.heap.size ≤ X0 := by have := E_z1.size; omega
       clear E_z1
       clear hq hs hx)
    | ((with_reducible refine at_store 34 ?_); refine st_at rfl rfl 34 _ _ rfl X0 0 _ #[.int .u64 0, .int .u64 (xs.length : Int), .bool true] _ #[.int .u64 0, .int .u64 (xs.length : Int), .bool true] _ rfl rfl rfl hX_z2 (by exact (by decide : 0 + 3 ≤ 3)) (by kernel_rfl) rfl rfl ?_
       intro z3 hq hm
       have hX_z3 : z3.heap[X0]? = some (.cells #[.int .u64 0, .int .u64 (xs.length : Int), .bool true] 34 (0, 0)) := hq
       have E_z3 : Ext w z3 := Ext.mutE E_z2 hm (fun n hn h => by have h2 : n = X0 := h; omega)
       clear hX_z2 E_z2
       clear hq hm)
    | ((with_reducible refine at_alloc 34 ?_); refine al_zero rfl 34 rfl WZ zero_way ?_
       intro Y0 z4 hq hs hx
       have E_z4 : Ext w z4 := E_z3.trans hx
       have hX_z4 : z4.heap[X0]? = some (.cells #[.int .u64 0, .int .u64 (xs.length : Int), .bool true] 34 (0, 0)) := (hx.block _ (heap_lt hX_z3)).trans hX_z3
       have hY_z4 : z4.heap[Y0]? = some (.cells #[.int .u64 0, .int .u64 0, .bool false] 34 (0, 0)) := hq
       have hb_Y0 : w.heap.size ≤ Y0 := by have := E_z3.size; omega
       have hn_X0Y0 : X0 ≠ Y0 := by have := heap_lt hX_z3; omega
       clear hX_z3 E_z3
       clear hq hs hx)
    | ((with_reducible refine at_store 34 ?_); refine st_at rfl rfl 34 _ _ rfl Y0 0 _ #[.int .u64 0, .int .u64 (ys.length : Int), .bool true] _ #[.int .u64 0, .int .u64 (ys.length : Int), .bool true] _ rfl rfl rfl hY_z4 (by exact (by decide : 0 + 3 ≤ 3)) (by kernel_rfl) rfl rfl ?_
       intro z5 hq hm
       have hY_z5 : z5.heap[Y0]? = some (.cells #[.int .u64 0, .int .u64 (ys.length : Int), .bool true] 34 (0, 0)) := hq
       have hX_z5 : z5.heap[X0]? = some (.cells #[.int .u64 0, .int .u64 (xs.length : Int), .bool true] 34 (0, 0)) := (hm.heap (heap_lt hX_z4) (show ¬ X0 = Y0 by omega)).trans hX_z4
       have E_z5 : Ext w z5 := Ext.mutE E_z4 hm (fun n hn h => by have h2 : n = Y0 := h; omega)
       clear hX_z4 hY_z4 E_z4
       clear hq hm))
  have hnXY : X0 ≠ Y0 := hn_X0Y0
  clear hd0 hd1
  go_loopw [8] (fun i wr => ∃ n0 : Nat, n0 ≤ xs.length ∧ i = .int .i64 n0 ∧ wr.heap[X0]? = some (.cells #[.int .u64 ((sumC (xs.take n0) : Nat) : Int), .int .u64 (xs.length : Int), .bool true] 34 (0, 0)) ∧ wr.heap[Y0]? = some (.cells #[.int .u64 0, .int .u64 (ys.length : Int), .bool true] 34 (0, 0)) ∧ Ext w wr) (fun i _ => xs.length - (intOf i).toNat)
  case atStart => exact ⟨0, by omega, rfl, hX_z5, hY_z5, E_z5⟩
  case round =>
    clear hX_z5 hY_z5 E_z5
    obtain ⟨n0, hn0, rfl, hX_wr, hY_wr, E_wr⟩ := hrel
    by_cases hlt0 : n0 < xs.length
    · obtain ⟨bb, off, rfl, hb, hc1, hc2, hcell⟩ := HF0.out (by omega)
      have hz := HXG.out (xs.getD n0 0) (by rw [List.getD_eq_getElem?_getD, List.getElem?_eq_getElem hlt0]; exact List.getElem_mem _)
      have hc := (E_wr.cell (p := ⟨bb, off + n0, none⟩) hb).trans (hcell n0 hlt0)
      have hS := sumC_take hlt0
      have h1 := sumC_take_le HXG.out n0
      obtain ⟨z, hzz⟩ : ∃ z, xs.getD n0 0 = z := ⟨_, rfl⟩
      rw [hzz] at hz hc hS
      obtain ⟨s0, hs0⟩ : ∃ s, sumC (xs.take n0) = s := ⟨_, rfl⟩
      rw [hs0] at hS h1 hX_wr
      have HS := Lib.hid (show ((sumC (xs.take (n0 + 1)) : Nat) : Int) = (s0 : Int) + z by rw [hS]; omega)
      have hblt := Nat.lt_of_lt_of_le hb E_wr.size
      have hs1 : s0 < 1000000000000 := by omega
      have n08 : n0 < 1000 := by omega
      clear hzz hs0 hcell hS
      go_wp2_with fail
      refine beginZ (S := fun W' => Ext wr W') 9 (by kernel_rfl) ?_
      intro wd hqx
      have hq0 : Ext wr wd := hqx
      have hxr := (hqx.block _ (heap_lt hX_wr)).trans hX_wr
      refine takeZ (i := 0) (z := 9) (v := (.pointer (some ⟨X0, 0, none⟩))) rfl rfl (by kernel_rfl) (by kernel_rfl) (by kernel_rfl) (by kernel_rfl) (by kernel_rfl) (by kernel_rfl) (fun _ _ _ h => h) (Or.inl ⟨rfl, fun _ _ => rfl⟩) hq0 ?_
      simp only [Act.put, List.setIfInBounds_toArray, List.set_cons_zero, List.set_cons_succ]
      refine takeZ (i := 1) (z := 9) (v := _) rfl rfl (by kernel_rfl) (by kernel_rfl) (by kernel_rfl) (by kernel_rfl) (by kernel_rfl) (by kernel_rfl) (fun _ _ _ h => h) (yieldsIf_cell rfl 32 _ rfl ⟨X0, 0, none⟩ rfl (.int .u64 (s0 : Int)) _ (fun W' hW' => (cell_of_row _ _ _ _ _ _ ((hW'.block _ (heap_lt hX_wr)).trans hX_wr)).trans rfl) Try.underlying32 rfl) hq0 ?_
      simp only [Act.put, List.setIfInBounds_toArray, List.set_cons_zero, List.set_cons_succ]
      refine takeZ (i := 2) (z := 9) (v := (.slice (some ⟨bb, off, none⟩) xs.length c0)) rfl rfl (by kernel_rfl) (by kernel_rfl) (by kernel_rfl) (by kernel_rfl) (by kernel_rfl) (by kernel_rfl) (fun _ _ _ h => h) (Or.inl ⟨rfl, fun _ _ => rfl⟩) hq0 ?_
      simp only [Act.put, List.setIfInBounds_toArray, List.set_cons_zero, List.set_cons_succ]
      refine takeZ (i := 3) (z := 9) (v := (.int .i64 (n0 : Int))) rfl rfl (by kernel_rfl) (by kernel_rfl) (by kernel_rfl) (by kernel_rfl) (by kernel_rfl) (by kernel_rfl) (fun _ _ _ h => h) (Or.inl ⟨rfl, fun _ _ => rfl⟩) hq0 ?_
      simp only [Act.put, List.setIfInBounds_toArray, List.set_cons_zero, List.set_cons_succ]
      refine takeZ (i := 4) (z := 9) (v := (.pointer (some ⟨bb, off + n0, none⟩))) rfl rfl (by kernel_rfl) (by kernel_rfl) (by kernel_rfl) (by kernel_rfl) (by kernel_rfl) (by kernel_rfl) (fun _ _ _ h => h) (Or.inl ⟨rfl, fun W' _ => by go_simp⟩) hq0 ?_
      simp only [Act.put, List.setIfInBounds_toArray, List.set_cons_zero, List.set_cons_succ]
      refine takeZ (i := 5) (z := 9) (v := _) rfl rfl (by kernel_rfl) (by kernel_rfl) (by kernel_rfl) (by kernel_rfl) (by kernel_rfl) (by kernel_rfl) (fun _ _ _ h => h) (yieldsIf_cell rfl 38 _ rfl ⟨bb, off + n0, none⟩ rfl (.int .u32 z) _ (fun W' hW' => (hW'.cell (p := ⟨bb, off + n0, none⟩) hblt).trans hc) Try.underlying38 rfl) hq0 ?_
      simp only [Act.put, List.setIfInBounds_toArray, List.set_cons_zero, List.set_cons_succ]
      refine takeZ (i := 6) (z := 9) (v := (.int .u64 z)) rfl rfl (by kernel_rfl) (by kernel_rfl) (by kernel_rfl) (by kernel_rfl) (by kernel_rfl) (by kernel_rfl) (fun _ _ _ h => h) (Or.inl ⟨rfl, fun W' _ => by go_simp; exact u_wrap _ (by omega) (by omega)⟩) hq0 ?_
      simp only [Act.put, List.setIfInBounds_toArray, List.set_cons_zero, List.set_cons_succ]
      refine takeZ (i := 7) (z := 9) (v := (.int .u64 ((s0 : Int) + z))) rfl rfl (by kernel_rfl) (by kernel_rfl) (by kernel_rfl) (by kernel_rfl) (by kernel_rfl) (by kernel_rfl) (fun _ _ _ h => h) (Or.inl ⟨rfl, fun W' _ => by go_simp; exact u_wrap _ (by omega) (by omega)⟩) hq0 ?_
      simp only [Act.put, List.setIfInBounds_toArray, List.set_cons_zero, List.set_cons_succ]
      refine takeZ (i := 8) (z := 9) (v := (.pointer (some ⟨X0, 0, none⟩))) rfl rfl (by kernel_rfl) (by kernel_rfl) (by kernel_rfl) (by kernel_rfl) (by kernel_rfl) (by kernel_rfl) (fun _ _ _ h => h) (Or.inl ⟨rfl, fun _ _ => rfl⟩) hq0 ?_
      simp only [Act.put, List.setIfInBounds_toArray, List.set_cons_zero, List.set_cons_succ]
      refine runZl (z := 9) rfl rfl (by kernel_rfl) (fun K hK => ?_)
      refine wp_st_at rfl 32 _ _ rfl X0 0 _ #[.int .u64 ((s0 : Int) + z)] _ #[.int .u64 ((s0 : Int) + z), .int .u64 (xs.length : Int), .bool true] _ rfl rfl rfl hxr (by exact (by decide : 0 + 1 ≤ 3)) (by kernel_rfl) rfl rfl (fun ws9 hrow9 hm9 => ?_)
      refine hK.out _ _ ?_
      try simp only [Act.put, List.setIfInBounds_toArray, List.set_cons_zero, List.set_cons_succ]
      clear hK K
      refine wpAnyH_done (by kernel_rfl) ?_ _
      generalize ws9 = y01 at *
      have tq0 := (hq0.block _ (heap_lt hX_wr)).trans hX_wr
      have tq0 := (hq0.block _ (heap_lt hY_wr)).trans hY_wr
      have tq1 := (hm9.heap (heap_lt tq0) (show ¬ Y0 = X0 by omega)).trans tq0
      have hY_y01 : y01.heap[Y0]? = some (.cells #[.int .u64 0, .int .u64 (ys.length : Int), .bool true] 34 (0, 0)) := tq1
      have eq0 : Ext w _ := E_wr.trans hq0
      have eq1 : Ext w _ := Ext.mutE eq0 hm9 (fun n hn h => by have h2 : n = X0 := h; omega)
      have E_y01 : Ext w y01 := eq1
      have hX_y01 : y01.heap[X0]? = some (.cells #[.int .u64 ((s0 : Int) + z), .int .u64 (xs.length : Int), .bool true] 34 (0, 0)) := hrow9
      clear hX_wr hY_wr E_wr
      clear hq0 hm9 tq0 tq1 eq0 eq1
      go_wp2_with fail
      go_roundw
      case rel => exact ⟨n0 + 1, by omega, by go_num, by rw [HS.out]; exact hX_y01, hY_y01, E_y01⟩
      case measure => simp [intOf]; omega
    · obtain rfl : n0 = xs.length := by omega
      rw [List.take_length] at hX_wr
      go_wp2_with fail
      go_loopw [9] (fun i wr => ∃ n1 : Nat, n1 ≤ ys.length ∧ i = .int .i64 n1 ∧ wr.heap[Y0]? = some (.cells #[.int .u64 ((sumC (ys.take n1) : Nat) : Int), .int .u64 (ys.length : Int), .bool true] 34 (0, 0)) ∧ wr.heap[X0]? = some (.cells #[.int .u64 ((sumC xs : Nat) : Int), .int .u64 (xs.length : Int), .bool true] 34 (0, 0)) ∧ Ext w wr) (fun i _ => ys.length - (intOf i).toNat)
      case atStart => exact ⟨0, by omega, rfl, hY_wr, hX_wr, E_wr⟩
      case round =>
        clear hY_wr hX_wr E_wr
        obtain ⟨n1, hn1, rfl, hY_wr, hX_wr, E_wr⟩ := hrel
        by_cases hlt1 : n1 < ys.length
        · obtain ⟨bb, off, rfl, hb, hc1, hc2, hcell⟩ := HF1.out (by omega)
          have hz := HYG.out (ys.getD n1 0) (by rw [List.getD_eq_getElem?_getD, List.getElem?_eq_getElem hlt1]; exact List.getElem_mem _)
          have hc := (E_wr.cell (p := ⟨bb, off + n1, none⟩) hb).trans (hcell n1 hlt1)
          have hS := sumC_take hlt1
          have h1 := sumC_take_le HYG.out n1
          obtain ⟨z, hzz⟩ : ∃ z, ys.getD n1 0 = z := ⟨_, rfl⟩
          rw [hzz] at hz hc hS
          obtain ⟨s0, hs0⟩ : ∃ s, sumC (ys.take n1) = s := ⟨_, rfl⟩
          rw [hs0] at hS h1 hY_wr
          have HS := Lib.hid (show ((sumC (ys.take (n1 + 1)) : Nat) : Int) = (s0 : Int) + z by rw [hS]; omega)
          have hblt := Nat.lt_of_lt_of_le hb E_wr.size
          have hs1 : s0 < 1000000000000 := by omega
          have n18 : n1 < 1000 := by omega
          clear hzz hs0 hcell hS
          go_wp2_with fail
          refine beginZ (S := fun W' => Ext wr W') 9 (by kernel_rfl) ?_
          intro wd hqx
          have hq0 : Ext wr wd := hqx
          have hxr := (hqx.block _ (heap_lt hY_wr)).trans hY_wr
          refine takeZ (i := 0) (z := 9) (v := (.pointer (some ⟨Y0, 0, none⟩))) rfl rfl (by kernel_rfl) (by kernel_rfl) (by kernel_rfl) (by kernel_rfl) (by kernel_rfl) (by kernel_rfl) (fun _ _ _ h => h) (Or.inl ⟨rfl, fun _ _ => rfl⟩) hq0 ?_
          simp only [Act.put, List.setIfInBounds_toArray, List.set_cons_zero, List.set_cons_succ]
          refine takeZ (i := 1) (z := 9) (v := _) rfl rfl (by kernel_rfl) (by kernel_rfl) (by kernel_rfl) (by kernel_rfl) (by kernel_rfl) (by kernel_rfl) (fun _ _ _ h => h) (yieldsIf_cell rfl 32 _ rfl ⟨Y0, 0, none⟩ rfl (.int .u64 (s0 : Int)) _ (fun W' hW' => (cell_of_row _ _ _ _ _ _ ((hW'.block _ (heap_lt hY_wr)).trans hY_wr)).trans rfl) Try.underlying32 rfl) hq0 ?_
          simp only [Act.put, List.setIfInBounds_toArray, List.set_cons_zero, List.set_cons_succ]
          refine takeZ (i := 2) (z := 9) (v := (.slice (some ⟨bb, off, none⟩) ys.length c1)) rfl rfl (by kernel_rfl) (by kernel_rfl) (by kernel_rfl) (by kernel_rfl) (by kernel_rfl) (by kernel_rfl) (fun _ _ _ h => h) (Or.inl ⟨rfl, fun _ _ => rfl⟩) hq0 ?_
          simp only [Act.put, List.setIfInBounds_toArray, List.set_cons_zero, List.set_cons_succ]
          refine takeZ (i := 3) (z := 9) (v := (.int .i64 (n1 : Int))) rfl rfl (by kernel_rfl) (by kernel_rfl) (by kernel_rfl) (by kernel_rfl) (by kernel_rfl) (by kernel_rfl) (fun _ _ _ h => h) (Or.inl ⟨rfl, fun _ _ => rfl⟩) hq0 ?_
          simp only [Act.put, List.setIfInBounds_toArray, List.set_cons_zero, List.set_cons_succ]
          refine takeZ (i := 4) (z := 9) (v := (.pointer (some ⟨bb, off + n1, none⟩))) rfl rfl (by kernel_rfl) (by kernel_rfl) (by kernel_rfl) (by kernel_rfl) (by kernel_rfl) (by kernel_rfl) (fun _ _ _ h => h) (Or.inl ⟨rfl, fun W' _ => by go_simp⟩) hq0 ?_
          simp only [Act.put, List.setIfInBounds_toArray, List.set_cons_zero, List.set_cons_succ]
          refine takeZ (i := 5) (z := 9) (v := _) rfl rfl (by kernel_rfl) (by kernel_rfl) (by kernel_rfl) (by kernel_rfl) (by kernel_rfl) (by kernel_rfl) (fun _ _ _ h => h) (yieldsIf_cell rfl 38 _ rfl ⟨bb, off + n1, none⟩ rfl (.int .u32 z) _ (fun W' hW' => (hW'.cell (p := ⟨bb, off + n1, none⟩) hblt).trans hc) Try.underlying38 rfl) hq0 ?_
          simp only [Act.put, List.setIfInBounds_toArray, List.set_cons_zero, List.set_cons_succ]
          refine takeZ (i := 6) (z := 9) (v := (.int .u64 z)) rfl rfl (by kernel_rfl) (by kernel_rfl) (by kernel_rfl) (by kernel_rfl) (by kernel_rfl) (by kernel_rfl) (fun _ _ _ h => h) (Or.inl ⟨rfl, fun W' _ => by go_simp; exact u_wrap _ (by omega) (by omega)⟩) hq0 ?_
          simp only [Act.put, List.setIfInBounds_toArray, List.set_cons_zero, List.set_cons_succ]
          refine takeZ (i := 7) (z := 9) (v := (.int .u64 ((s0 : Int) + z))) rfl rfl (by kernel_rfl) (by kernel_rfl) (by kernel_rfl) (by kernel_rfl) (by kernel_rfl) (by kernel_rfl) (fun _ _ _ h => h) (Or.inl ⟨rfl, fun W' _ => by go_simp; exact u_wrap _ (by omega) (by omega)⟩) hq0 ?_
          simp only [Act.put, List.setIfInBounds_toArray, List.set_cons_zero, List.set_cons_succ]
          refine takeZ (i := 8) (z := 9) (v := (.pointer (some ⟨Y0, 0, none⟩))) rfl rfl (by kernel_rfl) (by kernel_rfl) (by kernel_rfl) (by kernel_rfl) (by kernel_rfl) (by kernel_rfl) (fun _ _ _ h => h) (Or.inl ⟨rfl, fun _ _ => rfl⟩) hq0 ?_
          simp only [Act.put, List.setIfInBounds_toArray, List.set_cons_zero, List.set_cons_succ]
          refine runZl (z := 9) rfl rfl (by kernel_rfl) (fun K hK => ?_)
          refine wp_st_at rfl 32 _ _ rfl Y0 0 _ #[.int .u64 ((s0 : Int) + z)] _ #[.int .u64 ((s0 : Int) + z), .int .u64 (ys.length : Int), .bool true] _ rfl rfl rfl hxr (by exact (by decide : 0 + 1 ≤ 3)) (by kernel_rfl) rfl rfl (fun ws9 hrow9 hm9 => ?_)
          refine hK.out _ _ ?_
          try simp only [Act.put, List.setIfInBounds_toArray, List.set_cons_zero, List.set_cons_succ]
          clear hK K
          refine wpAnyH_done (by kernel_rfl) ?_ _
          generalize ws9 = y11 at *
          have tq0 := (hq0.block _ (heap_lt hX_wr)).trans hX_wr
          have tq1 := (hm9.heap (heap_lt tq0) (show ¬ X0 = Y0 by omega)).trans tq0
          have hX_y11 : y11.heap[X0]? = some (.cells #[.int .u64 ((sumC xs : Nat) : Int), .int .u64 (xs.length : Int), .bool true] 34 (0, 0)) := tq1
          have tq0 := (hq0.block _ (heap_lt hY_wr)).trans hY_wr
          have eq0 : Ext w _ := E_wr.trans hq0
          have eq1 : Ext w _ := Ext.mutE eq0 hm9 (fun n hn h => by have h2 : n = Y0 := h; omega)
          have E_y11 : Ext w y11 := eq1
          have hY_y11 : y11.heap[Y0]? = some (.cells #[.int .u64 ((s0 : Int) + z), .int .u64 (ys.length : Int), .bool true] 34 (0, 0)) := hrow9
          clear hX_wr hY_wr E_wr
          clear hq0 hm9 tq0 tq1 eq0 eq1
          go_wp2_with fail
          go_roundw
          case rel => exact ⟨n1 + 1, by omega, by go_num, by rw [HS.out]; exact hY_y11, hX_y11, E_y11⟩
          case measure => simp [intOf]; omega
        · obtain rfl : n1 = ys.length := by omega
          rw [List.take_length] at hY_wr
          have HSX := Lib.hid (sumC_le HXG.out)
          have HSY := Lib.hid (sumC_le HYG.out)
          have HSA := Lib.hid (sumC_app xs ys)
          go_wp2_with fail
          refine (rlength_any _ _ _ (HI0.out.ext E_wr) HXG.out (by omega)).mono ?_
          rintro e _ ⟨rfl, rfl⟩
          obtain ⟨A, hA⟩ : ∃ A, sumC xs = A := ⟨_, rfl⟩
          rw [hA] at hX_wr HSX HSA ⊢
          obtain ⟨p, hp⟩ : ∃ p, cvW (Option.some (A, xs.length)) = p := ⟨_, rfl⟩
          have HPP := Lib.hid hp
          rw [hp]
          clear hp hA
          go_wp2_with fail
          refine (rlength_any _ _ _ (HI1.out.ext E_wr) HYG.out (by omega)).mono ?_
          rintro e _ ⟨rfl, rfl⟩
          obtain ⟨B, hB⟩ : ∃ A, sumC ys = A := ⟨_, rfl⟩
          rw [hB] at hY_wr HSY HSA ⊢
          obtain ⟨q, hq⟩ : ∃ p, cvW (Option.some (B, ys.length)) = p := ⟨_, rfl⟩
          have HQQ := Lib.hid hq
          rw [hq]
          clear hq hB
          go_wp2_with (first
            | fail
            | (at_builtin; refine wpList_app4 rfl _ _ rfl wr ((Ext.refl wr).alloc _) _ _ ([]) (xs) rfl rfl (own04 wr) (HI0.out.ext (E_wr.trans ((Ext.refl wr).alloc _))) (by simp; omega) ?_
               intro va u1 hown_u1 hE_u1 hg_u1)
            | (at_builtin; refine wpList_app4 rfl _ _ rfl wr hE_u1 _ _ ([] ++ xs) (ys) rfl rfl hown_u1 (HI1.out.ext (E_wr.trans hE_u1)) (by simp; omega) ?_
               intro vb u2 hown_u2 hE_u2 hg_u2))
          rw [List.nil_append] at hown_u2
          refine (rlength_any _ _ _ (isU_own hown_u2) (fun z hz => (List.mem_append.1 hz).elim (HXG.out z) (HYG.out z)) (by rw [List.length_append]; omega)).mono ?_
          rintro e _ ⟨rfl, rfl⟩
          have hX_u2 : u2.heap[X0]? = some (.cells #[.int .u64 (A : Int), .int .u64 (xs.length : Int), .bool true] 34 (0, 0)) := (hE_u2.block _ (heap_lt hX_wr)).trans hX_wr
          have hY_u2 : u2.heap[Y0]? = some (.cells #[.int .u64 (B : Int), .int .u64 (ys.length : Int), .bool true] 34 (0, 0)) := (hE_u2.block _ (heap_lt hY_wr)).trans hY_wr
          have E_u2 := E_wr.trans hE_u2
          rw [HSA.out, List.length_append]
          have hA53 : A < 1000000000000 := by have := HSX.out; omega
          have hB53 : B < 1000000000000 := by have := HSY.out; omega
          have HR := Lib.hid (fun w : World => radd_run (P := Try.prog) w 30 A xs.length B ys.length (by omega) (by omega))
          have HQR := Lib.hid (eql_way (A + B) (xs.length + ys.length) (by omega) (by omega))
          have HQP := Lib.hid (eql_way A xs.length (by omega) (by omega))
          have HQQ2 := Lib.hid (eql_way B ys.length (by omega) (by omega))
          have HGP := Lib.hid (eqg_way (Option.some (A, xs.length)))
          have HGQ := Lib.hid (eqg_way (Option.some (B, ys.length)))
          have HGA := Lib.hid (eqg_way (Option.some (A + B, xs.length + ys.length)))
          have HL1 := Lib.hid (fun w : World => rless_any A xs.length B ys.length w (by omega) (by omega) (by omega) (by omega))
          have HL2 := Lib.hid (fun w : World => rdless_any A xs.length B ys.length w)
          have HN := Lib.hid (fun w : World => rnone_any (Option.some (A, xs.length)) w ⟨by omega, by omega⟩)
          have HC1 := Lib.hid (fun w : World => by have h := rcomplex_any (A : Int) (xs.length : Int) (by omega) (by omega) w; rw [Int.toNat_natCast, Int.toNat_natCast, HPP.out] at h; exact h)
          have HC2 := Lib.hid (fun w : World => by have h := rcomplex_any (B : Int) (ys.length : Int) (by omega) (by omega) w; rw [Int.toNat_natCast, Int.toNat_natCast, HQQ.out] at h; exact h)
          obtain ⟨al, hal⟩ : ∃ p, cvW (Option.some (A + B, xs.length + ys.length)) = p := ⟨_, rfl⟩
          obtain ⟨lt, hlt⟩ : ∃ b, ltW A xs.length B ys.length = b := ⟨_, rfl⟩
          rw [HPP.out] at HR HQP HL1 HN HGP
          rw [HQQ.out] at HR HQQ2 HL1 HGQ
          rw [hal] at HR HQR HGA ⊢
          rw [hlt] at HL1 HL2
          clear hal hlt hown_u2 hg_u2
          go_wp2_with fail
          refine beginL (S := fun W' => Ext u2 W') (by kernel_rfl) ?_
          intro wd hqx
          have hq0 : Ext u2 wd := hqx
          refine takeL (i := 0) (v := (.bool true)) rfl (by kernel_rfl) (by kernel_rfl) (by kernel_rfl) (fun _ _ _ h => h) (Or.inl ⟨rfl, fun _ _ => rfl⟩) hq0 ?_
          simp only [Act.put, List.setIfInBounds_toArray, List.set_cons_zero, List.set_cons_succ]
          refine takeL (i := 1) (v := (.bool true)) rfl (by kernel_rfl) (by kernel_rfl) (by kernel_rfl) (fun _ _ _ h => h) (Or.inl ⟨rfl, fun _ _ => rfl⟩) hq0 ?_
          simp only [Act.put, List.setIfInBounds_toArray, List.set_cons_zero, List.set_cons_succ]
          refine takeL (i := 2) (v := p) rfl (by kernel_rfl) (by kernel_rfl) (by kernel_rfl) (fun _ _ _ h => h) (Or.inl ⟨rfl, fun _ _ => rfl⟩) hq0 ?_
          simp only [Act.put, List.setIfInBounds_toArray, List.set_cons_zero, List.set_cons_succ]
          refine takeL (i := 3) (v := _) rfl (by kernel_rfl) (by kernel_rfl) (by kernel_rfl) (fun _ _ _ h => h) (yieldsIf_rowS rfl 34 _ rfl X0 rfl #[.int .u64 (A : Int), .int .u64 (xs.length : Int), .bool true] _ _ (fun W' hW' => ((hW'.block _ (heap_lt hX_u2)).trans hX_u2)) Try.underlying34 rfl (by kernel_rfl)) hq0 ?_
          simp only [Act.put, List.setIfInBounds_toArray, List.set_cons_zero, List.set_cons_succ]
          refine runG (i := 4) rfl (by rfl) (by kernel_rfl) (fun K hK => ?_)
          go_simp
          refine (HC1.out _).mono ?_
          rintro e wc1 ⟨rfl, hx⟩
          have hq1 := hq0.trans hx
          refine hK.out _ _ hq1 (fun hHeld => ?_)
          try simp only [Act.put, List.setIfInBounds_toArray, List.set_cons_zero, List.set_cons_succ]
          clear hK K hHeld
          refine takeL (i := 5) (v := (.bool true)) rfl (by kernel_rfl) (by kernel_rfl) (by kernel_rfl) (fun _ _ _ h => h) (Or.inl ⟨rfl, fun W' _ => by go_simp; simp [HGP.out, HQP.out]⟩) hq1 ?_
          simp only [Act.put, List.setIfInBounds_toArray, List.set_cons_zero, List.set_cons_succ]
          refine takeL (i := 6) (v := (.bool true)) rfl (by kernel_rfl) (by kernel_rfl) (by kernel_rfl) (fun _ _ _ h => h) (Or.inl ⟨rfl, fun _ _ => rfl⟩) hq1 ?_
          simp only [Act.put, List.setIfInBounds_toArray, List.set_cons_zero, List.set_cons_succ]
          refine takeL (i := 7) (v := (.bool true)) rfl (by kernel_rfl) (by kernel_rfl) (by kernel_rfl) (fun _ _ _ h => h) (Or.inl ⟨rfl, fun _ _ => rfl⟩) hq1 ?_
          simp only [Act.put, List.setIfInBounds_toArray, List.set_cons_zero, List.set_cons_succ]
          refine takeL (i := 8) (v := q) rfl (by kernel_rfl) (by kernel_rfl) (by kernel_rfl) (fun _ _ _ h => h) (Or.inl ⟨rfl, fun _ _ => rfl⟩) hq1 ?_
          simp only [Act.put, List.setIfInBounds_toArray, List.set_cons_zero, List.set_cons_succ]
          refine takeL (i := 9) (v := _) rfl (by kernel_rfl) (by kernel_rfl) (by kernel_rfl) (fun _ _ _ h => h) (yieldsIf_rowS rfl 34 _ rfl Y0 rfl #[.int .u64 (B : Int), .int .u64 (ys.length : Int), .bool true] _ _ (fun W' hW' => ((hW'.block _ (heap_lt hY_u2)).trans hY_u2)) Try.underlying34 rfl (by kernel_rfl)) hq1 ?_
          simp only [Act.put, List.setIfInBounds_toArray, List.set_cons_zero, List.set_cons_succ]
          refine runG (i := 10) rfl (by rfl) (by kernel_rfl) (fun K hK => ?_)
          go_simp
          refine (HC2.out _).mono ?_
          rintro e wc2 ⟨rfl, hx⟩
          have hq2 := hq1.trans hx
          refine hK.out _ _ hq2 (fun hHeld => ?_)
          try simp only [Act.put, List.setIfInBounds_toArray, List.set_cons_zero, List.set_cons_succ]
          clear hK K hHeld
          refine takeL (i := 11) (v := (.bool true)) rfl (by kernel_rfl) (by kernel_rfl) (by kernel_rfl) (fun _ _ _ h => h) (Or.inl ⟨rfl, fun W' _ => by go_simp; simp [HGQ.out, HQQ2.out]⟩) hq2 ?_
          simp only [Act.put, List.setIfInBounds_toArray, List.set_cons_zero, List.set_cons_succ]
          refine takeL (i := 12) (v := (.bool true)) rfl (by kernel_rfl) (by kernel_rfl) (by kernel_rfl) (fun _ _ _ h => h) (Or.inl ⟨rfl, fun _ _ => rfl⟩) hq2 ?_
          simp only [Act.put, List.setIfInBounds_toArray, List.set_cons_zero, List.set_cons_succ]
          refine takeL (i := 13) (v := (.bool true)) rfl (by kernel_rfl) (by kernel_rfl) (by kernel_rfl) (fun _ _ _ h => h) (Or.inl ⟨rfl, fun _ _ => rfl⟩) hq2 ?_
          simp only [Act.put, List.setIfInBounds_toArray, List.set_cons_zero, List.set_cons_succ]
          refine takeL (i := 14) (v := al) rfl (by kernel_rfl) (by kernel_rfl) (by kernel_rfl) (fun _ _ _ h => h) (Or.inl ⟨rfl, fun _ _ => rfl⟩) hq2 ?_
          simp only [Act.put, List.setIfInBounds_toArray, List.set_cons_zero, List.set_cons_succ]
          refine takeL (i := 15) (v := p) rfl (by kernel_rfl) (by kernel_rfl) (by kernel_rfl) (fun _ _ _ h => h) (Or.inl ⟨rfl, fun _ _ => rfl⟩) hq2 ?_
          simp only [Act.put, List.setIfInBounds_toArray, List.set_cons_zero, List.set_cons_succ]
          refine takeL (i := 16) (v := q) rfl (by kernel_rfl) (by kernel_rfl) (by kernel_rfl) (fun _ _ _ h => h) (Or.inl ⟨rfl, fun _ _ => rfl⟩) hq2 ?_
          simp only [Act.put, List.setIfInBounds_toArray, List.set_cons_zero, List.set_cons_succ]
          refine takeL (i := 17) (v := al) rfl (by kernel_rfl) (by kernel_rfl) (by kernel_rfl) (fun _ _ _ h => h) (Or.inl ⟨rfl, fun W' _ => by go_simp; simp [eqg_add, HR.out]⟩) hq2 ?_
          simp only [Act.put, List.setIfInBounds_toArray, List.set_cons_zero, List.set_cons_succ]
          refine takeL (i := 18) (v := (.bool true)) rfl (by kernel_rfl) (by kernel_rfl) (by kernel_rfl) (fun _ _ _ h => h) (Or.inl ⟨rfl, fun W' _ => by go_simp; simp [HGA.out, HQR.out]⟩) hq2 ?_
          simp only [Act.put, List.setIfInBounds_toArray, List.set_cons_zero, List.set_cons_succ]
          refine takeL (i := 19) (v := (.bool true)) rfl (by kernel_rfl) (by kernel_rfl) (by kernel_rfl) (fun _ _ _ h => h) (Or.inl ⟨rfl, fun _ _ => rfl⟩) hq2 ?_
          simp only [Act.put, List.setIfInBounds_toArray, List.set_cons_zero, List.set_cons_succ]
          refine takeL (i := 20) (v := (.bool true)) rfl (by kernel_rfl) (by kernel_rfl) (by kernel_rfl) (fun _ _ _ h => h) (Or.inl ⟨rfl, fun _ _ => rfl⟩) hq2 ?_
          simp only [Act.put, List.setIfInBounds_toArray, List.set_cons_zero, List.set_cons_succ]
          refine takeL (i := 21) (v := p) rfl (by kernel_rfl) (by kernel_rfl) (by kernel_rfl) (fun _ _ _ h => h) (Or.inl ⟨rfl, fun _ _ => rfl⟩) hq2 ?_
          simp only [Act.put, List.setIfInBounds_toArray, List.set_cons_zero, List.set_cons_succ]
          refine takeL (i := 22) (v := q) rfl (by kernel_rfl) (by kernel_rfl) (by kernel_rfl) (fun _ _ _ h => h) (Or.inl ⟨rfl, fun _ _ => rfl⟩) hq2 ?_
          simp only [Act.put, List.setIfInBounds_toArray, List.set_cons_zero, List.set_cons_succ]
          refine takeL (i := 24) (v := _) rfl (by kernel_rfl) (by kernel_rfl) (by kernel_rfl) (fun _ _ _ h => h) (yieldsIf_rowS rfl 34 _ rfl X0 rfl #[.int .u64 (A : Int), .int .u64 (xs.length : Int), .bool true] _ _ (fun W' hW' => ((hW'.block _ (heap_lt hX_u2)).trans hX_u2)) Try.underlying34 rfl (by kernel_rfl)) hq2 ?_
          simp only [Act.put, List.setIfInBounds_toArray, List.set_cons_zero, List.set_cons_succ]
          refine takeL (i := 25) (v := _) rfl (by kernel_rfl) (by kernel_rfl) (by kernel_rfl) (fun _ _ _ h => h) (yieldsIf_rowS rfl 34 _ rfl Y0 rfl #[.int .u64 (B : Int), .int .u64 (ys.length : Int), .bool true] _ _ (fun W' hW' => ((hW'.block _ (heap_lt hY_u2)).trans hY_u2)) Try.underlying34 rfl (by kernel_rfl)) hq2 ?_
          simp only [Act.put, List.setIfInBounds_toArray, List.set_cons_zero, List.set_cons_succ]
          refine runG (i := 23) rfl (by rfl) (by kernel_rfl) (fun K hK => ?_)
          go_simp
          refine (toExt (HL1.out _)).mono ?_
          rintro e wc3 ⟨rfl, hx⟩
          have hq3 := hq2.trans hx
          refine hK.out _ _ hq3 (fun hHeld => ?_)
          try simp only [Act.put, List.setIfInBounds_toArray, List.set_cons_zero, List.set_cons_succ]
          clear hK K hHeld
          refine runG (i := 26) rfl (by rfl) (by kernel_rfl) (fun K hK => ?_)
          go_simp
          refine (HL2.out _).mono ?_
          rintro e wc4 ⟨rfl, hx⟩
          have hq4 := hq3.trans hx
          refine hK.out _ _ hq4 (fun hHeld => ?_)
          try simp only [Act.put, List.setIfInBounds_toArray, List.set_cons_zero, List.set_cons_succ]
          clear hK K hHeld
          refine takeL (i := 27) (v := (.bool true)) rfl (by kernel_rfl) (by kernel_rfl) (by kernel_rfl) (fun _ _ _ h => h) (Or.inl ⟨rfl, fun W' _ => by go_simp⟩) hq4 ?_
          simp only [Act.put, List.setIfInBounds_toArray, List.set_cons_zero, List.set_cons_succ]
          refine takeL (i := 28) (v := (.bool true)) rfl (by kernel_rfl) (by kernel_rfl) (by kernel_rfl) (fun _ _ _ h => h) (Or.inl ⟨rfl, fun _ _ => rfl⟩) hq4 ?_
          simp only [Act.put, List.setIfInBounds_toArray, List.set_cons_zero, List.set_cons_succ]
          refine takeL (i := 29) (v := (.bool true)) rfl (by kernel_rfl) (by kernel_rfl) (by kernel_rfl) (fun _ _ _ h => h) (Or.inl ⟨rfl, fun _ _ => rfl⟩) hq4 ?_
          simp only [Act.put, List.setIfInBounds_toArray, List.set_cons_zero, List.set_cons_succ]
          refine takeL (i := 30) (v := p) rfl (by kernel_rfl) (by kernel_rfl) (by kernel_rfl) (fun _ _ _ h => h) (Or.inl ⟨rfl, fun _ _ => rfl⟩) hq4 ?_
          simp only [Act.put, List.setIfInBounds_toArray, List.set_cons_zero, List.set_cons_succ]
          refine runG (i := 31) rfl (by rfl) (by kernel_rfl) (fun K hK => ?_)
          go_simp
          refine (toExt (HN.out _)).mono ?_
          rintro e wc5 ⟨rfl, hx⟩
          have hq5 := hq4.trans hx
          refine hK.out _ _ hq5 (fun hHeld => ?_)
          try simp only [Act.put, List.setIfInBounds_toArray, List.set_cons_zero, List.set_cons_succ]
          clear hK K hHeld
          refine takeL (i := 32) (v := (.bool true)) rfl (by kernel_rfl) (by kernel_rfl) (by kernel_rfl) (fun _ _ _ h => h) (Or.inl ⟨rfl, fun _ _ => rfl⟩) hq5 ?_
          simp only [Act.put, List.setIfInBounds_toArray, List.set_cons_zero, List.set_cons_succ]
          refine takeL (i := 33) (v := (.bool true)) rfl (by kernel_rfl) (by kernel_rfl) (by kernel_rfl) (fun _ _ _ h => h) (Or.inl ⟨rfl, fun _ _ => rfl⟩) hq5 ?_
          simp only [Act.put, List.setIfInBounds_toArray, List.set_cons_zero, List.set_cons_succ]
          refine takeL (i := 34) (v := (.bool true)) rfl (by kernel_rfl) (by kernel_rfl) (by kernel_rfl) (fun _ _ _ h => h) (Or.inl ⟨rfl, fun _ _ => rfl⟩) hq5 ?_
          simp only [Act.put, List.setIfInBounds_toArray, List.set_cons_zero, List.set_cons_succ]
          refine wpAnyH_done (by kernel_rfl) ?_ _
          generalize wc5 = z11 at *
          have hX_z11 : z11.heap[X0]? = some (.cells #[.int .u64 (A : Int), .int .u64 (xs.length : Int), .bool true] 34 (0, 0)) := (hq5.block _ (heap_lt hX_u2)).trans hX_u2
          have hY_z11 : z11.heap[Y0]? = some (.cells #[.int .u64 (B : Int), .int .u64 (ys.length : Int), .bool true] 34 (0, 0)) := (hq5.block _ (heap_lt hY_u2)).trans hY_u2
          have E_z11 : Ext w z11 := E_u2.trans hq5
          clear hX_u2 hY_u2 E_u2
          clear hq0 hq1 hq2 hq3 hq4 hq5
          go_wp2_with fail
          go_ret
          exact ⟨rfl, E_z11⟩

end Go.Proofs.Ytendaloeonbbeaa
