/- The step of the machine of passage, case by case. No statement is proved here. -/
import Derived.Test.YthlapkddgnpaeaaPasA
namespace Go.Proofs.Ythlapkddgnpaeaa
open Go.RowKit Go.BigFrame Go.WideShapes Go.ChangeShapes Go.Deep
set_option linter.unusedVariables false

set_option maxHeartbeats 1000000 in
theorem pas_s0a (w : World) (F : Nat → Prop) (X g k : Nat) (B : Br) (h : BrG w F X g B) (ho : B.ok) (hk : k < B.np) (hk2 : k < 1000) (s0 : B.gi k 20 = 0) (v0 : B.gb k 28 = true) :
    Calls Try.prog 24 #[.pointer (some ⟨X, 0, none⟩), .int .i64 k] w (Stepped w F X g (true, pasLearn B k)) := by
  obtain ⟨hX, hg, hne⟩ := h.lt
  obtain ⟨cap, c17, hc1, hc2⟩ := h.cell17 ho
  have P20 := Lib.hid ((h.cellg (i := k * 89 + 20) (lt89 hk (by decide))).trans (ho.gi hk 20 rfl))
  have P27 := Lib.hid ((h.cellg (i := k * 89 + 27) (lt89 hk (by decide))).trans (ho.gb hk 27 rfl))
  have P29 := Lib.hid ((h.cellg (i := k * 89 + 29) (lt89 hk (by decide))).trans (ho.gb hk 29 rfl))
  have f6 := Lib.hid ((flags_at (B := B) (k := k) (j := 6) (by decide)).trans (ho.gb hk 28 rfl))
  have f4 := Lib.hid ((flags_at (B := B) (k := k) (j := 4) (by decide)).trans (ho.gb hk 26 rfl))
  have hfi := Lib.hid (show (Try.prog.info? 47).map (·.size) = some (flags B.ps k).length by rw [flags_len ho hk]; exact size_flags)
  have H := Lib.hid h
  have V0 := Lib.hid v0
  clear h v0
  have S20 := Lib.hid s0
  clear s0
  have hi := Lib.hid size_prow
  have i0 := pas_ix0
  have i1 := pas_ix1
  have i2 := pas_ix2
  have i3 := pas_ix3
  go_enter Try.func24, Try.ntmps24
  go_wp2_with fail
  refine (pas_rows _).mono ?_
  rintro e w0 ⟨rfl, hx0⟩
  have hg0 := Nat.lt_of_lt_of_le hg hx0.size
  have hX0 := Nat.lt_of_lt_of_le hX hx0.size
  clear c17
  go_wp2_with fail
  refine wp_loop_rounds 5 ?_
  rw [rounds_succ]
  go_wp2_with (first | fail | ((with_reducible refine at_store 67 ?_); refine wpList_store_new2 rfl rfl 67 _ _ _ rfl _ #[.int .i64 0, .func (.func 33) #[] #[], .func (.func 34) #[] #[], .int .i64 1] _ rfl ?_ rfl hi.out rfl rfl ?_; · simp))
  refine wp_region_tail 15 (by kernel_rfl) (by kernel_rfl) ?_
  intro u1 hu1
  have hy1 : Ext w u1 := by
    rw [hu1]
    exact (hx0.alloc _).drew
  have b0_1 : u1.cell? ⟨w0.heap.size, 0, none⟩ = some (.int .i64 0) := by
    rw [hu1, World.cell?_drew]
    exact World.cell?_alloc_at _ _ _ _ rfl
  have b1_1 : u1.cell? ⟨w0.heap.size, 1, none⟩ = some (.func (.func 33) #[] #[]) := by
    rw [hu1, World.cell?_drew]
    exact World.cell?_alloc_at _ _ _ _ rfl
  have b2_1 : u1.cell? ⟨w0.heap.size, 2, none⟩ = some (.func (.func 34) #[] #[]) := by
    rw [hu1, World.cell?_drew]
    exact World.cell?_alloc_at _ _ _ _ rfl
  have b3_1 : u1.cell? ⟨w0.heap.size, 3, none⟩ = some (.int .i64 1) := by
    rw [hu1, World.cell?_drew]
    exact World.cell?_alloc_at _ _ _ _ rfl
  have hz1 : w0.heap.size < u1.heap.size := by rw [hu1]; simp
  have hgn1 : g ≠ w0.heap.size := Nat.ne_of_lt hg0
  clear hu1
  have q20 := (hy1.cell (p := ⟨g, k * 89 + 20, none⟩) hg).trans P20.out
  rw [S20.out] at q20
  have hr1 := Lib.hid (flags_range (H.out.ext hy1) hk)
  simp only [List.take_succ_cons, List.take_zero, List.drop_succ_cons, List.drop_zero]
  iterate 14 still_step
  refine wpStill_load_midG rfl 47 _ rfl g (k * 89 + 22) rfl (flags B.ps k) _ hr1.out Try.underlying47 rfl hfi.out ?_
  simp only [Act.put, List.setIfInBounds_toArray, List.set_cons_succ, List.set_cons_zero]
  refine wpStill_nil ?_
  go_wp2_with fail
  refine (pas_h1 _ _ _ f6.out).mono ?_
  rw [V0.out]
  rintro e w1 ⟨rfl, hxx1⟩
  have hx1 := hy1.trans hxx1
  have d2 := (hxx1.cell (p := ⟨w0.heap.size, 2, none⟩) hz1).trans b2_1
  have d3 := (hxx1.cell (p := ⟨w0.heap.size, 3, none⟩) hz1).trans b3_1
  clear b0_1 b1_1 q20 hxx1 b2_1 b3_1
  have hg1 := Nat.lt_of_lt_of_le hg hx1.size
  have hX1 := Nat.lt_of_lt_of_le hX hx1.size
  go_wp2_with fail
  refine wp_region_tail 5 (by kernel_rfl) (by kernel_rfl) ?_
  intro w9 hw9
  have hx9 : Ext w w9 := by
    rw [hw9]
    exact hx1.drew
  have e2 : w9.cell? ⟨w0.heap.size, 2, none⟩ = some _ := (show w9.cell? _ = w1.cell? _ by rw [hw9, World.cell?_drew]).trans d2
  have e3 : w9.cell? ⟨w0.heap.size, 3, none⟩ = some _ := (show w9.cell? _ = w1.cell? _ by rw [hw9, World.cell?_drew]).trans d3
  clear hw9 d2 d3
  have p20 := (hx9.cell (p := ⟨g, k * 89 + 20, none⟩) hg).trans P20.out
  have p27 := (hx9.cell (p := ⟨g, k * 89 + 27, none⟩) hg).trans P27.out
  have p29 := (hx9.cell (p := ⟨g, k * 89 + 29, none⟩) hg).trans P29.out
  have hf9 : ∀ j, w9.frozen? ⟨g, j, none⟩ = false := fun j => (H.out.ext hx9).frozen j
  simp only [List.take_succ_cons, List.take_zero, List.drop_succ_cons, List.drop_zero]
  repeat still_step
  refine wpStill_nil ?_
  go_wp2_with fail
  refine (pas_learn g (k * 89 + 22) _ w9 p29 hf9).mono ?_
  rintro e w3 ⟨rfl, rfl⟩
  go_wp2_with fail
  go_ret
  exact ⟨rfl, (((H.out.ext hx9).setp (j := 29) hk (by decide) _).setp (j := 20) hk (by decide) _), (((hx9.mut F).setCell (.inl H.out.F2) _).setCell (.inl H.out.F2) _)⟩

set_option maxHeartbeats 1000000 in
theorem pas_s0b (w : World) (F : Nat → Prop) (X g k : Nat) (B : Br) (h : BrG w F X g B) (ho : B.ok) (hk : k < B.np) (hk2 : k < 1000) (s0 : B.gi k 20 = 0) (v0 : B.gb k 28 = false) :
    Calls Try.prog 24 #[.pointer (some ⟨X, 0, none⟩), .int .i64 k] w (Stepped w F X g (false, B)) := by
  obtain ⟨hX, hg, hne⟩ := h.lt
  obtain ⟨cap, c17, hc1, hc2⟩ := h.cell17 ho
  have P20 := Lib.hid ((h.cellg (i := k * 89 + 20) (lt89 hk (by decide))).trans (ho.gi hk 20 rfl))
  have P27 := Lib.hid ((h.cellg (i := k * 89 + 27) (lt89 hk (by decide))).trans (ho.gb hk 27 rfl))
  have P29 := Lib.hid ((h.cellg (i := k * 89 + 29) (lt89 hk (by decide))).trans (ho.gb hk 29 rfl))
  have f6 := Lib.hid ((flags_at (B := B) (k := k) (j := 6) (by decide)).trans (ho.gb hk 28 rfl))
  have f4 := Lib.hid ((flags_at (B := B) (k := k) (j := 4) (by decide)).trans (ho.gb hk 26 rfl))
  have hfi := Lib.hid (show (Try.prog.info? 47).map (·.size) = some (flags B.ps k).length by rw [flags_len ho hk]; exact size_flags)
  have H := Lib.hid h
  have V0 := Lib.hid v0
  clear h v0
  have S20 := Lib.hid s0
  clear s0
  have hi := Lib.hid size_prow
  have i0 := pas_ix0
  have i1 := pas_ix1
  have i2 := pas_ix2
  have i3 := pas_ix3
  go_enter Try.func24, Try.ntmps24
  go_wp2_with fail
  refine (pas_rows _).mono ?_
  rintro e w0 ⟨rfl, hx0⟩
  have hg0 := Nat.lt_of_lt_of_le hg hx0.size
  have hX0 := Nat.lt_of_lt_of_le hX hx0.size
  clear c17
  go_wp2_with fail
  refine wp_loop_rounds 5 ?_
  rw [rounds_succ]
  go_wp2_with (first | fail | ((with_reducible refine at_store 67 ?_); refine wpList_store_new2 rfl rfl 67 _ _ _ rfl _ #[.int .i64 0, .func (.func 33) #[] #[], .func (.func 34) #[] #[], .int .i64 1] _ rfl ?_ rfl hi.out rfl rfl ?_; · simp))
  refine wp_region_tail 15 (by kernel_rfl) (by kernel_rfl) ?_
  intro u1 hu1
  have hy1 : Ext w u1 := by
    rw [hu1]
    exact (hx0.alloc _).drew
  have b0_1 : u1.cell? ⟨w0.heap.size, 0, none⟩ = some (.int .i64 0) := by
    rw [hu1, World.cell?_drew]
    exact World.cell?_alloc_at _ _ _ _ rfl
  have b1_1 : u1.cell? ⟨w0.heap.size, 1, none⟩ = some (.func (.func 33) #[] #[]) := by
    rw [hu1, World.cell?_drew]
    exact World.cell?_alloc_at _ _ _ _ rfl
  have hz1 : w0.heap.size < u1.heap.size := by rw [hu1]; simp
  have hgn1 : g ≠ w0.heap.size := Nat.ne_of_lt hg0
  clear hu1
  have q20 := (hy1.cell (p := ⟨g, k * 89 + 20, none⟩) hg).trans P20.out
  rw [S20.out] at q20
  have hr1 := Lib.hid (flags_range (H.out.ext hy1) hk)
  simp only [List.take_succ_cons, List.take_zero, List.drop_succ_cons, List.drop_zero]
  iterate 14 still_step
  refine wpStill_load_midG rfl 47 _ rfl g (k * 89 + 22) rfl (flags B.ps k) _ hr1.out Try.underlying47 rfl hfi.out ?_
  simp only [Act.put, List.setIfInBounds_toArray, List.set_cons_succ, List.set_cons_zero]
  refine wpStill_nil ?_
  go_wp2_with fail
  refine (pas_h1 _ _ _ f6.out).mono ?_
  rw [V0.out]
  rintro e w1 ⟨rfl, hxx1⟩
  have hx1 := hy1.trans hxx1
  clear b0_1 b1_1 q20 hxx1 
  have hg1 := Nat.lt_of_lt_of_le hg hx1.size
  have hX1 := Nat.lt_of_lt_of_le hX hx1.size
  go_wp2_with fail
  rw [rounds_succ]
  go_wp2_with (first | fail | ((with_reducible refine at_store 67 ?_); refine wpList_store_new2 rfl rfl 67 _ _ _ rfl _ #[.int .i64 1, .func (.func 35) #[] #[], .func (.func 36) #[] #[], .int .i64 0] _ rfl ?_ rfl hi.out rfl rfl ?_; · simp))
  have q20 := (hx1.cell (p := ⟨g, k * 89 + 20, none⟩) hg).trans P20.out
  rw [S20.out] at q20
  go_quiet (fail)
  have hy : Ext w (World.drewN (w1.alloc (.cells #[.int .i64 1, .func (.func 35) #[] #[], .func (.func 36) #[] #[], .int .i64 0] 67)) nq) := (hx1.alloc _).drewN _
  go_wp2_with fail
  generalize World.drewN _ nq = w2 at hy ⊢
  have hx2 := hy
  clear q20 hg1 hX1 hy
  have hg2 := Nat.lt_of_lt_of_le hg hx2.size
  have hX2 := Nat.lt_of_lt_of_le hX hx2.size
  rw [rounds_succ]
  go_wp2_with (first | fail | ((with_reducible refine at_store 67 ?_); refine wpList_store_new2 rfl rfl 67 _ _ _ rfl _ #[.int .i64 1, .func (.func 37) #[] #[], .func (.func 38) #[] #[], .int .i64 2] _ rfl ?_ rfl hi.out rfl rfl ?_; · simp))
  have q20 := (hx2.cell (p := ⟨g, k * 89 + 20, none⟩) hg).trans P20.out
  rw [S20.out] at q20
  go_quiet (fail)
  have hy : Ext w (World.drewN (w2.alloc (.cells #[.int .i64 1, .func (.func 37) #[] #[], .func (.func 38) #[] #[], .int .i64 2] 67)) nq) := (hx2.alloc _).drewN _
  go_wp2_with fail
  generalize World.drewN _ nq = w3 at hy ⊢
  have hx3 := hy
  clear q20 hg2 hX2 hy
  have hg3 := Nat.lt_of_lt_of_le hg hx3.size
  have hX3 := Nat.lt_of_lt_of_le hX hx3.size
  rw [rounds_succ]
  go_wp2_with (first | fail | ((with_reducible refine at_store 67 ?_); refine wpList_store_new2 rfl rfl 67 _ _ _ rfl _ #[.int .i64 2, .func (.func 39) #[] #[], .func (.func 36) #[] #[], .int .i64 0] _ rfl ?_ rfl hi.out rfl rfl ?_; · simp))
  have q20 := (hx3.cell (p := ⟨g, k * 89 + 20, none⟩) hg).trans P20.out
  rw [S20.out] at q20
  go_quiet (fail)
  have hy : Ext w (World.drewN (w3.alloc (.cells #[.int .i64 2, .func (.func 39) #[] #[], .func (.func 36) #[] #[], .int .i64 0] 67)) nq) := (hx3.alloc _).drewN _
  go_wp2_with fail
  generalize World.drewN _ nq = w4 at hy ⊢
  have hx4 := hy
  clear q20 hg3 hX3 hy
  have hg4 := Nat.lt_of_lt_of_le hg hx4.size
  have hX4 := Nat.lt_of_lt_of_le hX hx4.size
  rw [rounds_succ]
  go_wp2_with fail
  go_ret
  exact ⟨rfl, H.out.ext hx4, hx4.mut F⟩

set_option maxHeartbeats 1000000 in
theorem pas_s1a (w : World) (F : Nat → Prop) (X g k : Nat) (B : Br) (h : BrG w F X g B) (ho : B.ok) (hk : k < B.np) (hk2 : k < 1000) (s0 : B.gi k 20 = 1) (v0 : B.gb k 28 = false) :
    Calls Try.prog 24 #[.pointer (some ⟨X, 0, none⟩), .int .i64 k] w (Stepped w F X g (true, pasStop B k)) := by
  obtain ⟨hX, hg, hne⟩ := h.lt
  obtain ⟨cap, c17, hc1, hc2⟩ := h.cell17 ho
  have P20 := Lib.hid ((h.cellg (i := k * 89 + 20) (lt89 hk (by decide))).trans (ho.gi hk 20 rfl))
  have P27 := Lib.hid ((h.cellg (i := k * 89 + 27) (lt89 hk (by decide))).trans (ho.gb hk 27 rfl))
  have P29 := Lib.hid ((h.cellg (i := k * 89 + 29) (lt89 hk (by decide))).trans (ho.gb hk 29 rfl))
  have f6 := Lib.hid ((flags_at (B := B) (k := k) (j := 6) (by decide)).trans (ho.gb hk 28 rfl))
  have f4 := Lib.hid ((flags_at (B := B) (k := k) (j := 4) (by decide)).trans (ho.gb hk 26 rfl))
  have hfi := Lib.hid (show (Try.prog.info? 47).map (·.size) = some (flags B.ps k).length by rw [flags_len ho hk]; exact size_flags)
  have H := Lib.hid h
  have V0 := Lib.hid v0
  clear h v0
  have S20 := Lib.hid s0
  clear s0
  have hi := Lib.hid size_prow
  have i0 := pas_ix0
  have i1 := pas_ix1
  have i2 := pas_ix2
  have i3 := pas_ix3
  go_enter Try.func24, Try.ntmps24
  go_wp2_with fail
  refine (pas_rows _).mono ?_
  rintro e w0 ⟨rfl, hx0⟩
  have hg0 := Nat.lt_of_lt_of_le hg hx0.size
  have hX0 := Nat.lt_of_lt_of_le hX hx0.size
  clear c17
  go_wp2_with fail
  refine wp_loop_rounds 5 ?_
  rw [rounds_succ]
  go_wp2_with (first | fail | ((with_reducible refine at_store 67 ?_); refine wpList_store_new2 rfl rfl 67 _ _ _ rfl _ #[.int .i64 0, .func (.func 33) #[] #[], .func (.func 34) #[] #[], .int .i64 1] _ rfl ?_ rfl hi.out rfl rfl ?_; · simp))
  have q20 := (hx0.cell (p := ⟨g, k * 89 + 20, none⟩) hg).trans P20.out
  rw [S20.out] at q20
  go_quiet (fail)
  have hy : Ext w (World.drewN (w0.alloc (.cells #[.int .i64 0, .func (.func 33) #[] #[], .func (.func 34) #[] #[], .int .i64 1] 67)) nq) := (hx0.alloc _).drewN _
  go_wp2_with fail
  generalize World.drewN _ nq = w1 at hy ⊢
  have hx1 := hy
  clear q20 hg0 hX0 hy
  have hg1 := Nat.lt_of_lt_of_le hg hx1.size
  have hX1 := Nat.lt_of_lt_of_le hX hx1.size
  rw [rounds_succ]
  go_wp2_with (first | fail | ((with_reducible refine at_store 67 ?_); refine wpList_store_new2 rfl rfl 67 _ _ _ rfl _ #[.int .i64 1, .func (.func 35) #[] #[], .func (.func 36) #[] #[], .int .i64 0] _ rfl ?_ rfl hi.out rfl rfl ?_; · simp))
  refine wp_region_tail 15 (by kernel_rfl) (by kernel_rfl) ?_
  intro u2 hu2
  have hy2 : Ext w u2 := by
    rw [hu2]
    exact (hx1.alloc _).drew
  have b0_2 : u2.cell? ⟨w1.heap.size, 0, none⟩ = some (.int .i64 1) := by
    rw [hu2, World.cell?_drew]
    exact World.cell?_alloc_at _ _ _ _ rfl
  have b1_2 : u2.cell? ⟨w1.heap.size, 1, none⟩ = some (.func (.func 35) #[] #[]) := by
    rw [hu2, World.cell?_drew]
    exact World.cell?_alloc_at _ _ _ _ rfl
  have b2_2 : u2.cell? ⟨w1.heap.size, 2, none⟩ = some (.func (.func 36) #[] #[]) := by
    rw [hu2, World.cell?_drew]
    exact World.cell?_alloc_at _ _ _ _ rfl
  have b3_2 : u2.cell? ⟨w1.heap.size, 3, none⟩ = some (.int .i64 0) := by
    rw [hu2, World.cell?_drew]
    exact World.cell?_alloc_at _ _ _ _ rfl
  have hz2 : w1.heap.size < u2.heap.size := by rw [hu2]; simp
  have hgn2 : g ≠ w1.heap.size := Nat.ne_of_lt hg1
  clear hu2
  have q20 := (hy2.cell (p := ⟨g, k * 89 + 20, none⟩) hg).trans P20.out
  rw [S20.out] at q20
  have hr2 := Lib.hid (flags_range (H.out.ext hy2) hk)
  simp only [List.take_succ_cons, List.take_zero, List.drop_succ_cons, List.drop_zero]
  iterate 14 still_step
  refine wpStill_load_midG rfl 47 _ rfl g (k * 89 + 22) rfl (flags B.ps k) _ hr2.out Try.underlying47 rfl hfi.out ?_
  simp only [Act.put, List.setIfInBounds_toArray, List.set_cons_succ, List.set_cons_zero]
  refine wpStill_nil ?_
  go_wp2_with fail
  refine (pas_h2 _ _ _ f6.out).mono ?_
  rw [V0.out]
  rintro e w2 ⟨rfl, hxx2⟩
  have hx2 := hy2.trans hxx2
  have d2 := (hxx2.cell (p := ⟨w1.heap.size, 2, none⟩) hz2).trans b2_2
  have d3 := (hxx2.cell (p := ⟨w1.heap.size, 3, none⟩) hz2).trans b3_2
  clear b0_2 b1_2 q20 hxx2 b2_2 b3_2
  have hg2 := Nat.lt_of_lt_of_le hg hx2.size
  have hX2 := Nat.lt_of_lt_of_le hX hx2.size
  go_wp2_with fail
  refine wp_region_tail 5 (by kernel_rfl) (by kernel_rfl) ?_
  intro w9 hw9
  have hx9 : Ext w w9 := by
    rw [hw9]
    exact hx2.drew
  have e2 : w9.cell? ⟨w1.heap.size, 2, none⟩ = some _ := (show w9.cell? _ = w2.cell? _ by rw [hw9, World.cell?_drew]).trans d2
  have e3 : w9.cell? ⟨w1.heap.size, 3, none⟩ = some _ := (show w9.cell? _ = w2.cell? _ by rw [hw9, World.cell?_drew]).trans d3
  clear hw9 d2 d3
  have p20 := (hx9.cell (p := ⟨g, k * 89 + 20, none⟩) hg).trans P20.out
  have p27 := (hx9.cell (p := ⟨g, k * 89 + 27, none⟩) hg).trans P27.out
  have p29 := (hx9.cell (p := ⟨g, k * 89 + 29, none⟩) hg).trans P29.out
  have hf9 : ∀ j, w9.frozen? ⟨g, j, none⟩ = false := fun j => (H.out.ext hx9).frozen j
  simp only [List.take_succ_cons, List.take_zero, List.drop_succ_cons, List.drop_zero]
  repeat still_step
  refine wpStill_nil ?_
  go_wp2_with fail
  refine (pas_stop g (k * 89 + 22) _ _ w9 p29 p27 hf9).mono ?_
  rintro e w3 ⟨rfl, rfl⟩
  go_wp2_with fail
  go_ret
  exact ⟨rfl, ((((H.out.ext hx9).setp (j := 29) hk (by decide) _).setp (j := 27) hk (by decide) _).setp (j := 20) hk (by decide) _), ((((hx9.mut F).setCell (.inl H.out.F2) _).setCell (.inl H.out.F2) _).setCell (.inl H.out.F2) _)⟩

set_option maxHeartbeats 1000000 in
theorem pas_s1b (w : World) (F : Nat → Prop) (X g k : Nat) (B : Br) (h : BrG w F X g B) (ho : B.ok) (hk : k < B.np) (hk2 : k < 1000) (s0 : B.gi k 20 = 1) (v0 : B.gb k 28 = true) (v1 : B.gb k 26 = true) :
    Calls Try.prog 24 #[.pointer (some ⟨X, 0, none⟩), .int .i64 k] w (Stepped w F X g (true, pasForward B k)) := by
  obtain ⟨hX, hg, hne⟩ := h.lt
  obtain ⟨cap, c17, hc1, hc2⟩ := h.cell17 ho
  have P20 := Lib.hid ((h.cellg (i := k * 89 + 20) (lt89 hk (by decide))).trans (ho.gi hk 20 rfl))
  have P27 := Lib.hid ((h.cellg (i := k * 89 + 27) (lt89 hk (by decide))).trans (ho.gb hk 27 rfl))
  have P29 := Lib.hid ((h.cellg (i := k * 89 + 29) (lt89 hk (by decide))).trans (ho.gb hk 29 rfl))
  have f6 := Lib.hid ((flags_at (B := B) (k := k) (j := 6) (by decide)).trans (ho.gb hk 28 rfl))
  have f4 := Lib.hid ((flags_at (B := B) (k := k) (j := 4) (by decide)).trans (ho.gb hk 26 rfl))
  have hfi := Lib.hid (show (Try.prog.info? 47).map (·.size) = some (flags B.ps k).length by rw [flags_len ho hk]; exact size_flags)
  have H := Lib.hid h
  have V0 := Lib.hid v0
  have V1 := Lib.hid v1
  clear h v0 v1
  have S20 := Lib.hid s0
  clear s0
  have hi := Lib.hid size_prow
  have i0 := pas_ix0
  have i1 := pas_ix1
  have i2 := pas_ix2
  have i3 := pas_ix3
  go_enter Try.func24, Try.ntmps24
  go_wp2_with fail
  refine (pas_rows _).mono ?_
  rintro e w0 ⟨rfl, hx0⟩
  have hg0 := Nat.lt_of_lt_of_le hg hx0.size
  have hX0 := Nat.lt_of_lt_of_le hX hx0.size
  clear c17
  go_wp2_with fail
  refine wp_loop_rounds 5 ?_
  rw [rounds_succ]
  go_wp2_with (first | fail | ((with_reducible refine at_store 67 ?_); refine wpList_store_new2 rfl rfl 67 _ _ _ rfl _ #[.int .i64 0, .func (.func 33) #[] #[], .func (.func 34) #[] #[], .int .i64 1] _ rfl ?_ rfl hi.out rfl rfl ?_; · simp))
  have q20 := (hx0.cell (p := ⟨g, k * 89 + 20, none⟩) hg).trans P20.out
  rw [S20.out] at q20
  go_quiet (fail)
  have hy : Ext w (World.drewN (w0.alloc (.cells #[.int .i64 0, .func (.func 33) #[] #[], .func (.func 34) #[] #[], .int .i64 1] 67)) nq) := (hx0.alloc _).drewN _
  go_wp2_with fail
  generalize World.drewN _ nq = w1 at hy ⊢
  have hx1 := hy
  clear q20 hg0 hX0 hy
  have hg1 := Nat.lt_of_lt_of_le hg hx1.size
  have hX1 := Nat.lt_of_lt_of_le hX hx1.size
  rw [rounds_succ]
  go_wp2_with (first | fail | ((with_reducible refine at_store 67 ?_); refine wpList_store_new2 rfl rfl 67 _ _ _ rfl _ #[.int .i64 1, .func (.func 35) #[] #[], .func (.func 36) #[] #[], .int .i64 0] _ rfl ?_ rfl hi.out rfl rfl ?_; · simp))
  refine wp_region_tail 15 (by kernel_rfl) (by kernel_rfl) ?_
  intro u2 hu2
  have hy2 : Ext w u2 := by
    rw [hu2]
    exact (hx1.alloc _).drew
  have b0_2 : u2.cell? ⟨w1.heap.size, 0, none⟩ = some (.int .i64 1) := by
    rw [hu2, World.cell?_drew]
    exact World.cell?_alloc_at _ _ _ _ rfl
  have b1_2 : u2.cell? ⟨w1.heap.size, 1, none⟩ = some (.func (.func 35) #[] #[]) := by
    rw [hu2, World.cell?_drew]
    exact World.cell?_alloc_at _ _ _ _ rfl
  have hz2 : w1.heap.size < u2.heap.size := by rw [hu2]; simp
  have hgn2 : g ≠ w1.heap.size := Nat.ne_of_lt hg1
  clear hu2
  have q20 := (hy2.cell (p := ⟨g, k * 89 + 20, none⟩) hg).trans P20.out
  rw [S20.out] at q20
  have hr2 := Lib.hid (flags_range (H.out.ext hy2) hk)
  simp only [List.take_succ_cons, List.take_zero, List.drop_succ_cons, List.drop_zero]
  iterate 14 still_step
  refine wpStill_load_midG rfl 47 _ rfl g (k * 89 + 22) rfl (flags B.ps k) _ hr2.out Try.underlying47 rfl hfi.out ?_
  simp only [Act.put, List.setIfInBounds_toArray, List.set_cons_succ, List.set_cons_zero]
  refine wpStill_nil ?_
  go_wp2_with fail
  refine (pas_h2 _ _ _ f6.out).mono ?_
  rw [V0.out]
  rintro e w2 ⟨rfl, hxx2⟩
  have hx2 := hy2.trans hxx2
  clear b0_2 b1_2 q20 hxx2 
  have hg2 := Nat.lt_of_lt_of_le hg hx2.size
  have hX2 := Nat.lt_of_lt_of_le hX hx2.size
  go_wp2_with fail
  rw [rounds_succ]
  go_wp2_with (first | fail | ((with_reducible refine at_store 67 ?_); refine wpList_store_new2 rfl rfl 67 _ _ _ rfl _ #[.int .i64 1, .func (.func 37) #[] #[], .func (.func 38) #[] #[], .int .i64 2] _ rfl ?_ rfl hi.out rfl rfl ?_; · simp))
  refine wp_region_tail 15 (by kernel_rfl) (by kernel_rfl) ?_
  intro u3 hu3
  have hy3 : Ext w u3 := by
    rw [hu3]
    exact (hx2.alloc _).drew
  have b0_3 : u3.cell? ⟨w2.heap.size, 0, none⟩ = some (.int .i64 1) := by
    rw [hu3, World.cell?_drew]
    exact World.cell?_alloc_at _ _ _ _ rfl
  have b1_3 : u3.cell? ⟨w2.heap.size, 1, none⟩ = some (.func (.func 37) #[] #[]) := by
    rw [hu3, World.cell?_drew]
    exact World.cell?_alloc_at _ _ _ _ rfl
  have b2_3 : u3.cell? ⟨w2.heap.size, 2, none⟩ = some (.func (.func 38) #[] #[]) := by
    rw [hu3, World.cell?_drew]
    exact World.cell?_alloc_at _ _ _ _ rfl
  have b3_3 : u3.cell? ⟨w2.heap.size, 3, none⟩ = some (.int .i64 2) := by
    rw [hu3, World.cell?_drew]
    exact World.cell?_alloc_at _ _ _ _ rfl
  have hz3 : w2.heap.size < u3.heap.size := by rw [hu3]; simp
  have hgn3 : g ≠ w2.heap.size := Nat.ne_of_lt hg2
  clear hu3
  have q20 := (hy3.cell (p := ⟨g, k * 89 + 20, none⟩) hg).trans P20.out
  rw [S20.out] at q20
  have hr3 := Lib.hid (flags_range (H.out.ext hy3) hk)
  simp only [List.take_succ_cons, List.take_zero, List.drop_succ_cons, List.drop_zero]
  iterate 14 still_step
  refine wpStill_load_midG rfl 47 _ rfl g (k * 89 + 22) rfl (flags B.ps k) _ hr3.out Try.underlying47 rfl hfi.out ?_
  simp only [Act.put, List.setIfInBounds_toArray, List.set_cons_succ, List.set_cons_zero]
  refine wpStill_nil ?_
  go_wp2_with fail
  refine (pas_h3 _ _ _ f4.out).mono ?_
  rw [V1.out]
  rintro e w3 ⟨rfl, hxx3⟩
  have hx3 := hy3.trans hxx3
  have d2 := (hxx3.cell (p := ⟨w2.heap.size, 2, none⟩) hz3).trans b2_3
  have d3 := (hxx3.cell (p := ⟨w2.heap.size, 3, none⟩) hz3).trans b3_3
  clear b0_3 b1_3 q20 hxx3 b2_3 b3_3
  have hg3 := Nat.lt_of_lt_of_le hg hx3.size
  have hX3 := Nat.lt_of_lt_of_le hX hx3.size
  go_wp2_with fail
  refine wp_region_tail 5 (by kernel_rfl) (by kernel_rfl) ?_
  intro w9 hw9
  have hx9 : Ext w w9 := by
    rw [hw9]
    exact hx3.drew
  have e2 : w9.cell? ⟨w2.heap.size, 2, none⟩ = some _ := (show w9.cell? _ = w3.cell? _ by rw [hw9, World.cell?_drew]).trans d2
  have e3 : w9.cell? ⟨w2.heap.size, 3, none⟩ = some _ := (show w9.cell? _ = w3.cell? _ by rw [hw9, World.cell?_drew]).trans d3
  clear hw9 d2 d3
  have p20 := (hx9.cell (p := ⟨g, k * 89 + 20, none⟩) hg).trans P20.out
  have p27 := (hx9.cell (p := ⟨g, k * 89 + 27, none⟩) hg).trans P27.out
  have p29 := (hx9.cell (p := ⟨g, k * 89 + 29, none⟩) hg).trans P29.out
  have hf9 : ∀ j, w9.frozen? ⟨g, j, none⟩ = false := fun j => (H.out.ext hx9).frozen j
  simp only [List.take_succ_cons, List.take_zero, List.drop_succ_cons, List.drop_zero]
  repeat still_step
  refine wpStill_nil ?_
  go_wp2_with fail
  refine (pas_forward g (k * 89 + 22) _ w9 p27 hf9).mono ?_
  rintro e w3 ⟨rfl, rfl⟩
  go_wp2_with fail
  go_ret
  exact ⟨rfl, (((H.out.ext hx9).setp (j := 27) hk (by decide) _).setp (j := 20) hk (by decide) _), (((hx9.mut F).setCell (.inl H.out.F2) _).setCell (.inl H.out.F2) _)⟩

set_option maxHeartbeats 1000000 in
theorem pas_s1c (w : World) (F : Nat → Prop) (X g k : Nat) (B : Br) (h : BrG w F X g B) (ho : B.ok) (hk : k < B.np) (hk2 : k < 1000) (s0 : B.gi k 20 = 1) (v0 : B.gb k 28 = true) (v1 : B.gb k 26 = false) :
    Calls Try.prog 24 #[.pointer (some ⟨X, 0, none⟩), .int .i64 k] w (Stepped w F X g (false, B)) := by
  obtain ⟨hX, hg, hne⟩ := h.lt
  obtain ⟨cap, c17, hc1, hc2⟩ := h.cell17 ho
  have P20 := Lib.hid ((h.cellg (i := k * 89 + 20) (lt89 hk (by decide))).trans (ho.gi hk 20 rfl))
  have P27 := Lib.hid ((h.cellg (i := k * 89 + 27) (lt89 hk (by decide))).trans (ho.gb hk 27 rfl))
  have P29 := Lib.hid ((h.cellg (i := k * 89 + 29) (lt89 hk (by decide))).trans (ho.gb hk 29 rfl))
  have f6 := Lib.hid ((flags_at (B := B) (k := k) (j := 6) (by decide)).trans (ho.gb hk 28 rfl))
  have f4 := Lib.hid ((flags_at (B := B) (k := k) (j := 4) (by decide)).trans (ho.gb hk 26 rfl))
  have hfi := Lib.hid (show (Try.prog.info? 47).map (·.size) = some (flags B.ps k).length by rw [flags_len ho hk]; exact size_flags)
  have H := Lib.hid h
  have V0 := Lib.hid v0
  have V1 := Lib.hid v1
  clear h v0 v1
  have S20 := Lib.hid s0
  clear s0
  have hi := Lib.hid size_prow
  have i0 := pas_ix0
  have i1 := pas_ix1
  have i2 := pas_ix2
  have i3 := pas_ix3
  go_enter Try.func24, Try.ntmps24
  go_wp2_with fail
  refine (pas_rows _).mono ?_
  rintro e w0 ⟨rfl, hx0⟩
  have hg0 := Nat.lt_of_lt_of_le hg hx0.size
  have hX0 := Nat.lt_of_lt_of_le hX hx0.size
  clear c17
  go_wp2_with fail
  refine wp_loop_rounds 5 ?_
  rw [rounds_succ]
  go_wp2_with (first | fail | ((with_reducible refine at_store 67 ?_); refine wpList_store_new2 rfl rfl 67 _ _ _ rfl _ #[.int .i64 0, .func (.func 33) #[] #[], .func (.func 34) #[] #[], .int .i64 1] _ rfl ?_ rfl hi.out rfl rfl ?_; · simp))
  have q20 := (hx0.cell (p := ⟨g, k * 89 + 20, none⟩) hg).trans P20.out
  rw [S20.out] at q20
  go_quiet (fail)
  have hy : Ext w (World.drewN (w0.alloc (.cells #[.int .i64 0, .func (.func 33) #[] #[], .func (.func 34) #[] #[], .int .i64 1] 67)) nq) := (hx0.alloc _).drewN _
  go_wp2_with fail
  generalize World.drewN _ nq = w1 at hy ⊢
  have hx1 := hy
  clear q20 hg0 hX0 hy
  have hg1 := Nat.lt_of_lt_of_le hg hx1.size
  have hX1 := Nat.lt_of_lt_of_le hX hx1.size
  rw [rounds_succ]
  go_wp2_with (first | fail | ((with_reducible refine at_store 67 ?_); refine wpList_store_new2 rfl rfl 67 _ _ _ rfl _ #[.int .i64 1, .func (.func 35) #[] #[], .func (.func 36) #[] #[], .int .i64 0] _ rfl ?_ rfl hi.out rfl rfl ?_; · simp))
  refine wp_region_tail 15 (by kernel_rfl) (by kernel_rfl) ?_
  intro u2 hu2
  have hy2 : Ext w u2 := by
    rw [hu2]
    exact (hx1.alloc _).drew
  have b0_2 : u2.cell? ⟨w1.heap.size, 0, none⟩ = some (.int .i64 1) := by
    rw [hu2, World.cell?_drew]
    exact World.cell?_alloc_at _ _ _ _ rfl
  have b1_2 : u2.cell? ⟨w1.heap.size, 1, none⟩ = some (.func (.func 35) #[] #[]) := by
    rw [hu2, World.cell?_drew]
    exact World.cell?_alloc_at _ _ _ _ rfl
  have hz2 : w1.heap.size < u2.heap.size := by rw [hu2]; simp
  have hgn2 : g ≠ w1.heap.size := Nat.ne_of_lt hg1
  clear hu2
  have q20 := (hy2.cell (p := ⟨g, k * 89 + 20, none⟩) hg).trans P20.out
  rw [S20.out] at q20
  have hr2 := Lib.hid (flags_range (H.out.ext hy2) hk)
  simp only [List.take_succ_cons, List.take_zero, List.drop_succ_cons, List.drop_zero]
  iterate 14 still_step
  refine wpStill_load_midG rfl 47 _ rfl g (k * 89 + 22) rfl (flags B.ps k) _ hr2.out Try.underlying47 rfl hfi.out ?_
  simp only [Act.put, List.setIfInBounds_toArray, List.set_cons_succ, List.set_cons_zero]
  refine wpStill_nil ?_
  go_wp2_with fail
  refine (pas_h2 _ _ _ f6.out).mono ?_
  rw [V0.out]
  rintro e w2 ⟨rfl, hxx2⟩
  have hx2 := hy2.trans hxx2
  clear b0_2 b1_2 q20 hxx2 
  have hg2 := Nat.lt_of_lt_of_le hg hx2.size
  have hX2 := Nat.lt_of_lt_of_le hX hx2.size
  go_wp2_with fail
  rw [rounds_succ]
  go_wp2_with (first | fail | ((with_reducible refine at_store 67 ?_); refine wpList_store_new2 rfl rfl 67 _ _ _ rfl _ #[.int .i64 1, .func (.func 37) #[] #[], .func (.func 38) #[] #[], .int .i64 2] _ rfl ?_ rfl hi.out rfl rfl ?_; · simp))
  refine wp_region_tail 15 (by kernel_rfl) (by kernel_rfl) ?_
  intro u3 hu3
  have hy3 : Ext w u3 := by
    rw [hu3]
    exact (hx2.alloc _).drew
  have b0_3 : u3.cell? ⟨w2.heap.size, 0, none⟩ = some (.int .i64 1) := by
    rw [hu3, World.cell?_drew]
    exact World.cell?_alloc_at _ _ _ _ rfl
  have b1_3 : u3.cell? ⟨w2.heap.size, 1, none⟩ = some (.func (.func 37) #[] #[]) := by
    rw [hu3, World.cell?_drew]
    exact World.cell?_alloc_at _ _ _ _ rfl
  have hz3 : w2.heap.size < u3.heap.size := by rw [hu3]; simp
  have hgn3 : g ≠ w2.heap.size := Nat.ne_of_lt hg2
  clear hu3
  have q20 := (hy3.cell (p := ⟨g, k * 89 + 20, none⟩) hg).trans P20.out
  rw [S20.out] at q20
  have hr3 := Lib.hid (flags_range (H.out.ext hy3) hk)
  simp only [List.take_succ_cons, List.take_zero, List.drop_succ_cons, List.drop_zero]
  iterate 14 still_step
  refine wpStill_load_midG rfl 47 _ rfl g (k * 89 + 22) rfl (flags B.ps k) _ hr3.out Try.underlying47 rfl hfi.out ?_
  simp only [Act.put, List.setIfInBounds_toArray, List.set_cons_succ, List.set_cons_zero]
  refine wpStill_nil ?_
  go_wp2_with fail
  refine (pas_h3 _ _ _ f4.out).mono ?_
  rw [V1.out]
  rintro e w3 ⟨rfl, hxx3⟩
  have hx3 := hy3.trans hxx3
  clear b0_3 b1_3 q20 hxx3 
  have hg3 := Nat.lt_of_lt_of_le hg hx3.size
  have hX3 := Nat.lt_of_lt_of_le hX hx3.size
  go_wp2_with fail
  rw [rounds_succ]
  go_wp2_with (first | fail | ((with_reducible refine at_store 67 ?_); refine wpList_store_new2 rfl rfl 67 _ _ _ rfl _ #[.int .i64 2, .func (.func 39) #[] #[], .func (.func 36) #[] #[], .int .i64 0] _ rfl ?_ rfl hi.out rfl rfl ?_; · simp))
  have q20 := (hx3.cell (p := ⟨g, k * 89 + 20, none⟩) hg).trans P20.out
  rw [S20.out] at q20
  go_quiet (fail)
  have hy : Ext w (World.drewN (w3.alloc (.cells #[.int .i64 2, .func (.func 39) #[] #[], .func (.func 36) #[] #[], .int .i64 0] 67)) nq) := (hx3.alloc _).drewN _
  go_wp2_with fail
  generalize World.drewN _ nq = w4 at hy ⊢
  have hx4 := hy
  clear q20 hg3 hX3 hy
  have hg4 := Nat.lt_of_lt_of_le hg hx4.size
  have hX4 := Nat.lt_of_lt_of_le hX hx4.size
  rw [rounds_succ]
  go_wp2_with fail
  go_ret
  exact ⟨rfl, H.out.ext hx4, hx4.mut F⟩

set_option maxHeartbeats 1000000 in
theorem pas_s2a (w : World) (F : Nat → Prop) (X g k : Nat) (B : Br) (h : BrG w F X g B) (ho : B.ok) (hk : k < B.np) (hk2 : k < 1000) (s0 : B.gi k 20 = 2) (v0 : B.gb k 26 = false) :
    Calls Try.prog 24 #[.pointer (some ⟨X, 0, none⟩), .int .i64 k] w (Stepped w F X g (true, pasStop B k)) := by
  obtain ⟨hX, hg, hne⟩ := h.lt
  obtain ⟨cap, c17, hc1, hc2⟩ := h.cell17 ho
  have P20 := Lib.hid ((h.cellg (i := k * 89 + 20) (lt89 hk (by decide))).trans (ho.gi hk 20 rfl))
  have P27 := Lib.hid ((h.cellg (i := k * 89 + 27) (lt89 hk (by decide))).trans (ho.gb hk 27 rfl))
  have P29 := Lib.hid ((h.cellg (i := k * 89 + 29) (lt89 hk (by decide))).trans (ho.gb hk 29 rfl))
  have f6 := Lib.hid ((flags_at (B := B) (k := k) (j := 6) (by decide)).trans (ho.gb hk 28 rfl))
  have f4 := Lib.hid ((flags_at (B := B) (k := k) (j := 4) (by decide)).trans (ho.gb hk 26 rfl))
  have hfi := Lib.hid (show (Try.prog.info? 47).map (·.size) = some (flags B.ps k).length by rw [flags_len ho hk]; exact size_flags)
  have H := Lib.hid h
  have V0 := Lib.hid v0
  clear h v0
  have S20 := Lib.hid s0
  clear s0
  have hi := Lib.hid size_prow
  have i0 := pas_ix0
  have i1 := pas_ix1
  have i2 := pas_ix2
  have i3 := pas_ix3
  go_enter Try.func24, Try.ntmps24
  go_wp2_with fail
  refine (pas_rows _).mono ?_
  rintro e w0 ⟨rfl, hx0⟩
  have hg0 := Nat.lt_of_lt_of_le hg hx0.size
  have hX0 := Nat.lt_of_lt_of_le hX hx0.size
  clear c17
  go_wp2_with fail
  refine wp_loop_rounds 5 ?_
  rw [rounds_succ]
  go_wp2_with (first | fail | ((with_reducible refine at_store 67 ?_); refine wpList_store_new2 rfl rfl 67 _ _ _ rfl _ #[.int .i64 0, .func (.func 33) #[] #[], .func (.func 34) #[] #[], .int .i64 1] _ rfl ?_ rfl hi.out rfl rfl ?_; · simp))
  have q20 := (hx0.cell (p := ⟨g, k * 89 + 20, none⟩) hg).trans P20.out
  rw [S20.out] at q20
  go_quiet (fail)
  have hy : Ext w (World.drewN (w0.alloc (.cells #[.int .i64 0, .func (.func 33) #[] #[], .func (.func 34) #[] #[], .int .i64 1] 67)) nq) := (hx0.alloc _).drewN _
  go_wp2_with fail
  generalize World.drewN _ nq = w1 at hy ⊢
  have hx1 := hy
  clear q20 hg0 hX0 hy
  have hg1 := Nat.lt_of_lt_of_le hg hx1.size
  have hX1 := Nat.lt_of_lt_of_le hX hx1.size
  rw [rounds_succ]
  go_wp2_with (first | fail | ((with_reducible refine at_store 67 ?_); refine wpList_store_new2 rfl rfl 67 _ _ _ rfl _ #[.int .i64 1, .func (.func 35) #[] #[], .func (.func 36) #[] #[], .int .i64 0] _ rfl ?_ rfl hi.out rfl rfl ?_; · simp))
  have q20 := (hx1.cell (p := ⟨g, k * 89 + 20, none⟩) hg).trans P20.out
  rw [S20.out] at q20
  go_quiet (fail)
  have hy : Ext w (World.drewN (w1.alloc (.cells #[.int .i64 1, .func (.func 35) #[] #[], .func (.func 36) #[] #[], .int .i64 0] 67)) nq) := (hx1.alloc _).drewN _
  go_wp2_with fail
  generalize World.drewN _ nq = w2 at hy ⊢
  have hx2 := hy
  clear q20 hg1 hX1 hy
  have hg2 := Nat.lt_of_lt_of_le hg hx2.size
  have hX2 := Nat.lt_of_lt_of_le hX hx2.size
  rw [rounds_succ]
  go_wp2_with (first | fail | ((with_reducible refine at_store 67 ?_); refine wpList_store_new2 rfl rfl 67 _ _ _ rfl _ #[.int .i64 1, .func (.func 37) #[] #[], .func (.func 38) #[] #[], .int .i64 2] _ rfl ?_ rfl hi.out rfl rfl ?_; · simp))
  have q20 := (hx2.cell (p := ⟨g, k * 89 + 20, none⟩) hg).trans P20.out
  rw [S20.out] at q20
  go_quiet (fail)
  have hy : Ext w (World.drewN (w2.alloc (.cells #[.int .i64 1, .func (.func 37) #[] #[], .func (.func 38) #[] #[], .int .i64 2] 67)) nq) := (hx2.alloc _).drewN _
  go_wp2_with fail
  generalize World.drewN _ nq = w3 at hy ⊢
  have hx3 := hy
  clear q20 hg2 hX2 hy
  have hg3 := Nat.lt_of_lt_of_le hg hx3.size
  have hX3 := Nat.lt_of_lt_of_le hX hx3.size
  rw [rounds_succ]
  go_wp2_with (first | fail | ((with_reducible refine at_store 67 ?_); refine wpList_store_new2 rfl rfl 67 _ _ _ rfl _ #[.int .i64 2, .func (.func 39) #[] #[], .func (.func 36) #[] #[], .int .i64 0] _ rfl ?_ rfl hi.out rfl rfl ?_; · simp))
  refine wp_region_tail 15 (by kernel_rfl) (by kernel_rfl) ?_
  intro u4 hu4
  have hy4 : Ext w u4 := by
    rw [hu4]
    exact (hx3.alloc _).drew
  have b0_4 : u4.cell? ⟨w3.heap.size, 0, none⟩ = some (.int .i64 2) := by
    rw [hu4, World.cell?_drew]
    exact World.cell?_alloc_at _ _ _ _ rfl
  have b1_4 : u4.cell? ⟨w3.heap.size, 1, none⟩ = some (.func (.func 39) #[] #[]) := by
    rw [hu4, World.cell?_drew]
    exact World.cell?_alloc_at _ _ _ _ rfl
  have b2_4 : u4.cell? ⟨w3.heap.size, 2, none⟩ = some (.func (.func 36) #[] #[]) := by
    rw [hu4, World.cell?_drew]
    exact World.cell?_alloc_at _ _ _ _ rfl
  have b3_4 : u4.cell? ⟨w3.heap.size, 3, none⟩ = some (.int .i64 0) := by
    rw [hu4, World.cell?_drew]
    exact World.cell?_alloc_at _ _ _ _ rfl
  have hz4 : w3.heap.size < u4.heap.size := by rw [hu4]; simp
  have hgn4 : g ≠ w3.heap.size := Nat.ne_of_lt hg3
  clear hu4
  have q20 := (hy4.cell (p := ⟨g, k * 89 + 20, none⟩) hg).trans P20.out
  rw [S20.out] at q20
  have hr4 := Lib.hid (flags_range (H.out.ext hy4) hk)
  simp only [List.take_succ_cons, List.take_zero, List.drop_succ_cons, List.drop_zero]
  iterate 14 still_step
  refine wpStill_load_midG rfl 47 _ rfl g (k * 89 + 22) rfl (flags B.ps k) _ hr4.out Try.underlying47 rfl hfi.out ?_
  simp only [Act.put, List.setIfInBounds_toArray, List.set_cons_succ, List.set_cons_zero]
  refine wpStill_nil ?_
  go_wp2_with fail
  refine (pas_h4 _ _ _ f4.out).mono ?_
  rw [V0.out]
  rintro e w4 ⟨rfl, hxx4⟩
  have hx4 := hy4.trans hxx4
  have d2 := (hxx4.cell (p := ⟨w3.heap.size, 2, none⟩) hz4).trans b2_4
  have d3 := (hxx4.cell (p := ⟨w3.heap.size, 3, none⟩) hz4).trans b3_4
  clear b0_4 b1_4 q20 hxx4 b2_4 b3_4
  have hg4 := Nat.lt_of_lt_of_le hg hx4.size
  have hX4 := Nat.lt_of_lt_of_le hX hx4.size
  go_wp2_with fail
  refine wp_region_tail 5 (by kernel_rfl) (by kernel_rfl) ?_
  intro w9 hw9
  have hx9 : Ext w w9 := by
    rw [hw9]
    exact hx4.drew
  have e2 : w9.cell? ⟨w3.heap.size, 2, none⟩ = some _ := (show w9.cell? _ = w4.cell? _ by rw [hw9, World.cell?_drew]).trans d2
  have e3 : w9.cell? ⟨w3.heap.size, 3, none⟩ = some _ := (show w9.cell? _ = w4.cell? _ by rw [hw9, World.cell?_drew]).trans d3
  clear hw9 d2 d3
  have p20 := (hx9.cell (p := ⟨g, k * 89 + 20, none⟩) hg).trans P20.out
  have p27 := (hx9.cell (p := ⟨g, k * 89 + 27, none⟩) hg).trans P27.out
  have p29 := (hx9.cell (p := ⟨g, k * 89 + 29, none⟩) hg).trans P29.out
  have hf9 : ∀ j, w9.frozen? ⟨g, j, none⟩ = false := fun j => (H.out.ext hx9).frozen j
  simp only [List.take_succ_cons, List.take_zero, List.drop_succ_cons, List.drop_zero]
  repeat still_step
  refine wpStill_nil ?_
  go_wp2_with fail
  refine (pas_stop g (k * 89 + 22) _ _ w9 p29 p27 hf9).mono ?_
  rintro e w3 ⟨rfl, rfl⟩
  go_wp2_with fail
  go_ret
  exact ⟨rfl, ((((H.out.ext hx9).setp (j := 29) hk (by decide) _).setp (j := 27) hk (by decide) _).setp (j := 20) hk (by decide) _), ((((hx9.mut F).setCell (.inl H.out.F2) _).setCell (.inl H.out.F2) _).setCell (.inl H.out.F2) _)⟩

set_option maxHeartbeats 1000000 in
theorem pas_s2b (w : World) (F : Nat → Prop) (X g k : Nat) (B : Br) (h : BrG w F X g B) (ho : B.ok) (hk : k < B.np) (hk2 : k < 1000) (s0 : B.gi k 20 = 2) (v0 : B.gb k 26 = true) :
    Calls Try.prog 24 #[.pointer (some ⟨X, 0, none⟩), .int .i64 k] w (Stepped w F X g (false, B)) := by
  obtain ⟨hX, hg, hne⟩ := h.lt
  obtain ⟨cap, c17, hc1, hc2⟩ := h.cell17 ho
  have P20 := Lib.hid ((h.cellg (i := k * 89 + 20) (lt89 hk (by decide))).trans (ho.gi hk 20 rfl))
  have P27 := Lib.hid ((h.cellg (i := k * 89 + 27) (lt89 hk (by decide))).trans (ho.gb hk 27 rfl))
  have P29 := Lib.hid ((h.cellg (i := k * 89 + 29) (lt89 hk (by decide))).trans (ho.gb hk 29 rfl))
  have f6 := Lib.hid ((flags_at (B := B) (k := k) (j := 6) (by decide)).trans (ho.gb hk 28 rfl))
  have f4 := Lib.hid ((flags_at (B := B) (k := k) (j := 4) (by decide)).trans (ho.gb hk 26 rfl))
  have hfi := Lib.hid (show (Try.prog.info? 47).map (·.size) = some (flags B.ps k).length by rw [flags_len ho hk]; exact size_flags)
  have H := Lib.hid h
  have V0 := Lib.hid v0
  clear h v0
  have S20 := Lib.hid s0
  clear s0
  have hi := Lib.hid size_prow
  have i0 := pas_ix0
  have i1 := pas_ix1
  have i2 := pas_ix2
  have i3 := pas_ix3
  go_enter Try.func24, Try.ntmps24
  go_wp2_with fail
  refine (pas_rows _).mono ?_
  rintro e w0 ⟨rfl, hx0⟩
  have hg0 := Nat.lt_of_lt_of_le hg hx0.size
  have hX0 := Nat.lt_of_lt_of_le hX hx0.size
  clear c17
  go_wp2_with fail
  refine wp_loop_rounds 5 ?_
  rw [rounds_succ]
  go_wp2_with (first | fail | ((with_reducible refine at_store 67 ?_); refine wpList_store_new2 rfl rfl 67 _ _ _ rfl _ #[.int .i64 0, .func (.func 33) #[] #[], .func (.func 34) #[] #[], .int .i64 1] _ rfl ?_ rfl hi.out rfl rfl ?_; · simp))
  have q20 := (hx0.cell (p := ⟨g, k * 89 + 20, none⟩) hg).trans P20.out
  rw [S20.out] at q20
  go_quiet (fail)
  have hy : Ext w (World.drewN (w0.alloc (.cells #[.int .i64 0, .func (.func 33) #[] #[], .func (.func 34) #[] #[], .int .i64 1] 67)) nq) := (hx0.alloc _).drewN _
  go_wp2_with fail
  generalize World.drewN _ nq = w1 at hy ⊢
  have hx1 := hy
  clear q20 hg0 hX0 hy
  have hg1 := Nat.lt_of_lt_of_le hg hx1.size
  have hX1 := Nat.lt_of_lt_of_le hX hx1.size
  rw [rounds_succ]
  go_wp2_with (first | fail | ((with_reducible refine at_store 67 ?_); refine wpList_store_new2 rfl rfl 67 _ _ _ rfl _ #[.int .i64 1, .func (.func 35) #[] #[], .func (.func 36) #[] #[], .int .i64 0] _ rfl ?_ rfl hi.out rfl rfl ?_; · simp))
  have q20 := (hx1.cell (p := ⟨g, k * 89 + 20, none⟩) hg).trans P20.out
  rw [S20.out] at q20
  go_quiet (fail)
  have hy : Ext w (World.drewN (w1.alloc (.cells #[.int .i64 1, .func (.func 35) #[] #[], .func (.func 36) #[] #[], .int .i64 0] 67)) nq) := (hx1.alloc _).drewN _
  go_wp2_with fail
  generalize World.drewN _ nq = w2 at hy ⊢
  have hx2 := hy
  clear q20 hg1 hX1 hy
  have hg2 := Nat.lt_of_lt_of_le hg hx2.size
  have hX2 := Nat.lt_of_lt_of_le hX hx2.size
  rw [rounds_succ]
  go_wp2_with (first | fail | ((with_reducible refine at_store 67 ?_); refine wpList_store_new2 rfl rfl 67 _ _ _ rfl _ #[.int .i64 1, .func (.func 37) #[] #[], .func (.func 38) #[] #[], .int .i64 2] _ rfl ?_ rfl hi.out rfl rfl ?_; · simp))
  have q20 := (hx2.cell (p := ⟨g, k * 89 + 20, none⟩) hg).trans P20.out
  rw [S20.out] at q20
  go_quiet (fail)
  have hy : Ext w (World.drewN (w2.alloc (.cells #[.int .i64 1, .func (.func 37) #[] #[], .func (.func 38) #[] #[], .int .i64 2] 67)) nq) := (hx2.alloc _).drewN _
  go_wp2_with fail
  generalize World.drewN _ nq = w3 at hy ⊢
  have hx3 := hy
  clear q20 hg2 hX2 hy
  have hg3 := Nat.lt_of_lt_of_le hg hx3.size
  have hX3 := Nat.lt_of_lt_of_le hX hx3.size
  rw [rounds_succ]
  go_wp2_with (first | fail | ((with_reducible refine at_store 67 ?_); refine wpList_store_new2 rfl rfl 67 _ _ _ rfl _ #[.int .i64 2, .func (.func 39) #[] #[], .func (.func 36) #[] #[], .int .i64 0] _ rfl ?_ rfl hi.out rfl rfl ?_; · simp))
  refine wp_region_tail 15 (by kernel_rfl) (by kernel_rfl) ?_
  intro u4 hu4
  have hy4 : Ext w u4 := by
    rw [hu4]
    exact (hx3.alloc _).drew
  have b0_4 : u4.cell? ⟨w3.heap.size, 0, none⟩ = some (.int .i64 2) := by
    rw [hu4, World.cell?_drew]
    exact World.cell?_alloc_at _ _ _ _ rfl
  have b1_4 : u4.cell? ⟨w3.heap.size, 1, none⟩ = some (.func (.func 39) #[] #[]) := by
    rw [hu4, World.cell?_drew]
    exact World.cell?_alloc_at _ _ _ _ rfl
  have hz4 : w3.heap.size < u4.heap.size := by rw [hu4]; simp
  have hgn4 : g ≠ w3.heap.size := Nat.ne_of_lt hg3
  clear hu4
  have q20 := (hy4.cell (p := ⟨g, k * 89 + 20, none⟩) hg).trans P20.out
  rw [S20.out] at q20
  have hr4 := Lib.hid (flags_range (H.out.ext hy4) hk)
  simp only [List.take_succ_cons, List.take_zero, List.drop_succ_cons, List.drop_zero]
  iterate 14 still_step
  refine wpStill_load_midG rfl 47 _ rfl g (k * 89 + 22) rfl (flags B.ps k) _ hr4.out Try.underlying47 rfl hfi.out ?_
  simp only [Act.put, List.setIfInBounds_toArray, List.set_cons_succ, List.set_cons_zero]
  refine wpStill_nil ?_
  go_wp2_with fail
  refine (pas_h4 _ _ _ f4.out).mono ?_
  rw [V0.out]
  rintro e w4 ⟨rfl, hxx4⟩
  have hx4 := hy4.trans hxx4
  clear b0_4 b1_4 q20 hxx4 
  have hg4 := Nat.lt_of_lt_of_le hg hx4.size
  have hX4 := Nat.lt_of_lt_of_le hX hx4.size
  go_wp2_with fail
  rw [rounds_succ]
  go_wp2_with fail
  go_ret
  exact ⟨rfl, H.out.ext hx4, hx4.mut F⟩

set_option maxHeartbeats 1000000 in
theorem pas_sx (w : World) (F : Nat → Prop) (X g k : Nat) (B : Br) (h : BrG w F X g B) (ho : B.ok) (hk : k < B.np) (hk2 : k < 1000) (s0 : ((0 : Int) == B.gi k 20) = false) (s1 : ((1 : Int) == B.gi k 20) = false) (s2 : ((2 : Int) == B.gi k 20) = false)  :
    Calls Try.prog 24 #[.pointer (some ⟨X, 0, none⟩), .int .i64 k] w (Stepped w F X g (false, B)) := by
  obtain ⟨hX, hg, hne⟩ := h.lt
  obtain ⟨cap, c17, hc1, hc2⟩ := h.cell17 ho
  have P20 := Lib.hid ((h.cellg (i := k * 89 + 20) (lt89 hk (by decide))).trans (ho.gi hk 20 rfl))
  have P27 := Lib.hid ((h.cellg (i := k * 89 + 27) (lt89 hk (by decide))).trans (ho.gb hk 27 rfl))
  have P29 := Lib.hid ((h.cellg (i := k * 89 + 29) (lt89 hk (by decide))).trans (ho.gb hk 29 rfl))
  have f6 := Lib.hid ((flags_at (B := B) (k := k) (j := 6) (by decide)).trans (ho.gb hk 28 rfl))
  have f4 := Lib.hid ((flags_at (B := B) (k := k) (j := 4) (by decide)).trans (ho.gb hk 26 rfl))
  have hfi := Lib.hid (show (Try.prog.info? 47).map (·.size) = some (flags B.ps k).length by rw [flags_len ho hk]; exact size_flags)
  have H := Lib.hid h
  clear h 
  have hi := Lib.hid size_prow
  have i0 := pas_ix0
  have i1 := pas_ix1
  have i2 := pas_ix2
  have i3 := pas_ix3
  go_enter Try.func24, Try.ntmps24
  go_wp2_with fail
  refine (pas_rows _).mono ?_
  rintro e w0 ⟨rfl, hx0⟩
  have hg0 := Nat.lt_of_lt_of_le hg hx0.size
  have hX0 := Nat.lt_of_lt_of_le hX hx0.size
  clear c17
  go_wp2_with fail
  refine wp_loop_rounds 5 ?_
  rw [rounds_succ]
  go_wp2_with (first | fail | ((with_reducible refine at_store 67 ?_); refine wpList_store_new2 rfl rfl 67 _ _ _ rfl _ #[.int .i64 0, .func (.func 33) #[] #[], .func (.func 34) #[] #[], .int .i64 1] _ rfl ?_ rfl hi.out rfl rfl ?_; · simp))
  have q20 := (hx0.cell (p := ⟨g, k * 89 + 20, none⟩) hg).trans P20.out
  go_quiet (fail)
  have hy : Ext w (World.drewN (w0.alloc (.cells #[.int .i64 0, .func (.func 33) #[] #[], .func (.func 34) #[] #[], .int .i64 1] 67)) nq) := (hx0.alloc _).drewN _
  go_wp2_with fail
  generalize World.drewN _ nq = w1 at hy ⊢
  have hx1 := hy
  clear q20 hg0 hX0 hy
  have hg1 := Nat.lt_of_lt_of_le hg hx1.size
  have hX1 := Nat.lt_of_lt_of_le hX hx1.size
  rw [rounds_succ]
  go_wp2_with (first | fail | ((with_reducible refine at_store 67 ?_); refine wpList_store_new2 rfl rfl 67 _ _ _ rfl _ #[.int .i64 1, .func (.func 35) #[] #[], .func (.func 36) #[] #[], .int .i64 0] _ rfl ?_ rfl hi.out rfl rfl ?_; · simp))
  have q20 := (hx1.cell (p := ⟨g, k * 89 + 20, none⟩) hg).trans P20.out
  go_quiet (fail)
  have hy : Ext w (World.drewN (w1.alloc (.cells #[.int .i64 1, .func (.func 35) #[] #[], .func (.func 36) #[] #[], .int .i64 0] 67)) nq) := (hx1.alloc _).drewN _
  go_wp2_with fail
  generalize World.drewN _ nq = w2 at hy ⊢
  have hx2 := hy
  clear q20 hg1 hX1 hy
  have hg2 := Nat.lt_of_lt_of_le hg hx2.size
  have hX2 := Nat.lt_of_lt_of_le hX hx2.size
  rw [rounds_succ]
  go_wp2_with (first | fail | ((with_reducible refine at_store 67 ?_); refine wpList_store_new2 rfl rfl 67 _ _ _ rfl _ #[.int .i64 1, .func (.func 37) #[] #[], .func (.func 38) #[] #[], .int .i64 2] _ rfl ?_ rfl hi.out rfl rfl ?_; · simp))
  have q20 := (hx2.cell (p := ⟨g, k * 89 + 20, none⟩) hg).trans P20.out
  go_quiet (fail)
  have hy : Ext w (World.drewN (w2.alloc (.cells #[.int .i64 1, .func (.func 37) #[] #[], .func (.func 38) #[] #[], .int .i64 2] 67)) nq) := (hx2.alloc _).drewN _
  go_wp2_with fail
  generalize World.drewN _ nq = w3 at hy ⊢
  have hx3 := hy
  clear q20 hg2 hX2 hy
  have hg3 := Nat.lt_of_lt_of_le hg hx3.size
  have hX3 := Nat.lt_of_lt_of_le hX hx3.size
  rw [rounds_succ]
  go_wp2_with (first | fail | ((with_reducible refine at_store 67 ?_); refine wpList_store_new2 rfl rfl 67 _ _ _ rfl _ #[.int .i64 2, .func (.func 39) #[] #[], .func (.func 36) #[] #[], .int .i64 0] _ rfl ?_ rfl hi.out rfl rfl ?_; · simp))
  have q20 := (hx3.cell (p := ⟨g, k * 89 + 20, none⟩) hg).trans P20.out
  go_quiet (fail)
  have hy : Ext w (World.drewN (w3.alloc (.cells #[.int .i64 2, .func (.func 39) #[] #[], .func (.func 36) #[] #[], .int .i64 0] 67)) nq) := (hx3.alloc _).drewN _
  go_wp2_with fail
  generalize World.drewN _ nq = w4 at hy ⊢
  have hx4 := hy
  clear q20 hg3 hX3 hy
  have hg4 := Nat.lt_of_lt_of_le hg hx4.size
  have hX4 := Nat.lt_of_lt_of_le hX hx4.size
  rw [rounds_succ]
  go_wp2_with fail
  go_ret
  exact ⟨rfl, H.out.ext hx4, hx4.mut F⟩

end Go.Proofs.Ythlapkddgnpaeaa
