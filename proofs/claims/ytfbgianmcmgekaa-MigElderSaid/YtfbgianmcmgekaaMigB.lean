/- The migration machine's step, case by case. No statement is proved here. -/
import Derived.Test.YtfbgianmcmgekaaMigA
namespace Go.Proofs.Ytfbgianmcmgekaa
open Go.RowKit Go.BigFrame Go.WideShapes Go.ChangeShapes Go.Deep
set_option linter.unusedVariables false

set_option maxHeartbeats 1000000 in
theorem mig_s0a (w : World) (F : Nat → Prop) (X g k : Nat) (B : Br) (h : BrG w F X g B) (ho : B.ok) (hk : k < B.np) (hk2 : k < 1000) (s0 : B.gi k 16 = 0) (v1 : mh1 B k = true) :
    Calls Try.prog 17 #[.pointer (some ⟨X, 0, none⟩), .int .i64 k] w (Stepped w F X g (true, migListen B k)) := by
  obtain ⟨hX, hg, hne⟩ := h.lt
  obtain ⟨cap, c17, hc1, hc2⟩ := h.cell17 ho
  have P1 := Lib.hid ((h.cellX ho (i := 1) (by omega)).trans (ho.hb 1 rfl))
  have P2 := Lib.hid ((h.cellg (i := k * 89 + 2) (by omega)).trans (ho.gb hk 2 rfl))
  have P9 := Lib.hid ((h.cellg (i := k * 89 + 9) (by omega)).trans (ho.gi hk 9 rfl))
  have P16 := Lib.hid ((h.cellg (i := k * 89 + 16) (by omega)).trans (ho.gi hk 16 rfl))
  have P30 := Lib.hid ((h.cellg (i := k * 89 + 30) (by omega)).trans (ho.gb hk 30 rfl))
  have P37 := Lib.hid ((h.cellg (i := k * 89 + 37) (by omega)).trans (ho.gb hk 37 rfl))
  have P38 := Lib.hid ((h.cellg (i := k * 89 + 38) (by omega)).trans (ho.gb hk 38 rfl))
  have P45 := Lib.hid ((h.cellg (i := k * 89 + 45) (by omega)).trans (ho.gb hk 45 rfl))
  have H := Lib.hid h
  have V1 := Lib.hid v1
  clear h v1
  have S16 := Lib.hid s0
  clear s0
  have hi := Lib.hid size_mrow
  have i0 := mig_ix0
  have i1 := mig_ix1
  have i2 := mig_ix2
  have i3 := mig_ix3
  have i4 := mig_ix4
  go_enter Try.func17, Try.ntmps17
  go_wp2_with fail
  refine (mig_rows _).mono ?_
  rintro e w0 ⟨rfl, hx0⟩
  have hg0 := Nat.lt_of_lt_of_le hg hx0.size
  have hX0 := Nat.lt_of_lt_of_le hX hx0.size
  have qa0 := (hx0.cell (p := ⟨X, 1, none⟩) hX).trans P1.out
  have qb0 := (hx0.cell (p := ⟨g, k * 89 + 16, none⟩) hg).trans P16.out
  rw [S16.out] at qb0
  clear c17
  go_wp2_with fail
  refine wp_loop_rounds 6 ?_
  rw [rounds_succ]
  go_wp2_with (first | fail | ((with_reducible refine at_store 59 ?_); refine wpList_store_new2 rfl rfl 59 _ _ _ rfl _ #[.int .i64 0, .func (.func 28) #[] #[], .func (.func 29) #[] #[], .int .i64 2] _ rfl ?_ rfl hi.out rfl rfl ?_; · simp))
  go_quiet ((exact quietL (asb (y := true) (mig_h1 _ g (k * 89) _ _ (((hx0.alloc _).drewN _).cell (p := ⟨g, k * 89 + 9, none⟩) hg |>.trans P9.out)) V1.out)))
  have bx : ∀ j, (World.drewN (w0.alloc (.cells #[.int .i64 0, .func (.func 28) #[] #[], .func (.func 29) #[] #[], .int .i64 2] 59)) nq).cell? ⟨w0.heap.size, j, none⟩ = #[.int .i64 0, .func (.func 28) #[] #[], .func (.func 29) #[] #[], .int .i64 2][j]? := fun j => by
    rw [World.cell?_drewN]
    exact World.cell?_alloc_at _ _ _ _ rfl
  have hy : Ext w (World.drewN (w0.alloc (.cells #[.int .i64 0, .func (.func 28) #[] #[], .func (.func 29) #[] #[], .int .i64 2] 59)) nq) := (hx0.alloc _).drewN _
  go_wp2_with fail
  refine wp_region_tail 7 (by kernel_rfl) (by kernel_rfl) ?_
  intro w9 hw9
  have hx9 : Ext w w9 := by
    rw [hw9]
    exact hy.drew
  have b2 : w9.cell? ⟨w0.heap.size, 2, none⟩ = some (.func (.func 29) #[] #[]) := by
    rw [hw9, World.cell?_drew, bx]
    rfl
  have b3 : w9.cell? ⟨w0.heap.size, 3, none⟩ = some (.int .i64 2) := by
    rw [hw9, World.cell?_drew, bx]
    rfl
  have hgz : g ≠ w0.heap.size := Nat.ne_of_lt hg0
  clear hw9 bx hy qa0 qb0
  have q1 := (hx9.cell (p := ⟨X, 1, none⟩) hX).trans P1.out
  have p9 := (hx9.cell (p := ⟨g, k * 89 + 9, none⟩) hg).trans P9.out
  have p16 := (hx9.cell (p := ⟨g, k * 89 + 16, none⟩) hg).trans P16.out
  have p30 := (hx9.cell (p := ⟨g, k * 89 + 30, none⟩) hg).trans P30.out
  have p37 := (hx9.cell (p := ⟨g, k * 89 + 37, none⟩) hg).trans P37.out
  have p38 := (hx9.cell (p := ⟨g, k * 89 + 38, none⟩) hg).trans P38.out
  have p45 := (hx9.cell (p := ⟨g, k * 89 + 45, none⟩) hg).trans P45.out
  have hf9 : ∀ j, w9.frozen? ⟨g, j, none⟩ = false := fun j => (H.out.ext hx9).frozen j
  simp only [List.take_succ_cons, List.take_zero, List.drop_succ_cons, List.drop_zero]
  repeat still_step
  refine wpStill_nil ?_
  go_wp2_with fail
  refine (mig_listen _ g (k * 89) _ _ w9 p37 p38 hf9).mono ?_
  rintro e w3 ⟨rfl, rfl⟩
  go_wp2_with fail
  go_ret
  exact ⟨rfl, ((((H.out.ext hx9).setp (j := 37) hk (by decide) _).setp (j := 38) hk (by decide) _).setp (j := 16) hk (by decide) _), ((((hx9.mut F).setCell (.inl H.out.F2) _).setCell (.inl H.out.F2) _).setCell (.inl H.out.F2) _)⟩

set_option maxHeartbeats 1000000 in
theorem mig_s0b (w : World) (F : Nat → Prop) (X g k : Nat) (B : Br) (h : BrG w F X g B) (ho : B.ok) (hk : k < B.np) (hk2 : k < 1000) (s0 : B.gi k 16 = 0) (v1 : mh1 B k = false) (v2 : mh2 B k = true) :
    Calls Try.prog 17 #[.pointer (some ⟨X, 0, none⟩), .int .i64 k] w (Stepped w F X g (true, migBegin B k)) := by
  obtain ⟨hX, hg, hne⟩ := h.lt
  obtain ⟨cap, c17, hc1, hc2⟩ := h.cell17 ho
  have P1 := Lib.hid ((h.cellX ho (i := 1) (by omega)).trans (ho.hb 1 rfl))
  have P2 := Lib.hid ((h.cellg (i := k * 89 + 2) (by omega)).trans (ho.gb hk 2 rfl))
  have P9 := Lib.hid ((h.cellg (i := k * 89 + 9) (by omega)).trans (ho.gi hk 9 rfl))
  have P16 := Lib.hid ((h.cellg (i := k * 89 + 16) (by omega)).trans (ho.gi hk 16 rfl))
  have P30 := Lib.hid ((h.cellg (i := k * 89 + 30) (by omega)).trans (ho.gb hk 30 rfl))
  have P37 := Lib.hid ((h.cellg (i := k * 89 + 37) (by omega)).trans (ho.gb hk 37 rfl))
  have P38 := Lib.hid ((h.cellg (i := k * 89 + 38) (by omega)).trans (ho.gb hk 38 rfl))
  have P45 := Lib.hid ((h.cellg (i := k * 89 + 45) (by omega)).trans (ho.gb hk 45 rfl))
  have H := Lib.hid h
  have V1 := Lib.hid v1
  have V2 := Lib.hid v2
  clear h v1 v2
  have S16 := Lib.hid s0
  clear s0
  have hi := Lib.hid size_mrow
  have i0 := mig_ix0
  have i1 := mig_ix1
  have i2 := mig_ix2
  have i3 := mig_ix3
  have i4 := mig_ix4
  go_enter Try.func17, Try.ntmps17
  go_wp2_with fail
  refine (mig_rows _).mono ?_
  rintro e w0 ⟨rfl, hx0⟩
  have hg0 := Nat.lt_of_lt_of_le hg hx0.size
  have hX0 := Nat.lt_of_lt_of_le hX hx0.size
  have qa0 := (hx0.cell (p := ⟨X, 1, none⟩) hX).trans P1.out
  have qb0 := (hx0.cell (p := ⟨g, k * 89 + 16, none⟩) hg).trans P16.out
  rw [S16.out] at qb0
  clear c17
  go_wp2_with fail
  refine wp_loop_rounds 6 ?_
  rw [rounds_succ]
  go_wp2_with (first | fail | ((with_reducible refine at_store 59 ?_); refine wpList_store_new2 rfl rfl 59 _ _ _ rfl _ #[.int .i64 0, .func (.func 28) #[] #[], .func (.func 29) #[] #[], .int .i64 2] _ rfl ?_ rfl hi.out rfl rfl ?_; · simp))
  go_quiet ((exact quietL (asb (y := false) (mig_h1 _ g (k * 89) _ _ (((hx0.alloc _).drewN _).cell (p := ⟨g, k * 89 + 9, none⟩) hg |>.trans P9.out)) V1.out)))
  have hy : Ext w (World.drewN (w0.alloc (.cells #[.int .i64 0, .func (.func 28) #[] #[], .func (.func 29) #[] #[], .int .i64 2] 59)) nq) := (hx0.alloc _).drewN _
  go_wp2_with fail
  generalize World.drewN _ nq = w1 at hy ⊢
  have hx1 := hy
  clear qa0 qb0 hg0 hX0 hy
  have hg1 := Nat.lt_of_lt_of_le hg hx1.size
  have hX1 := Nat.lt_of_lt_of_le hX hx1.size
  have qa1 := (hx1.cell (p := ⟨X, 1, none⟩) hX).trans P1.out
  have qb1 := (hx1.cell (p := ⟨g, k * 89 + 16, none⟩) hg).trans P16.out
  rw [S16.out] at qb1
  rw [rounds_succ]
  go_wp2_with (first | fail | ((with_reducible refine at_store 59 ?_); refine wpList_store_new2 rfl rfl 59 _ _ _ rfl _ #[.int .i64 0, .func (.func 30) #[] #[], .func (.func 31) #[] #[], .int .i64 0] _ rfl ?_ rfl hi.out rfl rfl ?_; · simp))
  go_quiet ((exact quietL (asb (y := true) (mig_h2 _ g (k * 89) _ _ _ (((hx1.alloc _).drewN _).cell (p := ⟨g, k * 89 + 9, none⟩) hg |>.trans P9.out) (((hx1.alloc _).drewN _).cell (p := ⟨g, k * 89 + 2, none⟩) hg |>.trans P2.out)) V2.out)))
  have bx : ∀ j, (World.drewN (w1.alloc (.cells #[.int .i64 0, .func (.func 30) #[] #[], .func (.func 31) #[] #[], .int .i64 0] 59)) nq).cell? ⟨w1.heap.size, j, none⟩ = #[.int .i64 0, .func (.func 30) #[] #[], .func (.func 31) #[] #[], .int .i64 0][j]? := fun j => by
    rw [World.cell?_drewN]
    exact World.cell?_alloc_at _ _ _ _ rfl
  have hy : Ext w (World.drewN (w1.alloc (.cells #[.int .i64 0, .func (.func 30) #[] #[], .func (.func 31) #[] #[], .int .i64 0] 59)) nq) := (hx1.alloc _).drewN _
  go_wp2_with fail
  refine wp_region_tail 7 (by kernel_rfl) (by kernel_rfl) ?_
  intro w9 hw9
  have hx9 : Ext w w9 := by
    rw [hw9]
    exact hy.drew
  have b2 : w9.cell? ⟨w1.heap.size, 2, none⟩ = some (.func (.func 31) #[] #[]) := by
    rw [hw9, World.cell?_drew, bx]
    rfl
  have b3 : w9.cell? ⟨w1.heap.size, 3, none⟩ = some (.int .i64 0) := by
    rw [hw9, World.cell?_drew, bx]
    rfl
  have hgz : g ≠ w1.heap.size := Nat.ne_of_lt hg1
  clear hw9 bx hy qa1 qb1
  have q1 := (hx9.cell (p := ⟨X, 1, none⟩) hX).trans P1.out
  have p9 := (hx9.cell (p := ⟨g, k * 89 + 9, none⟩) hg).trans P9.out
  have p16 := (hx9.cell (p := ⟨g, k * 89 + 16, none⟩) hg).trans P16.out
  have p30 := (hx9.cell (p := ⟨g, k * 89 + 30, none⟩) hg).trans P30.out
  have p37 := (hx9.cell (p := ⟨g, k * 89 + 37, none⟩) hg).trans P37.out
  have p38 := (hx9.cell (p := ⟨g, k * 89 + 38, none⟩) hg).trans P38.out
  have p45 := (hx9.cell (p := ⟨g, k * 89 + 45, none⟩) hg).trans P45.out
  have hf9 : ∀ j, w9.frozen? ⟨g, j, none⟩ = false := fun j => (H.out.ext hx9).frozen j
  simp only [List.take_succ_cons, List.take_zero, List.drop_succ_cons, List.drop_zero]
  repeat still_step
  refine wpStill_nil ?_
  go_wp2_with fail
  refine (mig_begin _ g (k * 89) _ _ _ w9 p9 p30 p45 hf9).mono ?_
  rintro e w3 ⟨rfl, rfl⟩
  go_wp2_with fail
  go_ret
  exact ⟨rfl, (((((H.out.ext hx9).setp (j := 30) hk (by decide) _).setp (j := 45) hk (by decide) _).setp (j := 9) hk (by decide) _).setp (j := 16) hk (by decide) _), (((((hx9.mut F).setCell (.inl H.out.F2) _).setCell (.inl H.out.F2) _).setCell (.inl H.out.F2) _).setCell (.inl H.out.F2) _)⟩

set_option maxHeartbeats 1000000 in
theorem mig_s0c (w : World) (F : Nat → Prop) (X g k : Nat) (B : Br) (h : BrG w F X g B) (ho : B.ok) (hk : k < B.np) (hk2 : k < 1000) (s0 : B.gi k 16 = 0) (v1 : mh1 B k = false) (v2 : mh2 B k = false) :
    Calls Try.prog 17 #[.pointer (some ⟨X, 0, none⟩), .int .i64 k] w (Stepped w F X g (false, B)) := by
  obtain ⟨hX, hg, hne⟩ := h.lt
  obtain ⟨cap, c17, hc1, hc2⟩ := h.cell17 ho
  have P1 := Lib.hid ((h.cellX ho (i := 1) (by omega)).trans (ho.hb 1 rfl))
  have P2 := Lib.hid ((h.cellg (i := k * 89 + 2) (by omega)).trans (ho.gb hk 2 rfl))
  have P9 := Lib.hid ((h.cellg (i := k * 89 + 9) (by omega)).trans (ho.gi hk 9 rfl))
  have P16 := Lib.hid ((h.cellg (i := k * 89 + 16) (by omega)).trans (ho.gi hk 16 rfl))
  have P30 := Lib.hid ((h.cellg (i := k * 89 + 30) (by omega)).trans (ho.gb hk 30 rfl))
  have P37 := Lib.hid ((h.cellg (i := k * 89 + 37) (by omega)).trans (ho.gb hk 37 rfl))
  have P38 := Lib.hid ((h.cellg (i := k * 89 + 38) (by omega)).trans (ho.gb hk 38 rfl))
  have P45 := Lib.hid ((h.cellg (i := k * 89 + 45) (by omega)).trans (ho.gb hk 45 rfl))
  have H := Lib.hid h
  have V1 := Lib.hid v1
  have V2 := Lib.hid v2
  clear h v1 v2
  have S16 := Lib.hid s0
  clear s0
  have hi := Lib.hid size_mrow
  have i0 := mig_ix0
  have i1 := mig_ix1
  have i2 := mig_ix2
  have i3 := mig_ix3
  have i4 := mig_ix4
  go_enter Try.func17, Try.ntmps17
  go_wp2_with fail
  refine (mig_rows _).mono ?_
  rintro e w0 ⟨rfl, hx0⟩
  have hg0 := Nat.lt_of_lt_of_le hg hx0.size
  have hX0 := Nat.lt_of_lt_of_le hX hx0.size
  have qa0 := (hx0.cell (p := ⟨X, 1, none⟩) hX).trans P1.out
  have qb0 := (hx0.cell (p := ⟨g, k * 89 + 16, none⟩) hg).trans P16.out
  rw [S16.out] at qb0
  clear c17
  go_wp2_with fail
  refine wp_loop_rounds 6 ?_
  rw [rounds_succ]
  go_wp2_with (first | fail | ((with_reducible refine at_store 59 ?_); refine wpList_store_new2 rfl rfl 59 _ _ _ rfl _ #[.int .i64 0, .func (.func 28) #[] #[], .func (.func 29) #[] #[], .int .i64 2] _ rfl ?_ rfl hi.out rfl rfl ?_; · simp))
  go_quiet ((exact quietL (asb (y := false) (mig_h1 _ g (k * 89) _ _ (((hx0.alloc _).drewN _).cell (p := ⟨g, k * 89 + 9, none⟩) hg |>.trans P9.out)) V1.out)))
  have hy : Ext w (World.drewN (w0.alloc (.cells #[.int .i64 0, .func (.func 28) #[] #[], .func (.func 29) #[] #[], .int .i64 2] 59)) nq) := (hx0.alloc _).drewN _
  go_wp2_with fail
  generalize World.drewN _ nq = w1 at hy ⊢
  have hx1 := hy
  clear qa0 qb0 hg0 hX0 hy
  have hg1 := Nat.lt_of_lt_of_le hg hx1.size
  have hX1 := Nat.lt_of_lt_of_le hX hx1.size
  have qa1 := (hx1.cell (p := ⟨X, 1, none⟩) hX).trans P1.out
  have qb1 := (hx1.cell (p := ⟨g, k * 89 + 16, none⟩) hg).trans P16.out
  rw [S16.out] at qb1
  rw [rounds_succ]
  go_wp2_with (first | fail | ((with_reducible refine at_store 59 ?_); refine wpList_store_new2 rfl rfl 59 _ _ _ rfl _ #[.int .i64 0, .func (.func 30) #[] #[], .func (.func 31) #[] #[], .int .i64 0] _ rfl ?_ rfl hi.out rfl rfl ?_; · simp))
  go_quiet ((exact quietL (asb (y := false) (mig_h2 _ g (k * 89) _ _ _ (((hx1.alloc _).drewN _).cell (p := ⟨g, k * 89 + 9, none⟩) hg |>.trans P9.out) (((hx1.alloc _).drewN _).cell (p := ⟨g, k * 89 + 2, none⟩) hg |>.trans P2.out)) V2.out)))
  have hy : Ext w (World.drewN (w1.alloc (.cells #[.int .i64 0, .func (.func 30) #[] #[], .func (.func 31) #[] #[], .int .i64 0] 59)) nq) := (hx1.alloc _).drewN _
  go_wp2_with fail
  generalize World.drewN _ nq = w2 at hy ⊢
  have hx2 := hy
  clear qa1 qb1 hg1 hX1 hy
  have hg2 := Nat.lt_of_lt_of_le hg hx2.size
  have hX2 := Nat.lt_of_lt_of_le hX hx2.size
  have qa2 := (hx2.cell (p := ⟨X, 1, none⟩) hX).trans P1.out
  have qb2 := (hx2.cell (p := ⟨g, k * 89 + 16, none⟩) hg).trans P16.out
  rw [S16.out] at qb2
  rw [rounds_succ]
  go_wp2_with (first | fail | ((with_reducible refine at_store 59 ?_); refine wpList_store_new2 rfl rfl 59 _ _ _ rfl _ #[.int .i64 2, .func (.func 32) #[] #[], .func (.func 31) #[] #[], .int .i64 0] _ rfl ?_ rfl hi.out rfl rfl ?_; · simp))
  go_quiet (fail)
  have hy : Ext w (World.drewN (w2.alloc (.cells #[.int .i64 2, .func (.func 32) #[] #[], .func (.func 31) #[] #[], .int .i64 0] 59)) nq) := (hx2.alloc _).drewN _
  go_wp2_with fail
  generalize World.drewN _ nq = w3 at hy ⊢
  have hx3 := hy
  clear qa2 qb2 hg2 hX2 hy
  have hg3 := Nat.lt_of_lt_of_le hg hx3.size
  have hX3 := Nat.lt_of_lt_of_le hX hx3.size
  have qa3 := (hx3.cell (p := ⟨X, 1, none⟩) hX).trans P1.out
  have qb3 := (hx3.cell (p := ⟨g, k * 89 + 16, none⟩) hg).trans P16.out
  rw [S16.out] at qb3
  rw [rounds_succ]
  go_wp2_with (first | fail | ((with_reducible refine at_store 59 ?_); refine wpList_store_new2 rfl rfl 59 _ _ _ rfl _ #[.int .i64 2, .func (.func 33) #[] #[], .func (.func 34) #[] #[], .int .i64 1] _ rfl ?_ rfl hi.out rfl rfl ?_; · simp))
  go_quiet (fail)
  have hy : Ext w (World.drewN (w3.alloc (.cells #[.int .i64 2, .func (.func 33) #[] #[], .func (.func 34) #[] #[], .int .i64 1] 59)) nq) := (hx3.alloc _).drewN _
  go_wp2_with fail
  generalize World.drewN _ nq = w4 at hy ⊢
  have hx4 := hy
  clear qa3 qb3 hg3 hX3 hy
  have hg4 := Nat.lt_of_lt_of_le hg hx4.size
  have hX4 := Nat.lt_of_lt_of_le hX hx4.size
  have qa4 := (hx4.cell (p := ⟨X, 1, none⟩) hX).trans P1.out
  have qb4 := (hx4.cell (p := ⟨g, k * 89 + 16, none⟩) hg).trans P16.out
  rw [S16.out] at qb4
  rw [rounds_succ]
  go_wp2_with (first | fail | ((with_reducible refine at_store 59 ?_); refine wpList_store_new2 rfl rfl 59 _ _ _ rfl _ #[.int .i64 1, .func (.func 35) #[] #[], .func (.func 29) #[] #[], .int .i64 2] _ rfl ?_ rfl hi.out rfl rfl ?_; · simp))
  go_quiet (fail)
  have hy : Ext w (World.drewN (w4.alloc (.cells #[.int .i64 1, .func (.func 35) #[] #[], .func (.func 29) #[] #[], .int .i64 2] 59)) nq) := (hx4.alloc _).drewN _
  go_wp2_with fail
  generalize World.drewN _ nq = w5 at hy ⊢
  have hx5 := hy
  clear qa4 qb4 hg4 hX4 hy
  have hg5 := Nat.lt_of_lt_of_le hg hx5.size
  have hX5 := Nat.lt_of_lt_of_le hX hx5.size
  have qa5 := (hx5.cell (p := ⟨X, 1, none⟩) hX).trans P1.out
  have qb5 := (hx5.cell (p := ⟨g, k * 89 + 16, none⟩) hg).trans P16.out
  rw [S16.out] at qb5
  rw [rounds_succ]
  go_wp2_with fail
  go_ret
  exact ⟨rfl, H.out.ext hx5, hx5.mut F⟩

set_option maxHeartbeats 1000000 in
theorem mig_s2a (w : World) (F : Nat → Prop) (X g k : Nat) (B : Br) (h : BrG w F X g B) (ho : B.ok) (hk : k < B.np) (hk2 : k < 1000) (s0 : B.gi k 16 = 2) (v3 : mh3 B k = true) :
    Calls Try.prog 17 #[.pointer (some ⟨X, 0, none⟩), .int .i64 k] w (Stepped w F X g (true, migBegin B k)) := by
  obtain ⟨hX, hg, hne⟩ := h.lt
  obtain ⟨cap, c17, hc1, hc2⟩ := h.cell17 ho
  have P1 := Lib.hid ((h.cellX ho (i := 1) (by omega)).trans (ho.hb 1 rfl))
  have P2 := Lib.hid ((h.cellg (i := k * 89 + 2) (by omega)).trans (ho.gb hk 2 rfl))
  have P9 := Lib.hid ((h.cellg (i := k * 89 + 9) (by omega)).trans (ho.gi hk 9 rfl))
  have P16 := Lib.hid ((h.cellg (i := k * 89 + 16) (by omega)).trans (ho.gi hk 16 rfl))
  have P30 := Lib.hid ((h.cellg (i := k * 89 + 30) (by omega)).trans (ho.gb hk 30 rfl))
  have P37 := Lib.hid ((h.cellg (i := k * 89 + 37) (by omega)).trans (ho.gb hk 37 rfl))
  have P38 := Lib.hid ((h.cellg (i := k * 89 + 38) (by omega)).trans (ho.gb hk 38 rfl))
  have P45 := Lib.hid ((h.cellg (i := k * 89 + 45) (by omega)).trans (ho.gb hk 45 rfl))
  have H := Lib.hid h
  have V3 := Lib.hid v3
  clear h v3
  have S16 := Lib.hid s0
  clear s0
  have hi := Lib.hid size_mrow
  have i0 := mig_ix0
  have i1 := mig_ix1
  have i2 := mig_ix2
  have i3 := mig_ix3
  have i4 := mig_ix4
  go_enter Try.func17, Try.ntmps17
  go_wp2_with fail
  refine (mig_rows _).mono ?_
  rintro e w0 ⟨rfl, hx0⟩
  have hg0 := Nat.lt_of_lt_of_le hg hx0.size
  have hX0 := Nat.lt_of_lt_of_le hX hx0.size
  have qa0 := (hx0.cell (p := ⟨X, 1, none⟩) hX).trans P1.out
  have qb0 := (hx0.cell (p := ⟨g, k * 89 + 16, none⟩) hg).trans P16.out
  rw [S16.out] at qb0
  clear c17
  go_wp2_with fail
  refine wp_loop_rounds 6 ?_
  rw [rounds_succ]
  go_wp2_with (first | fail | ((with_reducible refine at_store 59 ?_); refine wpList_store_new2 rfl rfl 59 _ _ _ rfl _ #[.int .i64 0, .func (.func 28) #[] #[], .func (.func 29) #[] #[], .int .i64 2] _ rfl ?_ rfl hi.out rfl rfl ?_; · simp))
  go_quiet (fail)
  have hy : Ext w (World.drewN (w0.alloc (.cells #[.int .i64 0, .func (.func 28) #[] #[], .func (.func 29) #[] #[], .int .i64 2] 59)) nq) := (hx0.alloc _).drewN _
  go_wp2_with fail
  generalize World.drewN _ nq = w1 at hy ⊢
  have hx1 := hy
  clear qa0 qb0 hg0 hX0 hy
  have hg1 := Nat.lt_of_lt_of_le hg hx1.size
  have hX1 := Nat.lt_of_lt_of_le hX hx1.size
  have qa1 := (hx1.cell (p := ⟨X, 1, none⟩) hX).trans P1.out
  have qb1 := (hx1.cell (p := ⟨g, k * 89 + 16, none⟩) hg).trans P16.out
  rw [S16.out] at qb1
  rw [rounds_succ]
  go_wp2_with (first | fail | ((with_reducible refine at_store 59 ?_); refine wpList_store_new2 rfl rfl 59 _ _ _ rfl _ #[.int .i64 0, .func (.func 30) #[] #[], .func (.func 31) #[] #[], .int .i64 0] _ rfl ?_ rfl hi.out rfl rfl ?_; · simp))
  go_quiet (fail)
  have hy : Ext w (World.drewN (w1.alloc (.cells #[.int .i64 0, .func (.func 30) #[] #[], .func (.func 31) #[] #[], .int .i64 0] 59)) nq) := (hx1.alloc _).drewN _
  go_wp2_with fail
  generalize World.drewN _ nq = w2 at hy ⊢
  have hx2 := hy
  clear qa1 qb1 hg1 hX1 hy
  have hg2 := Nat.lt_of_lt_of_le hg hx2.size
  have hX2 := Nat.lt_of_lt_of_le hX hx2.size
  have qa2 := (hx2.cell (p := ⟨X, 1, none⟩) hX).trans P1.out
  have qb2 := (hx2.cell (p := ⟨g, k * 89 + 16, none⟩) hg).trans P16.out
  rw [S16.out] at qb2
  rw [rounds_succ]
  go_wp2_with (first | fail | ((with_reducible refine at_store 59 ?_); refine wpList_store_new2 rfl rfl 59 _ _ _ rfl _ #[.int .i64 2, .func (.func 32) #[] #[], .func (.func 31) #[] #[], .int .i64 0] _ rfl ?_ rfl hi.out rfl rfl ?_; · simp))
  go_quiet ((exact quietL (asb (y := true) (mig_h3 _ g (k * 89) _ _ _ _ _ (((hx2.alloc _).drewN _).cell (p := ⟨g, k * 89 + 2, none⟩) hg |>.trans P2.out) (((hx2.alloc _).drewN _).cell (p := ⟨g, k * 89 + 30, none⟩) hg |>.trans P30.out) (((hx2.alloc _).drewN _).cell (p := ⟨g, k * 89 + 37, none⟩) hg |>.trans P37.out) (((hx2.alloc _).drewN _).cell (p := ⟨g, k * 89 + 45, none⟩) hg |>.trans P45.out)) V3.out)))
  have bx : ∀ j, (World.drewN (w2.alloc (.cells #[.int .i64 2, .func (.func 32) #[] #[], .func (.func 31) #[] #[], .int .i64 0] 59)) nq).cell? ⟨w2.heap.size, j, none⟩ = #[.int .i64 2, .func (.func 32) #[] #[], .func (.func 31) #[] #[], .int .i64 0][j]? := fun j => by
    rw [World.cell?_drewN]
    exact World.cell?_alloc_at _ _ _ _ rfl
  have hy : Ext w (World.drewN (w2.alloc (.cells #[.int .i64 2, .func (.func 32) #[] #[], .func (.func 31) #[] #[], .int .i64 0] 59)) nq) := (hx2.alloc _).drewN _
  go_wp2_with fail
  refine wp_region_tail 7 (by kernel_rfl) (by kernel_rfl) ?_
  intro w9 hw9
  have hx9 : Ext w w9 := by
    rw [hw9]
    exact hy.drew
  have b2 : w9.cell? ⟨w2.heap.size, 2, none⟩ = some (.func (.func 31) #[] #[]) := by
    rw [hw9, World.cell?_drew, bx]
    rfl
  have b3 : w9.cell? ⟨w2.heap.size, 3, none⟩ = some (.int .i64 0) := by
    rw [hw9, World.cell?_drew, bx]
    rfl
  have hgz : g ≠ w2.heap.size := Nat.ne_of_lt hg2
  clear hw9 bx hy qa2 qb2
  have q1 := (hx9.cell (p := ⟨X, 1, none⟩) hX).trans P1.out
  have p9 := (hx9.cell (p := ⟨g, k * 89 + 9, none⟩) hg).trans P9.out
  have p16 := (hx9.cell (p := ⟨g, k * 89 + 16, none⟩) hg).trans P16.out
  have p30 := (hx9.cell (p := ⟨g, k * 89 + 30, none⟩) hg).trans P30.out
  have p37 := (hx9.cell (p := ⟨g, k * 89 + 37, none⟩) hg).trans P37.out
  have p38 := (hx9.cell (p := ⟨g, k * 89 + 38, none⟩) hg).trans P38.out
  have p45 := (hx9.cell (p := ⟨g, k * 89 + 45, none⟩) hg).trans P45.out
  have hf9 : ∀ j, w9.frozen? ⟨g, j, none⟩ = false := fun j => (H.out.ext hx9).frozen j
  simp only [List.take_succ_cons, List.take_zero, List.drop_succ_cons, List.drop_zero]
  repeat still_step
  refine wpStill_nil ?_
  go_wp2_with fail
  refine (mig_begin _ g (k * 89) _ _ _ w9 p9 p30 p45 hf9).mono ?_
  rintro e w3 ⟨rfl, rfl⟩
  go_wp2_with fail
  go_ret
  exact ⟨rfl, (((((H.out.ext hx9).setp (j := 30) hk (by decide) _).setp (j := 45) hk (by decide) _).setp (j := 9) hk (by decide) _).setp (j := 16) hk (by decide) _), (((((hx9.mut F).setCell (.inl H.out.F2) _).setCell (.inl H.out.F2) _).setCell (.inl H.out.F2) _).setCell (.inl H.out.F2) _)⟩

set_option maxHeartbeats 1000000 in
theorem mig_s2b (w : World) (F : Nat → Prop) (X g k : Nat) (B : Br) (h : BrG w F X g B) (ho : B.ok) (hk : k < B.np) (hk2 : k < 1000) (s0 : B.gi k 16 = 2) (v3 : mh3 B k = false) (v4 : mh4 B k = true) :
    Calls Try.prog 17 #[.pointer (some ⟨X, 0, none⟩), .int .i64 k] w (Stepped w F X g (true, migYield B k)) := by
  obtain ⟨hX, hg, hne⟩ := h.lt
  obtain ⟨cap, c17, hc1, hc2⟩ := h.cell17 ho
  have P1 := Lib.hid ((h.cellX ho (i := 1) (by omega)).trans (ho.hb 1 rfl))
  have P2 := Lib.hid ((h.cellg (i := k * 89 + 2) (by omega)).trans (ho.gb hk 2 rfl))
  have P9 := Lib.hid ((h.cellg (i := k * 89 + 9) (by omega)).trans (ho.gi hk 9 rfl))
  have P16 := Lib.hid ((h.cellg (i := k * 89 + 16) (by omega)).trans (ho.gi hk 16 rfl))
  have P30 := Lib.hid ((h.cellg (i := k * 89 + 30) (by omega)).trans (ho.gb hk 30 rfl))
  have P37 := Lib.hid ((h.cellg (i := k * 89 + 37) (by omega)).trans (ho.gb hk 37 rfl))
  have P38 := Lib.hid ((h.cellg (i := k * 89 + 38) (by omega)).trans (ho.gb hk 38 rfl))
  have P45 := Lib.hid ((h.cellg (i := k * 89 + 45) (by omega)).trans (ho.gb hk 45 rfl))
  have H := Lib.hid h
  have V3 := Lib.hid v3
  have V4 := Lib.hid v4
  clear h v3 v4
  have S16 := Lib.hid s0
  clear s0
  have hi := Lib.hid size_mrow
  have i0 := mig_ix0
  have i1 := mig_ix1
  have i2 := mig_ix2
  have i3 := mig_ix3
  have i4 := mig_ix4
  go_enter Try.func17, Try.ntmps17
  go_wp2_with fail
  refine (mig_rows _).mono ?_
  rintro e w0 ⟨rfl, hx0⟩
  have hg0 := Nat.lt_of_lt_of_le hg hx0.size
  have hX0 := Nat.lt_of_lt_of_le hX hx0.size
  have qa0 := (hx0.cell (p := ⟨X, 1, none⟩) hX).trans P1.out
  have qb0 := (hx0.cell (p := ⟨g, k * 89 + 16, none⟩) hg).trans P16.out
  rw [S16.out] at qb0
  clear c17
  go_wp2_with fail
  refine wp_loop_rounds 6 ?_
  rw [rounds_succ]
  go_wp2_with (first | fail | ((with_reducible refine at_store 59 ?_); refine wpList_store_new2 rfl rfl 59 _ _ _ rfl _ #[.int .i64 0, .func (.func 28) #[] #[], .func (.func 29) #[] #[], .int .i64 2] _ rfl ?_ rfl hi.out rfl rfl ?_; · simp))
  go_quiet (fail)
  have hy : Ext w (World.drewN (w0.alloc (.cells #[.int .i64 0, .func (.func 28) #[] #[], .func (.func 29) #[] #[], .int .i64 2] 59)) nq) := (hx0.alloc _).drewN _
  go_wp2_with fail
  generalize World.drewN _ nq = w1 at hy ⊢
  have hx1 := hy
  clear qa0 qb0 hg0 hX0 hy
  have hg1 := Nat.lt_of_lt_of_le hg hx1.size
  have hX1 := Nat.lt_of_lt_of_le hX hx1.size
  have qa1 := (hx1.cell (p := ⟨X, 1, none⟩) hX).trans P1.out
  have qb1 := (hx1.cell (p := ⟨g, k * 89 + 16, none⟩) hg).trans P16.out
  rw [S16.out] at qb1
  rw [rounds_succ]
  go_wp2_with (first | fail | ((with_reducible refine at_store 59 ?_); refine wpList_store_new2 rfl rfl 59 _ _ _ rfl _ #[.int .i64 0, .func (.func 30) #[] #[], .func (.func 31) #[] #[], .int .i64 0] _ rfl ?_ rfl hi.out rfl rfl ?_; · simp))
  go_quiet (fail)
  have hy : Ext w (World.drewN (w1.alloc (.cells #[.int .i64 0, .func (.func 30) #[] #[], .func (.func 31) #[] #[], .int .i64 0] 59)) nq) := (hx1.alloc _).drewN _
  go_wp2_with fail
  generalize World.drewN _ nq = w2 at hy ⊢
  have hx2 := hy
  clear qa1 qb1 hg1 hX1 hy
  have hg2 := Nat.lt_of_lt_of_le hg hx2.size
  have hX2 := Nat.lt_of_lt_of_le hX hx2.size
  have qa2 := (hx2.cell (p := ⟨X, 1, none⟩) hX).trans P1.out
  have qb2 := (hx2.cell (p := ⟨g, k * 89 + 16, none⟩) hg).trans P16.out
  rw [S16.out] at qb2
  rw [rounds_succ]
  go_wp2_with (first | fail | ((with_reducible refine at_store 59 ?_); refine wpList_store_new2 rfl rfl 59 _ _ _ rfl _ #[.int .i64 2, .func (.func 32) #[] #[], .func (.func 31) #[] #[], .int .i64 0] _ rfl ?_ rfl hi.out rfl rfl ?_; · simp))
  go_quiet ((exact quietL (asb (y := false) (mig_h3 _ g (k * 89) _ _ _ _ _ (((hx2.alloc _).drewN _).cell (p := ⟨g, k * 89 + 2, none⟩) hg |>.trans P2.out) (((hx2.alloc _).drewN _).cell (p := ⟨g, k * 89 + 30, none⟩) hg |>.trans P30.out) (((hx2.alloc _).drewN _).cell (p := ⟨g, k * 89 + 37, none⟩) hg |>.trans P37.out) (((hx2.alloc _).drewN _).cell (p := ⟨g, k * 89 + 45, none⟩) hg |>.trans P45.out)) V3.out)))
  have hy : Ext w (World.drewN (w2.alloc (.cells #[.int .i64 2, .func (.func 32) #[] #[], .func (.func 31) #[] #[], .int .i64 0] 59)) nq) := (hx2.alloc _).drewN _
  go_wp2_with fail
  generalize World.drewN _ nq = w3 at hy ⊢
  have hx3 := hy
  clear qa2 qb2 hg2 hX2 hy
  have hg3 := Nat.lt_of_lt_of_le hg hx3.size
  have hX3 := Nat.lt_of_lt_of_le hX hx3.size
  have qa3 := (hx3.cell (p := ⟨X, 1, none⟩) hX).trans P1.out
  have qb3 := (hx3.cell (p := ⟨g, k * 89 + 16, none⟩) hg).trans P16.out
  rw [S16.out] at qb3
  rw [rounds_succ]
  go_wp2_with (first | fail | ((with_reducible refine at_store 59 ?_); refine wpList_store_new2 rfl rfl 59 _ _ _ rfl _ #[.int .i64 2, .func (.func 33) #[] #[], .func (.func 34) #[] #[], .int .i64 1] _ rfl ?_ rfl hi.out rfl rfl ?_; · simp))
  go_quiet ((exact quietL (asb (y := true) (mig_h4 _ g (k * 89) _ _ _ (((hx3.alloc _).drewN _).cell (p := ⟨g, k * 89 + 45, none⟩) hg |>.trans P45.out) (((hx3.alloc _).drewN _).cell (p := ⟨g, k * 89 + 38, none⟩) hg |>.trans P38.out)) V4.out)))
  have bx : ∀ j, (World.drewN (w3.alloc (.cells #[.int .i64 2, .func (.func 33) #[] #[], .func (.func 34) #[] #[], .int .i64 1] 59)) nq).cell? ⟨w3.heap.size, j, none⟩ = #[.int .i64 2, .func (.func 33) #[] #[], .func (.func 34) #[] #[], .int .i64 1][j]? := fun j => by
    rw [World.cell?_drewN]
    exact World.cell?_alloc_at _ _ _ _ rfl
  have hy : Ext w (World.drewN (w3.alloc (.cells #[.int .i64 2, .func (.func 33) #[] #[], .func (.func 34) #[] #[], .int .i64 1] 59)) nq) := (hx3.alloc _).drewN _
  go_wp2_with fail
  refine wp_region_tail 7 (by kernel_rfl) (by kernel_rfl) ?_
  intro w9 hw9
  have hx9 : Ext w w9 := by
    rw [hw9]
    exact hy.drew
  have b2 : w9.cell? ⟨w3.heap.size, 2, none⟩ = some (.func (.func 34) #[] #[]) := by
    rw [hw9, World.cell?_drew, bx]
    rfl
  have b3 : w9.cell? ⟨w3.heap.size, 3, none⟩ = some (.int .i64 1) := by
    rw [hw9, World.cell?_drew, bx]
    rfl
  have hgz : g ≠ w3.heap.size := Nat.ne_of_lt hg3
  clear hw9 bx hy qa3 qb3
  have q1 := (hx9.cell (p := ⟨X, 1, none⟩) hX).trans P1.out
  have p9 := (hx9.cell (p := ⟨g, k * 89 + 9, none⟩) hg).trans P9.out
  have p16 := (hx9.cell (p := ⟨g, k * 89 + 16, none⟩) hg).trans P16.out
  have p30 := (hx9.cell (p := ⟨g, k * 89 + 30, none⟩) hg).trans P30.out
  have p37 := (hx9.cell (p := ⟨g, k * 89 + 37, none⟩) hg).trans P37.out
  have p38 := (hx9.cell (p := ⟨g, k * 89 + 38, none⟩) hg).trans P38.out
  have p45 := (hx9.cell (p := ⟨g, k * 89 + 45, none⟩) hg).trans P45.out
  have hf9 : ∀ j, w9.frozen? ⟨g, j, none⟩ = false := fun j => (H.out.ext hx9).frozen j
  simp only [List.take_succ_cons, List.take_zero, List.drop_succ_cons, List.drop_zero]
  repeat still_step
  refine wpStill_nil ?_
  go_wp2_with fail
  refine (mig_yield _ g (k * 89) _ _ w9 p9 p45 hf9).mono ?_
  rintro e w3 ⟨rfl, rfl⟩
  go_wp2_with fail
  go_ret
  exact ⟨rfl, ((((H.out.ext hx9).setp (j := 45) hk (by decide) _).setp (j := 9) hk (by decide) _).setp (j := 16) hk (by decide) _), ((((hx9.mut F).setCell (.inl H.out.F2) _).setCell (.inl H.out.F2) _).setCell (.inl H.out.F2) _)⟩

set_option maxHeartbeats 1000000 in
theorem mig_s2c (w : World) (F : Nat → Prop) (X g k : Nat) (B : Br) (h : BrG w F X g B) (ho : B.ok) (hk : k < B.np) (hk2 : k < 1000) (s0 : B.gi k 16 = 2) (v3 : mh3 B k = false) (v4 : mh4 B k = false) :
    Calls Try.prog 17 #[.pointer (some ⟨X, 0, none⟩), .int .i64 k] w (Stepped w F X g (false, B)) := by
  obtain ⟨hX, hg, hne⟩ := h.lt
  obtain ⟨cap, c17, hc1, hc2⟩ := h.cell17 ho
  have P1 := Lib.hid ((h.cellX ho (i := 1) (by omega)).trans (ho.hb 1 rfl))
  have P2 := Lib.hid ((h.cellg (i := k * 89 + 2) (by omega)).trans (ho.gb hk 2 rfl))
  have P9 := Lib.hid ((h.cellg (i := k * 89 + 9) (by omega)).trans (ho.gi hk 9 rfl))
  have P16 := Lib.hid ((h.cellg (i := k * 89 + 16) (by omega)).trans (ho.gi hk 16 rfl))
  have P30 := Lib.hid ((h.cellg (i := k * 89 + 30) (by omega)).trans (ho.gb hk 30 rfl))
  have P37 := Lib.hid ((h.cellg (i := k * 89 + 37) (by omega)).trans (ho.gb hk 37 rfl))
  have P38 := Lib.hid ((h.cellg (i := k * 89 + 38) (by omega)).trans (ho.gb hk 38 rfl))
  have P45 := Lib.hid ((h.cellg (i := k * 89 + 45) (by omega)).trans (ho.gb hk 45 rfl))
  have H := Lib.hid h
  have V3 := Lib.hid v3
  have V4 := Lib.hid v4
  clear h v3 v4
  have S16 := Lib.hid s0
  clear s0
  have hi := Lib.hid size_mrow
  have i0 := mig_ix0
  have i1 := mig_ix1
  have i2 := mig_ix2
  have i3 := mig_ix3
  have i4 := mig_ix4
  go_enter Try.func17, Try.ntmps17
  go_wp2_with fail
  refine (mig_rows _).mono ?_
  rintro e w0 ⟨rfl, hx0⟩
  have hg0 := Nat.lt_of_lt_of_le hg hx0.size
  have hX0 := Nat.lt_of_lt_of_le hX hx0.size
  have qa0 := (hx0.cell (p := ⟨X, 1, none⟩) hX).trans P1.out
  have qb0 := (hx0.cell (p := ⟨g, k * 89 + 16, none⟩) hg).trans P16.out
  rw [S16.out] at qb0
  clear c17
  go_wp2_with fail
  refine wp_loop_rounds 6 ?_
  rw [rounds_succ]
  go_wp2_with (first | fail | ((with_reducible refine at_store 59 ?_); refine wpList_store_new2 rfl rfl 59 _ _ _ rfl _ #[.int .i64 0, .func (.func 28) #[] #[], .func (.func 29) #[] #[], .int .i64 2] _ rfl ?_ rfl hi.out rfl rfl ?_; · simp))
  go_quiet (fail)
  have hy : Ext w (World.drewN (w0.alloc (.cells #[.int .i64 0, .func (.func 28) #[] #[], .func (.func 29) #[] #[], .int .i64 2] 59)) nq) := (hx0.alloc _).drewN _
  go_wp2_with fail
  generalize World.drewN _ nq = w1 at hy ⊢
  have hx1 := hy
  clear qa0 qb0 hg0 hX0 hy
  have hg1 := Nat.lt_of_lt_of_le hg hx1.size
  have hX1 := Nat.lt_of_lt_of_le hX hx1.size
  have qa1 := (hx1.cell (p := ⟨X, 1, none⟩) hX).trans P1.out
  have qb1 := (hx1.cell (p := ⟨g, k * 89 + 16, none⟩) hg).trans P16.out
  rw [S16.out] at qb1
  rw [rounds_succ]
  go_wp2_with (first | fail | ((with_reducible refine at_store 59 ?_); refine wpList_store_new2 rfl rfl 59 _ _ _ rfl _ #[.int .i64 0, .func (.func 30) #[] #[], .func (.func 31) #[] #[], .int .i64 0] _ rfl ?_ rfl hi.out rfl rfl ?_; · simp))
  go_quiet (fail)
  have hy : Ext w (World.drewN (w1.alloc (.cells #[.int .i64 0, .func (.func 30) #[] #[], .func (.func 31) #[] #[], .int .i64 0] 59)) nq) := (hx1.alloc _).drewN _
  go_wp2_with fail
  generalize World.drewN _ nq = w2 at hy ⊢
  have hx2 := hy
  clear qa1 qb1 hg1 hX1 hy
  have hg2 := Nat.lt_of_lt_of_le hg hx2.size
  have hX2 := Nat.lt_of_lt_of_le hX hx2.size
  have qa2 := (hx2.cell (p := ⟨X, 1, none⟩) hX).trans P1.out
  have qb2 := (hx2.cell (p := ⟨g, k * 89 + 16, none⟩) hg).trans P16.out
  rw [S16.out] at qb2
  rw [rounds_succ]
  go_wp2_with (first | fail | ((with_reducible refine at_store 59 ?_); refine wpList_store_new2 rfl rfl 59 _ _ _ rfl _ #[.int .i64 2, .func (.func 32) #[] #[], .func (.func 31) #[] #[], .int .i64 0] _ rfl ?_ rfl hi.out rfl rfl ?_; · simp))
  go_quiet ((exact quietL (asb (y := false) (mig_h3 _ g (k * 89) _ _ _ _ _ (((hx2.alloc _).drewN _).cell (p := ⟨g, k * 89 + 2, none⟩) hg |>.trans P2.out) (((hx2.alloc _).drewN _).cell (p := ⟨g, k * 89 + 30, none⟩) hg |>.trans P30.out) (((hx2.alloc _).drewN _).cell (p := ⟨g, k * 89 + 37, none⟩) hg |>.trans P37.out) (((hx2.alloc _).drewN _).cell (p := ⟨g, k * 89 + 45, none⟩) hg |>.trans P45.out)) V3.out)))
  have hy : Ext w (World.drewN (w2.alloc (.cells #[.int .i64 2, .func (.func 32) #[] #[], .func (.func 31) #[] #[], .int .i64 0] 59)) nq) := (hx2.alloc _).drewN _
  go_wp2_with fail
  generalize World.drewN _ nq = w3 at hy ⊢
  have hx3 := hy
  clear qa2 qb2 hg2 hX2 hy
  have hg3 := Nat.lt_of_lt_of_le hg hx3.size
  have hX3 := Nat.lt_of_lt_of_le hX hx3.size
  have qa3 := (hx3.cell (p := ⟨X, 1, none⟩) hX).trans P1.out
  have qb3 := (hx3.cell (p := ⟨g, k * 89 + 16, none⟩) hg).trans P16.out
  rw [S16.out] at qb3
  rw [rounds_succ]
  go_wp2_with (first | fail | ((with_reducible refine at_store 59 ?_); refine wpList_store_new2 rfl rfl 59 _ _ _ rfl _ #[.int .i64 2, .func (.func 33) #[] #[], .func (.func 34) #[] #[], .int .i64 1] _ rfl ?_ rfl hi.out rfl rfl ?_; · simp))
  go_quiet ((exact quietL (asb (y := false) (mig_h4 _ g (k * 89) _ _ _ (((hx3.alloc _).drewN _).cell (p := ⟨g, k * 89 + 45, none⟩) hg |>.trans P45.out) (((hx3.alloc _).drewN _).cell (p := ⟨g, k * 89 + 38, none⟩) hg |>.trans P38.out)) V4.out)))
  have hy : Ext w (World.drewN (w3.alloc (.cells #[.int .i64 2, .func (.func 33) #[] #[], .func (.func 34) #[] #[], .int .i64 1] 59)) nq) := (hx3.alloc _).drewN _
  go_wp2_with fail
  generalize World.drewN _ nq = w4 at hy ⊢
  have hx4 := hy
  clear qa3 qb3 hg3 hX3 hy
  have hg4 := Nat.lt_of_lt_of_le hg hx4.size
  have hX4 := Nat.lt_of_lt_of_le hX hx4.size
  have qa4 := (hx4.cell (p := ⟨X, 1, none⟩) hX).trans P1.out
  have qb4 := (hx4.cell (p := ⟨g, k * 89 + 16, none⟩) hg).trans P16.out
  rw [S16.out] at qb4
  rw [rounds_succ]
  go_wp2_with (first | fail | ((with_reducible refine at_store 59 ?_); refine wpList_store_new2 rfl rfl 59 _ _ _ rfl _ #[.int .i64 1, .func (.func 35) #[] #[], .func (.func 29) #[] #[], .int .i64 2] _ rfl ?_ rfl hi.out rfl rfl ?_; · simp))
  go_quiet (fail)
  have hy : Ext w (World.drewN (w4.alloc (.cells #[.int .i64 1, .func (.func 35) #[] #[], .func (.func 29) #[] #[], .int .i64 2] 59)) nq) := (hx4.alloc _).drewN _
  go_wp2_with fail
  generalize World.drewN _ nq = w5 at hy ⊢
  have hx5 := hy
  clear qa4 qb4 hg4 hX4 hy
  have hg5 := Nat.lt_of_lt_of_le hg hx5.size
  have hX5 := Nat.lt_of_lt_of_le hX hx5.size
  have qa5 := (hx5.cell (p := ⟨X, 1, none⟩) hX).trans P1.out
  have qb5 := (hx5.cell (p := ⟨g, k * 89 + 16, none⟩) hg).trans P16.out
  rw [S16.out] at qb5
  rw [rounds_succ]
  go_wp2_with fail
  go_ret
  exact ⟨rfl, H.out.ext hx5, hx5.mut F⟩

set_option maxHeartbeats 1000000 in
theorem mig_s1a (w : World) (F : Nat → Prop) (X g k : Nat) (B : Br) (h : BrG w F X g B) (ho : B.ok) (hk : k < B.np) (hk2 : k < 1000) (s0 : B.gi k 16 = 1) (v5 : mh5 B k = true) :
    Calls Try.prog 17 #[.pointer (some ⟨X, 0, none⟩), .int .i64 k] w (Stepped w F X g (true, migListen B k)) := by
  obtain ⟨hX, hg, hne⟩ := h.lt
  obtain ⟨cap, c17, hc1, hc2⟩ := h.cell17 ho
  have P1 := Lib.hid ((h.cellX ho (i := 1) (by omega)).trans (ho.hb 1 rfl))
  have P2 := Lib.hid ((h.cellg (i := k * 89 + 2) (by omega)).trans (ho.gb hk 2 rfl))
  have P9 := Lib.hid ((h.cellg (i := k * 89 + 9) (by omega)).trans (ho.gi hk 9 rfl))
  have P16 := Lib.hid ((h.cellg (i := k * 89 + 16) (by omega)).trans (ho.gi hk 16 rfl))
  have P30 := Lib.hid ((h.cellg (i := k * 89 + 30) (by omega)).trans (ho.gb hk 30 rfl))
  have P37 := Lib.hid ((h.cellg (i := k * 89 + 37) (by omega)).trans (ho.gb hk 37 rfl))
  have P38 := Lib.hid ((h.cellg (i := k * 89 + 38) (by omega)).trans (ho.gb hk 38 rfl))
  have P45 := Lib.hid ((h.cellg (i := k * 89 + 45) (by omega)).trans (ho.gb hk 45 rfl))
  have H := Lib.hid h
  have V5 := Lib.hid v5
  clear h v5
  have S16 := Lib.hid s0
  clear s0
  have hi := Lib.hid size_mrow
  have i0 := mig_ix0
  have i1 := mig_ix1
  have i2 := mig_ix2
  have i3 := mig_ix3
  have i4 := mig_ix4
  go_enter Try.func17, Try.ntmps17
  go_wp2_with fail
  refine (mig_rows _).mono ?_
  rintro e w0 ⟨rfl, hx0⟩
  have hg0 := Nat.lt_of_lt_of_le hg hx0.size
  have hX0 := Nat.lt_of_lt_of_le hX hx0.size
  have qa0 := (hx0.cell (p := ⟨X, 1, none⟩) hX).trans P1.out
  have qb0 := (hx0.cell (p := ⟨g, k * 89 + 16, none⟩) hg).trans P16.out
  rw [S16.out] at qb0
  clear c17
  go_wp2_with fail
  refine wp_loop_rounds 6 ?_
  rw [rounds_succ]
  go_wp2_with (first | fail | ((with_reducible refine at_store 59 ?_); refine wpList_store_new2 rfl rfl 59 _ _ _ rfl _ #[.int .i64 0, .func (.func 28) #[] #[], .func (.func 29) #[] #[], .int .i64 2] _ rfl ?_ rfl hi.out rfl rfl ?_; · simp))
  go_quiet (fail)
  have hy : Ext w (World.drewN (w0.alloc (.cells #[.int .i64 0, .func (.func 28) #[] #[], .func (.func 29) #[] #[], .int .i64 2] 59)) nq) := (hx0.alloc _).drewN _
  go_wp2_with fail
  generalize World.drewN _ nq = w1 at hy ⊢
  have hx1 := hy
  clear qa0 qb0 hg0 hX0 hy
  have hg1 := Nat.lt_of_lt_of_le hg hx1.size
  have hX1 := Nat.lt_of_lt_of_le hX hx1.size
  have qa1 := (hx1.cell (p := ⟨X, 1, none⟩) hX).trans P1.out
  have qb1 := (hx1.cell (p := ⟨g, k * 89 + 16, none⟩) hg).trans P16.out
  rw [S16.out] at qb1
  rw [rounds_succ]
  go_wp2_with (first | fail | ((with_reducible refine at_store 59 ?_); refine wpList_store_new2 rfl rfl 59 _ _ _ rfl _ #[.int .i64 0, .func (.func 30) #[] #[], .func (.func 31) #[] #[], .int .i64 0] _ rfl ?_ rfl hi.out rfl rfl ?_; · simp))
  go_quiet (fail)
  have hy : Ext w (World.drewN (w1.alloc (.cells #[.int .i64 0, .func (.func 30) #[] #[], .func (.func 31) #[] #[], .int .i64 0] 59)) nq) := (hx1.alloc _).drewN _
  go_wp2_with fail
  generalize World.drewN _ nq = w2 at hy ⊢
  have hx2 := hy
  clear qa1 qb1 hg1 hX1 hy
  have hg2 := Nat.lt_of_lt_of_le hg hx2.size
  have hX2 := Nat.lt_of_lt_of_le hX hx2.size
  have qa2 := (hx2.cell (p := ⟨X, 1, none⟩) hX).trans P1.out
  have qb2 := (hx2.cell (p := ⟨g, k * 89 + 16, none⟩) hg).trans P16.out
  rw [S16.out] at qb2
  rw [rounds_succ]
  go_wp2_with (first | fail | ((with_reducible refine at_store 59 ?_); refine wpList_store_new2 rfl rfl 59 _ _ _ rfl _ #[.int .i64 2, .func (.func 32) #[] #[], .func (.func 31) #[] #[], .int .i64 0] _ rfl ?_ rfl hi.out rfl rfl ?_; · simp))
  go_quiet (fail)
  have hy : Ext w (World.drewN (w2.alloc (.cells #[.int .i64 2, .func (.func 32) #[] #[], .func (.func 31) #[] #[], .int .i64 0] 59)) nq) := (hx2.alloc _).drewN _
  go_wp2_with fail
  generalize World.drewN _ nq = w3 at hy ⊢
  have hx3 := hy
  clear qa2 qb2 hg2 hX2 hy
  have hg3 := Nat.lt_of_lt_of_le hg hx3.size
  have hX3 := Nat.lt_of_lt_of_le hX hx3.size
  have qa3 := (hx3.cell (p := ⟨X, 1, none⟩) hX).trans P1.out
  have qb3 := (hx3.cell (p := ⟨g, k * 89 + 16, none⟩) hg).trans P16.out
  rw [S16.out] at qb3
  rw [rounds_succ]
  go_wp2_with (first | fail | ((with_reducible refine at_store 59 ?_); refine wpList_store_new2 rfl rfl 59 _ _ _ rfl _ #[.int .i64 2, .func (.func 33) #[] #[], .func (.func 34) #[] #[], .int .i64 1] _ rfl ?_ rfl hi.out rfl rfl ?_; · simp))
  go_quiet (fail)
  have hy : Ext w (World.drewN (w3.alloc (.cells #[.int .i64 2, .func (.func 33) #[] #[], .func (.func 34) #[] #[], .int .i64 1] 59)) nq) := (hx3.alloc _).drewN _
  go_wp2_with fail
  generalize World.drewN _ nq = w4 at hy ⊢
  have hx4 := hy
  clear qa3 qb3 hg3 hX3 hy
  have hg4 := Nat.lt_of_lt_of_le hg hx4.size
  have hX4 := Nat.lt_of_lt_of_le hX hx4.size
  have qa4 := (hx4.cell (p := ⟨X, 1, none⟩) hX).trans P1.out
  have qb4 := (hx4.cell (p := ⟨g, k * 89 + 16, none⟩) hg).trans P16.out
  rw [S16.out] at qb4
  rw [rounds_succ]
  go_wp2_with (first | fail | ((with_reducible refine at_store 59 ?_); refine wpList_store_new2 rfl rfl 59 _ _ _ rfl _ #[.int .i64 1, .func (.func 35) #[] #[], .func (.func 29) #[] #[], .int .i64 2] _ rfl ?_ rfl hi.out rfl rfl ?_; · simp))
  go_quiet ((exact quietL (asb (y := true) (mig_h5 _ g (k * 89) _ _ _ _ (((hx4.alloc _).drewN _).cell (p := ⟨g, k * 89 + 9, none⟩) hg |>.trans P9.out) (((hx4.alloc _).drewN _).cell (p := ⟨g, k * 89 + 2, none⟩) hg |>.trans P2.out) (((hx4.alloc _).drewN _).cell (p := ⟨g, k * 89 + 30, none⟩) hg |>.trans P30.out)) V5.out)))
  have bx : ∀ j, (World.drewN (w4.alloc (.cells #[.int .i64 1, .func (.func 35) #[] #[], .func (.func 29) #[] #[], .int .i64 2] 59)) nq).cell? ⟨w4.heap.size, j, none⟩ = #[.int .i64 1, .func (.func 35) #[] #[], .func (.func 29) #[] #[], .int .i64 2][j]? := fun j => by
    rw [World.cell?_drewN]
    exact World.cell?_alloc_at _ _ _ _ rfl
  have hy : Ext w (World.drewN (w4.alloc (.cells #[.int .i64 1, .func (.func 35) #[] #[], .func (.func 29) #[] #[], .int .i64 2] 59)) nq) := (hx4.alloc _).drewN _
  go_wp2_with fail
  refine wp_region_tail 7 (by kernel_rfl) (by kernel_rfl) ?_
  intro w9 hw9
  have hx9 : Ext w w9 := by
    rw [hw9]
    exact hy.drew
  have b2 : w9.cell? ⟨w4.heap.size, 2, none⟩ = some (.func (.func 29) #[] #[]) := by
    rw [hw9, World.cell?_drew, bx]
    rfl
  have b3 : w9.cell? ⟨w4.heap.size, 3, none⟩ = some (.int .i64 2) := by
    rw [hw9, World.cell?_drew, bx]
    rfl
  have hgz : g ≠ w4.heap.size := Nat.ne_of_lt hg4
  clear hw9 bx hy qa4 qb4
  have q1 := (hx9.cell (p := ⟨X, 1, none⟩) hX).trans P1.out
  have p9 := (hx9.cell (p := ⟨g, k * 89 + 9, none⟩) hg).trans P9.out
  have p16 := (hx9.cell (p := ⟨g, k * 89 + 16, none⟩) hg).trans P16.out
  have p30 := (hx9.cell (p := ⟨g, k * 89 + 30, none⟩) hg).trans P30.out
  have p37 := (hx9.cell (p := ⟨g, k * 89 + 37, none⟩) hg).trans P37.out
  have p38 := (hx9.cell (p := ⟨g, k * 89 + 38, none⟩) hg).trans P38.out
  have p45 := (hx9.cell (p := ⟨g, k * 89 + 45, none⟩) hg).trans P45.out
  have hf9 : ∀ j, w9.frozen? ⟨g, j, none⟩ = false := fun j => (H.out.ext hx9).frozen j
  simp only [List.take_succ_cons, List.take_zero, List.drop_succ_cons, List.drop_zero]
  repeat still_step
  refine wpStill_nil ?_
  go_wp2_with fail
  refine (mig_listen _ g (k * 89) _ _ w9 p37 p38 hf9).mono ?_
  rintro e w3 ⟨rfl, rfl⟩
  go_wp2_with fail
  go_ret
  exact ⟨rfl, ((((H.out.ext hx9).setp (j := 37) hk (by decide) _).setp (j := 38) hk (by decide) _).setp (j := 16) hk (by decide) _), ((((hx9.mut F).setCell (.inl H.out.F2) _).setCell (.inl H.out.F2) _).setCell (.inl H.out.F2) _)⟩

set_option maxHeartbeats 1000000 in
theorem mig_s1b (w : World) (F : Nat → Prop) (X g k : Nat) (B : Br) (h : BrG w F X g B) (ho : B.ok) (hk : k < B.np) (hk2 : k < 1000) (s0 : B.gi k 16 = 1) (v5 : mh5 B k = false) :
    Calls Try.prog 17 #[.pointer (some ⟨X, 0, none⟩), .int .i64 k] w (Stepped w F X g (false, B)) := by
  obtain ⟨hX, hg, hne⟩ := h.lt
  obtain ⟨cap, c17, hc1, hc2⟩ := h.cell17 ho
  have P1 := Lib.hid ((h.cellX ho (i := 1) (by omega)).trans (ho.hb 1 rfl))
  have P2 := Lib.hid ((h.cellg (i := k * 89 + 2) (by omega)).trans (ho.gb hk 2 rfl))
  have P9 := Lib.hid ((h.cellg (i := k * 89 + 9) (by omega)).trans (ho.gi hk 9 rfl))
  have P16 := Lib.hid ((h.cellg (i := k * 89 + 16) (by omega)).trans (ho.gi hk 16 rfl))
  have P30 := Lib.hid ((h.cellg (i := k * 89 + 30) (by omega)).trans (ho.gb hk 30 rfl))
  have P37 := Lib.hid ((h.cellg (i := k * 89 + 37) (by omega)).trans (ho.gb hk 37 rfl))
  have P38 := Lib.hid ((h.cellg (i := k * 89 + 38) (by omega)).trans (ho.gb hk 38 rfl))
  have P45 := Lib.hid ((h.cellg (i := k * 89 + 45) (by omega)).trans (ho.gb hk 45 rfl))
  have H := Lib.hid h
  have V5 := Lib.hid v5
  clear h v5
  have S16 := Lib.hid s0
  clear s0
  have hi := Lib.hid size_mrow
  have i0 := mig_ix0
  have i1 := mig_ix1
  have i2 := mig_ix2
  have i3 := mig_ix3
  have i4 := mig_ix4
  go_enter Try.func17, Try.ntmps17
  go_wp2_with fail
  refine (mig_rows _).mono ?_
  rintro e w0 ⟨rfl, hx0⟩
  have hg0 := Nat.lt_of_lt_of_le hg hx0.size
  have hX0 := Nat.lt_of_lt_of_le hX hx0.size
  have qa0 := (hx0.cell (p := ⟨X, 1, none⟩) hX).trans P1.out
  have qb0 := (hx0.cell (p := ⟨g, k * 89 + 16, none⟩) hg).trans P16.out
  rw [S16.out] at qb0
  clear c17
  go_wp2_with fail
  refine wp_loop_rounds 6 ?_
  rw [rounds_succ]
  go_wp2_with (first | fail | ((with_reducible refine at_store 59 ?_); refine wpList_store_new2 rfl rfl 59 _ _ _ rfl _ #[.int .i64 0, .func (.func 28) #[] #[], .func (.func 29) #[] #[], .int .i64 2] _ rfl ?_ rfl hi.out rfl rfl ?_; · simp))
  go_quiet (fail)
  have hy : Ext w (World.drewN (w0.alloc (.cells #[.int .i64 0, .func (.func 28) #[] #[], .func (.func 29) #[] #[], .int .i64 2] 59)) nq) := (hx0.alloc _).drewN _
  go_wp2_with fail
  generalize World.drewN _ nq = w1 at hy ⊢
  have hx1 := hy
  clear qa0 qb0 hg0 hX0 hy
  have hg1 := Nat.lt_of_lt_of_le hg hx1.size
  have hX1 := Nat.lt_of_lt_of_le hX hx1.size
  have qa1 := (hx1.cell (p := ⟨X, 1, none⟩) hX).trans P1.out
  have qb1 := (hx1.cell (p := ⟨g, k * 89 + 16, none⟩) hg).trans P16.out
  rw [S16.out] at qb1
  rw [rounds_succ]
  go_wp2_with (first | fail | ((with_reducible refine at_store 59 ?_); refine wpList_store_new2 rfl rfl 59 _ _ _ rfl _ #[.int .i64 0, .func (.func 30) #[] #[], .func (.func 31) #[] #[], .int .i64 0] _ rfl ?_ rfl hi.out rfl rfl ?_; · simp))
  go_quiet (fail)
  have hy : Ext w (World.drewN (w1.alloc (.cells #[.int .i64 0, .func (.func 30) #[] #[], .func (.func 31) #[] #[], .int .i64 0] 59)) nq) := (hx1.alloc _).drewN _
  go_wp2_with fail
  generalize World.drewN _ nq = w2 at hy ⊢
  have hx2 := hy
  clear qa1 qb1 hg1 hX1 hy
  have hg2 := Nat.lt_of_lt_of_le hg hx2.size
  have hX2 := Nat.lt_of_lt_of_le hX hx2.size
  have qa2 := (hx2.cell (p := ⟨X, 1, none⟩) hX).trans P1.out
  have qb2 := (hx2.cell (p := ⟨g, k * 89 + 16, none⟩) hg).trans P16.out
  rw [S16.out] at qb2
  rw [rounds_succ]
  go_wp2_with (first | fail | ((with_reducible refine at_store 59 ?_); refine wpList_store_new2 rfl rfl 59 _ _ _ rfl _ #[.int .i64 2, .func (.func 32) #[] #[], .func (.func 31) #[] #[], .int .i64 0] _ rfl ?_ rfl hi.out rfl rfl ?_; · simp))
  go_quiet (fail)
  have hy : Ext w (World.drewN (w2.alloc (.cells #[.int .i64 2, .func (.func 32) #[] #[], .func (.func 31) #[] #[], .int .i64 0] 59)) nq) := (hx2.alloc _).drewN _
  go_wp2_with fail
  generalize World.drewN _ nq = w3 at hy ⊢
  have hx3 := hy
  clear qa2 qb2 hg2 hX2 hy
  have hg3 := Nat.lt_of_lt_of_le hg hx3.size
  have hX3 := Nat.lt_of_lt_of_le hX hx3.size
  have qa3 := (hx3.cell (p := ⟨X, 1, none⟩) hX).trans P1.out
  have qb3 := (hx3.cell (p := ⟨g, k * 89 + 16, none⟩) hg).trans P16.out
  rw [S16.out] at qb3
  rw [rounds_succ]
  go_wp2_with (first | fail | ((with_reducible refine at_store 59 ?_); refine wpList_store_new2 rfl rfl 59 _ _ _ rfl _ #[.int .i64 2, .func (.func 33) #[] #[], .func (.func 34) #[] #[], .int .i64 1] _ rfl ?_ rfl hi.out rfl rfl ?_; · simp))
  go_quiet (fail)
  have hy : Ext w (World.drewN (w3.alloc (.cells #[.int .i64 2, .func (.func 33) #[] #[], .func (.func 34) #[] #[], .int .i64 1] 59)) nq) := (hx3.alloc _).drewN _
  go_wp2_with fail
  generalize World.drewN _ nq = w4 at hy ⊢
  have hx4 := hy
  clear qa3 qb3 hg3 hX3 hy
  have hg4 := Nat.lt_of_lt_of_le hg hx4.size
  have hX4 := Nat.lt_of_lt_of_le hX hx4.size
  have qa4 := (hx4.cell (p := ⟨X, 1, none⟩) hX).trans P1.out
  have qb4 := (hx4.cell (p := ⟨g, k * 89 + 16, none⟩) hg).trans P16.out
  rw [S16.out] at qb4
  rw [rounds_succ]
  go_wp2_with (first | fail | ((with_reducible refine at_store 59 ?_); refine wpList_store_new2 rfl rfl 59 _ _ _ rfl _ #[.int .i64 1, .func (.func 35) #[] #[], .func (.func 29) #[] #[], .int .i64 2] _ rfl ?_ rfl hi.out rfl rfl ?_; · simp))
  go_quiet ((exact quietL (asb (y := false) (mig_h5 _ g (k * 89) _ _ _ _ (((hx4.alloc _).drewN _).cell (p := ⟨g, k * 89 + 9, none⟩) hg |>.trans P9.out) (((hx4.alloc _).drewN _).cell (p := ⟨g, k * 89 + 2, none⟩) hg |>.trans P2.out) (((hx4.alloc _).drewN _).cell (p := ⟨g, k * 89 + 30, none⟩) hg |>.trans P30.out)) V5.out)))
  have hy : Ext w (World.drewN (w4.alloc (.cells #[.int .i64 1, .func (.func 35) #[] #[], .func (.func 29) #[] #[], .int .i64 2] 59)) nq) := (hx4.alloc _).drewN _
  go_wp2_with fail
  generalize World.drewN _ nq = w5 at hy ⊢
  have hx5 := hy
  clear qa4 qb4 hg4 hX4 hy
  have hg5 := Nat.lt_of_lt_of_le hg hx5.size
  have hX5 := Nat.lt_of_lt_of_le hX hx5.size
  have qa5 := (hx5.cell (p := ⟨X, 1, none⟩) hX).trans P1.out
  have qb5 := (hx5.cell (p := ⟨g, k * 89 + 16, none⟩) hg).trans P16.out
  rw [S16.out] at qb5
  rw [rounds_succ]
  go_wp2_with fail
  go_ret
  exact ⟨rfl, H.out.ext hx5, hx5.mut F⟩

set_option maxHeartbeats 1000000 in
theorem mig_sx (w : World) (F : Nat → Prop) (X g k : Nat) (B : Br) (h : BrG w F X g B) (ho : B.ok) (hk : k < B.np) (hk2 : k < 1000) (s0 : ((0 : Int) == B.gi k 16) = false) (s1 : ((1 : Int) == B.gi k 16) = false) (s2 : ((2 : Int) == B.gi k 16) = false)  :
    Calls Try.prog 17 #[.pointer (some ⟨X, 0, none⟩), .int .i64 k] w (Stepped w F X g (false, B)) := by
  obtain ⟨hX, hg, hne⟩ := h.lt
  obtain ⟨cap, c17, hc1, hc2⟩ := h.cell17 ho
  have P1 := Lib.hid ((h.cellX ho (i := 1) (by omega)).trans (ho.hb 1 rfl))
  have P2 := Lib.hid ((h.cellg (i := k * 89 + 2) (by omega)).trans (ho.gb hk 2 rfl))
  have P9 := Lib.hid ((h.cellg (i := k * 89 + 9) (by omega)).trans (ho.gi hk 9 rfl))
  have P16 := Lib.hid ((h.cellg (i := k * 89 + 16) (by omega)).trans (ho.gi hk 16 rfl))
  have P30 := Lib.hid ((h.cellg (i := k * 89 + 30) (by omega)).trans (ho.gb hk 30 rfl))
  have P37 := Lib.hid ((h.cellg (i := k * 89 + 37) (by omega)).trans (ho.gb hk 37 rfl))
  have P38 := Lib.hid ((h.cellg (i := k * 89 + 38) (by omega)).trans (ho.gb hk 38 rfl))
  have P45 := Lib.hid ((h.cellg (i := k * 89 + 45) (by omega)).trans (ho.gb hk 45 rfl))
  have H := Lib.hid h
  clear h 
  have hi := Lib.hid size_mrow
  have i0 := mig_ix0
  have i1 := mig_ix1
  have i2 := mig_ix2
  have i3 := mig_ix3
  have i4 := mig_ix4
  go_enter Try.func17, Try.ntmps17
  go_wp2_with fail
  refine (mig_rows _).mono ?_
  rintro e w0 ⟨rfl, hx0⟩
  have hg0 := Nat.lt_of_lt_of_le hg hx0.size
  have hX0 := Nat.lt_of_lt_of_le hX hx0.size
  have qa0 := (hx0.cell (p := ⟨X, 1, none⟩) hX).trans P1.out
  have qb0 := (hx0.cell (p := ⟨g, k * 89 + 16, none⟩) hg).trans P16.out
  clear c17
  go_wp2_with fail
  refine wp_loop_rounds 6 ?_
  rw [rounds_succ]
  go_wp2_with (first | fail | ((with_reducible refine at_store 59 ?_); refine wpList_store_new2 rfl rfl 59 _ _ _ rfl _ #[.int .i64 0, .func (.func 28) #[] #[], .func (.func 29) #[] #[], .int .i64 2] _ rfl ?_ rfl hi.out rfl rfl ?_; · simp))
  go_quiet (fail)
  have hy : Ext w (World.drewN (w0.alloc (.cells #[.int .i64 0, .func (.func 28) #[] #[], .func (.func 29) #[] #[], .int .i64 2] 59)) nq) := (hx0.alloc _).drewN _
  go_wp2_with fail
  generalize World.drewN _ nq = w1 at hy ⊢
  have hx1 := hy
  clear qa0 qb0 hg0 hX0 hy
  have hg1 := Nat.lt_of_lt_of_le hg hx1.size
  have hX1 := Nat.lt_of_lt_of_le hX hx1.size
  have qa1 := (hx1.cell (p := ⟨X, 1, none⟩) hX).trans P1.out
  have qb1 := (hx1.cell (p := ⟨g, k * 89 + 16, none⟩) hg).trans P16.out
  rw [rounds_succ]
  go_wp2_with (first | fail | ((with_reducible refine at_store 59 ?_); refine wpList_store_new2 rfl rfl 59 _ _ _ rfl _ #[.int .i64 0, .func (.func 30) #[] #[], .func (.func 31) #[] #[], .int .i64 0] _ rfl ?_ rfl hi.out rfl rfl ?_; · simp))
  go_quiet (fail)
  have hy : Ext w (World.drewN (w1.alloc (.cells #[.int .i64 0, .func (.func 30) #[] #[], .func (.func 31) #[] #[], .int .i64 0] 59)) nq) := (hx1.alloc _).drewN _
  go_wp2_with fail
  generalize World.drewN _ nq = w2 at hy ⊢
  have hx2 := hy
  clear qa1 qb1 hg1 hX1 hy
  have hg2 := Nat.lt_of_lt_of_le hg hx2.size
  have hX2 := Nat.lt_of_lt_of_le hX hx2.size
  have qa2 := (hx2.cell (p := ⟨X, 1, none⟩) hX).trans P1.out
  have qb2 := (hx2.cell (p := ⟨g, k * 89 + 16, none⟩) hg).trans P16.out
  rw [rounds_succ]
  go_wp2_with (first | fail | ((with_reducible refine at_store 59 ?_); refine wpList_store_new2 rfl rfl 59 _ _ _ rfl _ #[.int .i64 2, .func (.func 32) #[] #[], .func (.func 31) #[] #[], .int .i64 0] _ rfl ?_ rfl hi.out rfl rfl ?_; · simp))
  go_quiet (fail)
  have hy : Ext w (World.drewN (w2.alloc (.cells #[.int .i64 2, .func (.func 32) #[] #[], .func (.func 31) #[] #[], .int .i64 0] 59)) nq) := (hx2.alloc _).drewN _
  go_wp2_with fail
  generalize World.drewN _ nq = w3 at hy ⊢
  have hx3 := hy
  clear qa2 qb2 hg2 hX2 hy
  have hg3 := Nat.lt_of_lt_of_le hg hx3.size
  have hX3 := Nat.lt_of_lt_of_le hX hx3.size
  have qa3 := (hx3.cell (p := ⟨X, 1, none⟩) hX).trans P1.out
  have qb3 := (hx3.cell (p := ⟨g, k * 89 + 16, none⟩) hg).trans P16.out
  rw [rounds_succ]
  go_wp2_with (first | fail | ((with_reducible refine at_store 59 ?_); refine wpList_store_new2 rfl rfl 59 _ _ _ rfl _ #[.int .i64 2, .func (.func 33) #[] #[], .func (.func 34) #[] #[], .int .i64 1] _ rfl ?_ rfl hi.out rfl rfl ?_; · simp))
  go_quiet (fail)
  have hy : Ext w (World.drewN (w3.alloc (.cells #[.int .i64 2, .func (.func 33) #[] #[], .func (.func 34) #[] #[], .int .i64 1] 59)) nq) := (hx3.alloc _).drewN _
  go_wp2_with fail
  generalize World.drewN _ nq = w4 at hy ⊢
  have hx4 := hy
  clear qa3 qb3 hg3 hX3 hy
  have hg4 := Nat.lt_of_lt_of_le hg hx4.size
  have hX4 := Nat.lt_of_lt_of_le hX hx4.size
  have qa4 := (hx4.cell (p := ⟨X, 1, none⟩) hX).trans P1.out
  have qb4 := (hx4.cell (p := ⟨g, k * 89 + 16, none⟩) hg).trans P16.out
  rw [rounds_succ]
  go_wp2_with (first | fail | ((with_reducible refine at_store 59 ?_); refine wpList_store_new2 rfl rfl 59 _ _ _ rfl _ #[.int .i64 1, .func (.func 35) #[] #[], .func (.func 29) #[] #[], .int .i64 2] _ rfl ?_ rfl hi.out rfl rfl ?_; · simp))
  go_quiet (fail)
  have hy : Ext w (World.drewN (w4.alloc (.cells #[.int .i64 1, .func (.func 35) #[] #[], .func (.func 29) #[] #[], .int .i64 2] 59)) nq) := (hx4.alloc _).drewN _
  go_wp2_with fail
  generalize World.drewN _ nq = w5 at hy ⊢
  have hx5 := hy
  clear qa4 qb4 hg4 hX4 hy
  have hg5 := Nat.lt_of_lt_of_le hg hx5.size
  have hX5 := Nat.lt_of_lt_of_le hX hx5.size
  have qa5 := (hx5.cell (p := ⟨X, 1, none⟩) hX).trans P1.out
  have qb5 := (hx5.cell (p := ⟨g, k * 89 + 16, none⟩) hg).trans P16.out
  rw [rounds_succ]
  go_wp2_with fail
  go_ret
  exact ⟨rfl, H.out.ext hx5, hx5.mut F⟩

end Go.Proofs.Ytfbgianmcmgekaa
