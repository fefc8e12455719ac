/- The walk of BpduOne. No statement is proved here. -/
import Derived.Test.YtdfaagchlnkpnaaBpI
namespace Go.Proofs.Ytdfaagchlnkpnaa
open Go.RowKit Go.BigFrame Go.WideShapes Go.ChangeShapes Go.Deep
set_option linter.unusedVariables false
set_option linter.unusedSimpArgs false

set_option maxRecDepth 100000 in
set_option maxHeartbeats 2000000 in
theorem cBpduOne_long {w : World} (v1 : Value) (xs : List Int) (hy : IsInts w .u8 v1 xs ∧ ∀ z ∈ xs, (Lit.int .u8 z).wf = true) (hl : 100 < xs.length) : Calls Try.prog 6 #[v1] w fun e w' => e = .returned (.bool true) ∧ Ext w w' := by
  have hx := zs_rg hy.2
  obtain ⟨a1, c1, rfl, hlm, -⟩ := hy.1.form
  have hyi := hy.1
  clear hy
  have hgt : decide (100 < (xs.length : Int)) = true := by simp; omega
  go_enter Try.func6, Try.ntmps6
  go_wp2_with fail
  have hy_w := hyi
  clear hyi
  refine (awake5 _).mono ?_
  rintro e z1 ⟨rfl, hx⟩
  have E_z1 : Ext w z1 := hx
  have hy_z1 : IsInts z1 .u8 (.slice a1 xs.length c1) xs := hy_w.ext hx
  clear hy_w
  clear hx
  go_wp2_with fail
  all_goals
    go_ret
    exact ⟨rfl, E_z1⟩
set_option maxRecDepth 100000 in
set_option maxHeartbeats 2000000 in
theorem cBpduOne_bad {w : World} (v1 : Value) (xs : List Int) (hy : IsInts w .u8 v1 xs ∧ ∀ z ∈ xs, (Lit.int .u8 z).wf = true) (hl : xs.length ≤ 100) (hde : (decF xs).2 ≠ 0) : Calls Try.prog 6 #[v1] w fun e w' => e = .returned (.bool true) ∧ Ext w w' := by
  have heq := eq_mz
  have hz := zero_msg
  have hx := zs_rg hy.2
  obtain ⟨a1, c1, rfl, hlm, -⟩ := hy.1.form
  have hyi := hy.1
  clear hy
  have hgt : decide (100 < (xs.length : Int)) = false := by simp; omega
  have hd0 := fun w h => dec_any (.slice a1 xs.length c1) xs w h hx (by omega)
  obtain ⟨dm, hdm⟩ : ∃ d, (decF xs).1 = d := ⟨_, rfl⟩
  rw [hdm] at hd0
  obtain ⟨de, hdd⟩ : ∃ d, (decF xs).2 = d := ⟨_, rfl⟩
  rw [hdd] at hd0
  have hne : (de != 0) = true := by rw [← hdd]; simpa using hde
  have hdz : dm = Mg.zero := by rw [← hdm]; exact dec_err xs hde
  have heqp : ∀ w : World, (binOp .eql 30 (.agg #[.int .i64 dm.kd, .bool dm.ch, .bool dm.ak, .bool dm.pr, .bool dm.ag, .bool dm.ln, .bool dm.fw, .int .i64 dm.ro, .int .u64 dm.r, .int .u32 dm.c, .int .u64 dm.b, .int .u16 dm.p, .int .u16 dm.x, .int .i64 dm.a, .int .i64 dm.m, .int .i64 dm.h, .int .i64 dm.d]) (.agg MZ)).run Try.prog w = .ok (.bool true) w := fun w => by rw [hdz]; exact eq_mz w
  clear hdz hdd hde hdm
  have HD := Lib.hid hd0
  clear hd0
  go_enter Try.func6, Try.ntmps6
  go_wp2_with fail
  have hy_w := hyi
  clear hyi
  refine (awake5 _).mono ?_
  rintro e z1 ⟨rfl, hx⟩
  have E_z1 : Ext w z1 := hx
  have hy_z1 : IsInts z1 .u8 (.slice a1 xs.length c1) xs := hy_w.ext hx
  clear hy_w
  clear hx
  go_wp2_with fail
  refine (HD.out _ hy_z1).mono ?_
  rintro e z2 ⟨rfl, hx⟩
  have E_z2 : Ext w z2 := E_z1.trans hx
  have hy_z2 : IsInts z2 .u8 (.slice a1 xs.length c1) xs := hy_z1.ext hx
  clear hy_z1 E_z1
  clear hx
  clear hy_z2
  go_wp2_with (first
    | fail
    | ((with_reducible refine at_alloc 30 ?_); refine al_zero rfl 30 rfl MZ zero_msg ?_
       intro X0 z3 hq hs hx
       have E_z3 : Ext w z3 := E_z2.trans hx
       have hX_z3 : z3.heap[X0]? = some (.cells #[.int .i64 0, .bool false, .bool false, .bool false, .bool false, .bool false, .bool false, .int .i64 0, .int .u64 0, .int .u32 0, .int .u64 0, .int .u16 0, .int .u16 0, .int .i64 0, .int .i64 0, .int .i64 0, .int .i64 0] 30 (0, 0)) := hq
       have hb_X0 : w.heap.size ≤ X0 := by have := E_z2.size; omega
       clear E_z2
       clear hq hs hx)
    | ((with_reducible refine at_store 30 ?_); refine st_at rfl rfl 30 _ _ rfl X0 0 _ #[.int .i64 dm.kd, .bool dm.ch, .bool dm.ak, .bool dm.pr, .bool dm.ag, .bool dm.ln, .bool dm.fw, .int .i64 dm.ro, .int .u64 dm.r, .int .u32 dm.c, .int .u64 dm.b, .int .u16 dm.p, .int .u16 dm.x, .int .i64 dm.a, .int .i64 dm.m, .int .i64 dm.h, .int .i64 dm.d] _ #[.int .i64 dm.kd, .bool dm.ch, .bool dm.ak, .bool dm.pr, .bool dm.ag, .bool dm.ln, .bool dm.fw, .int .i64 dm.ro, .int .u64 dm.r, .int .u32 dm.c, .int .u64 dm.b, .int .u16 dm.p, .int .u16 dm.x, .int .i64 dm.a, .int .i64 dm.m, .int .i64 dm.h, .int .i64 dm.d] _ rfl rfl rfl hX_z3 (by exact (by decide : 0 + 17 ≤ 17)) (by kernel_rfl) rfl rfl ?_
       intro z4 hq hm
       have hX_z4 : z4.heap[X0]? = some (.cells #[.int .i64 dm.kd, .bool dm.ch, .bool dm.ak, .bool dm.pr, .bool dm.ag, .bool dm.ln, .bool dm.fw, .int .i64 dm.ro, .int .u64 dm.r, .int .u32 dm.c, .int .u64 dm.b, .int .u16 dm.p, .int .u16 dm.x, .int .i64 dm.a, .int .i64 dm.m, .int .i64 dm.h, .int .i64 dm.d] 30 (0, 0)) := hq
       have E_z4 : Ext w z4 := Ext.mutE E_z3 hm (fun n hn h => by have h2 : n = X0 := h; omega)
       clear hX_z3 E_z3
       clear hq hm)
    | ((with_reducible refine at_loadG 30 ?_); refine wpList_load_rowG rfl 30 _ rfl X0 rfl 30 #[.int .i64 dm.kd, .bool dm.ch, .bool dm.ak, .bool dm.pr, .bool dm.ag, .bool dm.ln, .bool dm.fw, .int .i64 dm.ro, .int .u64 dm.r, .int .u32 dm.c, .int .u64 dm.b, .int .u16 dm.p, .int .u16 dm.x, .int .i64 dm.a, .int .i64 dm.m, .int .i64 dm.h, .int .i64 dm.d] (0, 0) _ hX_z4 Try.underlying30 rfl (by kernel_rfl) ?_))
  all_goals
    go_ret
    exact ⟨rfl, E_z4⟩
set_option maxRecDepth 100000 in
set_option maxHeartbeats 2000000 in
theorem cBpduOne_big0 {w : World} (v1 : Value) (xs : List Int) (hy : IsInts w .u8 v1 xs ∧ ∀ z ∈ xs, (Lit.int .u8 z).wf = true) (hl : xs.length ≤ 100) (hde : (decF xs).2 = 0) (hc : (decF xs).1.a > 255) : Calls Try.prog 6 #[v1] w fun e w' => e = .returned (.bool true) ∧ Ext w w' := by
  have heq := eq_mz
  have hz := zero_msg
  have hx := zs_rg hy.2
  obtain ⟨a1, c1, rfl, hlm, -⟩ := hy.1.form
  have hyi := hy.1
  clear hy
  have hgt : decide (100 < (xs.length : Int)) = false := by simp; omega
  have hd0 := fun w h => dec_any (.slice a1 xs.length c1) xs w h hx (by omega)
  rw [hde] at hd0
  have h1 := dec_one xs hx hde
  obtain ⟨dm, hdm⟩ : ∃ d, (decF xs).1 = d := ⟨_, rfl⟩
  rw [hdm] at hd0 h1 hc
  have HD := Lib.hid hd0
  clear hd0
  have hk1 : (dm.kd != 1) = true := by simpa using h1.2.2.2.1 (by omega)
  have g0 : decide (255 < dm.a) = true := by simp; omega
  clear h1 hc hdm
  go_enter Try.func6, Try.ntmps6
  go_wp2_with fail
  have hy_w := hyi
  clear hyi
  refine (awake5 _).mono ?_
  rintro e z1 ⟨rfl, hx⟩
  have E_z1 : Ext w z1 := hx
  have hy_z1 : IsInts z1 .u8 (.slice a1 xs.length c1) xs := hy_w.ext hx
  clear hy_w
  clear hx
  go_wp2_with fail
  refine (HD.out _ hy_z1).mono ?_
  rintro e z2 ⟨rfl, hx⟩
  have E_z2 : Ext w z2 := E_z1.trans hx
  have hy_z2 : IsInts z2 .u8 (.slice a1 xs.length c1) xs := hy_z1.ext hx
  clear hy_z1 E_z1
  clear hx
  clear hy_z2
  go_wp2_with (first
    | fail
    | ((with_reducible refine at_alloc 30 ?_); refine al_zero rfl 30 rfl MZ zero_msg ?_
       intro X0 z3 hq hs hx
       have E_z3 : Ext w z3 := E_z2.trans hx
       have hX_z3 : z3.heap[X0]? = some (.cells #[.int .i64 0, .bool false, .bool false, .bool false, .bool false, .bool false, .bool false, .int .i64 0, .int .u64 0, .int .u32 0, .int .u64 0, .int .u16 0, .int .u16 0, .int .i64 0, .int .i64 0, .int .i64 0, .int .i64 0] 30 (0, 0)) := hq
       have hb_X0 : w.heap.size ≤ X0 := by have := E_z2.size; omega
       have rX0_z3 : z3.cell? ⟨X0, 0, none⟩ = some (.int .i64 0) := (cell_of_row _ _ _ _ _ _ hX_z3).trans rfl
       have rX13_z3 : z3.cell? ⟨X0, 13, none⟩ = some (.int .i64 0) := (cell_of_row _ _ _ _ _ _ hX_z3).trans rfl
       have rX14_z3 : z3.cell? ⟨X0, 14, none⟩ = some (.int .i64 0) := (cell_of_row _ _ _ _ _ _ hX_z3).trans rfl
       have rX15_z3 : z3.cell? ⟨X0, 15, none⟩ = some (.int .i64 0) := (cell_of_row _ _ _ _ _ _ hX_z3).trans rfl
       have rX16_z3 : z3.cell? ⟨X0, 16, none⟩ = some (.int .i64 0) := (cell_of_row _ _ _ _ _ _ hX_z3).trans rfl
       clear E_z2
       clear hq hs hx)
    | ((with_reducible refine at_store 30 ?_); refine st_at rfl rfl 30 _ _ rfl X0 0 _ #[.int .i64 dm.kd, .bool dm.ch, .bool dm.ak, .bool dm.pr, .bool dm.ag, .bool dm.ln, .bool dm.fw, .int .i64 dm.ro, .int .u64 dm.r, .int .u32 dm.c, .int .u64 dm.b, .int .u16 dm.p, .int .u16 dm.x, .int .i64 dm.a, .int .i64 dm.m, .int .i64 dm.h, .int .i64 dm.d] _ #[.int .i64 dm.kd, .bool dm.ch, .bool dm.ak, .bool dm.pr, .bool dm.ag, .bool dm.ln, .bool dm.fw, .int .i64 dm.ro, .int .u64 dm.r, .int .u32 dm.c, .int .u64 dm.b, .int .u16 dm.p, .int .u16 dm.x, .int .i64 dm.a, .int .i64 dm.m, .int .i64 dm.h, .int .i64 dm.d] _ rfl rfl rfl hX_z3 (by exact (by decide : 0 + 17 ≤ 17)) (by kernel_rfl) rfl rfl ?_
       intro z4 hq hm
       have hX_z4 : z4.heap[X0]? = some (.cells #[.int .i64 dm.kd, .bool dm.ch, .bool dm.ak, .bool dm.pr, .bool dm.ag, .bool dm.ln, .bool dm.fw, .int .i64 dm.ro, .int .u64 dm.r, .int .u32 dm.c, .int .u64 dm.b, .int .u16 dm.p, .int .u16 dm.x, .int .i64 dm.a, .int .i64 dm.m, .int .i64 dm.h, .int .i64 dm.d] 30 (0, 0)) := hq
       have E_z4 : Ext w z4 := Ext.mutE E_z3 hm (fun n hn h => by have h2 : n = X0 := h; omega)
       have rX0_z4 : z4.cell? ⟨X0, 0, none⟩ = some (.int .i64 dm.kd) := (cell_of_row _ _ _ _ _ _ hX_z4).trans rfl
       have rX13_z4 : z4.cell? ⟨X0, 13, none⟩ = some (.int .i64 dm.a) := (cell_of_row _ _ _ _ _ _ hX_z4).trans rfl
       have rX14_z4 : z4.cell? ⟨X0, 14, none⟩ = some (.int .i64 dm.m) := (cell_of_row _ _ _ _ _ _ hX_z4).trans rfl
       have rX15_z4 : z4.cell? ⟨X0, 15, none⟩ = some (.int .i64 dm.h) := (cell_of_row _ _ _ _ _ _ hX_z4).trans rfl
       have rX16_z4 : z4.cell? ⟨X0, 16, none⟩ = some (.int .i64 dm.d) := (cell_of_row _ _ _ _ _ _ hX_z4).trans rfl
       clear hX_z3 E_z3 rX0_z3 rX13_z3 rX14_z3 rX15_z3 rX16_z3
       clear hq hm))
  all_goals
    go_ret
    exact ⟨rfl, E_z4⟩
set_option maxRecDepth 100000 in
set_option maxHeartbeats 2000000 in
theorem cBpduOne_big1 {w : World} (v1 : Value) (xs : List Int) (hy : IsInts w .u8 v1 xs ∧ ∀ z ∈ xs, (Lit.int .u8 z).wf = true) (hl : xs.length ≤ 100) (hde : (decF xs).2 = 0) (hc : (decF xs).1.a ≤ 255 ∧ (decF xs).1.m > 255) : Calls Try.prog 6 #[v1] w fun e w' => e = .returned (.bool true) ∧ Ext w w' := by
  have heq := eq_mz
  have hz := zero_msg
  have hx := zs_rg hy.2
  obtain ⟨a1, c1, rfl, hlm, -⟩ := hy.1.form
  have hyi := hy.1
  clear hy
  have hgt : decide (100 < (xs.length : Int)) = false := by simp; omega
  have hd0 := fun w h => dec_any (.slice a1 xs.length c1) xs w h hx (by omega)
  rw [hde] at hd0
  have h1 := dec_one xs hx hde
  obtain ⟨dm, hdm⟩ : ∃ d, (decF xs).1 = d := ⟨_, rfl⟩
  rw [hdm] at hd0 h1 hc
  have HD := Lib.hid hd0
  clear hd0
  have hk1 : (dm.kd != 1) = true := by simpa using h1.2.2.2.1 (by omega)
  have g0 : decide (255 < dm.a) = false := by simp; omega
  have g1 : decide (255 < dm.m) = true := by simp; omega
  clear h1 hc hdm
  go_enter Try.func6, Try.ntmps6
  go_wp2_with fail
  have hy_w := hyi
  clear hyi
  refine (awake5 _).mono ?_
  rintro e z1 ⟨rfl, hx⟩
  have E_z1 : Ext w z1 := hx
  have hy_z1 : IsInts z1 .u8 (.slice a1 xs.length c1) xs := hy_w.ext hx
  clear hy_w
  clear hx
  go_wp2_with fail
  refine (HD.out _ hy_z1).mono ?_
  rintro e z2 ⟨rfl, hx⟩
  have E_z2 : Ext w z2 := E_z1.trans hx
  have hy_z2 : IsInts z2 .u8 (.slice a1 xs.length c1) xs := hy_z1.ext hx
  clear hy_z1 E_z1
  clear hx
  clear hy_z2
  go_wp2_with (first
    | fail
    | ((with_reducible refine at_alloc 30 ?_); refine al_zero rfl 30 rfl MZ zero_msg ?_
       intro X0 z3 hq hs hx
       have E_z3 : Ext w z3 := E_z2.trans hx
       have hX_z3 : z3.heap[X0]? = some (.cells #[.int .i64 0, .bool false, .bool false, .bool false, .bool false, .bool false, .bool false, .int .i64 0, .int .u64 0, .int .u32 0, .int .u64 0, .int .u16 0, .int .u16 0, .int .i64 0, .int .i64 0, .int .i64 0, .int .i64 0] 30 (0, 0)) := hq
       have hb_X0 : w.heap.size ≤ X0 := by have := E_z2.size; omega
       have rX0_z3 : z3.cell? ⟨X0, 0, none⟩ = some (.int .i64 0) := (cell_of_row _ _ _ _ _ _ hX_z3).trans rfl
       have rX13_z3 : z3.cell? ⟨X0, 13, none⟩ = some (.int .i64 0) := (cell_of_row _ _ _ _ _ _ hX_z3).trans rfl
       have rX14_z3 : z3.cell? ⟨X0, 14, none⟩ = some (.int .i64 0) := (cell_of_row _ _ _ _ _ _ hX_z3).trans rfl
       have rX15_z3 : z3.cell? ⟨X0, 15, none⟩ = some (.int .i64 0) := (cell_of_row _ _ _ _ _ _ hX_z3).trans rfl
       have rX16_z3 : z3.cell? ⟨X0, 16, none⟩ = some (.int .i64 0) := (cell_of_row _ _ _ _ _ _ hX_z3).trans rfl
       clear E_z2
       clear hq hs hx)
    | ((with_reducible refine at_store 30 ?_); refine st_at rfl rfl 30 _ _ rfl X0 0 _ #[.int .i64 dm.kd, .bool dm.ch, .bool dm.ak, .bool dm.pr, .bool dm.ag, .bool dm.ln, .bool dm.fw, .int .i64 dm.ro, .int .u64 dm.r, .int .u32 dm.c, .int .u64 dm.b, .int .u16 dm.p, .int .u16 dm.x, .int .i64 dm.a, .int .i64 dm.m, .int .i64 dm.h, .int .i64 dm.d] _ #[.int .i64 dm.kd, .bool dm.ch, .bool dm.ak, .bool dm.pr, .bool dm.ag, .bool dm.ln, .bool dm.fw, .int .i64 dm.ro, .int .u64 dm.r, .int .u32 dm.c, .int .u64 dm.b, .int .u16 dm.p, .int .u16 dm.x, .int .i64 dm.a, .int .i64 dm.m, .int .i64 dm.h, .int .i64 dm.d] _ rfl rfl rfl hX_z3 (by exact (by decide : 0 + 17 ≤ 17)) (by kernel_rfl) rfl rfl ?_
       intro z4 hq hm
       have hX_z4 : z4.heap[X0]? = some (.cells #[.int .i64 dm.kd, .bool dm.ch, .bool dm.ak, .bool dm.pr, .bool dm.ag, .bool dm.ln, .bool dm.fw, .int .i64 dm.ro, .int .u64 dm.r, .int .u32 dm.c, .int .u64 dm.b, .int .u16 dm.p, .int .u16 dm.x, .int .i64 dm.a, .int .i64 dm.m, .int .i64 dm.h, .int .i64 dm.d] 30 (0, 0)) := hq
       have E_z4 : Ext w z4 := Ext.mutE E_z3 hm (fun n hn h => by have h2 : n = X0 := h; omega)
       have rX0_z4 : z4.cell? ⟨X0, 0, none⟩ = some (.int .i64 dm.kd) := (cell_of_row _ _ _ _ _ _ hX_z4).trans rfl
       have rX13_z4 : z4.cell? ⟨X0, 13, none⟩ = some (.int .i64 dm.a) := (cell_of_row _ _ _ _ _ _ hX_z4).trans rfl
       have rX14_z4 : z4.cell? ⟨X0, 14, none⟩ = some (.int .i64 dm.m) := (cell_of_row _ _ _ _ _ _ hX_z4).trans rfl
       have rX15_z4 : z4.cell? ⟨X0, 15, none⟩ = some (.int .i64 dm.h) := (cell_of_row _ _ _ _ _ _ hX_z4).trans rfl
       have rX16_z4 : z4.cell? ⟨X0, 16, none⟩ = some (.int .i64 dm.d) := (cell_of_row _ _ _ _ _ _ hX_z4).trans rfl
       clear hX_z3 E_z3 rX0_z3 rX13_z3 rX14_z3 rX15_z3 rX16_z3
       clear hq hm))
  all_goals
    go_ret
    exact ⟨rfl, E_z4⟩
set_option maxRecDepth 100000 in
set_option maxHeartbeats 2000000 in
theorem cBpduOne_big2 {w : World} (v1 : Value) (xs : List Int) (hy : IsInts w .u8 v1 xs ∧ ∀ z ∈ xs, (Lit.int .u8 z).wf = true) (hl : xs.length ≤ 100) (hde : (decF xs).2 = 0) (hc : (decF xs).1.a ≤ 255 ∧ (decF xs).1.m ≤ 255 ∧ (decF xs).1.h > 255) : Calls Try.prog 6 #[v1] w fun e w' => e = .returned (.bool true) ∧ Ext w w' := by
  have heq := eq_mz
  have hz := zero_msg
  have hx := zs_rg hy.2
  obtain ⟨a1, c1, rfl, hlm, -⟩ := hy.1.form
  have hyi := hy.1
  clear hy
  have hgt : decide (100 < (xs.length : Int)) = false := by simp; omega
  have hd0 := fun w h => dec_any (.slice a1 xs.length c1) xs w h hx (by omega)
  rw [hde] at hd0
  have h1 := dec_one xs hx hde
  obtain ⟨dm, hdm⟩ : ∃ d, (decF xs).1 = d := ⟨_, rfl⟩
  rw [hdm] at hd0 h1 hc
  have HD := Lib.hid hd0
  clear hd0
  have hk1 : (dm.kd != 1) = true := by simpa using h1.2.2.2.1 (by omega)
  have g0 : decide (255 < dm.a) = false := by simp; omega
  have g1 : decide (255 < dm.m) = false := by simp; omega
  have g2 : decide (255 < dm.h) = true := by simp; omega
  clear h1 hc hdm
  go_enter Try.func6, Try.ntmps6
  go_wp2_with fail
  have hy_w := hyi
  clear hyi
  refine (awake5 _).mono ?_
  rintro e z1 ⟨rfl, hx⟩
  have E_z1 : Ext w z1 := hx
  have hy_z1 : IsInts z1 .u8 (.slice a1 xs.length c1) xs := hy_w.ext hx
  clear hy_w
  clear hx
  go_wp2_with fail
  refine (HD.out _ hy_z1).mono ?_
  rintro e z2 ⟨rfl, hx⟩
  have E_z2 : Ext w z2 := E_z1.trans hx
  have hy_z2 : IsInts z2 .u8 (.slice a1 xs.length c1) xs := hy_z1.ext hx
  clear hy_z1 E_z1
  clear hx
  clear hy_z2
  go_wp2_with (first
    | fail
    | ((with_reducible refine at_alloc 30 ?_); refine al_zero rfl 30 rfl MZ zero_msg ?_
       intro X0 z3 hq hs hx
       have E_z3 : Ext w z3 := E_z2.trans hx
       have hX_z3 : z3.heap[X0]? = some (.cells #[.int .i64 0, .bool false, .bool false, .bool false, .bool false, .bool false, .bool false, .int .i64 0, .int .u64 0, .int .u32 0, .int .u64 0, .int .u16 0, .int .u16 0, .int .i64 0, .int .i64 0, .int .i64 0, .int .i64 0] 30 (0, 0)) := hq
       have hb_X0 : w.heap.size ≤ X0 := by have := E_z2.size; omega
       have rX0_z3 : z3.cell? ⟨X0, 0, none⟩ = some (.int .i64 0) := (cell_of_row _ _ _ _ _ _ hX_z3).trans rfl
       have rX13_z3 : z3.cell? ⟨X0, 13, none⟩ = some (.int .i64 0) := (cell_of_row _ _ _ _ _ _ hX_z3).trans rfl
       have rX14_z3 : z3.cell? ⟨X0, 14, none⟩ = some (.int .i64 0) := (cell_of_row _ _ _ _ _ _ hX_z3).trans rfl
       have rX15_z3 : z3.cell? ⟨X0, 15, none⟩ = some (.int .i64 0) := (cell_of_row _ _ _ _ _ _ hX_z3).trans rfl
       have rX16_z3 : z3.cell? ⟨X0, 16, none⟩ = some (.int .i64 0) := (cell_of_row _ _ _ _ _ _ hX_z3).trans rfl
       clear E_z2
       clear hq hs hx)
    | ((with_reducible refine at_store 30 ?_); refine st_at rfl rfl 30 _ _ rfl X0 0 _ #[.int .i64 dm.kd, .bool dm.ch, .bool dm.ak, .bool dm.pr, .bool dm.ag, .bool dm.ln, .bool dm.fw, .int .i64 dm.ro, .int .u64 dm.r, .int .u32 dm.c, .int .u64 dm.b, .int .u16 dm.p, .int .u16 dm.x, .int .i64 dm.a, .int .i64 dm.m, .int .i64 dm.h, .int .i64 dm.d] _ #[.int .i64 dm.kd, .bool dm.ch, .bool dm.ak, .bool dm.pr, .bool dm.ag, .bool dm.ln, .bool dm.fw, .int .i64 dm.ro, .int .u64 dm.r, .int .u32 dm.c, .int .u64 dm.b, .int .u16 dm.p, .int .u16 dm.x, .int .i64 dm.a, .int .i64 dm.m, .int .i64 dm.h, .int .i64 dm.d] _ rfl rfl rfl hX_z3 (by exact (by decide : 0 + 17 ≤ 17)) (by kernel_rfl) rfl rfl ?_
       intro z4 hq hm
       have hX_z4 : z4.heap[X0]? = some (.cells #[.int .i64 dm.kd, .bool dm.ch, .bool dm.ak, .bool dm.pr, .bool dm.ag, .bool dm.ln, .bool dm.fw, .int .i64 dm.ro, .int .u64 dm.r, .int .u32 dm.c, .int .u64 dm.b, .int .u16 dm.p, .int .u16 dm.x, .int .i64 dm.a, .int .i64 dm.m, .int .i64 dm.h, .int .i64 dm.d] 30 (0, 0)) := hq
       have E_z4 : Ext w z4 := Ext.mutE E_z3 hm (fun n hn h => by have h2 : n = X0 := h; omega)
       have rX0_z4 : z4.cell? ⟨X0, 0, none⟩ = some (.int .i64 dm.kd) := (cell_of_row _ _ _ _ _ _ hX_z4).trans rfl
       have rX13_z4 : z4.cell? ⟨X0, 13, none⟩ = some (.int .i64 dm.a) := (cell_of_row _ _ _ _ _ _ hX_z4).trans rfl
       have rX14_z4 : z4.cell? ⟨X0, 14, none⟩ = some (.int .i64 dm.m) := (cell_of_row _ _ _ _ _ _ hX_z4).trans rfl
       have rX15_z4 : z4.cell? ⟨X0, 15, none⟩ = some (.int .i64 dm.h) := (cell_of_row _ _ _ _ _ _ hX_z4).trans rfl
       have rX16_z4 : z4.cell? ⟨X0, 16, none⟩ = some (.int .i64 dm.d) := (cell_of_row _ _ _ _ _ _ hX_z4).trans rfl
       clear hX_z3 E_z3 rX0_z3 rX13_z3 rX14_z3 rX15_z3 rX16_z3
       clear hq hm))
  all_goals
    go_ret
    exact ⟨rfl, E_z4⟩
set_option maxRecDepth 100000 in
set_option maxHeartbeats 2000000 in
theorem cBpduOne_big3 {w : World} (v1 : Value) (xs : List Int) (hy : IsInts w .u8 v1 xs ∧ ∀ z ∈ xs, (Lit.int .u8 z).wf = true) (hl : xs.length ≤ 100) (hde : (decF xs).2 = 0) (hc : (decF xs).1.a ≤ 255 ∧ (decF xs).1.m ≤ 255 ∧ (decF xs).1.h ≤ 255 ∧ (decF xs).1.d > 255) : Calls Try.prog 6 #[v1] w fun e w' => e = .returned (.bool true) ∧ Ext w w' := by
  have heq := eq_mz
  have hz := zero_msg
  have hx := zs_rg hy.2
  obtain ⟨a1, c1, rfl, hlm, -⟩ := hy.1.form
  have hyi := hy.1
  clear hy
  have hgt : decide (100 < (xs.length : Int)) = false := by simp; omega
  have hd0 := fun w h => dec_any (.slice a1 xs.length c1) xs w h hx (by omega)
  rw [hde] at hd0
  have h1 := dec_one xs hx hde
  obtain ⟨dm, hdm⟩ : ∃ d, (decF xs).1 = d := ⟨_, rfl⟩
  rw [hdm] at hd0 h1 hc
  have HD := Lib.hid hd0
  clear hd0
  have hk1 : (dm.kd != 1) = true := by simpa using h1.2.2.2.1 (by omega)
  have g0 : decide (255 < dm.a) = false := by simp; omega
  have g1 : decide (255 < dm.m) = false := by simp; omega
  have g2 : decide (255 < dm.h) = false := by simp; omega
  have g3 : decide (255 < dm.d) = true := by simp; omega
  clear h1 hc hdm
  go_enter Try.func6, Try.ntmps6
  go_wp2_with fail
  have hy_w := hyi
  clear hyi
  refine (awake5 _).mono ?_
  rintro e z1 ⟨rfl, hx⟩
  have E_z1 : Ext w z1 := hx
  have hy_z1 : IsInts z1 .u8 (.slice a1 xs.length c1) xs := hy_w.ext hx
  clear hy_w
  clear hx
  go_wp2_with fail
  refine (HD.out _ hy_z1).mono ?_
  rintro e z2 ⟨rfl, hx⟩
  have E_z2 : Ext w z2 := E_z1.trans hx
  have hy_z2 : IsInts z2 .u8 (.slice a1 xs.length c1) xs := hy_z1.ext hx
  clear hy_z1 E_z1
  clear hx
  clear hy_z2
  go_wp2_with (first
    | fail
    | ((with_reducible refine at_alloc 30 ?_); refine al_zero rfl 30 rfl MZ zero_msg ?_
       intro X0 z3 hq hs hx
       have E_z3 : Ext w z3 := E_z2.trans hx
       have hX_z3 : z3.heap[X0]? = some (.cells #[.int .i64 0, .bool false, .bool false, .bool false, .bool false, .bool false, .bool false, .int .i64 0, .int .u64 0, .int .u32 0, .int .u64 0, .int .u16 0, .int .u16 0, .int .i64 0, .int .i64 0, .int .i64 0, .int .i64 0] 30 (0, 0)) := hq
       have hb_X0 : w.heap.size ≤ X0 := by have := E_z2.size; omega
       have rX0_z3 : z3.cell? ⟨X0, 0, none⟩ = some (.int .i64 0) := (cell_of_row _ _ _ _ _ _ hX_z3).trans rfl
       have rX13_z3 : z3.cell? ⟨X0, 13, none⟩ = some (.int .i64 0) := (cell_of_row _ _ _ _ _ _ hX_z3).trans rfl
       have rX14_z3 : z3.cell? ⟨X0, 14, none⟩ = some (.int .i64 0) := (cell_of_row _ _ _ _ _ _ hX_z3).trans rfl
       have rX15_z3 : z3.cell? ⟨X0, 15, none⟩ = some (.int .i64 0) := (cell_of_row _ _ _ _ _ _ hX_z3).trans rfl
       have rX16_z3 : z3.cell? ⟨X0, 16, none⟩ = some (.int .i64 0) := (cell_of_row _ _ _ _ _ _ hX_z3).trans rfl
       clear E_z2
       clear hq hs hx)
    | ((with_reducible refine at_store 30 ?_); refine st_at rfl rfl 30 _ _ rfl X0 0 _ #[.int .i64 dm.kd, .bool dm.ch, .bool dm.ak, .bool dm.pr, .bool dm.ag, .bool dm.ln, .bool dm.fw, .int .i64 dm.ro, .int .u64 dm.r, .int .u32 dm.c, .int .u64 dm.b, .int .u16 dm.p, .int .u16 dm.x, .int .i64 dm.a, .int .i64 dm.m, .int .i64 dm.h, .int .i64 dm.d] _ #[.int .i64 dm.kd, .bool dm.ch, .bool dm.ak, .bool dm.pr, .bool dm.ag, .bool dm.ln, .bool dm.fw, .int .i64 dm.ro, .int .u64 dm.r, .int .u32 dm.c, .int .u64 dm.b, .int .u16 dm.p, .int .u16 dm.x, .int .i64 dm.a, .int .i64 dm.m, .int .i64 dm.h, .int .i64 dm.d] _ rfl rfl rfl hX_z3 (by exact (by decide : 0 + 17 ≤ 17)) (by kernel_rfl) rfl rfl ?_
       intro z4 hq hm
       have hX_z4 : z4.heap[X0]? = some (.cells #[.int .i64 dm.kd, .bool dm.ch, .bool dm.ak, .bool dm.pr, .bool dm.ag, .bool dm.ln, .bool dm.fw, .int .i64 dm.ro, .int .u64 dm.r, .int .u32 dm.c, .int .u64 dm.b, .int .u16 dm.p, .int .u16 dm.x, .int .i64 dm.a, .int .i64 dm.m, .int .i64 dm.h, .int .i64 dm.d] 30 (0, 0)) := hq
       have E_z4 : Ext w z4 := Ext.mutE E_z3 hm (fun n hn h => by have h2 : n = X0 := h; omega)
       have rX0_z4 : z4.cell? ⟨X0, 0, none⟩ = some (.int .i64 dm.kd) := (cell_of_row _ _ _ _ _ _ hX_z4).trans rfl
       have rX13_z4 : z4.cell? ⟨X0, 13, none⟩ = some (.int .i64 dm.a) := (cell_of_row _ _ _ _ _ _ hX_z4).trans rfl
       have rX14_z4 : z4.cell? ⟨X0, 14, none⟩ = some (.int .i64 dm.m) := (cell_of_row _ _ _ _ _ _ hX_z4).trans rfl
       have rX15_z4 : z4.cell? ⟨X0, 15, none⟩ = some (.int .i64 dm.h) := (cell_of_row _ _ _ _ _ _ hX_z4).trans rfl
       have rX16_z4 : z4.cell? ⟨X0, 16, none⟩ = some (.int .i64 dm.d) := (cell_of_row _ _ _ _ _ _ hX_z4).trans rfl
       clear hX_z3 E_z3 rX0_z3 rX13_z3 rX14_z3 rX15_z3 rX16_z3
       clear hq hm))
  all_goals
    go_ret
    exact ⟨rfl, E_z4⟩
set_option maxRecDepth 100000 in
set_option maxHeartbeats 2000000 in
theorem cBpduOne_old {w : World} (v1 : Value) (xs : List Int) (hy : IsInts w .u8 v1 xs ∧ ∀ z ∈ xs, (Lit.int .u8 z).wf = true) (hl : xs.length ≤ 100) (hde : (decF xs).2 = 0) (hc : (decF xs).1.a ≤ 255 ∧ (decF xs).1.m ≤ 255 ∧ (decF xs).1.h ≤ 255 ∧ (decF xs).1.d ≤ 255) (ho : (decF xs).1.kd = 0 ∧ ¬ toV (decF xs).1.a < toV (decF xs).1.m) : Calls Try.prog 6 #[v1] w fun e w' => e = .returned (.bool true) ∧ Ext w w' := by
  have heq := eq_mz
  have hz := zero_msg
  have hx := zs_rg hy.2
  obtain ⟨a1, c1, rfl, hlm, -⟩ := hy.1.form
  have hyi := hy.1
  clear hy
  have hgt : decide (100 < (xs.length : Int)) = false := by simp; omega
  have hd0 := fun w h => dec_any (.slice a1 xs.length c1) xs w h hx (by omega)
  rw [hde] at hd0
  have h1 := dec_one xs hx hde
  obtain ⟨dm, hdm⟩ : ∃ d, (decF xs).1 = d := ⟨_, rfl⟩
  rw [hdm] at hd0 h1 hc
  have HD := Lib.hid hd0
  clear hd0
  rw [hdm] at ho
  have hok := h1.1
  have hde2 := dec_enc dm hok h1.2.1 []
  rw [List.append_nil] at hde2
  have hpl := h1.2.2.2.2 hc.1 hc.2.1 hc.2.2.1 hc.2.2.2
  have g0 : decide (255 < dm.a) = false := by simp; omega
  have g1 : decide (255 < dm.m) = false := by simp; omega
  have g2 : decide (255 < dm.h) = false := by simp; omega
  have g3 : decide (255 < dm.d) = false := by simp; omega
  rw [if_pos ho] at hde2
  have hk0 : (dm.kd == 0) = true := by simpa using ho.1
  have hge : decide (dm.m ≤ dm.a) = true := by
    have e1 := toV_small dm.a (by have := h1.2.2.1; omega) hc.1
    have e2 := toV_small dm.m (by have := h1.2.2.1; omega) hc.2.1
    have := ho.2
    simp; omega
  have HD2 := Lib.hid (show ∀ (v : Value) (w : World), IsInts w .u8 v (encL dm) → Calls Try.prog 21 #[v] w fun e w' => e = .returned (.tuple #[.agg #[.int .i64 0, .bool false, .bool false, .bool false, .bool false, .bool false, .bool false, .int .i64 0, .int .u64 0, .int .u32 0, .int .u64 0, .int .u16 0, .int .u16 0, .int .i64 0, .int .i64 0, .int .i64 0, .int .i64 0], .int .i64 5]) ∧ Ext w w' from fun v w h => by
    have := dec_any v _ w h (enc_bytes _) (by have := encL_le dm; omega)
    rw [hde2] at this
    exact this)
  have HE := Lib.hid (show ∀ w : World, Calls Try.prog 17 #[.agg #[.int .i64 dm.kd, .bool dm.ch, .bool dm.ak, .bool dm.pr, .bool dm.ag, .bool dm.ln, .bool dm.fw, .int .i64 dm.ro, .int .u64 dm.r, .int .u32 dm.c, .int .u64 dm.b, .int .u16 dm.p, .int .u16 dm.x, .int .i64 dm.a, .int .i64 dm.m, .int .i64 dm.h, .int .i64 dm.d]] w (Owned w (encL dm)) from fun w => enc_any dm hok w)
  clear h1 hc hdm hok hde2 hpl ho
  go_enter Try.func6, Try.ntmps6
  go_wp2_with fail
  have hy_w := hyi
  clear hyi
  refine (awake5 _).mono ?_
  rintro e z1 ⟨rfl, hx⟩
  have E_z1 : Ext w z1 := hx
  have hy_z1 : IsInts z1 .u8 (.slice a1 xs.length c1) xs := hy_w.ext hx
  clear hy_w
  clear hx
  go_wp2_with fail
  refine (HD.out _ hy_z1).mono ?_
  rintro e z2 ⟨rfl, hx⟩
  have E_z2 : Ext w z2 := E_z1.trans hx
  have hy_z2 : IsInts z2 .u8 (.slice a1 xs.length c1) xs := hy_z1.ext hx
  clear hy_z1 E_z1
  clear hx
  clear hy_z2
  go_wp2_with (first
    | fail
    | ((with_reducible refine at_alloc 30 ?_); refine al_zero rfl 30 rfl MZ zero_msg ?_
       intro X0 z3 hq hs hx
       have E_z3 : Ext w z3 := E_z2.trans hx
       have hX_z3 : z3.heap[X0]? = some (.cells #[.int .i64 0, .bool false, .bool false, .bool false, .bool false, .bool false, .bool false, .int .i64 0, .int .u64 0, .int .u32 0, .int .u64 0, .int .u16 0, .int .u16 0, .int .i64 0, .int .i64 0, .int .i64 0, .int .i64 0] 30 (0, 0)) := hq
       have hb_X0 : w.heap.size ≤ X0 := by have := E_z2.size; omega
       have rX0_z3 : z3.cell? ⟨X0, 0, none⟩ = some (.int .i64 0) := (cell_of_row _ _ _ _ _ _ hX_z3).trans rfl
       have rX13_z3 : z3.cell? ⟨X0, 13, none⟩ = some (.int .i64 0) := (cell_of_row _ _ _ _ _ _ hX_z3).trans rfl
       have rX14_z3 : z3.cell? ⟨X0, 14, none⟩ = some (.int .i64 0) := (cell_of_row _ _ _ _ _ _ hX_z3).trans rfl
       have rX15_z3 : z3.cell? ⟨X0, 15, none⟩ = some (.int .i64 0) := (cell_of_row _ _ _ _ _ _ hX_z3).trans rfl
       have rX16_z3 : z3.cell? ⟨X0, 16, none⟩ = some (.int .i64 0) := (cell_of_row _ _ _ _ _ _ hX_z3).trans rfl
       clear E_z2
       clear hq hs hx)
    | ((with_reducible refine at_store 30 ?_); refine st_at rfl rfl 30 _ _ rfl X0 0 _ #[.int .i64 dm.kd, .bool dm.ch, .bool dm.ak, .bool dm.pr, .bool dm.ag, .bool dm.ln, .bool dm.fw, .int .i64 dm.ro, .int .u64 dm.r, .int .u32 dm.c, .int .u64 dm.b, .int .u16 dm.p, .int .u16 dm.x, .int .i64 dm.a, .int .i64 dm.m, .int .i64 dm.h, .int .i64 dm.d] _ #[.int .i64 dm.kd, .bool dm.ch, .bool dm.ak, .bool dm.pr, .bool dm.ag, .bool dm.ln, .bool dm.fw, .int .i64 dm.ro, .int .u64 dm.r, .int .u32 dm.c, .int .u64 dm.b, .int .u16 dm.p, .int .u16 dm.x, .int .i64 dm.a, .int .i64 dm.m, .int .i64 dm.h, .int .i64 dm.d] _ rfl rfl rfl hX_z3 (by exact (by decide : 0 + 17 ≤ 17)) (by kernel_rfl) rfl rfl ?_
       intro z4 hq hm
       have hX_z4 : z4.heap[X0]? = some (.cells #[.int .i64 dm.kd, .bool dm.ch, .bool dm.ak, .bool dm.pr, .bool dm.ag, .bool dm.ln, .bool dm.fw, .int .i64 dm.ro, .int .u64 dm.r, .int .u32 dm.c, .int .u64 dm.b, .int .u16 dm.p, .int .u16 dm.x, .int .i64 dm.a, .int .i64 dm.m, .int .i64 dm.h, .int .i64 dm.d] 30 (0, 0)) := hq
       have E_z4 : Ext w z4 := Ext.mutE E_z3 hm (fun n hn h => by have h2 : n = X0 := h; omega)
       have rX0_z4 : z4.cell? ⟨X0, 0, none⟩ = some (.int .i64 dm.kd) := (cell_of_row _ _ _ _ _ _ hX_z4).trans rfl
       have rX13_z4 : z4.cell? ⟨X0, 13, none⟩ = some (.int .i64 dm.a) := (cell_of_row _ _ _ _ _ _ hX_z4).trans rfl
       have rX14_z4 : z4.cell? ⟨X0, 14, none⟩ = some (.int .i64 dm.m) := (cell_of_row _ _ _ _ _ _ hX_z4).trans rfl
       have rX15_z4 : z4.cell? ⟨X0, 15, none⟩ = some (.int .i64 dm.h) := (cell_of_row _ _ _ _ _ _ hX_z4).trans rfl
       have rX16_z4 : z4.cell? ⟨X0, 16, none⟩ = some (.int .i64 dm.d) := (cell_of_row _ _ _ _ _ _ hX_z4).trans rfl
       clear hX_z3 E_z3 rX0_z3 rX13_z3 rX14_z3 rX15_z3 rX16_z3
       clear hq hm)
    | ((with_reducible refine at_load 30 ?_); refine wpList_load_row rfl 30 _ rfl X0 rfl 30 #[.int .i64 dm.kd, .bool dm.ch, .bool dm.ak, .bool dm.pr, .bool dm.ag, .bool dm.ln, .bool dm.fw, .int .i64 dm.ro, .int .u64 dm.r, .int .u32 dm.c, .int .u64 dm.b, .int .u16 dm.p, .int .u16 dm.x, .int .i64 dm.a, .int .i64 dm.m, .int .i64 dm.h, .int .i64 dm.d] (0, 0) _ hX_z4 Try.underlying30 rfl (by kernel_rfl) ?_))
  refine (HE.out _).mono ?_
  rintro e z5 ⟨vb, rfl, hown, hx⟩
  have E_z5 : Ext w z5 := E_z4.trans hx
  have hX_z5 : z5.heap[X0]? = some (.cells #[.int .i64 dm.kd, .bool dm.ch, .bool dm.ak, .bool dm.pr, .bool dm.ag, .bool dm.ln, .bool dm.fw, .int .i64 dm.ro, .int .u64 dm.r, .int .u32 dm.c, .int .u64 dm.b, .int .u16 dm.p, .int .u16 dm.x, .int .i64 dm.a, .int .i64 dm.m, .int .i64 dm.h, .int .i64 dm.d] 30 (0, 0)) := (hx.block _ (heap_lt hX_z4)).trans hX_z4
  have hib := isBytes_own hown
  clear hown
  have rX0_z5 : z5.cell? ⟨X0, 0, none⟩ = some (.int .i64 dm.kd) := (cell_of_row _ _ _ _ _ _ hX_z5).trans rfl
  have rX13_z5 : z5.cell? ⟨X0, 13, none⟩ = some (.int .i64 dm.a) := (cell_of_row _ _ _ _ _ _ hX_z5).trans rfl
  have rX14_z5 : z5.cell? ⟨X0, 14, none⟩ = some (.int .i64 dm.m) := (cell_of_row _ _ _ _ _ _ hX_z5).trans rfl
  have rX15_z5 : z5.cell? ⟨X0, 15, none⟩ = some (.int .i64 dm.h) := (cell_of_row _ _ _ _ _ _ hX_z5).trans rfl
  have rX16_z5 : z5.cell? ⟨X0, 16, none⟩ = some (.int .i64 dm.d) := (cell_of_row _ _ _ _ _ _ hX_z5).trans rfl
  clear hX_z4 E_z4 rX0_z4 rX13_z4 rX14_z4 rX15_z4 rX16_z4
  clear hx
  go_wp2_with fail
  refine (HD2.out vb _ hib).mono ?_
  rintro e z6 ⟨rfl, hx⟩
  have E_z6 : Ext w z6 := E_z5.trans hx
  have hX_z6 : z6.heap[X0]? = some (.cells #[.int .i64 dm.kd, .bool dm.ch, .bool dm.ak, .bool dm.pr, .bool dm.ag, .bool dm.ln, .bool dm.fw, .int .i64 dm.ro, .int .u64 dm.r, .int .u32 dm.c, .int .u64 dm.b, .int .u16 dm.p, .int .u16 dm.x, .int .i64 dm.a, .int .i64 dm.m, .int .i64 dm.h, .int .i64 dm.d] 30 (0, 0)) := (hx.block _ (heap_lt hX_z5)).trans hX_z5
  have rX0_z6 : z6.cell? ⟨X0, 0, none⟩ = some (.int .i64 dm.kd) := (cell_of_row _ _ _ _ _ _ hX_z6).trans rfl
  have rX13_z6 : z6.cell? ⟨X0, 13, none⟩ = some (.int .i64 dm.a) := (cell_of_row _ _ _ _ _ _ hX_z6).trans rfl
  have rX14_z6 : z6.cell? ⟨X0, 14, none⟩ = some (.int .i64 dm.m) := (cell_of_row _ _ _ _ _ _ hX_z6).trans rfl
  have rX15_z6 : z6.cell? ⟨X0, 15, none⟩ = some (.int .i64 dm.h) := (cell_of_row _ _ _ _ _ _ hX_z6).trans rfl
  have rX16_z6 : z6.cell? ⟨X0, 16, none⟩ = some (.int .i64 dm.d) := (cell_of_row _ _ _ _ _ _ hX_z6).trans rfl
  clear hX_z5 E_z5 rX0_z5 rX13_z5 rX14_z5 rX15_z5 rX16_z5
  clear hx
  clear hib
  go_wp2_with (first
    | fail
    | ((with_reducible refine at_alloc 30 ?_); refine al_zero rfl 30 rfl MZ zero_msg ?_
       intro Y0 z7 hq hs hx
       have E_z7 : Ext w z7 := E_z6.trans hx
       have hX_z7 : z7.heap[X0]? = some (.cells #[.int .i64 dm.kd, .bool dm.ch, .bool dm.ak, .bool dm.pr, .bool dm.ag, .bool dm.ln, .bool dm.fw, .int .i64 dm.ro, .int .u64 dm.r, .int .u32 dm.c, .int .u64 dm.b, .int .u16 dm.p, .int .u16 dm.x, .int .i64 dm.a, .int .i64 dm.m, .int .i64 dm.h, .int .i64 dm.d] 30 (0, 0)) := (hx.block _ (heap_lt hX_z6)).trans hX_z6
       have hY_z7 : z7.heap[Y0]? = some (.cells #[.int .i64 0, .bool false, .bool false, .bool false, .bool false, .bool false, .bool false, .int .i64 0, .int .u64 0, .int .u32 0, .int .u64 0, .int .u16 0, .int .u16 0, .int .i64 0, .int .i64 0, .int .i64 0, .int .i64 0] 30 (0, 0)) := hq
       have hb_Y0 : w.heap.size ≤ Y0 := by have := E_z6.size; omega
       have hn_X0Y0 : X0 ≠ Y0 := by have := heap_lt hX_z6; omega
       have rX0_z7 : z7.cell? ⟨X0, 0, none⟩ = some (.int .i64 dm.kd) := (cell_of_row _ _ _ _ _ _ hX_z7).trans rfl
       have rX13_z7 : z7.cell? ⟨X0, 13, none⟩ = some (.int .i64 dm.a) := (cell_of_row _ _ _ _ _ _ hX_z7).trans rfl
       have rX14_z7 : z7.cell? ⟨X0, 14, none⟩ = some (.int .i64 dm.m) := (cell_of_row _ _ _ _ _ _ hX_z7).trans rfl
       have rX15_z7 : z7.cell? ⟨X0, 15, none⟩ = some (.int .i64 dm.h) := (cell_of_row _ _ _ _ _ _ hX_z7).trans rfl
       have rX16_z7 : z7.cell? ⟨X0, 16, none⟩ = some (.int .i64 dm.d) := (cell_of_row _ _ _ _ _ _ hX_z7).trans rfl
       clear hX_z6 E_z6 rX0_z6 rX13_z6 rX14_z6 rX15_z6 rX16_z6
       clear hq hs hx)
    | ((with_reducible refine at_store 30 ?_); refine st_at rfl rfl 30 _ _ rfl Y0 0 _ #[.int .i64 0, .bool false, .bool false, .bool false, .bool false, .bool false, .bool false, .int .i64 0, .int .u64 0, .int .u32 0, .int .u64 0, .int .u16 0, .int .u16 0, .int .i64 0, .int .i64 0, .int .i64 0, .int .i64 0] _ #[.int .i64 0, .bool false, .bool false, .bool false, .bool false, .bool false, .bool false, .int .i64 0, .int .u64 0, .int .u32 0, .int .u64 0, .int .u16 0, .int .u16 0, .int .i64 0, .int .i64 0, .int .i64 0, .int .i64 0] _ rfl rfl rfl hY_z7 (by exact (by decide : 0 + 17 ≤ 17)) (by kernel_rfl) rfl rfl ?_
       intro z8 hq hm
       have hY_z8 : z8.heap[Y0]? = some (.cells #[.int .i64 0, .bool false, .bool false, .bool false, .bool false, .bool false, .bool false, .int .i64 0, .int .u64 0, .int .u32 0, .int .u64 0, .int .u16 0, .int .u16 0, .int .i64 0, .int .i64 0, .int .i64 0, .int .i64 0] 30 (0, 0)) := hq
       have hX_z8 : z8.heap[X0]? = some (.cells #[.int .i64 dm.kd, .bool dm.ch, .bool dm.ak, .bool dm.pr, .bool dm.ag, .bool dm.ln, .bool dm.fw, .int .i64 dm.ro, .int .u64 dm.r, .int .u32 dm.c, .int .u64 dm.b, .int .u16 dm.p, .int .u16 dm.x, .int .i64 dm.a, .int .i64 dm.m, .int .i64 dm.h, .int .i64 dm.d] 30 (0, 0)) := (hm.heap (heap_lt hX_z7) (show ¬ X0 = Y0 by omega)).trans hX_z7
       have E_z8 : Ext w z8 := Ext.mutE E_z7 hm (fun n hn h => by have h2 : n = Y0 := h; omega)
       have rX0_z8 : z8.cell? ⟨X0, 0, none⟩ = some (.int .i64 dm.kd) := (cell_of_row _ _ _ _ _ _ hX_z8).trans rfl
       have rX13_z8 : z8.cell? ⟨X0, 13, none⟩ = some (.int .i64 dm.a) := (cell_of_row _ _ _ _ _ _ hX_z8).trans rfl
       have rX14_z8 : z8.cell? ⟨X0, 14, none⟩ = some (.int .i64 dm.m) := (cell_of_row _ _ _ _ _ _ hX_z8).trans rfl
       have rX15_z8 : z8.cell? ⟨X0, 15, none⟩ = some (.int .i64 dm.h) := (cell_of_row _ _ _ _ _ _ hX_z8).trans rfl
       have rX16_z8 : z8.cell? ⟨X0, 16, none⟩ = some (.int .i64 dm.d) := (cell_of_row _ _ _ _ _ _ hX_z8).trans rfl
       clear hX_z7 hY_z7 E_z7 rX0_z7 rX13_z7 rX14_z7 rX15_z7 rX16_z7
       clear hq hm))
  all_goals
    go_ret
    exact ⟨rfl, E_z8⟩
set_option maxRecDepth 100000 in
set_option maxHeartbeats 2000000 in
theorem cBpduOne_good {w : World} (v1 : Value) (xs : List Int) (hy : IsInts w .u8 v1 xs ∧ ∀ z ∈ xs, (Lit.int .u8 z).wf = true) (hl : xs.length ≤ 100) (hde : (decF xs).2 = 0) (hc : (decF xs).1.a ≤ 255 ∧ (decF xs).1.m ≤ 255 ∧ (decF xs).1.h ≤ 255 ∧ (decF xs).1.d ≤ 255) (ho : ¬ ((decF xs).1.kd = 0 ∧ ¬ toV (decF xs).1.a < toV (decF xs).1.m)) : Calls Try.prog 6 #[v1] w fun e w' => e = .returned (.bool true) ∧ Ext w w' := by
  have heq := eq_mz
  have hz := zero_msg
  have hx := zs_rg hy.2
  obtain ⟨a1, c1, rfl, hlm, -⟩ := hy.1.form
  have hyi := hy.1
  clear hy
  have hgt : decide (100 < (xs.length : Int)) = false := by simp; omega
  have hd0 := fun w h => dec_any (.slice a1 xs.length c1) xs w h hx (by omega)
  rw [hde] at hd0
  have h1 := dec_one xs hx hde
  obtain ⟨dm, hdm⟩ : ∃ d, (decF xs).1 = d := ⟨_, rfl⟩
  rw [hdm] at hd0 h1 hc
  have HD := Lib.hid hd0
  clear hd0
  rw [hdm] at ho
  have hok := h1.1
  have hde2 := dec_enc dm hok h1.2.1 []
  rw [List.append_nil] at hde2
  have hpl := h1.2.2.2.2 hc.1 hc.2.1 hc.2.2.1 hc.2.2.2
  have g0 : decide (255 < dm.a) = false := by simp; omega
  have g1 : decide (255 < dm.m) = false := by simp; omega
  have g2 : decide (255 < dm.h) = false := by simp; omega
  have g3 : decide (255 < dm.d) = false := by simp; omega
  rw [if_neg ho, hpl] at hde2
  have heqp := eq_msg dm hok
  have HP := Lib.hid (show ∀ w : World, Calls Try.prog 19 #[.agg #[.int .i64 dm.kd, .bool dm.ch, .bool dm.ak, .bool dm.pr, .bool dm.ag, .bool dm.ln, .bool dm.fw, .int .i64 dm.ro, .int .u64 dm.r, .int .u32 dm.c, .int .u64 dm.b, .int .u16 dm.p, .int .u16 dm.x, .int .i64 dm.a, .int .i64 dm.m, .int .i64 dm.h, .int .i64 dm.d]] w fun e w' => e = .returned (.agg #[.int .i64 dm.kd, .bool dm.ch, .bool dm.ak, .bool dm.pr, .bool dm.ag, .bool dm.ln, .bool dm.fw, .int .i64 dm.ro, .int .u64 dm.r, .int .u32 dm.c, .int .u64 dm.b, .int .u16 dm.p, .int .u16 dm.x, .int .i64 dm.a, .int .i64 dm.m, .int .i64 dm.h, .int .i64 dm.d]) ∧ Ext w w' from fun w => by
    have := plain_any dm hok w
    rw [hpl] at this
    exact this)
  have HD2 := Lib.hid (show ∀ (v : Value) (w : World), IsInts w .u8 v (encL dm) → Calls Try.prog 21 #[v] w fun e w' => e = .returned (.tuple #[.agg #[.int .i64 dm.kd, .bool dm.ch, .bool dm.ak, .bool dm.pr, .bool dm.ag, .bool dm.ln, .bool dm.fw, .int .i64 dm.ro, .int .u64 dm.r, .int .u32 dm.c, .int .u64 dm.b, .int .u16 dm.p, .int .u16 dm.x, .int .i64 dm.a, .int .i64 dm.m, .int .i64 dm.h, .int .i64 dm.d], .int .i64 0]) ∧ Ext w w' from fun v w h => by
    have := dec_any v _ w h (enc_bytes _) (by have := encL_le dm; omega)
    rw [hde2] at this
    exact this)
  have HE := Lib.hid (show ∀ w : World, Calls Try.prog 17 #[.agg #[.int .i64 dm.kd, .bool dm.ch, .bool dm.ak, .bool dm.pr, .bool dm.ag, .bool dm.ln, .bool dm.fw, .int .i64 dm.ro, .int .u64 dm.r, .int .u32 dm.c, .int .u64 dm.b, .int .u16 dm.p, .int .u16 dm.x, .int .i64 dm.a, .int .i64 dm.m, .int .i64 dm.h, .int .i64 dm.d]] w (Owned w (encL dm)) from fun w => enc_any dm hok w)
  clear h1 hc hdm hok hde2 hpl ho
  go_enter Try.func6, Try.ntmps6
  go_wp2_with fail
  have hy_w := hyi
  clear hyi
  refine (awake5 _).mono ?_
  rintro e z1 ⟨rfl, hx⟩
  have E_z1 : Ext w z1 := hx
  have hy_z1 : IsInts z1 .u8 (.slice a1 xs.length c1) xs := hy_w.ext hx
  clear hy_w
  clear hx
  go_wp2_with fail
  refine (HD.out _ hy_z1).mono ?_
  rintro e z2 ⟨rfl, hx⟩
  have E_z2 : Ext w z2 := E_z1.trans hx
  have hy_z2 : IsInts z2 .u8 (.slice a1 xs.length c1) xs := hy_z1.ext hx
  clear hy_z1 E_z1
  clear hx
  clear hy_z2
  go_wp2_with (first
    | fail
    | ((with_reducible refine at_alloc 30 ?_); refine al_zero rfl 30 rfl MZ zero_msg ?_
       intro X0 z3 hq hs hx
       have E_z3 : Ext w z3 := E_z2.trans hx
       have hX_z3 : z3.heap[X0]? = some (.cells #[.int .i64 0, .bool false, .bool false, .bool false, .bool false, .bool false, .bool false, .int .i64 0, .int .u64 0, .int .u32 0, .int .u64 0, .int .u16 0, .int .u16 0, .int .i64 0, .int .i64 0, .int .i64 0, .int .i64 0] 30 (0, 0)) := hq
       have hb_X0 : w.heap.size ≤ X0 := by have := E_z2.size; omega
       have rX0_z3 : z3.cell? ⟨X0, 0, none⟩ = some (.int .i64 0) := (cell_of_row _ _ _ _ _ _ hX_z3).trans rfl
       have rX13_z3 : z3.cell? ⟨X0, 13, none⟩ = some (.int .i64 0) := (cell_of_row _ _ _ _ _ _ hX_z3).trans rfl
       have rX14_z3 : z3.cell? ⟨X0, 14, none⟩ = some (.int .i64 0) := (cell_of_row _ _ _ _ _ _ hX_z3).trans rfl
       have rX15_z3 : z3.cell? ⟨X0, 15, none⟩ = some (.int .i64 0) := (cell_of_row _ _ _ _ _ _ hX_z3).trans rfl
       have rX16_z3 : z3.cell? ⟨X0, 16, none⟩ = some (.int .i64 0) := (cell_of_row _ _ _ _ _ _ hX_z3).trans rfl
       clear E_z2
       clear hq hs hx)
    | ((with_reducible refine at_store 30 ?_); refine st_at rfl rfl 30 _ _ rfl X0 0 _ #[.int .i64 dm.kd, .bool dm.ch, .bool dm.ak, .bool dm.pr, .bool dm.ag, .bool dm.ln, .bool dm.fw, .int .i64 dm.ro, .int .u64 dm.r, .int .u32 dm.c, .int .u64 dm.b, .int .u16 dm.p, .int .u16 dm.x, .int .i64 dm.a, .int .i64 dm.m, .int .i64 dm.h, .int .i64 dm.d] _ #[.int .i64 dm.kd, .bool dm.ch, .bool dm.ak, .bool dm.pr, .bool dm.ag, .bool dm.ln, .bool dm.fw, .int .i64 dm.ro, .int .u64 dm.r, .int .u32 dm.c, .int .u64 dm.b, .int .u16 dm.p, .int .u16 dm.x, .int .i64 dm.a, .int .i64 dm.m, .int .i64 dm.h, .int .i64 dm.d] _ rfl rfl rfl hX_z3 (by exact (by decide : 0 + 17 ≤ 17)) (by kernel_rfl) rfl rfl ?_
       intro z4 hq hm
       have hX_z4 : z4.heap[X0]? = some (.cells #[.int .i64 dm.kd, .bool dm.ch, .bool dm.ak, .bool dm.pr, .bool dm.ag, .bool dm.ln, .bool dm.fw, .int .i64 dm.ro, .int .u64 dm.r, .int .u32 dm.c, .int .u64 dm.b, .int .u16 dm.p, .int .u16 dm.x, .int .i64 dm.a, .int .i64 dm.m, .int .i64 dm.h, .int .i64 dm.d] 30 (0, 0)) := hq
       have E_z4 : Ext w z4 := Ext.mutE E_z3 hm (fun n hn h => by have h2 : n = X0 := h; omega)
       have rX0_z4 : z4.cell? ⟨X0, 0, none⟩ = some (.int .i64 dm.kd) := (cell_of_row _ _ _ _ _ _ hX_z4).trans rfl
       have rX13_z4 : z4.cell? ⟨X0, 13, none⟩ = some (.int .i64 dm.a) := (cell_of_row _ _ _ _ _ _ hX_z4).trans rfl
       have rX14_z4 : z4.cell? ⟨X0, 14, none⟩ = some (.int .i64 dm.m) := (cell_of_row _ _ _ _ _ _ hX_z4).trans rfl
       have rX15_z4 : z4.cell? ⟨X0, 15, none⟩ = some (.int .i64 dm.h) := (cell_of_row _ _ _ _ _ _ hX_z4).trans rfl
       have rX16_z4 : z4.cell? ⟨X0, 16, none⟩ = some (.int .i64 dm.d) := (cell_of_row _ _ _ _ _ _ hX_z4).trans rfl
       clear hX_z3 E_z3 rX0_z3 rX13_z3 rX14_z3 rX15_z3 rX16_z3
       clear hq hm)
    | ((with_reducible refine at_load 30 ?_); refine wpList_load_row rfl 30 _ rfl X0 rfl 30 #[.int .i64 dm.kd, .bool dm.ch, .bool dm.ak, .bool dm.pr, .bool dm.ag, .bool dm.ln, .bool dm.fw, .int .i64 dm.ro, .int .u64 dm.r, .int .u32 dm.c, .int .u64 dm.b, .int .u16 dm.p, .int .u16 dm.x, .int .i64 dm.a, .int .i64 dm.m, .int .i64 dm.h, .int .i64 dm.d] (0, 0) _ hX_z4 Try.underlying30 rfl (by kernel_rfl) ?_))
  refine (HE.out _).mono ?_
  rintro e z5 ⟨vb, rfl, hown, hx⟩
  have E_z5 : Ext w z5 := E_z4.trans hx
  have hX_z5 : z5.heap[X0]? = some (.cells #[.int .i64 dm.kd, .bool dm.ch, .bool dm.ak, .bool dm.pr, .bool dm.ag, .bool dm.ln, .bool dm.fw, .int .i64 dm.ro, .int .u64 dm.r, .int .u32 dm.c, .int .u64 dm.b, .int .u16 dm.p, .int .u16 dm.x, .int .i64 dm.a, .int .i64 dm.m, .int .i64 dm.h, .int .i64 dm.d] 30 (0, 0)) := (hx.block _ (heap_lt hX_z4)).trans hX_z4
  have hib := isBytes_own hown
  clear hown
  have rX0_z5 : z5.cell? ⟨X0, 0, none⟩ = some (.int .i64 dm.kd) := (cell_of_row _ _ _ _ _ _ hX_z5).trans rfl
  have rX13_z5 : z5.cell? ⟨X0, 13, none⟩ = some (.int .i64 dm.a) := (cell_of_row _ _ _ _ _ _ hX_z5).trans rfl
  have rX14_z5 : z5.cell? ⟨X0, 14, none⟩ = some (.int .i64 dm.m) := (cell_of_row _ _ _ _ _ _ hX_z5).trans rfl
  have rX15_z5 : z5.cell? ⟨X0, 15, none⟩ = some (.int .i64 dm.h) := (cell_of_row _ _ _ _ _ _ hX_z5).trans rfl
  have rX16_z5 : z5.cell? ⟨X0, 16, none⟩ = some (.int .i64 dm.d) := (cell_of_row _ _ _ _ _ _ hX_z5).trans rfl
  clear hX_z4 E_z4 rX0_z4 rX13_z4 rX14_z4 rX15_z4 rX16_z4
  clear hx
  go_wp2_with fail
  refine (HD2.out vb _ hib).mono ?_
  rintro e z6 ⟨rfl, hx⟩
  have E_z6 : Ext w z6 := E_z5.trans hx
  have hX_z6 : z6.heap[X0]? = some (.cells #[.int .i64 dm.kd, .bool dm.ch, .bool dm.ak, .bool dm.pr, .bool dm.ag, .bool dm.ln, .bool dm.fw, .int .i64 dm.ro, .int .u64 dm.r, .int .u32 dm.c, .int .u64 dm.b, .int .u16 dm.p, .int .u16 dm.x, .int .i64 dm.a, .int .i64 dm.m, .int .i64 dm.h, .int .i64 dm.d] 30 (0, 0)) := (hx.block _ (heap_lt hX_z5)).trans hX_z5
  have rX0_z6 : z6.cell? ⟨X0, 0, none⟩ = some (.int .i64 dm.kd) := (cell_of_row _ _ _ _ _ _ hX_z6).trans rfl
  have rX13_z6 : z6.cell? ⟨X0, 13, none⟩ = some (.int .i64 dm.a) := (cell_of_row _ _ _ _ _ _ hX_z6).trans rfl
  have rX14_z6 : z6.cell? ⟨X0, 14, none⟩ = some (.int .i64 dm.m) := (cell_of_row _ _ _ _ _ _ hX_z6).trans rfl
  have rX15_z6 : z6.cell? ⟨X0, 15, none⟩ = some (.int .i64 dm.h) := (cell_of_row _ _ _ _ _ _ hX_z6).trans rfl
  have rX16_z6 : z6.cell? ⟨X0, 16, none⟩ = some (.int .i64 dm.d) := (cell_of_row _ _ _ _ _ _ hX_z6).trans rfl
  clear hX_z5 E_z5 rX0_z5 rX13_z5 rX14_z5 rX15_z5 rX16_z5
  clear hx
  clear hib
  go_wp2_with (first
    | fail
    | ((with_reducible refine at_alloc 30 ?_); refine al_zero rfl 30 rfl MZ zero_msg ?_
       intro Y0 z7 hq hs hx
       have E_z7 : Ext w z7 := E_z6.trans hx
       have hX_z7 : z7.heap[X0]? = some (.cells #[.int .i64 dm.kd, .bool dm.ch, .bool dm.ak, .bool dm.pr, .bool dm.ag, .bool dm.ln, .bool dm.fw, .int .i64 dm.ro, .int .u64 dm.r, .int .u32 dm.c, .int .u64 dm.b, .int .u16 dm.p, .int .u16 dm.x, .int .i64 dm.a, .int .i64 dm.m, .int .i64 dm.h, .int .i64 dm.d] 30 (0, 0)) := (hx.block _ (heap_lt hX_z6)).trans hX_z6
       have hY_z7 : z7.heap[Y0]? = some (.cells #[.int .i64 0, .bool false, .bool false, .bool false, .bool false, .bool false, .bool false, .int .i64 0, .int .u64 0, .int .u32 0, .int .u64 0, .int .u16 0, .int .u16 0, .int .i64 0, .int .i64 0, .int .i64 0, .int .i64 0] 30 (0, 0)) := hq
       have hb_Y0 : w.heap.size ≤ Y0 := by have := E_z6.size; omega
       have hn_X0Y0 : X0 ≠ Y0 := by have := heap_lt hX_z6; omega
       have rX0_z7 : z7.cell? ⟨X0, 0, none⟩ = some (.int .i64 dm.kd) := (cell_of_row _ _ _ _ _ _ hX_z7).trans rfl
       have rX13_z7 : z7.cell? ⟨X0, 13, none⟩ = some (.int .i64 dm.a) := (cell_of_row _ _ _ _ _ _ hX_z7).trans rfl
       have rX14_z7 : z7.cell? ⟨X0, 14, none⟩ = some (.int .i64 dm.m) := (cell_of_row _ _ _ _ _ _ hX_z7).trans rfl
       have rX15_z7 : z7.cell? ⟨X0, 15, none⟩ = some (.int .i64 dm.h) := (cell_of_row _ _ _ _ _ _ hX_z7).trans rfl
       have rX16_z7 : z7.cell? ⟨X0, 16, none⟩ = some (.int .i64 dm.d) := (cell_of_row _ _ _ _ _ _ hX_z7).trans rfl
       clear hX_z6 E_z6 rX0_z6 rX13_z6 rX14_z6 rX15_z6 rX16_z6
       clear hq hs hx)
    | ((with_reducible refine at_store 30 ?_); refine st_at rfl rfl 30 _ _ rfl Y0 0 _ #[.int .i64 dm.kd, .bool dm.ch, .bool dm.ak, .bool dm.pr, .bool dm.ag, .bool dm.ln, .bool dm.fw, .int .i64 dm.ro, .int .u64 dm.r, .int .u32 dm.c, .int .u64 dm.b, .int .u16 dm.p, .int .u16 dm.x, .int .i64 dm.a, .int .i64 dm.m, .int .i64 dm.h, .int .i64 dm.d] _ #[.int .i64 dm.kd, .bool dm.ch, .bool dm.ak, .bool dm.pr, .bool dm.ag, .bool dm.ln, .bool dm.fw, .int .i64 dm.ro, .int .u64 dm.r, .int .u32 dm.c, .int .u64 dm.b, .int .u16 dm.p, .int .u16 dm.x, .int .i64 dm.a, .int .i64 dm.m, .int .i64 dm.h, .int .i64 dm.d] _ rfl rfl rfl hY_z7 (by exact (by decide : 0 + 17 ≤ 17)) (by kernel_rfl) rfl rfl ?_
       intro z8 hq hm
       have hY_z8 : z8.heap[Y0]? = some (.cells #[.int .i64 dm.kd, .bool dm.ch, .bool dm.ak, .bool dm.pr, .bool dm.ag, .bool dm.ln, .bool dm.fw, .int .i64 dm.ro, .int .u64 dm.r, .int .u32 dm.c, .int .u64 dm.b, .int .u16 dm.p, .int .u16 dm.x, .int .i64 dm.a, .int .i64 dm.m, .int .i64 dm.h, .int .i64 dm.d] 30 (0, 0)) := hq
       have hX_z8 : z8.heap[X0]? = some (.cells #[.int .i64 dm.kd, .bool dm.ch, .bool dm.ak, .bool dm.pr, .bool dm.ag, .bool dm.ln, .bool dm.fw, .int .i64 dm.ro, .int .u64 dm.r, .int .u32 dm.c, .int .u64 dm.b, .int .u16 dm.p, .int .u16 dm.x, .int .i64 dm.a, .int .i64 dm.m, .int .i64 dm.h, .int .i64 dm.d] 30 (0, 0)) := (hm.heap (heap_lt hX_z7) (show ¬ X0 = Y0 by omega)).trans hX_z7
       have E_z8 : Ext w z8 := Ext.mutE E_z7 hm (fun n hn h => by have h2 : n = Y0 := h; omega)
       have rX0_z8 : z8.cell? ⟨X0, 0, none⟩ = some (.int .i64 dm.kd) := (cell_of_row _ _ _ _ _ _ hX_z8).trans rfl
       have rX13_z8 : z8.cell? ⟨X0, 13, none⟩ = some (.int .i64 dm.a) := (cell_of_row _ _ _ _ _ _ hX_z8).trans rfl
       have rX14_z8 : z8.cell? ⟨X0, 14, none⟩ = some (.int .i64 dm.m) := (cell_of_row _ _ _ _ _ _ hX_z8).trans rfl
       have rX15_z8 : z8.cell? ⟨X0, 15, none⟩ = some (.int .i64 dm.h) := (cell_of_row _ _ _ _ _ _ hX_z8).trans rfl
       have rX16_z8 : z8.cell? ⟨X0, 16, none⟩ = some (.int .i64 dm.d) := (cell_of_row _ _ _ _ _ _ hX_z8).trans rfl
       clear hX_z7 hY_z7 E_z7 rX0_z7 rX13_z7 rX14_z7 rX15_z7 rX16_z7
       clear hq hm))
  refine beginL (S := fun W' => Ext z8 W') (by kernel_rfl) ?_
  intro wd hqx
  have hq0 : Ext z8 wd := hqx
  refine takeL (i := 0) (v := (.bool true)) rfl (by kernel_rfl) (by kernel_rfl) (by kernel_rfl) (fun _ _ _ h => h) (Or.inl ⟨rfl, fun _ _ => rfl⟩) hq0 ?_
  simp only [Act.put, List.setIfInBounds_toArray, List.set_cons_zero, List.set_cons_succ]
  refine takeL (i := 1) (v := (.bool true)) rfl (by kernel_rfl) (by kernel_rfl) (by kernel_rfl) (fun _ _ _ h => h) (Or.inl ⟨rfl, fun _ _ => rfl⟩) hq0 ?_
  simp only [Act.put, List.setIfInBounds_toArray, List.set_cons_zero, List.set_cons_succ]
  refine takeL (i := 2) (v := _) rfl (by kernel_rfl) (by kernel_rfl) (by kernel_rfl) (fun _ _ _ h => h) (yieldsIf_rowS rfl 30 _ rfl X0 rfl #[.int .i64 dm.kd, .bool dm.ch, .bool dm.ak, .bool dm.pr, .bool dm.ag, .bool dm.ln, .bool dm.fw, .int .i64 dm.ro, .int .u64 dm.r, .int .u32 dm.c, .int .u64 dm.b, .int .u16 dm.p, .int .u16 dm.x, .int .i64 dm.a, .int .i64 dm.m, .int .i64 dm.h, .int .i64 dm.d] _ _ (fun W' hW' => ((hW'.block _ (heap_lt hX_z8)).trans hX_z8)) Try.underlying30 rfl (by kernel_rfl)) hq0 ?_
  simp only [Act.put, List.setIfInBounds_toArray, List.set_cons_zero, List.set_cons_succ]
  refine takeL (i := 4) (v := _) rfl (by kernel_rfl) (by kernel_rfl) (by kernel_rfl) (fun _ _ _ h => h) (yieldsIf_rowS rfl 30 _ rfl X0 rfl #[.int .i64 dm.kd, .bool dm.ch, .bool dm.ak, .bool dm.pr, .bool dm.ag, .bool dm.ln, .bool dm.fw, .int .i64 dm.ro, .int .u64 dm.r, .int .u32 dm.c, .int .u64 dm.b, .int .u16 dm.p, .int .u16 dm.x, .int .i64 dm.a, .int .i64 dm.m, .int .i64 dm.h, .int .i64 dm.d] _ _ (fun W' hW' => ((hW'.block _ (heap_lt hX_z8)).trans hX_z8)) Try.underlying30 rfl (by kernel_rfl)) hq0 ?_
  simp only [Act.put, List.setIfInBounds_toArray, List.set_cons_zero, List.set_cons_succ]
  refine runG (i := 3) rfl (by rfl) (by kernel_rfl) (fun K hK => ?_)
  go_simp
  refine (HP.out _).mono ?_
  rintro e wc1 ⟨rfl, hx⟩
  have hq1 := hq0.trans hx
  refine hK.out _ _ hq1 (fun hHeld => ?_)
  try simp only [Act.put, List.setIfInBounds_toArray, List.set_cons_zero, List.set_cons_succ]
  clear hK K hHeld
  refine takeL (i := 5) (v := (.bool true)) rfl (by kernel_rfl) (by kernel_rfl) (by kernel_rfl) (fun _ _ _ h => h) (Or.inl ⟨rfl, fun W' _ => by go_simp⟩) hq1 ?_
  simp only [Act.put, List.setIfInBounds_toArray, List.set_cons_zero, List.set_cons_succ]
  refine takeL (i := 6) (v := (.bool true)) rfl (by kernel_rfl) (by kernel_rfl) (by kernel_rfl) (fun _ _ _ h => h) (Or.inl ⟨rfl, fun _ _ => rfl⟩) hq1 ?_
  simp only [Act.put, List.setIfInBounds_toArray, List.set_cons_zero, List.set_cons_succ]
  refine takeL (i := 7) (v := (.bool true)) rfl (by kernel_rfl) (by kernel_rfl) (by kernel_rfl) (fun _ _ _ h => h) (Or.inl ⟨rfl, fun _ _ => rfl⟩) hq1 ?_
  simp only [Act.put, List.setIfInBounds_toArray, List.set_cons_zero, List.set_cons_succ]
  refine takeL (i := 8) (v := (.int .i64 0)) rfl (by kernel_rfl) (by kernel_rfl) (by kernel_rfl) (fun _ _ _ h => h) (Or.inl ⟨rfl, fun _ _ => rfl⟩) hq1 ?_
  simp only [Act.put, List.setIfInBounds_toArray, List.set_cons_zero, List.set_cons_succ]
  refine takeL (i := 9) (v := (.bool true)) rfl (by kernel_rfl) (by kernel_rfl) (by kernel_rfl) (fun _ _ _ h => h) (Or.inl ⟨rfl, fun W' _ => by go_simp⟩) hq1 ?_
  simp only [Act.put, List.setIfInBounds_toArray, List.set_cons_zero, List.set_cons_succ]
  refine takeL (i := 10) (v := (.bool true)) rfl (by kernel_rfl) (by kernel_rfl) (by kernel_rfl) (fun _ _ _ h => h) (Or.inl ⟨rfl, fun _ _ => rfl⟩) hq1 ?_
  simp only [Act.put, List.setIfInBounds_toArray, List.set_cons_zero, List.set_cons_succ]
  refine takeL (i := 11) (v := (.bool true)) rfl (by kernel_rfl) (by kernel_rfl) (by kernel_rfl) (fun _ _ _ h => h) (Or.inl ⟨rfl, fun _ _ => rfl⟩) hq1 ?_
  simp only [Act.put, List.setIfInBounds_toArray, List.set_cons_zero, List.set_cons_succ]
  refine takeL (i := 12) (v := _) rfl (by kernel_rfl) (by kernel_rfl) (by kernel_rfl) (fun _ _ _ h => h) (yieldsIf_rowS rfl 30 _ rfl Y0 rfl #[.int .i64 dm.kd, .bool dm.ch, .bool dm.ak, .bool dm.pr, .bool dm.ag, .bool dm.ln, .bool dm.fw, .int .i64 dm.ro, .int .u64 dm.r, .int .u32 dm.c, .int .u64 dm.b, .int .u16 dm.p, .int .u16 dm.x, .int .i64 dm.a, .int .i64 dm.m, .int .i64 dm.h, .int .i64 dm.d] _ _ (fun W' hW' => ((hW'.block _ (heap_lt hY_z8)).trans hY_z8)) Try.underlying30 rfl (by kernel_rfl)) hq1 ?_
  simp only [Act.put, List.setIfInBounds_toArray, List.set_cons_zero, List.set_cons_succ]
  refine takeL (i := 13) (v := _) rfl (by kernel_rfl) (by kernel_rfl) (by kernel_rfl) (fun _ _ _ h => h) (yieldsIf_rowS rfl 30 _ rfl X0 rfl #[.int .i64 dm.kd, .bool dm.ch, .bool dm.ak, .bool dm.pr, .bool dm.ag, .bool dm.ln, .bool dm.fw, .int .i64 dm.ro, .int .u64 dm.r, .int .u32 dm.c, .int .u64 dm.b, .int .u16 dm.p, .int .u16 dm.x, .int .i64 dm.a, .int .i64 dm.m, .int .i64 dm.h, .int .i64 dm.d] _ _ (fun W' hW' => ((hW'.block _ (heap_lt hX_z8)).trans hX_z8)) Try.underlying30 rfl (by kernel_rfl)) hq1 ?_
  simp only [Act.put, List.setIfInBounds_toArray, List.set_cons_zero, List.set_cons_succ]
  refine takeL (i := 14) (v := (.bool true)) rfl (by kernel_rfl) (by kernel_rfl) (by kernel_rfl) (fun _ _ _ h => h) (Or.inl ⟨rfl, fun W' _ => by go_simp⟩) hq1 ?_
  simp only [Act.put, List.setIfInBounds_toArray, List.set_cons_zero, List.set_cons_succ]
  refine takeL (i := 15) (v := (.bool true)) rfl (by kernel_rfl) (by kernel_rfl) (by kernel_rfl) (fun _ _ _ h => h) (Or.inl ⟨rfl, fun _ _ => rfl⟩) hq1 ?_
  simp only [Act.put, List.setIfInBounds_toArray, List.set_cons_zero, List.set_cons_succ]
  refine takeL (i := 16) (v := (.bool true)) rfl (by kernel_rfl) (by kernel_rfl) (by kernel_rfl) (fun _ _ _ h => h) (Or.inl ⟨rfl, fun _ _ => rfl⟩) hq1 ?_
  simp only [Act.put, List.setIfInBounds_toArray, List.set_cons_zero, List.set_cons_succ]
  refine wpAnyH_done (by kernel_rfl) ?_ _
  generalize wc1 = z9 at *
  have hX_z9 : z9.heap[X0]? = some (.cells #[.int .i64 dm.kd, .bool dm.ch, .bool dm.ak, .bool dm.pr, .bool dm.ag, .bool dm.ln, .bool dm.fw, .int .i64 dm.ro, .int .u64 dm.r, .int .u32 dm.c, .int .u64 dm.b, .int .u16 dm.p, .int .u16 dm.x, .int .i64 dm.a, .int .i64 dm.m, .int .i64 dm.h, .int .i64 dm.d] 30 (0, 0)) := (hq1.block _ (heap_lt hX_z8)).trans hX_z8
  have hY_z9 : z9.heap[Y0]? = some (.cells #[.int .i64 dm.kd, .bool dm.ch, .bool dm.ak, .bool dm.pr, .bool dm.ag, .bool dm.ln, .bool dm.fw, .int .i64 dm.ro, .int .u64 dm.r, .int .u32 dm.c, .int .u64 dm.b, .int .u16 dm.p, .int .u16 dm.x, .int .i64 dm.a, .int .i64 dm.m, .int .i64 dm.h, .int .i64 dm.d] 30 (0, 0)) := (hq1.block _ (heap_lt hY_z8)).trans hY_z8
  have E_z9 : Ext w z9 := E_z8.trans hq1
  have rX0_z9 : z9.cell? ⟨X0, 0, none⟩ = some (.int .i64 dm.kd) := (cell_of_row _ _ _ _ _ _ hX_z9).trans rfl
  have rX13_z9 : z9.cell? ⟨X0, 13, none⟩ = some (.int .i64 dm.a) := (cell_of_row _ _ _ _ _ _ hX_z9).trans rfl
  have rX14_z9 : z9.cell? ⟨X0, 14, none⟩ = some (.int .i64 dm.m) := (cell_of_row _ _ _ _ _ _ hX_z9).trans rfl
  have rX15_z9 : z9.cell? ⟨X0, 15, none⟩ = some (.int .i64 dm.h) := (cell_of_row _ _ _ _ _ _ hX_z9).trans rfl
  have rX16_z9 : z9.cell? ⟨X0, 16, none⟩ = some (.int .i64 dm.d) := (cell_of_row _ _ _ _ _ _ hX_z9).trans rfl
  clear hX_z8 hY_z8 E_z8 rX0_z8 rX13_z8 rX14_z8 rX15_z8 rX16_z8
  clear hq0 hq1
  go_wp2_with fail
  all_goals
    go_ret
    exact ⟨rfl, E_z9⟩
theorem law_BpduOne {w : World} (v1 : Value) (xs : List Int) (hy : IsInts w .u8 v1 xs ∧ ∀ z ∈ xs, (Lit.int .u8 z).wf = true) : Calls Try.prog 6 #[v1] w fun e w' => e = .returned (.bool true) ∧ Ext w w' := by
  by_cases hl : 100 < xs.length
  · exact cBpduOne_long v1 xs hy hl
  have hl' : xs.length ≤ 100 := by omega
  by_cases hde : (decF xs).2 = 0
  · by_cases h1 : (decF xs).1.a ≤ 255
    · by_cases h2 : (decF xs).1.m ≤ 255
      · by_cases h3 : (decF xs).1.h ≤ 255
        · by_cases h4 : (decF xs).1.d ≤ 255
          · by_cases ho : (decF xs).1.kd = 0 ∧ ¬ toV (decF xs).1.a < toV (decF xs).1.m
            · exact cBpduOne_old v1 xs hy hl' hde ⟨h1, h2, h3, h4⟩ ho
            · exact cBpduOne_good v1 xs hy hl' hde ⟨h1, h2, h3, h4⟩ ho
          · exact cBpduOne_big3 v1 xs hy hl' hde ⟨h1, h2, h3, by omega⟩
        · exact cBpduOne_big2 v1 xs hy hl' hde ⟨h1, h2, by omega⟩
      · exact cBpduOne_big1 v1 xs hy hl' hde ⟨h1, by omega⟩
    · exact cBpduOne_big0 v1 xs hy hl' hde (by omega)
  · exact cBpduOne_bad v1 xs hy hl' hde

end Go.Proofs.Ytdfaagchlnkpnaa
