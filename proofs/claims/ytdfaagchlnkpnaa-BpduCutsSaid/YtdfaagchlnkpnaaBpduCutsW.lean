/- The walk of BpduCuts. No statement is proved here. -/
import Derived.Test.YtdfaagchlnkpnaaBpH
namespace Go.Proofs.Ytdfaagchlnkpnaa
open Go.RowKit Go.BigFrame Go.WideShapes Go.ChangeShapes Go.Deep
set_option linter.unusedVariables false
set_option linter.unusedSimpArgs false

set_option maxRecDepth 100000 in
set_option maxHeartbeats 2000000 in
theorem cBpduCuts_c {w : World} (q : Mg) (hq : q.ok) (at0 : Int) (hat : 0 ≤ at0 ∧ at0 < 256) (hk : q.kd = 0) : Calls Try.prog 5 #[.agg #[.int .i64 q.kd, .bool q.ch, .bool q.ak, .bool q.pr, .bool q.ag, .bool q.ln, .bool q.fw, .int .i64 q.ro, .int .u64 q.r, .int .u32 q.c, .int .u64 q.b, .int .u16 q.p, .int .u16 q.x, .int .i64 q.a, .int .i64 q.m, .int .i64 q.h, .int .i64 q.d], .int .u8 at0] w fun e w' => e = .returned (.bool true) ∧ Ext w w' := by
  have heq := eq_mz
  have hz := zero_msg
  have HQ := Lib.hid hq
  clear hq
  have hl : (encL q).length = 35 := by rw [encL_len]; simp [hk]
  have k0 : (q.kd == 0) = true := by simp [hk]
  have k1 : (q.kd == 1) = false := by simp [hk]
  have k2 : (q.kd == 2) = false := by simp [hk]
  have b0 : decide (q.kd < 0) = false := by simp [hk]
  have b2 : decide (2 < q.kd) = false := by simp [hk]
  have hcut := dec_cut q (by omega)
  rw [hl] at hcut
  have HK := Lib.hid hk
  clear hk
  go_enter Try.func5, Try.ntmps5
  go_wp2_with fail
  have hA_w0 : (w.alloc (.cells #[.int .i64 q.kd, .bool q.ch, .bool q.ak, .bool q.pr, .bool q.ag, .bool q.ln, .bool q.fw, .int .i64 q.ro, .int .u64 q.r, .int .u32 q.c, .int .u64 q.b, .int .u16 q.p, .int .u16 q.x, .int .i64 q.a, .int .i64 q.m, .int .i64 q.h, .int .i64 q.d] 30)).heap[w.heap.size]? = some (.cells #[.int .i64 q.kd, .bool q.ch, .bool q.ak, .bool q.pr, .bool q.ag, .bool q.ln, .bool q.fw, .int .i64 q.ro, .int .u64 q.r, .int .u32 q.c, .int .u64 q.b, .int .u16 q.p, .int .u16 q.x, .int .i64 q.a, .int .i64 q.m, .int .i64 q.h, .int .i64 q.d] 30 (0, 0)) := heap_alloc_new _ _
  have hE_w0 : Ext w (w.alloc (.cells #[.int .i64 q.kd, .bool q.ch, .bool q.ak, .bool q.pr, .bool q.ag, .bool q.ln, .bool q.fw, .int .i64 q.ro, .int .u64 q.r, .int .u32 q.c, .int .u64 q.b, .int .u16 q.p, .int .u16 q.x, .int .i64 q.a, .int .i64 q.m, .int .i64 q.h, .int .i64 q.d] 30)) := (Ext.refl _).alloc _
  generalize w.alloc (.cells #[.int .i64 q.kd, .bool q.ch, .bool q.ak, .bool q.pr, .bool q.ag, .bool q.ln, .bool q.fw, .int .i64 q.ro, .int .u64 q.r, .int .u32 q.c, .int .u64 q.b, .int .u16 q.p, .int .u16 q.x, .int .i64 q.a, .int .i64 q.m, .int .i64 q.h, .int .i64 q.d] 30) = w0 at *
  obtain ⟨A0, hA0⟩ : ∃ n, w.heap.size = n := ⟨_, rfl⟩
  rw [hA0] at hA_w0 ⊢
  have rA0_w0 : w0.cell? ⟨A0, 0, none⟩ = some (.int .i64 q.kd) := (cell_of_row _ _ _ _ _ _ hA_w0).trans rfl
  refine (awake5 _).mono ?_
  rintro e z1 ⟨rfl, hx⟩
  have E_z1 : Ext w0 z1 := hx
  have hA_z1 : z1.heap[A0]? = some (.cells #[.int .i64 q.kd, .bool q.ch, .bool q.ak, .bool q.pr, .bool q.ag, .bool q.ln, .bool q.fw, .int .i64 q.ro, .int .u64 q.r, .int .u32 q.c, .int .u64 q.b, .int .u16 q.p, .int .u16 q.x, .int .i64 q.a, .int .i64 q.m, .int .i64 q.h, .int .i64 q.d] 30 (0, 0)) := (hx.block _ (heap_lt hA_w0)).trans hA_w0
  have rA0_z1 : z1.cell? ⟨A0, 0, none⟩ = some (.int .i64 q.kd) := (cell_of_row _ _ _ _ _ _ hA_z1).trans rfl
  clear hA_w0 rA0_w0
  clear hx
  go_wp2_with (first
    | fail
    | ((with_reducible refine at_load 30 ?_); refine wpList_load_row rfl 30 _ rfl A0 rfl 30 #[.int .i64 q.kd, .bool q.ch, .bool q.ak, .bool q.pr, .bool q.ag, .bool q.ln, .bool q.fw, .int .i64 q.ro, .int .u64 q.r, .int .u32 q.c, .int .u64 q.b, .int .u16 q.p, .int .u16 q.x, .int .i64 q.a, .int .i64 q.m, .int .i64 q.h, .int .i64 q.d] (0, 0) _ hA_z1 Try.underlying30 rfl (by kernel_rfl) ?_))
  refine (enc_any q HQ.out _).mono ?_
  rintro e z2 ⟨vb, rfl, hown, hx⟩
  have E_z2 : Ext w0 z2 := E_z1.trans hx
  have hA_z2 : z2.heap[A0]? = some (.cells #[.int .i64 q.kd, .bool q.ch, .bool q.ak, .bool q.pr, .bool q.ag, .bool q.ln, .bool q.fw, .int .i64 q.ro, .int .u64 q.r, .int .u32 q.c, .int .u64 q.b, .int .u16 q.p, .int .u16 q.x, .int .i64 q.a, .int .i64 q.m, .int .i64 q.h, .int .i64 q.d] 30 (0, 0)) := (hx.block _ (heap_lt hA_z1)).trans hA_z1
  have hi_z2 := isBytes_own hown
  clear hown
  have rA0_z2 : z2.cell? ⟨A0, 0, none⟩ = some (.int .i64 q.kd) := (cell_of_row _ _ _ _ _ _ hA_z2).trans rfl
  clear hA_z1 E_z1 rA0_z1
  clear hx
  obtain ⟨av, cv, hv, -, hsome⟩ := hi_z2.form
  rw [hl] at hv hsome
  subst hv
  clear hl
  go_wp2_with fail
  obtain ⟨j, hj⟩ : ∃ j, (at0 % 35).toNat = j := ⟨_, rfl⟩
  have hjn : j < 35 := by omega
  rw [hj]
  have hd := dec_any _ _ _ (ints_take2 hi_z2 hjn) (fun x hx => enc_bytes q x (List.mem_of_mem_take hx)) (by have := encL_le q; rw [List.length_take]; omega)
  rw [hcut j hjn] at hd
  refine ((show Calls Try.prog 21 _ _ (fun e w' => e = .returned (.tuple #[.agg #[.int .i64 0, .bool false, .bool false, .bool false, .bool false, .bool false, .bool false, .int .i64 0, .int .u64 0, .int .u32 0, .int .u64 0, .int .u16 0, .int .u16 0, .int .i64 0, .int .i64 0, .int .i64 0, .int .i64 0], .int .i64 2]) ∧ Ext _ w') from hd)).mono ?_
  rintro e z3 ⟨rfl, hx⟩
  have E_z3 : Ext w0 z3 := E_z2.trans hx
  have hA_z3 : z3.heap[A0]? = some (.cells #[.int .i64 q.kd, .bool q.ch, .bool q.ak, .bool q.pr, .bool q.ag, .bool q.ln, .bool q.fw, .int .i64 q.ro, .int .u64 q.r, .int .u32 q.c, .int .u64 q.b, .int .u16 q.p, .int .u16 q.x, .int .i64 q.a, .int .i64 q.m, .int .i64 q.h, .int .i64 q.d] 30 (0, 0)) := (hx.block _ (heap_lt hA_z2)).trans hA_z2
  have rA0_z3 : z3.cell? ⟨A0, 0, none⟩ = some (.int .i64 q.kd) := (cell_of_row _ _ _ _ _ _ hA_z3).trans rfl
  clear hA_z2 E_z2 rA0_z2
  clear hx
  clear hd hcut
  go_wp2_with (first
    | fail
    | ((with_reducible refine at_alloc 30 ?_); refine al_zero rfl 30 rfl MZ zero_msg ?_
       intro X0 z4 hq hs hx
       have E_z4 : Ext w0 z4 := E_z3.trans hx
       have hA_z4 : z4.heap[A0]? = some (.cells #[.int .i64 q.kd, .bool q.ch, .bool q.ak, .bool q.pr, .bool q.ag, .bool q.ln, .bool q.fw, .int .i64 q.ro, .int .u64 q.r, .int .u32 q.c, .int .u64 q.b, .int .u16 q.p, .int .u16 q.x, .int .i64 q.a, .int .i64 q.m, .int .i64 q.h, .int .i64 q.d] 30 (0, 0)) := (hx.block _ (heap_lt hA_z3)).trans hA_z3
       have hX_z4 : z4.heap[X0]? = some (.cells #[.int .i64 0, .bool false, .bool false, .bool false, .bool false, .bool false, .bool false, .int .i64 0, .int .u64 0, .int .u32 0, .int .u64 0, .int .u16 0, .int .u16 0, .int .i64 0, .int .i64 0, .int .i64 0, .int .i64 0] 30 (0, 0)) := hq
       have hb_X0 : w0.heap.size ≤ X0 := by have := E_z3.size; omega
       have hn_A0X0 : A0 ≠ X0 := by have := heap_lt hA_z3; omega
       have rA0_z4 : z4.cell? ⟨A0, 0, none⟩ = some (.int .i64 q.kd) := (cell_of_row _ _ _ _ _ _ hA_z4).trans rfl
       clear hA_z3 E_z3 rA0_z3
       clear hq hs hx)
    | ((with_reducible refine at_store 30 ?_); refine st_at rfl rfl 30 _ _ rfl X0 0 _ #[.int .i64 0, .bool false, .bool false, .bool false, .bool false, .bool false, .bool false, .int .i64 0, .int .u64 0, .int .u32 0, .int .u64 0, .int .u16 0, .int .u16 0, .int .i64 0, .int .i64 0, .int .i64 0, .int .i64 0] _ #[.int .i64 0, .bool false, .bool false, .bool false, .bool false, .bool false, .bool false, .int .i64 0, .int .u64 0, .int .u32 0, .int .u64 0, .int .u16 0, .int .u16 0, .int .i64 0, .int .i64 0, .int .i64 0, .int .i64 0] _ rfl rfl rfl hX_z4 (by exact (by decide : 0 + 17 ≤ 17)) (by kernel_rfl) rfl rfl ?_
       intro z5 hq hm
       have hX_z5 : z5.heap[X0]? = some (.cells #[.int .i64 0, .bool false, .bool false, .bool false, .bool false, .bool false, .bool false, .int .i64 0, .int .u64 0, .int .u32 0, .int .u64 0, .int .u16 0, .int .u16 0, .int .i64 0, .int .i64 0, .int .i64 0, .int .i64 0] 30 (0, 0)) := hq
       have hA_z5 : z5.heap[A0]? = some (.cells #[.int .i64 q.kd, .bool q.ch, .bool q.ak, .bool q.pr, .bool q.ag, .bool q.ln, .bool q.fw, .int .i64 q.ro, .int .u64 q.r, .int .u32 q.c, .int .u64 q.b, .int .u16 q.p, .int .u16 q.x, .int .i64 q.a, .int .i64 q.m, .int .i64 q.h, .int .i64 q.d] 30 (0, 0)) := (hm.heap (heap_lt hA_z4) (show ¬ A0 = X0 by omega)).trans hA_z4
       have E_z5 : Ext w0 z5 := Ext.mutE E_z4 hm (fun n hn h => by have h2 : n = X0 := h; omega)
       have rA0_z5 : z5.cell? ⟨A0, 0, none⟩ = some (.int .i64 q.kd) := (cell_of_row _ _ _ _ _ _ hA_z5).trans rfl
       clear hA_z4 hX_z4 E_z4 rA0_z4
       clear hq hm)
    | ((with_reducible refine at_loadG 30 ?_); refine wpList_load_rowG rfl 30 _ rfl X0 rfl 30 #[.int .i64 0, .bool false, .bool false, .bool false, .bool false, .bool false, .bool false, .int .i64 0, .int .u64 0, .int .u32 0, .int .u64 0, .int .u16 0, .int .u16 0, .int .i64 0, .int .i64 0, .int .i64 0, .int .i64 0] (0, 0) _ hX_z5 Try.underlying30 rfl (by kernel_rfl) ?_))
  all_goals
    go_ret
    exact ⟨rfl, hE_w0.trans E_z5⟩
set_option maxRecDepth 100000 in
set_option maxHeartbeats 2000000 in
theorem cBpduCuts_t {w : World} (q : Mg) (hq : q.ok) (at0 : Int) (hat : 0 ≤ at0 ∧ at0 < 256) (hk : q.kd = 1) : Calls Try.prog 5 #[.agg #[.int .i64 q.kd, .bool q.ch, .bool q.ak, .bool q.pr, .bool q.ag, .bool q.ln, .bool q.fw, .int .i64 q.ro, .int .u64 q.r, .int .u32 q.c, .int .u64 q.b, .int .u16 q.p, .int .u16 q.x, .int .i64 q.a, .int .i64 q.m, .int .i64 q.h, .int .i64 q.d], .int .u8 at0] w fun e w' => e = .returned (.bool true) ∧ Ext w w' := by
  have heq := eq_mz
  have hz := zero_msg
  have HQ := Lib.hid hq
  clear hq
  have hl : (encL q).length = 4 := by rw [encL_len]; simp [hk]
  have k0 : (q.kd == 0) = false := by simp [hk]
  have k1 : (q.kd == 1) = true := by simp [hk]
  have k2 : (q.kd == 2) = false := by simp [hk]
  have b0 : decide (q.kd < 0) = false := by simp [hk]
  have b2 : decide (2 < q.kd) = false := by simp [hk]
  have hcut := dec_cut q (by omega)
  rw [hl] at hcut
  have HK := Lib.hid hk
  clear hk
  go_enter Try.func5, Try.ntmps5
  go_wp2_with fail
  have hA_w0 : (w.alloc (.cells #[.int .i64 q.kd, .bool q.ch, .bool q.ak, .bool q.pr, .bool q.ag, .bool q.ln, .bool q.fw, .int .i64 q.ro, .int .u64 q.r, .int .u32 q.c, .int .u64 q.b, .int .u16 q.p, .int .u16 q.x, .int .i64 q.a, .int .i64 q.m, .int .i64 q.h, .int .i64 q.d] 30)).heap[w.heap.size]? = some (.cells #[.int .i64 q.kd, .bool q.ch, .bool q.ak, .bool q.pr, .bool q.ag, .bool q.ln, .bool q.fw, .int .i64 q.ro, .int .u64 q.r, .int .u32 q.c, .int .u64 q.b, .int .u16 q.p, .int .u16 q.x, .int .i64 q.a, .int .i64 q.m, .int .i64 q.h, .int .i64 q.d] 30 (0, 0)) := heap_alloc_new _ _
  have hE_w0 : Ext w (w.alloc (.cells #[.int .i64 q.kd, .bool q.ch, .bool q.ak, .bool q.pr, .bool q.ag, .bool q.ln, .bool q.fw, .int .i64 q.ro, .int .u64 q.r, .int .u32 q.c, .int .u64 q.b, .int .u16 q.p, .int .u16 q.x, .int .i64 q.a, .int .i64 q.m, .int .i64 q.h, .int .i64 q.d] 30)) := (Ext.refl _).alloc _
  generalize w.alloc (.cells #[.int .i64 q.kd, .bool q.ch, .bool q.ak, .bool q.pr, .bool q.ag, .bool q.ln, .bool q.fw, .int .i64 q.ro, .int .u64 q.r, .int .u32 q.c, .int .u64 q.b, .int .u16 q.p, .int .u16 q.x, .int .i64 q.a, .int .i64 q.m, .int .i64 q.h, .int .i64 q.d] 30) = w0 at *
  obtain ⟨A0, hA0⟩ : ∃ n, w.heap.size = n := ⟨_, rfl⟩
  rw [hA0] at hA_w0 ⊢
  have rA0_w0 : w0.cell? ⟨A0, 0, none⟩ = some (.int .i64 q.kd) := (cell_of_row _ _ _ _ _ _ hA_w0).trans rfl
  refine (awake5 _).mono ?_
  rintro e z1 ⟨rfl, hx⟩
  have E_z1 : Ext w0 z1 := hx
  have hA_z1 : z1.heap[A0]? = some (.cells #[.int .i64 q.kd, .bool q.ch, .bool q.ak, .bool q.pr, .bool q.ag, .bool q.ln, .bool q.fw, .int .i64 q.ro, .int .u64 q.r, .int .u32 q.c, .int .u64 q.b, .int .u16 q.p, .int .u16 q.x, .int .i64 q.a, .int .i64 q.m, .int .i64 q.h, .int .i64 q.d] 30 (0, 0)) := (hx.block _ (heap_lt hA_w0)).trans hA_w0
  have rA0_z1 : z1.cell? ⟨A0, 0, none⟩ = some (.int .i64 q.kd) := (cell_of_row _ _ _ _ _ _ hA_z1).trans rfl
  clear hA_w0 rA0_w0
  clear hx
  go_wp2_with (first
    | fail
    | ((with_reducible refine at_load 30 ?_); refine wpList_load_row rfl 30 _ rfl A0 rfl 30 #[.int .i64 q.kd, .bool q.ch, .bool q.ak, .bool q.pr, .bool q.ag, .bool q.ln, .bool q.fw, .int .i64 q.ro, .int .u64 q.r, .int .u32 q.c, .int .u64 q.b, .int .u16 q.p, .int .u16 q.x, .int .i64 q.a, .int .i64 q.m, .int .i64 q.h, .int .i64 q.d] (0, 0) _ hA_z1 Try.underlying30 rfl (by kernel_rfl) ?_))
  refine (enc_any q HQ.out _).mono ?_
  rintro e z2 ⟨vb, rfl, hown, hx⟩
  have E_z2 : Ext w0 z2 := E_z1.trans hx
  have hA_z2 : z2.heap[A0]? = some (.cells #[.int .i64 q.kd, .bool q.ch, .bool q.ak, .bool q.pr, .bool q.ag, .bool q.ln, .bool q.fw, .int .i64 q.ro, .int .u64 q.r, .int .u32 q.c, .int .u64 q.b, .int .u16 q.p, .int .u16 q.x, .int .i64 q.a, .int .i64 q.m, .int .i64 q.h, .int .i64 q.d] 30 (0, 0)) := (hx.block _ (heap_lt hA_z1)).trans hA_z1
  have hi_z2 := isBytes_own hown
  clear hown
  have rA0_z2 : z2.cell? ⟨A0, 0, none⟩ = some (.int .i64 q.kd) := (cell_of_row _ _ _ _ _ _ hA_z2).trans rfl
  clear hA_z1 E_z1 rA0_z1
  clear hx
  obtain ⟨av, cv, hv, -, hsome⟩ := hi_z2.form
  rw [hl] at hv hsome
  subst hv
  clear hl
  go_wp2_with fail
  obtain ⟨j, hj⟩ : ∃ j, (at0 % 4).toNat = j := ⟨_, rfl⟩
  have hjn : j < 4 := by omega
  rw [hj]
  have hd := dec_any _ _ _ (ints_take2 hi_z2 hjn) (fun x hx => enc_bytes q x (List.mem_of_mem_take hx)) (by have := encL_le q; rw [List.length_take]; omega)
  rw [hcut j hjn] at hd
  refine ((show Calls Try.prog 21 _ _ (fun e w' => e = .returned (.tuple #[.agg #[.int .i64 0, .bool false, .bool false, .bool false, .bool false, .bool false, .bool false, .int .i64 0, .int .u64 0, .int .u32 0, .int .u64 0, .int .u16 0, .int .u16 0, .int .i64 0, .int .i64 0, .int .i64 0, .int .i64 0], .int .i64 2]) ∧ Ext _ w') from hd)).mono ?_
  rintro e z3 ⟨rfl, hx⟩
  have E_z3 : Ext w0 z3 := E_z2.trans hx
  have hA_z3 : z3.heap[A0]? = some (.cells #[.int .i64 q.kd, .bool q.ch, .bool q.ak, .bool q.pr, .bool q.ag, .bool q.ln, .bool q.fw, .int .i64 q.ro, .int .u64 q.r, .int .u32 q.c, .int .u64 q.b, .int .u16 q.p, .int .u16 q.x, .int .i64 q.a, .int .i64 q.m, .int .i64 q.h, .int .i64 q.d] 30 (0, 0)) := (hx.block _ (heap_lt hA_z2)).trans hA_z2
  have rA0_z3 : z3.cell? ⟨A0, 0, none⟩ = some (.int .i64 q.kd) := (cell_of_row _ _ _ _ _ _ hA_z3).trans rfl
  clear hA_z2 E_z2 rA0_z2
  clear hx
  clear hd hcut
  go_wp2_with (first
    | fail
    | ((with_reducible refine at_alloc 30 ?_); refine al_zero rfl 30 rfl MZ zero_msg ?_
       intro X0 z4 hq hs hx
       have E_z4 : Ext w0 z4 := E_z3.trans hx
       have hA_z4 : z4.heap[A0]? = some (.cells #[.int .i64 q.kd, .bool q.ch, .bool q.ak, .bool q.pr, .bool q.ag, .bool q.ln, .bool q.fw, .int .i64 q.ro, .int .u64 q.r, .int .u32 q.c, .int .u64 q.b, .int .u16 q.p, .int .u16 q.x, .int .i64 q.a, .int .i64 q.m, .int .i64 q.h, .int .i64 q.d] 30 (0, 0)) := (hx.block _ (heap_lt hA_z3)).trans hA_z3
       have hX_z4 : z4.heap[X0]? = some (.cells #[.int .i64 0, .bool false, .bool false, .bool false, .bool false, .bool false, .bool false, .int .i64 0, .int .u64 0, .int .u32 0, .int .u64 0, .int .u16 0, .int .u16 0, .int .i64 0, .int .i64 0, .int .i64 0, .int .i64 0] 30 (0, 0)) := hq
       have hb_X0 : w0.heap.size ≤ X0 := by have := E_z3.size; omega
       have hn_A0X0 : A0 ≠ X0 := by have := heap_lt hA_z3; omega
       have rA0_z4 : z4.cell? ⟨A0, 0, none⟩ = some (.int .i64 q.kd) := (cell_of_row _ _ _ _ _ _ hA_z4).trans rfl
       clear hA_z3 E_z3 rA0_z3
       clear hq hs hx)
    | ((with_reducible refine at_store 30 ?_); refine st_at rfl rfl 30 _ _ rfl X0 0 _ #[.int .i64 0, .bool false, .bool false, .bool false, .bool false, .bool false, .bool false, .int .i64 0, .int .u64 0, .int .u32 0, .int .u64 0, .int .u16 0, .int .u16 0, .int .i64 0, .int .i64 0, .int .i64 0, .int .i64 0] _ #[.int .i64 0, .bool false, .bool false, .bool false, .bool false, .bool false, .bool false, .int .i64 0, .int .u64 0, .int .u32 0, .int .u64 0, .int .u16 0, .int .u16 0, .int .i64 0, .int .i64 0, .int .i64 0, .int .i64 0] _ rfl rfl rfl hX_z4 (by exact (by decide : 0 + 17 ≤ 17)) (by kernel_rfl) rfl rfl ?_
       intro z5 hq hm
       have hX_z5 : z5.heap[X0]? = some (.cells #[.int .i64 0, .bool false, .bool false, .bool false, .bool false, .bool false, .bool false, .int .i64 0, .int .u64 0, .int .u32 0, .int .u64 0, .int .u16 0, .int .u16 0, .int .i64 0, .int .i64 0, .int .i64 0, .int .i64 0] 30 (0, 0)) := hq
       have hA_z5 : z5.heap[A0]? = some (.cells #[.int .i64 q.kd, .bool q.ch, .bool q.ak, .bool q.pr, .bool q.ag, .bool q.ln, .bool q.fw, .int .i64 q.ro, .int .u64 q.r, .int .u32 q.c, .int .u64 q.b, .int .u16 q.p, .int .u16 q.x, .int .i64 q.a, .int .i64 q.m, .int .i64 q.h, .int .i64 q.d] 30 (0, 0)) := (hm.heap (heap_lt hA_z4) (show ¬ A0 = X0 by omega)).trans hA_z4
       have E_z5 : Ext w0 z5 := Ext.mutE E_z4 hm (fun n hn h => by have h2 : n = X0 := h; omega)
       have rA0_z5 : z5.cell? ⟨A0, 0, none⟩ = some (.int .i64 q.kd) := (cell_of_row _ _ _ _ _ _ hA_z5).trans rfl
       clear hA_z4 hX_z4 E_z4 rA0_z4
       clear hq hm)
    | ((with_reducible refine at_loadG 30 ?_); refine wpList_load_rowG rfl 30 _ rfl X0 rfl 30 #[.int .i64 0, .bool false, .bool false, .bool false, .bool false, .bool false, .bool false, .int .i64 0, .int .u64 0, .int .u32 0, .int .u64 0, .int .u16 0, .int .u16 0, .int .i64 0, .int .i64 0, .int .i64 0, .int .i64 0] (0, 0) _ hX_z5 Try.underlying30 rfl (by kernel_rfl) ?_))
  all_goals
    go_ret
    exact ⟨rfl, hE_w0.trans E_z5⟩
set_option maxRecDepth 100000 in
set_option maxHeartbeats 2000000 in
theorem cBpduCuts_r {w : World} (q : Mg) (hq : q.ok) (at0 : Int) (hat : 0 ≤ at0 ∧ at0 < 256) (hk : q.kd = 2) : Calls Try.prog 5 #[.agg #[.int .i64 q.kd, .bool q.ch, .bool q.ak, .bool q.pr, .bool q.ag, .bool q.ln, .bool q.fw, .int .i64 q.ro, .int .u64 q.r, .int .u32 q.c, .int .u64 q.b, .int .u16 q.p, .int .u16 q.x, .int .i64 q.a, .int .i64 q.m, .int .i64 q.h, .int .i64 q.d], .int .u8 at0] w fun e w' => e = .returned (.bool true) ∧ Ext w w' := by
  have heq := eq_mz
  have hz := zero_msg
  have HQ := Lib.hid hq
  clear hq
  have hl : (encL q).length = 36 := by rw [encL_len]; simp [hk]
  have k0 : (q.kd == 0) = false := by simp [hk]
  have k1 : (q.kd == 1) = false := by simp [hk]
  have k2 : (q.kd == 2) = true := by simp [hk]
  have b0 : decide (q.kd < 0) = false := by simp [hk]
  have b2 : decide (2 < q.kd) = false := by simp [hk]
  have hcut := dec_cut q (by omega)
  rw [hl] at hcut
  have HK := Lib.hid hk
  clear hk
  go_enter Try.func5, Try.ntmps5
  go_wp2_with fail
  have hA_w0 : (w.alloc (.cells #[.int .i64 q.kd, .bool q.ch, .bool q.ak, .bool q.pr, .bool q.ag, .bool q.ln, .bool q.fw, .int .i64 q.ro, .int .u64 q.r, .int .u32 q.c, .int .u64 q.b, .int .u16 q.p, .int .u16 q.x, .int .i64 q.a, .int .i64 q.m, .int .i64 q.h, .int .i64 q.d] 30)).heap[w.heap.size]? = some (.cells #[.int .i64 q.kd, .bool q.ch, .bool q.ak, .bool q.pr, .bool q.ag, .bool q.ln, .bool q.fw, .int .i64 q.ro, .int .u64 q.r, .int .u32 q.c, .int .u64 q.b, .int .u16 q.p, .int .u16 q.x, .int .i64 q.a, .int .i64 q.m, .int .i64 q.h, .int .i64 q.d] 30 (0, 0)) := heap_alloc_new _ _
  have hE_w0 : Ext w (w.alloc (.cells #[.int .i64 q.kd, .bool q.ch, .bool q.ak, .bool q.pr, .bool q.ag, .bool q.ln, .bool q.fw, .int .i64 q.ro, .int .u64 q.r, .int .u32 q.c, .int .u64 q.b, .int .u16 q.p, .int .u16 q.x, .int .i64 q.a, .int .i64 q.m, .int .i64 q.h, .int .i64 q.d] 30)) := (Ext.refl _).alloc _
  generalize w.alloc (.cells #[.int .i64 q.kd, .bool q.ch, .bool q.ak, .bool q.pr, .bool q.ag, .bool q.ln, .bool q.fw, .int .i64 q.ro, .int .u64 q.r, .int .u32 q.c, .int .u64 q.b, .int .u16 q.p, .int .u16 q.x, .int .i64 q.a, .int .i64 q.m, .int .i64 q.h, .int .i64 q.d] 30) = w0 at *
  obtain ⟨A0, hA0⟩ : ∃ n, w.heap.size = n := ⟨_, rfl⟩
  rw [hA0] at hA_w0 ⊢
  have rA0_w0 : w0.cell? ⟨A0, 0, none⟩ = some (.int .i64 q.kd) := (cell_of_row _ _ _ _ _ _ hA_w0).trans rfl
  refine (awake5 _).mono ?_
  rintro e z1 ⟨rfl, hx⟩
  have E_z1 : Ext w0 z1 := hx
  have hA_z1 : z1.heap[A0]? = some (.cells #[.int .i64 q.kd, .bool q.ch, .bool q.ak, .bool q.pr, .bool q.ag, .bool q.ln, .bool q.fw, .int .i64 q.ro, .int .u64 q.r, .int .u32 q.c, .int .u64 q.b, .int .u16 q.p, .int .u16 q.x, .int .i64 q.a, .int .i64 q.m, .int .i64 q.h, .int .i64 q.d] 30 (0, 0)) := (hx.block _ (heap_lt hA_w0)).trans hA_w0
  have rA0_z1 : z1.cell? ⟨A0, 0, none⟩ = some (.int .i64 q.kd) := (cell_of_row _ _ _ _ _ _ hA_z1).trans rfl
  clear hA_w0 rA0_w0
  clear hx
  go_wp2_with (first
    | fail
    | ((with_reducible refine at_load 30 ?_); refine wpList_load_row rfl 30 _ rfl A0 rfl 30 #[.int .i64 q.kd, .bool q.ch, .bool q.ak, .bool q.pr, .bool q.ag, .bool q.ln, .bool q.fw, .int .i64 q.ro, .int .u64 q.r, .int .u32 q.c, .int .u64 q.b, .int .u16 q.p, .int .u16 q.x, .int .i64 q.a, .int .i64 q.m, .int .i64 q.h, .int .i64 q.d] (0, 0) _ hA_z1 Try.underlying30 rfl (by kernel_rfl) ?_))
  refine (enc_any q HQ.out _).mono ?_
  rintro e z2 ⟨vb, rfl, hown, hx⟩
  have E_z2 : Ext w0 z2 := E_z1.trans hx
  have hA_z2 : z2.heap[A0]? = some (.cells #[.int .i64 q.kd, .bool q.ch, .bool q.ak, .bool q.pr, .bool q.ag, .bool q.ln, .bool q.fw, .int .i64 q.ro, .int .u64 q.r, .int .u32 q.c, .int .u64 q.b, .int .u16 q.p, .int .u16 q.x, .int .i64 q.a, .int .i64 q.m, .int .i64 q.h, .int .i64 q.d] 30 (0, 0)) := (hx.block _ (heap_lt hA_z1)).trans hA_z1
  have hi_z2 := isBytes_own hown
  clear hown
  have rA0_z2 : z2.cell? ⟨A0, 0, none⟩ = some (.int .i64 q.kd) := (cell_of_row _ _ _ _ _ _ hA_z2).trans rfl
  clear hA_z1 E_z1 rA0_z1
  clear hx
  obtain ⟨av, cv, hv, -, hsome⟩ := hi_z2.form
  rw [hl] at hv hsome
  subst hv
  clear hl
  go_wp2_with fail
  obtain ⟨j, hj⟩ : ∃ j, (at0 % 36).toNat = j := ⟨_, rfl⟩
  have hjn : j < 36 := by omega
  rw [hj]
  have hd := dec_any _ _ _ (ints_take2 hi_z2 hjn) (fun x hx => enc_bytes q x (List.mem_of_mem_take hx)) (by have := encL_le q; rw [List.length_take]; omega)
  rw [hcut j hjn] at hd
  refine ((show Calls Try.prog 21 _ _ (fun e w' => e = .returned (.tuple #[.agg #[.int .i64 0, .bool false, .bool false, .bool false, .bool false, .bool false, .bool false, .int .i64 0, .int .u64 0, .int .u32 0, .int .u64 0, .int .u16 0, .int .u16 0, .int .i64 0, .int .i64 0, .int .i64 0, .int .i64 0], .int .i64 2]) ∧ Ext _ w') from hd)).mono ?_
  rintro e z3 ⟨rfl, hx⟩
  have E_z3 : Ext w0 z3 := E_z2.trans hx
  have hA_z3 : z3.heap[A0]? = some (.cells #[.int .i64 q.kd, .bool q.ch, .bool q.ak, .bool q.pr, .bool q.ag, .bool q.ln, .bool q.fw, .int .i64 q.ro, .int .u64 q.r, .int .u32 q.c, .int .u64 q.b, .int .u16 q.p, .int .u16 q.x, .int .i64 q.a, .int .i64 q.m, .int .i64 q.h, .int .i64 q.d] 30 (0, 0)) := (hx.block _ (heap_lt hA_z2)).trans hA_z2
  have rA0_z3 : z3.cell? ⟨A0, 0, none⟩ = some (.int .i64 q.kd) := (cell_of_row _ _ _ _ _ _ hA_z3).trans rfl
  clear hA_z2 E_z2 rA0_z2
  clear hx
  clear hd hcut
  go_wp2_with (first
    | fail
    | ((with_reducible refine at_alloc 30 ?_); refine al_zero rfl 30 rfl MZ zero_msg ?_
       intro X0 z4 hq hs hx
       have E_z4 : Ext w0 z4 := E_z3.trans hx
       have hA_z4 : z4.heap[A0]? = some (.cells #[.int .i64 q.kd, .bool q.ch, .bool q.ak, .bool q.pr, .bool q.ag, .bool q.ln, .bool q.fw, .int .i64 q.ro, .int .u64 q.r, .int .u32 q.c, .int .u64 q.b, .int .u16 q.p, .int .u16 q.x, .int .i64 q.a, .int .i64 q.m, .int .i64 q.h, .int .i64 q.d] 30 (0, 0)) := (hx.block _ (heap_lt hA_z3)).trans hA_z3
       have hX_z4 : z4.heap[X0]? = some (.cells #[.int .i64 0, .bool false, .bool false, .bool false, .bool false, .bool false, .bool false, .int .i64 0, .int .u64 0, .int .u32 0, .int .u64 0, .int .u16 0, .int .u16 0, .int .i64 0, .int .i64 0, .int .i64 0, .int .i64 0] 30 (0, 0)) := hq
       have hb_X0 : w0.heap.size ≤ X0 := by have := E_z3.size; omega
       have hn_A0X0 : A0 ≠ X0 := by have := heap_lt hA_z3; omega
       have rA0_z4 : z4.cell? ⟨A0, 0, none⟩ = some (.int .i64 q.kd) := (cell_of_row _ _ _ _ _ _ hA_z4).trans rfl
       clear hA_z3 E_z3 rA0_z3
       clear hq hs hx)
    | ((with_reducible refine at_store 30 ?_); refine st_at rfl rfl 30 _ _ rfl X0 0 _ #[.int .i64 0, .bool false, .bool false, .bool false, .bool false, .bool false, .bool false, .int .i64 0, .int .u64 0, .int .u32 0, .int .u64 0, .int .u16 0, .int .u16 0, .int .i64 0, .int .i64 0, .int .i64 0, .int .i64 0] _ #[.int .i64 0, .bool false, .bool false, .bool false, .bool false, .bool false, .bool false, .int .i64 0, .int .u64 0, .int .u32 0, .int .u64 0, .int .u16 0, .int .u16 0, .int .i64 0, .int .i64 0, .int .i64 0, .int .i64 0] _ rfl rfl rfl hX_z4 (by exact (by decide : 0 + 17 ≤ 17)) (by kernel_rfl) rfl rfl ?_
       intro z5 hq hm
       have hX_z5 : z5.heap[X0]? = some (.cells #[.int .i64 0, .bool false, .bool false, .bool false, .bool false, .bool false, .bool false, .int .i64 0, .int .u64 0, .int .u32 0, .int .u64 0, .int .u16 0, .int .u16 0, .int .i64 0, .int .i64 0, .int .i64 0, .int .i64 0] 30 (0, 0)) := hq
       have hA_z5 : z5.heap[A0]? = some (.cells #[.int .i64 q.kd, .bool q.ch, .bool q.ak, .bool q.pr, .bool q.ag, .bool q.ln, .bool q.fw, .int .i64 q.ro, .int .u64 q.r, .int .u32 q.c, .int .u64 q.b, .int .u16 q.p, .int .u16 q.x, .int .i64 q.a, .int .i64 q.m, .int .i64 q.h, .int .i64 q.d] 30 (0, 0)) := (hm.heap (heap_lt hA_z4) (show ¬ A0 = X0 by omega)).trans hA_z4
       have E_z5 : Ext w0 z5 := Ext.mutE E_z4 hm (fun n hn h => by have h2 : n = X0 := h; omega)
       have rA0_z5 : z5.cell? ⟨A0, 0, none⟩ = some (.int .i64 q.kd) := (cell_of_row _ _ _ _ _ _ hA_z5).trans rfl
       clear hA_z4 hX_z4 E_z4 rA0_z4
       clear hq hm)
    | ((with_reducible refine at_loadG 30 ?_); refine wpList_load_rowG rfl 30 _ rfl X0 rfl 30 #[.int .i64 0, .bool false, .bool false, .bool false, .bool false, .bool false, .bool false, .int .i64 0, .int .u64 0, .int .u32 0, .int .u64 0, .int .u16 0, .int .u16 0, .int .i64 0, .int .i64 0, .int .i64 0, .int .i64 0] (0, 0) _ hX_z5 Try.underlying30 rfl (by kernel_rfl) ?_))
  all_goals
    go_ret
    exact ⟨rfl, hE_w0.trans E_z5⟩
set_option maxRecDepth 100000 in
set_option maxHeartbeats 2000000 in
theorem cBpduCuts_n {w : World} (q : Mg) (hq : q.ok) (at0 : Int) (hat : 0 ≤ at0 ∧ at0 < 256) (hk : q.kd < 0) : Calls Try.prog 5 #[.agg #[.int .i64 q.kd, .bool q.ch, .bool q.ak, .bool q.pr, .bool q.ag, .bool q.ln, .bool q.fw, .int .i64 q.ro, .int .u64 q.r, .int .u32 q.c, .int .u64 q.b, .int .u16 q.p, .int .u16 q.x, .int .i64 q.a, .int .i64 q.m, .int .i64 q.h, .int .i64 q.d], .int .u8 at0] w fun e w' => e = .returned (.bool true) ∧ Ext w w' := by
  have heq := eq_mz
  have hz := zero_msg
  have HQ := Lib.hid hq
  clear hq
  have hl : (encL q).length = 0 := by rw [encL_len, if_neg (by omega), if_neg (by omega), if_neg (by omega)]
  have b0 : decide (q.kd < 0) = true := by simpa using hk
  have HK := Lib.hid hk
  clear hk
  go_enter Try.func5, Try.ntmps5
  go_wp2_with fail
  have hA_w0 : (w.alloc (.cells #[.int .i64 q.kd, .bool q.ch, .bool q.ak, .bool q.pr, .bool q.ag, .bool q.ln, .bool q.fw, .int .i64 q.ro, .int .u64 q.r, .int .u32 q.c, .int .u64 q.b, .int .u16 q.p, .int .u16 q.x, .int .i64 q.a, .int .i64 q.m, .int .i64 q.h, .int .i64 q.d] 30)).heap[w.heap.size]? = some (.cells #[.int .i64 q.kd, .bool q.ch, .bool q.ak, .bool q.pr, .bool q.ag, .bool q.ln, .bool q.fw, .int .i64 q.ro, .int .u64 q.r, .int .u32 q.c, .int .u64 q.b, .int .u16 q.p, .int .u16 q.x, .int .i64 q.a, .int .i64 q.m, .int .i64 q.h, .int .i64 q.d] 30 (0, 0)) := heap_alloc_new _ _
  have hE_w0 : Ext w (w.alloc (.cells #[.int .i64 q.kd, .bool q.ch, .bool q.ak, .bool q.pr, .bool q.ag, .bool q.ln, .bool q.fw, .int .i64 q.ro, .int .u64 q.r, .int .u32 q.c, .int .u64 q.b, .int .u16 q.p, .int .u16 q.x, .int .i64 q.a, .int .i64 q.m, .int .i64 q.h, .int .i64 q.d] 30)) := (Ext.refl _).alloc _
  generalize w.alloc (.cells #[.int .i64 q.kd, .bool q.ch, .bool q.ak, .bool q.pr, .bool q.ag, .bool q.ln, .bool q.fw, .int .i64 q.ro, .int .u64 q.r, .int .u32 q.c, .int .u64 q.b, .int .u16 q.p, .int .u16 q.x, .int .i64 q.a, .int .i64 q.m, .int .i64 q.h, .int .i64 q.d] 30) = w0 at *
  obtain ⟨A0, hA0⟩ : ∃ n, w.heap.size = n := ⟨_, rfl⟩
  rw [hA0] at hA_w0 ⊢
  have rA0_w0 : w0.cell? ⟨A0, 0, none⟩ = some (.int .i64 q.kd) := (cell_of_row _ _ _ _ _ _ hA_w0).trans rfl
  refine (awake5 _).mono ?_
  rintro e z1 ⟨rfl, hx⟩
  have E_z1 : Ext w0 z1 := hx
  have hA_z1 : z1.heap[A0]? = some (.cells #[.int .i64 q.kd, .bool q.ch, .bool q.ak, .bool q.pr, .bool q.ag, .bool q.ln, .bool q.fw, .int .i64 q.ro, .int .u64 q.r, .int .u32 q.c, .int .u64 q.b, .int .u16 q.p, .int .u16 q.x, .int .i64 q.a, .int .i64 q.m, .int .i64 q.h, .int .i64 q.d] 30 (0, 0)) := (hx.block _ (heap_lt hA_w0)).trans hA_w0
  have rA0_z1 : z1.cell? ⟨A0, 0, none⟩ = some (.int .i64 q.kd) := (cell_of_row _ _ _ _ _ _ hA_z1).trans rfl
  clear hA_w0 rA0_w0
  clear hx
  go_wp2_with (first
    | fail
    | ((with_reducible refine at_load 30 ?_); refine wpList_load_row rfl 30 _ rfl A0 rfl 30 #[.int .i64 q.kd, .bool q.ch, .bool q.ak, .bool q.pr, .bool q.ag, .bool q.ln, .bool q.fw, .int .i64 q.ro, .int .u64 q.r, .int .u32 q.c, .int .u64 q.b, .int .u16 q.p, .int .u16 q.x, .int .i64 q.a, .int .i64 q.m, .int .i64 q.h, .int .i64 q.d] (0, 0) _ hA_z1 Try.underlying30 rfl (by kernel_rfl) ?_))
  refine (enc_any q HQ.out _).mono ?_
  rintro e z2 ⟨vb, rfl, hown, hx⟩
  have E_z2 : Ext w0 z2 := E_z1.trans hx
  have hA_z2 : z2.heap[A0]? = some (.cells #[.int .i64 q.kd, .bool q.ch, .bool q.ak, .bool q.pr, .bool q.ag, .bool q.ln, .bool q.fw, .int .i64 q.ro, .int .u64 q.r, .int .u32 q.c, .int .u64 q.b, .int .u16 q.p, .int .u16 q.x, .int .i64 q.a, .int .i64 q.m, .int .i64 q.h, .int .i64 q.d] 30 (0, 0)) := (hx.block _ (heap_lt hA_z1)).trans hA_z1
  have hi_z2 := isBytes_own hown
  clear hown
  have rA0_z2 : z2.cell? ⟨A0, 0, none⟩ = some (.int .i64 q.kd) := (cell_of_row _ _ _ _ _ _ hA_z2).trans rfl
  clear hA_z1 E_z1 rA0_z1
  clear hx
  obtain ⟨av, cv, hv, -, hsome⟩ := hi_z2.form
  rw [hl] at hv hsome
  subst hv
  clear hl
  go_wp2_with fail
  all_goals
    go_ret
    exact ⟨rfl, hE_w0.trans E_z2⟩
set_option maxRecDepth 100000 in
set_option maxHeartbeats 2000000 in
theorem cBpduCuts_g {w : World} (q : Mg) (hq : q.ok) (at0 : Int) (hat : 0 ≤ at0 ∧ at0 < 256) (hk : 2 < q.kd) : Calls Try.prog 5 #[.agg #[.int .i64 q.kd, .bool q.ch, .bool q.ak, .bool q.pr, .bool q.ag, .bool q.ln, .bool q.fw, .int .i64 q.ro, .int .u64 q.r, .int .u32 q.c, .int .u64 q.b, .int .u16 q.p, .int .u16 q.x, .int .i64 q.a, .int .i64 q.m, .int .i64 q.h, .int .i64 q.d], .int .u8 at0] w fun e w' => e = .returned (.bool true) ∧ Ext w w' := by
  have heq := eq_mz
  have hz := zero_msg
  have HQ := Lib.hid hq
  clear hq
  have hl : (encL q).length = 0 := by rw [encL_len, if_neg (by omega), if_neg (by omega), if_neg (by omega)]
  have b0 : decide (q.kd < 0) = false := by simp; omega
  have b2 : decide (2 < q.kd) = true := by simpa using hk
  have HK := Lib.hid hk
  clear hk
  go_enter Try.func5, Try.ntmps5
  go_wp2_with fail
  have hA_w0 : (w.alloc (.cells #[.int .i64 q.kd, .bool q.ch, .bool q.ak, .bool q.pr, .bool q.ag, .bool q.ln, .bool q.fw, .int .i64 q.ro, .int .u64 q.r, .int .u32 q.c, .int .u64 q.b, .int .u16 q.p, .int .u16 q.x, .int .i64 q.a, .int .i64 q.m, .int .i64 q.h, .int .i64 q.d] 30)).heap[w.heap.size]? = some (.cells #[.int .i64 q.kd, .bool q.ch, .bool q.ak, .bool q.pr, .bool q.ag, .bool q.ln, .bool q.fw, .int .i64 q.ro, .int .u64 q.r, .int .u32 q.c, .int .u64 q.b, .int .u16 q.p, .int .u16 q.x, .int .i64 q.a, .int .i64 q.m, .int .i64 q.h, .int .i64 q.d] 30 (0, 0)) := heap_alloc_new _ _
  have hE_w0 : Ext w (w.alloc (.cells #[.int .i64 q.kd, .bool q.ch, .bool q.ak, .bool q.pr, .bool q.ag, .bool q.ln, .bool q.fw, .int .i64 q.ro, .int .u64 q.r, .int .u32 q.c, .int .u64 q.b, .int .u16 q.p, .int .u16 q.x, .int .i64 q.a, .int .i64 q.m, .int .i64 q.h, .int .i64 q.d] 30)) := (Ext.refl _).alloc _
  generalize w.alloc (.cells #[.int .i64 q.kd, .bool q.ch, .bool q.ak, .bool q.pr, .bool q.ag, .bool q.ln, .bool q.fw, .int .i64 q.ro, .int .u64 q.r, .int .u32 q.c, .int .u64 q.b, .int .u16 q.p, .int .u16 q.x, .int .i64 q.a, .int .i64 q.m, .int .i64 q.h, .int .i64 q.d] 30) = w0 at *
  obtain ⟨A0, hA0⟩ : ∃ n, w.heap.size = n := ⟨_, rfl⟩
  rw [hA0] at hA_w0 ⊢
  have rA0_w0 : w0.cell? ⟨A0, 0, none⟩ = some (.int .i64 q.kd) := (cell_of_row _ _ _ _ _ _ hA_w0).trans rfl
  refine (awake5 _).mono ?_
  rintro e z1 ⟨rfl, hx⟩
  have E_z1 : Ext w0 z1 := hx
  have hA_z1 : z1.heap[A0]? = some (.cells #[.int .i64 q.kd, .bool q.ch, .bool q.ak, .bool q.pr, .bool q.ag, .bool q.ln, .bool q.fw, .int .i64 q.ro, .int .u64 q.r, .int .u32 q.c, .int .u64 q.b, .int .u16 q.p, .int .u16 q.x, .int .i64 q.a, .int .i64 q.m, .int .i64 q.h, .int .i64 q.d] 30 (0, 0)) := (hx.block _ (heap_lt hA_w0)).trans hA_w0
  have rA0_z1 : z1.cell? ⟨A0, 0, none⟩ = some (.int .i64 q.kd) := (cell_of_row _ _ _ _ _ _ hA_z1).trans rfl
  clear hA_w0 rA0_w0
  clear hx
  go_wp2_with (first
    | fail
    | ((with_reducible refine at_load 30 ?_); refine wpList_load_row rfl 30 _ rfl A0 rfl 30 #[.int .i64 q.kd, .bool q.ch, .bool q.ak, .bool q.pr, .bool q.ag, .bool q.ln, .bool q.fw, .int .i64 q.ro, .int .u64 q.r, .int .u32 q.c, .int .u64 q.b, .int .u16 q.p, .int .u16 q.x, .int .i64 q.a, .int .i64 q.m, .int .i64 q.h, .int .i64 q.d] (0, 0) _ hA_z1 Try.underlying30 rfl (by kernel_rfl) ?_))
  refine (enc_any q HQ.out _).mono ?_
  rintro e z2 ⟨vb, rfl, hown, hx⟩
  have E_z2 : Ext w0 z2 := E_z1.trans hx
  have hA_z2 : z2.heap[A0]? = some (.cells #[.int .i64 q.kd, .bool q.ch, .bool q.ak, .bool q.pr, .bool q.ag, .bool q.ln, .bool q.fw, .int .i64 q.ro, .int .u64 q.r, .int .u32 q.c, .int .u64 q.b, .int .u16 q.p, .int .u16 q.x, .int .i64 q.a, .int .i64 q.m, .int .i64 q.h, .int .i64 q.d] 30 (0, 0)) := (hx.block _ (heap_lt hA_z1)).trans hA_z1
  have hi_z2 := isBytes_own hown
  clear hown
  have rA0_z2 : z2.cell? ⟨A0, 0, none⟩ = some (.int .i64 q.kd) := (cell_of_row _ _ _ _ _ _ hA_z2).trans rfl
  clear hA_z1 E_z1 rA0_z1
  clear hx
  obtain ⟨av, cv, hv, -, hsome⟩ := hi_z2.form
  rw [hl] at hv hsome
  subst hv
  clear hl
  go_wp2_with fail
  all_goals
    go_ret
    exact ⟨rfl, hE_w0.trans E_z2⟩
theorem law_BpduCuts {w : World} (mc : List Value) (hmc : Typed ML mc) (at0 : Int) (hat : 0 ≤ at0 ∧ at0 < 256)  : Calls Try.prog 5 #[.agg mc.toArray, .int .u8 at0] w fun e w' => e = .returned (.bool true) ∧ Ext w w' := by
  obtain ⟨q, hq, e⟩ := open_mg hmc
  rw [e]
  by_cases h0 : q.kd = 0
  · exact cBpduCuts_c q hq at0 hat h0
  by_cases h1 : q.kd = 1
  · exact cBpduCuts_t q hq at0 hat h1
  by_cases h2 : q.kd = 2
  · exact cBpduCuts_r q hq at0 hat h2
  by_cases hn : q.kd < 0
  · exact cBpduCuts_n q hq at0 hat hn
  · exact cBpduCuts_g q hq at0 hat (by omega)

end Go.Proofs.Ytdfaagchlnkpnaa
