/- What is plain of a message, by the document. No statement is proved here. -/
import Derived.Test.YtdfaagchlnkpnaaBpH
import Derived.Test.YtdfaagchlnkpnaaHeldZ
namespace Go.Proofs.Ytdfaagchlnkpnaa
open Go.RowKit Go.BigFrame Go.WideShapes Go.ChangeShapes Go.Deep
set_option linter.unusedVariables false
set_option linter.unusedSimpArgs false

theorem refto_q (s : Int) (w : World) : Calls Try.prog 41 #[.int .i64 s] w fun e w' => e = .returned (.int .u16 (toV s)) ∧ Ext w w' := toExt (ref_to s w)
theorem reffrom_q (s : Int) (w : World) : Calls Try.prog 44 #[.int .u16 (toV s)] w fun e w' => e = .returned (.int .i64 (told s)) ∧ Ext w w' := toExt (ref_from (toV s) w (toV_rg s).1 (by have := (toV_rg s).2.1; omega))
theorem msg5_b (ch ak : Bool) (a b c d e f g h i : Int) : Try.prog.built 30 [(1, .bool ch), (2, .bool ak), (7, .int .i64 4), (8, .agg #[.int .u64 a, .int .u32 b, .int .u64 c, .int .u16 d, .int .u16 e]), (9, .agg #[.int .i64 f, .int .i64 g, .int .i64 h, .int .i64 i])] = some #[.int .i64 0, .bool ch, .bool ak, .bool false, .bool false, .bool false, .bool false, .int .i64 4, .int .u64 a, .int .u32 b, .int .u64 c, .int .u16 d, .int .u16 e, .int .i64 f, .int .i64 g, .int .i64 h, .int .i64 i] := by kernel_rfl
set_option maxRecDepth 100000 in
set_option maxHeartbeats 2000000 in
theorem pd_n (q : Mg) (hq : q.ok) (hk : q.kd < 0) (w : World) : Calls Try.prog 20 #[.agg #[.int .i64 q.kd, .bool q.ch, .bool q.ak, .bool q.pr, .bool q.ag, .bool q.ln, .bool q.fw, .int .i64 q.ro, .int .u64 q.r, .int .u32 q.c, .int .u64 q.b, .int .u16 q.p, .int .u16 q.x, .int .i64 q.a, .int .i64 q.m, .int .i64 q.h, .int .i64 q.d]] w fun e w' => e = .returned (.agg #[.int .i64 (plainM q).kd, .bool (plainM q).ch, .bool (plainM q).ak, .bool (plainM q).pr, .bool (plainM q).ag, .bool (plainM q).ln, .bool (plainM q).fw, .int .i64 (plainM q).ro, .int .u64 (plainM q).r, .int .u32 (plainM q).c, .int .u64 (plainM q).b, .int .u16 (plainM q).p, .int .u16 (plainM q).x, .int .i64 (plainM q).a, .int .i64 (plainM q).m, .int .i64 (plainM q).h, .int .i64 (plainM q).d]) ∧ Ext w w' := by
  have hz := zero_msg
  have b0 : decide (q.kd < 0) = true := by simpa using hk
  have HK := Lib.hid hk
  clear hk
  go_enter Try.func20, Try.ntmps20
  go_wp2_with (first
    | fail
    | ((with_reducible refine at_alloc 30 ?_)
       have hA_w0 : (w.alloc (.cells #[.int .i64 q.kd, .bool q.ch, .bool q.ak, .bool q.pr, .bool q.ag, .bool q.ln, .bool q.fw, .int .i64 q.ro, .int .u64 q.r, .int .u32 q.c, .int .u64 q.b, .int .u16 q.p, .int .u16 q.x, .int .i64 q.a, .int .i64 q.m, .int .i64 q.h, .int .i64 q.d] 30)).heap[w.heap.size]? = some (.cells #[.int .i64 q.kd, .bool q.ch, .bool q.ak, .bool q.pr, .bool q.ag, .bool q.ln, .bool q.fw, .int .i64 q.ro, .int .u64 q.r, .int .u32 q.c, .int .u64 q.b, .int .u16 q.p, .int .u16 q.x, .int .i64 q.a, .int .i64 q.m, .int .i64 q.h, .int .i64 q.d] 30 (0, 0)) := heap_alloc_new _ _
       have hE_w0 : Ext w (w.alloc (.cells #[.int .i64 q.kd, .bool q.ch, .bool q.ak, .bool q.pr, .bool q.ag, .bool q.ln, .bool q.fw, .int .i64 q.ro, .int .u64 q.r, .int .u32 q.c, .int .u64 q.b, .int .u16 q.p, .int .u16 q.x, .int .i64 q.a, .int .i64 q.m, .int .i64 q.h, .int .i64 q.d] 30)) := (Ext.refl _).alloc _
       generalize w.alloc (.cells #[.int .i64 q.kd, .bool q.ch, .bool q.ak, .bool q.pr, .bool q.ag, .bool q.ln, .bool q.fw, .int .i64 q.ro, .int .u64 q.r, .int .u32 q.c, .int .u64 q.b, .int .u16 q.p, .int .u16 q.x, .int .i64 q.a, .int .i64 q.m, .int .i64 q.h, .int .i64 q.d] 30) = w0 at *
       obtain ⟨A0, hA0⟩ : ∃ n, w.heap.size = n := ⟨_, rfl⟩
       rw [hA0] at hA_w0 ⊢
       have hb_A0 : w.heap.size ≤ A0 := by omega
       refine al_zero rfl 30 rfl MZ zero_msg ?_
       intro R0 z1 hq hs hx
       have E_z1 : Ext w z1 := hE_w0.trans hx
       have hA_z1 : z1.heap[A0]? = some (.cells #[.int .i64 q.kd, .bool q.ch, .bool q.ak, .bool q.pr, .bool q.ag, .bool q.ln, .bool q.fw, .int .i64 q.ro, .int .u64 q.r, .int .u32 q.c, .int .u64 q.b, .int .u16 q.p, .int .u16 q.x, .int .i64 q.a, .int .i64 q.m, .int .i64 q.h, .int .i64 q.d] 30 (0, 0)) := (hx.block _ (heap_lt hA_w0)).trans hA_w0
       have hR_z1 : z1.heap[R0]? = some (.cells #[.int .i64 0, .bool false, .bool false, .bool false, .bool false, .bool false, .bool false, .int .i64 0, .int .u64 0, .int .u32 0, .int .u64 0, .int .u16 0, .int .u16 0, .int .i64 0, .int .i64 0, .int .i64 0, .int .i64 0] 30 (0, 0)) := hq
       have hb_R0 : w.heap.size ≤ R0 := by have := hE_w0.size; omega
       have hn_A0R0 : A0 ≠ R0 := by have := heap_lt hA_w0; omega
       have rA0_z1 : z1.cell? ⟨A0, 0, none⟩ = some (.int .i64 q.kd) := (cell_of_row _ _ _ _ _ _ hA_z1).trans rfl
       clear hA_w0 hE_w0
       clear hq hs hx)
    | ((with_reducible refine at_store 30 ?_); refine st_at rfl rfl 30 _ _ rfl R0 0 _ #[.int .i64 0, .bool false, .bool false, .bool false, .bool false, .bool false, .bool false, .int .i64 0, .int .u64 0, .int .u32 0, .int .u64 0, .int .u16 0, .int .u16 0, .int .i64 0, .int .i64 0, .int .i64 0, .int .i64 0] _ #[.int .i64 0, .bool false, .bool false, .bool false, .bool false, .bool false, .bool false, .int .i64 0, .int .u64 0, .int .u32 0, .int .u64 0, .int .u16 0, .int .u16 0, .int .i64 0, .int .i64 0, .int .i64 0, .int .i64 0] _ rfl rfl rfl hR_z1 (by exact (by decide : 0 + 17 ≤ 17)) (by kernel_rfl) rfl rfl ?_
       intro z2 hq hm
       have hR_z2 : z2.heap[R0]? = some (.cells #[.int .i64 0, .bool false, .bool false, .bool false, .bool false, .bool false, .bool false, .int .i64 0, .int .u64 0, .int .u32 0, .int .u64 0, .int .u16 0, .int .u16 0, .int .i64 0, .int .i64 0, .int .i64 0, .int .i64 0] 30 (0, 0)) := hq
       have hA_z2 : z2.heap[A0]? = some (.cells #[.int .i64 q.kd, .bool q.ch, .bool q.ak, .bool q.pr, .bool q.ag, .bool q.ln, .bool q.fw, .int .i64 q.ro, .int .u64 q.r, .int .u32 q.c, .int .u64 q.b, .int .u16 q.p, .int .u16 q.x, .int .i64 q.a, .int .i64 q.m, .int .i64 q.h, .int .i64 q.d] 30 (0, 0)) := (hm.heap (heap_lt hA_z1) (show ¬ A0 = R0 by omega)).trans hA_z1
       have E_z2 : Ext w z2 := Ext.mutE E_z1 hm (fun n hn h => by have h2 : n = R0 := h; omega)
       have rA0_z2 : z2.cell? ⟨A0, 0, none⟩ = some (.int .i64 q.kd) := (cell_of_row _ _ _ _ _ _ hA_z2).trans rfl
       clear hA_z1 hR_z1 E_z1 rA0_z1
       clear hq hm))
  refine bodyPost_ret (results_cell_row rfl _ _ _ _ _ (0, 0) _ rfl hR_z2 Try.underlying30 rfl (by kernel_rfl)) rfl ?_
  refine ⟨?_, E_z2⟩
  unfold plainM
  rw [if_neg (by have := HK.out; omega), if_neg (by have := HK.out; omega)]
  rfl
set_option maxRecDepth 100000 in
set_option maxHeartbeats 2000000 in
theorem pd_g (q : Mg) (hq : q.ok) (hk : 2 < q.kd) (w : World) : Calls Try.prog 20 #[.agg #[.int .i64 q.kd, .bool q.ch, .bool q.ak, .bool q.pr, .bool q.ag, .bool q.ln, .bool q.fw, .int .i64 q.ro, .int .u64 q.r, .int .u32 q.c, .int .u64 q.b, .int .u16 q.p, .int .u16 q.x, .int .i64 q.a, .int .i64 q.m, .int .i64 q.h, .int .i64 q.d]] w fun e w' => e = .returned (.agg #[.int .i64 (plainM q).kd, .bool (plainM q).ch, .bool (plainM q).ak, .bool (plainM q).pr, .bool (plainM q).ag, .bool (plainM q).ln, .bool (plainM q).fw, .int .i64 (plainM q).ro, .int .u64 (plainM q).r, .int .u32 (plainM q).c, .int .u64 (plainM q).b, .int .u16 (plainM q).p, .int .u16 (plainM q).x, .int .i64 (plainM q).a, .int .i64 (plainM q).m, .int .i64 (plainM q).h, .int .i64 (plainM q).d]) ∧ Ext w w' := by
  have hz := zero_msg
  have b0 : decide (q.kd < 0) = false := by simp; omega
  have b2 : decide (2 < q.kd) = true := by simpa using hk
  have HK := Lib.hid hk
  clear hk
  go_enter Try.func20, Try.ntmps20
  go_wp2_with (first
    | fail
    | ((with_reducible refine at_alloc 30 ?_)
       have hA_w0 : (w.alloc (.cells #[.int .i64 q.kd, .bool q.ch, .bool q.ak, .bool q.pr, .bool q.ag, .bool q.ln, .bool q.fw, .int .i64 q.ro, .int .u64 q.r, .int .u32 q.c, .int .u64 q.b, .int .u16 q.p, .int .u16 q.x, .int .i64 q.a, .int .i64 q.m, .int .i64 q.h, .int .i64 q.d] 30)).heap[w.heap.size]? = some (.cells #[.int .i64 q.kd, .bool q.ch, .bool q.ak, .bool q.pr, .bool q.ag, .bool q.ln, .bool q.fw, .int .i64 q.ro, .int .u64 q.r, .int .u32 q.c, .int .u64 q.b, .int .u16 q.p, .int .u16 q.x, .int .i64 q.a, .int .i64 q.m, .int .i64 q.h, .int .i64 q.d] 30 (0, 0)) := heap_alloc_new _ _
       have hE_w0 : Ext w (w.alloc (.cells #[.int .i64 q.kd, .bool q.ch, .bool q.ak, .bool q.pr, .bool q.ag, .bool q.ln, .bool q.fw, .int .i64 q.ro, .int .u64 q.r, .int .u32 q.c, .int .u64 q.b, .int .u16 q.p, .int .u16 q.x, .int .i64 q.a, .int .i64 q.m, .int .i64 q.h, .int .i64 q.d] 30)) := (Ext.refl _).alloc _
       generalize w.alloc (.cells #[.int .i64 q.kd, .bool q.ch, .bool q.ak, .bool q.pr, .bool q.ag, .bool q.ln, .bool q.fw, .int .i64 q.ro, .int .u64 q.r, .int .u32 q.c, .int .u64 q.b, .int .u16 q.p, .int .u16 q.x, .int .i64 q.a, .int .i64 q.m, .int .i64 q.h, .int .i64 q.d] 30) = w0 at *
       obtain ⟨A0, hA0⟩ : ∃ n, w.heap.size = n := ⟨_, rfl⟩
       rw [hA0] at hA_w0 ⊢
       have hb_A0 : w.heap.size ≤ A0 := by omega
       refine al_zero rfl 30 rfl MZ zero_msg ?_
       intro R0 z1 hq hs hx
       have E_z1 : Ext w z1 := hE_w0.trans hx
       have hA_z1 : z1.heap[A0]? = some (.cells #[.int .i64 q.kd, .bool q.ch, .bool q.ak, .bool q.pr, .bool q.ag, .bool q.ln, .bool q.fw, .int .i64 q.ro, .int .u64 q.r, .int .u32 q.c, .int .u64 q.b, .int .u16 q.p, .int .u16 q.x, .int .i64 q.a, .int .i64 q.m, .int .i64 q.h, .int .i64 q.d] 30 (0, 0)) := (hx.block _ (heap_lt hA_w0)).trans hA_w0
       have hR_z1 : z1.heap[R0]? = some (.cells #[.int .i64 0, .bool false, .bool false, .bool false, .bool false, .bool false, .bool false, .int .i64 0, .int .u64 0, .int .u32 0, .int .u64 0, .int .u16 0, .int .u16 0, .int .i64 0, .int .i64 0, .int .i64 0, .int .i64 0] 30 (0, 0)) := hq
       have hb_R0 : w.heap.size ≤ R0 := by have := hE_w0.size; omega
       have hn_A0R0 : A0 ≠ R0 := by have := heap_lt hA_w0; omega
       have rA0_z1 : z1.cell? ⟨A0, 0, none⟩ = some (.int .i64 q.kd) := (cell_of_row _ _ _ _ _ _ hA_z1).trans rfl
       clear hA_w0 hE_w0
       clear hq hs hx)
    | ((with_reducible refine at_store 30 ?_); refine st_at rfl rfl 30 _ _ rfl R0 0 _ #[.int .i64 0, .bool false, .bool false, .bool false, .bool false, .bool false, .bool false, .int .i64 0, .int .u64 0, .int .u32 0, .int .u64 0, .int .u16 0, .int .u16 0, .int .i64 0, .int .i64 0, .int .i64 0, .int .i64 0] _ #[.int .i64 0, .bool false, .bool false, .bool false, .bool false, .bool false, .bool false, .int .i64 0, .int .u64 0, .int .u32 0, .int .u64 0, .int .u16 0, .int .u16 0, .int .i64 0, .int .i64 0, .int .i64 0, .int .i64 0] _ rfl rfl rfl hR_z1 (by exact (by decide : 0 + 17 ≤ 17)) (by kernel_rfl) rfl rfl ?_
       intro z2 hq hm
       have hR_z2 : z2.heap[R0]? = some (.cells #[.int .i64 0, .bool false, .bool false, .bool false, .bool false, .bool false, .bool false, .int .i64 0, .int .u64 0, .int .u32 0, .int .u64 0, .int .u16 0, .int .u16 0, .int .i64 0, .int .i64 0, .int .i64 0, .int .i64 0] 30 (0, 0)) := hq
       have hA_z2 : z2.heap[A0]? = some (.cells #[.int .i64 q.kd, .bool q.ch, .bool q.ak, .bool q.pr, .bool q.ag, .bool q.ln, .bool q.fw, .int .i64 q.ro, .int .u64 q.r, .int .u32 q.c, .int .u64 q.b, .int .u16 q.p, .int .u16 q.x, .int .i64 q.a, .int .i64 q.m, .int .i64 q.h, .int .i64 q.d] 30 (0, 0)) := (hm.heap (heap_lt hA_z1) (show ¬ A0 = R0 by omega)).trans hA_z1
       have E_z2 : Ext w z2 := Ext.mutE E_z1 hm (fun n hn h => by have h2 : n = R0 := h; omega)
       have rA0_z2 : z2.cell? ⟨A0, 0, none⟩ = some (.int .i64 q.kd) := (cell_of_row _ _ _ _ _ _ hA_z2).trans rfl
       clear hA_z1 hR_z1 E_z1 rA0_z1
       clear hq hm))
  refine bodyPost_ret (results_cell_row rfl _ _ _ _ _ (0, 0) _ rfl hR_z2 Try.underlying30 rfl (by kernel_rfl)) rfl ?_
  refine ⟨?_, E_z2⟩
  unfold plainM
  rw [if_neg (by have := HK.out; omega), if_neg (by have := HK.out; omega)]
  rfl
set_option maxRecDepth 100000 in
set_option maxHeartbeats 2000000 in
theorem pd_t (q : Mg) (hq : q.ok) (hk : q.kd = 1) (w : World) : Calls Try.prog 20 #[.agg #[.int .i64 q.kd, .bool q.ch, .bool q.ak, .bool q.pr, .bool q.ag, .bool q.ln, .bool q.fw, .int .i64 q.ro, .int .u64 q.r, .int .u32 q.c, .int .u64 q.b, .int .u16 q.p, .int .u16 q.x, .int .i64 q.a, .int .i64 q.m, .int .i64 q.h, .int .i64 q.d]] w fun e w' => e = .returned (.agg #[.int .i64 (plainM q).kd, .bool (plainM q).ch, .bool (plainM q).ak, .bool (plainM q).pr, .bool (plainM q).ag, .bool (plainM q).ln, .bool (plainM q).fw, .int .i64 (plainM q).ro, .int .u64 (plainM q).r, .int .u32 (plainM q).c, .int .u64 (plainM q).b, .int .u16 (plainM q).p, .int .u16 (plainM q).x, .int .i64 (plainM q).a, .int .i64 (plainM q).m, .int .i64 (plainM q).h, .int .i64 (plainM q).d]) ∧ Ext w w' := by
  have hz := zero_msg
  have b0 : decide (q.kd < 0) = false := by simp; omega
  have b2 : decide (2 < q.kd) = false := by simp; omega
  have k1 : (q.kd == 1) = true := by simpa using hk
  have HK := Lib.hid hk
  clear hk
  go_enter Try.func20, Try.ntmps20
  go_wp2_with (first
    | fail
    | ((with_reducible refine at_alloc 30 ?_)
       have hA_w0 : (w.alloc (.cells #[.int .i64 q.kd, .bool q.ch, .bool q.ak, .bool q.pr, .bool q.ag, .bool q.ln, .bool q.fw, .int .i64 q.ro, .int .u64 q.r, .int .u32 q.c, .int .u64 q.b, .int .u16 q.p, .int .u16 q.x, .int .i64 q.a, .int .i64 q.m, .int .i64 q.h, .int .i64 q.d] 30)).heap[w.heap.size]? = some (.cells #[.int .i64 q.kd, .bool q.ch, .bool q.ak, .bool q.pr, .bool q.ag, .bool q.ln, .bool q.fw, .int .i64 q.ro, .int .u64 q.r, .int .u32 q.c, .int .u64 q.b, .int .u16 q.p, .int .u16 q.x, .int .i64 q.a, .int .i64 q.m, .int .i64 q.h, .int .i64 q.d] 30 (0, 0)) := heap_alloc_new _ _
       have hE_w0 : Ext w (w.alloc (.cells #[.int .i64 q.kd, .bool q.ch, .bool q.ak, .bool q.pr, .bool q.ag, .bool q.ln, .bool q.fw, .int .i64 q.ro, .int .u64 q.r, .int .u32 q.c, .int .u64 q.b, .int .u16 q.p, .int .u16 q.x, .int .i64 q.a, .int .i64 q.m, .int .i64 q.h, .int .i64 q.d] 30)) := (Ext.refl _).alloc _
       generalize w.alloc (.cells #[.int .i64 q.kd, .bool q.ch, .bool q.ak, .bool q.pr, .bool q.ag, .bool q.ln, .bool q.fw, .int .i64 q.ro, .int .u64 q.r, .int .u32 q.c, .int .u64 q.b, .int .u16 q.p, .int .u16 q.x, .int .i64 q.a, .int .i64 q.m, .int .i64 q.h, .int .i64 q.d] 30) = w0 at *
       obtain ⟨A0, hA0⟩ : ∃ n, w.heap.size = n := ⟨_, rfl⟩
       rw [hA0] at hA_w0 ⊢
       have hb_A0 : w.heap.size ≤ A0 := by omega
       refine al_zero rfl 30 rfl MZ zero_msg ?_
       intro R0 z1 hq hs hx
       have E_z1 : Ext w z1 := hE_w0.trans hx
       have hA_z1 : z1.heap[A0]? = some (.cells #[.int .i64 q.kd, .bool q.ch, .bool q.ak, .bool q.pr, .bool q.ag, .bool q.ln, .bool q.fw, .int .i64 q.ro, .int .u64 q.r, .int .u32 q.c, .int .u64 q.b, .int .u16 q.p, .int .u16 q.x, .int .i64 q.a, .int .i64 q.m, .int .i64 q.h, .int .i64 q.d] 30 (0, 0)) := (hx.block _ (heap_lt hA_w0)).trans hA_w0
       have hR_z1 : z1.heap[R0]? = some (.cells #[.int .i64 0, .bool false, .bool false, .bool false, .bool false, .bool false, .bool false, .int .i64 0, .int .u64 0, .int .u32 0, .int .u64 0, .int .u16 0, .int .u16 0, .int .i64 0, .int .i64 0, .int .i64 0, .int .i64 0] 30 (0, 0)) := hq
       have hb_R0 : w.heap.size ≤ R0 := by have := hE_w0.size; omega
       have hn_A0R0 : A0 ≠ R0 := by have := heap_lt hA_w0; omega
       have rA0_z1 : z1.cell? ⟨A0, 0, none⟩ = some (.int .i64 q.kd) := (cell_of_row _ _ _ _ _ _ hA_z1).trans rfl
       clear hA_w0 hE_w0
       clear hq hs hx)
    | ((with_reducible refine at_store 30 ?_); refine st_at rfl rfl 30 _ _ rfl R0 0 _ #[.int .i64 1, .bool false, .bool false, .bool false, .bool false, .bool false, .bool false, .int .i64 0, .int .u64 0, .int .u32 0, .int .u64 0, .int .u16 0, .int .u16 0, .int .i64 0, .int .i64 0, .int .i64 0, .int .i64 0] _ #[.int .i64 1, .bool false, .bool false, .bool false, .bool false, .bool false, .bool false, .int .i64 0, .int .u64 0, .int .u32 0, .int .u64 0, .int .u16 0, .int .u16 0, .int .i64 0, .int .i64 0, .int .i64 0, .int .i64 0] _ rfl rfl rfl hR_z1 (by exact (by decide : 0 + 17 ≤ 17)) (by kernel_rfl) rfl rfl ?_
       intro z2 hq hm
       have hR_z2 : z2.heap[R0]? = some (.cells #[.int .i64 1, .bool false, .bool false, .bool false, .bool false, .bool false, .bool false, .int .i64 0, .int .u64 0, .int .u32 0, .int .u64 0, .int .u16 0, .int .u16 0, .int .i64 0, .int .i64 0, .int .i64 0, .int .i64 0] 30 (0, 0)) := hq
       have hA_z2 : z2.heap[A0]? = some (.cells #[.int .i64 q.kd, .bool q.ch, .bool q.ak, .bool q.pr, .bool q.ag, .bool q.ln, .bool q.fw, .int .i64 q.ro, .int .u64 q.r, .int .u32 q.c, .int .u64 q.b, .int .u16 q.p, .int .u16 q.x, .int .i64 q.a, .int .i64 q.m, .int .i64 q.h, .int .i64 q.d] 30 (0, 0)) := (hm.heap (heap_lt hA_z1) (show ¬ A0 = R0 by omega)).trans hA_z1
       have E_z2 : Ext w z2 := Ext.mutE E_z1 hm (fun n hn h => by have h2 : n = R0 := h; omega)
       have rA0_z2 : z2.cell? ⟨A0, 0, none⟩ = some (.int .i64 q.kd) := (cell_of_row _ _ _ _ _ _ hA_z2).trans rfl
       clear hA_z1 hR_z1 E_z1 rA0_z1
       clear hq hm))
  refine bodyPost_ret (results_cell_row rfl _ _ _ _ _ (0, 0) _ rfl hR_z2 Try.underlying30 rfl (by kernel_rfl)) rfl ?_
  refine ⟨?_, E_z2⟩
  unfold plainM
  rw [if_pos HK.out]
  rfl
set_option maxRecDepth 100000 in
set_option maxHeartbeats 2000000 in
theorem pd_c (q : Mg) (hq : q.ok) (hk : q.kd = 0) (w : World) : Calls Try.prog 20 #[.agg #[.int .i64 q.kd, .bool q.ch, .bool q.ak, .bool q.pr, .bool q.ag, .bool q.ln, .bool q.fw, .int .i64 q.ro, .int .u64 q.r, .int .u32 q.c, .int .u64 q.b, .int .u16 q.p, .int .u16 q.x, .int .i64 q.a, .int .i64 q.m, .int .i64 q.h, .int .i64 q.d]] w fun e w' => e = .returned (.agg #[.int .i64 (plainM q).kd, .bool (plainM q).ch, .bool (plainM q).ak, .bool (plainM q).pr, .bool (plainM q).ag, .bool (plainM q).ln, .bool (plainM q).fw, .int .i64 (plainM q).ro, .int .u64 (plainM q).r, .int .u32 (plainM q).c, .int .u64 (plainM q).b, .int .u16 (plainM q).p, .int .u16 (plainM q).x, .int .i64 (plainM q).a, .int .i64 (plainM q).m, .int .i64 (plainM q).h, .int .i64 (plainM q).d]) ∧ Ext w w' := by
  have hz := zero_msg
  have b0 : decide (q.kd < 0) = false := by simp; omega
  have b2 : decide (2 < q.kd) = false := by simp; omega
  have k1 : (q.kd == 1) = false := by simp; omega
  have k0 : (q.kd == 0) = true := by simp [hk]
  have HK := Lib.hid hk
  clear hk
  go_enter Try.func20, Try.ntmps20
  go_wp2_with (first
    | fail
    | ((with_reducible refine at_alloc 30 ?_)
       have hA_w0 : (w.alloc (.cells #[.int .i64 q.kd, .bool q.ch, .bool q.ak, .bool q.pr, .bool q.ag, .bool q.ln, .bool q.fw, .int .i64 q.ro, .int .u64 q.r, .int .u32 q.c, .int .u64 q.b, .int .u16 q.p, .int .u16 q.x, .int .i64 q.a, .int .i64 q.m, .int .i64 q.h, .int .i64 q.d] 30)).heap[w.heap.size]? = some (.cells #[.int .i64 q.kd, .bool q.ch, .bool q.ak, .bool q.pr, .bool q.ag, .bool q.ln, .bool q.fw, .int .i64 q.ro, .int .u64 q.r, .int .u32 q.c, .int .u64 q.b, .int .u16 q.p, .int .u16 q.x, .int .i64 q.a, .int .i64 q.m, .int .i64 q.h, .int .i64 q.d] 30 (0, 0)) := heap_alloc_new _ _
       have hE_w0 : Ext w (w.alloc (.cells #[.int .i64 q.kd, .bool q.ch, .bool q.ak, .bool q.pr, .bool q.ag, .bool q.ln, .bool q.fw, .int .i64 q.ro, .int .u64 q.r, .int .u32 q.c, .int .u64 q.b, .int .u16 q.p, .int .u16 q.x, .int .i64 q.a, .int .i64 q.m, .int .i64 q.h, .int .i64 q.d] 30)) := (Ext.refl _).alloc _
       generalize w.alloc (.cells #[.int .i64 q.kd, .bool q.ch, .bool q.ak, .bool q.pr, .bool q.ag, .bool q.ln, .bool q.fw, .int .i64 q.ro, .int .u64 q.r, .int .u32 q.c, .int .u64 q.b, .int .u16 q.p, .int .u16 q.x, .int .i64 q.a, .int .i64 q.m, .int .i64 q.h, .int .i64 q.d] 30) = w0 at *
       obtain ⟨A0, hA0⟩ : ∃ n, w.heap.size = n := ⟨_, rfl⟩
       rw [hA0] at hA_w0 ⊢
       have hb_A0 : w.heap.size ≤ A0 := by omega
       refine al_zero rfl 30 rfl MZ zero_msg ?_
       intro R0 z1 hq hs hx
       have E_z1 : Ext w z1 := hE_w0.trans hx
       have hA_z1 : z1.heap[A0]? = some (.cells #[.int .i64 q.kd, .bool q.ch, .bool q.ak, .bool q.pr, .bool q.ag, .bool q.ln, .bool q.fw, .int .i64 q.ro, .int .u64 q.r, .int .u32 q.c, .int .u64 q.b, .int .u16 q.p, .int .u16 q.x, .int .i64 q.a, .int .i64 q.m, .int .i64 q.h, .int .i64 q.d] 30 (0, 0)) := (hx.block _ (heap_lt hA_w0)).trans hA_w0
       have hR_z1 : z1.heap[R0]? = some (.cells #[.int .i64 0, .bool false, .bool false, .bool false, .bool false, .bool false, .bool false, .int .i64 0, .int .u64 0, .int .u32 0, .int .u64 0, .int .u16 0, .int .u16 0, .int .i64 0, .int .i64 0, .int .i64 0, .int .i64 0] 30 (0, 0)) := hq
       have hb_R0 : w.heap.size ≤ R0 := by have := hE_w0.size; omega
       have hn_A0R0 : A0 ≠ R0 := by have := heap_lt hA_w0; omega
       have rA0_z1 : z1.cell? ⟨A0, 0, none⟩ = some (.int .i64 q.kd) := (cell_of_row _ _ _ _ _ _ hA_z1).trans rfl
       clear hA_w0 hE_w0
       clear hq hs hx)
    | ((with_reducible refine at_store 24 ?_); refine st_at rfl rfl 24 _ _ rfl A0 12 _ #[.int .u16 0] _ #[.int .i64 q.kd, .bool q.ch, .bool q.ak, .bool q.pr, .bool q.ag, .bool q.ln, .bool q.fw, .int .i64 q.ro, .int .u64 q.r, .int .u32 q.c, .int .u64 q.b, .int .u16 q.p, .int .u16 0, .int .i64 q.a, .int .i64 q.m, .int .i64 q.h, .int .i64 q.d] _ rfl rfl rfl hA_z1 (by exact (by decide : 12 + 1 ≤ 17)) (by kernel_rfl) rfl rfl ?_
       intro z2 hq hm
       have hA_z2 : z2.heap[A0]? = some (.cells #[.int .i64 q.kd, .bool q.ch, .bool q.ak, .bool q.pr, .bool q.ag, .bool q.ln, .bool q.fw, .int .i64 q.ro, .int .u64 q.r, .int .u32 q.c, .int .u64 q.b, .int .u16 q.p, .int .u16 0, .int .i64 q.a, .int .i64 q.m, .int .i64 q.h, .int .i64 q.d] 30 (0, 0)) := hq
       have hR_z2 : z2.heap[R0]? = some (.cells #[.int .i64 0, .bool false, .bool false, .bool false, .bool false, .bool false, .bool false, .int .i64 0, .int .u64 0, .int .u32 0, .int .u64 0, .int .u16 0, .int .u16 0, .int .i64 0, .int .i64 0, .int .i64 0, .int .i64 0] 30 (0, 0)) := (hm.heap (heap_lt hR_z1) (show ¬ R0 = A0 by omega)).trans hR_z1
       have E_z2 : Ext w z2 := Ext.mutE E_z1 hm (fun n hn h => by have h2 : n = A0 := h; omega)
       have rA0_z2 : z2.cell? ⟨A0, 0, none⟩ = some (.int .i64 q.kd) := (cell_of_row _ _ _ _ _ _ hA_z2).trans rfl
       clear hA_z1 hR_z1 E_z1 rA0_z1
       clear hq hm))
  refine beginZ (S := fun W' => Ext z2 W') 22 (by kernel_rfl) ?_
  intro wd hqx
  have hq0 : Ext z2 wd := hqx
  have hxr := (hqx.block _ (heap_lt hA_z2)).trans hA_z2
  refine takeZ (i := 0) (z := 22) (v := (.pointer (some ⟨A0, 13, none⟩))) rfl rfl (by kernel_rfl) (by kernel_rfl) (by kernel_rfl) (by kernel_rfl) (by kernel_rfl) (by kernel_rfl) (fun _ _ _ h => h) (Or.inl ⟨rfl, fun _ _ => rfl⟩) hq0 ?_
  simp only [Act.put, List.setIfInBounds_toArray, List.set_cons_zero, List.set_cons_succ]
  refine takeZ (i := 1) (z := 22) (v := (.pointer (some ⟨A0, 13, none⟩))) rfl rfl (by kernel_rfl) (by kernel_rfl) (by kernel_rfl) (by kernel_rfl) (by kernel_rfl) (by kernel_rfl) (fun _ _ _ h => h) (Or.inl ⟨rfl, fun _ _ => rfl⟩) hq0 ?_
  simp only [Act.put, List.setIfInBounds_toArray, List.set_cons_zero, List.set_cons_succ]
  refine takeZ (i := 2) (z := 22) (v := _) rfl rfl (by kernel_rfl) (by kernel_rfl) (by kernel_rfl) (by kernel_rfl) (by kernel_rfl) (by kernel_rfl) (fun _ _ _ h => h) (yieldsIf_cell rfl 3 _ rfl ⟨A0, 13, none⟩ rfl (.int .i64 q.a) _ (fun W' hW' => (cell_of_row _ _ _ _ _ _ ((hW'.block _ (heap_lt hA_z2)).trans hA_z2)).trans rfl) Try.underlying3 rfl) hq0 ?_
  simp only [Act.put, List.setIfInBounds_toArray, List.set_cons_zero, List.set_cons_succ]
  refine takeZ (i := 5) (z := 22) (v := (.pointer (some ⟨A0, 13, none⟩))) rfl rfl (by kernel_rfl) (by kernel_rfl) (by kernel_rfl) (by kernel_rfl) (by kernel_rfl) (by kernel_rfl) (fun _ _ _ h => h) (Or.inl ⟨rfl, fun _ _ => rfl⟩) hq0 ?_
  simp only [Act.put, List.setIfInBounds_toArray, List.set_cons_zero, List.set_cons_succ]
  refine takeZ (i := 6) (z := 22) (v := (.pointer (some ⟨A0, 14, none⟩))) rfl rfl (by kernel_rfl) (by kernel_rfl) (by kernel_rfl) (by kernel_rfl) (by kernel_rfl) (by kernel_rfl) (fun _ _ _ h => h) (Or.inl ⟨rfl, fun _ _ => rfl⟩) hq0 ?_
  simp only [Act.put, List.setIfInBounds_toArray, List.set_cons_zero, List.set_cons_succ]
  refine takeZ (i := 7) (z := 22) (v := _) rfl rfl (by kernel_rfl) (by kernel_rfl) (by kernel_rfl) (by kernel_rfl) (by kernel_rfl) (by kernel_rfl) (fun _ _ _ h => h) (yieldsIf_cell rfl 3 _ rfl ⟨A0, 14, none⟩ rfl (.int .i64 q.m) _ (fun W' hW' => (cell_of_row _ _ _ _ _ _ ((hW'.block _ (heap_lt hA_z2)).trans hA_z2)).trans rfl) Try.underlying3 rfl) hq0 ?_
  simp only [Act.put, List.setIfInBounds_toArray, List.set_cons_zero, List.set_cons_succ]
  refine takeZ (i := 10) (z := 22) (v := (.pointer (some ⟨A0, 13, none⟩))) rfl rfl (by kernel_rfl) (by kernel_rfl) (by kernel_rfl) (by kernel_rfl) (by kernel_rfl) (by kernel_rfl) (fun _ _ _ h => h) (Or.inl ⟨rfl, fun _ _ => rfl⟩) hq0 ?_
  simp only [Act.put, List.setIfInBounds_toArray, List.set_cons_zero, List.set_cons_succ]
  refine takeZ (i := 11) (z := 22) (v := (.pointer (some ⟨A0, 15, none⟩))) rfl rfl (by kernel_rfl) (by kernel_rfl) (by kernel_rfl) (by kernel_rfl) (by kernel_rfl) (by kernel_rfl) (fun _ _ _ h => h) (Or.inl ⟨rfl, fun _ _ => rfl⟩) hq0 ?_
  simp only [Act.put, List.setIfInBounds_toArray, List.set_cons_zero, List.set_cons_succ]
  refine takeZ (i := 12) (z := 22) (v := _) rfl rfl (by kernel_rfl) (by kernel_rfl) (by kernel_rfl) (by kernel_rfl) (by kernel_rfl) (by kernel_rfl) (fun _ _ _ h => h) (yieldsIf_cell rfl 3 _ rfl ⟨A0, 15, none⟩ rfl (.int .i64 q.h) _ (fun W' hW' => (cell_of_row _ _ _ _ _ _ ((hW'.block _ (heap_lt hA_z2)).trans hA_z2)).trans rfl) Try.underlying3 rfl) hq0 ?_
  simp only [Act.put, List.setIfInBounds_toArray, List.set_cons_zero, List.set_cons_succ]
  refine takeZ (i := 15) (z := 22) (v := (.pointer (some ⟨A0, 13, none⟩))) rfl rfl (by kernel_rfl) (by kernel_rfl) (by kernel_rfl) (by kernel_rfl) (by kernel_rfl) (by kernel_rfl) (fun _ _ _ h => h) (Or.inl ⟨rfl, fun _ _ => rfl⟩) hq0 ?_
  simp only [Act.put, List.setIfInBounds_toArray, List.set_cons_zero, List.set_cons_succ]
  refine takeZ (i := 16) (z := 22) (v := (.pointer (some ⟨A0, 16, none⟩))) rfl rfl (by kernel_rfl) (by kernel_rfl) (by kernel_rfl) (by kernel_rfl) (by kernel_rfl) (by kernel_rfl) (fun _ _ _ h => h) (Or.inl ⟨rfl, fun _ _ => rfl⟩) hq0 ?_
  simp only [Act.put, List.setIfInBounds_toArray, List.set_cons_zero, List.set_cons_succ]
  refine takeZ (i := 17) (z := 22) (v := _) rfl rfl (by kernel_rfl) (by kernel_rfl) (by kernel_rfl) (by kernel_rfl) (by kernel_rfl) (by kernel_rfl) (fun _ _ _ h => h) (yieldsIf_cell rfl 3 _ rfl ⟨A0, 16, none⟩ rfl (.int .i64 q.d) _ (fun W' hW' => (cell_of_row _ _ _ _ _ _ ((hW'.block _ (heap_lt hA_z2)).trans hA_z2)).trans rfl) Try.underlying3 rfl) hq0 ?_
  simp only [Act.put, List.setIfInBounds_toArray, List.set_cons_zero, List.set_cons_succ]
  refine runZ (i := 3) rfl rfl (by kernel_rfl) (fun K hK => ?_)
  go_simp
  refine (refto_q q.a _).mono ?_
  rintro e wc1 ⟨rfl, hx⟩
  have hq1 := hq0.trans hx
  have hxr := (hx.block _ (heap_lt hxr)).trans hxr
  refine hK.out _ _ hq1 (fun hHeld => ?_)
  try simp only [Act.put, List.setIfInBounds_toArray, List.set_cons_zero, List.set_cons_succ]
  clear hK K hHeld
  refine runZ (i := 4) rfl rfl (by kernel_rfl) (fun K hK => ?_)
  go_simp
  refine (reffrom_q q.a _).mono ?_
  rintro e wc2 ⟨rfl, hx⟩
  have hq2 := hq1.trans hx
  have hxr := (hx.block _ (heap_lt hxr)).trans hxr
  refine hK.out _ _ hq2 (fun hHeld => ?_)
  try simp only [Act.put, List.setIfInBounds_toArray, List.set_cons_zero, List.set_cons_succ]
  clear hK K hHeld
  refine runZ (i := 8) rfl rfl (by kernel_rfl) (fun K hK => ?_)
  go_simp
  refine (refto_q q.m _).mono ?_
  rintro e wc3 ⟨rfl, hx⟩
  have hq3 := hq2.trans hx
  have hxr := (hx.block _ (heap_lt hxr)).trans hxr
  refine hK.out _ _ hq3 (fun hHeld => ?_)
  try simp only [Act.put, List.setIfInBounds_toArray, List.set_cons_zero, List.set_cons_succ]
  clear hK K hHeld
  refine runZ (i := 9) rfl rfl (by kernel_rfl) (fun K hK => ?_)
  go_simp
  refine (reffrom_q q.m _).mono ?_
  rintro e wc4 ⟨rfl, hx⟩
  have hq4 := hq3.trans hx
  have hxr := (hx.block _ (heap_lt hxr)).trans hxr
  refine hK.out _ _ hq4 (fun hHeld => ?_)
  try simp only [Act.put, List.setIfInBounds_toArray, List.set_cons_zero, List.set_cons_succ]
  clear hK K hHeld
  refine runZ (i := 13) rfl rfl (by kernel_rfl) (fun K hK => ?_)
  go_simp
  refine (refto_q q.h _).mono ?_
  rintro e wc5 ⟨rfl, hx⟩
  have hq5 := hq4.trans hx
  have hxr := (hx.block _ (heap_lt hxr)).trans hxr
  refine hK.out _ _ hq5 (fun hHeld => ?_)
  try simp only [Act.put, List.setIfInBounds_toArray, List.set_cons_zero, List.set_cons_succ]
  clear hK K hHeld
  refine runZ (i := 14) rfl rfl (by kernel_rfl) (fun K hK => ?_)
  go_simp
  refine (reffrom_q q.h _).mono ?_
  rintro e wc6 ⟨rfl, hx⟩
  have hq6 := hq5.trans hx
  have hxr := (hx.block _ (heap_lt hxr)).trans hxr
  refine hK.out _ _ hq6 (fun hHeld => ?_)
  try simp only [Act.put, List.setIfInBounds_toArray, List.set_cons_zero, List.set_cons_succ]
  clear hK K hHeld
  refine runZ (i := 18) rfl rfl (by kernel_rfl) (fun K hK => ?_)
  go_simp
  refine (refto_q q.d _).mono ?_
  rintro e wc7 ⟨rfl, hx⟩
  have hq7 := hq6.trans hx
  have hxr := (hx.block _ (heap_lt hxr)).trans hxr
  refine hK.out _ _ hq7 (fun hHeld => ?_)
  try simp only [Act.put, List.setIfInBounds_toArray, List.set_cons_zero, List.set_cons_succ]
  clear hK K hHeld
  refine runZ (i := 19) rfl rfl (by kernel_rfl) (fun K hK => ?_)
  go_simp
  refine (reffrom_q q.d _).mono ?_
  rintro e wc8 ⟨rfl, hx⟩
  have hq8 := hq7.trans hx
  have hxr := (hx.block _ (heap_lt hxr)).trans hxr
  refine hK.out _ _ hq8 (fun hHeld => ?_)
  try simp only [Act.put, List.setIfInBounds_toArray, List.set_cons_zero, List.set_cons_succ]
  clear hK K hHeld
  refine takeZ (i := 20) (z := 22) (v := (.agg #[.int .i64 (told q.a), .int .i64 (told q.m), .int .i64 (told q.h), .int .i64 (told q.d)])) rfl rfl (by kernel_rfl) (by kernel_rfl) (by kernel_rfl) (by kernel_rfl) (by kernel_rfl) (by kernel_rfl) (fun _ _ _ h => h) (yieldsIf_build rfl 28 _ rfl [(0, .int .i64 (told q.a)), (1, .int .i64 (told q.m)), (2, .int .i64 (told q.h)), (3, .int .i64 (told q.d))] rfl #[.int .i64 (told q.a), .int .i64 (told q.m), .int .i64 (told q.h), .int .i64 (told q.d)] (times_b _ _ _ _)) hq8 ?_
  simp only [Act.put, List.setIfInBounds_toArray, List.set_cons_zero, List.set_cons_succ]
  refine takeZ (i := 21) (z := 22) (v := (.pointer (some ⟨A0, 13, none⟩))) rfl rfl (by kernel_rfl) (by kernel_rfl) (by kernel_rfl) (by kernel_rfl) (by kernel_rfl) (by kernel_rfl) (fun _ _ _ h => h) (Or.inl ⟨rfl, fun _ _ => rfl⟩) hq8 ?_
  simp only [Act.put, List.setIfInBounds_toArray, List.set_cons_zero, List.set_cons_succ]
  refine runZl (z := 22) rfl rfl (by kernel_rfl) (fun K hK => ?_)
  refine wp_st_at rfl 28 _ _ rfl A0 13 _ #[.int .i64 (told q.a), .int .i64 (told q.m), .int .i64 (told q.h), .int .i64 (told q.d)] _ #[.int .i64 q.kd, .bool q.ch, .bool q.ak, .bool q.pr, .bool q.ag, .bool q.ln, .bool q.fw, .int .i64 q.ro, .int .u64 q.r, .int .u32 q.c, .int .u64 q.b, .int .u16 q.p, .int .u16 0, .int .i64 (told q.a), .int .i64 (told q.m), .int .i64 (told q.h), .int .i64 (told q.d)] _ rfl rfl rfl hxr (by exact (by decide : 13 + 4 ≤ 17)) (by kernel_rfl) rfl rfl (fun ws22 hrow22 hm22 => ?_)
  refine hK.out _ _ ?_
  try simp only [Act.put, List.setIfInBounds_toArray, List.set_cons_zero, List.set_cons_succ]
  clear hK K
  refine wpAnyH_done (by kernel_rfl) ?_ _
  generalize ws22 = z3 at *
  have tq0 := (hq8.block _ (heap_lt hA_z2)).trans hA_z2
  have tq0 := (hq8.block _ (heap_lt hR_z2)).trans hR_z2
  have tq1 := (hm22.heap (heap_lt tq0) (show ¬ R0 = A0 by omega)).trans tq0
  have hR_z3 : z3.heap[R0]? = some (.cells #[.int .i64 0, .bool false, .bool false, .bool false, .bool false, .bool false, .bool false, .int .i64 0, .int .u64 0, .int .u32 0, .int .u64 0, .int .u16 0, .int .u16 0, .int .i64 0, .int .i64 0, .int .i64 0, .int .i64 0] 30 (0, 0)) := tq1
  have eq0 : Ext w _ := E_z2.trans hq8
  have eq1 : Ext w _ := Ext.mutE eq0 hm22 (fun n hn h => by have h2 : n = A0 := h; omega)
  have E_z3 : Ext w z3 := eq1
  have hA_z3 : z3.heap[A0]? = some (.cells #[.int .i64 q.kd, .bool q.ch, .bool q.ak, .bool q.pr, .bool q.ag, .bool q.ln, .bool q.fw, .int .i64 q.ro, .int .u64 q.r, .int .u32 q.c, .int .u64 q.b, .int .u16 q.p, .int .u16 0, .int .i64 (told q.a), .int .i64 (told q.m), .int .i64 (told q.h), .int .i64 (told q.d)] 30 (0, 0)) := hrow22
  have rA0_z3 : z3.cell? ⟨A0, 0, none⟩ = some (.int .i64 q.kd) := (cell_of_row _ _ _ _ _ _ hA_z3).trans rfl
  have rA1_z3 : z3.cell? ⟨A0, 1, none⟩ = some (.bool q.ch) := (cell_of_row _ _ _ _ _ _ hA_z3).trans rfl
  have rA2_z3 : z3.cell? ⟨A0, 2, none⟩ = some (.bool q.ak) := (cell_of_row _ _ _ _ _ _ hA_z3).trans rfl
  clear hA_z2 hR_z2 E_z2 rA0_z2
  clear hq0 hq1 hq2 hq3 hq4 hq5 hq6 hq7 hq8 hm22 tq0 tq1 eq0 eq1
  have hbld := Lib.hid (msg5_b q.ch q.ak q.r q.c q.b q.p 0 (told q.a) (told q.m) (told q.h) (told q.d))
  go_wp2_with (first
    | fail
    | ((with_reducible refine at_load 26 ?_); refine wpList_load_mid rfl 26 _ rfl A0 8 rfl [.int .u64 q.r, .int .u32 q.c, .int .u64 q.b, .int .u16 q.p, .int .u16 0] _ (row_range hA_z3 8 (by rfl)) Try.underlying26 rfl (by kernel_rfl) ?_)
    | ((with_reducible refine at_load 28 ?_); refine wpList_load_mid rfl 28 _ rfl A0 13 rfl [.int .i64 (told q.a), .int .i64 (told q.m), .int .i64 (told q.h), .int .i64 (told q.d)] _ (row_range hA_z3 13 (by rfl)) Try.underlying28 rfl (by kernel_rfl) ?_)
    | ((with_reducible refine at_build 30 ?_); refine wpList_build2 rfl 30 _ rfl [(1, .bool q.ch), (2, .bool q.ak), (7, .int .i64 4), (8, .agg #[.int .u64 q.r, .int .u32 q.c, .int .u64 q.b, .int .u16 q.p, .int .u16 0]), (9, .agg #[.int .i64 (told q.a), .int .i64 (told q.m), .int .i64 (told q.h), .int .i64 (told q.d)])] rfl #[.int .i64 0, .bool q.ch, .bool q.ak, .bool false, .bool false, .bool false, .bool false, .int .i64 4, .int .u64 q.r, .int .u32 q.c, .int .u64 q.b, .int .u16 q.p, .int .u16 0, .int .i64 (told q.a), .int .i64 (told q.m), .int .i64 (told q.h), .int .i64 (told q.d)] hbld.out ?_)
    | ((with_reducible refine at_store 30 ?_); refine st_at rfl rfl 30 _ _ rfl R0 0 _ #[.int .i64 0, .bool q.ch, .bool q.ak, .bool false, .bool false, .bool false, .bool false, .int .i64 4, .int .u64 q.r, .int .u32 q.c, .int .u64 q.b, .int .u16 q.p, .int .u16 0, .int .i64 (told q.a), .int .i64 (told q.m), .int .i64 (told q.h), .int .i64 (told q.d)] _ #[.int .i64 0, .bool q.ch, .bool q.ak, .bool false, .bool false, .bool false, .bool false, .int .i64 4, .int .u64 q.r, .int .u32 q.c, .int .u64 q.b, .int .u16 q.p, .int .u16 0, .int .i64 (told q.a), .int .i64 (told q.m), .int .i64 (told q.h), .int .i64 (told q.d)] _ rfl rfl rfl hR_z3 (by exact (by decide : 0 + 17 ≤ 17)) (by kernel_rfl) rfl rfl ?_
       intro z4 hq hm
       have hR_z4 : z4.heap[R0]? = some (.cells #[.int .i64 0, .bool q.ch, .bool q.ak, .bool false, .bool false, .bool false, .bool false, .int .i64 4, .int .u64 q.r, .int .u32 q.c, .int .u64 q.b, .int .u16 q.p, .int .u16 0, .int .i64 (told q.a), .int .i64 (told q.m), .int .i64 (told q.h), .int .i64 (told q.d)] 30 (0, 0)) := hq
       have hA_z4 : z4.heap[A0]? = some (.cells #[.int .i64 q.kd, .bool q.ch, .bool q.ak, .bool q.pr, .bool q.ag, .bool q.ln, .bool q.fw, .int .i64 q.ro, .int .u64 q.r, .int .u32 q.c, .int .u64 q.b, .int .u16 q.p, .int .u16 0, .int .i64 (told q.a), .int .i64 (told q.m), .int .i64 (told q.h), .int .i64 (told q.d)] 30 (0, 0)) := (hm.heap (heap_lt hA_z3) (show ¬ A0 = R0 by omega)).trans hA_z3
       have E_z4 : Ext w z4 := Ext.mutE E_z3 hm (fun n hn h => by have h2 : n = R0 := h; omega)
       have rA0_z4 : z4.cell? ⟨A0, 0, none⟩ = some (.int .i64 q.kd) := (cell_of_row _ _ _ _ _ _ hA_z4).trans rfl
       have rA1_z4 : z4.cell? ⟨A0, 1, none⟩ = some (.bool q.ch) := (cell_of_row _ _ _ _ _ _ hA_z4).trans rfl
       have rA2_z4 : z4.cell? ⟨A0, 2, none⟩ = some (.bool q.ak) := (cell_of_row _ _ _ _ _ _ hA_z4).trans rfl
       clear hA_z3 hR_z3 E_z3 rA0_z3 rA1_z3 rA2_z3
       clear hq hm))
  refine bodyPost_ret (results_cell_row rfl _ _ _ _ _ (0, 0) _ rfl hR_z4 Try.underlying30 rfl (by kernel_rfl)) rfl ?_
  refine ⟨?_, E_z4⟩
  unfold plainM
  rw [if_neg (by have := HK.out; omega), if_pos (.inl HK.out), flagged_flags, if_neg (by have := HK.out; omega), HK.out]
  rfl
set_option maxRecDepth 100000 in
set_option maxHeartbeats 2000000 in
theorem pd_r2 (q : Mg) (hq : q.ok) (hk : q.kd = 2) (hr : q.ro = 2) (w : World) : Calls Try.prog 20 #[.agg #[.int .i64 q.kd, .bool q.ch, .bool q.ak, .bool q.pr, .bool q.ag, .bool q.ln, .bool q.fw, .int .i64 q.ro, .int .u64 q.r, .int .u32 q.c, .int .u64 q.b, .int .u16 q.p, .int .u16 q.x, .int .i64 q.a, .int .i64 q.m, .int .i64 q.h, .int .i64 q.d]] w fun e w' => e = .returned (.agg #[.int .i64 (plainM q).kd, .bool (plainM q).ch, .bool (plainM q).ak, .bool (plainM q).pr, .bool (plainM q).ag, .bool (plainM q).ln, .bool (plainM q).fw, .int .i64 (plainM q).ro, .int .u64 (plainM q).r, .int .u32 (plainM q).c, .int .u64 (plainM q).b, .int .u16 (plainM q).p, .int .u16 (plainM q).x, .int .i64 (plainM q).a, .int .i64 (plainM q).m, .int .i64 (plainM q).h, .int .i64 (plainM q).d]) ∧ Ext w w' := by
  have hz := zero_msg
  have b0 : decide (q.kd < 0) = false := by simp; omega
  have b2 : decide (2 < q.kd) = false := by simp; omega
  have k1 : (q.kd == 1) = false := by simp; omega
  have k0 : (q.kd == 0) = false := by simp [hk]
  have r2 : (q.ro == 2) = true := by simpa using hr
  have HR := Lib.hid hr
  clear hr
  have HK := Lib.hid hk
  clear hk
  go_enter Try.func20, Try.ntmps20
  go_wp2_with (first
    | fail
    | ((with_reducible refine at_alloc 30 ?_)
       have hA_w0 : (w.alloc (.cells #[.int .i64 q.kd, .bool q.ch, .bool q.ak, .bool q.pr, .bool q.ag, .bool q.ln, .bool q.fw, .int .i64 q.ro, .int .u64 q.r, .int .u32 q.c, .int .u64 q.b, .int .u16 q.p, .int .u16 q.x, .int .i64 q.a, .int .i64 q.m, .int .i64 q.h, .int .i64 q.d] 30)).heap[w.heap.size]? = some (.cells #[.int .i64 q.kd, .bool q.ch, .bool q.ak, .bool q.pr, .bool q.ag, .bool q.ln, .bool q.fw, .int .i64 q.ro, .int .u64 q.r, .int .u32 q.c, .int .u64 q.b, .int .u16 q.p, .int .u16 q.x, .int .i64 q.a, .int .i64 q.m, .int .i64 q.h, .int .i64 q.d] 30 (0, 0)) := heap_alloc_new _ _
       have hE_w0 : Ext w (w.alloc (.cells #[.int .i64 q.kd, .bool q.ch, .bool q.ak, .bool q.pr, .bool q.ag, .bool q.ln, .bool q.fw, .int .i64 q.ro, .int .u64 q.r, .int .u32 q.c, .int .u64 q.b, .int .u16 q.p, .int .u16 q.x, .int .i64 q.a, .int .i64 q.m, .int .i64 q.h, .int .i64 q.d] 30)) := (Ext.refl _).alloc _
       generalize w.alloc (.cells #[.int .i64 q.kd, .bool q.ch, .bool q.ak, .bool q.pr, .bool q.ag, .bool q.ln, .bool q.fw, .int .i64 q.ro, .int .u64 q.r, .int .u32 q.c, .int .u64 q.b, .int .u16 q.p, .int .u16 q.x, .int .i64 q.a, .int .i64 q.m, .int .i64 q.h, .int .i64 q.d] 30) = w0 at *
       obtain ⟨A0, hA0⟩ : ∃ n, w.heap.size = n := ⟨_, rfl⟩
       rw [hA0] at hA_w0 ⊢
       have hb_A0 : w.heap.size ≤ A0 := by omega
       refine al_zero rfl 30 rfl MZ zero_msg ?_
       intro R0 z1 hq hs hx
       have E_z1 : Ext w z1 := hE_w0.trans hx
       have hA_z1 : z1.heap[A0]? = some (.cells #[.int .i64 q.kd, .bool q.ch, .bool q.ak, .bool q.pr, .bool q.ag, .bool q.ln, .bool q.fw, .int .i64 q.ro, .int .u64 q.r, .int .u32 q.c, .int .u64 q.b, .int .u16 q.p, .int .u16 q.x, .int .i64 q.a, .int .i64 q.m, .int .i64 q.h, .int .i64 q.d] 30 (0, 0)) := (hx.block _ (heap_lt hA_w0)).trans hA_w0
       have hR_z1 : z1.heap[R0]? = some (.cells #[.int .i64 0, .bool false, .bool false, .bool false, .bool false, .bool false, .bool false, .int .i64 0, .int .u64 0, .int .u32 0, .int .u64 0, .int .u16 0, .int .u16 0, .int .i64 0, .int .i64 0, .int .i64 0, .int .i64 0] 30 (0, 0)) := hq
       have hb_R0 : w.heap.size ≤ R0 := by have := hE_w0.size; omega
       have hn_A0R0 : A0 ≠ R0 := by have := heap_lt hA_w0; omega
       have rA0_z1 : z1.cell? ⟨A0, 0, none⟩ = some (.int .i64 q.kd) := (cell_of_row _ _ _ _ _ _ hA_z1).trans rfl
       clear hA_w0 hE_w0
       clear hq hs hx)
    | ((with_reducible refine at_store 24 ?_); refine st_at rfl rfl 24 _ _ rfl A0 12 _ #[.int .u16 0] _ #[.int .i64 q.kd, .bool q.ch, .bool q.ak, .bool q.pr, .bool q.ag, .bool q.ln, .bool q.fw, .int .i64 q.ro, .int .u64 q.r, .int .u32 q.c, .int .u64 q.b, .int .u16 q.p, .int .u16 0, .int .i64 q.a, .int .i64 q.m, .int .i64 q.h, .int .i64 q.d] _ rfl rfl rfl hA_z1 (by exact (by decide : 12 + 1 ≤ 17)) (by kernel_rfl) rfl rfl ?_
       intro z2 hq hm
       have hA_z2 : z2.heap[A0]? = some (.cells #[.int .i64 q.kd, .bool q.ch, .bool q.ak, .bool q.pr, .bool q.ag, .bool q.ln, .bool q.fw, .int .i64 q.ro, .int .u64 q.r, .int .u32 q.c, .int .u64 q.b, .int .u16 q.p, .int .u16 0, .int .i64 q.a, .int .i64 q.m, .int .i64 q.h, .int .i64 q.d] 30 (0, 0)) := hq
       have hR_z2 : z2.heap[R0]? = some (.cells #[.int .i64 0, .bool false, .bool false, .bool false, .bool false, .bool false, .bool false, .int .i64 0, .int .u64 0, .int .u32 0, .int .u64 0, .int .u16 0, .int .u16 0, .int .i64 0, .int .i64 0, .int .i64 0, .int .i64 0] 30 (0, 0)) := (hm.heap (heap_lt hR_z1) (show ¬ R0 = A0 by omega)).trans hR_z1
       have E_z2 : Ext w z2 := Ext.mutE E_z1 hm (fun n hn h => by have h2 : n = A0 := h; omega)
       have rA0_z2 : z2.cell? ⟨A0, 0, none⟩ = some (.int .i64 q.kd) := (cell_of_row _ _ _ _ _ _ hA_z2).trans rfl
       clear hA_z1 hR_z1 E_z1 rA0_z1
       clear hq hm))
  refine beginZ (S := fun W' => Ext z2 W') 22 (by kernel_rfl) ?_
  intro wd hqx
  have hq0 : Ext z2 wd := hqx
  have hxr := (hqx.block _ (heap_lt hA_z2)).trans hA_z2
  refine takeZ (i := 0) (z := 22) (v := (.pointer (some ⟨A0, 13, none⟩))) rfl rfl (by kernel_rfl) (by kernel_rfl) (by kernel_rfl) (by kernel_rfl) (by kernel_rfl) (by kernel_rfl) (fun _ _ _ h => h) (Or.inl ⟨rfl, fun _ _ => rfl⟩) hq0 ?_
  simp only [Act.put, List.setIfInBounds_toArray, List.set_cons_zero, List.set_cons_succ]
  refine takeZ (i := 1) (z := 22) (v := (.pointer (some ⟨A0, 13, none⟩))) rfl rfl (by kernel_rfl) (by kernel_rfl) (by kernel_rfl) (by kernel_rfl) (by kernel_rfl) (by kernel_rfl) (fun _ _ _ h => h) (Or.inl ⟨rfl, fun _ _ => rfl⟩) hq0 ?_
  simp only [Act.put, List.setIfInBounds_toArray, List.set_cons_zero, List.set_cons_succ]
  refine takeZ (i := 2) (z := 22) (v := _) rfl rfl (by kernel_rfl) (by kernel_rfl) (by kernel_rfl) (by kernel_rfl) (by kernel_rfl) (by kernel_rfl) (fun _ _ _ h => h) (yieldsIf_cell rfl 3 _ rfl ⟨A0, 13, none⟩ rfl (.int .i64 q.a) _ (fun W' hW' => (cell_of_row _ _ _ _ _ _ ((hW'.block _ (heap_lt hA_z2)).trans hA_z2)).trans rfl) Try.underlying3 rfl) hq0 ?_
  simp only [Act.put, List.setIfInBounds_toArray, List.set_cons_zero, List.set_cons_succ]
  refine takeZ (i := 5) (z := 22) (v := (.pointer (some ⟨A0, 13, none⟩))) rfl rfl (by kernel_rfl) (by kernel_rfl) (by kernel_rfl) (by kernel_rfl) (by kernel_rfl) (by kernel_rfl) (fun _ _ _ h => h) (Or.inl ⟨rfl, fun _ _ => rfl⟩) hq0 ?_
  simp only [Act.put, List.setIfInBounds_toArray, List.set_cons_zero, List.set_cons_succ]
  refine takeZ (i := 6) (z := 22) (v := (.pointer (some ⟨A0, 14, none⟩))) rfl rfl (by kernel_rfl) (by kernel_rfl) (by kernel_rfl) (by kernel_rfl) (by kernel_rfl) (by kernel_rfl) (fun _ _ _ h => h) (Or.inl ⟨rfl, fun _ _ => rfl⟩) hq0 ?_
  simp only [Act.put, List.setIfInBounds_toArray, List.set_cons_zero, List.set_cons_succ]
  refine takeZ (i := 7) (z := 22) (v := _) rfl rfl (by kernel_rfl) (by kernel_rfl) (by kernel_rfl) (by kernel_rfl) (by kernel_rfl) (by kernel_rfl) (fun _ _ _ h => h) (yieldsIf_cell rfl 3 _ rfl ⟨A0, 14, none⟩ rfl (.int .i64 q.m) _ (fun W' hW' => (cell_of_row _ _ _ _ _ _ ((hW'.block _ (heap_lt hA_z2)).trans hA_z2)).trans rfl) Try.underlying3 rfl) hq0 ?_
  simp only [Act.put, List.setIfInBounds_toArray, List.set_cons_zero, List.set_cons_succ]
  refine takeZ (i := 10) (z := 22) (v := (.pointer (some ⟨A0, 13, none⟩))) rfl rfl (by kernel_rfl) (by kernel_rfl) (by kernel_rfl) (by kernel_rfl) (by kernel_rfl) (by kernel_rfl) (fun _ _ _ h => h) (Or.inl ⟨rfl, fun _ _ => rfl⟩) hq0 ?_
  simp only [Act.put, List.setIfInBounds_toArray, List.set_cons_zero, List.set_cons_succ]
  refine takeZ (i := 11) (z := 22) (v := (.pointer (some ⟨A0, 15, none⟩))) rfl rfl (by kernel_rfl) (by kernel_rfl) (by kernel_rfl) (by kernel_rfl) (by kernel_rfl) (by kernel_rfl) (fun _ _ _ h => h) (Or.inl ⟨rfl, fun _ _ => rfl⟩) hq0 ?_
  simp only [Act.put, List.setIfInBounds_toArray, List.set_cons_zero, List.set_cons_succ]
  refine takeZ (i := 12) (z := 22) (v := _) rfl rfl (by kernel_rfl) (by kernel_rfl) (by kernel_rfl) (by kernel_rfl) (by kernel_rfl) (by kernel_rfl) (fun _ _ _ h => h) (yieldsIf_cell rfl 3 _ rfl ⟨A0, 15, none⟩ rfl (.int .i64 q.h) _ (fun W' hW' => (cell_of_row _ _ _ _ _ _ ((hW'.block _ (heap_lt hA_z2)).trans hA_z2)).trans rfl) Try.underlying3 rfl) hq0 ?_
  simp only [Act.put, List.setIfInBounds_toArray, List.set_cons_zero, List.set_cons_succ]
  refine takeZ (i := 15) (z := 22) (v := (.pointer (some ⟨A0, 13, none⟩))) rfl rfl (by kernel_rfl) (by kernel_rfl) (by kernel_rfl) (by kernel_rfl) (by kernel_rfl) (by kernel_rfl) (fun _ _ _ h => h) (Or.inl ⟨rfl, fun _ _ => rfl⟩) hq0 ?_
  simp only [Act.put, List.setIfInBounds_toArray, List.set_cons_zero, List.set_cons_succ]
  refine takeZ (i := 16) (z := 22) (v := (.pointer (some ⟨A0, 16, none⟩))) rfl rfl (by kernel_rfl) (by kernel_rfl) (by kernel_rfl) (by kernel_rfl) (by kernel_rfl) (by kernel_rfl) (fun _ _ _ h => h) (Or.inl ⟨rfl, fun _ _ => rfl⟩) hq0 ?_
  simp only [Act.put, List.setIfInBounds_toArray, List.set_cons_zero, List.set_cons_succ]
  refine takeZ (i := 17) (z := 22) (v := _) rfl rfl (by kernel_rfl) (by kernel_rfl) (by kernel_rfl) (by kernel_rfl) (by kernel_rfl) (by kernel_rfl) (fun _ _ _ h => h) (yieldsIf_cell rfl 3 _ rfl ⟨A0, 16, none⟩ rfl (.int .i64 q.d) _ (fun W' hW' => (cell_of_row _ _ _ _ _ _ ((hW'.block _ (heap_lt hA_z2)).trans hA_z2)).trans rfl) Try.underlying3 rfl) hq0 ?_
  simp only [Act.put, List.setIfInBounds_toArray, List.set_cons_zero, List.set_cons_succ]
  refine runZ (i := 3) rfl rfl (by kernel_rfl) (fun K hK => ?_)
  go_simp
  refine (refto_q q.a _).mono ?_
  rintro e wc1 ⟨rfl, hx⟩
  have hq1 := hq0.trans hx
  have hxr := (hx.block _ (heap_lt hxr)).trans hxr
  refine hK.out _ _ hq1 (fun hHeld => ?_)
  try simp only [Act.put, List.setIfInBounds_toArray, List.set_cons_zero, List.set_cons_succ]
  clear hK K hHeld
  refine runZ (i := 4) rfl rfl (by kernel_rfl) (fun K hK => ?_)
  go_simp
  refine (reffrom_q q.a _).mono ?_
  rintro e wc2 ⟨rfl, hx⟩
  have hq2 := hq1.trans hx
  have hxr := (hx.block _ (heap_lt hxr)).trans hxr
  refine hK.out _ _ hq2 (fun hHeld => ?_)
  try simp only [Act.put, List.setIfInBounds_toArray, List.set_cons_zero, List.set_cons_succ]
  clear hK K hHeld
  refine runZ (i := 8) rfl rfl (by kernel_rfl) (fun K hK => ?_)
  go_simp
  refine (refto_q q.m _).mono ?_
  rintro e wc3 ⟨rfl, hx⟩
  have hq3 := hq2.trans hx
  have hxr := (hx.block _ (heap_lt hxr)).trans hxr
  refine hK.out _ _ hq3 (fun hHeld => ?_)
  try simp only [Act.put, List.setIfInBounds_toArray, List.set_cons_zero, List.set_cons_succ]
  clear hK K hHeld
  refine runZ (i := 9) rfl rfl (by kernel_rfl) (fun K hK => ?_)
  go_simp
  refine (reffrom_q q.m _).mono ?_
  rintro e wc4 ⟨rfl, hx⟩
  have hq4 := hq3.trans hx
  have hxr := (hx.block _ (heap_lt hxr)).trans hxr
  refine hK.out _ _ hq4 (fun hHeld => ?_)
  try simp only [Act.put, List.setIfInBounds_toArray, List.set_cons_zero, List.set_cons_succ]
  clear hK K hHeld
  refine runZ (i := 13) rfl rfl (by kernel_rfl) (fun K hK => ?_)
  go_simp
  refine (refto_q q.h _).mono ?_
  rintro e wc5 ⟨rfl, hx⟩
  have hq5 := hq4.trans hx
  have hxr := (hx.block _ (heap_lt hxr)).trans hxr
  refine hK.out _ _ hq5 (fun hHeld => ?_)
  try simp only [Act.put, List.setIfInBounds_toArray, List.set_cons_zero, List.set_cons_succ]
  clear hK K hHeld
  refine runZ (i := 14) rfl rfl (by kernel_rfl) (fun K hK => ?_)
  go_simp
  refine (reffrom_q q.h _).mono ?_
  rintro e wc6 ⟨rfl, hx⟩
  have hq6 := hq5.trans hx
  have hxr := (hx.block _ (heap_lt hxr)).trans hxr
  refine hK.out _ _ hq6 (fun hHeld => ?_)
  try simp only [Act.put, List.setIfInBounds_toArray, List.set_cons_zero, List.set_cons_succ]
  clear hK K hHeld
  refine runZ (i := 18) rfl rfl (by kernel_rfl) (fun K hK => ?_)
  go_simp
  refine (refto_q q.d _).mono ?_
  rintro e wc7 ⟨rfl, hx⟩
  have hq7 := hq6.trans hx
  have hxr := (hx.block _ (heap_lt hxr)).trans hxr
  refine hK.out _ _ hq7 (fun hHeld => ?_)
  try simp only [Act.put, List.setIfInBounds_toArray, List.set_cons_zero, List.set_cons_succ]
  clear hK K hHeld
  refine runZ (i := 19) rfl rfl (by kernel_rfl) (fun K hK => ?_)
  go_simp
  refine (reffrom_q q.d _).mono ?_
  rintro e wc8 ⟨rfl, hx⟩
  have hq8 := hq7.trans hx
  have hxr := (hx.block _ (heap_lt hxr)).trans hxr
  refine hK.out _ _ hq8 (fun hHeld => ?_)
  try simp only [Act.put, List.setIfInBounds_toArray, List.set_cons_zero, List.set_cons_succ]
  clear hK K hHeld
  refine takeZ (i := 20) (z := 22) (v := (.agg #[.int .i64 (told q.a), .int .i64 (told q.m), .int .i64 (told q.h), .int .i64 (told q.d)])) rfl rfl (by kernel_rfl) (by kernel_rfl) (by kernel_rfl) (by kernel_rfl) (by kernel_rfl) (by kernel_rfl) (fun _ _ _ h => h) (yieldsIf_build rfl 28 _ rfl [(0, .int .i64 (told q.a)), (1, .int .i64 (told q.m)), (2, .int .i64 (told q.h)), (3, .int .i64 (told q.d))] rfl #[.int .i64 (told q.a), .int .i64 (told q.m), .int .i64 (told q.h), .int .i64 (told q.d)] (times_b _ _ _ _)) hq8 ?_
  simp only [Act.put, List.setIfInBounds_toArray, List.set_cons_zero, List.set_cons_succ]
  refine takeZ (i := 21) (z := 22) (v := (.pointer (some ⟨A0, 13, none⟩))) rfl rfl (by kernel_rfl) (by kernel_rfl) (by kernel_rfl) (by kernel_rfl) (by kernel_rfl) (by kernel_rfl) (fun _ _ _ h => h) (Or.inl ⟨rfl, fun _ _ => rfl⟩) hq8 ?_
  simp only [Act.put, List.setIfInBounds_toArray, List.set_cons_zero, List.set_cons_succ]
  refine runZl (z := 22) rfl rfl (by kernel_rfl) (fun K hK => ?_)
  refine wp_st_at rfl 28 _ _ rfl A0 13 _ #[.int .i64 (told q.a), .int .i64 (told q.m), .int .i64 (told q.h), .int .i64 (told q.d)] _ #[.int .i64 q.kd, .bool q.ch, .bool q.ak, .bool q.pr, .bool q.ag, .bool q.ln, .bool q.fw, .int .i64 q.ro, .int .u64 q.r, .int .u32 q.c, .int .u64 q.b, .int .u16 q.p, .int .u16 0, .int .i64 (told q.a), .int .i64 (told q.m), .int .i64 (told q.h), .int .i64 (told q.d)] _ rfl rfl rfl hxr (by exact (by decide : 13 + 4 ≤ 17)) (by kernel_rfl) rfl rfl (fun ws22 hrow22 hm22 => ?_)
  refine hK.out _ _ ?_
  try simp only [Act.put, List.setIfInBounds_toArray, List.set_cons_zero, List.set_cons_succ]
  clear hK K
  refine wpAnyH_done (by kernel_rfl) ?_ _
  generalize ws22 = z3 at *
  have tq0 := (hq8.block _ (heap_lt hA_z2)).trans hA_z2
  have tq0 := (hq8.block _ (heap_lt hR_z2)).trans hR_z2
  have tq1 := (hm22.heap (heap_lt tq0) (show ¬ R0 = A0 by omega)).trans tq0
  have hR_z3 : z3.heap[R0]? = some (.cells #[.int .i64 0, .bool false, .bool false, .bool false, .bool false, .bool false, .bool false, .int .i64 0, .int .u64 0, .int .u32 0, .int .u64 0, .int .u16 0, .int .u16 0, .int .i64 0, .int .i64 0, .int .i64 0, .int .i64 0] 30 (0, 0)) := tq1
  have eq0 : Ext w _ := E_z2.trans hq8
  have eq1 : Ext w _ := Ext.mutE eq0 hm22 (fun n hn h => by have h2 : n = A0 := h; omega)
  have E_z3 : Ext w z3 := eq1
  have hA_z3 : z3.heap[A0]? = some (.cells #[.int .i64 q.kd, .bool q.ch, .bool q.ak, .bool q.pr, .bool q.ag, .bool q.ln, .bool q.fw, .int .i64 q.ro, .int .u64 q.r, .int .u32 q.c, .int .u64 q.b, .int .u16 q.p, .int .u16 0, .int .i64 (told q.a), .int .i64 (told q.m), .int .i64 (told q.h), .int .i64 (told q.d)] 30 (0, 0)) := hrow22
  have rA0_z3 : z3.cell? ⟨A0, 0, none⟩ = some (.int .i64 q.kd) := (cell_of_row _ _ _ _ _ _ hA_z3).trans rfl
  have rA7_z3 : z3.cell? ⟨A0, 7, none⟩ = some (.int .i64 q.ro) := (cell_of_row _ _ _ _ _ _ hA_z3).trans rfl
  clear hA_z2 hR_z2 E_z2 rA0_z2
  clear hq0 hq1 hq2 hq3 hq4 hq5 hq6 hq7 hq8 hm22 tq0 tq1 eq0 eq1
  go_wp2_with (first
    | fail
    | ((with_reducible refine at_store 3 ?_); refine st_at rfl rfl 3 _ _ rfl A0 7 _ #[.int .i64 1] _ #[.int .i64 q.kd, .bool q.ch, .bool q.ak, .bool q.pr, .bool q.ag, .bool q.ln, .bool q.fw, .int .i64 1, .int .u64 q.r, .int .u32 q.c, .int .u64 q.b, .int .u16 q.p, .int .u16 0, .int .i64 (told q.a), .int .i64 (told q.m), .int .i64 (told q.h), .int .i64 (told q.d)] _ rfl rfl rfl hA_z3 (by exact (by decide : 7 + 1 ≤ 17)) (by kernel_rfl) rfl rfl ?_
       intro z4 hq hm
       have hA_z4 : z4.heap[A0]? = some (.cells #[.int .i64 q.kd, .bool q.ch, .bool q.ak, .bool q.pr, .bool q.ag, .bool q.ln, .bool q.fw, .int .i64 1, .int .u64 q.r, .int .u32 q.c, .int .u64 q.b, .int .u16 q.p, .int .u16 0, .int .i64 (told q.a), .int .i64 (told q.m), .int .i64 (told q.h), .int .i64 (told q.d)] 30 (0, 0)) := hq
       have hR_z4 : z4.heap[R0]? = some (.cells #[.int .i64 0, .bool false, .bool false, .bool false, .bool false, .bool false, .bool false, .int .i64 0, .int .u64 0, .int .u32 0, .int .u64 0, .int .u16 0, .int .u16 0, .int .i64 0, .int .i64 0, .int .i64 0, .int .i64 0] 30 (0, 0)) := (hm.heap (heap_lt hR_z3) (show ¬ R0 = A0 by omega)).trans hR_z3
       have E_z4 : Ext w z4 := Ext.mutE E_z3 hm (fun n hn h => by have h2 : n = A0 := h; omega)
       have rA0_z4 : z4.cell? ⟨A0, 0, none⟩ = some (.int .i64 q.kd) := (cell_of_row _ _ _ _ _ _ hA_z4).trans rfl
       have rA7_z4 : z4.cell? ⟨A0, 7, none⟩ = some (.int .i64 1) := (cell_of_row _ _ _ _ _ _ hA_z4).trans rfl
       clear hA_z3 hR_z3 E_z3 rA0_z3 rA7_z3
       clear hq hm)
    | ((with_reducible refine at_load 30 ?_); refine wpList_load_row rfl 30 _ rfl A0 rfl 30 #[.int .i64 q.kd, .bool q.ch, .bool q.ak, .bool q.pr, .bool q.ag, .bool q.ln, .bool q.fw, .int .i64 1, .int .u64 q.r, .int .u32 q.c, .int .u64 q.b, .int .u16 q.p, .int .u16 0, .int .i64 (told q.a), .int .i64 (told q.m), .int .i64 (told q.h), .int .i64 (told q.d)] (0, 0) _ hA_z4 Try.underlying30 rfl (by kernel_rfl) ?_)
    | ((with_reducible refine at_store 30 ?_); refine st_at rfl rfl 30 _ _ rfl R0 0 _ #[.int .i64 q.kd, .bool q.ch, .bool q.ak, .bool q.pr, .bool q.ag, .bool q.ln, .bool q.fw, .int .i64 1, .int .u64 q.r, .int .u32 q.c, .int .u64 q.b, .int .u16 q.p, .int .u16 0, .int .i64 (told q.a), .int .i64 (told q.m), .int .i64 (told q.h), .int .i64 (told q.d)] _ #[.int .i64 q.kd, .bool q.ch, .bool q.ak, .bool q.pr, .bool q.ag, .bool q.ln, .bool q.fw, .int .i64 1, .int .u64 q.r, .int .u32 q.c, .int .u64 q.b, .int .u16 q.p, .int .u16 0, .int .i64 (told q.a), .int .i64 (told q.m), .int .i64 (told q.h), .int .i64 (told q.d)] _ rfl rfl rfl hR_z4 (by exact (by decide : 0 + 17 ≤ 17)) (by kernel_rfl) rfl rfl ?_
       intro z5 hq hm
       have hR_z5 : z5.heap[R0]? = some (.cells #[.int .i64 q.kd, .bool q.ch, .bool q.ak, .bool q.pr, .bool q.ag, .bool q.ln, .bool q.fw, .int .i64 1, .int .u64 q.r, .int .u32 q.c, .int .u64 q.b, .int .u16 q.p, .int .u16 0, .int .i64 (told q.a), .int .i64 (told q.m), .int .i64 (told q.h), .int .i64 (told q.d)] 30 (0, 0)) := hq
       have hA_z5 : z5.heap[A0]? = some (.cells #[.int .i64 q.kd, .bool q.ch, .bool q.ak, .bool q.pr, .bool q.ag, .bool q.ln, .bool q.fw, .int .i64 1, .int .u64 q.r, .int .u32 q.c, .int .u64 q.b, .int .u16 q.p, .int .u16 0, .int .i64 (told q.a), .int .i64 (told q.m), .int .i64 (told q.h), .int .i64 (told q.d)] 30 (0, 0)) := (hm.heap (heap_lt hA_z4) (show ¬ A0 = R0 by omega)).trans hA_z4
       have E_z5 : Ext w z5 := Ext.mutE E_z4 hm (fun n hn h => by have h2 : n = R0 := h; omega)
       have rA0_z5 : z5.cell? ⟨A0, 0, none⟩ = some (.int .i64 q.kd) := (cell_of_row _ _ _ _ _ _ hA_z5).trans rfl
       have rA7_z5 : z5.cell? ⟨A0, 7, none⟩ = some (.int .i64 1) := (cell_of_row _ _ _ _ _ _ hA_z5).trans rfl
       clear hA_z4 hR_z4 E_z4 rA0_z4 rA7_z4
       clear hq hm))
  refine bodyPost_ret (results_cell_row rfl _ _ _ _ _ (0, 0) _ rfl hR_z5 Try.underlying30 rfl (by kernel_rfl)) rfl ?_
  refine ⟨?_, E_z5⟩
  unfold plainM
  rw [if_neg (by have := HK.out; omega), if_pos (.inr HK.out), flagged_flags, if_pos HK.out, show roB (roN q.ro) = 1 by rw [HR.out]; decide]
set_option maxRecDepth 100000 in
set_option maxHeartbeats 2000000 in
theorem pd_rn (q : Mg) (hq : q.ok) (hk : q.kd = 2) (hr : q.ro < 0) (w : World) : Calls Try.prog 20 #[.agg #[.int .i64 q.kd, .bool q.ch, .bool q.ak, .bool q.pr, .bool q.ag, .bool q.ln, .bool q.fw, .int .i64 q.ro, .int .u64 q.r, .int .u32 q.c, .int .u64 q.b, .int .u16 q.p, .int .u16 q.x, .int .i64 q.a, .int .i64 q.m, .int .i64 q.h, .int .i64 q.d]] w fun e w' => e = .returned (.agg #[.int .i64 (plainM q).kd, .bool (plainM q).ch, .bool (plainM q).ak, .bool (plainM q).pr, .bool (plainM q).ag, .bool (plainM q).ln, .bool (plainM q).fw, .int .i64 (plainM q).ro, .int .u64 (plainM q).r, .int .u32 (plainM q).c, .int .u64 (plainM q).b, .int .u16 (plainM q).p, .int .u16 (plainM q).x, .int .i64 (plainM q).a, .int .i64 (plainM q).m, .int .i64 (plainM q).h, .int .i64 (plainM q).d]) ∧ Ext w w' := by
  have hz := zero_msg
  have b0 : decide (q.kd < 0) = false := by simp; omega
  have b2 : decide (2 < q.kd) = false := by simp; omega
  have k1 : (q.kd == 1) = false := by simp; omega
  have k0 : (q.kd == 0) = false := by simp [hk]
  have r2 : (q.ro == 2) = false := by simp; omega
  have rn : decide (q.ro < 0) = true := by simpa using hr
  have HR := Lib.hid hr
  clear hr
  have HK := Lib.hid hk
  clear hk
  go_enter Try.func20, Try.ntmps20
  go_wp2_with (first
    | fail
    | ((with_reducible refine at_alloc 30 ?_)
       have hA_w0 : (w.alloc (.cells #[.int .i64 q.kd, .bool q.ch, .bool q.ak, .bool q.pr, .bool q.ag, .bool q.ln, .bool q.fw, .int .i64 q.ro, .int .u64 q.r, .int .u32 q.c, .int .u64 q.b, .int .u16 q.p, .int .u16 q.x, .int .i64 q.a, .int .i64 q.m, .int .i64 q.h, .int .i64 q.d] 30)).heap[w.heap.size]? = some (.cells #[.int .i64 q.kd, .bool q.ch, .bool q.ak, .bool q.pr, .bool q.ag, .bool q.ln, .bool q.fw, .int .i64 q.ro, .int .u64 q.r, .int .u32 q.c, .int .u64 q.b, .int .u16 q.p, .int .u16 q.x, .int .i64 q.a, .int .i64 q.m, .int .i64 q.h, .int .i64 q.d] 30 (0, 0)) := heap_alloc_new _ _
       have hE_w0 : Ext w (w.alloc (.cells #[.int .i64 q.kd, .bool q.ch, .bool q.ak, .bool q.pr, .bool q.ag, .bool q.ln, .bool q.fw, .int .i64 q.ro, .int .u64 q.r, .int .u32 q.c, .int .u64 q.b, .int .u16 q.p, .int .u16 q.x, .int .i64 q.a, .int .i64 q.m, .int .i64 q.h, .int .i64 q.d] 30)) := (Ext.refl _).alloc _
       generalize w.alloc (.cells #[.int .i64 q.kd, .bool q.ch, .bool q.ak, .bool q.pr, .bool q.ag, .bool q.ln, .bool q.fw, .int .i64 q.ro, .int .u64 q.r, .int .u32 q.c, .int .u64 q.b, .int .u16 q.p, .int .u16 q.x, .int .i64 q.a, .int .i64 q.m, .int .i64 q.h, .int .i64 q.d] 30) = w0 at *
       obtain ⟨A0, hA0⟩ : ∃ n, w.heap.size = n := ⟨_, rfl⟩
       rw [hA0] at hA_w0 ⊢
       have hb_A0 : w.heap.size ≤ A0 := by omega
       refine al_zero rfl 30 rfl MZ zero_msg ?_
       intro R0 z1 hq hs hx
       have E_z1 : Ext w z1 := hE_w0.trans hx
       have hA_z1 : z1.heap[A0]? = some (.cells #[.int .i64 q.kd, .bool q.ch, .bool q.ak, .bool q.pr, .bool q.ag, .bool q.ln, .bool q.fw, .int .i64 q.ro, .int .u64 q.r, .int .u32 q.c, .int .u64 q.b, .int .u16 q.p, .int .u16 q.x, .int .i64 q.a, .int .i64 q.m, .int .i64 q.h, .int .i64 q.d] 30 (0, 0)) := (hx.block _ (heap_lt hA_w0)).trans hA_w0
       have hR_z1 : z1.heap[R0]? = some (.cells #[.int .i64 0, .bool false, .bool false, .bool false, .bool false, .bool false, .bool false, .int .i64 0, .int .u64 0, .int .u32 0, .int .u64 0, .int .u16 0, .int .u16 0, .int .i64 0, .int .i64 0, .int .i64 0, .int .i64 0] 30 (0, 0)) := hq
       have hb_R0 : w.heap.size ≤ R0 := by have := hE_w0.size; omega
       have hn_A0R0 : A0 ≠ R0 := by have := heap_lt hA_w0; omega
       have rA0_z1 : z1.cell? ⟨A0, 0, none⟩ = some (.int .i64 q.kd) := (cell_of_row _ _ _ _ _ _ hA_z1).trans rfl
       clear hA_w0 hE_w0
       clear hq hs hx)
    | ((with_reducible refine at_store 24 ?_); refine st_at rfl rfl 24 _ _ rfl A0 12 _ #[.int .u16 0] _ #[.int .i64 q.kd, .bool q.ch, .bool q.ak, .bool q.pr, .bool q.ag, .bool q.ln, .bool q.fw, .int .i64 q.ro, .int .u64 q.r, .int .u32 q.c, .int .u64 q.b, .int .u16 q.p, .int .u16 0, .int .i64 q.a, .int .i64 q.m, .int .i64 q.h, .int .i64 q.d] _ rfl rfl rfl hA_z1 (by exact (by decide : 12 + 1 ≤ 17)) (by kernel_rfl) rfl rfl ?_
       intro z2 hq hm
       have hA_z2 : z2.heap[A0]? = some (.cells #[.int .i64 q.kd, .bool q.ch, .bool q.ak, .bool q.pr, .bool q.ag, .bool q.ln, .bool q.fw, .int .i64 q.ro, .int .u64 q.r, .int .u32 q.c, .int .u64 q.b, .int .u16 q.p, .int .u16 0, .int .i64 q.a, .int .i64 q.m, .int .i64 q.h, .int .i64 q.d] 30 (0, 0)) := hq
       have hR_z2 : z2.heap[R0]? = some (.cells #[.int .i64 0, .bool false, .bool false, .bool false, .bool false, .bool false, .bool false, .int .i64 0, .int .u64 0, .int .u32 0, .int .u64 0, .int .u16 0, .int .u16 0, .int .i64 0, .int .i64 0, .int .i64 0, .int .i64 0] 30 (0, 0)) := (hm.heap (heap_lt hR_z1) (show ¬ R0 = A0 by omega)).trans hR_z1
       have E_z2 : Ext w z2 := Ext.mutE E_z1 hm (fun n hn h => by have h2 : n = A0 := h; omega)
       have rA0_z2 : z2.cell? ⟨A0, 0, none⟩ = some (.int .i64 q.kd) := (cell_of_row _ _ _ _ _ _ hA_z2).trans rfl
       clear hA_z1 hR_z1 E_z1 rA0_z1
       clear hq hm))
  refine beginZ (S := fun W' => Ext z2 W') 22 (by kernel_rfl) ?_
  intro wd hqx
  have hq0 : Ext z2 wd := hqx
  have hxr := (hqx.block _ (heap_lt hA_z2)).trans hA_z2
  refine takeZ (i := 0) (z := 22) (v := (.pointer (some ⟨A0, 13, none⟩))) rfl rfl (by kernel_rfl) (by kernel_rfl) (by kernel_rfl) (by kernel_rfl) (by kernel_rfl) (by kernel_rfl) (fun _ _ _ h => h) (Or.inl ⟨rfl, fun _ _ => rfl⟩) hq0 ?_
  simp only [Act.put, List.setIfInBounds_toArray, List.set_cons_zero, List.set_cons_succ]
  refine takeZ (i := 1) (z := 22) (v := (.pointer (some ⟨A0, 13, none⟩))) rfl rfl (by kernel_rfl) (by kernel_rfl) (by kernel_rfl) (by kernel_rfl) (by kernel_rfl) (by kernel_rfl) (fun _ _ _ h => h) (Or.inl ⟨rfl, fun _ _ => rfl⟩) hq0 ?_
  simp only [Act.put, List.setIfInBounds_toArray, List.set_cons_zero, List.set_cons_succ]
  refine takeZ (i := 2) (z := 22) (v := _) rfl rfl (by kernel_rfl) (by kernel_rfl) (by kernel_rfl) (by kernel_rfl) (by kernel_rfl) (by kernel_rfl) (fun _ _ _ h => h) (yieldsIf_cell rfl 3 _ rfl ⟨A0, 13, none⟩ rfl (.int .i64 q.a) _ (fun W' hW' => (cell_of_row _ _ _ _ _ _ ((hW'.block _ (heap_lt hA_z2)).trans hA_z2)).trans rfl) Try.underlying3 rfl) hq0 ?_
  simp only [Act.put, List.setIfInBounds_toArray, List.set_cons_zero, List.set_cons_succ]
  refine takeZ (i := 5) (z := 22) (v := (.pointer (some ⟨A0, 13, none⟩))) rfl rfl (by kernel_rfl) (by kernel_rfl) (by kernel_rfl) (by kernel_rfl) (by kernel_rfl) (by kernel_rfl) (fun _ _ _ h => h) (Or.inl ⟨rfl, fun _ _ => rfl⟩) hq0 ?_
  simp only [Act.put, List.setIfInBounds_toArray, List.set_cons_zero, List.set_cons_succ]
  refine takeZ (i := 6) (z := 22) (v := (.pointer (some ⟨A0, 14, none⟩))) rfl rfl (by kernel_rfl) (by kernel_rfl) (by kernel_rfl) (by kernel_rfl) (by kernel_rfl) (by kernel_rfl) (fun _ _ _ h => h) (Or.inl ⟨rfl, fun _ _ => rfl⟩) hq0 ?_
  simp only [Act.put, List.setIfInBounds_toArray, List.set_cons_zero, List.set_cons_succ]
  refine takeZ (i := 7) (z := 22) (v := _) rfl rfl (by kernel_rfl) (by kernel_rfl) (by kernel_rfl) (by kernel_rfl) (by kernel_rfl) (by kernel_rfl) (fun _ _ _ h => h) (yieldsIf_cell rfl 3 _ rfl ⟨A0, 14, none⟩ rfl (.int .i64 q.m) _ (fun W' hW' => (cell_of_row _ _ _ _ _ _ ((hW'.block _ (heap_lt hA_z2)).trans hA_z2)).trans rfl) Try.underlying3 rfl) hq0 ?_
  simp only [Act.put, List.setIfInBounds_toArray, List.set_cons_zero, List.set_cons_succ]
  refine takeZ (i := 10) (z := 22) (v := (.pointer (some ⟨A0, 13, none⟩))) rfl rfl (by kernel_rfl) (by kernel_rfl) (by kernel_rfl) (by kernel_rfl) (by kernel_rfl) (by kernel_rfl) (fun _ _ _ h => h) (Or.inl ⟨rfl, fun _ _ => rfl⟩) hq0 ?_
  simp only [Act.put, List.setIfInBounds_toArray, List.set_cons_zero, List.set_cons_succ]
  refine takeZ (i := 11) (z := 22) (v := (.pointer (some ⟨A0, 15, none⟩))) rfl rfl (by kernel_rfl) (by kernel_rfl) (by kernel_rfl) (by kernel_rfl) (by kernel_rfl) (by kernel_rfl) (fun _ _ _ h => h) (Or.inl ⟨rfl, fun _ _ => rfl⟩) hq0 ?_
  simp only [Act.put, List.setIfInBounds_toArray, List.set_cons_zero, List.set_cons_succ]
  refine takeZ (i := 12) (z := 22) (v := _) rfl rfl (by kernel_rfl) (by kernel_rfl) (by kernel_rfl) (by kernel_rfl) (by kernel_rfl) (by kernel_rfl) (fun _ _ _ h => h) (yieldsIf_cell rfl 3 _ rfl ⟨A0, 15, none⟩ rfl (.int .i64 q.h) _ (fun W' hW' => (cell_of_row _ _ _ _ _ _ ((hW'.block _ (heap_lt hA_z2)).trans hA_z2)).trans rfl) Try.underlying3 rfl) hq0 ?_
  simp only [Act.put, List.setIfInBounds_toArray, List.set_cons_zero, List.set_cons_succ]
  refine takeZ (i := 15) (z := 22) (v := (.pointer (some ⟨A0, 13, none⟩))) rfl rfl (by kernel_rfl) (by kernel_rfl) (by kernel_rfl) (by kernel_rfl) (by kernel_rfl) (by kernel_rfl) (fun _ _ _ h => h) (Or.inl ⟨rfl, fun _ _ => rfl⟩) hq0 ?_
  simp only [Act.put, List.setIfInBounds_toArray, List.set_cons_zero, List.set_cons_succ]
  refine takeZ (i := 16) (z := 22) (v := (.pointer (some ⟨A0, 16, none⟩))) rfl rfl (by kernel_rfl) (by kernel_rfl) (by kernel_rfl) (by kernel_rfl) (by kernel_rfl) (by kernel_rfl) (fun _ _ _ h => h) (Or.inl ⟨rfl, fun _ _ => rfl⟩) hq0 ?_
  simp only [Act.put, List.setIfInBounds_toArray, List.set_cons_zero, List.set_cons_succ]
  refine takeZ (i := 17) (z := 22) (v := _) rfl rfl (by kernel_rfl) (by kernel_rfl) (by kernel_rfl) (by kernel_rfl) (by kernel_rfl) (by kernel_rfl) (fun _ _ _ h => h) (yieldsIf_cell rfl 3 _ rfl ⟨A0, 16, none⟩ rfl (.int .i64 q.d) _ (fun W' hW' => (cell_of_row _ _ _ _ _ _ ((hW'.block _ (heap_lt hA_z2)).trans hA_z2)).trans rfl) Try.underlying3 rfl) hq0 ?_
  simp only [Act.put, List.setIfInBounds_toArray, List.set_cons_zero, List.set_cons_succ]
  refine runZ (i := 3) rfl rfl (by kernel_rfl) (fun K hK => ?_)
  go_simp
  refine (refto_q q.a _).mono ?_
  rintro e wc1 ⟨rfl, hx⟩
  have hq1 := hq0.trans hx
  have hxr := (hx.block _ (heap_lt hxr)).trans hxr
  refine hK.out _ _ hq1 (fun hHeld => ?_)
  try simp only [Act.put, List.setIfInBounds_toArray, List.set_cons_zero, List.set_cons_succ]
  clear hK K hHeld
  refine runZ (i := 4) rfl rfl (by kernel_rfl) (fun K hK => ?_)
  go_simp
  refine (reffrom_q q.a _).mono ?_
  rintro e wc2 ⟨rfl, hx⟩
  have hq2 := hq1.trans hx
  have hxr := (hx.block _ (heap_lt hxr)).trans hxr
  refine hK.out _ _ hq2 (fun hHeld => ?_)
  try simp only [Act.put, List.setIfInBounds_toArray, List.set_cons_zero, List.set_cons_succ]
  clear hK K hHeld
  refine runZ (i := 8) rfl rfl (by kernel_rfl) (fun K hK => ?_)
  go_simp
  refine (refto_q q.m _).mono ?_
  rintro e wc3 ⟨rfl, hx⟩
  have hq3 := hq2.trans hx
  have hxr := (hx.block _ (heap_lt hxr)).trans hxr
  refine hK.out _ _ hq3 (fun hHeld => ?_)
  try simp only [Act.put, List.setIfInBounds_toArray, List.set_cons_zero, List.set_cons_succ]
  clear hK K hHeld
  refine runZ (i := 9) rfl rfl (by kernel_rfl) (fun K hK => ?_)
  go_simp
  refine (reffrom_q q.m _).mono ?_
  rintro e wc4 ⟨rfl, hx⟩
  have hq4 := hq3.trans hx
  have hxr := (hx.block _ (heap_lt hxr)).trans hxr
  refine hK.out _ _ hq4 (fun hHeld => ?_)
  try simp only [Act.put, List.setIfInBounds_toArray, List.set_cons_zero, List.set_cons_succ]
  clear hK K hHeld
  refine runZ (i := 13) rfl rfl (by kernel_rfl) (fun K hK => ?_)
  go_simp
  refine (refto_q q.h _).mono ?_
  rintro e wc5 ⟨rfl, hx⟩
  have hq5 := hq4.trans hx
  have hxr := (hx.block _ (heap_lt hxr)).trans hxr
  refine hK.out _ _ hq5 (fun hHeld => ?_)
  try simp only [Act.put, List.setIfInBounds_toArray, List.set_cons_zero, List.set_cons_succ]
  clear hK K hHeld
  refine runZ (i := 14) rfl rfl (by kernel_rfl) (fun K hK => ?_)
  go_simp
  refine (reffrom_q q.h _).mono ?_
  rintro e wc6 ⟨rfl, hx⟩
  have hq6 := hq5.trans hx
  have hxr := (hx.block _ (heap_lt hxr)).trans hxr
  refine hK.out _ _ hq6 (fun hHeld => ?_)
  try simp only [Act.put, List.setIfInBounds_toArray, List.set_cons_zero, List.set_cons_succ]
  clear hK K hHeld
  refine runZ (i := 18) rfl rfl (by kernel_rfl) (fun K hK => ?_)
  go_simp
  refine (refto_q q.d _).mono ?_
  rintro e wc7 ⟨rfl, hx⟩
  have hq7 := hq6.trans hx
  have hxr := (hx.block _ (heap_lt hxr)).trans hxr
  refine hK.out _ _ hq7 (fun hHeld => ?_)
  try simp only [Act.put, List.setIfInBounds_toArray, List.set_cons_zero, List.set_cons_succ]
  clear hK K hHeld
  refine runZ (i := 19) rfl rfl (by kernel_rfl) (fun K hK => ?_)
  go_simp
  refine (reffrom_q q.d _).mono ?_
  rintro e wc8 ⟨rfl, hx⟩
  have hq8 := hq7.trans hx
  have hxr := (hx.block _ (heap_lt hxr)).trans hxr
  refine hK.out _ _ hq8 (fun hHeld => ?_)
  try simp only [Act.put, List.setIfInBounds_toArray, List.set_cons_zero, List.set_cons_succ]
  clear hK K hHeld
  refine takeZ (i := 20) (z := 22) (v := (.agg #[.int .i64 (told q.a), .int .i64 (told q.m), .int .i64 (told q.h), .int .i64 (told q.d)])) rfl rfl (by kernel_rfl) (by kernel_rfl) (by kernel_rfl) (by kernel_rfl) (by kernel_rfl) (by kernel_rfl) (fun _ _ _ h => h) (yieldsIf_build rfl 28 _ rfl [(0, .int .i64 (told q.a)), (1, .int .i64 (told q.m)), (2, .int .i64 (told q.h)), (3, .int .i64 (told q.d))] rfl #[.int .i64 (told q.a), .int .i64 (told q.m), .int .i64 (told q.h), .int .i64 (told q.d)] (times_b _ _ _ _)) hq8 ?_
  simp only [Act.put, List.setIfInBounds_toArray, List.set_cons_zero, List.set_cons_succ]
  refine takeZ (i := 21) (z := 22) (v := (.pointer (some ⟨A0, 13, none⟩))) rfl rfl (by kernel_rfl) (by kernel_rfl) (by kernel_rfl) (by kernel_rfl) (by kernel_rfl) (by kernel_rfl) (fun _ _ _ h => h) (Or.inl ⟨rfl, fun _ _ => rfl⟩) hq8 ?_
  simp only [Act.put, List.setIfInBounds_toArray, List.set_cons_zero, List.set_cons_succ]
  refine runZl (z := 22) rfl rfl (by kernel_rfl) (fun K hK => ?_)
  refine wp_st_at rfl 28 _ _ rfl A0 13 _ #[.int .i64 (told q.a), .int .i64 (told q.m), .int .i64 (told q.h), .int .i64 (told q.d)] _ #[.int .i64 q.kd, .bool q.ch, .bool q.ak, .bool q.pr, .bool q.ag, .bool q.ln, .bool q.fw, .int .i64 q.ro, .int .u64 q.r, .int .u32 q.c, .int .u64 q.b, .int .u16 q.p, .int .u16 0, .int .i64 (told q.a), .int .i64 (told q.m), .int .i64 (told q.h), .int .i64 (told q.d)] _ rfl rfl rfl hxr (by exact (by decide : 13 + 4 ≤ 17)) (by kernel_rfl) rfl rfl (fun ws22 hrow22 hm22 => ?_)
  refine hK.out _ _ ?_
  try simp only [Act.put, List.setIfInBounds_toArray, List.set_cons_zero, List.set_cons_succ]
  clear hK K
  refine wpAnyH_done (by kernel_rfl) ?_ _
  generalize ws22 = z3 at *
  have tq0 := (hq8.block _ (heap_lt hA_z2)).trans hA_z2
  have tq0 := (hq8.block _ (heap_lt hR_z2)).trans hR_z2
  have tq1 := (hm22.heap (heap_lt tq0) (show ¬ R0 = A0 by omega)).trans tq0
  have hR_z3 : z3.heap[R0]? = some (.cells #[.int .i64 0, .bool false, .bool false, .bool false, .bool false, .bool false, .bool false, .int .i64 0, .int .u64 0, .int .u32 0, .int .u64 0, .int .u16 0, .int .u16 0, .int .i64 0, .int .i64 0, .int .i64 0, .int .i64 0] 30 (0, 0)) := tq1
  have eq0 : Ext w _ := E_z2.trans hq8
  have eq1 : Ext w _ := Ext.mutE eq0 hm22 (fun n hn h => by have h2 : n = A0 := h; omega)
  have E_z3 : Ext w z3 := eq1
  have hA_z3 : z3.heap[A0]? = some (.cells #[.int .i64 q.kd, .bool q.ch, .bool q.ak, .bool q.pr, .bool q.ag, .bool q.ln, .bool q.fw, .int .i64 q.ro, .int .u64 q.r, .int .u32 q.c, .int .u64 q.b, .int .u16 q.p, .int .u16 0, .int .i64 (told q.a), .int .i64 (told q.m), .int .i64 (told q.h), .int .i64 (told q.d)] 30 (0, 0)) := hrow22
  have rA0_z3 : z3.cell? ⟨A0, 0, none⟩ = some (.int .i64 q.kd) := (cell_of_row _ _ _ _ _ _ hA_z3).trans rfl
  have rA7_z3 : z3.cell? ⟨A0, 7, none⟩ = some (.int .i64 q.ro) := (cell_of_row _ _ _ _ _ _ hA_z3).trans rfl
  clear hA_z2 hR_z2 E_z2 rA0_z2
  clear hq0 hq1 hq2 hq3 hq4 hq5 hq6 hq7 hq8 hm22 tq0 tq1 eq0 eq1
  go_wp2_with (first
    | fail
    | ((with_reducible refine at_store 3 ?_); refine st_at rfl rfl 3 _ _ rfl A0 7 _ #[.int .i64 0] _ #[.int .i64 q.kd, .bool q.ch, .bool q.ak, .bool q.pr, .bool q.ag, .bool q.ln, .bool q.fw, .int .i64 0, .int .u64 q.r, .int .u32 q.c, .int .u64 q.b, .int .u16 q.p, .int .u16 0, .int .i64 (told q.a), .int .i64 (told q.m), .int .i64 (told q.h), .int .i64 (told q.d)] _ rfl rfl rfl hA_z3 (by exact (by decide : 7 + 1 ≤ 17)) (by kernel_rfl) rfl rfl ?_
       intro z4 hq hm
       have hA_z4 : z4.heap[A0]? = some (.cells #[.int .i64 q.kd, .bool q.ch, .bool q.ak, .bool q.pr, .bool q.ag, .bool q.ln, .bool q.fw, .int .i64 0, .int .u64 q.r, .int .u32 q.c, .int .u64 q.b, .int .u16 q.p, .int .u16 0, .int .i64 (told q.a), .int .i64 (told q.m), .int .i64 (told q.h), .int .i64 (told q.d)] 30 (0, 0)) := hq
       have hR_z4 : z4.heap[R0]? = some (.cells #[.int .i64 0, .bool false, .bool false, .bool false, .bool false, .bool false, .bool false, .int .i64 0, .int .u64 0, .int .u32 0, .int .u64 0, .int .u16 0, .int .u16 0, .int .i64 0, .int .i64 0, .int .i64 0, .int .i64 0] 30 (0, 0)) := (hm.heap (heap_lt hR_z3) (show ¬ R0 = A0 by omega)).trans hR_z3
       have E_z4 : Ext w z4 := Ext.mutE E_z3 hm (fun n hn h => by have h2 : n = A0 := h; omega)
       have rA0_z4 : z4.cell? ⟨A0, 0, none⟩ = some (.int .i64 q.kd) := (cell_of_row _ _ _ _ _ _ hA_z4).trans rfl
       have rA7_z4 : z4.cell? ⟨A0, 7, none⟩ = some (.int .i64 0) := (cell_of_row _ _ _ _ _ _ hA_z4).trans rfl
       clear hA_z3 hR_z3 E_z3 rA0_z3 rA7_z3
       clear hq hm)
    | ((with_reducible refine at_load 30 ?_); refine wpList_load_row rfl 30 _ rfl A0 rfl 30 #[.int .i64 q.kd, .bool q.ch, .bool q.ak, .bool q.pr, .bool q.ag, .bool q.ln, .bool q.fw, .int .i64 0, .int .u64 q.r, .int .u32 q.c, .int .u64 q.b, .int .u16 q.p, .int .u16 0, .int .i64 (told q.a), .int .i64 (told q.m), .int .i64 (told q.h), .int .i64 (told q.d)] (0, 0) _ hA_z4 Try.underlying30 rfl (by kernel_rfl) ?_)
    | ((with_reducible refine at_store 30 ?_); refine st_at rfl rfl 30 _ _ rfl R0 0 _ #[.int .i64 q.kd, .bool q.ch, .bool q.ak, .bool q.pr, .bool q.ag, .bool q.ln, .bool q.fw, .int .i64 0, .int .u64 q.r, .int .u32 q.c, .int .u64 q.b, .int .u16 q.p, .int .u16 0, .int .i64 (told q.a), .int .i64 (told q.m), .int .i64 (told q.h), .int .i64 (told q.d)] _ #[.int .i64 q.kd, .bool q.ch, .bool q.ak, .bool q.pr, .bool q.ag, .bool q.ln, .bool q.fw, .int .i64 0, .int .u64 q.r, .int .u32 q.c, .int .u64 q.b, .int .u16 q.p, .int .u16 0, .int .i64 (told q.a), .int .i64 (told q.m), .int .i64 (told q.h), .int .i64 (told q.d)] _ rfl rfl rfl hR_z4 (by exact (by decide : 0 + 17 ≤ 17)) (by kernel_rfl) rfl rfl ?_
       intro z5 hq hm
       have hR_z5 : z5.heap[R0]? = some (.cells #[.int .i64 q.kd, .bool q.ch, .bool q.ak, .bool q.pr, .bool q.ag, .bool q.ln, .bool q.fw, .int .i64 0, .int .u64 q.r, .int .u32 q.c, .int .u64 q.b, .int .u16 q.p, .int .u16 0, .int .i64 (told q.a), .int .i64 (told q.m), .int .i64 (told q.h), .int .i64 (told q.d)] 30 (0, 0)) := hq
       have hA_z5 : z5.heap[A0]? = some (.cells #[.int .i64 q.kd, .bool q.ch, .bool q.ak, .bool q.pr, .bool q.ag, .bool q.ln, .bool q.fw, .int .i64 0, .int .u64 q.r, .int .u32 q.c, .int .u64 q.b, .int .u16 q.p, .int .u16 0, .int .i64 (told q.a), .int .i64 (told q.m), .int .i64 (told q.h), .int .i64 (told q.d)] 30 (0, 0)) := (hm.heap (heap_lt hA_z4) (show ¬ A0 = R0 by omega)).trans hA_z4
       have E_z5 : Ext w z5 := Ext.mutE E_z4 hm (fun n hn h => by have h2 : n = R0 := h; omega)
       have rA0_z5 : z5.cell? ⟨A0, 0, none⟩ = some (.int .i64 q.kd) := (cell_of_row _ _ _ _ _ _ hA_z5).trans rfl
       have rA7_z5 : z5.cell? ⟨A0, 7, none⟩ = some (.int .i64 0) := (cell_of_row _ _ _ _ _ _ hA_z5).trans rfl
       clear hA_z4 hR_z4 E_z4 rA0_z4 rA7_z4
       clear hq hm))
  refine bodyPost_ret (results_cell_row rfl _ _ _ _ _ (0, 0) _ rfl hR_z5 Try.underlying30 rfl (by kernel_rfl)) rfl ?_
  refine ⟨?_, E_z5⟩
  unfold plainM
  rw [if_neg (by have := HK.out; omega), if_pos (.inr HK.out), flagged_flags, if_pos HK.out, show roB (roN q.ro) = 0 by rw [roB_roN]; have := HR.out; rw [if_neg (by omega), if_neg (by omega), if_neg (by omega)]]
set_option maxRecDepth 100000 in
set_option maxHeartbeats 2000000 in
theorem pd_rg (q : Mg) (hq : q.ok) (hk : q.kd = 2) (hr : 4 < q.ro) (w : World) : Calls Try.prog 20 #[.agg #[.int .i64 q.kd, .bool q.ch, .bool q.ak, .bool q.pr, .bool q.ag, .bool q.ln, .bool q.fw, .int .i64 q.ro, .int .u64 q.r, .int .u32 q.c, .int .u64 q.b, .int .u16 q.p, .int .u16 q.x, .int .i64 q.a, .int .i64 q.m, .int .i64 q.h, .int .i64 q.d]] w fun e w' => e = .returned (.agg #[.int .i64 (plainM q).kd, .bool (plainM q).ch, .bool (plainM q).ak, .bool (plainM q).pr, .bool (plainM q).ag, .bool (plainM q).ln, .bool (plainM q).fw, .int .i64 (plainM q).ro, .int .u64 (plainM q).r, .int .u32 (plainM q).c, .int .u64 (plainM q).b, .int .u16 (plainM q).p, .int .u16 (plainM q).x, .int .i64 (plainM q).a, .int .i64 (plainM q).m, .int .i64 (plainM q).h, .int .i64 (plainM q).d]) ∧ Ext w w' := by
  have hz := zero_msg
  have b0 : decide (q.kd < 0) = false := by simp; omega
  have b2 : decide (2 < q.kd) = false := by simp; omega
  have k1 : (q.kd == 1) = false := by simp; omega
  have k0 : (q.kd == 0) = false := by simp [hk]
  have r2 : (q.ro == 2) = false := by simp; omega
  have rn : decide (q.ro < 0) = false := by simp; omega
  have rg : decide (4 < q.ro) = true := by simpa using hr
  have HR := Lib.hid hr
  clear hr
  have HK := Lib.hid hk
  clear hk
  go_enter Try.func20, Try.ntmps20
  go_wp2_with (first
    | fail
    | ((with_reducible refine at_alloc 30 ?_)
       have hA_w0 : (w.alloc (.cells #[.int .i64 q.kd, .bool q.ch, .bool q.ak, .bool q.pr, .bool q.ag, .bool q.ln, .bool q.fw, .int .i64 q.ro, .int .u64 q.r, .int .u32 q.c, .int .u64 q.b, .int .u16 q.p, .int .u16 q.x, .int .i64 q.a, .int .i64 q.m, .int .i64 q.h, .int .i64 q.d] 30)).heap[w.heap.size]? = some (.cells #[.int .i64 q.kd, .bool q.ch, .bool q.ak, .bool q.pr, .bool q.ag, .bool q.ln, .bool q.fw, .int .i64 q.ro, .int .u64 q.r, .int .u32 q.c, .int .u64 q.b, .int .u16 q.p, .int .u16 q.x, .int .i64 q.a, .int .i64 q.m, .int .i64 q.h, .int .i64 q.d] 30 (0, 0)) := heap_alloc_new _ _
       have hE_w0 : Ext w (w.alloc (.cells #[.int .i64 q.kd, .bool q.ch, .bool q.ak, .bool q.pr, .bool q.ag, .bool q.ln, .bool q.fw, .int .i64 q.ro, .int .u64 q.r, .int .u32 q.c, .int .u64 q.b, .int .u16 q.p, .int .u16 q.x, .int .i64 q.a, .int .i64 q.m, .int .i64 q.h, .int .i64 q.d] 30)) := (Ext.refl _).alloc _
       generalize w.alloc (.cells #[.int .i64 q.kd, .bool q.ch, .bool q.ak, .bool q.pr, .bool q.ag, .bool q.ln, .bool q.fw, .int .i64 q.ro, .int .u64 q.r, .int .u32 q.c, .int .u64 q.b, .int .u16 q.p, .int .u16 q.x, .int .i64 q.a, .int .i64 q.m, .int .i64 q.h, .int .i64 q.d] 30) = w0 at *
       obtain ⟨A0, hA0⟩ : ∃ n, w.heap.size = n := ⟨_, rfl⟩
       rw [hA0] at hA_w0 ⊢
       have hb_A0 : w.heap.size ≤ A0 := by omega
       refine al_zero rfl 30 rfl MZ zero_msg ?_
       intro R0 z1 hq hs hx
       have E_z1 : Ext w z1 := hE_w0.trans hx
       have hA_z1 : z1.heap[A0]? = some (.cells #[.int .i64 q.kd, .bool q.ch, .bool q.ak, .bool q.pr, .bool q.ag, .bool q.ln, .bool q.fw, .int .i64 q.ro, .int .u64 q.r, .int .u32 q.c, .int .u64 q.b, .int .u16 q.p, .int .u16 q.x, .int .i64 q.a, .int .i64 q.m, .int .i64 q.h, .int .i64 q.d] 30 (0, 0)) := (hx.block _ (heap_lt hA_w0)).trans hA_w0
       have hR_z1 : z1.heap[R0]? = some (.cells #[.int .i64 0, .bool false, .bool false, .bool false, .bool false, .bool false, .bool false, .int .i64 0, .int .u64 0, .int .u32 0, .int .u64 0, .int .u16 0, .int .u16 0, .int .i64 0, .int .i64 0, .int .i64 0, .int .i64 0] 30 (0, 0)) := hq
       have hb_R0 : w.heap.size ≤ R0 := by have := hE_w0.size; omega
       have hn_A0R0 : A0 ≠ R0 := by have := heap_lt hA_w0; omega
       have rA0_z1 : z1.cell? ⟨A0, 0, none⟩ = some (.int .i64 q.kd) := (cell_of_row _ _ _ _ _ _ hA_z1).trans rfl
       clear hA_w0 hE_w0
       clear hq hs hx)
    | ((with_reducible refine at_store 24 ?_); refine st_at rfl rfl 24 _ _ rfl A0 12 _ #[.int .u16 0] _ #[.int .i64 q.kd, .bool q.ch, .bool q.ak, .bool q.pr, .bool q.ag, .bool q.ln, .bool q.fw, .int .i64 q.ro, .int .u64 q.r, .int .u32 q.c, .int .u64 q.b, .int .u16 q.p, .int .u16 0, .int .i64 q.a, .int .i64 q.m, .int .i64 q.h, .int .i64 q.d] _ rfl rfl rfl hA_z1 (by exact (by decide : 12 + 1 ≤ 17)) (by kernel_rfl) rfl rfl ?_
       intro z2 hq hm
       have hA_z2 : z2.heap[A0]? = some (.cells #[.int .i64 q.kd, .bool q.ch, .bool q.ak, .bool q.pr, .bool q.ag, .bool q.ln, .bool q.fw, .int .i64 q.ro, .int .u64 q.r, .int .u32 q.c, .int .u64 q.b, .int .u16 q.p, .int .u16 0, .int .i64 q.a, .int .i64 q.m, .int .i64 q.h, .int .i64 q.d] 30 (0, 0)) := hq
       have hR_z2 : z2.heap[R0]? = some (.cells #[.int .i64 0, .bool false, .bool false, .bool false, .bool false, .bool false, .bool false, .int .i64 0, .int .u64 0, .int .u32 0, .int .u64 0, .int .u16 0, .int .u16 0, .int .i64 0, .int .i64 0, .int .i64 0, .int .i64 0] 30 (0, 0)) := (hm.heap (heap_lt hR_z1) (show ¬ R0 = A0 by omega)).trans hR_z1
       have E_z2 : Ext w z2 := Ext.mutE E_z1 hm (fun n hn h => by have h2 : n = A0 := h; omega)
       have rA0_z2 : z2.cell? ⟨A0, 0, none⟩ = some (.int .i64 q.kd) := (cell_of_row _ _ _ _ _ _ hA_z2).trans rfl
       clear hA_z1 hR_z1 E_z1 rA0_z1
       clear hq hm))
  refine beginZ (S := fun W' => Ext z2 W') 22 (by kernel_rfl) ?_
  intro wd hqx
  have hq0 : Ext z2 wd := hqx
  have hxr := (hqx.block _ (heap_lt hA_z2)).trans hA_z2
  refine takeZ (i := 0) (z := 22) (v := (.pointer (some ⟨A0, 13, none⟩))) rfl rfl (by kernel_rfl) (by kernel_rfl) (by kernel_rfl) (by kernel_rfl) (by kernel_rfl) (by kernel_rfl) (fun _ _ _ h => h) (Or.inl ⟨rfl, fun _ _ => rfl⟩) hq0 ?_
  simp only [Act.put, List.setIfInBounds_toArray, List.set_cons_zero, List.set_cons_succ]
  refine takeZ (i := 1) (z := 22) (v := (.pointer (some ⟨A0, 13, none⟩))) rfl rfl (by kernel_rfl) (by kernel_rfl) (by kernel_rfl) (by kernel_rfl) (by kernel_rfl) (by kernel_rfl) (fun _ _ _ h => h) (Or.inl ⟨rfl, fun _ _ => rfl⟩) hq0 ?_
  simp only [Act.put, List.setIfInBounds_toArray, List.set_cons_zero, List.set_cons_succ]
  refine takeZ (i := 2) (z := 22) (v := _) rfl rfl (by kernel_rfl) (by kernel_rfl) (by kernel_rfl) (by kernel_rfl) (by kernel_rfl) (by kernel_rfl) (fun _ _ _ h => h) (yieldsIf_cell rfl 3 _ rfl ⟨A0, 13, none⟩ rfl (.int .i64 q.a) _ (fun W' hW' => (cell_of_row _ _ _ _ _ _ ((hW'.block _ (heap_lt hA_z2)).trans hA_z2)).trans rfl) Try.underlying3 rfl) hq0 ?_
  simp only [Act.put, List.setIfInBounds_toArray, List.set_cons_zero, List.set_cons_succ]
  refine takeZ (i := 5) (z := 22) (v := (.pointer (some ⟨A0, 13, none⟩))) rfl rfl (by kernel_rfl) (by kernel_rfl) (by kernel_rfl) (by kernel_rfl) (by kernel_rfl) (by kernel_rfl) (fun _ _ _ h => h) (Or.inl ⟨rfl, fun _ _ => rfl⟩) hq0 ?_
  simp only [Act.put, List.setIfInBounds_toArray, List.set_cons_zero, List.set_cons_succ]
  refine takeZ (i := 6) (z := 22) (v := (.pointer (some ⟨A0, 14, none⟩))) rfl rfl (by kernel_rfl) (by kernel_rfl) (by kernel_rfl) (by kernel_rfl) (by kernel_rfl) (by kernel_rfl) (fun _ _ _ h => h) (Or.inl ⟨rfl, fun _ _ => rfl⟩) hq0 ?_
  simp only [Act.put, List.setIfInBounds_toArray, List.set_cons_zero, List.set_cons_succ]
  refine takeZ (i := 7) (z := 22) (v := _) rfl rfl (by kernel_rfl) (by kernel_rfl) (by kernel_rfl) (by kernel_rfl) (by kernel_rfl) (by kernel_rfl) (fun _ _ _ h => h) (yieldsIf_cell rfl 3 _ rfl ⟨A0, 14, none⟩ rfl (.int .i64 q.m) _ (fun W' hW' => (cell_of_row _ _ _ _ _ _ ((hW'.block _ (heap_lt hA_z2)).trans hA_z2)).trans rfl) Try.underlying3 rfl) hq0 ?_
  simp only [Act.put, List.setIfInBounds_toArray, List.set_cons_zero, List.set_cons_succ]
  refine takeZ (i := 10) (z := 22) (v := (.pointer (some ⟨A0, 13, none⟩))) rfl rfl (by kernel_rfl) (by kernel_rfl) (by kernel_rfl) (by kernel_rfl) (by kernel_rfl) (by kernel_rfl) (fun _ _ _ h => h) (Or.inl ⟨rfl, fun _ _ => rfl⟩) hq0 ?_
  simp only [Act.put, List.setIfInBounds_toArray, List.set_cons_zero, List.set_cons_succ]
  refine takeZ (i := 11) (z := 22) (v := (.pointer (some ⟨A0, 15, none⟩))) rfl rfl (by kernel_rfl) (by kernel_rfl) (by kernel_rfl) (by kernel_rfl) (by kernel_rfl) (by kernel_rfl) (fun _ _ _ h => h) (Or.inl ⟨rfl, fun _ _ => rfl⟩) hq0 ?_
  simp only [Act.put, List.setIfInBounds_toArray, List.set_cons_zero, List.set_cons_succ]
  refine takeZ (i := 12) (z := 22) (v := _) rfl rfl (by kernel_rfl) (by kernel_rfl) (by kernel_rfl) (by kernel_rfl) (by kernel_rfl) (by kernel_rfl) (fun _ _ _ h => h) (yieldsIf_cell rfl 3 _ rfl ⟨A0, 15, none⟩ rfl (.int .i64 q.h) _ (fun W' hW' => (cell_of_row _ _ _ _ _ _ ((hW'.block _ (heap_lt hA_z2)).trans hA_z2)).trans rfl) Try.underlying3 rfl) hq0 ?_
  simp only [Act.put, List.setIfInBounds_toArray, List.set_cons_zero, List.set_cons_succ]
  refine takeZ (i := 15) (z := 22) (v := (.pointer (some ⟨A0, 13, none⟩))) rfl rfl (by kernel_rfl) (by kernel_rfl) (by kernel_rfl) (by kernel_rfl) (by kernel_rfl) (by kernel_rfl) (fun _ _ _ h => h) (Or.inl ⟨rfl, fun _ _ => rfl⟩) hq0 ?_
  simp only [Act.put, List.setIfInBounds_toArray, List.set_cons_zero, List.set_cons_succ]
  refine takeZ (i := 16) (z := 22) (v := (.pointer (some ⟨A0, 16, none⟩))) rfl rfl (by kernel_rfl) (by kernel_rfl) (by kernel_rfl) (by kernel_rfl) (by kernel_rfl) (by kernel_rfl) (fun _ _ _ h => h) (Or.inl ⟨rfl, fun _ _ => rfl⟩) hq0 ?_
  simp only [Act.put, List.setIfInBounds_toArray, List.set_cons_zero, List.set_cons_succ]
  refine takeZ (i := 17) (z := 22) (v := _) rfl rfl (by kernel_rfl) (by kernel_rfl) (by kernel_rfl) (by kernel_rfl) (by kernel_rfl) (by kernel_rfl) (fun _ _ _ h => h) (yieldsIf_cell rfl 3 _ rfl ⟨A0, 16, none⟩ rfl (.int .i64 q.d) _ (fun W' hW' => (cell_of_row _ _ _ _ _ _ ((hW'.block _ (heap_lt hA_z2)).trans hA_z2)).trans rfl) Try.underlying3 rfl) hq0 ?_
  simp only [Act.put, List.setIfInBounds_toArray, List.set_cons_zero, List.set_cons_succ]
  refine runZ (i := 3) rfl rfl (by kernel_rfl) (fun K hK => ?_)
  go_simp
  refine (refto_q q.a _).mono ?_
  rintro e wc1 ⟨rfl, hx⟩
  have hq1 := hq0.trans hx
  have hxr := (hx.block _ (heap_lt hxr)).trans hxr
  refine hK.out _ _ hq1 (fun hHeld => ?_)
  try simp only [Act.put, List.setIfInBounds_toArray, List.set_cons_zero, List.set_cons_succ]
  clear hK K hHeld
  refine runZ (i := 4) rfl rfl (by kernel_rfl) (fun K hK => ?_)
  go_simp
  refine (reffrom_q q.a _).mono ?_
  rintro e wc2 ⟨rfl, hx⟩
  have hq2 := hq1.trans hx
  have hxr := (hx.block _ (heap_lt hxr)).trans hxr
  refine hK.out _ _ hq2 (fun hHeld => ?_)
  try simp only [Act.put, List.setIfInBounds_toArray, List.set_cons_zero, List.set_cons_succ]
  clear hK K hHeld
  refine runZ (i := 8) rfl rfl (by kernel_rfl) (fun K hK => ?_)
  go_simp
  refine (refto_q q.m _).mono ?_
  rintro e wc3 ⟨rfl, hx⟩
  have hq3 := hq2.trans hx
  have hxr := (hx.block _ (heap_lt hxr)).trans hxr
  refine hK.out _ _ hq3 (fun hHeld => ?_)
  try simp only [Act.put, List.setIfInBounds_toArray, List.set_cons_zero, List.set_cons_succ]
  clear hK K hHeld
  refine runZ (i := 9) rfl rfl (by kernel_rfl) (fun K hK => ?_)
  go_simp
  refine (reffrom_q q.m _).mono ?_
  rintro e wc4 ⟨rfl, hx⟩
  have hq4 := hq3.trans hx
  have hxr := (hx.block _ (heap_lt hxr)).trans hxr
  refine hK.out _ _ hq4 (fun hHeld => ?_)
  try simp only [Act.put, List.setIfInBounds_toArray, List.set_cons_zero, List.set_cons_succ]
  clear hK K hHeld
  refine runZ (i := 13) rfl rfl (by kernel_rfl) (fun K hK => ?_)
  go_simp
  refine (refto_q q.h _).mono ?_
  rintro e wc5 ⟨rfl, hx⟩
  have hq5 := hq4.trans hx
  have hxr := (hx.block _ (heap_lt hxr)).trans hxr
  refine hK.out _ _ hq5 (fun hHeld => ?_)
  try simp only [Act.put, List.setIfInBounds_toArray, List.set_cons_zero, List.set_cons_succ]
  clear hK K hHeld
  refine runZ (i := 14) rfl rfl (by kernel_rfl) (fun K hK => ?_)
  go_simp
  refine (reffrom_q q.h _).mono ?_
  rintro e wc6 ⟨rfl, hx⟩
  have hq6 := hq5.trans hx
  have hxr := (hx.block _ (heap_lt hxr)).trans hxr
  refine hK.out _ _ hq6 (fun hHeld => ?_)
  try simp only [Act.put, List.setIfInBounds_toArray, List.set_cons_zero, List.set_cons_succ]
  clear hK K hHeld
  refine runZ (i := 18) rfl rfl (by kernel_rfl) (fun K hK => ?_)
  go_simp
  refine (refto_q q.d _).mono ?_
  rintro e wc7 ⟨rfl, hx⟩
  have hq7 := hq6.trans hx
  have hxr := (hx.block _ (heap_lt hxr)).trans hxr
  refine hK.out _ _ hq7 (fun hHeld => ?_)
  try simp only [Act.put, List.setIfInBounds_toArray, List.set_cons_zero, List.set_cons_succ]
  clear hK K hHeld
  refine runZ (i := 19) rfl rfl (by kernel_rfl) (fun K hK => ?_)
  go_simp
  refine (reffrom_q q.d _).mono ?_
  rintro e wc8 ⟨rfl, hx⟩
  have hq8 := hq7.trans hx
  have hxr := (hx.block _ (heap_lt hxr)).trans hxr
  refine hK.out _ _ hq8 (fun hHeld => ?_)
  try simp only [Act.put, List.setIfInBounds_toArray, List.set_cons_zero, List.set_cons_succ]
  clear hK K hHeld
  refine takeZ (i := 20) (z := 22) (v := (.agg #[.int .i64 (told q.a), .int .i64 (told q.m), .int .i64 (told q.h), .int .i64 (told q.d)])) rfl rfl (by kernel_rfl) (by kernel_rfl) (by kernel_rfl) (by kernel_rfl) (by kernel_rfl) (by kernel_rfl) (fun _ _ _ h => h) (yieldsIf_build rfl 28 _ rfl [(0, .int .i64 (told q.a)), (1, .int .i64 (told q.m)), (2, .int .i64 (told q.h)), (3, .int .i64 (told q.d))] rfl #[.int .i64 (told q.a), .int .i64 (told q.m), .int .i64 (told q.h), .int .i64 (told q.d)] (times_b _ _ _ _)) hq8 ?_
  simp only [Act.put, List.setIfInBounds_toArray, List.set_cons_zero, List.set_cons_succ]
  refine takeZ (i := 21) (z := 22) (v := (.pointer (some ⟨A0, 13, none⟩))) rfl rfl (by kernel_rfl) (by kernel_rfl) (by kernel_rfl) (by kernel_rfl) (by kernel_rfl) (by kernel_rfl) (fun _ _ _ h => h) (Or.inl ⟨rfl, fun _ _ => rfl⟩) hq8 ?_
  simp only [Act.put, List.setIfInBounds_toArray, List.set_cons_zero, List.set_cons_succ]
  refine runZl (z := 22) rfl rfl (by kernel_rfl) (fun K hK => ?_)
  refine wp_st_at rfl 28 _ _ rfl A0 13 _ #[.int .i64 (told q.a), .int .i64 (told q.m), .int .i64 (told q.h), .int .i64 (told q.d)] _ #[.int .i64 q.kd, .bool q.ch, .bool q.ak, .bool q.pr, .bool q.ag, .bool q.ln, .bool q.fw, .int .i64 q.ro, .int .u64 q.r, .int .u32 q.c, .int .u64 q.b, .int .u16 q.p, .int .u16 0, .int .i64 (told q.a), .int .i64 (told q.m), .int .i64 (told q.h), .int .i64 (told q.d)] _ rfl rfl rfl hxr (by exact (by decide : 13 + 4 ≤ 17)) (by kernel_rfl) rfl rfl (fun ws22 hrow22 hm22 => ?_)
  refine hK.out _ _ ?_
  try simp only [Act.put, List.setIfInBounds_toArray, List.set_cons_zero, List.set_cons_succ]
  clear hK K
  refine wpAnyH_done (by kernel_rfl) ?_ _
  generalize ws22 = z3 at *
  have tq0 := (hq8.block _ (heap_lt hA_z2)).trans hA_z2
  have tq0 := (hq8.block _ (heap_lt hR_z2)).trans hR_z2
  have tq1 := (hm22.heap (heap_lt tq0) (show ¬ R0 = A0 by omega)).trans tq0
  have hR_z3 : z3.heap[R0]? = some (.cells #[.int .i64 0, .bool false, .bool false, .bool false, .bool false, .bool false, .bool false, .int .i64 0, .int .u64 0, .int .u32 0, .int .u64 0, .int .u16 0, .int .u16 0, .int .i64 0, .int .i64 0, .int .i64 0, .int .i64 0] 30 (0, 0)) := tq1
  have eq0 : Ext w _ := E_z2.trans hq8
  have eq1 : Ext w _ := Ext.mutE eq0 hm22 (fun n hn h => by have h2 : n = A0 := h; omega)
  have E_z3 : Ext w z3 := eq1
  have hA_z3 : z3.heap[A0]? = some (.cells #[.int .i64 q.kd, .bool q.ch, .bool q.ak, .bool q.pr, .bool q.ag, .bool q.ln, .bool q.fw, .int .i64 q.ro, .int .u64 q.r, .int .u32 q.c, .int .u64 q.b, .int .u16 q.p, .int .u16 0, .int .i64 (told q.a), .int .i64 (told q.m), .int .i64 (told q.h), .int .i64 (told q.d)] 30 (0, 0)) := hrow22
  have rA0_z3 : z3.cell? ⟨A0, 0, none⟩ = some (.int .i64 q.kd) := (cell_of_row _ _ _ _ _ _ hA_z3).trans rfl
  have rA7_z3 : z3.cell? ⟨A0, 7, none⟩ = some (.int .i64 q.ro) := (cell_of_row _ _ _ _ _ _ hA_z3).trans rfl
  clear hA_z2 hR_z2 E_z2 rA0_z2
  clear hq0 hq1 hq2 hq3 hq4 hq5 hq6 hq7 hq8 hm22 tq0 tq1 eq0 eq1
  go_wp2_with (first
    | fail
    | ((with_reducible refine at_store 3 ?_); refine st_at rfl rfl 3 _ _ rfl A0 7 _ #[.int .i64 0] _ #[.int .i64 q.kd, .bool q.ch, .bool q.ak, .bool q.pr, .bool q.ag, .bool q.ln, .bool q.fw, .int .i64 0, .int .u64 q.r, .int .u32 q.c, .int .u64 q.b, .int .u16 q.p, .int .u16 0, .int .i64 (told q.a), .int .i64 (told q.m), .int .i64 (told q.h), .int .i64 (told q.d)] _ rfl rfl rfl hA_z3 (by exact (by decide : 7 + 1 ≤ 17)) (by kernel_rfl) rfl rfl ?_
       intro z4 hq hm
       have hA_z4 : z4.heap[A0]? = some (.cells #[.int .i64 q.kd, .bool q.ch, .bool q.ak, .bool q.pr, .bool q.ag, .bool q.ln, .bool q.fw, .int .i64 0, .int .u64 q.r, .int .u32 q.c, .int .u64 q.b, .int .u16 q.p, .int .u16 0, .int .i64 (told q.a), .int .i64 (told q.m), .int .i64 (told q.h), .int .i64 (told q.d)] 30 (0, 0)) := hq
       have hR_z4 : z4.heap[R0]? = some (.cells #[.int .i64 0, .bool false, .bool false, .bool false, .bool false, .bool false, .bool false, .int .i64 0, .int .u64 0, .int .u32 0, .int .u64 0, .int .u16 0, .int .u16 0, .int .i64 0, .int .i64 0, .int .i64 0, .int .i64 0] 30 (0, 0)) := (hm.heap (heap_lt hR_z3) (show ¬ R0 = A0 by omega)).trans hR_z3
       have E_z4 : Ext w z4 := Ext.mutE E_z3 hm (fun n hn h => by have h2 : n = A0 := h; omega)
       have rA0_z4 : z4.cell? ⟨A0, 0, none⟩ = some (.int .i64 q.kd) := (cell_of_row _ _ _ _ _ _ hA_z4).trans rfl
       have rA7_z4 : z4.cell? ⟨A0, 7, none⟩ = some (.int .i64 0) := (cell_of_row _ _ _ _ _ _ hA_z4).trans rfl
       clear hA_z3 hR_z3 E_z3 rA0_z3 rA7_z3
       clear hq hm)
    | ((with_reducible refine at_load 30 ?_); refine wpList_load_row rfl 30 _ rfl A0 rfl 30 #[.int .i64 q.kd, .bool q.ch, .bool q.ak, .bool q.pr, .bool q.ag, .bool q.ln, .bool q.fw, .int .i64 0, .int .u64 q.r, .int .u32 q.c, .int .u64 q.b, .int .u16 q.p, .int .u16 0, .int .i64 (told q.a), .int .i64 (told q.m), .int .i64 (told q.h), .int .i64 (told q.d)] (0, 0) _ hA_z4 Try.underlying30 rfl (by kernel_rfl) ?_)
    | ((with_reducible refine at_store 30 ?_); refine st_at rfl rfl 30 _ _ rfl R0 0 _ #[.int .i64 q.kd, .bool q.ch, .bool q.ak, .bool q.pr, .bool q.ag, .bool q.ln, .bool q.fw, .int .i64 0, .int .u64 q.r, .int .u32 q.c, .int .u64 q.b, .int .u16 q.p, .int .u16 0, .int .i64 (told q.a), .int .i64 (told q.m), .int .i64 (told q.h), .int .i64 (told q.d)] _ #[.int .i64 q.kd, .bool q.ch, .bool q.ak, .bool q.pr, .bool q.ag, .bool q.ln, .bool q.fw, .int .i64 0, .int .u64 q.r, .int .u32 q.c, .int .u64 q.b, .int .u16 q.p, .int .u16 0, .int .i64 (told q.a), .int .i64 (told q.m), .int .i64 (told q.h), .int .i64 (told q.d)] _ rfl rfl rfl hR_z4 (by exact (by decide : 0 + 17 ≤ 17)) (by kernel_rfl) rfl rfl ?_
       intro z5 hq hm
       have hR_z5 : z5.heap[R0]? = some (.cells #[.int .i64 q.kd, .bool q.ch, .bool q.ak, .bool q.pr, .bool q.ag, .bool q.ln, .bool q.fw, .int .i64 0, .int .u64 q.r, .int .u32 q.c, .int .u64 q.b, .int .u16 q.p, .int .u16 0, .int .i64 (told q.a), .int .i64 (told q.m), .int .i64 (told q.h), .int .i64 (told q.d)] 30 (0, 0)) := hq
       have hA_z5 : z5.heap[A0]? = some (.cells #[.int .i64 q.kd, .bool q.ch, .bool q.ak, .bool q.pr, .bool q.ag, .bool q.ln, .bool q.fw, .int .i64 0, .int .u64 q.r, .int .u32 q.c, .int .u64 q.b, .int .u16 q.p, .int .u16 0, .int .i64 (told q.a), .int .i64 (told q.m), .int .i64 (told q.h), .int .i64 (told q.d)] 30 (0, 0)) := (hm.heap (heap_lt hA_z4) (show ¬ A0 = R0 by omega)).trans hA_z4
       have E_z5 : Ext w z5 := Ext.mutE E_z4 hm (fun n hn h => by have h2 : n = R0 := h; omega)
       have rA0_z5 : z5.cell? ⟨A0, 0, none⟩ = some (.int .i64 q.kd) := (cell_of_row _ _ _ _ _ _ hA_z5).trans rfl
       have rA7_z5 : z5.cell? ⟨A0, 7, none⟩ = some (.int .i64 0) := (cell_of_row _ _ _ _ _ _ hA_z5).trans rfl
       clear hA_z4 hR_z4 E_z4 rA0_z4 rA7_z4
       clear hq hm))
  refine bodyPost_ret (results_cell_row rfl _ _ _ _ _ (0, 0) _ rfl hR_z5 Try.underlying30 rfl (by kernel_rfl)) rfl ?_
  refine ⟨?_, E_z5⟩
  unfold plainM
  rw [if_neg (by have := HK.out; omega), if_pos (.inr HK.out), flagged_flags, if_pos HK.out, show roB (roN q.ro) = 0 by rw [roB_roN]; have := HR.out; rw [if_neg (by omega), if_neg (by omega), if_neg (by omega)]]
set_option maxRecDepth 100000 in
set_option maxHeartbeats 2000000 in
theorem pd_r (q : Mg) (hq : q.ok) (hk : q.kd = 2) (hr : q.ro ≠ 2 ∧ 0 ≤ q.ro ∧ q.ro ≤ 4) (w : World) : Calls Try.prog 20 #[.agg #[.int .i64 q.kd, .bool q.ch, .bool q.ak, .bool q.pr, .bool q.ag, .bool q.ln, .bool q.fw, .int .i64 q.ro, .int .u64 q.r, .int .u32 q.c, .int .u64 q.b, .int .u16 q.p, .int .u16 q.x, .int .i64 q.a, .int .i64 q.m, .int .i64 q.h, .int .i64 q.d]] w fun e w' => e = .returned (.agg #[.int .i64 (plainM q).kd, .bool (plainM q).ch, .bool (plainM q).ak, .bool (plainM q).pr, .bool (plainM q).ag, .bool (plainM q).ln, .bool (plainM q).fw, .int .i64 (plainM q).ro, .int .u64 (plainM q).r, .int .u32 (plainM q).c, .int .u64 (plainM q).b, .int .u16 (plainM q).p, .int .u16 (plainM q).x, .int .i64 (plainM q).a, .int .i64 (plainM q).m, .int .i64 (plainM q).h, .int .i64 (plainM q).d]) ∧ Ext w w' := by
  have hz := zero_msg
  have b0 : decide (q.kd < 0) = false := by simp; omega
  have b2 : decide (2 < q.kd) = false := by simp; omega
  have k1 : (q.kd == 1) = false := by simp; omega
  have k0 : (q.kd == 0) = false := by simp [hk]
  have r2 : (q.ro == 2) = false := by simp; omega
  have rn : decide (q.ro < 0) = false := by simp; omega
  have rg : decide (4 < q.ro) = false := by simp; omega
  have HR := Lib.hid hr
  clear hr
  have HK := Lib.hid hk
  clear hk
  go_enter Try.func20, Try.ntmps20
  go_wp2_with (first
    | fail
    | ((with_reducible refine at_alloc 30 ?_)
       have hA_w0 : (w.alloc (.cells #[.int .i64 q.kd, .bool q.ch, .bool q.ak, .bool q.pr, .bool q.ag, .bool q.ln, .bool q.fw, .int .i64 q.ro, .int .u64 q.r, .int .u32 q.c, .int .u64 q.b, .int .u16 q.p, .int .u16 q.x, .int .i64 q.a, .int .i64 q.m, .int .i64 q.h, .int .i64 q.d] 30)).heap[w.heap.size]? = some (.cells #[.int .i64 q.kd, .bool q.ch, .bool q.ak, .bool q.pr, .bool q.ag, .bool q.ln, .bool q.fw, .int .i64 q.ro, .int .u64 q.r, .int .u32 q.c, .int .u64 q.b, .int .u16 q.p, .int .u16 q.x, .int .i64 q.a, .int .i64 q.m, .int .i64 q.h, .int .i64 q.d] 30 (0, 0)) := heap_alloc_new _ _
       have hE_w0 : Ext w (w.alloc (.cells #[.int .i64 q.kd, .bool q.ch, .bool q.ak, .bool q.pr, .bool q.ag, .bool q.ln, .bool q.fw, .int .i64 q.ro, .int .u64 q.r, .int .u32 q.c, .int .u64 q.b, .int .u16 q.p, .int .u16 q.x, .int .i64 q.a, .int .i64 q.m, .int .i64 q.h, .int .i64 q.d] 30)) := (Ext.refl _).alloc _
       generalize w.alloc (.cells #[.int .i64 q.kd, .bool q.ch, .bool q.ak, .bool q.pr, .bool q.ag, .bool q.ln, .bool q.fw, .int .i64 q.ro, .int .u64 q.r, .int .u32 q.c, .int .u64 q.b, .int .u16 q.p, .int .u16 q.x, .int .i64 q.a, .int .i64 q.m, .int .i64 q.h, .int .i64 q.d] 30) = w0 at *
       obtain ⟨A0, hA0⟩ : ∃ n, w.heap.size = n := ⟨_, rfl⟩
       rw [hA0] at hA_w0 ⊢
       have hb_A0 : w.heap.size ≤ A0 := by omega
       refine al_zero rfl 30 rfl MZ zero_msg ?_
       intro R0 z1 hq hs hx
       have E_z1 : Ext w z1 := hE_w0.trans hx
       have hA_z1 : z1.heap[A0]? = some (.cells #[.int .i64 q.kd, .bool q.ch, .bool q.ak, .bool q.pr, .bool q.ag, .bool q.ln, .bool q.fw, .int .i64 q.ro, .int .u64 q.r, .int .u32 q.c, .int .u64 q.b, .int .u16 q.p, .int .u16 q.x, .int .i64 q.a, .int .i64 q.m, .int .i64 q.h, .int .i64 q.d] 30 (0, 0)) := (hx.block _ (heap_lt hA_w0)).trans hA_w0
       have hR_z1 : z1.heap[R0]? = some (.cells #[.int .i64 0, .bool false, .bool false, .bool false, .bool false, .bool false, .bool false, .int .i64 0, .int .u64 0, .int .u32 0, .int .u64 0, .int .u16 0, .int .u16 0, .int .i64 0, .int .i64 0, .int .i64 0, .int .i64 0] 30 (0, 0)) := hq
       have hb_R0 : w.heap.size ≤ R0 := by have := hE_w0.size; omega
       have hn_A0R0 : A0 ≠ R0 := by have := heap_lt hA_w0; omega
       have rA0_z1 : z1.cell? ⟨A0, 0, none⟩ = some (.int .i64 q.kd) := (cell_of_row _ _ _ _ _ _ hA_z1).trans rfl
       clear hA_w0 hE_w0
       clear hq hs hx)
    | ((with_reducible refine at_store 24 ?_); refine st_at rfl rfl 24 _ _ rfl A0 12 _ #[.int .u16 0] _ #[.int .i64 q.kd, .bool q.ch, .bool q.ak, .bool q.pr, .bool q.ag, .bool q.ln, .bool q.fw, .int .i64 q.ro, .int .u64 q.r, .int .u32 q.c, .int .u64 q.b, .int .u16 q.p, .int .u16 0, .int .i64 q.a, .int .i64 q.m, .int .i64 q.h, .int .i64 q.d] _ rfl rfl rfl hA_z1 (by exact (by decide : 12 + 1 ≤ 17)) (by kernel_rfl) rfl rfl ?_
       intro z2 hq hm
       have hA_z2 : z2.heap[A0]? = some (.cells #[.int .i64 q.kd, .bool q.ch, .bool q.ak, .bool q.pr, .bool q.ag, .bool q.ln, .bool q.fw, .int .i64 q.ro, .int .u64 q.r, .int .u32 q.c, .int .u64 q.b, .int .u16 q.p, .int .u16 0, .int .i64 q.a, .int .i64 q.m, .int .i64 q.h, .int .i64 q.d] 30 (0, 0)) := hq
       have hR_z2 : z2.heap[R0]? = some (.cells #[.int .i64 0, .bool false, .bool false, .bool false, .bool false, .bool false, .bool false, .int .i64 0, .int .u64 0, .int .u32 0, .int .u64 0, .int .u16 0, .int .u16 0, .int .i64 0, .int .i64 0, .int .i64 0, .int .i64 0] 30 (0, 0)) := (hm.heap (heap_lt hR_z1) (show ¬ R0 = A0 by omega)).trans hR_z1
       have E_z2 : Ext w z2 := Ext.mutE E_z1 hm (fun n hn h => by have h2 : n = A0 := h; omega)
       have rA0_z2 : z2.cell? ⟨A0, 0, none⟩ = some (.int .i64 q.kd) := (cell_of_row _ _ _ _ _ _ hA_z2).trans rfl
       clear hA_z1 hR_z1 E_z1 rA0_z1
       clear hq hm))
  refine beginZ (S := fun W' => Ext z2 W') 22 (by kernel_rfl) ?_
  intro wd hqx
  have hq0 : Ext z2 wd := hqx
  have hxr := (hqx.block _ (heap_lt hA_z2)).trans hA_z2
  refine takeZ (i := 0) (z := 22) (v := (.pointer (some ⟨A0, 13, none⟩))) rfl rfl (by kernel_rfl) (by kernel_rfl) (by kernel_rfl) (by kernel_rfl) (by kernel_rfl) (by kernel_rfl) (fun _ _ _ h => h) (Or.inl ⟨rfl, fun _ _ => rfl⟩) hq0 ?_
  simp only [Act.put, List.setIfInBounds_toArray, List.set_cons_zero, List.set_cons_succ]
  refine takeZ (i := 1) (z := 22) (v := (.pointer (some ⟨A0, 13, none⟩))) rfl rfl (by kernel_rfl) (by kernel_rfl) (by kernel_rfl) (by kernel_rfl) (by kernel_rfl) (by kernel_rfl) (fun _ _ _ h => h) (Or.inl ⟨rfl, fun _ _ => rfl⟩) hq0 ?_
  simp only [Act.put, List.setIfInBounds_toArray, List.set_cons_zero, List.set_cons_succ]
  refine takeZ (i := 2) (z := 22) (v := _) rfl rfl (by kernel_rfl) (by kernel_rfl) (by kernel_rfl) (by kernel_rfl) (by kernel_rfl) (by kernel_rfl) (fun _ _ _ h => h) (yieldsIf_cell rfl 3 _ rfl ⟨A0, 13, none⟩ rfl (.int .i64 q.a) _ (fun W' hW' => (cell_of_row _ _ _ _ _ _ ((hW'.block _ (heap_lt hA_z2)).trans hA_z2)).trans rfl) Try.underlying3 rfl) hq0 ?_
  simp only [Act.put, List.setIfInBounds_toArray, List.set_cons_zero, List.set_cons_succ]
  refine takeZ (i := 5) (z := 22) (v := (.pointer (some ⟨A0, 13, none⟩))) rfl rfl (by kernel_rfl) (by kernel_rfl) (by kernel_rfl) (by kernel_rfl) (by kernel_rfl) (by kernel_rfl) (fun _ _ _ h => h) (Or.inl ⟨rfl, fun _ _ => rfl⟩) hq0 ?_
  simp only [Act.put, List.setIfInBounds_toArray, List.set_cons_zero, List.set_cons_succ]
  refine takeZ (i := 6) (z := 22) (v := (.pointer (some ⟨A0, 14, none⟩))) rfl rfl (by kernel_rfl) (by kernel_rfl) (by kernel_rfl) (by kernel_rfl) (by kernel_rfl) (by kernel_rfl) (fun _ _ _ h => h) (Or.inl ⟨rfl, fun _ _ => rfl⟩) hq0 ?_
  simp only [Act.put, List.setIfInBounds_toArray, List.set_cons_zero, List.set_cons_succ]
  refine takeZ (i := 7) (z := 22) (v := _) rfl rfl (by kernel_rfl) (by kernel_rfl) (by kernel_rfl) (by kernel_rfl) (by kernel_rfl) (by kernel_rfl) (fun _ _ _ h => h) (yieldsIf_cell rfl 3 _ rfl ⟨A0, 14, none⟩ rfl (.int .i64 q.m) _ (fun W' hW' => (cell_of_row _ _ _ _ _ _ ((hW'.block _ (heap_lt hA_z2)).trans hA_z2)).trans rfl) Try.underlying3 rfl) hq0 ?_
  simp only [Act.put, List.setIfInBounds_toArray, List.set_cons_zero, List.set_cons_succ]
  refine takeZ (i := 10) (z := 22) (v := (.pointer (some ⟨A0, 13, none⟩))) rfl rfl (by kernel_rfl) (by kernel_rfl) (by kernel_rfl) (by kernel_rfl) (by kernel_rfl) (by kernel_rfl) (fun _ _ _ h => h) (Or.inl ⟨rfl, fun _ _ => rfl⟩) hq0 ?_
  simp only [Act.put, List.setIfInBounds_toArray, List.set_cons_zero, List.set_cons_succ]
  refine takeZ (i := 11) (z := 22) (v := (.pointer (some ⟨A0, 15, none⟩))) rfl rfl (by kernel_rfl) (by kernel_rfl) (by kernel_rfl) (by kernel_rfl) (by kernel_rfl) (by kernel_rfl) (fun _ _ _ h => h) (Or.inl ⟨rfl, fun _ _ => rfl⟩) hq0 ?_
  simp only [Act.put, List.setIfInBounds_toArray, List.set_cons_zero, List.set_cons_succ]
  refine takeZ (i := 12) (z := 22) (v := _) rfl rfl (by kernel_rfl) (by kernel_rfl) (by kernel_rfl) (by kernel_rfl) (by kernel_rfl) (by kernel_rfl) (fun _ _ _ h => h) (yieldsIf_cell rfl 3 _ rfl ⟨A0, 15, none⟩ rfl (.int .i64 q.h) _ (fun W' hW' => (cell_of_row _ _ _ _ _ _ ((hW'.block _ (heap_lt hA_z2)).trans hA_z2)).trans rfl) Try.underlying3 rfl) hq0 ?_
  simp only [Act.put, List.setIfInBounds_toArray, List.set_cons_zero, List.set_cons_succ]
  refine takeZ (i := 15) (z := 22) (v := (.pointer (some ⟨A0, 13, none⟩))) rfl rfl (by kernel_rfl) (by kernel_rfl) (by kernel_rfl) (by kernel_rfl) (by kernel_rfl) (by kernel_rfl) (fun _ _ _ h => h) (Or.inl ⟨rfl, fun _ _ => rfl⟩) hq0 ?_
  simp only [Act.put, List.setIfInBounds_toArray, List.set_cons_zero, List.set_cons_succ]
  refine takeZ (i := 16) (z := 22) (v := (.pointer (some ⟨A0, 16, none⟩))) rfl rfl (by kernel_rfl) (by kernel_rfl) (by kernel_rfl) (by kernel_rfl) (by kernel_rfl) (by kernel_rfl) (fun _ _ _ h => h) (Or.inl ⟨rfl, fun _ _ => rfl⟩) hq0 ?_
  simp only [Act.put, List.setIfInBounds_toArray, List.set_cons_zero, List.set_cons_succ]
  refine takeZ (i := 17) (z := 22) (v := _) rfl rfl (by kernel_rfl) (by kernel_rfl) (by kernel_rfl) (by kernel_rfl) (by kernel_rfl) (by kernel_rfl) (fun _ _ _ h => h) (yieldsIf_cell rfl 3 _ rfl ⟨A0, 16, none⟩ rfl (.int .i64 q.d) _ (fun W' hW' => (cell_of_row _ _ _ _ _ _ ((hW'.block _ (heap_lt hA_z2)).trans hA_z2)).trans rfl) Try.underlying3 rfl) hq0 ?_
  simp only [Act.put, List.setIfInBounds_toArray, List.set_cons_zero, List.set_cons_succ]
  refine runZ (i := 3) rfl rfl (by kernel_rfl) (fun K hK => ?_)
  go_simp
  refine (refto_q q.a _).mono ?_
  rintro e wc1 ⟨rfl, hx⟩
  have hq1 := hq0.trans hx
  have hxr := (hx.block _ (heap_lt hxr)).trans hxr
  refine hK.out _ _ hq1 (fun hHeld => ?_)
  try simp only [Act.put, List.setIfInBounds_toArray, List.set_cons_zero, List.set_cons_succ]
  clear hK K hHeld
  refine runZ (i := 4) rfl rfl (by kernel_rfl) (fun K hK => ?_)
  go_simp
  refine (reffrom_q q.a _).mono ?_
  rintro e wc2 ⟨rfl, hx⟩
  have hq2 := hq1.trans hx
  have hxr := (hx.block _ (heap_lt hxr)).trans hxr
  refine hK.out _ _ hq2 (fun hHeld => ?_)
  try simp only [Act.put, List.setIfInBounds_toArray, List.set_cons_zero, List.set_cons_succ]
  clear hK K hHeld
  refine runZ (i := 8) rfl rfl (by kernel_rfl) (fun K hK => ?_)
  go_simp
  refine (refto_q q.m _).mono ?_
  rintro e wc3 ⟨rfl, hx⟩
  have hq3 := hq2.trans hx
  have hxr := (hx.block _ (heap_lt hxr)).trans hxr
  refine hK.out _ _ hq3 (fun hHeld => ?_)
  try simp only [Act.put, List.setIfInBounds_toArray, List.set_cons_zero, List.set_cons_succ]
  clear hK K hHeld
  refine runZ (i := 9) rfl rfl (by kernel_rfl) (fun K hK => ?_)
  go_simp
  refine (reffrom_q q.m _).mono ?_
  rintro e wc4 ⟨rfl, hx⟩
  have hq4 := hq3.trans hx
  have hxr := (hx.block _ (heap_lt hxr)).trans hxr
  refine hK.out _ _ hq4 (fun hHeld => ?_)
  try simp only [Act.put, List.setIfInBounds_toArray, List.set_cons_zero, List.set_cons_succ]
  clear hK K hHeld
  refine runZ (i := 13) rfl rfl (by kernel_rfl) (fun K hK => ?_)
  go_simp
  refine (refto_q q.h _).mono ?_
  rintro e wc5 ⟨rfl, hx⟩
  have hq5 := hq4.trans hx
  have hxr := (hx.block _ (heap_lt hxr)).trans hxr
  refine hK.out _ _ hq5 (fun hHeld => ?_)
  try simp only [Act.put, List.setIfInBounds_toArray, List.set_cons_zero, List.set_cons_succ]
  clear hK K hHeld
  refine runZ (i := 14) rfl rfl (by kernel_rfl) (fun K hK => ?_)
  go_simp
  refine (reffrom_q q.h _).mono ?_
  rintro e wc6 ⟨rfl, hx⟩
  have hq6 := hq5.trans hx
  have hxr := (hx.block _ (heap_lt hxr)).trans hxr
  refine hK.out _ _ hq6 (fun hHeld => ?_)
  try simp only [Act.put, List.setIfInBounds_toArray, List.set_cons_zero, List.set_cons_succ]
  clear hK K hHeld
  refine runZ (i := 18) rfl rfl (by kernel_rfl) (fun K hK => ?_)
  go_simp
  refine (refto_q q.d _).mono ?_
  rintro e wc7 ⟨rfl, hx⟩
  have hq7 := hq6.trans hx
  have hxr := (hx.block _ (heap_lt hxr)).trans hxr
  refine hK.out _ _ hq7 (fun hHeld => ?_)
  try simp only [Act.put, List.setIfInBounds_toArray, List.set_cons_zero, List.set_cons_succ]
  clear hK K hHeld
  refine runZ (i := 19) rfl rfl (by kernel_rfl) (fun K hK => ?_)
  go_simp
  refine (reffrom_q q.d _).mono ?_
  rintro e wc8 ⟨rfl, hx⟩
  have hq8 := hq7.trans hx
  have hxr := (hx.block _ (heap_lt hxr)).trans hxr
  refine hK.out _ _ hq8 (fun hHeld => ?_)
  try simp only [Act.put, List.setIfInBounds_toArray, List.set_cons_zero, List.set_cons_succ]
  clear hK K hHeld
  refine takeZ (i := 20) (z := 22) (v := (.agg #[.int .i64 (told q.a), .int .i64 (told q.m), .int .i64 (told q.h), .int .i64 (told q.d)])) rfl rfl (by kernel_rfl) (by kernel_rfl) (by kernel_rfl) (by kernel_rfl) (by kernel_rfl) (by kernel_rfl) (fun _ _ _ h => h) (yieldsIf_build rfl 28 _ rfl [(0, .int .i64 (told q.a)), (1, .int .i64 (told q.m)), (2, .int .i64 (told q.h)), (3, .int .i64 (told q.d))] rfl #[.int .i64 (told q.a), .int .i64 (told q.m), .int .i64 (told q.h), .int .i64 (told q.d)] (times_b _ _ _ _)) hq8 ?_
  simp only [Act.put, List.setIfInBounds_toArray, List.set_cons_zero, List.set_cons_succ]
  refine takeZ (i := 21) (z := 22) (v := (.pointer (some ⟨A0, 13, none⟩))) rfl rfl (by kernel_rfl) (by kernel_rfl) (by kernel_rfl) (by kernel_rfl) (by kernel_rfl) (by kernel_rfl) (fun _ _ _ h => h) (Or.inl ⟨rfl, fun _ _ => rfl⟩) hq8 ?_
  simp only [Act.put, List.setIfInBounds_toArray, List.set_cons_zero, List.set_cons_succ]
  refine runZl (z := 22) rfl rfl (by kernel_rfl) (fun K hK => ?_)
  refine wp_st_at rfl 28 _ _ rfl A0 13 _ #[.int .i64 (told q.a), .int .i64 (told q.m), .int .i64 (told q.h), .int .i64 (told q.d)] _ #[.int .i64 q.kd, .bool q.ch, .bool q.ak, .bool q.pr, .bool q.ag, .bool q.ln, .bool q.fw, .int .i64 q.ro, .int .u64 q.r, .int .u32 q.c, .int .u64 q.b, .int .u16 q.p, .int .u16 0, .int .i64 (told q.a), .int .i64 (told q.m), .int .i64 (told q.h), .int .i64 (told q.d)] _ rfl rfl rfl hxr (by exact (by decide : 13 + 4 ≤ 17)) (by kernel_rfl) rfl rfl (fun ws22 hrow22 hm22 => ?_)
  refine hK.out _ _ ?_
  try simp only [Act.put, List.setIfInBounds_toArray, List.set_cons_zero, List.set_cons_succ]
  clear hK K
  refine wpAnyH_done (by kernel_rfl) ?_ _
  generalize ws22 = z3 at *
  have tq0 := (hq8.block _ (heap_lt hA_z2)).trans hA_z2
  have tq0 := (hq8.block _ (heap_lt hR_z2)).trans hR_z2
  have tq1 := (hm22.heap (heap_lt tq0) (show ¬ R0 = A0 by omega)).trans tq0
  have hR_z3 : z3.heap[R0]? = some (.cells #[.int .i64 0, .bool false, .bool false, .bool false, .bool false, .bool false, .bool false, .int .i64 0, .int .u64 0, .int .u32 0, .int .u64 0, .int .u16 0, .int .u16 0, .int .i64 0, .int .i64 0, .int .i64 0, .int .i64 0] 30 (0, 0)) := tq1
  have eq0 : Ext w _ := E_z2.trans hq8
  have eq1 : Ext w _ := Ext.mutE eq0 hm22 (fun n hn h => by have h2 : n = A0 := h; omega)
  have E_z3 : Ext w z3 := eq1
  have hA_z3 : z3.heap[A0]? = some (.cells #[.int .i64 q.kd, .bool q.ch, .bool q.ak, .bool q.pr, .bool q.ag, .bool q.ln, .bool q.fw, .int .i64 q.ro, .int .u64 q.r, .int .u32 q.c, .int .u64 q.b, .int .u16 q.p, .int .u16 0, .int .i64 (told q.a), .int .i64 (told q.m), .int .i64 (told q.h), .int .i64 (told q.d)] 30 (0, 0)) := hrow22
  have rA0_z3 : z3.cell? ⟨A0, 0, none⟩ = some (.int .i64 q.kd) := (cell_of_row _ _ _ _ _ _ hA_z3).trans rfl
  have rA7_z3 : z3.cell? ⟨A0, 7, none⟩ = some (.int .i64 q.ro) := (cell_of_row _ _ _ _ _ _ hA_z3).trans rfl
  clear hA_z2 hR_z2 E_z2 rA0_z2
  clear hq0 hq1 hq2 hq3 hq4 hq5 hq6 hq7 hq8 hm22 tq0 tq1 eq0 eq1
  go_wp2_with (first
    | fail
    | ((with_reducible refine at_load 30 ?_); refine wpList_load_row rfl 30 _ rfl A0 rfl 30 #[.int .i64 q.kd, .bool q.ch, .bool q.ak, .bool q.pr, .bool q.ag, .bool q.ln, .bool q.fw, .int .i64 q.ro, .int .u64 q.r, .int .u32 q.c, .int .u64 q.b, .int .u16 q.p, .int .u16 0, .int .i64 (told q.a), .int .i64 (told q.m), .int .i64 (told q.h), .int .i64 (told q.d)] (0, 0) _ hA_z3 Try.underlying30 rfl (by kernel_rfl) ?_)
    | ((with_reducible refine at_store 30 ?_); refine st_at rfl rfl 30 _ _ rfl R0 0 _ #[.int .i64 q.kd, .bool q.ch, .bool q.ak, .bool q.pr, .bool q.ag, .bool q.ln, .bool q.fw, .int .i64 q.ro, .int .u64 q.r, .int .u32 q.c, .int .u64 q.b, .int .u16 q.p, .int .u16 0, .int .i64 (told q.a), .int .i64 (told q.m), .int .i64 (told q.h), .int .i64 (told q.d)] _ #[.int .i64 q.kd, .bool q.ch, .bool q.ak, .bool q.pr, .bool q.ag, .bool q.ln, .bool q.fw, .int .i64 q.ro, .int .u64 q.r, .int .u32 q.c, .int .u64 q.b, .int .u16 q.p, .int .u16 0, .int .i64 (told q.a), .int .i64 (told q.m), .int .i64 (told q.h), .int .i64 (told q.d)] _ rfl rfl rfl hR_z3 (by exact (by decide : 0 + 17 ≤ 17)) (by kernel_rfl) rfl rfl ?_
       intro z4 hq hm
       have hR_z4 : z4.heap[R0]? = some (.cells #[.int .i64 q.kd, .bool q.ch, .bool q.ak, .bool q.pr, .bool q.ag, .bool q.ln, .bool q.fw, .int .i64 q.ro, .int .u64 q.r, .int .u32 q.c, .int .u64 q.b, .int .u16 q.p, .int .u16 0, .int .i64 (told q.a), .int .i64 (told q.m), .int .i64 (told q.h), .int .i64 (told q.d)] 30 (0, 0)) := hq
       have hA_z4 : z4.heap[A0]? = some (.cells #[.int .i64 q.kd, .bool q.ch, .bool q.ak, .bool q.pr, .bool q.ag, .bool q.ln, .bool q.fw, .int .i64 q.ro, .int .u64 q.r, .int .u32 q.c, .int .u64 q.b, .int .u16 q.p, .int .u16 0, .int .i64 (told q.a), .int .i64 (told q.m), .int .i64 (told q.h), .int .i64 (told q.d)] 30 (0, 0)) := (hm.heap (heap_lt hA_z3) (show ¬ A0 = R0 by omega)).trans hA_z3
       have E_z4 : Ext w z4 := Ext.mutE E_z3 hm (fun n hn h => by have h2 : n = R0 := h; omega)
       have rA0_z4 : z4.cell? ⟨A0, 0, none⟩ = some (.int .i64 q.kd) := (cell_of_row _ _ _ _ _ _ hA_z4).trans rfl
       have rA7_z4 : z4.cell? ⟨A0, 7, none⟩ = some (.int .i64 q.ro) := (cell_of_row _ _ _ _ _ _ hA_z4).trans rfl
       clear hA_z3 hR_z3 E_z3 rA0_z3 rA7_z3
       clear hq hm))
  refine bodyPost_ret (results_cell_row rfl _ _ _ _ _ (0, 0) _ rfl hR_z4 Try.underlying30 rfl (by kernel_rfl)) rfl ?_
  refine ⟨?_, E_z4⟩
  unfold plainM
  rw [if_neg (by have := HK.out; omega), if_pos (.inr HK.out), flagged_flags, if_pos HK.out, show roB (roN q.ro) = q.ro by rw [roB_roN]; have := HR.out; split <;> (try split) <;> (try split) <;> omega]
theorem plaind_any (q : Mg) (hq : q.ok) (w : World) : Calls Try.prog 20 #[.agg #[.int .i64 q.kd, .bool q.ch, .bool q.ak, .bool q.pr, .bool q.ag, .bool q.ln, .bool q.fw, .int .i64 q.ro, .int .u64 q.r, .int .u32 q.c, .int .u64 q.b, .int .u16 q.p, .int .u16 q.x, .int .i64 q.a, .int .i64 q.m, .int .i64 q.h, .int .i64 q.d]] w fun e w' => e = .returned (.agg #[.int .i64 (plainM q).kd, .bool (plainM q).ch, .bool (plainM q).ak, .bool (plainM q).pr, .bool (plainM q).ag, .bool (plainM q).ln, .bool (plainM q).fw, .int .i64 (plainM q).ro, .int .u64 (plainM q).r, .int .u32 (plainM q).c, .int .u64 (plainM q).b, .int .u16 (plainM q).p, .int .u16 (plainM q).x, .int .i64 (plainM q).a, .int .i64 (plainM q).m, .int .i64 (plainM q).h, .int .i64 (plainM q).d]) ∧ Ext w w' := by
  by_cases hn : q.kd < 0
  · exact pd_n q hq hn w
  by_cases hg : 2 < q.kd
  · exact pd_g q hq hg w
  by_cases h1 : q.kd = 1
  · exact pd_t q hq h1 w
  by_cases h0 : q.kd = 0
  · exact pd_c q hq h0 w
  have h2 : q.kd = 2 := by omega
  by_cases r2 : q.ro = 2
  · exact pd_r2 q hq h2 r2 w
  by_cases rn : q.ro < 0
  · exact pd_rn q hq h2 rn w
  by_cases rg : 4 < q.ro
  · exact pd_rg q hq h2 rg w
  · exact pd_r q hq h2 ⟨r2, by omega, by omega⟩ w

end Go.Proofs.Ytdfaagchlnkpnaa
