/- The walk of BpduKinds. No statement is proved here. -/
import Derived.Test.YtdfaagchlnkpnaaBpH
namespace Go.Proofs.Ytdfaagchlnkpnaa
open Go.RowKit Go.BigFrame Go.WideShapes Go.ChangeShapes Go.Deep
set_option linter.unusedVariables false
set_option linter.unusedSimpArgs false

set_option maxRecDepth 100000 in
set_option maxHeartbeats 2000000 in
theorem cBpduKinds_a {w : World} (q : Mg) (hq : q.ok)  : Calls Try.prog 7 #[.agg #[.int .i64 q.kd, .bool q.ch, .bool q.ak, .bool q.pr, .bool q.ag, .bool q.ln, .bool q.fw, .int .i64 q.ro, .int .u64 q.r, .int .u32 q.c, .int .u64 q.b, .int .u16 q.p, .int .u16 q.x, .int .i64 q.a, .int .i64 q.m, .int .i64 q.h, .int .i64 q.d]] w fun e w' => e = .returned (.bool true) ∧ Ext w w' := by
  have heq := eq_tcn
  have hz := zero_msg
  have hqc : (⟨0, q.ch, q.ak, q.pr, q.ag, q.ln, q.fw, q.ro, q.r, q.c, q.b, q.p, q.x, 1, 20, 2, 15⟩ : Mg).ok := ⟨by show (-9223372036854775808 : Int) ≤ 0 ∧ (0 : Int) ≤ 9223372036854775807; decide, hq.ro, hq.r, hq.c, hq.b, hq.p, hq.x, by show (-9223372036854775808 : Int) ≤ 1 ∧ (1 : Int) ≤ 9223372036854775807; decide, by show (-9223372036854775808 : Int) ≤ 20 ∧ (20 : Int) ≤ 9223372036854775807; decide, by show (-9223372036854775808 : Int) ≤ 2 ∧ (2 : Int) ≤ 9223372036854775807; decide, by show (-9223372036854775808 : Int) ≤ 15 ∧ (15 : Int) ≤ 9223372036854775807; decide⟩
  have hqd : (⟨1, q.ch, q.ak, q.pr, q.ag, q.ln, q.fw, q.ro, q.r, q.c, q.b, q.p, q.x, q.a, q.m, q.h, q.d⟩ : Mg).ok := ⟨by show (-9223372036854775808 : Int) ≤ 1 ∧ (1 : Int) ≤ 9223372036854775807; decide, hq.ro, hq.r, hq.c, hq.b, hq.p, hq.x, hq.a, hq.m, hq.h, hq.d⟩
  have hpc : plainM (⟨0, q.ch, q.ak, q.pr, q.ag, q.ln, q.fw, q.ro, q.r, q.c, q.b, q.p, q.x, 1, 20, 2, 15⟩ : Mg) = ⟨0, q.ch, q.ak, false, false, false, false, 4, q.r, q.c, q.b, q.p, 0, told 1, told 20, told 2, told 15⟩ := by
    unfold plainM
    rw [if_neg (show ¬ (0 : Int) = 1 by decide), if_pos (.inl rfl), flagged_flags, if_neg (show ¬ (0 : Int) = 2 by decide)]
    rfl
  have hdc := dec_enc (⟨0, q.ch, q.ak, q.pr, q.ag, q.ln, q.fw, q.ro, q.r, q.c, q.b, q.p, q.x, 1, 20, 2, 15⟩ : Mg) hqc (.inl rfl) []
  rw [List.append_nil, if_neg (by rintro ⟨_, h⟩; exact h (show toV 1 < toV 20 by decide)), hpc] at hdc
  have hdd := dec_enc (⟨1, q.ch, q.ak, q.pr, q.ag, q.ln, q.fw, q.ro, q.r, q.c, q.b, q.p, q.x, q.a, q.m, q.h, q.d⟩ : Mg) hqd (.inr (.inl rfl)) []
  rw [List.append_nil, if_neg (by rintro ⟨h, _⟩; exact absurd h (show ¬ (1 : Int) = 0 by decide)), show plainM (⟨1, q.ch, q.ak, q.pr, q.ag, q.ln, q.fw, q.ro, q.r, q.c, q.b, q.p, q.x, q.a, q.m, q.h, q.d⟩ : Mg) = Mg.tcn from if_pos rfl] at hdd
  have HDC := Lib.hid (show ∀ (v : Value) (w : World), IsInts w .u8 v (encL (⟨0, q.ch, q.ak, q.pr, q.ag, q.ln, q.fw, q.ro, q.r, q.c, q.b, q.p, q.x, 1, 20, 2, 15⟩ : Mg)) → Calls Try.prog 21 #[v] w fun e w' => e = .returned (.tuple #[.agg #[.int .i64 0, .bool q.ch, .bool q.ak, .bool false, .bool false, .bool false, .bool false, .int .i64 4, .int .u64 q.r, .int .u32 q.c, .int .u64 q.b, .int .u16 q.p, .int .u16 0, .int .i64 (told 1), .int .i64 (told 20), .int .i64 (told 2), .int .i64 (told 15)], .int .i64 0]) ∧ Ext w w' from fun v w h => by
    have := dec_any v _ w h (enc_bytes _) (by have := encL_le (⟨0, q.ch, q.ak, q.pr, q.ag, q.ln, q.fw, q.ro, q.r, q.c, q.b, q.p, q.x, 1, 20, 2, 15⟩ : Mg); omega)
    rw [hdc] at this
    exact this)
  have HEC := Lib.hid (show ∀ w : World, Calls Try.prog 17 #[.agg #[.int .i64 0, .bool q.ch, .bool q.ak, .bool q.pr, .bool q.ag, .bool q.ln, .bool q.fw, .int .i64 q.ro, .int .u64 q.r, .int .u32 q.c, .int .u64 q.b, .int .u16 q.p, .int .u16 q.x, .int .i64 1, .int .i64 20, .int .i64 2, .int .i64 15]] w (Owned w (encL (⟨0, q.ch, q.ak, q.pr, q.ag, q.ln, q.fw, q.ro, q.r, q.c, q.b, q.p, q.x, 1, 20, 2, 15⟩ : Mg))) from fun w => enc_any (⟨0, q.ch, q.ak, q.pr, q.ag, q.ln, q.fw, q.ro, q.r, q.c, q.b, q.p, q.x, 1, 20, 2, 15⟩ : Mg) hqc w)
  have HDD := Lib.hid (show ∀ (v : Value) (w : World), IsInts w .u8 v (encL (⟨1, q.ch, q.ak, q.pr, q.ag, q.ln, q.fw, q.ro, q.r, q.c, q.b, q.p, q.x, q.a, q.m, q.h, q.d⟩ : Mg)) → Calls Try.prog 21 #[v] w fun e w' => e = .returned (.tuple #[.agg #[.int .i64 1, .bool false, .bool false, .bool false, .bool false, .bool false, .bool false, .int .i64 0, .int .u64 0, .int .u32 0, .int .u64 0, .int .u16 0, .int .u16 0, .int .i64 0, .int .i64 0, .int .i64 0, .int .i64 0], .int .i64 0]) ∧ Ext w w' from fun v w h => by
    have := dec_any v _ w h (enc_bytes _) (by have := encL_le (⟨1, q.ch, q.ak, q.pr, q.ag, q.ln, q.fw, q.ro, q.r, q.c, q.b, q.p, q.x, q.a, q.m, q.h, q.d⟩ : Mg); omega)
    rw [hdd] at this
    exact this)
  have HED := Lib.hid (show ∀ w : World, Calls Try.prog 17 #[.agg #[.int .i64 1, .bool q.ch, .bool q.ak, .bool q.pr, .bool q.ag, .bool q.ln, .bool q.fw, .int .i64 q.ro, .int .u64 q.r, .int .u32 q.c, .int .u64 q.b, .int .u16 q.p, .int .u16 q.x, .int .i64 q.a, .int .i64 q.m, .int .i64 q.h, .int .i64 q.d]] w (Owned w (encL (⟨1, q.ch, q.ak, q.pr, q.ag, q.ln, q.fw, q.ro, q.r, q.c, q.b, q.p, q.x, q.a, q.m, q.h, q.d⟩ : Mg))) from fun w => enc_any (⟨1, q.ch, q.ak, q.pr, q.ag, q.ln, q.fw, q.ro, q.r, q.c, q.b, q.p, q.x, q.a, q.m, q.h, q.d⟩ : Mg) hqd w)
  clear hdc hdd hpc hqc hqd
  go_enter Try.func7, Try.ntmps7
  go_wp2_with fail
  have hA_w0 : (w.alloc (.cells #[.int .i64 q.kd, .bool q.ch, .bool q.ak, .bool q.pr, .bool q.ag, .bool q.ln, .bool q.fw, .int .i64 q.ro, .int .u64 q.r, .int .u32 q.c, .int .u64 q.b, .int .u16 q.p, .int .u16 q.x, .int .i64 q.a, .int .i64 q.m, .int .i64 q.h, .int .i64 q.d] 30)).heap[w.heap.size]? = some (.cells #[.int .i64 q.kd, .bool q.ch, .bool q.ak, .bool q.pr, .bool q.ag, .bool q.ln, .bool q.fw, .int .i64 q.ro, .int .u64 q.r, .int .u32 q.c, .int .u64 q.b, .int .u16 q.p, .int .u16 q.x, .int .i64 q.a, .int .i64 q.m, .int .i64 q.h, .int .i64 q.d] 30 (0, 0)) := heap_alloc_new _ _
  have hE_w0 : Ext w (w.alloc (.cells #[.int .i64 q.kd, .bool q.ch, .bool q.ak, .bool q.pr, .bool q.ag, .bool q.ln, .bool q.fw, .int .i64 q.ro, .int .u64 q.r, .int .u32 q.c, .int .u64 q.b, .int .u16 q.p, .int .u16 q.x, .int .i64 q.a, .int .i64 q.m, .int .i64 q.h, .int .i64 q.d] 30)) := (Ext.refl _).alloc _
  generalize w.alloc (.cells #[.int .i64 q.kd, .bool q.ch, .bool q.ak, .bool q.pr, .bool q.ag, .bool q.ln, .bool q.fw, .int .i64 q.ro, .int .u64 q.r, .int .u32 q.c, .int .u64 q.b, .int .u16 q.p, .int .u16 q.x, .int .i64 q.a, .int .i64 q.m, .int .i64 q.h, .int .i64 q.d] 30) = w0 at *
  obtain ⟨A0, hA0⟩ : ∃ n, w.heap.size = n := ⟨_, rfl⟩
  rw [hA0] at hA_w0 ⊢
  refine (awake5 _).mono ?_
  rintro e z1 ⟨rfl, hx⟩
  have E_z1 : Ext w0 z1 := hx
  have hA_z1 : z1.heap[A0]? = some (.cells #[.int .i64 q.kd, .bool q.ch, .bool q.ak, .bool q.pr, .bool q.ag, .bool q.ln, .bool q.fw, .int .i64 q.ro, .int .u64 q.r, .int .u32 q.c, .int .u64 q.b, .int .u16 q.p, .int .u16 q.x, .int .i64 q.a, .int .i64 q.m, .int .i64 q.h, .int .i64 q.d] 30 (0, 0)) := (hx.block _ (heap_lt hA_w0)).trans hA_w0
  clear hA_w0
  clear hx
  have hztm := zero_times
  go_wp2_with (first
    | fail
    | ((with_reducible refine at_load 30 ?_); refine wpList_load_row rfl 30 _ rfl A0 rfl 30 #[.int .i64 q.kd, .bool q.ch, .bool q.ak, .bool q.pr, .bool q.ag, .bool q.ln, .bool q.fw, .int .i64 q.ro, .int .u64 q.r, .int .u32 q.c, .int .u64 q.b, .int .u16 q.p, .int .u16 q.x, .int .i64 q.a, .int .i64 q.m, .int .i64 q.h, .int .i64 q.d] (0, 0) _ hA_z1 Try.underlying30 rfl (by kernel_rfl) ?_)
    | ((with_reducible refine at_alloc 30 ?_); refine al_zero rfl 30 rfl MZ zero_msg ?_
       intro C0 z2 hq hs hx
       have E_z2 : Ext w0 z2 := E_z1.trans hx
       have hA_z2 : z2.heap[A0]? = some (.cells #[.int .i64 q.kd, .bool q.ch, .bool q.ak, .bool q.pr, .bool q.ag, .bool q.ln, .bool q.fw, .int .i64 q.ro, .int .u64 q.r, .int .u32 q.c, .int .u64 q.b, .int .u16 q.p, .int .u16 q.x, .int .i64 q.a, .int .i64 q.m, .int .i64 q.h, .int .i64 q.d] 30 (0, 0)) := (hx.block _ (heap_lt hA_z1)).trans hA_z1
       have hC_z2 : z2.heap[C0]? = some (.cells #[.int .i64 0, .bool false, .bool false, .bool false, .bool false, .bool false, .bool false, .int .i64 0, .int .u64 0, .int .u32 0, .int .u64 0, .int .u16 0, .int .u16 0, .int .i64 0, .int .i64 0, .int .i64 0, .int .i64 0] 30 (0, 0)) := hq
       have hb_C0 : w0.heap.size ≤ C0 := by have := E_z1.size; omega
       have hn_A0C0 : A0 ≠ C0 := by have := heap_lt hA_z1; omega
       clear hA_z1 E_z1
       clear hq hs hx)
    | ((with_reducible refine at_store 30 ?_); refine st_at rfl rfl 30 _ _ rfl C0 0 _ #[.int .i64 q.kd, .bool q.ch, .bool q.ak, .bool q.pr, .bool q.ag, .bool q.ln, .bool q.fw, .int .i64 q.ro, .int .u64 q.r, .int .u32 q.c, .int .u64 q.b, .int .u16 q.p, .int .u16 q.x, .int .i64 q.a, .int .i64 q.m, .int .i64 q.h, .int .i64 q.d] _ #[.int .i64 q.kd, .bool q.ch, .bool q.ak, .bool q.pr, .bool q.ag, .bool q.ln, .bool q.fw, .int .i64 q.ro, .int .u64 q.r, .int .u32 q.c, .int .u64 q.b, .int .u16 q.p, .int .u16 q.x, .int .i64 q.a, .int .i64 q.m, .int .i64 q.h, .int .i64 q.d] _ rfl rfl rfl hC_z2 (by exact (by decide : 0 + 17 ≤ 17)) (by kernel_rfl) rfl rfl ?_
       intro z3 hq hm
       have hC_z3 : z3.heap[C0]? = some (.cells #[.int .i64 q.kd, .bool q.ch, .bool q.ak, .bool q.pr, .bool q.ag, .bool q.ln, .bool q.fw, .int .i64 q.ro, .int .u64 q.r, .int .u32 q.c, .int .u64 q.b, .int .u16 q.p, .int .u16 q.x, .int .i64 q.a, .int .i64 q.m, .int .i64 q.h, .int .i64 q.d] 30 (0, 0)) := hq
       have hA_z3 : z3.heap[A0]? = some (.cells #[.int .i64 q.kd, .bool q.ch, .bool q.ak, .bool q.pr, .bool q.ag, .bool q.ln, .bool q.fw, .int .i64 q.ro, .int .u64 q.r, .int .u32 q.c, .int .u64 q.b, .int .u16 q.p, .int .u16 q.x, .int .i64 q.a, .int .i64 q.m, .int .i64 q.h, .int .i64 q.d] 30 (0, 0)) := (hm.heap (heap_lt hA_z2) (show ¬ A0 = C0 by omega)).trans hA_z2
       have E_z3 : Ext w0 z3 := Ext.mutE E_z2 hm (fun n hn h => by have h2 : n = C0 := h; omega)
       clear hA_z2 hC_z2 E_z2
       clear hq hm)
    | ((with_reducible refine at_store 3 ?_); refine st_at rfl rfl 3 _ _ rfl C0 0 _ #[.int .i64 0] _ #[.int .i64 0, .bool q.ch, .bool q.ak, .bool q.pr, .bool q.ag, .bool q.ln, .bool q.fw, .int .i64 q.ro, .int .u64 q.r, .int .u32 q.c, .int .u64 q.b, .int .u16 q.p, .int .u16 q.x, .int .i64 q.a, .int .i64 q.m, .int .i64 q.h, .int .i64 q.d] _ rfl rfl rfl hC_z3 (by exact (by decide : 0 + 1 ≤ 17)) (by kernel_rfl) rfl rfl ?_
       intro z4 hq hm
       have hC_z4 : z4.heap[C0]? = some (.cells #[.int .i64 0, .bool q.ch, .bool q.ak, .bool q.pr, .bool q.ag, .bool q.ln, .bool q.fw, .int .i64 q.ro, .int .u64 q.r, .int .u32 q.c, .int .u64 q.b, .int .u16 q.p, .int .u16 q.x, .int .i64 q.a, .int .i64 q.m, .int .i64 q.h, .int .i64 q.d] 30 (0, 0)) := hq
       have hA_z4 : z4.heap[A0]? = some (.cells #[.int .i64 q.kd, .bool q.ch, .bool q.ak, .bool q.pr, .bool q.ag, .bool q.ln, .bool q.fw, .int .i64 q.ro, .int .u64 q.r, .int .u32 q.c, .int .u64 q.b, .int .u16 q.p, .int .u16 q.x, .int .i64 q.a, .int .i64 q.m, .int .i64 q.h, .int .i64 q.d] 30 (0, 0)) := (hm.heap (heap_lt hA_z3) (show ¬ A0 = C0 by omega)).trans hA_z3
       have E_z4 : Ext w0 z4 := Ext.mutE E_z3 hm (fun n hn h => by have h2 : n = C0 := h; omega)
       clear hA_z3 hC_z3 E_z3
       clear hq hm)
    | ((with_reducible refine at_store 28 ?_); refine st_at rfl rfl 28 _ _ rfl C0 13 _ #[.int .i64 1, .int .i64 20, .int .i64 2, .int .i64 15] _ #[.int .i64 0, .bool q.ch, .bool q.ak, .bool q.pr, .bool q.ag, .bool q.ln, .bool q.fw, .int .i64 q.ro, .int .u64 q.r, .int .u32 q.c, .int .u64 q.b, .int .u16 q.p, .int .u16 q.x, .int .i64 1, .int .i64 20, .int .i64 2, .int .i64 15] _ rfl rfl rfl hC_z4 (by exact (by decide : 13 + 4 ≤ 17)) (by kernel_rfl) rfl rfl ?_
       intro z5 hq hm
       have hC_z5 : z5.heap[C0]? = some (.cells #[.int .i64 0, .bool q.ch, .bool q.ak, .bool q.pr, .bool q.ag, .bool q.ln, .bool q.fw, .int .i64 q.ro, .int .u64 q.r, .int .u32 q.c, .int .u64 q.b, .int .u16 q.p, .int .u16 q.x, .int .i64 1, .int .i64 20, .int .i64 2, .int .i64 15] 30 (0, 0)) := hq
       have hA_z5 : z5.heap[A0]? = some (.cells #[.int .i64 q.kd, .bool q.ch, .bool q.ak, .bool q.pr, .bool q.ag, .bool q.ln, .bool q.fw, .int .i64 q.ro, .int .u64 q.r, .int .u32 q.c, .int .u64 q.b, .int .u16 q.p, .int .u16 q.x, .int .i64 q.a, .int .i64 q.m, .int .i64 q.h, .int .i64 q.d] 30 (0, 0)) := (hm.heap (heap_lt hA_z4) (show ¬ A0 = C0 by omega)).trans hA_z4
       have E_z5 : Ext w0 z5 := Ext.mutE E_z4 hm (fun n hn h => by have h2 : n = C0 := h; omega)
       clear hA_z4 hC_z4 E_z4
       clear hq hm)
    | ((with_reducible refine at_load 30 ?_); refine wpList_load_row rfl 30 _ rfl A0 rfl 30 #[.int .i64 q.kd, .bool q.ch, .bool q.ak, .bool q.pr, .bool q.ag, .bool q.ln, .bool q.fw, .int .i64 q.ro, .int .u64 q.r, .int .u32 q.c, .int .u64 q.b, .int .u16 q.p, .int .u16 q.x, .int .i64 q.a, .int .i64 q.m, .int .i64 q.h, .int .i64 q.d] (0, 0) _ hA_z5 Try.underlying30 rfl (by kernel_rfl) ?_)
    | ((with_reducible refine at_alloc 30 ?_); refine al_zero rfl 30 rfl MZ zero_msg ?_
       intro D0 z6 hq hs hx
       have E_z6 : Ext w0 z6 := E_z5.trans hx
       have hA_z6 : z6.heap[A0]? = some (.cells #[.int .i64 q.kd, .bool q.ch, .bool q.ak, .bool q.pr, .bool q.ag, .bool q.ln, .bool q.fw, .int .i64 q.ro, .int .u64 q.r, .int .u32 q.c, .int .u64 q.b, .int .u16 q.p, .int .u16 q.x, .int .i64 q.a, .int .i64 q.m, .int .i64 q.h, .int .i64 q.d] 30 (0, 0)) := (hx.block _ (heap_lt hA_z5)).trans hA_z5
       have hC_z6 : z6.heap[C0]? = some (.cells #[.int .i64 0, .bool q.ch, .bool q.ak, .bool q.pr, .bool q.ag, .bool q.ln, .bool q.fw, .int .i64 q.ro, .int .u64 q.r, .int .u32 q.c, .int .u64 q.b, .int .u16 q.p, .int .u16 q.x, .int .i64 1, .int .i64 20, .int .i64 2, .int .i64 15] 30 (0, 0)) := (hx.block _ (heap_lt hC_z5)).trans hC_z5
       have hD_z6 : z6.heap[D0]? = some (.cells #[.int .i64 0, .bool false, .bool false, .bool false, .bool false, .bool false, .bool false, .int .i64 0, .int .u64 0, .int .u32 0, .int .u64 0, .int .u16 0, .int .u16 0, .int .i64 0, .int .i64 0, .int .i64 0, .int .i64 0] 30 (0, 0)) := hq
       have hb_D0 : w0.heap.size ≤ D0 := by have := E_z5.size; omega
       have hn_A0D0 : A0 ≠ D0 := by have := heap_lt hA_z5; omega
       have hn_C0D0 : C0 ≠ D0 := by have := heap_lt hC_z5; omega
       clear hA_z5 hC_z5 E_z5
       clear hq hs hx)
    | ((with_reducible refine at_store 30 ?_); refine st_at rfl rfl 30 _ _ rfl D0 0 _ #[.int .i64 q.kd, .bool q.ch, .bool q.ak, .bool q.pr, .bool q.ag, .bool q.ln, .bool q.fw, .int .i64 q.ro, .int .u64 q.r, .int .u32 q.c, .int .u64 q.b, .int .u16 q.p, .int .u16 q.x, .int .i64 q.a, .int .i64 q.m, .int .i64 q.h, .int .i64 q.d] _ #[.int .i64 q.kd, .bool q.ch, .bool q.ak, .bool q.pr, .bool q.ag, .bool q.ln, .bool q.fw, .int .i64 q.ro, .int .u64 q.r, .int .u32 q.c, .int .u64 q.b, .int .u16 q.p, .int .u16 q.x, .int .i64 q.a, .int .i64 q.m, .int .i64 q.h, .int .i64 q.d] _ rfl rfl rfl hD_z6 (by exact (by decide : 0 + 17 ≤ 17)) (by kernel_rfl) rfl rfl ?_
       intro z7 hq hm
       have hD_z7 : z7.heap[D0]? = some (.cells #[.int .i64 q.kd, .bool q.ch, .bool q.ak, .bool q.pr, .bool q.ag, .bool q.ln, .bool q.fw, .int .i64 q.ro, .int .u64 q.r, .int .u32 q.c, .int .u64 q.b, .int .u16 q.p, .int .u16 q.x, .int .i64 q.a, .int .i64 q.m, .int .i64 q.h, .int .i64 q.d] 30 (0, 0)) := hq
       have hA_z7 : z7.heap[A0]? = some (.cells #[.int .i64 q.kd, .bool q.ch, .bool q.ak, .bool q.pr, .bool q.ag, .bool q.ln, .bool q.fw, .int .i64 q.ro, .int .u64 q.r, .int .u32 q.c, .int .u64 q.b, .int .u16 q.p, .int .u16 q.x, .int .i64 q.a, .int .i64 q.m, .int .i64 q.h, .int .i64 q.d] 30 (0, 0)) := (hm.heap (heap_lt hA_z6) (show ¬ A0 = D0 by omega)).trans hA_z6
       have hC_z7 : z7.heap[C0]? = some (.cells #[.int .i64 0, .bool q.ch, .bool q.ak, .bool q.pr, .bool q.ag, .bool q.ln, .bool q.fw, .int .i64 q.ro, .int .u64 q.r, .int .u32 q.c, .int .u64 q.b, .int .u16 q.p, .int .u16 q.x, .int .i64 1, .int .i64 20, .int .i64 2, .int .i64 15] 30 (0, 0)) := (hm.heap (heap_lt hC_z6) (show ¬ C0 = D0 by omega)).trans hC_z6
       have E_z7 : Ext w0 z7 := Ext.mutE E_z6 hm (fun n hn h => by have h2 : n = D0 := h; omega)
       clear hA_z6 hC_z6 hD_z6 E_z6
       clear hq hm)
    | ((with_reducible refine at_store 3 ?_); refine st_at rfl rfl 3 _ _ rfl D0 0 _ #[.int .i64 1] _ #[.int .i64 1, .bool q.ch, .bool q.ak, .bool q.pr, .bool q.ag, .bool q.ln, .bool q.fw, .int .i64 q.ro, .int .u64 q.r, .int .u32 q.c, .int .u64 q.b, .int .u16 q.p, .int .u16 q.x, .int .i64 q.a, .int .i64 q.m, .int .i64 q.h, .int .i64 q.d] _ rfl rfl rfl hD_z7 (by exact (by decide : 0 + 1 ≤ 17)) (by kernel_rfl) rfl rfl ?_
       intro z8 hq hm
       have hD_z8 : z8.heap[D0]? = some (.cells #[.int .i64 1, .bool q.ch, .bool q.ak, .bool q.pr, .bool q.ag, .bool q.ln, .bool q.fw, .int .i64 q.ro, .int .u64 q.r, .int .u32 q.c, .int .u64 q.b, .int .u16 q.p, .int .u16 q.x, .int .i64 q.a, .int .i64 q.m, .int .i64 q.h, .int .i64 q.d] 30 (0, 0)) := hq
       have hA_z8 : z8.heap[A0]? = some (.cells #[.int .i64 q.kd, .bool q.ch, .bool q.ak, .bool q.pr, .bool q.ag, .bool q.ln, .bool q.fw, .int .i64 q.ro, .int .u64 q.r, .int .u32 q.c, .int .u64 q.b, .int .u16 q.p, .int .u16 q.x, .int .i64 q.a, .int .i64 q.m, .int .i64 q.h, .int .i64 q.d] 30 (0, 0)) := (hm.heap (heap_lt hA_z7) (show ¬ A0 = D0 by omega)).trans hA_z7
       have hC_z8 : z8.heap[C0]? = some (.cells #[.int .i64 0, .bool q.ch, .bool q.ak, .bool q.pr, .bool q.ag, .bool q.ln, .bool q.fw, .int .i64 q.ro, .int .u64 q.r, .int .u32 q.c, .int .u64 q.b, .int .u16 q.p, .int .u16 q.x, .int .i64 1, .int .i64 20, .int .i64 2, .int .i64 15] 30 (0, 0)) := (hm.heap (heap_lt hC_z7) (show ¬ C0 = D0 by omega)).trans hC_z7
       have E_z8 : Ext w0 z8 := Ext.mutE E_z7 hm (fun n hn h => by have h2 : n = D0 := h; omega)
       clear hA_z7 hC_z7 hD_z7 E_z7
       clear hq hm)
    | ((with_reducible refine at_load 30 ?_); refine wpList_load_row rfl 30 _ rfl C0 rfl 30 #[.int .i64 0, .bool q.ch, .bool q.ak, .bool q.pr, .bool q.ag, .bool q.ln, .bool q.fw, .int .i64 q.ro, .int .u64 q.r, .int .u32 q.c, .int .u64 q.b, .int .u16 q.p, .int .u16 q.x, .int .i64 1, .int .i64 20, .int .i64 2, .int .i64 15] (0, 0) _ hC_z8 Try.underlying30 rfl (by kernel_rfl) ?_))
  refine (HEC.out _).mono ?_
  rintro e z9 ⟨vC, rfl, hown, hx⟩
  have E_z9 : Ext w0 z9 := E_z8.trans hx
  have hA_z9 : z9.heap[A0]? = some (.cells #[.int .i64 q.kd, .bool q.ch, .bool q.ak, .bool q.pr, .bool q.ag, .bool q.ln, .bool q.fw, .int .i64 q.ro, .int .u64 q.r, .int .u32 q.c, .int .u64 q.b, .int .u16 q.p, .int .u16 q.x, .int .i64 q.a, .int .i64 q.m, .int .i64 q.h, .int .i64 q.d] 30 (0, 0)) := (hx.block _ (heap_lt hA_z8)).trans hA_z8
  have hC_z9 : z9.heap[C0]? = some (.cells #[.int .i64 0, .bool q.ch, .bool q.ak, .bool q.pr, .bool q.ag, .bool q.ln, .bool q.fw, .int .i64 q.ro, .int .u64 q.r, .int .u32 q.c, .int .u64 q.b, .int .u16 q.p, .int .u16 q.x, .int .i64 1, .int .i64 20, .int .i64 2, .int .i64 15] 30 (0, 0)) := (hx.block _ (heap_lt hC_z8)).trans hC_z8
  have hD_z9 : z9.heap[D0]? = some (.cells #[.int .i64 1, .bool q.ch, .bool q.ak, .bool q.pr, .bool q.ag, .bool q.ln, .bool q.fw, .int .i64 q.ro, .int .u64 q.r, .int .u32 q.c, .int .u64 q.b, .int .u16 q.p, .int .u16 q.x, .int .i64 q.a, .int .i64 q.m, .int .i64 q.h, .int .i64 q.d] 30 (0, 0)) := (hx.block _ (heap_lt hD_z8)).trans hD_z8
  have hi := isBytes_own hown
  clear hown
  clear hA_z8 hC_z8 hD_z8 E_z8
  clear hx
  go_wp2_with fail
  refine (HDC.out vC _ hi).mono ?_
  rintro e z10 ⟨rfl, hx⟩
  have E_z10 : Ext w0 z10 := E_z9.trans hx
  have hA_z10 : z10.heap[A0]? = some (.cells #[.int .i64 q.kd, .bool q.ch, .bool q.ak, .bool q.pr, .bool q.ag, .bool q.ln, .bool q.fw, .int .i64 q.ro, .int .u64 q.r, .int .u32 q.c, .int .u64 q.b, .int .u16 q.p, .int .u16 q.x, .int .i64 q.a, .int .i64 q.m, .int .i64 q.h, .int .i64 q.d] 30 (0, 0)) := (hx.block _ (heap_lt hA_z9)).trans hA_z9
  have hC_z10 : z10.heap[C0]? = some (.cells #[.int .i64 0, .bool q.ch, .bool q.ak, .bool q.pr, .bool q.ag, .bool q.ln, .bool q.fw, .int .i64 q.ro, .int .u64 q.r, .int .u32 q.c, .int .u64 q.b, .int .u16 q.p, .int .u16 q.x, .int .i64 1, .int .i64 20, .int .i64 2, .int .i64 15] 30 (0, 0)) := (hx.block _ (heap_lt hC_z9)).trans hC_z9
  have hD_z10 : z10.heap[D0]? = some (.cells #[.int .i64 1, .bool q.ch, .bool q.ak, .bool q.pr, .bool q.ag, .bool q.ln, .bool q.fw, .int .i64 q.ro, .int .u64 q.r, .int .u32 q.c, .int .u64 q.b, .int .u16 q.p, .int .u16 q.x, .int .i64 q.a, .int .i64 q.m, .int .i64 q.h, .int .i64 q.d] 30 (0, 0)) := (hx.block _ (heap_lt hD_z9)).trans hD_z9
  clear hA_z9 hC_z9 hD_z9 E_z9
  clear hx
  clear hi
  go_wp2_with (first
    | fail
    | ((with_reducible refine at_alloc 30 ?_); refine al_zero rfl 30 rfl MZ zero_msg ?_
       intro X0 z11 hq hs hx
       have E_z11 : Ext w0 z11 := E_z10.trans hx
       have hA_z11 : z11.heap[A0]? = some (.cells #[.int .i64 q.kd, .bool q.ch, .bool q.ak, .bool q.pr, .bool q.ag, .bool q.ln, .bool q.fw, .int .i64 q.ro, .int .u64 q.r, .int .u32 q.c, .int .u64 q.b, .int .u16 q.p, .int .u16 q.x, .int .i64 q.a, .int .i64 q.m, .int .i64 q.h, .int .i64 q.d] 30 (0, 0)) := (hx.block _ (heap_lt hA_z10)).trans hA_z10
       have hC_z11 : z11.heap[C0]? = some (.cells #[.int .i64 0, .bool q.ch, .bool q.ak, .bool q.pr, .bool q.ag, .bool q.ln, .bool q.fw, .int .i64 q.ro, .int .u64 q.r, .int .u32 q.c, .int .u64 q.b, .int .u16 q.p, .int .u16 q.x, .int .i64 1, .int .i64 20, .int .i64 2, .int .i64 15] 30 (0, 0)) := (hx.block _ (heap_lt hC_z10)).trans hC_z10
       have hD_z11 : z11.heap[D0]? = some (.cells #[.int .i64 1, .bool q.ch, .bool q.ak, .bool q.pr, .bool q.ag, .bool q.ln, .bool q.fw, .int .i64 q.ro, .int .u64 q.r, .int .u32 q.c, .int .u64 q.b, .int .u16 q.p, .int .u16 q.x, .int .i64 q.a, .int .i64 q.m, .int .i64 q.h, .int .i64 q.d] 30 (0, 0)) := (hx.block _ (heap_lt hD_z10)).trans hD_z10
       have hX_z11 : z11.heap[X0]? = some (.cells #[.int .i64 0, .bool false, .bool false, .bool false, .bool false, .bool false, .bool false, .int .i64 0, .int .u64 0, .int .u32 0, .int .u64 0, .int .u16 0, .int .u16 0, .int .i64 0, .int .i64 0, .int .i64 0, .int .i64 0] 30 (0, 0)) := hq
       have hb_X0 : w0.heap.size ≤ X0 := by have := E_z10.size; omega
       have hn_A0X0 : A0 ≠ X0 := by have := heap_lt hA_z10; omega
       have hn_C0X0 : C0 ≠ X0 := by have := heap_lt hC_z10; omega
       have hn_D0X0 : D0 ≠ X0 := by have := heap_lt hD_z10; omega
       clear hA_z10 hC_z10 hD_z10 E_z10
       clear hq hs hx)
    | ((with_reducible refine at_store 30 ?_); refine st_at rfl rfl 30 _ _ rfl X0 0 _ #[.int .i64 0, .bool q.ch, .bool q.ak, .bool false, .bool false, .bool false, .bool false, .int .i64 4, .int .u64 q.r, .int .u32 q.c, .int .u64 q.b, .int .u16 q.p, .int .u16 0, .int .i64 (told 1), .int .i64 (told 20), .int .i64 (told 2), .int .i64 (told 15)] _ #[.int .i64 0, .bool q.ch, .bool q.ak, .bool false, .bool false, .bool false, .bool false, .int .i64 4, .int .u64 q.r, .int .u32 q.c, .int .u64 q.b, .int .u16 q.p, .int .u16 0, .int .i64 (told 1), .int .i64 (told 20), .int .i64 (told 2), .int .i64 (told 15)] _ rfl rfl rfl hX_z11 (by exact (by decide : 0 + 17 ≤ 17)) (by kernel_rfl) rfl rfl ?_
       intro z12 hq hm
       have hX_z12 : z12.heap[X0]? = some (.cells #[.int .i64 0, .bool q.ch, .bool q.ak, .bool false, .bool false, .bool false, .bool false, .int .i64 4, .int .u64 q.r, .int .u32 q.c, .int .u64 q.b, .int .u16 q.p, .int .u16 0, .int .i64 (told 1), .int .i64 (told 20), .int .i64 (told 2), .int .i64 (told 15)] 30 (0, 0)) := hq
       have hA_z12 : z12.heap[A0]? = some (.cells #[.int .i64 q.kd, .bool q.ch, .bool q.ak, .bool q.pr, .bool q.ag, .bool q.ln, .bool q.fw, .int .i64 q.ro, .int .u64 q.r, .int .u32 q.c, .int .u64 q.b, .int .u16 q.p, .int .u16 q.x, .int .i64 q.a, .int .i64 q.m, .int .i64 q.h, .int .i64 q.d] 30 (0, 0)) := (hm.heap (heap_lt hA_z11) (show ¬ A0 = X0 by omega)).trans hA_z11
       have hC_z12 : z12.heap[C0]? = some (.cells #[.int .i64 0, .bool q.ch, .bool q.ak, .bool q.pr, .bool q.ag, .bool q.ln, .bool q.fw, .int .i64 q.ro, .int .u64 q.r, .int .u32 q.c, .int .u64 q.b, .int .u16 q.p, .int .u16 q.x, .int .i64 1, .int .i64 20, .int .i64 2, .int .i64 15] 30 (0, 0)) := (hm.heap (heap_lt hC_z11) (show ¬ C0 = X0 by omega)).trans hC_z11
       have hD_z12 : z12.heap[D0]? = some (.cells #[.int .i64 1, .bool q.ch, .bool q.ak, .bool q.pr, .bool q.ag, .bool q.ln, .bool q.fw, .int .i64 q.ro, .int .u64 q.r, .int .u32 q.c, .int .u64 q.b, .int .u16 q.p, .int .u16 q.x, .int .i64 q.a, .int .i64 q.m, .int .i64 q.h, .int .i64 q.d] 30 (0, 0)) := (hm.heap (heap_lt hD_z11) (show ¬ D0 = X0 by omega)).trans hD_z11
       have E_z12 : Ext w0 z12 := Ext.mutE E_z11 hm (fun n hn h => by have h2 : n = X0 := h; omega)
       clear hA_z11 hC_z11 hD_z11 hX_z11 E_z11
       clear hq hm)
    | ((with_reducible refine at_load 30 ?_); refine wpList_load_row rfl 30 _ rfl D0 rfl 30 #[.int .i64 1, .bool q.ch, .bool q.ak, .bool q.pr, .bool q.ag, .bool q.ln, .bool q.fw, .int .i64 q.ro, .int .u64 q.r, .int .u32 q.c, .int .u64 q.b, .int .u16 q.p, .int .u16 q.x, .int .i64 q.a, .int .i64 q.m, .int .i64 q.h, .int .i64 q.d] (0, 0) _ hD_z12 Try.underlying30 rfl (by kernel_rfl) ?_))
  refine (HED.out _).mono ?_
  rintro e z13 ⟨vD, rfl, hown, hx⟩
  have E_z13 : Ext w0 z13 := E_z12.trans hx
  have hA_z13 : z13.heap[A0]? = some (.cells #[.int .i64 q.kd, .bool q.ch, .bool q.ak, .bool q.pr, .bool q.ag, .bool q.ln, .bool q.fw, .int .i64 q.ro, .int .u64 q.r, .int .u32 q.c, .int .u64 q.b, .int .u16 q.p, .int .u16 q.x, .int .i64 q.a, .int .i64 q.m, .int .i64 q.h, .int .i64 q.d] 30 (0, 0)) := (hx.block _ (heap_lt hA_z12)).trans hA_z12
  have hC_z13 : z13.heap[C0]? = some (.cells #[.int .i64 0, .bool q.ch, .bool q.ak, .bool q.pr, .bool q.ag, .bool q.ln, .bool q.fw, .int .i64 q.ro, .int .u64 q.r, .int .u32 q.c, .int .u64 q.b, .int .u16 q.p, .int .u16 q.x, .int .i64 1, .int .i64 20, .int .i64 2, .int .i64 15] 30 (0, 0)) := (hx.block _ (heap_lt hC_z12)).trans hC_z12
  have hD_z13 : z13.heap[D0]? = some (.cells #[.int .i64 1, .bool q.ch, .bool q.ak, .bool q.pr, .bool q.ag, .bool q.ln, .bool q.fw, .int .i64 q.ro, .int .u64 q.r, .int .u32 q.c, .int .u64 q.b, .int .u16 q.p, .int .u16 q.x, .int .i64 q.a, .int .i64 q.m, .int .i64 q.h, .int .i64 q.d] 30 (0, 0)) := (hx.block _ (heap_lt hD_z12)).trans hD_z12
  have hX_z13 : z13.heap[X0]? = some (.cells #[.int .i64 0, .bool q.ch, .bool q.ak, .bool false, .bool false, .bool false, .bool false, .int .i64 4, .int .u64 q.r, .int .u32 q.c, .int .u64 q.b, .int .u16 q.p, .int .u16 0, .int .i64 (told 1), .int .i64 (told 20), .int .i64 (told 2), .int .i64 (told 15)] 30 (0, 0)) := (hx.block _ (heap_lt hX_z12)).trans hX_z12
  have hi := isBytes_own hown
  clear hown
  clear hA_z12 hC_z12 hD_z12 hX_z12 E_z12
  clear hx
  go_wp2_with fail
  refine (HDD.out vD _ hi).mono ?_
  rintro e z14 ⟨rfl, hx⟩
  have E_z14 : Ext w0 z14 := E_z13.trans hx
  have hA_z14 : z14.heap[A0]? = some (.cells #[.int .i64 q.kd, .bool q.ch, .bool q.ak, .bool q.pr, .bool q.ag, .bool q.ln, .bool q.fw, .int .i64 q.ro, .int .u64 q.r, .int .u32 q.c, .int .u64 q.b, .int .u16 q.p, .int .u16 q.x, .int .i64 q.a, .int .i64 q.m, .int .i64 q.h, .int .i64 q.d] 30 (0, 0)) := (hx.block _ (heap_lt hA_z13)).trans hA_z13
  have hC_z14 : z14.heap[C0]? = some (.cells #[.int .i64 0, .bool q.ch, .bool q.ak, .bool q.pr, .bool q.ag, .bool q.ln, .bool q.fw, .int .i64 q.ro, .int .u64 q.r, .int .u32 q.c, .int .u64 q.b, .int .u16 q.p, .int .u16 q.x, .int .i64 1, .int .i64 20, .int .i64 2, .int .i64 15] 30 (0, 0)) := (hx.block _ (heap_lt hC_z13)).trans hC_z13
  have hD_z14 : z14.heap[D0]? = some (.cells #[.int .i64 1, .bool q.ch, .bool q.ak, .bool q.pr, .bool q.ag, .bool q.ln, .bool q.fw, .int .i64 q.ro, .int .u64 q.r, .int .u32 q.c, .int .u64 q.b, .int .u16 q.p, .int .u16 q.x, .int .i64 q.a, .int .i64 q.m, .int .i64 q.h, .int .i64 q.d] 30 (0, 0)) := (hx.block _ (heap_lt hD_z13)).trans hD_z13
  have hX_z14 : z14.heap[X0]? = some (.cells #[.int .i64 0, .bool q.ch, .bool q.ak, .bool false, .bool false, .bool false, .bool false, .int .i64 4, .int .u64 q.r, .int .u32 q.c, .int .u64 q.b, .int .u16 q.p, .int .u16 0, .int .i64 (told 1), .int .i64 (told 20), .int .i64 (told 2), .int .i64 (told 15)] 30 (0, 0)) := (hx.block _ (heap_lt hX_z13)).trans hX_z13
  clear hA_z13 hC_z13 hD_z13 hX_z13 E_z13
  clear hx
  clear hi
  go_wp2_with (first
    | fail
    | ((with_reducible refine at_alloc 30 ?_); refine al_zero rfl 30 rfl MZ zero_msg ?_
       intro Y0 z15 hq hs hx
       have E_z15 : Ext w0 z15 := E_z14.trans hx
       have hA_z15 : z15.heap[A0]? = some (.cells #[.int .i64 q.kd, .bool q.ch, .bool q.ak, .bool q.pr, .bool q.ag, .bool q.ln, .bool q.fw, .int .i64 q.ro, .int .u64 q.r, .int .u32 q.c, .int .u64 q.b, .int .u16 q.p, .int .u16 q.x, .int .i64 q.a, .int .i64 q.m, .int .i64 q.h, .int .i64 q.d] 30 (0, 0)) := (hx.block _ (heap_lt hA_z14)).trans hA_z14
       have hC_z15 : z15.heap[C0]? = some (.cells #[.int .i64 0, .bool q.ch, .bool q.ak, .bool q.pr, .bool q.ag, .bool q.ln, .bool q.fw, .int .i64 q.ro, .int .u64 q.r, .int .u32 q.c, .int .u64 q.b, .int .u16 q.p, .int .u16 q.x, .int .i64 1, .int .i64 20, .int .i64 2, .int .i64 15] 30 (0, 0)) := (hx.block _ (heap_lt hC_z14)).trans hC_z14
       have hD_z15 : z15.heap[D0]? = some (.cells #[.int .i64 1, .bool q.ch, .bool q.ak, .bool q.pr, .bool q.ag, .bool q.ln, .bool q.fw, .int .i64 q.ro, .int .u64 q.r, .int .u32 q.c, .int .u64 q.b, .int .u16 q.p, .int .u16 q.x, .int .i64 q.a, .int .i64 q.m, .int .i64 q.h, .int .i64 q.d] 30 (0, 0)) := (hx.block _ (heap_lt hD_z14)).trans hD_z14
       have hX_z15 : z15.heap[X0]? = some (.cells #[.int .i64 0, .bool q.ch, .bool q.ak, .bool false, .bool false, .bool false, .bool false, .int .i64 4, .int .u64 q.r, .int .u32 q.c, .int .u64 q.b, .int .u16 q.p, .int .u16 0, .int .i64 (told 1), .int .i64 (told 20), .int .i64 (told 2), .int .i64 (told 15)] 30 (0, 0)) := (hx.block _ (heap_lt hX_z14)).trans hX_z14
       have hY_z15 : z15.heap[Y0]? = some (.cells #[.int .i64 0, .bool false, .bool false, .bool false, .bool false, .bool false, .bool false, .int .i64 0, .int .u64 0, .int .u32 0, .int .u64 0, .int .u16 0, .int .u16 0, .int .i64 0, .int .i64 0, .int .i64 0, .int .i64 0] 30 (0, 0)) := hq
       have hb_Y0 : w0.heap.size ≤ Y0 := by have := E_z14.size; omega
       have hn_A0Y0 : A0 ≠ Y0 := by have := heap_lt hA_z14; omega
       have hn_C0Y0 : C0 ≠ Y0 := by have := heap_lt hC_z14; omega
       have hn_D0Y0 : D0 ≠ Y0 := by have := heap_lt hD_z14; omega
       have hn_X0Y0 : X0 ≠ Y0 := by have := heap_lt hX_z14; omega
       have rA1_z15 : z15.cell? ⟨A0, 1, none⟩ = some (.bool q.ch) := (cell_of_row _ _ _ _ _ _ hA_z15).trans rfl
       have rA2_z15 : z15.cell? ⟨A0, 2, none⟩ = some (.bool q.ak) := (cell_of_row _ _ _ _ _ _ hA_z15).trans rfl
       have rA8_z15 : z15.cell? ⟨A0, 8, none⟩ = some (.int .u64 q.r) := (cell_of_row _ _ _ _ _ _ hA_z15).trans rfl
       have rA9_z15 : z15.cell? ⟨A0, 9, none⟩ = some (.int .u32 q.c) := (cell_of_row _ _ _ _ _ _ hA_z15).trans rfl
       have rX1_z15 : z15.cell? ⟨X0, 1, none⟩ = some (.bool q.ch) := (cell_of_row _ _ _ _ _ _ hX_z15).trans rfl
       have rX2_z15 : z15.cell? ⟨X0, 2, none⟩ = some (.bool q.ak) := (cell_of_row _ _ _ _ _ _ hX_z15).trans rfl
       have rX3_z15 : z15.cell? ⟨X0, 3, none⟩ = some (.bool false) := (cell_of_row _ _ _ _ _ _ hX_z15).trans rfl
       have rX4_z15 : z15.cell? ⟨X0, 4, none⟩ = some (.bool false) := (cell_of_row _ _ _ _ _ _ hX_z15).trans rfl
       have rX5_z15 : z15.cell? ⟨X0, 5, none⟩ = some (.bool false) := (cell_of_row _ _ _ _ _ _ hX_z15).trans rfl
       have rX6_z15 : z15.cell? ⟨X0, 6, none⟩ = some (.bool false) := (cell_of_row _ _ _ _ _ _ hX_z15).trans rfl
       have rX7_z15 : z15.cell? ⟨X0, 7, none⟩ = some (.int .i64 4) := (cell_of_row _ _ _ _ _ _ hX_z15).trans rfl
       have rX8_z15 : z15.cell? ⟨X0, 8, none⟩ = some (.int .u64 q.r) := (cell_of_row _ _ _ _ _ _ hX_z15).trans rfl
       have rX9_z15 : z15.cell? ⟨X0, 9, none⟩ = some (.int .u32 q.c) := (cell_of_row _ _ _ _ _ _ hX_z15).trans rfl
       clear hA_z14 hC_z14 hD_z14 hX_z14 E_z14
       clear hq hs hx)
    | ((with_reducible refine at_store 30 ?_); refine st_at rfl rfl 30 _ _ rfl Y0 0 _ #[.int .i64 1, .bool false, .bool false, .bool false, .bool false, .bool false, .bool false, .int .i64 0, .int .u64 0, .int .u32 0, .int .u64 0, .int .u16 0, .int .u16 0, .int .i64 0, .int .i64 0, .int .i64 0, .int .i64 0] _ #[.int .i64 1, .bool false, .bool false, .bool false, .bool false, .bool false, .bool false, .int .i64 0, .int .u64 0, .int .u32 0, .int .u64 0, .int .u16 0, .int .u16 0, .int .i64 0, .int .i64 0, .int .i64 0, .int .i64 0] _ rfl rfl rfl hY_z15 (by exact (by decide : 0 + 17 ≤ 17)) (by kernel_rfl) rfl rfl ?_
       intro z16 hq hm
       have hY_z16 : z16.heap[Y0]? = some (.cells #[.int .i64 1, .bool false, .bool false, .bool false, .bool false, .bool false, .bool false, .int .i64 0, .int .u64 0, .int .u32 0, .int .u64 0, .int .u16 0, .int .u16 0, .int .i64 0, .int .i64 0, .int .i64 0, .int .i64 0] 30 (0, 0)) := hq
       have hA_z16 : z16.heap[A0]? = some (.cells #[.int .i64 q.kd, .bool q.ch, .bool q.ak, .bool q.pr, .bool q.ag, .bool q.ln, .bool q.fw, .int .i64 q.ro, .int .u64 q.r, .int .u32 q.c, .int .u64 q.b, .int .u16 q.p, .int .u16 q.x, .int .i64 q.a, .int .i64 q.m, .int .i64 q.h, .int .i64 q.d] 30 (0, 0)) := (hm.heap (heap_lt hA_z15) (show ¬ A0 = Y0 by omega)).trans hA_z15
       have hC_z16 : z16.heap[C0]? = some (.cells #[.int .i64 0, .bool q.ch, .bool q.ak, .bool q.pr, .bool q.ag, .bool q.ln, .bool q.fw, .int .i64 q.ro, .int .u64 q.r, .int .u32 q.c, .int .u64 q.b, .int .u16 q.p, .int .u16 q.x, .int .i64 1, .int .i64 20, .int .i64 2, .int .i64 15] 30 (0, 0)) := (hm.heap (heap_lt hC_z15) (show ¬ C0 = Y0 by omega)).trans hC_z15
       have hD_z16 : z16.heap[D0]? = some (.cells #[.int .i64 1, .bool q.ch, .bool q.ak, .bool q.pr, .bool q.ag, .bool q.ln, .bool q.fw, .int .i64 q.ro, .int .u64 q.r, .int .u32 q.c, .int .u64 q.b, .int .u16 q.p, .int .u16 q.x, .int .i64 q.a, .int .i64 q.m, .int .i64 q.h, .int .i64 q.d] 30 (0, 0)) := (hm.heap (heap_lt hD_z15) (show ¬ D0 = Y0 by omega)).trans hD_z15
       have hX_z16 : z16.heap[X0]? = some (.cells #[.int .i64 0, .bool q.ch, .bool q.ak, .bool false, .bool false, .bool false, .bool false, .int .i64 4, .int .u64 q.r, .int .u32 q.c, .int .u64 q.b, .int .u16 q.p, .int .u16 0, .int .i64 (told 1), .int .i64 (told 20), .int .i64 (told 2), .int .i64 (told 15)] 30 (0, 0)) := (hm.heap (heap_lt hX_z15) (show ¬ X0 = Y0 by omega)).trans hX_z15
       have E_z16 : Ext w0 z16 := Ext.mutE E_z15 hm (fun n hn h => by have h2 : n = Y0 := h; omega)
       have rA1_z16 : z16.cell? ⟨A0, 1, none⟩ = some (.bool q.ch) := (cell_of_row _ _ _ _ _ _ hA_z16).trans rfl
       have rA2_z16 : z16.cell? ⟨A0, 2, none⟩ = some (.bool q.ak) := (cell_of_row _ _ _ _ _ _ hA_z16).trans rfl
       have rA8_z16 : z16.cell? ⟨A0, 8, none⟩ = some (.int .u64 q.r) := (cell_of_row _ _ _ _ _ _ hA_z16).trans rfl
       have rA9_z16 : z16.cell? ⟨A0, 9, none⟩ = some (.int .u32 q.c) := (cell_of_row _ _ _ _ _ _ hA_z16).trans rfl
       have rX1_z16 : z16.cell? ⟨X0, 1, none⟩ = some (.bool q.ch) := (cell_of_row _ _ _ _ _ _ hX_z16).trans rfl
       have rX2_z16 : z16.cell? ⟨X0, 2, none⟩ = some (.bool q.ak) := (cell_of_row _ _ _ _ _ _ hX_z16).trans rfl
       have rX3_z16 : z16.cell? ⟨X0, 3, none⟩ = some (.bool false) := (cell_of_row _ _ _ _ _ _ hX_z16).trans rfl
       have rX4_z16 : z16.cell? ⟨X0, 4, none⟩ = some (.bool false) := (cell_of_row _ _ _ _ _ _ hX_z16).trans rfl
       have rX5_z16 : z16.cell? ⟨X0, 5, none⟩ = some (.bool false) := (cell_of_row _ _ _ _ _ _ hX_z16).trans rfl
       have rX6_z16 : z16.cell? ⟨X0, 6, none⟩ = some (.bool false) := (cell_of_row _ _ _ _ _ _ hX_z16).trans rfl
       have rX7_z16 : z16.cell? ⟨X0, 7, none⟩ = some (.int .i64 4) := (cell_of_row _ _ _ _ _ _ hX_z16).trans rfl
       have rX8_z16 : z16.cell? ⟨X0, 8, none⟩ = some (.int .u64 q.r) := (cell_of_row _ _ _ _ _ _ hX_z16).trans rfl
       have rX9_z16 : z16.cell? ⟨X0, 9, none⟩ = some (.int .u32 q.c) := (cell_of_row _ _ _ _ _ _ hX_z16).trans rfl
       clear hA_z15 hC_z15 hD_z15 hX_z15 hY_z15 E_z15 rA1_z15 rA2_z15 rA8_z15 rA9_z15 rX1_z15 rX2_z15 rX3_z15 rX4_z15 rX5_z15 rX6_z15 rX7_z15 rX8_z15 rX9_z15
       clear hq hm)
    | ((with_reducible refine at_loadG 30 ?_); refine wpList_load_rowG rfl 30 _ rfl Y0 rfl 30 #[.int .i64 1, .bool false, .bool false, .bool false, .bool false, .bool false, .bool false, .int .i64 0, .int .u64 0, .int .u32 0, .int .u64 0, .int .u16 0, .int .u16 0, .int .i64 0, .int .i64 0, .int .i64 0, .int .i64 0] (0, 0) _ hY_z16 Try.underlying30 rfl (by kernel_rfl) ?_))
  all_goals
    go_ret
    exact ⟨rfl, hE_w0.trans E_z16⟩
theorem law_BpduKinds {w : World} (mc : List Value) (hmc : Typed ML mc)  : Calls Try.prog 7 #[.agg mc.toArray] w fun e w' => e = .returned (.bool true) ∧ Ext w w' := by
  obtain ⟨q, hq, e⟩ := open_mg hmc
  rw [e]
  exact cBpduKinds_a q hq

end Go.Proofs.Ytdfaagchlnkpnaa
