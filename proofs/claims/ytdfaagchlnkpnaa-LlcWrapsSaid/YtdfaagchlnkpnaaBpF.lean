/- Decoding as one function; what is plain of a message. No statement is proved here. -/
import Derived.Test.YtdfaagchlnkpnaaBpE
namespace Go.Proofs.Ytdfaagchlnkpnaa
open Go.RowKit Go.BigFrame Go.WideShapes Go.ChangeShapes Go.Deep
set_option linter.unusedVariables false
set_option linter.unusedSimpArgs false

theorem dec_any (v : Value) (xs : List Int) (w : World) (h : IsInts w .u8 v xs) (hx : ∀ x ∈ xs, 0 ≤ x ∧ x < 256) (hl : xs.length ≤ 100000) : Calls Try.prog 21 #[v] w fun e w' =>
    e = .returned (.tuple #[.agg #[.int .i64 (decF xs).1.kd, .bool (decF xs).1.ch, .bool (decF xs).1.ak, .bool (decF xs).1.pr, .bool (decF xs).1.ag, .bool (decF xs).1.ln, .bool (decF xs).1.fw, .int .i64 (decF xs).1.ro, .int .u64 (decF xs).1.r, .int .u32 (decF xs).1.c, .int .u64 (decF xs).1.b, .int .u16 (decF xs).1.p, .int .u16 (decF xs).1.x, .int .i64 (decF xs).1.a, .int .i64 (decF xs).1.m, .int .i64 (decF xs).1.h, .int .i64 (decF xs).1.d], .int .i64 (decF xs).2]) ∧ Ext w w' := by
  have fin : ∀ (q : Mg) (n : Int), decF xs = (q, n) → (Calls Try.prog 21 #[v] w fun e w' => e = .returned (.tuple #[.agg #[.int .i64 q.kd, .bool q.ch, .bool q.ak, .bool q.pr, .bool q.ag, .bool q.ln, .bool q.fw, .int .i64 q.ro, .int .u64 q.r, .int .u32 q.c, .int .u64 q.b, .int .u16 q.p, .int .u16 q.x, .int .i64 q.a, .int .i64 q.m, .int .i64 q.h, .int .i64 q.d], .int .i64 n]) ∧ Ext w w') → Calls Try.prog 21 #[v] w fun e w' =>
    e = .returned (.tuple #[.agg #[.int .i64 (decF xs).1.kd, .bool (decF xs).1.ch, .bool (decF xs).1.ak, .bool (decF xs).1.pr, .bool (decF xs).1.ag, .bool (decF xs).1.ln, .bool (decF xs).1.fw, .int .i64 (decF xs).1.ro, .int .u64 (decF xs).1.r, .int .u32 (decF xs).1.c, .int .u64 (decF xs).1.b, .int .u16 (decF xs).1.p, .int .u16 (decF xs).1.x, .int .i64 (decF xs).1.a, .int .i64 (decF xs).1.m, .int .i64 (decF xs).1.h, .int .i64 (decF xs).1.d], .int .i64 (decF xs).2]) ∧ Ext w w' := fun q n hd hc => by rw [hd]; exact hc
  by_cases h4 : xs.length < 4
  · exact fin _ _ (by unfold decF; rw [if_pos h4]) (dec_short v xs w h hx hl h4)
  have h4' : 4 ≤ xs.length := by omega
  cases hf : (nu xs 0 2 != 0)
  case true =>
    exact fin _ _ (by unfold decF; rw [if_neg h4, if_pos (by simpa using hf)]) (dec_form v xs w h hx hl h4' hf)
  have hf' : ¬ nu xs 0 2 ≠ 0 := by simpa using hf
  cases hn : (nu xs 3 1 == 128)
  case true =>
    exact fin _ _ (by unfold decF; rw [if_neg h4, if_neg hf', if_pos (by simpa using hn)]) (dec_tcn v xs w h hx hl h4' hf hn)
  have hn' : ¬ nu xs 3 1 = 128 := by simpa using hn
  by_cases h2 : nu xs 3 1 = 2
  · have hz : (nu xs 3 1 != 0) = true := by rw [h2]; rfl
    have h2b : (nu xs 3 1 == 2) = true := by simpa using h2
    by_cases hv : 2 ≤ nu xs 2 1
    · have hvb : decide (2 ≤ nu xs 2 1) = true := by simpa using hv
      by_cases h36 : xs.length < 36
      · exact fin _ _ (by unfold decF decB; rw [if_neg h4, if_neg hf', if_neg hn', if_pos ⟨h2, hv⟩, if_pos h36]) (dec_short2 v xs w h hx hl h4' hf hn h2b hvb (by simp; omega))
      · refine fin _ _ (?_ : decF xs = (⟨2, isB (nu xs 4 1) 1, isB (nu xs 4 1) 128, isB (nu xs 4 1) 2, isB (nu xs 4 1) 64, isB (nu xs 4 1) 16, isB (nu xs 4 1) 32, roB (bits .and .u64 (nu xs 4 1 / 4) 3), nu xs 5 8, nu xs 13 4, nu xs 17 8, nu xs 25 2, 0, fromV (nu xs 27 2), fromV (nu xs 29 2), fromV (nu xs 31 2), fromV (nu xs 33 2)⟩, 0)) (dec_rst v xs w h hx hl h4' hf hn h2b hvb (by simp; omega) (by omega))
        unfold decF decB flagged
        rw [if_neg h4, if_neg hf', if_neg hn', if_pos ⟨h2, hv⟩, if_neg h36, if_neg (by omega), if_pos rfl]
    · have hvb : decide (2 ≤ nu xs 2 1) = false := by simpa using hv
      exact fin _ _ (by unfold decF; rw [if_neg h4, if_neg hf', if_neg hn', if_neg (by omega), if_pos (by omega)]) (dec_kind2 v xs w h hx hl h4' hf hn h2b hvb hz)
  have h2b : (nu xs 3 1 == 2) = false := by simpa using h2
  by_cases hz : nu xs 3 1 = 0
  · have hzb : (nu xs 3 1 != 0) = false := by simpa using hz
    by_cases h35 : xs.length < 35
    · exact fin _ _ (by unfold decF decB; rw [if_neg h4, if_neg hf', if_neg hn', if_neg (by omega), if_neg (by omega), if_pos h35]) (dec_short0 v xs w h hx hl h4' hf hn h2b hzb (by simp; omega))
    · by_cases hy : nu xs 27 2 < nu xs 29 2
      · refine fin _ _ (?_ : decF xs = (⟨0, isB (nu xs 4 1) 1, isB (nu xs 4 1) 128, false, false, false, false, 4, nu xs 5 8, nu xs 13 4, nu xs 17 8, nu xs 25 2, 0, fromV (nu xs 27 2), fromV (nu xs 29 2), fromV (nu xs 31 2), fromV (nu xs 33 2)⟩, 0)) (dec_cfg v xs w h hx hl h4' hf hn h2b hzb (by simp; omega) (by omega) (by simpa using hy))
        unfold decF decB flagged
        rw [if_neg h4, if_neg hf', if_neg hn', if_neg (by omega), if_neg (by omega), if_neg h35, if_neg (by omega), if_neg (by decide)]
        rfl
      · exact fin _ _ (by unfold decF decB; rw [if_neg h4, if_neg hf', if_neg hn', if_neg (by omega), if_neg (by omega), if_neg h35, if_pos ⟨rfl, hy⟩]) (dec_old v xs w h hx hl h4' hf hn h2b hzb (by simp; omega) (by omega) (by simpa using hy))
  · exact fin _ _ (by unfold decF; rw [if_neg h4, if_neg hf', if_neg hn', if_neg (by omega), if_pos hz]) (dec_kind1 v xs w h hx hl h4' hf hn h2b (by simpa using hz))
set_option maxRecDepth 100000 in
set_option maxHeartbeats 2000000 in
theorem plain_1 (q : Mg) (hq : q.ok) (hk : q.kd = 1) (w : World) : Calls Try.prog 19 #[.agg #[.int .i64 q.kd, .bool q.ch, .bool q.ak, .bool q.pr, .bool q.ag, .bool q.ln, .bool q.fw, .int .i64 q.ro, .int .u64 q.r, .int .u32 q.c, .int .u64 q.b, .int .u16 q.p, .int .u16 q.x, .int .i64 q.a, .int .i64 q.m, .int .i64 q.h, .int .i64 q.d]] w fun e w' => e = .returned (.agg #[.int .i64 (plainM q).kd, .bool (plainM q).ch, .bool (plainM q).ak, .bool (plainM q).pr, .bool (plainM q).ag, .bool (plainM q).ln, .bool (plainM q).fw, .int .i64 (plainM q).ro, .int .u64 (plainM q).r, .int .u32 (plainM q).c, .int .u64 (plainM q).b, .int .u16 (plainM q).p, .int .u16 (plainM q).x, .int .i64 (plainM q).a, .int .i64 (plainM q).m, .int .i64 (plainM q).h, .int .i64 (plainM q).d]) ∧ Ext w w' := by
  have hz := zero_msg
  have hfl := flagsN_rg q
  have hk1 : (q.kd == 1) = true := by simpa using hk
  have HK := Lib.hid hk
  clear hk
  go_enter Try.func19, Try.ntmps19
  go_wp2_with (first
    | fail
    | ((with_reducible refine at_alloc 30 ?_)
       have hA_w0 : (w.alloc (.cells #[.int .i64 q.kd, .bool q.ch, .bool q.ak, .bool q.pr, .bool q.ag, .bool q.ln, .bool q.fw, .int .i64 q.ro, .int .u64 q.r, .int .u32 q.c, .int .u64 q.b, .int .u16 q.p, .int .u16 q.x, .int .i64 q.a, .int .i64 q.m, .int .i64 q.h, .int .i64 q.d] 30)).heap[w.heap.size]? = some (.cells #[.int .i64 q.kd, .bool q.ch, .bool q.ak, .bool q.pr, .bool q.ag, .bool q.ln, .bool q.fw, .int .i64 q.ro, .int .u64 q.r, .int .u32 q.c, .int .u64 q.b, .int .u16 q.p, .int .u16 q.x, .int .i64 q.a, .int .i64 q.m, .int .i64 q.h, .int .i64 q.d] 30 (0, 0)) := heap_alloc_new _ _
       have hE_w0 : Ext w (w.alloc (.cells #[.int .i64 q.kd, .bool q.ch, .bool q.ak, .bool q.pr, .bool q.ag, .bool q.ln, .bool q.fw, .int .i64 q.ro, .int .u64 q.r, .int .u32 q.c, .int .u64 q.b, .int .u16 q.p, .int .u16 q.x, .int .i64 q.a, .int .i64 q.m, .int .i64 q.h, .int .i64 q.d] 30)) := (Ext.refl _).alloc _
       generalize w.alloc (.cells #[.int .i64 q.kd, .bool q.ch, .bool q.ak, .bool q.pr, .bool q.ag, .bool q.ln, .bool q.fw, .int .i64 q.ro, .int .u64 q.r, .int .u32 q.c, .int .u64 q.b, .int .u16 q.p, .int .u16 q.x, .int .i64 q.a, .int .i64 q.m, .int .i64 q.h, .int .i64 q.d] 30) = w0 at *
       obtain ⟨A0, hA0⟩ : ∃ n, w.heap.size = n := ⟨_, rfl⟩
       rw [hA0] at hA_w0 ⊢
       refine al_zero rfl 30 rfl MZ zero_msg ?_
       intro R0 z1 hq hs hx
       have E_z1 : Ext w0 z1 := hx
       have hA_z1 : z1.heap[A0]? = some (.cells #[.int .i64 q.kd, .bool q.ch, .bool q.ak, .bool q.pr, .bool q.ag, .bool q.ln, .bool q.fw, .int .i64 q.ro, .int .u64 q.r, .int .u32 q.c, .int .u64 q.b, .int .u16 q.p, .int .u16 q.x, .int .i64 q.a, .int .i64 q.m, .int .i64 q.h, .int .i64 q.d] 30 (0, 0)) := (hx.block _ (heap_lt hA_w0)).trans hA_w0
       have hR_z1 : z1.heap[R0]? = some (.cells #[.int .i64 0, .bool false, .bool false, .bool false, .bool false, .bool false, .bool false, .int .i64 0, .int .u64 0, .int .u32 0, .int .u64 0, .int .u16 0, .int .u16 0, .int .i64 0, .int .i64 0, .int .i64 0, .int .i64 0] 30 (0, 0)) := hq
       have hb_R0 : w0.heap.size ≤ R0 := by omega
       have hn_A0R0 : A0 ≠ R0 := by have := heap_lt hA_w0; omega
       have rA0_z1 : z1.cell? ⟨A0, 0, none⟩ = some (.int .i64 q.kd) := (cell_of_row _ _ _ _ _ _ hA_z1).trans rfl
       clear hA_w0
       clear hq hs hx)
    | ((with_reducible refine at_store 30 ?_); refine st_at rfl rfl 30 _ _ rfl R0 0 _ #[.int .i64 1, .bool false, .bool false, .bool false, .bool false, .bool false, .bool false, .int .i64 0, .int .u64 0, .int .u32 0, .int .u64 0, .int .u16 0, .int .u16 0, .int .i64 0, .int .i64 0, .int .i64 0, .int .i64 0] _ #[.int .i64 1, .bool false, .bool false, .bool false, .bool false, .bool false, .bool false, .int .i64 0, .int .u64 0, .int .u32 0, .int .u64 0, .int .u16 0, .int .u16 0, .int .i64 0, .int .i64 0, .int .i64 0, .int .i64 0] _ rfl rfl rfl hR_z1 (by exact (by decide : 0 + 17 ≤ 17)) (by kernel_rfl) rfl rfl ?_
       intro z2 hq hm
       have hR_z2 : z2.heap[R0]? = some (.cells #[.int .i64 1, .bool false, .bool false, .bool false, .bool false, .bool false, .bool false, .int .i64 0, .int .u64 0, .int .u32 0, .int .u64 0, .int .u16 0, .int .u16 0, .int .i64 0, .int .i64 0, .int .i64 0, .int .i64 0] 30 (0, 0)) := hq
       have hA_z2 : z2.heap[A0]? = some (.cells #[.int .i64 q.kd, .bool q.ch, .bool q.ak, .bool q.pr, .bool q.ag, .bool q.ln, .bool q.fw, .int .i64 q.ro, .int .u64 q.r, .int .u32 q.c, .int .u64 q.b, .int .u16 q.p, .int .u16 q.x, .int .i64 q.a, .int .i64 q.m, .int .i64 q.h, .int .i64 q.d] 30 (0, 0)) := (hm.heap (heap_lt hA_z1) (show ¬ A0 = R0 by omega)).trans hA_z1
       have E_z2 : Ext w0 z2 := Ext.mutE E_z1 hm (fun n hn h => by have h2 : n = R0 := h; omega)
       have rA0_z2 : z2.cell? ⟨A0, 0, none⟩ = some (.int .i64 q.kd) := (cell_of_row _ _ _ _ _ _ hA_z2).trans rfl
       clear hA_z1 hR_z1 E_z1 rA0_z1
       clear hq hm))
  refine bodyPost_ret (results_cell_row rfl _ _ _ _ _ (0, 0) _ rfl hR_z2 Try.underlying30 rfl (by kernel_rfl)) rfl ?_
  refine ⟨?_, hE_w0.trans E_z2⟩
  unfold plainM
  rw [if_pos HK.out]
  rfl
set_option maxRecDepth 100000 in
set_option maxHeartbeats 2000000 in
theorem plain_0 (q : Mg) (hq : q.ok) (hk : ¬ (q.kd = 0 ∨ q.kd = 1 ∨ q.kd = 2)) (w : World) : Calls Try.prog 19 #[.agg #[.int .i64 q.kd, .bool q.ch, .bool q.ak, .bool q.pr, .bool q.ag, .bool q.ln, .bool q.fw, .int .i64 q.ro, .int .u64 q.r, .int .u32 q.c, .int .u64 q.b, .int .u16 q.p, .int .u16 q.x, .int .i64 q.a, .int .i64 q.m, .int .i64 q.h, .int .i64 q.d]] w fun e w' => e = .returned (.agg #[.int .i64 (plainM q).kd, .bool (plainM q).ch, .bool (plainM q).ak, .bool (plainM q).pr, .bool (plainM q).ag, .bool (plainM q).ln, .bool (plainM q).fw, .int .i64 (plainM q).ro, .int .u64 (plainM q).r, .int .u32 (plainM q).c, .int .u64 (plainM q).b, .int .u16 (plainM q).p, .int .u16 (plainM q).x, .int .i64 (plainM q).a, .int .i64 (plainM q).m, .int .i64 (plainM q).h, .int .i64 (plainM q).d]) ∧ Ext w w' := by
  have hz := zero_msg
  have hfl := flagsN_rg q
  have hk1 : (q.kd == 1) = false := by simp; omega
  have hk0 : (q.kd == 0) = false := by simp; omega
  have hk2 : (q.kd == 2) = false := by simp; omega
  have HK := Lib.hid hk
  clear hk
  go_enter Try.func19, Try.ntmps19
  go_wp2_with (first
    | fail
    | ((with_reducible refine at_alloc 30 ?_)
       have hA_w0 : (w.alloc (.cells #[.int .i64 q.kd, .bool q.ch, .bool q.ak, .bool q.pr, .bool q.ag, .bool q.ln, .bool q.fw, .int .i64 q.ro, .int .u64 q.r, .int .u32 q.c, .int .u64 q.b, .int .u16 q.p, .int .u16 q.x, .int .i64 q.a, .int .i64 q.m, .int .i64 q.h, .int .i64 q.d] 30)).heap[w.heap.size]? = some (.cells #[.int .i64 q.kd, .bool q.ch, .bool q.ak, .bool q.pr, .bool q.ag, .bool q.ln, .bool q.fw, .int .i64 q.ro, .int .u64 q.r, .int .u32 q.c, .int .u64 q.b, .int .u16 q.p, .int .u16 q.x, .int .i64 q.a, .int .i64 q.m, .int .i64 q.h, .int .i64 q.d] 30 (0, 0)) := heap_alloc_new _ _
       have hE_w0 : Ext w (w.alloc (.cells #[.int .i64 q.kd, .bool q.ch, .bool q.ak, .bool q.pr, .bool q.ag, .bool q.ln, .bool q.fw, .int .i64 q.ro, .int .u64 q.r, .int .u32 q.c, .int .u64 q.b, .int .u16 q.p, .int .u16 q.x, .int .i64 q.a, .int .i64 q.m, .int .i64 q.h, .int .i64 q.d] 30)) := (Ext.refl _).alloc _
       generalize w.alloc (.cells #[.int .i64 q.kd, .bool q.ch, .bool q.ak, .bool q.pr, .bool q.ag, .bool q.ln, .bool q.fw, .int .i64 q.ro, .int .u64 q.r, .int .u32 q.c, .int .u64 q.b, .int .u16 q.p, .int .u16 q.x, .int .i64 q.a, .int .i64 q.m, .int .i64 q.h, .int .i64 q.d] 30) = w0 at *
       obtain ⟨A0, hA0⟩ : ∃ n, w.heap.size = n := ⟨_, rfl⟩
       rw [hA0] at hA_w0 ⊢
       refine al_zero rfl 30 rfl MZ zero_msg ?_
       intro R0 z1 hq hs hx
       have E_z1 : Ext w0 z1 := hx
       have hA_z1 : z1.heap[A0]? = some (.cells #[.int .i64 q.kd, .bool q.ch, .bool q.ak, .bool q.pr, .bool q.ag, .bool q.ln, .bool q.fw, .int .i64 q.ro, .int .u64 q.r, .int .u32 q.c, .int .u64 q.b, .int .u16 q.p, .int .u16 q.x, .int .i64 q.a, .int .i64 q.m, .int .i64 q.h, .int .i64 q.d] 30 (0, 0)) := (hx.block _ (heap_lt hA_w0)).trans hA_w0
       have hR_z1 : z1.heap[R0]? = some (.cells #[.int .i64 0, .bool false, .bool false, .bool false, .bool false, .bool false, .bool false, .int .i64 0, .int .u64 0, .int .u32 0, .int .u64 0, .int .u16 0, .int .u16 0, .int .i64 0, .int .i64 0, .int .i64 0, .int .i64 0] 30 (0, 0)) := hq
       have hb_R0 : w0.heap.size ≤ R0 := by omega
       have hn_A0R0 : A0 ≠ R0 := by have := heap_lt hA_w0; omega
       have rA0_z1 : z1.cell? ⟨A0, 0, none⟩ = some (.int .i64 q.kd) := (cell_of_row _ _ _ _ _ _ hA_z1).trans rfl
       clear hA_w0
       clear hq hs hx)
    | ((with_reducible refine at_store 30 ?_); refine st_at rfl rfl 30 _ _ rfl R0 0 _ #[.int .i64 0, .bool false, .bool false, .bool false, .bool false, .bool false, .bool false, .int .i64 0, .int .u64 0, .int .u32 0, .int .u64 0, .int .u16 0, .int .u16 0, .int .i64 0, .int .i64 0, .int .i64 0, .int .i64 0] _ #[.int .i64 0, .bool false, .bool false, .bool false, .bool false, .bool false, .bool false, .int .i64 0, .int .u64 0, .int .u32 0, .int .u64 0, .int .u16 0, .int .u16 0, .int .i64 0, .int .i64 0, .int .i64 0, .int .i64 0] _ rfl rfl rfl hR_z1 (by exact (by decide : 0 + 17 ≤ 17)) (by kernel_rfl) rfl rfl ?_
       intro z2 hq hm
       have hR_z2 : z2.heap[R0]? = some (.cells #[.int .i64 0, .bool false, .bool false, .bool false, .bool false, .bool false, .bool false, .int .i64 0, .int .u64 0, .int .u32 0, .int .u64 0, .int .u16 0, .int .u16 0, .int .i64 0, .int .i64 0, .int .i64 0, .int .i64 0] 30 (0, 0)) := hq
       have hA_z2 : z2.heap[A0]? = some (.cells #[.int .i64 q.kd, .bool q.ch, .bool q.ak, .bool q.pr, .bool q.ag, .bool q.ln, .bool q.fw, .int .i64 q.ro, .int .u64 q.r, .int .u32 q.c, .int .u64 q.b, .int .u16 q.p, .int .u16 q.x, .int .i64 q.a, .int .i64 q.m, .int .i64 q.h, .int .i64 q.d] 30 (0, 0)) := (hm.heap (heap_lt hA_z1) (show ¬ A0 = R0 by omega)).trans hA_z1
       have E_z2 : Ext w0 z2 := Ext.mutE E_z1 hm (fun n hn h => by have h2 : n = R0 := h; omega)
       have rA0_z2 : z2.cell? ⟨A0, 0, none⟩ = some (.int .i64 q.kd) := (cell_of_row _ _ _ _ _ _ hA_z2).trans rfl
       clear hA_z1 hR_z1 E_z1 rA0_z1
       clear hq hm))
  refine bodyPost_ret (results_cell_row rfl _ _ _ _ _ (0, 0) _ rfl hR_z2 Try.underlying30 rfl (by kernel_rfl)) rfl ?_
  refine ⟨?_, hE_w0.trans E_z2⟩
  unfold plainM
  rw [if_neg (by have := HK.out; omega), if_neg (by have := HK.out; omega)]
  rfl
theorem times_b (a m h d : Int) : Try.prog.built 28 [(0, .int .i64 a), (1, .int .i64 m), (2, .int .i64 h), (3, .int .i64 d)] = some #[.int .i64 a, .int .i64 m, .int .i64 h, .int .i64 d] := by kernel_rfl
set_option maxRecDepth 100000 in
set_option maxHeartbeats 2000000 in
theorem plain_c (q : Mg) (hq : q.ok) (hk : q.kd = 0) (w : World) : Calls Try.prog 19 #[.agg #[.int .i64 q.kd, .bool q.ch, .bool q.ak, .bool q.pr, .bool q.ag, .bool q.ln, .bool q.fw, .int .i64 q.ro, .int .u64 q.r, .int .u32 q.c, .int .u64 q.b, .int .u16 q.p, .int .u16 q.x, .int .i64 q.a, .int .i64 q.m, .int .i64 q.h, .int .i64 q.d]] w fun e w' => e = .returned (.agg #[.int .i64 (plainM q).kd, .bool (plainM q).ch, .bool (plainM q).ak, .bool (plainM q).pr, .bool (plainM q).ag, .bool (plainM q).ln, .bool (plainM q).fw, .int .i64 (plainM q).ro, .int .u64 (plainM q).r, .int .u32 (plainM q).c, .int .u64 (plainM q).b, .int .u16 (plainM q).p, .int .u16 (plainM q).x, .int .i64 (plainM q).a, .int .i64 (plainM q).m, .int .i64 (plainM q).h, .int .i64 (plainM q).d]) ∧ Ext w w' := by
  have hz := zero_msg
  have hfl := flagsN_rg q
  have hk1 : (q.kd == 1) = false := by simp; omega
  have hk0 : (q.kd == 0) = true := by simpa using hk
  have HK := Lib.hid hk
  clear hk
  go_enter Try.func19, Try.ntmps19
  obtain ⟨fq, hfq⟩ : ∃ f, flagged q.kd (flagsN q) = f := ⟨_, rfl⟩
  have HG := Lib.hid (show ∀ w : World, Calls Try.prog 42 #[.int .i64 q.kd, .int .u64 (flagsN q)] w fun e w' => e = .returned (.agg #[.int .i64 fq.kd, .bool fq.ch, .bool fq.ak, .bool fq.pr, .bool fq.ag, .bool fq.ln, .bool fq.fw, .int .i64 fq.ro, .int .u64 fq.r, .int .u32 fq.c, .int .u64 fq.b, .int .u16 fq.p, .int .u16 fq.x, .int .i64 fq.a, .int .i64 fq.m, .int .i64 fq.h, .int .i64 fq.d]) ∧ Ext w w' from fun w => by
    have := flagged_q q.kd (flagsN q) ⟨hfl.1, by omega⟩ w
    rw [hfq] at this
    exact this)
  have HF := Lib.hid hfq
  clear hfq
  go_wp2_with (first
    | fail
    | ((with_reducible refine at_alloc 30 ?_)
       have hA_w0 : (w.alloc (.cells #[.int .i64 q.kd, .bool q.ch, .bool q.ak, .bool q.pr, .bool q.ag, .bool q.ln, .bool q.fw, .int .i64 q.ro, .int .u64 q.r, .int .u32 q.c, .int .u64 q.b, .int .u16 q.p, .int .u16 q.x, .int .i64 q.a, .int .i64 q.m, .int .i64 q.h, .int .i64 q.d] 30)).heap[w.heap.size]? = some (.cells #[.int .i64 q.kd, .bool q.ch, .bool q.ak, .bool q.pr, .bool q.ag, .bool q.ln, .bool q.fw, .int .i64 q.ro, .int .u64 q.r, .int .u32 q.c, .int .u64 q.b, .int .u16 q.p, .int .u16 q.x, .int .i64 q.a, .int .i64 q.m, .int .i64 q.h, .int .i64 q.d] 30 (0, 0)) := heap_alloc_new _ _
       have hE_w0 : Ext w (w.alloc (.cells #[.int .i64 q.kd, .bool q.ch, .bool q.ak, .bool q.pr, .bool q.ag, .bool q.ln, .bool q.fw, .int .i64 q.ro, .int .u64 q.r, .int .u32 q.c, .int .u64 q.b, .int .u16 q.p, .int .u16 q.x, .int .i64 q.a, .int .i64 q.m, .int .i64 q.h, .int .i64 q.d] 30)) := (Ext.refl _).alloc _
       generalize w.alloc (.cells #[.int .i64 q.kd, .bool q.ch, .bool q.ak, .bool q.pr, .bool q.ag, .bool q.ln, .bool q.fw, .int .i64 q.ro, .int .u64 q.r, .int .u32 q.c, .int .u64 q.b, .int .u16 q.p, .int .u16 q.x, .int .i64 q.a, .int .i64 q.m, .int .i64 q.h, .int .i64 q.d] 30) = w0 at *
       obtain ⟨A0, hA0⟩ : ∃ n, w.heap.size = n := ⟨_, rfl⟩
       rw [hA0] at hA_w0 ⊢
       refine al_zero rfl 30 rfl MZ zero_msg ?_
       intro R0 z1 hq hs hx
       have E_z1 : Ext w0 z1 := hx
       have hA_z1 : z1.heap[A0]? = some (.cells #[.int .i64 q.kd, .bool q.ch, .bool q.ak, .bool q.pr, .bool q.ag, .bool q.ln, .bool q.fw, .int .i64 q.ro, .int .u64 q.r, .int .u32 q.c, .int .u64 q.b, .int .u16 q.p, .int .u16 q.x, .int .i64 q.a, .int .i64 q.m, .int .i64 q.h, .int .i64 q.d] 30 (0, 0)) := (hx.block _ (heap_lt hA_w0)).trans hA_w0
       have hR_z1 : z1.heap[R0]? = some (.cells #[.int .i64 0, .bool false, .bool false, .bool false, .bool false, .bool false, .bool false, .int .i64 0, .int .u64 0, .int .u32 0, .int .u64 0, .int .u16 0, .int .u16 0, .int .i64 0, .int .i64 0, .int .i64 0, .int .i64 0] 30 (0, 0)) := hq
       have hb_R0 : w0.heap.size ≤ R0 := by omega
       have hn_A0R0 : A0 ≠ R0 := by have := heap_lt hA_w0; omega
       have rA0_z1 : z1.cell? ⟨A0, 0, none⟩ = some (.int .i64 q.kd) := (cell_of_row _ _ _ _ _ _ hA_z1).trans rfl
       clear hA_w0
       clear hq hs hx))
  refine beginL (S := fun W' => Ext z1 W') (by kernel_rfl) ?_
  intro wd hqx
  have hq0 : Ext z1 wd := hqx
  refine takeL (i := 0) (v := (.pointer (some ⟨A0, 0, none⟩))) rfl (by kernel_rfl) (by kernel_rfl) (by kernel_rfl) (fun _ _ _ h => h) (Or.inl ⟨rfl, fun _ _ => rfl⟩) hq0 ?_
  simp only [Act.put, List.setIfInBounds_toArray, List.set_cons_zero, List.set_cons_succ]
  refine takeL (i := 1) (v := _) rfl (by kernel_rfl) (by kernel_rfl) (by kernel_rfl) (fun _ _ _ h => h) (yieldsIf_cell rfl 3 _ rfl ⟨A0, 0, none⟩ rfl (.int .i64 q.kd) _ (fun W' hW' => (cell_of_row _ _ _ _ _ _ ((hW'.block _ (heap_lt hA_z1)).trans hA_z1)).trans rfl) Try.underlying3 rfl) hq0 ?_
  simp only [Act.put, List.setIfInBounds_toArray, List.set_cons_zero, List.set_cons_succ]
  refine takeL (i := 2) (v := _) rfl (by kernel_rfl) (by kernel_rfl) (by kernel_rfl) (fun _ _ _ h => h) (yieldsIf_rowS rfl 30 _ rfl A0 rfl #[.int .i64 q.kd, .bool q.ch, .bool q.ak, .bool q.pr, .bool q.ag, .bool q.ln, .bool q.fw, .int .i64 q.ro, .int .u64 q.r, .int .u32 q.c, .int .u64 q.b, .int .u16 q.p, .int .u16 q.x, .int .i64 q.a, .int .i64 q.m, .int .i64 q.h, .int .i64 q.d] _ _ (fun W' hW' => ((hW'.block _ (heap_lt hA_z1)).trans hA_z1)) Try.underlying30 rfl (by kernel_rfl)) hq0 ?_
  simp only [Act.put, List.setIfInBounds_toArray, List.set_cons_zero, List.set_cons_succ]
  refine runL2 (i := 3) (j := 5) rfl rfl rfl rfl (by kernel_rfl) (fun K hK => ?_) (fun K hK => ?_)
  · go_simp
    refine (flags_q q _).mono ?_
    rintro e wc1 ⟨rfl, hx⟩
    have hq1 := hq0.trans hx
    refine hK.out _ _ hq1 (fun hHeld => ?_)
    try simp only [Act.put, List.setIfInBounds_toArray, List.set_cons_zero, List.set_cons_succ]
    clear hK K hHeld
    refine runL2 (i := 4) (j := 5) rfl rfl rfl rfl (by kernel_rfl) (fun K hK => ?_) (fun K hK => ?_)
    · go_simp
      refine (HG.out _).mono ?_
      rintro e wc2 ⟨rfl, hx⟩
      have hq2 := hq1.trans hx
      refine hK.out _ _ hq2 (fun hHeld => ?_)
      try simp only [Act.put, List.setIfInBounds_toArray, List.set_cons_zero, List.set_cons_succ]
      clear hK K hHeld
      refine runL (i := 5) rfl rfl (by kernel_rfl) (fun K hK => ?_)
      refine wp_al_zero 30 rfl MZ zero_msg (fun X0 wa5 hrow5 hsz5 hx => ?_)
      have hq3 := hq2.trans hx
      have hlo5 : z1.heap.size ≤ X0 := by have := hq2.size; omega
      clear hx
      refine hK.out _ _ hq3 (fun hHeld => ?_)
      try simp only [Act.put, List.setIfInBounds_toArray, List.set_cons_zero, List.set_cons_succ]
      clear hK K hHeld
      refine runL (i := 6) rfl rfl (by kernel_rfl) (fun K hK => ?_)
      refine wp_st_at rfl 30 _ _ rfl X0 0 _ #[.int .i64 fq.kd, .bool fq.ch, .bool fq.ak, .bool fq.pr, .bool fq.ag, .bool fq.ln, .bool fq.fw, .int .i64 fq.ro, .int .u64 fq.r, .int .u32 fq.c, .int .u64 fq.b, .int .u16 fq.p, .int .u16 fq.x, .int .i64 fq.a, .int .i64 fq.m, .int .i64 fq.h, .int .i64 fq.d] _ #[.int .i64 fq.kd, .bool fq.ch, .bool fq.ak, .bool fq.pr, .bool fq.ag, .bool fq.ln, .bool fq.fw, .int .i64 fq.ro, .int .u64 fq.r, .int .u32 fq.c, .int .u64 fq.b, .int .u16 fq.p, .int .u16 fq.x, .int .i64 fq.a, .int .i64 fq.m, .int .i64 fq.h, .int .i64 fq.d] _ rfl rfl rfl hrow5 (by exact (by decide : 0 + 17 ≤ 17)) (by kernel_rfl) rfl rfl (fun ws6 hrow6 hm => ?_)
      have hq4 : Ext z1 ws6 := Ext.mutE hq3 hm (fun n hn h => by have h2 : n = X0 := h; omega)
      clear hm
      refine hK.out _ _ hq4 (fun hHeld => ?_)
      try simp only [Act.put, List.setIfInBounds_toArray, List.set_cons_zero, List.set_cons_succ]
      clear hK K hHeld
      refine wpAnyH_done (by kernel_rfl) ?_ _
      generalize ws6 = z2 at *
      have hA_z2 : z2.heap[A0]? = some (.cells #[.int .i64 q.kd, .bool q.ch, .bool q.ak, .bool q.pr, .bool q.ag, .bool q.ln, .bool q.fw, .int .i64 q.ro, .int .u64 q.r, .int .u32 q.c, .int .u64 q.b, .int .u16 q.p, .int .u16 q.x, .int .i64 q.a, .int .i64 q.m, .int .i64 q.h, .int .i64 q.d] 30 (0, 0)) := (hq4.block _ (heap_lt hA_z1)).trans hA_z1
      have hR_z2 : z2.heap[R0]? = some (.cells #[.int .i64 0, .bool false, .bool false, .bool false, .bool false, .bool false, .bool false, .int .i64 0, .int .u64 0, .int .u32 0, .int .u64 0, .int .u16 0, .int .u16 0, .int .i64 0, .int .i64 0, .int .i64 0, .int .i64 0] 30 (0, 0)) := (hq4.block _ (heap_lt hR_z1)).trans hR_z1
      have E_z2 : Ext w0 z2 := E_z1.trans hq4
      have hX_z2 : z2.heap[X0]? = some (.cells #[.int .i64 fq.kd, .bool fq.ch, .bool fq.ak, .bool fq.pr, .bool fq.ag, .bool fq.ln, .bool fq.fw, .int .i64 fq.ro, .int .u64 fq.r, .int .u32 fq.c, .int .u64 fq.b, .int .u16 fq.p, .int .u16 fq.x, .int .i64 fq.a, .int .i64 fq.m, .int .i64 fq.h, .int .i64 fq.d] 30 (0, 0)) := hrow6
      have hb_X0 : w0.heap.size ≤ X0 := by have h1 := E_z1.size; have h2 := hlo5; omega
      have hn_A0X0 : A0 ≠ X0 := by have h1 := heap_lt hA_z1; have h2 := hlo5; omega
      have hn_R0X0 : R0 ≠ X0 := by have h1 := heap_lt hR_z1; have h2 := hlo5; omega
      have rA0_z2 : z2.cell? ⟨A0, 0, none⟩ = some (.int .i64 q.kd) := (cell_of_row _ _ _ _ _ _ hA_z2).trans rfl
      clear hA_z1 hR_z1 E_z1 rA0_z1
      clear hq0 hq1 hq2 hq3 hq4
      go_wp2_with (first
        | fail
        | ((with_reducible refine at_load 26 ?_); refine wpList_load_mid rfl 26 _ rfl A0 8 rfl [.int .u64 q.r, .int .u32 q.c, .int .u64 q.b, .int .u16 q.p, .int .u16 q.x] _ (row_range hA_z2 8 (by rfl)) Try.underlying26 rfl (by kernel_rfl) ?_)
        | ((with_reducible refine at_store 26 ?_); refine st_at rfl rfl 26 _ _ rfl X0 8 _ #[.int .u64 q.r, .int .u32 q.c, .int .u64 q.b, .int .u16 q.p, .int .u16 q.x] _ #[.int .i64 fq.kd, .bool fq.ch, .bool fq.ak, .bool fq.pr, .bool fq.ag, .bool fq.ln, .bool fq.fw, .int .i64 fq.ro, .int .u64 q.r, .int .u32 q.c, .int .u64 q.b, .int .u16 q.p, .int .u16 q.x, .int .i64 fq.a, .int .i64 fq.m, .int .i64 fq.h, .int .i64 fq.d] _ rfl rfl rfl hX_z2 (by exact (by decide : 8 + 5 ≤ 17)) (by kernel_rfl) rfl rfl ?_
           intro z3 hq hm
           have hX_z3 : z3.heap[X0]? = some (.cells #[.int .i64 fq.kd, .bool fq.ch, .bool fq.ak, .bool fq.pr, .bool fq.ag, .bool fq.ln, .bool fq.fw, .int .i64 fq.ro, .int .u64 q.r, .int .u32 q.c, .int .u64 q.b, .int .u16 q.p, .int .u16 q.x, .int .i64 fq.a, .int .i64 fq.m, .int .i64 fq.h, .int .i64 fq.d] 30 (0, 0)) := hq
           have hA_z3 : z3.heap[A0]? = some (.cells #[.int .i64 q.kd, .bool q.ch, .bool q.ak, .bool q.pr, .bool q.ag, .bool q.ln, .bool q.fw, .int .i64 q.ro, .int .u64 q.r, .int .u32 q.c, .int .u64 q.b, .int .u16 q.p, .int .u16 q.x, .int .i64 q.a, .int .i64 q.m, .int .i64 q.h, .int .i64 q.d] 30 (0, 0)) := (hm.heap (heap_lt hA_z2) (show ¬ A0 = X0 by omega)).trans hA_z2
           have hR_z3 : z3.heap[R0]? = some (.cells #[.int .i64 0, .bool false, .bool false, .bool false, .bool false, .bool false, .bool false, .int .i64 0, .int .u64 0, .int .u32 0, .int .u64 0, .int .u16 0, .int .u16 0, .int .i64 0, .int .i64 0, .int .i64 0, .int .i64 0] 30 (0, 0)) := (hm.heap (heap_lt hR_z2) (show ¬ R0 = X0 by omega)).trans hR_z2
           have E_z3 : Ext w0 z3 := Ext.mutE E_z2 hm (fun n hn h => by have h2 : n = X0 := h; omega)
           have rA0_z3 : z3.cell? ⟨A0, 0, none⟩ = some (.int .i64 q.kd) := (cell_of_row _ _ _ _ _ _ hA_z3).trans rfl
           clear hA_z2 hR_z2 hX_z2 E_z2 rA0_z2
           clear hq hm)
        | ((with_reducible refine at_store 24 ?_); refine st_at rfl rfl 24 _ _ rfl X0 12 _ #[.int .u16 0] _ #[.int .i64 fq.kd, .bool fq.ch, .bool fq.ak, .bool fq.pr, .bool fq.ag, .bool fq.ln, .bool fq.fw, .int .i64 fq.ro, .int .u64 q.r, .int .u32 q.c, .int .u64 q.b, .int .u16 q.p, .int .u16 0, .int .i64 fq.a, .int .i64 fq.m, .int .i64 fq.h, .int .i64 fq.d] _ rfl rfl rfl hX_z3 (by exact (by decide : 12 + 1 ≤ 17)) (by kernel_rfl) rfl rfl ?_
           intro z4 hq hm
           have hX_z4 : z4.heap[X0]? = some (.cells #[.int .i64 fq.kd, .bool fq.ch, .bool fq.ak, .bool fq.pr, .bool fq.ag, .bool fq.ln, .bool fq.fw, .int .i64 fq.ro, .int .u64 q.r, .int .u32 q.c, .int .u64 q.b, .int .u16 q.p, .int .u16 0, .int .i64 fq.a, .int .i64 fq.m, .int .i64 fq.h, .int .i64 fq.d] 30 (0, 0)) := hq
           have hA_z4 : z4.heap[A0]? = some (.cells #[.int .i64 q.kd, .bool q.ch, .bool q.ak, .bool q.pr, .bool q.ag, .bool q.ln, .bool q.fw, .int .i64 q.ro, .int .u64 q.r, .int .u32 q.c, .int .u64 q.b, .int .u16 q.p, .int .u16 q.x, .int .i64 q.a, .int .i64 q.m, .int .i64 q.h, .int .i64 q.d] 30 (0, 0)) := (hm.heap (heap_lt hA_z3) (show ¬ A0 = X0 by omega)).trans hA_z3
           have hR_z4 : z4.heap[R0]? = some (.cells #[.int .i64 0, .bool false, .bool false, .bool false, .bool false, .bool false, .bool false, .int .i64 0, .int .u64 0, .int .u32 0, .int .u64 0, .int .u16 0, .int .u16 0, .int .i64 0, .int .i64 0, .int .i64 0, .int .i64 0] 30 (0, 0)) := (hm.heap (heap_lt hR_z3) (show ¬ R0 = X0 by omega)).trans hR_z3
           have E_z4 : Ext w0 z4 := Ext.mutE E_z3 hm (fun n hn h => by have h2 : n = X0 := h; omega)
           have rA0_z4 : z4.cell? ⟨A0, 0, none⟩ = some (.int .i64 q.kd) := (cell_of_row _ _ _ _ _ _ hA_z4).trans rfl
           clear hA_z3 hR_z3 hX_z3 E_z3 rA0_z3
           clear hq hm))
      refine beginL (S := fun W' => Mut (fun n => n = X0) z4 W') (by kernel_rfl) ?_
      intro wd hqx
      have hq0 : Mut (fun n => n = X0) z4 wd := hqx.mut _
      have hxr := (hqx.block _ (heap_lt hX_z4)).trans hX_z4
      refine takeL (i := 0) (v := (.pointer (some ⟨A0, 13, none⟩))) rfl (by kernel_rfl) (by kernel_rfl) (by kernel_rfl) (fun _ _ _ h => h) (Or.inl ⟨rfl, fun _ _ => rfl⟩) hq0 ?_
      simp only [Act.put, List.setIfInBounds_toArray, List.set_cons_zero, List.set_cons_succ]
      refine takeL (i := 1) (v := (.pointer (some ⟨A0, 13, none⟩))) rfl (by kernel_rfl) (by kernel_rfl) (by kernel_rfl) (fun _ _ _ h => h) (Or.inl ⟨rfl, fun _ _ => rfl⟩) hq0 ?_
      simp only [Act.put, List.setIfInBounds_toArray, List.set_cons_zero, List.set_cons_succ]
      refine takeL (i := 2) (v := _) rfl (by kernel_rfl) (by kernel_rfl) (by kernel_rfl) (fun _ _ _ h => h) (yieldsIf_cell rfl 3 _ rfl ⟨A0, 13, none⟩ rfl (.int .i64 q.a) _ (fun W' hW' => (cell_of_row _ _ _ _ _ _ ((hW'.heap (heap_lt hA_z4) (show ¬ A0 = X0 by omega)).trans hA_z4)).trans rfl) Try.underlying3 rfl) hq0 ?_
      simp only [Act.put, List.setIfInBounds_toArray, List.set_cons_zero, List.set_cons_succ]
      refine takeL (i := 4) (v := (.pointer (some ⟨A0, 13, none⟩))) rfl (by kernel_rfl) (by kernel_rfl) (by kernel_rfl) (fun _ _ _ h => h) (Or.inl ⟨rfl, fun _ _ => rfl⟩) hq0 ?_
      simp only [Act.put, List.setIfInBounds_toArray, List.set_cons_zero, List.set_cons_succ]
      refine takeL (i := 5) (v := (.pointer (some ⟨A0, 14, none⟩))) rfl (by kernel_rfl) (by kernel_rfl) (by kernel_rfl) (fun _ _ _ h => h) (Or.inl ⟨rfl, fun _ _ => rfl⟩) hq0 ?_
      simp only [Act.put, List.setIfInBounds_toArray, List.set_cons_zero, List.set_cons_succ]
      refine takeL (i := 6) (v := _) rfl (by kernel_rfl) (by kernel_rfl) (by kernel_rfl) (fun _ _ _ h => h) (yieldsIf_cell rfl 3 _ rfl ⟨A0, 14, none⟩ rfl (.int .i64 q.m) _ (fun W' hW' => (cell_of_row _ _ _ _ _ _ ((hW'.heap (heap_lt hA_z4) (show ¬ A0 = X0 by omega)).trans hA_z4)).trans rfl) Try.underlying3 rfl) hq0 ?_
      simp only [Act.put, List.setIfInBounds_toArray, List.set_cons_zero, List.set_cons_succ]
      refine takeL (i := 8) (v := (.pointer (some ⟨A0, 13, none⟩))) rfl (by kernel_rfl) (by kernel_rfl) (by kernel_rfl) (fun _ _ _ h => h) (Or.inl ⟨rfl, fun _ _ => rfl⟩) hq0 ?_
      simp only [Act.put, List.setIfInBounds_toArray, List.set_cons_zero, List.set_cons_succ]
      refine takeL (i := 9) (v := (.pointer (some ⟨A0, 15, none⟩))) rfl (by kernel_rfl) (by kernel_rfl) (by kernel_rfl) (fun _ _ _ h => h) (Or.inl ⟨rfl, fun _ _ => rfl⟩) hq0 ?_
      simp only [Act.put, List.setIfInBounds_toArray, List.set_cons_zero, List.set_cons_succ]
      refine takeL (i := 10) (v := _) rfl (by kernel_rfl) (by kernel_rfl) (by kernel_rfl) (fun _ _ _ h => h) (yieldsIf_cell rfl 3 _ rfl ⟨A0, 15, none⟩ rfl (.int .i64 q.h) _ (fun W' hW' => (cell_of_row _ _ _ _ _ _ ((hW'.heap (heap_lt hA_z4) (show ¬ A0 = X0 by omega)).trans hA_z4)).trans rfl) Try.underlying3 rfl) hq0 ?_
      simp only [Act.put, List.setIfInBounds_toArray, List.set_cons_zero, List.set_cons_succ]
      refine takeL (i := 12) (v := (.pointer (some ⟨A0, 13, none⟩))) rfl (by kernel_rfl) (by kernel_rfl) (by kernel_rfl) (fun _ _ _ h => h) (Or.inl ⟨rfl, fun _ _ => rfl⟩) hq0 ?_
      simp only [Act.put, List.setIfInBounds_toArray, List.set_cons_zero, List.set_cons_succ]
      refine takeL (i := 13) (v := (.pointer (some ⟨A0, 16, none⟩))) rfl (by kernel_rfl) (by kernel_rfl) (by kernel_rfl) (fun _ _ _ h => h) (Or.inl ⟨rfl, fun _ _ => rfl⟩) hq0 ?_
      simp only [Act.put, List.setIfInBounds_toArray, List.set_cons_zero, List.set_cons_succ]
      refine takeL (i := 14) (v := _) rfl (by kernel_rfl) (by kernel_rfl) (by kernel_rfl) (fun _ _ _ h => h) (yieldsIf_cell rfl 3 _ rfl ⟨A0, 16, none⟩ rfl (.int .i64 q.d) _ (fun W' hW' => (cell_of_row _ _ _ _ _ _ ((hW'.heap (heap_lt hA_z4) (show ¬ A0 = X0 by omega)).trans hA_z4)).trans rfl) Try.underlying3 rfl) hq0 ?_
      simp only [Act.put, List.setIfInBounds_toArray, List.set_cons_zero, List.set_cons_succ]
      refine runL (i := 3) rfl rfl (by kernel_rfl) (fun K hK => ?_)
      go_simp
      refine (toExt (told_q q.a _)).mono ?_
      rintro e wc1 ⟨rfl, hx⟩
      have hq1 := hq0.trans (hx.mut _)
      have hxr := (hx.block _ (heap_lt hxr)).trans hxr
      refine hK.out _ _ hq1 (fun hHeld => ?_)
      try simp only [Act.put, List.setIfInBounds_toArray, List.set_cons_zero, List.set_cons_succ]
      clear hK K hHeld
      refine runL (i := 7) rfl rfl (by kernel_rfl) (fun K hK => ?_)
      go_simp
      refine (toExt (told_q q.m _)).mono ?_
      rintro e wc2 ⟨rfl, hx⟩
      have hq2 := hq1.trans (hx.mut _)
      have hxr := (hx.block _ (heap_lt hxr)).trans hxr
      refine hK.out _ _ hq2 (fun hHeld => ?_)
      try simp only [Act.put, List.setIfInBounds_toArray, List.set_cons_zero, List.set_cons_succ]
      clear hK K hHeld
      refine runL (i := 11) rfl rfl (by kernel_rfl) (fun K hK => ?_)
      go_simp
      refine (toExt (told_q q.h _)).mono ?_
      rintro e wc3 ⟨rfl, hx⟩
      have hq3 := hq2.trans (hx.mut _)
      have hxr := (hx.block _ (heap_lt hxr)).trans hxr
      refine hK.out _ _ hq3 (fun hHeld => ?_)
      try simp only [Act.put, List.setIfInBounds_toArray, List.set_cons_zero, List.set_cons_succ]
      clear hK K hHeld
      refine runL (i := 15) rfl rfl (by kernel_rfl) (fun K hK => ?_)
      go_simp
      refine (toExt (told_q q.d _)).mono ?_
      rintro e wc4 ⟨rfl, hx⟩
      have hq4 := hq3.trans (hx.mut _)
      have hxr := (hx.block _ (heap_lt hxr)).trans hxr
      refine hK.out _ _ hq4 (fun hHeld => ?_)
      try simp only [Act.put, List.setIfInBounds_toArray, List.set_cons_zero, List.set_cons_succ]
      clear hK K hHeld
      refine takeL (i := 16) (v := (.agg #[.int .i64 (told q.a), .int .i64 (told q.m), .int .i64 (told q.h), .int .i64 (told q.d)])) rfl (by kernel_rfl) (by kernel_rfl) (by kernel_rfl) (fun _ _ _ h => h) (yieldsIf_build rfl 28 _ rfl [(0, .int .i64 (told q.a)), (1, .int .i64 (told q.m)), (2, .int .i64 (told q.h)), (3, .int .i64 (told q.d))] rfl #[.int .i64 (told q.a), .int .i64 (told q.m), .int .i64 (told q.h), .int .i64 (told q.d)] (times_b _ _ _ _)) hq4 ?_
      simp only [Act.put, List.setIfInBounds_toArray, List.set_cons_zero, List.set_cons_succ]
      refine takeL (i := 17) (v := (.pointer (some ⟨X0, 13, none⟩))) rfl (by kernel_rfl) (by kernel_rfl) (by kernel_rfl) (fun _ _ _ h => h) (Or.inl ⟨rfl, fun _ _ => rfl⟩) hq4 ?_
      simp only [Act.put, List.setIfInBounds_toArray, List.set_cons_zero, List.set_cons_succ]
      refine runL (i := 18) rfl rfl (by kernel_rfl) (fun K hK => ?_)
      refine wp_st_at rfl 28 _ _ rfl X0 13 _ #[.int .i64 (told q.a), .int .i64 (told q.m), .int .i64 (told q.h), .int .i64 (told q.d)] _ #[.int .i64 fq.kd, .bool fq.ch, .bool fq.ak, .bool fq.pr, .bool fq.ag, .bool fq.ln, .bool fq.fw, .int .i64 fq.ro, .int .u64 q.r, .int .u32 q.c, .int .u64 q.b, .int .u16 q.p, .int .u16 0, .int .i64 (told q.a), .int .i64 (told q.m), .int .i64 (told q.h), .int .i64 (told q.d)] _ rfl rfl rfl hxr (by exact (by decide : 13 + 4 ≤ 17)) (by kernel_rfl) rfl rfl (fun ws18 hrow18 hm => ?_)
      have hq5 : Mut (fun n => n = X0) z4 ws18 := Mut.trans hq4 hm
      clear hm
      refine hK.out _ _ hq5 (fun hHeld => ?_)
      try simp only [Act.put, List.setIfInBounds_toArray, List.set_cons_zero, List.set_cons_succ]
      clear hK K hHeld
      refine wpAnyH_done (by kernel_rfl) ?_ _
      generalize ws18 = z5 at *
      have hA_z5 : z5.heap[A0]? = some (.cells #[.int .i64 q.kd, .bool q.ch, .bool q.ak, .bool q.pr, .bool q.ag, .bool q.ln, .bool q.fw, .int .i64 q.ro, .int .u64 q.r, .int .u32 q.c, .int .u64 q.b, .int .u16 q.p, .int .u16 q.x, .int .i64 q.a, .int .i64 q.m, .int .i64 q.h, .int .i64 q.d] 30 (0, 0)) := (hq5.heap (heap_lt hA_z4) (show ¬ A0 = X0 by omega)).trans hA_z4
      have hR_z5 : z5.heap[R0]? = some (.cells #[.int .i64 0, .bool false, .bool false, .bool false, .bool false, .bool false, .bool false, .int .i64 0, .int .u64 0, .int .u32 0, .int .u64 0, .int .u16 0, .int .u16 0, .int .i64 0, .int .i64 0, .int .i64 0, .int .i64 0] 30 (0, 0)) := (hq5.heap (heap_lt hR_z4) (show ¬ R0 = X0 by omega)).trans hR_z4
      have E_z5 : Ext w0 z5 := Ext.mutE E_z4 hq5 (fun n hn h => by have h2 : n = X0 := h; omega)
      have hX_z5 : z5.heap[X0]? = some (.cells #[.int .i64 fq.kd, .bool fq.ch, .bool fq.ak, .bool fq.pr, .bool fq.ag, .bool fq.ln, .bool fq.fw, .int .i64 fq.ro, .int .u64 q.r, .int .u32 q.c, .int .u64 q.b, .int .u16 q.p, .int .u16 0, .int .i64 (told q.a), .int .i64 (told q.m), .int .i64 (told q.h), .int .i64 (told q.d)] 30 (0, 0)) := hrow18
      have rA0_z5 : z5.cell? ⟨A0, 0, none⟩ = some (.int .i64 q.kd) := (cell_of_row _ _ _ _ _ _ hA_z5).trans rfl
      clear hA_z4 hR_z4 hX_z4 E_z4 rA0_z4
      clear hq0 hq1 hq2 hq3 hq4 hq5
      go_wp2_with (first
        | fail
        | ((with_reducible refine at_load 30 ?_); refine wpList_load_row rfl 30 _ rfl X0 rfl 30 #[.int .i64 fq.kd, .bool fq.ch, .bool fq.ak, .bool fq.pr, .bool fq.ag, .bool fq.ln, .bool fq.fw, .int .i64 fq.ro, .int .u64 q.r, .int .u32 q.c, .int .u64 q.b, .int .u16 q.p, .int .u16 0, .int .i64 (told q.a), .int .i64 (told q.m), .int .i64 (told q.h), .int .i64 (told q.d)] (0, 0) _ hX_z5 Try.underlying30 rfl (by kernel_rfl) ?_)
        | ((with_reducible refine at_store 30 ?_); refine st_at rfl rfl 30 _ _ rfl R0 0 _ #[.int .i64 fq.kd, .bool fq.ch, .bool fq.ak, .bool fq.pr, .bool fq.ag, .bool fq.ln, .bool fq.fw, .int .i64 fq.ro, .int .u64 q.r, .int .u32 q.c, .int .u64 q.b, .int .u16 q.p, .int .u16 0, .int .i64 (told q.a), .int .i64 (told q.m), .int .i64 (told q.h), .int .i64 (told q.d)] _ #[.int .i64 fq.kd, .bool fq.ch, .bool fq.ak, .bool fq.pr, .bool fq.ag, .bool fq.ln, .bool fq.fw, .int .i64 fq.ro, .int .u64 q.r, .int .u32 q.c, .int .u64 q.b, .int .u16 q.p, .int .u16 0, .int .i64 (told q.a), .int .i64 (told q.m), .int .i64 (told q.h), .int .i64 (told q.d)] _ rfl rfl rfl hR_z5 (by exact (by decide : 0 + 17 ≤ 17)) (by kernel_rfl) rfl rfl ?_
           intro z6 hq hm
           have hR_z6 : z6.heap[R0]? = some (.cells #[.int .i64 fq.kd, .bool fq.ch, .bool fq.ak, .bool fq.pr, .bool fq.ag, .bool fq.ln, .bool fq.fw, .int .i64 fq.ro, .int .u64 q.r, .int .u32 q.c, .int .u64 q.b, .int .u16 q.p, .int .u16 0, .int .i64 (told q.a), .int .i64 (told q.m), .int .i64 (told q.h), .int .i64 (told q.d)] 30 (0, 0)) := hq
           have hA_z6 : z6.heap[A0]? = some (.cells #[.int .i64 q.kd, .bool q.ch, .bool q.ak, .bool q.pr, .bool q.ag, .bool q.ln, .bool q.fw, .int .i64 q.ro, .int .u64 q.r, .int .u32 q.c, .int .u64 q.b, .int .u16 q.p, .int .u16 q.x, .int .i64 q.a, .int .i64 q.m, .int .i64 q.h, .int .i64 q.d] 30 (0, 0)) := (hm.heap (heap_lt hA_z5) (show ¬ A0 = R0 by omega)).trans hA_z5
           have hX_z6 : z6.heap[X0]? = some (.cells #[.int .i64 fq.kd, .bool fq.ch, .bool fq.ak, .bool fq.pr, .bool fq.ag, .bool fq.ln, .bool fq.fw, .int .i64 fq.ro, .int .u64 q.r, .int .u32 q.c, .int .u64 q.b, .int .u16 q.p, .int .u16 0, .int .i64 (told q.a), .int .i64 (told q.m), .int .i64 (told q.h), .int .i64 (told q.d)] 30 (0, 0)) := (hm.heap (heap_lt hX_z5) (show ¬ X0 = R0 by omega)).trans hX_z5
           have E_z6 : Ext w0 z6 := Ext.mutE E_z5 hm (fun n hn h => by have h2 : n = R0 := h; omega)
           have rA0_z6 : z6.cell? ⟨A0, 0, none⟩ = some (.int .i64 q.kd) := (cell_of_row _ _ _ _ _ _ hA_z6).trans rfl
           clear hA_z5 hR_z5 hX_z5 E_z5 rA0_z5
           clear hq hm))
      refine bodyPost_ret (results_cell_row rfl _ _ _ _ _ (0, 0) _ rfl hR_z6 Try.underlying30 rfl (by kernel_rfl)) rfl ?_
      refine ⟨?_, hE_w0.trans E_z6⟩
      unfold plainM
      rw [if_neg (by have := HK.out; omega), if_pos (by have := HK.out; omega), HF.out]
    · refine wp_al_zero 30 rfl MZ zero_msg (fun X0 wa5 hrow5 hsz5 hx => ?_)
      have hq2 := hq1.trans hx
      have hlo5 : z1.heap.size ≤ X0 := by have := hq1.size; omega
      clear hx
      refine hK.out _ _ hq2 (fun hHeld => ?_)
      try simp only [Act.put, List.setIfInBounds_toArray, List.set_cons_zero, List.set_cons_succ]
      clear hK K hHeld
      refine runL (i := 4) rfl rfl (by kernel_rfl) (fun K hK => ?_)
      go_simp
      refine (HG.out _).mono ?_
      rintro e wc3 ⟨rfl, hx⟩
      have hq3 := hq2.trans hx
      have hrow5 := (hx.block _ (heap_lt hrow5)).trans hrow5
      refine hK.out _ _ hq3 (fun hHeld => ?_)
      try simp only [Act.put, List.setIfInBounds_toArray, List.set_cons_zero, List.set_cons_succ]
      clear hK K hHeld
      refine runL (i := 6) rfl rfl (by kernel_rfl) (fun K hK => ?_)
      refine wp_st_at rfl 30 _ _ rfl X0 0 _ #[.int .i64 fq.kd, .bool fq.ch, .bool fq.ak, .bool fq.pr, .bool fq.ag, .bool fq.ln, .bool fq.fw, .int .i64 fq.ro, .int .u64 fq.r, .int .u32 fq.c, .int .u64 fq.b, .int .u16 fq.p, .int .u16 fq.x, .int .i64 fq.a, .int .i64 fq.m, .int .i64 fq.h, .int .i64 fq.d] _ #[.int .i64 fq.kd, .bool fq.ch, .bool fq.ak, .bool fq.pr, .bool fq.ag, .bool fq.ln, .bool fq.fw, .int .i64 fq.ro, .int .u64 fq.r, .int .u32 fq.c, .int .u64 fq.b, .int .u16 fq.p, .int .u16 fq.x, .int .i64 fq.a, .int .i64 fq.m, .int .i64 fq.h, .int .i64 fq.d] _ rfl rfl rfl hrow5 (by exact (by decide : 0 + 17 ≤ 17)) (by kernel_rfl) rfl rfl (fun ws6 hrow6 hm => ?_)
      have hq4 : Ext z1 ws6 := Ext.mutE hq3 hm (fun n hn h => by have h2 : n = X0 := h; omega)
      clear hm
      refine hK.out _ _ hq4 (fun hHeld => ?_)
      try simp only [Act.put, List.setIfInBounds_toArray, List.set_cons_zero, List.set_cons_succ]
      clear hK K hHeld
      refine wpAnyH_done (by kernel_rfl) ?_ _
      generalize ws6 = z2 at *
      have hA_z2 : z2.heap[A0]? = some (.cells #[.int .i64 q.kd, .bool q.ch, .bool q.ak, .bool q.pr, .bool q.ag, .bool q.ln, .bool q.fw, .int .i64 q.ro, .int .u64 q.r, .int .u32 q.c, .int .u64 q.b, .int .u16 q.p, .int .u16 q.x, .int .i64 q.a, .int .i64 q.m, .int .i64 q.h, .int .i64 q.d] 30 (0, 0)) := (hq4.block _ (heap_lt hA_z1)).trans hA_z1
      have hR_z2 : z2.heap[R0]? = some (.cells #[.int .i64 0, .bool false, .bool false, .bool false, .bool false, .bool false, .bool false, .int .i64 0, .int .u64 0, .int .u32 0, .int .u64 0, .int .u16 0, .int .u16 0, .int .i64 0, .int .i64 0, .int .i64 0, .int .i64 0] 30 (0, 0)) := (hq4.block _ (heap_lt hR_z1)).trans hR_z1
      have E_z2 : Ext w0 z2 := E_z1.trans hq4
      have hX_z2 : z2.heap[X0]? = some (.cells #[.int .i64 fq.kd, .bool fq.ch, .bool fq.ak, .bool fq.pr, .bool fq.ag, .bool fq.ln, .bool fq.fw, .int .i64 fq.ro, .int .u64 fq.r, .int .u32 fq.c, .int .u64 fq.b, .int .u16 fq.p, .int .u16 fq.x, .int .i64 fq.a, .int .i64 fq.m, .int .i64 fq.h, .int .i64 fq.d] 30 (0, 0)) := hrow6
      have hb_X0 : w0.heap.size ≤ X0 := by have h1 := E_z1.size; have h2 := hlo5; omega
      have hn_A0X0 : A0 ≠ X0 := by have h1 := heap_lt hA_z1; have h2 := hlo5; omega
      have hn_R0X0 : R0 ≠ X0 := by have h1 := heap_lt hR_z1; have h2 := hlo5; omega
      have rA0_z2 : z2.cell? ⟨A0, 0, none⟩ = some (.int .i64 q.kd) := (cell_of_row _ _ _ _ _ _ hA_z2).trans rfl
      clear hA_z1 hR_z1 E_z1 rA0_z1
      clear hq0 hq1 hq2 hq3 hq4
      go_wp2_with (first
        | fail
        | ((with_reducible refine at_load 26 ?_); refine wpList_load_mid rfl 26 _ rfl A0 8 rfl [.int .u64 q.r, .int .u32 q.c, .int .u64 q.b, .int .u16 q.p, .int .u16 q.x] _ (row_range hA_z2 8 (by rfl)) Try.underlying26 rfl (by kernel_rfl) ?_)
        | ((with_reducible refine at_store 26 ?_); refine st_at rfl rfl 26 _ _ rfl X0 8 _ #[.int .u64 q.r, .int .u32 q.c, .int .u64 q.b, .int .u16 q.p, .int .u16 q.x] _ #[.int .i64 fq.kd, .bool fq.ch, .bool fq.ak, .bool fq.pr, .bool fq.ag, .bool fq.ln, .bool fq.fw, .int .i64 fq.ro, .int .u64 q.r, .int .u32 q.c, .int .u64 q.b, .int .u16 q.p, .int .u16 q.x, .int .i64 fq.a, .int .i64 fq.m, .int .i64 fq.h, .int .i64 fq.d] _ rfl rfl rfl hX_z2 (by exact (by decide : 8 + 5 ≤ 17)) (by kernel_rfl) rfl rfl ?_
           intro z3 hq hm
           have hX_z3 : z3.heap[X0]? = some (.cells #[.int .i64 fq.kd, .bool fq.ch, .bool fq.ak, .bool fq.pr, .bool fq.ag, .bool fq.ln, .bool fq.fw, .int .i64 fq.ro, .int .u64 q.r, .int .u32 q.c, .int .u64 q.b, .int .u16 q.p, .int .u16 q.x, .int .i64 fq.a, .int .i64 fq.m, .int .i64 fq.h, .int .i64 fq.d] 30 (0, 0)) := hq
           have hA_z3 : z3.heap[A0]? = some (.cells #[.int .i64 q.kd, .bool q.ch, .bool q.ak, .bool q.pr, .bool q.ag, .bool q.ln, .bool q.fw, .int .i64 q.ro, .int .u64 q.r, .int .u32 q.c, .int .u64 q.b, .int .u16 q.p, .int .u16 q.x, .int .i64 q.a, .int .i64 q.m, .int .i64 q.h, .int .i64 q.d] 30 (0, 0)) := (hm.heap (heap_lt hA_z2) (show ¬ A0 = X0 by omega)).trans hA_z2
           have hR_z3 : z3.heap[R0]? = some (.cells #[.int .i64 0, .bool false, .bool false, .bool false, .bool false, .bool false, .bool false, .int .i64 0, .int .u64 0, .int .u32 0, .int .u64 0, .int .u16 0, .int .u16 0, .int .i64 0, .int .i64 0, .int .i64 0, .int .i64 0] 30 (0, 0)) := (hm.heap (heap_lt hR_z2) (show ¬ R0 = X0 by omega)).trans hR_z2
           have E_z3 : Ext w0 z3 := Ext.mutE E_z2 hm (fun n hn h => by have h2 : n = X0 := h; omega)
           have rA0_z3 : z3.cell? ⟨A0, 0, none⟩ = some (.int .i64 q.kd) := (cell_of_row _ _ _ _ _ _ hA_z3).trans rfl
           clear hA_z2 hR_z2 hX_z2 E_z2 rA0_z2
           clear hq hm)
        | ((with_reducible refine at_store 24 ?_); refine st_at rfl rfl 24 _ _ rfl X0 12 _ #[.int .u16 0] _ #[.int .i64 fq.kd, .bool fq.ch, .bool fq.ak, .bool fq.pr, .bool fq.ag, .bool fq.ln, .bool fq.fw, .int .i64 fq.ro, .int .u64 q.r, .int .u32 q.c, .int .u64 q.b, .int .u16 q.p, .int .u16 0, .int .i64 fq.a, .int .i64 fq.m, .int .i64 fq.h, .int .i64 fq.d] _ rfl rfl rfl hX_z3 (by exact (by decide : 12 + 1 ≤ 17)) (by kernel_rfl) rfl rfl ?_
           intro z4 hq hm
           have hX_z4 : z4.heap[X0]? = some (.cells #[.int .i64 fq.kd, .bool fq.ch, .bool fq.ak, .bool fq.pr, .bool fq.ag, .bool fq.ln, .bool fq.fw, .int .i64 fq.ro, .int .u64 q.r, .int .u32 q.c, .int .u64 q.b, .int .u16 q.p, .int .u16 0, .int .i64 fq.a, .int .i64 fq.m, .int .i64 fq.h, .int .i64 fq.d] 30 (0, 0)) := hq
           have hA_z4 : z4.heap[A0]? = some (.cells #[.int .i64 q.kd, .bool q.ch, .bool q.ak, .bool q.pr, .bool q.ag, .bool q.ln, .bool q.fw, .int .i64 q.ro, .int .u64 q.r, .int .u32 q.c, .int .u64 q.b, .int .u16 q.p, .int .u16 q.x, .int .i64 q.a, .int .i64 q.m, .int .i64 q.h, .int .i64 q.d] 30 (0, 0)) := (hm.heap (heap_lt hA_z3) (show ¬ A0 = X0 by omega)).trans hA_z3
           have hR_z4 : z4.heap[R0]? = some (.cells #[.int .i64 0, .bool false, .bool false, .bool false, .bool false, .bool false, .bool false, .int .i64 0, .int .u64 0, .int .u32 0, .int .u64 0, .int .u16 0, .int .u16 0, .int .i64 0, .int .i64 0, .int .i64 0, .int .i64 0] 30 (0, 0)) := (hm.heap (heap_lt hR_z3) (show ¬ R0 = X0 by omega)).trans hR_z3
           have E_z4 : Ext w0 z4 := Ext.mutE E_z3 hm (fun n hn h => by have h2 : n = X0 := h; omega)
           have rA0_z4 : z4.cell? ⟨A0, 0, none⟩ = some (.int .i64 q.kd) := (cell_of_row _ _ _ _ _ _ hA_z4).trans rfl
           clear hA_z3 hR_z3 hX_z3 E_z3 rA0_z3
           clear hq hm))
      refine beginL (S := fun W' => Mut (fun n => n = X0) z4 W') (by kernel_rfl) ?_
      intro wd hqx
      have hq0 : Mut (fun n => n = X0) z4 wd := hqx.mut _
      have hxr := (hqx.block _ (heap_lt hX_z4)).trans hX_z4
      refine takeL (i := 0) (v := (.pointer (some ⟨A0, 13, none⟩))) rfl (by kernel_rfl) (by kernel_rfl) (by kernel_rfl) (fun _ _ _ h => h) (Or.inl ⟨rfl, fun _ _ => rfl⟩) hq0 ?_
      simp only [Act.put, List.setIfInBounds_toArray, List.set_cons_zero, List.set_cons_succ]
      refine takeL (i := 1) (v := (.pointer (some ⟨A0, 13, none⟩))) rfl (by kernel_rfl) (by kernel_rfl) (by kernel_rfl) (fun _ _ _ h => h) (Or.inl ⟨rfl, fun _ _ => rfl⟩) hq0 ?_
      simp only [Act.put, List.setIfInBounds_toArray, List.set_cons_zero, List.set_cons_succ]
      refine takeL (i := 2) (v := _) rfl (by kernel_rfl) (by kernel_rfl) (by kernel_rfl) (fun _ _ _ h => h) (yieldsIf_cell rfl 3 _ rfl ⟨A0, 13, none⟩ rfl (.int .i64 q.a) _ (fun W' hW' => (cell_of_row _ _ _ _ _ _ ((hW'.heap (heap_lt hA_z4) (show ¬ A0 = X0 by omega)).trans hA_z4)).trans rfl) Try.underlying3 rfl) hq0 ?_
      simp only [Act.put, List.setIfInBounds_toArray, List.set_cons_zero, List.set_cons_succ]
      refine takeL (i := 4) (v := (.pointer (some ⟨A0, 13, none⟩))) rfl (by kernel_rfl) (by kernel_rfl) (by kernel_rfl) (fun _ _ _ h => h) (Or.inl ⟨rfl, fun _ _ => rfl⟩) hq0 ?_
      simp only [Act.put, List.setIfInBounds_toArray, List.set_cons_zero, List.set_cons_succ]
      refine takeL (i := 5) (v := (.pointer (some ⟨A0, 14, none⟩))) rfl (by kernel_rfl) (by kernel_rfl) (by kernel_rfl) (fun _ _ _ h => h) (Or.inl ⟨rfl, fun _ _ => rfl⟩) hq0 ?_
      simp only [Act.put, List.setIfInBounds_toArray, List.set_cons_zero, List.set_cons_succ]
      refine takeL (i := 6) (v := _) rfl (by kernel_rfl) (by kernel_rfl) (by kernel_rfl) (fun _ _ _ h => h) (yieldsIf_cell rfl 3 _ rfl ⟨A0, 14, none⟩ rfl (.int .i64 q.m) _ (fun W' hW' => (cell_of_row _ _ _ _ _ _ ((hW'.heap (heap_lt hA_z4) (show ¬ A0 = X0 by omega)).trans hA_z4)).trans rfl) Try.underlying3 rfl) hq0 ?_
      simp only [Act.put, List.setIfInBounds_toArray, List.set_cons_zero, List.set_cons_succ]
      refine takeL (i := 8) (v := (.pointer (some ⟨A0, 13, none⟩))) rfl (by kernel_rfl) (by kernel_rfl) (by kernel_rfl) (fun _ _ _ h => h) (Or.inl ⟨rfl, fun _ _ => rfl⟩) hq0 ?_
      simp only [Act.put, List.setIfInBounds_toArray, List.set_cons_zero, List.set_cons_succ]
      refine takeL (i := 9) (v := (.pointer (some ⟨A0, 15, none⟩))) rfl (by kernel_rfl) (by kernel_rfl) (by kernel_rfl) (fun _ _ _ h => h) (Or.inl ⟨rfl, fun _ _ => rfl⟩) hq0 ?_
      simp only [Act.put, List.setIfInBounds_toArray, List.set_cons_zero, List.set_cons_succ]
      refine takeL (i := 10) (v := _) rfl (by kernel_rfl) (by kernel_rfl) (by kernel_rfl) (fun _ _ _ h => h) (yieldsIf_cell rfl 3 _ rfl ⟨A0, 15, none⟩ rfl (.int .i64 q.h) _ (fun W' hW' => (cell_of_row _ _ _ _ _ _ ((hW'.heap (heap_lt hA_z4) (show ¬ A0 = X0 by omega)).trans hA_z4)).trans rfl) Try.underlying3 rfl) hq0 ?_
      simp only [Act.put, List.setIfInBounds_toArray, List.set_cons_zero, List.set_cons_succ]
      refine takeL (i := 12) (v := (.pointer (some ⟨A0, 13, none⟩))) rfl (by kernel_rfl) (by kernel_rfl) (by kernel_rfl) (fun _ _ _ h => h) (Or.inl ⟨rfl, fun _ _ => rfl⟩) hq0 ?_
      simp only [Act.put, List.setIfInBounds_toArray, List.set_cons_zero, List.set_cons_succ]
      refine takeL (i := 13) (v := (.pointer (some ⟨A0, 16, none⟩))) rfl (by kernel_rfl) (by kernel_rfl) (by kernel_rfl) (fun _ _ _ h => h) (Or.inl ⟨rfl, fun _ _ => rfl⟩) hq0 ?_
      simp only [Act.put, List.setIfInBounds_toArray, List.set_cons_zero, List.set_cons_succ]
      refine takeL (i := 14) (v := _) rfl (by kernel_rfl) (by kernel_rfl) (by kernel_rfl) (fun _ _ _ h => h) (yieldsIf_cell rfl 3 _ rfl ⟨A0, 16, none⟩ rfl (.int .i64 q.d) _ (fun W' hW' => (cell_of_row _ _ _ _ _ _ ((hW'.heap (heap_lt hA_z4) (show ¬ A0 = X0 by omega)).trans hA_z4)).trans rfl) Try.underlying3 rfl) hq0 ?_
      simp only [Act.put, List.setIfInBounds_toArray, List.set_cons_zero, List.set_cons_succ]
      refine runL (i := 3) rfl rfl (by kernel_rfl) (fun K hK => ?_)
      go_simp
      refine (toExt (told_q q.a _)).mono ?_
      rintro e wc1 ⟨rfl, hx⟩
      have hq1 := hq0.trans (hx.mut _)
      have hxr := (hx.block _ (heap_lt hxr)).trans hxr
      refine hK.out _ _ hq1 (fun hHeld => ?_)
      try simp only [Act.put, List.setIfInBounds_toArray, List.set_cons_zero, List.set_cons_succ]
      clear hK K hHeld
      refine runL (i := 7) rfl rfl (by kernel_rfl) (fun K hK => ?_)
      go_simp
      refine (toExt (told_q q.m _)).mono ?_
      rintro e wc2 ⟨rfl, hx⟩
      have hq2 := hq1.trans (hx.mut _)
      have hxr := (hx.block _ (heap_lt hxr)).trans hxr
      refine hK.out _ _ hq2 (fun hHeld => ?_)
      try simp only [Act.put, List.setIfInBounds_toArray, List.set_cons_zero, List.set_cons_succ]
      clear hK K hHeld
      refine runL (i := 11) rfl rfl (by kernel_rfl) (fun K hK => ?_)
      go_simp
      refine (toExt (told_q q.h _)).mono ?_
      rintro e wc3 ⟨rfl, hx⟩
      have hq3 := hq2.trans (hx.mut _)
      have hxr := (hx.block _ (heap_lt hxr)).trans hxr
      refine hK.out _ _ hq3 (fun hHeld => ?_)
      try simp only [Act.put, List.setIfInBounds_toArray, List.set_cons_zero, List.set_cons_succ]
      clear hK K hHeld
      refine runL (i := 15) rfl rfl (by kernel_rfl) (fun K hK => ?_)
      go_simp
      refine (toExt (told_q q.d _)).mono ?_
      rintro e wc4 ⟨rfl, hx⟩
      have hq4 := hq3.trans (hx.mut _)
      have hxr := (hx.block _ (heap_lt hxr)).trans hxr
      refine hK.out _ _ hq4 (fun hHeld => ?_)
      try simp only [Act.put, List.setIfInBounds_toArray, List.set_cons_zero, List.set_cons_succ]
      clear hK K hHeld
      refine takeL (i := 16) (v := (.agg #[.int .i64 (told q.a), .int .i64 (told q.m), .int .i64 (told q.h), .int .i64 (told q.d)])) rfl (by kernel_rfl) (by kernel_rfl) (by kernel_rfl) (fun _ _ _ h => h) (yieldsIf_build rfl 28 _ rfl [(0, .int .i64 (told q.a)), (1, .int .i64 (told q.m)), (2, .int .i64 (told q.h)), (3, .int .i64 (told q.d))] rfl #[.int .i64 (told q.a), .int .i64 (told q.m), .int .i64 (told q.h), .int .i64 (told q.d)] (times_b _ _ _ _)) hq4 ?_
      simp only [Act.put, List.setIfInBounds_toArray, List.set_cons_zero, List.set_cons_succ]
      refine takeL (i := 17) (v := (.pointer (some ⟨X0, 13, none⟩))) rfl (by kernel_rfl) (by kernel_rfl) (by kernel_rfl) (fun _ _ _ h => h) (Or.inl ⟨rfl, fun _ _ => rfl⟩) hq4 ?_
      simp only [Act.put, List.setIfInBounds_toArray, List.set_cons_zero, List.set_cons_succ]
      refine runL (i := 18) rfl rfl (by kernel_rfl) (fun K hK => ?_)
      refine wp_st_at rfl 28 _ _ rfl X0 13 _ #[.int .i64 (told q.a), .int .i64 (told q.m), .int .i64 (told q.h), .int .i64 (told q.d)] _ #[.int .i64 fq.kd, .bool fq.ch, .bool fq.ak, .bool fq.pr, .bool fq.ag, .bool fq.ln, .bool fq.fw, .int .i64 fq.ro, .int .u64 q.r, .int .u32 q.c, .int .u64 q.b, .int .u16 q.p, .int .u16 0, .int .i64 (told q.a), .int .i64 (told q.m), .int .i64 (told q.h), .int .i64 (told q.d)] _ rfl rfl rfl hxr (by exact (by decide : 13 + 4 ≤ 17)) (by kernel_rfl) rfl rfl (fun ws18 hrow18 hm => ?_)
      have hq5 : Mut (fun n => n = X0) z4 ws18 := Mut.trans hq4 hm
      clear hm
      refine hK.out _ _ hq5 (fun hHeld => ?_)
      try simp only [Act.put, List.setIfInBounds_toArray, List.set_cons_zero, List.set_cons_succ]
      clear hK K hHeld
      refine wpAnyH_done (by kernel_rfl) ?_ _
      generalize ws18 = z5 at *
      have hA_z5 : z5.heap[A0]? = some (.cells #[.int .i64 q.kd, .bool q.ch, .bool q.ak, .bool q.pr, .bool q.ag, .bool q.ln, .bool q.fw, .int .i64 q.ro, .int .u64 q.r, .int .u32 q.c, .int .u64 q.b, .int .u16 q.p, .int .u16 q.x, .int .i64 q.a, .int .i64 q.m, .int .i64 q.h, .int .i64 q.d] 30 (0, 0)) := (hq5.heap (heap_lt hA_z4) (show ¬ A0 = X0 by omega)).trans hA_z4
      have hR_z5 : z5.heap[R0]? = some (.cells #[.int .i64 0, .bool false, .bool false, .bool false, .bool false, .bool false, .bool false, .int .i64 0, .int .u64 0, .int .u32 0, .int .u64 0, .int .u16 0, .int .u16 0, .int .i64 0, .int .i64 0, .int .i64 0, .int .i64 0] 30 (0, 0)) := (hq5.heap (heap_lt hR_z4) (show ¬ R0 = X0 by omega)).trans hR_z4
      have E_z5 : Ext w0 z5 := Ext.mutE E_z4 hq5 (fun n hn h => by have h2 : n = X0 := h; omega)
      have hX_z5 : z5.heap[X0]? = some (.cells #[.int .i64 fq.kd, .bool fq.ch, .bool fq.ak, .bool fq.pr, .bool fq.ag, .bool fq.ln, .bool fq.fw, .int .i64 fq.ro, .int .u64 q.r, .int .u32 q.c, .int .u64 q.b, .int .u16 q.p, .int .u16 0, .int .i64 (told q.a), .int .i64 (told q.m), .int .i64 (told q.h), .int .i64 (told q.d)] 30 (0, 0)) := hrow18
      have rA0_z5 : z5.cell? ⟨A0, 0, none⟩ = some (.int .i64 q.kd) := (cell_of_row _ _ _ _ _ _ hA_z5).trans rfl
      clear hA_z4 hR_z4 hX_z4 E_z4 rA0_z4
      clear hq0 hq1 hq2 hq3 hq4 hq5
      go_wp2_with (first
        | fail
        | ((with_reducible refine at_load 30 ?_); refine wpList_load_row rfl 30 _ rfl X0 rfl 30 #[.int .i64 fq.kd, .bool fq.ch, .bool fq.ak, .bool fq.pr, .bool fq.ag, .bool fq.ln, .bool fq.fw, .int .i64 fq.ro, .int .u64 q.r, .int .u32 q.c, .int .u64 q.b, .int .u16 q.p, .int .u16 0, .int .i64 (told q.a), .int .i64 (told q.m), .int .i64 (told q.h), .int .i64 (told q.d)] (0, 0) _ hX_z5 Try.underlying30 rfl (by kernel_rfl) ?_)
        | ((with_reducible refine at_store 30 ?_); refine st_at rfl rfl 30 _ _ rfl R0 0 _ #[.int .i64 fq.kd, .bool fq.ch, .bool fq.ak, .bool fq.pr, .bool fq.ag, .bool fq.ln, .bool fq.fw, .int .i64 fq.ro, .int .u64 q.r, .int .u32 q.c, .int .u64 q.b, .int .u16 q.p, .int .u16 0, .int .i64 (told q.a), .int .i64 (told q.m), .int .i64 (told q.h), .int .i64 (told q.d)] _ #[.int .i64 fq.kd, .bool fq.ch, .bool fq.ak, .bool fq.pr, .bool fq.ag, .bool fq.ln, .bool fq.fw, .int .i64 fq.ro, .int .u64 q.r, .int .u32 q.c, .int .u64 q.b, .int .u16 q.p, .int .u16 0, .int .i64 (told q.a), .int .i64 (told q.m), .int .i64 (told q.h), .int .i64 (told q.d)] _ rfl rfl rfl hR_z5 (by exact (by decide : 0 + 17 ≤ 17)) (by kernel_rfl) rfl rfl ?_
           intro z6 hq hm
           have hR_z6 : z6.heap[R0]? = some (.cells #[.int .i64 fq.kd, .bool fq.ch, .bool fq.ak, .bool fq.pr, .bool fq.ag, .bool fq.ln, .bool fq.fw, .int .i64 fq.ro, .int .u64 q.r, .int .u32 q.c, .int .u64 q.b, .int .u16 q.p, .int .u16 0, .int .i64 (told q.a), .int .i64 (told q.m), .int .i64 (told q.h), .int .i64 (told q.d)] 30 (0, 0)) := hq
           have hA_z6 : z6.heap[A0]? = some (.cells #[.int .i64 q.kd, .bool q.ch, .bool q.ak, .bool q.pr, .bool q.ag, .bool q.ln, .bool q.fw, .int .i64 q.ro, .int .u64 q.r, .int .u32 q.c, .int .u64 q.b, .int .u16 q.p, .int .u16 q.x, .int .i64 q.a, .int .i64 q.m, .int .i64 q.h, .int .i64 q.d] 30 (0, 0)) := (hm.heap (heap_lt hA_z5) (show ¬ A0 = R0 by omega)).trans hA_z5
           have hX_z6 : z6.heap[X0]? = some (.cells #[.int .i64 fq.kd, .bool fq.ch, .bool fq.ak, .bool fq.pr, .bool fq.ag, .bool fq.ln, .bool fq.fw, .int .i64 fq.ro, .int .u64 q.r, .int .u32 q.c, .int .u64 q.b, .int .u16 q.p, .int .u16 0, .int .i64 (told q.a), .int .i64 (told q.m), .int .i64 (told q.h), .int .i64 (told q.d)] 30 (0, 0)) := (hm.heap (heap_lt hX_z5) (show ¬ X0 = R0 by omega)).trans hX_z5
           have E_z6 : Ext w0 z6 := Ext.mutE E_z5 hm (fun n hn h => by have h2 : n = R0 := h; omega)
           have rA0_z6 : z6.cell? ⟨A0, 0, none⟩ = some (.int .i64 q.kd) := (cell_of_row _ _ _ _ _ _ hA_z6).trans rfl
           clear hA_z5 hR_z5 hX_z5 E_z5 rA0_z5
           clear hq hm))
      refine bodyPost_ret (results_cell_row rfl _ _ _ _ _ (0, 0) _ rfl hR_z6 Try.underlying30 rfl (by kernel_rfl)) rfl ?_
      refine ⟨?_, hE_w0.trans E_z6⟩
      unfold plainM
      rw [if_neg (by have := HK.out; omega), if_pos (by have := HK.out; omega), HF.out]
  · refine wp_al_zero 30 rfl MZ zero_msg (fun X0 wa5 hrow5 hsz5 hx => ?_)
    have hq1 := hq0.trans hx
    have hlo5 : z1.heap.size ≤ X0 := by have := hq0.size; omega
    clear hx
    refine hK.out _ _ hq1 (fun hHeld => ?_)
    try simp only [Act.put, List.setIfInBounds_toArray, List.set_cons_zero, List.set_cons_succ]
    clear hK K hHeld
    refine runL (i := 3) rfl rfl (by kernel_rfl) (fun K hK => ?_)
    go_simp
    refine (flags_q q _).mono ?_
    rintro e wc2 ⟨rfl, hx⟩
    have hq2 := hq1.trans hx
    have hrow5 := (hx.block _ (heap_lt hrow5)).trans hrow5
    refine hK.out _ _ hq2 (fun hHeld => ?_)
    try simp only [Act.put, List.setIfInBounds_toArray, List.set_cons_zero, List.set_cons_succ]
    clear hK K hHeld
    refine runL (i := 4) rfl rfl (by kernel_rfl) (fun K hK => ?_)
    go_simp
    refine (HG.out _).mono ?_
    rintro e wc3 ⟨rfl, hx⟩
    have hq3 := hq2.trans hx
    have hrow5 := (hx.block _ (heap_lt hrow5)).trans hrow5
    refine hK.out _ _ hq3 (fun hHeld => ?_)
    try simp only [Act.put, List.setIfInBounds_toArray, List.set_cons_zero, List.set_cons_succ]
    clear hK K hHeld
    refine runL (i := 6) rfl rfl (by kernel_rfl) (fun K hK => ?_)
    refine wp_st_at rfl 30 _ _ rfl X0 0 _ #[.int .i64 fq.kd, .bool fq.ch, .bool fq.ak, .bool fq.pr, .bool fq.ag, .bool fq.ln, .bool fq.fw, .int .i64 fq.ro, .int .u64 fq.r, .int .u32 fq.c, .int .u64 fq.b, .int .u16 fq.p, .int .u16 fq.x, .int .i64 fq.a, .int .i64 fq.m, .int .i64 fq.h, .int .i64 fq.d] _ #[.int .i64 fq.kd, .bool fq.ch, .bool fq.ak, .bool fq.pr, .bool fq.ag, .bool fq.ln, .bool fq.fw, .int .i64 fq.ro, .int .u64 fq.r, .int .u32 fq.c, .int .u64 fq.b, .int .u16 fq.p, .int .u16 fq.x, .int .i64 fq.a, .int .i64 fq.m, .int .i64 fq.h, .int .i64 fq.d] _ rfl rfl rfl hrow5 (by exact (by decide : 0 + 17 ≤ 17)) (by kernel_rfl) rfl rfl (fun ws6 hrow6 hm => ?_)
    have hq4 : Ext z1 ws6 := Ext.mutE hq3 hm (fun n hn h => by have h2 : n = X0 := h; omega)
    clear hm
    refine hK.out _ _ hq4 (fun hHeld => ?_)
    try simp only [Act.put, List.setIfInBounds_toArray, List.set_cons_zero, List.set_cons_succ]
    clear hK K hHeld
    refine wpAnyH_done (by kernel_rfl) ?_ _
    generalize ws6 = z2 at *
    have hA_z2 : z2.heap[A0]? = some (.cells #[.int .i64 q.kd, .bool q.ch, .bool q.ak, .bool q.pr, .bool q.ag, .bool q.ln, .bool q.fw, .int .i64 q.ro, .int .u64 q.r, .int .u32 q.c, .int .u64 q.b, .int .u16 q.p, .int .u16 q.x, .int .i64 q.a, .int .i64 q.m, .int .i64 q.h, .int .i64 q.d] 30 (0, 0)) := (hq4.block _ (heap_lt hA_z1)).trans hA_z1
    have hR_z2 : z2.heap[R0]? = some (.cells #[.int .i64 0, .bool false, .bool false, .bool false, .bool false, .bool false, .bool false, .int .i64 0, .int .u64 0, .int .u32 0, .int .u64 0, .int .u16 0, .int .u16 0, .int .i64 0, .int .i64 0, .int .i64 0, .int .i64 0] 30 (0, 0)) := (hq4.block _ (heap_lt hR_z1)).trans hR_z1
    have E_z2 : Ext w0 z2 := E_z1.trans hq4
    have hX_z2 : z2.heap[X0]? = some (.cells #[.int .i64 fq.kd, .bool fq.ch, .bool fq.ak, .bool fq.pr, .bool fq.ag, .bool fq.ln, .bool fq.fw, .int .i64 fq.ro, .int .u64 fq.r, .int .u32 fq.c, .int .u64 fq.b, .int .u16 fq.p, .int .u16 fq.x, .int .i64 fq.a, .int .i64 fq.m, .int .i64 fq.h, .int .i64 fq.d] 30 (0, 0)) := hrow6
    have hb_X0 : w0.heap.size ≤ X0 := by have h1 := E_z1.size; have h2 := hlo5; omega
    have hn_A0X0 : A0 ≠ X0 := by have h1 := heap_lt hA_z1; have h2 := hlo5; omega
    have hn_R0X0 : R0 ≠ X0 := by have h1 := heap_lt hR_z1; have h2 := hlo5; omega
    have rA0_z2 : z2.cell? ⟨A0, 0, none⟩ = some (.int .i64 q.kd) := (cell_of_row _ _ _ _ _ _ hA_z2).trans rfl
    clear hA_z1 hR_z1 E_z1 rA0_z1
    clear hq0 hq1 hq2 hq3 hq4
    go_wp2_with (first
      | fail
      | ((with_reducible refine at_load 26 ?_); refine wpList_load_mid rfl 26 _ rfl A0 8 rfl [.int .u64 q.r, .int .u32 q.c, .int .u64 q.b, .int .u16 q.p, .int .u16 q.x] _ (row_range hA_z2 8 (by rfl)) Try.underlying26 rfl (by kernel_rfl) ?_)
      | ((with_reducible refine at_store 26 ?_); refine st_at rfl rfl 26 _ _ rfl X0 8 _ #[.int .u64 q.r, .int .u32 q.c, .int .u64 q.b, .int .u16 q.p, .int .u16 q.x] _ #[.int .i64 fq.kd, .bool fq.ch, .bool fq.ak, .bool fq.pr, .bool fq.ag, .bool fq.ln, .bool fq.fw, .int .i64 fq.ro, .int .u64 q.r, .int .u32 q.c, .int .u64 q.b, .int .u16 q.p, .int .u16 q.x, .int .i64 fq.a, .int .i64 fq.m, .int .i64 fq.h, .int .i64 fq.d] _ rfl rfl rfl hX_z2 (by exact (by decide : 8 + 5 ≤ 17)) (by kernel_rfl) rfl rfl ?_
         intro z3 hq hm
         have hX_z3 : z3.heap[X0]? = some (.cells #[.int .i64 fq.kd, .bool fq.ch, .bool fq.ak, .bool fq.pr, .bool fq.ag, .bool fq.ln, .bool fq.fw, .int .i64 fq.ro, .int .u64 q.r, .int .u32 q.c, .int .u64 q.b, .int .u16 q.p, .int .u16 q.x, .int .i64 fq.a, .int .i64 fq.m, .int .i64 fq.h, .int .i64 fq.d] 30 (0, 0)) := hq
         have hA_z3 : z3.heap[A0]? = some (.cells #[.int .i64 q.kd, .bool q.ch, .bool q.ak, .bool q.pr, .bool q.ag, .bool q.ln, .bool q.fw, .int .i64 q.ro, .int .u64 q.r, .int .u32 q.c, .int .u64 q.b, .int .u16 q.p, .int .u16 q.x, .int .i64 q.a, .int .i64 q.m, .int .i64 q.h, .int .i64 q.d] 30 (0, 0)) := (hm.heap (heap_lt hA_z2) (show ¬ A0 = X0 by omega)).trans hA_z2
         have hR_z3 : z3.heap[R0]? = some (.cells #[.int .i64 0, .bool false, .bool false, .bool false, .bool false, .bool false, .bool false, .int .i64 0, .int .u64 0, .int .u32 0, .int .u64 0, .int .u16 0, .int .u16 0, .int .i64 0, .int .i64 0, .int .i64 0, .int .i64 0] 30 (0, 0)) := (hm.heap (heap_lt hR_z2) (show ¬ R0 = X0 by omega)).trans hR_z2
         have E_z3 : Ext w0 z3 := Ext.mutE E_z2 hm (fun n hn h => by have h2 : n = X0 := h; omega)
         have rA0_z3 : z3.cell? ⟨A0, 0, none⟩ = some (.int .i64 q.kd) := (cell_of_row _ _ _ _ _ _ hA_z3).trans rfl
         clear hA_z2 hR_z2 hX_z2 E_z2 rA0_z2
         clear hq hm)
      | ((with_reducible refine at_store 24 ?_); refine st_at rfl rfl 24 _ _ rfl X0 12 _ #[.int .u16 0] _ #[.int .i64 fq.kd, .bool fq.ch, .bool fq.ak, .bool fq.pr, .bool fq.ag, .bool fq.ln, .bool fq.fw, .int .i64 fq.ro, .int .u64 q.r, .int .u32 q.c, .int .u64 q.b, .int .u16 q.p, .int .u16 0, .int .i64 fq.a, .int .i64 fq.m, .int .i64 fq.h, .int .i64 fq.d] _ rfl rfl rfl hX_z3 (by exact (by decide : 12 + 1 ≤ 17)) (by kernel_rfl) rfl rfl ?_
         intro z4 hq hm
         have hX_z4 : z4.heap[X0]? = some (.cells #[.int .i64 fq.kd, .bool fq.ch, .bool fq.ak, .bool fq.pr, .bool fq.ag, .bool fq.ln, .bool fq.fw, .int .i64 fq.ro, .int .u64 q.r, .int .u32 q.c, .int .u64 q.b, .int .u16 q.p, .int .u16 0, .int .i64 fq.a, .int .i64 fq.m, .int .i64 fq.h, .int .i64 fq.d] 30 (0, 0)) := hq
         have hA_z4 : z4.heap[A0]? = some (.cells #[.int .i64 q.kd, .bool q.ch, .bool q.ak, .bool q.pr, .bool q.ag, .bool q.ln, .bool q.fw, .int .i64 q.ro, .int .u64 q.r, .int .u32 q.c, .int .u64 q.b, .int .u16 q.p, .int .u16 q.x, .int .i64 q.a, .int .i64 q.m, .int .i64 q.h, .int .i64 q.d] 30 (0, 0)) := (hm.heap (heap_lt hA_z3) (show ¬ A0 = X0 by omega)).trans hA_z3
         have hR_z4 : z4.heap[R0]? = some (.cells #[.int .i64 0, .bool false, .bool false, .bool false, .bool false, .bool false, .bool false, .int .i64 0, .int .u64 0, .int .u32 0, .int .u64 0, .int .u16 0, .int .u16 0, .int .i64 0, .int .i64 0, .int .i64 0, .int .i64 0] 30 (0, 0)) := (hm.heap (heap_lt hR_z3) (show ¬ R0 = X0 by omega)).trans hR_z3
         have E_z4 : Ext w0 z4 := Ext.mutE E_z3 hm (fun n hn h => by have h2 : n = X0 := h; omega)
         have rA0_z4 : z4.cell? ⟨A0, 0, none⟩ = some (.int .i64 q.kd) := (cell_of_row _ _ _ _ _ _ hA_z4).trans rfl
         clear hA_z3 hR_z3 hX_z3 E_z3 rA0_z3
         clear hq hm))
    refine beginL (S := fun W' => Mut (fun n => n = X0) z4 W') (by kernel_rfl) ?_
    intro wd hqx
    have hq0 : Mut (fun n => n = X0) z4 wd := hqx.mut _
    have hxr := (hqx.block _ (heap_lt hX_z4)).trans hX_z4
    refine takeL (i := 0) (v := (.pointer (some ⟨A0, 13, none⟩))) rfl (by kernel_rfl) (by kernel_rfl) (by kernel_rfl) (fun _ _ _ h => h) (Or.inl ⟨rfl, fun _ _ => rfl⟩) hq0 ?_
    simp only [Act.put, List.setIfInBounds_toArray, List.set_cons_zero, List.set_cons_succ]
    refine takeL (i := 1) (v := (.pointer (some ⟨A0, 13, none⟩))) rfl (by kernel_rfl) (by kernel_rfl) (by kernel_rfl) (fun _ _ _ h => h) (Or.inl ⟨rfl, fun _ _ => rfl⟩) hq0 ?_
    simp only [Act.put, List.setIfInBounds_toArray, List.set_cons_zero, List.set_cons_succ]
    refine takeL (i := 2) (v := _) rfl (by kernel_rfl) (by kernel_rfl) (by kernel_rfl) (fun _ _ _ h => h) (yieldsIf_cell rfl 3 _ rfl ⟨A0, 13, none⟩ rfl (.int .i64 q.a) _ (fun W' hW' => (cell_of_row _ _ _ _ _ _ ((hW'.heap (heap_lt hA_z4) (show ¬ A0 = X0 by omega)).trans hA_z4)).trans rfl) Try.underlying3 rfl) hq0 ?_
    simp only [Act.put, List.setIfInBounds_toArray, List.set_cons_zero, List.set_cons_succ]
    refine takeL (i := 4) (v := (.pointer (some ⟨A0, 13, none⟩))) rfl (by kernel_rfl) (by kernel_rfl) (by kernel_rfl) (fun _ _ _ h => h) (Or.inl ⟨rfl, fun _ _ => rfl⟩) hq0 ?_
    simp only [Act.put, List.setIfInBounds_toArray, List.set_cons_zero, List.set_cons_succ]
    refine takeL (i := 5) (v := (.pointer (some ⟨A0, 14, none⟩))) rfl (by kernel_rfl) (by kernel_rfl) (by kernel_rfl) (fun _ _ _ h => h) (Or.inl ⟨rfl, fun _ _ => rfl⟩) hq0 ?_
    simp only [Act.put, List.setIfInBounds_toArray, List.set_cons_zero, List.set_cons_succ]
    refine takeL (i := 6) (v := _) rfl (by kernel_rfl) (by kernel_rfl) (by kernel_rfl) (fun _ _ _ h => h) (yieldsIf_cell rfl 3 _ rfl ⟨A0, 14, none⟩ rfl (.int .i64 q.m) _ (fun W' hW' => (cell_of_row _ _ _ _ _ _ ((hW'.heap (heap_lt hA_z4) (show ¬ A0 = X0 by omega)).trans hA_z4)).trans rfl) Try.underlying3 rfl) hq0 ?_
    simp only [Act.put, List.setIfInBounds_toArray, List.set_cons_zero, List.set_cons_succ]
    refine takeL (i := 8) (v := (.pointer (some ⟨A0, 13, none⟩))) rfl (by kernel_rfl) (by kernel_rfl) (by kernel_rfl) (fun _ _ _ h => h) (Or.inl ⟨rfl, fun _ _ => rfl⟩) hq0 ?_
    simp only [Act.put, List.setIfInBounds_toArray, List.set_cons_zero, List.set_cons_succ]
    refine takeL (i := 9) (v := (.pointer (some ⟨A0, 15, none⟩))) rfl (by kernel_rfl) (by kernel_rfl) (by kernel_rfl) (fun _ _ _ h => h) (Or.inl ⟨rfl, fun _ _ => rfl⟩) hq0 ?_
    simp only [Act.put, List.setIfInBounds_toArray, List.set_cons_zero, List.set_cons_succ]
    refine takeL (i := 10) (v := _) rfl (by kernel_rfl) (by kernel_rfl) (by kernel_rfl) (fun _ _ _ h => h) (yieldsIf_cell rfl 3 _ rfl ⟨A0, 15, none⟩ rfl (.int .i64 q.h) _ (fun W' hW' => (cell_of_row _ _ _ _ _ _ ((hW'.heap (heap_lt hA_z4) (show ¬ A0 = X0 by omega)).trans hA_z4)).trans rfl) Try.underlying3 rfl) hq0 ?_
    simp only [Act.put, List.setIfInBounds_toArray, List.set_cons_zero, List.set_cons_succ]
    refine takeL (i := 12) (v := (.pointer (some ⟨A0, 13, none⟩))) rfl (by kernel_rfl) (by kernel_rfl) (by kernel_rfl) (fun _ _ _ h => h) (Or.inl ⟨rfl, fun _ _ => rfl⟩) hq0 ?_
    simp only [Act.put, List.setIfInBounds_toArray, List.set_cons_zero, List.set_cons_succ]
    refine takeL (i := 13) (v := (.pointer (some ⟨A0, 16, none⟩))) rfl (by kernel_rfl) (by kernel_rfl) (by kernel_rfl) (fun _ _ _ h => h) (Or.inl ⟨rfl, fun _ _ => rfl⟩) hq0 ?_
    simp only [Act.put, List.setIfInBounds_toArray, List.set_cons_zero, List.set_cons_succ]
    refine takeL (i := 14) (v := _) rfl (by kernel_rfl) (by kernel_rfl) (by kernel_rfl) (fun _ _ _ h => h) (yieldsIf_cell rfl 3 _ rfl ⟨A0, 16, none⟩ rfl (.int .i64 q.d) _ (fun W' hW' => (cell_of_row _ _ _ _ _ _ ((hW'.heap (heap_lt hA_z4) (show ¬ A0 = X0 by omega)).trans hA_z4)).trans rfl) Try.underlying3 rfl) hq0 ?_
    simp only [Act.put, List.setIfInBounds_toArray, List.set_cons_zero, List.set_cons_succ]
    refine runL (i := 3) rfl rfl (by kernel_rfl) (fun K hK => ?_)
    go_simp
    refine (toExt (told_q q.a _)).mono ?_
    rintro e wc1 ⟨rfl, hx⟩
    have hq1 := hq0.trans (hx.mut _)
    have hxr := (hx.block _ (heap_lt hxr)).trans hxr
    refine hK.out _ _ hq1 (fun hHeld => ?_)
    try simp only [Act.put, List.setIfInBounds_toArray, List.set_cons_zero, List.set_cons_succ]
    clear hK K hHeld
    refine runL (i := 7) rfl rfl (by kernel_rfl) (fun K hK => ?_)
    go_simp
    refine (toExt (told_q q.m _)).mono ?_
    rintro e wc2 ⟨rfl, hx⟩
    have hq2 := hq1.trans (hx.mut _)
    have hxr := (hx.block _ (heap_lt hxr)).trans hxr
    refine hK.out _ _ hq2 (fun hHeld => ?_)
    try simp only [Act.put, List.setIfInBounds_toArray, List.set_cons_zero, List.set_cons_succ]
    clear hK K hHeld
    refine runL (i := 11) rfl rfl (by kernel_rfl) (fun K hK => ?_)
    go_simp
    refine (toExt (told_q q.h _)).mono ?_
    rintro e wc3 ⟨rfl, hx⟩
    have hq3 := hq2.trans (hx.mut _)
    have hxr := (hx.block _ (heap_lt hxr)).trans hxr
    refine hK.out _ _ hq3 (fun hHeld => ?_)
    try simp only [Act.put, List.setIfInBounds_toArray, List.set_cons_zero, List.set_cons_succ]
    clear hK K hHeld
    refine runL (i := 15) rfl rfl (by kernel_rfl) (fun K hK => ?_)
    go_simp
    refine (toExt (told_q q.d _)).mono ?_
    rintro e wc4 ⟨rfl, hx⟩
    have hq4 := hq3.trans (hx.mut _)
    have hxr := (hx.block _ (heap_lt hxr)).trans hxr
    refine hK.out _ _ hq4 (fun hHeld => ?_)
    try simp only [Act.put, List.setIfInBounds_toArray, List.set_cons_zero, List.set_cons_succ]
    clear hK K hHeld
    refine takeL (i := 16) (v := (.agg #[.int .i64 (told q.a), .int .i64 (told q.m), .int .i64 (told q.h), .int .i64 (told q.d)])) rfl (by kernel_rfl) (by kernel_rfl) (by kernel_rfl) (fun _ _ _ h => h) (yieldsIf_build rfl 28 _ rfl [(0, .int .i64 (told q.a)), (1, .int .i64 (told q.m)), (2, .int .i64 (told q.h)), (3, .int .i64 (told q.d))] rfl #[.int .i64 (told q.a), .int .i64 (told q.m), .int .i64 (told q.h), .int .i64 (told q.d)] (times_b _ _ _ _)) hq4 ?_
    simp only [Act.put, List.setIfInBounds_toArray, List.set_cons_zero, List.set_cons_succ]
    refine takeL (i := 17) (v := (.pointer (some ⟨X0, 13, none⟩))) rfl (by kernel_rfl) (by kernel_rfl) (by kernel_rfl) (fun _ _ _ h => h) (Or.inl ⟨rfl, fun _ _ => rfl⟩) hq4 ?_
    simp only [Act.put, List.setIfInBounds_toArray, List.set_cons_zero, List.set_cons_succ]
    refine runL (i := 18) rfl rfl (by kernel_rfl) (fun K hK => ?_)
    refine wp_st_at rfl 28 _ _ rfl X0 13 _ #[.int .i64 (told q.a), .int .i64 (told q.m), .int .i64 (told q.h), .int .i64 (told q.d)] _ #[.int .i64 fq.kd, .bool fq.ch, .bool fq.ak, .bool fq.pr, .bool fq.ag, .bool fq.ln, .bool fq.fw, .int .i64 fq.ro, .int .u64 q.r, .int .u32 q.c, .int .u64 q.b, .int .u16 q.p, .int .u16 0, .int .i64 (told q.a), .int .i64 (told q.m), .int .i64 (told q.h), .int .i64 (told q.d)] _ rfl rfl rfl hxr (by exact (by decide : 13 + 4 ≤ 17)) (by kernel_rfl) rfl rfl (fun ws18 hrow18 hm => ?_)
    have hq5 : Mut (fun n => n = X0) z4 ws18 := Mut.trans hq4 hm
    clear hm
    refine hK.out _ _ hq5 (fun hHeld => ?_)
    try simp only [Act.put, List.setIfInBounds_toArray, List.set_cons_zero, List.set_cons_succ]
    clear hK K hHeld
    refine wpAnyH_done (by kernel_rfl) ?_ _
    generalize ws18 = z5 at *
    have hA_z5 : z5.heap[A0]? = some (.cells #[.int .i64 q.kd, .bool q.ch, .bool q.ak, .bool q.pr, .bool q.ag, .bool q.ln, .bool q.fw, .int .i64 q.ro, .int .u64 q.r, .int .u32 q.c, .int .u64 q.b, .int .u16 q.p, .int .u16 q.x, .int .i64 q.a, .int .i64 q.m, .int .i64 q.h, .int .i64 q.d] 30 (0, 0)) := (hq5.heap (heap_lt hA_z4) (show ¬ A0 = X0 by omega)).trans hA_z4
    have hR_z5 : z5.heap[R0]? = some (.cells #[.int .i64 0, .bool false, .bool false, .bool false, .bool false, .bool false, .bool false, .int .i64 0, .int .u64 0, .int .u32 0, .int .u64 0, .int .u16 0, .int .u16 0, .int .i64 0, .int .i64 0, .int .i64 0, .int .i64 0] 30 (0, 0)) := (hq5.heap (heap_lt hR_z4) (show ¬ R0 = X0 by omega)).trans hR_z4
    have E_z5 : Ext w0 z5 := Ext.mutE E_z4 hq5 (fun n hn h => by have h2 : n = X0 := h; omega)
    have hX_z5 : z5.heap[X0]? = some (.cells #[.int .i64 fq.kd, .bool fq.ch, .bool fq.ak, .bool fq.pr, .bool fq.ag, .bool fq.ln, .bool fq.fw, .int .i64 fq.ro, .int .u64 q.r, .int .u32 q.c, .int .u64 q.b, .int .u16 q.p, .int .u16 0, .int .i64 (told q.a), .int .i64 (told q.m), .int .i64 (told q.h), .int .i64 (told q.d)] 30 (0, 0)) := hrow18
    have rA0_z5 : z5.cell? ⟨A0, 0, none⟩ = some (.int .i64 q.kd) := (cell_of_row _ _ _ _ _ _ hA_z5).trans rfl
    clear hA_z4 hR_z4 hX_z4 E_z4 rA0_z4
    clear hq0 hq1 hq2 hq3 hq4 hq5
    go_wp2_with (first
      | fail
      | ((with_reducible refine at_load 30 ?_); refine wpList_load_row rfl 30 _ rfl X0 rfl 30 #[.int .i64 fq.kd, .bool fq.ch, .bool fq.ak, .bool fq.pr, .bool fq.ag, .bool fq.ln, .bool fq.fw, .int .i64 fq.ro, .int .u64 q.r, .int .u32 q.c, .int .u64 q.b, .int .u16 q.p, .int .u16 0, .int .i64 (told q.a), .int .i64 (told q.m), .int .i64 (told q.h), .int .i64 (told q.d)] (0, 0) _ hX_z5 Try.underlying30 rfl (by kernel_rfl) ?_)
      | ((with_reducible refine at_store 30 ?_); refine st_at rfl rfl 30 _ _ rfl R0 0 _ #[.int .i64 fq.kd, .bool fq.ch, .bool fq.ak, .bool fq.pr, .bool fq.ag, .bool fq.ln, .bool fq.fw, .int .i64 fq.ro, .int .u64 q.r, .int .u32 q.c, .int .u64 q.b, .int .u16 q.p, .int .u16 0, .int .i64 (told q.a), .int .i64 (told q.m), .int .i64 (told q.h), .int .i64 (told q.d)] _ #[.int .i64 fq.kd, .bool fq.ch, .bool fq.ak, .bool fq.pr, .bool fq.ag, .bool fq.ln, .bool fq.fw, .int .i64 fq.ro, .int .u64 q.r, .int .u32 q.c, .int .u64 q.b, .int .u16 q.p, .int .u16 0, .int .i64 (told q.a), .int .i64 (told q.m), .int .i64 (told q.h), .int .i64 (told q.d)] _ rfl rfl rfl hR_z5 (by exact (by decide : 0 + 17 ≤ 17)) (by kernel_rfl) rfl rfl ?_
         intro z6 hq hm
         have hR_z6 : z6.heap[R0]? = some (.cells #[.int .i64 fq.kd, .bool fq.ch, .bool fq.ak, .bool fq.pr, .bool fq.ag, .bool fq.ln, .bool fq.fw, .int .i64 fq.ro, .int .u64 q.r, .int .u32 q.c, .int .u64 q.b, .int .u16 q.p, .int .u16 0, .int .i64 (told q.a), .int .i64 (told q.m), .int .i64 (told q.h), .int .i64 (told q.d)] 30 (0, 0)) := hq
         have hA_z6 : z6.heap[A0]? = some (.cells #[.int .i64 q.kd, .bool q.ch, .bool q.ak, .bool q.pr, .bool q.ag, .bool q.ln, .bool q.fw, .int .i64 q.ro, .int .u64 q.r, .int .u32 q.c, .int .u64 q.b, .int .u16 q.p, .int .u16 q.x, .int .i64 q.a, .int .i64 q.m, .int .i64 q.h, .int .i64 q.d] 30 (0, 0)) := (hm.heap (heap_lt hA_z5) (show ¬ A0 = R0 by omega)).trans hA_z5
         have hX_z6 : z6.heap[X0]? = some (.cells #[.int .i64 fq.kd, .bool fq.ch, .bool fq.ak, .bool fq.pr, .bool fq.ag, .bool fq.ln, .bool fq.fw, .int .i64 fq.ro, .int .u64 q.r, .int .u32 q.c, .int .u64 q.b, .int .u16 q.p, .int .u16 0, .int .i64 (told q.a), .int .i64 (told q.m), .int .i64 (told q.h), .int .i64 (told q.d)] 30 (0, 0)) := (hm.heap (heap_lt hX_z5) (show ¬ X0 = R0 by omega)).trans hX_z5
         have E_z6 : Ext w0 z6 := Ext.mutE E_z5 hm (fun n hn h => by have h2 : n = R0 := h; omega)
         have rA0_z6 : z6.cell? ⟨A0, 0, none⟩ = some (.int .i64 q.kd) := (cell_of_row _ _ _ _ _ _ hA_z6).trans rfl
         clear hA_z5 hR_z5 hX_z5 E_z5 rA0_z5
         clear hq hm))
    refine bodyPost_ret (results_cell_row rfl _ _ _ _ _ (0, 0) _ rfl hR_z6 Try.underlying30 rfl (by kernel_rfl)) rfl ?_
    refine ⟨?_, hE_w0.trans E_z6⟩
    unfold plainM
    rw [if_neg (by have := HK.out; omega), if_pos (by have := HK.out; omega), HF.out]
set_option maxRecDepth 100000 in
set_option maxHeartbeats 2000000 in
theorem plain_r (q : Mg) (hq : q.ok) (hk : q.kd = 2) (w : World) : Calls Try.prog 19 #[.agg #[.int .i64 q.kd, .bool q.ch, .bool q.ak, .bool q.pr, .bool q.ag, .bool q.ln, .bool q.fw, .int .i64 q.ro, .int .u64 q.r, .int .u32 q.c, .int .u64 q.b, .int .u16 q.p, .int .u16 q.x, .int .i64 q.a, .int .i64 q.m, .int .i64 q.h, .int .i64 q.d]] w fun e w' => e = .returned (.agg #[.int .i64 (plainM q).kd, .bool (plainM q).ch, .bool (plainM q).ak, .bool (plainM q).pr, .bool (plainM q).ag, .bool (plainM q).ln, .bool (plainM q).fw, .int .i64 (plainM q).ro, .int .u64 (plainM q).r, .int .u32 (plainM q).c, .int .u64 (plainM q).b, .int .u16 (plainM q).p, .int .u16 (plainM q).x, .int .i64 (plainM q).a, .int .i64 (plainM q).m, .int .i64 (plainM q).h, .int .i64 (plainM q).d]) ∧ Ext w w' := by
  have hz := zero_msg
  have hfl := flagsN_rg q
  have hk1 : (q.kd == 1) = false := by simp; omega
  have hk0 : (q.kd == 0) = false := by simp; omega
  have hk2 : (q.kd == 2) = true := by simpa using hk
  have HK := Lib.hid hk
  clear hk
  go_enter Try.func19, Try.ntmps19
  obtain ⟨fq, hfq⟩ : ∃ f, flagged q.kd (flagsN q) = f := ⟨_, rfl⟩
  have HG := Lib.hid (show ∀ w : World, Calls Try.prog 42 #[.int .i64 q.kd, .int .u64 (flagsN q)] w fun e w' => e = .returned (.agg #[.int .i64 fq.kd, .bool fq.ch, .bool fq.ak, .bool fq.pr, .bool fq.ag, .bool fq.ln, .bool fq.fw, .int .i64 fq.ro, .int .u64 fq.r, .int .u32 fq.c, .int .u64 fq.b, .int .u16 fq.p, .int .u16 fq.x, .int .i64 fq.a, .int .i64 fq.m, .int .i64 fq.h, .int .i64 fq.d]) ∧ Ext w w' from fun w => by
    have := flagged_q q.kd (flagsN q) ⟨hfl.1, by omega⟩ w
    rw [hfq] at this
    exact this)
  have HF := Lib.hid hfq
  clear hfq
  go_wp2_with (first
    | fail
    | ((with_reducible refine at_alloc 30 ?_)
       have hA_w0 : (w.alloc (.cells #[.int .i64 q.kd, .bool q.ch, .bool q.ak, .bool q.pr, .bool q.ag, .bool q.ln, .bool q.fw, .int .i64 q.ro, .int .u64 q.r, .int .u32 q.c, .int .u64 q.b, .int .u16 q.p, .int .u16 q.x, .int .i64 q.a, .int .i64 q.m, .int .i64 q.h, .int .i64 q.d] 30)).heap[w.heap.size]? = some (.cells #[.int .i64 q.kd, .bool q.ch, .bool q.ak, .bool q.pr, .bool q.ag, .bool q.ln, .bool q.fw, .int .i64 q.ro, .int .u64 q.r, .int .u32 q.c, .int .u64 q.b, .int .u16 q.p, .int .u16 q.x, .int .i64 q.a, .int .i64 q.m, .int .i64 q.h, .int .i64 q.d] 30 (0, 0)) := heap_alloc_new _ _
       have hE_w0 : Ext w (w.alloc (.cells #[.int .i64 q.kd, .bool q.ch, .bool q.ak, .bool q.pr, .bool q.ag, .bool q.ln, .bool q.fw, .int .i64 q.ro, .int .u64 q.r, .int .u32 q.c, .int .u64 q.b, .int .u16 q.p, .int .u16 q.x, .int .i64 q.a, .int .i64 q.m, .int .i64 q.h, .int .i64 q.d] 30)) := (Ext.refl _).alloc _
       generalize w.alloc (.cells #[.int .i64 q.kd, .bool q.ch, .bool q.ak, .bool q.pr, .bool q.ag, .bool q.ln, .bool q.fw, .int .i64 q.ro, .int .u64 q.r, .int .u32 q.c, .int .u64 q.b, .int .u16 q.p, .int .u16 q.x, .int .i64 q.a, .int .i64 q.m, .int .i64 q.h, .int .i64 q.d] 30) = w0 at *
       obtain ⟨A0, hA0⟩ : ∃ n, w.heap.size = n := ⟨_, rfl⟩
       rw [hA0] at hA_w0 ⊢
       refine al_zero rfl 30 rfl MZ zero_msg ?_
       intro R0 z1 hq hs hx
       have E_z1 : Ext w0 z1 := hx
       have hA_z1 : z1.heap[A0]? = some (.cells #[.int .i64 q.kd, .bool q.ch, .bool q.ak, .bool q.pr, .bool q.ag, .bool q.ln, .bool q.fw, .int .i64 q.ro, .int .u64 q.r, .int .u32 q.c, .int .u64 q.b, .int .u16 q.p, .int .u16 q.x, .int .i64 q.a, .int .i64 q.m, .int .i64 q.h, .int .i64 q.d] 30 (0, 0)) := (hx.block _ (heap_lt hA_w0)).trans hA_w0
       have hR_z1 : z1.heap[R0]? = some (.cells #[.int .i64 0, .bool false, .bool false, .bool false, .bool false, .bool false, .bool false, .int .i64 0, .int .u64 0, .int .u32 0, .int .u64 0, .int .u16 0, .int .u16 0, .int .i64 0, .int .i64 0, .int .i64 0, .int .i64 0] 30 (0, 0)) := hq
       have hb_R0 : w0.heap.size ≤ R0 := by omega
       have hn_A0R0 : A0 ≠ R0 := by have := heap_lt hA_w0; omega
       have rA0_z1 : z1.cell? ⟨A0, 0, none⟩ = some (.int .i64 q.kd) := (cell_of_row _ _ _ _ _ _ hA_z1).trans rfl
       clear hA_w0
       clear hq hs hx))
  refine beginL (S := fun W' => Ext z1 W') (by kernel_rfl) ?_
  intro wd hqx
  have hq0 : Ext z1 wd := hqx
  refine takeL (i := 0) (v := (.pointer (some ⟨A0, 0, none⟩))) rfl (by kernel_rfl) (by kernel_rfl) (by kernel_rfl) (fun _ _ _ h => h) (Or.inl ⟨rfl, fun _ _ => rfl⟩) hq0 ?_
  simp only [Act.put, List.setIfInBounds_toArray, List.set_cons_zero, List.set_cons_succ]
  refine takeL (i := 1) (v := _) rfl (by kernel_rfl) (by kernel_rfl) (by kernel_rfl) (fun _ _ _ h => h) (yieldsIf_cell rfl 3 _ rfl ⟨A0, 0, none⟩ rfl (.int .i64 q.kd) _ (fun W' hW' => (cell_of_row _ _ _ _ _ _ ((hW'.block _ (heap_lt hA_z1)).trans hA_z1)).trans rfl) Try.underlying3 rfl) hq0 ?_
  simp only [Act.put, List.setIfInBounds_toArray, List.set_cons_zero, List.set_cons_succ]
  refine takeL (i := 2) (v := _) rfl (by kernel_rfl) (by kernel_rfl) (by kernel_rfl) (fun _ _ _ h => h) (yieldsIf_rowS rfl 30 _ rfl A0 rfl #[.int .i64 q.kd, .bool q.ch, .bool q.ak, .bool q.pr, .bool q.ag, .bool q.ln, .bool q.fw, .int .i64 q.ro, .int .u64 q.r, .int .u32 q.c, .int .u64 q.b, .int .u16 q.p, .int .u16 q.x, .int .i64 q.a, .int .i64 q.m, .int .i64 q.h, .int .i64 q.d] _ _ (fun W' hW' => ((hW'.block _ (heap_lt hA_z1)).trans hA_z1)) Try.underlying30 rfl (by kernel_rfl)) hq0 ?_
  simp only [Act.put, List.setIfInBounds_toArray, List.set_cons_zero, List.set_cons_succ]
  refine runL2 (i := 3) (j := 5) rfl rfl rfl rfl (by kernel_rfl) (fun K hK => ?_) (fun K hK => ?_)
  · go_simp
    refine (flags_q q _).mono ?_
    rintro e wc1 ⟨rfl, hx⟩
    have hq1 := hq0.trans hx
    refine hK.out _ _ hq1 (fun hHeld => ?_)
    try simp only [Act.put, List.setIfInBounds_toArray, List.set_cons_zero, List.set_cons_succ]
    clear hK K hHeld
    refine runL2 (i := 4) (j := 5) rfl rfl rfl rfl (by kernel_rfl) (fun K hK => ?_) (fun K hK => ?_)
    · go_simp
      refine (HG.out _).mono ?_
      rintro e wc2 ⟨rfl, hx⟩
      have hq2 := hq1.trans hx
      refine hK.out _ _ hq2 (fun hHeld => ?_)
      try simp only [Act.put, List.setIfInBounds_toArray, List.set_cons_zero, List.set_cons_succ]
      clear hK K hHeld
      refine runL (i := 5) rfl rfl (by kernel_rfl) (fun K hK => ?_)
      refine wp_al_zero 30 rfl MZ zero_msg (fun X0 wa5 hrow5 hsz5 hx => ?_)
      have hq3 := hq2.trans hx
      have hlo5 : z1.heap.size ≤ X0 := by have := hq2.size; omega
      clear hx
      refine hK.out _ _ hq3 (fun hHeld => ?_)
      try simp only [Act.put, List.setIfInBounds_toArray, List.set_cons_zero, List.set_cons_succ]
      clear hK K hHeld
      refine runL (i := 6) rfl rfl (by kernel_rfl) (fun K hK => ?_)
      refine wp_st_at rfl 30 _ _ rfl X0 0 _ #[.int .i64 fq.kd, .bool fq.ch, .bool fq.ak, .bool fq.pr, .bool fq.ag, .bool fq.ln, .bool fq.fw, .int .i64 fq.ro, .int .u64 fq.r, .int .u32 fq.c, .int .u64 fq.b, .int .u16 fq.p, .int .u16 fq.x, .int .i64 fq.a, .int .i64 fq.m, .int .i64 fq.h, .int .i64 fq.d] _ #[.int .i64 fq.kd, .bool fq.ch, .bool fq.ak, .bool fq.pr, .bool fq.ag, .bool fq.ln, .bool fq.fw, .int .i64 fq.ro, .int .u64 fq.r, .int .u32 fq.c, .int .u64 fq.b, .int .u16 fq.p, .int .u16 fq.x, .int .i64 fq.a, .int .i64 fq.m, .int .i64 fq.h, .int .i64 fq.d] _ rfl rfl rfl hrow5 (by exact (by decide : 0 + 17 ≤ 17)) (by kernel_rfl) rfl rfl (fun ws6 hrow6 hm => ?_)
      have hq4 : Ext z1 ws6 := Ext.mutE hq3 hm (fun n hn h => by have h2 : n = X0 := h; omega)
      clear hm
      refine hK.out _ _ hq4 (fun hHeld => ?_)
      try simp only [Act.put, List.setIfInBounds_toArray, List.set_cons_zero, List.set_cons_succ]
      clear hK K hHeld
      refine wpAnyH_done (by kernel_rfl) ?_ _
      generalize ws6 = z2 at *
      have hA_z2 : z2.heap[A0]? = some (.cells #[.int .i64 q.kd, .bool q.ch, .bool q.ak, .bool q.pr, .bool q.ag, .bool q.ln, .bool q.fw, .int .i64 q.ro, .int .u64 q.r, .int .u32 q.c, .int .u64 q.b, .int .u16 q.p, .int .u16 q.x, .int .i64 q.a, .int .i64 q.m, .int .i64 q.h, .int .i64 q.d] 30 (0, 0)) := (hq4.block _ (heap_lt hA_z1)).trans hA_z1
      have hR_z2 : z2.heap[R0]? = some (.cells #[.int .i64 0, .bool false, .bool false, .bool false, .bool false, .bool false, .bool false, .int .i64 0, .int .u64 0, .int .u32 0, .int .u64 0, .int .u16 0, .int .u16 0, .int .i64 0, .int .i64 0, .int .i64 0, .int .i64 0] 30 (0, 0)) := (hq4.block _ (heap_lt hR_z1)).trans hR_z1
      have E_z2 : Ext w0 z2 := E_z1.trans hq4
      have hX_z2 : z2.heap[X0]? = some (.cells #[.int .i64 fq.kd, .bool fq.ch, .bool fq.ak, .bool fq.pr, .bool fq.ag, .bool fq.ln, .bool fq.fw, .int .i64 fq.ro, .int .u64 fq.r, .int .u32 fq.c, .int .u64 fq.b, .int .u16 fq.p, .int .u16 fq.x, .int .i64 fq.a, .int .i64 fq.m, .int .i64 fq.h, .int .i64 fq.d] 30 (0, 0)) := hrow6
      have hb_X0 : w0.heap.size ≤ X0 := by have h1 := E_z1.size; have h2 := hlo5; omega
      have hn_A0X0 : A0 ≠ X0 := by have h1 := heap_lt hA_z1; have h2 := hlo5; omega
      have hn_R0X0 : R0 ≠ X0 := by have h1 := heap_lt hR_z1; have h2 := hlo5; omega
      have rA0_z2 : z2.cell? ⟨A0, 0, none⟩ = some (.int .i64 q.kd) := (cell_of_row _ _ _ _ _ _ hA_z2).trans rfl
      clear hA_z1 hR_z1 E_z1 rA0_z1
      clear hq0 hq1 hq2 hq3 hq4
      go_wp2_with (first
        | fail
        | ((with_reducible refine at_load 26 ?_); refine wpList_load_mid rfl 26 _ rfl A0 8 rfl [.int .u64 q.r, .int .u32 q.c, .int .u64 q.b, .int .u16 q.p, .int .u16 q.x] _ (row_range hA_z2 8 (by rfl)) Try.underlying26 rfl (by kernel_rfl) ?_)
        | ((with_reducible refine at_store 26 ?_); refine st_at rfl rfl 26 _ _ rfl X0 8 _ #[.int .u64 q.r, .int .u32 q.c, .int .u64 q.b, .int .u16 q.p, .int .u16 q.x] _ #[.int .i64 fq.kd, .bool fq.ch, .bool fq.ak, .bool fq.pr, .bool fq.ag, .bool fq.ln, .bool fq.fw, .int .i64 fq.ro, .int .u64 q.r, .int .u32 q.c, .int .u64 q.b, .int .u16 q.p, .int .u16 q.x, .int .i64 fq.a, .int .i64 fq.m, .int .i64 fq.h, .int .i64 fq.d] _ rfl rfl rfl hX_z2 (by exact (by decide : 8 + 5 ≤ 17)) (by kernel_rfl) rfl rfl ?_
           intro z3 hq hm
           have hX_z3 : z3.heap[X0]? = some (.cells #[.int .i64 fq.kd, .bool fq.ch, .bool fq.ak, .bool fq.pr, .bool fq.ag, .bool fq.ln, .bool fq.fw, .int .i64 fq.ro, .int .u64 q.r, .int .u32 q.c, .int .u64 q.b, .int .u16 q.p, .int .u16 q.x, .int .i64 fq.a, .int .i64 fq.m, .int .i64 fq.h, .int .i64 fq.d] 30 (0, 0)) := hq
           have hA_z3 : z3.heap[A0]? = some (.cells #[.int .i64 q.kd, .bool q.ch, .bool q.ak, .bool q.pr, .bool q.ag, .bool q.ln, .bool q.fw, .int .i64 q.ro, .int .u64 q.r, .int .u32 q.c, .int .u64 q.b, .int .u16 q.p, .int .u16 q.x, .int .i64 q.a, .int .i64 q.m, .int .i64 q.h, .int .i64 q.d] 30 (0, 0)) := (hm.heap (heap_lt hA_z2) (show ¬ A0 = X0 by omega)).trans hA_z2
           have hR_z3 : z3.heap[R0]? = some (.cells #[.int .i64 0, .bool false, .bool false, .bool false, .bool false, .bool false, .bool false, .int .i64 0, .int .u64 0, .int .u32 0, .int .u64 0, .int .u16 0, .int .u16 0, .int .i64 0, .int .i64 0, .int .i64 0, .int .i64 0] 30 (0, 0)) := (hm.heap (heap_lt hR_z2) (show ¬ R0 = X0 by omega)).trans hR_z2
           have E_z3 : Ext w0 z3 := Ext.mutE E_z2 hm (fun n hn h => by have h2 : n = X0 := h; omega)
           have rA0_z3 : z3.cell? ⟨A0, 0, none⟩ = some (.int .i64 q.kd) := (cell_of_row _ _ _ _ _ _ hA_z3).trans rfl
           clear hA_z2 hR_z2 hX_z2 E_z2 rA0_z2
           clear hq hm)
        | ((with_reducible refine at_store 24 ?_); refine st_at rfl rfl 24 _ _ rfl X0 12 _ #[.int .u16 0] _ #[.int .i64 fq.kd, .bool fq.ch, .bool fq.ak, .bool fq.pr, .bool fq.ag, .bool fq.ln, .bool fq.fw, .int .i64 fq.ro, .int .u64 q.r, .int .u32 q.c, .int .u64 q.b, .int .u16 q.p, .int .u16 0, .int .i64 fq.a, .int .i64 fq.m, .int .i64 fq.h, .int .i64 fq.d] _ rfl rfl rfl hX_z3 (by exact (by decide : 12 + 1 ≤ 17)) (by kernel_rfl) rfl rfl ?_
           intro z4 hq hm
           have hX_z4 : z4.heap[X0]? = some (.cells #[.int .i64 fq.kd, .bool fq.ch, .bool fq.ak, .bool fq.pr, .bool fq.ag, .bool fq.ln, .bool fq.fw, .int .i64 fq.ro, .int .u64 q.r, .int .u32 q.c, .int .u64 q.b, .int .u16 q.p, .int .u16 0, .int .i64 fq.a, .int .i64 fq.m, .int .i64 fq.h, .int .i64 fq.d] 30 (0, 0)) := hq
           have hA_z4 : z4.heap[A0]? = some (.cells #[.int .i64 q.kd, .bool q.ch, .bool q.ak, .bool q.pr, .bool q.ag, .bool q.ln, .bool q.fw, .int .i64 q.ro, .int .u64 q.r, .int .u32 q.c, .int .u64 q.b, .int .u16 q.p, .int .u16 q.x, .int .i64 q.a, .int .i64 q.m, .int .i64 q.h, .int .i64 q.d] 30 (0, 0)) := (hm.heap (heap_lt hA_z3) (show ¬ A0 = X0 by omega)).trans hA_z3
           have hR_z4 : z4.heap[R0]? = some (.cells #[.int .i64 0, .bool false, .bool false, .bool false, .bool false, .bool false, .bool false, .int .i64 0, .int .u64 0, .int .u32 0, .int .u64 0, .int .u16 0, .int .u16 0, .int .i64 0, .int .i64 0, .int .i64 0, .int .i64 0] 30 (0, 0)) := (hm.heap (heap_lt hR_z3) (show ¬ R0 = X0 by omega)).trans hR_z3
           have E_z4 : Ext w0 z4 := Ext.mutE E_z3 hm (fun n hn h => by have h2 : n = X0 := h; omega)
           have rA0_z4 : z4.cell? ⟨A0, 0, none⟩ = some (.int .i64 q.kd) := (cell_of_row _ _ _ _ _ _ hA_z4).trans rfl
           clear hA_z3 hR_z3 hX_z3 E_z3 rA0_z3
           clear hq hm))
      refine beginL (S := fun W' => Mut (fun n => n = X0) z4 W') (by kernel_rfl) ?_
      intro wd hqx
      have hq0 : Mut (fun n => n = X0) z4 wd := hqx.mut _
      have hxr := (hqx.block _ (heap_lt hX_z4)).trans hX_z4
      refine takeL (i := 0) (v := (.pointer (some ⟨A0, 13, none⟩))) rfl (by kernel_rfl) (by kernel_rfl) (by kernel_rfl) (fun _ _ _ h => h) (Or.inl ⟨rfl, fun _ _ => rfl⟩) hq0 ?_
      simp only [Act.put, List.setIfInBounds_toArray, List.set_cons_zero, List.set_cons_succ]
      refine takeL (i := 1) (v := (.pointer (some ⟨A0, 13, none⟩))) rfl (by kernel_rfl) (by kernel_rfl) (by kernel_rfl) (fun _ _ _ h => h) (Or.inl ⟨rfl, fun _ _ => rfl⟩) hq0 ?_
      simp only [Act.put, List.setIfInBounds_toArray, List.set_cons_zero, List.set_cons_succ]
      refine takeL (i := 2) (v := _) rfl (by kernel_rfl) (by kernel_rfl) (by kernel_rfl) (fun _ _ _ h => h) (yieldsIf_cell rfl 3 _ rfl ⟨A0, 13, none⟩ rfl (.int .i64 q.a) _ (fun W' hW' => (cell_of_row _ _ _ _ _ _ ((hW'.heap (heap_lt hA_z4) (show ¬ A0 = X0 by omega)).trans hA_z4)).trans rfl) Try.underlying3 rfl) hq0 ?_
      simp only [Act.put, List.setIfInBounds_toArray, List.set_cons_zero, List.set_cons_succ]
      refine takeL (i := 4) (v := (.pointer (some ⟨A0, 13, none⟩))) rfl (by kernel_rfl) (by kernel_rfl) (by kernel_rfl) (fun _ _ _ h => h) (Or.inl ⟨rfl, fun _ _ => rfl⟩) hq0 ?_
      simp only [Act.put, List.setIfInBounds_toArray, List.set_cons_zero, List.set_cons_succ]
      refine takeL (i := 5) (v := (.pointer (some ⟨A0, 14, none⟩))) rfl (by kernel_rfl) (by kernel_rfl) (by kernel_rfl) (fun _ _ _ h => h) (Or.inl ⟨rfl, fun _ _ => rfl⟩) hq0 ?_
      simp only [Act.put, List.setIfInBounds_toArray, List.set_cons_zero, List.set_cons_succ]
      refine takeL (i := 6) (v := _) rfl (by kernel_rfl) (by kernel_rfl) (by kernel_rfl) (fun _ _ _ h => h) (yieldsIf_cell rfl 3 _ rfl ⟨A0, 14, none⟩ rfl (.int .i64 q.m) _ (fun W' hW' => (cell_of_row _ _ _ _ _ _ ((hW'.heap (heap_lt hA_z4) (show ¬ A0 = X0 by omega)).trans hA_z4)).trans rfl) Try.underlying3 rfl) hq0 ?_
      simp only [Act.put, List.setIfInBounds_toArray, List.set_cons_zero, List.set_cons_succ]
      refine takeL (i := 8) (v := (.pointer (some ⟨A0, 13, none⟩))) rfl (by kernel_rfl) (by kernel_rfl) (by kernel_rfl) (fun _ _ _ h => h) (Or.inl ⟨rfl, fun _ _ => rfl⟩) hq0 ?_
      simp only [Act.put, List.setIfInBounds_toArray, List.set_cons_zero, List.set_cons_succ]
      refine takeL (i := 9) (v := (.pointer (some ⟨A0, 15, none⟩))) rfl (by kernel_rfl) (by kernel_rfl) (by kernel_rfl) (fun _ _ _ h => h) (Or.inl ⟨rfl, fun _ _ => rfl⟩) hq0 ?_
      simp only [Act.put, List.setIfInBounds_toArray, List.set_cons_zero, List.set_cons_succ]
      refine takeL (i := 10) (v := _) rfl (by kernel_rfl) (by kernel_rfl) (by kernel_rfl) (fun _ _ _ h => h) (yieldsIf_cell rfl 3 _ rfl ⟨A0, 15, none⟩ rfl (.int .i64 q.h) _ (fun W' hW' => (cell_of_row _ _ _ _ _ _ ((hW'.heap (heap_lt hA_z4) (show ¬ A0 = X0 by omega)).trans hA_z4)).trans rfl) Try.underlying3 rfl) hq0 ?_
      simp only [Act.put, List.setIfInBounds_toArray, List.set_cons_zero, List.set_cons_succ]
      refine takeL (i := 12) (v := (.pointer (some ⟨A0, 13, none⟩))) rfl (by kernel_rfl) (by kernel_rfl) (by kernel_rfl) (fun _ _ _ h => h) (Or.inl ⟨rfl, fun _ _ => rfl⟩) hq0 ?_
      simp only [Act.put, List.setIfInBounds_toArray, List.set_cons_zero, List.set_cons_succ]
      refine takeL (i := 13) (v := (.pointer (some ⟨A0, 16, none⟩))) rfl (by kernel_rfl) (by kernel_rfl) (by kernel_rfl) (fun _ _ _ h => h) (Or.inl ⟨rfl, fun _ _ => rfl⟩) hq0 ?_
      simp only [Act.put, List.setIfInBounds_toArray, List.set_cons_zero, List.set_cons_succ]
      refine takeL (i := 14) (v := _) rfl (by kernel_rfl) (by kernel_rfl) (by kernel_rfl) (fun _ _ _ h => h) (yieldsIf_cell rfl 3 _ rfl ⟨A0, 16, none⟩ rfl (.int .i64 q.d) _ (fun W' hW' => (cell_of_row _ _ _ _ _ _ ((hW'.heap (heap_lt hA_z4) (show ¬ A0 = X0 by omega)).trans hA_z4)).trans rfl) Try.underlying3 rfl) hq0 ?_
      simp only [Act.put, List.setIfInBounds_toArray, List.set_cons_zero, List.set_cons_succ]
      refine runL (i := 3) rfl rfl (by kernel_rfl) (fun K hK => ?_)
      go_simp
      refine (toExt (told_q q.a _)).mono ?_
      rintro e wc1 ⟨rfl, hx⟩
      have hq1 := hq0.trans (hx.mut _)
      have hxr := (hx.block _ (heap_lt hxr)).trans hxr
      refine hK.out _ _ hq1 (fun hHeld => ?_)
      try simp only [Act.put, List.setIfInBounds_toArray, List.set_cons_zero, List.set_cons_succ]
      clear hK K hHeld
      refine runL (i := 7) rfl rfl (by kernel_rfl) (fun K hK => ?_)
      go_simp
      refine (toExt (told_q q.m _)).mono ?_
      rintro e wc2 ⟨rfl, hx⟩
      have hq2 := hq1.trans (hx.mut _)
      have hxr := (hx.block _ (heap_lt hxr)).trans hxr
      refine hK.out _ _ hq2 (fun hHeld => ?_)
      try simp only [Act.put, List.setIfInBounds_toArray, List.set_cons_zero, List.set_cons_succ]
      clear hK K hHeld
      refine runL (i := 11) rfl rfl (by kernel_rfl) (fun K hK => ?_)
      go_simp
      refine (toExt (told_q q.h _)).mono ?_
      rintro e wc3 ⟨rfl, hx⟩
      have hq3 := hq2.trans (hx.mut _)
      have hxr := (hx.block _ (heap_lt hxr)).trans hxr
      refine hK.out _ _ hq3 (fun hHeld => ?_)
      try simp only [Act.put, List.setIfInBounds_toArray, List.set_cons_zero, List.set_cons_succ]
      clear hK K hHeld
      refine runL (i := 15) rfl rfl (by kernel_rfl) (fun K hK => ?_)
      go_simp
      refine (toExt (told_q q.d _)).mono ?_
      rintro e wc4 ⟨rfl, hx⟩
      have hq4 := hq3.trans (hx.mut _)
      have hxr := (hx.block _ (heap_lt hxr)).trans hxr
      refine hK.out _ _ hq4 (fun hHeld => ?_)
      try simp only [Act.put, List.setIfInBounds_toArray, List.set_cons_zero, List.set_cons_succ]
      clear hK K hHeld
      refine takeL (i := 16) (v := (.agg #[.int .i64 (told q.a), .int .i64 (told q.m), .int .i64 (told q.h), .int .i64 (told q.d)])) rfl (by kernel_rfl) (by kernel_rfl) (by kernel_rfl) (fun _ _ _ h => h) (yieldsIf_build rfl 28 _ rfl [(0, .int .i64 (told q.a)), (1, .int .i64 (told q.m)), (2, .int .i64 (told q.h)), (3, .int .i64 (told q.d))] rfl #[.int .i64 (told q.a), .int .i64 (told q.m), .int .i64 (told q.h), .int .i64 (told q.d)] (times_b _ _ _ _)) hq4 ?_
      simp only [Act.put, List.setIfInBounds_toArray, List.set_cons_zero, List.set_cons_succ]
      refine takeL (i := 17) (v := (.pointer (some ⟨X0, 13, none⟩))) rfl (by kernel_rfl) (by kernel_rfl) (by kernel_rfl) (fun _ _ _ h => h) (Or.inl ⟨rfl, fun _ _ => rfl⟩) hq4 ?_
      simp only [Act.put, List.setIfInBounds_toArray, List.set_cons_zero, List.set_cons_succ]
      refine runL (i := 18) rfl rfl (by kernel_rfl) (fun K hK => ?_)
      refine wp_st_at rfl 28 _ _ rfl X0 13 _ #[.int .i64 (told q.a), .int .i64 (told q.m), .int .i64 (told q.h), .int .i64 (told q.d)] _ #[.int .i64 fq.kd, .bool fq.ch, .bool fq.ak, .bool fq.pr, .bool fq.ag, .bool fq.ln, .bool fq.fw, .int .i64 fq.ro, .int .u64 q.r, .int .u32 q.c, .int .u64 q.b, .int .u16 q.p, .int .u16 0, .int .i64 (told q.a), .int .i64 (told q.m), .int .i64 (told q.h), .int .i64 (told q.d)] _ rfl rfl rfl hxr (by exact (by decide : 13 + 4 ≤ 17)) (by kernel_rfl) rfl rfl (fun ws18 hrow18 hm => ?_)
      have hq5 : Mut (fun n => n = X0) z4 ws18 := Mut.trans hq4 hm
      clear hm
      refine hK.out _ _ hq5 (fun hHeld => ?_)
      try simp only [Act.put, List.setIfInBounds_toArray, List.set_cons_zero, List.set_cons_succ]
      clear hK K hHeld
      refine wpAnyH_done (by kernel_rfl) ?_ _
      generalize ws18 = z5 at *
      have hA_z5 : z5.heap[A0]? = some (.cells #[.int .i64 q.kd, .bool q.ch, .bool q.ak, .bool q.pr, .bool q.ag, .bool q.ln, .bool q.fw, .int .i64 q.ro, .int .u64 q.r, .int .u32 q.c, .int .u64 q.b, .int .u16 q.p, .int .u16 q.x, .int .i64 q.a, .int .i64 q.m, .int .i64 q.h, .int .i64 q.d] 30 (0, 0)) := (hq5.heap (heap_lt hA_z4) (show ¬ A0 = X0 by omega)).trans hA_z4
      have hR_z5 : z5.heap[R0]? = some (.cells #[.int .i64 0, .bool false, .bool false, .bool false, .bool false, .bool false, .bool false, .int .i64 0, .int .u64 0, .int .u32 0, .int .u64 0, .int .u16 0, .int .u16 0, .int .i64 0, .int .i64 0, .int .i64 0, .int .i64 0] 30 (0, 0)) := (hq5.heap (heap_lt hR_z4) (show ¬ R0 = X0 by omega)).trans hR_z4
      have E_z5 : Ext w0 z5 := Ext.mutE E_z4 hq5 (fun n hn h => by have h2 : n = X0 := h; omega)
      have hX_z5 : z5.heap[X0]? = some (.cells #[.int .i64 fq.kd, .bool fq.ch, .bool fq.ak, .bool fq.pr, .bool fq.ag, .bool fq.ln, .bool fq.fw, .int .i64 fq.ro, .int .u64 q.r, .int .u32 q.c, .int .u64 q.b, .int .u16 q.p, .int .u16 0, .int .i64 (told q.a), .int .i64 (told q.m), .int .i64 (told q.h), .int .i64 (told q.d)] 30 (0, 0)) := hrow18
      have rA0_z5 : z5.cell? ⟨A0, 0, none⟩ = some (.int .i64 q.kd) := (cell_of_row _ _ _ _ _ _ hA_z5).trans rfl
      clear hA_z4 hR_z4 hX_z4 E_z4 rA0_z4
      clear hq0 hq1 hq2 hq3 hq4 hq5
      go_wp2_with (first
        | fail
        | ((with_reducible refine at_load 30 ?_); refine wpList_load_row rfl 30 _ rfl X0 rfl 30 #[.int .i64 fq.kd, .bool fq.ch, .bool fq.ak, .bool fq.pr, .bool fq.ag, .bool fq.ln, .bool fq.fw, .int .i64 fq.ro, .int .u64 q.r, .int .u32 q.c, .int .u64 q.b, .int .u16 q.p, .int .u16 0, .int .i64 (told q.a), .int .i64 (told q.m), .int .i64 (told q.h), .int .i64 (told q.d)] (0, 0) _ hX_z5 Try.underlying30 rfl (by kernel_rfl) ?_)
        | ((with_reducible refine at_store 30 ?_); refine st_at rfl rfl 30 _ _ rfl R0 0 _ #[.int .i64 fq.kd, .bool fq.ch, .bool fq.ak, .bool fq.pr, .bool fq.ag, .bool fq.ln, .bool fq.fw, .int .i64 fq.ro, .int .u64 q.r, .int .u32 q.c, .int .u64 q.b, .int .u16 q.p, .int .u16 0, .int .i64 (told q.a), .int .i64 (told q.m), .int .i64 (told q.h), .int .i64 (told q.d)] _ #[.int .i64 fq.kd, .bool fq.ch, .bool fq.ak, .bool fq.pr, .bool fq.ag, .bool fq.ln, .bool fq.fw, .int .i64 fq.ro, .int .u64 q.r, .int .u32 q.c, .int .u64 q.b, .int .u16 q.p, .int .u16 0, .int .i64 (told q.a), .int .i64 (told q.m), .int .i64 (told q.h), .int .i64 (told q.d)] _ rfl rfl rfl hR_z5 (by exact (by decide : 0 + 17 ≤ 17)) (by kernel_rfl) rfl rfl ?_
           intro z6 hq hm
           have hR_z6 : z6.heap[R0]? = some (.cells #[.int .i64 fq.kd, .bool fq.ch, .bool fq.ak, .bool fq.pr, .bool fq.ag, .bool fq.ln, .bool fq.fw, .int .i64 fq.ro, .int .u64 q.r, .int .u32 q.c, .int .u64 q.b, .int .u16 q.p, .int .u16 0, .int .i64 (told q.a), .int .i64 (told q.m), .int .i64 (told q.h), .int .i64 (told q.d)] 30 (0, 0)) := hq
           have hA_z6 : z6.heap[A0]? = some (.cells #[.int .i64 q.kd, .bool q.ch, .bool q.ak, .bool q.pr, .bool q.ag, .bool q.ln, .bool q.fw, .int .i64 q.ro, .int .u64 q.r, .int .u32 q.c, .int .u64 q.b, .int .u16 q.p, .int .u16 q.x, .int .i64 q.a, .int .i64 q.m, .int .i64 q.h, .int .i64 q.d] 30 (0, 0)) := (hm.heap (heap_lt hA_z5) (show ¬ A0 = R0 by omega)).trans hA_z5
           have hX_z6 : z6.heap[X0]? = some (.cells #[.int .i64 fq.kd, .bool fq.ch, .bool fq.ak, .bool fq.pr, .bool fq.ag, .bool fq.ln, .bool fq.fw, .int .i64 fq.ro, .int .u64 q.r, .int .u32 q.c, .int .u64 q.b, .int .u16 q.p, .int .u16 0, .int .i64 (told q.a), .int .i64 (told q.m), .int .i64 (told q.h), .int .i64 (told q.d)] 30 (0, 0)) := (hm.heap (heap_lt hX_z5) (show ¬ X0 = R0 by omega)).trans hX_z5
           have E_z6 : Ext w0 z6 := Ext.mutE E_z5 hm (fun n hn h => by have h2 : n = R0 := h; omega)
           have rA0_z6 : z6.cell? ⟨A0, 0, none⟩ = some (.int .i64 q.kd) := (cell_of_row _ _ _ _ _ _ hA_z6).trans rfl
           clear hA_z5 hR_z5 hX_z5 E_z5 rA0_z5
           clear hq hm))
      refine bodyPost_ret (results_cell_row rfl _ _ _ _ _ (0, 0) _ rfl hR_z6 Try.underlying30 rfl (by kernel_rfl)) rfl ?_
      refine ⟨?_, hE_w0.trans E_z6⟩
      unfold plainM
      rw [if_neg (by have := HK.out; omega), if_pos (by have := HK.out; omega), HF.out]
    · refine wp_al_zero 30 rfl MZ zero_msg (fun X0 wa5 hrow5 hsz5 hx => ?_)
      have hq2 := hq1.trans hx
      have hlo5 : z1.heap.size ≤ X0 := by have := hq1.size; omega
      clear hx
      refine hK.out _ _ hq2 (fun hHeld => ?_)
      try simp only [Act.put, List.setIfInBounds_toArray, List.set_cons_zero, List.set_cons_succ]
      clear hK K hHeld
      refine runL (i := 4) rfl rfl (by kernel_rfl) (fun K hK => ?_)
      go_simp
      refine (HG.out _).mono ?_
      rintro e wc3 ⟨rfl, hx⟩
      have hq3 := hq2.trans hx
      have hrow5 := (hx.block _ (heap_lt hrow5)).trans hrow5
      refine hK.out _ _ hq3 (fun hHeld => ?_)
      try simp only [Act.put, List.setIfInBounds_toArray, List.set_cons_zero, List.set_cons_succ]
      clear hK K hHeld
      refine runL (i := 6) rfl rfl (by kernel_rfl) (fun K hK => ?_)
      refine wp_st_at rfl 30 _ _ rfl X0 0 _ #[.int .i64 fq.kd, .bool fq.ch, .bool fq.ak, .bool fq.pr, .bool fq.ag, .bool fq.ln, .bool fq.fw, .int .i64 fq.ro, .int .u64 fq.r, .int .u32 fq.c, .int .u64 fq.b, .int .u16 fq.p, .int .u16 fq.x, .int .i64 fq.a, .int .i64 fq.m, .int .i64 fq.h, .int .i64 fq.d] _ #[.int .i64 fq.kd, .bool fq.ch, .bool fq.ak, .bool fq.pr, .bool fq.ag, .bool fq.ln, .bool fq.fw, .int .i64 fq.ro, .int .u64 fq.r, .int .u32 fq.c, .int .u64 fq.b, .int .u16 fq.p, .int .u16 fq.x, .int .i64 fq.a, .int .i64 fq.m, .int .i64 fq.h, .int .i64 fq.d] _ rfl rfl rfl hrow5 (by exact (by decide : 0 + 17 ≤ 17)) (by kernel_rfl) rfl rfl (fun ws6 hrow6 hm => ?_)
      have hq4 : Ext z1 ws6 := Ext.mutE hq3 hm (fun n hn h => by have h2 : n = X0 := h; omega)
      clear hm
      refine hK.out _ _ hq4 (fun hHeld => ?_)
      try simp only [Act.put, List.setIfInBounds_toArray, List.set_cons_zero, List.set_cons_succ]
      clear hK K hHeld
      refine wpAnyH_done (by kernel_rfl) ?_ _
      generalize ws6 = z2 at *
      have hA_z2 : z2.heap[A0]? = some (.cells #[.int .i64 q.kd, .bool q.ch, .bool q.ak, .bool q.pr, .bool q.ag, .bool q.ln, .bool q.fw, .int .i64 q.ro, .int .u64 q.r, .int .u32 q.c, .int .u64 q.b, .int .u16 q.p, .int .u16 q.x, .int .i64 q.a, .int .i64 q.m, .int .i64 q.h, .int .i64 q.d] 30 (0, 0)) := (hq4.block _ (heap_lt hA_z1)).trans hA_z1
      have hR_z2 : z2.heap[R0]? = some (.cells #[.int .i64 0, .bool false, .bool false, .bool false, .bool false, .bool false, .bool false, .int .i64 0, .int .u64 0, .int .u32 0, .int .u64 0, .int .u16 0, .int .u16 0, .int .i64 0, .int .i64 0, .int .i64 0, .int .i64 0] 30 (0, 0)) := (hq4.block _ (heap_lt hR_z1)).trans hR_z1
      have E_z2 : Ext w0 z2 := E_z1.trans hq4
      have hX_z2 : z2.heap[X0]? = some (.cells #[.int .i64 fq.kd, .bool fq.ch, .bool fq.ak, .bool fq.pr, .bool fq.ag, .bool fq.ln, .bool fq.fw, .int .i64 fq.ro, .int .u64 fq.r, .int .u32 fq.c, .int .u64 fq.b, .int .u16 fq.p, .int .u16 fq.x, .int .i64 fq.a, .int .i64 fq.m, .int .i64 fq.h, .int .i64 fq.d] 30 (0, 0)) := hrow6
      have hb_X0 : w0.heap.size ≤ X0 := by have h1 := E_z1.size; have h2 := hlo5; omega
      have hn_A0X0 : A0 ≠ X0 := by have h1 := heap_lt hA_z1; have h2 := hlo5; omega
      have hn_R0X0 : R0 ≠ X0 := by have h1 := heap_lt hR_z1; have h2 := hlo5; omega
      have rA0_z2 : z2.cell? ⟨A0, 0, none⟩ = some (.int .i64 q.kd) := (cell_of_row _ _ _ _ _ _ hA_z2).trans rfl
      clear hA_z1 hR_z1 E_z1 rA0_z1
      clear hq0 hq1 hq2 hq3 hq4
      go_wp2_with (first
        | fail
        | ((with_reducible refine at_load 26 ?_); refine wpList_load_mid rfl 26 _ rfl A0 8 rfl [.int .u64 q.r, .int .u32 q.c, .int .u64 q.b, .int .u16 q.p, .int .u16 q.x] _ (row_range hA_z2 8 (by rfl)) Try.underlying26 rfl (by kernel_rfl) ?_)
        | ((with_reducible refine at_store 26 ?_); refine st_at rfl rfl 26 _ _ rfl X0 8 _ #[.int .u64 q.r, .int .u32 q.c, .int .u64 q.b, .int .u16 q.p, .int .u16 q.x] _ #[.int .i64 fq.kd, .bool fq.ch, .bool fq.ak, .bool fq.pr, .bool fq.ag, .bool fq.ln, .bool fq.fw, .int .i64 fq.ro, .int .u64 q.r, .int .u32 q.c, .int .u64 q.b, .int .u16 q.p, .int .u16 q.x, .int .i64 fq.a, .int .i64 fq.m, .int .i64 fq.h, .int .i64 fq.d] _ rfl rfl rfl hX_z2 (by exact (by decide : 8 + 5 ≤ 17)) (by kernel_rfl) rfl rfl ?_
           intro z3 hq hm
           have hX_z3 : z3.heap[X0]? = some (.cells #[.int .i64 fq.kd, .bool fq.ch, .bool fq.ak, .bool fq.pr, .bool fq.ag, .bool fq.ln, .bool fq.fw, .int .i64 fq.ro, .int .u64 q.r, .int .u32 q.c, .int .u64 q.b, .int .u16 q.p, .int .u16 q.x, .int .i64 fq.a, .int .i64 fq.m, .int .i64 fq.h, .int .i64 fq.d] 30 (0, 0)) := hq
           have hA_z3 : z3.heap[A0]? = some (.cells #[.int .i64 q.kd, .bool q.ch, .bool q.ak, .bool q.pr, .bool q.ag, .bool q.ln, .bool q.fw, .int .i64 q.ro, .int .u64 q.r, .int .u32 q.c, .int .u64 q.b, .int .u16 q.p, .int .u16 q.x, .int .i64 q.a, .int .i64 q.m, .int .i64 q.h, .int .i64 q.d] 30 (0, 0)) := (hm.heap (heap_lt hA_z2) (show ¬ A0 = X0 by omega)).trans hA_z2
           have hR_z3 : z3.heap[R0]? = some (.cells #[.int .i64 0, .bool false, .bool false, .bool false, .bool false, .bool false, .bool false, .int .i64 0, .int .u64 0, .int .u32 0, .int .u64 0, .int .u16 0, .int .u16 0, .int .i64 0, .int .i64 0, .int .i64 0, .int .i64 0] 30 (0, 0)) := (hm.heap (heap_lt hR_z2) (show ¬ R0 = X0 by omega)).trans hR_z2
           have E_z3 : Ext w0 z3 := Ext.mutE E_z2 hm (fun n hn h => by have h2 : n = X0 := h; omega)
           have rA0_z3 : z3.cell? ⟨A0, 0, none⟩ = some (.int .i64 q.kd) := (cell_of_row _ _ _ _ _ _ hA_z3).trans rfl
           clear hA_z2 hR_z2 hX_z2 E_z2 rA0_z2
           clear hq hm)
        | ((with_reducible refine at_store 24 ?_); refine st_at rfl rfl 24 _ _ rfl X0 12 _ #[.int .u16 0] _ #[.int .i64 fq.kd, .bool fq.ch, .bool fq.ak, .bool fq.pr, .bool fq.ag, .bool fq.ln, .bool fq.fw, .int .i64 fq.ro, .int .u64 q.r, .int .u32 q.c, .int .u64 q.b, .int .u16 q.p, .int .u16 0, .int .i64 fq.a, .int .i64 fq.m, .int .i64 fq.h, .int .i64 fq.d] _ rfl rfl rfl hX_z3 (by exact (by decide : 12 + 1 ≤ 17)) (by kernel_rfl) rfl rfl ?_
           intro z4 hq hm
           have hX_z4 : z4.heap[X0]? = some (.cells #[.int .i64 fq.kd, .bool fq.ch, .bool fq.ak, .bool fq.pr, .bool fq.ag, .bool fq.ln, .bool fq.fw, .int .i64 fq.ro, .int .u64 q.r, .int .u32 q.c, .int .u64 q.b, .int .u16 q.p, .int .u16 0, .int .i64 fq.a, .int .i64 fq.m, .int .i64 fq.h, .int .i64 fq.d] 30 (0, 0)) := hq
           have hA_z4 : z4.heap[A0]? = some (.cells #[.int .i64 q.kd, .bool q.ch, .bool q.ak, .bool q.pr, .bool q.ag, .bool q.ln, .bool q.fw, .int .i64 q.ro, .int .u64 q.r, .int .u32 q.c, .int .u64 q.b, .int .u16 q.p, .int .u16 q.x, .int .i64 q.a, .int .i64 q.m, .int .i64 q.h, .int .i64 q.d] 30 (0, 0)) := (hm.heap (heap_lt hA_z3) (show ¬ A0 = X0 by omega)).trans hA_z3
           have hR_z4 : z4.heap[R0]? = some (.cells #[.int .i64 0, .bool false, .bool false, .bool false, .bool false, .bool false, .bool false, .int .i64 0, .int .u64 0, .int .u32 0, .int .u64 0, .int .u16 0, .int .u16 0, .int .i64 0, .int .i64 0, .int .i64 0, .int .i64 0] 30 (0, 0)) := (hm.heap (heap_lt hR_z3) (show ¬ R0 = X0 by omega)).trans hR_z3
           have E_z4 : Ext w0 z4 := Ext.mutE E_z3 hm (fun n hn h => by have h2 : n = X0 := h; omega)
           have rA0_z4 : z4.cell? ⟨A0, 0, none⟩ = some (.int .i64 q.kd) := (cell_of_row _ _ _ _ _ _ hA_z4).trans rfl
           clear hA_z3 hR_z3 hX_z3 E_z3 rA0_z3
           clear hq hm))
      refine beginL (S := fun W' => Mut (fun n => n = X0) z4 W') (by kernel_rfl) ?_
      intro wd hqx
      have hq0 : Mut (fun n => n = X0) z4 wd := hqx.mut _
      have hxr := (hqx.block _ (heap_lt hX_z4)).trans hX_z4
      refine takeL (i := 0) (v := (.pointer (some ⟨A0, 13, none⟩))) rfl (by kernel_rfl) (by kernel_rfl) (by kernel_rfl) (fun _ _ _ h => h) (Or.inl ⟨rfl, fun _ _ => rfl⟩) hq0 ?_
      simp only [Act.put, List.setIfInBounds_toArray, List.set_cons_zero, List.set_cons_succ]
      refine takeL (i := 1) (v := (.pointer (some ⟨A0, 13, none⟩))) rfl (by kernel_rfl) (by kernel_rfl) (by kernel_rfl) (fun _ _ _ h => h) (Or.inl ⟨rfl, fun _ _ => rfl⟩) hq0 ?_
      simp only [Act.put, List.setIfInBounds_toArray, List.set_cons_zero, List.set_cons_succ]
      refine takeL (i := 2) (v := _) rfl (by kernel_rfl) (by kernel_rfl) (by kernel_rfl) (fun _ _ _ h => h) (yieldsIf_cell rfl 3 _ rfl ⟨A0, 13, none⟩ rfl (.int .i64 q.a) _ (fun W' hW' => (cell_of_row _ _ _ _ _ _ ((hW'.heap (heap_lt hA_z4) (show ¬ A0 = X0 by omega)).trans hA_z4)).trans rfl) Try.underlying3 rfl) hq0 ?_
      simp only [Act.put, List.setIfInBounds_toArray, List.set_cons_zero, List.set_cons_succ]
      refine takeL (i := 4) (v := (.pointer (some ⟨A0, 13, none⟩))) rfl (by kernel_rfl) (by kernel_rfl) (by kernel_rfl) (fun _ _ _ h => h) (Or.inl ⟨rfl, fun _ _ => rfl⟩) hq0 ?_
      simp only [Act.put, List.setIfInBounds_toArray, List.set_cons_zero, List.set_cons_succ]
      refine takeL (i := 5) (v := (.pointer (some ⟨A0, 14, none⟩))) rfl (by kernel_rfl) (by kernel_rfl) (by kernel_rfl) (fun _ _ _ h => h) (Or.inl ⟨rfl, fun _ _ => rfl⟩) hq0 ?_
      simp only [Act.put, List.setIfInBounds_toArray, List.set_cons_zero, List.set_cons_succ]
      refine takeL (i := 6) (v := _) rfl (by kernel_rfl) (by kernel_rfl) (by kernel_rfl) (fun _ _ _ h => h) (yieldsIf_cell rfl 3 _ rfl ⟨A0, 14, none⟩ rfl (.int .i64 q.m) _ (fun W' hW' => (cell_of_row _ _ _ _ _ _ ((hW'.heap (heap_lt hA_z4) (show ¬ A0 = X0 by omega)).trans hA_z4)).trans rfl) Try.underlying3 rfl) hq0 ?_
      simp only [Act.put, List.setIfInBounds_toArray, List.set_cons_zero, List.set_cons_succ]
      refine takeL (i := 8) (v := (.pointer (some ⟨A0, 13, none⟩))) rfl (by kernel_rfl) (by kernel_rfl) (by kernel_rfl) (fun _ _ _ h => h) (Or.inl ⟨rfl, fun _ _ => rfl⟩) hq0 ?_
      simp only [Act.put, List.setIfInBounds_toArray, List.set_cons_zero, List.set_cons_succ]
      refine takeL (i := 9) (v := (.pointer (some ⟨A0, 15, none⟩))) rfl (by kernel_rfl) (by kernel_rfl) (by kernel_rfl) (fun _ _ _ h => h) (Or.inl ⟨rfl, fun _ _ => rfl⟩) hq0 ?_
      simp only [Act.put, List.setIfInBounds_toArray, List.set_cons_zero, List.set_cons_succ]
      refine takeL (i := 10) (v := _) rfl (by kernel_rfl) (by kernel_rfl) (by kernel_rfl) (fun _ _ _ h => h) (yieldsIf_cell rfl 3 _ rfl ⟨A0, 15, none⟩ rfl (.int .i64 q.h) _ (fun W' hW' => (cell_of_row _ _ _ _ _ _ ((hW'.heap (heap_lt hA_z4) (show ¬ A0 = X0 by omega)).trans hA_z4)).trans rfl) Try.underlying3 rfl) hq0 ?_
      simp only [Act.put, List.setIfInBounds_toArray, List.set_cons_zero, List.set_cons_succ]
      refine takeL (i := 12) (v := (.pointer (some ⟨A0, 13, none⟩))) rfl (by kernel_rfl) (by kernel_rfl) (by kernel_rfl) (fun _ _ _ h => h) (Or.inl ⟨rfl, fun _ _ => rfl⟩) hq0 ?_
      simp only [Act.put, List.setIfInBounds_toArray, List.set_cons_zero, List.set_cons_succ]
      refine takeL (i := 13) (v := (.pointer (some ⟨A0, 16, none⟩))) rfl (by kernel_rfl) (by kernel_rfl) (by kernel_rfl) (fun _ _ _ h => h) (Or.inl ⟨rfl, fun _ _ => rfl⟩) hq0 ?_
      simp only [Act.put, List.setIfInBounds_toArray, List.set_cons_zero, List.set_cons_succ]
      refine takeL (i := 14) (v := _) rfl (by kernel_rfl) (by kernel_rfl) (by kernel_rfl) (fun _ _ _ h => h) (yieldsIf_cell rfl 3 _ rfl ⟨A0, 16, none⟩ rfl (.int .i64 q.d) _ (fun W' hW' => (cell_of_row _ _ _ _ _ _ ((hW'.heap (heap_lt hA_z4) (show ¬ A0 = X0 by omega)).trans hA_z4)).trans rfl) Try.underlying3 rfl) hq0 ?_
      simp only [Act.put, List.setIfInBounds_toArray, List.set_cons_zero, List.set_cons_succ]
      refine runL (i := 3) rfl rfl (by kernel_rfl) (fun K hK => ?_)
      go_simp
      refine (toExt (told_q q.a _)).mono ?_
      rintro e wc1 ⟨rfl, hx⟩
      have hq1 := hq0.trans (hx.mut _)
      have hxr := (hx.block _ (heap_lt hxr)).trans hxr
      refine hK.out _ _ hq1 (fun hHeld => ?_)
      try simp only [Act.put, List.setIfInBounds_toArray, List.set_cons_zero, List.set_cons_succ]
      clear hK K hHeld
      refine runL (i := 7) rfl rfl (by kernel_rfl) (fun K hK => ?_)
      go_simp
      refine (toExt (told_q q.m _)).mono ?_
      rintro e wc2 ⟨rfl, hx⟩
      have hq2 := hq1.trans (hx.mut _)
      have hxr := (hx.block _ (heap_lt hxr)).trans hxr
      refine hK.out _ _ hq2 (fun hHeld => ?_)
      try simp only [Act.put, List.setIfInBounds_toArray, List.set_cons_zero, List.set_cons_succ]
      clear hK K hHeld
      refine runL (i := 11) rfl rfl (by kernel_rfl) (fun K hK => ?_)
      go_simp
      refine (toExt (told_q q.h _)).mono ?_
      rintro e wc3 ⟨rfl, hx⟩
      have hq3 := hq2.trans (hx.mut _)
      have hxr := (hx.block _ (heap_lt hxr)).trans hxr
      refine hK.out _ _ hq3 (fun hHeld => ?_)
      try simp only [Act.put, List.setIfInBounds_toArray, List.set_cons_zero, List.set_cons_succ]
      clear hK K hHeld
      refine runL (i := 15) rfl rfl (by kernel_rfl) (fun K hK => ?_)
      go_simp
      refine (toExt (told_q q.d _)).mono ?_
      rintro e wc4 ⟨rfl, hx⟩
      have hq4 := hq3.trans (hx.mut _)
      have hxr := (hx.block _ (heap_lt hxr)).trans hxr
      refine hK.out _ _ hq4 (fun hHeld => ?_)
      try simp only [Act.put, List.setIfInBounds_toArray, List.set_cons_zero, List.set_cons_succ]
      clear hK K hHeld
      refine takeL (i := 16) (v := (.agg #[.int .i64 (told q.a), .int .i64 (told q.m), .int .i64 (told q.h), .int .i64 (told q.d)])) rfl (by kernel_rfl) (by kernel_rfl) (by kernel_rfl) (fun _ _ _ h => h) (yieldsIf_build rfl 28 _ rfl [(0, .int .i64 (told q.a)), (1, .int .i64 (told q.m)), (2, .int .i64 (told q.h)), (3, .int .i64 (told q.d))] rfl #[.int .i64 (told q.a), .int .i64 (told q.m), .int .i64 (told q.h), .int .i64 (told q.d)] (times_b _ _ _ _)) hq4 ?_
      simp only [Act.put, List.setIfInBounds_toArray, List.set_cons_zero, List.set_cons_succ]
      refine takeL (i := 17) (v := (.pointer (some ⟨X0, 13, none⟩))) rfl (by kernel_rfl) (by kernel_rfl) (by kernel_rfl) (fun _ _ _ h => h) (Or.inl ⟨rfl, fun _ _ => rfl⟩) hq4 ?_
      simp only [Act.put, List.setIfInBounds_toArray, List.set_cons_zero, List.set_cons_succ]
      refine runL (i := 18) rfl rfl (by kernel_rfl) (fun K hK => ?_)
      refine wp_st_at rfl 28 _ _ rfl X0 13 _ #[.int .i64 (told q.a), .int .i64 (told q.m), .int .i64 (told q.h), .int .i64 (told q.d)] _ #[.int .i64 fq.kd, .bool fq.ch, .bool fq.ak, .bool fq.pr, .bool fq.ag, .bool fq.ln, .bool fq.fw, .int .i64 fq.ro, .int .u64 q.r, .int .u32 q.c, .int .u64 q.b, .int .u16 q.p, .int .u16 0, .int .i64 (told q.a), .int .i64 (told q.m), .int .i64 (told q.h), .int .i64 (told q.d)] _ rfl rfl rfl hxr (by exact (by decide : 13 + 4 ≤ 17)) (by kernel_rfl) rfl rfl (fun ws18 hrow18 hm => ?_)
      have hq5 : Mut (fun n => n = X0) z4 ws18 := Mut.trans hq4 hm
      clear hm
      refine hK.out _ _ hq5 (fun hHeld => ?_)
      try simp only [Act.put, List.setIfInBounds_toArray, List.set_cons_zero, List.set_cons_succ]
      clear hK K hHeld
      refine wpAnyH_done (by kernel_rfl) ?_ _
      generalize ws18 = z5 at *
      have hA_z5 : z5.heap[A0]? = some (.cells #[.int .i64 q.kd, .bool q.ch, .bool q.ak, .bool q.pr, .bool q.ag, .bool q.ln, .bool q.fw, .int .i64 q.ro, .int .u64 q.r, .int .u32 q.c, .int .u64 q.b, .int .u16 q.p, .int .u16 q.x, .int .i64 q.a, .int .i64 q.m, .int .i64 q.h, .int .i64 q.d] 30 (0, 0)) := (hq5.heap (heap_lt hA_z4) (show ¬ A0 = X0 by omega)).trans hA_z4
      have hR_z5 : z5.heap[R0]? = some (.cells #[.int .i64 0, .bool false, .bool false, .bool false, .bool false, .bool false, .bool false, .int .i64 0, .int .u64 0, .int .u32 0, .int .u64 0, .int .u16 0, .int .u16 0, .int .i64 0, .int .i64 0, .int .i64 0, .int .i64 0] 30 (0, 0)) := (hq5.heap (heap_lt hR_z4) (show ¬ R0 = X0 by omega)).trans hR_z4
      have E_z5 : Ext w0 z5 := Ext.mutE E_z4 hq5 (fun n hn h => by have h2 : n = X0 := h; omega)
      have hX_z5 : z5.heap[X0]? = some (.cells #[.int .i64 fq.kd, .bool fq.ch, .bool fq.ak, .bool fq.pr, .bool fq.ag, .bool fq.ln, .bool fq.fw, .int .i64 fq.ro, .int .u64 q.r, .int .u32 q.c, .int .u64 q.b, .int .u16 q.p, .int .u16 0, .int .i64 (told q.a), .int .i64 (told q.m), .int .i64 (told q.h), .int .i64 (told q.d)] 30 (0, 0)) := hrow18
      have rA0_z5 : z5.cell? ⟨A0, 0, none⟩ = some (.int .i64 q.kd) := (cell_of_row _ _ _ _ _ _ hA_z5).trans rfl
      clear hA_z4 hR_z4 hX_z4 E_z4 rA0_z4
      clear hq0 hq1 hq2 hq3 hq4 hq5
      go_wp2_with (first
        | fail
        | ((with_reducible refine at_load 30 ?_); refine wpList_load_row rfl 30 _ rfl X0 rfl 30 #[.int .i64 fq.kd, .bool fq.ch, .bool fq.ak, .bool fq.pr, .bool fq.ag, .bool fq.ln, .bool fq.fw, .int .i64 fq.ro, .int .u64 q.r, .int .u32 q.c, .int .u64 q.b, .int .u16 q.p, .int .u16 0, .int .i64 (told q.a), .int .i64 (told q.m), .int .i64 (told q.h), .int .i64 (told q.d)] (0, 0) _ hX_z5 Try.underlying30 rfl (by kernel_rfl) ?_)
        | ((with_reducible refine at_store 30 ?_); refine st_at rfl rfl 30 _ _ rfl R0 0 _ #[.int .i64 fq.kd, .bool fq.ch, .bool fq.ak, .bool fq.pr, .bool fq.ag, .bool fq.ln, .bool fq.fw, .int .i64 fq.ro, .int .u64 q.r, .int .u32 q.c, .int .u64 q.b, .int .u16 q.p, .int .u16 0, .int .i64 (told q.a), .int .i64 (told q.m), .int .i64 (told q.h), .int .i64 (told q.d)] _ #[.int .i64 fq.kd, .bool fq.ch, .bool fq.ak, .bool fq.pr, .bool fq.ag, .bool fq.ln, .bool fq.fw, .int .i64 fq.ro, .int .u64 q.r, .int .u32 q.c, .int .u64 q.b, .int .u16 q.p, .int .u16 0, .int .i64 (told q.a), .int .i64 (told q.m), .int .i64 (told q.h), .int .i64 (told q.d)] _ rfl rfl rfl hR_z5 (by exact (by decide : 0 + 17 ≤ 17)) (by kernel_rfl) rfl rfl ?_
           intro z6 hq hm
           have hR_z6 : z6.heap[R0]? = some (.cells #[.int .i64 fq.kd, .bool fq.ch, .bool fq.ak, .bool fq.pr, .bool fq.ag, .bool fq.ln, .bool fq.fw, .int .i64 fq.ro, .int .u64 q.r, .int .u32 q.c, .int .u64 q.b, .int .u16 q.p, .int .u16 0, .int .i64 (told q.a), .int .i64 (told q.m), .int .i64 (told q.h), .int .i64 (told q.d)] 30 (0, 0)) := hq
           have hA_z6 : z6.heap[A0]? = some (.cells #[.int .i64 q.kd, .bool q.ch, .bool q.ak, .bool q.pr, .bool q.ag, .bool q.ln, .bool q.fw, .int .i64 q.ro, .int .u64 q.r, .int .u32 q.c, .int .u64 q.b, .int .u16 q.p, .int .u16 q.x, .int .i64 q.a, .int .i64 q.m, .int .i64 q.h, .int .i64 q.d] 30 (0, 0)) := (hm.heap (heap_lt hA_z5) (show ¬ A0 = R0 by omega)).trans hA_z5
           have hX_z6 : z6.heap[X0]? = some (.cells #[.int .i64 fq.kd, .bool fq.ch, .bool fq.ak, .bool fq.pr, .bool fq.ag, .bool fq.ln, .bool fq.fw, .int .i64 fq.ro, .int .u64 q.r, .int .u32 q.c, .int .u64 q.b, .int .u16 q.p, .int .u16 0, .int .i64 (told q.a), .int .i64 (told q.m), .int .i64 (told q.h), .int .i64 (told q.d)] 30 (0, 0)) := (hm.heap (heap_lt hX_z5) (show ¬ X0 = R0 by omega)).trans hX_z5
           have E_z6 : Ext w0 z6 := Ext.mutE E_z5 hm (fun n hn h => by have h2 : n = R0 := h; omega)
           have rA0_z6 : z6.cell? ⟨A0, 0, none⟩ = some (.int .i64 q.kd) := (cell_of_row _ _ _ _ _ _ hA_z6).trans rfl
           clear hA_z5 hR_z5 hX_z5 E_z5 rA0_z5
           clear hq hm))
      refine bodyPost_ret (results_cell_row rfl _ _ _ _ _ (0, 0) _ rfl hR_z6 Try.underlying30 rfl (by kernel_rfl)) rfl ?_
      refine ⟨?_, hE_w0.trans E_z6⟩
      unfold plainM
      rw [if_neg (by have := HK.out; omega), if_pos (by have := HK.out; omega), HF.out]
  · refine wp_al_zero 30 rfl MZ zero_msg (fun X0 wa5 hrow5 hsz5 hx => ?_)
    have hq1 := hq0.trans hx
    have hlo5 : z1.heap.size ≤ X0 := by have := hq0.size; omega
    clear hx
    refine hK.out _ _ hq1 (fun hHeld => ?_)
    try simp only [Act.put, List.setIfInBounds_toArray, List.set_cons_zero, List.set_cons_succ]
    clear hK K hHeld
    refine runL (i := 3) rfl rfl (by kernel_rfl) (fun K hK => ?_)
    go_simp
    refine (flags_q q _).mono ?_
    rintro e wc2 ⟨rfl, hx⟩
    have hq2 := hq1.trans hx
    have hrow5 := (hx.block _ (heap_lt hrow5)).trans hrow5
    refine hK.out _ _ hq2 (fun hHeld => ?_)
    try simp only [Act.put, List.setIfInBounds_toArray, List.set_cons_zero, List.set_cons_succ]
    clear hK K hHeld
    refine runL (i := 4) rfl rfl (by kernel_rfl) (fun K hK => ?_)
    go_simp
    refine (HG.out _).mono ?_
    rintro e wc3 ⟨rfl, hx⟩
    have hq3 := hq2.trans hx
    have hrow5 := (hx.block _ (heap_lt hrow5)).trans hrow5
    refine hK.out _ _ hq3 (fun hHeld => ?_)
    try simp only [Act.put, List.setIfInBounds_toArray, List.set_cons_zero, List.set_cons_succ]
    clear hK K hHeld
    refine runL (i := 6) rfl rfl (by kernel_rfl) (fun K hK => ?_)
    refine wp_st_at rfl 30 _ _ rfl X0 0 _ #[.int .i64 fq.kd, .bool fq.ch, .bool fq.ak, .bool fq.pr, .bool fq.ag, .bool fq.ln, .bool fq.fw, .int .i64 fq.ro, .int .u64 fq.r, .int .u32 fq.c, .int .u64 fq.b, .int .u16 fq.p, .int .u16 fq.x, .int .i64 fq.a, .int .i64 fq.m, .int .i64 fq.h, .int .i64 fq.d] _ #[.int .i64 fq.kd, .bool fq.ch, .bool fq.ak, .bool fq.pr, .bool fq.ag, .bool fq.ln, .bool fq.fw, .int .i64 fq.ro, .int .u64 fq.r, .int .u32 fq.c, .int .u64 fq.b, .int .u16 fq.p, .int .u16 fq.x, .int .i64 fq.a, .int .i64 fq.m, .int .i64 fq.h, .int .i64 fq.d] _ rfl rfl rfl hrow5 (by exact (by decide : 0 + 17 ≤ 17)) (by kernel_rfl) rfl rfl (fun ws6 hrow6 hm => ?_)
    have hq4 : Ext z1 ws6 := Ext.mutE hq3 hm (fun n hn h => by have h2 : n = X0 := h; omega)
    clear hm
    refine hK.out _ _ hq4 (fun hHeld => ?_)
    try simp only [Act.put, List.setIfInBounds_toArray, List.set_cons_zero, List.set_cons_succ]
    clear hK K hHeld
    refine wpAnyH_done (by kernel_rfl) ?_ _
    generalize ws6 = z2 at *
    have hA_z2 : z2.heap[A0]? = some (.cells #[.int .i64 q.kd, .bool q.ch, .bool q.ak, .bool q.pr, .bool q.ag, .bool q.ln, .bool q.fw, .int .i64 q.ro, .int .u64 q.r, .int .u32 q.c, .int .u64 q.b, .int .u16 q.p, .int .u16 q.x, .int .i64 q.a, .int .i64 q.m, .int .i64 q.h, .int .i64 q.d] 30 (0, 0)) := (hq4.block _ (heap_lt hA_z1)).trans hA_z1
    have hR_z2 : z2.heap[R0]? = some (.cells #[.int .i64 0, .bool false, .bool false, .bool false, .bool false, .bool false, .bool false, .int .i64 0, .int .u64 0, .int .u32 0, .int .u64 0, .int .u16 0, .int .u16 0, .int .i64 0, .int .i64 0, .int .i64 0, .int .i64 0] 30 (0, 0)) := (hq4.block _ (heap_lt hR_z1)).trans hR_z1
    have E_z2 : Ext w0 z2 := E_z1.trans hq4
    have hX_z2 : z2.heap[X0]? = some (.cells #[.int .i64 fq.kd, .bool fq.ch, .bool fq.ak, .bool fq.pr, .bool fq.ag, .bool fq.ln, .bool fq.fw, .int .i64 fq.ro, .int .u64 fq.r, .int .u32 fq.c, .int .u64 fq.b, .int .u16 fq.p, .int .u16 fq.x, .int .i64 fq.a, .int .i64 fq.m, .int .i64 fq.h, .int .i64 fq.d] 30 (0, 0)) := hrow6
    have hb_X0 : w0.heap.size ≤ X0 := by have h1 := E_z1.size; have h2 := hlo5; omega
    have hn_A0X0 : A0 ≠ X0 := by have h1 := heap_lt hA_z1; have h2 := hlo5; omega
    have hn_R0X0 : R0 ≠ X0 := by have h1 := heap_lt hR_z1; have h2 := hlo5; omega
    have rA0_z2 : z2.cell? ⟨A0, 0, none⟩ = some (.int .i64 q.kd) := (cell_of_row _ _ _ _ _ _ hA_z2).trans rfl
    clear hA_z1 hR_z1 E_z1 rA0_z1
    clear hq0 hq1 hq2 hq3 hq4
    go_wp2_with (first
      | fail
      | ((with_reducible refine at_load 26 ?_); refine wpList_load_mid rfl 26 _ rfl A0 8 rfl [.int .u64 q.r, .int .u32 q.c, .int .u64 q.b, .int .u16 q.p, .int .u16 q.x] _ (row_range hA_z2 8 (by rfl)) Try.underlying26 rfl (by kernel_rfl) ?_)
      | ((with_reducible refine at_store 26 ?_); refine st_at rfl rfl 26 _ _ rfl X0 8 _ #[.int .u64 q.r, .int .u32 q.c, .int .u64 q.b, .int .u16 q.p, .int .u16 q.x] _ #[.int .i64 fq.kd, .bool fq.ch, .bool fq.ak, .bool fq.pr, .bool fq.ag, .bool fq.ln, .bool fq.fw, .int .i64 fq.ro, .int .u64 q.r, .int .u32 q.c, .int .u64 q.b, .int .u16 q.p, .int .u16 q.x, .int .i64 fq.a, .int .i64 fq.m, .int .i64 fq.h, .int .i64 fq.d] _ rfl rfl rfl hX_z2 (by exact (by decide : 8 + 5 ≤ 17)) (by kernel_rfl) rfl rfl ?_
         intro z3 hq hm
         have hX_z3 : z3.heap[X0]? = some (.cells #[.int .i64 fq.kd, .bool fq.ch, .bool fq.ak, .bool fq.pr, .bool fq.ag, .bool fq.ln, .bool fq.fw, .int .i64 fq.ro, .int .u64 q.r, .int .u32 q.c, .int .u64 q.b, .int .u16 q.p, .int .u16 q.x, .int .i64 fq.a, .int .i64 fq.m, .int .i64 fq.h, .int .i64 fq.d] 30 (0, 0)) := hq
         have hA_z3 : z3.heap[A0]? = some (.cells #[.int .i64 q.kd, .bool q.ch, .bool q.ak, .bool q.pr, .bool q.ag, .bool q.ln, .bool q.fw, .int .i64 q.ro, .int .u64 q.r, .int .u32 q.c, .int .u64 q.b, .int .u16 q.p, .int .u16 q.x, .int .i64 q.a, .int .i64 q.m, .int .i64 q.h, .int .i64 q.d] 30 (0, 0)) := (hm.heap (heap_lt hA_z2) (show ¬ A0 = X0 by omega)).trans hA_z2
         have hR_z3 : z3.heap[R0]? = some (.cells #[.int .i64 0, .bool false, .bool false, .bool false, .bool false, .bool false, .bool false, .int .i64 0, .int .u64 0, .int .u32 0, .int .u64 0, .int .u16 0, .int .u16 0, .int .i64 0, .int .i64 0, .int .i64 0, .int .i64 0] 30 (0, 0)) := (hm.heap (heap_lt hR_z2) (show ¬ R0 = X0 by omega)).trans hR_z2
         have E_z3 : Ext w0 z3 := Ext.mutE E_z2 hm (fun n hn h => by have h2 : n = X0 := h; omega)
         have rA0_z3 : z3.cell? ⟨A0, 0, none⟩ = some (.int .i64 q.kd) := (cell_of_row _ _ _ _ _ _ hA_z3).trans rfl
         clear hA_z2 hR_z2 hX_z2 E_z2 rA0_z2
         clear hq hm)
      | ((with_reducible refine at_store 24 ?_); refine st_at rfl rfl 24 _ _ rfl X0 12 _ #[.int .u16 0] _ #[.int .i64 fq.kd, .bool fq.ch, .bool fq.ak, .bool fq.pr, .bool fq.ag, .bool fq.ln, .bool fq.fw, .int .i64 fq.ro, .int .u64 q.r, .int .u32 q.c, .int .u64 q.b, .int .u16 q.p, .int .u16 0, .int .i64 fq.a, .int .i64 fq.m, .int .i64 fq.h, .int .i64 fq.d] _ rfl rfl rfl hX_z3 (by exact (by decide : 12 + 1 ≤ 17)) (by kernel_rfl) rfl rfl ?_
         intro z4 hq hm
         have hX_z4 : z4.heap[X0]? = some (.cells #[.int .i64 fq.kd, .bool fq.ch, .bool fq.ak, .bool fq.pr, .bool fq.ag, .bool fq.ln, .bool fq.fw, .int .i64 fq.ro, .int .u64 q.r, .int .u32 q.c, .int .u64 q.b, .int .u16 q.p, .int .u16 0, .int .i64 fq.a, .int .i64 fq.m, .int .i64 fq.h, .int .i64 fq.d] 30 (0, 0)) := hq
         have hA_z4 : z4.heap[A0]? = some (.cells #[.int .i64 q.kd, .bool q.ch, .bool q.ak, .bool q.pr, .bool q.ag, .bool q.ln, .bool q.fw, .int .i64 q.ro, .int .u64 q.r, .int .u32 q.c, .int .u64 q.b, .int .u16 q.p, .int .u16 q.x, .int .i64 q.a, .int .i64 q.m, .int .i64 q.h, .int .i64 q.d] 30 (0, 0)) := (hm.heap (heap_lt hA_z3) (show ¬ A0 = X0 by omega)).trans hA_z3
         have hR_z4 : z4.heap[R0]? = some (.cells #[.int .i64 0, .bool false, .bool false, .bool false, .bool false, .bool false, .bool false, .int .i64 0, .int .u64 0, .int .u32 0, .int .u64 0, .int .u16 0, .int .u16 0, .int .i64 0, .int .i64 0, .int .i64 0, .int .i64 0] 30 (0, 0)) := (hm.heap (heap_lt hR_z3) (show ¬ R0 = X0 by omega)).trans hR_z3
         have E_z4 : Ext w0 z4 := Ext.mutE E_z3 hm (fun n hn h => by have h2 : n = X0 := h; omega)
         have rA0_z4 : z4.cell? ⟨A0, 0, none⟩ = some (.int .i64 q.kd) := (cell_of_row _ _ _ _ _ _ hA_z4).trans rfl
         clear hA_z3 hR_z3 hX_z3 E_z3 rA0_z3
         clear hq hm))
    refine beginL (S := fun W' => Mut (fun n => n = X0) z4 W') (by kernel_rfl) ?_
    intro wd hqx
    have hq0 : Mut (fun n => n = X0) z4 wd := hqx.mut _
    have hxr := (hqx.block _ (heap_lt hX_z4)).trans hX_z4
    refine takeL (i := 0) (v := (.pointer (some ⟨A0, 13, none⟩))) rfl (by kernel_rfl) (by kernel_rfl) (by kernel_rfl) (fun _ _ _ h => h) (Or.inl ⟨rfl, fun _ _ => rfl⟩) hq0 ?_
    simp only [Act.put, List.setIfInBounds_toArray, List.set_cons_zero, List.set_cons_succ]
    refine takeL (i := 1) (v := (.pointer (some ⟨A0, 13, none⟩))) rfl (by kernel_rfl) (by kernel_rfl) (by kernel_rfl) (fun _ _ _ h => h) (Or.inl ⟨rfl, fun _ _ => rfl⟩) hq0 ?_
    simp only [Act.put, List.setIfInBounds_toArray, List.set_cons_zero, List.set_cons_succ]
    refine takeL (i := 2) (v := _) rfl (by kernel_rfl) (by kernel_rfl) (by kernel_rfl) (fun _ _ _ h => h) (yieldsIf_cell rfl 3 _ rfl ⟨A0, 13, none⟩ rfl (.int .i64 q.a) _ (fun W' hW' => (cell_of_row _ _ _ _ _ _ ((hW'.heap (heap_lt hA_z4) (show ¬ A0 = X0 by omega)).trans hA_z4)).trans rfl) Try.underlying3 rfl) hq0 ?_
    simp only [Act.put, List.setIfInBounds_toArray, List.set_cons_zero, List.set_cons_succ]
    refine takeL (i := 4) (v := (.pointer (some ⟨A0, 13, none⟩))) rfl (by kernel_rfl) (by kernel_rfl) (by kernel_rfl) (fun _ _ _ h => h) (Or.inl ⟨rfl, fun _ _ => rfl⟩) hq0 ?_
    simp only [Act.put, List.setIfInBounds_toArray, List.set_cons_zero, List.set_cons_succ]
    refine takeL (i := 5) (v := (.pointer (some ⟨A0, 14, none⟩))) rfl (by kernel_rfl) (by kernel_rfl) (by kernel_rfl) (fun _ _ _ h => h) (Or.inl ⟨rfl, fun _ _ => rfl⟩) hq0 ?_
    simp only [Act.put, List.setIfInBounds_toArray, List.set_cons_zero, List.set_cons_succ]
    refine takeL (i := 6) (v := _) rfl (by kernel_rfl) (by kernel_rfl) (by kernel_rfl) (fun _ _ _ h => h) (yieldsIf_cell rfl 3 _ rfl ⟨A0, 14, none⟩ rfl (.int .i64 q.m) _ (fun W' hW' => (cell_of_row _ _ _ _ _ _ ((hW'.heap (heap_lt hA_z4) (show ¬ A0 = X0 by omega)).trans hA_z4)).trans rfl) Try.underlying3 rfl) hq0 ?_
    simp only [Act.put, List.setIfInBounds_toArray, List.set_cons_zero, List.set_cons_succ]
    refine takeL (i := 8) (v := (.pointer (some ⟨A0, 13, none⟩))) rfl (by kernel_rfl) (by kernel_rfl) (by kernel_rfl) (fun _ _ _ h => h) (Or.inl ⟨rfl, fun _ _ => rfl⟩) hq0 ?_
    simp only [Act.put, List.setIfInBounds_toArray, List.set_cons_zero, List.set_cons_succ]
    refine takeL (i := 9) (v := (.pointer (some ⟨A0, 15, none⟩))) rfl (by kernel_rfl) (by kernel_rfl) (by kernel_rfl) (fun _ _ _ h => h) (Or.inl ⟨rfl, fun _ _ => rfl⟩) hq0 ?_
    simp only [Act.put, List.setIfInBounds_toArray, List.set_cons_zero, List.set_cons_succ]
    refine takeL (i := 10) (v := _) rfl (by kernel_rfl) (by kernel_rfl) (by kernel_rfl) (fun _ _ _ h => h) (yieldsIf_cell rfl 3 _ rfl ⟨A0, 15, none⟩ rfl (.int .i64 q.h) _ (fun W' hW' => (cell_of_row _ _ _ _ _ _ ((hW'.heap (heap_lt hA_z4) (show ¬ A0 = X0 by omega)).trans hA_z4)).trans rfl) Try.underlying3 rfl) hq0 ?_
    simp only [Act.put, List.setIfInBounds_toArray, List.set_cons_zero, List.set_cons_succ]
    refine takeL (i := 12) (v := (.pointer (some ⟨A0, 13, none⟩))) rfl (by kernel_rfl) (by kernel_rfl) (by kernel_rfl) (fun _ _ _ h => h) (Or.inl ⟨rfl, fun _ _ => rfl⟩) hq0 ?_
    simp only [Act.put, List.setIfInBounds_toArray, List.set_cons_zero, List.set_cons_succ]
    refine takeL (i := 13) (v := (.pointer (some ⟨A0, 16, none⟩))) rfl (by kernel_rfl) (by kernel_rfl) (by kernel_rfl) (fun _ _ _ h => h) (Or.inl ⟨rfl, fun _ _ => rfl⟩) hq0 ?_
    simp only [Act.put, List.setIfInBounds_toArray, List.set_cons_zero, List.set_cons_succ]
    refine takeL (i := 14) (v := _) rfl (by kernel_rfl) (by kernel_rfl) (by kernel_rfl) (fun _ _ _ h => h) (yieldsIf_cell rfl 3 _ rfl ⟨A0, 16, none⟩ rfl (.int .i64 q.d) _ (fun W' hW' => (cell_of_row _ _ _ _ _ _ ((hW'.heap (heap_lt hA_z4) (show ¬ A0 = X0 by omega)).trans hA_z4)).trans rfl) Try.underlying3 rfl) hq0 ?_
    simp only [Act.put, List.setIfInBounds_toArray, List.set_cons_zero, List.set_cons_succ]
    refine runL (i := 3) rfl rfl (by kernel_rfl) (fun K hK => ?_)
    go_simp
    refine (toExt (told_q q.a _)).mono ?_
    rintro e wc1 ⟨rfl, hx⟩
    have hq1 := hq0.trans (hx.mut _)
    have hxr := (hx.block _ (heap_lt hxr)).trans hxr
    refine hK.out _ _ hq1 (fun hHeld => ?_)
    try simp only [Act.put, List.setIfInBounds_toArray, List.set_cons_zero, List.set_cons_succ]
    clear hK K hHeld
    refine runL (i := 7) rfl rfl (by kernel_rfl) (fun K hK => ?_)
    go_simp
    refine (toExt (told_q q.m _)).mono ?_
    rintro e wc2 ⟨rfl, hx⟩
    have hq2 := hq1.trans (hx.mut _)
    have hxr := (hx.block _ (heap_lt hxr)).trans hxr
    refine hK.out _ _ hq2 (fun hHeld => ?_)
    try simp only [Act.put, List.setIfInBounds_toArray, List.set_cons_zero, List.set_cons_succ]
    clear hK K hHeld
    refine runL (i := 11) rfl rfl (by kernel_rfl) (fun K hK => ?_)
    go_simp
    refine (toExt (told_q q.h _)).mono ?_
    rintro e wc3 ⟨rfl, hx⟩
    have hq3 := hq2.trans (hx.mut _)
    have hxr := (hx.block _ (heap_lt hxr)).trans hxr
    refine hK.out _ _ hq3 (fun hHeld => ?_)
    try simp only [Act.put, List.setIfInBounds_toArray, List.set_cons_zero, List.set_cons_succ]
    clear hK K hHeld
    refine runL (i := 15) rfl rfl (by kernel_rfl) (fun K hK => ?_)
    go_simp
    refine (toExt (told_q q.d _)).mono ?_
    rintro e wc4 ⟨rfl, hx⟩
    have hq4 := hq3.trans (hx.mut _)
    have hxr := (hx.block _ (heap_lt hxr)).trans hxr
    refine hK.out _ _ hq4 (fun hHeld => ?_)
    try simp only [Act.put, List.setIfInBounds_toArray, List.set_cons_zero, List.set_cons_succ]
    clear hK K hHeld
    refine takeL (i := 16) (v := (.agg #[.int .i64 (told q.a), .int .i64 (told q.m), .int .i64 (told q.h), .int .i64 (told q.d)])) rfl (by kernel_rfl) (by kernel_rfl) (by kernel_rfl) (fun _ _ _ h => h) (yieldsIf_build rfl 28 _ rfl [(0, .int .i64 (told q.a)), (1, .int .i64 (told q.m)), (2, .int .i64 (told q.h)), (3, .int .i64 (told q.d))] rfl #[.int .i64 (told q.a), .int .i64 (told q.m), .int .i64 (told q.h), .int .i64 (told q.d)] (times_b _ _ _ _)) hq4 ?_
    simp only [Act.put, List.setIfInBounds_toArray, List.set_cons_zero, List.set_cons_succ]
    refine takeL (i := 17) (v := (.pointer (some ⟨X0, 13, none⟩))) rfl (by kernel_rfl) (by kernel_rfl) (by kernel_rfl) (fun _ _ _ h => h) (Or.inl ⟨rfl, fun _ _ => rfl⟩) hq4 ?_
    simp only [Act.put, List.setIfInBounds_toArray, List.set_cons_zero, List.set_cons_succ]
    refine runL (i := 18) rfl rfl (by kernel_rfl) (fun K hK => ?_)
    refine wp_st_at rfl 28 _ _ rfl X0 13 _ #[.int .i64 (told q.a), .int .i64 (told q.m), .int .i64 (told q.h), .int .i64 (told q.d)] _ #[.int .i64 fq.kd, .bool fq.ch, .bool fq.ak, .bool fq.pr, .bool fq.ag, .bool fq.ln, .bool fq.fw, .int .i64 fq.ro, .int .u64 q.r, .int .u32 q.c, .int .u64 q.b, .int .u16 q.p, .int .u16 0, .int .i64 (told q.a), .int .i64 (told q.m), .int .i64 (told q.h), .int .i64 (told q.d)] _ rfl rfl rfl hxr (by exact (by decide : 13 + 4 ≤ 17)) (by kernel_rfl) rfl rfl (fun ws18 hrow18 hm => ?_)
    have hq5 : Mut (fun n => n = X0) z4 ws18 := Mut.trans hq4 hm
    clear hm
    refine hK.out _ _ hq5 (fun hHeld => ?_)
    try simp only [Act.put, List.setIfInBounds_toArray, List.set_cons_zero, List.set_cons_succ]
    clear hK K hHeld
    refine wpAnyH_done (by kernel_rfl) ?_ _
    generalize ws18 = z5 at *
    have hA_z5 : z5.heap[A0]? = some (.cells #[.int .i64 q.kd, .bool q.ch, .bool q.ak, .bool q.pr, .bool q.ag, .bool q.ln, .bool q.fw, .int .i64 q.ro, .int .u64 q.r, .int .u32 q.c, .int .u64 q.b, .int .u16 q.p, .int .u16 q.x, .int .i64 q.a, .int .i64 q.m, .int .i64 q.h, .int .i64 q.d] 30 (0, 0)) := (hq5.heap (heap_lt hA_z4) (show ¬ A0 = X0 by omega)).trans hA_z4
    have hR_z5 : z5.heap[R0]? = some (.cells #[.int .i64 0, .bool false, .bool false, .bool false, .bool false, .bool false, .bool false, .int .i64 0, .int .u64 0, .int .u32 0, .int .u64 0, .int .u16 0, .int .u16 0, .int .i64 0, .int .i64 0, .int .i64 0, .int .i64 0] 30 (0, 0)) := (hq5.heap (heap_lt hR_z4) (show ¬ R0 = X0 by omega)).trans hR_z4
    have E_z5 : Ext w0 z5 := Ext.mutE E_z4 hq5 (fun n hn h => by have h2 : n = X0 := h; omega)
    have hX_z5 : z5.heap[X0]? = some (.cells #[.int .i64 fq.kd, .bool fq.ch, .bool fq.ak, .bool fq.pr, .bool fq.ag, .bool fq.ln, .bool fq.fw, .int .i64 fq.ro, .int .u64 q.r, .int .u32 q.c, .int .u64 q.b, .int .u16 q.p, .int .u16 0, .int .i64 (told q.a), .int .i64 (told q.m), .int .i64 (told q.h), .int .i64 (told q.d)] 30 (0, 0)) := hrow18
    have rA0_z5 : z5.cell? ⟨A0, 0, none⟩ = some (.int .i64 q.kd) := (cell_of_row _ _ _ _ _ _ hA_z5).trans rfl
    clear hA_z4 hR_z4 hX_z4 E_z4 rA0_z4
    clear hq0 hq1 hq2 hq3 hq4 hq5
    go_wp2_with (first
      | fail
      | ((with_reducible refine at_load 30 ?_); refine wpList_load_row rfl 30 _ rfl X0 rfl 30 #[.int .i64 fq.kd, .bool fq.ch, .bool fq.ak, .bool fq.pr, .bool fq.ag, .bool fq.ln, .bool fq.fw, .int .i64 fq.ro, .int .u64 q.r, .int .u32 q.c, .int .u64 q.b, .int .u16 q.p, .int .u16 0, .int .i64 (told q.a), .int .i64 (told q.m), .int .i64 (told q.h), .int .i64 (told q.d)] (0, 0) _ hX_z5 Try.underlying30 rfl (by kernel_rfl) ?_)
      | ((with_reducible refine at_store 30 ?_); refine st_at rfl rfl 30 _ _ rfl R0 0 _ #[.int .i64 fq.kd, .bool fq.ch, .bool fq.ak, .bool fq.pr, .bool fq.ag, .bool fq.ln, .bool fq.fw, .int .i64 fq.ro, .int .u64 q.r, .int .u32 q.c, .int .u64 q.b, .int .u16 q.p, .int .u16 0, .int .i64 (told q.a), .int .i64 (told q.m), .int .i64 (told q.h), .int .i64 (told q.d)] _ #[.int .i64 fq.kd, .bool fq.ch, .bool fq.ak, .bool fq.pr, .bool fq.ag, .bool fq.ln, .bool fq.fw, .int .i64 fq.ro, .int .u64 q.r, .int .u32 q.c, .int .u64 q.b, .int .u16 q.p, .int .u16 0, .int .i64 (told q.a), .int .i64 (told q.m), .int .i64 (told q.h), .int .i64 (told q.d)] _ rfl rfl rfl hR_z5 (by exact (by decide : 0 + 17 ≤ 17)) (by kernel_rfl) rfl rfl ?_
         intro z6 hq hm
         have hR_z6 : z6.heap[R0]? = some (.cells #[.int .i64 fq.kd, .bool fq.ch, .bool fq.ak, .bool fq.pr, .bool fq.ag, .bool fq.ln, .bool fq.fw, .int .i64 fq.ro, .int .u64 q.r, .int .u32 q.c, .int .u64 q.b, .int .u16 q.p, .int .u16 0, .int .i64 (told q.a), .int .i64 (told q.m), .int .i64 (told q.h), .int .i64 (told q.d)] 30 (0, 0)) := hq
         have hA_z6 : z6.heap[A0]? = some (.cells #[.int .i64 q.kd, .bool q.ch, .bool q.ak, .bool q.pr, .bool q.ag, .bool q.ln, .bool q.fw, .int .i64 q.ro, .int .u64 q.r, .int .u32 q.c, .int .u64 q.b, .int .u16 q.p, .int .u16 q.x, .int .i64 q.a, .int .i64 q.m, .int .i64 q.h, .int .i64 q.d] 30 (0, 0)) := (hm.heap (heap_lt hA_z5) (show ¬ A0 = R0 by omega)).trans hA_z5
         have hX_z6 : z6.heap[X0]? = some (.cells #[.int .i64 fq.kd, .bool fq.ch, .bool fq.ak, .bool fq.pr, .bool fq.ag, .bool fq.ln, .bool fq.fw, .int .i64 fq.ro, .int .u64 q.r, .int .u32 q.c, .int .u64 q.b, .int .u16 q.p, .int .u16 0, .int .i64 (told q.a), .int .i64 (told q.m), .int .i64 (told q.h), .int .i64 (told q.d)] 30 (0, 0)) := (hm.heap (heap_lt hX_z5) (show ¬ X0 = R0 by omega)).trans hX_z5
         have E_z6 : Ext w0 z6 := Ext.mutE E_z5 hm (fun n hn h => by have h2 : n = R0 := h; omega)
         have rA0_z6 : z6.cell? ⟨A0, 0, none⟩ = some (.int .i64 q.kd) := (cell_of_row _ _ _ _ _ _ hA_z6).trans rfl
         clear hA_z5 hR_z5 hX_z5 E_z5 rA0_z5
         clear hq hm))
    refine bodyPost_ret (results_cell_row rfl _ _ _ _ _ (0, 0) _ rfl hR_z6 Try.underlying30 rfl (by kernel_rfl)) rfl ?_
    refine ⟨?_, hE_w0.trans E_z6⟩
    unfold plainM
    rw [if_neg (by have := HK.out; omega), if_pos (by have := HK.out; omega), HF.out]
theorem plain_any (q : Mg) (hq : q.ok) (w : World) : Calls Try.prog 19 #[.agg #[.int .i64 q.kd, .bool q.ch, .bool q.ak, .bool q.pr, .bool q.ag, .bool q.ln, .bool q.fw, .int .i64 q.ro, .int .u64 q.r, .int .u32 q.c, .int .u64 q.b, .int .u16 q.p, .int .u16 q.x, .int .i64 q.a, .int .i64 q.m, .int .i64 q.h, .int .i64 q.d]] w fun e w' => e = .returned (.agg #[.int .i64 (plainM q).kd, .bool (plainM q).ch, .bool (plainM q).ak, .bool (plainM q).pr, .bool (plainM q).ag, .bool (plainM q).ln, .bool (plainM q).fw, .int .i64 (plainM q).ro, .int .u64 (plainM q).r, .int .u32 (plainM q).c, .int .u64 (plainM q).b, .int .u16 (plainM q).p, .int .u16 (plainM q).x, .int .i64 (plainM q).a, .int .i64 (plainM q).m, .int .i64 (plainM q).h, .int .i64 (plainM q).d]) ∧ Ext w w' := by
  by_cases h1 : q.kd = 1
  · exact plain_1 q hq h1 w
  by_cases h0 : q.kd = 0
  · exact plain_c q hq h0 w
  by_cases h2 : q.kd = 2
  · exact plain_r q hq h2 w
  · exact plain_0 q hq (by omega) w

end Go.Proofs.Ytdfaagchlnkpnaa
