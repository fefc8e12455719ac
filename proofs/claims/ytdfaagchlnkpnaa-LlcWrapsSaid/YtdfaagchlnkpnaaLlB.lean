/- The frame of a message, by the program. No statement is proved here. -/
import Derived.Test.YtdfaagchlnkpnaaLlA
namespace Go.Proofs.Ytdfaagchlnkpnaa
open Go.RowKit Go.BigFrame Go.WideShapes Go.ChangeShapes Go.Deep
set_option linter.unusedVariables false
set_option linter.unusedSimpArgs false

theorem own_form {w : World} {base m n : Nat} {e : TypeId} {v : Value} {xs : List Value} (h : w.ownsRow base e m v n xs) : ∃ a cap, v = .slice a n cap := by
  obtain ⟨h0, ⟨rfl, rfl⟩ | ⟨g, cap, cur, rfl, hb, hg, hn, hm, hs, ht⟩⟩ := h
  · exact ⟨_, _, rfl⟩
  · exact ⟨_, _, rfl⟩
/-- A frame's bytes. -/
def f1 (s : Int) : List Int := [1, 128, 194, 0, 0, 0] ++ bts s.toNat 6
def f2 (s : Int) (n : Nat) : List Int := f1 s ++ [0, ((3 + n : Nat) : Int)]
def f3 (s : Int) (n : Nat) : List Int := f2 s n ++ [66, 66, 3]
def wrapL (s : Int) (q : Mg) : List Int := if (encL q).length = 0 then [] else f3 s (encL q).length ++ encL q ++ zrs (60 - (17 + (encL q).length))
theorem f3_len (s : Int) (n : Nat) : (f3 s n).length = 17 := by simp [f3, f2, f1, bts_len]
theorem b_grp : bts (1652522221568 : Int).toNat 6 = [1, 128, 194, 0, 0, 0] := by decide +kernel
theorem b_lnk : bts (4342275 : Int).toNat 3 = [66, 66, 3] := by decide +kernel
theorem b_35 : bts (38 : Int).toNat 2 = [0, 38] := by decide +kernel
theorem b_4 : bts (7 : Int).toNat 2 = [0, 7] := by decide +kernel
theorem b_36 : bts (39 : Int).toNat 2 = [0, 39] := by decide +kernel
theorem mk60 (w : World) : (Instr.makeSlice 33 (.int .i64 0) (.int .i64 60)).run Try.prog w = .ok (.slice (some ⟨w.heap.size, 0, none⟩) 0 60) (w.alloc (.cells (Array.replicate 60 (.int .u8 0)) 5)) := by kernel_rfl
theorem own60 (w : World) : (w.alloc (.cells (Array.replicate 60 (.int .u8 0)) 5)).ownsRow w.heap.size 5 1 (.slice (some ⟨w.heap.size, 0, none⟩) 0 60) ([] : List Int).length (([] : List Int).map (Value.int .u8)) :=
  ⟨rfl, .inr ⟨w.heap.size, 60, _, rfl, Nat.le_refl _, heap_alloc_new _ _, by decide, by decide, by rfl, by rfl⟩⟩
set_option maxRecDepth 100000 in
set_option maxHeartbeats 2000000 in
theorem wrap_c (s : Int) (hs : 0 ≤ s ∧ s < 18446744073709551616) (q : Mg) (hq : q.ok) (hk : q.kd = 0) (w : World) : Calls Try.prog 23 #[.int .u64 s, .agg #[.int .i64 q.kd, .bool q.ch, .bool q.ak, .bool q.pr, .bool q.ag, .bool q.ln, .bool q.fw, .int .i64 q.ro, .int .u64 q.r, .int .u32 q.c, .int .u64 q.b, .int .u16 q.p, .int .u16 q.x, .int .i64 q.a, .int .i64 q.m, .int .i64 q.h, .int .i64 q.d]] w (Owned w (wrapL s q)) := by
  have hmk := mk60
  have hl : (encL q).length = 35 := by rw [encL_len]; simp [hk]
  have HS := Lib.hid hs
  have HQ := Lib.hid hq
  clear hk hs hq
  go_enter Try.func23, Try.ntmps23
  go_wp2_with fail
  have hA_w0 : (w.alloc (.cells #[.int .i64 q.kd, .bool q.ch, .bool q.ak, .bool q.pr, .bool q.ag, .bool q.ln, .bool q.fw, .int .i64 q.ro, .int .u64 q.r, .int .u32 q.c, .int .u64 q.b, .int .u16 q.p, .int .u16 q.x, .int .i64 q.a, .int .i64 q.m, .int .i64 q.h, .int .i64 q.d] 30)).heap[w.heap.size]? = some (.cells #[.int .i64 q.kd, .bool q.ch, .bool q.ak, .bool q.pr, .bool q.ag, .bool q.ln, .bool q.fw, .int .i64 q.ro, .int .u64 q.r, .int .u32 q.c, .int .u64 q.b, .int .u16 q.p, .int .u16 q.x, .int .i64 q.a, .int .i64 q.m, .int .i64 q.h, .int .i64 q.d] 30 (0, 0)) := heap_alloc_new _ _
  have hE_w0 : Ext w (w.alloc (.cells #[.int .i64 q.kd, .bool q.ch, .bool q.ak, .bool q.pr, .bool q.ag, .bool q.ln, .bool q.fw, .int .i64 q.ro, .int .u64 q.r, .int .u32 q.c, .int .u64 q.b, .int .u16 q.p, .int .u16 q.x, .int .i64 q.a, .int .i64 q.m, .int .i64 q.h, .int .i64 q.d] 30)) := (Ext.refl _).alloc _
  generalize w.alloc (.cells #[.int .i64 q.kd, .bool q.ch, .bool q.ak, .bool q.pr, .bool q.ag, .bool q.ln, .bool q.fw, .int .i64 q.ro, .int .u64 q.r, .int .u32 q.c, .int .u64 q.b, .int .u16 q.p, .int .u16 q.x, .int .i64 q.a, .int .i64 q.m, .int .i64 q.h, .int .i64 q.d] 30) = w0 at *
  obtain ⟨A0, hA0⟩ : ∃ n, w.heap.size = n := ⟨_, rfl⟩
  rw [hA0] at hA_w0 ⊢
  go_wp2_with (first
    | fail
    | ((with_reducible refine at_load 30 ?_); refine wpList_load_row rfl 30 _ rfl A0 rfl 30 #[.int .i64 q.kd, .bool q.ch, .bool q.ak, .bool q.pr, .bool q.ag, .bool q.ln, .bool q.fw, .int .i64 q.ro, .int .u64 q.r, .int .u32 q.c, .int .u64 q.b, .int .u16 q.p, .int .u16 q.x, .int .i64 q.a, .int .i64 q.m, .int .i64 q.h, .int .i64 q.d] (0, 0) _ hA_w0 Try.underlying30 rfl (by kernel_rfl) ?_))
  refine (enc_any q HQ.out _).mono ?_
  rintro e z1 ⟨vb, rfl, hown, hx⟩
  have E_z1 : Ext w0 z1 := hx
  have hA_z1 : z1.heap[A0]? = some (.cells #[.int .i64 q.kd, .bool q.ch, .bool q.ak, .bool q.pr, .bool q.ag, .bool q.ln, .bool q.fw, .int .i64 q.ro, .int .u64 q.r, .int .u32 q.c, .int .u64 q.b, .int .u16 q.p, .int .u16 q.x, .int .i64 q.a, .int .i64 q.m, .int .i64 q.h, .int .i64 q.d] 30 (0, 0)) := (hx.block _ (heap_lt hA_w0)).trans hA_w0
  have hi_z1 := isBytes_own hown
  clear hown
  clear hA_w0
  clear hx
  obtain ⟨av, cv, hv, -, -⟩ := hi_z1.form
  rw [hl] at hv
  subst hv
  go_wp2_with fail
  have hE_m := (Ext.refl z1).alloc (.cells (Array.replicate 60 (.int .u8 0)) 5)
  have hO_m := own60 z1
  generalize z1.alloc (.cells (Array.replicate 60 (.int .u8 0)) 5) = m0 at *
  refine (put_i 1652522221568 6 _ ⟨by decide, by decide⟩ (by decide) (by decide)).mono ?_
  rintro e p0 ⟨g0, rfl, hi, hx⟩
  rw [b_grp] at hi
  have hE_p0 := hE_m.trans hx
  have hO_p0 := owns_ext hO_m hx
  clear hx hE_m hO_m
  go_wp2_with (first
    | fail
    | (at_builtin; refine wpList_app rfl _ _ rfl z1 hE_p0 _ _ ([]) ([1, 128, 194, 0, 0, 0]) rfl rfl hO_p0 hi (by simp [f1, f2, bts_len]) ?_
       intro va0 a0 hown hE_a0 hg
       have hO_a0 : a0.ownsRow z1.heap.size 5 1 va0 ([1, 128, 194, 0, 0, 0]).length (([1, 128, 194, 0, 0, 0]).map (Value.int .u8)) := hown
       clear hown hg))
  refine (put_i s 6 _ HS.out (by decide) (by decide)).mono ?_
  rintro e p1 ⟨g1, rfl, hi, hx⟩
  have hE_p1 := hE_a0.trans hx
  have hO_p1 := owns_ext hO_a0 hx
  clear hx hE_a0 hO_a0
  go_wp2_with (first
    | fail
    | (at_builtin; refine wpList_app rfl _ _ rfl z1 hE_p1 _ _ ([1, 128, 194, 0, 0, 0]) (bts s.toNat 6) rfl rfl hO_p1 hi (by simp [f1, f2, bts_len]) ?_
       intro va1 a1 hown hE_a1 hg
       have hO_a1 : a1.ownsRow z1.heap.size 5 1 va1 (f1 s).length ((f1 s).map (Value.int .u8)) := hown
       clear hown hg))
  refine (put_i 38 2 _ ⟨by decide, by decide⟩ (by decide) (by decide)).mono ?_
  rintro e p2 ⟨g2, rfl, hi, hx⟩
  rw [b_35] at hi
  have hE_p2 := hE_a1.trans hx
  have hO_p2 := owns_ext hO_a1 hx
  clear hx hE_a1 hO_a1
  go_wp2_with (first
    | fail
    | (at_builtin; refine wpList_app rfl _ _ rfl z1 hE_p2 _ _ (f1 s) ([0, 38]) rfl rfl hO_p2 hi (by simp [f1, f2, bts_len]) ?_
       intro va2 a2 hown hE_a2 hg
       have hO_a2 : a2.ownsRow z1.heap.size 5 1 va2 (f2 s 35).length ((f2 s 35).map (Value.int .u8)) := hown
       clear hown hg))
  refine (put_i 4342275 3 _ ⟨by decide, by decide⟩ (by decide) (by decide)).mono ?_
  rintro e p3 ⟨g3, rfl, hi, hx⟩
  rw [b_lnk] at hi
  have hE_p3 := hE_a2.trans hx
  have hO_p3 := owns_ext hO_a2 hx
  clear hx hE_a2 hO_a2
  go_wp2_with (first
    | fail
    | (at_builtin; refine wpList_app rfl _ _ rfl z1 hE_p3 _ _ (f2 s 35) ([66, 66, 3]) rfl rfl hO_p3 hi (by simp [f1, f2, bts_len]) ?_
       intro va3 a3 hown hE_a3 hg
       have hO_a3 : a3.ownsRow z1.heap.size 5 1 va3 (f3 s 35).length ((f3 s 35).map (Value.int .u8)) := hown
       clear hown hg)
    | (at_builtin; refine wpList_app rfl _ _ rfl z1 hE_a3 _ _ (f3 s 35) (encL q) rfl rfl hO_a3 (hi_z1.ext hE_a3) (by rw [f3_len, hl]; decide) ?_
       intro va4 a4 hown hE_a4 hg
       have hO_a4 : a4.ownsRow z1.heap.size 5 1 va4 52 ((f3 s 35 ++ encL q).map (Value.int .u8)) := by
         have h := hown
         rw [List.length_append, f3_len, hl] at h
         exact h
       obtain ⟨a4a, c4, hv4⟩ := own_form hO_a4
       subst hv4
       clear hown hg)
    | (at_builtin; refine wpList_appz rfl _ _ rfl z1 hE_a4 _ 8 52 (f3 s 35 ++ encL q) rfl rfl hO_a4 (by decide) (by decide) ?_
       intro va5 a5 hown hE_a5))
  go_ret
  refine ⟨_, rfl, ?_, hE_w0.trans (E_z1.trans hE_a5)⟩
  have e : wrapL s q = f3 s 35 ++ encL q ++ zrs 8 := by unfold wrapL; rw [hl, if_neg (by decide)]
  rw [e]
  rw [show (f3 s 35 ++ encL q ++ zrs 8).length = 52 + 8 by rw [List.length_append, List.length_append, f3_len, hl]; simp [zrs]]
  exact owns_base hown (hE_w0.trans E_z1).size
set_option maxRecDepth 100000 in
set_option maxHeartbeats 2000000 in
theorem wrap_t (s : Int) (hs : 0 ≤ s ∧ s < 18446744073709551616) (q : Mg) (hq : q.ok) (hk : q.kd = 1) (w : World) : Calls Try.prog 23 #[.int .u64 s, .agg #[.int .i64 q.kd, .bool q.ch, .bool q.ak, .bool q.pr, .bool q.ag, .bool q.ln, .bool q.fw, .int .i64 q.ro, .int .u64 q.r, .int .u32 q.c, .int .u64 q.b, .int .u16 q.p, .int .u16 q.x, .int .i64 q.a, .int .i64 q.m, .int .i64 q.h, .int .i64 q.d]] w (Owned w (wrapL s q)) := by
  have hmk := mk60
  have hl : (encL q).length = 4 := by rw [encL_len]; simp [hk]
  have HS := Lib.hid hs
  have HQ := Lib.hid hq
  clear hk hs hq
  go_enter Try.func23, Try.ntmps23
  go_wp2_with fail
  have hA_w0 : (w.alloc (.cells #[.int .i64 q.kd, .bool q.ch, .bool q.ak, .bool q.pr, .bool q.ag, .bool q.ln, .bool q.fw, .int .i64 q.ro, .int .u64 q.r, .int .u32 q.c, .int .u64 q.b, .int .u16 q.p, .int .u16 q.x, .int .i64 q.a, .int .i64 q.m, .int .i64 q.h, .int .i64 q.d] 30)).heap[w.heap.size]? = some (.cells #[.int .i64 q.kd, .bool q.ch, .bool q.ak, .bool q.pr, .bool q.ag, .bool q.ln, .bool q.fw, .int .i64 q.ro, .int .u64 q.r, .int .u32 q.c, .int .u64 q.b, .int .u16 q.p, .int .u16 q.x, .int .i64 q.a, .int .i64 q.m, .int .i64 q.h, .int .i64 q.d] 30 (0, 0)) := heap_alloc_new _ _
  have hE_w0 : Ext w (w.alloc (.cells #[.int .i64 q.kd, .bool q.ch, .bool q.ak, .bool q.pr, .bool q.ag, .bool q.ln, .bool q.fw, .int .i64 q.ro, .int .u64 q.r, .int .u32 q.c, .int .u64 q.b, .int .u16 q.p, .int .u16 q.x, .int .i64 q.a, .int .i64 q.m, .int .i64 q.h, .int .i64 q.d] 30)) := (Ext.refl _).alloc _
  generalize w.alloc (.cells #[.int .i64 q.kd, .bool q.ch, .bool q.ak, .bool q.pr, .bool q.ag, .bool q.ln, .bool q.fw, .int .i64 q.ro, .int .u64 q.r, .int .u32 q.c, .int .u64 q.b, .int .u16 q.p, .int .u16 q.x, .int .i64 q.a, .int .i64 q.m, .int .i64 q.h, .int .i64 q.d] 30) = w0 at *
  obtain ⟨A0, hA0⟩ : ∃ n, w.heap.size = n := ⟨_, rfl⟩
  rw [hA0] at hA_w0 ⊢
  go_wp2_with (first
    | fail
    | ((with_reducible refine at_load 30 ?_); refine wpList_load_row rfl 30 _ rfl A0 rfl 30 #[.int .i64 q.kd, .bool q.ch, .bool q.ak, .bool q.pr, .bool q.ag, .bool q.ln, .bool q.fw, .int .i64 q.ro, .int .u64 q.r, .int .u32 q.c, .int .u64 q.b, .int .u16 q.p, .int .u16 q.x, .int .i64 q.a, .int .i64 q.m, .int .i64 q.h, .int .i64 q.d] (0, 0) _ hA_w0 Try.underlying30 rfl (by kernel_rfl) ?_))
  refine (enc_any q HQ.out _).mono ?_
  rintro e z1 ⟨vb, rfl, hown, hx⟩
  have E_z1 : Ext w0 z1 := hx
  have hA_z1 : z1.heap[A0]? = some (.cells #[.int .i64 q.kd, .bool q.ch, .bool q.ak, .bool q.pr, .bool q.ag, .bool q.ln, .bool q.fw, .int .i64 q.ro, .int .u64 q.r, .int .u32 q.c, .int .u64 q.b, .int .u16 q.p, .int .u16 q.x, .int .i64 q.a, .int .i64 q.m, .int .i64 q.h, .int .i64 q.d] 30 (0, 0)) := (hx.block _ (heap_lt hA_w0)).trans hA_w0
  have hi_z1 := isBytes_own hown
  clear hown
  clear hA_w0
  clear hx
  obtain ⟨av, cv, hv, -, -⟩ := hi_z1.form
  rw [hl] at hv
  subst hv
  go_wp2_with fail
  have hE_m := (Ext.refl z1).alloc (.cells (Array.replicate 60 (.int .u8 0)) 5)
  have hO_m := own60 z1
  generalize z1.alloc (.cells (Array.replicate 60 (.int .u8 0)) 5) = m0 at *
  refine (put_i 1652522221568 6 _ ⟨by decide, by decide⟩ (by decide) (by decide)).mono ?_
  rintro e p0 ⟨g0, rfl, hi, hx⟩
  rw [b_grp] at hi
  have hE_p0 := hE_m.trans hx
  have hO_p0 := owns_ext hO_m hx
  clear hx hE_m hO_m
  go_wp2_with (first
    | fail
    | (at_builtin; refine wpList_app rfl _ _ rfl z1 hE_p0 _ _ ([]) ([1, 128, 194, 0, 0, 0]) rfl rfl hO_p0 hi (by simp [f1, f2, bts_len]) ?_
       intro va0 a0 hown hE_a0 hg
       have hO_a0 : a0.ownsRow z1.heap.size 5 1 va0 ([1, 128, 194, 0, 0, 0]).length (([1, 128, 194, 0, 0, 0]).map (Value.int .u8)) := hown
       clear hown hg))
  refine (put_i s 6 _ HS.out (by decide) (by decide)).mono ?_
  rintro e p1 ⟨g1, rfl, hi, hx⟩
  have hE_p1 := hE_a0.trans hx
  have hO_p1 := owns_ext hO_a0 hx
  clear hx hE_a0 hO_a0
  go_wp2_with (first
    | fail
    | (at_builtin; refine wpList_app rfl _ _ rfl z1 hE_p1 _ _ ([1, 128, 194, 0, 0, 0]) (bts s.toNat 6) rfl rfl hO_p1 hi (by simp [f1, f2, bts_len]) ?_
       intro va1 a1 hown hE_a1 hg
       have hO_a1 : a1.ownsRow z1.heap.size 5 1 va1 (f1 s).length ((f1 s).map (Value.int .u8)) := hown
       clear hown hg))
  refine (put_i 7 2 _ ⟨by decide, by decide⟩ (by decide) (by decide)).mono ?_
  rintro e p2 ⟨g2, rfl, hi, hx⟩
  rw [b_4] at hi
  have hE_p2 := hE_a1.trans hx
  have hO_p2 := owns_ext hO_a1 hx
  clear hx hE_a1 hO_a1
  go_wp2_with (first
    | fail
    | (at_builtin; refine wpList_app rfl _ _ rfl z1 hE_p2 _ _ (f1 s) ([0, 7]) rfl rfl hO_p2 hi (by simp [f1, f2, bts_len]) ?_
       intro va2 a2 hown hE_a2 hg
       have hO_a2 : a2.ownsRow z1.heap.size 5 1 va2 (f2 s 4).length ((f2 s 4).map (Value.int .u8)) := hown
       clear hown hg))
  refine (put_i 4342275 3 _ ⟨by decide, by decide⟩ (by decide) (by decide)).mono ?_
  rintro e p3 ⟨g3, rfl, hi, hx⟩
  rw [b_lnk] at hi
  have hE_p3 := hE_a2.trans hx
  have hO_p3 := owns_ext hO_a2 hx
  clear hx hE_a2 hO_a2
  go_wp2_with (first
    | fail
    | (at_builtin; refine wpList_app rfl _ _ rfl z1 hE_p3 _ _ (f2 s 4) ([66, 66, 3]) rfl rfl hO_p3 hi (by simp [f1, f2, bts_len]) ?_
       intro va3 a3 hown hE_a3 hg
       have hO_a3 : a3.ownsRow z1.heap.size 5 1 va3 (f3 s 4).length ((f3 s 4).map (Value.int .u8)) := hown
       clear hown hg)
    | (at_builtin; refine wpList_app rfl _ _ rfl z1 hE_a3 _ _ (f3 s 4) (encL q) rfl rfl hO_a3 (hi_z1.ext hE_a3) (by rw [f3_len, hl]; decide) ?_
       intro va4 a4 hown hE_a4 hg
       have hO_a4 : a4.ownsRow z1.heap.size 5 1 va4 21 ((f3 s 4 ++ encL q).map (Value.int .u8)) := by
         have h := hown
         rw [List.length_append, f3_len, hl] at h
         exact h
       obtain ⟨a4a, c4, hv4⟩ := own_form hO_a4
       subst hv4
       clear hown hg)
    | (at_builtin; refine wpList_appz rfl _ _ rfl z1 hE_a4 _ 39 21 (f3 s 4 ++ encL q) rfl rfl hO_a4 (by decide) (by decide) ?_
       intro va5 a5 hown hE_a5))
  go_ret
  refine ⟨_, rfl, ?_, hE_w0.trans (E_z1.trans hE_a5)⟩
  have e : wrapL s q = f3 s 4 ++ encL q ++ zrs 39 := by unfold wrapL; rw [hl, if_neg (by decide)]
  rw [e]
  rw [show (f3 s 4 ++ encL q ++ zrs 39).length = 21 + 39 by rw [List.length_append, List.length_append, f3_len, hl]; simp [zrs]]
  exact owns_base hown (hE_w0.trans E_z1).size
set_option maxRecDepth 100000 in
set_option maxHeartbeats 2000000 in
theorem wrap_r (s : Int) (hs : 0 ≤ s ∧ s < 18446744073709551616) (q : Mg) (hq : q.ok) (hk : q.kd = 2) (w : World) : Calls Try.prog 23 #[.int .u64 s, .agg #[.int .i64 q.kd, .bool q.ch, .bool q.ak, .bool q.pr, .bool q.ag, .bool q.ln, .bool q.fw, .int .i64 q.ro, .int .u64 q.r, .int .u32 q.c, .int .u64 q.b, .int .u16 q.p, .int .u16 q.x, .int .i64 q.a, .int .i64 q.m, .int .i64 q.h, .int .i64 q.d]] w (Owned w (wrapL s q)) := by
  have hmk := mk60
  have hl : (encL q).length = 36 := by rw [encL_len]; simp [hk]
  have HS := Lib.hid hs
  have HQ := Lib.hid hq
  clear hk hs hq
  go_enter Try.func23, Try.ntmps23
  go_wp2_with fail
  have hA_w0 : (w.alloc (.cells #[.int .i64 q.kd, .bool q.ch, .bool q.ak, .bool q.pr, .bool q.ag, .bool q.ln, .bool q.fw, .int .i64 q.ro, .int .u64 q.r, .int .u32 q.c, .int .u64 q.b, .int .u16 q.p, .int .u16 q.x, .int .i64 q.a, .int .i64 q.m, .int .i64 q.h, .int .i64 q.d] 30)).heap[w.heap.size]? = some (.cells #[.int .i64 q.kd, .bool q.ch, .bool q.ak, .bool q.pr, .bool q.ag, .bool q.ln, .bool q.fw, .int .i64 q.ro, .int .u64 q.r, .int .u32 q.c, .int .u64 q.b, .int .u16 q.p, .int .u16 q.x, .int .i64 q.a, .int .i64 q.m, .int .i64 q.h, .int .i64 q.d] 30 (0, 0)) := heap_alloc_new _ _
  have hE_w0 : Ext w (w.alloc (.cells #[.int .i64 q.kd, .bool q.ch, .bool q.ak, .bool q.pr, .bool q.ag, .bool q.ln, .bool q.fw, .int .i64 q.ro, .int .u64 q.r, .int .u32 q.c, .int .u64 q.b, .int .u16 q.p, .int .u16 q.x, .int .i64 q.a, .int .i64 q.m, .int .i64 q.h, .int .i64 q.d] 30)) := (Ext.refl _).alloc _
  generalize w.alloc (.cells #[.int .i64 q.kd, .bool q.ch, .bool q.ak, .bool q.pr, .bool q.ag, .bool q.ln, .bool q.fw, .int .i64 q.ro, .int .u64 q.r, .int .u32 q.c, .int .u64 q.b, .int .u16 q.p, .int .u16 q.x, .int .i64 q.a, .int .i64 q.m, .int .i64 q.h, .int .i64 q.d] 30) = w0 at *
  obtain ⟨A0, hA0⟩ : ∃ n, w.heap.size = n := ⟨_, rfl⟩
  rw [hA0] at hA_w0 ⊢
  go_wp2_with (first
    | fail
    | ((with_reducible refine at_load 30 ?_); refine wpList_load_row rfl 30 _ rfl A0 rfl 30 #[.int .i64 q.kd, .bool q.ch, .bool q.ak, .bool q.pr, .bool q.ag, .bool q.ln, .bool q.fw, .int .i64 q.ro, .int .u64 q.r, .int .u32 q.c, .int .u64 q.b, .int .u16 q.p, .int .u16 q.x, .int .i64 q.a, .int .i64 q.m, .int .i64 q.h, .int .i64 q.d] (0, 0) _ hA_w0 Try.underlying30 rfl (by kernel_rfl) ?_))
  refine (enc_any q HQ.out _).mono ?_
  rintro e z1 ⟨vb, rfl, hown, hx⟩
  have E_z1 : Ext w0 z1 := hx
  have hA_z1 : z1.heap[A0]? = some (.cells #[.int .i64 q.kd, .bool q.ch, .bool q.ak, .bool q.pr, .bool q.ag, .bool q.ln, .bool q.fw, .int .i64 q.ro, .int .u64 q.r, .int .u32 q.c, .int .u64 q.b, .int .u16 q.p, .int .u16 q.x, .int .i64 q.a, .int .i64 q.m, .int .i64 q.h, .int .i64 q.d] 30 (0, 0)) := (hx.block _ (heap_lt hA_w0)).trans hA_w0
  have hi_z1 := isBytes_own hown
  clear hown
  clear hA_w0
  clear hx
  obtain ⟨av, cv, hv, -, -⟩ := hi_z1.form
  rw [hl] at hv
  subst hv
  go_wp2_with fail
  have hE_m := (Ext.refl z1).alloc (.cells (Array.replicate 60 (.int .u8 0)) 5)
  have hO_m := own60 z1
  generalize z1.alloc (.cells (Array.replicate 60 (.int .u8 0)) 5) = m0 at *
  refine (put_i 1652522221568 6 _ ⟨by decide, by decide⟩ (by decide) (by decide)).mono ?_
  rintro e p0 ⟨g0, rfl, hi, hx⟩
  rw [b_grp] at hi
  have hE_p0 := hE_m.trans hx
  have hO_p0 := owns_ext hO_m hx
  clear hx hE_m hO_m
  go_wp2_with (first
    | fail
    | (at_builtin; refine wpList_app rfl _ _ rfl z1 hE_p0 _ _ ([]) ([1, 128, 194, 0, 0, 0]) rfl rfl hO_p0 hi (by simp [f1, f2, bts_len]) ?_
       intro va0 a0 hown hE_a0 hg
       have hO_a0 : a0.ownsRow z1.heap.size 5 1 va0 ([1, 128, 194, 0, 0, 0]).length (([1, 128, 194, 0, 0, 0]).map (Value.int .u8)) := hown
       clear hown hg))
  refine (put_i s 6 _ HS.out (by decide) (by decide)).mono ?_
  rintro e p1 ⟨g1, rfl, hi, hx⟩
  have hE_p1 := hE_a0.trans hx
  have hO_p1 := owns_ext hO_a0 hx
  clear hx hE_a0 hO_a0
  go_wp2_with (first
    | fail
    | (at_builtin; refine wpList_app rfl _ _ rfl z1 hE_p1 _ _ ([1, 128, 194, 0, 0, 0]) (bts s.toNat 6) rfl rfl hO_p1 hi (by simp [f1, f2, bts_len]) ?_
       intro va1 a1 hown hE_a1 hg
       have hO_a1 : a1.ownsRow z1.heap.size 5 1 va1 (f1 s).length ((f1 s).map (Value.int .u8)) := hown
       clear hown hg))
  refine (put_i 39 2 _ ⟨by decide, by decide⟩ (by decide) (by decide)).mono ?_
  rintro e p2 ⟨g2, rfl, hi, hx⟩
  rw [b_36] at hi
  have hE_p2 := hE_a1.trans hx
  have hO_p2 := owns_ext hO_a1 hx
  clear hx hE_a1 hO_a1
  go_wp2_with (first
    | fail
    | (at_builtin; refine wpList_app rfl _ _ rfl z1 hE_p2 _ _ (f1 s) ([0, 39]) rfl rfl hO_p2 hi (by simp [f1, f2, bts_len]) ?_
       intro va2 a2 hown hE_a2 hg
       have hO_a2 : a2.ownsRow z1.heap.size 5 1 va2 (f2 s 36).length ((f2 s 36).map (Value.int .u8)) := hown
       clear hown hg))
  refine (put_i 4342275 3 _ ⟨by decide, by decide⟩ (by decide) (by decide)).mono ?_
  rintro e p3 ⟨g3, rfl, hi, hx⟩
  rw [b_lnk] at hi
  have hE_p3 := hE_a2.trans hx
  have hO_p3 := owns_ext hO_a2 hx
  clear hx hE_a2 hO_a2
  go_wp2_with (first
    | fail
    | (at_builtin; refine wpList_app rfl _ _ rfl z1 hE_p3 _ _ (f2 s 36) ([66, 66, 3]) rfl rfl hO_p3 hi (by simp [f1, f2, bts_len]) ?_
       intro va3 a3 hown hE_a3 hg
       have hO_a3 : a3.ownsRow z1.heap.size 5 1 va3 (f3 s 36).length ((f3 s 36).map (Value.int .u8)) := hown
       clear hown hg)
    | (at_builtin; refine wpList_app rfl _ _ rfl z1 hE_a3 _ _ (f3 s 36) (encL q) rfl rfl hO_a3 (hi_z1.ext hE_a3) (by rw [f3_len, hl]; decide) ?_
       intro va4 a4 hown hE_a4 hg
       have hO_a4 : a4.ownsRow z1.heap.size 5 1 va4 53 ((f3 s 36 ++ encL q).map (Value.int .u8)) := by
         have h := hown
         rw [List.length_append, f3_len, hl] at h
         exact h
       obtain ⟨a4a, c4, hv4⟩ := own_form hO_a4
       subst hv4
       clear hown hg)
    | (at_builtin; refine wpList_appz rfl _ _ rfl z1 hE_a4 _ 7 53 (f3 s 36 ++ encL q) rfl rfl hO_a4 (by decide) (by decide) ?_
       intro va5 a5 hown hE_a5))
  go_ret
  refine ⟨_, rfl, ?_, hE_w0.trans (E_z1.trans hE_a5)⟩
  have e : wrapL s q = f3 s 36 ++ encL q ++ zrs 7 := by unfold wrapL; rw [hl, if_neg (by decide)]
  rw [e]
  rw [show (f3 s 36 ++ encL q ++ zrs 7).length = 53 + 7 by rw [List.length_append, List.length_append, f3_len, hl]; simp [zrs]]
  exact owns_base hown (hE_w0.trans E_z1).size
set_option maxRecDepth 100000 in
set_option maxHeartbeats 2000000 in
theorem wrap_no (s : Int) (hs : 0 ≤ s ∧ s < 18446744073709551616) (q : Mg) (hq : q.ok) (hk : ¬ (q.kd = 0 ∨ q.kd = 1 ∨ q.kd = 2)) (w : World) : Calls Try.prog 23 #[.int .u64 s, .agg #[.int .i64 q.kd, .bool q.ch, .bool q.ak, .bool q.pr, .bool q.ag, .bool q.ln, .bool q.fw, .int .i64 q.ro, .int .u64 q.r, .int .u32 q.c, .int .u64 q.b, .int .u16 q.p, .int .u16 q.x, .int .i64 q.a, .int .i64 q.m, .int .i64 q.h, .int .i64 q.d]] w fun e w' => e = .returned (.slice none 0 0) ∧ Ext w w' := by
  have hl : (encL q).length = 0 := by rw [encL_len, if_neg (by omega), if_neg (by omega), if_neg (by omega)]
  have HQ := Lib.hid hq
  clear hk hq
  go_enter Try.func23, Try.ntmps23
  go_wp2_with fail
  have hA_w0 : (w.alloc (.cells #[.int .i64 q.kd, .bool q.ch, .bool q.ak, .bool q.pr, .bool q.ag, .bool q.ln, .bool q.fw, .int .i64 q.ro, .int .u64 q.r, .int .u32 q.c, .int .u64 q.b, .int .u16 q.p, .int .u16 q.x, .int .i64 q.a, .int .i64 q.m, .int .i64 q.h, .int .i64 q.d] 30)).heap[w.heap.size]? = some (.cells #[.int .i64 q.kd, .bool q.ch, .bool q.ak, .bool q.pr, .bool q.ag, .bool q.ln, .bool q.fw, .int .i64 q.ro, .int .u64 q.r, .int .u32 q.c, .int .u64 q.b, .int .u16 q.p, .int .u16 q.x, .int .i64 q.a, .int .i64 q.m, .int .i64 q.h, .int .i64 q.d] 30 (0, 0)) := heap_alloc_new _ _
  have hE_w0 : Ext w (w.alloc (.cells #[.int .i64 q.kd, .bool q.ch, .bool q.ak, .bool q.pr, .bool q.ag, .bool q.ln, .bool q.fw, .int .i64 q.ro, .int .u64 q.r, .int .u32 q.c, .int .u64 q.b, .int .u16 q.p, .int .u16 q.x, .int .i64 q.a, .int .i64 q.m, .int .i64 q.h, .int .i64 q.d] 30)) := (Ext.refl _).alloc _
  generalize w.alloc (.cells #[.int .i64 q.kd, .bool q.ch, .bool q.ak, .bool q.pr, .bool q.ag, .bool q.ln, .bool q.fw, .int .i64 q.ro, .int .u64 q.r, .int .u32 q.c, .int .u64 q.b, .int .u16 q.p, .int .u16 q.x, .int .i64 q.a, .int .i64 q.m, .int .i64 q.h, .int .i64 q.d] 30) = w0 at *
  obtain ⟨A0, hA0⟩ : ∃ n, w.heap.size = n := ⟨_, rfl⟩
  rw [hA0] at hA_w0 ⊢
  go_wp2_with (first
    | fail
    | ((with_reducible refine at_load 30 ?_); refine wpList_load_row rfl 30 _ rfl A0 rfl 30 #[.int .i64 q.kd, .bool q.ch, .bool q.ak, .bool q.pr, .bool q.ag, .bool q.ln, .bool q.fw, .int .i64 q.ro, .int .u64 q.r, .int .u32 q.c, .int .u64 q.b, .int .u16 q.p, .int .u16 q.x, .int .i64 q.a, .int .i64 q.m, .int .i64 q.h, .int .i64 q.d] (0, 0) _ hA_w0 Try.underlying30 rfl (by kernel_rfl) ?_))
  refine (enc_any q HQ.out _).mono ?_
  rintro e z1 ⟨vb, rfl, hown, hx⟩
  have E_z1 : Ext w0 z1 := hx
  have hA_z1 : z1.heap[A0]? = some (.cells #[.int .i64 q.kd, .bool q.ch, .bool q.ak, .bool q.pr, .bool q.ag, .bool q.ln, .bool q.fw, .int .i64 q.ro, .int .u64 q.r, .int .u32 q.c, .int .u64 q.b, .int .u16 q.p, .int .u16 q.x, .int .i64 q.a, .int .i64 q.m, .int .i64 q.h, .int .i64 q.d] 30 (0, 0)) := (hx.block _ (heap_lt hA_w0)).trans hA_w0
  have hi_z1 := isBytes_own hown
  clear hown
  clear hA_w0
  clear hx
  obtain ⟨av, cv, hv, -, -⟩ := hi_z1.form
  rw [hl] at hv
  subst hv
  go_wp2_with fail
  go_ret
  exact ⟨rfl, hE_w0.trans E_z1⟩
theorem wrap_any (s : Int) (hs : 0 ≤ s ∧ s < 18446744073709551616) (q : Mg) (hq : q.ok) (hk : q.kd = 0 ∨ q.kd = 1 ∨ q.kd = 2) (w : World) : Calls Try.prog 23 #[.int .u64 s, .agg #[.int .i64 q.kd, .bool q.ch, .bool q.ak, .bool q.pr, .bool q.ag, .bool q.ln, .bool q.fw, .int .i64 q.ro, .int .u64 q.r, .int .u32 q.c, .int .u64 q.b, .int .u16 q.p, .int .u16 q.x, .int .i64 q.a, .int .i64 q.m, .int .i64 q.h, .int .i64 q.d]] w (Owned w (wrapL s q)) := by
  rcases hk with hk | hk | hk
  · exact wrap_c s hs q hq hk w
  · exact wrap_t s hs q hq hk w
  · exact wrap_r s hs q hq hk w

end Go.Proofs.Ytdfaagchlnkpnaa
