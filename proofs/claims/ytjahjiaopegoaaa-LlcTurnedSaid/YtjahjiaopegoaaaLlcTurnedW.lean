/- The walk of LlcTurned. No statement is proved here. -/
import Derived.Test.YtjahjiaopegoaaaLlL
namespace Go.Proofs.Ytjahjiaopegoaaa
open Go.RowKit Go.BigFrame Go.WideShapes Go.ChangeShapes Go.Deep
set_option linter.unusedVariables false
set_option linter.unusedSimpArgs false

set_option maxRecDepth 100000 in
set_option maxHeartbeats 2000000 in
theorem cLlcTurned_no {w : World} (s : Int) (hs : 0 ≤ s ∧ s < 18446744073709551616) (q : Mg) (hq : q.ok) (at0 : Int) (ha : 0 ≤ at0 ∧ at0 < 256) (by0 : Int) (hb : 0 ≤ by0 ∧ by0 < 256) (ct : Int) (hc : 0 ≤ ct ∧ ct < 256) (hk : ¬ (q.kd = 0 ∨ q.kd = 1 ∨ q.kd = 2)) : Calls Try.prog 10 #[.int .u64 s, .agg #[.int .i64 q.kd, .bool q.ch, .bool q.ak, .bool q.pr, .bool q.ag, .bool q.ln, .bool q.fw, .int .i64 q.ro, .int .u64 q.r, .int .u32 q.c, .int .u64 q.b, .int .u16 q.p, .int .u16 q.x, .int .i64 q.a, .int .i64 q.m, .int .i64 q.h, .int .i64 q.d], .int .u8 at0, .int .u8 by0, .int .u8 ct] w fun e w' => e = .returned (.bool true) ∧ Ext w w' := by
  have hw := wrap_no s hs q hq hk
  clear hk
  go_enter Try.func10, Try.ntmps10
  go_wp2_with fail
  have hA_w0 : (w.alloc (.cells #[.int .i64 q.kd, .bool q.ch, .bool q.ak, .bool q.pr, .bool q.ag, .bool q.ln, .bool q.fw, .int .i64 q.ro, .int .u64 q.r, .int .u32 q.c, .int .u64 q.b, .int .u16 q.p, .int .u16 q.x, .int .i64 q.a, .int .i64 q.m, .int .i64 q.h, .int .i64 q.d] 30)).heap[w.heap.size]? = some (.cells #[.int .i64 q.kd, .bool q.ch, .bool q.ak, .bool q.pr, .bool q.ag, .bool q.ln, .bool q.fw, .int .i64 q.ro, .int .u64 q.r, .int .u32 q.c, .int .u64 q.b, .int .u16 q.p, .int .u16 q.x, .int .i64 q.a, .int .i64 q.m, .int .i64 q.h, .int .i64 q.d] 30 (0, 0)) := heap_alloc_new _ _
  have hE_w0 : Ext w (w.alloc (.cells #[.int .i64 q.kd, .bool q.ch, .bool q.ak, .bool q.pr, .bool q.ag, .bool q.ln, .bool q.fw, .int .i64 q.ro, .int .u64 q.r, .int .u32 q.c, .int .u64 q.b, .int .u16 q.p, .int .u16 q.x, .int .i64 q.a, .int .i64 q.m, .int .i64 q.h, .int .i64 q.d] 30)) := (Ext.refl _).alloc _
  generalize w.alloc (.cells #[.int .i64 q.kd, .bool q.ch, .bool q.ak, .bool q.pr, .bool q.ag, .bool q.ln, .bool q.fw, .int .i64 q.ro, .int .u64 q.r, .int .u32 q.c, .int .u64 q.b, .int .u16 q.p, .int .u16 q.x, .int .i64 q.a, .int .i64 q.m, .int .i64 q.h, .int .i64 q.d] 30) = w0 at *
  obtain ⟨A0, hA0⟩ : ∃ n, w.heap.size = n := ⟨_, rfl⟩
  rw [hA0] at hA_w0 ⊢
  refine (awake6 _).mono ?_
  rintro e z1 ⟨rfl, hx⟩
  have E_z1 : Ext w0 z1 := hx
  have hA_z1 : z1.heap[A0]? = some (.cells #[.int .i64 q.kd, .bool q.ch, .bool q.ak, .bool q.pr, .bool q.ag, .bool q.ln, .bool q.fw, .int .i64 q.ro, .int .u64 q.r, .int .u32 q.c, .int .u64 q.b, .int .u16 q.p, .int .u16 q.x, .int .i64 q.a, .int .i64 q.m, .int .i64 q.h, .int .i64 q.d] 30 (0, 0)) := (hx.block _ (heap_lt hA_w0)).trans hA_w0
  clear hA_w0
  clear hx
  go_wp2_with (first
    | fail
    | ((with_reducible refine at_load 30 ?_); refine wpList_load_row rfl 30 _ rfl A0 rfl 30 #[.int .i64 q.kd, .bool q.ch, .bool q.ak, .bool q.pr, .bool q.ag, .bool q.ln, .bool q.fw, .int .i64 q.ro, .int .u64 q.r, .int .u32 q.c, .int .u64 q.b, .int .u16 q.p, .int .u16 q.x, .int .i64 q.a, .int .i64 q.m, .int .i64 q.h, .int .i64 q.d] (0, 0) _ hA_z1 Try.underlying30 rfl (by kernel_rfl) ?_))
  refine (hw _).mono ?_
  rintro e z2 ⟨rfl, hx⟩
  have E_z2 : Ext w0 z2 := E_z1.trans hx
  have hA_z2 : z2.heap[A0]? = some (.cells #[.int .i64 q.kd, .bool q.ch, .bool q.ak, .bool q.pr, .bool q.ag, .bool q.ln, .bool q.fw, .int .i64 q.ro, .int .u64 q.r, .int .u32 q.c, .int .u64 q.b, .int .u16 q.p, .int .u16 q.x, .int .i64 q.a, .int .i64 q.m, .int .i64 q.h, .int .i64 q.d] 30 (0, 0)) := (hx.block _ (heap_lt hA_z1)).trans hA_z1
  clear hA_z1 E_z1
  clear hx
  go_wp2_with fail
  all_goals
    go_ret
    exact ⟨rfl, hE_w0.trans E_z2⟩
set_option maxRecDepth 100000 in
set_option maxHeartbeats 2000000 in
theorem cLlcTurned_zero {w : World} (s : Int) (hs : 0 ≤ s ∧ s < 18446744073709551616) (q : Mg) (hq : q.ok) (at0 : Int) (ha : 0 ≤ at0 ∧ at0 < 256) (by0 : Int) (hb : 0 ≤ by0 ∧ by0 < 256) (ct : Int) (hc : 0 ≤ ct ∧ ct < 256) (hk : q.kd = 0 ∨ q.kd = 1 ∨ q.kd = 2) (hz : by0 = 0) : Calls Try.prog 10 #[.int .u64 s, .agg #[.int .i64 q.kd, .bool q.ch, .bool q.ak, .bool q.pr, .bool q.ag, .bool q.ln, .bool q.fw, .int .i64 q.ro, .int .u64 q.r, .int .u32 q.c, .int .u64 q.b, .int .u16 q.p, .int .u16 q.x, .int .i64 q.a, .int .i64 q.m, .int .i64 q.h, .int .i64 q.d], .int .u8 at0, .int .u8 by0, .int .u8 ct] w fun e w' => e = .returned (.bool true) ∧ Ext w w' := by
  subst hz
  have hw := wrap_any s hs q hq hk
  obtain ⟨m, hfm⟩ := frm s q hk
  obtain ⟨fr, hfr⟩ : ∃ f, wrapL s q = f := ⟨_, rfl⟩
  rw [hfr] at hfm
  simp only [hfr] at hw
  clear hfr
  have FM := Lib.hid hfm
  have HL := Lib.hid hfm.len
  have HK := Lib.hid hk
  have HQ := Lib.hid hq
  have hm1 := hfm.m1
  have hm2 := hfm.m2
  clear hfm hk hq
  go_enter Try.func10, Try.ntmps10
  go_wp2_with fail
  have hA_w0 : (w.alloc (.cells #[.int .i64 q.kd, .bool q.ch, .bool q.ak, .bool q.pr, .bool q.ag, .bool q.ln, .bool q.fw, .int .i64 q.ro, .int .u64 q.r, .int .u32 q.c, .int .u64 q.b, .int .u16 q.p, .int .u16 q.x, .int .i64 q.a, .int .i64 q.m, .int .i64 q.h, .int .i64 q.d] 30)).heap[w.heap.size]? = some (.cells #[.int .i64 q.kd, .bool q.ch, .bool q.ak, .bool q.pr, .bool q.ag, .bool q.ln, .bool q.fw, .int .i64 q.ro, .int .u64 q.r, .int .u32 q.c, .int .u64 q.b, .int .u16 q.p, .int .u16 q.x, .int .i64 q.a, .int .i64 q.m, .int .i64 q.h, .int .i64 q.d] 30 (0, 0)) := heap_alloc_new _ _
  have hE_w0 : Ext w (w.alloc (.cells #[.int .i64 q.kd, .bool q.ch, .bool q.ak, .bool q.pr, .bool q.ag, .bool q.ln, .bool q.fw, .int .i64 q.ro, .int .u64 q.r, .int .u32 q.c, .int .u64 q.b, .int .u16 q.p, .int .u16 q.x, .int .i64 q.a, .int .i64 q.m, .int .i64 q.h, .int .i64 q.d] 30)) := (Ext.refl _).alloc _
  generalize w.alloc (.cells #[.int .i64 q.kd, .bool q.ch, .bool q.ak, .bool q.pr, .bool q.ag, .bool q.ln, .bool q.fw, .int .i64 q.ro, .int .u64 q.r, .int .u32 q.c, .int .u64 q.b, .int .u16 q.p, .int .u16 q.x, .int .i64 q.a, .int .i64 q.m, .int .i64 q.h, .int .i64 q.d] 30) = w0 at *
  obtain ⟨A0, hA0⟩ : ∃ n, w.heap.size = n := ⟨_, rfl⟩
  rw [hA0] at hA_w0 ⊢
  refine (awake6 _).mono ?_
  rintro e z1 ⟨rfl, hx⟩
  have E_z1 : Ext w0 z1 := hx
  have hA_z1 : z1.heap[A0]? = some (.cells #[.int .i64 q.kd, .bool q.ch, .bool q.ak, .bool q.pr, .bool q.ag, .bool q.ln, .bool q.fw, .int .i64 q.ro, .int .u64 q.r, .int .u32 q.c, .int .u64 q.b, .int .u16 q.p, .int .u16 q.x, .int .i64 q.a, .int .i64 q.m, .int .i64 q.h, .int .i64 q.d] 30 (0, 0)) := (hx.block _ (heap_lt hA_w0)).trans hA_w0
  clear hA_w0
  clear hx
  go_wp2_with (first
    | fail
    | ((with_reducible refine at_load 30 ?_); refine wpList_load_row rfl 30 _ rfl A0 rfl 30 #[.int .i64 q.kd, .bool q.ch, .bool q.ak, .bool q.pr, .bool q.ag, .bool q.ln, .bool q.fw, .int .i64 q.ro, .int .u64 q.r, .int .u32 q.c, .int .u64 q.b, .int .u16 q.p, .int .u16 q.x, .int .i64 q.a, .int .i64 q.m, .int .i64 q.h, .int .i64 q.d] (0, 0) _ hA_z1 Try.underlying30 rfl (by kernel_rfl) ?_))
  refine (hw _).mono ?_
  rintro e z2 ⟨vb, rfl, hown, hx⟩
  have E_z2 : Ext w0 z2 := E_z1.trans hx
  have hA_z2 : z2.heap[A0]? = some (.cells #[.int .i64 q.kd, .bool q.ch, .bool q.ak, .bool q.pr, .bool q.ag, .bool q.ln, .bool q.fw, .int .i64 q.ro, .int .u64 q.r, .int .u32 q.c, .int .u64 q.b, .int .u16 q.p, .int .u16 q.x, .int .i64 q.a, .int .i64 q.m, .int .i64 q.h, .int .i64 q.d] 30 (0, 0)) := (hx.block _ (heap_lt hA_z1)).trans hA_z1
  have hi_z2 := isBytes_own hown
  clear hown
  clear hA_z1 E_z1
  clear hx
  obtain ⟨av, cv, hvv, -, hcap⟩ := hi_z2.form
  rw [HL.out] at hvv hcap
  subst hvv
  obtain ⟨fb, fo, rfl, -, hcv1, hcv2, -⟩ := hcap (by decide)
  clear hcap
  go_wp2_with fail
  all_goals
    go_ret
    exact ⟨rfl, hE_w0.trans E_z2⟩
set_option maxRecDepth 100000 in
set_option maxHeartbeats 2000000 in
theorem cLlcTurned_los {w : World} (s : Int) (hs : 0 ≤ s ∧ s < 18446744073709551616) (q : Mg) (hq : q.ok) (at0 : Int) (ha : 0 ≤ at0 ∧ at0 < 256) (by0 : Int) (hb : 0 ≤ by0 ∧ by0 < 256) (ct : Int) (hc : 0 ≤ ct ∧ ct < 256) (hk : q.kd = 0 ∨ q.kd = 1 ∨ q.kd = 2) (hz : by0 ≠ 0) (k : Nat) (h9 : at0 % 9 = (k : Int)) (hk9 : k < 6) (j : Nat) (hj1 : ∀ m, Frm (wrapL s q) m → (j : Int) < 14 + m) (hjq : ∀ m, Frm (wrapL s q) m → ct % (14 + m) = (j : Int)) (hj2 : j < 17) : Calls Try.prog 10 #[.int .u64 s, .agg #[.int .i64 q.kd, .bool q.ch, .bool q.ak, .bool q.pr, .bool q.ag, .bool q.ln, .bool q.fw, .int .i64 q.ro, .int .u64 q.r, .int .u32 q.c, .int .u64 q.b, .int .u16 q.p, .int .u16 q.x, .int .i64 q.a, .int .i64 q.m, .int .i64 q.h, .int .i64 q.d], .int .u8 at0, .int .u8 by0, .int .u8 ct] w fun e w' => e = .returned (.bool true) ∧ Ext w w' := by
  have hw := wrap_any s hs q hq hk
  obtain ⟨m, hfm⟩ := frm s q hk
  have hjm : (j : Int) < 14 + m := hj1 m hfm
  have hjc := hjq m hfm
  clear hj1 hjq
  obtain ⟨fr, hfr⟩ : ∃ f, wrapL s q = f := ⟨_, rfl⟩
  rw [hfr] at hfm
  simp only [hfr] at hw
  clear hfr
  have FM := Lib.hid hfm
  have HL := Lib.hid hfm.len
  have HK := Lib.hid hk
  have HQ := Lib.hid hq
  have hm1 := hfm.m1
  have hm2 := hfm.m2
  clear hfm hk hq
  have k6 : decide (6 ≤ (k : Int)) = false := by simp; omega
  obtain ⟨k2, hk2⟩ : ∃ k2, k2 = k := ⟨_, rfl⟩
  have HKK := Lib.hid (show k2 < 6 ∨ (14 ≤ k2 ∧ k2 < 17) by omega)
  subst hk2
  have hkl : (k2 : Int) < 60 := by omega
  have hkl2 : k2 < 60 := by omega
  have hb0 : (by0 == 0) = false := by simpa using hz
  obtain ⟨x, hx0⟩ : ∃ x, fr.getD k2 0 = x := ⟨_, rfl⟩
  have hxr := getD_rg FM.out.rg k2
  rw [hx0] at hxr
  obtain ⟨v, hv, hv1, hv2, hv3⟩ := xor8 x by0 hxr hb hz
  have hT := FM.out.turned k2 v HKK.out (by rw [hx0]; exact hv3)
  have hC := FM.out.cut j hjm
  rw [if_pos hj2] at hC
  have HX0 := Lib.hid hx0
  clear hx0 hv3
  have hj60 : j < 60 := by omega
  have hg60 : decide (60 < 14 + m) = false := by simp; omega
  have HHT := Lib.hid hT
  have HHC := Lib.hid hC
  have HJ2 := Lib.hid hj2
  have HZ := Lib.hid hz
  have heq := eq_mz
  have hzm := zero_msg
  clear hT hC hj2 hz
  have ho1 : ∀ z vv, IsInts z .u8 vv (fr.set k2 v) → Calls Try.prog 25 #[vv] z (fun e w' => e = .returned (.tuple #[.int .u64 0, .agg #[.int .i64 0, .bool false, .bool false, .bool false, .bool false, .bool false, .bool false, .int .i64 0, .int .u64 0, .int .u32 0, .int .u64 0, .int .u16 0, .int .u16 0, .int .i64 0, .int .i64 0, .int .i64 0, .int .i64 0], .int .i64 3]) ∧ Ext z w') := fun z vv hi => by
    have := open_any vv (fr.set k2 v) z hi (fun x hx => (List.mem_or_eq_of_mem_set hx).elim (FM.out.rg x) (fun e => e ▸ ⟨hv1, hv2⟩)) (by have := HL.out; simp; omega)
    rw [HHT.out] at this
    exact this
  have ho2 : ∀ z vv, IsInts z .u8 vv (fr.take j) → Calls Try.prog 25 #[vv] z (fun e w' => e = .returned (.tuple #[.int .u64 0, .agg #[.int .i64 0, .bool false, .bool false, .bool false, .bool false, .bool false, .bool false, .int .i64 0, .int .u64 0, .int .u32 0, .int .u64 0, .int .u16 0, .int .u16 0, .int .i64 0, .int .i64 0, .int .i64 0, .int .i64 0], .int .i64 2]) ∧ Ext z w') := fun z vv hi => by
    have := open_any vv (fr.take j) z hi (fun x hx => FM.out.rg x (List.mem_of_mem_take hx)) (by have := HL.out; simp; omega)
    rw [HHC.out] at this
    exact this
  go_enter Try.func10, Try.ntmps10
  go_wp2_with fail
  have hA_w0 : (w.alloc (.cells #[.int .i64 q.kd, .bool q.ch, .bool q.ak, .bool q.pr, .bool q.ag, .bool q.ln, .bool q.fw, .int .i64 q.ro, .int .u64 q.r, .int .u32 q.c, .int .u64 q.b, .int .u16 q.p, .int .u16 q.x, .int .i64 q.a, .int .i64 q.m, .int .i64 q.h, .int .i64 q.d] 30)).heap[w.heap.size]? = some (.cells #[.int .i64 q.kd, .bool q.ch, .bool q.ak, .bool q.pr, .bool q.ag, .bool q.ln, .bool q.fw, .int .i64 q.ro, .int .u64 q.r, .int .u32 q.c, .int .u64 q.b, .int .u16 q.p, .int .u16 q.x, .int .i64 q.a, .int .i64 q.m, .int .i64 q.h, .int .i64 q.d] 30 (0, 0)) := heap_alloc_new _ _
  have hE_w0 : Ext w (w.alloc (.cells #[.int .i64 q.kd, .bool q.ch, .bool q.ak, .bool q.pr, .bool q.ag, .bool q.ln, .bool q.fw, .int .i64 q.ro, .int .u64 q.r, .int .u32 q.c, .int .u64 q.b, .int .u16 q.p, .int .u16 q.x, .int .i64 q.a, .int .i64 q.m, .int .i64 q.h, .int .i64 q.d] 30)) := (Ext.refl _).alloc _
  generalize w.alloc (.cells #[.int .i64 q.kd, .bool q.ch, .bool q.ak, .bool q.pr, .bool q.ag, .bool q.ln, .bool q.fw, .int .i64 q.ro, .int .u64 q.r, .int .u32 q.c, .int .u64 q.b, .int .u16 q.p, .int .u16 q.x, .int .i64 q.a, .int .i64 q.m, .int .i64 q.h, .int .i64 q.d] 30) = w0 at *
  obtain ⟨A0, hA0⟩ : ∃ n, w.heap.size = n := ⟨_, rfl⟩
  rw [hA0] at hA_w0 ⊢
  refine (awake6 _).mono ?_
  rintro e z1 ⟨rfl, hx⟩
  have E_z1 : Ext w0 z1 := hx
  have hA_z1 : z1.heap[A0]? = some (.cells #[.int .i64 q.kd, .bool q.ch, .bool q.ak, .bool q.pr, .bool q.ag, .bool q.ln, .bool q.fw, .int .i64 q.ro, .int .u64 q.r, .int .u32 q.c, .int .u64 q.b, .int .u16 q.p, .int .u16 q.x, .int .i64 q.a, .int .i64 q.m, .int .i64 q.h, .int .i64 q.d] 30 (0, 0)) := (hx.block _ (heap_lt hA_w0)).trans hA_w0
  clear hA_w0
  clear hx
  go_wp2_with (first
    | fail
    | ((with_reducible refine at_load 30 ?_); refine wpList_load_row rfl 30 _ rfl A0 rfl 30 #[.int .i64 q.kd, .bool q.ch, .bool q.ak, .bool q.pr, .bool q.ag, .bool q.ln, .bool q.fw, .int .i64 q.ro, .int .u64 q.r, .int .u32 q.c, .int .u64 q.b, .int .u16 q.p, .int .u16 q.x, .int .i64 q.a, .int .i64 q.m, .int .i64 q.h, .int .i64 q.d] (0, 0) _ hA_z1 Try.underlying30 rfl (by kernel_rfl) ?_))
  refine (hw _).mono ?_
  rintro e z2 ⟨vb, rfl, hown, hx⟩
  have E_z2 : Ext w0 z2 := E_z1.trans hx
  have hA_z2 : z2.heap[A0]? = some (.cells #[.int .i64 q.kd, .bool q.ch, .bool q.ak, .bool q.pr, .bool q.ag, .bool q.ln, .bool q.fw, .int .i64 q.ro, .int .u64 q.r, .int .u32 q.c, .int .u64 q.b, .int .u16 q.p, .int .u16 q.x, .int .i64 q.a, .int .i64 q.m, .int .i64 q.h, .int .i64 q.d] 30 (0, 0)) := (hx.block _ (heap_lt hA_z1)).trans hA_z1
  have hi_z2 := isBytes_own hown
  clear hown
  clear hA_z1 E_z1
  clear hx
  obtain ⟨av, cv, hvv, -, hcap⟩ := hi_z2.form
  rw [HL.out] at hvv hcap
  subst hvv
  obtain ⟨fb, fo, rfl, -, hcv1, hcv2, -⟩ := hcap (by decide)
  clear hcap
  go_wp2_with (first
    | fail
    | (at_builtin; refine wpList_app rfl _ _ rfl z2 ((Ext.refl z2).alloc _) _ _ ([]) (fr) rfl rfl (own0 z2) (hi_z2.ext ((Ext.refl z2).alloc _)) (by have := HL.out; simp; omega) ?_
       intro vp1 z3 hown_z3 hE_z3 hg_z3
       have hO_z3 : z3.ownsRow z2.heap.size 5 1 vp1 (fr).length ((fr).map (Value.int .u8)) := by simpa using hown_z3
       clear hown_z3 hg_z3
       rw [HL.out] at hO_z3
       obtain ⟨g1, cap1, hv1, hg1a, hg1b, hg1c, hg1d⟩ := own_some hO_z3 (by decide)
       subst hv1
       have hcl_z3 := own_cell hO_z3 hkl2
       rw [HX0.out] at hcl_z3)
    | ((with_reducible refine at_store 5 ?_); refine wpList_own_byte rfl rfl _ _ rfl z2 hE_z3 g1 60 cap1 k2 fr v rfl rfl hO_z3 hkl2 ?_
       intro z4 hown2 hx
       have hA_z4 : z4.heap[A0]? = some (.cells #[.int .i64 q.kd, .bool q.ch, .bool q.ak, .bool q.pr, .bool q.ag, .bool q.ln, .bool q.fw, .int .i64 q.ro, .int .u64 q.r, .int .u32 q.c, .int .u64 q.b, .int .u16 q.p, .int .u16 q.x, .int .i64 q.a, .int .i64 q.m, .int .i64 q.h, .int .i64 q.d] 30 (0, 0)) := (hx.block _ (heap_lt hA_z2)).trans hA_z2
       have hi_z4 : IsInts z4 .u8 (.slice (some ⟨fb, fo, none⟩) 60 cv) fr := hi_z2.ext hx
       have E_z4 : Ext w0 z4 := E_z2.trans hx
       have hc_z4 : IsInts z4 .u8 (.slice (some ⟨g1, 0, none⟩) 60 cap1) (fr.set k2 v) := by
         have h3 : z4.ownsRow z2.heap.size 5 1 (.slice (some ⟨g1, 0, none⟩) 60 cap1) (fr.set k2 v).length ((fr.set k2 v).map (Value.int .u8)) := by rw [List.length_set, HL.out]; exact hown2
         exact isBytes_own h3
       clear hA_z2 hi_z2 E_z2
       clear hown2 hx hO_z3 hE_z3 hg1a hg1b hcl_z3))
  refine (ho1 _ _ hc_z4).mono ?_
  rintro e z5 ⟨rfl, hx⟩
  have E_z5 : Ext w0 z5 := E_z4.trans hx
  have hA_z5 : z5.heap[A0]? = some (.cells #[.int .i64 q.kd, .bool q.ch, .bool q.ak, .bool q.pr, .bool q.ag, .bool q.ln, .bool q.fw, .int .i64 q.ro, .int .u64 q.r, .int .u32 q.c, .int .u64 q.b, .int .u16 q.p, .int .u16 q.x, .int .i64 q.a, .int .i64 q.m, .int .i64 q.h, .int .i64 q.d] 30 (0, 0)) := (hx.block _ (heap_lt hA_z4)).trans hA_z4
  have hi_z5 : IsInts z5 .u8 (.slice (some ⟨fb, fo, none⟩) 60 cv) fr := hi_z4.ext hx
  have hc_z5 : IsInts z5 .u8 (.slice (some ⟨g1, 0, none⟩) 60 cap1) (fr.set k2 v) := hc_z4.ext hx
  clear hA_z4 hi_z4 hc_z4 E_z4
  clear hx
  go_wp2_with (first
    | fail
    | ((with_reducible refine at_alloc 30 ?_); refine al_zero rfl 30 rfl MZ zero_msg ?_
       intro X0 z6 hq hs hx
       have E_z6 : Ext w0 z6 := E_z5.trans hx
       have hA_z6 : z6.heap[A0]? = some (.cells #[.int .i64 q.kd, .bool q.ch, .bool q.ak, .bool q.pr, .bool q.ag, .bool q.ln, .bool q.fw, .int .i64 q.ro, .int .u64 q.r, .int .u32 q.c, .int .u64 q.b, .int .u16 q.p, .int .u16 q.x, .int .i64 q.a, .int .i64 q.m, .int .i64 q.h, .int .i64 q.d] 30 (0, 0)) := (hx.block _ (heap_lt hA_z5)).trans hA_z5
       have hi_z6 : IsInts z6 .u8 (.slice (some ⟨fb, fo, none⟩) 60 cv) fr := hi_z5.ext hx
       have hX_z6 : z6.heap[X0]? = some (.cells #[.int .i64 0, .bool false, .bool false, .bool false, .bool false, .bool false, .bool false, .int .i64 0, .int .u64 0, .int .u32 0, .int .u64 0, .int .u16 0, .int .u16 0, .int .i64 0, .int .i64 0, .int .i64 0, .int .i64 0] 30 (0, 0)) := hq
       have hb_X0 : w0.heap.size ≤ X0 := by have := E_z5.size; omega
       have hn_A0X0 : A0 ≠ X0 := by have := heap_lt hA_z5; omega
       clear hA_z5 hi_z5 E_z5
       clear hq hs hx)
    | ((with_reducible refine at_store 30 ?_); refine st_at rfl rfl 30 _ _ rfl X0 0 _ #[.int .i64 0, .bool false, .bool false, .bool false, .bool false, .bool false, .bool false, .int .i64 0, .int .u64 0, .int .u32 0, .int .u64 0, .int .u16 0, .int .u16 0, .int .i64 0, .int .i64 0, .int .i64 0, .int .i64 0] _ #[.int .i64 0, .bool false, .bool false, .bool false, .bool false, .bool false, .bool false, .int .i64 0, .int .u64 0, .int .u32 0, .int .u64 0, .int .u16 0, .int .u16 0, .int .i64 0, .int .i64 0, .int .i64 0, .int .i64 0] _ rfl rfl rfl hX_z6 (by exact (by decide : 0 + 17 ≤ 17)) (by kernel_rfl) rfl rfl ?_
       intro z7 hq hm
       have hX_z7 : z7.heap[X0]? = some (.cells #[.int .i64 0, .bool false, .bool false, .bool false, .bool false, .bool false, .bool false, .int .i64 0, .int .u64 0, .int .u32 0, .int .u64 0, .int .u16 0, .int .u16 0, .int .i64 0, .int .i64 0, .int .i64 0, .int .i64 0] 30 (0, 0)) := hq
       have hA_z7 : z7.heap[A0]? = some (.cells #[.int .i64 q.kd, .bool q.ch, .bool q.ak, .bool q.pr, .bool q.ag, .bool q.ln, .bool q.fw, .int .i64 q.ro, .int .u64 q.r, .int .u32 q.c, .int .u64 q.b, .int .u16 q.p, .int .u16 q.x, .int .i64 q.a, .int .i64 q.m, .int .i64 q.h, .int .i64 q.d] 30 (0, 0)) := (hm.heap (heap_lt hA_z6) (show ¬ A0 = X0 by omega)).trans hA_z6
       have E_z7 : Ext w0 z7 := Ext.mutE E_z6 hm (fun n hn h => by have h2 : n = X0 := h; omega)
       have hi_z7 : IsInts z7 .u8 (.slice (some ⟨fb, fo, none⟩) 60 cv) fr := ints_far hi_z6 hX_z6 rfl hm
       have f13 := ints_cell (k := 13) hi_z7 (by decide)
       rw [FM.out.at13] at f13
       clear hA_z6 hX_z6 hi_z6 E_z6
       clear hq hm))
  refine (ho2 _ _ (ints_take2 hi_z7 hj60)).mono ?_
  rintro e z8 ⟨rfl, hx⟩
  have E_z8 : Ext w0 z8 := E_z7.trans hx
  have hA_z8 : z8.heap[A0]? = some (.cells #[.int .i64 q.kd, .bool q.ch, .bool q.ak, .bool q.pr, .bool q.ag, .bool q.ln, .bool q.fw, .int .i64 q.ro, .int .u64 q.r, .int .u32 q.c, .int .u64 q.b, .int .u16 q.p, .int .u16 q.x, .int .i64 q.a, .int .i64 q.m, .int .i64 q.h, .int .i64 q.d] 30 (0, 0)) := (hx.block _ (heap_lt hA_z7)).trans hA_z7
  have hX_z8 : z8.heap[X0]? = some (.cells #[.int .i64 0, .bool false, .bool false, .bool false, .bool false, .bool false, .bool false, .int .i64 0, .int .u64 0, .int .u32 0, .int .u64 0, .int .u16 0, .int .u16 0, .int .i64 0, .int .i64 0, .int .i64 0, .int .i64 0] 30 (0, 0)) := (hx.block _ (heap_lt hX_z7)).trans hX_z7
  have hi_z8 : IsInts z8 .u8 (.slice (some ⟨fb, fo, none⟩) 60 cv) fr := hi_z7.ext hx
  clear hA_z7 hX_z7 hi_z7 E_z7
  clear hx
  go_wp2_with (first
    | fail
    | ((with_reducible refine at_alloc 30 ?_); refine al_zero rfl 30 rfl MZ zero_msg ?_
       intro Y0 z9 hq hs hx
       have E_z9 : Ext w0 z9 := E_z8.trans hx
       have hA_z9 : z9.heap[A0]? = some (.cells #[.int .i64 q.kd, .bool q.ch, .bool q.ak, .bool q.pr, .bool q.ag, .bool q.ln, .bool q.fw, .int .i64 q.ro, .int .u64 q.r, .int .u32 q.c, .int .u64 q.b, .int .u16 q.p, .int .u16 q.x, .int .i64 q.a, .int .i64 q.m, .int .i64 q.h, .int .i64 q.d] 30 (0, 0)) := (hx.block _ (heap_lt hA_z8)).trans hA_z8
       have hX_z9 : z9.heap[X0]? = some (.cells #[.int .i64 0, .bool false, .bool false, .bool false, .bool false, .bool false, .bool false, .int .i64 0, .int .u64 0, .int .u32 0, .int .u64 0, .int .u16 0, .int .u16 0, .int .i64 0, .int .i64 0, .int .i64 0, .int .i64 0] 30 (0, 0)) := (hx.block _ (heap_lt hX_z8)).trans hX_z8
       have hY_z9 : z9.heap[Y0]? = some (.cells #[.int .i64 0, .bool false, .bool false, .bool false, .bool false, .bool false, .bool false, .int .i64 0, .int .u64 0, .int .u32 0, .int .u64 0, .int .u16 0, .int .u16 0, .int .i64 0, .int .i64 0, .int .i64 0, .int .i64 0] 30 (0, 0)) := hq
       have hb_Y0 : w0.heap.size ≤ Y0 := by have := E_z8.size; omega
       have hn_A0Y0 : A0 ≠ Y0 := by have := heap_lt hA_z8; omega
       have hn_X0Y0 : X0 ≠ Y0 := by have := heap_lt hX_z8; omega
       clear hA_z8 hX_z8 E_z8
       clear hq hs hx)
    | ((with_reducible refine at_store 30 ?_); refine st_at rfl rfl 30 _ _ rfl Y0 0 _ #[.int .i64 0, .bool false, .bool false, .bool false, .bool false, .bool false, .bool false, .int .i64 0, .int .u64 0, .int .u32 0, .int .u64 0, .int .u16 0, .int .u16 0, .int .i64 0, .int .i64 0, .int .i64 0, .int .i64 0] _ #[.int .i64 0, .bool false, .bool false, .bool false, .bool false, .bool false, .bool false, .int .i64 0, .int .u64 0, .int .u32 0, .int .u64 0, .int .u16 0, .int .u16 0, .int .i64 0, .int .i64 0, .int .i64 0, .int .i64 0] _ rfl rfl rfl hY_z9 (by exact (by decide : 0 + 17 ≤ 17)) (by kernel_rfl) rfl rfl ?_
       intro z10 hq hm
       have hY_z10 : z10.heap[Y0]? = some (.cells #[.int .i64 0, .bool false, .bool false, .bool false, .bool false, .bool false, .bool false, .int .i64 0, .int .u64 0, .int .u32 0, .int .u64 0, .int .u16 0, .int .u16 0, .int .i64 0, .int .i64 0, .int .i64 0, .int .i64 0] 30 (0, 0)) := hq
       have hA_z10 : z10.heap[A0]? = some (.cells #[.int .i64 q.kd, .bool q.ch, .bool q.ak, .bool q.pr, .bool q.ag, .bool q.ln, .bool q.fw, .int .i64 q.ro, .int .u64 q.r, .int .u32 q.c, .int .u64 q.b, .int .u16 q.p, .int .u16 q.x, .int .i64 q.a, .int .i64 q.m, .int .i64 q.h, .int .i64 q.d] 30 (0, 0)) := (hm.heap (heap_lt hA_z9) (show ¬ A0 = Y0 by omega)).trans hA_z9
       have hX_z10 : z10.heap[X0]? = some (.cells #[.int .i64 0, .bool false, .bool false, .bool false, .bool false, .bool false, .bool false, .int .i64 0, .int .u64 0, .int .u32 0, .int .u64 0, .int .u16 0, .int .u16 0, .int .i64 0, .int .i64 0, .int .i64 0, .int .i64 0] 30 (0, 0)) := (hm.heap (heap_lt hX_z9) (show ¬ X0 = Y0 by omega)).trans hX_z9
       have E_z10 : Ext w0 z10 := Ext.mutE E_z9 hm (fun n hn h => by have h2 : n = Y0 := h; omega)
       clear hA_z9 hX_z9 hY_z9 E_z9
       clear hq hm)
    | ((with_reducible refine at_loadG 30 ?_); refine wpList_load_rowG rfl 30 _ rfl X0 rfl 30 #[.int .i64 0, .bool false, .bool false, .bool false, .bool false, .bool false, .bool false, .int .i64 0, .int .u64 0, .int .u32 0, .int .u64 0, .int .u16 0, .int .u16 0, .int .i64 0, .int .i64 0, .int .i64 0, .int .i64 0] (0, 0) _ hX_z10 Try.underlying30 rfl (by kernel_rfl) ?_)
    | ((with_reducible refine at_loadG 30 ?_); refine wpList_load_rowG rfl 30 _ rfl Y0 rfl 30 #[.int .i64 0, .bool false, .bool false, .bool false, .bool false, .bool false, .bool false, .int .i64 0, .int .u64 0, .int .u32 0, .int .u64 0, .int .u16 0, .int .u16 0, .int .i64 0, .int .i64 0, .int .i64 0, .int .i64 0] (0, 0) _ hY_z10 Try.underlying30 rfl (by kernel_rfl) ?_))
  all_goals
    go_ret
    exact ⟨rfl, hE_w0.trans E_z10⟩
set_option maxRecDepth 100000 in
set_option maxHeartbeats 2000000 in
theorem cLlcTurned_lof {w : World} (s : Int) (hs : 0 ≤ s ∧ s < 18446744073709551616) (q : Mg) (hq : q.ok) (at0 : Int) (ha : 0 ≤ at0 ∧ at0 < 256) (by0 : Int) (hb : 0 ≤ by0 ∧ by0 < 256) (ct : Int) (hc : 0 ≤ ct ∧ ct < 256) (hk : q.kd = 0 ∨ q.kd = 1 ∨ q.kd = 2) (hz : by0 ≠ 0) (k : Nat) (h9 : at0 % 9 = (k : Int)) (hk9 : k < 6) (j : Nat) (hj1 : ∀ m, Frm (wrapL s q) m → (j : Int) < 14 + m) (hjq : ∀ m, Frm (wrapL s q) m → ct % (14 + m) = (j : Int)) (hj2 : 17 ≤ j) : Calls Try.prog 10 #[.int .u64 s, .agg #[.int .i64 q.kd, .bool q.ch, .bool q.ak, .bool q.pr, .bool q.ag, .bool q.ln, .bool q.fw, .int .i64 q.ro, .int .u64 q.r, .int .u32 q.c, .int .u64 q.b, .int .u16 q.p, .int .u16 q.x, .int .i64 q.a, .int .i64 q.m, .int .i64 q.h, .int .i64 q.d], .int .u8 at0, .int .u8 by0, .int .u8 ct] w fun e w' => e = .returned (.bool true) ∧ Ext w w' := by
  have hw := wrap_any s hs q hq hk
  obtain ⟨m, hfm⟩ := frm s q hk
  have hjm : (j : Int) < 14 + m := hj1 m hfm
  have hjc := hjq m hfm
  clear hj1 hjq
  obtain ⟨fr, hfr⟩ : ∃ f, wrapL s q = f := ⟨_, rfl⟩
  rw [hfr] at hfm
  simp only [hfr] at hw
  clear hfr
  have FM := Lib.hid hfm
  have HL := Lib.hid hfm.len
  have HK := Lib.hid hk
  have HQ := Lib.hid hq
  have hm1 := hfm.m1
  have hm2 := hfm.m2
  clear hfm hk hq
  have k6 : decide (6 ≤ (k : Int)) = false := by simp; omega
  obtain ⟨k2, hk2⟩ : ∃ k2, k2 = k := ⟨_, rfl⟩
  have HKK := Lib.hid (show k2 < 6 ∨ (14 ≤ k2 ∧ k2 < 17) by omega)
  subst hk2
  have hkl : (k2 : Int) < 60 := by omega
  have hkl2 : k2 < 60 := by omega
  have hb0 : (by0 == 0) = false := by simpa using hz
  obtain ⟨x, hx0⟩ : ∃ x, fr.getD k2 0 = x := ⟨_, rfl⟩
  have hxr := getD_rg FM.out.rg k2
  rw [hx0] at hxr
  obtain ⟨v, hv, hv1, hv2, hv3⟩ := xor8 x by0 hxr hb hz
  have hT := FM.out.turned k2 v HKK.out (by rw [hx0]; exact hv3)
  have hC := FM.out.cut j hjm
  rw [if_neg (by omega)] at hC
  have HX0 := Lib.hid hx0
  clear hx0 hv3
  have hj60 : j < 60 := by omega
  have hg60 : decide (60 < 14 + m) = false := by simp; omega
  have HHT := Lib.hid hT
  have HHC := Lib.hid hC
  have HJ2 := Lib.hid hj2
  have HZ := Lib.hid hz
  have heq := eq_mz
  have hzm := zero_msg
  clear hT hC hj2 hz
  have ho1 : ∀ z vv, IsInts z .u8 vv (fr.set k2 v) → Calls Try.prog 25 #[vv] z (fun e w' => e = .returned (.tuple #[.int .u64 0, .agg #[.int .i64 0, .bool false, .bool false, .bool false, .bool false, .bool false, .bool false, .int .i64 0, .int .u64 0, .int .u32 0, .int .u64 0, .int .u16 0, .int .u16 0, .int .i64 0, .int .i64 0, .int .i64 0, .int .i64 0], .int .i64 3]) ∧ Ext z w') := fun z vv hi => by
    have := open_any vv (fr.set k2 v) z hi (fun x hx => (List.mem_or_eq_of_mem_set hx).elim (FM.out.rg x) (fun e => e ▸ ⟨hv1, hv2⟩)) (by have := HL.out; simp; omega)
    rw [HHT.out] at this
    exact this
  have ho2 : ∀ z vv, IsInts z .u8 vv (fr.take j) → Calls Try.prog 25 #[vv] z (fun e w' => e = .returned (.tuple #[.int .u64 0, .agg #[.int .i64 0, .bool false, .bool false, .bool false, .bool false, .bool false, .bool false, .int .i64 0, .int .u64 0, .int .u32 0, .int .u64 0, .int .u16 0, .int .u16 0, .int .i64 0, .int .i64 0, .int .i64 0, .int .i64 0], .int .i64 3]) ∧ Ext z w') := fun z vv hi => by
    have := open_any vv (fr.take j) z hi (fun x hx => FM.out.rg x (List.mem_of_mem_take hx)) (by have := HL.out; simp; omega)
    rw [HHC.out] at this
    exact this
  go_enter Try.func10, Try.ntmps10
  go_wp2_with fail
  have hA_w0 : (w.alloc (.cells #[.int .i64 q.kd, .bool q.ch, .bool q.ak, .bool q.pr, .bool q.ag, .bool q.ln, .bool q.fw, .int .i64 q.ro, .int .u64 q.r, .int .u32 q.c, .int .u64 q.b, .int .u16 q.p, .int .u16 q.x, .int .i64 q.a, .int .i64 q.m, .int .i64 q.h, .int .i64 q.d] 30)).heap[w.heap.size]? = some (.cells #[.int .i64 q.kd, .bool q.ch, .bool q.ak, .bool q.pr, .bool q.ag, .bool q.ln, .bool q.fw, .int .i64 q.ro, .int .u64 q.r, .int .u32 q.c, .int .u64 q.b, .int .u16 q.p, .int .u16 q.x, .int .i64 q.a, .int .i64 q.m, .int .i64 q.h, .int .i64 q.d] 30 (0, 0)) := heap_alloc_new _ _
  have hE_w0 : Ext w (w.alloc (.cells #[.int .i64 q.kd, .bool q.ch, .bool q.ak, .bool q.pr, .bool q.ag, .bool q.ln, .bool q.fw, .int .i64 q.ro, .int .u64 q.r, .int .u32 q.c, .int .u64 q.b, .int .u16 q.p, .int .u16 q.x, .int .i64 q.a, .int .i64 q.m, .int .i64 q.h, .int .i64 q.d] 30)) := (Ext.refl _).alloc _
  generalize w.alloc (.cells #[.int .i64 q.kd, .bool q.ch, .bool q.ak, .bool q.pr, .bool q.ag, .bool q.ln, .bool q.fw, .int .i64 q.ro, .int .u64 q.r, .int .u32 q.c, .int .u64 q.b, .int .u16 q.p, .int .u16 q.x, .int .i64 q.a, .int .i64 q.m, .int .i64 q.h, .int .i64 q.d] 30) = w0 at *
  obtain ⟨A0, hA0⟩ : ∃ n, w.heap.size = n := ⟨_, rfl⟩
  rw [hA0] at hA_w0 ⊢
  refine (awake6 _).mono ?_
  rintro e z1 ⟨rfl, hx⟩
  have E_z1 : Ext w0 z1 := hx
  have hA_z1 : z1.heap[A0]? = some (.cells #[.int .i64 q.kd, .bool q.ch, .bool q.ak, .bool q.pr, .bool q.ag, .bool q.ln, .bool q.fw, .int .i64 q.ro, .int .u64 q.r, .int .u32 q.c, .int .u64 q.b, .int .u16 q.p, .int .u16 q.x, .int .i64 q.a, .int .i64 q.m, .int .i64 q.h, .int .i64 q.d] 30 (0, 0)) := (hx.block _ (heap_lt hA_w0)).trans hA_w0
  clear hA_w0
  clear hx
  go_wp2_with (first
    | fail
    | ((with_reducible refine at_load 30 ?_); refine wpList_load_row rfl 30 _ rfl A0 rfl 30 #[.int .i64 q.kd, .bool q.ch, .bool q.ak, .bool q.pr, .bool q.ag, .bool q.ln, .bool q.fw, .int .i64 q.ro, .int .u64 q.r, .int .u32 q.c, .int .u64 q.b, .int .u16 q.p, .int .u16 q.x, .int .i64 q.a, .int .i64 q.m, .int .i64 q.h, .int .i64 q.d] (0, 0) _ hA_z1 Try.underlying30 rfl (by kernel_rfl) ?_))
  refine (hw _).mono ?_
  rintro e z2 ⟨vb, rfl, hown, hx⟩
  have E_z2 : Ext w0 z2 := E_z1.trans hx
  have hA_z2 : z2.heap[A0]? = some (.cells #[.int .i64 q.kd, .bool q.ch, .bool q.ak, .bool q.pr, .bool q.ag, .bool q.ln, .bool q.fw, .int .i64 q.ro, .int .u64 q.r, .int .u32 q.c, .int .u64 q.b, .int .u16 q.p, .int .u16 q.x, .int .i64 q.a, .int .i64 q.m, .int .i64 q.h, .int .i64 q.d] 30 (0, 0)) := (hx.block _ (heap_lt hA_z1)).trans hA_z1
  have hi_z2 := isBytes_own hown
  clear hown
  clear hA_z1 E_z1
  clear hx
  obtain ⟨av, cv, hvv, -, hcap⟩ := hi_z2.form
  rw [HL.out] at hvv hcap
  subst hvv
  obtain ⟨fb, fo, rfl, -, hcv1, hcv2, -⟩ := hcap (by decide)
  clear hcap
  go_wp2_with (first
    | fail
    | (at_builtin; refine wpList_app rfl _ _ rfl z2 ((Ext.refl z2).alloc _) _ _ ([]) (fr) rfl rfl (own0 z2) (hi_z2.ext ((Ext.refl z2).alloc _)) (by have := HL.out; simp; omega) ?_
       intro vp1 z3 hown_z3 hE_z3 hg_z3
       have hO_z3 : z3.ownsRow z2.heap.size 5 1 vp1 (fr).length ((fr).map (Value.int .u8)) := by simpa using hown_z3
       clear hown_z3 hg_z3
       rw [HL.out] at hO_z3
       obtain ⟨g1, cap1, hv1, hg1a, hg1b, hg1c, hg1d⟩ := own_some hO_z3 (by decide)
       subst hv1
       have hcl_z3 := own_cell hO_z3 hkl2
       rw [HX0.out] at hcl_z3)
    | ((with_reducible refine at_store 5 ?_); refine wpList_own_byte rfl rfl _ _ rfl z2 hE_z3 g1 60 cap1 k2 fr v rfl rfl hO_z3 hkl2 ?_
       intro z4 hown2 hx
       have hA_z4 : z4.heap[A0]? = some (.cells #[.int .i64 q.kd, .bool q.ch, .bool q.ak, .bool q.pr, .bool q.ag, .bool q.ln, .bool q.fw, .int .i64 q.ro, .int .u64 q.r, .int .u32 q.c, .int .u64 q.b, .int .u16 q.p, .int .u16 q.x, .int .i64 q.a, .int .i64 q.m, .int .i64 q.h, .int .i64 q.d] 30 (0, 0)) := (hx.block _ (heap_lt hA_z2)).trans hA_z2
       have hi_z4 : IsInts z4 .u8 (.slice (some ⟨fb, fo, none⟩) 60 cv) fr := hi_z2.ext hx
       have E_z4 : Ext w0 z4 := E_z2.trans hx
       have hc_z4 : IsInts z4 .u8 (.slice (some ⟨g1, 0, none⟩) 60 cap1) (fr.set k2 v) := by
         have h3 : z4.ownsRow z2.heap.size 5 1 (.slice (some ⟨g1, 0, none⟩) 60 cap1) (fr.set k2 v).length ((fr.set k2 v).map (Value.int .u8)) := by rw [List.length_set, HL.out]; exact hown2
         exact isBytes_own h3
       clear hA_z2 hi_z2 E_z2
       clear hown2 hx hO_z3 hE_z3 hg1a hg1b hcl_z3))
  refine (ho1 _ _ hc_z4).mono ?_
  rintro e z5 ⟨rfl, hx⟩
  have E_z5 : Ext w0 z5 := E_z4.trans hx
  have hA_z5 : z5.heap[A0]? = some (.cells #[.int .i64 q.kd, .bool q.ch, .bool q.ak, .bool q.pr, .bool q.ag, .bool q.ln, .bool q.fw, .int .i64 q.ro, .int .u64 q.r, .int .u32 q.c, .int .u64 q.b, .int .u16 q.p, .int .u16 q.x, .int .i64 q.a, .int .i64 q.m, .int .i64 q.h, .int .i64 q.d] 30 (0, 0)) := (hx.block _ (heap_lt hA_z4)).trans hA_z4
  have hi_z5 : IsInts z5 .u8 (.slice (some ⟨fb, fo, none⟩) 60 cv) fr := hi_z4.ext hx
  have hc_z5 : IsInts z5 .u8 (.slice (some ⟨g1, 0, none⟩) 60 cap1) (fr.set k2 v) := hc_z4.ext hx
  clear hA_z4 hi_z4 hc_z4 E_z4
  clear hx
  go_wp2_with (first
    | fail
    | ((with_reducible refine at_alloc 30 ?_); refine al_zero rfl 30 rfl MZ zero_msg ?_
       intro X0 z6 hq hs hx
       have E_z6 : Ext w0 z6 := E_z5.trans hx
       have hA_z6 : z6.heap[A0]? = some (.cells #[.int .i64 q.kd, .bool q.ch, .bool q.ak, .bool q.pr, .bool q.ag, .bool q.ln, .bool q.fw, .int .i64 q.ro, .int .u64 q.r, .int .u32 q.c, .int .u64 q.b, .int .u16 q.p, .int .u16 q.x, .int .i64 q.a, .int .i64 q.m, .int .i64 q.h, .int .i64 q.d] 30 (0, 0)) := (hx.block _ (heap_lt hA_z5)).trans hA_z5
       have hi_z6 : IsInts z6 .u8 (.slice (some ⟨fb, fo, none⟩) 60 cv) fr := hi_z5.ext hx
       have hX_z6 : z6.heap[X0]? = some (.cells #[.int .i64 0, .bool false, .bool false, .bool false, .bool false, .bool false, .bool false, .int .i64 0, .int .u64 0, .int .u32 0, .int .u64 0, .int .u16 0, .int .u16 0, .int .i64 0, .int .i64 0, .int .i64 0, .int .i64 0] 30 (0, 0)) := hq
       have hb_X0 : w0.heap.size ≤ X0 := by have := E_z5.size; omega
       have hn_A0X0 : A0 ≠ X0 := by have := heap_lt hA_z5; omega
       clear hA_z5 hi_z5 E_z5
       clear hq hs hx)
    | ((with_reducible refine at_store 30 ?_); refine st_at rfl rfl 30 _ _ rfl X0 0 _ #[.int .i64 0, .bool false, .bool false, .bool false, .bool false, .bool false, .bool false, .int .i64 0, .int .u64 0, .int .u32 0, .int .u64 0, .int .u16 0, .int .u16 0, .int .i64 0, .int .i64 0, .int .i64 0, .int .i64 0] _ #[.int .i64 0, .bool false, .bool false, .bool false, .bool false, .bool false, .bool false, .int .i64 0, .int .u64 0, .int .u32 0, .int .u64 0, .int .u16 0, .int .u16 0, .int .i64 0, .int .i64 0, .int .i64 0, .int .i64 0] _ rfl rfl rfl hX_z6 (by exact (by decide : 0 + 17 ≤ 17)) (by kernel_rfl) rfl rfl ?_
       intro z7 hq hm
       have hX_z7 : z7.heap[X0]? = some (.cells #[.int .i64 0, .bool false, .bool false, .bool false, .bool false, .bool false, .bool false, .int .i64 0, .int .u64 0, .int .u32 0, .int .u64 0, .int .u16 0, .int .u16 0, .int .i64 0, .int .i64 0, .int .i64 0, .int .i64 0] 30 (0, 0)) := hq
       have hA_z7 : z7.heap[A0]? = some (.cells #[.int .i64 q.kd, .bool q.ch, .bool q.ak, .bool q.pr, .bool q.ag, .bool q.ln, .bool q.fw, .int .i64 q.ro, .int .u64 q.r, .int .u32 q.c, .int .u64 q.b, .int .u16 q.p, .int .u16 q.x, .int .i64 q.a, .int .i64 q.m, .int .i64 q.h, .int .i64 q.d] 30 (0, 0)) := (hm.heap (heap_lt hA_z6) (show ¬ A0 = X0 by omega)).trans hA_z6
       have E_z7 : Ext w0 z7 := Ext.mutE E_z6 hm (fun n hn h => by have h2 : n = X0 := h; omega)
       have hi_z7 : IsInts z7 .u8 (.slice (some ⟨fb, fo, none⟩) 60 cv) fr := ints_far hi_z6 hX_z6 rfl hm
       have f13 := ints_cell (k := 13) hi_z7 (by decide)
       rw [FM.out.at13] at f13
       clear hA_z6 hX_z6 hi_z6 E_z6
       clear hq hm))
  refine (ho2 _ _ (ints_take2 hi_z7 hj60)).mono ?_
  rintro e z8 ⟨rfl, hx⟩
  have E_z8 : Ext w0 z8 := E_z7.trans hx
  have hA_z8 : z8.heap[A0]? = some (.cells #[.int .i64 q.kd, .bool q.ch, .bool q.ak, .bool q.pr, .bool q.ag, .bool q.ln, .bool q.fw, .int .i64 q.ro, .int .u64 q.r, .int .u32 q.c, .int .u64 q.b, .int .u16 q.p, .int .u16 q.x, .int .i64 q.a, .int .i64 q.m, .int .i64 q.h, .int .i64 q.d] 30 (0, 0)) := (hx.block _ (heap_lt hA_z7)).trans hA_z7
  have hX_z8 : z8.heap[X0]? = some (.cells #[.int .i64 0, .bool false, .bool false, .bool false, .bool false, .bool false, .bool false, .int .i64 0, .int .u64 0, .int .u32 0, .int .u64 0, .int .u16 0, .int .u16 0, .int .i64 0, .int .i64 0, .int .i64 0, .int .i64 0] 30 (0, 0)) := (hx.block _ (heap_lt hX_z7)).trans hX_z7
  have hi_z8 : IsInts z8 .u8 (.slice (some ⟨fb, fo, none⟩) 60 cv) fr := hi_z7.ext hx
  clear hA_z7 hX_z7 hi_z7 E_z7
  clear hx
  go_wp2_with (first
    | fail
    | ((with_reducible refine at_alloc 30 ?_); refine al_zero rfl 30 rfl MZ zero_msg ?_
       intro Y0 z9 hq hs hx
       have E_z9 : Ext w0 z9 := E_z8.trans hx
       have hA_z9 : z9.heap[A0]? = some (.cells #[.int .i64 q.kd, .bool q.ch, .bool q.ak, .bool q.pr, .bool q.ag, .bool q.ln, .bool q.fw, .int .i64 q.ro, .int .u64 q.r, .int .u32 q.c, .int .u64 q.b, .int .u16 q.p, .int .u16 q.x, .int .i64 q.a, .int .i64 q.m, .int .i64 q.h, .int .i64 q.d] 30 (0, 0)) := (hx.block _ (heap_lt hA_z8)).trans hA_z8
       have hX_z9 : z9.heap[X0]? = some (.cells #[.int .i64 0, .bool false, .bool false, .bool false, .bool false, .bool false, .bool false, .int .i64 0, .int .u64 0, .int .u32 0, .int .u64 0, .int .u16 0, .int .u16 0, .int .i64 0, .int .i64 0, .int .i64 0, .int .i64 0] 30 (0, 0)) := (hx.block _ (heap_lt hX_z8)).trans hX_z8
       have hY_z9 : z9.heap[Y0]? = some (.cells #[.int .i64 0, .bool false, .bool false, .bool false, .bool false, .bool false, .bool false, .int .i64 0, .int .u64 0, .int .u32 0, .int .u64 0, .int .u16 0, .int .u16 0, .int .i64 0, .int .i64 0, .int .i64 0, .int .i64 0] 30 (0, 0)) := hq
       have hb_Y0 : w0.heap.size ≤ Y0 := by have := E_z8.size; omega
       have hn_A0Y0 : A0 ≠ Y0 := by have := heap_lt hA_z8; omega
       have hn_X0Y0 : X0 ≠ Y0 := by have := heap_lt hX_z8; omega
       clear hA_z8 hX_z8 E_z8
       clear hq hs hx)
    | ((with_reducible refine at_store 30 ?_); refine st_at rfl rfl 30 _ _ rfl Y0 0 _ #[.int .i64 0, .bool false, .bool false, .bool false, .bool false, .bool false, .bool false, .int .i64 0, .int .u64 0, .int .u32 0, .int .u64 0, .int .u16 0, .int .u16 0, .int .i64 0, .int .i64 0, .int .i64 0, .int .i64 0] _ #[.int .i64 0, .bool false, .bool false, .bool false, .bool false, .bool false, .bool false, .int .i64 0, .int .u64 0, .int .u32 0, .int .u64 0, .int .u16 0, .int .u16 0, .int .i64 0, .int .i64 0, .int .i64 0, .int .i64 0] _ rfl rfl rfl hY_z9 (by exact (by decide : 0 + 17 ≤ 17)) (by kernel_rfl) rfl rfl ?_
       intro z10 hq hm
       have hY_z10 : z10.heap[Y0]? = some (.cells #[.int .i64 0, .bool false, .bool false, .bool false, .bool false, .bool false, .bool false, .int .i64 0, .int .u64 0, .int .u32 0, .int .u64 0, .int .u16 0, .int .u16 0, .int .i64 0, .int .i64 0, .int .i64 0, .int .i64 0] 30 (0, 0)) := hq
       have hA_z10 : z10.heap[A0]? = some (.cells #[.int .i64 q.kd, .bool q.ch, .bool q.ak, .bool q.pr, .bool q.ag, .bool q.ln, .bool q.fw, .int .i64 q.ro, .int .u64 q.r, .int .u32 q.c, .int .u64 q.b, .int .u16 q.p, .int .u16 q.x, .int .i64 q.a, .int .i64 q.m, .int .i64 q.h, .int .i64 q.d] 30 (0, 0)) := (hm.heap (heap_lt hA_z9) (show ¬ A0 = Y0 by omega)).trans hA_z9
       have hX_z10 : z10.heap[X0]? = some (.cells #[.int .i64 0, .bool false, .bool false, .bool false, .bool false, .bool false, .bool false, .int .i64 0, .int .u64 0, .int .u32 0, .int .u64 0, .int .u16 0, .int .u16 0, .int .i64 0, .int .i64 0, .int .i64 0, .int .i64 0] 30 (0, 0)) := (hm.heap (heap_lt hX_z9) (show ¬ X0 = Y0 by omega)).trans hX_z9
       have E_z10 : Ext w0 z10 := Ext.mutE E_z9 hm (fun n hn h => by have h2 : n = Y0 := h; omega)
       clear hA_z9 hX_z9 hY_z9 E_z9
       clear hq hm)
    | ((with_reducible refine at_loadG 30 ?_); refine wpList_load_rowG rfl 30 _ rfl X0 rfl 30 #[.int .i64 0, .bool false, .bool false, .bool false, .bool false, .bool false, .bool false, .int .i64 0, .int .u64 0, .int .u32 0, .int .u64 0, .int .u16 0, .int .u16 0, .int .i64 0, .int .i64 0, .int .i64 0, .int .i64 0] (0, 0) _ hX_z10 Try.underlying30 rfl (by kernel_rfl) ?_)
    | ((with_reducible refine at_loadG 30 ?_); refine wpList_load_rowG rfl 30 _ rfl Y0 rfl 30 #[.int .i64 0, .bool false, .bool false, .bool false, .bool false, .bool false, .bool false, .int .i64 0, .int .u64 0, .int .u32 0, .int .u64 0, .int .u16 0, .int .u16 0, .int .i64 0, .int .i64 0, .int .i64 0, .int .i64 0] (0, 0) _ hY_z10 Try.underlying30 rfl (by kernel_rfl) ?_))
  all_goals
    go_ret
    exact ⟨rfl, hE_w0.trans E_z10⟩
set_option maxRecDepth 100000 in
set_option maxHeartbeats 2000000 in
theorem cLlcTurned_his {w : World} (s : Int) (hs : 0 ≤ s ∧ s < 18446744073709551616) (q : Mg) (hq : q.ok) (at0 : Int) (ha : 0 ≤ at0 ∧ at0 < 256) (by0 : Int) (hb : 0 ≤ by0 ∧ by0 < 256) (ct : Int) (hc : 0 ≤ ct ∧ ct < 256) (hk : q.kd = 0 ∨ q.kd = 1 ∨ q.kd = 2) (hz : by0 ≠ 0) (k : Nat) (h9 : at0 % 9 = (k : Int)) (hk9 : 6 ≤ k ∧ k < 9) (j : Nat) (hj1 : ∀ m, Frm (wrapL s q) m → (j : Int) < 14 + m) (hjq : ∀ m, Frm (wrapL s q) m → ct % (14 + m) = (j : Int)) (hj2 : j < 17) : Calls Try.prog 10 #[.int .u64 s, .agg #[.int .i64 q.kd, .bool q.ch, .bool q.ak, .bool q.pr, .bool q.ag, .bool q.ln, .bool q.fw, .int .i64 q.ro, .int .u64 q.r, .int .u32 q.c, .int .u64 q.b, .int .u16 q.p, .int .u16 q.x, .int .i64 q.a, .int .i64 q.m, .int .i64 q.h, .int .i64 q.d], .int .u8 at0, .int .u8 by0, .int .u8 ct] w fun e w' => e = .returned (.bool true) ∧ Ext w w' := by
  have hw := wrap_any s hs q hq hk
  obtain ⟨m, hfm⟩ := frm s q hk
  have hjm : (j : Int) < 14 + m := hj1 m hfm
  have hjc := hjq m hfm
  clear hj1 hjq
  obtain ⟨fr, hfr⟩ : ∃ f, wrapL s q = f := ⟨_, rfl⟩
  rw [hfr] at hfm
  simp only [hfr] at hw
  clear hfr
  have FM := Lib.hid hfm
  have HL := Lib.hid hfm.len
  have HK := Lib.hid hk
  have HQ := Lib.hid hq
  have hm1 := hfm.m1
  have hm2 := hfm.m2
  clear hfm hk hq
  have k6 : decide (6 ≤ (k : Int)) = true := by simp; omega
  obtain ⟨k2, hk2⟩ : ∃ k2 : Nat, (k : Int) + 8 = k2 := ⟨k + 8, by omega⟩
  have HKK := Lib.hid (show k2 < 6 ∨ (14 ≤ k2 ∧ k2 < 17) by omega)
  have hkl : (k2 : Int) < 60 := by omega
  have hkl2 : k2 < 60 := by omega
  have hb0 : (by0 == 0) = false := by simpa using hz
  obtain ⟨x, hx0⟩ : ∃ x, fr.getD k2 0 = x := ⟨_, rfl⟩
  have hxr := getD_rg FM.out.rg k2
  rw [hx0] at hxr
  obtain ⟨v, hv, hv1, hv2, hv3⟩ := xor8 x by0 hxr hb hz
  have hT := FM.out.turned k2 v HKK.out (by rw [hx0]; exact hv3)
  have hC := FM.out.cut j hjm
  rw [if_pos hj2] at hC
  have HX0 := Lib.hid hx0
  clear hx0 hv3
  have hj60 : j < 60 := by omega
  have hg60 : decide (60 < 14 + m) = false := by simp; omega
  have HHT := Lib.hid hT
  have HHC := Lib.hid hC
  have HJ2 := Lib.hid hj2
  have HZ := Lib.hid hz
  have heq := eq_mz
  have hzm := zero_msg
  clear hT hC hj2 hz
  have ho1 : ∀ z vv, IsInts z .u8 vv (fr.set k2 v) → Calls Try.prog 25 #[vv] z (fun e w' => e = .returned (.tuple #[.int .u64 0, .agg #[.int .i64 0, .bool false, .bool false, .bool false, .bool false, .bool false, .bool false, .int .i64 0, .int .u64 0, .int .u32 0, .int .u64 0, .int .u16 0, .int .u16 0, .int .i64 0, .int .i64 0, .int .i64 0, .int .i64 0], .int .i64 3]) ∧ Ext z w') := fun z vv hi => by
    have := open_any vv (fr.set k2 v) z hi (fun x hx => (List.mem_or_eq_of_mem_set hx).elim (FM.out.rg x) (fun e => e ▸ ⟨hv1, hv2⟩)) (by have := HL.out; simp; omega)
    rw [HHT.out] at this
    exact this
  have ho2 : ∀ z vv, IsInts z .u8 vv (fr.take j) → Calls Try.prog 25 #[vv] z (fun e w' => e = .returned (.tuple #[.int .u64 0, .agg #[.int .i64 0, .bool false, .bool false, .bool false, .bool false, .bool false, .bool false, .int .i64 0, .int .u64 0, .int .u32 0, .int .u64 0, .int .u16 0, .int .u16 0, .int .i64 0, .int .i64 0, .int .i64 0, .int .i64 0], .int .i64 2]) ∧ Ext z w') := fun z vv hi => by
    have := open_any vv (fr.take j) z hi (fun x hx => FM.out.rg x (List.mem_of_mem_take hx)) (by have := HL.out; simp; omega)
    rw [HHC.out] at this
    exact this
  go_enter Try.func10, Try.ntmps10
  go_wp2_with fail
  have hA_w0 : (w.alloc (.cells #[.int .i64 q.kd, .bool q.ch, .bool q.ak, .bool q.pr, .bool q.ag, .bool q.ln, .bool q.fw, .int .i64 q.ro, .int .u64 q.r, .int .u32 q.c, .int .u64 q.b, .int .u16 q.p, .int .u16 q.x, .int .i64 q.a, .int .i64 q.m, .int .i64 q.h, .int .i64 q.d] 30)).heap[w.heap.size]? = some (.cells #[.int .i64 q.kd, .bool q.ch, .bool q.ak, .bool q.pr, .bool q.ag, .bool q.ln, .bool q.fw, .int .i64 q.ro, .int .u64 q.r, .int .u32 q.c, .int .u64 q.b, .int .u16 q.p, .int .u16 q.x, .int .i64 q.a, .int .i64 q.m, .int .i64 q.h, .int .i64 q.d] 30 (0, 0)) := heap_alloc_new _ _
  have hE_w0 : Ext w (w.alloc (.cells #[.int .i64 q.kd, .bool q.ch, .bool q.ak, .bool q.pr, .bool q.ag, .bool q.ln, .bool q.fw, .int .i64 q.ro, .int .u64 q.r, .int .u32 q.c, .int .u64 q.b, .int .u16 q.p, .int .u16 q.x, .int .i64 q.a, .int .i64 q.m, .int .i64 q.h, .int .i64 q.d] 30)) := (Ext.refl _).alloc _
  generalize w.alloc (.cells #[.int .i64 q.kd, .bool q.ch, .bool q.ak, .bool q.pr, .bool q.ag, .bool q.ln, .bool q.fw, .int .i64 q.ro, .int .u64 q.r, .int .u32 q.c, .int .u64 q.b, .int .u16 q.p, .int .u16 q.x, .int .i64 q.a, .int .i64 q.m, .int .i64 q.h, .int .i64 q.d] 30) = w0 at *
  obtain ⟨A0, hA0⟩ : ∃ n, w.heap.size = n := ⟨_, rfl⟩
  rw [hA0] at hA_w0 ⊢
  refine (awake6 _).mono ?_
  rintro e z1 ⟨rfl, hx⟩
  have E_z1 : Ext w0 z1 := hx
  have hA_z1 : z1.heap[A0]? = some (.cells #[.int .i64 q.kd, .bool q.ch, .bool q.ak, .bool q.pr, .bool q.ag, .bool q.ln, .bool q.fw, .int .i64 q.ro, .int .u64 q.r, .int .u32 q.c, .int .u64 q.b, .int .u16 q.p, .int .u16 q.x, .int .i64 q.a, .int .i64 q.m, .int .i64 q.h, .int .i64 q.d] 30 (0, 0)) := (hx.block _ (heap_lt hA_w0)).trans hA_w0
  clear hA_w0
  clear hx
  go_wp2_with (first
    | fail
    | ((with_reducible refine at_load 30 ?_); refine wpList_load_row rfl 30 _ rfl A0 rfl 30 #[.int .i64 q.kd, .bool q.ch, .bool q.ak, .bool q.pr, .bool q.ag, .bool q.ln, .bool q.fw, .int .i64 q.ro, .int .u64 q.r, .int .u32 q.c, .int .u64 q.b, .int .u16 q.p, .int .u16 q.x, .int .i64 q.a, .int .i64 q.m, .int .i64 q.h, .int .i64 q.d] (0, 0) _ hA_z1 Try.underlying30 rfl (by kernel_rfl) ?_))
  refine (hw _).mono ?_
  rintro e z2 ⟨vb, rfl, hown, hx⟩
  have E_z2 : Ext w0 z2 := E_z1.trans hx
  have hA_z2 : z2.heap[A0]? = some (.cells #[.int .i64 q.kd, .bool q.ch, .bool q.ak, .bool q.pr, .bool q.ag, .bool q.ln, .bool q.fw, .int .i64 q.ro, .int .u64 q.r, .int .u32 q.c, .int .u64 q.b, .int .u16 q.p, .int .u16 q.x, .int .i64 q.a, .int .i64 q.m, .int .i64 q.h, .int .i64 q.d] 30 (0, 0)) := (hx.block _ (heap_lt hA_z1)).trans hA_z1
  have hi_z2 := isBytes_own hown
  clear hown
  clear hA_z1 E_z1
  clear hx
  obtain ⟨av, cv, hvv, -, hcap⟩ := hi_z2.form
  rw [HL.out] at hvv hcap
  subst hvv
  obtain ⟨fb, fo, rfl, -, hcv1, hcv2, -⟩ := hcap (by decide)
  clear hcap
  go_wp2_with (first
    | fail
    | (at_builtin; refine wpList_app rfl _ _ rfl z2 ((Ext.refl z2).alloc _) _ _ ([]) (fr) rfl rfl (own0 z2) (hi_z2.ext ((Ext.refl z2).alloc _)) (by have := HL.out; simp; omega) ?_
       intro vp1 z3 hown_z3 hE_z3 hg_z3
       have hO_z3 : z3.ownsRow z2.heap.size 5 1 vp1 (fr).length ((fr).map (Value.int .u8)) := by simpa using hown_z3
       clear hown_z3 hg_z3
       rw [HL.out] at hO_z3
       obtain ⟨g1, cap1, hv1, hg1a, hg1b, hg1c, hg1d⟩ := own_some hO_z3 (by decide)
       subst hv1
       have hcl_z3 := own_cell hO_z3 hkl2
       rw [HX0.out] at hcl_z3)
    | ((with_reducible refine at_store 5 ?_); refine wpList_own_byte rfl rfl _ _ rfl z2 hE_z3 g1 60 cap1 k2 fr v rfl rfl hO_z3 hkl2 ?_
       intro z4 hown2 hx
       have hA_z4 : z4.heap[A0]? = some (.cells #[.int .i64 q.kd, .bool q.ch, .bool q.ak, .bool q.pr, .bool q.ag, .bool q.ln, .bool q.fw, .int .i64 q.ro, .int .u64 q.r, .int .u32 q.c, .int .u64 q.b, .int .u16 q.p, .int .u16 q.x, .int .i64 q.a, .int .i64 q.m, .int .i64 q.h, .int .i64 q.d] 30 (0, 0)) := (hx.block _ (heap_lt hA_z2)).trans hA_z2
       have hi_z4 : IsInts z4 .u8 (.slice (some ⟨fb, fo, none⟩) 60 cv) fr := hi_z2.ext hx
       have E_z4 : Ext w0 z4 := E_z2.trans hx
       have hc_z4 : IsInts z4 .u8 (.slice (some ⟨g1, 0, none⟩) 60 cap1) (fr.set k2 v) := by
         have h3 : z4.ownsRow z2.heap.size 5 1 (.slice (some ⟨g1, 0, none⟩) 60 cap1) (fr.set k2 v).length ((fr.set k2 v).map (Value.int .u8)) := by rw [List.length_set, HL.out]; exact hown2
         exact isBytes_own h3
       clear hA_z2 hi_z2 E_z2
       clear hown2 hx hO_z3 hE_z3 hg1a hg1b hcl_z3))
  refine (ho1 _ _ hc_z4).mono ?_
  rintro e z5 ⟨rfl, hx⟩
  have E_z5 : Ext w0 z5 := E_z4.trans hx
  have hA_z5 : z5.heap[A0]? = some (.cells #[.int .i64 q.kd, .bool q.ch, .bool q.ak, .bool q.pr, .bool q.ag, .bool q.ln, .bool q.fw, .int .i64 q.ro, .int .u64 q.r, .int .u32 q.c, .int .u64 q.b, .int .u16 q.p, .int .u16 q.x, .int .i64 q.a, .int .i64 q.m, .int .i64 q.h, .int .i64 q.d] 30 (0, 0)) := (hx.block _ (heap_lt hA_z4)).trans hA_z4
  have hi_z5 : IsInts z5 .u8 (.slice (some ⟨fb, fo, none⟩) 60 cv) fr := hi_z4.ext hx
  have hc_z5 : IsInts z5 .u8 (.slice (some ⟨g1, 0, none⟩) 60 cap1) (fr.set k2 v) := hc_z4.ext hx
  clear hA_z4 hi_z4 hc_z4 E_z4
  clear hx
  go_wp2_with (first
    | fail
    | ((with_reducible refine at_alloc 30 ?_); refine al_zero rfl 30 rfl MZ zero_msg ?_
       intro X0 z6 hq hs hx
       have E_z6 : Ext w0 z6 := E_z5.trans hx
       have hA_z6 : z6.heap[A0]? = some (.cells #[.int .i64 q.kd, .bool q.ch, .bool q.ak, .bool q.pr, .bool q.ag, .bool q.ln, .bool q.fw, .int .i64 q.ro, .int .u64 q.r, .int .u32 q.c, .int .u64 q.b, .int .u16 q.p, .int .u16 q.x, .int .i64 q.a, .int .i64 q.m, .int .i64 q.h, .int .i64 q.d] 30 (0, 0)) := (hx.block _ (heap_lt hA_z5)).trans hA_z5
       have hi_z6 : IsInts z6 .u8 (.slice (some ⟨fb, fo, none⟩) 60 cv) fr := hi_z5.ext hx
       have hX_z6 : z6.heap[X0]? = some (.cells #[.int .i64 0, .bool false, .bool false, .bool false, .bool false, .bool false, .bool false, .int .i64 0, .int .u64 0, .int .u32 0, .int .u64 0, .int .u16 0, .int .u16 0, .int .i64 0, .int .i64 0, .int .i64 0, .int .i64 0] 30 (0, 0)) := hq
       have hb_X0 : w0.heap.size ≤ X0 := by have := E_z5.size; omega
       have hn_A0X0 : A0 ≠ X0 := by have := heap_lt hA_z5; omega
       clear hA_z5 hi_z5 E_z5
       clear hq hs hx)
    | ((with_reducible refine at_store 30 ?_); refine st_at rfl rfl 30 _ _ rfl X0 0 _ #[.int .i64 0, .bool false, .bool false, .bool false, .bool false, .bool false, .bool false, .int .i64 0, .int .u64 0, .int .u32 0, .int .u64 0, .int .u16 0, .int .u16 0, .int .i64 0, .int .i64 0, .int .i64 0, .int .i64 0] _ #[.int .i64 0, .bool false, .bool false, .bool false, .bool false, .bool false, .bool false, .int .i64 0, .int .u64 0, .int .u32 0, .int .u64 0, .int .u16 0, .int .u16 0, .int .i64 0, .int .i64 0, .int .i64 0, .int .i64 0] _ rfl rfl rfl hX_z6 (by exact (by decide : 0 + 17 ≤ 17)) (by kernel_rfl) rfl rfl ?_
       intro z7 hq hm
       have hX_z7 : z7.heap[X0]? = some (.cells #[.int .i64 0, .bool false, .bool false, .bool false, .bool false, .bool false, .bool false, .int .i64 0, .int .u64 0, .int .u32 0, .int .u64 0, .int .u16 0, .int .u16 0, .int .i64 0, .int .i64 0, .int .i64 0, .int .i64 0] 30 (0, 0)) := hq
       have hA_z7 : z7.heap[A0]? = some (.cells #[.int .i64 q.kd, .bool q.ch, .bool q.ak, .bool q.pr, .bool q.ag, .bool q.ln, .bool q.fw, .int .i64 q.ro, .int .u64 q.r, .int .u32 q.c, .int .u64 q.b, .int .u16 q.p, .int .u16 q.x, .int .i64 q.a, .int .i64 q.m, .int .i64 q.h, .int .i64 q.d] 30 (0, 0)) := (hm.heap (heap_lt hA_z6) (show ¬ A0 = X0 by omega)).trans hA_z6
       have E_z7 : Ext w0 z7 := Ext.mutE E_z6 hm (fun n hn h => by have h2 : n = X0 := h; omega)
       have hi_z7 : IsInts z7 .u8 (.slice (some ⟨fb, fo, none⟩) 60 cv) fr := ints_far hi_z6 hX_z6 rfl hm
       have f13 := ints_cell (k := 13) hi_z7 (by decide)
       rw [FM.out.at13] at f13
       clear hA_z6 hX_z6 hi_z6 E_z6
       clear hq hm))
  refine (ho2 _ _ (ints_take2 hi_z7 hj60)).mono ?_
  rintro e z8 ⟨rfl, hx⟩
  have E_z8 : Ext w0 z8 := E_z7.trans hx
  have hA_z8 : z8.heap[A0]? = some (.cells #[.int .i64 q.kd, .bool q.ch, .bool q.ak, .bool q.pr, .bool q.ag, .bool q.ln, .bool q.fw, .int .i64 q.ro, .int .u64 q.r, .int .u32 q.c, .int .u64 q.b, .int .u16 q.p, .int .u16 q.x, .int .i64 q.a, .int .i64 q.m, .int .i64 q.h, .int .i64 q.d] 30 (0, 0)) := (hx.block _ (heap_lt hA_z7)).trans hA_z7
  have hX_z8 : z8.heap[X0]? = some (.cells #[.int .i64 0, .bool false, .bool false, .bool false, .bool false, .bool false, .bool false, .int .i64 0, .int .u64 0, .int .u32 0, .int .u64 0, .int .u16 0, .int .u16 0, .int .i64 0, .int .i64 0, .int .i64 0, .int .i64 0] 30 (0, 0)) := (hx.block _ (heap_lt hX_z7)).trans hX_z7
  have hi_z8 : IsInts z8 .u8 (.slice (some ⟨fb, fo, none⟩) 60 cv) fr := hi_z7.ext hx
  clear hA_z7 hX_z7 hi_z7 E_z7
  clear hx
  go_wp2_with (first
    | fail
    | ((with_reducible refine at_alloc 30 ?_); refine al_zero rfl 30 rfl MZ zero_msg ?_
       intro Y0 z9 hq hs hx
       have E_z9 : Ext w0 z9 := E_z8.trans hx
       have hA_z9 : z9.heap[A0]? = some (.cells #[.int .i64 q.kd, .bool q.ch, .bool q.ak, .bool q.pr, .bool q.ag, .bool q.ln, .bool q.fw, .int .i64 q.ro, .int .u64 q.r, .int .u32 q.c, .int .u64 q.b, .int .u16 q.p, .int .u16 q.x, .int .i64 q.a, .int .i64 q.m, .int .i64 q.h, .int .i64 q.d] 30 (0, 0)) := (hx.block _ (heap_lt hA_z8)).trans hA_z8
       have hX_z9 : z9.heap[X0]? = some (.cells #[.int .i64 0, .bool false, .bool false, .bool false, .bool false, .bool false, .bool false, .int .i64 0, .int .u64 0, .int .u32 0, .int .u64 0, .int .u16 0, .int .u16 0, .int .i64 0, .int .i64 0, .int .i64 0, .int .i64 0] 30 (0, 0)) := (hx.block _ (heap_lt hX_z8)).trans hX_z8
       have hY_z9 : z9.heap[Y0]? = some (.cells #[.int .i64 0, .bool false, .bool false, .bool false, .bool false, .bool false, .bool false, .int .i64 0, .int .u64 0, .int .u32 0, .int .u64 0, .int .u16 0, .int .u16 0, .int .i64 0, .int .i64 0, .int .i64 0, .int .i64 0] 30 (0, 0)) := hq
       have hb_Y0 : w0.heap.size ≤ Y0 := by have := E_z8.size; omega
       have hn_A0Y0 : A0 ≠ Y0 := by have := heap_lt hA_z8; omega
       have hn_X0Y0 : X0 ≠ Y0 := by have := heap_lt hX_z8; omega
       clear hA_z8 hX_z8 E_z8
       clear hq hs hx)
    | ((with_reducible refine at_store 30 ?_); refine st_at rfl rfl 30 _ _ rfl Y0 0 _ #[.int .i64 0, .bool false, .bool false, .bool false, .bool false, .bool false, .bool false, .int .i64 0, .int .u64 0, .int .u32 0, .int .u64 0, .int .u16 0, .int .u16 0, .int .i64 0, .int .i64 0, .int .i64 0, .int .i64 0] _ #[.int .i64 0, .bool false, .bool false, .bool false, .bool false, .bool false, .bool false, .int .i64 0, .int .u64 0, .int .u32 0, .int .u64 0, .int .u16 0, .int .u16 0, .int .i64 0, .int .i64 0, .int .i64 0, .int .i64 0] _ rfl rfl rfl hY_z9 (by exact (by decide : 0 + 17 ≤ 17)) (by kernel_rfl) rfl rfl ?_
       intro z10 hq hm
       have hY_z10 : z10.heap[Y0]? = some (.cells #[.int .i64 0, .bool false, .bool false, .bool false, .bool false, .bool false, .bool false, .int .i64 0, .int .u64 0, .int .u32 0, .int .u64 0, .int .u16 0, .int .u16 0, .int .i64 0, .int .i64 0, .int .i64 0, .int .i64 0] 30 (0, 0)) := hq
       have hA_z10 : z10.heap[A0]? = some (.cells #[.int .i64 q.kd, .bool q.ch, .bool q.ak, .bool q.pr, .bool q.ag, .bool q.ln, .bool q.fw, .int .i64 q.ro, .int .u64 q.r, .int .u32 q.c, .int .u64 q.b, .int .u16 q.p, .int .u16 q.x, .int .i64 q.a, .int .i64 q.m, .int .i64 q.h, .int .i64 q.d] 30 (0, 0)) := (hm.heap (heap_lt hA_z9) (show ¬ A0 = Y0 by omega)).trans hA_z9
       have hX_z10 : z10.heap[X0]? = some (.cells #[.int .i64 0, .bool false, .bool false, .bool false, .bool false, .bool false, .bool false, .int .i64 0, .int .u64 0, .int .u32 0, .int .u64 0, .int .u16 0, .int .u16 0, .int .i64 0, .int .i64 0, .int .i64 0, .int .i64 0] 30 (0, 0)) := (hm.heap (heap_lt hX_z9) (show ¬ X0 = Y0 by omega)).trans hX_z9
       have E_z10 : Ext w0 z10 := Ext.mutE E_z9 hm (fun n hn h => by have h2 : n = Y0 := h; omega)
       clear hA_z9 hX_z9 hY_z9 E_z9
       clear hq hm)
    | ((with_reducible refine at_loadG 30 ?_); refine wpList_load_rowG rfl 30 _ rfl X0 rfl 30 #[.int .i64 0, .bool false, .bool false, .bool false, .bool false, .bool false, .bool false, .int .i64 0, .int .u64 0, .int .u32 0, .int .u64 0, .int .u16 0, .int .u16 0, .int .i64 0, .int .i64 0, .int .i64 0, .int .i64 0] (0, 0) _ hX_z10 Try.underlying30 rfl (by kernel_rfl) ?_)
    | ((with_reducible refine at_loadG 30 ?_); refine wpList_load_rowG rfl 30 _ rfl Y0 rfl 30 #[.int .i64 0, .bool false, .bool false, .bool false, .bool false, .bool false, .bool false, .int .i64 0, .int .u64 0, .int .u32 0, .int .u64 0, .int .u16 0, .int .u16 0, .int .i64 0, .int .i64 0, .int .i64 0, .int .i64 0] (0, 0) _ hY_z10 Try.underlying30 rfl (by kernel_rfl) ?_))
  all_goals
    go_ret
    exact ⟨rfl, hE_w0.trans E_z10⟩
set_option maxRecDepth 100000 in
set_option maxHeartbeats 2000000 in
theorem cLlcTurned_hif {w : World} (s : Int) (hs : 0 ≤ s ∧ s < 18446744073709551616) (q : Mg) (hq : q.ok) (at0 : Int) (ha : 0 ≤ at0 ∧ at0 < 256) (by0 : Int) (hb : 0 ≤ by0 ∧ by0 < 256) (ct : Int) (hc : 0 ≤ ct ∧ ct < 256) (hk : q.kd = 0 ∨ q.kd = 1 ∨ q.kd = 2) (hz : by0 ≠ 0) (k : Nat) (h9 : at0 % 9 = (k : Int)) (hk9 : 6 ≤ k ∧ k < 9) (j : Nat) (hj1 : ∀ m, Frm (wrapL s q) m → (j : Int) < 14 + m) (hjq : ∀ m, Frm (wrapL s q) m → ct % (14 + m) = (j : Int)) (hj2 : 17 ≤ j) : Calls Try.prog 10 #[.int .u64 s, .agg #[.int .i64 q.kd, .bool q.ch, .bool q.ak, .bool q.pr, .bool q.ag, .bool q.ln, .bool q.fw, .int .i64 q.ro, .int .u64 q.r, .int .u32 q.c, .int .u64 q.b, .int .u16 q.p, .int .u16 q.x, .int .i64 q.a, .int .i64 q.m, .int .i64 q.h, .int .i64 q.d], .int .u8 at0, .int .u8 by0, .int .u8 ct] w fun e w' => e = .returned (.bool true) ∧ Ext w w' := by
  have hw := wrap_any s hs q hq hk
  obtain ⟨m, hfm⟩ := frm s q hk
  have hjm : (j : Int) < 14 + m := hj1 m hfm
  have hjc := hjq m hfm
  clear hj1 hjq
  obtain ⟨fr, hfr⟩ : ∃ f, wrapL s q = f := ⟨_, rfl⟩
  rw [hfr] at hfm
  simp only [hfr] at hw
  clear hfr
  have FM := Lib.hid hfm
  have HL := Lib.hid hfm.len
  have HK := Lib.hid hk
  have HQ := Lib.hid hq
  have hm1 := hfm.m1
  have hm2 := hfm.m2
  clear hfm hk hq
  have k6 : decide (6 ≤ (k : Int)) = true := by simp; omega
  obtain ⟨k2, hk2⟩ : ∃ k2 : Nat, (k : Int) + 8 = k2 := ⟨k + 8, by omega⟩
  have HKK := Lib.hid (show k2 < 6 ∨ (14 ≤ k2 ∧ k2 < 17) by omega)
  have hkl : (k2 : Int) < 60 := by omega
  have hkl2 : k2 < 60 := by omega
  have hb0 : (by0 == 0) = false := by simpa using hz
  obtain ⟨x, hx0⟩ : ∃ x, fr.getD k2 0 = x := ⟨_, rfl⟩
  have hxr := getD_rg FM.out.rg k2
  rw [hx0] at hxr
  obtain ⟨v, hv, hv1, hv2, hv3⟩ := xor8 x by0 hxr hb hz
  have hT := FM.out.turned k2 v HKK.out (by rw [hx0]; exact hv3)
  have hC := FM.out.cut j hjm
  rw [if_neg (by omega)] at hC
  have HX0 := Lib.hid hx0
  clear hx0 hv3
  have hj60 : j < 60 := by omega
  have hg60 : decide (60 < 14 + m) = false := by simp; omega
  have HHT := Lib.hid hT
  have HHC := Lib.hid hC
  have HJ2 := Lib.hid hj2
  have HZ := Lib.hid hz
  have heq := eq_mz
  have hzm := zero_msg
  clear hT hC hj2 hz
  have ho1 : ∀ z vv, IsInts z .u8 vv (fr.set k2 v) → Calls Try.prog 25 #[vv] z (fun e w' => e = .returned (.tuple #[.int .u64 0, .agg #[.int .i64 0, .bool false, .bool false, .bool false, .bool false, .bool false, .bool false, .int .i64 0, .int .u64 0, .int .u32 0, .int .u64 0, .int .u16 0, .int .u16 0, .int .i64 0, .int .i64 0, .int .i64 0, .int .i64 0], .int .i64 3]) ∧ Ext z w') := fun z vv hi => by
    have := open_any vv (fr.set k2 v) z hi (fun x hx => (List.mem_or_eq_of_mem_set hx).elim (FM.out.rg x) (fun e => e ▸ ⟨hv1, hv2⟩)) (by have := HL.out; simp; omega)
    rw [HHT.out] at this
    exact this
  have ho2 : ∀ z vv, IsInts z .u8 vv (fr.take j) → Calls Try.prog 25 #[vv] z (fun e w' => e = .returned (.tuple #[.int .u64 0, .agg #[.int .i64 0, .bool false, .bool false, .bool false, .bool false, .bool false, .bool false, .int .i64 0, .int .u64 0, .int .u32 0, .int .u64 0, .int .u16 0, .int .u16 0, .int .i64 0, .int .i64 0, .int .i64 0, .int .i64 0], .int .i64 3]) ∧ Ext z w') := fun z vv hi => by
    have := open_any vv (fr.take j) z hi (fun x hx => FM.out.rg x (List.mem_of_mem_take hx)) (by have := HL.out; simp; omega)
    rw [HHC.out] at this
    exact this
  go_enter Try.func10, Try.ntmps10
  go_wp2_with fail
  have hA_w0 : (w.alloc (.cells #[.int .i64 q.kd, .bool q.ch, .bool q.ak, .bool q.pr, .bool q.ag, .bool q.ln, .bool q.fw, .int .i64 q.ro, .int .u64 q.r, .int .u32 q.c, .int .u64 q.b, .int .u16 q.p, .int .u16 q.x, .int .i64 q.a, .int .i64 q.m, .int .i64 q.h, .int .i64 q.d] 30)).heap[w.heap.size]? = some (.cells #[.int .i64 q.kd, .bool q.ch, .bool q.ak, .bool q.pr, .bool q.ag, .bool q.ln, .bool q.fw, .int .i64 q.ro, .int .u64 q.r, .int .u32 q.c, .int .u64 q.b, .int .u16 q.p, .int .u16 q.x, .int .i64 q.a, .int .i64 q.m, .int .i64 q.h, .int .i64 q.d] 30 (0, 0)) := heap_alloc_new _ _
  have hE_w0 : Ext w (w.alloc (.cells #[.int .i64 q.kd, .bool q.ch, .bool q.ak, .bool q.pr, .bool q.ag, .bool q.ln, .bool q.fw, .int .i64 q.ro, .int .u64 q.r, .int .u32 q.c, .int .u64 q.b, .int .u16 q.p, .int .u16 q.x, .int .i64 q.a, .int .i64 q.m, .int .i64 q.h, .int .i64 q.d] 30)) := (Ext.refl _).alloc _
  generalize w.alloc (.cells #[.int .i64 q.kd, .bool q.ch, .bool q.ak, .bool q.pr, .bool q.ag, .bool q.ln, .bool q.fw, .int .i64 q.ro, .int .u64 q.r, .int .u32 q.c, .int .u64 q.b, .int .u16 q.p, .int .u16 q.x, .int .i64 q.a, .int .i64 q.m, .int .i64 q.h, .int .i64 q.d] 30) = w0 at *
  obtain ⟨A0, hA0⟩ : ∃ n, w.heap.size = n := ⟨_, rfl⟩
  rw [hA0] at hA_w0 ⊢
  refine (awake6 _).mono ?_
  rintro e z1 ⟨rfl, hx⟩
  have E_z1 : Ext w0 z1 := hx
  have hA_z1 : z1.heap[A0]? = some (.cells #[.int .i64 q.kd, .bool q.ch, .bool q.ak, .bool q.pr, .bool q.ag, .bool q.ln, .bool q.fw, .int .i64 q.ro, .int .u64 q.r, .int .u32 q.c, .int .u64 q.b, .int .u16 q.p, .int .u16 q.x, .int .i64 q.a, .int .i64 q.m, .int .i64 q.h, .int .i64 q.d] 30 (0, 0)) := (hx.block _ (heap_lt hA_w0)).trans hA_w0
  clear hA_w0
  clear hx
  go_wp2_with (first
    | fail
    | ((with_reducible refine at_load 30 ?_); refine wpList_load_row rfl 30 _ rfl A0 rfl 30 #[.int .i64 q.kd, .bool q.ch, .bool q.ak, .bool q.pr, .bool q.ag, .bool q.ln, .bool q.fw, .int .i64 q.ro, .int .u64 q.r, .int .u32 q.c, .int .u64 q.b, .int .u16 q.p, .int .u16 q.x, .int .i64 q.a, .int .i64 q.m, .int .i64 q.h, .int .i64 q.d] (0, 0) _ hA_z1 Try.underlying30 rfl (by kernel_rfl) ?_))
  refine (hw _).mono ?_
  rintro e z2 ⟨vb, rfl, hown, hx⟩
  have E_z2 : Ext w0 z2 := E_z1.trans hx
  have hA_z2 : z2.heap[A0]? = some (.cells #[.int .i64 q.kd, .bool q.ch, .bool q.ak, .bool q.pr, .bool q.ag, .bool q.ln, .bool q.fw, .int .i64 q.ro, .int .u64 q.r, .int .u32 q.c, .int .u64 q.b, .int .u16 q.p, .int .u16 q.x, .int .i64 q.a, .int .i64 q.m, .int .i64 q.h, .int .i64 q.d] 30 (0, 0)) := (hx.block _ (heap_lt hA_z1)).trans hA_z1
  have hi_z2 := isBytes_own hown
  clear hown
  clear hA_z1 E_z1
  clear hx
  obtain ⟨av, cv, hvv, -, hcap⟩ := hi_z2.form
  rw [HL.out] at hvv hcap
  subst hvv
  obtain ⟨fb, fo, rfl, -, hcv1, hcv2, -⟩ := hcap (by decide)
  clear hcap
  go_wp2_with (first
    | fail
    | (at_builtin; refine wpList_app rfl _ _ rfl z2 ((Ext.refl z2).alloc _) _ _ ([]) (fr) rfl rfl (own0 z2) (hi_z2.ext ((Ext.refl z2).alloc _)) (by have := HL.out; simp; omega) ?_
       intro vp1 z3 hown_z3 hE_z3 hg_z3
       have hO_z3 : z3.ownsRow z2.heap.size 5 1 vp1 (fr).length ((fr).map (Value.int .u8)) := by simpa using hown_z3
       clear hown_z3 hg_z3
       rw [HL.out] at hO_z3
       obtain ⟨g1, cap1, hv1, hg1a, hg1b, hg1c, hg1d⟩ := own_some hO_z3 (by decide)
       subst hv1
       have hcl_z3 := own_cell hO_z3 hkl2
       rw [HX0.out] at hcl_z3)
    | ((with_reducible refine at_store 5 ?_); refine wpList_own_byte rfl rfl _ _ rfl z2 hE_z3 g1 60 cap1 k2 fr v rfl rfl hO_z3 hkl2 ?_
       intro z4 hown2 hx
       have hA_z4 : z4.heap[A0]? = some (.cells #[.int .i64 q.kd, .bool q.ch, .bool q.ak, .bool q.pr, .bool q.ag, .bool q.ln, .bool q.fw, .int .i64 q.ro, .int .u64 q.r, .int .u32 q.c, .int .u64 q.b, .int .u16 q.p, .int .u16 q.x, .int .i64 q.a, .int .i64 q.m, .int .i64 q.h, .int .i64 q.d] 30 (0, 0)) := (hx.block _ (heap_lt hA_z2)).trans hA_z2
       have hi_z4 : IsInts z4 .u8 (.slice (some ⟨fb, fo, none⟩) 60 cv) fr := hi_z2.ext hx
       have E_z4 : Ext w0 z4 := E_z2.trans hx
       have hc_z4 : IsInts z4 .u8 (.slice (some ⟨g1, 0, none⟩) 60 cap1) (fr.set k2 v) := by
         have h3 : z4.ownsRow z2.heap.size 5 1 (.slice (some ⟨g1, 0, none⟩) 60 cap1) (fr.set k2 v).length ((fr.set k2 v).map (Value.int .u8)) := by rw [List.length_set, HL.out]; exact hown2
         exact isBytes_own h3
       clear hA_z2 hi_z2 E_z2
       clear hown2 hx hO_z3 hE_z3 hg1a hg1b hcl_z3))
  refine (ho1 _ _ hc_z4).mono ?_
  rintro e z5 ⟨rfl, hx⟩
  have E_z5 : Ext w0 z5 := E_z4.trans hx
  have hA_z5 : z5.heap[A0]? = some (.cells #[.int .i64 q.kd, .bool q.ch, .bool q.ak, .bool q.pr, .bool q.ag, .bool q.ln, .bool q.fw, .int .i64 q.ro, .int .u64 q.r, .int .u32 q.c, .int .u64 q.b, .int .u16 q.p, .int .u16 q.x, .int .i64 q.a, .int .i64 q.m, .int .i64 q.h, .int .i64 q.d] 30 (0, 0)) := (hx.block _ (heap_lt hA_z4)).trans hA_z4
  have hi_z5 : IsInts z5 .u8 (.slice (some ⟨fb, fo, none⟩) 60 cv) fr := hi_z4.ext hx
  have hc_z5 : IsInts z5 .u8 (.slice (some ⟨g1, 0, none⟩) 60 cap1) (fr.set k2 v) := hc_z4.ext hx
  clear hA_z4 hi_z4 hc_z4 E_z4
  clear hx
  go_wp2_with (first
    | fail
    | ((with_reducible refine at_alloc 30 ?_); refine al_zero rfl 30 rfl MZ zero_msg ?_
       intro X0 z6 hq hs hx
       have E_z6 : Ext w0 z6 := E_z5.trans hx
       have hA_z6 : z6.heap[A0]? = some (.cells #[.int .i64 q.kd, .bool q.ch, .bool q.ak, .bool q.pr, .bool q.ag, .bool q.ln, .bool q.fw, .int .i64 q.ro, .int .u64 q.r, .int .u32 q.c, .int .u64 q.b, .int .u16 q.p, .int .u16 q.x, .int .i64 q.a, .int .i64 q.m, .int .i64 q.h, .int .i64 q.d] 30 (0, 0)) := (hx.block _ (heap_lt hA_z5)).trans hA_z5
       have hi_z6 : IsInts z6 .u8 (.slice (some ⟨fb, fo, none⟩) 60 cv) fr := hi_z5.ext hx
       have hX_z6 : z6.heap[X0]? = some (.cells #[.int .i64 0, .bool false, .bool false, .bool false, .bool false, .bool false, .bool false, .int .i64 0, .int .u64 0, .int .u32 0, .int .u64 0, .int .u16 0, .int .u16 0, .int .i64 0, .int .i64 0, .int .i64 0, .int .i64 0] 30 (0, 0)) := hq
       have hb_X0 : w0.heap.size ≤ X0 := by have := E_z5.size; omega
       have hn_A0X0 : A0 ≠ X0 := by have := heap_lt hA_z5; omega
       clear hA_z5 hi_z5 E_z5
       clear hq hs hx)
    | ((with_reducible refine at_store 30 ?_); refine st_at rfl rfl 30 _ _ rfl X0 0 _ #[.int .i64 0, .bool false, .bool false, .bool false, .bool false, .bool false, .bool false, .int .i64 0, .int .u64 0, .int .u32 0, .int .u64 0, .int .u16 0, .int .u16 0, .int .i64 0, .int .i64 0, .int .i64 0, .int .i64 0] _ #[.int .i64 0, .bool false, .bool false, .bool false, .bool false, .bool false, .bool false, .int .i64 0, .int .u64 0, .int .u32 0, .int .u64 0, .int .u16 0, .int .u16 0, .int .i64 0, .int .i64 0, .int .i64 0, .int .i64 0] _ rfl rfl rfl hX_z6 (by exact (by decide : 0 + 17 ≤ 17)) (by kernel_rfl) rfl rfl ?_
       intro z7 hq hm
       have hX_z7 : z7.heap[X0]? = some (.cells #[.int .i64 0, .bool false, .bool false, .bool false, .bool false, .bool false, .bool false, .int .i64 0, .int .u64 0, .int .u32 0, .int .u64 0, .int .u16 0, .int .u16 0, .int .i64 0, .int .i64 0, .int .i64 0, .int .i64 0] 30 (0, 0)) := hq
       have hA_z7 : z7.heap[A0]? = some (.cells #[.int .i64 q.kd, .bool q.ch, .bool q.ak, .bool q.pr, .bool q.ag, .bool q.ln, .bool q.fw, .int .i64 q.ro, .int .u64 q.r, .int .u32 q.c, .int .u64 q.b, .int .u16 q.p, .int .u16 q.x, .int .i64 q.a, .int .i64 q.m, .int .i64 q.h, .int .i64 q.d] 30 (0, 0)) := (hm.heap (heap_lt hA_z6) (show ¬ A0 = X0 by omega)).trans hA_z6
       have E_z7 : Ext w0 z7 := Ext.mutE E_z6 hm (fun n hn h => by have h2 : n = X0 := h; omega)
       have hi_z7 : IsInts z7 .u8 (.slice (some ⟨fb, fo, none⟩) 60 cv) fr := ints_far hi_z6 hX_z6 rfl hm
       have f13 := ints_cell (k := 13) hi_z7 (by decide)
       rw [FM.out.at13] at f13
       clear hA_z6 hX_z6 hi_z6 E_z6
       clear hq hm))
  refine (ho2 _ _ (ints_take2 hi_z7 hj60)).mono ?_
  rintro e z8 ⟨rfl, hx⟩
  have E_z8 : Ext w0 z8 := E_z7.trans hx
  have hA_z8 : z8.heap[A0]? = some (.cells #[.int .i64 q.kd, .bool q.ch, .bool q.ak, .bool q.pr, .bool q.ag, .bool q.ln, .bool q.fw, .int .i64 q.ro, .int .u64 q.r, .int .u32 q.c, .int .u64 q.b, .int .u16 q.p, .int .u16 q.x, .int .i64 q.a, .int .i64 q.m, .int .i64 q.h, .int .i64 q.d] 30 (0, 0)) := (hx.block _ (heap_lt hA_z7)).trans hA_z7
  have hX_z8 : z8.heap[X0]? = some (.cells #[.int .i64 0, .bool false, .bool false, .bool false, .bool false, .bool false, .bool false, .int .i64 0, .int .u64 0, .int .u32 0, .int .u64 0, .int .u16 0, .int .u16 0, .int .i64 0, .int .i64 0, .int .i64 0, .int .i64 0] 30 (0, 0)) := (hx.block _ (heap_lt hX_z7)).trans hX_z7
  have hi_z8 : IsInts z8 .u8 (.slice (some ⟨fb, fo, none⟩) 60 cv) fr := hi_z7.ext hx
  clear hA_z7 hX_z7 hi_z7 E_z7
  clear hx
  go_wp2_with (first
    | fail
    | ((with_reducible refine at_alloc 30 ?_); refine al_zero rfl 30 rfl MZ zero_msg ?_
       intro Y0 z9 hq hs hx
       have E_z9 : Ext w0 z9 := E_z8.trans hx
       have hA_z9 : z9.heap[A0]? = some (.cells #[.int .i64 q.kd, .bool q.ch, .bool q.ak, .bool q.pr, .bool q.ag, .bool q.ln, .bool q.fw, .int .i64 q.ro, .int .u64 q.r, .int .u32 q.c, .int .u64 q.b, .int .u16 q.p, .int .u16 q.x, .int .i64 q.a, .int .i64 q.m, .int .i64 q.h, .int .i64 q.d] 30 (0, 0)) := (hx.block _ (heap_lt hA_z8)).trans hA_z8
       have hX_z9 : z9.heap[X0]? = some (.cells #[.int .i64 0, .bool false, .bool false, .bool false, .bool false, .bool false, .bool false, .int .i64 0, .int .u64 0, .int .u32 0, .int .u64 0, .int .u16 0, .int .u16 0, .int .i64 0, .int .i64 0, .int .i64 0, .int .i64 0] 30 (0, 0)) := (hx.block _ (heap_lt hX_z8)).trans hX_z8
       have hY_z9 : z9.heap[Y0]? = some (.cells #[.int .i64 0, .bool false, .bool false, .bool false, .bool false, .bool false, .bool false, .int .i64 0, .int .u64 0, .int .u32 0, .int .u64 0, .int .u16 0, .int .u16 0, .int .i64 0, .int .i64 0, .int .i64 0, .int .i64 0] 30 (0, 0)) := hq
       have hb_Y0 : w0.heap.size ≤ Y0 := by have := E_z8.size; omega
       have hn_A0Y0 : A0 ≠ Y0 := by have := heap_lt hA_z8; omega
       have hn_X0Y0 : X0 ≠ Y0 := by have := heap_lt hX_z8; omega
       clear hA_z8 hX_z8 E_z8
       clear hq hs hx)
    | ((with_reducible refine at_store 30 ?_); refine st_at rfl rfl 30 _ _ rfl Y0 0 _ #[.int .i64 0, .bool false, .bool false, .bool false, .bool false, .bool false, .bool false, .int .i64 0, .int .u64 0, .int .u32 0, .int .u64 0, .int .u16 0, .int .u16 0, .int .i64 0, .int .i64 0, .int .i64 0, .int .i64 0] _ #[.int .i64 0, .bool false, .bool false, .bool false, .bool false, .bool false, .bool false, .int .i64 0, .int .u64 0, .int .u32 0, .int .u64 0, .int .u16 0, .int .u16 0, .int .i64 0, .int .i64 0, .int .i64 0, .int .i64 0] _ rfl rfl rfl hY_z9 (by exact (by decide : 0 + 17 ≤ 17)) (by kernel_rfl) rfl rfl ?_
       intro z10 hq hm
       have hY_z10 : z10.heap[Y0]? = some (.cells #[.int .i64 0, .bool false, .bool false, .bool false, .bool false, .bool false, .bool false, .int .i64 0, .int .u64 0, .int .u32 0, .int .u64 0, .int .u16 0, .int .u16 0, .int .i64 0, .int .i64 0, .int .i64 0, .int .i64 0] 30 (0, 0)) := hq
       have hA_z10 : z10.heap[A0]? = some (.cells #[.int .i64 q.kd, .bool q.ch, .bool q.ak, .bool q.pr, .bool q.ag, .bool q.ln, .bool q.fw, .int .i64 q.ro, .int .u64 q.r, .int .u32 q.c, .int .u64 q.b, .int .u16 q.p, .int .u16 q.x, .int .i64 q.a, .int .i64 q.m, .int .i64 q.h, .int .i64 q.d] 30 (0, 0)) := (hm.heap (heap_lt hA_z9) (show ¬ A0 = Y0 by omega)).trans hA_z9
       have hX_z10 : z10.heap[X0]? = some (.cells #[.int .i64 0, .bool false, .bool false, .bool false, .bool false, .bool false, .bool false, .int .i64 0, .int .u64 0, .int .u32 0, .int .u64 0, .int .u16 0, .int .u16 0, .int .i64 0, .int .i64 0, .int .i64 0, .int .i64 0] 30 (0, 0)) := (hm.heap (heap_lt hX_z9) (show ¬ X0 = Y0 by omega)).trans hX_z9
       have E_z10 : Ext w0 z10 := Ext.mutE E_z9 hm (fun n hn h => by have h2 : n = Y0 := h; omega)
       clear hA_z9 hX_z9 hY_z9 E_z9
       clear hq hm)
    | ((with_reducible refine at_loadG 30 ?_); refine wpList_load_rowG rfl 30 _ rfl X0 rfl 30 #[.int .i64 0, .bool false, .bool false, .bool false, .bool false, .bool false, .bool false, .int .i64 0, .int .u64 0, .int .u32 0, .int .u64 0, .int .u16 0, .int .u16 0, .int .i64 0, .int .i64 0, .int .i64 0, .int .i64 0] (0, 0) _ hX_z10 Try.underlying30 rfl (by kernel_rfl) ?_)
    | ((with_reducible refine at_loadG 30 ?_); refine wpList_load_rowG rfl 30 _ rfl Y0 rfl 30 #[.int .i64 0, .bool false, .bool false, .bool false, .bool false, .bool false, .bool false, .int .i64 0, .int .u64 0, .int .u32 0, .int .u64 0, .int .u16 0, .int .u16 0, .int .i64 0, .int .i64 0, .int .i64 0, .int .i64 0] (0, 0) _ hY_z10 Try.underlying30 rfl (by kernel_rfl) ?_))
  all_goals
    go_ret
    exact ⟨rfl, hE_w0.trans E_z10⟩
theorem law_LlcTurned {w : World} (s : Int) (hs : 0 ≤ s ∧ s < 18446744073709551616) (mc : List Value) (hmc : Typed ML mc) (at0 : Int) (ha : 0 ≤ at0 ∧ at0 < 256) (by0 : Int) (hb : 0 ≤ by0 ∧ by0 < 256) (ct : Int) (hc : 0 ≤ ct ∧ ct < 256) : Calls Try.prog 10 #[.int .u64 s, .agg mc.toArray, .int .u8 at0, .int .u8 by0, .int .u8 ct] w fun e w' => e = .returned (.bool true) ∧ Ext w w' := by
  obtain ⟨q, hq, e⟩ := open_mg hmc
  rw [e]
  by_cases hk : q.kd = 0 ∨ q.kd = 1 ∨ q.kd = 2
  · by_cases hz : by0 = 0
    · exact cLlcTurned_zero s hs q hq at0 ha by0 hb ct hc hk hz
    · obtain ⟨m0, hm0⟩ := frm s q hk
      have hmm : ∀ m, Frm (wrapL s q) m → m = m0 := fun m h => h.at13.symm.trans hm0.at13
      have h1 := hm0.m1
      have hne : 14 + m0 ≠ 0 := by omega
      have hp : 0 < 14 + m0 := by omega
      obtain ⟨j, hj⟩ : ∃ j : Nat, ct % (14 + m0) = (j : Int) := ⟨(ct % (14 + m0)).toNat, (Int.toNat_of_nonneg (Int.emod_nonneg _ hne)).symm⟩
      have hj1 : ∀ m, Frm (wrapL s q) m → (j : Int) < 14 + m := fun m h => by rw [hmm m h, ← hj]; exact Int.emod_lt_of_pos _ hp
      have hjq : ∀ m, Frm (wrapL s q) m → ct % (14 + m) = (j : Int) := fun m h => by rw [hmm m h]; exact hj
      obtain ⟨k, h9⟩ : ∃ k : Nat, at0 % 9 = (k : Int) := ⟨(at0 % 9).toNat, by omega⟩
      by_cases h6 : k < 6
      · by_cases h17 : j < 17
        · exact cLlcTurned_los s hs q hq at0 ha by0 hb ct hc hk hz k h9 h6 j hj1 hjq h17
        · exact cLlcTurned_lof s hs q hq at0 ha by0 hb ct hc hk hz k h9 h6 j hj1 hjq (by omega)
      · by_cases h17 : j < 17
        · exact cLlcTurned_his s hs q hq at0 ha by0 hb ct hc hk hz k h9 (by omega) j hj1 hjq h17
        · exact cLlcTurned_hif s hs q hq at0 ha by0 hb ct hc hk hz k h9 (by omega) j hj1 hjq (by omega)
  · exact cLlcTurned_no s hs q hq at0 ha by0 hb ct hc hk

end Go.Proofs.Ytjahjiaopegoaaa
