/- The walk of LlcBack. No statement is proved here. -/
import Derived.Test.YtdfaagchlnkpnaaLlG
namespace Go.Proofs.Ytdfaagchlnkpnaa
open Go.RowKit Go.BigFrame Go.WideShapes Go.ChangeShapes Go.Deep
set_option linter.unusedVariables false
set_option linter.unusedSimpArgs false

set_option maxRecDepth 100000 in
set_option maxHeartbeats 2000000 in
theorem cLlcBack_long {w : World} (s : Int) (hs : 0 ≤ s ∧ s < 18446744073709551616) (q : Mg) (hq : q.ok) (v1 : Value) (ys : List Int) (hy : IsInts w .u8 v1 ys ∧ ∀ z ∈ ys, (Lit.int .u8 z).wf = true) (h200 : 200 < ys.length) : Calls Try.prog 9 #[.int .u64 s, .agg #[.int .i64 q.kd, .bool q.ch, .bool q.ak, .bool q.pr, .bool q.ag, .bool q.ln, .bool q.fw, .int .i64 q.ro, .int .u64 q.r, .int .u32 q.c, .int .u64 q.b, .int .u16 q.p, .int .u16 q.x, .int .i64 q.a, .int .i64 q.m, .int .i64 q.h, .int .i64 q.d], v1] w fun e w' => e = .returned (.bool true) ∧ Ext w w' := by
  have hyb := zs_rg hy.2
  obtain ⟨a1, c1, rfl, hlm, -⟩ := hy.1.form
  have hyi := hy.1
  clear hy
  have hgt : decide (200 < (ys.length : Int)) = true := by simp; omega
  go_enter Try.func9, Try.ntmps9
  go_wp2_with fail
  have hA_w0 : (w.alloc (.cells #[.int .i64 q.kd, .bool q.ch, .bool q.ak, .bool q.pr, .bool q.ag, .bool q.ln, .bool q.fw, .int .i64 q.ro, .int .u64 q.r, .int .u32 q.c, .int .u64 q.b, .int .u16 q.p, .int .u16 q.x, .int .i64 q.a, .int .i64 q.m, .int .i64 q.h, .int .i64 q.d] 30)).heap[w.heap.size]? = some (.cells #[.int .i64 q.kd, .bool q.ch, .bool q.ak, .bool q.pr, .bool q.ag, .bool q.ln, .bool q.fw, .int .i64 q.ro, .int .u64 q.r, .int .u32 q.c, .int .u64 q.b, .int .u16 q.p, .int .u16 q.x, .int .i64 q.a, .int .i64 q.m, .int .i64 q.h, .int .i64 q.d] 30 (0, 0)) := heap_alloc_new _ _
  have hE_w0 : Ext w (w.alloc (.cells #[.int .i64 q.kd, .bool q.ch, .bool q.ak, .bool q.pr, .bool q.ag, .bool q.ln, .bool q.fw, .int .i64 q.ro, .int .u64 q.r, .int .u32 q.c, .int .u64 q.b, .int .u16 q.p, .int .u16 q.x, .int .i64 q.a, .int .i64 q.m, .int .i64 q.h, .int .i64 q.d] 30)) := (Ext.refl _).alloc _
  generalize w.alloc (.cells #[.int .i64 q.kd, .bool q.ch, .bool q.ak, .bool q.pr, .bool q.ag, .bool q.ln, .bool q.fw, .int .i64 q.ro, .int .u64 q.r, .int .u32 q.c, .int .u64 q.b, .int .u16 q.p, .int .u16 q.x, .int .i64 q.a, .int .i64 q.m, .int .i64 q.h, .int .i64 q.d] 30) = w0 at *
  obtain ⟨A0, hA0⟩ : ∃ n, w.heap.size = n := ⟨_, rfl⟩
  rw [hA0] at hA_w0 ⊢
  refine (awake6 _).mono ?_
  rintro e z1 ⟨rfl, hx⟩
  have E_z1 : Ext w0 z1 := hx
  have hA_z1 : z1.heap[A0]? = some (.cells #[.int .i64 q.kd, .bool q.ch, .bool q.ak, .bool q.pr, .bool q.ag, .bool q.ln, .bool q.fw, .int .i64 q.ro, .int .u64 q.r, .int .u32 q.c, .int .u64 q.b, .int .u16 q.p, .int .u16 q.x, .int .i64 q.a, .int .i64 q.m, .int .i64 q.h, .int .i64 q.d] 30 (0, 0)) := (hx.block _ (heap_lt hA_w0)).trans hA_w0
  clear hA_w0
  clear hx
  go_wp2_with fail
  all_goals
    go_ret
    exact ⟨rfl, hE_w0.trans E_z1⟩
set_option maxRecDepth 100000 in
set_option maxHeartbeats 2000000 in
theorem cLlcBack_n {w : World} (s : Int) (hs : 0 ≤ s ∧ s < 18446744073709551616) (q : Mg) (hq : q.ok) (v1 : Value) (ys : List Int) (hy : IsInts w .u8 v1 ys ∧ ∀ z ∈ ys, (Lit.int .u8 z).wf = true) (h200 : ys.length ≤ 200) (hk0 : q.kd < 0) : Calls Try.prog 9 #[.int .u64 s, .agg #[.int .i64 q.kd, .bool q.ch, .bool q.ak, .bool q.pr, .bool q.ag, .bool q.ln, .bool q.fw, .int .i64 q.ro, .int .u64 q.r, .int .u32 q.c, .int .u64 q.b, .int .u16 q.p, .int .u16 q.x, .int .i64 q.a, .int .i64 q.m, .int .i64 q.h, .int .i64 q.d], v1] w fun e w' => e = .returned (.bool true) ∧ Ext w w' := by
  have hyb := zs_rg hy.2
  obtain ⟨a1, c1, rfl, hlm, -⟩ := hy.1.form
  have hyi := hy.1
  clear hy
  have hw := wrap_no s hs q hq (by omega)
  have b0 : decide (q.kd < 0) = true := by simpa using hk0
  clear hk0
  have hgt : decide (200 < (ys.length : Int)) = false := by simp; omega
  go_enter Try.func9, Try.ntmps9
  go_wp2_with fail
  have hA_w0 : (w.alloc (.cells #[.int .i64 q.kd, .bool q.ch, .bool q.ak, .bool q.pr, .bool q.ag, .bool q.ln, .bool q.fw, .int .i64 q.ro, .int .u64 q.r, .int .u32 q.c, .int .u64 q.b, .int .u16 q.p, .int .u16 q.x, .int .i64 q.a, .int .i64 q.m, .int .i64 q.h, .int .i64 q.d] 30)).heap[w.heap.size]? = some (.cells #[.int .i64 q.kd, .bool q.ch, .bool q.ak, .bool q.pr, .bool q.ag, .bool q.ln, .bool q.fw, .int .i64 q.ro, .int .u64 q.r, .int .u32 q.c, .int .u64 q.b, .int .u16 q.p, .int .u16 q.x, .int .i64 q.a, .int .i64 q.m, .int .i64 q.h, .int .i64 q.d] 30 (0, 0)) := heap_alloc_new _ _
  have hE_w0 : Ext w (w.alloc (.cells #[.int .i64 q.kd, .bool q.ch, .bool q.ak, .bool q.pr, .bool q.ag, .bool q.ln, .bool q.fw, .int .i64 q.ro, .int .u64 q.r, .int .u32 q.c, .int .u64 q.b, .int .u16 q.p, .int .u16 q.x, .int .i64 q.a, .int .i64 q.m, .int .i64 q.h, .int .i64 q.d] 30)) := (Ext.refl _).alloc _
  generalize w.alloc (.cells #[.int .i64 q.kd, .bool q.ch, .bool q.ak, .bool q.pr, .bool q.ag, .bool q.ln, .bool q.fw, .int .i64 q.ro, .int .u64 q.r, .int .u32 q.c, .int .u64 q.b, .int .u16 q.p, .int .u16 q.x, .int .i64 q.a, .int .i64 q.m, .int .i64 q.h, .int .i64 q.d] 30) = w0 at *
  obtain ⟨A0, hA0⟩ : ∃ n, w.heap.size = n := ⟨_, rfl⟩
  rw [hA0] at hA_w0 ⊢
  have hy_w0 := hyi.ext hE_w0
  clear hyi
  have rA0_w0 : w0.cell? ⟨A0, 0, none⟩ = some (.int .i64 q.kd) := (cell_of_row _ _ _ _ _ _ hA_w0).trans rfl
  refine (awake6 _).mono ?_
  rintro e z1 ⟨rfl, hx⟩
  have E_z1 : Ext w0 z1 := hx
  have hA_z1 : z1.heap[A0]? = some (.cells #[.int .i64 q.kd, .bool q.ch, .bool q.ak, .bool q.pr, .bool q.ag, .bool q.ln, .bool q.fw, .int .i64 q.ro, .int .u64 q.r, .int .u32 q.c, .int .u64 q.b, .int .u16 q.p, .int .u16 q.x, .int .i64 q.a, .int .i64 q.m, .int .i64 q.h, .int .i64 q.d] 30 (0, 0)) := (hx.block _ (heap_lt hA_w0)).trans hA_w0
  have hy_z1 : IsInts z1 .u8 (.slice a1 ys.length c1) ys := hy_w0.ext hx
  have rA0_z1 : z1.cell? ⟨A0, 0, none⟩ = some (.int .i64 q.kd) := (cell_of_row _ _ _ _ _ _ hA_z1).trans rfl
  clear hA_w0 hy_w0 rA0_w0
  clear hx
  go_wp2_with (first
    | fail
    | ((with_reducible refine at_load 30 ?_); refine wpList_load_row rfl 30 _ rfl A0 rfl 30 #[.int .i64 q.kd, .bool q.ch, .bool q.ak, .bool q.pr, .bool q.ag, .bool q.ln, .bool q.fw, .int .i64 q.ro, .int .u64 q.r, .int .u32 q.c, .int .u64 q.b, .int .u16 q.p, .int .u16 q.x, .int .i64 q.a, .int .i64 q.m, .int .i64 q.h, .int .i64 q.d] (0, 0) _ hA_z1 Try.underlying30 rfl (by kernel_rfl) ?_))
  refine (hw _).mono ?_
  rintro e z2 ⟨rfl, hx⟩
  have E_z2 : Ext w0 z2 := E_z1.trans hx
  have hA_z2 : z2.heap[A0]? = some (.cells #[.int .i64 q.kd, .bool q.ch, .bool q.ak, .bool q.pr, .bool q.ag, .bool q.ln, .bool q.fw, .int .i64 q.ro, .int .u64 q.r, .int .u32 q.c, .int .u64 q.b, .int .u16 q.p, .int .u16 q.x, .int .i64 q.a, .int .i64 q.m, .int .i64 q.h, .int .i64 q.d] 30 (0, 0)) := (hx.block _ (heap_lt hA_z1)).trans hA_z1
  have rA0_z2 : z2.cell? ⟨A0, 0, none⟩ = some (.int .i64 q.kd) := (cell_of_row _ _ _ _ _ _ hA_z2).trans rfl
  clear hA_z1 E_z1 rA0_z1
  clear hx
  go_wp2_with fail
  all_goals
    go_ret
    exact ⟨rfl, hE_w0.trans E_z2⟩
set_option maxRecDepth 100000 in
set_option maxHeartbeats 2000000 in
theorem cLlcBack_g {w : World} (s : Int) (hs : 0 ≤ s ∧ s < 18446744073709551616) (q : Mg) (hq : q.ok) (v1 : Value) (ys : List Int) (hy : IsInts w .u8 v1 ys ∧ ∀ z ∈ ys, (Lit.int .u8 z).wf = true) (h200 : ys.length ≤ 200) (hk0 : 2 < q.kd) : Calls Try.prog 9 #[.int .u64 s, .agg #[.int .i64 q.kd, .bool q.ch, .bool q.ak, .bool q.pr, .bool q.ag, .bool q.ln, .bool q.fw, .int .i64 q.ro, .int .u64 q.r, .int .u32 q.c, .int .u64 q.b, .int .u16 q.p, .int .u16 q.x, .int .i64 q.a, .int .i64 q.m, .int .i64 q.h, .int .i64 q.d], v1] w fun e w' => e = .returned (.bool true) ∧ Ext w w' := by
  have hyb := zs_rg hy.2
  obtain ⟨a1, c1, rfl, hlm, -⟩ := hy.1.form
  have hyi := hy.1
  clear hy
  have hw := wrap_no s hs q hq (by omega)
  have b0 : decide (q.kd < 0) = false := by simp; omega
  have b2 : decide (2 < q.kd) = true := by simpa using hk0
  clear hk0
  have hgt : decide (200 < (ys.length : Int)) = false := by simp; omega
  go_enter Try.func9, Try.ntmps9
  go_wp2_with fail
  have hA_w0 : (w.alloc (.cells #[.int .i64 q.kd, .bool q.ch, .bool q.ak, .bool q.pr, .bool q.ag, .bool q.ln, .bool q.fw, .int .i64 q.ro, .int .u64 q.r, .int .u32 q.c, .int .u64 q.b, .int .u16 q.p, .int .u16 q.x, .int .i64 q.a, .int .i64 q.m, .int .i64 q.h, .int .i64 q.d] 30)).heap[w.heap.size]? = some (.cells #[.int .i64 q.kd, .bool q.ch, .bool q.ak, .bool q.pr, .bool q.ag, .bool q.ln, .bool q.fw, .int .i64 q.ro, .int .u64 q.r, .int .u32 q.c, .int .u64 q.b, .int .u16 q.p, .int .u16 q.x, .int .i64 q.a, .int .i64 q.m, .int .i64 q.h, .int .i64 q.d] 30 (0, 0)) := heap_alloc_new _ _
  have hE_w0 : Ext w (w.alloc (.cells #[.int .i64 q.kd, .bool q.ch, .bool q.ak, .bool q.pr, .bool q.ag, .bool q.ln, .bool q.fw, .int .i64 q.ro, .int .u64 q.r, .int .u32 q.c, .int .u64 q.b, .int .u16 q.p, .int .u16 q.x, .int .i64 q.a, .int .i64 q.m, .int .i64 q.h, .int .i64 q.d] 30)) := (Ext.refl _).alloc _
  generalize w.alloc (.cells #[.int .i64 q.kd, .bool q.ch, .bool q.ak, .bool q.pr, .bool q.ag, .bool q.ln, .bool q.fw, .int .i64 q.ro, .int .u64 q.r, .int .u32 q.c, .int .u64 q.b, .int .u16 q.p, .int .u16 q.x, .int .i64 q.a, .int .i64 q.m, .int .i64 q.h, .int .i64 q.d] 30) = w0 at *
  obtain ⟨A0, hA0⟩ : ∃ n, w.heap.size = n := ⟨_, rfl⟩
  rw [hA0] at hA_w0 ⊢
  have hy_w0 := hyi.ext hE_w0
  clear hyi
  have rA0_w0 : w0.cell? ⟨A0, 0, none⟩ = some (.int .i64 q.kd) := (cell_of_row _ _ _ _ _ _ hA_w0).trans rfl
  refine (awake6 _).mono ?_
  rintro e z1 ⟨rfl, hx⟩
  have E_z1 : Ext w0 z1 := hx
  have hA_z1 : z1.heap[A0]? = some (.cells #[.int .i64 q.kd, .bool q.ch, .bool q.ak, .bool q.pr, .bool q.ag, .bool q.ln, .bool q.fw, .int .i64 q.ro, .int .u64 q.r, .int .u32 q.c, .int .u64 q.b, .int .u16 q.p, .int .u16 q.x, .int .i64 q.a, .int .i64 q.m, .int .i64 q.h, .int .i64 q.d] 30 (0, 0)) := (hx.block _ (heap_lt hA_w0)).trans hA_w0
  have hy_z1 : IsInts z1 .u8 (.slice a1 ys.length c1) ys := hy_w0.ext hx
  have rA0_z1 : z1.cell? ⟨A0, 0, none⟩ = some (.int .i64 q.kd) := (cell_of_row _ _ _ _ _ _ hA_z1).trans rfl
  clear hA_w0 hy_w0 rA0_w0
  clear hx
  go_wp2_with (first
    | fail
    | ((with_reducible refine at_load 30 ?_); refine wpList_load_row rfl 30 _ rfl A0 rfl 30 #[.int .i64 q.kd, .bool q.ch, .bool q.ak, .bool q.pr, .bool q.ag, .bool q.ln, .bool q.fw, .int .i64 q.ro, .int .u64 q.r, .int .u32 q.c, .int .u64 q.b, .int .u16 q.p, .int .u16 q.x, .int .i64 q.a, .int .i64 q.m, .int .i64 q.h, .int .i64 q.d] (0, 0) _ hA_z1 Try.underlying30 rfl (by kernel_rfl) ?_))
  refine (hw _).mono ?_
  rintro e z2 ⟨rfl, hx⟩
  have E_z2 : Ext w0 z2 := E_z1.trans hx
  have hA_z2 : z2.heap[A0]? = some (.cells #[.int .i64 q.kd, .bool q.ch, .bool q.ak, .bool q.pr, .bool q.ag, .bool q.ln, .bool q.fw, .int .i64 q.ro, .int .u64 q.r, .int .u32 q.c, .int .u64 q.b, .int .u16 q.p, .int .u16 q.x, .int .i64 q.a, .int .i64 q.m, .int .i64 q.h, .int .i64 q.d] 30 (0, 0)) := (hx.block _ (heap_lt hA_z1)).trans hA_z1
  have rA0_z2 : z2.cell? ⟨A0, 0, none⟩ = some (.int .i64 q.kd) := (cell_of_row _ _ _ _ _ _ hA_z2).trans rfl
  clear hA_z1 E_z1 rA0_z1
  clear hx
  go_wp2_with fail
  all_goals
    go_ret
    exact ⟨rfl, hE_w0.trans E_z2⟩
set_option maxRecDepth 100000 in
set_option maxHeartbeats 2000000 in
theorem cLlcBack_old {w : World} (s : Int) (hs : 0 ≤ s ∧ s < 18446744073709551616) (q : Mg) (hq : q.ok) (v1 : Value) (ys : List Int) (hy : IsInts w .u8 v1 ys ∧ ∀ z ∈ ys, (Lit.int .u8 z).wf = true) (h200 : ys.length ≤ 200) (hk0 : q.kd = 0) (ho : ¬ toV q.a < toV q.m) : Calls Try.prog 9 #[.int .u64 s, .agg #[.int .i64 q.kd, .bool q.ch, .bool q.ak, .bool q.pr, .bool q.ag, .bool q.ln, .bool q.fw, .int .i64 q.ro, .int .u64 q.r, .int .u32 q.c, .int .u64 q.b, .int .u16 q.p, .int .u16 q.x, .int .i64 q.a, .int .i64 q.m, .int .i64 q.h, .int .i64 q.d], v1] w fun e w' => e = .returned (.bool true) ∧ Ext w w' := by
  have hyb := zs_rg hy.2
  obtain ⟨a1, c1, rfl, hlm, -⟩ := hy.1.form
  have hyi := hy.1
  clear hy
  have hk : q.kd = 0 ∨ q.kd = 1 ∨ q.kd = 2 := by omega
  have hw := wrap_any s hs q hq hk
  have hfl := wrapL_len s q hk
  have hfb := wrapL_bytes s q hk
  have hfo := open_wrap s q hq hk
  obtain ⟨fr, hfr⟩ : ∃ f, wrapL s q = f := ⟨_, rfl⟩
  rw [hfr] at hfl hfb hfo
  simp only [hfr] at hw
  clear hfr
  have k0 : (q.kd == 0) = true := by simp [hk0]
  have b0 : decide (q.kd < 0) = false := by simp [hk0]
  have b2 : decide (2 < q.kd) = false := by simp [hk0]
  have hfo1 := hfo ys
  clear hfo
  rw [if_pos ⟨hk0, ho⟩] at hfo1
  have hta := told_rg q.a
  have htm := told_rg q.m
  have hpa : (plainM q).a = told q.a ∧ (plainM q).m = told q.m := by unfold plainM; rw [if_neg (by omega), if_pos (.inl hk0)]; exact ⟨rfl, rfl⟩
  have hpl := plain_any q hq
  have hpo := plain_ok q hq
  obtain ⟨pq, hpq⟩ : ∃ p, plainM q = p := ⟨_, rfl⟩
  rw [hpq] at hpo hpa
  have hge : decide (pq.m ≤ pq.a) = true := by rw [hpa.1, hpa.2]; simp; omega
  clear hpa hta htm
  simp only [hpq] at hpl
  clear hpq hpo
  have HK := Lib.hid hk0
  have HFO := Lib.hid hfo1
  have HL := Lib.hid hfl
  clear hk hk0 hfo1 ho
  have hlow := low_shift s hs
  have hgt : decide (200 < (ys.length : Int)) = false := by simp; omega
  go_enter Try.func9, Try.ntmps9
  go_wp2_with fail
  have hA_w0 : (w.alloc (.cells #[.int .i64 q.kd, .bool q.ch, .bool q.ak, .bool q.pr, .bool q.ag, .bool q.ln, .bool q.fw, .int .i64 q.ro, .int .u64 q.r, .int .u32 q.c, .int .u64 q.b, .int .u16 q.p, .int .u16 q.x, .int .i64 q.a, .int .i64 q.m, .int .i64 q.h, .int .i64 q.d] 30)).heap[w.heap.size]? = some (.cells #[.int .i64 q.kd, .bool q.ch, .bool q.ak, .bool q.pr, .bool q.ag, .bool q.ln, .bool q.fw, .int .i64 q.ro, .int .u64 q.r, .int .u32 q.c, .int .u64 q.b, .int .u16 q.p, .int .u16 q.x, .int .i64 q.a, .int .i64 q.m, .int .i64 q.h, .int .i64 q.d] 30 (0, 0)) := heap_alloc_new _ _
  have hE_w0 : Ext w (w.alloc (.cells #[.int .i64 q.kd, .bool q.ch, .bool q.ak, .bool q.pr, .bool q.ag, .bool q.ln, .bool q.fw, .int .i64 q.ro, .int .u64 q.r, .int .u32 q.c, .int .u64 q.b, .int .u16 q.p, .int .u16 q.x, .int .i64 q.a, .int .i64 q.m, .int .i64 q.h, .int .i64 q.d] 30)) := (Ext.refl _).alloc _
  generalize w.alloc (.cells #[.int .i64 q.kd, .bool q.ch, .bool q.ak, .bool q.pr, .bool q.ag, .bool q.ln, .bool q.fw, .int .i64 q.ro, .int .u64 q.r, .int .u32 q.c, .int .u64 q.b, .int .u16 q.p, .int .u16 q.x, .int .i64 q.a, .int .i64 q.m, .int .i64 q.h, .int .i64 q.d] 30) = w0 at *
  obtain ⟨A0, hA0⟩ : ∃ n, w.heap.size = n := ⟨_, rfl⟩
  rw [hA0] at hA_w0 ⊢
  have hy_w0 := hyi.ext hE_w0
  clear hyi
  have rA0_w0 : w0.cell? ⟨A0, 0, none⟩ = some (.int .i64 q.kd) := (cell_of_row _ _ _ _ _ _ hA_w0).trans rfl
  refine (awake6 _).mono ?_
  rintro e z1 ⟨rfl, hx⟩
  have E_z1 : Ext w0 z1 := hx
  have hA_z1 : z1.heap[A0]? = some (.cells #[.int .i64 q.kd, .bool q.ch, .bool q.ak, .bool q.pr, .bool q.ag, .bool q.ln, .bool q.fw, .int .i64 q.ro, .int .u64 q.r, .int .u32 q.c, .int .u64 q.b, .int .u16 q.p, .int .u16 q.x, .int .i64 q.a, .int .i64 q.m, .int .i64 q.h, .int .i64 q.d] 30 (0, 0)) := (hx.block _ (heap_lt hA_w0)).trans hA_w0
  have hy_z1 : IsInts z1 .u8 (.slice a1 ys.length c1) ys := hy_w0.ext hx
  have rA0_z1 : z1.cell? ⟨A0, 0, none⟩ = some (.int .i64 q.kd) := (cell_of_row _ _ _ _ _ _ hA_z1).trans rfl
  clear hA_w0 hy_w0 rA0_w0
  clear hx
  go_wp2_with (first
    | fail
    | ((with_reducible refine at_load 30 ?_); refine wpList_load_row rfl 30 _ rfl A0 rfl 30 #[.int .i64 q.kd, .bool q.ch, .bool q.ak, .bool q.pr, .bool q.ag, .bool q.ln, .bool q.fw, .int .i64 q.ro, .int .u64 q.r, .int .u32 q.c, .int .u64 q.b, .int .u16 q.p, .int .u16 q.x, .int .i64 q.a, .int .i64 q.m, .int .i64 q.h, .int .i64 q.d] (0, 0) _ hA_z1 Try.underlying30 rfl (by kernel_rfl) ?_))
  refine (hw _).mono ?_
  rintro e z2 ⟨vb, rfl, hown, hx⟩
  have E_z2 : Ext w0 z2 := E_z1.trans hx
  have hA_z2 : z2.heap[A0]? = some (.cells #[.int .i64 q.kd, .bool q.ch, .bool q.ak, .bool q.pr, .bool q.ag, .bool q.ln, .bool q.fw, .int .i64 q.ro, .int .u64 q.r, .int .u32 q.c, .int .u64 q.b, .int .u16 q.p, .int .u16 q.x, .int .i64 q.a, .int .i64 q.m, .int .i64 q.h, .int .i64 q.d] 30 (0, 0)) := (hx.block _ (heap_lt hA_z1)).trans hA_z1
  have hy_z2 : IsInts z2 .u8 (.slice a1 ys.length c1) ys := hy_z1.ext hx
  have hi_z2 := isBytes_own hown
  clear hown
  have rA0_z2 : z2.cell? ⟨A0, 0, none⟩ = some (.int .i64 q.kd) := (cell_of_row _ _ _ _ _ _ hA_z2).trans rfl
  clear hA_z1 hy_z1 E_z1 rA0_z1
  clear hx
  obtain ⟨av, cv, hv, -, -⟩ := hi_z2.form
  rw [HL.out] at hv
  subst hv
  go_wp2_with (first
    | fail
    | (at_builtin; refine wpList_app rfl _ _ rfl z2 ((Ext.refl z2).alloc _) _ _ ([]) (fr) rfl rfl (own0 z2) (hi_z2.ext ((Ext.refl z2).alloc _)) (by have := HL.out; simp; omega) ?_
       intro vp1 z3 hown_z3 hE_z3 hg_z3
       have hO_z3 : z3.ownsRow z2.heap.size 5 1 vp1 (fr).length ((fr).map (Value.int .u8)) := by simpa using hown_z3
       clear hown_z3 hg_z3)
    | (at_builtin; refine wpList_app rfl _ _ rfl z2 hE_z3 _ _ (fr) (ys) rfl rfl hO_z3 (hy_z2.ext hE_z3) (by have := HL.out; omega) ?_
       intro vp2 z4 hown_z4 hE_z4 hg_z4
       have hO_z4 : z4.ownsRow z2.heap.size 5 1 vp2 (fr ++ ys).length ((fr ++ ys).map (Value.int .u8)) := by exact hown_z4
       clear hown_z4 hg_z4
       have hA_z4 : z4.heap[A0]? = some (.cells #[.int .i64 q.kd, .bool q.ch, .bool q.ak, .bool q.pr, .bool q.ag, .bool q.ln, .bool q.fw, .int .i64 q.ro, .int .u64 q.r, .int .u32 q.c, .int .u64 q.b, .int .u16 q.p, .int .u16 q.x, .int .i64 q.a, .int .i64 q.m, .int .i64 q.h, .int .i64 q.d] 30 (0, 0)) := (hE_z4.block _ (heap_lt hA_z2)).trans hA_z2
       have hy_z4 : IsInts z4 .u8 (.slice a1 ys.length c1) ys := hy_z2.ext hE_z4
       have hi_z4 : IsInts z4 .u8 (.slice av 60 cv) fr := hi_z2.ext hE_z4
       have E_z4 : Ext w0 z4 := E_z2.trans hE_z4
       have rA0_z4 : z4.cell? ⟨A0, 0, none⟩ = some (.int .i64 q.kd) := (cell_of_row _ _ _ _ _ _ hA_z4).trans rfl
       clear hA_z2 hy_z2 hi_z2 E_z2 rA0_z2))
  have hit := isBytes_own hO_z4
  have hbt : ∀ x ∈ fr ++ ys, 0 ≤ x ∧ x < 256 := fun x hx => (List.mem_append.1 hx).elim (hfb x) (hyb x)
  have hd := open_any _ _ _ hit hbt (by have := HL.out; rw [List.length_append]; omega)
  clear hit hbt
  rw [HFO.out] at hd
  refine ((show Calls Try.prog 25 _ _ (fun e w' => e = .returned (.tuple #[.int .u64 0, .agg #[.int .i64 0, .bool false, .bool false, .bool false, .bool false, .bool false, .bool false, .int .i64 0, .int .u64 0, .int .u32 0, .int .u64 0, .int .u16 0, .int .u16 0, .int .i64 0, .int .i64 0, .int .i64 0, .int .i64 0], .int .i64 5]) ∧ Ext _ w') from hd)).mono ?_
  rintro e z5 ⟨rfl, hx⟩
  have E_z5 : Ext w0 z5 := E_z4.trans hx
  have hA_z5 : z5.heap[A0]? = some (.cells #[.int .i64 q.kd, .bool q.ch, .bool q.ak, .bool q.pr, .bool q.ag, .bool q.ln, .bool q.fw, .int .i64 q.ro, .int .u64 q.r, .int .u32 q.c, .int .u64 q.b, .int .u16 q.p, .int .u16 q.x, .int .i64 q.a, .int .i64 q.m, .int .i64 q.h, .int .i64 q.d] 30 (0, 0)) := (hx.block _ (heap_lt hA_z4)).trans hA_z4
  have rA0_z5 : z5.cell? ⟨A0, 0, none⟩ = some (.int .i64 q.kd) := (cell_of_row _ _ _ _ _ _ hA_z5).trans rfl
  clear hA_z4 E_z4 rA0_z4
  clear hx
  clear hd
  go_wp2_with (first
    | fail
    | ((with_reducible refine at_alloc 30 ?_); refine al_zero rfl 30 rfl MZ zero_msg ?_
       intro X0 z6 hq hs hx
       have E_z6 : Ext w0 z6 := E_z5.trans hx
       have hA_z6 : z6.heap[A0]? = some (.cells #[.int .i64 q.kd, .bool q.ch, .bool q.ak, .bool q.pr, .bool q.ag, .bool q.ln, .bool q.fw, .int .i64 q.ro, .int .u64 q.r, .int .u32 q.c, .int .u64 q.b, .int .u16 q.p, .int .u16 q.x, .int .i64 q.a, .int .i64 q.m, .int .i64 q.h, .int .i64 q.d] 30 (0, 0)) := (hx.block _ (heap_lt hA_z5)).trans hA_z5
       have hX_z6 : z6.heap[X0]? = some (.cells #[.int .i64 0, .bool false, .bool false, .bool false, .bool false, .bool false, .bool false, .int .i64 0, .int .u64 0, .int .u32 0, .int .u64 0, .int .u16 0, .int .u16 0, .int .i64 0, .int .i64 0, .int .i64 0, .int .i64 0] 30 (0, 0)) := hq
       have hb_X0 : w0.heap.size ≤ X0 := by have := E_z5.size; omega
       have hn_A0X0 : A0 ≠ X0 := by have := heap_lt hA_z5; omega
       have rA0_z6 : z6.cell? ⟨A0, 0, none⟩ = some (.int .i64 q.kd) := (cell_of_row _ _ _ _ _ _ hA_z6).trans rfl
       clear hA_z5 E_z5 rA0_z5
       clear hq hs hx)
    | ((with_reducible refine at_store 30 ?_); refine st_at rfl rfl 30 _ _ rfl X0 0 _ #[.int .i64 0, .bool false, .bool false, .bool false, .bool false, .bool false, .bool false, .int .i64 0, .int .u64 0, .int .u32 0, .int .u64 0, .int .u16 0, .int .u16 0, .int .i64 0, .int .i64 0, .int .i64 0, .int .i64 0] _ #[.int .i64 0, .bool false, .bool false, .bool false, .bool false, .bool false, .bool false, .int .i64 0, .int .u64 0, .int .u32 0, .int .u64 0, .int .u16 0, .int .u16 0, .int .i64 0, .int .i64 0, .int .i64 0, .int .i64 0] _ rfl rfl rfl hX_z6 (by exact (by decide : 0 + 17 ≤ 17)) (by kernel_rfl) rfl rfl ?_
       intro z7 hq hm
       have hX_z7 : z7.heap[X0]? = some (.cells #[.int .i64 0, .bool false, .bool false, .bool false, .bool false, .bool false, .bool false, .int .i64 0, .int .u64 0, .int .u32 0, .int .u64 0, .int .u16 0, .int .u16 0, .int .i64 0, .int .i64 0, .int .i64 0, .int .i64 0] 30 (0, 0)) := hq
       have hA_z7 : z7.heap[A0]? = some (.cells #[.int .i64 q.kd, .bool q.ch, .bool q.ak, .bool q.pr, .bool q.ag, .bool q.ln, .bool q.fw, .int .i64 q.ro, .int .u64 q.r, .int .u32 q.c, .int .u64 q.b, .int .u16 q.p, .int .u16 q.x, .int .i64 q.a, .int .i64 q.m, .int .i64 q.h, .int .i64 q.d] 30 (0, 0)) := (hm.heap (heap_lt hA_z6) (show ¬ A0 = X0 by omega)).trans hA_z6
       have E_z7 : Ext w0 z7 := Ext.mutE E_z6 hm (fun n hn h => by have h2 : n = X0 := h; omega)
       have rA0_z7 : z7.cell? ⟨A0, 0, none⟩ = some (.int .i64 q.kd) := (cell_of_row _ _ _ _ _ _ hA_z7).trans rfl
       clear hA_z6 hX_z6 E_z6 rA0_z6
       clear hq hm)
    | ((with_reducible refine at_load 30 ?_); refine wpList_load_row rfl 30 _ rfl A0 rfl 30 #[.int .i64 q.kd, .bool q.ch, .bool q.ak, .bool q.pr, .bool q.ag, .bool q.ln, .bool q.fw, .int .i64 q.ro, .int .u64 q.r, .int .u32 q.c, .int .u64 q.b, .int .u16 q.p, .int .u16 q.x, .int .i64 q.a, .int .i64 q.m, .int .i64 q.h, .int .i64 q.d] (0, 0) _ hA_z7 Try.underlying30 rfl (by kernel_rfl) ?_))
  refine (hpl _).mono ?_
  rintro e z8 ⟨rfl, hx⟩
  have E_z8 : Ext w0 z8 := E_z7.trans hx
  have hA_z8 : z8.heap[A0]? = some (.cells #[.int .i64 q.kd, .bool q.ch, .bool q.ak, .bool q.pr, .bool q.ag, .bool q.ln, .bool q.fw, .int .i64 q.ro, .int .u64 q.r, .int .u32 q.c, .int .u64 q.b, .int .u16 q.p, .int .u16 q.x, .int .i64 q.a, .int .i64 q.m, .int .i64 q.h, .int .i64 q.d] 30 (0, 0)) := (hx.block _ (heap_lt hA_z7)).trans hA_z7
  have hX_z8 : z8.heap[X0]? = some (.cells #[.int .i64 0, .bool false, .bool false, .bool false, .bool false, .bool false, .bool false, .int .i64 0, .int .u64 0, .int .u32 0, .int .u64 0, .int .u16 0, .int .u16 0, .int .i64 0, .int .i64 0, .int .i64 0, .int .i64 0] 30 (0, 0)) := (hx.block _ (heap_lt hX_z7)).trans hX_z7
  have rA0_z8 : z8.cell? ⟨A0, 0, none⟩ = some (.int .i64 q.kd) := (cell_of_row _ _ _ _ _ _ hA_z8).trans rfl
  clear hA_z7 hX_z7 E_z7 rA0_z7
  clear hx
  go_wp2_with (first
    | fail
    | ((with_reducible refine at_alloc 30 ?_); refine al_zero rfl 30 rfl MZ zero_msg ?_
       intro P0 z9 hq hs hx
       have E_z9 : Ext w0 z9 := E_z8.trans hx
       have hA_z9 : z9.heap[A0]? = some (.cells #[.int .i64 q.kd, .bool q.ch, .bool q.ak, .bool q.pr, .bool q.ag, .bool q.ln, .bool q.fw, .int .i64 q.ro, .int .u64 q.r, .int .u32 q.c, .int .u64 q.b, .int .u16 q.p, .int .u16 q.x, .int .i64 q.a, .int .i64 q.m, .int .i64 q.h, .int .i64 q.d] 30 (0, 0)) := (hx.block _ (heap_lt hA_z8)).trans hA_z8
       have hX_z9 : z9.heap[X0]? = some (.cells #[.int .i64 0, .bool false, .bool false, .bool false, .bool false, .bool false, .bool false, .int .i64 0, .int .u64 0, .int .u32 0, .int .u64 0, .int .u16 0, .int .u16 0, .int .i64 0, .int .i64 0, .int .i64 0, .int .i64 0] 30 (0, 0)) := (hx.block _ (heap_lt hX_z8)).trans hX_z8
       have hP_z9 : z9.heap[P0]? = some (.cells #[.int .i64 0, .bool false, .bool false, .bool false, .bool false, .bool false, .bool false, .int .i64 0, .int .u64 0, .int .u32 0, .int .u64 0, .int .u16 0, .int .u16 0, .int .i64 0, .int .i64 0, .int .i64 0, .int .i64 0] 30 (0, 0)) := hq
       have hb_P0 : w0.heap.size ≤ P0 := by have := E_z8.size; omega
       have hn_A0P0 : A0 ≠ P0 := by have := heap_lt hA_z8; omega
       have hn_X0P0 : X0 ≠ P0 := by have := heap_lt hX_z8; omega
       have rA0_z9 : z9.cell? ⟨A0, 0, none⟩ = some (.int .i64 q.kd) := (cell_of_row _ _ _ _ _ _ hA_z9).trans rfl
       have rP13_z9 : z9.cell? ⟨P0, 13, none⟩ = some (.int .i64 0) := (cell_of_row _ _ _ _ _ _ hP_z9).trans rfl
       have rP14_z9 : z9.cell? ⟨P0, 14, none⟩ = some (.int .i64 0) := (cell_of_row _ _ _ _ _ _ hP_z9).trans rfl
       clear hA_z8 hX_z8 E_z8 rA0_z8
       clear hq hs hx)
    | ((with_reducible refine at_store 30 ?_); refine st_at rfl rfl 30 _ _ rfl P0 0 _ #[.int .i64 pq.kd, .bool pq.ch, .bool pq.ak, .bool pq.pr, .bool pq.ag, .bool pq.ln, .bool pq.fw, .int .i64 pq.ro, .int .u64 pq.r, .int .u32 pq.c, .int .u64 pq.b, .int .u16 pq.p, .int .u16 pq.x, .int .i64 pq.a, .int .i64 pq.m, .int .i64 pq.h, .int .i64 pq.d] _ #[.int .i64 pq.kd, .bool pq.ch, .bool pq.ak, .bool pq.pr, .bool pq.ag, .bool pq.ln, .bool pq.fw, .int .i64 pq.ro, .int .u64 pq.r, .int .u32 pq.c, .int .u64 pq.b, .int .u16 pq.p, .int .u16 pq.x, .int .i64 pq.a, .int .i64 pq.m, .int .i64 pq.h, .int .i64 pq.d] _ rfl rfl rfl hP_z9 (by exact (by decide : 0 + 17 ≤ 17)) (by kernel_rfl) rfl rfl ?_
       intro z10 hq hm
       have hP_z10 : z10.heap[P0]? = some (.cells #[.int .i64 pq.kd, .bool pq.ch, .bool pq.ak, .bool pq.pr, .bool pq.ag, .bool pq.ln, .bool pq.fw, .int .i64 pq.ro, .int .u64 pq.r, .int .u32 pq.c, .int .u64 pq.b, .int .u16 pq.p, .int .u16 pq.x, .int .i64 pq.a, .int .i64 pq.m, .int .i64 pq.h, .int .i64 pq.d] 30 (0, 0)) := hq
       have hA_z10 : z10.heap[A0]? = some (.cells #[.int .i64 q.kd, .bool q.ch, .bool q.ak, .bool q.pr, .bool q.ag, .bool q.ln, .bool q.fw, .int .i64 q.ro, .int .u64 q.r, .int .u32 q.c, .int .u64 q.b, .int .u16 q.p, .int .u16 q.x, .int .i64 q.a, .int .i64 q.m, .int .i64 q.h, .int .i64 q.d] 30 (0, 0)) := (hm.heap (heap_lt hA_z9) (show ¬ A0 = P0 by omega)).trans hA_z9
       have hX_z10 : z10.heap[X0]? = some (.cells #[.int .i64 0, .bool false, .bool false, .bool false, .bool false, .bool false, .bool false, .int .i64 0, .int .u64 0, .int .u32 0, .int .u64 0, .int .u16 0, .int .u16 0, .int .i64 0, .int .i64 0, .int .i64 0, .int .i64 0] 30 (0, 0)) := (hm.heap (heap_lt hX_z9) (show ¬ X0 = P0 by omega)).trans hX_z9
       have E_z10 : Ext w0 z10 := Ext.mutE E_z9 hm (fun n hn h => by have h2 : n = P0 := h; omega)
       have rA0_z10 : z10.cell? ⟨A0, 0, none⟩ = some (.int .i64 q.kd) := (cell_of_row _ _ _ _ _ _ hA_z10).trans rfl
       have rP13_z10 : z10.cell? ⟨P0, 13, none⟩ = some (.int .i64 pq.a) := (cell_of_row _ _ _ _ _ _ hP_z10).trans rfl
       have rP14_z10 : z10.cell? ⟨P0, 14, none⟩ = some (.int .i64 pq.m) := (cell_of_row _ _ _ _ _ _ hP_z10).trans rfl
       clear hA_z9 hX_z9 hP_z9 E_z9 rA0_z9 rP13_z9 rP14_z9
       clear hq hm))
  all_goals
    go_ret
    exact ⟨rfl, hE_w0.trans E_z10⟩
set_option maxRecDepth 100000 in
set_option maxHeartbeats 2000000 in
theorem cLlcBack_c {w : World} (s : Int) (hs : 0 ≤ s ∧ s < 18446744073709551616) (q : Mg) (hq : q.ok) (v1 : Value) (ys : List Int) (hy : IsInts w .u8 v1 ys ∧ ∀ z ∈ ys, (Lit.int .u8 z).wf = true) (h200 : ys.length ≤ 200) (hk0 : q.kd = 0) (ho : toV q.a < toV q.m) : Calls Try.prog 9 #[.int .u64 s, .agg #[.int .i64 q.kd, .bool q.ch, .bool q.ak, .bool q.pr, .bool q.ag, .bool q.ln, .bool q.fw, .int .i64 q.ro, .int .u64 q.r, .int .u32 q.c, .int .u64 q.b, .int .u16 q.p, .int .u16 q.x, .int .i64 q.a, .int .i64 q.m, .int .i64 q.h, .int .i64 q.d], v1] w fun e w' => e = .returned (.bool true) ∧ Ext w w' := by
  have hyb := zs_rg hy.2
  obtain ⟨a1, c1, rfl, hlm, -⟩ := hy.1.form
  have hyi := hy.1
  clear hy
  have hk : q.kd = 0 ∨ q.kd = 1 ∨ q.kd = 2 := by omega
  have hw := wrap_any s hs q hq hk
  have hfl := wrapL_len s q hk
  have hfb := wrapL_bytes s q hk
  have hfo := open_wrap s q hq hk
  obtain ⟨fr, hfr⟩ : ∃ f, wrapL s q = f := ⟨_, rfl⟩
  rw [hfr] at hfl hfb hfo
  simp only [hfr] at hw
  clear hfr
  have k0 : (q.kd == 0) = true := by simp [hk0]
  have b0 : decide (q.kd < 0) = false := by simp [hk0]
  have b2 : decide (2 < q.kd) = false := by simp [hk0]
  have hfo1 := hfo ys
  clear hfo
  rw [if_neg (by rintro ⟨_, h⟩; exact h ho)] at hfo1
  have hpl := plain_any q hq
  have hpo := plain_ok q hq
  obtain ⟨pq, hpq⟩ : ∃ p, plainM q = p := ⟨_, rfl⟩
  rw [hpq] at hpo hfo1
  have heqp := eq_msg pq hpo
  simp only [hpq] at hpl
  clear hpq hpo
  have HK := Lib.hid hk0
  have HFO := Lib.hid hfo1
  have HL := Lib.hid hfl
  clear hk hk0 hfo1 ho
  have hlow := low_shift s hs
  have hgt : decide (200 < (ys.length : Int)) = false := by simp; omega
  go_enter Try.func9, Try.ntmps9
  go_wp2_with fail
  have hA_w0 : (w.alloc (.cells #[.int .i64 q.kd, .bool q.ch, .bool q.ak, .bool q.pr, .bool q.ag, .bool q.ln, .bool q.fw, .int .i64 q.ro, .int .u64 q.r, .int .u32 q.c, .int .u64 q.b, .int .u16 q.p, .int .u16 q.x, .int .i64 q.a, .int .i64 q.m, .int .i64 q.h, .int .i64 q.d] 30)).heap[w.heap.size]? = some (.cells #[.int .i64 q.kd, .bool q.ch, .bool q.ak, .bool q.pr, .bool q.ag, .bool q.ln, .bool q.fw, .int .i64 q.ro, .int .u64 q.r, .int .u32 q.c, .int .u64 q.b, .int .u16 q.p, .int .u16 q.x, .int .i64 q.a, .int .i64 q.m, .int .i64 q.h, .int .i64 q.d] 30 (0, 0)) := heap_alloc_new _ _
  have hE_w0 : Ext w (w.alloc (.cells #[.int .i64 q.kd, .bool q.ch, .bool q.ak, .bool q.pr, .bool q.ag, .bool q.ln, .bool q.fw, .int .i64 q.ro, .int .u64 q.r, .int .u32 q.c, .int .u64 q.b, .int .u16 q.p, .int .u16 q.x, .int .i64 q.a, .int .i64 q.m, .int .i64 q.h, .int .i64 q.d] 30)) := (Ext.refl _).alloc _
  generalize w.alloc (.cells #[.int .i64 q.kd, .bool q.ch, .bool q.ak, .bool q.pr, .bool q.ag, .bool q.ln, .bool q.fw, .int .i64 q.ro, .int .u64 q.r, .int .u32 q.c, .int .u64 q.b, .int .u16 q.p, .int .u16 q.x, .int .i64 q.a, .int .i64 q.m, .int .i64 q.h, .int .i64 q.d] 30) = w0 at *
  obtain ⟨A0, hA0⟩ : ∃ n, w.heap.size = n := ⟨_, rfl⟩
  rw [hA0] at hA_w0 ⊢
  have hy_w0 := hyi.ext hE_w0
  clear hyi
  have rA0_w0 : w0.cell? ⟨A0, 0, none⟩ = some (.int .i64 q.kd) := (cell_of_row _ _ _ _ _ _ hA_w0).trans rfl
  refine (awake6 _).mono ?_
  rintro e z1 ⟨rfl, hx⟩
  have E_z1 : Ext w0 z1 := hx
  have hA_z1 : z1.heap[A0]? = some (.cells #[.int .i64 q.kd, .bool q.ch, .bool q.ak, .bool q.pr, .bool q.ag, .bool q.ln, .bool q.fw, .int .i64 q.ro, .int .u64 q.r, .int .u32 q.c, .int .u64 q.b, .int .u16 q.p, .int .u16 q.x, .int .i64 q.a, .int .i64 q.m, .int .i64 q.h, .int .i64 q.d] 30 (0, 0)) := (hx.block _ (heap_lt hA_w0)).trans hA_w0
  have hy_z1 : IsInts z1 .u8 (.slice a1 ys.length c1) ys := hy_w0.ext hx
  have rA0_z1 : z1.cell? ⟨A0, 0, none⟩ = some (.int .i64 q.kd) := (cell_of_row _ _ _ _ _ _ hA_z1).trans rfl
  clear hA_w0 hy_w0 rA0_w0
  clear hx
  go_wp2_with (first
    | fail
    | ((with_reducible refine at_load 30 ?_); refine wpList_load_row rfl 30 _ rfl A0 rfl 30 #[.int .i64 q.kd, .bool q.ch, .bool q.ak, .bool q.pr, .bool q.ag, .bool q.ln, .bool q.fw, .int .i64 q.ro, .int .u64 q.r, .int .u32 q.c, .int .u64 q.b, .int .u16 q.p, .int .u16 q.x, .int .i64 q.a, .int .i64 q.m, .int .i64 q.h, .int .i64 q.d] (0, 0) _ hA_z1 Try.underlying30 rfl (by kernel_rfl) ?_))
  refine (hw _).mono ?_
  rintro e z2 ⟨vb, rfl, hown, hx⟩
  have E_z2 : Ext w0 z2 := E_z1.trans hx
  have hA_z2 : z2.heap[A0]? = some (.cells #[.int .i64 q.kd, .bool q.ch, .bool q.ak, .bool q.pr, .bool q.ag, .bool q.ln, .bool q.fw, .int .i64 q.ro, .int .u64 q.r, .int .u32 q.c, .int .u64 q.b, .int .u16 q.p, .int .u16 q.x, .int .i64 q.a, .int .i64 q.m, .int .i64 q.h, .int .i64 q.d] 30 (0, 0)) := (hx.block _ (heap_lt hA_z1)).trans hA_z1
  have hy_z2 : IsInts z2 .u8 (.slice a1 ys.length c1) ys := hy_z1.ext hx
  have hi_z2 := isBytes_own hown
  clear hown
  have rA0_z2 : z2.cell? ⟨A0, 0, none⟩ = some (.int .i64 q.kd) := (cell_of_row _ _ _ _ _ _ hA_z2).trans rfl
  clear hA_z1 hy_z1 E_z1 rA0_z1
  clear hx
  obtain ⟨av, cv, hv, -, -⟩ := hi_z2.form
  rw [HL.out] at hv
  subst hv
  go_wp2_with (first
    | fail
    | (at_builtin; refine wpList_app rfl _ _ rfl z2 ((Ext.refl z2).alloc _) _ _ ([]) (fr) rfl rfl (own0 z2) (hi_z2.ext ((Ext.refl z2).alloc _)) (by have := HL.out; simp; omega) ?_
       intro vp1 z3 hown_z3 hE_z3 hg_z3
       have hO_z3 : z3.ownsRow z2.heap.size 5 1 vp1 (fr).length ((fr).map (Value.int .u8)) := by simpa using hown_z3
       clear hown_z3 hg_z3)
    | (at_builtin; refine wpList_app rfl _ _ rfl z2 hE_z3 _ _ (fr) (ys) rfl rfl hO_z3 (hy_z2.ext hE_z3) (by have := HL.out; omega) ?_
       intro vp2 z4 hown_z4 hE_z4 hg_z4
       have hO_z4 : z4.ownsRow z2.heap.size 5 1 vp2 (fr ++ ys).length ((fr ++ ys).map (Value.int .u8)) := by exact hown_z4
       clear hown_z4 hg_z4
       have hA_z4 : z4.heap[A0]? = some (.cells #[.int .i64 q.kd, .bool q.ch, .bool q.ak, .bool q.pr, .bool q.ag, .bool q.ln, .bool q.fw, .int .i64 q.ro, .int .u64 q.r, .int .u32 q.c, .int .u64 q.b, .int .u16 q.p, .int .u16 q.x, .int .i64 q.a, .int .i64 q.m, .int .i64 q.h, .int .i64 q.d] 30 (0, 0)) := (hE_z4.block _ (heap_lt hA_z2)).trans hA_z2
       have hy_z4 : IsInts z4 .u8 (.slice a1 ys.length c1) ys := hy_z2.ext hE_z4
       have hi_z4 : IsInts z4 .u8 (.slice av 60 cv) fr := hi_z2.ext hE_z4
       have E_z4 : Ext w0 z4 := E_z2.trans hE_z4
       have rA0_z4 : z4.cell? ⟨A0, 0, none⟩ = some (.int .i64 q.kd) := (cell_of_row _ _ _ _ _ _ hA_z4).trans rfl
       clear hA_z2 hy_z2 hi_z2 E_z2 rA0_z2))
  have hit := isBytes_own hO_z4
  have hbt : ∀ x ∈ fr ++ ys, 0 ≤ x ∧ x < 256 := fun x hx => (List.mem_append.1 hx).elim (hfb x) (hyb x)
  have hd := open_any _ _ _ hit hbt (by have := HL.out; rw [List.length_append]; omega)
  clear hit hbt
  rw [HFO.out] at hd
  refine ((show Calls Try.prog 25 _ _ (fun e w' => e = .returned (.tuple #[.int .u64 (low48 s), .agg #[.int .i64 pq.kd, .bool pq.ch, .bool pq.ak, .bool pq.pr, .bool pq.ag, .bool pq.ln, .bool pq.fw, .int .i64 pq.ro, .int .u64 pq.r, .int .u32 pq.c, .int .u64 pq.b, .int .u16 pq.p, .int .u16 pq.x, .int .i64 pq.a, .int .i64 pq.m, .int .i64 pq.h, .int .i64 pq.d], .int .i64 0]) ∧ Ext _ w') from hd)).mono ?_
  rintro e z5 ⟨rfl, hx⟩
  have E_z5 : Ext w0 z5 := E_z4.trans hx
  have hA_z5 : z5.heap[A0]? = some (.cells #[.int .i64 q.kd, .bool q.ch, .bool q.ak, .bool q.pr, .bool q.ag, .bool q.ln, .bool q.fw, .int .i64 q.ro, .int .u64 q.r, .int .u32 q.c, .int .u64 q.b, .int .u16 q.p, .int .u16 q.x, .int .i64 q.a, .int .i64 q.m, .int .i64 q.h, .int .i64 q.d] 30 (0, 0)) := (hx.block _ (heap_lt hA_z4)).trans hA_z4
  have rA0_z5 : z5.cell? ⟨A0, 0, none⟩ = some (.int .i64 q.kd) := (cell_of_row _ _ _ _ _ _ hA_z5).trans rfl
  clear hA_z4 E_z4 rA0_z4
  clear hx
  clear hd
  go_wp2_with (first
    | fail
    | ((with_reducible refine at_alloc 30 ?_); refine al_zero rfl 30 rfl MZ zero_msg ?_
       intro X0 z6 hq hs hx
       have E_z6 : Ext w0 z6 := E_z5.trans hx
       have hA_z6 : z6.heap[A0]? = some (.cells #[.int .i64 q.kd, .bool q.ch, .bool q.ak, .bool q.pr, .bool q.ag, .bool q.ln, .bool q.fw, .int .i64 q.ro, .int .u64 q.r, .int .u32 q.c, .int .u64 q.b, .int .u16 q.p, .int .u16 q.x, .int .i64 q.a, .int .i64 q.m, .int .i64 q.h, .int .i64 q.d] 30 (0, 0)) := (hx.block _ (heap_lt hA_z5)).trans hA_z5
       have hX_z6 : z6.heap[X0]? = some (.cells #[.int .i64 0, .bool false, .bool false, .bool false, .bool false, .bool false, .bool false, .int .i64 0, .int .u64 0, .int .u32 0, .int .u64 0, .int .u16 0, .int .u16 0, .int .i64 0, .int .i64 0, .int .i64 0, .int .i64 0] 30 (0, 0)) := hq
       have hb_X0 : w0.heap.size ≤ X0 := by have := E_z5.size; omega
       have hn_A0X0 : A0 ≠ X0 := by have := heap_lt hA_z5; omega
       have rA0_z6 : z6.cell? ⟨A0, 0, none⟩ = some (.int .i64 q.kd) := (cell_of_row _ _ _ _ _ _ hA_z6).trans rfl
       clear hA_z5 E_z5 rA0_z5
       clear hq hs hx)
    | ((with_reducible refine at_store 30 ?_); refine st_at rfl rfl 30 _ _ rfl X0 0 _ #[.int .i64 pq.kd, .bool pq.ch, .bool pq.ak, .bool pq.pr, .bool pq.ag, .bool pq.ln, .bool pq.fw, .int .i64 pq.ro, .int .u64 pq.r, .int .u32 pq.c, .int .u64 pq.b, .int .u16 pq.p, .int .u16 pq.x, .int .i64 pq.a, .int .i64 pq.m, .int .i64 pq.h, .int .i64 pq.d] _ #[.int .i64 pq.kd, .bool pq.ch, .bool pq.ak, .bool pq.pr, .bool pq.ag, .bool pq.ln, .bool pq.fw, .int .i64 pq.ro, .int .u64 pq.r, .int .u32 pq.c, .int .u64 pq.b, .int .u16 pq.p, .int .u16 pq.x, .int .i64 pq.a, .int .i64 pq.m, .int .i64 pq.h, .int .i64 pq.d] _ rfl rfl rfl hX_z6 (by exact (by decide : 0 + 17 ≤ 17)) (by kernel_rfl) rfl rfl ?_
       intro z7 hq hm
       have hX_z7 : z7.heap[X0]? = some (.cells #[.int .i64 pq.kd, .bool pq.ch, .bool pq.ak, .bool pq.pr, .bool pq.ag, .bool pq.ln, .bool pq.fw, .int .i64 pq.ro, .int .u64 pq.r, .int .u32 pq.c, .int .u64 pq.b, .int .u16 pq.p, .int .u16 pq.x, .int .i64 pq.a, .int .i64 pq.m, .int .i64 pq.h, .int .i64 pq.d] 30 (0, 0)) := hq
       have hA_z7 : z7.heap[A0]? = some (.cells #[.int .i64 q.kd, .bool q.ch, .bool q.ak, .bool q.pr, .bool q.ag, .bool q.ln, .bool q.fw, .int .i64 q.ro, .int .u64 q.r, .int .u32 q.c, .int .u64 q.b, .int .u16 q.p, .int .u16 q.x, .int .i64 q.a, .int .i64 q.m, .int .i64 q.h, .int .i64 q.d] 30 (0, 0)) := (hm.heap (heap_lt hA_z6) (show ¬ A0 = X0 by omega)).trans hA_z6
       have E_z7 : Ext w0 z7 := Ext.mutE E_z6 hm (fun n hn h => by have h2 : n = X0 := h; omega)
       have rA0_z7 : z7.cell? ⟨A0, 0, none⟩ = some (.int .i64 q.kd) := (cell_of_row _ _ _ _ _ _ hA_z7).trans rfl
       clear hA_z6 hX_z6 E_z6 rA0_z6
       clear hq hm)
    | ((with_reducible refine at_load 30 ?_); refine wpList_load_row rfl 30 _ rfl A0 rfl 30 #[.int .i64 q.kd, .bool q.ch, .bool q.ak, .bool q.pr, .bool q.ag, .bool q.ln, .bool q.fw, .int .i64 q.ro, .int .u64 q.r, .int .u32 q.c, .int .u64 q.b, .int .u16 q.p, .int .u16 q.x, .int .i64 q.a, .int .i64 q.m, .int .i64 q.h, .int .i64 q.d] (0, 0) _ hA_z7 Try.underlying30 rfl (by kernel_rfl) ?_))
  refine (hpl _).mono ?_
  rintro e z8 ⟨rfl, hx⟩
  have E_z8 : Ext w0 z8 := E_z7.trans hx
  have hA_z8 : z8.heap[A0]? = some (.cells #[.int .i64 q.kd, .bool q.ch, .bool q.ak, .bool q.pr, .bool q.ag, .bool q.ln, .bool q.fw, .int .i64 q.ro, .int .u64 q.r, .int .u32 q.c, .int .u64 q.b, .int .u16 q.p, .int .u16 q.x, .int .i64 q.a, .int .i64 q.m, .int .i64 q.h, .int .i64 q.d] 30 (0, 0)) := (hx.block _ (heap_lt hA_z7)).trans hA_z7
  have hX_z8 : z8.heap[X0]? = some (.cells #[.int .i64 pq.kd, .bool pq.ch, .bool pq.ak, .bool pq.pr, .bool pq.ag, .bool pq.ln, .bool pq.fw, .int .i64 pq.ro, .int .u64 pq.r, .int .u32 pq.c, .int .u64 pq.b, .int .u16 pq.p, .int .u16 pq.x, .int .i64 pq.a, .int .i64 pq.m, .int .i64 pq.h, .int .i64 pq.d] 30 (0, 0)) := (hx.block _ (heap_lt hX_z7)).trans hX_z7
  have rA0_z8 : z8.cell? ⟨A0, 0, none⟩ = some (.int .i64 q.kd) := (cell_of_row _ _ _ _ _ _ hA_z8).trans rfl
  clear hA_z7 hX_z7 E_z7 rA0_z7
  clear hx
  go_wp2_with (first
    | fail
    | ((with_reducible refine at_alloc 30 ?_); refine al_zero rfl 30 rfl MZ zero_msg ?_
       intro P0 z9 hq hs hx
       have E_z9 : Ext w0 z9 := E_z8.trans hx
       have hA_z9 : z9.heap[A0]? = some (.cells #[.int .i64 q.kd, .bool q.ch, .bool q.ak, .bool q.pr, .bool q.ag, .bool q.ln, .bool q.fw, .int .i64 q.ro, .int .u64 q.r, .int .u32 q.c, .int .u64 q.b, .int .u16 q.p, .int .u16 q.x, .int .i64 q.a, .int .i64 q.m, .int .i64 q.h, .int .i64 q.d] 30 (0, 0)) := (hx.block _ (heap_lt hA_z8)).trans hA_z8
       have hX_z9 : z9.heap[X0]? = some (.cells #[.int .i64 pq.kd, .bool pq.ch, .bool pq.ak, .bool pq.pr, .bool pq.ag, .bool pq.ln, .bool pq.fw, .int .i64 pq.ro, .int .u64 pq.r, .int .u32 pq.c, .int .u64 pq.b, .int .u16 pq.p, .int .u16 pq.x, .int .i64 pq.a, .int .i64 pq.m, .int .i64 pq.h, .int .i64 pq.d] 30 (0, 0)) := (hx.block _ (heap_lt hX_z8)).trans hX_z8
       have hP_z9 : z9.heap[P0]? = some (.cells #[.int .i64 0, .bool false, .bool false, .bool false, .bool false, .bool false, .bool false, .int .i64 0, .int .u64 0, .int .u32 0, .int .u64 0, .int .u16 0, .int .u16 0, .int .i64 0, .int .i64 0, .int .i64 0, .int .i64 0] 30 (0, 0)) := hq
       have hb_P0 : w0.heap.size ≤ P0 := by have := E_z8.size; omega
       have hn_A0P0 : A0 ≠ P0 := by have := heap_lt hA_z8; omega
       have hn_X0P0 : X0 ≠ P0 := by have := heap_lt hX_z8; omega
       clear hA_z8 hX_z8 E_z8 rA0_z8
       clear hq hs hx)
    | ((with_reducible refine at_store 30 ?_); refine st_at rfl rfl 30 _ _ rfl P0 0 _ #[.int .i64 pq.kd, .bool pq.ch, .bool pq.ak, .bool pq.pr, .bool pq.ag, .bool pq.ln, .bool pq.fw, .int .i64 pq.ro, .int .u64 pq.r, .int .u32 pq.c, .int .u64 pq.b, .int .u16 pq.p, .int .u16 pq.x, .int .i64 pq.a, .int .i64 pq.m, .int .i64 pq.h, .int .i64 pq.d] _ #[.int .i64 pq.kd, .bool pq.ch, .bool pq.ak, .bool pq.pr, .bool pq.ag, .bool pq.ln, .bool pq.fw, .int .i64 pq.ro, .int .u64 pq.r, .int .u32 pq.c, .int .u64 pq.b, .int .u16 pq.p, .int .u16 pq.x, .int .i64 pq.a, .int .i64 pq.m, .int .i64 pq.h, .int .i64 pq.d] _ rfl rfl rfl hP_z9 (by exact (by decide : 0 + 17 ≤ 17)) (by kernel_rfl) rfl rfl ?_
       intro z10 hq hm
       have hP_z10 : z10.heap[P0]? = some (.cells #[.int .i64 pq.kd, .bool pq.ch, .bool pq.ak, .bool pq.pr, .bool pq.ag, .bool pq.ln, .bool pq.fw, .int .i64 pq.ro, .int .u64 pq.r, .int .u32 pq.c, .int .u64 pq.b, .int .u16 pq.p, .int .u16 pq.x, .int .i64 pq.a, .int .i64 pq.m, .int .i64 pq.h, .int .i64 pq.d] 30 (0, 0)) := hq
       have hA_z10 : z10.heap[A0]? = some (.cells #[.int .i64 q.kd, .bool q.ch, .bool q.ak, .bool q.pr, .bool q.ag, .bool q.ln, .bool q.fw, .int .i64 q.ro, .int .u64 q.r, .int .u32 q.c, .int .u64 q.b, .int .u16 q.p, .int .u16 q.x, .int .i64 q.a, .int .i64 q.m, .int .i64 q.h, .int .i64 q.d] 30 (0, 0)) := (hm.heap (heap_lt hA_z9) (show ¬ A0 = P0 by omega)).trans hA_z9
       have hX_z10 : z10.heap[X0]? = some (.cells #[.int .i64 pq.kd, .bool pq.ch, .bool pq.ak, .bool pq.pr, .bool pq.ag, .bool pq.ln, .bool pq.fw, .int .i64 pq.ro, .int .u64 pq.r, .int .u32 pq.c, .int .u64 pq.b, .int .u16 pq.p, .int .u16 pq.x, .int .i64 pq.a, .int .i64 pq.m, .int .i64 pq.h, .int .i64 pq.d] 30 (0, 0)) := (hm.heap (heap_lt hX_z9) (show ¬ X0 = P0 by omega)).trans hX_z9
       have E_z10 : Ext w0 z10 := Ext.mutE E_z9 hm (fun n hn h => by have h2 : n = P0 := h; omega)
       clear hA_z9 hX_z9 hP_z9 E_z9
       clear hq hm)
    | ((with_reducible refine at_loadG 30 ?_); refine wpList_load_rowG rfl 30 _ rfl X0 rfl 30 #[.int .i64 pq.kd, .bool pq.ch, .bool pq.ak, .bool pq.pr, .bool pq.ag, .bool pq.ln, .bool pq.fw, .int .i64 pq.ro, .int .u64 pq.r, .int .u32 pq.c, .int .u64 pq.b, .int .u16 pq.p, .int .u16 pq.x, .int .i64 pq.a, .int .i64 pq.m, .int .i64 pq.h, .int .i64 pq.d] (0, 0) _ hX_z10 Try.underlying30 rfl (by kernel_rfl) ?_)
    | ((with_reducible refine at_loadG 30 ?_); refine wpList_load_rowG rfl 30 _ rfl P0 rfl 30 #[.int .i64 pq.kd, .bool pq.ch, .bool pq.ak, .bool pq.pr, .bool pq.ag, .bool pq.ln, .bool pq.fw, .int .i64 pq.ro, .int .u64 pq.r, .int .u32 pq.c, .int .u64 pq.b, .int .u16 pq.p, .int .u16 pq.x, .int .i64 pq.a, .int .i64 pq.m, .int .i64 pq.h, .int .i64 pq.d] (0, 0) _ hP_z10 Try.underlying30 rfl (by kernel_rfl) ?_))
  all_goals
    go_ret
    exact ⟨rfl, hE_w0.trans E_z10⟩
set_option maxRecDepth 100000 in
set_option maxHeartbeats 2000000 in
theorem cLlcBack_t {w : World} (s : Int) (hs : 0 ≤ s ∧ s < 18446744073709551616) (q : Mg) (hq : q.ok) (v1 : Value) (ys : List Int) (hy : IsInts w .u8 v1 ys ∧ ∀ z ∈ ys, (Lit.int .u8 z).wf = true) (h200 : ys.length ≤ 200) (hk0 : q.kd = 1) : Calls Try.prog 9 #[.int .u64 s, .agg #[.int .i64 q.kd, .bool q.ch, .bool q.ak, .bool q.pr, .bool q.ag, .bool q.ln, .bool q.fw, .int .i64 q.ro, .int .u64 q.r, .int .u32 q.c, .int .u64 q.b, .int .u16 q.p, .int .u16 q.x, .int .i64 q.a, .int .i64 q.m, .int .i64 q.h, .int .i64 q.d], v1] w fun e w' => e = .returned (.bool true) ∧ Ext w w' := by
  have hyb := zs_rg hy.2
  obtain ⟨a1, c1, rfl, hlm, -⟩ := hy.1.form
  have hyi := hy.1
  clear hy
  have hk : q.kd = 0 ∨ q.kd = 1 ∨ q.kd = 2 := by omega
  have hw := wrap_any s hs q hq hk
  have hfl := wrapL_len s q hk
  have hfb := wrapL_bytes s q hk
  have hfo := open_wrap s q hq hk
  obtain ⟨fr, hfr⟩ : ∃ f, wrapL s q = f := ⟨_, rfl⟩
  rw [hfr] at hfl hfb hfo
  simp only [hfr] at hw
  clear hfr
  have k0 : (q.kd == 0) = false := by simp [hk0]
  have b0 : decide (q.kd < 0) = false := by simp [hk0]
  have b2 : decide (2 < q.kd) = false := by simp [hk0]
  have hfo1 := hfo ys
  clear hfo
  rw [if_neg (by rintro ⟨h, _⟩; omega)] at hfo1
  have hpl := plain_any q hq
  have hpo := plain_ok q hq
  obtain ⟨pq, hpq⟩ : ∃ p, plainM q = p := ⟨_, rfl⟩
  rw [hpq] at hpo hfo1
  have heqp := eq_msg pq hpo
  simp only [hpq] at hpl
  clear hpq hpo
  have HK := Lib.hid hk0
  have HFO := Lib.hid hfo1
  have HL := Lib.hid hfl
  clear hk hk0 hfo1
  have hlow := low_shift s hs
  have hgt : decide (200 < (ys.length : Int)) = false := by simp; omega
  go_enter Try.func9, Try.ntmps9
  go_wp2_with fail
  have hA_w0 : (w.alloc (.cells #[.int .i64 q.kd, .bool q.ch, .bool q.ak, .bool q.pr, .bool q.ag, .bool q.ln, .bool q.fw, .int .i64 q.ro, .int .u64 q.r, .int .u32 q.c, .int .u64 q.b, .int .u16 q.p, .int .u16 q.x, .int .i64 q.a, .int .i64 q.m, .int .i64 q.h, .int .i64 q.d] 30)).heap[w.heap.size]? = some (.cells #[.int .i64 q.kd, .bool q.ch, .bool q.ak, .bool q.pr, .bool q.ag, .bool q.ln, .bool q.fw, .int .i64 q.ro, .int .u64 q.r, .int .u32 q.c, .int .u64 q.b, .int .u16 q.p, .int .u16 q.x, .int .i64 q.a, .int .i64 q.m, .int .i64 q.h, .int .i64 q.d] 30 (0, 0)) := heap_alloc_new _ _
  have hE_w0 : Ext w (w.alloc (.cells #[.int .i64 q.kd, .bool q.ch, .bool q.ak, .bool q.pr, .bool q.ag, .bool q.ln, .bool q.fw, .int .i64 q.ro, .int .u64 q.r, .int .u32 q.c, .int .u64 q.b, .int .u16 q.p, .int .u16 q.x, .int .i64 q.a, .int .i64 q.m, .int .i64 q.h, .int .i64 q.d] 30)) := (Ext.refl _).alloc _
  generalize w.alloc (.cells #[.int .i64 q.kd, .bool q.ch, .bool q.ak, .bool q.pr, .bool q.ag, .bool q.ln, .bool q.fw, .int .i64 q.ro, .int .u64 q.r, .int .u32 q.c, .int .u64 q.b, .int .u16 q.p, .int .u16 q.x, .int .i64 q.a, .int .i64 q.m, .int .i64 q.h, .int .i64 q.d] 30) = w0 at *
  obtain ⟨A0, hA0⟩ : ∃ n, w.heap.size = n := ⟨_, rfl⟩
  rw [hA0] at hA_w0 ⊢
  have hy_w0 := hyi.ext hE_w0
  clear hyi
  have rA0_w0 : w0.cell? ⟨A0, 0, none⟩ = some (.int .i64 q.kd) := (cell_of_row _ _ _ _ _ _ hA_w0).trans rfl
  refine (awake6 _).mono ?_
  rintro e z1 ⟨rfl, hx⟩
  have E_z1 : Ext w0 z1 := hx
  have hA_z1 : z1.heap[A0]? = some (.cells #[.int .i64 q.kd, .bool q.ch, .bool q.ak, .bool q.pr, .bool q.ag, .bool q.ln, .bool q.fw, .int .i64 q.ro, .int .u64 q.r, .int .u32 q.c, .int .u64 q.b, .int .u16 q.p, .int .u16 q.x, .int .i64 q.a, .int .i64 q.m, .int .i64 q.h, .int .i64 q.d] 30 (0, 0)) := (hx.block _ (heap_lt hA_w0)).trans hA_w0
  have hy_z1 : IsInts z1 .u8 (.slice a1 ys.length c1) ys := hy_w0.ext hx
  have rA0_z1 : z1.cell? ⟨A0, 0, none⟩ = some (.int .i64 q.kd) := (cell_of_row _ _ _ _ _ _ hA_z1).trans rfl
  clear hA_w0 hy_w0 rA0_w0
  clear hx
  go_wp2_with (first
    | fail
    | ((with_reducible refine at_load 30 ?_); refine wpList_load_row rfl 30 _ rfl A0 rfl 30 #[.int .i64 q.kd, .bool q.ch, .bool q.ak, .bool q.pr, .bool q.ag, .bool q.ln, .bool q.fw, .int .i64 q.ro, .int .u64 q.r, .int .u32 q.c, .int .u64 q.b, .int .u16 q.p, .int .u16 q.x, .int .i64 q.a, .int .i64 q.m, .int .i64 q.h, .int .i64 q.d] (0, 0) _ hA_z1 Try.underlying30 rfl (by kernel_rfl) ?_))
  refine (hw _).mono ?_
  rintro e z2 ⟨vb, rfl, hown, hx⟩
  have E_z2 : Ext w0 z2 := E_z1.trans hx
  have hA_z2 : z2.heap[A0]? = some (.cells #[.int .i64 q.kd, .bool q.ch, .bool q.ak, .bool q.pr, .bool q.ag, .bool q.ln, .bool q.fw, .int .i64 q.ro, .int .u64 q.r, .int .u32 q.c, .int .u64 q.b, .int .u16 q.p, .int .u16 q.x, .int .i64 q.a, .int .i64 q.m, .int .i64 q.h, .int .i64 q.d] 30 (0, 0)) := (hx.block _ (heap_lt hA_z1)).trans hA_z1
  have hy_z2 : IsInts z2 .u8 (.slice a1 ys.length c1) ys := hy_z1.ext hx
  have hi_z2 := isBytes_own hown
  clear hown
  have rA0_z2 : z2.cell? ⟨A0, 0, none⟩ = some (.int .i64 q.kd) := (cell_of_row _ _ _ _ _ _ hA_z2).trans rfl
  clear hA_z1 hy_z1 E_z1 rA0_z1
  clear hx
  obtain ⟨av, cv, hv, -, -⟩ := hi_z2.form
  rw [HL.out] at hv
  subst hv
  go_wp2_with (first
    | fail
    | (at_builtin; refine wpList_app rfl _ _ rfl z2 ((Ext.refl z2).alloc _) _ _ ([]) (fr) rfl rfl (own0 z2) (hi_z2.ext ((Ext.refl z2).alloc _)) (by have := HL.out; simp; omega) ?_
       intro vp1 z3 hown_z3 hE_z3 hg_z3
       have hO_z3 : z3.ownsRow z2.heap.size 5 1 vp1 (fr).length ((fr).map (Value.int .u8)) := by simpa using hown_z3
       clear hown_z3 hg_z3)
    | (at_builtin; refine wpList_app rfl _ _ rfl z2 hE_z3 _ _ (fr) (ys) rfl rfl hO_z3 (hy_z2.ext hE_z3) (by have := HL.out; omega) ?_
       intro vp2 z4 hown_z4 hE_z4 hg_z4
       have hO_z4 : z4.ownsRow z2.heap.size 5 1 vp2 (fr ++ ys).length ((fr ++ ys).map (Value.int .u8)) := by exact hown_z4
       clear hown_z4 hg_z4
       have hA_z4 : z4.heap[A0]? = some (.cells #[.int .i64 q.kd, .bool q.ch, .bool q.ak, .bool q.pr, .bool q.ag, .bool q.ln, .bool q.fw, .int .i64 q.ro, .int .u64 q.r, .int .u32 q.c, .int .u64 q.b, .int .u16 q.p, .int .u16 q.x, .int .i64 q.a, .int .i64 q.m, .int .i64 q.h, .int .i64 q.d] 30 (0, 0)) := (hE_z4.block _ (heap_lt hA_z2)).trans hA_z2
       have hy_z4 : IsInts z4 .u8 (.slice a1 ys.length c1) ys := hy_z2.ext hE_z4
       have hi_z4 : IsInts z4 .u8 (.slice av 60 cv) fr := hi_z2.ext hE_z4
       have E_z4 : Ext w0 z4 := E_z2.trans hE_z4
       have rA0_z4 : z4.cell? ⟨A0, 0, none⟩ = some (.int .i64 q.kd) := (cell_of_row _ _ _ _ _ _ hA_z4).trans rfl
       clear hA_z2 hy_z2 hi_z2 E_z2 rA0_z2))
  have hit := isBytes_own hO_z4
  have hbt : ∀ x ∈ fr ++ ys, 0 ≤ x ∧ x < 256 := fun x hx => (List.mem_append.1 hx).elim (hfb x) (hyb x)
  have hd := open_any _ _ _ hit hbt (by have := HL.out; rw [List.length_append]; omega)
  clear hit hbt
  rw [HFO.out] at hd
  refine ((show Calls Try.prog 25 _ _ (fun e w' => e = .returned (.tuple #[.int .u64 (low48 s), .agg #[.int .i64 pq.kd, .bool pq.ch, .bool pq.ak, .bool pq.pr, .bool pq.ag, .bool pq.ln, .bool pq.fw, .int .i64 pq.ro, .int .u64 pq.r, .int .u32 pq.c, .int .u64 pq.b, .int .u16 pq.p, .int .u16 pq.x, .int .i64 pq.a, .int .i64 pq.m, .int .i64 pq.h, .int .i64 pq.d], .int .i64 0]) ∧ Ext _ w') from hd)).mono ?_
  rintro e z5 ⟨rfl, hx⟩
  have E_z5 : Ext w0 z5 := E_z4.trans hx
  have hA_z5 : z5.heap[A0]? = some (.cells #[.int .i64 q.kd, .bool q.ch, .bool q.ak, .bool q.pr, .bool q.ag, .bool q.ln, .bool q.fw, .int .i64 q.ro, .int .u64 q.r, .int .u32 q.c, .int .u64 q.b, .int .u16 q.p, .int .u16 q.x, .int .i64 q.a, .int .i64 q.m, .int .i64 q.h, .int .i64 q.d] 30 (0, 0)) := (hx.block _ (heap_lt hA_z4)).trans hA_z4
  have rA0_z5 : z5.cell? ⟨A0, 0, none⟩ = some (.int .i64 q.kd) := (cell_of_row _ _ _ _ _ _ hA_z5).trans rfl
  clear hA_z4 E_z4 rA0_z4
  clear hx
  clear hd
  go_wp2_with (first
    | fail
    | ((with_reducible refine at_alloc 30 ?_); refine al_zero rfl 30 rfl MZ zero_msg ?_
       intro X0 z6 hq hs hx
       have E_z6 : Ext w0 z6 := E_z5.trans hx
       have hA_z6 : z6.heap[A0]? = some (.cells #[.int .i64 q.kd, .bool q.ch, .bool q.ak, .bool q.pr, .bool q.ag, .bool q.ln, .bool q.fw, .int .i64 q.ro, .int .u64 q.r, .int .u32 q.c, .int .u64 q.b, .int .u16 q.p, .int .u16 q.x, .int .i64 q.a, .int .i64 q.m, .int .i64 q.h, .int .i64 q.d] 30 (0, 0)) := (hx.block _ (heap_lt hA_z5)).trans hA_z5
       have hX_z6 : z6.heap[X0]? = some (.cells #[.int .i64 0, .bool false, .bool false, .bool false, .bool false, .bool false, .bool false, .int .i64 0, .int .u64 0, .int .u32 0, .int .u64 0, .int .u16 0, .int .u16 0, .int .i64 0, .int .i64 0, .int .i64 0, .int .i64 0] 30 (0, 0)) := hq
       have hb_X0 : w0.heap.size ≤ X0 := by have := E_z5.size; omega
       have hn_A0X0 : A0 ≠ X0 := by have := heap_lt hA_z5; omega
       have rA0_z6 : z6.cell? ⟨A0, 0, none⟩ = some (.int .i64 q.kd) := (cell_of_row _ _ _ _ _ _ hA_z6).trans rfl
       clear hA_z5 E_z5 rA0_z5
       clear hq hs hx)
    | ((with_reducible refine at_store 30 ?_); refine st_at rfl rfl 30 _ _ rfl X0 0 _ #[.int .i64 pq.kd, .bool pq.ch, .bool pq.ak, .bool pq.pr, .bool pq.ag, .bool pq.ln, .bool pq.fw, .int .i64 pq.ro, .int .u64 pq.r, .int .u32 pq.c, .int .u64 pq.b, .int .u16 pq.p, .int .u16 pq.x, .int .i64 pq.a, .int .i64 pq.m, .int .i64 pq.h, .int .i64 pq.d] _ #[.int .i64 pq.kd, .bool pq.ch, .bool pq.ak, .bool pq.pr, .bool pq.ag, .bool pq.ln, .bool pq.fw, .int .i64 pq.ro, .int .u64 pq.r, .int .u32 pq.c, .int .u64 pq.b, .int .u16 pq.p, .int .u16 pq.x, .int .i64 pq.a, .int .i64 pq.m, .int .i64 pq.h, .int .i64 pq.d] _ rfl rfl rfl hX_z6 (by exact (by decide : 0 + 17 ≤ 17)) (by kernel_rfl) rfl rfl ?_
       intro z7 hq hm
       have hX_z7 : z7.heap[X0]? = some (.cells #[.int .i64 pq.kd, .bool pq.ch, .bool pq.ak, .bool pq.pr, .bool pq.ag, .bool pq.ln, .bool pq.fw, .int .i64 pq.ro, .int .u64 pq.r, .int .u32 pq.c, .int .u64 pq.b, .int .u16 pq.p, .int .u16 pq.x, .int .i64 pq.a, .int .i64 pq.m, .int .i64 pq.h, .int .i64 pq.d] 30 (0, 0)) := hq
       have hA_z7 : z7.heap[A0]? = some (.cells #[.int .i64 q.kd, .bool q.ch, .bool q.ak, .bool q.pr, .bool q.ag, .bool q.ln, .bool q.fw, .int .i64 q.ro, .int .u64 q.r, .int .u32 q.c, .int .u64 q.b, .int .u16 q.p, .int .u16 q.x, .int .i64 q.a, .int .i64 q.m, .int .i64 q.h, .int .i64 q.d] 30 (0, 0)) := (hm.heap (heap_lt hA_z6) (show ¬ A0 = X0 by omega)).trans hA_z6
       have E_z7 : Ext w0 z7 := Ext.mutE E_z6 hm (fun n hn h => by have h2 : n = X0 := h; omega)
       have rA0_z7 : z7.cell? ⟨A0, 0, none⟩ = some (.int .i64 q.kd) := (cell_of_row _ _ _ _ _ _ hA_z7).trans rfl
       clear hA_z6 hX_z6 E_z6 rA0_z6
       clear hq hm)
    | ((with_reducible refine at_load 30 ?_); refine wpList_load_row rfl 30 _ rfl A0 rfl 30 #[.int .i64 q.kd, .bool q.ch, .bool q.ak, .bool q.pr, .bool q.ag, .bool q.ln, .bool q.fw, .int .i64 q.ro, .int .u64 q.r, .int .u32 q.c, .int .u64 q.b, .int .u16 q.p, .int .u16 q.x, .int .i64 q.a, .int .i64 q.m, .int .i64 q.h, .int .i64 q.d] (0, 0) _ hA_z7 Try.underlying30 rfl (by kernel_rfl) ?_))
  refine (hpl _).mono ?_
  rintro e z8 ⟨rfl, hx⟩
  have E_z8 : Ext w0 z8 := E_z7.trans hx
  have hA_z8 : z8.heap[A0]? = some (.cells #[.int .i64 q.kd, .bool q.ch, .bool q.ak, .bool q.pr, .bool q.ag, .bool q.ln, .bool q.fw, .int .i64 q.ro, .int .u64 q.r, .int .u32 q.c, .int .u64 q.b, .int .u16 q.p, .int .u16 q.x, .int .i64 q.a, .int .i64 q.m, .int .i64 q.h, .int .i64 q.d] 30 (0, 0)) := (hx.block _ (heap_lt hA_z7)).trans hA_z7
  have hX_z8 : z8.heap[X0]? = some (.cells #[.int .i64 pq.kd, .bool pq.ch, .bool pq.ak, .bool pq.pr, .bool pq.ag, .bool pq.ln, .bool pq.fw, .int .i64 pq.ro, .int .u64 pq.r, .int .u32 pq.c, .int .u64 pq.b, .int .u16 pq.p, .int .u16 pq.x, .int .i64 pq.a, .int .i64 pq.m, .int .i64 pq.h, .int .i64 pq.d] 30 (0, 0)) := (hx.block _ (heap_lt hX_z7)).trans hX_z7
  have rA0_z8 : z8.cell? ⟨A0, 0, none⟩ = some (.int .i64 q.kd) := (cell_of_row _ _ _ _ _ _ hA_z8).trans rfl
  clear hA_z7 hX_z7 E_z7 rA0_z7
  clear hx
  go_wp2_with (first
    | fail
    | ((with_reducible refine at_alloc 30 ?_); refine al_zero rfl 30 rfl MZ zero_msg ?_
       intro P0 z9 hq hs hx
       have E_z9 : Ext w0 z9 := E_z8.trans hx
       have hA_z9 : z9.heap[A0]? = some (.cells #[.int .i64 q.kd, .bool q.ch, .bool q.ak, .bool q.pr, .bool q.ag, .bool q.ln, .bool q.fw, .int .i64 q.ro, .int .u64 q.r, .int .u32 q.c, .int .u64 q.b, .int .u16 q.p, .int .u16 q.x, .int .i64 q.a, .int .i64 q.m, .int .i64 q.h, .int .i64 q.d] 30 (0, 0)) := (hx.block _ (heap_lt hA_z8)).trans hA_z8
       have hX_z9 : z9.heap[X0]? = some (.cells #[.int .i64 pq.kd, .bool pq.ch, .bool pq.ak, .bool pq.pr, .bool pq.ag, .bool pq.ln, .bool pq.fw, .int .i64 pq.ro, .int .u64 pq.r, .int .u32 pq.c, .int .u64 pq.b, .int .u16 pq.p, .int .u16 pq.x, .int .i64 pq.a, .int .i64 pq.m, .int .i64 pq.h, .int .i64 pq.d] 30 (0, 0)) := (hx.block _ (heap_lt hX_z8)).trans hX_z8
       have hP_z9 : z9.heap[P0]? = some (.cells #[.int .i64 0, .bool false, .bool false, .bool false, .bool false, .bool false, .bool false, .int .i64 0, .int .u64 0, .int .u32 0, .int .u64 0, .int .u16 0, .int .u16 0, .int .i64 0, .int .i64 0, .int .i64 0, .int .i64 0] 30 (0, 0)) := hq
       have hb_P0 : w0.heap.size ≤ P0 := by have := E_z8.size; omega
       have hn_A0P0 : A0 ≠ P0 := by have := heap_lt hA_z8; omega
       have hn_X0P0 : X0 ≠ P0 := by have := heap_lt hX_z8; omega
       clear hA_z8 hX_z8 E_z8 rA0_z8
       clear hq hs hx)
    | ((with_reducible refine at_store 30 ?_); refine st_at rfl rfl 30 _ _ rfl P0 0 _ #[.int .i64 pq.kd, .bool pq.ch, .bool pq.ak, .bool pq.pr, .bool pq.ag, .bool pq.ln, .bool pq.fw, .int .i64 pq.ro, .int .u64 pq.r, .int .u32 pq.c, .int .u64 pq.b, .int .u16 pq.p, .int .u16 pq.x, .int .i64 pq.a, .int .i64 pq.m, .int .i64 pq.h, .int .i64 pq.d] _ #[.int .i64 pq.kd, .bool pq.ch, .bool pq.ak, .bool pq.pr, .bool pq.ag, .bool pq.ln, .bool pq.fw, .int .i64 pq.ro, .int .u64 pq.r, .int .u32 pq.c, .int .u64 pq.b, .int .u16 pq.p, .int .u16 pq.x, .int .i64 pq.a, .int .i64 pq.m, .int .i64 pq.h, .int .i64 pq.d] _ rfl rfl rfl hP_z9 (by exact (by decide : 0 + 17 ≤ 17)) (by kernel_rfl) rfl rfl ?_
       intro z10 hq hm
       have hP_z10 : z10.heap[P0]? = some (.cells #[.int .i64 pq.kd, .bool pq.ch, .bool pq.ak, .bool pq.pr, .bool pq.ag, .bool pq.ln, .bool pq.fw, .int .i64 pq.ro, .int .u64 pq.r, .int .u32 pq.c, .int .u64 pq.b, .int .u16 pq.p, .int .u16 pq.x, .int .i64 pq.a, .int .i64 pq.m, .int .i64 pq.h, .int .i64 pq.d] 30 (0, 0)) := hq
       have hA_z10 : z10.heap[A0]? = some (.cells #[.int .i64 q.kd, .bool q.ch, .bool q.ak, .bool q.pr, .bool q.ag, .bool q.ln, .bool q.fw, .int .i64 q.ro, .int .u64 q.r, .int .u32 q.c, .int .u64 q.b, .int .u16 q.p, .int .u16 q.x, .int .i64 q.a, .int .i64 q.m, .int .i64 q.h, .int .i64 q.d] 30 (0, 0)) := (hm.heap (heap_lt hA_z9) (show ¬ A0 = P0 by omega)).trans hA_z9
       have hX_z10 : z10.heap[X0]? = some (.cells #[.int .i64 pq.kd, .bool pq.ch, .bool pq.ak, .bool pq.pr, .bool pq.ag, .bool pq.ln, .bool pq.fw, .int .i64 pq.ro, .int .u64 pq.r, .int .u32 pq.c, .int .u64 pq.b, .int .u16 pq.p, .int .u16 pq.x, .int .i64 pq.a, .int .i64 pq.m, .int .i64 pq.h, .int .i64 pq.d] 30 (0, 0)) := (hm.heap (heap_lt hX_z9) (show ¬ X0 = P0 by omega)).trans hX_z9
       have E_z10 : Ext w0 z10 := Ext.mutE E_z9 hm (fun n hn h => by have h2 : n = P0 := h; omega)
       clear hA_z9 hX_z9 hP_z9 E_z9
       clear hq hm)
    | ((with_reducible refine at_loadG 30 ?_); refine wpList_load_rowG rfl 30 _ rfl X0 rfl 30 #[.int .i64 pq.kd, .bool pq.ch, .bool pq.ak, .bool pq.pr, .bool pq.ag, .bool pq.ln, .bool pq.fw, .int .i64 pq.ro, .int .u64 pq.r, .int .u32 pq.c, .int .u64 pq.b, .int .u16 pq.p, .int .u16 pq.x, .int .i64 pq.a, .int .i64 pq.m, .int .i64 pq.h, .int .i64 pq.d] (0, 0) _ hX_z10 Try.underlying30 rfl (by kernel_rfl) ?_)
    | ((with_reducible refine at_loadG 30 ?_); refine wpList_load_rowG rfl 30 _ rfl P0 rfl 30 #[.int .i64 pq.kd, .bool pq.ch, .bool pq.ak, .bool pq.pr, .bool pq.ag, .bool pq.ln, .bool pq.fw, .int .i64 pq.ro, .int .u64 pq.r, .int .u32 pq.c, .int .u64 pq.b, .int .u16 pq.p, .int .u16 pq.x, .int .i64 pq.a, .int .i64 pq.m, .int .i64 pq.h, .int .i64 pq.d] (0, 0) _ hP_z10 Try.underlying30 rfl (by kernel_rfl) ?_))
  all_goals
    go_ret
    exact ⟨rfl, hE_w0.trans E_z10⟩
set_option maxRecDepth 100000 in
set_option maxHeartbeats 2000000 in
theorem cLlcBack_r {w : World} (s : Int) (hs : 0 ≤ s ∧ s < 18446744073709551616) (q : Mg) (hq : q.ok) (v1 : Value) (ys : List Int) (hy : IsInts w .u8 v1 ys ∧ ∀ z ∈ ys, (Lit.int .u8 z).wf = true) (h200 : ys.length ≤ 200) (hk0 : q.kd = 2) : Calls Try.prog 9 #[.int .u64 s, .agg #[.int .i64 q.kd, .bool q.ch, .bool q.ak, .bool q.pr, .bool q.ag, .bool q.ln, .bool q.fw, .int .i64 q.ro, .int .u64 q.r, .int .u32 q.c, .int .u64 q.b, .int .u16 q.p, .int .u16 q.x, .int .i64 q.a, .int .i64 q.m, .int .i64 q.h, .int .i64 q.d], v1] w fun e w' => e = .returned (.bool true) ∧ Ext w w' := by
  have hyb := zs_rg hy.2
  obtain ⟨a1, c1, rfl, hlm, -⟩ := hy.1.form
  have hyi := hy.1
  clear hy
  have hk : q.kd = 0 ∨ q.kd = 1 ∨ q.kd = 2 := by omega
  have hw := wrap_any s hs q hq hk
  have hfl := wrapL_len s q hk
  have hfb := wrapL_bytes s q hk
  have hfo := open_wrap s q hq hk
  obtain ⟨fr, hfr⟩ : ∃ f, wrapL s q = f := ⟨_, rfl⟩
  rw [hfr] at hfl hfb hfo
  simp only [hfr] at hw
  clear hfr
  have k0 : (q.kd == 0) = false := by simp [hk0]
  have b0 : decide (q.kd < 0) = false := by simp [hk0]
  have b2 : decide (2 < q.kd) = false := by simp [hk0]
  have hfo1 := hfo ys
  clear hfo
  rw [if_neg (by rintro ⟨h, _⟩; omega)] at hfo1
  have hpl := plain_any q hq
  have hpo := plain_ok q hq
  obtain ⟨pq, hpq⟩ : ∃ p, plainM q = p := ⟨_, rfl⟩
  rw [hpq] at hpo hfo1
  have heqp := eq_msg pq hpo
  simp only [hpq] at hpl
  clear hpq hpo
  have HK := Lib.hid hk0
  have HFO := Lib.hid hfo1
  have HL := Lib.hid hfl
  clear hk hk0 hfo1
  have hlow := low_shift s hs
  have hgt : decide (200 < (ys.length : Int)) = false := by simp; omega
  go_enter Try.func9, Try.ntmps9
  go_wp2_with fail
  have hA_w0 : (w.alloc (.cells #[.int .i64 q.kd, .bool q.ch, .bool q.ak, .bool q.pr, .bool q.ag, .bool q.ln, .bool q.fw, .int .i64 q.ro, .int .u64 q.r, .int .u32 q.c, .int .u64 q.b, .int .u16 q.p, .int .u16 q.x, .int .i64 q.a, .int .i64 q.m, .int .i64 q.h, .int .i64 q.d] 30)).heap[w.heap.size]? = some (.cells #[.int .i64 q.kd, .bool q.ch, .bool q.ak, .bool q.pr, .bool q.ag, .bool q.ln, .bool q.fw, .int .i64 q.ro, .int .u64 q.r, .int .u32 q.c, .int .u64 q.b, .int .u16 q.p, .int .u16 q.x, .int .i64 q.a, .int .i64 q.m, .int .i64 q.h, .int .i64 q.d] 30 (0, 0)) := heap_alloc_new _ _
  have hE_w0 : Ext w (w.alloc (.cells #[.int .i64 q.kd, .bool q.ch, .bool q.ak, .bool q.pr, .bool q.ag, .bool q.ln, .bool q.fw, .int .i64 q.ro, .int .u64 q.r, .int .u32 q.c, .int .u64 q.b, .int .u16 q.p, .int .u16 q.x, .int .i64 q.a, .int .i64 q.m, .int .i64 q.h, .int .i64 q.d] 30)) := (Ext.refl _).alloc _
  generalize w.alloc (.cells #[.int .i64 q.kd, .bool q.ch, .bool q.ak, .bool q.pr, .bool q.ag, .bool q.ln, .bool q.fw, .int .i64 q.ro, .int .u64 q.r, .int .u32 q.c, .int .u64 q.b, .int .u16 q.p, .int .u16 q.x, .int .i64 q.a, .int .i64 q.m, .int .i64 q.h, .int .i64 q.d] 30) = w0 at *
  obtain ⟨A0, hA0⟩ : ∃ n, w.heap.size = n := ⟨_, rfl⟩
  rw [hA0] at hA_w0 ⊢
  have hy_w0 := hyi.ext hE_w0
  clear hyi
  have rA0_w0 : w0.cell? ⟨A0, 0, none⟩ = some (.int .i64 q.kd) := (cell_of_row _ _ _ _ _ _ hA_w0).trans rfl
  refine (awake6 _).mono ?_
  rintro e z1 ⟨rfl, hx⟩
  have E_z1 : Ext w0 z1 := hx
  have hA_z1 : z1.heap[A0]? = some (.cells #[.int .i64 q.kd, .bool q.ch, .bool q.ak, .bool q.pr, .bool q.ag, .bool q.ln, .bool q.fw, .int .i64 q.ro, .int .u64 q.r, .int .u32 q.c, .int .u64 q.b, .int .u16 q.p, .int .u16 q.x, .int .i64 q.a, .int .i64 q.m, .int .i64 q.h, .int .i64 q.d] 30 (0, 0)) := (hx.block _ (heap_lt hA_w0)).trans hA_w0
  have hy_z1 : IsInts z1 .u8 (.slice a1 ys.length c1) ys := hy_w0.ext hx
  have rA0_z1 : z1.cell? ⟨A0, 0, none⟩ = some (.int .i64 q.kd) := (cell_of_row _ _ _ _ _ _ hA_z1).trans rfl
  clear hA_w0 hy_w0 rA0_w0
  clear hx
  go_wp2_with (first
    | fail
    | ((with_reducible refine at_load 30 ?_); refine wpList_load_row rfl 30 _ rfl A0 rfl 30 #[.int .i64 q.kd, .bool q.ch, .bool q.ak, .bool q.pr, .bool q.ag, .bool q.ln, .bool q.fw, .int .i64 q.ro, .int .u64 q.r, .int .u32 q.c, .int .u64 q.b, .int .u16 q.p, .int .u16 q.x, .int .i64 q.a, .int .i64 q.m, .int .i64 q.h, .int .i64 q.d] (0, 0) _ hA_z1 Try.underlying30 rfl (by kernel_rfl) ?_))
  refine (hw _).mono ?_
  rintro e z2 ⟨vb, rfl, hown, hx⟩
  have E_z2 : Ext w0 z2 := E_z1.trans hx
  have hA_z2 : z2.heap[A0]? = some (.cells #[.int .i64 q.kd, .bool q.ch, .bool q.ak, .bool q.pr, .bool q.ag, .bool q.ln, .bool q.fw, .int .i64 q.ro, .int .u64 q.r, .int .u32 q.c, .int .u64 q.b, .int .u16 q.p, .int .u16 q.x, .int .i64 q.a, .int .i64 q.m, .int .i64 q.h, .int .i64 q.d] 30 (0, 0)) := (hx.block _ (heap_lt hA_z1)).trans hA_z1
  have hy_z2 : IsInts z2 .u8 (.slice a1 ys.length c1) ys := hy_z1.ext hx
  have hi_z2 := isBytes_own hown
  clear hown
  have rA0_z2 : z2.cell? ⟨A0, 0, none⟩ = some (.int .i64 q.kd) := (cell_of_row _ _ _ _ _ _ hA_z2).trans rfl
  clear hA_z1 hy_z1 E_z1 rA0_z1
  clear hx
  obtain ⟨av, cv, hv, -, -⟩ := hi_z2.form
  rw [HL.out] at hv
  subst hv
  go_wp2_with (first
    | fail
    | (at_builtin; refine wpList_app rfl _ _ rfl z2 ((Ext.refl z2).alloc _) _ _ ([]) (fr) rfl rfl (own0 z2) (hi_z2.ext ((Ext.refl z2).alloc _)) (by have := HL.out; simp; omega) ?_
       intro vp1 z3 hown_z3 hE_z3 hg_z3
       have hO_z3 : z3.ownsRow z2.heap.size 5 1 vp1 (fr).length ((fr).map (Value.int .u8)) := by simpa using hown_z3
       clear hown_z3 hg_z3)
    | (at_builtin; refine wpList_app rfl _ _ rfl z2 hE_z3 _ _ (fr) (ys) rfl rfl hO_z3 (hy_z2.ext hE_z3) (by have := HL.out; omega) ?_
       intro vp2 z4 hown_z4 hE_z4 hg_z4
       have hO_z4 : z4.ownsRow z2.heap.size 5 1 vp2 (fr ++ ys).length ((fr ++ ys).map (Value.int .u8)) := by exact hown_z4
       clear hown_z4 hg_z4
       have hA_z4 : z4.heap[A0]? = some (.cells #[.int .i64 q.kd, .bool q.ch, .bool q.ak, .bool q.pr, .bool q.ag, .bool q.ln, .bool q.fw, .int .i64 q.ro, .int .u64 q.r, .int .u32 q.c, .int .u64 q.b, .int .u16 q.p, .int .u16 q.x, .int .i64 q.a, .int .i64 q.m, .int .i64 q.h, .int .i64 q.d] 30 (0, 0)) := (hE_z4.block _ (heap_lt hA_z2)).trans hA_z2
       have hy_z4 : IsInts z4 .u8 (.slice a1 ys.length c1) ys := hy_z2.ext hE_z4
       have hi_z4 : IsInts z4 .u8 (.slice av 60 cv) fr := hi_z2.ext hE_z4
       have E_z4 : Ext w0 z4 := E_z2.trans hE_z4
       have rA0_z4 : z4.cell? ⟨A0, 0, none⟩ = some (.int .i64 q.kd) := (cell_of_row _ _ _ _ _ _ hA_z4).trans rfl
       clear hA_z2 hy_z2 hi_z2 E_z2 rA0_z2))
  have hit := isBytes_own hO_z4
  have hbt : ∀ x ∈ fr ++ ys, 0 ≤ x ∧ x < 256 := fun x hx => (List.mem_append.1 hx).elim (hfb x) (hyb x)
  have hd := open_any _ _ _ hit hbt (by have := HL.out; rw [List.length_append]; omega)
  clear hit hbt
  rw [HFO.out] at hd
  refine ((show Calls Try.prog 25 _ _ (fun e w' => e = .returned (.tuple #[.int .u64 (low48 s), .agg #[.int .i64 pq.kd, .bool pq.ch, .bool pq.ak, .bool pq.pr, .bool pq.ag, .bool pq.ln, .bool pq.fw, .int .i64 pq.ro, .int .u64 pq.r, .int .u32 pq.c, .int .u64 pq.b, .int .u16 pq.p, .int .u16 pq.x, .int .i64 pq.a, .int .i64 pq.m, .int .i64 pq.h, .int .i64 pq.d], .int .i64 0]) ∧ Ext _ w') from hd)).mono ?_
  rintro e z5 ⟨rfl, hx⟩
  have E_z5 : Ext w0 z5 := E_z4.trans hx
  have hA_z5 : z5.heap[A0]? = some (.cells #[.int .i64 q.kd, .bool q.ch, .bool q.ak, .bool q.pr, .bool q.ag, .bool q.ln, .bool q.fw, .int .i64 q.ro, .int .u64 q.r, .int .u32 q.c, .int .u64 q.b, .int .u16 q.p, .int .u16 q.x, .int .i64 q.a, .int .i64 q.m, .int .i64 q.h, .int .i64 q.d] 30 (0, 0)) := (hx.block _ (heap_lt hA_z4)).trans hA_z4
  have rA0_z5 : z5.cell? ⟨A0, 0, none⟩ = some (.int .i64 q.kd) := (cell_of_row _ _ _ _ _ _ hA_z5).trans rfl
  clear hA_z4 E_z4 rA0_z4
  clear hx
  clear hd
  go_wp2_with (first
    | fail
    | ((with_reducible refine at_alloc 30 ?_); refine al_zero rfl 30 rfl MZ zero_msg ?_
       intro X0 z6 hq hs hx
       have E_z6 : Ext w0 z6 := E_z5.trans hx
       have hA_z6 : z6.heap[A0]? = some (.cells #[.int .i64 q.kd, .bool q.ch, .bool q.ak, .bool q.pr, .bool q.ag, .bool q.ln, .bool q.fw, .int .i64 q.ro, .int .u64 q.r, .int .u32 q.c, .int .u64 q.b, .int .u16 q.p, .int .u16 q.x, .int .i64 q.a, .int .i64 q.m, .int .i64 q.h, .int .i64 q.d] 30 (0, 0)) := (hx.block _ (heap_lt hA_z5)).trans hA_z5
       have hX_z6 : z6.heap[X0]? = some (.cells #[.int .i64 0, .bool false, .bool false, .bool false, .bool false, .bool false, .bool false, .int .i64 0, .int .u64 0, .int .u32 0, .int .u64 0, .int .u16 0, .int .u16 0, .int .i64 0, .int .i64 0, .int .i64 0, .int .i64 0] 30 (0, 0)) := hq
       have hb_X0 : w0.heap.size ≤ X0 := by have := E_z5.size; omega
       have hn_A0X0 : A0 ≠ X0 := by have := heap_lt hA_z5; omega
       have rA0_z6 : z6.cell? ⟨A0, 0, none⟩ = some (.int .i64 q.kd) := (cell_of_row _ _ _ _ _ _ hA_z6).trans rfl
       clear hA_z5 E_z5 rA0_z5
       clear hq hs hx)
    | ((with_reducible refine at_store 30 ?_); refine st_at rfl rfl 30 _ _ rfl X0 0 _ #[.int .i64 pq.kd, .bool pq.ch, .bool pq.ak, .bool pq.pr, .bool pq.ag, .bool pq.ln, .bool pq.fw, .int .i64 pq.ro, .int .u64 pq.r, .int .u32 pq.c, .int .u64 pq.b, .int .u16 pq.p, .int .u16 pq.x, .int .i64 pq.a, .int .i64 pq.m, .int .i64 pq.h, .int .i64 pq.d] _ #[.int .i64 pq.kd, .bool pq.ch, .bool pq.ak, .bool pq.pr, .bool pq.ag, .bool pq.ln, .bool pq.fw, .int .i64 pq.ro, .int .u64 pq.r, .int .u32 pq.c, .int .u64 pq.b, .int .u16 pq.p, .int .u16 pq.x, .int .i64 pq.a, .int .i64 pq.m, .int .i64 pq.h, .int .i64 pq.d] _ rfl rfl rfl hX_z6 (by exact (by decide : 0 + 17 ≤ 17)) (by kernel_rfl) rfl rfl ?_
       intro z7 hq hm
       have hX_z7 : z7.heap[X0]? = some (.cells #[.int .i64 pq.kd, .bool pq.ch, .bool pq.ak, .bool pq.pr, .bool pq.ag, .bool pq.ln, .bool pq.fw, .int .i64 pq.ro, .int .u64 pq.r, .int .u32 pq.c, .int .u64 pq.b, .int .u16 pq.p, .int .u16 pq.x, .int .i64 pq.a, .int .i64 pq.m, .int .i64 pq.h, .int .i64 pq.d] 30 (0, 0)) := hq
       have hA_z7 : z7.heap[A0]? = some (.cells #[.int .i64 q.kd, .bool q.ch, .bool q.ak, .bool q.pr, .bool q.ag, .bool q.ln, .bool q.fw, .int .i64 q.ro, .int .u64 q.r, .int .u32 q.c, .int .u64 q.b, .int .u16 q.p, .int .u16 q.x, .int .i64 q.a, .int .i64 q.m, .int .i64 q.h, .int .i64 q.d] 30 (0, 0)) := (hm.heap (heap_lt hA_z6) (show ¬ A0 = X0 by omega)).trans hA_z6
       have E_z7 : Ext w0 z7 := Ext.mutE E_z6 hm (fun n hn h => by have h2 : n = X0 := h; omega)
       have rA0_z7 : z7.cell? ⟨A0, 0, none⟩ = some (.int .i64 q.kd) := (cell_of_row _ _ _ _ _ _ hA_z7).trans rfl
       clear hA_z6 hX_z6 E_z6 rA0_z6
       clear hq hm)
    | ((with_reducible refine at_load 30 ?_); refine wpList_load_row rfl 30 _ rfl A0 rfl 30 #[.int .i64 q.kd, .bool q.ch, .bool q.ak, .bool q.pr, .bool q.ag, .bool q.ln, .bool q.fw, .int .i64 q.ro, .int .u64 q.r, .int .u32 q.c, .int .u64 q.b, .int .u16 q.p, .int .u16 q.x, .int .i64 q.a, .int .i64 q.m, .int .i64 q.h, .int .i64 q.d] (0, 0) _ hA_z7 Try.underlying30 rfl (by kernel_rfl) ?_))
  refine (hpl _).mono ?_
  rintro e z8 ⟨rfl, hx⟩
  have E_z8 : Ext w0 z8 := E_z7.trans hx
  have hA_z8 : z8.heap[A0]? = some (.cells #[.int .i64 q.kd, .bool q.ch, .bool q.ak, .bool q.pr, .bool q.ag, .bool q.ln, .bool q.fw, .int .i64 q.ro, .int .u64 q.r, .int .u32 q.c, .int .u64 q.b, .int .u16 q.p, .int .u16 q.x, .int .i64 q.a, .int .i64 q.m, .int .i64 q.h, .int .i64 q.d] 30 (0, 0)) := (hx.block _ (heap_lt hA_z7)).trans hA_z7
  have hX_z8 : z8.heap[X0]? = some (.cells #[.int .i64 pq.kd, .bool pq.ch, .bool pq.ak, .bool pq.pr, .bool pq.ag, .bool pq.ln, .bool pq.fw, .int .i64 pq.ro, .int .u64 pq.r, .int .u32 pq.c, .int .u64 pq.b, .int .u16 pq.p, .int .u16 pq.x, .int .i64 pq.a, .int .i64 pq.m, .int .i64 pq.h, .int .i64 pq.d] 30 (0, 0)) := (hx.block _ (heap_lt hX_z7)).trans hX_z7
  have rA0_z8 : z8.cell? ⟨A0, 0, none⟩ = some (.int .i64 q.kd) := (cell_of_row _ _ _ _ _ _ hA_z8).trans rfl
  clear hA_z7 hX_z7 E_z7 rA0_z7
  clear hx
  go_wp2_with (first
    | fail
    | ((with_reducible refine at_alloc 30 ?_); refine al_zero rfl 30 rfl MZ zero_msg ?_
       intro P0 z9 hq hs hx
       have E_z9 : Ext w0 z9 := E_z8.trans hx
       have hA_z9 : z9.heap[A0]? = some (.cells #[.int .i64 q.kd, .bool q.ch, .bool q.ak, .bool q.pr, .bool q.ag, .bool q.ln, .bool q.fw, .int .i64 q.ro, .int .u64 q.r, .int .u32 q.c, .int .u64 q.b, .int .u16 q.p, .int .u16 q.x, .int .i64 q.a, .int .i64 q.m, .int .i64 q.h, .int .i64 q.d] 30 (0, 0)) := (hx.block _ (heap_lt hA_z8)).trans hA_z8
       have hX_z9 : z9.heap[X0]? = some (.cells #[.int .i64 pq.kd, .bool pq.ch, .bool pq.ak, .bool pq.pr, .bool pq.ag, .bool pq.ln, .bool pq.fw, .int .i64 pq.ro, .int .u64 pq.r, .int .u32 pq.c, .int .u64 pq.b, .int .u16 pq.p, .int .u16 pq.x, .int .i64 pq.a, .int .i64 pq.m, .int .i64 pq.h, .int .i64 pq.d] 30 (0, 0)) := (hx.block _ (heap_lt hX_z8)).trans hX_z8
       have hP_z9 : z9.heap[P0]? = some (.cells #[.int .i64 0, .bool false, .bool false, .bool false, .bool false, .bool false, .bool false, .int .i64 0, .int .u64 0, .int .u32 0, .int .u64 0, .int .u16 0, .int .u16 0, .int .i64 0, .int .i64 0, .int .i64 0, .int .i64 0] 30 (0, 0)) := hq
       have hb_P0 : w0.heap.size ≤ P0 := by have := E_z8.size; omega
       have hn_A0P0 : A0 ≠ P0 := by have := heap_lt hA_z8; omega
       have hn_X0P0 : X0 ≠ P0 := by have := heap_lt hX_z8; omega
       clear hA_z8 hX_z8 E_z8 rA0_z8
       clear hq hs hx)
    | ((with_reducible refine at_store 30 ?_); refine st_at rfl rfl 30 _ _ rfl P0 0 _ #[.int .i64 pq.kd, .bool pq.ch, .bool pq.ak, .bool pq.pr, .bool pq.ag, .bool pq.ln, .bool pq.fw, .int .i64 pq.ro, .int .u64 pq.r, .int .u32 pq.c, .int .u64 pq.b, .int .u16 pq.p, .int .u16 pq.x, .int .i64 pq.a, .int .i64 pq.m, .int .i64 pq.h, .int .i64 pq.d] _ #[.int .i64 pq.kd, .bool pq.ch, .bool pq.ak, .bool pq.pr, .bool pq.ag, .bool pq.ln, .bool pq.fw, .int .i64 pq.ro, .int .u64 pq.r, .int .u32 pq.c, .int .u64 pq.b, .int .u16 pq.p, .int .u16 pq.x, .int .i64 pq.a, .int .i64 pq.m, .int .i64 pq.h, .int .i64 pq.d] _ rfl rfl rfl hP_z9 (by exact (by decide : 0 + 17 ≤ 17)) (by kernel_rfl) rfl rfl ?_
       intro z10 hq hm
       have hP_z10 : z10.heap[P0]? = some (.cells #[.int .i64 pq.kd, .bool pq.ch, .bool pq.ak, .bool pq.pr, .bool pq.ag, .bool pq.ln, .bool pq.fw, .int .i64 pq.ro, .int .u64 pq.r, .int .u32 pq.c, .int .u64 pq.b, .int .u16 pq.p, .int .u16 pq.x, .int .i64 pq.a, .int .i64 pq.m, .int .i64 pq.h, .int .i64 pq.d] 30 (0, 0)) := hq
       have hA_z10 : z10.heap[A0]? = some (.cells #[.int .i64 q.kd, .bool q.ch, .bool q.ak, .bool q.pr, .bool q.ag, .bool q.ln, .bool q.fw, .int .i64 q.ro, .int .u64 q.r, .int .u32 q.c, .int .u64 q.b, .int .u16 q.p, .int .u16 q.x, .int .i64 q.a, .int .i64 q.m, .int .i64 q.h, .int .i64 q.d] 30 (0, 0)) := (hm.heap (heap_lt hA_z9) (show ¬ A0 = P0 by omega)).trans hA_z9
       have hX_z10 : z10.heap[X0]? = some (.cells #[.int .i64 pq.kd, .bool pq.ch, .bool pq.ak, .bool pq.pr, .bool pq.ag, .bool pq.ln, .bool pq.fw, .int .i64 pq.ro, .int .u64 pq.r, .int .u32 pq.c, .int .u64 pq.b, .int .u16 pq.p, .int .u16 pq.x, .int .i64 pq.a, .int .i64 pq.m, .int .i64 pq.h, .int .i64 pq.d] 30 (0, 0)) := (hm.heap (heap_lt hX_z9) (show ¬ X0 = P0 by omega)).trans hX_z9
       have E_z10 : Ext w0 z10 := Ext.mutE E_z9 hm (fun n hn h => by have h2 : n = P0 := h; omega)
       clear hA_z9 hX_z9 hP_z9 E_z9
       clear hq hm)
    | ((with_reducible refine at_loadG 30 ?_); refine wpList_load_rowG rfl 30 _ rfl X0 rfl 30 #[.int .i64 pq.kd, .bool pq.ch, .bool pq.ak, .bool pq.pr, .bool pq.ag, .bool pq.ln, .bool pq.fw, .int .i64 pq.ro, .int .u64 pq.r, .int .u32 pq.c, .int .u64 pq.b, .int .u16 pq.p, .int .u16 pq.x, .int .i64 pq.a, .int .i64 pq.m, .int .i64 pq.h, .int .i64 pq.d] (0, 0) _ hX_z10 Try.underlying30 rfl (by kernel_rfl) ?_)
    | ((with_reducible refine at_loadG 30 ?_); refine wpList_load_rowG rfl 30 _ rfl P0 rfl 30 #[.int .i64 pq.kd, .bool pq.ch, .bool pq.ak, .bool pq.pr, .bool pq.ag, .bool pq.ln, .bool pq.fw, .int .i64 pq.ro, .int .u64 pq.r, .int .u32 pq.c, .int .u64 pq.b, .int .u16 pq.p, .int .u16 pq.x, .int .i64 pq.a, .int .i64 pq.m, .int .i64 pq.h, .int .i64 pq.d] (0, 0) _ hP_z10 Try.underlying30 rfl (by kernel_rfl) ?_))
  all_goals
    go_ret
    exact ⟨rfl, hE_w0.trans E_z10⟩
theorem law_LlcBack {w : World} (s : Int) (hs : 0 ≤ s ∧ s < 18446744073709551616) (mc : List Value) (hmc : Typed ML mc) (v1 : Value) (ys : List Int) (hy : IsInts w .u8 v1 ys ∧ ∀ z ∈ ys, (Lit.int .u8 z).wf = true) : Calls Try.prog 9 #[.int .u64 s, .agg mc.toArray, v1] w fun e w' => e = .returned (.bool true) ∧ Ext w w' := by
  obtain ⟨q, hq, e⟩ := open_mg hmc
  rw [e]
  by_cases h200 : 200 < ys.length
  · exact cLlcBack_long s hs q hq v1 ys hy h200
  have h200' : ys.length ≤ 200 := by omega
  by_cases h0 : q.kd = 0
  · by_cases ho : toV q.a < toV q.m
    · exact cLlcBack_c s hs q hq v1 ys hy h200' h0 ho
    · exact cLlcBack_old s hs q hq v1 ys hy h200' h0 ho
  by_cases h1 : q.kd = 1
  · exact cLlcBack_t s hs q hq v1 ys hy h200' h1
  by_cases h2 : q.kd = 2
  · exact cLlcBack_r s hs q hq v1 ys hy h200' h2
  by_cases hn : q.kd < 0
  · exact cLlcBack_n s hs q hq v1 ys hy h200' hn
  · exact cLlcBack_g s hs q hq v1 ys hy h200' (by omega)

end Go.Proofs.Ytdfaagchlnkpnaa
