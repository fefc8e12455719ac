/- The walk of LlcSizes. No statement is proved here. -/
import Derived.Test.YtdfaagchlnkpnaaLlJ
namespace Go.Proofs.Ytdfaagchlnkpnaa
open Go.RowKit Go.BigFrame Go.WideShapes Go.ChangeShapes Go.Deep
set_option linter.unusedVariables false
set_option linter.unusedSimpArgs false

set_option maxRecDepth 100000 in
set_option maxHeartbeats 2000000 in
theorem cLlcSizes_lo {w : World} (s : Int) (hs : 0 ≤ s ∧ s < 18446744073709551616) (q : Mg) (hq : q.ok) (v : Int) (hv : 0 ≤ v ∧ v < 256) (h1 : v < 3) : Calls Try.prog 11 #[.int .u64 s, .agg #[.int .i64 q.kd, .bool q.ch, .bool q.ak, .bool q.pr, .bool q.ag, .bool q.ln, .bool q.fw, .int .i64 q.ro, .int .u64 q.r, .int .u32 q.c, .int .u64 q.b, .int .u16 q.p, .int .u16 q.x, .int .i64 q.a, .int .i64 q.m, .int .i64 q.h, .int .i64 q.d], .int .u8 v] w fun e w' => e = .returned (.bool true) ∧ Ext w w' := by
  have hq2 : Mg.ok { q with kd := 2 } := ok_kd q hq 2 (by decide)
  have hw : ∀ w : World, Calls Try.prog 23 #[.int .u64 s, .agg #[.int .i64 2, .bool q.ch, .bool q.ak, .bool q.pr, .bool q.ag, .bool q.ln, .bool q.fw, .int .i64 q.ro, .int .u64 q.r, .int .u32 q.c, .int .u64 q.b, .int .u16 q.p, .int .u16 q.x, .int .i64 q.a, .int .i64 q.m, .int .i64 q.h, .int .i64 q.d]] w (Owned w (wrapL s { q with kd := 2 })) := fun w => wrap_any s hs { q with kd := 2 } hq2 (.inr (.inr rfl)) w
  have hfl := wrapL_len s { q with kd := 2 } (.inr (.inr rfl))
  have hfb := wrapL_bytes s { q with kd := 2 } (.inr (.inr rfl))
  have hfo := open_wrap s { q with kd := 2 } hq2 (.inr (.inr rfl)) []
  have hf13 := open_set13 s { q with kd := 2 } hq2 rfl v hv
  rw [List.append_nil, if_neg (fun h => absurd (show (2 : Int) = 0 from h.1) (by decide))] at hfo
  have hpo := plain_ok { q with kd := 2 } hq2
  obtain ⟨pq, hpq⟩ : ∃ p, plainM { q with kd := 2 } = p := ⟨_, rfl⟩
  obtain ⟨fr, hfr⟩ : ∃ f, wrapL s { q with kd := 2 } = f := ⟨_, rfl⟩
  rw [hfr] at hfl hfb hfo hf13
  rw [hpq] at hpo hfo hf13
  simp only [hfr] at hw
  clear hfr hpq
  rw [if_pos (by omega)] at hf13
  have v1 : decide (v < 3) = true := by simpa using h1
  have heq := eq_mz
  have heqp := eq_msg pq hpo
  clear hpo
  have HL := Lib.hid hfl
  have HB := Lib.hid hfb
  have HO := Lib.hid hfo
  have HS := Lib.hid hf13
  have HV := Lib.hid hv
  clear hfl hfb hfo hf13 h1 hv hq2 hq
  have hz := zero_msg
  have ho1 : ∀ z vv, IsInts z .u8 vv fr → Calls Try.prog 25 #[vv] z (fun e w' => e = .returned (.tuple #[.int .u64 (low48 s), .agg #[.int .i64 pq.kd, .bool pq.ch, .bool pq.ak, .bool pq.pr, .bool pq.ag, .bool pq.ln, .bool pq.fw, .int .i64 pq.ro, .int .u64 pq.r, .int .u32 pq.c, .int .u64 pq.b, .int .u16 pq.p, .int .u16 pq.x, .int .i64 pq.a, .int .i64 pq.m, .int .i64 pq.h, .int .i64 pq.d], .int .i64 0]) ∧ Ext z w') := fun z vv hi => by
    have := open_any vv fr z hi HB.out (by have := HL.out; omega)
    rw [HO.out] at this
    exact this
  have ho2 : ∀ z vv, IsInts z .u8 vv (fr.set 13 v) → Calls Try.prog 25 #[vv] z (fun e w' => e = .returned (.tuple #[.int .u64 0, .agg #[.int .i64 0, .bool false, .bool false, .bool false, .bool false, .bool false, .bool false, .int .i64 0, .int .u64 0, .int .u32 0, .int .u64 0, .int .u16 0, .int .u16 0, .int .i64 0, .int .i64 0, .int .i64 0, .int .i64 0], .int .i64 3]) ∧ Ext z w') := fun z vv hi => by
    have := open_any vv (fr.set 13 v) z hi (fun x hx => (List.mem_or_eq_of_mem_set hx).elim (HB.out x) (fun e => e ▸ HV.out)) (by have := HL.out; simp; omega)
    rw [HS.out] at this
    exact this
  go_enter Try.func11, Try.ntmps11
  go_wp2_with fail
  have hA_w0 : (w.alloc (.cells #[.int .i64 q.kd, .bool q.ch, .bool q.ak, .bool q.pr, .bool q.ag, .bool q.ln, .bool q.fw, .int .i64 q.ro, .int .u64 q.r, .int .u32 q.c, .int .u64 q.b, .int .u16 q.p, .int .u16 q.x, .int .i64 q.a, .int .i64 q.m, .int .i64 q.h, .int .i64 q.d] 30)).heap[w.heap.size]? = some (.cells #[.int .i64 q.kd, .bool q.ch, .bool q.ak, .bool q.pr, .bool q.ag, .bool q.ln, .bool q.fw, .int .i64 q.ro, .int .u64 q.r, .int .u32 q.c, .int .u64 q.b, .int .u16 q.p, .int .u16 q.x, .int .i64 q.a, .int .i64 q.m, .int .i64 q.h, .int .i64 q.d] 30 (0, 0)) := heap_alloc_new _ _
  have hE_w0 : Ext w (w.alloc (.cells #[.int .i64 q.kd, .bool q.ch, .bool q.ak, .bool q.pr, .bool q.ag, .bool q.ln, .bool q.fw, .int .i64 q.ro, .int .u64 q.r, .int .u32 q.c, .int .u64 q.b, .int .u16 q.p, .int .u16 q.x, .int .i64 q.a, .int .i64 q.m, .int .i64 q.h, .int .i64 q.d] 30)) := (Ext.refl _).alloc _
  generalize w.alloc (.cells #[.int .i64 q.kd, .bool q.ch, .bool q.ak, .bool q.pr, .bool q.ag, .bool q.ln, .bool q.fw, .int .i64 q.ro, .int .u64 q.r, .int .u32 q.c, .int .u64 q.b, .int .u16 q.p, .int .u16 q.x, .int .i64 q.a, .int .i64 q.m, .int .i64 q.h, .int .i64 q.d] 30) = w0 at *
  obtain ⟨A0, hA0⟩ : ∃ n, w.heap.size = n := ⟨_, rfl⟩
  rw [hA0] at hA_w0 ⊢
  have hb_A0 : w.heap.size ≤ A0 := by omega
  refine (awake6 _).mono ?_
  rintro e z1 ⟨rfl, hx⟩
  have E_z1 : Ext w z1 := hE_w0.trans hx
  have hA_z1 : z1.heap[A0]? = some (.cells #[.int .i64 q.kd, .bool q.ch, .bool q.ak, .bool q.pr, .bool q.ag, .bool q.ln, .bool q.fw, .int .i64 q.ro, .int .u64 q.r, .int .u32 q.c, .int .u64 q.b, .int .u16 q.p, .int .u16 q.x, .int .i64 q.a, .int .i64 q.m, .int .i64 q.h, .int .i64 q.d] 30 (0, 0)) := (hx.block _ (heap_lt hA_w0)).trans hA_w0
  clear hA_w0 hE_w0
  clear hx
  go_wp2_with (first
    | fail
    | ((with_reducible refine at_store 3 ?_); refine st_at rfl rfl 3 _ _ rfl A0 0 _ #[.int .i64 2] _ #[.int .i64 2, .bool q.ch, .bool q.ak, .bool q.pr, .bool q.ag, .bool q.ln, .bool q.fw, .int .i64 q.ro, .int .u64 q.r, .int .u32 q.c, .int .u64 q.b, .int .u16 q.p, .int .u16 q.x, .int .i64 q.a, .int .i64 q.m, .int .i64 q.h, .int .i64 q.d] _ rfl rfl rfl hA_z1 (by exact (by decide : 0 + 1 ≤ 17)) (by kernel_rfl) rfl rfl ?_
       intro z2 hq hm
       have hA_z2 : z2.heap[A0]? = some (.cells #[.int .i64 2, .bool q.ch, .bool q.ak, .bool q.pr, .bool q.ag, .bool q.ln, .bool q.fw, .int .i64 q.ro, .int .u64 q.r, .int .u32 q.c, .int .u64 q.b, .int .u16 q.p, .int .u16 q.x, .int .i64 q.a, .int .i64 q.m, .int .i64 q.h, .int .i64 q.d] 30 (0, 0)) := hq
       have E_z2 : Ext w z2 := Ext.mutE E_z1 hm (fun n hn h => by have h2 : n = A0 := h; omega)
       clear hA_z1 E_z1
       clear hq hm)
    | ((with_reducible refine at_load 30 ?_); refine wpList_load_row rfl 30 _ rfl A0 rfl 30 #[.int .i64 2, .bool q.ch, .bool q.ak, .bool q.pr, .bool q.ag, .bool q.ln, .bool q.fw, .int .i64 q.ro, .int .u64 q.r, .int .u32 q.c, .int .u64 q.b, .int .u16 q.p, .int .u16 q.x, .int .i64 q.a, .int .i64 q.m, .int .i64 q.h, .int .i64 q.d] (0, 0) _ hA_z2 Try.underlying30 rfl (by kernel_rfl) ?_))
  refine (hw _).mono ?_
  rintro e z3 ⟨vb, rfl, hown, hx⟩
  have E_z3 : Ext w z3 := E_z2.trans hx
  have hA_z3 : z3.heap[A0]? = some (.cells #[.int .i64 2, .bool q.ch, .bool q.ak, .bool q.pr, .bool q.ag, .bool q.ln, .bool q.fw, .int .i64 q.ro, .int .u64 q.r, .int .u32 q.c, .int .u64 q.b, .int .u16 q.p, .int .u16 q.x, .int .i64 q.a, .int .i64 q.m, .int .i64 q.h, .int .i64 q.d] 30 (0, 0)) := (hx.block _ (heap_lt hA_z2)).trans hA_z2
  have hi_z3 := isBytes_own hown
  clear hown
  clear hA_z2 E_z2
  clear hx
  obtain ⟨av, cv, hvv, -, -⟩ := hi_z3.form
  rw [HL.out] at hvv
  subst hvv
  go_wp2_with (first
    | fail
    | (at_builtin; refine wpList_app rfl _ _ rfl z3 ((Ext.refl z3).alloc _) _ _ ([]) (fr) rfl rfl (own0 z3) (hi_z3.ext ((Ext.refl z3).alloc _)) (by have := HL.out; simp; omega) ?_
       intro vp1 z4 hown_z4 hE_z4 hg_z4
       have hO_z4 : z4.ownsRow z3.heap.size 5 1 vp1 (fr).length ((fr).map (Value.int .u8)) := by simpa using hown_z4
       clear hown_z4 hg_z4
       rw [HL.out] at hO_z4
       obtain ⟨g1, cap1, hv1, hg1a, hg1b, hg1c, hg1d⟩ := own_some hO_z4 (by decide)
       subst hv1)
    | ((with_reducible refine at_store 5 ?_); refine wpList_own_byte rfl rfl _ _ rfl z3 hE_z4 g1 60 cap1 13 fr v rfl rfl hO_z4 (by decide) ?_
       intro z5 hown2 hx
       have hA_z5 : z5.heap[A0]? = some (.cells #[.int .i64 2, .bool q.ch, .bool q.ak, .bool q.pr, .bool q.ag, .bool q.ln, .bool q.fw, .int .i64 q.ro, .int .u64 q.r, .int .u32 q.c, .int .u64 q.b, .int .u16 q.p, .int .u16 q.x, .int .i64 q.a, .int .i64 q.m, .int .i64 q.h, .int .i64 q.d] 30 (0, 0)) := (hx.block _ (heap_lt hA_z3)).trans hA_z3
       have hi_z5 : IsInts z5 .u8 (.slice av 60 cv) fr := hi_z3.ext hx
       have E_z5 : Ext w z5 := E_z3.trans hx
       have hc_z5 : IsInts z5 .u8 (.slice (some ⟨g1, 0, none⟩) 60 cap1) (fr.set 13 v) := by
         have h3 : z5.ownsRow z3.heap.size 5 1 (.slice (some ⟨g1, 0, none⟩) 60 cap1) (fr.set 13 v).length ((fr.set 13 v).map (Value.int .u8)) := by rw [List.length_set, HL.out]; exact hown2
         exact isBytes_own h3
       clear hA_z3 hi_z3 E_z3
       clear hown2 hx hO_z4 hE_z4 hg1a hg1b))
  refine (ho1 _ _ hi_z5).mono ?_
  rintro e z6 ⟨rfl, hx⟩
  have E_z6 : Ext w z6 := E_z5.trans hx
  have hA_z6 : z6.heap[A0]? = some (.cells #[.int .i64 2, .bool q.ch, .bool q.ak, .bool q.pr, .bool q.ag, .bool q.ln, .bool q.fw, .int .i64 q.ro, .int .u64 q.r, .int .u32 q.c, .int .u64 q.b, .int .u16 q.p, .int .u16 q.x, .int .i64 q.a, .int .i64 q.m, .int .i64 q.h, .int .i64 q.d] 30 (0, 0)) := (hx.block _ (heap_lt hA_z5)).trans hA_z5
  have hi_z6 : IsInts z6 .u8 (.slice av 60 cv) fr := hi_z5.ext hx
  have hc_z6 : IsInts z6 .u8 (.slice (some ⟨g1, 0, none⟩) 60 cap1) (fr.set 13 v) := hc_z5.ext hx
  clear hA_z5 hi_z5 hc_z5 E_z5
  clear hx
  go_wp2_with (first
    | fail
    | ((with_reducible refine at_alloc 30 ?_); refine al_zero rfl 30 rfl MZ zero_msg ?_
       intro X0 z7 hq hs hx
       have E_z7 : Ext w z7 := E_z6.trans hx
       have hA_z7 : z7.heap[A0]? = some (.cells #[.int .i64 2, .bool q.ch, .bool q.ak, .bool q.pr, .bool q.ag, .bool q.ln, .bool q.fw, .int .i64 q.ro, .int .u64 q.r, .int .u32 q.c, .int .u64 q.b, .int .u16 q.p, .int .u16 q.x, .int .i64 q.a, .int .i64 q.m, .int .i64 q.h, .int .i64 q.d] 30 (0, 0)) := (hx.block _ (heap_lt hA_z6)).trans hA_z6
       have hi_z7 : IsInts z7 .u8 (.slice av 60 cv) fr := hi_z6.ext hx
       have hc_z7 : IsInts z7 .u8 (.slice (some ⟨g1, 0, none⟩) 60 cap1) (fr.set 13 v) := hc_z6.ext hx
       have hX_z7 : z7.heap[X0]? = some (.cells #[.int .i64 0, .bool false, .bool false, .bool false, .bool false, .bool false, .bool false, .int .i64 0, .int .u64 0, .int .u32 0, .int .u64 0, .int .u16 0, .int .u16 0, .int .i64 0, .int .i64 0, .int .i64 0, .int .i64 0] 30 (0, 0)) := hq
       have hb_X0 : w.heap.size ≤ X0 := by have := E_z6.size; omega
       have hn_A0X0 : A0 ≠ X0 := by have := heap_lt hA_z6; omega
       clear hA_z6 hi_z6 hc_z6 E_z6
       clear hq hs hx)
    | ((with_reducible refine at_store 30 ?_); refine st_at rfl rfl 30 _ _ rfl X0 0 _ #[.int .i64 pq.kd, .bool pq.ch, .bool pq.ak, .bool pq.pr, .bool pq.ag, .bool pq.ln, .bool pq.fw, .int .i64 pq.ro, .int .u64 pq.r, .int .u32 pq.c, .int .u64 pq.b, .int .u16 pq.p, .int .u16 pq.x, .int .i64 pq.a, .int .i64 pq.m, .int .i64 pq.h, .int .i64 pq.d] _ #[.int .i64 pq.kd, .bool pq.ch, .bool pq.ak, .bool pq.pr, .bool pq.ag, .bool pq.ln, .bool pq.fw, .int .i64 pq.ro, .int .u64 pq.r, .int .u32 pq.c, .int .u64 pq.b, .int .u16 pq.p, .int .u16 pq.x, .int .i64 pq.a, .int .i64 pq.m, .int .i64 pq.h, .int .i64 pq.d] _ rfl rfl rfl hX_z7 (by exact (by decide : 0 + 17 ≤ 17)) (by kernel_rfl) rfl rfl ?_
       intro z8 hq hm
       have hX_z8 : z8.heap[X0]? = some (.cells #[.int .i64 pq.kd, .bool pq.ch, .bool pq.ak, .bool pq.pr, .bool pq.ag, .bool pq.ln, .bool pq.fw, .int .i64 pq.ro, .int .u64 pq.r, .int .u32 pq.c, .int .u64 pq.b, .int .u16 pq.p, .int .u16 pq.x, .int .i64 pq.a, .int .i64 pq.m, .int .i64 pq.h, .int .i64 pq.d] 30 (0, 0)) := hq
       have hA_z8 : z8.heap[A0]? = some (.cells #[.int .i64 2, .bool q.ch, .bool q.ak, .bool q.pr, .bool q.ag, .bool q.ln, .bool q.fw, .int .i64 q.ro, .int .u64 q.r, .int .u32 q.c, .int .u64 q.b, .int .u16 q.p, .int .u16 q.x, .int .i64 q.a, .int .i64 q.m, .int .i64 q.h, .int .i64 q.d] 30 (0, 0)) := (hm.heap (heap_lt hA_z7) (show ¬ A0 = X0 by omega)).trans hA_z7
       have E_z8 : Ext w z8 := Ext.mutE E_z7 hm (fun n hn h => by have h2 : n = X0 := h; omega)
       have hi_z8 : IsInts z8 .u8 (.slice av 60 cv) fr := ints_far hi_z7 hX_z7 rfl hm
       have hc_z8 : IsInts z8 .u8 (.slice (some ⟨g1, 0, none⟩) 60 cap1) (fr.set 13 v) := ints_far hc_z7 hX_z7 rfl hm
       clear hA_z7 hX_z7 hi_z7 hc_z7 E_z7
       clear hq hm))
  refine (ho2 _ _ hc_z8).mono ?_
  rintro e z9 ⟨rfl, hx⟩
  have E_z9 : Ext w z9 := E_z8.trans hx
  have hA_z9 : z9.heap[A0]? = some (.cells #[.int .i64 2, .bool q.ch, .bool q.ak, .bool q.pr, .bool q.ag, .bool q.ln, .bool q.fw, .int .i64 q.ro, .int .u64 q.r, .int .u32 q.c, .int .u64 q.b, .int .u16 q.p, .int .u16 q.x, .int .i64 q.a, .int .i64 q.m, .int .i64 q.h, .int .i64 q.d] 30 (0, 0)) := (hx.block _ (heap_lt hA_z8)).trans hA_z8
  have hX_z9 : z9.heap[X0]? = some (.cells #[.int .i64 pq.kd, .bool pq.ch, .bool pq.ak, .bool pq.pr, .bool pq.ag, .bool pq.ln, .bool pq.fw, .int .i64 pq.ro, .int .u64 pq.r, .int .u32 pq.c, .int .u64 pq.b, .int .u16 pq.p, .int .u16 pq.x, .int .i64 pq.a, .int .i64 pq.m, .int .i64 pq.h, .int .i64 pq.d] 30 (0, 0)) := (hx.block _ (heap_lt hX_z8)).trans hX_z8
  have hi_z9 : IsInts z9 .u8 (.slice av 60 cv) fr := hi_z8.ext hx
  have hc_z9 : IsInts z9 .u8 (.slice (some ⟨g1, 0, none⟩) 60 cap1) (fr.set 13 v) := hc_z8.ext hx
  clear hA_z8 hX_z8 hi_z8 hc_z8 E_z8
  clear hx
  go_wp2_with (first
    | fail
    | ((with_reducible refine at_alloc 30 ?_); refine al_zero rfl 30 rfl MZ zero_msg ?_
       intro Y0 z10 hq hs hx
       have E_z10 : Ext w z10 := E_z9.trans hx
       have hA_z10 : z10.heap[A0]? = some (.cells #[.int .i64 2, .bool q.ch, .bool q.ak, .bool q.pr, .bool q.ag, .bool q.ln, .bool q.fw, .int .i64 q.ro, .int .u64 q.r, .int .u32 q.c, .int .u64 q.b, .int .u16 q.p, .int .u16 q.x, .int .i64 q.a, .int .i64 q.m, .int .i64 q.h, .int .i64 q.d] 30 (0, 0)) := (hx.block _ (heap_lt hA_z9)).trans hA_z9
       have hX_z10 : z10.heap[X0]? = some (.cells #[.int .i64 pq.kd, .bool pq.ch, .bool pq.ak, .bool pq.pr, .bool pq.ag, .bool pq.ln, .bool pq.fw, .int .i64 pq.ro, .int .u64 pq.r, .int .u32 pq.c, .int .u64 pq.b, .int .u16 pq.p, .int .u16 pq.x, .int .i64 pq.a, .int .i64 pq.m, .int .i64 pq.h, .int .i64 pq.d] 30 (0, 0)) := (hx.block _ (heap_lt hX_z9)).trans hX_z9
       have hY_z10 : z10.heap[Y0]? = some (.cells #[.int .i64 0, .bool false, .bool false, .bool false, .bool false, .bool false, .bool false, .int .i64 0, .int .u64 0, .int .u32 0, .int .u64 0, .int .u16 0, .int .u16 0, .int .i64 0, .int .i64 0, .int .i64 0, .int .i64 0] 30 (0, 0)) := hq
       have hb_Y0 : w.heap.size ≤ Y0 := by have := E_z9.size; omega
       have hn_A0Y0 : A0 ≠ Y0 := by have := heap_lt hA_z9; omega
       have hn_X0Y0 : X0 ≠ Y0 := by have := heap_lt hX_z9; omega
       clear hA_z9 hX_z9 E_z9
       clear hq hs hx)
    | ((with_reducible refine at_store 30 ?_); refine st_at rfl rfl 30 _ _ rfl Y0 0 _ #[.int .i64 0, .bool false, .bool false, .bool false, .bool false, .bool false, .bool false, .int .i64 0, .int .u64 0, .int .u32 0, .int .u64 0, .int .u16 0, .int .u16 0, .int .i64 0, .int .i64 0, .int .i64 0, .int .i64 0] _ #[.int .i64 0, .bool false, .bool false, .bool false, .bool false, .bool false, .bool false, .int .i64 0, .int .u64 0, .int .u32 0, .int .u64 0, .int .u16 0, .int .u16 0, .int .i64 0, .int .i64 0, .int .i64 0, .int .i64 0] _ rfl rfl rfl hY_z10 (by exact (by decide : 0 + 17 ≤ 17)) (by kernel_rfl) rfl rfl ?_
       intro z11 hq hm
       have hY_z11 : z11.heap[Y0]? = some (.cells #[.int .i64 0, .bool false, .bool false, .bool false, .bool false, .bool false, .bool false, .int .i64 0, .int .u64 0, .int .u32 0, .int .u64 0, .int .u16 0, .int .u16 0, .int .i64 0, .int .i64 0, .int .i64 0, .int .i64 0] 30 (0, 0)) := hq
       have hA_z11 : z11.heap[A0]? = some (.cells #[.int .i64 2, .bool q.ch, .bool q.ak, .bool q.pr, .bool q.ag, .bool q.ln, .bool q.fw, .int .i64 q.ro, .int .u64 q.r, .int .u32 q.c, .int .u64 q.b, .int .u16 q.p, .int .u16 q.x, .int .i64 q.a, .int .i64 q.m, .int .i64 q.h, .int .i64 q.d] 30 (0, 0)) := (hm.heap (heap_lt hA_z10) (show ¬ A0 = Y0 by omega)).trans hA_z10
       have hX_z11 : z11.heap[X0]? = some (.cells #[.int .i64 pq.kd, .bool pq.ch, .bool pq.ak, .bool pq.pr, .bool pq.ag, .bool pq.ln, .bool pq.fw, .int .i64 pq.ro, .int .u64 pq.r, .int .u32 pq.c, .int .u64 pq.b, .int .u16 pq.p, .int .u16 pq.x, .int .i64 pq.a, .int .i64 pq.m, .int .i64 pq.h, .int .i64 pq.d] 30 (0, 0)) := (hm.heap (heap_lt hX_z10) (show ¬ X0 = Y0 by omega)).trans hX_z10
       have E_z11 : Ext w z11 := Ext.mutE E_z10 hm (fun n hn h => by have h2 : n = Y0 := h; omega)
       clear hA_z10 hX_z10 hY_z10 E_z10
       clear hq hm)
    | ((with_reducible refine at_loadG 30 ?_); refine wpList_load_rowG rfl 30 _ rfl Y0 rfl 30 #[.int .i64 0, .bool false, .bool false, .bool false, .bool false, .bool false, .bool false, .int .i64 0, .int .u64 0, .int .u32 0, .int .u64 0, .int .u16 0, .int .u16 0, .int .i64 0, .int .i64 0, .int .i64 0, .int .i64 0] (0, 0) _ hY_z11 Try.underlying30 rfl (by kernel_rfl) ?_))
  all_goals
    go_ret
    exact ⟨rfl, E_z11⟩
set_option maxRecDepth 100000 in
set_option maxHeartbeats 2000000 in
theorem cLlcSizes_hi {w : World} (s : Int) (hs : 0 ≤ s ∧ s < 18446744073709551616) (q : Mg) (hq : q.ok) (v : Int) (hv : 0 ≤ v ∧ v < 256) (h1 : 46 < v) : Calls Try.prog 11 #[.int .u64 s, .agg #[.int .i64 q.kd, .bool q.ch, .bool q.ak, .bool q.pr, .bool q.ag, .bool q.ln, .bool q.fw, .int .i64 q.ro, .int .u64 q.r, .int .u32 q.c, .int .u64 q.b, .int .u16 q.p, .int .u16 q.x, .int .i64 q.a, .int .i64 q.m, .int .i64 q.h, .int .i64 q.d], .int .u8 v] w fun e w' => e = .returned (.bool true) ∧ Ext w w' := by
  have hq2 : Mg.ok { q with kd := 2 } := ok_kd q hq 2 (by decide)
  have hw : ∀ w : World, Calls Try.prog 23 #[.int .u64 s, .agg #[.int .i64 2, .bool q.ch, .bool q.ak, .bool q.pr, .bool q.ag, .bool q.ln, .bool q.fw, .int .i64 q.ro, .int .u64 q.r, .int .u32 q.c, .int .u64 q.b, .int .u16 q.p, .int .u16 q.x, .int .i64 q.a, .int .i64 q.m, .int .i64 q.h, .int .i64 q.d]] w (Owned w (wrapL s { q with kd := 2 })) := fun w => wrap_any s hs { q with kd := 2 } hq2 (.inr (.inr rfl)) w
  have hfl := wrapL_len s { q with kd := 2 } (.inr (.inr rfl))
  have hfb := wrapL_bytes s { q with kd := 2 } (.inr (.inr rfl))
  have hfo := open_wrap s { q with kd := 2 } hq2 (.inr (.inr rfl)) []
  have hf13 := open_set13 s { q with kd := 2 } hq2 rfl v hv
  rw [List.append_nil, if_neg (fun h => absurd (show (2 : Int) = 0 from h.1) (by decide))] at hfo
  have hpo := plain_ok { q with kd := 2 } hq2
  obtain ⟨pq, hpq⟩ : ∃ p, plainM { q with kd := 2 } = p := ⟨_, rfl⟩
  obtain ⟨fr, hfr⟩ : ∃ f, wrapL s { q with kd := 2 } = f := ⟨_, rfl⟩
  rw [hfr] at hfl hfb hfo hf13
  rw [hpq] at hpo hfo hf13
  simp only [hfr] at hw
  clear hfr hpq
  rw [if_pos (by omega)] at hf13
  have v1 : decide (v < 3) = false := by simp; omega
  have v2 : decide (46 < v) = true := by simpa using h1
  have heq := eq_mz
  have heqp := eq_msg pq hpo
  clear hpo
  have HL := Lib.hid hfl
  have HB := Lib.hid hfb
  have HO := Lib.hid hfo
  have HS := Lib.hid hf13
  have HV := Lib.hid hv
  clear hfl hfb hfo hf13 h1 hv hq2 hq
  have hz := zero_msg
  have ho1 : ∀ z vv, IsInts z .u8 vv fr → Calls Try.prog 25 #[vv] z (fun e w' => e = .returned (.tuple #[.int .u64 (low48 s), .agg #[.int .i64 pq.kd, .bool pq.ch, .bool pq.ak, .bool pq.pr, .bool pq.ag, .bool pq.ln, .bool pq.fw, .int .i64 pq.ro, .int .u64 pq.r, .int .u32 pq.c, .int .u64 pq.b, .int .u16 pq.p, .int .u16 pq.x, .int .i64 pq.a, .int .i64 pq.m, .int .i64 pq.h, .int .i64 pq.d], .int .i64 0]) ∧ Ext z w') := fun z vv hi => by
    have := open_any vv fr z hi HB.out (by have := HL.out; omega)
    rw [HO.out] at this
    exact this
  have ho2 : ∀ z vv, IsInts z .u8 vv (fr.set 13 v) → Calls Try.prog 25 #[vv] z (fun e w' => e = .returned (.tuple #[.int .u64 0, .agg #[.int .i64 0, .bool false, .bool false, .bool false, .bool false, .bool false, .bool false, .int .i64 0, .int .u64 0, .int .u32 0, .int .u64 0, .int .u16 0, .int .u16 0, .int .i64 0, .int .i64 0, .int .i64 0, .int .i64 0], .int .i64 3]) ∧ Ext z w') := fun z vv hi => by
    have := open_any vv (fr.set 13 v) z hi (fun x hx => (List.mem_or_eq_of_mem_set hx).elim (HB.out x) (fun e => e ▸ HV.out)) (by have := HL.out; simp; omega)
    rw [HS.out] at this
    exact this
  go_enter Try.func11, Try.ntmps11
  go_wp2_with fail
  have hA_w0 : (w.alloc (.cells #[.int .i64 q.kd, .bool q.ch, .bool q.ak, .bool q.pr, .bool q.ag, .bool q.ln, .bool q.fw, .int .i64 q.ro, .int .u64 q.r, .int .u32 q.c, .int .u64 q.b, .int .u16 q.p, .int .u16 q.x, .int .i64 q.a, .int .i64 q.m, .int .i64 q.h, .int .i64 q.d] 30)).heap[w.heap.size]? = some (.cells #[.int .i64 q.kd, .bool q.ch, .bool q.ak, .bool q.pr, .bool q.ag, .bool q.ln, .bool q.fw, .int .i64 q.ro, .int .u64 q.r, .int .u32 q.c, .int .u64 q.b, .int .u16 q.p, .int .u16 q.x, .int .i64 q.a, .int .i64 q.m, .int .i64 q.h, .int .i64 q.d] 30 (0, 0)) := heap_alloc_new _ _
  have hE_w0 : Ext w (w.alloc (.cells #[.int .i64 q.kd, .bool q.ch, .bool q.ak, .bool q.pr, .bool q.ag, .bool q.ln, .bool q.fw, .int .i64 q.ro, .int .u64 q.r, .int .u32 q.c, .int .u64 q.b, .int .u16 q.p, .int .u16 q.x, .int .i64 q.a, .int .i64 q.m, .int .i64 q.h, .int .i64 q.d] 30)) := (Ext.refl _).alloc _
  generalize w.alloc (.cells #[.int .i64 q.kd, .bool q.ch, .bool q.ak, .bool q.pr, .bool q.ag, .bool q.ln, .bool q.fw, .int .i64 q.ro, .int .u64 q.r, .int .u32 q.c, .int .u64 q.b, .int .u16 q.p, .int .u16 q.x, .int .i64 q.a, .int .i64 q.m, .int .i64 q.h, .int .i64 q.d] 30) = w0 at *
  obtain ⟨A0, hA0⟩ : ∃ n, w.heap.size = n := ⟨_, rfl⟩
  rw [hA0] at hA_w0 ⊢
  have hb_A0 : w.heap.size ≤ A0 := by omega
  refine (awake6 _).mono ?_
  rintro e z1 ⟨rfl, hx⟩
  have E_z1 : Ext w z1 := hE_w0.trans hx
  have hA_z1 : z1.heap[A0]? = some (.cells #[.int .i64 q.kd, .bool q.ch, .bool q.ak, .bool q.pr, .bool q.ag, .bool q.ln, .bool q.fw, .int .i64 q.ro, .int .u64 q.r, .int .u32 q.c, .int .u64 q.b, .int .u16 q.p, .int .u16 q.x, .int .i64 q.a, .int .i64 q.m, .int .i64 q.h, .int .i64 q.d] 30 (0, 0)) := (hx.block _ (heap_lt hA_w0)).trans hA_w0
  clear hA_w0 hE_w0
  clear hx
  go_wp2_with (first
    | fail
    | ((with_reducible refine at_store 3 ?_); refine st_at rfl rfl 3 _ _ rfl A0 0 _ #[.int .i64 2] _ #[.int .i64 2, .bool q.ch, .bool q.ak, .bool q.pr, .bool q.ag, .bool q.ln, .bool q.fw, .int .i64 q.ro, .int .u64 q.r, .int .u32 q.c, .int .u64 q.b, .int .u16 q.p, .int .u16 q.x, .int .i64 q.a, .int .i64 q.m, .int .i64 q.h, .int .i64 q.d] _ rfl rfl rfl hA_z1 (by exact (by decide : 0 + 1 ≤ 17)) (by kernel_rfl) rfl rfl ?_
       intro z2 hq hm
       have hA_z2 : z2.heap[A0]? = some (.cells #[.int .i64 2, .bool q.ch, .bool q.ak, .bool q.pr, .bool q.ag, .bool q.ln, .bool q.fw, .int .i64 q.ro, .int .u64 q.r, .int .u32 q.c, .int .u64 q.b, .int .u16 q.p, .int .u16 q.x, .int .i64 q.a, .int .i64 q.m, .int .i64 q.h, .int .i64 q.d] 30 (0, 0)) := hq
       have E_z2 : Ext w z2 := Ext.mutE E_z1 hm (fun n hn h => by have h2 : n = A0 := h; omega)
       clear hA_z1 E_z1
       clear hq hm)
    | ((with_reducible refine at_load 30 ?_); refine wpList_load_row rfl 30 _ rfl A0 rfl 30 #[.int .i64 2, .bool q.ch, .bool q.ak, .bool q.pr, .bool q.ag, .bool q.ln, .bool q.fw, .int .i64 q.ro, .int .u64 q.r, .int .u32 q.c, .int .u64 q.b, .int .u16 q.p, .int .u16 q.x, .int .i64 q.a, .int .i64 q.m, .int .i64 q.h, .int .i64 q.d] (0, 0) _ hA_z2 Try.underlying30 rfl (by kernel_rfl) ?_))
  refine (hw _).mono ?_
  rintro e z3 ⟨vb, rfl, hown, hx⟩
  have E_z3 : Ext w z3 := E_z2.trans hx
  have hA_z3 : z3.heap[A0]? = some (.cells #[.int .i64 2, .bool q.ch, .bool q.ak, .bool q.pr, .bool q.ag, .bool q.ln, .bool q.fw, .int .i64 q.ro, .int .u64 q.r, .int .u32 q.c, .int .u64 q.b, .int .u16 q.p, .int .u16 q.x, .int .i64 q.a, .int .i64 q.m, .int .i64 q.h, .int .i64 q.d] 30 (0, 0)) := (hx.block _ (heap_lt hA_z2)).trans hA_z2
  have hi_z3 := isBytes_own hown
  clear hown
  clear hA_z2 E_z2
  clear hx
  obtain ⟨av, cv, hvv, -, -⟩ := hi_z3.form
  rw [HL.out] at hvv
  subst hvv
  go_wp2_with (first
    | fail
    | (at_builtin; refine wpList_app rfl _ _ rfl z3 ((Ext.refl z3).alloc _) _ _ ([]) (fr) rfl rfl (own0 z3) (hi_z3.ext ((Ext.refl z3).alloc _)) (by have := HL.out; simp; omega) ?_
       intro vp1 z4 hown_z4 hE_z4 hg_z4
       have hO_z4 : z4.ownsRow z3.heap.size 5 1 vp1 (fr).length ((fr).map (Value.int .u8)) := by simpa using hown_z4
       clear hown_z4 hg_z4
       rw [HL.out] at hO_z4
       obtain ⟨g1, cap1, hv1, hg1a, hg1b, hg1c, hg1d⟩ := own_some hO_z4 (by decide)
       subst hv1)
    | ((with_reducible refine at_store 5 ?_); refine wpList_own_byte rfl rfl _ _ rfl z3 hE_z4 g1 60 cap1 13 fr v rfl rfl hO_z4 (by decide) ?_
       intro z5 hown2 hx
       have hA_z5 : z5.heap[A0]? = some (.cells #[.int .i64 2, .bool q.ch, .bool q.ak, .bool q.pr, .bool q.ag, .bool q.ln, .bool q.fw, .int .i64 q.ro, .int .u64 q.r, .int .u32 q.c, .int .u64 q.b, .int .u16 q.p, .int .u16 q.x, .int .i64 q.a, .int .i64 q.m, .int .i64 q.h, .int .i64 q.d] 30 (0, 0)) := (hx.block _ (heap_lt hA_z3)).trans hA_z3
       have hi_z5 : IsInts z5 .u8 (.slice av 60 cv) fr := hi_z3.ext hx
       have E_z5 : Ext w z5 := E_z3.trans hx
       have hc_z5 : IsInts z5 .u8 (.slice (some ⟨g1, 0, none⟩) 60 cap1) (fr.set 13 v) := by
         have h3 : z5.ownsRow z3.heap.size 5 1 (.slice (some ⟨g1, 0, none⟩) 60 cap1) (fr.set 13 v).length ((fr.set 13 v).map (Value.int .u8)) := by rw [List.length_set, HL.out]; exact hown2
         exact isBytes_own h3
       clear hA_z3 hi_z3 E_z3
       clear hown2 hx hO_z4 hE_z4 hg1a hg1b))
  refine (ho1 _ _ hi_z5).mono ?_
  rintro e z6 ⟨rfl, hx⟩
  have E_z6 : Ext w z6 := E_z5.trans hx
  have hA_z6 : z6.heap[A0]? = some (.cells #[.int .i64 2, .bool q.ch, .bool q.ak, .bool q.pr, .bool q.ag, .bool q.ln, .bool q.fw, .int .i64 q.ro, .int .u64 q.r, .int .u32 q.c, .int .u64 q.b, .int .u16 q.p, .int .u16 q.x, .int .i64 q.a, .int .i64 q.m, .int .i64 q.h, .int .i64 q.d] 30 (0, 0)) := (hx.block _ (heap_lt hA_z5)).trans hA_z5
  have hi_z6 : IsInts z6 .u8 (.slice av 60 cv) fr := hi_z5.ext hx
  have hc_z6 : IsInts z6 .u8 (.slice (some ⟨g1, 0, none⟩) 60 cap1) (fr.set 13 v) := hc_z5.ext hx
  clear hA_z5 hi_z5 hc_z5 E_z5
  clear hx
  go_wp2_with (first
    | fail
    | ((with_reducible refine at_alloc 30 ?_); refine al_zero rfl 30 rfl MZ zero_msg ?_
       intro X0 z7 hq hs hx
       have E_z7 : Ext w z7 := E_z6.trans hx
       have hA_z7 : z7.heap[A0]? = some (.cells #[.int .i64 2, .bool q.ch, .bool q.ak, .bool q.pr, .bool q.ag, .bool q.ln, .bool q.fw, .int .i64 q.ro, .int .u64 q.r, .int .u32 q.c, .int .u64 q.b, .int .u16 q.p, .int .u16 q.x, .int .i64 q.a, .int .i64 q.m, .int .i64 q.h, .int .i64 q.d] 30 (0, 0)) := (hx.block _ (heap_lt hA_z6)).trans hA_z6
       have hi_z7 : IsInts z7 .u8 (.slice av 60 cv) fr := hi_z6.ext hx
       have hc_z7 : IsInts z7 .u8 (.slice (some ⟨g1, 0, none⟩) 60 cap1) (fr.set 13 v) := hc_z6.ext hx
       have hX_z7 : z7.heap[X0]? = some (.cells #[.int .i64 0, .bool false, .bool false, .bool false, .bool false, .bool false, .bool false, .int .i64 0, .int .u64 0, .int .u32 0, .int .u64 0, .int .u16 0, .int .u16 0, .int .i64 0, .int .i64 0, .int .i64 0, .int .i64 0] 30 (0, 0)) := hq
       have hb_X0 : w.heap.size ≤ X0 := by have := E_z6.size; omega
       have hn_A0X0 : A0 ≠ X0 := by have := heap_lt hA_z6; omega
       clear hA_z6 hi_z6 hc_z6 E_z6
       clear hq hs hx)
    | ((with_reducible refine at_store 30 ?_); refine st_at rfl rfl 30 _ _ rfl X0 0 _ #[.int .i64 pq.kd, .bool pq.ch, .bool pq.ak, .bool pq.pr, .bool pq.ag, .bool pq.ln, .bool pq.fw, .int .i64 pq.ro, .int .u64 pq.r, .int .u32 pq.c, .int .u64 pq.b, .int .u16 pq.p, .int .u16 pq.x, .int .i64 pq.a, .int .i64 pq.m, .int .i64 pq.h, .int .i64 pq.d] _ #[.int .i64 pq.kd, .bool pq.ch, .bool pq.ak, .bool pq.pr, .bool pq.ag, .bool pq.ln, .bool pq.fw, .int .i64 pq.ro, .int .u64 pq.r, .int .u32 pq.c, .int .u64 pq.b, .int .u16 pq.p, .int .u16 pq.x, .int .i64 pq.a, .int .i64 pq.m, .int .i64 pq.h, .int .i64 pq.d] _ rfl rfl rfl hX_z7 (by exact (by decide : 0 + 17 ≤ 17)) (by kernel_rfl) rfl rfl ?_
       intro z8 hq hm
       have hX_z8 : z8.heap[X0]? = some (.cells #[.int .i64 pq.kd, .bool pq.ch, .bool pq.ak, .bool pq.pr, .bool pq.ag, .bool pq.ln, .bool pq.fw, .int .i64 pq.ro, .int .u64 pq.r, .int .u32 pq.c, .int .u64 pq.b, .int .u16 pq.p, .int .u16 pq.x, .int .i64 pq.a, .int .i64 pq.m, .int .i64 pq.h, .int .i64 pq.d] 30 (0, 0)) := hq
       have hA_z8 : z8.heap[A0]? = some (.cells #[.int .i64 2, .bool q.ch, .bool q.ak, .bool q.pr, .bool q.ag, .bool q.ln, .bool q.fw, .int .i64 q.ro, .int .u64 q.r, .int .u32 q.c, .int .u64 q.b, .int .u16 q.p, .int .u16 q.x, .int .i64 q.a, .int .i64 q.m, .int .i64 q.h, .int .i64 q.d] 30 (0, 0)) := (hm.heap (heap_lt hA_z7) (show ¬ A0 = X0 by omega)).trans hA_z7
       have E_z8 : Ext w z8 := Ext.mutE E_z7 hm (fun n hn h => by have h2 : n = X0 := h; omega)
       have hi_z8 : IsInts z8 .u8 (.slice av 60 cv) fr := ints_far hi_z7 hX_z7 rfl hm
       have hc_z8 : IsInts z8 .u8 (.slice (some ⟨g1, 0, none⟩) 60 cap1) (fr.set 13 v) := ints_far hc_z7 hX_z7 rfl hm
       clear hA_z7 hX_z7 hi_z7 hc_z7 E_z7
       clear hq hm))
  refine (ho2 _ _ hc_z8).mono ?_
  rintro e z9 ⟨rfl, hx⟩
  have E_z9 : Ext w z9 := E_z8.trans hx
  have hA_z9 : z9.heap[A0]? = some (.cells #[.int .i64 2, .bool q.ch, .bool q.ak, .bool q.pr, .bool q.ag, .bool q.ln, .bool q.fw, .int .i64 q.ro, .int .u64 q.r, .int .u32 q.c, .int .u64 q.b, .int .u16 q.p, .int .u16 q.x, .int .i64 q.a, .int .i64 q.m, .int .i64 q.h, .int .i64 q.d] 30 (0, 0)) := (hx.block _ (heap_lt hA_z8)).trans hA_z8
  have hX_z9 : z9.heap[X0]? = some (.cells #[.int .i64 pq.kd, .bool pq.ch, .bool pq.ak, .bool pq.pr, .bool pq.ag, .bool pq.ln, .bool pq.fw, .int .i64 pq.ro, .int .u64 pq.r, .int .u32 pq.c, .int .u64 pq.b, .int .u16 pq.p, .int .u16 pq.x, .int .i64 pq.a, .int .i64 pq.m, .int .i64 pq.h, .int .i64 pq.d] 30 (0, 0)) := (hx.block _ (heap_lt hX_z8)).trans hX_z8
  have hi_z9 : IsInts z9 .u8 (.slice av 60 cv) fr := hi_z8.ext hx
  have hc_z9 : IsInts z9 .u8 (.slice (some ⟨g1, 0, none⟩) 60 cap1) (fr.set 13 v) := hc_z8.ext hx
  clear hA_z8 hX_z8 hi_z8 hc_z8 E_z8
  clear hx
  go_wp2_with (first
    | fail
    | ((with_reducible refine at_alloc 30 ?_); refine al_zero rfl 30 rfl MZ zero_msg ?_
       intro Y0 z10 hq hs hx
       have E_z10 : Ext w z10 := E_z9.trans hx
       have hA_z10 : z10.heap[A0]? = some (.cells #[.int .i64 2, .bool q.ch, .bool q.ak, .bool q.pr, .bool q.ag, .bool q.ln, .bool q.fw, .int .i64 q.ro, .int .u64 q.r, .int .u32 q.c, .int .u64 q.b, .int .u16 q.p, .int .u16 q.x, .int .i64 q.a, .int .i64 q.m, .int .i64 q.h, .int .i64 q.d] 30 (0, 0)) := (hx.block _ (heap_lt hA_z9)).trans hA_z9
       have hX_z10 : z10.heap[X0]? = some (.cells #[.int .i64 pq.kd, .bool pq.ch, .bool pq.ak, .bool pq.pr, .bool pq.ag, .bool pq.ln, .bool pq.fw, .int .i64 pq.ro, .int .u64 pq.r, .int .u32 pq.c, .int .u64 pq.b, .int .u16 pq.p, .int .u16 pq.x, .int .i64 pq.a, .int .i64 pq.m, .int .i64 pq.h, .int .i64 pq.d] 30 (0, 0)) := (hx.block _ (heap_lt hX_z9)).trans hX_z9
       have hY_z10 : z10.heap[Y0]? = some (.cells #[.int .i64 0, .bool false, .bool false, .bool false, .bool false, .bool false, .bool false, .int .i64 0, .int .u64 0, .int .u32 0, .int .u64 0, .int .u16 0, .int .u16 0, .int .i64 0, .int .i64 0, .int .i64 0, .int .i64 0] 30 (0, 0)) := hq
       have hb_Y0 : w.heap.size ≤ Y0 := by have := E_z9.size; omega
       have hn_A0Y0 : A0 ≠ Y0 := by have := heap_lt hA_z9; omega
       have hn_X0Y0 : X0 ≠ Y0 := by have := heap_lt hX_z9; omega
       clear hA_z9 hX_z9 E_z9
       clear hq hs hx)
    | ((with_reducible refine at_store 30 ?_); refine st_at rfl rfl 30 _ _ rfl Y0 0 _ #[.int .i64 0, .bool false, .bool false, .bool false, .bool false, .bool false, .bool false, .int .i64 0, .int .u64 0, .int .u32 0, .int .u64 0, .int .u16 0, .int .u16 0, .int .i64 0, .int .i64 0, .int .i64 0, .int .i64 0] _ #[.int .i64 0, .bool false, .bool false, .bool false, .bool false, .bool false, .bool false, .int .i64 0, .int .u64 0, .int .u32 0, .int .u64 0, .int .u16 0, .int .u16 0, .int .i64 0, .int .i64 0, .int .i64 0, .int .i64 0] _ rfl rfl rfl hY_z10 (by exact (by decide : 0 + 17 ≤ 17)) (by kernel_rfl) rfl rfl ?_
       intro z11 hq hm
       have hY_z11 : z11.heap[Y0]? = some (.cells #[.int .i64 0, .bool false, .bool false, .bool false, .bool false, .bool false, .bool false, .int .i64 0, .int .u64 0, .int .u32 0, .int .u64 0, .int .u16 0, .int .u16 0, .int .i64 0, .int .i64 0, .int .i64 0, .int .i64 0] 30 (0, 0)) := hq
       have hA_z11 : z11.heap[A0]? = some (.cells #[.int .i64 2, .bool q.ch, .bool q.ak, .bool q.pr, .bool q.ag, .bool q.ln, .bool q.fw, .int .i64 q.ro, .int .u64 q.r, .int .u32 q.c, .int .u64 q.b, .int .u16 q.p, .int .u16 q.x, .int .i64 q.a, .int .i64 q.m, .int .i64 q.h, .int .i64 q.d] 30 (0, 0)) := (hm.heap (heap_lt hA_z10) (show ¬ A0 = Y0 by omega)).trans hA_z10
       have hX_z11 : z11.heap[X0]? = some (.cells #[.int .i64 pq.kd, .bool pq.ch, .bool pq.ak, .bool pq.pr, .bool pq.ag, .bool pq.ln, .bool pq.fw, .int .i64 pq.ro, .int .u64 pq.r, .int .u32 pq.c, .int .u64 pq.b, .int .u16 pq.p, .int .u16 pq.x, .int .i64 pq.a, .int .i64 pq.m, .int .i64 pq.h, .int .i64 pq.d] 30 (0, 0)) := (hm.heap (heap_lt hX_z10) (show ¬ X0 = Y0 by omega)).trans hX_z10
       have E_z11 : Ext w z11 := Ext.mutE E_z10 hm (fun n hn h => by have h2 : n = Y0 := h; omega)
       clear hA_z10 hX_z10 hY_z10 E_z10
       clear hq hm)
    | ((with_reducible refine at_loadG 30 ?_); refine wpList_load_rowG rfl 30 _ rfl Y0 rfl 30 #[.int .i64 0, .bool false, .bool false, .bool false, .bool false, .bool false, .bool false, .int .i64 0, .int .u64 0, .int .u32 0, .int .u64 0, .int .u16 0, .int .u16 0, .int .i64 0, .int .i64 0, .int .i64 0, .int .i64 0] (0, 0) _ hY_z11 Try.underlying30 rfl (by kernel_rfl) ?_))
  all_goals
    go_ret
    exact ⟨rfl, E_z11⟩
set_option maxRecDepth 100000 in
set_option maxHeartbeats 2000000 in
theorem cLlcSizes_mid {w : World} (s : Int) (hs : 0 ≤ s ∧ s < 18446744073709551616) (q : Mg) (hq : q.ok) (v : Int) (hv : 0 ≤ v ∧ v < 256) (h1 : 3 ≤ v ∧ v < 39) : Calls Try.prog 11 #[.int .u64 s, .agg #[.int .i64 q.kd, .bool q.ch, .bool q.ak, .bool q.pr, .bool q.ag, .bool q.ln, .bool q.fw, .int .i64 q.ro, .int .u64 q.r, .int .u32 q.c, .int .u64 q.b, .int .u16 q.p, .int .u16 q.x, .int .i64 q.a, .int .i64 q.m, .int .i64 q.h, .int .i64 q.d], .int .u8 v] w fun e w' => e = .returned (.bool true) ∧ Ext w w' := by
  have hq2 : Mg.ok { q with kd := 2 } := ok_kd q hq 2 (by decide)
  have hw : ∀ w : World, Calls Try.prog 23 #[.int .u64 s, .agg #[.int .i64 2, .bool q.ch, .bool q.ak, .bool q.pr, .bool q.ag, .bool q.ln, .bool q.fw, .int .i64 q.ro, .int .u64 q.r, .int .u32 q.c, .int .u64 q.b, .int .u16 q.p, .int .u16 q.x, .int .i64 q.a, .int .i64 q.m, .int .i64 q.h, .int .i64 q.d]] w (Owned w (wrapL s { q with kd := 2 })) := fun w => wrap_any s hs { q with kd := 2 } hq2 (.inr (.inr rfl)) w
  have hfl := wrapL_len s { q with kd := 2 } (.inr (.inr rfl))
  have hfb := wrapL_bytes s { q with kd := 2 } (.inr (.inr rfl))
  have hfo := open_wrap s { q with kd := 2 } hq2 (.inr (.inr rfl)) []
  have hf13 := open_set13 s { q with kd := 2 } hq2 rfl v hv
  rw [List.append_nil, if_neg (fun h => absurd (show (2 : Int) = 0 from h.1) (by decide))] at hfo
  have hpo := plain_ok { q with kd := 2 } hq2
  obtain ⟨pq, hpq⟩ : ∃ p, plainM { q with kd := 2 } = p := ⟨_, rfl⟩
  obtain ⟨fr, hfr⟩ : ∃ f, wrapL s { q with kd := 2 } = f := ⟨_, rfl⟩
  rw [hfr] at hfl hfb hfo hf13
  rw [hpq] at hpo hfo hf13
  simp only [hfr] at hw
  clear hfr hpq
  rw [if_neg (by omega), if_pos (by omega)] at hf13
  have v1 : decide (v < 3) = false := by simp; omega
  have v2 : decide (46 < v) = false := by simp; omega
  have v3 : decide (v < 39) = true := by simp; omega
  have heq := eq_mz
  have heqp := eq_msg pq hpo
  clear hpo
  have HL := Lib.hid hfl
  have HB := Lib.hid hfb
  have HO := Lib.hid hfo
  have HS := Lib.hid hf13
  have HV := Lib.hid hv
  clear hfl hfb hfo hf13 h1 hv hq2 hq
  have hz := zero_msg
  have ho1 : ∀ z vv, IsInts z .u8 vv fr → Calls Try.prog 25 #[vv] z (fun e w' => e = .returned (.tuple #[.int .u64 (low48 s), .agg #[.int .i64 pq.kd, .bool pq.ch, .bool pq.ak, .bool pq.pr, .bool pq.ag, .bool pq.ln, .bool pq.fw, .int .i64 pq.ro, .int .u64 pq.r, .int .u32 pq.c, .int .u64 pq.b, .int .u16 pq.p, .int .u16 pq.x, .int .i64 pq.a, .int .i64 pq.m, .int .i64 pq.h, .int .i64 pq.d], .int .i64 0]) ∧ Ext z w') := fun z vv hi => by
    have := open_any vv fr z hi HB.out (by have := HL.out; omega)
    rw [HO.out] at this
    exact this
  have ho2 : ∀ z vv, IsInts z .u8 vv (fr.set 13 v) → Calls Try.prog 25 #[vv] z (fun e w' => e = .returned (.tuple #[.int .u64 0, .agg #[.int .i64 0, .bool false, .bool false, .bool false, .bool false, .bool false, .bool false, .int .i64 0, .int .u64 0, .int .u32 0, .int .u64 0, .int .u16 0, .int .u16 0, .int .i64 0, .int .i64 0, .int .i64 0, .int .i64 0], .int .i64 2]) ∧ Ext z w') := fun z vv hi => by
    have := open_any vv (fr.set 13 v) z hi (fun x hx => (List.mem_or_eq_of_mem_set hx).elim (HB.out x) (fun e => e ▸ HV.out)) (by have := HL.out; simp; omega)
    rw [HS.out] at this
    exact this
  go_enter Try.func11, Try.ntmps11
  go_wp2_with fail
  have hA_w0 : (w.alloc (.cells #[.int .i64 q.kd, .bool q.ch, .bool q.ak, .bool q.pr, .bool q.ag, .bool q.ln, .bool q.fw, .int .i64 q.ro, .int .u64 q.r, .int .u32 q.c, .int .u64 q.b, .int .u16 q.p, .int .u16 q.x, .int .i64 q.a, .int .i64 q.m, .int .i64 q.h, .int .i64 q.d] 30)).heap[w.heap.size]? = some (.cells #[.int .i64 q.kd, .bool q.ch, .bool q.ak, .bool q.pr, .bool q.ag, .bool q.ln, .bool q.fw, .int .i64 q.ro, .int .u64 q.r, .int .u32 q.c, .int .u64 q.b, .int .u16 q.p, .int .u16 q.x, .int .i64 q.a, .int .i64 q.m, .int .i64 q.h, .int .i64 q.d] 30 (0, 0)) := heap_alloc_new _ _
  have hE_w0 : Ext w (w.alloc (.cells #[.int .i64 q.kd, .bool q.ch, .bool q.ak, .bool q.pr, .bool q.ag, .bool q.ln, .bool q.fw, .int .i64 q.ro, .int .u64 q.r, .int .u32 q.c, .int .u64 q.b, .int .u16 q.p, .int .u16 q.x, .int .i64 q.a, .int .i64 q.m, .int .i64 q.h, .int .i64 q.d] 30)) := (Ext.refl _).alloc _
  generalize w.alloc (.cells #[.int .i64 q.kd, .bool q.ch, .bool q.ak, .bool q.pr, .bool q.ag, .bool q.ln, .bool q.fw, .int .i64 q.ro, .int .u64 q.r, .int .u32 q.c, .int .u64 q.b, .int .u16 q.p, .int .u16 q.x, .int .i64 q.a, .int .i64 q.m, .int .i64 q.h, .int .i64 q.d] 30) = w0 at *
  obtain ⟨A0, hA0⟩ : ∃ n, w.heap.size = n := ⟨_, rfl⟩
  rw [hA0] at hA_w0 ⊢
  have hb_A0 : w.heap.size ≤ A0 := by omega
  refine (awake6 _).mono ?_
  rintro e z1 ⟨rfl, hx⟩
  have E_z1 : Ext w z1 := hE_w0.trans hx
  have hA_z1 : z1.heap[A0]? = some (.cells #[.int .i64 q.kd, .bool q.ch, .bool q.ak, .bool q.pr, .bool q.ag, .bool q.ln, .bool q.fw, .int .i64 q.ro, .int .u64 q.r, .int .u32 q.c, .int .u64 q.b, .int .u16 q.p, .int .u16 q.x, .int .i64 q.a, .int .i64 q.m, .int .i64 q.h, .int .i64 q.d] 30 (0, 0)) := (hx.block _ (heap_lt hA_w0)).trans hA_w0
  clear hA_w0 hE_w0
  clear hx
  go_wp2_with (first
    | fail
    | ((with_reducible refine at_store 3 ?_); refine st_at rfl rfl 3 _ _ rfl A0 0 _ #[.int .i64 2] _ #[.int .i64 2, .bool q.ch, .bool q.ak, .bool q.pr, .bool q.ag, .bool q.ln, .bool q.fw, .int .i64 q.ro, .int .u64 q.r, .int .u32 q.c, .int .u64 q.b, .int .u16 q.p, .int .u16 q.x, .int .i64 q.a, .int .i64 q.m, .int .i64 q.h, .int .i64 q.d] _ rfl rfl rfl hA_z1 (by exact (by decide : 0 + 1 ≤ 17)) (by kernel_rfl) rfl rfl ?_
       intro z2 hq hm
       have hA_z2 : z2.heap[A0]? = some (.cells #[.int .i64 2, .bool q.ch, .bool q.ak, .bool q.pr, .bool q.ag, .bool q.ln, .bool q.fw, .int .i64 q.ro, .int .u64 q.r, .int .u32 q.c, .int .u64 q.b, .int .u16 q.p, .int .u16 q.x, .int .i64 q.a, .int .i64 q.m, .int .i64 q.h, .int .i64 q.d] 30 (0, 0)) := hq
       have E_z2 : Ext w z2 := Ext.mutE E_z1 hm (fun n hn h => by have h2 : n = A0 := h; omega)
       clear hA_z1 E_z1
       clear hq hm)
    | ((with_reducible refine at_load 30 ?_); refine wpList_load_row rfl 30 _ rfl A0 rfl 30 #[.int .i64 2, .bool q.ch, .bool q.ak, .bool q.pr, .bool q.ag, .bool q.ln, .bool q.fw, .int .i64 q.ro, .int .u64 q.r, .int .u32 q.c, .int .u64 q.b, .int .u16 q.p, .int .u16 q.x, .int .i64 q.a, .int .i64 q.m, .int .i64 q.h, .int .i64 q.d] (0, 0) _ hA_z2 Try.underlying30 rfl (by kernel_rfl) ?_))
  refine (hw _).mono ?_
  rintro e z3 ⟨vb, rfl, hown, hx⟩
  have E_z3 : Ext w z3 := E_z2.trans hx
  have hA_z3 : z3.heap[A0]? = some (.cells #[.int .i64 2, .bool q.ch, .bool q.ak, .bool q.pr, .bool q.ag, .bool q.ln, .bool q.fw, .int .i64 q.ro, .int .u64 q.r, .int .u32 q.c, .int .u64 q.b, .int .u16 q.p, .int .u16 q.x, .int .i64 q.a, .int .i64 q.m, .int .i64 q.h, .int .i64 q.d] 30 (0, 0)) := (hx.block _ (heap_lt hA_z2)).trans hA_z2
  have hi_z3 := isBytes_own hown
  clear hown
  clear hA_z2 E_z2
  clear hx
  obtain ⟨av, cv, hvv, -, -⟩ := hi_z3.form
  rw [HL.out] at hvv
  subst hvv
  go_wp2_with (first
    | fail
    | (at_builtin; refine wpList_app rfl _ _ rfl z3 ((Ext.refl z3).alloc _) _ _ ([]) (fr) rfl rfl (own0 z3) (hi_z3.ext ((Ext.refl z3).alloc _)) (by have := HL.out; simp; omega) ?_
       intro vp1 z4 hown_z4 hE_z4 hg_z4
       have hO_z4 : z4.ownsRow z3.heap.size 5 1 vp1 (fr).length ((fr).map (Value.int .u8)) := by simpa using hown_z4
       clear hown_z4 hg_z4
       rw [HL.out] at hO_z4
       obtain ⟨g1, cap1, hv1, hg1a, hg1b, hg1c, hg1d⟩ := own_some hO_z4 (by decide)
       subst hv1)
    | ((with_reducible refine at_store 5 ?_); refine wpList_own_byte rfl rfl _ _ rfl z3 hE_z4 g1 60 cap1 13 fr v rfl rfl hO_z4 (by decide) ?_
       intro z5 hown2 hx
       have hA_z5 : z5.heap[A0]? = some (.cells #[.int .i64 2, .bool q.ch, .bool q.ak, .bool q.pr, .bool q.ag, .bool q.ln, .bool q.fw, .int .i64 q.ro, .int .u64 q.r, .int .u32 q.c, .int .u64 q.b, .int .u16 q.p, .int .u16 q.x, .int .i64 q.a, .int .i64 q.m, .int .i64 q.h, .int .i64 q.d] 30 (0, 0)) := (hx.block _ (heap_lt hA_z3)).trans hA_z3
       have hi_z5 : IsInts z5 .u8 (.slice av 60 cv) fr := hi_z3.ext hx
       have E_z5 : Ext w z5 := E_z3.trans hx
       have hc_z5 : IsInts z5 .u8 (.slice (some ⟨g1, 0, none⟩) 60 cap1) (fr.set 13 v) := by
         have h3 : z5.ownsRow z3.heap.size 5 1 (.slice (some ⟨g1, 0, none⟩) 60 cap1) (fr.set 13 v).length ((fr.set 13 v).map (Value.int .u8)) := by rw [List.length_set, HL.out]; exact hown2
         exact isBytes_own h3
       clear hA_z3 hi_z3 E_z3
       clear hown2 hx hO_z4 hE_z4 hg1a hg1b))
  refine (ho1 _ _ hi_z5).mono ?_
  rintro e z6 ⟨rfl, hx⟩
  have E_z6 : Ext w z6 := E_z5.trans hx
  have hA_z6 : z6.heap[A0]? = some (.cells #[.int .i64 2, .bool q.ch, .bool q.ak, .bool q.pr, .bool q.ag, .bool q.ln, .bool q.fw, .int .i64 q.ro, .int .u64 q.r, .int .u32 q.c, .int .u64 q.b, .int .u16 q.p, .int .u16 q.x, .int .i64 q.a, .int .i64 q.m, .int .i64 q.h, .int .i64 q.d] 30 (0, 0)) := (hx.block _ (heap_lt hA_z5)).trans hA_z5
  have hi_z6 : IsInts z6 .u8 (.slice av 60 cv) fr := hi_z5.ext hx
  have hc_z6 : IsInts z6 .u8 (.slice (some ⟨g1, 0, none⟩) 60 cap1) (fr.set 13 v) := hc_z5.ext hx
  clear hA_z5 hi_z5 hc_z5 E_z5
  clear hx
  go_wp2_with (first
    | fail
    | ((with_reducible refine at_alloc 30 ?_); refine al_zero rfl 30 rfl MZ zero_msg ?_
       intro X0 z7 hq hs hx
       have E_z7 : Ext w z7 := E_z6.trans hx
       have hA_z7 : z7.heap[A0]? = some (.cells #[.int .i64 2, .bool q.ch, .bool q.ak, .bool q.pr, .bool q.ag, .bool q.ln, .bool q.fw, .int .i64 q.ro, .int .u64 q.r, .int .u32 q.c, .int .u64 q.b, .int .u16 q.p, .int .u16 q.x, .int .i64 q.a, .int .i64 q.m, .int .i64 q.h, .int .i64 q.d] 30 (0, 0)) := (hx.block _ (heap_lt hA_z6)).trans hA_z6
       have hi_z7 : IsInts z7 .u8 (.slice av 60 cv) fr := hi_z6.ext hx
       have hc_z7 : IsInts z7 .u8 (.slice (some ⟨g1, 0, none⟩) 60 cap1) (fr.set 13 v) := hc_z6.ext hx
       have hX_z7 : z7.heap[X0]? = some (.cells #[.int .i64 0, .bool false, .bool false, .bool false, .bool false, .bool false, .bool false, .int .i64 0, .int .u64 0, .int .u32 0, .int .u64 0, .int .u16 0, .int .u16 0, .int .i64 0, .int .i64 0, .int .i64 0, .int .i64 0] 30 (0, 0)) := hq
       have hb_X0 : w.heap.size ≤ X0 := by have := E_z6.size; omega
       have hn_A0X0 : A0 ≠ X0 := by have := heap_lt hA_z6; omega
       clear hA_z6 hi_z6 hc_z6 E_z6
       clear hq hs hx)
    | ((with_reducible refine at_store 30 ?_); refine st_at rfl rfl 30 _ _ rfl X0 0 _ #[.int .i64 pq.kd, .bool pq.ch, .bool pq.ak, .bool pq.pr, .bool pq.ag, .bool pq.ln, .bool pq.fw, .int .i64 pq.ro, .int .u64 pq.r, .int .u32 pq.c, .int .u64 pq.b, .int .u16 pq.p, .int .u16 pq.x, .int .i64 pq.a, .int .i64 pq.m, .int .i64 pq.h, .int .i64 pq.d] _ #[.int .i64 pq.kd, .bool pq.ch, .bool pq.ak, .bool pq.pr, .bool pq.ag, .bool pq.ln, .bool pq.fw, .int .i64 pq.ro, .int .u64 pq.r, .int .u32 pq.c, .int .u64 pq.b, .int .u16 pq.p, .int .u16 pq.x, .int .i64 pq.a, .int .i64 pq.m, .int .i64 pq.h, .int .i64 pq.d] _ rfl rfl rfl hX_z7 (by exact (by decide : 0 + 17 ≤ 17)) (by kernel_rfl) rfl rfl ?_
       intro z8 hq hm
       have hX_z8 : z8.heap[X0]? = some (.cells #[.int .i64 pq.kd, .bool pq.ch, .bool pq.ak, .bool pq.pr, .bool pq.ag, .bool pq.ln, .bool pq.fw, .int .i64 pq.ro, .int .u64 pq.r, .int .u32 pq.c, .int .u64 pq.b, .int .u16 pq.p, .int .u16 pq.x, .int .i64 pq.a, .int .i64 pq.m, .int .i64 pq.h, .int .i64 pq.d] 30 (0, 0)) := hq
       have hA_z8 : z8.heap[A0]? = some (.cells #[.int .i64 2, .bool q.ch, .bool q.ak, .bool q.pr, .bool q.ag, .bool q.ln, .bool q.fw, .int .i64 q.ro, .int .u64 q.r, .int .u32 q.c, .int .u64 q.b, .int .u16 q.p, .int .u16 q.x, .int .i64 q.a, .int .i64 q.m, .int .i64 q.h, .int .i64 q.d] 30 (0, 0)) := (hm.heap (heap_lt hA_z7) (show ¬ A0 = X0 by omega)).trans hA_z7
       have E_z8 : Ext w z8 := Ext.mutE E_z7 hm (fun n hn h => by have h2 : n = X0 := h; omega)
       have hi_z8 : IsInts z8 .u8 (.slice av 60 cv) fr := ints_far hi_z7 hX_z7 rfl hm
       have hc_z8 : IsInts z8 .u8 (.slice (some ⟨g1, 0, none⟩) 60 cap1) (fr.set 13 v) := ints_far hc_z7 hX_z7 rfl hm
       clear hA_z7 hX_z7 hi_z7 hc_z7 E_z7
       clear hq hm))
  refine (ho2 _ _ hc_z8).mono ?_
  rintro e z9 ⟨rfl, hx⟩
  have E_z9 : Ext w z9 := E_z8.trans hx
  have hA_z9 : z9.heap[A0]? = some (.cells #[.int .i64 2, .bool q.ch, .bool q.ak, .bool q.pr, .bool q.ag, .bool q.ln, .bool q.fw, .int .i64 q.ro, .int .u64 q.r, .int .u32 q.c, .int .u64 q.b, .int .u16 q.p, .int .u16 q.x, .int .i64 q.a, .int .i64 q.m, .int .i64 q.h, .int .i64 q.d] 30 (0, 0)) := (hx.block _ (heap_lt hA_z8)).trans hA_z8
  have hX_z9 : z9.heap[X0]? = some (.cells #[.int .i64 pq.kd, .bool pq.ch, .bool pq.ak, .bool pq.pr, .bool pq.ag, .bool pq.ln, .bool pq.fw, .int .i64 pq.ro, .int .u64 pq.r, .int .u32 pq.c, .int .u64 pq.b, .int .u16 pq.p, .int .u16 pq.x, .int .i64 pq.a, .int .i64 pq.m, .int .i64 pq.h, .int .i64 pq.d] 30 (0, 0)) := (hx.block _ (heap_lt hX_z8)).trans hX_z8
  have hi_z9 : IsInts z9 .u8 (.slice av 60 cv) fr := hi_z8.ext hx
  have hc_z9 : IsInts z9 .u8 (.slice (some ⟨g1, 0, none⟩) 60 cap1) (fr.set 13 v) := hc_z8.ext hx
  clear hA_z8 hX_z8 hi_z8 hc_z8 E_z8
  clear hx
  go_wp2_with (first
    | fail
    | ((with_reducible refine at_alloc 30 ?_); refine al_zero rfl 30 rfl MZ zero_msg ?_
       intro Y0 z10 hq hs hx
       have E_z10 : Ext w z10 := E_z9.trans hx
       have hA_z10 : z10.heap[A0]? = some (.cells #[.int .i64 2, .bool q.ch, .bool q.ak, .bool q.pr, .bool q.ag, .bool q.ln, .bool q.fw, .int .i64 q.ro, .int .u64 q.r, .int .u32 q.c, .int .u64 q.b, .int .u16 q.p, .int .u16 q.x, .int .i64 q.a, .int .i64 q.m, .int .i64 q.h, .int .i64 q.d] 30 (0, 0)) := (hx.block _ (heap_lt hA_z9)).trans hA_z9
       have hX_z10 : z10.heap[X0]? = some (.cells #[.int .i64 pq.kd, .bool pq.ch, .bool pq.ak, .bool pq.pr, .bool pq.ag, .bool pq.ln, .bool pq.fw, .int .i64 pq.ro, .int .u64 pq.r, .int .u32 pq.c, .int .u64 pq.b, .int .u16 pq.p, .int .u16 pq.x, .int .i64 pq.a, .int .i64 pq.m, .int .i64 pq.h, .int .i64 pq.d] 30 (0, 0)) := (hx.block _ (heap_lt hX_z9)).trans hX_z9
       have hY_z10 : z10.heap[Y0]? = some (.cells #[.int .i64 0, .bool false, .bool false, .bool false, .bool false, .bool false, .bool false, .int .i64 0, .int .u64 0, .int .u32 0, .int .u64 0, .int .u16 0, .int .u16 0, .int .i64 0, .int .i64 0, .int .i64 0, .int .i64 0] 30 (0, 0)) := hq
       have hb_Y0 : w.heap.size ≤ Y0 := by have := E_z9.size; omega
       have hn_A0Y0 : A0 ≠ Y0 := by have := heap_lt hA_z9; omega
       have hn_X0Y0 : X0 ≠ Y0 := by have := heap_lt hX_z9; omega
       clear hA_z9 hX_z9 E_z9
       clear hq hs hx)
    | ((with_reducible refine at_store 30 ?_); refine st_at rfl rfl 30 _ _ rfl Y0 0 _ #[.int .i64 0, .bool false, .bool false, .bool false, .bool false, .bool false, .bool false, .int .i64 0, .int .u64 0, .int .u32 0, .int .u64 0, .int .u16 0, .int .u16 0, .int .i64 0, .int .i64 0, .int .i64 0, .int .i64 0] _ #[.int .i64 0, .bool false, .bool false, .bool false, .bool false, .bool false, .bool false, .int .i64 0, .int .u64 0, .int .u32 0, .int .u64 0, .int .u16 0, .int .u16 0, .int .i64 0, .int .i64 0, .int .i64 0, .int .i64 0] _ rfl rfl rfl hY_z10 (by exact (by decide : 0 + 17 ≤ 17)) (by kernel_rfl) rfl rfl ?_
       intro z11 hq hm
       have hY_z11 : z11.heap[Y0]? = some (.cells #[.int .i64 0, .bool false, .bool false, .bool false, .bool false, .bool false, .bool false, .int .i64 0, .int .u64 0, .int .u32 0, .int .u64 0, .int .u16 0, .int .u16 0, .int .i64 0, .int .i64 0, .int .i64 0, .int .i64 0] 30 (0, 0)) := hq
       have hA_z11 : z11.heap[A0]? = some (.cells #[.int .i64 2, .bool q.ch, .bool q.ak, .bool q.pr, .bool q.ag, .bool q.ln, .bool q.fw, .int .i64 q.ro, .int .u64 q.r, .int .u32 q.c, .int .u64 q.b, .int .u16 q.p, .int .u16 q.x, .int .i64 q.a, .int .i64 q.m, .int .i64 q.h, .int .i64 q.d] 30 (0, 0)) := (hm.heap (heap_lt hA_z10) (show ¬ A0 = Y0 by omega)).trans hA_z10
       have hX_z11 : z11.heap[X0]? = some (.cells #[.int .i64 pq.kd, .bool pq.ch, .bool pq.ak, .bool pq.pr, .bool pq.ag, .bool pq.ln, .bool pq.fw, .int .i64 pq.ro, .int .u64 pq.r, .int .u32 pq.c, .int .u64 pq.b, .int .u16 pq.p, .int .u16 pq.x, .int .i64 pq.a, .int .i64 pq.m, .int .i64 pq.h, .int .i64 pq.d] 30 (0, 0)) := (hm.heap (heap_lt hX_z10) (show ¬ X0 = Y0 by omega)).trans hX_z10
       have E_z11 : Ext w z11 := Ext.mutE E_z10 hm (fun n hn h => by have h2 : n = Y0 := h; omega)
       clear hA_z10 hX_z10 hY_z10 E_z10
       clear hq hm)
    | ((with_reducible refine at_loadG 30 ?_); refine wpList_load_rowG rfl 30 _ rfl Y0 rfl 30 #[.int .i64 0, .bool false, .bool false, .bool false, .bool false, .bool false, .bool false, .int .i64 0, .int .u64 0, .int .u32 0, .int .u64 0, .int .u16 0, .int .u16 0, .int .i64 0, .int .i64 0, .int .i64 0, .int .i64 0] (0, 0) _ hY_z11 Try.underlying30 rfl (by kernel_rfl) ?_))
  all_goals
    go_ret
    exact ⟨rfl, E_z11⟩
set_option maxRecDepth 100000 in
set_option maxHeartbeats 2000000 in
theorem cLlcSizes_same {w : World} (s : Int) (hs : 0 ≤ s ∧ s < 18446744073709551616) (q : Mg) (hq : q.ok) (v : Int) (hv : 0 ≤ v ∧ v < 256) (h1 : 39 ≤ v ∧ v ≤ 46) : Calls Try.prog 11 #[.int .u64 s, .agg #[.int .i64 q.kd, .bool q.ch, .bool q.ak, .bool q.pr, .bool q.ag, .bool q.ln, .bool q.fw, .int .i64 q.ro, .int .u64 q.r, .int .u32 q.c, .int .u64 q.b, .int .u16 q.p, .int .u16 q.x, .int .i64 q.a, .int .i64 q.m, .int .i64 q.h, .int .i64 q.d], .int .u8 v] w fun e w' => e = .returned (.bool true) ∧ Ext w w' := by
  have hq2 : Mg.ok { q with kd := 2 } := ok_kd q hq 2 (by decide)
  have hw : ∀ w : World, Calls Try.prog 23 #[.int .u64 s, .agg #[.int .i64 2, .bool q.ch, .bool q.ak, .bool q.pr, .bool q.ag, .bool q.ln, .bool q.fw, .int .i64 q.ro, .int .u64 q.r, .int .u32 q.c, .int .u64 q.b, .int .u16 q.p, .int .u16 q.x, .int .i64 q.a, .int .i64 q.m, .int .i64 q.h, .int .i64 q.d]] w (Owned w (wrapL s { q with kd := 2 })) := fun w => wrap_any s hs { q with kd := 2 } hq2 (.inr (.inr rfl)) w
  have hfl := wrapL_len s { q with kd := 2 } (.inr (.inr rfl))
  have hfb := wrapL_bytes s { q with kd := 2 } (.inr (.inr rfl))
  have hfo := open_wrap s { q with kd := 2 } hq2 (.inr (.inr rfl)) []
  have hf13 := open_set13 s { q with kd := 2 } hq2 rfl v hv
  rw [List.append_nil, if_neg (fun h => absurd (show (2 : Int) = 0 from h.1) (by decide))] at hfo
  have hpo := plain_ok { q with kd := 2 } hq2
  obtain ⟨pq, hpq⟩ : ∃ p, plainM { q with kd := 2 } = p := ⟨_, rfl⟩
  obtain ⟨fr, hfr⟩ : ∃ f, wrapL s { q with kd := 2 } = f := ⟨_, rfl⟩
  rw [hfr] at hfl hfb hfo hf13
  rw [hpq] at hpo hfo hf13
  simp only [hfr] at hw
  clear hfr hpq
  rw [if_neg (by omega), if_neg (by omega)] at hf13
  have v1 : decide (v < 3) = false := by simp; omega
  have v2 : decide (46 < v) = false := by simp; omega
  have v3 : decide (v < 39) = false := by simp; omega
  have heq := eq_mz
  have heqp := eq_msg pq hpo
  clear hpo
  have HL := Lib.hid hfl
  have HB := Lib.hid hfb
  have HO := Lib.hid hfo
  have HS := Lib.hid hf13
  have HV := Lib.hid hv
  clear hfl hfb hfo hf13 h1 hv hq2 hq
  have hz := zero_msg
  have ho1 : ∀ z vv, IsInts z .u8 vv fr → Calls Try.prog 25 #[vv] z (fun e w' => e = .returned (.tuple #[.int .u64 (low48 s), .agg #[.int .i64 pq.kd, .bool pq.ch, .bool pq.ak, .bool pq.pr, .bool pq.ag, .bool pq.ln, .bool pq.fw, .int .i64 pq.ro, .int .u64 pq.r, .int .u32 pq.c, .int .u64 pq.b, .int .u16 pq.p, .int .u16 pq.x, .int .i64 pq.a, .int .i64 pq.m, .int .i64 pq.h, .int .i64 pq.d], .int .i64 0]) ∧ Ext z w') := fun z vv hi => by
    have := open_any vv fr z hi HB.out (by have := HL.out; omega)
    rw [HO.out] at this
    exact this
  have ho2 : ∀ z vv, IsInts z .u8 vv (fr.set 13 v) → Calls Try.prog 25 #[vv] z (fun e w' => e = .returned (.tuple #[.int .u64 (low48 s), .agg #[.int .i64 pq.kd, .bool pq.ch, .bool pq.ak, .bool pq.pr, .bool pq.ag, .bool pq.ln, .bool pq.fw, .int .i64 pq.ro, .int .u64 pq.r, .int .u32 pq.c, .int .u64 pq.b, .int .u16 pq.p, .int .u16 pq.x, .int .i64 pq.a, .int .i64 pq.m, .int .i64 pq.h, .int .i64 pq.d], .int .i64 0]) ∧ Ext z w') := fun z vv hi => by
    have := open_any vv (fr.set 13 v) z hi (fun x hx => (List.mem_or_eq_of_mem_set hx).elim (HB.out x) (fun e => e ▸ HV.out)) (by have := HL.out; simp; omega)
    rw [HS.out] at this
    exact this
  go_enter Try.func11, Try.ntmps11
  go_wp2_with fail
  have hA_w0 : (w.alloc (.cells #[.int .i64 q.kd, .bool q.ch, .bool q.ak, .bool q.pr, .bool q.ag, .bool q.ln, .bool q.fw, .int .i64 q.ro, .int .u64 q.r, .int .u32 q.c, .int .u64 q.b, .int .u16 q.p, .int .u16 q.x, .int .i64 q.a, .int .i64 q.m, .int .i64 q.h, .int .i64 q.d] 30)).heap[w.heap.size]? = some (.cells #[.int .i64 q.kd, .bool q.ch, .bool q.ak, .bool q.pr, .bool q.ag, .bool q.ln, .bool q.fw, .int .i64 q.ro, .int .u64 q.r, .int .u32 q.c, .int .u64 q.b, .int .u16 q.p, .int .u16 q.x, .int .i64 q.a, .int .i64 q.m, .int .i64 q.h, .int .i64 q.d] 30 (0, 0)) := heap_alloc_new _ _
  have hE_w0 : Ext w (w.alloc (.cells #[.int .i64 q.kd, .bool q.ch, .bool q.ak, .bool q.pr, .bool q.ag, .bool q.ln, .bool q.fw, .int .i64 q.ro, .int .u64 q.r, .int .u32 q.c, .int .u64 q.b, .int .u16 q.p, .int .u16 q.x, .int .i64 q.a, .int .i64 q.m, .int .i64 q.h, .int .i64 q.d] 30)) := (Ext.refl _).alloc _
  generalize w.alloc (.cells #[.int .i64 q.kd, .bool q.ch, .bool q.ak, .bool q.pr, .bool q.ag, .bool q.ln, .bool q.fw, .int .i64 q.ro, .int .u64 q.r, .int .u32 q.c, .int .u64 q.b, .int .u16 q.p, .int .u16 q.x, .int .i64 q.a, .int .i64 q.m, .int .i64 q.h, .int .i64 q.d] 30) = w0 at *
  obtain ⟨A0, hA0⟩ : ∃ n, w.heap.size = n := ⟨_, rfl⟩
  rw [hA0] at hA_w0 ⊢
  have hb_A0 : w.heap.size ≤ A0 := by omega
  refine (awake6 _).mono ?_
  rintro e z1 ⟨rfl, hx⟩
  have E_z1 : Ext w z1 := hE_w0.trans hx
  have hA_z1 : z1.heap[A0]? = some (.cells #[.int .i64 q.kd, .bool q.ch, .bool q.ak, .bool q.pr, .bool q.ag, .bool q.ln, .bool q.fw, .int .i64 q.ro, .int .u64 q.r, .int .u32 q.c, .int .u64 q.b, .int .u16 q.p, .int .u16 q.x, .int .i64 q.a, .int .i64 q.m, .int .i64 q.h, .int .i64 q.d] 30 (0, 0)) := (hx.block _ (heap_lt hA_w0)).trans hA_w0
  clear hA_w0 hE_w0
  clear hx
  go_wp2_with (first
    | fail
    | ((with_reducible refine at_store 3 ?_); refine st_at rfl rfl 3 _ _ rfl A0 0 _ #[.int .i64 2] _ #[.int .i64 2, .bool q.ch, .bool q.ak, .bool q.pr, .bool q.ag, .bool q.ln, .bool q.fw, .int .i64 q.ro, .int .u64 q.r, .int .u32 q.c, .int .u64 q.b, .int .u16 q.p, .int .u16 q.x, .int .i64 q.a, .int .i64 q.m, .int .i64 q.h, .int .i64 q.d] _ rfl rfl rfl hA_z1 (by exact (by decide : 0 + 1 ≤ 17)) (by kernel_rfl) rfl rfl ?_
       intro z2 hq hm
       have hA_z2 : z2.heap[A0]? = some (.cells #[.int .i64 2, .bool q.ch, .bool q.ak, .bool q.pr, .bool q.ag, .bool q.ln, .bool q.fw, .int .i64 q.ro, .int .u64 q.r, .int .u32 q.c, .int .u64 q.b, .int .u16 q.p, .int .u16 q.x, .int .i64 q.a, .int .i64 q.m, .int .i64 q.h, .int .i64 q.d] 30 (0, 0)) := hq
       have E_z2 : Ext w z2 := Ext.mutE E_z1 hm (fun n hn h => by have h2 : n = A0 := h; omega)
       clear hA_z1 E_z1
       clear hq hm)
    | ((with_reducible refine at_load 30 ?_); refine wpList_load_row rfl 30 _ rfl A0 rfl 30 #[.int .i64 2, .bool q.ch, .bool q.ak, .bool q.pr, .bool q.ag, .bool q.ln, .bool q.fw, .int .i64 q.ro, .int .u64 q.r, .int .u32 q.c, .int .u64 q.b, .int .u16 q.p, .int .u16 q.x, .int .i64 q.a, .int .i64 q.m, .int .i64 q.h, .int .i64 q.d] (0, 0) _ hA_z2 Try.underlying30 rfl (by kernel_rfl) ?_))
  refine (hw _).mono ?_
  rintro e z3 ⟨vb, rfl, hown, hx⟩
  have E_z3 : Ext w z3 := E_z2.trans hx
  have hA_z3 : z3.heap[A0]? = some (.cells #[.int .i64 2, .bool q.ch, .bool q.ak, .bool q.pr, .bool q.ag, .bool q.ln, .bool q.fw, .int .i64 q.ro, .int .u64 q.r, .int .u32 q.c, .int .u64 q.b, .int .u16 q.p, .int .u16 q.x, .int .i64 q.a, .int .i64 q.m, .int .i64 q.h, .int .i64 q.d] 30 (0, 0)) := (hx.block _ (heap_lt hA_z2)).trans hA_z2
  have hi_z3 := isBytes_own hown
  clear hown
  clear hA_z2 E_z2
  clear hx
  obtain ⟨av, cv, hvv, -, -⟩ := hi_z3.form
  rw [HL.out] at hvv
  subst hvv
  go_wp2_with (first
    | fail
    | (at_builtin; refine wpList_app rfl _ _ rfl z3 ((Ext.refl z3).alloc _) _ _ ([]) (fr) rfl rfl (own0 z3) (hi_z3.ext ((Ext.refl z3).alloc _)) (by have := HL.out; simp; omega) ?_
       intro vp1 z4 hown_z4 hE_z4 hg_z4
       have hO_z4 : z4.ownsRow z3.heap.size 5 1 vp1 (fr).length ((fr).map (Value.int .u8)) := by simpa using hown_z4
       clear hown_z4 hg_z4
       rw [HL.out] at hO_z4
       obtain ⟨g1, cap1, hv1, hg1a, hg1b, hg1c, hg1d⟩ := own_some hO_z4 (by decide)
       subst hv1)
    | ((with_reducible refine at_store 5 ?_); refine wpList_own_byte rfl rfl _ _ rfl z3 hE_z4 g1 60 cap1 13 fr v rfl rfl hO_z4 (by decide) ?_
       intro z5 hown2 hx
       have hA_z5 : z5.heap[A0]? = some (.cells #[.int .i64 2, .bool q.ch, .bool q.ak, .bool q.pr, .bool q.ag, .bool q.ln, .bool q.fw, .int .i64 q.ro, .int .u64 q.r, .int .u32 q.c, .int .u64 q.b, .int .u16 q.p, .int .u16 q.x, .int .i64 q.a, .int .i64 q.m, .int .i64 q.h, .int .i64 q.d] 30 (0, 0)) := (hx.block _ (heap_lt hA_z3)).trans hA_z3
       have hi_z5 : IsInts z5 .u8 (.slice av 60 cv) fr := hi_z3.ext hx
       have E_z5 : Ext w z5 := E_z3.trans hx
       have hc_z5 : IsInts z5 .u8 (.slice (some ⟨g1, 0, none⟩) 60 cap1) (fr.set 13 v) := by
         have h3 : z5.ownsRow z3.heap.size 5 1 (.slice (some ⟨g1, 0, none⟩) 60 cap1) (fr.set 13 v).length ((fr.set 13 v).map (Value.int .u8)) := by rw [List.length_set, HL.out]; exact hown2
         exact isBytes_own h3
       clear hA_z3 hi_z3 E_z3
       clear hown2 hx hO_z4 hE_z4 hg1a hg1b))
  refine (ho1 _ _ hi_z5).mono ?_
  rintro e z6 ⟨rfl, hx⟩
  have E_z6 : Ext w z6 := E_z5.trans hx
  have hA_z6 : z6.heap[A0]? = some (.cells #[.int .i64 2, .bool q.ch, .bool q.ak, .bool q.pr, .bool q.ag, .bool q.ln, .bool q.fw, .int .i64 q.ro, .int .u64 q.r, .int .u32 q.c, .int .u64 q.b, .int .u16 q.p, .int .u16 q.x, .int .i64 q.a, .int .i64 q.m, .int .i64 q.h, .int .i64 q.d] 30 (0, 0)) := (hx.block _ (heap_lt hA_z5)).trans hA_z5
  have hi_z6 : IsInts z6 .u8 (.slice av 60 cv) fr := hi_z5.ext hx
  have hc_z6 : IsInts z6 .u8 (.slice (some ⟨g1, 0, none⟩) 60 cap1) (fr.set 13 v) := hc_z5.ext hx
  clear hA_z5 hi_z5 hc_z5 E_z5
  clear hx
  go_wp2_with (first
    | fail
    | ((with_reducible refine at_alloc 30 ?_); refine al_zero rfl 30 rfl MZ zero_msg ?_
       intro X0 z7 hq hs hx
       have E_z7 : Ext w z7 := E_z6.trans hx
       have hA_z7 : z7.heap[A0]? = some (.cells #[.int .i64 2, .bool q.ch, .bool q.ak, .bool q.pr, .bool q.ag, .bool q.ln, .bool q.fw, .int .i64 q.ro, .int .u64 q.r, .int .u32 q.c, .int .u64 q.b, .int .u16 q.p, .int .u16 q.x, .int .i64 q.a, .int .i64 q.m, .int .i64 q.h, .int .i64 q.d] 30 (0, 0)) := (hx.block _ (heap_lt hA_z6)).trans hA_z6
       have hi_z7 : IsInts z7 .u8 (.slice av 60 cv) fr := hi_z6.ext hx
       have hc_z7 : IsInts z7 .u8 (.slice (some ⟨g1, 0, none⟩) 60 cap1) (fr.set 13 v) := hc_z6.ext hx
       have hX_z7 : z7.heap[X0]? = some (.cells #[.int .i64 0, .bool false, .bool false, .bool false, .bool false, .bool false, .bool false, .int .i64 0, .int .u64 0, .int .u32 0, .int .u64 0, .int .u16 0, .int .u16 0, .int .i64 0, .int .i64 0, .int .i64 0, .int .i64 0] 30 (0, 0)) := hq
       have hb_X0 : w.heap.size ≤ X0 := by have := E_z6.size; omega
       have hn_A0X0 : A0 ≠ X0 := by have := heap_lt hA_z6; omega
       clear hA_z6 hi_z6 hc_z6 E_z6
       clear hq hs hx)
    | ((with_reducible refine at_store 30 ?_); refine st_at rfl rfl 30 _ _ rfl X0 0 _ #[.int .i64 pq.kd, .bool pq.ch, .bool pq.ak, .bool pq.pr, .bool pq.ag, .bool pq.ln, .bool pq.fw, .int .i64 pq.ro, .int .u64 pq.r, .int .u32 pq.c, .int .u64 pq.b, .int .u16 pq.p, .int .u16 pq.x, .int .i64 pq.a, .int .i64 pq.m, .int .i64 pq.h, .int .i64 pq.d] _ #[.int .i64 pq.kd, .bool pq.ch, .bool pq.ak, .bool pq.pr, .bool pq.ag, .bool pq.ln, .bool pq.fw, .int .i64 pq.ro, .int .u64 pq.r, .int .u32 pq.c, .int .u64 pq.b, .int .u16 pq.p, .int .u16 pq.x, .int .i64 pq.a, .int .i64 pq.m, .int .i64 pq.h, .int .i64 pq.d] _ rfl rfl rfl hX_z7 (by exact (by decide : 0 + 17 ≤ 17)) (by kernel_rfl) rfl rfl ?_
       intro z8 hq hm
       have hX_z8 : z8.heap[X0]? = some (.cells #[.int .i64 pq.kd, .bool pq.ch, .bool pq.ak, .bool pq.pr, .bool pq.ag, .bool pq.ln, .bool pq.fw, .int .i64 pq.ro, .int .u64 pq.r, .int .u32 pq.c, .int .u64 pq.b, .int .u16 pq.p, .int .u16 pq.x, .int .i64 pq.a, .int .i64 pq.m, .int .i64 pq.h, .int .i64 pq.d] 30 (0, 0)) := hq
       have hA_z8 : z8.heap[A0]? = some (.cells #[.int .i64 2, .bool q.ch, .bool q.ak, .bool q.pr, .bool q.ag, .bool q.ln, .bool q.fw, .int .i64 q.ro, .int .u64 q.r, .int .u32 q.c, .int .u64 q.b, .int .u16 q.p, .int .u16 q.x, .int .i64 q.a, .int .i64 q.m, .int .i64 q.h, .int .i64 q.d] 30 (0, 0)) := (hm.heap (heap_lt hA_z7) (show ¬ A0 = X0 by omega)).trans hA_z7
       have E_z8 : Ext w z8 := Ext.mutE E_z7 hm (fun n hn h => by have h2 : n = X0 := h; omega)
       have hi_z8 : IsInts z8 .u8 (.slice av 60 cv) fr := ints_far hi_z7 hX_z7 rfl hm
       have hc_z8 : IsInts z8 .u8 (.slice (some ⟨g1, 0, none⟩) 60 cap1) (fr.set 13 v) := ints_far hc_z7 hX_z7 rfl hm
       clear hA_z7 hX_z7 hi_z7 hc_z7 E_z7
       clear hq hm))
  refine (ho2 _ _ hc_z8).mono ?_
  rintro e z9 ⟨rfl, hx⟩
  have E_z9 : Ext w z9 := E_z8.trans hx
  have hA_z9 : z9.heap[A0]? = some (.cells #[.int .i64 2, .bool q.ch, .bool q.ak, .bool q.pr, .bool q.ag, .bool q.ln, .bool q.fw, .int .i64 q.ro, .int .u64 q.r, .int .u32 q.c, .int .u64 q.b, .int .u16 q.p, .int .u16 q.x, .int .i64 q.a, .int .i64 q.m, .int .i64 q.h, .int .i64 q.d] 30 (0, 0)) := (hx.block _ (heap_lt hA_z8)).trans hA_z8
  have hX_z9 : z9.heap[X0]? = some (.cells #[.int .i64 pq.kd, .bool pq.ch, .bool pq.ak, .bool pq.pr, .bool pq.ag, .bool pq.ln, .bool pq.fw, .int .i64 pq.ro, .int .u64 pq.r, .int .u32 pq.c, .int .u64 pq.b, .int .u16 pq.p, .int .u16 pq.x, .int .i64 pq.a, .int .i64 pq.m, .int .i64 pq.h, .int .i64 pq.d] 30 (0, 0)) := (hx.block _ (heap_lt hX_z8)).trans hX_z8
  have hi_z9 : IsInts z9 .u8 (.slice av 60 cv) fr := hi_z8.ext hx
  have hc_z9 : IsInts z9 .u8 (.slice (some ⟨g1, 0, none⟩) 60 cap1) (fr.set 13 v) := hc_z8.ext hx
  clear hA_z8 hX_z8 hi_z8 hc_z8 E_z8
  clear hx
  go_wp2_with (first
    | fail
    | ((with_reducible refine at_alloc 30 ?_); refine al_zero rfl 30 rfl MZ zero_msg ?_
       intro Y0 z10 hq hs hx
       have E_z10 : Ext w z10 := E_z9.trans hx
       have hA_z10 : z10.heap[A0]? = some (.cells #[.int .i64 2, .bool q.ch, .bool q.ak, .bool q.pr, .bool q.ag, .bool q.ln, .bool q.fw, .int .i64 q.ro, .int .u64 q.r, .int .u32 q.c, .int .u64 q.b, .int .u16 q.p, .int .u16 q.x, .int .i64 q.a, .int .i64 q.m, .int .i64 q.h, .int .i64 q.d] 30 (0, 0)) := (hx.block _ (heap_lt hA_z9)).trans hA_z9
       have hX_z10 : z10.heap[X0]? = some (.cells #[.int .i64 pq.kd, .bool pq.ch, .bool pq.ak, .bool pq.pr, .bool pq.ag, .bool pq.ln, .bool pq.fw, .int .i64 pq.ro, .int .u64 pq.r, .int .u32 pq.c, .int .u64 pq.b, .int .u16 pq.p, .int .u16 pq.x, .int .i64 pq.a, .int .i64 pq.m, .int .i64 pq.h, .int .i64 pq.d] 30 (0, 0)) := (hx.block _ (heap_lt hX_z9)).trans hX_z9
       have hY_z10 : z10.heap[Y0]? = some (.cells #[.int .i64 0, .bool false, .bool false, .bool false, .bool false, .bool false, .bool false, .int .i64 0, .int .u64 0, .int .u32 0, .int .u64 0, .int .u16 0, .int .u16 0, .int .i64 0, .int .i64 0, .int .i64 0, .int .i64 0] 30 (0, 0)) := hq
       have hb_Y0 : w.heap.size ≤ Y0 := by have := E_z9.size; omega
       have hn_A0Y0 : A0 ≠ Y0 := by have := heap_lt hA_z9; omega
       have hn_X0Y0 : X0 ≠ Y0 := by have := heap_lt hX_z9; omega
       clear hA_z9 hX_z9 E_z9
       clear hq hs hx)
    | ((with_reducible refine at_store 30 ?_); refine st_at rfl rfl 30 _ _ rfl Y0 0 _ #[.int .i64 pq.kd, .bool pq.ch, .bool pq.ak, .bool pq.pr, .bool pq.ag, .bool pq.ln, .bool pq.fw, .int .i64 pq.ro, .int .u64 pq.r, .int .u32 pq.c, .int .u64 pq.b, .int .u16 pq.p, .int .u16 pq.x, .int .i64 pq.a, .int .i64 pq.m, .int .i64 pq.h, .int .i64 pq.d] _ #[.int .i64 pq.kd, .bool pq.ch, .bool pq.ak, .bool pq.pr, .bool pq.ag, .bool pq.ln, .bool pq.fw, .int .i64 pq.ro, .int .u64 pq.r, .int .u32 pq.c, .int .u64 pq.b, .int .u16 pq.p, .int .u16 pq.x, .int .i64 pq.a, .int .i64 pq.m, .int .i64 pq.h, .int .i64 pq.d] _ rfl rfl rfl hY_z10 (by exact (by decide : 0 + 17 ≤ 17)) (by kernel_rfl) rfl rfl ?_
       intro z11 hq hm
       have hY_z11 : z11.heap[Y0]? = some (.cells #[.int .i64 pq.kd, .bool pq.ch, .bool pq.ak, .bool pq.pr, .bool pq.ag, .bool pq.ln, .bool pq.fw, .int .i64 pq.ro, .int .u64 pq.r, .int .u32 pq.c, .int .u64 pq.b, .int .u16 pq.p, .int .u16 pq.x, .int .i64 pq.a, .int .i64 pq.m, .int .i64 pq.h, .int .i64 pq.d] 30 (0, 0)) := hq
       have hA_z11 : z11.heap[A0]? = some (.cells #[.int .i64 2, .bool q.ch, .bool q.ak, .bool q.pr, .bool q.ag, .bool q.ln, .bool q.fw, .int .i64 q.ro, .int .u64 q.r, .int .u32 q.c, .int .u64 q.b, .int .u16 q.p, .int .u16 q.x, .int .i64 q.a, .int .i64 q.m, .int .i64 q.h, .int .i64 q.d] 30 (0, 0)) := (hm.heap (heap_lt hA_z10) (show ¬ A0 = Y0 by omega)).trans hA_z10
       have hX_z11 : z11.heap[X0]? = some (.cells #[.int .i64 pq.kd, .bool pq.ch, .bool pq.ak, .bool pq.pr, .bool pq.ag, .bool pq.ln, .bool pq.fw, .int .i64 pq.ro, .int .u64 pq.r, .int .u32 pq.c, .int .u64 pq.b, .int .u16 pq.p, .int .u16 pq.x, .int .i64 pq.a, .int .i64 pq.m, .int .i64 pq.h, .int .i64 pq.d] 30 (0, 0)) := (hm.heap (heap_lt hX_z10) (show ¬ X0 = Y0 by omega)).trans hX_z10
       have E_z11 : Ext w z11 := Ext.mutE E_z10 hm (fun n hn h => by have h2 : n = Y0 := h; omega)
       clear hA_z10 hX_z10 hY_z10 E_z10
       clear hq hm)
    | ((with_reducible refine at_loadG 30 ?_); refine wpList_load_rowG rfl 30 _ rfl X0 rfl 30 #[.int .i64 pq.kd, .bool pq.ch, .bool pq.ak, .bool pq.pr, .bool pq.ag, .bool pq.ln, .bool pq.fw, .int .i64 pq.ro, .int .u64 pq.r, .int .u32 pq.c, .int .u64 pq.b, .int .u16 pq.p, .int .u16 pq.x, .int .i64 pq.a, .int .i64 pq.m, .int .i64 pq.h, .int .i64 pq.d] (0, 0) _ hX_z11 Try.underlying30 rfl (by kernel_rfl) ?_)
    | ((with_reducible refine at_loadG 30 ?_); refine wpList_load_rowG rfl 30 _ rfl Y0 rfl 30 #[.int .i64 pq.kd, .bool pq.ch, .bool pq.ak, .bool pq.pr, .bool pq.ag, .bool pq.ln, .bool pq.fw, .int .i64 pq.ro, .int .u64 pq.r, .int .u32 pq.c, .int .u64 pq.b, .int .u16 pq.p, .int .u16 pq.x, .int .i64 pq.a, .int .i64 pq.m, .int .i64 pq.h, .int .i64 pq.d] (0, 0) _ hY_z11 Try.underlying30 rfl (by kernel_rfl) ?_))
  all_goals
    go_ret
    exact ⟨rfl, E_z11⟩
theorem law_LlcSizes {w : World} (s : Int) (hs : 0 ≤ s ∧ s < 18446744073709551616) (mc : List Value) (hmc : Typed ML mc) (v : Int) (hv : 0 ≤ v ∧ v < 256) : Calls Try.prog 11 #[.int .u64 s, .agg mc.toArray, .int .u8 v] w fun e w' => e = .returned (.bool true) ∧ Ext w w' := by
  obtain ⟨q, hq, e⟩ := open_mg hmc
  rw [e]
  by_cases h1 : v < 3
  · exact cLlcSizes_lo s hs q hq v hv h1
  by_cases h2 : 46 < v
  · exact cLlcSizes_hi s hs q hq v hv h2
  by_cases h3 : v < 39
  · exact cLlcSizes_mid s hs q hq v hv (by omega)
  · exact cLlcSizes_same s hs q hq v hv (by omega)

end Go.Proofs.Ytdfaagchlnkpnaa
