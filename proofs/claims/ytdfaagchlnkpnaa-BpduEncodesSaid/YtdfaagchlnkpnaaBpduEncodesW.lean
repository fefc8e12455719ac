/- The walk of BpduEncodes. No statement is proved here. -/
import Derived.Test.YtdfaagchlnkpnaaBpL
namespace Go.Proofs.Ytdfaagchlnkpnaa
open Go.RowKit Go.BigFrame Go.WideShapes Go.ChangeShapes Go.Deep
set_option linter.unusedVariables false
set_option linter.unusedSimpArgs false

set_option maxRecDepth 100000 in
set_option maxHeartbeats 2000000 in
theorem cBpduEncodes_a {w : World} (q : Mg) (hq : q.ok)  : Calls Try.prog 3 #[.agg #[.int .i64 q.kd, .bool q.ch, .bool q.ak, .bool q.pr, .bool q.ag, .bool q.ln, .bool q.fw, .int .i64 q.ro, .int .u64 q.r, .int .u32 q.c, .int .u64 q.b, .int .u16 q.p, .int .u16 q.x, .int .i64 q.a, .int .i64 q.m, .int .i64 q.h, .int .i64 q.d]] w fun e w' => e = .returned (.bool true) ∧ Ext w w' := by
  obtain ⟨pq, hpq⟩ : ∃ p, plainM q = p := ⟨_, rfl⟩
  have hpo := plain_ok q hq
  rw [hpq] at hpo
  have heqp := eq_msg pq hpo
  clear hpo
  have HP := Lib.hid (show ∀ w : World, Calls Try.prog 19 #[.agg #[.int .i64 q.kd, .bool q.ch, .bool q.ak, .bool q.pr, .bool q.ag, .bool q.ln, .bool q.fw, .int .i64 q.ro, .int .u64 q.r, .int .u32 q.c, .int .u64 q.b, .int .u16 q.p, .int .u16 q.x, .int .i64 q.a, .int .i64 q.m, .int .i64 q.h, .int .i64 q.d]] w fun e w' => e = .returned (.agg #[.int .i64 pq.kd, .bool pq.ch, .bool pq.ak, .bool pq.pr, .bool pq.ag, .bool pq.ln, .bool pq.fw, .int .i64 pq.ro, .int .u64 pq.r, .int .u32 pq.c, .int .u64 pq.b, .int .u16 pq.p, .int .u16 pq.x, .int .i64 pq.a, .int .i64 pq.m, .int .i64 pq.h, .int .i64 pq.d]) ∧ Ext w w' from fun w => by
    have := plain_any q hq w
    rw [hpq] at this
    exact this)
  have HQ := Lib.hid (show ∀ w : World, Calls Try.prog 20 #[.agg #[.int .i64 q.kd, .bool q.ch, .bool q.ak, .bool q.pr, .bool q.ag, .bool q.ln, .bool q.fw, .int .i64 q.ro, .int .u64 q.r, .int .u32 q.c, .int .u64 q.b, .int .u16 q.p, .int .u16 q.x, .int .i64 q.a, .int .i64 q.m, .int .i64 q.h, .int .i64 q.d]] w fun e w' => e = .returned (.agg #[.int .i64 pq.kd, .bool pq.ch, .bool pq.ak, .bool pq.pr, .bool pq.ag, .bool pq.ln, .bool pq.fw, .int .i64 pq.ro, .int .u64 pq.r, .int .u32 pq.c, .int .u64 pq.b, .int .u16 pq.p, .int .u16 pq.x, .int .i64 pq.a, .int .i64 pq.m, .int .i64 pq.h, .int .i64 pq.d]) ∧ Ext w w' from fun w => by
    have := plaind_any q hq w
    rw [hpq] at this
    exact this)
  clear hpq
  go_enter Try.func3, Try.ntmps3
  go_wp2_with fail
  have hA_w0 : (w.alloc (.cells #[.int .i64 q.kd, .bool q.ch, .bool q.ak, .bool q.pr, .bool q.ag, .bool q.ln, .bool q.fw, .int .i64 q.ro, .int .u64 q.r, .int .u32 q.c, .int .u64 q.b, .int .u16 q.p, .int .u16 q.x, .int .i64 q.a, .int .i64 q.m, .int .i64 q.h, .int .i64 q.d] 30)).heap[w.heap.size]? = some (.cells #[.int .i64 q.kd, .bool q.ch, .bool q.ak, .bool q.pr, .bool q.ag, .bool q.ln, .bool q.fw, .int .i64 q.ro, .int .u64 q.r, .int .u32 q.c, .int .u64 q.b, .int .u16 q.p, .int .u16 q.x, .int .i64 q.a, .int .i64 q.m, .int .i64 q.h, .int .i64 q.d] 30 (0, 0)) := heap_alloc_new _ _
  have hE_w0 : Ext w (w.alloc (.cells #[.int .i64 q.kd, .bool q.ch, .bool q.ak, .bool q.pr, .bool q.ag, .bool q.ln, .bool q.fw, .int .i64 q.ro, .int .u64 q.r, .int .u32 q.c, .int .u64 q.b, .int .u16 q.p, .int .u16 q.x, .int .i64 q.a, .int .i64 q.m, .int .i64 q.h, .int .i64 q.d] 30)) := (Ext.refl _).alloc _
  generalize w.alloc (.cells #[.int .i64 q.kd, .bool q.ch, .bool q.ak, .bool q.pr, .bool q.ag, .bool q.ln, .bool q.fw, .int .i64 q.ro, .int .u64 q.r, .int .u32 q.c, .int .u64 q.b, .int .u16 q.p, .int .u16 q.x, .int .i64 q.a, .int .i64 q.m, .int .i64 q.h, .int .i64 q.d] 30) = w0 at *
  obtain ⟨A0, hA0⟩ : ∃ n, w.heap.size = n := ⟨_, rfl⟩
  rw [hA0] at hA_w0 ⊢
  refine (awake5 _).mono ?_
  rintro e z1 ⟨rfl, hx⟩
  have E_z1 : Ext w0 z1 := hx
  have hA_z1 : z1.heap[A0]? = some (.cells #[.int .i64 q.kd, .bool q.ch, .bool q.ak, .bool q.pr, .bool q.ag, .bool q.ln, .bool q.fw, .int .i64 q.ro, .int .u64 q.r, .int .u32 q.c, .int .u64 q.b, .int .u16 q.p, .int .u16 q.x, .int .i64 q.a, .int .i64 q.m, .int .i64 q.h, .int .i64 q.d] 30 (0, 0)) := (hx.block _ (heap_lt hA_w0)).trans hA_w0
  clear hA_w0
  clear hx
  go_wp2_with fail
  refine beginL (S := fun W' => Ext z1 W') (by kernel_rfl) ?_
  intro wd hqx
  have hq0 : Ext z1 wd := hqx
  refine takeL (i := 0) (v := (.bool true)) rfl (by kernel_rfl) (by kernel_rfl) (by kernel_rfl) (fun _ _ _ h => h) (Or.inl ⟨rfl, fun _ _ => rfl⟩) hq0 ?_
  simp only [Act.put, List.setIfInBounds_toArray, List.set_cons_zero, List.set_cons_succ]
  refine takeL (i := 1) (v := (.bool true)) rfl (by kernel_rfl) (by kernel_rfl) (by kernel_rfl) (fun _ _ _ h => h) (Or.inl ⟨rfl, fun _ _ => rfl⟩) hq0 ?_
  simp only [Act.put, List.setIfInBounds_toArray, List.set_cons_zero, List.set_cons_succ]
  refine takeL (i := 2) (v := _) rfl (by kernel_rfl) (by kernel_rfl) (by kernel_rfl) (fun _ _ _ h => h) (yieldsIf_rowS rfl 30 _ rfl A0 rfl #[.int .i64 q.kd, .bool q.ch, .bool q.ak, .bool q.pr, .bool q.ag, .bool q.ln, .bool q.fw, .int .i64 q.ro, .int .u64 q.r, .int .u32 q.c, .int .u64 q.b, .int .u16 q.p, .int .u16 q.x, .int .i64 q.a, .int .i64 q.m, .int .i64 q.h, .int .i64 q.d] _ _ (fun W' hW' => ((hW'.block _ (heap_lt hA_z1)).trans hA_z1)) Try.underlying30 rfl (by kernel_rfl)) hq0 ?_
  simp only [Act.put, List.setIfInBounds_toArray, List.set_cons_zero, List.set_cons_succ]
  refine takeL (i := 4) (v := _) rfl (by kernel_rfl) (by kernel_rfl) (by kernel_rfl) (fun _ _ _ h => h) (yieldsIf_rowS rfl 30 _ rfl A0 rfl #[.int .i64 q.kd, .bool q.ch, .bool q.ak, .bool q.pr, .bool q.ag, .bool q.ln, .bool q.fw, .int .i64 q.ro, .int .u64 q.r, .int .u32 q.c, .int .u64 q.b, .int .u16 q.p, .int .u16 q.x, .int .i64 q.a, .int .i64 q.m, .int .i64 q.h, .int .i64 q.d] _ _ (fun W' hW' => ((hW'.block _ (heap_lt hA_z1)).trans hA_z1)) Try.underlying30 rfl (by kernel_rfl)) hq0 ?_
  simp only [Act.put, List.setIfInBounds_toArray, List.set_cons_zero, List.set_cons_succ]
  refine runG (i := 3) rfl (by rfl) (by kernel_rfl) (fun K hK => ?_)
  go_simp
  refine (enc_any q hq _).mono ?_
  rintro e wc1 ⟨v8, rfl, hown, hx⟩
  have hq1 := hq0.trans hx
  have hi8 := isBytes_own hown
  clear hown
  refine hK.out _ _ hq1 (fun hHeld => ?_)
  try simp only [Act.put, List.setIfInBounds_toArray, List.set_cons_zero, List.set_cons_succ]
  clear hK K hHeld
  refine anyH_mono (S2 := fun W' => Ext wc1 W') (fun W' h => hq1.trans h) _ _ _ _ ?_
  have hq2 : Ext wc1 wc1 := Ext.refl _
  refine runG (i := 5) rfl (by rfl) (by kernel_rfl) (fun K hK => ?_)
  go_simp
  refine (encd_any q hq _).mono ?_
  rintro e wc3 ⟨v10, rfl, hown, hx⟩
  have hq3 := hq2.trans hx
  have hi10 := isBytes_own hown
  have hj8 := hi8.ext hx
  clear hown
  refine hK.out _ _ hq3 (fun hHeld => ?_)
  try simp only [Act.put, List.setIfInBounds_toArray, List.set_cons_zero, List.set_cons_succ]
  clear hK K hHeld
  refine anyH_mono (S2 := fun W' => Ext wc3 W') (fun W' h => hq3.trans h) _ _ _ _ ?_
  have hq4 : Ext wc3 wc3 := Ext.refl _
  refine runG (i := 6) rfl (by rfl) (by kernel_rfl) (fun K hK => ?_)
  go_simp
  refine (toExt (same_yes hj8 hi10)).mono ?_
  rintro e wc5 ⟨rfl, hx⟩
  have hq5 := hq4.trans hx
  refine hK.out _ _ hq5 (fun hHeld => ?_)
  try simp only [Act.put, List.setIfInBounds_toArray, List.set_cons_zero, List.set_cons_succ]
  clear hK K hHeld
  refine takeL (i := 7) (v := (.bool true)) rfl (by kernel_rfl) (by kernel_rfl) (by kernel_rfl) (fun _ _ _ h => h) (Or.inl ⟨rfl, fun _ _ => rfl⟩) hq5 ?_
  simp only [Act.put, List.setIfInBounds_toArray, List.set_cons_zero, List.set_cons_succ]
  refine takeL (i := 8) (v := (.bool true)) rfl (by kernel_rfl) (by kernel_rfl) (by kernel_rfl) (fun _ _ _ h => h) (Or.inl ⟨rfl, fun _ _ => rfl⟩) hq5 ?_
  simp only [Act.put, List.setIfInBounds_toArray, List.set_cons_zero, List.set_cons_succ]
  refine takeL (i := 9) (v := _) rfl (by kernel_rfl) (by kernel_rfl) (by kernel_rfl) (fun _ _ _ h => h) (yieldsIf_rowS rfl 30 _ rfl A0 rfl #[.int .i64 q.kd, .bool q.ch, .bool q.ak, .bool q.pr, .bool q.ag, .bool q.ln, .bool q.fw, .int .i64 q.ro, .int .u64 q.r, .int .u32 q.c, .int .u64 q.b, .int .u16 q.p, .int .u16 q.x, .int .i64 q.a, .int .i64 q.m, .int .i64 q.h, .int .i64 q.d] _ _ (fun W' hW' => (((hq1.trans (hq3.trans hW')).block _ (heap_lt hA_z1)).trans hA_z1)) Try.underlying30 rfl (by kernel_rfl)) hq5 ?_
  simp only [Act.put, List.setIfInBounds_toArray, List.set_cons_zero, List.set_cons_succ]
  refine takeL (i := 11) (v := _) rfl (by kernel_rfl) (by kernel_rfl) (by kernel_rfl) (fun _ _ _ h => h) (yieldsIf_rowS rfl 30 _ rfl A0 rfl #[.int .i64 q.kd, .bool q.ch, .bool q.ak, .bool q.pr, .bool q.ag, .bool q.ln, .bool q.fw, .int .i64 q.ro, .int .u64 q.r, .int .u32 q.c, .int .u64 q.b, .int .u16 q.p, .int .u16 q.x, .int .i64 q.a, .int .i64 q.m, .int .i64 q.h, .int .i64 q.d] _ _ (fun W' hW' => (((hq1.trans (hq3.trans hW')).block _ (heap_lt hA_z1)).trans hA_z1)) Try.underlying30 rfl (by kernel_rfl)) hq5 ?_
  simp only [Act.put, List.setIfInBounds_toArray, List.set_cons_zero, List.set_cons_succ]
  refine runG (i := 10) rfl (by rfl) (by kernel_rfl) (fun K hK => ?_)
  go_simp
  refine (HP.out _).mono ?_
  rintro e wc6 ⟨rfl, hx⟩
  have hq6 := hq5.trans hx
  refine hK.out _ _ hq6 (fun hHeld => ?_)
  try simp only [Act.put, List.setIfInBounds_toArray, List.set_cons_zero, List.set_cons_succ]
  clear hK K hHeld
  refine runG (i := 12) rfl (by rfl) (by kernel_rfl) (fun K hK => ?_)
  go_simp
  refine (HQ.out _).mono ?_
  rintro e wc7 ⟨rfl, hx⟩
  have hq7 := hq6.trans hx
  refine hK.out _ _ hq7 (fun hHeld => ?_)
  try simp only [Act.put, List.setIfInBounds_toArray, List.set_cons_zero, List.set_cons_succ]
  clear hK K hHeld
  refine takeL (i := 13) (v := (.bool true)) rfl (by kernel_rfl) (by kernel_rfl) (by kernel_rfl) (fun _ _ _ h => h) (Or.inl ⟨rfl, fun W' _ => by go_simp⟩) hq7 ?_
  simp only [Act.put, List.setIfInBounds_toArray, List.set_cons_zero, List.set_cons_succ]
  refine takeL (i := 14) (v := (.bool true)) rfl (by kernel_rfl) (by kernel_rfl) (by kernel_rfl) (fun _ _ _ h => h) (Or.inl ⟨rfl, fun _ _ => rfl⟩) hq7 ?_
  simp only [Act.put, List.setIfInBounds_toArray, List.set_cons_zero, List.set_cons_succ]
  refine takeL (i := 15) (v := (.bool true)) rfl (by kernel_rfl) (by kernel_rfl) (by kernel_rfl) (fun _ _ _ h => h) (Or.inl ⟨rfl, fun _ _ => rfl⟩) hq7 ?_
  simp only [Act.put, List.setIfInBounds_toArray, List.set_cons_zero, List.set_cons_succ]
  refine wpAnyH_done (by kernel_rfl) ?_ _
  have hq8 := (hq1.trans (hq3.trans hq7))
  generalize wc7 = z2 at *
  have hA_z2 : z2.heap[A0]? = some (.cells #[.int .i64 q.kd, .bool q.ch, .bool q.ak, .bool q.pr, .bool q.ag, .bool q.ln, .bool q.fw, .int .i64 q.ro, .int .u64 q.r, .int .u32 q.c, .int .u64 q.b, .int .u16 q.p, .int .u16 q.x, .int .i64 q.a, .int .i64 q.m, .int .i64 q.h, .int .i64 q.d] 30 (0, 0)) := (hq8.block _ (heap_lt hA_z1)).trans hA_z1
  have E_z2 : Ext w0 z2 := E_z1.trans hq8
  clear hA_z1 E_z1
  clear hq0 hq1 hq2 hq3 hq4 hq5 hq6 hq7 hq8
  go_wp2_with fail
  all_goals
    go_ret
    exact ⟨rfl, hE_w0.trans E_z2⟩
theorem law_BpduEncodes {w : World} (mc : List Value) (hmc : Typed ML mc)  : Calls Try.prog 3 #[.agg mc.toArray] w fun e w' => e = .returned (.bool true) ∧ Ext w w' := by
  obtain ⟨q, hq, e⟩ := open_mg hmc
  rw [e]
  exact cBpduEncodes_a q hq

end Go.Proofs.Ytdfaagchlnkpnaa
