/- The walk of LlcWraps. No statement is proved here. -/
import Derived.Test.YtdfaagchlnkpnaaLlM
import Derived.Test.YtdfaagchlnkpnaaLlE
namespace Go.Proofs.Ytdfaagchlnkpnaa
open Go.RowKit Go.BigFrame Go.WideShapes Go.ChangeShapes Go.Deep
set_option linter.unusedVariables false
set_option linter.unusedSimpArgs false

theorem toExtL {P : Program} {f : FuncId} {args : Array Value} {w : World} {v : Value} (h : Calls P f args w fun e w' => e = .returned v ∧ w = w') : Calls P f args w fun e w' => e = .returned v ∧ Ext w w' :=
  h.mono fun e w' ⟨h1, h2⟩ => ⟨h1, h2 ▸ Ext.refl _⟩
theorem fr_any (s : Int) (hs : 0 ≤ s ∧ s < 18446744073709551616) (q : Mg) (hq : q.ok) (w : World) : Calls Try.prog 23 #[.int .u64 s, .agg #[.int .i64 q.kd, .bool q.ch, .bool q.ak, .bool q.pr, .bool q.ag, .bool q.ln, .bool q.fw, .int .i64 q.ro, .int .u64 q.r, .int .u32 q.c, .int .u64 q.b, .int .u16 q.p, .int .u16 q.x, .int .i64 q.a, .int .i64 q.m, .int .i64 q.h, .int .i64 q.d]] w fun e w' => ∃ v, e = .returned v ∧ IsInts w' .u8 v (wrapL s q) ∧ Ext w w' := by
  by_cases hk : q.kd = 0 ∨ q.kd = 1 ∨ q.kd = 2
  · exact (wrap_any s hs q hq hk w).mono fun e w' ⟨v, h1, h2, h3⟩ => ⟨v, h1, isBytes_own h2, h3⟩
  · have e0 : wrapL s q = [] := by unfold wrapL; rw [if_pos (by rw [encL_len, if_neg (by omega), if_neg (by omega), if_neg (by omega)])]
    rw [e0]
    exact (wrap_no s hs q hq hk w).mono fun e w' ⟨h1, h2⟩ => ⟨_, h1, .inl ⟨rfl, .inl rfl⟩, h2⟩
theorem frd_any (s : Int) (hs : 0 ≤ s ∧ s < 18446744073709551616) (q : Mg) (hq : q.ok) (w : World) : Calls Try.prog 24 #[.int .u64 s, .agg #[.int .i64 q.kd, .bool q.ch, .bool q.ak, .bool q.pr, .bool q.ag, .bool q.ln, .bool q.fw, .int .i64 q.ro, .int .u64 q.r, .int .u32 q.c, .int .u64 q.b, .int .u16 q.p, .int .u16 q.x, .int .i64 q.a, .int .i64 q.m, .int .i64 q.h, .int .i64 q.d]] w fun e w' => ∃ v, e = .returned v ∧ IsInts w' .u8 v (wrapL s q) ∧ Ext w w' := by
  by_cases hk : q.kd = 0 ∨ q.kd = 1 ∨ q.kd = 2
  · exact (dwrap_yes s hs q hq hk w).mono fun e w' ⟨v, h1, h2, h3⟩ => ⟨v, h1, isBytes_own h2, h3⟩
  · have e0 : wrapL s q = [] := by unfold wrapL; rw [if_pos (by rw [encL_len, if_neg (by omega), if_neg (by omega), if_neg (by omega)])]
    rw [e0]
    exact (dwrap_no s hs q hq hk w).mono fun e w' ⟨h1, h2⟩ => ⟨_, h1, .inl ⟨rfl, .inl rfl⟩, h2⟩
set_option maxRecDepth 100000 in
set_option maxHeartbeats 2000000 in
theorem cLlcWraps {w : World} (s : Int) (hs : 0 ≤ s ∧ s < 18446744073709551616) (q : Mg) (hq : q.ok) : Calls Try.prog 8 #[.int .u64 s, .agg #[.int .i64 q.kd, .bool q.ch, .bool q.ak, .bool q.pr, .bool q.ag, .bool q.ln, .bool q.fw, .int .i64 q.ro, .int .u64 q.r, .int .u32 q.c, .int .u64 q.b, .int .u16 q.p, .int .u16 q.x, .int .i64 q.a, .int .i64 q.m, .int .i64 q.h, .int .i64 q.d]] w fun e w' => e = .returned (.bool true) ∧ Ext w w' := by
  go_enter Try.func8, Try.ntmps8
  go_wp2_with fail
  have hA_w0 : (w.alloc (.cells #[.int .i64 q.kd, .bool q.ch, .bool q.ak, .bool q.pr, .bool q.ag, .bool q.ln, .bool q.fw, .int .i64 q.ro, .int .u64 q.r, .int .u32 q.c, .int .u64 q.b, .int .u16 q.p, .int .u16 q.x, .int .i64 q.a, .int .i64 q.m, .int .i64 q.h, .int .i64 q.d] 30)).heap[w.heap.size]? = some (.cells #[.int .i64 q.kd, .bool q.ch, .bool q.ak, .bool q.pr, .bool q.ag, .bool q.ln, .bool q.fw, .int .i64 q.ro, .int .u64 q.r, .int .u32 q.c, .int .u64 q.b, .int .u16 q.p, .int .u16 q.x, .int .i64 q.a, .int .i64 q.m, .int .i64 q.h, .int .i64 q.d] 30 (0, 0)) := heap_alloc_new _ _
  have hE_w0 : Ext w (w.alloc (.cells #[.int .i64 q.kd, .bool q.ch, .bool q.ak, .bool q.pr, .bool q.ag, .bool q.ln, .bool q.fw, .int .i64 q.ro, .int .u64 q.r, .int .u32 q.c, .int .u64 q.b, .int .u16 q.p, .int .u16 q.x, .int .i64 q.a, .int .i64 q.m, .int .i64 q.h, .int .i64 q.d] 30)) := (Ext.refl _).alloc _
  generalize w.alloc (.cells #[.int .i64 q.kd, .bool q.ch, .bool q.ak, .bool q.pr, .bool q.ag, .bool q.ln, .bool q.fw, .int .i64 q.ro, .int .u64 q.r, .int .u32 q.c, .int .u64 q.b, .int .u16 q.p, .int .u16 q.x, .int .i64 q.a, .int .i64 q.m, .int .i64 q.h, .int .i64 q.d] 30) = w0 at *
  obtain ⟨A0, hA0⟩ : ∃ n, w.heap.size = n := ⟨_, rfl⟩
  rw [hA0] at hA_w0 ⊢
  refine (awake6 _).mono ?_
  rintro e z1 ⟨rfl, hx⟩
  have E_z1 : Ext w0 z1 := hx
  have hA_z1 : z1.heap[A0]? = some (.cells #[.int .i64 q.kd, .bool q.ch, .bool q.ak, .bool q.pr, .bool q.ag, .bool q.ln, .bool q.fw, .int .i64 q.ro, .int .u64 q.r, .int .u32 q.c, .int .u64 q.b, .int .u16 q.p, .int .u16 q.x, .int .i64 q.a, .int .i64 q.m, .int .i64 q.h, .int .i64 q.d] 30 (0, 0)) := (hx.block _ (heap_lt hA_w0)).trans hA_w0
  clear hA_w0
  clear hx
  go_wp2_with fail
  refine beginL (S := fun W' => Ext z1 W') (by kernel_rfl) ?_
  intro wd hqx
  have hq0 : Ext z1 wd := hqx
  refine takeL (i := 0) (v := (.bool true)) rfl (by kernel_rfl) (by kernel_rfl) (by kernel_rfl) (fun _ _ _ h => h) (Or.inl ⟨rfl, fun _ _ => rfl⟩) hq0 ?_
  simp only [Act.put, List.setIfInBounds_toArray, List.set_cons_zero, List.set_cons_succ]
  refine takeL (i := 1) (v := (.bool true)) rfl (by kernel_rfl) (by kernel_rfl) (by kernel_rfl) (fun _ _ _ h => h) (Or.inl ⟨rfl, fun _ _ => rfl⟩) hq0 ?_
  simp only [Act.put, List.setIfInBounds_toArray, List.set_cons_zero, List.set_cons_succ]
  refine takeL (i := 2) (v := (.int .u64 s)) rfl (by kernel_rfl) (by kernel_rfl) (by kernel_rfl) (fun _ _ _ h => h) (Or.inl ⟨rfl, fun _ _ => rfl⟩) hq0 ?_
  simp only [Act.put, List.setIfInBounds_toArray, List.set_cons_zero, List.set_cons_succ]
  refine takeL (i := 3) (v := _) rfl (by kernel_rfl) (by kernel_rfl) (by kernel_rfl) (fun _ _ _ h => h) (yieldsIf_rowS rfl 30 _ rfl A0 rfl #[.int .i64 q.kd, .bool q.ch, .bool q.ak, .bool q.pr, .bool q.ag, .bool q.ln, .bool q.fw, .int .i64 q.ro, .int .u64 q.r, .int .u32 q.c, .int .u64 q.b, .int .u16 q.p, .int .u16 q.x, .int .i64 q.a, .int .i64 q.m, .int .i64 q.h, .int .i64 q.d] _ _ (fun W' hW' => ((hW'.block _ (heap_lt hA_z1)).trans hA_z1)) Try.underlying30 rfl (by kernel_rfl)) hq0 ?_
  simp only [Act.put, List.setIfInBounds_toArray, List.set_cons_zero, List.set_cons_succ]
  refine takeL (i := 5) (v := (.int .u64 s)) rfl (by kernel_rfl) (by kernel_rfl) (by kernel_rfl) (fun _ _ _ h => h) (Or.inl ⟨rfl, fun _ _ => rfl⟩) hq0 ?_
  simp only [Act.put, List.setIfInBounds_toArray, List.set_cons_zero, List.set_cons_succ]
  refine takeL (i := 6) (v := _) rfl (by kernel_rfl) (by kernel_rfl) (by kernel_rfl) (fun _ _ _ h => h) (yieldsIf_rowS rfl 30 _ rfl A0 rfl #[.int .i64 q.kd, .bool q.ch, .bool q.ak, .bool q.pr, .bool q.ag, .bool q.ln, .bool q.fw, .int .i64 q.ro, .int .u64 q.r, .int .u32 q.c, .int .u64 q.b, .int .u16 q.p, .int .u16 q.x, .int .i64 q.a, .int .i64 q.m, .int .i64 q.h, .int .i64 q.d] _ _ (fun W' hW' => ((hW'.block _ (heap_lt hA_z1)).trans hA_z1)) Try.underlying30 rfl (by kernel_rfl)) hq0 ?_
  simp only [Act.put, List.setIfInBounds_toArray, List.set_cons_zero, List.set_cons_succ]
  refine runG (i := 4) rfl (by rfl) (by kernel_rfl) (fun K hK => ?_)
  go_simp
  refine (fr_any s hs q hq _).mono ?_
  rintro e wc1 ⟨v8, rfl, hi8, hx⟩
  have hq1 := hq0.trans hx
  refine hK.out _ _ hq1 (fun hHeld => ?_)
  try simp only [Act.put, List.setIfInBounds_toArray, List.set_cons_zero, List.set_cons_succ]
  clear hK K hHeld
  refine anyH_mono (S2 := fun W' => Ext wc1 W') (fun W' h => hq1.trans h) _ _ _ _ ?_
  have hq2 : Ext wc1 wc1 := Ext.refl _
  refine runG (i := 7) rfl (by rfl) (by kernel_rfl) (fun K hK => ?_)
  go_simp
  refine (frd_any s hs q hq _).mono ?_
  rintro e wc3 ⟨v10, rfl, hi10, hx⟩
  have hq3 := hq2.trans hx
  have hj8 := hi8.ext hx
  refine hK.out _ _ hq3 (fun hHeld => ?_)
  try simp only [Act.put, List.setIfInBounds_toArray, List.set_cons_zero, List.set_cons_succ]
  clear hK K hHeld
  refine anyH_mono (S2 := fun W' => Ext wc3 W') (fun W' h => hq3.trans h) _ _ _ _ ?_
  have hq4 : Ext wc3 wc3 := Ext.refl _
  refine runG (i := 8) rfl (by rfl) (by kernel_rfl) (fun K hK => ?_)
  go_simp
  refine (toExtL (same_yes hj8 hi10)).mono ?_
  rintro e wc5 ⟨rfl, hx⟩
  have hq5 := hq4.trans hx
  refine hK.out _ _ hq5 (fun hHeld => ?_)
  try simp only [Act.put, List.setIfInBounds_toArray, List.set_cons_zero, List.set_cons_succ]
  clear hK K hHeld
  refine takeL (i := 9) (v := (.bool true)) rfl (by kernel_rfl) (by kernel_rfl) (by kernel_rfl) (fun _ _ _ h => h) (Or.inl ⟨rfl, fun _ _ => rfl⟩) hq5 ?_
  simp only [Act.put, List.setIfInBounds_toArray, List.set_cons_zero, List.set_cons_succ]
  refine takeL (i := 10) (v := (.bool true)) rfl (by kernel_rfl) (by kernel_rfl) (by kernel_rfl) (fun _ _ _ h => h) (Or.inl ⟨rfl, fun _ _ => rfl⟩) hq5 ?_
  simp only [Act.put, List.setIfInBounds_toArray, List.set_cons_zero, List.set_cons_succ]
  refine wpAnyH_done (by kernel_rfl) ?_ _
  have hq6 := (hq1.trans (hq3.trans hq5))
  generalize wc5 = z2 at *
  have hA_z2 : z2.heap[A0]? = some (.cells #[.int .i64 q.kd, .bool q.ch, .bool q.ak, .bool q.pr, .bool q.ag, .bool q.ln, .bool q.fw, .int .i64 q.ro, .int .u64 q.r, .int .u32 q.c, .int .u64 q.b, .int .u16 q.p, .int .u16 q.x, .int .i64 q.a, .int .i64 q.m, .int .i64 q.h, .int .i64 q.d] 30 (0, 0)) := (hq6.block _ (heap_lt hA_z1)).trans hA_z1
  have E_z2 : Ext w0 z2 := E_z1.trans hq6
  clear hA_z1 E_z1
  clear hq0 hq1 hq2 hq3 hq4 hq5 hq6
  go_wp2_with fail
  all_goals
    go_ret
    exact ⟨rfl, hE_w0.trans E_z2⟩
theorem law_LlcWraps {w : World} (s : Int) (hs : 0 ≤ s ∧ s < 18446744073709551616) (mc : List Value) (hmc : Typed ML mc) : Calls Try.prog 8 #[.int .u64 s, .agg mc.toArray] w fun e w' => e = .returned (.bool true) ∧ Ext w w' := by
  obtain ⟨q, hq, e⟩ := open_mg hmc
  rw [e]
  exact cLlcWraps s hs q hq

end Go.Proofs.Ytdfaagchlnkpnaa
