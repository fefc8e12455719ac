/- Small contracts of package bpdu and of the document's answer. No statement is proved here. -/
import Derived.Test.YtdfaagchlnkpnaaBpA
import Derived.Test.YtdfaagchlnkpnaaReg
import Derived.Great.BuildSlice
namespace Go.Proofs.Ytdfaagchlnkpnaa
open Go.RowKit Go.BigFrame Go.WideShapes Go.ChangeShapes Go.Deep
set_option linter.unusedVariables false
set_option linter.unusedSimpArgs false

theorem bit_q (s : Bool) (n : Int) (w : World) : Calls Try.prog 56 #[.bool s, .int .u64 n] w fun e w' => e = .returned (.int .u64 (bitV s n)) ∧ w = w' := by
  cases s
  · go_enter Try.func56, Try.ntmps56
    go_wp2
    go_ret
    exact ⟨rfl, rfl⟩
  · go_enter Try.func56, Try.ntmps56
    go_wp2
    go_ret
    exact ⟨rfl, rfl⟩
theorem toExt {P : Program} {f : FuncId} {args : Array Value} {w : World} {v : Value} (h : Calls P f args w fun e w' => e = .returned v ∧ w = w') : Calls P f args w fun e w' => e = .returned v ∧ Ext w w' :=
  h.mono fun _ _ ⟨he, hw⟩ => ⟨he, hw ▸ Ext.refl w⟩
theorem rnum_q (ro : Int) (w : World) : Calls Try.prog 57 #[.int .i64 ro] w fun e w' => e = .returned (.int .u64 (roN ro)) ∧ w = w' := by
  go_enter Try.func57, Try.ntmps57
  go_wp2_with fail
  all_goals
    go_ret
    exact ⟨by unfold roN; simp_all, rfl⟩
theorem rof_q (n : Int) (w : World) : Calls Try.prog 58 #[.int .u64 n] w fun e w' => e = .returned (.int .i64 (roB (bits .and .u64 n 3))) ∧ w = w' := by
  go_enter Try.func58, Try.ntmps58
  go_wp2_with fail
  all_goals
    go_ret
    exact ⟨by unfold roB; simp_all, rfl⟩
theorem told_q (s : Int) (w : World) : Calls Try.prog 43 #[.int .i64 s] w fun e w' => e = .returned (.int .i64 (told s)) ∧ w = w' := by
  have h := toV_rg s
  go_enter Try.func43, Try.ntmps43
  go_wp2_with fail
  refine (to_any s w).mono ?_
  rintro e _ ⟨rfl, rfl⟩
  go_wp2_with fail
  refine (from_any (toV s) w h.1 (by omega)).mono ?_
  rintro e _ ⟨rfl, rfl⟩
  go_wp2_with fail
  go_ret
  exact ⟨rfl, rfl⟩
theorem flag_q (s : Bool) (n : Int) (w : World) : Calls Try.prog 39 #[.bool s, .int .i64 n] w fun e w' => e = .returned (.int .i64 (bitV s n)) ∧ w = w' := by
  cases s
  · go_enter Try.func39, Try.ntmps39
    go_wp2
    go_ret
    exact ⟨rfl, rfl⟩
  · go_enter Try.func39, Try.ntmps39
    go_wp2
    go_ret
    exact ⟨rfl, rfl⟩
/-- A new row of four bytes. -/
theorem four_own (w : World) (a b c d : Int) : (w.alloc (.cells #[.int .u8 a, .int .u8 b, .int .u8 c, .int .u8 d] 5)).ownsRow w.heap.size 5 1 (.slice (some ⟨w.heap.size, 0, none⟩) 4 4) [a, b, c, d].length (([a, b, c, d]).map (Value.int .u8)) :=
  ⟨rfl, .inr ⟨w.heap.size, 4, _, rfl, Nat.le_refl _, heap_alloc_new w _, Nat.le_refl _, by decide, rfl, rfl⟩⟩
theorem head_yes (kd : Int) (w : World) (hk : kd = 0 ∨ kd = 1 ∨ kd = 2) : Calls Try.prog 35 #[.int .i64 kd] w fun e w' => e = .returned (.slice (some ⟨w.heap.size, 0, none⟩) 4 4) ∧ w'.ownsRow w.heap.size 5 1 (.slice (some ⟨w.heap.size, 0, none⟩) 4 4) (headL kd).length ((headL kd).map (Value.int .u8)) ∧ Ext w w' := by
  rcases hk with rfl | rfl | rfl
  · go_enter Try.func35, Try.ntmps35
    go_wp2
    go_ret
    exact ⟨rfl, four_own w 0 0 0 0, (Ext.refl w).alloc _⟩
  · go_enter Try.func35, Try.ntmps35
    go_wp2
    go_ret
    exact ⟨rfl, four_own w 0 0 0 128, (Ext.refl w).alloc _⟩
  · go_enter Try.func35, Try.ntmps35
    go_wp2
    go_ret
    exact ⟨rfl, four_own w 0 0 2 2, (Ext.refl w).alloc _⟩
theorem head_no (kd : Int) (w : World) (hk : ¬ (kd = 0 ∨ kd = 1 ∨ kd = 2)) : Calls Try.prog 35 #[.int .i64 kd] w fun e w' => e = .returned (.slice none 0 0) ∧ w = w' := by
  have e0 : (kd == 0) = false := by simp; omega
  have e1 : (kd == 1) = false := by simp; omega
  have e2 : (kd == 2) = false := by simp; omega
  go_enter Try.func35, Try.ntmps35
  go_wp2_with fail
  go_ret
  exact ⟨rfl, rfl⟩
/-- Bytes put behind a row of one's own. -/
theorem wpList_app {ops : Array Oper} {rest : List Oper} {o : Oper} {a : Act} {Q : Exit → Act → World → Prop} {w : World} (hgd : o.guard = none) (s x : Operand)
    (ho : o.op = .call { callee := .builtin .append, args := #[s, x], argTypes := #[33, 33] }) (W0 : World) (hW : Ext W0 w) (v u : Value) (xs ys : List Int) (hs : a.eval s = v) (hx : a.eval x = u)
    (hown : w.ownsRow W0.heap.size 5 1 v xs.length (xs.map (Value.int .u8))) (hu : IsInts w .u8 u ys) (hl : xs.length + ys.length ≤ 100000)
    (h : ∀ v' w', w'.ownsRow W0.heap.size 5 1 v' (xs ++ ys).length ((xs ++ ys).map (Value.int .u8)) → Ext W0 w' → w.grownBy w' v.ownBlock → wpList Try.prog ops Q rest (a.put o.dst v') w') : wpList Try.prog ops Q (o :: rest) a w := by
  obtain ⟨i0, hi, hz0, hz1, hz2⟩ := info_parts info_u8
  rcases hu with ⟨rfl, rfl | ⟨ad, cap, rfl⟩⟩ | ⟨b, off, cap, rfl, h0, hlc, hm, hb, hc⟩
  · exact wpList_append_own_none hgd s x 33 ho W0.heap.size 5 i0 1 Try.underlying33 hi v _ _ hs hown hx (h v w (by simpa using hown) hW ⟨rfl, rfl, rfl, Nat.le_refl _, fun _ _ _ => rfl⟩)
  · refine wpList_append_own w hgd s x 33 ho W0.heap.size 5 i0 (.int .u8 0) 1 1 Try.underlying33 hi hz0 hz1 hz2 rfl (by decide) v _ _ hs hown ad 0 cap [] hx rfl (fun j u hj => by simp at hj) (fun u hu => by simp at hu) (by unfold maxLen; simp at hl; omega) (by simp at hl; omega) hW.size ?_
    intro v' w1 hown' hgrow _
    exact h v' w1 (by simpa using hown') (Below.grown hW hgrow hW.size (fun g hg => (hown.lt g hg).1)) hgrow
  · refine wpList_append_own w hgd s x 33 ho W0.heap.size 5 i0 (.int .u8 0) 1 1 Try.underlying33 hi hz0 hz1 hz2 rfl (by decide) v _ _ hs hown ⟨b, off, none⟩ ys.length cap (ys.map (Value.int .u8)) hx (by simp) ?_ (fun u hu => by
      simp at hu
      obtain ⟨x, _, rfl⟩ := hu
      rfl) (by unfold maxLen; omega) (by omega) hW.size ?_
    · intro j u hj
      have hjl : j < ys.length := by
        rcases Nat.lt_or_ge j ys.length with h | h
        · exact h
        · simp [List.getElem?_eq_none h] at hj
      have hp : (⟨b, off, none⟩ : Addr).add j = ⟨b, off + j, none⟩ := by unfold Addr.add; split <;> simp_all
      rw [hp, hc j hjl]
      simp [List.getElem?_eq_getElem hjl] at hj
      subst hj
      simp [List.getD, hjl]
    · intro v' w1 hown' hgrow _
      exact h v' w1 (by simpa using hown') (Below.grown hW hgrow hW.size (fun g hg => (hown.lt g hg).1)) hgrow
set_option maxRecDepth 100000 in
theorem flags_q (q : Mg) (w : World) : Calls Try.prog 37 #[.agg #[.int .i64 q.kd, .bool q.ch, .bool q.ak, .bool q.pr, .bool q.ag, .bool q.ln, .bool q.fw, .int .i64 q.ro, .int .u64 q.r, .int .u32 q.c, .int .u64 q.b, .int .u16 q.p, .int .u16 q.x, .int .i64 q.a, .int .i64 q.m, .int .i64 q.h, .int .i64 q.d]] w fun e w' => e = .returned (.int .u64 (flagsN q)) ∧ Ext w w' := by
  go_enter Try.func37, Try.ntmps37
  go_wp2_with fail
  have hL_w0 : (w.alloc (.cells #[.int .i64 q.kd, .bool q.ch, .bool q.ak, .bool q.pr, .bool q.ag, .bool q.ln, .bool q.fw, .int .i64 q.ro, .int .u64 q.r, .int .u32 q.c, .int .u64 q.b, .int .u16 q.p, .int .u16 q.x, .int .i64 q.a, .int .i64 q.m, .int .i64 q.h, .int .i64 q.d] 30)).heap[w.heap.size]? = some (.cells #[.int .i64 q.kd, .bool q.ch, .bool q.ak, .bool q.pr, .bool q.ag, .bool q.ln, .bool q.fw, .int .i64 q.ro, .int .u64 q.r, .int .u32 q.c, .int .u64 q.b, .int .u16 q.p, .int .u16 q.x, .int .i64 q.a, .int .i64 q.m, .int .i64 q.h, .int .i64 q.d] 30 (0, 0)) := heap_alloc_new _ _
  have hE_w0 : Ext w (w.alloc (.cells #[.int .i64 q.kd, .bool q.ch, .bool q.ak, .bool q.pr, .bool q.ag, .bool q.ln, .bool q.fw, .int .i64 q.ro, .int .u64 q.r, .int .u32 q.c, .int .u64 q.b, .int .u16 q.p, .int .u16 q.x, .int .i64 q.a, .int .i64 q.m, .int .i64 q.h, .int .i64 q.d] 30)) := (Ext.refl _).alloc _
  generalize w.alloc (.cells #[.int .i64 q.kd, .bool q.ch, .bool q.ak, .bool q.pr, .bool q.ag, .bool q.ln, .bool q.fw, .int .i64 q.ro, .int .u64 q.r, .int .u32 q.c, .int .u64 q.b, .int .u16 q.p, .int .u16 q.x, .int .i64 q.a, .int .i64 q.m, .int .i64 q.h, .int .i64 q.d] 30) = w0 at *
  have hlt := heap_lt hL_w0
  obtain ⟨B0, hB0⟩ : ∃ n, w.heap.size = n := ⟨_, rfl⟩
  rw [hB0] at hL_w0 hlt ⊢
  have c1_w0 : w0.cell? ⟨B0, 1, none⟩ = some (.bool q.ch) := (cell_of_row _ _ _ _ _ _ hL_w0).trans rfl
  have c2_w0 : w0.cell? ⟨B0, 2, none⟩ = some (.bool q.ak) := (cell_of_row _ _ _ _ _ _ hL_w0).trans rfl
  refine beginL (S := fun W' => Ext w0 W') (by kernel_rfl) ?_
  intro wd hqx
  have hq0 : Ext w0 wd := hqx
  refine takeL (i := 0) (v := (.pointer (some ⟨B0, 1, none⟩))) rfl (by kernel_rfl) (by kernel_rfl) (by kernel_rfl) (fun _ _ _ h => h) (Or.inl ⟨rfl, fun _ _ => rfl⟩) hq0 ?_
  simp only [Act.put, List.setIfInBounds_toArray, List.set_cons_zero, List.set_cons_succ]
  refine takeL (i := 1) (v := _) rfl (by kernel_rfl) (by kernel_rfl) (by kernel_rfl) (fun _ _ _ h => h) (yieldsIf_cell rfl 4 _ rfl ⟨B0, 1, none⟩ rfl (.bool q.ch) _ (fun W' hW' => (hW'.cell (p := ⟨B0, 1, none⟩) hlt).trans c1_w0) Try.underlying4 rfl) hq0 ?_
  simp only [Act.put, List.setIfInBounds_toArray, List.set_cons_zero, List.set_cons_succ]
  refine takeL (i := 3) (v := (.pointer (some ⟨B0, 2, none⟩))) rfl (by kernel_rfl) (by kernel_rfl) (by kernel_rfl) (fun _ _ _ h => h) (Or.inl ⟨rfl, fun _ _ => rfl⟩) hq0 ?_
  simp only [Act.put, List.setIfInBounds_toArray, List.set_cons_zero, List.set_cons_succ]
  refine takeL (i := 4) (v := _) rfl (by kernel_rfl) (by kernel_rfl) (by kernel_rfl) (fun _ _ _ h => h) (yieldsIf_cell rfl 4 _ rfl ⟨B0, 2, none⟩ rfl (.bool q.ak) _ (fun W' hW' => (hW'.cell (p := ⟨B0, 2, none⟩) hlt).trans c2_w0) Try.underlying4 rfl) hq0 ?_
  simp only [Act.put, List.setIfInBounds_toArray, List.set_cons_zero, List.set_cons_succ]
  refine runL (i := 2) rfl rfl (by kernel_rfl) (fun K hK => ?_)
  go_simp
  refine (toExt (bit_q q.ch 1 _)).mono ?_
  rintro e wc1 ⟨rfl, hx⟩
  have hq1 := hq0.trans hx
  refine hK.out _ _ hq1 (fun hHeld => ?_)
  try simp only [Act.put, List.setIfInBounds_toArray, List.set_cons_zero, List.set_cons_succ]
  clear hK K hHeld
  refine runL (i := 5) rfl rfl (by kernel_rfl) (fun K hK => ?_)
  go_simp
  refine (toExt (bit_q q.ak 128 _)).mono ?_
  rintro e wc2 ⟨rfl, hx⟩
  have hq2 := hq1.trans hx
  refine hK.out _ _ hq2 (fun hHeld => ?_)
  try simp only [Act.put, List.setIfInBounds_toArray, List.set_cons_zero, List.set_cons_succ]
  clear hK K hHeld
  refine takeL (i := 6) (v := (.int .u64 (fl2 q.ch q.ak))) rfl (by kernel_rfl) (by kernel_rfl) (by kernel_rfl) (fun _ _ _ h => h) (Or.inl ⟨rfl, fun W' _ => by go_simp; rfl⟩) hq2 ?_
  simp only [Act.put, List.setIfInBounds_toArray, List.set_cons_zero, List.set_cons_succ]
  refine takeL (i := 7) (v := (.int .u64 (fl2 q.ch q.ak))) rfl (by kernel_rfl) (by kernel_rfl) (by kernel_rfl) (fun _ _ _ h => h) (Or.inl ⟨rfl, fun _ _ => rfl⟩) hq2 ?_
  simp only [Act.put, List.setIfInBounds_toArray, List.set_cons_zero, List.set_cons_succ]
  refine wpAnyH_done (by kernel_rfl) ?_ _
  have hL_wc2 : wc2.heap[B0]? = some (.cells #[.int .i64 q.kd, .bool q.ch, .bool q.ak, .bool q.pr, .bool q.ag, .bool q.ln, .bool q.fw, .int .i64 q.ro, .int .u64 q.r, .int .u32 q.c, .int .u64 q.b, .int .u16 q.p, .int .u16 q.x, .int .i64 q.a, .int .i64 q.m, .int .i64 q.h, .int .i64 q.d] 30 (0, 0)) := (hq2.block _ hlt).trans hL_w0
  have c0_wc2 : wc2.cell? ⟨B0, 0, none⟩ = some (.int .i64 q.kd) := (cell_of_row _ _ _ _ _ _ hL_wc2).trans rfl
  have c3_wc2 : wc2.cell? ⟨B0, 3, none⟩ = some (.bool q.pr) := (cell_of_row _ _ _ _ _ _ hL_wc2).trans rfl
  have c7_wc2 : wc2.cell? ⟨B0, 7, none⟩ = some (.int .i64 q.ro) := (cell_of_row _ _ _ _ _ _ hL_wc2).trans rfl
  have c5_wc2 : wc2.cell? ⟨B0, 5, none⟩ = some (.bool q.ln) := (cell_of_row _ _ _ _ _ _ hL_wc2).trans rfl
  have c6_wc2 : wc2.cell? ⟨B0, 6, none⟩ = some (.bool q.fw) := (cell_of_row _ _ _ _ _ _ hL_wc2).trans rfl
  have c4_wc2 : wc2.cell? ⟨B0, 4, none⟩ = some (.bool q.ag) := (cell_of_row _ _ _ _ _ _ hL_wc2).trans rfl
  have hE2 := hE_w0.trans hq2
  clear hq2 hq1 c1_w0 c2_w0
  have hlt2 := heap_lt hL_wc2
  by_cases hk : q.kd = 2
  · rw [hk] at c0_wc2
    go_wp2_with fail
    refine beginL (S := fun W' => Ext wc2 W') (by kernel_rfl) ?_
    intro wd hqx
    have hq0 : Ext wc2 wd := hqx
    refine takeL (i := 0) (v := (.int .u64 (fl2 q.ch q.ak))) rfl (by kernel_rfl) (by kernel_rfl) (by kernel_rfl) (fun _ _ _ h => h) (Or.inl ⟨rfl, fun _ _ => rfl⟩) hq0 ?_
    simp only [Act.put, List.setIfInBounds_toArray, List.set_cons_zero, List.set_cons_succ]
    refine takeL (i := 1) (v := (.pointer (some ⟨B0, 3, none⟩))) rfl (by kernel_rfl) (by kernel_rfl) (by kernel_rfl) (fun _ _ _ h => h) (Or.inl ⟨rfl, fun _ _ => rfl⟩) hq0 ?_
    simp only [Act.put, List.setIfInBounds_toArray, List.set_cons_zero, List.set_cons_succ]
    refine takeL (i := 2) (v := _) rfl (by kernel_rfl) (by kernel_rfl) (by kernel_rfl) (fun _ _ _ h => h) (yieldsIf_cell rfl 4 _ rfl ⟨B0, 3, none⟩ rfl (.bool q.pr) _ (fun W' hW' => (hW'.cell (p := ⟨B0, 3, none⟩) hlt2).trans c3_wc2) Try.underlying4 rfl) hq0 ?_
    simp only [Act.put, List.setIfInBounds_toArray, List.set_cons_zero, List.set_cons_succ]
    refine takeL (i := 4) (v := (.pointer (some ⟨B0, 7, none⟩))) rfl (by kernel_rfl) (by kernel_rfl) (by kernel_rfl) (fun _ _ _ h => h) (Or.inl ⟨rfl, fun _ _ => rfl⟩) hq0 ?_
    simp only [Act.put, List.setIfInBounds_toArray, List.set_cons_zero, List.set_cons_succ]
    refine takeL (i := 5) (v := _) rfl (by kernel_rfl) (by kernel_rfl) (by kernel_rfl) (fun _ _ _ h => h) (yieldsIf_cell rfl 3 _ rfl ⟨B0, 7, none⟩ rfl (.int .i64 q.ro) _ (fun W' hW' => (hW'.cell (p := ⟨B0, 7, none⟩) hlt2).trans c7_wc2) Try.underlying3 rfl) hq0 ?_
    simp only [Act.put, List.setIfInBounds_toArray, List.set_cons_zero, List.set_cons_succ]
    refine takeL (i := 9) (v := (.pointer (some ⟨B0, 5, none⟩))) rfl (by kernel_rfl) (by kernel_rfl) (by kernel_rfl) (fun _ _ _ h => h) (Or.inl ⟨rfl, fun _ _ => rfl⟩) hq0 ?_
    simp only [Act.put, List.setIfInBounds_toArray, List.set_cons_zero, List.set_cons_succ]
    refine takeL (i := 10) (v := _) rfl (by kernel_rfl) (by kernel_rfl) (by kernel_rfl) (fun _ _ _ h => h) (yieldsIf_cell rfl 4 _ rfl ⟨B0, 5, none⟩ rfl (.bool q.ln) _ (fun W' hW' => (hW'.cell (p := ⟨B0, 5, none⟩) hlt2).trans c5_wc2) Try.underlying4 rfl) hq0 ?_
    simp only [Act.put, List.setIfInBounds_toArray, List.set_cons_zero, List.set_cons_succ]
    refine takeL (i := 13) (v := (.pointer (some ⟨B0, 6, none⟩))) rfl (by kernel_rfl) (by kernel_rfl) (by kernel_rfl) (fun _ _ _ h => h) (Or.inl ⟨rfl, fun _ _ => rfl⟩) hq0 ?_
    simp only [Act.put, List.setIfInBounds_toArray, List.set_cons_zero, List.set_cons_succ]
    refine takeL (i := 14) (v := _) rfl (by kernel_rfl) (by kernel_rfl) (by kernel_rfl) (fun _ _ _ h => h) (yieldsIf_cell rfl 4 _ rfl ⟨B0, 6, none⟩ rfl (.bool q.fw) _ (fun W' hW' => (hW'.cell (p := ⟨B0, 6, none⟩) hlt2).trans c6_wc2) Try.underlying4 rfl) hq0 ?_
    simp only [Act.put, List.setIfInBounds_toArray, List.set_cons_zero, List.set_cons_succ]
    refine takeL (i := 17) (v := (.pointer (some ⟨B0, 4, none⟩))) rfl (by kernel_rfl) (by kernel_rfl) (by kernel_rfl) (fun _ _ _ h => h) (Or.inl ⟨rfl, fun _ _ => rfl⟩) hq0 ?_
    simp only [Act.put, List.setIfInBounds_toArray, List.set_cons_zero, List.set_cons_succ]
    refine takeL (i := 18) (v := _) rfl (by kernel_rfl) (by kernel_rfl) (by kernel_rfl) (fun _ _ _ h => h) (yieldsIf_cell rfl 4 _ rfl ⟨B0, 4, none⟩ rfl (.bool q.ag) _ (fun W' hW' => (hW'.cell (p := ⟨B0, 4, none⟩) hlt2).trans c4_wc2) Try.underlying4 rfl) hq0 ?_
    simp only [Act.put, List.setIfInBounds_toArray, List.set_cons_zero, List.set_cons_succ]
    refine runL (i := 3) rfl rfl (by kernel_rfl) (fun K hK => ?_)
    go_simp
    refine (toExt (bit_q q.pr 2 _)).mono ?_
    rintro e wc1 ⟨rfl, hx⟩
    have hq1 := hq0.trans hx
    refine hK.out _ _ hq1 (fun hHeld => ?_)
    try simp only [Act.put, List.setIfInBounds_toArray, List.set_cons_zero, List.set_cons_succ]
    clear hK K hHeld
    refine runL (i := 6) rfl rfl (by kernel_rfl) (fun K hK => ?_)
    go_simp
    refine (toExt (rnum_q q.ro _)).mono ?_
    rintro e wc2 ⟨rfl, hx⟩
    have hq2 := hq1.trans hx
    refine hK.out _ _ hq2 (fun hHeld => ?_)
    try simp only [Act.put, List.setIfInBounds_toArray, List.set_cons_zero, List.set_cons_succ]
    clear hK K hHeld
    refine takeL (i := 7) (v := (.int .u64 (roN q.ro * 4))) rfl (by kernel_rfl) (by kernel_rfl) (by kernel_rfl) (fun _ _ _ h => h) (Or.inl ⟨rfl, fun W' _ => by go_simp; have := roN_rg q.ro; rw [IntKind.wrap_u64]; omega⟩) hq2 ?_
    simp only [Act.put, List.setIfInBounds_toArray, List.set_cons_zero, List.set_cons_succ]
    refine takeL (i := 8) (v := (.int .u64 (bits .or .u64 (bitV q.pr 2) (roN q.ro * 4)))) rfl (by kernel_rfl) (by kernel_rfl) (by kernel_rfl) (fun _ _ _ h => h) (Or.inl ⟨rfl, fun W' _ => by go_simp⟩) hq2 ?_
    simp only [Act.put, List.setIfInBounds_toArray, List.set_cons_zero, List.set_cons_succ]
    refine runL (i := 11) rfl rfl (by kernel_rfl) (fun K hK => ?_)
    go_simp
    refine (toExt (bit_q q.ln 16 _)).mono ?_
    rintro e wc3 ⟨rfl, hx⟩
    have hq3 := hq2.trans hx
    refine hK.out _ _ hq3 (fun hHeld => ?_)
    try simp only [Act.put, List.setIfInBounds_toArray, List.set_cons_zero, List.set_cons_succ]
    clear hK K hHeld
    refine takeL (i := 12) (v := (.int .u64 (bits .or .u64 (bits .or .u64 (bitV q.pr 2) (roN q.ro * 4)) (bitV q.ln 16)))) rfl (by kernel_rfl) (by kernel_rfl) (by kernel_rfl) (fun _ _ _ h => h) (Or.inl ⟨rfl, fun W' _ => by go_simp⟩) hq3 ?_
    simp only [Act.put, List.setIfInBounds_toArray, List.set_cons_zero, List.set_cons_succ]
    refine runL (i := 15) rfl rfl (by kernel_rfl) (fun K hK => ?_)
    go_simp
    refine (toExt (bit_q q.fw 32 _)).mono ?_
    rintro e wc4 ⟨rfl, hx⟩
    have hq4 := hq3.trans hx
    refine hK.out _ _ hq4 (fun hHeld => ?_)
    try simp only [Act.put, List.setIfInBounds_toArray, List.set_cons_zero, List.set_cons_succ]
    clear hK K hHeld
    refine takeL (i := 16) (v := (.int .u64 (bits .or .u64 (bits .or .u64 (bits .or .u64 (bitV q.pr 2) (roN q.ro * 4)) (bitV q.ln 16)) (bitV q.fw 32)))) rfl (by kernel_rfl) (by kernel_rfl) (by kernel_rfl) (fun _ _ _ h => h) (Or.inl ⟨rfl, fun W' _ => by go_simp⟩) hq4 ?_
    simp only [Act.put, List.setIfInBounds_toArray, List.set_cons_zero, List.set_cons_succ]
    refine runL (i := 19) rfl rfl (by kernel_rfl) (fun K hK => ?_)
    go_simp
    refine (toExt (bit_q q.ag 64 _)).mono ?_
    rintro e wc5 ⟨rfl, hx⟩
    have hq5 := hq4.trans hx
    refine hK.out _ _ hq5 (fun hHeld => ?_)
    try simp only [Act.put, List.setIfInBounds_toArray, List.set_cons_zero, List.set_cons_succ]
    clear hK K hHeld
    refine takeL (i := 20) (v := (.int .u64 (bits .or .u64 (bits .or .u64 (bits .or .u64 (bits .or .u64 (bitV q.pr 2) (roN q.ro * 4)) (bitV q.ln 16)) (bitV q.fw 32)) (bitV q.ag 64)))) rfl (by kernel_rfl) (by kernel_rfl) (by kernel_rfl) (fun _ _ _ h => h) (Or.inl ⟨rfl, fun W' _ => by go_simp⟩) hq5 ?_
    simp only [Act.put, List.setIfInBounds_toArray, List.set_cons_zero, List.set_cons_succ]
    refine takeL (i := 21) (v := (.int .u64 (fl6 q.ch q.ak q.pr q.ag q.ln q.fw (roN q.ro)))) rfl (by kernel_rfl) (by kernel_rfl) (by kernel_rfl) (fun _ _ _ h => h) (Or.inl ⟨rfl, fun W' _ => by go_simp; rfl⟩) hq5 ?_
    simp only [Act.put, List.setIfInBounds_toArray, List.set_cons_zero, List.set_cons_succ]
    refine takeL (i := 22) (v := (.int .u64 (fl6 q.ch q.ak q.pr q.ag q.ln q.fw (roN q.ro)))) rfl (by kernel_rfl) (by kernel_rfl) (by kernel_rfl) (fun _ _ _ h => h) (Or.inl ⟨rfl, fun _ _ => rfl⟩) hq5 ?_
    simp only [Act.put, List.setIfInBounds_toArray, List.set_cons_zero, List.set_cons_succ]
    refine wpAnyH_done (by kernel_rfl) ?_ _
    go_wp2_with fail
    go_ret
    refine ⟨?_, hE2.trans hq5⟩
    unfold flagsN
    rw [if_pos hk]
    rfl
  · have hk2 : (q.kd == 2) = false := by simpa using hk
    go_wp2_with fail
    go_ret
    refine ⟨?_, hE2⟩
    unfold flagsN
    rw [if_neg hk]
    rfl

end Go.Proofs.Ytdfaagchlnkpnaa
