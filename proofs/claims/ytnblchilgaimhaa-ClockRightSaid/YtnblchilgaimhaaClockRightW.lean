/- The walk of ClockRight. No statement is proved here. -/
import Derived.Test.YtnblchilgaimhaaClkM
namespace Go.Proofs.Ytnblchilgaimhaa
open Go.RowKit Go.BigFrame Go.WideShapes Go.ChangeShapes Go.Deep
set_option linter.unusedVariables false

set_option maxRecDepth 100000 in
set_option maxHeartbeats 2000000 in
theorem law_ClockRight {w : World} (c : Array Value) (B : Br) (hb : BrC w c B) (ho : B.ok) :
    Calls Try.prog 3 #[.agg c] w fun e w' => e = .returned (.bool true) ∧ Ext w w' := by
  have HB := Lib.hid hb
  obtain ⟨s1, s2, s3, hz, hhd, c17, c18, c19, r1, r2, r3⟩ := hb.facts ho.hd.1
  obtain ⟨a1, k1, rfl, m1, -⟩ := r1.form
  obtain ⟨a2, k2, rfl, m2, -⟩ := r2.form
  obtain ⟨a3, k3, rfl, m3, -⟩ := r3.form
  have hi20 := Lib.hid (show (Try.prog.info? 33).map (·.size) = some c.size by rw [hz]; exact size_br)
  clear hz hhd hb r1 r2 r3
  go_enter Try.func3, Try.ntmps3
  go_wp2_with fail
  refine (ckw_awake _).mono ?_
  rintro e w1 ⟨rfl, hE1⟩
  have hbx := box_cell hE1
  have HBH := Lib.hid (box_heap hE1)
  have HE1 := Lib.hid hE1
  have HBW := Lib.hid (HB.out.ext (((Ext.refl w).alloc _).trans hE1))
  clear hE1
  go_wp2_with fail
  all_goals first
    | (go_ret
       exact ⟨rfl, ((Ext.refl w).alloc _).trans HE1.out⟩)
    | skip
  refine beginL (S := fun W' => Ext w1 W') (by kernel_rfl) ?_
  intro wd hq0
  refine takeL (i := 0) (v := (.bool true)) rfl (by kernel_rfl) (by kernel_rfl) (by kernel_rfl) (fun _ _ _ h => h) (Or.inl ⟨rfl, fun _ _ => rfl⟩) hq0 ?_
  simp only [Act.put, List.setIfInBounds_toArray, List.set_cons_zero, List.set_cons_succ]
  refine takeL (i := 1) (v := (.bool true)) rfl (by kernel_rfl) (by kernel_rfl) (by kernel_rfl) (fun _ _ _ h => h) (Or.inl ⟨rfl, fun _ _ => rfl⟩) hq0 ?_
  simp only [Act.put, List.setIfInBounds_toArray, List.set_cons_zero, List.set_cons_succ]
  refine takeL (i := 2) (v := _) rfl (by kernel_rfl) (by kernel_rfl) (by kernel_rfl) (fun _ _ _ h => h) (yieldsIf_load_row rfl 33 _ rfl w.heap.size rfl c _ _ HBH.out Try.underlying33 rfl hi20.out) hq0 ?_
  simp only [Act.put, List.setIfInBounds_toArray, List.set_cons_zero, List.set_cons_succ]
  refine takeL (i := 4) (v := _) rfl (by kernel_rfl) (by kernel_rfl) (by kernel_rfl) (fun _ _ _ h => h) (yieldsIf_load_row rfl 33 _ rfl w.heap.size rfl c _ _ HBH.out Try.underlying33 rfl hi20.out) hq0 ?_
  simp only [Act.put, List.setIfInBounds_toArray, List.set_cons_zero, List.set_cons_succ]
  refine runG (i := 3) rfl (by rfl) (by kernel_rfl) (fun K hK => ?_)
  go_simp
  refine (cright_any c B _ (HBW.out.ext hq0) ho).mono ?_
  rintro e y1 ⟨f1, rfl, hx, hf1⟩
  have hq1 := Ext.trans hq0 hx
  clear hx hq0
  have HF1 := Lib.hid hf1
  clear hf1
  refine hK.out _ _ hq1 (fun hHeld => ?_)
  try simp only [Act.put, List.setIfInBounds_toArray, List.set_cons_zero, List.set_cons_succ]
  clear hK K hHeld
  refine runG (i := 5) rfl (by rfl) (by kernel_rfl) (fun K hK => ?_)
  go_simp
  refine (right_any c B _ (HBW.out.ext hq1) ho).mono ?_
  rintro e y2 ⟨f2, rfl, hx, hf2⟩
  have hq2 := Ext.trans hq1 hx
  clear hx hq1
  obtain rfl : f1 = f2 := by rw [Bool.eq_iff_iff, HF1.out, hf2]
  clear hf2
  refine hK.out _ _ hq2 (fun hHeld => ?_)
  try simp only [Act.put, List.setIfInBounds_toArray, List.set_cons_zero, List.set_cons_succ]
  clear hK K hHeld
  refine takeL (i := 6) (v := (.bool true)) rfl (by kernel_rfl) (by kernel_rfl) (by kernel_rfl) (fun _ _ _ h => h) (Or.inl ⟨rfl, fun W' _ => by go_simp⟩) hq2 ?_
  simp only [Act.put, List.setIfInBounds_toArray, List.set_cons_zero, List.set_cons_succ]
  refine takeL (i := 7) (v := (.bool true)) rfl (by kernel_rfl) (by kernel_rfl) (by kernel_rfl) (fun _ _ _ h => h) (Or.inl ⟨rfl, fun _ _ => rfl⟩) hq2 ?_
  simp only [Act.put, List.setIfInBounds_toArray, List.set_cons_zero, List.set_cons_succ]
  refine takeL (i := 8) (v := (.bool true)) rfl (by kernel_rfl) (by kernel_rfl) (by kernel_rfl) (fun _ _ _ h => h) (Or.inl ⟨rfl, fun _ _ => rfl⟩) hq2 ?_
  simp only [Act.put, List.setIfInBounds_toArray, List.set_cons_zero, List.set_cons_succ]
  refine wpAnyH_done (by kernel_rfl) ?_ _
  go_wp2_with fail
  go_ret
  exact ⟨rfl, ((Ext.refl w).alloc _).trans (HE1.out.trans hq2)⟩

end Go.Proofs.Ytnblchilgaimhaa
