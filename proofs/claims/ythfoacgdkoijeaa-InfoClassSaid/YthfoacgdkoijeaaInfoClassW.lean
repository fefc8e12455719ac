/- The walk of InfoClass. No statement is proved here. -/
import Derived.Test.YthfoacgdkoijeaaInfI
import Derived.Test.YthfoacgdkoijeaaInfC
namespace Go.Proofs.Ythfoacgdkoijeaa
open Go.RowKit Go.BigFrame Go.WideShapes Go.ChangeShapes Go.Deep
set_option linter.unusedVariables false
set_option linter.unusedSimpArgs false

theorem rclass_L (w : World) {L : List Value} (hT : Typed PL L) : Calls Try.prog 23 #[.agg L.toArray] w fun e w' => e = .returned (.int .i64 (clsL L : Nat)) ∧ Ext w w' :=
  asi (rclass_any (w := w) L (tpL hT) _ (tpI hT 51 rfl) _ (tpB hT 52 rfl) _ (tpB hT 53 rfl) _ (tpB hT 54 rfl) _ (tpB hT 55 rfl) _ (tpB hT 56 rfl) _ (tpB hT 57 rfl) _ (tpI hT 58 rfl) _ (tpI hT 59 rfl) _ (tpI hT 60 rfl) _ (tpI hT 61 rfl) _ (tpI hT 62 rfl) _ (tpI hT 63 rfl) _ (tpI hT 64 rfl) _ (tpI hT 65 rfl) _ (tpI hT 66 rfl) _ (tpI hT 67 rfl) _ (tpI hT 68 rfl) _ (tpI hT 69 rfl) _ (tpI hT 70 rfl) _ (tpI hT 71 rfl) _ (tpI hT 72 rfl) _ (tpI hT 78 rfl) _ (tpI hT 79 rfl) _ (tpI hT 80 rfl) _ (tpI hT 81 rfl) (wf_u64 (tpW hT 61 rfl)) (wf_u64 (tpW hT 70 rfl)) (wf_u16 (tpW hT 62 rfl)) (wf_u16 (tpW hT 71 rfl))) (classF_nat _ _ _ _ _)

set_option maxRecDepth 100000 in
set_option maxHeartbeats 2000000 in
theorem law_InfoClass {w : World} (L : List Value) (hT : Typed PL L) (m : List Value) (hm : Typed ML m) : Calls Try.prog 4 #[.agg L.toArray, .agg m.toArray] w fun e w' => e = .returned (.bool true) ∧ Ext w w' := by
  have hl := tpL hT
  have hlm : m.length = 17 := hm.1
  have hT2 : Typed PL (setL L 51 m) := Typed.setL hT (j := 51) (by rw [hlm]; exact (by decide : 51 + 17 ≤ 89)) (by rw [hlm]; exact hm)
  have hl2 := tpL hT2
  have hiL := Lib.hid (show (Try.prog.info? 51).map (·.size) = some L.toArray.size by rw [List.size_toArray, hl]; exact size_port)
  have hiM := Lib.hid (show (Try.prog.info? 49).map (·.size) = some m.toArray.size by rw [List.size_toArray, hlm]; exact size_msg)
  have hoL := Lib.hid (all_oneCell_toArray hT.one)
  have hoM : m.toArray.toList.all (·.oneCell') = true := by simpa using (all_oneCell_toArray hm.one)
  have hzs := Lib.hid (show PZ.size = L.toArray.size by rw [size_PZ, List.size_toArray, hl])
  have hzp := zero_port
  have HT := Lib.hid hT
  have HT2 := Lib.hid hT2
  have HLM := Lib.hid hlm
  have HOM := Lib.hid hoM
  clear hl hl2 hT hT2 hm hlm hoM
  go_enter Try.func4, Try.ntmps4
  go_wp2_with (first
    | fail
    | ((with_reducible refine at_box 51 ?_); refine bx_row rfl 51 _ rfl L.toArray rfl ?_
       intro P0 z1 hq hs hx
       have HP := Lib.hid hq
       have HE := Lib.hid hx
       clear hq hs hx)
    | ((with_reducible refine at_box 49 ?_); refine bx_row rfl 49 _ rfl m.toArray rfl ?_
       intro M0 z2 hq hs hx
       have HM := Lib.hid hq
       have HP2 := Lib.hid ((hx.block _ (heap_lt HP.out)).trans HP.out)
       have HE2 := Lib.hid (HE.out.trans hx)
       clear hq hs hx HE HP))
  refine (infw_awake _).mono ?_
  rintro e z3 ⟨rfl, hx⟩
  have HM3 := Lib.hid ((hx.block _ (heap_lt HM.out)).trans HM.out)
  have HP3 := Lib.hid ((hx.block _ (heap_lt HP2.out)).trans HP2.out)
  have HE3 := Lib.hid (HE2.out.trans hx)
  clear hx HE2 HP2 HM
  go_wp2_with (first
    | fail
    | ((with_reducible refine at_load 51 ?_); refine wpList_load_row rfl 51 _ rfl P0 rfl 51 L.toArray (0, 0) _ HP3.out Try.underlying51 rfl hiL.out ?_)
    | ((with_reducible refine at_store 51 ?_); refine wpList_store_new3 rfl rfl 51 _ _ _ rfl PZ L.toArray _ rfl ?_ rfl hiL.out hzs.out (by rw [Array.all_toList]; exact hoL.out) ?_; · rfl
       intro z4 hz4
       have hx : Ext z3 z4 := by rw [hz4]; exact (Ext.refl _).alloc _
       have hq := heap_alloc_new z3 (.cells L.toArray 51)
       rw [← hz4] at hq
       obtain ⟨Q0, hQ⟩ : ∃ n, z3.heap.size = n := ⟨_, rfl⟩
       have HQN := Lib.hid (show P0 ≠ Q0 ∧ M0 ≠ Q0 by have h1 := heap_lt HP3.out; have h2 := heap_lt HM3.out; omega)
       rw [hQ] at hq ⊢
       have hP_q : Pv z4 Q0 0 L := Pv.box hq (tpL HT.out)
       have HM4 := Lib.hid ((hx.block _ (heap_lt HM3.out)).trans HM3.out)
       have HP4 := Lib.hid ((hx.block _ (heap_lt HP3.out)).trans HP3.out)
       have HE4 := Lib.hid (HE3.out.trans hx)
       have HQ0 := Lib.hid (show w.heap.size ≤ Q0 by have := HE3.out.size; omega)
       clear hz4 hx hq hQ HE3 HP3 HM3)
    | ((with_reducible refine at_load 49 ?_); refine wpList_load_row rfl 49 _ rfl M0 rfl 49 m.toArray (0, 0) _ HM4.out Try.underlying49 rfl hiM.out ?_)
    | ((with_reducible refine at_store 49 ?_); refine st_pv rfl rfl 49 _ _ rfl Q0 0 51 L hP_q _ m.toArray rfl rfl rfl (by rw [List.size_toArray, HLM.out]; decide) hiM.out HOM.out ?_
       intro z5 hp hm5
       have HP5 := Lib.hid (hm5.row HP4.out HQN.out.1)
       have HPV := Lib.hid hp
       have HE5 := Lib.hid (HE4.out.mutE hm5.1 (fun n hn e => by have h2 : n = Q0 := e; have h3 := HQ0.out; omega))
       clear hp hm5 hP_q HP4 HM4 HE4))
  have hQ5 : Pv z5 Q0 0 (setL L 51 m) := HPV.out
  have hT2' := HT2.out
  have hlQ : Q0 < z5.heap.size := hQ5.lt
  have hlP : P0 < z5.heap.size := heap_lt HP5.out
  have hs2 := Lib.hid (show (Try.prog.info? 51).map (·.size) = some (setL L 51 m).length by rw [tpL hT2']; exact size_port)
  refine beginL (S := fun W' => Ext z5 W') (by kernel_rfl) ?_
  intro wd hqx
  have hq0 : Ext z5 wd := hqx
  refine takeL (i := 0) (v := (.bool true)) rfl (by kernel_rfl) (by kernel_rfl) (by kernel_rfl) (fun _ _ _ h => h) (Or.inl ⟨rfl, fun _ _ => rfl⟩) hq0 ?_
  simp only [Act.put, List.setIfInBounds_toArray, List.set_cons_zero, List.set_cons_succ]
  refine takeL (i := 1) (v := (.bool true)) rfl (by kernel_rfl) (by kernel_rfl) (by kernel_rfl) (fun _ _ _ h => h) (Or.inl ⟨rfl, fun _ _ => rfl⟩) hq0 ?_
  simp only [Act.put, List.setIfInBounds_toArray, List.set_cons_zero, List.set_cons_succ]
  refine takeL (i := 2) (v := _) rfl (by kernel_rfl) (by kernel_rfl) (by kernel_rfl) (fun _ _ _ h => h) (yieldsIf_rowS rfl 51 _ rfl P0 rfl L.toArray _ _ (fun W' hW' => (hW'.block P0 hlP).trans HP5.out) Try.underlying51 rfl hiL.out) hq0 ?_
  simp only [Act.put, List.setIfInBounds_toArray, List.set_cons_zero, List.set_cons_succ]
  refine takeL (i := 4) (v := _) rfl (by kernel_rfl) (by kernel_rfl) (by kernel_rfl) (fun _ _ _ h => h) (yieldsIf_rowS rfl 51 _ rfl P0 rfl L.toArray _ _ (fun W' hW' => (hW'.block P0 hlP).trans HP5.out) Try.underlying51 rfl hiL.out) hq0 ?_
  simp only [Act.put, List.setIfInBounds_toArray, List.set_cons_zero, List.set_cons_succ]
  refine runG (i := 3) rfl (by rfl) (by kernel_rfl) (fun K hK => ?_)
  go_simp
  refine (class_L _ HT.out).mono ?_
  rintro e wc1 ⟨rfl, hx⟩
  have hq1 := hq0.trans hx
  refine hK.out _ _ hq1 (fun hHeld => ?_)
  try simp only [Act.put, List.setIfInBounds_toArray, List.set_cons_zero, List.set_cons_succ]
  clear hK K hHeld
  refine runG (i := 5) rfl (by rfl) (by kernel_rfl) (fun K hK => ?_)
  go_simp
  refine (rclass_L _ HT.out).mono ?_
  rintro e wc2 ⟨rfl, hx⟩
  have hq2 := hq1.trans hx
  refine hK.out _ _ hq2 (fun hHeld => ?_)
  try simp only [Act.put, List.setIfInBounds_toArray, List.set_cons_zero, List.set_cons_succ]
  clear hK K hHeld
  refine takeL (i := 6) (v := (.bool true)) rfl (by kernel_rfl) (by kernel_rfl) (by kernel_rfl) (fun _ _ _ h => h) (Or.inl ⟨rfl, fun W' _ => by go_simp⟩) hq2 ?_
  simp only [Act.put, List.setIfInBounds_toArray, List.set_cons_zero, List.set_cons_succ]
  refine takeL (i := 7) (v := (.bool true)) rfl (by kernel_rfl) (by kernel_rfl) (by kernel_rfl) (fun _ _ _ h => h) (Or.inl ⟨rfl, fun _ _ => rfl⟩) hq2 ?_
  simp only [Act.put, List.setIfInBounds_toArray, List.set_cons_zero, List.set_cons_succ]
  refine takeL (i := 8) (v := (.bool true)) rfl (by kernel_rfl) (by kernel_rfl) (by kernel_rfl) (fun _ _ _ h => h) (Or.inl ⟨rfl, fun _ _ => rfl⟩) hq2 ?_
  simp only [Act.put, List.setIfInBounds_toArray, List.set_cons_zero, List.set_cons_succ]
  refine takeL (i := 9) (v := _) rfl (by kernel_rfl) (by kernel_rfl) (by kernel_rfl) (fun _ _ _ h => h) (yieldsIf_load_mid rfl 51 _ rfl Q0 (0 + 0) rfl (setL L 51 m) _ (fun W' hW' => (hQ5.ext hW').range (j := 0) (n := 89) (by rw [List.drop_zero, List.take_of_length_le (by rw [tpL hT2']; exact Nat.le_refl 89)]) (by decide)) Try.underlying51 rfl hs2.out) hq2 ?_
  simp only [Act.put, List.setIfInBounds_toArray, List.set_cons_zero, List.set_cons_succ]
  refine takeL (i := 11) (v := _) rfl (by kernel_rfl) (by kernel_rfl) (by kernel_rfl) (fun _ _ _ h => h) (yieldsIf_load_mid rfl 51 _ rfl Q0 (0 + 0) rfl (setL L 51 m) _ (fun W' hW' => (hQ5.ext hW').range (j := 0) (n := 89) (by rw [List.drop_zero, List.take_of_length_le (by rw [tpL hT2']; exact Nat.le_refl 89)]) (by decide)) Try.underlying51 rfl hs2.out) hq2 ?_
  simp only [Act.put, List.setIfInBounds_toArray, List.set_cons_zero, List.set_cons_succ]
  refine runG (i := 10) rfl (by rfl) (by kernel_rfl) (fun K hK => ?_)
  go_simp
  refine (class_L _ HT2.out).mono ?_
  rintro e wc3 ⟨rfl, hx⟩
  have hq3 := hq2.trans hx
  refine hK.out _ _ hq3 (fun hHeld => ?_)
  try simp only [Act.put, List.setIfInBounds_toArray, List.set_cons_zero, List.set_cons_succ]
  clear hK K hHeld
  refine runG (i := 12) rfl (by rfl) (by kernel_rfl) (fun K hK => ?_)
  go_simp
  refine (rclass_L _ HT2.out).mono ?_
  rintro e wc4 ⟨rfl, hx⟩
  have hq4 := hq3.trans hx
  refine hK.out _ _ hq4 (fun hHeld => ?_)
  try simp only [Act.put, List.setIfInBounds_toArray, List.set_cons_zero, List.set_cons_succ]
  clear hK K hHeld
  refine takeL (i := 13) (v := (.bool true)) rfl (by kernel_rfl) (by kernel_rfl) (by kernel_rfl) (fun _ _ _ h => h) (Or.inl ⟨rfl, fun W' _ => by go_simp⟩) hq4 ?_
  simp only [Act.put, List.setIfInBounds_toArray, List.set_cons_zero, List.set_cons_succ]
  refine takeL (i := 14) (v := (.bool true)) rfl (by kernel_rfl) (by kernel_rfl) (by kernel_rfl) (fun _ _ _ h => h) (Or.inl ⟨rfl, fun _ _ => rfl⟩) hq4 ?_
  simp only [Act.put, List.setIfInBounds_toArray, List.set_cons_zero, List.set_cons_succ]
  refine takeL (i := 15) (v := (.bool true)) rfl (by kernel_rfl) (by kernel_rfl) (by kernel_rfl) (fun _ _ _ h => h) (Or.inl ⟨rfl, fun _ _ => rfl⟩) hq4 ?_
  simp only [Act.put, List.setIfInBounds_toArray, List.set_cons_zero, List.set_cons_succ]
  refine wpAnyH_done (by kernel_rfl) ?_ _
  clear hT2'
  go_wp2_with fail
  go_ret
  exact ⟨rfl, HE5.out.trans hq4⟩

end Go.Proofs.Ythfoacgdkoijeaa
