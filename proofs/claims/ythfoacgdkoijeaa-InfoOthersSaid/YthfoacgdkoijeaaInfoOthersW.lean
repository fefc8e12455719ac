/- The walk of InfoOthers. No statement is proved here. -/
import Derived.Test.YthfoacgdkoijeaaInfI
namespace Go.Proofs.Ythfoacgdkoijeaa
open Go.RowKit Go.BigFrame Go.WideShapes Go.ChangeShapes Go.Deep
set_option linter.unusedVariables false
set_option linter.unusedSimpArgs false

set_option maxRecDepth 100000 in
set_option maxHeartbeats 2000000 in
theorem law_InfoOthers {w : World} (c : Array Value) (B : Br) (hb : BrC w c B) (ho : B.ok) (i : Int) (hi : 0 ≤ i ∧ i < 256) :
    Calls Try.prog 8 #[.agg c, .int .u8 i] w fun e w' => e = .returned (.bool true) ∧ Ext w w' := by
  have hl := ho.hd.1
  have hz : c.size = 20 := by
    obtain ⟨_, _, _, h, _⟩ := hb.facts ho.hd.1
    exact h
  have hi20 := Lib.hid (show (Try.prog.info? 33).map (·.size) = some c.size by rw [hz]; exact size_br)
  have HB := Lib.hid hb
  have hcz := hz
  clear hb hl hz
  go_enter Try.func8, Try.ntmps8
  go_wp2_with fail
  refine (infw_awake _).mono ?_
  rintro e w1 ⟨rfl, hE1⟩
  go_wp2_with (first | fail | ((with_reducible refine at_load 33 ?_); refine wpList_load_row rfl 33 _ rfl _ rfl _ c (0, 0) _ (box_heap hE1) Try.underlying33 rfl hi20.out ?_))
  refine (few_any c B _ (HB.out.ext (((Ext.refl w).alloc _).trans hE1)) ho).mono ?_
  rintro e w2 ⟨f, rfl, hx2, hf⟩
  have hE2 := Ext.trans hE1 hx2
  clear hE1 hx2
  cases f
  · go_wp2_with fail
    go_ret
    exact ⟨rfl, ((Ext.refl w).alloc _).trans hE2⟩
  have hfew := Lib.hid (hf.1 rfl)
  clear hf
  have hn1 := hfew.out.2.1
  go_wp2_with (first | fail | ((with_reducible refine at_load 33 ?_); refine wpList_load_row rfl 33 _ rfl _ rfl _ c (0, 0) _ (box_heap hE2) Try.underlying33 rfl hi20.out ?_))
  refine (at_any c B i _ (HB.out.ext (((Ext.refl w).alloc _).trans hE2)) ho hi hn1).mono ?_
  rintro e w3 ⟨rfl, hx3⟩
  have hE3 := Ext.trans hE2 hx3
  clear hE2 hx3
  obtain ⟨k, hk0⟩ : ∃ k, i.toNat % B.np = k := ⟨_, rfl⟩
  have hk : k < B.np := by rw [← hk0]; exact Nat.mod_lt _ hn1
  have hk8 : k < 1000 := by have := hfew.out; omega
  rw [hk0]
  clear hk0
  have hn8 : B.np < 1000 := by have := hfew.out; omega
  have HTM := Lib.hid (tim_of hfew.out.1 hk)
  go_wp2_with (first | fail | ((with_reducible refine at_load 33 ?_); refine wpList_load_row rfl 33 _ rfl _ rfl _ c (0, 0) _ (box_heap hE3) Try.underlying33 rfl hi20.out ?_))
  refine (clone_any c B _ (HB.out.ext (((Ext.refl w).alloc _).trans hE3)) ho (by have := hfew.out; omega)).mono ?_
  rintro e w4 ⟨cx, rfl, hO4, hx4⟩
  have hE4 := Ext.trans hE3 hx4
  have hcxz := Lib.hid (size_z20.trans (hO4.size ho).symm)
  have hcxo := Lib.hid (hO4.one ho)
  have hcxi := Lib.hid (show (Try.prog.info? 33).map (·.size) = some cx.size by rw [hO4.size ho]; exact size_br)
  obtain ⟨g, hBx⟩ := hO4.made hx4.size hn1
  have HX := Lib.hid hBx
  have hs3 := Lib.hid (show w.heap.size < w3.heap.size from Nat.lt_of_lt_of_le (by simp) hE3.size)
  have hs4 := Lib.hid hx4.size
  have HMK := Lib.hid (show ∀ wx : World, wx = w4.alloc (.cells cx 33) → BrG wx (fun n => w3.heap.size ≤ n ∧ n < w4.heap.size + 1) w4.heap.size g B ∧ Ext (w.alloc (.cells c 33)) wx ∧ wx.heap.size = w4.heap.size + 1 from by
    rintro _ rfl
    exact ⟨hBx, hE4.alloc _, by simp⟩)
  clear hBx hO4 hx4 hE3
  go_wp2_with (first
    | fail
    | ((with_reducible refine at_store 33 ?_); refine wpList_store_new3 rfl rfl 33 _ _ _ rfl _ cx _ rfl ?_ rfl hcxi.out hcxz.out hcxo.out ?_; · rfl
       intro wx hwx
       obtain ⟨hBx, hEx, hzx0⟩ := HMK.out wx hwx
       have HX := Lib.hid hBx
       have hzx := Lib.hid hzx0
       clear hwx hBx hzx0))
  have hB1z : BrG _ (fun n => w3.heap.size ≤ n ∧ n < w4.heap.size + 1) w4.heap.size g B := HX.out
  have ok1z : Br.ok B := ho
  have hm1z := (Mut.refl (fun n => w3.heap.size ≤ n ∧ n < w4.heap.size + 1) wx)
  refine (inf_step _ (fun n => w3.heap.size ≤ n ∧ n < w4.heap.size + 1) _ g k B hB1z ok1z hk hn8 HTM.out).mono ?_
  rintro e v1 ⟨he, hB1, hm1⟩
  obtain rfl : e = .returned (.bool (infF B k).1) := he
  have ok1 := infF_ok ok1z (k := k) hk HTM.out
  have hE11 := Ext.mutE hEx (hm1z.trans hm1) (fun n hn h1 => by have := h1.1; have := hs3.out; simp at hn; omega)
  have H1 := Lib.hid hB1
  clear hB1 hB1z ok1z hm1 hm1z hEx
  have hP := infF_only ho hk HTM.out
  obtain ⟨C, hC⟩ : ∃ C, (infF B k).2 = C := ⟨_, rfl⟩
  rw [hC] at H1 ok1 hP
  clear hC
  obtain ⟨s1, s2, s3, hz0, hhd, c17b, c18b, c19b, r1, r2, r3⟩ := HB.out.facts ho.hd.1
  obtain ⟨a1, k1, rfl, m1, f1⟩ := r1.form
  have F1 := Lib.hid f1
  have R1 := Lib.hid r1
  clear hz0 hhd c18b c19b r2 r3 f1 r1
  have hbx := box_cell hE11
  have hbx17 := (hbx 17).trans c17b
  clear hbx
  obtain ⟨capx, c17x, -, -⟩ := H1.out.cell17 ok1
  rw [hP.np] at c17x
  go_wp2_with fail
  go_loopw [9] (fun i wr => ∃ j : Nat, j ≤ B.np ∧ i = .int .i64 j ∧ Ext v1 wr) (fun i _ => B.np - (intOf i).toNat)
  case atStart => exact ⟨0, by omega, rfl, Ext.refl _⟩
  case round =>
    obtain ⟨n, hn, rfl, hxr⟩ := hrel
    have d17x := (hxr.cell (p := ⟨w4.heap.size, 17, none⟩) H1.out.lt.1).trans c17x
    have d17b := (hxr.cell (p := ⟨w.heap.size, 17, none⟩) (Nat.lt_of_lt_of_le (by simp) hE11.size)).trans hbx17
    clear c17x hbx17 c17b
    by_cases hlt : n < B.np
    · obtain ⟨b, off, rfl, hb, hlc, hcm, hc⟩ := F1.out (by omega)
      have hEw := (((Ext.refl w).alloc (.cells c 33)).trans hE11).trans hxr
      have hq := Lib.hid (port_range (rangeAt_ext hc hEw hb) n)
      have ht := Lib.hid (port_typed ho hlt)
      have hz : Hid ((Try.prog.info? 51).map (·.size) = some (port B.ps n).length) := Lib.hid (by rw [ht.out.1]; exact size_port)
      clear hc hEw
      by_cases hnk : n = k
      · have hnk' : ((n : Int) != (k : Int)) = false := by simp [hnk]
        go_wp2_with fail
        go_quiet (fail)
        go_wp2_with fail
        go_roundw
        case rel => exact ⟨n + 1, by omega, by go_num, hxr.drewN _⟩
        case measure => simp [intOf]; omega
      · have hnk' : ((n : Int) != (k : Int)) = true := by simp; omega
        have hp := (H1.out.ext hxr).range (k := n) (by rw [hP.np]; exact hlt)
        rw [hP.port hnk] at hp
        have HP := Lib.hid hp
        clear hp
        go_wp2_with fail
        refine wp_region_quiet_lit (by kernel_rfl) (by kernel_rfl) ?_
        iterate 8 (go_big_quiet_step (fail))
        refine wpQuiet_load_midG rfl 51 _ rfl g (n * 89) rfl (port B.ps n) _ (range_drewN HP.out) Try.underlying51 rfl hz.out ?_
        simp only [Act.put, List.setIfInBounds_toArray, List.set_cons_succ, List.set_cons_zero]
        iterate 4 (go_big_quiet_step (fail))
        refine wpQuiet_load_midG rfl 51 _ rfl b (off + n * 89) rfl (port B.ps n) _ (range_drewN hq.out) Try.underlying51 rfl hz.out ?_
        simp only [Act.put, List.setIfInBounds_toArray, List.set_cons_succ, List.set_cons_zero]
        refine wpQuiet_neqG rfl 51 _ _ rfl (port B.ps n) rfl rfl Try.underlying51 (by decide) lay_port ht.out guard_port ?_
        simp only [Act.put, List.setIfInBounds_toArray, List.set_cons_succ, List.set_cons_zero]
        iterate 1 (go_big_quiet_step (fail))
        refine wpQuiet_nil ?_
        intro _ hw'
        obtain ⟨nq, hw''⟩ := hw'
        subst hw''
        go_wp2_with fail
        go_roundw
        case rel => exact ⟨n + 1, by omega, by go_num, hxr.drewN _⟩
        case measure => simp [intOf]; omega
    · have hX2 := H1.out.ext hxr
      have hfX := hX2.frozenX 17
      have hEr := hE11.trans hxr
      go_wp2_with fail
      generalize hwz : World.setCell wr _ _ = wz
      have hm := ((Mut.refl (fun n => w3.heap.size ≤ n ∧ n < w4.heap.size + 1) wr).setCell (p := ⟨w4.heap.size, 17, none⟩) (.inl HX.out.F1) (.slice a1 B.np k1))
      have hE12 := Ext.mutE hEr hm (fun n hn h1 => by have := h1.1; have := hs3.out; simp at hn; omega)
      obtain ⟨D, hD, hDb, hDz⟩ := hX2.swap ok1.hd.1 hP (R1.out.ext (((Ext.refl w).alloc _).trans hE12))
      rw [hwz] at hE12 hD hDb
      have HD := Lib.hid hD
      have HDb := Lib.hid hDb
      have hCz := hDz
      clear hwz hD hDb hDz hm hEr d17x d17b hfX
      have hbb := Lib.hid (box_heap hE12)
      have hbw := Lib.hid (HB.out.ext (((Ext.refl w).alloc _).trans hE12))
      have hrf : Ext wz wz.drew := (Ext.refl wz).drew
      have hfn := Lib.hid (show B.np ≤ 1000 ∧ B.no ≤ 1000 ∧ B.nf ≤ 1000 by have := hfew.out; omega)
      refine wp_region_held (S := fun W' => Ext wz W') (by kernel_rfl) ?_
      refine wpAnyH_take (i := 0) rfl (by kernel_rfl) (by kernel_rfl) (by kernel_rfl) (fun _ _ _ h => h) (Or.inl ⟨rfl, fun _ _ => rfl⟩) (hrf) ?_
      simp only [Act.put, List.setIfInBounds_toArray, List.set_cons_zero, List.set_cons_succ]
      refine wpAnyH_take (i := 1) rfl (by kernel_rfl) (by kernel_rfl) (by kernel_rfl) (fun _ _ _ h => h) (Or.inl ⟨rfl, fun _ _ => rfl⟩) (hrf) ?_
      simp only [Act.put, List.setIfInBounds_toArray, List.set_cons_zero, List.set_cons_succ]
      refine wpAnyH_take (i := 2) rfl (by kernel_rfl) (by kernel_rfl) (by kernel_rfl) (fun _ _ _ h => h) (yieldsIf_load_row rfl _ _ rfl _ rfl D _ _ HD.out Try.underlying33 rfl (by rw [hCz]; exact size_br)) (hrf) ?_
      simp only [Act.put, List.setIfInBounds_toArray, List.set_cons_zero, List.set_cons_succ]
      refine wpAnyH_take (i := 3) rfl (by kernel_rfl) (by kernel_rfl) (by kernel_rfl) (fun _ _ _ h => h) (yieldsIf_load_row rfl _ _ rfl _ rfl c _ _ hbb.out Try.underlying33 rfl (by rw [hcz]; exact size_br)) (hrf) ?_
      simp only [Act.put, List.setIfInBounds_toArray, List.set_cons_zero, List.set_cons_succ]
      refine wpAnyH_ready (rs := [4]) (by kernel_rfl) (by simp) ?_
      refine AllReadyH.cons rfl (fun K hK => ?_) AllReadyH.nil
      go_simp
      refine (clone_any c B _ (hbw.out.ext hrf) ho hfn.out).mono ?_
      rintro e y1 ⟨cy, rfl, hOy, hyx⟩
      have hy0 : Ext wz y1 := hrf.trans hyx
      have hyc := Lib.hid (OwnC.br hOy)
      clear hOy
      refine hK.out _ _ hy0 (fun hHeld => ?_)
      try simp only [Act.put, List.setIfInBounds_toArray, List.set_cons_zero, List.set_cons_succ]
      clear hK K
      refine wpAnyH_ready (rs := [5]) (by kernel_rfl) (by simp) ?_
      refine AllReadyH.cons rfl (fun K hK => ?_) AllReadyH.nil
      go_simp
      refine (same_any D cy B _ (HDb.out.ext hy0) hyc.out ho).mono ?_
      rintro e y2 ⟨rfl, hyy⟩
      have hy2 : Ext wz y2 := hy0.trans hyy
      refine hK.out _ _ hy2 (fun hHeld => ?_)
      try simp only [Act.put, List.setIfInBounds_toArray, List.set_cons_zero, List.set_cons_succ]
      clear hK K
      refine wpAnyH_ready (rs := [6]) (by kernel_rfl) (by simp) ?_
      refine AllReadyH.cons rfl (fun K hK => ?_) AllReadyH.nil
      go_simp
      refine hK.out _ _ hy2 (fun hHeld => ?_)
      try simp only [Act.put, List.setIfInBounds_toArray, List.set_cons_zero, List.set_cons_succ]
      clear hK K
      refine wpAnyH_ready (rs := [7]) (by kernel_rfl) (by simp) ?_
      refine AllReadyH.cons rfl (fun K hK => ?_) AllReadyH.nil
      go_simp
      refine hK.out _ _ hy2 (fun hHeld => ?_)
      try simp only [Act.put, List.setIfInBounds_toArray, List.set_cons_zero, List.set_cons_succ]
      clear hK K
      refine wpAnyH_done (by kernel_rfl) ?_ _
      go_wp2_with fail
      go_ret
      exact ⟨rfl, ((Ext.refl w).alloc _).trans (hE12.trans hy2)⟩

end Go.Proofs.Ythfoacgdkoijeaa
