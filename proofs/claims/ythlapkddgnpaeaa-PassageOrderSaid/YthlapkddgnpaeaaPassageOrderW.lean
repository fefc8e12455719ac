/- The walk of PassageOrder. No statement is proved here. -/
import Derived.Test.YthlapkddgnpaeaaPasM
import Derived.Test.YthlapkddgnpaeaaInts
namespace Go.Proofs.Ythlapkddgnpaeaa
open Go.RowKit Go.BigFrame Go.WideShapes Go.ChangeShapes Go.Deep
set_option linter.unusedVariables false

set_option maxRecDepth 100000 in
set_option maxHeartbeats 2000000 in
theorem law_PassageOrder {w : World} (c : Array Value) (B : Br) (hb : BrC w c B) (ho : B.ok) (i : Int) (hi : 0 ≤ i ∧ i < 256) (v : Value) (zs : List Int) (hv : IsInts w .u8 v zs ∧ ∀ z ∈ zs, (Lit.int .u8 z).wf = true) :
    Calls Try.prog 13 #[.agg c, .int .u8 i, v] w fun e w' => e = .returned (.bool true) ∧ Ext w w' := by
  obtain ⟨va, vcap, rfl, hvl, hvc⟩ := hv.1.form
  have HVC := Lib.hid hvc
  have HVW := Lib.hid hv.2
  clear hv hvc
  have hl := ho.hd.1
  have hz : c.size = 20 := by
    obtain ⟨_, _, _, h, _⟩ := hb.facts ho.hd.1
    exact h
  have hi20 := Lib.hid (show (Try.prog.info? 33).map (·.size) = some c.size by rw [hz]; exact size_br)
  have HB := Lib.hid hb
  have hcz := hz
  clear hb hl hz
  go_enter Try.func13, Try.ntmps13
  go_wp2_with fail
  refine (pas_awake _).mono ?_
  rintro e w1 ⟨rfl, hE1⟩
  go_wp2_with (first | fail | ((with_reducible refine at_load 33 ?_); refine wpList_load_row rfl 33 _ rfl _ rfl _ c (0, 0) _ (box_heap hE1) Try.underlying33 rfl hi20.out ?_))
  refine (few_any c B _ (HB.out.ext (((Ext.refl w).alloc _).trans hE1)) ho).mono ?_
  rintro e w2 ⟨f, rfl, hx2, hf⟩
  have hE2 := Ext.trans hE1 hx2
  clear hE1 hx2
  cases f
  · go_wp2_with fail
    go_ret
    exact ⟨rfl, ((Ext.refl w).alloc _).trans hE2⟩
  have hfew := Lib.hid (hf.1 rfl)
  clear hf
  have hn1 := hfew.out.2.1
  go_wp2_with (first | fail | ((with_reducible refine at_load 33 ?_); refine wpList_load_row rfl 33 _ rfl _ rfl _ c (0, 0) _ (box_heap hE2) Try.underlying33 rfl hi20.out ?_))
  refine (at_any c B i _ (HB.out.ext (((Ext.refl w).alloc _).trans hE2)) ho hi hn1).mono ?_
  rintro e w3 ⟨rfl, hx3⟩
  have hE3 := Ext.trans hE2 hx3
  clear hE2 hx3
  obtain ⟨k, hk0⟩ : ∃ k, i.toNat % B.np = k := ⟨_, rfl⟩
  have hk : k < B.np := by rw [← hk0]; exact Nat.mod_lt _ hn1
  have hk8 : k < 1000 := by have := hfew.out; omega
  rw [hk0]
  clear hk0
  go_wp2_with (first | fail | ((with_reducible refine at_load 33 ?_); refine wpList_load_row rfl 33 _ rfl _ rfl _ c (0, 0) _ (box_heap hE3) Try.underlying33 rfl hi20.out ?_))
  refine (clone_any c B _ (HB.out.ext (((Ext.refl w).alloc _).trans hE3)) ho (by have := hfew.out; omega)).mono ?_
  rintro e w4 ⟨cx, rfl, hO4, hx4⟩
  have hE4 := Ext.trans hE3 hx4
  have hcxz := Lib.hid (size_z20.trans (hO4.size ho).symm)
  have hcxo := Lib.hid (hO4.one ho)
  have hcxi := Lib.hid (show (Try.prog.info? 33).map (·.size) = some cx.size by rw [hO4.size ho]; exact size_br)
  obtain ⟨g, hBx⟩ := hO4.made hx4.size hn1
  have HX := Lib.hid hBx
  have hs3 := Lib.hid (show w.heap.size < w3.heap.size from Nat.lt_of_lt_of_le (by simp) hE3.size)
  have hs4 := Lib.hid hx4.size
  have HMK := Lib.hid (show ∀ wx : World, wx = w4.alloc (.cells cx 33) → BrG wx (fun n => w3.heap.size ≤ n ∧ n < w4.heap.size + 1) w4.heap.size g B ∧ Ext (w.alloc (.cells c 33)) wx ∧ wx.heap.size = w4.heap.size + 1 from by
    rintro _ rfl
    exact ⟨hBx, hE4.alloc _, by simp⟩)
  clear hBx hO4 hx4 hE3
  have h89 := Lib.hid (len89 ho hk)
  by_cases hbig : 60 < zs.length
  · go_wp2_with (first
      | fail
      | ((with_reducible refine at_store 33 ?_); refine wpList_store_new3 rfl rfl 33 _ _ _ rfl _ cx _ rfl ?_ rfl hcxi.out hcxz.out hcxo.out ?_; · rfl
         intro wx hwx
         obtain ⟨hBx, hEx, hzx0⟩ := HMK.out wx hwx
         have HX := Lib.hid hBx
         have hzx := Lib.hid hzx0
         clear hwx hBx hzx0))
    go_ret
    exact ⟨rfl, ((Ext.refl w).alloc _).trans hEx⟩
  go_wp2_with (first
    | fail
    | ((with_reducible refine at_store 33 ?_); refine wpList_store_new3 rfl rfl 33 _ _ _ rfl _ cx _ rfl ?_ rfl hcxi.out hcxz.out hcxo.out ?_; · rfl
       intro wx hwx
       obtain ⟨hBx, hEx, hzx0⟩ := HMK.out wx hwx
       have HX := Lib.hid hBx
       have hzx := Lib.hid hzx0
       clear hwx hBx hzx0
       obtain ⟨hXl, hgl, hne⟩ := HX.out.lt
       obtain ⟨cap, c17, hca, hcb⟩ := HX.out.cell17 ho
       have hfr := HX.out.frozen
       have p20 := (HX.out.cellg (i := k * 89 + 20) (lt89 hk (by decide))).trans (ho.gi hk 20 rfl)
       have p29 := (HX.out.cellg (i := k * 89 + 29) (lt89 hk (by decide))).trans (ho.gb hk 29 rfl)
       have p27 := (HX.out.cellg (i := k * 89 + 27) (lt89 hk (by decide))).trans (ho.gb hk 27 rfl)))
  have HB0 := Lib.hid (((HX.out.setp (k := k) (j := 20) hk (by decide) (.int .i64 0)).setp (k := k) (j := 29) hk (by decide) (.bool false)).setp (k := k) (j := 27) hk (by decide) (.bool false))
  have okB0 := (((ho.setI (k := k) hk 20 .i64 0 rfl (by decide)).setB (k := k) hk 29 false rfl).setB (k := k) hk 27 false rfl)
  have hE5 := Ext.mutE hEx ((((Mut.refl (fun n => w3.heap.size ≤ n ∧ n < w4.heap.size + 1) wx).setCell (p := ⟨g, k * 89 + 20, none⟩) (.inl HX.out.F2) (.int .i64 0)).setCell (p := ⟨g, k * 89 + 29, none⟩) (.inl HX.out.F2) (.bool false)).setCell (p := ⟨g, k * 89 + 27, none⟩) (.inl HX.out.F2) (.bool false)) (fun n hn h1 => by have := h1.1; have := hs3.out; simp at hn; omega)
  clear c17 hfr p20 p29 p27
  clear hEx
  go_loopw [11] (fun i wr => ∃ (n : Nat) (Z : Br), n ≤ zs.length ∧ i = .int .i64 n ∧ BrG wr (fun n => w3.heap.size ≤ n ∧ n < w4.heap.size + 1) w4.heap.size g Z ∧ Z.ok ∧ Z.np = B.np ∧ PInv Z k ∧ Ext (w.alloc (.cells c 33)) wr) (fun i _ => zs.length - (intOf i).toNat)
  case atStart => exact ⟨0, _, by omega, rfl, HB0.out, okB0, rfl, pinv_start B k h89.out, hE5⟩
  case round =>
    clear hE5 HB0
    obtain ⟨n, Z, hn, rfl, hZ, okZ, hnpZ, hinv, hEr⟩ := hrel
    have HZ := Lib.hid hZ
    have HINV := Lib.hid hinv
    have hkZ : k < Z.np := by rw [hnpZ]; exact hk
    have hZ89 := Lib.hid (len89 okZ hkZ)
    clear hZ hinv
    by_cases hlt : n < zs.length
    · obtain ⟨bl, ol, rfl, hbl, hll, hlm, hlc⟩ := HVC.out (by omega)
      have hcn := hlc n hlt
      obtain ⟨z, hz⟩ : ∃ z : Int, zs.getD n 0 = z := ⟨_, rfl⟩
      have hzw := HVW.out (zs.getD n 0) (by rw [List.getD_eq_getElem?_getD, List.getElem?_eq_getElem hlt]; simp)
      rw [hz] at hcn hzw
      have hz01 := wf_u8 hzw
      obtain ⟨hz0, hz1⟩ := hz01
      have HCN := Lib.hid hcn
      clear hlc hz hzw hcn
      go_wp2_with fail
      refine wp_region_tail 12 (by kernel_rfl) (by kernel_rfl) ?_
      intro y1 hy1
      have hyx1 : Ext wr y1 := by
        rw [hy1]
        exact (Ext.refl _).drew
      clear hy1
      have hEy1 := hEr.trans hyx1
      have HY1 := Lib.hid (HZ.out.ext hyx1)
      obtain ⟨cap1, x17, -, -⟩ := HY1.out.cell17 okZ
      rw [hnpZ] at x17
      have lcv := ((((Ext.refl w).alloc _).trans hEy1).cell (p := ⟨bl, ol + n, none⟩) hbl).trans HCN.out
      have xcv := (HY1.out.cellg (i := k * 89 + 28) (lt89 hkZ (by decide))).trans (okZ.gb hkZ 28 rfl)
      have xfr := HY1.out.frozen
      simp only [List.take_succ_cons, List.take_zero, List.drop_succ_cons, List.drop_zero]
      repeat still_step
      refine wpStill_nil ?_
      go_wp2_with fail
      have HG1 := Lib.hid (HY1.out.setp (k := k) (j := 28) hkZ (by decide) (.bool (z % 2 == 1)))
      have okG1 := okZ.setB (k := k) hkZ 28 (z % 2 == 1) rfl
      have hEg1 := Ext.mutE hEy1 ((Mut.refl (fun n => w3.heap.size ≤ n ∧ n < w4.heap.size + 1) y1).setCell (p := ⟨g, k * 89 + 28, none⟩) (.inl HX.out.F2) (.bool (z % 2 == 1))) (fun n hn h1 => by have := h1.1; have := hs3.out; simp at hn; omega)
      clear x17 lcv xcv xfr hyx1 hEy1
      generalize hgg1 : World.setCell y1 _ _ = g1
      rw [show World.setCell y1 ⟨g, k * 89 + 28, none⟩ _ = g1 from hgg1] at HG1 hEg1
      clear hgg1
      refine wp_region_tail 13 (by kernel_rfl) (by kernel_rfl) ?_
      intro y2 hy2
      have hyx2 : Ext g1 y2 := by
        rw [hy2]
        exact (Ext.refl _).drew
      clear hy2
      have hEy2 := hEg1.trans hyx2
      have HY2 := Lib.hid (HG1.out.ext hyx2)
      obtain ⟨cap2, x17, -, -⟩ := HY2.out.cell17 okG1
      rw [np_setp, hnpZ] at x17
      have lcv := ((((Ext.refl w).alloc _).trans hEy2).cell (p := ⟨bl, ol + n, none⟩) hbl).trans HCN.out
      have xcv := (HY2.out.cellg (i := k * 89 + 26) (lt89 hkZ (by decide))).trans (okG1.gb hkZ 26 rfl)
      have xfr := HY2.out.frozen
      simp only [List.take_succ_cons, List.take_zero, List.drop_succ_cons, List.drop_zero]
      repeat still_step
      refine wpStill_nil ?_
      go_wp2_with fail
      have HG2 := Lib.hid (HY2.out.setp (k := k) (j := 26) hkZ (by decide) (.bool (z / 2 % 2 == 1)))
      have okG2 := okG1.setB (k := k) hkZ 26 (z / 2 % 2 == 1) rfl
      have hEg2 := Ext.mutE hEy2 ((Mut.refl (fun n => w3.heap.size ≤ n ∧ n < w4.heap.size + 1) y2).setCell (p := ⟨g, k * 89 + 26, none⟩) (.inl HX.out.F2) (.bool (z / 2 % 2 == 1))) (fun n hn h1 => by have := h1.1; have := hs3.out; simp at hn; omega)
      clear x17 lcv xcv xfr hyx2 hEy2
      refine (pas_step _ (fun n => w3.heap.size ≤ n ∧ n < w4.heap.size + 1) _ g k ((Z.setp k 28 (.bool (z % 2 == 1))).setp k 26 (.bool (z / 2 % 2 == 1))) HG2.out okG2 hkZ hk8).mono ?_
      rintro e y3 ⟨rfl, hB3, hm3⟩
      have hE3 := Ext.mutE hEg2 hm3 (fun n hn h1 => by have := h1.1; have := hs3.out; simp at hn; omega)
      have hinv3 := pinv_step _ k (by simpa using hZ89.out) (pinv_set Z k (z % 2 == 1) (z / 2 % 2 == 1) hZ89.out HINV.out)
      have ok3 := pasF_ok okG2 (k := k) hkZ
      have hnp3 := pasF_np ((Z.setp k 28 (.bool (z % 2 == 1))).setp k 26 (.bool (z / 2 % 2 == 1))) k
      obtain ⟨d, hd⟩ : ∃ d, (pasF ((Z.setp k 28 (.bool (z % 2 == 1))).setp k 26 (.bool (z / 2 % 2 == 1))) k).1 = d := ⟨_, rfl⟩
      rw [hd]
      obtain ⟨Y, hY⟩ : ∃ Y, (pasF ((Z.setp k 28 (.bool (z % 2 == 1))).setp k 26 (.bool (z / 2 % 2 == 1))) k).2 = Y := ⟨_, rfl⟩
      rw [hY] at hB3 hinv3 ok3 hnp3
      have hnpY : Y.np = B.np := hnp3.trans hnpZ
      have hkY : k < Y.np := by rw [hnpY]; exact hk
      have H3 := Lib.hid hB3
      have hi3 := Lib.hid hinv3
      clear hd hY hB3 hm3 hnp3 HG1 HG2 hEg1 hEg2 okG1 okG2 HY1 HY2 HZ okZ hnpZ hEr
      rcases hinv3 with ⟨e20, e29, e27⟩ | ⟨e20, e29, e27⟩ | ⟨e20, e29, e27⟩
      · have hXl3 := H3.out.lt.1
        have hgl3 := H3.out.lt.2.1
        obtain ⟨cap3, x17, -, -⟩ := H3.out.cell17 ok3
        rw [hnpY] at x17
        have p20 := (H3.out.cellg (i := k * 89 + 20) (lt89 hkY (by decide))).trans (ok3.gi hkY 20 rfl)
        rw [e20] at p20
        have hflr0 := flags_range H3.out (k := k) hkY
        have hfl0 := flags_len ok3 (k := k) hkY
        have fl7 := (flags_at (B := Y) (k := k) (j := 7) (by decide)).trans (ok3.gb hkY 29 rfl)
        rw [e29] at fl7
        have fl5 := (flags_at (B := Y) (k := k) (j := 5) (by decide)).trans (ok3.gb hkY 27 rfl)
        rw [e27] at fl5
        have hflo0 := flags_one ok3 (k := k) hkY
        obtain ⟨fl, hfl⟩ : ∃ fl, flags (Y).ps k = fl := ⟨_, rfl⟩
        rw [hfl] at hflr0 hfl0 hflo0 fl7 fl5
        clear hfl
        have hflr := Lib.hid hflr0
        have hfli := Lib.hid (show (Try.prog.info? 47).map (·.size) = some fl.length by rw [hfl0]; exact size_flags)
        have hfli2 := Lib.hid (show (Try.prog.info? 47).map (·.size) = some fl.toArray.size by rw [List.size_toArray, hfl0]; exact size_flags)
        have hfls := Lib.hid (show 29 = fl.toArray.size by rw [List.size_toArray, hfl0])
        have hflo := Lib.hid (show fl.toArray.toList.all (·.oneCell') = true by rw [List.all_eq_true]; exact hflo0)
        clear hflr0 hfl0 hflo0
        clear e20 e29 e27
        go_wp2_with (first | fail | ((with_reducible refine at_load 47 ?_); refine wpList_load_mid rfl 47 _ rfl g (k * 89 + 22) rfl fl _ hflr.out Try.underlying47 rfl hfli.out ?_) | ((with_reducible refine at_store 47 ?_); refine wpList_store_new2 rfl rfl 47 _ _ _ rfl _ fl.toArray _ rfl ?_ rfl hfli2.out hfls.out hflo.out ?_; · rfl))
        go_quiet (fail)
        go_wp2_with fail
        go_roundw
        case rel => exact ⟨n + 1, Y, by omega, by go_num, H3.out.ext (((Ext.refl _).alloc _).drewN _), ok3, hnpY, hi3.out, (hE3.alloc _).drewN _⟩
        case measure => simp [intOf]; omega
      · have hXl3 := H3.out.lt.1
        have hgl3 := H3.out.lt.2.1
        obtain ⟨cap3, x17, -, -⟩ := H3.out.cell17 ok3
        rw [hnpY] at x17
        have p20 := (H3.out.cellg (i := k * 89 + 20) (lt89 hkY (by decide))).trans (ok3.gi hkY 20 rfl)
        rw [e20] at p20
        have hflr0 := flags_range H3.out (k := k) hkY
        have hfl0 := flags_len ok3 (k := k) hkY
        have fl7 := (flags_at (B := Y) (k := k) (j := 7) (by decide)).trans (ok3.gb hkY 29 rfl)
        rw [e29] at fl7
        have fl5 := (flags_at (B := Y) (k := k) (j := 5) (by decide)).trans (ok3.gb hkY 27 rfl)
        rw [e27] at fl5
        have hflo0 := flags_one ok3 (k := k) hkY
        obtain ⟨fl, hfl⟩ : ∃ fl, flags (Y).ps k = fl := ⟨_, rfl⟩
        rw [hfl] at hflr0 hfl0 hflo0 fl7 fl5
        clear hfl
        have hflr := Lib.hid hflr0
        have hfli := Lib.hid (show (Try.prog.info? 47).map (·.size) = some fl.length by rw [hfl0]; exact size_flags)
        have hfli2 := Lib.hid (show (Try.prog.info? 47).map (·.size) = some fl.toArray.size by rw [List.size_toArray, hfl0]; exact size_flags)
        have hfls := Lib.hid (show 29 = fl.toArray.size by rw [List.size_toArray, hfl0])
        have hflo := Lib.hid (show fl.toArray.toList.all (·.oneCell') = true by rw [List.all_eq_true]; exact hflo0)
        clear hflr0 hfl0 hflo0
        clear e20 e29 e27
        go_wp2_with (first | fail | ((with_reducible refine at_load 47 ?_); refine wpList_load_mid rfl 47 _ rfl g (k * 89 + 22) rfl fl _ hflr.out Try.underlying47 rfl hfli.out ?_) | ((with_reducible refine at_store 47 ?_); refine wpList_store_new2 rfl rfl 47 _ _ _ rfl _ fl.toArray _ rfl ?_ rfl hfli2.out hfls.out hflo.out ?_; · rfl))
        go_quiet (fail)
        go_wp2_with fail
        go_roundw
        case rel => exact ⟨n + 1, Y, by omega, by go_num, H3.out.ext (((Ext.refl _).alloc _).drewN _), ok3, hnpY, hi3.out, (hE3.alloc _).drewN _⟩
        case measure => simp [intOf]; omega
      · have hXl3 := H3.out.lt.1
        have hgl3 := H3.out.lt.2.1
        obtain ⟨cap3, x17, -, -⟩ := H3.out.cell17 ok3
        rw [hnpY] at x17
        have p20 := (H3.out.cellg (i := k * 89 + 20) (lt89 hkY (by decide))).trans (ok3.gi hkY 20 rfl)
        rw [e20] at p20
        have hflr0 := flags_range H3.out (k := k) hkY
        have hfl0 := flags_len ok3 (k := k) hkY
        have fl7 := (flags_at (B := Y) (k := k) (j := 7) (by decide)).trans (ok3.gb hkY 29 rfl)
        rw [e29] at fl7
        have fl5 := (flags_at (B := Y) (k := k) (j := 5) (by decide)).trans (ok3.gb hkY 27 rfl)
        rw [e27] at fl5
        have hflo0 := flags_one ok3 (k := k) hkY
        obtain ⟨fl, hfl⟩ : ∃ fl, flags (Y).ps k = fl := ⟨_, rfl⟩
        rw [hfl] at hflr0 hfl0 hflo0 fl7 fl5
        clear hfl
        have hflr := Lib.hid hflr0
        have hfli := Lib.hid (show (Try.prog.info? 47).map (·.size) = some fl.length by rw [hfl0]; exact size_flags)
        have hfli2 := Lib.hid (show (Try.prog.info? 47).map (·.size) = some fl.toArray.size by rw [List.size_toArray, hfl0]; exact size_flags)
        have hfls := Lib.hid (show 29 = fl.toArray.size by rw [List.size_toArray, hfl0])
        have hflo := Lib.hid (show fl.toArray.toList.all (·.oneCell') = true by rw [List.all_eq_true]; exact hflo0)
        clear hflr0 hfl0 hflo0
        clear e20 e29 e27
        go_wp2_with (first | fail | ((with_reducible refine at_load 47 ?_); refine wpList_load_mid rfl 47 _ rfl g (k * 89 + 22) rfl fl _ hflr.out Try.underlying47 rfl hfli.out ?_) | ((with_reducible refine at_store 47 ?_); refine wpList_store_new2 rfl rfl 47 _ _ _ rfl _ fl.toArray _ rfl ?_ rfl hfli2.out hfls.out hflo.out ?_; · rfl))
        go_quiet (fail)
        go_wp2_with fail
        go_roundw
        case rel => exact ⟨n + 1, Y, by omega, by go_num, H3.out.ext (((Ext.refl _).alloc _).drewN _), ok3, hnpY, hi3.out, (hE3.alloc _).drewN _⟩
        case measure => simp [intOf]; omega
    · go_wp2_with fail
      go_ret
      exact ⟨rfl, ((Ext.refl w).alloc _).trans hEr⟩

end Go.Proofs.Ythlapkddgnpaeaa
