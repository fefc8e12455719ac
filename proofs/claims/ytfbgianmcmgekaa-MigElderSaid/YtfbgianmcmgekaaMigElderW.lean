/- The walk of MigElder. No statement is proved here. -/
import Derived.Test.YtfbgianmcmgekaaMigE
import Derived.Test.YtfbgianmcmgekaaInts
import Derived.IntWalk
namespace Go.Proofs.Ytfbgianmcmgekaa
open Go.RowKit Go.BigFrame Go.WideShapes Go.ChangeShapes Go.Deep
set_option linter.unusedVariables false

set_option maxRecDepth 100000 in
set_option maxHeartbeats 12000000 in
theorem law_MigElder {w : World} (c : Array Value) (B : Br) (hb : BrC w c B) (ho : B.ok) (i : Int) (hi : 0 ≤ i ∧ i < 256) (v : Value) (zs : List Int) (hv : IsInts w .u8 v zs ∧ ∀ z ∈ zs, (Lit.int .u8 z).wf = true) :
    Calls Try.prog 5 #[.agg c, .int .u8 i, v] w fun e w' => e = .returned (.bool true) ∧ Ext w w' := by
  obtain ⟨va, vcap, rfl, hvl, hvc⟩ := hv.1.form
  have HVC := Lib.hid hvc
  have HVW := Lib.hid hv.2
  clear hv hvc
  by_cases hbig : 60 < zs.length
  · have HBG := Lib.hid hbig
    clear hbig
    have hl := ho.hd.1
    have hz : c.size = 20 := by
      obtain ⟨_, _, _, h, _⟩ := hb.facts ho.hd.1
      exact h
    have hi20 := Lib.hid (show (Try.prog.info? 33).map (·.size) = some c.size by rw [hz]; exact size_br)
    have HB := Lib.hid hb
    have hcz := hz
    clear hb hl hz
    go_enter Try.func5, Try.ntmps5
    go_wp2_with fail
    refine (mig_awake _).mono ?_
    rintro e w1 ⟨rfl, hE1⟩
    go_wp2_with (first | fail | ((with_reducible refine at_load 33 ?_); refine wpList_load_row rfl 33 _ rfl _ rfl _ c (0, 0) _ (box_heap hE1) Try.underlying33 rfl hi20.out ?_))
    refine (few_any c B _ (HB.out.ext (((Ext.refl w).alloc _).trans hE1)) ho).mono ?_
    rintro e w2 ⟨f, rfl, hx2, hf⟩
    have hE2 := Ext.trans hE1 hx2
    clear hE1 hx2
    clear hf
    cases f
    all_goals go_wp2_with fail
    all_goals first | (exfalso; have := HBG.out; omega) | (go_ret; exact ⟨rfl, ((Ext.refl w).alloc _).trans hE2⟩)
  have hl := ho.hd.1
  have hz : c.size = 20 := by
    obtain ⟨_, _, _, h, _⟩ := hb.facts ho.hd.1
    exact h
  have hi20 := Lib.hid (show (Try.prog.info? 33).map (·.size) = some c.size by rw [hz]; exact size_br)
  have HB := Lib.hid hb
  have hcz := hz
  clear hb hl hz
  go_enter Try.func5, Try.ntmps5
  go_wp2_with fail
  refine (mig_awake _).mono ?_
  rintro e w1 ⟨rfl, hE1⟩
  go_wp2_with (first | fail | ((with_reducible refine at_load 33 ?_); refine wpList_load_row rfl 33 _ rfl _ rfl _ c (0, 0) _ (box_heap hE1) Try.underlying33 rfl hi20.out ?_))
  refine (few_any c B _ (HB.out.ext (((Ext.refl w).alloc _).trans hE1)) ho).mono ?_
  rintro e w2 ⟨f, rfl, hx2, hf⟩
  have hE2 := Ext.trans hE1 hx2
  clear hE1 hx2
  cases f
  · go_wp2_with fail
    go_ret
    exact ⟨rfl, ((Ext.refl w).alloc _).trans hE2⟩
  have hfew := Lib.hid (hf.1 rfl)
  clear hf
  have hn1 := hfew.out.2.1
  go_wp2_with (first | fail | ((with_reducible refine at_load 33 ?_); refine wpList_load_row rfl 33 _ rfl _ rfl _ c (0, 0) _ (box_heap hE2) Try.underlying33 rfl hi20.out ?_))
  refine (at_any c B i _ (HB.out.ext (((Ext.refl w).alloc _).trans hE2)) ho hi hn1).mono ?_
  rintro e w3 ⟨rfl, hx3⟩
  have hE3 := Ext.trans hE2 hx3
  clear hE2 hx3
  obtain ⟨k, hk0⟩ : ∃ k, i.toNat % B.np = k := ⟨_, rfl⟩
  have hk : k < B.np := by rw [← hk0]; exact Nat.mod_lt _ hn1
  have hk8 : k < 1000 := by have := hfew.out; omega
  rw [hk0]
  clear hk0
  go_wp2_with (first | fail | ((with_reducible refine at_load 33 ?_); refine wpList_load_row rfl 33 _ rfl _ rfl _ c (0, 0) _ (box_heap hE3) Try.underlying33 rfl hi20.out ?_))
  refine (clone_any c B _ (HB.out.ext (((Ext.refl w).alloc _).trans hE3)) ho (by have := hfew.out; omega)).mono ?_
  rintro e w4 ⟨cx, rfl, hO4, hx4⟩
  have hE4 := Ext.trans hE3 hx4
  have hcxz := Lib.hid (size_z20.trans (hO4.size ho).symm)
  have hcxo := Lib.hid (hO4.one ho)
  have hcxi := Lib.hid (show (Try.prog.info? 33).map (·.size) = some cx.size by rw [hO4.size ho]; exact size_br)
  obtain ⟨g, hBx⟩ := hO4.made hx4.size hn1
  have HX := Lib.hid hBx
  have hs3 := Lib.hid (show w.heap.size < w3.heap.size from Nat.lt_of_lt_of_le (by simp) hE3.size)
  have hs4 := Lib.hid hx4.size
  have HMK := Lib.hid (show ∀ wx : World, wx = w4.alloc (.cells cx 33) → BrG wx (fun n => w3.heap.size ≤ n ∧ n < w4.heap.size + 1) w4.heap.size g B ∧ Ext (w.alloc (.cells c 33)) wx ∧ wx.heap.size = w4.heap.size + 1 from by
    rintro _ rfl
    exact ⟨hBx, hE4.alloc _, by simp⟩)
  clear hBx hO4 hx4 hE3
  have h89 := Lib.hid (len89 ho hk)
  have hclk := ((hfew.out.1).2 k hk).1 3 (by decide)
  have HCLK := Lib.hid hclk
  clear hclk
  go_wp2_with (first
    | fail
    | ((with_reducible refine at_store 33 ?_); refine wpList_store_new3 rfl rfl 33 _ _ _ rfl _ cx _ rfl ?_ rfl hcxi.out hcxz.out hcxo.out ?_; · rfl
       intro wx hwx
       obtain ⟨hBx, hEx, hzx0⟩ := HMK.out wx hwx
       have HX := Lib.hid hBx
       have hzx := Lib.hid hzx0
       clear hwx hBx hzx0
       obtain ⟨hXl, hgl, hne⟩ := HX.out.lt
       obtain ⟨cap, c17, hca, hcb⟩ := HX.out.cell17 ho
       have hfr := HX.out.frozen
       have hd1 := (HX.out.cellX ho (i := 1) (by omega)).trans (ho.hb 1 rfl)
       have p45 := (HX.out.cellg (i := k * 89 + 45) (lt89 hk (by decide))).trans (ho.gb hk 45 rfl)
       have hfX := HX.out.frozenX))
  have HB0 := Lib.hid ((HX.out.seth (j := 1) (by rw [ho.hd.1]; decide) (.bool false)).setp (k := k) (j := 45) hk (by decide) (.bool false))
  have okB0 := (ho.setHB 1 false rfl).setB (k := k) hk 45 false rfl
  have hE5 := Ext.mutE hEx (((Mut.refl (fun n => w3.heap.size ≤ n ∧ n < w4.heap.size + 1) wx).setCell (p := ⟨w4.heap.size, 1, none⟩) (.inl HX.out.F1) (.bool false)).setCell (p := ⟨g, k * 89 + 45, none⟩) (.inl HX.out.F2) (.bool false)) (fun n hn h1 => by have := h1.1; have := hs3.out; simp at hn; omega)
  have hinv0 : EInv ((B.seth 1 (.bool false)).setp k 45 (.bool false)) k := ⟨by rw [gb_setp_same _ _ _ _ (by have := h89.out; simp only [len_seth]; omega)], by show (B.seth 1 (.bool false)).hb 1 = false; rw [hb_seth_same _ _ _ (by rw [ho.hd.1]; decide)], by rw [gi_setp_ne _ _ _ _ _ (by decide)]; exact HCLK.out⟩
  clear c17 hfr hd1 p45 hfX hEx HCLK
  go_loopw [11, 12] (fun i _ wr => ∃ (n : Nat) (Z : Br), n ≤ zs.length ∧ i = .int .i64 n ∧ BrG wr (fun n => w3.heap.size ≤ n ∧ n < w4.heap.size + 1) w4.heap.size g Z ∧ Z.ok ∧ Z.np = B.np ∧ EInv Z k ∧ Ext (w.alloc (.cells c 33)) wr) (fun i _ _ => zs.length - (intOf i).toNat)
  case atStart => exact ⟨0, _, by omega, rfl, HB0.out, okB0, rfl, hinv0, hE5⟩
  case round =>
    clear hE5 HB0 hinv0
    obtain ⟨n, Z, hn, rfl, hZ, okZ, hnpZ, hinv, hEr⟩ := hrel
    have HZ := Lib.hid hZ
    have HINV := Lib.hid hinv
    have hkZ : k < Z.np := by rw [hnpZ]; exact hk
    have hZ89 := Lib.hid (len89 okZ hkZ)
    obtain ⟨hXl, hgl, hne⟩ := hZ.lt
    obtain ⟨cap, c17, -, -⟩ := hZ.cell17 okZ
    rw [hnpZ] at c17
    clear hZ hinv
    by_cases hlt : n < zs.length
    · obtain ⟨bl, ol, rfl, hbl, hll, hlm, hlc⟩ := HVC.out (by omega)
      have hcn := hlc n hlt
      obtain ⟨z, hz⟩ : ∃ z : Int, zs.getD n 0 = z := ⟨_, rfl⟩
      have hzw := HVW.out (zs.getD n 0) (by rw [List.getD_eq_getElem?_getD, List.getElem?_eq_getElem hlt]; simp)
      rw [hz] at hcn hzw
      have hz01 := wf_u8 hzw
      obtain ⟨hz0, hz1⟩ := hz01
      have HCN := Lib.hid hcn
      clear hlc hz hzw hcn
      have lcv := ((((Ext.refl w).alloc _).trans hEr).cell (p := ⟨bl, ol + n, none⟩) hbl).trans HCN.out
      have hfr := HZ.out.frozen
      have hbX : bl ≠ g := fun e => by
        have h1 := HX.out.F2.1
        have h2 := hs3.out
        omega
      obtain ⟨rr, hrr⟩ : ∃ b, Z.gb k 37 = b := ⟨_, rfl⟩
      obtain ⟨rp, hrp⟩ : ∃ b, Z.gb k 38 = b := ⟨_, rfl⟩
      obtain ⟨mc, hmc⟩ : ∃ b, Z.gb k 30 = b := ⟨_, rfl⟩
      obtain ⟨m, hm⟩ : ∃ m, Z.gi k 9 = m := ⟨_, rfl⟩
      have hm01 := HINV.out.2.2
      rw [hm] at hm01
      obtain ⟨hm0, hm1⟩ := hm01
      have p37 := (HZ.out.cellg (i := k * 89 + 37) (lt89 hkZ (by decide))).trans (okZ.gb hkZ 37 rfl)
      have p38 := (HZ.out.cellg (i := k * 89 + 38) (lt89 hkZ (by decide))).trans (okZ.gb hkZ 38 rfl)
      have p30 := (HZ.out.cellg (i := k * 89 + 30) (lt89 hkZ (by decide))).trans (okZ.gb hkZ 30 rfl)
      have p2 := (HZ.out.cellg (i := k * 89 + 2) (lt89 hkZ (by decide))).trans (okZ.gb hkZ 2 rfl)
      have p9 := (HZ.out.cellg (i := k * 89 + 9) (lt89 hkZ (by decide))).trans (okZ.gi hkZ 9 rfl)
      rw [hrr] at p37
      rw [hrp] at p38
      rw [hmc] at p30
      rw [hm] at p9
      have HM := Lib.hid hm
      clear hrr hrp hmc hm
      cases rr <;> cases rp <;> cases mc
      · go_wp2_with fail
        have HG := Lib.hid ((((HZ.out.setp (k := k) (j := 37) hkZ (by decide) (.bool (z % 2 == 1))).setp (k := k) (j := 38) hkZ (by decide) (.bool (z / 2 % 2 == 1))).setp (k := k) (j := 30) hkZ (by decide) (.bool (z / 4 % 8 == 1))).setp (k := k) (j := 2) hkZ (by decide) (.bool (decide (z < 200))))
        have okG := ((((okZ.setB (k := k) hkZ 37 (z % 2 == 1) rfl).setB (k := k) hkZ 38 (z / 2 % 2 == 1) rfl).setB (k := k) hkZ 30 (z / 4 % 8 == 1) rfl).setB (k := k) hkZ 2 (decide (z < 200)) rfl)
        have hEg := Ext.mutE hEr (((((Mut.refl (fun n => w3.heap.size ≤ n ∧ n < w4.heap.size + 1) wr).setCell (p := ⟨g, k * 89 + 37, none⟩) (.inl HX.out.F2) (.bool (z % 2 == 1))).setCell (p := ⟨g, k * 89 + 38, none⟩) (.inl HX.out.F2) (.bool (z / 2 % 2 == 1))).setCell (p := ⟨g, k * 89 + 30, none⟩) (.inl HX.out.F2) (.bool (z / 4 % 8 == 1))).setCell (p := ⟨g, k * 89 + 2, none⟩) (.inl HX.out.F2) (.bool (decide (z < 200)))) (fun n hn h1 => by have := h1.1; have := hs3.out; simp at hn; omega)
        generalize hgg : World.setCell (World.setCell (World.setCell (World.setCell wr _ _) _ _) _ _) _ _ = g1
        rw [show (World.setCell (World.setCell (World.setCell (World.setCell wr ⟨g, k * 89 + 37, none⟩ (.bool (z % 2 == 1))) ⟨g, k * 89 + 38, none⟩ (.bool (z / 2 % 2 == 1))) ⟨g, k * 89 + 30, none⟩ (.bool (z / 4 % 8 == 1))) ⟨g, k * 89 + 2, none⟩ (.bool (decide (z < 200)))) = g1 from hgg] at HG hEg
        clear hgg lcv p37 p38 p30 p2 p9 c17 hfr
        refine wp_region_tail 17 (by kernel_rfl) (by kernel_rfl) ?_
        intro y1 hy1
        have hyx : Ext g1 y1 := by
          rw [hy1]
          exact (Ext.refl _).drew
        clear hy1
        have hEy := hEg.trans hyx
        have HY := Lib.hid (HG.out.ext hyx)
        have lcv := ((((Ext.refl w).alloc _).trans hEy).cell (p := ⟨bl, ol + n, none⟩) hbl).trans HCN.out
        have p9 := (HY.out.cellg (i := k * 89 + 9) (lt89 hkZ (by decide))).trans (okG.gi hkZ 9 rfl)
        rw [gi_setp_ne _ _ _ _ _ (by decide), gi_setp_ne _ _ _ _ _ (by decide), gi_setp_ne _ _ _ _ _ (by decide), gi_setp_ne _ _ _ _ _ (by decide), HM.out] at p9
        have hfr := HY.out.frozen
        have hw := IntWalk.i64_in (m - z / 64) (by omega)
        simp only [List.take_succ_cons, List.take_zero, List.drop_succ_cons, List.drop_zero]
        rcases (by omega : z / 64 < m ∨ m ≤ z / 64) with hc | hc
        · repeat still_step
          refine wpStill_nil ?_
          go_wp2_with fail
          all_goals
            have okH := okG.setI (k := k) hkZ 9 .i64 (m - z / 64) rfl (wf_mdelay _ (by omega))
            have hEz := Ext.mutE hEy ((Mut.refl (fun n => w3.heap.size ≤ n ∧ n < w4.heap.size + 1) y1).setCell (p := ⟨g, k * 89 + 9, none⟩) (.inl HX.out.F2) (.int .i64 (m - z / 64))) (fun n hn h1 => by have := h1.1; have := hs3.out; simp at hn; omega)
            have hinv3 := einv_step _ k (by simpa using hZ89.out) (einv_set Z k (z % 2 == 1) (z / 2 % 2 == 1) (z / 4 % 8 == 1) (decide (z < 200)) (m - z / 64) hZ89.out HINV.out (by omega))
            have ok3 := migF_ok okH (k := k) hkZ
            have hnp3 := migF_np (((((Z.setp k 37 (.bool (z % 2 == 1))).setp k 38 (.bool (z / 2 % 2 == 1))).setp k 30 (.bool (z / 4 % 8 == 1))).setp k 2 (.bool (decide (z < 200)))).setp k 9 (.int .i64 (m - z / 64))) k
            refine (mig_step _ (fun n => w3.heap.size ≤ n ∧ n < w4.heap.size + 1) _ g k (((((Z.setp k 37 (.bool (z % 2 == 1))).setp k 38 (.bool (z / 2 % 2 == 1))).setp k 30 (.bool (z / 4 % 8 == 1))).setp k 2 (.bool (decide (z < 200)))).setp k 9 (.int .i64 (m - z / 64))) (HY.out.setp (k := k) (j := 9) hkZ (by decide) _) okH hkZ hk8).mono ?_
            rintro e y3 ⟨rfl, hB3, hm3⟩
            have hE3 := Ext.mutE hEz hm3 (fun n hn h1 => by have := h1.1; have := hs3.out; simp at hn; omega)
            obtain ⟨d, hd⟩ : ∃ d, (migF (((((Z.setp k 37 (.bool (z % 2 == 1))).setp k 38 (.bool (z / 2 % 2 == 1))).setp k 30 (.bool (z / 4 % 8 == 1))).setp k 2 (.bool (decide (z < 200)))).setp k 9 (.int .i64 (m - z / 64))) k).1 = d := ⟨_, rfl⟩
            rw [hd]
            obtain ⟨Y, hY⟩ : ∃ Y, (migF (((((Z.setp k 37 (.bool (z % 2 == 1))).setp k 38 (.bool (z / 2 % 2 == 1))).setp k 30 (.bool (z / 4 % 8 == 1))).setp k 2 (.bool (decide (z < 200)))).setp k 9 (.int .i64 (m - z / 64))) k).2 = Y := ⟨_, rfl⟩
            rw [hY] at hB3 hinv3 ok3 hnp3
            have hnpY : Y.np = B.np := hnp3.trans hnpZ
            have hkY : k < Y.np := by rw [hnpY]; exact hk
            have H3 := Lib.hid hB3
            have hi3 := Lib.hid hinv3
            clear hd hY hB3 hm3 hnp3 HG okG okH hEz hEy hEg HY HZ okZ hnpZ hEr lcv p9 hfr hw
            obtain ⟨cap3, x17, -, -⟩ := H3.out.cell17 ok3
            rw [hnpY] at x17
            have p45 := (H3.out.cellg (i := k * 89 + 45) (lt89 hkY (by decide))).trans (ok3.gb hkY 45 rfl)
            rw [hinv3.1] at p45
            clear hinv3
            go_wp2_with fail
            go_roundw
            case rel => exact ⟨n + 1, Y, by omega, by go_num, H3.out, ok3, hnpY, hi3.out, hE3⟩
            case measure => simp [intOf]; omega
        · repeat still_step
          refine wpStill_nil ?_
          go_wp2_with fail
          all_goals
            have okH := okG.setI (k := k) hkZ 9 .i64 0 rfl (wf_mdelay _ (by omega))
            have hEz := Ext.mutE hEy ((Mut.refl (fun n => w3.heap.size ≤ n ∧ n < w4.heap.size + 1) y1).setCell (p := ⟨g, k * 89 + 9, none⟩) (.inl HX.out.F2) (.int .i64 0)) (fun n hn h1 => by have := h1.1; have := hs3.out; simp at hn; omega)
            have hinv3 := einv_step _ k (by simpa using hZ89.out) (einv_set Z k (z % 2 == 1) (z / 2 % 2 == 1) (z / 4 % 8 == 1) (decide (z < 200)) 0 hZ89.out HINV.out (by omega))
            have ok3 := migF_ok okH (k := k) hkZ
            have hnp3 := migF_np (((((Z.setp k 37 (.bool (z % 2 == 1))).setp k 38 (.bool (z / 2 % 2 == 1))).setp k 30 (.bool (z / 4 % 8 == 1))).setp k 2 (.bool (decide (z < 200)))).setp k 9 (.int .i64 0)) k
            refine (mig_step _ (fun n => w3.heap.size ≤ n ∧ n < w4.heap.size + 1) _ g k (((((Z.setp k 37 (.bool (z % 2 == 1))).setp k 38 (.bool (z / 2 % 2 == 1))).setp k 30 (.bool (z / 4 % 8 == 1))).setp k 2 (.bool (decide (z < 200)))).setp k 9 (.int .i64 0)) (HY.out.setp (k := k) (j := 9) hkZ (by decide) _) okH hkZ hk8).mono ?_
            rintro e y3 ⟨rfl, hB3, hm3⟩
            have hE3 := Ext.mutE hEz hm3 (fun n hn h1 => by have := h1.1; have := hs3.out; simp at hn; omega)
            obtain ⟨d, hd⟩ : ∃ d, (migF (((((Z.setp k 37 (.bool (z % 2 == 1))).setp k 38 (.bool (z / 2 % 2 == 1))).setp k 30 (.bool (z / 4 % 8 == 1))).setp k 2 (.bool (decide (z < 200)))).setp k 9 (.int .i64 0)) k).1 = d := ⟨_, rfl⟩
            rw [hd]
            obtain ⟨Y, hY⟩ : ∃ Y, (migF (((((Z.setp k 37 (.bool (z % 2 == 1))).setp k 38 (.bool (z / 2 % 2 == 1))).setp k 30 (.bool (z / 4 % 8 == 1))).setp k 2 (.bool (decide (z < 200)))).setp k 9 (.int .i64 0)) k).2 = Y := ⟨_, rfl⟩
            rw [hY] at hB3 hinv3 ok3 hnp3
            have hnpY : Y.np = B.np := hnp3.trans hnpZ
            have hkY : k < Y.np := by rw [hnpY]; exact hk
            have H3 := Lib.hid hB3
            have hi3 := Lib.hid hinv3
            clear hd hY hB3 hm3 hnp3 HG okG okH hEz hEy hEg HY HZ okZ hnpZ hEr lcv p9 hfr hw
            obtain ⟨cap3, x17, -, -⟩ := H3.out.cell17 ok3
            rw [hnpY] at x17
            have p45 := (H3.out.cellg (i := k * 89 + 45) (lt89 hkY (by decide))).trans (ok3.gb hkY 45 rfl)
            rw [hinv3.1] at p45
            clear hinv3
            go_wp2_with fail
            go_roundw
            case rel => exact ⟨n + 1, Y, by omega, by go_num, H3.out, ok3, hnpY, hi3.out, hE3⟩
            case measure => simp [intOf]; omega
      · go_wp2_with fail
        have HG := Lib.hid ((((HZ.out.setp (k := k) (j := 37) hkZ (by decide) (.bool (z % 2 == 1))).setp (k := k) (j := 38) hkZ (by decide) (.bool (z / 2 % 2 == 1))).setp (k := k) (j := 30) hkZ (by decide) (.bool true)).setp (k := k) (j := 2) hkZ (by decide) (.bool (decide (z < 200))))
        have okG := ((((okZ.setB (k := k) hkZ 37 (z % 2 == 1) rfl).setB (k := k) hkZ 38 (z / 2 % 2 == 1) rfl).setB (k := k) hkZ 30 true rfl).setB (k := k) hkZ 2 (decide (z < 200)) rfl)
        have hEg := Ext.mutE hEr (((((Mut.refl (fun n => w3.heap.size ≤ n ∧ n < w4.heap.size + 1) wr).setCell (p := ⟨g, k * 89 + 37, none⟩) (.inl HX.out.F2) (.bool (z % 2 == 1))).setCell (p := ⟨g, k * 89 + 38, none⟩) (.inl HX.out.F2) (.bool (z / 2 % 2 == 1))).setCell (p := ⟨g, k * 89 + 30, none⟩) (.inl HX.out.F2) (.bool true)).setCell (p := ⟨g, k * 89 + 2, none⟩) (.inl HX.out.F2) (.bool (decide (z < 200)))) (fun n hn h1 => by have := h1.1; have := hs3.out; simp at hn; omega)
        generalize hgg : World.setCell (World.setCell (World.setCell (World.setCell wr _ _) _ _) _ _) _ _ = g1
        rw [show (World.setCell (World.setCell (World.setCell (World.setCell wr ⟨g, k * 89 + 37, none⟩ (.bool (z % 2 == 1))) ⟨g, k * 89 + 38, none⟩ (.bool (z / 2 % 2 == 1))) ⟨g, k * 89 + 30, none⟩ (.bool true)) ⟨g, k * 89 + 2, none⟩ (.bool (decide (z < 200)))) = g1 from hgg] at HG hEg
        clear hgg lcv p37 p38 p30 p2 p9 c17 hfr
        refine wp_region_tail 17 (by kernel_rfl) (by kernel_rfl) ?_
        intro y1 hy1
        have hyx : Ext g1 y1 := by
          rw [hy1]
          exact (Ext.refl _).drew
        clear hy1
        have hEy := hEg.trans hyx
        have HY := Lib.hid (HG.out.ext hyx)
        have lcv := ((((Ext.refl w).alloc _).trans hEy).cell (p := ⟨bl, ol + n, none⟩) hbl).trans HCN.out
        have p9 := (HY.out.cellg (i := k * 89 + 9) (lt89 hkZ (by decide))).trans (okG.gi hkZ 9 rfl)
        rw [gi_setp_ne _ _ _ _ _ (by decide), gi_setp_ne _ _ _ _ _ (by decide), gi_setp_ne _ _ _ _ _ (by decide), gi_setp_ne _ _ _ _ _ (by decide), HM.out] at p9
        have hfr := HY.out.frozen
        have hw := IntWalk.i64_in (m - z / 64) (by omega)
        simp only [List.take_succ_cons, List.take_zero, List.drop_succ_cons, List.drop_zero]
        rcases (by omega : z / 64 < m ∨ m ≤ z / 64) with hc | hc
        · repeat still_step
          refine wpStill_nil ?_
          go_wp2_with fail
          all_goals
            have okH := okG.setI (k := k) hkZ 9 .i64 (m - z / 64) rfl (wf_mdelay _ (by omega))
            have hEz := Ext.mutE hEy ((Mut.refl (fun n => w3.heap.size ≤ n ∧ n < w4.heap.size + 1) y1).setCell (p := ⟨g, k * 89 + 9, none⟩) (.inl HX.out.F2) (.int .i64 (m - z / 64))) (fun n hn h1 => by have := h1.1; have := hs3.out; simp at hn; omega)
            have hinv3 := einv_step _ k (by simpa using hZ89.out) (einv_set Z k (z % 2 == 1) (z / 2 % 2 == 1) true (decide (z < 200)) (m - z / 64) hZ89.out HINV.out (by omega))
            have ok3 := migF_ok okH (k := k) hkZ
            have hnp3 := migF_np (((((Z.setp k 37 (.bool (z % 2 == 1))).setp k 38 (.bool (z / 2 % 2 == 1))).setp k 30 (.bool true)).setp k 2 (.bool (decide (z < 200)))).setp k 9 (.int .i64 (m - z / 64))) k
            refine (mig_step _ (fun n => w3.heap.size ≤ n ∧ n < w4.heap.size + 1) _ g k (((((Z.setp k 37 (.bool (z % 2 == 1))).setp k 38 (.bool (z / 2 % 2 == 1))).setp k 30 (.bool true)).setp k 2 (.bool (decide (z < 200)))).setp k 9 (.int .i64 (m - z / 64))) (HY.out.setp (k := k) (j := 9) hkZ (by decide) _) okH hkZ hk8).mono ?_
            rintro e y3 ⟨rfl, hB3, hm3⟩
            have hE3 := Ext.mutE hEz hm3 (fun n hn h1 => by have := h1.1; have := hs3.out; simp at hn; omega)
            obtain ⟨d, hd⟩ : ∃ d, (migF (((((Z.setp k 37 (.bool (z % 2 == 1))).setp k 38 (.bool (z / 2 % 2 == 1))).setp k 30 (.bool true)).setp k 2 (.bool (decide (z < 200)))).setp k 9 (.int .i64 (m - z / 64))) k).1 = d := ⟨_, rfl⟩
            rw [hd]
            obtain ⟨Y, hY⟩ : ∃ Y, (migF (((((Z.setp k 37 (.bool (z % 2 == 1))).setp k 38 (.bool (z / 2 % 2 == 1))).setp k 30 (.bool true)).setp k 2 (.bool (decide (z < 200)))).setp k 9 (.int .i64 (m - z / 64))) k).2 = Y := ⟨_, rfl⟩
            rw [hY] at hB3 hinv3 ok3 hnp3
            have hnpY : Y.np = B.np := hnp3.trans hnpZ
            have hkY : k < Y.np := by rw [hnpY]; exact hk
            have H3 := Lib.hid hB3
            have hi3 := Lib.hid hinv3
            clear hd hY hB3 hm3 hnp3 HG okG okH hEz hEy hEg HY HZ okZ hnpZ hEr lcv p9 hfr hw
            obtain ⟨cap3, x17, -, -⟩ := H3.out.cell17 ok3
            rw [hnpY] at x17
            have p45 := (H3.out.cellg (i := k * 89 + 45) (lt89 hkY (by decide))).trans (ok3.gb hkY 45 rfl)
            rw [hinv3.1] at p45
            clear hinv3
            go_wp2_with fail
            go_roundw
            case rel => exact ⟨n + 1, Y, by omega, by go_num, H3.out, ok3, hnpY, hi3.out, hE3⟩
            case measure => simp [intOf]; omega
        · repeat still_step
          refine wpStill_nil ?_
          go_wp2_with fail
          all_goals
            have okH := okG.setI (k := k) hkZ 9 .i64 0 rfl (wf_mdelay _ (by omega))
            have hEz := Ext.mutE hEy ((Mut.refl (fun n => w3.heap.size ≤ n ∧ n < w4.heap.size + 1) y1).setCell (p := ⟨g, k * 89 + 9, none⟩) (.inl HX.out.F2) (.int .i64 0)) (fun n hn h1 => by have := h1.1; have := hs3.out; simp at hn; omega)
            have hinv3 := einv_step _ k (by simpa using hZ89.out) (einv_set Z k (z % 2 == 1) (z / 2 % 2 == 1) true (decide (z < 200)) 0 hZ89.out HINV.out (by omega))
            have ok3 := migF_ok okH (k := k) hkZ
            have hnp3 := migF_np (((((Z.setp k 37 (.bool (z % 2 == 1))).setp k 38 (.bool (z / 2 % 2 == 1))).setp k 30 (.bool true)).setp k 2 (.bool (decide (z < 200)))).setp k 9 (.int .i64 0)) k
            refine (mig_step _ (fun n => w3.heap.size ≤ n ∧ n < w4.heap.size + 1) _ g k (((((Z.setp k 37 (.bool (z % 2 == 1))).setp k 38 (.bool (z / 2 % 2 == 1))).setp k 30 (.bool true)).setp k 2 (.bool (decide (z < 200)))).setp k 9 (.int .i64 0)) (HY.out.setp (k := k) (j := 9) hkZ (by decide) _) okH hkZ hk8).mono ?_
            rintro e y3 ⟨rfl, hB3, hm3⟩
            have hE3 := Ext.mutE hEz hm3 (fun n hn h1 => by have := h1.1; have := hs3.out; simp at hn; omega)
            obtain ⟨d, hd⟩ : ∃ d, (migF (((((Z.setp k 37 (.bool (z % 2 == 1))).setp k 38 (.bool (z / 2 % 2 == 1))).setp k 30 (.bool true)).setp k 2 (.bool (decide (z < 200)))).setp k 9 (.int .i64 0)) k).1 = d := ⟨_, rfl⟩
            rw [hd]
            obtain ⟨Y, hY⟩ : ∃ Y, (migF (((((Z.setp k 37 (.bool (z % 2 == 1))).setp k 38 (.bool (z / 2 % 2 == 1))).setp k 30 (.bool true)).setp k 2 (.bool (decide (z < 200)))).setp k 9 (.int .i64 0)) k).2 = Y := ⟨_, rfl⟩
            rw [hY] at hB3 hinv3 ok3 hnp3
            have hnpY : Y.np = B.np := hnp3.trans hnpZ
            have hkY : k < Y.np := by rw [hnpY]; exact hk
            have H3 := Lib.hid hB3
            have hi3 := Lib.hid hinv3
            clear hd hY hB3 hm3 hnp3 HG okG okH hEz hEy hEg HY HZ okZ hnpZ hEr lcv p9 hfr hw
            obtain ⟨cap3, x17, -, -⟩ := H3.out.cell17 ok3
            rw [hnpY] at x17
            have p45 := (H3.out.cellg (i := k * 89 + 45) (lt89 hkY (by decide))).trans (ok3.gb hkY 45 rfl)
            rw [hinv3.1] at p45
            clear hinv3
            go_wp2_with fail
            go_roundw
            case rel => exact ⟨n + 1, Y, by omega, by go_num, H3.out, ok3, hnpY, hi3.out, hE3⟩
            case measure => simp [intOf]; omega
      · go_wp2_with fail
        have HG := Lib.hid ((((HZ.out.setp (k := k) (j := 37) hkZ (by decide) (.bool (z % 2 == 1))).setp (k := k) (j := 38) hkZ (by decide) (.bool true)).setp (k := k) (j := 30) hkZ (by decide) (.bool (z / 4 % 8 == 1))).setp (k := k) (j := 2) hkZ (by decide) (.bool (decide (z < 200))))
        have okG := ((((okZ.setB (k := k) hkZ 37 (z % 2 == 1) rfl).setB (k := k) hkZ 38 true rfl).setB (k := k) hkZ 30 (z / 4 % 8 == 1) rfl).setB (k := k) hkZ 2 (decide (z < 200)) rfl)
        have hEg := Ext.mutE hEr (((((Mut.refl (fun n => w3.heap.size ≤ n ∧ n < w4.heap.size + 1) wr).setCell (p := ⟨g, k * 89 + 37, none⟩) (.inl HX.out.F2) (.bool (z % 2 == 1))).setCell (p := ⟨g, k * 89 + 38, none⟩) (.inl HX.out.F2) (.bool true)).setCell (p := ⟨g, k * 89 + 30, none⟩) (.inl HX.out.F2) (.bool (z / 4 % 8 == 1))).setCell (p := ⟨g, k * 89 + 2, none⟩) (.inl HX.out.F2) (.bool (decide (z < 200)))) (fun n hn h1 => by have := h1.1; have := hs3.out; simp at hn; omega)
        generalize hgg : World.setCell (World.setCell (World.setCell (World.setCell wr _ _) _ _) _ _) _ _ = g1
        rw [show (World.setCell (World.setCell (World.setCell (World.setCell wr ⟨g, k * 89 + 37, none⟩ (.bool (z % 2 == 1))) ⟨g, k * 89 + 38, none⟩ (.bool true)) ⟨g, k * 89 + 30, none⟩ (.bool (z / 4 % 8 == 1))) ⟨g, k * 89 + 2, none⟩ (.bool (decide (z < 200)))) = g1 from hgg] at HG hEg
        clear hgg lcv p37 p38 p30 p2 p9 c17 hfr
        refine wp_region_tail 17 (by kernel_rfl) (by kernel_rfl) ?_
        intro y1 hy1
        have hyx : Ext g1 y1 := by
          rw [hy1]
          exact (Ext.refl _).drew
        clear hy1
        have hEy := hEg.trans hyx
        have HY := Lib.hid (HG.out.ext hyx)
        have lcv := ((((Ext.refl w).alloc _).trans hEy).cell (p := ⟨bl, ol + n, none⟩) hbl).trans HCN.out
        have p9 := (HY.out.cellg (i := k * 89 + 9) (lt89 hkZ (by decide))).trans (okG.gi hkZ 9 rfl)
        rw [gi_setp_ne _ _ _ _ _ (by decide), gi_setp_ne _ _ _ _ _ (by decide), gi_setp_ne _ _ _ _ _ (by decide), gi_setp_ne _ _ _ _ _ (by decide), HM.out] at p9
        have hfr := HY.out.frozen
        have hw := IntWalk.i64_in (m - z / 64) (by omega)
        simp only [List.take_succ_cons, List.take_zero, List.drop_succ_cons, List.drop_zero]
        rcases (by omega : z / 64 < m ∨ m ≤ z / 64) with hc | hc
        · repeat still_step
          refine wpStill_nil ?_
          go_wp2_with fail
          all_goals
            have okH := okG.setI (k := k) hkZ 9 .i64 (m - z / 64) rfl (wf_mdelay _ (by omega))
            have hEz := Ext.mutE hEy ((Mut.refl (fun n => w3.heap.size ≤ n ∧ n < w4.heap.size + 1) y1).setCell (p := ⟨g, k * 89 + 9, none⟩) (.inl HX.out.F2) (.int .i64 (m - z / 64))) (fun n hn h1 => by have := h1.1; have := hs3.out; simp at hn; omega)
            have hinv3 := einv_step _ k (by simpa using hZ89.out) (einv_set Z k (z % 2 == 1) true (z / 4 % 8 == 1) (decide (z < 200)) (m - z / 64) hZ89.out HINV.out (by omega))
            have ok3 := migF_ok okH (k := k) hkZ
            have hnp3 := migF_np (((((Z.setp k 37 (.bool (z % 2 == 1))).setp k 38 (.bool true)).setp k 30 (.bool (z / 4 % 8 == 1))).setp k 2 (.bool (decide (z < 200)))).setp k 9 (.int .i64 (m - z / 64))) k
            refine (mig_step _ (fun n => w3.heap.size ≤ n ∧ n < w4.heap.size + 1) _ g k (((((Z.setp k 37 (.bool (z % 2 == 1))).setp k 38 (.bool true)).setp k 30 (.bool (z / 4 % 8 == 1))).setp k 2 (.bool (decide (z < 200)))).setp k 9 (.int .i64 (m - z / 64))) (HY.out.setp (k := k) (j := 9) hkZ (by decide) _) okH hkZ hk8).mono ?_
            rintro e y3 ⟨rfl, hB3, hm3⟩
            have hE3 := Ext.mutE hEz hm3 (fun n hn h1 => by have := h1.1; have := hs3.out; simp at hn; omega)
            obtain ⟨d, hd⟩ : ∃ d, (migF (((((Z.setp k 37 (.bool (z % 2 == 1))).setp k 38 (.bool true)).setp k 30 (.bool (z / 4 % 8 == 1))).setp k 2 (.bool (decide (z < 200)))).setp k 9 (.int .i64 (m - z / 64))) k).1 = d := ⟨_, rfl⟩
            rw [hd]
            obtain ⟨Y, hY⟩ : ∃ Y, (migF (((((Z.setp k 37 (.bool (z % 2 == 1))).setp k 38 (.bool true)).setp k 30 (.bool (z / 4 % 8 == 1))).setp k 2 (.bool (decide (z < 200)))).setp k 9 (.int .i64 (m - z / 64))) k).2 = Y := ⟨_, rfl⟩
            rw [hY] at hB3 hinv3 ok3 hnp3
            have hnpY : Y.np = B.np := hnp3.trans hnpZ
            have hkY : k < Y.np := by rw [hnpY]; exact hk
            have H3 := Lib.hid hB3
            have hi3 := Lib.hid hinv3
            clear hd hY hB3 hm3 hnp3 HG okG okH hEz hEy hEg HY HZ okZ hnpZ hEr lcv p9 hfr hw
            obtain ⟨cap3, x17, -, -⟩ := H3.out.cell17 ok3
            rw [hnpY] at x17
            have p45 := (H3.out.cellg (i := k * 89 + 45) (lt89 hkY (by decide))).trans (ok3.gb hkY 45 rfl)
            rw [hinv3.1] at p45
            clear hinv3
            go_wp2_with fail
            go_roundw
            case rel => exact ⟨n + 1, Y, by omega, by go_num, H3.out, ok3, hnpY, hi3.out, hE3⟩
            case measure => simp [intOf]; omega
        · repeat still_step
          refine wpStill_nil ?_
          go_wp2_with fail
          all_goals
            have okH := okG.setI (k := k) hkZ 9 .i64 0 rfl (wf_mdelay _ (by omega))
            have hEz := Ext.mutE hEy ((Mut.refl (fun n => w3.heap.size ≤ n ∧ n < w4.heap.size + 1) y1).setCell (p := ⟨g, k * 89 + 9, none⟩) (.inl HX.out.F2) (.int .i64 0)) (fun n hn h1 => by have := h1.1; have := hs3.out; simp at hn; omega)
            have hinv3 := einv_step _ k (by simpa using hZ89.out) (einv_set Z k (z % 2 == 1) true (z / 4 % 8 == 1) (decide (z < 200)) 0 hZ89.out HINV.out (by omega))
            have ok3 := migF_ok okH (k := k) hkZ
            have hnp3 := migF_np (((((Z.setp k 37 (.bool (z % 2 == 1))).setp k 38 (.bool true)).setp k 30 (.bool (z / 4 % 8 == 1))).setp k 2 (.bool (decide (z < 200)))).setp k 9 (.int .i64 0)) k
            refine (mig_step _ (fun n => w3.heap.size ≤ n ∧ n < w4.heap.size + 1) _ g k (((((Z.setp k 37 (.bool (z % 2 == 1))).setp k 38 (.bool true)).setp k 30 (.bool (z / 4 % 8 == 1))).setp k 2 (.bool (decide (z < 200)))).setp k 9 (.int .i64 0)) (HY.out.setp (k := k) (j := 9) hkZ (by decide) _) okH hkZ hk8).mono ?_
            rintro e y3 ⟨rfl, hB3, hm3⟩
            have hE3 := Ext.mutE hEz hm3 (fun n hn h1 => by have := h1.1; have := hs3.out; simp at hn; omega)
            obtain ⟨d, hd⟩ : ∃ d, (migF (((((Z.setp k 37 (.bool (z % 2 == 1))).setp k 38 (.bool true)).setp k 30 (.bool (z / 4 % 8 == 1))).setp k 2 (.bool (decide (z < 200)))).setp k 9 (.int .i64 0)) k).1 = d := ⟨_, rfl⟩
            rw [hd]
            obtain ⟨Y, hY⟩ : ∃ Y, (migF (((((Z.setp k 37 (.bool (z % 2 == 1))).setp k 38 (.bool true)).setp k 30 (.bool (z / 4 % 8 == 1))).setp k 2 (.bool (decide (z < 200)))).setp k 9 (.int .i64 0)) k).2 = Y := ⟨_, rfl⟩
            rw [hY] at hB3 hinv3 ok3 hnp3
            have hnpY : Y.np = B.np := hnp3.trans hnpZ
            have hkY : k < Y.np := by rw [hnpY]; exact hk
            have H3 := Lib.hid hB3
            have hi3 := Lib.hid hinv3
            clear hd hY hB3 hm3 hnp3 HG okG okH hEz hEy hEg HY HZ okZ hnpZ hEr lcv p9 hfr hw
            obtain ⟨cap3, x17, -, -⟩ := H3.out.cell17 ok3
            rw [hnpY] at x17
            have p45 := (H3.out.cellg (i := k * 89 + 45) (lt89 hkY (by decide))).trans (ok3.gb hkY 45 rfl)
            rw [hinv3.1] at p45
            clear hinv3
            go_wp2_with fail
            go_roundw
            case rel => exact ⟨n + 1, Y, by omega, by go_num, H3.out, ok3, hnpY, hi3.out, hE3⟩
            case measure => simp [intOf]; omega
      · go_wp2_with fail
        have HG := Lib.hid ((((HZ.out.setp (k := k) (j := 37) hkZ (by decide) (.bool (z % 2 == 1))).setp (k := k) (j := 38) hkZ (by decide) (.bool true)).setp (k := k) (j := 30) hkZ (by decide) (.bool true)).setp (k := k) (j := 2) hkZ (by decide) (.bool (decide (z < 200))))
        have okG := ((((okZ.setB (k := k) hkZ 37 (z % 2 == 1) rfl).setB (k := k) hkZ 38 true rfl).setB (k := k) hkZ 30 true rfl).setB (k := k) hkZ 2 (decide (z < 200)) rfl)
        have hEg := Ext.mutE hEr (((((Mut.refl (fun n => w3.heap.size ≤ n ∧ n < w4.heap.size + 1) wr).setCell (p := ⟨g, k * 89 + 37, none⟩) (.inl HX.out.F2) (.bool (z % 2 == 1))).setCell (p := ⟨g, k * 89 + 38, none⟩) (.inl HX.out.F2) (.bool true)).setCell (p := ⟨g, k * 89 + 30, none⟩) (.inl HX.out.F2) (.bool true)).setCell (p := ⟨g, k * 89 + 2, none⟩) (.inl HX.out.F2) (.bool (decide (z < 200)))) (fun n hn h1 => by have := h1.1; have := hs3.out; simp at hn; omega)
        generalize hgg : World.setCell (World.setCell (World.setCell (World.setCell wr _ _) _ _) _ _) _ _ = g1
        rw [show (World.setCell (World.setCell (World.setCell (World.setCell wr ⟨g, k * 89 + 37, none⟩ (.bool (z % 2 == 1))) ⟨g, k * 89 + 38, none⟩ (.bool true)) ⟨g, k * 89 + 30, none⟩ (.bool true)) ⟨g, k * 89 + 2, none⟩ (.bool (decide (z < 200)))) = g1 from hgg] at HG hEg
        clear hgg lcv p37 p38 p30 p2 p9 c17 hfr
        refine wp_region_tail 17 (by kernel_rfl) (by kernel_rfl) ?_
        intro y1 hy1
        have hyx : Ext g1 y1 := by
          rw [hy1]
          exact (Ext.refl _).drew
        clear hy1
        have hEy := hEg.trans hyx
        have HY := Lib.hid (HG.out.ext hyx)
        have lcv := ((((Ext.refl w).alloc _).trans hEy).cell (p := ⟨bl, ol + n, none⟩) hbl).trans HCN.out
        have p9 := (HY.out.cellg (i := k * 89 + 9) (lt89 hkZ (by decide))).trans (okG.gi hkZ 9 rfl)
        rw [gi_setp_ne _ _ _ _ _ (by decide), gi_setp_ne _ _ _ _ _ (by decide), gi_setp_ne _ _ _ _ _ (by decide), gi_setp_ne _ _ _ _ _ (by decide), HM.out] at p9
        have hfr := HY.out.frozen
        have hw := IntWalk.i64_in (m - z / 64) (by omega)
        simp only [List.take_succ_cons, List.take_zero, List.drop_succ_cons, List.drop_zero]
        rcases (by omega : z / 64 < m ∨ m ≤ z / 64) with hc | hc
        · repeat still_step
          refine wpStill_nil ?_
          go_wp2_with fail
          all_goals
            have okH := okG.setI (k := k) hkZ 9 .i64 (m - z / 64) rfl (wf_mdelay _ (by omega))
            have hEz := Ext.mutE hEy ((Mut.refl (fun n => w3.heap.size ≤ n ∧ n < w4.heap.size + 1) y1).setCell (p := ⟨g, k * 89 + 9, none⟩) (.inl HX.out.F2) (.int .i64 (m - z / 64))) (fun n hn h1 => by have := h1.1; have := hs3.out; simp at hn; omega)
            have hinv3 := einv_step _ k (by simpa using hZ89.out) (einv_set Z k (z % 2 == 1) true true (decide (z < 200)) (m - z / 64) hZ89.out HINV.out (by omega))
            have ok3 := migF_ok okH (k := k) hkZ
            have hnp3 := migF_np (((((Z.setp k 37 (.bool (z % 2 == 1))).setp k 38 (.bool true)).setp k 30 (.bool true)).setp k 2 (.bool (decide (z < 200)))).setp k 9 (.int .i64 (m - z / 64))) k
            refine (mig_step _ (fun n => w3.heap.size ≤ n ∧ n < w4.heap.size + 1) _ g k (((((Z.setp k 37 (.bool (z % 2 == 1))).setp k 38 (.bool true)).setp k 30 (.bool true)).setp k 2 (.bool (decide (z < 200)))).setp k 9 (.int .i64 (m - z / 64))) (HY.out.setp (k := k) (j := 9) hkZ (by decide) _) okH hkZ hk8).mono ?_
            rintro e y3 ⟨rfl, hB3, hm3⟩
            have hE3 := Ext.mutE hEz hm3 (fun n hn h1 => by have := h1.1; have := hs3.out; simp at hn; omega)
            obtain ⟨d, hd⟩ : ∃ d, (migF (((((Z.setp k 37 (.bool (z % 2 == 1))).setp k 38 (.bool true)).setp k 30 (.bool true)).setp k 2 (.bool (decide (z < 200)))).setp k 9 (.int .i64 (m - z / 64))) k).1 = d := ⟨_, rfl⟩
            rw [hd]
            obtain ⟨Y, hY⟩ : ∃ Y, (migF (((((Z.setp k 37 (.bool (z % 2 == 1))).setp k 38 (.bool true)).setp k 30 (.bool true)).setp k 2 (.bool (decide (z < 200)))).setp k 9 (.int .i64 (m - z / 64))) k).2 = Y := ⟨_, rfl⟩
            rw [hY] at hB3 hinv3 ok3 hnp3
            have hnpY : Y.np = B.np := hnp3.trans hnpZ
            have hkY : k < Y.np := by rw [hnpY]; exact hk
            have H3 := Lib.hid hB3
            have hi3 := Lib.hid hinv3
            clear hd hY hB3 hm3 hnp3 HG okG okH hEz hEy hEg HY HZ okZ hnpZ hEr lcv p9 hfr hw
            obtain ⟨cap3, x17, -, -⟩ := H3.out.cell17 ok3
            rw [hnpY] at x17
            have p45 := (H3.out.cellg (i := k * 89 + 45) (lt89 hkY (by decide))).trans (ok3.gb hkY 45 rfl)
            rw [hinv3.1] at p45
            clear hinv3
            go_wp2_with fail
            go_roundw
            case rel => exact ⟨n + 1, Y, by omega, by go_num, H3.out, ok3, hnpY, hi3.out, hE3⟩
            case measure => simp [intOf]; omega
        · repeat still_step
          refine wpStill_nil ?_
          go_wp2_with fail
          all_goals
            have okH := okG.setI (k := k) hkZ 9 .i64 0 rfl (wf_mdelay _ (by omega))
            have hEz := Ext.mutE hEy ((Mut.refl (fun n => w3.heap.size ≤ n ∧ n < w4.heap.size + 1) y1).setCell (p := ⟨g, k * 89 + 9, none⟩) (.inl HX.out.F2) (.int .i64 0)) (fun n hn h1 => by have := h1.1; have := hs3.out; simp at hn; omega)
            have hinv3 := einv_step _ k (by simpa using hZ89.out) (einv_set Z k (z % 2 == 1) true true (decide (z < 200)) 0 hZ89.out HINV.out (by omega))
            have ok3 := migF_ok okH (k := k) hkZ
            have hnp3 := migF_np (((((Z.setp k 37 (.bool (z % 2 == 1))).setp k 38 (.bool true)).setp k 30 (.bool true)).setp k 2 (.bool (decide (z < 200)))).setp k 9 (.int .i64 0)) k
            refine (mig_step _ (fun n => w3.heap.size ≤ n ∧ n < w4.heap.size + 1) _ g k (((((Z.setp k 37 (.bool (z % 2 == 1))).setp k 38 (.bool true)).setp k 30 (.bool true)).setp k 2 (.bool (decide (z < 200)))).setp k 9 (.int .i64 0)) (HY.out.setp (k := k) (j := 9) hkZ (by decide) _) okH hkZ hk8).mono ?_
            rintro e y3 ⟨rfl, hB3, hm3⟩
            have hE3 := Ext.mutE hEz hm3 (fun n hn h1 => by have := h1.1; have := hs3.out; simp at hn; omega)
            obtain ⟨d, hd⟩ : ∃ d, (migF (((((Z.setp k 37 (.bool (z % 2 == 1))).setp k 38 (.bool true)).setp k 30 (.bool true)).setp k 2 (.bool (decide (z < 200)))).setp k 9 (.int .i64 0)) k).1 = d := ⟨_, rfl⟩
            rw [hd]
            obtain ⟨Y, hY⟩ : ∃ Y, (migF (((((Z.setp k 37 (.bool (z % 2 == 1))).setp k 38 (.bool true)).setp k 30 (.bool true)).setp k 2 (.bool (decide (z < 200)))).setp k 9 (.int .i64 0)) k).2 = Y := ⟨_, rfl⟩
            rw [hY] at hB3 hinv3 ok3 hnp3
            have hnpY : Y.np = B.np := hnp3.trans hnpZ
            have hkY : k < Y.np := by rw [hnpY]; exact hk
            have H3 := Lib.hid hB3
            have hi3 := Lib.hid hinv3
            clear hd hY hB3 hm3 hnp3 HG okG okH hEz hEy hEg HY HZ okZ hnpZ hEr lcv p9 hfr hw
            obtain ⟨cap3, x17, -, -⟩ := H3.out.cell17 ok3
            rw [hnpY] at x17
            have p45 := (H3.out.cellg (i := k * 89 + 45) (lt89 hkY (by decide))).trans (ok3.gb hkY 45 rfl)
            rw [hinv3.1] at p45
            clear hinv3
            go_wp2_with fail
            go_roundw
            case rel => exact ⟨n + 1, Y, by omega, by go_num, H3.out, ok3, hnpY, hi3.out, hE3⟩
            case measure => simp [intOf]; omega
      · go_wp2_with fail
        have HG := Lib.hid ((((HZ.out.setp (k := k) (j := 37) hkZ (by decide) (.bool true)).setp (k := k) (j := 38) hkZ (by decide) (.bool (z / 2 % 2 == 1))).setp (k := k) (j := 30) hkZ (by decide) (.bool (z / 4 % 8 == 1))).setp (k := k) (j := 2) hkZ (by decide) (.bool (decide (z < 200))))
        have okG := ((((okZ.setB (k := k) hkZ 37 true rfl).setB (k := k) hkZ 38 (z / 2 % 2 == 1) rfl).setB (k := k) hkZ 30 (z / 4 % 8 == 1) rfl).setB (k := k) hkZ 2 (decide (z < 200)) rfl)
        have hEg := Ext.mutE hEr (((((Mut.refl (fun n => w3.heap.size ≤ n ∧ n < w4.heap.size + 1) wr).setCell (p := ⟨g, k * 89 + 37, none⟩) (.inl HX.out.F2) (.bool true)).setCell (p := ⟨g, k * 89 + 38, none⟩) (.inl HX.out.F2) (.bool (z / 2 % 2 == 1))).setCell (p := ⟨g, k * 89 + 30, none⟩) (.inl HX.out.F2) (.bool (z / 4 % 8 == 1))).setCell (p := ⟨g, k * 89 + 2, none⟩) (.inl HX.out.F2) (.bool (decide (z < 200)))) (fun n hn h1 => by have := h1.1; have := hs3.out; simp at hn; omega)
        generalize hgg : World.setCell (World.setCell (World.setCell (World.setCell wr _ _) _ _) _ _) _ _ = g1
        rw [show (World.setCell (World.setCell (World.setCell (World.setCell wr ⟨g, k * 89 + 37, none⟩ (.bool true)) ⟨g, k * 89 + 38, none⟩ (.bool (z / 2 % 2 == 1))) ⟨g, k * 89 + 30, none⟩ (.bool (z / 4 % 8 == 1))) ⟨g, k * 89 + 2, none⟩ (.bool (decide (z < 200)))) = g1 from hgg] at HG hEg
        clear hgg lcv p37 p38 p30 p2 p9 c17 hfr
        refine wp_region_tail 17 (by kernel_rfl) (by kernel_rfl) ?_
        intro y1 hy1
        have hyx : Ext g1 y1 := by
          rw [hy1]
          exact (Ext.refl _).drew
        clear hy1
        have hEy := hEg.trans hyx
        have HY := Lib.hid (HG.out.ext hyx)
        have lcv := ((((Ext.refl w).alloc _).trans hEy).cell (p := ⟨bl, ol + n, none⟩) hbl).trans HCN.out
        have p9 := (HY.out.cellg (i := k * 89 + 9) (lt89 hkZ (by decide))).trans (okG.gi hkZ 9 rfl)
        rw [gi_setp_ne _ _ _ _ _ (by decide), gi_setp_ne _ _ _ _ _ (by decide), gi_setp_ne _ _ _ _ _ (by decide), gi_setp_ne _ _ _ _ _ (by decide), HM.out] at p9
        have hfr := HY.out.frozen
        have hw := IntWalk.i64_in (m - z / 64) (by omega)
        simp only [List.take_succ_cons, List.take_zero, List.drop_succ_cons, List.drop_zero]
        rcases (by omega : z / 64 < m ∨ m ≤ z / 64) with hc | hc
        · repeat still_step
          refine wpStill_nil ?_
          go_wp2_with fail
          all_goals
            have okH := okG.setI (k := k) hkZ 9 .i64 (m - z / 64) rfl (wf_mdelay _ (by omega))
            have hEz := Ext.mutE hEy ((Mut.refl (fun n => w3.heap.size ≤ n ∧ n < w4.heap.size + 1) y1).setCell (p := ⟨g, k * 89 + 9, none⟩) (.inl HX.out.F2) (.int .i64 (m - z / 64))) (fun n hn h1 => by have := h1.1; have := hs3.out; simp at hn; omega)
            have hinv3 := einv_step _ k (by simpa using hZ89.out) (einv_set Z k true (z / 2 % 2 == 1) (z / 4 % 8 == 1) (decide (z < 200)) (m - z / 64) hZ89.out HINV.out (by omega))
            have ok3 := migF_ok okH (k := k) hkZ
            have hnp3 := migF_np (((((Z.setp k 37 (.bool true)).setp k 38 (.bool (z / 2 % 2 == 1))).setp k 30 (.bool (z / 4 % 8 == 1))).setp k 2 (.bool (decide (z < 200)))).setp k 9 (.int .i64 (m - z / 64))) k
            refine (mig_step _ (fun n => w3.heap.size ≤ n ∧ n < w4.heap.size + 1) _ g k (((((Z.setp k 37 (.bool true)).setp k 38 (.bool (z / 2 % 2 == 1))).setp k 30 (.bool (z / 4 % 8 == 1))).setp k 2 (.bool (decide (z < 200)))).setp k 9 (.int .i64 (m - z / 64))) (HY.out.setp (k := k) (j := 9) hkZ (by decide) _) okH hkZ hk8).mono ?_
            rintro e y3 ⟨rfl, hB3, hm3⟩
            have hE3 := Ext.mutE hEz hm3 (fun n hn h1 => by have := h1.1; have := hs3.out; simp at hn; omega)
            obtain ⟨d, hd⟩ : ∃ d, (migF (((((Z.setp k 37 (.bool true)).setp k 38 (.bool (z / 2 % 2 == 1))).setp k 30 (.bool (z / 4 % 8 == 1))).setp k 2 (.bool (decide (z < 200)))).setp k 9 (.int .i64 (m - z / 64))) k).1 = d := ⟨_, rfl⟩
            rw [hd]
            obtain ⟨Y, hY⟩ : ∃ Y, (migF (((((Z.setp k 37 (.bool true)).setp k 38 (.bool (z / 2 % 2 == 1))).setp k 30 (.bool (z / 4 % 8 == 1))).setp k 2 (.bool (decide (z < 200)))).setp k 9 (.int .i64 (m - z / 64))) k).2 = Y := ⟨_, rfl⟩
            rw [hY] at hB3 hinv3 ok3 hnp3
            have hnpY : Y.np = B.np := hnp3.trans hnpZ
            have hkY : k < Y.np := by rw [hnpY]; exact hk
            have H3 := Lib.hid hB3
            have hi3 := Lib.hid hinv3
            clear hd hY hB3 hm3 hnp3 HG okG okH hEz hEy hEg HY HZ okZ hnpZ hEr lcv p9 hfr hw
            obtain ⟨cap3, x17, -, -⟩ := H3.out.cell17 ok3
            rw [hnpY] at x17
            have p45 := (H3.out.cellg (i := k * 89 + 45) (lt89 hkY (by decide))).trans (ok3.gb hkY 45 rfl)
            rw [hinv3.1] at p45
            clear hinv3
            go_wp2_with fail
            go_roundw
            case rel => exact ⟨n + 1, Y, by omega, by go_num, H3.out, ok3, hnpY, hi3.out, hE3⟩
            case measure => simp [intOf]; omega
        · repeat still_step
          refine wpStill_nil ?_
          go_wp2_with fail
          all_goals
            have okH := okG.setI (k := k) hkZ 9 .i64 0 rfl (wf_mdelay _ (by omega))
            have hEz := Ext.mutE hEy ((Mut.refl (fun n => w3.heap.size ≤ n ∧ n < w4.heap.size + 1) y1).setCell (p := ⟨g, k * 89 + 9, none⟩) (.inl HX.out.F2) (.int .i64 0)) (fun n hn h1 => by have := h1.1; have := hs3.out; simp at hn; omega)
            have hinv3 := einv_step _ k (by simpa using hZ89.out) (einv_set Z k true (z / 2 % 2 == 1) (z / 4 % 8 == 1) (decide (z < 200)) 0 hZ89.out HINV.out (by omega))
            have ok3 := migF_ok okH (k := k) hkZ
            have hnp3 := migF_np (((((Z.setp k 37 (.bool true)).setp k 38 (.bool (z / 2 % 2 == 1))).setp k 30 (.bool (z / 4 % 8 == 1))).setp k 2 (.bool (decide (z < 200)))).setp k 9 (.int .i64 0)) k
            refine (mig_step _ (fun n => w3.heap.size ≤ n ∧ n < w4.heap.size + 1) _ g k (((((Z.setp k 37 (.bool true)).setp k 38 (.bool (z / 2 % 2 == 1))).setp k 30 (.bool (z / 4 % 8 == 1))).setp k 2 (.bool (decide (z < 200)))).setp k 9 (.int .i64 0)) (HY.out.setp (k := k) (j := 9) hkZ (by decide) _) okH hkZ hk8).mono ?_
            rintro e y3 ⟨rfl, hB3, hm3⟩
            have hE3 := Ext.mutE hEz hm3 (fun n hn h1 => by have := h1.1; have := hs3.out; simp at hn; omega)
            obtain ⟨d, hd⟩ : ∃ d, (migF (((((Z.setp k 37 (.bool true)).setp k 38 (.bool (z / 2 % 2 == 1))).setp k 30 (.bool (z / 4 % 8 == 1))).setp k 2 (.bool (decide (z < 200)))).setp k 9 (.int .i64 0)) k).1 = d := ⟨_, rfl⟩
            rw [hd]
            obtain ⟨Y, hY⟩ : ∃ Y, (migF (((((Z.setp k 37 (.bool true)).setp k 38 (.bool (z / 2 % 2 == 1))).setp k 30 (.bool (z / 4 % 8 == 1))).setp k 2 (.bool (decide (z < 200)))).setp k 9 (.int .i64 0)) k).2 = Y := ⟨_, rfl⟩
            rw [hY] at hB3 hinv3 ok3 hnp3
            have hnpY : Y.np = B.np := hnp3.trans hnpZ
            have hkY : k < Y.np := by rw [hnpY]; exact hk
            have H3 := Lib.hid hB3
            have hi3 := Lib.hid hinv3
            clear hd hY hB3 hm3 hnp3 HG okG okH hEz hEy hEg HY HZ okZ hnpZ hEr lcv p9 hfr hw
            obtain ⟨cap3, x17, -, -⟩ := H3.out.cell17 ok3
            rw [hnpY] at x17
            have p45 := (H3.out.cellg (i := k * 89 + 45) (lt89 hkY (by decide))).trans (ok3.gb hkY 45 rfl)
            rw [hinv3.1] at p45
            clear hinv3
            go_wp2_with fail
            go_roundw
            case rel => exact ⟨n + 1, Y, by omega, by go_num, H3.out, ok3, hnpY, hi3.out, hE3⟩
            case measure => simp [intOf]; omega
      · go_wp2_with fail
        have HG := Lib.hid ((((HZ.out.setp (k := k) (j := 37) hkZ (by decide) (.bool true)).setp (k := k) (j := 38) hkZ (by decide) (.bool (z / 2 % 2 == 1))).setp (k := k) (j := 30) hkZ (by decide) (.bool true)).setp (k := k) (j := 2) hkZ (by decide) (.bool (decide (z < 200))))
        have okG := ((((okZ.setB (k := k) hkZ 37 true rfl).setB (k := k) hkZ 38 (z / 2 % 2 == 1) rfl).setB (k := k) hkZ 30 true rfl).setB (k := k) hkZ 2 (decide (z < 200)) rfl)
        have hEg := Ext.mutE hEr (((((Mut.refl (fun n => w3.heap.size ≤ n ∧ n < w4.heap.size + 1) wr).setCell (p := ⟨g, k * 89 + 37, none⟩) (.inl HX.out.F2) (.bool true)).setCell (p := ⟨g, k * 89 + 38, none⟩) (.inl HX.out.F2) (.bool (z / 2 % 2 == 1))).setCell (p := ⟨g, k * 89 + 30, none⟩) (.inl HX.out.F2) (.bool true)).setCell (p := ⟨g, k * 89 + 2, none⟩) (.inl HX.out.F2) (.bool (decide (z < 200)))) (fun n hn h1 => by have := h1.1; have := hs3.out; simp at hn; omega)
        generalize hgg : World.setCell (World.setCell (World.setCell (World.setCell wr _ _) _ _) _ _) _ _ = g1
        rw [show (World.setCell (World.setCell (World.setCell (World.setCell wr ⟨g, k * 89 + 37, none⟩ (.bool true)) ⟨g, k * 89 + 38, none⟩ (.bool (z / 2 % 2 == 1))) ⟨g, k * 89 + 30, none⟩ (.bool true)) ⟨g, k * 89 + 2, none⟩ (.bool (decide (z < 200)))) = g1 from hgg] at HG hEg
        clear hgg lcv p37 p38 p30 p2 p9 c17 hfr
        refine wp_region_tail 17 (by kernel_rfl) (by kernel_rfl) ?_
        intro y1 hy1
        have hyx : Ext g1 y1 := by
          rw [hy1]
          exact (Ext.refl _).drew
        clear hy1
        have hEy := hEg.trans hyx
        have HY := Lib.hid (HG.out.ext hyx)
        have lcv := ((((Ext.refl w).alloc _).trans hEy).cell (p := ⟨bl, ol + n, none⟩) hbl).trans HCN.out
        have p9 := (HY.out.cellg (i := k * 89 + 9) (lt89 hkZ (by decide))).trans (okG.gi hkZ 9 rfl)
        rw [gi_setp_ne _ _ _ _ _ (by decide), gi_setp_ne _ _ _ _ _ (by decide), gi_setp_ne _ _ _ _ _ (by decide), gi_setp_ne _ _ _ _ _ (by decide), HM.out] at p9
        have hfr := HY.out.frozen
        have hw := IntWalk.i64_in (m - z / 64) (by omega)
        simp only [List.take_succ_cons, List.take_zero, List.drop_succ_cons, List.drop_zero]
        rcases (by omega : z / 64 < m ∨ m ≤ z / 64) with hc | hc
        · repeat still_step
          refine wpStill_nil ?_
          go_wp2_with fail
          all_goals
            have okH := okG.setI (k := k) hkZ 9 .i64 (m - z / 64) rfl (wf_mdelay _ (by omega))
            have hEz := Ext.mutE hEy ((Mut.refl (fun n => w3.heap.size ≤ n ∧ n < w4.heap.size + 1) y1).setCell (p := ⟨g, k * 89 + 9, none⟩) (.inl HX.out.F2) (.int .i64 (m - z / 64))) (fun n hn h1 => by have := h1.1; have := hs3.out; simp at hn; omega)
            have hinv3 := einv_step _ k (by simpa using hZ89.out) (einv_set Z k true (z / 2 % 2 == 1) true (decide (z < 200)) (m - z / 64) hZ89.out HINV.out (by omega))
            have ok3 := migF_ok okH (k := k) hkZ
            have hnp3 := migF_np (((((Z.setp k 37 (.bool true)).setp k 38 (.bool (z / 2 % 2 == 1))).setp k 30 (.bool true)).setp k 2 (.bool (decide (z < 200)))).setp k 9 (.int .i64 (m - z / 64))) k
            refine (mig_step _ (fun n => w3.heap.size ≤ n ∧ n < w4.heap.size + 1) _ g k (((((Z.setp k 37 (.bool true)).setp k 38 (.bool (z / 2 % 2 == 1))).setp k 30 (.bool true)).setp k 2 (.bool (decide (z < 200)))).setp k 9 (.int .i64 (m - z / 64))) (HY.out.setp (k := k) (j := 9) hkZ (by decide) _) okH hkZ hk8).mono ?_
            rintro e y3 ⟨rfl, hB3, hm3⟩
            have hE3 := Ext.mutE hEz hm3 (fun n hn h1 => by have := h1.1; have := hs3.out; simp at hn; omega)
            obtain ⟨d, hd⟩ : ∃ d, (migF (((((Z.setp k 37 (.bool true)).setp k 38 (.bool (z / 2 % 2 == 1))).setp k 30 (.bool true)).setp k 2 (.bool (decide (z < 200)))).setp k 9 (.int .i64 (m - z / 64))) k).1 = d := ⟨_, rfl⟩
            rw [hd]
            obtain ⟨Y, hY⟩ : ∃ Y, (migF (((((Z.setp k 37 (.bool true)).setp k 38 (.bool (z / 2 % 2 == 1))).setp k 30 (.bool true)).setp k 2 (.bool (decide (z < 200)))).setp k 9 (.int .i64 (m - z / 64))) k).2 = Y := ⟨_, rfl⟩
            rw [hY] at hB3 hinv3 ok3 hnp3
            have hnpY : Y.np = B.np := hnp3.trans hnpZ
            have hkY : k < Y.np := by rw [hnpY]; exact hk
            have H3 := Lib.hid hB3
            have hi3 := Lib.hid hinv3
            clear hd hY hB3 hm3 hnp3 HG okG okH hEz hEy hEg HY HZ okZ hnpZ hEr lcv p9 hfr hw
            obtain ⟨cap3, x17, -, -⟩ := H3.out.cell17 ok3
            rw [hnpY] at x17
            have p45 := (H3.out.cellg (i := k * 89 + 45) (lt89 hkY (by decide))).trans (ok3.gb hkY 45 rfl)
            rw [hinv3.1] at p45
            clear hinv3
            go_wp2_with fail
            go_roundw
            case rel => exact ⟨n + 1, Y, by omega, by go_num, H3.out, ok3, hnpY, hi3.out, hE3⟩
            case measure => simp [intOf]; omega
        · repeat still_step
          refine wpStill_nil ?_
          go_wp2_with fail
          all_goals
            have okH := okG.setI (k := k) hkZ 9 .i64 0 rfl (wf_mdelay _ (by omega))
            have hEz := Ext.mutE hEy ((Mut.refl (fun n => w3.heap.size ≤ n ∧ n < w4.heap.size + 1) y1).setCell (p := ⟨g, k * 89 + 9, none⟩) (.inl HX.out.F2) (.int .i64 0)) (fun n hn h1 => by have := h1.1; have := hs3.out; simp at hn; omega)
            have hinv3 := einv_step _ k (by simpa using hZ89.out) (einv_set Z k true (z / 2 % 2 == 1) true (decide (z < 200)) 0 hZ89.out HINV.out (by omega))
            have ok3 := migF_ok okH (k := k) hkZ
            have hnp3 := migF_np (((((Z.setp k 37 (.bool true)).setp k 38 (.bool (z / 2 % 2 == 1))).setp k 30 (.bool true)).setp k 2 (.bool (decide (z < 200)))).setp k 9 (.int .i64 0)) k
            refine (mig_step _ (fun n => w3.heap.size ≤ n ∧ n < w4.heap.size + 1) _ g k (((((Z.setp k 37 (.bool true)).setp k 38 (.bool (z / 2 % 2 == 1))).setp k 30 (.bool true)).setp k 2 (.bool (decide (z < 200)))).setp k 9 (.int .i64 0)) (HY.out.setp (k := k) (j := 9) hkZ (by decide) _) okH hkZ hk8).mono ?_
            rintro e y3 ⟨rfl, hB3, hm3⟩
            have hE3 := Ext.mutE hEz hm3 (fun n hn h1 => by have := h1.1; have := hs3.out; simp at hn; omega)
            obtain ⟨d, hd⟩ : ∃ d, (migF (((((Z.setp k 37 (.bool true)).setp k 38 (.bool (z / 2 % 2 == 1))).setp k 30 (.bool true)).setp k 2 (.bool (decide (z < 200)))).setp k 9 (.int .i64 0)) k).1 = d := ⟨_, rfl⟩
            rw [hd]
            obtain ⟨Y, hY⟩ : ∃ Y, (migF (((((Z.setp k 37 (.bool true)).setp k 38 (.bool (z / 2 % 2 == 1))).setp k 30 (.bool true)).setp k 2 (.bool (decide (z < 200)))).setp k 9 (.int .i64 0)) k).2 = Y := ⟨_, rfl⟩
            rw [hY] at hB3 hinv3 ok3 hnp3
            have hnpY : Y.np = B.np := hnp3.trans hnpZ
            have hkY : k < Y.np := by rw [hnpY]; exact hk
            have H3 := Lib.hid hB3
            have hi3 := Lib.hid hinv3
            clear hd hY hB3 hm3 hnp3 HG okG okH hEz hEy hEg HY HZ okZ hnpZ hEr lcv p9 hfr hw
            obtain ⟨cap3, x17, -, -⟩ := H3.out.cell17 ok3
            rw [hnpY] at x17
            have p45 := (H3.out.cellg (i := k * 89 + 45) (lt89 hkY (by decide))).trans (ok3.gb hkY 45 rfl)
            rw [hinv3.1] at p45
            clear hinv3
            go_wp2_with fail
            go_roundw
            case rel => exact ⟨n + 1, Y, by omega, by go_num, H3.out, ok3, hnpY, hi3.out, hE3⟩
            case measure => simp [intOf]; omega
      · go_wp2_with fail
        have HG := Lib.hid ((((HZ.out.setp (k := k) (j := 37) hkZ (by decide) (.bool true)).setp (k := k) (j := 38) hkZ (by decide) (.bool true)).setp (k := k) (j := 30) hkZ (by decide) (.bool (z / 4 % 8 == 1))).setp (k := k) (j := 2) hkZ (by decide) (.bool (decide (z < 200))))
        have okG := ((((okZ.setB (k := k) hkZ 37 true rfl).setB (k := k) hkZ 38 true rfl).setB (k := k) hkZ 30 (z / 4 % 8 == 1) rfl).setB (k := k) hkZ 2 (decide (z < 200)) rfl)
        have hEg := Ext.mutE hEr (((((Mut.refl (fun n => w3.heap.size ≤ n ∧ n < w4.heap.size + 1) wr).setCell (p := ⟨g, k * 89 + 37, none⟩) (.inl HX.out.F2) (.bool true)).setCell (p := ⟨g, k * 89 + 38, none⟩) (.inl HX.out.F2) (.bool true)).setCell (p := ⟨g, k * 89 + 30, none⟩) (.inl HX.out.F2) (.bool (z / 4 % 8 == 1))).setCell (p := ⟨g, k * 89 + 2, none⟩) (.inl HX.out.F2) (.bool (decide (z < 200)))) (fun n hn h1 => by have := h1.1; have := hs3.out; simp at hn; omega)
        generalize hgg : World.setCell (World.setCell (World.setCell (World.setCell wr _ _) _ _) _ _) _ _ = g1
        rw [show (World.setCell (World.setCell (World.setCell (World.setCell wr ⟨g, k * 89 + 37, none⟩ (.bool true)) ⟨g, k * 89 + 38, none⟩ (.bool true)) ⟨g, k * 89 + 30, none⟩ (.bool (z / 4 % 8 == 1))) ⟨g, k * 89 + 2, none⟩ (.bool (decide (z < 200)))) = g1 from hgg] at HG hEg
        clear hgg lcv p37 p38 p30 p2 p9 c17 hfr
        refine wp_region_tail 17 (by kernel_rfl) (by kernel_rfl) ?_
        intro y1 hy1
        have hyx : Ext g1 y1 := by
          rw [hy1]
          exact (Ext.refl _).drew
        clear hy1
        have hEy := hEg.trans hyx
        have HY := Lib.hid (HG.out.ext hyx)
        have lcv := ((((Ext.refl w).alloc _).trans hEy).cell (p := ⟨bl, ol + n, none⟩) hbl).trans HCN.out
        have p9 := (HY.out.cellg (i := k * 89 + 9) (lt89 hkZ (by decide))).trans (okG.gi hkZ 9 rfl)
        rw [gi_setp_ne _ _ _ _ _ (by decide), gi_setp_ne _ _ _ _ _ (by decide), gi_setp_ne _ _ _ _ _ (by decide), gi_setp_ne _ _ _ _ _ (by decide), HM.out] at p9
        have hfr := HY.out.frozen
        have hw := IntWalk.i64_in (m - z / 64) (by omega)
        simp only [List.take_succ_cons, List.take_zero, List.drop_succ_cons, List.drop_zero]
        rcases (by omega : z / 64 < m ∨ m ≤ z / 64) with hc | hc
        · repeat still_step
          refine wpStill_nil ?_
          go_wp2_with fail
          all_goals
            have okH := okG.setI (k := k) hkZ 9 .i64 (m - z / 64) rfl (wf_mdelay _ (by omega))
            have hEz := Ext.mutE hEy ((Mut.refl (fun n => w3.heap.size ≤ n ∧ n < w4.heap.size + 1) y1).setCell (p := ⟨g, k * 89 + 9, none⟩) (.inl HX.out.F2) (.int .i64 (m - z / 64))) (fun n hn h1 => by have := h1.1; have := hs3.out; simp at hn; omega)
            have hinv3 := einv_step _ k (by simpa using hZ89.out) (einv_set Z k true true (z / 4 % 8 == 1) (decide (z < 200)) (m - z / 64) hZ89.out HINV.out (by omega))
            have ok3 := migF_ok okH (k := k) hkZ
            have hnp3 := migF_np (((((Z.setp k 37 (.bool true)).setp k 38 (.bool true)).setp k 30 (.bool (z / 4 % 8 == 1))).setp k 2 (.bool (decide (z < 200)))).setp k 9 (.int .i64 (m - z / 64))) k
            refine (mig_step _ (fun n => w3.heap.size ≤ n ∧ n < w4.heap.size + 1) _ g k (((((Z.setp k 37 (.bool true)).setp k 38 (.bool true)).setp k 30 (.bool (z / 4 % 8 == 1))).setp k 2 (.bool (decide (z < 200)))).setp k 9 (.int .i64 (m - z / 64))) (HY.out.setp (k := k) (j := 9) hkZ (by decide) _) okH hkZ hk8).mono ?_
            rintro e y3 ⟨rfl, hB3, hm3⟩
            have hE3 := Ext.mutE hEz hm3 (fun n hn h1 => by have := h1.1; have := hs3.out; simp at hn; omega)
            obtain ⟨d, hd⟩ : ∃ d, (migF (((((Z.setp k 37 (.bool true)).setp k 38 (.bool true)).setp k 30 (.bool (z / 4 % 8 == 1))).setp k 2 (.bool (decide (z < 200)))).setp k 9 (.int .i64 (m - z / 64))) k).1 = d := ⟨_, rfl⟩
            rw [hd]
            obtain ⟨Y, hY⟩ : ∃ Y, (migF (((((Z.setp k 37 (.bool true)).setp k 38 (.bool true)).setp k 30 (.bool (z / 4 % 8 == 1))).setp k 2 (.bool (decide (z < 200)))).setp k 9 (.int .i64 (m - z / 64))) k).2 = Y := ⟨_, rfl⟩
            rw [hY] at hB3 hinv3 ok3 hnp3
            have hnpY : Y.np = B.np := hnp3.trans hnpZ
            have hkY : k < Y.np := by rw [hnpY]; exact hk
            have H3 := Lib.hid hB3
            have hi3 := Lib.hid hinv3
            clear hd hY hB3 hm3 hnp3 HG okG okH hEz hEy hEg HY HZ okZ hnpZ hEr lcv p9 hfr hw
            obtain ⟨cap3, x17, -, -⟩ := H3.out.cell17 ok3
            rw [hnpY] at x17
            have p45 := (H3.out.cellg (i := k * 89 + 45) (lt89 hkY (by decide))).trans (ok3.gb hkY 45 rfl)
            rw [hinv3.1] at p45
            clear hinv3
            go_wp2_with fail
            go_roundw
            case rel => exact ⟨n + 1, Y, by omega, by go_num, H3.out, ok3, hnpY, hi3.out, hE3⟩
            case measure => simp [intOf]; omega
        · repeat still_step
          refine wpStill_nil ?_
          go_wp2_with fail
          all_goals
            have okH := okG.setI (k := k) hkZ 9 .i64 0 rfl (wf_mdelay _ (by omega))
            have hEz := Ext.mutE hEy ((Mut.refl (fun n => w3.heap.size ≤ n ∧ n < w4.heap.size + 1) y1).setCell (p := ⟨g, k * 89 + 9, none⟩) (.inl HX.out.F2) (.int .i64 0)) (fun n hn h1 => by have := h1.1; have := hs3.out; simp at hn; omega)
            have hinv3 := einv_step _ k (by simpa using hZ89.out) (einv_set Z k true true (z / 4 % 8 == 1) (decide (z < 200)) 0 hZ89.out HINV.out (by omega))
            have ok3 := migF_ok okH (k := k) hkZ
            have hnp3 := migF_np (((((Z.setp k 37 (.bool true)).setp k 38 (.bool true)).setp k 30 (.bool (z / 4 % 8 == 1))).setp k 2 (.bool (decide (z < 200)))).setp k 9 (.int .i64 0)) k
            refine (mig_step _ (fun n => w3.heap.size ≤ n ∧ n < w4.heap.size + 1) _ g k (((((Z.setp k 37 (.bool true)).setp k 38 (.bool true)).setp k 30 (.bool (z / 4 % 8 == 1))).setp k 2 (.bool (decide (z < 200)))).setp k 9 (.int .i64 0)) (HY.out.setp (k := k) (j := 9) hkZ (by decide) _) okH hkZ hk8).mono ?_
            rintro e y3 ⟨rfl, hB3, hm3⟩
            have hE3 := Ext.mutE hEz hm3 (fun n hn h1 => by have := h1.1; have := hs3.out; simp at hn; omega)
            obtain ⟨d, hd⟩ : ∃ d, (migF (((((Z.setp k 37 (.bool true)).setp k 38 (.bool true)).setp k 30 (.bool (z / 4 % 8 == 1))).setp k 2 (.bool (decide (z < 200)))).setp k 9 (.int .i64 0)) k).1 = d := ⟨_, rfl⟩
            rw [hd]
            obtain ⟨Y, hY⟩ : ∃ Y, (migF (((((Z.setp k 37 (.bool true)).setp k 38 (.bool true)).setp k 30 (.bool (z / 4 % 8 == 1))).setp k 2 (.bool (decide (z < 200)))).setp k 9 (.int .i64 0)) k).2 = Y := ⟨_, rfl⟩
            rw [hY] at hB3 hinv3 ok3 hnp3
            have hnpY : Y.np = B.np := hnp3.trans hnpZ
            have hkY : k < Y.np := by rw [hnpY]; exact hk
            have H3 := Lib.hid hB3
            have hi3 := Lib.hid hinv3
            clear hd hY hB3 hm3 hnp3 HG okG okH hEz hEy hEg HY HZ okZ hnpZ hEr lcv p9 hfr hw
            obtain ⟨cap3, x17, -, -⟩ := H3.out.cell17 ok3
            rw [hnpY] at x17
            have p45 := (H3.out.cellg (i := k * 89 + 45) (lt89 hkY (by decide))).trans (ok3.gb hkY 45 rfl)
            rw [hinv3.1] at p45
            clear hinv3
            go_wp2_with fail
            go_roundw
            case rel => exact ⟨n + 1, Y, by omega, by go_num, H3.out, ok3, hnpY, hi3.out, hE3⟩
            case measure => simp [intOf]; omega
      · go_wp2_with fail
        have HG := Lib.hid ((((HZ.out.setp (k := k) (j := 37) hkZ (by decide) (.bool true)).setp (k := k) (j := 38) hkZ (by decide) (.bool true)).setp (k := k) (j := 30) hkZ (by decide) (.bool true)).setp (k := k) (j := 2) hkZ (by decide) (.bool (decide (z < 200))))
        have okG := ((((okZ.setB (k := k) hkZ 37 true rfl).setB (k := k) hkZ 38 true rfl).setB (k := k) hkZ 30 true rfl).setB (k := k) hkZ 2 (decide (z < 200)) rfl)
        have hEg := Ext.mutE hEr (((((Mut.refl (fun n => w3.heap.size ≤ n ∧ n < w4.heap.size + 1) wr).setCell (p := ⟨g, k * 89 + 37, none⟩) (.inl HX.out.F2) (.bool true)).setCell (p := ⟨g, k * 89 + 38, none⟩) (.inl HX.out.F2) (.bool true)).setCell (p := ⟨g, k * 89 + 30, none⟩) (.inl HX.out.F2) (.bool true)).setCell (p := ⟨g, k * 89 + 2, none⟩) (.inl HX.out.F2) (.bool (decide (z < 200)))) (fun n hn h1 => by have := h1.1; have := hs3.out; simp at hn; omega)
        generalize hgg : World.setCell (World.setCell (World.setCell (World.setCell wr _ _) _ _) _ _) _ _ = g1
        rw [show (World.setCell (World.setCell (World.setCell (World.setCell wr ⟨g, k * 89 + 37, none⟩ (.bool true)) ⟨g, k * 89 + 38, none⟩ (.bool true)) ⟨g, k * 89 + 30, none⟩ (.bool true)) ⟨g, k * 89 + 2, none⟩ (.bool (decide (z < 200)))) = g1 from hgg] at HG hEg
        clear hgg lcv p37 p38 p30 p2 p9 c17 hfr
        refine wp_region_tail 17 (by kernel_rfl) (by kernel_rfl) ?_
        intro y1 hy1
        have hyx : Ext g1 y1 := by
          rw [hy1]
          exact (Ext.refl _).drew
        clear hy1
        have hEy := hEg.trans hyx
        have HY := Lib.hid (HG.out.ext hyx)
        have lcv := ((((Ext.refl w).alloc _).trans hEy).cell (p := ⟨bl, ol + n, none⟩) hbl).trans HCN.out
        have p9 := (HY.out.cellg (i := k * 89 + 9) (lt89 hkZ (by decide))).trans (okG.gi hkZ 9 rfl)
        rw [gi_setp_ne _ _ _ _ _ (by decide), gi_setp_ne _ _ _ _ _ (by decide), gi_setp_ne _ _ _ _ _ (by decide), gi_setp_ne _ _ _ _ _ (by decide), HM.out] at p9
        have hfr := HY.out.frozen
        have hw := IntWalk.i64_in (m - z / 64) (by omega)
        simp only [List.take_succ_cons, List.take_zero, List.drop_succ_cons, List.drop_zero]
        rcases (by omega : z / 64 < m ∨ m ≤ z / 64) with hc | hc
        · repeat still_step
          refine wpStill_nil ?_
          go_wp2_with fail
          all_goals
            have okH := okG.setI (k := k) hkZ 9 .i64 (m - z / 64) rfl (wf_mdelay _ (by omega))
            have hEz := Ext.mutE hEy ((Mut.refl (fun n => w3.heap.size ≤ n ∧ n < w4.heap.size + 1) y1).setCell (p := ⟨g, k * 89 + 9, none⟩) (.inl HX.out.F2) (.int .i64 (m - z / 64))) (fun n hn h1 => by have := h1.1; have := hs3.out; simp at hn; omega)
            have hinv3 := einv_step _ k (by simpa using hZ89.out) (einv_set Z k true true true (decide (z < 200)) (m - z / 64) hZ89.out HINV.out (by omega))
            have ok3 := migF_ok okH (k := k) hkZ
            have hnp3 := migF_np (((((Z.setp k 37 (.bool true)).setp k 38 (.bool true)).setp k 30 (.bool true)).setp k 2 (.bool (decide (z < 200)))).setp k 9 (.int .i64 (m - z / 64))) k
            refine (mig_step _ (fun n => w3.heap.size ≤ n ∧ n < w4.heap.size + 1) _ g k (((((Z.setp k 37 (.bool true)).setp k 38 (.bool true)).setp k 30 (.bool true)).setp k 2 (.bool (decide (z < 200)))).setp k 9 (.int .i64 (m - z / 64))) (HY.out.setp (k := k) (j := 9) hkZ (by decide) _) okH hkZ hk8).mono ?_
            rintro e y3 ⟨rfl, hB3, hm3⟩
            have hE3 := Ext.mutE hEz hm3 (fun n hn h1 => by have := h1.1; have := hs3.out; simp at hn; omega)
            obtain ⟨d, hd⟩ : ∃ d, (migF (((((Z.setp k 37 (.bool true)).setp k 38 (.bool true)).setp k 30 (.bool true)).setp k 2 (.bool (decide (z < 200)))).setp k 9 (.int .i64 (m - z / 64))) k).1 = d := ⟨_, rfl⟩
            rw [hd]
            obtain ⟨Y, hY⟩ : ∃ Y, (migF (((((Z.setp k 37 (.bool true)).setp k 38 (.bool true)).setp k 30 (.bool true)).setp k 2 (.bool (decide (z < 200)))).setp k 9 (.int .i64 (m - z / 64))) k).2 = Y := ⟨_, rfl⟩
            rw [hY] at hB3 hinv3 ok3 hnp3
            have hnpY : Y.np = B.np := hnp3.trans hnpZ
            have hkY : k < Y.np := by rw [hnpY]; exact hk
            have H3 := Lib.hid hB3
            have hi3 := Lib.hid hinv3
            clear hd hY hB3 hm3 hnp3 HG okG okH hEz hEy hEg HY HZ okZ hnpZ hEr lcv p9 hfr hw
            obtain ⟨cap3, x17, -, -⟩ := H3.out.cell17 ok3
            rw [hnpY] at x17
            have p45 := (H3.out.cellg (i := k * 89 + 45) (lt89 hkY (by decide))).trans (ok3.gb hkY 45 rfl)
            rw [hinv3.1] at p45
            clear hinv3
            go_wp2_with fail
            go_roundw
            case rel => exact ⟨n + 1, Y, by omega, by go_num, H3.out, ok3, hnpY, hi3.out, hE3⟩
            case measure => simp [intOf]; omega
        · repeat still_step
          refine wpStill_nil ?_
          go_wp2_with fail
          all_goals
            have okH := okG.setI (k := k) hkZ 9 .i64 0 rfl (wf_mdelay _ (by omega))
            have hEz := Ext.mutE hEy ((Mut.refl (fun n => w3.heap.size ≤ n ∧ n < w4.heap.size + 1) y1).setCell (p := ⟨g, k * 89 + 9, none⟩) (.inl HX.out.F2) (.int .i64 0)) (fun n hn h1 => by have := h1.1; have := hs3.out; simp at hn; omega)
            have hinv3 := einv_step _ k (by simpa using hZ89.out) (einv_set Z k true true true (decide (z < 200)) 0 hZ89.out HINV.out (by omega))
            have ok3 := migF_ok okH (k := k) hkZ
            have hnp3 := migF_np (((((Z.setp k 37 (.bool true)).setp k 38 (.bool true)).setp k 30 (.bool true)).setp k 2 (.bool (decide (z < 200)))).setp k 9 (.int .i64 0)) k
            refine (mig_step _ (fun n => w3.heap.size ≤ n ∧ n < w4.heap.size + 1) _ g k (((((Z.setp k 37 (.bool true)).setp k 38 (.bool true)).setp k 30 (.bool true)).setp k 2 (.bool (decide (z < 200)))).setp k 9 (.int .i64 0)) (HY.out.setp (k := k) (j := 9) hkZ (by decide) _) okH hkZ hk8).mono ?_
            rintro e y3 ⟨rfl, hB3, hm3⟩
            have hE3 := Ext.mutE hEz hm3 (fun n hn h1 => by have := h1.1; have := hs3.out; simp at hn; omega)
            obtain ⟨d, hd⟩ : ∃ d, (migF (((((Z.setp k 37 (.bool true)).setp k 38 (.bool true)).setp k 30 (.bool true)).setp k 2 (.bool (decide (z < 200)))).setp k 9 (.int .i64 0)) k).1 = d := ⟨_, rfl⟩
            rw [hd]
            obtain ⟨Y, hY⟩ : ∃ Y, (migF (((((Z.setp k 37 (.bool true)).setp k 38 (.bool true)).setp k 30 (.bool true)).setp k 2 (.bool (decide (z < 200)))).setp k 9 (.int .i64 0)) k).2 = Y := ⟨_, rfl⟩
            rw [hY] at hB3 hinv3 ok3 hnp3
            have hnpY : Y.np = B.np := hnp3.trans hnpZ
            have hkY : k < Y.np := by rw [hnpY]; exact hk
            have H3 := Lib.hid hB3
            have hi3 := Lib.hid hinv3
            clear hd hY hB3 hm3 hnp3 HG okG okH hEz hEy hEg HY HZ okZ hnpZ hEr lcv p9 hfr hw
            obtain ⟨cap3, x17, -, -⟩ := H3.out.cell17 ok3
            rw [hnpY] at x17
            have p45 := (H3.out.cellg (i := k * 89 + 45) (lt89 hkY (by decide))).trans (ok3.gb hkY 45 rfl)
            rw [hinv3.1] at p45
            clear hinv3
            go_wp2_with fail
            go_roundw
            case rel => exact ⟨n + 1, Y, by omega, by go_num, H3.out, ok3, hnpY, hi3.out, hE3⟩
            case measure => simp [intOf]; omega
    · have hZ2 := Lib.hid HZ.out
      have p45 := (HZ.out.cellg (i := k * 89 + 45) (lt89 hkZ (by decide))).trans (okZ.gb hkZ 45 rfl)
      rw [HINV.out.1] at p45
      go_wp2_with fail
      go_ret
      exact ⟨rfl, ((Ext.refl w).alloc _).trans hEr⟩

end Go.Proofs.Ytfbgianmcmgekaa
