/- The walk of ClockSynced. No statement is proved here. -/
import Derived.Test.YtnblchilgaimhaaClkN
namespace Go.Proofs.Ytnblchilgaimhaa
open Go.RowKit Go.BigFrame Go.WideShapes Go.ChangeShapes Go.Deep
set_option linter.unusedVariables false

set_option maxRecDepth 100000 in
set_option maxHeartbeats 2000000 in
theorem law_ClockSynced {w : World} (c : Array Value) (B : Br) (hb : BrC w c B) (ho : B.ok) (i : Int) (hi : 0 ≤ i ∧ i < 256) :
    Calls Try.prog 7 #[.agg c, .int .u8 i] w fun e w' => e = .returned (.bool true) ∧ Ext w w' := by
  have hz0 : c.size = 20 := by
    obtain ⟨_, _, _, h, _⟩ := hb.facts ho.hd.1
    exact h
  have hi20 := Lib.hid (show (Try.prog.info? 33).map (·.size) = some c.size by rw [hz0]; exact size_br)
  have HCZ := Lib.hid hz0
  have hE00 : Ext w (w.alloc (.cells c 33)) := ((Ext.refl w).alloc _)
  have hL00 : (w.alloc (.cells c 33)).heap[w.heap.size]? = some (.cells c 33 (0, 0)) := heap_alloc_new _ _
  have hS00 : w.heap.size < (w.alloc (.cells c 33)).heap.size := heap_lt hL00
  have hB00 := hb.ext hE00
  clear hz0
  have HP := Lib.hid hb
  clear hb
  have HhE00 := Lib.hid hE00
  have HhL00 := Lib.hid hL00
  have HhS00 := Lib.hid hS00
  have HhB00 := Lib.hid hB00
  clear hE00 hL00 hS00 hB00
  go_enter Try.func7, Try.ntmps7
  go_wp2_with fail
  have hE00 := HhE00.out
  clear HhE00
  have hL00 := HhL00.out
  clear HhL00
  have hS00 := HhS00.out
  clear HhS00
  have hB00 := HhB00.out
  clear HhB00
  generalize (w.alloc (.cells c 33)) = W0 at *
  obtain ⟨bx, hq⟩ : ∃ n, w.heap.size = n := ⟨_, rfl⟩
  rw [hq] at hL00 hS00 ⊢
  have HE0 := Lib.hid hE00
  have HL0 := Lib.hid hL00
  have HB0 := Lib.hid hB00
  have HS0 := Lib.hid hS00
  have HWB := Lib.hid hq
  clear hE00 hL00 hB00 hS00 hq
  refine (ckw_awake _).mono ?_
  rintro e v1 ⟨rfl, E1⟩
  go_wp2_with (first | fail | ((with_reducible refine at_load 33 ?_); refine wpList_load_row rfl 33 _ rfl bx rfl 33 c (0, 0) _ ((E1.block _ HS0.out).trans HL0.out) Try.underlying33 rfl hi20.out ?_))
  refine (few_any c B _ (HB0.out.ext E1) ho).mono ?_
  rintro e v2 ⟨f, rfl, hx2, hf⟩
  have E2 := Ext.trans E1 hx2
  clear E1 hx2
  cases f
  · go_wp2_with fail
    go_ret
    exact ⟨rfl, HE0.out.trans E2⟩
  have hfew := Lib.hid (hf.1 rfl)
  clear hf
  have hn1 := hfew.out.2.1
  have HN := Lib.hid (show B.np ≤ 1000 ∧ B.no ≤ 1000 ∧ B.nf ≤ 1000 by have := hfew.out; omega)
  have hn8 : B.np < 1000 := by have := hfew.out; omega
  go_wp2_with (first
    | fail
    | ((with_reducible refine at_load 33 ?_); refine wpList_load_row rfl 33 _ rfl bx rfl 33 c (0, 0) _ ((E2.block _ HS0.out).trans HL0.out) Try.underlying33 rfl hi20.out ?_))
  refine (at_any c B i _ (HB0.out.ext E2) ho hi hn1).mono ?_
  rintro e v3 ⟨rfl, hx⟩
  have E3 := Ext.trans E2 hx
  clear E2 hx
  obtain ⟨k, hk0⟩ : ∃ k, i.toNat % B.np = k := ⟨_, rfl⟩
  have hk : k < B.np := by rw [← hk0]; exact Nat.mod_lt _ hn1
  have hk8 : k < 1000 := by omega
  rw [hk0]
  clear hk0
  have h89 := Lib.hid (len89 ho hk)
  go_wp2_with (first
    | fail
    | ((with_reducible refine at_load 33 ?_); refine wpList_load_row rfl 33 _ rfl bx rfl 33 c (0, 0) _ ((E3.block _ HS0.out).trans HL0.out) Try.underlying33 rfl hi20.out ?_))
  refine (clone_any c B _ (HB0.out.ext E3) ho HN.out).mono ?_
  rintro e u4 ⟨cx, rfl, hO, hx⟩
  have Eu := Ext.trans E3 hx
  have hcxz := Lib.hid (size_z20.trans (hO.size ho).symm)
  have hcxo := Lib.hid (hO.one ho)
  have hcxi := Lib.hid (show (Try.prog.info? 33).map (·.size) = some cx.size by rw [hO.size ho]; exact size_br)
  obtain ⟨gx, hM⟩ := hO.made hx.size hn1
  obtain ⟨Nx, hN0, hsz⟩ := nameLe hx.size
  have hNE : W0.heap.size ≤ Nx := by
    rw [← hN0]
    exact E3.size
  rw [hN0] at hM
  have HMK := Lib.hid (show ∀ wx : World, wx = u4.alloc (.cells cx 33) → BrG wx (fun n => Nx ≤ n ∧ n < u4.heap.size + 1) u4.heap.size gx B ∧ Ext W0 wx from by
    rintro _ rfl
    exact ⟨hM, Eu.alloc _⟩)
  clear hM hO hx Eu hN0 E3
  obtain ⟨X, hX0⟩ : ∃ n, u4.heap.size = n := ⟨_, rfl⟩
  have HX0 := Lib.hid hX0
  rw [hX0] at HMK hsz
  have hsx := Lib.hid (show Nx ≤ X ∧ W0.heap.size ≤ Nx from ⟨hsz, hNE⟩)
  clear hsz hNE hX0
  go_wp2_with (first
    | fail
    | ((with_reducible refine at_store 33 ?_); refine wpList_store_new3 rfl rfl 33 _ _ _ rfl _ cx _ rfl ?_ rfl hcxi.out hcxz.out hcxo.out ?_; · rfl
       intro wx hwx
       have hmk := HMK.out wx hwx
       obtain ⟨hBx, E5⟩ := hmk
       have H5x := Lib.hid hBx
       rw [HX0.out]
       clear hwx hBx HMK HX0 hcxz hcxo hcxi))
  go_loopw [9] (fun i wr => ∃ n : Nat, n ≤ B.np ∧ i = .int .i64 n ∧ BrG wr (fun n => Nx ≤ n ∧ n < X + 1) X gx (syn3 B n) ∧ Ext W0 wr) (fun i _ => B.np - (intOf i).toNat)
  case atStart => exact ⟨0, by omega, rfl, H5x.out, E5⟩
  case round =>
    clear E5 H5x
    obtain ⟨n, hn, rfl, hB, E6⟩ := hrel
    have H6 := Lib.hid hB
    clear hB
    have okn : Br.ok (syn3 B n) := syn3_ok ho n hn
    have hnp : ((syn3 B n)).np = B.np := syn3_np B n
    by_cases hlt : n < B.np
    · have hkn : n < ((syn3 B n)).np := by rw [hnp]; exact hlt
      obtain ⟨hXl, hgl, hne⟩ := H6.out.lt
      obtain ⟨cap, c17, hca, hcb⟩ := H6.out.cell17 okn
      rw [show ((syn3 B n)).np = B.np from hnp] at c17 hca
      have hfr := H6.out.frozen
      have p44 := (H6.out.cellg (i := n * 89 + 44) (lt89 (N := ((syn3 B n)).np) hkn (by decide))).trans (Br.ok.gb okn (k := n) hkn 44 rfl)
      have p47 := (H6.out.cellg (i := n * 89 + 47) (lt89 (N := ((syn3 B n)).np) hkn (by decide))).trans (Br.ok.gb okn (k := n) hkn 47 rfl)
      have p87 := (H6.out.cellg (i := n * 89 + 87) (lt89 (N := ((syn3 B n)).np) hkn (by decide))).trans (Br.ok.gi okn (k := n) hkn 87 rfl)
      have p88 := (H6.out.cellg (i := n * 89 + 88) (lt89 (N := ((syn3 B n)).np) hkn (by decide))).trans (Br.ok.gi okn (k := n) hkn 88 rfl)
      go_wp2_with fail
      refine wp_region_tail 11 (by kernel_rfl) (by kernel_rfl) ?_
      intro y hy
      have hBy : BrG y (fun n => Nx ≤ n ∧ n < X + 1) X gx (((syn3 B n).setp n 44 (.bool true)).setp n 47 (.bool true)) := by
        rw [hy]
        exact ((H6.out.setp (k := n) (j := 44) hkn (by decide) (.bool true)).setp (k := n) (j := 47) hkn (by decide) (.bool true)).drew
      have hmy : Mut (fun n => Nx ≤ n ∧ n < X + 1) wr y := by
        rw [hy]
        exact (((Mut.refl (fun n => Nx ≤ n ∧ n < X + 1) wr).setCell (p := ⟨gx, n * 89 + 44, none⟩) (.inl H6.out.F2) (.bool true)).setCell (p := ⟨gx, n * 89 + 47, none⟩) (.inl H6.out.F2) (.bool true)).drew
      clear hy c17 hfr p44 p47 p87 p88
      have okq : Br.ok (((syn3 B n).setp n 44 (.bool true)).setp n 47 (.bool true)) := (okn.setB (k := n) hkn 44 true rfl).setB (k := n) hkn 47 true rfl
      have HY := Lib.hid hBy
      have HMY := Lib.hid hmy
      clear hBy hmy
      obtain ⟨capy, x17, hq1, hq2⟩ := HY.out.cell17 okq
      simp only [np_setp] at x17 hq1
      rw [hnp] at x17 hq1
      have q87 := (HY.out.cellg (i := n * 89 + 87) (lt89 (N := (syn3 B n).np) hkn (by decide))).trans (okq.gi (k := n) hkn 87 rfl)
      rw [gi_setp_ne _ _ _ _ _ (by decide), gi_setp_ne _ _ _ _ _ (by decide)] at q87
      have q88 := (HY.out.cellg (i := n * 89 + 88) (lt89 (N := (syn3 B n).np) hkn (by decide))).trans (okq.gi (k := n) hkn 88 rfl)
      have qfr := HY.out.frozen
      simp only [List.take_succ_cons, List.take_zero, List.drop_succ_cons, List.drop_zero]
      repeat still_step
      refine wpStill_nil ?_
      go_wp2_with fail
      go_roundw
      case rel =>
        refine ⟨n + 1, by omega, by go_num, HY.out.setp (k := n) (j := 88) hkn (by decide) _, ?_⟩
        exact Ext.mutE E6 (HMY.out.setCell (p := ⟨gx, n * 89 + 88, none⟩) (.inl HY.out.F2) _) (fun n hn h1 => by have := h1.1; have := hsx.out; omega)
      case measure => simp [intOf]; omega
    · obtain rfl : n = B.np := by omega
      obtain ⟨Z, hZ⟩ : ∃ Z, (syn3 B B.np) = Z := ⟨_, rfl⟩
      rw [hZ] at H6 okn hnp
      obtain ⟨hXlt, hglt, hnet⟩ := H6.out.lt
      obtain ⟨capt, c17t, hcat, hcbt⟩ := H6.out.cell17 okn
      rw [show (Z).np = B.np from hnp] at c17t hcat
      have hfrt := H6.out.frozen
      have HALL := Lib.hid (syn3_all ho hZ hnp)
      have HZ87 := Lib.hid hZ
      clear hZ HZ87
      obtain ⟨C7, hC, hCb, hCz⟩ := H6.out.br (show 0 < (Z).np by rw [show (Z).np = B.np from hnp]; exact hn1)
      have HCi7 := Lib.hid (show (Try.prog.info? 33).map (·.size) = some C7.size by rw [hCz, Br.ok.hd okn |>.1]; exact size_br)
      have HC7 := Lib.hid hC
      have HCb7 := Lib.hid hCb
      have HCn7 := Lib.hid (show C7.size = 20 by rw [hCz, Br.ok.hd okn |>.1]; rfl)
      clear hC hCb hCz
      have hkZ : k < Z.np := by rw [hnp]; exact hk
      have h89Z := Lib.hid (show k * 89 + 89 ≤ Z.ps.length from len89 okn hkZ)
      go_wp2_with (first
        | fail
        | ((with_reducible refine at_load 33 ?_); refine wpList_load_row rfl 33 _ rfl X rfl 33 C7 (0, 0) _ HC7.out Try.underlying33 rfl HCi7.out ?_))
      refine (allsynced_any C7 Z _ HCb7.out okn).mono ?_
      rintro e v8 ⟨f, rfl, hx, hf⟩
      obtain rfl := hf.2 HALL.out
      clear hf
      have E8 := Ext.trans E6 hx
      have H8x := Lib.hid (H6.out.ext hx)
      clear hx E6
      obtain ⟨hXl, hgl, hne⟩ := H8x.out.lt
      obtain ⟨cap, c17, hca, hcb⟩ := H8x.out.cell17 okn
      rw [show (Z).np = B.np from hnp] at c17 hca
      have hfr := H8x.out.frozen
      have p47 := (H8x.out.cellg (i := k * 89 + 47) (lt89 (N := (Z).np) hkZ (by decide))).trans (Br.ok.gb okn (k := k) hkZ 47 rfl)
      go_wp2_with (first
        | fail
        | ((with_reducible refine at_load 33 ?_)
           have HZ9 := Lib.hid (show BrG _ (fun n => Nx ≤ n ∧ n < X + 1) X gx (Z.setp k 47 (.bool false)) from (H8x.out.setp (k := k) (j := 47) hkZ (by decide) (.bool false)))
           have okz9 : Br.ok (Z.setp k 47 (.bool false)) := (okn.setB (k := k) hkZ 47 false rfl)
           have hmz := ((Mut.refl (fun n => Nx ≤ n ∧ n < X + 1) v8).setCell (p := ⟨gx, k * 89 + 47, none⟩) (.inl H8x.out.F2) (.bool false))
           have EZ9 := Ext.mutE E8 hmz (fun n hn h1 => by have := h1.1; have := hsx.out; omega)
           clear E8
           have HMZ := Lib.hid hmz
           clear hmz
           clear c17 hfr p47
           obtain ⟨C10, hC, hCb, hCz⟩ := HZ9.out.br (show 0 < ((Z.setp k 47 (.bool false))).np by rw [show ((Z.setp k 47 (.bool false))).np = B.np from (show (Z.setp k 47 (.bool false)).np = B.np from hnp)]; exact hn1)
           have HCi10 := Lib.hid (show (Try.prog.info? 33).map (·.size) = some C10.size by rw [hCz, Br.ok.hd okz9 |>.1]; exact size_br)
           have HC10 := Lib.hid hC
           have HCb10 := Lib.hid hCb
           have HCn10 := Lib.hid (show C10.size = 20 by rw [hCz, Br.ok.hd okz9 |>.1]; rfl)
           clear hC hCb hCz
           refine wpList_load_row rfl 33 _ rfl X rfl 33 C10 (0, 0) _ HC10.out Try.underlying33 rfl HCi10.out ?_))
      have hone := syn_one HALL.out hkZ h89Z.out
      refine (allsynced_any C10 (Z.setp k 47 (.bool false)) _ HCb10.out okz9).mono ?_
      rintro e v11 ⟨f, rfl, hx, hf⟩
      have HF := Lib.hid (show f = true ↔ Z.gi k 87 = 3 from hf.trans hone)
      clear hf hone
      have E11 := Ext.trans EZ9 hx
      have H11x := Lib.hid (HZ9.out.ext hx)
      clear hx EZ9
      obtain ⟨hXl, hgl, hne⟩ := H11x.out.lt
      obtain ⟨cap, c17, hca, hcb⟩ := H11x.out.cell17 okz9
      rw [show ((Z.setp k 47 (.bool false))).np = B.np from (show (Z.setp k 47 (.bool false)).np = B.np from hnp)] at c17 hca
      have hfr := H11x.out.frozen
      have p47 := (H11x.out.cellg (i := k * 89 + 47) (lt89 (N := ((Z.setp k 47 (.bool false))).np) hkZ (by decide))).trans (Br.ok.gb okz9 (k := k) hkZ 47 rfl)
      have p44 := (H11x.out.cellg (i := k * 89 + 44) (lt89 (N := ((Z.setp k 47 (.bool false))).np) hkZ (by decide))).trans (Br.ok.gb okz9 (k := k) hkZ 44 rfl)
      have p87 := (H11x.out.cellg (i := k * 89 + 87) (lt89 (N := ((Z.setp k 47 (.bool false))).np) hkZ (by decide))).trans (Br.ok.gi okz9 (k := k) hkZ 87 rfl)
      rw [gi_setp_ne _ _ _ _ _ (by decide)] at p87
      have hnone := Lib.hid (show ¬ AllSyn (((Z.setp k 47 (.bool false)).setp k 47 (.bool true)).setp k 44 (.bool false)) from syn_none (k := k) hkZ (gb_setp_same _ _ _ _ (by have := h89Z.out; simp only [len_setp]; omega)))
      have hfb : f = (Z.gi k 87 == 3) := by rw [Bool.eq_iff_iff, HF.out, beq_iff_eq]
      clear HF
      obtain ⟨z, hz⟩ : ∃ z, Z.gi k 87 = z := ⟨_, rfl⟩
      rw [hz] at p87 hfb
      clear hz
      by_cases hz3 : z = 3
      · subst hz3
        obtain rfl : f = true := by simpa using hfb
        clear hfb
        go_wp2_with (first
          | fail
          | ((with_reducible refine at_loadG 33 ?_)
             have HZ12 := Lib.hid (show BrG _ (fun n => Nx ≤ n ∧ n < X + 1) X gx (((Z.setp k 47 (.bool false)).setp k 47 (.bool true)).setp k 44 (.bool false)) from ((H11x.out.setp (k := k) (j := 47) hkZ (by decide) (.bool true)).setp (k := k) (j := 44) hkZ (by decide) (.bool false)))
             have okz12 : Br.ok (((Z.setp k 47 (.bool false)).setp k 47 (.bool true)).setp k 44 (.bool false)) := ((okz9.setB (k := k) hkZ 47 true rfl).setB (k := k) hkZ 44 false rfl)
             have hmz := (((Mut.refl (fun n => Nx ≤ n ∧ n < X + 1) v11).setCell (p := ⟨gx, k * 89 + 47, none⟩) (.inl H11x.out.F2) (.bool true)).setCell (p := ⟨gx, k * 89 + 44, none⟩) (.inl H11x.out.F2) (.bool false))
             have EZ12 := Ext.mutE E11 hmz (fun n hn h1 => by have := h1.1; have := hsx.out; omega)
             clear E11
             have HMZ := Lib.hid hmz
             clear hmz
             clear c17 hfr p47 p44 p87
             obtain ⟨C13, hC, hCb, hCz⟩ := HZ12.out.br (show 0 < ((((Z.setp k 47 (.bool false)).setp k 47 (.bool true)).setp k 44 (.bool false))).np by rw [show ((((Z.setp k 47 (.bool false)).setp k 47 (.bool true)).setp k 44 (.bool false))).np = B.np from (show (((Z.setp k 47 (.bool false)).setp k 47 (.bool true)).setp k 44 (.bool false)).np = B.np from hnp)]; exact hn1)
             have HCi13 := Lib.hid (show (Try.prog.info? 33).map (·.size) = some C13.size by rw [hCz, Br.ok.hd okz12 |>.1]; exact size_br)
             have HC13 := Lib.hid hC
             have HCb13 := Lib.hid hCb
             have HCn13 := Lib.hid (show C13.size = 20 by rw [hCz, Br.ok.hd okz12 |>.1]; rfl)
             clear hC hCb hCz
             refine wpList_load_rowG rfl 33 _ rfl X rfl 33 C13 (0, 0) _ HC13.out Try.underlying33 rfl HCi13.out ?_))
        refine (allsynced_any C13 (((Z.setp k 47 (.bool false)).setp k 47 (.bool true)).setp k 44 (.bool false)) _ HCb13.out okz12).mono ?_
        rintro e v14 ⟨f4, rfl, hx, hf⟩
        obtain rfl : f4 = false := by
          cases f4
          · rfl
          · exact absurd (hf.1 rfl) hnone.out
        clear hf
        have E14 := Ext.trans EZ12 hx
        clear hx EZ12
        go_wp2_with fail
        all_goals
          go_ret
          exact ⟨rfl, HE0.out.trans E14⟩
      · have hzb : (z == 3) = false := by simpa using hz3
        obtain rfl : f = false := by rw [hfb]; exact hzb
        clear hfb hz3
        go_wp2_with (first
          | fail
          | ((with_reducible refine at_loadG 33 ?_)
             have HZ12 := Lib.hid (show BrG _ (fun n => Nx ≤ n ∧ n < X + 1) X gx (((Z.setp k 47 (.bool false)).setp k 47 (.bool true)).setp k 44 (.bool false)) from ((H11x.out.setp (k := k) (j := 47) hkZ (by decide) (.bool true)).setp (k := k) (j := 44) hkZ (by decide) (.bool false)))
             have okz12 : Br.ok (((Z.setp k 47 (.bool false)).setp k 47 (.bool true)).setp k 44 (.bool false)) := ((okz9.setB (k := k) hkZ 47 true rfl).setB (k := k) hkZ 44 false rfl)
             have hmz := (((Mut.refl (fun n => Nx ≤ n ∧ n < X + 1) v11).setCell (p := ⟨gx, k * 89 + 47, none⟩) (.inl H11x.out.F2) (.bool true)).setCell (p := ⟨gx, k * 89 + 44, none⟩) (.inl H11x.out.F2) (.bool false))
             have EZ12 := Ext.mutE E11 hmz (fun n hn h1 => by have := h1.1; have := hsx.out; omega)
             clear E11
             have HMZ := Lib.hid hmz
             clear hmz
             clear c17 hfr p47 p44 p87
             obtain ⟨C13, hC, hCb, hCz⟩ := HZ12.out.br (show 0 < ((((Z.setp k 47 (.bool false)).setp k 47 (.bool true)).setp k 44 (.bool false))).np by rw [show ((((Z.setp k 47 (.bool false)).setp k 47 (.bool true)).setp k 44 (.bool false))).np = B.np from (show (((Z.setp k 47 (.bool false)).setp k 47 (.bool true)).setp k 44 (.bool false)).np = B.np from hnp)]; exact hn1)
             have HCi13 := Lib.hid (show (Try.prog.info? 33).map (·.size) = some C13.size by rw [hCz, Br.ok.hd okz12 |>.1]; exact size_br)
             have HC13 := Lib.hid hC
             have HCb13 := Lib.hid hCb
             have HCn13 := Lib.hid (show C13.size = 20 by rw [hCz, Br.ok.hd okz12 |>.1]; rfl)
             clear hC hCb hCz
             refine wpList_load_rowG rfl 33 _ rfl X rfl 33 C13 (0, 0) _ HC13.out Try.underlying33 rfl HCi13.out ?_))
        refine (allsynced_any C13 (((Z.setp k 47 (.bool false)).setp k 47 (.bool true)).setp k 44 (.bool false)) _ HCb13.out okz12).mono ?_
        rintro e v15 ⟨f4, rfl, hx, hf⟩
        obtain rfl : f4 = false := by
          cases f4
          · rfl
          · exact absurd (hf.1 rfl) hnone.out
        clear hf
        have E15 := Ext.trans EZ12 hx
        clear hx EZ12
        go_wp2_with fail
        all_goals
          go_ret
          exact ⟨rfl, HE0.out.trans E15⟩

end Go.Proofs.Ytnblchilgaimhaa
