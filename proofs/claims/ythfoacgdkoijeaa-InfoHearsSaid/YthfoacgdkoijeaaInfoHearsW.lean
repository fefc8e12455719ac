/- The walk of InfoHears. No statement is proved here. -/
import Derived.Test.YthfoacgdkoijeaaInfJ
namespace Go.Proofs.Ythfoacgdkoijeaa
open Go.RowKit Go.BigFrame Go.WideShapes Go.ChangeShapes Go.Deep
set_option linter.unusedVariables false
set_option linter.unusedSimpArgs false

set_option maxRecDepth 100000 in
set_option maxHeartbeats 4000000 in
theorem law_InfoHears {w : World} (c : Array Value) (B : Br) (hb : BrC w c B) (ho : B.ok) (i : Int) (hi : 0 ≤ i ∧ i < 256) (m0 : List Value) (hm0 : Typed ML m0) :
    Calls Try.prog 5 #[.agg c, .int .u8 i, .agg m0.toArray] w fun e w' => e = .returned (.bool true) ∧ Ext w w' := by
  obtain ⟨m, rfl⟩ : ∃ m : MsgT, m.1 = m0 := ⟨⟨m0, hm0⟩, rfl⟩
  clear hm0
  have hz0 : c.size = 20 := by
    obtain ⟨_, _, _, h, _⟩ := hb.facts ho.hd.1
    exact h
  have hi20 := Lib.hid (show (Try.prog.info? 33).map (·.size) = some c.size by rw [hz0]; exact size_br)
  have HCZ := Lib.hid hz0
  have hE00 : Ext w ((w.alloc (.cells c 33)).alloc (.cells m.1.toArray 49)) := (((Ext.refl w).alloc _).alloc _)
  have hL00 : ((w.alloc (.cells c 33)).alloc (.cells m.1.toArray 49)).heap[w.heap.size]? = some (.cells c 33 (0, 0)) := (heap_alloc_old _ _ (by simp)).trans (heap_alloc_new _ _)
  have hL01 : ((w.alloc (.cells c 33)).alloc (.cells m.1.toArray 49)).heap[w.heap.size + 1]? = some (.cells m.1.toArray 49 (0, 0)) := heap_alloc2_new _ _ _
  have hS00 : w.heap.size < ((w.alloc (.cells c 33)).alloc (.cells m.1.toArray 49)).heap.size := heap_lt hL00
  have hB00 := hb.ext hE00
  clear hz0
  have HP := Lib.hid hb
  clear hb
  have HhE00 := Lib.hid hE00
  have HhL00 := Lib.hid hL00
  have HhS00 := Lib.hid hS00
  have HhB00 := Lib.hid hB00
  have HhL01 := Lib.hid hL01
  clear hE00 hL00 hS00 hB00 hL01
  go_enter Try.func5, Try.ntmps5
  go_wp2_with fail
  have hE00 := HhE00.out
  clear HhE00
  have hL00 := HhL00.out
  clear HhL00
  have hS00 := HhS00.out
  clear HhS00
  have hB00 := HhB00.out
  clear HhB00
  have hL01 := HhL01.out
  clear HhL01
  generalize ((w.alloc (.cells c 33)).alloc (.cells m.1.toArray 49)) = W0 at *
  obtain ⟨M, hq1⟩ : ∃ n, w.heap.size + 1 = n := ⟨_, rfl⟩
  rw [hq1] at hL01 ⊢
  clear hq1
  have HL_M := Lib.hid hL01
  clear hL01
  obtain ⟨bx, hq⟩ : ∃ n, w.heap.size = n := ⟨_, rfl⟩
  rw [hq] at hL00 hS00 ⊢
  have HE0 := Lib.hid hE00
  have HL0 := Lib.hid hL00
  have HB0 := Lib.hid hB00
  have HS0 := Lib.hid hS00
  have HWB := Lib.hid hq
  clear hE00 hL00 hB00 hS00 hq
  refine (infw_awake _).mono ?_
  rintro e v1 ⟨rfl, E1⟩
  go_wp2_with (first | fail | ((with_reducible refine at_load 33 ?_); refine wpList_load_row rfl 33 _ rfl bx rfl 33 c (0, 0) _ ((E1.block _ HS0.out).trans HL0.out) Try.underlying33 rfl hi20.out ?_))
  refine (few_any c B _ (HB0.out.ext E1) ho).mono ?_
  rintro e v2 ⟨f, rfl, hx2, hf⟩
  have E2 := Ext.trans E1 hx2
  clear E1 hx2
  have hMr := (E2.block _ (heap_lt HL_M.out)).trans HL_M.out
  have RM13 := Lib.hid (show v2.rangeAt M 13 [Value.int .i64 (pI m.1 13), Value.int .i64 (pI m.1 14), Value.int .i64 (pI m.1 15), Value.int .i64 (pI m.1 16)] from (range_cons ((cell_of_row _ _ 13 _ _ _ hMr).trans (by simpa using tyI m.2 13 rfl)) (range_cons ((cell_of_row _ _ 14 _ _ _ hMr).trans (by simpa using tyI m.2 14 rfl)) (range_cons ((cell_of_row _ _ 15 _ _ _ hMr).trans (by simpa using tyI m.2 15 rfl)) (range_cons ((cell_of_row _ _ 16 _ _ _ hMr).trans (by simpa using tyI m.2 16 rfl)) range_nil)))))
  clear hMr
  go_wp2_with (first
    | fail
    | ((with_reducible refine at_load 24 ?_); refine wpList_load_mid rfl 24 _ rfl M 13 rfl [Value.int .i64 (pI m.1 13), Value.int .i64 (pI m.1 14), Value.int .i64 (pI m.1 15), Value.int .i64 (pI m.1 16)] _ RM13.out Try.underlying24 rfl (by exact size_times) ?_))
  clear RM13
  refine (tfew_any _ _ _ _ _).mono ?_
  rintro e v3 ⟨f2, rfl, hx, hf2⟩
  have E3 := Ext.trans E2 hx
  clear hx E2
  cases f
  · go_wp2_with fail
    go_ret
    exact ⟨rfl, HE0.out.trans E3⟩
  cases f2
  · go_wp2_with fail
    go_ret
    exact ⟨rfl, HE0.out.trans E3⟩
  have hfew := Lib.hid (hf.1 rfl)
  have HTF := Lib.hid (hf2.1 rfl)
  clear hf hf2
  have hn1 := hfew.out.2.1
  have HN := Lib.hid (show B.np ≤ 1000 ∧ B.no ≤ 1000 ∧ B.nf ≤ 1000 by have := hfew.out; omega)
  have hn8 : B.np < 1000 := by have := hfew.out; omega
  go_wp2_with (first
    | fail
    | ((with_reducible refine at_load 33 ?_); refine wpList_load_row rfl 33 _ rfl bx rfl 33 c (0, 0) _ ((E3.block _ HS0.out).trans HL0.out) Try.underlying33 rfl hi20.out ?_))
  refine (at_any c B i _ (HB0.out.ext E3) ho hi hn1).mono ?_
  rintro e v4 ⟨rfl, hx⟩
  have E4 := Ext.trans E3 hx
  clear E3 hx
  obtain ⟨k, hk0⟩ : ∃ k, i.toNat % B.np = k := ⟨_, rfl⟩
  have hk : k < B.np := by rw [← hk0]; exact Nat.mod_lt _ hn1
  have hk8 : k < 1000 := by omega
  rw [hk0]
  clear hk0
  have h89 := Lib.hid (len89 ho hk)
  have hlm := Lib.hid (show m.1.toArray.size = 17 by rw [List.size_toArray]; exact m.2.1)
  have him := Lib.hid (show (Try.prog.info? 49).map (·.size) = some m.1.toArray.size by rw [hlm.out]; exact size_msg)
  have hom := Lib.hid (all_oneCell_toArray m.2.one)
  obtain ⟨ls, hls⟩ : ∃ b, decide ((c4 (pI m.1 8) (pI m.1 9) (pI m.1 10) (pI m.1 11) (B.gi k 68) (B.gi k 69) (B.gi k 70) (B.gi k 71)) < 0) = b := ⟨_, rfl⟩
  have HLS := Lib.hid hls
  clear hls
  obtain ⟨tl, htl⟩ : ∃ b, (tell (pI m.1 10) (pI m.1 11) (B.gi k 70) (B.gi k 71)) = b := ⟨_, rfl⟩
  have HTL := Lib.hid htl
  clear htl
  have HW := Lib.hid (show (0 ≤ pI m.1 10 ∧ pI m.1 10 < 18446744073709551616) ∧ (0 ≤ B.gi k 70 ∧ B.gi k 70 < 18446744073709551616) ∧ (0 ≤ pI m.1 11 ∧ pI m.1 11 < 65536) ∧ (0 ≤ B.gi k 71 ∧ B.gi k 71 < 65536) from ⟨wf_u64 (tyW m.2 10 rfl), wf_u64 (ho.gw hk 70 rfl), wf_u16 (tyW m.2 11 rfl), wf_u16 (ho.gw hk 71 rfl)⟩)
  by_cases h86 : B.gi k 86 = 3
  · go_wp2_with (first
      | fail
      | ((with_reducible refine at_load 33 ?_); refine wpList_load_row rfl 33 _ rfl bx rfl 33 c (0, 0) _ ((E4.block _ HS0.out).trans HL0.out) Try.underlying33 rfl hi20.out ?_))
    refine (clone_any c B _ (HB0.out.ext E4) ho HN.out).mono ?_
    rintro e u5 ⟨cx, rfl, hO, hx⟩
    have Eu := Ext.trans E4 hx
    have hcxz := Lib.hid (size_z20.trans (hO.size ho).symm)
    have hcxo := Lib.hid (hO.one ho)
    have hcxi := Lib.hid (show (Try.prog.info? 33).map (·.size) = some cx.size by rw [hO.size ho]; exact size_br)
    obtain ⟨gx, hM⟩ := hO.made hx.size hn1
    obtain ⟨Nx, hN0, hsz⟩ := nameLe hx.size
    have hNE : W0.heap.size ≤ Nx := by
      rw [← hN0]
      exact E4.size
    rw [hN0] at hM
    have HMK := Lib.hid (show ∀ wx : World, wx = u5.alloc (.cells cx 33) → BrG wx (fun n => Nx ≤ n ∧ n < u5.heap.size + 1) u5.heap.size gx B ∧ Ext W0 wx from by
      rintro _ rfl
      exact ⟨hM, Eu.alloc _⟩)
    clear hM hO hx Eu hN0 E4
    obtain ⟨X, hX0⟩ : ∃ n, u5.heap.size = n := ⟨_, rfl⟩
    have HX0 := Lib.hid hX0
    rw [hX0] at HMK hsz
    have hsx := Lib.hid (show Nx ≤ X ∧ W0.heap.size ≤ Nx from ⟨hsz, hNE⟩)
    clear hsz hNE hX0
    go_upto_region 13 with (first
      | fail
      | ((with_reducible refine at_store 33 ?_); refine wpList_store_new3 rfl rfl 33 _ _ _ rfl _ cx _ rfl ?_ rfl hcxi.out hcxz.out hcxo.out ?_; · rfl
         intro wx hwx
         have hmk := HMK.out wx hwx
         obtain ⟨hBx, E6⟩ := hmk
         have H6x := Lib.hid hBx
         rw [HX0.out]
         clear hwx hBx HMK HX0 hcxz hcxo hcxi
         obtain ⟨hXl, hgl, hne⟩ := H6x.out.lt
         obtain ⟨cap, c17, hca, hcb⟩ := H6x.out.cell17 ho
         have hfr := H6x.out.frozen
         have p2 := (H6x.out.cellg (i := k * 89 + 2) (lt89 (N := (B).np) hk (by decide))).trans (Br.ok.gb ho (k := k) hk 2 rfl)
         have p18 := (H6x.out.cellg (i := k * 89 + 18) (lt89 (N := (B).np) hk (by decide))).trans (Br.ok.gi ho (k := k) hk 18 rfl)
         have p50 := (H6x.out.cellg (i := k * 89 + 50) (lt89 (N := (B).np) hk (by decide))).trans (Br.ok.gb ho (k := k) hk 50 rfl)
         have p36 := (H6x.out.cellg (i := k * 89 + 36) (lt89 (N := (B).np) hk (by decide))).trans (Br.ok.gb ho (k := k) hk 36 rfl)))
    have HZ7 := Lib.hid (show BrG _ (fun n => Nx ≤ n ∧ n < X + 1) X gx (ha0 B k m) from ((((H6x.out.setp (k := k) (j := 2) hk (by decide) (.bool true)).setp (k := k) (j := 18) hk (by decide) (.int .i64 2)).setp (k := k) (j := 50) hk (by decide) (.bool false)).setp (k := k) (j := 36) hk (by decide) (.bool true)))
    have okz7 : Br.ok (ha0 B k m) := (ha0_ok ho hk)
    have hmz := (((((Mut.refl (fun n => Nx ≤ n ∧ n < X + 1) wx).setCell (p := ⟨gx, k * 89 + 2, none⟩) (.inl H6x.out.F2) (.bool true)).setCell (p := ⟨gx, k * 89 + 18, none⟩) (.inl H6x.out.F2) (.int .i64 2)).setCell (p := ⟨gx, k * 89 + 50, none⟩) (.inl H6x.out.F2) (.bool false)).setCell (p := ⟨gx, k * 89 + 36, none⟩) (.inl H6x.out.F2) (.bool true))
    have EZ7 := Ext.mutE E6 hmz (fun n hn h1 => by have := h1.1; have := hsx.out; omega)
    clear E6
    have HMZ := Lib.hid hmz
    clear hmz
    clear c17 hfr p2 p18 p50 p36
    obtain ⟨hXl, hgl, hne⟩ := HZ7.out.lt
    obtain ⟨cap, c17, hca, hcb⟩ := HZ7.out.cell17 okz7
    rw [show ((ha0 B k m)).np = B.np from ha0_np] at c17 hca
    have hfr := HZ7.out.frozen
    have HMX := Lib.hid (show M < W0.heap.size from heap_lt HL_M.out)
    have hMr := Lib.hid ((EZ7.block _ HMX.out).trans HL_M.out)
    go_upto_region 17 with (first
      | fail
      | ((with_reducible refine at_load 49 ?_); refine wpList_load_row rfl 49 _ rfl M rfl 49 m.1.toArray (0, 0) _ hMr.out Try.underlying49 rfl him.out ?_)
      | ((with_reducible refine at_store 49 ?_); refine wpList_store_midN rfl rfl 49 _ _ rfl gx (k * 89 + 51) m.1.toArray rfl rfl (by rw [hlm.out]; exact HZ7.out.thereAt (k := k) (show k < Br.np (ha0 B k m) by rw [ha0_np]; exact hk) (by decide)) him.out hom.out ?_
         intro wy hwy
         have hBS : BrG wy (fun n => Nx ≤ n ∧ n < X + 1) X gx (ha1 B k m) := by
           rw [hwy]
           exact HZ7.out.setr (k := k) (j := 51) (show k < Br.np (ha0 B k m) by rw [ha0_np]; exact hk) (by rw [show m.1.length = 17 from m.2.1]; decide)
         have E8 : Ext W0 wy := by
           rw [hwy]
           exact Ext.mutE EZ7 (Mut.setCells (F := (fun n => Nx ≤ n ∧ n < X + 1)) (.inl HZ7.out.F2) _ _ (Mut.refl _ _)) (fun n hn h1 => by have := h1.1; have := hsx.out; omega)
         have H8x := Lib.hid hBS
         clear hwy hBS EZ7 c17 hfr hMr
         obtain ⟨hXl, hgl, hne⟩ := H8x.out.lt
         obtain ⟨cap, c17, hca, hcb⟩ := H8x.out.cell17 (ha1_ok ho hk)
         rw [show ((ha1 B k m)).np = B.np from ha1_np] at c17 hca
         have hfr := H8x.out.frozen
         have p51 := (H8x.out.cellg (i := k * 89 + 51) (lt89 (N := ((ha1 B k m)).np) (show k < Br.np (ha1 B k m) by rw [ha1_np]; exact hk) (by decide))).trans (Br.ok.gi (ha1_ok ho hk) (k := k) (show k < Br.np (ha1 B k m) by rw [ha1_np]; exact hk) 51 rfl)
         have p86 := (H8x.out.cellg (i := k * 89 + 86) (lt89 (N := ((ha1 B k m)).np) (show k < Br.np (ha1 B k m) by rw [ha1_np]; exact hk) (by decide))).trans (Br.ok.gi (ha1_ok ho hk) (k := k) (show k < Br.np (ha1 B k m) by rw [ha1_np]; exact hk) 86 rfl)
         rw [(show ((ha1 B k m)).gi k 86 = B.gi k 86 by rw [← pI_port (by decide), ha1_port h89.out]; unfold ha1P; rw [pI_setL_out (by rw [ha0_plen h89.out, show (ha1M B k m).length = 17 from m.2.1]; decide) (by rw [show (ha1M B k m).length = 17 from m.2.1]; decide)]; unfold ha0P; simp [pI_set_ne, pI_port]), h86] at p86
         have p11 := (H8x.out.cellg (i := k * 89 + 11) (lt89 (N := ((ha1 B k m)).np) (show k < Br.np (ha1 B k m) by rw [ha1_np]; exact hk) (by decide))).trans (Br.ok.gi (ha1_ok ho hk) (k := k) (show k < Br.np (ha1 B k m) by rw [ha1_np]; exact hk) 11 rfl)
         rw [(show ((ha1 B k m)).gi k 11 = B.gi k 11 by rw [← pI_port (by decide), ha1_port h89.out]; unfold ha1P; rw [pI_setL_out (by rw [ha0_plen h89.out, show (ha1M B k m).length = 17 from m.2.1]; decide) (by rw [show (ha1M B k m).length = 17 from m.2.1]; decide)]; unfold ha0P; simp [pI_set_ne, pI_port])] at p11))
    have HZ9 := Lib.hid (show BrG _ (fun n => Nx ≤ n ∧ n < X + 1) X gx (ha2 B k m) from ((H8x.out.setp (k := k) (j := 51) (show k < Br.np (ha1 B k m) by rw [ha1_np]; exact hk) (by decide) (.int .i64 0)).setp (k := k) (j := 11) (show k < Br.np (ha1 B k m) by rw [ha1_np]; exact hk) (by decide) (.int .i64 (max 1 (B.gi k 11)))))
    have okz9 : Br.ok (ha2 B k m) := ha2_ok ho hk
    have hmz := (((Mut.refl (fun n => Nx ≤ n ∧ n < X + 1) wy).setCell (p := ⟨gx, k * 89 + 51, none⟩) (.inl H8x.out.F2) (.int .i64 0)).setCell (p := ⟨gx, k * 89 + 11, none⟩) (.inl H8x.out.F2) (.int .i64 (max 1 (B.gi k 11))))
    have EZ9 := Ext.mutE E8 hmz (fun n hn h1 => by have := h1.1; have := hsx.out; omega)
    clear E8
    have HMZ := Lib.hid hmz
    clear hmz
    clear c17 hfr p51 p86 p11
    rw [show (if 1 < B.gi k 11 then B.gi k 11 else 1) = max 1 (B.gi k 11) from by split <;> omega]
    rw [show k * 89 + 6 + 5 = k * 89 + 11 from rfl]
    generalize World.setCell (World.setCell wy _ _) _ _ = wk at *
    obtain ⟨hXl, hgl, hne⟩ := HZ9.out.lt
    obtain ⟨cap, c17, hca, hcb⟩ := HZ9.out.cell17 okz9
    rw [show ((ha2 B k m)).np = B.np from ha2_np] at c17 hca
    have hfr := HZ9.out.frozen
    have hkc : k < Br.np (ha2 B k m) := (show k < Br.np (ha2 B k m) by rw [ha2_np]; exact hk)
    have hrw0 := HZ9.out.range (k := k) hkc
    have cw68 : (port (Br.ps (ha2 B k m)) k)[68]? = some (.int .u64 (B.gi k 68)) := (port_at (B := (ha2 B k m)) (k := k) (j := 68) (by decide)).trans ((Br.ok.gi okz9 (k := k) hkc 68 rfl).trans (by rw [ha2_68 h89.out]))
    have cw69 : (port (Br.ps (ha2 B k m)) k)[69]? = some (.int .u32 (B.gi k 69)) := (port_at (B := (ha2 B k m)) (k := k) (j := 69) (by decide)).trans ((Br.ok.gi okz9 (k := k) hkc 69 rfl).trans (by rw [ha2_69 h89.out]))
    have cw70 : (port (Br.ps (ha2 B k m)) k)[70]? = some (.int .u64 (B.gi k 70)) := (port_at (B := (ha2 B k m)) (k := k) (j := 70) (by decide)).trans ((Br.ok.gi okz9 (k := k) hkc 70 rfl).trans (by rw [ha2_70 h89.out]))
    have cw71 : (port (Br.ps (ha2 B k m)) k)[71]? = some (.int .u16 (B.gi k 71)) := (port_at (B := (ha2 B k m)) (k := k) (j := 71) (by decide)).trans ((Br.ok.gi okz9 (k := k) hkc 71 rfl).trans (by rw [ha2_71 h89.out]))
    have cw72 : (port (Br.ps (ha2 B k m)) k)[72]? = some (.int .u16 (B.gi k 72)) := (port_at (B := (ha2 B k m)) (k := k) (j := 72) (by decide)).trans ((Br.ok.gi okz9 (k := k) hkc 72 rfl).trans (by rw [ha2_72 h89.out]))
    have cw78 : (port (Br.ps (ha2 B k m)) k)[78]? = some (.int .i64 (B.gi k 78)) := (port_at (B := (ha2 B k m)) (k := k) (j := 78) (by decide)).trans ((Br.ok.gi okz9 (k := k) hkc 78 rfl).trans (by rw [ha2_78 h89.out]))
    have cw79 : (port (Br.ps (ha2 B k m)) k)[79]? = some (.int .i64 (B.gi k 79)) := (port_at (B := (ha2 B k m)) (k := k) (j := 79) (by decide)).trans ((Br.ok.gi okz9 (k := k) hkc 79 rfl).trans (by rw [ha2_79 h89.out]))
    have cw80 : (port (Br.ps (ha2 B k m)) k)[80]? = some (.int .i64 (B.gi k 80)) := (port_at (B := (ha2 B k m)) (k := k) (j := 80) (by decide)).trans ((Br.ok.gi okz9 (k := k) hkc 80 rfl).trans (by rw [ha2_80 h89.out]))
    have cw81 : (port (Br.ps (ha2 B k m)) k)[81]? = some (.int .i64 (B.gi k 81)) := (port_at (B := (ha2 B k m)) (k := k) (j := 81) (by decide)).trans ((Br.ok.gi okz9 (k := k) hkc 81 rfl).trans (by rw [ha2_81 h89.out]))
    have cw86 : (port (Br.ps (ha2 B k m)) k)[86]? = some (.int .i64 (B.gi k 86)) := (port_at (B := (ha2 B k m)) (k := k) (j := 86) (by decide)).trans ((Br.ok.gi okz9 (k := k) hkc 86 rfl).trans (by rw [ha2_86 h89.out]))
    have cw6 : (port (Br.ps (ha2 B k m)) k)[6]? = some (.int .i64 (B.gi k 6)) := (port_at (B := (ha2 B k m)) (k := k) (j := 6) (by decide)).trans ((Br.ok.gi okz9 (k := k) hkc 6 rfl).trans (by rw [ha2_6 h89.out]))
    have cw7 : (port (Br.ps (ha2 B k m)) k)[7]? = some (.int .i64 (B.gi k 7)) := (port_at (B := (ha2 B k m)) (k := k) (j := 7) (by decide)).trans ((Br.ok.gi okz9 (k := k) hkc 7 rfl).trans (by rw [ha2_7 h89.out]))
    have cw8 : (port (Br.ps (ha2 B k m)) k)[8]? = some (.int .i64 (B.gi k 8)) := (port_at (B := (ha2 B k m)) (k := k) (j := 8) (by decide)).trans ((Br.ok.gi okz9 (k := k) hkc 8 rfl).trans (by rw [ha2_8 h89.out]))
    have cw9 : (port (Br.ps (ha2 B k m)) k)[9]? = some (.int .i64 (B.gi k 9)) := (port_at (B := (ha2 B k m)) (k := k) (j := 9) (by decide)).trans ((Br.ok.gi okz9 (k := k) hkc 9 rfl).trans (by rw [ha2_9 h89.out]))
    have cw10 : (port (Br.ps (ha2 B k m)) k)[10]? = some (.int .i64 (B.gi k 10)) := (port_at (B := (ha2 B k m)) (k := k) (j := 10) (by decide)).trans ((Br.ok.gi okz9 (k := k) hkc 10 rfl).trans (by rw [ha2_10 h89.out]))
    have cw11 : (port (Br.ps (ha2 B k m)) k)[11]? = some (.int .i64 (max 1 (B.gi k 11))) := (port_at (B := (ha2 B k m)) (k := k) (j := 11) (by decide)).trans ((Br.ok.gi okz9 (k := k) hkc 11 rfl).trans (by rw [ha2_11 h89.out]))
    have cw12 : (port (Br.ps (ha2 B k m)) k)[12]? = some (.int .i64 (B.gi k 12)) := (port_at (B := (ha2 B k m)) (k := k) (j := 12) (by decide)).trans ((Br.ok.gi okz9 (k := k) hkc 12 rfl).trans (by rw [ha2_12 h89.out]))
    have cw13 : (port (Br.ps (ha2 B k m)) k)[13]? = some (.int .i64 (B.gi k 13)) := (port_at (B := (ha2 B k m)) (k := k) (j := 13) (by decide)).trans ((Br.ok.gi okz9 (k := k) hkc 13 rfl).trans (by rw [ha2_13 h89.out]))
    have cw14 : (port (Br.ps (ha2 B k m)) k)[14]? = some (.int .i64 (B.gi k 14)) := (port_at (B := (ha2 B k m)) (k := k) (j := 14) (by decide)).trans ((Br.ok.gi okz9 (k := k) hkc 14 rfl).trans (by rw [ha2_14 h89.out]))
    have cw44 : (port (Br.ps (ha2 B k m)) k)[44]? = some (.bool (B.gb k 44)) := (port_at (B := (ha2 B k m)) (k := k) (j := 44) (by decide)).trans ((Br.ok.gb okz9 (k := k) hkc 44 rfl).trans (by rw [ha2_44 h89.out]))
    have hnw0 : (port (Br.ps (ha2 B k m)) k).length = 89 := (port_typed okz9 (i := k) hkc).1
    have how := Lib.hid (all_oneCell_toArray (port_typed okz9 (i := k) hkc).one)
    obtain ⟨pw, hpw⟩ : ∃ p, port (Br.ps (ha2 B k m)) k = p := ⟨_, rfl⟩
    rw [hpw] at hrw0 hnw0 how cw68 cw69 cw70 cw71 cw72 cw78 cw79 cw80 cw81 cw86 cw6 cw7 cw8 cw9 cw10 cw11 cw12 cw13 cw14 cw44
    clear hpw
    have hrw := Lib.hid hrw0
    clear hrw0
    have hiw := Lib.hid (show (Try.prog.info? 51).map (·.size) = some pw.length by rw [hnw0]; exact size_port)
    have hjw := Lib.hid (show (Try.prog.info? 51).map (·.size) = some pw.toArray.size by rw [List.size_toArray, hnw0]; exact size_port)
    have hswz := Lib.hid (show PZ.size = pw.toArray.size by rw [List.size_toArray]; exact hnw0.symm)
    have hzw := zero_port
    clear hnw0
    clear hkc
    go_wp2_with (first
      | fail
      | ((with_reducible refine at_load 51 ?_); refine wpList_load_mid rfl 51 _ rfl gx (k * 89) rfl pw _ hrw.out Try.underlying51 rfl hiw.out ?_)
      | ((with_reducible refine at_store 51 ?_); refine wpList_store_new3 rfl rfl 51 _ _ _ rfl PZ pw.toArray _ rfl ?_ rfl hjw.out hswz.out (by rw [Array.all_toList]; exact how.out) ?_; · rfl
         intro wfw hwf
         have hY := HZ9.out.alloc (.cells pw.toArray 51)
         rw [← hwf] at hY
         have hE0 : Ext wk wfw := by rw [hwf]; exact (Ext.refl _).alloc _
         have E10 := EZ9.trans hE0
         have hbx := heap_alloc_new wk (.cells pw.toArray 51)
         rw [← hwf] at hbx
         have hxb := Lib.hid HZ9.out.lt.1
         obtain ⟨fw, hfb⟩ : ∃ n, wk.heap.size = n := ⟨_, rfl⟩
         rw [hfb] at hbx hxb ⊢
         have HFw := Lib.hid hbx
         have HGw := hxb
         have H10x := Lib.hid hY
         clear hwf hY hbx hxb hfb hE0 EZ9 hzw
         have qw68 : wfw.cell? ⟨fw, 68, none⟩ = some (.int .u64 (B.gi k 68)) := by rw [cell_of_row _ _ _ _ _ _ HFw.out]; simpa using cw68
         have qw69 : wfw.cell? ⟨fw, 69, none⟩ = some (.int .u32 (B.gi k 69)) := by rw [cell_of_row _ _ _ _ _ _ HFw.out]; simpa using cw69
         have qw70 : wfw.cell? ⟨fw, 70, none⟩ = some (.int .u64 (B.gi k 70)) := by rw [cell_of_row _ _ _ _ _ _ HFw.out]; simpa using cw70
         have qw71 : wfw.cell? ⟨fw, 71, none⟩ = some (.int .u16 (B.gi k 71)) := by rw [cell_of_row _ _ _ _ _ _ HFw.out]; simpa using cw71
         have qw72 : wfw.cell? ⟨fw, 72, none⟩ = some (.int .u16 (B.gi k 72)) := by rw [cell_of_row _ _ _ _ _ _ HFw.out]; simpa using cw72
         have qw78 : wfw.cell? ⟨fw, 78, none⟩ = some (.int .i64 (B.gi k 78)) := by rw [cell_of_row _ _ _ _ _ _ HFw.out]; simpa using cw78
         have qw79 : wfw.cell? ⟨fw, 79, none⟩ = some (.int .i64 (B.gi k 79)) := by rw [cell_of_row _ _ _ _ _ _ HFw.out]; simpa using cw79
         have qw80 : wfw.cell? ⟨fw, 80, none⟩ = some (.int .i64 (B.gi k 80)) := by rw [cell_of_row _ _ _ _ _ _ HFw.out]; simpa using cw80
         have qw81 : wfw.cell? ⟨fw, 81, none⟩ = some (.int .i64 (B.gi k 81)) := by rw [cell_of_row _ _ _ _ _ _ HFw.out]; simpa using cw81
         have qw86 : wfw.cell? ⟨fw, 86, none⟩ = some (.int .i64 (B.gi k 86)) := by rw [cell_of_row _ _ _ _ _ _ HFw.out]; simpa using cw86
         have qw6 : wfw.cell? ⟨fw, 6, none⟩ = some (.int .i64 (B.gi k 6)) := by rw [cell_of_row _ _ _ _ _ _ HFw.out]; simpa using cw6
         have qw7 : wfw.cell? ⟨fw, 7, none⟩ = some (.int .i64 (B.gi k 7)) := by rw [cell_of_row _ _ _ _ _ _ HFw.out]; simpa using cw7
         have qw8 : wfw.cell? ⟨fw, 8, none⟩ = some (.int .i64 (B.gi k 8)) := by rw [cell_of_row _ _ _ _ _ _ HFw.out]; simpa using cw8
         have qw9 : wfw.cell? ⟨fw, 9, none⟩ = some (.int .i64 (B.gi k 9)) := by rw [cell_of_row _ _ _ _ _ _ HFw.out]; simpa using cw9
         have qw10 : wfw.cell? ⟨fw, 10, none⟩ = some (.int .i64 (B.gi k 10)) := by rw [cell_of_row _ _ _ _ _ _ HFw.out]; simpa using cw10
         have qw11 : wfw.cell? ⟨fw, 11, none⟩ = some (.int .i64 (max 1 (B.gi k 11))) := by rw [cell_of_row _ _ _ _ _ _ HFw.out]; simpa using cw11
         have qw12 : wfw.cell? ⟨fw, 12, none⟩ = some (.int .i64 (B.gi k 12)) := by rw [cell_of_row _ _ _ _ _ _ HFw.out]; simpa using cw12
         have qw13 : wfw.cell? ⟨fw, 13, none⟩ = some (.int .i64 (B.gi k 13)) := by rw [cell_of_row _ _ _ _ _ _ HFw.out]; simpa using cw13
         have qw14 : wfw.cell? ⟨fw, 14, none⟩ = some (.int .i64 (B.gi k 14)) := by rw [cell_of_row _ _ _ _ _ _ HFw.out]; simpa using cw14
         have qw44 : wfw.cell? ⟨fw, 44, none⟩ = some (.bool (B.gb k 44)) := by rw [cell_of_row _ _ _ _ _ _ HFw.out]; simpa using cw44
         have RRw68 := Lib.hid (show wfw.rangeAt fw 68 [Value.int .u64 (B.gi k 68), Value.int .u32 (B.gi k 69), Value.int .u64 (B.gi k 70), Value.int .u16 (B.gi k 71), Value.int .u16 (B.gi k 72)] from (range_cons qw68 (range_cons qw69 (range_cons qw70 (range_cons qw71 (range_cons qw72 range_nil))))))
         have hMr := (E10.block _ (heap_lt HL_M.out)).trans HL_M.out
         have RM8 := Lib.hid (show wfw.rangeAt M 8 [Value.int .u64 (pI m.1 8), Value.int .u32 (pI m.1 9), Value.int .u64 (pI m.1 10), Value.int .u16 (pI m.1 11), Value.int .u16 (pI m.1 12)] from (range_cons ((cell_of_row _ _ 8 _ _ _ hMr).trans (by simpa using tyI m.2 8 rfl)) (range_cons ((cell_of_row _ _ 9 _ _ _ hMr).trans (by simpa using tyI m.2 9 rfl)) (range_cons ((cell_of_row _ _ 10 _ _ _ hMr).trans (by simpa using tyI m.2 10 rfl)) (range_cons ((cell_of_row _ _ 11 _ _ _ hMr).trans (by simpa using tyI m.2 11 rfl)) (range_cons ((cell_of_row _ _ 12 _ _ _ hMr).trans (by simpa using tyI m.2 12 rfl)) range_nil))))))
         clear hMr)
      | ((with_reducible refine at_load 28 ?_); refine wpList_load_mid rfl 28 _ rfl fw 68 rfl [Value.int .u64 (B.gi k 68), Value.int .u32 (B.gi k 69), Value.int .u64 (B.gi k 70), Value.int .u16 (B.gi k 71), Value.int .u16 (B.gi k 72)] _ RRw68.out Try.underlying28 rfl (by exact size_vec) ?_)
      | ((with_reducible refine at_load 28 ?_); refine wpList_load_mid rfl 28 _ rfl M 8 rfl [Value.int .u64 (pI m.1 8), Value.int .u32 (pI m.1 9), Value.int .u64 (pI m.1 10), Value.int .u16 (pI m.1 11), Value.int .u16 (pI m.1 12)] _ RM8.out Try.underlying28 rfl (by exact size_vec) ?_))
    refine (asb (ref_less _ _ _ _ _ _ _ _ _ _ _) HLS.out).mono ?_
    rintro e v11 ⟨rfl, hx⟩
    have E11 := Ext.trans E10 hx
    have H11x := Lib.hid (H10x.out.ext hx)
    have HFw := Lib.hid ((hx.block _ (heap_lt HFw.out)).trans HFw.out)
    clear hx E10 RM8 RRw68 qw68 qw69 qw70 qw71 qw72 qw78 qw79 qw80 qw81 qw86 qw6 qw7 qw8 qw9 qw10 qw11 qw12 qw13 qw14 qw44
    go_wp2_with fail
    have htm := ha2_tim (B := B) (k := k) (m := m) h89.out HTF.out
    have HTM := Lib.hid htm
    clear htm
    refine (inf_step _ (fun n => Nx ≤ n ∧ n < X + 1) X gx k (ha2 B k m) H11x.out okz9 (show k < Br.np (ha2 B k m) by rw [ha2_np]; exact hk) (show Br.np (ha2 B k m) < 1000 by have := hn8; simpa only [ha2_np] using this) HTM.out).mono ?_
    rw [ha_step h89.out]
    rintro e v12 ⟨he, hB, hm⟩
    obtain rfl : e = .returned (.bool true) := he
    have HFw := Lib.hid ((hm.heap (heap_lt HFw.out) (fun hh => by have h1 := hh.2; have h2 := HGw.out; omega)).trans HFw.out)
    have ok12 : Br.ok (haT B k m) := by
      have := infF_ok (B := (ha2 B k m)) (k := k) okz9 (show k < Br.np (ha2 B k m) by rw [ha2_np]; exact hk) HTM.out
      rw [ha_step h89.out] at this
      exact this
    have E12 := Ext.mutE E11 hm (fun n hn h1 => by have := h1.1; have := hsx.out; omega)
    clear E11
    have H12x := Lib.hid (show BrG _ (fun n => Nx ≤ n ∧ n < X + 1) X gx (haT B k m) from hB)
    clear hB hm
    cases ls
    · cases tl
      · obtain ⟨hXl, hgl, hne⟩ := H12x.out.lt
        obtain ⟨cap, c17, hca, hcb⟩ := H12x.out.cell17 ok12
        rw [show ((haT B k m)).np = B.np from haT_np] at c17 hca
        have hfr := H12x.out.frozen
        have hkc : k < Br.np (haT B k m) := (show k < Br.np (haT B k m) by rw [haT_np]; exact hk)
        have hrq0 := H12x.out.range (k := k) hkc
        have cq36 : (port (Br.ps (haT B k m)) k)[36]? = some (.bool false) := (port_at (B := (haT B k m)) (k := k) (j := 36) (by decide)).trans ((Br.ok.gb ok12 (k := k) hkc 36 rfl).trans (by rw [haIT_36 h89.out HLS.out HTL.out]))
        have cq68 : (port (Br.ps (haT B k m)) k)[68]? = some (.int .u64 (B.gi k 68)) := (port_at (B := (haT B k m)) (k := k) (j := 68) (by decide)).trans ((Br.ok.gi ok12 (k := k) hkc 68 rfl).trans (by rw [haIT_68 h89.out HLS.out HTL.out]))
        have cq69 : (port (Br.ps (haT B k m)) k)[69]? = some (.int .u32 (B.gi k 69)) := (port_at (B := (haT B k m)) (k := k) (j := 69) (by decide)).trans ((Br.ok.gi ok12 (k := k) hkc 69 rfl).trans (by rw [haIT_69 h89.out HLS.out HTL.out]))
        have cq70 : (port (Br.ps (haT B k m)) k)[70]? = some (.int .u64 (B.gi k 70)) := (port_at (B := (haT B k m)) (k := k) (j := 70) (by decide)).trans ((Br.ok.gi ok12 (k := k) hkc 70 rfl).trans (by rw [haIT_70 h89.out HLS.out HTL.out]))
        have cq71 : (port (Br.ps (haT B k m)) k)[71]? = some (.int .u16 (B.gi k 71)) := (port_at (B := (haT B k m)) (k := k) (j := 71) (by decide)).trans ((Br.ok.gi ok12 (k := k) hkc 71 rfl).trans (by rw [haIT_71 h89.out HLS.out HTL.out]))
        have cq72 : (port (Br.ps (haT B k m)) k)[72]? = some (.int .u16 (B.gi k 72)) := (port_at (B := (haT B k m)) (k := k) (j := 72) (by decide)).trans ((Br.ok.gi ok12 (k := k) hkc 72 rfl).trans (by rw [haIT_72 h89.out HLS.out HTL.out]))
        have cq78 : (port (Br.ps (haT B k m)) k)[78]? = some (.int .i64 (B.gi k 78)) := (port_at (B := (haT B k m)) (k := k) (j := 78) (by decide)).trans ((Br.ok.gi ok12 (k := k) hkc 78 rfl).trans (by rw [haIT_78 h89.out HLS.out HTL.out]))
        have cq79 : (port (Br.ps (haT B k m)) k)[79]? = some (.int .i64 (B.gi k 79)) := (port_at (B := (haT B k m)) (k := k) (j := 79) (by decide)).trans ((Br.ok.gi ok12 (k := k) hkc 79 rfl).trans (by rw [haIT_79 h89.out HLS.out HTL.out]))
        have cq80 : (port (Br.ps (haT B k m)) k)[80]? = some (.int .i64 (B.gi k 80)) := (port_at (B := (haT B k m)) (k := k) (j := 80) (by decide)).trans ((Br.ok.gi ok12 (k := k) hkc 80 rfl).trans (by rw [haIT_80 h89.out HLS.out HTL.out]))
        have cq81 : (port (Br.ps (haT B k m)) k)[81]? = some (.int .i64 (B.gi k 81)) := (port_at (B := (haT B k m)) (k := k) (j := 81) (by decide)).trans ((Br.ok.gi ok12 (k := k) hkc 81 rfl).trans (by rw [haIT_81 h89.out HLS.out HTL.out]))
        have cq86 : (port (Br.ps (haT B k m)) k)[86]? = some (.int .i64 (B.gi k 86)) := (port_at (B := (haT B k m)) (k := k) (j := 86) (by decide)).trans ((Br.ok.gi ok12 (k := k) hkc 86 rfl).trans (by rw [haIT_86 h89.out HLS.out HTL.out]))
        have cq6 : (port (Br.ps (haT B k m)) k)[6]? = some (.int .i64 (B.gi k 6)) := (port_at (B := (haT B k m)) (k := k) (j := 6) (by decide)).trans ((Br.ok.gi ok12 (k := k) hkc 6 rfl).trans (by rw [haIT_6 h89.out HLS.out HTL.out]))
        have cq7 : (port (Br.ps (haT B k m)) k)[7]? = some (.int .i64 (B.gi k 7)) := (port_at (B := (haT B k m)) (k := k) (j := 7) (by decide)).trans ((Br.ok.gi ok12 (k := k) hkc 7 rfl).trans (by rw [haIT_7 h89.out HLS.out HTL.out]))
        have cq8 : (port (Br.ps (haT B k m)) k)[8]? = some (.int .i64 (B.gi k 8)) := (port_at (B := (haT B k m)) (k := k) (j := 8) (by decide)).trans ((Br.ok.gi ok12 (k := k) hkc 8 rfl).trans (by rw [haIT_8 h89.out HLS.out HTL.out]))
        have cq9 : (port (Br.ps (haT B k m)) k)[9]? = some (.int .i64 (B.gi k 9)) := (port_at (B := (haT B k m)) (k := k) (j := 9) (by decide)).trans ((Br.ok.gi ok12 (k := k) hkc 9 rfl).trans (by rw [haIT_9 h89.out HLS.out HTL.out]))
        have cq10 : (port (Br.ps (haT B k m)) k)[10]? = some (.int .i64 (B.gi k 10)) := (port_at (B := (haT B k m)) (k := k) (j := 10) (by decide)).trans ((Br.ok.gi ok12 (k := k) hkc 10 rfl).trans (by rw [haIT_10 h89.out HLS.out HTL.out]))
        have cq11 : (port (Br.ps (haT B k m)) k)[11]? = some (.int .i64 (max 1 (B.gi k 11))) := (port_at (B := (haT B k m)) (k := k) (j := 11) (by decide)).trans ((Br.ok.gi ok12 (k := k) hkc 11 rfl).trans (by rw [haIT_11 h89.out HLS.out HTL.out]))
        have cq12 : (port (Br.ps (haT B k m)) k)[12]? = some (.int .i64 (B.gi k 12)) := (port_at (B := (haT B k m)) (k := k) (j := 12) (by decide)).trans ((Br.ok.gi ok12 (k := k) hkc 12 rfl).trans (by rw [haIT_12 h89.out HLS.out HTL.out]))
        have cq13 : (port (Br.ps (haT B k m)) k)[13]? = some (.int .i64 (B.gi k 13)) := (port_at (B := (haT B k m)) (k := k) (j := 13) (by decide)).trans ((Br.ok.gi ok12 (k := k) hkc 13 rfl).trans (by rw [haIT_13 h89.out HLS.out HTL.out]))
        have cq14 : (port (Br.ps (haT B k m)) k)[14]? = some (.int .i64 (B.gi k 14)) := (port_at (B := (haT B k m)) (k := k) (j := 14) (by decide)).trans ((Br.ok.gi ok12 (k := k) hkc 14 rfl).trans (by rw [haIT_14 h89.out HLS.out HTL.out]))
        have cq44 : (port (Br.ps (haT B k m)) k)[44]? = some (.bool (B.gb k 44)) := (port_at (B := (haT B k m)) (k := k) (j := 44) (by decide)).trans ((Br.ok.gb ok12 (k := k) hkc 44 rfl).trans (by rw [haIT_44 h89.out HLS.out HTL.out]))
        have hnq0 : (port (Br.ps (haT B k m)) k).length = 89 := (port_typed ok12 (i := k) hkc).1
        have hoq := Lib.hid (all_oneCell_toArray (port_typed ok12 (i := k) hkc).one)
        obtain ⟨pq, hpq⟩ : ∃ p, port (Br.ps (haT B k m)) k = p := ⟨_, rfl⟩
        rw [hpq] at hrq0 hnq0 hoq cq36 cq68 cq69 cq70 cq71 cq72 cq78 cq79 cq80 cq81 cq86 cq6 cq7 cq8 cq9 cq10 cq11 cq12 cq13 cq14 cq44
        clear hpq
        have hrq := Lib.hid hrq0
        clear hrq0
        have hiq := Lib.hid (show (Try.prog.info? 51).map (·.size) = some pq.length by rw [hnq0]; exact size_port)
        have hjq := Lib.hid (show (Try.prog.info? 51).map (·.size) = some pq.toArray.size by rw [List.size_toArray, hnq0]; exact size_port)
        have hsqz := Lib.hid (show PZ.size = pq.toArray.size by rw [List.size_toArray]; exact hnq0.symm)
        have hzq := zero_port
        clear hnq0
        clear hkc
        go_wp2_with (first
          | fail
          | ((with_reducible refine at_load 51 ?_); refine wpList_load_mid rfl 51 _ rfl gx (k * 89) rfl pq _ hrq.out Try.underlying51 rfl hiq.out ?_)
          | ((with_reducible refine at_store 51 ?_); refine wpList_store_new3 rfl rfl 51 _ _ _ rfl PZ pq.toArray _ rfl ?_ rfl hjq.out hsqz.out (by rw [Array.all_toList]; exact hoq.out) ?_; · rfl
             intro wfq hwf
             have HFw := Lib.hid (show wfq.heap[fw]? = some (.cells pw.toArray 51 (0, 0)) from by rw [hwf]; exact (heap_alloc_old _ _ (heap_lt HFw.out)).trans HFw.out)
             have hY := H12x.out.alloc (.cells pq.toArray 51)
             rw [← hwf] at hY
             have hE0 : Ext v12 wfq := by rw [hwf]; exact (Ext.refl _).alloc _
             have E13 := E12.trans hE0
             have hbx := heap_alloc_new v12 (.cells pq.toArray 51)
             rw [← hwf] at hbx
             have hxb := Lib.hid H12x.out.lt.1
             obtain ⟨fq, hfb⟩ : ∃ n, v12.heap.size = n := ⟨_, rfl⟩
             rw [hfb] at hbx hxb ⊢
             have HFq := Lib.hid hbx
             have HGq := hxb
             have H13x := Lib.hid hY
             clear hwf hY hbx hxb hfb hE0 E12 hzq
             have qw68 : wfq.cell? ⟨fw, 68, none⟩ = some (.int .u64 (B.gi k 68)) := by rw [cell_of_row _ _ _ _ _ _ HFw.out]; simpa using cw68
             have qw69 : wfq.cell? ⟨fw, 69, none⟩ = some (.int .u32 (B.gi k 69)) := by rw [cell_of_row _ _ _ _ _ _ HFw.out]; simpa using cw69
             have qw70 : wfq.cell? ⟨fw, 70, none⟩ = some (.int .u64 (B.gi k 70)) := by rw [cell_of_row _ _ _ _ _ _ HFw.out]; simpa using cw70
             have qw71 : wfq.cell? ⟨fw, 71, none⟩ = some (.int .u16 (B.gi k 71)) := by rw [cell_of_row _ _ _ _ _ _ HFw.out]; simpa using cw71
             have qw72 : wfq.cell? ⟨fw, 72, none⟩ = some (.int .u16 (B.gi k 72)) := by rw [cell_of_row _ _ _ _ _ _ HFw.out]; simpa using cw72
             have qw78 : wfq.cell? ⟨fw, 78, none⟩ = some (.int .i64 (B.gi k 78)) := by rw [cell_of_row _ _ _ _ _ _ HFw.out]; simpa using cw78
             have qw79 : wfq.cell? ⟨fw, 79, none⟩ = some (.int .i64 (B.gi k 79)) := by rw [cell_of_row _ _ _ _ _ _ HFw.out]; simpa using cw79
             have qw80 : wfq.cell? ⟨fw, 80, none⟩ = some (.int .i64 (B.gi k 80)) := by rw [cell_of_row _ _ _ _ _ _ HFw.out]; simpa using cw80
             have qw81 : wfq.cell? ⟨fw, 81, none⟩ = some (.int .i64 (B.gi k 81)) := by rw [cell_of_row _ _ _ _ _ _ HFw.out]; simpa using cw81
             have qw86 : wfq.cell? ⟨fw, 86, none⟩ = some (.int .i64 (B.gi k 86)) := by rw [cell_of_row _ _ _ _ _ _ HFw.out]; simpa using cw86
             have qw6 : wfq.cell? ⟨fw, 6, none⟩ = some (.int .i64 (B.gi k 6)) := by rw [cell_of_row _ _ _ _ _ _ HFw.out]; simpa using cw6
             have qw7 : wfq.cell? ⟨fw, 7, none⟩ = some (.int .i64 (B.gi k 7)) := by rw [cell_of_row _ _ _ _ _ _ HFw.out]; simpa using cw7
             have qw8 : wfq.cell? ⟨fw, 8, none⟩ = some (.int .i64 (B.gi k 8)) := by rw [cell_of_row _ _ _ _ _ _ HFw.out]; simpa using cw8
             have qw9 : wfq.cell? ⟨fw, 9, none⟩ = some (.int .i64 (B.gi k 9)) := by rw [cell_of_row _ _ _ _ _ _ HFw.out]; simpa using cw9
             have qw10 : wfq.cell? ⟨fw, 10, none⟩ = some (.int .i64 (B.gi k 10)) := by rw [cell_of_row _ _ _ _ _ _ HFw.out]; simpa using cw10
             have qw11 : wfq.cell? ⟨fw, 11, none⟩ = some (.int .i64 (max 1 (B.gi k 11))) := by rw [cell_of_row _ _ _ _ _ _ HFw.out]; simpa using cw11
             have qw12 : wfq.cell? ⟨fw, 12, none⟩ = some (.int .i64 (B.gi k 12)) := by rw [cell_of_row _ _ _ _ _ _ HFw.out]; simpa using cw12
             have qw13 : wfq.cell? ⟨fw, 13, none⟩ = some (.int .i64 (B.gi k 13)) := by rw [cell_of_row _ _ _ _ _ _ HFw.out]; simpa using cw13
             have qw14 : wfq.cell? ⟨fw, 14, none⟩ = some (.int .i64 (B.gi k 14)) := by rw [cell_of_row _ _ _ _ _ _ HFw.out]; simpa using cw14
             have qw44 : wfq.cell? ⟨fw, 44, none⟩ = some (.bool (B.gb k 44)) := by rw [cell_of_row _ _ _ _ _ _ HFw.out]; simpa using cw44
             have RRw68 := Lib.hid (show wfq.rangeAt fw 68 [Value.int .u64 (B.gi k 68), Value.int .u32 (B.gi k 69), Value.int .u64 (B.gi k 70), Value.int .u16 (B.gi k 71), Value.int .u16 (B.gi k 72)] from (range_cons qw68 (range_cons qw69 (range_cons qw70 (range_cons qw71 (range_cons qw72 range_nil))))))
             have hMr := (E13.block _ (heap_lt HL_M.out)).trans HL_M.out
             have RM8 := Lib.hid (show wfq.rangeAt M 8 [Value.int .u64 (pI m.1 8), Value.int .u32 (pI m.1 9), Value.int .u64 (pI m.1 10), Value.int .u16 (pI m.1 11), Value.int .u16 (pI m.1 12)] from (range_cons ((cell_of_row _ _ 8 _ _ _ hMr).trans (by simpa using tyI m.2 8 rfl)) (range_cons ((cell_of_row _ _ 9 _ _ _ hMr).trans (by simpa using tyI m.2 9 rfl)) (range_cons ((cell_of_row _ _ 10 _ _ _ hMr).trans (by simpa using tyI m.2 10 rfl)) (range_cons ((cell_of_row _ _ 11 _ _ _ hMr).trans (by simpa using tyI m.2 11 rfl)) (range_cons ((cell_of_row _ _ 12 _ _ _ hMr).trans (by simpa using tyI m.2 12 rfl)) range_nil))))))
             clear hMr)
          | ((with_reducible refine at_load 28 ?_); refine wpList_load_mid rfl 28 _ rfl fw 68 rfl [Value.int .u64 (B.gi k 68), Value.int .u32 (B.gi k 69), Value.int .u64 (B.gi k 70), Value.int .u16 (B.gi k 71), Value.int .u16 (B.gi k 72)] _ RRw68.out Try.underlying28 rfl (by exact size_vec) ?_)
          | ((with_reducible refine at_load 28 ?_); refine wpList_load_mid rfl 28 _ rfl M 8 rfl [Value.int .u64 (pI m.1 8), Value.int .u32 (pI m.1 9), Value.int .u64 (pI m.1 10), Value.int .u16 (pI m.1 11), Value.int .u16 (pI m.1 12)] _ RM8.out Try.underlying28 rfl (by exact size_vec) ?_))
        obtain ⟨w1, w2, w3, w4⟩ := HW.out
        refine (asb (ref_superior _ _ _ _ _ _ _ _ _ _ _ w1 w2 w3 w4) (show _ = false by rw [HLS.out, HTL.out]; rfl)).mono ?_
        rintro e v14 ⟨rfl, hx⟩
        have E14 := Ext.trans E13 hx
        have H14x := Lib.hid (H13x.out.ext hx)
        have HFw := Lib.hid ((hx.block _ (heap_lt HFw.out)).trans HFw.out)
        have HFq := Lib.hid ((hx.block _ (heap_lt HFq.out)).trans HFq.out)
        clear hx E13 RM8 RRw68 qw68 qw69 qw70 qw71 qw72 qw78 qw79 qw80 qw81 qw86 qw6 qw7 qw8 qw9 qw10 qw11 qw12 qw13 qw14 qw44
        have qq36 : v14.cell? ⟨fq, 36, none⟩ = some (.bool false) := by rw [cell_of_row _ _ _ _ _ _ HFq.out]; simpa using cq36
        have qq68 : v14.cell? ⟨fq, 68, none⟩ = some (.int .u64 (B.gi k 68)) := by rw [cell_of_row _ _ _ _ _ _ HFq.out]; simpa using cq68
        have qq69 : v14.cell? ⟨fq, 69, none⟩ = some (.int .u32 (B.gi k 69)) := by rw [cell_of_row _ _ _ _ _ _ HFq.out]; simpa using cq69
        have qq70 : v14.cell? ⟨fq, 70, none⟩ = some (.int .u64 (B.gi k 70)) := by rw [cell_of_row _ _ _ _ _ _ HFq.out]; simpa using cq70
        have qq71 : v14.cell? ⟨fq, 71, none⟩ = some (.int .u16 (B.gi k 71)) := by rw [cell_of_row _ _ _ _ _ _ HFq.out]; simpa using cq71
        have qq72 : v14.cell? ⟨fq, 72, none⟩ = some (.int .u16 (B.gi k 72)) := by rw [cell_of_row _ _ _ _ _ _ HFq.out]; simpa using cq72
        have qq78 : v14.cell? ⟨fq, 78, none⟩ = some (.int .i64 (B.gi k 78)) := by rw [cell_of_row _ _ _ _ _ _ HFq.out]; simpa using cq78
        have qq79 : v14.cell? ⟨fq, 79, none⟩ = some (.int .i64 (B.gi k 79)) := by rw [cell_of_row _ _ _ _ _ _ HFq.out]; simpa using cq79
        have qq80 : v14.cell? ⟨fq, 80, none⟩ = some (.int .i64 (B.gi k 80)) := by rw [cell_of_row _ _ _ _ _ _ HFq.out]; simpa using cq80
        have qq81 : v14.cell? ⟨fq, 81, none⟩ = some (.int .i64 (B.gi k 81)) := by rw [cell_of_row _ _ _ _ _ _ HFq.out]; simpa using cq81
        have qq86 : v14.cell? ⟨fq, 86, none⟩ = some (.int .i64 (B.gi k 86)) := by rw [cell_of_row _ _ _ _ _ _ HFq.out]; simpa using cq86
        have qq6 : v14.cell? ⟨fq, 6, none⟩ = some (.int .i64 (B.gi k 6)) := by rw [cell_of_row _ _ _ _ _ _ HFq.out]; simpa using cq6
        have qq7 : v14.cell? ⟨fq, 7, none⟩ = some (.int .i64 (B.gi k 7)) := by rw [cell_of_row _ _ _ _ _ _ HFq.out]; simpa using cq7
        have qq8 : v14.cell? ⟨fq, 8, none⟩ = some (.int .i64 (B.gi k 8)) := by rw [cell_of_row _ _ _ _ _ _ HFq.out]; simpa using cq8
        have qq9 : v14.cell? ⟨fq, 9, none⟩ = some (.int .i64 (B.gi k 9)) := by rw [cell_of_row _ _ _ _ _ _ HFq.out]; simpa using cq9
        have qq10 : v14.cell? ⟨fq, 10, none⟩ = some (.int .i64 (B.gi k 10)) := by rw [cell_of_row _ _ _ _ _ _ HFq.out]; simpa using cq10
        have qq11 : v14.cell? ⟨fq, 11, none⟩ = some (.int .i64 (max 1 (B.gi k 11))) := by rw [cell_of_row _ _ _ _ _ _ HFq.out]; simpa using cq11
        have qq12 : v14.cell? ⟨fq, 12, none⟩ = some (.int .i64 (B.gi k 12)) := by rw [cell_of_row _ _ _ _ _ _ HFq.out]; simpa using cq12
        have qq13 : v14.cell? ⟨fq, 13, none⟩ = some (.int .i64 (B.gi k 13)) := by rw [cell_of_row _ _ _ _ _ _ HFq.out]; simpa using cq13
        have qq14 : v14.cell? ⟨fq, 14, none⟩ = some (.int .i64 (B.gi k 14)) := by rw [cell_of_row _ _ _ _ _ _ HFq.out]; simpa using cq14
        have qq44 : v14.cell? ⟨fq, 44, none⟩ = some (.bool (B.gb k 44)) := by rw [cell_of_row _ _ _ _ _ _ HFq.out]; simpa using cq44
        have qw68 : v14.cell? ⟨fw, 68, none⟩ = some (.int .u64 (B.gi k 68)) := by rw [cell_of_row _ _ _ _ _ _ HFw.out]; simpa using cw68
        have qw69 : v14.cell? ⟨fw, 69, none⟩ = some (.int .u32 (B.gi k 69)) := by rw [cell_of_row _ _ _ _ _ _ HFw.out]; simpa using cw69
        have qw70 : v14.cell? ⟨fw, 70, none⟩ = some (.int .u64 (B.gi k 70)) := by rw [cell_of_row _ _ _ _ _ _ HFw.out]; simpa using cw70
        have qw71 : v14.cell? ⟨fw, 71, none⟩ = some (.int .u16 (B.gi k 71)) := by rw [cell_of_row _ _ _ _ _ _ HFw.out]; simpa using cw71
        have qw72 : v14.cell? ⟨fw, 72, none⟩ = some (.int .u16 (B.gi k 72)) := by rw [cell_of_row _ _ _ _ _ _ HFw.out]; simpa using cw72
        have qw78 : v14.cell? ⟨fw, 78, none⟩ = some (.int .i64 (B.gi k 78)) := by rw [cell_of_row _ _ _ _ _ _ HFw.out]; simpa using cw78
        have qw79 : v14.cell? ⟨fw, 79, none⟩ = some (.int .i64 (B.gi k 79)) := by rw [cell_of_row _ _ _ _ _ _ HFw.out]; simpa using cw79
        have qw80 : v14.cell? ⟨fw, 80, none⟩ = some (.int .i64 (B.gi k 80)) := by rw [cell_of_row _ _ _ _ _ _ HFw.out]; simpa using cw80
        have qw81 : v14.cell? ⟨fw, 81, none⟩ = some (.int .i64 (B.gi k 81)) := by rw [cell_of_row _ _ _ _ _ _ HFw.out]; simpa using cw81
        have qw86 : v14.cell? ⟨fw, 86, none⟩ = some (.int .i64 (B.gi k 86)) := by rw [cell_of_row _ _ _ _ _ _ HFw.out]; simpa using cw86
        have qw6 : v14.cell? ⟨fw, 6, none⟩ = some (.int .i64 (B.gi k 6)) := by rw [cell_of_row _ _ _ _ _ _ HFw.out]; simpa using cw6
        have qw7 : v14.cell? ⟨fw, 7, none⟩ = some (.int .i64 (B.gi k 7)) := by rw [cell_of_row _ _ _ _ _ _ HFw.out]; simpa using cw7
        have qw8 : v14.cell? ⟨fw, 8, none⟩ = some (.int .i64 (B.gi k 8)) := by rw [cell_of_row _ _ _ _ _ _ HFw.out]; simpa using cw8
        have qw9 : v14.cell? ⟨fw, 9, none⟩ = some (.int .i64 (B.gi k 9)) := by rw [cell_of_row _ _ _ _ _ _ HFw.out]; simpa using cw9
        have qw10 : v14.cell? ⟨fw, 10, none⟩ = some (.int .i64 (B.gi k 10)) := by rw [cell_of_row _ _ _ _ _ _ HFw.out]; simpa using cw10
        have qw11 : v14.cell? ⟨fw, 11, none⟩ = some (.int .i64 (max 1 (B.gi k 11))) := by rw [cell_of_row _ _ _ _ _ _ HFw.out]; simpa using cw11
        have qw12 : v14.cell? ⟨fw, 12, none⟩ = some (.int .i64 (B.gi k 12)) := by rw [cell_of_row _ _ _ _ _ _ HFw.out]; simpa using cw12
        have qw13 : v14.cell? ⟨fw, 13, none⟩ = some (.int .i64 (B.gi k 13)) := by rw [cell_of_row _ _ _ _ _ _ HFw.out]; simpa using cw13
        have qw14 : v14.cell? ⟨fw, 14, none⟩ = some (.int .i64 (B.gi k 14)) := by rw [cell_of_row _ _ _ _ _ _ HFw.out]; simpa using cw14
        have qw44 : v14.cell? ⟨fw, 44, none⟩ = some (.bool (B.gb k 44)) := by rw [cell_of_row _ _ _ _ _ _ HFw.out]; simpa using cw44
        have RRq68 := Lib.hid (show v14.rangeAt fq 68 [Value.int .u64 (B.gi k 68), Value.int .u32 (B.gi k 69), Value.int .u64 (B.gi k 70), Value.int .u16 (B.gi k 71), Value.int .u16 (B.gi k 72)] from (range_cons qq68 (range_cons qq69 (range_cons qq70 (range_cons qq71 (range_cons qq72 range_nil))))))
        have RRw68 := Lib.hid (show v14.rangeAt fw 68 [Value.int .u64 (B.gi k 68), Value.int .u32 (B.gi k 69), Value.int .u64 (B.gi k 70), Value.int .u16 (B.gi k 71), Value.int .u16 (B.gi k 72)] from (range_cons qw68 (range_cons qw69 (range_cons qw70 (range_cons qw71 (range_cons qw72 range_nil))))))
        have RRq78 := Lib.hid (show v14.rangeAt fq 78 [Value.int .i64 (B.gi k 78), Value.int .i64 (B.gi k 79), Value.int .i64 (B.gi k 80), Value.int .i64 (B.gi k 81)] from (range_cons qq78 (range_cons qq79 (range_cons qq80 (range_cons qq81 range_nil)))))
        have RRw78 := Lib.hid (show v14.rangeAt fw 78 [Value.int .i64 (B.gi k 78), Value.int .i64 (B.gi k 79), Value.int .i64 (B.gi k 80), Value.int .i64 (B.gi k 81)] from (range_cons qw78 (range_cons qw79 (range_cons qw80 (range_cons qw81 range_nil)))))
        have RRq6 := Lib.hid (show v14.rangeAt fq 6 [Value.int .i64 (B.gi k 6), Value.int .i64 (B.gi k 7), Value.int .i64 (B.gi k 8), Value.int .i64 (B.gi k 9), Value.int .i64 (B.gi k 10), Value.int .i64 (max 1 (B.gi k 11)), Value.int .i64 (B.gi k 12), Value.int .i64 (B.gi k 13), Value.int .i64 (B.gi k 14)] from (range_cons qq6 (range_cons qq7 (range_cons qq8 (range_cons qq9 (range_cons qq10 (range_cons qq11 (range_cons qq12 (range_cons qq13 (range_cons qq14 range_nil))))))))))
        have RRw6 := Lib.hid (show v14.rangeAt fw 6 [Value.int .i64 (B.gi k 6), Value.int .i64 (B.gi k 7), Value.int .i64 (B.gi k 8), Value.int .i64 (B.gi k 9), Value.int .i64 (B.gi k 10), Value.int .i64 (max 1 (B.gi k 11)), Value.int .i64 (B.gi k 12), Value.int .i64 (B.gi k 13), Value.int .i64 (B.gi k 14)] from (range_cons qw6 (range_cons qw7 (range_cons qw8 (range_cons qw9 (range_cons qw10 (range_cons qw11 (range_cons qw12 (range_cons qw13 (range_cons qw14 range_nil))))))))))
        go_wp2_with (first
          | fail
          | ((with_reducible refine at_loadG 28 ?_); refine wpList_load_midG rfl 28 _ rfl fq 68 rfl [Value.int .u64 (B.gi k 68), Value.int .u32 (B.gi k 69), Value.int .u64 (B.gi k 70), Value.int .u16 (B.gi k 71), Value.int .u16 (B.gi k 72)] _ RRq68.out Try.underlying28 rfl (by exact size_vec) ?_)
          | ((with_reducible refine at_loadG 28 ?_); refine wpList_load_midG rfl 28 _ rfl fw 68 rfl [Value.int .u64 (B.gi k 68), Value.int .u32 (B.gi k 69), Value.int .u64 (B.gi k 70), Value.int .u16 (B.gi k 71), Value.int .u16 (B.gi k 72)] _ RRw68.out Try.underlying28 rfl (by exact size_vec) ?_)
          | ((with_reducible refine at_loadG 24 ?_); refine wpList_load_midG rfl 24 _ rfl fq 78 rfl [Value.int .i64 (B.gi k 78), Value.int .i64 (B.gi k 79), Value.int .i64 (B.gi k 80), Value.int .i64 (B.gi k 81)] _ RRq78.out Try.underlying24 rfl (by exact size_times) ?_)
          | ((with_reducible refine at_loadG 24 ?_); refine wpList_load_midG rfl 24 _ rfl fw 78 rfl [Value.int .i64 (B.gi k 78), Value.int .i64 (B.gi k 79), Value.int .i64 (B.gi k 80), Value.int .i64 (B.gi k 81)] _ RRw78.out Try.underlying24 rfl (by exact size_times) ?_)
          | ((with_reducible refine at_loadG 43 ?_); refine wpList_load_midG rfl 43 _ rfl fq 6 rfl [Value.int .i64 (B.gi k 6), Value.int .i64 (B.gi k 7), Value.int .i64 (B.gi k 8), Value.int .i64 (B.gi k 9), Value.int .i64 (B.gi k 10), Value.int .i64 (max 1 (B.gi k 11)), Value.int .i64 (B.gi k 12), Value.int .i64 (B.gi k 13), Value.int .i64 (B.gi k 14)] _ RRq6.out Try.underlying43 rfl (by exact size_clocks) ?_)
          | ((with_reducible refine at_loadG 43 ?_); refine wpList_load_midG rfl 43 _ rfl fw 6 rfl [Value.int .i64 (B.gi k 6), Value.int .i64 (B.gi k 7), Value.int .i64 (B.gi k 8), Value.int .i64 (B.gi k 9), Value.int .i64 (B.gi k 10), Value.int .i64 (max 1 (B.gi k 11)), Value.int .i64 (B.gi k 12), Value.int .i64 (B.gi k 13), Value.int .i64 (B.gi k 14)] _ RRw6.out Try.underlying43 rfl (by exact size_clocks) ?_))
        all_goals
          go_ret
          exact ⟨rfl, HE0.out.trans E14⟩
      · obtain ⟨hXl, hgl, hne⟩ := H12x.out.lt
        obtain ⟨cap, c17, hca, hcb⟩ := H12x.out.cell17 ok12
        rw [show ((haT B k m)).np = B.np from haT_np] at c17 hca
        have hfr := H12x.out.frozen
        have hkc : k < Br.np (haT B k m) := (show k < Br.np (haT B k m) by rw [haT_np]; exact hk)
        have hrq0 := H12x.out.range (k := k) hkc
        have cq11 : (port (Br.ps (haT B k m)) k)[11]? = some (.int .i64 (waitsV (pI m.1 13) (pI m.1 14) (pI m.1 15))) := (port_at (B := (haT B k m)) (k := k) (j := 11) (by decide)).trans ((Br.ok.gi ok12 (k := k) hkc 11 rfl).trans (by rw [haST_11 h89.out HTL.out]))
        have cq36 : (port (Br.ps (haT B k m)) k)[36]? = some (.bool false) := (port_at (B := (haT B k m)) (k := k) (j := 36) (by decide)).trans ((Br.ok.gb ok12 (k := k) hkc 36 rfl).trans (by rw [haST_36 h89.out HTL.out]))
        have hnq0 : (port (Br.ps (haT B k m)) k).length = 89 := (port_typed ok12 (i := k) hkc).1
        have hoq := Lib.hid (all_oneCell_toArray (port_typed ok12 (i := k) hkc).one)
        obtain ⟨pq, hpq⟩ : ∃ p, port (Br.ps (haT B k m)) k = p := ⟨_, rfl⟩
        rw [hpq] at hrq0 hnq0 hoq cq11 cq36
        clear hpq
        have hrq := Lib.hid hrq0
        clear hrq0
        have hiq := Lib.hid (show (Try.prog.info? 51).map (·.size) = some pq.length by rw [hnq0]; exact size_port)
        have hjq := Lib.hid (show (Try.prog.info? 51).map (·.size) = some pq.toArray.size by rw [List.size_toArray, hnq0]; exact size_port)
        have hsqz := Lib.hid (show PZ.size = pq.toArray.size by rw [List.size_toArray]; exact hnq0.symm)
        have hzq := zero_port
        clear hnq0
        clear hkc
        go_wp2_with (first
          | fail
          | ((with_reducible refine at_load 51 ?_); refine wpList_load_mid rfl 51 _ rfl gx (k * 89) rfl pq _ hrq.out Try.underlying51 rfl hiq.out ?_)
          | ((with_reducible refine at_store 51 ?_); refine wpList_store_new3 rfl rfl 51 _ _ _ rfl PZ pq.toArray _ rfl ?_ rfl hjq.out hsqz.out (by rw [Array.all_toList]; exact hoq.out) ?_; · rfl
             intro wfq hwf
             have HFw := Lib.hid (show wfq.heap[fw]? = some (.cells pw.toArray 51 (0, 0)) from by rw [hwf]; exact (heap_alloc_old _ _ (heap_lt HFw.out)).trans HFw.out)
             have hY := H12x.out.alloc (.cells pq.toArray 51)
             rw [← hwf] at hY
             have hE0 : Ext v12 wfq := by rw [hwf]; exact (Ext.refl _).alloc _
             have E15 := E12.trans hE0
             have hbx := heap_alloc_new v12 (.cells pq.toArray 51)
             rw [← hwf] at hbx
             have hxb := Lib.hid H12x.out.lt.1
             obtain ⟨fq, hfb⟩ : ∃ n, v12.heap.size = n := ⟨_, rfl⟩
             rw [hfb] at hbx hxb ⊢
             have HFq := Lib.hid hbx
             have HGq := hxb
             have H15x := Lib.hid hY
             clear hwf hY hbx hxb hfb hE0 E12 hzq
             have qw68 : wfq.cell? ⟨fw, 68, none⟩ = some (.int .u64 (B.gi k 68)) := by rw [cell_of_row _ _ _ _ _ _ HFw.out]; simpa using cw68
             have qw69 : wfq.cell? ⟨fw, 69, none⟩ = some (.int .u32 (B.gi k 69)) := by rw [cell_of_row _ _ _ _ _ _ HFw.out]; simpa using cw69
             have qw70 : wfq.cell? ⟨fw, 70, none⟩ = some (.int .u64 (B.gi k 70)) := by rw [cell_of_row _ _ _ _ _ _ HFw.out]; simpa using cw70
             have qw71 : wfq.cell? ⟨fw, 71, none⟩ = some (.int .u16 (B.gi k 71)) := by rw [cell_of_row _ _ _ _ _ _ HFw.out]; simpa using cw71
             have qw72 : wfq.cell? ⟨fw, 72, none⟩ = some (.int .u16 (B.gi k 72)) := by rw [cell_of_row _ _ _ _ _ _ HFw.out]; simpa using cw72
             have qw78 : wfq.cell? ⟨fw, 78, none⟩ = some (.int .i64 (B.gi k 78)) := by rw [cell_of_row _ _ _ _ _ _ HFw.out]; simpa using cw78
             have qw79 : wfq.cell? ⟨fw, 79, none⟩ = some (.int .i64 (B.gi k 79)) := by rw [cell_of_row _ _ _ _ _ _ HFw.out]; simpa using cw79
             have qw80 : wfq.cell? ⟨fw, 80, none⟩ = some (.int .i64 (B.gi k 80)) := by rw [cell_of_row _ _ _ _ _ _ HFw.out]; simpa using cw80
             have qw81 : wfq.cell? ⟨fw, 81, none⟩ = some (.int .i64 (B.gi k 81)) := by rw [cell_of_row _ _ _ _ _ _ HFw.out]; simpa using cw81
             have qw86 : wfq.cell? ⟨fw, 86, none⟩ = some (.int .i64 (B.gi k 86)) := by rw [cell_of_row _ _ _ _ _ _ HFw.out]; simpa using cw86
             have qw6 : wfq.cell? ⟨fw, 6, none⟩ = some (.int .i64 (B.gi k 6)) := by rw [cell_of_row _ _ _ _ _ _ HFw.out]; simpa using cw6
             have qw7 : wfq.cell? ⟨fw, 7, none⟩ = some (.int .i64 (B.gi k 7)) := by rw [cell_of_row _ _ _ _ _ _ HFw.out]; simpa using cw7
             have qw8 : wfq.cell? ⟨fw, 8, none⟩ = some (.int .i64 (B.gi k 8)) := by rw [cell_of_row _ _ _ _ _ _ HFw.out]; simpa using cw8
             have qw9 : wfq.cell? ⟨fw, 9, none⟩ = some (.int .i64 (B.gi k 9)) := by rw [cell_of_row _ _ _ _ _ _ HFw.out]; simpa using cw9
             have qw10 : wfq.cell? ⟨fw, 10, none⟩ = some (.int .i64 (B.gi k 10)) := by rw [cell_of_row _ _ _ _ _ _ HFw.out]; simpa using cw10
             have qw11 : wfq.cell? ⟨fw, 11, none⟩ = some (.int .i64 (max 1 (B.gi k 11))) := by rw [cell_of_row _ _ _ _ _ _ HFw.out]; simpa using cw11
             have qw12 : wfq.cell? ⟨fw, 12, none⟩ = some (.int .i64 (B.gi k 12)) := by rw [cell_of_row _ _ _ _ _ _ HFw.out]; simpa using cw12
             have qw13 : wfq.cell? ⟨fw, 13, none⟩ = some (.int .i64 (B.gi k 13)) := by rw [cell_of_row _ _ _ _ _ _ HFw.out]; simpa using cw13
             have qw14 : wfq.cell? ⟨fw, 14, none⟩ = some (.int .i64 (B.gi k 14)) := by rw [cell_of_row _ _ _ _ _ _ HFw.out]; simpa using cw14
             have qw44 : wfq.cell? ⟨fw, 44, none⟩ = some (.bool (B.gb k 44)) := by rw [cell_of_row _ _ _ _ _ _ HFw.out]; simpa using cw44
             have RRw68 := Lib.hid (show wfq.rangeAt fw 68 [Value.int .u64 (B.gi k 68), Value.int .u32 (B.gi k 69), Value.int .u64 (B.gi k 70), Value.int .u16 (B.gi k 71), Value.int .u16 (B.gi k 72)] from (range_cons qw68 (range_cons qw69 (range_cons qw70 (range_cons qw71 (range_cons qw72 range_nil))))))
             have hMr := (E15.block _ (heap_lt HL_M.out)).trans HL_M.out
             have RM8 := Lib.hid (show wfq.rangeAt M 8 [Value.int .u64 (pI m.1 8), Value.int .u32 (pI m.1 9), Value.int .u64 (pI m.1 10), Value.int .u16 (pI m.1 11), Value.int .u16 (pI m.1 12)] from (range_cons ((cell_of_row _ _ 8 _ _ _ hMr).trans (by simpa using tyI m.2 8 rfl)) (range_cons ((cell_of_row _ _ 9 _ _ _ hMr).trans (by simpa using tyI m.2 9 rfl)) (range_cons ((cell_of_row _ _ 10 _ _ _ hMr).trans (by simpa using tyI m.2 10 rfl)) (range_cons ((cell_of_row _ _ 11 _ _ _ hMr).trans (by simpa using tyI m.2 11 rfl)) (range_cons ((cell_of_row _ _ 12 _ _ _ hMr).trans (by simpa using tyI m.2 12 rfl)) range_nil))))))
             clear hMr)
          | ((with_reducible refine at_load 28 ?_); refine wpList_load_mid rfl 28 _ rfl fw 68 rfl [Value.int .u64 (B.gi k 68), Value.int .u32 (B.gi k 69), Value.int .u64 (B.gi k 70), Value.int .u16 (B.gi k 71), Value.int .u16 (B.gi k 72)] _ RRw68.out Try.underlying28 rfl (by exact size_vec) ?_)
          | ((with_reducible refine at_load 28 ?_); refine wpList_load_mid rfl 28 _ rfl M 8 rfl [Value.int .u64 (pI m.1 8), Value.int .u32 (pI m.1 9), Value.int .u64 (pI m.1 10), Value.int .u16 (pI m.1 11), Value.int .u16 (pI m.1 12)] _ RM8.out Try.underlying28 rfl (by exact size_vec) ?_))
        obtain ⟨w1, w2, w3, w4⟩ := HW.out
        refine (asb (ref_superior _ _ _ _ _ _ _ _ _ _ _ w1 w2 w3 w4) (show _ = true by rw [HLS.out, HTL.out]; rfl)).mono ?_
        rintro e v16 ⟨rfl, hx⟩
        have E16 := Ext.trans E15 hx
        have H16x := Lib.hid (H15x.out.ext hx)
        have HFw := Lib.hid ((hx.block _ (heap_lt HFw.out)).trans HFw.out)
        have HFq := Lib.hid ((hx.block _ (heap_lt HFq.out)).trans HFq.out)
        clear hx E15 RM8 RRw68 qw68 qw69 qw70 qw71 qw72 qw78 qw79 qw80 qw81 qw86 qw6 qw7 qw8 qw9 qw10 qw11 qw12 qw13 qw14 qw44
        go_wp2_with fail
        have hMr := (E16.block _ (heap_lt HL_M.out)).trans HL_M.out
        have RM13 := Lib.hid (show v16.rangeAt M 13 [Value.int .i64 (pI m.1 13), Value.int .i64 (pI m.1 14), Value.int .i64 (pI m.1 15), Value.int .i64 (pI m.1 16)] from (range_cons ((cell_of_row _ _ 13 _ _ _ hMr).trans (by simpa using tyI m.2 13 rfl)) (range_cons ((cell_of_row _ _ 14 _ _ _ hMr).trans (by simpa using tyI m.2 14 rfl)) (range_cons ((cell_of_row _ _ 15 _ _ _ hMr).trans (by simpa using tyI m.2 15 rfl)) (range_cons ((cell_of_row _ _ 16 _ _ _ hMr).trans (by simpa using tyI m.2 16 rfl)) range_nil)))))
        clear hMr
        have hMl : M < v16.heap.size := Nat.lt_of_lt_of_le (heap_lt HL_M.out) E16.size
        obtain ⟨r1, r2, r3, r4, r5, r6, -, -⟩ := HTF.out
        have qw68 : v16.cell? ⟨fw, 68, none⟩ = some (.int .u64 (B.gi k 68)) := by rw [cell_of_row _ _ _ _ _ _ HFw.out]; simpa using cw68
        have qw69 : v16.cell? ⟨fw, 69, none⟩ = some (.int .u32 (B.gi k 69)) := by rw [cell_of_row _ _ _ _ _ _ HFw.out]; simpa using cw69
        have qw70 : v16.cell? ⟨fw, 70, none⟩ = some (.int .u64 (B.gi k 70)) := by rw [cell_of_row _ _ _ _ _ _ HFw.out]; simpa using cw70
        have qw71 : v16.cell? ⟨fw, 71, none⟩ = some (.int .u16 (B.gi k 71)) := by rw [cell_of_row _ _ _ _ _ _ HFw.out]; simpa using cw71
        have qw72 : v16.cell? ⟨fw, 72, none⟩ = some (.int .u16 (B.gi k 72)) := by rw [cell_of_row _ _ _ _ _ _ HFw.out]; simpa using cw72
        have qw78 : v16.cell? ⟨fw, 78, none⟩ = some (.int .i64 (B.gi k 78)) := by rw [cell_of_row _ _ _ _ _ _ HFw.out]; simpa using cw78
        have qw79 : v16.cell? ⟨fw, 79, none⟩ = some (.int .i64 (B.gi k 79)) := by rw [cell_of_row _ _ _ _ _ _ HFw.out]; simpa using cw79
        have qw80 : v16.cell? ⟨fw, 80, none⟩ = some (.int .i64 (B.gi k 80)) := by rw [cell_of_row _ _ _ _ _ _ HFw.out]; simpa using cw80
        have qw81 : v16.cell? ⟨fw, 81, none⟩ = some (.int .i64 (B.gi k 81)) := by rw [cell_of_row _ _ _ _ _ _ HFw.out]; simpa using cw81
        have qw86 : v16.cell? ⟨fw, 86, none⟩ = some (.int .i64 (B.gi k 86)) := by rw [cell_of_row _ _ _ _ _ _ HFw.out]; simpa using cw86
        have qw6 : v16.cell? ⟨fw, 6, none⟩ = some (.int .i64 (B.gi k 6)) := by rw [cell_of_row _ _ _ _ _ _ HFw.out]; simpa using cw6
        have qw7 : v16.cell? ⟨fw, 7, none⟩ = some (.int .i64 (B.gi k 7)) := by rw [cell_of_row _ _ _ _ _ _ HFw.out]; simpa using cw7
        have qw8 : v16.cell? ⟨fw, 8, none⟩ = some (.int .i64 (B.gi k 8)) := by rw [cell_of_row _ _ _ _ _ _ HFw.out]; simpa using cw8
        have qw9 : v16.cell? ⟨fw, 9, none⟩ = some (.int .i64 (B.gi k 9)) := by rw [cell_of_row _ _ _ _ _ _ HFw.out]; simpa using cw9
        have qw10 : v16.cell? ⟨fw, 10, none⟩ = some (.int .i64 (B.gi k 10)) := by rw [cell_of_row _ _ _ _ _ _ HFw.out]; simpa using cw10
        have qw11 : v16.cell? ⟨fw, 11, none⟩ = some (.int .i64 (max 1 (B.gi k 11))) := by rw [cell_of_row _ _ _ _ _ _ HFw.out]; simpa using cw11
        have qw12 : v16.cell? ⟨fw, 12, none⟩ = some (.int .i64 (B.gi k 12)) := by rw [cell_of_row _ _ _ _ _ _ HFw.out]; simpa using cw12
        have qw13 : v16.cell? ⟨fw, 13, none⟩ = some (.int .i64 (B.gi k 13)) := by rw [cell_of_row _ _ _ _ _ _ HFw.out]; simpa using cw13
        have qw14 : v16.cell? ⟨fw, 14, none⟩ = some (.int .i64 (B.gi k 14)) := by rw [cell_of_row _ _ _ _ _ _ HFw.out]; simpa using cw14
        have qw44 : v16.cell? ⟨fw, 44, none⟩ = some (.bool (B.gb k 44)) := by rw [cell_of_row _ _ _ _ _ _ HFw.out]; simpa using cw44
        have qq11 : v16.cell? ⟨fq, 11, none⟩ = some (.int .i64 (waitsV (pI m.1 13) (pI m.1 14) (pI m.1 15))) := by rw [cell_of_row _ _ _ _ _ _ HFq.out]; simpa using cq11
        have qq36 : v16.cell? ⟨fq, 36, none⟩ = some (.bool false) := by rw [cell_of_row _ _ _ _ _ _ HFq.out]; simpa using cq36
        have hltw : fw < v16.heap.size := heap_lt HFw.out
        have hltq : fq < v16.heap.size := heap_lt HFq.out
        refine beginL (S := fun W' => Ext v16 W') (by kernel_rfl) ?_
        intro wd hqx
        have hq0 : Ext v16 wd := hqx
        refine takeL (i := 0) (v := (.bool true)) rfl (by kernel_rfl) (by kernel_rfl) (by kernel_rfl) (fun _ _ _ h => h) (Or.inl ⟨rfl, fun _ _ => rfl⟩) hq0 ?_
        simp only [Act.put, List.setIfInBounds_toArray, List.set_cons_zero, List.set_cons_succ]
        refine takeL (i := 1) (v := (.bool true)) rfl (by kernel_rfl) (by kernel_rfl) (by kernel_rfl) (fun _ _ _ h => h) (Or.inl ⟨rfl, fun _ _ => rfl⟩) hq0 ?_
        simp only [Act.put, List.setIfInBounds_toArray, List.set_cons_zero, List.set_cons_succ]
        refine takeL (i := 2) (v := (.bool true)) rfl (by kernel_rfl) (by kernel_rfl) (by kernel_rfl) (fun _ _ _ h => h) (Or.inl ⟨rfl, fun _ _ => rfl⟩) hq0 ?_
        simp only [Act.put, List.setIfInBounds_toArray, List.set_cons_zero, List.set_cons_succ]
        refine takeL (i := 3) (v := (.bool true)) rfl (by kernel_rfl) (by kernel_rfl) (by kernel_rfl) (fun _ _ _ h => h) (Or.inl ⟨rfl, fun _ _ => rfl⟩) hq0 ?_
        simp only [Act.put, List.setIfInBounds_toArray, List.set_cons_zero, List.set_cons_succ]
        refine takeL (i := 4) (v := (.bool true)) rfl (by kernel_rfl) (by kernel_rfl) (by kernel_rfl) (fun _ _ _ h => h) (Or.inl ⟨rfl, fun _ _ => rfl⟩) hq0 ?_
        simp only [Act.put, List.setIfInBounds_toArray, List.set_cons_zero, List.set_cons_succ]
        refine takeL (i := 5) (v := (.pointer (some ⟨fq, 22, none⟩))) rfl (by kernel_rfl) (by kernel_rfl) (by kernel_rfl) (fun _ _ _ h => h) (Or.inl ⟨rfl, fun _ _ => rfl⟩) hq0 ?_
        simp only [Act.put, List.setIfInBounds_toArray, List.set_cons_zero, List.set_cons_succ]
        refine takeL (i := 6) (v := (.pointer (some ⟨fq, 36, none⟩))) rfl (by kernel_rfl) (by kernel_rfl) (by kernel_rfl) (fun _ _ _ h => h) (Or.inl ⟨rfl, fun _ _ => rfl⟩) hq0 ?_
        simp only [Act.put, List.setIfInBounds_toArray, List.set_cons_zero, List.set_cons_succ]
        refine takeL (i := 7) (v := _) rfl (by kernel_rfl) (by kernel_rfl) (by kernel_rfl) (fun _ _ _ h => h) (yieldsIf_cell rfl 4 _ rfl ⟨fq, 36, none⟩ rfl (.bool false) _ (fun W' hW' => (hW'.cell (p := ⟨fq, 36, none⟩) hltq).trans qq36) Try.underlying4 rfl) hq0 ?_
        simp only [Act.put, List.setIfInBounds_toArray, List.set_cons_zero, List.set_cons_succ]
        refine takeL (i := 8) (v := (.bool true)) rfl (by kernel_rfl) (by kernel_rfl) (by kernel_rfl) (fun _ _ _ h => h) (Or.inl ⟨rfl, fun _ _ => rfl⟩) hq0 ?_
        simp only [Act.put, List.setIfInBounds_toArray, List.set_cons_zero, List.set_cons_succ]
        refine takeL (i := 9) (v := (.bool true)) rfl (by kernel_rfl) (by kernel_rfl) (by kernel_rfl) (fun _ _ _ h => h) (Or.inl ⟨rfl, fun _ _ => rfl⟩) hq0 ?_
        simp only [Act.put, List.setIfInBounds_toArray, List.set_cons_zero, List.set_cons_succ]
        refine takeL (i := 10) (v := (.bool true)) rfl (by kernel_rfl) (by kernel_rfl) (by kernel_rfl) (fun _ _ _ h => h) (Or.inl ⟨rfl, fun _ _ => rfl⟩) hq0 ?_
        simp only [Act.put, List.setIfInBounds_toArray, List.set_cons_zero, List.set_cons_succ]
        refine takeL (i := 11) (v := (.pointer (some ⟨fq, 6, none⟩))) rfl (by kernel_rfl) (by kernel_rfl) (by kernel_rfl) (fun _ _ _ h => h) (Or.inl ⟨rfl, fun _ _ => rfl⟩) hq0 ?_
        simp only [Act.put, List.setIfInBounds_toArray, List.set_cons_zero, List.set_cons_succ]
        refine takeL (i := 12) (v := (.pointer (some ⟨fq, 11, none⟩))) rfl (by kernel_rfl) (by kernel_rfl) (by kernel_rfl) (fun _ _ _ h => h) (Or.inl ⟨rfl, fun _ _ => rfl⟩) hq0 ?_
        simp only [Act.put, List.setIfInBounds_toArray, List.set_cons_zero, List.set_cons_succ]
        refine takeL (i := 13) (v := _) rfl (by kernel_rfl) (by kernel_rfl) (by kernel_rfl) (fun _ _ _ h => h) (yieldsIf_cell rfl 3 _ rfl ⟨fq, 11, none⟩ rfl (.int .i64 (waitsV (pI m.1 13) (pI m.1 14) (pI m.1 15))) _ (fun W' hW' => (hW'.cell (p := ⟨fq, 11, none⟩) hltq).trans qq11) Try.underlying3 rfl) hq0 ?_
        simp only [Act.put, List.setIfInBounds_toArray, List.set_cons_zero, List.set_cons_succ]
        refine takeL (i := 14) (v := (.pointer (some ⟨M, 13, none⟩))) rfl (by kernel_rfl) (by kernel_rfl) (by kernel_rfl) (fun _ _ _ h => h) (Or.inl ⟨rfl, fun _ _ => rfl⟩) hq0 ?_
        simp only [Act.put, List.setIfInBounds_toArray, List.set_cons_zero, List.set_cons_succ]
        refine takeL (i := 15) (v := _) rfl (by kernel_rfl) (by kernel_rfl) (by kernel_rfl) (fun _ _ _ h => h) (yieldsIf_load_mid rfl 24 _ rfl M (13) rfl ([Value.int .i64 (pI m.1 13), Value.int .i64 (pI m.1 14), Value.int .i64 (pI m.1 15), Value.int .i64 (pI m.1 16)]) _ (fun W' hW' => rangeAt_ext RM13.out hW' hMl) Try.underlying24 rfl (by exact size_times)) hq0 ?_
        simp only [Act.put, List.setIfInBounds_toArray, List.set_cons_zero, List.set_cons_succ]
        refine runG (i := 16) rfl (by rfl) (by kernel_rfl) (fun K hK => ?_)
        go_simp
        refine (ref_waits _ _ _ _ _ r1 r2 r3 r4 r5 r6).mono ?_
        rintro e wc1 ⟨rfl, hx⟩
        have hq1 := hq0.trans hx
        refine hK.out _ _ hq1 (fun hHeld => ?_)
        try simp only [Act.put, List.setIfInBounds_toArray, List.set_cons_zero, List.set_cons_succ]
        clear hK K hHeld
        refine takeL (i := 17) (v := (.bool true)) rfl (by kernel_rfl) (by kernel_rfl) (by kernel_rfl) (fun _ _ _ h => h) (Or.inl ⟨rfl, fun W' _ => by go_simp⟩) hq1 ?_
        simp only [Act.put, List.setIfInBounds_toArray, List.set_cons_zero, List.set_cons_succ]
        refine takeL (i := 18) (v := (.bool true)) rfl (by kernel_rfl) (by kernel_rfl) (by kernel_rfl) (fun _ _ _ h => h) (Or.inl ⟨rfl, fun _ _ => rfl⟩) hq1 ?_
        simp only [Act.put, List.setIfInBounds_toArray, List.set_cons_zero, List.set_cons_succ]
        refine takeL (i := 19) (v := (.bool true)) rfl (by kernel_rfl) (by kernel_rfl) (by kernel_rfl) (fun _ _ _ h => h) (Or.inl ⟨rfl, fun _ _ => rfl⟩) hq1 ?_
        simp only [Act.put, List.setIfInBounds_toArray, List.set_cons_zero, List.set_cons_succ]
        refine wpAnyH_done (by kernel_rfl) ?_ _
        go_wp2_with fail
        all_goals
          go_ret
          exact ⟨rfl, HE0.out.trans (E16.trans hq1)⟩
    · obtain ⟨hXl, hgl, hne⟩ := H12x.out.lt
      obtain ⟨cap, c17, hca, hcb⟩ := H12x.out.cell17 ok12
      rw [show ((haT B k m)).np = B.np from haT_np] at c17 hca
      have hfr := H12x.out.frozen
      have hkc : k < Br.np (haT B k m) := (show k < Br.np (haT B k m) by rw [haT_np]; exact hk)
      have hrq0 := H12x.out.range (k := k) hkc
      have cq68 : (port (Br.ps (haT B k m)) k)[68]? = some (.int .u64 (pI m.1 8)) := (port_at (B := (haT B k m)) (k := k) (j := 68) (by decide)).trans ((Br.ok.gi ok12 (k := k) hkc 68 rfl).trans (by rw [haLT_68 h89.out HLS.out]))
      have cq69 : (port (Br.ps (haT B k m)) k)[69]? = some (.int .u32 (pI m.1 9)) := (port_at (B := (haT B k m)) (k := k) (j := 69) (by decide)).trans ((Br.ok.gi ok12 (k := k) hkc 69 rfl).trans (by rw [haLT_69 h89.out HLS.out]))
      have cq70 : (port (Br.ps (haT B k m)) k)[70]? = some (.int .u64 (pI m.1 10)) := (port_at (B := (haT B k m)) (k := k) (j := 70) (by decide)).trans ((Br.ok.gi ok12 (k := k) hkc 70 rfl).trans (by rw [haLT_70 h89.out HLS.out]))
      have cq71 : (port (Br.ps (haT B k m)) k)[71]? = some (.int .u16 (pI m.1 11)) := (port_at (B := (haT B k m)) (k := k) (j := 71) (by decide)).trans ((Br.ok.gi ok12 (k := k) hkc 71 rfl).trans (by rw [haLT_71 h89.out HLS.out]))
      have cq72 : (port (Br.ps (haT B k m)) k)[72]? = some (.int .u16 (pI m.1 12)) := (port_at (B := (haT B k m)) (k := k) (j := 72) (by decide)).trans ((Br.ok.gi ok12 (k := k) hkc 72 rfl).trans (by rw [haLT_72 h89.out HLS.out]))
      have cq78 : (port (Br.ps (haT B k m)) k)[78]? = some (.int .i64 (pI m.1 13)) := (port_at (B := (haT B k m)) (k := k) (j := 78) (by decide)).trans ((Br.ok.gi ok12 (k := k) hkc 78 rfl).trans (by rw [haLT_78 h89.out HLS.out]))
      have cq79 : (port (Br.ps (haT B k m)) k)[79]? = some (.int .i64 (pI m.1 14)) := (port_at (B := (haT B k m)) (k := k) (j := 79) (by decide)).trans ((Br.ok.gi ok12 (k := k) hkc 79 rfl).trans (by rw [haLT_79 h89.out HLS.out]))
      have cq80 : (port (Br.ps (haT B k m)) k)[80]? = some (.int .i64 (pI m.1 15)) := (port_at (B := (haT B k m)) (k := k) (j := 80) (by decide)).trans ((Br.ok.gi ok12 (k := k) hkc 80 rfl).trans (by rw [haLT_80 h89.out HLS.out]))
      have cq81 : (port (Br.ps (haT B k m)) k)[81]? = some (.int .i64 (pI m.1 16)) := (port_at (B := (haT B k m)) (k := k) (j := 81) (by decide)).trans ((Br.ok.gi ok12 (k := k) hkc 81 rfl).trans (by rw [haLT_81 h89.out HLS.out]))
      have cq86 : (port (Br.ps (haT B k m)) k)[86]? = some (.int .i64 3) := (port_at (B := (haT B k m)) (k := k) (j := 86) (by decide)).trans ((Br.ok.gi ok12 (k := k) hkc 86 rfl).trans (by rw [haLT_86 h89.out HLS.out]))
      have cq11 : (port (Br.ps (haT B k m)) k)[11]? = some (.int .i64 (waitsV (pI m.1 13) (pI m.1 14) (pI m.1 15))) := (port_at (B := (haT B k m)) (k := k) (j := 11) (by decide)).trans ((Br.ok.gi ok12 (k := k) hkc 11 rfl).trans (by rw [haLT_11 h89.out HLS.out]))
      have cq43 : (port (Br.ps (haT B k m)) k)[43]? = some (.bool true) := (port_at (B := (haT B k m)) (k := k) (j := 43) (by decide)).trans ((Br.ok.gb ok12 (k := k) hkc 43 rfl).trans (by rw [haLT_43 h89.out HLS.out]))
      have cq44 : (port (Br.ps (haT B k m)) k)[44]? = some (.bool false) := (port_at (B := (haT B k m)) (k := k) (j := 44) (by decide)).trans ((Br.ok.gb ok12 (k := k) hkc 44 rfl).trans (by rw [haLT_44 h89.out HLS.out]))
      have cq36 : (port (Br.ps (haT B k m)) k)[36]? = some (.bool false) := (port_at (B := (haT B k m)) (k := k) (j := 36) (by decide)).trans ((Br.ok.gb ok12 (k := k) hkc 36 rfl).trans (by rw [haLT_36 h89.out HLS.out]))
      have hnq0 : (port (Br.ps (haT B k m)) k).length = 89 := (port_typed ok12 (i := k) hkc).1
      have hoq := Lib.hid (all_oneCell_toArray (port_typed ok12 (i := k) hkc).one)
      obtain ⟨pq, hpq⟩ : ∃ p, port (Br.ps (haT B k m)) k = p := ⟨_, rfl⟩
      rw [hpq] at hrq0 hnq0 hoq cq68 cq69 cq70 cq71 cq72 cq78 cq79 cq80 cq81 cq86 cq11 cq43 cq44 cq36
      clear hpq
      have hrq := Lib.hid hrq0
      clear hrq0
      have hiq := Lib.hid (show (Try.prog.info? 51).map (·.size) = some pq.length by rw [hnq0]; exact size_port)
      have hjq := Lib.hid (show (Try.prog.info? 51).map (·.size) = some pq.toArray.size by rw [List.size_toArray, hnq0]; exact size_port)
      have hsqz := Lib.hid (show PZ.size = pq.toArray.size by rw [List.size_toArray]; exact hnq0.symm)
      have hzq := zero_port
      clear hnq0
      clear hkc
      go_wp2_with (first
        | fail
        | ((with_reducible refine at_load 51 ?_); refine wpList_load_mid rfl 51 _ rfl gx (k * 89) rfl pq _ hrq.out Try.underlying51 rfl hiq.out ?_)
        | ((with_reducible refine at_store 51 ?_); refine wpList_store_new3 rfl rfl 51 _ _ _ rfl PZ pq.toArray _ rfl ?_ rfl hjq.out hsqz.out (by rw [Array.all_toList]; exact hoq.out) ?_; · rfl
           intro wfq hwf
           have HFw := Lib.hid (show wfq.heap[fw]? = some (.cells pw.toArray 51 (0, 0)) from by rw [hwf]; exact (heap_alloc_old _ _ (heap_lt HFw.out)).trans HFw.out)
           have hY := H12x.out.alloc (.cells pq.toArray 51)
           rw [← hwf] at hY
           have hE0 : Ext v12 wfq := by rw [hwf]; exact (Ext.refl _).alloc _
           have E17 := E12.trans hE0
           have hbx := heap_alloc_new v12 (.cells pq.toArray 51)
           rw [← hwf] at hbx
           have hxb := Lib.hid H12x.out.lt.1
           obtain ⟨fq, hfb⟩ : ∃ n, v12.heap.size = n := ⟨_, rfl⟩
           rw [hfb] at hbx hxb ⊢
           have HFq := Lib.hid hbx
           have HGq := hxb
           have H17x := Lib.hid hY
           clear hwf hY hbx hxb hfb hE0 E12 hzq))
      have hMr := (E17.block _ (heap_lt HL_M.out)).trans HL_M.out
      have RM8 := Lib.hid (show wfq.rangeAt M 8 [Value.int .u64 (pI m.1 8), Value.int .u32 (pI m.1 9), Value.int .u64 (pI m.1 10), Value.int .u16 (pI m.1 11), Value.int .u16 (pI m.1 12)] from (range_cons ((cell_of_row _ _ 8 _ _ _ hMr).trans (by simpa using tyI m.2 8 rfl)) (range_cons ((cell_of_row _ _ 9 _ _ _ hMr).trans (by simpa using tyI m.2 9 rfl)) (range_cons ((cell_of_row _ _ 10 _ _ _ hMr).trans (by simpa using tyI m.2 10 rfl)) (range_cons ((cell_of_row _ _ 11 _ _ _ hMr).trans (by simpa using tyI m.2 11 rfl)) (range_cons ((cell_of_row _ _ 12 _ _ _ hMr).trans (by simpa using tyI m.2 12 rfl)) range_nil))))))
      have RM13 := Lib.hid (show wfq.rangeAt M 13 [Value.int .i64 (pI m.1 13), Value.int .i64 (pI m.1 14), Value.int .i64 (pI m.1 15), Value.int .i64 (pI m.1 16)] from (range_cons ((cell_of_row _ _ 13 _ _ _ hMr).trans (by simpa using tyI m.2 13 rfl)) (range_cons ((cell_of_row _ _ 14 _ _ _ hMr).trans (by simpa using tyI m.2 14 rfl)) (range_cons ((cell_of_row _ _ 15 _ _ _ hMr).trans (by simpa using tyI m.2 15 rfl)) (range_cons ((cell_of_row _ _ 16 _ _ _ hMr).trans (by simpa using tyI m.2 16 rfl)) range_nil)))))
      clear hMr
      have hMl : M < wfq.heap.size := Nat.lt_of_lt_of_le (heap_lt HL_M.out) E17.size
      obtain ⟨r1, r2, r3, r4, r5, r6, -, -⟩ := HTF.out
      have qw68 : wfq.cell? ⟨fw, 68, none⟩ = some (.int .u64 (B.gi k 68)) := by rw [cell_of_row _ _ _ _ _ _ HFw.out]; simpa using cw68
      have qw69 : wfq.cell? ⟨fw, 69, none⟩ = some (.int .u32 (B.gi k 69)) := by rw [cell_of_row _ _ _ _ _ _ HFw.out]; simpa using cw69
      have qw70 : wfq.cell? ⟨fw, 70, none⟩ = some (.int .u64 (B.gi k 70)) := by rw [cell_of_row _ _ _ _ _ _ HFw.out]; simpa using cw70
      have qw71 : wfq.cell? ⟨fw, 71, none⟩ = some (.int .u16 (B.gi k 71)) := by rw [cell_of_row _ _ _ _ _ _ HFw.out]; simpa using cw71
      have qw72 : wfq.cell? ⟨fw, 72, none⟩ = some (.int .u16 (B.gi k 72)) := by rw [cell_of_row _ _ _ _ _ _ HFw.out]; simpa using cw72
      have qw78 : wfq.cell? ⟨fw, 78, none⟩ = some (.int .i64 (B.gi k 78)) := by rw [cell_of_row _ _ _ _ _ _ HFw.out]; simpa using cw78
      have qw79 : wfq.cell? ⟨fw, 79, none⟩ = some (.int .i64 (B.gi k 79)) := by rw [cell_of_row _ _ _ _ _ _ HFw.out]; simpa using cw79
      have qw80 : wfq.cell? ⟨fw, 80, none⟩ = some (.int .i64 (B.gi k 80)) := by rw [cell_of_row _ _ _ _ _ _ HFw.out]; simpa using cw80
      have qw81 : wfq.cell? ⟨fw, 81, none⟩ = some (.int .i64 (B.gi k 81)) := by rw [cell_of_row _ _ _ _ _ _ HFw.out]; simpa using cw81
      have qw86 : wfq.cell? ⟨fw, 86, none⟩ = some (.int .i64 (B.gi k 86)) := by rw [cell_of_row _ _ _ _ _ _ HFw.out]; simpa using cw86
      have qw6 : wfq.cell? ⟨fw, 6, none⟩ = some (.int .i64 (B.gi k 6)) := by rw [cell_of_row _ _ _ _ _ _ HFw.out]; simpa using cw6
      have qw7 : wfq.cell? ⟨fw, 7, none⟩ = some (.int .i64 (B.gi k 7)) := by rw [cell_of_row _ _ _ _ _ _ HFw.out]; simpa using cw7
      have qw8 : wfq.cell? ⟨fw, 8, none⟩ = some (.int .i64 (B.gi k 8)) := by rw [cell_of_row _ _ _ _ _ _ HFw.out]; simpa using cw8
      have qw9 : wfq.cell? ⟨fw, 9, none⟩ = some (.int .i64 (B.gi k 9)) := by rw [cell_of_row _ _ _ _ _ _ HFw.out]; simpa using cw9
      have qw10 : wfq.cell? ⟨fw, 10, none⟩ = some (.int .i64 (B.gi k 10)) := by rw [cell_of_row _ _ _ _ _ _ HFw.out]; simpa using cw10
      have qw11 : wfq.cell? ⟨fw, 11, none⟩ = some (.int .i64 (max 1 (B.gi k 11))) := by rw [cell_of_row _ _ _ _ _ _ HFw.out]; simpa using cw11
      have qw12 : wfq.cell? ⟨fw, 12, none⟩ = some (.int .i64 (B.gi k 12)) := by rw [cell_of_row _ _ _ _ _ _ HFw.out]; simpa using cw12
      have qw13 : wfq.cell? ⟨fw, 13, none⟩ = some (.int .i64 (B.gi k 13)) := by rw [cell_of_row _ _ _ _ _ _ HFw.out]; simpa using cw13
      have qw14 : wfq.cell? ⟨fw, 14, none⟩ = some (.int .i64 (B.gi k 14)) := by rw [cell_of_row _ _ _ _ _ _ HFw.out]; simpa using cw14
      have qw44 : wfq.cell? ⟨fw, 44, none⟩ = some (.bool (B.gb k 44)) := by rw [cell_of_row _ _ _ _ _ _ HFw.out]; simpa using cw44
      have qq68 : wfq.cell? ⟨fq, 68, none⟩ = some (.int .u64 (pI m.1 8)) := by rw [cell_of_row _ _ _ _ _ _ HFq.out]; simpa using cq68
      have qq69 : wfq.cell? ⟨fq, 69, none⟩ = some (.int .u32 (pI m.1 9)) := by rw [cell_of_row _ _ _ _ _ _ HFq.out]; simpa using cq69
      have qq70 : wfq.cell? ⟨fq, 70, none⟩ = some (.int .u64 (pI m.1 10)) := by rw [cell_of_row _ _ _ _ _ _ HFq.out]; simpa using cq70
      have qq71 : wfq.cell? ⟨fq, 71, none⟩ = some (.int .u16 (pI m.1 11)) := by rw [cell_of_row _ _ _ _ _ _ HFq.out]; simpa using cq71
      have qq72 : wfq.cell? ⟨fq, 72, none⟩ = some (.int .u16 (pI m.1 12)) := by rw [cell_of_row _ _ _ _ _ _ HFq.out]; simpa using cq72
      have qq78 : wfq.cell? ⟨fq, 78, none⟩ = some (.int .i64 (pI m.1 13)) := by rw [cell_of_row _ _ _ _ _ _ HFq.out]; simpa using cq78
      have qq79 : wfq.cell? ⟨fq, 79, none⟩ = some (.int .i64 (pI m.1 14)) := by rw [cell_of_row _ _ _ _ _ _ HFq.out]; simpa using cq79
      have qq80 : wfq.cell? ⟨fq, 80, none⟩ = some (.int .i64 (pI m.1 15)) := by rw [cell_of_row _ _ _ _ _ _ HFq.out]; simpa using cq80
      have qq81 : wfq.cell? ⟨fq, 81, none⟩ = some (.int .i64 (pI m.1 16)) := by rw [cell_of_row _ _ _ _ _ _ HFq.out]; simpa using cq81
      have qq86 : wfq.cell? ⟨fq, 86, none⟩ = some (.int .i64 3) := by rw [cell_of_row _ _ _ _ _ _ HFq.out]; simpa using cq86
      have qq11 : wfq.cell? ⟨fq, 11, none⟩ = some (.int .i64 (waitsV (pI m.1 13) (pI m.1 14) (pI m.1 15))) := by rw [cell_of_row _ _ _ _ _ _ HFq.out]; simpa using cq11
      have qq43 : wfq.cell? ⟨fq, 43, none⟩ = some (.bool true) := by rw [cell_of_row _ _ _ _ _ _ HFq.out]; simpa using cq43
      have qq44 : wfq.cell? ⟨fq, 44, none⟩ = some (.bool false) := by rw [cell_of_row _ _ _ _ _ _ HFq.out]; simpa using cq44
      have qq36 : wfq.cell? ⟨fq, 36, none⟩ = some (.bool false) := by rw [cell_of_row _ _ _ _ _ _ HFq.out]; simpa using cq36
      have hltw : fw < wfq.heap.size := heap_lt HFw.out
      have hltq : fq < wfq.heap.size := heap_lt HFq.out
      have RRq68 := Lib.hid (show wfq.rangeAt fq 68 [Value.int .u64 (pI m.1 8), Value.int .u32 (pI m.1 9), Value.int .u64 (pI m.1 10), Value.int .u16 (pI m.1 11), Value.int .u16 (pI m.1 12)] from (range_cons qq68 (range_cons qq69 (range_cons qq70 (range_cons qq71 (range_cons qq72 range_nil))))))
      have RRq78 := Lib.hid (show wfq.rangeAt fq 78 [Value.int .i64 (pI m.1 13), Value.int .i64 (pI m.1 14), Value.int .i64 (pI m.1 15), Value.int .i64 (pI m.1 16)] from (range_cons qq78 (range_cons qq79 (range_cons qq80 (range_cons qq81 range_nil)))))
      refine beginL (S := fun W' => Ext wfq W') (by kernel_rfl) ?_
      intro wd hqx
      have hq0 : Ext wfq wd := hqx
      refine takeL (i := 0) (v := (.bool true)) rfl (by kernel_rfl) (by kernel_rfl) (by kernel_rfl) (fun _ _ _ h => h) (Or.inl ⟨rfl, fun _ _ => rfl⟩) hq0 ?_
      simp only [Act.put, List.setIfInBounds_toArray, List.set_cons_zero, List.set_cons_succ]
      refine takeL (i := 1) (v := (.bool true)) rfl (by kernel_rfl) (by kernel_rfl) (by kernel_rfl) (fun _ _ _ h => h) (Or.inl ⟨rfl, fun _ _ => rfl⟩) hq0 ?_
      simp only [Act.put, List.setIfInBounds_toArray, List.set_cons_zero, List.set_cons_succ]
      refine takeL (i := 2) (v := (.bool true)) rfl (by kernel_rfl) (by kernel_rfl) (by kernel_rfl) (fun _ _ _ h => h) (Or.inl ⟨rfl, fun _ _ => rfl⟩) hq0 ?_
      simp only [Act.put, List.setIfInBounds_toArray, List.set_cons_zero, List.set_cons_succ]
      refine takeL (i := 3) (v := (.bool true)) rfl (by kernel_rfl) (by kernel_rfl) (by kernel_rfl) (fun _ _ _ h => h) (Or.inl ⟨rfl, fun _ _ => rfl⟩) hq0 ?_
      simp only [Act.put, List.setIfInBounds_toArray, List.set_cons_zero, List.set_cons_succ]
      refine takeL (i := 4) (v := (.bool true)) rfl (by kernel_rfl) (by kernel_rfl) (by kernel_rfl) (fun _ _ _ h => h) (Or.inl ⟨rfl, fun _ _ => rfl⟩) hq0 ?_
      simp only [Act.put, List.setIfInBounds_toArray, List.set_cons_zero, List.set_cons_succ]
      refine takeL (i := 5) (v := (.pointer (some ⟨fq, 68, none⟩))) rfl (by kernel_rfl) (by kernel_rfl) (by kernel_rfl) (fun _ _ _ h => h) (Or.inl ⟨rfl, fun _ _ => rfl⟩) hq0 ?_
      simp only [Act.put, List.setIfInBounds_toArray, List.set_cons_zero, List.set_cons_succ]
      refine takeL (i := 6) (v := _) rfl (by kernel_rfl) (by kernel_rfl) (by kernel_rfl) (fun _ _ _ h => h) (yieldsIf_load_mid rfl 28 _ rfl fq (68) rfl ([Value.int .u64 (pI m.1 8), Value.int .u32 (pI m.1 9), Value.int .u64 (pI m.1 10), Value.int .u16 (pI m.1 11), Value.int .u16 (pI m.1 12)]) _ (fun W' hW' => rangeAt_ext RRq68.out hW' hltq) Try.underlying28 rfl (by exact size_vec)) hq0 ?_
      simp only [Act.put, List.setIfInBounds_toArray, List.set_cons_zero, List.set_cons_succ]
      refine takeL (i := 7) (v := (.pointer (some ⟨M, 8, none⟩))) rfl (by kernel_rfl) (by kernel_rfl) (by kernel_rfl) (fun _ _ _ h => h) (Or.inl ⟨rfl, fun _ _ => rfl⟩) hq0 ?_
      simp only [Act.put, List.setIfInBounds_toArray, List.set_cons_zero, List.set_cons_succ]
      refine takeL (i := 8) (v := _) rfl (by kernel_rfl) (by kernel_rfl) (by kernel_rfl) (fun _ _ _ h => h) (yieldsIf_load_mid rfl 28 _ rfl M (8) rfl ([Value.int .u64 (pI m.1 8), Value.int .u32 (pI m.1 9), Value.int .u64 (pI m.1 10), Value.int .u16 (pI m.1 11), Value.int .u16 (pI m.1 12)]) _ (fun W' hW' => rangeAt_ext RM8.out hW' hMl) Try.underlying28 rfl (by exact size_vec)) hq0 ?_
      simp only [Act.put, List.setIfInBounds_toArray, List.set_cons_zero, List.set_cons_succ]
      refine takeL (i := 9) (v := (.bool true)) rfl (by kernel_rfl) (by kernel_rfl) (by kernel_rfl) (fun _ _ _ h => h) (Or.inl ⟨rfl, fun W' _ => by go_simp⟩) hq0 ?_
      simp only [Act.put, List.setIfInBounds_toArray, List.set_cons_zero, List.set_cons_succ]
      refine takeL (i := 10) (v := (.bool true)) rfl (by kernel_rfl) (by kernel_rfl) (by kernel_rfl) (fun _ _ _ h => h) (Or.inl ⟨rfl, fun _ _ => rfl⟩) hq0 ?_
      simp only [Act.put, List.setIfInBounds_toArray, List.set_cons_zero, List.set_cons_succ]
      refine takeL (i := 11) (v := (.bool true)) rfl (by kernel_rfl) (by kernel_rfl) (by kernel_rfl) (fun _ _ _ h => h) (Or.inl ⟨rfl, fun _ _ => rfl⟩) hq0 ?_
      simp only [Act.put, List.setIfInBounds_toArray, List.set_cons_zero, List.set_cons_succ]
      refine takeL (i := 12) (v := (.pointer (some ⟨fq, 78, none⟩))) rfl (by kernel_rfl) (by kernel_rfl) (by kernel_rfl) (fun _ _ _ h => h) (Or.inl ⟨rfl, fun _ _ => rfl⟩) hq0 ?_
      simp only [Act.put, List.setIfInBounds_toArray, List.set_cons_zero, List.set_cons_succ]
      refine takeL (i := 13) (v := _) rfl (by kernel_rfl) (by kernel_rfl) (by kernel_rfl) (fun _ _ _ h => h) (yieldsIf_load_mid rfl 24 _ rfl fq (78) rfl ([Value.int .i64 (pI m.1 13), Value.int .i64 (pI m.1 14), Value.int .i64 (pI m.1 15), Value.int .i64 (pI m.1 16)]) _ (fun W' hW' => rangeAt_ext RRq78.out hW' hltq) Try.underlying24 rfl (by exact size_times)) hq0 ?_
      simp only [Act.put, List.setIfInBounds_toArray, List.set_cons_zero, List.set_cons_succ]
      refine takeL (i := 14) (v := (.pointer (some ⟨M, 13, none⟩))) rfl (by kernel_rfl) (by kernel_rfl) (by kernel_rfl) (fun _ _ _ h => h) (Or.inl ⟨rfl, fun _ _ => rfl⟩) hq0 ?_
      simp only [Act.put, List.setIfInBounds_toArray, List.set_cons_zero, List.set_cons_succ]
      refine takeL (i := 15) (v := _) rfl (by kernel_rfl) (by kernel_rfl) (by kernel_rfl) (fun _ _ _ h => h) (yieldsIf_load_mid rfl 24 _ rfl M (13) rfl ([Value.int .i64 (pI m.1 13), Value.int .i64 (pI m.1 14), Value.int .i64 (pI m.1 15), Value.int .i64 (pI m.1 16)]) _ (fun W' hW' => rangeAt_ext RM13.out hW' hMl) Try.underlying24 rfl (by exact size_times)) hq0 ?_
      simp only [Act.put, List.setIfInBounds_toArray, List.set_cons_zero, List.set_cons_succ]
      refine takeL (i := 16) (v := (.bool true)) rfl (by kernel_rfl) (by kernel_rfl) (by kernel_rfl) (fun _ _ _ h => h) (Or.inl ⟨rfl, fun W' _ => by go_simp⟩) hq0 ?_
      simp only [Act.put, List.setIfInBounds_toArray, List.set_cons_zero, List.set_cons_succ]
      refine takeL (i := 17) (v := (.bool true)) rfl (by kernel_rfl) (by kernel_rfl) (by kernel_rfl) (fun _ _ _ h => h) (Or.inl ⟨rfl, fun _ _ => rfl⟩) hq0 ?_
      simp only [Act.put, List.setIfInBounds_toArray, List.set_cons_zero, List.set_cons_succ]
      refine takeL (i := 18) (v := (.bool true)) rfl (by kernel_rfl) (by kernel_rfl) (by kernel_rfl) (fun _ _ _ h => h) (Or.inl ⟨rfl, fun _ _ => rfl⟩) hq0 ?_
      simp only [Act.put, List.setIfInBounds_toArray, List.set_cons_zero, List.set_cons_succ]
      refine takeL (i := 19) (v := (.pointer (some ⟨fq, 86, none⟩))) rfl (by kernel_rfl) (by kernel_rfl) (by kernel_rfl) (fun _ _ _ h => h) (Or.inl ⟨rfl, fun _ _ => rfl⟩) hq0 ?_
      simp only [Act.put, List.setIfInBounds_toArray, List.set_cons_zero, List.set_cons_succ]
      refine takeL (i := 20) (v := _) rfl (by kernel_rfl) (by kernel_rfl) (by kernel_rfl) (fun _ _ _ h => h) (yieldsIf_cell rfl 3 _ rfl ⟨fq, 86, none⟩ rfl (.int .i64 3) _ (fun W' hW' => (hW'.cell (p := ⟨fq, 86, none⟩) hltq).trans qq86) Try.underlying3 rfl) hq0 ?_
      simp only [Act.put, List.setIfInBounds_toArray, List.set_cons_zero, List.set_cons_succ]
      refine takeL (i := 21) (v := (.bool true)) rfl (by kernel_rfl) (by kernel_rfl) (by kernel_rfl) (fun _ _ _ h => h) (Or.inl ⟨rfl, fun W' _ => by go_simp⟩) hq0 ?_
      simp only [Act.put, List.setIfInBounds_toArray, List.set_cons_zero, List.set_cons_succ]
      refine takeL (i := 22) (v := (.bool true)) rfl (by kernel_rfl) (by kernel_rfl) (by kernel_rfl) (fun _ _ _ h => h) (Or.inl ⟨rfl, fun _ _ => rfl⟩) hq0 ?_
      simp only [Act.put, List.setIfInBounds_toArray, List.set_cons_zero, List.set_cons_succ]
      refine takeL (i := 23) (v := (.bool true)) rfl (by kernel_rfl) (by kernel_rfl) (by kernel_rfl) (fun _ _ _ h => h) (Or.inl ⟨rfl, fun _ _ => rfl⟩) hq0 ?_
      simp only [Act.put, List.setIfInBounds_toArray, List.set_cons_zero, List.set_cons_succ]
      refine takeL (i := 24) (v := (.pointer (some ⟨fq, 6, none⟩))) rfl (by kernel_rfl) (by kernel_rfl) (by kernel_rfl) (fun _ _ _ h => h) (Or.inl ⟨rfl, fun _ _ => rfl⟩) hq0 ?_
      simp only [Act.put, List.setIfInBounds_toArray, List.set_cons_zero, List.set_cons_succ]
      refine takeL (i := 25) (v := (.pointer (some ⟨fq, 11, none⟩))) rfl (by kernel_rfl) (by kernel_rfl) (by kernel_rfl) (fun _ _ _ h => h) (Or.inl ⟨rfl, fun _ _ => rfl⟩) hq0 ?_
      simp only [Act.put, List.setIfInBounds_toArray, List.set_cons_zero, List.set_cons_succ]
      refine takeL (i := 26) (v := _) rfl (by kernel_rfl) (by kernel_rfl) (by kernel_rfl) (fun _ _ _ h => h) (yieldsIf_cell rfl 3 _ rfl ⟨fq, 11, none⟩ rfl (.int .i64 (waitsV (pI m.1 13) (pI m.1 14) (pI m.1 15))) _ (fun W' hW' => (hW'.cell (p := ⟨fq, 11, none⟩) hltq).trans qq11) Try.underlying3 rfl) hq0 ?_
      simp only [Act.put, List.setIfInBounds_toArray, List.set_cons_zero, List.set_cons_succ]
      refine takeL (i := 27) (v := (.pointer (some ⟨M, 13, none⟩))) rfl (by kernel_rfl) (by kernel_rfl) (by kernel_rfl) (fun _ _ _ h => h) (Or.inl ⟨rfl, fun _ _ => rfl⟩) hq0 ?_
      simp only [Act.put, List.setIfInBounds_toArray, List.set_cons_zero, List.set_cons_succ]
      refine takeL (i := 28) (v := _) rfl (by kernel_rfl) (by kernel_rfl) (by kernel_rfl) (fun _ _ _ h => h) (yieldsIf_load_mid rfl 24 _ rfl M (13) rfl ([Value.int .i64 (pI m.1 13), Value.int .i64 (pI m.1 14), Value.int .i64 (pI m.1 15), Value.int .i64 (pI m.1 16)]) _ (fun W' hW' => rangeAt_ext RM13.out hW' hMl) Try.underlying24 rfl (by exact size_times)) hq0 ?_
      simp only [Act.put, List.setIfInBounds_toArray, List.set_cons_zero, List.set_cons_succ]
      refine runG (i := 29) rfl (by rfl) (by kernel_rfl) (fun K hK => ?_)
      go_simp
      refine (ref_waits _ _ _ _ _ r1 r2 r3 r4 r5 r6).mono ?_
      rintro e wc1 ⟨rfl, hx⟩
      have hq1 := hq0.trans hx
      refine hK.out _ _ hq1 (fun hHeld => ?_)
      try simp only [Act.put, List.setIfInBounds_toArray, List.set_cons_zero, List.set_cons_succ]
      clear hK K hHeld
      refine takeL (i := 30) (v := (.bool true)) rfl (by kernel_rfl) (by kernel_rfl) (by kernel_rfl) (fun _ _ _ h => h) (Or.inl ⟨rfl, fun W' _ => by go_simp⟩) hq1 ?_
      simp only [Act.put, List.setIfInBounds_toArray, List.set_cons_zero, List.set_cons_succ]
      refine takeL (i := 31) (v := (.bool true)) rfl (by kernel_rfl) (by kernel_rfl) (by kernel_rfl) (fun _ _ _ h => h) (Or.inl ⟨rfl, fun _ _ => rfl⟩) hq1 ?_
      simp only [Act.put, List.setIfInBounds_toArray, List.set_cons_zero, List.set_cons_succ]
      refine takeL (i := 32) (v := (.bool true)) rfl (by kernel_rfl) (by kernel_rfl) (by kernel_rfl) (fun _ _ _ h => h) (Or.inl ⟨rfl, fun _ _ => rfl⟩) hq1 ?_
      simp only [Act.put, List.setIfInBounds_toArray, List.set_cons_zero, List.set_cons_succ]
      refine takeL (i := 33) (v := (.pointer (some ⟨fq, 22, none⟩))) rfl (by kernel_rfl) (by kernel_rfl) (by kernel_rfl) (fun _ _ _ h => h) (Or.inl ⟨rfl, fun _ _ => rfl⟩) hq1 ?_
      simp only [Act.put, List.setIfInBounds_toArray, List.set_cons_zero, List.set_cons_succ]
      refine takeL (i := 34) (v := (.pointer (some ⟨fq, 43, none⟩))) rfl (by kernel_rfl) (by kernel_rfl) (by kernel_rfl) (fun _ _ _ h => h) (Or.inl ⟨rfl, fun _ _ => rfl⟩) hq1 ?_
      simp only [Act.put, List.setIfInBounds_toArray, List.set_cons_zero, List.set_cons_succ]
      refine takeL (i := 35) (v := _) rfl (by kernel_rfl) (by kernel_rfl) (by kernel_rfl) (fun _ _ _ h => h) (yieldsIf_cell rfl 4 _ rfl ⟨fq, 43, none⟩ rfl (.bool true) _ (fun W' hW' => (hW'.cell (p := ⟨fq, 43, none⟩) hltq).trans qq43) Try.underlying4 rfl) hq1 ?_
      simp only [Act.put, List.setIfInBounds_toArray, List.set_cons_zero, List.set_cons_succ]
      refine takeL (i := 36) (v := (.bool true)) rfl (by kernel_rfl) (by kernel_rfl) (by kernel_rfl) (fun _ _ _ h => h) (Or.inl ⟨rfl, fun _ _ => rfl⟩) hq1 ?_
      simp only [Act.put, List.setIfInBounds_toArray, List.set_cons_zero, List.set_cons_succ]
      refine takeL (i := 37) (v := (.bool true)) rfl (by kernel_rfl) (by kernel_rfl) (by kernel_rfl) (fun _ _ _ h => h) (Or.inl ⟨rfl, fun _ _ => rfl⟩) hq1 ?_
      simp only [Act.put, List.setIfInBounds_toArray, List.set_cons_zero, List.set_cons_succ]
      refine takeL (i := 38) (v := (.pointer (some ⟨fq, 22, none⟩))) rfl (by kernel_rfl) (by kernel_rfl) (by kernel_rfl) (fun _ _ _ h => h) (Or.inl ⟨rfl, fun _ _ => rfl⟩) hq1 ?_
      simp only [Act.put, List.setIfInBounds_toArray, List.set_cons_zero, List.set_cons_succ]
      refine takeL (i := 39) (v := (.pointer (some ⟨fq, 44, none⟩))) rfl (by kernel_rfl) (by kernel_rfl) (by kernel_rfl) (fun _ _ _ h => h) (Or.inl ⟨rfl, fun _ _ => rfl⟩) hq1 ?_
      simp only [Act.put, List.setIfInBounds_toArray, List.set_cons_zero, List.set_cons_succ]
      refine takeL (i := 40) (v := _) rfl (by kernel_rfl) (by kernel_rfl) (by kernel_rfl) (fun _ _ _ h => h) (yieldsIf_cell rfl 4 _ rfl ⟨fq, 44, none⟩ rfl (.bool false) _ (fun W' hW' => (hW'.cell (p := ⟨fq, 44, none⟩) hltq).trans qq44) Try.underlying4 rfl) hq1 ?_
      simp only [Act.put, List.setIfInBounds_toArray, List.set_cons_zero, List.set_cons_succ]
      refine takeL (i := 41) (v := (.bool true)) rfl (by kernel_rfl) (by kernel_rfl) (by kernel_rfl) (fun _ _ _ h => h) (Or.inl ⟨rfl, fun _ _ => rfl⟩) hq1 ?_
      simp only [Act.put, List.setIfInBounds_toArray, List.set_cons_zero, List.set_cons_succ]
      refine takeL (i := 42) (v := (.bool true)) rfl (by kernel_rfl) (by kernel_rfl) (by kernel_rfl) (fun _ _ _ h => h) (Or.inl ⟨rfl, fun _ _ => rfl⟩) hq1 ?_
      simp only [Act.put, List.setIfInBounds_toArray, List.set_cons_zero, List.set_cons_succ]
      refine takeL (i := 43) (v := (.bool true)) rfl (by kernel_rfl) (by kernel_rfl) (by kernel_rfl) (fun _ _ _ h => h) (Or.inl ⟨rfl, fun _ _ => rfl⟩) hq1 ?_
      simp only [Act.put, List.setIfInBounds_toArray, List.set_cons_zero, List.set_cons_succ]
      refine takeL (i := 44) (v := (.pointer (some ⟨fq, 22, none⟩))) rfl (by kernel_rfl) (by kernel_rfl) (by kernel_rfl) (fun _ _ _ h => h) (Or.inl ⟨rfl, fun _ _ => rfl⟩) hq1 ?_
      simp only [Act.put, List.setIfInBounds_toArray, List.set_cons_zero, List.set_cons_succ]
      refine takeL (i := 45) (v := (.pointer (some ⟨fq, 36, none⟩))) rfl (by kernel_rfl) (by kernel_rfl) (by kernel_rfl) (fun _ _ _ h => h) (Or.inl ⟨rfl, fun _ _ => rfl⟩) hq1 ?_
      simp only [Act.put, List.setIfInBounds_toArray, List.set_cons_zero, List.set_cons_succ]
      refine takeL (i := 46) (v := _) rfl (by kernel_rfl) (by kernel_rfl) (by kernel_rfl) (fun _ _ _ h => h) (yieldsIf_cell rfl 4 _ rfl ⟨fq, 36, none⟩ rfl (.bool false) _ (fun W' hW' => (hW'.cell (p := ⟨fq, 36, none⟩) hltq).trans qq36) Try.underlying4 rfl) hq1 ?_
      simp only [Act.put, List.setIfInBounds_toArray, List.set_cons_zero, List.set_cons_succ]
      refine takeL (i := 47) (v := (.bool true)) rfl (by kernel_rfl) (by kernel_rfl) (by kernel_rfl) (fun _ _ _ h => h) (Or.inl ⟨rfl, fun _ _ => rfl⟩) hq1 ?_
      simp only [Act.put, List.setIfInBounds_toArray, List.set_cons_zero, List.set_cons_succ]
      refine takeL (i := 48) (v := (.bool true)) rfl (by kernel_rfl) (by kernel_rfl) (by kernel_rfl) (fun _ _ _ h => h) (Or.inl ⟨rfl, fun _ _ => rfl⟩) hq1 ?_
      simp only [Act.put, List.setIfInBounds_toArray, List.set_cons_zero, List.set_cons_succ]
      refine takeL (i := 49) (v := (.bool true)) rfl (by kernel_rfl) (by kernel_rfl) (by kernel_rfl) (fun _ _ _ h => h) (Or.inl ⟨rfl, fun _ _ => rfl⟩) hq1 ?_
      simp only [Act.put, List.setIfInBounds_toArray, List.set_cons_zero, List.set_cons_succ]
      refine wpAnyH_done (by kernel_rfl) ?_ _
      go_wp2_with fail
      all_goals
        go_ret
        exact ⟨rfl, HE0.out.trans (E17.trans hq1)⟩
  · go_wp2_with (first
      | fail
      | ((with_reducible refine at_load 33 ?_); refine wpList_load_row rfl 33 _ rfl bx rfl 33 c (0, 0) _ ((E4.block _ HS0.out).trans HL0.out) Try.underlying33 rfl hi20.out ?_))
    refine (clone_any c B _ (HB0.out.ext E4) ho HN.out).mono ?_
    rintro e u18 ⟨cx, rfl, hO, hx⟩
    have Eu := Ext.trans E4 hx
    have hcxz := Lib.hid (size_z20.trans (hO.size ho).symm)
    have hcxo := Lib.hid (hO.one ho)
    have hcxi := Lib.hid (show (Try.prog.info? 33).map (·.size) = some cx.size by rw [hO.size ho]; exact size_br)
    obtain ⟨gx, hM⟩ := hO.made hx.size hn1
    obtain ⟨Nx, hN0, hsz⟩ := nameLe hx.size
    have hNE : W0.heap.size ≤ Nx := by
      rw [← hN0]
      exact E4.size
    rw [hN0] at hM
    have HMK := Lib.hid (show ∀ wx : World, wx = u18.alloc (.cells cx 33) → BrG wx (fun n => Nx ≤ n ∧ n < u18.heap.size + 1) u18.heap.size gx B ∧ Ext W0 wx from by
      rintro _ rfl
      exact ⟨hM, Eu.alloc _⟩)
    clear hM hO hx Eu hN0 E4
    obtain ⟨X, hX0⟩ : ∃ n, u18.heap.size = n := ⟨_, rfl⟩
    have HX0 := Lib.hid hX0
    rw [hX0] at HMK hsz
    have hsx := Lib.hid (show Nx ≤ X ∧ W0.heap.size ≤ Nx from ⟨hsz, hNE⟩)
    clear hsz hNE hX0
    go_upto_region 13 with (first
      | fail
      | ((with_reducible refine at_store 33 ?_); refine wpList_store_new3 rfl rfl 33 _ _ _ rfl _ cx _ rfl ?_ rfl hcxi.out hcxz.out hcxo.out ?_; · rfl
         intro wx hwx
         have hmk := HMK.out wx hwx
         obtain ⟨hBx, E19⟩ := hmk
         have H19x := Lib.hid hBx
         rw [HX0.out]
         clear hwx hBx HMK HX0 hcxz hcxo hcxi
         obtain ⟨hXl, hgl, hne⟩ := H19x.out.lt
         obtain ⟨cap, c17, hca, hcb⟩ := H19x.out.cell17 ho
         have hfr := H19x.out.frozen
         have p2 := (H19x.out.cellg (i := k * 89 + 2) (lt89 (N := (B).np) hk (by decide))).trans (Br.ok.gb ho (k := k) hk 2 rfl)
         have p18 := (H19x.out.cellg (i := k * 89 + 18) (lt89 (N := (B).np) hk (by decide))).trans (Br.ok.gi ho (k := k) hk 18 rfl)
         have p50 := (H19x.out.cellg (i := k * 89 + 50) (lt89 (N := (B).np) hk (by decide))).trans (Br.ok.gb ho (k := k) hk 50 rfl)
         have p36 := (H19x.out.cellg (i := k * 89 + 36) (lt89 (N := (B).np) hk (by decide))).trans (Br.ok.gb ho (k := k) hk 36 rfl)))
    have HZ20 := Lib.hid (show BrG _ (fun n => Nx ≤ n ∧ n < X + 1) X gx (hb0 B k m) from ((((H19x.out.setp (k := k) (j := 2) hk (by decide) (.bool true)).setp (k := k) (j := 18) hk (by decide) (.int .i64 2)).setp (k := k) (j := 50) hk (by decide) (.bool false)).setp (k := k) (j := 36) hk (by decide) (.bool true)))
    have okz20 : Br.ok (hb0 B k m) := (hb0_ok ho hk)
    have hmz := (((((Mut.refl (fun n => Nx ≤ n ∧ n < X + 1) wx).setCell (p := ⟨gx, k * 89 + 2, none⟩) (.inl H19x.out.F2) (.bool true)).setCell (p := ⟨gx, k * 89 + 18, none⟩) (.inl H19x.out.F2) (.int .i64 2)).setCell (p := ⟨gx, k * 89 + 50, none⟩) (.inl H19x.out.F2) (.bool false)).setCell (p := ⟨gx, k * 89 + 36, none⟩) (.inl H19x.out.F2) (.bool true))
    have EZ20 := Ext.mutE E19 hmz (fun n hn h1 => by have := h1.1; have := hsx.out; omega)
    clear E19
    have HMZ := Lib.hid hmz
    clear hmz
    clear c17 hfr p2 p18 p50 p36
    obtain ⟨hXl, hgl, hne⟩ := HZ20.out.lt
    obtain ⟨cap, c17, hca, hcb⟩ := HZ20.out.cell17 okz20
    rw [show ((hb0 B k m)).np = B.np from hb0_np] at c17 hca
    have hfr := HZ20.out.frozen
    have HMX := Lib.hid (show M < W0.heap.size from heap_lt HL_M.out)
    have hMr := Lib.hid ((EZ20.block _ HMX.out).trans HL_M.out)
    go_upto_region 17 with (first
      | fail
      | ((with_reducible refine at_load 49 ?_); refine wpList_load_row rfl 49 _ rfl M rfl 49 m.1.toArray (0, 0) _ hMr.out Try.underlying49 rfl him.out ?_)
      | ((with_reducible refine at_store 49 ?_); refine wpList_store_midN rfl rfl 49 _ _ rfl gx (k * 89 + 51) m.1.toArray rfl rfl (by rw [hlm.out]; exact HZ20.out.thereAt (k := k) (show k < Br.np (hb0 B k m) by rw [hb0_np]; exact hk) (by decide)) him.out hom.out ?_
         intro wy hwy
         have hBS : BrG wy (fun n => Nx ≤ n ∧ n < X + 1) X gx (hb1 B k m) := by
           rw [hwy]
           exact HZ20.out.setr (k := k) (j := 51) (show k < Br.np (hb0 B k m) by rw [hb0_np]; exact hk) (by rw [show m.1.length = 17 from m.2.1]; decide)
         have E21 : Ext W0 wy := by
           rw [hwy]
           exact Ext.mutE EZ20 (Mut.setCells (F := (fun n => Nx ≤ n ∧ n < X + 1)) (.inl HZ20.out.F2) _ _ (Mut.refl _ _)) (fun n hn h1 => by have := h1.1; have := hsx.out; omega)
         have H21x := Lib.hid hBS
         clear hwy hBS EZ20 c17 hfr hMr
         obtain ⟨hXl, hgl, hne⟩ := H21x.out.lt
         obtain ⟨cap, c17, hca, hcb⟩ := H21x.out.cell17 (hb1_ok ho hk)
         rw [show ((hb1 B k m)).np = B.np from hb1_np] at c17 hca
         have hfr := H21x.out.frozen
         have p51 := (H21x.out.cellg (i := k * 89 + 51) (lt89 (N := ((hb1 B k m)).np) (show k < Br.np (hb1 B k m) by rw [hb1_np]; exact hk) (by decide))).trans (Br.ok.gi (hb1_ok ho hk) (k := k) (show k < Br.np (hb1 B k m) by rw [hb1_np]; exact hk) 51 rfl)
         have p86 := (H21x.out.cellg (i := k * 89 + 86) (lt89 (N := ((hb1 B k m)).np) (show k < Br.np (hb1 B k m) by rw [hb1_np]; exact hk) (by decide))).trans (Br.ok.gi (hb1_ok ho hk) (k := k) (show k < Br.np (hb1 B k m) by rw [hb1_np]; exact hk) 86 rfl)
         rw [(show ((hb1 B k m)).gi k 86 = B.gi k 86 by rw [← pI_port (by decide), hb1_port h89.out]; unfold hb1P; rw [pI_setL_out (by rw [hb0_plen h89.out, show (hb1M B k m).length = 17 from m.2.1]; decide) (by rw [show (hb1M B k m).length = 17 from m.2.1]; decide)]; unfold hb0P; simp [pI_set_ne, pI_port])] at p86
         have b86 : (B.gi k 86 == 3) = false := by simpa using h86))
    have HZ22 := Lib.hid (show BrG _ (fun n => Nx ≤ n ∧ n < X + 1) X gx (hb2 B k m) from (H21x.out.setp (k := k) (j := 51) (show k < Br.np (hb1 B k m) by rw [hb1_np]; exact hk) (by decide) (.int .i64 0)))
    have okz22 : Br.ok (hb2 B k m) := hb2_ok ho hk
    have hmz := ((Mut.refl (fun n => Nx ≤ n ∧ n < X + 1) wy).setCell (p := ⟨gx, k * 89 + 51, none⟩) (.inl H21x.out.F2) (.int .i64 0))
    have EZ22 := Ext.mutE E21 hmz (fun n hn h1 => by have := h1.1; have := hsx.out; omega)
    clear E21
    have HMZ := Lib.hid hmz
    clear hmz
    clear c17 hfr p51 p86
    clear b86
    generalize World.setCell wy _ _ = wk at *
    obtain ⟨hXl, hgl, hne⟩ := HZ22.out.lt
    obtain ⟨cap, c17, hca, hcb⟩ := HZ22.out.cell17 okz22
    rw [show ((hb2 B k m)).np = B.np from hb2_np] at c17 hca
    have hfr := HZ22.out.frozen
    have hkc : k < Br.np (hb2 B k m) := (show k < Br.np (hb2 B k m) by rw [hb2_np]; exact hk)
    have hrw0 := HZ22.out.range (k := k) hkc
    have cw68 : (port (Br.ps (hb2 B k m)) k)[68]? = some (.int .u64 (B.gi k 68)) := (port_at (B := (hb2 B k m)) (k := k) (j := 68) (by decide)).trans ((Br.ok.gi okz22 (k := k) hkc 68 rfl).trans (by rw [hb2_68 h89.out]))
    have cw69 : (port (Br.ps (hb2 B k m)) k)[69]? = some (.int .u32 (B.gi k 69)) := (port_at (B := (hb2 B k m)) (k := k) (j := 69) (by decide)).trans ((Br.ok.gi okz22 (k := k) hkc 69 rfl).trans (by rw [hb2_69 h89.out]))
    have cw70 : (port (Br.ps (hb2 B k m)) k)[70]? = some (.int .u64 (B.gi k 70)) := (port_at (B := (hb2 B k m)) (k := k) (j := 70) (by decide)).trans ((Br.ok.gi okz22 (k := k) hkc 70 rfl).trans (by rw [hb2_70 h89.out]))
    have cw71 : (port (Br.ps (hb2 B k m)) k)[71]? = some (.int .u16 (B.gi k 71)) := (port_at (B := (hb2 B k m)) (k := k) (j := 71) (by decide)).trans ((Br.ok.gi okz22 (k := k) hkc 71 rfl).trans (by rw [hb2_71 h89.out]))
    have cw72 : (port (Br.ps (hb2 B k m)) k)[72]? = some (.int .u16 (B.gi k 72)) := (port_at (B := (hb2 B k m)) (k := k) (j := 72) (by decide)).trans ((Br.ok.gi okz22 (k := k) hkc 72 rfl).trans (by rw [hb2_72 h89.out]))
    have cw78 : (port (Br.ps (hb2 B k m)) k)[78]? = some (.int .i64 (B.gi k 78)) := (port_at (B := (hb2 B k m)) (k := k) (j := 78) (by decide)).trans ((Br.ok.gi okz22 (k := k) hkc 78 rfl).trans (by rw [hb2_78 h89.out]))
    have cw79 : (port (Br.ps (hb2 B k m)) k)[79]? = some (.int .i64 (B.gi k 79)) := (port_at (B := (hb2 B k m)) (k := k) (j := 79) (by decide)).trans ((Br.ok.gi okz22 (k := k) hkc 79 rfl).trans (by rw [hb2_79 h89.out]))
    have cw80 : (port (Br.ps (hb2 B k m)) k)[80]? = some (.int .i64 (B.gi k 80)) := (port_at (B := (hb2 B k m)) (k := k) (j := 80) (by decide)).trans ((Br.ok.gi okz22 (k := k) hkc 80 rfl).trans (by rw [hb2_80 h89.out]))
    have cw81 : (port (Br.ps (hb2 B k m)) k)[81]? = some (.int .i64 (B.gi k 81)) := (port_at (B := (hb2 B k m)) (k := k) (j := 81) (by decide)).trans ((Br.ok.gi okz22 (k := k) hkc 81 rfl).trans (by rw [hb2_81 h89.out]))
    have cw86 : (port (Br.ps (hb2 B k m)) k)[86]? = some (.int .i64 (B.gi k 86)) := (port_at (B := (hb2 B k m)) (k := k) (j := 86) (by decide)).trans ((Br.ok.gi okz22 (k := k) hkc 86 rfl).trans (by rw [hb2_86 h89.out]))
    have cw6 : (port (Br.ps (hb2 B k m)) k)[6]? = some (.int .i64 (B.gi k 6)) := (port_at (B := (hb2 B k m)) (k := k) (j := 6) (by decide)).trans ((Br.ok.gi okz22 (k := k) hkc 6 rfl).trans (by rw [hb2_6 h89.out]))
    have cw7 : (port (Br.ps (hb2 B k m)) k)[7]? = some (.int .i64 (B.gi k 7)) := (port_at (B := (hb2 B k m)) (k := k) (j := 7) (by decide)).trans ((Br.ok.gi okz22 (k := k) hkc 7 rfl).trans (by rw [hb2_7 h89.out]))
    have cw8 : (port (Br.ps (hb2 B k m)) k)[8]? = some (.int .i64 (B.gi k 8)) := (port_at (B := (hb2 B k m)) (k := k) (j := 8) (by decide)).trans ((Br.ok.gi okz22 (k := k) hkc 8 rfl).trans (by rw [hb2_8 h89.out]))
    have cw9 : (port (Br.ps (hb2 B k m)) k)[9]? = some (.int .i64 (B.gi k 9)) := (port_at (B := (hb2 B k m)) (k := k) (j := 9) (by decide)).trans ((Br.ok.gi okz22 (k := k) hkc 9 rfl).trans (by rw [hb2_9 h89.out]))
    have cw10 : (port (Br.ps (hb2 B k m)) k)[10]? = some (.int .i64 (B.gi k 10)) := (port_at (B := (hb2 B k m)) (k := k) (j := 10) (by decide)).trans ((Br.ok.gi okz22 (k := k) hkc 10 rfl).trans (by rw [hb2_10 h89.out]))
    have cw11 : (port (Br.ps (hb2 B k m)) k)[11]? = some (.int .i64 (B.gi k 11)) := (port_at (B := (hb2 B k m)) (k := k) (j := 11) (by decide)).trans ((Br.ok.gi okz22 (k := k) hkc 11 rfl).trans (by rw [hb2_11 h89.out]))
    have cw12 : (port (Br.ps (hb2 B k m)) k)[12]? = some (.int .i64 (B.gi k 12)) := (port_at (B := (hb2 B k m)) (k := k) (j := 12) (by decide)).trans ((Br.ok.gi okz22 (k := k) hkc 12 rfl).trans (by rw [hb2_12 h89.out]))
    have cw13 : (port (Br.ps (hb2 B k m)) k)[13]? = some (.int .i64 (B.gi k 13)) := (port_at (B := (hb2 B k m)) (k := k) (j := 13) (by decide)).trans ((Br.ok.gi okz22 (k := k) hkc 13 rfl).trans (by rw [hb2_13 h89.out]))
    have cw14 : (port (Br.ps (hb2 B k m)) k)[14]? = some (.int .i64 (B.gi k 14)) := (port_at (B := (hb2 B k m)) (k := k) (j := 14) (by decide)).trans ((Br.ok.gi okz22 (k := k) hkc 14 rfl).trans (by rw [hb2_14 h89.out]))
    have cw44 : (port (Br.ps (hb2 B k m)) k)[44]? = some (.bool (B.gb k 44)) := (port_at (B := (hb2 B k m)) (k := k) (j := 44) (by decide)).trans ((Br.ok.gb okz22 (k := k) hkc 44 rfl).trans (by rw [hb2_44 h89.out]))
    have hnw0 : (port (Br.ps (hb2 B k m)) k).length = 89 := (port_typed okz22 (i := k) hkc).1
    have how := Lib.hid (all_oneCell_toArray (port_typed okz22 (i := k) hkc).one)
    obtain ⟨pw, hpw⟩ : ∃ p, port (Br.ps (hb2 B k m)) k = p := ⟨_, rfl⟩
    rw [hpw] at hrw0 hnw0 how cw68 cw69 cw70 cw71 cw72 cw78 cw79 cw80 cw81 cw86 cw6 cw7 cw8 cw9 cw10 cw11 cw12 cw13 cw14 cw44
    clear hpw
    have hrw := Lib.hid hrw0
    clear hrw0
    have hiw := Lib.hid (show (Try.prog.info? 51).map (·.size) = some pw.length by rw [hnw0]; exact size_port)
    have hjw := Lib.hid (show (Try.prog.info? 51).map (·.size) = some pw.toArray.size by rw [List.size_toArray, hnw0]; exact size_port)
    have hswz := Lib.hid (show PZ.size = pw.toArray.size by rw [List.size_toArray]; exact hnw0.symm)
    have hzw := zero_port
    clear hnw0
    clear hkc
    go_wp2_with (first
      | fail
      | ((with_reducible refine at_load 51 ?_); refine wpList_load_mid rfl 51 _ rfl gx (k * 89) rfl pw _ hrw.out Try.underlying51 rfl hiw.out ?_)
      | ((with_reducible refine at_store 51 ?_); refine wpList_store_new3 rfl rfl 51 _ _ _ rfl PZ pw.toArray _ rfl ?_ rfl hjw.out hswz.out (by rw [Array.all_toList]; exact how.out) ?_; · rfl
         intro wfw hwf
         have hY := HZ22.out.alloc (.cells pw.toArray 51)
         rw [← hwf] at hY
         have hE0 : Ext wk wfw := by rw [hwf]; exact (Ext.refl _).alloc _
         have E23 := EZ22.trans hE0
         have hbx := heap_alloc_new wk (.cells pw.toArray 51)
         rw [← hwf] at hbx
         have hxb := Lib.hid HZ22.out.lt.1
         obtain ⟨fw, hfb⟩ : ∃ n, wk.heap.size = n := ⟨_, rfl⟩
         rw [hfb] at hbx hxb ⊢
         have HFw := Lib.hid hbx
         have HGw := hxb
         have H23x := Lib.hid hY
         clear hwf hY hbx hxb hfb hE0 EZ22 hzw
         have qw68 : wfw.cell? ⟨fw, 68, none⟩ = some (.int .u64 (B.gi k 68)) := by rw [cell_of_row _ _ _ _ _ _ HFw.out]; simpa using cw68
         have qw69 : wfw.cell? ⟨fw, 69, none⟩ = some (.int .u32 (B.gi k 69)) := by rw [cell_of_row _ _ _ _ _ _ HFw.out]; simpa using cw69
         have qw70 : wfw.cell? ⟨fw, 70, none⟩ = some (.int .u64 (B.gi k 70)) := by rw [cell_of_row _ _ _ _ _ _ HFw.out]; simpa using cw70
         have qw71 : wfw.cell? ⟨fw, 71, none⟩ = some (.int .u16 (B.gi k 71)) := by rw [cell_of_row _ _ _ _ _ _ HFw.out]; simpa using cw71
         have qw72 : wfw.cell? ⟨fw, 72, none⟩ = some (.int .u16 (B.gi k 72)) := by rw [cell_of_row _ _ _ _ _ _ HFw.out]; simpa using cw72
         have qw78 : wfw.cell? ⟨fw, 78, none⟩ = some (.int .i64 (B.gi k 78)) := by rw [cell_of_row _ _ _ _ _ _ HFw.out]; simpa using cw78
         have qw79 : wfw.cell? ⟨fw, 79, none⟩ = some (.int .i64 (B.gi k 79)) := by rw [cell_of_row _ _ _ _ _ _ HFw.out]; simpa using cw79
         have qw80 : wfw.cell? ⟨fw, 80, none⟩ = some (.int .i64 (B.gi k 80)) := by rw [cell_of_row _ _ _ _ _ _ HFw.out]; simpa using cw80
         have qw81 : wfw.cell? ⟨fw, 81, none⟩ = some (.int .i64 (B.gi k 81)) := by rw [cell_of_row _ _ _ _ _ _ HFw.out]; simpa using cw81
         have qw86 : wfw.cell? ⟨fw, 86, none⟩ = some (.int .i64 (B.gi k 86)) := by rw [cell_of_row _ _ _ _ _ _ HFw.out]; simpa using cw86
         have qw6 : wfw.cell? ⟨fw, 6, none⟩ = some (.int .i64 (B.gi k 6)) := by rw [cell_of_row _ _ _ _ _ _ HFw.out]; simpa using cw6
         have qw7 : wfw.cell? ⟨fw, 7, none⟩ = some (.int .i64 (B.gi k 7)) := by rw [cell_of_row _ _ _ _ _ _ HFw.out]; simpa using cw7
         have qw8 : wfw.cell? ⟨fw, 8, none⟩ = some (.int .i64 (B.gi k 8)) := by rw [cell_of_row _ _ _ _ _ _ HFw.out]; simpa using cw8
         have qw9 : wfw.cell? ⟨fw, 9, none⟩ = some (.int .i64 (B.gi k 9)) := by rw [cell_of_row _ _ _ _ _ _ HFw.out]; simpa using cw9
         have qw10 : wfw.cell? ⟨fw, 10, none⟩ = some (.int .i64 (B.gi k 10)) := by rw [cell_of_row _ _ _ _ _ _ HFw.out]; simpa using cw10
         have qw11 : wfw.cell? ⟨fw, 11, none⟩ = some (.int .i64 (B.gi k 11)) := by rw [cell_of_row _ _ _ _ _ _ HFw.out]; simpa using cw11
         have qw12 : wfw.cell? ⟨fw, 12, none⟩ = some (.int .i64 (B.gi k 12)) := by rw [cell_of_row _ _ _ _ _ _ HFw.out]; simpa using cw12
         have qw13 : wfw.cell? ⟨fw, 13, none⟩ = some (.int .i64 (B.gi k 13)) := by rw [cell_of_row _ _ _ _ _ _ HFw.out]; simpa using cw13
         have qw14 : wfw.cell? ⟨fw, 14, none⟩ = some (.int .i64 (B.gi k 14)) := by rw [cell_of_row _ _ _ _ _ _ HFw.out]; simpa using cw14
         have qw44 : wfw.cell? ⟨fw, 44, none⟩ = some (.bool (B.gb k 44)) := by rw [cell_of_row _ _ _ _ _ _ HFw.out]; simpa using cw44
         have RRw68 := Lib.hid (show wfw.rangeAt fw 68 [Value.int .u64 (B.gi k 68), Value.int .u32 (B.gi k 69), Value.int .u64 (B.gi k 70), Value.int .u16 (B.gi k 71), Value.int .u16 (B.gi k 72)] from (range_cons qw68 (range_cons qw69 (range_cons qw70 (range_cons qw71 (range_cons qw72 range_nil))))))
         have hMr := (E23.block _ (heap_lt HL_M.out)).trans HL_M.out
         have RM8 := Lib.hid (show wfw.rangeAt M 8 [Value.int .u64 (pI m.1 8), Value.int .u32 (pI m.1 9), Value.int .u64 (pI m.1 10), Value.int .u16 (pI m.1 11), Value.int .u16 (pI m.1 12)] from (range_cons ((cell_of_row _ _ 8 _ _ _ hMr).trans (by simpa using tyI m.2 8 rfl)) (range_cons ((cell_of_row _ _ 9 _ _ _ hMr).trans (by simpa using tyI m.2 9 rfl)) (range_cons ((cell_of_row _ _ 10 _ _ _ hMr).trans (by simpa using tyI m.2 10 rfl)) (range_cons ((cell_of_row _ _ 11 _ _ _ hMr).trans (by simpa using tyI m.2 11 rfl)) (range_cons ((cell_of_row _ _ 12 _ _ _ hMr).trans (by simpa using tyI m.2 12 rfl)) range_nil))))))
         clear hMr)
      | ((with_reducible refine at_load 28 ?_); refine wpList_load_mid rfl 28 _ rfl fw 68 rfl [Value.int .u64 (B.gi k 68), Value.int .u32 (B.gi k 69), Value.int .u64 (B.gi k 70), Value.int .u16 (B.gi k 71), Value.int .u16 (B.gi k 72)] _ RRw68.out Try.underlying28 rfl (by exact size_vec) ?_)
      | ((with_reducible refine at_load 28 ?_); refine wpList_load_mid rfl 28 _ rfl M 8 rfl [Value.int .u64 (pI m.1 8), Value.int .u32 (pI m.1 9), Value.int .u64 (pI m.1 10), Value.int .u16 (pI m.1 11), Value.int .u16 (pI m.1 12)] _ RM8.out Try.underlying28 rfl (by exact size_vec) ?_))
    refine (asb (ref_less _ _ _ _ _ _ _ _ _ _ _) HLS.out).mono ?_
    rintro e v24 ⟨rfl, hx⟩
    have E24 := Ext.trans E23 hx
    have H24x := Lib.hid (H23x.out.ext hx)
    have HFw := Lib.hid ((hx.block _ (heap_lt HFw.out)).trans HFw.out)
    clear hx E23 RM8 RRw68 qw68 qw69 qw70 qw71 qw72 qw78 qw79 qw80 qw81 qw86 qw6 qw7 qw8 qw9 qw10 qw11 qw12 qw13 qw14 qw44
    go_wp2_with fail
    have htm := hb2_tim (B := B) (k := k) (m := m) h89.out HTF.out
    have HTM := Lib.hid htm
    clear htm
    refine (inf_step _ (fun n => Nx ≤ n ∧ n < X + 1) X gx k (hb2 B k m) H24x.out okz22 (show k < Br.np (hb2 B k m) by rw [hb2_np]; exact hk) (show Br.np (hb2 B k m) < 1000 by have := hn8; simpa only [hb2_np] using this) HTM.out).mono ?_
    rw [hb_step h89.out]
    rintro e v25 ⟨he, hB, hm⟩
    obtain rfl : e = .returned (.bool true) := he
    have HFw := Lib.hid ((hm.heap (heap_lt HFw.out) (fun hh => by have h1 := hh.2; have h2 := HGw.out; omega)).trans HFw.out)
    have ok25 : Br.ok (hbT B k m) := by
      have := infF_ok (B := (hb2 B k m)) (k := k) okz22 (show k < Br.np (hb2 B k m) by rw [hb2_np]; exact hk) HTM.out
      rw [hb_step h89.out] at this
      exact this
    have E25 := Ext.mutE E24 hm (fun n hn h1 => by have := h1.1; have := hsx.out; omega)
    clear E24
    have H25x := Lib.hid (show BrG _ (fun n => Nx ≤ n ∧ n < X + 1) X gx (hbT B k m) from hB)
    clear hB hm
    cases ls
    · cases tl
      · obtain ⟨hXl, hgl, hne⟩ := H25x.out.lt
        obtain ⟨cap, c17, hca, hcb⟩ := H25x.out.cell17 ok25
        rw [show ((hbT B k m)).np = B.np from hbT_np] at c17 hca
        have hfr := H25x.out.frozen
        have hkc : k < Br.np (hbT B k m) := (show k < Br.np (hbT B k m) by rw [hbT_np]; exact hk)
        have hrq0 := H25x.out.range (k := k) hkc
        have cq36 : (port (Br.ps (hbT B k m)) k)[36]? = some (.bool false) := (port_at (B := (hbT B k m)) (k := k) (j := 36) (by decide)).trans ((Br.ok.gb ok25 (k := k) hkc 36 rfl).trans (by rw [hbIT_36 h89.out HLS.out HTL.out]))
        have cq68 : (port (Br.ps (hbT B k m)) k)[68]? = some (.int .u64 (B.gi k 68)) := (port_at (B := (hbT B k m)) (k := k) (j := 68) (by decide)).trans ((Br.ok.gi ok25 (k := k) hkc 68 rfl).trans (by rw [hbIT_68 h89.out HLS.out HTL.out]))
        have cq69 : (port (Br.ps (hbT B k m)) k)[69]? = some (.int .u32 (B.gi k 69)) := (port_at (B := (hbT B k m)) (k := k) (j := 69) (by decide)).trans ((Br.ok.gi ok25 (k := k) hkc 69 rfl).trans (by rw [hbIT_69 h89.out HLS.out HTL.out]))
        have cq70 : (port (Br.ps (hbT B k m)) k)[70]? = some (.int .u64 (B.gi k 70)) := (port_at (B := (hbT B k m)) (k := k) (j := 70) (by decide)).trans ((Br.ok.gi ok25 (k := k) hkc 70 rfl).trans (by rw [hbIT_70 h89.out HLS.out HTL.out]))
        have cq71 : (port (Br.ps (hbT B k m)) k)[71]? = some (.int .u16 (B.gi k 71)) := (port_at (B := (hbT B k m)) (k := k) (j := 71) (by decide)).trans ((Br.ok.gi ok25 (k := k) hkc 71 rfl).trans (by rw [hbIT_71 h89.out HLS.out HTL.out]))
        have cq72 : (port (Br.ps (hbT B k m)) k)[72]? = some (.int .u16 (B.gi k 72)) := (port_at (B := (hbT B k m)) (k := k) (j := 72) (by decide)).trans ((Br.ok.gi ok25 (k := k) hkc 72 rfl).trans (by rw [hbIT_72 h89.out HLS.out HTL.out]))
        have cq78 : (port (Br.ps (hbT B k m)) k)[78]? = some (.int .i64 (B.gi k 78)) := (port_at (B := (hbT B k m)) (k := k) (j := 78) (by decide)).trans ((Br.ok.gi ok25 (k := k) hkc 78 rfl).trans (by rw [hbIT_78 h89.out HLS.out HTL.out]))
        have cq79 : (port (Br.ps (hbT B k m)) k)[79]? = some (.int .i64 (B.gi k 79)) := (port_at (B := (hbT B k m)) (k := k) (j := 79) (by decide)).trans ((Br.ok.gi ok25 (k := k) hkc 79 rfl).trans (by rw [hbIT_79 h89.out HLS.out HTL.out]))
        have cq80 : (port (Br.ps (hbT B k m)) k)[80]? = some (.int .i64 (B.gi k 80)) := (port_at (B := (hbT B k m)) (k := k) (j := 80) (by decide)).trans ((Br.ok.gi ok25 (k := k) hkc 80 rfl).trans (by rw [hbIT_80 h89.out HLS.out HTL.out]))
        have cq81 : (port (Br.ps (hbT B k m)) k)[81]? = some (.int .i64 (B.gi k 81)) := (port_at (B := (hbT B k m)) (k := k) (j := 81) (by decide)).trans ((Br.ok.gi ok25 (k := k) hkc 81 rfl).trans (by rw [hbIT_81 h89.out HLS.out HTL.out]))
        have cq86 : (port (Br.ps (hbT B k m)) k)[86]? = some (.int .i64 (B.gi k 86)) := (port_at (B := (hbT B k m)) (k := k) (j := 86) (by decide)).trans ((Br.ok.gi ok25 (k := k) hkc 86 rfl).trans (by rw [hbIT_86 h89.out HLS.out HTL.out]))
        have cq6 : (port (Br.ps (hbT B k m)) k)[6]? = some (.int .i64 (B.gi k 6)) := (port_at (B := (hbT B k m)) (k := k) (j := 6) (by decide)).trans ((Br.ok.gi ok25 (k := k) hkc 6 rfl).trans (by rw [hbIT_6 h89.out HLS.out HTL.out]))
        have cq7 : (port (Br.ps (hbT B k m)) k)[7]? = some (.int .i64 (B.gi k 7)) := (port_at (B := (hbT B k m)) (k := k) (j := 7) (by decide)).trans ((Br.ok.gi ok25 (k := k) hkc 7 rfl).trans (by rw [hbIT_7 h89.out HLS.out HTL.out]))
        have cq8 : (port (Br.ps (hbT B k m)) k)[8]? = some (.int .i64 (B.gi k 8)) := (port_at (B := (hbT B k m)) (k := k) (j := 8) (by decide)).trans ((Br.ok.gi ok25 (k := k) hkc 8 rfl).trans (by rw [hbIT_8 h89.out HLS.out HTL.out]))
        have cq9 : (port (Br.ps (hbT B k m)) k)[9]? = some (.int .i64 (B.gi k 9)) := (port_at (B := (hbT B k m)) (k := k) (j := 9) (by decide)).trans ((Br.ok.gi ok25 (k := k) hkc 9 rfl).trans (by rw [hbIT_9 h89.out HLS.out HTL.out]))
        have cq10 : (port (Br.ps (hbT B k m)) k)[10]? = some (.int .i64 (B.gi k 10)) := (port_at (B := (hbT B k m)) (k := k) (j := 10) (by decide)).trans ((Br.ok.gi ok25 (k := k) hkc 10 rfl).trans (by rw [hbIT_10 h89.out HLS.out HTL.out]))
        have cq11 : (port (Br.ps (hbT B k m)) k)[11]? = some (.int .i64 (B.gi k 11)) := (port_at (B := (hbT B k m)) (k := k) (j := 11) (by decide)).trans ((Br.ok.gi ok25 (k := k) hkc 11 rfl).trans (by rw [hbIT_11 h89.out HLS.out HTL.out]))
        have cq12 : (port (Br.ps (hbT B k m)) k)[12]? = some (.int .i64 (B.gi k 12)) := (port_at (B := (hbT B k m)) (k := k) (j := 12) (by decide)).trans ((Br.ok.gi ok25 (k := k) hkc 12 rfl).trans (by rw [hbIT_12 h89.out HLS.out HTL.out]))
        have cq13 : (port (Br.ps (hbT B k m)) k)[13]? = some (.int .i64 (B.gi k 13)) := (port_at (B := (hbT B k m)) (k := k) (j := 13) (by decide)).trans ((Br.ok.gi ok25 (k := k) hkc 13 rfl).trans (by rw [hbIT_13 h89.out HLS.out HTL.out]))
        have cq14 : (port (Br.ps (hbT B k m)) k)[14]? = some (.int .i64 (B.gi k 14)) := (port_at (B := (hbT B k m)) (k := k) (j := 14) (by decide)).trans ((Br.ok.gi ok25 (k := k) hkc 14 rfl).trans (by rw [hbIT_14 h89.out HLS.out HTL.out]))
        have cq44 : (port (Br.ps (hbT B k m)) k)[44]? = some (.bool (B.gb k 44)) := (port_at (B := (hbT B k m)) (k := k) (j := 44) (by decide)).trans ((Br.ok.gb ok25 (k := k) hkc 44 rfl).trans (by rw [hbIT_44 h89.out HLS.out HTL.out]))
        have hnq0 : (port (Br.ps (hbT B k m)) k).length = 89 := (port_typed ok25 (i := k) hkc).1
        have hoq := Lib.hid (all_oneCell_toArray (port_typed ok25 (i := k) hkc).one)
        obtain ⟨pq, hpq⟩ : ∃ p, port (Br.ps (hbT B k m)) k = p := ⟨_, rfl⟩
        rw [hpq] at hrq0 hnq0 hoq cq36 cq68 cq69 cq70 cq71 cq72 cq78 cq79 cq80 cq81 cq86 cq6 cq7 cq8 cq9 cq10 cq11 cq12 cq13 cq14 cq44
        clear hpq
        have hrq := Lib.hid hrq0
        clear hrq0
        have hiq := Lib.hid (show (Try.prog.info? 51).map (·.size) = some pq.length by rw [hnq0]; exact size_port)
        have hjq := Lib.hid (show (Try.prog.info? 51).map (·.size) = some pq.toArray.size by rw [List.size_toArray, hnq0]; exact size_port)
        have hsqz := Lib.hid (show PZ.size = pq.toArray.size by rw [List.size_toArray]; exact hnq0.symm)
        have hzq := zero_port
        clear hnq0
        clear hkc
        go_wp2_with (first
          | fail
          | ((with_reducible refine at_load 51 ?_); refine wpList_load_mid rfl 51 _ rfl gx (k * 89) rfl pq _ hrq.out Try.underlying51 rfl hiq.out ?_)
          | ((with_reducible refine at_store 51 ?_); refine wpList_store_new3 rfl rfl 51 _ _ _ rfl PZ pq.toArray _ rfl ?_ rfl hjq.out hsqz.out (by rw [Array.all_toList]; exact hoq.out) ?_; · rfl
             intro wfq hwf
             have HFw := Lib.hid (show wfq.heap[fw]? = some (.cells pw.toArray 51 (0, 0)) from by rw [hwf]; exact (heap_alloc_old _ _ (heap_lt HFw.out)).trans HFw.out)
             have hY := H25x.out.alloc (.cells pq.toArray 51)
             rw [← hwf] at hY
             have hE0 : Ext v25 wfq := by rw [hwf]; exact (Ext.refl _).alloc _
             have E26 := E25.trans hE0
             have hbx := heap_alloc_new v25 (.cells pq.toArray 51)
             rw [← hwf] at hbx
             have hxb := Lib.hid H25x.out.lt.1
             obtain ⟨fq, hfb⟩ : ∃ n, v25.heap.size = n := ⟨_, rfl⟩
             rw [hfb] at hbx hxb ⊢
             have HFq := Lib.hid hbx
             have HGq := hxb
             have H26x := Lib.hid hY
             clear hwf hY hbx hxb hfb hE0 E25 hzq
             have qw68 : wfq.cell? ⟨fw, 68, none⟩ = some (.int .u64 (B.gi k 68)) := by rw [cell_of_row _ _ _ _ _ _ HFw.out]; simpa using cw68
             have qw69 : wfq.cell? ⟨fw, 69, none⟩ = some (.int .u32 (B.gi k 69)) := by rw [cell_of_row _ _ _ _ _ _ HFw.out]; simpa using cw69
             have qw70 : wfq.cell? ⟨fw, 70, none⟩ = some (.int .u64 (B.gi k 70)) := by rw [cell_of_row _ _ _ _ _ _ HFw.out]; simpa using cw70
             have qw71 : wfq.cell? ⟨fw, 71, none⟩ = some (.int .u16 (B.gi k 71)) := by rw [cell_of_row _ _ _ _ _ _ HFw.out]; simpa using cw71
             have qw72 : wfq.cell? ⟨fw, 72, none⟩ = some (.int .u16 (B.gi k 72)) := by rw [cell_of_row _ _ _ _ _ _ HFw.out]; simpa using cw72
             have qw78 : wfq.cell? ⟨fw, 78, none⟩ = some (.int .i64 (B.gi k 78)) := by rw [cell_of_row _ _ _ _ _ _ HFw.out]; simpa using cw78
             have qw79 : wfq.cell? ⟨fw, 79, none⟩ = some (.int .i64 (B.gi k 79)) := by rw [cell_of_row _ _ _ _ _ _ HFw.out]; simpa using cw79
             have qw80 : wfq.cell? ⟨fw, 80, none⟩ = some (.int .i64 (B.gi k 80)) := by rw [cell_of_row _ _ _ _ _ _ HFw.out]; simpa using cw80
             have qw81 : wfq.cell? ⟨fw, 81, none⟩ = some (.int .i64 (B.gi k 81)) := by rw [cell_of_row _ _ _ _ _ _ HFw.out]; simpa using cw81
             have qw86 : wfq.cell? ⟨fw, 86, none⟩ = some (.int .i64 (B.gi k 86)) := by rw [cell_of_row _ _ _ _ _ _ HFw.out]; simpa using cw86
             have qw6 : wfq.cell? ⟨fw, 6, none⟩ = some (.int .i64 (B.gi k 6)) := by rw [cell_of_row _ _ _ _ _ _ HFw.out]; simpa using cw6
             have qw7 : wfq.cell? ⟨fw, 7, none⟩ = some (.int .i64 (B.gi k 7)) := by rw [cell_of_row _ _ _ _ _ _ HFw.out]; simpa using cw7
             have qw8 : wfq.cell? ⟨fw, 8, none⟩ = some (.int .i64 (B.gi k 8)) := by rw [cell_of_row _ _ _ _ _ _ HFw.out]; simpa using cw8
             have qw9 : wfq.cell? ⟨fw, 9, none⟩ = some (.int .i64 (B.gi k 9)) := by rw [cell_of_row _ _ _ _ _ _ HFw.out]; simpa using cw9
             have qw10 : wfq.cell? ⟨fw, 10, none⟩ = some (.int .i64 (B.gi k 10)) := by rw [cell_of_row _ _ _ _ _ _ HFw.out]; simpa using cw10
             have qw11 : wfq.cell? ⟨fw, 11, none⟩ = some (.int .i64 (B.gi k 11)) := by rw [cell_of_row _ _ _ _ _ _ HFw.out]; simpa using cw11
             have qw12 : wfq.cell? ⟨fw, 12, none⟩ = some (.int .i64 (B.gi k 12)) := by rw [cell_of_row _ _ _ _ _ _ HFw.out]; simpa using cw12
             have qw13 : wfq.cell? ⟨fw, 13, none⟩ = some (.int .i64 (B.gi k 13)) := by rw [cell_of_row _ _ _ _ _ _ HFw.out]; simpa using cw13
             have qw14 : wfq.cell? ⟨fw, 14, none⟩ = some (.int .i64 (B.gi k 14)) := by rw [cell_of_row _ _ _ _ _ _ HFw.out]; simpa using cw14
             have qw44 : wfq.cell? ⟨fw, 44, none⟩ = some (.bool (B.gb k 44)) := by rw [cell_of_row _ _ _ _ _ _ HFw.out]; simpa using cw44
             have RRw68 := Lib.hid (show wfq.rangeAt fw 68 [Value.int .u64 (B.gi k 68), Value.int .u32 (B.gi k 69), Value.int .u64 (B.gi k 70), Value.int .u16 (B.gi k 71), Value.int .u16 (B.gi k 72)] from (range_cons qw68 (range_cons qw69 (range_cons qw70 (range_cons qw71 (range_cons qw72 range_nil))))))
             have hMr := (E26.block _ (heap_lt HL_M.out)).trans HL_M.out
             have RM8 := Lib.hid (show wfq.rangeAt M 8 [Value.int .u64 (pI m.1 8), Value.int .u32 (pI m.1 9), Value.int .u64 (pI m.1 10), Value.int .u16 (pI m.1 11), Value.int .u16 (pI m.1 12)] from (range_cons ((cell_of_row _ _ 8 _ _ _ hMr).trans (by simpa using tyI m.2 8 rfl)) (range_cons ((cell_of_row _ _ 9 _ _ _ hMr).trans (by simpa using tyI m.2 9 rfl)) (range_cons ((cell_of_row _ _ 10 _ _ _ hMr).trans (by simpa using tyI m.2 10 rfl)) (range_cons ((cell_of_row _ _ 11 _ _ _ hMr).trans (by simpa using tyI m.2 11 rfl)) (range_cons ((cell_of_row _ _ 12 _ _ _ hMr).trans (by simpa using tyI m.2 12 rfl)) range_nil))))))
             clear hMr)
          | ((with_reducible refine at_load 28 ?_); refine wpList_load_mid rfl 28 _ rfl fw 68 rfl [Value.int .u64 (B.gi k 68), Value.int .u32 (B.gi k 69), Value.int .u64 (B.gi k 70), Value.int .u16 (B.gi k 71), Value.int .u16 (B.gi k 72)] _ RRw68.out Try.underlying28 rfl (by exact size_vec) ?_)
          | ((with_reducible refine at_load 28 ?_); refine wpList_load_mid rfl 28 _ rfl M 8 rfl [Value.int .u64 (pI m.1 8), Value.int .u32 (pI m.1 9), Value.int .u64 (pI m.1 10), Value.int .u16 (pI m.1 11), Value.int .u16 (pI m.1 12)] _ RM8.out Try.underlying28 rfl (by exact size_vec) ?_))
        obtain ⟨w1, w2, w3, w4⟩ := HW.out
        refine (asb (ref_superior _ _ _ _ _ _ _ _ _ _ _ w1 w2 w3 w4) (show _ = false by rw [HLS.out, HTL.out]; rfl)).mono ?_
        rintro e v27 ⟨rfl, hx⟩
        have E27 := Ext.trans E26 hx
        have H27x := Lib.hid (H26x.out.ext hx)
        have HFw := Lib.hid ((hx.block _ (heap_lt HFw.out)).trans HFw.out)
        have HFq := Lib.hid ((hx.block _ (heap_lt HFq.out)).trans HFq.out)
        clear hx E26 RM8 RRw68 qw68 qw69 qw70 qw71 qw72 qw78 qw79 qw80 qw81 qw86 qw6 qw7 qw8 qw9 qw10 qw11 qw12 qw13 qw14 qw44
        have qq36 : v27.cell? ⟨fq, 36, none⟩ = some (.bool false) := by rw [cell_of_row _ _ _ _ _ _ HFq.out]; simpa using cq36
        have qq68 : v27.cell? ⟨fq, 68, none⟩ = some (.int .u64 (B.gi k 68)) := by rw [cell_of_row _ _ _ _ _ _ HFq.out]; simpa using cq68
        have qq69 : v27.cell? ⟨fq, 69, none⟩ = some (.int .u32 (B.gi k 69)) := by rw [cell_of_row _ _ _ _ _ _ HFq.out]; simpa using cq69
        have qq70 : v27.cell? ⟨fq, 70, none⟩ = some (.int .u64 (B.gi k 70)) := by rw [cell_of_row _ _ _ _ _ _ HFq.out]; simpa using cq70
        have qq71 : v27.cell? ⟨fq, 71, none⟩ = some (.int .u16 (B.gi k 71)) := by rw [cell_of_row _ _ _ _ _ _ HFq.out]; simpa using cq71
        have qq72 : v27.cell? ⟨fq, 72, none⟩ = some (.int .u16 (B.gi k 72)) := by rw [cell_of_row _ _ _ _ _ _ HFq.out]; simpa using cq72
        have qq78 : v27.cell? ⟨fq, 78, none⟩ = some (.int .i64 (B.gi k 78)) := by rw [cell_of_row _ _ _ _ _ _ HFq.out]; simpa using cq78
        have qq79 : v27.cell? ⟨fq, 79, none⟩ = some (.int .i64 (B.gi k 79)) := by rw [cell_of_row _ _ _ _ _ _ HFq.out]; simpa using cq79
        have qq80 : v27.cell? ⟨fq, 80, none⟩ = some (.int .i64 (B.gi k 80)) := by rw [cell_of_row _ _ _ _ _ _ HFq.out]; simpa using cq80
        have qq81 : v27.cell? ⟨fq, 81, none⟩ = some (.int .i64 (B.gi k 81)) := by rw [cell_of_row _ _ _ _ _ _ HFq.out]; simpa using cq81
        have qq86 : v27.cell? ⟨fq, 86, none⟩ = some (.int .i64 (B.gi k 86)) := by rw [cell_of_row _ _ _ _ _ _ HFq.out]; simpa using cq86
        have qq6 : v27.cell? ⟨fq, 6, none⟩ = some (.int .i64 (B.gi k 6)) := by rw [cell_of_row _ _ _ _ _ _ HFq.out]; simpa using cq6
        have qq7 : v27.cell? ⟨fq, 7, none⟩ = some (.int .i64 (B.gi k 7)) := by rw [cell_of_row _ _ _ _ _ _ HFq.out]; simpa using cq7
        have qq8 : v27.cell? ⟨fq, 8, none⟩ = some (.int .i64 (B.gi k 8)) := by rw [cell_of_row _ _ _ _ _ _ HFq.out]; simpa using cq8
        have qq9 : v27.cell? ⟨fq, 9, none⟩ = some (.int .i64 (B.gi k 9)) := by rw [cell_of_row _ _ _ _ _ _ HFq.out]; simpa using cq9
        have qq10 : v27.cell? ⟨fq, 10, none⟩ = some (.int .i64 (B.gi k 10)) := by rw [cell_of_row _ _ _ _ _ _ HFq.out]; simpa using cq10
        have qq11 : v27.cell? ⟨fq, 11, none⟩ = some (.int .i64 (B.gi k 11)) := by rw [cell_of_row _ _ _ _ _ _ HFq.out]; simpa using cq11
        have qq12 : v27.cell? ⟨fq, 12, none⟩ = some (.int .i64 (B.gi k 12)) := by rw [cell_of_row _ _ _ _ _ _ HFq.out]; simpa using cq12
        have qq13 : v27.cell? ⟨fq, 13, none⟩ = some (.int .i64 (B.gi k 13)) := by rw [cell_of_row _ _ _ _ _ _ HFq.out]; simpa using cq13
        have qq14 : v27.cell? ⟨fq, 14, none⟩ = some (.int .i64 (B.gi k 14)) := by rw [cell_of_row _ _ _ _ _ _ HFq.out]; simpa using cq14
        have qq44 : v27.cell? ⟨fq, 44, none⟩ = some (.bool (B.gb k 44)) := by rw [cell_of_row _ _ _ _ _ _ HFq.out]; simpa using cq44
        have qw68 : v27.cell? ⟨fw, 68, none⟩ = some (.int .u64 (B.gi k 68)) := by rw [cell_of_row _ _ _ _ _ _ HFw.out]; simpa using cw68
        have qw69 : v27.cell? ⟨fw, 69, none⟩ = some (.int .u32 (B.gi k 69)) := by rw [cell_of_row _ _ _ _ _ _ HFw.out]; simpa using cw69
        have qw70 : v27.cell? ⟨fw, 70, none⟩ = some (.int .u64 (B.gi k 70)) := by rw [cell_of_row _ _ _ _ _ _ HFw.out]; simpa using cw70
        have qw71 : v27.cell? ⟨fw, 71, none⟩ = some (.int .u16 (B.gi k 71)) := by rw [cell_of_row _ _ _ _ _ _ HFw.out]; simpa using cw71
        have qw72 : v27.cell? ⟨fw, 72, none⟩ = some (.int .u16 (B.gi k 72)) := by rw [cell_of_row _ _ _ _ _ _ HFw.out]; simpa using cw72
        have qw78 : v27.cell? ⟨fw, 78, none⟩ = some (.int .i64 (B.gi k 78)) := by rw [cell_of_row _ _ _ _ _ _ HFw.out]; simpa using cw78
        have qw79 : v27.cell? ⟨fw, 79, none⟩ = some (.int .i64 (B.gi k 79)) := by rw [cell_of_row _ _ _ _ _ _ HFw.out]; simpa using cw79
        have qw80 : v27.cell? ⟨fw, 80, none⟩ = some (.int .i64 (B.gi k 80)) := by rw [cell_of_row _ _ _ _ _ _ HFw.out]; simpa using cw80
        have qw81 : v27.cell? ⟨fw, 81, none⟩ = some (.int .i64 (B.gi k 81)) := by rw [cell_of_row _ _ _ _ _ _ HFw.out]; simpa using cw81
        have qw86 : v27.cell? ⟨fw, 86, none⟩ = some (.int .i64 (B.gi k 86)) := by rw [cell_of_row _ _ _ _ _ _ HFw.out]; simpa using cw86
        have qw6 : v27.cell? ⟨fw, 6, none⟩ = some (.int .i64 (B.gi k 6)) := by rw [cell_of_row _ _ _ _ _ _ HFw.out]; simpa using cw6
        have qw7 : v27.cell? ⟨fw, 7, none⟩ = some (.int .i64 (B.gi k 7)) := by rw [cell_of_row _ _ _ _ _ _ HFw.out]; simpa using cw7
        have qw8 : v27.cell? ⟨fw, 8, none⟩ = some (.int .i64 (B.gi k 8)) := by rw [cell_of_row _ _ _ _ _ _ HFw.out]; simpa using cw8
        have qw9 : v27.cell? ⟨fw, 9, none⟩ = some (.int .i64 (B.gi k 9)) := by rw [cell_of_row _ _ _ _ _ _ HFw.out]; simpa using cw9
        have qw10 : v27.cell? ⟨fw, 10, none⟩ = some (.int .i64 (B.gi k 10)) := by rw [cell_of_row _ _ _ _ _ _ HFw.out]; simpa using cw10
        have qw11 : v27.cell? ⟨fw, 11, none⟩ = some (.int .i64 (B.gi k 11)) := by rw [cell_of_row _ _ _ _ _ _ HFw.out]; simpa using cw11
        have qw12 : v27.cell? ⟨fw, 12, none⟩ = some (.int .i64 (B.gi k 12)) := by rw [cell_of_row _ _ _ _ _ _ HFw.out]; simpa using cw12
        have qw13 : v27.cell? ⟨fw, 13, none⟩ = some (.int .i64 (B.gi k 13)) := by rw [cell_of_row _ _ _ _ _ _ HFw.out]; simpa using cw13
        have qw14 : v27.cell? ⟨fw, 14, none⟩ = some (.int .i64 (B.gi k 14)) := by rw [cell_of_row _ _ _ _ _ _ HFw.out]; simpa using cw14
        have qw44 : v27.cell? ⟨fw, 44, none⟩ = some (.bool (B.gb k 44)) := by rw [cell_of_row _ _ _ _ _ _ HFw.out]; simpa using cw44
        have RRq68 := Lib.hid (show v27.rangeAt fq 68 [Value.int .u64 (B.gi k 68), Value.int .u32 (B.gi k 69), Value.int .u64 (B.gi k 70), Value.int .u16 (B.gi k 71), Value.int .u16 (B.gi k 72)] from (range_cons qq68 (range_cons qq69 (range_cons qq70 (range_cons qq71 (range_cons qq72 range_nil))))))
        have RRw68 := Lib.hid (show v27.rangeAt fw 68 [Value.int .u64 (B.gi k 68), Value.int .u32 (B.gi k 69), Value.int .u64 (B.gi k 70), Value.int .u16 (B.gi k 71), Value.int .u16 (B.gi k 72)] from (range_cons qw68 (range_cons qw69 (range_cons qw70 (range_cons qw71 (range_cons qw72 range_nil))))))
        have RRq78 := Lib.hid (show v27.rangeAt fq 78 [Value.int .i64 (B.gi k 78), Value.int .i64 (B.gi k 79), Value.int .i64 (B.gi k 80), Value.int .i64 (B.gi k 81)] from (range_cons qq78 (range_cons qq79 (range_cons qq80 (range_cons qq81 range_nil)))))
        have RRw78 := Lib.hid (show v27.rangeAt fw 78 [Value.int .i64 (B.gi k 78), Value.int .i64 (B.gi k 79), Value.int .i64 (B.gi k 80), Value.int .i64 (B.gi k 81)] from (range_cons qw78 (range_cons qw79 (range_cons qw80 (range_cons qw81 range_nil)))))
        have RRq6 := Lib.hid (show v27.rangeAt fq 6 [Value.int .i64 (B.gi k 6), Value.int .i64 (B.gi k 7), Value.int .i64 (B.gi k 8), Value.int .i64 (B.gi k 9), Value.int .i64 (B.gi k 10), Value.int .i64 (B.gi k 11), Value.int .i64 (B.gi k 12), Value.int .i64 (B.gi k 13), Value.int .i64 (B.gi k 14)] from (range_cons qq6 (range_cons qq7 (range_cons qq8 (range_cons qq9 (range_cons qq10 (range_cons qq11 (range_cons qq12 (range_cons qq13 (range_cons qq14 range_nil))))))))))
        have RRw6 := Lib.hid (show v27.rangeAt fw 6 [Value.int .i64 (B.gi k 6), Value.int .i64 (B.gi k 7), Value.int .i64 (B.gi k 8), Value.int .i64 (B.gi k 9), Value.int .i64 (B.gi k 10), Value.int .i64 (B.gi k 11), Value.int .i64 (B.gi k 12), Value.int .i64 (B.gi k 13), Value.int .i64 (B.gi k 14)] from (range_cons qw6 (range_cons qw7 (range_cons qw8 (range_cons qw9 (range_cons qw10 (range_cons qw11 (range_cons qw12 (range_cons qw13 (range_cons qw14 range_nil))))))))))
        go_wp2_with (first
          | fail
          | ((with_reducible refine at_loadG 28 ?_); refine wpList_load_midG rfl 28 _ rfl fq 68 rfl [Value.int .u64 (B.gi k 68), Value.int .u32 (B.gi k 69), Value.int .u64 (B.gi k 70), Value.int .u16 (B.gi k 71), Value.int .u16 (B.gi k 72)] _ RRq68.out Try.underlying28 rfl (by exact size_vec) ?_)
          | ((with_reducible refine at_loadG 28 ?_); refine wpList_load_midG rfl 28 _ rfl fw 68 rfl [Value.int .u64 (B.gi k 68), Value.int .u32 (B.gi k 69), Value.int .u64 (B.gi k 70), Value.int .u16 (B.gi k 71), Value.int .u16 (B.gi k 72)] _ RRw68.out Try.underlying28 rfl (by exact size_vec) ?_)
          | ((with_reducible refine at_loadG 24 ?_); refine wpList_load_midG rfl 24 _ rfl fq 78 rfl [Value.int .i64 (B.gi k 78), Value.int .i64 (B.gi k 79), Value.int .i64 (B.gi k 80), Value.int .i64 (B.gi k 81)] _ RRq78.out Try.underlying24 rfl (by exact size_times) ?_)
          | ((with_reducible refine at_loadG 24 ?_); refine wpList_load_midG rfl 24 _ rfl fw 78 rfl [Value.int .i64 (B.gi k 78), Value.int .i64 (B.gi k 79), Value.int .i64 (B.gi k 80), Value.int .i64 (B.gi k 81)] _ RRw78.out Try.underlying24 rfl (by exact size_times) ?_)
          | ((with_reducible refine at_loadG 43 ?_); refine wpList_load_midG rfl 43 _ rfl fq 6 rfl [Value.int .i64 (B.gi k 6), Value.int .i64 (B.gi k 7), Value.int .i64 (B.gi k 8), Value.int .i64 (B.gi k 9), Value.int .i64 (B.gi k 10), Value.int .i64 (B.gi k 11), Value.int .i64 (B.gi k 12), Value.int .i64 (B.gi k 13), Value.int .i64 (B.gi k 14)] _ RRq6.out Try.underlying43 rfl (by exact size_clocks) ?_)
          | ((with_reducible refine at_loadG 43 ?_); refine wpList_load_midG rfl 43 _ rfl fw 6 rfl [Value.int .i64 (B.gi k 6), Value.int .i64 (B.gi k 7), Value.int .i64 (B.gi k 8), Value.int .i64 (B.gi k 9), Value.int .i64 (B.gi k 10), Value.int .i64 (B.gi k 11), Value.int .i64 (B.gi k 12), Value.int .i64 (B.gi k 13), Value.int .i64 (B.gi k 14)] _ RRw6.out Try.underlying43 rfl (by exact size_clocks) ?_))
        all_goals
          go_ret
          exact ⟨rfl, HE0.out.trans E27⟩
      · obtain ⟨hXl, hgl, hne⟩ := H25x.out.lt
        obtain ⟨cap, c17, hca, hcb⟩ := H25x.out.cell17 ok25
        rw [show ((hbT B k m)).np = B.np from hbT_np] at c17 hca
        have hfr := H25x.out.frozen
        have hkc : k < Br.np (hbT B k m) := (show k < Br.np (hbT B k m) by rw [hbT_np]; exact hk)
        have hrq0 := H25x.out.range (k := k) hkc
        have cq11 : (port (Br.ps (hbT B k m)) k)[11]? = some (.int .i64 (waitsV (pI m.1 13) (pI m.1 14) (pI m.1 15))) := (port_at (B := (hbT B k m)) (k := k) (j := 11) (by decide)).trans ((Br.ok.gi ok25 (k := k) hkc 11 rfl).trans (by rw [hbST_11 h89.out HTL.out]))
        have cq36 : (port (Br.ps (hbT B k m)) k)[36]? = some (.bool false) := (port_at (B := (hbT B k m)) (k := k) (j := 36) (by decide)).trans ((Br.ok.gb ok25 (k := k) hkc 36 rfl).trans (by rw [hbST_36 h89.out HTL.out]))
        have hnq0 : (port (Br.ps (hbT B k m)) k).length = 89 := (port_typed ok25 (i := k) hkc).1
        have hoq := Lib.hid (all_oneCell_toArray (port_typed ok25 (i := k) hkc).one)
        obtain ⟨pq, hpq⟩ : ∃ p, port (Br.ps (hbT B k m)) k = p := ⟨_, rfl⟩
        rw [hpq] at hrq0 hnq0 hoq cq11 cq36
        clear hpq
        have hrq := Lib.hid hrq0
        clear hrq0
        have hiq := Lib.hid (show (Try.prog.info? 51).map (·.size) = some pq.length by rw [hnq0]; exact size_port)
        have hjq := Lib.hid (show (Try.prog.info? 51).map (·.size) = some pq.toArray.size by rw [List.size_toArray, hnq0]; exact size_port)
        have hsqz := Lib.hid (show PZ.size = pq.toArray.size by rw [List.size_toArray]; exact hnq0.symm)
        have hzq := zero_port
        clear hnq0
        clear hkc
        go_wp2_with (first
          | fail
          | ((with_reducible refine at_load 51 ?_); refine wpList_load_mid rfl 51 _ rfl gx (k * 89) rfl pq _ hrq.out Try.underlying51 rfl hiq.out ?_)
          | ((with_reducible refine at_store 51 ?_); refine wpList_store_new3 rfl rfl 51 _ _ _ rfl PZ pq.toArray _ rfl ?_ rfl hjq.out hsqz.out (by rw [Array.all_toList]; exact hoq.out) ?_; · rfl
             intro wfq hwf
             have HFw := Lib.hid (show wfq.heap[fw]? = some (.cells pw.toArray 51 (0, 0)) from by rw [hwf]; exact (heap_alloc_old _ _ (heap_lt HFw.out)).trans HFw.out)
             have hY := H25x.out.alloc (.cells pq.toArray 51)
             rw [← hwf] at hY
             have hE0 : Ext v25 wfq := by rw [hwf]; exact (Ext.refl _).alloc _
             have E28 := E25.trans hE0
             have hbx := heap_alloc_new v25 (.cells pq.toArray 51)
             rw [← hwf] at hbx
             have hxb := Lib.hid H25x.out.lt.1
             obtain ⟨fq, hfb⟩ : ∃ n, v25.heap.size = n := ⟨_, rfl⟩
             rw [hfb] at hbx hxb ⊢
             have HFq := Lib.hid hbx
             have HGq := hxb
             have H28x := Lib.hid hY
             clear hwf hY hbx hxb hfb hE0 E25 hzq
             have qw68 : wfq.cell? ⟨fw, 68, none⟩ = some (.int .u64 (B.gi k 68)) := by rw [cell_of_row _ _ _ _ _ _ HFw.out]; simpa using cw68
             have qw69 : wfq.cell? ⟨fw, 69, none⟩ = some (.int .u32 (B.gi k 69)) := by rw [cell_of_row _ _ _ _ _ _ HFw.out]; simpa using cw69
             have qw70 : wfq.cell? ⟨fw, 70, none⟩ = some (.int .u64 (B.gi k 70)) := by rw [cell_of_row _ _ _ _ _ _ HFw.out]; simpa using cw70
             have qw71 : wfq.cell? ⟨fw, 71, none⟩ = some (.int .u16 (B.gi k 71)) := by rw [cell_of_row _ _ _ _ _ _ HFw.out]; simpa using cw71
             have qw72 : wfq.cell? ⟨fw, 72, none⟩ = some (.int .u16 (B.gi k 72)) := by rw [cell_of_row _ _ _ _ _ _ HFw.out]; simpa using cw72
             have qw78 : wfq.cell? ⟨fw, 78, none⟩ = some (.int .i64 (B.gi k 78)) := by rw [cell_of_row _ _ _ _ _ _ HFw.out]; simpa using cw78
             have qw79 : wfq.cell? ⟨fw, 79, none⟩ = some (.int .i64 (B.gi k 79)) := by rw [cell_of_row _ _ _ _ _ _ HFw.out]; simpa using cw79
             have qw80 : wfq.cell? ⟨fw, 80, none⟩ = some (.int .i64 (B.gi k 80)) := by rw [cell_of_row _ _ _ _ _ _ HFw.out]; simpa using cw80
             have qw81 : wfq.cell? ⟨fw, 81, none⟩ = some (.int .i64 (B.gi k 81)) := by rw [cell_of_row _ _ _ _ _ _ HFw.out]; simpa using cw81
             have qw86 : wfq.cell? ⟨fw, 86, none⟩ = some (.int .i64 (B.gi k 86)) := by rw [cell_of_row _ _ _ _ _ _ HFw.out]; simpa using cw86
             have qw6 : wfq.cell? ⟨fw, 6, none⟩ = some (.int .i64 (B.gi k 6)) := by rw [cell_of_row _ _ _ _ _ _ HFw.out]; simpa using cw6
             have qw7 : wfq.cell? ⟨fw, 7, none⟩ = some (.int .i64 (B.gi k 7)) := by rw [cell_of_row _ _ _ _ _ _ HFw.out]; simpa using cw7
             have qw8 : wfq.cell? ⟨fw, 8, none⟩ = some (.int .i64 (B.gi k 8)) := by rw [cell_of_row _ _ _ _ _ _ HFw.out]; simpa using cw8
             have qw9 : wfq.cell? ⟨fw, 9, none⟩ = some (.int .i64 (B.gi k 9)) := by rw [cell_of_row _ _ _ _ _ _ HFw.out]; simpa using cw9
             have qw10 : wfq.cell? ⟨fw, 10, none⟩ = some (.int .i64 (B.gi k 10)) := by rw [cell_of_row _ _ _ _ _ _ HFw.out]; simpa using cw10
             have qw11 : wfq.cell? ⟨fw, 11, none⟩ = some (.int .i64 (B.gi k 11)) := by rw [cell_of_row _ _ _ _ _ _ HFw.out]; simpa using cw11
             have qw12 : wfq.cell? ⟨fw, 12, none⟩ = some (.int .i64 (B.gi k 12)) := by rw [cell_of_row _ _ _ _ _ _ HFw.out]; simpa using cw12
             have qw13 : wfq.cell? ⟨fw, 13, none⟩ = some (.int .i64 (B.gi k 13)) := by rw [cell_of_row _ _ _ _ _ _ HFw.out]; simpa using cw13
             have qw14 : wfq.cell? ⟨fw, 14, none⟩ = some (.int .i64 (B.gi k 14)) := by rw [cell_of_row _ _ _ _ _ _ HFw.out]; simpa using cw14
             have qw44 : wfq.cell? ⟨fw, 44, none⟩ = some (.bool (B.gb k 44)) := by rw [cell_of_row _ _ _ _ _ _ HFw.out]; simpa using cw44
             have RRw68 := Lib.hid (show wfq.rangeAt fw 68 [Value.int .u64 (B.gi k 68), Value.int .u32 (B.gi k 69), Value.int .u64 (B.gi k 70), Value.int .u16 (B.gi k 71), Value.int .u16 (B.gi k 72)] from (range_cons qw68 (range_cons qw69 (range_cons qw70 (range_cons qw71 (range_cons qw72 range_nil))))))
             have hMr := (E28.block _ (heap_lt HL_M.out)).trans HL_M.out
             have RM8 := Lib.hid (show wfq.rangeAt M 8 [Value.int .u64 (pI m.1 8), Value.int .u32 (pI m.1 9), Value.int .u64 (pI m.1 10), Value.int .u16 (pI m.1 11), Value.int .u16 (pI m.1 12)] from (range_cons ((cell_of_row _ _ 8 _ _ _ hMr).trans (by simpa using tyI m.2 8 rfl)) (range_cons ((cell_of_row _ _ 9 _ _ _ hMr).trans (by simpa using tyI m.2 9 rfl)) (range_cons ((cell_of_row _ _ 10 _ _ _ hMr).trans (by simpa using tyI m.2 10 rfl)) (range_cons ((cell_of_row _ _ 11 _ _ _ hMr).trans (by simpa using tyI m.2 11 rfl)) (range_cons ((cell_of_row _ _ 12 _ _ _ hMr).trans (by simpa using tyI m.2 12 rfl)) range_nil))))))
             clear hMr)
          | ((with_reducible refine at_load 28 ?_); refine wpList_load_mid rfl 28 _ rfl fw 68 rfl [Value.int .u64 (B.gi k 68), Value.int .u32 (B.gi k 69), Value.int .u64 (B.gi k 70), Value.int .u16 (B.gi k 71), Value.int .u16 (B.gi k 72)] _ RRw68.out Try.underlying28 rfl (by exact size_vec) ?_)
          | ((with_reducible refine at_load 28 ?_); refine wpList_load_mid rfl 28 _ rfl M 8 rfl [Value.int .u64 (pI m.1 8), Value.int .u32 (pI m.1 9), Value.int .u64 (pI m.1 10), Value.int .u16 (pI m.1 11), Value.int .u16 (pI m.1 12)] _ RM8.out Try.underlying28 rfl (by exact size_vec) ?_))
        obtain ⟨w1, w2, w3, w4⟩ := HW.out
        refine (asb (ref_superior _ _ _ _ _ _ _ _ _ _ _ w1 w2 w3 w4) (show _ = true by rw [HLS.out, HTL.out]; rfl)).mono ?_
        rintro e v29 ⟨rfl, hx⟩
        have E29 := Ext.trans E28 hx
        have H29x := Lib.hid (H28x.out.ext hx)
        have HFw := Lib.hid ((hx.block _ (heap_lt HFw.out)).trans HFw.out)
        have HFq := Lib.hid ((hx.block _ (heap_lt HFq.out)).trans HFq.out)
        clear hx E28 RM8 RRw68 qw68 qw69 qw70 qw71 qw72 qw78 qw79 qw80 qw81 qw86 qw6 qw7 qw8 qw9 qw10 qw11 qw12 qw13 qw14 qw44
        go_wp2_with fail
        have hMr := (E29.block _ (heap_lt HL_M.out)).trans HL_M.out
        have RM13 := Lib.hid (show v29.rangeAt M 13 [Value.int .i64 (pI m.1 13), Value.int .i64 (pI m.1 14), Value.int .i64 (pI m.1 15), Value.int .i64 (pI m.1 16)] from (range_cons ((cell_of_row _ _ 13 _ _ _ hMr).trans (by simpa using tyI m.2 13 rfl)) (range_cons ((cell_of_row _ _ 14 _ _ _ hMr).trans (by simpa using tyI m.2 14 rfl)) (range_cons ((cell_of_row _ _ 15 _ _ _ hMr).trans (by simpa using tyI m.2 15 rfl)) (range_cons ((cell_of_row _ _ 16 _ _ _ hMr).trans (by simpa using tyI m.2 16 rfl)) range_nil)))))
        clear hMr
        have hMl : M < v29.heap.size := Nat.lt_of_lt_of_le (heap_lt HL_M.out) E29.size
        obtain ⟨r1, r2, r3, r4, r5, r6, -, -⟩ := HTF.out
        have qw68 : v29.cell? ⟨fw, 68, none⟩ = some (.int .u64 (B.gi k 68)) := by rw [cell_of_row _ _ _ _ _ _ HFw.out]; simpa using cw68
        have qw69 : v29.cell? ⟨fw, 69, none⟩ = some (.int .u32 (B.gi k 69)) := by rw [cell_of_row _ _ _ _ _ _ HFw.out]; simpa using cw69
        have qw70 : v29.cell? ⟨fw, 70, none⟩ = some (.int .u64 (B.gi k 70)) := by rw [cell_of_row _ _ _ _ _ _ HFw.out]; simpa using cw70
        have qw71 : v29.cell? ⟨fw, 71, none⟩ = some (.int .u16 (B.gi k 71)) := by rw [cell_of_row _ _ _ _ _ _ HFw.out]; simpa using cw71
        have qw72 : v29.cell? ⟨fw, 72, none⟩ = some (.int .u16 (B.gi k 72)) := by rw [cell_of_row _ _ _ _ _ _ HFw.out]; simpa using cw72
        have qw78 : v29.cell? ⟨fw, 78, none⟩ = some (.int .i64 (B.gi k 78)) := by rw [cell_of_row _ _ _ _ _ _ HFw.out]; simpa using cw78
        have qw79 : v29.cell? ⟨fw, 79, none⟩ = some (.int .i64 (B.gi k 79)) := by rw [cell_of_row _ _ _ _ _ _ HFw.out]; simpa using cw79
        have qw80 : v29.cell? ⟨fw, 80, none⟩ = some (.int .i64 (B.gi k 80)) := by rw [cell_of_row _ _ _ _ _ _ HFw.out]; simpa using cw80
        have qw81 : v29.cell? ⟨fw, 81, none⟩ = some (.int .i64 (B.gi k 81)) := by rw [cell_of_row _ _ _ _ _ _ HFw.out]; simpa using cw81
        have qw86 : v29.cell? ⟨fw, 86, none⟩ = some (.int .i64 (B.gi k 86)) := by rw [cell_of_row _ _ _ _ _ _ HFw.out]; simpa using cw86
        have qw6 : v29.cell? ⟨fw, 6, none⟩ = some (.int .i64 (B.gi k 6)) := by rw [cell_of_row _ _ _ _ _ _ HFw.out]; simpa using cw6
        have qw7 : v29.cell? ⟨fw, 7, none⟩ = some (.int .i64 (B.gi k 7)) := by rw [cell_of_row _ _ _ _ _ _ HFw.out]; simpa using cw7
        have qw8 : v29.cell? ⟨fw, 8, none⟩ = some (.int .i64 (B.gi k 8)) := by rw [cell_of_row _ _ _ _ _ _ HFw.out]; simpa using cw8
        have qw9 : v29.cell? ⟨fw, 9, none⟩ = some (.int .i64 (B.gi k 9)) := by rw [cell_of_row _ _ _ _ _ _ HFw.out]; simpa using cw9
        have qw10 : v29.cell? ⟨fw, 10, none⟩ = some (.int .i64 (B.gi k 10)) := by rw [cell_of_row _ _ _ _ _ _ HFw.out]; simpa using cw10
        have qw11 : v29.cell? ⟨fw, 11, none⟩ = some (.int .i64 (B.gi k 11)) := by rw [cell_of_row _ _ _ _ _ _ HFw.out]; simpa using cw11
        have qw12 : v29.cell? ⟨fw, 12, none⟩ = some (.int .i64 (B.gi k 12)) := by rw [cell_of_row _ _ _ _ _ _ HFw.out]; simpa using cw12
        have qw13 : v29.cell? ⟨fw, 13, none⟩ = some (.int .i64 (B.gi k 13)) := by rw [cell_of_row _ _ _ _ _ _ HFw.out]; simpa using cw13
        have qw14 : v29.cell? ⟨fw, 14, none⟩ = some (.int .i64 (B.gi k 14)) := by rw [cell_of_row _ _ _ _ _ _ HFw.out]; simpa using cw14
        have qw44 : v29.cell? ⟨fw, 44, none⟩ = some (.bool (B.gb k 44)) := by rw [cell_of_row _ _ _ _ _ _ HFw.out]; simpa using cw44
        have qq11 : v29.cell? ⟨fq, 11, none⟩ = some (.int .i64 (waitsV (pI m.1 13) (pI m.1 14) (pI m.1 15))) := by rw [cell_of_row _ _ _ _ _ _ HFq.out]; simpa using cq11
        have qq36 : v29.cell? ⟨fq, 36, none⟩ = some (.bool false) := by rw [cell_of_row _ _ _ _ _ _ HFq.out]; simpa using cq36
        have hltw : fw < v29.heap.size := heap_lt HFw.out
        have hltq : fq < v29.heap.size := heap_lt HFq.out
        refine beginL (S := fun W' => Ext v29 W') (by kernel_rfl) ?_
        intro wd hqx
        have hq0 : Ext v29 wd := hqx
        refine takeL (i := 0) (v := (.bool true)) rfl (by kernel_rfl) (by kernel_rfl) (by kernel_rfl) (fun _ _ _ h => h) (Or.inl ⟨rfl, fun _ _ => rfl⟩) hq0 ?_
        simp only [Act.put, List.setIfInBounds_toArray, List.set_cons_zero, List.set_cons_succ]
        refine takeL (i := 1) (v := (.bool true)) rfl (by kernel_rfl) (by kernel_rfl) (by kernel_rfl) (fun _ _ _ h => h) (Or.inl ⟨rfl, fun _ _ => rfl⟩) hq0 ?_
        simp only [Act.put, List.setIfInBounds_toArray, List.set_cons_zero, List.set_cons_succ]
        refine takeL (i := 2) (v := (.bool true)) rfl (by kernel_rfl) (by kernel_rfl) (by kernel_rfl) (fun _ _ _ h => h) (Or.inl ⟨rfl, fun _ _ => rfl⟩) hq0 ?_
        simp only [Act.put, List.setIfInBounds_toArray, List.set_cons_zero, List.set_cons_succ]
        refine takeL (i := 3) (v := (.bool true)) rfl (by kernel_rfl) (by kernel_rfl) (by kernel_rfl) (fun _ _ _ h => h) (Or.inl ⟨rfl, fun _ _ => rfl⟩) hq0 ?_
        simp only [Act.put, List.setIfInBounds_toArray, List.set_cons_zero, List.set_cons_succ]
        refine takeL (i := 4) (v := (.bool true)) rfl (by kernel_rfl) (by kernel_rfl) (by kernel_rfl) (fun _ _ _ h => h) (Or.inl ⟨rfl, fun _ _ => rfl⟩) hq0 ?_
        simp only [Act.put, List.setIfInBounds_toArray, List.set_cons_zero, List.set_cons_succ]
        refine takeL (i := 5) (v := (.pointer (some ⟨fq, 22, none⟩))) rfl (by kernel_rfl) (by kernel_rfl) (by kernel_rfl) (fun _ _ _ h => h) (Or.inl ⟨rfl, fun _ _ => rfl⟩) hq0 ?_
        simp only [Act.put, List.setIfInBounds_toArray, List.set_cons_zero, List.set_cons_succ]
        refine takeL (i := 6) (v := (.pointer (some ⟨fq, 36, none⟩))) rfl (by kernel_rfl) (by kernel_rfl) (by kernel_rfl) (fun _ _ _ h => h) (Or.inl ⟨rfl, fun _ _ => rfl⟩) hq0 ?_
        simp only [Act.put, List.setIfInBounds_toArray, List.set_cons_zero, List.set_cons_succ]
        refine takeL (i := 7) (v := _) rfl (by kernel_rfl) (by kernel_rfl) (by kernel_rfl) (fun _ _ _ h => h) (yieldsIf_cell rfl 4 _ rfl ⟨fq, 36, none⟩ rfl (.bool false) _ (fun W' hW' => (hW'.cell (p := ⟨fq, 36, none⟩) hltq).trans qq36) Try.underlying4 rfl) hq0 ?_
        simp only [Act.put, List.setIfInBounds_toArray, List.set_cons_zero, List.set_cons_succ]
        refine takeL (i := 8) (v := (.bool true)) rfl (by kernel_rfl) (by kernel_rfl) (by kernel_rfl) (fun _ _ _ h => h) (Or.inl ⟨rfl, fun _ _ => rfl⟩) hq0 ?_
        simp only [Act.put, List.setIfInBounds_toArray, List.set_cons_zero, List.set_cons_succ]
        refine takeL (i := 9) (v := (.bool true)) rfl (by kernel_rfl) (by kernel_rfl) (by kernel_rfl) (fun _ _ _ h => h) (Or.inl ⟨rfl, fun _ _ => rfl⟩) hq0 ?_
        simp only [Act.put, List.setIfInBounds_toArray, List.set_cons_zero, List.set_cons_succ]
        refine takeL (i := 10) (v := (.bool true)) rfl (by kernel_rfl) (by kernel_rfl) (by kernel_rfl) (fun _ _ _ h => h) (Or.inl ⟨rfl, fun _ _ => rfl⟩) hq0 ?_
        simp only [Act.put, List.setIfInBounds_toArray, List.set_cons_zero, List.set_cons_succ]
        refine takeL (i := 11) (v := (.pointer (some ⟨fq, 6, none⟩))) rfl (by kernel_rfl) (by kernel_rfl) (by kernel_rfl) (fun _ _ _ h => h) (Or.inl ⟨rfl, fun _ _ => rfl⟩) hq0 ?_
        simp only [Act.put, List.setIfInBounds_toArray, List.set_cons_zero, List.set_cons_succ]
        refine takeL (i := 12) (v := (.pointer (some ⟨fq, 11, none⟩))) rfl (by kernel_rfl) (by kernel_rfl) (by kernel_rfl) (fun _ _ _ h => h) (Or.inl ⟨rfl, fun _ _ => rfl⟩) hq0 ?_
        simp only [Act.put, List.setIfInBounds_toArray, List.set_cons_zero, List.set_cons_succ]
        refine takeL (i := 13) (v := _) rfl (by kernel_rfl) (by kernel_rfl) (by kernel_rfl) (fun _ _ _ h => h) (yieldsIf_cell rfl 3 _ rfl ⟨fq, 11, none⟩ rfl (.int .i64 (waitsV (pI m.1 13) (pI m.1 14) (pI m.1 15))) _ (fun W' hW' => (hW'.cell (p := ⟨fq, 11, none⟩) hltq).trans qq11) Try.underlying3 rfl) hq0 ?_
        simp only [Act.put, List.setIfInBounds_toArray, List.set_cons_zero, List.set_cons_succ]
        refine takeL (i := 14) (v := (.pointer (some ⟨M, 13, none⟩))) rfl (by kernel_rfl) (by kernel_rfl) (by kernel_rfl) (fun _ _ _ h => h) (Or.inl ⟨rfl, fun _ _ => rfl⟩) hq0 ?_
        simp only [Act.put, List.setIfInBounds_toArray, List.set_cons_zero, List.set_cons_succ]
        refine takeL (i := 15) (v := _) rfl (by kernel_rfl) (by kernel_rfl) (by kernel_rfl) (fun _ _ _ h => h) (yieldsIf_load_mid rfl 24 _ rfl M (13) rfl ([Value.int .i64 (pI m.1 13), Value.int .i64 (pI m.1 14), Value.int .i64 (pI m.1 15), Value.int .i64 (pI m.1 16)]) _ (fun W' hW' => rangeAt_ext RM13.out hW' hMl) Try.underlying24 rfl (by exact size_times)) hq0 ?_
        simp only [Act.put, List.setIfInBounds_toArray, List.set_cons_zero, List.set_cons_succ]
        refine runG (i := 16) rfl (by rfl) (by kernel_rfl) (fun K hK => ?_)
        go_simp
        refine (ref_waits _ _ _ _ _ r1 r2 r3 r4 r5 r6).mono ?_
        rintro e wc1 ⟨rfl, hx⟩
        have hq1 := hq0.trans hx
        refine hK.out _ _ hq1 (fun hHeld => ?_)
        try simp only [Act.put, List.setIfInBounds_toArray, List.set_cons_zero, List.set_cons_succ]
        clear hK K hHeld
        refine takeL (i := 17) (v := (.bool true)) rfl (by kernel_rfl) (by kernel_rfl) (by kernel_rfl) (fun _ _ _ h => h) (Or.inl ⟨rfl, fun W' _ => by go_simp⟩) hq1 ?_
        simp only [Act.put, List.setIfInBounds_toArray, List.set_cons_zero, List.set_cons_succ]
        refine takeL (i := 18) (v := (.bool true)) rfl (by kernel_rfl) (by kernel_rfl) (by kernel_rfl) (fun _ _ _ h => h) (Or.inl ⟨rfl, fun _ _ => rfl⟩) hq1 ?_
        simp only [Act.put, List.setIfInBounds_toArray, List.set_cons_zero, List.set_cons_succ]
        refine takeL (i := 19) (v := (.bool true)) rfl (by kernel_rfl) (by kernel_rfl) (by kernel_rfl) (fun _ _ _ h => h) (Or.inl ⟨rfl, fun _ _ => rfl⟩) hq1 ?_
        simp only [Act.put, List.setIfInBounds_toArray, List.set_cons_zero, List.set_cons_succ]
        refine wpAnyH_done (by kernel_rfl) ?_ _
        go_wp2_with fail
        all_goals
          go_ret
          exact ⟨rfl, HE0.out.trans (E29.trans hq1)⟩
    · obtain ⟨hXl, hgl, hne⟩ := H25x.out.lt
      obtain ⟨cap, c17, hca, hcb⟩ := H25x.out.cell17 ok25
      rw [show ((hbT B k m)).np = B.np from hbT_np] at c17 hca
      have hfr := H25x.out.frozen
      have hkc : k < Br.np (hbT B k m) := (show k < Br.np (hbT B k m) by rw [hbT_np]; exact hk)
      have hrq0 := H25x.out.range (k := k) hkc
      have cq68 : (port (Br.ps (hbT B k m)) k)[68]? = some (.int .u64 (pI m.1 8)) := (port_at (B := (hbT B k m)) (k := k) (j := 68) (by decide)).trans ((Br.ok.gi ok25 (k := k) hkc 68 rfl).trans (by rw [hbLT_68 h89.out HLS.out]))
      have cq69 : (port (Br.ps (hbT B k m)) k)[69]? = some (.int .u32 (pI m.1 9)) := (port_at (B := (hbT B k m)) (k := k) (j := 69) (by decide)).trans ((Br.ok.gi ok25 (k := k) hkc 69 rfl).trans (by rw [hbLT_69 h89.out HLS.out]))
      have cq70 : (port (Br.ps (hbT B k m)) k)[70]? = some (.int .u64 (pI m.1 10)) := (port_at (B := (hbT B k m)) (k := k) (j := 70) (by decide)).trans ((Br.ok.gi ok25 (k := k) hkc 70 rfl).trans (by rw [hbLT_70 h89.out HLS.out]))
      have cq71 : (port (Br.ps (hbT B k m)) k)[71]? = some (.int .u16 (pI m.1 11)) := (port_at (B := (hbT B k m)) (k := k) (j := 71) (by decide)).trans ((Br.ok.gi ok25 (k := k) hkc 71 rfl).trans (by rw [hbLT_71 h89.out HLS.out]))
      have cq72 : (port (Br.ps (hbT B k m)) k)[72]? = some (.int .u16 (pI m.1 12)) := (port_at (B := (hbT B k m)) (k := k) (j := 72) (by decide)).trans ((Br.ok.gi ok25 (k := k) hkc 72 rfl).trans (by rw [hbLT_72 h89.out HLS.out]))
      have cq78 : (port (Br.ps (hbT B k m)) k)[78]? = some (.int .i64 (pI m.1 13)) := (port_at (B := (hbT B k m)) (k := k) (j := 78) (by decide)).trans ((Br.ok.gi ok25 (k := k) hkc 78 rfl).trans (by rw [hbLT_78 h89.out HLS.out]))
      have cq79 : (port (Br.ps (hbT B k m)) k)[79]? = some (.int .i64 (pI m.1 14)) := (port_at (B := (hbT B k m)) (k := k) (j := 79) (by decide)).trans ((Br.ok.gi ok25 (k := k) hkc 79 rfl).trans (by rw [hbLT_79 h89.out HLS.out]))
      have cq80 : (port (Br.ps (hbT B k m)) k)[80]? = some (.int .i64 (pI m.1 15)) := (port_at (B := (hbT B k m)) (k := k) (j := 80) (by decide)).trans ((Br.ok.gi ok25 (k := k) hkc 80 rfl).trans (by rw [hbLT_80 h89.out HLS.out]))
      have cq81 : (port (Br.ps (hbT B k m)) k)[81]? = some (.int .i64 (pI m.1 16)) := (port_at (B := (hbT B k m)) (k := k) (j := 81) (by decide)).trans ((Br.ok.gi ok25 (k := k) hkc 81 rfl).trans (by rw [hbLT_81 h89.out HLS.out]))
      have cq86 : (port (Br.ps (hbT B k m)) k)[86]? = some (.int .i64 3) := (port_at (B := (hbT B k m)) (k := k) (j := 86) (by decide)).trans ((Br.ok.gi ok25 (k := k) hkc 86 rfl).trans (by rw [hbLT_86 h89.out HLS.out]))
      have cq11 : (port (Br.ps (hbT B k m)) k)[11]? = some (.int .i64 (waitsV (pI m.1 13) (pI m.1 14) (pI m.1 15))) := (port_at (B := (hbT B k m)) (k := k) (j := 11) (by decide)).trans ((Br.ok.gi ok25 (k := k) hkc 11 rfl).trans (by rw [hbLT_11 h89.out HLS.out]))
      have cq43 : (port (Br.ps (hbT B k m)) k)[43]? = some (.bool true) := (port_at (B := (hbT B k m)) (k := k) (j := 43) (by decide)).trans ((Br.ok.gb ok25 (k := k) hkc 43 rfl).trans (by rw [hbLT_43 h89.out HLS.out]))
      have cq44 : (port (Br.ps (hbT B k m)) k)[44]? = some (.bool false) := (port_at (B := (hbT B k m)) (k := k) (j := 44) (by decide)).trans ((Br.ok.gb ok25 (k := k) hkc 44 rfl).trans (by rw [hbLT_44 h89.out HLS.out]))
      have cq36 : (port (Br.ps (hbT B k m)) k)[36]? = some (.bool false) := (port_at (B := (hbT B k m)) (k := k) (j := 36) (by decide)).trans ((Br.ok.gb ok25 (k := k) hkc 36 rfl).trans (by rw [hbLT_36 h89.out HLS.out]))
      have hnq0 : (port (Br.ps (hbT B k m)) k).length = 89 := (port_typed ok25 (i := k) hkc).1
      have hoq := Lib.hid (all_oneCell_toArray (port_typed ok25 (i := k) hkc).one)
      obtain ⟨pq, hpq⟩ : ∃ p, port (Br.ps (hbT B k m)) k = p := ⟨_, rfl⟩
      rw [hpq] at hrq0 hnq0 hoq cq68 cq69 cq70 cq71 cq72 cq78 cq79 cq80 cq81 cq86 cq11 cq43 cq44 cq36
      clear hpq
      have hrq := Lib.hid hrq0
      clear hrq0
      have hiq := Lib.hid (show (Try.prog.info? 51).map (·.size) = some pq.length by rw [hnq0]; exact size_port)
      have hjq := Lib.hid (show (Try.prog.info? 51).map (·.size) = some pq.toArray.size by rw [List.size_toArray, hnq0]; exact size_port)
      have hsqz := Lib.hid (show PZ.size = pq.toArray.size by rw [List.size_toArray]; exact hnq0.symm)
      have hzq := zero_port
      clear hnq0
      clear hkc
      go_wp2_with (first
        | fail
        | ((with_reducible refine at_load 51 ?_); refine wpList_load_mid rfl 51 _ rfl gx (k * 89) rfl pq _ hrq.out Try.underlying51 rfl hiq.out ?_)
        | ((with_reducible refine at_store 51 ?_); refine wpList_store_new3 rfl rfl 51 _ _ _ rfl PZ pq.toArray _ rfl ?_ rfl hjq.out hsqz.out (by rw [Array.all_toList]; exact hoq.out) ?_; · rfl
           intro wfq hwf
           have HFw := Lib.hid (show wfq.heap[fw]? = some (.cells pw.toArray 51 (0, 0)) from by rw [hwf]; exact (heap_alloc_old _ _ (heap_lt HFw.out)).trans HFw.out)
           have hY := H25x.out.alloc (.cells pq.toArray 51)
           rw [← hwf] at hY
           have hE0 : Ext v25 wfq := by rw [hwf]; exact (Ext.refl _).alloc _
           have E30 := E25.trans hE0
           have hbx := heap_alloc_new v25 (.cells pq.toArray 51)
           rw [← hwf] at hbx
           have hxb := Lib.hid H25x.out.lt.1
           obtain ⟨fq, hfb⟩ : ∃ n, v25.heap.size = n := ⟨_, rfl⟩
           rw [hfb] at hbx hxb ⊢
           have HFq := Lib.hid hbx
           have HGq := hxb
           have H30x := Lib.hid hY
           clear hwf hY hbx hxb hfb hE0 E25 hzq))
      have hMr := (E30.block _ (heap_lt HL_M.out)).trans HL_M.out
      have RM8 := Lib.hid (show wfq.rangeAt M 8 [Value.int .u64 (pI m.1 8), Value.int .u32 (pI m.1 9), Value.int .u64 (pI m.1 10), Value.int .u16 (pI m.1 11), Value.int .u16 (pI m.1 12)] from (range_cons ((cell_of_row _ _ 8 _ _ _ hMr).trans (by simpa using tyI m.2 8 rfl)) (range_cons ((cell_of_row _ _ 9 _ _ _ hMr).trans (by simpa using tyI m.2 9 rfl)) (range_cons ((cell_of_row _ _ 10 _ _ _ hMr).trans (by simpa using tyI m.2 10 rfl)) (range_cons ((cell_of_row _ _ 11 _ _ _ hMr).trans (by simpa using tyI m.2 11 rfl)) (range_cons ((cell_of_row _ _ 12 _ _ _ hMr).trans (by simpa using tyI m.2 12 rfl)) range_nil))))))
      have RM13 := Lib.hid (show wfq.rangeAt M 13 [Value.int .i64 (pI m.1 13), Value.int .i64 (pI m.1 14), Value.int .i64 (pI m.1 15), Value.int .i64 (pI m.1 16)] from (range_cons ((cell_of_row _ _ 13 _ _ _ hMr).trans (by simpa using tyI m.2 13 rfl)) (range_cons ((cell_of_row _ _ 14 _ _ _ hMr).trans (by simpa using tyI m.2 14 rfl)) (range_cons ((cell_of_row _ _ 15 _ _ _ hMr).trans (by simpa using tyI m.2 15 rfl)) (range_cons ((cell_of_row _ _ 16 _ _ _ hMr).trans (by simpa using tyI m.2 16 rfl)) range_nil)))))
      clear hMr
      have hMl : M < wfq.heap.size := Nat.lt_of_lt_of_le (heap_lt HL_M.out) E30.size
      obtain ⟨r1, r2, r3, r4, r5, r6, -, -⟩ := HTF.out
      have qw68 : wfq.cell? ⟨fw, 68, none⟩ = some (.int .u64 (B.gi k 68)) := by rw [cell_of_row _ _ _ _ _ _ HFw.out]; simpa using cw68
      have qw69 : wfq.cell? ⟨fw, 69, none⟩ = some (.int .u32 (B.gi k 69)) := by rw [cell_of_row _ _ _ _ _ _ HFw.out]; simpa using cw69
      have qw70 : wfq.cell? ⟨fw, 70, none⟩ = some (.int .u64 (B.gi k 70)) := by rw [cell_of_row _ _ _ _ _ _ HFw.out]; simpa using cw70
      have qw71 : wfq.cell? ⟨fw, 71, none⟩ = some (.int .u16 (B.gi k 71)) := by rw [cell_of_row _ _ _ _ _ _ HFw.out]; simpa using cw71
      have qw72 : wfq.cell? ⟨fw, 72, none⟩ = some (.int .u16 (B.gi k 72)) := by rw [cell_of_row _ _ _ _ _ _ HFw.out]; simpa using cw72
      have qw78 : wfq.cell? ⟨fw, 78, none⟩ = some (.int .i64 (B.gi k 78)) := by rw [cell_of_row _ _ _ _ _ _ HFw.out]; simpa using cw78
      have qw79 : wfq.cell? ⟨fw, 79, none⟩ = some (.int .i64 (B.gi k 79)) := by rw [cell_of_row _ _ _ _ _ _ HFw.out]; simpa using cw79
      have qw80 : wfq.cell? ⟨fw, 80, none⟩ = some (.int .i64 (B.gi k 80)) := by rw [cell_of_row _ _ _ _ _ _ HFw.out]; simpa using cw80
      have qw81 : wfq.cell? ⟨fw, 81, none⟩ = some (.int .i64 (B.gi k 81)) := by rw [cell_of_row _ _ _ _ _ _ HFw.out]; simpa using cw81
      have qw86 : wfq.cell? ⟨fw, 86, none⟩ = some (.int .i64 (B.gi k 86)) := by rw [cell_of_row _ _ _ _ _ _ HFw.out]; simpa using cw86
      have qw6 : wfq.cell? ⟨fw, 6, none⟩ = some (.int .i64 (B.gi k 6)) := by rw [cell_of_row _ _ _ _ _ _ HFw.out]; simpa using cw6
      have qw7 : wfq.cell? ⟨fw, 7, none⟩ = some (.int .i64 (B.gi k 7)) := by rw [cell_of_row _ _ _ _ _ _ HFw.out]; simpa using cw7
      have qw8 : wfq.cell? ⟨fw, 8, none⟩ = some (.int .i64 (B.gi k 8)) := by rw [cell_of_row _ _ _ _ _ _ HFw.out]; simpa using cw8
      have qw9 : wfq.cell? ⟨fw, 9, none⟩ = some (.int .i64 (B.gi k 9)) := by rw [cell_of_row _ _ _ _ _ _ HFw.out]; simpa using cw9
      have qw10 : wfq.cell? ⟨fw, 10, none⟩ = some (.int .i64 (B.gi k 10)) := by rw [cell_of_row _ _ _ _ _ _ HFw.out]; simpa using cw10
      have qw11 : wfq.cell? ⟨fw, 11, none⟩ = some (.int .i64 (B.gi k 11)) := by rw [cell_of_row _ _ _ _ _ _ HFw.out]; simpa using cw11
      have qw12 : wfq.cell? ⟨fw, 12, none⟩ = some (.int .i64 (B.gi k 12)) := by rw [cell_of_row _ _ _ _ _ _ HFw.out]; simpa using cw12
      have qw13 : wfq.cell? ⟨fw, 13, none⟩ = some (.int .i64 (B.gi k 13)) := by rw [cell_of_row _ _ _ _ _ _ HFw.out]; simpa using cw13
      have qw14 : wfq.cell? ⟨fw, 14, none⟩ = some (.int .i64 (B.gi k 14)) := by rw [cell_of_row _ _ _ _ _ _ HFw.out]; simpa using cw14
      have qw44 : wfq.cell? ⟨fw, 44, none⟩ = some (.bool (B.gb k 44)) := by rw [cell_of_row _ _ _ _ _ _ HFw.out]; simpa using cw44
      have qq68 : wfq.cell? ⟨fq, 68, none⟩ = some (.int .u64 (pI m.1 8)) := by rw [cell_of_row _ _ _ _ _ _ HFq.out]; simpa using cq68
      have qq69 : wfq.cell? ⟨fq, 69, none⟩ = some (.int .u32 (pI m.1 9)) := by rw [cell_of_row _ _ _ _ _ _ HFq.out]; simpa using cq69
      have qq70 : wfq.cell? ⟨fq, 70, none⟩ = some (.int .u64 (pI m.1 10)) := by rw [cell_of_row _ _ _ _ _ _ HFq.out]; simpa using cq70
      have qq71 : wfq.cell? ⟨fq, 71, none⟩ = some (.int .u16 (pI m.1 11)) := by rw [cell_of_row _ _ _ _ _ _ HFq.out]; simpa using cq71
      have qq72 : wfq.cell? ⟨fq, 72, none⟩ = some (.int .u16 (pI m.1 12)) := by rw [cell_of_row _ _ _ _ _ _ HFq.out]; simpa using cq72
      have qq78 : wfq.cell? ⟨fq, 78, none⟩ = some (.int .i64 (pI m.1 13)) := by rw [cell_of_row _ _ _ _ _ _ HFq.out]; simpa using cq78
      have qq79 : wfq.cell? ⟨fq, 79, none⟩ = some (.int .i64 (pI m.1 14)) := by rw [cell_of_row _ _ _ _ _ _ HFq.out]; simpa using cq79
      have qq80 : wfq.cell? ⟨fq, 80, none⟩ = some (.int .i64 (pI m.1 15)) := by rw [cell_of_row _ _ _ _ _ _ HFq.out]; simpa using cq80
      have qq81 : wfq.cell? ⟨fq, 81, none⟩ = some (.int .i64 (pI m.1 16)) := by rw [cell_of_row _ _ _ _ _ _ HFq.out]; simpa using cq81
      have qq86 : wfq.cell? ⟨fq, 86, none⟩ = some (.int .i64 3) := by rw [cell_of_row _ _ _ _ _ _ HFq.out]; simpa using cq86
      have qq11 : wfq.cell? ⟨fq, 11, none⟩ = some (.int .i64 (waitsV (pI m.1 13) (pI m.1 14) (pI m.1 15))) := by rw [cell_of_row _ _ _ _ _ _ HFq.out]; simpa using cq11
      have qq43 : wfq.cell? ⟨fq, 43, none⟩ = some (.bool true) := by rw [cell_of_row _ _ _ _ _ _ HFq.out]; simpa using cq43
      have qq44 : wfq.cell? ⟨fq, 44, none⟩ = some (.bool false) := by rw [cell_of_row _ _ _ _ _ _ HFq.out]; simpa using cq44
      have qq36 : wfq.cell? ⟨fq, 36, none⟩ = some (.bool false) := by rw [cell_of_row _ _ _ _ _ _ HFq.out]; simpa using cq36
      have hltw : fw < wfq.heap.size := heap_lt HFw.out
      have hltq : fq < wfq.heap.size := heap_lt HFq.out
      have RRq68 := Lib.hid (show wfq.rangeAt fq 68 [Value.int .u64 (pI m.1 8), Value.int .u32 (pI m.1 9), Value.int .u64 (pI m.1 10), Value.int .u16 (pI m.1 11), Value.int .u16 (pI m.1 12)] from (range_cons qq68 (range_cons qq69 (range_cons qq70 (range_cons qq71 (range_cons qq72 range_nil))))))
      have RRq78 := Lib.hid (show wfq.rangeAt fq 78 [Value.int .i64 (pI m.1 13), Value.int .i64 (pI m.1 14), Value.int .i64 (pI m.1 15), Value.int .i64 (pI m.1 16)] from (range_cons qq78 (range_cons qq79 (range_cons qq80 (range_cons qq81 range_nil)))))
      refine beginL (S := fun W' => Ext wfq W') (by kernel_rfl) ?_
      intro wd hqx
      have hq0 : Ext wfq wd := hqx
      refine takeL (i := 0) (v := (.bool true)) rfl (by kernel_rfl) (by kernel_rfl) (by kernel_rfl) (fun _ _ _ h => h) (Or.inl ⟨rfl, fun _ _ => rfl⟩) hq0 ?_
      simp only [Act.put, List.setIfInBounds_toArray, List.set_cons_zero, List.set_cons_succ]
      refine takeL (i := 1) (v := (.bool true)) rfl (by kernel_rfl) (by kernel_rfl) (by kernel_rfl) (fun _ _ _ h => h) (Or.inl ⟨rfl, fun _ _ => rfl⟩) hq0 ?_
      simp only [Act.put, List.setIfInBounds_toArray, List.set_cons_zero, List.set_cons_succ]
      refine takeL (i := 2) (v := (.bool true)) rfl (by kernel_rfl) (by kernel_rfl) (by kernel_rfl) (fun _ _ _ h => h) (Or.inl ⟨rfl, fun _ _ => rfl⟩) hq0 ?_
      simp only [Act.put, List.setIfInBounds_toArray, List.set_cons_zero, List.set_cons_succ]
      refine takeL (i := 3) (v := (.bool true)) rfl (by kernel_rfl) (by kernel_rfl) (by kernel_rfl) (fun _ _ _ h => h) (Or.inl ⟨rfl, fun _ _ => rfl⟩) hq0 ?_
      simp only [Act.put, List.setIfInBounds_toArray, List.set_cons_zero, List.set_cons_succ]
      refine takeL (i := 4) (v := (.bool true)) rfl (by kernel_rfl) (by kernel_rfl) (by kernel_rfl) (fun _ _ _ h => h) (Or.inl ⟨rfl, fun _ _ => rfl⟩) hq0 ?_
      simp only [Act.put, List.setIfInBounds_toArray, List.set_cons_zero, List.set_cons_succ]
      refine takeL (i := 5) (v := (.pointer (some ⟨fq, 68, none⟩))) rfl (by kernel_rfl) (by kernel_rfl) (by kernel_rfl) (fun _ _ _ h => h) (Or.inl ⟨rfl, fun _ _ => rfl⟩) hq0 ?_
      simp only [Act.put, List.setIfInBounds_toArray, List.set_cons_zero, List.set_cons_succ]
      refine takeL (i := 6) (v := _) rfl (by kernel_rfl) (by kernel_rfl) (by kernel_rfl) (fun _ _ _ h => h) (yieldsIf_load_mid rfl 28 _ rfl fq (68) rfl ([Value.int .u64 (pI m.1 8), Value.int .u32 (pI m.1 9), Value.int .u64 (pI m.1 10), Value.int .u16 (pI m.1 11), Value.int .u16 (pI m.1 12)]) _ (fun W' hW' => rangeAt_ext RRq68.out hW' hltq) Try.underlying28 rfl (by exact size_vec)) hq0 ?_
      simp only [Act.put, List.setIfInBounds_toArray, List.set_cons_zero, List.set_cons_succ]
      refine takeL (i := 7) (v := (.pointer (some ⟨M, 8, none⟩))) rfl (by kernel_rfl) (by kernel_rfl) (by kernel_rfl) (fun _ _ _ h => h) (Or.inl ⟨rfl, fun _ _ => rfl⟩) hq0 ?_
      simp only [Act.put, List.setIfInBounds_toArray, List.set_cons_zero, List.set_cons_succ]
      refine takeL (i := 8) (v := _) rfl (by kernel_rfl) (by kernel_rfl) (by kernel_rfl) (fun _ _ _ h => h) (yieldsIf_load_mid rfl 28 _ rfl M (8) rfl ([Value.int .u64 (pI m.1 8), Value.int .u32 (pI m.1 9), Value.int .u64 (pI m.1 10), Value.int .u16 (pI m.1 11), Value.int .u16 (pI m.1 12)]) _ (fun W' hW' => rangeAt_ext RM8.out hW' hMl) Try.underlying28 rfl (by exact size_vec)) hq0 ?_
      simp only [Act.put, List.setIfInBounds_toArray, List.set_cons_zero, List.set_cons_succ]
      refine takeL (i := 9) (v := (.bool true)) rfl (by kernel_rfl) (by kernel_rfl) (by kernel_rfl) (fun _ _ _ h => h) (Or.inl ⟨rfl, fun W' _ => by go_simp⟩) hq0 ?_
      simp only [Act.put, List.setIfInBounds_toArray, List.set_cons_zero, List.set_cons_succ]
      refine takeL (i := 10) (v := (.bool true)) rfl (by kernel_rfl) (by kernel_rfl) (by kernel_rfl) (fun _ _ _ h => h) (Or.inl ⟨rfl, fun _ _ => rfl⟩) hq0 ?_
      simp only [Act.put, List.setIfInBounds_toArray, List.set_cons_zero, List.set_cons_succ]
      refine takeL (i := 11) (v := (.bool true)) rfl (by kernel_rfl) (by kernel_rfl) (by kernel_rfl) (fun _ _ _ h => h) (Or.inl ⟨rfl, fun _ _ => rfl⟩) hq0 ?_
      simp only [Act.put, List.setIfInBounds_toArray, List.set_cons_zero, List.set_cons_succ]
      refine takeL (i := 12) (v := (.pointer (some ⟨fq, 78, none⟩))) rfl (by kernel_rfl) (by kernel_rfl) (by kernel_rfl) (fun _ _ _ h => h) (Or.inl ⟨rfl, fun _ _ => rfl⟩) hq0 ?_
      simp only [Act.put, List.setIfInBounds_toArray, List.set_cons_zero, List.set_cons_succ]
      refine takeL (i := 13) (v := _) rfl (by kernel_rfl) (by kernel_rfl) (by kernel_rfl) (fun _ _ _ h => h) (yieldsIf_load_mid rfl 24 _ rfl fq (78) rfl ([Value.int .i64 (pI m.1 13), Value.int .i64 (pI m.1 14), Value.int .i64 (pI m.1 15), Value.int .i64 (pI m.1 16)]) _ (fun W' hW' => rangeAt_ext RRq78.out hW' hltq) Try.underlying24 rfl (by exact size_times)) hq0 ?_
      simp only [Act.put, List.setIfInBounds_toArray, List.set_cons_zero, List.set_cons_succ]
      refine takeL (i := 14) (v := (.pointer (some ⟨M, 13, none⟩))) rfl (by kernel_rfl) (by kernel_rfl) (by kernel_rfl) (fun _ _ _ h => h) (Or.inl ⟨rfl, fun _ _ => rfl⟩) hq0 ?_
      simp only [Act.put, List.setIfInBounds_toArray, List.set_cons_zero, List.set_cons_succ]
      refine takeL (i := 15) (v := _) rfl (by kernel_rfl) (by kernel_rfl) (by kernel_rfl) (fun _ _ _ h => h) (yieldsIf_load_mid rfl 24 _ rfl M (13) rfl ([Value.int .i64 (pI m.1 13), Value.int .i64 (pI m.1 14), Value.int .i64 (pI m.1 15), Value.int .i64 (pI m.1 16)]) _ (fun W' hW' => rangeAt_ext RM13.out hW' hMl) Try.underlying24 rfl (by exact size_times)) hq0 ?_
      simp only [Act.put, List.setIfInBounds_toArray, List.set_cons_zero, List.set_cons_succ]
      refine takeL (i := 16) (v := (.bool true)) rfl (by kernel_rfl) (by kernel_rfl) (by kernel_rfl) (fun _ _ _ h => h) (Or.inl ⟨rfl, fun W' _ => by go_simp⟩) hq0 ?_
      simp only [Act.put, List.setIfInBounds_toArray, List.set_cons_zero, List.set_cons_succ]
      refine takeL (i := 17) (v := (.bool true)) rfl (by kernel_rfl) (by kernel_rfl) (by kernel_rfl) (fun _ _ _ h => h) (Or.inl ⟨rfl, fun _ _ => rfl⟩) hq0 ?_
      simp only [Act.put, List.setIfInBounds_toArray, List.set_cons_zero, List.set_cons_succ]
      refine takeL (i := 18) (v := (.bool true)) rfl (by kernel_rfl) (by kernel_rfl) (by kernel_rfl) (fun _ _ _ h => h) (Or.inl ⟨rfl, fun _ _ => rfl⟩) hq0 ?_
      simp only [Act.put, List.setIfInBounds_toArray, List.set_cons_zero, List.set_cons_succ]
      refine takeL (i := 19) (v := (.pointer (some ⟨fq, 86, none⟩))) rfl (by kernel_rfl) (by kernel_rfl) (by kernel_rfl) (fun _ _ _ h => h) (Or.inl ⟨rfl, fun _ _ => rfl⟩) hq0 ?_
      simp only [Act.put, List.setIfInBounds_toArray, List.set_cons_zero, List.set_cons_succ]
      refine takeL (i := 20) (v := _) rfl (by kernel_rfl) (by kernel_rfl) (by kernel_rfl) (fun _ _ _ h => h) (yieldsIf_cell rfl 3 _ rfl ⟨fq, 86, none⟩ rfl (.int .i64 3) _ (fun W' hW' => (hW'.cell (p := ⟨fq, 86, none⟩) hltq).trans qq86) Try.underlying3 rfl) hq0 ?_
      simp only [Act.put, List.setIfInBounds_toArray, List.set_cons_zero, List.set_cons_succ]
      refine takeL (i := 21) (v := (.bool true)) rfl (by kernel_rfl) (by kernel_rfl) (by kernel_rfl) (fun _ _ _ h => h) (Or.inl ⟨rfl, fun W' _ => by go_simp⟩) hq0 ?_
      simp only [Act.put, List.setIfInBounds_toArray, List.set_cons_zero, List.set_cons_succ]
      refine takeL (i := 22) (v := (.bool true)) rfl (by kernel_rfl) (by kernel_rfl) (by kernel_rfl) (fun _ _ _ h => h) (Or.inl ⟨rfl, fun _ _ => rfl⟩) hq0 ?_
      simp only [Act.put, List.setIfInBounds_toArray, List.set_cons_zero, List.set_cons_succ]
      refine takeL (i := 23) (v := (.bool true)) rfl (by kernel_rfl) (by kernel_rfl) (by kernel_rfl) (fun _ _ _ h => h) (Or.inl ⟨rfl, fun _ _ => rfl⟩) hq0 ?_
      simp only [Act.put, List.setIfInBounds_toArray, List.set_cons_zero, List.set_cons_succ]
      refine takeL (i := 24) (v := (.pointer (some ⟨fq, 6, none⟩))) rfl (by kernel_rfl) (by kernel_rfl) (by kernel_rfl) (fun _ _ _ h => h) (Or.inl ⟨rfl, fun _ _ => rfl⟩) hq0 ?_
      simp only [Act.put, List.setIfInBounds_toArray, List.set_cons_zero, List.set_cons_succ]
      refine takeL (i := 25) (v := (.pointer (some ⟨fq, 11, none⟩))) rfl (by kernel_rfl) (by kernel_rfl) (by kernel_rfl) (fun _ _ _ h => h) (Or.inl ⟨rfl, fun _ _ => rfl⟩) hq0 ?_
      simp only [Act.put, List.setIfInBounds_toArray, List.set_cons_zero, List.set_cons_succ]
      refine takeL (i := 26) (v := _) rfl (by kernel_rfl) (by kernel_rfl) (by kernel_rfl) (fun _ _ _ h => h) (yieldsIf_cell rfl 3 _ rfl ⟨fq, 11, none⟩ rfl (.int .i64 (waitsV (pI m.1 13) (pI m.1 14) (pI m.1 15))) _ (fun W' hW' => (hW'.cell (p := ⟨fq, 11, none⟩) hltq).trans qq11) Try.underlying3 rfl) hq0 ?_
      simp only [Act.put, List.setIfInBounds_toArray, List.set_cons_zero, List.set_cons_succ]
      refine takeL (i := 27) (v := (.pointer (some ⟨M, 13, none⟩))) rfl (by kernel_rfl) (by kernel_rfl) (by kernel_rfl) (fun _ _ _ h => h) (Or.inl ⟨rfl, fun _ _ => rfl⟩) hq0 ?_
      simp only [Act.put, List.setIfInBounds_toArray, List.set_cons_zero, List.set_cons_succ]
      refine takeL (i := 28) (v := _) rfl (by kernel_rfl) (by kernel_rfl) (by kernel_rfl) (fun _ _ _ h => h) (yieldsIf_load_mid rfl 24 _ rfl M (13) rfl ([Value.int .i64 (pI m.1 13), Value.int .i64 (pI m.1 14), Value.int .i64 (pI m.1 15), Value.int .i64 (pI m.1 16)]) _ (fun W' hW' => rangeAt_ext RM13.out hW' hMl) Try.underlying24 rfl (by exact size_times)) hq0 ?_
      simp only [Act.put, List.setIfInBounds_toArray, List.set_cons_zero, List.set_cons_succ]
      refine runG (i := 29) rfl (by rfl) (by kernel_rfl) (fun K hK => ?_)
      go_simp
      refine (ref_waits _ _ _ _ _ r1 r2 r3 r4 r5 r6).mono ?_
      rintro e wc1 ⟨rfl, hx⟩
      have hq1 := hq0.trans hx
      refine hK.out _ _ hq1 (fun hHeld => ?_)
      try simp only [Act.put, List.setIfInBounds_toArray, List.set_cons_zero, List.set_cons_succ]
      clear hK K hHeld
      refine takeL (i := 30) (v := (.bool true)) rfl (by kernel_rfl) (by kernel_rfl) (by kernel_rfl) (fun _ _ _ h => h) (Or.inl ⟨rfl, fun W' _ => by go_simp⟩) hq1 ?_
      simp only [Act.put, List.setIfInBounds_toArray, List.set_cons_zero, List.set_cons_succ]
      refine takeL (i := 31) (v := (.bool true)) rfl (by kernel_rfl) (by kernel_rfl) (by kernel_rfl) (fun _ _ _ h => h) (Or.inl ⟨rfl, fun _ _ => rfl⟩) hq1 ?_
      simp only [Act.put, List.setIfInBounds_toArray, List.set_cons_zero, List.set_cons_succ]
      refine takeL (i := 32) (v := (.bool true)) rfl (by kernel_rfl) (by kernel_rfl) (by kernel_rfl) (fun _ _ _ h => h) (Or.inl ⟨rfl, fun _ _ => rfl⟩) hq1 ?_
      simp only [Act.put, List.setIfInBounds_toArray, List.set_cons_zero, List.set_cons_succ]
      refine takeL (i := 33) (v := (.pointer (some ⟨fq, 22, none⟩))) rfl (by kernel_rfl) (by kernel_rfl) (by kernel_rfl) (fun _ _ _ h => h) (Or.inl ⟨rfl, fun _ _ => rfl⟩) hq1 ?_
      simp only [Act.put, List.setIfInBounds_toArray, List.set_cons_zero, List.set_cons_succ]
      refine takeL (i := 34) (v := (.pointer (some ⟨fq, 43, none⟩))) rfl (by kernel_rfl) (by kernel_rfl) (by kernel_rfl) (fun _ _ _ h => h) (Or.inl ⟨rfl, fun _ _ => rfl⟩) hq1 ?_
      simp only [Act.put, List.setIfInBounds_toArray, List.set_cons_zero, List.set_cons_succ]
      refine takeL (i := 35) (v := _) rfl (by kernel_rfl) (by kernel_rfl) (by kernel_rfl) (fun _ _ _ h => h) (yieldsIf_cell rfl 4 _ rfl ⟨fq, 43, none⟩ rfl (.bool true) _ (fun W' hW' => (hW'.cell (p := ⟨fq, 43, none⟩) hltq).trans qq43) Try.underlying4 rfl) hq1 ?_
      simp only [Act.put, List.setIfInBounds_toArray, List.set_cons_zero, List.set_cons_succ]
      refine takeL (i := 36) (v := (.bool true)) rfl (by kernel_rfl) (by kernel_rfl) (by kernel_rfl) (fun _ _ _ h => h) (Or.inl ⟨rfl, fun _ _ => rfl⟩) hq1 ?_
      simp only [Act.put, List.setIfInBounds_toArray, List.set_cons_zero, List.set_cons_succ]
      refine takeL (i := 37) (v := (.bool true)) rfl (by kernel_rfl) (by kernel_rfl) (by kernel_rfl) (fun _ _ _ h => h) (Or.inl ⟨rfl, fun _ _ => rfl⟩) hq1 ?_
      simp only [Act.put, List.setIfInBounds_toArray, List.set_cons_zero, List.set_cons_succ]
      refine takeL (i := 38) (v := (.pointer (some ⟨fq, 22, none⟩))) rfl (by kernel_rfl) (by kernel_rfl) (by kernel_rfl) (fun _ _ _ h => h) (Or.inl ⟨rfl, fun _ _ => rfl⟩) hq1 ?_
      simp only [Act.put, List.setIfInBounds_toArray, List.set_cons_zero, List.set_cons_succ]
      refine takeL (i := 39) (v := (.pointer (some ⟨fq, 44, none⟩))) rfl (by kernel_rfl) (by kernel_rfl) (by kernel_rfl) (fun _ _ _ h => h) (Or.inl ⟨rfl, fun _ _ => rfl⟩) hq1 ?_
      simp only [Act.put, List.setIfInBounds_toArray, List.set_cons_zero, List.set_cons_succ]
      refine takeL (i := 40) (v := _) rfl (by kernel_rfl) (by kernel_rfl) (by kernel_rfl) (fun _ _ _ h => h) (yieldsIf_cell rfl 4 _ rfl ⟨fq, 44, none⟩ rfl (.bool false) _ (fun W' hW' => (hW'.cell (p := ⟨fq, 44, none⟩) hltq).trans qq44) Try.underlying4 rfl) hq1 ?_
      simp only [Act.put, List.setIfInBounds_toArray, List.set_cons_zero, List.set_cons_succ]
      refine takeL (i := 41) (v := (.bool true)) rfl (by kernel_rfl) (by kernel_rfl) (by kernel_rfl) (fun _ _ _ h => h) (Or.inl ⟨rfl, fun _ _ => rfl⟩) hq1 ?_
      simp only [Act.put, List.setIfInBounds_toArray, List.set_cons_zero, List.set_cons_succ]
      refine takeL (i := 42) (v := (.bool true)) rfl (by kernel_rfl) (by kernel_rfl) (by kernel_rfl) (fun _ _ _ h => h) (Or.inl ⟨rfl, fun _ _ => rfl⟩) hq1 ?_
      simp only [Act.put, List.setIfInBounds_toArray, List.set_cons_zero, List.set_cons_succ]
      refine takeL (i := 43) (v := (.bool true)) rfl (by kernel_rfl) (by kernel_rfl) (by kernel_rfl) (fun _ _ _ h => h) (Or.inl ⟨rfl, fun _ _ => rfl⟩) hq1 ?_
      simp only [Act.put, List.setIfInBounds_toArray, List.set_cons_zero, List.set_cons_succ]
      refine takeL (i := 44) (v := (.pointer (some ⟨fq, 22, none⟩))) rfl (by kernel_rfl) (by kernel_rfl) (by kernel_rfl) (fun _ _ _ h => h) (Or.inl ⟨rfl, fun _ _ => rfl⟩) hq1 ?_
      simp only [Act.put, List.setIfInBounds_toArray, List.set_cons_zero, List.set_cons_succ]
      refine takeL (i := 45) (v := (.pointer (some ⟨fq, 36, none⟩))) rfl (by kernel_rfl) (by kernel_rfl) (by kernel_rfl) (fun _ _ _ h => h) (Or.inl ⟨rfl, fun _ _ => rfl⟩) hq1 ?_
      simp only [Act.put, List.setIfInBounds_toArray, List.set_cons_zero, List.set_cons_succ]
      refine takeL (i := 46) (v := _) rfl (by kernel_rfl) (by kernel_rfl) (by kernel_rfl) (fun _ _ _ h => h) (yieldsIf_cell rfl 4 _ rfl ⟨fq, 36, none⟩ rfl (.bool false) _ (fun W' hW' => (hW'.cell (p := ⟨fq, 36, none⟩) hltq).trans qq36) Try.underlying4 rfl) hq1 ?_
      simp only [Act.put, List.setIfInBounds_toArray, List.set_cons_zero, List.set_cons_succ]
      refine takeL (i := 47) (v := (.bool true)) rfl (by kernel_rfl) (by kernel_rfl) (by kernel_rfl) (fun _ _ _ h => h) (Or.inl ⟨rfl, fun _ _ => rfl⟩) hq1 ?_
      simp only [Act.put, List.setIfInBounds_toArray, List.set_cons_zero, List.set_cons_succ]
      refine takeL (i := 48) (v := (.bool true)) rfl (by kernel_rfl) (by kernel_rfl) (by kernel_rfl) (fun _ _ _ h => h) (Or.inl ⟨rfl, fun _ _ => rfl⟩) hq1 ?_
      simp only [Act.put, List.setIfInBounds_toArray, List.set_cons_zero, List.set_cons_succ]
      refine takeL (i := 49) (v := (.bool true)) rfl (by kernel_rfl) (by kernel_rfl) (by kernel_rfl) (fun _ _ _ h => h) (Or.inl ⟨rfl, fun _ _ => rfl⟩) hq1 ?_
      simp only [Act.put, List.setIfInBounds_toArray, List.set_cons_zero, List.set_cons_succ]
      refine wpAnyH_done (by kernel_rfl) ?_ _
      go_wp2_with fail
      all_goals
        go_ret
        exact ⟨rfl, HE0.out.trans (E30.trans hq1)⟩

end Go.Proofs.Ythfoacgdkoijeaa
