/- The walk of TransStops. No statement is proved here. -/
import Derived.Test.YtnblchilgaimhaaTrT
namespace Go.Proofs.Ytnblchilgaimhaa
open Go.RowKit Go.BigFrame Go.WideShapes Go.ChangeShapes Go.Deep
set_option linter.unusedVariables false
set_option linter.unusedSimpArgs false

set_option maxRecDepth 100000 in
set_option maxHeartbeats 2000000 in
theorem law_TransStops {w : World} (c : Array Value) (B : Br) (hb : BrC w c B) (ho : B.ok) (i : Int) (hi : 0 ≤ i ∧ i < 256) :
    Calls Try.prog 14 #[.agg c, .int .u8 i] w fun e w' => e = .returned (.bool true) ∧ Ext w w' := by
  have hz0 : c.size = 20 := by
    obtain ⟨_, _, _, h, _⟩ := hb.facts ho.hd.1
    exact h
  have hi20 := Lib.hid (show (Try.prog.info? 33).map (·.size) = some c.size by rw [hz0]; exact size_br)
  have HCZ := Lib.hid hz0
  have hE00 : Ext w (w.alloc (.cells c 33)) := ((Ext.refl w).alloc _)
  have hL00 : (w.alloc (.cells c 33)).heap[w.heap.size]? = some (.cells c 33 (0, 0)) := heap_alloc_new _ _
  have hS00 : w.heap.size < (w.alloc (.cells c 33)).heap.size := heap_lt hL00
  have hB00 := hb.ext hE00
  clear hz0
  have HP := Lib.hid hb
  clear hb
  have HhE00 := Lib.hid hE00
  have HhL00 := Lib.hid hL00
  have HhS00 := Lib.hid hS00
  have HhB00 := Lib.hid hB00
  clear hE00 hL00 hS00 hB00
  go_enter Try.func14, Try.ntmps14
  go_wp2_with fail
  have hE00 := HhE00.out
  clear HhE00
  have hL00 := HhL00.out
  clear HhL00
  have hS00 := HhS00.out
  clear HhS00
  have hB00 := HhB00.out
  clear HhB00
  generalize (w.alloc (.cells c 33)) = W0 at *
  obtain ⟨bx, hq⟩ : ∃ n, w.heap.size = n := ⟨_, rfl⟩
  rw [hq] at hL00 hS00 ⊢
  have HE0 := Lib.hid hE00
  have HL0 := Lib.hid hL00
  have HB0 := Lib.hid hB00
  have HS0 := Lib.hid hS00
  have HWB := Lib.hid hq
  clear hE00 hL00 hB00 hS00 hq
  refine (trw_awake _).mono ?_
  rintro e v1 ⟨rfl, E1⟩
  go_wp2_with (first | fail | ((with_reducible refine at_load 33 ?_); refine wpList_load_row rfl 33 _ rfl bx rfl 33 c (0, 0) _ ((E1.block _ HS0.out).trans HL0.out) Try.underlying33 rfl hi20.out ?_))
  refine (few_any c B _ (HB0.out.ext E1) ho).mono ?_
  rintro e v2 ⟨f, rfl, hx2, hf⟩
  have E2 := Ext.trans E1 hx2
  clear E1 hx2
  cases f
  · go_wp2_with fail
    go_ret
    exact ⟨rfl, HE0.out.trans E2⟩
  have hfew := Lib.hid (hf.1 rfl)
  clear hf
  have hn1 := hfew.out.2.1
  have HN := Lib.hid (show B.np ≤ 1000 ∧ B.no ≤ 1000 ∧ B.nf ≤ 1000 by have := hfew.out; omega)
  have hn8 : B.np < 1000 := by have := hfew.out; omega
  go_wp2_with (first
    | fail
    | ((with_reducible refine at_load 33 ?_); refine wpList_load_row rfl 33 _ rfl bx rfl 33 c (0, 0) _ ((E2.block _ HS0.out).trans HL0.out) Try.underlying33 rfl hi20.out ?_))
  refine (at_any c B i _ (HB0.out.ext E2) ho hi hn1).mono ?_
  rintro e v3 ⟨rfl, hx⟩
  have E3 := Ext.trans E2 hx
  clear E2 hx
  obtain ⟨k, hk0⟩ : ∃ k, i.toNat % B.np = k := ⟨_, rfl⟩
  have hk : k < B.np := by rw [← hk0]; exact Nat.mod_lt _ hn1
  have hk8 : k < 1000 := by omega
  rw [hk0]
  clear hk0
  have h89 := Lib.hid (len89 ho hk)
  go_wp2_with (first
    | fail
    | ((with_reducible refine at_load 33 ?_); refine wpList_load_row rfl 33 _ rfl bx rfl 33 c (0, 0) _ ((E3.block _ HS0.out).trans HL0.out) Try.underlying33 rfl hi20.out ?_))
  refine (clone_any c B _ (HB0.out.ext E3) ho HN.out).mono ?_
  rintro e u4 ⟨cx, rfl, hO, hx⟩
  have Eu := Ext.trans E3 hx
  have hcxz := Lib.hid (size_z20.trans (hO.size ho).symm)
  have hcxo := Lib.hid (hO.one ho)
  have hcxi := Lib.hid (show (Try.prog.info? 33).map (·.size) = some cx.size by rw [hO.size ho]; exact size_br)
  obtain ⟨gx, hM⟩ := hO.made hx.size hn1
  obtain ⟨Nx, hN0, hsz⟩ := nameLe hx.size
  have hNE : W0.heap.size ≤ Nx := by
    rw [← hN0]
    exact E3.size
  rw [hN0] at hM
  have HMK := Lib.hid (show ∀ wx : World, wx = u4.alloc (.cells cx 33) → BrG wx (fun n => Nx ≤ n ∧ n < u4.heap.size + 1) u4.heap.size gx B ∧ Ext W0 wx from by
    rintro _ rfl
    exact ⟨hM, Eu.alloc _⟩)
  clear hM hO hx Eu hN0 E3
  obtain ⟨X, hX0⟩ : ∃ n, u4.heap.size = n := ⟨_, rfl⟩
  have HX0 := Lib.hid hX0
  rw [hX0] at HMK hsz
  have hsx := Lib.hid (show Nx ≤ X ∧ W0.heap.size ≤ Nx from ⟨hsz, hNE⟩)
  clear hsz hNE hX0
  go_wp2_with (first
    | fail
    | ((with_reducible refine at_store 33 ?_); refine wpList_store_new3 rfl rfl 33 _ _ _ rfl _ cx _ rfl ?_ rfl hcxi.out hcxz.out hcxo.out ?_; · rfl
       intro wx hwx
       have hmk := HMK.out wx hwx
       obtain ⟨hBx, E5⟩ := hmk
       have H5x := Lib.hid hBx
       rw [HX0.out]
       clear hwx hBx HMK HX0 hcxz hcxo hcxi
       obtain ⟨hXl, hgl, hne⟩ := H5x.out.lt
       obtain ⟨cap, c17, hca, hcb⟩ := H5x.out.cell17 ho
       have hfr := H5x.out.frozen)
    | ((with_reducible refine at_build 49 ?_); refine wpList_build2 rfl 49 _ rfl [(22, .bool true), (24, .bool true), (6, .bool true), (4, .bool true), (7, .bool true), (5, .bool true)] rfl _ sp_fb ?_)
    | ((with_reducible refine at_store 49 ?_); refine wpList_store_midN rfl rfl 49 _ _ rfl gx (k * 89 + 22) (flags [22, 24, 6, 4, 7, 5]).toArray rfl rfl (by rw [List.size_toArray, flags_len]; exact H5x.out.thereAt hk (by decide)) (flags_size _) (flags_one _) ?_
       intro wy hwy
       have hBS : BrG wy (fun n => Nx ≤ n ∧ n < X + 1) X gx (B.setr k 22 (flags [22, 24, 6, 4, 7, 5])) := by
         rw [hwy]
         exact H5x.out.setr hk (by rw [flags_len]; decide)
       have hms : Mut (fun n => Nx ≤ n ∧ n < X + 1) wx wy := by
         rw [hwy]
         exact Mut.setCells (.inl H5x.out.F2) _ _ (Mut.refl _ _)
       have E6 := Ext.mutE E5 hms (fun n hn h1 => by have := h1.1; have := hsx.out; omega)
       have H6x := Lib.hid hBS
       have ok6 : Br.ok (B.setr k 22 (flags [22, 24, 6, 4, 7, 5])) := flags_typed ho hk _
       clear hwy hBS hms E5 c17 hfr
       obtain ⟨hXl, hgl, hne⟩ := H6x.out.lt
       obtain ⟨cap, c17, hca, hcb⟩ := H6x.out.cell17 ok6
       rw [show ((B.setr k 22 (flags [22, 24, 6, 4, 7, 5]))).np = B.np from np_setr _ _ _ _] at c17 hca
       have hfr := H6x.out.frozen
       have p87 := (H6x.out.cellg (i := k * 89 + 87) (lt89 (N := ((B.setr k 22 (flags [22, 24, 6, 4, 7, 5]))).np) (show k < Br.np (B.setr k 22 (flags [22, 24, 6, 4, 7, 5])) by rw [np_setr]; exact hk) (by decide))).trans (Br.ok.gi ok6 (k := k) (show k < Br.np (B.setr k 22 (flags [22, 24, 6, 4, 7, 5])) by rw [np_setr]; exact hk) 87 rfl)
       have p88 := (H6x.out.cellg (i := k * 89 + 88) (lt89 (N := ((B.setr k 22 (flags [22, 24, 6, 4, 7, 5]))).np) (show k < Br.np (B.setr k 22 (flags [22, 24, 6, 4, 7, 5])) by rw [np_setr]; exact hk) (by decide))).trans (Br.ok.gi ok6 (k := k) (show k < Br.np (B.setr k 22 (flags [22, 24, 6, 4, 7, 5])) by rw [np_setr]; exact hk) 88 rfl)
       have p19 := (H6x.out.cellg (i := k * 89 + 19) (lt89 (N := ((B.setr k 22 (flags [22, 24, 6, 4, 7, 5]))).np) (show k < Br.np (B.setr k 22 (flags [22, 24, 6, 4, 7, 5])) by rw [np_setr]; exact hk) (by decide))).trans (Br.ok.gi ok6 (k := k) (show k < Br.np (B.setr k 22 (flags [22, 24, 6, 4, 7, 5])) by rw [np_setr]; exact hk) 19 rfl)))
  have HZ7 := Lib.hid (show BrG _ (fun n => Nx ≤ n ∧ n < X + 1) X gx (sp0 B k) from (((H6x.out.setp (k := k) (j := 87) hk (by decide) (.int .i64 4)).setp (k := k) (j := 88) hk (by decide) (.int .i64 4)).setp (k := k) (j := 19) hk (by decide) (.int .i64 3)))
  have okz7 : Br.ok (sp0 B k) := (((ok6.setI (k := k) hk 87 .i64 4 rfl (by decide)).setI (k := k) hk 88 .i64 4 rfl (by decide)).setI (k := k) hk 19 .i64 3 rfl (by decide))
  have hmz := ((((Mut.refl (fun n => Nx ≤ n ∧ n < X + 1) wy).setCell (p := ⟨gx, k * 89 + 87, none⟩) (.inl H6x.out.F2) (.int .i64 4)).setCell (p := ⟨gx, k * 89 + 88, none⟩) (.inl H6x.out.F2) (.int .i64 4)).setCell (p := ⟨gx, k * 89 + 19, none⟩) (.inl H6x.out.F2) (.int .i64 3))
  have EZ7 := Ext.mutE E6 hmz (fun n hn h1 => by have := h1.1; have := hsx.out; omega)
  clear E6
  have HMZ := Lib.hid hmz
  clear hmz
  clear c17 hfr p87 p88 p19
  refine (tr_stepL _ Nx X gx k (sp0 B k) HZ7.out okz7 (show k < Br.np (sp0 B k) by rw [sp0_np]; exact hk) (show Br.np (sp0 B k) < 1000 by rw [sp0_np]; exact hn8) (show 0 ≤ Br.hi (sp0 B k) 4 ∧ Br.hi (sp0 B k) 4 ≤ 1000 by rw [sp0_hi]; exact few_hi4 hfew.out.1)).mono ?_
  rw [sp0_step h89.out]
  rintro e v8 ⟨he, hB, hm⟩
  obtain rfl : e = .returned (.bool true) := he
  have ok8 : Br.ok (sp1 B k) := by
    have := trF_ok (B := (sp0 B k)) (k := k) okz7 (show k < Br.np (sp0 B k) by rw [sp0_np]; exact hk) (show 0 ≤ Br.hi (sp0 B k) 4 ∧ Br.hi (sp0 B k) 4 ≤ 1000 by rw [sp0_hi]; exact few_hi4 hfew.out.1)
    rw [sp0_step h89.out] at this
    exact this
  have E8 := Ext.mutE EZ7 hm (fun n hn h1 => by have := h1.1; have := hsx.out; omega)
  clear EZ7
  have H8x := Lib.hid (show BrG _ (fun n => Nx ≤ n ∧ n < X + 1) X gx (sp1 B k) from hB)
  clear hB hm
  obtain ⟨hXl, hgl, hne⟩ := H8x.out.lt
  obtain ⟨cap, c17, hca, hcb⟩ := H8x.out.cell17 ok8
  rw [show ((sp1 B k)).np = B.np from sp1_np B k] at c17 hca
  have hfr := H8x.out.frozen
  have hkc : k < ((sp1 B k)).np := by rw [sp1_np]; exact hk
  have hflra := Lib.hid (H8x.out.flags hkc)
  have hfn := flagsOf_len ok8 hkc
  have fa6 : (flagsOf ((sp1 B k)).ps k)[6]? = some (.bool false) := by rw [flagsOf_at (by decide)]; exact (Br.ok.gb ok8 (k := k) hkc 28 rfl).trans (by rw [sp1_28 h89.out])
  have fa4 : (flagsOf ((sp1 B k)).ps k)[4]? = some (.bool false) := by rw [flagsOf_at (by decide)]; exact (Br.ok.gb ok8 (k := k) hkc 26 rfl).trans (by rw [sp1_26 h89.out])
  have fa25 : (flagsOf ((sp1 B k)).ps k)[25]? = some (.bool false) := by rw [flagsOf_at (by decide)]; exact (Br.ok.gb ok8 (k := k) hkc 47 rfl).trans (by rw [sp1_47 h89.out])
  have hfloa := Lib.hid (all_oneCell_toArray (flagsOf_one ok8 k))
  obtain ⟨fla, hfl⟩ : ∃ fl, flagsOf ((sp1 B k)).ps k = fl := ⟨_, rfl⟩
  rw [hfl] at hflra hfn hfloa fa6 fa4 fa25
  have hflia := Lib.hid (show (Try.prog.info? 49).map (·.size) = some fla.length by rw [hfn]; exact size_flags)
  have hflja := Lib.hid (show (Try.prog.info? 49).map (·.size) = some fla.toArray.size by rw [List.size_toArray, hfn]; exact size_flags)
  have hflsa := Lib.hid (show FZ.size = fla.toArray.size by rw [List.size_toArray]; exact hfn.symm)
  clear hfl hfn hkc
  have hzf := zero_flags
  go_wp2_with (first
    | fail
    | ((with_reducible refine at_load 49 ?_); refine wpList_load_mid rfl 49 _ rfl gx (k * 89 + 22) rfl fla _ hflra.out Try.underlying49 rfl hflia.out ?_)
    | ((with_reducible refine at_store 49 ?_); refine wpList_store_new3 rfl rfl 49 _ _ _ rfl FZ fla.toArray _ rfl ?_ rfl hflja.out hflsa.out (by rw [Array.all_toList]; exact hfloa.out) ?_; · rfl
       intro wfa hwf
       have hY := H8x.out.alloc (.cells fla.toArray 49)
       rw [← hwf] at hY
       have H9x := Lib.hid hY
       have E9 := E8.alloc (.cells fla.toArray 49)
       rw [← hwf] at E9
       have hbx := heap_alloc_new v8 (.cells fla.toArray 49)
       rw [← hwf] at hbx
       have hxb := Lib.hid H8x.out.lt.1
       obtain ⟨fa, hfb⟩ : ∃ n, v8.heap.size = n := ⟨_, rfl⟩
       rw [hfb] at hbx hxb ⊢
       have HFa := Lib.hid hbx
       have HGa := hxb
       clear hwf hY hbx hxb hfb E8 c17 hfr hzf
       obtain ⟨hXl, hgl, hne⟩ := H9x.out.lt
       obtain ⟨cap, c17, hca, hcb⟩ := H9x.out.cell17 ok8
       rw [show ((sp1 B k)).np = B.np from sp1_np B k] at c17 hca
       have hfr := H9x.out.frozen
       have p29 := (H9x.out.cellg (i := k * 89 + 29) (lt89 (N := ((sp1 B k)).np) (show k < Br.np (sp1 B k) by rw [sp1_np]; exact hk) (by decide))).trans (Br.ok.gb ok8 (k := k) (show k < Br.np (sp1 B k) by rw [sp1_np]; exact hk) 29 rfl)
       have p27 := (H9x.out.cellg (i := k * 89 + 27) (lt89 (N := ((sp1 B k)).np) (show k < Br.np (sp1 B k) by rw [sp1_np]; exact hk) (by decide))).trans (Br.ok.gb ok8 (k := k) (show k < Br.np (sp1 B k) by rw [sp1_np]; exact hk) 27 rfl)))
  have HZ10 := Lib.hid (show BrG _ (fun n => Nx ≤ n ∧ n < X + 1) X gx (sp2 B k) from ((H9x.out.setp (k := k) (j := 29) (show k < Br.np (sp1 B k) by rw [sp1_np]; exact hk) (by decide) (.bool false)).setp (k := k) (j := 27) (show k < Br.np (sp1 B k) by rw [sp1_np]; exact hk) (by decide) (.bool false)))
  have okz10 : Br.ok (sp2 B k) := ((ok8.setB (k := k) (show k < Br.np (sp1 B k) by rw [sp1_np]; exact hk) 29 false rfl).setB (k := k) (show k < Br.np (sp1 B k) by rw [sp1_np]; exact hk) 27 false rfl)
  have hmz := (((Mut.refl (fun n => Nx ≤ n ∧ n < X + 1) wfa).setCell (p := ⟨gx, k * 89 + 29, none⟩) (.inl H9x.out.F2) (.bool false)).setCell (p := ⟨gx, k * 89 + 27, none⟩) (.inl H9x.out.F2) (.bool false))
  have EZ10 := Ext.mutE E9 hmz (fun n hn h1 => by have := h1.1; have := hsx.out; omega)
  clear E9
  have HMZ := Lib.hid hmz
  have HFa := Lib.hid ((HMZ.out.heap (heap_lt HFa.out) (fun hh => by have h1 := hh.2; have h2 := HGa.out; omega)).trans HFa.out)
  clear hmz
  clear c17 hfr p29 p27
  refine (tr_stepL _ Nx X gx k (sp2 B k) HZ10.out okz10 (show k < Br.np (sp2 B k) by rw [sp2_np]; exact hk) (show Br.np (sp2 B k) < 1000 by rw [sp2_np]; exact hn8) (show 0 ≤ Br.hi (sp2 B k) 4 ∧ Br.hi (sp2 B k) 4 ≤ 1000 by rw [sp2_hi]; exact few_hi4 hfew.out.1)).mono ?_
  rw [sp2_step h89.out]
  rintro e v11 ⟨he, hB, hm⟩
  obtain rfl : e = .returned (.bool true) := he
  have HFa := Lib.hid ((hm.heap (heap_lt HFa.out) (fun hh => by have h1 := hh.2; have h2 := HGa.out; omega)).trans HFa.out)
  have ok11 : Br.ok (sp3 B k) := by
    have := trF_ok (B := (sp2 B k)) (k := k) okz10 (show k < Br.np (sp2 B k) by rw [sp2_np]; exact hk) (show 0 ≤ Br.hi (sp2 B k) 4 ∧ Br.hi (sp2 B k) 4 ≤ 1000 by rw [sp2_hi]; exact few_hi4 hfew.out.1)
    rw [sp2_step h89.out] at this
    exact this
  have E11 := Ext.mutE EZ10 hm (fun n hn h1 => by have := h1.1; have := hsx.out; omega)
  clear EZ10
  have H11x := Lib.hid (show BrG _ (fun n => Nx ≤ n ∧ n < X + 1) X gx (sp3 B k) from hB)
  clear hB hm
  go_wp2_with fail
  refine (tr_stepL _ Nx X gx k (sp3 B k) H11x.out ok11 (show k < Br.np (sp3 B k) by rw [sp3_np]; exact hk) (show Br.np (sp3 B k) < 1000 by rw [sp3_np]; exact hn8) (show 0 ≤ Br.hi (sp3 B k) 4 ∧ Br.hi (sp3 B k) 4 ≤ 1000 by rw [sp3_hi]; exact few_hi4 hfew.out.1)).mono ?_
  rw [sp3_step h89.out]
  rintro e v12 ⟨he, hB, hm⟩
  obtain rfl : e = .returned (.bool true) := he
  have HFa := Lib.hid ((hm.heap (heap_lt HFa.out) (fun hh => by have h1 := hh.2; have h2 := HGa.out; omega)).trans HFa.out)
  have ok12 : Br.ok (sp4 B k) := by
    have := trF_ok (B := (sp3 B k)) (k := k) ok11 (show k < Br.np (sp3 B k) by rw [sp3_np]; exact hk) (show 0 ≤ Br.hi (sp3 B k) 4 ∧ Br.hi (sp3 B k) 4 ≤ 1000 by rw [sp3_hi]; exact few_hi4 hfew.out.1)
    rw [sp3_step h89.out] at this
    exact this
  have E12 := Ext.mutE E11 hm (fun n hn h1 => by have := h1.1; have := hsx.out; omega)
  clear E11
  have H12x := Lib.hid (show BrG _ (fun n => Nx ≤ n ∧ n < X + 1) X gx (sp4 B k) from hB)
  clear hB hm
  obtain ⟨hXl, hgl, hne⟩ := H12x.out.lt
  obtain ⟨cap, c17, hca, hcb⟩ := H12x.out.cell17 ok12
  rw [show ((sp4 B k)).np = B.np from sp4_np B k] at c17 hca
  have hfr := H12x.out.frozen
  have hkc : k < ((sp4 B k)).np := by rw [sp4_np]; exact hk
  have hflrb := Lib.hid (H12x.out.flags hkc)
  have hfn := flagsOf_len ok12 hkc
  have fb25 : (flagsOf ((sp4 B k)).ps k)[25]? = some (.bool true) := by rw [flagsOf_at (by decide)]; exact (Br.ok.gb ok12 (k := k) hkc 47 rfl).trans (by rw [sp4_47 h89.out])
  have fb24 : (flagsOf ((sp4 B k)).ps k)[24]? = some (.bool false) := by rw [flagsOf_at (by decide)]; exact (Br.ok.gb ok12 (k := k) hkc 46 rfl).trans (by rw [sp4_46 h89.out])
  have fb12 : (flagsOf ((sp4 B k)).ps k)[12]? = some (.bool true) := by rw [flagsOf_at (by decide)]; exact (Br.ok.gb ok12 (k := k) hkc 34 rfl).trans (by rw [sp4_34 h89.out])
  have hflob := Lib.hid (all_oneCell_toArray (flagsOf_one ok12 k))
  obtain ⟨flb, hfl⟩ : ∃ fl, flagsOf ((sp4 B k)).ps k = fl := ⟨_, rfl⟩
  rw [hfl] at hflrb hfn hflob fb25 fb24 fb12
  have hflib := Lib.hid (show (Try.prog.info? 49).map (·.size) = some flb.length by rw [hfn]; exact size_flags)
  have hfljb := Lib.hid (show (Try.prog.info? 49).map (·.size) = some flb.toArray.size by rw [List.size_toArray, hfn]; exact size_flags)
  have hflsb := Lib.hid (show FZ.size = flb.toArray.size by rw [List.size_toArray]; exact hfn.symm)
  clear hfl hfn hkc
  have hzf := zero_flags
  go_wp2_with (first
    | fail
    | ((with_reducible refine at_load 49 ?_); refine wpList_load_mid rfl 49 _ rfl gx (k * 89 + 22) rfl flb _ hflrb.out Try.underlying49 rfl hflib.out ?_)
    | ((with_reducible refine at_store 49 ?_); refine wpList_store_new3 rfl rfl 49 _ _ _ rfl FZ flb.toArray _ rfl ?_ rfl hfljb.out hflsb.out (by rw [Array.all_toList]; exact hflob.out) ?_; · rfl
       intro wfb hwf
       have HNa := Lib.hid (show wfb.heap[fa]? = some (.cells fla.toArray 49 (0, 0)) from by rw [hwf]; exact (heap_alloc_old _ _ (heap_lt HFa.out)).trans HFa.out)
       have hY := H12x.out.alloc (.cells flb.toArray 49)
       rw [← hwf] at hY
       have H13x := Lib.hid hY
       have E13 := E12.alloc (.cells flb.toArray 49)
       rw [← hwf] at E13
       have hbx := heap_alloc_new v12 (.cells flb.toArray 49)
       rw [← hwf] at hbx
       have hxb := Lib.hid H12x.out.lt.1
       obtain ⟨fb, hfb⟩ : ∃ n, v12.heap.size = n := ⟨_, rfl⟩
       rw [hfb] at hbx hxb ⊢
       have HFb := Lib.hid hbx
       have HGb := hxb
       clear hwf hY hbx hxb hfb E12 c17 hfr hzf
       have qa6 : wfb.cell? ⟨fa, 6, none⟩ = some (.bool false) := by rw [cell_of_row _ _ _ _ _ _ HNa.out]; simpa using fa6
       have qa4 : wfb.cell? ⟨fa, 4, none⟩ = some (.bool false) := by rw [cell_of_row _ _ _ _ _ _ HNa.out]; simpa using fa4
       have qa25 : wfb.cell? ⟨fa, 25, none⟩ = some (.bool false) := by rw [cell_of_row _ _ _ _ _ _ HNa.out]; simpa using fa25
       have qb25 : wfb.cell? ⟨fb, 25, none⟩ = some (.bool true) := by rw [cell_of_row _ _ _ _ _ _ HFb.out]; simpa using fb25
       have qb24 : wfb.cell? ⟨fb, 24, none⟩ = some (.bool false) := by rw [cell_of_row _ _ _ _ _ _ HFb.out]; simpa using fb24
       have qb12 : wfb.cell? ⟨fb, 12, none⟩ = some (.bool true) := by rw [cell_of_row _ _ _ _ _ _ HFb.out]; simpa using fb12))
  all_goals
    go_ret
    exact ⟨rfl, HE0.out.trans E13⟩

end Go.Proofs.Ytnblchilgaimhaa
