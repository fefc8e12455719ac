/- The walk of InfoDown. No statement is proved here. -/
import Derived.Test.YthfoacgdkoijeaaInfI
namespace Go.Proofs.Ythfoacgdkoijeaa
open Go.RowKit Go.BigFrame Go.WideShapes Go.ChangeShapes Go.Deep
set_option linter.unusedVariables false
set_option linter.unusedSimpArgs false

set_option maxRecDepth 100000 in
set_option maxHeartbeats 2000000 in
theorem law_InfoDown {w : World} (c : Array Value) (B : Br) (hb : BrC w c B) (ho : B.ok) (i : Int) (hi : 0 ≤ i ∧ i < 256) :
    Calls Try.prog 7 #[.agg c, .int .u8 i] w fun e w' => e = .returned (.bool true) ∧ Ext w w' := by
  have hz0 : c.size = 20 := by
    obtain ⟨_, _, _, h, _⟩ := hb.facts ho.hd.1
    exact h
  have hi20 := Lib.hid (show (Try.prog.info? 33).map (·.size) = some c.size by rw [hz0]; exact size_br)
  have HCZ := Lib.hid hz0
  have hE00 : Ext w (w.alloc (.cells c 33)) := ((Ext.refl w).alloc _)
  have hL00 : (w.alloc (.cells c 33)).heap[w.heap.size]? = some (.cells c 33 (0, 0)) := heap_alloc_new _ _
  have hS00 : w.heap.size < (w.alloc (.cells c 33)).heap.size := heap_lt hL00
  have hB00 := hb.ext hE00
  clear hz0
  have HP := Lib.hid hb
  clear hb
  have HhE00 := Lib.hid hE00
  have HhL00 := Lib.hid hL00
  have HhS00 := Lib.hid hS00
  have HhB00 := Lib.hid hB00
  clear hE00 hL00 hS00 hB00
  go_enter Try.func7, Try.ntmps7
  go_wp2_with fail
  have hE00 := HhE00.out
  clear HhE00
  have hL00 := HhL00.out
  clear HhL00
  have hS00 := HhS00.out
  clear HhS00
  have hB00 := HhB00.out
  clear HhB00
  generalize (w.alloc (.cells c 33)) = W0 at *
  obtain ⟨bx, hq⟩ : ∃ n, w.heap.size = n := ⟨_, rfl⟩
  rw [hq] at hL00 hS00 ⊢
  have HE0 := Lib.hid hE00
  have HL0 := Lib.hid hL00
  have HB0 := Lib.hid hB00
  have HS0 := Lib.hid hS00
  have HWB := Lib.hid hq
  clear hE00 hL00 hB00 hS00 hq
  refine (infw_awake _).mono ?_
  rintro e v1 ⟨rfl, E1⟩
  go_wp2_with (first | fail | ((with_reducible refine at_load 33 ?_); refine wpList_load_row rfl 33 _ rfl bx rfl 33 c (0, 0) _ ((E1.block _ HS0.out).trans HL0.out) Try.underlying33 rfl hi20.out ?_))
  refine (few_any c B _ (HB0.out.ext E1) ho).mono ?_
  rintro e v2 ⟨f, rfl, hx2, hf⟩
  have E2 := Ext.trans E1 hx2
  clear E1 hx2
  cases f
  · go_wp2_with fail
    go_ret
    exact ⟨rfl, HE0.out.trans E2⟩
  have hfew := Lib.hid (hf.1 rfl)
  clear hf
  have hn1 := hfew.out.2.1
  have HN := Lib.hid (show B.np ≤ 1000 ∧ B.no ≤ 1000 ∧ B.nf ≤ 1000 by have := hfew.out; omega)
  have hn8 : B.np < 1000 := by have := hfew.out; omega
  go_wp2_with (first
    | fail
    | ((with_reducible refine at_load 33 ?_); refine wpList_load_row rfl 33 _ rfl bx rfl 33 c (0, 0) _ ((E2.block _ HS0.out).trans HL0.out) Try.underlying33 rfl hi20.out ?_))
  refine (at_any c B i _ (HB0.out.ext E2) ho hi hn1).mono ?_
  rintro e v3 ⟨rfl, hx⟩
  have E3 := Ext.trans E2 hx
  clear E2 hx
  obtain ⟨k, hk0⟩ : ∃ k, i.toNat % B.np = k := ⟨_, rfl⟩
  have hk : k < B.np := by rw [← hk0]; exact Nat.mod_lt _ hn1
  have hk8 : k < 1000 := by omega
  rw [hk0]
  clear hk0
  have h89 := Lib.hid (len89 ho hk)
  have HTM := Lib.hid (tim_of hfew.out.1 hk)
  by_cases h86 : B.gi k 86 = 0
  · have hz : (B.gi k 86 == 0) = true := by simpa using h86
    have HZ0 := Lib.hid hz
    clear hz
    go_wp2_with (first
      | fail
      | ((with_reducible refine at_load 33 ?_); refine wpList_load_row rfl 33 _ rfl bx rfl 33 c (0, 0) _ ((E3.block _ HS0.out).trans HL0.out) Try.underlying33 rfl hi20.out ?_))
    refine (clone_any c B _ (HB0.out.ext E3) ho HN.out).mono ?_
    rintro e u4 ⟨cx, rfl, hO, hx⟩
    have Eu := Ext.trans E3 hx
    have hcxz := Lib.hid (size_z20.trans (hO.size ho).symm)
    have hcxo := Lib.hid (hO.one ho)
    have hcxi := Lib.hid (show (Try.prog.info? 33).map (·.size) = some cx.size by rw [hO.size ho]; exact size_br)
    obtain ⟨gx, hM⟩ := hO.made hx.size hn1
    obtain ⟨Nx, hN0, hsz⟩ := nameLe hx.size
    have hNE : W0.heap.size ≤ Nx := by
      rw [← hN0]
      exact E3.size
    rw [hN0] at hM
    have HMK := Lib.hid (show ∀ wx : World, wx = u4.alloc (.cells cx 33) → BrG wx (fun n => Nx ≤ n ∧ n < u4.heap.size + 1) u4.heap.size gx B ∧ Ext W0 wx from by
      rintro _ rfl
      exact ⟨hM, Eu.alloc _⟩)
    clear hM hO hx Eu hN0 E3
    obtain ⟨X, hX0⟩ : ∃ n, u4.heap.size = n := ⟨_, rfl⟩
    have HX0 := Lib.hid hX0
    rw [hX0] at HMK hsz
    have hsx := Lib.hid (show Nx ≤ X ∧ W0.heap.size ≤ Nx from ⟨hsz, hNE⟩)
    clear hsz hNE hX0
    go_wp2_with (first
      | fail
      | ((with_reducible refine at_store 33 ?_); refine wpList_store_new3 rfl rfl 33 _ _ _ rfl _ cx _ rfl ?_ rfl hcxi.out hcxz.out hcxo.out ?_; · rfl
         intro wx hwx
         have hmk := HMK.out wx hwx
         obtain ⟨hBx, E5⟩ := hmk
         have H5x := Lib.hid hBx
         rw [HX0.out]
         clear hwx hBx HMK HX0 hcxz hcxo hcxi
         obtain ⟨hXl, hgl, hne⟩ := H5x.out.lt
         obtain ⟨cap, c17, hca, hcb⟩ := H5x.out.cell17 ho
         have hfr := H5x.out.frozen
         have p2 := (H5x.out.cellg (i := k * 89 + 2) (lt89 (N := (B).np) hk (by decide))).trans (Br.ok.gb ho (k := k) hk 2 rfl)
         have p86 := (H5x.out.cellg (i := k * 89 + 86) (lt89 (N := (B).np) hk (by decide))).trans (Br.ok.gi ho (k := k) hk 86 rfl)
         rw [h86] at p86))
    have HZ6 := Lib.hid (show BrG _ (fun n => Nx ≤ n ∧ n < X + 1) X gx (dnL true B k) from ((H5x.out.setp (k := k) (j := 2) hk (by decide) (.bool false)).setp (k := k) (j := 86) hk (by decide) (.int .i64 2)))
    have okz6 : Br.ok (dnL true B k) := (dnL_ok ho hk)
    have hmz := (((Mut.refl (fun n => Nx ≤ n ∧ n < X + 1) wx).setCell (p := ⟨gx, k * 89 + 2, none⟩) (.inl H5x.out.F2) (.bool false)).setCell (p := ⟨gx, k * 89 + 86, none⟩) (.inl H5x.out.F2) (.int .i64 2))
    have EZ6 := Ext.mutE E5 hmz (fun n hn h1 => by have := h1.1; have := hsx.out; omega)
    clear E5
    have HMZ := Lib.hid hmz
    clear hmz
    clear c17 hfr p2 p86
    refine (inf_step _ (fun n => Nx ≤ n ∧ n < X + 1) X gx k (dnL true B k) HZ6.out okz6 (show k < Br.np (dnL true B k) by rw [dnL_np]; exact hk) (show Br.np (dnL true B k) < 1000 by have := hn8; simpa only [dnL_np] using this) (dn_tim HTM.out)).mono ?_
    rw [dn_step1 h89.out HZ0.out]
    rintro e v7 ⟨he, hB, hm⟩
    obtain rfl : e = .returned (.bool true) := he
    have ok7 : Br.ok (dnZ true B k) := by
      have := infF_ok (B := (dnL true B k)) (k := k) okz6 (show k < Br.np (dnL true B k) by rw [dnL_np]; exact hk) (dn_tim HTM.out)
      rw [dn_step1 h89.out HZ0.out] at this
      exact this
    have E7 := Ext.mutE EZ6 hm (fun n hn h1 => by have := h1.1; have := hsx.out; omega)
    clear EZ6
    have H7x := Lib.hid (show BrG _ (fun n => Nx ≤ n ∧ n < X + 1) X gx (dnZ true B k) from hB)
    clear hB hm
    have hnp0 : ((dnZ true B k)).np = B.np := dnZ_np
    obtain ⟨hXl, hgl, hne⟩ := H7x.out.lt
    obtain ⟨cap, c17, hca, hcb⟩ := H7x.out.cell17 ok7
    rw [show ((dnZ true B k)).np = B.np from dnZ_np] at c17 hca
    have hfr := H7x.out.frozen
    have hkc : k < Br.np (dnZ true B k) := (show k < Br.np (dnZ true B k) by rw [dnZ_np]; exact hk)
    have hrq0 := H7x.out.range (k := k) hkc
    have cq86 : (port (Br.ps (dnZ true B k)) k)[86]? = some (.int .i64 0) := (port_at (B := (dnZ true B k)) (k := k) (j := 86) (by decide)).trans ((Br.ok.gi ok7 (k := k) hkc 86 rfl).trans (by rw [dnZ_86 h89.out]))
    have cq18 : (port (Br.ps (dnZ true B k)) k)[18]? = some (.int .i64 0) := (port_at (B := (dnZ true B k)) (k := k) (j := 18) (by decide)).trans ((Br.ok.gi ok7 (k := k) hkc 18 rfl).trans (by rw [dnZ_18 h89.out]))
    have cq11 : (port (Br.ps (dnZ true B k)) k)[11]? = some (.int .i64 0) := (port_at (B := (dnZ true B k)) (k := k) (j := 11) (by decide)).trans ((Br.ok.gi ok7 (k := k) hkc 11 rfl).trans (by rw [dnZ_11 h89.out]))
    have cq36 : (port (Br.ps (dnZ true B k)) k)[36]? = some (.bool false) := (port_at (B := (dnZ true B k)) (k := k) (j := 36) (by decide)).trans ((Br.ok.gb ok7 (k := k) hkc 36 rfl).trans (by rw [dnZ_36 h89.out]))
    have cq33 : (port (Br.ps (dnZ true B k)) k)[33]? = some (.bool false) := (port_at (B := (dnZ true B k)) (k := k) (j := 33) (by decide)).trans ((Br.ok.gb ok7 (k := k) hkc 33 rfl).trans (by rw [dnZ_33 h89.out]))
    have cq34 : (port (Br.ps (dnZ true B k)) k)[34]? = some (.bool false) := (port_at (B := (dnZ true B k)) (k := k) (j := 34) (by decide)).trans ((Br.ok.gb ok7 (k := k) hkc 34 rfl).trans (by rw [dnZ_34 h89.out]))
    have cq22 : (port (Br.ps (dnZ true B k)) k)[22]? = some (.bool false) := (port_at (B := (dnZ true B k)) (k := k) (j := 22) (by decide)).trans ((Br.ok.gb ok7 (k := k) hkc 22 rfl).trans (by rw [dnZ_22 h89.out]))
    have cq23 : (port (Br.ps (dnZ true B k)) k)[23]? = some (.bool false) := (port_at (B := (dnZ true B k)) (k := k) (j := 23) (by decide)).trans ((Br.ok.gb ok7 (k := k) hkc 23 rfl).trans (by rw [dnZ_23 h89.out]))
    have cq43 : (port (Br.ps (dnZ true B k)) k)[43]? = some (.bool true) := (port_at (B := (dnZ true B k)) (k := k) (j := 43) (by decide)).trans ((Br.ok.gb ok7 (k := k) hkc 43 rfl).trans (by rw [dnZ_43 h89.out]))
    have cq44 : (port (Br.ps (dnZ true B k)) k)[44]? = some (.bool false) := (port_at (B := (dnZ true B k)) (k := k) (j := 44) (by decide)).trans ((Br.ok.gb ok7 (k := k) hkc 44 rfl).trans (by rw [dnZ_44 h89.out]))
    have hnq0 : (port (Br.ps (dnZ true B k)) k).length = 89 := (port_typed ok7 (i := k) hkc).1
    have hoq := Lib.hid (all_oneCell_toArray (port_typed ok7 (i := k) hkc).one)
    obtain ⟨pq, hpq⟩ : ∃ p, port (Br.ps (dnZ true B k)) k = p := ⟨_, rfl⟩
    rw [hpq] at hrq0 hnq0 hoq cq86 cq18 cq11 cq36 cq33 cq34 cq22 cq23 cq43 cq44
    clear hpq
    have hrq := Lib.hid hrq0
    clear hrq0
    have hiq := Lib.hid (show (Try.prog.info? 51).map (·.size) = some pq.length by rw [hnq0]; exact size_port)
    have hjq := Lib.hid (show (Try.prog.info? 51).map (·.size) = some pq.toArray.size by rw [List.size_toArray, hnq0]; exact size_port)
    have hsqz := Lib.hid (show PZ.size = pq.toArray.size by rw [List.size_toArray]; exact hnq0.symm)
    have hzq := zero_port
    clear hnq0
    clear hkc
    go_wp2_with (first
      | fail
      | ((with_reducible refine at_load 51 ?_); refine wpList_load_mid rfl 51 _ rfl gx (k * 89) rfl pq _ hrq.out Try.underlying51 rfl hiq.out ?_)
      | ((with_reducible refine at_store 51 ?_); refine wpList_store_new3 rfl rfl 51 _ _ _ rfl PZ pq.toArray _ rfl ?_ rfl hjq.out hsqz.out (by rw [Array.all_toList]; exact hoq.out) ?_; · rfl
         intro wfq hwf
         have hY := H7x.out.alloc (.cells pq.toArray 51)
         rw [← hwf] at hY
         have hE0 : Ext v7 wfq := by rw [hwf]; exact (Ext.refl _).alloc _
         have E8 := E7.trans hE0
         have hbx := heap_alloc_new v7 (.cells pq.toArray 51)
         rw [← hwf] at hbx
         have hxb := Lib.hid H7x.out.lt.1
         obtain ⟨fq, hfb⟩ : ∃ n, v7.heap.size = n := ⟨_, rfl⟩
         rw [hfb] at hbx hxb ⊢
         have HFq := Lib.hid hbx
         have HGq := hxb
         have H8x := Lib.hid hY
         clear hwf hY hbx hxb hfb hE0 E7 hzq))
    refine (inf_step _ (fun n => Nx ≤ n ∧ n < X + 1) X gx k (dnZ true B k) H8x.out ok7 (show k < Br.np (dnZ true B k) by rw [dnZ_np]; exact hk) (show Br.np (dnZ true B k) < 1000 by have := hn8; simpa only [dnZ_np] using this) (dnZ_tim HTM.out h89.out)).mono ?_
    rw [dn_step2 h89.out]
    rintro e v9 ⟨he, hB, hm⟩
    obtain rfl : e = .returned (.bool false) := he
    have HFq := Lib.hid ((hm.heap (heap_lt HFq.out) (fun hh => by have h1 := hh.2; have h2 := HGq.out; omega)).trans HFq.out)
    have ok9 : Br.ok (dnZ true B k) := by
      have := infF_ok (B := (dnZ true B k)) (k := k) ok7 (show k < Br.np (dnZ true B k) by rw [dnZ_np]; exact hk) (dnZ_tim HTM.out h89.out)
      rw [dn_step2 h89.out] at this
      exact this
    have E9 := Ext.mutE E8 hm (fun n hn h1 => by have := h1.1; have := hsx.out; omega)
    clear E8
    have H9x := Lib.hid (show BrG _ (fun n => Nx ≤ n ∧ n < X + 1) X gx (dnZ true B k) from hB)
    clear hB hm
    have hoql : ∀ v ∈ pq, v.oneCell' = true := fun v hv => by have := hoq.out; simp at this; exact this v hv
    have hnql : pq.length = 89 := by have := hsqz.out; rw [size_PZ, List.size_toArray] at this; exact this.symm
    have hrf0 := range_of_row HFq.out 22 29
    have cf14 : ((pq.drop 22).take 29)[14]? = some (.bool false) := by rw [List.getElem?_take, if_pos (by decide), List.getElem?_drop]; exact cq36
    have cf11 : ((pq.drop 22).take 29)[11]? = some (.bool false) := by rw [List.getElem?_take, if_pos (by decide), List.getElem?_drop]; exact cq33
    have cf12 : ((pq.drop 22).take 29)[12]? = some (.bool false) := by rw [List.getElem?_take, if_pos (by decide), List.getElem?_drop]; exact cq34
    have cf0 : ((pq.drop 22).take 29)[0]? = some (.bool false) := by rw [List.getElem?_take, if_pos (by decide), List.getElem?_drop]; exact cq22
    have cf1 : ((pq.drop 22).take 29)[1]? = some (.bool false) := by rw [List.getElem?_take, if_pos (by decide), List.getElem?_drop]; exact cq23
    have cf21 : ((pq.drop 22).take 29)[21]? = some (.bool true) := by rw [List.getElem?_take, if_pos (by decide), List.getElem?_drop]; exact cq43
    have cf22 : ((pq.drop 22).take 29)[22]? = some (.bool false) := by rw [List.getElem?_take, if_pos (by decide), List.getElem?_drop]; exact cq44
    have hnf0 : ((pq.drop 22).take 29).length = 29 := by simp [hnql]
    have hof := Lib.hid (all_oneCell_toArray (show ∀ v ∈ (pq.drop 22).take 29, v.oneCell' = true from fun v hv => hoql v (List.mem_of_mem_drop (List.mem_of_mem_take hv))))
    obtain ⟨pf, hpf⟩ : ∃ p, (pq.drop 22).take 29 = p := ⟨_, rfl⟩
    rw [hpf] at hrf0 hnf0 hof cf14 cf11 cf12 cf0 cf1 cf21 cf22
    clear hpf
    have hrf := Lib.hid hrf0
    clear hrf0
    have hif := Lib.hid (show (Try.prog.info? 47).map (·.size) = some pf.length by rw [hnf0]; exact size_flags)
    have hjf := Lib.hid (show (Try.prog.info? 47).map (·.size) = some pf.toArray.size by rw [List.size_toArray, hnf0]; exact size_flags)
    have hsfz := Lib.hid (show FZ.size = pf.toArray.size by rw [List.size_toArray]; exact hnf0.symm)
    have hzf := zero_flags
    clear hnf0
    go_wp2_with (first
      | fail
      | ((with_reducible refine at_load 47 ?_); refine wpList_load_mid rfl 47 _ rfl fq 22 rfl pf _ hrf.out Try.underlying47 rfl hif.out ?_)
      | ((with_reducible refine at_store 47 ?_); refine wpList_store_new3 rfl rfl 47 _ _ _ rfl FZ pf.toArray _ rfl ?_ rfl hjf.out hsfz.out (by rw [Array.all_toList]; exact hof.out) ?_; · rfl
         intro wff hwf
         have HFq := Lib.hid (show wff.heap[fq]? = some (.cells pq.toArray 51 (0, 0)) from by rw [hwf]; exact (heap_alloc_old _ _ (heap_lt HFq.out)).trans HFq.out)
         have hY := H9x.out.alloc (.cells pf.toArray 47)
         rw [← hwf] at hY
         have hE0 : Ext v9 wff := by rw [hwf]; exact (Ext.refl _).alloc _
         have E10 := E9.trans hE0
         have hbx := heap_alloc_new v9 (.cells pf.toArray 47)
         rw [← hwf] at hbx
         have hxb := Lib.hid H9x.out.lt.1
         obtain ⟨ff, hfb⟩ : ∃ n, v9.heap.size = n := ⟨_, rfl⟩
         rw [hfb] at hbx hxb ⊢
         have HFf := Lib.hid hbx
         have HGf := hxb
         have H10x := Lib.hid hY
         clear hwf hY hbx hxb hfb hE0 E9 hzf
         have qq86 : wff.cell? ⟨fq, 86, none⟩ = some (.int .i64 0) := by rw [cell_of_row _ _ _ _ _ _ HFq.out]; simpa using cq86
         have qq18 : wff.cell? ⟨fq, 18, none⟩ = some (.int .i64 0) := by rw [cell_of_row _ _ _ _ _ _ HFq.out]; simpa using cq18
         have qq11 : wff.cell? ⟨fq, 11, none⟩ = some (.int .i64 0) := by rw [cell_of_row _ _ _ _ _ _ HFq.out]; simpa using cq11
         have qq36 : wff.cell? ⟨fq, 36, none⟩ = some (.bool false) := by rw [cell_of_row _ _ _ _ _ _ HFq.out]; simpa using cq36
         have qq33 : wff.cell? ⟨fq, 33, none⟩ = some (.bool false) := by rw [cell_of_row _ _ _ _ _ _ HFq.out]; simpa using cq33
         have qq34 : wff.cell? ⟨fq, 34, none⟩ = some (.bool false) := by rw [cell_of_row _ _ _ _ _ _ HFq.out]; simpa using cq34
         have qq22 : wff.cell? ⟨fq, 22, none⟩ = some (.bool false) := by rw [cell_of_row _ _ _ _ _ _ HFq.out]; simpa using cq22
         have qq23 : wff.cell? ⟨fq, 23, none⟩ = some (.bool false) := by rw [cell_of_row _ _ _ _ _ _ HFq.out]; simpa using cq23
         have qq43 : wff.cell? ⟨fq, 43, none⟩ = some (.bool true) := by rw [cell_of_row _ _ _ _ _ _ HFq.out]; simpa using cq43
         have qq44 : wff.cell? ⟨fq, 44, none⟩ = some (.bool false) := by rw [cell_of_row _ _ _ _ _ _ HFq.out]; simpa using cq44
         have qf14 : wff.cell? ⟨ff, 14, none⟩ = some (.bool false) := by rw [cell_of_row _ _ _ _ _ _ HFf.out]; simpa using cf14
         have qf11 : wff.cell? ⟨ff, 11, none⟩ = some (.bool false) := by rw [cell_of_row _ _ _ _ _ _ HFf.out]; simpa using cf11
         have qf12 : wff.cell? ⟨ff, 12, none⟩ = some (.bool false) := by rw [cell_of_row _ _ _ _ _ _ HFf.out]; simpa using cf12
         have qf0 : wff.cell? ⟨ff, 0, none⟩ = some (.bool false) := by rw [cell_of_row _ _ _ _ _ _ HFf.out]; simpa using cf0
         have qf1 : wff.cell? ⟨ff, 1, none⟩ = some (.bool false) := by rw [cell_of_row _ _ _ _ _ _ HFf.out]; simpa using cf1
         have qf21 : wff.cell? ⟨ff, 21, none⟩ = some (.bool true) := by rw [cell_of_row _ _ _ _ _ _ HFf.out]; simpa using cf21
         have qf22 : wff.cell? ⟨ff, 22, none⟩ = some (.bool false) := by rw [cell_of_row _ _ _ _ _ _ HFf.out]; simpa using cf22))
    all_goals
      go_ret
      exact ⟨rfl, HE0.out.trans E10⟩
  · have hz : (B.gi k 86 == 0) = false := by simpa using h86
    have HZ0 := Lib.hid hz
    clear hz
    go_wp2_with (first
      | fail
      | ((with_reducible refine at_load 33 ?_); refine wpList_load_row rfl 33 _ rfl bx rfl 33 c (0, 0) _ ((E3.block _ HS0.out).trans HL0.out) Try.underlying33 rfl hi20.out ?_))
    refine (clone_any c B _ (HB0.out.ext E3) ho HN.out).mono ?_
    rintro e u11 ⟨cx, rfl, hO, hx⟩
    have Eu := Ext.trans E3 hx
    have hcxz := Lib.hid (size_z20.trans (hO.size ho).symm)
    have hcxo := Lib.hid (hO.one ho)
    have hcxi := Lib.hid (show (Try.prog.info? 33).map (·.size) = some cx.size by rw [hO.size ho]; exact size_br)
    obtain ⟨gx, hM⟩ := hO.made hx.size hn1
    obtain ⟨Nx, hN0, hsz⟩ := nameLe hx.size
    have hNE : W0.heap.size ≤ Nx := by
      rw [← hN0]
      exact E3.size
    rw [hN0] at hM
    have HMK := Lib.hid (show ∀ wx : World, wx = u11.alloc (.cells cx 33) → BrG wx (fun n => Nx ≤ n ∧ n < u11.heap.size + 1) u11.heap.size gx B ∧ Ext W0 wx from by
      rintro _ rfl
      exact ⟨hM, Eu.alloc _⟩)
    clear hM hO hx Eu hN0 E3
    obtain ⟨X, hX0⟩ : ∃ n, u11.heap.size = n := ⟨_, rfl⟩
    have HX0 := Lib.hid hX0
    rw [hX0] at HMK hsz
    have hsx := Lib.hid (show Nx ≤ X ∧ W0.heap.size ≤ Nx from ⟨hsz, hNE⟩)
    clear hsz hNE hX0
    go_wp2_with (first
      | fail
      | ((with_reducible refine at_store 33 ?_); refine wpList_store_new3 rfl rfl 33 _ _ _ rfl _ cx _ rfl ?_ rfl hcxi.out hcxz.out hcxo.out ?_; · rfl
         intro wx hwx
         have hmk := HMK.out wx hwx
         obtain ⟨hBx, E12⟩ := hmk
         have H12x := Lib.hid hBx
         rw [HX0.out]
         clear hwx hBx HMK HX0 hcxz hcxo hcxi
         obtain ⟨hXl, hgl, hne⟩ := H12x.out.lt
         obtain ⟨cap, c17, hca, hcb⟩ := H12x.out.cell17 ho
         have hfr := H12x.out.frozen
         have p2 := (H12x.out.cellg (i := k * 89 + 2) (lt89 (N := (B).np) hk (by decide))).trans (Br.ok.gb ho (k := k) hk 2 rfl)
         have p86 := (H12x.out.cellg (i := k * 89 + 86) (lt89 (N := (B).np) hk (by decide))).trans (Br.ok.gi ho (k := k) hk 86 rfl)
         have b86 : (B.gi k 86 == 0) = false := HZ0.out))
    have HZ13 := Lib.hid (show BrG _ (fun n => Nx ≤ n ∧ n < X + 1) X gx (dnL false B k) from (H12x.out.setp (k := k) (j := 2) hk (by decide) (.bool false)))
    have okz13 : Br.ok (dnL false B k) := (dnL_ok ho hk)
    have hmz := ((Mut.refl (fun n => Nx ≤ n ∧ n < X + 1) wx).setCell (p := ⟨gx, k * 89 + 2, none⟩) (.inl H12x.out.F2) (.bool false))
    have EZ13 := Ext.mutE E12 hmz (fun n hn h1 => by have := h1.1; have := hsx.out; omega)
    clear E12
    have HMZ := Lib.hid hmz
    clear hmz
    clear c17 hfr p2 p86
    refine (inf_step _ (fun n => Nx ≤ n ∧ n < X + 1) X gx k (dnL false B k) HZ13.out okz13 (show k < Br.np (dnL false B k) by rw [dnL_np]; exact hk) (show Br.np (dnL false B k) < 1000 by have := hn8; simpa only [dnL_np] using this) (dn_tim HTM.out)).mono ?_
    rw [dn_step1 h89.out HZ0.out]
    rintro e v14 ⟨he, hB, hm⟩
    obtain rfl : e = .returned (.bool true) := he
    have ok14 : Br.ok (dnZ false B k) := by
      have := infF_ok (B := (dnL false B k)) (k := k) okz13 (show k < Br.np (dnL false B k) by rw [dnL_np]; exact hk) (dn_tim HTM.out)
      rw [dn_step1 h89.out HZ0.out] at this
      exact this
    have E14 := Ext.mutE EZ13 hm (fun n hn h1 => by have := h1.1; have := hsx.out; omega)
    clear EZ13
    have H14x := Lib.hid (show BrG _ (fun n => Nx ≤ n ∧ n < X + 1) X gx (dnZ false B k) from hB)
    clear hB hm
    have hnp0 : ((dnZ false B k)).np = B.np := dnZ_np
    obtain ⟨hXl, hgl, hne⟩ := H14x.out.lt
    obtain ⟨cap, c17, hca, hcb⟩ := H14x.out.cell17 ok14
    rw [show ((dnZ false B k)).np = B.np from dnZ_np] at c17 hca
    have hfr := H14x.out.frozen
    have hkc : k < Br.np (dnZ false B k) := (show k < Br.np (dnZ false B k) by rw [dnZ_np]; exact hk)
    have hrq0 := H14x.out.range (k := k) hkc
    have cq86 : (port (Br.ps (dnZ false B k)) k)[86]? = some (.int .i64 0) := (port_at (B := (dnZ false B k)) (k := k) (j := 86) (by decide)).trans ((Br.ok.gi ok14 (k := k) hkc 86 rfl).trans (by rw [dnZ_86 h89.out]))
    have cq18 : (port (Br.ps (dnZ false B k)) k)[18]? = some (.int .i64 0) := (port_at (B := (dnZ false B k)) (k := k) (j := 18) (by decide)).trans ((Br.ok.gi ok14 (k := k) hkc 18 rfl).trans (by rw [dnZ_18 h89.out]))
    have cq11 : (port (Br.ps (dnZ false B k)) k)[11]? = some (.int .i64 0) := (port_at (B := (dnZ false B k)) (k := k) (j := 11) (by decide)).trans ((Br.ok.gi ok14 (k := k) hkc 11 rfl).trans (by rw [dnZ_11 h89.out]))
    have cq36 : (port (Br.ps (dnZ false B k)) k)[36]? = some (.bool false) := (port_at (B := (dnZ false B k)) (k := k) (j := 36) (by decide)).trans ((Br.ok.gb ok14 (k := k) hkc 36 rfl).trans (by rw [dnZ_36 h89.out]))
    have cq33 : (port (Br.ps (dnZ false B k)) k)[33]? = some (.bool false) := (port_at (B := (dnZ false B k)) (k := k) (j := 33) (by decide)).trans ((Br.ok.gb ok14 (k := k) hkc 33 rfl).trans (by rw [dnZ_33 h89.out]))
    have cq34 : (port (Br.ps (dnZ false B k)) k)[34]? = some (.bool false) := (port_at (B := (dnZ false B k)) (k := k) (j := 34) (by decide)).trans ((Br.ok.gb ok14 (k := k) hkc 34 rfl).trans (by rw [dnZ_34 h89.out]))
    have cq22 : (port (Br.ps (dnZ false B k)) k)[22]? = some (.bool false) := (port_at (B := (dnZ false B k)) (k := k) (j := 22) (by decide)).trans ((Br.ok.gb ok14 (k := k) hkc 22 rfl).trans (by rw [dnZ_22 h89.out]))
    have cq23 : (port (Br.ps (dnZ false B k)) k)[23]? = some (.bool false) := (port_at (B := (dnZ false B k)) (k := k) (j := 23) (by decide)).trans ((Br.ok.gb ok14 (k := k) hkc 23 rfl).trans (by rw [dnZ_23 h89.out]))
    have cq43 : (port (Br.ps (dnZ false B k)) k)[43]? = some (.bool true) := (port_at (B := (dnZ false B k)) (k := k) (j := 43) (by decide)).trans ((Br.ok.gb ok14 (k := k) hkc 43 rfl).trans (by rw [dnZ_43 h89.out]))
    have cq44 : (port (Br.ps (dnZ false B k)) k)[44]? = some (.bool false) := (port_at (B := (dnZ false B k)) (k := k) (j := 44) (by decide)).trans ((Br.ok.gb ok14 (k := k) hkc 44 rfl).trans (by rw [dnZ_44 h89.out]))
    have hnq0 : (port (Br.ps (dnZ false B k)) k).length = 89 := (port_typed ok14 (i := k) hkc).1
    have hoq := Lib.hid (all_oneCell_toArray (port_typed ok14 (i := k) hkc).one)
    obtain ⟨pq, hpq⟩ : ∃ p, port (Br.ps (dnZ false B k)) k = p := ⟨_, rfl⟩
    rw [hpq] at hrq0 hnq0 hoq cq86 cq18 cq11 cq36 cq33 cq34 cq22 cq23 cq43 cq44
    clear hpq
    have hrq := Lib.hid hrq0
    clear hrq0
    have hiq := Lib.hid (show (Try.prog.info? 51).map (·.size) = some pq.length by rw [hnq0]; exact size_port)
    have hjq := Lib.hid (show (Try.prog.info? 51).map (·.size) = some pq.toArray.size by rw [List.size_toArray, hnq0]; exact size_port)
    have hsqz := Lib.hid (show PZ.size = pq.toArray.size by rw [List.size_toArray]; exact hnq0.symm)
    have hzq := zero_port
    clear hnq0
    clear hkc
    go_wp2_with (first
      | fail
      | ((with_reducible refine at_load 51 ?_); refine wpList_load_mid rfl 51 _ rfl gx (k * 89) rfl pq _ hrq.out Try.underlying51 rfl hiq.out ?_)
      | ((with_reducible refine at_store 51 ?_); refine wpList_store_new3 rfl rfl 51 _ _ _ rfl PZ pq.toArray _ rfl ?_ rfl hjq.out hsqz.out (by rw [Array.all_toList]; exact hoq.out) ?_; · rfl
         intro wfq hwf
         have hY := H14x.out.alloc (.cells pq.toArray 51)
         rw [← hwf] at hY
         have hE0 : Ext v14 wfq := by rw [hwf]; exact (Ext.refl _).alloc _
         have E15 := E14.trans hE0
         have hbx := heap_alloc_new v14 (.cells pq.toArray 51)
         rw [← hwf] at hbx
         have hxb := Lib.hid H14x.out.lt.1
         obtain ⟨fq, hfb⟩ : ∃ n, v14.heap.size = n := ⟨_, rfl⟩
         rw [hfb] at hbx hxb ⊢
         have HFq := Lib.hid hbx
         have HGq := hxb
         have H15x := Lib.hid hY
         clear hwf hY hbx hxb hfb hE0 E14 hzq))
    refine (inf_step _ (fun n => Nx ≤ n ∧ n < X + 1) X gx k (dnZ false B k) H15x.out ok14 (show k < Br.np (dnZ false B k) by rw [dnZ_np]; exact hk) (show Br.np (dnZ false B k) < 1000 by have := hn8; simpa only [dnZ_np] using this) (dnZ_tim HTM.out h89.out)).mono ?_
    rw [dn_step2 h89.out]
    rintro e v16 ⟨he, hB, hm⟩
    obtain rfl : e = .returned (.bool false) := he
    have HFq := Lib.hid ((hm.heap (heap_lt HFq.out) (fun hh => by have h1 := hh.2; have h2 := HGq.out; omega)).trans HFq.out)
    have ok16 : Br.ok (dnZ false B k) := by
      have := infF_ok (B := (dnZ false B k)) (k := k) ok14 (show k < Br.np (dnZ false B k) by rw [dnZ_np]; exact hk) (dnZ_tim HTM.out h89.out)
      rw [dn_step2 h89.out] at this
      exact this
    have E16 := Ext.mutE E15 hm (fun n hn h1 => by have := h1.1; have := hsx.out; omega)
    clear E15
    have H16x := Lib.hid (show BrG _ (fun n => Nx ≤ n ∧ n < X + 1) X gx (dnZ false B k) from hB)
    clear hB hm
    have hoql : ∀ v ∈ pq, v.oneCell' = true := fun v hv => by have := hoq.out; simp at this; exact this v hv
    have hnql : pq.length = 89 := by have := hsqz.out; rw [size_PZ, List.size_toArray] at this; exact this.symm
    have hrf0 := range_of_row HFq.out 22 29
    have cf14 : ((pq.drop 22).take 29)[14]? = some (.bool false) := by rw [List.getElem?_take, if_pos (by decide), List.getElem?_drop]; exact cq36
    have cf11 : ((pq.drop 22).take 29)[11]? = some (.bool false) := by rw [List.getElem?_take, if_pos (by decide), List.getElem?_drop]; exact cq33
    have cf12 : ((pq.drop 22).take 29)[12]? = some (.bool false) := by rw [List.getElem?_take, if_pos (by decide), List.getElem?_drop]; exact cq34
    have cf0 : ((pq.drop 22).take 29)[0]? = some (.bool false) := by rw [List.getElem?_take, if_pos (by decide), List.getElem?_drop]; exact cq22
    have cf1 : ((pq.drop 22).take 29)[1]? = some (.bool false) := by rw [List.getElem?_take, if_pos (by decide), List.getElem?_drop]; exact cq23
    have cf21 : ((pq.drop 22).take 29)[21]? = some (.bool true) := by rw [List.getElem?_take, if_pos (by decide), List.getElem?_drop]; exact cq43
    have cf22 : ((pq.drop 22).take 29)[22]? = some (.bool false) := by rw [List.getElem?_take, if_pos (by decide), List.getElem?_drop]; exact cq44
    have hnf0 : ((pq.drop 22).take 29).length = 29 := by simp [hnql]
    have hof := Lib.hid (all_oneCell_toArray (show ∀ v ∈ (pq.drop 22).take 29, v.oneCell' = true from fun v hv => hoql v (List.mem_of_mem_drop (List.mem_of_mem_take hv))))
    obtain ⟨pf, hpf⟩ : ∃ p, (pq.drop 22).take 29 = p := ⟨_, rfl⟩
    rw [hpf] at hrf0 hnf0 hof cf14 cf11 cf12 cf0 cf1 cf21 cf22
    clear hpf
    have hrf := Lib.hid hrf0
    clear hrf0
    have hif := Lib.hid (show (Try.prog.info? 47).map (·.size) = some pf.length by rw [hnf0]; exact size_flags)
    have hjf := Lib.hid (show (Try.prog.info? 47).map (·.size) = some pf.toArray.size by rw [List.size_toArray, hnf0]; exact size_flags)
    have hsfz := Lib.hid (show FZ.size = pf.toArray.size by rw [List.size_toArray]; exact hnf0.symm)
    have hzf := zero_flags
    clear hnf0
    go_wp2_with (first
      | fail
      | ((with_reducible refine at_load 47 ?_); refine wpList_load_mid rfl 47 _ rfl fq 22 rfl pf _ hrf.out Try.underlying47 rfl hif.out ?_)
      | ((with_reducible refine at_store 47 ?_); refine wpList_store_new3 rfl rfl 47 _ _ _ rfl FZ pf.toArray _ rfl ?_ rfl hjf.out hsfz.out (by rw [Array.all_toList]; exact hof.out) ?_; · rfl
         intro wff hwf
         have HFq := Lib.hid (show wff.heap[fq]? = some (.cells pq.toArray 51 (0, 0)) from by rw [hwf]; exact (heap_alloc_old _ _ (heap_lt HFq.out)).trans HFq.out)
         have hY := H16x.out.alloc (.cells pf.toArray 47)
         rw [← hwf] at hY
         have hE0 : Ext v16 wff := by rw [hwf]; exact (Ext.refl _).alloc _
         have E17 := E16.trans hE0
         have hbx := heap_alloc_new v16 (.cells pf.toArray 47)
         rw [← hwf] at hbx
         have hxb := Lib.hid H16x.out.lt.1
         obtain ⟨ff, hfb⟩ : ∃ n, v16.heap.size = n := ⟨_, rfl⟩
         rw [hfb] at hbx hxb ⊢
         have HFf := Lib.hid hbx
         have HGf := hxb
         have H17x := Lib.hid hY
         clear hwf hY hbx hxb hfb hE0 E16 hzf
         have qq86 : wff.cell? ⟨fq, 86, none⟩ = some (.int .i64 0) := by rw [cell_of_row _ _ _ _ _ _ HFq.out]; simpa using cq86
         have qq18 : wff.cell? ⟨fq, 18, none⟩ = some (.int .i64 0) := by rw [cell_of_row _ _ _ _ _ _ HFq.out]; simpa using cq18
         have qq11 : wff.cell? ⟨fq, 11, none⟩ = some (.int .i64 0) := by rw [cell_of_row _ _ _ _ _ _ HFq.out]; simpa using cq11
         have qq36 : wff.cell? ⟨fq, 36, none⟩ = some (.bool false) := by rw [cell_of_row _ _ _ _ _ _ HFq.out]; simpa using cq36
         have qq33 : wff.cell? ⟨fq, 33, none⟩ = some (.bool false) := by rw [cell_of_row _ _ _ _ _ _ HFq.out]; simpa using cq33
         have qq34 : wff.cell? ⟨fq, 34, none⟩ = some (.bool false) := by rw [cell_of_row _ _ _ _ _ _ HFq.out]; simpa using cq34
         have qq22 : wff.cell? ⟨fq, 22, none⟩ = some (.bool false) := by rw [cell_of_row _ _ _ _ _ _ HFq.out]; simpa using cq22
         have qq23 : wff.cell? ⟨fq, 23, none⟩ = some (.bool false) := by rw [cell_of_row _ _ _ _ _ _ HFq.out]; simpa using cq23
         have qq43 : wff.cell? ⟨fq, 43, none⟩ = some (.bool true) := by rw [cell_of_row _ _ _ _ _ _ HFq.out]; simpa using cq43
         have qq44 : wff.cell? ⟨fq, 44, none⟩ = some (.bool false) := by rw [cell_of_row _ _ _ _ _ _ HFq.out]; simpa using cq44
         have qf14 : wff.cell? ⟨ff, 14, none⟩ = some (.bool false) := by rw [cell_of_row _ _ _ _ _ _ HFf.out]; simpa using cf14
         have qf11 : wff.cell? ⟨ff, 11, none⟩ = some (.bool false) := by rw [cell_of_row _ _ _ _ _ _ HFf.out]; simpa using cf11
         have qf12 : wff.cell? ⟨ff, 12, none⟩ = some (.bool false) := by rw [cell_of_row _ _ _ _ _ _ HFf.out]; simpa using cf12
         have qf0 : wff.cell? ⟨ff, 0, none⟩ = some (.bool false) := by rw [cell_of_row _ _ _ _ _ _ HFf.out]; simpa using cf0
         have qf1 : wff.cell? ⟨ff, 1, none⟩ = some (.bool false) := by rw [cell_of_row _ _ _ _ _ _ HFf.out]; simpa using cf1
         have qf21 : wff.cell? ⟨ff, 21, none⟩ = some (.bool true) := by rw [cell_of_row _ _ _ _ _ _ HFf.out]; simpa using cf21
         have qf22 : wff.cell? ⟨ff, 22, none⟩ = some (.bool false) := by rw [cell_of_row _ _ _ _ _ _ HFf.out]; simpa using cf22))
    all_goals
      go_ret
      exact ⟨rfl, HE0.out.trans E17⟩

end Go.Proofs.Ythfoacgdkoijeaa
