/- The walk of InfoAges. No statement is proved here. -/
import Derived.Test.YthfoacgdkoijeaaInfI
namespace Go.Proofs.Ythfoacgdkoijeaa
open Go.RowKit Go.BigFrame Go.WideShapes Go.ChangeShapes Go.Deep
set_option linter.unusedVariables false
set_option linter.unusedSimpArgs false

set_option maxRecDepth 100000 in
set_option maxHeartbeats 4000000 in
theorem law_InfoAges {w : World} (c : Array Value) (B : Br) (hb : BrC w c B) (ho : B.ok) (i : Int) (hi : 0 ≤ i ∧ i < 256) :
    Calls Try.prog 6 #[.agg c, .int .u8 i] w fun e w' => e = .returned (.bool true) ∧ Ext w w' := by
  have hz0 : c.size = 20 := by
    obtain ⟨_, _, _, h, _⟩ := hb.facts ho.hd.1
    exact h
  have hi20 := Lib.hid (show (Try.prog.info? 33).map (·.size) = some c.size by rw [hz0]; exact size_br)
  have HCZ := Lib.hid hz0
  have hE00 : Ext w (w.alloc (.cells c 33)) := ((Ext.refl w).alloc _)
  have hL00 : (w.alloc (.cells c 33)).heap[w.heap.size]? = some (.cells c 33 (0, 0)) := heap_alloc_new _ _
  have hS00 : w.heap.size < (w.alloc (.cells c 33)).heap.size := heap_lt hL00
  have hB00 := hb.ext hE00
  clear hz0
  have HP := Lib.hid hb
  clear hb
  have HhE00 := Lib.hid hE00
  have HhL00 := Lib.hid hL00
  have HhS00 := Lib.hid hS00
  have HhB00 := Lib.hid hB00
  clear hE00 hL00 hS00 hB00
  go_enter Try.func6, Try.ntmps6
  go_wp2_with fail
  have hE00 := HhE00.out
  clear HhE00
  have hL00 := HhL00.out
  clear HhL00
  have hS00 := HhS00.out
  clear HhS00
  have hB00 := HhB00.out
  clear HhB00
  generalize (w.alloc (.cells c 33)) = W0 at *
  obtain ⟨bx, hq⟩ : ∃ n, w.heap.size = n := ⟨_, rfl⟩
  rw [hq] at hL00 hS00 ⊢
  have HE0 := Lib.hid hE00
  have HL0 := Lib.hid hL00
  have HB0 := Lib.hid hB00
  have HS0 := Lib.hid hS00
  have HWB := Lib.hid hq
  clear hE00 hL00 hB00 hS00 hq
  refine (infw_awake _).mono ?_
  rintro e v1 ⟨rfl, E1⟩
  go_wp2_with (first | fail | ((with_reducible refine at_load 33 ?_); refine wpList_load_row rfl 33 _ rfl bx rfl 33 c (0, 0) _ ((E1.block _ HS0.out).trans HL0.out) Try.underlying33 rfl hi20.out ?_))
  refine (few_any c B _ (HB0.out.ext E1) ho).mono ?_
  rintro e v2 ⟨f, rfl, hx2, hf⟩
  have E2 := Ext.trans E1 hx2
  clear E1 hx2
  cases f
  · go_wp2_with fail
    go_ret
    exact ⟨rfl, HE0.out.trans E2⟩
  have hfew := Lib.hid (hf.1 rfl)
  clear hf
  have hn1 := hfew.out.2.1
  have HN := Lib.hid (show B.np ≤ 1000 ∧ B.no ≤ 1000 ∧ B.nf ≤ 1000 by have := hfew.out; omega)
  have hn8 : B.np < 1000 := by have := hfew.out; omega
  go_wp2_with (first
    | fail
    | ((with_reducible refine at_load 33 ?_); refine wpList_load_row rfl 33 _ rfl bx rfl 33 c (0, 0) _ ((E2.block _ HS0.out).trans HL0.out) Try.underlying33 rfl hi20.out ?_))
  refine (at_any c B i _ (HB0.out.ext E2) ho hi hn1).mono ?_
  rintro e v3 ⟨rfl, hx⟩
  have E3 := Ext.trans E2 hx
  clear E2 hx
  obtain ⟨k, hk0⟩ : ∃ k, i.toNat % B.np = k := ⟨_, rfl⟩
  have hk : k < B.np := by rw [← hk0]; exact Nat.mod_lt _ hn1
  have hk8 : k < 1000 := by omega
  rw [hk0]
  clear hk0
  have h89 := Lib.hid (len89 ho hk)
  obtain ⟨s1, s2, s3, hz0, hhd, c17b, c18b, c19b, r1, r2, r3⟩ := HP.out.facts ho.hd.1
  obtain ⟨a1, k1, rfl, m1, f1⟩ := r1.form
  obtain ⟨bb, off, rfl, hbl, hlc, hcm, hrg⟩ := f1 (by omega)
  have HB17 := Lib.hid (show W0.cell? ⟨bx, 17, none⟩ = some (.slice (some ⟨bb, off, none⟩) B.np k1) by rw [cell_of_row _ _ _ _ _ _ HL0.out]; exact c17b)
  have HRG := Lib.hid hrg
  have HBL := Lib.hid hbl
  clear hz0 hhd c18b c19b r2 r3 r1 hrg c17b f1 hbl
  have HTM := Lib.hid (tim_of hfew.out.1 hk)
  go_wp2_with (first
    | fail
    | ((with_reducible refine at_load 33 ?_); refine wpList_load_row rfl 33 _ rfl bx rfl 33 c (0, 0) _ ((E3.block _ HS0.out).trans HL0.out) Try.underlying33 rfl hi20.out ?_))
  refine (clone_any c B _ (HB0.out.ext E3) ho HN.out).mono ?_
  rintro e u4 ⟨cx, rfl, hO, hx⟩
  have Eu := Ext.trans E3 hx
  have hcxz := Lib.hid (size_z20.trans (hO.size ho).symm)
  have hcxo := Lib.hid (hO.one ho)
  have hcxi := Lib.hid (show (Try.prog.info? 33).map (·.size) = some cx.size by rw [hO.size ho]; exact size_br)
  obtain ⟨gx, hM⟩ := hO.made hx.size hn1
  obtain ⟨Nx, hN0, hsz⟩ := nameLe hx.size
  have hNE : W0.heap.size ≤ Nx := by
    rw [← hN0]
    exact E3.size
  rw [hN0] at hM
  have HMK := Lib.hid (show ∀ wx : World, wx = u4.alloc (.cells cx 33) → BrG wx (fun n => Nx ≤ n ∧ n < u4.heap.size + 1) u4.heap.size gx B ∧ Ext W0 wx from by
    rintro _ rfl
    exact ⟨hM, Eu.alloc _⟩)
  clear hM hO hx Eu hN0 E3
  obtain ⟨X, hX0⟩ : ∃ n, u4.heap.size = n := ⟨_, rfl⟩
  have HX0 := Lib.hid hX0
  rw [hX0] at HMK hsz
  have hsx := Lib.hid (show Nx ≤ X ∧ W0.heap.size ≤ Nx from ⟨hsz, hNE⟩)
  clear hsz hNE hX0
  go_wp2_with (first
    | fail
    | ((with_reducible refine at_store 33 ?_); refine wpList_store_new3 rfl rfl 33 _ _ _ rfl _ cx _ rfl ?_ rfl hcxi.out hcxz.out hcxo.out ?_; · rfl
       intro wx hwx
       have hmk := HMK.out wx hwx
       obtain ⟨hBx, E5⟩ := hmk
       have H5x := Lib.hid hBx
       rw [HX0.out]
       clear hwx hBx HMK HX0 hcxz hcxo hcxi
       obtain ⟨hXl, hgl, hne⟩ := H5x.out.lt
       obtain ⟨cap, c17, hca, hcb⟩ := H5x.out.cell17 ho
       have hfr := H5x.out.frozen
       have p2 := (H5x.out.cellg (i := k * 89 + 2) (lt89 (N := (B).np) hk (by decide))).trans (Br.ok.gb ho (k := k) hk 2 rfl)
       have p18 := (H5x.out.cellg (i := k * 89 + 18) (lt89 (N := (B).np) hk (by decide))).trans (Br.ok.gi ho (k := k) hk 18 rfl)
       have p86 := (H5x.out.cellg (i := k * 89 + 86) (lt89 (N := (B).np) hk (by decide))).trans (Br.ok.gi ho (k := k) hk 86 rfl)
       have p11 := (H5x.out.cellg (i := k * 89 + 11) (lt89 (N := (B).np) hk (by decide))).trans (Br.ok.gi ho (k := k) hk 11 rfl)
       have p36 := (H5x.out.cellg (i := k * 89 + 36) (lt89 (N := (B).np) hk (by decide))).trans (Br.ok.gb ho (k := k) hk 36 rfl)
       have p50 := (H5x.out.cellg (i := k * 89 + 50) (lt89 (N := (B).np) hk (by decide))).trans (Br.ok.gb ho (k := k) hk 50 rfl)))
  have HZ6 := Lib.hid (show BrG _ (fun n => Nx ≤ n ∧ n < X + 1) X gx (ag0 B k) from ((((((H5x.out.setp (k := k) (j := 2) hk (by decide) (.bool true)).setp (k := k) (j := 18) hk (by decide) (.int .i64 2)).setp (k := k) (j := 86) hk (by decide) (.int .i64 3)).setp (k := k) (j := 11) hk (by decide) (.int .i64 0)).setp (k := k) (j := 36) hk (by decide) (.bool false)).setp (k := k) (j := 50) hk (by decide) (.bool false)))
  have okz6 : Br.ok (ag0 B k) := (ag0_ok ho hk)
  have hmz := (((((((Mut.refl (fun n => Nx ≤ n ∧ n < X + 1) wx).setCell (p := ⟨gx, k * 89 + 2, none⟩) (.inl H5x.out.F2) (.bool true)).setCell (p := ⟨gx, k * 89 + 18, none⟩) (.inl H5x.out.F2) (.int .i64 2)).setCell (p := ⟨gx, k * 89 + 86, none⟩) (.inl H5x.out.F2) (.int .i64 3)).setCell (p := ⟨gx, k * 89 + 11, none⟩) (.inl H5x.out.F2) (.int .i64 0)).setCell (p := ⟨gx, k * 89 + 36, none⟩) (.inl H5x.out.F2) (.bool false)).setCell (p := ⟨gx, k * 89 + 50, none⟩) (.inl H5x.out.F2) (.bool false))
  have EZ6 := Ext.mutE E5 hmz (fun n hn h1 => by have := h1.1; have := hsx.out; omega)
  clear E5
  have HMZ := Lib.hid hmz
  clear hmz
  clear c17 hfr p2 p18 p86 p11 p36 p50
  refine (inf_step _ (fun n => Nx ≤ n ∧ n < X + 1) X gx k (ag0 B k) HZ6.out okz6 (show k < Br.np (ag0 B k) by rw [ag0_np]; exact hk) (show Br.np (ag0 B k) < 1000 by have := hn8; simpa only [ag0_np] using this) (ag0_tim h89.out HTM.out)).mono ?_
  rw [ag1_step h89.out]
  rintro e v7 ⟨he, hB, hm⟩
  obtain rfl : e = .returned (.bool true) := he
  have ok7 : Br.ok (ag1 B k) := by
    have := infF_ok (B := (ag0 B k)) (k := k) okz6 (show k < Br.np (ag0 B k) by rw [ag0_np]; exact hk) (ag0_tim h89.out HTM.out)
    rw [ag1_step h89.out] at this
    exact this
  have E7 := Ext.mutE EZ6 hm (fun n hn h1 => by have := h1.1; have := hsx.out; omega)
  clear EZ6
  have H7x := Lib.hid (show BrG _ (fun n => Nx ≤ n ∧ n < X + 1) X gx (ag1 B k) from hB)
  clear hB hm
  obtain ⟨hXl, hgl, hne⟩ := H7x.out.lt
  obtain ⟨cap, c17, hca, hcb⟩ := H7x.out.cell17 ok7
  rw [show ((ag1 B k)).np = B.np from ag1_np] at c17 hca
  have hfr := H7x.out.frozen
  have hkc : k < Br.np (ag1 B k) := (show k < Br.np (ag1 B k) by rw [ag1_np]; exact hk)
  have hrq0 := H7x.out.range (k := k) hkc
  have cq86 : (port (Br.ps (ag1 B k)) k)[86]? = some (.int .i64 1) := (port_at (B := (ag1 B k)) (k := k) (j := 86) (by decide)).trans ((Br.ok.gi ok7 (k := k) hkc 86 rfl).trans (by rw [ag1_86 h89.out]))
  have cq43 : (port (Br.ps (ag1 B k)) k)[43]? = some (.bool true) := (port_at (B := (ag1 B k)) (k := k) (j := 43) (by decide)).trans ((Br.ok.gb ok7 (k := k) hkc 43 rfl).trans (by rw [ag1_43 h89.out]))
  have cq44 : (port (Br.ps (ag1 B k)) k)[44]? = some (.bool false) := (port_at (B := (ag1 B k)) (k := k) (j := 44) (by decide)).trans ((Br.ok.gb ok7 (k := k) hkc 44 rfl).trans (by rw [ag1_44 h89.out]))
  have cq18 : (port (Br.ps (ag1 B k)) k)[18]? = some (.int .i64 1) := (port_at (B := (ag1 B k)) (k := k) (j := 18) (by decide)).trans ((Br.ok.gi ok7 (k := k) hkc 18 rfl).trans (by rw [ag1_18 h89.out]))
  have cq68 : (port (Br.ps (ag1 B k)) k)[68]? = some (.int .u64 (B.gi k 68)) := (port_at (B := (ag1 B k)) (k := k) (j := 68) (by decide)).trans ((Br.ok.gi ok7 (k := k) hkc 68 rfl).trans (by rw [ag1_68 h89.out]))
  have cq69 : (port (Br.ps (ag1 B k)) k)[69]? = some (.int .u32 (B.gi k 69)) := (port_at (B := (ag1 B k)) (k := k) (j := 69) (by decide)).trans ((Br.ok.gi ok7 (k := k) hkc 69 rfl).trans (by rw [ag1_69 h89.out]))
  have cq70 : (port (Br.ps (ag1 B k)) k)[70]? = some (.int .u64 (B.gi k 70)) := (port_at (B := (ag1 B k)) (k := k) (j := 70) (by decide)).trans ((Br.ok.gi ok7 (k := k) hkc 70 rfl).trans (by rw [ag1_70 h89.out]))
  have cq71 : (port (Br.ps (ag1 B k)) k)[71]? = some (.int .u16 (B.gi k 71)) := (port_at (B := (ag1 B k)) (k := k) (j := 71) (by decide)).trans ((Br.ok.gi ok7 (k := k) hkc 71 rfl).trans (by rw [ag1_71 h89.out]))
  have cq72 : (port (Br.ps (ag1 B k)) k)[72]? = some (.int .u16 (B.gi k 72)) := (port_at (B := (ag1 B k)) (k := k) (j := 72) (by decide)).trans ((Br.ok.gi ok7 (k := k) hkc 72 rfl).trans (by rw [ag1_72 h89.out]))
  have hnq0 : (port (Br.ps (ag1 B k)) k).length = 89 := (port_typed ok7 (i := k) hkc).1
  have hoq := Lib.hid (all_oneCell_toArray (port_typed ok7 (i := k) hkc).one)
  obtain ⟨pq, hpq⟩ : ∃ p, port (Br.ps (ag1 B k)) k = p := ⟨_, rfl⟩
  rw [hpq] at hrq0 hnq0 hoq cq86 cq43 cq44 cq18 cq68 cq69 cq70 cq71 cq72
  clear hpq
  have hrq := Lib.hid hrq0
  clear hrq0
  have hiq := Lib.hid (show (Try.prog.info? 51).map (·.size) = some pq.length by rw [hnq0]; exact size_port)
  have hjq := Lib.hid (show (Try.prog.info? 51).map (·.size) = some pq.toArray.size by rw [List.size_toArray, hnq0]; exact size_port)
  have hsqz := Lib.hid (show PZ.size = pq.toArray.size by rw [List.size_toArray]; exact hnq0.symm)
  have hzq := zero_port
  clear hnq0
  clear hkc
  go_wp2_with (first
    | fail
    | ((with_reducible refine at_load 51 ?_); refine wpList_load_mid rfl 51 _ rfl gx (k * 89) rfl pq _ hrq.out Try.underlying51 rfl hiq.out ?_)
    | ((with_reducible refine at_store 51 ?_); refine wpList_store_new3 rfl rfl 51 _ _ _ rfl PZ pq.toArray _ rfl ?_ rfl hjq.out hsqz.out (by rw [Array.all_toList]; exact hoq.out) ?_; · rfl
       intro wfq hwf
       have hY := H7x.out.alloc (.cells pq.toArray 51)
       rw [← hwf] at hY
       have hE0 : Ext v7 wfq := by rw [hwf]; exact (Ext.refl _).alloc _
       have E8 := E7.trans hE0
       have hbx := heap_alloc_new v7 (.cells pq.toArray 51)
       rw [← hwf] at hbx
       have hxb := Lib.hid H7x.out.lt.1
       obtain ⟨fq, hfb⟩ : ∃ n, v7.heap.size = n := ⟨_, rfl⟩
       rw [hfb] at hbx hxb ⊢
       have HFq := Lib.hid hbx
       have HGq := hxb
       have H8x := Lib.hid hY
       clear hwf hY hbx hxb hfb hE0 E7 hzq))
  have hbx := Nat.lt_of_lt_of_le HS0.out E8.size
  have b17 := (E8.cell (p := ⟨bx, 17, none⟩) HS0.out).trans HB17.out
  have hbb : bb < wfq.heap.size := Nat.lt_of_lt_of_le HBL.out (HE0.out.trans E8).size
  have hL := rangeAt_ext (port_range HRG.out k) (HE0.out.trans E8) HBL.out
  have o68 : wfq.cell? ⟨bb, off + k * 89 + 68, none⟩ = some _ := hL 68 _ ((port_at (B := B) (k := k) (j := 68) (by decide)).trans (ho.gi hk 68 rfl))
  have o69 : wfq.cell? ⟨bb, off + k * 89 + 69, none⟩ = some _ := hL 69 _ ((port_at (B := B) (k := k) (j := 69) (by decide)).trans (ho.gi hk 69 rfl))
  have o70 : wfq.cell? ⟨bb, off + k * 89 + 70, none⟩ = some _ := hL 70 _ ((port_at (B := B) (k := k) (j := 70) (by decide)).trans (ho.gi hk 70 rfl))
  have o71 : wfq.cell? ⟨bb, off + k * 89 + 71, none⟩ = some _ := hL 71 _ ((port_at (B := B) (k := k) (j := 71) (by decide)).trans (ho.gi hk 71 rfl))
  have o72 : wfq.cell? ⟨bb, off + k * 89 + 72, none⟩ = some _ := hL 72 _ ((port_at (B := B) (k := k) (j := 72) (by decide)).trans (ho.gi hk 72 rfl))
  have ROV := Lib.hid (show wfq.rangeAt bb (off + k * 89 + 68) [Value.int .u64 (B.gi k 68), Value.int .u32 (B.gi k 69), Value.int .u64 (B.gi k 70), Value.int .u16 (B.gi k 71), Value.int .u16 (B.gi k 72)] from range_cons o68 (range_cons o69 (range_cons o70 (range_cons o71 (range_cons o72 range_nil)))))
  clear hL o68 o69 o70 o71 o72
  have qq86 : wfq.cell? ⟨fq, 86, none⟩ = some (.int .i64 1) := by rw [cell_of_row _ _ _ _ _ _ HFq.out]; simpa using cq86
  have qq43 : wfq.cell? ⟨fq, 43, none⟩ = some (.bool true) := by rw [cell_of_row _ _ _ _ _ _ HFq.out]; simpa using cq43
  have qq44 : wfq.cell? ⟨fq, 44, none⟩ = some (.bool false) := by rw [cell_of_row _ _ _ _ _ _ HFq.out]; simpa using cq44
  have qq18 : wfq.cell? ⟨fq, 18, none⟩ = some (.int .i64 1) := by rw [cell_of_row _ _ _ _ _ _ HFq.out]; simpa using cq18
  have qq68 : wfq.cell? ⟨fq, 68, none⟩ = some (.int .u64 (B.gi k 68)) := by rw [cell_of_row _ _ _ _ _ _ HFq.out]; simpa using cq68
  have qq69 : wfq.cell? ⟨fq, 69, none⟩ = some (.int .u32 (B.gi k 69)) := by rw [cell_of_row _ _ _ _ _ _ HFq.out]; simpa using cq69
  have qq70 : wfq.cell? ⟨fq, 70, none⟩ = some (.int .u64 (B.gi k 70)) := by rw [cell_of_row _ _ _ _ _ _ HFq.out]; simpa using cq70
  have qq71 : wfq.cell? ⟨fq, 71, none⟩ = some (.int .u16 (B.gi k 71)) := by rw [cell_of_row _ _ _ _ _ _ HFq.out]; simpa using cq71
  have qq72 : wfq.cell? ⟨fq, 72, none⟩ = some (.int .u16 (B.gi k 72)) := by rw [cell_of_row _ _ _ _ _ _ HFq.out]; simpa using cq72
  have hltq : fq < wfq.heap.size := heap_lt HFq.out
  have RRq68 := Lib.hid (show wfq.rangeAt fq 68 [Value.int .u64 (B.gi k 68), Value.int .u32 (B.gi k 69), Value.int .u64 (B.gi k 70), Value.int .u16 (B.gi k 71), Value.int .u16 (B.gi k 72)] from (range_cons qq68 (range_cons qq69 (range_cons qq70 (range_cons qq71 (range_cons qq72 range_nil))))))
  refine beginL (S := fun W' => Ext wfq W') (by kernel_rfl) ?_
  intro wd hqx
  have hq0 : Ext wfq wd := hqx
  refine takeL (i := 0) (v := (.bool true)) rfl (by kernel_rfl) (by kernel_rfl) (by kernel_rfl) (fun _ _ _ h => h) (Or.inl ⟨rfl, fun _ _ => rfl⟩) hq0 ?_
  simp only [Act.put, List.setIfInBounds_toArray, List.set_cons_zero, List.set_cons_succ]
  refine takeL (i := 1) (v := (.bool false)) rfl (by kernel_rfl) (by kernel_rfl) (by kernel_rfl) (fun _ _ _ h => h) (Or.inl ⟨rfl, fun _ _ => rfl⟩) hq0 ?_
  simp only [Act.put, List.setIfInBounds_toArray, List.set_cons_zero, List.set_cons_succ]
  refine takeL (i := 2) (v := (.bool false)) rfl (by kernel_rfl) (by kernel_rfl) (by kernel_rfl) (fun _ _ _ h => h) (Or.inl ⟨rfl, fun _ _ => rfl⟩) hq0 ?_
  simp only [Act.put, List.setIfInBounds_toArray, List.set_cons_zero, List.set_cons_succ]
  refine takeL (i := 3) (v := (.pointer (some ⟨fq, 86, none⟩))) rfl (by kernel_rfl) (by kernel_rfl) (by kernel_rfl) (fun _ _ _ h => h) (Or.inl ⟨rfl, fun _ _ => rfl⟩) hq0 ?_
  simp only [Act.put, List.setIfInBounds_toArray, List.set_cons_zero, List.set_cons_succ]
  refine takeL (i := 4) (v := _) rfl (by kernel_rfl) (by kernel_rfl) (by kernel_rfl) (fun _ _ _ h => h) (yieldsIf_cell rfl 3 _ rfl ⟨fq, 86, none⟩ rfl (.int .i64 1) _ (fun W' hW' => (hW'.cell (p := ⟨fq, 86, none⟩) hltq).trans qq86) Try.underlying3 rfl) hq0 ?_
  simp only [Act.put, List.setIfInBounds_toArray, List.set_cons_zero, List.set_cons_succ]
  refine takeL (i := 5) (v := (.bool false)) rfl (by kernel_rfl) (by kernel_rfl) (by kernel_rfl) (fun _ _ _ h => h) (Or.inl ⟨rfl, fun W' _ => by go_simp⟩) hq0 ?_
  simp only [Act.put, List.setIfInBounds_toArray, List.set_cons_zero, List.set_cons_succ]
  refine takeL (i := 6) (v := (.bool false)) rfl (by kernel_rfl) (by kernel_rfl) (by kernel_rfl) (fun _ _ _ h => h) (Or.inl ⟨rfl, fun _ _ => rfl⟩) hq0 ?_
  simp only [Act.put, List.setIfInBounds_toArray, List.set_cons_zero, List.set_cons_succ]
  refine takeL (i := 7) (v := (.bool false)) rfl (by kernel_rfl) (by kernel_rfl) (by kernel_rfl) (fun _ _ _ h => h) (Or.inl ⟨rfl, fun _ _ => rfl⟩) hq0 ?_
  simp only [Act.put, List.setIfInBounds_toArray, List.set_cons_zero, List.set_cons_succ]
  refine takeL (i := 8) (v := (.pointer (some ⟨fq, 22, none⟩))) rfl (by kernel_rfl) (by kernel_rfl) (by kernel_rfl) (fun _ _ _ h => h) (Or.inl ⟨rfl, fun _ _ => rfl⟩) hq0 ?_
  simp only [Act.put, List.setIfInBounds_toArray, List.set_cons_zero, List.set_cons_succ]
  refine takeL (i := 9) (v := (.pointer (some ⟨fq, 43, none⟩))) rfl (by kernel_rfl) (by kernel_rfl) (by kernel_rfl) (fun _ _ _ h => h) (Or.inl ⟨rfl, fun _ _ => rfl⟩) hq0 ?_
  simp only [Act.put, List.setIfInBounds_toArray, List.set_cons_zero, List.set_cons_succ]
  refine takeL (i := 10) (v := _) rfl (by kernel_rfl) (by kernel_rfl) (by kernel_rfl) (fun _ _ _ h => h) (yieldsIf_cell rfl 4 _ rfl ⟨fq, 43, none⟩ rfl (.bool true) _ (fun W' hW' => (hW'.cell (p := ⟨fq, 43, none⟩) hltq).trans qq43) Try.underlying4 rfl) hq0 ?_
  simp only [Act.put, List.setIfInBounds_toArray, List.set_cons_zero, List.set_cons_succ]
  refine takeL (i := 11) (v := (.bool false)) rfl (by kernel_rfl) (by kernel_rfl) (by kernel_rfl) (fun _ _ _ h => h) (Or.inl ⟨rfl, fun _ _ => rfl⟩) hq0 ?_
  simp only [Act.put, List.setIfInBounds_toArray, List.set_cons_zero, List.set_cons_succ]
  refine takeL (i := 12) (v := (.bool false)) rfl (by kernel_rfl) (by kernel_rfl) (by kernel_rfl) (fun _ _ _ h => h) (Or.inl ⟨rfl, fun _ _ => rfl⟩) hq0 ?_
  simp only [Act.put, List.setIfInBounds_toArray, List.set_cons_zero, List.set_cons_succ]
  refine takeL (i := 13) (v := (.bool false)) rfl (by kernel_rfl) (by kernel_rfl) (by kernel_rfl) (fun _ _ _ h => h) (Or.inl ⟨rfl, fun _ _ => rfl⟩) hq0 ?_
  simp only [Act.put, List.setIfInBounds_toArray, List.set_cons_zero, List.set_cons_succ]
  refine takeL (i := 14) (v := (.pointer (some ⟨fq, 22, none⟩))) rfl (by kernel_rfl) (by kernel_rfl) (by kernel_rfl) (fun _ _ _ h => h) (Or.inl ⟨rfl, fun _ _ => rfl⟩) hq0 ?_
  simp only [Act.put, List.setIfInBounds_toArray, List.set_cons_zero, List.set_cons_succ]
  refine takeL (i := 15) (v := (.pointer (some ⟨fq, 44, none⟩))) rfl (by kernel_rfl) (by kernel_rfl) (by kernel_rfl) (fun _ _ _ h => h) (Or.inl ⟨rfl, fun _ _ => rfl⟩) hq0 ?_
  simp only [Act.put, List.setIfInBounds_toArray, List.set_cons_zero, List.set_cons_succ]
  refine takeL (i := 16) (v := _) rfl (by kernel_rfl) (by kernel_rfl) (by kernel_rfl) (fun _ _ _ h => h) (yieldsIf_cell rfl 4 _ rfl ⟨fq, 44, none⟩ rfl (.bool false) _ (fun W' hW' => (hW'.cell (p := ⟨fq, 44, none⟩) hltq).trans qq44) Try.underlying4 rfl) hq0 ?_
  simp only [Act.put, List.setIfInBounds_toArray, List.set_cons_zero, List.set_cons_succ]
  refine takeL (i := 17) (v := (.bool false)) rfl (by kernel_rfl) (by kernel_rfl) (by kernel_rfl) (fun _ _ _ h => h) (Or.inl ⟨rfl, fun _ _ => rfl⟩) hq0 ?_
  simp only [Act.put, List.setIfInBounds_toArray, List.set_cons_zero, List.set_cons_succ]
  refine takeL (i := 18) (v := (.bool false)) rfl (by kernel_rfl) (by kernel_rfl) (by kernel_rfl) (fun _ _ _ h => h) (Or.inl ⟨rfl, fun _ _ => rfl⟩) hq0 ?_
  simp only [Act.put, List.setIfInBounds_toArray, List.set_cons_zero, List.set_cons_succ]
  refine takeL (i := 19) (v := (.pointer (some ⟨fq, 15, none⟩))) rfl (by kernel_rfl) (by kernel_rfl) (by kernel_rfl) (fun _ _ _ h => h) (Or.inl ⟨rfl, fun _ _ => rfl⟩) hq0 ?_
  simp only [Act.put, List.setIfInBounds_toArray, List.set_cons_zero, List.set_cons_succ]
  refine takeL (i := 20) (v := (.pointer (some ⟨fq, 18, none⟩))) rfl (by kernel_rfl) (by kernel_rfl) (by kernel_rfl) (fun _ _ _ h => h) (Or.inl ⟨rfl, fun _ _ => rfl⟩) hq0 ?_
  simp only [Act.put, List.setIfInBounds_toArray, List.set_cons_zero, List.set_cons_succ]
  refine takeL (i := 21) (v := _) rfl (by kernel_rfl) (by kernel_rfl) (by kernel_rfl) (fun _ _ _ h => h) (yieldsIf_cell rfl 3 _ rfl ⟨fq, 18, none⟩ rfl (.int .i64 1) _ (fun W' hW' => (hW'.cell (p := ⟨fq, 18, none⟩) hltq).trans qq18) Try.underlying3 rfl) hq0 ?_
  simp only [Act.put, List.setIfInBounds_toArray, List.set_cons_zero, List.set_cons_succ]
  refine takeL (i := 22) (v := (.bool false)) rfl (by kernel_rfl) (by kernel_rfl) (by kernel_rfl) (fun _ _ _ h => h) (Or.inl ⟨rfl, fun W' _ => by go_simp⟩) hq0 ?_
  simp only [Act.put, List.setIfInBounds_toArray, List.set_cons_zero, List.set_cons_succ]
  refine takeL (i := 23) (v := (.bool false)) rfl (by kernel_rfl) (by kernel_rfl) (by kernel_rfl) (fun _ _ _ h => h) (Or.inl ⟨rfl, fun _ _ => rfl⟩) hq0 ?_
  simp only [Act.put, List.setIfInBounds_toArray, List.set_cons_zero, List.set_cons_succ]
  refine takeL (i := 24) (v := (.bool false)) rfl (by kernel_rfl) (by kernel_rfl) (by kernel_rfl) (fun _ _ _ h => h) (Or.inl ⟨rfl, fun _ _ => rfl⟩) hq0 ?_
  simp only [Act.put, List.setIfInBounds_toArray, List.set_cons_zero, List.set_cons_succ]
  refine takeL (i := 25) (v := (.pointer (some ⟨fq, 68, none⟩))) rfl (by kernel_rfl) (by kernel_rfl) (by kernel_rfl) (fun _ _ _ h => h) (Or.inl ⟨rfl, fun _ _ => rfl⟩) hq0 ?_
  simp only [Act.put, List.setIfInBounds_toArray, List.set_cons_zero, List.set_cons_succ]
  refine takeL (i := 26) (v := _) rfl (by kernel_rfl) (by kernel_rfl) (by kernel_rfl) (fun _ _ _ h => h) (yieldsIf_load_mid rfl 28 _ rfl fq (68) rfl ([Value.int .u64 (B.gi k 68), Value.int .u32 (B.gi k 69), Value.int .u64 (B.gi k 70), Value.int .u16 (B.gi k 71), Value.int .u16 (B.gi k 72)]) _ (fun W' hW' => rangeAt_ext RRq68.out hW' hltq) Try.underlying28 rfl (by exact size_vec)) hq0 ?_
  simp only [Act.put, List.setIfInBounds_toArray, List.set_cons_zero, List.set_cons_succ]
  refine takeL (i := 27) (v := (.pointer (some ⟨bx, 17, none⟩))) rfl (by kernel_rfl) (by kernel_rfl) (by kernel_rfl) (fun _ _ _ h => h) (Or.inl ⟨rfl, fun _ _ => rfl⟩) hq0 ?_
  simp only [Act.put, List.setIfInBounds_toArray, List.set_cons_zero, List.set_cons_succ]
  refine takeL (i := 28) (v := _) rfl (by kernel_rfl) (by kernel_rfl) (by kernel_rfl) (fun _ _ _ h => h) (yieldsIf_cell rfl 29 _ rfl ⟨bx, 17, none⟩ rfl (.slice (some ⟨bb, off, none⟩) B.np k1) _ (fun W' hW' => (hW'.cell (p := ⟨bx, 17, none⟩) hbx).trans b17) Try.underlying29 rfl) hq0 ?_
  simp only [Act.put, List.setIfInBounds_toArray, List.set_cons_zero, List.set_cons_succ]
  refine takeL (i := 29) (v := (.int .i64 (k : Int))) rfl (by kernel_rfl) (by kernel_rfl) (by kernel_rfl) (fun _ _ _ h => h) (Or.inl ⟨rfl, fun _ _ => rfl⟩) hq0 ?_
  simp only [Act.put, List.setIfInBounds_toArray, List.set_cons_zero, List.set_cons_succ]
  refine takeL (i := 30) (v := (.pointer (some ⟨bb, off + k * 89, none⟩))) rfl (by kernel_rfl) (by kernel_rfl) (by kernel_rfl) (fun _ _ _ h => h) (Or.inl ⟨rfl, fun W' _ => by go_simp⟩) hq0 ?_
  simp only [Act.put, List.setIfInBounds_toArray, List.set_cons_zero, List.set_cons_succ]
  refine takeL (i := 31) (v := (.pointer (some ⟨bb, off + k * 89 + 68, none⟩))) rfl (by kernel_rfl) (by kernel_rfl) (by kernel_rfl) (fun _ _ _ h => h) (Or.inl ⟨rfl, fun _ _ => rfl⟩) hq0 ?_
  simp only [Act.put, List.setIfInBounds_toArray, List.set_cons_zero, List.set_cons_succ]
  refine takeL (i := 32) (v := _) rfl (by kernel_rfl) (by kernel_rfl) (by kernel_rfl) (fun _ _ _ h => h) (yieldsIf_load_mid rfl 28 _ rfl bb (off + k * 89 + 68) rfl ([Value.int .u64 (B.gi k 68), Value.int .u32 (B.gi k 69), Value.int .u64 (B.gi k 70), Value.int .u16 (B.gi k 71), Value.int .u16 (B.gi k 72)]) _ (fun W' hW' => rangeAt_ext ROV.out hW' hbb) Try.underlying28 rfl (by exact size_vec)) hq0 ?_
  simp only [Act.put, List.setIfInBounds_toArray, List.set_cons_zero, List.set_cons_succ]
  refine takeL (i := 33) (v := (.bool false)) rfl (by kernel_rfl) (by kernel_rfl) (by kernel_rfl) (fun _ _ _ h => h) (Or.inl ⟨rfl, fun W' _ => by go_simp⟩) hq0 ?_
  simp only [Act.put, List.setIfInBounds_toArray, List.set_cons_zero, List.set_cons_succ]
  refine takeL (i := 34) (v := (.bool false)) rfl (by kernel_rfl) (by kernel_rfl) (by kernel_rfl) (fun _ _ _ h => h) (Or.inl ⟨rfl, fun _ _ => rfl⟩) hq0 ?_
  simp only [Act.put, List.setIfInBounds_toArray, List.set_cons_zero, List.set_cons_succ]
  refine wpAnyH_done (by kernel_rfl) ?_ _
  have H9x := Lib.hid (H8x.out.ext hq0)
  have E9 := E8.trans hq0
  have HFq := Lib.hid ((hq0.block _ hltq).trans HFq.out)
  clear E8 RRq68 hltq qq86 qq43 qq44 qq18 qq68 qq69 qq70 qq71 qq72
  clear hbx b17 hbb ROV
  obtain ⟨hXl, hgl, hne⟩ := H9x.out.lt
  obtain ⟨cap, c17, hca, hcb⟩ := H9x.out.cell17 ok7
  rw [show ((ag1 B k)).np = B.np from ag1_np] at c17 hca
  have hfr := H9x.out.frozen
  have p44 := (H9x.out.cellg (i := k * 89 + 44) (lt89 (N := ((ag1 B k)).np) (show k < Br.np (ag1 B k) by rw [ag1_np]; exact hk) (by decide))).trans (Br.ok.gb ok7 (k := k) (show k < Br.np (ag1 B k) by rw [ag1_np]; exact hk) 44 rfl)
  rw [ag1_44 h89.out] at p44
  have p50 := (H9x.out.cellg (i := k * 89 + 50) (lt89 (N := ((ag1 B k)).np) (show k < Br.np (ag1 B k) by rw [ag1_np]; exact hk) (by decide))).trans (Br.ok.gb ok7 (k := k) (show k < Br.np (ag1 B k) by rw [ag1_np]; exact hk) 50 rfl)
  go_wp2_with fail
  have HZ10 := Lib.hid (show BrG _ (fun n => Nx ≤ n ∧ n < X + 1) X gx (ag2 B k) from ((H9x.out.setp (k := k) (j := 44) (show k < Br.np (ag1 B k) by rw [ag1_np]; exact hk) (by decide) (.bool true)).setp (k := k) (j := 50) (show k < Br.np (ag1 B k) by rw [ag1_np]; exact hk) (by decide) (.bool true)))
  have okz10 : Br.ok (ag2 B k) := (ag2_ok ok7 hk)
  have hmz := (((Mut.refl (fun n => Nx ≤ n ∧ n < X + 1) wd).setCell (p := ⟨gx, k * 89 + 44, none⟩) (.inl H9x.out.F2) (.bool true)).setCell (p := ⟨gx, k * 89 + 50, none⟩) (.inl H9x.out.F2) (.bool true))
  have EZ10 := Ext.mutE E9 hmz (fun n hn h1 => by have := h1.1; have := hsx.out; omega)
  clear E9
  have HMZ := Lib.hid hmz
  clear hmz
  clear c17 hfr p44 p50
  refine (inf_step _ (fun n => Nx ≤ n ∧ n < X + 1) X gx k (ag2 B k) HZ10.out okz10 (show k < Br.np (ag2 B k) by rw [ag2_np]; exact hk) (show Br.np (ag2 B k) < 1000 by have := hn8; simpa only [ag2_np] using this) (ag2_tim h89.out HTM.out)).mono ?_
  rw [ag3_step h89.out]
  rintro e v11 ⟨he, hB, hm⟩
  obtain rfl : e = .returned (.bool true) := he
  have ok11 : Br.ok (ag3 B k) := by
    have := infF_ok (B := (ag2 B k)) (k := k) okz10 (show k < Br.np (ag2 B k) by rw [ag2_np]; exact hk) (ag2_tim h89.out HTM.out)
    rw [ag3_step h89.out] at this
    exact this
  have E11 := Ext.mutE EZ10 hm (fun n hn h1 => by have := h1.1; have := hsx.out; omega)
  clear EZ10
  have H11x := Lib.hid (show BrG _ (fun n => Nx ≤ n ∧ n < X + 1) X gx (ag3 B k) from hB)
  clear hB hm
  obtain ⟨hXl, hgl, hne⟩ := H11x.out.lt
  obtain ⟨cap, c17, hca, hcb⟩ := H11x.out.cell17 ok11
  rw [show ((ag3 B k)).np = B.np from ag3_np] at c17 hca
  have hfr := H11x.out.frozen
  have hkc : k < Br.np (ag3 B k) := (show k < Br.np (ag3 B k) by rw [ag3_np]; exact hk)
  have hrr0 := H11x.out.range (k := k) hkc
  have cr86 : (port (Br.ps (ag3 B k)) k)[86]? = some (.int .i64 2) := (port_at (B := (ag3 B k)) (k := k) (j := 86) (by decide)).trans ((Br.ok.gi ok11 (k := k) hkc 86 rfl).trans (by rw [ag3_86 h89.out]))
  have cr31 : (port (Br.ps (ag3 B k)) k)[31]? = some (.bool true) := (port_at (B := (ag3 B k)) (k := k) (j := 31) (by decide)).trans ((Br.ok.gb ok11 (k := k) hkc 31 rfl).trans (by rw [ag3_31 h89.out]))
  have cr50 : (port (Br.ps (ag3 B k)) k)[50]? = some (.bool false) := (port_at (B := (ag3 B k)) (k := k) (j := 50) (by decide)).trans ((Br.ok.gb ok11 (k := k) hkc 50 rfl).trans (by rw [ag3_50 h89.out]))
  have cr23 : (port (Br.ps (ag3 B k)) k)[23]? = some (.bool false) := (port_at (B := (ag3 B k)) (k := k) (j := 23) (by decide)).trans ((Br.ok.gb ok11 (k := k) hkc 23 rfl).trans (by rw [ag3_23 h89.out]))
  have cr68 : (port (Br.ps (ag3 B k)) k)[68]? = some (.int .u64 (B.gi k 73)) := (port_at (B := (ag3 B k)) (k := k) (j := 68) (by decide)).trans ((Br.ok.gi ok11 (k := k) hkc 68 rfl).trans (by rw [ag3_68 h89.out]))
  have cr69 : (port (Br.ps (ag3 B k)) k)[69]? = some (.int .u32 (B.gi k 74)) := (port_at (B := (ag3 B k)) (k := k) (j := 69) (by decide)).trans ((Br.ok.gi ok11 (k := k) hkc 69 rfl).trans (by rw [ag3_69 h89.out]))
  have cr70 : (port (Br.ps (ag3 B k)) k)[70]? = some (.int .u64 (B.gi k 75)) := (port_at (B := (ag3 B k)) (k := k) (j := 70) (by decide)).trans ((Br.ok.gi ok11 (k := k) hkc 70 rfl).trans (by rw [ag3_70 h89.out]))
  have cr71 : (port (Br.ps (ag3 B k)) k)[71]? = some (.int .u16 (B.gi k 76)) := (port_at (B := (ag3 B k)) (k := k) (j := 71) (by decide)).trans ((Br.ok.gi ok11 (k := k) hkc 71 rfl).trans (by rw [ag3_71 h89.out]))
  have cr72 : (port (Br.ps (ag3 B k)) k)[72]? = some (.int .u16 (B.gi k 77)) := (port_at (B := (ag3 B k)) (k := k) (j := 72) (by decide)).trans ((Br.ok.gi ok11 (k := k) hkc 72 rfl).trans (by rw [ag3_72 h89.out]))
  have cr73 : (port (Br.ps (ag3 B k)) k)[73]? = some (.int .u64 (B.gi k 73)) := (port_at (B := (ag3 B k)) (k := k) (j := 73) (by decide)).trans ((Br.ok.gi ok11 (k := k) hkc 73 rfl).trans (by rw [ag3_73 h89.out]))
  have cr74 : (port (Br.ps (ag3 B k)) k)[74]? = some (.int .u32 (B.gi k 74)) := (port_at (B := (ag3 B k)) (k := k) (j := 74) (by decide)).trans ((Br.ok.gi ok11 (k := k) hkc 74 rfl).trans (by rw [ag3_74 h89.out]))
  have cr75 : (port (Br.ps (ag3 B k)) k)[75]? = some (.int .u64 (B.gi k 75)) := (port_at (B := (ag3 B k)) (k := k) (j := 75) (by decide)).trans ((Br.ok.gi ok11 (k := k) hkc 75 rfl).trans (by rw [ag3_75 h89.out]))
  have cr76 : (port (Br.ps (ag3 B k)) k)[76]? = some (.int .u16 (B.gi k 76)) := (port_at (B := (ag3 B k)) (k := k) (j := 76) (by decide)).trans ((Br.ok.gi ok11 (k := k) hkc 76 rfl).trans (by rw [ag3_76 h89.out]))
  have cr77 : (port (Br.ps (ag3 B k)) k)[77]? = some (.int .u16 (B.gi k 77)) := (port_at (B := (ag3 B k)) (k := k) (j := 77) (by decide)).trans ((Br.ok.gi ok11 (k := k) hkc 77 rfl).trans (by rw [ag3_77 h89.out]))
  have cr78 : (port (Br.ps (ag3 B k)) k)[78]? = some (.int .i64 (B.gi k 82)) := (port_at (B := (ag3 B k)) (k := k) (j := 78) (by decide)).trans ((Br.ok.gi ok11 (k := k) hkc 78 rfl).trans (by rw [ag3_78 h89.out]))
  have cr79 : (port (Br.ps (ag3 B k)) k)[79]? = some (.int .i64 (B.gi k 83)) := (port_at (B := (ag3 B k)) (k := k) (j := 79) (by decide)).trans ((Br.ok.gi ok11 (k := k) hkc 79 rfl).trans (by rw [ag3_79 h89.out]))
  have cr80 : (port (Br.ps (ag3 B k)) k)[80]? = some (.int .i64 (B.gi k 84)) := (port_at (B := (ag3 B k)) (k := k) (j := 80) (by decide)).trans ((Br.ok.gi ok11 (k := k) hkc 80 rfl).trans (by rw [ag3_80 h89.out]))
  have cr81 : (port (Br.ps (ag3 B k)) k)[81]? = some (.int .i64 (B.gi k 85)) := (port_at (B := (ag3 B k)) (k := k) (j := 81) (by decide)).trans ((Br.ok.gi ok11 (k := k) hkc 81 rfl).trans (by rw [ag3_81 h89.out]))
  have cr82 : (port (Br.ps (ag3 B k)) k)[82]? = some (.int .i64 (B.gi k 82)) := (port_at (B := (ag3 B k)) (k := k) (j := 82) (by decide)).trans ((Br.ok.gi ok11 (k := k) hkc 82 rfl).trans (by rw [ag3_82 h89.out]))
  have cr83 : (port (Br.ps (ag3 B k)) k)[83]? = some (.int .i64 (B.gi k 83)) := (port_at (B := (ag3 B k)) (k := k) (j := 83) (by decide)).trans ((Br.ok.gi ok11 (k := k) hkc 83 rfl).trans (by rw [ag3_83 h89.out]))
  have cr84 : (port (Br.ps (ag3 B k)) k)[84]? = some (.int .i64 (B.gi k 84)) := (port_at (B := (ag3 B k)) (k := k) (j := 84) (by decide)).trans ((Br.ok.gi ok11 (k := k) hkc 84 rfl).trans (by rw [ag3_84 h89.out]))
  have cr85 : (port (Br.ps (ag3 B k)) k)[85]? = some (.int .i64 (B.gi k 85)) := (port_at (B := (ag3 B k)) (k := k) (j := 85) (by decide)).trans ((Br.ok.gi ok11 (k := k) hkc 85 rfl).trans (by rw [ag3_85 h89.out]))
  have hnr0 : (port (Br.ps (ag3 B k)) k).length = 89 := (port_typed ok11 (i := k) hkc).1
  have hor := Lib.hid (all_oneCell_toArray (port_typed ok11 (i := k) hkc).one)
  obtain ⟨pr, hpr⟩ : ∃ p, port (Br.ps (ag3 B k)) k = p := ⟨_, rfl⟩
  rw [hpr] at hrr0 hnr0 hor cr86 cr31 cr50 cr23 cr68 cr69 cr70 cr71 cr72 cr73 cr74 cr75 cr76 cr77 cr78 cr79 cr80 cr81 cr82 cr83 cr84 cr85
  clear hpr
  have hrr := Lib.hid hrr0
  clear hrr0
  have hir := Lib.hid (show (Try.prog.info? 51).map (·.size) = some pr.length by rw [hnr0]; exact size_port)
  have hjr := Lib.hid (show (Try.prog.info? 51).map (·.size) = some pr.toArray.size by rw [List.size_toArray, hnr0]; exact size_port)
  have hsrz := Lib.hid (show PZ.size = pr.toArray.size by rw [List.size_toArray]; exact hnr0.symm)
  have hzr := zero_port
  clear hnr0
  clear hkc
  go_wp2_with (first
    | fail
    | ((with_reducible refine at_load 51 ?_); refine wpList_load_mid rfl 51 _ rfl gx (k * 89) rfl pr _ hrr.out Try.underlying51 rfl hir.out ?_)
    | ((with_reducible refine at_store 51 ?_); refine wpList_store_new3 rfl rfl 51 _ _ _ rfl PZ pr.toArray _ rfl ?_ rfl hjr.out hsrz.out (by rw [Array.all_toList]; exact hor.out) ?_; · rfl
       intro wfr hwf
       have hY := H11x.out.alloc (.cells pr.toArray 51)
       rw [← hwf] at hY
       have hE0 : Ext v11 wfr := by rw [hwf]; exact (Ext.refl _).alloc _
       have E12 := E11.trans hE0
       have hbx := heap_alloc_new v11 (.cells pr.toArray 51)
       rw [← hwf] at hbx
       have hxb := Lib.hid H11x.out.lt.1
       obtain ⟨fr, hfb⟩ : ∃ n, v11.heap.size = n := ⟨_, rfl⟩
       rw [hfb] at hbx hxb ⊢
       have HFr := Lib.hid hbx
       have HGr := hxb
       have H12x := Lib.hid hY
       clear hwf hY hbx hxb hfb hE0 E11 hzr
       have qr86 : wfr.cell? ⟨fr, 86, none⟩ = some (.int .i64 2) := by rw [cell_of_row _ _ _ _ _ _ HFr.out]; simpa using cr86
       have qr31 : wfr.cell? ⟨fr, 31, none⟩ = some (.bool true) := by rw [cell_of_row _ _ _ _ _ _ HFr.out]; simpa using cr31
       have qr50 : wfr.cell? ⟨fr, 50, none⟩ = some (.bool false) := by rw [cell_of_row _ _ _ _ _ _ HFr.out]; simpa using cr50
       have qr23 : wfr.cell? ⟨fr, 23, none⟩ = some (.bool false) := by rw [cell_of_row _ _ _ _ _ _ HFr.out]; simpa using cr23
       have qr68 : wfr.cell? ⟨fr, 68, none⟩ = some (.int .u64 (B.gi k 73)) := by rw [cell_of_row _ _ _ _ _ _ HFr.out]; simpa using cr68
       have qr69 : wfr.cell? ⟨fr, 69, none⟩ = some (.int .u32 (B.gi k 74)) := by rw [cell_of_row _ _ _ _ _ _ HFr.out]; simpa using cr69
       have qr70 : wfr.cell? ⟨fr, 70, none⟩ = some (.int .u64 (B.gi k 75)) := by rw [cell_of_row _ _ _ _ _ _ HFr.out]; simpa using cr70
       have qr71 : wfr.cell? ⟨fr, 71, none⟩ = some (.int .u16 (B.gi k 76)) := by rw [cell_of_row _ _ _ _ _ _ HFr.out]; simpa using cr71
       have qr72 : wfr.cell? ⟨fr, 72, none⟩ = some (.int .u16 (B.gi k 77)) := by rw [cell_of_row _ _ _ _ _ _ HFr.out]; simpa using cr72
       have qr73 : wfr.cell? ⟨fr, 73, none⟩ = some (.int .u64 (B.gi k 73)) := by rw [cell_of_row _ _ _ _ _ _ HFr.out]; simpa using cr73
       have qr74 : wfr.cell? ⟨fr, 74, none⟩ = some (.int .u32 (B.gi k 74)) := by rw [cell_of_row _ _ _ _ _ _ HFr.out]; simpa using cr74
       have qr75 : wfr.cell? ⟨fr, 75, none⟩ = some (.int .u64 (B.gi k 75)) := by rw [cell_of_row _ _ _ _ _ _ HFr.out]; simpa using cr75
       have qr76 : wfr.cell? ⟨fr, 76, none⟩ = some (.int .u16 (B.gi k 76)) := by rw [cell_of_row _ _ _ _ _ _ HFr.out]; simpa using cr76
       have qr77 : wfr.cell? ⟨fr, 77, none⟩ = some (.int .u16 (B.gi k 77)) := by rw [cell_of_row _ _ _ _ _ _ HFr.out]; simpa using cr77
       have qr78 : wfr.cell? ⟨fr, 78, none⟩ = some (.int .i64 (B.gi k 82)) := by rw [cell_of_row _ _ _ _ _ _ HFr.out]; simpa using cr78
       have qr79 : wfr.cell? ⟨fr, 79, none⟩ = some (.int .i64 (B.gi k 83)) := by rw [cell_of_row _ _ _ _ _ _ HFr.out]; simpa using cr79
       have qr80 : wfr.cell? ⟨fr, 80, none⟩ = some (.int .i64 (B.gi k 84)) := by rw [cell_of_row _ _ _ _ _ _ HFr.out]; simpa using cr80
       have qr81 : wfr.cell? ⟨fr, 81, none⟩ = some (.int .i64 (B.gi k 85)) := by rw [cell_of_row _ _ _ _ _ _ HFr.out]; simpa using cr81
       have qr82 : wfr.cell? ⟨fr, 82, none⟩ = some (.int .i64 (B.gi k 82)) := by rw [cell_of_row _ _ _ _ _ _ HFr.out]; simpa using cr82
       have qr83 : wfr.cell? ⟨fr, 83, none⟩ = some (.int .i64 (B.gi k 83)) := by rw [cell_of_row _ _ _ _ _ _ HFr.out]; simpa using cr83
       have qr84 : wfr.cell? ⟨fr, 84, none⟩ = some (.int .i64 (B.gi k 84)) := by rw [cell_of_row _ _ _ _ _ _ HFr.out]; simpa using cr84
       have qr85 : wfr.cell? ⟨fr, 85, none⟩ = some (.int .i64 (B.gi k 85)) := by rw [cell_of_row _ _ _ _ _ _ HFr.out]; simpa using cr85
       have RRr68 := Lib.hid (show wfr.rangeAt fr 68 [Value.int .u64 (B.gi k 73), Value.int .u32 (B.gi k 74), Value.int .u64 (B.gi k 75), Value.int .u16 (B.gi k 76), Value.int .u16 (B.gi k 77)] from (range_cons qr68 (range_cons qr69 (range_cons qr70 (range_cons qr71 (range_cons qr72 range_nil))))))
       have RRr73 := Lib.hid (show wfr.rangeAt fr 73 [Value.int .u64 (B.gi k 73), Value.int .u32 (B.gi k 74), Value.int .u64 (B.gi k 75), Value.int .u16 (B.gi k 76), Value.int .u16 (B.gi k 77)] from (range_cons qr73 (range_cons qr74 (range_cons qr75 (range_cons qr76 (range_cons qr77 range_nil))))))
       have RRr78 := Lib.hid (show wfr.rangeAt fr 78 [Value.int .i64 (B.gi k 82), Value.int .i64 (B.gi k 83), Value.int .i64 (B.gi k 84), Value.int .i64 (B.gi k 85)] from (range_cons qr78 (range_cons qr79 (range_cons qr80 (range_cons qr81 range_nil)))))
       have RRr82 := Lib.hid (show wfr.rangeAt fr 82 [Value.int .i64 (B.gi k 82), Value.int .i64 (B.gi k 83), Value.int .i64 (B.gi k 84), Value.int .i64 (B.gi k 85)] from (range_cons qr82 (range_cons qr83 (range_cons qr84 (range_cons qr85 range_nil))))))
    | ((with_reducible refine at_loadG 28 ?_); refine wpList_load_midG rfl 28 _ rfl fr 68 rfl [Value.int .u64 (B.gi k 73), Value.int .u32 (B.gi k 74), Value.int .u64 (B.gi k 75), Value.int .u16 (B.gi k 76), Value.int .u16 (B.gi k 77)] _ RRr68.out Try.underlying28 rfl (by exact size_vec) ?_)
    | ((with_reducible refine at_loadG 28 ?_); refine wpList_load_midG rfl 28 _ rfl fr 73 rfl [Value.int .u64 (B.gi k 73), Value.int .u32 (B.gi k 74), Value.int .u64 (B.gi k 75), Value.int .u16 (B.gi k 76), Value.int .u16 (B.gi k 77)] _ RRr73.out Try.underlying28 rfl (by exact size_vec) ?_)
    | ((with_reducible refine at_loadG 24 ?_); refine wpList_load_midG rfl 24 _ rfl fr 78 rfl [Value.int .i64 (B.gi k 82), Value.int .i64 (B.gi k 83), Value.int .i64 (B.gi k 84), Value.int .i64 (B.gi k 85)] _ RRr78.out Try.underlying24 rfl (by exact size_times) ?_)
    | ((with_reducible refine at_loadG 24 ?_); refine wpList_load_midG rfl 24 _ rfl fr 82 rfl [Value.int .i64 (B.gi k 82), Value.int .i64 (B.gi k 83), Value.int .i64 (B.gi k 84), Value.int .i64 (B.gi k 85)] _ RRr82.out Try.underlying24 rfl (by exact size_times) ?_))
  all_goals
    go_ret
    exact ⟨rfl, HE0.out.trans E12⟩

end Go.Proofs.Ythfoacgdkoijeaa
