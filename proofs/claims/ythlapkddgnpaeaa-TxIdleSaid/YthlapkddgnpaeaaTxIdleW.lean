/- The walk of TxIdle. No statement is proved here. -/
import Derived.Test.YthlapkddgnpaeaaTxM
namespace Go.Proofs.Ythlapkddgnpaeaa
open Go.RowKit Go.BigFrame Go.WideShapes Go.ChangeShapes Go.Deep
set_option linter.unusedVariables false
set_option linter.unusedSimpArgs false

set_option maxRecDepth 100000 in
set_option maxHeartbeats 2000000 in
theorem law_TxIdle {w : World} (c : Array Value) (B : Br) (hb : BrC w c B) (ho : B.ok) (i : Int) (hi : 0 ≤ i ∧ i < 256) :
    Calls Try.prog 7 #[.agg c, .int .u8 i] w fun e w' => e = .returned (.bool true) ∧ Ext w w' := by
  have hz0 : c.size = 20 := by
    obtain ⟨_, _, _, h, _⟩ := hb.facts ho.hd.1
    exact h
  have hi20 := Lib.hid (show (Try.prog.info? 33).map (·.size) = some c.size by rw [hz0]; exact size_br)
  have HCZ := Lib.hid hz0
  have hE00 : Ext w (w.alloc (.cells c 33)) := ((Ext.refl w).alloc _)
  have hL00 : (w.alloc (.cells c 33)).heap[w.heap.size]? = some (.cells c 33 (0, 0)) := heap_alloc_new _ _
  have hS00 : w.heap.size < (w.alloc (.cells c 33)).heap.size := heap_lt hL00
  have hB00 := hb.ext hE00
  clear hz0
  have HP := Lib.hid hb
  clear hb
  have HhE00 := Lib.hid hE00
  have HhL00 := Lib.hid hL00
  have HhS00 := Lib.hid hS00
  have HhB00 := Lib.hid hB00
  clear hE00 hL00 hS00 hB00
  go_enter Try.func7, Try.ntmps7
  go_wp2_with fail
  have hE00 := HhE00.out
  clear HhE00
  have hL00 := HhL00.out
  clear HhL00
  have hS00 := HhS00.out
  clear HhS00
  have hB00 := HhB00.out
  clear HhB00
  generalize (w.alloc (.cells c 33)) = W0 at *
  obtain ⟨bx, hq⟩ : ∃ n, w.heap.size = n := ⟨_, rfl⟩
  rw [hq] at hL00 hS00 ⊢
  have HE0 := Lib.hid hE00
  have HL0 := Lib.hid hL00
  have HB0 := Lib.hid hB00
  have HS0 := Lib.hid hS00
  have HWB := Lib.hid hq
  clear hE00 hL00 hB00 hS00 hq
  refine (txw_awake _).mono ?_
  rintro e v1 ⟨rfl, E1⟩
  go_wp2_with (first | fail | ((with_reducible refine at_load 33 ?_); refine wpList_load_row rfl 33 _ rfl bx rfl 33 c (0, 0) _ ((E1.block _ HS0.out).trans HL0.out) Try.underlying33 rfl hi20.out ?_))
  refine (few_any c B _ (HB0.out.ext E1) ho).mono ?_
  rintro e v2 ⟨f, rfl, hx2, hf⟩
  have E2 := Ext.trans E1 hx2
  clear E1 hx2
  cases f
  · go_wp2_with fail
    go_ret
    exact ⟨rfl, HE0.out.trans E2⟩
  have hfew := Lib.hid (hf.1 rfl)
  clear hf
  have hn1 := hfew.out.2.1
  have HN := Lib.hid (show B.np ≤ 1000 ∧ B.no ≤ 1000 ∧ B.nf ≤ 1000 by have := hfew.out; omega)
  have hn8 : B.np < 1000 := by have := hfew.out; omega
  go_wp2_with (first
    | fail
    | ((with_reducible refine at_load 33 ?_); refine wpList_load_row rfl 33 _ rfl bx rfl 33 c (0, 0) _ ((E2.block _ HS0.out).trans HL0.out) Try.underlying33 rfl hi20.out ?_))
  refine (at_any c B i _ (HB0.out.ext E2) ho hi hn1).mono ?_
  rintro e v3 ⟨rfl, hx⟩
  have E3 := Ext.trans E2 hx
  clear E2 hx
  obtain ⟨k, hk0⟩ : ∃ k, i.toNat % B.np = k := ⟨_, rfl⟩
  have hk : k < B.np := by rw [← hk0]; exact Nat.mod_lt _ hn1
  have hk8 : k < 1000 := by omega
  rw [hk0]
  clear hk0
  have h89 := Lib.hid (len89 ho hk)
  have HB4 := Lib.hid (b_head HP.out ho HL0.out 4 rfl)
  have HB6 := Lib.hid (b_head HP.out ho HL0.out 6 rfl)
  go_wp2_with (first
    | fail
    | ((with_reducible refine at_load 33 ?_); refine wpList_load_row rfl 33 _ rfl bx rfl 33 c (0, 0) _ ((E3.block _ HS0.out).trans HL0.out) Try.underlying33 rfl hi20.out ?_))
  refine (clone_any c B _ (HB0.out.ext E3) ho HN.out).mono ?_
  rintro e u4 ⟨cx, rfl, hO, hx⟩
  have Eu := Ext.trans E3 hx
  have hcxz := Lib.hid (size_z20.trans (hO.size ho).symm)
  have hcxo := Lib.hid (hO.one ho)
  have hcxi := Lib.hid (show (Try.prog.info? 33).map (·.size) = some cx.size by rw [hO.size ho]; exact size_br)
  obtain ⟨gx, hM⟩ := hO.made hx.size hn1
  obtain ⟨Nx, hN0, hsz⟩ := nameLe hx.size
  have hNE : W0.heap.size ≤ Nx := by
    rw [← hN0]
    exact E3.size
  rw [hN0] at hM
  have HMK := Lib.hid (show ∀ wx : World, wx = u4.alloc (.cells cx 33) → BrG wx (fun n => Nx ≤ n ∧ n < u4.heap.size + 1) u4.heap.size gx B ∧ Ext W0 wx from by
    rintro _ rfl
    exact ⟨hM, Eu.alloc _⟩)
  clear hM hO hx Eu hN0 E3
  obtain ⟨X, hX0⟩ : ∃ n, u4.heap.size = n := ⟨_, rfl⟩
  have HX0 := Lib.hid hX0
  rw [hX0] at HMK hsz
  have hsx := Lib.hid (show Nx ≤ X ∧ W0.heap.size ≤ Nx from ⟨hsz, hNE⟩)
  clear hsz hNE hX0
  go_wp2_with (first
    | fail
    | ((with_reducible refine at_store 33 ?_); refine wpList_store_new3 rfl rfl 33 _ _ _ rfl _ cx _ rfl ?_ rfl hcxi.out hcxz.out hcxo.out ?_; · rfl
       intro wx hwx
       have hmk := HMK.out wx hwx
       obtain ⟨hBx, E5⟩ := hmk
       have H5x := Lib.hid hBx
       rw [HX0.out]
       clear hwx hBx HMK HX0 hcxz hcxo hcxi
       obtain ⟨hXl, hgl, hne⟩ := H5x.out.lt
       obtain ⟨cap, c17, hca, hcb⟩ := H5x.out.cell17 ho
       have hfr := H5x.out.frozen
       have p44 := (H5x.out.cellg (i := k * 89 + 44) (lt89 (N := (B).np) hk (by decide))).trans (Br.ok.gb ho (k := k) hk 44 rfl)
       have p50 := (H5x.out.cellg (i := k * 89 + 50) (lt89 (N := (B).np) hk (by decide))).trans (Br.ok.gb ho (k := k) hk 50 rfl)
       have p31 := (H5x.out.cellg (i := k * 89 + 31) (lt89 (N := (B).np) hk (by decide))).trans (Br.ok.gb ho (k := k) hk 31 rfl)
       have p87 := (H5x.out.cellg (i := k * 89 + 87) (lt89 (N := (B).np) hk (by decide))).trans (Br.ok.gi ho (k := k) hk 87 rfl)
       have p8 := (H5x.out.cellg (i := k * 89 + 8) (lt89 (N := (B).np) hk (by decide))).trans (Br.ok.gi ho (k := k) hk 8 rfl)
       have p14 := (H5x.out.cellg (i := k * 89 + 14) (lt89 (N := (B).np) hk (by decide))).trans (Br.ok.gi ho (k := k) hk 14 rfl)
       have b4 := (E5.cell (p := ⟨bx, 4, none⟩) HS0.out).trans HB4.out
       have hbg : bx ≠ gx := by have h1 : Nx ≤ gx := (H5x.out.F2).1; have h2 := hsx.out.2; have h3 := HS0.out; omega))
  have HZ6 := Lib.hid (show BrG _ (fun n => Nx ≤ n ∧ n < X + 1) X gx (ti0 B k) from ((((((H5x.out.setp (k := k) (j := 44) hk (by decide) (.bool true)).setp (k := k) (j := 50) hk (by decide) (.bool false)).setp (k := k) (j := 31) hk (by decide) (.bool false)).setp (k := k) (j := 87) hk (by decide) (.int .i64 4)).setp (k := k) (j := 8) hk (by decide) (.int .i64 (B.hi 4))).setp (k := k) (j := 14) hk (by decide) (.int .i64 0)))
  have okz6 : Br.ok (ti0 B k) := ti0_ok ho hk
  have hmz := (((((((Mut.refl (fun n => Nx ≤ n ∧ n < X + 1) wx).setCell (p := ⟨gx, k * 89 + 44, none⟩) (.inl H5x.out.F2) (.bool true)).setCell (p := ⟨gx, k * 89 + 50, none⟩) (.inl H5x.out.F2) (.bool false)).setCell (p := ⟨gx, k * 89 + 31, none⟩) (.inl H5x.out.F2) (.bool false)).setCell (p := ⟨gx, k * 89 + 87, none⟩) (.inl H5x.out.F2) (.int .i64 4)).setCell (p := ⟨gx, k * 89 + 8, none⟩) (.inl H5x.out.F2) (.int .i64 (B.hi 4))).setCell (p := ⟨gx, k * 89 + 14, none⟩) (.inl H5x.out.F2) (.int .i64 0))
  have EZ6 := Ext.mutE E5 hmz (fun n hn h1 => by have := h1.1; have := hsx.out; omega)
  clear E5
  have HMZ := Lib.hid hmz
  clear hmz
  clear c17 hfr p44 p50 p31 p87 p8 p14
  clear b4 hbg
  have hno0 : B.no ≤ 20 := hfew.out.2.2.2.1
  have hh4 : B.hi 4 ≠ 0 := by have := hfew.out.1.1.1; unfold TR at this; omega
  have hh6 : 0 < B.hi 6 := by have := hfew.out.1.1.2.2.2.1; omega
  obtain ⟨⟨o1, n1, d1, m1⟩, ⟨o2, n2, d2, m2⟩, ⟨o3, n3, d3, m3⟩⟩ := ti_keeps ho hk hk8
  obtain ⟨-, -, -, -, -, t0⟩ := ti0_cells h89.out
  obtain ⟨-, -, -, -, t1⟩ := ti1_cells h89.out
  obtain ⟨-, -, -, -, -, t2⟩ := ti2_cells h89.out
  have n0 : (ti0 B k).np = B.np := rfl
  have m0 : (ti0 B k).no = B.no := rfl
  have hk0 : k < (ti0 B k).np := hk
  have HW0 := Lib.hid (BrG.widen HZ6.out)
  clear HZ6
  refine (tx_stepW _ Nx X gx k (ti0 B k) HW0.out okz6 (by rw [n0]; exact hk) (by rw [n0]; exact hn8) (by rw [t0]; decide) (by rw [m0]; omega)).mono ?_
  rw [ti_f0 h89.out hh4]
  rintro e y1 ⟨he, hB, hm⟩
  obtain rfl : e = .returned (.bool false) := he
  have EY1 := Ext.mutE EZ6 hm (fun n hn h1 => by have := hsx.out; have h2 : Nx ≤ n := h1; omega)
  have HY1 := Lib.hid (show BrG y1 _ X gx (ti0 B k) from hB)
  clear hB hm HW0 EZ6
  obtain ⟨hXl, hgl, hne⟩ := HY1.out.lt
  obtain ⟨capz, c17, hcaz, hcbz⟩ := HY1.out.cell17 okz6
  rw [n0] at c17 hcaz
  have hfr := HY1.out.frozen
  have p8 := (HY1.out.cellg (i := k * 89 + 8) (lt89 hk0 (by decide))).trans (Br.ok.gi okz6 hk0 8 rfl)
  have hF2 : Nx ≤ gx := (HY1.out.F2).1
  have HW1 := Lib.hid (show BrG _ _ X gx (ti1 B k) from HY1.out.setpI (k := k) (j := 8) hk0 (by decide) (.int .i64 0))
  have EW1 := Ext.mutE EY1 ((Mut.refl (fun n => Nx ≤ n) y1).setCell (p := ⟨gx, k * 89 + 8, none⟩) (.inl hF2) (.int .i64 0)) (fun n hn h1 => by have := hsx.out; have h2 : Nx ≤ n := h1; omega)
  clear EY1
  go_wp2_with fail
  clear p8 hfr c17 hXl hgl
  refine (tx_stepW _ Nx X gx k (ti1 B k) HW1.out o1 (by rw [n1]; exact hk) (by rw [n1]; exact hn8) (by rw [t1]; decide) (by rw [m1]; omega)).mono ?_
  rw [ti_f1 h89.out]
  rintro e y2 ⟨he, hB, hm⟩
  obtain rfl : e = .returned (.bool true) := he
  have EY2 := Ext.mutE EW1 hm (fun n hn h1 => by have := hsx.out; have h2 : Nx ≤ n := h1; omega)
  have HY2 := Lib.hid (show BrG y2 _ X gx (ti2 B k) from hB)
  clear hB hm HW1 EW1
  go_wp2_with fail
  refine (tx_stepW _ Nx X gx k (ti2 B k) HY2.out o2 (by rw [n2]; exact hk) (by rw [n2]; exact hn8) (by rw [t2]; decide) (by rw [m2]; omega)).mono ?_
  rw [ti_f2 h89.out hh4 hh6]
  rintro e y3 ⟨he, hB, hm⟩
  obtain rfl : e = .returned (.bool true) := he
  have EY3 := Ext.mutE EY2 hm (fun n hn h1 => by have := hsx.out; have h2 : Nx ≤ n := h1; omega)
  have HY3 := Lib.hid (show BrG y3 _ X gx (ti3 B k) from hB)
  clear hB hm HY2 EY2
  go_wp2_with fail
  have t3 : (ti3 B k).gi k 14 = 1 := by unfold ti3; rw [txNews_14 (by rw [ti2_len]; exact h89.out), t2]; rfl
  refine (tx_stepW _ Nx X gx k (ti3 B k) HY3.out o3 (by rw [n3]; exact hk) (by rw [n3]; exact hn8) (by rw [t3]; decide) (by rw [m3]; omega)).mono ?_
  rw [ti_f3 h89.out hh4]
  rintro e y4 ⟨he, hB, hm⟩
  obtain rfl : e = .returned (.bool false) := he
  have EY4 := Ext.mutE EY3 hm (fun n hn h1 => by have := hsx.out; have h2 : Nx ≤ n := h1; omega)
  have HY4 := Lib.hid (show BrG y4 _ X gx (ti3 B k) from hB)
  clear hB hm HY3 EY3
  obtain ⟨a18, k18, x18⟩ := HY4.out.len18 o3.hd.1
  rw [m3] at x18
  obtain ⟨a19, k19, hb18⟩ := b_slice18 HP.out ho HL0.out
  have b18 := (EY4.cell (p := ⟨bx, 18, none⟩) HS0.out).trans hb18
  clear hb18
  obtain ⟨hXl, hgl, hne⟩ := HY4.out.lt
  have hbx := Nat.lt_of_lt_of_le HS0.out EY4.size
  go_wp2_with fail
  all_goals
    go_ret
    exact ⟨rfl, HE0.out.trans EY4⟩

end Go.Proofs.Ythlapkddgnpaeaa
