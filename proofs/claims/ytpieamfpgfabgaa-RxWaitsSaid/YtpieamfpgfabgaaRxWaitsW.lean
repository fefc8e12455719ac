/- The walk of RxWaits. No statement is proved here. -/
import Derived.Test.YtpieamfpgfabgaaRxM
namespace Go.Proofs.Ytpieamfpgfabgaa
open Go.RowKit Go.BigFrame Go.WideShapes Go.ChangeShapes Go.Deep
set_option linter.unusedVariables false

set_option maxRecDepth 100000 in
set_option maxHeartbeats 2000000 in
theorem law_RxWaits {w : World} (c : Array Value) (B : Br) (hb : BrC w c B) (ho : B.ok) (i : Int) (hi : 0 ≤ i ∧ i < 256) :
    Calls Try.prog 5 #[.agg c, .int .u8 i] w fun e w' => e = .returned (.bool true) ∧ Ext w w' := by
  have hz0 : c.size = 20 := by
    obtain ⟨_, _, _, h, _⟩ := hb.facts ho.hd.1
    exact h
  have hi20 := Lib.hid (show (Try.prog.info? 33).map (·.size) = some c.size by rw [hz0]; exact size_br)
  have HCZ := Lib.hid hz0
  have hE00 : Ext w (w.alloc (.cells c 33)) := ((Ext.refl w).alloc _)
  have hL00 : (w.alloc (.cells c 33)).heap[w.heap.size]? = some (.cells c 33 (0, 0)) := heap_alloc_new _ _
  have hS00 : w.heap.size < (w.alloc (.cells c 33)).heap.size := heap_lt hL00
  have hB00 := hb.ext hE00
  clear hz0
  have HP := Lib.hid hb
  clear hb
  have HhE00 := Lib.hid hE00
  have HhL00 := Lib.hid hL00
  have HhS00 := Lib.hid hS00
  have HhB00 := Lib.hid hB00
  clear hE00 hL00 hS00 hB00
  go_enter Try.func5, Try.ntmps5
  go_wp2_with fail
  have hE00 := HhE00.out
  clear HhE00
  have hL00 := HhL00.out
  clear HhL00
  have hS00 := HhS00.out
  clear HhS00
  have hB00 := HhB00.out
  clear HhB00
  generalize (w.alloc (.cells c 33)) = W0 at *
  obtain ⟨bx, hq⟩ : ∃ n, w.heap.size = n := ⟨_, rfl⟩
  rw [hq] at hL00 hS00 ⊢
  have HE0 := Lib.hid hE00
  have HL0 := Lib.hid hL00
  have HB0 := Lib.hid hB00
  have HS0 := Lib.hid hS00
  have HWB := Lib.hid hq
  clear hE00 hL00 hB00 hS00 hq
  refine (rxw_awake _).mono ?_
  rintro e v1 ⟨rfl, E1⟩
  go_wp2_with (first | fail | ((with_reducible refine at_load 33 ?_); refine wpList_load_row rfl 33 _ rfl bx rfl 33 c (0, 0) _ ((E1.block _ HS0.out).trans HL0.out) Try.underlying33 rfl hi20.out ?_))
  refine (few_any c B _ (HB0.out.ext E1) ho).mono ?_
  rintro e v2 ⟨f, rfl, hx2, hf⟩
  have E2 := Ext.trans E1 hx2
  clear E1 hx2
  cases f
  · go_wp2_with fail
    go_ret
    exact ⟨rfl, HE0.out.trans E2⟩
  have hfew := Lib.hid (hf.1 rfl)
  clear hf
  have hn1 := hfew.out.2.1
  have HN := Lib.hid (show B.np ≤ 1000 ∧ B.no ≤ 1000 ∧ B.nf ≤ 1000 by have := hfew.out; omega)
  have hn8 : B.np < 1000 := by have := hfew.out; omega
  go_wp2_with (first
    | fail
    | ((with_reducible refine at_load 33 ?_); refine wpList_load_row rfl 33 _ rfl bx rfl 33 c (0, 0) _ ((E2.block _ HS0.out).trans HL0.out) Try.underlying33 rfl hi20.out ?_))
  refine (at_any c B i _ (HB0.out.ext E2) ho hi hn1).mono ?_
  rintro e v3 ⟨rfl, hx⟩
  have E3 := Ext.trans E2 hx
  clear E2 hx
  obtain ⟨k, hk0⟩ : ∃ k, i.toNat % B.np = k := ⟨_, rfl⟩
  have hk : k < B.np := by rw [← hk0]; exact Nat.mod_lt _ hn1
  have hk8 : k < 1000 := by omega
  rw [hk0]
  clear hk0
  have h89 := Lib.hid (len89 ho hk)
  go_wp2_with (first
    | fail
    | ((with_reducible refine at_load 33 ?_); refine wpList_load_row rfl 33 _ rfl bx rfl 33 c (0, 0) _ ((E3.block _ HS0.out).trans HL0.out) Try.underlying33 rfl hi20.out ?_))
  refine (clone_any c B _ (HB0.out.ext E3) ho HN.out).mono ?_
  rintro e u4 ⟨cx, rfl, hO, hx⟩
  have Eu := Ext.trans E3 hx
  have hcxz := Lib.hid (size_z20.trans (hO.size ho).symm)
  have hcxo := Lib.hid (hO.one ho)
  have hcxi := Lib.hid (show (Try.prog.info? 33).map (·.size) = some cx.size by rw [hO.size ho]; exact size_br)
  obtain ⟨gx, hM⟩ := hO.made hx.size hn1
  obtain ⟨Nx, hN0, hsz⟩ := nameLe hx.size
  have hNE : W0.heap.size ≤ Nx := by
    rw [← hN0]
    exact E3.size
  rw [hN0] at hM
  have HMK := Lib.hid (show ∀ wx : World, wx = u4.alloc (.cells cx 33) → BrG wx (fun n => Nx ≤ n ∧ n < u4.heap.size + 1) u4.heap.size gx B ∧ Ext W0 wx from by
    rintro _ rfl
    exact ⟨hM, Eu.alloc _⟩)
  clear hM hO hx Eu hN0 E3
  obtain ⟨X, hX0⟩ : ∃ n, u4.heap.size = n := ⟨_, rfl⟩
  have HX0 := Lib.hid hX0
  rw [hX0] at HMK hsz
  have hsx := Lib.hid (show Nx ≤ X ∧ W0.heap.size ≤ Nx from ⟨hsz, hNE⟩)
  clear hsz hNE hX0
  go_wp2_with (first
    | fail
    | ((with_reducible refine at_store 33 ?_); refine wpList_store_new3 rfl rfl 33 _ _ _ rfl _ cx _ rfl ?_ rfl hcxi.out hcxz.out hcxo.out ?_; · rfl
       intro wx hwx
       have hmk := HMK.out wx hwx
       obtain ⟨hBx, E5⟩ := hmk
       have H5x := Lib.hid hBx
       rw [HX0.out]
       clear hwx hBx HMK HX0 hcxz hcxo hcxi
       obtain ⟨hXl, hgl, hne⟩ := H5x.out.lt
       obtain ⟨cap, c17, hca, hcb⟩ := H5x.out.cell17 ho
       have hfr := H5x.out.frozen
       have p2 := (H5x.out.cellg (i := k * 89 + 2) (lt89 (N := (B).np) hk (by decide))).trans (Br.ok.gb ho (k := k) hk 2 rfl)
       have p15 := (H5x.out.cellg (i := k * 89 + 15) (lt89 (N := (B).np) hk (by decide))).trans (Br.ok.gi ho (k := k) hk 15 rfl)
       have p36 := (H5x.out.cellg (i := k * 89 + 36) (lt89 (N := (B).np) hk (by decide))).trans (Br.ok.gb ho (k := k) hk 36 rfl))
    | ((with_reducible refine at_load 33 ?_)
       have HZ6 := Lib.hid (show BrG _ (fun n => Nx ≤ n ∧ n < X + 1) X gx (rw0 B k) from (((H5x.out.setp (k := k) (j := 2) hk (by decide) (.bool true)).setp (k := k) (j := 15) hk (by decide) (.int .i64 1)).setp (k := k) (j := 36) hk (by decide) (.bool true)))
       have okz6 : Br.ok (rw0 B k) := (((ho.setB (k := k) hk 2 true rfl).setI (k := k) hk 15 .i64 1 rfl (by decide)).setB (k := k) hk 36 true rfl)
       have hmz := ((((Mut.refl (fun n => Nx ≤ n ∧ n < X + 1) wx).setCell (p := ⟨gx, k * 89 + 2, none⟩) (.inl H5x.out.F2) (.bool true)).setCell (p := ⟨gx, k * 89 + 15, none⟩) (.inl H5x.out.F2) (.int .i64 1)).setCell (p := ⟨gx, k * 89 + 36, none⟩) (.inl H5x.out.F2) (.bool true))
       have EZ6 := Ext.mutE E5 hmz (fun n hn h1 => by have := h1.1; have := hsx.out; omega)
       clear E5
       have HMZ := Lib.hid hmz
       clear hmz
       clear c17 hfr p2 p15 p36
       obtain ⟨C7, hC, hCb, hCz⟩ := HZ6.out.br (show 0 < ((rw0 B k)).np from hn1)
       have HCi7 := Lib.hid (show (Try.prog.info? 33).map (·.size) = some C7.size by rw [hCz, Br.ok.hd okz6 |>.1]; exact size_br)
       have HC7 := Lib.hid hC
       have HCb7 := Lib.hid hCb
       have HCn7 := Lib.hid (show C7.size = 20 by rw [hCz, Br.ok.hd okz6 |>.1]; rfl)
       clear hC hCb hCz
       refine wpList_load_row rfl 33 _ rfl X rfl 33 C7 (0, 0) _ HC7.out Try.underlying33 rfl HCi7.out ?_))
  refine (clone_any C7 (rw0 B k) _ HCb7.out okz6 HN.out).mono ?_
  rintro e u8 ⟨cy, rfl, hO, hx⟩
  have Eu := Ext.trans EZ6 hx
  have hcyz := Lib.hid (size_z20.trans (hO.size okz6).symm)
  have hcyo := Lib.hid (hO.one okz6)
  have hcyi := Lib.hid (show (Try.prog.info? 33).map (·.size) = some cy.size by rw [hO.size okz6]; exact size_br)
  obtain ⟨gy, hM⟩ := hO.made hx.size (show 0 < ((rw0 B k)).np from hn1)
  have hY_x := (HZ6.out.ext hx).alloc (.cells cy 33)
  obtain ⟨Ny, hN0, hsz⟩ := nameLe hx.size
  have hNE : W0.heap.size ≤ Ny := by
    rw [← hN0]
    exact EZ6.size
  rw [hN0] at hM
  have hd_xy := Lib.hid (show X < Ny by
    rw [← hN0]
    exact HZ6.out.lt.1)
  have HMK := Lib.hid (show ∀ wx : World, wx = u8.alloc (.cells cy 33) → BrG wx (fun n => Ny ≤ n ∧ n < u8.heap.size + 1) u8.heap.size gy (rw0 B k) ∧ Ext W0 wx ∧ BrG wx (fun n => Nx ≤ n ∧ n < X + 1) X gx (rw0 B k) from by
    rintro _ rfl
    exact ⟨hM, Eu.alloc _, hY_x⟩)
  clear hM hO hx Eu hN0 EZ6 hY_x
  obtain ⟨Y, hX0⟩ : ∃ n, u8.heap.size = n := ⟨_, rfl⟩
  have HX0 := Lib.hid hX0
  rw [hX0] at HMK hsz
  have hsy := Lib.hid (show Ny ≤ Y ∧ W0.heap.size ≤ Ny from ⟨hsz, hNE⟩)
  clear hsz hNE hX0
  go_wp2_with (first
    | fail
    | ((with_reducible refine at_store 33 ?_); refine wpList_store_new3 rfl rfl 33 _ _ _ rfl _ cy _ rfl ?_ rfl hcyi.out hcyz.out hcyo.out ?_; · rfl
       intro wx hwx
       have hmk := HMK.out wx hwx
       obtain ⟨hBx, E9, hY_x⟩ := hmk
       have H9y := Lib.hid hBx
       have H9x := Lib.hid hY_x
       rw [HX0.out]
       clear hwx hBx HMK HX0 hcyz hcyo hcyi hY_x))
  refine (rx_step _ (fun n => Nx ≤ n ∧ n < X + 1) X gx k (rw0 B k) H9x.out okz6 hk hk8).mono ?_
  rw [rw0_f B k h89.out]
  rintro e v10 ⟨he, hB, hm⟩
  obtain rfl : e = .returned (.bool false) := he
  have ok10 := rxF_ok okz6 (k := k) hk
  rw [rw0_f B k h89.out] at ok10
  have H10y := Lib.hid (H9y.out.apart hm (fun n hn h1 h2 => by have := h1.1; have := h1.2; have := h2.1; have := h2.2; have := hsx.out; have := hsy.out; have := hd_xy.out; omega))
  have E10 := Ext.mutE E9 hm (fun n hn h1 => by have := h1.1; have := hsx.out; omega)
  clear E9
  have H10x := Lib.hid hB
  clear hB hm
  obtain ⟨C11, hC, hCb, hCz⟩ := H10x.out.br (show 0 < ((rw0 B k)).np from hn1)
  have HCi11 := Lib.hid (show (Try.prog.info? 33).map (·.size) = some C11.size by rw [hCz, Br.ok.hd ok10 |>.1]; exact size_br)
  have HC11 := Lib.hid hC
  have HCb11 := Lib.hid hCb
  have HCn11 := Lib.hid (show C11.size = 20 by rw [hCz, Br.ok.hd ok10 |>.1]; rfl)
  clear hC hCb hCz
  obtain ⟨C12, hC, hCb, hCz⟩ := H10y.out.br (show 0 < ((rw0 B k)).np from hn1)
  have HCi12 := Lib.hid (show (Try.prog.info? 33).map (·.size) = some C12.size by rw [hCz, Br.ok.hd okz6 |>.1]; exact size_br)
  have HC12 := Lib.hid hC
  have HCb12 := Lib.hid hCb
  have HCn12 := Lib.hid (show C12.size = 20 by rw [hCz, Br.ok.hd okz6 |>.1]; rfl)
  clear hC hCb hCz
  go_wp2_with (first
    | fail
    | ((with_reducible refine at_loadG 33 ?_); refine wpList_load_rowG rfl 33 _ rfl X rfl 33 C11 (0, 0) _ HC11.out Try.underlying33 rfl HCi11.out ?_)
    | ((with_reducible refine at_loadG 33 ?_); refine wpList_load_rowG rfl 33 _ rfl Y rfl 33 C12 (0, 0) _ HC12.out Try.underlying33 rfl HCi12.out ?_))
  refine (same_any C11 C12 (rw0 B k) _ HCb11.out HCb12.out ok10).mono ?_
  rintro e v13 ⟨rfl, hx⟩
  have E13 := Ext.trans E10 hx
  go_wp2_with fail
  go_ret
  exact ⟨rfl, HE0.out.trans E13⟩

end Go.Proofs.Ytpieamfpgfabgaa
