/- The walk of TransSteps. No statement is proved here. -/
import Derived.Test.YtnblchilgaimhaaTrV
import Derived.Test.YtnblchilgaimhaaTrR
namespace Go.Proofs.Ytnblchilgaimhaa
open Go.RowKit Go.BigFrame Go.WideShapes Go.ChangeShapes Go.Deep
set_option linter.unusedVariables false
set_option linter.unusedSimpArgs false

set_option maxRecDepth 100000 in
set_option maxHeartbeats 4000000 in
theorem law_TransSteps {w : World} (c : Array Value) (B : Br) (hb : BrC w c B) (ho : B.ok) (i : Int) (hi : 0 ≤ i ∧ i < 256) :
    Calls Try.prog 8 #[.agg c, .int .u8 i] w fun e w' => e = .returned (.bool true) ∧ Ext w w' := by
  have hz0 : c.size = 20 := by
    obtain ⟨_, _, _, h, _⟩ := hb.facts ho.hd.1
    exact h
  have hi20 := Lib.hid (show (Try.prog.info? 33).map (·.size) = some c.size by rw [hz0]; exact size_br)
  have HCZ := Lib.hid hz0
  have hE00 : Ext w (w.alloc (.cells c 33)) := ((Ext.refl w).alloc _)
  have hL00 : (w.alloc (.cells c 33)).heap[w.heap.size]? = some (.cells c 33 (0, 0)) := heap_alloc_new _ _
  have hS00 : w.heap.size < (w.alloc (.cells c 33)).heap.size := heap_lt hL00
  have hB00 := hb.ext hE00
  clear hz0
  have HP := Lib.hid hb
  clear hb
  have HhE00 := Lib.hid hE00
  have HhL00 := Lib.hid hL00
  have HhS00 := Lib.hid hS00
  have HhB00 := Lib.hid hB00
  clear hE00 hL00 hS00 hB00
  go_enter Try.func8, Try.ntmps8
  go_wp2_with fail
  have hE00 := HhE00.out
  clear HhE00
  have hL00 := HhL00.out
  clear HhL00
  have hS00 := HhS00.out
  clear HhS00
  have hB00 := HhB00.out
  clear HhB00
  generalize (w.alloc (.cells c 33)) = W0 at *
  obtain ⟨bx, hq⟩ : ∃ n, w.heap.size = n := ⟨_, rfl⟩
  rw [hq] at hL00 hS00 ⊢
  have HE0 := Lib.hid hE00
  have HL0 := Lib.hid hL00
  have HB0 := Lib.hid hB00
  have HS0 := Lib.hid hS00
  have HWB := Lib.hid hq
  clear hE00 hL00 hB00 hS00 hq
  refine (trw_awake _).mono ?_
  rintro e v1 ⟨rfl, E1⟩
  go_wp2_with (first | fail | ((with_reducible refine at_load 33 ?_); refine wpList_load_row rfl 33 _ rfl bx rfl 33 c (0, 0) _ ((E1.block _ HS0.out).trans HL0.out) Try.underlying33 rfl hi20.out ?_))
  refine (few_any c B _ (HB0.out.ext E1) ho).mono ?_
  rintro e v2 ⟨f, rfl, hx2, hf⟩
  have E2 := Ext.trans E1 hx2
  clear E1 hx2
  cases f
  · go_wp2_with fail
    go_ret
    exact ⟨rfl, HE0.out.trans E2⟩
  have hfew := Lib.hid (hf.1 rfl)
  clear hf
  have hn1 := hfew.out.2.1
  have HN := Lib.hid (show B.np ≤ 1000 ∧ B.no ≤ 1000 ∧ B.nf ≤ 1000 by have := hfew.out; omega)
  have hn8 : B.np < 1000 := by have := hfew.out; omega
  go_wp2_with (first
    | fail
    | ((with_reducible refine at_load 33 ?_); refine wpList_load_row rfl 33 _ rfl bx rfl 33 c (0, 0) _ ((E2.block _ HS0.out).trans HL0.out) Try.underlying33 rfl hi20.out ?_))
  refine (at_any c B i _ (HB0.out.ext E2) ho hi hn1).mono ?_
  rintro e v3 ⟨rfl, hx⟩
  have E3 := Ext.trans E2 hx
  clear E2 hx
  obtain ⟨k, hk0⟩ : ∃ k, i.toNat % B.np = k := ⟨_, rfl⟩
  have hk : k < B.np := by rw [← hk0]; exact Nat.mod_lt _ hn1
  have hk8 : k < 1000 := by omega
  rw [hk0]
  clear hk0
  have h89 := Lib.hid (len89 ho hk)
  have hok2 : Br.ok (trF B k).2 := trF_ok ho hk (few_hi4 hfew.out.1)
  have hnp2 : (trF B k).2.np = B.np := trF_np ho hk (few_hi4 hfew.out.1)
  have HH4 := Lib.hid (few_hi4 hfew.out.1)
  have HRN := Lib.hid (show ∀ k, k < B.np → 0 ≤ B.gi k 12 ∧ B.gi k 12 ≤ 1000 from fun k hk => (hfew.out.1.2 k hk).1 6 (by decide))
  obtain ⟨d, hd⟩ : ∃ d, (trF B k).1 = d := ⟨_, rfl⟩
  obtain ⟨Z, hZ⟩ : ∃ Z, (trF B k).2 = Z := ⟨_, rfl⟩
  rw [hZ] at hok2 hnp2
  have HFD := Lib.hid (show trF B k = (d, Z) by rw [← hd, ← hZ])
  clear hd hZ
  go_wp2_with (first
    | fail
    | ((with_reducible refine at_load 33 ?_); refine wpList_load_row rfl 33 _ rfl bx rfl 33 c (0, 0) _ ((E3.block _ HS0.out).trans HL0.out) Try.underlying33 rfl hi20.out ?_))
  refine (clone_any c B _ (HB0.out.ext E3) ho HN.out).mono ?_
  rintro e u4 ⟨cx, rfl, hO, hx⟩
  have Eu := Ext.trans E3 hx
  have hcxz := Lib.hid (size_z20.trans (hO.size ho).symm)
  have hcxo := Lib.hid (hO.one ho)
  have hcxi := Lib.hid (show (Try.prog.info? 33).map (·.size) = some cx.size by rw [hO.size ho]; exact size_br)
  obtain ⟨gx, hM⟩ := hO.made hx.size hn1
  obtain ⟨Nx, hN0, hsz⟩ := nameLe hx.size
  have hNE : W0.heap.size ≤ Nx := by
    rw [← hN0]
    exact E3.size
  rw [hN0] at hM
  have HMK := Lib.hid (show ∀ wx : World, wx = u4.alloc (.cells cx 33) → BrG wx (fun n => Nx ≤ n ∧ n < u4.heap.size + 1) u4.heap.size gx B ∧ Ext W0 wx from by
    rintro _ rfl
    exact ⟨hM, Eu.alloc _⟩)
  clear hM hO hx Eu hN0 E3
  obtain ⟨X, hX0⟩ : ∃ n, u4.heap.size = n := ⟨_, rfl⟩
  have HX0 := Lib.hid hX0
  rw [hX0] at HMK hsz
  have hsx := Lib.hid (show Nx ≤ X ∧ W0.heap.size ≤ Nx from ⟨hsz, hNE⟩)
  clear hsz hNE hX0
  go_wp2_with (first
    | fail
    | ((with_reducible refine at_store 33 ?_); refine wpList_store_new3 rfl rfl 33 _ _ _ rfl _ cx _ rfl ?_ rfl hcxi.out hcxz.out hcxo.out ?_; · rfl
       intro wx hwx
       have hmk := HMK.out wx hwx
       obtain ⟨hBx, E5⟩ := hmk
       have H5x := Lib.hid hBx
       rw [HX0.out]
       clear hwx hBx HMK HX0 hcxz hcxo hcxi)
    | ((with_reducible refine at_load 33 ?_); refine wpList_load_row rfl 33 _ rfl bx rfl 33 c (0, 0) _ ((E5.block _ HS0.out).trans HL0.out) Try.underlying33 rfl hi20.out ?_))
  refine (clone_any c B _ (HB0.out.ext E5) ho HN.out).mono ?_
  rintro e u6 ⟨cy, rfl, hO, hx⟩
  have Eu := Ext.trans E5 hx
  have hcyz := Lib.hid (size_z20.trans (hO.size ho).symm)
  have hcyo := Lib.hid (hO.one ho)
  have hcyi := Lib.hid (show (Try.prog.info? 33).map (·.size) = some cy.size by rw [hO.size ho]; exact size_br)
  obtain ⟨gy, hM⟩ := hO.made hx.size hn1
  have hY_x := (H5x.out.ext hx).alloc (.cells cy 33)
  obtain ⟨Ny, hN0, hsz⟩ := nameLe hx.size
  have hNE : W0.heap.size ≤ Ny := by
    rw [← hN0]
    exact E5.size
  rw [hN0] at hM
  have hd_xy := Lib.hid (show X < Ny by
    rw [← hN0]
    exact H5x.out.lt.1)
  have HMK := Lib.hid (show ∀ wx : World, wx = u6.alloc (.cells cy 33) → BrG wx (fun n => Ny ≤ n ∧ n < u6.heap.size + 1) u6.heap.size gy B ∧ Ext W0 wx ∧ BrG wx (fun n => Nx ≤ n ∧ n < X + 1) X gx B from by
    rintro _ rfl
    exact ⟨hM, Eu.alloc _, hY_x⟩)
  clear hM hO hx Eu hN0 E5 hY_x
  obtain ⟨Y, hX0⟩ : ∃ n, u6.heap.size = n := ⟨_, rfl⟩
  have HX0 := Lib.hid hX0
  rw [hX0] at HMK hsz
  have hsy := Lib.hid (show Ny ≤ Y ∧ W0.heap.size ≤ Ny from ⟨hsz, hNE⟩)
  clear hsz hNE hX0
  go_wp2_with (first
    | fail
    | ((with_reducible refine at_store 33 ?_); refine wpList_store_new3 rfl rfl 33 _ _ _ rfl _ cy _ rfl ?_ rfl hcyi.out hcyz.out hcyo.out ?_; · rfl
       intro wx hwx
       have hmk := HMK.out wx hwx
       obtain ⟨hBx, E7, hY_x⟩ := hmk
       have H7y := Lib.hid hBx
       have H7x := Lib.hid hY_x
       rw [HX0.out]
       clear hwx hBx HMK HX0 hcyz hcyo hcyi hY_x))
  refine (tr_stepL _ Nx X gx k B H7x.out ho hk hn8 HH4.out).mono ?_
  rw [HFD.out]
  rintro e v8 ⟨he, hB, hm⟩
  obtain rfl : e = .returned (.bool d) := he
  have H8y := Lib.hid (H7y.out.apart hm (fun n hn h1 h2 => by have := h1.1; have := h1.2; have := h2.1; have := h2.2; have := hsx.out; have := hsy.out; have := hd_xy.out; omega))
  have E8 := Ext.mutE E7 hm (fun n hn h1 => by have := h1.1; have := hsx.out; omega)
  clear E7
  have H8x := Lib.hid (show BrG _ (fun n => Nx ≤ n ∧ n < X + 1) X gx Z from hB)
  clear hB hm
  go_wp2_with fail
  refine (tds_step _ (fun n => Ny ≤ n ∧ n < Y + 1) Y gy k B H8y.out ho hk hn8 HH4.out HRN.out).mono ?_
  rw [HFD.out]
  rintro e v9 ⟨he, hB, hm⟩
  obtain rfl : e = .returned (.bool d) := he
  have H9x := Lib.hid (H8x.out.apart hm (fun n hn h1 h2 => by have := h1.1; have := h1.2; have := h2.1; have := h2.2; have := hsx.out; have := hsy.out; have := hd_xy.out; omega))
  have E9 := Ext.mutE E8 hm (fun n hn h1 => by have := h1.1; have := hsy.out; omega)
  clear E8
  have H9y := Lib.hid (show BrG _ (fun n => Ny ≤ n ∧ n < Y + 1) Y gy Z from hB)
  clear hB hm
  obtain ⟨C10, hC, hCb, hCz⟩ := H9x.out.br (show 0 < (Z).np by rw [show (Z).np = B.np from hnp2]; exact hn1)
  have HCi10 := Lib.hid (show (Try.prog.info? 33).map (·.size) = some C10.size by rw [hCz, Br.ok.hd hok2 |>.1]; exact size_br)
  have HC10 := Lib.hid hC
  have HCb10 := Lib.hid hCb
  have HCn10 := Lib.hid (show C10.size = 20 by rw [hCz, Br.ok.hd hok2 |>.1]; rfl)
  clear hC hCb hCz
  obtain ⟨C11, hC, hCb, hCz⟩ := H9y.out.br (show 0 < (Z).np by rw [show (Z).np = B.np from hnp2]; exact hn1)
  have HCi11 := Lib.hid (show (Try.prog.info? 33).map (·.size) = some C11.size by rw [hCz, Br.ok.hd hok2 |>.1]; exact size_br)
  have HC11 := Lib.hid hC
  have HCb11 := Lib.hid hCb
  have HCn11 := Lib.hid (show C11.size = 20 by rw [hCz, Br.ok.hd hok2 |>.1]; rfl)
  clear hC hCb hCz
  go_wp2_with (first
    | fail
    | ((with_reducible refine at_loadG 33 ?_); refine wpList_load_rowG rfl 33 _ rfl X rfl 33 C10 (0, 0) _ HC10.out Try.underlying33 rfl HCi10.out ?_)
    | ((with_reducible refine at_loadG 33 ?_); refine wpList_load_rowG rfl 33 _ rfl Y rfl 33 C11 (0, 0) _ HC11.out Try.underlying33 rfl HCi11.out ?_))
  refine (same_any C10 C11 Z _ HCb10.out HCb11.out hok2).mono ?_
  rintro e v12 ⟨rfl, hx⟩
  have E12 := Ext.trans E9 hx
  go_wp2_with fail
  all_goals
    go_ret
    exact ⟨rfl, HE0.out.trans E12⟩

end Go.Proofs.Ytnblchilgaimhaa
