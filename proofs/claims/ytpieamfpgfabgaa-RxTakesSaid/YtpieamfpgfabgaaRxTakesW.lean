/- The walk of RxTakes. No statement is proved here. -/
import Derived.Test.YtpieamfpgfabgaaRxM
namespace Go.Proofs.Ytpieamfpgfabgaa
open Go.RowKit Go.BigFrame Go.WideShapes Go.ChangeShapes Go.Deep
set_option linter.unusedVariables false

set_option maxRecDepth 100000 in
set_option maxHeartbeats 2000000 in
theorem law_RxTakes {w : World} (c : Array Value) (B : Br) (hb : BrC w c B) (ho : B.ok) (i : Int) (hi : -9223372036854775808 ≤ i ∧ i ≤ 9223372036854775807) (m : List Value) (hm : Typed ML m) :
    Calls Try.prog 3 #[.agg c, .int .i64 i, .agg m.toArray] w fun e w' => e = .returned (.bool true) ∧ Ext w w' := by
  have hmi := Lib.hid (show (Try.prog.info? 35).map (·.size) = some m.toArray.size by rw [List.size_toArray, hm.1]; exact size_msg)
  have HTM := Lib.hid hm
  clear hm
  have hz0 : c.size = 20 := by
    obtain ⟨_, _, _, h, _⟩ := hb.facts ho.hd.1
    exact h
  have hi20 := Lib.hid (show (Try.prog.info? 33).map (·.size) = some c.size by rw [hz0]; exact size_br)
  have HCZ := Lib.hid hz0
  have hE00 : Ext w ((w.alloc (.cells c 33)).alloc (.cells m.toArray 35)) := (((Ext.refl w).alloc _).alloc _)
  have hL00 : ((w.alloc (.cells c 33)).alloc (.cells m.toArray 35)).heap[w.heap.size]? = some (.cells c 33 (0, 0)) := (heap_alloc_old _ _ (by simp)).trans (heap_alloc_new _ _)
  have hL01 : ((w.alloc (.cells c 33)).alloc (.cells m.toArray 35)).heap[w.heap.size + 1]? = some (.cells m.toArray 35 (0, 0)) := heap_alloc2_new _ _ _
  have hS00 : w.heap.size < ((w.alloc (.cells c 33)).alloc (.cells m.toArray 35)).heap.size := heap_lt hL00
  have hB00 := hb.ext hE00
  clear hz0
  have HP := Lib.hid hb
  clear hb
  have HhE00 := Lib.hid hE00
  have HhL00 := Lib.hid hL00
  have HhS00 := Lib.hid hS00
  have HhB00 := Lib.hid hB00
  have HhL01 := Lib.hid hL01
  clear hE00 hL00 hS00 hB00 hL01
  go_enter Try.func3, Try.ntmps3
  go_wp2_with fail
  have hE00 := HhE00.out
  clear HhE00
  have hL00 := HhL00.out
  clear HhL00
  have hS00 := HhS00.out
  clear HhS00
  have hB00 := HhB00.out
  clear HhB00
  have hL01 := HhL01.out
  clear HhL01
  generalize ((w.alloc (.cells c 33)).alloc (.cells m.toArray 35)) = W0 at *
  obtain ⟨mx, hq1⟩ : ∃ n, w.heap.size + 1 = n := ⟨_, rfl⟩
  rw [hq1] at hL01 ⊢
  clear hq1
  have HL_mx := Lib.hid hL01
  clear hL01
  obtain ⟨bx, hq⟩ : ∃ n, w.heap.size = n := ⟨_, rfl⟩
  rw [hq] at hL00 hS00 ⊢
  have HE0 := Lib.hid hE00
  have HL0 := Lib.hid hL00
  have HB0 := Lib.hid hB00
  have HS0 := Lib.hid hS00
  have HWB := Lib.hid hq
  clear hE00 hL00 hB00 hS00 hq
  refine (rxw_awake _).mono ?_
  rintro e v1 ⟨rfl, E1⟩
  go_wp2_with (first | fail | ((with_reducible refine at_load 33 ?_); refine wpList_load_row rfl 33 _ rfl bx rfl 33 c (0, 0) _ ((E1.block _ HS0.out).trans HL0.out) Try.underlying33 rfl hi20.out ?_))
  refine (few_any c B _ (HB0.out.ext E1) ho).mono ?_
  rintro e v2 ⟨f, rfl, hx2, hf⟩
  have E2 := Ext.trans E1 hx2
  clear E1 hx2
  cases f
  · go_wp2_with fail
    go_ret
    exact ⟨rfl, HE0.out.trans E2⟩
  have hfew := Lib.hid (hf.1 rfl)
  clear hf
  have hn1 := hfew.out.2.1
  have HN := Lib.hid (show B.np ≤ 1000 ∧ B.no ≤ 1000 ∧ B.nf ≤ 1000 by have := hfew.out; omega)
  have hn8 : B.np < 1000 := by have := hfew.out; omega
  go_wp2_with (first
    | fail
    | ((with_reducible refine at_load 33 ?_); refine wpList_load_row rfl 33 _ rfl bx rfl 33 c (0, 0) _ ((E2.block _ HS0.out).trans HL0.out) Try.underlying33 rfl hi20.out ?_))
  refine (clone_any c B _ (HB0.out.ext E2) ho HN.out).mono ?_
  rintro e u3 ⟨cx, rfl, hO, hx⟩
  have Eu := Ext.trans E2 hx
  have hcxz := Lib.hid (size_z20.trans (hO.size ho).symm)
  have hcxo := Lib.hid (hO.one ho)
  have hcxi := Lib.hid (show (Try.prog.info? 33).map (·.size) = some cx.size by rw [hO.size ho]; exact size_br)
  obtain ⟨gx, hM⟩ := hO.made hx.size hn1
  obtain ⟨Nx, hN0, hsz⟩ := nameLe hx.size
  have hNE : W0.heap.size ≤ Nx := by
    rw [← hN0]
    exact E2.size
  rw [hN0] at hM
  have HMK := Lib.hid (show ∀ wx : World, wx = u3.alloc (.cells cx 33) → BrG wx (fun n => Nx ≤ n ∧ n < u3.heap.size + 1) u3.heap.size gx B ∧ Ext W0 wx from by
    rintro _ rfl
    exact ⟨hM, Eu.alloc _⟩)
  clear hM hO hx Eu hN0 E2
  obtain ⟨X, hX0⟩ : ∃ n, u3.heap.size = n := ⟨_, rfl⟩
  have HX0 := Lib.hid hX0
  rw [hX0] at HMK hsz
  have hsx := Lib.hid (show Nx ≤ X ∧ W0.heap.size ≤ Nx from ⟨hsz, hNE⟩)
  clear hsz hNE hX0
  go_wp2_with (first
    | fail
    | ((with_reducible refine at_store 33 ?_); refine wpList_store_new3 rfl rfl 33 _ _ _ rfl _ cx _ rfl ?_ rfl hcxi.out hcxz.out hcxo.out ?_; · rfl
       intro wx hwx
       have hmk := HMK.out wx hwx
       obtain ⟨hBx, E4⟩ := hmk
       have H4x := Lib.hid hBx
       rw [HX0.out]
       clear hwx hBx HMK HX0 hcxz hcxo hcxi)
    | ((with_reducible refine at_load 33 ?_); refine wpList_load_row rfl 33 _ rfl bx rfl 33 c (0, 0) _ ((E4.block _ HS0.out).trans HL0.out) Try.underlying33 rfl hi20.out ?_))
  refine (clone_any c B _ (HB0.out.ext E4) ho HN.out).mono ?_
  rintro e u5 ⟨cy, rfl, hO, hx⟩
  have Eu := Ext.trans E4 hx
  have hcyz := Lib.hid (size_z20.trans (hO.size ho).symm)
  have hcyo := Lib.hid (hO.one ho)
  have hcyi := Lib.hid (show (Try.prog.info? 33).map (·.size) = some cy.size by rw [hO.size ho]; exact size_br)
  obtain ⟨gy, hM⟩ := hO.made hx.size hn1
  have hY_x := (H4x.out.ext hx).alloc (.cells cy 33)
  obtain ⟨Ny, hN0, hsz⟩ := nameLe hx.size
  have hNE : W0.heap.size ≤ Ny := by
    rw [← hN0]
    exact E4.size
  rw [hN0] at hM
  have hd_xy := Lib.hid (show X < Ny by
    rw [← hN0]
    exact H4x.out.lt.1)
  have HMK := Lib.hid (show ∀ wx : World, wx = u5.alloc (.cells cy 33) → BrG wx (fun n => Ny ≤ n ∧ n < u5.heap.size + 1) u5.heap.size gy B ∧ Ext W0 wx ∧ BrG wx (fun n => Nx ≤ n ∧ n < X + 1) X gx B from by
    rintro _ rfl
    exact ⟨hM, Eu.alloc _, hY_x⟩)
  clear hM hO hx Eu hN0 E4 hY_x
  obtain ⟨Y, hX0⟩ : ∃ n, u5.heap.size = n := ⟨_, rfl⟩
  have HX0 := Lib.hid hX0
  rw [hX0] at HMK hsz
  have hsy := Lib.hid (show Ny ≤ Y ∧ W0.heap.size ≤ Ny from ⟨hsz, hNE⟩)
  clear hsz hNE hX0
  go_wp2_with (first
    | fail
    | ((with_reducible refine at_store 33 ?_); refine wpList_store_new3 rfl rfl 33 _ _ _ rfl _ cy _ rfl ?_ rfl hcyi.out hcyz.out hcyo.out ?_; · rfl
       intro wx hwx
       have hmk := HMK.out wx hwx
       obtain ⟨hBx, E6, hY_x⟩ := hmk
       have H6y := Lib.hid hBx
       have H6x := Lib.hid hY_x
       rw [HX0.out]
       clear hwx hBx HMK HX0 hcyz hcyo hcyi hY_x)
    | ((with_reducible refine at_load 35 ?_); refine wpList_load_row rfl 35 _ rfl mx rfl 35 m.toArray (0, 0) _ ((E6.block _ (heap_lt HL_mx.out)).trans HL_mx.out) Try.underlying35 rfl hmi.out ?_))
  refine (rxt_take _ (fun n => Nx ≤ n ∧ n < X + 1) X gx B H6x.out ho m HTM.out hn8 i).mono ?_
  rintro e v7 ⟨he, hB, hm⟩
  obtain rfl : e = .returned (.bool (takeF B i m).1) := he
  have ok7 : Br.ok (takeF B i m).2 := by
    have := takeF_ok ho i HTM.out
    exact this
  have H7y := Lib.hid (H6y.out.apart hm (fun n hn h1 h2 => by have := h1.1; have := h1.2; have := h2.1; have := h2.2; have := hsx.out; have := hsy.out; have := hd_xy.out; omega))
  have E7 := Ext.mutE E6 hm (fun n hn h1 => by have := h1.1; have := hsx.out; omega)
  clear E6
  have H7x := Lib.hid (show BrG _ (fun n => Nx ≤ n ∧ n < X + 1) X gx (takeF B i m).2 from hB)
  clear hB hm
  go_wp2_with (first
    | fail
    | ((with_reducible refine at_load 35 ?_); refine wpList_load_row rfl 35 _ rfl mx rfl 35 m.toArray (0, 0) _ ((E7.block _ (heap_lt HL_mx.out)).trans HL_mx.out) Try.underlying35 rfl hmi.out ?_))
  refine (rxd_take _ (fun n => Ny ≤ n ∧ n < Y + 1) Y gy B H7y.out ho m HTM.out hn8 i).mono ?_
  rintro e v8 ⟨he, hB, hm⟩
  obtain rfl : e = .returned (.bool (takeF B i m).1) := he
  have ok8 : Br.ok (takeF B i m).2 := by
    have := takeF_ok ho i HTM.out
    exact this
  have H8x := Lib.hid (H7x.out.apart hm (fun n hn h1 h2 => by have := h1.1; have := h1.2; have := h2.1; have := h2.2; have := hsy.out; have := hsx.out; have := hd_xy.out; omega))
  have E8 := Ext.mutE E7 hm (fun n hn h1 => by have := h1.1; have := hsy.out; omega)
  clear E7
  have H8y := Lib.hid (show BrG _ (fun n => Ny ≤ n ∧ n < Y + 1) Y gy (takeF B i m).2 from hB)
  clear hB hm
  obtain ⟨C9, hC, hCb, hCz⟩ := H8x.out.br (show 0 < ((takeF B i m).2).np by rw [show ((takeF B i m).2).np = B.np from takeF_np B i m]; exact hn1)
  have HCi9 := Lib.hid (show (Try.prog.info? 33).map (·.size) = some C9.size by rw [hCz, Br.ok.hd ok7 |>.1]; exact size_br)
  have HC9 := Lib.hid hC
  have HCb9 := Lib.hid hCb
  have HCn9 := Lib.hid (show C9.size = 20 by rw [hCz, Br.ok.hd ok7 |>.1]; rfl)
  clear hC hCb hCz
  obtain ⟨C10, hC, hCb, hCz⟩ := H8y.out.br (show 0 < ((takeF B i m).2).np by rw [show ((takeF B i m).2).np = B.np from takeF_np B i m]; exact hn1)
  have HCi10 := Lib.hid (show (Try.prog.info? 33).map (·.size) = some C10.size by rw [hCz, Br.ok.hd ok8 |>.1]; exact size_br)
  have HC10 := Lib.hid hC
  have HCb10 := Lib.hid hCb
  have HCn10 := Lib.hid (show C10.size = 20 by rw [hCz, Br.ok.hd ok8 |>.1]; rfl)
  clear hC hCb hCz
  go_wp2_with (first
    | fail
    | ((with_reducible refine at_loadG 33 ?_); refine wpList_load_rowG rfl 33 _ rfl X rfl 33 C9 (0, 0) _ HC9.out Try.underlying33 rfl HCi9.out ?_)
    | ((with_reducible refine at_loadG 33 ?_); refine wpList_load_rowG rfl 33 _ rfl Y rfl 33 C10 (0, 0) _ HC10.out Try.underlying33 rfl HCi10.out ?_))
  refine (same_any C9 C10 (takeF B i m).2 _ HCb9.out HCb10.out ok7).mono ?_
  rintro e v11 ⟨rfl, hx⟩
  have E11 := Ext.trans E8 hx
  go_wp2_with fail
  all_goals
    go_ret
    exact ⟨rfl, HE0.out.trans E11⟩

end Go.Proofs.Ytpieamfpgfabgaa
