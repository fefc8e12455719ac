/- The walk of SelSteps. No statement is proved here. -/
import Derived.Test.YthfoacgdkoijeaaSelU
import Derived.Test.YthfoacgdkoijeaaSelL
import Derived.Test.YthfoacgdkoijeaaSelE
import Derived.Test.YthfoacgdkoijeaaSelV
import Derived.Test.YthfoacgdkoijeaaVecB
namespace Go.Proofs.Ythfoacgdkoijeaa
open Go.RowKit Go.BigFrame Go.WideShapes Go.ChangeShapes Go.Deep
set_option linter.unusedVariables false
set_option linter.unusedSimpArgs false

set_option maxRecDepth 100000 in
set_option maxHeartbeats 4000000 in
theorem law_SelSteps {w : World} (c : Array Value) (B : Br) (hb : BrC w c B) (ho : B.ok) :
    Calls Try.prog 10 #[.agg c] w fun e w' => e = .returned (.bool true) ∧ Ext w w' := by
  have hz0 : c.size = 20 := by
    obtain ⟨_, _, _, h, _⟩ := hb.facts ho.hd.1
    exact h
  have hi20 := Lib.hid (show (Try.prog.info? 33).map (·.size) = some c.size by rw [hz0]; exact size_br)
  have HCZ := Lib.hid hz0
  have hE00 : Ext w (w.alloc (.cells c 33)) := ((Ext.refl w).alloc _)
  have hL00 : (w.alloc (.cells c 33)).heap[w.heap.size]? = some (.cells c 33 (0, 0)) := heap_alloc_new _ _
  have hS00 : w.heap.size < (w.alloc (.cells c 33)).heap.size := heap_lt hL00
  have hB00 := hb.ext hE00
  clear hz0
  have HP := Lib.hid hb
  clear hb
  have HhE00 := Lib.hid hE00
  have HhL00 := Lib.hid hL00
  have HhS00 := Lib.hid hS00
  have HhB00 := Lib.hid hB00
  clear hE00 hL00 hS00 hB00
  go_enter Try.func10, Try.ntmps10
  go_wp2_with fail
  have hE00 := HhE00.out
  clear HhE00
  have hL00 := HhL00.out
  clear HhL00
  have hS00 := HhS00.out
  clear HhS00
  have hB00 := HhB00.out
  clear HhB00
  generalize (w.alloc (.cells c 33)) = W0 at *
  obtain ⟨bx, hq⟩ : ∃ n, w.heap.size = n := ⟨_, rfl⟩
  rw [hq] at hL00 hS00 ⊢
  have HE0 := Lib.hid hE00
  have HL0 := Lib.hid hL00
  have HB0 := Lib.hid hB00
  have HS0 := Lib.hid hS00
  have HWB := Lib.hid hq
  clear hE00 hL00 hB00 hS00 hq
  refine (sel_awake _).mono ?_
  rintro e v1 ⟨rfl, E1⟩
  go_wp2_with (first | fail | ((with_reducible refine at_load 33 ?_); refine wpList_load_row rfl 33 _ rfl bx rfl 33 c (0, 0) _ ((E1.block _ HS0.out).trans HL0.out) Try.underlying33 rfl hi20.out ?_))
  refine (few_any c B _ (HB0.out.ext E1) ho).mono ?_
  rintro e v2 ⟨f, rfl, hx2, hf⟩
  have E2 := Ext.trans E1 hx2
  clear E1 hx2
  cases f
  · go_wp2_with fail
    go_ret
    exact ⟨rfl, HE0.out.trans E2⟩
  have hfew := Lib.hid (hf.1 rfl)
  clear hf
  have hn1 := hfew.out.2.1
  have HN := Lib.hid (show B.np ≤ 1000 ∧ B.no ≤ 1000 ∧ B.nf ≤ 1000 by have := hfew.out; omega)
  have hn8 : B.np < 1000 := by have := hfew.out; omega
  have HR78 := Lib.hid (show ∀ k, k < B.np → 0 ≤ B.gi k 78 ∧ B.gi k 78 ≤ 65535 from fun k hk => ⟨(hfew.out.1.2 k hk).2.1.1, (hfew.out.1.2 k hk).2.1.2.1⟩)
  obtain ⟨VR, hVR⟩ : ∃ v, rootF B B.np = v := ⟨_, rfl⟩
  obtain ⟨vr, vc, vb, vp, vx, va⟩ := VR
  have HVR := Lib.hid hVR
  clear hVR
  have hzv := zero_vec
  go_wp2_with (first
    | fail
    | ((with_reducible refine at_load 33 ?_); refine wpList_load_row rfl 33 _ rfl bx rfl 33 c (0, 0) _ ((E2.block _ HS0.out).trans HL0.out) Try.underlying33 rfl hi20.out ?_))
  refine (root_any c B _ (HB0.out.ext E2) ho hn8).mono ?_
  rw [HVR.out]
  rintro e v3 ⟨rfl, hx⟩
  dsimp only [R5.cells]
  have E3 := Ext.trans E2 hx
  clear hx E2
  go_wp2_with (first
    | fail
    | ((with_reducible refine at_alloc 28 ?_); refine al_zero rfl 28 rfl VZ zero_vec ?_
       intro N0 z4 hq hs hx
       have HN := Lib.hid hq
       have hE_z : Ext v3 z4 := hx
       have hNs : v3.heap.size ≤ N0 := by omega
       clear hq hs hx)
    | ((with_reducible refine at_store 28 ?_); refine st_at rfl rfl 28 _ _ rfl N0 0 _ #[.int .u64 vr, .int .u32 vc, .int .u64 vb, .int .u16 vp, .int .u16 vx] _ #[.int .u64 vr, .int .u32 vc, .int .u64 vb, .int .u16 vp, .int .u16 vx] _ rfl rfl rfl HN.out (by exact (by decide : 0 + 5 ≤ 5)) (by kernel_rfl) rfl rfl ?_
       intro y4 hq hm
       have HV0 := Lib.hid hq
       have hE_y : Ext v3 y4 := Ext.mutE hE_z hm (fun n hn h => by have h2 : n = N0 := h; omega)
       have E4 := Ext.trans E3 hE_y
       clear hq hm hE_y hE_z HN E3)
    | ((with_reducible refine at_load 33 ?_); refine wpList_load_row rfl 33 _ rfl bx rfl 33 c (0, 0) _ ((E4.block _ HS0.out).trans HL0.out) Try.underlying33 rfl hi20.out ?_))
  refine (droot_any c B _ (HB0.out.ext E4) ho hn8).mono ?_
  rw [HVR.out]
  rintro e v5 ⟨rfl, hx⟩
  dsimp only [R5.cells]
  have E5 := Ext.trans E4 hx
  have HV0b := Lib.hid ((hx.block _ (heap_lt HV0.out)).trans HV0.out)
  clear HV0
  clear hx E4
  go_wp2_with (first
    | fail
    | ((with_reducible refine at_alloc 28 ?_); refine al_zero rfl 28 rfl VZ zero_vec ?_
       intro N1 z6 hq hs hx
       have HN := Lib.hid hq
       have hE_z : Ext v5 z6 := hx
       have hNs : v5.heap.size ≤ N1 := by omega
       have HV0c := Lib.hid ((hx.block _ (heap_lt HV0b.out)).trans HV0b.out)
       have hN01 : N0 ≠ N1 := by have := heap_lt HV0b.out; omega
       clear hq hs hx)
    | ((with_reducible refine at_store 28 ?_); refine st_at rfl rfl 28 _ _ rfl N1 0 _ #[.int .u64 vr, .int .u32 vc, .int .u64 vb, .int .u16 vp, .int .u16 vx] _ #[.int .u64 vr, .int .u32 vc, .int .u64 vb, .int .u16 vp, .int .u16 vx] _ rfl rfl rfl HN.out (by exact (by decide : 0 + 5 ≤ 5)) (by kernel_rfl) rfl rfl ?_
       intro y6 hq hm
       have HV1 := Lib.hid hq
       have hE_y : Ext v5 y6 := Ext.mutE hE_z hm (fun n hn h => by have h2 : n = N1 := h; omega)
       have E6 := Ext.trans E5 hE_y
       have HV0 := Lib.hid ((hm.heap (heap_lt HV0c.out) (show ¬ N0 = N1 from hN01)).trans HV0c.out)
       clear hq hm hE_y hE_z HN E5 HV0b HV0c
       have QE := Lib.hid (HE0.out.trans E6)
       have QL := Lib.hid ((E6.block _ HS0.out).trans HL0.out)
       have QB := Lib.hid (HB0.out.ext E6)
       have QS := Lib.hid (Nat.lt_of_lt_of_le HS0.out E6.size)
       have E99 : Ext y6 y6 := Ext.refl _
       clear HE0 HL0 HB0 HS0 E6)
    | ((with_reducible refine at_load 33 ?_); refine wpList_load_row rfl 33 _ rfl bx rfl 33 c (0, 0) _ ((E99.block _ QS.out).trans QL.out) Try.underlying33 rfl hi20.out ?_))
  refine (clone_any c B _ (QB.out.ext E99) ho HN.out).mono ?_
  rintro e u7 ⟨cx, rfl, hO, hx⟩
  have Eu := Ext.trans E99 hx
  have hcxz := Lib.hid (size_z20.trans (hO.size ho).symm)
  have hcxo := Lib.hid (hO.one ho)
  have hcxi := Lib.hid (show (Try.prog.info? 33).map (·.size) = some cx.size by rw [hO.size ho]; exact size_br)
  obtain ⟨gx, hM⟩ := hO.made hx.size hn1
  obtain ⟨Nx, hN0, hsz⟩ := nameLe hx.size
  have hNE : y6.heap.size ≤ Nx := by
    rw [← hN0]
    exact E99.size
  rw [hN0] at hM
  have HMK := Lib.hid (show ∀ wx : World, wx = u7.alloc (.cells cx 33) → BrG wx (fun n => Nx ≤ n ∧ n < u7.heap.size + 1) u7.heap.size gx B ∧ Ext y6 wx from by
    rintro _ rfl
    exact ⟨hM, Eu.alloc _⟩)
  clear hM hO hx Eu hN0 E99
  obtain ⟨X, hX0⟩ : ∃ n, u7.heap.size = n := ⟨_, rfl⟩
  have HX0 := Lib.hid hX0
  rw [hX0] at HMK hsz
  have hsx := Lib.hid (show Nx ≤ X ∧ y6.heap.size ≤ Nx from ⟨hsz, hNE⟩)
  clear hsz hNE hX0
  go_wp2_with (first
    | fail
    | ((with_reducible refine at_store 33 ?_); refine wpList_store_new3 rfl rfl 33 _ _ _ rfl _ cx _ rfl ?_ rfl hcxi.out hcxz.out hcxo.out ?_; · rfl
       intro wx hwx
       have hmk := HMK.out wx hwx
       obtain ⟨hBx, E8⟩ := hmk
       have H8x := Lib.hid hBx
       rw [HX0.out]
       clear hwx hBx HMK HX0 hcxz hcxo hcxi)
    | ((with_reducible refine at_load 33 ?_); refine wpList_load_row rfl 33 _ rfl bx rfl 33 c (0, 0) _ ((E8.block _ QS.out).trans QL.out) Try.underlying33 rfl hi20.out ?_))
  refine (clone_any c B _ (QB.out.ext E8) ho HN.out).mono ?_
  rintro e u9 ⟨cy, rfl, hO, hx⟩
  have Eu := Ext.trans E8 hx
  have hcyz := Lib.hid (size_z20.trans (hO.size ho).symm)
  have hcyo := Lib.hid (hO.one ho)
  have hcyi := Lib.hid (show (Try.prog.info? 33).map (·.size) = some cy.size by rw [hO.size ho]; exact size_br)
  obtain ⟨gy, hM⟩ := hO.made hx.size hn1
  have hY_x := (H8x.out.ext hx).alloc (.cells cy 33)
  obtain ⟨Ny, hN0, hsz⟩ := nameLe hx.size
  have hNE : y6.heap.size ≤ Ny := by
    rw [← hN0]
    exact E8.size
  rw [hN0] at hM
  have hd_xy := Lib.hid (show X < Ny by
    rw [← hN0]
    exact H8x.out.lt.1)
  have HMK := Lib.hid (show ∀ wx : World, wx = u9.alloc (.cells cy 33) → BrG wx (fun n => Ny ≤ n ∧ n < u9.heap.size + 1) u9.heap.size gy B ∧ Ext y6 wx ∧ BrG wx (fun n => Nx ≤ n ∧ n < X + 1) X gx B from by
    rintro _ rfl
    exact ⟨hM, Eu.alloc _, hY_x⟩)
  clear hM hO hx Eu hN0 E8 hY_x
  obtain ⟨Y, hX0⟩ : ∃ n, u9.heap.size = n := ⟨_, rfl⟩
  have HX0 := Lib.hid hX0
  rw [hX0] at HMK hsz
  have hsy := Lib.hid (show Ny ≤ Y ∧ y6.heap.size ≤ Ny from ⟨hsz, hNE⟩)
  clear hsz hNE hX0
  go_wp2_with (first
    | fail
    | ((with_reducible refine at_store 33 ?_); refine wpList_store_new3 rfl rfl 33 _ _ _ rfl _ cy _ rfl ?_ rfl hcyi.out hcyz.out hcyo.out ?_; · rfl
       intro wx hwx
       have hmk := HMK.out wx hwx
       obtain ⟨hBx, E10, hY_x⟩ := hmk
       have H10y := Lib.hid hBx
       have H10x := Lib.hid hY_x
       rw [HX0.out]
       clear hwx hBx HMK HX0 hcyz hcyo hcyi hY_x))
  have okF : Br.ok (selF B).2 := selF_ok ho hn8 HR78.out
  have hnp2 : (selF B).2.np = B.np := selF_np B
  obtain ⟨d, hd⟩ : ∃ d, (selF B).1 = d := ⟨_, rfl⟩
  obtain ⟨Z, hZ⟩ : ∃ Z, (selF B).2 = Z := ⟨_, rfl⟩
  rw [hZ] at okF hnp2
  have HFD := Lib.hid (show selF B = (d, Z) by rw [← hd, ← hZ])
  clear hd hZ
  refine (sel_step _ (fun n => Nx ≤ n ∧ n < X + 1) X gx B H10x.out ho hn8 hn1 HR78.out).mono ?_
  rw [HFD.out]
  rintro e v11 ⟨he, hB, hm⟩
  obtain rfl : e = .returned (.bool d) := he
  have H11y := Lib.hid (H10y.out.apart hm (fun n hn h1 h2 => by have := h1.1; have := h1.2; have := h2.1; have := h2.2; have := hsx.out; have := hsy.out; have := hd_xy.out; omega))
  have E11 := Ext.mutE E10 hm (fun n hn h1 => by have := h1.1; have := hsx.out; omega)
  clear E10
  have H11x := Lib.hid (show BrG _ (fun n => Nx ≤ n ∧ n < X + 1) X gx Z from hB)
  clear hB hm
  go_wp2_with fail
  refine (dsel_step _ (fun n => Ny ≤ n ∧ n < Y + 1) Y gy B H11y.out ho hn8 hn1 HR78.out).mono ?_
  rw [HFD.out]
  rintro e v12 ⟨he, hB, hm⟩
  obtain rfl : e = .returned (.bool d) := he
  have H12x := Lib.hid (H11x.out.apart hm (fun n hn h1 h2 => by have := h1.1; have := h1.2; have := h2.1; have := h2.2; have := hsy.out; have := hsx.out; have := hd_xy.out; omega))
  have E12 := Ext.mutE E11 hm (fun n hn h1 => by have := h1.1; have := hsy.out; omega)
  clear E11
  have H12y := Lib.hid (show BrG _ (fun n => Ny ≤ n ∧ n < Y + 1) Y gy Z from hB)
  clear hB hm
  obtain ⟨C13, hC, hCb, hCz⟩ := H12x.out.br (show 0 < (Z).np by rw [show (Z).np = B.np from hnp2]; exact hn1)
  have HCi13 := Lib.hid (show (Try.prog.info? 33).map (·.size) = some C13.size by rw [hCz, Br.ok.hd okF |>.1]; exact size_br)
  have HC13 := Lib.hid hC
  have HCb13 := Lib.hid hCb
  have HCn13 := Lib.hid (show C13.size = 20 by rw [hCz, Br.ok.hd okF |>.1]; rfl)
  clear hC hCb hCz
  obtain ⟨C14, hC, hCb, hCz⟩ := H12y.out.br (show 0 < (Z).np by rw [show (Z).np = B.np from hnp2]; exact hn1)
  have HCi14 := Lib.hid (show (Try.prog.info? 33).map (·.size) = some C14.size by rw [hCz, Br.ok.hd okF |>.1]; exact size_br)
  have HC14 := Lib.hid hC
  have HCb14 := Lib.hid hCb
  have HCn14 := Lib.hid (show C14.size = 20 by rw [hCz, Br.ok.hd okF |>.1]; rfl)
  clear hC hCb hCz
  have he := eq_vec
  go_wp2_with (first
    | fail
    | ((with_reducible refine at_loadG 28 ?_); refine wpList_load_rowG rfl 28 _ rfl N0 rfl 28 #[.int .u64 vr, .int .u32 vc, .int .u64 vb, .int .u16 vp, .int .u16 vx] (0, 0) _ ((E12.block _ (heap_lt HV0.out)).trans HV0.out) Try.underlying28 rfl (by kernel_rfl) ?_)
    | ((with_reducible refine at_loadG 28 ?_); refine wpList_load_rowG rfl 28 _ rfl N1 rfl 28 #[.int .u64 vr, .int .u32 vc, .int .u64 vb, .int .u16 vp, .int .u16 vx] (0, 0) _ ((E12.block _ (heap_lt HV1.out)).trans HV1.out) Try.underlying28 rfl (by kernel_rfl) ?_)
    | ((with_reducible refine at_loadG 33 ?_); refine wpList_load_rowG rfl 33 _ rfl X rfl 33 C13 (0, 0) _ HC13.out Try.underlying33 rfl HCi13.out ?_)
    | ((with_reducible refine at_loadG 33 ?_); refine wpList_load_rowG rfl 33 _ rfl Y rfl 33 C14 (0, 0) _ HC14.out Try.underlying33 rfl HCi14.out ?_))
  refine (same_any C13 C14 Z _ HCb13.out HCb14.out okF).mono ?_
  rintro e v15 ⟨rfl, hx⟩
  have E15 := Ext.trans E12 hx
  go_wp2_with fail
  all_goals
    go_ret
    exact ⟨rfl, QE.out.trans E15⟩

end Go.Proofs.Ythfoacgdkoijeaa
