/- The walk of TransWaits. No statement is proved here. -/
import Derived.Test.YtnblchilgaimhaaTrU
namespace Go.Proofs.Ytnblchilgaimhaa
open Go.RowKit Go.BigFrame Go.WideShapes Go.ChangeShapes Go.Deep
set_option linter.unusedVariables false
set_option linter.unusedSimpArgs false

set_option maxRecDepth 100000 in
set_option maxHeartbeats 2000000 in
theorem law_TransWaits {w : World} (c : Array Value) (B : Br) (hb : BrC w c B) (ho : B.ok) (i : Int) (hi : 0 ≤ i ∧ i < 256) :
    Calls Try.prog 9 #[.agg c, .int .u8 i] w fun e w' => e = .returned (.bool true) ∧ Ext w w' := by
  have hz0 : c.size = 20 := by
    obtain ⟨_, _, _, h, _⟩ := hb.facts ho.hd.1
    exact h
  have hi20 := Lib.hid (show (Try.prog.info? 33).map (·.size) = some c.size by rw [hz0]; exact size_br)
  have HCZ := Lib.hid hz0
  have hE00 : Ext w (w.alloc (.cells c 33)) := ((Ext.refl w).alloc _)
  have hL00 : (w.alloc (.cells c 33)).heap[w.heap.size]? = some (.cells c 33 (0, 0)) := heap_alloc_new _ _
  have hS00 : w.heap.size < (w.alloc (.cells c 33)).heap.size := heap_lt hL00
  have hB00 := hb.ext hE00
  clear hz0
  have HP := Lib.hid hb
  clear hb
  have HhE00 := Lib.hid hE00
  have HhL00 := Lib.hid hL00
  have HhS00 := Lib.hid hS00
  have HhB00 := Lib.hid hB00
  clear hE00 hL00 hS00 hB00
  go_enter Try.func9, Try.ntmps9
  go_wp2_with fail
  have hE00 := HhE00.out
  clear HhE00
  have hL00 := HhL00.out
  clear HhL00
  have hS00 := HhS00.out
  clear HhS00
  have hB00 := HhB00.out
  clear HhB00
  generalize (w.alloc (.cells c 33)) = W0 at *
  obtain ⟨bx, hq⟩ : ∃ n, w.heap.size = n := ⟨_, rfl⟩
  rw [hq] at hL00 hS00 ⊢
  have HE0 := Lib.hid hE00
  have HL0 := Lib.hid hL00
  have HB0 := Lib.hid hB00
  have HS0 := Lib.hid hS00
  have HWB := Lib.hid hq
  clear hE00 hL00 hB00 hS00 hq
  refine (trw_awake _).mono ?_
  rintro e v1 ⟨rfl, E1⟩
  go_wp2_with (first | fail | ((with_reducible refine at_load 33 ?_); refine wpList_load_row rfl 33 _ rfl bx rfl 33 c (0, 0) _ ((E1.block _ HS0.out).trans HL0.out) Try.underlying33 rfl hi20.out ?_))
  refine (few_any c B _ (HB0.out.ext E1) ho).mono ?_
  rintro e v2 ⟨f, rfl, hx2, hf⟩
  have E2 := Ext.trans E1 hx2
  clear E1 hx2
  cases f
  · go_wp2_with fail
    go_ret
    exact ⟨rfl, HE0.out.trans E2⟩
  have hfew := Lib.hid (hf.1 rfl)
  clear hf
  have hn1 := hfew.out.2.1
  have HN := Lib.hid (show B.np ≤ 1000 ∧ B.no ≤ 1000 ∧ B.nf ≤ 1000 by have := hfew.out; omega)
  have hn8 : B.np < 1000 := by have := hfew.out; omega
  go_wp2_with (first
    | fail
    | ((with_reducible refine at_load 33 ?_); refine wpList_load_row rfl 33 _ rfl bx rfl 33 c (0, 0) _ ((E2.block _ HS0.out).trans HL0.out) Try.underlying33 rfl hi20.out ?_))
  refine (at_any c B i _ (HB0.out.ext E2) ho hi hn1).mono ?_
  rintro e v3 ⟨rfl, hx⟩
  have E3 := Ext.trans E2 hx
  clear E2 hx
  obtain ⟨k, hk0⟩ : ∃ k, i.toNat % B.np = k := ⟨_, rfl⟩
  have hk : k < B.np := by rw [← hk0]; exact Nat.mod_lt _ hn1
  have hk8 : k < 1000 := by omega
  rw [hk0]
  clear hk0
  have h89 := Lib.hid (len89 ho hk)
  go_wp2_with (first
    | fail
    | ((with_reducible refine at_load 33 ?_); refine wpList_load_row rfl 33 _ rfl bx rfl 33 c (0, 0) _ ((E3.block _ HS0.out).trans HL0.out) Try.underlying33 rfl hi20.out ?_))
  refine (clone_any c B _ (HB0.out.ext E3) ho HN.out).mono ?_
  rintro e u4 ⟨cx, rfl, hO, hx⟩
  have Eu := Ext.trans E3 hx
  have hcxz := Lib.hid (size_z20.trans (hO.size ho).symm)
  have hcxo := Lib.hid (hO.one ho)
  have hcxi := Lib.hid (show (Try.prog.info? 33).map (·.size) = some cx.size by rw [hO.size ho]; exact size_br)
  obtain ⟨gx, hM⟩ := hO.made hx.size hn1
  obtain ⟨Nx, hN0, hsz⟩ := nameLe hx.size
  have hNE : W0.heap.size ≤ Nx := by
    rw [← hN0]
    exact E3.size
  rw [hN0] at hM
  have HMK := Lib.hid (show ∀ wx : World, wx = u4.alloc (.cells cx 33) → BrG wx (fun n => Nx ≤ n ∧ n < u4.heap.size + 1) u4.heap.size gx B ∧ Ext W0 wx from by
    rintro _ rfl
    exact ⟨hM, Eu.alloc _⟩)
  clear hM hO hx Eu hN0 E3
  obtain ⟨X, hX0⟩ : ∃ n, u4.heap.size = n := ⟨_, rfl⟩
  have HX0 := Lib.hid hX0
  rw [hX0] at HMK hsz
  have hsx := Lib.hid (show Nx ≤ X ∧ W0.heap.size ≤ Nx from ⟨hsz, hNE⟩)
  clear hsz hNE hX0
  go_wp2_with (first
    | fail
    | ((with_reducible refine at_store 33 ?_); refine wpList_store_new3 rfl rfl 33 _ _ _ rfl _ cx _ rfl ?_ rfl hcxi.out hcxz.out hcxo.out ?_; · rfl
       intro wx hwx
       have hmk := HMK.out wx hwx
       obtain ⟨hBx, E5⟩ := hmk
       have H5x := Lib.hid hBx
       rw [HX0.out]
       clear hwx hBx HMK HX0 hcxz hcxo hcxi)
    | ((with_reducible refine at_load 33 ?_); refine wpList_load_row rfl 33 _ rfl bx rfl 33 c (0, 0) _ ((E5.block _ HS0.out).trans HL0.out) Try.underlying33 rfl hi20.out ?_))
  refine (clone_any c B _ (HB0.out.ext E5) ho HN.out).mono ?_
  rintro e u6 ⟨cy, rfl, hO, hx⟩
  have Eu := Ext.trans E5 hx
  have hcyz := Lib.hid (size_z20.trans (hO.size ho).symm)
  have hcyo := Lib.hid (hO.one ho)
  have hcyi := Lib.hid (show (Try.prog.info? 33).map (·.size) = some cy.size by rw [hO.size ho]; exact size_br)
  obtain ⟨gy, hM⟩ := hO.made hx.size hn1
  have hY_x := (H5x.out.ext hx).alloc (.cells cy 33)
  obtain ⟨Ny, hN0, hsz⟩ := nameLe hx.size
  have hNE : W0.heap.size ≤ Ny := by
    rw [← hN0]
    exact E5.size
  rw [hN0] at hM
  have hd_xy := Lib.hid (show X < Ny by
    rw [← hN0]
    exact H5x.out.lt.1)
  have HMK := Lib.hid (show ∀ wx : World, wx = u6.alloc (.cells cy 33) → BrG wx (fun n => Ny ≤ n ∧ n < u6.heap.size + 1) u6.heap.size gy B ∧ Ext W0 wx ∧ BrG wx (fun n => Nx ≤ n ∧ n < X + 1) X gx B from by
    rintro _ rfl
    exact ⟨hM, Eu.alloc _, hY_x⟩)
  clear hM hO hx Eu hN0 E5 hY_x
  obtain ⟨Y, hX0⟩ : ∃ n, u6.heap.size = n := ⟨_, rfl⟩
  have HX0 := Lib.hid hX0
  rw [hX0] at HMK hsz
  have hsy := Lib.hid (show Ny ≤ Y ∧ W0.heap.size ≤ Ny from ⟨hsz, hNE⟩)
  clear hsz hNE hX0
  go_wp2_with (first
    | fail
    | ((with_reducible refine at_store 33 ?_); refine wpList_store_new3 rfl rfl 33 _ _ _ rfl _ cy _ rfl ?_ rfl hcyi.out hcyz.out hcyo.out ?_; · rfl
       intro wx hwx
       have hmk := HMK.out wx hwx
       obtain ⟨hBx, E7, hY_x⟩ := hmk
       have H7y := Lib.hid hBx
       have H7x := Lib.hid hY_x
       rw [HX0.out]
       clear hwx hBx HMK HX0 hcyz hcyo hcyi hY_x
       obtain ⟨hXlx, hglx, hnex⟩ := H7x.out.lt
       obtain ⟨capx, c17x, hcax, hcbx⟩ := H7x.out.cell17 ho
       have hfrx := H7x.out.frozen
       have p44x := (H7x.out.cellg (i := k * 89 + 44) (lt89 (N := (B).np) hk (by decide))).trans (Br.ok.gb ho (k := k) hk 44 rfl)
       obtain ⟨hXly, hgly, hney⟩ := H7y.out.lt
       obtain ⟨capy, c17y, hcay, hcby⟩ := H7y.out.cell17 ho
       have hfry := H7y.out.frozen
       have p50y := (H7y.out.cellg (i := k * 89 + 50) (lt89 (N := (B).np) hk (by decide))).trans (Br.ok.gb ho (k := k) hk 50 rfl))
    | ((with_reducible refine at_load 33 ?_)
       have hbx := H7x.out.setp (k := k) (j := 44) hk (by decide) (.bool false)
       have hmx := (Mut.refl (fun n => Nx ≤ n ∧ n < X + 1) wx).setCell (p := ⟨gx, k * 89 + 44, none⟩) (.inl H7x.out.F2) (.bool false)
       have hby1 := H7y.out.apart hmx (fun n hn h1 h2 => by have := h1.1; have := h1.2; have := h2.1; have := h2.2; have := hsx.out; have := hsy.out; have := hd_xy.out; omega)
       have hby := hby1.setp (k := k) (j := 50) hk (by decide) (.bool true)
       have hmy := (Mut.refl (fun n => Ny ≤ n ∧ n < Y + 1) (wx.setCell ⟨gx, k * 89 + 44, none⟩ (.bool false))).setCell (p := ⟨gy, k * 89 + 50, none⟩) (.inl hby1.F2) (.bool true)
       have hbx2 := hbx.apart hmy (fun n hn h1 h2 => by have := h1.1; have := h1.2; have := h2.1; have := h2.2; have := hsx.out; have := hsy.out; have := hd_xy.out; omega)
       have E8 := Ext.mutE (Ext.mutE E7 hmx (fun n hn h1 => by have := h1.1; have := hsx.out; omega)) hmy (fun n hn h1 => by have := h1.1; have := hsy.out; omega)
       have H8x := Lib.hid (show BrG _ (fun n => Nx ≤ n ∧ n < X + 1) X gx (B.setp k 44 (.bool false)) from hbx2)
       have H8y := Lib.hid (show BrG _ (fun n => Ny ≤ n ∧ n < Y + 1) Y gy (B.setp k 50 (.bool true)) from hby)
       have ok8x : Br.ok (B.setp k 44 (.bool false)) := ho.setB (k := k) hk 44 false rfl
       have ok8y : Br.ok (B.setp k 50 (.bool true)) := ho.setB (k := k) hk 50 true rfl
       clear hbx hmx hby1 hby hmy hbx2 E7
       clear c17x hfrx p44x c17y hfry p50y
       obtain ⟨C9, hC, hCb, hCz⟩ := H8x.out.br (show 0 < ((B.setp k 44 (.bool false))).np from hn1)
       have HCi9 := Lib.hid (show (Try.prog.info? 33).map (·.size) = some C9.size by rw [hCz, Br.ok.hd ok8x |>.1]; exact size_br)
       have HC9 := Lib.hid hC
       have HCb9 := Lib.hid hCb
       have HCn9 := Lib.hid (show C9.size = 20 by rw [hCz, Br.ok.hd ok8x |>.1]; rfl)
       clear hC hCb hCz
       refine wpList_load_row rfl 33 _ rfl X rfl 33 C9 (0, 0) _ HC9.out Try.underlying33 rfl HCi9.out ?_))
  refine (clone_any C9 (B.setp k 44 (.bool false)) _ HCb9.out ok8x HN.out).mono ?_
  rintro e u10 ⟨cu, rfl, hO, hx⟩
  have Eu := Ext.trans E8 hx
  have hcuz := Lib.hid (size_z20.trans (hO.size ok8x).symm)
  have hcuo := Lib.hid (hO.one ok8x)
  have hcui := Lib.hid (show (Try.prog.info? 33).map (·.size) = some cu.size by rw [hO.size ok8x]; exact size_br)
  obtain ⟨gu, hM⟩ := hO.made hx.size (show 0 < ((B.setp k 44 (.bool false))).np from hn1)
  have hY_x := (H8x.out.ext hx).alloc (.cells cu 33)
  have hY_y := (H8y.out.ext hx).alloc (.cells cu 33)
  obtain ⟨Nu, hN0, hsz⟩ := nameLe hx.size
  have hNE : W0.heap.size ≤ Nu := by
    rw [← hN0]
    exact E8.size
  rw [hN0] at hM
  have hd_xu := Lib.hid (show X < Nu by
    rw [← hN0]
    exact H8x.out.lt.1)
  have hd_yu := Lib.hid (show Y < Nu by
    rw [← hN0]
    exact H8y.out.lt.1)
  have HMK := Lib.hid (show ∀ wx : World, wx = u10.alloc (.cells cu 33) → BrG wx (fun n => Nu ≤ n ∧ n < u10.heap.size + 1) u10.heap.size gu (B.setp k 44 (.bool false)) ∧ Ext W0 wx ∧ BrG wx (fun n => Nx ≤ n ∧ n < X + 1) X gx (B.setp k 44 (.bool false)) ∧ BrG wx (fun n => Ny ≤ n ∧ n < Y + 1) Y gy (B.setp k 50 (.bool true)) from by
    rintro _ rfl
    exact ⟨hM, Eu.alloc _, hY_x, hY_y⟩)
  clear hM hO hx Eu hN0 E8 hY_x hY_y
  obtain ⟨U, hX0⟩ : ∃ n, u10.heap.size = n := ⟨_, rfl⟩
  have HX0 := Lib.hid hX0
  rw [hX0] at HMK hsz
  have hsu := Lib.hid (show Nu ≤ U ∧ W0.heap.size ≤ Nu from ⟨hsz, hNE⟩)
  clear hsz hNE hX0
  go_wp2_with (first
    | fail
    | ((with_reducible refine at_store 33 ?_); refine wpList_store_new3 rfl rfl 33 _ _ _ rfl _ cu _ rfl ?_ rfl hcui.out hcuz.out hcuo.out ?_; · rfl
       intro wx hwx
       have hmk := HMK.out wx hwx
       obtain ⟨hBx, E11, hY_x, hY_y⟩ := hmk
       have H11u := Lib.hid hBx
       have H11x := Lib.hid hY_x
       have H11y := Lib.hid hY_y
       rw [HX0.out]
       clear hwx hBx HMK HX0 hcuz hcuo hcui hY_x hY_y)
    | ((with_reducible refine at_load 33 ?_)
       obtain ⟨C12, hC, hCb, hCz⟩ := H11y.out.br (show 0 < ((B.setp k 50 (.bool true))).np from hn1)
       have HCi12 := Lib.hid (show (Try.prog.info? 33).map (·.size) = some C12.size by rw [hCz, Br.ok.hd ok8y |>.1]; exact size_br)
       have HC12 := Lib.hid hC
       have HCb12 := Lib.hid hCb
       have HCn12 := Lib.hid (show C12.size = 20 by rw [hCz, Br.ok.hd ok8y |>.1]; rfl)
       clear hC hCb hCz
       refine wpList_load_row rfl 33 _ rfl Y rfl 33 C12 (0, 0) _ HC12.out Try.underlying33 rfl HCi12.out ?_))
  refine (clone_any C12 (B.setp k 50 (.bool true)) _ HCb12.out ok8y HN.out).mono ?_
  rintro e u13 ⟨cv, rfl, hO, hx⟩
  have Eu := Ext.trans E11 hx
  have hcvz := Lib.hid (size_z20.trans (hO.size ok8y).symm)
  have hcvo := Lib.hid (hO.one ok8y)
  have hcvi := Lib.hid (show (Try.prog.info? 33).map (·.size) = some cv.size by rw [hO.size ok8y]; exact size_br)
  obtain ⟨gv, hM⟩ := hO.made hx.size (show 0 < ((B.setp k 50 (.bool true))).np from hn1)
  have hY_x := (H11x.out.ext hx).alloc (.cells cv 33)
  have hY_y := (H11y.out.ext hx).alloc (.cells cv 33)
  have hY_u := (H11u.out.ext hx).alloc (.cells cv 33)
  obtain ⟨Nv, hN0, hsz⟩ := nameLe hx.size
  have hNE : W0.heap.size ≤ Nv := by
    rw [← hN0]
    exact E11.size
  rw [hN0] at hM
  have hd_xv := Lib.hid (show X < Nv by
    rw [← hN0]
    exact H11x.out.lt.1)
  have hd_yv := Lib.hid (show Y < Nv by
    rw [← hN0]
    exact H11y.out.lt.1)
  have hd_uv := Lib.hid (show U < Nv by
    rw [← hN0]
    exact H11u.out.lt.1)
  have HMK := Lib.hid (show ∀ wx : World, wx = u13.alloc (.cells cv 33) → BrG wx (fun n => Nv ≤ n ∧ n < u13.heap.size + 1) u13.heap.size gv (B.setp k 50 (.bool true)) ∧ Ext W0 wx ∧ BrG wx (fun n => Nx ≤ n ∧ n < X + 1) X gx (B.setp k 44 (.bool false)) ∧ BrG wx (fun n => Ny ≤ n ∧ n < Y + 1) Y gy (B.setp k 50 (.bool true)) ∧ BrG wx (fun n => Nu ≤ n ∧ n < U + 1) U gu (B.setp k 44 (.bool false)) from by
    rintro _ rfl
    exact ⟨hM, Eu.alloc _, hY_x, hY_y, hY_u⟩)
  clear hM hO hx Eu hN0 E11 hY_x hY_y hY_u
  obtain ⟨V, hX0⟩ : ∃ n, u13.heap.size = n := ⟨_, rfl⟩
  have HX0 := Lib.hid hX0
  rw [hX0] at HMK hsz
  have hsv := Lib.hid (show Nv ≤ V ∧ W0.heap.size ≤ Nv from ⟨hsz, hNE⟩)
  clear hsz hNE hX0
  go_wp2_with (first
    | fail
    | ((with_reducible refine at_store 33 ?_); refine wpList_store_new3 rfl rfl 33 _ _ _ rfl _ cv _ rfl ?_ rfl hcvi.out hcvz.out hcvo.out ?_; · rfl
       intro wx hwx
       have hmk := HMK.out wx hwx
       obtain ⟨hBx, E14, hY_x, hY_y, hY_u⟩ := hmk
       have H14v := Lib.hid hBx
       have H14x := Lib.hid hY_x
       have H14y := Lib.hid hY_y
       have H14u := Lib.hid hY_u
       rw [HX0.out]
       clear hwx hBx HMK HX0 hcvz hcvo hcvi hY_x hY_y hY_u))
  refine (tr_stepL _ Nx X gx k (B.setp k 44 (.bool false)) H14x.out ok8x hk hn8 (show 0 ≤ Br.hi (B.setp k 44 (.bool false)) 4 ∧ Br.hi (B.setp k 44 (.bool false)) 4 ≤ 1000 by rw [hi_setp]; exact few_hi4 hfew.out.1)).mono ?_
  rw [wait_x h89.out]
  rintro e v15 ⟨he, hB, hm⟩
  obtain rfl : e = .returned (.bool false) := he
  have H15y := Lib.hid (H14y.out.apart hm (fun n hn h1 h2 => by have := h1.1; have := h1.2; have := h2.1; have := h2.2; have := hsx.out; have := hsy.out; have := hd_xy.out; omega))
  have H15u := Lib.hid (H14u.out.apart hm (fun n hn h1 h2 => by have := h1.1; have := h1.2; have := h2.1; have := h2.2; have := hsx.out; have := hsu.out; have := hd_xu.out; omega))
  have H15v := Lib.hid (H14v.out.apart hm (fun n hn h1 h2 => by have := h1.1; have := h1.2; have := h2.1; have := h2.2; have := hsx.out; have := hsv.out; have := hd_xv.out; omega))
  have E15 := Ext.mutE E14 hm (fun n hn h1 => by have := h1.1; have := hsx.out; omega)
  clear E14
  have H15x := Lib.hid (show BrG _ (fun n => Nx ≤ n ∧ n < X + 1) X gx (B.setp k 44 (.bool false)) from hB)
  clear hB hm
  go_wp2_with fail
  refine (tr_stepL _ Ny Y gy k (B.setp k 50 (.bool true)) H15y.out ok8y hk hn8 (show 0 ≤ Br.hi (B.setp k 50 (.bool true)) 4 ∧ Br.hi (B.setp k 50 (.bool true)) 4 ≤ 1000 by rw [hi_setp]; exact few_hi4 hfew.out.1)).mono ?_
  rw [wait_y h89.out]
  rintro e v16 ⟨he, hB, hm⟩
  obtain rfl : e = .returned (.bool false) := he
  have H16x := Lib.hid (H15x.out.apart hm (fun n hn h1 h2 => by have := h1.1; have := h1.2; have := h2.1; have := h2.2; have := hsy.out; have := hsx.out; have := hd_xy.out; omega))
  have H16u := Lib.hid (H15u.out.apart hm (fun n hn h1 h2 => by have := h1.1; have := h1.2; have := h2.1; have := h2.2; have := hsy.out; have := hsu.out; have := hd_yu.out; omega))
  have H16v := Lib.hid (H15v.out.apart hm (fun n hn h1 h2 => by have := h1.1; have := h1.2; have := h2.1; have := h2.2; have := hsy.out; have := hsv.out; have := hd_yv.out; omega))
  have E16 := Ext.mutE E15 hm (fun n hn h1 => by have := h1.1; have := hsy.out; omega)
  clear E15
  have H16y := Lib.hid (show BrG _ (fun n => Ny ≤ n ∧ n < Y + 1) Y gy (B.setp k 50 (.bool true)) from hB)
  clear hB hm
  obtain ⟨C17, hC, hCb, hCz⟩ := H16x.out.br (show 0 < ((B.setp k 44 (.bool false))).np from hn1)
  have HCi17 := Lib.hid (show (Try.prog.info? 33).map (·.size) = some C17.size by rw [hCz, Br.ok.hd ok8x |>.1]; exact size_br)
  have HC17 := Lib.hid hC
  have HCb17 := Lib.hid hCb
  have HCn17 := Lib.hid (show C17.size = 20 by rw [hCz, Br.ok.hd ok8x |>.1]; rfl)
  clear hC hCb hCz
  obtain ⟨C18, hC, hCb, hCz⟩ := H16u.out.br (show 0 < ((B.setp k 44 (.bool false))).np from hn1)
  have HCi18 := Lib.hid (show (Try.prog.info? 33).map (·.size) = some C18.size by rw [hCz, Br.ok.hd ok8x |>.1]; exact size_br)
  have HC18 := Lib.hid hC
  have HCb18 := Lib.hid hCb
  have HCn18 := Lib.hid (show C18.size = 20 by rw [hCz, Br.ok.hd ok8x |>.1]; rfl)
  clear hC hCb hCz
  obtain ⟨C19, hC, hCb, hCz⟩ := H16y.out.br (show 0 < ((B.setp k 50 (.bool true))).np from hn1)
  have HCi19 := Lib.hid (show (Try.prog.info? 33).map (·.size) = some C19.size by rw [hCz, Br.ok.hd ok8y |>.1]; exact size_br)
  have HC19 := Lib.hid hC
  have HCb19 := Lib.hid hCb
  have HCn19 := Lib.hid (show C19.size = 20 by rw [hCz, Br.ok.hd ok8y |>.1]; rfl)
  clear hC hCb hCz
  obtain ⟨C20, hC, hCb, hCz⟩ := H16v.out.br (show 0 < ((B.setp k 50 (.bool true))).np from hn1)
  have HCi20 := Lib.hid (show (Try.prog.info? 33).map (·.size) = some C20.size by rw [hCz, Br.ok.hd ok8y |>.1]; exact size_br)
  have HC20 := Lib.hid hC
  have HCb20 := Lib.hid hCb
  have HCn20 := Lib.hid (show C20.size = 20 by rw [hCz, Br.ok.hd ok8y |>.1]; rfl)
  clear hC hCb hCz
  go_wp2_with (first
    | fail
    | ((with_reducible refine at_loadG 33 ?_); refine wpList_load_rowG rfl 33 _ rfl X rfl 33 C17 (0, 0) _ HC17.out Try.underlying33 rfl HCi17.out ?_)
    | ((with_reducible refine at_loadG 33 ?_); refine wpList_load_rowG rfl 33 _ rfl U rfl 33 C18 (0, 0) _ HC18.out Try.underlying33 rfl HCi18.out ?_))
  refine (same_any C17 C18 (B.setp k 44 (.bool false)) _ HCb17.out HCb18.out ok8x).mono ?_
  rintro e v21 ⟨rfl, hx⟩
  have E21 := Ext.trans E16 hx
  have HKy := Lib.hid ((hx.block _ (heap_lt HC19.out)).trans HC19.out)
  have HKby := Lib.hid (HCb19.out.ext hx)
  have HKv := Lib.hid ((hx.block _ (heap_lt HC20.out)).trans HC20.out)
  have HKbv := Lib.hid (HCb20.out.ext hx)
  go_wp2_with (first
    | fail
    | ((with_reducible refine at_loadG 33 ?_); refine wpList_load_rowG rfl 33 _ rfl Y rfl 33 C19 (0, 0) _ HKy.out Try.underlying33 rfl HCi19.out ?_)
    | ((with_reducible refine at_loadG 33 ?_); refine wpList_load_rowG rfl 33 _ rfl V rfl 33 C20 (0, 0) _ HKv.out Try.underlying33 rfl HCi20.out ?_))
  refine (same_any C19 C20 (B.setp k 50 (.bool true)) _ HKby.out HKbv.out ok8y).mono ?_
  rintro e v22 ⟨rfl, hx⟩
  have E22 := Ext.trans E21 hx
  go_wp2_with fail
  all_goals
    go_ret
    exact ⟨rfl, HE0.out.trans E22⟩

end Go.Proofs.Ytnblchilgaimhaa
