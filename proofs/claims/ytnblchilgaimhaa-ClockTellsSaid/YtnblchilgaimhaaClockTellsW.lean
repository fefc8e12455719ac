/- The walk of ClockTells. No statement is proved here. -/
import Derived.Test.YtnblchilgaimhaaClkM
namespace Go.Proofs.Ytnblchilgaimhaa
open Go.RowKit Go.BigFrame Go.WideShapes Go.ChangeShapes Go.Deep
set_option linter.unusedVariables false

set_option maxRecDepth 100000 in
set_option maxHeartbeats 2000000 in
theorem law_ClockTells {w : World} (c : Array Value) (B : Br) (hb : BrC w c B) (ho : B.ok) (i : Int) (hi : 0 ≤ i ∧ i < 256) :
    Calls Try.prog 4 #[.agg c, .int .u8 i] w fun e w' => e = .returned (.bool true) ∧ Ext w w' := by
  have hz0 : c.size = 20 := by
    obtain ⟨_, _, _, h, _⟩ := hb.facts ho.hd.1
    exact h
  have hi20 := Lib.hid (show (Try.prog.info? 33).map (·.size) = some c.size by rw [hz0]; exact size_br)
  have HCZ := Lib.hid hz0
  have hE00 : Ext w (w.alloc (.cells c 33)) := ((Ext.refl w).alloc _)
  have hL00 : (w.alloc (.cells c 33)).heap[w.heap.size]? = some (.cells c 33 (0, 0)) := heap_alloc_new _ _
  have hS00 : w.heap.size < (w.alloc (.cells c 33)).heap.size := heap_lt hL00
  have hB00 := hb.ext hE00
  clear hz0
  have HP := Lib.hid hb
  clear hb
  have HhE00 := Lib.hid hE00
  have HhL00 := Lib.hid hL00
  have HhS00 := Lib.hid hS00
  have HhB00 := Lib.hid hB00
  clear hE00 hL00 hS00 hB00
  go_enter Try.func4, Try.ntmps4
  go_wp2_with fail
  have hE00 := HhE00.out
  clear HhE00
  have hL00 := HhL00.out
  clear HhL00
  have hS00 := HhS00.out
  clear HhS00
  have hB00 := HhB00.out
  clear HhB00
  generalize (w.alloc (.cells c 33)) = W0 at *
  obtain ⟨bx, hq⟩ : ∃ n, w.heap.size = n := ⟨_, rfl⟩
  rw [hq] at hL00 hS00 ⊢
  have HE0 := Lib.hid hE00
  have HL0 := Lib.hid hL00
  have HB0 := Lib.hid hB00
  have HS0 := Lib.hid hS00
  have HWB := Lib.hid hq
  clear hE00 hL00 hB00 hS00 hq
  refine (ckw_awake _).mono ?_
  rintro e v1 ⟨rfl, E1⟩
  go_wp2_with (first | fail | ((with_reducible refine at_load 33 ?_); refine wpList_load_row rfl 33 _ rfl bx rfl 33 c (0, 0) _ ((E1.block _ HS0.out).trans HL0.out) Try.underlying33 rfl hi20.out ?_))
  refine (few_any c B _ (HB0.out.ext E1) ho).mono ?_
  rintro e v2 ⟨f, rfl, hx2, hf⟩
  have E2 := Ext.trans E1 hx2
  clear E1 hx2
  cases f
  · go_wp2_with fail
    go_ret
    exact ⟨rfl, HE0.out.trans E2⟩
  have hfew := Lib.hid (hf.1 rfl)
  clear hf
  have hn1 := hfew.out.2.1
  have HN := Lib.hid (show B.np ≤ 1000 ∧ B.no ≤ 1000 ∧ B.nf ≤ 1000 by have := hfew.out; omega)
  have hn8 : B.np < 1000 := by have := hfew.out; omega
  go_wp2_with (first
    | fail
    | ((with_reducible refine at_load 33 ?_); refine wpList_load_row rfl 33 _ rfl bx rfl 33 c (0, 0) _ ((E2.block _ HS0.out).trans HL0.out) Try.underlying33 rfl hi20.out ?_))
  refine (at_any c B i _ (HB0.out.ext E2) ho hi hn1).mono ?_
  rintro e v3 ⟨rfl, hx⟩
  have E3 := Ext.trans E2 hx
  clear E2 hx
  obtain ⟨k, hk0⟩ : ∃ k, i.toNat % B.np = k := ⟨_, rfl⟩
  have hk : k < B.np := by rw [← hk0]; exact Nat.mod_lt _ hn1
  have hk8 : k < 1000 := by omega
  rw [hk0]
  clear hk0
  have h89 := Lib.hid (len89 ho hk)
  go_wp2_with (first
    | fail
    | ((with_reducible refine at_load 33 ?_); refine wpList_load_row rfl 33 _ rfl bx rfl 33 c (0, 0) _ ((E3.block _ HS0.out).trans HL0.out) Try.underlying33 rfl hi20.out ?_))
  refine (clone_any c B _ (HB0.out.ext E3) ho HN.out).mono ?_
  rintro e u4 ⟨cx, rfl, hO, hx⟩
  have Eu := Ext.trans E3 hx
  have hcxz := Lib.hid (size_z20.trans (hO.size ho).symm)
  have hcxo := Lib.hid (hO.one ho)
  have hcxi := Lib.hid (show (Try.prog.info? 33).map (·.size) = some cx.size by rw [hO.size ho]; exact size_br)
  obtain ⟨gx, hM⟩ := hO.made hx.size hn1
  obtain ⟨Nx, hN0, hsz⟩ := nameLe hx.size
  have hNE : W0.heap.size ≤ Nx := by
    rw [← hN0]
    exact E3.size
  rw [hN0] at hM
  have HMK := Lib.hid (show ∀ wx : World, wx = u4.alloc (.cells cx 33) → BrG wx (fun n => Nx ≤ n ∧ n < u4.heap.size + 1) u4.heap.size gx B ∧ Ext W0 wx from by
    rintro _ rfl
    exact ⟨hM, Eu.alloc _⟩)
  clear hM hO hx Eu hN0 E3
  obtain ⟨X, hX0⟩ : ∃ n, u4.heap.size = n := ⟨_, rfl⟩
  have HX0 := Lib.hid hX0
  rw [hX0] at HMK hsz
  have hsx := Lib.hid (show Nx ≤ X ∧ W0.heap.size ≤ Nx from ⟨hsz, hNE⟩)
  clear hsz hNE hX0
  go_wp2_with (first
    | fail
    | ((with_reducible refine at_store 33 ?_); refine wpList_store_new3 rfl rfl 33 _ _ _ rfl _ cx _ rfl ?_ rfl hcxi.out hcxz.out hcxo.out ?_; · rfl
       intro wx hwx
       have hmk := HMK.out wx hwx
       obtain ⟨hBx, E5⟩ := hmk
       have H5x := Lib.hid hBx
       rw [HX0.out]
       clear hwx hBx HMK HX0 hcxz hcxo hcxi)
    | ((with_reducible refine at_load 33 ?_); refine wpList_load_row rfl 33 _ rfl bx rfl 33 c (0, 0) _ ((E5.block _ HS0.out).trans HL0.out) Try.underlying33 rfl hi20.out ?_))
  refine (clone_any c B _ (HB0.out.ext E5) ho HN.out).mono ?_
  rintro e u6 ⟨cy, rfl, hO, hx⟩
  have Eu := Ext.trans E5 hx
  have hcyz := Lib.hid (size_z20.trans (hO.size ho).symm)
  have hcyo := Lib.hid (hO.one ho)
  have hcyi := Lib.hid (show (Try.prog.info? 33).map (·.size) = some cy.size by rw [hO.size ho]; exact size_br)
  obtain ⟨gy, hM⟩ := hO.made hx.size hn1
  have hY_x := (H5x.out.ext hx).alloc (.cells cy 33)
  obtain ⟨Ny, hN0, hsz⟩ := nameLe hx.size
  have hNE : W0.heap.size ≤ Ny := by
    rw [← hN0]
    exact E5.size
  rw [hN0] at hM
  have hd_xy := Lib.hid (show X < Ny by
    rw [← hN0]
    exact H5x.out.lt.1)
  have HMK := Lib.hid (show ∀ wx : World, wx = u6.alloc (.cells cy 33) → BrG wx (fun n => Ny ≤ n ∧ n < u6.heap.size + 1) u6.heap.size gy B ∧ Ext W0 wx ∧ BrG wx (fun n => Nx ≤ n ∧ n < X + 1) X gx B from by
    rintro _ rfl
    exact ⟨hM, Eu.alloc _, hY_x⟩)
  clear hM hO hx Eu hN0 E5 hY_x
  obtain ⟨Y, hX0⟩ : ∃ n, u6.heap.size = n := ⟨_, rfl⟩
  have HX0 := Lib.hid hX0
  rw [hX0] at HMK hsz
  have hsy := Lib.hid (show Ny ≤ Y ∧ W0.heap.size ≤ Ny from ⟨hsz, hNE⟩)
  clear hsz hNE hX0
  go_wp2_with (first
    | fail
    | ((with_reducible refine at_store 33 ?_); refine wpList_store_new3 rfl rfl 33 _ _ _ rfl _ cy _ rfl ?_ rfl hcyi.out hcyz.out hcyo.out ?_; · rfl
       intro wx hwx
       have hmk := HMK.out wx hwx
       obtain ⟨hBx, E7, hY_x⟩ := hmk
       have H7y := Lib.hid hBx
       have H7x := Lib.hid hY_x
       rw [HX0.out]
       clear hwx hBx HMK HX0 hcyz hcyo hcyi hY_x))
  refine (tick_any _ (fun n => Nx ≤ n ∧ n < X + 1) X gx B H7x.out ho hn8).mono ?_
  rintro e v8 ⟨rfl, hB, hm⟩
  have ok8 := tickB_ok ho
  have H8y := Lib.hid (H7y.out.apart hm (fun n hn h1 h2 => by have := h1.1; have := h1.2; have := h2.1; have := h2.2; have := hsx.out; have := hsy.out; have := hd_xy.out; omega))
  have E8 := Ext.mutE E7 hm (fun n hn h1 => by have := h1.1; have := hsx.out; omega)
  clear E7
  have H8x := Lib.hid hB
  clear hB hm
  go_wp2_with fail
  refine (dtick_any _ (fun n => Ny ≤ n ∧ n < Y + 1) Y gy B H8y.out ho hn8).mono ?_
  rintro e v9 ⟨rfl, hB, hm⟩
  have ok9 := tickB_ok ho
  have H9x := Lib.hid (H8x.out.apart hm (fun n hn h1 h2 => by have := h1.1; have := h1.2; have := h2.1; have := h2.2; have := hsy.out; have := hsx.out; have := hd_xy.out; omega))
  have E9 := Ext.mutE E8 hm (fun n hn h1 => by have := h1.1; have := hsy.out; omega)
  clear E8
  have H9y := Lib.hid hB
  clear hB hm
  obtain ⟨C10, hC, hCb, hCz⟩ := H9x.out.br (show 0 < ((tickB B)).np by rw [show ((tickB B)).np = B.np from tickB_np B]; exact hn1)
  have HCi10 := Lib.hid (show (Try.prog.info? 33).map (·.size) = some C10.size by rw [hCz, Br.ok.hd ok8 |>.1]; exact size_br)
  have HC10 := Lib.hid hC
  have HCb10 := Lib.hid hCb
  have HCn10 := Lib.hid (show C10.size = 20 by rw [hCz, Br.ok.hd ok8 |>.1]; rfl)
  clear hC hCb hCz
  obtain ⟨C11, hC, hCb, hCz⟩ := H9y.out.br (show 0 < ((tickB B)).np by rw [show ((tickB B)).np = B.np from tickB_np B]; exact hn1)
  have HCi11 := Lib.hid (show (Try.prog.info? 33).map (·.size) = some C11.size by rw [hCz, Br.ok.hd ok9 |>.1]; exact size_br)
  have HC11 := Lib.hid hC
  have HCb11 := Lib.hid hCb
  have HCn11 := Lib.hid (show C11.size = 20 by rw [hCz, Br.ok.hd ok9 |>.1]; rfl)
  clear hC hCb hCz
  have hbb := Lib.hid ((E9.block _ HS0.out).trans HL0.out)
  have hbw := Lib.hid (HB0.out.ext E9)
  have hrr := Lib.hid (show ∀ k, k < B.np → 0 ≤ B.gi k 12 ∧ B.gi k 12 ≤ 1000 from fun k hk => (hfew.out.1.2 k hk).1 6 (by omega))
  go_wp2_with fail
  refine beginL (S := fun W' => Ext v9 W') (by kernel_rfl) ?_
  intro wd hq0
  refine takeL (i := 0) (v := (.bool true)) rfl (by kernel_rfl) (by kernel_rfl) (by kernel_rfl) (fun _ _ _ h => h) (Or.inl ⟨rfl, fun _ _ => rfl⟩) hq0 ?_
  simp only [Act.put, List.setIfInBounds_toArray, List.set_cons_zero, List.set_cons_succ]
  refine takeL (i := 1) (v := (.bool true)) rfl (by kernel_rfl) (by kernel_rfl) (by kernel_rfl) (fun _ _ _ h => h) (Or.inl ⟨rfl, fun _ _ => rfl⟩) hq0 ?_
  simp only [Act.put, List.setIfInBounds_toArray, List.set_cons_zero, List.set_cons_succ]
  refine takeL (i := 2) (v := _) rfl (by kernel_rfl) (by kernel_rfl) (by kernel_rfl) (fun _ _ _ h => h) (yieldsIf_load_row rfl 33 _ rfl X rfl C10 _ _ HC10.out Try.underlying33 rfl HCi10.out) hq0 ?_
  simp only [Act.put, List.setIfInBounds_toArray, List.set_cons_zero, List.set_cons_succ]
  refine takeL (i := 3) (v := _) rfl (by kernel_rfl) (by kernel_rfl) (by kernel_rfl) (fun _ _ _ h => h) (yieldsIf_load_row rfl 33 _ rfl Y rfl C11 _ _ HC11.out Try.underlying33 rfl HCi11.out) hq0 ?_
  simp only [Act.put, List.setIfInBounds_toArray, List.set_cons_zero, List.set_cons_succ]
  refine runG (i := 4) rfl (by rfl) (by kernel_rfl) (fun K hK => ?_)
  go_simp
  refine (same_any C10 C11 (tickB B) _ (HCb10.out.ext hq0) (HCb11.out.ext hq0) ok8).mono ?_
  rintro e y1 ⟨rfl, hx⟩
  have hq1 := Ext.trans hq0 hx
  clear hx hq0
  refine hK.out _ _ hq1 (fun hHeld => ?_)
  try simp only [Act.put, List.setIfInBounds_toArray, List.set_cons_zero, List.set_cons_succ]
  clear hK K hHeld
  refine takeL (i := 5) (v := (.bool true)) rfl (by kernel_rfl) (by kernel_rfl) (by kernel_rfl) (fun _ _ _ h => h) (Or.inl ⟨rfl, fun _ _ => rfl⟩) hq1 ?_
  simp only [Act.put, List.setIfInBounds_toArray, List.set_cons_zero, List.set_cons_succ]
  refine takeL (i := 6) (v := (.bool true)) rfl (by kernel_rfl) (by kernel_rfl) (by kernel_rfl) (fun _ _ _ h => h) (Or.inl ⟨rfl, fun _ _ => rfl⟩) hq1 ?_
  simp only [Act.put, List.setIfInBounds_toArray, List.set_cons_zero, List.set_cons_succ]
  refine takeL (i := 7) (v := _) rfl (by kernel_rfl) (by kernel_rfl) (by kernel_rfl) (fun _ _ _ h => h) (yieldsIf_load_row rfl 33 _ rfl bx rfl c _ _ hbb.out Try.underlying33 rfl hi20.out) hq1 ?_
  simp only [Act.put, List.setIfInBounds_toArray, List.set_cons_zero, List.set_cons_succ]
  refine takeL (i := 8) (v := (.int .i64 (k : Int))) rfl (by kernel_rfl) (by kernel_rfl) (by kernel_rfl) (fun _ _ _ h => h) (Or.inl ⟨rfl, fun _ _ => rfl⟩) hq1 ?_
  simp only [Act.put, List.setIfInBounds_toArray, List.set_cons_zero, List.set_cons_succ]
  refine takeL (i := 10) (v := _) rfl (by kernel_rfl) (by kernel_rfl) (by kernel_rfl) (fun _ _ _ h => h) (yieldsIf_load_row rfl 33 _ rfl bx rfl c _ _ hbb.out Try.underlying33 rfl hi20.out) hq1 ?_
  simp only [Act.put, List.setIfInBounds_toArray, List.set_cons_zero, List.set_cons_succ]
  refine takeL (i := 11) (v := (.int .i64 (k : Int))) rfl (by kernel_rfl) (by kernel_rfl) (by kernel_rfl) (fun _ _ _ h => h) (Or.inl ⟨rfl, fun _ _ => rfl⟩) hq1 ?_
  simp only [Act.put, List.setIfInBounds_toArray, List.set_cons_zero, List.set_cons_succ]
  refine runG (i := 9) rfl (by rfl) (by kernel_rfl) (fun K hK => ?_)
  go_simp
  refine (cedel_any c B k _ (hbw.out.ext hq1) ho hk).mono ?_
  rintro e y2 ⟨rfl, hx⟩
  have hq2 := Ext.trans hq1 hx
  clear hx hq1
  refine hK.out _ _ hq2 (fun hHeld => ?_)
  try simp only [Act.put, List.setIfInBounds_toArray, List.set_cons_zero, List.set_cons_succ]
  clear hK K hHeld
  refine runG (i := 12) rfl (by rfl) (by kernel_rfl) (fun K hK => ?_)
  go_simp
  refine (dedel_any c B k _ (hbw.out.ext hq2) ho hk).mono ?_
  rintro e y3 ⟨rfl, hx⟩
  have hq3 := Ext.trans hq2 hx
  clear hx hq2
  refine hK.out _ _ hq3 (fun hHeld => ?_)
  try simp only [Act.put, List.setIfInBounds_toArray, List.set_cons_zero, List.set_cons_succ]
  clear hK K hHeld
  refine takeL (i := 13) (v := (.bool true)) rfl (by kernel_rfl) (by kernel_rfl) (by kernel_rfl) (fun _ _ _ h => h) (Or.inl ⟨rfl, fun W' _ => by go_simp⟩) hq3 ?_
  simp only [Act.put, List.setIfInBounds_toArray, List.set_cons_zero, List.set_cons_succ]
  refine takeL (i := 14) (v := (.bool true)) rfl (by kernel_rfl) (by kernel_rfl) (by kernel_rfl) (fun _ _ _ h => h) (Or.inl ⟨rfl, fun _ _ => rfl⟩) hq3 ?_
  simp only [Act.put, List.setIfInBounds_toArray, List.set_cons_zero, List.set_cons_succ]
  refine takeL (i := 15) (v := (.bool true)) rfl (by kernel_rfl) (by kernel_rfl) (by kernel_rfl) (fun _ _ _ h => h) (Or.inl ⟨rfl, fun _ _ => rfl⟩) hq3 ?_
  simp only [Act.put, List.setIfInBounds_toArray, List.set_cons_zero, List.set_cons_succ]
  refine takeL (i := 16) (v := _) rfl (by kernel_rfl) (by kernel_rfl) (by kernel_rfl) (fun _ _ _ h => h) (yieldsIf_load_row rfl 33 _ rfl bx rfl c _ _ hbb.out Try.underlying33 rfl hi20.out) hq3 ?_
  simp only [Act.put, List.setIfInBounds_toArray, List.set_cons_zero, List.set_cons_succ]
  refine takeL (i := 17) (v := (.int .i64 (k : Int))) rfl (by kernel_rfl) (by kernel_rfl) (by kernel_rfl) (fun _ _ _ h => h) (Or.inl ⟨rfl, fun _ _ => rfl⟩) hq3 ?_
  simp only [Act.put, List.setIfInBounds_toArray, List.set_cons_zero, List.set_cons_succ]
  refine takeL (i := 19) (v := _) rfl (by kernel_rfl) (by kernel_rfl) (by kernel_rfl) (fun _ _ _ h => h) (yieldsIf_load_row rfl 33 _ rfl bx rfl c _ _ hbb.out Try.underlying33 rfl hi20.out) hq3 ?_
  simp only [Act.put, List.setIfInBounds_toArray, List.set_cons_zero, List.set_cons_succ]
  refine takeL (i := 20) (v := (.int .i64 (k : Int))) rfl (by kernel_rfl) (by kernel_rfl) (by kernel_rfl) (fun _ _ _ h => h) (Or.inl ⟨rfl, fun _ _ => rfl⟩) hq3 ?_
  simp only [Act.put, List.setIfInBounds_toArray, List.set_cons_zero, List.set_cons_succ]
  refine runG (i := 18) rfl (by rfl) (by kernel_rfl) (fun K hK => ?_)
  go_simp
  refine (cfwd_any c B k _ (hbw.out.ext hq3) ho hk).mono ?_
  rintro e y4 ⟨rfl, hx⟩
  have hq4 := Ext.trans hq3 hx
  clear hx hq3
  refine hK.out _ _ hq4 (fun hHeld => ?_)
  try simp only [Act.put, List.setIfInBounds_toArray, List.set_cons_zero, List.set_cons_succ]
  clear hK K hHeld
  refine runG (i := 21) rfl (by rfl) (by kernel_rfl) (fun K hK => ?_)
  go_simp
  refine (dfwd_any c B k _ (hbw.out.ext hq4) ho hk).mono ?_
  rintro e y5 ⟨rfl, hx⟩
  have hq5 := Ext.trans hq4 hx
  clear hx hq4
  refine hK.out _ _ hq5 (fun hHeld => ?_)
  try simp only [Act.put, List.setIfInBounds_toArray, List.set_cons_zero, List.set_cons_succ]
  clear hK K hHeld
  refine takeL (i := 22) (v := (.bool true)) rfl (by kernel_rfl) (by kernel_rfl) (by kernel_rfl) (fun _ _ _ h => h) (Or.inl ⟨rfl, fun W' _ => by go_simp⟩) hq5 ?_
  simp only [Act.put, List.setIfInBounds_toArray, List.set_cons_zero, List.set_cons_succ]
  refine takeL (i := 23) (v := (.bool true)) rfl (by kernel_rfl) (by kernel_rfl) (by kernel_rfl) (fun _ _ _ h => h) (Or.inl ⟨rfl, fun _ _ => rfl⟩) hq5 ?_
  simp only [Act.put, List.setIfInBounds_toArray, List.set_cons_zero, List.set_cons_succ]
  refine takeL (i := 24) (v := (.bool true)) rfl (by kernel_rfl) (by kernel_rfl) (by kernel_rfl) (fun _ _ _ h => h) (Or.inl ⟨rfl, fun _ _ => rfl⟩) hq5 ?_
  simp only [Act.put, List.setIfInBounds_toArray, List.set_cons_zero, List.set_cons_succ]
  refine takeL (i := 25) (v := _) rfl (by kernel_rfl) (by kernel_rfl) (by kernel_rfl) (fun _ _ _ h => h) (yieldsIf_load_row rfl 33 _ rfl bx rfl c _ _ hbb.out Try.underlying33 rfl hi20.out) hq5 ?_
  simp only [Act.put, List.setIfInBounds_toArray, List.set_cons_zero, List.set_cons_succ]
  refine takeL (i := 27) (v := _) rfl (by kernel_rfl) (by kernel_rfl) (by kernel_rfl) (fun _ _ _ h => h) (yieldsIf_load_row rfl 33 _ rfl bx rfl c _ _ hbb.out Try.underlying33 rfl hi20.out) hq5 ?_
  simp only [Act.put, List.setIfInBounds_toArray, List.set_cons_zero, List.set_cons_succ]
  refine runG (i := 26) rfl (by rfl) (by kernel_rfl) (fun K hK => ?_)
  go_simp
  refine (allsynced_any c B _ (hbw.out.ext hq5) ho).mono ?_
  rintro e y6 ⟨f1, rfl, hx, hf1⟩
  have hq6 := Ext.trans hq5 hx
  clear hx hq5
  have HF1 := Lib.hid hf1
  clear hf1
  refine hK.out _ _ hq6 (fun hHeld => ?_)
  try simp only [Act.put, List.setIfInBounds_toArray, List.set_cons_zero, List.set_cons_succ]
  clear hK K hHeld
  refine runG (i := 28) rfl (by rfl) (by kernel_rfl) (fun K hK => ?_)
  go_simp
  refine (dallsynced_any c B _ (hbw.out.ext hq6) ho).mono ?_
  rintro e y7 ⟨f2, rfl, hx, hf2⟩
  have hq7 := Ext.trans hq6 hx
  clear hx hq6
  obtain rfl : f1 = f2 := by rw [Bool.eq_iff_iff, HF1.out, hf2]
  clear hf2
  refine hK.out _ _ hq7 (fun hHeld => ?_)
  try simp only [Act.put, List.setIfInBounds_toArray, List.set_cons_zero, List.set_cons_succ]
  clear hK K hHeld
  refine takeL (i := 29) (v := (.bool true)) rfl (by kernel_rfl) (by kernel_rfl) (by kernel_rfl) (fun _ _ _ h => h) (Or.inl ⟨rfl, fun W' _ => by go_simp⟩) hq7 ?_
  simp only [Act.put, List.setIfInBounds_toArray, List.set_cons_zero, List.set_cons_succ]
  refine takeL (i := 30) (v := (.bool true)) rfl (by kernel_rfl) (by kernel_rfl) (by kernel_rfl) (fun _ _ _ h => h) (Or.inl ⟨rfl, fun _ _ => rfl⟩) hq7 ?_
  simp only [Act.put, List.setIfInBounds_toArray, List.set_cons_zero, List.set_cons_succ]
  refine takeL (i := 31) (v := (.bool true)) rfl (by kernel_rfl) (by kernel_rfl) (by kernel_rfl) (fun _ _ _ h => h) (Or.inl ⟨rfl, fun _ _ => rfl⟩) hq7 ?_
  simp only [Act.put, List.setIfInBounds_toArray, List.set_cons_zero, List.set_cons_succ]
  refine takeL (i := 32) (v := _) rfl (by kernel_rfl) (by kernel_rfl) (by kernel_rfl) (fun _ _ _ h => h) (yieldsIf_load_row rfl 33 _ rfl bx rfl c _ _ hbb.out Try.underlying33 rfl hi20.out) hq7 ?_
  simp only [Act.put, List.setIfInBounds_toArray, List.set_cons_zero, List.set_cons_succ]
  refine takeL (i := 33) (v := (.int .i64 (k : Int))) rfl (by kernel_rfl) (by kernel_rfl) (by kernel_rfl) (fun _ _ _ h => h) (Or.inl ⟨rfl, fun _ _ => rfl⟩) hq7 ?_
  simp only [Act.put, List.setIfInBounds_toArray, List.set_cons_zero, List.set_cons_succ]
  refine takeL (i := 35) (v := _) rfl (by kernel_rfl) (by kernel_rfl) (by kernel_rfl) (fun _ _ _ h => h) (yieldsIf_load_row rfl 33 _ rfl bx rfl c _ _ hbb.out Try.underlying33 rfl hi20.out) hq7 ?_
  simp only [Act.put, List.setIfInBounds_toArray, List.set_cons_zero, List.set_cons_succ]
  refine takeL (i := 36) (v := (.int .i64 (k : Int))) rfl (by kernel_rfl) (by kernel_rfl) (by kernel_rfl) (fun _ _ _ h => h) (Or.inl ⟨rfl, fun _ _ => rfl⟩) hq7 ?_
  simp only [Act.put, List.setIfInBounds_toArray, List.set_cons_zero, List.set_cons_succ]
  refine runG (i := 34) rfl (by rfl) (by kernel_rfl) (fun K hK => ?_)
  go_simp
  refine (rerooted_any c B k _ (hbw.out.ext hq7) ho).mono ?_
  rintro e y8 ⟨f3, rfl, hx, hf3⟩
  have hq8 := Ext.trans hq7 hx
  clear hx hq7
  have HF3 := Lib.hid hf3
  clear hf3
  refine hK.out _ _ hq8 (fun hHeld => ?_)
  try simp only [Act.put, List.setIfInBounds_toArray, List.set_cons_zero, List.set_cons_succ]
  clear hK K hHeld
  refine runG (i := 37) rfl (by rfl) (by kernel_rfl) (fun K hK => ?_)
  go_simp
  refine (drerooted_any c B k _ (hbw.out.ext hq8) ho (by omega) hrr.out).mono ?_
  rintro e y9 ⟨f4, rfl, hx, hf4⟩
  have hq9 := Ext.trans hq8 hx
  clear hx hq8
  obtain rfl : f3 = f4 := by rw [Bool.eq_iff_iff, HF3.out, hf4]
  clear hf4
  refine hK.out _ _ hq9 (fun hHeld => ?_)
  try simp only [Act.put, List.setIfInBounds_toArray, List.set_cons_zero, List.set_cons_succ]
  clear hK K hHeld
  refine takeL (i := 38) (v := (.bool true)) rfl (by kernel_rfl) (by kernel_rfl) (by kernel_rfl) (fun _ _ _ h => h) (Or.inl ⟨rfl, fun W' _ => by go_simp⟩) hq9 ?_
  simp only [Act.put, List.setIfInBounds_toArray, List.set_cons_zero, List.set_cons_succ]
  refine takeL (i := 39) (v := (.bool true)) rfl (by kernel_rfl) (by kernel_rfl) (by kernel_rfl) (fun _ _ _ h => h) (Or.inl ⟨rfl, fun _ _ => rfl⟩) hq9 ?_
  simp only [Act.put, List.setIfInBounds_toArray, List.set_cons_zero, List.set_cons_succ]
  refine takeL (i := 40) (v := (.bool true)) rfl (by kernel_rfl) (by kernel_rfl) (by kernel_rfl) (fun _ _ _ h => h) (Or.inl ⟨rfl, fun _ _ => rfl⟩) hq9 ?_
  simp only [Act.put, List.setIfInBounds_toArray, List.set_cons_zero, List.set_cons_succ]
  refine wpAnyH_done (by kernel_rfl) ?_ _
  go_wp2_with fail
  all_goals
    go_ret
    exact ⟨rfl, HE0.out.trans (E9.trans hq9)⟩

end Go.Proofs.Ytnblchilgaimhaa
