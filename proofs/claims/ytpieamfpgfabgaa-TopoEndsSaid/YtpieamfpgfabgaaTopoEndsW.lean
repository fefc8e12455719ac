/- The walk of TopoEnds. No statement is proved here. -/
import Derived.Test.YtpieamfpgfabgaaTopL
namespace Go.Proofs.Ytpieamfpgfabgaa
open Go.RowKit Go.BigFrame Go.WideShapes Go.ChangeShapes Go.Deep
set_option linter.unusedVariables false
set_option linter.unusedSimpArgs false

set_option maxRecDepth 100000 in
set_option maxHeartbeats 2000000 in
theorem law_TopoEnds {w : World} (c : Array Value) (B : Br) (hb : BrC w c B) (ho : B.ok) (i : Int) (hi : 0 ≤ i ∧ i < 256) :
    Calls Try.prog 7 #[.agg c, .int .u8 i] w fun e w' => e = .returned (.bool true) ∧ Ext w w' := by
  have hz0 : c.size = 20 := by
    obtain ⟨_, _, _, h, _⟩ := hb.facts ho.hd.1
    exact h
  have hi20 := Lib.hid (show (Try.prog.info? 33).map (·.size) = some c.size by rw [hz0]; exact size_br)
  have HCZ := Lib.hid hz0
  have hE00 : Ext w (w.alloc (.cells c 33)) := ((Ext.refl w).alloc _)
  have hL00 : (w.alloc (.cells c 33)).heap[w.heap.size]? = some (.cells c 33 (0, 0)) := heap_alloc_new _ _
  have hS00 : w.heap.size < (w.alloc (.cells c 33)).heap.size := heap_lt hL00
  have hB00 := hb.ext hE00
  clear hz0
  have HP := Lib.hid hb
  clear hb
  have HhE00 := Lib.hid hE00
  have HhL00 := Lib.hid hL00
  have HhS00 := Lib.hid hS00
  have HhB00 := Lib.hid hB00
  clear hE00 hL00 hS00 hB00
  go_enter Try.func7, Try.ntmps7
  go_wp2_with fail
  have hE00 := HhE00.out
  clear HhE00
  have hL00 := HhL00.out
  clear HhL00
  have hS00 := HhS00.out
  clear HhS00
  have hB00 := HhB00.out
  clear HhB00
  generalize (w.alloc (.cells c 33)) = W0 at *
  obtain ⟨bx, hq⟩ : ∃ n, w.heap.size = n := ⟨_, rfl⟩
  rw [hq] at hL00 hS00 ⊢
  have HE0 := Lib.hid hE00
  have HL0 := Lib.hid hL00
  have HB0 := Lib.hid hB00
  have HS0 := Lib.hid hS00
  have HWB := Lib.hid hq
  clear hE00 hL00 hB00 hS00 hq
  refine (top_awake _).mono ?_
  rintro e v1 ⟨rfl, E1⟩
  go_wp2_with (first | fail | ((with_reducible refine at_load 33 ?_); refine wpList_load_row rfl 33 _ rfl bx rfl 33 c (0, 0) _ ((E1.block _ HS0.out).trans HL0.out) Try.underlying33 rfl hi20.out ?_))
  refine (few_any c B _ (HB0.out.ext E1) ho).mono ?_
  rintro e v2 ⟨f, rfl, hx2, hf⟩
  have E2 := Ext.trans E1 hx2
  clear E1 hx2
  cases f
  · go_wp2_with fail
    go_ret
    exact ⟨rfl, HE0.out.trans E2⟩
  have hfew := Lib.hid (hf.1 rfl)
  clear hf
  have hn1 := hfew.out.2.1
  have HN := Lib.hid (show B.np ≤ 1000 ∧ B.no ≤ 1000 ∧ B.nf ≤ 1000 by have := hfew.out; omega)
  have hn8 : B.np < 1000 := by have := hfew.out; omega
  go_wp2_with (first
    | fail
    | ((with_reducible refine at_load 33 ?_); refine wpList_load_row rfl 33 _ rfl bx rfl 33 c (0, 0) _ ((E2.block _ HS0.out).trans HL0.out) Try.underlying33 rfl hi20.out ?_))
  refine (at_any c B i _ (HB0.out.ext E2) ho hi hn1).mono ?_
  rintro e v3 ⟨rfl, hx⟩
  have E3 := Ext.trans E2 hx
  clear E2 hx
  obtain ⟨k, hk0⟩ : ∃ k, i.toNat % B.np = k := ⟨_, rfl⟩
  have hk : k < B.np := by rw [← hk0]; exact Nat.mod_lt _ hn1
  have hk8 : k < 1000 := by omega
  rw [hk0]
  clear hk0
  have h89 := Lib.hid (len89 ho hk)
  go_wp2_with (first
    | fail
    | ((with_reducible refine at_load 33 ?_); refine wpList_load_row rfl 33 _ rfl bx rfl 33 c (0, 0) _ ((E3.block _ HS0.out).trans HL0.out) Try.underlying33 rfl hi20.out ?_))
  refine (clone_any c B _ (HB0.out.ext E3) ho HN.out).mono ?_
  rintro e u4 ⟨cx, rfl, hO, hx⟩
  have Eu := Ext.trans E3 hx
  have hcxz := Lib.hid (size_z20.trans (hO.size ho).symm)
  have hcxo := Lib.hid (hO.one ho)
  have hcxi := Lib.hid (show (Try.prog.info? 33).map (·.size) = some cx.size by rw [hO.size ho]; exact size_br)
  obtain ⟨gx, hM⟩ := hO.made hx.size hn1
  obtain ⟨Nx, hN0, hsz⟩ := nameLe hx.size
  have hNE : W0.heap.size ≤ Nx := by
    rw [← hN0]
    exact E3.size
  rw [hN0] at hM
  have HMK := Lib.hid (show ∀ wx : World, wx = u4.alloc (.cells cx 33) → BrG wx (fun n => Nx ≤ n ∧ n < u4.heap.size + 1) u4.heap.size gx B ∧ Ext W0 wx from by
    rintro _ rfl
    exact ⟨hM, Eu.alloc _⟩)
  clear hM hO hx Eu hN0 E3
  obtain ⟨X, hX0⟩ : ∃ n, u4.heap.size = n := ⟨_, rfl⟩
  have HX0 := Lib.hid hX0
  rw [hX0] at HMK hsz
  have hsx := Lib.hid (show Nx ≤ X ∧ W0.heap.size ≤ Nx from ⟨hsz, hNE⟩)
  clear hsz hNE hX0
  go_wp2_with (first
    | fail
    | ((with_reducible refine at_store 33 ?_); refine wpList_store_new3 rfl rfl 33 _ _ _ rfl _ cx _ rfl ?_ rfl hcxi.out hcxz.out hcxo.out ?_; · rfl
       intro wx hwx
       have hmk := HMK.out wx hwx
       obtain ⟨hBx, E5⟩ := hmk
       have H5x := Lib.hid hBx
       rw [HX0.out]
       clear hwx hBx HMK HX0 hcxz hcxo hcxi))
  have H6x := Lib.hid (H5x.out.mono (G := fun n => Nx ≤ n ∧ n < wx.heap.size) (fun n hn => ⟨hn.1, by have h1 := H5x.out.lt.1; have h2 := hn.2; omega⟩))
  clear H5x
  have hnf0 : B.nf ≤ 20 := hfew.out.2.2.2.2
  have HTR := Lib.hid (few_TR hfew.out.1)
  go_loopw [9] (fun i wr => ∃ n : Nat, n ≤ 10 ∧ i = .int .i64 n ∧ BrG wr (fun n => Nx ≤ n ∧ n < wr.heap.size) X gx (topIt B k n) ∧ Ext W0 wr) (fun i _ => 10 - (intOf i).toNat)
  case atStart => exact ⟨0, by omega, rfl, H6x.out, E5⟩
  case round =>
    clear E5 H6x
    obtain ⟨n, hn, rfl, hB, En⟩ := hrel
    have HB := Lib.hid hB
    clear hB
    obtain ⟨i1, i2, i3, i4⟩ := topIt_inv ho hk hn8 HTR.out n
    have hT := topIt_TR ho hk hn8 HTR.out n
    have hkn : k < (topIt B k n).np := by rw [i2]; exact hk
    by_cases hlt : n < 10
    · go_wp2_with fail
      refine (top_stepW _ Nx X gx k (topIt B k n) HB.out i1 hkn (by rw [i2]; exact hn8) hT (by omega)).mono ?_
      rintro e v1 ⟨he, hB, hm⟩
      obtain rfl : e = .returned (.bool (topF (topIt B k n) k).1) := he
      have E1 := Ext.mutE En hm (fun n hn h1 => by have := hsx.out; have h2 : Nx ≤ n := h1; omega)
      have HB2 := Lib.hid hB
      clear hB hm
      go_wp2_with fail
      go_roundw
      case rel => exact ⟨n + 1, by omega, by go_num, HB2.out, E1⟩
      case measure => simp [intOf]; omega
    · obtain rfl : n = 10 := by omega
      have hends := topIt_ends ho hk hn8 HTR.out
      obtain ⟨Z, hZ⟩ : ∃ Z, topIt B k 10 = Z := ⟨_, rfl⟩
      rw [hZ] at HB i1 i2 i3 i4 hT hkn hends
      clear hZ
      have HEN := Lib.hid hends.1
      have h25 := hends.2
      clear hends
      go_wp2_with fail
      refine (top_stepW _ Nx X gx k Z HB.out i1 hkn (by rw [i2]; exact hn8) hT (by omega)).mono ?_
      rw [HEN.out]
      rintro e v1 ⟨he, hB, hm⟩
      obtain rfl : e = .returned (.bool false) := he
      have hB : BrG v1 _ X gx Z := hB
      have E1 := Ext.mutE En hm (fun n hn h1 => by have := hsx.out; have h2 : Nx ≤ n := h1; omega)
      obtain ⟨cap, c17, hca, hcb⟩ := hB.cell17 i1
      rw [i2] at c17 hca
      have p25 := (hB.cellg (i := k * 89 + 25) (lt89 hkn (by decide))).trans (i1.gb hkn 25 rfl)
      rw [h25] at p25
      clear hB hm h25
      go_wp2_with fail
      all_goals
        go_ret
        exact ⟨rfl, HE0.out.trans E1⟩

end Go.Proofs.Ytpieamfpgfabgaa
