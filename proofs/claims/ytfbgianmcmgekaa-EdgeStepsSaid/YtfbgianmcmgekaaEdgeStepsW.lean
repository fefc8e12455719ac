/- The walk of EdgeSteps. No statement is proved here. -/
import Derived.Test.YtfbgianmcmgekaaEdgeL
namespace Go.Proofs.Ytfbgianmcmgekaa
open Go.RowKit Go.WideShapes Go.ChangeShapes Go.Deep
set_option linter.unusedVariables false

set_option maxRecDepth 100000 in
set_option maxHeartbeats 2000000 in
theorem law_EdgeSteps {w : World} (c : Array Value) (B : Br) (hb : BrC w c B) (ho : B.ok) (i : Int) (hi : 0 ≤ i ∧ i < 256) :
    Calls Try.prog 8 #[.agg c, .int .u8 i] w fun e w' => e = .returned (.bool true) ∧ Ext w w' := by
  have hl := ho.hd.1
  have hz : c.size = 20 := by
    obtain ⟨_, _, _, h, _⟩ := hb.facts ho.hd.1
    exact h
  have hi20 := Lib.hid (show (Try.prog.info? 33).map (·.size) = some c.size by rw [hz]; exact size_br)
  have HB := Lib.hid hb
  clear hb hl hz
  go_enter Try.func8, Try.ntmps8
  go_wp2_with fail
  refine (edge_awake _).mono ?_
  rintro e w1 ⟨rfl, hE1⟩
  go_wp2_with (first | fail | ((with_reducible refine at_load 33 ?_); refine wpList_load_row rfl 33 _ rfl _ rfl _ c (0, 0) _ (box_heap hE1) Try.underlying33 rfl hi20.out ?_))
  refine (few_any c B _ (HB.out.ext (((Ext.refl w).alloc _).trans hE1)) ho).mono ?_
  rintro e w2 ⟨f, rfl, hx2, hf⟩
  have hE2 := Ext.trans hE1 hx2
  clear hE1 hx2
  cases f
  · go_wp2_with fail
    go_ret
    exact ⟨rfl, ((Ext.refl w).alloc _).trans hE2⟩
  have hfew := Lib.hid (hf.1 rfl)
  clear hf
  have hn1 := hfew.out.2.1
  go_wp2_with (first | fail | ((with_reducible refine at_load 33 ?_); refine wpList_load_row rfl 33 _ rfl _ rfl _ c (0, 0) _ (box_heap hE2) Try.underlying33 rfl hi20.out ?_))
  refine (at_any c B i _ (HB.out.ext (((Ext.refl w).alloc _).trans hE2)) ho hi hn1).mono ?_
  rintro e w3 ⟨rfl, hx3⟩
  have hE3 := Ext.trans hE2 hx3
  clear hE2 hx3
  obtain ⟨k, hk0⟩ : ∃ k, i.toNat % B.np = k := ⟨_, rfl⟩
  have hk : k < B.np := by rw [← hk0]; exact Nat.mod_lt _ hn1
  rw [hk0]
  clear hk0
  go_wp2_with (first | fail | ((with_reducible refine at_load 33 ?_); refine wpList_load_row rfl 33 _ rfl _ rfl _ c (0, 0) _ (box_heap hE3) Try.underlying33 rfl hi20.out ?_))
  refine (clone_any c B _ (HB.out.ext (((Ext.refl w).alloc _).trans hE3)) ho (by have := hfew.out; omega)).mono ?_
  rintro e w4 ⟨cx, rfl, hO4, hx4⟩
  have hE4 := Ext.trans hE3 hx4
  have hcxz := Lib.hid (size_z20.trans (hO4.size ho).symm)
  have hcxo := Lib.hid (hO4.one ho)
  have hcxi := Lib.hid (show (Try.prog.info? 33).map (·.size) = some cx.size by rw [hO4.size ho]; exact size_br)
  obtain ⟨gx, hBx⟩ := hO4.made hx4.size hn1
  have HX := Lib.hid hBx
  have hs3 := Lib.hid (show w.heap.size < w3.heap.size from Nat.lt_of_lt_of_le (by simp) hE3.size)
  have hs4 := Lib.hid hx4.size
  clear hBx hO4 hx4 hE3
  go_wp2_with (first | fail | ((with_reducible refine at_load 33 ?_); refine wpList_load_row rfl 33 _ rfl _ rfl _ c (0, 0) _ (box_heap (hE4.alloc _)) Try.underlying33 rfl hi20.out ?_) | ((with_reducible refine at_store 33 ?_); refine wpList_store_new2 rfl rfl 33 _ _ _ rfl _ cx _ rfl ?_ rfl hcxi.out hcxz.out hcxo.out ?_; · rfl))
  refine (clone_any c B _ (HB.out.ext (((Ext.refl w).alloc _).trans (hE4.alloc _))) ho (by have := hfew.out; omega)).mono ?_
  rintro e w5 ⟨cy, rfl, hO5, hx5⟩
  have hE5 := Ext.trans (hE4.alloc _) hx5
  have hcyz := Lib.hid (size_z20.trans (hO5.size ho).symm)
  have hcyo := Lib.hid (hO5.one ho)
  have hcyi := Lib.hid (show (Try.prog.info? 33).map (·.size) = some cy.size by rw [hO5.size ho]; exact size_br)
  obtain ⟨gy, hBy⟩ := hO5.made hx5.size hn1
  have HY := Lib.hid hBy
  have hX5 := HX.out.ext (hx5.alloc (.cells cy 33))
  have HX5 := Lib.hid hX5
  have hs5 := Lib.hid hx5.size
  have hE6 := hE5.alloc (.cells cy 33)
  clear hBy hO5 hx5 hE4 hE5 hX5
  go_wp2_with (first | fail | ((with_reducible refine at_store 33 ?_); refine wpList_store_new2 rfl rfl 33 _ _ _ rfl _ cy _ rfl ?_ rfl hcyi.out hcyz.out hcyo.out ?_; · rfl))
  refine (edge_step _ _ _ gx k B HX5.out ho hk (by have := hfew.out; omega)).mono ?_
  rintro e w6 ⟨rfl, hB6, hm6⟩
  have hY6 := HY.out.apart hm6 (fun n hn h1 h2 => by have := h1.1; have := h2.2; have := hs5.out; simp at *; omega)
  have hE7 := hE6.mutE hm6 (fun n hn h1 => by have := h1.1; have := hs3.out; simp at hn; omega)
  have HX6 := Lib.hid hB6
  have HY6 := Lib.hid hY6
  clear hB6 hm6 hY6 hE6
  go_wp2_with fail
  refine (edge_doc _ _ _ gy k B HY6.out ho hk (by have := hfew.out; omega)).mono ?_
  rintro e w7 ⟨rfl, hB7, hm7⟩
  have hX7 := HX6.out.apart hm7 (fun n hn h1 h2 => by have := h1.2; have := h2.1; have := hs5.out; simp at *; omega)
  have hE8 := hE7.mutE hm7 (fun n hn h1 => by have := h1.1; have := hs5.out; have := hs4.out; have := hs3.out; simp at *; omega)
  have hok := edgeF_ok ho hk
  have hnp : (edgeF B k).2.np = B.np := edgeF_np B k
  obtain ⟨⟨d, B2⟩, hr⟩ : ∃ r, edgeF B k = r := ⟨_, rfl⟩
  rw [hr] at hok hnp hX7 hB7
  rw [hr]
  obtain ⟨C, hC, hCb, hCz⟩ := hX7.br (by rw [hnp]; omega)
  obtain ⟨D, hD, hDb, hDz⟩ := hB7.br (by rw [hnp]; omega)
  have hCi := Lib.hid (show (Try.prog.info? 33).map (·.size) = some C.size by rw [hCz, hok.hd.1]; exact size_br)
  have hDi := Lib.hid (show (Try.prog.info? 33).map (·.size) = some D.size by rw [hDz, hok.hd.1]; exact size_br)
  have HC := Lib.hid hC
  have HD := Lib.hid hD
  have HCb := Lib.hid hCb
  have HDb := Lib.hid hDb
  clear hC hD hCb hDb hCz hDz hX7 hB7 hm7 hr hnp hE7
  cases d
  all_goals
    go_wp2_with (first | fail | ((with_reducible refine at_loadG 33 ?_); first | refine wpList_load_rowG rfl 33 _ rfl _ rfl _ C (0, 0) _ HC.out Try.underlying33 rfl hCi.out ?_ | refine wpList_load_rowG rfl 33 _ rfl _ rfl _ D (0, 0) _ HD.out Try.underlying33 rfl hDi.out ?_))
    refine (same_any C D B2 _ HCb.out HDb.out hok).mono ?_
    rintro e w8 ⟨rfl, hx8⟩
    have hE9 := hE8.trans hx8
    go_wp2_with fail
    go_ret
    exact ⟨rfl, ((Ext.refl w).alloc _).trans hE9⟩

end Go.Proofs.Ytfbgianmcmgekaa
