/- The walk of MigEnds. No statement is proved here. -/
import Derived.Test.YtfbgianmcmgekaaMigM
namespace Go.Proofs.Ytfbgianmcmgekaa
open Go.RowKit Go.BigFrame Go.WideShapes Go.ChangeShapes Go.Deep
set_option linter.unusedVariables false

set_option maxRecDepth 100000 in
set_option maxHeartbeats 2000000 in
theorem law_MigEnds {w : World} (c : Array Value) (B : Br) (hb : BrC w c B) (ho : B.ok) (i : Int) (hi : 0 ≤ i ∧ i < 256) :
    Calls Try.prog 4 #[.agg c, .int .u8 i] w fun e w' => e = .returned (.bool true) ∧ Ext w w' := by
  have hl := ho.hd.1
  have hz : c.size = 20 := by
    obtain ⟨_, _, _, h, _⟩ := hb.facts ho.hd.1
    exact h
  have hi20 := Lib.hid (show (Try.prog.info? 33).map (·.size) = some c.size by rw [hz]; exact size_br)
  have HB := Lib.hid hb
  clear hb hl hz
  go_enter Try.func4, Try.ntmps4
  go_wp2_with fail
  refine (mig_awake _).mono ?_
  rintro e w1 ⟨rfl, hE1⟩
  go_wp2_with (first | fail | ((with_reducible refine at_load 33 ?_); refine wpList_load_row rfl 33 _ rfl _ rfl _ c (0, 0) _ (box_heap hE1) Try.underlying33 rfl hi20.out ?_))
  refine (few_any c B _ (HB.out.ext (((Ext.refl w).alloc _).trans hE1)) ho).mono ?_
  rintro e w2 ⟨f, rfl, hx2, hf⟩
  have hE2 := Ext.trans hE1 hx2
  clear hE1 hx2
  cases f
  · go_wp2_with fail
    go_ret
    exact ⟨rfl, ((Ext.refl w).alloc _).trans hE2⟩
  have hfew := Lib.hid (hf.1 rfl)
  clear hf
  have hn1 := hfew.out.2.1
  go_wp2_with (first | fail | ((with_reducible refine at_load 33 ?_); refine wpList_load_row rfl 33 _ rfl _ rfl _ c (0, 0) _ (box_heap hE2) Try.underlying33 rfl hi20.out ?_))
  refine (at_any c B i _ (HB.out.ext (((Ext.refl w).alloc _).trans hE2)) ho hi hn1).mono ?_
  rintro e w3 ⟨rfl, hx3⟩
  have hE3 := Ext.trans hE2 hx3
  clear hE2 hx3
  obtain ⟨k, hk0⟩ : ∃ k, i.toNat % B.np = k := ⟨_, rfl⟩
  have hk : k < B.np := by rw [← hk0]; exact Nat.mod_lt _ hn1
  have hk8 : k < 1000 := by have := hfew.out; omega
  rw [hk0]
  clear hk0
  go_wp2_with (first | fail | ((with_reducible refine at_load 33 ?_); refine wpList_load_row rfl 33 _ rfl _ rfl _ c (0, 0) _ (box_heap hE3) Try.underlying33 rfl hi20.out ?_))
  refine (clone_any c B _ (HB.out.ext (((Ext.refl w).alloc _).trans hE3)) ho (by have := hfew.out; omega)).mono ?_
  rintro e w4 ⟨cx, rfl, hO4, hx4⟩
  have hE4 := Ext.trans hE3 hx4
  have hcxz := Lib.hid (size_z20.trans (hO4.size ho).symm)
  have hcxo := Lib.hid (hO4.one ho)
  have hcxi := Lib.hid (show (Try.prog.info? 33).map (·.size) = some cx.size by rw [hO4.size ho]; exact size_br)
  obtain ⟨g, hBx⟩ := hO4.made hx4.size hn1
  have HX := Lib.hid hBx
  have hs3 := Lib.hid (show w.heap.size < w3.heap.size from Nat.lt_of_lt_of_le (by simp) hE3.size)
  have hs4 := Lib.hid hx4.size
  have HMK := Lib.hid (show ∀ wx : World, wx = w4.alloc (.cells cx 33) → BrG wx (fun n => w3.heap.size ≤ n ∧ n < w4.heap.size + 1) w4.heap.size g B ∧ Ext (w.alloc (.cells c 33)) wx ∧ wx.heap.size = w4.heap.size + 1 from by
    rintro _ rfl
    exact ⟨hBx, hE4.alloc _, by simp⟩)
  clear hBx hO4 hx4 hE3
  go_wp2_with (first
    | fail
    | ((with_reducible refine at_store 33 ?_); refine wpList_store_new3 rfl rfl 33 _ _ _ rfl _ cx _ rfl ?_ rfl hcxi.out hcxz.out hcxo.out ?_; · rfl
       intro wx hwx
       obtain ⟨hBx, hEx, hzx0⟩ := HMK.out wx hwx
       have HX := Lib.hid hBx
       have hzx := Lib.hid hzx0
       clear hwx hBx hzx0))
  refine (mig_step _ _ _ g k _ HX.out ho (by first | exact hk | simpa [migF_np] using hk) hk8).mono ?_
  rintro e v0 ⟨rfl, hB0, hm0⟩
  have hE10 := Ext.mutE hEx hm0 (fun n hn h1 => by have := h1.1; have := hs3.out; simp at hn; omega)
  have ok0 := migF_ok ho (k := k) (by first | exact hk | simpa [migF_np] using hk)
  have H0 := Lib.hid hB0
  clear hB0 hm0 hEx
  go_wp2_with fail
  refine (mig_step _ _ _ g k _ H0.out ok0 (by first | exact hk | simpa [migF_np] using hk) hk8).mono ?_
  rintro e v1 ⟨rfl, hB1, hm1⟩
  have hE11 := Ext.mutE hE10 hm1 (fun n hn h1 => by have := h1.1; have := hs3.out; simp at hn; omega)
  have ok1 := migF_ok ok0 (k := k) (by first | exact hk | simpa [migF_np] using hk)
  have H1 := Lib.hid hB1
  clear hB1 hm1 hE10
  go_wp2_with fail
  refine (mig_step _ _ _ g k _ H1.out ok1 (by first | exact hk | simpa [migF_np] using hk) hk8).mono ?_
  rintro e v2 ⟨rfl, hB2, hm2⟩
  have hE12 := Ext.mutE hE11 hm2 (fun n hn h1 => by have := h1.1; have := hs3.out; simp at hn; omega)
  have ok2 := migF_ok ok1 (k := k) (by first | exact hk | simpa [migF_np] using hk)
  have H2 := Lib.hid hB2
  clear hB2 hm2 hE11
  go_wp2_with fail
  refine (mig_step _ _ _ g k _ H2.out ok2 (by first | exact hk | simpa [migF_np] using hk) hk8).mono ?_
  rintro e v3 ⟨rfl, hB3, hm3⟩
  have hE13 := Ext.mutE hE12 hm3 (fun n hn h1 => by have := h1.1; have := hs3.out; simp at hn; omega)
  have ok3 := migF_ok ok2 (k := k) (by first | exact hk | simpa [migF_np] using hk)
  have H3 := Lib.hid hB3
  clear hB3 hm3 hE12
  rw [mig_ends B k hk ho]
  go_wp2_with fail
  go_ret
  exact ⟨rfl, ((Ext.refl w).alloc _).trans hE13⟩

end Go.Proofs.Ytfbgianmcmgekaa
