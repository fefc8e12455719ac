/- The walk of MigHears. No statement is proved here. -/
import Derived.Test.YtfbgianmcmgekaaMigM
namespace Go.Proofs.Ytfbgianmcmgekaa
open Go.RowKit Go.BigFrame Go.WideShapes Go.ChangeShapes Go.Deep
set_option linter.unusedVariables false

set_option maxRecDepth 100000 in
set_option maxHeartbeats 2000000 in
theorem law_MigHears {w : World} (c : Array Value) (B : Br) (hb : BrC w c B) (ho : B.ok) (i : Int) (hi : 0 ≤ i ∧ i < 256) :
    Calls Try.prog 6 #[.agg c, .int .u8 i] w fun e w' => e = .returned (.bool true) ∧ Ext w w' := by
  have hl := ho.hd.1
  have hz : c.size = 20 := by
    obtain ⟨_, _, _, h, _⟩ := hb.facts ho.hd.1
    exact h
  have hi20 := Lib.hid (show (Try.prog.info? 33).map (·.size) = some c.size by rw [hz]; exact size_br)
  have HB := Lib.hid hb
  clear hb hl hz
  go_enter Try.func6, Try.ntmps6
  go_wp2_with fail
  refine (mig_awake _).mono ?_
  rintro e w1 ⟨rfl, hE1⟩
  go_wp2_with (first | fail | ((with_reducible refine at_load 33 ?_); refine wpList_load_row rfl 33 _ rfl _ rfl _ c (0, 0) _ (box_heap hE1) Try.underlying33 rfl hi20.out ?_))
  refine (few_any c B _ (HB.out.ext (((Ext.refl w).alloc _).trans hE1)) ho).mono ?_
  rintro e w2 ⟨f, rfl, hx2, hf⟩
  have hE2 := Ext.trans hE1 hx2
  clear hE1 hx2
  cases f
  · go_wp2_with fail
    go_ret
    exact ⟨rfl, ((Ext.refl w).alloc _).trans hE2⟩
  have hfew := Lib.hid (hf.1 rfl)
  clear hf
  have hn1 := hfew.out.2.1
  go_wp2_with (first | fail | ((with_reducible refine at_load 33 ?_); refine wpList_load_row rfl 33 _ rfl _ rfl _ c (0, 0) _ (box_heap hE2) Try.underlying33 rfl hi20.out ?_))
  refine (at_any c B i _ (HB.out.ext (((Ext.refl w).alloc _).trans hE2)) ho hi hn1).mono ?_
  rintro e w3 ⟨rfl, hx3⟩
  have hE3 := Ext.trans hE2 hx3
  clear hE2 hx3
  obtain ⟨k, hk0⟩ : ∃ k, i.toNat % B.np = k := ⟨_, rfl⟩
  have hk : k < B.np := by rw [← hk0]; exact Nat.mod_lt _ hn1
  have hk8 : k < 1000 := by have := hfew.out; omega
  rw [hk0]
  clear hk0
  go_wp2_with (first | fail | ((with_reducible refine at_load 33 ?_); refine wpList_load_row rfl 33 _ rfl _ rfl _ c (0, 0) _ (box_heap hE3) Try.underlying33 rfl hi20.out ?_))
  refine (clone_any c B _ (HB.out.ext (((Ext.refl w).alloc _).trans hE3)) ho (by have := hfew.out; omega)).mono ?_
  rintro e w4 ⟨cx, rfl, hO4, hx4⟩
  have hE4 := Ext.trans hE3 hx4
  have hcxz := Lib.hid (size_z20.trans (hO4.size ho).symm)
  have hcxo := Lib.hid (hO4.one ho)
  have hcxi := Lib.hid (show (Try.prog.info? 33).map (·.size) = some cx.size by rw [hO4.size ho]; exact size_br)
  obtain ⟨g, hBx⟩ := hO4.made hx4.size hn1
  have HX := Lib.hid hBx
  have hs3 := Lib.hid (show w.heap.size < w3.heap.size from Nat.lt_of_lt_of_le (by simp) hE3.size)
  have hs4 := Lib.hid hx4.size
  have HMK := Lib.hid (show ∀ wx : World, wx = w4.alloc (.cells cx 33) → BrG wx (fun n => w3.heap.size ≤ n ∧ n < w4.heap.size + 1) w4.heap.size g B ∧ Ext (w.alloc (.cells c 33)) wx ∧ wx.heap.size = w4.heap.size + 1 from by
    rintro _ rfl
    exact ⟨hBx, hE4.alloc _, by simp⟩)
  clear hBx hO4 hx4 hE3
  have h89 := Lib.hid (len89 ho hk)
  go_wp2_with (first
    | fail
    | ((with_reducible refine at_store 33 ?_); refine wpList_store_new3 rfl rfl 33 _ _ _ rfl _ cx _ rfl ?_ rfl hcxi.out hcxz.out hcxo.out ?_; · rfl
       intro wx hwx
       obtain ⟨hBx, hEx, hzx0⟩ := HMK.out wx hwx
       have HX := Lib.hid hBx
       have hzx := Lib.hid hzx0
       clear hwx hBx hzx0
       obtain ⟨hXl, hgl, hne⟩ := HX.out.lt
       obtain ⟨cap, c17, hca, hcb⟩ := HX.out.cell17 ho
       have hfr := HX.out.frozen
       have hd1 := (HX.out.cellX ho (i := 1) (by omega)).trans (ho.hb 1 rfl)
       have p2 := (HX.out.cellg (i := k * 89 + 2) (lt89 hk (by decide))).trans (ho.gb hk 2 rfl)
       have p16 := (HX.out.cellg (i := k * 89 + 16) (lt89 hk (by decide))).trans (ho.gi hk 16 rfl)
       have p45 := (HX.out.cellg (i := k * 89 + 45) (lt89 hk (by decide))).trans (ho.gb hk 45 rfl)
       have p30 := (HX.out.cellg (i := k * 89 + 30) (lt89 hk (by decide))).trans (ho.gb hk 30 rfl)
       have p38 := (HX.out.cellg (i := k * 89 + 38) (lt89 hk (by decide))).trans (ho.gb hk 38 rfl)
       have hfX := HX.out.frozenX))
  have hB1z : BrG _ (fun n => w3.heap.size ≤ n ∧ n < w4.heap.size + 1) w4.heap.size g (hears1 B k) := ((((((HX.out.seth (j := 1) (by rw [ho.hd.1]; decide) (.bool true)).setp (k := k) (j := 2) hk (by decide) (.bool true)).setp (k := k) (j := 16) hk (by decide) (.int .i64 2)).setp (k := k) (j := 45) hk (by decide) (.bool true)).setp (k := k) (j := 30) hk (by decide) (.bool false)).setp (k := k) (j := 38) hk (by decide) (.bool true))
  have ok1z : Br.ok (hears1 B k) := ((((((ho.setHB 1 true rfl).setB (k := k) hk 2 true rfl).setI (k := k) hk 16 .i64 2 rfl (by decide)).setB (k := k) hk 45 true rfl).setB (k := k) hk 30 false rfl).setB (k := k) hk 38 true rfl)
  have hm1z := (((((((Mut.refl (fun n => w3.heap.size ≤ n ∧ n < w4.heap.size + 1) wx).setCell (p := ⟨w4.heap.size, 1, none⟩) (.inl HX.out.F1) (.bool true)).setCell (p := ⟨g, k * 89 + 2, none⟩) (.inl HX.out.F2) (.bool true)).setCell (p := ⟨g, k * 89 + 16, none⟩) (.inl HX.out.F2) (.int .i64 2)).setCell (p := ⟨g, k * 89 + 45, none⟩) (.inl HX.out.F2) (.bool true)).setCell (p := ⟨g, k * 89 + 30, none⟩) (.inl HX.out.F2) (.bool false)).setCell (p := ⟨g, k * 89 + 38, none⟩) (.inl HX.out.F2) (.bool true))
  refine (mig_step _ (fun n => w3.heap.size ≤ n ∧ n < w4.heap.size + 1) _ g k (hears1 B k) hB1z ok1z hk hk8).mono ?_
  rw [hears1_step B k h89.out]
  rintro e v1 ⟨he, hB1, hm1⟩
  obtain rfl : e = .returned (.bool true) := he
  have ok1 := migF_ok ok1z (k := k) hk
  rw [hears1_step B k h89.out] at ok1
  have hE11 := Ext.mutE hEx (hm1z.trans hm1) (fun n hn h1 => by have := h1.1; have := hs3.out; simp at hn; omega)
  have H1 := Lib.hid hB1
  clear hB1 hB1z ok1z hm1 hm1z hEx
  clear c17 hfr hd1 p2 p16 p45 p30 p38
  clear hfX
  obtain ⟨hXlb, hglb, hneb⟩ := H1.out.lt
  obtain ⟨capb, c17b, hcab, hcbb⟩ := H1.out.cell17 ok1
  have hfrb := H1.out.frozen
  have p45b := (H1.out.cellg (i := k * 89 + 45) (lt89 hk (by decide))).trans (ok1.gb hk 45 rfl)
  have p9b := (H1.out.cellg (i := k * 89 + 9) (lt89 hk (by decide))).trans (ok1.gi hk 9 rfl)
  have p37b := (H1.out.cellg (i := k * 89 + 37) (lt89 hk (by decide))).trans (ok1.gb hk 37 rfl)
  rw [hears_45 B k h89.out] at p45b
  rw [hears_9 B k h89.out] at p9b
  go_wp2_with fail
  have hB2z : BrG _ (fun n => w3.heap.size ≤ n ∧ n < w4.heap.size + 1) w4.heap.size g (hears2 B k) := (H1.out.setp (k := k) (j := 37) hk (by decide) (.bool true))
  have ok2z : Br.ok (hears2 B k) := (ok1.setB (k := k) hk 37 true rfl)
  have hm2z := ((Mut.refl (fun n => w3.heap.size ≤ n ∧ n < w4.heap.size + 1) v1).setCell (p := ⟨g, k * 89 + 37, none⟩) (.inl HX.out.F2) (.bool true))
  refine (mig_step _ (fun n => w3.heap.size ≤ n ∧ n < w4.heap.size + 1) _ g k (hears2 B k) hB2z ok2z hk hk8).mono ?_
  rw [hears2_step B k h89.out]
  rintro e v2 ⟨he, hB2, hm2⟩
  obtain rfl : e = .returned (.bool false) := he
  have ok2 := migF_ok ok2z (k := k) hk
  rw [hears2_step B k h89.out] at ok2
  have hE12 := Ext.mutE hE11 (hm2z.trans hm2) (fun n hn h1 => by have := h1.1; have := hs3.out; simp at hn; omega)
  have H2 := Lib.hid hB2
  clear hB2 hB2z ok2z hm2 hm2z hE11
  clear c17b hfrb p45b p9b p37b
  obtain ⟨hXlc, hglc, hnec⟩ := H2.out.lt
  obtain ⟨capc, c17c, hcac, hcbc⟩ := H2.out.cell17 ok2
  have hfrc := H2.out.frozen
  have p30c := (H2.out.cellg (i := k * 89 + 30) (lt89 hk (by decide))).trans (ok2.gb hk 30 rfl)
  go_wp2_with fail
  have hB3z : BrG _ (fun n => w3.heap.size ≤ n ∧ n < w4.heap.size + 1) w4.heap.size g (hears3 B k) := (H2.out.setp (k := k) (j := 30) hk (by decide) (.bool true))
  have ok3z : Br.ok (hears3 B k) := (ok2.setB (k := k) hk 30 true rfl)
  have hm3z := ((Mut.refl (fun n => w3.heap.size ≤ n ∧ n < w4.heap.size + 1) v2).setCell (p := ⟨g, k * 89 + 30, none⟩) (.inl HX.out.F2) (.bool true))
  refine (mig_step _ (fun n => w3.heap.size ≤ n ∧ n < w4.heap.size + 1) _ g k (hears3 B k) hB3z ok3z hk hk8).mono ?_
  rw [hears3_step B k h89.out]
  rintro e v3 ⟨he, hB3, hm3⟩
  obtain rfl : e = .returned (.bool true) := he
  have ok3 := migF_ok ok3z (k := k) hk
  rw [hears3_step B k h89.out] at ok3
  have hE13 := Ext.mutE hE12 (hm3z.trans hm3) (fun n hn h1 => by have := h1.1; have := hs3.out; simp at hn; omega)
  have H3 := Lib.hid hB3
  clear hB3 hB3z ok3z hm3 hm3z hE12
  clear c17c hfrc p30c
  go_wp2_with fail
  have hB4z : BrG _ (fun n => w3.heap.size ≤ n ∧ n < w4.heap.size + 1) w4.heap.size g (migListen (hears3 B k) k) := H3.out
  have ok4z : Br.ok (migListen (hears3 B k) k) := ok3
  have hm4z := (Mut.refl (fun n => w3.heap.size ≤ n ∧ n < w4.heap.size + 1) v3)
  refine (mig_step _ (fun n => w3.heap.size ≤ n ∧ n < w4.heap.size + 1) _ g k (migListen (hears3 B k) k) hB4z ok4z hk hk8).mono ?_
  rw [hears4_step B k h89.out]
  rintro e v4 ⟨he, hB4, hm4⟩
  obtain rfl : e = .returned (.bool true) := he
  have ok4 := migF_ok ok4z (k := k) hk
  rw [hears4_step B k h89.out] at ok4
  have hE14 := Ext.mutE hE13 (hm4z.trans hm4) (fun n hn h1 => by have := h1.1; have := hs3.out; simp at hn; omega)
  have H4 := Lib.hid hB4
  clear hB4 hB4z ok4z hm4 hm4z hE13
  obtain ⟨hXld, hgld, hned⟩ := H4.out.lt
  obtain ⟨capd, c17d, hcad, hcbd⟩ := H4.out.cell17 ok4
  have hfrd := H4.out.frozen
  have p45d := (H4.out.cellg (i := k * 89 + 45) (lt89 hk (by decide))).trans (ok4.gb hk 45 rfl)
  have p30d := (H4.out.cellg (i := k * 89 + 30) (lt89 hk (by decide))).trans (ok4.gb hk 30 rfl)
  have p16d := (H4.out.cellg (i := k * 89 + 16) (lt89 hk (by decide))).trans (ok4.gi hk 16 rfl)
  rw [hears_z45 B k h89.out ho.hd.1] at p45d
  rw [hears_z30 B k h89.out] at p30d
  rw [hears_z16 B k h89.out] at p16d
  go_wp2_with fail
  go_ret
  exact ⟨rfl, ((Ext.refl w).alloc _).trans hE14⟩

end Go.Proofs.Ytfbgianmcmgekaa
