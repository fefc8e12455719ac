/- The walk of EdgeHeard. No statement is proved here. -/
import Derived.Test.YtfbgianmcmgekaaEdgeM
namespace Go.Proofs.Ytfbgianmcmgekaa
open Go.RowKit Go.BigFrame Go.WideShapes Go.ChangeShapes Go.Deep
set_option linter.unusedVariables false

set_option maxRecDepth 100000 in
set_option maxHeartbeats 2000000 in
theorem law_EdgeHeard {w : World} (c : Array Value) (B : Br) (hb : BrC w c B) (ho : B.ok) (i : Int) (hi : 0 ≤ i ∧ i < 256) (st : Int) (hst : 0 ≤ st ∧ st < 256) :
    Calls Try.prog 11 #[.agg c, .int .u8 i, .int .u8 st] w fun e w' => e = .returned (.bool true) ∧ Ext w w' := by
  have hl := ho.hd.1
  have hz : c.size = 20 := by
    obtain ⟨_, _, _, h, _⟩ := hb.facts ho.hd.1
    exact h
  have hi20 := Lib.hid (show (Try.prog.info? 33).map (·.size) = some c.size by rw [hz]; exact size_br)
  have HB := Lib.hid hb
  have hcz := hz
  clear hb hl hz
  go_enter Try.func11, Try.ntmps11
  go_wp2_with fail
  refine (edge_awake _).mono ?_
  rintro e w1 ⟨rfl, hE1⟩
  go_wp2_with (first | fail | ((with_reducible refine at_load 33 ?_); refine wpList_load_row rfl 33 _ rfl _ rfl _ c (0, 0) _ (box_heap hE1) Try.underlying33 rfl hi20.out ?_))
  refine (few_any c B _ (HB.out.ext (((Ext.refl w).alloc _).trans hE1)) ho).mono ?_
  rintro e w2 ⟨f, rfl, hx2, hf⟩
  have hE2 := Ext.trans hE1 hx2
  clear hE1 hx2
  cases f
  · go_wp2_with fail
    go_ret
    exact ⟨rfl, ((Ext.refl w).alloc _).trans hE2⟩
  have hfew := Lib.hid (hf.1 rfl)
  clear hf
  have hn1 := hfew.out.2.1
  go_wp2_with (first | fail | ((with_reducible refine at_load 33 ?_); refine wpList_load_row rfl 33 _ rfl _ rfl _ c (0, 0) _ (box_heap hE2) Try.underlying33 rfl hi20.out ?_))
  refine (at_any c B i _ (HB.out.ext (((Ext.refl w).alloc _).trans hE2)) ho hi hn1).mono ?_
  rintro e w3 ⟨rfl, hx3⟩
  have hE3 := Ext.trans hE2 hx3
  clear hE2 hx3
  obtain ⟨k, hk0⟩ : ∃ k, i.toNat % B.np = k := ⟨_, rfl⟩
  have hk : k < B.np := by rw [← hk0]; exact Nat.mod_lt _ hn1
  have hk8 : k < 1000 := by have := hfew.out; omega
  rw [hk0]
  clear hk0
  go_wp2_with (first | fail | ((with_reducible refine at_load 33 ?_); refine wpList_load_row rfl 33 _ rfl _ rfl _ c (0, 0) _ (box_heap hE3) Try.underlying33 rfl hi20.out ?_))
  refine (clone_any c B _ (HB.out.ext (((Ext.refl w).alloc _).trans hE3)) ho (by have := hfew.out; omega)).mono ?_
  rintro e w4 ⟨cx, rfl, hO4, hx4⟩
  have hE4 := Ext.trans hE3 hx4
  have hcxz := Lib.hid (size_z20.trans (hO4.size ho).symm)
  have hcxo := Lib.hid (hO4.one ho)
  have hcxi := Lib.hid (show (Try.prog.info? 33).map (·.size) = some cx.size by rw [hO4.size ho]; exact size_br)
  obtain ⟨g, hBx⟩ := hO4.made hx4.size hn1
  have HX := Lib.hid hBx
  have hs3 := Lib.hid (show w.heap.size < w3.heap.size from Nat.lt_of_lt_of_le (by simp) hE3.size)
  have hs4 := Lib.hid hx4.size
  have HMK := Lib.hid (show ∀ wx : World, wx = w4.alloc (.cells cx 33) → BrG wx (fun n => w3.heap.size ≤ n ∧ n < w4.heap.size + 1) w4.heap.size g B ∧ Ext (w.alloc (.cells c 33)) wx ∧ wx.heap.size = w4.heap.size + 1 from by
    rintro _ rfl
    exact ⟨hBx, hE4.alloc _, by simp⟩)
  clear hBx hO4 hx4 hE3
  have h89 := Lib.hid (len89 ho hk)
  obtain ⟨hst0, hst1⟩ := hst
  have hclk := ((hfew.out.1).2 k hk).1 0 (by decide)
  obtain ⟨m, hmm⟩ : ∃ m, B.gi k 6 = m := ⟨_, rfl⟩
  have HMM := Lib.hid hmm
  have hm0 : 0 ≤ m ∧ m ≤ 1000 := by rw [← hmm]; exact hclk
  obtain ⟨hm1, hm2⟩ := hm0
  clear hclk hmm
  rcases (by omega : m = 0 ∨ m = 1 ∨ 2 ≤ m) with hm | hm | hm <;> rcases (by omega : st % 2 = 0 ∨ st % 2 = 1) with hs | hs
  · subst hm
    go_wp2_with (first
      | fail
      | ((with_reducible refine at_store 33 ?_); refine wpList_store_new3 rfl rfl 33 _ _ _ rfl _ cx _ rfl ?_ rfl hcxi.out hcxz.out hcxo.out ?_; · rfl
         intro wx hwx
         obtain ⟨hBx, hEx, hzx0⟩ := HMK.out wx hwx
         have HX := Lib.hid hBx
         have hzx := Lib.hid hzx0
         clear hwx hBx hzx0
         obtain ⟨hXl, hgl, hne⟩ := HX.out.lt
         obtain ⟨cap, c17, hca, hcb⟩ := HX.out.cell17 ho
         have hfr := HX.out.frozen
         have p2 := (HX.out.cellg (i := k * 89 + 2) (lt89 hk (by decide))).trans (ho.gb hk 2 rfl)
         have p32 := (HX.out.cellg (i := k * 89 + 32) (lt89 hk (by decide))).trans (ho.gb hk 32 rfl)
         have p6 := (HX.out.cellg (i := k * 89 + 6) (lt89 hk (by decide))).trans (ho.gi hk 6 rfl)
         have p17 := (HX.out.cellg (i := k * 89 + 17) (lt89 hk (by decide))).trans (ho.gi hk 17 rfl)
         rw [HMM.out] at p6))
    have hB1z : BrG _ (fun n => w3.heap.size ≤ n ∧ n < w4.heap.size + 1) w4.heap.size g (eh0 B k 1 0) := ((((HX.out.setp (k := k) (j := 2) hk (by decide) (.bool true)).setp (k := k) (j := 32) hk (by decide) (.bool false)).setp (k := k) (j := 6) hk (by decide) (.int .i64 1)).setp (k := k) (j := 17) hk (by decide) (.int .i64 0))
    have ok1z : Br.ok (eh0 B k 1 0) := ((((ho.setB (k := k) hk 2 true rfl).setB (k := k) hk 32 false rfl).setI (k := k) hk 6 .i64 1 rfl (by decide)).setI (k := k) hk 17 .i64 0 rfl (by decide))
    have hm1z := (((((Mut.refl (fun n => w3.heap.size ≤ n ∧ n < w4.heap.size + 1) wx).setCell (p := ⟨g, k * 89 + 2, none⟩) (.inl HX.out.F2) (.bool true)).setCell (p := ⟨g, k * 89 + 32, none⟩) (.inl HX.out.F2) (.bool false)).setCell (p := ⟨g, k * 89 + 6, none⟩) (.inl HX.out.F2) (.int .i64 1)).setCell (p := ⟨g, k * 89 + 17, none⟩) (.inl HX.out.F2) (.int .i64 0))
    refine (edge_step _ (fun n => w3.heap.size ≤ n ∧ n < w4.heap.size + 1) _ g k (eh0 B k 1 0) hB1z ok1z hk hk8).mono ?_
    rw [eh0_0 B k h89.out 1]
    rintro e v1 ⟨he, hB1, hm1⟩
    obtain rfl : e = .returned (.bool true) := he
    have ok1 := edgeF_ok ok1z (k := k) hk
    rw [eh0_0 B k h89.out 1] at ok1
    have hE11 := Ext.mutE hEx (hm1z.trans hm1) (fun n hn h1 => by have := h1.1; have := hs3.out; simp at hn; omega)
    have H1 := Lib.hid hB1
    clear hB1 hB1z ok1z hm1 hm1z hEx
    clear c17 hfr p2 p32 p6 p17
    go_wp2_with fail
    have hB2z : BrG _ (fun n => w3.heap.size ≤ n ∧ n < w4.heap.size + 1) w4.heap.size g (edgeOff (eh0 B k 1 0) k) := H1.out
    have ok2z : Br.ok (edgeOff (eh0 B k 1 0) k) := ok1
    have hm2z := (Mut.refl (fun n => w3.heap.size ≤ n ∧ n < w4.heap.size + 1) v1)
    refine (edge_step _ (fun n => w3.heap.size ≤ n ∧ n < w4.heap.size + 1) _ g k (edgeOff (eh0 B k 1 0) k) hB2z ok2z hk hk8).mono ?_
    rw [eh1 B k h89.out 1 (by decide)]
    rintro e v2 ⟨he, hB2, hm2⟩
    obtain rfl : e = .returned (.bool false) := he
    have ok2 := edgeF_ok ok2z (k := k) hk
    rw [eh1 B k h89.out 1 (by decide)] at ok2
    have hE12 := Ext.mutE hE11 (hm2z.trans hm2) (fun n hn h1 => by have := h1.1; have := hs3.out; simp at hn; omega)
    have H2 := Lib.hid hB2
    clear hB2 hB2z ok2z hm2 hm2z hE11
    obtain ⟨hXlz, hglz, hnez⟩ := H2.out.lt
    obtain ⟨capz, c17z, hcaz, hcbz⟩ := H2.out.cell17 ok2
    have hfrz := H2.out.frozen
    have p32z := (H2.out.cellg (i := k * 89 + 32) (lt89 hk (by decide))).trans (ok2.gb hk 32 rfl)
    have p17z := (H2.out.cellg (i := k * 89 + 17) (lt89 hk (by decide))).trans (ok2.gi hk 17 rfl)
    rw [eh1_c32 B k h89.out 1 0] at p32z
    rw [eh1_c17 B k h89.out 1 0] at p17z
    go_wp2_with fail
    go_ret
    exact ⟨rfl, ((Ext.refl w).alloc _).trans hE12⟩
  · subst hm
    go_wp2_with (first
      | fail
      | ((with_reducible refine at_store 33 ?_); refine wpList_store_new3 rfl rfl 33 _ _ _ rfl _ cx _ rfl ?_ rfl hcxi.out hcxz.out hcxo.out ?_; · rfl
         intro wx hwx
         obtain ⟨hBx, hEx, hzx0⟩ := HMK.out wx hwx
         have HX := Lib.hid hBx
         have hzx := Lib.hid hzx0
         clear hwx hBx hzx0
         obtain ⟨hXl, hgl, hne⟩ := HX.out.lt
         obtain ⟨cap, c17, hca, hcb⟩ := HX.out.cell17 ho
         have hfr := HX.out.frozen
         have p2 := (HX.out.cellg (i := k * 89 + 2) (lt89 hk (by decide))).trans (ho.gb hk 2 rfl)
         have p32 := (HX.out.cellg (i := k * 89 + 32) (lt89 hk (by decide))).trans (ho.gb hk 32 rfl)
         have p6 := (HX.out.cellg (i := k * 89 + 6) (lt89 hk (by decide))).trans (ho.gi hk 6 rfl)
         have p17 := (HX.out.cellg (i := k * 89 + 17) (lt89 hk (by decide))).trans (ho.gi hk 17 rfl)
         rw [HMM.out] at p6))
    have hB1z : BrG _ (fun n => w3.heap.size ≤ n ∧ n < w4.heap.size + 1) w4.heap.size g (eh0 B k 1 1) := ((((HX.out.setp (k := k) (j := 2) hk (by decide) (.bool true)).setp (k := k) (j := 32) hk (by decide) (.bool false)).setp (k := k) (j := 6) hk (by decide) (.int .i64 1)).setp (k := k) (j := 17) hk (by decide) (.int .i64 1))
    have ok1z : Br.ok (eh0 B k 1 1) := ((((ho.setB (k := k) hk 2 true rfl).setB (k := k) hk 32 false rfl).setI (k := k) hk 6 .i64 1 rfl (by decide)).setI (k := k) hk 17 .i64 1 rfl (by decide))
    have hm1z := (((((Mut.refl (fun n => w3.heap.size ≤ n ∧ n < w4.heap.size + 1) wx).setCell (p := ⟨g, k * 89 + 2, none⟩) (.inl HX.out.F2) (.bool true)).setCell (p := ⟨g, k * 89 + 32, none⟩) (.inl HX.out.F2) (.bool false)).setCell (p := ⟨g, k * 89 + 6, none⟩) (.inl HX.out.F2) (.int .i64 1)).setCell (p := ⟨g, k * 89 + 17, none⟩) (.inl HX.out.F2) (.int .i64 1))
    refine (edge_step _ (fun n => w3.heap.size ≤ n ∧ n < w4.heap.size + 1) _ g k (eh0 B k 1 1) hB1z ok1z hk hk8).mono ?_
    rw [eh0_1 B k h89.out 1 (by decide)]
    rintro e v1 ⟨he, hB1, hm1⟩
    obtain rfl : e = .returned (.bool false) := he
    have ok1 := edgeF_ok ok1z (k := k) hk
    rw [eh0_1 B k h89.out 1 (by decide)] at ok1
    have hE11 := Ext.mutE hEx (hm1z.trans hm1) (fun n hn h1 => by have := h1.1; have := hs3.out; simp at hn; omega)
    have H1 := Lib.hid hB1
    clear hB1 hB1z ok1z hm1 hm1z hEx
    clear c17 hfr p2 p32 p6 p17
    go_wp2_with fail
    have hB2z : BrG _ (fun n => w3.heap.size ≤ n ∧ n < w4.heap.size + 1) w4.heap.size g (eh0 B k 1 1) := H1.out
    have ok2z : Br.ok (eh0 B k 1 1) := ok1
    have hm2z := (Mut.refl (fun n => w3.heap.size ≤ n ∧ n < w4.heap.size + 1) v1)
    refine (edge_step _ (fun n => w3.heap.size ≤ n ∧ n < w4.heap.size + 1) _ g k (eh0 B k 1 1) hB2z ok2z hk hk8).mono ?_
    rw [eh0_1 B k h89.out 1 (by decide)]
    rintro e v2 ⟨he, hB2, hm2⟩
    obtain rfl : e = .returned (.bool false) := he
    have ok2 := edgeF_ok ok2z (k := k) hk
    rw [eh0_1 B k h89.out 1 (by decide)] at ok2
    have hE12 := Ext.mutE hE11 (hm2z.trans hm2) (fun n hn h1 => by have := h1.1; have := hs3.out; simp at hn; omega)
    have H2 := Lib.hid hB2
    clear hB2 hB2z ok2z hm2 hm2z hE11
    obtain ⟨hXlz, hglz, hnez⟩ := H2.out.lt
    obtain ⟨capz, c17z, hcaz, hcbz⟩ := H2.out.cell17 ok2
    have hfrz := H2.out.frozen
    have p32z := (H2.out.cellg (i := k * 89 + 32) (lt89 hk (by decide))).trans (ok2.gb hk 32 rfl)
    have p17z := (H2.out.cellg (i := k * 89 + 17) (lt89 hk (by decide))).trans (ok2.gi hk 17 rfl)
    rw [eh0_c32 B k h89.out 1 1] at p32z
    rw [eh0_c17 B k h89.out 1 1] at p17z
    go_wp2_with fail
    go_ret
    exact ⟨rfl, ((Ext.refl w).alloc _).trans hE12⟩
  · subst hm
    go_wp2_with (first
      | fail
      | ((with_reducible refine at_store 33 ?_); refine wpList_store_new3 rfl rfl 33 _ _ _ rfl _ cx _ rfl ?_ rfl hcxi.out hcxz.out hcxo.out ?_; · rfl
         intro wx hwx
         obtain ⟨hBx, hEx, hzx0⟩ := HMK.out wx hwx
         have HX := Lib.hid hBx
         have hzx := Lib.hid hzx0
         clear hwx hBx hzx0
         obtain ⟨hXl, hgl, hne⟩ := HX.out.lt
         obtain ⟨cap, c17, hca, hcb⟩ := HX.out.cell17 ho
         have hfr := HX.out.frozen
         have p2 := (HX.out.cellg (i := k * 89 + 2) (lt89 hk (by decide))).trans (ho.gb hk 2 rfl)
         have p32 := (HX.out.cellg (i := k * 89 + 32) (lt89 hk (by decide))).trans (ho.gb hk 32 rfl)
         have p6 := (HX.out.cellg (i := k * 89 + 6) (lt89 hk (by decide))).trans (ho.gi hk 6 rfl)
         have p17 := (HX.out.cellg (i := k * 89 + 17) (lt89 hk (by decide))).trans (ho.gi hk 17 rfl)
         rw [HMM.out] at p6))
    have hB1z : BrG _ (fun n => w3.heap.size ≤ n ∧ n < w4.heap.size + 1) w4.heap.size g (eh0 B k 1 0) := ((((HX.out.setp (k := k) (j := 2) hk (by decide) (.bool true)).setp (k := k) (j := 32) hk (by decide) (.bool false)).setp (k := k) (j := 6) hk (by decide) (.int .i64 1)).setp (k := k) (j := 17) hk (by decide) (.int .i64 0))
    have ok1z : Br.ok (eh0 B k 1 0) := ((((ho.setB (k := k) hk 2 true rfl).setB (k := k) hk 32 false rfl).setI (k := k) hk 6 .i64 1 rfl (by decide)).setI (k := k) hk 17 .i64 0 rfl (by decide))
    have hm1z := (((((Mut.refl (fun n => w3.heap.size ≤ n ∧ n < w4.heap.size + 1) wx).setCell (p := ⟨g, k * 89 + 2, none⟩) (.inl HX.out.F2) (.bool true)).setCell (p := ⟨g, k * 89 + 32, none⟩) (.inl HX.out.F2) (.bool false)).setCell (p := ⟨g, k * 89 + 6, none⟩) (.inl HX.out.F2) (.int .i64 1)).setCell (p := ⟨g, k * 89 + 17, none⟩) (.inl HX.out.F2) (.int .i64 0))
    refine (edge_step _ (fun n => w3.heap.size ≤ n ∧ n < w4.heap.size + 1) _ g k (eh0 B k 1 0) hB1z ok1z hk hk8).mono ?_
    rw [eh0_0 B k h89.out 1]
    rintro e v1 ⟨he, hB1, hm1⟩
    obtain rfl : e = .returned (.bool true) := he
    have ok1 := edgeF_ok ok1z (k := k) hk
    rw [eh0_0 B k h89.out 1] at ok1
    have hE11 := Ext.mutE hEx (hm1z.trans hm1) (fun n hn h1 => by have := h1.1; have := hs3.out; simp at hn; omega)
    have H1 := Lib.hid hB1
    clear hB1 hB1z ok1z hm1 hm1z hEx
    clear c17 hfr p2 p32 p6 p17
    go_wp2_with fail
    have hB2z : BrG _ (fun n => w3.heap.size ≤ n ∧ n < w4.heap.size + 1) w4.heap.size g (edgeOff (eh0 B k 1 0) k) := H1.out
    have ok2z : Br.ok (edgeOff (eh0 B k 1 0) k) := ok1
    have hm2z := (Mut.refl (fun n => w3.heap.size ≤ n ∧ n < w4.heap.size + 1) v1)
    refine (edge_step _ (fun n => w3.heap.size ≤ n ∧ n < w4.heap.size + 1) _ g k (edgeOff (eh0 B k 1 0) k) hB2z ok2z hk hk8).mono ?_
    rw [eh1 B k h89.out 1 (by decide)]
    rintro e v2 ⟨he, hB2, hm2⟩
    obtain rfl : e = .returned (.bool false) := he
    have ok2 := edgeF_ok ok2z (k := k) hk
    rw [eh1 B k h89.out 1 (by decide)] at ok2
    have hE12 := Ext.mutE hE11 (hm2z.trans hm2) (fun n hn h1 => by have := h1.1; have := hs3.out; simp at hn; omega)
    have H2 := Lib.hid hB2
    clear hB2 hB2z ok2z hm2 hm2z hE11
    obtain ⟨hXlz, hglz, hnez⟩ := H2.out.lt
    obtain ⟨capz, c17z, hcaz, hcbz⟩ := H2.out.cell17 ok2
    have hfrz := H2.out.frozen
    have p32z := (H2.out.cellg (i := k * 89 + 32) (lt89 hk (by decide))).trans (ok2.gb hk 32 rfl)
    have p17z := (H2.out.cellg (i := k * 89 + 17) (lt89 hk (by decide))).trans (ok2.gi hk 17 rfl)
    rw [eh1_c32 B k h89.out 1 0] at p32z
    rw [eh1_c17 B k h89.out 1 0] at p17z
    go_wp2_with fail
    go_ret
    exact ⟨rfl, ((Ext.refl w).alloc _).trans hE12⟩
  · subst hm
    go_wp2_with (first
      | fail
      | ((with_reducible refine at_store 33 ?_); refine wpList_store_new3 rfl rfl 33 _ _ _ rfl _ cx _ rfl ?_ rfl hcxi.out hcxz.out hcxo.out ?_; · rfl
         intro wx hwx
         obtain ⟨hBx, hEx, hzx0⟩ := HMK.out wx hwx
         have HX := Lib.hid hBx
         have hzx := Lib.hid hzx0
         clear hwx hBx hzx0
         obtain ⟨hXl, hgl, hne⟩ := HX.out.lt
         obtain ⟨cap, c17, hca, hcb⟩ := HX.out.cell17 ho
         have hfr := HX.out.frozen
         have p2 := (HX.out.cellg (i := k * 89 + 2) (lt89 hk (by decide))).trans (ho.gb hk 2 rfl)
         have p32 := (HX.out.cellg (i := k * 89 + 32) (lt89 hk (by decide))).trans (ho.gb hk 32 rfl)
         have p6 := (HX.out.cellg (i := k * 89 + 6) (lt89 hk (by decide))).trans (ho.gi hk 6 rfl)
         have p17 := (HX.out.cellg (i := k * 89 + 17) (lt89 hk (by decide))).trans (ho.gi hk 17 rfl)
         rw [HMM.out] at p6))
    have hB1z : BrG _ (fun n => w3.heap.size ≤ n ∧ n < w4.heap.size + 1) w4.heap.size g (eh0 B k 1 1) := ((((HX.out.setp (k := k) (j := 2) hk (by decide) (.bool true)).setp (k := k) (j := 32) hk (by decide) (.bool false)).setp (k := k) (j := 6) hk (by decide) (.int .i64 1)).setp (k := k) (j := 17) hk (by decide) (.int .i64 1))
    have ok1z : Br.ok (eh0 B k 1 1) := ((((ho.setB (k := k) hk 2 true rfl).setB (k := k) hk 32 false rfl).setI (k := k) hk 6 .i64 1 rfl (by decide)).setI (k := k) hk 17 .i64 1 rfl (by decide))
    have hm1z := (((((Mut.refl (fun n => w3.heap.size ≤ n ∧ n < w4.heap.size + 1) wx).setCell (p := ⟨g, k * 89 + 2, none⟩) (.inl HX.out.F2) (.bool true)).setCell (p := ⟨g, k * 89 + 32, none⟩) (.inl HX.out.F2) (.bool false)).setCell (p := ⟨g, k * 89 + 6, none⟩) (.inl HX.out.F2) (.int .i64 1)).setCell (p := ⟨g, k * 89 + 17, none⟩) (.inl HX.out.F2) (.int .i64 1))
    refine (edge_step _ (fun n => w3.heap.size ≤ n ∧ n < w4.heap.size + 1) _ g k (eh0 B k 1 1) hB1z ok1z hk hk8).mono ?_
    rw [eh0_1 B k h89.out 1 (by decide)]
    rintro e v1 ⟨he, hB1, hm1⟩
    obtain rfl : e = .returned (.bool false) := he
    have ok1 := edgeF_ok ok1z (k := k) hk
    rw [eh0_1 B k h89.out 1 (by decide)] at ok1
    have hE11 := Ext.mutE hEx (hm1z.trans hm1) (fun n hn h1 => by have := h1.1; have := hs3.out; simp at hn; omega)
    have H1 := Lib.hid hB1
    clear hB1 hB1z ok1z hm1 hm1z hEx
    clear c17 hfr p2 p32 p6 p17
    go_wp2_with fail
    have hB2z : BrG _ (fun n => w3.heap.size ≤ n ∧ n < w4.heap.size + 1) w4.heap.size g (eh0 B k 1 1) := H1.out
    have ok2z : Br.ok (eh0 B k 1 1) := ok1
    have hm2z := (Mut.refl (fun n => w3.heap.size ≤ n ∧ n < w4.heap.size + 1) v1)
    refine (edge_step _ (fun n => w3.heap.size ≤ n ∧ n < w4.heap.size + 1) _ g k (eh0 B k 1 1) hB2z ok2z hk hk8).mono ?_
    rw [eh0_1 B k h89.out 1 (by decide)]
    rintro e v2 ⟨he, hB2, hm2⟩
    obtain rfl : e = .returned (.bool false) := he
    have ok2 := edgeF_ok ok2z (k := k) hk
    rw [eh0_1 B k h89.out 1 (by decide)] at ok2
    have hE12 := Ext.mutE hE11 (hm2z.trans hm2) (fun n hn h1 => by have := h1.1; have := hs3.out; simp at hn; omega)
    have H2 := Lib.hid hB2
    clear hB2 hB2z ok2z hm2 hm2z hE11
    obtain ⟨hXlz, hglz, hnez⟩ := H2.out.lt
    obtain ⟨capz, c17z, hcaz, hcbz⟩ := H2.out.cell17 ok2
    have hfrz := H2.out.frozen
    have p32z := (H2.out.cellg (i := k * 89 + 32) (lt89 hk (by decide))).trans (ok2.gb hk 32 rfl)
    have p17z := (H2.out.cellg (i := k * 89 + 17) (lt89 hk (by decide))).trans (ok2.gi hk 17 rfl)
    rw [eh0_c32 B k h89.out 1 1] at p32z
    rw [eh0_c17 B k h89.out 1 1] at p17z
    go_wp2_with fail
    go_ret
    exact ⟨rfl, ((Ext.refl w).alloc _).trans hE12⟩
  · go_wp2_with (first
      | fail
      | ((with_reducible refine at_store 33 ?_); refine wpList_store_new3 rfl rfl 33 _ _ _ rfl _ cx _ rfl ?_ rfl hcxi.out hcxz.out hcxo.out ?_; · rfl
         intro wx hwx
         obtain ⟨hBx, hEx, hzx0⟩ := HMK.out wx hwx
         have HX := Lib.hid hBx
         have hzx := Lib.hid hzx0
         clear hwx hBx hzx0
         obtain ⟨hXl, hgl, hne⟩ := HX.out.lt
         obtain ⟨cap, c17, hca, hcb⟩ := HX.out.cell17 ho
         have hfr := HX.out.frozen
         have p2 := (HX.out.cellg (i := k * 89 + 2) (lt89 hk (by decide))).trans (ho.gb hk 2 rfl)
         have p32 := (HX.out.cellg (i := k * 89 + 32) (lt89 hk (by decide))).trans (ho.gb hk 32 rfl)
         have p6 := (HX.out.cellg (i := k * 89 + 6) (lt89 hk (by decide))).trans (ho.gi hk 6 rfl)
         have p17 := (HX.out.cellg (i := k * 89 + 17) (lt89 hk (by decide))).trans (ho.gi hk 17 rfl)
         rw [HMM.out] at p6))
    have hB1z : BrG _ (fun n => w3.heap.size ≤ n ∧ n < w4.heap.size + 1) w4.heap.size g (eh0 B k m 0) := ((((HX.out.setp (k := k) (j := 2) hk (by decide) (.bool true)).setp (k := k) (j := 32) hk (by decide) (.bool false)).setp (k := k) (j := 6) hk (by decide) (.int .i64 m)).setp (k := k) (j := 17) hk (by decide) (.int .i64 0))
    have ok1z : Br.ok (eh0 B k m 0) := ((((ho.setB (k := k) hk 2 true rfl).setB (k := k) hk 32 false rfl).setI (k := k) hk 6 .i64 m rfl (by simp [Lit.wf, IntKind.min, IntKind.max, IntKind.signed, IntKind.bits]; omega)).setI (k := k) hk 17 .i64 0 rfl (by decide))
    have hm1z := (((((Mut.refl (fun n => w3.heap.size ≤ n ∧ n < w4.heap.size + 1) wx).setCell (p := ⟨g, k * 89 + 2, none⟩) (.inl HX.out.F2) (.bool true)).setCell (p := ⟨g, k * 89 + 32, none⟩) (.inl HX.out.F2) (.bool false)).setCell (p := ⟨g, k * 89 + 6, none⟩) (.inl HX.out.F2) (.int .i64 m)).setCell (p := ⟨g, k * 89 + 17, none⟩) (.inl HX.out.F2) (.int .i64 0))
    refine (edge_step _ (fun n => w3.heap.size ≤ n ∧ n < w4.heap.size + 1) _ g k (eh0 B k m 0) hB1z ok1z hk hk8).mono ?_
    rw [eh0_0 B k h89.out m]
    rintro e v1 ⟨he, hB1, hm1⟩
    obtain rfl : e = .returned (.bool true) := he
    have ok1 := edgeF_ok ok1z (k := k) hk
    rw [eh0_0 B k h89.out m] at ok1
    have hE11 := Ext.mutE hEx (hm1z.trans hm1) (fun n hn h1 => by have := h1.1; have := hs3.out; simp at hn; omega)
    have H1 := Lib.hid hB1
    clear hB1 hB1z ok1z hm1 hm1z hEx
    clear c17 hfr p2 p32 p6 p17
    go_wp2_with fail
    have hB2z : BrG _ (fun n => w3.heap.size ≤ n ∧ n < w4.heap.size + 1) w4.heap.size g (edgeOff (eh0 B k m 0) k) := H1.out
    have ok2z : Br.ok (edgeOff (eh0 B k m 0) k) := ok1
    have hm2z := (Mut.refl (fun n => w3.heap.size ≤ n ∧ n < w4.heap.size + 1) v1)
    refine (edge_step _ (fun n => w3.heap.size ≤ n ∧ n < w4.heap.size + 1) _ g k (edgeOff (eh0 B k m 0) k) hB2z ok2z hk hk8).mono ?_
    rw [eh1 B k h89.out m (by omega)]
    rintro e v2 ⟨he, hB2, hm2⟩
    obtain rfl : e = .returned (.bool false) := he
    have ok2 := edgeF_ok ok2z (k := k) hk
    rw [eh1 B k h89.out m (by omega)] at ok2
    have hE12 := Ext.mutE hE11 (hm2z.trans hm2) (fun n hn h1 => by have := h1.1; have := hs3.out; simp at hn; omega)
    have H2 := Lib.hid hB2
    clear hB2 hB2z ok2z hm2 hm2z hE11
    obtain ⟨hXlz, hglz, hnez⟩ := H2.out.lt
    obtain ⟨capz, c17z, hcaz, hcbz⟩ := H2.out.cell17 ok2
    have hfrz := H2.out.frozen
    have p32z := (H2.out.cellg (i := k * 89 + 32) (lt89 hk (by decide))).trans (ok2.gb hk 32 rfl)
    have p17z := (H2.out.cellg (i := k * 89 + 17) (lt89 hk (by decide))).trans (ok2.gi hk 17 rfl)
    rw [eh1_c32 B k h89.out m 0] at p32z
    rw [eh1_c17 B k h89.out m 0] at p17z
    go_wp2_with fail
    go_ret
    exact ⟨rfl, ((Ext.refl w).alloc _).trans hE12⟩
  · go_wp2_with (first
      | fail
      | ((with_reducible refine at_store 33 ?_); refine wpList_store_new3 rfl rfl 33 _ _ _ rfl _ cx _ rfl ?_ rfl hcxi.out hcxz.out hcxo.out ?_; · rfl
         intro wx hwx
         obtain ⟨hBx, hEx, hzx0⟩ := HMK.out wx hwx
         have HX := Lib.hid hBx
         have hzx := Lib.hid hzx0
         clear hwx hBx hzx0
         obtain ⟨hXl, hgl, hne⟩ := HX.out.lt
         obtain ⟨cap, c17, hca, hcb⟩ := HX.out.cell17 ho
         have hfr := HX.out.frozen
         have p2 := (HX.out.cellg (i := k * 89 + 2) (lt89 hk (by decide))).trans (ho.gb hk 2 rfl)
         have p32 := (HX.out.cellg (i := k * 89 + 32) (lt89 hk (by decide))).trans (ho.gb hk 32 rfl)
         have p6 := (HX.out.cellg (i := k * 89 + 6) (lt89 hk (by decide))).trans (ho.gi hk 6 rfl)
         have p17 := (HX.out.cellg (i := k * 89 + 17) (lt89 hk (by decide))).trans (ho.gi hk 17 rfl)
         rw [HMM.out] at p6))
    have hB1z : BrG _ (fun n => w3.heap.size ≤ n ∧ n < w4.heap.size + 1) w4.heap.size g (eh0 B k m 1) := ((((HX.out.setp (k := k) (j := 2) hk (by decide) (.bool true)).setp (k := k) (j := 32) hk (by decide) (.bool false)).setp (k := k) (j := 6) hk (by decide) (.int .i64 m)).setp (k := k) (j := 17) hk (by decide) (.int .i64 1))
    have ok1z : Br.ok (eh0 B k m 1) := ((((ho.setB (k := k) hk 2 true rfl).setB (k := k) hk 32 false rfl).setI (k := k) hk 6 .i64 m rfl (by simp [Lit.wf, IntKind.min, IntKind.max, IntKind.signed, IntKind.bits]; omega)).setI (k := k) hk 17 .i64 1 rfl (by decide))
    have hm1z := (((((Mut.refl (fun n => w3.heap.size ≤ n ∧ n < w4.heap.size + 1) wx).setCell (p := ⟨g, k * 89 + 2, none⟩) (.inl HX.out.F2) (.bool true)).setCell (p := ⟨g, k * 89 + 32, none⟩) (.inl HX.out.F2) (.bool false)).setCell (p := ⟨g, k * 89 + 6, none⟩) (.inl HX.out.F2) (.int .i64 m)).setCell (p := ⟨g, k * 89 + 17, none⟩) (.inl HX.out.F2) (.int .i64 1))
    refine (edge_step _ (fun n => w3.heap.size ≤ n ∧ n < w4.heap.size + 1) _ g k (eh0 B k m 1) hB1z ok1z hk hk8).mono ?_
    rw [eh0_1 B k h89.out m (by omega)]
    rintro e v1 ⟨he, hB1, hm1⟩
    obtain rfl : e = .returned (.bool false) := he
    have ok1 := edgeF_ok ok1z (k := k) hk
    rw [eh0_1 B k h89.out m (by omega)] at ok1
    have hE11 := Ext.mutE hEx (hm1z.trans hm1) (fun n hn h1 => by have := h1.1; have := hs3.out; simp at hn; omega)
    have H1 := Lib.hid hB1
    clear hB1 hB1z ok1z hm1 hm1z hEx
    clear c17 hfr p2 p32 p6 p17
    go_wp2_with fail
    have hB2z : BrG _ (fun n => w3.heap.size ≤ n ∧ n < w4.heap.size + 1) w4.heap.size g (eh0 B k m 1) := H1.out
    have ok2z : Br.ok (eh0 B k m 1) := ok1
    have hm2z := (Mut.refl (fun n => w3.heap.size ≤ n ∧ n < w4.heap.size + 1) v1)
    refine (edge_step _ (fun n => w3.heap.size ≤ n ∧ n < w4.heap.size + 1) _ g k (eh0 B k m 1) hB2z ok2z hk hk8).mono ?_
    rw [eh0_1 B k h89.out m (by omega)]
    rintro e v2 ⟨he, hB2, hm2⟩
    obtain rfl : e = .returned (.bool false) := he
    have ok2 := edgeF_ok ok2z (k := k) hk
    rw [eh0_1 B k h89.out m (by omega)] at ok2
    have hE12 := Ext.mutE hE11 (hm2z.trans hm2) (fun n hn h1 => by have := h1.1; have := hs3.out; simp at hn; omega)
    have H2 := Lib.hid hB2
    clear hB2 hB2z ok2z hm2 hm2z hE11
    obtain ⟨hXlz, hglz, hnez⟩ := H2.out.lt
    obtain ⟨capz, c17z, hcaz, hcbz⟩ := H2.out.cell17 ok2
    have hfrz := H2.out.frozen
    have p32z := (H2.out.cellg (i := k * 89 + 32) (lt89 hk (by decide))).trans (ok2.gb hk 32 rfl)
    have p17z := (H2.out.cellg (i := k * 89 + 17) (lt89 hk (by decide))).trans (ok2.gi hk 17 rfl)
    rw [eh0_c32 B k h89.out m 1] at p32z
    rw [eh0_c17 B k h89.out m 1] at p17z
    go_wp2_with fail
    go_ret
    exact ⟨rfl, ((Ext.refl w).alloc _).trans hE12⟩

end Go.Proofs.Ytfbgianmcmgekaa
