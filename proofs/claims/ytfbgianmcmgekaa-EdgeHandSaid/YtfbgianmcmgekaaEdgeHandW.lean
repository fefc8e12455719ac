/- The walk of EdgeHand. No statement is proved here. -/
import Derived.Test.YtfbgianmcmgekaaEdgeM
namespace Go.Proofs.Ytfbgianmcmgekaa
open Go.RowKit Go.BigFrame Go.WideShapes Go.ChangeShapes Go.Deep
set_option linter.unusedVariables false

set_option maxRecDepth 100000 in
set_option maxHeartbeats 2000000 in
theorem law_EdgeHand {w : World} (c : Array Value) (B : Br) (hb : BrC w c B) (ho : B.ok) (i : Int) (hi : 0 ≤ i ∧ i < 256) (st : Int) (hst : 0 ≤ st ∧ st < 256) :
    Calls Try.prog 10 #[.agg c, .int .u8 i, .int .u8 st] w fun e w' => e = .returned (.bool true) ∧ Ext w w' := by
  have hl := ho.hd.1
  have hz : c.size = 20 := by
    obtain ⟨_, _, _, h, _⟩ := hb.facts ho.hd.1
    exact h
  have hi20 := Lib.hid (show (Try.prog.info? 33).map (·.size) = some c.size by rw [hz]; exact size_br)
  have HB := Lib.hid hb
  have hcz := hz
  clear hb hl hz
  go_enter Try.func10, Try.ntmps10
  go_wp2_with fail
  refine (edge_awake _).mono ?_
  rintro e w1 ⟨rfl, hE1⟩
  go_wp2_with (first | fail | ((with_reducible refine at_load 33 ?_); refine wpList_load_row rfl 33 _ rfl _ rfl _ c (0, 0) _ (box_heap hE1) Try.underlying33 rfl hi20.out ?_))
  refine (few_any c B _ (HB.out.ext (((Ext.refl w).alloc _).trans hE1)) ho).mono ?_
  rintro e w2 ⟨f, rfl, hx2, hf⟩
  have hE2 := Ext.trans hE1 hx2
  clear hE1 hx2
  cases f
  · go_wp2_with fail
    go_ret
    exact ⟨rfl, ((Ext.refl w).alloc _).trans hE2⟩
  have hfew := Lib.hid (hf.1 rfl)
  clear hf
  have hn1 := hfew.out.2.1
  go_wp2_with (first | fail | ((with_reducible refine at_load 33 ?_); refine wpList_load_row rfl 33 _ rfl _ rfl _ c (0, 0) _ (box_heap hE2) Try.underlying33 rfl hi20.out ?_))
  refine (at_any c B i _ (HB.out.ext (((Ext.refl w).alloc _).trans hE2)) ho hi hn1).mono ?_
  rintro e w3 ⟨rfl, hx3⟩
  have hE3 := Ext.trans hE2 hx3
  clear hE2 hx3
  obtain ⟨k, hk0⟩ : ∃ k, i.toNat % B.np = k := ⟨_, rfl⟩
  have hk : k < B.np := by rw [← hk0]; exact Nat.mod_lt _ hn1
  have hk8 : k < 1000 := by have := hfew.out; omega
  rw [hk0]
  clear hk0
  go_wp2_with (first | fail | ((with_reducible refine at_load 33 ?_); refine wpList_load_row rfl 33 _ rfl _ rfl _ c (0, 0) _ (box_heap hE3) Try.underlying33 rfl hi20.out ?_))
  refine (clone_any c B _ (HB.out.ext (((Ext.refl w).alloc _).trans hE3)) ho (by have := hfew.out; omega)).mono ?_
  rintro e w4 ⟨cx, rfl, hO4, hx4⟩
  have hE4 := Ext.trans hE3 hx4
  have hcxz := Lib.hid (size_z20.trans (hO4.size ho).symm)
  have hcxo := Lib.hid (hO4.one ho)
  have hcxi := Lib.hid (show (Try.prog.info? 33).map (·.size) = some cx.size by rw [hO4.size ho]; exact size_br)
  obtain ⟨g, hBx⟩ := hO4.made hx4.size hn1
  have HX := Lib.hid hBx
  have hs3 := Lib.hid (show w.heap.size < w3.heap.size from Nat.lt_of_lt_of_le (by simp) hE3.size)
  have hs4 := Lib.hid hx4.size
  have HMK := Lib.hid (show ∀ wx : World, wx = w4.alloc (.cells cx 33) → BrG wx (fun n => w3.heap.size ≤ n ∧ n < w4.heap.size + 1) w4.heap.size g B ∧ Ext (w.alloc (.cells c 33)) wx ∧ wx.heap.size = w4.heap.size + 1 from by
    rintro _ rfl
    exact ⟨hBx, hE4.alloc _, by simp⟩)
  clear hBx hO4 hx4 hE3
  have h89 := Lib.hid (len89 ho hk)
  obtain ⟨hst0, hst1⟩ := hst
  rcases (by omega : st % 2 = 0 ∨ st % 2 = 1) with hs | hs <;> cases had : B.gb k 4 <;> cases hoe : B.gb k 32
  · have HAD := Lib.hid had
    have HOE := Lib.hid hoe
    clear had hoe
    go_wp2_with (first
      | fail
      | ((with_reducible refine at_store 33 ?_); refine wpList_store_new3 rfl rfl 33 _ _ _ rfl _ cx _ rfl ?_ rfl hcxi.out hcxz.out hcxo.out ?_; · rfl
         intro wx hwx
         obtain ⟨hBx, hEx, hzx0⟩ := HMK.out wx hwx
         have HX := Lib.hid hBx
         have hzx := Lib.hid hzx0
         clear hwx hBx hzx0
         obtain ⟨hXl, hgl, hne⟩ := HX.out.lt
         obtain ⟨cap, c17, hca, hcb⟩ := HX.out.cell17 ho
         have hfr := HX.out.frozen
         have p2 := (HX.out.cellg (i := k * 89 + 2) (lt89 hk (by decide))).trans (ho.gb hk 2 rfl)
         have p5 := (HX.out.cellg (i := k * 89 + 5) (lt89 hk (by decide))).trans (ho.gb hk 5 rfl)
         have p17 := (HX.out.cellg (i := k * 89 + 17) (lt89 hk (by decide))).trans (ho.gi hk 17 rfl)))
    have hB1z : BrG _ (fun n => w3.heap.size ≤ n ∧ n < w4.heap.size + 1) w4.heap.size g (ek0 B k 0) := (((HX.out.setp (k := k) (j := 2) hk (by decide) (.bool false)).setp (k := k) (j := 5) hk (by decide) (.bool false)).setp (k := k) (j := 17) hk (by decide) (.int .i64 0))
    have ok1z : Br.ok (ek0 B k 0) := (((ho.setB (k := k) hk 2 false rfl).setB (k := k) hk 5 false rfl).setI (k := k) hk 17 .i64 0 rfl (by decide))
    have hm1z := ((((Mut.refl (fun n => w3.heap.size ≤ n ∧ n < w4.heap.size + 1) wx).setCell (p := ⟨g, k * 89 + 2, none⟩) (.inl HX.out.F2) (.bool false)).setCell (p := ⟨g, k * 89 + 5, none⟩) (.inl HX.out.F2) (.bool false)).setCell (p := ⟨g, k * 89 + 17, none⟩) (.inl HX.out.F2) (.int .i64 0))
    refine (edge_step _ (fun n => w3.heap.size ≤ n ∧ n < w4.heap.size + 1) _ g k (ek0 B k 0) hB1z ok1z hk hk8).mono ?_
    rw [ek_000_0 B k h89.out HAD.out HOE.out]
    rintro e v1 ⟨he, hB1, hm1⟩
    obtain rfl : e = .returned (.bool true) := he
    have ok1 := edgeF_ok ok1z (k := k) hk
    rw [ek_000_0 B k h89.out HAD.out HOE.out] at ok1
    have hE11 := Ext.mutE hEx (hm1z.trans hm1) (fun n hn h1 => by have := h1.1; have := hs3.out; simp at hn; omega)
    have H1 := Lib.hid hB1
    clear hB1 hB1z ok1z hm1 hm1z hEx
    clear c17 hfr p2 p5 p17
    go_wp2_with fail
    have hB2z : BrG _ (fun n => w3.heap.size ≤ n ∧ n < w4.heap.size + 1) w4.heap.size g (edgeOff (ek0 B k 0) k) := H1.out
    have ok2z : Br.ok (edgeOff (ek0 B k 0) k) := ok1
    have hm2z := (Mut.refl (fun n => w3.heap.size ≤ n ∧ n < w4.heap.size + 1) v1)
    refine (edge_step _ (fun n => w3.heap.size ≤ n ∧ n < w4.heap.size + 1) _ g k (edgeOff (ek0 B k 0) k) hB2z ok2z hk hk8).mono ?_
    rw [ek_000_1 B k h89.out HAD.out HOE.out]
    rintro e v2 ⟨he, hB2, hm2⟩
    obtain rfl : e = .returned (.bool false) := he
    have ok2 := edgeF_ok ok2z (k := k) hk
    rw [ek_000_1 B k h89.out HAD.out HOE.out] at ok2
    have hE12 := Ext.mutE hE11 (hm2z.trans hm2) (fun n hn h1 => by have := h1.1; have := hs3.out; simp at hn; omega)
    have H2 := Lib.hid hB2
    clear hB2 hB2z ok2z hm2 hm2z hE11
    obtain ⟨hXlz, hglz, hnez⟩ := H2.out.lt
    obtain ⟨capz, c17z, hcaz, hcbz⟩ := H2.out.cell17 ok2
    have hfrz := H2.out.frozen
    have hqr0 := H2.out.range (k := k) hk
    have hqt := port_typed ok2 (i := k) hk
    have c17q := (port_at (B := (edgeOff (ek0 B k 0) k)) (k := k) (j := 17) (by decide)).trans (ok2.gi hk 17 rfl)
    rw [ek_000_c17 B k h89.out HAD.out HOE.out] at c17q
    have c4q := (port_at (B := (edgeOff (ek0 B k 0) k)) (k := k) (j := 4) (by decide)).trans (ok2.gb hk 4 rfl)
    rw [ek_000_c4 B k h89.out HAD.out HOE.out] at c4q
    have c32q := (port_at (B := (edgeOff (ek0 B k 0) k)) (k := k) (j := 32) (by decide)).trans (ok2.gb hk 32 rfl)
    rw [ek_000_c32 B k h89.out HAD.out HOE.out] at c32q
    obtain ⟨pq, hpq⟩ : ∃ p, port ((edgeOff (ek0 B k 0) k)).ps k = p := ⟨_, rfl⟩
    rw [hpq] at hqr0 hqt c17q c4q c32q
    clear hpq
    have hqr := Lib.hid hqr0
    have hqi := Lib.hid (show (Try.prog.info? 52).map (·.size) = some pq.length by rw [hqt.1]; exact size_port)
    have hqi2 := Lib.hid (show (Try.prog.info? 52).map (·.size) = some pq.toArray.size by rw [List.size_toArray]; exact hqi.out)
    have hqs := Lib.hid (show PZ.size = pq.toArray.size by rw [size_PZ, List.size_toArray]; exact hqt.1.symm)
    have hqo := Lib.hid (all_oneCell_toArray hqt.one)
    have hqz := zero_port
    clear hqr0 hqt
    go_wp2_with (first | fail | ((with_reducible refine at_load 52 ?_); refine wpList_load_mid rfl 52 _ rfl g (k * 89) rfl pq _ hqr.out Try.underlying52 rfl hqi.out ?_) | ((with_reducible refine at_store 52 ?_); refine wpList_store_new rfl 52 _ _ rfl PZ pq.toArray rfl rfl hqi2.out hqs.out hqo.out ?_))
    go_ret
    exact ⟨rfl, ((Ext.refl w).alloc _).trans (hE12.alloc _)⟩
  · have HAD := Lib.hid had
    have HOE := Lib.hid hoe
    clear had hoe
    go_wp2_with (first
      | fail
      | ((with_reducible refine at_store 33 ?_); refine wpList_store_new3 rfl rfl 33 _ _ _ rfl _ cx _ rfl ?_ rfl hcxi.out hcxz.out hcxo.out ?_; · rfl
         intro wx hwx
         obtain ⟨hBx, hEx, hzx0⟩ := HMK.out wx hwx
         have HX := Lib.hid hBx
         have hzx := Lib.hid hzx0
         clear hwx hBx hzx0
         obtain ⟨hXl, hgl, hne⟩ := HX.out.lt
         obtain ⟨cap, c17, hca, hcb⟩ := HX.out.cell17 ho
         have hfr := HX.out.frozen
         have p2 := (HX.out.cellg (i := k * 89 + 2) (lt89 hk (by decide))).trans (ho.gb hk 2 rfl)
         have p5 := (HX.out.cellg (i := k * 89 + 5) (lt89 hk (by decide))).trans (ho.gb hk 5 rfl)
         have p17 := (HX.out.cellg (i := k * 89 + 17) (lt89 hk (by decide))).trans (ho.gi hk 17 rfl)))
    have hB1z : BrG _ (fun n => w3.heap.size ≤ n ∧ n < w4.heap.size + 1) w4.heap.size g (ek0 B k 0) := (((HX.out.setp (k := k) (j := 2) hk (by decide) (.bool false)).setp (k := k) (j := 5) hk (by decide) (.bool false)).setp (k := k) (j := 17) hk (by decide) (.int .i64 0))
    have ok1z : Br.ok (ek0 B k 0) := (((ho.setB (k := k) hk 2 false rfl).setB (k := k) hk 5 false rfl).setI (k := k) hk 17 .i64 0 rfl (by decide))
    have hm1z := ((((Mut.refl (fun n => w3.heap.size ≤ n ∧ n < w4.heap.size + 1) wx).setCell (p := ⟨g, k * 89 + 2, none⟩) (.inl HX.out.F2) (.bool false)).setCell (p := ⟨g, k * 89 + 5, none⟩) (.inl HX.out.F2) (.bool false)).setCell (p := ⟨g, k * 89 + 17, none⟩) (.inl HX.out.F2) (.int .i64 0))
    refine (edge_step _ (fun n => w3.heap.size ≤ n ∧ n < w4.heap.size + 1) _ g k (ek0 B k 0) hB1z ok1z hk hk8).mono ?_
    rw [ek_001_0 B k h89.out HAD.out HOE.out]
    rintro e v1 ⟨he, hB1, hm1⟩
    obtain rfl : e = .returned (.bool true) := he
    have ok1 := edgeF_ok ok1z (k := k) hk
    rw [ek_001_0 B k h89.out HAD.out HOE.out] at ok1
    have hE11 := Ext.mutE hEx (hm1z.trans hm1) (fun n hn h1 => by have := h1.1; have := hs3.out; simp at hn; omega)
    have H1 := Lib.hid hB1
    clear hB1 hB1z ok1z hm1 hm1z hEx
    clear c17 hfr p2 p5 p17
    go_wp2_with fail
    have hB2z : BrG _ (fun n => w3.heap.size ≤ n ∧ n < w4.heap.size + 1) w4.heap.size g (edgeOff (ek0 B k 0) k) := H1.out
    have ok2z : Br.ok (edgeOff (ek0 B k 0) k) := ok1
    have hm2z := (Mut.refl (fun n => w3.heap.size ≤ n ∧ n < w4.heap.size + 1) v1)
    refine (edge_step _ (fun n => w3.heap.size ≤ n ∧ n < w4.heap.size + 1) _ g k (edgeOff (ek0 B k 0) k) hB2z ok2z hk hk8).mono ?_
    rw [ek_001_1 B k h89.out HAD.out HOE.out]
    rintro e v2 ⟨he, hB2, hm2⟩
    obtain rfl : e = .returned (.bool false) := he
    have ok2 := edgeF_ok ok2z (k := k) hk
    rw [ek_001_1 B k h89.out HAD.out HOE.out] at ok2
    have hE12 := Ext.mutE hE11 (hm2z.trans hm2) (fun n hn h1 => by have := h1.1; have := hs3.out; simp at hn; omega)
    have H2 := Lib.hid hB2
    clear hB2 hB2z ok2z hm2 hm2z hE11
    obtain ⟨hXlz, hglz, hnez⟩ := H2.out.lt
    obtain ⟨capz, c17z, hcaz, hcbz⟩ := H2.out.cell17 ok2
    have hfrz := H2.out.frozen
    have hqr0 := H2.out.range (k := k) hk
    have hqt := port_typed ok2 (i := k) hk
    have c17q := (port_at (B := (edgeOff (ek0 B k 0) k)) (k := k) (j := 17) (by decide)).trans (ok2.gi hk 17 rfl)
    rw [ek_001_c17 B k h89.out HAD.out HOE.out] at c17q
    have c4q := (port_at (B := (edgeOff (ek0 B k 0) k)) (k := k) (j := 4) (by decide)).trans (ok2.gb hk 4 rfl)
    rw [ek_001_c4 B k h89.out HAD.out HOE.out] at c4q
    have c32q := (port_at (B := (edgeOff (ek0 B k 0) k)) (k := k) (j := 32) (by decide)).trans (ok2.gb hk 32 rfl)
    rw [ek_001_c32 B k h89.out HAD.out HOE.out] at c32q
    obtain ⟨pq, hpq⟩ : ∃ p, port ((edgeOff (ek0 B k 0) k)).ps k = p := ⟨_, rfl⟩
    rw [hpq] at hqr0 hqt c17q c4q c32q
    clear hpq
    have hqr := Lib.hid hqr0
    have hqi := Lib.hid (show (Try.prog.info? 52).map (·.size) = some pq.length by rw [hqt.1]; exact size_port)
    have hqi2 := Lib.hid (show (Try.prog.info? 52).map (·.size) = some pq.toArray.size by rw [List.size_toArray]; exact hqi.out)
    have hqs := Lib.hid (show PZ.size = pq.toArray.size by rw [size_PZ, List.size_toArray]; exact hqt.1.symm)
    have hqo := Lib.hid (all_oneCell_toArray hqt.one)
    have hqz := zero_port
    clear hqr0 hqt
    go_wp2_with (first | fail | ((with_reducible refine at_load 52 ?_); refine wpList_load_mid rfl 52 _ rfl g (k * 89) rfl pq _ hqr.out Try.underlying52 rfl hqi.out ?_) | ((with_reducible refine at_store 52 ?_); refine wpList_store_new rfl 52 _ _ rfl PZ pq.toArray rfl rfl hqi2.out hqs.out hqo.out ?_))
    go_ret
    exact ⟨rfl, ((Ext.refl w).alloc _).trans (hE12.alloc _)⟩
  · have HAD := Lib.hid had
    have HOE := Lib.hid hoe
    clear had hoe
    go_wp2_with (first
      | fail
      | ((with_reducible refine at_store 33 ?_); refine wpList_store_new3 rfl rfl 33 _ _ _ rfl _ cx _ rfl ?_ rfl hcxi.out hcxz.out hcxo.out ?_; · rfl
         intro wx hwx
         obtain ⟨hBx, hEx, hzx0⟩ := HMK.out wx hwx
         have HX := Lib.hid hBx
         have hzx := Lib.hid hzx0
         clear hwx hBx hzx0
         obtain ⟨hXl, hgl, hne⟩ := HX.out.lt
         obtain ⟨cap, c17, hca, hcb⟩ := HX.out.cell17 ho
         have hfr := HX.out.frozen
         have p2 := (HX.out.cellg (i := k * 89 + 2) (lt89 hk (by decide))).trans (ho.gb hk 2 rfl)
         have p5 := (HX.out.cellg (i := k * 89 + 5) (lt89 hk (by decide))).trans (ho.gb hk 5 rfl)
         have p17 := (HX.out.cellg (i := k * 89 + 17) (lt89 hk (by decide))).trans (ho.gi hk 17 rfl)))
    have hB1z : BrG _ (fun n => w3.heap.size ≤ n ∧ n < w4.heap.size + 1) w4.heap.size g (ek0 B k 0) := (((HX.out.setp (k := k) (j := 2) hk (by decide) (.bool false)).setp (k := k) (j := 5) hk (by decide) (.bool false)).setp (k := k) (j := 17) hk (by decide) (.int .i64 0))
    have ok1z : Br.ok (ek0 B k 0) := (((ho.setB (k := k) hk 2 false rfl).setB (k := k) hk 5 false rfl).setI (k := k) hk 17 .i64 0 rfl (by decide))
    have hm1z := ((((Mut.refl (fun n => w3.heap.size ≤ n ∧ n < w4.heap.size + 1) wx).setCell (p := ⟨g, k * 89 + 2, none⟩) (.inl HX.out.F2) (.bool false)).setCell (p := ⟨g, k * 89 + 5, none⟩) (.inl HX.out.F2) (.bool false)).setCell (p := ⟨g, k * 89 + 17, none⟩) (.inl HX.out.F2) (.int .i64 0))
    refine (edge_step _ (fun n => w3.heap.size ≤ n ∧ n < w4.heap.size + 1) _ g k (ek0 B k 0) hB1z ok1z hk hk8).mono ?_
    rw [ek_010_0 B k h89.out HAD.out HOE.out]
    rintro e v1 ⟨he, hB1, hm1⟩
    obtain rfl : e = .returned (.bool true) := he
    have ok1 := edgeF_ok ok1z (k := k) hk
    rw [ek_010_0 B k h89.out HAD.out HOE.out] at ok1
    have hE11 := Ext.mutE hEx (hm1z.trans hm1) (fun n hn h1 => by have := h1.1; have := hs3.out; simp at hn; omega)
    have H1 := Lib.hid hB1
    clear hB1 hB1z ok1z hm1 hm1z hEx
    clear c17 hfr p2 p5 p17
    go_wp2_with fail
    have hB2z : BrG _ (fun n => w3.heap.size ≤ n ∧ n < w4.heap.size + 1) w4.heap.size g (edgeOff (ek0 B k 0) k) := H1.out
    have ok2z : Br.ok (edgeOff (ek0 B k 0) k) := ok1
    have hm2z := (Mut.refl (fun n => w3.heap.size ≤ n ∧ n < w4.heap.size + 1) v1)
    refine (edge_step _ (fun n => w3.heap.size ≤ n ∧ n < w4.heap.size + 1) _ g k (edgeOff (ek0 B k 0) k) hB2z ok2z hk hk8).mono ?_
    rw [ek_010_1 B k h89.out HAD.out HOE.out]
    rintro e v2 ⟨he, hB2, hm2⟩
    obtain rfl : e = .returned (.bool true) := he
    have ok2 := edgeF_ok ok2z (k := k) hk
    rw [ek_010_1 B k h89.out HAD.out HOE.out] at ok2
    have hE12 := Ext.mutE hE11 (hm2z.trans hm2) (fun n hn h1 => by have := h1.1; have := hs3.out; simp at hn; omega)
    have H2 := Lib.hid hB2
    clear hB2 hB2z ok2z hm2 hm2z hE11
    obtain ⟨hXlz, hglz, hnez⟩ := H2.out.lt
    obtain ⟨capz, c17z, hcaz, hcbz⟩ := H2.out.cell17 ok2
    have hfrz := H2.out.frozen
    have hqr0 := H2.out.range (k := k) hk
    have hqt := port_typed ok2 (i := k) hk
    have c17q := (port_at (B := (edgeOn (edgeOff (ek0 B k 0) k) k)) (k := k) (j := 17) (by decide)).trans (ok2.gi hk 17 rfl)
    rw [ek_010_c17 B k h89.out HAD.out HOE.out] at c17q
    have c4q := (port_at (B := (edgeOn (edgeOff (ek0 B k 0) k) k)) (k := k) (j := 4) (by decide)).trans (ok2.gb hk 4 rfl)
    rw [ek_010_c4 B k h89.out HAD.out HOE.out] at c4q
    have c32q := (port_at (B := (edgeOn (edgeOff (ek0 B k 0) k) k)) (k := k) (j := 32) (by decide)).trans (ok2.gb hk 32 rfl)
    rw [ek_010_c32 B k h89.out HAD.out HOE.out] at c32q
    obtain ⟨pq, hpq⟩ : ∃ p, port ((edgeOn (edgeOff (ek0 B k 0) k) k)).ps k = p := ⟨_, rfl⟩
    rw [hpq] at hqr0 hqt c17q c4q c32q
    clear hpq
    have hqr := Lib.hid hqr0
    have hqi := Lib.hid (show (Try.prog.info? 52).map (·.size) = some pq.length by rw [hqt.1]; exact size_port)
    have hqi2 := Lib.hid (show (Try.prog.info? 52).map (·.size) = some pq.toArray.size by rw [List.size_toArray]; exact hqi.out)
    have hqs := Lib.hid (show PZ.size = pq.toArray.size by rw [size_PZ, List.size_toArray]; exact hqt.1.symm)
    have hqo := Lib.hid (all_oneCell_toArray hqt.one)
    have hqz := zero_port
    clear hqr0 hqt
    go_wp2_with (first | fail | ((with_reducible refine at_load 52 ?_); refine wpList_load_mid rfl 52 _ rfl g (k * 89) rfl pq _ hqr.out Try.underlying52 rfl hqi.out ?_) | ((with_reducible refine at_store 52 ?_); refine wpList_store_new rfl 52 _ _ rfl PZ pq.toArray rfl rfl hqi2.out hqs.out hqo.out ?_))
    go_ret
    exact ⟨rfl, ((Ext.refl w).alloc _).trans (hE12.alloc _)⟩
  · have HAD := Lib.hid had
    have HOE := Lib.hid hoe
    clear had hoe
    go_wp2_with (first
      | fail
      | ((with_reducible refine at_store 33 ?_); refine wpList_store_new3 rfl rfl 33 _ _ _ rfl _ cx _ rfl ?_ rfl hcxi.out hcxz.out hcxo.out ?_; · rfl
         intro wx hwx
         obtain ⟨hBx, hEx, hzx0⟩ := HMK.out wx hwx
         have HX := Lib.hid hBx
         have hzx := Lib.hid hzx0
         clear hwx hBx hzx0
         obtain ⟨hXl, hgl, hne⟩ := HX.out.lt
         obtain ⟨cap, c17, hca, hcb⟩ := HX.out.cell17 ho
         have hfr := HX.out.frozen
         have p2 := (HX.out.cellg (i := k * 89 + 2) (lt89 hk (by decide))).trans (ho.gb hk 2 rfl)
         have p5 := (HX.out.cellg (i := k * 89 + 5) (lt89 hk (by decide))).trans (ho.gb hk 5 rfl)
         have p17 := (HX.out.cellg (i := k * 89 + 17) (lt89 hk (by decide))).trans (ho.gi hk 17 rfl)))
    have hB1z : BrG _ (fun n => w3.heap.size ≤ n ∧ n < w4.heap.size + 1) w4.heap.size g (ek0 B k 0) := (((HX.out.setp (k := k) (j := 2) hk (by decide) (.bool false)).setp (k := k) (j := 5) hk (by decide) (.bool false)).setp (k := k) (j := 17) hk (by decide) (.int .i64 0))
    have ok1z : Br.ok (ek0 B k 0) := (((ho.setB (k := k) hk 2 false rfl).setB (k := k) hk 5 false rfl).setI (k := k) hk 17 .i64 0 rfl (by decide))
    have hm1z := ((((Mut.refl (fun n => w3.heap.size ≤ n ∧ n < w4.heap.size + 1) wx).setCell (p := ⟨g, k * 89 + 2, none⟩) (.inl HX.out.F2) (.bool false)).setCell (p := ⟨g, k * 89 + 5, none⟩) (.inl HX.out.F2) (.bool false)).setCell (p := ⟨g, k * 89 + 17, none⟩) (.inl HX.out.F2) (.int .i64 0))
    refine (edge_step _ (fun n => w3.heap.size ≤ n ∧ n < w4.heap.size + 1) _ g k (ek0 B k 0) hB1z ok1z hk hk8).mono ?_
    rw [ek_011_0 B k h89.out HAD.out HOE.out]
    rintro e v1 ⟨he, hB1, hm1⟩
    obtain rfl : e = .returned (.bool false) := he
    have ok1 := edgeF_ok ok1z (k := k) hk
    rw [ek_011_0 B k h89.out HAD.out HOE.out] at ok1
    have hE11 := Ext.mutE hEx (hm1z.trans hm1) (fun n hn h1 => by have := h1.1; have := hs3.out; simp at hn; omega)
    have H1 := Lib.hid hB1
    clear hB1 hB1z ok1z hm1 hm1z hEx
    clear c17 hfr p2 p5 p17
    go_wp2_with fail
    have hB2z : BrG _ (fun n => w3.heap.size ≤ n ∧ n < w4.heap.size + 1) w4.heap.size g (ek0 B k 0) := H1.out
    have ok2z : Br.ok (ek0 B k 0) := ok1
    have hm2z := (Mut.refl (fun n => w3.heap.size ≤ n ∧ n < w4.heap.size + 1) v1)
    refine (edge_step _ (fun n => w3.heap.size ≤ n ∧ n < w4.heap.size + 1) _ g k (ek0 B k 0) hB2z ok2z hk hk8).mono ?_
    rw [ek_011_1 B k h89.out HAD.out HOE.out]
    rintro e v2 ⟨he, hB2, hm2⟩
    obtain rfl : e = .returned (.bool false) := he
    have ok2 := edgeF_ok ok2z (k := k) hk
    rw [ek_011_1 B k h89.out HAD.out HOE.out] at ok2
    have hE12 := Ext.mutE hE11 (hm2z.trans hm2) (fun n hn h1 => by have := h1.1; have := hs3.out; simp at hn; omega)
    have H2 := Lib.hid hB2
    clear hB2 hB2z ok2z hm2 hm2z hE11
    obtain ⟨hXlz, hglz, hnez⟩ := H2.out.lt
    obtain ⟨capz, c17z, hcaz, hcbz⟩ := H2.out.cell17 ok2
    have hfrz := H2.out.frozen
    have hqr0 := H2.out.range (k := k) hk
    have hqt := port_typed ok2 (i := k) hk
    have c17q := (port_at (B := (ek0 B k 0)) (k := k) (j := 17) (by decide)).trans (ok2.gi hk 17 rfl)
    rw [ek_011_c17 B k h89.out HAD.out HOE.out] at c17q
    have c4q := (port_at (B := (ek0 B k 0)) (k := k) (j := 4) (by decide)).trans (ok2.gb hk 4 rfl)
    rw [ek_011_c4 B k h89.out HAD.out HOE.out] at c4q
    have c32q := (port_at (B := (ek0 B k 0)) (k := k) (j := 32) (by decide)).trans (ok2.gb hk 32 rfl)
    rw [ek_011_c32 B k h89.out HAD.out HOE.out] at c32q
    obtain ⟨pq, hpq⟩ : ∃ p, port ((ek0 B k 0)).ps k = p := ⟨_, rfl⟩
    rw [hpq] at hqr0 hqt c17q c4q c32q
    clear hpq
    have hqr := Lib.hid hqr0
    have hqi := Lib.hid (show (Try.prog.info? 52).map (·.size) = some pq.length by rw [hqt.1]; exact size_port)
    have hqi2 := Lib.hid (show (Try.prog.info? 52).map (·.size) = some pq.toArray.size by rw [List.size_toArray]; exact hqi.out)
    have hqs := Lib.hid (show PZ.size = pq.toArray.size by rw [size_PZ, List.size_toArray]; exact hqt.1.symm)
    have hqo := Lib.hid (all_oneCell_toArray hqt.one)
    have hqz := zero_port
    clear hqr0 hqt
    go_wp2_with (first | fail | ((with_reducible refine at_load 52 ?_); refine wpList_load_mid rfl 52 _ rfl g (k * 89) rfl pq _ hqr.out Try.underlying52 rfl hqi.out ?_) | ((with_reducible refine at_store 52 ?_); refine wpList_store_new rfl 52 _ _ rfl PZ pq.toArray rfl rfl hqi2.out hqs.out hqo.out ?_))
    go_ret
    exact ⟨rfl, ((Ext.refl w).alloc _).trans (hE12.alloc _)⟩
  · have HAD := Lib.hid had
    have HOE := Lib.hid hoe
    clear had hoe
    go_wp2_with (first
      | fail
      | ((with_reducible refine at_store 33 ?_); refine wpList_store_new3 rfl rfl 33 _ _ _ rfl _ cx _ rfl ?_ rfl hcxi.out hcxz.out hcxo.out ?_; · rfl
         intro wx hwx
         obtain ⟨hBx, hEx, hzx0⟩ := HMK.out wx hwx
         have HX := Lib.hid hBx
         have hzx := Lib.hid hzx0
         clear hwx hBx hzx0
         obtain ⟨hXl, hgl, hne⟩ := HX.out.lt
         obtain ⟨cap, c17, hca, hcb⟩ := HX.out.cell17 ho
         have hfr := HX.out.frozen
         have p2 := (HX.out.cellg (i := k * 89 + 2) (lt89 hk (by decide))).trans (ho.gb hk 2 rfl)
         have p5 := (HX.out.cellg (i := k * 89 + 5) (lt89 hk (by decide))).trans (ho.gb hk 5 rfl)
         have p17 := (HX.out.cellg (i := k * 89 + 17) (lt89 hk (by decide))).trans (ho.gi hk 17 rfl)))
    have hB1z : BrG _ (fun n => w3.heap.size ≤ n ∧ n < w4.heap.size + 1) w4.heap.size g (ek0 B k 1) := (((HX.out.setp (k := k) (j := 2) hk (by decide) (.bool false)).setp (k := k) (j := 5) hk (by decide) (.bool false)).setp (k := k) (j := 17) hk (by decide) (.int .i64 1))
    have ok1z : Br.ok (ek0 B k 1) := (((ho.setB (k := k) hk 2 false rfl).setB (k := k) hk 5 false rfl).setI (k := k) hk 17 .i64 1 rfl (by decide))
    have hm1z := ((((Mut.refl (fun n => w3.heap.size ≤ n ∧ n < w4.heap.size + 1) wx).setCell (p := ⟨g, k * 89 + 2, none⟩) (.inl HX.out.F2) (.bool false)).setCell (p := ⟨g, k * 89 + 5, none⟩) (.inl HX.out.F2) (.bool false)).setCell (p := ⟨g, k * 89 + 17, none⟩) (.inl HX.out.F2) (.int .i64 1))
    refine (edge_step _ (fun n => w3.heap.size ≤ n ∧ n < w4.heap.size + 1) _ g k (ek0 B k 1) hB1z ok1z hk hk8).mono ?_
    rw [ek_100_0 B k h89.out HAD.out HOE.out]
    rintro e v1 ⟨he, hB1, hm1⟩
    obtain rfl : e = .returned (.bool false) := he
    have ok1 := edgeF_ok ok1z (k := k) hk
    rw [ek_100_0 B k h89.out HAD.out HOE.out] at ok1
    have hE11 := Ext.mutE hEx (hm1z.trans hm1) (fun n hn h1 => by have := h1.1; have := hs3.out; simp at hn; omega)
    have H1 := Lib.hid hB1
    clear hB1 hB1z ok1z hm1 hm1z hEx
    clear c17 hfr p2 p5 p17
    go_wp2_with fail
    have hB2z : BrG _ (fun n => w3.heap.size ≤ n ∧ n < w4.heap.size + 1) w4.heap.size g (ek0 B k 1) := H1.out
    have ok2z : Br.ok (ek0 B k 1) := ok1
    have hm2z := (Mut.refl (fun n => w3.heap.size ≤ n ∧ n < w4.heap.size + 1) v1)
    refine (edge_step _ (fun n => w3.heap.size ≤ n ∧ n < w4.heap.size + 1) _ g k (ek0 B k 1) hB2z ok2z hk hk8).mono ?_
    rw [ek_100_1 B k h89.out HAD.out HOE.out]
    rintro e v2 ⟨he, hB2, hm2⟩
    obtain rfl : e = .returned (.bool false) := he
    have ok2 := edgeF_ok ok2z (k := k) hk
    rw [ek_100_1 B k h89.out HAD.out HOE.out] at ok2
    have hE12 := Ext.mutE hE11 (hm2z.trans hm2) (fun n hn h1 => by have := h1.1; have := hs3.out; simp at hn; omega)
    have H2 := Lib.hid hB2
    clear hB2 hB2z ok2z hm2 hm2z hE11
    obtain ⟨hXlz, hglz, hnez⟩ := H2.out.lt
    obtain ⟨capz, c17z, hcaz, hcbz⟩ := H2.out.cell17 ok2
    have hfrz := H2.out.frozen
    have hqr0 := H2.out.range (k := k) hk
    have hqt := port_typed ok2 (i := k) hk
    have c17q := (port_at (B := (ek0 B k 1)) (k := k) (j := 17) (by decide)).trans (ok2.gi hk 17 rfl)
    rw [ek_100_c17 B k h89.out HAD.out HOE.out] at c17q
    have c4q := (port_at (B := (ek0 B k 1)) (k := k) (j := 4) (by decide)).trans (ok2.gb hk 4 rfl)
    rw [ek_100_c4 B k h89.out HAD.out HOE.out] at c4q
    have c32q := (port_at (B := (ek0 B k 1)) (k := k) (j := 32) (by decide)).trans (ok2.gb hk 32 rfl)
    rw [ek_100_c32 B k h89.out HAD.out HOE.out] at c32q
    obtain ⟨pq, hpq⟩ : ∃ p, port ((ek0 B k 1)).ps k = p := ⟨_, rfl⟩
    rw [hpq] at hqr0 hqt c17q c4q c32q
    clear hpq
    have hqr := Lib.hid hqr0
    have hqi := Lib.hid (show (Try.prog.info? 52).map (·.size) = some pq.length by rw [hqt.1]; exact size_port)
    have hqi2 := Lib.hid (show (Try.prog.info? 52).map (·.size) = some pq.toArray.size by rw [List.size_toArray]; exact hqi.out)
    have hqs := Lib.hid (show PZ.size = pq.toArray.size by rw [size_PZ, List.size_toArray]; exact hqt.1.symm)
    have hqo := Lib.hid (all_oneCell_toArray hqt.one)
    have hqz := zero_port
    clear hqr0 hqt
    go_wp2_with (first | fail | ((with_reducible refine at_load 52 ?_); refine wpList_load_mid rfl 52 _ rfl g (k * 89) rfl pq _ hqr.out Try.underlying52 rfl hqi.out ?_) | ((with_reducible refine at_store 52 ?_); refine wpList_store_new rfl 52 _ _ rfl PZ pq.toArray rfl rfl hqi2.out hqs.out hqo.out ?_))
    go_ret
    exact ⟨rfl, ((Ext.refl w).alloc _).trans (hE12.alloc _)⟩
  · have HAD := Lib.hid had
    have HOE := Lib.hid hoe
    clear had hoe
    go_wp2_with (first
      | fail
      | ((with_reducible refine at_store 33 ?_); refine wpList_store_new3 rfl rfl 33 _ _ _ rfl _ cx _ rfl ?_ rfl hcxi.out hcxz.out hcxo.out ?_; · rfl
         intro wx hwx
         obtain ⟨hBx, hEx, hzx0⟩ := HMK.out wx hwx
         have HX := Lib.hid hBx
         have hzx := Lib.hid hzx0
         clear hwx hBx hzx0
         obtain ⟨hXl, hgl, hne⟩ := HX.out.lt
         obtain ⟨cap, c17, hca, hcb⟩ := HX.out.cell17 ho
         have hfr := HX.out.frozen
         have p2 := (HX.out.cellg (i := k * 89 + 2) (lt89 hk (by decide))).trans (ho.gb hk 2 rfl)
         have p5 := (HX.out.cellg (i := k * 89 + 5) (lt89 hk (by decide))).trans (ho.gb hk 5 rfl)
         have p17 := (HX.out.cellg (i := k * 89 + 17) (lt89 hk (by decide))).trans (ho.gi hk 17 rfl)))
    have hB1z : BrG _ (fun n => w3.heap.size ≤ n ∧ n < w4.heap.size + 1) w4.heap.size g (ek0 B k 1) := (((HX.out.setp (k := k) (j := 2) hk (by decide) (.bool false)).setp (k := k) (j := 5) hk (by decide) (.bool false)).setp (k := k) (j := 17) hk (by decide) (.int .i64 1))
    have ok1z : Br.ok (ek0 B k 1) := (((ho.setB (k := k) hk 2 false rfl).setB (k := k) hk 5 false rfl).setI (k := k) hk 17 .i64 1 rfl (by decide))
    have hm1z := ((((Mut.refl (fun n => w3.heap.size ≤ n ∧ n < w4.heap.size + 1) wx).setCell (p := ⟨g, k * 89 + 2, none⟩) (.inl HX.out.F2) (.bool false)).setCell (p := ⟨g, k * 89 + 5, none⟩) (.inl HX.out.F2) (.bool false)).setCell (p := ⟨g, k * 89 + 17, none⟩) (.inl HX.out.F2) (.int .i64 1))
    refine (edge_step _ (fun n => w3.heap.size ≤ n ∧ n < w4.heap.size + 1) _ g k (ek0 B k 1) hB1z ok1z hk hk8).mono ?_
    rw [ek_101_0 B k h89.out HAD.out HOE.out]
    rintro e v1 ⟨he, hB1, hm1⟩
    obtain rfl : e = .returned (.bool false) := he
    have ok1 := edgeF_ok ok1z (k := k) hk
    rw [ek_101_0 B k h89.out HAD.out HOE.out] at ok1
    have hE11 := Ext.mutE hEx (hm1z.trans hm1) (fun n hn h1 => by have := h1.1; have := hs3.out; simp at hn; omega)
    have H1 := Lib.hid hB1
    clear hB1 hB1z ok1z hm1 hm1z hEx
    clear c17 hfr p2 p5 p17
    go_wp2_with fail
    have hB2z : BrG _ (fun n => w3.heap.size ≤ n ∧ n < w4.heap.size + 1) w4.heap.size g (ek0 B k 1) := H1.out
    have ok2z : Br.ok (ek0 B k 1) := ok1
    have hm2z := (Mut.refl (fun n => w3.heap.size ≤ n ∧ n < w4.heap.size + 1) v1)
    refine (edge_step _ (fun n => w3.heap.size ≤ n ∧ n < w4.heap.size + 1) _ g k (ek0 B k 1) hB2z ok2z hk hk8).mono ?_
    rw [ek_101_1 B k h89.out HAD.out HOE.out]
    rintro e v2 ⟨he, hB2, hm2⟩
    obtain rfl : e = .returned (.bool false) := he
    have ok2 := edgeF_ok ok2z (k := k) hk
    rw [ek_101_1 B k h89.out HAD.out HOE.out] at ok2
    have hE12 := Ext.mutE hE11 (hm2z.trans hm2) (fun n hn h1 => by have := h1.1; have := hs3.out; simp at hn; omega)
    have H2 := Lib.hid hB2
    clear hB2 hB2z ok2z hm2 hm2z hE11
    obtain ⟨hXlz, hglz, hnez⟩ := H2.out.lt
    obtain ⟨capz, c17z, hcaz, hcbz⟩ := H2.out.cell17 ok2
    have hfrz := H2.out.frozen
    have hqr0 := H2.out.range (k := k) hk
    have hqt := port_typed ok2 (i := k) hk
    have c17q := (port_at (B := (ek0 B k 1)) (k := k) (j := 17) (by decide)).trans (ok2.gi hk 17 rfl)
    rw [ek_101_c17 B k h89.out HAD.out HOE.out] at c17q
    have c4q := (port_at (B := (ek0 B k 1)) (k := k) (j := 4) (by decide)).trans (ok2.gb hk 4 rfl)
    rw [ek_101_c4 B k h89.out HAD.out HOE.out] at c4q
    have c32q := (port_at (B := (ek0 B k 1)) (k := k) (j := 32) (by decide)).trans (ok2.gb hk 32 rfl)
    rw [ek_101_c32 B k h89.out HAD.out HOE.out] at c32q
    obtain ⟨pq, hpq⟩ : ∃ p, port ((ek0 B k 1)).ps k = p := ⟨_, rfl⟩
    rw [hpq] at hqr0 hqt c17q c4q c32q
    clear hpq
    have hqr := Lib.hid hqr0
    have hqi := Lib.hid (show (Try.prog.info? 52).map (·.size) = some pq.length by rw [hqt.1]; exact size_port)
    have hqi2 := Lib.hid (show (Try.prog.info? 52).map (·.size) = some pq.toArray.size by rw [List.size_toArray]; exact hqi.out)
    have hqs := Lib.hid (show PZ.size = pq.toArray.size by rw [size_PZ, List.size_toArray]; exact hqt.1.symm)
    have hqo := Lib.hid (all_oneCell_toArray hqt.one)
    have hqz := zero_port
    clear hqr0 hqt
    go_wp2_with (first | fail | ((with_reducible refine at_load 52 ?_); refine wpList_load_mid rfl 52 _ rfl g (k * 89) rfl pq _ hqr.out Try.underlying52 rfl hqi.out ?_) | ((with_reducible refine at_store 52 ?_); refine wpList_store_new rfl 52 _ _ rfl PZ pq.toArray rfl rfl hqi2.out hqs.out hqo.out ?_))
    go_ret
    exact ⟨rfl, ((Ext.refl w).alloc _).trans (hE12.alloc _)⟩
  · have HAD := Lib.hid had
    have HOE := Lib.hid hoe
    clear had hoe
    go_wp2_with (first
      | fail
      | ((with_reducible refine at_store 33 ?_); refine wpList_store_new3 rfl rfl 33 _ _ _ rfl _ cx _ rfl ?_ rfl hcxi.out hcxz.out hcxo.out ?_; · rfl
         intro wx hwx
         obtain ⟨hBx, hEx, hzx0⟩ := HMK.out wx hwx
         have HX := Lib.hid hBx
         have hzx := Lib.hid hzx0
         clear hwx hBx hzx0
         obtain ⟨hXl, hgl, hne⟩ := HX.out.lt
         obtain ⟨cap, c17, hca, hcb⟩ := HX.out.cell17 ho
         have hfr := HX.out.frozen
         have p2 := (HX.out.cellg (i := k * 89 + 2) (lt89 hk (by decide))).trans (ho.gb hk 2 rfl)
         have p5 := (HX.out.cellg (i := k * 89 + 5) (lt89 hk (by decide))).trans (ho.gb hk 5 rfl)
         have p17 := (HX.out.cellg (i := k * 89 + 17) (lt89 hk (by decide))).trans (ho.gi hk 17 rfl)))
    have hB1z : BrG _ (fun n => w3.heap.size ≤ n ∧ n < w4.heap.size + 1) w4.heap.size g (ek0 B k 1) := (((HX.out.setp (k := k) (j := 2) hk (by decide) (.bool false)).setp (k := k) (j := 5) hk (by decide) (.bool false)).setp (k := k) (j := 17) hk (by decide) (.int .i64 1))
    have ok1z : Br.ok (ek0 B k 1) := (((ho.setB (k := k) hk 2 false rfl).setB (k := k) hk 5 false rfl).setI (k := k) hk 17 .i64 1 rfl (by decide))
    have hm1z := ((((Mut.refl (fun n => w3.heap.size ≤ n ∧ n < w4.heap.size + 1) wx).setCell (p := ⟨g, k * 89 + 2, none⟩) (.inl HX.out.F2) (.bool false)).setCell (p := ⟨g, k * 89 + 5, none⟩) (.inl HX.out.F2) (.bool false)).setCell (p := ⟨g, k * 89 + 17, none⟩) (.inl HX.out.F2) (.int .i64 1))
    refine (edge_step _ (fun n => w3.heap.size ≤ n ∧ n < w4.heap.size + 1) _ g k (ek0 B k 1) hB1z ok1z hk hk8).mono ?_
    rw [ek_110_0 B k h89.out HAD.out HOE.out]
    rintro e v1 ⟨he, hB1, hm1⟩
    obtain rfl : e = .returned (.bool true) := he
    have ok1 := edgeF_ok ok1z (k := k) hk
    rw [ek_110_0 B k h89.out HAD.out HOE.out] at ok1
    have hE11 := Ext.mutE hEx (hm1z.trans hm1) (fun n hn h1 => by have := h1.1; have := hs3.out; simp at hn; omega)
    have H1 := Lib.hid hB1
    clear hB1 hB1z ok1z hm1 hm1z hEx
    clear c17 hfr p2 p5 p17
    go_wp2_with fail
    have hB2z : BrG _ (fun n => w3.heap.size ≤ n ∧ n < w4.heap.size + 1) w4.heap.size g (edgeOn (ek0 B k 1) k) := H1.out
    have ok2z : Br.ok (edgeOn (ek0 B k 1) k) := ok1
    have hm2z := (Mut.refl (fun n => w3.heap.size ≤ n ∧ n < w4.heap.size + 1) v1)
    refine (edge_step _ (fun n => w3.heap.size ≤ n ∧ n < w4.heap.size + 1) _ g k (edgeOn (ek0 B k 1) k) hB2z ok2z hk hk8).mono ?_
    rw [ek_110_1 B k h89.out HAD.out HOE.out]
    rintro e v2 ⟨he, hB2, hm2⟩
    obtain rfl : e = .returned (.bool false) := he
    have ok2 := edgeF_ok ok2z (k := k) hk
    rw [ek_110_1 B k h89.out HAD.out HOE.out] at ok2
    have hE12 := Ext.mutE hE11 (hm2z.trans hm2) (fun n hn h1 => by have := h1.1; have := hs3.out; simp at hn; omega)
    have H2 := Lib.hid hB2
    clear hB2 hB2z ok2z hm2 hm2z hE11
    obtain ⟨hXlz, hglz, hnez⟩ := H2.out.lt
    obtain ⟨capz, c17z, hcaz, hcbz⟩ := H2.out.cell17 ok2
    have hfrz := H2.out.frozen
    have hqr0 := H2.out.range (k := k) hk
    have hqt := port_typed ok2 (i := k) hk
    have c17q := (port_at (B := (edgeOn (ek0 B k 1) k)) (k := k) (j := 17) (by decide)).trans (ok2.gi hk 17 rfl)
    rw [ek_110_c17 B k h89.out HAD.out HOE.out] at c17q
    have c4q := (port_at (B := (edgeOn (ek0 B k 1) k)) (k := k) (j := 4) (by decide)).trans (ok2.gb hk 4 rfl)
    rw [ek_110_c4 B k h89.out HAD.out HOE.out] at c4q
    have c32q := (port_at (B := (edgeOn (ek0 B k 1) k)) (k := k) (j := 32) (by decide)).trans (ok2.gb hk 32 rfl)
    rw [ek_110_c32 B k h89.out HAD.out HOE.out] at c32q
    obtain ⟨pq, hpq⟩ : ∃ p, port ((edgeOn (ek0 B k 1) k)).ps k = p := ⟨_, rfl⟩
    rw [hpq] at hqr0 hqt c17q c4q c32q
    clear hpq
    have hqr := Lib.hid hqr0
    have hqi := Lib.hid (show (Try.prog.info? 52).map (·.size) = some pq.length by rw [hqt.1]; exact size_port)
    have hqi2 := Lib.hid (show (Try.prog.info? 52).map (·.size) = some pq.toArray.size by rw [List.size_toArray]; exact hqi.out)
    have hqs := Lib.hid (show PZ.size = pq.toArray.size by rw [size_PZ, List.size_toArray]; exact hqt.1.symm)
    have hqo := Lib.hid (all_oneCell_toArray hqt.one)
    have hqz := zero_port
    clear hqr0 hqt
    go_wp2_with (first | fail | ((with_reducible refine at_load 52 ?_); refine wpList_load_mid rfl 52 _ rfl g (k * 89) rfl pq _ hqr.out Try.underlying52 rfl hqi.out ?_) | ((with_reducible refine at_store 52 ?_); refine wpList_store_new rfl 52 _ _ rfl PZ pq.toArray rfl rfl hqi2.out hqs.out hqo.out ?_))
    go_ret
    exact ⟨rfl, ((Ext.refl w).alloc _).trans (hE12.alloc _)⟩
  · have HAD := Lib.hid had
    have HOE := Lib.hid hoe
    clear had hoe
    go_wp2_with (first
      | fail
      | ((with_reducible refine at_store 33 ?_); refine wpList_store_new3 rfl rfl 33 _ _ _ rfl _ cx _ rfl ?_ rfl hcxi.out hcxz.out hcxo.out ?_; · rfl
         intro wx hwx
         obtain ⟨hBx, hEx, hzx0⟩ := HMK.out wx hwx
         have HX := Lib.hid hBx
         have hzx := Lib.hid hzx0
         clear hwx hBx hzx0
         obtain ⟨hXl, hgl, hne⟩ := HX.out.lt
         obtain ⟨cap, c17, hca, hcb⟩ := HX.out.cell17 ho
         have hfr := HX.out.frozen
         have p2 := (HX.out.cellg (i := k * 89 + 2) (lt89 hk (by decide))).trans (ho.gb hk 2 rfl)
         have p5 := (HX.out.cellg (i := k * 89 + 5) (lt89 hk (by decide))).trans (ho.gb hk 5 rfl)
         have p17 := (HX.out.cellg (i := k * 89 + 17) (lt89 hk (by decide))).trans (ho.gi hk 17 rfl)))
    have hB1z : BrG _ (fun n => w3.heap.size ≤ n ∧ n < w4.heap.size + 1) w4.heap.size g (ek0 B k 1) := (((HX.out.setp (k := k) (j := 2) hk (by decide) (.bool false)).setp (k := k) (j := 5) hk (by decide) (.bool false)).setp (k := k) (j := 17) hk (by decide) (.int .i64 1))
    have ok1z : Br.ok (ek0 B k 1) := (((ho.setB (k := k) hk 2 false rfl).setB (k := k) hk 5 false rfl).setI (k := k) hk 17 .i64 1 rfl (by decide))
    have hm1z := ((((Mut.refl (fun n => w3.heap.size ≤ n ∧ n < w4.heap.size + 1) wx).setCell (p := ⟨g, k * 89 + 2, none⟩) (.inl HX.out.F2) (.bool false)).setCell (p := ⟨g, k * 89 + 5, none⟩) (.inl HX.out.F2) (.bool false)).setCell (p := ⟨g, k * 89 + 17, none⟩) (.inl HX.out.F2) (.int .i64 1))
    refine (edge_step _ (fun n => w3.heap.size ≤ n ∧ n < w4.heap.size + 1) _ g k (ek0 B k 1) hB1z ok1z hk hk8).mono ?_
    rw [ek_111_0 B k h89.out HAD.out HOE.out]
    rintro e v1 ⟨he, hB1, hm1⟩
    obtain rfl : e = .returned (.bool true) := he
    have ok1 := edgeF_ok ok1z (k := k) hk
    rw [ek_111_0 B k h89.out HAD.out HOE.out] at ok1
    have hE11 := Ext.mutE hEx (hm1z.trans hm1) (fun n hn h1 => by have := h1.1; have := hs3.out; simp at hn; omega)
    have H1 := Lib.hid hB1
    clear hB1 hB1z ok1z hm1 hm1z hEx
    clear c17 hfr p2 p5 p17
    go_wp2_with fail
    have hB2z : BrG _ (fun n => w3.heap.size ≤ n ∧ n < w4.heap.size + 1) w4.heap.size g (edgeOn (ek0 B k 1) k) := H1.out
    have ok2z : Br.ok (edgeOn (ek0 B k 1) k) := ok1
    have hm2z := (Mut.refl (fun n => w3.heap.size ≤ n ∧ n < w4.heap.size + 1) v1)
    refine (edge_step _ (fun n => w3.heap.size ≤ n ∧ n < w4.heap.size + 1) _ g k (edgeOn (ek0 B k 1) k) hB2z ok2z hk hk8).mono ?_
    rw [ek_111_1 B k h89.out HAD.out HOE.out]
    rintro e v2 ⟨he, hB2, hm2⟩
    obtain rfl : e = .returned (.bool false) := he
    have ok2 := edgeF_ok ok2z (k := k) hk
    rw [ek_111_1 B k h89.out HAD.out HOE.out] at ok2
    have hE12 := Ext.mutE hE11 (hm2z.trans hm2) (fun n hn h1 => by have := h1.1; have := hs3.out; simp at hn; omega)
    have H2 := Lib.hid hB2
    clear hB2 hB2z ok2z hm2 hm2z hE11
    obtain ⟨hXlz, hglz, hnez⟩ := H2.out.lt
    obtain ⟨capz, c17z, hcaz, hcbz⟩ := H2.out.cell17 ok2
    have hfrz := H2.out.frozen
    have hqr0 := H2.out.range (k := k) hk
    have hqt := port_typed ok2 (i := k) hk
    have c17q := (port_at (B := (edgeOn (ek0 B k 1) k)) (k := k) (j := 17) (by decide)).trans (ok2.gi hk 17 rfl)
    rw [ek_111_c17 B k h89.out HAD.out HOE.out] at c17q
    have c4q := (port_at (B := (edgeOn (ek0 B k 1) k)) (k := k) (j := 4) (by decide)).trans (ok2.gb hk 4 rfl)
    rw [ek_111_c4 B k h89.out HAD.out HOE.out] at c4q
    have c32q := (port_at (B := (edgeOn (ek0 B k 1) k)) (k := k) (j := 32) (by decide)).trans (ok2.gb hk 32 rfl)
    rw [ek_111_c32 B k h89.out HAD.out HOE.out] at c32q
    obtain ⟨pq, hpq⟩ : ∃ p, port ((edgeOn (ek0 B k 1) k)).ps k = p := ⟨_, rfl⟩
    rw [hpq] at hqr0 hqt c17q c4q c32q
    clear hpq
    have hqr := Lib.hid hqr0
    have hqi := Lib.hid (show (Try.prog.info? 52).map (·.size) = some pq.length by rw [hqt.1]; exact size_port)
    have hqi2 := Lib.hid (show (Try.prog.info? 52).map (·.size) = some pq.toArray.size by rw [List.size_toArray]; exact hqi.out)
    have hqs := Lib.hid (show PZ.size = pq.toArray.size by rw [size_PZ, List.size_toArray]; exact hqt.1.symm)
    have hqo := Lib.hid (all_oneCell_toArray hqt.one)
    have hqz := zero_port
    clear hqr0 hqt
    go_wp2_with (first | fail | ((with_reducible refine at_load 52 ?_); refine wpList_load_mid rfl 52 _ rfl g (k * 89) rfl pq _ hqr.out Try.underlying52 rfl hqi.out ?_) | ((with_reducible refine at_store 52 ?_); refine wpList_store_new rfl 52 _ _ rfl PZ pq.toArray rfl rfl hqi2.out hqs.out hqo.out ?_))
    go_ret
    exact ⟨rfl, ((Ext.refl w).alloc _).trans (hE12.alloc _)⟩

end Go.Proofs.Ytfbgianmcmgekaa
