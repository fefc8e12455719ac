/- The walk of PassageStops. No statement is proved here. -/
import Derived.Test.YthlapkddgnpaeaaPasM
namespace Go.Proofs.Ythlapkddgnpaeaa
open Go.RowKit Go.BigFrame Go.WideShapes Go.ChangeShapes Go.Deep
set_option linter.unusedVariables false

set_option maxRecDepth 100000 in
set_option maxHeartbeats 2000000 in
theorem law_PassageStops {w : World} (c : Array Value) (B : Br) (hb : BrC w c B) (ho : B.ok) (i : Int) (hi : 0 ≤ i ∧ i < 256) (st : Int) (hst : 0 ≤ st ∧ st < 256) :
    Calls Try.prog 11 #[.agg c, .int .u8 i, .int .u8 st] w fun e w' => e = .returned (.bool true) ∧ Ext w w' := by
  have hl := ho.hd.1
  have hz : c.size = 20 := by
    obtain ⟨_, _, _, h, _⟩ := hb.facts ho.hd.1
    exact h
  have hi20 := Lib.hid (show (Try.prog.info? 33).map (·.size) = some c.size by rw [hz]; exact size_br)
  have HB := Lib.hid hb
  have hcz := hz
  clear hb hl hz
  go_enter Try.func11, Try.ntmps11
  go_wp2_with fail
  refine (pas_awake _).mono ?_
  rintro e w1 ⟨rfl, hE1⟩
  go_wp2_with (first | fail | ((with_reducible refine at_load 33 ?_); refine wpList_load_row rfl 33 _ rfl _ rfl _ c (0, 0) _ (box_heap hE1) Try.underlying33 rfl hi20.out ?_))
  refine (few_any c B _ (HB.out.ext (((Ext.refl w).alloc _).trans hE1)) ho).mono ?_
  rintro e w2 ⟨f, rfl, hx2, hf⟩
  have hE2 := Ext.trans hE1 hx2
  clear hE1 hx2
  cases f
  · go_wp2_with fail
    go_ret
    exact ⟨rfl, ((Ext.refl w).alloc _).trans hE2⟩
  have hfew := Lib.hid (hf.1 rfl)
  clear hf
  have hn1 := hfew.out.2.1
  go_wp2_with (first | fail | ((with_reducible refine at_load 33 ?_); refine wpList_load_row rfl 33 _ rfl _ rfl _ c (0, 0) _ (box_heap hE2) Try.underlying33 rfl hi20.out ?_))
  refine (at_any c B i _ (HB.out.ext (((Ext.refl w).alloc _).trans hE2)) ho hi hn1).mono ?_
  rintro e w3 ⟨rfl, hx3⟩
  have hE3 := Ext.trans hE2 hx3
  clear hE2 hx3
  obtain ⟨k, hk0⟩ : ∃ k, i.toNat % B.np = k := ⟨_, rfl⟩
  have hk : k < B.np := by rw [← hk0]; exact Nat.mod_lt _ hn1
  have hk8 : k < 1000 := by have := hfew.out; omega
  rw [hk0]
  clear hk0
  go_wp2_with (first | fail | ((with_reducible refine at_load 33 ?_); refine wpList_load_row rfl 33 _ rfl _ rfl _ c (0, 0) _ (box_heap hE3) Try.underlying33 rfl hi20.out ?_))
  refine (clone_any c B _ (HB.out.ext (((Ext.refl w).alloc _).trans hE3)) ho (by have := hfew.out; omega)).mono ?_
  rintro e w4 ⟨cx, rfl, hO4, hx4⟩
  have hE4 := Ext.trans hE3 hx4
  have hcxz := Lib.hid (size_z20.trans (hO4.size ho).symm)
  have hcxo := Lib.hid (hO4.one ho)
  have hcxi := Lib.hid (show (Try.prog.info? 33).map (·.size) = some cx.size by rw [hO4.size ho]; exact size_br)
  obtain ⟨g, hBx⟩ := hO4.made hx4.size hn1
  have HX := Lib.hid hBx
  have hs3 := Lib.hid (show w.heap.size < w3.heap.size from Nat.lt_of_lt_of_le (by simp) hE3.size)
  have hs4 := Lib.hid hx4.size
  have HMK := Lib.hid (show ∀ wx : World, wx = w4.alloc (.cells cx 33) → BrG wx (fun n => w3.heap.size ≤ n ∧ n < w4.heap.size + 1) w4.heap.size g B ∧ Ext (w.alloc (.cells c 33)) wx ∧ wx.heap.size = w4.heap.size + 1 from by
    rintro _ rfl
    exact ⟨hBx, hE4.alloc _, by simp⟩)
  clear hBx hO4 hx4 hE3
  have h89 := Lib.hid (len89 ho hk)
  have hs3 := hs3
  obtain ⟨hst0, hst1⟩ := hst
  rcases (by omega : st % 3 = 0 ∨ st % 3 = 1 ∨ st % 3 = 2) with hm | hm | hm
  · go_wp2_with (first
      | fail
      | ((with_reducible refine at_store 33 ?_); refine wpList_store_new3 rfl rfl 33 _ _ _ rfl _ cx _ rfl ?_ rfl hcxi.out hcxz.out hcxo.out ?_; · rfl
         intro wx hwx
         obtain ⟨hBx, hEx, hzx0⟩ := HMK.out wx hwx
         have HX := Lib.hid hBx
         have hzx := Lib.hid hzx0
         clear hwx hBx hzx0
         obtain ⟨hXl, hgl, hne⟩ := HX.out.lt
         obtain ⟨cap, c17, hca, hcb⟩ := HX.out.cell17 ho
         have hfr := HX.out.frozen
         have p20 := (HX.out.cellg (i := k * 89 + 20) (lt89 hk (by decide))).trans (ho.gi hk 20 rfl)
         have p29 := (HX.out.cellg (i := k * 89 + 29) (lt89 hk (by decide))).trans (ho.gb hk 29 rfl)
         have p27 := (HX.out.cellg (i := k * 89 + 27) (lt89 hk (by decide))).trans (ho.gb hk 27 rfl)
         have p28 := (HX.out.cellg (i := k * 89 + 28) (lt89 hk (by decide))).trans (ho.gb hk 28 rfl)
         have p26 := (HX.out.cellg (i := k * 89 + 26) (lt89 hk (by decide))).trans (ho.gb hk 26 rfl)))
    have hB1z : BrG _ (fun n => w3.heap.size ≤ n ∧ n < w4.heap.size + 1) w4.heap.size g (ps0 B k 0 false false) := (((((HX.out.setp (k := k) (j := 20) hk (by decide) (.int .i64 0)).setp (k := k) (j := 29) hk (by decide) (.bool false)).setp (k := k) (j := 27) hk (by decide) (.bool false)).setp (k := k) (j := 28) hk (by decide) (.bool false)).setp (k := k) (j := 26) hk (by decide) (.bool false))
    have ok1z : Br.ok (ps0 B k 0 false false) := (((((ho.setI (k := k) hk 20 .i64 0 rfl (by decide)).setB (k := k) hk 29 false rfl).setB (k := k) hk 27 false rfl).setB (k := k) hk 28 false rfl).setB (k := k) hk 26 false rfl)
    have hm1z := ((((((Mut.refl (fun n => w3.heap.size ≤ n ∧ n < w4.heap.size + 1) wx).setCell (p := ⟨g, k * 89 + 20, none⟩) (.inl HX.out.F2) (.int .i64 0)).setCell (p := ⟨g, k * 89 + 29, none⟩) (.inl HX.out.F2) (.bool false)).setCell (p := ⟨g, k * 89 + 27, none⟩) (.inl HX.out.F2) (.bool false)).setCell (p := ⟨g, k * 89 + 28, none⟩) (.inl HX.out.F2) (.bool false)).setCell (p := ⟨g, k * 89 + 26, none⟩) (.inl HX.out.F2) (.bool false))
    refine (pas_step _ (fun n => w3.heap.size ≤ n ∧ n < w4.heap.size + 1) _ g k (ps0 B k 0 false false) hB1z ok1z hk hk8).mono ?_
    rw [ps0_0 B k h89.out]
    rintro e v1 ⟨he, hB1, hm1⟩
    obtain rfl : e = .returned (.bool false) := he
    have ok1 := pasF_ok ok1z (k := k) hk
    rw [ps0_0 B k h89.out] at ok1
    have hE11 := Ext.mutE hEx (hm1z.trans hm1) (fun n hn h1 => by have := h1.1; have := hs3.out; simp at hn; omega)
    have H1 := Lib.hid hB1
    clear hB1 hB1z ok1z hm1 hm1z hEx
    clear c17 hfr p20 p29 p27 p28 p26
    go_wp2_with fail
    have hB2z : BrG _ (fun n => w3.heap.size ≤ n ∧ n < w4.heap.size + 1) w4.heap.size g (ps0 B k 0 false false) := H1.out
    have ok2z : Br.ok (ps0 B k 0 false false) := ok1
    have hm2z := (Mut.refl (fun n => w3.heap.size ≤ n ∧ n < w4.heap.size + 1) v1)
    refine (pas_step _ (fun n => w3.heap.size ≤ n ∧ n < w4.heap.size + 1) _ g k (ps0 B k 0 false false) hB2z ok2z hk hk8).mono ?_
    rw [ps0_0 B k h89.out]
    rintro e v2 ⟨he, hB2, hm2⟩
    obtain rfl : e = .returned (.bool false) := he
    have ok2 := pasF_ok ok2z (k := k) hk
    rw [ps0_0 B k h89.out] at ok2
    have hE12 := Ext.mutE hE11 (hm2z.trans hm2) (fun n hn h1 => by have := h1.1; have := hs3.out; simp at hn; omega)
    have H2 := Lib.hid hB2
    clear hB2 hB2z ok2z hm2 hm2z hE11
    obtain ⟨hXlz, hglz, hnez⟩ := H2.out.lt
    obtain ⟨capz, c17z, hcaz, hcbz⟩ := H2.out.cell17 ok2
    have hfrz := H2.out.frozen
    have hqr0 := H2.out.range (k := k) hk
    have hqt := port_typed ok2 (i := k) hk
    have c29q := (port_at (B := (ps0 B k 0 false false)) (k := k) (j := 29) (by decide)).trans (ok2.gb hk 29 rfl)
    rw [ps0_c29 B k h89.out 0 false false] at c29q
    have c27q := (port_at (B := (ps0 B k 0 false false)) (k := k) (j := 27) (by decide)).trans (ok2.gb hk 27 rfl)
    rw [ps0_c27 B k h89.out 0 false false] at c27q
    have c28q := (port_at (B := (ps0 B k 0 false false)) (k := k) (j := 28) (by decide)).trans (ok2.gb hk 28 rfl)
    rw [ps0_c28 B k h89.out 0 false false] at c28q
    have c26q := (port_at (B := (ps0 B k 0 false false)) (k := k) (j := 26) (by decide)).trans (ok2.gb hk 26 rfl)
    rw [ps0_c26 B k h89.out 0 false false] at c26q
    have c20q := (port_at (B := (ps0 B k 0 false false)) (k := k) (j := 20) (by decide)).trans (ok2.gi hk 20 rfl)
    rw [ps0_c20 B k h89.out 0 false false] at c20q
    obtain ⟨pq, hpq⟩ : ∃ p, port ((ps0 B k 0 false false)).ps k = p := ⟨_, rfl⟩
    rw [hpq] at hqr0 hqt c29q c27q c28q c26q c20q
    clear hpq
    have hqr := Lib.hid hqr0
    have hqi := Lib.hid (show (Try.prog.info? 53).map (·.size) = some pq.length by rw [hqt.1]; exact size_port)
    have hqi2 := Lib.hid (show (Try.prog.info? 53).map (·.size) = some pq.toArray.size by rw [List.size_toArray]; exact hqi.out)
    have hqs := Lib.hid (show PZ.size = pq.toArray.size by rw [size_PZ, List.size_toArray]; exact hqt.1.symm)
    have hqo := Lib.hid (all_oneCell_toArray hqt.one)
    have hqz := zero_port
    clear hqr0 hqt
    go_wp2_with (first | fail | ((with_reducible refine at_load 53 ?_); refine wpList_load_mid rfl 53 _ rfl g (k * 89) rfl pq _ hqr.out Try.underlying53 rfl hqi.out ?_) | ((with_reducible refine at_store 53 ?_); refine wpList_store_new rfl 53 _ _ rfl PZ pq.toArray rfl rfl hqi2.out hqs.out hqo.out ?_))
    go_ret
    exact ⟨rfl, ((Ext.refl w).alloc _).trans (hE12.alloc _)⟩
  · go_wp2_with (first
      | fail
      | ((with_reducible refine at_store 33 ?_); refine wpList_store_new3 rfl rfl 33 _ _ _ rfl _ cx _ rfl ?_ rfl hcxi.out hcxz.out hcxo.out ?_; · rfl
         intro wx hwx
         obtain ⟨hBx, hEx, hzx0⟩ := HMK.out wx hwx
         have HX := Lib.hid hBx
         have hzx := Lib.hid hzx0
         clear hwx hBx hzx0
         obtain ⟨hXl, hgl, hne⟩ := HX.out.lt
         obtain ⟨cap, c17, hca, hcb⟩ := HX.out.cell17 ho
         have hfr := HX.out.frozen
         have p20 := (HX.out.cellg (i := k * 89 + 20) (lt89 hk (by decide))).trans (ho.gi hk 20 rfl)
         have p29 := (HX.out.cellg (i := k * 89 + 29) (lt89 hk (by decide))).trans (ho.gb hk 29 rfl)
         have p27 := (HX.out.cellg (i := k * 89 + 27) (lt89 hk (by decide))).trans (ho.gb hk 27 rfl)
         have p28 := (HX.out.cellg (i := k * 89 + 28) (lt89 hk (by decide))).trans (ho.gb hk 28 rfl)
         have p26 := (HX.out.cellg (i := k * 89 + 26) (lt89 hk (by decide))).trans (ho.gb hk 26 rfl)))
    have hB1z : BrG _ (fun n => w3.heap.size ≤ n ∧ n < w4.heap.size + 1) w4.heap.size g (ps0 B k 1 true false) := (((((HX.out.setp (k := k) (j := 20) hk (by decide) (.int .i64 1)).setp (k := k) (j := 29) hk (by decide) (.bool true)).setp (k := k) (j := 27) hk (by decide) (.bool false)).setp (k := k) (j := 28) hk (by decide) (.bool false)).setp (k := k) (j := 26) hk (by decide) (.bool false))
    have ok1z : Br.ok (ps0 B k 1 true false) := (((((ho.setI (k := k) hk 20 .i64 1 rfl (by decide)).setB (k := k) hk 29 true rfl).setB (k := k) hk 27 false rfl).setB (k := k) hk 28 false rfl).setB (k := k) hk 26 false rfl)
    have hm1z := ((((((Mut.refl (fun n => w3.heap.size ≤ n ∧ n < w4.heap.size + 1) wx).setCell (p := ⟨g, k * 89 + 20, none⟩) (.inl HX.out.F2) (.int .i64 1)).setCell (p := ⟨g, k * 89 + 29, none⟩) (.inl HX.out.F2) (.bool true)).setCell (p := ⟨g, k * 89 + 27, none⟩) (.inl HX.out.F2) (.bool false)).setCell (p := ⟨g, k * 89 + 28, none⟩) (.inl HX.out.F2) (.bool false)).setCell (p := ⟨g, k * 89 + 26, none⟩) (.inl HX.out.F2) (.bool false))
    refine (pas_step _ (fun n => w3.heap.size ≤ n ∧ n < w4.heap.size + 1) _ g k (ps0 B k 1 true false) hB1z ok1z hk hk8).mono ?_
    rw [ps0_1 B k h89.out]
    rintro e v1 ⟨he, hB1, hm1⟩
    obtain rfl : e = .returned (.bool true) := he
    have ok1 := pasF_ok ok1z (k := k) hk
    rw [ps0_1 B k h89.out] at ok1
    have hE11 := Ext.mutE hEx (hm1z.trans hm1) (fun n hn h1 => by have := h1.1; have := hs3.out; simp at hn; omega)
    have H1 := Lib.hid hB1
    clear hB1 hB1z ok1z hm1 hm1z hEx
    clear c17 hfr p20 p29 p27 p28 p26
    go_wp2_with fail
    have hB2z : BrG _ (fun n => w3.heap.size ≤ n ∧ n < w4.heap.size + 1) w4.heap.size g (pasStop (ps0 B k 1 true false) k) := H1.out
    have ok2z : Br.ok (pasStop (ps0 B k 1 true false) k) := ok1
    have hm2z := (Mut.refl (fun n => w3.heap.size ≤ n ∧ n < w4.heap.size + 1) v1)
    refine (pas_step _ (fun n => w3.heap.size ≤ n ∧ n < w4.heap.size + 1) _ g k (pasStop (ps0 B k 1 true false) k) hB2z ok2z hk hk8).mono ?_
    rw [ps1 B k h89.out 1 true false]
    rintro e v2 ⟨he, hB2, hm2⟩
    obtain rfl : e = .returned (.bool false) := he
    have ok2 := pasF_ok ok2z (k := k) hk
    rw [ps1 B k h89.out 1 true false] at ok2
    have hE12 := Ext.mutE hE11 (hm2z.trans hm2) (fun n hn h1 => by have := h1.1; have := hs3.out; simp at hn; omega)
    have H2 := Lib.hid hB2
    clear hB2 hB2z ok2z hm2 hm2z hE11
    obtain ⟨hXlz, hglz, hnez⟩ := H2.out.lt
    obtain ⟨capz, c17z, hcaz, hcbz⟩ := H2.out.cell17 ok2
    have hfrz := H2.out.frozen
    have hqr0 := H2.out.range (k := k) hk
    have hqt := port_typed ok2 (i := k) hk
    have c29q := (port_at (B := (pasStop (ps0 B k 1 true false) k)) (k := k) (j := 29) (by decide)).trans (ok2.gb hk 29 rfl)
    rw [ps1_c29 B k h89.out 1 true false] at c29q
    have c27q := (port_at (B := (pasStop (ps0 B k 1 true false) k)) (k := k) (j := 27) (by decide)).trans (ok2.gb hk 27 rfl)
    rw [ps1_c27 B k h89.out 1 true false] at c27q
    have c28q := (port_at (B := (pasStop (ps0 B k 1 true false) k)) (k := k) (j := 28) (by decide)).trans (ok2.gb hk 28 rfl)
    rw [ps1_c28 B k h89.out 1 true false] at c28q
    have c26q := (port_at (B := (pasStop (ps0 B k 1 true false) k)) (k := k) (j := 26) (by decide)).trans (ok2.gb hk 26 rfl)
    rw [ps1_c26 B k h89.out 1 true false] at c26q
    have c20q := (port_at (B := (pasStop (ps0 B k 1 true false) k)) (k := k) (j := 20) (by decide)).trans (ok2.gi hk 20 rfl)
    rw [ps1_c20 B k h89.out 1 true false] at c20q
    obtain ⟨pq, hpq⟩ : ∃ p, port ((pasStop (ps0 B k 1 true false) k)).ps k = p := ⟨_, rfl⟩
    rw [hpq] at hqr0 hqt c29q c27q c28q c26q c20q
    clear hpq
    have hqr := Lib.hid hqr0
    have hqi := Lib.hid (show (Try.prog.info? 53).map (·.size) = some pq.length by rw [hqt.1]; exact size_port)
    have hqi2 := Lib.hid (show (Try.prog.info? 53).map (·.size) = some pq.toArray.size by rw [List.size_toArray]; exact hqi.out)
    have hqs := Lib.hid (show PZ.size = pq.toArray.size by rw [size_PZ, List.size_toArray]; exact hqt.1.symm)
    have hqo := Lib.hid (all_oneCell_toArray hqt.one)
    have hqz := zero_port
    clear hqr0 hqt
    go_wp2_with (first | fail | ((with_reducible refine at_load 53 ?_); refine wpList_load_mid rfl 53 _ rfl g (k * 89) rfl pq _ hqr.out Try.underlying53 rfl hqi.out ?_) | ((with_reducible refine at_store 53 ?_); refine wpList_store_new rfl 53 _ _ rfl PZ pq.toArray rfl rfl hqi2.out hqs.out hqo.out ?_))
    go_ret
    exact ⟨rfl, ((Ext.refl w).alloc _).trans (hE12.alloc _)⟩
  · go_wp2_with (first
      | fail
      | ((with_reducible refine at_store 33 ?_); refine wpList_store_new3 rfl rfl 33 _ _ _ rfl _ cx _ rfl ?_ rfl hcxi.out hcxz.out hcxo.out ?_; · rfl
         intro wx hwx
         obtain ⟨hBx, hEx, hzx0⟩ := HMK.out wx hwx
         have HX := Lib.hid hBx
         have hzx := Lib.hid hzx0
         clear hwx hBx hzx0
         obtain ⟨hXl, hgl, hne⟩ := HX.out.lt
         obtain ⟨cap, c17, hca, hcb⟩ := HX.out.cell17 ho
         have hfr := HX.out.frozen
         have p20 := (HX.out.cellg (i := k * 89 + 20) (lt89 hk (by decide))).trans (ho.gi hk 20 rfl)
         have p29 := (HX.out.cellg (i := k * 89 + 29) (lt89 hk (by decide))).trans (ho.gb hk 29 rfl)
         have p27 := (HX.out.cellg (i := k * 89 + 27) (lt89 hk (by decide))).trans (ho.gb hk 27 rfl)
         have p28 := (HX.out.cellg (i := k * 89 + 28) (lt89 hk (by decide))).trans (ho.gb hk 28 rfl)
         have p26 := (HX.out.cellg (i := k * 89 + 26) (lt89 hk (by decide))).trans (ho.gb hk 26 rfl)))
    have hB1z : BrG _ (fun n => w3.heap.size ≤ n ∧ n < w4.heap.size + 1) w4.heap.size g (ps0 B k 2 true true) := (((((HX.out.setp (k := k) (j := 20) hk (by decide) (.int .i64 2)).setp (k := k) (j := 29) hk (by decide) (.bool true)).setp (k := k) (j := 27) hk (by decide) (.bool true)).setp (k := k) (j := 28) hk (by decide) (.bool false)).setp (k := k) (j := 26) hk (by decide) (.bool false))
    have ok1z : Br.ok (ps0 B k 2 true true) := (((((ho.setI (k := k) hk 20 .i64 2 rfl (by decide)).setB (k := k) hk 29 true rfl).setB (k := k) hk 27 true rfl).setB (k := k) hk 28 false rfl).setB (k := k) hk 26 false rfl)
    have hm1z := ((((((Mut.refl (fun n => w3.heap.size ≤ n ∧ n < w4.heap.size + 1) wx).setCell (p := ⟨g, k * 89 + 20, none⟩) (.inl HX.out.F2) (.int .i64 2)).setCell (p := ⟨g, k * 89 + 29, none⟩) (.inl HX.out.F2) (.bool true)).setCell (p := ⟨g, k * 89 + 27, none⟩) (.inl HX.out.F2) (.bool true)).setCell (p := ⟨g, k * 89 + 28, none⟩) (.inl HX.out.F2) (.bool false)).setCell (p := ⟨g, k * 89 + 26, none⟩) (.inl HX.out.F2) (.bool false))
    refine (pas_step _ (fun n => w3.heap.size ≤ n ∧ n < w4.heap.size + 1) _ g k (ps0 B k 2 true true) hB1z ok1z hk hk8).mono ?_
    rw [ps0_2 B k h89.out]
    rintro e v1 ⟨he, hB1, hm1⟩
    obtain rfl : e = .returned (.bool true) := he
    have ok1 := pasF_ok ok1z (k := k) hk
    rw [ps0_2 B k h89.out] at ok1
    have hE11 := Ext.mutE hEx (hm1z.trans hm1) (fun n hn h1 => by have := h1.1; have := hs3.out; simp at hn; omega)
    have H1 := Lib.hid hB1
    clear hB1 hB1z ok1z hm1 hm1z hEx
    clear c17 hfr p20 p29 p27 p28 p26
    go_wp2_with fail
    have hB2z : BrG _ (fun n => w3.heap.size ≤ n ∧ n < w4.heap.size + 1) w4.heap.size g (pasStop (ps0 B k 2 true true) k) := H1.out
    have ok2z : Br.ok (pasStop (ps0 B k 2 true true) k) := ok1
    have hm2z := (Mut.refl (fun n => w3.heap.size ≤ n ∧ n < w4.heap.size + 1) v1)
    refine (pas_step _ (fun n => w3.heap.size ≤ n ∧ n < w4.heap.size + 1) _ g k (pasStop (ps0 B k 2 true true) k) hB2z ok2z hk hk8).mono ?_
    rw [ps1 B k h89.out 2 true true]
    rintro e v2 ⟨he, hB2, hm2⟩
    obtain rfl : e = .returned (.bool false) := he
    have ok2 := pasF_ok ok2z (k := k) hk
    rw [ps1 B k h89.out 2 true true] at ok2
    have hE12 := Ext.mutE hE11 (hm2z.trans hm2) (fun n hn h1 => by have := h1.1; have := hs3.out; simp at hn; omega)
    have H2 := Lib.hid hB2
    clear hB2 hB2z ok2z hm2 hm2z hE11
    obtain ⟨hXlz, hglz, hnez⟩ := H2.out.lt
    obtain ⟨capz, c17z, hcaz, hcbz⟩ := H2.out.cell17 ok2
    have hfrz := H2.out.frozen
    have hqr0 := H2.out.range (k := k) hk
    have hqt := port_typed ok2 (i := k) hk
    have c29q := (port_at (B := (pasStop (ps0 B k 2 true true) k)) (k := k) (j := 29) (by decide)).trans (ok2.gb hk 29 rfl)
    rw [ps1_c29 B k h89.out 2 true true] at c29q
    have c27q := (port_at (B := (pasStop (ps0 B k 2 true true) k)) (k := k) (j := 27) (by decide)).trans (ok2.gb hk 27 rfl)
    rw [ps1_c27 B k h89.out 2 true true] at c27q
    have c28q := (port_at (B := (pasStop (ps0 B k 2 true true) k)) (k := k) (j := 28) (by decide)).trans (ok2.gb hk 28 rfl)
    rw [ps1_c28 B k h89.out 2 true true] at c28q
    have c26q := (port_at (B := (pasStop (ps0 B k 2 true true) k)) (k := k) (j := 26) (by decide)).trans (ok2.gb hk 26 rfl)
    rw [ps1_c26 B k h89.out 2 true true] at c26q
    have c20q := (port_at (B := (pasStop (ps0 B k 2 true true) k)) (k := k) (j := 20) (by decide)).trans (ok2.gi hk 20 rfl)
    rw [ps1_c20 B k h89.out 2 true true] at c20q
    obtain ⟨pq, hpq⟩ : ∃ p, port ((pasStop (ps0 B k 2 true true) k)).ps k = p := ⟨_, rfl⟩
    rw [hpq] at hqr0 hqt c29q c27q c28q c26q c20q
    clear hpq
    have hqr := Lib.hid hqr0
    have hqi := Lib.hid (show (Try.prog.info? 53).map (·.size) = some pq.length by rw [hqt.1]; exact size_port)
    have hqi2 := Lib.hid (show (Try.prog.info? 53).map (·.size) = some pq.toArray.size by rw [List.size_toArray]; exact hqi.out)
    have hqs := Lib.hid (show PZ.size = pq.toArray.size by rw [size_PZ, List.size_toArray]; exact hqt.1.symm)
    have hqo := Lib.hid (all_oneCell_toArray hqt.one)
    have hqz := zero_port
    clear hqr0 hqt
    go_wp2_with (first | fail | ((with_reducible refine at_load 53 ?_); refine wpList_load_mid rfl 53 _ rfl g (k * 89) rfl pq _ hqr.out Try.underlying53 rfl hqi.out ?_) | ((with_reducible refine at_store 53 ?_); refine wpList_store_new rfl 53 _ _ rfl PZ pq.toArray rfl rfl hqi2.out hqs.out hqo.out ?_))
    go_ret
    exact ⟨rfl, ((Ext.refl w).alloc _).trans (hE12.alloc _)⟩

end Go.Proofs.Ythlapkddgnpaeaa
