/- The walk of PassageEnds. No statement is proved here. -/
import Derived.Test.YthlapkddgnpaeaaPasM
namespace Go.Proofs.Ythlapkddgnpaeaa
open Go.RowKit Go.BigFrame Go.WideShapes Go.ChangeShapes Go.Deep
set_option linter.unusedVariables false

set_option maxRecDepth 100000 in
set_option maxHeartbeats 2000000 in
theorem law_PassageEnds {w : World} (c : Array Value) (B : Br) (hb : BrC w c B) (ho : B.ok) (i : Int) (hi : 0 ≤ i ∧ i < 256) (learn forward : Bool) :
    Calls Try.prog 10 #[.agg c, .int .u8 i, .bool learn, .bool forward] w fun e w' => e = .returned (.bool true) ∧ Ext w w' := by
  have hl := ho.hd.1
  have hz : c.size = 20 := by
    obtain ⟨_, _, _, h, _⟩ := hb.facts ho.hd.1
    exact h
  have hi20 := Lib.hid (show (Try.prog.info? 33).map (·.size) = some c.size by rw [hz]; exact size_br)
  have HB := Lib.hid hb
  have hcz := hz
  clear hb hl hz
  go_enter Try.func10, Try.ntmps10
  go_wp2_with fail
  refine (pas_awake _).mono ?_
  rintro e w1 ⟨rfl, hE1⟩
  go_wp2_with (first | fail | ((with_reducible refine at_load 33 ?_); refine wpList_load_row rfl 33 _ rfl _ rfl _ c (0, 0) _ (box_heap hE1) Try.underlying33 rfl hi20.out ?_))
  refine (few_any c B _ (HB.out.ext (((Ext.refl w).alloc _).trans hE1)) ho).mono ?_
  rintro e w2 ⟨f, rfl, hx2, hf⟩
  have hE2 := Ext.trans hE1 hx2
  clear hE1 hx2
  cases f
  · go_wp2_with fail
    go_ret
    exact ⟨rfl, ((Ext.refl w).alloc _).trans hE2⟩
  have hfew := Lib.hid (hf.1 rfl)
  clear hf
  have hn1 := hfew.out.2.1
  go_wp2_with (first | fail | ((with_reducible refine at_load 33 ?_); refine wpList_load_row rfl 33 _ rfl _ rfl _ c (0, 0) _ (box_heap hE2) Try.underlying33 rfl hi20.out ?_))
  refine (at_any c B i _ (HB.out.ext (((Ext.refl w).alloc _).trans hE2)) ho hi hn1).mono ?_
  rintro e w3 ⟨rfl, hx3⟩
  have hE3 := Ext.trans hE2 hx3
  clear hE2 hx3
  obtain ⟨k, hk0⟩ : ∃ k, i.toNat % B.np = k := ⟨_, rfl⟩
  have hk : k < B.np := by rw [← hk0]; exact Nat.mod_lt _ hn1
  have hk8 : k < 1000 := by have := hfew.out; omega
  rw [hk0]
  clear hk0
  go_wp2_with (first | fail | ((with_reducible refine at_load 33 ?_); refine wpList_load_row rfl 33 _ rfl _ rfl _ c (0, 0) _ (box_heap hE3) Try.underlying33 rfl hi20.out ?_))
  refine (clone_any c B _ (HB.out.ext (((Ext.refl w).alloc _).trans hE3)) ho (by have := hfew.out; omega)).mono ?_
  rintro e w4 ⟨cx, rfl, hO4, hx4⟩
  have hE4 := Ext.trans hE3 hx4
  have hcxz := Lib.hid (size_z20.trans (hO4.size ho).symm)
  have hcxo := Lib.hid (hO4.one ho)
  have hcxi := Lib.hid (show (Try.prog.info? 33).map (·.size) = some cx.size by rw [hO4.size ho]; exact size_br)
  obtain ⟨g, hBx⟩ := hO4.made hx4.size hn1
  have HX := Lib.hid hBx
  have hs3 := Lib.hid (show w.heap.size < w3.heap.size from Nat.lt_of_lt_of_le (by simp) hE3.size)
  have hs4 := Lib.hid hx4.size
  have HMK := Lib.hid (show ∀ wx : World, wx = w4.alloc (.cells cx 33) → BrG wx (fun n => w3.heap.size ≤ n ∧ n < w4.heap.size + 1) w4.heap.size g B ∧ Ext (w.alloc (.cells c 33)) wx ∧ wx.heap.size = w4.heap.size + 1 from by
    rintro _ rfl
    exact ⟨hBx, hE4.alloc _, by simp⟩)
  clear hBx hO4 hx4 hE3
  have h89 := Lib.hid (len89 ho hk)
  cases learn <;> cases forward
  · go_wp2_with (first
      | fail
      | ((with_reducible refine at_store 33 ?_); refine wpList_store_new3 rfl rfl 33 _ _ _ rfl _ cx _ rfl ?_ rfl hcxi.out hcxz.out hcxo.out ?_; · rfl
         intro wx hwx
         obtain ⟨hBx, hEx, hzx0⟩ := HMK.out wx hwx
         have HX := Lib.hid hBx
         have hzx := Lib.hid hzx0
         clear hwx hBx hzx0
         obtain ⟨hXl, hgl, hne⟩ := HX.out.lt
         obtain ⟨cap, c17, hca, hcb⟩ := HX.out.cell17 ho
         have hfr := HX.out.frozen
         have p20 := (HX.out.cellg (i := k * 89 + 20) (lt89 hk (by decide))).trans (ho.gi hk 20 rfl)
         have p29 := (HX.out.cellg (i := k * 89 + 29) (lt89 hk (by decide))).trans (ho.gb hk 29 rfl)
         have p27 := (HX.out.cellg (i := k * 89 + 27) (lt89 hk (by decide))).trans (ho.gb hk 27 rfl)
         have p28 := (HX.out.cellg (i := k * 89 + 28) (lt89 hk (by decide))).trans (ho.gb hk 28 rfl)
         have p26 := (HX.out.cellg (i := k * 89 + 26) (lt89 hk (by decide))).trans (ho.gb hk 26 rfl)))
    have hB1z : BrG _ (fun n => w3.heap.size ≤ n ∧ n < w4.heap.size + 1) w4.heap.size g (pe0 B k false false) := (((((HX.out.setp (k := k) (j := 20) hk (by decide) (.int .i64 0)).setp (k := k) (j := 29) hk (by decide) (.bool false)).setp (k := k) (j := 27) hk (by decide) (.bool false)).setp (k := k) (j := 28) hk (by decide) (.bool false)).setp (k := k) (j := 26) hk (by decide) (.bool false))
    have ok1z : Br.ok (pe0 B k false false) := (((((ho.setI (k := k) hk 20 .i64 0 rfl (by decide)).setB (k := k) hk 29 false rfl).setB (k := k) hk 27 false rfl).setB (k := k) hk 28 false rfl).setB (k := k) hk 26 false rfl)
    have hm1z := ((((((Mut.refl (fun n => w3.heap.size ≤ n ∧ n < w4.heap.size + 1) wx).setCell (p := ⟨g, k * 89 + 20, none⟩) (.inl HX.out.F2) (.int .i64 0)).setCell (p := ⟨g, k * 89 + 29, none⟩) (.inl HX.out.F2) (.bool false)).setCell (p := ⟨g, k * 89 + 27, none⟩) (.inl HX.out.F2) (.bool false)).setCell (p := ⟨g, k * 89 + 28, none⟩) (.inl HX.out.F2) (.bool false)).setCell (p := ⟨g, k * 89 + 26, none⟩) (.inl HX.out.F2) (.bool false))
    refine (pas_step _ (fun n => w3.heap.size ≤ n ∧ n < w4.heap.size + 1) _ g k (pe0 B k false false) hB1z ok1z hk hk8).mono ?_
    rw [pe0_f B k h89.out false]
    rintro e v1 ⟨he, hB1, hm1⟩
    obtain rfl : e = .returned (.bool false) := he
    have ok1 := pasF_ok ok1z (k := k) hk
    rw [pe0_f B k h89.out false] at ok1
    have hE11 := Ext.mutE hEx (hm1z.trans hm1) (fun n hn h1 => by have := h1.1; have := hs3.out; simp at hn; omega)
    have H1 := Lib.hid hB1
    clear hB1 hB1z ok1z hm1 hm1z hEx
    clear c17 hfr p20 p29 p27 p28 p26
    go_wp2_with fail
    have hB2z : BrG _ (fun n => w3.heap.size ≤ n ∧ n < w4.heap.size + 1) w4.heap.size g (pe0 B k false false) := H1.out
    have ok2z : Br.ok (pe0 B k false false) := ok1
    have hm2z := (Mut.refl (fun n => w3.heap.size ≤ n ∧ n < w4.heap.size + 1) v1)
    refine (pas_step _ (fun n => w3.heap.size ≤ n ∧ n < w4.heap.size + 1) _ g k (pe0 B k false false) hB2z ok2z hk hk8).mono ?_
    rw [pe0_f B k h89.out false]
    rintro e v2 ⟨he, hB2, hm2⟩
    obtain rfl : e = .returned (.bool false) := he
    have ok2 := pasF_ok ok2z (k := k) hk
    rw [pe0_f B k h89.out false] at ok2
    have hE12 := Ext.mutE hE11 (hm2z.trans hm2) (fun n hn h1 => by have := h1.1; have := hs3.out; simp at hn; omega)
    have H2 := Lib.hid hB2
    clear hB2 hB2z ok2z hm2 hm2z hE11
    go_wp2_with fail
    have hB3z : BrG _ (fun n => w3.heap.size ≤ n ∧ n < w4.heap.size + 1) w4.heap.size g (pe0 B k false false) := H2.out
    have ok3z : Br.ok (pe0 B k false false) := ok2
    have hm3z := (Mut.refl (fun n => w3.heap.size ≤ n ∧ n < w4.heap.size + 1) v2)
    refine (pas_step _ (fun n => w3.heap.size ≤ n ∧ n < w4.heap.size + 1) _ g k (pe0 B k false false) hB3z ok3z hk hk8).mono ?_
    rw [pe0_f B k h89.out false]
    rintro e v3 ⟨he, hB3, hm3⟩
    obtain rfl : e = .returned (.bool false) := he
    have ok3 := pasF_ok ok3z (k := k) hk
    rw [pe0_f B k h89.out false] at ok3
    have hE13 := Ext.mutE hE12 (hm3z.trans hm3) (fun n hn h1 => by have := h1.1; have := hs3.out; simp at hn; omega)
    have H3 := Lib.hid hB3
    clear hB3 hB3z ok3z hm3 hm3z hE12
    obtain ⟨hXlz, hglz, hnez⟩ := H3.out.lt
    obtain ⟨capz, c17z, hcaz, hcbz⟩ := H3.out.cell17 ok3
    have hfrz := H3.out.frozen
    have hflr0 := flags_range H3.out (k := k) hk
    have hfl0 := flags_len ok3 (k := k) hk
    have fl7 := (flags_at (B := (pe0 B k false false)) (k := k) (j := 7) (by decide)).trans (ok3.gb hk 29 rfl)
    rw [pe0_29 B k h89.out false] at fl7
    have fl5 := (flags_at (B := (pe0 B k false false)) (k := k) (j := 5) (by decide)).trans (ok3.gb hk 27 rfl)
    rw [pe0_27 B k h89.out false] at fl5
    have hflo0 := flags_one ok3 (k := k) hk
    obtain ⟨fl, hfl⟩ : ∃ fl, flags ((pe0 B k false false)).ps k = fl := ⟨_, rfl⟩
    rw [hfl] at hflr0 hfl0 hflo0 fl7 fl5
    clear hfl
    have hflr := Lib.hid hflr0
    have hfli := Lib.hid (show (Try.prog.info? 47).map (·.size) = some fl.length by rw [hfl0]; exact size_flags)
    have hfli2 := Lib.hid (show (Try.prog.info? 47).map (·.size) = some fl.toArray.size by rw [List.size_toArray, hfl0]; exact size_flags)
    have hfls := Lib.hid (show 29 = fl.toArray.size by rw [List.size_toArray, hfl0])
    have hflo := Lib.hid (show fl.toArray.toList.all (·.oneCell') = true by rw [List.all_eq_true]; exact hflo0)
    clear hflr0 hfl0 hflo0
    go_wp2_with (first | fail | ((with_reducible refine at_load 47 ?_); refine wpList_load_mid rfl 47 _ rfl g (k * 89 + 22) rfl fl _ hflr.out Try.underlying47 rfl hfli.out ?_) | ((with_reducible refine at_store 47 ?_); refine wpList_store_new2 rfl rfl 47 _ _ _ rfl _ fl.toArray _ rfl ?_ rfl hfli2.out hfls.out hflo.out ?_; · rfl))
    go_ret
    exact ⟨rfl, ((Ext.refl w).alloc _).trans (hE13.alloc _)⟩
  · go_wp2_with (first
      | fail
      | ((with_reducible refine at_store 33 ?_); refine wpList_store_new3 rfl rfl 33 _ _ _ rfl _ cx _ rfl ?_ rfl hcxi.out hcxz.out hcxo.out ?_; · rfl
         intro wx hwx
         obtain ⟨hBx, hEx, hzx0⟩ := HMK.out wx hwx
         have HX := Lib.hid hBx
         have hzx := Lib.hid hzx0
         clear hwx hBx hzx0
         obtain ⟨hXl, hgl, hne⟩ := HX.out.lt
         obtain ⟨cap, c17, hca, hcb⟩ := HX.out.cell17 ho
         have hfr := HX.out.frozen
         have p20 := (HX.out.cellg (i := k * 89 + 20) (lt89 hk (by decide))).trans (ho.gi hk 20 rfl)
         have p29 := (HX.out.cellg (i := k * 89 + 29) (lt89 hk (by decide))).trans (ho.gb hk 29 rfl)
         have p27 := (HX.out.cellg (i := k * 89 + 27) (lt89 hk (by decide))).trans (ho.gb hk 27 rfl)
         have p28 := (HX.out.cellg (i := k * 89 + 28) (lt89 hk (by decide))).trans (ho.gb hk 28 rfl)
         have p26 := (HX.out.cellg (i := k * 89 + 26) (lt89 hk (by decide))).trans (ho.gb hk 26 rfl)))
    have hB1z : BrG _ (fun n => w3.heap.size ≤ n ∧ n < w4.heap.size + 1) w4.heap.size g (pe0 B k false true) := (((((HX.out.setp (k := k) (j := 20) hk (by decide) (.int .i64 0)).setp (k := k) (j := 29) hk (by decide) (.bool false)).setp (k := k) (j := 27) hk (by decide) (.bool false)).setp (k := k) (j := 28) hk (by decide) (.bool false)).setp (k := k) (j := 26) hk (by decide) (.bool true))
    have ok1z : Br.ok (pe0 B k false true) := (((((ho.setI (k := k) hk 20 .i64 0 rfl (by decide)).setB (k := k) hk 29 false rfl).setB (k := k) hk 27 false rfl).setB (k := k) hk 28 false rfl).setB (k := k) hk 26 true rfl)
    have hm1z := ((((((Mut.refl (fun n => w3.heap.size ≤ n ∧ n < w4.heap.size + 1) wx).setCell (p := ⟨g, k * 89 + 20, none⟩) (.inl HX.out.F2) (.int .i64 0)).setCell (p := ⟨g, k * 89 + 29, none⟩) (.inl HX.out.F2) (.bool false)).setCell (p := ⟨g, k * 89 + 27, none⟩) (.inl HX.out.F2) (.bool false)).setCell (p := ⟨g, k * 89 + 28, none⟩) (.inl HX.out.F2) (.bool false)).setCell (p := ⟨g, k * 89 + 26, none⟩) (.inl HX.out.F2) (.bool true))
    refine (pas_step _ (fun n => w3.heap.size ≤ n ∧ n < w4.heap.size + 1) _ g k (pe0 B k false true) hB1z ok1z hk hk8).mono ?_
    rw [pe0_f B k h89.out true]
    rintro e v1 ⟨he, hB1, hm1⟩
    obtain rfl : e = .returned (.bool false) := he
    have ok1 := pasF_ok ok1z (k := k) hk
    rw [pe0_f B k h89.out true] at ok1
    have hE11 := Ext.mutE hEx (hm1z.trans hm1) (fun n hn h1 => by have := h1.1; have := hs3.out; simp at hn; omega)
    have H1 := Lib.hid hB1
    clear hB1 hB1z ok1z hm1 hm1z hEx
    clear c17 hfr p20 p29 p27 p28 p26
    go_wp2_with fail
    have hB2z : BrG _ (fun n => w3.heap.size ≤ n ∧ n < w4.heap.size + 1) w4.heap.size g (pe0 B k false true) := H1.out
    have ok2z : Br.ok (pe0 B k false true) := ok1
    have hm2z := (Mut.refl (fun n => w3.heap.size ≤ n ∧ n < w4.heap.size + 1) v1)
    refine (pas_step _ (fun n => w3.heap.size ≤ n ∧ n < w4.heap.size + 1) _ g k (pe0 B k false true) hB2z ok2z hk hk8).mono ?_
    rw [pe0_f B k h89.out true]
    rintro e v2 ⟨he, hB2, hm2⟩
    obtain rfl : e = .returned (.bool false) := he
    have ok2 := pasF_ok ok2z (k := k) hk
    rw [pe0_f B k h89.out true] at ok2
    have hE12 := Ext.mutE hE11 (hm2z.trans hm2) (fun n hn h1 => by have := h1.1; have := hs3.out; simp at hn; omega)
    have H2 := Lib.hid hB2
    clear hB2 hB2z ok2z hm2 hm2z hE11
    go_wp2_with fail
    have hB3z : BrG _ (fun n => w3.heap.size ≤ n ∧ n < w4.heap.size + 1) w4.heap.size g (pe0 B k false true) := H2.out
    have ok3z : Br.ok (pe0 B k false true) := ok2
    have hm3z := (Mut.refl (fun n => w3.heap.size ≤ n ∧ n < w4.heap.size + 1) v2)
    refine (pas_step _ (fun n => w3.heap.size ≤ n ∧ n < w4.heap.size + 1) _ g k (pe0 B k false true) hB3z ok3z hk hk8).mono ?_
    rw [pe0_f B k h89.out true]
    rintro e v3 ⟨he, hB3, hm3⟩
    obtain rfl : e = .returned (.bool false) := he
    have ok3 := pasF_ok ok3z (k := k) hk
    rw [pe0_f B k h89.out true] at ok3
    have hE13 := Ext.mutE hE12 (hm3z.trans hm3) (fun n hn h1 => by have := h1.1; have := hs3.out; simp at hn; omega)
    have H3 := Lib.hid hB3
    clear hB3 hB3z ok3z hm3 hm3z hE12
    obtain ⟨hXlz, hglz, hnez⟩ := H3.out.lt
    obtain ⟨capz, c17z, hcaz, hcbz⟩ := H3.out.cell17 ok3
    have hfrz := H3.out.frozen
    have hflr0 := flags_range H3.out (k := k) hk
    have hfl0 := flags_len ok3 (k := k) hk
    have fl7 := (flags_at (B := (pe0 B k false true)) (k := k) (j := 7) (by decide)).trans (ok3.gb hk 29 rfl)
    rw [pe0_29 B k h89.out true] at fl7
    have fl5 := (flags_at (B := (pe0 B k false true)) (k := k) (j := 5) (by decide)).trans (ok3.gb hk 27 rfl)
    rw [pe0_27 B k h89.out true] at fl5
    have hflo0 := flags_one ok3 (k := k) hk
    obtain ⟨fl, hfl⟩ : ∃ fl, flags ((pe0 B k false true)).ps k = fl := ⟨_, rfl⟩
    rw [hfl] at hflr0 hfl0 hflo0 fl7 fl5
    clear hfl
    have hflr := Lib.hid hflr0
    have hfli := Lib.hid (show (Try.prog.info? 47).map (·.size) = some fl.length by rw [hfl0]; exact size_flags)
    have hfli2 := Lib.hid (show (Try.prog.info? 47).map (·.size) = some fl.toArray.size by rw [List.size_toArray, hfl0]; exact size_flags)
    have hfls := Lib.hid (show 29 = fl.toArray.size by rw [List.size_toArray, hfl0])
    have hflo := Lib.hid (show fl.toArray.toList.all (·.oneCell') = true by rw [List.all_eq_true]; exact hflo0)
    clear hflr0 hfl0 hflo0
    go_wp2_with (first | fail | ((with_reducible refine at_load 47 ?_); refine wpList_load_mid rfl 47 _ rfl g (k * 89 + 22) rfl fl _ hflr.out Try.underlying47 rfl hfli.out ?_) | ((with_reducible refine at_store 47 ?_); refine wpList_store_new2 rfl rfl 47 _ _ _ rfl _ fl.toArray _ rfl ?_ rfl hfli2.out hfls.out hflo.out ?_; · rfl))
    go_ret
    exact ⟨rfl, ((Ext.refl w).alloc _).trans (hE13.alloc _)⟩
  · go_wp2_with (first
      | fail
      | ((with_reducible refine at_store 33 ?_); refine wpList_store_new3 rfl rfl 33 _ _ _ rfl _ cx _ rfl ?_ rfl hcxi.out hcxz.out hcxo.out ?_; · rfl
         intro wx hwx
         obtain ⟨hBx, hEx, hzx0⟩ := HMK.out wx hwx
         have HX := Lib.hid hBx
         have hzx := Lib.hid hzx0
         clear hwx hBx hzx0
         obtain ⟨hXl, hgl, hne⟩ := HX.out.lt
         obtain ⟨cap, c17, hca, hcb⟩ := HX.out.cell17 ho
         have hfr := HX.out.frozen
         have p20 := (HX.out.cellg (i := k * 89 + 20) (lt89 hk (by decide))).trans (ho.gi hk 20 rfl)
         have p29 := (HX.out.cellg (i := k * 89 + 29) (lt89 hk (by decide))).trans (ho.gb hk 29 rfl)
         have p27 := (HX.out.cellg (i := k * 89 + 27) (lt89 hk (by decide))).trans (ho.gb hk 27 rfl)
         have p28 := (HX.out.cellg (i := k * 89 + 28) (lt89 hk (by decide))).trans (ho.gb hk 28 rfl)
         have p26 := (HX.out.cellg (i := k * 89 + 26) (lt89 hk (by decide))).trans (ho.gb hk 26 rfl)))
    have hB1z : BrG _ (fun n => w3.heap.size ≤ n ∧ n < w4.heap.size + 1) w4.heap.size g (pe0 B k true false) := (((((HX.out.setp (k := k) (j := 20) hk (by decide) (.int .i64 0)).setp (k := k) (j := 29) hk (by decide) (.bool false)).setp (k := k) (j := 27) hk (by decide) (.bool false)).setp (k := k) (j := 28) hk (by decide) (.bool true)).setp (k := k) (j := 26) hk (by decide) (.bool false))
    have ok1z : Br.ok (pe0 B k true false) := (((((ho.setI (k := k) hk 20 .i64 0 rfl (by decide)).setB (k := k) hk 29 false rfl).setB (k := k) hk 27 false rfl).setB (k := k) hk 28 true rfl).setB (k := k) hk 26 false rfl)
    have hm1z := ((((((Mut.refl (fun n => w3.heap.size ≤ n ∧ n < w4.heap.size + 1) wx).setCell (p := ⟨g, k * 89 + 20, none⟩) (.inl HX.out.F2) (.int .i64 0)).setCell (p := ⟨g, k * 89 + 29, none⟩) (.inl HX.out.F2) (.bool false)).setCell (p := ⟨g, k * 89 + 27, none⟩) (.inl HX.out.F2) (.bool false)).setCell (p := ⟨g, k * 89 + 28, none⟩) (.inl HX.out.F2) (.bool true)).setCell (p := ⟨g, k * 89 + 26, none⟩) (.inl HX.out.F2) (.bool false))
    refine (pas_step _ (fun n => w3.heap.size ≤ n ∧ n < w4.heap.size + 1) _ g k (pe0 B k true false) hB1z ok1z hk hk8).mono ?_
    rw [pe0_t B k h89.out false]
    rintro e v1 ⟨he, hB1, hm1⟩
    obtain rfl : e = .returned (.bool true) := he
    have ok1 := pasF_ok ok1z (k := k) hk
    rw [pe0_t B k h89.out false] at ok1
    have hE11 := Ext.mutE hEx (hm1z.trans hm1) (fun n hn h1 => by have := h1.1; have := hs3.out; simp at hn; omega)
    have H1 := Lib.hid hB1
    clear hB1 hB1z ok1z hm1 hm1z hEx
    clear c17 hfr p20 p29 p27 p28 p26
    go_wp2_with fail
    have hB2z : BrG _ (fun n => w3.heap.size ≤ n ∧ n < w4.heap.size + 1) w4.heap.size g (pasLearn (pe0 B k true false) k) := H1.out
    have ok2z : Br.ok (pasLearn (pe0 B k true false) k) := ok1
    have hm2z := (Mut.refl (fun n => w3.heap.size ≤ n ∧ n < w4.heap.size + 1) v1)
    refine (pas_step _ (fun n => w3.heap.size ≤ n ∧ n < w4.heap.size + 1) _ g k (pasLearn (pe0 B k true false) k) hB2z ok2z hk hk8).mono ?_
    rw [pe1_f B k h89.out]
    rintro e v2 ⟨he, hB2, hm2⟩
    obtain rfl : e = .returned (.bool false) := he
    have ok2 := pasF_ok ok2z (k := k) hk
    rw [pe1_f B k h89.out] at ok2
    have hE12 := Ext.mutE hE11 (hm2z.trans hm2) (fun n hn h1 => by have := h1.1; have := hs3.out; simp at hn; omega)
    have H2 := Lib.hid hB2
    clear hB2 hB2z ok2z hm2 hm2z hE11
    go_wp2_with fail
    have hB3z : BrG _ (fun n => w3.heap.size ≤ n ∧ n < w4.heap.size + 1) w4.heap.size g (pasLearn (pe0 B k true false) k) := H2.out
    have ok3z : Br.ok (pasLearn (pe0 B k true false) k) := ok2
    have hm3z := (Mut.refl (fun n => w3.heap.size ≤ n ∧ n < w4.heap.size + 1) v2)
    refine (pas_step _ (fun n => w3.heap.size ≤ n ∧ n < w4.heap.size + 1) _ g k (pasLearn (pe0 B k true false) k) hB3z ok3z hk hk8).mono ?_
    rw [pe1_f B k h89.out]
    rintro e v3 ⟨he, hB3, hm3⟩
    obtain rfl : e = .returned (.bool false) := he
    have ok3 := pasF_ok ok3z (k := k) hk
    rw [pe1_f B k h89.out] at ok3
    have hE13 := Ext.mutE hE12 (hm3z.trans hm3) (fun n hn h1 => by have := h1.1; have := hs3.out; simp at hn; omega)
    have H3 := Lib.hid hB3
    clear hB3 hB3z ok3z hm3 hm3z hE12
    obtain ⟨hXlz, hglz, hnez⟩ := H3.out.lt
    obtain ⟨capz, c17z, hcaz, hcbz⟩ := H3.out.cell17 ok3
    have hfrz := H3.out.frozen
    have hflr0 := flags_range H3.out (k := k) hk
    have hfl0 := flags_len ok3 (k := k) hk
    have fl7 := (flags_at (B := (pasLearn (pe0 B k true false) k)) (k := k) (j := 7) (by decide)).trans (ok3.gb hk 29 rfl)
    rw [pe1_29 B k h89.out false] at fl7
    have fl5 := (flags_at (B := (pasLearn (pe0 B k true false) k)) (k := k) (j := 5) (by decide)).trans (ok3.gb hk 27 rfl)
    rw [pe1_27 B k h89.out false] at fl5
    have hflo0 := flags_one ok3 (k := k) hk
    obtain ⟨fl, hfl⟩ : ∃ fl, flags ((pasLearn (pe0 B k true false) k)).ps k = fl := ⟨_, rfl⟩
    rw [hfl] at hflr0 hfl0 hflo0 fl7 fl5
    clear hfl
    have hflr := Lib.hid hflr0
    have hfli := Lib.hid (show (Try.prog.info? 47).map (·.size) = some fl.length by rw [hfl0]; exact size_flags)
    have hfli2 := Lib.hid (show (Try.prog.info? 47).map (·.size) = some fl.toArray.size by rw [List.size_toArray, hfl0]; exact size_flags)
    have hfls := Lib.hid (show 29 = fl.toArray.size by rw [List.size_toArray, hfl0])
    have hflo := Lib.hid (show fl.toArray.toList.all (·.oneCell') = true by rw [List.all_eq_true]; exact hflo0)
    clear hflr0 hfl0 hflo0
    go_wp2_with (first | fail | ((with_reducible refine at_load 47 ?_); refine wpList_load_mid rfl 47 _ rfl g (k * 89 + 22) rfl fl _ hflr.out Try.underlying47 rfl hfli.out ?_) | ((with_reducible refine at_store 47 ?_); refine wpList_store_new2 rfl rfl 47 _ _ _ rfl _ fl.toArray _ rfl ?_ rfl hfli2.out hfls.out hflo.out ?_; · rfl))
    go_ret
    exact ⟨rfl, ((Ext.refl w).alloc _).trans (hE13.alloc _)⟩
  · go_wp2_with (first
      | fail
      | ((with_reducible refine at_store 33 ?_); refine wpList_store_new3 rfl rfl 33 _ _ _ rfl _ cx _ rfl ?_ rfl hcxi.out hcxz.out hcxo.out ?_; · rfl
         intro wx hwx
         obtain ⟨hBx, hEx, hzx0⟩ := HMK.out wx hwx
         have HX := Lib.hid hBx
         have hzx := Lib.hid hzx0
         clear hwx hBx hzx0
         obtain ⟨hXl, hgl, hne⟩ := HX.out.lt
         obtain ⟨cap, c17, hca, hcb⟩ := HX.out.cell17 ho
         have hfr := HX.out.frozen
         have p20 := (HX.out.cellg (i := k * 89 + 20) (lt89 hk (by decide))).trans (ho.gi hk 20 rfl)
         have p29 := (HX.out.cellg (i := k * 89 + 29) (lt89 hk (by decide))).trans (ho.gb hk 29 rfl)
         have p27 := (HX.out.cellg (i := k * 89 + 27) (lt89 hk (by decide))).trans (ho.gb hk 27 rfl)
         have p28 := (HX.out.cellg (i := k * 89 + 28) (lt89 hk (by decide))).trans (ho.gb hk 28 rfl)
         have p26 := (HX.out.cellg (i := k * 89 + 26) (lt89 hk (by decide))).trans (ho.gb hk 26 rfl)))
    have hB1z : BrG _ (fun n => w3.heap.size ≤ n ∧ n < w4.heap.size + 1) w4.heap.size g (pe0 B k true true) := (((((HX.out.setp (k := k) (j := 20) hk (by decide) (.int .i64 0)).setp (k := k) (j := 29) hk (by decide) (.bool false)).setp (k := k) (j := 27) hk (by decide) (.bool false)).setp (k := k) (j := 28) hk (by decide) (.bool true)).setp (k := k) (j := 26) hk (by decide) (.bool true))
    have ok1z : Br.ok (pe0 B k true true) := (((((ho.setI (k := k) hk 20 .i64 0 rfl (by decide)).setB (k := k) hk 29 false rfl).setB (k := k) hk 27 false rfl).setB (k := k) hk 28 true rfl).setB (k := k) hk 26 true rfl)
    have hm1z := ((((((Mut.refl (fun n => w3.heap.size ≤ n ∧ n < w4.heap.size + 1) wx).setCell (p := ⟨g, k * 89 + 20, none⟩) (.inl HX.out.F2) (.int .i64 0)).setCell (p := ⟨g, k * 89 + 29, none⟩) (.inl HX.out.F2) (.bool false)).setCell (p := ⟨g, k * 89 + 27, none⟩) (.inl HX.out.F2) (.bool false)).setCell (p := ⟨g, k * 89 + 28, none⟩) (.inl HX.out.F2) (.bool true)).setCell (p := ⟨g, k * 89 + 26, none⟩) (.inl HX.out.F2) (.bool true))
    refine (pas_step _ (fun n => w3.heap.size ≤ n ∧ n < w4.heap.size + 1) _ g k (pe0 B k true true) hB1z ok1z hk hk8).mono ?_
    rw [pe0_t B k h89.out true]
    rintro e v1 ⟨he, hB1, hm1⟩
    obtain rfl : e = .returned (.bool true) := he
    have ok1 := pasF_ok ok1z (k := k) hk
    rw [pe0_t B k h89.out true] at ok1
    have hE11 := Ext.mutE hEx (hm1z.trans hm1) (fun n hn h1 => by have := h1.1; have := hs3.out; simp at hn; omega)
    have H1 := Lib.hid hB1
    clear hB1 hB1z ok1z hm1 hm1z hEx
    clear c17 hfr p20 p29 p27 p28 p26
    go_wp2_with fail
    have hB2z : BrG _ (fun n => w3.heap.size ≤ n ∧ n < w4.heap.size + 1) w4.heap.size g (pasLearn (pe0 B k true true) k) := H1.out
    have ok2z : Br.ok (pasLearn (pe0 B k true true) k) := ok1
    have hm2z := (Mut.refl (fun n => w3.heap.size ≤ n ∧ n < w4.heap.size + 1) v1)
    refine (pas_step _ (fun n => w3.heap.size ≤ n ∧ n < w4.heap.size + 1) _ g k (pasLearn (pe0 B k true true) k) hB2z ok2z hk hk8).mono ?_
    rw [pe1_t B k h89.out]
    rintro e v2 ⟨he, hB2, hm2⟩
    obtain rfl : e = .returned (.bool true) := he
    have ok2 := pasF_ok ok2z (k := k) hk
    rw [pe1_t B k h89.out] at ok2
    have hE12 := Ext.mutE hE11 (hm2z.trans hm2) (fun n hn h1 => by have := h1.1; have := hs3.out; simp at hn; omega)
    have H2 := Lib.hid hB2
    clear hB2 hB2z ok2z hm2 hm2z hE11
    go_wp2_with fail
    have hB3z : BrG _ (fun n => w3.heap.size ≤ n ∧ n < w4.heap.size + 1) w4.heap.size g (pasForward (pasLearn (pe0 B k true true) k) k) := H2.out
    have ok3z : Br.ok (pasForward (pasLearn (pe0 B k true true) k) k) := ok2
    have hm3z := (Mut.refl (fun n => w3.heap.size ≤ n ∧ n < w4.heap.size + 1) v2)
    refine (pas_step _ (fun n => w3.heap.size ≤ n ∧ n < w4.heap.size + 1) _ g k (pasForward (pasLearn (pe0 B k true true) k) k) hB3z ok3z hk hk8).mono ?_
    rw [pe2_t B k h89.out]
    rintro e v3 ⟨he, hB3, hm3⟩
    obtain rfl : e = .returned (.bool false) := he
    have ok3 := pasF_ok ok3z (k := k) hk
    rw [pe2_t B k h89.out] at ok3
    have hE13 := Ext.mutE hE12 (hm3z.trans hm3) (fun n hn h1 => by have := h1.1; have := hs3.out; simp at hn; omega)
    have H3 := Lib.hid hB3
    clear hB3 hB3z ok3z hm3 hm3z hE12
    obtain ⟨hXlz, hglz, hnez⟩ := H3.out.lt
    obtain ⟨capz, c17z, hcaz, hcbz⟩ := H3.out.cell17 ok3
    have hfrz := H3.out.frozen
    have hflr0 := flags_range H3.out (k := k) hk
    have hfl0 := flags_len ok3 (k := k) hk
    have fl7 := (flags_at (B := (pasForward (pasLearn (pe0 B k true true) k) k)) (k := k) (j := 7) (by decide)).trans (ok3.gb hk 29 rfl)
    rw [pe2_29 B k h89.out] at fl7
    have fl5 := (flags_at (B := (pasForward (pasLearn (pe0 B k true true) k) k)) (k := k) (j := 5) (by decide)).trans (ok3.gb hk 27 rfl)
    rw [pe2_27 B k h89.out] at fl5
    have hflo0 := flags_one ok3 (k := k) hk
    obtain ⟨fl, hfl⟩ : ∃ fl, flags ((pasForward (pasLearn (pe0 B k true true) k) k)).ps k = fl := ⟨_, rfl⟩
    rw [hfl] at hflr0 hfl0 hflo0 fl7 fl5
    clear hfl
    have hflr := Lib.hid hflr0
    have hfli := Lib.hid (show (Try.prog.info? 47).map (·.size) = some fl.length by rw [hfl0]; exact size_flags)
    have hfli2 := Lib.hid (show (Try.prog.info? 47).map (·.size) = some fl.toArray.size by rw [List.size_toArray, hfl0]; exact size_flags)
    have hfls := Lib.hid (show 29 = fl.toArray.size by rw [List.size_toArray, hfl0])
    have hflo := Lib.hid (show fl.toArray.toList.all (·.oneCell') = true by rw [List.all_eq_true]; exact hflo0)
    clear hflr0 hfl0 hflo0
    go_wp2_with (first | fail | ((with_reducible refine at_load 47 ?_); refine wpList_load_mid rfl 47 _ rfl g (k * 89 + 22) rfl fl _ hflr.out Try.underlying47 rfl hfli.out ?_) | ((with_reducible refine at_store 47 ?_); refine wpList_store_new2 rfl rfl 47 _ _ _ rfl _ fl.toArray _ rfl ?_ rfl hfli2.out hfls.out hflo.out ?_; · rfl))
    go_ret
    exact ⟨rfl, ((Ext.refl w).alloc _).trans (hE13.alloc _)⟩

end Go.Proofs.Ythlapkddgnpaeaa
