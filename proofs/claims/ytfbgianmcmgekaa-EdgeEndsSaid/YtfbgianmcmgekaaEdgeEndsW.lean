/- The walk of EdgeEnds. No statement is proved here. -/
import Derived.Test.YtfbgianmcmgekaaEdgeM
namespace Go.Proofs.Ytfbgianmcmgekaa
open Go.RowKit Go.BigFrame Go.WideShapes Go.ChangeShapes Go.Deep
set_option linter.unusedVariables false

set_option maxRecDepth 100000 in
set_option maxHeartbeats 2000000 in
theorem law_EdgeEnds {w : World} (c : Array Value) (B : Br) (hb : BrC w c B) (ho : B.ok) (i : Int) (hi : 0 ≤ i ∧ i < 256) :
    Calls Try.prog 9 #[.agg c, .int .u8 i] w fun e w' => e = .returned (.bool true) ∧ Ext w w' := by
  have hl := ho.hd.1
  have hz : c.size = 20 := by
    obtain ⟨_, _, _, h, _⟩ := hb.facts ho.hd.1
    exact h
  have hi20 := Lib.hid (show (Try.prog.info? 33).map (·.size) = some c.size by rw [hz]; exact size_br)
  have HB := Lib.hid hb
  have hcz := hz
  clear hb hl hz
  go_enter Try.func9, Try.ntmps9
  go_wp2_with fail
  refine (edge_awake _).mono ?_
  rintro e w1 ⟨rfl, hE1⟩
  go_wp2_with (first | fail | ((with_reducible refine at_load 33 ?_); refine wpList_load_row rfl 33 _ rfl _ rfl _ c (0, 0) _ (box_heap hE1) Try.underlying33 rfl hi20.out ?_))
  refine (few_any c B _ (HB.out.ext (((Ext.refl w).alloc _).trans hE1)) ho).mono ?_
  rintro e w2 ⟨f, rfl, hx2, hf⟩
  have hE2 := Ext.trans hE1 hx2
  clear hE1 hx2
  cases f
  · go_wp2_with fail
    go_ret
    exact ⟨rfl, ((Ext.refl w).alloc _).trans hE2⟩
  have hfew := Lib.hid (hf.1 rfl)
  clear hf
  have hn1 := hfew.out.2.1
  go_wp2_with (first | fail | ((with_reducible refine at_load 33 ?_); refine wpList_load_row rfl 33 _ rfl _ rfl _ c (0, 0) _ (box_heap hE2) Try.underlying33 rfl hi20.out ?_))
  refine (at_any c B i _ (HB.out.ext (((Ext.refl w).alloc _).trans hE2)) ho hi hn1).mono ?_
  rintro e w3 ⟨rfl, hx3⟩
  have hE3 := Ext.trans hE2 hx3
  clear hE2 hx3
  obtain ⟨k, hk0⟩ : ∃ k, i.toNat % B.np = k := ⟨_, rfl⟩
  have hk : k < B.np := by rw [← hk0]; exact Nat.mod_lt _ hn1
  have hk8 : k < 1000 := by have := hfew.out; omega
  rw [hk0]
  clear hk0
  go_wp2_with (first | fail | ((with_reducible refine at_load 33 ?_); refine wpList_load_row rfl 33 _ rfl _ rfl _ c (0, 0) _ (box_heap hE3) Try.underlying33 rfl hi20.out ?_))
  refine (clone_any c B _ (HB.out.ext (((Ext.refl w).alloc _).trans hE3)) ho (by have := hfew.out; omega)).mono ?_
  rintro e w4 ⟨cx, rfl, hO4, hx4⟩
  have hE4 := Ext.trans hE3 hx4
  have hcxz := Lib.hid (size_z20.trans (hO4.size ho).symm)
  have hcxo := Lib.hid (hO4.one ho)
  have hcxi := Lib.hid (show (Try.prog.info? 33).map (·.size) = some cx.size by rw [hO4.size ho]; exact size_br)
  obtain ⟨g, hBx⟩ := hO4.made hx4.size hn1
  have HX := Lib.hid hBx
  have hs3 := Lib.hid (show w.heap.size < w3.heap.size from Nat.lt_of_lt_of_le (by simp) hE3.size)
  have hs4 := Lib.hid hx4.size
  have HMK := Lib.hid (show ∀ wx : World, wx = w4.alloc (.cells cx 33) → BrG wx (fun n => w3.heap.size ≤ n ∧ n < w4.heap.size + 1) w4.heap.size g B ∧ Ext (w.alloc (.cells c 33)) wx ∧ wx.heap.size = w4.heap.size + 1 from by
    rintro _ rfl
    exact ⟨hBx, hE4.alloc _, by simp⟩)
  clear hBx hO4 hx4 hE3
  have h89 := Lib.hid (len89 ho hk)
  obtain ⟨hi0, hi1⟩ := hi
  obtain ⟨en, hen⟩ : ∃ m, B.gb k 2 = m := ⟨_, rfl⟩
  have HEN := Lib.hid hen
  clear hen
  obtain ⟨ad, had⟩ : ∃ m, B.gb k 4 = m := ⟨_, rfl⟩
  have HAD := Lib.hid had
  clear had
  obtain ⟨oe, hoe⟩ : ∃ m, B.gb k 32 = m := ⟨_, rfl⟩
  have HOE := Lib.hid hoe
  clear hoe
  rcases (by omega : i / 8 % 2 = 0 ∨ i / 8 % 2 = 1) with hs | hs <;> cases en <;> cases oe
  · go_wp2_with (first
      | fail
      | ((with_reducible refine at_store 33 ?_); refine wpList_store_new3 rfl rfl 33 _ _ _ rfl _ cx _ rfl ?_ rfl hcxi.out hcxz.out hcxo.out ?_; · rfl
         intro wx hwx
         obtain ⟨hBx, hEx, hzx0⟩ := HMK.out wx hwx
         have HX := Lib.hid hBx
         have hzx := Lib.hid hzx0
         clear hwx hBx hzx0
         obtain ⟨hXl, hgl, hne⟩ := HX.out.lt
         obtain ⟨cap, c17, hca, hcb⟩ := HX.out.cell17 ho
         have hfr := HX.out.frozen
         have p2 := (HX.out.cellg (i := k * 89 + 2) (lt89 hk (by decide))).trans (ho.gb hk 2 rfl)
         have p4 := (HX.out.cellg (i := k * 89 + 4) (lt89 hk (by decide))).trans (ho.gb hk 4 rfl)
         have p17 := (HX.out.cellg (i := k * 89 + 17) (lt89 hk (by decide))).trans (ho.gi hk 17 rfl)
         have p32 := (HX.out.cellg (i := k * 89 + 32) (lt89 hk (by decide))).trans (ho.gb hk 32 rfl)
         rw [HEN.out] at p2
         rw [HAD.out] at p4
         rw [HOE.out] at p32))
    have hB1z : BrG _ (fun n => w3.heap.size ≤ n ∧ n < w4.heap.size + 1) w4.heap.size g (((B.setp k 2 (.bool (!ad))).setp k 17 (.int .i64 0)).setp k 32 (.bool false)) := (((HX.out.setp (k := k) (j := 2) hk (by decide) (.bool (!ad))).setp (k := k) (j := 17) hk (by decide) (.int .i64 0)).setp (k := k) (j := 32) hk (by decide) (.bool false))
    have ok1z : Br.ok (((B.setp k 2 (.bool (!ad))).setp k 17 (.int .i64 0)).setp k 32 (.bool false)) := (((ho.setB (k := k) hk 2 (!ad) rfl).setI (k := k) hk 17 .i64 0 rfl (by decide)).setB (k := k) hk 32 false rfl)
    have hm1z := ((((Mut.refl (fun n => w3.heap.size ≤ n ∧ n < w4.heap.size + 1) wx).setCell (p := ⟨g, k * 89 + 2, none⟩) (.inl HX.out.F2) (.bool (!ad))).setCell (p := ⟨g, k * 89 + 17, none⟩) (.inl HX.out.F2) (.int .i64 0)).setCell (p := ⟨g, k * 89 + 32, none⟩) (.inl HX.out.F2) (.bool false))
    refine (edge_step _ (fun n => w3.heap.size ≤ n ∧ n < w4.heap.size + 1) _ g k (((B.setp k 2 (.bool (!ad))).setp k 17 (.int .i64 0)).setp k 32 (.bool false)) hB1z ok1z hk hk8).mono ?_
    rintro e v1 ⟨he, hB1, hm1⟩
    obtain rfl : e = .returned (.bool (edgeF (((B.setp k 2 (.bool (!ad))).setp k 17 (.int .i64 0)).setp k 32 (.bool false)) k).1) := he
    have ok1 := edgeF_ok ok1z (k := k) hk
    have hE11 := Ext.mutE hEx (hm1z.trans hm1) (fun n hn h1 => by have := h1.1; have := hs3.out; simp at hn; omega)
    have H1 := Lib.hid hB1
    clear hB1 hB1z ok1z hm1 hm1z hEx
    have hkk1 : k < (edgeF (((B.setp k 2 (.bool (!ad))).setp k 17 (.int .i64 0)).setp k 32 (.bool false)) k).2.np := by simpa only [edgeF_np, np_setp] using hk
    clear c17 hfr p2 p4 p17 p32
    go_wp2_with fail
    have hB2z : BrG _ (fun n => w3.heap.size ≤ n ∧ n < w4.heap.size + 1) w4.heap.size g (edgeF (((B.setp k 2 (.bool (!ad))).setp k 17 (.int .i64 0)).setp k 32 (.bool false)) k).2 := H1.out
    have ok2z : Br.ok (edgeF (((B.setp k 2 (.bool (!ad))).setp k 17 (.int .i64 0)).setp k 32 (.bool false)) k).2 := ok1
    have hm2z := (Mut.refl (fun n => w3.heap.size ≤ n ∧ n < w4.heap.size + 1) v1)
    refine (edge_step _ (fun n => w3.heap.size ≤ n ∧ n < w4.heap.size + 1) _ g k (edgeF (((B.setp k 2 (.bool (!ad))).setp k 17 (.int .i64 0)).setp k 32 (.bool false)) k).2 hB2z ok2z hkk1 hk8).mono ?_
    rintro e v2 ⟨he, hB2, hm2⟩
    obtain rfl : e = .returned (.bool (edgeF (edgeF (((B.setp k 2 (.bool (!ad))).setp k 17 (.int .i64 0)).setp k 32 (.bool false)) k).2 k).1) := he
    have ok2 := edgeF_ok ok2z (k := k) hkk1
    have hE12 := Ext.mutE hE11 (hm2z.trans hm2) (fun n hn h1 => by have := h1.1; have := hs3.out; simp at hn; omega)
    have H2 := Lib.hid hB2
    clear hB2 hB2z ok2z hm2 hm2z hE11
    have hkk2 : k < (edgeF (edgeF (((B.setp k 2 (.bool (!ad))).setp k 17 (.int .i64 0)).setp k 32 (.bool false)) k).2 k).2.np := by simpa only [edgeF_np, np_setp] using hk
    go_wp2_with fail
    have hB3z : BrG _ (fun n => w3.heap.size ≤ n ∧ n < w4.heap.size + 1) w4.heap.size g (edgeF (edgeF (((B.setp k 2 (.bool (!ad))).setp k 17 (.int .i64 0)).setp k 32 (.bool false)) k).2 k).2 := H2.out
    have ok3z : Br.ok (edgeF (edgeF (((B.setp k 2 (.bool (!ad))).setp k 17 (.int .i64 0)).setp k 32 (.bool false)) k).2 k).2 := ok2
    have hm3z := (Mut.refl (fun n => w3.heap.size ≤ n ∧ n < w4.heap.size + 1) v2)
    refine (edge_step _ (fun n => w3.heap.size ≤ n ∧ n < w4.heap.size + 1) _ g k (edgeF (edgeF (((B.setp k 2 (.bool (!ad))).setp k 17 (.int .i64 0)).setp k 32 (.bool false)) k).2 k).2 hB3z ok3z hkk2 hk8).mono ?_
    rintro e v3 ⟨he, hB3, hm3⟩
    obtain rfl : e = .returned (.bool (edgeF (edgeF (edgeF (((B.setp k 2 (.bool (!ad))).setp k 17 (.int .i64 0)).setp k 32 (.bool false)) k).2 k).2 k).1) := he
    have ok3 := edgeF_ok ok3z (k := k) hkk2
    have hE13 := Ext.mutE hE12 (hm3z.trans hm3) (fun n hn h1 => by have := h1.1; have := hs3.out; simp at hn; omega)
    have H3 := Lib.hid hB3
    clear hB3 hB3z ok3z hm3 hm3z hE12
    have hkk3 : k < (edgeF (edgeF (edgeF (((B.setp k 2 (.bool (!ad))).setp k 17 (.int .i64 0)).setp k 32 (.bool false)) k).2 k).2 k).2.np := by simpa only [edgeF_np, np_setp] using hk
    have hends := edge_ends (((B.setp k 2 (.bool (!ad))).setp k 17 (.int .i64 0)).setp k 32 (.bool false)) k (by simpa using h89.out) (by
      rw [gb_setp_ne _ _ _ _ _ (by decide), gb_setp_ne _ _ _ _ _ (by decide), gb_setp_same _ _ _ _ (by have := h89.out; omega), gb_setp_ne _ _ _ _ _ (by decide), gb_setp_ne _ _ _ _ _ (by decide), gb_setp_ne _ _ _ _ _ (by decide), HAD.out]
      cases ad <;> rfl) (Or.inl (by rw [gi_setp_ne _ _ _ _ _ (by decide), gi_setp_same _ _ _ _ _ (by have := h89.out; simp only [len_setp]; omega)]))
    rw [hends.1]
    have hends2 := hends.2
    have hnpz : (edgeF (edgeF (edgeF (((B.setp k 2 (.bool (!ad))).setp k 17 (.int .i64 0)).setp k 32 (.bool false)) k).2 k).2 k).2.np = B.np := by simp only [edgeF_np]; rfl
    obtain ⟨Z, hZ⟩ : ∃ Z, (edgeF (edgeF (edgeF (((B.setp k 2 (.bool (!ad))).setp k 17 (.int .i64 0)).setp k 32 (.bool false)) k).2 k).2 k).2 = Z := ⟨_, rfl⟩
    rw [hZ] at hends2 H3 ok3 hkk3 hnpz
    clear hends hZ hkk1 hkk2 H1 H2 ok1 ok2
    obtain ⟨hXlz, hglz, hnez⟩ := H3.out.lt
    obtain ⟨capz, c17z, hcaz, hcbz⟩ := H3.out.cell17 ok3
    have hfrz := H3.out.frozen
    rw [hnpz] at c17z hcaz
    have hqr0 := H3.out.range (k := k) hkk3
    have hqt := port_typed ok3 (i := k) hkk3
    have c32q := (port_at (B := Z) (k := k) (j := 32) (by decide)).trans (ok3.gb hkk3 32 rfl)
    rw [hends2] at c32q
    have c17q := (port_at (B := Z) (k := k) (j := 17) (by decide)).trans (ok3.gi hkk3 17 rfl)
    obtain ⟨pq, hpq⟩ : ∃ p, port (Z).ps k = p := ⟨_, rfl⟩
    rw [hpq] at hqr0 hqt c32q c17q
    clear hpq
    have hqr := Lib.hid hqr0
    have hqi := Lib.hid (show (Try.prog.info? 52).map (·.size) = some pq.length by rw [hqt.1]; exact size_port)
    have hqi2 := Lib.hid (show (Try.prog.info? 52).map (·.size) = some pq.toArray.size by rw [List.size_toArray]; exact hqi.out)
    have hqs := Lib.hid (show PZ.size = pq.toArray.size by rw [size_PZ, List.size_toArray]; exact hqt.1.symm)
    have hqo := Lib.hid (all_oneCell_toArray hqt.one)
    have hqz := zero_port
    clear hqr0 hqt
    clear hends2
    obtain ⟨z, hz⟩ : ∃ z, Z.gi k 17 = z := ⟨_, rfl⟩
    rw [hz] at c32q c17q
    clear hz
    by_cases hz0 : z = 0
    · simp only [hz0, decide_true, decide_false] at c32q c17q
      go_wp2_with (first | fail | ((with_reducible refine at_load 52 ?_); refine wpList_load_mid rfl 52 _ rfl g (k * 89) rfl pq _ hqr.out Try.underlying52 rfl hqi.out ?_) | ((with_reducible refine at_store 52 ?_); refine wpList_store_new rfl 52 _ _ rfl PZ pq.toArray rfl rfl hqi2.out hqs.out hqo.out ?_))
      go_ret
      exact ⟨rfl, ((Ext.refl w).alloc _).trans (hE13.alloc _)⟩
    · simp only [hz0, decide_true, decide_false] at c32q c17q
      have hzb : (z == 0) = false := by simpa using hz0
      go_wp2_with (first | fail | ((with_reducible refine at_load 52 ?_); refine wpList_load_mid rfl 52 _ rfl g (k * 89) rfl pq _ hqr.out Try.underlying52 rfl hqi.out ?_) | ((with_reducible refine at_store 52 ?_); refine wpList_store_new rfl 52 _ _ rfl PZ pq.toArray rfl rfl hqi2.out hqs.out hqo.out ?_))
      go_ret
      exact ⟨rfl, ((Ext.refl w).alloc _).trans (hE13.alloc _)⟩
  · go_wp2_with (first
      | fail
      | ((with_reducible refine at_store 33 ?_); refine wpList_store_new3 rfl rfl 33 _ _ _ rfl _ cx _ rfl ?_ rfl hcxi.out hcxz.out hcxo.out ?_; · rfl
         intro wx hwx
         obtain ⟨hBx, hEx, hzx0⟩ := HMK.out wx hwx
         have HX := Lib.hid hBx
         have hzx := Lib.hid hzx0
         clear hwx hBx hzx0
         obtain ⟨hXl, hgl, hne⟩ := HX.out.lt
         obtain ⟨cap, c17, hca, hcb⟩ := HX.out.cell17 ho
         have hfr := HX.out.frozen
         have p2 := (HX.out.cellg (i := k * 89 + 2) (lt89 hk (by decide))).trans (ho.gb hk 2 rfl)
         have p4 := (HX.out.cellg (i := k * 89 + 4) (lt89 hk (by decide))).trans (ho.gb hk 4 rfl)
         have p17 := (HX.out.cellg (i := k * 89 + 17) (lt89 hk (by decide))).trans (ho.gi hk 17 rfl)
         have p32 := (HX.out.cellg (i := k * 89 + 32) (lt89 hk (by decide))).trans (ho.gb hk 32 rfl)
         rw [HEN.out] at p2
         rw [HAD.out] at p4
         rw [HOE.out] at p32))
    have hB1z : BrG _ (fun n => w3.heap.size ≤ n ∧ n < w4.heap.size + 1) w4.heap.size g (((B.setp k 2 (.bool (!ad))).setp k 17 (.int .i64 0)).setp k 32 (.bool true)) := (((HX.out.setp (k := k) (j := 2) hk (by decide) (.bool (!ad))).setp (k := k) (j := 17) hk (by decide) (.int .i64 0)).setp (k := k) (j := 32) hk (by decide) (.bool true))
    have ok1z : Br.ok (((B.setp k 2 (.bool (!ad))).setp k 17 (.int .i64 0)).setp k 32 (.bool true)) := (((ho.setB (k := k) hk 2 (!ad) rfl).setI (k := k) hk 17 .i64 0 rfl (by decide)).setB (k := k) hk 32 true rfl)
    have hm1z := ((((Mut.refl (fun n => w3.heap.size ≤ n ∧ n < w4.heap.size + 1) wx).setCell (p := ⟨g, k * 89 + 2, none⟩) (.inl HX.out.F2) (.bool (!ad))).setCell (p := ⟨g, k * 89 + 17, none⟩) (.inl HX.out.F2) (.int .i64 0)).setCell (p := ⟨g, k * 89 + 32, none⟩) (.inl HX.out.F2) (.bool true))
    refine (edge_step _ (fun n => w3.heap.size ≤ n ∧ n < w4.heap.size + 1) _ g k (((B.setp k 2 (.bool (!ad))).setp k 17 (.int .i64 0)).setp k 32 (.bool true)) hB1z ok1z hk hk8).mono ?_
    rintro e v1 ⟨he, hB1, hm1⟩
    obtain rfl : e = .returned (.bool (edgeF (((B.setp k 2 (.bool (!ad))).setp k 17 (.int .i64 0)).setp k 32 (.bool true)) k).1) := he
    have ok1 := edgeF_ok ok1z (k := k) hk
    have hE11 := Ext.mutE hEx (hm1z.trans hm1) (fun n hn h1 => by have := h1.1; have := hs3.out; simp at hn; omega)
    have H1 := Lib.hid hB1
    clear hB1 hB1z ok1z hm1 hm1z hEx
    have hkk1 : k < (edgeF (((B.setp k 2 (.bool (!ad))).setp k 17 (.int .i64 0)).setp k 32 (.bool true)) k).2.np := by simpa only [edgeF_np, np_setp] using hk
    clear c17 hfr p2 p4 p17 p32
    go_wp2_with fail
    have hB2z : BrG _ (fun n => w3.heap.size ≤ n ∧ n < w4.heap.size + 1) w4.heap.size g (edgeF (((B.setp k 2 (.bool (!ad))).setp k 17 (.int .i64 0)).setp k 32 (.bool true)) k).2 := H1.out
    have ok2z : Br.ok (edgeF (((B.setp k 2 (.bool (!ad))).setp k 17 (.int .i64 0)).setp k 32 (.bool true)) k).2 := ok1
    have hm2z := (Mut.refl (fun n => w3.heap.size ≤ n ∧ n < w4.heap.size + 1) v1)
    refine (edge_step _ (fun n => w3.heap.size ≤ n ∧ n < w4.heap.size + 1) _ g k (edgeF (((B.setp k 2 (.bool (!ad))).setp k 17 (.int .i64 0)).setp k 32 (.bool true)) k).2 hB2z ok2z hkk1 hk8).mono ?_
    rintro e v2 ⟨he, hB2, hm2⟩
    obtain rfl : e = .returned (.bool (edgeF (edgeF (((B.setp k 2 (.bool (!ad))).setp k 17 (.int .i64 0)).setp k 32 (.bool true)) k).2 k).1) := he
    have ok2 := edgeF_ok ok2z (k := k) hkk1
    have hE12 := Ext.mutE hE11 (hm2z.trans hm2) (fun n hn h1 => by have := h1.1; have := hs3.out; simp at hn; omega)
    have H2 := Lib.hid hB2
    clear hB2 hB2z ok2z hm2 hm2z hE11
    have hkk2 : k < (edgeF (edgeF (((B.setp k 2 (.bool (!ad))).setp k 17 (.int .i64 0)).setp k 32 (.bool true)) k).2 k).2.np := by simpa only [edgeF_np, np_setp] using hk
    go_wp2_with fail
    have hB3z : BrG _ (fun n => w3.heap.size ≤ n ∧ n < w4.heap.size + 1) w4.heap.size g (edgeF (edgeF (((B.setp k 2 (.bool (!ad))).setp k 17 (.int .i64 0)).setp k 32 (.bool true)) k).2 k).2 := H2.out
    have ok3z : Br.ok (edgeF (edgeF (((B.setp k 2 (.bool (!ad))).setp k 17 (.int .i64 0)).setp k 32 (.bool true)) k).2 k).2 := ok2
    have hm3z := (Mut.refl (fun n => w3.heap.size ≤ n ∧ n < w4.heap.size + 1) v2)
    refine (edge_step _ (fun n => w3.heap.size ≤ n ∧ n < w4.heap.size + 1) _ g k (edgeF (edgeF (((B.setp k 2 (.bool (!ad))).setp k 17 (.int .i64 0)).setp k 32 (.bool true)) k).2 k).2 hB3z ok3z hkk2 hk8).mono ?_
    rintro e v3 ⟨he, hB3, hm3⟩
    obtain rfl : e = .returned (.bool (edgeF (edgeF (edgeF (((B.setp k 2 (.bool (!ad))).setp k 17 (.int .i64 0)).setp k 32 (.bool true)) k).2 k).2 k).1) := he
    have ok3 := edgeF_ok ok3z (k := k) hkk2
    have hE13 := Ext.mutE hE12 (hm3z.trans hm3) (fun n hn h1 => by have := h1.1; have := hs3.out; simp at hn; omega)
    have H3 := Lib.hid hB3
    clear hB3 hB3z ok3z hm3 hm3z hE12
    have hkk3 : k < (edgeF (edgeF (edgeF (((B.setp k 2 (.bool (!ad))).setp k 17 (.int .i64 0)).setp k 32 (.bool true)) k).2 k).2 k).2.np := by simpa only [edgeF_np, np_setp] using hk
    have hends := edge_ends (((B.setp k 2 (.bool (!ad))).setp k 17 (.int .i64 0)).setp k 32 (.bool true)) k (by simpa using h89.out) (by
      rw [gb_setp_ne _ _ _ _ _ (by decide), gb_setp_ne _ _ _ _ _ (by decide), gb_setp_same _ _ _ _ (by have := h89.out; omega), gb_setp_ne _ _ _ _ _ (by decide), gb_setp_ne _ _ _ _ _ (by decide), gb_setp_ne _ _ _ _ _ (by decide), HAD.out]
      cases ad <;> rfl) (Or.inl (by rw [gi_setp_ne _ _ _ _ _ (by decide), gi_setp_same _ _ _ _ _ (by have := h89.out; simp only [len_setp]; omega)]))
    rw [hends.1]
    have hends2 := hends.2
    have hnpz : (edgeF (edgeF (edgeF (((B.setp k 2 (.bool (!ad))).setp k 17 (.int .i64 0)).setp k 32 (.bool true)) k).2 k).2 k).2.np = B.np := by simp only [edgeF_np]; rfl
    obtain ⟨Z, hZ⟩ : ∃ Z, (edgeF (edgeF (edgeF (((B.setp k 2 (.bool (!ad))).setp k 17 (.int .i64 0)).setp k 32 (.bool true)) k).2 k).2 k).2 = Z := ⟨_, rfl⟩
    rw [hZ] at hends2 H3 ok3 hkk3 hnpz
    clear hends hZ hkk1 hkk2 H1 H2 ok1 ok2
    obtain ⟨hXlz, hglz, hnez⟩ := H3.out.lt
    obtain ⟨capz, c17z, hcaz, hcbz⟩ := H3.out.cell17 ok3
    have hfrz := H3.out.frozen
    rw [hnpz] at c17z hcaz
    have hqr0 := H3.out.range (k := k) hkk3
    have hqt := port_typed ok3 (i := k) hkk3
    have c32q := (port_at (B := Z) (k := k) (j := 32) (by decide)).trans (ok3.gb hkk3 32 rfl)
    rw [hends2] at c32q
    have c17q := (port_at (B := Z) (k := k) (j := 17) (by decide)).trans (ok3.gi hkk3 17 rfl)
    obtain ⟨pq, hpq⟩ : ∃ p, port (Z).ps k = p := ⟨_, rfl⟩
    rw [hpq] at hqr0 hqt c32q c17q
    clear hpq
    have hqr := Lib.hid hqr0
    have hqi := Lib.hid (show (Try.prog.info? 52).map (·.size) = some pq.length by rw [hqt.1]; exact size_port)
    have hqi2 := Lib.hid (show (Try.prog.info? 52).map (·.size) = some pq.toArray.size by rw [List.size_toArray]; exact hqi.out)
    have hqs := Lib.hid (show PZ.size = pq.toArray.size by rw [size_PZ, List.size_toArray]; exact hqt.1.symm)
    have hqo := Lib.hid (all_oneCell_toArray hqt.one)
    have hqz := zero_port
    clear hqr0 hqt
    clear hends2
    obtain ⟨z, hz⟩ : ∃ z, Z.gi k 17 = z := ⟨_, rfl⟩
    rw [hz] at c32q c17q
    clear hz
    by_cases hz0 : z = 0
    · simp only [hz0, decide_true, decide_false] at c32q c17q
      go_wp2_with (first | fail | ((with_reducible refine at_load 52 ?_); refine wpList_load_mid rfl 52 _ rfl g (k * 89) rfl pq _ hqr.out Try.underlying52 rfl hqi.out ?_) | ((with_reducible refine at_store 52 ?_); refine wpList_store_new rfl 52 _ _ rfl PZ pq.toArray rfl rfl hqi2.out hqs.out hqo.out ?_))
      go_ret
      exact ⟨rfl, ((Ext.refl w).alloc _).trans (hE13.alloc _)⟩
    · simp only [hz0, decide_true, decide_false] at c32q c17q
      have hzb : (z == 0) = false := by simpa using hz0
      go_wp2_with (first | fail | ((with_reducible refine at_load 52 ?_); refine wpList_load_mid rfl 52 _ rfl g (k * 89) rfl pq _ hqr.out Try.underlying52 rfl hqi.out ?_) | ((with_reducible refine at_store 52 ?_); refine wpList_store_new rfl 52 _ _ rfl PZ pq.toArray rfl rfl hqi2.out hqs.out hqo.out ?_))
      go_ret
      exact ⟨rfl, ((Ext.refl w).alloc _).trans (hE13.alloc _)⟩
  · go_wp2_with (first
      | fail
      | ((with_reducible refine at_store 33 ?_); refine wpList_store_new3 rfl rfl 33 _ _ _ rfl _ cx _ rfl ?_ rfl hcxi.out hcxz.out hcxo.out ?_; · rfl
         intro wx hwx
         obtain ⟨hBx, hEx, hzx0⟩ := HMK.out wx hwx
         have HX := Lib.hid hBx
         have hzx := Lib.hid hzx0
         clear hwx hBx hzx0
         obtain ⟨hXl, hgl, hne⟩ := HX.out.lt
         obtain ⟨cap, c17, hca, hcb⟩ := HX.out.cell17 ho
         have hfr := HX.out.frozen
         have p2 := (HX.out.cellg (i := k * 89 + 2) (lt89 hk (by decide))).trans (ho.gb hk 2 rfl)
         have p4 := (HX.out.cellg (i := k * 89 + 4) (lt89 hk (by decide))).trans (ho.gb hk 4 rfl)
         have p17 := (HX.out.cellg (i := k * 89 + 17) (lt89 hk (by decide))).trans (ho.gi hk 17 rfl)
         have p32 := (HX.out.cellg (i := k * 89 + 32) (lt89 hk (by decide))).trans (ho.gb hk 32 rfl)
         rw [HEN.out] at p2
         rw [HAD.out] at p4
         rw [HOE.out] at p32))
    have hB1z : BrG _ (fun n => w3.heap.size ≤ n ∧ n < w4.heap.size + 1) w4.heap.size g (((B.setp k 2 (.bool true)).setp k 17 (.int .i64 0)).setp k 32 (.bool false)) := (((HX.out.setp (k := k) (j := 2) hk (by decide) (.bool true)).setp (k := k) (j := 17) hk (by decide) (.int .i64 0)).setp (k := k) (j := 32) hk (by decide) (.bool false))
    have ok1z : Br.ok (((B.setp k 2 (.bool true)).setp k 17 (.int .i64 0)).setp k 32 (.bool false)) := (((ho.setB (k := k) hk 2 true rfl).setI (k := k) hk 17 .i64 0 rfl (by decide)).setB (k := k) hk 32 false rfl)
    have hm1z := ((((Mut.refl (fun n => w3.heap.size ≤ n ∧ n < w4.heap.size + 1) wx).setCell (p := ⟨g, k * 89 + 2, none⟩) (.inl HX.out.F2) (.bool true)).setCell (p := ⟨g, k * 89 + 17, none⟩) (.inl HX.out.F2) (.int .i64 0)).setCell (p := ⟨g, k * 89 + 32, none⟩) (.inl HX.out.F2) (.bool false))
    refine (edge_step _ (fun n => w3.heap.size ≤ n ∧ n < w4.heap.size + 1) _ g k (((B.setp k 2 (.bool true)).setp k 17 (.int .i64 0)).setp k 32 (.bool false)) hB1z ok1z hk hk8).mono ?_
    rintro e v1 ⟨he, hB1, hm1⟩
    obtain rfl : e = .returned (.bool (edgeF (((B.setp k 2 (.bool true)).setp k 17 (.int .i64 0)).setp k 32 (.bool false)) k).1) := he
    have ok1 := edgeF_ok ok1z (k := k) hk
    have hE11 := Ext.mutE hEx (hm1z.trans hm1) (fun n hn h1 => by have := h1.1; have := hs3.out; simp at hn; omega)
    have H1 := Lib.hid hB1
    clear hB1 hB1z ok1z hm1 hm1z hEx
    have hkk1 : k < (edgeF (((B.setp k 2 (.bool true)).setp k 17 (.int .i64 0)).setp k 32 (.bool false)) k).2.np := by simpa only [edgeF_np, np_setp] using hk
    clear c17 hfr p2 p4 p17 p32
    go_wp2_with fail
    have hB2z : BrG _ (fun n => w3.heap.size ≤ n ∧ n < w4.heap.size + 1) w4.heap.size g (edgeF (((B.setp k 2 (.bool true)).setp k 17 (.int .i64 0)).setp k 32 (.bool false)) k).2 := H1.out
    have ok2z : Br.ok (edgeF (((B.setp k 2 (.bool true)).setp k 17 (.int .i64 0)).setp k 32 (.bool false)) k).2 := ok1
    have hm2z := (Mut.refl (fun n => w3.heap.size ≤ n ∧ n < w4.heap.size + 1) v1)
    refine (edge_step _ (fun n => w3.heap.size ≤ n ∧ n < w4.heap.size + 1) _ g k (edgeF (((B.setp k 2 (.bool true)).setp k 17 (.int .i64 0)).setp k 32 (.bool false)) k).2 hB2z ok2z hkk1 hk8).mono ?_
    rintro e v2 ⟨he, hB2, hm2⟩
    obtain rfl : e = .returned (.bool (edgeF (edgeF (((B.setp k 2 (.bool true)).setp k 17 (.int .i64 0)).setp k 32 (.bool false)) k).2 k).1) := he
    have ok2 := edgeF_ok ok2z (k := k) hkk1
    have hE12 := Ext.mutE hE11 (hm2z.trans hm2) (fun n hn h1 => by have := h1.1; have := hs3.out; simp at hn; omega)
    have H2 := Lib.hid hB2
    clear hB2 hB2z ok2z hm2 hm2z hE11
    have hkk2 : k < (edgeF (edgeF (((B.setp k 2 (.bool true)).setp k 17 (.int .i64 0)).setp k 32 (.bool false)) k).2 k).2.np := by simpa only [edgeF_np, np_setp] using hk
    go_wp2_with fail
    have hB3z : BrG _ (fun n => w3.heap.size ≤ n ∧ n < w4.heap.size + 1) w4.heap.size g (edgeF (edgeF (((B.setp k 2 (.bool true)).setp k 17 (.int .i64 0)).setp k 32 (.bool false)) k).2 k).2 := H2.out
    have ok3z : Br.ok (edgeF (edgeF (((B.setp k 2 (.bool true)).setp k 17 (.int .i64 0)).setp k 32 (.bool false)) k).2 k).2 := ok2
    have hm3z := (Mut.refl (fun n => w3.heap.size ≤ n ∧ n < w4.heap.size + 1) v2)
    refine (edge_step _ (fun n => w3.heap.size ≤ n ∧ n < w4.heap.size + 1) _ g k (edgeF (edgeF (((B.setp k 2 (.bool true)).setp k 17 (.int .i64 0)).setp k 32 (.bool false)) k).2 k).2 hB3z ok3z hkk2 hk8).mono ?_
    rintro e v3 ⟨he, hB3, hm3⟩
    obtain rfl : e = .returned (.bool (edgeF (edgeF (edgeF (((B.setp k 2 (.bool true)).setp k 17 (.int .i64 0)).setp k 32 (.bool false)) k).2 k).2 k).1) := he
    have ok3 := edgeF_ok ok3z (k := k) hkk2
    have hE13 := Ext.mutE hE12 (hm3z.trans hm3) (fun n hn h1 => by have := h1.1; have := hs3.out; simp at hn; omega)
    have H3 := Lib.hid hB3
    clear hB3 hB3z ok3z hm3 hm3z hE12
    have hkk3 : k < (edgeF (edgeF (edgeF (((B.setp k 2 (.bool true)).setp k 17 (.int .i64 0)).setp k 32 (.bool false)) k).2 k).2 k).2.np := by simpa only [edgeF_np, np_setp] using hk
    have hends := edge_ends (((B.setp k 2 (.bool true)).setp k 17 (.int .i64 0)).setp k 32 (.bool false)) k (by simpa using h89.out) (by
      rw [gb_setp_ne _ _ _ _ _ (by decide), gb_setp_ne _ _ _ _ _ (by decide), gb_setp_same _ _ _ _ (by have := h89.out; omega), gb_setp_ne _ _ _ _ _ (by decide), gb_setp_ne _ _ _ _ _ (by decide), gb_setp_ne _ _ _ _ _ (by decide), HAD.out]
      cases ad <;> rfl) (Or.inl (by rw [gi_setp_ne _ _ _ _ _ (by decide), gi_setp_same _ _ _ _ _ (by have := h89.out; simp only [len_setp]; omega)]))
    rw [hends.1]
    have hends2 := hends.2
    have hnpz : (edgeF (edgeF (edgeF (((B.setp k 2 (.bool true)).setp k 17 (.int .i64 0)).setp k 32 (.bool false)) k).2 k).2 k).2.np = B.np := by simp only [edgeF_np]; rfl
    obtain ⟨Z, hZ⟩ : ∃ Z, (edgeF (edgeF (edgeF (((B.setp k 2 (.bool true)).setp k 17 (.int .i64 0)).setp k 32 (.bool false)) k).2 k).2 k).2 = Z := ⟨_, rfl⟩
    rw [hZ] at hends2 H3 ok3 hkk3 hnpz
    clear hends hZ hkk1 hkk2 H1 H2 ok1 ok2
    obtain ⟨hXlz, hglz, hnez⟩ := H3.out.lt
    obtain ⟨capz, c17z, hcaz, hcbz⟩ := H3.out.cell17 ok3
    have hfrz := H3.out.frozen
    rw [hnpz] at c17z hcaz
    have hqr0 := H3.out.range (k := k) hkk3
    have hqt := port_typed ok3 (i := k) hkk3
    have c32q := (port_at (B := Z) (k := k) (j := 32) (by decide)).trans (ok3.gb hkk3 32 rfl)
    rw [hends2] at c32q
    have c17q := (port_at (B := Z) (k := k) (j := 17) (by decide)).trans (ok3.gi hkk3 17 rfl)
    obtain ⟨pq, hpq⟩ : ∃ p, port (Z).ps k = p := ⟨_, rfl⟩
    rw [hpq] at hqr0 hqt c32q c17q
    clear hpq
    have hqr := Lib.hid hqr0
    have hqi := Lib.hid (show (Try.prog.info? 52).map (·.size) = some pq.length by rw [hqt.1]; exact size_port)
    have hqi2 := Lib.hid (show (Try.prog.info? 52).map (·.size) = some pq.toArray.size by rw [List.size_toArray]; exact hqi.out)
    have hqs := Lib.hid (show PZ.size = pq.toArray.size by rw [size_PZ, List.size_toArray]; exact hqt.1.symm)
    have hqo := Lib.hid (all_oneCell_toArray hqt.one)
    have hqz := zero_port
    clear hqr0 hqt
    clear hends2
    obtain ⟨z, hz⟩ : ∃ z, Z.gi k 17 = z := ⟨_, rfl⟩
    rw [hz] at c32q c17q
    clear hz
    by_cases hz0 : z = 0
    · simp only [hz0, decide_true, decide_false] at c32q c17q
      go_wp2_with (first | fail | ((with_reducible refine at_load 52 ?_); refine wpList_load_mid rfl 52 _ rfl g (k * 89) rfl pq _ hqr.out Try.underlying52 rfl hqi.out ?_) | ((with_reducible refine at_store 52 ?_); refine wpList_store_new rfl 52 _ _ rfl PZ pq.toArray rfl rfl hqi2.out hqs.out hqo.out ?_))
      go_ret
      exact ⟨rfl, ((Ext.refl w).alloc _).trans (hE13.alloc _)⟩
    · simp only [hz0, decide_true, decide_false] at c32q c17q
      have hzb : (z == 0) = false := by simpa using hz0
      go_wp2_with (first | fail | ((with_reducible refine at_load 52 ?_); refine wpList_load_mid rfl 52 _ rfl g (k * 89) rfl pq _ hqr.out Try.underlying52 rfl hqi.out ?_) | ((with_reducible refine at_store 52 ?_); refine wpList_store_new rfl 52 _ _ rfl PZ pq.toArray rfl rfl hqi2.out hqs.out hqo.out ?_))
      go_ret
      exact ⟨rfl, ((Ext.refl w).alloc _).trans (hE13.alloc _)⟩
  · go_wp2_with (first
      | fail
      | ((with_reducible refine at_store 33 ?_); refine wpList_store_new3 rfl rfl 33 _ _ _ rfl _ cx _ rfl ?_ rfl hcxi.out hcxz.out hcxo.out ?_; · rfl
         intro wx hwx
         obtain ⟨hBx, hEx, hzx0⟩ := HMK.out wx hwx
         have HX := Lib.hid hBx
         have hzx := Lib.hid hzx0
         clear hwx hBx hzx0
         obtain ⟨hXl, hgl, hne⟩ := HX.out.lt
         obtain ⟨cap, c17, hca, hcb⟩ := HX.out.cell17 ho
         have hfr := HX.out.frozen
         have p2 := (HX.out.cellg (i := k * 89 + 2) (lt89 hk (by decide))).trans (ho.gb hk 2 rfl)
         have p4 := (HX.out.cellg (i := k * 89 + 4) (lt89 hk (by decide))).trans (ho.gb hk 4 rfl)
         have p17 := (HX.out.cellg (i := k * 89 + 17) (lt89 hk (by decide))).trans (ho.gi hk 17 rfl)
         have p32 := (HX.out.cellg (i := k * 89 + 32) (lt89 hk (by decide))).trans (ho.gb hk 32 rfl)
         rw [HEN.out] at p2
         rw [HAD.out] at p4
         rw [HOE.out] at p32))
    have hB1z : BrG _ (fun n => w3.heap.size ≤ n ∧ n < w4.heap.size + 1) w4.heap.size g (((B.setp k 2 (.bool true)).setp k 17 (.int .i64 0)).setp k 32 (.bool true)) := (((HX.out.setp (k := k) (j := 2) hk (by decide) (.bool true)).setp (k := k) (j := 17) hk (by decide) (.int .i64 0)).setp (k := k) (j := 32) hk (by decide) (.bool true))
    have ok1z : Br.ok (((B.setp k 2 (.bool true)).setp k 17 (.int .i64 0)).setp k 32 (.bool true)) := (((ho.setB (k := k) hk 2 true rfl).setI (k := k) hk 17 .i64 0 rfl (by decide)).setB (k := k) hk 32 true rfl)
    have hm1z := ((((Mut.refl (fun n => w3.heap.size ≤ n ∧ n < w4.heap.size + 1) wx).setCell (p := ⟨g, k * 89 + 2, none⟩) (.inl HX.out.F2) (.bool true)).setCell (p := ⟨g, k * 89 + 17, none⟩) (.inl HX.out.F2) (.int .i64 0)).setCell (p := ⟨g, k * 89 + 32, none⟩) (.inl HX.out.F2) (.bool true))
    refine (edge_step _ (fun n => w3.heap.size ≤ n ∧ n < w4.heap.size + 1) _ g k (((B.setp k 2 (.bool true)).setp k 17 (.int .i64 0)).setp k 32 (.bool true)) hB1z ok1z hk hk8).mono ?_
    rintro e v1 ⟨he, hB1, hm1⟩
    obtain rfl : e = .returned (.bool (edgeF (((B.setp k 2 (.bool true)).setp k 17 (.int .i64 0)).setp k 32 (.bool true)) k).1) := he
    have ok1 := edgeF_ok ok1z (k := k) hk
    have hE11 := Ext.mutE hEx (hm1z.trans hm1) (fun n hn h1 => by have := h1.1; have := hs3.out; simp at hn; omega)
    have H1 := Lib.hid hB1
    clear hB1 hB1z ok1z hm1 hm1z hEx
    have hkk1 : k < (edgeF (((B.setp k 2 (.bool true)).setp k 17 (.int .i64 0)).setp k 32 (.bool true)) k).2.np := by simpa only [edgeF_np, np_setp] using hk
    clear c17 hfr p2 p4 p17 p32
    go_wp2_with fail
    have hB2z : BrG _ (fun n => w3.heap.size ≤ n ∧ n < w4.heap.size + 1) w4.heap.size g (edgeF (((B.setp k 2 (.bool true)).setp k 17 (.int .i64 0)).setp k 32 (.bool true)) k).2 := H1.out
    have ok2z : Br.ok (edgeF (((B.setp k 2 (.bool true)).setp k 17 (.int .i64 0)).setp k 32 (.bool true)) k).2 := ok1
    have hm2z := (Mut.refl (fun n => w3.heap.size ≤ n ∧ n < w4.heap.size + 1) v1)
    refine (edge_step _ (fun n => w3.heap.size ≤ n ∧ n < w4.heap.size + 1) _ g k (edgeF (((B.setp k 2 (.bool true)).setp k 17 (.int .i64 0)).setp k 32 (.bool true)) k).2 hB2z ok2z hkk1 hk8).mono ?_
    rintro e v2 ⟨he, hB2, hm2⟩
    obtain rfl : e = .returned (.bool (edgeF (edgeF (((B.setp k 2 (.bool true)).setp k 17 (.int .i64 0)).setp k 32 (.bool true)) k).2 k).1) := he
    have ok2 := edgeF_ok ok2z (k := k) hkk1
    have hE12 := Ext.mutE hE11 (hm2z.trans hm2) (fun n hn h1 => by have := h1.1; have := hs3.out; simp at hn; omega)
    have H2 := Lib.hid hB2
    clear hB2 hB2z ok2z hm2 hm2z hE11
    have hkk2 : k < (edgeF (edgeF (((B.setp k 2 (.bool true)).setp k 17 (.int .i64 0)).setp k 32 (.bool true)) k).2 k).2.np := by simpa only [edgeF_np, np_setp] using hk
    go_wp2_with fail
    have hB3z : BrG _ (fun n => w3.heap.size ≤ n ∧ n < w4.heap.size + 1) w4.heap.size g (edgeF (edgeF (((B.setp k 2 (.bool true)).setp k 17 (.int .i64 0)).setp k 32 (.bool true)) k).2 k).2 := H2.out
    have ok3z : Br.ok (edgeF (edgeF (((B.setp k 2 (.bool true)).setp k 17 (.int .i64 0)).setp k 32 (.bool true)) k).2 k).2 := ok2
    have hm3z := (Mut.refl (fun n => w3.heap.size ≤ n ∧ n < w4.heap.size + 1) v2)
    refine (edge_step _ (fun n => w3.heap.size ≤ n ∧ n < w4.heap.size + 1) _ g k (edgeF (edgeF (((B.setp k 2 (.bool true)).setp k 17 (.int .i64 0)).setp k 32 (.bool true)) k).2 k).2 hB3z ok3z hkk2 hk8).mono ?_
    rintro e v3 ⟨he, hB3, hm3⟩
    obtain rfl : e = .returned (.bool (edgeF (edgeF (edgeF (((B.setp k 2 (.bool true)).setp k 17 (.int .i64 0)).setp k 32 (.bool true)) k).2 k).2 k).1) := he
    have ok3 := edgeF_ok ok3z (k := k) hkk2
    have hE13 := Ext.mutE hE12 (hm3z.trans hm3) (fun n hn h1 => by have := h1.1; have := hs3.out; simp at hn; omega)
    have H3 := Lib.hid hB3
    clear hB3 hB3z ok3z hm3 hm3z hE12
    have hkk3 : k < (edgeF (edgeF (edgeF (((B.setp k 2 (.bool true)).setp k 17 (.int .i64 0)).setp k 32 (.bool true)) k).2 k).2 k).2.np := by simpa only [edgeF_np, np_setp] using hk
    have hends := edge_ends (((B.setp k 2 (.bool true)).setp k 17 (.int .i64 0)).setp k 32 (.bool true)) k (by simpa using h89.out) (by
      rw [gb_setp_ne _ _ _ _ _ (by decide), gb_setp_ne _ _ _ _ _ (by decide), gb_setp_same _ _ _ _ (by have := h89.out; omega), gb_setp_ne _ _ _ _ _ (by decide), gb_setp_ne _ _ _ _ _ (by decide), gb_setp_ne _ _ _ _ _ (by decide), HAD.out]
      cases ad <;> rfl) (Or.inl (by rw [gi_setp_ne _ _ _ _ _ (by decide), gi_setp_same _ _ _ _ _ (by have := h89.out; simp only [len_setp]; omega)]))
    rw [hends.1]
    have hends2 := hends.2
    have hnpz : (edgeF (edgeF (edgeF (((B.setp k 2 (.bool true)).setp k 17 (.int .i64 0)).setp k 32 (.bool true)) k).2 k).2 k).2.np = B.np := by simp only [edgeF_np]; rfl
    obtain ⟨Z, hZ⟩ : ∃ Z, (edgeF (edgeF (edgeF (((B.setp k 2 (.bool true)).setp k 17 (.int .i64 0)).setp k 32 (.bool true)) k).2 k).2 k).2 = Z := ⟨_, rfl⟩
    rw [hZ] at hends2 H3 ok3 hkk3 hnpz
    clear hends hZ hkk1 hkk2 H1 H2 ok1 ok2
    obtain ⟨hXlz, hglz, hnez⟩ := H3.out.lt
    obtain ⟨capz, c17z, hcaz, hcbz⟩ := H3.out.cell17 ok3
    have hfrz := H3.out.frozen
    rw [hnpz] at c17z hcaz
    have hqr0 := H3.out.range (k := k) hkk3
    have hqt := port_typed ok3 (i := k) hkk3
    have c32q := (port_at (B := Z) (k := k) (j := 32) (by decide)).trans (ok3.gb hkk3 32 rfl)
    rw [hends2] at c32q
    have c17q := (port_at (B := Z) (k := k) (j := 17) (by decide)).trans (ok3.gi hkk3 17 rfl)
    obtain ⟨pq, hpq⟩ : ∃ p, port (Z).ps k = p := ⟨_, rfl⟩
    rw [hpq] at hqr0 hqt c32q c17q
    clear hpq
    have hqr := Lib.hid hqr0
    have hqi := Lib.hid (show (Try.prog.info? 52).map (·.size) = some pq.length by rw [hqt.1]; exact size_port)
    have hqi2 := Lib.hid (show (Try.prog.info? 52).map (·.size) = some pq.toArray.size by rw [List.size_toArray]; exact hqi.out)
    have hqs := Lib.hid (show PZ.size = pq.toArray.size by rw [size_PZ, List.size_toArray]; exact hqt.1.symm)
    have hqo := Lib.hid (all_oneCell_toArray hqt.one)
    have hqz := zero_port
    clear hqr0 hqt
    clear hends2
    obtain ⟨z, hz⟩ : ∃ z, Z.gi k 17 = z := ⟨_, rfl⟩
    rw [hz] at c32q c17q
    clear hz
    by_cases hz0 : z = 0
    · simp only [hz0, decide_true, decide_false] at c32q c17q
      go_wp2_with (first | fail | ((with_reducible refine at_load 52 ?_); refine wpList_load_mid rfl 52 _ rfl g (k * 89) rfl pq _ hqr.out Try.underlying52 rfl hqi.out ?_) | ((with_reducible refine at_store 52 ?_); refine wpList_store_new rfl 52 _ _ rfl PZ pq.toArray rfl rfl hqi2.out hqs.out hqo.out ?_))
      go_ret
      exact ⟨rfl, ((Ext.refl w).alloc _).trans (hE13.alloc _)⟩
    · simp only [hz0, decide_true, decide_false] at c32q c17q
      have hzb : (z == 0) = false := by simpa using hz0
      go_wp2_with (first | fail | ((with_reducible refine at_load 52 ?_); refine wpList_load_mid rfl 52 _ rfl g (k * 89) rfl pq _ hqr.out Try.underlying52 rfl hqi.out ?_) | ((with_reducible refine at_store 52 ?_); refine wpList_store_new rfl 52 _ _ rfl PZ pq.toArray rfl rfl hqi2.out hqs.out hqo.out ?_))
      go_ret
      exact ⟨rfl, ((Ext.refl w).alloc _).trans (hE13.alloc _)⟩
  · go_wp2_with (first
      | fail
      | ((with_reducible refine at_store 33 ?_); refine wpList_store_new3 rfl rfl 33 _ _ _ rfl _ cx _ rfl ?_ rfl hcxi.out hcxz.out hcxo.out ?_; · rfl
         intro wx hwx
         obtain ⟨hBx, hEx, hzx0⟩ := HMK.out wx hwx
         have HX := Lib.hid hBx
         have hzx := Lib.hid hzx0
         clear hwx hBx hzx0
         obtain ⟨hXl, hgl, hne⟩ := HX.out.lt
         obtain ⟨cap, c17, hca, hcb⟩ := HX.out.cell17 ho
         have hfr := HX.out.frozen
         have p2 := (HX.out.cellg (i := k * 89 + 2) (lt89 hk (by decide))).trans (ho.gb hk 2 rfl)
         have p4 := (HX.out.cellg (i := k * 89 + 4) (lt89 hk (by decide))).trans (ho.gb hk 4 rfl)
         have p17 := (HX.out.cellg (i := k * 89 + 17) (lt89 hk (by decide))).trans (ho.gi hk 17 rfl)
         have p32 := (HX.out.cellg (i := k * 89 + 32) (lt89 hk (by decide))).trans (ho.gb hk 32 rfl)
         rw [HEN.out] at p2
         rw [HAD.out] at p4
         rw [HOE.out] at p32))
    have hB1z : BrG _ (fun n => w3.heap.size ≤ n ∧ n < w4.heap.size + 1) w4.heap.size g (((B.setp k 2 (.bool (!ad))).setp k 17 (.int .i64 1)).setp k 32 (.bool false)) := (((HX.out.setp (k := k) (j := 2) hk (by decide) (.bool (!ad))).setp (k := k) (j := 17) hk (by decide) (.int .i64 1)).setp (k := k) (j := 32) hk (by decide) (.bool false))
    have ok1z : Br.ok (((B.setp k 2 (.bool (!ad))).setp k 17 (.int .i64 1)).setp k 32 (.bool false)) := (((ho.setB (k := k) hk 2 (!ad) rfl).setI (k := k) hk 17 .i64 1 rfl (by decide)).setB (k := k) hk 32 false rfl)
    have hm1z := ((((Mut.refl (fun n => w3.heap.size ≤ n ∧ n < w4.heap.size + 1) wx).setCell (p := ⟨g, k * 89 + 2, none⟩) (.inl HX.out.F2) (.bool (!ad))).setCell (p := ⟨g, k * 89 + 17, none⟩) (.inl HX.out.F2) (.int .i64 1)).setCell (p := ⟨g, k * 89 + 32, none⟩) (.inl HX.out.F2) (.bool false))
    refine (edge_step _ (fun n => w3.heap.size ≤ n ∧ n < w4.heap.size + 1) _ g k (((B.setp k 2 (.bool (!ad))).setp k 17 (.int .i64 1)).setp k 32 (.bool false)) hB1z ok1z hk hk8).mono ?_
    rintro e v1 ⟨he, hB1, hm1⟩
    obtain rfl : e = .returned (.bool (edgeF (((B.setp k 2 (.bool (!ad))).setp k 17 (.int .i64 1)).setp k 32 (.bool false)) k).1) := he
    have ok1 := edgeF_ok ok1z (k := k) hk
    have hE11 := Ext.mutE hEx (hm1z.trans hm1) (fun n hn h1 => by have := h1.1; have := hs3.out; simp at hn; omega)
    have H1 := Lib.hid hB1
    clear hB1 hB1z ok1z hm1 hm1z hEx
    have hkk1 : k < (edgeF (((B.setp k 2 (.bool (!ad))).setp k 17 (.int .i64 1)).setp k 32 (.bool false)) k).2.np := by simpa only [edgeF_np, np_setp] using hk
    clear c17 hfr p2 p4 p17 p32
    go_wp2_with fail
    have hB2z : BrG _ (fun n => w3.heap.size ≤ n ∧ n < w4.heap.size + 1) w4.heap.size g (edgeF (((B.setp k 2 (.bool (!ad))).setp k 17 (.int .i64 1)).setp k 32 (.bool false)) k).2 := H1.out
    have ok2z : Br.ok (edgeF (((B.setp k 2 (.bool (!ad))).setp k 17 (.int .i64 1)).setp k 32 (.bool false)) k).2 := ok1
    have hm2z := (Mut.refl (fun n => w3.heap.size ≤ n ∧ n < w4.heap.size + 1) v1)
    refine (edge_step _ (fun n => w3.heap.size ≤ n ∧ n < w4.heap.size + 1) _ g k (edgeF (((B.setp k 2 (.bool (!ad))).setp k 17 (.int .i64 1)).setp k 32 (.bool false)) k).2 hB2z ok2z hkk1 hk8).mono ?_
    rintro e v2 ⟨he, hB2, hm2⟩
    obtain rfl : e = .returned (.bool (edgeF (edgeF (((B.setp k 2 (.bool (!ad))).setp k 17 (.int .i64 1)).setp k 32 (.bool false)) k).2 k).1) := he
    have ok2 := edgeF_ok ok2z (k := k) hkk1
    have hE12 := Ext.mutE hE11 (hm2z.trans hm2) (fun n hn h1 => by have := h1.1; have := hs3.out; simp at hn; omega)
    have H2 := Lib.hid hB2
    clear hB2 hB2z ok2z hm2 hm2z hE11
    have hkk2 : k < (edgeF (edgeF (((B.setp k 2 (.bool (!ad))).setp k 17 (.int .i64 1)).setp k 32 (.bool false)) k).2 k).2.np := by simpa only [edgeF_np, np_setp] using hk
    go_wp2_with fail
    have hB3z : BrG _ (fun n => w3.heap.size ≤ n ∧ n < w4.heap.size + 1) w4.heap.size g (edgeF (edgeF (((B.setp k 2 (.bool (!ad))).setp k 17 (.int .i64 1)).setp k 32 (.bool false)) k).2 k).2 := H2.out
    have ok3z : Br.ok (edgeF (edgeF (((B.setp k 2 (.bool (!ad))).setp k 17 (.int .i64 1)).setp k 32 (.bool false)) k).2 k).2 := ok2
    have hm3z := (Mut.refl (fun n => w3.heap.size ≤ n ∧ n < w4.heap.size + 1) v2)
    refine (edge_step _ (fun n => w3.heap.size ≤ n ∧ n < w4.heap.size + 1) _ g k (edgeF (edgeF (((B.setp k 2 (.bool (!ad))).setp k 17 (.int .i64 1)).setp k 32 (.bool false)) k).2 k).2 hB3z ok3z hkk2 hk8).mono ?_
    rintro e v3 ⟨he, hB3, hm3⟩
    obtain rfl : e = .returned (.bool (edgeF (edgeF (edgeF (((B.setp k 2 (.bool (!ad))).setp k 17 (.int .i64 1)).setp k 32 (.bool false)) k).2 k).2 k).1) := he
    have ok3 := edgeF_ok ok3z (k := k) hkk2
    have hE13 := Ext.mutE hE12 (hm3z.trans hm3) (fun n hn h1 => by have := h1.1; have := hs3.out; simp at hn; omega)
    have H3 := Lib.hid hB3
    clear hB3 hB3z ok3z hm3 hm3z hE12
    have hkk3 : k < (edgeF (edgeF (edgeF (((B.setp k 2 (.bool (!ad))).setp k 17 (.int .i64 1)).setp k 32 (.bool false)) k).2 k).2 k).2.np := by simpa only [edgeF_np, np_setp] using hk
    have hends := edge_ends (((B.setp k 2 (.bool (!ad))).setp k 17 (.int .i64 1)).setp k 32 (.bool false)) k (by simpa using h89.out) (by
      rw [gb_setp_ne _ _ _ _ _ (by decide), gb_setp_ne _ _ _ _ _ (by decide), gb_setp_same _ _ _ _ (by have := h89.out; omega), gb_setp_ne _ _ _ _ _ (by decide), gb_setp_ne _ _ _ _ _ (by decide), gb_setp_ne _ _ _ _ _ (by decide), HAD.out]
      cases ad <;> rfl) (Or.inr ⟨by rw [gi_setp_ne _ _ _ _ _ (by decide), gi_setp_same _ _ _ _ _ (by have := h89.out; simp only [len_setp]; omega)], by rw [gb_setp_same _ _ _ _ (by have := h89.out; simp only [len_setp]; omega)]⟩)
    rw [hends.1]
    have hends2 := hends.2
    have hnpz : (edgeF (edgeF (edgeF (((B.setp k 2 (.bool (!ad))).setp k 17 (.int .i64 1)).setp k 32 (.bool false)) k).2 k).2 k).2.np = B.np := by simp only [edgeF_np]; rfl
    obtain ⟨Z, hZ⟩ : ∃ Z, (edgeF (edgeF (edgeF (((B.setp k 2 (.bool (!ad))).setp k 17 (.int .i64 1)).setp k 32 (.bool false)) k).2 k).2 k).2 = Z := ⟨_, rfl⟩
    rw [hZ] at hends2 H3 ok3 hkk3 hnpz
    clear hends hZ hkk1 hkk2 H1 H2 ok1 ok2
    obtain ⟨hXlz, hglz, hnez⟩ := H3.out.lt
    obtain ⟨capz, c17z, hcaz, hcbz⟩ := H3.out.cell17 ok3
    have hfrz := H3.out.frozen
    rw [hnpz] at c17z hcaz
    have hqr0 := H3.out.range (k := k) hkk3
    have hqt := port_typed ok3 (i := k) hkk3
    have c32q := (port_at (B := Z) (k := k) (j := 32) (by decide)).trans (ok3.gb hkk3 32 rfl)
    rw [hends2] at c32q
    have c17q := (port_at (B := Z) (k := k) (j := 17) (by decide)).trans (ok3.gi hkk3 17 rfl)
    obtain ⟨pq, hpq⟩ : ∃ p, port (Z).ps k = p := ⟨_, rfl⟩
    rw [hpq] at hqr0 hqt c32q c17q
    clear hpq
    have hqr := Lib.hid hqr0
    have hqi := Lib.hid (show (Try.prog.info? 52).map (·.size) = some pq.length by rw [hqt.1]; exact size_port)
    have hqi2 := Lib.hid (show (Try.prog.info? 52).map (·.size) = some pq.toArray.size by rw [List.size_toArray]; exact hqi.out)
    have hqs := Lib.hid (show PZ.size = pq.toArray.size by rw [size_PZ, List.size_toArray]; exact hqt.1.symm)
    have hqo := Lib.hid (all_oneCell_toArray hqt.one)
    have hqz := zero_port
    clear hqr0 hqt
    clear hends2
    obtain ⟨z, hz⟩ : ∃ z, Z.gi k 17 = z := ⟨_, rfl⟩
    rw [hz] at c32q c17q
    clear hz
    by_cases hz0 : z = 0
    · simp only [hz0, decide_true, decide_false] at c32q c17q
      go_wp2_with (first | fail | ((with_reducible refine at_load 52 ?_); refine wpList_load_mid rfl 52 _ rfl g (k * 89) rfl pq _ hqr.out Try.underlying52 rfl hqi.out ?_) | ((with_reducible refine at_store 52 ?_); refine wpList_store_new rfl 52 _ _ rfl PZ pq.toArray rfl rfl hqi2.out hqs.out hqo.out ?_))
      go_ret
      exact ⟨rfl, ((Ext.refl w).alloc _).trans (hE13.alloc _)⟩
    · simp only [hz0, decide_true, decide_false] at c32q c17q
      have hzb : (z == 0) = false := by simpa using hz0
      go_wp2_with (first | fail | ((with_reducible refine at_load 52 ?_); refine wpList_load_mid rfl 52 _ rfl g (k * 89) rfl pq _ hqr.out Try.underlying52 rfl hqi.out ?_) | ((with_reducible refine at_store 52 ?_); refine wpList_store_new rfl 52 _ _ rfl PZ pq.toArray rfl rfl hqi2.out hqs.out hqo.out ?_))
      go_ret
      exact ⟨rfl, ((Ext.refl w).alloc _).trans (hE13.alloc _)⟩
  · go_wp2_with (first
      | fail
      | ((with_reducible refine at_store 33 ?_); refine wpList_store_new3 rfl rfl 33 _ _ _ rfl _ cx _ rfl ?_ rfl hcxi.out hcxz.out hcxo.out ?_; · rfl
         intro wx hwx
         obtain ⟨hBx, hEx, hzx0⟩ := HMK.out wx hwx
         have HX := Lib.hid hBx
         have hzx := Lib.hid hzx0
         clear hwx hBx hzx0
         obtain ⟨hXl, hgl, hne⟩ := HX.out.lt
         obtain ⟨cap, c17, hca, hcb⟩ := HX.out.cell17 ho
         have hfr := HX.out.frozen
         have p2 := (HX.out.cellg (i := k * 89 + 2) (lt89 hk (by decide))).trans (ho.gb hk 2 rfl)
         have p4 := (HX.out.cellg (i := k * 89 + 4) (lt89 hk (by decide))).trans (ho.gb hk 4 rfl)
         have p17 := (HX.out.cellg (i := k * 89 + 17) (lt89 hk (by decide))).trans (ho.gi hk 17 rfl)
         have p32 := (HX.out.cellg (i := k * 89 + 32) (lt89 hk (by decide))).trans (ho.gb hk 32 rfl)
         rw [HEN.out] at p2
         rw [HAD.out] at p4
         rw [HOE.out] at p32))
    have hB1z : BrG _ (fun n => w3.heap.size ≤ n ∧ n < w4.heap.size + 1) w4.heap.size g (((B.setp k 2 (.bool (!ad))).setp k 17 (.int .i64 1)).setp k 32 (.bool false)) := (((HX.out.setp (k := k) (j := 2) hk (by decide) (.bool (!ad))).setp (k := k) (j := 17) hk (by decide) (.int .i64 1)).setp (k := k) (j := 32) hk (by decide) (.bool false))
    have ok1z : Br.ok (((B.setp k 2 (.bool (!ad))).setp k 17 (.int .i64 1)).setp k 32 (.bool false)) := (((ho.setB (k := k) hk 2 (!ad) rfl).setI (k := k) hk 17 .i64 1 rfl (by decide)).setB (k := k) hk 32 false rfl)
    have hm1z := ((((Mut.refl (fun n => w3.heap.size ≤ n ∧ n < w4.heap.size + 1) wx).setCell (p := ⟨g, k * 89 + 2, none⟩) (.inl HX.out.F2) (.bool (!ad))).setCell (p := ⟨g, k * 89 + 17, none⟩) (.inl HX.out.F2) (.int .i64 1)).setCell (p := ⟨g, k * 89 + 32, none⟩) (.inl HX.out.F2) (.bool false))
    refine (edge_step _ (fun n => w3.heap.size ≤ n ∧ n < w4.heap.size + 1) _ g k (((B.setp k 2 (.bool (!ad))).setp k 17 (.int .i64 1)).setp k 32 (.bool false)) hB1z ok1z hk hk8).mono ?_
    rintro e v1 ⟨he, hB1, hm1⟩
    obtain rfl : e = .returned (.bool (edgeF (((B.setp k 2 (.bool (!ad))).setp k 17 (.int .i64 1)).setp k 32 (.bool false)) k).1) := he
    have ok1 := edgeF_ok ok1z (k := k) hk
    have hE11 := Ext.mutE hEx (hm1z.trans hm1) (fun n hn h1 => by have := h1.1; have := hs3.out; simp at hn; omega)
    have H1 := Lib.hid hB1
    clear hB1 hB1z ok1z hm1 hm1z hEx
    have hkk1 : k < (edgeF (((B.setp k 2 (.bool (!ad))).setp k 17 (.int .i64 1)).setp k 32 (.bool false)) k).2.np := by simpa only [edgeF_np, np_setp] using hk
    clear c17 hfr p2 p4 p17 p32
    go_wp2_with fail
    have hB2z : BrG _ (fun n => w3.heap.size ≤ n ∧ n < w4.heap.size + 1) w4.heap.size g (edgeF (((B.setp k 2 (.bool (!ad))).setp k 17 (.int .i64 1)).setp k 32 (.bool false)) k).2 := H1.out
    have ok2z : Br.ok (edgeF (((B.setp k 2 (.bool (!ad))).setp k 17 (.int .i64 1)).setp k 32 (.bool false)) k).2 := ok1
    have hm2z := (Mut.refl (fun n => w3.heap.size ≤ n ∧ n < w4.heap.size + 1) v1)
    refine (edge_step _ (fun n => w3.heap.size ≤ n ∧ n < w4.heap.size + 1) _ g k (edgeF (((B.setp k 2 (.bool (!ad))).setp k 17 (.int .i64 1)).setp k 32 (.bool false)) k).2 hB2z ok2z hkk1 hk8).mono ?_
    rintro e v2 ⟨he, hB2, hm2⟩
    obtain rfl : e = .returned (.bool (edgeF (edgeF (((B.setp k 2 (.bool (!ad))).setp k 17 (.int .i64 1)).setp k 32 (.bool false)) k).2 k).1) := he
    have ok2 := edgeF_ok ok2z (k := k) hkk1
    have hE12 := Ext.mutE hE11 (hm2z.trans hm2) (fun n hn h1 => by have := h1.1; have := hs3.out; simp at hn; omega)
    have H2 := Lib.hid hB2
    clear hB2 hB2z ok2z hm2 hm2z hE11
    have hkk2 : k < (edgeF (edgeF (((B.setp k 2 (.bool (!ad))).setp k 17 (.int .i64 1)).setp k 32 (.bool false)) k).2 k).2.np := by simpa only [edgeF_np, np_setp] using hk
    go_wp2_with fail
    have hB3z : BrG _ (fun n => w3.heap.size ≤ n ∧ n < w4.heap.size + 1) w4.heap.size g (edgeF (edgeF (((B.setp k 2 (.bool (!ad))).setp k 17 (.int .i64 1)).setp k 32 (.bool false)) k).2 k).2 := H2.out
    have ok3z : Br.ok (edgeF (edgeF (((B.setp k 2 (.bool (!ad))).setp k 17 (.int .i64 1)).setp k 32 (.bool false)) k).2 k).2 := ok2
    have hm3z := (Mut.refl (fun n => w3.heap.size ≤ n ∧ n < w4.heap.size + 1) v2)
    refine (edge_step _ (fun n => w3.heap.size ≤ n ∧ n < w4.heap.size + 1) _ g k (edgeF (edgeF (((B.setp k 2 (.bool (!ad))).setp k 17 (.int .i64 1)).setp k 32 (.bool false)) k).2 k).2 hB3z ok3z hkk2 hk8).mono ?_
    rintro e v3 ⟨he, hB3, hm3⟩
    obtain rfl : e = .returned (.bool (edgeF (edgeF (edgeF (((B.setp k 2 (.bool (!ad))).setp k 17 (.int .i64 1)).setp k 32 (.bool false)) k).2 k).2 k).1) := he
    have ok3 := edgeF_ok ok3z (k := k) hkk2
    have hE13 := Ext.mutE hE12 (hm3z.trans hm3) (fun n hn h1 => by have := h1.1; have := hs3.out; simp at hn; omega)
    have H3 := Lib.hid hB3
    clear hB3 hB3z ok3z hm3 hm3z hE12
    have hkk3 : k < (edgeF (edgeF (edgeF (((B.setp k 2 (.bool (!ad))).setp k 17 (.int .i64 1)).setp k 32 (.bool false)) k).2 k).2 k).2.np := by simpa only [edgeF_np, np_setp] using hk
    have hends := edge_ends (((B.setp k 2 (.bool (!ad))).setp k 17 (.int .i64 1)).setp k 32 (.bool false)) k (by simpa using h89.out) (by
      rw [gb_setp_ne _ _ _ _ _ (by decide), gb_setp_ne _ _ _ _ _ (by decide), gb_setp_same _ _ _ _ (by have := h89.out; omega), gb_setp_ne _ _ _ _ _ (by decide), gb_setp_ne _ _ _ _ _ (by decide), gb_setp_ne _ _ _ _ _ (by decide), HAD.out]
      cases ad <;> rfl) (Or.inr ⟨by rw [gi_setp_ne _ _ _ _ _ (by decide), gi_setp_same _ _ _ _ _ (by have := h89.out; simp only [len_setp]; omega)], by rw [gb_setp_same _ _ _ _ (by have := h89.out; simp only [len_setp]; omega)]⟩)
    rw [hends.1]
    have hends2 := hends.2
    have hnpz : (edgeF (edgeF (edgeF (((B.setp k 2 (.bool (!ad))).setp k 17 (.int .i64 1)).setp k 32 (.bool false)) k).2 k).2 k).2.np = B.np := by simp only [edgeF_np]; rfl
    obtain ⟨Z, hZ⟩ : ∃ Z, (edgeF (edgeF (edgeF (((B.setp k 2 (.bool (!ad))).setp k 17 (.int .i64 1)).setp k 32 (.bool false)) k).2 k).2 k).2 = Z := ⟨_, rfl⟩
    rw [hZ] at hends2 H3 ok3 hkk3 hnpz
    clear hends hZ hkk1 hkk2 H1 H2 ok1 ok2
    obtain ⟨hXlz, hglz, hnez⟩ := H3.out.lt
    obtain ⟨capz, c17z, hcaz, hcbz⟩ := H3.out.cell17 ok3
    have hfrz := H3.out.frozen
    rw [hnpz] at c17z hcaz
    have hqr0 := H3.out.range (k := k) hkk3
    have hqt := port_typed ok3 (i := k) hkk3
    have c32q := (port_at (B := Z) (k := k) (j := 32) (by decide)).trans (ok3.gb hkk3 32 rfl)
    rw [hends2] at c32q
    have c17q := (port_at (B := Z) (k := k) (j := 17) (by decide)).trans (ok3.gi hkk3 17 rfl)
    obtain ⟨pq, hpq⟩ : ∃ p, port (Z).ps k = p := ⟨_, rfl⟩
    rw [hpq] at hqr0 hqt c32q c17q
    clear hpq
    have hqr := Lib.hid hqr0
    have hqi := Lib.hid (show (Try.prog.info? 52).map (·.size) = some pq.length by rw [hqt.1]; exact size_port)
    have hqi2 := Lib.hid (show (Try.prog.info? 52).map (·.size) = some pq.toArray.size by rw [List.size_toArray]; exact hqi.out)
    have hqs := Lib.hid (show PZ.size = pq.toArray.size by rw [size_PZ, List.size_toArray]; exact hqt.1.symm)
    have hqo := Lib.hid (all_oneCell_toArray hqt.one)
    have hqz := zero_port
    clear hqr0 hqt
    clear hends2
    obtain ⟨z, hz⟩ : ∃ z, Z.gi k 17 = z := ⟨_, rfl⟩
    rw [hz] at c32q c17q
    clear hz
    by_cases hz0 : z = 0
    · simp only [hz0, decide_true, decide_false] at c32q c17q
      go_wp2_with (first | fail | ((with_reducible refine at_load 52 ?_); refine wpList_load_mid rfl 52 _ rfl g (k * 89) rfl pq _ hqr.out Try.underlying52 rfl hqi.out ?_) | ((with_reducible refine at_store 52 ?_); refine wpList_store_new rfl 52 _ _ rfl PZ pq.toArray rfl rfl hqi2.out hqs.out hqo.out ?_))
      go_ret
      exact ⟨rfl, ((Ext.refl w).alloc _).trans (hE13.alloc _)⟩
    · simp only [hz0, decide_true, decide_false] at c32q c17q
      have hzb : (z == 0) = false := by simpa using hz0
      go_wp2_with (first | fail | ((with_reducible refine at_load 52 ?_); refine wpList_load_mid rfl 52 _ rfl g (k * 89) rfl pq _ hqr.out Try.underlying52 rfl hqi.out ?_) | ((with_reducible refine at_store 52 ?_); refine wpList_store_new rfl 52 _ _ rfl PZ pq.toArray rfl rfl hqi2.out hqs.out hqo.out ?_))
      go_ret
      exact ⟨rfl, ((Ext.refl w).alloc _).trans (hE13.alloc _)⟩
  · go_wp2_with (first
      | fail
      | ((with_reducible refine at_store 33 ?_); refine wpList_store_new3 rfl rfl 33 _ _ _ rfl _ cx _ rfl ?_ rfl hcxi.out hcxz.out hcxo.out ?_; · rfl
         intro wx hwx
         obtain ⟨hBx, hEx, hzx0⟩ := HMK.out wx hwx
         have HX := Lib.hid hBx
         have hzx := Lib.hid hzx0
         clear hwx hBx hzx0
         obtain ⟨hXl, hgl, hne⟩ := HX.out.lt
         obtain ⟨cap, c17, hca, hcb⟩ := HX.out.cell17 ho
         have hfr := HX.out.frozen
         have p2 := (HX.out.cellg (i := k * 89 + 2) (lt89 hk (by decide))).trans (ho.gb hk 2 rfl)
         have p4 := (HX.out.cellg (i := k * 89 + 4) (lt89 hk (by decide))).trans (ho.gb hk 4 rfl)
         have p17 := (HX.out.cellg (i := k * 89 + 17) (lt89 hk (by decide))).trans (ho.gi hk 17 rfl)
         have p32 := (HX.out.cellg (i := k * 89 + 32) (lt89 hk (by decide))).trans (ho.gb hk 32 rfl)
         rw [HEN.out] at p2
         rw [HAD.out] at p4
         rw [HOE.out] at p32))
    have hB1z : BrG _ (fun n => w3.heap.size ≤ n ∧ n < w4.heap.size + 1) w4.heap.size g (((B.setp k 2 (.bool true)).setp k 17 (.int .i64 1)).setp k 32 (.bool false)) := (((HX.out.setp (k := k) (j := 2) hk (by decide) (.bool true)).setp (k := k) (j := 17) hk (by decide) (.int .i64 1)).setp (k := k) (j := 32) hk (by decide) (.bool false))
    have ok1z : Br.ok (((B.setp k 2 (.bool true)).setp k 17 (.int .i64 1)).setp k 32 (.bool false)) := (((ho.setB (k := k) hk 2 true rfl).setI (k := k) hk 17 .i64 1 rfl (by decide)).setB (k := k) hk 32 false rfl)
    have hm1z := ((((Mut.refl (fun n => w3.heap.size ≤ n ∧ n < w4.heap.size + 1) wx).setCell (p := ⟨g, k * 89 + 2, none⟩) (.inl HX.out.F2) (.bool true)).setCell (p := ⟨g, k * 89 + 17, none⟩) (.inl HX.out.F2) (.int .i64 1)).setCell (p := ⟨g, k * 89 + 32, none⟩) (.inl HX.out.F2) (.bool false))
    refine (edge_step _ (fun n => w3.heap.size ≤ n ∧ n < w4.heap.size + 1) _ g k (((B.setp k 2 (.bool true)).setp k 17 (.int .i64 1)).setp k 32 (.bool false)) hB1z ok1z hk hk8).mono ?_
    rintro e v1 ⟨he, hB1, hm1⟩
    obtain rfl : e = .returned (.bool (edgeF (((B.setp k 2 (.bool true)).setp k 17 (.int .i64 1)).setp k 32 (.bool false)) k).1) := he
    have ok1 := edgeF_ok ok1z (k := k) hk
    have hE11 := Ext.mutE hEx (hm1z.trans hm1) (fun n hn h1 => by have := h1.1; have := hs3.out; simp at hn; omega)
    have H1 := Lib.hid hB1
    clear hB1 hB1z ok1z hm1 hm1z hEx
    have hkk1 : k < (edgeF (((B.setp k 2 (.bool true)).setp k 17 (.int .i64 1)).setp k 32 (.bool false)) k).2.np := by simpa only [edgeF_np, np_setp] using hk
    clear c17 hfr p2 p4 p17 p32
    go_wp2_with fail
    have hB2z : BrG _ (fun n => w3.heap.size ≤ n ∧ n < w4.heap.size + 1) w4.heap.size g (edgeF (((B.setp k 2 (.bool true)).setp k 17 (.int .i64 1)).setp k 32 (.bool false)) k).2 := H1.out
    have ok2z : Br.ok (edgeF (((B.setp k 2 (.bool true)).setp k 17 (.int .i64 1)).setp k 32 (.bool false)) k).2 := ok1
    have hm2z := (Mut.refl (fun n => w3.heap.size ≤ n ∧ n < w4.heap.size + 1) v1)
    refine (edge_step _ (fun n => w3.heap.size ≤ n ∧ n < w4.heap.size + 1) _ g k (edgeF (((B.setp k 2 (.bool true)).setp k 17 (.int .i64 1)).setp k 32 (.bool false)) k).2 hB2z ok2z hkk1 hk8).mono ?_
    rintro e v2 ⟨he, hB2, hm2⟩
    obtain rfl : e = .returned (.bool (edgeF (edgeF (((B.setp k 2 (.bool true)).setp k 17 (.int .i64 1)).setp k 32 (.bool false)) k).2 k).1) := he
    have ok2 := edgeF_ok ok2z (k := k) hkk1
    have hE12 := Ext.mutE hE11 (hm2z.trans hm2) (fun n hn h1 => by have := h1.1; have := hs3.out; simp at hn; omega)
    have H2 := Lib.hid hB2
    clear hB2 hB2z ok2z hm2 hm2z hE11
    have hkk2 : k < (edgeF (edgeF (((B.setp k 2 (.bool true)).setp k 17 (.int .i64 1)).setp k 32 (.bool false)) k).2 k).2.np := by simpa only [edgeF_np, np_setp] using hk
    go_wp2_with fail
    have hB3z : BrG _ (fun n => w3.heap.size ≤ n ∧ n < w4.heap.size + 1) w4.heap.size g (edgeF (edgeF (((B.setp k 2 (.bool true)).setp k 17 (.int .i64 1)).setp k 32 (.bool false)) k).2 k).2 := H2.out
    have ok3z : Br.ok (edgeF (edgeF (((B.setp k 2 (.bool true)).setp k 17 (.int .i64 1)).setp k 32 (.bool false)) k).2 k).2 := ok2
    have hm3z := (Mut.refl (fun n => w3.heap.size ≤ n ∧ n < w4.heap.size + 1) v2)
    refine (edge_step _ (fun n => w3.heap.size ≤ n ∧ n < w4.heap.size + 1) _ g k (edgeF (edgeF (((B.setp k 2 (.bool true)).setp k 17 (.int .i64 1)).setp k 32 (.bool false)) k).2 k).2 hB3z ok3z hkk2 hk8).mono ?_
    rintro e v3 ⟨he, hB3, hm3⟩
    obtain rfl : e = .returned (.bool (edgeF (edgeF (edgeF (((B.setp k 2 (.bool true)).setp k 17 (.int .i64 1)).setp k 32 (.bool false)) k).2 k).2 k).1) := he
    have ok3 := edgeF_ok ok3z (k := k) hkk2
    have hE13 := Ext.mutE hE12 (hm3z.trans hm3) (fun n hn h1 => by have := h1.1; have := hs3.out; simp at hn; omega)
    have H3 := Lib.hid hB3
    clear hB3 hB3z ok3z hm3 hm3z hE12
    have hkk3 : k < (edgeF (edgeF (edgeF (((B.setp k 2 (.bool true)).setp k 17 (.int .i64 1)).setp k 32 (.bool false)) k).2 k).2 k).2.np := by simpa only [edgeF_np, np_setp] using hk
    have hends := edge_ends (((B.setp k 2 (.bool true)).setp k 17 (.int .i64 1)).setp k 32 (.bool false)) k (by simpa using h89.out) (by
      rw [gb_setp_ne _ _ _ _ _ (by decide), gb_setp_ne _ _ _ _ _ (by decide), gb_setp_same _ _ _ _ (by have := h89.out; omega), gb_setp_ne _ _ _ _ _ (by decide), gb_setp_ne _ _ _ _ _ (by decide), gb_setp_ne _ _ _ _ _ (by decide), HAD.out]
      cases ad <;> rfl) (Or.inr ⟨by rw [gi_setp_ne _ _ _ _ _ (by decide), gi_setp_same _ _ _ _ _ (by have := h89.out; simp only [len_setp]; omega)], by rw [gb_setp_same _ _ _ _ (by have := h89.out; simp only [len_setp]; omega)]⟩)
    rw [hends.1]
    have hends2 := hends.2
    have hnpz : (edgeF (edgeF (edgeF (((B.setp k 2 (.bool true)).setp k 17 (.int .i64 1)).setp k 32 (.bool false)) k).2 k).2 k).2.np = B.np := by simp only [edgeF_np]; rfl
    obtain ⟨Z, hZ⟩ : ∃ Z, (edgeF (edgeF (edgeF (((B.setp k 2 (.bool true)).setp k 17 (.int .i64 1)).setp k 32 (.bool false)) k).2 k).2 k).2 = Z := ⟨_, rfl⟩
    rw [hZ] at hends2 H3 ok3 hkk3 hnpz
    clear hends hZ hkk1 hkk2 H1 H2 ok1 ok2
    obtain ⟨hXlz, hglz, hnez⟩ := H3.out.lt
    obtain ⟨capz, c17z, hcaz, hcbz⟩ := H3.out.cell17 ok3
    have hfrz := H3.out.frozen
    rw [hnpz] at c17z hcaz
    have hqr0 := H3.out.range (k := k) hkk3
    have hqt := port_typed ok3 (i := k) hkk3
    have c32q := (port_at (B := Z) (k := k) (j := 32) (by decide)).trans (ok3.gb hkk3 32 rfl)
    rw [hends2] at c32q
    have c17q := (port_at (B := Z) (k := k) (j := 17) (by decide)).trans (ok3.gi hkk3 17 rfl)
    obtain ⟨pq, hpq⟩ : ∃ p, port (Z).ps k = p := ⟨_, rfl⟩
    rw [hpq] at hqr0 hqt c32q c17q
    clear hpq
    have hqr := Lib.hid hqr0
    have hqi := Lib.hid (show (Try.prog.info? 52).map (·.size) = some pq.length by rw [hqt.1]; exact size_port)
    have hqi2 := Lib.hid (show (Try.prog.info? 52).map (·.size) = some pq.toArray.size by rw [List.size_toArray]; exact hqi.out)
    have hqs := Lib.hid (show PZ.size = pq.toArray.size by rw [size_PZ, List.size_toArray]; exact hqt.1.symm)
    have hqo := Lib.hid (all_oneCell_toArray hqt.one)
    have hqz := zero_port
    clear hqr0 hqt
    clear hends2
    obtain ⟨z, hz⟩ : ∃ z, Z.gi k 17 = z := ⟨_, rfl⟩
    rw [hz] at c32q c17q
    clear hz
    by_cases hz0 : z = 0
    · simp only [hz0, decide_true, decide_false] at c32q c17q
      go_wp2_with (first | fail | ((with_reducible refine at_load 52 ?_); refine wpList_load_mid rfl 52 _ rfl g (k * 89) rfl pq _ hqr.out Try.underlying52 rfl hqi.out ?_) | ((with_reducible refine at_store 52 ?_); refine wpList_store_new rfl 52 _ _ rfl PZ pq.toArray rfl rfl hqi2.out hqs.out hqo.out ?_))
      go_ret
      exact ⟨rfl, ((Ext.refl w).alloc _).trans (hE13.alloc _)⟩
    · simp only [hz0, decide_true, decide_false] at c32q c17q
      have hzb : (z == 0) = false := by simpa using hz0
      go_wp2_with (first | fail | ((with_reducible refine at_load 52 ?_); refine wpList_load_mid rfl 52 _ rfl g (k * 89) rfl pq _ hqr.out Try.underlying52 rfl hqi.out ?_) | ((with_reducible refine at_store 52 ?_); refine wpList_store_new rfl 52 _ _ rfl PZ pq.toArray rfl rfl hqi2.out hqs.out hqo.out ?_))
      go_ret
      exact ⟨rfl, ((Ext.refl w).alloc _).trans (hE13.alloc _)⟩
  · go_wp2_with (first
      | fail
      | ((with_reducible refine at_store 33 ?_); refine wpList_store_new3 rfl rfl 33 _ _ _ rfl _ cx _ rfl ?_ rfl hcxi.out hcxz.out hcxo.out ?_; · rfl
         intro wx hwx
         obtain ⟨hBx, hEx, hzx0⟩ := HMK.out wx hwx
         have HX := Lib.hid hBx
         have hzx := Lib.hid hzx0
         clear hwx hBx hzx0
         obtain ⟨hXl, hgl, hne⟩ := HX.out.lt
         obtain ⟨cap, c17, hca, hcb⟩ := HX.out.cell17 ho
         have hfr := HX.out.frozen
         have p2 := (HX.out.cellg (i := k * 89 + 2) (lt89 hk (by decide))).trans (ho.gb hk 2 rfl)
         have p4 := (HX.out.cellg (i := k * 89 + 4) (lt89 hk (by decide))).trans (ho.gb hk 4 rfl)
         have p17 := (HX.out.cellg (i := k * 89 + 17) (lt89 hk (by decide))).trans (ho.gi hk 17 rfl)
         have p32 := (HX.out.cellg (i := k * 89 + 32) (lt89 hk (by decide))).trans (ho.gb hk 32 rfl)
         rw [HEN.out] at p2
         rw [HAD.out] at p4
         rw [HOE.out] at p32))
    have hB1z : BrG _ (fun n => w3.heap.size ≤ n ∧ n < w4.heap.size + 1) w4.heap.size g (((B.setp k 2 (.bool true)).setp k 17 (.int .i64 1)).setp k 32 (.bool false)) := (((HX.out.setp (k := k) (j := 2) hk (by decide) (.bool true)).setp (k := k) (j := 17) hk (by decide) (.int .i64 1)).setp (k := k) (j := 32) hk (by decide) (.bool false))
    have ok1z : Br.ok (((B.setp k 2 (.bool true)).setp k 17 (.int .i64 1)).setp k 32 (.bool false)) := (((ho.setB (k := k) hk 2 true rfl).setI (k := k) hk 17 .i64 1 rfl (by decide)).setB (k := k) hk 32 false rfl)
    have hm1z := ((((Mut.refl (fun n => w3.heap.size ≤ n ∧ n < w4.heap.size + 1) wx).setCell (p := ⟨g, k * 89 + 2, none⟩) (.inl HX.out.F2) (.bool true)).setCell (p := ⟨g, k * 89 + 17, none⟩) (.inl HX.out.F2) (.int .i64 1)).setCell (p := ⟨g, k * 89 + 32, none⟩) (.inl HX.out.F2) (.bool false))
    refine (edge_step _ (fun n => w3.heap.size ≤ n ∧ n < w4.heap.size + 1) _ g k (((B.setp k 2 (.bool true)).setp k 17 (.int .i64 1)).setp k 32 (.bool false)) hB1z ok1z hk hk8).mono ?_
    rintro e v1 ⟨he, hB1, hm1⟩
    obtain rfl : e = .returned (.bool (edgeF (((B.setp k 2 (.bool true)).setp k 17 (.int .i64 1)).setp k 32 (.bool false)) k).1) := he
    have ok1 := edgeF_ok ok1z (k := k) hk
    have hE11 := Ext.mutE hEx (hm1z.trans hm1) (fun n hn h1 => by have := h1.1; have := hs3.out; simp at hn; omega)
    have H1 := Lib.hid hB1
    clear hB1 hB1z ok1z hm1 hm1z hEx
    have hkk1 : k < (edgeF (((B.setp k 2 (.bool true)).setp k 17 (.int .i64 1)).setp k 32 (.bool false)) k).2.np := by simpa only [edgeF_np, np_setp] using hk
    clear c17 hfr p2 p4 p17 p32
    go_wp2_with fail
    have hB2z : BrG _ (fun n => w3.heap.size ≤ n ∧ n < w4.heap.size + 1) w4.heap.size g (edgeF (((B.setp k 2 (.bool true)).setp k 17 (.int .i64 1)).setp k 32 (.bool false)) k).2 := H1.out
    have ok2z : Br.ok (edgeF (((B.setp k 2 (.bool true)).setp k 17 (.int .i64 1)).setp k 32 (.bool false)) k).2 := ok1
    have hm2z := (Mut.refl (fun n => w3.heap.size ≤ n ∧ n < w4.heap.size + 1) v1)
    refine (edge_step _ (fun n => w3.heap.size ≤ n ∧ n < w4.heap.size + 1) _ g k (edgeF (((B.setp k 2 (.bool true)).setp k 17 (.int .i64 1)).setp k 32 (.bool false)) k).2 hB2z ok2z hkk1 hk8).mono ?_
    rintro e v2 ⟨he, hB2, hm2⟩
    obtain rfl : e = .returned (.bool (edgeF (edgeF (((B.setp k 2 (.bool true)).setp k 17 (.int .i64 1)).setp k 32 (.bool false)) k).2 k).1) := he
    have ok2 := edgeF_ok ok2z (k := k) hkk1
    have hE12 := Ext.mutE hE11 (hm2z.trans hm2) (fun n hn h1 => by have := h1.1; have := hs3.out; simp at hn; omega)
    have H2 := Lib.hid hB2
    clear hB2 hB2z ok2z hm2 hm2z hE11
    have hkk2 : k < (edgeF (edgeF (((B.setp k 2 (.bool true)).setp k 17 (.int .i64 1)).setp k 32 (.bool false)) k).2 k).2.np := by simpa only [edgeF_np, np_setp] using hk
    go_wp2_with fail
    have hB3z : BrG _ (fun n => w3.heap.size ≤ n ∧ n < w4.heap.size + 1) w4.heap.size g (edgeF (edgeF (((B.setp k 2 (.bool true)).setp k 17 (.int .i64 1)).setp k 32 (.bool false)) k).2 k).2 := H2.out
    have ok3z : Br.ok (edgeF (edgeF (((B.setp k 2 (.bool true)).setp k 17 (.int .i64 1)).setp k 32 (.bool false)) k).2 k).2 := ok2
    have hm3z := (Mut.refl (fun n => w3.heap.size ≤ n ∧ n < w4.heap.size + 1) v2)
    refine (edge_step _ (fun n => w3.heap.size ≤ n ∧ n < w4.heap.size + 1) _ g k (edgeF (edgeF (((B.setp k 2 (.bool true)).setp k 17 (.int .i64 1)).setp k 32 (.bool false)) k).2 k).2 hB3z ok3z hkk2 hk8).mono ?_
    rintro e v3 ⟨he, hB3, hm3⟩
    obtain rfl : e = .returned (.bool (edgeF (edgeF (edgeF (((B.setp k 2 (.bool true)).setp k 17 (.int .i64 1)).setp k 32 (.bool false)) k).2 k).2 k).1) := he
    have ok3 := edgeF_ok ok3z (k := k) hkk2
    have hE13 := Ext.mutE hE12 (hm3z.trans hm3) (fun n hn h1 => by have := h1.1; have := hs3.out; simp at hn; omega)
    have H3 := Lib.hid hB3
    clear hB3 hB3z ok3z hm3 hm3z hE12
    have hkk3 : k < (edgeF (edgeF (edgeF (((B.setp k 2 (.bool true)).setp k 17 (.int .i64 1)).setp k 32 (.bool false)) k).2 k).2 k).2.np := by simpa only [edgeF_np, np_setp] using hk
    have hends := edge_ends (((B.setp k 2 (.bool true)).setp k 17 (.int .i64 1)).setp k 32 (.bool false)) k (by simpa using h89.out) (by
      rw [gb_setp_ne _ _ _ _ _ (by decide), gb_setp_ne _ _ _ _ _ (by decide), gb_setp_same _ _ _ _ (by have := h89.out; omega), gb_setp_ne _ _ _ _ _ (by decide), gb_setp_ne _ _ _ _ _ (by decide), gb_setp_ne _ _ _ _ _ (by decide), HAD.out]
      cases ad <;> rfl) (Or.inr ⟨by rw [gi_setp_ne _ _ _ _ _ (by decide), gi_setp_same _ _ _ _ _ (by have := h89.out; simp only [len_setp]; omega)], by rw [gb_setp_same _ _ _ _ (by have := h89.out; simp only [len_setp]; omega)]⟩)
    rw [hends.1]
    have hends2 := hends.2
    have hnpz : (edgeF (edgeF (edgeF (((B.setp k 2 (.bool true)).setp k 17 (.int .i64 1)).setp k 32 (.bool false)) k).2 k).2 k).2.np = B.np := by simp only [edgeF_np]; rfl
    obtain ⟨Z, hZ⟩ : ∃ Z, (edgeF (edgeF (edgeF (((B.setp k 2 (.bool true)).setp k 17 (.int .i64 1)).setp k 32 (.bool false)) k).2 k).2 k).2 = Z := ⟨_, rfl⟩
    rw [hZ] at hends2 H3 ok3 hkk3 hnpz
    clear hends hZ hkk1 hkk2 H1 H2 ok1 ok2
    obtain ⟨hXlz, hglz, hnez⟩ := H3.out.lt
    obtain ⟨capz, c17z, hcaz, hcbz⟩ := H3.out.cell17 ok3
    have hfrz := H3.out.frozen
    rw [hnpz] at c17z hcaz
    have hqr0 := H3.out.range (k := k) hkk3
    have hqt := port_typed ok3 (i := k) hkk3
    have c32q := (port_at (B := Z) (k := k) (j := 32) (by decide)).trans (ok3.gb hkk3 32 rfl)
    rw [hends2] at c32q
    have c17q := (port_at (B := Z) (k := k) (j := 17) (by decide)).trans (ok3.gi hkk3 17 rfl)
    obtain ⟨pq, hpq⟩ : ∃ p, port (Z).ps k = p := ⟨_, rfl⟩
    rw [hpq] at hqr0 hqt c32q c17q
    clear hpq
    have hqr := Lib.hid hqr0
    have hqi := Lib.hid (show (Try.prog.info? 52).map (·.size) = some pq.length by rw [hqt.1]; exact size_port)
    have hqi2 := Lib.hid (show (Try.prog.info? 52).map (·.size) = some pq.toArray.size by rw [List.size_toArray]; exact hqi.out)
    have hqs := Lib.hid (show PZ.size = pq.toArray.size by rw [size_PZ, List.size_toArray]; exact hqt.1.symm)
    have hqo := Lib.hid (all_oneCell_toArray hqt.one)
    have hqz := zero_port
    clear hqr0 hqt
    clear hends2
    obtain ⟨z, hz⟩ : ∃ z, Z.gi k 17 = z := ⟨_, rfl⟩
    rw [hz] at c32q c17q
    clear hz
    by_cases hz0 : z = 0
    · simp only [hz0, decide_true, decide_false] at c32q c17q
      go_wp2_with (first | fail | ((with_reducible refine at_load 52 ?_); refine wpList_load_mid rfl 52 _ rfl g (k * 89) rfl pq _ hqr.out Try.underlying52 rfl hqi.out ?_) | ((with_reducible refine at_store 52 ?_); refine wpList_store_new rfl 52 _ _ rfl PZ pq.toArray rfl rfl hqi2.out hqs.out hqo.out ?_))
      go_ret
      exact ⟨rfl, ((Ext.refl w).alloc _).trans (hE13.alloc _)⟩
    · simp only [hz0, decide_true, decide_false] at c32q c17q
      have hzb : (z == 0) = false := by simpa using hz0
      go_wp2_with (first | fail | ((with_reducible refine at_load 52 ?_); refine wpList_load_mid rfl 52 _ rfl g (k * 89) rfl pq _ hqr.out Try.underlying52 rfl hqi.out ?_) | ((with_reducible refine at_store 52 ?_); refine wpList_store_new rfl 52 _ _ rfl PZ pq.toArray rfl rfl hqi2.out hqs.out hqo.out ?_))
      go_ret
      exact ⟨rfl, ((Ext.refl w).alloc _).trans (hE13.alloc _)⟩

end Go.Proofs.Ytfbgianmcmgekaa
