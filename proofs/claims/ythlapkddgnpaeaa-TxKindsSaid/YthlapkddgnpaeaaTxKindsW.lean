/- The walk of TxKinds. No statement is proved here. -/
import Derived.Test.YthlapkddgnpaeaaTxK
namespace Go.Proofs.Ythlapkddgnpaeaa
open Go.RowKit Go.BigFrame Go.WideShapes Go.ChangeShapes Go.Deep
set_option linter.unusedVariables false
set_option linter.unusedSimpArgs false

set_option maxRecDepth 100000 in
set_option maxHeartbeats 2000000 in
theorem law_TxKinds {w : World} (c : Array Value) (B : Br) (hb : BrC w c B) (ho : B.ok) (i : Int) (hi : 0 ≤ i ∧ i < 256) :
    Calls Try.prog 6 #[.agg c, .int .u8 i] w fun e w' => e = .returned (.bool true) ∧ Ext w w' := by
  have hz0 : c.size = 20 := by
    obtain ⟨_, _, _, h, _⟩ := hb.facts ho.hd.1
    exact h
  have hi20 := Lib.hid (show (Try.prog.info? 33).map (·.size) = some c.size by rw [hz0]; exact size_br)
  have HCZ := Lib.hid hz0
  have hE00 : Ext w (w.alloc (.cells c 33)) := ((Ext.refl w).alloc _)
  have hL00 : (w.alloc (.cells c 33)).heap[w.heap.size]? = some (.cells c 33 (0, 0)) := heap_alloc_new _ _
  have hS00 : w.heap.size < (w.alloc (.cells c 33)).heap.size := heap_lt hL00
  have hB00 := hb.ext hE00
  clear hz0
  have HP := Lib.hid hb
  clear hb
  have HhE00 := Lib.hid hE00
  have HhL00 := Lib.hid hL00
  have HhS00 := Lib.hid hS00
  have HhB00 := Lib.hid hB00
  clear hE00 hL00 hS00 hB00
  go_enter Try.func6, Try.ntmps6
  go_wp2_with fail
  have hE00 := HhE00.out
  clear HhE00
  have hL00 := HhL00.out
  clear HhL00
  have hS00 := HhS00.out
  clear HhS00
  have hB00 := HhB00.out
  clear HhB00
  generalize (w.alloc (.cells c 33)) = W0 at *
  obtain ⟨bx, hq⟩ : ∃ n, w.heap.size = n := ⟨_, rfl⟩
  rw [hq] at hL00 hS00 ⊢
  have HE0 := Lib.hid hE00
  have HL0 := Lib.hid hL00
  have HB0 := Lib.hid hB00
  have HS0 := Lib.hid hS00
  have HWB := Lib.hid hq
  clear hE00 hL00 hB00 hS00 hq
  refine (txw_awake _).mono ?_
  rintro e v1 ⟨rfl, E1⟩
  go_wp2_with (first | fail | ((with_reducible refine at_load 33 ?_); refine wpList_load_row rfl 33 _ rfl bx rfl 33 c (0, 0) _ ((E1.block _ HS0.out).trans HL0.out) Try.underlying33 rfl hi20.out ?_))
  refine (few_any c B _ (HB0.out.ext E1) ho).mono ?_
  rintro e v2 ⟨f, rfl, hx2, hf⟩
  have E2 := Ext.trans E1 hx2
  clear E1 hx2
  cases f
  · go_wp2_with fail
    go_ret
    exact ⟨rfl, HE0.out.trans E2⟩
  have hfew := Lib.hid (hf.1 rfl)
  clear hf
  have hn1 := hfew.out.2.1
  have HN := Lib.hid (show B.np ≤ 1000 ∧ B.no ≤ 1000 ∧ B.nf ≤ 1000 by have := hfew.out; omega)
  have hn8 : B.np < 1000 := by have := hfew.out; omega
  go_wp2_with (first
    | fail
    | ((with_reducible refine at_load 33 ?_); refine wpList_load_row rfl 33 _ rfl bx rfl 33 c (0, 0) _ ((E2.block _ HS0.out).trans HL0.out) Try.underlying33 rfl hi20.out ?_))
  refine (at_any c B i _ (HB0.out.ext E2) ho hi hn1).mono ?_
  rintro e v3 ⟨rfl, hx⟩
  have E3 := Ext.trans E2 hx
  clear E2 hx
  obtain ⟨k, hk0⟩ : ∃ k, i.toNat % B.np = k := ⟨_, rfl⟩
  have hk : k < B.np := by rw [← hk0]; exact Nat.mod_lt _ hn1
  have hk8 : k < 1000 := by omega
  rw [hk0]
  clear hk0
  have h89 := Lib.hid (len89 ho hk)
  have HB4 := Lib.hid (b_head HP.out ho HL0.out 4 rfl)
  have HB6 := Lib.hid (b_head HP.out ho HL0.out 6 rfl)
  go_wp2_with (first
    | fail
    | ((with_reducible refine at_load 33 ?_); refine wpList_load_row rfl 33 _ rfl bx rfl 33 c (0, 0) _ ((E3.block _ HS0.out).trans HL0.out) Try.underlying33 rfl hi20.out ?_))
  refine (clone_any c B _ (HB0.out.ext E3) ho HN.out).mono ?_
  rintro e u4 ⟨cx, rfl, hO, hx⟩
  have Eu := Ext.trans E3 hx
  have hcxz := Lib.hid (size_z20.trans (hO.size ho).symm)
  have hcxo := Lib.hid (hO.one ho)
  have hcxi := Lib.hid (show (Try.prog.info? 33).map (·.size) = some cx.size by rw [hO.size ho]; exact size_br)
  obtain ⟨gx, hM⟩ := hO.made hx.size hn1
  obtain ⟨Nx, hN0, hsz⟩ := nameLe hx.size
  have hNE : W0.heap.size ≤ Nx := by
    rw [← hN0]
    exact E3.size
  rw [hN0] at hM
  have HMK := Lib.hid (show ∀ wx : World, wx = u4.alloc (.cells cx 33) → BrG wx (fun n => Nx ≤ n ∧ n < u4.heap.size + 1) u4.heap.size gx B ∧ Ext W0 wx from by
    rintro _ rfl
    exact ⟨hM, Eu.alloc _⟩)
  clear hM hO hx Eu hN0 E3
  obtain ⟨X, hX0⟩ : ∃ n, u4.heap.size = n := ⟨_, rfl⟩
  have HX0 := Lib.hid hX0
  rw [hX0] at HMK hsz
  have hsx := Lib.hid (show Nx ≤ X ∧ W0.heap.size ≤ Nx from ⟨hsz, hNE⟩)
  clear hsz hNE hX0
  go_wp2_with (first
    | fail
    | ((with_reducible refine at_store 33 ?_); refine wpList_store_new3 rfl rfl 33 _ _ _ rfl _ cx _ rfl ?_ rfl hcxi.out hcxz.out hcxo.out ?_; · rfl
       intro wx hwx
       have hmk := HMK.out wx hwx
       obtain ⟨hBx, E5⟩ := hmk
       have H5x := Lib.hid hBx
       rw [HX0.out]
       clear hwx hBx HMK HX0 hcxz hcxo hcxi))
  obtain ⟨s1, s2, s3, hz0, hhd, c17b, c18b, c19b, r1, r2, r3⟩ := HP.out.facts ho.hd.1
  obtain ⟨a1, k1, rfl, m1, f1⟩ := r1.form
  obtain ⟨a2, k2, rfl, m2, f2⟩ := r2.form
  obtain ⟨bb, off, rfl, hbl, hlc, hcm, hrg⟩ := f1 (by omega)
  have HB17 := Lib.hid (show W0.cell? ⟨bx, 17, none⟩ = some (.slice (some ⟨bb, off, none⟩) B.np k1) by rw [cell_of_row _ _ _ _ _ _ HL0.out]; exact c17b)
  have HB18 := Lib.hid (show W0.cell? ⟨bx, 18, none⟩ = some (.slice a2 B.no k2) by rw [cell_of_row _ _ _ _ _ _ HL0.out]; exact c18b)
  have HF2 := Lib.hid f2
  have HRG := Lib.hid hrg
  have HBL := Lib.hid hbl
  clear hz0 hhd c19b r2 r3 r1 hrg c17b c18b f1 f2 hbl
  have HW0 := Lib.hid (BrG.widen H5x.out)
  clear H5x
  have hno0 : B.no ≤ 20 := hfew.out.2.2.2.1
  have h14 : 0 ≤ B.gi k 14 ∧ B.gi k 14 ≤ 1000 := (hfew.out.1.2 k hk).1 8 (by decide)
  have HT0 := Lib.hid (KK.start ho k)
  refine (tx_stepW _ Nx X gx k B HW0.out HT0.out.th.ok (by rw [HT0.out.th.np]; exact hk) (by rw [HT0.out.th.np]; exact hn8) (by rw [HT0.out.th.tc]; omega) (by rw [HT0.out.th.no]; omega)).mono ?_
  rintro e y1 ⟨he, hB, hm⟩
  obtain rfl : e = .returned (.bool (txF B k).1) := he
  obtain ⟨t1, ha1, hb1, hT1⟩ := HT0.out.step hk hk8 h14 (by omega)
  have EY1 := Ext.mutE E5 hm (fun n hn h1 => by have := hsx.out; have h2 : Nx ≤ n := h1; omega)
  obtain ⟨Y1, hY1⟩ : ∃ Y, (txF B k).2 = Y := ⟨_, rfl⟩
  rw [hY1] at hB hT1
  clear hY1
  have HY1 := Lib.hid hB
  have HTT1 := Lib.hid hT1
  clear hB hm hT1 HW0 E5
  go_wp2_with fail
  refine (tx_stepW _ Nx X gx k Y1 HY1.out HTT1.out.th.ok (by rw [HTT1.out.th.np]; exact hk) (by rw [HTT1.out.th.np]; exact hn8) (by rw [HTT1.out.th.tc]; omega) (by rw [HTT1.out.th.no]; omega)).mono ?_
  rintro e y2 ⟨he, hB, hm⟩
  obtain rfl : e = .returned (.bool (txF Y1 k).1) := he
  obtain ⟨t2, ha2, hb2, hT2⟩ := HTT1.out.step hk hk8 h14 (by omega)
  have EY2 := Ext.mutE EY1 hm (fun n hn h1 => by have := hsx.out; have h2 : Nx ≤ n := h1; omega)
  obtain ⟨Y2, hY2⟩ : ∃ Y, (txF Y1 k).2 = Y := ⟨_, rfl⟩
  rw [hY2] at hB hT2
  clear hY2
  have HY2 := Lib.hid hB
  have HTT2 := Lib.hid hT2
  clear hB hm hT2 HY1 EY1
  have hno2 := HTT2.out.th.no
  have hnp2 : Y2.np = B.np := HTT2.out.th.np
  obtain ⟨a18, k18, x18⟩ := HY2.out.len18 HTT2.out.th.ok.hd.1
  have hbxl := Nat.lt_of_lt_of_le HS0.out EY2.size
  have b17 := (EY2.cell (p := ⟨bx, 17, none⟩) HS0.out).trans HB17.out
  have b18 := (EY2.cell (p := ⟨bx, 18, none⟩) HS0.out).trans HB18.out
  have HBV := Lib.hid (show bb < y2.heap.size from Nat.lt_of_lt_of_le HBL.out (HE0.out.trans EY2).size)
  obtain ⟨hXl, hgl, hne⟩ := HY2.out.lt
  obtain ⟨capz, c17, hcaz, hcbz⟩ := HY2.out.cell17 HTT2.out.th.ok
  rw [hnp2] at c17 hcaz
  have hlt2 : decide ((Y2.no : Int) < (B.no : Int)) = false := by simp; omega
  have hno3 : Y2.no ≤ 1000 := by omega
  have X18 := Lib.hid x18
  have X17 := Lib.hid c17
  have B18 := Lib.hid b18
  have B17 := Lib.hid b17
  go_wp2_with fail
  clear x18 c17 b17 b18
  go_loopw [9] (fun i wr => ∃ j : Nat, j ≤ Y2.no ∧ i = .int .i64 j ∧ Ext y2 wr) (fun i _ => Y2.no - (intOf i).toNat)
  case atStart => exact ⟨0, by omega, rfl, Ext.refl _⟩
  case round =>
    obtain ⟨j, hj, rfl, hxr⟩ := hrel
    have b18 := (hxr.cell (p := ⟨bx, 18, none⟩) hbxl).trans B18.out
    by_cases hlt : j < Y2.no
    · obtain ⟨g3, cp, c18, hc1, hc2, hos⟩ := (HY2.out.ext hxr).cell18 HTT2.out.th.ok.hd.1 (by omega)
      have hX3 : X < wr.heap.size := Nat.lt_of_lt_of_le hXl hxr.size
      by_cases hb : j < B.no
      · obtain ⟨b, off2, rfl, hbb, hlc, hcm, hc⟩ := HF2.out (by omega)
        have hq := Lib.hid (piece_range (m := 18) (rangeAt_ext hc (HE0.out.trans (EY2.trans hxr)) hbb) j)
        have hp0 : wr.rangeAt g3 (j * 18) (piece 18 B.os j) := by
          have h := piece_range (m := 18) (show wr.rangeAt g3 0 Y2.os from fun j v hv => by rw [Nat.zero_add]; exact hos j v hv) j
          rw [Nat.zero_add, k_piece HTT2.out hb] at h
          exact h
        have hp := Lib.hid hp0
        have ht := Lib.hid (ho.os.2 j hb)
        have hz : Hid ((Try.prog.info? 56).map (·.size) = some (piece 18 B.os j).length) := Lib.hid (by show _ = some ((B.os.drop (j * 18)).take 18).length; rw [show ((B.os.drop (j * 18)).take 18).length = 18 from ht.out.1]; exact size_sent)
        clear hc hos hp0
        go_wp2_with fail
        refine wp_region_quiet_lit (by kernel_rfl) (by kernel_rfl) ?_
        iterate 4 (go_big_quiet_step (fail))
        refine wpQuiet_load_mid rfl 56 _ rfl g3 (j * 18) rfl (piece 18 B.os j) _ (range_drewN hp.out) Try.underlying56 rfl hz.out ?_
        simp only [Act.put, List.setIfInBounds_toArray, List.set_cons_succ, List.set_cons_zero]
        iterate 4 (go_big_quiet_step (fail))
        refine wpQuiet_load_mid rfl 56 _ rfl b (off2 + j * 18) rfl (piece 18 B.os j) _ (range_drewN hq.out) Try.underlying56 rfl hz.out ?_
        simp only [Act.put, List.setIfInBounds_toArray, List.set_cons_succ, List.set_cons_zero]
        refine wpQuiet_neq rfl 56 _ _ rfl (piece 18 B.os j) rfl rfl Try.underlying56 (by decide) lay_sent ht.out guard_sent ?_
        refine wpQuiet_nil ?_
        intro _ hw'
        obtain ⟨nq, hw''⟩ := hw'
        subst hw''
        go_wp2_with fail
        go_roundw
        case rel => exact ⟨j + 1, by omega, by go_num, hxr.drewN _⟩
        case measure => simp [intOf]; omega
      · obtain ⟨o0, kd, o1, hsr⟩ := HTT2.out.new j (by omega) hlt
        have q0 := hos _ _ o0
        have q1 := hos _ _ o1
        have hbbw := Nat.lt_of_lt_of_le HBV.out hxr.size
        have hbxw := Nat.lt_of_lt_of_le hbxl hxr.size
        have hg3 : g3 < wr.heap.size := cell_ltk q0
        have b17 := (hxr.cell (p := ⟨bx, 17, none⟩) hbxl).trans B17.out
        have q45 : wr.cell? ⟨bb, off + k * 89 + 45, none⟩ = some (.bool (kd == 2)) := by
          rw [hsr]
          exact rangeAt_ext (port_range HRG.out k) (HE0.out.trans (EY2.trans hxr)) HBL.out 45 _ ((port_at (B := B) (k := k) (j := 45) (by decide)).trans (ho.gb hk 45 rfl))
        clear o0 o1 hos hsr
        go_wp2_with fail
        refine beginL (S := fun W' => Ext wr W') (by kernel_rfl) ?_
        intro wd hqx
        have hq0 : Ext wr wd := hqx
        refine takeL (i := 0) (v := (.pointer (some ⟨X, 18, none⟩))) rfl (by kernel_rfl) (by kernel_rfl) (by kernel_rfl) (fun _ _ _ h => h) (Or.inl ⟨rfl, fun _ _ => rfl⟩) hq0 ?_
        simp only [Act.put, List.setIfInBounds_toArray, List.set_cons_zero, List.set_cons_succ]
        refine takeL (i := 1) (v := _) rfl (by kernel_rfl) (by kernel_rfl) (by kernel_rfl) (fun _ _ _ h => h) (yieldsIf_cell rfl 30 _ rfl ⟨X, 18, none⟩ rfl (.slice (some ⟨g3, 0, none⟩) Y2.no cp) _ (fun W' hW' => (hW'.cell (p := ⟨X, 18, none⟩) hX3).trans c18) Try.underlying30 rfl) hq0 ?_
        simp only [Act.put, List.setIfInBounds_toArray, List.set_cons_zero, List.set_cons_succ]
        refine takeL (i := 2) (v := (.int .i64 (j : Int))) rfl (by kernel_rfl) (by kernel_rfl) (by kernel_rfl) (fun _ _ _ h => h) (Or.inl ⟨rfl, fun _ _ => rfl⟩) hq0 ?_
        simp only [Act.put, List.setIfInBounds_toArray, List.set_cons_zero, List.set_cons_succ]
        refine takeL (i := 3) (v := (.pointer (some ⟨g3, j * 18, none⟩))) rfl (by kernel_rfl) (by kernel_rfl) (by kernel_rfl) (fun _ _ _ h => h) (Or.inl ⟨rfl, fun W' _ => by go_simp⟩) hq0 ?_
        simp only [Act.put, List.setIfInBounds_toArray, List.set_cons_zero, List.set_cons_succ]
        refine takeL (i := 4) (v := (.pointer (some ⟨g3, j * 18, none⟩))) rfl (by kernel_rfl) (by kernel_rfl) (by kernel_rfl) (fun _ _ _ h => h) (Or.inl ⟨rfl, fun _ _ => rfl⟩) hq0 ?_
        simp only [Act.put, List.setIfInBounds_toArray, List.set_cons_zero, List.set_cons_succ]
        refine takeL (i := 5) (v := _) rfl (by kernel_rfl) (by kernel_rfl) (by kernel_rfl) (fun _ _ _ h => h) (yieldsIf_cell rfl 3 _ rfl ⟨g3, j * 18, none⟩ rfl (.int .i64 (k : Int)) _ (fun W' hW' => (hW'.cell (p := ⟨g3, j * 18, none⟩) hg3).trans q0) Try.underlying3 rfl) hq0 ?_
        simp only [Act.put, List.setIfInBounds_toArray, List.set_cons_zero, List.set_cons_succ]
        refine takeL (i := 6) (v := (.int .i64 (k : Int))) rfl (by kernel_rfl) (by kernel_rfl) (by kernel_rfl) (fun _ _ _ h => h) (Or.inl ⟨rfl, fun _ _ => rfl⟩) hq0 ?_
        simp only [Act.put, List.setIfInBounds_toArray, List.set_cons_zero, List.set_cons_succ]
        refine takeL (i := 7) (v := (.bool false)) rfl (by kernel_rfl) (by kernel_rfl) (by kernel_rfl) (fun _ _ _ h => h) (Or.inl ⟨rfl, fun W' _ => by go_simp⟩) hq0 ?_
        simp only [Act.put, List.setIfInBounds_toArray, List.set_cons_zero, List.set_cons_succ]
        refine takeL (i := 8) (v := (.bool false)) rfl (by kernel_rfl) (by kernel_rfl) (by kernel_rfl) (fun _ _ _ h => h) (Or.inl ⟨rfl, fun _ _ => rfl⟩) hq0 ?_
        simp only [Act.put, List.setIfInBounds_toArray, List.set_cons_zero, List.set_cons_succ]
        refine takeL (i := 9) (v := (.pointer (some ⟨X, 18, none⟩))) rfl (by kernel_rfl) (by kernel_rfl) (by kernel_rfl) (fun _ _ _ h => h) (Or.inl ⟨rfl, fun _ _ => rfl⟩) hq0 ?_
        simp only [Act.put, List.setIfInBounds_toArray, List.set_cons_zero, List.set_cons_succ]
        refine takeL (i := 10) (v := _) rfl (by kernel_rfl) (by kernel_rfl) (by kernel_rfl) (fun _ _ _ h => h) (yieldsIf_cell rfl 30 _ rfl ⟨X, 18, none⟩ rfl (.slice (some ⟨g3, 0, none⟩) Y2.no cp) _ (fun W' hW' => (hW'.cell (p := ⟨X, 18, none⟩) hX3).trans c18) Try.underlying30 rfl) hq0 ?_
        simp only [Act.put, List.setIfInBounds_toArray, List.set_cons_zero, List.set_cons_succ]
        refine takeL (i := 11) (v := (.int .i64 (j : Int))) rfl (by kernel_rfl) (by kernel_rfl) (by kernel_rfl) (fun _ _ _ h => h) (Or.inl ⟨rfl, fun _ _ => rfl⟩) hq0 ?_
        simp only [Act.put, List.setIfInBounds_toArray, List.set_cons_zero, List.set_cons_succ]
        refine takeL (i := 12) (v := (.pointer (some ⟨g3, j * 18, none⟩))) rfl (by kernel_rfl) (by kernel_rfl) (by kernel_rfl) (fun _ _ _ h => h) (Or.inl ⟨rfl, fun W' _ => by go_simp⟩) hq0 ?_
        simp only [Act.put, List.setIfInBounds_toArray, List.set_cons_zero, List.set_cons_succ]
        refine takeL (i := 13) (v := (.pointer (some ⟨g3, j * 18 + 1, none⟩))) rfl (by kernel_rfl) (by kernel_rfl) (by kernel_rfl) (fun _ _ _ h => h) (Or.inl ⟨rfl, fun _ _ => rfl⟩) hq0 ?_
        simp only [Act.put, List.setIfInBounds_toArray, List.set_cons_zero, List.set_cons_succ]
        refine takeL (i := 14) (v := (.pointer (some ⟨g3, j * 18 + 1, none⟩))) rfl (by kernel_rfl) (by kernel_rfl) (by kernel_rfl) (fun _ _ _ h => h) (Or.inl ⟨rfl, fun _ _ => rfl⟩) hq0 ?_
        simp only [Act.put, List.setIfInBounds_toArray, List.set_cons_zero, List.set_cons_succ]
        refine takeL (i := 15) (v := _) rfl (by kernel_rfl) (by kernel_rfl) (by kernel_rfl) (fun _ _ _ h => h) (yieldsIf_cell rfl 3 _ rfl ⟨g3, j * 18 + 1, none⟩ rfl (.int .i64 kd) _ (fun W' hW' => (hW'.cell (p := ⟨g3, j * 18 + 1, none⟩) hg3).trans q1) Try.underlying3 rfl) hq0 ?_
        simp only [Act.put, List.setIfInBounds_toArray, List.set_cons_zero, List.set_cons_succ]
        refine takeL (i := 16) (v := (.bool (kd == 2))) rfl (by kernel_rfl) (by kernel_rfl) (by kernel_rfl) (fun _ _ _ h => h) (Or.inl ⟨rfl, fun W' _ => by go_simp⟩) hq0 ?_
        simp only [Act.put, List.setIfInBounds_toArray, List.set_cons_zero, List.set_cons_succ]
        refine takeL (i := 17) (v := (.pointer (some ⟨bx, 17, none⟩))) rfl (by kernel_rfl) (by kernel_rfl) (by kernel_rfl) (fun _ _ _ h => h) (Or.inl ⟨rfl, fun _ _ => rfl⟩) hq0 ?_
        simp only [Act.put, List.setIfInBounds_toArray, List.set_cons_zero, List.set_cons_succ]
        refine takeL (i := 18) (v := _) rfl (by kernel_rfl) (by kernel_rfl) (by kernel_rfl) (fun _ _ _ h => h) (yieldsIf_cell rfl 29 _ rfl ⟨bx, 17, none⟩ rfl (.slice (some ⟨bb, off, none⟩) B.np k1) _ (fun W' hW' => (hW'.cell (p := ⟨bx, 17, none⟩) hbxw).trans b17) Try.underlying29 rfl) hq0 ?_
        simp only [Act.put, List.setIfInBounds_toArray, List.set_cons_zero, List.set_cons_succ]
        refine takeL (i := 19) (v := (.int .i64 (k : Int))) rfl (by kernel_rfl) (by kernel_rfl) (by kernel_rfl) (fun _ _ _ h => h) (Or.inl ⟨rfl, fun _ _ => rfl⟩) hq0 ?_
        simp only [Act.put, List.setIfInBounds_toArray, List.set_cons_zero, List.set_cons_succ]
        refine takeL (i := 20) (v := (.pointer (some ⟨bb, off + k * 89, none⟩))) rfl (by kernel_rfl) (by kernel_rfl) (by kernel_rfl) (fun _ _ _ h => h) (Or.inl ⟨rfl, fun W' _ => by go_simp⟩) hq0 ?_
        simp only [Act.put, List.setIfInBounds_toArray, List.set_cons_zero, List.set_cons_succ]
        refine takeL (i := 21) (v := (.pointer (some ⟨bb, off + k * 89 + 22, none⟩))) rfl (by kernel_rfl) (by kernel_rfl) (by kernel_rfl) (fun _ _ _ h => h) (Or.inl ⟨rfl, fun _ _ => rfl⟩) hq0 ?_
        simp only [Act.put, List.setIfInBounds_toArray, List.set_cons_zero, List.set_cons_succ]
        refine takeL (i := 22) (v := (.pointer (some ⟨bb, off + k * 89 + 45, none⟩))) rfl (by kernel_rfl) (by kernel_rfl) (by kernel_rfl) (fun _ _ _ h => h) (Or.inl ⟨rfl, fun _ _ => rfl⟩) hq0 ?_
        simp only [Act.put, List.setIfInBounds_toArray, List.set_cons_zero, List.set_cons_succ]
        refine takeL (i := 23) (v := _) rfl (by kernel_rfl) (by kernel_rfl) (by kernel_rfl) (fun _ _ _ h => h) (yieldsIf_cell rfl 4 _ rfl ⟨bb, off + k * 89 + 45, none⟩ rfl (.bool (kd == 2)) _ (fun W' hW' => (hW'.cell (p := ⟨bb, off + k * 89 + 45, none⟩) hbbw).trans q45) Try.underlying4 rfl) hq0 ?_
        simp only [Act.put, List.setIfInBounds_toArray, List.set_cons_zero, List.set_cons_succ]
        refine takeL (i := 24) (v := (.bool false)) rfl (by kernel_rfl) (by kernel_rfl) (by kernel_rfl) (fun _ _ _ h => h) (Or.inl ⟨rfl, fun W' _ => by go_simp⟩) hq0 ?_
        simp only [Act.put, List.setIfInBounds_toArray, List.set_cons_zero, List.set_cons_succ]
        refine takeL (i := 25) (v := (.bool false)) rfl (by kernel_rfl) (by kernel_rfl) (by kernel_rfl) (fun _ _ _ h => h) (Or.inl ⟨rfl, fun _ _ => rfl⟩) hq0 ?_
        simp only [Act.put, List.setIfInBounds_toArray, List.set_cons_zero, List.set_cons_succ]
        refine wpAnyH_done (by kernel_rfl) ?_ _
        go_wp2_with fail
        go_roundw
        case rel => exact ⟨j + 1, by omega, by go_num, hxr.trans hq0⟩
        case measure => simp [intOf]; omega
    · have c18 := (hxr.cell (p := ⟨X, 18, none⟩) hXl).trans X18.out
      go_wp2_with fail
      clear c18 b18
      have EZ := EY2.trans hxr
      have HZ := Lib.hid (HY2.out.ext hxr)
      have D17 := Lib.hid ((hxr.cell (p := ⟨X, 17, none⟩) hXl).trans X17.out)
      have Db17 := Lib.hid ((hxr.cell (p := ⟨bx, 17, none⟩) hbxl).trans B17.out)
      have hXz := Nat.lt_of_lt_of_le hXl hxr.size
      have hbxz := Nat.lt_of_lt_of_le hbxl hxr.size
      clear hlt hj
      go_loopw [10] (fun i wy => ∃ n : Nat, n ≤ B.np ∧ i = .int .i64 n ∧ Ext wr wy) (fun i _ => B.np - (intOf i).toNat)
      case atStart => exact ⟨0, by omega, rfl, Ext.refl _⟩
      case round =>
        obtain ⟨n, hn, rfl, hxy⟩ := hrel
        have d17x := (hxy.cell (p := ⟨X, 17, none⟩) hXz).trans D17.out
        have d17b := (hxy.cell (p := ⟨bx, 17, none⟩) hbxz).trans Db17.out
        by_cases hlt : n < B.np
        · have hq := Lib.hid (port_range (rangeAt_ext HRG.out (HE0.out.trans (EZ.trans hxy)) HBL.out) n)
          have ht := Lib.hid (port_typed ho hlt)
          have hz : Hid ((Try.prog.info? 53).map (·.size) = some (port B.ps n).length) := Lib.hid (by rw [ht.out.1]; exact size_port)
          by_cases hnk : n = k
          · have hnk' : ((n : Int) != (k : Int)) = false := by simp [hnk]
            go_wp2_with fail
            go_quiet (fail)
            go_wp2_with fail
            go_roundw
            case rel => exact ⟨n + 1, by omega, by go_num, hxy.drewN _⟩
            case measure => simp [intOf]; omega
          · have hnk' : ((n : Int) != (k : Int)) = true := by simp; omega
            have hp := (HZ.out.ext hxy).range (k := n) (by rw [hnp2]; exact hlt)
            rw [HTT2.out.port n hnk] at hp
            have HP9 := Lib.hid hp
            clear hp
            go_wp2_with fail
            refine wp_region_quiet_lit (by kernel_rfl) (by kernel_rfl) ?_
            iterate 8 (go_big_quiet_step (fail))
            refine wpQuiet_load_midG rfl 53 _ rfl gx (n * 89) rfl (port B.ps n) _ (range_drewN HP9.out) Try.underlying53 rfl hz.out ?_
            simp only [Act.put, List.setIfInBounds_toArray, List.set_cons_succ, List.set_cons_zero]
            iterate 4 (go_big_quiet_step (fail))
            refine wpQuiet_load_midG rfl 53 _ rfl bb (off + n * 89) rfl (port B.ps n) _ (range_drewN hq.out) Try.underlying53 rfl hz.out ?_
            simp only [Act.put, List.setIfInBounds_toArray, List.set_cons_succ, List.set_cons_zero]
            refine wpQuiet_neqG rfl 53 _ _ rfl (port B.ps n) rfl rfl Try.underlying53 (by decide) lay_port ht.out guard_port ?_
            simp only [Act.put, List.setIfInBounds_toArray, List.set_cons_succ, List.set_cons_zero]
            iterate 1 (go_big_quiet_step (fail))
            refine wpQuiet_nil ?_
            intro _ hw'
            obtain ⟨nq, hw''⟩ := hw'
            subst hw''
            go_wp2_with fail
            go_roundw
            case rel => exact ⟨n + 1, by omega, by go_num, hxy.drewN _⟩
            case measure => simp [intOf]; omega
        · go_wp2_with fail
          go_ret
          exact ⟨rfl, HE0.out.trans (EZ.trans hxy)⟩

end Go.Proofs.Ythlapkddgnpaeaa
