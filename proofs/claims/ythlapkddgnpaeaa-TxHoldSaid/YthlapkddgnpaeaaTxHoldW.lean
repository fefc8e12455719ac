/- The walk of TxHold. No statement is proved here. -/
import Derived.Test.YthlapkddgnpaeaaTxM
namespace Go.Proofs.Ythlapkddgnpaeaa
open Go.RowKit Go.BigFrame Go.WideShapes Go.ChangeShapes Go.Deep
set_option linter.unusedVariables false
set_option linter.unusedSimpArgs false

set_option maxRecDepth 100000 in
set_option maxHeartbeats 2000000 in
theorem law_TxHold {w : World} (c : Array Value) (B : Br) (hb : BrC w c B) (ho : B.ok) (i : Int) (hi : 0 ≤ i ∧ i < 256) (m : Int) (hm : 0 ≤ m ∧ m < 256) :
    Calls Try.prog 5 #[.agg c, .int .u8 i, .int .u8 m] w fun e w' => e = .returned (.bool true) ∧ Ext w w' := by
  have hz0 : c.size = 20 := by
    obtain ⟨_, _, _, h, _⟩ := hb.facts ho.hd.1
    exact h
  have hi20 := Lib.hid (show (Try.prog.info? 33).map (·.size) = some c.size by rw [hz0]; exact size_br)
  have HCZ := Lib.hid hz0
  have hE00 : Ext w (w.alloc (.cells c 33)) := ((Ext.refl w).alloc _)
  have hL00 : (w.alloc (.cells c 33)).heap[w.heap.size]? = some (.cells c 33 (0, 0)) := heap_alloc_new _ _
  have hS00 : w.heap.size < (w.alloc (.cells c 33)).heap.size := heap_lt hL00
  have hB00 := hb.ext hE00
  clear hz0
  have HP := Lib.hid hb
  clear hb
  have HhE00 := Lib.hid hE00
  have HhL00 := Lib.hid hL00
  have HhS00 := Lib.hid hS00
  have HhB00 := Lib.hid hB00
  clear hE00 hL00 hS00 hB00
  go_enter Try.func5, Try.ntmps5
  go_wp2_with fail
  have hE00 := HhE00.out
  clear HhE00
  have hL00 := HhL00.out
  clear HhL00
  have hS00 := HhS00.out
  clear HhS00
  have hB00 := HhB00.out
  clear HhB00
  generalize (w.alloc (.cells c 33)) = W0 at *
  obtain ⟨bx, hq⟩ : ∃ n, w.heap.size = n := ⟨_, rfl⟩
  rw [hq] at hL00 hS00 ⊢
  have HE0 := Lib.hid hE00
  have HL0 := Lib.hid hL00
  have HB0 := Lib.hid hB00
  have HS0 := Lib.hid hS00
  have HWB := Lib.hid hq
  clear hE00 hL00 hB00 hS00 hq
  refine (txw_awake _).mono ?_
  rintro e v1 ⟨rfl, E1⟩
  go_wp2_with (first | fail | ((with_reducible refine at_load 33 ?_); refine wpList_load_row rfl 33 _ rfl bx rfl 33 c (0, 0) _ ((E1.block _ HS0.out).trans HL0.out) Try.underlying33 rfl hi20.out ?_))
  refine (few_any c B _ (HB0.out.ext E1) ho).mono ?_
  rintro e v2 ⟨f, rfl, hx2, hf⟩
  have E2 := Ext.trans E1 hx2
  clear E1 hx2
  cases f
  · go_wp2_with fail
    go_ret
    exact ⟨rfl, HE0.out.trans E2⟩
  have hfew := Lib.hid (hf.1 rfl)
  clear hf
  have hn1 := hfew.out.2.1
  have HN := Lib.hid (show B.np ≤ 1000 ∧ B.no ≤ 1000 ∧ B.nf ≤ 1000 by have := hfew.out; omega)
  have hn8 : B.np < 1000 := by have := hfew.out; omega
  go_wp2_with (first
    | fail
    | ((with_reducible refine at_load 33 ?_); refine wpList_load_row rfl 33 _ rfl bx rfl 33 c (0, 0) _ ((E2.block _ HS0.out).trans HL0.out) Try.underlying33 rfl hi20.out ?_))
  refine (at_any c B i _ (HB0.out.ext E2) ho hi hn1).mono ?_
  rintro e v3 ⟨rfl, hx⟩
  have E3 := Ext.trans E2 hx
  clear E2 hx
  obtain ⟨k, hk0⟩ : ∃ k, i.toNat % B.np = k := ⟨_, rfl⟩
  have hk : k < B.np := by rw [← hk0]; exact Nat.mod_lt _ hn1
  have hk8 : k < 1000 := by omega
  rw [hk0]
  clear hk0
  have h89 := Lib.hid (len89 ho hk)
  have HB4 := Lib.hid (b_head HP.out ho HL0.out 4 rfl)
  have HB6 := Lib.hid (b_head HP.out ho HL0.out 6 rfl)
  go_wp2_with (first
    | fail
    | ((with_reducible refine at_load 33 ?_); refine wpList_load_row rfl 33 _ rfl bx rfl 33 c (0, 0) _ ((E3.block _ HS0.out).trans HL0.out) Try.underlying33 rfl hi20.out ?_))
  refine (clone_any c B _ (HB0.out.ext E3) ho HN.out).mono ?_
  rintro e u4 ⟨cx, rfl, hO, hx⟩
  have Eu := Ext.trans E3 hx
  have hcxz := Lib.hid (size_z20.trans (hO.size ho).symm)
  have hcxo := Lib.hid (hO.one ho)
  have hcxi := Lib.hid (show (Try.prog.info? 33).map (·.size) = some cx.size by rw [hO.size ho]; exact size_br)
  obtain ⟨gx, hM⟩ := hO.made hx.size hn1
  obtain ⟨Nx, hN0, hsz⟩ := nameLe hx.size
  have hNE : W0.heap.size ≤ Nx := by
    rw [← hN0]
    exact E3.size
  rw [hN0] at hM
  have HMK := Lib.hid (show ∀ wx : World, wx = u4.alloc (.cells cx 33) → BrG wx (fun n => Nx ≤ n ∧ n < u4.heap.size + 1) u4.heap.size gx B ∧ Ext W0 wx from by
    rintro _ rfl
    exact ⟨hM, Eu.alloc _⟩)
  clear hM hO hx Eu hN0 E3
  obtain ⟨X, hX0⟩ : ∃ n, u4.heap.size = n := ⟨_, rfl⟩
  have HX0 := Lib.hid hX0
  rw [hX0] at HMK hsz
  have hsx := Lib.hid (show Nx ≤ X ∧ W0.heap.size ≤ Nx from ⟨hsz, hNE⟩)
  clear hsz hNE hX0
  go_wp2_with (first
    | fail
    | ((with_reducible refine at_store 33 ?_); refine wpList_store_new3 rfl rfl 33 _ _ _ rfl _ cx _ rfl ?_ rfl hcxi.out hcxz.out hcxo.out ?_; · rfl
       intro wx hwx
       have hmk := HMK.out wx hwx
       obtain ⟨hBx, E5⟩ := hmk
       have H5x := Lib.hid hBx
       rw [HX0.out]
       clear hwx hBx HMK HX0 hcxz hcxo hcxi))
  obtain ⟨s1, s2, s3, hz0, hhd, c17b, c18b, c19b, r1, r2, r3⟩ := HP.out.facts ho.hd.1
  obtain ⟨a1, k1, rfl, m1, f1⟩ := r1.form
  obtain ⟨bb, off, rfl, hbl, hlc, hcm, hrg⟩ := f1 (by omega)
  have HB17 := Lib.hid (show W0.cell? ⟨bx, 17, none⟩ = some (.slice (some ⟨bb, off, none⟩) B.np k1) by rw [cell_of_row _ _ _ _ _ _ HL0.out]; exact c17b)
  have HRG := Lib.hid hrg
  have HBL := Lib.hid hbl
  clear hz0 hhd c18b c19b r2 r3 r1 hrg c17b f1 hbl
  have HW0 := Lib.hid (BrG.widen H5x.out)
  clear H5x
  have hno0 : B.no ≤ 20 := hfew.out.2.2.2.1
  have hh4 : B.hi 4 ≠ 0 := by have := hfew.out.1.1.1; unfold TR at this; omega
  have h14 : 0 ≤ B.gi k 14 ∧ B.gi k 14 ≤ 1000 := (hfew.out.1.2 k hk).1 8 (by decide)
  go_loopw [11] (fun i wr => ∃ (j s : Nat) (Z : Br), (j : Int) ≤ m % 40 ∧ s ≤ j ∧ i = .int .i64 j ∧ BrG wr (fun n => Nx ≤ n ∧ n < wr.heap.size) X gx Z ∧ TH B Z k s ∧ Ext W0 wr) (fun i _ => 40 - (intOf i).toNat)
  case atStart => exact ⟨0, 0, B, by omega, Nat.le_refl _, rfl, HW0.out, TH.start ho k, E5⟩
  case round =>
    clear E5 HW0
    obtain ⟨j, s, Z, hj, hsj, rfl, hB, hT, En⟩ := hrel
    have HB := Lib.hid hB
    have HT := Lib.hid hT
    clear hB hT
    have hkz : k < Z.np := by rw [HT.out.np]; exact hk
    have hm40 : m % 40 < 40 ∧ 0 ≤ m % 40 := by omega
    by_cases hlt : (j : Int) < m % 40
    · obtain ⟨hXl, hgl, hne⟩ := HB.out.lt
      obtain ⟨capz, c17, hcaz, hcbz⟩ := HB.out.cell17 HT.out.ok
      rw [HT.out.np] at c17 hcaz
      have hfr := HB.out.frozen
      have p31 := (HB.out.cellg (i := k * 89 + 31) (lt89 hkz (by decide))).trans (HT.out.ok.gb hkz 31 rfl)
      have hF2 : Nx ≤ gx := (HB.out.F2).1
      have HW := Lib.hid (HB.out.setpI (k := k) (j := 31) hkz (by decide) (.bool true))
      have EW := Ext.mutE En ((Mut.refl (fun n => Nx ≤ n) wr).setCell (p := ⟨gx, k * 89 + 31, none⟩) (.inl hF2) (.bool true)) (fun n hn h1 => by have := hsx.out; have h2 : Nx ≤ n := h1; omega)
      have HT2 := Lib.hid (HT.out.new hk)
      go_wp2_with fail
      refine (tx_stepW _ Nx X gx k (Z.setp k 31 (.bool true)) HW.out HT2.out.ok hkz (by rw [np_setp, HT.out.np]; exact hn8) (by rw [HT2.out.tc]; omega) (by rw [HT2.out.no]; omega)).mono ?_
      rintro e v1 ⟨he, hB, hm⟩
      obtain rfl : e = .returned (.bool (txF (Z.setp k 31 (.bool true)) k).1) := he
      obtain ⟨t, h1, h2, hT3⟩ := HT2.out.step hk hk8 h14 (by omega)
      have E1 := Ext.mutE EW hm (fun n hn h1 => by have := hsx.out; have h2 : Nx ≤ n := h1; omega)
      have HB2 := Lib.hid hB
      have HT3 := Lib.hid hT3
      clear hB hm c17 p31 hfr hXl hgl hT3
      go_wp2_with fail
      go_roundw
      case rel => exact ⟨j + 1, t, _, by push_cast; omega, by omega, by go_num, HB2.out, HT3.out, E1⟩
      case measure => simp [intOf]; omega
    · have hs40 : s ≤ 40 := by omega
      go_wp2_with fail
      refine (tx_stepW _ Nx X gx k Z HB.out HT.out.ok (by rw [HT.out.np]; exact hk) (by rw [HT.out.np]; exact hn8) (by rw [HT.out.tc]; omega) (by rw [HT.out.no]; omega)).mono ?_
      rintro e y1 ⟨he, hB, hm⟩
      obtain rfl : e = .returned (.bool (txF Z k).1) := he
      obtain ⟨t1, ha1, hb1, hT1⟩ := HT.out.step hk hk8 h14 (by omega)
      have EY1 := Ext.mutE En hm (fun n hn h1 => by have := hsx.out; have h2 : Nx ≤ n := h1; omega)
      obtain ⟨Y1, hY1⟩ : ∃ Y, (txF Z k).2 = Y := ⟨_, rfl⟩
      rw [hY1] at hB hT1
      have HY1 := Lib.hid hB
      have HTT1 := Lib.hid hT1
      clear hB hm hT1
      go_wp2_with fail
      refine (tx_stepW _ Nx X gx k Y1 HY1.out HTT1.out.ok (by rw [HTT1.out.np]; exact hk) (by rw [HTT1.out.np]; exact hn8) (by rw [HTT1.out.tc]; omega) (by rw [HTT1.out.no]; omega)).mono ?_
      rintro e y2 ⟨he, hB, hm⟩
      obtain rfl : e = .returned (.bool (txF Y1 k).1) := he
      obtain ⟨t2, ha2, hb2, hT2⟩ := HTT1.out.step hk hk8 h14 (by omega)
      have EY2 := Ext.mutE EY1 hm (fun n hn h1 => by have := hsx.out; have h2 : Nx ≤ n := h1; omega)
      obtain ⟨Y2, hY2⟩ : ∃ Y, (txF Y1 k).2 = Y := ⟨_, rfl⟩
      rw [hY2] at hB hT2
      have HY2 := Lib.hid hB
      have HTT2 := Lib.hid hT2
      clear hB hm hT2
      have hlast := tx_two (Z := Z) k (len89 HT.out.ok hkz) (by unfold Br.hi; rw [HT.out.hd]; exact hh4)
      rw [hY1, hY2] at hlast
      clear hY1 hY2
      go_wp2_with fail
      refine (tx_stepW _ Nx X gx k Y2 HY2.out HTT2.out.ok (by rw [HTT2.out.np]; exact hk) (by rw [HTT2.out.np]; exact hn8) (by rw [HTT2.out.tc]; omega) (by rw [HTT2.out.no]; omega)).mono ?_
      rw [hlast]
      rintro e y3 ⟨he, hB, hm⟩
      obtain rfl : e = .returned (.bool false) := he
      have EY3 := Ext.mutE EY2 hm (fun n hn h1 => by have := hsx.out; have h2 : Nx ≤ n := h1; omega)
      have HY3 := Lib.hid (show BrG y3 _ X gx Y2 from hB)
      clear hB hm hlast
      have hkY : k < Y2.np := by rw [HTT2.out.np]; exact hk
      obtain ⟨a18, k18, x18⟩ := HY3.out.len18 HTT2.out.ok.hd.1
      rw [HTT2.out.no] at x18
      obtain ⟨a19, k19, hb18⟩ := b_slice18 HP.out ho HL0.out
      have b18 := (EY3.cell (p := ⟨bx, 18, none⟩) HS0.out).trans hb18
      clear hb18
      have b6 := (EY3.cell (p := ⟨bx, 6, none⟩) HS0.out).trans HB6.out
      have b17 := (EY3.cell (p := ⟨bx, 17, none⟩) HS0.out).trans HB17.out
      have hbx := Nat.lt_of_lt_of_le HS0.out EY3.size
      have HBV := Lib.hid (show bb < y3.heap.size from Nat.lt_of_lt_of_le HBL.out (HE0.out.trans EY3).size)
      have q14 := rangeAt_ext (port_range HRG.out k) (HE0.out.trans EY3) HBL.out 14 _ ((port_at (B := B) (k := k) (j := 14) (by decide)).trans (ho.gi hk 14 rfl))
      obtain ⟨hXl, hgl, hne⟩ := HY3.out.lt
      obtain ⟨capz, c17, hcaz, hcbz⟩ := HY3.out.cell17 HTT2.out.ok
      rw [HTT2.out.np] at c17 hcaz
      have p14 := (HY3.out.cellg (i := k * 89 + 14) (lt89 hkY (by decide))).trans (HTT2.out.ok.gi hkY 14 rfl)
      rw [HTT2.out.tc] at p14
      have hle := HTT2.out.le
      obtain ⟨u, hu⟩ : ∃ u : Int, (t2 : Int) = u := ⟨_, rfl⟩
      rw [hu] at p14 hle
      have hu0 : 0 ≤ u ∧ u ≤ 100 := by omega
      rw [show ((B.no + t2 : Nat)) = B.no + t2 from rfl] at x18
      have hwf := ho.hw 6 (K := .i64) rfl
      go_wp2_with fail
      rw [show (B.no : Int) + u - B.no = u by omega]
      have hh6 : 1 ≤ B.hi 6 ∧ B.hi 6 ≤ 10 := ⟨hfew.out.1.1.2.2.2.1, hfew.out.1.1.2.2.2.2.1⟩
      have hkn : k < Y2.np := hkY
      refine beginL (S := fun W' => Ext y3 W') (by kernel_rfl) ?_
      intro wd hqx
      have hq0 : Ext y3 wd := hqx
      refine takeL (i := 0) (v := (.bool true)) rfl (by kernel_rfl) (by kernel_rfl) (by kernel_rfl) (fun _ _ _ h => h) (Or.inl ⟨rfl, fun _ _ => rfl⟩) hq0 ?_
      simp only [Act.put, List.setIfInBounds_toArray, List.set_cons_zero, List.set_cons_succ]
      refine takeL (i := 1) (v := (.bool true)) rfl (by kernel_rfl) (by kernel_rfl) (by kernel_rfl) (fun _ _ _ h => h) (Or.inl ⟨rfl, fun _ _ => rfl⟩) hq0 ?_
      simp only [Act.put, List.setIfInBounds_toArray, List.set_cons_zero, List.set_cons_succ]
      refine takeL (i := 2) (v := (.bool false)) rfl (by kernel_rfl) (by kernel_rfl) (by kernel_rfl) (fun _ _ _ h => h) (Or.inl ⟨rfl, fun _ _ => rfl⟩) hq0 ?_
      simp only [Act.put, List.setIfInBounds_toArray, List.set_cons_zero, List.set_cons_succ]
      refine takeL (i := 3) (v := (.bool true)) rfl (by kernel_rfl) (by kernel_rfl) (by kernel_rfl) (fun _ _ _ h => h) (Or.inl ⟨rfl, fun _ _ => rfl⟩) hq0 ?_
      simp only [Act.put, List.setIfInBounds_toArray, List.set_cons_zero, List.set_cons_succ]
      refine takeL (i := 4) (v := (.bool true)) rfl (by kernel_rfl) (by kernel_rfl) (by kernel_rfl) (fun _ _ _ h => h) (Or.inl ⟨rfl, fun _ _ => rfl⟩) hq0 ?_
      simp only [Act.put, List.setIfInBounds_toArray, List.set_cons_zero, List.set_cons_succ]
      refine takeL (i := 5) (v := (.bool true)) rfl (by kernel_rfl) (by kernel_rfl) (by kernel_rfl) (fun _ _ _ h => h) (Or.inl ⟨rfl, fun _ _ => rfl⟩) hq0 ?_
      simp only [Act.put, List.setIfInBounds_toArray, List.set_cons_zero, List.set_cons_succ]
      refine takeL (i := 6) (v := (.int .i64 u)) rfl (by kernel_rfl) (by kernel_rfl) (by kernel_rfl) (fun _ _ _ h => h) (Or.inl ⟨rfl, fun _ _ => rfl⟩) hq0 ?_
      simp only [Act.put, List.setIfInBounds_toArray, List.set_cons_zero, List.set_cons_succ]
      refine takeL (i := 7) (v := (.bool true)) rfl (by kernel_rfl) (by kernel_rfl) (by kernel_rfl) (fun _ _ _ h => h) (Or.inl ⟨rfl, fun W' _ => by go_simp⟩) hq0 ?_
      simp only [Act.put, List.setIfInBounds_toArray, List.set_cons_zero, List.set_cons_succ]
      refine takeL (i := 8) (v := (.bool true)) rfl (by kernel_rfl) (by kernel_rfl) (by kernel_rfl) (fun _ _ _ h => h) (Or.inl ⟨rfl, fun _ _ => rfl⟩) hq0 ?_
      simp only [Act.put, List.setIfInBounds_toArray, List.set_cons_zero, List.set_cons_succ]
      refine takeL (i := 9) (v := (.bool true)) rfl (by kernel_rfl) (by kernel_rfl) (by kernel_rfl) (fun _ _ _ h => h) (Or.inl ⟨rfl, fun _ _ => rfl⟩) hq0 ?_
      simp only [Act.put, List.setIfInBounds_toArray, List.set_cons_zero, List.set_cons_succ]
      refine takeL (i := 10) (v := (.int .i64 u)) rfl (by kernel_rfl) (by kernel_rfl) (by kernel_rfl) (fun _ _ _ h => h) (Or.inl ⟨rfl, fun _ _ => rfl⟩) hq0 ?_
      simp only [Act.put, List.setIfInBounds_toArray, List.set_cons_zero, List.set_cons_succ]
      refine takeL (i := 11) (v := (.pointer (some ⟨bx, 6, none⟩))) rfl (by kernel_rfl) (by kernel_rfl) (by kernel_rfl) (fun _ _ _ h => h) (Or.inl ⟨rfl, fun _ _ => rfl⟩) hq0 ?_
      simp only [Act.put, List.setIfInBounds_toArray, List.set_cons_zero, List.set_cons_succ]
      refine takeL (i := 12) (v := _) rfl (by kernel_rfl) (by kernel_rfl) (by kernel_rfl) (fun _ _ _ h => h) (yieldsIf_cell rfl 3 _ rfl ⟨bx, 6, none⟩ rfl (.int .i64 (B.hi 6)) _ (fun W' hW' => (hW'.cell (p := ⟨bx, 6, none⟩) hbx).trans b6) Try.underlying3 rfl) hq0 ?_
      simp only [Act.put, List.setIfInBounds_toArray, List.set_cons_zero, List.set_cons_succ]
      refine takeL (i := 13) (v := (.pointer (some ⟨bx, 17, none⟩))) rfl (by kernel_rfl) (by kernel_rfl) (by kernel_rfl) (fun _ _ _ h => h) (Or.inl ⟨rfl, fun _ _ => rfl⟩) hq0 ?_
      simp only [Act.put, List.setIfInBounds_toArray, List.set_cons_zero, List.set_cons_succ]
      refine takeL (i := 14) (v := _) rfl (by kernel_rfl) (by kernel_rfl) (by kernel_rfl) (fun _ _ _ h => h) (yieldsIf_cell rfl 29 _ rfl ⟨bx, 17, none⟩ rfl (.slice (some ⟨bb, off, none⟩) B.np k1) _ (fun W' hW' => (hW'.cell (p := ⟨bx, 17, none⟩) hbx).trans b17) Try.underlying29 rfl) hq0 ?_
      simp only [Act.put, List.setIfInBounds_toArray, List.set_cons_zero, List.set_cons_succ]
      refine takeL (i := 15) (v := (.int .i64 (k : Int))) rfl (by kernel_rfl) (by kernel_rfl) (by kernel_rfl) (fun _ _ _ h => h) (Or.inl ⟨rfl, fun _ _ => rfl⟩) hq0 ?_
      simp only [Act.put, List.setIfInBounds_toArray, List.set_cons_zero, List.set_cons_succ]
      refine takeL (i := 16) (v := (.pointer (some ⟨bb, off + k * 89, none⟩))) rfl (by kernel_rfl) (by kernel_rfl) (by kernel_rfl) (fun _ _ _ h => h) (Or.inl ⟨rfl, fun W' _ => by go_simp⟩) hq0 ?_
      simp only [Act.put, List.setIfInBounds_toArray, List.set_cons_zero, List.set_cons_succ]
      refine takeL (i := 17) (v := (.pointer (some ⟨bb, off + k * 89 + 6, none⟩))) rfl (by kernel_rfl) (by kernel_rfl) (by kernel_rfl) (fun _ _ _ h => h) (Or.inl ⟨rfl, fun _ _ => rfl⟩) hq0 ?_
      simp only [Act.put, List.setIfInBounds_toArray, List.set_cons_zero, List.set_cons_succ]
      refine takeL (i := 18) (v := (.pointer (some ⟨bb, off + k * 89 + 14, none⟩))) rfl (by kernel_rfl) (by kernel_rfl) (by kernel_rfl) (fun _ _ _ h => h) (Or.inl ⟨rfl, fun _ _ => rfl⟩) hq0 ?_
      simp only [Act.put, List.setIfInBounds_toArray, List.set_cons_zero, List.set_cons_succ]
      refine takeL (i := 19) (v := _) rfl (by kernel_rfl) (by kernel_rfl) (by kernel_rfl) (fun _ _ _ h => h) (yieldsIf_cell rfl 3 _ rfl ⟨bb, off + k * 89 + 14, none⟩ rfl (.int .i64 (B.gi k 14)) _ (fun W' hW' => (hW'.cell (p := ⟨bb, off + k * 89 + 14, none⟩) HBV.out).trans q14) Try.underlying3 rfl) hq0 ?_
      simp only [Act.put, List.setIfInBounds_toArray, List.set_cons_zero, List.set_cons_succ]
      refine takeL (i := 20) (v := (.int .i64 (B.hi 6 - B.gi k 14))) rfl (by kernel_rfl) (by kernel_rfl) (by kernel_rfl) (fun _ _ _ h => h) (Or.inl ⟨rfl, fun W' _ => by go_simp; exact wrap64 _ (by omega) (by omega)⟩) hq0 ?_
      simp only [Act.put, List.setIfInBounds_toArray, List.set_cons_zero, List.set_cons_succ]
      refine takeL (i := 21) (v := (.int .i64 (max 0 (B.hi 6 - B.gi k 14)))) rfl (by kernel_rfl) (by kernel_rfl) (by kernel_rfl) (fun _ _ _ h => h) (Or.inl ⟨rfl, fun W' _ => by go_simp; split <;> omega⟩) hq0 ?_
      simp only [Act.put, List.setIfInBounds_toArray, List.set_cons_zero, List.set_cons_succ]
      refine takeL (i := 22) (v := (.bool true)) rfl (by kernel_rfl) (by kernel_rfl) (by kernel_rfl) (fun _ _ _ h => h) (Or.inl ⟨rfl, fun W' _ => by go_simp⟩) hq0 ?_
      simp only [Act.put, List.setIfInBounds_toArray, List.set_cons_zero, List.set_cons_succ]
      refine takeL (i := 23) (v := (.bool true)) rfl (by kernel_rfl) (by kernel_rfl) (by kernel_rfl) (fun _ _ _ h => h) (Or.inl ⟨rfl, fun _ _ => rfl⟩) hq0 ?_
      simp only [Act.put, List.setIfInBounds_toArray, List.set_cons_zero, List.set_cons_succ]
      refine takeL (i := 24) (v := (.bool true)) rfl (by kernel_rfl) (by kernel_rfl) (by kernel_rfl) (fun _ _ _ h => h) (Or.inl ⟨rfl, fun _ _ => rfl⟩) hq0 ?_
      simp only [Act.put, List.setIfInBounds_toArray, List.set_cons_zero, List.set_cons_succ]
      refine takeL (i := 25) (v := (.pointer (some ⟨X, 17, none⟩))) rfl (by kernel_rfl) (by kernel_rfl) (by kernel_rfl) (fun _ _ _ h => h) (Or.inl ⟨rfl, fun _ _ => rfl⟩) hq0 ?_
      simp only [Act.put, List.setIfInBounds_toArray, List.set_cons_zero, List.set_cons_succ]
      refine takeL (i := 26) (v := _) rfl (by kernel_rfl) (by kernel_rfl) (by kernel_rfl) (fun _ _ _ h => h) (yieldsIf_cell rfl 29 _ rfl ⟨X, 17, none⟩ rfl (.slice (some ⟨gx, 0, none⟩) B.np capz) _ (fun W' hW' => (hW'.cell (p := ⟨X, 17, none⟩) hXl).trans c17) Try.underlying29 rfl) hq0 ?_
      simp only [Act.put, List.setIfInBounds_toArray, List.set_cons_zero, List.set_cons_succ]
      refine takeL (i := 27) (v := (.int .i64 (k : Int))) rfl (by kernel_rfl) (by kernel_rfl) (by kernel_rfl) (fun _ _ _ h => h) (Or.inl ⟨rfl, fun _ _ => rfl⟩) hq0 ?_
      simp only [Act.put, List.setIfInBounds_toArray, List.set_cons_zero, List.set_cons_succ]
      refine takeL (i := 28) (v := (.pointer (some ⟨gx, k * 89, none⟩))) rfl (by kernel_rfl) (by kernel_rfl) (by kernel_rfl) (fun _ _ _ h => h) (Or.inl ⟨rfl, fun W' _ => by go_simp⟩) hq0 ?_
      simp only [Act.put, List.setIfInBounds_toArray, List.set_cons_zero, List.set_cons_succ]
      refine takeL (i := 29) (v := (.pointer (some ⟨gx, k * 89 + 6, none⟩))) rfl (by kernel_rfl) (by kernel_rfl) (by kernel_rfl) (fun _ _ _ h => h) (Or.inl ⟨rfl, fun _ _ => rfl⟩) hq0 ?_
      simp only [Act.put, List.setIfInBounds_toArray, List.set_cons_zero, List.set_cons_succ]
      refine takeL (i := 30) (v := (.pointer (some ⟨gx, k * 89 + 14, none⟩))) rfl (by kernel_rfl) (by kernel_rfl) (by kernel_rfl) (fun _ _ _ h => h) (Or.inl ⟨rfl, fun _ _ => rfl⟩) hq0 ?_
      simp only [Act.put, List.setIfInBounds_toArray, List.set_cons_zero, List.set_cons_succ]
      refine takeL (i := 31) (v := _) rfl (by kernel_rfl) (by kernel_rfl) (by kernel_rfl) (fun _ _ _ h => h) (yieldsIf_cell rfl 3 _ rfl ⟨gx, k * 89 + 14, none⟩ rfl (.int .i64 (B.gi k 14 + u)) _ (fun W' hW' => (hW'.cell (p := ⟨gx, k * 89 + 14, none⟩) hgl).trans p14) Try.underlying3 rfl) hq0 ?_
      simp only [Act.put, List.setIfInBounds_toArray, List.set_cons_zero, List.set_cons_succ]
      refine takeL (i := 32) (v := (.pointer (some ⟨bx, 17, none⟩))) rfl (by kernel_rfl) (by kernel_rfl) (by kernel_rfl) (fun _ _ _ h => h) (Or.inl ⟨rfl, fun _ _ => rfl⟩) hq0 ?_
      simp only [Act.put, List.setIfInBounds_toArray, List.set_cons_zero, List.set_cons_succ]
      refine takeL (i := 33) (v := _) rfl (by kernel_rfl) (by kernel_rfl) (by kernel_rfl) (fun _ _ _ h => h) (yieldsIf_cell rfl 29 _ rfl ⟨bx, 17, none⟩ rfl (.slice (some ⟨bb, off, none⟩) B.np k1) _ (fun W' hW' => (hW'.cell (p := ⟨bx, 17, none⟩) hbx).trans b17) Try.underlying29 rfl) hq0 ?_
      simp only [Act.put, List.setIfInBounds_toArray, List.set_cons_zero, List.set_cons_succ]
      refine takeL (i := 34) (v := (.int .i64 (k : Int))) rfl (by kernel_rfl) (by kernel_rfl) (by kernel_rfl) (fun _ _ _ h => h) (Or.inl ⟨rfl, fun _ _ => rfl⟩) hq0 ?_
      simp only [Act.put, List.setIfInBounds_toArray, List.set_cons_zero, List.set_cons_succ]
      refine takeL (i := 35) (v := (.pointer (some ⟨bb, off + k * 89, none⟩))) rfl (by kernel_rfl) (by kernel_rfl) (by kernel_rfl) (fun _ _ _ h => h) (Or.inl ⟨rfl, fun W' _ => by go_simp⟩) hq0 ?_
      simp only [Act.put, List.setIfInBounds_toArray, List.set_cons_zero, List.set_cons_succ]
      refine takeL (i := 36) (v := (.pointer (some ⟨bb, off + k * 89 + 6, none⟩))) rfl (by kernel_rfl) (by kernel_rfl) (by kernel_rfl) (fun _ _ _ h => h) (Or.inl ⟨rfl, fun _ _ => rfl⟩) hq0 ?_
      simp only [Act.put, List.setIfInBounds_toArray, List.set_cons_zero, List.set_cons_succ]
      refine takeL (i := 37) (v := (.pointer (some ⟨bb, off + k * 89 + 14, none⟩))) rfl (by kernel_rfl) (by kernel_rfl) (by kernel_rfl) (fun _ _ _ h => h) (Or.inl ⟨rfl, fun _ _ => rfl⟩) hq0 ?_
      simp only [Act.put, List.setIfInBounds_toArray, List.set_cons_zero, List.set_cons_succ]
      refine takeL (i := 38) (v := _) rfl (by kernel_rfl) (by kernel_rfl) (by kernel_rfl) (fun _ _ _ h => h) (yieldsIf_cell rfl 3 _ rfl ⟨bb, off + k * 89 + 14, none⟩ rfl (.int .i64 (B.gi k 14)) _ (fun W' hW' => (hW'.cell (p := ⟨bb, off + k * 89 + 14, none⟩) HBV.out).trans q14) Try.underlying3 rfl) hq0 ?_
      simp only [Act.put, List.setIfInBounds_toArray, List.set_cons_zero, List.set_cons_succ]
      refine takeL (i := 39) (v := (.int .i64 u)) rfl (by kernel_rfl) (by kernel_rfl) (by kernel_rfl) (fun _ _ _ h => h) (Or.inl ⟨rfl, fun _ _ => rfl⟩) hq0 ?_
      simp only [Act.put, List.setIfInBounds_toArray, List.set_cons_zero, List.set_cons_succ]
      refine takeL (i := 40) (v := (.int .i64 (B.gi k 14 + u))) rfl (by kernel_rfl) (by kernel_rfl) (by kernel_rfl) (fun _ _ _ h => h) (Or.inl ⟨rfl, fun W' _ => by go_simp; exact wrap64 _ (by omega) (by omega)⟩) hq0 ?_
      simp only [Act.put, List.setIfInBounds_toArray, List.set_cons_zero, List.set_cons_succ]
      refine takeL (i := 41) (v := (.bool true)) rfl (by kernel_rfl) (by kernel_rfl) (by kernel_rfl) (fun _ _ _ h => h) (Or.inl ⟨rfl, fun W' _ => by go_simp⟩) hq0 ?_
      simp only [Act.put, List.setIfInBounds_toArray, List.set_cons_zero, List.set_cons_succ]
      refine takeL (i := 42) (v := (.bool true)) rfl (by kernel_rfl) (by kernel_rfl) (by kernel_rfl) (fun _ _ _ h => h) (Or.inl ⟨rfl, fun _ _ => rfl⟩) hq0 ?_
      simp only [Act.put, List.setIfInBounds_toArray, List.set_cons_zero, List.set_cons_succ]
      refine takeL (i := 43) (v := (.bool true)) rfl (by kernel_rfl) (by kernel_rfl) (by kernel_rfl) (fun _ _ _ h => h) (Or.inl ⟨rfl, fun _ _ => rfl⟩) hq0 ?_
      simp only [Act.put, List.setIfInBounds_toArray, List.set_cons_zero, List.set_cons_succ]
      refine wpAnyH_done (by kernel_rfl) ?_ _
      go_wp2_with fail
      go_ret
      exact ⟨rfl, HE0.out.trans (EY3.trans hq0)⟩

end Go.Proofs.Ythlapkddgnpaeaa
