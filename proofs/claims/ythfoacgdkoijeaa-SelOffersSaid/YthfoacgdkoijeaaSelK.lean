/- Which role a port is to have: the selection, by the program. No statement is proved here. -/
import Derived.Test.YthfoacgdkoijeaaSelJ
import Derived.Test.YthfoacgdkoijeaaSelE
namespace Go.Proofs.Ythfoacgdkoijeaa
open Go.RowKit Go.BigFrame Go.WideShapes Go.ChangeShapes Go.Deep
set_option linter.unusedVariables false
set_option linter.unusedSimpArgs false

set_option maxRecDepth 100000 in
set_option maxHeartbeats 4000000 in
theorem sel_step (w : World) (F : Nat → Prop) (X g : Nat) (B : Br) (h : BrG w F X g B) (ho : B.ok) (hn : B.np < 1000) (hp : 0 < B.np) (hR0 : ∀ k, k < B.np → 0 ≤ B.gi k 78 ∧ B.gi k 78 ≤ 65535) :
    Calls Try.prog 31 #[.pointer (some ⟨X, 0, none⟩)] w (Stepped w F X g (selF B)) := by
  unfold selF
  obtain ⟨an, han⟩ : ∃ b, anyR B B.np = b := ⟨_, rfl⟩
  rw [han]
  have HAN := Lib.hid han
  have okC := noR_ok ho (Nat.le_refl B.np)
  have npC : (noR B B.np).np = B.np := upd_np B 43 _ _
  have hRC : ∀ k, k < (noR B B.np).np → 0 ≤ (noR B B.np).gi k 78 ∧ (noR B B.np).gi k 78 ≤ 65535 := fun k hk => by
    rw [noR_gi ho (by decide) (by decide)]
    exact hR0 k (by rw [npC] at hk; exact hk)
  have HAS := Lib.hid (asked_any w F X g B h ho hn)
  obtain ⟨C, hC⟩ : ∃ C, noR B B.np = C := ⟨_, rfl⟩
  rw [hC] at okC npC hRC HAS ⊢
  clear hC han
  have ok1 := selB1_ok okC (by rw [npC]; exact hn)
  have h12 := selB1_12 okC
  have np1 : (selB1 C).np = B.np := npC
  have hrg : (selB1 C).hi 12 = -1 ∨ ∃ k : Nat, k < (selB1 C).np ∧ (selB1 C).hi 12 = k := by
    rw [h12, np1, ← npC]
    exact rootF_rg C C.np
  have hR1 : ∀ k, k < (selB1 C).np → 0 ≤ (selB1 C).gi k 78 ∧ (selB1 C).gi k 78 ≤ 65535 := hRC
  obtain ⟨ht2, hz2⟩ := rtL_typed ok1 hrg hR1
  have ok2 : (selB2 C).ok := by
    unfold selB2
    rw [h12] at ht2 hz2
    exact sethr_ok ok1 (j := 13) (m := 4) (by decide) hz2 ht2
  have HB2 := Lib.hid (show selB2 C = (selB1 C).sethr 13 (rtL (selB1 C) ((selB1 C).hi 12)) by rw [h12]; rfl)
  have np2 : (selB2 C).np = B.np := npC
  have HVE := Lib.hid (show selB1 C = (C.sethr 7 (rootF C C.np).cells.toList).sethr 12 [.int .i64 (rootF C C.np).at_] from rfl)
  have HRT := Lib.hid (fun (w' : World) (hB : BrG w' F X g (selB1 C)) => rtimes_any w' F X g (selB1 C) hB ok1 (by rw [np1]; exact hn) hrg hR1)
  obtain ⟨D, hD⟩ : ∃ D, selB2 C = D := ⟨_, rfl⟩
  obtain ⟨B1, hB1⟩ : ∃ B1, selB1 C = B1 := ⟨_, rfl⟩
  rw [hB1] at ok1 ht2 hz2 HB2 HVE HRT h12
  rw [hD] at ok2 np2 HB2 ⊢
  obtain ⟨rt, hrt⟩ : ∃ l, rtL B1 (B1.hi 12) = l := ⟨_, rfl⟩
  rw [hrt] at ht2 hz2 HB2 HRT
  obtain ⟨v, hv⟩ : ∃ v, rootF C C.np = v := ⟨_, rfl⟩
  rw [hv] at HVE
  have HV := Lib.hid hv
  have HT2 := Lib.hid (show rt.toArray.toList.all (·.oneCell') = true by simpa using all_oneCell_toArray ht2.one)
  have hl1 := ok1.hd.1
  obtain ⟨res, hres⟩ : ∃ r, (if an = true then (true, psel D B.np) else (false, C)) = r := ⟨_, rfl⟩
  rw [hres]
  have HRES := Lib.hid hres
  clear hres
  clear hD hB1 hrt hv hrg hR1 h12 np1 hRC hR0 h ht2
  go_enter Try.func31, Try.ntmps31
  go_wp2_with fail
  refine HAS.out.mono ?_
  rintro e w1 ⟨rfl, hB, hm⟩
  rw [HAN.out]
  have HC := Lib.hid hB
  have HM := Lib.hid hm
  clear hB hm HAS
  cases an
  · go_wp2_with fail
    go_ret
    rw [show res = (false, C) from HRES.out.symm]
    exact ⟨rfl, HC.out, HM.out⟩
  have HRS := Lib.hid (show res = (true, psel D B.np) from HRES.out.symm)
  clear HRES
  obtain ⟨Cr, hCr, hCb, hCz⟩ := HC.out.br (by rw [npC]; exact hp)
  have HCr := Lib.hid hCr
  have HCi := Lib.hid (show (Try.prog.info? 33).map (·.size) = some Cr.size by rw [hCz, okC.hd.1]; exact size_br)
  have HCb := Lib.hid hCb
  clear hCr hCz hCb
  go_wp2_with (first
    | fail
    | ((with_reducible refine at_load 33 ?_); refine wpList_load_row rfl 33 _ rfl X rfl 33 Cr (0, 0) _ HCr.out Try.underlying33 rfl HCi.out ?_))
  refine (root_any Cr C _ HCb.out okC (by rw [npC]; exact hn)).mono ?_
  rintro e w2 ⟨rfl, hx⟩
  rw [HV.out]
  have HC2 := Lib.hid (HC.out.ext hx)
  have HM2 := Lib.hid (HM.out.trans (hx.mut F))
  clear hx HCr HCb HC HM
  have hl7 : (C.sethr 7 v.cells.toList).hd.length = 17 := by
    have := okC.hd.1
    show (setL C.hd 7 _).length = 17
    rw [setL_len (by rw [show v.cells.toList.length = 5 from rfl, this]; decide), this]
    rfl
  go_wp2_with (first
    | fail
    | ((with_reducible refine at_store 28 ?_); refine st_hd rfl rfl 28 _ _ rfl F X g C HC2.out okC.hd.1 7 _ v.cells rfl rfl rfl (by exact (by decide : 7 + 5 ≤ 17)) (by kernel_rfl) rfl ?_
       intro w3 hB3 hm3
       have HC3 := Lib.hid hB3
       have HM3 := Lib.hid (HM2.out.trans (hm3.mono (fun n _ e => by have h2 : n = X := e; rw [h2]; exact HC2.out.F1)))
       clear hB3 hm3)
    | ((with_reducible refine at_store 3 ?_); refine st_hd rfl rfl 3 _ _ rfl F X g (C.sethr 7 v.cells.toList) HC3.out hl7 12 _ #[.int .i64 v.at_] rfl rfl rfl (by exact (by decide : 12 + 1 ≤ 17)) (by kernel_rfl) rfl ?_
       intro w4 hB4 hm4
       have HC4 := Lib.hid (show BrG w4 F X g B1 by rw [HVE.out]; exact hB4)
       have HM4 := Lib.hid (HM3.out.trans (hm4.mono (fun n _ e => by have h2 : n = X := e; rw [h2]; exact HC3.out.F1)))
       clear hB4 hm4))
  refine (HRT.out _ HC4.out).mono ?_
  rintro e w5 ⟨rfl, hx⟩
  have HC5 := Lib.hid (HC4.out.ext hx)
  have HM5 := Lib.hid (HM4.out.trans (hx.mut F))
  clear hx
  go_upto_region 6 with (first
    | fail
    | ((with_reducible refine at_store 24 ?_); refine st_hd rfl rfl 24 _ _ rfl F X g B1 HC5.out hl1 13 _ rt.toArray rfl rfl rfl (by rw [List.size_toArray, hz2]; decide) (by rw [List.size_toArray, hz2]; kernel_rfl) HT2.out ?_
       intro w6 hB6 hm6
       have HC6 := Lib.hid (show BrG w6 F X g D by rw [HB2.out]; exact hB6)
       have HM6 := Lib.hid (HM5.out.trans (hm6.mono (fun n _ e => by have h2 : n = X := e; rw [h2]; exact HC5.out.F1)))
       obtain ⟨cap, c17, hca, hcb⟩ := HC6.out.cell17 ok2
       rw [np2] at c17 hca
       clear hB6 hm6))
  go_loopw [31] (fun v wr => ∃ n : Nat, n ≤ B.np ∧ v = .int .i64 n ∧ BrG wr F X g (psel D n) ∧ Mut F w wr) (fun v _ => B.np - (intOf v).toNat)
  case atStart => exact ⟨0, by omega, rfl, HC6.out, HM6.out⟩
  case round =>
    clear c17
    obtain ⟨n, hn2, rfl, hB, hm⟩ := hrel
    have HB := Lib.hid hB
    have HM := Lib.hid hm
    clear hB hm
    have okn := psel_ok ok2 n (by omega)
    have npn : (psel D n).np = B.np := (psel_np D n).trans np2
    by_cases hlt : n < B.np
    · have hkn : n < (psel D n).np := by rw [npn]; exact hlt
      have hn8 : n < 1000 := by omega
      obtain ⟨hX, hg, hne⟩ := HB.out.lt
      obtain ⟨cap2, c17, hc3, hc4⟩ := HB.out.cell17 okn
      rw [npn] at c17 hc3
      have x0 : wr.cell? ⟨X, 0, none⟩ = some (.int .u64 (D.hi 0)) := by
        have := (HB.out.cellX okn (i := 0) (by decide)).trans (okn.hi 0 rfl)
        rw [psel_hi] at this
        exact this
      have x4 : wr.cell? ⟨X, 4, none⟩ = some (.int .i64 (D.hi 4)) := by
        have := (HB.out.cellX okn (i := 4) (by decide)).trans (okn.hi 4 rfl)
        rw [psel_hi] at this
        exact this
      have x7 : wr.cell? ⟨X, 7, none⟩ = some (.int .u64 (D.hi 7)) := by
        have := (HB.out.cellX okn (i := 7) (by decide)).trans (okn.hi 7 rfl)
        rw [psel_hi] at this
        exact this
      have x8 : wr.cell? ⟨X, 8, none⟩ = some (.int .u32 (D.hi 8)) := by
        have := (HB.out.cellX okn (i := 8) (by decide)).trans (okn.hi 8 rfl)
        rw [psel_hi] at this
        exact this
      have x12 : wr.cell? ⟨X, 12, none⟩ = some (.int .i64 (D.hi 12)) := by
        have := (HB.out.cellX okn (i := 12) (by decide)).trans (okn.hi 12 rfl)
        rw [psel_hi] at this
        exact this
      have x13 : wr.cell? ⟨X, 13, none⟩ = some (.int .i64 (D.hi 13)) := by
        have := (HB.out.cellX okn (i := 13) (by decide)).trans (okn.hi 13 rfl)
        rw [psel_hi] at this
        exact this
      have x14 : wr.cell? ⟨X, 14, none⟩ = some (.int .i64 (D.hi 14)) := by
        have := (HB.out.cellX okn (i := 14) (by decide)).trans (okn.hi 14 rfl)
        rw [psel_hi] at this
        exact this
      have x15 : wr.cell? ⟨X, 15, none⟩ = some (.int .i64 (D.hi 15)) := by
        have := (HB.out.cellX okn (i := 15) (by decide)).trans (okn.hi 15 rfl)
        rw [psel_hi] at this
        exact this
      have x16 : wr.cell? ⟨X, 16, none⟩ = some (.int .i64 (D.hi 16)) := by
        have := (HB.out.cellX okn (i := 16) (by decide)).trans (okn.hi 16 rfl)
        rw [psel_hi] at this
        exact this
      have HS := Lib.hid (show psel D (n + 1) = (psel D n).setPort n ((chL n (D.hi 12) (D.hi 0) (tellL D (port (psel D n).ps n))).set 44 (.bool true)) from rfl)
      have hPz := HB.out.pv (k := n) hkn
      have hT := br_typed okn hkn
      obtain ⟨L, hL⟩ : ∃ L, port (psel D n).ps n = L := ⟨_, rfl⟩
      rw [hL] at HS hPz hT
      clear hL
      have gid := wf_u64 (ok2.hw 0 (K := .u64) rfl)
      have HLEN := Lib.hid (tpL hT)
      have HL_0 := Lib.hid (tpI hT 0 rfl)
      have HT := Lib.hid (tellL_typed ok2 hT)
      have hG := hPz.lt
      have hP_wr : Pv wr g (n * 89) L := hPz
      clear hPz hT
      go_wp2_with fail
      refine beginW (S := fun W' => Ext wr W') (S2 := fun W' => Pm g (n * 89) wr W') 22 (by kernel_rfl) ?_
      intro wd hqx
      have hq0 : Ext wr wd := hqx
      refine takeW (i := 0) (z := 22) (v := (.pointer (some ⟨g, (n * 89), none⟩))) rfl rfl (by kernel_rfl) (by kernel_rfl) (by kernel_rfl) (by kernel_rfl) (by kernel_rfl) (by kernel_rfl) (fun _ _ _ h => h) (Or.inl ⟨rfl, fun _ _ => rfl⟩) hq0 (Ext.pm hq0 g (n * 89)) ?_
      simp only [Act.put, List.setIfInBounds_toArray, List.set_cons_zero, List.set_cons_succ]
      refine takeW (i := 1) (z := 22) (v := (.pointer (some ⟨X, 0, none⟩))) rfl rfl (by kernel_rfl) (by kernel_rfl) (by kernel_rfl) (by kernel_rfl) (by kernel_rfl) (by kernel_rfl) (fun _ _ _ h => h) (Or.inl ⟨rfl, fun _ _ => rfl⟩) hq0 (Ext.pm hq0 g (n * 89)) ?_
      simp only [Act.put, List.setIfInBounds_toArray, List.set_cons_zero, List.set_cons_succ]
      refine takeW (i := 2) (z := 22) (v := (.pointer (some ⟨X, 0, none⟩))) rfl rfl (by kernel_rfl) (by kernel_rfl) (by kernel_rfl) (by kernel_rfl) (by kernel_rfl) (by kernel_rfl) (fun _ _ _ h => h) (Or.inl ⟨rfl, fun _ _ => rfl⟩) hq0 (Ext.pm hq0 g (n * 89)) ?_
      simp only [Act.put, List.setIfInBounds_toArray, List.set_cons_zero, List.set_cons_succ]
      refine takeW (i := 3) (z := 22) (v := (.pointer (some ⟨X, 7, none⟩))) rfl rfl (by kernel_rfl) (by kernel_rfl) (by kernel_rfl) (by kernel_rfl) (by kernel_rfl) (by kernel_rfl) (fun _ _ _ h => h) (Or.inl ⟨rfl, fun _ _ => rfl⟩) hq0 (Ext.pm hq0 g (n * 89)) ?_
      simp only [Act.put, List.setIfInBounds_toArray, List.set_cons_zero, List.set_cons_succ]
      refine takeW (i := 4) (z := 22) (v := (.pointer (some ⟨X, 7, none⟩))) rfl rfl (by kernel_rfl) (by kernel_rfl) (by kernel_rfl) (by kernel_rfl) (by kernel_rfl) (by kernel_rfl) (fun _ _ _ h => h) (Or.inl ⟨rfl, fun _ _ => rfl⟩) hq0 (Ext.pm hq0 g (n * 89)) ?_
      simp only [Act.put, List.setIfInBounds_toArray, List.set_cons_zero, List.set_cons_succ]
      refine takeW (i := 5) (z := 22) (v := _) rfl rfl (by kernel_rfl) (by kernel_rfl) (by kernel_rfl) (by kernel_rfl) (by kernel_rfl) (by kernel_rfl) (fun _ _ _ h => h) (yieldsIf_cell rfl 22 _ rfl ⟨X, 7, none⟩ rfl (.int .u64 (D.hi 7)) _ (fun W' hW' => (hW'.cell (p := ⟨X, 7, none⟩) hX).trans x7) Try.underlying22 rfl) hq0 (Ext.pm hq0 g (n * 89)) ?_
      simp only [Act.put, List.setIfInBounds_toArray, List.set_cons_zero, List.set_cons_succ]
      refine takeW (i := 6) (z := 22) (v := (.pointer (some ⟨X, 0, none⟩))) rfl rfl (by kernel_rfl) (by kernel_rfl) (by kernel_rfl) (by kernel_rfl) (by kernel_rfl) (by kernel_rfl) (fun _ _ _ h => h) (Or.inl ⟨rfl, fun _ _ => rfl⟩) hq0 (Ext.pm hq0 g (n * 89)) ?_
      simp only [Act.put, List.setIfInBounds_toArray, List.set_cons_zero, List.set_cons_succ]
      refine takeW (i := 7) (z := 22) (v := (.pointer (some ⟨X, 0, none⟩))) rfl rfl (by kernel_rfl) (by kernel_rfl) (by kernel_rfl) (by kernel_rfl) (by kernel_rfl) (by kernel_rfl) (fun _ _ _ h => h) (Or.inl ⟨rfl, fun _ _ => rfl⟩) hq0 (Ext.pm hq0 g (n * 89)) ?_
      simp only [Act.put, List.setIfInBounds_toArray, List.set_cons_zero, List.set_cons_succ]
      refine takeW (i := 8) (z := 22) (v := (.pointer (some ⟨X, 7, none⟩))) rfl rfl (by kernel_rfl) (by kernel_rfl) (by kernel_rfl) (by kernel_rfl) (by kernel_rfl) (by kernel_rfl) (fun _ _ _ h => h) (Or.inl ⟨rfl, fun _ _ => rfl⟩) hq0 (Ext.pm hq0 g (n * 89)) ?_
      simp only [Act.put, List.setIfInBounds_toArray, List.set_cons_zero, List.set_cons_succ]
      refine takeW (i := 9) (z := 22) (v := (.pointer (some ⟨X, 8, none⟩))) rfl rfl (by kernel_rfl) (by kernel_rfl) (by kernel_rfl) (by kernel_rfl) (by kernel_rfl) (by kernel_rfl) (fun _ _ _ h => h) (Or.inl ⟨rfl, fun _ _ => rfl⟩) hq0 (Ext.pm hq0 g (n * 89)) ?_
      simp only [Act.put, List.setIfInBounds_toArray, List.set_cons_zero, List.set_cons_succ]
      refine takeW (i := 10) (z := 22) (v := _) rfl rfl (by kernel_rfl) (by kernel_rfl) (by kernel_rfl) (by kernel_rfl) (by kernel_rfl) (by kernel_rfl) (fun _ _ _ h => h) (yieldsIf_cell rfl 25 _ rfl ⟨X, 8, none⟩ rfl (.int .u32 (D.hi 8)) _ (fun W' hW' => (hW'.cell (p := ⟨X, 8, none⟩) hX).trans x8) Try.underlying25 rfl) hq0 (Ext.pm hq0 g (n * 89)) ?_
      simp only [Act.put, List.setIfInBounds_toArray, List.set_cons_zero, List.set_cons_succ]
      refine takeW (i := 11) (z := 22) (v := (.pointer (some ⟨X, 0, none⟩))) rfl rfl (by kernel_rfl) (by kernel_rfl) (by kernel_rfl) (by kernel_rfl) (by kernel_rfl) (by kernel_rfl) (fun _ _ _ h => h) (Or.inl ⟨rfl, fun _ _ => rfl⟩) hq0 (Ext.pm hq0 g (n * 89)) ?_
      simp only [Act.put, List.setIfInBounds_toArray, List.set_cons_zero, List.set_cons_succ]
      refine takeW (i := 12) (z := 22) (v := (.pointer (some ⟨X, 0, none⟩))) rfl rfl (by kernel_rfl) (by kernel_rfl) (by kernel_rfl) (by kernel_rfl) (by kernel_rfl) (by kernel_rfl) (fun _ _ _ h => h) (Or.inl ⟨rfl, fun _ _ => rfl⟩) hq0 (Ext.pm hq0 g (n * 89)) ?_
      simp only [Act.put, List.setIfInBounds_toArray, List.set_cons_zero, List.set_cons_succ]
      refine takeW (i := 13) (z := 22) (v := (.pointer (some ⟨X, 0, none⟩))) rfl rfl (by kernel_rfl) (by kernel_rfl) (by kernel_rfl) (by kernel_rfl) (by kernel_rfl) (by kernel_rfl) (fun _ _ _ h => h) (Or.inl ⟨rfl, fun _ _ => rfl⟩) hq0 (Ext.pm hq0 g (n * 89)) ?_
      simp only [Act.put, List.setIfInBounds_toArray, List.set_cons_zero, List.set_cons_succ]
      refine takeW (i := 14) (z := 22) (v := _) rfl rfl (by kernel_rfl) (by kernel_rfl) (by kernel_rfl) (by kernel_rfl) (by kernel_rfl) (by kernel_rfl) (fun _ _ _ h => h) (yieldsIf_cell rfl 22 _ rfl ⟨X, 0, none⟩ rfl (.int .u64 (D.hi 0)) _ (fun W' hW' => (hW'.cell (p := ⟨X, 0, none⟩) hX).trans x0) Try.underlying22 rfl) hq0 (Ext.pm hq0 g (n * 89)) ?_
      simp only [Act.put, List.setIfInBounds_toArray, List.set_cons_zero, List.set_cons_succ]
      refine takeW (i := 15) (z := 22) (v := (.pointer (some ⟨g, (n * 89), none⟩))) rfl rfl (by kernel_rfl) (by kernel_rfl) (by kernel_rfl) (by kernel_rfl) (by kernel_rfl) (by kernel_rfl) (fun _ _ _ h => h) (Or.inl ⟨rfl, fun _ _ => rfl⟩) hq0 (Ext.pm hq0 g (n * 89)) ?_
      simp only [Act.put, List.setIfInBounds_toArray, List.set_cons_zero, List.set_cons_succ]
      refine takeW (i := 16) (z := 22) (v := (.pointer (some ⟨g, (n * 89), none⟩))) rfl rfl (by kernel_rfl) (by kernel_rfl) (by kernel_rfl) (by kernel_rfl) (by kernel_rfl) (by kernel_rfl) (fun _ _ _ h => h) (Or.inl ⟨rfl, fun _ _ => rfl⟩) hq0 (Ext.pm hq0 g (n * 89)) ?_
      simp only [Act.put, List.setIfInBounds_toArray, List.set_cons_zero, List.set_cons_succ]
      refine takeW (i := 17) (z := 22) (v := (.pointer (some ⟨g, (n * 89), none⟩))) rfl rfl (by kernel_rfl) (by kernel_rfl) (by kernel_rfl) (by kernel_rfl) (by kernel_rfl) (by kernel_rfl) (fun _ _ _ h => h) (Or.inl ⟨rfl, fun _ _ => rfl⟩) hq0 (Ext.pm hq0 g (n * 89)) ?_
      simp only [Act.put, List.setIfInBounds_toArray, List.set_cons_zero, List.set_cons_succ]
      refine takeW (i := 18) (z := 22) (v := _) rfl rfl (by kernel_rfl) (by kernel_rfl) (by kernel_rfl) (by kernel_rfl) (by kernel_rfl) (by kernel_rfl) (fun _ _ _ h => h) (yieldsIf_cell rfl 26 _ rfl ⟨g, (n * 89), none⟩ rfl (.int .u16 (pI L 0)) _ (fun W' hW' => ((hP_wr.ext hW').cell (j := 0) (by decide)).trans HL_0.out) Try.underlying26 rfl) hq0 (Ext.pm hq0 g (n * 89)) ?_
      simp only [Act.put, List.setIfInBounds_toArray, List.set_cons_zero, List.set_cons_succ]
      refine takeW (i := 19) (z := 22) (v := (.agg #[.int .u64 (D.hi 7), .int .u32 (D.hi 8), .int .u64 (D.hi 0), .int .u16 (pI L 0), .int .u16 0])) rfl rfl (by kernel_rfl) (by kernel_rfl) (by kernel_rfl) (by kernel_rfl) (by kernel_rfl) (by kernel_rfl) (fun _ _ _ h => h) (yieldsIf_build rfl 28 _ rfl [(0, .int .u64 (D.hi 7)), (1, .int .u32 (D.hi 8)), (2, .int .u64 (D.hi 0)), (3, .int .u16 (pI L 0))] rfl #[.int .u64 (D.hi 7), .int .u32 (D.hi 8), .int .u64 (D.hi 0), .int .u16 (pI L 0), .int .u16 0] (by kernel_rfl)) hq0 (Ext.pm hq0 g (n * 89)) ?_
      simp only [Act.put, List.setIfInBounds_toArray, List.set_cons_zero, List.set_cons_succ]
      refine takeWb (i := 20) (z := 22) (v := (.pointer (some ⟨g, (n * 89), none⟩))) rfl (by kernel_rfl) (by kernel_rfl) (by kernel_rfl) (by kernel_rfl) (fun _ _ _ h => h) (Or.inl ⟨rfl, fun _ _ => rfl⟩) hq0 (Ext.pm hq0 g (n * 89)) ?_
      simp only [Act.put, List.setIfInBounds_toArray, List.set_cons_zero, List.set_cons_succ]
      refine takeW (i := 21) (z := 22) (v := (.pointer (some ⟨g, (n * 89) + 73, none⟩))) rfl rfl (by kernel_rfl) (by kernel_rfl) (by kernel_rfl) (by kernel_rfl) (by kernel_rfl) (by kernel_rfl) (fun _ _ _ h => h) (Or.inl ⟨rfl, fun _ _ => rfl⟩) hq0 (Ext.pm hq0 g (n * 89)) ?_
      simp only [Act.put, List.setIfInBounds_toArray, List.set_cons_zero, List.set_cons_succ]
      refine runWl (z := 22) rfl rfl (by kernel_rfl) (fun K hK => ?_)
      refine wp_st_pv rfl 28 _ _ rfl g (n * 89) 73 _ (hP_wr.ext hq0) _ #[.int .u64 (D.hi 7), .int .u32 (D.hi 8), .int .u64 (D.hi 0), .int .u16 (pI L 0), .int .u16 0] rfl rfl rfl (by exact (by decide : 73 + 5 ≤ 89)) (by kernel_rfl) rfl (fun ws22 hp22 hm22 => ?_)
      have hr22 : Pm g (n * 89) wr ws22 := (Ext.pm hq0 g (n * 89)).trans hm22
      refine hK.out _ _ hr22 (fun _ => ?_)
      try simp only [Act.put, List.setIfInBounds_toArray, List.set_cons_zero, List.set_cons_succ]
      clear hK K
      refine wpAnyH_done (by kernel_rfl) ?_ _
      generalize ws22 = z1 at *
      have hP_z1 : Pv z1 g (n * 89) (setL L 73 [.int .u64 (D.hi 7), .int .u32 (D.hi 8), .int .u64 (D.hi 0), .int .u16 (pI L 0), .int .u16 0]) := hp22
      have E_z1 : Pm g (n * 89) wr z1 := (Ext.pm hq0 g (n * 89)).trans hm22
      clear hP_wr
      clear hq0 hqx hm22 hp22 hr22
      have RXz := Lib.hid (show z1.rangeAt X 13 [.int .i64 (D.hi 13), .int .i64 (D.hi 14), .int .i64 (D.hi 15), .int .i64 (D.hi 16)] from (rcons ((E_z1.1.cell (p := ⟨X, 13, none⟩) hX hne).trans x13) (rcons ((E_z1.1.cell (p := ⟨X, 14, none⟩) hX hne).trans x14) (rcons ((E_z1.1.cell (p := ⟨X, 15, none⟩) hX hne).trans x15) (rcons ((E_z1.1.cell (p := ⟨X, 16, none⟩) hX hne).trans x16) rnil)))))
      go_wp2_with (first
        | fail
        | ((with_reducible refine at_load 24 ?_); refine wpList_load_mid rfl 24 _ rfl X 13 rfl [.int .i64 (D.hi 13), .int .i64 (D.hi 14), .int .i64 (D.hi 15), .int .i64 (D.hi 16)] _ RXz.out Try.underlying24 rfl (by kernel_rfl) ?_)
        | ((with_reducible refine at_store 24 ?_); refine st_pv rfl rfl 24 _ _ rfl g (n * 89) 82 _ hP_z1 _ #[.int .i64 (D.hi 13), .int .i64 (D.hi 14), .int .i64 (D.hi 15), .int .i64 (D.hi 16)] rfl rfl rfl (by exact (by decide : 82 + 4 ≤ 89)) (by kernel_rfl) rfl ?_
           intro z2 hp hm
           have hP_z2 : Pv z2 g (n * 89) (setL (setL L 73 [.int .u64 (D.hi 7), .int .u32 (D.hi 8), .int .u64 (D.hi 0), .int .u16 (pI L 0), .int .u16 0]) 82 [.int .i64 (D.hi 13), .int .i64 (D.hi 14), .int .i64 (D.hi 15), .int .i64 (D.hi 16)]) := hp
           have E_z2 : Pm g (n * 89) wr z2 := E_z1.trans hm
           clear hP_z1 E_z1
           clear hp hm
           have x4z : z2.cell? ⟨X, 4, none⟩ = some (.int .i64 (D.hi 4)) := (E_z2.1.cell (p := ⟨X, 4, none⟩) hX hne).trans x4)
        | ((with_reducible refine at_store 3 ?_); refine st_pv rfl rfl 3 _ _ rfl g (n * 89) 84 _ hP_z2 _ #[.int .i64 (D.hi 4)] rfl rfl rfl (by exact (by decide : 84 + 1 ≤ 89)) (by kernel_rfl) rfl ?_
           intro z3 hp hm
           replace hp := pv_one hp (len_setL (len_setL HLEN.out (by exact (by decide : 73 + 5 ≤ 89))) (by exact (by decide : 82 + 4 ≤ 89))) (by decide)
           have hP_z3 : Pv z3 g (n * 89) ((setL (setL L 73 [.int .u64 (D.hi 7), .int .u32 (D.hi 8), .int .u64 (D.hi 0), .int .u16 (pI L 0), .int .u16 0]) 82 [.int .i64 (D.hi 13), .int .i64 (D.hi 14), .int .i64 (D.hi 15), .int .i64 (D.hi 16)]).set 84 (.int .i64 (D.hi 4))) := hp
           have E_z3 : Pm g (n * 89) wr z3 := E_z2.trans hm
           clear hP_z2 E_z2
           clear hp hm))
      have hP_z3 : Pv z3 g (n * 89) (tellL D L) := hP_z3
      refine (choose_any g n _ hP_z3 HT.out X (D.hi 0) (D.hi 12) B.np cap2 ((E_z3.1.cell (p := ⟨X, 0, none⟩) hX hne).trans x0) ((E_z3.1.cell (p := ⟨X, 12, none⟩) hX hne).trans x12) ((E_z3.1.cell (p := ⟨X, 17, none⟩) hX hne).trans c17) (Nat.lt_of_lt_of_le hX E_z3.1.size) hne hlt hn gid).mono ?_
      rintro e z4 ⟨rfl, hp, hm⟩
      have hP_z4 : Pv z4 g (n * 89) (chL n (D.hi 12) (D.hi 0) (tellL D L)) := hp
      have E_z4 : Pm g (n * 89) wr z4 := E_z3.trans hm
      clear hP_z3 E_z3
      clear hp hm
      obtain ⟨M, hM⟩ : ∃ M, chL n (D.hi 12) (D.hi 0) (tellL D L) = M := ⟨_, rfl⟩
      rw [hM] at hP_z4 HS
      clear hM
      have HLEN := Lib.hid hP_z4.len
      go_wp2_with (first
        | fail
        | ((with_reducible refine at_store 4 ?_); refine st_pv rfl rfl 4 _ _ rfl g (n * 89) 44 _ hP_z4 _ #[.bool true] rfl rfl rfl (by exact (by decide : 44 + 1 ≤ 89)) (by kernel_rfl) rfl ?_
           intro z5 hp hm
           replace hp := pv_one hp HLEN.out (by decide)
           have hP_z5 : Pv z5 g (n * 89) (M.set 44 (.bool true)) := hp
           have E_z5 : Pm g (n * 89) wr z5 := E_z4.trans hm
           clear hP_z4 E_z4
           clear hp hm))
      have hBn := HB.out.pm (k := n) hkn E_z5 hP_z5
      have HBn := Lib.hid hBn
      have HMn := Lib.hid (HM.out.trans (E_z5.mutF (F := F) HB.out.F2))
      clear hBn
      go_roundw
      case rel => exact ⟨n + 1, by omega, by go_num, by rw [HS.out]; exact HBn.out, HMn.out⟩
      case measure => simp [intOf]; omega
    · obtain rfl : n = B.np := by omega
      go_wp2_with fail
      go_ret
      rw [HRS.out]
      exact ⟨rfl, HB.out, HM.out⟩

end Go.Proofs.Ythfoacgdkoijeaa
