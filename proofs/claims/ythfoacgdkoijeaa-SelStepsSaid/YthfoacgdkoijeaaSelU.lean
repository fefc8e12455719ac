/- The selection by the document: its step. No statement is proved here. -/
import Derived.Test.YthfoacgdkoijeaaSelT
import Derived.Test.YthfoacgdkoijeaaSelK
import Derived.Test.YthfoacgdkoijeaaSelH
import Derived.Deep.Light
import Derived.StillTailTactics
namespace Go.Proofs.Ythfoacgdkoijeaa
open Go.RowKit Go.BigFrame Go.WideShapes Go.ChangeShapes Go.Deep
set_option linter.unusedVariables false
set_option linter.unusedSimpArgs false

theorem setL_over {L vs us : List Value} {j : Nat} (h : j + vs.length ≤ L.length) (hl : us.length ≤ vs.length) : setL (setL L j vs) j us = setL L j (us ++ vs.drop us.length) := by
  apply List.ext_getElem?
  intro i
  have e : (us ++ vs.drop us.length).length = vs.length := by simp; omega
  rw [setL_at (by rw [setL_len h]; omega), setL_at h, setL_at (by rw [e]; exact h), e]
  by_cases h1 : j ≤ i ∧ i < j + vs.length
  · rw [if_pos h1, if_pos h1]
    by_cases h2 : j ≤ i ∧ i < j + us.length
    · rw [if_pos h2, List.getElem?_append_left (by omega)]
    · rw [if_neg h2, List.getElem?_append_right (by omega), List.getElem?_drop]
      congr 1; omega
  · rw [if_neg h1, if_neg h1, if_neg (fun h2 => h1 ⟨h2.1, by omega⟩)]
theorem pv_row {a b : World} {P0 : Nat} {L0 L : List Value} {T : TypeId} (h0 : a.heap[P0]? = some (.cells L0.toArray T (0, 0))) (hl : L0.length = 89) (hm : Pm P0 0 a b) (hp : Pv b P0 0 L) : b.heap[P0]? = some (.cells L.toArray T (0, 0)) := by
  obtain ⟨C', h1, hz, -⟩ := hm.2 _ _ h0
  obtain ⟨C2, T2, h2, hl2, he⟩ := hp
  rw [h1] at h2
  cases h2
  rw [h1]
  have : C'.toList.length = 89 := by simpa [hl] using hz
  rw [List.drop_zero, List.take_of_length_le (Nat.le_of_eq this)] at he
  rw [← he]
theorem cell_lt {w : World} {X j : Nat} {v : Value} (h : w.cell? ⟨X, j, none⟩ = some v) : X < w.heap.size := by
  by_cases hx : X < w.heap.size
  · exact hx
  · simp [World.cell?, Array.getElem?_eq_none (Nat.le_of_not_lt hx)] at h
theorem cell_ext {a b : World} {X j : Nat} {v : Value} (h : a.cell? ⟨X, j, none⟩ = some v) (hx : Ext a b) : b.cell? ⟨X, j, none⟩ = some v := (hx.cell (p := ⟨X, j, none⟩) (cell_lt h)).trans h
theorem cell_pm {a b : World} {G o X j : Nat} {v : Value} (h : a.cell? ⟨X, j, none⟩ = some v) (hm : Pm G o a b) (hne : X ≠ G) : b.cell? ⟨X, j, none⟩ = some v := (hm.1.cell (p := ⟨X, j, none⟩) (cell_lt h) hne).trans h
/-! ### What is chosen, store by store -/
theorem ch_0 {k : Nat} {rp id : Int} {M : List Value} (h : pI M 86 = 0) : chL k rp id M = M.set 88 (.int .i64 0) := by
  unfold chL
  rw [if_pos h]
theorem ds_any (a b : Bool) (M : List Value) : dsL a b (M.set 50 (.bool true)) = (M.set 88 (.int .i64 4)).set 50 (.bool true) := by
  have c : (M.set 50 (.bool true)).set 88 (.int .i64 4) = (M.set 88 (.int .i64 4)).set 50 (.bool true) := List.set_comm _ _ (by decide)
  unfold dsL
  cases a <;> cases b <;> simp only [c, List.set_set]
theorem ch_1 {k : Nat} {rp id : Int} {M : List Value} (h : pI M 86 = 1) : chL k rp id M = (M.set 88 (.int .i64 4)).set 50 (.bool true) := by
  unfold chL
  rw [if_neg (by omega), if_neg (by omega), if_pos h, ds_any]
theorem ch_2 {k : Nat} {rp id : Int} {M : List Value} (h : pI M 86 = 2) : chL k rp id M = dsL (smL M) (teL M) M := by
  unfold chL
  rw [if_neg (by omega), if_neg (by omega), if_neg (by omega), if_pos h]
theorem ch_3r {k : Nat} {rp id : Int} {M : List Value} (h : pI M 86 = 3) (hr : ((k : Int) == rp) = true) : chL k rp id M = (M.set 50 (.bool false)).set 88 (.int .i64 3) := by
  unfold chL roleF
  rw [if_neg (by omega), if_pos h, hr]
  simp only [Bool.true_or, if_true]
  exact List.set_comm _ _ (by decide)
theorem ch_3l {k : Nat} {rp id : Int} {M : List Value} (h : pI M 86 = 3) (hr : ((k : Int) == rp) = false) (hl : lsL M = true) : chL k rp id M = ((M.set 50 (.bool false)).set 88 (.int .i64 4)).set 50 (.bool true) := by
  have c : (M.set 50 (.bool false)).set 88 (.int .i64 4) = (M.set 88 (.int .i64 4)).set 50 (.bool false) := List.set_comm _ _ (by decide)
  unfold chL
  rw [if_neg (by omega), if_pos h, hr, hl, if_neg (by simp), ds_any, c, List.set_set]
theorem ch_3x {k : Nat} {rp id : Int} {M : List Value} (h : pI M 86 = 3) (hr : ((k : Int) == rp) = false) (hl : lsL M = false) (r : Int) (hs : r = if sameA (pI M 70) id = true then 2 else 1) : chL k rp id M = (M.set 50 (.bool false)).set 88 (.int .i64 r) := by
  subst hs
  unfold chL roleF
  rw [if_neg (by omega), if_pos h, hr, hl, if_pos (by simp), if_neg (by simp)]
  exact List.set_comm _ _ (by decide)
theorem ch_n {k : Nat} {rp id : Int} {M : List Value} (h0 : pI M 86 ≠ 0) (h1 : pI M 86 ≠ 1) (h2 : pI M 86 ≠ 2) (h3 : pI M 86 ≠ 3) : chL k rp id M = M := by
  unfold chL
  rw [if_neg h0, if_neg h3, if_neg h1, if_neg h2]
theorem dtl_typed {B : Br} (ho : B.ok) {L : List Value} (hT : Typed PL L) : Typed PL (dtlL B L) := by
  rw [dtl_tell (tpL hT)]
  exact tset_b (tellL_typed ho (tset_b hT 43 _ rfl)) 44 _ rfl
set_option maxRecDepth 100000 in
set_option maxHeartbeats 8000000 in
theorem dsel_step (w : World) (F : Nat → Prop) (X g : Nat) (B : Br) (h : BrG w F X g B) (ho : B.ok) (hn : B.np < 1000) (hp : 0 < B.np) (hR0 : ∀ k, k < B.np → 0 ≤ B.gi k 78 ∧ B.gi k 78 ≤ 65535) :
    Calls Try.prog 32 #[.pointer (some ⟨X, 0, none⟩)] w (Stepped w F X g (selF B)) := by
  have okN := noR_ok ho (Nat.le_refl B.np)
  have npN : (noR B B.np).np = B.np := upd_np B 43 _ _
  have ok1 := selB1_ok ho hn
  have h12 := selB1_12 ho
  have hrg : (selB1 B).hi 12 = -1 ∨ ∃ k : Nat, k < (selB1 B).np ∧ (selB1 B).hi 12 = k := by
    rw [h12]
    exact rootF_rg B B.np
  obtain ⟨ht2, hz2⟩ := rtL_typed ok1 hrg hR0
  have ok2 : (selB2 B).ok := by
    unfold selB2
    rw [h12] at ht2 hz2
    exact sethr_ok ok1 (j := 13) (m := 4) (by decide) hz2 ht2
  have okN1 := selB1_ok okN (by rw [npN]; exact hn)
  have okN2 : (selB2 (noR B B.np)).ok := by
    have hq := rtL_typed okN1 (a := (selB1 (noR B B.np)).hi 12) (by rw [selB1_12 okN]; exact rootF_rg _ _) (fun k hk => by
      have hk2 : k < B.np := by rw [← npN]; exact hk
      show 0 ≤ (noR B B.np).gi k 78 ∧ (noR B B.np).gi k 78 ≤ 65535
      rw [noR_gi ho (by decide) (by decide)]
      exact hR0 k hk2)
    unfold selB2
    rw [selB1_12 okN] at hq
    exact sethr_ok okN1 (j := 13) (m := 4) (by decide) hq.2 hq.1
  obtain ⟨res, hres⟩ : ∃ r, selF B = r := ⟨_, rfl⟩
  have HRF := Lib.hid (show anyR B B.np = false → res = (false, B) from fun hA => by
    rw [← hres]
    unfold selF
    rw [hA, if_neg (by simp), noR_none ho hA])
  have HRT := Lib.hid (show anyR B B.np = true → res = (true, pdst (selB2 B) B.np) from fun hA => by
    rw [← hres]
    unfold selF
    rw [hA, if_pos rfl, pdst_psel ho ok2 okN2])
  rw [hres]
  clear hres okN okN1 okN2 npN ht2 hz2
  obtain ⟨hX, hg, hne⟩ := h.lt
  obtain ⟨cap0, c17, hc1, hc2⟩ := h.cell17 ho
  have H := Lib.hid h
  have HRG := Lib.hid hrg
  have HV2 := Lib.hid (show selB2 B = (selB1 B).sethr 13 (rtL (selB1 B) (selV B).at_) from rfl)
  have HVE := Lib.hid (show selB1 B = (B.sethr 7 (rootF B B.np).cells.toList).sethr 12 [.int .i64 (rootF B B.np).at_] from rfl)
  have HVA := Lib.hid (show (rootF B B.np).at_ = (selV B).at_ from rfl)
  have H12 := Lib.hid h12
  have HOK1 := Lib.hid ok1
  have HOK2 := Lib.hid ok2
  clear h hrg h12 ok1 ok2
  go_enter Try.func32, Try.ntmps32
  go_wp2_with fail
  go_loopw [4, 3] (fun v a wr => ∃ n : Nat, n ≤ B.np ∧ v = .int .i64 n ∧ a = .bool (anyR B n) ∧ Ext w wr) (fun v _ _ => B.np - (intOf v).toNat)
  case atStart => exact ⟨0, by omega, rfl, rfl, Ext.refl w⟩
  case round =>
    clear c17
    obtain ⟨n, hn2, rfl, rfl, hx⟩ := hrel
    have HB := Lib.hid (H.out.ext hx)
    have HX := Lib.hid hx
    clear hx
    obtain ⟨cap2, c17, hc3, hc4⟩ := HB.out.cell17 ho
    by_cases hlt : n < B.np
    · have p43 := (HB.out.cellg (i := n * 89 + 43) (lt89 hlt (by decide))).trans (ho.gb hlt 43 rfl)
      have hA : anyR B (n + 1) = (anyR B n || B.gb n 43) := rfl
      obtain ⟨x, hx⟩ : ∃ x, anyR B n = x := ⟨_, rfl⟩
      obtain ⟨y, hy⟩ : ∃ x, B.gb n 43 = x := ⟨_, rfl⟩
      rw [hx, hy] at hA
      rw [hx]
      rw [hy] at p43
      have HA := Lib.hid hA
      clear hA hx hy
      cases y
      · go_wp2_with fail
        go_roundw
        case rel => exact ⟨n + 1, by omega, by go_num, by rw [HA.out]; cases x <;> rfl, HX.out⟩
        case measure => simp [intOf]; omega
      · go_wp2_with fail
        go_roundw
        case rel => exact ⟨n + 1, by omega, by go_num, by rw [HA.out]; cases x <;> rfl, HX.out⟩
        case measure => simp [intOf]; omega
    obtain rfl : n = B.np := by omega
    obtain ⟨an, han⟩ : ∃ b, anyR B B.np = b := ⟨_, rfl⟩
    rw [han] at HRF HRT ⊢
    clear han
    cases an
    · have HRS := Lib.hid (HRF.out rfl)
      clear HRF HRT
      go_wp2_with fail
      go_ret
      rw [HRS.out]
      exact ⟨rfl, HB.out, HX.out.mut F⟩
    have HRS := Lib.hid (HRT.out rfl)
    clear HRF HRT
    obtain ⟨Cr, hCr, hCb, hCz⟩ := HB.out.br hp
    have HCr := Lib.hid hCr
    have HCi := Lib.hid (show (Try.prog.info? 33).map (·.size) = some Cr.size by rw [hCz, ho.hd.1]; exact size_br)
    have HCb := Lib.hid hCb
    clear hCr hCz hCb
    go_wp2_with (first
      | fail
      | ((with_reducible refine at_load 33 ?_); refine wpList_load_row rfl 33 _ rfl X rfl 33 Cr (0, 0) _ HCr.out Try.underlying33 rfl HCi.out ?_))
    refine (droot_any Cr B _ HCb.out ho hn).mono ?_
    rintro e w2 ⟨rfl, hx⟩
    obtain ⟨v, hv⟩ : ∃ v, rootF B B.np = v := ⟨_, rfl⟩
    rw [hv] at HVE HVA
    rw [hv]
    have HC2 := Lib.hid (HB.out.ext hx)
    have HM2 := Lib.hid ((HX.out.trans hx).mut F)
    clear hx HCr HCb HB HX hv c17
    have hl7 : (B.sethr 7 v.cells.toList).hd.length = 17 := by
      have := ho.hd.1
      show (setL B.hd 7 _).length = 17
      rw [setL_len (by rw [show v.cells.toList.length = 5 from rfl, this]; decide), this]
      rfl
    obtain ⟨B1, hB1⟩ : ∃ B1, selB1 B = B1 := ⟨_, rfl⟩
    have HB1 := Lib.hid (show ∀ j, j < 7 → B1.hi j = B.hi j from fun j hj => by rw [← hB1]; exact selB1_lo ho hj)
    have HG1 := Lib.hid (show ∀ k j, B1.gi k j = B.gi k j from fun k j => by rw [← hB1]; rfl)
    have np1 : B1.np = B.np := by rw [← hB1]; rfl
    rw [hB1] at HV2 HVE H12 HOK1 HRG
    clear hB1
    have hl1 : B1.hd.length = 17 := HOK1.out.hd.1
    obtain ⟨b2, hb2⟩ : ∃ z, B.hi 2 = z := ⟨_, rfl⟩
    obtain ⟨b3, hb3⟩ : ∃ z, B.hi 3 = z := ⟨_, rfl⟩
    obtain ⟨b4, hb4⟩ : ∃ z, B.hi 4 = z := ⟨_, rfl⟩
    obtain ⟨b5, hb5⟩ : ∃ z, B.hi 5 = z := ⟨_, rfl⟩
    have HT0 := Lib.hid (show B1.hi 2 = b2 ∧ B1.hi 3 = b3 ∧ B1.hi 4 = b4 ∧ B1.hi 5 = b5 from ⟨(HB1.out 2 (by decide)).trans hb2, (HB1.out 3 (by decide)).trans hb3, (HB1.out 4 (by decide)).trans hb4, (HB1.out 5 (by decide)).trans hb5⟩)
    clear hb2 hb3 hb4 hb5
    obtain ⟨B3, hB3⟩ : ∃ B3, B1.sethr 13 [.int .i64 b2, .int .i64 b3, .int .i64 b4, .int .i64 b5] = B3 := ⟨_, rfl⟩
    have HB3 := Lib.hid hB3
    clear hB3
    go_upto_region 11 with (first
      | fail
      | ((with_reducible refine at_store 28 ?_); refine st_hd rfl rfl 28 _ _ rfl F X g B HC2.out ho.hd.1 7 _ v.cells rfl rfl rfl (by exact (by decide : 7 + 5 ≤ 17)) (by kernel_rfl) rfl ?_
         intro w3 hB3 hm3
         have HC3 := Lib.hid hB3
         have HM3 := Lib.hid (HM2.out.trans (hm3.mono (fun n _ e => by have h2 : n = X := e; rw [h2]; exact HC2.out.F1)))
         clear hB3 hm3)
      | ((with_reducible refine at_store 3 ?_); refine st_hd rfl rfl 3 _ _ rfl F X g (B.sethr 7 v.cells.toList) HC3.out hl7 12 _ #[.int .i64 v.at_] rfl rfl rfl (by exact (by decide : 12 + 1 ≤ 17)) (by kernel_rfl) rfl ?_
         intro w4 hB4 hm4
         have HC4 := Lib.hid (show BrG w4 F X g B1 by rw [HVE.out]; exact hB4)
         have HM4 := Lib.hid (HM3.out.trans (hm4.mono (fun n _ e => by have h2 : n = X := e; rw [h2]; exact HC3.out.F1)))
         have RT := Lib.hid (show w4.rangeAt X 2 [.int .i64 b2, .int .i64 b3, .int .i64 b4, .int .i64 b5] by
           obtain ⟨t2, t3, t4, t5⟩ := HT0.out
           rw [← t2, ← t3, ← t4, ← t5]
           exact rcons ((HC4.out.cellX HOK1.out (i := 2) (by decide)).trans (HOK1.out.hi 2 rfl)) (rcons ((HC4.out.cellX HOK1.out (i := 3) (by decide)).trans (HOK1.out.hi 3 rfl)) (rcons ((HC4.out.cellX HOK1.out (i := 4) (by decide)).trans (HOK1.out.hi 4 rfl)) (rcons ((HC4.out.cellX HOK1.out (i := 5) (by decide)).trans (HOK1.out.hi 5 rfl)) rnil))))
         clear hB4 hm4)
      | ((with_reducible refine at_load 24 ?_); refine wpList_load_mid rfl 24 _ rfl X 2 rfl [.int .i64 b2, .int .i64 b3, .int .i64 b4, .int .i64 b5] _ RT.out Try.underlying24 rfl (by kernel_rfl) ?_)
      | ((with_reducible refine at_store 24 ?_); refine st_hd rfl rfl 24 _ _ rfl F X g B1 HC4.out hl1 13 _ #[.int .i64 b2, .int .i64 b3, .int .i64 b4, .int .i64 b5] rfl rfl rfl (by exact (by decide : 13 + 4 ≤ 17)) (by kernel_rfl) rfl ?_
         intro w5 hB5 hm5
         have HC5 := Lib.hid (show BrG w5 F X g B3 by rw [← HB3.out]; exact hB5)
         have HM5 := Lib.hid (HM4.out.trans (hm5.mono (fun n _ e => by have h2 : n = X := e; rw [h2]; exact HC4.out.F1)))
         clear hB5 hm5 RT HC4 HC3 HC2))
    have ok3 : B3.ok := by
      rw [← HB3.out]
      obtain ⟨t2, t3, t4, t5⟩ := HT0.out
      refine sethr_ok HOK1.out (j := 13) (m := 4) (by decide) rfl ?_
      rw [← t2, ← t3, ← t4, ← t5]
      exact sy_cons (sy_cons (sy_cons (sy_cons sy_nil (HOK1.out.hw 5 rfl)) (HOK1.out.hw 4 rfl)) (HOK1.out.hw 3 rfl)) (HOK1.out.hw 2 rfl)
    have np3 : B3.np = B.np := by rw [← HB3.out]; exact np1
    have hl3 : B3.hd.length = 17 := ok3.hd.1
    have h312 : B3.hi 12 = v.at_ := by
      rw [← HB3.out, hi_sethr_out hl1 (by exact (by decide : 13 + 4 ≤ 17)) (.inl (by decide)), H12.out]
      exact HVA.out.symm
    have x12 := (HC5.out.cellX ok3 (i := 12) (by decide)).trans (ok3.hi 12 rfl)
    rw [h312] at x12
    have hrg2 := HRG.out
    rw [H12.out, ← HVA.out] at hrg2
    rw [np1] at hrg2
    obtain ⟨W2, hD⟩ : ∃ W2, selB2 B = W2 := ⟨_, rfl⟩
    have HD0 := Lib.hid (show ∀ j, j < 7 → W2.hi j = B.hi j from fun j hj => by rw [← hD]; exact selB2_lo ho hj)
    rw [hD] at HV2 HOK2 HRS
    have npD : W2.np = B.np := by rw [← hD]; rfl
    clear hD
    rw [← HVA.out] at HV2
    rcases hrg2 with ha | ⟨m, hmk, ha⟩
    · rw [ha] at x12 HV2
      clear ha
      have HQ := Lib.hid (show B3 = W2 by
        rw [HV2.out, ← HB3.out]
        unfold rtL
        obtain ⟨t2, t3, t4, t5⟩ := HT0.out
        rw [if_pos (by decide), t2, t3, t4, t5])
      rw [HQ.out] at HC5
      clear HQ
      go_wp2_with fail
      have HE0 := Lib.hid HM5.out
      go_loopw [5] (fun v wr => ∃ n : Nat, n ≤ B.np ∧ v = .int .i64 n ∧ BrG wr F X g (pdst W2 n) ∧ Mut F w wr) (fun v _ => B.np - (intOf v).toNat)
      case atStart => exact ⟨0, by omega, rfl, HC5.out, HE0.out⟩
      case round =>
        obtain ⟨n, hn2, rfl, hB, hm⟩ := hrel
        have HB := Lib.hid hB
        have HM := Lib.hid hm
        clear hB hm
        have okn := pdst_ok HOK2.out n (by rw [npD]; exact hn2)
        have npn : (pdst W2 n).np = B.np := (pdst_np W2 n).trans npD
        obtain ⟨hX, hg, hne⟩ := HB.out.lt
        obtain ⟨cap2, c17, hc3, hc4⟩ := HB.out.cell17 okn
        rw [npn] at c17 hc3
        by_cases hlt : n < B.np
        rotate_left
        · obtain rfl : n = B.np := by omega
          go_wp2_with fail
          go_ret
          rw [HRS.out]
          exact ⟨rfl, HB.out, HM.out⟩
        have hk : n < (pdst W2 n).np := by rw [npn]; exact hlt
        have hn8 : n < 1000 := by omega
        have HS := Lib.hid (show pdst W2 (n + 1) = (pdst W2 n).setPort n (dstL W2 n (port (pdst W2 n).ps n)) from rfl)
        have hT := br_typed okn hk
        have hpr0 := HB.out.range hk
        have hpt := port_typed okn hk
        obtain ⟨L, hL⟩ : ∃ L, port (pdst W2 n).ps n = L := ⟨_, rfl⟩
        rw [hL] at hT hpr0 hpt HS
        clear hL
        have hpr := Lib.hid hpr0
        have hpz := Lib.hid (show (Try.prog.info? 51).map (·.size) = some L.length by rw [tpL hT]; exact size_port)
        have hps := Lib.hid (show (Try.prog.info? 51).map (·.size) = some L.toArray.size by rw [List.size_toArray]; exact hpz.out)
        have hpl := Lib.hid (show PZ.size = L.toArray.size by rw [size_PZ, List.size_toArray]; exact (tpL hT).symm)
        have hpo := Lib.hid (all_oneCell_toArray hpt.one)
        have hzp := zero_port
        clear hpr0 hpt
        have x0 : wr.cell? ⟨X, 0, none⟩ = some (.int .u64 (W2.hi 0)) := by
          have := (HB.out.cellX okn (i := 0) (by decide)).trans (okn.hi 0 rfl)
          rw [pdst_hi] at this
          exact this
        have Y0 := Lib.hid x0
        clear x0
        have x4 : wr.cell? ⟨X, 4, none⟩ = some (.int .i64 (W2.hi 4)) := by
          have := (HB.out.cellX okn (i := 4) (by decide)).trans (okn.hi 4 rfl)
          rw [pdst_hi] at this
          exact this
        have Y4 := Lib.hid x4
        clear x4
        have x7 : wr.cell? ⟨X, 7, none⟩ = some (.int .u64 (W2.hi 7)) := by
          have := (HB.out.cellX okn (i := 7) (by decide)).trans (okn.hi 7 rfl)
          rw [pdst_hi] at this
          exact this
        have Y7 := Lib.hid x7
        clear x7
        have x8 : wr.cell? ⟨X, 8, none⟩ = some (.int .u32 (W2.hi 8)) := by
          have := (HB.out.cellX okn (i := 8) (by decide)).trans (okn.hi 8 rfl)
          rw [pdst_hi] at this
          exact this
        have Y8 := Lib.hid x8
        clear x8
        have x12 : wr.cell? ⟨X, 12, none⟩ = some (.int .i64 (W2.hi 12)) := by
          have := (HB.out.cellX okn (i := 12) (by decide)).trans (okn.hi 12 rfl)
          rw [pdst_hi] at this
          exact this
        have Y12 := Lib.hid x12
        clear x12
        have x13 : wr.cell? ⟨X, 13, none⟩ = some (.int .i64 (W2.hi 13)) := by
          have := (HB.out.cellX okn (i := 13) (by decide)).trans (okn.hi 13 rfl)
          rw [pdst_hi] at this
          exact this
        have Y13 := Lib.hid x13
        clear x13
        have x14 : wr.cell? ⟨X, 14, none⟩ = some (.int .i64 (W2.hi 14)) := by
          have := (HB.out.cellX okn (i := 14) (by decide)).trans (okn.hi 14 rfl)
          rw [pdst_hi] at this
          exact this
        have Y14 := Lib.hid x14
        clear x14
        have x15 : wr.cell? ⟨X, 15, none⟩ = some (.int .i64 (W2.hi 15)) := by
          have := (HB.out.cellX okn (i := 15) (by decide)).trans (okn.hi 15 rfl)
          rw [pdst_hi] at this
          exact this
        have Y15 := Lib.hid x15
        clear x15
        have x16 : wr.cell? ⟨X, 16, none⟩ = some (.int .i64 (W2.hi 16)) := by
          have := (HB.out.cellX okn (i := 16) (by decide)).trans (okn.hi 16 rfl)
          rw [pdst_hi] at this
          exact this
        have Y16 := Lib.hid x16
        clear x16
        have Y17 := Lib.hid c17
        have HLEN := Lib.hid (tpL hT)
        have HL_0 := Lib.hid (tpI hT 0 rfl)
        have HT := Lib.hid (dtl_typed HOK2.out hT)
        have HT0 := Lib.hid (@dst_typed _ HOK2.out n _ hT)
        have gid := wf_u64 (HOK2.out.hw 0 (K := .u64) rfl)
        clear hT
        go_upto_region 20 with (first
          | fail
          | ((with_reducible refine at_load 51 ?_); refine wpList_load_mid rfl 51 _ rfl g (n * 89) rfl L _ hpr.out Try.underlying51 rfl hpz.out ?_)
          | ((with_reducible refine at_store 51 ?_); refine wpList_store_new3 rfl rfl 51 _ _ _ rfl PZ L.toArray _ rfl ?_ rfl hps.out hpl.out (by rw [Array.all_toList]; exact hpo.out) ?_; · rfl
             intro z1 hz1
             have hx1 : Ext wr z1 := by rw [hz1]; exact (Ext.refl _).alloc _
             have hq := heap_alloc_new wr (.cells L.toArray 51)
             rw [← hz1] at hq
             obtain ⟨P0, hP0⟩ : ∃ n, wr.heap.size = n := ⟨_, rfl⟩
             rw [hP0] at hq ⊢
             have hP_z1 : Pv z1 P0 0 L := Pv.box hq HLEN.out
             have HQ := Lib.hid hq
             have hXP : X ≠ P0 := by omega
             have hgP : g ≠ P0 := by omega
             have HW0 := Lib.hid hP0
             have hX1 : X < z1.heap.size := Nat.lt_of_lt_of_le hX hx1.size
             have x0_z1 : z1.cell? ⟨X, 0, none⟩ = some (.int .u64 (W2.hi 0)) := cell_ext Y0.out hx1
             have x4_z1 : z1.cell? ⟨X, 4, none⟩ = some (.int .i64 (W2.hi 4)) := cell_ext Y4.out hx1
             have x7_z1 : z1.cell? ⟨X, 7, none⟩ = some (.int .u64 (W2.hi 7)) := cell_ext Y7.out hx1
             have x8_z1 : z1.cell? ⟨X, 8, none⟩ = some (.int .u32 (W2.hi 8)) := cell_ext Y8.out hx1
             have x12_z1 : z1.cell? ⟨X, 12, none⟩ = some (.int .i64 (W2.hi 12)) := cell_ext Y12.out hx1
             have x13_z1 : z1.cell? ⟨X, 13, none⟩ = some (.int .i64 (W2.hi 13)) := cell_ext Y13.out hx1
             have x14_z1 : z1.cell? ⟨X, 14, none⟩ = some (.int .i64 (W2.hi 14)) := cell_ext Y14.out hx1
             have x15_z1 : z1.cell? ⟨X, 15, none⟩ = some (.int .i64 (W2.hi 15)) := cell_ext Y15.out hx1
             have x16_z1 : z1.cell? ⟨X, 16, none⟩ = some (.int .i64 (W2.hi 16)) := cell_ext Y16.out hx1
             have x17_z1 : z1.cell? ⟨X, 17, none⟩ = some (.slice (some ⟨g, 0, none⟩) B.np cap2) := cell_ext Y17.out hx1
             have HX1 := Lib.hid hx1
             clear hz1 hq hP0 c17)
          | ((with_reducible refine at_store 4 ?_); refine st_pv rfl rfl 4 _ _ rfl P0 0 43 _ hP_z1 _ #[.bool false] rfl rfl rfl (by exact (by decide : 43 + 1 ≤ 89)) (by kernel_rfl) rfl ?_
             intro z2 hp hm
             replace hp := pv_one hp HLEN.out (by decide)
             have hP_z2 : Pv z2 P0 0 (L.set 43 (.bool false)) := hp
             have E_z2 : Pm P0 0 z1 z2 := hm
             have x0_z2 : z2.cell? ⟨X, 0, none⟩ = some (.int .u64 (W2.hi 0)) := cell_pm x0_z1 hm hXP
             have x4_z2 : z2.cell? ⟨X, 4, none⟩ = some (.int .i64 (W2.hi 4)) := cell_pm x4_z1 hm hXP
             have x7_z2 : z2.cell? ⟨X, 7, none⟩ = some (.int .u64 (W2.hi 7)) := cell_pm x7_z1 hm hXP
             have x8_z2 : z2.cell? ⟨X, 8, none⟩ = some (.int .u32 (W2.hi 8)) := cell_pm x8_z1 hm hXP
             have x12_z2 : z2.cell? ⟨X, 12, none⟩ = some (.int .i64 (W2.hi 12)) := cell_pm x12_z1 hm hXP
             have x13_z2 : z2.cell? ⟨X, 13, none⟩ = some (.int .i64 (W2.hi 13)) := cell_pm x13_z1 hm hXP
             have x14_z2 : z2.cell? ⟨X, 14, none⟩ = some (.int .i64 (W2.hi 14)) := cell_pm x14_z1 hm hXP
             have x15_z2 : z2.cell? ⟨X, 15, none⟩ = some (.int .i64 (W2.hi 15)) := cell_pm x15_z1 hm hXP
             have x16_z2 : z2.cell? ⟨X, 16, none⟩ = some (.int .i64 (W2.hi 16)) := cell_pm x16_z1 hm hXP
             have x17_z2 : z2.cell? ⟨X, 17, none⟩ = some (.slice (some ⟨g, 0, none⟩) B.np cap2) := cell_pm x17_z1 hm hXP
             clear hP_z1 x0_z1 x4_z1 x7_z1 x8_z1 x12_z1 x13_z1 x14_z1 x15_z1 x16_z1 x17_z1
             clear hp hm)
          | ((with_reducible refine at_store 4 ?_); refine st_pv rfl rfl 4 _ _ rfl P0 0 44 _ hP_z2 _ #[.bool true] rfl rfl rfl (by exact (by decide : 44 + 1 ≤ 89)) (by kernel_rfl) rfl ?_
             intro z3 hp hm
             replace hp := pv_one hp (len_set' HLEN.out) (by decide)
             have hP_z3 : Pv z3 P0 0 ((L.set 43 (.bool false)).set 44 (.bool true)) := hp
             have E_z3 : Pm P0 0 z1 z3 := E_z2.trans hm
             have x0_z3 : z3.cell? ⟨X, 0, none⟩ = some (.int .u64 (W2.hi 0)) := cell_pm x0_z2 hm hXP
             have x4_z3 : z3.cell? ⟨X, 4, none⟩ = some (.int .i64 (W2.hi 4)) := cell_pm x4_z2 hm hXP
             have x7_z3 : z3.cell? ⟨X, 7, none⟩ = some (.int .u64 (W2.hi 7)) := cell_pm x7_z2 hm hXP
             have x8_z3 : z3.cell? ⟨X, 8, none⟩ = some (.int .u32 (W2.hi 8)) := cell_pm x8_z2 hm hXP
             have x12_z3 : z3.cell? ⟨X, 12, none⟩ = some (.int .i64 (W2.hi 12)) := cell_pm x12_z2 hm hXP
             have x13_z3 : z3.cell? ⟨X, 13, none⟩ = some (.int .i64 (W2.hi 13)) := cell_pm x13_z2 hm hXP
             have x14_z3 : z3.cell? ⟨X, 14, none⟩ = some (.int .i64 (W2.hi 14)) := cell_pm x14_z2 hm hXP
             have x15_z3 : z3.cell? ⟨X, 15, none⟩ = some (.int .i64 (W2.hi 15)) := cell_pm x15_z2 hm hXP
             have x16_z3 : z3.cell? ⟨X, 16, none⟩ = some (.int .i64 (W2.hi 16)) := cell_pm x16_z2 hm hXP
             have x17_z3 : z3.cell? ⟨X, 17, none⟩ = some (.slice (some ⟨g, 0, none⟩) B.np cap2) := cell_pm x17_z2 hm hXP
             clear hP_z2 x0_z2 x4_z2 x7_z2 x8_z2 x12_z2 x13_z2 x14_z2 x15_z2 x16_z2 x17_z2 E_z2
             clear hp hm))
        refine beginW (S := fun W' => Ext z3 W') (S2 := fun W' => Pm P0 0 z3 W') 18 (by kernel_rfl) ?_
        intro wd hqx
        have hq0 : Ext z3 wd := hqx
        refine takeW (i := 0) (z := 18) (v := (.pointer (some ⟨X, 0, none⟩))) rfl rfl (by kernel_rfl) (by kernel_rfl) (by kernel_rfl) (by kernel_rfl) (by kernel_rfl) (by kernel_rfl) (fun _ _ _ h => h) (Or.inl ⟨rfl, fun _ _ => rfl⟩) hq0 (Ext.pm hq0 P0 0) ?_
        simp only [Act.put, List.setIfInBounds_toArray, List.set_cons_zero, List.set_cons_succ]
        refine takeW (i := 1) (z := 18) (v := (.pointer (some ⟨X, 0, none⟩))) rfl rfl (by kernel_rfl) (by kernel_rfl) (by kernel_rfl) (by kernel_rfl) (by kernel_rfl) (by kernel_rfl) (fun _ _ _ h => h) (Or.inl ⟨rfl, fun _ _ => rfl⟩) hq0 (Ext.pm hq0 P0 0) ?_
        simp only [Act.put, List.setIfInBounds_toArray, List.set_cons_zero, List.set_cons_succ]
        refine takeW (i := 2) (z := 18) (v := (.pointer (some ⟨X, 7, none⟩))) rfl rfl (by kernel_rfl) (by kernel_rfl) (by kernel_rfl) (by kernel_rfl) (by kernel_rfl) (by kernel_rfl) (fun _ _ _ h => h) (Or.inl ⟨rfl, fun _ _ => rfl⟩) hq0 (Ext.pm hq0 P0 0) ?_
        simp only [Act.put, List.setIfInBounds_toArray, List.set_cons_zero, List.set_cons_succ]
        refine takeW (i := 3) (z := 18) (v := (.pointer (some ⟨X, 7, none⟩))) rfl rfl (by kernel_rfl) (by kernel_rfl) (by kernel_rfl) (by kernel_rfl) (by kernel_rfl) (by kernel_rfl) (fun _ _ _ h => h) (Or.inl ⟨rfl, fun _ _ => rfl⟩) hq0 (Ext.pm hq0 P0 0) ?_
        simp only [Act.put, List.setIfInBounds_toArray, List.set_cons_zero, List.set_cons_succ]
        refine takeW (i := 4) (z := 18) (v := _) rfl rfl (by kernel_rfl) (by kernel_rfl) (by kernel_rfl) (by kernel_rfl) (by kernel_rfl) (by kernel_rfl) (fun _ _ _ h => h) (yieldsIf_cell rfl 22 _ rfl ⟨X, 7, none⟩ rfl (.int .u64 (W2.hi 7)) _ (fun W' hW' => cell_ext x7_z3 hW') Try.underlying22 rfl) hq0 (Ext.pm hq0 P0 0) ?_
        simp only [Act.put, List.setIfInBounds_toArray, List.set_cons_zero, List.set_cons_succ]
        refine takeW (i := 5) (z := 18) (v := (.pointer (some ⟨X, 0, none⟩))) rfl rfl (by kernel_rfl) (by kernel_rfl) (by kernel_rfl) (by kernel_rfl) (by kernel_rfl) (by kernel_rfl) (fun _ _ _ h => h) (Or.inl ⟨rfl, fun _ _ => rfl⟩) hq0 (Ext.pm hq0 P0 0) ?_
        simp only [Act.put, List.setIfInBounds_toArray, List.set_cons_zero, List.set_cons_succ]
        refine takeW (i := 6) (z := 18) (v := (.pointer (some ⟨X, 0, none⟩))) rfl rfl (by kernel_rfl) (by kernel_rfl) (by kernel_rfl) (by kernel_rfl) (by kernel_rfl) (by kernel_rfl) (fun _ _ _ h => h) (Or.inl ⟨rfl, fun _ _ => rfl⟩) hq0 (Ext.pm hq0 P0 0) ?_
        simp only [Act.put, List.setIfInBounds_toArray, List.set_cons_zero, List.set_cons_succ]
        refine takeW (i := 7) (z := 18) (v := (.pointer (some ⟨X, 7, none⟩))) rfl rfl (by kernel_rfl) (by kernel_rfl) (by kernel_rfl) (by kernel_rfl) (by kernel_rfl) (by kernel_rfl) (fun _ _ _ h => h) (Or.inl ⟨rfl, fun _ _ => rfl⟩) hq0 (Ext.pm hq0 P0 0) ?_
        simp only [Act.put, List.setIfInBounds_toArray, List.set_cons_zero, List.set_cons_succ]
        refine takeW (i := 8) (z := 18) (v := (.pointer (some ⟨X, 8, none⟩))) rfl rfl (by kernel_rfl) (by kernel_rfl) (by kernel_rfl) (by kernel_rfl) (by kernel_rfl) (by kernel_rfl) (fun _ _ _ h => h) (Or.inl ⟨rfl, fun _ _ => rfl⟩) hq0 (Ext.pm hq0 P0 0) ?_
        simp only [Act.put, List.setIfInBounds_toArray, List.set_cons_zero, List.set_cons_succ]
        refine takeW (i := 9) (z := 18) (v := _) rfl rfl (by kernel_rfl) (by kernel_rfl) (by kernel_rfl) (by kernel_rfl) (by kernel_rfl) (by kernel_rfl) (fun _ _ _ h => h) (yieldsIf_cell rfl 25 _ rfl ⟨X, 8, none⟩ rfl (.int .u32 (W2.hi 8)) _ (fun W' hW' => cell_ext x8_z3 hW') Try.underlying25 rfl) hq0 (Ext.pm hq0 P0 0) ?_
        simp only [Act.put, List.setIfInBounds_toArray, List.set_cons_zero, List.set_cons_succ]
        refine takeW (i := 10) (z := 18) (v := (.pointer (some ⟨X, 0, none⟩))) rfl rfl (by kernel_rfl) (by kernel_rfl) (by kernel_rfl) (by kernel_rfl) (by kernel_rfl) (by kernel_rfl) (fun _ _ _ h => h) (Or.inl ⟨rfl, fun _ _ => rfl⟩) hq0 (Ext.pm hq0 P0 0) ?_
        simp only [Act.put, List.setIfInBounds_toArray, List.set_cons_zero, List.set_cons_succ]
        refine takeW (i := 11) (z := 18) (v := (.pointer (some ⟨X, 0, none⟩))) rfl rfl (by kernel_rfl) (by kernel_rfl) (by kernel_rfl) (by kernel_rfl) (by kernel_rfl) (by kernel_rfl) (fun _ _ _ h => h) (Or.inl ⟨rfl, fun _ _ => rfl⟩) hq0 (Ext.pm hq0 P0 0) ?_
        simp only [Act.put, List.setIfInBounds_toArray, List.set_cons_zero, List.set_cons_succ]
        refine takeW (i := 12) (z := 18) (v := (.pointer (some ⟨X, 0, none⟩))) rfl rfl (by kernel_rfl) (by kernel_rfl) (by kernel_rfl) (by kernel_rfl) (by kernel_rfl) (by kernel_rfl) (fun _ _ _ h => h) (Or.inl ⟨rfl, fun _ _ => rfl⟩) hq0 (Ext.pm hq0 P0 0) ?_
        simp only [Act.put, List.setIfInBounds_toArray, List.set_cons_zero, List.set_cons_succ]
        refine takeW (i := 13) (z := 18) (v := _) rfl rfl (by kernel_rfl) (by kernel_rfl) (by kernel_rfl) (by kernel_rfl) (by kernel_rfl) (by kernel_rfl) (fun _ _ _ h => h) (yieldsIf_cell rfl 22 _ rfl ⟨X, 0, none⟩ rfl (.int .u64 (W2.hi 0)) _ (fun W' hW' => cell_ext x0_z3 hW') Try.underlying22 rfl) hq0 (Ext.pm hq0 P0 0) ?_
        simp only [Act.put, List.setIfInBounds_toArray, List.set_cons_zero, List.set_cons_succ]
        refine takeW (i := 14) (z := 18) (v := (.pointer (some ⟨P0, 0, none⟩))) rfl rfl (by kernel_rfl) (by kernel_rfl) (by kernel_rfl) (by kernel_rfl) (by kernel_rfl) (by kernel_rfl) (fun _ _ _ h => h) (Or.inl ⟨rfl, fun _ _ => rfl⟩) hq0 (Ext.pm hq0 P0 0) ?_
        simp only [Act.put, List.setIfInBounds_toArray, List.set_cons_zero, List.set_cons_succ]
        refine takeW (i := 15) (z := 18) (v := _) rfl rfl (by kernel_rfl) (by kernel_rfl) (by kernel_rfl) (by kernel_rfl) (by kernel_rfl) (by kernel_rfl) (fun _ _ _ h => h) (yieldsIf_cell rfl 26 _ rfl ⟨P0, 0, none⟩ rfl (.int .u16 (pI L 0)) _ (fun W' hW' => ((hP_z3.ext hW').cell (j := 0) (by decide)).trans ((get_ne (by decide)).trans ((get_ne (by decide)).trans HL_0.out))) Try.underlying26 rfl) hq0 (Ext.pm hq0 P0 0) ?_
        simp only [Act.put, List.setIfInBounds_toArray, List.set_cons_zero, List.set_cons_succ]
        refine takeW (i := 16) (z := 18) (v := (.agg #[.int .u64 (W2.hi 7), .int .u32 (W2.hi 8), .int .u64 (W2.hi 0), .int .u16 (pI L 0), .int .u16 0])) rfl rfl (by kernel_rfl) (by kernel_rfl) (by kernel_rfl) (by kernel_rfl) (by kernel_rfl) (by kernel_rfl) (fun _ _ _ h => h) (yieldsIf_build rfl 28 _ rfl [(0, .int .u64 (W2.hi 7)), (1, .int .u32 (W2.hi 8)), (2, .int .u64 (W2.hi 0)), (3, .int .u16 (pI L 0))] rfl #[.int .u64 (W2.hi 7), .int .u32 (W2.hi 8), .int .u64 (W2.hi 0), .int .u16 (pI L 0), .int .u16 0] (by kernel_rfl)) hq0 (Ext.pm hq0 P0 0) ?_
        simp only [Act.put, List.setIfInBounds_toArray, List.set_cons_zero, List.set_cons_succ]
        refine takeW (i := 17) (z := 18) (v := (.pointer (some ⟨P0, 73, none⟩))) rfl rfl (by kernel_rfl) (by kernel_rfl) (by kernel_rfl) (by kernel_rfl) (by kernel_rfl) (by kernel_rfl) (fun _ _ _ h => h) (Or.inl ⟨rfl, fun _ _ => rfl⟩) hq0 (Ext.pm hq0 P0 0) ?_
        simp only [Act.put, List.setIfInBounds_toArray, List.set_cons_zero, List.set_cons_succ]
        refine runWl (z := 18) rfl rfl (by kernel_rfl) (fun K hK => ?_)
        refine wp_st_pv rfl 28 _ _ rfl P0 0 73 _ (hP_z3.ext hq0) _ #[.int .u64 (W2.hi 7), .int .u32 (W2.hi 8), .int .u64 (W2.hi 0), .int .u16 (pI L 0), .int .u16 0] rfl rfl rfl (by exact (by decide : 73 + 5 ≤ 89)) (by kernel_rfl) rfl (fun ws18 hp18 hm18 => ?_)
        have hr18 : Pm P0 0 z3 ws18 := (Ext.pm hq0 P0 0).trans hm18
        refine hK.out _ _ hr18 (fun _ => ?_)
        try simp only [Act.put, List.setIfInBounds_toArray, List.set_cons_zero, List.set_cons_succ]
        clear hK K
        refine wpAnyH_done (by kernel_rfl) ?_ _
        generalize ws18 = z4 at *
        have hP_z4 : Pv z4 P0 0 (setL ((L.set 43 (.bool false)).set 44 (.bool true)) 73 [.int .u64 (W2.hi 7), .int .u32 (W2.hi 8), .int .u64 (W2.hi 0), .int .u16 (pI L 0), .int .u16 0]) := hp18
        have E_z4 : Pm P0 0 z1 z4 := (E_z3.ext hq0).trans hm18
        have x0_z4 : z4.cell? ⟨X, 0, none⟩ = some (.int .u64 (W2.hi 0)) := cell_pm (cell_ext x0_z3 hq0) hm18 hXP
        have x4_z4 : z4.cell? ⟨X, 4, none⟩ = some (.int .i64 (W2.hi 4)) := cell_pm (cell_ext x4_z3 hq0) hm18 hXP
        have x7_z4 : z4.cell? ⟨X, 7, none⟩ = some (.int .u64 (W2.hi 7)) := cell_pm (cell_ext x7_z3 hq0) hm18 hXP
        have x8_z4 : z4.cell? ⟨X, 8, none⟩ = some (.int .u32 (W2.hi 8)) := cell_pm (cell_ext x8_z3 hq0) hm18 hXP
        have x12_z4 : z4.cell? ⟨X, 12, none⟩ = some (.int .i64 (W2.hi 12)) := cell_pm (cell_ext x12_z3 hq0) hm18 hXP
        have x13_z4 : z4.cell? ⟨X, 13, none⟩ = some (.int .i64 (W2.hi 13)) := cell_pm (cell_ext x13_z3 hq0) hm18 hXP
        have x14_z4 : z4.cell? ⟨X, 14, none⟩ = some (.int .i64 (W2.hi 14)) := cell_pm (cell_ext x14_z3 hq0) hm18 hXP
        have x15_z4 : z4.cell? ⟨X, 15, none⟩ = some (.int .i64 (W2.hi 15)) := cell_pm (cell_ext x15_z3 hq0) hm18 hXP
        have x16_z4 : z4.cell? ⟨X, 16, none⟩ = some (.int .i64 (W2.hi 16)) := cell_pm (cell_ext x16_z3 hq0) hm18 hXP
        have x17_z4 : z4.cell? ⟨X, 17, none⟩ = some (.slice (some ⟨g, 0, none⟩) B.np cap2) := cell_pm (cell_ext x17_z3 hq0) hm18 hXP
        clear hP_z3 x0_z3 x4_z3 x7_z3 x8_z3 x12_z3 x13_z3 x14_z3 x15_z3 x16_z3 x17_z3 E_z3
        clear hq0 hqx hm18 hp18 hr18
        go_wp2_with fail
        refine beginW (S := fun W' => Ext z4 W') (S2 := fun W' => Pm P0 0 z4 W') 22 (by kernel_rfl) ?_
        intro wd hqx
        have hq0 : Ext z4 wd := hqx
        refine takeW (i := 0) (z := 22) (v := (.pointer (some ⟨X, 0, none⟩))) rfl rfl (by kernel_rfl) (by kernel_rfl) (by kernel_rfl) (by kernel_rfl) (by kernel_rfl) (by kernel_rfl) (fun _ _ _ h => h) (Or.inl ⟨rfl, fun _ _ => rfl⟩) hq0 (Ext.pm hq0 P0 0) ?_
        simp only [Act.put, List.setIfInBounds_toArray, List.set_cons_zero, List.set_cons_succ]
        refine takeW (i := 1) (z := 22) (v := (.pointer (some ⟨X, 0, none⟩))) rfl rfl (by kernel_rfl) (by kernel_rfl) (by kernel_rfl) (by kernel_rfl) (by kernel_rfl) (by kernel_rfl) (fun _ _ _ h => h) (Or.inl ⟨rfl, fun _ _ => rfl⟩) hq0 (Ext.pm hq0 P0 0) ?_
        simp only [Act.put, List.setIfInBounds_toArray, List.set_cons_zero, List.set_cons_succ]
        refine takeW (i := 2) (z := 22) (v := (.pointer (some ⟨X, 13, none⟩))) rfl rfl (by kernel_rfl) (by kernel_rfl) (by kernel_rfl) (by kernel_rfl) (by kernel_rfl) (by kernel_rfl) (fun _ _ _ h => h) (Or.inl ⟨rfl, fun _ _ => rfl⟩) hq0 (Ext.pm hq0 P0 0) ?_
        simp only [Act.put, List.setIfInBounds_toArray, List.set_cons_zero, List.set_cons_succ]
        refine takeW (i := 3) (z := 22) (v := (.pointer (some ⟨X, 13, none⟩))) rfl rfl (by kernel_rfl) (by kernel_rfl) (by kernel_rfl) (by kernel_rfl) (by kernel_rfl) (by kernel_rfl) (fun _ _ _ h => h) (Or.inl ⟨rfl, fun _ _ => rfl⟩) hq0 (Ext.pm hq0 P0 0) ?_
        simp only [Act.put, List.setIfInBounds_toArray, List.set_cons_zero, List.set_cons_succ]
        refine takeW (i := 4) (z := 22) (v := _) rfl rfl (by kernel_rfl) (by kernel_rfl) (by kernel_rfl) (by kernel_rfl) (by kernel_rfl) (by kernel_rfl) (fun _ _ _ h => h) (yieldsIf_cell rfl 3 _ rfl ⟨X, 13, none⟩ rfl (.int .i64 (W2.hi 13)) _ (fun W' hW' => cell_ext x13_z4 hW') Try.underlying3 rfl) hq0 (Ext.pm hq0 P0 0) ?_
        simp only [Act.put, List.setIfInBounds_toArray, List.set_cons_zero, List.set_cons_succ]
        refine takeW (i := 5) (z := 22) (v := (.pointer (some ⟨X, 0, none⟩))) rfl rfl (by kernel_rfl) (by kernel_rfl) (by kernel_rfl) (by kernel_rfl) (by kernel_rfl) (by kernel_rfl) (fun _ _ _ h => h) (Or.inl ⟨rfl, fun _ _ => rfl⟩) hq0 (Ext.pm hq0 P0 0) ?_
        simp only [Act.put, List.setIfInBounds_toArray, List.set_cons_zero, List.set_cons_succ]
        refine takeW (i := 6) (z := 22) (v := (.pointer (some ⟨X, 0, none⟩))) rfl rfl (by kernel_rfl) (by kernel_rfl) (by kernel_rfl) (by kernel_rfl) (by kernel_rfl) (by kernel_rfl) (fun _ _ _ h => h) (Or.inl ⟨rfl, fun _ _ => rfl⟩) hq0 (Ext.pm hq0 P0 0) ?_
        simp only [Act.put, List.setIfInBounds_toArray, List.set_cons_zero, List.set_cons_succ]
        refine takeW (i := 7) (z := 22) (v := (.pointer (some ⟨X, 13, none⟩))) rfl rfl (by kernel_rfl) (by kernel_rfl) (by kernel_rfl) (by kernel_rfl) (by kernel_rfl) (by kernel_rfl) (fun _ _ _ h => h) (Or.inl ⟨rfl, fun _ _ => rfl⟩) hq0 (Ext.pm hq0 P0 0) ?_
        simp only [Act.put, List.setIfInBounds_toArray, List.set_cons_zero, List.set_cons_succ]
        refine takeW (i := 8) (z := 22) (v := (.pointer (some ⟨X, 14, none⟩))) rfl rfl (by kernel_rfl) (by kernel_rfl) (by kernel_rfl) (by kernel_rfl) (by kernel_rfl) (by kernel_rfl) (fun _ _ _ h => h) (Or.inl ⟨rfl, fun _ _ => rfl⟩) hq0 (Ext.pm hq0 P0 0) ?_
        simp only [Act.put, List.setIfInBounds_toArray, List.set_cons_zero, List.set_cons_succ]
        refine takeW (i := 9) (z := 22) (v := _) rfl rfl (by kernel_rfl) (by kernel_rfl) (by kernel_rfl) (by kernel_rfl) (by kernel_rfl) (by kernel_rfl) (fun _ _ _ h => h) (yieldsIf_cell rfl 3 _ rfl ⟨X, 14, none⟩ rfl (.int .i64 (W2.hi 14)) _ (fun W' hW' => cell_ext x14_z4 hW') Try.underlying3 rfl) hq0 (Ext.pm hq0 P0 0) ?_
        simp only [Act.put, List.setIfInBounds_toArray, List.set_cons_zero, List.set_cons_succ]
        refine takeW (i := 10) (z := 22) (v := (.pointer (some ⟨X, 0, none⟩))) rfl rfl (by kernel_rfl) (by kernel_rfl) (by kernel_rfl) (by kernel_rfl) (by kernel_rfl) (by kernel_rfl) (fun _ _ _ h => h) (Or.inl ⟨rfl, fun _ _ => rfl⟩) hq0 (Ext.pm hq0 P0 0) ?_
        simp only [Act.put, List.setIfInBounds_toArray, List.set_cons_zero, List.set_cons_succ]
        refine takeW (i := 11) (z := 22) (v := (.pointer (some ⟨X, 0, none⟩))) rfl rfl (by kernel_rfl) (by kernel_rfl) (by kernel_rfl) (by kernel_rfl) (by kernel_rfl) (by kernel_rfl) (fun _ _ _ h => h) (Or.inl ⟨rfl, fun _ _ => rfl⟩) hq0 (Ext.pm hq0 P0 0) ?_
        simp only [Act.put, List.setIfInBounds_toArray, List.set_cons_zero, List.set_cons_succ]
        refine takeW (i := 12) (z := 22) (v := (.pointer (some ⟨X, 2, none⟩))) rfl rfl (by kernel_rfl) (by kernel_rfl) (by kernel_rfl) (by kernel_rfl) (by kernel_rfl) (by kernel_rfl) (fun _ _ _ h => h) (Or.inl ⟨rfl, fun _ _ => rfl⟩) hq0 (Ext.pm hq0 P0 0) ?_
        simp only [Act.put, List.setIfInBounds_toArray, List.set_cons_zero, List.set_cons_succ]
        refine takeW (i := 13) (z := 22) (v := (.pointer (some ⟨X, 4, none⟩))) rfl rfl (by kernel_rfl) (by kernel_rfl) (by kernel_rfl) (by kernel_rfl) (by kernel_rfl) (by kernel_rfl) (fun _ _ _ h => h) (Or.inl ⟨rfl, fun _ _ => rfl⟩) hq0 (Ext.pm hq0 P0 0) ?_
        simp only [Act.put, List.setIfInBounds_toArray, List.set_cons_zero, List.set_cons_succ]
        refine takeW (i := 14) (z := 22) (v := _) rfl rfl (by kernel_rfl) (by kernel_rfl) (by kernel_rfl) (by kernel_rfl) (by kernel_rfl) (by kernel_rfl) (fun _ _ _ h => h) (yieldsIf_cell rfl 3 _ rfl ⟨X, 4, none⟩ rfl (.int .i64 (W2.hi 4)) _ (fun W' hW' => cell_ext x4_z4 hW') Try.underlying3 rfl) hq0 (Ext.pm hq0 P0 0) ?_
        simp only [Act.put, List.setIfInBounds_toArray, List.set_cons_zero, List.set_cons_succ]
        refine takeW (i := 15) (z := 22) (v := (.pointer (some ⟨X, 0, none⟩))) rfl rfl (by kernel_rfl) (by kernel_rfl) (by kernel_rfl) (by kernel_rfl) (by kernel_rfl) (by kernel_rfl) (fun _ _ _ h => h) (Or.inl ⟨rfl, fun _ _ => rfl⟩) hq0 (Ext.pm hq0 P0 0) ?_
        simp only [Act.put, List.setIfInBounds_toArray, List.set_cons_zero, List.set_cons_succ]
        refine takeW (i := 16) (z := 22) (v := (.pointer (some ⟨X, 0, none⟩))) rfl rfl (by kernel_rfl) (by kernel_rfl) (by kernel_rfl) (by kernel_rfl) (by kernel_rfl) (by kernel_rfl) (fun _ _ _ h => h) (Or.inl ⟨rfl, fun _ _ => rfl⟩) hq0 (Ext.pm hq0 P0 0) ?_
        simp only [Act.put, List.setIfInBounds_toArray, List.set_cons_zero, List.set_cons_succ]
        refine takeW (i := 17) (z := 22) (v := (.pointer (some ⟨X, 13, none⟩))) rfl rfl (by kernel_rfl) (by kernel_rfl) (by kernel_rfl) (by kernel_rfl) (by kernel_rfl) (by kernel_rfl) (fun _ _ _ h => h) (Or.inl ⟨rfl, fun _ _ => rfl⟩) hq0 (Ext.pm hq0 P0 0) ?_
        simp only [Act.put, List.setIfInBounds_toArray, List.set_cons_zero, List.set_cons_succ]
        refine takeW (i := 18) (z := 22) (v := (.pointer (some ⟨X, 16, none⟩))) rfl rfl (by kernel_rfl) (by kernel_rfl) (by kernel_rfl) (by kernel_rfl) (by kernel_rfl) (by kernel_rfl) (fun _ _ _ h => h) (Or.inl ⟨rfl, fun _ _ => rfl⟩) hq0 (Ext.pm hq0 P0 0) ?_
        simp only [Act.put, List.setIfInBounds_toArray, List.set_cons_zero, List.set_cons_succ]
        refine takeW (i := 19) (z := 22) (v := _) rfl rfl (by kernel_rfl) (by kernel_rfl) (by kernel_rfl) (by kernel_rfl) (by kernel_rfl) (by kernel_rfl) (fun _ _ _ h => h) (yieldsIf_cell rfl 3 _ rfl ⟨X, 16, none⟩ rfl (.int .i64 (W2.hi 16)) _ (fun W' hW' => cell_ext x16_z4 hW') Try.underlying3 rfl) hq0 (Ext.pm hq0 P0 0) ?_
        simp only [Act.put, List.setIfInBounds_toArray, List.set_cons_zero, List.set_cons_succ]
        refine takeW (i := 20) (z := 22) (v := (.agg #[.int .i64 (W2.hi 13), .int .i64 (W2.hi 14), .int .i64 (W2.hi 4), .int .i64 (W2.hi 16)])) rfl rfl (by kernel_rfl) (by kernel_rfl) (by kernel_rfl) (by kernel_rfl) (by kernel_rfl) (by kernel_rfl) (fun _ _ _ h => h) (yieldsIf_build rfl 24 _ rfl [(0, .int .i64 (W2.hi 13)), (1, .int .i64 (W2.hi 14)), (2, .int .i64 (W2.hi 4)), (3, .int .i64 (W2.hi 16))] rfl #[.int .i64 (W2.hi 13), .int .i64 (W2.hi 14), .int .i64 (W2.hi 4), .int .i64 (W2.hi 16)] (by kernel_rfl)) hq0 (Ext.pm hq0 P0 0) ?_
        simp only [Act.put, List.setIfInBounds_toArray, List.set_cons_zero, List.set_cons_succ]
        refine takeW (i := 21) (z := 22) (v := (.pointer (some ⟨P0, 82, none⟩))) rfl rfl (by kernel_rfl) (by kernel_rfl) (by kernel_rfl) (by kernel_rfl) (by kernel_rfl) (by kernel_rfl) (fun _ _ _ h => h) (Or.inl ⟨rfl, fun _ _ => rfl⟩) hq0 (Ext.pm hq0 P0 0) ?_
        simp only [Act.put, List.setIfInBounds_toArray, List.set_cons_zero, List.set_cons_succ]
        refine runWl (z := 22) rfl rfl (by kernel_rfl) (fun K hK => ?_)
        refine wp_st_pv rfl 24 _ _ rfl P0 0 82 _ (hP_z4.ext hq0) _ #[.int .i64 (W2.hi 13), .int .i64 (W2.hi 14), .int .i64 (W2.hi 4), .int .i64 (W2.hi 16)] rfl rfl rfl (by exact (by decide : 82 + 4 ≤ 89)) (by kernel_rfl) rfl (fun ws22 hp22 hm22 => ?_)
        have hr22 : Pm P0 0 z4 ws22 := (Ext.pm hq0 P0 0).trans hm22
        refine hK.out _ _ hr22 (fun _ => ?_)
        try simp only [Act.put, List.setIfInBounds_toArray, List.set_cons_zero, List.set_cons_succ]
        clear hK K
        refine wpAnyH_done (by kernel_rfl) ?_ _
        generalize ws22 = z5 at *
        have hP_z5 : Pv z5 P0 0 (setL (setL ((L.set 43 (.bool false)).set 44 (.bool true)) 73 [.int .u64 (W2.hi 7), .int .u32 (W2.hi 8), .int .u64 (W2.hi 0), .int .u16 (pI L 0), .int .u16 0]) 82 [.int .i64 (W2.hi 13), .int .i64 (W2.hi 14), .int .i64 (W2.hi 4), .int .i64 (W2.hi 16)]) := hp22
        have E_z5 : Pm P0 0 z1 z5 := (E_z4.ext hq0).trans hm22
        have x0_z5 : z5.cell? ⟨X, 0, none⟩ = some (.int .u64 (W2.hi 0)) := cell_pm (cell_ext x0_z4 hq0) hm22 hXP
        have x4_z5 : z5.cell? ⟨X, 4, none⟩ = some (.int .i64 (W2.hi 4)) := cell_pm (cell_ext x4_z4 hq0) hm22 hXP
        have x7_z5 : z5.cell? ⟨X, 7, none⟩ = some (.int .u64 (W2.hi 7)) := cell_pm (cell_ext x7_z4 hq0) hm22 hXP
        have x8_z5 : z5.cell? ⟨X, 8, none⟩ = some (.int .u32 (W2.hi 8)) := cell_pm (cell_ext x8_z4 hq0) hm22 hXP
        have x12_z5 : z5.cell? ⟨X, 12, none⟩ = some (.int .i64 (W2.hi 12)) := cell_pm (cell_ext x12_z4 hq0) hm22 hXP
        have x13_z5 : z5.cell? ⟨X, 13, none⟩ = some (.int .i64 (W2.hi 13)) := cell_pm (cell_ext x13_z4 hq0) hm22 hXP
        have x14_z5 : z5.cell? ⟨X, 14, none⟩ = some (.int .i64 (W2.hi 14)) := cell_pm (cell_ext x14_z4 hq0) hm22 hXP
        have x15_z5 : z5.cell? ⟨X, 15, none⟩ = some (.int .i64 (W2.hi 15)) := cell_pm (cell_ext x15_z4 hq0) hm22 hXP
        have x16_z5 : z5.cell? ⟨X, 16, none⟩ = some (.int .i64 (W2.hi 16)) := cell_pm (cell_ext x16_z4 hq0) hm22 hXP
        have x17_z5 : z5.cell? ⟨X, 17, none⟩ = some (.slice (some ⟨g, 0, none⟩) B.np cap2) := cell_pm (cell_ext x17_z4 hq0) hm22 hXP
        clear hP_z4 x0_z4 x4_z4 x7_z4 x8_z4 x12_z4 x13_z4 x14_z4 x15_z4 x16_z4 x17_z4 E_z4
        clear hq0 hqx hm22 hp22 hr22
        have hP_z5 : Pv z5 P0 0 (dtlL W2 L) := hP_z5
        have HSD := Lib.hid (show dstL W2 n L = chL n (W2.hi 12) (W2.hi 0) (dtlL W2 L) from dst_eq HLEN.out)
        have HLL := HLEN
        clear HLEN
        obtain ⟨M, hM⟩ : ∃ M, dtlL W2 L = M := ⟨_, rfl⟩
        rw [hM] at hP_z5 HSD HT
        clear hM
        have hT := HT.out
        have HLEN := Lib.hid (tpL hT)
        obtain ⟨x86, e86⟩ : ∃ b, pI M 86 = b := ⟨_, rfl⟩
        have HE86 := Lib.hid e86
        have HL_86 := Lib.hid ((tpI hT 86 rfl).trans (show _ = some (.int .i64 x86) by rw [e86]))
        clear e86
        have HS_68 := Lib.hid (seg_of (L := M) (j := 68) (l := [.int .u64 (pI M 68), .int .u32 (pI M 69), .int .u64 (pI M 70), .int .u16 (pI M 71), .int .u16 (pI M 72)]) (by rw [tpL hT]; exact (by decide : 68 + 5 ≤ 89)) (fun i hi => by
          match i, hi with
          | 0, _ => exact tpI hT 68 rfl
          | 1, _ => exact tpI hT 69 rfl
          | 2, _ => exact tpI hT 70 rfl
          | 3, _ => exact tpI hT 71 rfl
          | 4, _ => exact tpI hT 72 rfl
          | i + 5, hi => simp at hi; omega))
        have HS_73 := Lib.hid (seg_of (L := M) (j := 73) (l := [.int .u64 (pI M 73), .int .u32 (pI M 74), .int .u64 (pI M 75), .int .u16 (pI M 76), .int .u16 (pI M 77)]) (by rw [tpL hT]; exact (by decide : 73 + 5 ≤ 89)) (fun i hi => by
          match i, hi with
          | 0, _ => exact tpI hT 73 rfl
          | 1, _ => exact tpI hT 74 rfl
          | 2, _ => exact tpI hT 75 rfl
          | 3, _ => exact tpI hT 76 rfl
          | 4, _ => exact tpI hT 77 rfl
          | i + 5, hi => simp at hi; omega))
        have HS_78 := Lib.hid (seg_of (L := M) (j := 78) (l := [.int .i64 (pI M 78), .int .i64 (pI M 79), .int .i64 (pI M 80), .int .i64 (pI M 81)]) (by rw [tpL hT]; exact (by decide : 78 + 4 ≤ 89)) (fun i hi => by
          match i, hi with
          | 0, _ => exact tpI hT 78 rfl
          | 1, _ => exact tpI hT 79 rfl
          | 2, _ => exact tpI hT 80 rfl
          | 3, _ => exact tpI hT 81 rfl
          | i + 4, hi => simp at hi; omega))
        have HS_82 := Lib.hid (seg_of (L := M) (j := 82) (l := [.int .i64 (pI M 82), .int .i64 (pI M 83), .int .i64 (pI M 84), .int .i64 (pI M 85)]) (by rw [tpL hT]; exact (by decide : 82 + 4 ≤ 89)) (fun i hi => by
          match i, hi with
          | 0, _ => exact tpI hT 82 rfl
          | 1, _ => exact tpI hT 83 rfl
          | 2, _ => exact tpI hT 84 rfl
          | 3, _ => exact tpI hT 85 rfl
          | i + 4, hi => simp at hi; omega))
        have g70 : 0 ≤ pI M 70 ∧ pI M 70 < 18446744073709551616 := wf_u64 (tpW hT 70 rfl)
        have HL_70 := Lib.hid (tpI hT 70 rfl)
        clear hT
        obtain ⟨ls, hls⟩ : ∃ t, lsL M = t := ⟨_, rfl⟩
        obtain ⟨sm, hsm⟩ : ∃ t, smL M = t := ⟨_, rfl⟩
        obtain ⟨te, hte⟩ : ∃ t, teL M = t := ⟨_, rfl⟩
        obtain ⟨sa, hsa⟩ : ∃ t, sameA (pI M 70) (W2.hi 0) = t := ⟨_, rfl⟩
        have HLS := Lib.hid hls
        have HSM := Lib.hid hsm
        have HTE := Lib.hid hte
        have HSA := Lib.hid hsa
        clear hls hsm hte hsa
        go_wp2_with (first
          | fail
          | ((with_reducible refine at_load 28 ?_); refine wpList_load_mid rfl 28 _ rfl P0 (73) rfl [.int .u64 (pI M 73), .int .u32 (pI M 74), .int .u64 (pI M 75), .int .u16 (pI M 76), .int .u16 (pI M 77)] _ (hP_z5.range (j := 73) (n := 5) HS_73.out (by decide)) Try.underlying28 rfl (by kernel_rfl) ?_)
          | ((with_reducible refine at_load 28 ?_); refine wpList_load_mid rfl 28 _ rfl P0 (68) rfl [.int .u64 (pI M 68), .int .u32 (pI M 69), .int .u64 (pI M 70), .int .u16 (pI M 71), .int .u16 (pI M 72)] _ (hP_z5.range (j := 68) (n := 5) HS_68.out (by decide)) Try.underlying28 rfl (by kernel_rfl) ?_))
        refine (asb (ref_less _ _ _ _ _ _ _ _ _ _ _) ((c4_ls M).symm.trans HLS.out)).mono ?_
        rintro e z6 ⟨rfl, hx⟩
        have E_z6 : Pm P0 0 z1 z6 := E_z5.ext hx
        have hP_z6 : Pv z6 P0 0 M := hP_z5.ext hx
        have x0_z6 : z6.cell? ⟨X, 0, none⟩ = some (.int .u64 (W2.hi 0)) := cell_ext x0_z5 hx
        have x4_z6 : z6.cell? ⟨X, 4, none⟩ = some (.int .i64 (W2.hi 4)) := cell_ext x4_z5 hx
        have x7_z6 : z6.cell? ⟨X, 7, none⟩ = some (.int .u64 (W2.hi 7)) := cell_ext x7_z5 hx
        have x8_z6 : z6.cell? ⟨X, 8, none⟩ = some (.int .u32 (W2.hi 8)) := cell_ext x8_z5 hx
        have x12_z6 : z6.cell? ⟨X, 12, none⟩ = some (.int .i64 (W2.hi 12)) := cell_ext x12_z5 hx
        have x13_z6 : z6.cell? ⟨X, 13, none⟩ = some (.int .i64 (W2.hi 13)) := cell_ext x13_z5 hx
        have x14_z6 : z6.cell? ⟨X, 14, none⟩ = some (.int .i64 (W2.hi 14)) := cell_ext x14_z5 hx
        have x15_z6 : z6.cell? ⟨X, 15, none⟩ = some (.int .i64 (W2.hi 15)) := cell_ext x15_z5 hx
        have x16_z6 : z6.cell? ⟨X, 16, none⟩ = some (.int .i64 (W2.hi 16)) := cell_ext x16_z5 hx
        have x17_z6 : z6.cell? ⟨X, 17, none⟩ = some (.slice (some ⟨g, 0, none⟩) B.np cap2) := cell_ext x17_z5 hx
        clear hP_z5 x0_z5 x4_z5 x7_z5 x8_z5 x12_z5 x13_z5 x14_z5 x15_z5 x16_z5 x17_z5 E_z5
        clear hx
        go_wp2_with (first
          | fail
          | ((with_reducible refine at_load 28 ?_); refine wpList_load_mid rfl 28 _ rfl P0 (73) rfl [.int .u64 (pI M 73), .int .u32 (pI M 74), .int .u64 (pI M 75), .int .u16 (pI M 76), .int .u16 (pI M 77)] _ (hP_z6.range (j := 73) (n := 5) HS_73.out (by decide)) Try.underlying28 rfl (by kernel_rfl) ?_)
          | ((with_reducible refine at_load 28 ?_); refine wpList_load_mid rfl 28 _ rfl P0 (68) rfl [.int .u64 (pI M 68), .int .u32 (pI M 69), .int .u64 (pI M 70), .int .u16 (pI M 71), .int .u16 (pI M 72)] _ (hP_z6.range (j := 68) (n := 5) HS_68.out (by decide)) Try.underlying28 rfl (by kernel_rfl) ?_))
        refine (asb (ref_same _ _ _ _ _ _ _ _ _ _ _) ((c4_sm M).symm.trans HSM.out)).mono ?_
        rintro e z7 ⟨rfl, hx⟩
        have E_z7 : Pm P0 0 z1 z7 := E_z6.ext hx
        have hP_z7 : Pv z7 P0 0 M := hP_z6.ext hx
        have x0_z7 : z7.cell? ⟨X, 0, none⟩ = some (.int .u64 (W2.hi 0)) := cell_ext x0_z6 hx
        have x4_z7 : z7.cell? ⟨X, 4, none⟩ = some (.int .i64 (W2.hi 4)) := cell_ext x4_z6 hx
        have x7_z7 : z7.cell? ⟨X, 7, none⟩ = some (.int .u64 (W2.hi 7)) := cell_ext x7_z6 hx
        have x8_z7 : z7.cell? ⟨X, 8, none⟩ = some (.int .u32 (W2.hi 8)) := cell_ext x8_z6 hx
        have x12_z7 : z7.cell? ⟨X, 12, none⟩ = some (.int .i64 (W2.hi 12)) := cell_ext x12_z6 hx
        have x13_z7 : z7.cell? ⟨X, 13, none⟩ = some (.int .i64 (W2.hi 13)) := cell_ext x13_z6 hx
        have x14_z7 : z7.cell? ⟨X, 14, none⟩ = some (.int .i64 (W2.hi 14)) := cell_ext x14_z6 hx
        have x15_z7 : z7.cell? ⟨X, 15, none⟩ = some (.int .i64 (W2.hi 15)) := cell_ext x15_z6 hx
        have x16_z7 : z7.cell? ⟨X, 16, none⟩ = some (.int .i64 (W2.hi 16)) := cell_ext x16_z6 hx
        have x17_z7 : z7.cell? ⟨X, 17, none⟩ = some (.slice (some ⟨g, 0, none⟩) B.np cap2) := cell_ext x17_z6 hx
        clear hP_z6 x0_z6 x4_z6 x7_z6 x8_z6 x12_z6 x13_z6 x14_z6 x15_z6 x16_z6 x17_z6 E_z6
        clear hx
        have p86_z7 : z7.cell? ⟨P0, 86, none⟩ = some (.int .i64 x86) := (hP_z7.cell (j := 86) (by decide)).trans HL_86.out
        by_cases e0 : x86 = 0
        · subst e0
          as_aux_lemma =>
            go_upto_region 44 with (first
              | fail
              | ((with_reducible refine at_store 3 ?_); refine st_pv rfl rfl 3 _ _ rfl P0 0 88 _ hP_z7 _ #[.int .i64 0] rfl rfl rfl (by exact (by decide : 88 + 1 ≤ 89)) (by kernel_rfl) rfl ?_
                 intro z8 hp hm
                 replace hp := pv_one hp HLEN.out (by decide)
                 have hP_z8 : Pv z8 P0 0 (M.set 88 (.int .i64 0)) := hp
                 have E_z8 : Pm P0 0 z1 z8 := E_z7.trans hm
                 have x0_z8 : z8.cell? ⟨X, 0, none⟩ = some (.int .u64 (W2.hi 0)) := cell_pm x0_z7 hm hXP
                 have x4_z8 : z8.cell? ⟨X, 4, none⟩ = some (.int .i64 (W2.hi 4)) := cell_pm x4_z7 hm hXP
                 have x7_z8 : z8.cell? ⟨X, 7, none⟩ = some (.int .u64 (W2.hi 7)) := cell_pm x7_z7 hm hXP
                 have x8_z8 : z8.cell? ⟨X, 8, none⟩ = some (.int .u32 (W2.hi 8)) := cell_pm x8_z7 hm hXP
                 have x12_z8 : z8.cell? ⟨X, 12, none⟩ = some (.int .i64 (W2.hi 12)) := cell_pm x12_z7 hm hXP
                 have x13_z8 : z8.cell? ⟨X, 13, none⟩ = some (.int .i64 (W2.hi 13)) := cell_pm x13_z7 hm hXP
                 have x14_z8 : z8.cell? ⟨X, 14, none⟩ = some (.int .i64 (W2.hi 14)) := cell_pm x14_z7 hm hXP
                 have x15_z8 : z8.cell? ⟨X, 15, none⟩ = some (.int .i64 (W2.hi 15)) := cell_pm x15_z7 hm hXP
                 have x16_z8 : z8.cell? ⟨X, 16, none⟩ = some (.int .i64 (W2.hi 16)) := cell_pm x16_z7 hm hXP
                 have x17_z8 : z8.cell? ⟨X, 17, none⟩ = some (.slice (some ⟨g, 0, none⟩) B.np cap2) := cell_pm x17_z7 hm hXP
                 clear hP_z7 x0_z7 x4_z7 x7_z7 x8_z7 x12_z7 x13_z7 x14_z7 x15_z7 x16_z7 x17_z7 E_z7 p86_z7
                 clear hp hm))
            have hLX : (M.set 88 (.int .i64 0)) = dstL W2 n L := by
              rw [HSD.out]
              exact (ch_0 HE86.out).symm
            have hPf := hP_z8
            rw [hLX] at hPf
            clear hLX
            have hrw := pv_row HQ.out HLL.out E_z8 hPf
            have hlen := Lib.hid hPf.len
            have hBz := HB.out.keep (fun n _ hn => (E_z8.1.heap (Nat.lt_of_lt_of_le hn HX1.out.size) (show ¬ n = P0 by have := HW0.out; omega)).trans (HX1.out.block n hn))
            have hMz : Mut F w z8 := HM.out.trans (mut_new (HX1.out.mut F) E_z8.1 (by have := HW0.out; omega))
            have hone := Lib.hid (show ∀ v ∈ (dstL W2 n L : List Value), v.oneCell' = true from HT0.out.one)
            have c17y := x17_z8
            obtain ⟨N, hN⟩ : ∃ N, dstL W2 n L = N := ⟨_, rfl⟩
            rw [hN] at hrw hlen hone HS
            clear hN hPf
            refine wp_region_tail 7 (by kernel_rfl) (by kernel_rfl) ?_
            intro w9 hw9
            have hx9 : Ext z8 w9 := by
              rw [hw9]
              exact (Ext.refl _).drew
            have HB2 := Lib.hid ((hx9.block _ (heap_lt hrw)).trans hrw)
            have d17 := cell_ext c17y hx9
            have hBy := Lib.hid (hBz.ext hx9)
            have hMy := Lib.hid (hMz.trans (hx9.mut F))
            have hth := Lib.hid (hBy.out.there hk)
            clear hw9 hrw c17y hBz hMz hx9
            simp only [List.take_succ_cons, List.take_zero, List.drop_succ_cons, List.drop_zero]
            iterate 5 still_step
            refine wpStill_load_row rfl 51 _ rfl P0 rfl _ _ _ HB2.out Try.underlying51 rfl (by rw [List.size_toArray, hlen.out]; exact size_port) ?_
            simp only [ps]
            iterate 1 still_step
            refine wpStill_nil ?_
            refine wpList_store_mid rfl 51 _ _ rfl g (n * 89) _ rfl rfl (by rw [List.size_toArray, hlen.out]; exact hth.out) (by rw [List.size_toArray, hlen.out]; exact size_port) (all_oneCell_toArray hone.out) ?_
            go_wp2_with fail
            go_roundw
            case rel => exact ⟨n + 1, by omega, by go_num, by rw [HS.out]; exact hBy.out.setPort hk (l := N) hlen.out, Mut.setCells (.inl hBy.out.F2) _ _ hMy.out⟩
            case measure => simp [intOf]; omega
        · by_cases e1 : x86 = 1
          · subst e1
            as_aux_lemma =>
              go_upto_region 44 with (first
                | fail
                | ((with_reducible refine at_store 3 ?_); refine st_pv rfl rfl 3 _ _ rfl P0 0 88 _ hP_z7 _ #[.int .i64 4] rfl rfl rfl (by exact (by decide : 88 + 1 ≤ 89)) (by kernel_rfl) rfl ?_
                   intro z8 hp hm
                   replace hp := pv_one hp HLEN.out (by decide)
                   have hP_z8 : Pv z8 P0 0 (M.set 88 (.int .i64 4)) := hp
                   have E_z8 : Pm P0 0 z1 z8 := E_z7.trans hm
                   have x0_z8 : z8.cell? ⟨X, 0, none⟩ = some (.int .u64 (W2.hi 0)) := cell_pm x0_z7 hm hXP
                   have x4_z8 : z8.cell? ⟨X, 4, none⟩ = some (.int .i64 (W2.hi 4)) := cell_pm x4_z7 hm hXP
                   have x7_z8 : z8.cell? ⟨X, 7, none⟩ = some (.int .u64 (W2.hi 7)) := cell_pm x7_z7 hm hXP
                   have x8_z8 : z8.cell? ⟨X, 8, none⟩ = some (.int .u32 (W2.hi 8)) := cell_pm x8_z7 hm hXP
                   have x12_z8 : z8.cell? ⟨X, 12, none⟩ = some (.int .i64 (W2.hi 12)) := cell_pm x12_z7 hm hXP
                   have x13_z8 : z8.cell? ⟨X, 13, none⟩ = some (.int .i64 (W2.hi 13)) := cell_pm x13_z7 hm hXP
                   have x14_z8 : z8.cell? ⟨X, 14, none⟩ = some (.int .i64 (W2.hi 14)) := cell_pm x14_z7 hm hXP
                   have x15_z8 : z8.cell? ⟨X, 15, none⟩ = some (.int .i64 (W2.hi 15)) := cell_pm x15_z7 hm hXP
                   have x16_z8 : z8.cell? ⟨X, 16, none⟩ = some (.int .i64 (W2.hi 16)) := cell_pm x16_z7 hm hXP
                   have x17_z8 : z8.cell? ⟨X, 17, none⟩ = some (.slice (some ⟨g, 0, none⟩) B.np cap2) := cell_pm x17_z7 hm hXP
                   clear hP_z7 x0_z7 x4_z7 x7_z7 x8_z7 x12_z7 x13_z7 x14_z7 x15_z7 x16_z7 x17_z7 E_z7 p86_z7
                   clear hp hm)
                | ((with_reducible refine at_store 4 ?_); refine st_pv rfl rfl 4 _ _ rfl P0 0 50 _ hP_z8 _ #[.bool true] rfl rfl rfl (by exact (by decide : 50 + 1 ≤ 89)) (by kernel_rfl) rfl ?_
                   intro z9 hp hm
                   replace hp := pv_one hp (len_set' HLEN.out) (by decide)
                   have hP_z9 : Pv z9 P0 0 ((M.set 88 (.int .i64 4)).set 50 (.bool true)) := hp
                   have E_z9 : Pm P0 0 z1 z9 := E_z8.trans hm
                   have x0_z9 : z9.cell? ⟨X, 0, none⟩ = some (.int .u64 (W2.hi 0)) := cell_pm x0_z8 hm hXP
                   have x4_z9 : z9.cell? ⟨X, 4, none⟩ = some (.int .i64 (W2.hi 4)) := cell_pm x4_z8 hm hXP
                   have x7_z9 : z9.cell? ⟨X, 7, none⟩ = some (.int .u64 (W2.hi 7)) := cell_pm x7_z8 hm hXP
                   have x8_z9 : z9.cell? ⟨X, 8, none⟩ = some (.int .u32 (W2.hi 8)) := cell_pm x8_z8 hm hXP
                   have x12_z9 : z9.cell? ⟨X, 12, none⟩ = some (.int .i64 (W2.hi 12)) := cell_pm x12_z8 hm hXP
                   have x13_z9 : z9.cell? ⟨X, 13, none⟩ = some (.int .i64 (W2.hi 13)) := cell_pm x13_z8 hm hXP
                   have x14_z9 : z9.cell? ⟨X, 14, none⟩ = some (.int .i64 (W2.hi 14)) := cell_pm x14_z8 hm hXP
                   have x15_z9 : z9.cell? ⟨X, 15, none⟩ = some (.int .i64 (W2.hi 15)) := cell_pm x15_z8 hm hXP
                   have x16_z9 : z9.cell? ⟨X, 16, none⟩ = some (.int .i64 (W2.hi 16)) := cell_pm x16_z8 hm hXP
                   have x17_z9 : z9.cell? ⟨X, 17, none⟩ = some (.slice (some ⟨g, 0, none⟩) B.np cap2) := cell_pm x17_z8 hm hXP
                   clear hP_z8 x0_z8 x4_z8 x7_z8 x8_z8 x12_z8 x13_z8 x14_z8 x15_z8 x16_z8 x17_z8 E_z8
                   clear hp hm))
              have hLX : ((M.set 88 (.int .i64 4)).set 50 (.bool true)) = dstL W2 n L := by
                rw [HSD.out]
                exact (ch_1 HE86.out).symm
              have hPf := hP_z9
              rw [hLX] at hPf
              clear hLX
              have hrw := pv_row HQ.out HLL.out E_z9 hPf
              have hlen := Lib.hid hPf.len
              have hBz := HB.out.keep (fun n _ hn => (E_z9.1.heap (Nat.lt_of_lt_of_le hn HX1.out.size) (show ¬ n = P0 by have := HW0.out; omega)).trans (HX1.out.block n hn))
              have hMz : Mut F w z9 := HM.out.trans (mut_new (HX1.out.mut F) E_z9.1 (by have := HW0.out; omega))
              have hone := Lib.hid (show ∀ v ∈ (dstL W2 n L : List Value), v.oneCell' = true from HT0.out.one)
              have c17y := x17_z9
              obtain ⟨N, hN⟩ : ∃ N, dstL W2 n L = N := ⟨_, rfl⟩
              rw [hN] at hrw hlen hone HS
              clear hN hPf
              refine wp_region_tail 7 (by kernel_rfl) (by kernel_rfl) ?_
              intro w9 hw9
              have hx9 : Ext z9 w9 := by
                rw [hw9]
                exact (Ext.refl _).drew
              have HB2 := Lib.hid ((hx9.block _ (heap_lt hrw)).trans hrw)
              have d17 := cell_ext c17y hx9
              have hBy := Lib.hid (hBz.ext hx9)
              have hMy := Lib.hid (hMz.trans (hx9.mut F))
              have hth := Lib.hid (hBy.out.there hk)
              clear hw9 hrw c17y hBz hMz hx9
              simp only [List.take_succ_cons, List.take_zero, List.drop_succ_cons, List.drop_zero]
              iterate 5 still_step
              refine wpStill_load_row rfl 51 _ rfl P0 rfl _ _ _ HB2.out Try.underlying51 rfl (by rw [List.size_toArray, hlen.out]; exact size_port) ?_
              simp only [ps]
              iterate 1 still_step
              refine wpStill_nil ?_
              refine wpList_store_mid rfl 51 _ _ rfl g (n * 89) _ rfl rfl (by rw [List.size_toArray, hlen.out]; exact hth.out) (by rw [List.size_toArray, hlen.out]; exact size_port) (all_oneCell_toArray hone.out) ?_
              go_wp2_with fail
              go_roundw
              case rel => exact ⟨n + 1, by omega, by go_num, by rw [HS.out]; exact hBy.out.setPort hk (l := N) hlen.out, Mut.setCells (.inl hBy.out.F2) _ _ hMy.out⟩
              case measure => simp [intOf]; omega
          · by_cases e2 : x86 = 2
            · subst e2
              cases sm
              · as_aux_lemma =>
                  go_upto_region 44 with (first
                    | fail
                    | ((with_reducible refine at_store 3 ?_); refine st_pv rfl rfl 3 _ _ rfl P0 0 88 _ hP_z7 _ #[.int .i64 4] rfl rfl rfl (by exact (by decide : 88 + 1 ≤ 89)) (by kernel_rfl) rfl ?_
                       intro z8 hp hm
                       replace hp := pv_one hp HLEN.out (by decide)
                       have hP_z8 : Pv z8 P0 0 (M.set 88 (.int .i64 4)) := hp
                       have E_z8 : Pm P0 0 z1 z8 := E_z7.trans hm
                       have x0_z8 : z8.cell? ⟨X, 0, none⟩ = some (.int .u64 (W2.hi 0)) := cell_pm x0_z7 hm hXP
                       have x4_z8 : z8.cell? ⟨X, 4, none⟩ = some (.int .i64 (W2.hi 4)) := cell_pm x4_z7 hm hXP
                       have x7_z8 : z8.cell? ⟨X, 7, none⟩ = some (.int .u64 (W2.hi 7)) := cell_pm x7_z7 hm hXP
                       have x8_z8 : z8.cell? ⟨X, 8, none⟩ = some (.int .u32 (W2.hi 8)) := cell_pm x8_z7 hm hXP
                       have x12_z8 : z8.cell? ⟨X, 12, none⟩ = some (.int .i64 (W2.hi 12)) := cell_pm x12_z7 hm hXP
                       have x13_z8 : z8.cell? ⟨X, 13, none⟩ = some (.int .i64 (W2.hi 13)) := cell_pm x13_z7 hm hXP
                       have x14_z8 : z8.cell? ⟨X, 14, none⟩ = some (.int .i64 (W2.hi 14)) := cell_pm x14_z7 hm hXP
                       have x15_z8 : z8.cell? ⟨X, 15, none⟩ = some (.int .i64 (W2.hi 15)) := cell_pm x15_z7 hm hXP
                       have x16_z8 : z8.cell? ⟨X, 16, none⟩ = some (.int .i64 (W2.hi 16)) := cell_pm x16_z7 hm hXP
                       have x17_z8 : z8.cell? ⟨X, 17, none⟩ = some (.slice (some ⟨g, 0, none⟩) B.np cap2) := cell_pm x17_z7 hm hXP
                       clear hP_z7 x0_z7 x4_z7 x7_z7 x8_z7 x12_z7 x13_z7 x14_z7 x15_z7 x16_z7 x17_z7 E_z7 p86_z7
                       clear hp hm)
                    | ((with_reducible refine at_store 4 ?_); refine st_pv rfl rfl 4 _ _ rfl P0 0 50 _ hP_z8 _ #[.bool true] rfl rfl rfl (by exact (by decide : 50 + 1 ≤ 89)) (by kernel_rfl) rfl ?_
                       intro z9 hp hm
                       replace hp := pv_one hp (len_set' HLEN.out) (by decide)
                       have hP_z9 : Pv z9 P0 0 ((M.set 88 (.int .i64 4)).set 50 (.bool true)) := hp
                       have E_z9 : Pm P0 0 z1 z9 := E_z8.trans hm
                       have x0_z9 : z9.cell? ⟨X, 0, none⟩ = some (.int .u64 (W2.hi 0)) := cell_pm x0_z8 hm hXP
                       have x4_z9 : z9.cell? ⟨X, 4, none⟩ = some (.int .i64 (W2.hi 4)) := cell_pm x4_z8 hm hXP
                       have x7_z9 : z9.cell? ⟨X, 7, none⟩ = some (.int .u64 (W2.hi 7)) := cell_pm x7_z8 hm hXP
                       have x8_z9 : z9.cell? ⟨X, 8, none⟩ = some (.int .u32 (W2.hi 8)) := cell_pm x8_z8 hm hXP
                       have x12_z9 : z9.cell? ⟨X, 12, none⟩ = some (.int .i64 (W2.hi 12)) := cell_pm x12_z8 hm hXP
                       have x13_z9 : z9.cell? ⟨X, 13, none⟩ = some (.int .i64 (W2.hi 13)) := cell_pm x13_z8 hm hXP
                       have x14_z9 : z9.cell? ⟨X, 14, none⟩ = some (.int .i64 (W2.hi 14)) := cell_pm x14_z8 hm hXP
                       have x15_z9 : z9.cell? ⟨X, 15, none⟩ = some (.int .i64 (W2.hi 15)) := cell_pm x15_z8 hm hXP
                       have x16_z9 : z9.cell? ⟨X, 16, none⟩ = some (.int .i64 (W2.hi 16)) := cell_pm x16_z8 hm hXP
                       have x17_z9 : z9.cell? ⟨X, 17, none⟩ = some (.slice (some ⟨g, 0, none⟩) B.np cap2) := cell_pm x17_z8 hm hXP
                       clear hP_z8 x0_z8 x4_z8 x7_z8 x8_z8 x12_z8 x13_z8 x14_z8 x15_z8 x16_z8 x17_z8 E_z8
                       clear hp hm))
                  have hLX : ((M.set 88 (.int .i64 4)).set 50 (.bool true)) = dstL W2 n L := by
                    rw [HSD.out]
                    exact ((ch_2 HE86.out).trans (by rw [HSM.out]; cases teL M <;> rfl)).symm
                  have hPf := hP_z9
                  rw [hLX] at hPf
                  clear hLX
                  have hrw := pv_row HQ.out HLL.out E_z9 hPf
                  have hlen := Lib.hid hPf.len
                  have hBz := HB.out.keep (fun n _ hn => (E_z9.1.heap (Nat.lt_of_lt_of_le hn HX1.out.size) (show ¬ n = P0 by have := HW0.out; omega)).trans (HX1.out.block n hn))
                  have hMz : Mut F w z9 := HM.out.trans (mut_new (HX1.out.mut F) E_z9.1 (by have := HW0.out; omega))
                  have hone := Lib.hid (show ∀ v ∈ (dstL W2 n L : List Value), v.oneCell' = true from HT0.out.one)
                  have c17y := x17_z9
                  obtain ⟨N, hN⟩ : ∃ N, dstL W2 n L = N := ⟨_, rfl⟩
                  rw [hN] at hrw hlen hone HS
                  clear hN hPf
                  refine wp_region_tail 7 (by kernel_rfl) (by kernel_rfl) ?_
                  intro w9 hw9
                  have hx9 : Ext z9 w9 := by
                    rw [hw9]
                    exact (Ext.refl _).drew
                  have HB2 := Lib.hid ((hx9.block _ (heap_lt hrw)).trans hrw)
                  have d17 := cell_ext c17y hx9
                  have hBy := Lib.hid (hBz.ext hx9)
                  have hMy := Lib.hid (hMz.trans (hx9.mut F))
                  have hth := Lib.hid (hBy.out.there hk)
                  clear hw9 hrw c17y hBz hMz hx9
                  simp only [List.take_succ_cons, List.take_zero, List.drop_succ_cons, List.drop_zero]
                  iterate 5 still_step
                  refine wpStill_load_row rfl 51 _ rfl P0 rfl _ _ _ HB2.out Try.underlying51 rfl (by rw [List.size_toArray, hlen.out]; exact size_port) ?_
                  simp only [ps]
                  iterate 1 still_step
                  refine wpStill_nil ?_
                  refine wpList_store_mid rfl 51 _ _ rfl g (n * 89) _ rfl rfl (by rw [List.size_toArray, hlen.out]; exact hth.out) (by rw [List.size_toArray, hlen.out]; exact size_port) (all_oneCell_toArray hone.out) ?_
                  go_wp2_with fail
                  go_roundw
                  case rel => exact ⟨n + 1, by omega, by go_num, by rw [HS.out]; exact hBy.out.setPort hk (l := N) hlen.out, Mut.setCells (.inl hBy.out.F2) _ _ hMy.out⟩
                  case measure => simp [intOf]; omega
              · cases te
                · as_aux_lemma =>
                    have HNT := Lib.hid (fun w => (neq_times w (pI M 78) (pI M 79) (pI M 80) (pI M 81) (pI M 82) (pI M 83) (pI M 84) (pI M 85)).trans (show _ = Result.ok (.bool true) w by rw [show (pI M 78 == pI M 82 && pI M 79 == pI M 83 && pI M 80 == pI M 84 && pI M 81 == pI M 85) = false from HTE.out]; rfl))
                    have hnt := HNT.out
                    go_upto_region 44 with (first
                      | fail
                      | ((with_reducible refine at_store 3 ?_); refine st_pv rfl rfl 3 _ _ rfl P0 0 88 _ hP_z7 _ #[.int .i64 4] rfl rfl rfl (by exact (by decide : 88 + 1 ≤ 89)) (by kernel_rfl) rfl ?_
                         intro z8 hp hm
                         replace hp := pv_one hp HLEN.out (by decide)
                         have hP_z8 : Pv z8 P0 0 (M.set 88 (.int .i64 4)) := hp
                         have E_z8 : Pm P0 0 z1 z8 := E_z7.trans hm
                         have x0_z8 : z8.cell? ⟨X, 0, none⟩ = some (.int .u64 (W2.hi 0)) := cell_pm x0_z7 hm hXP
                         have x4_z8 : z8.cell? ⟨X, 4, none⟩ = some (.int .i64 (W2.hi 4)) := cell_pm x4_z7 hm hXP
                         have x7_z8 : z8.cell? ⟨X, 7, none⟩ = some (.int .u64 (W2.hi 7)) := cell_pm x7_z7 hm hXP
                         have x8_z8 : z8.cell? ⟨X, 8, none⟩ = some (.int .u32 (W2.hi 8)) := cell_pm x8_z7 hm hXP
                         have x12_z8 : z8.cell? ⟨X, 12, none⟩ = some (.int .i64 (W2.hi 12)) := cell_pm x12_z7 hm hXP
                         have x13_z8 : z8.cell? ⟨X, 13, none⟩ = some (.int .i64 (W2.hi 13)) := cell_pm x13_z7 hm hXP
                         have x14_z8 : z8.cell? ⟨X, 14, none⟩ = some (.int .i64 (W2.hi 14)) := cell_pm x14_z7 hm hXP
                         have x15_z8 : z8.cell? ⟨X, 15, none⟩ = some (.int .i64 (W2.hi 15)) := cell_pm x15_z7 hm hXP
                         have x16_z8 : z8.cell? ⟨X, 16, none⟩ = some (.int .i64 (W2.hi 16)) := cell_pm x16_z7 hm hXP
                         have x17_z8 : z8.cell? ⟨X, 17, none⟩ = some (.slice (some ⟨g, 0, none⟩) B.np cap2) := cell_pm x17_z7 hm hXP
                         clear hP_z7 x0_z7 x4_z7 x7_z7 x8_z7 x12_z7 x13_z7 x14_z7 x15_z7 x16_z7 x17_z7 E_z7 p86_z7
                         clear hp hm)
                      | ((with_reducible refine at_loadG 24 ?_); refine wpList_load_midG rfl 24 _ rfl P0 (78) rfl [.int .i64 (pI M 78), .int .i64 (pI M 79), .int .i64 (pI M 80), .int .i64 (pI M 81)] _ (hP_z8.range (j := 78) (n := 4) ((seg_ne (by decide)).trans HS_78.out) (by decide)) Try.underlying24 rfl (by kernel_rfl) ?_)
                      | ((with_reducible refine at_loadG 24 ?_); refine wpList_load_midG rfl 24 _ rfl P0 (82) rfl [.int .i64 (pI M 82), .int .i64 (pI M 83), .int .i64 (pI M 84), .int .i64 (pI M 85)] _ (hP_z8.range (j := 82) (n := 4) ((seg_ne (by decide)).trans HS_82.out) (by decide)) Try.underlying24 rfl (by kernel_rfl) ?_)
                      | ((with_reducible refine at_store 4 ?_); refine st_pv rfl rfl 4 _ _ rfl P0 0 50 _ hP_z8 _ #[.bool true] rfl rfl rfl (by exact (by decide : 50 + 1 ≤ 89)) (by kernel_rfl) rfl ?_
                         intro z9 hp hm
                         replace hp := pv_one hp (len_set' HLEN.out) (by decide)
                         have hP_z9 : Pv z9 P0 0 ((M.set 88 (.int .i64 4)).set 50 (.bool true)) := hp
                         have E_z9 : Pm P0 0 z1 z9 := E_z8.trans hm
                         have x0_z9 : z9.cell? ⟨X, 0, none⟩ = some (.int .u64 (W2.hi 0)) := cell_pm x0_z8 hm hXP
                         have x4_z9 : z9.cell? ⟨X, 4, none⟩ = some (.int .i64 (W2.hi 4)) := cell_pm x4_z8 hm hXP
                         have x7_z9 : z9.cell? ⟨X, 7, none⟩ = some (.int .u64 (W2.hi 7)) := cell_pm x7_z8 hm hXP
                         have x8_z9 : z9.cell? ⟨X, 8, none⟩ = some (.int .u32 (W2.hi 8)) := cell_pm x8_z8 hm hXP
                         have x12_z9 : z9.cell? ⟨X, 12, none⟩ = some (.int .i64 (W2.hi 12)) := cell_pm x12_z8 hm hXP
                         have x13_z9 : z9.cell? ⟨X, 13, none⟩ = some (.int .i64 (W2.hi 13)) := cell_pm x13_z8 hm hXP
                         have x14_z9 : z9.cell? ⟨X, 14, none⟩ = some (.int .i64 (W2.hi 14)) := cell_pm x14_z8 hm hXP
                         have x15_z9 : z9.cell? ⟨X, 15, none⟩ = some (.int .i64 (W2.hi 15)) := cell_pm x15_z8 hm hXP
                         have x16_z9 : z9.cell? ⟨X, 16, none⟩ = some (.int .i64 (W2.hi 16)) := cell_pm x16_z8 hm hXP
                         have x17_z9 : z9.cell? ⟨X, 17, none⟩ = some (.slice (some ⟨g, 0, none⟩) B.np cap2) := cell_pm x17_z8 hm hXP
                         clear hP_z8 x0_z8 x4_z8 x7_z8 x8_z8 x12_z8 x13_z8 x14_z8 x15_z8 x16_z8 x17_z8 E_z8
                         clear hp hm))
                    have hLX : ((M.set 88 (.int .i64 4)).set 50 (.bool true)) = dstL W2 n L := by
                      rw [HSD.out]
                      exact ((ch_2 HE86.out).trans (by rw [HSM.out, HTE.out]; rfl)).symm
                    have hPf := hP_z9
                    rw [hLX] at hPf
                    clear hLX
                    have hrw := pv_row HQ.out HLL.out E_z9 hPf
                    have hlen := Lib.hid hPf.len
                    have hBz := HB.out.keep (fun n _ hn => (E_z9.1.heap (Nat.lt_of_lt_of_le hn HX1.out.size) (show ¬ n = P0 by have := HW0.out; omega)).trans (HX1.out.block n hn))
                    have hMz : Mut F w z9 := HM.out.trans (mut_new (HX1.out.mut F) E_z9.1 (by have := HW0.out; omega))
                    have hone := Lib.hid (show ∀ v ∈ (dstL W2 n L : List Value), v.oneCell' = true from HT0.out.one)
                    have c17y := x17_z9
                    obtain ⟨N, hN⟩ : ∃ N, dstL W2 n L = N := ⟨_, rfl⟩
                    rw [hN] at hrw hlen hone HS
                    clear hN hPf
                    refine wp_region_tail 7 (by kernel_rfl) (by kernel_rfl) ?_
                    intro w9 hw9
                    have hx9 : Ext z9 w9 := by
                      rw [hw9]
                      exact (Ext.refl _).drew
                    have HB2 := Lib.hid ((hx9.block _ (heap_lt hrw)).trans hrw)
                    have d17 := cell_ext c17y hx9
                    have hBy := Lib.hid (hBz.ext hx9)
                    have hMy := Lib.hid (hMz.trans (hx9.mut F))
                    have hth := Lib.hid (hBy.out.there hk)
                    clear hw9 hrw c17y hBz hMz hx9
                    simp only [List.take_succ_cons, List.take_zero, List.drop_succ_cons, List.drop_zero]
                    iterate 5 still_step
                    refine wpStill_load_row rfl 51 _ rfl P0 rfl _ _ _ HB2.out Try.underlying51 rfl (by rw [List.size_toArray, hlen.out]; exact size_port) ?_
                    simp only [ps]
                    iterate 1 still_step
                    refine wpStill_nil ?_
                    refine wpList_store_mid rfl 51 _ _ rfl g (n * 89) _ rfl rfl (by rw [List.size_toArray, hlen.out]; exact hth.out) (by rw [List.size_toArray, hlen.out]; exact size_port) (all_oneCell_toArray hone.out) ?_
                    go_wp2_with fail
                    go_roundw
                    case rel => exact ⟨n + 1, by omega, by go_num, by rw [HS.out]; exact hBy.out.setPort hk (l := N) hlen.out, Mut.setCells (.inl hBy.out.F2) _ _ hMy.out⟩
                    case measure => simp [intOf]; omega
                · as_aux_lemma =>
                    have HNT := Lib.hid (fun w => (neq_times w (pI M 78) (pI M 79) (pI M 80) (pI M 81) (pI M 82) (pI M 83) (pI M 84) (pI M 85)).trans (show _ = Result.ok (.bool false) w by rw [show (pI M 78 == pI M 82 && pI M 79 == pI M 83 && pI M 80 == pI M 84 && pI M 81 == pI M 85) = true from HTE.out]; rfl))
                    have hnt := HNT.out
                    go_upto_region 44 with (first
                      | fail
                      | ((with_reducible refine at_store 3 ?_); refine st_pv rfl rfl 3 _ _ rfl P0 0 88 _ hP_z7 _ #[.int .i64 4] rfl rfl rfl (by exact (by decide : 88 + 1 ≤ 89)) (by kernel_rfl) rfl ?_
                         intro z8 hp hm
                         replace hp := pv_one hp HLEN.out (by decide)
                         have hP_z8 : Pv z8 P0 0 (M.set 88 (.int .i64 4)) := hp
                         have E_z8 : Pm P0 0 z1 z8 := E_z7.trans hm
                         have x0_z8 : z8.cell? ⟨X, 0, none⟩ = some (.int .u64 (W2.hi 0)) := cell_pm x0_z7 hm hXP
                         have x4_z8 : z8.cell? ⟨X, 4, none⟩ = some (.int .i64 (W2.hi 4)) := cell_pm x4_z7 hm hXP
                         have x7_z8 : z8.cell? ⟨X, 7, none⟩ = some (.int .u64 (W2.hi 7)) := cell_pm x7_z7 hm hXP
                         have x8_z8 : z8.cell? ⟨X, 8, none⟩ = some (.int .u32 (W2.hi 8)) := cell_pm x8_z7 hm hXP
                         have x12_z8 : z8.cell? ⟨X, 12, none⟩ = some (.int .i64 (W2.hi 12)) := cell_pm x12_z7 hm hXP
                         have x13_z8 : z8.cell? ⟨X, 13, none⟩ = some (.int .i64 (W2.hi 13)) := cell_pm x13_z7 hm hXP
                         have x14_z8 : z8.cell? ⟨X, 14, none⟩ = some (.int .i64 (W2.hi 14)) := cell_pm x14_z7 hm hXP
                         have x15_z8 : z8.cell? ⟨X, 15, none⟩ = some (.int .i64 (W2.hi 15)) := cell_pm x15_z7 hm hXP
                         have x16_z8 : z8.cell? ⟨X, 16, none⟩ = some (.int .i64 (W2.hi 16)) := cell_pm x16_z7 hm hXP
                         have x17_z8 : z8.cell? ⟨X, 17, none⟩ = some (.slice (some ⟨g, 0, none⟩) B.np cap2) := cell_pm x17_z7 hm hXP
                         clear hP_z7 x0_z7 x4_z7 x7_z7 x8_z7 x12_z7 x13_z7 x14_z7 x15_z7 x16_z7 x17_z7 E_z7 p86_z7
                         clear hp hm)
                      | ((with_reducible refine at_loadG 24 ?_); refine wpList_load_midG rfl 24 _ rfl P0 (78) rfl [.int .i64 (pI M 78), .int .i64 (pI M 79), .int .i64 (pI M 80), .int .i64 (pI M 81)] _ (hP_z8.range (j := 78) (n := 4) ((seg_ne (by decide)).trans HS_78.out) (by decide)) Try.underlying24 rfl (by kernel_rfl) ?_)
                      | ((with_reducible refine at_loadG 24 ?_); refine wpList_load_midG rfl 24 _ rfl P0 (82) rfl [.int .i64 (pI M 82), .int .i64 (pI M 83), .int .i64 (pI M 84), .int .i64 (pI M 85)] _ (hP_z8.range (j := 82) (n := 4) ((seg_ne (by decide)).trans HS_82.out) (by decide)) Try.underlying24 rfl (by kernel_rfl) ?_))
                    have hLX : (M.set 88 (.int .i64 4)) = dstL W2 n L := by
                      rw [HSD.out]
                      exact ((ch_2 HE86.out).trans (by rw [HSM.out, HTE.out]; rfl)).symm
                    have hPf := hP_z8
                    rw [hLX] at hPf
                    clear hLX
                    have hrw := pv_row HQ.out HLL.out E_z8 hPf
                    have hlen := Lib.hid hPf.len
                    have hBz := HB.out.keep (fun n _ hn => (E_z8.1.heap (Nat.lt_of_lt_of_le hn HX1.out.size) (show ¬ n = P0 by have := HW0.out; omega)).trans (HX1.out.block n hn))
                    have hMz : Mut F w z8 := HM.out.trans (mut_new (HX1.out.mut F) E_z8.1 (by have := HW0.out; omega))
                    have hone := Lib.hid (show ∀ v ∈ (dstL W2 n L : List Value), v.oneCell' = true from HT0.out.one)
                    have c17y := x17_z8
                    obtain ⟨N, hN⟩ : ∃ N, dstL W2 n L = N := ⟨_, rfl⟩
                    rw [hN] at hrw hlen hone HS
                    clear hN hPf
                    refine wp_region_tail 7 (by kernel_rfl) (by kernel_rfl) ?_
                    intro w9 hw9
                    have hx9 : Ext z8 w9 := by
                      rw [hw9]
                      exact (Ext.refl _).drew
                    have HB2 := Lib.hid ((hx9.block _ (heap_lt hrw)).trans hrw)
                    have d17 := cell_ext c17y hx9
                    have hBy := Lib.hid (hBz.ext hx9)
                    have hMy := Lib.hid (hMz.trans (hx9.mut F))
                    have hth := Lib.hid (hBy.out.there hk)
                    clear hw9 hrw c17y hBz hMz hx9
                    simp only [List.take_succ_cons, List.take_zero, List.drop_succ_cons, List.drop_zero]
                    iterate 5 still_step
                    refine wpStill_load_row rfl 51 _ rfl P0 rfl _ _ _ HB2.out Try.underlying51 rfl (by rw [List.size_toArray, hlen.out]; exact size_port) ?_
                    simp only [ps]
                    iterate 1 still_step
                    refine wpStill_nil ?_
                    refine wpList_store_mid rfl 51 _ _ rfl g (n * 89) _ rfl rfl (by rw [List.size_toArray, hlen.out]; exact hth.out) (by rw [List.size_toArray, hlen.out]; exact size_port) (all_oneCell_toArray hone.out) ?_
                    go_wp2_with fail
                    go_roundw
                    case rel => exact ⟨n + 1, by omega, by go_num, by rw [HS.out]; exact hBy.out.setPort hk (l := N) hlen.out, Mut.setCells (.inl hBy.out.F2) _ _ hMy.out⟩
                    case measure => simp [intOf]; omega
            · by_cases e3 : x86 = 3
              · subst e3
                obtain ⟨rt, hrt⟩ : ∃ t, ((n : Int) == W2.hi 12) = t := ⟨_, rfl⟩
                have HRTT := Lib.hid hrt
                cases rt
                · cases ls
                  · have hs2 : (pI M 70 % 281474976710656 == W2.hi 0 % 281474976710656) = sa := HSA.out
                    cases sa
                    · as_aux_lemma =>
                        go_upto_region 42 with (first
                          | fail
                          | ((with_reducible refine at_store 4 ?_); refine st_pv rfl rfl 4 _ _ rfl P0 0 50 _ hP_z7 _ #[.bool false] rfl rfl rfl (by exact (by decide : 50 + 1 ≤ 89)) (by kernel_rfl) rfl ?_
                             intro z8 hp hm
                             replace hp := pv_one hp HLEN.out (by decide)
                             have hP_z8 : Pv z8 P0 0 (M.set 50 (.bool false)) := hp
                             have E_z8 : Pm P0 0 z1 z8 := E_z7.trans hm
                             have x0_z8 : z8.cell? ⟨X, 0, none⟩ = some (.int .u64 (W2.hi 0)) := cell_pm x0_z7 hm hXP
                             have x4_z8 : z8.cell? ⟨X, 4, none⟩ = some (.int .i64 (W2.hi 4)) := cell_pm x4_z7 hm hXP
                             have x7_z8 : z8.cell? ⟨X, 7, none⟩ = some (.int .u64 (W2.hi 7)) := cell_pm x7_z7 hm hXP
                             have x8_z8 : z8.cell? ⟨X, 8, none⟩ = some (.int .u32 (W2.hi 8)) := cell_pm x8_z7 hm hXP
                             have x12_z8 : z8.cell? ⟨X, 12, none⟩ = some (.int .i64 (W2.hi 12)) := cell_pm x12_z7 hm hXP
                             have x13_z8 : z8.cell? ⟨X, 13, none⟩ = some (.int .i64 (W2.hi 13)) := cell_pm x13_z7 hm hXP
                             have x14_z8 : z8.cell? ⟨X, 14, none⟩ = some (.int .i64 (W2.hi 14)) := cell_pm x14_z7 hm hXP
                             have x15_z8 : z8.cell? ⟨X, 15, none⟩ = some (.int .i64 (W2.hi 15)) := cell_pm x15_z7 hm hXP
                             have x16_z8 : z8.cell? ⟨X, 16, none⟩ = some (.int .i64 (W2.hi 16)) := cell_pm x16_z7 hm hXP
                             have x17_z8 : z8.cell? ⟨X, 17, none⟩ = some (.slice (some ⟨g, 0, none⟩) B.np cap2) := cell_pm x17_z7 hm hXP
                             clear hP_z7 x0_z7 x4_z7 x7_z7 x8_z7 x12_z7 x13_z7 x14_z7 x15_z7 x16_z7 x17_z7 E_z7 p86_z7
                             clear hp hm))
                        refine beginL (S := fun W' => Ext z8 W') (by kernel_rfl) ?_
                        intro wd hqx
                        have hq0 : Ext z8 wd := hqx
                        refine takeL (i := 0) (v := (.pointer (some ⟨P0, 68, none⟩))) rfl (by kernel_rfl) (by kernel_rfl) (by kernel_rfl) (fun _ _ _ h => h) (Or.inl ⟨rfl, fun _ _ => rfl⟩) hq0 ?_
                        simp only [Act.put, List.setIfInBounds_toArray, List.set_cons_zero, List.set_cons_succ]
                        refine takeL (i := 1) (v := (.pointer (some ⟨P0, 70, none⟩))) rfl (by kernel_rfl) (by kernel_rfl) (by kernel_rfl) (fun _ _ _ h => h) (Or.inl ⟨rfl, fun _ _ => rfl⟩) hq0 ?_
                        simp only [Act.put, List.setIfInBounds_toArray, List.set_cons_zero, List.set_cons_succ]
                        refine takeL (i := 2) (v := _) rfl (by kernel_rfl) (by kernel_rfl) (by kernel_rfl) (fun _ _ _ h => h) (yieldsIf_cell rfl 22 _ rfl ⟨P0, 70, none⟩ rfl (.int .u64 (pI M 70)) _ (fun W' hW' => ((hP_z8.ext hW').cell (j := 70) (by decide)).trans ((get_ne (by decide)).trans HL_70.out)) Try.underlying22 rfl) hq0 ?_
                        simp only [Act.put, List.setIfInBounds_toArray, List.set_cons_zero, List.set_cons_succ]
                        refine takeL (i := 4) (v := (.pointer (some ⟨X, 0, none⟩))) rfl (by kernel_rfl) (by kernel_rfl) (by kernel_rfl) (fun _ _ _ h => h) (Or.inl ⟨rfl, fun _ _ => rfl⟩) hq0 ?_
                        simp only [Act.put, List.setIfInBounds_toArray, List.set_cons_zero, List.set_cons_succ]
                        refine takeL (i := 5) (v := (.pointer (some ⟨X, 0, none⟩))) rfl (by kernel_rfl) (by kernel_rfl) (by kernel_rfl) (fun _ _ _ h => h) (Or.inl ⟨rfl, fun _ _ => rfl⟩) hq0 ?_
                        simp only [Act.put, List.setIfInBounds_toArray, List.set_cons_zero, List.set_cons_succ]
                        refine takeL (i := 6) (v := (.pointer (some ⟨X, 0, none⟩))) rfl (by kernel_rfl) (by kernel_rfl) (by kernel_rfl) (fun _ _ _ h => h) (Or.inl ⟨rfl, fun _ _ => rfl⟩) hq0 ?_
                        simp only [Act.put, List.setIfInBounds_toArray, List.set_cons_zero, List.set_cons_succ]
                        refine takeL (i := 7) (v := _) rfl (by kernel_rfl) (by kernel_rfl) (by kernel_rfl) (fun _ _ _ h => h) (yieldsIf_cell rfl 22 _ rfl ⟨X, 0, none⟩ rfl (.int .u64 (W2.hi 0)) _ (fun W' hW' => cell_ext x0_z8 hW') Try.underlying22 rfl) hq0 ?_
                        simp only [Act.put, List.setIfInBounds_toArray, List.set_cons_zero, List.set_cons_succ]
                        refine runL (i := 3) rfl rfl (by kernel_rfl) (fun K hK => ?_)
                        go_simp
                        refine (ref_addrE _ _ g70).mono ?_
                        rintro e wc1 ⟨rfl, hx⟩
                        have hq1 := hq0.trans hx
                        refine hK.out _ _ hq1 (fun hHeld => ?_)
                        try simp only [Act.put, List.setIfInBounds_toArray, List.set_cons_zero, List.set_cons_succ]
                        clear hK K hHeld
                        refine runL (i := 8) rfl rfl (by kernel_rfl) (fun K hK => ?_)
                        go_simp
                        refine (ref_addrE _ _ gid).mono ?_
                        rintro e wc2 ⟨rfl, hx⟩
                        have hq2 := hq1.trans hx
                        refine hK.out _ _ hq2 (fun hHeld => ?_)
                        try simp only [Act.put, List.setIfInBounds_toArray, List.set_cons_zero, List.set_cons_succ]
                        clear hK K hHeld
                        refine takeL (i := 9) (v := (.bool false)) rfl (by kernel_rfl) (by kernel_rfl) (by kernel_rfl) (fun _ _ _ h => h) (Or.inl ⟨rfl, fun W' _ => by go_simp⟩) hq2 ?_
                        simp only [Act.put, List.setIfInBounds_toArray, List.set_cons_zero, List.set_cons_succ]
                        refine takeL (i := 10) (v := (.bool false)) rfl (by kernel_rfl) (by kernel_rfl) (by kernel_rfl) (fun _ _ _ h => h) (Or.inl ⟨rfl, fun _ _ => rfl⟩) hq2 ?_
                        simp only [Act.put, List.setIfInBounds_toArray, List.set_cons_zero, List.set_cons_succ]
                        refine wpAnyH_done (by kernel_rfl) ?_ _
                        generalize wc2 = z9 at *
                        have hP_z9 : Pv z9 P0 0 (M.set 50 (.bool false)) := hP_z8.ext hq2
                        have x0_z9 : z9.cell? ⟨X, 0, none⟩ = some (.int .u64 (W2.hi 0)) := cell_ext x0_z8 hq2
                        have x4_z9 : z9.cell? ⟨X, 4, none⟩ = some (.int .i64 (W2.hi 4)) := cell_ext x4_z8 hq2
                        have x7_z9 : z9.cell? ⟨X, 7, none⟩ = some (.int .u64 (W2.hi 7)) := cell_ext x7_z8 hq2
                        have x8_z9 : z9.cell? ⟨X, 8, none⟩ = some (.int .u32 (W2.hi 8)) := cell_ext x8_z8 hq2
                        have x12_z9 : z9.cell? ⟨X, 12, none⟩ = some (.int .i64 (W2.hi 12)) := cell_ext x12_z8 hq2
                        have x13_z9 : z9.cell? ⟨X, 13, none⟩ = some (.int .i64 (W2.hi 13)) := cell_ext x13_z8 hq2
                        have x14_z9 : z9.cell? ⟨X, 14, none⟩ = some (.int .i64 (W2.hi 14)) := cell_ext x14_z8 hq2
                        have x15_z9 : z9.cell? ⟨X, 15, none⟩ = some (.int .i64 (W2.hi 15)) := cell_ext x15_z8 hq2
                        have x16_z9 : z9.cell? ⟨X, 16, none⟩ = some (.int .i64 (W2.hi 16)) := cell_ext x16_z8 hq2
                        have x17_z9 : z9.cell? ⟨X, 17, none⟩ = some (.slice (some ⟨g, 0, none⟩) B.np cap2) := cell_ext x17_z8 hq2
                        have E_z9 : Pm P0 0 z1 z9 := E_z8.ext hq2
                        clear hP_z8 x0_z8 x4_z8 x7_z8 x8_z8 x12_z8 x13_z8 x14_z8 x15_z8 x16_z8 x17_z8 E_z8
                        clear hq0 hq1 hq2
                        go_upto_region 44 with (first
                          | fail
                          | ((with_reducible refine at_store 3 ?_); refine st_pv rfl rfl 3 _ _ rfl P0 0 88 _ hP_z9 _ #[.int .i64 1] rfl rfl rfl (by exact (by decide : 88 + 1 ≤ 89)) (by kernel_rfl) rfl ?_
                             intro z10 hp hm
                             replace hp := pv_one hp (len_set' HLEN.out) (by decide)
                             have hP_z10 : Pv z10 P0 0 ((M.set 50 (.bool false)).set 88 (.int .i64 1)) := hp
                             have E_z10 : Pm P0 0 z1 z10 := E_z9.trans hm
                             have x0_z10 : z10.cell? ⟨X, 0, none⟩ = some (.int .u64 (W2.hi 0)) := cell_pm x0_z9 hm hXP
                             have x4_z10 : z10.cell? ⟨X, 4, none⟩ = some (.int .i64 (W2.hi 4)) := cell_pm x4_z9 hm hXP
                             have x7_z10 : z10.cell? ⟨X, 7, none⟩ = some (.int .u64 (W2.hi 7)) := cell_pm x7_z9 hm hXP
                             have x8_z10 : z10.cell? ⟨X, 8, none⟩ = some (.int .u32 (W2.hi 8)) := cell_pm x8_z9 hm hXP
                             have x12_z10 : z10.cell? ⟨X, 12, none⟩ = some (.int .i64 (W2.hi 12)) := cell_pm x12_z9 hm hXP
                             have x13_z10 : z10.cell? ⟨X, 13, none⟩ = some (.int .i64 (W2.hi 13)) := cell_pm x13_z9 hm hXP
                             have x14_z10 : z10.cell? ⟨X, 14, none⟩ = some (.int .i64 (W2.hi 14)) := cell_pm x14_z9 hm hXP
                             have x15_z10 : z10.cell? ⟨X, 15, none⟩ = some (.int .i64 (W2.hi 15)) := cell_pm x15_z9 hm hXP
                             have x16_z10 : z10.cell? ⟨X, 16, none⟩ = some (.int .i64 (W2.hi 16)) := cell_pm x16_z9 hm hXP
                             have x17_z10 : z10.cell? ⟨X, 17, none⟩ = some (.slice (some ⟨g, 0, none⟩) B.np cap2) := cell_pm x17_z9 hm hXP
                             clear hP_z9 x0_z9 x4_z9 x7_z9 x8_z9 x12_z9 x13_z9 x14_z9 x15_z9 x16_z9 x17_z9 E_z9
                             clear hp hm))
                        have hLX : ((M.set 50 (.bool false)).set 88 (.int .i64 1)) = dstL W2 n L := by
                          rw [HSD.out]
                          exact (ch_3x HE86.out HRTT.out HLS.out 1 (by rw [HSA.out]; rfl)).symm
                        have hPf := hP_z10
                        rw [hLX] at hPf
                        clear hLX
                        have hrw := pv_row HQ.out HLL.out E_z10 hPf
                        have hlen := Lib.hid hPf.len
                        have hBz := HB.out.keep (fun n _ hn => (E_z10.1.heap (Nat.lt_of_lt_of_le hn HX1.out.size) (show ¬ n = P0 by have := HW0.out; omega)).trans (HX1.out.block n hn))
                        have hMz : Mut F w z10 := HM.out.trans (mut_new (HX1.out.mut F) E_z10.1 (by have := HW0.out; omega))
                        have hone := Lib.hid (show ∀ v ∈ (dstL W2 n L : List Value), v.oneCell' = true from HT0.out.one)
                        have c17y := x17_z10
                        obtain ⟨N, hN⟩ : ∃ N, dstL W2 n L = N := ⟨_, rfl⟩
                        rw [hN] at hrw hlen hone HS
                        clear hN hPf
                        refine wp_region_tail 7 (by kernel_rfl) (by kernel_rfl) ?_
                        intro w9 hw9
                        have hx9 : Ext z10 w9 := by
                          rw [hw9]
                          exact (Ext.refl _).drew
                        have HB2 := Lib.hid ((hx9.block _ (heap_lt hrw)).trans hrw)
                        have d17 := cell_ext c17y hx9
                        have hBy := Lib.hid (hBz.ext hx9)
                        have hMy := Lib.hid (hMz.trans (hx9.mut F))
                        have hth := Lib.hid (hBy.out.there hk)
                        clear hw9 hrw c17y hBz hMz hx9
                        simp only [List.take_succ_cons, List.take_zero, List.drop_succ_cons, List.drop_zero]
                        iterate 5 still_step
                        refine wpStill_load_row rfl 51 _ rfl P0 rfl _ _ _ HB2.out Try.underlying51 rfl (by rw [List.size_toArray, hlen.out]; exact size_port) ?_
                        simp only [ps]
                        iterate 1 still_step
                        refine wpStill_nil ?_
                        refine wpList_store_mid rfl 51 _ _ rfl g (n * 89) _ rfl rfl (by rw [List.size_toArray, hlen.out]; exact hth.out) (by rw [List.size_toArray, hlen.out]; exact size_port) (all_oneCell_toArray hone.out) ?_
                        go_wp2_with fail
                        go_roundw
                        case rel => exact ⟨n + 1, by omega, by go_num, by rw [HS.out]; exact hBy.out.setPort hk (l := N) hlen.out, Mut.setCells (.inl hBy.out.F2) _ _ hMy.out⟩
                        case measure => simp [intOf]; omega
                    · as_aux_lemma =>
                        go_upto_region 42 with (first
                          | fail
                          | ((with_reducible refine at_store 4 ?_); refine st_pv rfl rfl 4 _ _ rfl P0 0 50 _ hP_z7 _ #[.bool false] rfl rfl rfl (by exact (by decide : 50 + 1 ≤ 89)) (by kernel_rfl) rfl ?_
                             intro z8 hp hm
                             replace hp := pv_one hp HLEN.out (by decide)
                             have hP_z8 : Pv z8 P0 0 (M.set 50 (.bool false)) := hp
                             have E_z8 : Pm P0 0 z1 z8 := E_z7.trans hm
                             have x0_z8 : z8.cell? ⟨X, 0, none⟩ = some (.int .u64 (W2.hi 0)) := cell_pm x0_z7 hm hXP
                             have x4_z8 : z8.cell? ⟨X, 4, none⟩ = some (.int .i64 (W2.hi 4)) := cell_pm x4_z7 hm hXP
                             have x7_z8 : z8.cell? ⟨X, 7, none⟩ = some (.int .u64 (W2.hi 7)) := cell_pm x7_z7 hm hXP
                             have x8_z8 : z8.cell? ⟨X, 8, none⟩ = some (.int .u32 (W2.hi 8)) := cell_pm x8_z7 hm hXP
                             have x12_z8 : z8.cell? ⟨X, 12, none⟩ = some (.int .i64 (W2.hi 12)) := cell_pm x12_z7 hm hXP
                             have x13_z8 : z8.cell? ⟨X, 13, none⟩ = some (.int .i64 (W2.hi 13)) := cell_pm x13_z7 hm hXP
                             have x14_z8 : z8.cell? ⟨X, 14, none⟩ = some (.int .i64 (W2.hi 14)) := cell_pm x14_z7 hm hXP
                             have x15_z8 : z8.cell? ⟨X, 15, none⟩ = some (.int .i64 (W2.hi 15)) := cell_pm x15_z7 hm hXP
                             have x16_z8 : z8.cell? ⟨X, 16, none⟩ = some (.int .i64 (W2.hi 16)) := cell_pm x16_z7 hm hXP
                             have x17_z8 : z8.cell? ⟨X, 17, none⟩ = some (.slice (some ⟨g, 0, none⟩) B.np cap2) := cell_pm x17_z7 hm hXP
                             clear hP_z7 x0_z7 x4_z7 x7_z7 x8_z7 x12_z7 x13_z7 x14_z7 x15_z7 x16_z7 x17_z7 E_z7 p86_z7
                             clear hp hm))
                        refine beginL (S := fun W' => Ext z8 W') (by kernel_rfl) ?_
                        intro wd hqx
                        have hq0 : Ext z8 wd := hqx
                        refine takeL (i := 0) (v := (.pointer (some ⟨P0, 68, none⟩))) rfl (by kernel_rfl) (by kernel_rfl) (by kernel_rfl) (fun _ _ _ h => h) (Or.inl ⟨rfl, fun _ _ => rfl⟩) hq0 ?_
                        simp only [Act.put, List.setIfInBounds_toArray, List.set_cons_zero, List.set_cons_succ]
                        refine takeL (i := 1) (v := (.pointer (some ⟨P0, 70, none⟩))) rfl (by kernel_rfl) (by kernel_rfl) (by kernel_rfl) (fun _ _ _ h => h) (Or.inl ⟨rfl, fun _ _ => rfl⟩) hq0 ?_
                        simp only [Act.put, List.setIfInBounds_toArray, List.set_cons_zero, List.set_cons_succ]
                        refine takeL (i := 2) (v := _) rfl (by kernel_rfl) (by kernel_rfl) (by kernel_rfl) (fun _ _ _ h => h) (yieldsIf_cell rfl 22 _ rfl ⟨P0, 70, none⟩ rfl (.int .u64 (pI M 70)) _ (fun W' hW' => ((hP_z8.ext hW').cell (j := 70) (by decide)).trans ((get_ne (by decide)).trans HL_70.out)) Try.underlying22 rfl) hq0 ?_
                        simp only [Act.put, List.setIfInBounds_toArray, List.set_cons_zero, List.set_cons_succ]
                        refine takeL (i := 4) (v := (.pointer (some ⟨X, 0, none⟩))) rfl (by kernel_rfl) (by kernel_rfl) (by kernel_rfl) (fun _ _ _ h => h) (Or.inl ⟨rfl, fun _ _ => rfl⟩) hq0 ?_
                        simp only [Act.put, List.setIfInBounds_toArray, List.set_cons_zero, List.set_cons_succ]
                        refine takeL (i := 5) (v := (.pointer (some ⟨X, 0, none⟩))) rfl (by kernel_rfl) (by kernel_rfl) (by kernel_rfl) (fun _ _ _ h => h) (Or.inl ⟨rfl, fun _ _ => rfl⟩) hq0 ?_
                        simp only [Act.put, List.setIfInBounds_toArray, List.set_cons_zero, List.set_cons_succ]
                        refine takeL (i := 6) (v := (.pointer (some ⟨X, 0, none⟩))) rfl (by kernel_rfl) (by kernel_rfl) (by kernel_rfl) (fun _ _ _ h => h) (Or.inl ⟨rfl, fun _ _ => rfl⟩) hq0 ?_
                        simp only [Act.put, List.setIfInBounds_toArray, List.set_cons_zero, List.set_cons_succ]
                        refine takeL (i := 7) (v := _) rfl (by kernel_rfl) (by kernel_rfl) (by kernel_rfl) (fun _ _ _ h => h) (yieldsIf_cell rfl 22 _ rfl ⟨X, 0, none⟩ rfl (.int .u64 (W2.hi 0)) _ (fun W' hW' => cell_ext x0_z8 hW') Try.underlying22 rfl) hq0 ?_
                        simp only [Act.put, List.setIfInBounds_toArray, List.set_cons_zero, List.set_cons_succ]
                        refine runL (i := 3) rfl rfl (by kernel_rfl) (fun K hK => ?_)
                        go_simp
                        refine (ref_addrE _ _ g70).mono ?_
                        rintro e wc1 ⟨rfl, hx⟩
                        have hq1 := hq0.trans hx
                        refine hK.out _ _ hq1 (fun hHeld => ?_)
                        try simp only [Act.put, List.setIfInBounds_toArray, List.set_cons_zero, List.set_cons_succ]
                        clear hK K hHeld
                        refine runL (i := 8) rfl rfl (by kernel_rfl) (fun K hK => ?_)
                        go_simp
                        refine (ref_addrE _ _ gid).mono ?_
                        rintro e wc2 ⟨rfl, hx⟩
                        have hq2 := hq1.trans hx
                        refine hK.out _ _ hq2 (fun hHeld => ?_)
                        try simp only [Act.put, List.setIfInBounds_toArray, List.set_cons_zero, List.set_cons_succ]
                        clear hK K hHeld
                        refine takeL (i := 9) (v := (.bool true)) rfl (by kernel_rfl) (by kernel_rfl) (by kernel_rfl) (fun _ _ _ h => h) (Or.inl ⟨rfl, fun W' _ => by go_simp⟩) hq2 ?_
                        simp only [Act.put, List.setIfInBounds_toArray, List.set_cons_zero, List.set_cons_succ]
                        refine takeL (i := 10) (v := (.bool true)) rfl (by kernel_rfl) (by kernel_rfl) (by kernel_rfl) (fun _ _ _ h => h) (Or.inl ⟨rfl, fun _ _ => rfl⟩) hq2 ?_
                        simp only [Act.put, List.setIfInBounds_toArray, List.set_cons_zero, List.set_cons_succ]
                        refine wpAnyH_done (by kernel_rfl) ?_ _
                        generalize wc2 = z9 at *
                        have hP_z9 : Pv z9 P0 0 (M.set 50 (.bool false)) := hP_z8.ext hq2
                        have x0_z9 : z9.cell? ⟨X, 0, none⟩ = some (.int .u64 (W2.hi 0)) := cell_ext x0_z8 hq2
                        have x4_z9 : z9.cell? ⟨X, 4, none⟩ = some (.int .i64 (W2.hi 4)) := cell_ext x4_z8 hq2
                        have x7_z9 : z9.cell? ⟨X, 7, none⟩ = some (.int .u64 (W2.hi 7)) := cell_ext x7_z8 hq2
                        have x8_z9 : z9.cell? ⟨X, 8, none⟩ = some (.int .u32 (W2.hi 8)) := cell_ext x8_z8 hq2
                        have x12_z9 : z9.cell? ⟨X, 12, none⟩ = some (.int .i64 (W2.hi 12)) := cell_ext x12_z8 hq2
                        have x13_z9 : z9.cell? ⟨X, 13, none⟩ = some (.int .i64 (W2.hi 13)) := cell_ext x13_z8 hq2
                        have x14_z9 : z9.cell? ⟨X, 14, none⟩ = some (.int .i64 (W2.hi 14)) := cell_ext x14_z8 hq2
                        have x15_z9 : z9.cell? ⟨X, 15, none⟩ = some (.int .i64 (W2.hi 15)) := cell_ext x15_z8 hq2
                        have x16_z9 : z9.cell? ⟨X, 16, none⟩ = some (.int .i64 (W2.hi 16)) := cell_ext x16_z8 hq2
                        have x17_z9 : z9.cell? ⟨X, 17, none⟩ = some (.slice (some ⟨g, 0, none⟩) B.np cap2) := cell_ext x17_z8 hq2
                        have E_z9 : Pm P0 0 z1 z9 := E_z8.ext hq2
                        clear hP_z8 x0_z8 x4_z8 x7_z8 x8_z8 x12_z8 x13_z8 x14_z8 x15_z8 x16_z8 x17_z8 E_z8
                        clear hq0 hq1 hq2
                        go_upto_region 44 with (first
                          | fail
                          | ((with_reducible refine at_store 3 ?_); refine st_pv rfl rfl 3 _ _ rfl P0 0 88 _ hP_z9 _ #[.int .i64 2] rfl rfl rfl (by exact (by decide : 88 + 1 ≤ 89)) (by kernel_rfl) rfl ?_
                             intro z10 hp hm
                             replace hp := pv_one hp (len_set' HLEN.out) (by decide)
                             have hP_z10 : Pv z10 P0 0 ((M.set 50 (.bool false)).set 88 (.int .i64 2)) := hp
                             have E_z10 : Pm P0 0 z1 z10 := E_z9.trans hm
                             have x0_z10 : z10.cell? ⟨X, 0, none⟩ = some (.int .u64 (W2.hi 0)) := cell_pm x0_z9 hm hXP
                             have x4_z10 : z10.cell? ⟨X, 4, none⟩ = some (.int .i64 (W2.hi 4)) := cell_pm x4_z9 hm hXP
                             have x7_z10 : z10.cell? ⟨X, 7, none⟩ = some (.int .u64 (W2.hi 7)) := cell_pm x7_z9 hm hXP
                             have x8_z10 : z10.cell? ⟨X, 8, none⟩ = some (.int .u32 (W2.hi 8)) := cell_pm x8_z9 hm hXP
                             have x12_z10 : z10.cell? ⟨X, 12, none⟩ = some (.int .i64 (W2.hi 12)) := cell_pm x12_z9 hm hXP
                             have x13_z10 : z10.cell? ⟨X, 13, none⟩ = some (.int .i64 (W2.hi 13)) := cell_pm x13_z9 hm hXP
                             have x14_z10 : z10.cell? ⟨X, 14, none⟩ = some (.int .i64 (W2.hi 14)) := cell_pm x14_z9 hm hXP
                             have x15_z10 : z10.cell? ⟨X, 15, none⟩ = some (.int .i64 (W2.hi 15)) := cell_pm x15_z9 hm hXP
                             have x16_z10 : z10.cell? ⟨X, 16, none⟩ = some (.int .i64 (W2.hi 16)) := cell_pm x16_z9 hm hXP
                             have x17_z10 : z10.cell? ⟨X, 17, none⟩ = some (.slice (some ⟨g, 0, none⟩) B.np cap2) := cell_pm x17_z9 hm hXP
                             clear hP_z9 x0_z9 x4_z9 x7_z9 x8_z9 x12_z9 x13_z9 x14_z9 x15_z9 x16_z9 x17_z9 E_z9
                             clear hp hm))
                        have hLX : ((M.set 50 (.bool false)).set 88 (.int .i64 2)) = dstL W2 n L := by
                          rw [HSD.out]
                          exact (ch_3x HE86.out HRTT.out HLS.out 2 (by rw [HSA.out]; rfl)).symm
                        have hPf := hP_z10
                        rw [hLX] at hPf
                        clear hLX
                        have hrw := pv_row HQ.out HLL.out E_z10 hPf
                        have hlen := Lib.hid hPf.len
                        have hBz := HB.out.keep (fun n _ hn => (E_z10.1.heap (Nat.lt_of_lt_of_le hn HX1.out.size) (show ¬ n = P0 by have := HW0.out; omega)).trans (HX1.out.block n hn))
                        have hMz : Mut F w z10 := HM.out.trans (mut_new (HX1.out.mut F) E_z10.1 (by have := HW0.out; omega))
                        have hone := Lib.hid (show ∀ v ∈ (dstL W2 n L : List Value), v.oneCell' = true from HT0.out.one)
                        have c17y := x17_z10
                        obtain ⟨N, hN⟩ : ∃ N, dstL W2 n L = N := ⟨_, rfl⟩
                        rw [hN] at hrw hlen hone HS
                        clear hN hPf
                        refine wp_region_tail 7 (by kernel_rfl) (by kernel_rfl) ?_
                        intro w9 hw9
                        have hx9 : Ext z10 w9 := by
                          rw [hw9]
                          exact (Ext.refl _).drew
                        have HB2 := Lib.hid ((hx9.block _ (heap_lt hrw)).trans hrw)
                        have d17 := cell_ext c17y hx9
                        have hBy := Lib.hid (hBz.ext hx9)
                        have hMy := Lib.hid (hMz.trans (hx9.mut F))
                        have hth := Lib.hid (hBy.out.there hk)
                        clear hw9 hrw c17y hBz hMz hx9
                        simp only [List.take_succ_cons, List.take_zero, List.drop_succ_cons, List.drop_zero]
                        iterate 5 still_step
                        refine wpStill_load_row rfl 51 _ rfl P0 rfl _ _ _ HB2.out Try.underlying51 rfl (by rw [List.size_toArray, hlen.out]; exact size_port) ?_
                        simp only [ps]
                        iterate 1 still_step
                        refine wpStill_nil ?_
                        refine wpList_store_mid rfl 51 _ _ rfl g (n * 89) _ rfl rfl (by rw [List.size_toArray, hlen.out]; exact hth.out) (by rw [List.size_toArray, hlen.out]; exact size_port) (all_oneCell_toArray hone.out) ?_
                        go_wp2_with fail
                        go_roundw
                        case rel => exact ⟨n + 1, by omega, by go_num, by rw [HS.out]; exact hBy.out.setPort hk (l := N) hlen.out, Mut.setCells (.inl hBy.out.F2) _ _ hMy.out⟩
                        case measure => simp [intOf]; omega
                  · as_aux_lemma =>
                      go_upto_region 44 with (first
                        | fail
                        | ((with_reducible refine at_store 4 ?_); refine st_pv rfl rfl 4 _ _ rfl P0 0 50 _ hP_z7 _ #[.bool false] rfl rfl rfl (by exact (by decide : 50 + 1 ≤ 89)) (by kernel_rfl) rfl ?_
                           intro z8 hp hm
                           replace hp := pv_one hp HLEN.out (by decide)
                           have hP_z8 : Pv z8 P0 0 (M.set 50 (.bool false)) := hp
                           have E_z8 : Pm P0 0 z1 z8 := E_z7.trans hm
                           have x0_z8 : z8.cell? ⟨X, 0, none⟩ = some (.int .u64 (W2.hi 0)) := cell_pm x0_z7 hm hXP
                           have x4_z8 : z8.cell? ⟨X, 4, none⟩ = some (.int .i64 (W2.hi 4)) := cell_pm x4_z7 hm hXP
                           have x7_z8 : z8.cell? ⟨X, 7, none⟩ = some (.int .u64 (W2.hi 7)) := cell_pm x7_z7 hm hXP
                           have x8_z8 : z8.cell? ⟨X, 8, none⟩ = some (.int .u32 (W2.hi 8)) := cell_pm x8_z7 hm hXP
                           have x12_z8 : z8.cell? ⟨X, 12, none⟩ = some (.int .i64 (W2.hi 12)) := cell_pm x12_z7 hm hXP
                           have x13_z8 : z8.cell? ⟨X, 13, none⟩ = some (.int .i64 (W2.hi 13)) := cell_pm x13_z7 hm hXP
                           have x14_z8 : z8.cell? ⟨X, 14, none⟩ = some (.int .i64 (W2.hi 14)) := cell_pm x14_z7 hm hXP
                           have x15_z8 : z8.cell? ⟨X, 15, none⟩ = some (.int .i64 (W2.hi 15)) := cell_pm x15_z7 hm hXP
                           have x16_z8 : z8.cell? ⟨X, 16, none⟩ = some (.int .i64 (W2.hi 16)) := cell_pm x16_z7 hm hXP
                           have x17_z8 : z8.cell? ⟨X, 17, none⟩ = some (.slice (some ⟨g, 0, none⟩) B.np cap2) := cell_pm x17_z7 hm hXP
                           clear hP_z7 x0_z7 x4_z7 x7_z7 x8_z7 x12_z7 x13_z7 x14_z7 x15_z7 x16_z7 x17_z7 E_z7 p86_z7
                           clear hp hm)
                        | ((with_reducible refine at_store 3 ?_); refine st_pv rfl rfl 3 _ _ rfl P0 0 88 _ hP_z8 _ #[.int .i64 4] rfl rfl rfl (by exact (by decide : 88 + 1 ≤ 89)) (by kernel_rfl) rfl ?_
                           intro z9 hp hm
                           replace hp := pv_one hp (len_set' HLEN.out) (by decide)
                           have hP_z9 : Pv z9 P0 0 ((M.set 50 (.bool false)).set 88 (.int .i64 4)) := hp
                           have E_z9 : Pm P0 0 z1 z9 := E_z8.trans hm
                           have x0_z9 : z9.cell? ⟨X, 0, none⟩ = some (.int .u64 (W2.hi 0)) := cell_pm x0_z8 hm hXP
                           have x4_z9 : z9.cell? ⟨X, 4, none⟩ = some (.int .i64 (W2.hi 4)) := cell_pm x4_z8 hm hXP
                           have x7_z9 : z9.cell? ⟨X, 7, none⟩ = some (.int .u64 (W2.hi 7)) := cell_pm x7_z8 hm hXP
                           have x8_z9 : z9.cell? ⟨X, 8, none⟩ = some (.int .u32 (W2.hi 8)) := cell_pm x8_z8 hm hXP
                           have x12_z9 : z9.cell? ⟨X, 12, none⟩ = some (.int .i64 (W2.hi 12)) := cell_pm x12_z8 hm hXP
                           have x13_z9 : z9.cell? ⟨X, 13, none⟩ = some (.int .i64 (W2.hi 13)) := cell_pm x13_z8 hm hXP
                           have x14_z9 : z9.cell? ⟨X, 14, none⟩ = some (.int .i64 (W2.hi 14)) := cell_pm x14_z8 hm hXP
                           have x15_z9 : z9.cell? ⟨X, 15, none⟩ = some (.int .i64 (W2.hi 15)) := cell_pm x15_z8 hm hXP
                           have x16_z9 : z9.cell? ⟨X, 16, none⟩ = some (.int .i64 (W2.hi 16)) := cell_pm x16_z8 hm hXP
                           have x17_z9 : z9.cell? ⟨X, 17, none⟩ = some (.slice (some ⟨g, 0, none⟩) B.np cap2) := cell_pm x17_z8 hm hXP
                           clear hP_z8 x0_z8 x4_z8 x7_z8 x8_z8 x12_z8 x13_z8 x14_z8 x15_z8 x16_z8 x17_z8 E_z8
                           clear hp hm)
                        | ((with_reducible refine at_store 4 ?_); refine st_pv rfl rfl 4 _ _ rfl P0 0 50 _ hP_z9 _ #[.bool true] rfl rfl rfl (by exact (by decide : 50 + 1 ≤ 89)) (by kernel_rfl) rfl ?_
                           intro z10 hp hm
                           replace hp := pv_one hp (len_set' (len_set' HLEN.out)) (by decide)
                           have hP_z10 : Pv z10 P0 0 (((M.set 50 (.bool false)).set 88 (.int .i64 4)).set 50 (.bool true)) := hp
                           have E_z10 : Pm P0 0 z1 z10 := E_z9.trans hm
                           have x0_z10 : z10.cell? ⟨X, 0, none⟩ = some (.int .u64 (W2.hi 0)) := cell_pm x0_z9 hm hXP
                           have x4_z10 : z10.cell? ⟨X, 4, none⟩ = some (.int .i64 (W2.hi 4)) := cell_pm x4_z9 hm hXP
                           have x7_z10 : z10.cell? ⟨X, 7, none⟩ = some (.int .u64 (W2.hi 7)) := cell_pm x7_z9 hm hXP
                           have x8_z10 : z10.cell? ⟨X, 8, none⟩ = some (.int .u32 (W2.hi 8)) := cell_pm x8_z9 hm hXP
                           have x12_z10 : z10.cell? ⟨X, 12, none⟩ = some (.int .i64 (W2.hi 12)) := cell_pm x12_z9 hm hXP
                           have x13_z10 : z10.cell? ⟨X, 13, none⟩ = some (.int .i64 (W2.hi 13)) := cell_pm x13_z9 hm hXP
                           have x14_z10 : z10.cell? ⟨X, 14, none⟩ = some (.int .i64 (W2.hi 14)) := cell_pm x14_z9 hm hXP
                           have x15_z10 : z10.cell? ⟨X, 15, none⟩ = some (.int .i64 (W2.hi 15)) := cell_pm x15_z9 hm hXP
                           have x16_z10 : z10.cell? ⟨X, 16, none⟩ = some (.int .i64 (W2.hi 16)) := cell_pm x16_z9 hm hXP
                           have x17_z10 : z10.cell? ⟨X, 17, none⟩ = some (.slice (some ⟨g, 0, none⟩) B.np cap2) := cell_pm x17_z9 hm hXP
                           clear hP_z9 x0_z9 x4_z9 x7_z9 x8_z9 x12_z9 x13_z9 x14_z9 x15_z9 x16_z9 x17_z9 E_z9
                           clear hp hm))
                      have hLX : (((M.set 50 (.bool false)).set 88 (.int .i64 4)).set 50 (.bool true)) = dstL W2 n L := by
                        rw [HSD.out]
                        exact (ch_3l HE86.out HRTT.out HLS.out).symm
                      have hPf := hP_z10
                      rw [hLX] at hPf
                      clear hLX
                      have hrw := pv_row HQ.out HLL.out E_z10 hPf
                      have hlen := Lib.hid hPf.len
                      have hBz := HB.out.keep (fun n _ hn => (E_z10.1.heap (Nat.lt_of_lt_of_le hn HX1.out.size) (show ¬ n = P0 by have := HW0.out; omega)).trans (HX1.out.block n hn))
                      have hMz : Mut F w z10 := HM.out.trans (mut_new (HX1.out.mut F) E_z10.1 (by have := HW0.out; omega))
                      have hone := Lib.hid (show ∀ v ∈ (dstL W2 n L : List Value), v.oneCell' = true from HT0.out.one)
                      have c17y := x17_z10
                      obtain ⟨N, hN⟩ : ∃ N, dstL W2 n L = N := ⟨_, rfl⟩
                      rw [hN] at hrw hlen hone HS
                      clear hN hPf
                      refine wp_region_tail 7 (by kernel_rfl) (by kernel_rfl) ?_
                      intro w9 hw9
                      have hx9 : Ext z10 w9 := by
                        rw [hw9]
                        exact (Ext.refl _).drew
                      have HB2 := Lib.hid ((hx9.block _ (heap_lt hrw)).trans hrw)
                      have d17 := cell_ext c17y hx9
                      have hBy := Lib.hid (hBz.ext hx9)
                      have hMy := Lib.hid (hMz.trans (hx9.mut F))
                      have hth := Lib.hid (hBy.out.there hk)
                      clear hw9 hrw c17y hBz hMz hx9
                      simp only [List.take_succ_cons, List.take_zero, List.drop_succ_cons, List.drop_zero]
                      iterate 5 still_step
                      refine wpStill_load_row rfl 51 _ rfl P0 rfl _ _ _ HB2.out Try.underlying51 rfl (by rw [List.size_toArray, hlen.out]; exact size_port) ?_
                      simp only [ps]
                      iterate 1 still_step
                      refine wpStill_nil ?_
                      refine wpList_store_mid rfl 51 _ _ rfl g (n * 89) _ rfl rfl (by rw [List.size_toArray, hlen.out]; exact hth.out) (by rw [List.size_toArray, hlen.out]; exact size_port) (all_oneCell_toArray hone.out) ?_
                      go_wp2_with fail
                      go_roundw
                      case rel => exact ⟨n + 1, by omega, by go_num, by rw [HS.out]; exact hBy.out.setPort hk (l := N) hlen.out, Mut.setCells (.inl hBy.out.F2) _ _ hMy.out⟩
                      case measure => simp [intOf]; omega
                · as_aux_lemma =>
                    go_upto_region 44 with (first
                      | fail
                      | ((with_reducible refine at_store 4 ?_); refine st_pv rfl rfl 4 _ _ rfl P0 0 50 _ hP_z7 _ #[.bool false] rfl rfl rfl (by exact (by decide : 50 + 1 ≤ 89)) (by kernel_rfl) rfl ?_
                         intro z8 hp hm
                         replace hp := pv_one hp HLEN.out (by decide)
                         have hP_z8 : Pv z8 P0 0 (M.set 50 (.bool false)) := hp
                         have E_z8 : Pm P0 0 z1 z8 := E_z7.trans hm
                         have x0_z8 : z8.cell? ⟨X, 0, none⟩ = some (.int .u64 (W2.hi 0)) := cell_pm x0_z7 hm hXP
                         have x4_z8 : z8.cell? ⟨X, 4, none⟩ = some (.int .i64 (W2.hi 4)) := cell_pm x4_z7 hm hXP
                         have x7_z8 : z8.cell? ⟨X, 7, none⟩ = some (.int .u64 (W2.hi 7)) := cell_pm x7_z7 hm hXP
                         have x8_z8 : z8.cell? ⟨X, 8, none⟩ = some (.int .u32 (W2.hi 8)) := cell_pm x8_z7 hm hXP
                         have x12_z8 : z8.cell? ⟨X, 12, none⟩ = some (.int .i64 (W2.hi 12)) := cell_pm x12_z7 hm hXP
                         have x13_z8 : z8.cell? ⟨X, 13, none⟩ = some (.int .i64 (W2.hi 13)) := cell_pm x13_z7 hm hXP
                         have x14_z8 : z8.cell? ⟨X, 14, none⟩ = some (.int .i64 (W2.hi 14)) := cell_pm x14_z7 hm hXP
                         have x15_z8 : z8.cell? ⟨X, 15, none⟩ = some (.int .i64 (W2.hi 15)) := cell_pm x15_z7 hm hXP
                         have x16_z8 : z8.cell? ⟨X, 16, none⟩ = some (.int .i64 (W2.hi 16)) := cell_pm x16_z7 hm hXP
                         have x17_z8 : z8.cell? ⟨X, 17, none⟩ = some (.slice (some ⟨g, 0, none⟩) B.np cap2) := cell_pm x17_z7 hm hXP
                         clear hP_z7 x0_z7 x4_z7 x7_z7 x8_z7 x12_z7 x13_z7 x14_z7 x15_z7 x16_z7 x17_z7 E_z7 p86_z7
                         clear hp hm)
                      | ((with_reducible refine at_store 3 ?_); refine st_pv rfl rfl 3 _ _ rfl P0 0 88 _ hP_z8 _ #[.int .i64 3] rfl rfl rfl (by exact (by decide : 88 + 1 ≤ 89)) (by kernel_rfl) rfl ?_
                         intro z9 hp hm
                         replace hp := pv_one hp (len_set' HLEN.out) (by decide)
                         have hP_z9 : Pv z9 P0 0 ((M.set 50 (.bool false)).set 88 (.int .i64 3)) := hp
                         have E_z9 : Pm P0 0 z1 z9 := E_z8.trans hm
                         have x0_z9 : z9.cell? ⟨X, 0, none⟩ = some (.int .u64 (W2.hi 0)) := cell_pm x0_z8 hm hXP
                         have x4_z9 : z9.cell? ⟨X, 4, none⟩ = some (.int .i64 (W2.hi 4)) := cell_pm x4_z8 hm hXP
                         have x7_z9 : z9.cell? ⟨X, 7, none⟩ = some (.int .u64 (W2.hi 7)) := cell_pm x7_z8 hm hXP
                         have x8_z9 : z9.cell? ⟨X, 8, none⟩ = some (.int .u32 (W2.hi 8)) := cell_pm x8_z8 hm hXP
                         have x12_z9 : z9.cell? ⟨X, 12, none⟩ = some (.int .i64 (W2.hi 12)) := cell_pm x12_z8 hm hXP
                         have x13_z9 : z9.cell? ⟨X, 13, none⟩ = some (.int .i64 (W2.hi 13)) := cell_pm x13_z8 hm hXP
                         have x14_z9 : z9.cell? ⟨X, 14, none⟩ = some (.int .i64 (W2.hi 14)) := cell_pm x14_z8 hm hXP
                         have x15_z9 : z9.cell? ⟨X, 15, none⟩ = some (.int .i64 (W2.hi 15)) := cell_pm x15_z8 hm hXP
                         have x16_z9 : z9.cell? ⟨X, 16, none⟩ = some (.int .i64 (W2.hi 16)) := cell_pm x16_z8 hm hXP
                         have x17_z9 : z9.cell? ⟨X, 17, none⟩ = some (.slice (some ⟨g, 0, none⟩) B.np cap2) := cell_pm x17_z8 hm hXP
                         clear hP_z8 x0_z8 x4_z8 x7_z8 x8_z8 x12_z8 x13_z8 x14_z8 x15_z8 x16_z8 x17_z8 E_z8
                         clear hp hm))
                    have hLX : ((M.set 50 (.bool false)).set 88 (.int .i64 3)) = dstL W2 n L := by
                      rw [HSD.out]
                      exact (ch_3r HE86.out HRTT.out).symm
                    have hPf := hP_z9
                    rw [hLX] at hPf
                    clear hLX
                    have hrw := pv_row HQ.out HLL.out E_z9 hPf
                    have hlen := Lib.hid hPf.len
                    have hBz := HB.out.keep (fun n _ hn => (E_z9.1.heap (Nat.lt_of_lt_of_le hn HX1.out.size) (show ¬ n = P0 by have := HW0.out; omega)).trans (HX1.out.block n hn))
                    have hMz : Mut F w z9 := HM.out.trans (mut_new (HX1.out.mut F) E_z9.1 (by have := HW0.out; omega))
                    have hone := Lib.hid (show ∀ v ∈ (dstL W2 n L : List Value), v.oneCell' = true from HT0.out.one)
                    have c17y := x17_z9
                    obtain ⟨N, hN⟩ : ∃ N, dstL W2 n L = N := ⟨_, rfl⟩
                    rw [hN] at hrw hlen hone HS
                    clear hN hPf
                    refine wp_region_tail 7 (by kernel_rfl) (by kernel_rfl) ?_
                    intro w9 hw9
                    have hx9 : Ext z9 w9 := by
                      rw [hw9]
                      exact (Ext.refl _).drew
                    have HB2 := Lib.hid ((hx9.block _ (heap_lt hrw)).trans hrw)
                    have d17 := cell_ext c17y hx9
                    have hBy := Lib.hid (hBz.ext hx9)
                    have hMy := Lib.hid (hMz.trans (hx9.mut F))
                    have hth := Lib.hid (hBy.out.there hk)
                    clear hw9 hrw c17y hBz hMz hx9
                    simp only [List.take_succ_cons, List.take_zero, List.drop_succ_cons, List.drop_zero]
                    iterate 5 still_step
                    refine wpStill_load_row rfl 51 _ rfl P0 rfl _ _ _ HB2.out Try.underlying51 rfl (by rw [List.size_toArray, hlen.out]; exact size_port) ?_
                    simp only [ps]
                    iterate 1 still_step
                    refine wpStill_nil ?_
                    refine wpList_store_mid rfl 51 _ _ rfl g (n * 89) _ rfl rfl (by rw [List.size_toArray, hlen.out]; exact hth.out) (by rw [List.size_toArray, hlen.out]; exact size_port) (all_oneCell_toArray hone.out) ?_
                    go_wp2_with fail
                    go_roundw
                    case rel => exact ⟨n + 1, by omega, by go_num, by rw [HS.out]; exact hBy.out.setPort hk (l := N) hlen.out, Mut.setCells (.inl hBy.out.F2) _ _ hMy.out⟩
                    case measure => simp [intOf]; omega
              · have b0 : (x86 == 0) = false := ne_b e0
                have b1 : (x86 == 1) = false := ne_b e1
                have b2 : (x86 == 2) = false := ne_b e2
                have b3 : (x86 == 3) = false := ne_b e3
                as_aux_lemma =>
                  go_upto_region 44 with fail
                  have hLX : M = dstL W2 n L := by
                    rw [HSD.out]
                    exact (ch_n (by rw [HE86.out]; exact e0) (by rw [HE86.out]; exact e1) (by rw [HE86.out]; exact e2) (by rw [HE86.out]; exact e3)).symm
                  have hPf := hP_z7
                  rw [hLX] at hPf
                  clear hLX
                  have hrw := pv_row HQ.out HLL.out E_z7 hPf
                  have hlen := Lib.hid hPf.len
                  have hBz := HB.out.keep (fun n _ hn => (E_z7.1.heap (Nat.lt_of_lt_of_le hn HX1.out.size) (show ¬ n = P0 by have := HW0.out; omega)).trans (HX1.out.block n hn))
                  have hMz : Mut F w z7 := HM.out.trans (mut_new (HX1.out.mut F) E_z7.1 (by have := HW0.out; omega))
                  have hone := Lib.hid (show ∀ v ∈ (dstL W2 n L : List Value), v.oneCell' = true from HT0.out.one)
                  have c17y := x17_z7
                  obtain ⟨N, hN⟩ : ∃ N, dstL W2 n L = N := ⟨_, rfl⟩
                  rw [hN] at hrw hlen hone HS
                  clear hN hPf
                  refine wp_region_tail 7 (by kernel_rfl) (by kernel_rfl) ?_
                  intro w9 hw9
                  have hx9 : Ext z7 w9 := by
                    rw [hw9]
                    exact (Ext.refl _).drew
                  have HB2 := Lib.hid ((hx9.block _ (heap_lt hrw)).trans hrw)
                  have d17 := cell_ext c17y hx9
                  have hBy := Lib.hid (hBz.ext hx9)
                  have hMy := Lib.hid (hMz.trans (hx9.mut F))
                  have hth := Lib.hid (hBy.out.there hk)
                  clear hw9 hrw c17y hBz hMz hx9
                  simp only [List.take_succ_cons, List.take_zero, List.drop_succ_cons, List.drop_zero]
                  iterate 5 still_step
                  refine wpStill_load_row rfl 51 _ rfl P0 rfl _ _ _ HB2.out Try.underlying51 rfl (by rw [List.size_toArray, hlen.out]; exact size_port) ?_
                  simp only [ps]
                  iterate 1 still_step
                  refine wpStill_nil ?_
                  refine wpList_store_mid rfl 51 _ _ rfl g (n * 89) _ rfl rfl (by rw [List.size_toArray, hlen.out]; exact hth.out) (by rw [List.size_toArray, hlen.out]; exact size_port) (all_oneCell_toArray hone.out) ?_
                  go_wp2_with fail
                  go_roundw
                  case rel => exact ⟨n + 1, by omega, by go_num, by rw [HS.out]; exact hBy.out.setPort hk (l := N) hlen.out, Mut.setCells (.inl hBy.out.F2) _ _ hMy.out⟩
                  case measure => simp [intOf]; omega
    · rw [ha] at x12 HV2
      clear ha
      have hm8 : m < 1000 := by omega
      have ga := hR0 m hmk
      obtain ⟨cap5, c17, hc5, hc6⟩ := HC5.out.cell17 ok3
      obtain ⟨hX5, hg5, hne5⟩ := HC5.out.lt
      rw [np3] at c17 hc5
      have hm3 : m < B3.np := by rw [np3]; exact hmk
      have g3 : ∀ j, B3.gi m j = B.gi m j := fun j => by rw [← HB3.out]; exact HG1.out m j
      have cg : ∀ j, j < 89 → w5.cell? ⟨g, m * 89 + j, none⟩ = B3.ps[m * 89 + j]? := fun j hj => HC5.out.cellg (i := m * 89 + j) (lt89 hm3 hj)
      have RT := Lib.hid (show w5.rangeAt g (m * 89 + 78) [.int .i64 (B.gi m 78), .int .i64 (B.gi m 79), .int .i64 (B.gi m 80), .int .i64 (B.gi m 81)] by
        rw [← g3 78, ← g3 79, ← g3 80, ← g3 81]
        exact rcons ((cg 78 (by decide)).trans (ok3.gi hm3 78 rfl)) (rcons ((cg 79 (by decide)).trans (ok3.gi hm3 79 rfl)) (rcons ((cg 80 (by decide)).trans (ok3.gi hm3 80 rfl)) (rcons ((cg 81 (by decide)).trans (ok3.gi hm3 81 rfl)) rnil))))
      obtain ⟨C5, hC5, hC5b, hC5z⟩ := HC5.out.br (by rw [np3]; exact hp)
      have HC5r := Lib.hid hC5
      have HC5z := Lib.hid (show 13 + 4 ≤ C5.size by rw [hC5z, hl3]; exact (by decide : 13 + 4 ≤ 17 + 3))
      clear hC5 hC5b hC5z cg g3
      go_upto_region 12 with fail
      refine beginW (S := fun W' => Ext w5 W') (S2 := fun W' => Mut (fun n => n = X) w5 W') 14 (by kernel_rfl) ?_
      intro wd hqx
      have hq0 : Ext w5 wd := hqx
      refine takeW (i := 0) (z := 14) (v := (.pointer (some ⟨X, 0, none⟩))) rfl rfl (by kernel_rfl) (by kernel_rfl) (by kernel_rfl) (by kernel_rfl) (by kernel_rfl) (by kernel_rfl) (fun _ _ _ h => h) (Or.inl ⟨rfl, fun _ _ => rfl⟩) hq0 (hq0.mut _) ?_
      simp only [Act.put, List.setIfInBounds_toArray, List.set_cons_zero, List.set_cons_succ]
      refine takeW (i := 1) (z := 14) (v := (.pointer (some ⟨X, 0, none⟩))) rfl rfl (by kernel_rfl) (by kernel_rfl) (by kernel_rfl) (by kernel_rfl) (by kernel_rfl) (by kernel_rfl) (fun _ _ _ h => h) (Or.inl ⟨rfl, fun _ _ => rfl⟩) hq0 (hq0.mut _) ?_
      simp only [Act.put, List.setIfInBounds_toArray, List.set_cons_zero, List.set_cons_succ]
      refine takeW (i := 2) (z := 14) (v := (.pointer (some ⟨X, 0, none⟩))) rfl rfl (by kernel_rfl) (by kernel_rfl) (by kernel_rfl) (by kernel_rfl) (by kernel_rfl) (by kernel_rfl) (fun _ _ _ h => h) (Or.inl ⟨rfl, fun _ _ => rfl⟩) hq0 (hq0.mut _) ?_
      simp only [Act.put, List.setIfInBounds_toArray, List.set_cons_zero, List.set_cons_succ]
      refine takeW (i := 3) (z := 14) (v := (.pointer (some ⟨X, 17, none⟩))) rfl rfl (by kernel_rfl) (by kernel_rfl) (by kernel_rfl) (by kernel_rfl) (by kernel_rfl) (by kernel_rfl) (fun _ _ _ h => h) (Or.inl ⟨rfl, fun _ _ => rfl⟩) hq0 (hq0.mut _) ?_
      simp only [Act.put, List.setIfInBounds_toArray, List.set_cons_zero, List.set_cons_succ]
      refine takeW (i := 4) (z := 14) (v := _) rfl rfl (by kernel_rfl) (by kernel_rfl) (by kernel_rfl) (by kernel_rfl) (by kernel_rfl) (by kernel_rfl) (fun _ _ _ h => h) (yieldsIf_cell rfl 29 _ rfl ⟨X, 17, none⟩ rfl (.slice (some ⟨g, 0, none⟩) B.np cap5) _ (fun W' hW' => (hW'.cell (p := ⟨X, 17, none⟩) hX5).trans c17) Try.underlying29 rfl) hq0 (hq0.mut _) ?_
      simp only [Act.put, List.setIfInBounds_toArray, List.set_cons_zero, List.set_cons_succ]
      refine takeW (i := 5) (z := 14) (v := (.pointer (some ⟨X, 0, none⟩))) rfl rfl (by kernel_rfl) (by kernel_rfl) (by kernel_rfl) (by kernel_rfl) (by kernel_rfl) (by kernel_rfl) (fun _ _ _ h => h) (Or.inl ⟨rfl, fun _ _ => rfl⟩) hq0 (hq0.mut _) ?_
      simp only [Act.put, List.setIfInBounds_toArray, List.set_cons_zero, List.set_cons_succ]
      refine takeW (i := 6) (z := 14) (v := (.pointer (some ⟨X, 0, none⟩))) rfl rfl (by kernel_rfl) (by kernel_rfl) (by kernel_rfl) (by kernel_rfl) (by kernel_rfl) (by kernel_rfl) (fun _ _ _ h => h) (Or.inl ⟨rfl, fun _ _ => rfl⟩) hq0 (hq0.mut _) ?_
      simp only [Act.put, List.setIfInBounds_toArray, List.set_cons_zero, List.set_cons_succ]
      refine takeW (i := 7) (z := 14) (v := (.pointer (some ⟨X, 12, none⟩))) rfl rfl (by kernel_rfl) (by kernel_rfl) (by kernel_rfl) (by kernel_rfl) (by kernel_rfl) (by kernel_rfl) (fun _ _ _ h => h) (Or.inl ⟨rfl, fun _ _ => rfl⟩) hq0 (hq0.mut _) ?_
      simp only [Act.put, List.setIfInBounds_toArray, List.set_cons_zero, List.set_cons_succ]
      refine takeW (i := 8) (z := 14) (v := _) rfl rfl (by kernel_rfl) (by kernel_rfl) (by kernel_rfl) (by kernel_rfl) (by kernel_rfl) (by kernel_rfl) (fun _ _ _ h => h) (yieldsIf_cell rfl 3 _ rfl ⟨X, 12, none⟩ rfl (.int .i64 (m : Int)) _ (fun W' hW' => (hW'.cell (p := ⟨X, 12, none⟩) hX5).trans x12) Try.underlying3 rfl) hq0 (hq0.mut _) ?_
      simp only [Act.put, List.setIfInBounds_toArray, List.set_cons_zero, List.set_cons_succ]
      refine takeW (i := 9) (z := 14) (v := (.pointer (some ⟨g, m * 89, none⟩))) rfl rfl (by kernel_rfl) (by kernel_rfl) (by kernel_rfl) (by kernel_rfl) (by kernel_rfl) (by kernel_rfl) (fun _ _ _ h => h) (Or.inl ⟨rfl, fun W' _ => by go_simp⟩) hq0 (hq0.mut _) ?_
      simp only [Act.put, List.setIfInBounds_toArray, List.set_cons_zero, List.set_cons_succ]
      refine takeW (i := 10) (z := 14) (v := (.pointer (some ⟨g, m * 89 + 78, none⟩))) rfl rfl (by kernel_rfl) (by kernel_rfl) (by kernel_rfl) (by kernel_rfl) (by kernel_rfl) (by kernel_rfl) (fun _ _ _ h => h) (Or.inl ⟨rfl, fun _ _ => rfl⟩) hq0 (hq0.mut _) ?_
      simp only [Act.put, List.setIfInBounds_toArray, List.set_cons_zero, List.set_cons_succ]
      refine takeW (i := 11) (z := 14) (v := _) rfl rfl (by kernel_rfl) (by kernel_rfl) (by kernel_rfl) (by kernel_rfl) (by kernel_rfl) (by kernel_rfl) (fun _ _ _ h => h) (yieldsIf_load_mid rfl 24 _ rfl g (m * 89 + 78) rfl ([.int .i64 (B.gi m 78), .int .i64 (B.gi m 79), .int .i64 (B.gi m 80), .int .i64 (B.gi m 81)]) _ (fun W' hW' => rangeAt_ext RT.out hW' hg5) Try.underlying24 rfl (by kernel_rfl)) hq0 (hq0.mut _) ?_
      simp only [Act.put, List.setIfInBounds_toArray, List.set_cons_zero, List.set_cons_succ]
      refine takeWb (i := 12) (z := 14) (v := (.pointer (some ⟨X, 0, none⟩))) rfl (by kernel_rfl) (by kernel_rfl) (by kernel_rfl) (by kernel_rfl) (fun _ _ _ h => h) (Or.inl ⟨rfl, fun _ _ => rfl⟩) hq0 (hq0.mut _) ?_
      simp only [Act.put, List.setIfInBounds_toArray, List.set_cons_zero, List.set_cons_succ]
      refine takeW (i := 13) (z := 14) (v := (.pointer (some ⟨X, 13, none⟩))) rfl rfl (by kernel_rfl) (by kernel_rfl) (by kernel_rfl) (by kernel_rfl) (by kernel_rfl) (by kernel_rfl) (fun _ _ _ h => h) (Or.inl ⟨rfl, fun _ _ => rfl⟩) hq0 (hq0.mut _) ?_
      simp only [Act.put, List.setIfInBounds_toArray, List.set_cons_zero, List.set_cons_succ]
      refine runWl (z := 14) rfl rfl (by kernel_rfl) (fun K hK => ?_)
      refine wp_st_at rfl 24 _ _ rfl X 13 _ #[.int .i64 (B.gi m 78), .int .i64 (B.gi m 79), .int .i64 (B.gi m 80), .int .i64 (B.gi m 81)] _ (C5.toList.take 13 ++ [Value.int .i64 (B.gi m 78), Value.int .i64 (B.gi m 79), Value.int .i64 (B.gi m 80), Value.int .i64 (B.gi m 81)] ++ C5.toList.drop (13 + 4)).toArray _ rfl rfl rfl ((hq0.block _ (heap_lt HC5r.out)).trans HC5r.out) HC5z.out (by kernel_rfl) rfl rfl (fun ws14 hrow14 hm14 => ?_)
      have hr14 : Mut (fun n => n = X) w5 ws14 := (hq0.mut _).trans hm14
      refine hK.out _ _ hr14 (fun _ => ?_)
      try simp only [Act.put, List.setIfInBounds_toArray, List.set_cons_zero, List.set_cons_succ]
      clear hK K hm14
      refine wpAnyH_done (by kernel_rfl) ?_ _
      obtain ⟨W6, hW6⟩ : ∃ W, ws14 = W := ⟨_, rfl⟩
      rw [hW6] at hr14 hrow14 ⊢
      clear hW6
      have hm6 := hr14
      have hrow6 := hrow14
      clear hrow14 hr14 hq0 hqx
      have HC6 := Lib.hid (show BrG W6 F X g (B3.sethr 13 [.int .i64 (B.gi m 78), .int .i64 (B.gi m 79), .int .i64 (B.gi m 80), .int .i64 (B.gi m 81)]) from HC5.out.head hl3 (by exact (by decide : 13 + 4 ≤ 17)) hm6 (fun C hC => by
        rw [HC5r.out] at hC
        cases hC
        exact hrow6))
      have HM6 := Lib.hid (HM5.out.trans (hm6.mono (fun n _ e => by have h2 : n = X := e; rw [h2]; exact HC5.out.F1)))
      clear hrow6 hm6 HC5r RT x12 c17
      have x13 : W6.cell? ⟨X, 13, none⟩ = some (.int .i64 (B.gi m 78)) := by
        have hl6 : (B3.sethr 13 [.int .i64 (B.gi m 78), .int .i64 (B.gi m 79), .int .i64 (B.gi m 80), .int .i64 (B.gi m 81)]).ok := sethr_ok ok3 (j := 13) (m := 4) (by decide) rfl (sy_cons (sy_cons (sy_cons (sy_cons sy_nil (ho.gw hmk 81 rfl)) (ho.gw hmk 80 rfl)) (ho.gw hmk 79 rfl)) (ho.gw hmk 78 rfl))
        refine (HC6.out.cellX hl6 (i := 13) (by decide)).trans ((hl6.hi 13 rfl).trans ?_)
        rw [hi_sethr_in hl3 (by exact (by decide : 13 + 4 ≤ 17)) (by decide) (by exact (by decide : 13 < 13 + 4))]
        rfl
      have hl6 : (B3.sethr 13 [.int .i64 (B.gi m 78), .int .i64 (B.gi m 79), .int .i64 (B.gi m 80), .int .i64 (B.gi m 81)]).hd.length = 17 := sethr_len hl3 (by exact (by decide : 13 + 4 ≤ 17))
      have HW2 := Lib.hid (show W2 = (B3.sethr 13 [.int .i64 (B.gi m 78), .int .i64 (B.gi m 79), .int .i64 (B.gi m 80), .int .i64 (B.gi m 81)]).sethr 13 [.int .i64 (B.gi m 78 + 1)] by
        rw [HV2.out, ← HB3.out]
        unfold rtL
        rw [if_neg (by omega), Int.toNat_natCast, HG1.out, HG1.out, HG1.out, HG1.out]
        unfold Br.sethr
        dsimp only
        rw [setL_over (by rw [setL_len (by rw [hl1]; exact (by decide : 13 + 4 ≤ 17)), hl1]; exact (by decide : 13 + 4 ≤ 17)) (by exact (by decide : 1 ≤ 4)), setL_over (by rw [hl1]; exact (by decide : 13 + 4 ≤ 17)) (by exact (by decide : 4 ≤ 4))]
        rfl)
      go_wp2_with (first
        | fail
        | ((with_reducible refine at_store 3 ?_); refine st_hd rfl rfl 3 _ _ rfl F X g (B3.sethr 13 [.int .i64 (B.gi m 78), .int .i64 (B.gi m 79), .int .i64 (B.gi m 80), .int .i64 (B.gi m 81)]) HC6.out hl6 13 _ #[.int .i64 (B.gi m 78 + 1)] rfl rfl rfl (by exact (by decide : 13 + 1 ≤ 17)) (by kernel_rfl) rfl ?_
           intro w7 hB7 hm7
           have HC7 := Lib.hid (show BrG w7 F X g W2 by
             rw [HW2.out]
             exact hB7)
           have HM7 := Lib.hid (HM6.out.trans (hm7.mono (fun n _ e => by have h2 : n = X := e; rw [h2]; exact HC6.out.F1)))
           clear hB7 hm7 x13))
      have HE0 := Lib.hid HM7.out
      go_loopw [5] (fun v wr => ∃ n : Nat, n ≤ B.np ∧ v = .int .i64 n ∧ BrG wr F X g (pdst W2 n) ∧ Mut F w wr) (fun v _ => B.np - (intOf v).toNat)
      case atStart => exact ⟨0, by omega, rfl, HC7.out, HE0.out⟩
      case round =>
        obtain ⟨n, hn2, rfl, hB, hm⟩ := hrel
        have HB := Lib.hid hB
        have HM := Lib.hid hm
        clear hB hm
        have okn := pdst_ok HOK2.out n (by rw [npD]; exact hn2)
        have npn : (pdst W2 n).np = B.np := (pdst_np W2 n).trans npD
        obtain ⟨hX, hg, hne⟩ := HB.out.lt
        obtain ⟨cap2, c17, hc3, hc4⟩ := HB.out.cell17 okn
        rw [npn] at c17 hc3
        by_cases hlt : n < B.np
        rotate_left
        · obtain rfl : n = B.np := by omega
          go_wp2_with fail
          go_ret
          rw [HRS.out]
          exact ⟨rfl, HB.out, HM.out⟩
        have hk : n < (pdst W2 n).np := by rw [npn]; exact hlt
        have hn8 : n < 1000 := by omega
        have HS := Lib.hid (show pdst W2 (n + 1) = (pdst W2 n).setPort n (dstL W2 n (port (pdst W2 n).ps n)) from rfl)
        have hT := br_typed okn hk
        have hpr0 := HB.out.range hk
        have hpt := port_typed okn hk
        obtain ⟨L, hL⟩ : ∃ L, port (pdst W2 n).ps n = L := ⟨_, rfl⟩
        rw [hL] at hT hpr0 hpt HS
        clear hL
        have hpr := Lib.hid hpr0
        have hpz := Lib.hid (show (Try.prog.info? 51).map (·.size) = some L.length by rw [tpL hT]; exact size_port)
        have hps := Lib.hid (show (Try.prog.info? 51).map (·.size) = some L.toArray.size by rw [List.size_toArray]; exact hpz.out)
        have hpl := Lib.hid (show PZ.size = L.toArray.size by rw [size_PZ, List.size_toArray]; exact (tpL hT).symm)
        have hpo := Lib.hid (all_oneCell_toArray hpt.one)
        have hzp := zero_port
        clear hpr0 hpt
        have x0 : wr.cell? ⟨X, 0, none⟩ = some (.int .u64 (W2.hi 0)) := by
          have := (HB.out.cellX okn (i := 0) (by decide)).trans (okn.hi 0 rfl)
          rw [pdst_hi] at this
          exact this
        have Y0 := Lib.hid x0
        clear x0
        have x4 : wr.cell? ⟨X, 4, none⟩ = some (.int .i64 (W2.hi 4)) := by
          have := (HB.out.cellX okn (i := 4) (by decide)).trans (okn.hi 4 rfl)
          rw [pdst_hi] at this
          exact this
        have Y4 := Lib.hid x4
        clear x4
        have x7 : wr.cell? ⟨X, 7, none⟩ = some (.int .u64 (W2.hi 7)) := by
          have := (HB.out.cellX okn (i := 7) (by decide)).trans (okn.hi 7 rfl)
          rw [pdst_hi] at this
          exact this
        have Y7 := Lib.hid x7
        clear x7
        have x8 : wr.cell? ⟨X, 8, none⟩ = some (.int .u32 (W2.hi 8)) := by
          have := (HB.out.cellX okn (i := 8) (by decide)).trans (okn.hi 8 rfl)
          rw [pdst_hi] at this
          exact this
        have Y8 := Lib.hid x8
        clear x8
        have x12 : wr.cell? ⟨X, 12, none⟩ = some (.int .i64 (W2.hi 12)) := by
          have := (HB.out.cellX okn (i := 12) (by decide)).trans (okn.hi 12 rfl)
          rw [pdst_hi] at this
          exact this
        have Y12 := Lib.hid x12
        clear x12
        have x13 : wr.cell? ⟨X, 13, none⟩ = some (.int .i64 (W2.hi 13)) := by
          have := (HB.out.cellX okn (i := 13) (by decide)).trans (okn.hi 13 rfl)
          rw [pdst_hi] at this
          exact this
        have Y13 := Lib.hid x13
        clear x13
        have x14 : wr.cell? ⟨X, 14, none⟩ = some (.int .i64 (W2.hi 14)) := by
          have := (HB.out.cellX okn (i := 14) (by decide)).trans (okn.hi 14 rfl)
          rw [pdst_hi] at this
          exact this
        have Y14 := Lib.hid x14
        clear x14
        have x15 : wr.cell? ⟨X, 15, none⟩ = some (.int .i64 (W2.hi 15)) := by
          have := (HB.out.cellX okn (i := 15) (by decide)).trans (okn.hi 15 rfl)
          rw [pdst_hi] at this
          exact this
        have Y15 := Lib.hid x15
        clear x15
        have x16 : wr.cell? ⟨X, 16, none⟩ = some (.int .i64 (W2.hi 16)) := by
          have := (HB.out.cellX okn (i := 16) (by decide)).trans (okn.hi 16 rfl)
          rw [pdst_hi] at this
          exact this
        have Y16 := Lib.hid x16
        clear x16
        have Y17 := Lib.hid c17
        have HLEN := Lib.hid (tpL hT)
        have HL_0 := Lib.hid (tpI hT 0 rfl)
        have HT := Lib.hid (dtl_typed HOK2.out hT)
        have HT0 := Lib.hid (@dst_typed _ HOK2.out n _ hT)
        have gid := wf_u64 (HOK2.out.hw 0 (K := .u64) rfl)
        clear hT
        go_upto_region 20 with (first
          | fail
          | ((with_reducible refine at_load 51 ?_); refine wpList_load_mid rfl 51 _ rfl g (n * 89) rfl L _ hpr.out Try.underlying51 rfl hpz.out ?_)
          | ((with_reducible refine at_store 51 ?_); refine wpList_store_new3 rfl rfl 51 _ _ _ rfl PZ L.toArray _ rfl ?_ rfl hps.out hpl.out (by rw [Array.all_toList]; exact hpo.out) ?_; · rfl
             intro z1 hz1
             have hx1 : Ext wr z1 := by rw [hz1]; exact (Ext.refl _).alloc _
             have hq := heap_alloc_new wr (.cells L.toArray 51)
             rw [← hz1] at hq
             obtain ⟨P0, hP0⟩ : ∃ n, wr.heap.size = n := ⟨_, rfl⟩
             rw [hP0] at hq ⊢
             have hP_z1 : Pv z1 P0 0 L := Pv.box hq HLEN.out
             have HQ := Lib.hid hq
             have hXP : X ≠ P0 := by omega
             have hgP : g ≠ P0 := by omega
             have HW0 := Lib.hid hP0
             have hX1 : X < z1.heap.size := Nat.lt_of_lt_of_le hX hx1.size
             have x0_z1 : z1.cell? ⟨X, 0, none⟩ = some (.int .u64 (W2.hi 0)) := cell_ext Y0.out hx1
             have x4_z1 : z1.cell? ⟨X, 4, none⟩ = some (.int .i64 (W2.hi 4)) := cell_ext Y4.out hx1
             have x7_z1 : z1.cell? ⟨X, 7, none⟩ = some (.int .u64 (W2.hi 7)) := cell_ext Y7.out hx1
             have x8_z1 : z1.cell? ⟨X, 8, none⟩ = some (.int .u32 (W2.hi 8)) := cell_ext Y8.out hx1
             have x12_z1 : z1.cell? ⟨X, 12, none⟩ = some (.int .i64 (W2.hi 12)) := cell_ext Y12.out hx1
             have x13_z1 : z1.cell? ⟨X, 13, none⟩ = some (.int .i64 (W2.hi 13)) := cell_ext Y13.out hx1
             have x14_z1 : z1.cell? ⟨X, 14, none⟩ = some (.int .i64 (W2.hi 14)) := cell_ext Y14.out hx1
             have x15_z1 : z1.cell? ⟨X, 15, none⟩ = some (.int .i64 (W2.hi 15)) := cell_ext Y15.out hx1
             have x16_z1 : z1.cell? ⟨X, 16, none⟩ = some (.int .i64 (W2.hi 16)) := cell_ext Y16.out hx1
             have x17_z1 : z1.cell? ⟨X, 17, none⟩ = some (.slice (some ⟨g, 0, none⟩) B.np cap2) := cell_ext Y17.out hx1
             have HX1 := Lib.hid hx1
             clear hz1 hq hP0 c17)
          | ((with_reducible refine at_store 4 ?_); refine st_pv rfl rfl 4 _ _ rfl P0 0 43 _ hP_z1 _ #[.bool false] rfl rfl rfl (by exact (by decide : 43 + 1 ≤ 89)) (by kernel_rfl) rfl ?_
             intro z2 hp hm
             replace hp := pv_one hp HLEN.out (by decide)
             have hP_z2 : Pv z2 P0 0 (L.set 43 (.bool false)) := hp
             have E_z2 : Pm P0 0 z1 z2 := hm
             have x0_z2 : z2.cell? ⟨X, 0, none⟩ = some (.int .u64 (W2.hi 0)) := cell_pm x0_z1 hm hXP
             have x4_z2 : z2.cell? ⟨X, 4, none⟩ = some (.int .i64 (W2.hi 4)) := cell_pm x4_z1 hm hXP
             have x7_z2 : z2.cell? ⟨X, 7, none⟩ = some (.int .u64 (W2.hi 7)) := cell_pm x7_z1 hm hXP
             have x8_z2 : z2.cell? ⟨X, 8, none⟩ = some (.int .u32 (W2.hi 8)) := cell_pm x8_z1 hm hXP
             have x12_z2 : z2.cell? ⟨X, 12, none⟩ = some (.int .i64 (W2.hi 12)) := cell_pm x12_z1 hm hXP
             have x13_z2 : z2.cell? ⟨X, 13, none⟩ = some (.int .i64 (W2.hi 13)) := cell_pm x13_z1 hm hXP
             have x14_z2 : z2.cell? ⟨X, 14, none⟩ = some (.int .i64 (W2.hi 14)) := cell_pm x14_z1 hm hXP
             have x15_z2 : z2.cell? ⟨X, 15, none⟩ = some (.int .i64 (W2.hi 15)) := cell_pm x15_z1 hm hXP
             have x16_z2 : z2.cell? ⟨X, 16, none⟩ = some (.int .i64 (W2.hi 16)) := cell_pm x16_z1 hm hXP
             have x17_z2 : z2.cell? ⟨X, 17, none⟩ = some (.slice (some ⟨g, 0, none⟩) B.np cap2) := cell_pm x17_z1 hm hXP
             clear hP_z1 x0_z1 x4_z1 x7_z1 x8_z1 x12_z1 x13_z1 x14_z1 x15_z1 x16_z1 x17_z1
             clear hp hm)
          | ((with_reducible refine at_store 4 ?_); refine st_pv rfl rfl 4 _ _ rfl P0 0 44 _ hP_z2 _ #[.bool true] rfl rfl rfl (by exact (by decide : 44 + 1 ≤ 89)) (by kernel_rfl) rfl ?_
             intro z3 hp hm
             replace hp := pv_one hp (len_set' HLEN.out) (by decide)
             have hP_z3 : Pv z3 P0 0 ((L.set 43 (.bool false)).set 44 (.bool true)) := hp
             have E_z3 : Pm P0 0 z1 z3 := E_z2.trans hm
             have x0_z3 : z3.cell? ⟨X, 0, none⟩ = some (.int .u64 (W2.hi 0)) := cell_pm x0_z2 hm hXP
             have x4_z3 : z3.cell? ⟨X, 4, none⟩ = some (.int .i64 (W2.hi 4)) := cell_pm x4_z2 hm hXP
             have x7_z3 : z3.cell? ⟨X, 7, none⟩ = some (.int .u64 (W2.hi 7)) := cell_pm x7_z2 hm hXP
             have x8_z3 : z3.cell? ⟨X, 8, none⟩ = some (.int .u32 (W2.hi 8)) := cell_pm x8_z2 hm hXP
             have x12_z3 : z3.cell? ⟨X, 12, none⟩ = some (.int .i64 (W2.hi 12)) := cell_pm x12_z2 hm hXP
             have x13_z3 : z3.cell? ⟨X, 13, none⟩ = some (.int .i64 (W2.hi 13)) := cell_pm x13_z2 hm hXP
             have x14_z3 : z3.cell? ⟨X, 14, none⟩ = some (.int .i64 (W2.hi 14)) := cell_pm x14_z2 hm hXP
             have x15_z3 : z3.cell? ⟨X, 15, none⟩ = some (.int .i64 (W2.hi 15)) := cell_pm x15_z2 hm hXP
             have x16_z3 : z3.cell? ⟨X, 16, none⟩ = some (.int .i64 (W2.hi 16)) := cell_pm x16_z2 hm hXP
             have x17_z3 : z3.cell? ⟨X, 17, none⟩ = some (.slice (some ⟨g, 0, none⟩) B.np cap2) := cell_pm x17_z2 hm hXP
             clear hP_z2 x0_z2 x4_z2 x7_z2 x8_z2 x12_z2 x13_z2 x14_z2 x15_z2 x16_z2 x17_z2 E_z2
             clear hp hm))
        refine beginW (S := fun W' => Ext z3 W') (S2 := fun W' => Pm P0 0 z3 W') 18 (by kernel_rfl) ?_
        intro wd hqx
        have hq0 : Ext z3 wd := hqx
        refine takeW (i := 0) (z := 18) (v := (.pointer (some ⟨X, 0, none⟩))) rfl rfl (by kernel_rfl) (by kernel_rfl) (by kernel_rfl) (by kernel_rfl) (by kernel_rfl) (by kernel_rfl) (fun _ _ _ h => h) (Or.inl ⟨rfl, fun _ _ => rfl⟩) hq0 (Ext.pm hq0 P0 0) ?_
        simp only [Act.put, List.setIfInBounds_toArray, List.set_cons_zero, List.set_cons_succ]
        refine takeW (i := 1) (z := 18) (v := (.pointer (some ⟨X, 0, none⟩))) rfl rfl (by kernel_rfl) (by kernel_rfl) (by kernel_rfl) (by kernel_rfl) (by kernel_rfl) (by kernel_rfl) (fun _ _ _ h => h) (Or.inl ⟨rfl, fun _ _ => rfl⟩) hq0 (Ext.pm hq0 P0 0) ?_
        simp only [Act.put, List.setIfInBounds_toArray, List.set_cons_zero, List.set_cons_succ]
        refine takeW (i := 2) (z := 18) (v := (.pointer (some ⟨X, 7, none⟩))) rfl rfl (by kernel_rfl) (by kernel_rfl) (by kernel_rfl) (by kernel_rfl) (by kernel_rfl) (by kernel_rfl) (fun _ _ _ h => h) (Or.inl ⟨rfl, fun _ _ => rfl⟩) hq0 (Ext.pm hq0 P0 0) ?_
        simp only [Act.put, List.setIfInBounds_toArray, List.set_cons_zero, List.set_cons_succ]
        refine takeW (i := 3) (z := 18) (v := (.pointer (some ⟨X, 7, none⟩))) rfl rfl (by kernel_rfl) (by kernel_rfl) (by kernel_rfl) (by kernel_rfl) (by kernel_rfl) (by kernel_rfl) (fun _ _ _ h => h) (Or.inl ⟨rfl, fun _ _ => rfl⟩) hq0 (Ext.pm hq0 P0 0) ?_
        simp only [Act.put, List.setIfInBounds_toArray, List.set_cons_zero, List.set_cons_succ]
        refine takeW (i := 4) (z := 18) (v := _) rfl rfl (by kernel_rfl) (by kernel_rfl) (by kernel_rfl) (by kernel_rfl) (by kernel_rfl) (by kernel_rfl) (fun _ _ _ h => h) (yieldsIf_cell rfl 22 _ rfl ⟨X, 7, none⟩ rfl (.int .u64 (W2.hi 7)) _ (fun W' hW' => cell_ext x7_z3 hW') Try.underlying22 rfl) hq0 (Ext.pm hq0 P0 0) ?_
        simp only [Act.put, List.setIfInBounds_toArray, List.set_cons_zero, List.set_cons_succ]
        refine takeW (i := 5) (z := 18) (v := (.pointer (some ⟨X, 0, none⟩))) rfl rfl (by kernel_rfl) (by kernel_rfl) (by kernel_rfl) (by kernel_rfl) (by kernel_rfl) (by kernel_rfl) (fun _ _ _ h => h) (Or.inl ⟨rfl, fun _ _ => rfl⟩) hq0 (Ext.pm hq0 P0 0) ?_
        simp only [Act.put, List.setIfInBounds_toArray, List.set_cons_zero, List.set_cons_succ]
        refine takeW (i := 6) (z := 18) (v := (.pointer (some ⟨X, 0, none⟩))) rfl rfl (by kernel_rfl) (by kernel_rfl) (by kernel_rfl) (by kernel_rfl) (by kernel_rfl) (by kernel_rfl) (fun _ _ _ h => h) (Or.inl ⟨rfl, fun _ _ => rfl⟩) hq0 (Ext.pm hq0 P0 0) ?_
        simp only [Act.put, List.setIfInBounds_toArray, List.set_cons_zero, List.set_cons_succ]
        refine takeW (i := 7) (z := 18) (v := (.pointer (some ⟨X, 7, none⟩))) rfl rfl (by kernel_rfl) (by kernel_rfl) (by kernel_rfl) (by kernel_rfl) (by kernel_rfl) (by kernel_rfl) (fun _ _ _ h => h) (Or.inl ⟨rfl, fun _ _ => rfl⟩) hq0 (Ext.pm hq0 P0 0) ?_
        simp only [Act.put, List.setIfInBounds_toArray, List.set_cons_zero, List.set_cons_succ]
        refine takeW (i := 8) (z := 18) (v := (.pointer (some ⟨X, 8, none⟩))) rfl rfl (by kernel_rfl) (by kernel_rfl) (by kernel_rfl) (by kernel_rfl) (by kernel_rfl) (by kernel_rfl) (fun _ _ _ h => h) (Or.inl ⟨rfl, fun _ _ => rfl⟩) hq0 (Ext.pm hq0 P0 0) ?_
        simp only [Act.put, List.setIfInBounds_toArray, List.set_cons_zero, List.set_cons_succ]
        refine takeW (i := 9) (z := 18) (v := _) rfl rfl (by kernel_rfl) (by kernel_rfl) (by kernel_rfl) (by kernel_rfl) (by kernel_rfl) (by kernel_rfl) (fun _ _ _ h => h) (yieldsIf_cell rfl 25 _ rfl ⟨X, 8, none⟩ rfl (.int .u32 (W2.hi 8)) _ (fun W' hW' => cell_ext x8_z3 hW') Try.underlying25 rfl) hq0 (Ext.pm hq0 P0 0) ?_
        simp only [Act.put, List.setIfInBounds_toArray, List.set_cons_zero, List.set_cons_succ]
        refine takeW (i := 10) (z := 18) (v := (.pointer (some ⟨X, 0, none⟩))) rfl rfl (by kernel_rfl) (by kernel_rfl) (by kernel_rfl) (by kernel_rfl) (by kernel_rfl) (by kernel_rfl) (fun _ _ _ h => h) (Or.inl ⟨rfl, fun _ _ => rfl⟩) hq0 (Ext.pm hq0 P0 0) ?_
        simp only [Act.put, List.setIfInBounds_toArray, List.set_cons_zero, List.set_cons_succ]
        refine takeW (i := 11) (z := 18) (v := (.pointer (some ⟨X, 0, none⟩))) rfl rfl (by kernel_rfl) (by kernel_rfl) (by kernel_rfl) (by kernel_rfl) (by kernel_rfl) (by kernel_rfl) (fun _ _ _ h => h) (Or.inl ⟨rfl, fun _ _ => rfl⟩) hq0 (Ext.pm hq0 P0 0) ?_
        simp only [Act.put, List.setIfInBounds_toArray, List.set_cons_zero, List.set_cons_succ]
        refine takeW (i := 12) (z := 18) (v := (.pointer (some ⟨X, 0, none⟩))) rfl rfl (by kernel_rfl) (by kernel_rfl) (by kernel_rfl) (by kernel_rfl) (by kernel_rfl) (by kernel_rfl) (fun _ _ _ h => h) (Or.inl ⟨rfl, fun _ _ => rfl⟩) hq0 (Ext.pm hq0 P0 0) ?_
        simp only [Act.put, List.setIfInBounds_toArray, List.set_cons_zero, List.set_cons_succ]
        refine takeW (i := 13) (z := 18) (v := _) rfl rfl (by kernel_rfl) (by kernel_rfl) (by kernel_rfl) (by kernel_rfl) (by kernel_rfl) (by kernel_rfl) (fun _ _ _ h => h) (yieldsIf_cell rfl 22 _ rfl ⟨X, 0, none⟩ rfl (.int .u64 (W2.hi 0)) _ (fun W' hW' => cell_ext x0_z3 hW') Try.underlying22 rfl) hq0 (Ext.pm hq0 P0 0) ?_
        simp only [Act.put, List.setIfInBounds_toArray, List.set_cons_zero, List.set_cons_succ]
        refine takeW (i := 14) (z := 18) (v := (.pointer (some ⟨P0, 0, none⟩))) rfl rfl (by kernel_rfl) (by kernel_rfl) (by kernel_rfl) (by kernel_rfl) (by kernel_rfl) (by kernel_rfl) (fun _ _ _ h => h) (Or.inl ⟨rfl, fun _ _ => rfl⟩) hq0 (Ext.pm hq0 P0 0) ?_
        simp only [Act.put, List.setIfInBounds_toArray, List.set_cons_zero, List.set_cons_succ]
        refine takeW (i := 15) (z := 18) (v := _) rfl rfl (by kernel_rfl) (by kernel_rfl) (by kernel_rfl) (by kernel_rfl) (by kernel_rfl) (by kernel_rfl) (fun _ _ _ h => h) (yieldsIf_cell rfl 26 _ rfl ⟨P0, 0, none⟩ rfl (.int .u16 (pI L 0)) _ (fun W' hW' => ((hP_z3.ext hW').cell (j := 0) (by decide)).trans ((get_ne (by decide)).trans ((get_ne (by decide)).trans HL_0.out))) Try.underlying26 rfl) hq0 (Ext.pm hq0 P0 0) ?_
        simp only [Act.put, List.setIfInBounds_toArray, List.set_cons_zero, List.set_cons_succ]
        refine takeW (i := 16) (z := 18) (v := (.agg #[.int .u64 (W2.hi 7), .int .u32 (W2.hi 8), .int .u64 (W2.hi 0), .int .u16 (pI L 0), .int .u16 0])) rfl rfl (by kernel_rfl) (by kernel_rfl) (by kernel_rfl) (by kernel_rfl) (by kernel_rfl) (by kernel_rfl) (fun _ _ _ h => h) (yieldsIf_build rfl 28 _ rfl [(0, .int .u64 (W2.hi 7)), (1, .int .u32 (W2.hi 8)), (2, .int .u64 (W2.hi 0)), (3, .int .u16 (pI L 0))] rfl #[.int .u64 (W2.hi 7), .int .u32 (W2.hi 8), .int .u64 (W2.hi 0), .int .u16 (pI L 0), .int .u16 0] (by kernel_rfl)) hq0 (Ext.pm hq0 P0 0) ?_
        simp only [Act.put, List.setIfInBounds_toArray, List.set_cons_zero, List.set_cons_succ]
        refine takeW (i := 17) (z := 18) (v := (.pointer (some ⟨P0, 73, none⟩))) rfl rfl (by kernel_rfl) (by kernel_rfl) (by kernel_rfl) (by kernel_rfl) (by kernel_rfl) (by kernel_rfl) (fun _ _ _ h => h) (Or.inl ⟨rfl, fun _ _ => rfl⟩) hq0 (Ext.pm hq0 P0 0) ?_
        simp only [Act.put, List.setIfInBounds_toArray, List.set_cons_zero, List.set_cons_succ]
        refine runWl (z := 18) rfl rfl (by kernel_rfl) (fun K hK => ?_)
        refine wp_st_pv rfl 28 _ _ rfl P0 0 73 _ (hP_z3.ext hq0) _ #[.int .u64 (W2.hi 7), .int .u32 (W2.hi 8), .int .u64 (W2.hi 0), .int .u16 (pI L 0), .int .u16 0] rfl rfl rfl (by exact (by decide : 73 + 5 ≤ 89)) (by kernel_rfl) rfl (fun ws18 hp18 hm18 => ?_)
        have hr18 : Pm P0 0 z3 ws18 := (Ext.pm hq0 P0 0).trans hm18
        refine hK.out _ _ hr18 (fun _ => ?_)
        try simp only [Act.put, List.setIfInBounds_toArray, List.set_cons_zero, List.set_cons_succ]
        clear hK K
        refine wpAnyH_done (by kernel_rfl) ?_ _
        generalize ws18 = z4 at *
        have hP_z4 : Pv z4 P0 0 (setL ((L.set 43 (.bool false)).set 44 (.bool true)) 73 [.int .u64 (W2.hi 7), .int .u32 (W2.hi 8), .int .u64 (W2.hi 0), .int .u16 (pI L 0), .int .u16 0]) := hp18
        have E_z4 : Pm P0 0 z1 z4 := (E_z3.ext hq0).trans hm18
        have x0_z4 : z4.cell? ⟨X, 0, none⟩ = some (.int .u64 (W2.hi 0)) := cell_pm (cell_ext x0_z3 hq0) hm18 hXP
        have x4_z4 : z4.cell? ⟨X, 4, none⟩ = some (.int .i64 (W2.hi 4)) := cell_pm (cell_ext x4_z3 hq0) hm18 hXP
        have x7_z4 : z4.cell? ⟨X, 7, none⟩ = some (.int .u64 (W2.hi 7)) := cell_pm (cell_ext x7_z3 hq0) hm18 hXP
        have x8_z4 : z4.cell? ⟨X, 8, none⟩ = some (.int .u32 (W2.hi 8)) := cell_pm (cell_ext x8_z3 hq0) hm18 hXP
        have x12_z4 : z4.cell? ⟨X, 12, none⟩ = some (.int .i64 (W2.hi 12)) := cell_pm (cell_ext x12_z3 hq0) hm18 hXP
        have x13_z4 : z4.cell? ⟨X, 13, none⟩ = some (.int .i64 (W2.hi 13)) := cell_pm (cell_ext x13_z3 hq0) hm18 hXP
        have x14_z4 : z4.cell? ⟨X, 14, none⟩ = some (.int .i64 (W2.hi 14)) := cell_pm (cell_ext x14_z3 hq0) hm18 hXP
        have x15_z4 : z4.cell? ⟨X, 15, none⟩ = some (.int .i64 (W2.hi 15)) := cell_pm (cell_ext x15_z3 hq0) hm18 hXP
        have x16_z4 : z4.cell? ⟨X, 16, none⟩ = some (.int .i64 (W2.hi 16)) := cell_pm (cell_ext x16_z3 hq0) hm18 hXP
        have x17_z4 : z4.cell? ⟨X, 17, none⟩ = some (.slice (some ⟨g, 0, none⟩) B.np cap2) := cell_pm (cell_ext x17_z3 hq0) hm18 hXP
        clear hP_z3 x0_z3 x4_z3 x7_z3 x8_z3 x12_z3 x13_z3 x14_z3 x15_z3 x16_z3 x17_z3 E_z3
        clear hq0 hqx hm18 hp18 hr18
        go_wp2_with fail
        refine beginW (S := fun W' => Ext z4 W') (S2 := fun W' => Pm P0 0 z4 W') 22 (by kernel_rfl) ?_
        intro wd hqx
        have hq0 : Ext z4 wd := hqx
        refine takeW (i := 0) (z := 22) (v := (.pointer (some ⟨X, 0, none⟩))) rfl rfl (by kernel_rfl) (by kernel_rfl) (by kernel_rfl) (by kernel_rfl) (by kernel_rfl) (by kernel_rfl) (fun _ _ _ h => h) (Or.inl ⟨rfl, fun _ _ => rfl⟩) hq0 (Ext.pm hq0 P0 0) ?_
        simp only [Act.put, List.setIfInBounds_toArray, List.set_cons_zero, List.set_cons_succ]
        refine takeW (i := 1) (z := 22) (v := (.pointer (some ⟨X, 0, none⟩))) rfl rfl (by kernel_rfl) (by kernel_rfl) (by kernel_rfl) (by kernel_rfl) (by kernel_rfl) (by kernel_rfl) (fun _ _ _ h => h) (Or.inl ⟨rfl, fun _ _ => rfl⟩) hq0 (Ext.pm hq0 P0 0) ?_
        simp only [Act.put, List.setIfInBounds_toArray, List.set_cons_zero, List.set_cons_succ]
        refine takeW (i := 2) (z := 22) (v := (.pointer (some ⟨X, 13, none⟩))) rfl rfl (by kernel_rfl) (by kernel_rfl) (by kernel_rfl) (by kernel_rfl) (by kernel_rfl) (by kernel_rfl) (fun _ _ _ h => h) (Or.inl ⟨rfl, fun _ _ => rfl⟩) hq0 (Ext.pm hq0 P0 0) ?_
        simp only [Act.put, List.setIfInBounds_toArray, List.set_cons_zero, List.set_cons_succ]
        refine takeW (i := 3) (z := 22) (v := (.pointer (some ⟨X, 13, none⟩))) rfl rfl (by kernel_rfl) (by kernel_rfl) (by kernel_rfl) (by kernel_rfl) (by kernel_rfl) (by kernel_rfl) (fun _ _ _ h => h) (Or.inl ⟨rfl, fun _ _ => rfl⟩) hq0 (Ext.pm hq0 P0 0) ?_
        simp only [Act.put, List.setIfInBounds_toArray, List.set_cons_zero, List.set_cons_succ]
        refine takeW (i := 4) (z := 22) (v := _) rfl rfl (by kernel_rfl) (by kernel_rfl) (by kernel_rfl) (by kernel_rfl) (by kernel_rfl) (by kernel_rfl) (fun _ _ _ h => h) (yieldsIf_cell rfl 3 _ rfl ⟨X, 13, none⟩ rfl (.int .i64 (W2.hi 13)) _ (fun W' hW' => cell_ext x13_z4 hW') Try.underlying3 rfl) hq0 (Ext.pm hq0 P0 0) ?_
        simp only [Act.put, List.setIfInBounds_toArray, List.set_cons_zero, List.set_cons_succ]
        refine takeW (i := 5) (z := 22) (v := (.pointer (some ⟨X, 0, none⟩))) rfl rfl (by kernel_rfl) (by kernel_rfl) (by kernel_rfl) (by kernel_rfl) (by kernel_rfl) (by kernel_rfl) (fun _ _ _ h => h) (Or.inl ⟨rfl, fun _ _ => rfl⟩) hq0 (Ext.pm hq0 P0 0) ?_
        simp only [Act.put, List.setIfInBounds_toArray, List.set_cons_zero, List.set_cons_succ]
        refine takeW (i := 6) (z := 22) (v := (.pointer (some ⟨X, 0, none⟩))) rfl rfl (by kernel_rfl) (by kernel_rfl) (by kernel_rfl) (by kernel_rfl) (by kernel_rfl) (by kernel_rfl) (fun _ _ _ h => h) (Or.inl ⟨rfl, fun _ _ => rfl⟩) hq0 (Ext.pm hq0 P0 0) ?_
        simp only [Act.put, List.setIfInBounds_toArray, List.set_cons_zero, List.set_cons_succ]
        refine takeW (i := 7) (z := 22) (v := (.pointer (some ⟨X, 13, none⟩))) rfl rfl (by kernel_rfl) (by kernel_rfl) (by kernel_rfl) (by kernel_rfl) (by kernel_rfl) (by kernel_rfl) (fun _ _ _ h => h) (Or.inl ⟨rfl, fun _ _ => rfl⟩) hq0 (Ext.pm hq0 P0 0) ?_
        simp only [Act.put, List.setIfInBounds_toArray, List.set_cons_zero, List.set_cons_succ]
        refine takeW (i := 8) (z := 22) (v := (.pointer (some ⟨X, 14, none⟩))) rfl rfl (by kernel_rfl) (by kernel_rfl) (by kernel_rfl) (by kernel_rfl) (by kernel_rfl) (by kernel_rfl) (fun _ _ _ h => h) (Or.inl ⟨rfl, fun _ _ => rfl⟩) hq0 (Ext.pm hq0 P0 0) ?_
        simp only [Act.put, List.setIfInBounds_toArray, List.set_cons_zero, List.set_cons_succ]
        refine takeW (i := 9) (z := 22) (v := _) rfl rfl (by kernel_rfl) (by kernel_rfl) (by kernel_rfl) (by kernel_rfl) (by kernel_rfl) (by kernel_rfl) (fun _ _ _ h => h) (yieldsIf_cell rfl 3 _ rfl ⟨X, 14, none⟩ rfl (.int .i64 (W2.hi 14)) _ (fun W' hW' => cell_ext x14_z4 hW') Try.underlying3 rfl) hq0 (Ext.pm hq0 P0 0) ?_
        simp only [Act.put, List.setIfInBounds_toArray, List.set_cons_zero, List.set_cons_succ]
        refine takeW (i := 10) (z := 22) (v := (.pointer (some ⟨X, 0, none⟩))) rfl rfl (by kernel_rfl) (by kernel_rfl) (by kernel_rfl) (by kernel_rfl) (by kernel_rfl) (by kernel_rfl) (fun _ _ _ h => h) (Or.inl ⟨rfl, fun _ _ => rfl⟩) hq0 (Ext.pm hq0 P0 0) ?_
        simp only [Act.put, List.setIfInBounds_toArray, List.set_cons_zero, List.set_cons_succ]
        refine takeW (i := 11) (z := 22) (v := (.pointer (some ⟨X, 0, none⟩))) rfl rfl (by kernel_rfl) (by kernel_rfl) (by kernel_rfl) (by kernel_rfl) (by kernel_rfl) (by kernel_rfl) (fun _ _ _ h => h) (Or.inl ⟨rfl, fun _ _ => rfl⟩) hq0 (Ext.pm hq0 P0 0) ?_
        simp only [Act.put, List.setIfInBounds_toArray, List.set_cons_zero, List.set_cons_succ]
        refine takeW (i := 12) (z := 22) (v := (.pointer (some ⟨X, 2, none⟩))) rfl rfl (by kernel_rfl) (by kernel_rfl) (by kernel_rfl) (by kernel_rfl) (by kernel_rfl) (by kernel_rfl) (fun _ _ _ h => h) (Or.inl ⟨rfl, fun _ _ => rfl⟩) hq0 (Ext.pm hq0 P0 0) ?_
        simp only [Act.put, List.setIfInBounds_toArray, List.set_cons_zero, List.set_cons_succ]
        refine takeW (i := 13) (z := 22) (v := (.pointer (some ⟨X, 4, none⟩))) rfl rfl (by kernel_rfl) (by kernel_rfl) (by kernel_rfl) (by kernel_rfl) (by kernel_rfl) (by kernel_rfl) (fun _ _ _ h => h) (Or.inl ⟨rfl, fun _ _ => rfl⟩) hq0 (Ext.pm hq0 P0 0) ?_
        simp only [Act.put, List.setIfInBounds_toArray, List.set_cons_zero, List.set_cons_succ]
        refine takeW (i := 14) (z := 22) (v := _) rfl rfl (by kernel_rfl) (by kernel_rfl) (by kernel_rfl) (by kernel_rfl) (by kernel_rfl) (by kernel_rfl) (fun _ _ _ h => h) (yieldsIf_cell rfl 3 _ rfl ⟨X, 4, none⟩ rfl (.int .i64 (W2.hi 4)) _ (fun W' hW' => cell_ext x4_z4 hW') Try.underlying3 rfl) hq0 (Ext.pm hq0 P0 0) ?_
        simp only [Act.put, List.setIfInBounds_toArray, List.set_cons_zero, List.set_cons_succ]
        refine takeW (i := 15) (z := 22) (v := (.pointer (some ⟨X, 0, none⟩))) rfl rfl (by kernel_rfl) (by kernel_rfl) (by kernel_rfl) (by kernel_rfl) (by kernel_rfl) (by kernel_rfl) (fun _ _ _ h => h) (Or.inl ⟨rfl, fun _ _ => rfl⟩) hq0 (Ext.pm hq0 P0 0) ?_
        simp only [Act.put, List.setIfInBounds_toArray, List.set_cons_zero, List.set_cons_succ]
        refine takeW (i := 16) (z := 22) (v := (.pointer (some ⟨X, 0, none⟩))) rfl rfl (by kernel_rfl) (by kernel_rfl) (by kernel_rfl) (by kernel_rfl) (by kernel_rfl) (by kernel_rfl) (fun _ _ _ h => h) (Or.inl ⟨rfl, fun _ _ => rfl⟩) hq0 (Ext.pm hq0 P0 0) ?_
        simp only [Act.put, List.setIfInBounds_toArray, List.set_cons_zero, List.set_cons_succ]
        refine takeW (i := 17) (z := 22) (v := (.pointer (some ⟨X, 13, none⟩))) rfl rfl (by kernel_rfl) (by kernel_rfl) (by kernel_rfl) (by kernel_rfl) (by kernel_rfl) (by kernel_rfl) (fun _ _ _ h => h) (Or.inl ⟨rfl, fun _ _ => rfl⟩) hq0 (Ext.pm hq0 P0 0) ?_
        simp only [Act.put, List.setIfInBounds_toArray, List.set_cons_zero, List.set_cons_succ]
        refine takeW (i := 18) (z := 22) (v := (.pointer (some ⟨X, 16, none⟩))) rfl rfl (by kernel_rfl) (by kernel_rfl) (by kernel_rfl) (by kernel_rfl) (by kernel_rfl) (by kernel_rfl) (fun _ _ _ h => h) (Or.inl ⟨rfl, fun _ _ => rfl⟩) hq0 (Ext.pm hq0 P0 0) ?_
        simp only [Act.put, List.setIfInBounds_toArray, List.set_cons_zero, List.set_cons_succ]
        refine takeW (i := 19) (z := 22) (v := _) rfl rfl (by kernel_rfl) (by kernel_rfl) (by kernel_rfl) (by kernel_rfl) (by kernel_rfl) (by kernel_rfl) (fun _ _ _ h => h) (yieldsIf_cell rfl 3 _ rfl ⟨X, 16, none⟩ rfl (.int .i64 (W2.hi 16)) _ (fun W' hW' => cell_ext x16_z4 hW') Try.underlying3 rfl) hq0 (Ext.pm hq0 P0 0) ?_
        simp only [Act.put, List.setIfInBounds_toArray, List.set_cons_zero, List.set_cons_succ]
        refine takeW (i := 20) (z := 22) (v := (.agg #[.int .i64 (W2.hi 13), .int .i64 (W2.hi 14), .int .i64 (W2.hi 4), .int .i64 (W2.hi 16)])) rfl rfl (by kernel_rfl) (by kernel_rfl) (by kernel_rfl) (by kernel_rfl) (by kernel_rfl) (by kernel_rfl) (fun _ _ _ h => h) (yieldsIf_build rfl 24 _ rfl [(0, .int .i64 (W2.hi 13)), (1, .int .i64 (W2.hi 14)), (2, .int .i64 (W2.hi 4)), (3, .int .i64 (W2.hi 16))] rfl #[.int .i64 (W2.hi 13), .int .i64 (W2.hi 14), .int .i64 (W2.hi 4), .int .i64 (W2.hi 16)] (by kernel_rfl)) hq0 (Ext.pm hq0 P0 0) ?_
        simp only [Act.put, List.setIfInBounds_toArray, List.set_cons_zero, List.set_cons_succ]
        refine takeW (i := 21) (z := 22) (v := (.pointer (some ⟨P0, 82, none⟩))) rfl rfl (by kernel_rfl) (by kernel_rfl) (by kernel_rfl) (by kernel_rfl) (by kernel_rfl) (by kernel_rfl) (fun _ _ _ h => h) (Or.inl ⟨rfl, fun _ _ => rfl⟩) hq0 (Ext.pm hq0 P0 0) ?_
        simp only [Act.put, List.setIfInBounds_toArray, List.set_cons_zero, List.set_cons_succ]
        refine runWl (z := 22) rfl rfl (by kernel_rfl) (fun K hK => ?_)
        refine wp_st_pv rfl 24 _ _ rfl P0 0 82 _ (hP_z4.ext hq0) _ #[.int .i64 (W2.hi 13), .int .i64 (W2.hi 14), .int .i64 (W2.hi 4), .int .i64 (W2.hi 16)] rfl rfl rfl (by exact (by decide : 82 + 4 ≤ 89)) (by kernel_rfl) rfl (fun ws22 hp22 hm22 => ?_)
        have hr22 : Pm P0 0 z4 ws22 := (Ext.pm hq0 P0 0).trans hm22
        refine hK.out _ _ hr22 (fun _ => ?_)
        try simp only [Act.put, List.setIfInBounds_toArray, List.set_cons_zero, List.set_cons_succ]
        clear hK K
        refine wpAnyH_done (by kernel_rfl) ?_ _
        generalize ws22 = z5 at *
        have hP_z5 : Pv z5 P0 0 (setL (setL ((L.set 43 (.bool false)).set 44 (.bool true)) 73 [.int .u64 (W2.hi 7), .int .u32 (W2.hi 8), .int .u64 (W2.hi 0), .int .u16 (pI L 0), .int .u16 0]) 82 [.int .i64 (W2.hi 13), .int .i64 (W2.hi 14), .int .i64 (W2.hi 4), .int .i64 (W2.hi 16)]) := hp22
        have E_z5 : Pm P0 0 z1 z5 := (E_z4.ext hq0).trans hm22
        have x0_z5 : z5.cell? ⟨X, 0, none⟩ = some (.int .u64 (W2.hi 0)) := cell_pm (cell_ext x0_z4 hq0) hm22 hXP
        have x4_z5 : z5.cell? ⟨X, 4, none⟩ = some (.int .i64 (W2.hi 4)) := cell_pm (cell_ext x4_z4 hq0) hm22 hXP
        have x7_z5 : z5.cell? ⟨X, 7, none⟩ = some (.int .u64 (W2.hi 7)) := cell_pm (cell_ext x7_z4 hq0) hm22 hXP
        have x8_z5 : z5.cell? ⟨X, 8, none⟩ = some (.int .u32 (W2.hi 8)) := cell_pm (cell_ext x8_z4 hq0) hm22 hXP
        have x12_z5 : z5.cell? ⟨X, 12, none⟩ = some (.int .i64 (W2.hi 12)) := cell_pm (cell_ext x12_z4 hq0) hm22 hXP
        have x13_z5 : z5.cell? ⟨X, 13, none⟩ = some (.int .i64 (W2.hi 13)) := cell_pm (cell_ext x13_z4 hq0) hm22 hXP
        have x14_z5 : z5.cell? ⟨X, 14, none⟩ = some (.int .i64 (W2.hi 14)) := cell_pm (cell_ext x14_z4 hq0) hm22 hXP
        have x15_z5 : z5.cell? ⟨X, 15, none⟩ = some (.int .i64 (W2.hi 15)) := cell_pm (cell_ext x15_z4 hq0) hm22 hXP
        have x16_z5 : z5.cell? ⟨X, 16, none⟩ = some (.int .i64 (W2.hi 16)) := cell_pm (cell_ext x16_z4 hq0) hm22 hXP
        have x17_z5 : z5.cell? ⟨X, 17, none⟩ = some (.slice (some ⟨g, 0, none⟩) B.np cap2) := cell_pm (cell_ext x17_z4 hq0) hm22 hXP
        clear hP_z4 x0_z4 x4_z4 x7_z4 x8_z4 x12_z4 x13_z4 x14_z4 x15_z4 x16_z4 x17_z4 E_z4
        clear hq0 hqx hm22 hp22 hr22
        have hP_z5 : Pv z5 P0 0 (dtlL W2 L) := hP_z5
        have HSD := Lib.hid (show dstL W2 n L = chL n (W2.hi 12) (W2.hi 0) (dtlL W2 L) from dst_eq HLEN.out)
        have HLL := HLEN
        clear HLEN
        obtain ⟨M, hM⟩ : ∃ M, dtlL W2 L = M := ⟨_, rfl⟩
        rw [hM] at hP_z5 HSD HT
        clear hM
        have hT := HT.out
        have HLEN := Lib.hid (tpL hT)
        obtain ⟨x86, e86⟩ : ∃ b, pI M 86 = b := ⟨_, rfl⟩
        have HE86 := Lib.hid e86
        have HL_86 := Lib.hid ((tpI hT 86 rfl).trans (show _ = some (.int .i64 x86) by rw [e86]))
        clear e86
        have HS_68 := Lib.hid (seg_of (L := M) (j := 68) (l := [.int .u64 (pI M 68), .int .u32 (pI M 69), .int .u64 (pI M 70), .int .u16 (pI M 71), .int .u16 (pI M 72)]) (by rw [tpL hT]; exact (by decide : 68 + 5 ≤ 89)) (fun i hi => by
          match i, hi with
          | 0, _ => exact tpI hT 68 rfl
          | 1, _ => exact tpI hT 69 rfl
          | 2, _ => exact tpI hT 70 rfl
          | 3, _ => exact tpI hT 71 rfl
          | 4, _ => exact tpI hT 72 rfl
          | i + 5, hi => simp at hi; omega))
        have HS_73 := Lib.hid (seg_of (L := M) (j := 73) (l := [.int .u64 (pI M 73), .int .u32 (pI M 74), .int .u64 (pI M 75), .int .u16 (pI M 76), .int .u16 (pI M 77)]) (by rw [tpL hT]; exact (by decide : 73 + 5 ≤ 89)) (fun i hi => by
          match i, hi with
          | 0, _ => exact tpI hT 73 rfl
          | 1, _ => exact tpI hT 74 rfl
          | 2, _ => exact tpI hT 75 rfl
          | 3, _ => exact tpI hT 76 rfl
          | 4, _ => exact tpI hT 77 rfl
          | i + 5, hi => simp at hi; omega))
        have HS_78 := Lib.hid (seg_of (L := M) (j := 78) (l := [.int .i64 (pI M 78), .int .i64 (pI M 79), .int .i64 (pI M 80), .int .i64 (pI M 81)]) (by rw [tpL hT]; exact (by decide : 78 + 4 ≤ 89)) (fun i hi => by
          match i, hi with
          | 0, _ => exact tpI hT 78 rfl
          | 1, _ => exact tpI hT 79 rfl
          | 2, _ => exact tpI hT 80 rfl
          | 3, _ => exact tpI hT 81 rfl
          | i + 4, hi => simp at hi; omega))
        have HS_82 := Lib.hid (seg_of (L := M) (j := 82) (l := [.int .i64 (pI M 82), .int .i64 (pI M 83), .int .i64 (pI M 84), .int .i64 (pI M 85)]) (by rw [tpL hT]; exact (by decide : 82 + 4 ≤ 89)) (fun i hi => by
          match i, hi with
          | 0, _ => exact tpI hT 82 rfl
          | 1, _ => exact tpI hT 83 rfl
          | 2, _ => exact tpI hT 84 rfl
          | 3, _ => exact tpI hT 85 rfl
          | i + 4, hi => simp at hi; omega))
        have g70 : 0 ≤ pI M 70 ∧ pI M 70 < 18446744073709551616 := wf_u64 (tpW hT 70 rfl)
        have HL_70 := Lib.hid (tpI hT 70 rfl)
        clear hT
        obtain ⟨ls, hls⟩ : ∃ t, lsL M = t := ⟨_, rfl⟩
        obtain ⟨sm, hsm⟩ : ∃ t, smL M = t := ⟨_, rfl⟩
        obtain ⟨te, hte⟩ : ∃ t, teL M = t := ⟨_, rfl⟩
        obtain ⟨sa, hsa⟩ : ∃ t, sameA (pI M 70) (W2.hi 0) = t := ⟨_, rfl⟩
        have HLS := Lib.hid hls
        have HSM := Lib.hid hsm
        have HTE := Lib.hid hte
        have HSA := Lib.hid hsa
        clear hls hsm hte hsa
        go_wp2_with (first
          | fail
          | ((with_reducible refine at_load 28 ?_); refine wpList_load_mid rfl 28 _ rfl P0 (73) rfl [.int .u64 (pI M 73), .int .u32 (pI M 74), .int .u64 (pI M 75), .int .u16 (pI M 76), .int .u16 (pI M 77)] _ (hP_z5.range (j := 73) (n := 5) HS_73.out (by decide)) Try.underlying28 rfl (by kernel_rfl) ?_)
          | ((with_reducible refine at_load 28 ?_); refine wpList_load_mid rfl 28 _ rfl P0 (68) rfl [.int .u64 (pI M 68), .int .u32 (pI M 69), .int .u64 (pI M 70), .int .u16 (pI M 71), .int .u16 (pI M 72)] _ (hP_z5.range (j := 68) (n := 5) HS_68.out (by decide)) Try.underlying28 rfl (by kernel_rfl) ?_))
        refine (asb (ref_less _ _ _ _ _ _ _ _ _ _ _) ((c4_ls M).symm.trans HLS.out)).mono ?_
        rintro e z6 ⟨rfl, hx⟩
        have E_z6 : Pm P0 0 z1 z6 := E_z5.ext hx
        have hP_z6 : Pv z6 P0 0 M := hP_z5.ext hx
        have x0_z6 : z6.cell? ⟨X, 0, none⟩ = some (.int .u64 (W2.hi 0)) := cell_ext x0_z5 hx
        have x4_z6 : z6.cell? ⟨X, 4, none⟩ = some (.int .i64 (W2.hi 4)) := cell_ext x4_z5 hx
        have x7_z6 : z6.cell? ⟨X, 7, none⟩ = some (.int .u64 (W2.hi 7)) := cell_ext x7_z5 hx
        have x8_z6 : z6.cell? ⟨X, 8, none⟩ = some (.int .u32 (W2.hi 8)) := cell_ext x8_z5 hx
        have x12_z6 : z6.cell? ⟨X, 12, none⟩ = some (.int .i64 (W2.hi 12)) := cell_ext x12_z5 hx
        have x13_z6 : z6.cell? ⟨X, 13, none⟩ = some (.int .i64 (W2.hi 13)) := cell_ext x13_z5 hx
        have x14_z6 : z6.cell? ⟨X, 14, none⟩ = some (.int .i64 (W2.hi 14)) := cell_ext x14_z5 hx
        have x15_z6 : z6.cell? ⟨X, 15, none⟩ = some (.int .i64 (W2.hi 15)) := cell_ext x15_z5 hx
        have x16_z6 : z6.cell? ⟨X, 16, none⟩ = some (.int .i64 (W2.hi 16)) := cell_ext x16_z5 hx
        have x17_z6 : z6.cell? ⟨X, 17, none⟩ = some (.slice (some ⟨g, 0, none⟩) B.np cap2) := cell_ext x17_z5 hx
        clear hP_z5 x0_z5 x4_z5 x7_z5 x8_z5 x12_z5 x13_z5 x14_z5 x15_z5 x16_z5 x17_z5 E_z5
        clear hx
        go_wp2_with (first
          | fail
          | ((with_reducible refine at_load 28 ?_); refine wpList_load_mid rfl 28 _ rfl P0 (73) rfl [.int .u64 (pI M 73), .int .u32 (pI M 74), .int .u64 (pI M 75), .int .u16 (pI M 76), .int .u16 (pI M 77)] _ (hP_z6.range (j := 73) (n := 5) HS_73.out (by decide)) Try.underlying28 rfl (by kernel_rfl) ?_)
          | ((with_reducible refine at_load 28 ?_); refine wpList_load_mid rfl 28 _ rfl P0 (68) rfl [.int .u64 (pI M 68), .int .u32 (pI M 69), .int .u64 (pI M 70), .int .u16 (pI M 71), .int .u16 (pI M 72)] _ (hP_z6.range (j := 68) (n := 5) HS_68.out (by decide)) Try.underlying28 rfl (by kernel_rfl) ?_))
        refine (asb (ref_same _ _ _ _ _ _ _ _ _ _ _) ((c4_sm M).symm.trans HSM.out)).mono ?_
        rintro e z7 ⟨rfl, hx⟩
        have E_z7 : Pm P0 0 z1 z7 := E_z6.ext hx
        have hP_z7 : Pv z7 P0 0 M := hP_z6.ext hx
        have x0_z7 : z7.cell? ⟨X, 0, none⟩ = some (.int .u64 (W2.hi 0)) := cell_ext x0_z6 hx
        have x4_z7 : z7.cell? ⟨X, 4, none⟩ = some (.int .i64 (W2.hi 4)) := cell_ext x4_z6 hx
        have x7_z7 : z7.cell? ⟨X, 7, none⟩ = some (.int .u64 (W2.hi 7)) := cell_ext x7_z6 hx
        have x8_z7 : z7.cell? ⟨X, 8, none⟩ = some (.int .u32 (W2.hi 8)) := cell_ext x8_z6 hx
        have x12_z7 : z7.cell? ⟨X, 12, none⟩ = some (.int .i64 (W2.hi 12)) := cell_ext x12_z6 hx
        have x13_z7 : z7.cell? ⟨X, 13, none⟩ = some (.int .i64 (W2.hi 13)) := cell_ext x13_z6 hx
        have x14_z7 : z7.cell? ⟨X, 14, none⟩ = some (.int .i64 (W2.hi 14)) := cell_ext x14_z6 hx
        have x15_z7 : z7.cell? ⟨X, 15, none⟩ = some (.int .i64 (W2.hi 15)) := cell_ext x15_z6 hx
        have x16_z7 : z7.cell? ⟨X, 16, none⟩ = some (.int .i64 (W2.hi 16)) := cell_ext x16_z6 hx
        have x17_z7 : z7.cell? ⟨X, 17, none⟩ = some (.slice (some ⟨g, 0, none⟩) B.np cap2) := cell_ext x17_z6 hx
        clear hP_z6 x0_z6 x4_z6 x7_z6 x8_z6 x12_z6 x13_z6 x14_z6 x15_z6 x16_z6 x17_z6 E_z6
        clear hx
        have p86_z7 : z7.cell? ⟨P0, 86, none⟩ = some (.int .i64 x86) := (hP_z7.cell (j := 86) (by decide)).trans HL_86.out
        by_cases e0 : x86 = 0
        · subst e0
          as_aux_lemma =>
            go_upto_region 44 with (first
              | fail
              | ((with_reducible refine at_store 3 ?_); refine st_pv rfl rfl 3 _ _ rfl P0 0 88 _ hP_z7 _ #[.int .i64 0] rfl rfl rfl (by exact (by decide : 88 + 1 ≤ 89)) (by kernel_rfl) rfl ?_
                 intro z8 hp hm
                 replace hp := pv_one hp HLEN.out (by decide)
                 have hP_z8 : Pv z8 P0 0 (M.set 88 (.int .i64 0)) := hp
                 have E_z8 : Pm P0 0 z1 z8 := E_z7.trans hm
                 have x0_z8 : z8.cell? ⟨X, 0, none⟩ = some (.int .u64 (W2.hi 0)) := cell_pm x0_z7 hm hXP
                 have x4_z8 : z8.cell? ⟨X, 4, none⟩ = some (.int .i64 (W2.hi 4)) := cell_pm x4_z7 hm hXP
                 have x7_z8 : z8.cell? ⟨X, 7, none⟩ = some (.int .u64 (W2.hi 7)) := cell_pm x7_z7 hm hXP
                 have x8_z8 : z8.cell? ⟨X, 8, none⟩ = some (.int .u32 (W2.hi 8)) := cell_pm x8_z7 hm hXP
                 have x12_z8 : z8.cell? ⟨X, 12, none⟩ = some (.int .i64 (W2.hi 12)) := cell_pm x12_z7 hm hXP
                 have x13_z8 : z8.cell? ⟨X, 13, none⟩ = some (.int .i64 (W2.hi 13)) := cell_pm x13_z7 hm hXP
                 have x14_z8 : z8.cell? ⟨X, 14, none⟩ = some (.int .i64 (W2.hi 14)) := cell_pm x14_z7 hm hXP
                 have x15_z8 : z8.cell? ⟨X, 15, none⟩ = some (.int .i64 (W2.hi 15)) := cell_pm x15_z7 hm hXP
                 have x16_z8 : z8.cell? ⟨X, 16, none⟩ = some (.int .i64 (W2.hi 16)) := cell_pm x16_z7 hm hXP
                 have x17_z8 : z8.cell? ⟨X, 17, none⟩ = some (.slice (some ⟨g, 0, none⟩) B.np cap2) := cell_pm x17_z7 hm hXP
                 clear hP_z7 x0_z7 x4_z7 x7_z7 x8_z7 x12_z7 x13_z7 x14_z7 x15_z7 x16_z7 x17_z7 E_z7 p86_z7
                 clear hp hm))
            have hLX : (M.set 88 (.int .i64 0)) = dstL W2 n L := by
              rw [HSD.out]
              exact (ch_0 HE86.out).symm
            have hPf := hP_z8
            rw [hLX] at hPf
            clear hLX
            have hrw := pv_row HQ.out HLL.out E_z8 hPf
            have hlen := Lib.hid hPf.len
            have hBz := HB.out.keep (fun n _ hn => (E_z8.1.heap (Nat.lt_of_lt_of_le hn HX1.out.size) (show ¬ n = P0 by have := HW0.out; omega)).trans (HX1.out.block n hn))
            have hMz : Mut F w z8 := HM.out.trans (mut_new (HX1.out.mut F) E_z8.1 (by have := HW0.out; omega))
            have hone := Lib.hid (show ∀ v ∈ (dstL W2 n L : List Value), v.oneCell' = true from HT0.out.one)
            have c17y := x17_z8
            obtain ⟨N, hN⟩ : ∃ N, dstL W2 n L = N := ⟨_, rfl⟩
            rw [hN] at hrw hlen hone HS
            clear hN hPf
            refine wp_region_tail 7 (by kernel_rfl) (by kernel_rfl) ?_
            intro w9 hw9
            have hx9 : Ext z8 w9 := by
              rw [hw9]
              exact (Ext.refl _).drew
            have HB2 := Lib.hid ((hx9.block _ (heap_lt hrw)).trans hrw)
            have d17 := cell_ext c17y hx9
            have hBy := Lib.hid (hBz.ext hx9)
            have hMy := Lib.hid (hMz.trans (hx9.mut F))
            have hth := Lib.hid (hBy.out.there hk)
            clear hw9 hrw c17y hBz hMz hx9
            simp only [List.take_succ_cons, List.take_zero, List.drop_succ_cons, List.drop_zero]
            iterate 5 still_step
            refine wpStill_load_row rfl 51 _ rfl P0 rfl _ _ _ HB2.out Try.underlying51 rfl (by rw [List.size_toArray, hlen.out]; exact size_port) ?_
            simp only [ps]
            iterate 1 still_step
            refine wpStill_nil ?_
            refine wpList_store_mid rfl 51 _ _ rfl g (n * 89) _ rfl rfl (by rw [List.size_toArray, hlen.out]; exact hth.out) (by rw [List.size_toArray, hlen.out]; exact size_port) (all_oneCell_toArray hone.out) ?_
            go_wp2_with fail
            go_roundw
            case rel => exact ⟨n + 1, by omega, by go_num, by rw [HS.out]; exact hBy.out.setPort hk (l := N) hlen.out, Mut.setCells (.inl hBy.out.F2) _ _ hMy.out⟩
            case measure => simp [intOf]; omega
        · by_cases e1 : x86 = 1
          · subst e1
            as_aux_lemma =>
              go_upto_region 44 with (first
                | fail
                | ((with_reducible refine at_store 3 ?_); refine st_pv rfl rfl 3 _ _ rfl P0 0 88 _ hP_z7 _ #[.int .i64 4] rfl rfl rfl (by exact (by decide : 88 + 1 ≤ 89)) (by kernel_rfl) rfl ?_
                   intro z8 hp hm
                   replace hp := pv_one hp HLEN.out (by decide)
                   have hP_z8 : Pv z8 P0 0 (M.set 88 (.int .i64 4)) := hp
                   have E_z8 : Pm P0 0 z1 z8 := E_z7.trans hm
                   have x0_z8 : z8.cell? ⟨X, 0, none⟩ = some (.int .u64 (W2.hi 0)) := cell_pm x0_z7 hm hXP
                   have x4_z8 : z8.cell? ⟨X, 4, none⟩ = some (.int .i64 (W2.hi 4)) := cell_pm x4_z7 hm hXP
                   have x7_z8 : z8.cell? ⟨X, 7, none⟩ = some (.int .u64 (W2.hi 7)) := cell_pm x7_z7 hm hXP
                   have x8_z8 : z8.cell? ⟨X, 8, none⟩ = some (.int .u32 (W2.hi 8)) := cell_pm x8_z7 hm hXP
                   have x12_z8 : z8.cell? ⟨X, 12, none⟩ = some (.int .i64 (W2.hi 12)) := cell_pm x12_z7 hm hXP
                   have x13_z8 : z8.cell? ⟨X, 13, none⟩ = some (.int .i64 (W2.hi 13)) := cell_pm x13_z7 hm hXP
                   have x14_z8 : z8.cell? ⟨X, 14, none⟩ = some (.int .i64 (W2.hi 14)) := cell_pm x14_z7 hm hXP
                   have x15_z8 : z8.cell? ⟨X, 15, none⟩ = some (.int .i64 (W2.hi 15)) := cell_pm x15_z7 hm hXP
                   have x16_z8 : z8.cell? ⟨X, 16, none⟩ = some (.int .i64 (W2.hi 16)) := cell_pm x16_z7 hm hXP
                   have x17_z8 : z8.cell? ⟨X, 17, none⟩ = some (.slice (some ⟨g, 0, none⟩) B.np cap2) := cell_pm x17_z7 hm hXP
                   clear hP_z7 x0_z7 x4_z7 x7_z7 x8_z7 x12_z7 x13_z7 x14_z7 x15_z7 x16_z7 x17_z7 E_z7 p86_z7
                   clear hp hm)
                | ((with_reducible refine at_store 4 ?_); refine st_pv rfl rfl 4 _ _ rfl P0 0 50 _ hP_z8 _ #[.bool true] rfl rfl rfl (by exact (by decide : 50 + 1 ≤ 89)) (by kernel_rfl) rfl ?_
                   intro z9 hp hm
                   replace hp := pv_one hp (len_set' HLEN.out) (by decide)
                   have hP_z9 : Pv z9 P0 0 ((M.set 88 (.int .i64 4)).set 50 (.bool true)) := hp
                   have E_z9 : Pm P0 0 z1 z9 := E_z8.trans hm
                   have x0_z9 : z9.cell? ⟨X, 0, none⟩ = some (.int .u64 (W2.hi 0)) := cell_pm x0_z8 hm hXP
                   have x4_z9 : z9.cell? ⟨X, 4, none⟩ = some (.int .i64 (W2.hi 4)) := cell_pm x4_z8 hm hXP
                   have x7_z9 : z9.cell? ⟨X, 7, none⟩ = some (.int .u64 (W2.hi 7)) := cell_pm x7_z8 hm hXP
                   have x8_z9 : z9.cell? ⟨X, 8, none⟩ = some (.int .u32 (W2.hi 8)) := cell_pm x8_z8 hm hXP
                   have x12_z9 : z9.cell? ⟨X, 12, none⟩ = some (.int .i64 (W2.hi 12)) := cell_pm x12_z8 hm hXP
                   have x13_z9 : z9.cell? ⟨X, 13, none⟩ = some (.int .i64 (W2.hi 13)) := cell_pm x13_z8 hm hXP
                   have x14_z9 : z9.cell? ⟨X, 14, none⟩ = some (.int .i64 (W2.hi 14)) := cell_pm x14_z8 hm hXP
                   have x15_z9 : z9.cell? ⟨X, 15, none⟩ = some (.int .i64 (W2.hi 15)) := cell_pm x15_z8 hm hXP
                   have x16_z9 : z9.cell? ⟨X, 16, none⟩ = some (.int .i64 (W2.hi 16)) := cell_pm x16_z8 hm hXP
                   have x17_z9 : z9.cell? ⟨X, 17, none⟩ = some (.slice (some ⟨g, 0, none⟩) B.np cap2) := cell_pm x17_z8 hm hXP
                   clear hP_z8 x0_z8 x4_z8 x7_z8 x8_z8 x12_z8 x13_z8 x14_z8 x15_z8 x16_z8 x17_z8 E_z8
                   clear hp hm))
              have hLX : ((M.set 88 (.int .i64 4)).set 50 (.bool true)) = dstL W2 n L := by
                rw [HSD.out]
                exact (ch_1 HE86.out).symm
              have hPf := hP_z9
              rw [hLX] at hPf
              clear hLX
              have hrw := pv_row HQ.out HLL.out E_z9 hPf
              have hlen := Lib.hid hPf.len
              have hBz := HB.out.keep (fun n _ hn => (E_z9.1.heap (Nat.lt_of_lt_of_le hn HX1.out.size) (show ¬ n = P0 by have := HW0.out; omega)).trans (HX1.out.block n hn))
              have hMz : Mut F w z9 := HM.out.trans (mut_new (HX1.out.mut F) E_z9.1 (by have := HW0.out; omega))
              have hone := Lib.hid (show ∀ v ∈ (dstL W2 n L : List Value), v.oneCell' = true from HT0.out.one)
              have c17y := x17_z9
              obtain ⟨N, hN⟩ : ∃ N, dstL W2 n L = N := ⟨_, rfl⟩
              rw [hN] at hrw hlen hone HS
              clear hN hPf
              refine wp_region_tail 7 (by kernel_rfl) (by kernel_rfl) ?_
              intro w9 hw9
              have hx9 : Ext z9 w9 := by
                rw [hw9]
                exact (Ext.refl _).drew
              have HB2 := Lib.hid ((hx9.block _ (heap_lt hrw)).trans hrw)
              have d17 := cell_ext c17y hx9
              have hBy := Lib.hid (hBz.ext hx9)
              have hMy := Lib.hid (hMz.trans (hx9.mut F))
              have hth := Lib.hid (hBy.out.there hk)
              clear hw9 hrw c17y hBz hMz hx9
              simp only [List.take_succ_cons, List.take_zero, List.drop_succ_cons, List.drop_zero]
              iterate 5 still_step
              refine wpStill_load_row rfl 51 _ rfl P0 rfl _ _ _ HB2.out Try.underlying51 rfl (by rw [List.size_toArray, hlen.out]; exact size_port) ?_
              simp only [ps]
              iterate 1 still_step
              refine wpStill_nil ?_
              refine wpList_store_mid rfl 51 _ _ rfl g (n * 89) _ rfl rfl (by rw [List.size_toArray, hlen.out]; exact hth.out) (by rw [List.size_toArray, hlen.out]; exact size_port) (all_oneCell_toArray hone.out) ?_
              go_wp2_with fail
              go_roundw
              case rel => exact ⟨n + 1, by omega, by go_num, by rw [HS.out]; exact hBy.out.setPort hk (l := N) hlen.out, Mut.setCells (.inl hBy.out.F2) _ _ hMy.out⟩
              case measure => simp [intOf]; omega
          · by_cases e2 : x86 = 2
            · subst e2
              cases sm
              · as_aux_lemma =>
                  go_upto_region 44 with (first
                    | fail
                    | ((with_reducible refine at_store 3 ?_); refine st_pv rfl rfl 3 _ _ rfl P0 0 88 _ hP_z7 _ #[.int .i64 4] rfl rfl rfl (by exact (by decide : 88 + 1 ≤ 89)) (by kernel_rfl) rfl ?_
                       intro z8 hp hm
                       replace hp := pv_one hp HLEN.out (by decide)
                       have hP_z8 : Pv z8 P0 0 (M.set 88 (.int .i64 4)) := hp
                       have E_z8 : Pm P0 0 z1 z8 := E_z7.trans hm
                       have x0_z8 : z8.cell? ⟨X, 0, none⟩ = some (.int .u64 (W2.hi 0)) := cell_pm x0_z7 hm hXP
                       have x4_z8 : z8.cell? ⟨X, 4, none⟩ = some (.int .i64 (W2.hi 4)) := cell_pm x4_z7 hm hXP
                       have x7_z8 : z8.cell? ⟨X, 7, none⟩ = some (.int .u64 (W2.hi 7)) := cell_pm x7_z7 hm hXP
                       have x8_z8 : z8.cell? ⟨X, 8, none⟩ = some (.int .u32 (W2.hi 8)) := cell_pm x8_z7 hm hXP
                       have x12_z8 : z8.cell? ⟨X, 12, none⟩ = some (.int .i64 (W2.hi 12)) := cell_pm x12_z7 hm hXP
                       have x13_z8 : z8.cell? ⟨X, 13, none⟩ = some (.int .i64 (W2.hi 13)) := cell_pm x13_z7 hm hXP
                       have x14_z8 : z8.cell? ⟨X, 14, none⟩ = some (.int .i64 (W2.hi 14)) := cell_pm x14_z7 hm hXP
                       have x15_z8 : z8.cell? ⟨X, 15, none⟩ = some (.int .i64 (W2.hi 15)) := cell_pm x15_z7 hm hXP
                       have x16_z8 : z8.cell? ⟨X, 16, none⟩ = some (.int .i64 (W2.hi 16)) := cell_pm x16_z7 hm hXP
                       have x17_z8 : z8.cell? ⟨X, 17, none⟩ = some (.slice (some ⟨g, 0, none⟩) B.np cap2) := cell_pm x17_z7 hm hXP
                       clear hP_z7 x0_z7 x4_z7 x7_z7 x8_z7 x12_z7 x13_z7 x14_z7 x15_z7 x16_z7 x17_z7 E_z7 p86_z7
                       clear hp hm)
                    | ((with_reducible refine at_store 4 ?_); refine st_pv rfl rfl 4 _ _ rfl P0 0 50 _ hP_z8 _ #[.bool true] rfl rfl rfl (by exact (by decide : 50 + 1 ≤ 89)) (by kernel_rfl) rfl ?_
                       intro z9 hp hm
                       replace hp := pv_one hp (len_set' HLEN.out) (by decide)
                       have hP_z9 : Pv z9 P0 0 ((M.set 88 (.int .i64 4)).set 50 (.bool true)) := hp
                       have E_z9 : Pm P0 0 z1 z9 := E_z8.trans hm
                       have x0_z9 : z9.cell? ⟨X, 0, none⟩ = some (.int .u64 (W2.hi 0)) := cell_pm x0_z8 hm hXP
                       have x4_z9 : z9.cell? ⟨X, 4, none⟩ = some (.int .i64 (W2.hi 4)) := cell_pm x4_z8 hm hXP
                       have x7_z9 : z9.cell? ⟨X, 7, none⟩ = some (.int .u64 (W2.hi 7)) := cell_pm x7_z8 hm hXP
                       have x8_z9 : z9.cell? ⟨X, 8, none⟩ = some (.int .u32 (W2.hi 8)) := cell_pm x8_z8 hm hXP
                       have x12_z9 : z9.cell? ⟨X, 12, none⟩ = some (.int .i64 (W2.hi 12)) := cell_pm x12_z8 hm hXP
                       have x13_z9 : z9.cell? ⟨X, 13, none⟩ = some (.int .i64 (W2.hi 13)) := cell_pm x13_z8 hm hXP
                       have x14_z9 : z9.cell? ⟨X, 14, none⟩ = some (.int .i64 (W2.hi 14)) := cell_pm x14_z8 hm hXP
                       have x15_z9 : z9.cell? ⟨X, 15, none⟩ = some (.int .i64 (W2.hi 15)) := cell_pm x15_z8 hm hXP
                       have x16_z9 : z9.cell? ⟨X, 16, none⟩ = some (.int .i64 (W2.hi 16)) := cell_pm x16_z8 hm hXP
                       have x17_z9 : z9.cell? ⟨X, 17, none⟩ = some (.slice (some ⟨g, 0, none⟩) B.np cap2) := cell_pm x17_z8 hm hXP
                       clear hP_z8 x0_z8 x4_z8 x7_z8 x8_z8 x12_z8 x13_z8 x14_z8 x15_z8 x16_z8 x17_z8 E_z8
                       clear hp hm))
                  have hLX : ((M.set 88 (.int .i64 4)).set 50 (.bool true)) = dstL W2 n L := by
                    rw [HSD.out]
                    exact ((ch_2 HE86.out).trans (by rw [HSM.out]; cases teL M <;> rfl)).symm
                  have hPf := hP_z9
                  rw [hLX] at hPf
                  clear hLX
                  have hrw := pv_row HQ.out HLL.out E_z9 hPf
                  have hlen := Lib.hid hPf.len
                  have hBz := HB.out.keep (fun n _ hn => (E_z9.1.heap (Nat.lt_of_lt_of_le hn HX1.out.size) (show ¬ n = P0 by have := HW0.out; omega)).trans (HX1.out.block n hn))
                  have hMz : Mut F w z9 := HM.out.trans (mut_new (HX1.out.mut F) E_z9.1 (by have := HW0.out; omega))
                  have hone := Lib.hid (show ∀ v ∈ (dstL W2 n L : List Value), v.oneCell' = true from HT0.out.one)
                  have c17y := x17_z9
                  obtain ⟨N, hN⟩ : ∃ N, dstL W2 n L = N := ⟨_, rfl⟩
                  rw [hN] at hrw hlen hone HS
                  clear hN hPf
                  refine wp_region_tail 7 (by kernel_rfl) (by kernel_rfl) ?_
                  intro w9 hw9
                  have hx9 : Ext z9 w9 := by
                    rw [hw9]
                    exact (Ext.refl _).drew
                  have HB2 := Lib.hid ((hx9.block _ (heap_lt hrw)).trans hrw)
                  have d17 := cell_ext c17y hx9
                  have hBy := Lib.hid (hBz.ext hx9)
                  have hMy := Lib.hid (hMz.trans (hx9.mut F))
                  have hth := Lib.hid (hBy.out.there hk)
                  clear hw9 hrw c17y hBz hMz hx9
                  simp only [List.take_succ_cons, List.take_zero, List.drop_succ_cons, List.drop_zero]
                  iterate 5 still_step
                  refine wpStill_load_row rfl 51 _ rfl P0 rfl _ _ _ HB2.out Try.underlying51 rfl (by rw [List.size_toArray, hlen.out]; exact size_port) ?_
                  simp only [ps]
                  iterate 1 still_step
                  refine wpStill_nil ?_
                  refine wpList_store_mid rfl 51 _ _ rfl g (n * 89) _ rfl rfl (by rw [List.size_toArray, hlen.out]; exact hth.out) (by rw [List.size_toArray, hlen.out]; exact size_port) (all_oneCell_toArray hone.out) ?_
                  go_wp2_with fail
                  go_roundw
                  case rel => exact ⟨n + 1, by omega, by go_num, by rw [HS.out]; exact hBy.out.setPort hk (l := N) hlen.out, Mut.setCells (.inl hBy.out.F2) _ _ hMy.out⟩
                  case measure => simp [intOf]; omega
              · cases te
                · as_aux_lemma =>
                    have HNT := Lib.hid (fun w => (neq_times w (pI M 78) (pI M 79) (pI M 80) (pI M 81) (pI M 82) (pI M 83) (pI M 84) (pI M 85)).trans (show _ = Result.ok (.bool true) w by rw [show (pI M 78 == pI M 82 && pI M 79 == pI M 83 && pI M 80 == pI M 84 && pI M 81 == pI M 85) = false from HTE.out]; rfl))
                    have hnt := HNT.out
                    go_upto_region 44 with (first
                      | fail
                      | ((with_reducible refine at_store 3 ?_); refine st_pv rfl rfl 3 _ _ rfl P0 0 88 _ hP_z7 _ #[.int .i64 4] rfl rfl rfl (by exact (by decide : 88 + 1 ≤ 89)) (by kernel_rfl) rfl ?_
                         intro z8 hp hm
                         replace hp := pv_one hp HLEN.out (by decide)
                         have hP_z8 : Pv z8 P0 0 (M.set 88 (.int .i64 4)) := hp
                         have E_z8 : Pm P0 0 z1 z8 := E_z7.trans hm
                         have x0_z8 : z8.cell? ⟨X, 0, none⟩ = some (.int .u64 (W2.hi 0)) := cell_pm x0_z7 hm hXP
                         have x4_z8 : z8.cell? ⟨X, 4, none⟩ = some (.int .i64 (W2.hi 4)) := cell_pm x4_z7 hm hXP
                         have x7_z8 : z8.cell? ⟨X, 7, none⟩ = some (.int .u64 (W2.hi 7)) := cell_pm x7_z7 hm hXP
                         have x8_z8 : z8.cell? ⟨X, 8, none⟩ = some (.int .u32 (W2.hi 8)) := cell_pm x8_z7 hm hXP
                         have x12_z8 : z8.cell? ⟨X, 12, none⟩ = some (.int .i64 (W2.hi 12)) := cell_pm x12_z7 hm hXP
                         have x13_z8 : z8.cell? ⟨X, 13, none⟩ = some (.int .i64 (W2.hi 13)) := cell_pm x13_z7 hm hXP
                         have x14_z8 : z8.cell? ⟨X, 14, none⟩ = some (.int .i64 (W2.hi 14)) := cell_pm x14_z7 hm hXP
                         have x15_z8 : z8.cell? ⟨X, 15, none⟩ = some (.int .i64 (W2.hi 15)) := cell_pm x15_z7 hm hXP
                         have x16_z8 : z8.cell? ⟨X, 16, none⟩ = some (.int .i64 (W2.hi 16)) := cell_pm x16_z7 hm hXP
                         have x17_z8 : z8.cell? ⟨X, 17, none⟩ = some (.slice (some ⟨g, 0, none⟩) B.np cap2) := cell_pm x17_z7 hm hXP
                         clear hP_z7 x0_z7 x4_z7 x7_z7 x8_z7 x12_z7 x13_z7 x14_z7 x15_z7 x16_z7 x17_z7 E_z7 p86_z7
                         clear hp hm)
                      | ((with_reducible refine at_loadG 24 ?_); refine wpList_load_midG rfl 24 _ rfl P0 (78) rfl [.int .i64 (pI M 78), .int .i64 (pI M 79), .int .i64 (pI M 80), .int .i64 (pI M 81)] _ (hP_z8.range (j := 78) (n := 4) ((seg_ne (by decide)).trans HS_78.out) (by decide)) Try.underlying24 rfl (by kernel_rfl) ?_)
                      | ((with_reducible refine at_loadG 24 ?_); refine wpList_load_midG rfl 24 _ rfl P0 (82) rfl [.int .i64 (pI M 82), .int .i64 (pI M 83), .int .i64 (pI M 84), .int .i64 (pI M 85)] _ (hP_z8.range (j := 82) (n := 4) ((seg_ne (by decide)).trans HS_82.out) (by decide)) Try.underlying24 rfl (by kernel_rfl) ?_)
                      | ((with_reducible refine at_store 4 ?_); refine st_pv rfl rfl 4 _ _ rfl P0 0 50 _ hP_z8 _ #[.bool true] rfl rfl rfl (by exact (by decide : 50 + 1 ≤ 89)) (by kernel_rfl) rfl ?_
                         intro z9 hp hm
                         replace hp := pv_one hp (len_set' HLEN.out) (by decide)
                         have hP_z9 : Pv z9 P0 0 ((M.set 88 (.int .i64 4)).set 50 (.bool true)) := hp
                         have E_z9 : Pm P0 0 z1 z9 := E_z8.trans hm
                         have x0_z9 : z9.cell? ⟨X, 0, none⟩ = some (.int .u64 (W2.hi 0)) := cell_pm x0_z8 hm hXP
                         have x4_z9 : z9.cell? ⟨X, 4, none⟩ = some (.int .i64 (W2.hi 4)) := cell_pm x4_z8 hm hXP
                         have x7_z9 : z9.cell? ⟨X, 7, none⟩ = some (.int .u64 (W2.hi 7)) := cell_pm x7_z8 hm hXP
                         have x8_z9 : z9.cell? ⟨X, 8, none⟩ = some (.int .u32 (W2.hi 8)) := cell_pm x8_z8 hm hXP
                         have x12_z9 : z9.cell? ⟨X, 12, none⟩ = some (.int .i64 (W2.hi 12)) := cell_pm x12_z8 hm hXP
                         have x13_z9 : z9.cell? ⟨X, 13, none⟩ = some (.int .i64 (W2.hi 13)) := cell_pm x13_z8 hm hXP
                         have x14_z9 : z9.cell? ⟨X, 14, none⟩ = some (.int .i64 (W2.hi 14)) := cell_pm x14_z8 hm hXP
                         have x15_z9 : z9.cell? ⟨X, 15, none⟩ = some (.int .i64 (W2.hi 15)) := cell_pm x15_z8 hm hXP
                         have x16_z9 : z9.cell? ⟨X, 16, none⟩ = some (.int .i64 (W2.hi 16)) := cell_pm x16_z8 hm hXP
                         have x17_z9 : z9.cell? ⟨X, 17, none⟩ = some (.slice (some ⟨g, 0, none⟩) B.np cap2) := cell_pm x17_z8 hm hXP
                         clear hP_z8 x0_z8 x4_z8 x7_z8 x8_z8 x12_z8 x13_z8 x14_z8 x15_z8 x16_z8 x17_z8 E_z8
                         clear hp hm))
                    have hLX : ((M.set 88 (.int .i64 4)).set 50 (.bool true)) = dstL W2 n L := by
                      rw [HSD.out]
                      exact ((ch_2 HE86.out).trans (by rw [HSM.out, HTE.out]; rfl)).symm
                    have hPf := hP_z9
                    rw [hLX] at hPf
                    clear hLX
                    have hrw := pv_row HQ.out HLL.out E_z9 hPf
                    have hlen := Lib.hid hPf.len
                    have hBz := HB.out.keep (fun n _ hn => (E_z9.1.heap (Nat.lt_of_lt_of_le hn HX1.out.size) (show ¬ n = P0 by have := HW0.out; omega)).trans (HX1.out.block n hn))
                    have hMz : Mut F w z9 := HM.out.trans (mut_new (HX1.out.mut F) E_z9.1 (by have := HW0.out; omega))
                    have hone := Lib.hid (show ∀ v ∈ (dstL W2 n L : List Value), v.oneCell' = true from HT0.out.one)
                    have c17y := x17_z9
                    obtain ⟨N, hN⟩ : ∃ N, dstL W2 n L = N := ⟨_, rfl⟩
                    rw [hN] at hrw hlen hone HS
                    clear hN hPf
                    refine wp_region_tail 7 (by kernel_rfl) (by kernel_rfl) ?_
                    intro w9 hw9
                    have hx9 : Ext z9 w9 := by
                      rw [hw9]
                      exact (Ext.refl _).drew
                    have HB2 := Lib.hid ((hx9.block _ (heap_lt hrw)).trans hrw)
                    have d17 := cell_ext c17y hx9
                    have hBy := Lib.hid (hBz.ext hx9)
                    have hMy := Lib.hid (hMz.trans (hx9.mut F))
                    have hth := Lib.hid (hBy.out.there hk)
                    clear hw9 hrw c17y hBz hMz hx9
                    simp only [List.take_succ_cons, List.take_zero, List.drop_succ_cons, List.drop_zero]
                    iterate 5 still_step
                    refine wpStill_load_row rfl 51 _ rfl P0 rfl _ _ _ HB2.out Try.underlying51 rfl (by rw [List.size_toArray, hlen.out]; exact size_port) ?_
                    simp only [ps]
                    iterate 1 still_step
                    refine wpStill_nil ?_
                    refine wpList_store_mid rfl 51 _ _ rfl g (n * 89) _ rfl rfl (by rw [List.size_toArray, hlen.out]; exact hth.out) (by rw [List.size_toArray, hlen.out]; exact size_port) (all_oneCell_toArray hone.out) ?_
                    go_wp2_with fail
                    go_roundw
                    case rel => exact ⟨n + 1, by omega, by go_num, by rw [HS.out]; exact hBy.out.setPort hk (l := N) hlen.out, Mut.setCells (.inl hBy.out.F2) _ _ hMy.out⟩
                    case measure => simp [intOf]; omega
                · as_aux_lemma =>
                    have HNT := Lib.hid (fun w => (neq_times w (pI M 78) (pI M 79) (pI M 80) (pI M 81) (pI M 82) (pI M 83) (pI M 84) (pI M 85)).trans (show _ = Result.ok (.bool false) w by rw [show (pI M 78 == pI M 82 && pI M 79 == pI M 83 && pI M 80 == pI M 84 && pI M 81 == pI M 85) = true from HTE.out]; rfl))
                    have hnt := HNT.out
                    go_upto_region 44 with (first
                      | fail
                      | ((with_reducible refine at_store 3 ?_); refine st_pv rfl rfl 3 _ _ rfl P0 0 88 _ hP_z7 _ #[.int .i64 4] rfl rfl rfl (by exact (by decide : 88 + 1 ≤ 89)) (by kernel_rfl) rfl ?_
                         intro z8 hp hm
                         replace hp := pv_one hp HLEN.out (by decide)
                         have hP_z8 : Pv z8 P0 0 (M.set 88 (.int .i64 4)) := hp
                         have E_z8 : Pm P0 0 z1 z8 := E_z7.trans hm
                         have x0_z8 : z8.cell? ⟨X, 0, none⟩ = some (.int .u64 (W2.hi 0)) := cell_pm x0_z7 hm hXP
                         have x4_z8 : z8.cell? ⟨X, 4, none⟩ = some (.int .i64 (W2.hi 4)) := cell_pm x4_z7 hm hXP
                         have x7_z8 : z8.cell? ⟨X, 7, none⟩ = some (.int .u64 (W2.hi 7)) := cell_pm x7_z7 hm hXP
                         have x8_z8 : z8.cell? ⟨X, 8, none⟩ = some (.int .u32 (W2.hi 8)) := cell_pm x8_z7 hm hXP
                         have x12_z8 : z8.cell? ⟨X, 12, none⟩ = some (.int .i64 (W2.hi 12)) := cell_pm x12_z7 hm hXP
                         have x13_z8 : z8.cell? ⟨X, 13, none⟩ = some (.int .i64 (W2.hi 13)) := cell_pm x13_z7 hm hXP
                         have x14_z8 : z8.cell? ⟨X, 14, none⟩ = some (.int .i64 (W2.hi 14)) := cell_pm x14_z7 hm hXP
                         have x15_z8 : z8.cell? ⟨X, 15, none⟩ = some (.int .i64 (W2.hi 15)) := cell_pm x15_z7 hm hXP
                         have x16_z8 : z8.cell? ⟨X, 16, none⟩ = some (.int .i64 (W2.hi 16)) := cell_pm x16_z7 hm hXP
                         have x17_z8 : z8.cell? ⟨X, 17, none⟩ = some (.slice (some ⟨g, 0, none⟩) B.np cap2) := cell_pm x17_z7 hm hXP
                         clear hP_z7 x0_z7 x4_z7 x7_z7 x8_z7 x12_z7 x13_z7 x14_z7 x15_z7 x16_z7 x17_z7 E_z7 p86_z7
                         clear hp hm)
                      | ((with_reducible refine at_loadG 24 ?_); refine wpList_load_midG rfl 24 _ rfl P0 (78) rfl [.int .i64 (pI M 78), .int .i64 (pI M 79), .int .i64 (pI M 80), .int .i64 (pI M 81)] _ (hP_z8.range (j := 78) (n := 4) ((seg_ne (by decide)).trans HS_78.out) (by decide)) Try.underlying24 rfl (by kernel_rfl) ?_)
                      | ((with_reducible refine at_loadG 24 ?_); refine wpList_load_midG rfl 24 _ rfl P0 (82) rfl [.int .i64 (pI M 82), .int .i64 (pI M 83), .int .i64 (pI M 84), .int .i64 (pI M 85)] _ (hP_z8.range (j := 82) (n := 4) ((seg_ne (by decide)).trans HS_82.out) (by decide)) Try.underlying24 rfl (by kernel_rfl) ?_))
                    have hLX : (M.set 88 (.int .i64 4)) = dstL W2 n L := by
                      rw [HSD.out]
                      exact ((ch_2 HE86.out).trans (by rw [HSM.out, HTE.out]; rfl)).symm
                    have hPf := hP_z8
                    rw [hLX] at hPf
                    clear hLX
                    have hrw := pv_row HQ.out HLL.out E_z8 hPf
                    have hlen := Lib.hid hPf.len
                    have hBz := HB.out.keep (fun n _ hn => (E_z8.1.heap (Nat.lt_of_lt_of_le hn HX1.out.size) (show ¬ n = P0 by have := HW0.out; omega)).trans (HX1.out.block n hn))
                    have hMz : Mut F w z8 := HM.out.trans (mut_new (HX1.out.mut F) E_z8.1 (by have := HW0.out; omega))
                    have hone := Lib.hid (show ∀ v ∈ (dstL W2 n L : List Value), v.oneCell' = true from HT0.out.one)
                    have c17y := x17_z8
                    obtain ⟨N, hN⟩ : ∃ N, dstL W2 n L = N := ⟨_, rfl⟩
                    rw [hN] at hrw hlen hone HS
                    clear hN hPf
                    refine wp_region_tail 7 (by kernel_rfl) (by kernel_rfl) ?_
                    intro w9 hw9
                    have hx9 : Ext z8 w9 := by
                      rw [hw9]
                      exact (Ext.refl _).drew
                    have HB2 := Lib.hid ((hx9.block _ (heap_lt hrw)).trans hrw)
                    have d17 := cell_ext c17y hx9
                    have hBy := Lib.hid (hBz.ext hx9)
                    have hMy := Lib.hid (hMz.trans (hx9.mut F))
                    have hth := Lib.hid (hBy.out.there hk)
                    clear hw9 hrw c17y hBz hMz hx9
                    simp only [List.take_succ_cons, List.take_zero, List.drop_succ_cons, List.drop_zero]
                    iterate 5 still_step
                    refine wpStill_load_row rfl 51 _ rfl P0 rfl _ _ _ HB2.out Try.underlying51 rfl (by rw [List.size_toArray, hlen.out]; exact size_port) ?_
                    simp only [ps]
                    iterate 1 still_step
                    refine wpStill_nil ?_
                    refine wpList_store_mid rfl 51 _ _ rfl g (n * 89) _ rfl rfl (by rw [List.size_toArray, hlen.out]; exact hth.out) (by rw [List.size_toArray, hlen.out]; exact size_port) (all_oneCell_toArray hone.out) ?_
                    go_wp2_with fail
                    go_roundw
                    case rel => exact ⟨n + 1, by omega, by go_num, by rw [HS.out]; exact hBy.out.setPort hk (l := N) hlen.out, Mut.setCells (.inl hBy.out.F2) _ _ hMy.out⟩
                    case measure => simp [intOf]; omega
            · by_cases e3 : x86 = 3
              · subst e3
                obtain ⟨rt, hrt⟩ : ∃ t, ((n : Int) == W2.hi 12) = t := ⟨_, rfl⟩
                have HRTT := Lib.hid hrt
                cases rt
                · cases ls
                  · have hs2 : (pI M 70 % 281474976710656 == W2.hi 0 % 281474976710656) = sa := HSA.out
                    cases sa
                    · as_aux_lemma =>
                        go_upto_region 42 with (first
                          | fail
                          | ((with_reducible refine at_store 4 ?_); refine st_pv rfl rfl 4 _ _ rfl P0 0 50 _ hP_z7 _ #[.bool false] rfl rfl rfl (by exact (by decide : 50 + 1 ≤ 89)) (by kernel_rfl) rfl ?_
                             intro z8 hp hm
                             replace hp := pv_one hp HLEN.out (by decide)
                             have hP_z8 : Pv z8 P0 0 (M.set 50 (.bool false)) := hp
                             have E_z8 : Pm P0 0 z1 z8 := E_z7.trans hm
                             have x0_z8 : z8.cell? ⟨X, 0, none⟩ = some (.int .u64 (W2.hi 0)) := cell_pm x0_z7 hm hXP
                             have x4_z8 : z8.cell? ⟨X, 4, none⟩ = some (.int .i64 (W2.hi 4)) := cell_pm x4_z7 hm hXP
                             have x7_z8 : z8.cell? ⟨X, 7, none⟩ = some (.int .u64 (W2.hi 7)) := cell_pm x7_z7 hm hXP
                             have x8_z8 : z8.cell? ⟨X, 8, none⟩ = some (.int .u32 (W2.hi 8)) := cell_pm x8_z7 hm hXP
                             have x12_z8 : z8.cell? ⟨X, 12, none⟩ = some (.int .i64 (W2.hi 12)) := cell_pm x12_z7 hm hXP
                             have x13_z8 : z8.cell? ⟨X, 13, none⟩ = some (.int .i64 (W2.hi 13)) := cell_pm x13_z7 hm hXP
                             have x14_z8 : z8.cell? ⟨X, 14, none⟩ = some (.int .i64 (W2.hi 14)) := cell_pm x14_z7 hm hXP
                             have x15_z8 : z8.cell? ⟨X, 15, none⟩ = some (.int .i64 (W2.hi 15)) := cell_pm x15_z7 hm hXP
                             have x16_z8 : z8.cell? ⟨X, 16, none⟩ = some (.int .i64 (W2.hi 16)) := cell_pm x16_z7 hm hXP
                             have x17_z8 : z8.cell? ⟨X, 17, none⟩ = some (.slice (some ⟨g, 0, none⟩) B.np cap2) := cell_pm x17_z7 hm hXP
                             clear hP_z7 x0_z7 x4_z7 x7_z7 x8_z7 x12_z7 x13_z7 x14_z7 x15_z7 x16_z7 x17_z7 E_z7 p86_z7
                             clear hp hm))
                        refine beginL (S := fun W' => Ext z8 W') (by kernel_rfl) ?_
                        intro wd hqx
                        have hq0 : Ext z8 wd := hqx
                        refine takeL (i := 0) (v := (.pointer (some ⟨P0, 68, none⟩))) rfl (by kernel_rfl) (by kernel_rfl) (by kernel_rfl) (fun _ _ _ h => h) (Or.inl ⟨rfl, fun _ _ => rfl⟩) hq0 ?_
                        simp only [Act.put, List.setIfInBounds_toArray, List.set_cons_zero, List.set_cons_succ]
                        refine takeL (i := 1) (v := (.pointer (some ⟨P0, 70, none⟩))) rfl (by kernel_rfl) (by kernel_rfl) (by kernel_rfl) (fun _ _ _ h => h) (Or.inl ⟨rfl, fun _ _ => rfl⟩) hq0 ?_
                        simp only [Act.put, List.setIfInBounds_toArray, List.set_cons_zero, List.set_cons_succ]
                        refine takeL (i := 2) (v := _) rfl (by kernel_rfl) (by kernel_rfl) (by kernel_rfl) (fun _ _ _ h => h) (yieldsIf_cell rfl 22 _ rfl ⟨P0, 70, none⟩ rfl (.int .u64 (pI M 70)) _ (fun W' hW' => ((hP_z8.ext hW').cell (j := 70) (by decide)).trans ((get_ne (by decide)).trans HL_70.out)) Try.underlying22 rfl) hq0 ?_
                        simp only [Act.put, List.setIfInBounds_toArray, List.set_cons_zero, List.set_cons_succ]
                        refine takeL (i := 4) (v := (.pointer (some ⟨X, 0, none⟩))) rfl (by kernel_rfl) (by kernel_rfl) (by kernel_rfl) (fun _ _ _ h => h) (Or.inl ⟨rfl, fun _ _ => rfl⟩) hq0 ?_
                        simp only [Act.put, List.setIfInBounds_toArray, List.set_cons_zero, List.set_cons_succ]
                        refine takeL (i := 5) (v := (.pointer (some ⟨X, 0, none⟩))) rfl (by kernel_rfl) (by kernel_rfl) (by kernel_rfl) (fun _ _ _ h => h) (Or.inl ⟨rfl, fun _ _ => rfl⟩) hq0 ?_
                        simp only [Act.put, List.setIfInBounds_toArray, List.set_cons_zero, List.set_cons_succ]
                        refine takeL (i := 6) (v := (.pointer (some ⟨X, 0, none⟩))) rfl (by kernel_rfl) (by kernel_rfl) (by kernel_rfl) (fun _ _ _ h => h) (Or.inl ⟨rfl, fun _ _ => rfl⟩) hq0 ?_
                        simp only [Act.put, List.setIfInBounds_toArray, List.set_cons_zero, List.set_cons_succ]
                        refine takeL (i := 7) (v := _) rfl (by kernel_rfl) (by kernel_rfl) (by kernel_rfl) (fun _ _ _ h => h) (yieldsIf_cell rfl 22 _ rfl ⟨X, 0, none⟩ rfl (.int .u64 (W2.hi 0)) _ (fun W' hW' => cell_ext x0_z8 hW') Try.underlying22 rfl) hq0 ?_
                        simp only [Act.put, List.setIfInBounds_toArray, List.set_cons_zero, List.set_cons_succ]
                        refine runL (i := 3) rfl rfl (by kernel_rfl) (fun K hK => ?_)
                        go_simp
                        refine (ref_addrE _ _ g70).mono ?_
                        rintro e wc1 ⟨rfl, hx⟩
                        have hq1 := hq0.trans hx
                        refine hK.out _ _ hq1 (fun hHeld => ?_)
                        try simp only [Act.put, List.setIfInBounds_toArray, List.set_cons_zero, List.set_cons_succ]
                        clear hK K hHeld
                        refine runL (i := 8) rfl rfl (by kernel_rfl) (fun K hK => ?_)
                        go_simp
                        refine (ref_addrE _ _ gid).mono ?_
                        rintro e wc2 ⟨rfl, hx⟩
                        have hq2 := hq1.trans hx
                        refine hK.out _ _ hq2 (fun hHeld => ?_)
                        try simp only [Act.put, List.setIfInBounds_toArray, List.set_cons_zero, List.set_cons_succ]
                        clear hK K hHeld
                        refine takeL (i := 9) (v := (.bool false)) rfl (by kernel_rfl) (by kernel_rfl) (by kernel_rfl) (fun _ _ _ h => h) (Or.inl ⟨rfl, fun W' _ => by go_simp⟩) hq2 ?_
                        simp only [Act.put, List.setIfInBounds_toArray, List.set_cons_zero, List.set_cons_succ]
                        refine takeL (i := 10) (v := (.bool false)) rfl (by kernel_rfl) (by kernel_rfl) (by kernel_rfl) (fun _ _ _ h => h) (Or.inl ⟨rfl, fun _ _ => rfl⟩) hq2 ?_
                        simp only [Act.put, List.setIfInBounds_toArray, List.set_cons_zero, List.set_cons_succ]
                        refine wpAnyH_done (by kernel_rfl) ?_ _
                        generalize wc2 = z9 at *
                        have hP_z9 : Pv z9 P0 0 (M.set 50 (.bool false)) := hP_z8.ext hq2
                        have x0_z9 : z9.cell? ⟨X, 0, none⟩ = some (.int .u64 (W2.hi 0)) := cell_ext x0_z8 hq2
                        have x4_z9 : z9.cell? ⟨X, 4, none⟩ = some (.int .i64 (W2.hi 4)) := cell_ext x4_z8 hq2
                        have x7_z9 : z9.cell? ⟨X, 7, none⟩ = some (.int .u64 (W2.hi 7)) := cell_ext x7_z8 hq2
                        have x8_z9 : z9.cell? ⟨X, 8, none⟩ = some (.int .u32 (W2.hi 8)) := cell_ext x8_z8 hq2
                        have x12_z9 : z9.cell? ⟨X, 12, none⟩ = some (.int .i64 (W2.hi 12)) := cell_ext x12_z8 hq2
                        have x13_z9 : z9.cell? ⟨X, 13, none⟩ = some (.int .i64 (W2.hi 13)) := cell_ext x13_z8 hq2
                        have x14_z9 : z9.cell? ⟨X, 14, none⟩ = some (.int .i64 (W2.hi 14)) := cell_ext x14_z8 hq2
                        have x15_z9 : z9.cell? ⟨X, 15, none⟩ = some (.int .i64 (W2.hi 15)) := cell_ext x15_z8 hq2
                        have x16_z9 : z9.cell? ⟨X, 16, none⟩ = some (.int .i64 (W2.hi 16)) := cell_ext x16_z8 hq2
                        have x17_z9 : z9.cell? ⟨X, 17, none⟩ = some (.slice (some ⟨g, 0, none⟩) B.np cap2) := cell_ext x17_z8 hq2
                        have E_z9 : Pm P0 0 z1 z9 := E_z8.ext hq2
                        clear hP_z8 x0_z8 x4_z8 x7_z8 x8_z8 x12_z8 x13_z8 x14_z8 x15_z8 x16_z8 x17_z8 E_z8
                        clear hq0 hq1 hq2
                        go_upto_region 44 with (first
                          | fail
                          | ((with_reducible refine at_store 3 ?_); refine st_pv rfl rfl 3 _ _ rfl P0 0 88 _ hP_z9 _ #[.int .i64 1] rfl rfl rfl (by exact (by decide : 88 + 1 ≤ 89)) (by kernel_rfl) rfl ?_
                             intro z10 hp hm
                             replace hp := pv_one hp (len_set' HLEN.out) (by decide)
                             have hP_z10 : Pv z10 P0 0 ((M.set 50 (.bool false)).set 88 (.int .i64 1)) := hp
                             have E_z10 : Pm P0 0 z1 z10 := E_z9.trans hm
                             have x0_z10 : z10.cell? ⟨X, 0, none⟩ = some (.int .u64 (W2.hi 0)) := cell_pm x0_z9 hm hXP
                             have x4_z10 : z10.cell? ⟨X, 4, none⟩ = some (.int .i64 (W2.hi 4)) := cell_pm x4_z9 hm hXP
                             have x7_z10 : z10.cell? ⟨X, 7, none⟩ = some (.int .u64 (W2.hi 7)) := cell_pm x7_z9 hm hXP
                             have x8_z10 : z10.cell? ⟨X, 8, none⟩ = some (.int .u32 (W2.hi 8)) := cell_pm x8_z9 hm hXP
                             have x12_z10 : z10.cell? ⟨X, 12, none⟩ = some (.int .i64 (W2.hi 12)) := cell_pm x12_z9 hm hXP
                             have x13_z10 : z10.cell? ⟨X, 13, none⟩ = some (.int .i64 (W2.hi 13)) := cell_pm x13_z9 hm hXP
                             have x14_z10 : z10.cell? ⟨X, 14, none⟩ = some (.int .i64 (W2.hi 14)) := cell_pm x14_z9 hm hXP
                             have x15_z10 : z10.cell? ⟨X, 15, none⟩ = some (.int .i64 (W2.hi 15)) := cell_pm x15_z9 hm hXP
                             have x16_z10 : z10.cell? ⟨X, 16, none⟩ = some (.int .i64 (W2.hi 16)) := cell_pm x16_z9 hm hXP
                             have x17_z10 : z10.cell? ⟨X, 17, none⟩ = some (.slice (some ⟨g, 0, none⟩) B.np cap2) := cell_pm x17_z9 hm hXP
                             clear hP_z9 x0_z9 x4_z9 x7_z9 x8_z9 x12_z9 x13_z9 x14_z9 x15_z9 x16_z9 x17_z9 E_z9
                             clear hp hm))
                        have hLX : ((M.set 50 (.bool false)).set 88 (.int .i64 1)) = dstL W2 n L := by
                          rw [HSD.out]
                          exact (ch_3x HE86.out HRTT.out HLS.out 1 (by rw [HSA.out]; rfl)).symm
                        have hPf := hP_z10
                        rw [hLX] at hPf
                        clear hLX
                        have hrw := pv_row HQ.out HLL.out E_z10 hPf
                        have hlen := Lib.hid hPf.len
                        have hBz := HB.out.keep (fun n _ hn => (E_z10.1.heap (Nat.lt_of_lt_of_le hn HX1.out.size) (show ¬ n = P0 by have := HW0.out; omega)).trans (HX1.out.block n hn))
                        have hMz : Mut F w z10 := HM.out.trans (mut_new (HX1.out.mut F) E_z10.1 (by have := HW0.out; omega))
                        have hone := Lib.hid (show ∀ v ∈ (dstL W2 n L : List Value), v.oneCell' = true from HT0.out.one)
                        have c17y := x17_z10
                        obtain ⟨N, hN⟩ : ∃ N, dstL W2 n L = N := ⟨_, rfl⟩
                        rw [hN] at hrw hlen hone HS
                        clear hN hPf
                        refine wp_region_tail 7 (by kernel_rfl) (by kernel_rfl) ?_
                        intro w9 hw9
                        have hx9 : Ext z10 w9 := by
                          rw [hw9]
                          exact (Ext.refl _).drew
                        have HB2 := Lib.hid ((hx9.block _ (heap_lt hrw)).trans hrw)
                        have d17 := cell_ext c17y hx9
                        have hBy := Lib.hid (hBz.ext hx9)
                        have hMy := Lib.hid (hMz.trans (hx9.mut F))
                        have hth := Lib.hid (hBy.out.there hk)
                        clear hw9 hrw c17y hBz hMz hx9
                        simp only [List.take_succ_cons, List.take_zero, List.drop_succ_cons, List.drop_zero]
                        iterate 5 still_step
                        refine wpStill_load_row rfl 51 _ rfl P0 rfl _ _ _ HB2.out Try.underlying51 rfl (by rw [List.size_toArray, hlen.out]; exact size_port) ?_
                        simp only [ps]
                        iterate 1 still_step
                        refine wpStill_nil ?_
                        refine wpList_store_mid rfl 51 _ _ rfl g (n * 89) _ rfl rfl (by rw [List.size_toArray, hlen.out]; exact hth.out) (by rw [List.size_toArray, hlen.out]; exact size_port) (all_oneCell_toArray hone.out) ?_
                        go_wp2_with fail
                        go_roundw
                        case rel => exact ⟨n + 1, by omega, by go_num, by rw [HS.out]; exact hBy.out.setPort hk (l := N) hlen.out, Mut.setCells (.inl hBy.out.F2) _ _ hMy.out⟩
                        case measure => simp [intOf]; omega
                    · as_aux_lemma =>
                        go_upto_region 42 with (first
                          | fail
                          | ((with_reducible refine at_store 4 ?_); refine st_pv rfl rfl 4 _ _ rfl P0 0 50 _ hP_z7 _ #[.bool false] rfl rfl rfl (by exact (by decide : 50 + 1 ≤ 89)) (by kernel_rfl) rfl ?_
                             intro z8 hp hm
                             replace hp := pv_one hp HLEN.out (by decide)
                             have hP_z8 : Pv z8 P0 0 (M.set 50 (.bool false)) := hp
                             have E_z8 : Pm P0 0 z1 z8 := E_z7.trans hm
                             have x0_z8 : z8.cell? ⟨X, 0, none⟩ = some (.int .u64 (W2.hi 0)) := cell_pm x0_z7 hm hXP
                             have x4_z8 : z8.cell? ⟨X, 4, none⟩ = some (.int .i64 (W2.hi 4)) := cell_pm x4_z7 hm hXP
                             have x7_z8 : z8.cell? ⟨X, 7, none⟩ = some (.int .u64 (W2.hi 7)) := cell_pm x7_z7 hm hXP
                             have x8_z8 : z8.cell? ⟨X, 8, none⟩ = some (.int .u32 (W2.hi 8)) := cell_pm x8_z7 hm hXP
                             have x12_z8 : z8.cell? ⟨X, 12, none⟩ = some (.int .i64 (W2.hi 12)) := cell_pm x12_z7 hm hXP
                             have x13_z8 : z8.cell? ⟨X, 13, none⟩ = some (.int .i64 (W2.hi 13)) := cell_pm x13_z7 hm hXP
                             have x14_z8 : z8.cell? ⟨X, 14, none⟩ = some (.int .i64 (W2.hi 14)) := cell_pm x14_z7 hm hXP
                             have x15_z8 : z8.cell? ⟨X, 15, none⟩ = some (.int .i64 (W2.hi 15)) := cell_pm x15_z7 hm hXP
                             have x16_z8 : z8.cell? ⟨X, 16, none⟩ = some (.int .i64 (W2.hi 16)) := cell_pm x16_z7 hm hXP
                             have x17_z8 : z8.cell? ⟨X, 17, none⟩ = some (.slice (some ⟨g, 0, none⟩) B.np cap2) := cell_pm x17_z7 hm hXP
                             clear hP_z7 x0_z7 x4_z7 x7_z7 x8_z7 x12_z7 x13_z7 x14_z7 x15_z7 x16_z7 x17_z7 E_z7 p86_z7
                             clear hp hm))
                        refine beginL (S := fun W' => Ext z8 W') (by kernel_rfl) ?_
                        intro wd hqx
                        have hq0 : Ext z8 wd := hqx
                        refine takeL (i := 0) (v := (.pointer (some ⟨P0, 68, none⟩))) rfl (by kernel_rfl) (by kernel_rfl) (by kernel_rfl) (fun _ _ _ h => h) (Or.inl ⟨rfl, fun _ _ => rfl⟩) hq0 ?_
                        simp only [Act.put, List.setIfInBounds_toArray, List.set_cons_zero, List.set_cons_succ]
                        refine takeL (i := 1) (v := (.pointer (some ⟨P0, 70, none⟩))) rfl (by kernel_rfl) (by kernel_rfl) (by kernel_rfl) (fun _ _ _ h => h) (Or.inl ⟨rfl, fun _ _ => rfl⟩) hq0 ?_
                        simp only [Act.put, List.setIfInBounds_toArray, List.set_cons_zero, List.set_cons_succ]
                        refine takeL (i := 2) (v := _) rfl (by kernel_rfl) (by kernel_rfl) (by kernel_rfl) (fun _ _ _ h => h) (yieldsIf_cell rfl 22 _ rfl ⟨P0, 70, none⟩ rfl (.int .u64 (pI M 70)) _ (fun W' hW' => ((hP_z8.ext hW').cell (j := 70) (by decide)).trans ((get_ne (by decide)).trans HL_70.out)) Try.underlying22 rfl) hq0 ?_
                        simp only [Act.put, List.setIfInBounds_toArray, List.set_cons_zero, List.set_cons_succ]
                        refine takeL (i := 4) (v := (.pointer (some ⟨X, 0, none⟩))) rfl (by kernel_rfl) (by kernel_rfl) (by kernel_rfl) (fun _ _ _ h => h) (Or.inl ⟨rfl, fun _ _ => rfl⟩) hq0 ?_
                        simp only [Act.put, List.setIfInBounds_toArray, List.set_cons_zero, List.set_cons_succ]
                        refine takeL (i := 5) (v := (.pointer (some ⟨X, 0, none⟩))) rfl (by kernel_rfl) (by kernel_rfl) (by kernel_rfl) (fun _ _ _ h => h) (Or.inl ⟨rfl, fun _ _ => rfl⟩) hq0 ?_
                        simp only [Act.put, List.setIfInBounds_toArray, List.set_cons_zero, List.set_cons_succ]
                        refine takeL (i := 6) (v := (.pointer (some ⟨X, 0, none⟩))) rfl (by kernel_rfl) (by kernel_rfl) (by kernel_rfl) (fun _ _ _ h => h) (Or.inl ⟨rfl, fun _ _ => rfl⟩) hq0 ?_
                        simp only [Act.put, List.setIfInBounds_toArray, List.set_cons_zero, List.set_cons_succ]
                        refine takeL (i := 7) (v := _) rfl (by kernel_rfl) (by kernel_rfl) (by kernel_rfl) (fun _ _ _ h => h) (yieldsIf_cell rfl 22 _ rfl ⟨X, 0, none⟩ rfl (.int .u64 (W2.hi 0)) _ (fun W' hW' => cell_ext x0_z8 hW') Try.underlying22 rfl) hq0 ?_
                        simp only [Act.put, List.setIfInBounds_toArray, List.set_cons_zero, List.set_cons_succ]
                        refine runL (i := 3) rfl rfl (by kernel_rfl) (fun K hK => ?_)
                        go_simp
                        refine (ref_addrE _ _ g70).mono ?_
                        rintro e wc1 ⟨rfl, hx⟩
                        have hq1 := hq0.trans hx
                        refine hK.out _ _ hq1 (fun hHeld => ?_)
                        try simp only [Act.put, List.setIfInBounds_toArray, List.set_cons_zero, List.set_cons_succ]
                        clear hK K hHeld
                        refine runL (i := 8) rfl rfl (by kernel_rfl) (fun K hK => ?_)
                        go_simp
                        refine (ref_addrE _ _ gid).mono ?_
                        rintro e wc2 ⟨rfl, hx⟩
                        have hq2 := hq1.trans hx
                        refine hK.out _ _ hq2 (fun hHeld => ?_)
                        try simp only [Act.put, List.setIfInBounds_toArray, List.set_cons_zero, List.set_cons_succ]
                        clear hK K hHeld
                        refine takeL (i := 9) (v := (.bool true)) rfl (by kernel_rfl) (by kernel_rfl) (by kernel_rfl) (fun _ _ _ h => h) (Or.inl ⟨rfl, fun W' _ => by go_simp⟩) hq2 ?_
                        simp only [Act.put, List.setIfInBounds_toArray, List.set_cons_zero, List.set_cons_succ]
                        refine takeL (i := 10) (v := (.bool true)) rfl (by kernel_rfl) (by kernel_rfl) (by kernel_rfl) (fun _ _ _ h => h) (Or.inl ⟨rfl, fun _ _ => rfl⟩) hq2 ?_
                        simp only [Act.put, List.setIfInBounds_toArray, List.set_cons_zero, List.set_cons_succ]
                        refine wpAnyH_done (by kernel_rfl) ?_ _
                        generalize wc2 = z9 at *
                        have hP_z9 : Pv z9 P0 0 (M.set 50 (.bool false)) := hP_z8.ext hq2
                        have x0_z9 : z9.cell? ⟨X, 0, none⟩ = some (.int .u64 (W2.hi 0)) := cell_ext x0_z8 hq2
                        have x4_z9 : z9.cell? ⟨X, 4, none⟩ = some (.int .i64 (W2.hi 4)) := cell_ext x4_z8 hq2
                        have x7_z9 : z9.cell? ⟨X, 7, none⟩ = some (.int .u64 (W2.hi 7)) := cell_ext x7_z8 hq2
                        have x8_z9 : z9.cell? ⟨X, 8, none⟩ = some (.int .u32 (W2.hi 8)) := cell_ext x8_z8 hq2
                        have x12_z9 : z9.cell? ⟨X, 12, none⟩ = some (.int .i64 (W2.hi 12)) := cell_ext x12_z8 hq2
                        have x13_z9 : z9.cell? ⟨X, 13, none⟩ = some (.int .i64 (W2.hi 13)) := cell_ext x13_z8 hq2
                        have x14_z9 : z9.cell? ⟨X, 14, none⟩ = some (.int .i64 (W2.hi 14)) := cell_ext x14_z8 hq2
                        have x15_z9 : z9.cell? ⟨X, 15, none⟩ = some (.int .i64 (W2.hi 15)) := cell_ext x15_z8 hq2
                        have x16_z9 : z9.cell? ⟨X, 16, none⟩ = some (.int .i64 (W2.hi 16)) := cell_ext x16_z8 hq2
                        have x17_z9 : z9.cell? ⟨X, 17, none⟩ = some (.slice (some ⟨g, 0, none⟩) B.np cap2) := cell_ext x17_z8 hq2
                        have E_z9 : Pm P0 0 z1 z9 := E_z8.ext hq2
                        clear hP_z8 x0_z8 x4_z8 x7_z8 x8_z8 x12_z8 x13_z8 x14_z8 x15_z8 x16_z8 x17_z8 E_z8
                        clear hq0 hq1 hq2
                        go_upto_region 44 with (first
                          | fail
                          | ((with_reducible refine at_store 3 ?_); refine st_pv rfl rfl 3 _ _ rfl P0 0 88 _ hP_z9 _ #[.int .i64 2] rfl rfl rfl (by exact (by decide : 88 + 1 ≤ 89)) (by kernel_rfl) rfl ?_
                             intro z10 hp hm
                             replace hp := pv_one hp (len_set' HLEN.out) (by decide)
                             have hP_z10 : Pv z10 P0 0 ((M.set 50 (.bool false)).set 88 (.int .i64 2)) := hp
                             have E_z10 : Pm P0 0 z1 z10 := E_z9.trans hm
                             have x0_z10 : z10.cell? ⟨X, 0, none⟩ = some (.int .u64 (W2.hi 0)) := cell_pm x0_z9 hm hXP
                             have x4_z10 : z10.cell? ⟨X, 4, none⟩ = some (.int .i64 (W2.hi 4)) := cell_pm x4_z9 hm hXP
                             have x7_z10 : z10.cell? ⟨X, 7, none⟩ = some (.int .u64 (W2.hi 7)) := cell_pm x7_z9 hm hXP
                             have x8_z10 : z10.cell? ⟨X, 8, none⟩ = some (.int .u32 (W2.hi 8)) := cell_pm x8_z9 hm hXP
                             have x12_z10 : z10.cell? ⟨X, 12, none⟩ = some (.int .i64 (W2.hi 12)) := cell_pm x12_z9 hm hXP
                             have x13_z10 : z10.cell? ⟨X, 13, none⟩ = some (.int .i64 (W2.hi 13)) := cell_pm x13_z9 hm hXP
                             have x14_z10 : z10.cell? ⟨X, 14, none⟩ = some (.int .i64 (W2.hi 14)) := cell_pm x14_z9 hm hXP
                             have x15_z10 : z10.cell? ⟨X, 15, none⟩ = some (.int .i64 (W2.hi 15)) := cell_pm x15_z9 hm hXP
                             have x16_z10 : z10.cell? ⟨X, 16, none⟩ = some (.int .i64 (W2.hi 16)) := cell_pm x16_z9 hm hXP
                             have x17_z10 : z10.cell? ⟨X, 17, none⟩ = some (.slice (some ⟨g, 0, none⟩) B.np cap2) := cell_pm x17_z9 hm hXP
                             clear hP_z9 x0_z9 x4_z9 x7_z9 x8_z9 x12_z9 x13_z9 x14_z9 x15_z9 x16_z9 x17_z9 E_z9
                             clear hp hm))
                        have hLX : ((M.set 50 (.bool false)).set 88 (.int .i64 2)) = dstL W2 n L := by
                          rw [HSD.out]
                          exact (ch_3x HE86.out HRTT.out HLS.out 2 (by rw [HSA.out]; rfl)).symm
                        have hPf := hP_z10
                        rw [hLX] at hPf
                        clear hLX
                        have hrw := pv_row HQ.out HLL.out E_z10 hPf
                        have hlen := Lib.hid hPf.len
                        have hBz := HB.out.keep (fun n _ hn => (E_z10.1.heap (Nat.lt_of_lt_of_le hn HX1.out.size) (show ¬ n = P0 by have := HW0.out; omega)).trans (HX1.out.block n hn))
                        have hMz : Mut F w z10 := HM.out.trans (mut_new (HX1.out.mut F) E_z10.1 (by have := HW0.out; omega))
                        have hone := Lib.hid (show ∀ v ∈ (dstL W2 n L : List Value), v.oneCell' = true from HT0.out.one)
                        have c17y := x17_z10
                        obtain ⟨N, hN⟩ : ∃ N, dstL W2 n L = N := ⟨_, rfl⟩
                        rw [hN] at hrw hlen hone HS
                        clear hN hPf
                        refine wp_region_tail 7 (by kernel_rfl) (by kernel_rfl) ?_
                        intro w9 hw9
                        have hx9 : Ext z10 w9 := by
                          rw [hw9]
                          exact (Ext.refl _).drew
                        have HB2 := Lib.hid ((hx9.block _ (heap_lt hrw)).trans hrw)
                        have d17 := cell_ext c17y hx9
                        have hBy := Lib.hid (hBz.ext hx9)
                        have hMy := Lib.hid (hMz.trans (hx9.mut F))
                        have hth := Lib.hid (hBy.out.there hk)
                        clear hw9 hrw c17y hBz hMz hx9
                        simp only [List.take_succ_cons, List.take_zero, List.drop_succ_cons, List.drop_zero]
                        iterate 5 still_step
                        refine wpStill_load_row rfl 51 _ rfl P0 rfl _ _ _ HB2.out Try.underlying51 rfl (by rw [List.size_toArray, hlen.out]; exact size_port) ?_
                        simp only [ps]
                        iterate 1 still_step
                        refine wpStill_nil ?_
                        refine wpList_store_mid rfl 51 _ _ rfl g (n * 89) _ rfl rfl (by rw [List.size_toArray, hlen.out]; exact hth.out) (by rw [List.size_toArray, hlen.out]; exact size_port) (all_oneCell_toArray hone.out) ?_
                        go_wp2_with fail
                        go_roundw
                        case rel => exact ⟨n + 1, by omega, by go_num, by rw [HS.out]; exact hBy.out.setPort hk (l := N) hlen.out, Mut.setCells (.inl hBy.out.F2) _ _ hMy.out⟩
                        case measure => simp [intOf]; omega
                  · as_aux_lemma =>
                      go_upto_region 44 with (first
                        | fail
                        | ((with_reducible refine at_store 4 ?_); refine st_pv rfl rfl 4 _ _ rfl P0 0 50 _ hP_z7 _ #[.bool false] rfl rfl rfl (by exact (by decide : 50 + 1 ≤ 89)) (by kernel_rfl) rfl ?_
                           intro z8 hp hm
                           replace hp := pv_one hp HLEN.out (by decide)
                           have hP_z8 : Pv z8 P0 0 (M.set 50 (.bool false)) := hp
                           have E_z8 : Pm P0 0 z1 z8 := E_z7.trans hm
                           have x0_z8 : z8.cell? ⟨X, 0, none⟩ = some (.int .u64 (W2.hi 0)) := cell_pm x0_z7 hm hXP
                           have x4_z8 : z8.cell? ⟨X, 4, none⟩ = some (.int .i64 (W2.hi 4)) := cell_pm x4_z7 hm hXP
                           have x7_z8 : z8.cell? ⟨X, 7, none⟩ = some (.int .u64 (W2.hi 7)) := cell_pm x7_z7 hm hXP
                           have x8_z8 : z8.cell? ⟨X, 8, none⟩ = some (.int .u32 (W2.hi 8)) := cell_pm x8_z7 hm hXP
                           have x12_z8 : z8.cell? ⟨X, 12, none⟩ = some (.int .i64 (W2.hi 12)) := cell_pm x12_z7 hm hXP
                           have x13_z8 : z8.cell? ⟨X, 13, none⟩ = some (.int .i64 (W2.hi 13)) := cell_pm x13_z7 hm hXP
                           have x14_z8 : z8.cell? ⟨X, 14, none⟩ = some (.int .i64 (W2.hi 14)) := cell_pm x14_z7 hm hXP
                           have x15_z8 : z8.cell? ⟨X, 15, none⟩ = some (.int .i64 (W2.hi 15)) := cell_pm x15_z7 hm hXP
                           have x16_z8 : z8.cell? ⟨X, 16, none⟩ = some (.int .i64 (W2.hi 16)) := cell_pm x16_z7 hm hXP
                           have x17_z8 : z8.cell? ⟨X, 17, none⟩ = some (.slice (some ⟨g, 0, none⟩) B.np cap2) := cell_pm x17_z7 hm hXP
                           clear hP_z7 x0_z7 x4_z7 x7_z7 x8_z7 x12_z7 x13_z7 x14_z7 x15_z7 x16_z7 x17_z7 E_z7 p86_z7
                           clear hp hm)
                        | ((with_reducible refine at_store 3 ?_); refine st_pv rfl rfl 3 _ _ rfl P0 0 88 _ hP_z8 _ #[.int .i64 4] rfl rfl rfl (by exact (by decide : 88 + 1 ≤ 89)) (by kernel_rfl) rfl ?_
                           intro z9 hp hm
                           replace hp := pv_one hp (len_set' HLEN.out) (by decide)
                           have hP_z9 : Pv z9 P0 0 ((M.set 50 (.bool false)).set 88 (.int .i64 4)) := hp
                           have E_z9 : Pm P0 0 z1 z9 := E_z8.trans hm
                           have x0_z9 : z9.cell? ⟨X, 0, none⟩ = some (.int .u64 (W2.hi 0)) := cell_pm x0_z8 hm hXP
                           have x4_z9 : z9.cell? ⟨X, 4, none⟩ = some (.int .i64 (W2.hi 4)) := cell_pm x4_z8 hm hXP
                           have x7_z9 : z9.cell? ⟨X, 7, none⟩ = some (.int .u64 (W2.hi 7)) := cell_pm x7_z8 hm hXP
                           have x8_z9 : z9.cell? ⟨X, 8, none⟩ = some (.int .u32 (W2.hi 8)) := cell_pm x8_z8 hm hXP
                           have x12_z9 : z9.cell? ⟨X, 12, none⟩ = some (.int .i64 (W2.hi 12)) := cell_pm x12_z8 hm hXP
                           have x13_z9 : z9.cell? ⟨X, 13, none⟩ = some (.int .i64 (W2.hi 13)) := cell_pm x13_z8 hm hXP
                           have x14_z9 : z9.cell? ⟨X, 14, none⟩ = some (.int .i64 (W2.hi 14)) := cell_pm x14_z8 hm hXP
                           have x15_z9 : z9.cell? ⟨X, 15, none⟩ = some (.int .i64 (W2.hi 15)) := cell_pm x15_z8 hm hXP
                           have x16_z9 : z9.cell? ⟨X, 16, none⟩ = some (.int .i64 (W2.hi 16)) := cell_pm x16_z8 hm hXP
                           have x17_z9 : z9.cell? ⟨X, 17, none⟩ = some (.slice (some ⟨g, 0, none⟩) B.np cap2) := cell_pm x17_z8 hm hXP
                           clear hP_z8 x0_z8 x4_z8 x7_z8 x8_z8 x12_z8 x13_z8 x14_z8 x15_z8 x16_z8 x17_z8 E_z8
                           clear hp hm)
                        | ((with_reducible refine at_store 4 ?_); refine st_pv rfl rfl 4 _ _ rfl P0 0 50 _ hP_z9 _ #[.bool true] rfl rfl rfl (by exact (by decide : 50 + 1 ≤ 89)) (by kernel_rfl) rfl ?_
                           intro z10 hp hm
                           replace hp := pv_one hp (len_set' (len_set' HLEN.out)) (by decide)
                           have hP_z10 : Pv z10 P0 0 (((M.set 50 (.bool false)).set 88 (.int .i64 4)).set 50 (.bool true)) := hp
                           have E_z10 : Pm P0 0 z1 z10 := E_z9.trans hm
                           have x0_z10 : z10.cell? ⟨X, 0, none⟩ = some (.int .u64 (W2.hi 0)) := cell_pm x0_z9 hm hXP
                           have x4_z10 : z10.cell? ⟨X, 4, none⟩ = some (.int .i64 (W2.hi 4)) := cell_pm x4_z9 hm hXP
                           have x7_z10 : z10.cell? ⟨X, 7, none⟩ = some (.int .u64 (W2.hi 7)) := cell_pm x7_z9 hm hXP
                           have x8_z10 : z10.cell? ⟨X, 8, none⟩ = some (.int .u32 (W2.hi 8)) := cell_pm x8_z9 hm hXP
                           have x12_z10 : z10.cell? ⟨X, 12, none⟩ = some (.int .i64 (W2.hi 12)) := cell_pm x12_z9 hm hXP
                           have x13_z10 : z10.cell? ⟨X, 13, none⟩ = some (.int .i64 (W2.hi 13)) := cell_pm x13_z9 hm hXP
                           have x14_z10 : z10.cell? ⟨X, 14, none⟩ = some (.int .i64 (W2.hi 14)) := cell_pm x14_z9 hm hXP
                           have x15_z10 : z10.cell? ⟨X, 15, none⟩ = some (.int .i64 (W2.hi 15)) := cell_pm x15_z9 hm hXP
                           have x16_z10 : z10.cell? ⟨X, 16, none⟩ = some (.int .i64 (W2.hi 16)) := cell_pm x16_z9 hm hXP
                           have x17_z10 : z10.cell? ⟨X, 17, none⟩ = some (.slice (some ⟨g, 0, none⟩) B.np cap2) := cell_pm x17_z9 hm hXP
                           clear hP_z9 x0_z9 x4_z9 x7_z9 x8_z9 x12_z9 x13_z9 x14_z9 x15_z9 x16_z9 x17_z9 E_z9
                           clear hp hm))
                      have hLX : (((M.set 50 (.bool false)).set 88 (.int .i64 4)).set 50 (.bool true)) = dstL W2 n L := by
                        rw [HSD.out]
                        exact (ch_3l HE86.out HRTT.out HLS.out).symm
                      have hPf := hP_z10
                      rw [hLX] at hPf
                      clear hLX
                      have hrw := pv_row HQ.out HLL.out E_z10 hPf
                      have hlen := Lib.hid hPf.len
                      have hBz := HB.out.keep (fun n _ hn => (E_z10.1.heap (Nat.lt_of_lt_of_le hn HX1.out.size) (show ¬ n = P0 by have := HW0.out; omega)).trans (HX1.out.block n hn))
                      have hMz : Mut F w z10 := HM.out.trans (mut_new (HX1.out.mut F) E_z10.1 (by have := HW0.out; omega))
                      have hone := Lib.hid (show ∀ v ∈ (dstL W2 n L : List Value), v.oneCell' = true from HT0.out.one)
                      have c17y := x17_z10
                      obtain ⟨N, hN⟩ : ∃ N, dstL W2 n L = N := ⟨_, rfl⟩
                      rw [hN] at hrw hlen hone HS
                      clear hN hPf
                      refine wp_region_tail 7 (by kernel_rfl) (by kernel_rfl) ?_
                      intro w9 hw9
                      have hx9 : Ext z10 w9 := by
                        rw [hw9]
                        exact (Ext.refl _).drew
                      have HB2 := Lib.hid ((hx9.block _ (heap_lt hrw)).trans hrw)
                      have d17 := cell_ext c17y hx9
                      have hBy := Lib.hid (hBz.ext hx9)
                      have hMy := Lib.hid (hMz.trans (hx9.mut F))
                      have hth := Lib.hid (hBy.out.there hk)
                      clear hw9 hrw c17y hBz hMz hx9
                      simp only [List.take_succ_cons, List.take_zero, List.drop_succ_cons, List.drop_zero]
                      iterate 5 still_step
                      refine wpStill_load_row rfl 51 _ rfl P0 rfl _ _ _ HB2.out Try.underlying51 rfl (by rw [List.size_toArray, hlen.out]; exact size_port) ?_
                      simp only [ps]
                      iterate 1 still_step
                      refine wpStill_nil ?_
                      refine wpList_store_mid rfl 51 _ _ rfl g (n * 89) _ rfl rfl (by rw [List.size_toArray, hlen.out]; exact hth.out) (by rw [List.size_toArray, hlen.out]; exact size_port) (all_oneCell_toArray hone.out) ?_
                      go_wp2_with fail
                      go_roundw
                      case rel => exact ⟨n + 1, by omega, by go_num, by rw [HS.out]; exact hBy.out.setPort hk (l := N) hlen.out, Mut.setCells (.inl hBy.out.F2) _ _ hMy.out⟩
                      case measure => simp [intOf]; omega
                · as_aux_lemma =>
                    go_upto_region 44 with (first
                      | fail
                      | ((with_reducible refine at_store 4 ?_); refine st_pv rfl rfl 4 _ _ rfl P0 0 50 _ hP_z7 _ #[.bool false] rfl rfl rfl (by exact (by decide : 50 + 1 ≤ 89)) (by kernel_rfl) rfl ?_
                         intro z8 hp hm
                         replace hp := pv_one hp HLEN.out (by decide)
                         have hP_z8 : Pv z8 P0 0 (M.set 50 (.bool false)) := hp
                         have E_z8 : Pm P0 0 z1 z8 := E_z7.trans hm
                         have x0_z8 : z8.cell? ⟨X, 0, none⟩ = some (.int .u64 (W2.hi 0)) := cell_pm x0_z7 hm hXP
                         have x4_z8 : z8.cell? ⟨X, 4, none⟩ = some (.int .i64 (W2.hi 4)) := cell_pm x4_z7 hm hXP
                         have x7_z8 : z8.cell? ⟨X, 7, none⟩ = some (.int .u64 (W2.hi 7)) := cell_pm x7_z7 hm hXP
                         have x8_z8 : z8.cell? ⟨X, 8, none⟩ = some (.int .u32 (W2.hi 8)) := cell_pm x8_z7 hm hXP
                         have x12_z8 : z8.cell? ⟨X, 12, none⟩ = some (.int .i64 (W2.hi 12)) := cell_pm x12_z7 hm hXP
                         have x13_z8 : z8.cell? ⟨X, 13, none⟩ = some (.int .i64 (W2.hi 13)) := cell_pm x13_z7 hm hXP
                         have x14_z8 : z8.cell? ⟨X, 14, none⟩ = some (.int .i64 (W2.hi 14)) := cell_pm x14_z7 hm hXP
                         have x15_z8 : z8.cell? ⟨X, 15, none⟩ = some (.int .i64 (W2.hi 15)) := cell_pm x15_z7 hm hXP
                         have x16_z8 : z8.cell? ⟨X, 16, none⟩ = some (.int .i64 (W2.hi 16)) := cell_pm x16_z7 hm hXP
                         have x17_z8 : z8.cell? ⟨X, 17, none⟩ = some (.slice (some ⟨g, 0, none⟩) B.np cap2) := cell_pm x17_z7 hm hXP
                         clear hP_z7 x0_z7 x4_z7 x7_z7 x8_z7 x12_z7 x13_z7 x14_z7 x15_z7 x16_z7 x17_z7 E_z7 p86_z7
                         clear hp hm)
                      | ((with_reducible refine at_store 3 ?_); refine st_pv rfl rfl 3 _ _ rfl P0 0 88 _ hP_z8 _ #[.int .i64 3] rfl rfl rfl (by exact (by decide : 88 + 1 ≤ 89)) (by kernel_rfl) rfl ?_
                         intro z9 hp hm
                         replace hp := pv_one hp (len_set' HLEN.out) (by decide)
                         have hP_z9 : Pv z9 P0 0 ((M.set 50 (.bool false)).set 88 (.int .i64 3)) := hp
                         have E_z9 : Pm P0 0 z1 z9 := E_z8.trans hm
                         have x0_z9 : z9.cell? ⟨X, 0, none⟩ = some (.int .u64 (W2.hi 0)) := cell_pm x0_z8 hm hXP
                         have x4_z9 : z9.cell? ⟨X, 4, none⟩ = some (.int .i64 (W2.hi 4)) := cell_pm x4_z8 hm hXP
                         have x7_z9 : z9.cell? ⟨X, 7, none⟩ = some (.int .u64 (W2.hi 7)) := cell_pm x7_z8 hm hXP
                         have x8_z9 : z9.cell? ⟨X, 8, none⟩ = some (.int .u32 (W2.hi 8)) := cell_pm x8_z8 hm hXP
                         have x12_z9 : z9.cell? ⟨X, 12, none⟩ = some (.int .i64 (W2.hi 12)) := cell_pm x12_z8 hm hXP
                         have x13_z9 : z9.cell? ⟨X, 13, none⟩ = some (.int .i64 (W2.hi 13)) := cell_pm x13_z8 hm hXP
                         have x14_z9 : z9.cell? ⟨X, 14, none⟩ = some (.int .i64 (W2.hi 14)) := cell_pm x14_z8 hm hXP
                         have x15_z9 : z9.cell? ⟨X, 15, none⟩ = some (.int .i64 (W2.hi 15)) := cell_pm x15_z8 hm hXP
                         have x16_z9 : z9.cell? ⟨X, 16, none⟩ = some (.int .i64 (W2.hi 16)) := cell_pm x16_z8 hm hXP
                         have x17_z9 : z9.cell? ⟨X, 17, none⟩ = some (.slice (some ⟨g, 0, none⟩) B.np cap2) := cell_pm x17_z8 hm hXP
                         clear hP_z8 x0_z8 x4_z8 x7_z8 x8_z8 x12_z8 x13_z8 x14_z8 x15_z8 x16_z8 x17_z8 E_z8
                         clear hp hm))
                    have hLX : ((M.set 50 (.bool false)).set 88 (.int .i64 3)) = dstL W2 n L := by
                      rw [HSD.out]
                      exact (ch_3r HE86.out HRTT.out).symm
                    have hPf := hP_z9
                    rw [hLX] at hPf
                    clear hLX
                    have hrw := pv_row HQ.out HLL.out E_z9 hPf
                    have hlen := Lib.hid hPf.len
                    have hBz := HB.out.keep (fun n _ hn => (E_z9.1.heap (Nat.lt_of_lt_of_le hn HX1.out.size) (show ¬ n = P0 by have := HW0.out; omega)).trans (HX1.out.block n hn))
                    have hMz : Mut F w z9 := HM.out.trans (mut_new (HX1.out.mut F) E_z9.1 (by have := HW0.out; omega))
                    have hone := Lib.hid (show ∀ v ∈ (dstL W2 n L : List Value), v.oneCell' = true from HT0.out.one)
                    have c17y := x17_z9
                    obtain ⟨N, hN⟩ : ∃ N, dstL W2 n L = N := ⟨_, rfl⟩
                    rw [hN] at hrw hlen hone HS
                    clear hN hPf
                    refine wp_region_tail 7 (by kernel_rfl) (by kernel_rfl) ?_
                    intro w9 hw9
                    have hx9 : Ext z9 w9 := by
                      rw [hw9]
                      exact (Ext.refl _).drew
                    have HB2 := Lib.hid ((hx9.block _ (heap_lt hrw)).trans hrw)
                    have d17 := cell_ext c17y hx9
                    have hBy := Lib.hid (hBz.ext hx9)
                    have hMy := Lib.hid (hMz.trans (hx9.mut F))
                    have hth := Lib.hid (hBy.out.there hk)
                    clear hw9 hrw c17y hBz hMz hx9
                    simp only [List.take_succ_cons, List.take_zero, List.drop_succ_cons, List.drop_zero]
                    iterate 5 still_step
                    refine wpStill_load_row rfl 51 _ rfl P0 rfl _ _ _ HB2.out Try.underlying51 rfl (by rw [List.size_toArray, hlen.out]; exact size_port) ?_
                    simp only [ps]
                    iterate 1 still_step
                    refine wpStill_nil ?_
                    refine wpList_store_mid rfl 51 _ _ rfl g (n * 89) _ rfl rfl (by rw [List.size_toArray, hlen.out]; exact hth.out) (by rw [List.size_toArray, hlen.out]; exact size_port) (all_oneCell_toArray hone.out) ?_
                    go_wp2_with fail
                    go_roundw
                    case rel => exact ⟨n + 1, by omega, by go_num, by rw [HS.out]; exact hBy.out.setPort hk (l := N) hlen.out, Mut.setCells (.inl hBy.out.F2) _ _ hMy.out⟩
                    case measure => simp [intOf]; omega
              · have b0 : (x86 == 0) = false := ne_b e0
                have b1 : (x86 == 1) = false := ne_b e1
                have b2 : (x86 == 2) = false := ne_b e2
                have b3 : (x86 == 3) = false := ne_b e3
                as_aux_lemma =>
                  go_upto_region 44 with fail
                  have hLX : M = dstL W2 n L := by
                    rw [HSD.out]
                    exact (ch_n (by rw [HE86.out]; exact e0) (by rw [HE86.out]; exact e1) (by rw [HE86.out]; exact e2) (by rw [HE86.out]; exact e3)).symm
                  have hPf := hP_z7
                  rw [hLX] at hPf
                  clear hLX
                  have hrw := pv_row HQ.out HLL.out E_z7 hPf
                  have hlen := Lib.hid hPf.len
                  have hBz := HB.out.keep (fun n _ hn => (E_z7.1.heap (Nat.lt_of_lt_of_le hn HX1.out.size) (show ¬ n = P0 by have := HW0.out; omega)).trans (HX1.out.block n hn))
                  have hMz : Mut F w z7 := HM.out.trans (mut_new (HX1.out.mut F) E_z7.1 (by have := HW0.out; omega))
                  have hone := Lib.hid (show ∀ v ∈ (dstL W2 n L : List Value), v.oneCell' = true from HT0.out.one)
                  have c17y := x17_z7
                  obtain ⟨N, hN⟩ : ∃ N, dstL W2 n L = N := ⟨_, rfl⟩
                  rw [hN] at hrw hlen hone HS
                  clear hN hPf
                  refine wp_region_tail 7 (by kernel_rfl) (by kernel_rfl) ?_
                  intro w9 hw9
                  have hx9 : Ext z7 w9 := by
                    rw [hw9]
                    exact (Ext.refl _).drew
                  have HB2 := Lib.hid ((hx9.block _ (heap_lt hrw)).trans hrw)
                  have d17 := cell_ext c17y hx9
                  have hBy := Lib.hid (hBz.ext hx9)
                  have hMy := Lib.hid (hMz.trans (hx9.mut F))
                  have hth := Lib.hid (hBy.out.there hk)
                  clear hw9 hrw c17y hBz hMz hx9
                  simp only [List.take_succ_cons, List.take_zero, List.drop_succ_cons, List.drop_zero]
                  iterate 5 still_step
                  refine wpStill_load_row rfl 51 _ rfl P0 rfl _ _ _ HB2.out Try.underlying51 rfl (by rw [List.size_toArray, hlen.out]; exact size_port) ?_
                  simp only [ps]
                  iterate 1 still_step
                  refine wpStill_nil ?_
                  refine wpList_store_mid rfl 51 _ _ rfl g (n * 89) _ rfl rfl (by rw [List.size_toArray, hlen.out]; exact hth.out) (by rw [List.size_toArray, hlen.out]; exact size_port) (all_oneCell_toArray hone.out) ?_
                  go_wp2_with fail
                  go_roundw
                  case rel => exact ⟨n + 1, by omega, by go_num, by rw [HS.out]; exact hBy.out.setPort hk (l := N) hlen.out, Mut.setCells (.inl hBy.out.F2) _ _ hMy.out⟩
                  case measure => simp [intOf]; omega

end Go.Proofs.Ythfoacgdkoijeaa
