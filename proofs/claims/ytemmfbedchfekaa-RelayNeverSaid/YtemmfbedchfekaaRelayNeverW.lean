/- The walk of RelayNever. No statement is proved here. -/
import Derived.Test.YtemmfbedchfekaaRlF
namespace Go.Proofs.Ytemmfbedchfekaa
open Go.RowKit Go.BigFrame Go.WideShapes Go.ChangeShapes Go.Deep
set_option linter.unusedVariables false
set_option linter.unusedSimpArgs false
set_option maxRecDepth 100000

set_option maxRecDepth 100000 in
set_option maxHeartbeats 1000000 in
theorem law_RelayNever {w : World} (c : Array Value) (B : Br) (hb : BrC w c B) (ho : B.ok) (v : Value) (L : List Fr) (h : FrsAt w v L ∧ ∀ h ∈ L, h.wf) :
    Calls Try.prog 4 #[.agg c, v] w fun e w' => e = .returned (.bool true) ∧ Ext w w' := by
  obtain ⟨hacts, hwf⟩ := h
  obtain ⟨av, cap, rfl, hm, hf⟩ := hacts
  have HF := Lib.hid hf
  have HWF := Lib.hid hwf
  have HBC := Lib.hid hb
  have hcz : c.size = 20 := by
    obtain ⟨_, _, _, hz, _⟩ := hb.facts ho.hd.1
    exact hz
  have hci := Lib.hid (show (Try.prog.info? 33).map (·.size) = some c.size by rw [hcz]; exact size_br)
  clear hf hwf hb hcz
  go_enter Try.func4, Try.ntmps4
  go_wp2_with fail
  refine (awake19 _).mono ?_
  rintro e w1 ⟨rfl, hx1⟩
  have hxr : w1.heap[w.heap.size]? = some (.cells c 33 (0, 0)) := (hx1.block _ (by simp)).trans (heap_alloc_new _ _)
  obtain ⟨X, hX⟩ : ∃ X, w.heap.size = X := ⟨_, rfl⟩
  rw [hX] at hxr ⊢
  have HXR := Lib.hid hxr
  have HX1 := Lib.hid (((Ext.refl w).alloc _).trans hx1)
  clear hx1 hxr hX
  go_wp2_with (first
    | fail
    | ((with_reducible refine at_load 33 ?_); refine wpList_load_row rfl 33 _ rfl X rfl 33 c (0, 0) _ HXR.out Try.underlying33 rfl hci.out ?_))
  refine (few_any c B w1 (HBC.out.ext HX1.out) ho).mono ?_
  rintro e w2 ⟨fw, rfl, hx2, hfew⟩
  have HXR2 := Lib.hid ((hx2.block X (heap_lt HXR.out)).trans HXR.out)
  have HW2 := Lib.hid (HX1.out.trans hx2)
  clear hx2 HXR
  cases fw with
  | false =>
    clear hfew
    go_wp2_with fail
    go_ret
    exact ⟨rfl, HW2.out⟩
  | true =>
  obtain ⟨-, hnp1, hnp8, -, -⟩ := hfew.1 rfl
  clear hfew
  by_cases hl : 40 < L.length
  · have d0 : decide (40 < (L.length : Int)) = true := by simp; omega
    go_wp2_with fail
    go_ret
    exact ⟨rfl, HW2.out⟩
  have d0 : decide (40 < (L.length : Int)) = false := by simp; omega
  go_wp2_with fail
  refine (new_good w2 20 300 (by decide)).mono ?_
  rintro e w3 ⟨f, rfl, hx3, -, hb3⟩
  have HS := Lib.hid (show ∃ F M, Fb w3 F f M 20 300 ∧ Ok 300 M ∧ (M.length : Int) ≤ 20 ∧ (∀ k, F k → w2.heap.size ≤ k) ∧ Ext w2 w3 from ⟨_, [], hb3, nil_ok 300, by decide, fun k h => h.1, hx3⟩)
  clear hx3 hb3
  go_wp2_with fail
  go_loopw [8] (fun s wr => ∃ i : Nat, i ≤ L.length ∧ s = .int .i64 i ∧ ∃ F M, Fb wr F f M 20 300 ∧ Ok 300 M ∧ (M.length : Int) ≤ 20 ∧ (∀ k, F k → w2.heap.size ≤ k) ∧ Ext w2 wr) (fun s _ => L.length - (intOf s).toNat)
  case atStart => exact ⟨0, by omega, rfl, HS.out⟩
  case round =>
    clear HS
    obtain ⟨i, hi, rfl, F, M, hfb, hM, hMl, hF0, hx⟩ := hrel
    rename World => wr
    have HB := Lib.hid hfb
    have HM := Lib.hid hM
    have HF0 := Lib.hid hF0
    have HX := Lib.hid hx
    have HXR := Lib.hid ((hx.block X (heap_lt HXR2.out)).trans HXR2.out)
    clear hfb hM hF0 hx
    by_cases hlt : i < L.length
    · have dlt : decide ((i : Int) < (L.length : Int)) = true := by simp; omega
      obtain ⟨bb, off, rfl, hbl, hlc, hcm, hrg⟩ := HF.out (by omega)
      obtain ⟨x, hx⟩ : ∃ x, L[i] = x := ⟨_, rfl⟩
      have hxL : L[i]? = some x := by rw [List.getElem?_eq_getElem hlt, hx]
      have hxw := HWF.out x (hx ▸ List.getElem_mem hlt)
      have hr0 : w.rangeAt bb (off + i * 3) x.L := by
        have := flatF_at L i x hxL
        intro j u hu
        have hj : j < 3 := (List.getElem?_eq_some_iff.1 hu).1
        have := hrg (i * 3 + j) u (by rw [← this, List.getElem?_take_of_lt hj, List.getElem?_drop] at hu; exact hu)
        rw [show off + i * 3 + j = off + (i * 3 + j) by omega]
        exact this
      have hr1 := Lib.hid (rangeAt_ext hr0 (HW2.out.trans HX.out) hbl)
      clear hrg hr0
      obtain ⟨hxn, hxs, hxd⟩ := hxw
      go_wp2_with (first
        | fail
        | ((with_reducible refine at_load 45 ?_); refine wpList_load_mid rfl 45 _ rfl bb (off + i * 3) rfl x.L _ hr1.out Try.underlying45 rfl size_fr ?_)
        | ((with_reducible refine at_alloc 45 ?_); refine al_zero rfl 45 rfl FZ zero_fr ?_
           intro Y wq hq hs hx)
        | ((with_reducible refine at_store 45 ?_); refine st_at rfl rfl 45 _ _ rfl Y 0 _ x.L.toArray FZ x.L.toArray 45 rfl rfl rfl hq (by exact (by decide : 0 + 3 ≤ 3)) (by kernel_rfl) rfl rfl ?_
           intro wb hq' hm'
           have hY : wr.heap.size ≤ Y := by omega
           have EB : Ext wr wb := hx.mutE hm' (fun n hn h => by have h2 : n = Y := h; omega)
           have HEB := Lib.hid EB
           have HY := Lib.hid hq'
           have e0 : wb.cell? ⟨Y, 0, none⟩ = some (.int .i64 x.n) := by rw [cell_row hq']; rfl
           have e1 : wb.cell? ⟨Y, 1, none⟩ = some (.int .u64 x.s) := by rw [cell_row hq']; rfl
           have e2 : wb.cell? ⟨Y, 2, none⟩ = some (.int .u64 x.d) := by rw [cell_row hq']; rfl
           have hXb := (EB.block X (heap_lt HXR.out)).trans HXR.out
           have HXB := Lib.hid hXb
           clear hx hm' hq hs wq hq' EB hXb)
        | ((with_reducible refine at_load 33 ?_); refine wpList_load_row rfl 33 _ rfl X rfl 33 c (0, 0) _ HXB.out Try.underlying33 rfl hci.out ?_))
      have hBCb : BrK wb F c B := brk_of (HBC.out.ext HW2.out) (HX.out.trans HEB.out) HF0.out
      have hup : IntKind.i64.wrap ((i : Int) + 1) = ((i + 1 : Nat) : Int) := by rw [IntKind.wrap_i64]; omega
      refine (out_any wb F f M 20 300 (HB.out.ext HEB.out) HM.out (by decide) ⟨by decide, by decide, hMl⟩ c B hBCb ho ⟨by omega, by omega⟩ x.n x.s x.d hxn hxs hxd).mono ?_
      rintro e w4 ⟨M', xs, hg, v, F', base, rfl, hown, hbs, hFb, hb4, hFs, hm4⟩
      obtain ⟨hM2, hMl2⟩ := goes_ok hg HM.out (by decide) (by decide) hMl (by omega) hxs.1
      have hlen := goes_len hg
      have hwb2 : w2.heap.size ≤ wb.heap.size := (HX.out.trans HEB.out).size
      have hnX : ¬ F X := fun hc => by have := HF0.out X hc; have := heap_lt HXR2.out; omega
      have hnY : ¬ F Y := fun hc => by have := HB.out.lt Y hc; omega
      have hX4 := (hm4.heap (heap_lt HXB.out) hnX).trans HXB.out
      have hY4 := (hm4.heap (heap_lt HY.out) hnY).trans HY.out
      have HE4 := Lib.hid (ext_mut (HX.out.trans HEB.out) hm4 (fun n hn hc => by have := HF0.out n hc; omega))
      have HN := Lib.hid (show ∃ F M, Fb w4 F f M 20 300 ∧ Ok 300 M ∧ (M.length : Int) ≤ 20 ∧ (∀ k, F k → w2.heap.size ≤ k) ∧ Ext w2 w4 from ⟨F', M', hb4, hM2, hMl2, fun k h => by rcases hFs k h with h | h; exact HF0.out k h; omega, HE4.out⟩)
      have hI := ints_own hown
      obtain ⟨va, vc, rfl⟩ := own_form hown
      obtain ⟨m, hm⟩ : ∃ m, xs.length = m := ⟨_, rfl⟩
      rw [hm] at hI hlen ⊢
      have HI := Lib.hid hI
      have HG := Lib.hid hg
      have HMM := Lib.hid hm
      have HX4 := Lib.hid hX4
      have HY4 := Lib.hid hY4
      have f0 : w4.cell? ⟨Y, 0, none⟩ = some (.int .i64 x.n) := by rw [cell_row hY4]; rfl
      clear hg hown hbs hFb hb4 hFs hm4 hM2 hMl2 hI hm hX4 hY4 hnX hnY hBCb e0 e1 e2
      rcases Nat.eq_zero_or_pos m with hm0 | hm0
      · subst hm0
        go_wp2_with fail
        go_loopw [12] (fun s wz => s = .int .i64 0 ∧ wz = w4) (fun _ _ => 0)
        case atStart => exact ⟨rfl, rfl⟩
        case round =>
          obtain ⟨rfl, rfl⟩ := hrel
          go_wp2_with fail
          go_roundw
          case rel => exact ⟨i + 1, by omega, by go_num, HN.out⟩
          case measure => simp [intOf] <;> omega
      · obtain ⟨⟨hin0, hin1, hen, hfo⟩, hpw, hat⟩ := goes_some HG.out (by rw [HMM.out]; exact hm0)
        obtain ⟨q, hq⟩ : ∃ q : Nat, x.n = (q : Int) := ⟨x.n.toNat, by omega⟩
        rw [hq, Int.toNat_natCast] at hen hfo
        rw [hq] at f0 hat
        have hqn : q < B.np := by omega
        obtain ⟨b, o, cap2, c17, hc1, hc2, hbl2, hpr, hpc⟩ := (HBC.out.ext (HW2.out.trans HE4.out)).portsW ho (by omega)
        have d17 : w4.cell? ⟨X, 17, none⟩ = some (.slice (some ⟨b, o, none⟩) B.np cap2) := by rw [cell_of_row _ _ _ _ _ _ HX4.out]; exact c17
        have hpl := port_len (B := B) (k := q) (len89 ho hqn)
        have hprt := Lib.hid (hpr q hqn)
        have hpz := Lib.hid (full_port hpl)
        have hps := Lib.hid (show 0 + (port B.ps q).toArray.size ≤ PZ.size by rw [List.size_toArray, hpl, size_PZ]; decide)
        have hpi := Lib.hid (show (Try.prog.info? 69).map (·.size) = some (port B.ps q).toArray.size by rw [List.size_toArray, hpl]; exact size_port)
        have hpi2 := Lib.hid (show (Try.prog.info? 69).map (·.size) = some (port B.ps q).length by rw [hpl]; exact size_port)
        have hpo := Lib.hid (show (port B.ps q).toArray.toList.all (·.oneCell') = true from by rw [List.all_eq_true]; intro u hu; exact (port_typed ho hqn).one u (by simpa using hu))
        have p2 : (port B.ps q)[2]? = some (.bool true) := by rw [port_at (by omega), ← hen]; exact ho.gb hqn 2 rfl
        have p27 : (port B.ps q)[27]? = some (.bool true) := by rw [port_at (by omega), ← hfo]; exact ho.gb hqn 27 rfl
        have HPC := Lib.hid hpc
        have HAT := Lib.hid hat
        have HPW := Lib.hid hpw
        have HQ := Lib.hid hq
        obtain ⟨NP, hNP⟩ : ∃ NP, B.np = NP := ⟨_, rfl⟩
        rw [hNP] at d17 hqn hc1 c17
        have HC17 := Lib.hid c17
        have HNP := Lib.hid hNP
        have dq0 : decide ((q : Int) < 0) = false := by simp
        have dq1 : decide ((NP : Int) ≤ (q : Int)) = false := by simp; omega
        have dm0 : decide ((0 : Int) < (m : Int)) = true := by simp; omega
        clear hpc hat hpw hpr hq hNP hpl hen hfo hin0 hin1 c17
        go_wp2_with (first
          | fail
          | ((with_reducible refine at_load 69 ?_); refine wpList_load_mid rfl 69 _ rfl b (o + q * 89) rfl (port B.ps q) _ hprt.out Try.underlying69 rfl hpi2.out ?_)
          | ((with_reducible refine at_alloc 69 ?_); refine al_zero rfl 69 rfl PZ zero_port ?_
             intro Z wp hqp hsp hxp)
          | ((with_reducible refine at_store 69 ?_); refine st_at rfl rfl 69 _ _ rfl Z 0 _ (port B.ps q).toArray PZ (port B.ps q).toArray 69 rfl rfl rfl hqp hps.out hpi.out hpo.out hpz.out ?_
             intro w5 hq5 hm5
             have E5 : Ext w4 w5 := hxp.mutE hm5 (fun n hn h => by have h2 : n = Z := h; omega)
             have HE5 := Lib.hid E5
             have g2 : w5.cell? ⟨Z, 2, none⟩ = some (.bool true) := by rw [cell_of_row _ _ _ _ _ _ hq5]; simpa using p2
             have g27 : w5.cell? ⟨Z, 27, none⟩ = some (.bool true) := by rw [cell_of_row _ _ _ _ _ _ hq5]; simpa using p27
             clear hqp hsp hxp hq5 hm5 E5))
        go_loopw [12] (fun s wz => ∃ k : Nat, k ≤ m ∧ s = .int .i64 k ∧ Ext w5 wz) (fun s _ => m - (intOf s).toNat)
        case atStart => exact ⟨0, by omega, rfl, Ext.refl _⟩
        case round =>
          obtain ⟨k, hk, rfl, hxk⟩ := hrel
          rename World => wz
          have HXK := Lib.hid (HE5.out.trans hxk)
          have HK5 := Lib.hid hxk
          clear hxk g2 g27 p2 p27 f0 d17
          by_cases hkl : k < m
          · have dk : decide ((k : Int) < (m : Int)) = true := by simp; omega
            have hkx : k < xs.length := by rw [HMM.out]; exact hkl
            obtain ⟨j, hxj, hjn, hjne, hj2, hj27⟩ := HAT.out k hkx
            rw [HNP.out] at hjn
            obtain ⟨hml, vb, vo, rfl, hvb, hvr⟩ := HI.out.at hm0
            have hXz := (HXK.out.block X (heap_lt HX4.out)).trans HX4.out
            have hYz := (HXK.out.block Y (heap_lt HY4.out)).trans HY4.out
            have v0 : wz.cell? ⟨vb, vo + k, none⟩ = some (.int .i64 (j : Int)) := by rw [← hxj]; exact (HXK.out.cell (p := ⟨vb, vo + k, none⟩) hvb).trans (hvr k hkx)
            have f0 : wz.cell? ⟨Y, 0, none⟩ = some (.int .i64 (q : Int)) := by rw [cell_row hYz, ← HQ.out]; rfl
            have d17 : wz.cell? ⟨X, 17, none⟩ = some (.slice (some ⟨b, o, none⟩) NP cap2) := by rw [cell_of_row _ _ _ _ _ _ hXz]; exact HC17.out
            have q2 : wz.cell? ⟨b, o + j * 89 + 2, none⟩ = some (.bool true) := by rw [← hj2]; exact (HXK.out.cell (p := ⟨b, o + j * 89 + 2, none⟩) hbl2).trans (HPC.out j (by rw [HNP.out]; exact hjn) 2 _ (by omega) (ho.gb (by rw [HNP.out]; exact hjn) 2 rfl))
            have q27 : wz.cell? ⟨b, o + j * 89 + 27, none⟩ = some (.bool true) := by rw [← hj27]; exact (HXK.out.cell (p := ⟨b, o + j * 89 + 27, none⟩) hbl2).trans (HPC.out j (by rw [HNP.out]; exact hjn) 27 _ (by omega) (ho.gb (by rw [HNP.out]; exact hjn) 27 rfl))
            have dj0 : decide ((j : Int) < 0) = false := by simp
            have dj1 : decide ((NP : Int) ≤ (j : Int)) = false := by simp; omega
            have hjq : j ≠ q := by have := HQ.out; omega
            have dj2 : ((j : Int) == (q : Int)) = false := by simp; omega
            have dj2n : (j == q) = false := by simpa using hjq
            have dj1n : decide (NP ≤ j) = false := by simp; omega
            clear hjq
            rcases Nat.eq_zero_or_pos k with hk0 | hk0
            · subst hk0
              rw [Nat.add_zero] at v0
              clear hvr hXz hYz hj2 hj27 hxj
              go_wp2_with fail
              go_quiet (fail)
              go_wp2_with fail
              go_quiet (fail)
              go_wp2_with fail
              go_roundw
              case rel => exact ⟨1, by omega, by go_num, HK5.out.drewN _⟩
              case measure => simp [intOf] <;> omega
            · obtain ⟨kp, hkp⟩ : ∃ kp, k = kp + 1 := ⟨k - 1, by omega⟩
              have hpx : kp < xs.length := by omega
              obtain ⟨y2, hy2⟩ : ∃ y, xs[kp] = y := ⟨_, rfl⟩
              have v1 : wz.cell? ⟨vb, vo + kp, none⟩ = some (.int .i64 y2) := by rw [← hy2]; exact (HXK.out.cell (p := ⟨vb, vo + kp, none⟩) hvb).trans (hvr kp hpx)
              have hwk : IntKind.i64.wrap ((k : Int) - 1) = (kp : Int) := by rw [IntKind.wrap_i64]; omega
              have d4 : decide (0 < (k : Int)) = true := by simp; omega
              have d5 : decide ((j : Int) ≤ y2) = false := by
                have := List.pairwise_iff_getElem.1 HPW.out kp k hpx hkx (by omega)
                rw [hxj, hy2] at this
                simp; exact this
              have hkpm : kp < m := by omega
              have hupk : IntKind.i64.wrap ((k : Int) + 1) = ((k + 1 : Nat) : Int) := by rw [IntKind.wrap_i64]; omega
              clear hvr hXz hYz hj2 hj27 hxj hy2 hkp
              go_wp2_with fail
              go_quiet (fail)
              go_wp2_with fail
              go_quiet (fail)
              go_wp2_with fail
              go_roundw
              case rel => exact ⟨k + 1, by omega, by go_num, HK5.out.drewN _⟩
              case measure => simp [intOf] <;> omega
          · obtain rfl : k = m := by omega
            have dk : decide ((k : Int) < (k : Int)) = false := by simp
            go_wp2_with fail
            go_roundw
            case rel =>
              obtain ⟨F2, M2, q1, q2, q3, q4, q5⟩ := HN.out
              exact ⟨i + 1, by omega, by go_num, F2, M2, q1.ext HXK.out, q2, q3, q4, q5.trans HXK.out⟩
            case measure => simp [intOf] <;> omega
    · obtain rfl : i = L.length := by omega
      have dlt : decide ((L.length : Int) < (L.length : Int)) = false := by simp
      go_wp2_with fail
      go_ret
      exact ⟨rfl, HW2.out.trans HX.out⟩

end Go.Proofs.Ytemmfbedchfekaa
