/- The walk of ReachFar. No statement is proved here. -/
import Derived.Test.YtendaloeonbbeaaReV
namespace Go.Proofs.Ytendaloeonbbeaa
open Go.RowKit Go.BigFrame Go.WideShapes Go.ChangeShapes Go.Deep
set_option linter.unusedVariables false
set_option linter.unusedSimpArgs false

theorem toExtF {P : Program} {f : FuncId} {args : Array Value} {w : World} {v : Value} (h : Calls P f args w fun e w' => e = .returned v ∧ w = w') : Calls P f args w fun e w' => e = .returned v ∧ Ext w w' :=
  h.mono fun e w' ⟨h1, h2⟩ => ⟨h1, h2 ▸ Ext.refl _⟩
theorem neq_way (q : Way) (h : q.fits) (w : World) : (binOp .neq 30 (cvW q) (cvW q)).run Try.prog w = .ok (.bool false) w := by
  cases q with
  | none =>
    have h1 : (FloatKind.f64.format.order fneg fneg == some Ordering.eq) = true := by rw [f_ord_nn]; rfl
    unfold cvW
    simp only [binOp, Op.complexOp, Op.Complex.cmp, Op.floatCmp, h1]
    simp [asBool]
  | some q =>
    obtain ⟨a, b⟩ := q
    have h1 : (FloatKind.f64.format.order (fl a) (fl a) == some Ordering.eq) = true := by rw [f_ord h.1 h.1, cmp_eq]; simp
    have h2 : (FloatKind.f64.format.order (fl b) (fl b) == some Ordering.eq) = true := by rw [f_ord h.2 h.2, cmp_eq]; simp
    unfold cvW
    simp only [binOp, Op.complexOp, Op.Complex.cmp, Op.floatCmp, h1, h2]
    simp [asBool]
theorem neqg_way (q : Way) (x y : Operand) (w : World) : (eqGuard .neq 30 x y (cvW q) (cvW q)).run Try.prog w = .ok () w := by
  cases q <;> rfl
set_option maxRecDepth 100000 in
set_option maxHeartbeats 8000000 in
theorem law_ReachFar {w : World} (n : Int) (hn : -9223372036854775808 ≤ n ∧ n ≤ 9223372036854775807) (v1 : Value) (L : List Hp) (h1 : HopsAt w v1 L ∧ ∀ h ∈ L, h.wf) (s : Int) (hs : -9223372036854775808 ≤ s ∧ s ≤ 9223372036854775807) :
    Calls Try.prog 3 #[.int .i64 n, v1, .int .i64 s] w fun e w' => e = .returned (.bool true) ∧ Ext w w' := by
  have H1 := Lib.hid h1.1
  have HW := Lib.hid h1.2
  obtain ⟨⟨a, cap, rfl, hm, -⟩, -⟩ := h1
  go_enter Try.func3, Try.ntmps3
  go_wp2_with fail
  refine (awake22 _).mono ?_
  rintro e w1 ⟨rfl, hE1⟩
  by_cases hl : L.length ≤ 60
  rotate_left
  · have hd : decide (60 < (L.length : Int)) = true := by simp; omega
    go_wp2_with fail
    go_ret
    exact ⟨rfl, hE1⟩
  have hd : decide (60 < (L.length : Int)) = false := by simp; omega
  have HH1 := Lib.hid (H1.out.ext hE1)
  have HE1 := Lib.hid hE1
  clear hE1
  by_cases hb : farBad n s
  · by_cases h20 : 20 < n
    · by_cases h1000 : n ≤ 1000
      · go_wp2_with fail
        go_ret
        exact ⟨rfl, HE1.out⟩
      · go_wp2_with fail
        refine (rhops_any _ L _ HH1.out hl HW.out).mono ?_
        rintro e w2 ⟨u1, rfl, hO1, hx2⟩
        have hE2 := HE1.out.trans hx2
        clear hx2 hO1 hd
        go_wp2_with fail
        refine (rfar_bad n s u1 _ hb).mono ?_
        rintro e w3 ⟨rfl, rfl⟩
        go_wp2_with fail
        refine (rdfar_bad n s _ _ hb).mono ?_
        rintro e w3 ⟨rfl, rfl⟩
        go_wp2_with fail
        go_loopw [10] (fun i wq => ∃ wo : World, wo = wq ∧ i = .int .i64 0 ∧ Ext w wo) (fun i _ => 0)
        case atStart => exact ⟨_, rfl, rfl, hE2⟩
        case round =>
          obtain ⟨wo, rfl, rfl, hX⟩ := hrel
          go_wp2_with fail
          go_ret
          exact ⟨rfl, hX⟩
    · go_wp2_with fail
      refine (rhops_any _ L _ HH1.out hl HW.out).mono ?_
      rintro e w2 ⟨u1, rfl, hO1, hx2⟩
      have hE2 := HE1.out.trans hx2
      clear hx2 hO1 hd
      go_wp2_with fail
      refine (rfar_bad n s u1 _ hb).mono ?_
      rintro e w3 ⟨rfl, rfl⟩
      go_wp2_with fail
      refine (rdfar_bad n s _ _ hb).mono ?_
      rintro e w3 ⟨rfl, rfl⟩
      go_wp2_with fail
      go_loopw [10] (fun i wq => ∃ wo : World, wo = wq ∧ i = .int .i64 0 ∧ Ext w wo) (fun i _ => 0)
      case atStart => exact ⟨_, rfl, rfl, hE2⟩
      case round =>
        obtain ⟨wo, rfl, rfl, hX⟩ := hrel
        go_wp2_with fail
        go_ret
        exact ⟨rfl, hX⟩
  · have hr : 1 ≤ n ∧ n ≤ 1000 ∧ 0 ≤ s ∧ s < n := by unfold farBad at hb; omega
    obtain ⟨nn, rfl⟩ : ∃ m : Nat, n = m := ⟨n.toNat, by omega⟩
    obtain ⟨ss, rfl⟩ : ∃ m : Nat, s = m := ⟨s.toNat, by omega⟩
    clear hb
    by_cases h20 : 20 < (nn : Int)
    · go_wp2_with fail
      go_ret
      exact ⟨rfl, HE1.out⟩
    · have hN1 : 1 ≤ nn := by omega
      have hN2 : nn ≤ 20 := by omega
      have hSr : ss < nn := by omega
      go_wp2_with fail
      refine (rhops_any _ L _ HH1.out hl HW.out).mono ?_
      rintro e w2 ⟨u1, rfl, hO1, hx2⟩
      have hE2 := HE1.out.trans hx2
      have hH1 := HopsAt.own hO1 (by omega)
      clear hx2 hO1 hd
      go_wp2_with fail
      refine (rfar_any nn ss _ L w2 hH1 hN1 (by omega) hSr (by omega) HW.out).mono ?_
      rintro e w3 ⟨g1, t1, D, dn, rfl, hR, hq, -, hx3⟩
      have hE3 := hE2.trans hx3
      have HSM := Lib.hid (hR.same hSr HW.out)
      have HFT := Lib.hid (fun i => (hR.facts hSr HW.out).1.fits (by have := hR.bound hSr HW.out; omega) i)
      have HDL := Lib.hid (hR.fin hSr).len
      have HG1 := Lib.hid hq
      have HE3 := Lib.hid hE3
      have HHH := Lib.hid (H1.out.ext hE3)
      clear hx3 hE2 hH1 hR hq hE3
      go_wp2_with fail
      refine (rdfar_any nn ss _ L w3 HHH.out hN1 hN2 hSr hl HW.out).mono ?_
      rintro e w4 ⟨g2, cap2, rfl, hA, hx4⟩
      rw [← HSM.out] at hA
      have HA := Lib.hid hA
      have HE4 := Lib.hid (HE3.out.trans hx4)
      have HG4 := Lib.hid ((hx4.block _ (heap_lt HG1.out)).trans HG1.out)
      have hcap := hA.cap1
      have hcap3 : cap2 ≤ 9223372036854775807 := by have := hA.cap2; unfold maxLen at this; omega
      clear hA hx4 HSM
      go_wp2_with fail
      go_loopw [10] (fun i wq => ∃ (k : Nat) (wo : World), wo = wq ∧ k ≤ nn ∧ i = .int .i64 k ∧ Ext w4 wo) (fun i _ => nn - (intOf i).toNat)
      case atStart => exact ⟨0, _, rfl, by omega, rfl, Ext.refl _⟩
      case round =>
        obtain ⟨k, wo, rfl, hk, rfl, hX⟩ := hrel
        have HX := Lib.hid hX
        clear hX
        by_cases hlt : k < nn
        · have hg1 := heap_lt HG4.out
          have hg2 := HA.out.lt
          have hk8 : k < 20 := by omega
          have cd : w4.cell? ⟨g1, k, none⟩ = some (cvW (D.getD k Option.none)) := by
            rw [cell_of_row _ _ _ _ _ _ HG4.out]
            have := HDL.out
            simp [List.getD, this, hlt]
          have hrg := HA.out.range hlt
          have c2 : w4.cell? ⟨g2, k * 3 + 2, none⟩ = some (.bool (wi (D.getD k Option.none))) := HA.out.cell (i := 2) hlt (by decide)
          have hft := HFT.out k
          obtain ⟨q, hq⟩ : ∃ q, D.getD k Option.none = q := ⟨_, rfl⟩
          rw [hq] at cd hrg c2 hft
          clear hq
          have HRG := Lib.hid hrg
          have HNQ := Lib.hid (neq_way q hft)
          have HNG := Lib.hid (neqg_way q)
          have HC := Lib.hid (rcomplex_way q)
          have HN := Lib.hid (fun w : World => toExtF (rnone_any q w hft))
          obtain ⟨nb, hnb⟩ : ∃ b, q.isNone = b := ⟨_, rfl⟩
          have hwi : wi q = !nb := by rw [← hnb]; cases q <;> rfl
          rw [hwi] at c2
          rw [hnb] at HN
          obtain ⟨cv, hcv⟩ : ∃ c, cvW q = c := ⟨_, rfl⟩
          rw [hcv] at cd HNQ HNG HC HN
          clear hwi hnb hcv hrg
          go_upto_region 11 with fail
          go_cut [66] (fun x wx => x = .bool false ∧ Ext w4 wx)
          case first =>
            refine beginL (S := fun W' => Ext wo W') (by kernel_rfl) ?_
            intro wd hqx
            have hq0 : Ext wo wd := hqx
            refine takeL (i := 0) (v := (.slice (some ⟨g1, 0, none⟩) nn nn)) rfl (by kernel_rfl) (by kernel_rfl) (by kernel_rfl) (fun _ _ _ h => h) (Or.inl ⟨rfl, fun _ _ => rfl⟩) hq0 ?_
            simp only [Act.put, List.setIfInBounds_toArray, List.set_cons_zero, List.set_cons_succ]
            refine takeL (i := 1) (v := (.int .i64 (k : Int))) rfl (by kernel_rfl) (by kernel_rfl) (by kernel_rfl) (fun _ _ _ h => h) (Or.inl ⟨rfl, fun _ _ => rfl⟩) hq0 ?_
            simp only [Act.put, List.setIfInBounds_toArray, List.set_cons_zero, List.set_cons_succ]
            refine takeL (i := 2) (v := (.pointer (some ⟨g1, k, none⟩))) rfl (by kernel_rfl) (by kernel_rfl) (by kernel_rfl) (fun _ _ _ h => h) (Or.inl ⟨rfl, fun W' _ => by go_simp⟩) hq0 ?_
            simp only [Act.put, List.setIfInBounds_toArray, List.set_cons_zero, List.set_cons_succ]
            refine takeL (i := 3) (v := _) rfl (by kernel_rfl) (by kernel_rfl) (by kernel_rfl) (fun _ _ _ h => h) (yieldsIf_cell rfl 30 _ rfl ⟨g1, k, none⟩ rfl cv _ (fun W' hW' => ((HX.out.trans hW').cell (p := ⟨g1, k, none⟩) hg1).trans cd) Try.underlying30 rfl) hq0 ?_
            simp only [Act.put, List.setIfInBounds_toArray, List.set_cons_zero, List.set_cons_succ]
            refine takeL (i := 4) (v := (.slice (some ⟨g2, 0, none⟩) nn cap2)) rfl (by kernel_rfl) (by kernel_rfl) (by kernel_rfl) (fun _ _ _ h => h) (Or.inl ⟨rfl, fun _ _ => rfl⟩) hq0 ?_
            simp only [Act.put, List.setIfInBounds_toArray, List.set_cons_zero, List.set_cons_succ]
            refine takeL (i := 5) (v := (.int .i64 (k : Int))) rfl (by kernel_rfl) (by kernel_rfl) (by kernel_rfl) (fun _ _ _ h => h) (Or.inl ⟨rfl, fun _ _ => rfl⟩) hq0 ?_
            simp only [Act.put, List.setIfInBounds_toArray, List.set_cons_zero, List.set_cons_succ]
            refine takeL (i := 6) (v := (.pointer (some ⟨g2, k * 3, none⟩))) rfl (by kernel_rfl) (by kernel_rfl) (by kernel_rfl) (fun _ _ _ h => h) (Or.inl ⟨rfl, fun W' _ => by go_simp⟩) hq0 ?_
            simp only [Act.put, List.setIfInBounds_toArray, List.set_cons_zero, List.set_cons_succ]
            refine takeL (i := 7) (v := _) rfl (by kernel_rfl) (by kernel_rfl) (by kernel_rfl) (fun _ _ _ h => h) (yieldsIf_load_mid rfl 34 _ rfl g2 (k * 3) rfl ((WV q)) _ (fun W' hW' => rangeR_ext HRG.out (HX.out.trans hW') hg2) Try.underlying34 rfl (by kernel_rfl)) hq0 ?_
            simp only [Act.put, List.setIfInBounds_toArray, List.set_cons_zero, List.set_cons_succ]
            refine runL (i := 8) rfl rfl (by kernel_rfl) (fun K hK => ?_)
            go_simp
            refine (HC.out _).mono ?_
            rintro e wc1 ⟨rfl, hx⟩
            have hq1 := hq0.trans hx
            refine hK.out _ _ hq1 (fun hHeld => ?_)
            try simp only [Act.put, List.setIfInBounds_toArray, List.set_cons_zero, List.set_cons_succ]
            clear hK K hHeld
            refine takeL (i := 9) (v := (.bool false)) rfl (by kernel_rfl) (by kernel_rfl) (by kernel_rfl) (fun _ _ _ h => h) (Or.inl ⟨rfl, fun W' _ => by go_simp <;> simp [HNG.out, HNQ.out]⟩) hq1 ?_
            simp only [Act.put, List.setIfInBounds_toArray, List.set_cons_zero, List.set_cons_succ]
            refine takeL (i := 10) (v := (.bool false)) rfl (by kernel_rfl) (by kernel_rfl) (by kernel_rfl) (fun _ _ _ h => h) (Or.inl ⟨rfl, fun _ _ => rfl⟩) hq1 ?_
            simp only [Act.put, List.setIfInBounds_toArray, List.set_cons_zero, List.set_cons_succ]
            refine takeL (i := 11) (v := (.slice (some ⟨g1, 0, none⟩) nn nn)) rfl (by kernel_rfl) (by kernel_rfl) (by kernel_rfl) (fun _ _ _ h => h) (Or.inl ⟨rfl, fun _ _ => rfl⟩) hq1 ?_
            simp only [Act.put, List.setIfInBounds_toArray, List.set_cons_zero, List.set_cons_succ]
            refine takeL (i := 12) (v := (.int .i64 (k : Int))) rfl (by kernel_rfl) (by kernel_rfl) (by kernel_rfl) (fun _ _ _ h => h) (Or.inl ⟨rfl, fun _ _ => rfl⟩) hq1 ?_
            simp only [Act.put, List.setIfInBounds_toArray, List.set_cons_zero, List.set_cons_succ]
            refine takeL (i := 13) (v := (.pointer (some ⟨g1, k, none⟩))) rfl (by kernel_rfl) (by kernel_rfl) (by kernel_rfl) (fun _ _ _ h => h) (Or.inl ⟨rfl, fun W' _ => by go_simp⟩) hq1 ?_
            simp only [Act.put, List.setIfInBounds_toArray, List.set_cons_zero, List.set_cons_succ]
            refine takeL (i := 14) (v := _) rfl (by kernel_rfl) (by kernel_rfl) (by kernel_rfl) (fun _ _ _ h => h) (yieldsIf_cell rfl 30 _ rfl ⟨g1, k, none⟩ rfl cv _ (fun W' hW' => ((HX.out.trans hW').cell (p := ⟨g1, k, none⟩) hg1).trans cd) Try.underlying30 rfl) hq1 ?_
            simp only [Act.put, List.setIfInBounds_toArray, List.set_cons_zero, List.set_cons_succ]
            refine takeL (i := 16) (v := (.slice (some ⟨g2, 0, none⟩) nn cap2)) rfl (by kernel_rfl) (by kernel_rfl) (by kernel_rfl) (fun _ _ _ h => h) (Or.inl ⟨rfl, fun _ _ => rfl⟩) hq1 ?_
            simp only [Act.put, List.setIfInBounds_toArray, List.set_cons_zero, List.set_cons_succ]
            refine takeL (i := 17) (v := (.int .i64 (k : Int))) rfl (by kernel_rfl) (by kernel_rfl) (by kernel_rfl) (fun _ _ _ h => h) (Or.inl ⟨rfl, fun _ _ => rfl⟩) hq1 ?_
            simp only [Act.put, List.setIfInBounds_toArray, List.set_cons_zero, List.set_cons_succ]
            refine takeL (i := 18) (v := (.pointer (some ⟨g2, k * 3, none⟩))) rfl (by kernel_rfl) (by kernel_rfl) (by kernel_rfl) (fun _ _ _ h => h) (Or.inl ⟨rfl, fun W' _ => by go_simp⟩) hq1 ?_
            simp only [Act.put, List.setIfInBounds_toArray, List.set_cons_zero, List.set_cons_succ]
            refine takeL (i := 19) (v := (.pointer (some ⟨g2, k * 3 + 2, none⟩))) rfl (by kernel_rfl) (by kernel_rfl) (by kernel_rfl) (fun _ _ _ h => h) (Or.inl ⟨rfl, fun _ _ => rfl⟩) hq1 ?_
            simp only [Act.put, List.setIfInBounds_toArray, List.set_cons_zero, List.set_cons_succ]
            refine takeL (i := 20) (v := _) rfl (by kernel_rfl) (by kernel_rfl) (by kernel_rfl) (fun _ _ _ h => h) (yieldsIf_cell rfl 4 _ rfl ⟨g2, k * 3 + 2, none⟩ rfl (.bool (!nb)) _ (fun W' hW' => ((HX.out.trans hW').cell (p := ⟨g2, k * 3 + 2, none⟩) hg2).trans c2) Try.underlying4 rfl) hq1 ?_
            simp only [Act.put, List.setIfInBounds_toArray, List.set_cons_zero, List.set_cons_succ]
            refine runG (i := 15) rfl (by rfl) (by kernel_rfl) (fun K hK => ?_)
            go_simp
            refine (HN.out _).mono ?_
            rintro e wc2 ⟨rfl, hx⟩
            have hq2 := hq1.trans hx
            refine hK.out _ _ hq2 (fun hHeld => ?_)
            try simp only [Act.put, List.setIfInBounds_toArray, List.set_cons_zero, List.set_cons_succ]
            clear hK K hHeld
            refine takeL (i := 21) (v := (.bool false)) rfl (by kernel_rfl) (by kernel_rfl) (by kernel_rfl) (fun _ _ _ h => h) (Or.inl ⟨rfl, fun W' _ => by go_simp <;> (cases nb <;> rfl)⟩) hq2 ?_
            simp only [Act.put, List.setIfInBounds_toArray, List.set_cons_zero, List.set_cons_succ]
            refine takeL (i := 22) (v := (.bool false)) rfl (by kernel_rfl) (by kernel_rfl) (by kernel_rfl) (fun _ _ _ h => h) (Or.inl ⟨rfl, fun _ _ => rfl⟩) hq2 ?_
            simp only [Act.put, List.setIfInBounds_toArray, List.set_cons_zero, List.set_cons_succ]
            refine wpAnyH_done (by kernel_rfl) ?_ _
            have HQF : Ext w4 _ := HX.out.trans hq2
            go_wp2_with fail
            go_meet
            exact ⟨rfl, HQF⟩
          case rest =>
            obtain ⟨rfl, hx⟩ := hcut
            go_wp2_with fail
            go_roundw
            case rel => exact ⟨k + 1, _, rfl, by omega, by go_num, hx⟩
            case measure => simp [intOf]; omega
        · obtain rfl : k = nn := by omega
          go_wp2_with fail
          go_ret
          exact ⟨rfl, HE4.out.trans HX.out⟩

end Go.Proofs.Ytendaloeonbbeaa
