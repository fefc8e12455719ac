/- The walk of FdbClones. No statement is proved here. -/
import Derived.Test.YtheackckmhbodaaFdCl
namespace Go.Proofs.Ytheackckmhbodaa
open Go.RowKit Go.BigFrame Go.WideShapes Go.ChangeShapes Go.Deep
set_option linter.unusedVariables false
set_option linter.unusedSimpArgs false
set_option maxRecDepth 100000

theorem flush_x (w0 w : World) (f : Nat) (L : List En) (most age : Int) (h : Fx w0 w f L most age) (hL : Ok age L) (ha : 0 ≤ age ∧ age ≤ 1000000) (hlen : L.length ≤ 4096) (port : Int) :
    Calls Try.prog 18 #[.pointer (some ⟨f, 0, none⟩), .int .i64 port] w fun e w' => ∃ cn : Nat, e = .returned (.int .i64 cn) ∧ Fx w0 w' f (shorts port 0 L) most age :=
  (flush_b w0 w w f L most age h (Ext.refl w) hL ha hlen port).mono fun e w' ⟨he, hf, _⟩ => ⟨_, he, hf⟩
set_option maxRecDepth 100000 in
set_option maxHeartbeats 4000000 in
theorem law_FdbClones {w : World} (v : Value) (zs : List Int) (hz : IsInts w .u64 v zs ∧ ∀ z ∈ zs, (Lit.int .u64 z).wf = true) (mc : Int) (hmc : 0 ≤ mc ∧ mc < 18446744073709551616) (p : Int) (hp : 0 ≤ p ∧ p < 256) :
    Calls Try.prog 7 #[v, .int .u64 mc, .int .u8 p] w fun e w' => e = .returned (.bool true) ∧ Ext w w' := by
  obtain ⟨hin, hwz⟩ := hz
  obtain ⟨av, cap, rfl, hmx, hin⟩ := hin.form
  have HIN := Lib.hid hin
  have HWZ := Lib.hid hwz
  have hp2 : 0 ≤ p ∧ p < 9223372036854775808 := by omega
  have hwp : IntKind.i64.wrap p = p := by rw [IntKind.wrap_i64]; omega
  clear hin hwz
  obtain ⟨N, hN⟩ : ∃ N, zs.length = N := ⟨_, rfl⟩
  rw [hN] at hmx ⊢
  have HN := Lib.hid hN
  clear hN
  go_enter Try.func7, Try.ntmps7
  go_wp2_with fail
  refine (awake07 _).mono ?_
  rintro e w1 ⟨rfl, h1⟩
  have E1 := Lib.hid h1
  clear h1
  by_cases hl : 60 < N
  · have d0 : decide (60 < (N : Int)) = true := by simp; omega
    go_wp2_with fail
    go_ret
    exact ⟨rfl, E1.out⟩
  have d0 : decide (60 < (N : Int)) = false := by simp; omega
  go_wp2_with fail
  refine (new_x w1 20 100 (by decide) w E1.out).mono ?_
  rintro e w2 ⟨f, rfl, h2⟩
  have H2 := Lib.hid h2
  clear h2 d0
  go_wp2_with fail
  go_loopw [9] (fun s wr => ∃ (i : Nat) (M : List En), s = .int .i64 i ∧ i ≤ N ∧ Ok 100 M ∧ (M.length : Int) ≤ 20 ∧ Fx w wr f M 20 100) (fun s _ => N - (intOf s).toNat)
  case atStart => exact ⟨0, [], rfl, by omega, nil_ok 100, by simp, H2.out⟩
  case round =>
    clear H2
    obtain ⟨i, M, rfl, hi, hM, hMl, hfx⟩ := hrel
    have HM := Lib.hid hM
    have HX := Lib.hid hfx
    clear hM hfx
    by_cases hlt : i < N
    · have dlt : decide ((i : Int) < (N : Int)) = true := by simp; omega
      obtain ⟨bb, off, rfl, hbl, hlc, hcm, hrg⟩ := HIN.out (by have := HN.out; omega)
      obtain ⟨x, hx⟩ : ∃ x, zs.getD i 0 = x := ⟨_, rfl⟩
      have hxw : (Lit.int .u64 x).wf = true := HWZ.out x (by
        have hiz : i < zs.length := by have := HN.out; omega
        rw [← hx, List.getD_eq_getElem?_getD, List.getElem?_eq_getElem hiz]
        exact List.getElem_mem hiz)
      have hxr := wf_u64 hxw
      have cx : wr.cell? ⟨bb, off + i, none⟩ = some (.int .u64 x) := (HX.out.ext.cell hbl).trans ((hrg i (by have := HN.out; omega)).trans (by rw [hx]))
      obtain ⟨p3, hp3⟩ : ∃ p3, (i : Int) % 3 = p3 := ⟨_, rfl⟩
      have hp3b : 0 ≤ p3 ∧ p3 < 9223372036854775808 := by omega
      have htm3 : (i : Int).tmod 3 = p3 := by rw [Int.tmod_eq_emod_of_nonneg (by omega)]; exact hp3
      have hup : IntKind.i64.wrap ((i : Int) + 1) = ((i + 1 : Nat) : Int) := by rw [IntKind.wrap_i64]; omega
      have HMB := Lib.hid hMl
      clear hrg hx hxw hMl
      go_wp2_with fail
      refine (learn_c w wr f M 20 100 HX.out HM.out (by decide) ⟨by decide, by decide, HMB.out⟩ x p3 hxr hp3b).mono ?_
      rintro e w3 ⟨bb2, M2, rfl, hM2, _, hl2, hf2⟩
      have HM2 := Lib.hid hM2
      have HX2 := Lib.hid hf2
      have HL2 := Lib.hid hl2
      clear hM2 hf2 hl2
      go_wp2_with fail
      go_roundw
      case rel => exact ⟨i + 1, M2, by go_num, by omega, HM2.out, HL2.out, HX2.out⟩
      case measure => simp [intOf] <;> omega
    · have dlt : decide ((i : Int) < (N : Int)) = false := by simp; omega
      have HMB := Lib.hid hMl
      clear hMl
      go_wp2_with fail
      refine (all60_x w wr f M 20 100 HX.out HM.out (by have := HMB.out; omega)).mono ?_
      rintro e wA ⟨a1, c1, rfl, ho1, hxA, hfA⟩
      have HO1 := Lib.hid ho1
      have HFA := Lib.hid hfA
      clear ho1 hxA hfA dlt
      obtain ⟨n1, hn1⟩ : ∃ n1, M.length = n1 := ⟨_, rfl⟩
      rw [hn1] at HO1 ⊢
      have HN1 := Lib.hid hn1
      have hn20 : n1 ≤ 20 := by have := HMB.out; omega
      clear hn1 hlt
      go_wp2_with fail
      refine (clone_x w wA f M 20 100 HFA.out HM.out (by have := HN1.out; omega)).mono ?_
      rintro e wB ⟨g, rfl, hgB⟩
      have HGB := Lib.hid hgB
      clear hgB
      go_wp2_with fail
      refine (all60_x wA wB g M 20 100 HGB.out HM.out (by have := HN1.out; omega)).mono ?_
      rintro e wC ⟨a2, c2, rfl, _, _, hgC⟩
      have HGC := Lib.hid hgC
      clear hgC
      rw [HN1.out]
      go_wp2_with fail
      refine (learn_c wA wC g M 20 100 HGC.out HM.out (by decide) ⟨by decide, by decide, HMB.out⟩ mc p hmc hp2).mono ?_
      rintro e wD ⟨bb2, M2, rfl, hM2, _, hl2, hf2⟩
      have HM2 := Lib.hid hM2
      have HGD := Lib.hid hf2
      have HL2 := Lib.hid hl2
      clear hM2 hf2 hl2
      go_wp2_with fail
      refine (flush_x wA wD g M2 20 100 HGD.out HM2.out (by decide) (by have := HL2.out; omega) 1).mono ?_
      rintro e wE ⟨cn, rfl, hgE⟩
      have HGE := Lib.hid hgE
      clear hgE
      go_wp2_with fail
      refine (tick_x wA wE g (shorts 1 0 M2) 20 100 HGE.out (short_ok HM2.out 1 0) (by decide)).mono ?_
      rintro e wF ⟨rfl, hgF⟩
      have HFF := Lib.hid (HFA.out.grow hgF.ext)
      have HO1F := Lib.hid (owns_ext HO1.out hgF.ext)
      clear hgF
      go_wp2_with fail
      refine (all60_x w wF f M 20 100 HFF.out HM.out (by have := HN1.out; omega)).mono ?_
      rintro e wG ⟨a3, c3, rfl, ho3, hxG, hfG⟩
      have HO3 := Lib.hid ho3
      have HO1G := Lib.hid (owns_ext HO1F.out hxG)
      have EG := Lib.hid hfG.ext
      clear ho3 hxG hfG
      rw [HN1.out] at HO3 ⊢
      go_wp2_with fail
      go_loopw [14] (fun s wr => ∃ (i : Nat), s = .int .i64 i ∧ i ≤ n1 ∧ Ext wG wr) (fun s _ => n1 - (intOf s).toNat)
      case atStart => exact ⟨0, rfl, by omega, Ext.refl _⟩
      case round =>
        obtain ⟨i, rfl, hi, hxl⟩ := hrel
        rename World => wl
        have HXL := Lib.hid hxl
        clear hxl
        by_cases hlt : i < n1
        · have dlt : decide ((i : Int) < (n1 : Int)) = true := by simp; omega
          obtain ⟨q1, hq1⟩ : ∃ q, n1 = q + 1 := ⟨n1 - 1, by omega⟩
          have hiM : i < M.length := by have := HN1.out; omega
          obtain ⟨x0, pq, s0, he0⟩ : ∃ x0 pq s0, M[i] = (x0, pq, s0) := ⟨_, _, _, rfl⟩
          obtain ⟨g1, d1, hv1⟩ : ∃ g d, Value.slice a1 n1 c1 = .slice (some ⟨g, 0, none⟩) n1 d := by
            have := HO1G.out
            rw [hq1] at this ⊢
            exact ownsRow_succ this
          simp only [Value.slice.injEq] at hv1
          obtain ⟨rfl, -, rfl⟩ := hv1
          have hr1 := ent_range HO1G.out HN1.out i hiM
          rw [he0] at hr1
          have hb1 : g1 < wG.heap.size := by
            obtain ⟨_, ⟨hv, _⟩ | ⟨g', cap', cur, hv, hb, hg, _⟩⟩ := HO1G.out
            · cases hv
            · cases hv; exact heap_lt hg
          have RW1 := Lib.hid (show wl.rangeAt g1 (i * 3) [.int .u64 x0, .int .i64 pq, .int .i64 s0] from rangeAt_ext hr1 HXL.out hb1)
          have RL1 := Lib.hid (show g1 < wl.heap.size from Nat.lt_of_lt_of_le hb1 HXL.out.size)
          obtain ⟨g2, d2, hv2⟩ : ∃ g d, Value.slice a3 n1 c3 = .slice (some ⟨g, 0, none⟩) n1 d := by
            have := HO3.out
            rw [hq1] at this ⊢
            exact ownsRow_succ this
          simp only [Value.slice.injEq] at hv2
          obtain ⟨rfl, -, rfl⟩ := hv2
          have hr2 := ent_range HO3.out HN1.out i hiM
          rw [he0] at hr2
          have hb2 : g2 < wG.heap.size := by
            obtain ⟨_, ⟨hv, _⟩ | ⟨g', cap', cur, hv, hb, hg, _⟩⟩ := HO3.out
            · cases hv
            · cases hv; exact heap_lt hg
          have RW2 := Lib.hid (show wl.rangeAt g2 (i * 3) [.int .u64 x0, .int .i64 pq, .int .i64 s0] from rangeAt_ext hr2 HXL.out hb2)
          have RL2 := Lib.hid (show g2 < wl.heap.size from Nat.lt_of_lt_of_le hb2 HXL.out.size)
          have hup : IntKind.i64.wrap ((i : Int) + 1) = ((i + 1 : Nat) : Int) := by rw [IntKind.wrap_i64]; omega
          clear hq1 hr1 hb1 hr2 hb2 he0
          go_wp2_with fail
          refine beginL (S := fun W' => Ext wl W') (by kernel_rfl) ?_
          intro wd hqx
          have hq0 : Ext wl wd := hqx
          refine takeL (i := 0) (v := (.slice (some ⟨g2, 0, none⟩) n1 c3)) rfl (by kernel_rfl) (by kernel_rfl) (by kernel_rfl) (fun _ _ _ h => h) (Or.inl ⟨rfl, fun _ _ => rfl⟩) hq0 ?_
          simp only [Act.put, List.setIfInBounds_toArray, List.set_cons_zero, List.set_cons_succ]
          refine takeL (i := 1) (v := (.int .i64 (i : Int))) rfl (by kernel_rfl) (by kernel_rfl) (by kernel_rfl) (fun _ _ _ h => h) (Or.inl ⟨rfl, fun _ _ => rfl⟩) hq0 ?_
          simp only [Act.put, List.setIfInBounds_toArray, List.set_cons_zero, List.set_cons_succ]
          refine takeL (i := 2) (v := (.pointer (some ⟨g2, (i * 3), none⟩))) rfl (by kernel_rfl) (by kernel_rfl) (by kernel_rfl) (fun _ _ _ h => h) (Or.inl ⟨rfl, fun W' _ => by go_simp <;> (intro h; omega)⟩) hq0 ?_
          simp only [Act.put, List.setIfInBounds_toArray, List.set_cons_zero, List.set_cons_succ]
          refine takeL (i := 3) (v := _) rfl (by kernel_rfl) (by kernel_rfl) (by kernel_rfl) (fun _ _ _ h => h) (yieldsIf_load_mid rfl 43 _ rfl g2 ((i * 3)) rfl ([.int .u64 x0, .int .i64 pq, .int .i64 s0]) _ (fun W' hW' => rangeAt_ext RW2.out hW' RL2.out) Try.underlying43 rfl size_ent) hq0 ?_
          simp only [Act.put, List.setIfInBounds_toArray, List.set_cons_zero, List.set_cons_succ]
          refine takeL (i := 4) (v := (.slice (some ⟨g1, 0, none⟩) n1 c1)) rfl (by kernel_rfl) (by kernel_rfl) (by kernel_rfl) (fun _ _ _ h => h) (Or.inl ⟨rfl, fun _ _ => rfl⟩) hq0 ?_
          simp only [Act.put, List.setIfInBounds_toArray, List.set_cons_zero, List.set_cons_succ]
          refine takeL (i := 5) (v := (.int .i64 (i : Int))) rfl (by kernel_rfl) (by kernel_rfl) (by kernel_rfl) (fun _ _ _ h => h) (Or.inl ⟨rfl, fun _ _ => rfl⟩) hq0 ?_
          simp only [Act.put, List.setIfInBounds_toArray, List.set_cons_zero, List.set_cons_succ]
          refine takeL (i := 6) (v := (.pointer (some ⟨g1, (i * 3), none⟩))) rfl (by kernel_rfl) (by kernel_rfl) (by kernel_rfl) (fun _ _ _ h => h) (Or.inl ⟨rfl, fun W' _ => by go_simp <;> (intro h; omega)⟩) hq0 ?_
          simp only [Act.put, List.setIfInBounds_toArray, List.set_cons_zero, List.set_cons_succ]
          refine takeL (i := 7) (v := _) rfl (by kernel_rfl) (by kernel_rfl) (by kernel_rfl) (fun _ _ _ h => h) (yieldsIf_load_mid rfl 43 _ rfl g1 ((i * 3)) rfl ([.int .u64 x0, .int .i64 pq, .int .i64 s0]) _ (fun W' hW' => rangeAt_ext RW1.out hW' RL1.out) Try.underlying43 rfl size_ent) hq0 ?_
          simp only [Act.put, List.setIfInBounds_toArray, List.set_cons_zero, List.set_cons_succ]
          refine takeL (i := 8) (v := (.bool false)) rfl (by kernel_rfl) (by kernel_rfl) (by kernel_rfl) (fun _ _ _ h => h) (Or.inl ⟨rfl, fun W' _ => by go_simp⟩) hq0 ?_
          simp only [Act.put, List.setIfInBounds_toArray, List.set_cons_zero, List.set_cons_succ]
          refine wpAnyH_done (by kernel_rfl) ?_ _
          have HXD := Lib.hid (HXL.out.trans hq0)
          clear hq0 hqx
          generalize hwd : wd = w9 at *
          go_wp2_with fail
          go_roundw
          case rel => exact ⟨i + 1, by go_num, by omega, HXD.out⟩
          case measure => simp [intOf] <;> omega
        · have dlt : decide ((i : Int) < (n1 : Int)) = false := by simp; omega
          go_wp2_with fail
          go_ret
          exact ⟨by simp, EG.out.trans HXL.out⟩

end Go.Proofs.Ytheackckmhbodaa
