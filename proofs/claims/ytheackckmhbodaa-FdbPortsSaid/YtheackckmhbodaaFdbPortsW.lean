/- The walk of FdbPorts. No statement is proved here. -/
import Derived.Test.YtheackckmhbodaaFdN
namespace Go.Proofs.Ytheackckmhbodaa
open Go.RowKit Go.BigFrame Go.WideShapes Go.ChangeShapes Go.Deep
set_option linter.unusedVariables false
set_option linter.unusedSimpArgs false
set_option maxRecDepth 100000

set_option maxRecDepth 100000 in
set_option maxHeartbeats 4000000 in
theorem law_FdbPorts {w : World} (v : Value) (zs : List Int) (hz : IsInts w .u64 v zs ∧ ∀ z ∈ zs, (Lit.int .u64 z).wf = true) (p : Int) (hp : 0 ≤ p ∧ p < 256) :
    Calls Try.prog 8 #[v, .int .u8 p] w fun e w' => e = .returned (.bool true) ∧ Ext w w' := by
  obtain ⟨hin, hwz⟩ := hz
  obtain ⟨av, cap, rfl, hmx, hin⟩ := hin.form
  have HIN := Lib.hid hin
  have HWZ := Lib.hid hwz
  obtain ⟨pp, hpp⟩ : ∃ pp, p % 3 = pp := ⟨_, rfl⟩
  have hpp3 : 0 ≤ pp ∧ pp < 3 := by omega
  have htm : p.tmod 3 = pp := by rw [Int.tmod_eq_emod_of_nonneg hp.1]; exact hpp
  have hwp : IntKind.i64.wrap pp = pp := by rw [IntKind.wrap_i64]; omega
  have hwp8 : IntKind.u8.wrap pp = pp := by rw [IntKind.wrap_u8]; omega
  clear hin hwz
  obtain ⟨N, hN⟩ : ∃ N, zs.length = N := ⟨_, rfl⟩
  rw [hN] at hmx ⊢
  have HN := Lib.hid hN
  clear hN
  go_enter Try.func8, Try.ntmps8
  go_wp2_with fail
  refine (awake07 _).mono ?_
  rintro e w1 ⟨rfl, h1⟩
  have E1 := Lib.hid h1
  clear h1
  by_cases hl : 60 < N
  · have d0 : decide (60 < (N : Int)) = true := by simp; omega
    go_wp2_with fail
    go_ret
    exact ⟨rfl, E1.out⟩
  have d0 : decide (60 < (N : Int)) = false := by simp; omega
  go_wp2_with fail
  refine (new_x w1 100 100 (by decide) w E1.out).mono ?_
  rintro e w2 ⟨f, rfl, h2⟩
  have H2 := Lib.hid h2
  clear h2 d0
  go_wp2_with fail
  go_loopw [7] (fun s wr => ∃ (i : Nat) (M : List En), s = .int .i64 i ∧ i ≤ N ∧ Ok 100 M ∧ M.length ≤ i ∧ Fx w wr f M 100 100) (fun s _ => N - (intOf s).toNat)
  case atStart => exact ⟨0, [], rfl, by omega, nil_ok 100, by simp, H2.out⟩
  case round =>
    clear H2
    obtain ⟨i, M, rfl, hi, hM, hMl, hfx⟩ := hrel
    have HM := Lib.hid hM
    have HX := Lib.hid hfx
    clear hM hfx
    by_cases hlt : i < N
    · have dlt : decide ((i : Int) < (N : Int)) = true := by simp; omega
      obtain ⟨bb, off, rfl, hbl, hlc, hcm, hrg⟩ := HIN.out (by have := HN.out; omega)
      obtain ⟨x, hx⟩ : ∃ x, zs.getD i 0 = x := ⟨_, rfl⟩
      have hxw : (Lit.int .u64 x).wf = true := HWZ.out x (by
        have hiz : i < zs.length := by have := HN.out; omega
        rw [← hx, List.getD_eq_getElem?_getD, List.getElem?_eq_getElem hiz]
        exact List.getElem_mem hiz)
      have hxr := wf_u64 hxw
      have cx : wr.cell? ⟨bb, off + i, none⟩ = some (.int .u64 x) := (HX.out.ext.cell hbl).trans ((hrg i (by have := HN.out; omega)).trans (by rw [hx]))
      obtain ⟨p3, hp3⟩ : ∃ p3, (i : Int) % 3 = p3 := ⟨_, rfl⟩
      have hp3b : 0 ≤ p3 ∧ p3 < 9223372036854775808 := by omega
      have htm3 : (i : Int).tmod 3 = p3 := by rw [Int.tmod_eq_emod_of_nonneg (by omega)]; exact hp3
      have hup : IntKind.i64.wrap ((i : Int) + 1) = ((i + 1 : Nat) : Int) := by rw [IntKind.wrap_i64]; omega
      have HMB := Lib.hid (show (M.length : Int) ≤ 100 by omega)
      clear hrg hx hxw
      go_wp2_with fail
      refine (learn_c w wr f M 100 100 HX.out HM.out (by decide) ⟨by decide, by decide, HMB.out⟩ x p3 hxr hp3b).mono ?_
      rintro e w3 ⟨bb2, M2, rfl, hM2, hl2, _, hf2⟩
      have HM2 := Lib.hid hM2
      have HX2 := Lib.hid hf2
      clear hM2 hf2
      go_wp2_with fail
      go_roundw
      case rel => exact ⟨i + 1, M2, by go_num, by omega, HM2.out, by omega, HX2.out⟩
      case measure => simp [intOf] <;> omega
    · have dlt : decide ((i : Int) < (N : Int)) = false := by simp; omega
      go_wp2_with fail
      refine (all60_x w wr f M 100 100 HX.out HM.out (by omega)).mono ?_
      rintro e wA ⟨a1, c1, rfl, ho1, hxA, hfA⟩
      have HO1 := Lib.hid ho1
      have HXA := Lib.hid hxA
      clear ho1 hxA hfA
      obtain ⟨n1, hn1⟩ : ∃ n1, M.length = n1 := ⟨_, rfl⟩
      rw [hn1] at HO1 ⊢
      have HN1 := Lib.hid hn1
      have hn60 : n1 ≤ 60 := by omega
      clear hn1
      go_wp2_with fail
      refine (flush_b w wr wA f M 100 100 HX.out HXA.out HM.out (by decide) (by have := HN1.out; omega) pp).mono ?_
      rintro e wB ⟨rfl, hfB, hkB⟩
      have HO1B := Lib.hid (owns_keep HO1.out hkB)
      rw [shorts_fl] at hfB
      have hcn := cnt_fl pp M
      obtain ⟨cn, hcn2⟩ : ∃ cn, cntP pp (fun _ => false) M = cn := ⟨_, rfl⟩
      rw [hcn2] at hcn ⊢
      obtain ⟨M2, hM2⟩ : ∃ M2, fl pp M = M2 := ⟨_, rfl⟩
      have hOk2 : Ok 100 M2 := by rw [← hM2, ← shorts_fl]; exact short_ok HM.out pp 0
      have HM2 := Lib.hid hM2
      rw [hM2] at hfB hcn
      have HFB := Lib.hid hfB
      have HOK2 := Lib.hid hOk2
      have HCN := Lib.hid hcn
      have hM2l : M2.length ≤ 60 := by have := HN1.out; omega
      clear hfB hkB hcn2 hOk2 hM2 hcn
      go_wp2_with fail
      refine (all60_x w wB f M2 100 100 HFB.out HOK2.out hM2l).mono ?_
      rintro e wC ⟨a2, c2, rfl, ho2, hxC, hfC⟩
      have HO2 := Lib.hid ho2
      have HO1C := Lib.hid (owns_ext HO1B.out hxC)
      have EC := Lib.hid hfC.ext
      clear ho2 hxC hfC
      obtain ⟨m2, hm2⟩ : ∃ m2, M2.length = m2 := ⟨_, rfl⟩
      rw [hm2] at HO2 ⊢
      have HN2 := Lib.hid hm2
      have HCN2 := Lib.hid (show cn + m2 = n1 by have := HCN.out; have := HN1.out; omega)
      have hm60 : m2 ≤ 60 := by omega
      clear hm2 hM2l dlt
      clear hlt
      go_wp2_with fail
      go_loopw [11, 12] (fun s t wr => ∃ (k i : Nat), s = .int .i64 k ∧ t = .int .i64 i ∧ i ≤ n1 ∧ k = (fl pp (M.take i)).length ∧ Ext wC wr) (fun _ t _ => n1 - (intOf t).toNat)
      case atStart => exact ⟨0, 0, rfl, rfl, by omega, by simp [fl], Ext.refl _⟩
      case round =>
        obtain ⟨k, i, rfl, rfl, hi, hk, hxl⟩ := hrel
        rename World => wl
        have HXL := Lib.hid hxl
        have HK := Lib.hid hk
        clear hxl hk
        by_cases hlt : i < n1
        · have dlt : decide ((i : Int) < (n1 : Int)) = true := by simp; omega
          obtain ⟨q1, hq1⟩ : ∃ q, n1 = q + 1 := ⟨n1 - 1, by omega⟩
          obtain ⟨g1, d1, hv1⟩ : ∃ g1 d1, Value.slice a1 n1 c1 = .slice (some ⟨g1, 0, none⟩) n1 d1 := by
            have := HO1C.out
            rw [hq1] at this ⊢
            exact ownsRow_succ this
          simp only [Value.slice.injEq] at hv1
          obtain ⟨rfl, -, rfl⟩ := hv1
          have hiM : i < M.length := by have := HN1.out; omega
          obtain ⟨x0, pq, s0, he0⟩ : ∃ x0 pq s0, M[i] = (x0, pq, s0) := ⟨_, _, _, rfl⟩
          have hr1 := ent_range HO1C.out HN1.out i hiM
          rw [he0] at hr1
          have hb1 : g1 < wC.heap.size := by
            obtain ⟨_, ⟨hv, _⟩ | ⟨g', cap', cur, hv, hb, hg, _⟩⟩ := HO1C.out
            · cases hv
            · cases hv; exact heap_lt hg
          have RW1 := Lib.hid (show wl.rangeAt g1 (i * 3) [.int .u64 x0, .int .i64 pq, .int .i64 s0] from rangeAt_ext hr1 HXL.out hb1)
          have RL1 := Lib.hid (show g1 < wl.heap.size from Nat.lt_of_lt_of_le hb1 HXL.out.size)
          have cp : wl.cell? ⟨g1, i * 3 + 1, none⟩ = some (.int .i64 pq) := RW1.out 1 _ rfl
          have HE0 := Lib.hid he0
          have hup : IntKind.i64.wrap ((i : Int) + 1) = ((i + 1 : Nat) : Int) := by rw [IntKind.wrap_i64]; omega
          clear hq1 hr1 hb1 he0
          by_cases hsame : pq = pp
          · have ds : (pq == pp) = true := by simpa using hsame
            have HS := Lib.hid hsame
            clear hsame
            go_wp2_with fail
            go_roundw
            case rel => exact ⟨k, i + 1, rfl, by go_num, by omega, by rw [fl_skip pp M i (by have := HN1.out; omega) (by rw [HE0.out]; exact HS.out)]; exact HK.out, HXL.out⟩
            case measure => simp [intOf] <;> omega
          · have ds : (pq == pp) = false := by simpa using hsame
            obtain ⟨hs1, hs2, hs3⟩ := fl_step pp M i (by have := HN1.out; omega) (by rw [HE0.out]; exact hsame)
            have hkm : k < m2 := by have := HK.out; have := HN2.out; have := HM2.out; subst this; omega
            obtain ⟨q2, hq2⟩ : ∃ q, m2 = q + 1 := ⟨m2 - 1, by omega⟩
            obtain ⟨g2, d2, hv2⟩ : ∃ g2 d2, Value.slice a2 m2 c2 = .slice (some ⟨g2, 0, none⟩) m2 d2 := by
              have := HO2.out
              rw [hq2] at this ⊢
              exact ownsRow_succ this
            simp only [Value.slice.injEq] at hv2
            obtain ⟨rfl, -, rfl⟩ := hv2
            have hr2 := ent_range HO2.out HN2.out k (by have := HN2.out; omega)
            have he2 : M2[k]'(by have := HN2.out; omega) = (x0, pq, s0) := by
              have h0 := HM2.out
              have hk := HK.out
              subst h0
              subst hk
              rw [← HE0.out]
              exact hs3
            rw [he2] at hr2
            have hb2 : g2 < wC.heap.size := by
              obtain ⟨_, ⟨hv, _⟩ | ⟨g', cap', cur, hv, hb, hg, _⟩⟩ := HO2.out
              · cases hv
              · cases hv; exact heap_lt hg
            have RW2 := Lib.hid (show wl.rangeAt g2 (k * 3) [.int .u64 x0, .int .i64 pq, .int .i64 s0] from rangeAt_ext hr2 HXL.out hb2)
            have RL2 := Lib.hid (show g2 < wl.heap.size from Nat.lt_of_lt_of_le hb2 HXL.out.size)
            have HS1 := Lib.hid hs1
            have hukp : IntKind.i64.wrap ((k : Int) + 1) = ((k + 1 : Nat) : Int) := by rw [IntKind.wrap_i64]; omega
            have dge : decide ((m2 : Int) ≤ (k : Int)) = false := by simp; omega
            have dge2 : decide ((k : Int) ≥ (m2 : Int)) = false := by simp; omega
            clear hsame hs1 hs3 hs2 hq2 hr2 he2 hb2
            go_wp2_with fail
            refine beginL (S := fun W' => Ext wl W') (by kernel_rfl) ?_
            intro wd hqx
            have hq0 : Ext wl wd := hqx
            refine takeL (i := 0) (v := (.slice (some ⟨g2, 0, none⟩) m2 c2)) rfl (by kernel_rfl) (by kernel_rfl) (by kernel_rfl) (fun _ _ _ h => h) (Or.inl ⟨rfl, fun _ _ => rfl⟩) hq0 ?_
            simp only [Act.put, List.setIfInBounds_toArray, List.set_cons_zero, List.set_cons_succ]
            refine takeL (i := 1) (v := (.int .i64 (k : Int))) rfl (by kernel_rfl) (by kernel_rfl) (by kernel_rfl) (fun _ _ _ h => h) (Or.inl ⟨rfl, fun _ _ => rfl⟩) hq0 ?_
            simp only [Act.put, List.setIfInBounds_toArray, List.set_cons_zero, List.set_cons_succ]
            refine takeL (i := 2) (v := (.pointer (some ⟨g2, (k * 3), none⟩))) rfl (by kernel_rfl) (by kernel_rfl) (by kernel_rfl) (fun _ _ _ h => h) (Or.inl ⟨rfl, fun W' _ => by go_simp <;> (intro h; omega)⟩) hq0 ?_
            simp only [Act.put, List.setIfInBounds_toArray, List.set_cons_zero, List.set_cons_succ]
            refine takeL (i := 3) (v := _) rfl (by kernel_rfl) (by kernel_rfl) (by kernel_rfl) (fun _ _ _ h => h) (yieldsIf_load_mid rfl 43 _ rfl g2 ((k * 3)) rfl ([.int .u64 x0, .int .i64 pq, .int .i64 s0]) _ (fun W' hW' => rangeAt_ext RW2.out hW' RL2.out) Try.underlying43 rfl size_ent) hq0 ?_
            simp only [Act.put, List.setIfInBounds_toArray, List.set_cons_zero, List.set_cons_succ]
            refine takeL (i := 4) (v := (.slice (some ⟨g1, 0, none⟩) n1 c1)) rfl (by kernel_rfl) (by kernel_rfl) (by kernel_rfl) (fun _ _ _ h => h) (Or.inl ⟨rfl, fun _ _ => rfl⟩) hq0 ?_
            simp only [Act.put, List.setIfInBounds_toArray, List.set_cons_zero, List.set_cons_succ]
            refine takeL (i := 5) (v := (.int .i64 (i : Int))) rfl (by kernel_rfl) (by kernel_rfl) (by kernel_rfl) (fun _ _ _ h => h) (Or.inl ⟨rfl, fun _ _ => rfl⟩) hq0 ?_
            simp only [Act.put, List.setIfInBounds_toArray, List.set_cons_zero, List.set_cons_succ]
            refine takeL (i := 6) (v := (.pointer (some ⟨g1, (i * 3), none⟩))) rfl (by kernel_rfl) (by kernel_rfl) (by kernel_rfl) (fun _ _ _ h => h) (Or.inl ⟨rfl, fun W' _ => by go_simp <;> (intro h; omega)⟩) hq0 ?_
            simp only [Act.put, List.setIfInBounds_toArray, List.set_cons_zero, List.set_cons_succ]
            refine takeL (i := 7) (v := _) rfl (by kernel_rfl) (by kernel_rfl) (by kernel_rfl) (fun _ _ _ h => h) (yieldsIf_load_mid rfl 43 _ rfl g1 ((i * 3)) rfl ([.int .u64 x0, .int .i64 pq, .int .i64 s0]) _ (fun W' hW' => rangeAt_ext RW1.out hW' RL1.out) Try.underlying43 rfl size_ent) hq0 ?_
            simp only [Act.put, List.setIfInBounds_toArray, List.set_cons_zero, List.set_cons_succ]
            refine takeL (i := 8) (v := (.bool false)) rfl (by kernel_rfl) (by kernel_rfl) (by kernel_rfl) (fun _ _ _ h => h) (Or.inl ⟨rfl, fun W' _ => by go_simp⟩) hq0 ?_
            simp only [Act.put, List.setIfInBounds_toArray, List.set_cons_zero, List.set_cons_succ]
            refine wpAnyH_done (by kernel_rfl) ?_ _
            have HXD := Lib.hid (HXL.out.trans hq0)
            clear hq0 hqx
            generalize hwd : wd = w9 at *
            go_wp2_with fail
            go_roundw
            case rel => exact ⟨k + 1, i + 1, by go_num, by go_num, by omega, by rw [HS1.out, HK.out], HXD.out⟩
            case measure => simp [intOf] <;> omega
        · have dlt : decide ((i : Int) < (n1 : Int)) = false := by simp; omega
          have hkm : k = m2 := by
            have h1 := HK.out
            have h0 := HM2.out
            subst h0
            rw [List.take_of_length_le (by have := HN1.out; omega)] at h1
            rw [h1]; exact HN2.out
          have hsub : IntKind.i64.wrap ((n1 : Int) - (m2 : Int)) = (cn : Int) := by have := HCN2.out; rw [IntKind.wrap_i64]; omega
          obtain rfl := hkm
          go_wp2_with fail
          go_ret
          exact ⟨by simp, EC.out.trans HXL.out⟩

end Go.Proofs.Ytheackckmhbodaa
