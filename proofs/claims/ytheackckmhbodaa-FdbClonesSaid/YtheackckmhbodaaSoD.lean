/- The library's sort: heapSort. No statement is proved here. -/
import Derived.Test.YtheackckmhbodaaSoC
namespace Go.Proofs.Ytheackckmhbodaa
open Go.RowKit Go.BigFrame Go.WideShapes Go.ChangeShapes Go.Deep
set_option linter.unusedVariables false
set_option linter.unusedSimpArgs false
set_option maxRecDepth 100000

set_option maxRecDepth 100000 in
set_option maxHeartbeats 2000000 in
theorem heap_any (w : World) (g n cap : Nat) (l0 : List Int) (a b : Nat) (hab : a < b) (hb : b ≤ n) (hn : n ≤ 500) (h : Nums w g l0) (hl : l0.length = n) :
    Calls Try.prog 42 #[(.slice (some ⟨g, 0, none⟩) n cap), .int .i64 a, .int .i64 b] w fun e w' => e = .returned (.tuple #[]) ∧ SoP w g n (Go.Sort.heapSort ltI l0.toArray a b) w' := by
  obtain ⟨m, hm⟩ : ∃ m, b - a = m := ⟨_, rfl⟩
  obtain ⟨k0, hk0⟩ : ∃ k0, (m - 1) / 2 + 1 = k0 := ⟨_, rfl⟩
  have H0 := Lib.hid (show ∃ l : List Int, Nums w g l ∧ l.length = n ∧ Go.Sort.heapPop ltI a m (Go.Sort.heapBuild ltI m a k0 l.toArray) = Go.Sort.heapSort ltI l0.toArray a b ∧ Mut (fun k => k = g) w w from ⟨l0, h, hl, by unfold Go.Sort.heapSort; rw [hm, hk0], Mut.refl _ w⟩)
  generalize Go.Sort.heapSort ltI l0.toArray a b = D at *
  obtain ⟨m1, hm1⟩ : ∃ m1, m - 1 = m1 := ⟨_, rfl⟩
  obtain ⟨t0, ht0⟩ : ∃ t0, k0 - 1 = t0 := ⟨_, rfl⟩
  have HK0 := Lib.hid (show t0 + 1 = k0 ∧ k0 ≤ n ∧ m1 + 1 = m by omega)
  have hw1 : IntKind.i64.wrap ((b : Int) - (a : Int)) = (m : Int) := by rw [IntKind.wrap_i64]; omega
  have hw2 : IntKind.i64.wrap ((m : Int) - 1) = (m1 : Int) := by rw [IntKind.wrap_i64]; omega
  have hw3 : RowKit.wrap64 ((m1 : Int) / 2) = (t0 : Int) := by
    unfold RowKit.wrap64; omega
  have hmn : a + m ≤ n := by omega
  have hm0 : 1 ≤ m := by omega
  clear h hl hk0 ht0 hm hm1
  go_enter Try.func42, Try.ntmps42
  go_wp2_with fail
  rw [hw3]
  clear hw3
  go_loopw [9] (fun s wr => ∃ (t : Int) (k : Nat) (l : List Int), s = .int .i64 t ∧ t + 1 = (k : Int) ∧ k ≤ n ∧ Nums wr g l ∧ l.length = n ∧ Go.Sort.heapPop ltI a m (Go.Sort.heapBuild ltI m a k l.toArray) = D ∧ Mut (fun k => k = g) w wr) (fun s _ => (intOf s + 1).toNat)
  case atStart =>
    obtain ⟨l, q1, q2, q3, q4⟩ := H0.out
    exact ⟨_, k0, l, rfl, by have := HK0.out; omega, HK0.out.2.1, q1, q2, q3, q4⟩
  case round =>
    clear H0
    obtain ⟨t, k, l, rfl, htk, hkn, hnu, hln, hsd, hmu⟩ := hrel
    rename World => wl
    have NU := Lib.hid hnu
    have MU := Lib.hid hmu
    have SDH := Lib.hid hsd
    clear hnu hmu hsd
    cases k with
    | succ k =>
      obtain rfl : t = (k : Int) := by omega
      have dk : decide ((0 : Int) ≤ (k : Int)) = true := by simp
      obtain ⟨t', ht'⟩ : ∃ t' : Int, t' + 1 = (k : Int) := ⟨(k : Int) - 1, by omega⟩
      have hdn : IntKind.i64.wrap ((k : Int) - 1) = t' := by rw [IntKind.wrap_i64]; omega
      clear htk
      go_wp2_with fail
      refine (sift_any wl g n cap l k m a (by omega) hmn hn NU.out hln).mono ?_
      rintro e w5 ⟨rfl, l2, hnu2, hln2, hl2, hmu2⟩
      have NU2 := Lib.hid hnu2
      have MU2 := Lib.hid (MU.out.trans hmu2)
      have HD2 := Lib.hid (show Go.Sort.heapPop ltI a m (Go.Sort.heapBuild ltI m a k l2.toArray) = D from by rw [hl2]; exact SDH.out)
      clear hnu2 hmu2 hl2
      go_wp2_with fail
      go_roundw
      case rel => exact ⟨t', k, l2, rfl, ht', by omega, NU2.out, hln2, HD2.out, MU2.out⟩
      case measure => simp [intOf] <;> omega
    | zero =>
      have dk : decide ((0 : Int) ≤ t) = false := by simp; omega
      have H1 := Lib.hid (show Go.Sort.heapPop ltI a m l.toArray = D from SDH.out)
      go_wp2_with fail
      go_loopw [10] (fun s wr => ∃ (t : Int) (k : Nat) (l : List Int), s = .int .i64 t ∧ t + 1 = (k : Int) ∧ k ≤ m ∧ Nums wr g l ∧ l.length = n ∧ Go.Sort.heapPop ltI a k l.toArray = D ∧ Mut (fun k => k = g) w wr) (fun s _ => (intOf s + 1).toNat)
      case atStart => exact ⟨_, m, l, rfl, by have := HK0.out; omega, Nat.le_refl _, NU.out, hln, H1.out, MU.out⟩
      case round =>
        clear H1 SDH NU MU dk
        obtain ⟨t, k, l, rfl, htk, hkm, hnu, hln, hsd, hmu⟩ := hrel
        rename World => wl
        have NU := Lib.hid hnu
        have MU := Lib.hid hmu
        have SDH := Lib.hid hsd
        clear hnu hmu hsd
        cases k with
        | succ k =>
          obtain rfl : t = (k : Int) := by omega
          have dk : decide ((0 : Int) ≤ (k : Int)) = true := by simp
          obtain ⟨t', ht'⟩ : ∃ t' : Int, t' + 1 = (k : Int) := ⟨(k : Int) - 1, by omega⟩
          have hdn : IntKind.i64.wrap ((k : Int) - 1) = t' := by rw [IntKind.wrap_i64]; omega
          obtain ⟨pa, hpa⟩ : ∃ pa, a + k = pa := ⟨_, rfl⟩
          obtain ⟨x, hvp⟩ : ∃ x, at0 l a = x := ⟨_, rfl⟩
          obtain ⟨y, hvq⟩ : ∃ y, at0 l pa = y := ⟨_, rfl⟩
          clear htk
          go_wp2_with fail
          refine beginZ (S := fun W' => Ext wl W') 17 (by kernel_rfl) ?_
          intro wd hqx
          have hq0 : Ext wl wd := hqx
          refine takeY (i := 0) (z := 17) (v := (.slice (some ⟨g, 0, none⟩) n cap)) rfl (by kernel_rfl) (by kernel_rfl) (by kernel_rfl) (by kernel_rfl) (fun _ _ _ h => h) (Or.inl ⟨rfl, fun _ _ => rfl⟩) hq0 ?_
          simp only [Act.put, List.setIfInBounds_toArray, List.set_cons_zero, List.set_cons_succ]
          refine takeY (i := 1) (z := 17) (v := (.int .i64 (a : Int))) rfl (by kernel_rfl) (by kernel_rfl) (by kernel_rfl) (by kernel_rfl) (fun _ _ _ h => h) (Or.inl ⟨rfl, fun _ _ => rfl⟩) hq0 ?_
          simp only [Act.put, List.setIfInBounds_toArray, List.set_cons_zero, List.set_cons_succ]
          refine takeY (i := 2) (z := 17) (v := (.slice (some ⟨g, 0, none⟩) n cap)) rfl (by kernel_rfl) (by kernel_rfl) (by kernel_rfl) (by kernel_rfl) (fun _ _ _ h => h) (Or.inl ⟨rfl, fun _ _ => rfl⟩) hq0 ?_
          simp only [Act.put, List.setIfInBounds_toArray, List.set_cons_zero, List.set_cons_succ]
          refine takeY (i := 3) (z := 17) (v := (.int .i64 (a : Int))) rfl (by kernel_rfl) (by kernel_rfl) (by kernel_rfl) (by kernel_rfl) (fun _ _ _ h => h) (Or.inl ⟨rfl, fun _ _ => rfl⟩) hq0 ?_
          simp only [Act.put, List.setIfInBounds_toArray, List.set_cons_zero, List.set_cons_succ]
          refine takeY (i := 4) (z := 17) (v := (.int .i64 (k : Int))) rfl (by kernel_rfl) (by kernel_rfl) (by kernel_rfl) (by kernel_rfl) (fun _ _ _ h => h) (Or.inl ⟨rfl, fun _ _ => rfl⟩) hq0 ?_
          simp only [Act.put, List.setIfInBounds_toArray, List.set_cons_zero, List.set_cons_succ]
          refine takeY (i := 5) (z := 17) (v := (.int .i64 (pa : Int))) rfl (by kernel_rfl) (by kernel_rfl) (by kernel_rfl) (by kernel_rfl) (fun _ _ _ h => h) (Or.inl ⟨rfl, fun W' _ => by go_simp <;> (rw [IntKind.wrap_i64]; omega)⟩) hq0 ?_
          simp only [Act.put, List.setIfInBounds_toArray, List.set_cons_zero, List.set_cons_succ]
          refine takeY (i := 6) (z := 17) (v := (.slice (some ⟨g, 0, none⟩) n cap)) rfl (by kernel_rfl) (by kernel_rfl) (by kernel_rfl) (by kernel_rfl) (fun _ _ _ h => h) (Or.inl ⟨rfl, fun _ _ => rfl⟩) hq0 ?_
          simp only [Act.put, List.setIfInBounds_toArray, List.set_cons_zero, List.set_cons_succ]
          refine takeY (i := 7) (z := 17) (v := (.int .i64 (a : Int))) rfl (by kernel_rfl) (by kernel_rfl) (by kernel_rfl) (by kernel_rfl) (fun _ _ _ h => h) (Or.inl ⟨rfl, fun _ _ => rfl⟩) hq0 ?_
          simp only [Act.put, List.setIfInBounds_toArray, List.set_cons_zero, List.set_cons_succ]
          refine takeY (i := 8) (z := 17) (v := (.int .i64 (k : Int))) rfl (by kernel_rfl) (by kernel_rfl) (by kernel_rfl) (by kernel_rfl) (fun _ _ _ h => h) (Or.inl ⟨rfl, fun _ _ => rfl⟩) hq0 ?_
          simp only [Act.put, List.setIfInBounds_toArray, List.set_cons_zero, List.set_cons_succ]
          refine takeY (i := 9) (z := 17) (v := (.int .i64 (pa : Int))) rfl (by kernel_rfl) (by kernel_rfl) (by kernel_rfl) (by kernel_rfl) (fun _ _ _ h => h) (Or.inl ⟨rfl, fun W' _ => by go_simp <;> (rw [IntKind.wrap_i64]; omega)⟩) hq0 ?_
          simp only [Act.put, List.setIfInBounds_toArray, List.set_cons_zero, List.set_cons_succ]
          refine takeY (i := 10) (z := 17) (v := (.pointer (some ⟨g, pa, none⟩))) rfl (by kernel_rfl) (by kernel_rfl) (by kernel_rfl) (by kernel_rfl) (fun _ _ _ h => h) (Or.inl ⟨rfl, fun W' _ => by go_simp <;> (intro h; omega)⟩) hq0 ?_
          simp only [Act.put, List.setIfInBounds_toArray, List.set_cons_zero, List.set_cons_succ]
          refine takeZ (i := 11) (z := 17) (v := _) rfl rfl (by kernel_rfl) (by kernel_rfl) (by kernel_rfl) (by kernel_rfl) (by kernel_rfl) (by kernel_rfl) (fun _ _ _ h => h) (yieldsIf_cell rfl 30 _ rfl ⟨g, pa, none⟩ rfl (.int .u64 y) _ (fun W' hW' => (show W'.cell? ⟨g, pa, none⟩ = _ from (NU.out.ext hW').cell (by omega)).trans (by rw [hvq])) Try.underlying30 rfl) hq0 ?_
          simp only [Act.put, List.setIfInBounds_toArray, List.set_cons_zero, List.set_cons_succ]
          refine takeY (i := 12) (z := 17) (v := (.slice (some ⟨g, 0, none⟩) n cap)) rfl (by kernel_rfl) (by kernel_rfl) (by kernel_rfl) (by kernel_rfl) (fun _ _ _ h => h) (Or.inl ⟨rfl, fun _ _ => rfl⟩) hq0 ?_
          simp only [Act.put, List.setIfInBounds_toArray, List.set_cons_zero, List.set_cons_succ]
          refine takeY (i := 13) (z := 17) (v := (.int .i64 (a : Int))) rfl (by kernel_rfl) (by kernel_rfl) (by kernel_rfl) (by kernel_rfl) (fun _ _ _ h => h) (Or.inl ⟨rfl, fun _ _ => rfl⟩) hq0 ?_
          simp only [Act.put, List.setIfInBounds_toArray, List.set_cons_zero, List.set_cons_succ]
          refine takeY (i := 14) (z := 17) (v := (.pointer (some ⟨g, a, none⟩))) rfl (by kernel_rfl) (by kernel_rfl) (by kernel_rfl) (by kernel_rfl) (fun _ _ _ h => h) (Or.inl ⟨rfl, fun W' _ => by go_simp <;> (intro h; omega)⟩) hq0 ?_
          simp only [Act.put, List.setIfInBounds_toArray, List.set_cons_zero, List.set_cons_succ]
          refine takeZ (i := 15) (z := 17) (v := _) rfl rfl (by kernel_rfl) (by kernel_rfl) (by kernel_rfl) (by kernel_rfl) (by kernel_rfl) (by kernel_rfl) (fun _ _ _ h => h) (yieldsIf_cell rfl 30 _ rfl ⟨g, a, none⟩ rfl (.int .u64 x) _ (fun W' hW' => (show W'.cell? ⟨g, a, none⟩ = _ from (NU.out.ext hW').cell (by omega)).trans (by rw [hvp])) Try.underlying30 rfl) hq0 ?_
          simp only [Act.put, List.setIfInBounds_toArray, List.set_cons_zero, List.set_cons_succ]
          refine takeY (i := 16) (z := 17) (v := (.pointer (some ⟨g, a, none⟩))) rfl (by kernel_rfl) (by kernel_rfl) (by kernel_rfl) (by kernel_rfl) (fun _ _ _ h => h) (Or.inl ⟨rfl, fun W' _ => by go_simp <;> (intro h; omega)⟩) hq0 ?_
          simp only [Act.put, List.setIfInBounds_toArray, List.set_cons_zero, List.set_cons_succ]
          refine runZl (z := 17) rfl rfl (by kernel_rfl) (fun K hK => ?_)
          have hce := (NU.out.ext hq0)
          have hc1 : wd.cell? ⟨g, a, none⟩ = some (.int .u64 (at0 l (a))) := hce.cell (by omega)
          have hf1 := hce.froz (a)
          go_simp
          refine hK.out _ _ ?_
          try simp only [Act.put, List.setIfInBounds_toArray, List.set_cons_zero, List.set_cons_succ]
          clear hK K hc1 hf1
          have hce2 := hce.set (p := a) (by omega) (at0 l (pa))
          rw [hvq] at hce2
          have hq9 := (hq0.mut (fun k => k = g)).setCell (p := ⟨g, a, none⟩) (.inl rfl) (.int .u64 y)
          refine takeL (i := 18) (v := (.pointer (some ⟨g, pa, none⟩))) rfl (by kernel_rfl) (by kernel_rfl) (by kernel_rfl) (fun _ _ _ h => h) (Or.inl ⟨rfl, fun W' _ => by go_simp <;> (intro h; omega)⟩) trivial ?_
          simp only [Act.put, List.setIfInBounds_toArray, List.set_cons_zero, List.set_cons_succ]
          refine runL (i := 19) rfl rfl (by kernel_rfl) (fun K hK => ?_)
          have hc2 : (wd.setCell ⟨g, a, none⟩ (.int .u64 y)).cell? ⟨g, pa, none⟩ = some (.int .u64 (at0 (l.set (a) y) (pa))) := hce2.cell (by simp; omega)
          have hf2 := hce2.froz (pa)
          go_simp
          refine hK.out _ _ trivial (fun _ => ?_)
          try simp only [Act.put, List.setIfInBounds_toArray, List.set_cons_zero, List.set_cons_succ]
          clear hK K hc2 hf2
          refine wpAnyH_done (by kernel_rfl) ?_ _
          have hce3 := hce2.set (p := pa) (by simp; omega) (at0 l (a))
          rw [hvp] at hce3
          have NU3 := Lib.hid (show Nums _ g (swl l (a) (pa)) from by unfold swl; rw [hvp, hvq]; exact hce3)
          have MU3 := Lib.hid (hq9.setCell (p := ⟨g, pa, none⟩) (.inl rfl) (.int .u64 x))
          clear hce hce2 hce3 hq9 hq0 hqx
          generalize (wd.setCell ⟨g, a, none⟩ (.int .u64 y)).setCell ⟨g, pa, none⟩ (.int .u64 x) = wm at *
          have HD3 := Lib.hid (show Go.Sort.heapPop ltI a k (Go.Sort.siftDown ltI k a 0 (swl l a pa).toArray) = D from by
            have := SDH.out
            rw [swl_arr l (by omega) (by omega), ← hpa]
            exact this)
          clear hvp hvq SDH
          go_wp2_with fail
          refine (sift_any wm g n cap (swl l a pa) 0 k a (by omega) (by omega) hn NU3.out (by rw [swl_len]; exact hln)).mono ?_
          rintro e w5 ⟨rfl, l2, hnu2, hln2, hl2, hmu2⟩
          have NU2 := Lib.hid hnu2
          have MU2 := Lib.hid (MU.out.trans (MU3.out.trans hmu2))
          have HD2 := Lib.hid (show Go.Sort.heapPop ltI a k l2.toArray = D from by rw [hl2]; exact HD3.out)
          clear hnu2 hmu2 hl2
          go_wp2_with fail
          go_roundw
          case rel => exact ⟨t', k, l2, rfl, ht', by omega, NU2.out, hln2, HD2.out, MU2.out⟩
          case measure => simp [intOf] <;> omega
        | zero =>
          have dk : decide ((0 : Int) ≤ t) = false := by simp; omega
          go_wp2_with fail
          go_end0
          exact ⟨rfl, l, NU.out, hln, SDH.out, MU.out⟩

end Go.Proofs.Ytheackckmhbodaa
