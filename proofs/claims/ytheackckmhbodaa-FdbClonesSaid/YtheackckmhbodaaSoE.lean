/- The library's sort: insertion, from a to b. No statement is proved here. -/
import Derived.Test.YtheackckmhbodaaSoD
namespace Go.Proofs.Ytheackckmhbodaa
open Go.RowKit Go.BigFrame Go.WideShapes Go.ChangeShapes Go.Deep
set_option linter.unusedVariables false
set_option linter.unusedSimpArgs false
set_option maxRecDepth 100000

theorem ins_stop (a j : Nat) (d : Array Int) (h : ¬ (a < j ∧ ltI d[j]! d[j - 1]! = true)) : Go.Sort.insInner ltI a j d = d := by
  cases j with
  | zero => rfl
  | succ j =>
    rw [Go.Sort.insInner, if_neg]
    intro h2
    rw [Bool.and_eq_true, decide_eq_true_eq] at h2
    exact h h2
theorem ins_go (a j : Nat) (d : Array Int) (h1 : a < j + 1) (h2 : ltI d[j + 1]! d[j]! = true) : Go.Sort.insInner ltI a (j + 1) d = Go.Sort.insInner ltI a j (Go.Sort.swp d (j + 1) j) := by
  rw [Go.Sort.insInner, if_pos]
  rw [Bool.and_eq_true, decide_eq_true_eq]
  exact ⟨h1, h2⟩
theorem ins_out (a b i : Nat) (d : Array Int) (h : i < b) : Go.Sort.insOuter ltI a b i d = Go.Sort.insOuter ltI a b (i + 1) (Go.Sort.insInner ltI a i d) := by
  rw [Go.Sort.insOuter, if_pos h]
theorem ins_end (a b i : Nat) (d : Array Int) (h : ¬ i < b) : Go.Sort.insOuter ltI a b i d = d := by
  rw [Go.Sort.insOuter, if_neg h]
set_option maxRecDepth 100000 in
set_option maxHeartbeats 2000000 in
theorem insr_any (w : World) (g n cap : Nat) (l0 : List Int) (a b : Nat) (hab : a ≤ b) (hb : b ≤ n) (hn : n ≤ 500) (h : Nums w g l0) (hl : l0.length = n) :
    Calls Try.prog 41 #[(.slice (some ⟨g, 0, none⟩) n cap), .int .i64 a, .int .i64 b] w fun e w' => e = .returned (.tuple #[]) ∧ SoP w g n (Go.Sort.insertionSort ltI l0.toArray a b) w' := by
  obtain ⟨a1, ha1⟩ : ∃ a1, a + 1 = a1 := ⟨_, rfl⟩
  have H0 := Lib.hid (show ∃ l : List Int, Nums w g l ∧ l.length = n ∧ Go.Sort.insOuter ltI a b a1 l.toArray = Go.Sort.insertionSort ltI l0.toArray a b ∧ Mut (fun k => k = g) w w from ⟨l0, h, hl, by rw [← ha1]; rfl, Mut.refl _ w⟩)
  generalize Go.Sort.insertionSort ltI l0.toArray a b = D at *
  have hw1 : IntKind.i64.wrap ((a : Int) + 1) = (a1 : Int) := by rw [IntKind.wrap_i64]; omega
  have HA1 := Lib.hid ha1
  clear h hl ha1
  go_enter Try.func41, Try.ntmps41
  go_wp2_with fail
  go_loopw [6] (fun s wr => ∃ (i : Nat) (l : List Int), s = .int .i64 i ∧ a1 ≤ i ∧ i ≤ n + 1 ∧ Nums wr g l ∧ l.length = n ∧ Go.Sort.insOuter ltI a b i l.toArray = D ∧ Mut (fun k => k = g) w wr) (fun s _ => n + 1 - (intOf s).toNat)
  case atStart =>
    obtain ⟨l, q1, q2, q3, q4⟩ := H0.out
    exact ⟨a1, l, rfl, by omega, by have := HA1.out; omega, q1, q2, q3, q4⟩
  case round =>
    clear H0 hw1
    obtain ⟨i, l, rfl, hi1, hi2, hnu, hln, hso, hmu⟩ := hrel
    by_cases hib : i < b
    · have dib : decide ((i : Int) < (b : Int)) = true := by simp; omega
      have H1 := Lib.hid (show ∃ l : List Int, Nums wr g l ∧ l.length = n ∧ Go.Sort.insOuter ltI a b (i + 1) (Go.Sort.insInner ltI a i l.toArray) = D ∧ Mut (fun k => k = g) w wr from ⟨l, hnu, hln, by rw [← ins_out _ _ _ _ hib]; exact hso, hmu⟩)
      clear hnu hln hso hmu
      clear l
      go_wp2_with fail
      go_loopw [7] (fun s wr => ∃ (j : Nat) (l : List Int), s = .int .i64 j ∧ a ≤ j ∧ j ≤ i ∧ Nums wr g l ∧ l.length = n ∧ Go.Sort.insOuter ltI a b (i + 1) (Go.Sort.insInner ltI a j l.toArray) = D ∧ Mut (fun k => k = g) w wr) (fun s _ => (intOf s).toNat)
      case atStart =>
        obtain ⟨l, q1, q2, q3, q4⟩ := H1.out
        exact ⟨i, l, rfl, by have := HA1.out; omega, Nat.le_refl _, q1, q2, q3, q4⟩
      case round =>
        clear H1 dib
        obtain ⟨j, l, rfl, hj1, hj2, hnu, hln, hso, hmu⟩ := hrel
        rename World => wl
        have NU := Lib.hid hnu
        have MU := Lib.hid hmu
        have SO := Lib.hid hso
        clear hnu hmu hso
        have hup : IntKind.i64.wrap ((i : Int) + 1) = ((i + 1 : Nat) : Int) := by rw [IntKind.wrap_i64]; omega
        by_cases haj : a < j
        · have daj : decide ((j : Int) > (a : Int)) = true := by simp; omega
          have daj2 : decide ((a : Int) < (j : Int)) = true := by simp; omega
          obtain ⟨q, hq⟩ : ∃ q, j - 1 = q := ⟨_, rfl⟩
          have HQ := Lib.hid (show j = q + 1 by omega)
          have hqj : q < j := by omega
          have hdn : IntKind.i64.wrap ((j : Int) - 1) = (q : Int) := by rw [IntKind.wrap_i64]; omega
          obtain ⟨x, hvp⟩ : ∃ x, at0 l j = x := ⟨_, rfl⟩
          obtain ⟨y, hvq⟩ : ∃ y, at0 l q = y := ⟨_, rfl⟩
          go_wp2_with fail
          refine beginL (S := fun W' => Ext wl W') (by kernel_rfl) ?_
          intro wd hqx
          have hq0 : Ext wl wd := hqx
          refine takeL (i := 0) (v := (.int .i64 (j : Int))) rfl (by kernel_rfl) (by kernel_rfl) (by kernel_rfl) (fun _ _ _ h => h) (Or.inl ⟨rfl, fun _ _ => rfl⟩) hq0 ?_
          simp only [Act.put, List.setIfInBounds_toArray, List.set_cons_zero, List.set_cons_succ]
          refine takeL (i := 1) (v := (.int .i64 (a : Int))) rfl (by kernel_rfl) (by kernel_rfl) (by kernel_rfl) (fun _ _ _ h => h) (Or.inl ⟨rfl, fun _ _ => rfl⟩) hq0 ?_
          simp only [Act.put, List.setIfInBounds_toArray, List.set_cons_zero, List.set_cons_succ]
          refine takeL (i := 2) (v := (.bool true)) rfl (by kernel_rfl) (by kernel_rfl) (by kernel_rfl) (fun _ _ _ h => h) (Or.inl ⟨rfl, fun W' _ => by go_simp⟩) hq0 ?_
          simp only [Act.put, List.setIfInBounds_toArray, List.set_cons_zero, List.set_cons_succ]
          refine takeL (i := 3) (v := (.bool true)) rfl (by kernel_rfl) (by kernel_rfl) (by kernel_rfl) (fun _ _ _ h => h) (Or.inl ⟨rfl, fun _ _ => rfl⟩) hq0 ?_
          simp only [Act.put, List.setIfInBounds_toArray, List.set_cons_zero, List.set_cons_succ]
          refine takeL (i := 4) (v := (.slice (some ⟨g, 0, none⟩) n cap)) rfl (by kernel_rfl) (by kernel_rfl) (by kernel_rfl) (fun _ _ _ h => h) (Or.inl ⟨rfl, fun _ _ => rfl⟩) hq0 ?_
          simp only [Act.put, List.setIfInBounds_toArray, List.set_cons_zero, List.set_cons_succ]
          refine takeL (i := 5) (v := (.int .i64 (j : Int))) rfl (by kernel_rfl) (by kernel_rfl) (by kernel_rfl) (fun _ _ _ h => h) (Or.inl ⟨rfl, fun _ _ => rfl⟩) hq0 ?_
          simp only [Act.put, List.setIfInBounds_toArray, List.set_cons_zero, List.set_cons_succ]
          refine takeL (i := 6) (v := (.pointer (some ⟨g, j, none⟩))) rfl (by kernel_rfl) (by kernel_rfl) (by kernel_rfl) (fun _ _ _ h => h) (Or.inl ⟨rfl, fun W' _ => by go_simp <;> (intro h; omega)⟩) hq0 ?_
          simp only [Act.put, List.setIfInBounds_toArray, List.set_cons_zero, List.set_cons_succ]
          refine takeL (i := 7) (v := _) rfl (by kernel_rfl) (by kernel_rfl) (by kernel_rfl) (fun _ _ _ h => h) (yieldsIf_cell rfl 30 _ rfl ⟨g, j, none⟩ rfl (.int .u64 x) _ (fun W' hW' => (show W'.cell? ⟨g, j, none⟩ = _ from (NU.out.ext hW').cell (by omega)).trans (by rw [hvp])) Try.underlying30 rfl) hq0 ?_
          simp only [Act.put, List.setIfInBounds_toArray, List.set_cons_zero, List.set_cons_succ]
          refine takeL (i := 8) (v := (.slice (some ⟨g, 0, none⟩) n cap)) rfl (by kernel_rfl) (by kernel_rfl) (by kernel_rfl) (fun _ _ _ h => h) (Or.inl ⟨rfl, fun _ _ => rfl⟩) hq0 ?_
          simp only [Act.put, List.setIfInBounds_toArray, List.set_cons_zero, List.set_cons_succ]
          refine takeL (i := 9) (v := (.int .i64 (j : Int))) rfl (by kernel_rfl) (by kernel_rfl) (by kernel_rfl) (fun _ _ _ h => h) (Or.inl ⟨rfl, fun _ _ => rfl⟩) hq0 ?_
          simp only [Act.put, List.setIfInBounds_toArray, List.set_cons_zero, List.set_cons_succ]
          refine takeL (i := 10) (v := (.int .i64 (q : Int))) rfl (by kernel_rfl) (by kernel_rfl) (by kernel_rfl) (fun _ _ _ h => h) (Or.inl ⟨rfl, fun W' _ => by go_simp <;> (rw [IntKind.wrap_i64]; omega)⟩) hq0 ?_
          simp only [Act.put, List.setIfInBounds_toArray, List.set_cons_zero, List.set_cons_succ]
          refine takeL (i := 11) (v := (.pointer (some ⟨g, q, none⟩))) rfl (by kernel_rfl) (by kernel_rfl) (by kernel_rfl) (fun _ _ _ h => h) (Or.inl ⟨rfl, fun W' _ => by go_simp <;> (intro h; omega)⟩) hq0 ?_
          simp only [Act.put, List.setIfInBounds_toArray, List.set_cons_zero, List.set_cons_succ]
          refine takeL (i := 12) (v := _) rfl (by kernel_rfl) (by kernel_rfl) (by kernel_rfl) (fun _ _ _ h => h) (yieldsIf_cell rfl 30 _ rfl ⟨g, q, none⟩ rfl (.int .u64 y) _ (fun W' hW' => (show W'.cell? ⟨g, q, none⟩ = _ from (NU.out.ext hW').cell (by omega)).trans (by rw [hvq])) Try.underlying30 rfl) hq0 ?_
          simp only [Act.put, List.setIfInBounds_toArray, List.set_cons_zero, List.set_cons_succ]
          refine runG (i := 13) rfl (by rfl) (by kernel_rfl) (fun K hK => ?_)
          go_simp
          refine (less_ext x y _).mono ?_
          rintro e wc1 ⟨rfl, hx⟩
          have hq1 := hq0.trans hx
          refine hK.out _ _ hq1 (fun hHeld => ?_)
          try simp only [Act.put, List.setIfInBounds_toArray, List.set_cons_zero, List.set_cons_succ]
          clear hK K hHeld
          refine takeL (i := 14) (v := (.bool (decide (x < y)))) rfl (by kernel_rfl) (by kernel_rfl) (by kernel_rfl) (fun _ _ _ h => h) (Or.inl ⟨rfl, fun _ _ => rfl⟩) hq1 ?_
          simp only [Act.put, List.setIfInBounds_toArray, List.set_cons_zero, List.set_cons_succ]
          refine wpAnyH_done (by kernel_rfl) ?_ _
          have NU2 := Lib.hid (NU.out.ext hq1)
          have MU2 := Lib.hid (MU.out.trans (hq1.mut (fun k => k = g)))
          clear hq0 hqx hq1
          generalize hwn0 : wc1 = w5 at *
          have HL := Lib.hid (show ltI l.toArray[j]! l.toArray[q]! = decide (x < y) from by
            rw [arr_at l (by omega), arr_at l (by omega), hvp, hvq]
            rfl)
          clear hq
          obtain ⟨dx, hdx⟩ : ∃ dx, decide (x < y) = dx := ⟨_, rfl⟩
          rw [hdx] at HL ⊢
          clear hdx
          cases dx with
          | false =>
            have SO2 := Lib.hid (show Go.Sort.insOuter ltI a b (i + 1) l.toArray = D from by
              rw [← SO.out, ins_stop a j]
              rintro ⟨-, h2⟩
              have h3 := HL.out
              rw [show j - 1 = q from by have := HQ.out; omega, h3] at h2
              cases h2)
            clear SO
            go_wp2_with fail
            go_roundw
            case rel => exact ⟨i + 1, l, rfl, by omega, by omega, NU2.out, hln, SO2.out, MU2.out⟩
            case measure => simp [intOf] <;> omega
          | true =>
            have SO2 := Lib.hid (show Go.Sort.insOuter ltI a b (i + 1) (Go.Sort.insInner ltI a q (swl l j q).toArray) = D from by
              have h0 := SO.out
              have h3 := HL.out
              rw [swl_arr l (by omega) (by omega)]
              obtain rfl := HQ.out
              rw [ins_go a q _ haj h3] at h0
              exact h0)
            clear SO
            go_wp2_with fail
            refine beginZ (S := fun W' => Ext w5 W') 15 (by kernel_rfl) ?_
            intro wd hqx
            have hq0 : Ext w5 wd := hqx
            refine takeY (i := 0) (z := 15) (v := (.slice (some ⟨g, 0, none⟩) n cap)) rfl (by kernel_rfl) (by kernel_rfl) (by kernel_rfl) (by kernel_rfl) (fun _ _ _ h => h) (Or.inl ⟨rfl, fun _ _ => rfl⟩) hq0 ?_
            simp only [Act.put, List.setIfInBounds_toArray, List.set_cons_zero, List.set_cons_succ]
            refine takeY (i := 1) (z := 15) (v := (.int .i64 (j : Int))) rfl (by kernel_rfl) (by kernel_rfl) (by kernel_rfl) (by kernel_rfl) (fun _ _ _ h => h) (Or.inl ⟨rfl, fun _ _ => rfl⟩) hq0 ?_
            simp only [Act.put, List.setIfInBounds_toArray, List.set_cons_zero, List.set_cons_succ]
            refine takeY (i := 2) (z := 15) (v := (.slice (some ⟨g, 0, none⟩) n cap)) rfl (by kernel_rfl) (by kernel_rfl) (by kernel_rfl) (by kernel_rfl) (fun _ _ _ h => h) (Or.inl ⟨rfl, fun _ _ => rfl⟩) hq0 ?_
            simp only [Act.put, List.setIfInBounds_toArray, List.set_cons_zero, List.set_cons_succ]
            refine takeY (i := 3) (z := 15) (v := (.int .i64 (j : Int))) rfl (by kernel_rfl) (by kernel_rfl) (by kernel_rfl) (by kernel_rfl) (fun _ _ _ h => h) (Or.inl ⟨rfl, fun _ _ => rfl⟩) hq0 ?_
            simp only [Act.put, List.setIfInBounds_toArray, List.set_cons_zero, List.set_cons_succ]
            refine takeY (i := 4) (z := 15) (v := (.int .i64 (q : Int))) rfl (by kernel_rfl) (by kernel_rfl) (by kernel_rfl) (by kernel_rfl) (fun _ _ _ h => h) (Or.inl ⟨rfl, fun W' _ => by go_simp <;> (rw [IntKind.wrap_i64]; omega)⟩) hq0 ?_
            simp only [Act.put, List.setIfInBounds_toArray, List.set_cons_zero, List.set_cons_succ]
            refine takeY (i := 5) (z := 15) (v := (.slice (some ⟨g, 0, none⟩) n cap)) rfl (by kernel_rfl) (by kernel_rfl) (by kernel_rfl) (by kernel_rfl) (fun _ _ _ h => h) (Or.inl ⟨rfl, fun _ _ => rfl⟩) hq0 ?_
            simp only [Act.put, List.setIfInBounds_toArray, List.set_cons_zero, List.set_cons_succ]
            refine takeY (i := 6) (z := 15) (v := (.int .i64 (j : Int))) rfl (by kernel_rfl) (by kernel_rfl) (by kernel_rfl) (by kernel_rfl) (fun _ _ _ h => h) (Or.inl ⟨rfl, fun _ _ => rfl⟩) hq0 ?_
            simp only [Act.put, List.setIfInBounds_toArray, List.set_cons_zero, List.set_cons_succ]
            refine takeY (i := 7) (z := 15) (v := (.int .i64 (q : Int))) rfl (by kernel_rfl) (by kernel_rfl) (by kernel_rfl) (by kernel_rfl) (fun _ _ _ h => h) (Or.inl ⟨rfl, fun W' _ => by go_simp <;> (rw [IntKind.wrap_i64]; omega)⟩) hq0 ?_
            simp only [Act.put, List.setIfInBounds_toArray, List.set_cons_zero, List.set_cons_succ]
            refine takeY (i := 8) (z := 15) (v := (.pointer (some ⟨g, q, none⟩))) rfl (by kernel_rfl) (by kernel_rfl) (by kernel_rfl) (by kernel_rfl) (fun _ _ _ h => h) (Or.inl ⟨rfl, fun W' _ => by go_simp <;> (intro h; omega)⟩) hq0 ?_
            simp only [Act.put, List.setIfInBounds_toArray, List.set_cons_zero, List.set_cons_succ]
            refine takeZ (i := 9) (z := 15) (v := _) rfl rfl (by kernel_rfl) (by kernel_rfl) (by kernel_rfl) (by kernel_rfl) (by kernel_rfl) (by kernel_rfl) (fun _ _ _ h => h) (yieldsIf_cell rfl 30 _ rfl ⟨g, q, none⟩ rfl (.int .u64 y) _ (fun W' hW' => (show W'.cell? ⟨g, q, none⟩ = _ from (NU2.out.ext hW').cell (by omega)).trans (by rw [hvq])) Try.underlying30 rfl) hq0 ?_
            simp only [Act.put, List.setIfInBounds_toArray, List.set_cons_zero, List.set_cons_succ]
            refine takeY (i := 10) (z := 15) (v := (.slice (some ⟨g, 0, none⟩) n cap)) rfl (by kernel_rfl) (by kernel_rfl) (by kernel_rfl) (by kernel_rfl) (fun _ _ _ h => h) (Or.inl ⟨rfl, fun _ _ => rfl⟩) hq0 ?_
            simp only [Act.put, List.setIfInBounds_toArray, List.set_cons_zero, List.set_cons_succ]
            refine takeY (i := 11) (z := 15) (v := (.int .i64 (j : Int))) rfl (by kernel_rfl) (by kernel_rfl) (by kernel_rfl) (by kernel_rfl) (fun _ _ _ h => h) (Or.inl ⟨rfl, fun _ _ => rfl⟩) hq0 ?_
            simp only [Act.put, List.setIfInBounds_toArray, List.set_cons_zero, List.set_cons_succ]
            refine takeY (i := 12) (z := 15) (v := (.pointer (some ⟨g, j, none⟩))) rfl (by kernel_rfl) (by kernel_rfl) (by kernel_rfl) (by kernel_rfl) (fun _ _ _ h => h) (Or.inl ⟨rfl, fun W' _ => by go_simp <;> (intro h; omega)⟩) hq0 ?_
            simp only [Act.put, List.setIfInBounds_toArray, List.set_cons_zero, List.set_cons_succ]
            refine takeZ (i := 13) (z := 15) (v := _) rfl rfl (by kernel_rfl) (by kernel_rfl) (by kernel_rfl) (by kernel_rfl) (by kernel_rfl) (by kernel_rfl) (fun _ _ _ h => h) (yieldsIf_cell rfl 30 _ rfl ⟨g, j, none⟩ rfl (.int .u64 x) _ (fun W' hW' => (show W'.cell? ⟨g, j, none⟩ = _ from (NU2.out.ext hW').cell (by omega)).trans (by rw [hvp])) Try.underlying30 rfl) hq0 ?_
            simp only [Act.put, List.setIfInBounds_toArray, List.set_cons_zero, List.set_cons_succ]
            refine takeY (i := 14) (z := 15) (v := (.pointer (some ⟨g, j, none⟩))) rfl (by kernel_rfl) (by kernel_rfl) (by kernel_rfl) (by kernel_rfl) (fun _ _ _ h => h) (Or.inl ⟨rfl, fun W' _ => by go_simp <;> (intro h; omega)⟩) hq0 ?_
            simp only [Act.put, List.setIfInBounds_toArray, List.set_cons_zero, List.set_cons_succ]
            refine runZl (z := 15) rfl rfl (by kernel_rfl) (fun K hK => ?_)
            have hce := (NU2.out.ext hq0)
            have hc1 : wd.cell? ⟨g, j, none⟩ = some (.int .u64 (at0 l (j))) := hce.cell (by omega)
            have hf1 := hce.froz (j)
            go_simp
            refine hK.out _ _ ?_
            try simp only [Act.put, List.setIfInBounds_toArray, List.set_cons_zero, List.set_cons_succ]
            clear hK K hc1 hf1
            have hce2 := hce.set (p := j) (by omega) (at0 l (q))
            rw [hvq] at hce2
            have hq9 := (hq0.mut (fun k => k = g)).setCell (p := ⟨g, j, none⟩) (.inl rfl) (.int .u64 y)
            refine takeL (i := 16) (v := (.pointer (some ⟨g, q, none⟩))) rfl (by kernel_rfl) (by kernel_rfl) (by kernel_rfl) (fun _ _ _ h => h) (Or.inl ⟨rfl, fun W' _ => by go_simp <;> (intro h; omega)⟩) trivial ?_
            simp only [Act.put, List.setIfInBounds_toArray, List.set_cons_zero, List.set_cons_succ]
            refine runL (i := 17) rfl rfl (by kernel_rfl) (fun K hK => ?_)
            have hc2 : (wd.setCell ⟨g, j, none⟩ (.int .u64 y)).cell? ⟨g, q, none⟩ = some (.int .u64 (at0 (l.set (j) y) (q))) := hce2.cell (by simp; omega)
            have hf2 := hce2.froz (q)
            go_simp
            refine hK.out _ _ trivial (fun _ => ?_)
            try simp only [Act.put, List.setIfInBounds_toArray, List.set_cons_zero, List.set_cons_succ]
            clear hK K hc2 hf2
            refine wpAnyH_done (by kernel_rfl) ?_ _
            have hce3 := hce2.set (p := q) (by simp; omega) (at0 l (j))
            rw [hvp] at hce3
            have NU3 := Lib.hid (show Nums _ g (swl l (j) (q)) from by unfold swl; rw [hvp, hvq]; exact hce3)
            have MU3 := Lib.hid (hq9.setCell (p := ⟨g, q, none⟩) (.inl rfl) (.int .u64 x))
            clear hce hce2 hce3 hq9 hq0 hqx
            generalize (wd.setCell ⟨g, j, none⟩ (.int .u64 y)).setCell ⟨g, q, none⟩ (.int .u64 x) = wm at *
            go_wp2_with fail
            go_roundw
            case rel => exact ⟨q, swl l j q, rfl, by have := HQ.out; omega, by omega, NU3.out, by rw [swl_len]; exact hln, SO2.out, MU2.out.trans MU3.out⟩
            case measure => simp [intOf] <;> omega
        · have daj : decide ((j : Int) > (a : Int)) = false := by simp; omega
          have daj2 : decide ((a : Int) < (j : Int)) = false := by simp; omega
          have SO2 := Lib.hid (show Go.Sort.insOuter ltI a b (i + 1) l.toArray = D from by
            rw [← SO.out, ins_stop a j]
            rintro ⟨h2, -⟩
            exact haj h2)
          clear SO
          go_wp2_with fail
          refine beginL (S := fun W' => Ext wl W') (by kernel_rfl) ?_
          intro wd hqx
          have hq0 : Ext wl wd := hqx
          refine takeL (i := 0) (v := (.int .i64 (j : Int))) rfl (by kernel_rfl) (by kernel_rfl) (by kernel_rfl) (fun _ _ _ h => h) (Or.inl ⟨rfl, fun _ _ => rfl⟩) hq0 ?_
          simp only [Act.put, List.setIfInBounds_toArray, List.set_cons_zero, List.set_cons_succ]
          refine takeL (i := 1) (v := (.int .i64 (a : Int))) rfl (by kernel_rfl) (by kernel_rfl) (by kernel_rfl) (fun _ _ _ h => h) (Or.inl ⟨rfl, fun _ _ => rfl⟩) hq0 ?_
          simp only [Act.put, List.setIfInBounds_toArray, List.set_cons_zero, List.set_cons_succ]
          refine takeL (i := 2) (v := (.bool false)) rfl (by kernel_rfl) (by kernel_rfl) (by kernel_rfl) (fun _ _ _ h => h) (Or.inl ⟨rfl, fun W' _ => by go_simp⟩) hq0 ?_
          simp only [Act.put, List.setIfInBounds_toArray, List.set_cons_zero, List.set_cons_succ]
          refine takeL (i := 3) (v := (.bool false)) rfl (by kernel_rfl) (by kernel_rfl) (by kernel_rfl) (fun _ _ _ h => h) (Or.inl ⟨rfl, fun _ _ => rfl⟩) hq0 ?_
          simp only [Act.put, List.setIfInBounds_toArray, List.set_cons_zero, List.set_cons_succ]
          refine takeL (i := 4) (v := undef) rfl (by kernel_rfl) (by kernel_rfl) (by kernel_rfl) (fun _ _ _ h => h) (Or.inr ⟨rfl, rfl⟩) hq0 ?_
          simp only [Act.put, List.setIfInBounds_toArray, List.set_cons_zero, List.set_cons_succ]
          refine takeL (i := 5) (v := undef) rfl (by kernel_rfl) (by kernel_rfl) (by kernel_rfl) (fun _ _ _ h => h) (Or.inr ⟨rfl, rfl⟩) hq0 ?_
          simp only [Act.put, List.setIfInBounds_toArray, List.set_cons_zero, List.set_cons_succ]
          refine takeL (i := 6) (v := undef) rfl (by kernel_rfl) (by kernel_rfl) (by kernel_rfl) (fun _ _ _ h => h) (Or.inr ⟨rfl, rfl⟩) hq0 ?_
          simp only [Act.put, List.setIfInBounds_toArray, List.set_cons_zero, List.set_cons_succ]
          refine takeL (i := 7) (v := undef) rfl (by kernel_rfl) (by kernel_rfl) (by kernel_rfl) (fun _ _ _ h => h) (Or.inr ⟨rfl, rfl⟩) hq0 ?_
          simp only [Act.put, List.setIfInBounds_toArray, List.set_cons_zero, List.set_cons_succ]
          refine takeL (i := 8) (v := undef) rfl (by kernel_rfl) (by kernel_rfl) (by kernel_rfl) (fun _ _ _ h => h) (Or.inr ⟨rfl, rfl⟩) hq0 ?_
          simp only [Act.put, List.setIfInBounds_toArray, List.set_cons_zero, List.set_cons_succ]
          refine takeL (i := 9) (v := undef) rfl (by kernel_rfl) (by kernel_rfl) (by kernel_rfl) (fun _ _ _ h => h) (Or.inr ⟨rfl, rfl⟩) hq0 ?_
          simp only [Act.put, List.setIfInBounds_toArray, List.set_cons_zero, List.set_cons_succ]
          refine takeL (i := 10) (v := undef) rfl (by kernel_rfl) (by kernel_rfl) (by kernel_rfl) (fun _ _ _ h => h) (Or.inr ⟨rfl, rfl⟩) hq0 ?_
          simp only [Act.put, List.setIfInBounds_toArray, List.set_cons_zero, List.set_cons_succ]
          refine takeL (i := 11) (v := undef) rfl (by kernel_rfl) (by kernel_rfl) (by kernel_rfl) (fun _ _ _ h => h) (Or.inr ⟨rfl, rfl⟩) hq0 ?_
          simp only [Act.put, List.setIfInBounds_toArray, List.set_cons_zero, List.set_cons_succ]
          refine takeL (i := 12) (v := undef) rfl (by kernel_rfl) (by kernel_rfl) (by kernel_rfl) (fun _ _ _ h => h) (Or.inr ⟨rfl, rfl⟩) hq0 ?_
          simp only [Act.put, List.setIfInBounds_toArray, List.set_cons_zero, List.set_cons_succ]
          refine takeL (i := 13) (v := undef) rfl (by kernel_rfl) (by kernel_rfl) (by kernel_rfl) (fun _ _ _ h => h) (Or.inr ⟨rfl, rfl⟩) hq0 ?_
          simp only [Act.put, List.setIfInBounds_toArray, List.set_cons_zero, List.set_cons_succ]
          refine takeL (i := 14) (v := (.bool false)) rfl (by kernel_rfl) (by kernel_rfl) (by kernel_rfl) (fun _ _ _ h => h) (Or.inl ⟨rfl, fun _ _ => rfl⟩) hq0 ?_
          simp only [Act.put, List.setIfInBounds_toArray, List.set_cons_zero, List.set_cons_succ]
          refine wpAnyH_done (by kernel_rfl) ?_ _
          have NU2 := Lib.hid (NU.out.ext hq0)
          have MU2 := Lib.hid (MU.out.trans (hq0.mut (fun k => k = g)))
          clear hq0 hqx
          generalize hwn0 : wd = w5 at *
          go_wp2_with fail
          go_roundw
          case rel => exact ⟨i + 1, l, rfl, by omega, by omega, NU2.out, hln, SO2.out, MU2.out⟩
          case measure => simp [intOf] <;> omega
    · have dib : decide ((i : Int) < (b : Int)) = false := by simp; omega
      have HD := Lib.hid (show l.toArray = D from by rw [← hso, ins_end _ _ _ _ hib])
      have NU := Lib.hid hnu
      have MU := Lib.hid hmu
      clear hnu hso hmu
      go_wp2_with fail
      go_end0
      exact ⟨rfl, l, NU.out, hln, HD.out, MU.out⟩

end Go.Proofs.Ytheackckmhbodaa
