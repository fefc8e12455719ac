/- The walk of FdbPlays. No statement is proved here. -/
import Derived.Test.YtheackckmhbodaaFdP
namespace Go.Proofs.Ytheackckmhbodaa
open Go.RowKit Go.BigFrame Go.WideShapes Go.ChangeShapes Go.Deep
set_option linter.unusedVariables false
set_option linter.unusedSimpArgs false

theorem bfdb (a b : Int) : Try.prog.built 29 [(0, .int .i64 a), (1, .int .i64 b)] = some #[.int .i64 a, .int .i64 b, .slice none 0 0] := by kernel_rfl
theorem dw_new {w : World} {F : Nat → Prop} {wb : Nat} {most age : Int} (h : w.heap[wb]? = some (.cells #[.int .i64 most, .int .i64 age, .slice none 0 0] 29 (0, 0))) (hF : ¬ F wb) : Dw w F wb [] most age := ⟨none, 0, h, by simp, hF, fun h0 => by simp at h0⟩
set_option maxRecDepth 100000 in
set_option maxHeartbeats 4000000 in
theorem law_FdbPlays {w : World} (a : Int) (ha : 0 ≤ a ∧ a < 256) (b : Int) (hb : 0 ≤ b ∧ b < 256) (v : Value) (L : List Ac) (h : ActsAt w v L ∧ ∀ h ∈ L, h.wf) :
    Calls Try.prog 3 #[.int .u8 a, .int .u8 b, v] w fun e w' => e = .returned (.bool true) ∧ Ext w w' := by
  obtain ⟨hacts, hwf⟩ := h
  obtain ⟨av, cap, rfl, hm, hf⟩ := hacts
  obtain ⟨n, hn⟩ : ∃ n : Nat, 1 + a % 8 = (n : Int) := ⟨(1 + a % 8).toNat, by omega⟩
  have hn2 : 1 ≤ n ∧ n ≤ 8 := by omega
  obtain ⟨A, hA⟩ : ∃ A : Int, 1 + b = A := ⟨_, rfl⟩
  have hA2 : 1 ≤ A ∧ A ≤ 256 := by omega
  have HF := Lib.hid hf
  have HWF := Lib.hid hwf
  have ha0 := ha.1
  have hb0 := hb.1
  clear hf hwf
  go_enter Try.func3, Try.ntmps3
  go_wp2_with fail
  refine (awake07 _).mono ?_
  rintro e w1 ⟨rfl, h1⟩
  have E1 := Lib.hid h1
  clear h1
  by_cases hl : 60 < L.length
  · have d0 : decide (60 < (L.length : Int)) = true := by simp; omega
    go_wp2_with fail
    go_ret
    exact ⟨rfl, E1.out⟩
  have d0 : decide (60 < (L.length : Int)) = false := by simp; omega
  go_wp2_with fail
  refine (new_x w1 n A (by omega) w E1.out).mono ?_
  rintro e w2 ⟨f, rfl, h2⟩
  have H2 := Lib.hid h2
  clear h2
  have BF := bfdb n A
  go_wp2_with fail
  have hrw := heap_alloc_new w2 (.cells #[.int .i64 (n : Int), .int .i64 A, .slice none 0 0] 29)
  have hxw : Ext w2 (w2.alloc (.cells #[.int .i64 (n : Int), .int .i64 A, .slice none 0 0] 29)) := (Ext.refl w2).alloc _
  obtain ⟨db, hdb⟩ : ∃ k, w2.heap.size = k := ⟨_, rfl⟩
  rw [hdb] at hrw ⊢
  generalize w2.alloc (.cells #[.int .i64 (n : Int), .int .i64 A, .slice none 0 0] 29) = w3 at *
  have H3 := Lib.hid (show FD w w3 f db [] [] n A from by
    obtain ⟨⟨F, q1, q2⟩, q3⟩ := H2.out
    exact ⟨F, q1.ext hxw, q2, dw_new hrw (fun hc => by have := q1.lt db hc; omega), by have := q3.size; omega, q3.trans hxw⟩)
  clear H2 hrw hxw BF
  go_loopw [10] (fun s wr => ∃ i : Nat, i ≤ L.length ∧ s = .int .i64 i ∧ ∃ M, Ok A M ∧ (M.length : Int) ≤ n ∧ FD w wr f db M M n A) (fun s _ => L.length - (intOf s).toNat)
  case atStart => exact ⟨0, by omega, rfl, [], nil_ok A, by simp, H3.out⟩
  case round =>
    clear H3 hdb
    obtain ⟨i, hi, rfl, M, hM, hMl, hfx⟩ := hrel
    rename World => wr
    have HM := Lib.hid hM
    have HX := Lib.hid hfx
    clear hM hfx
    by_cases hlt : i < L.length
    · have dlt : decide ((i : Int) < (L.length : Int)) = true := by simp; omega
      obtain ⟨bb, off, rfl, hbl, hlc, hcm, hrg⟩ := HF.out (by omega)
      obtain ⟨x, hx⟩ : ∃ x, L[i] = x := ⟨_, rfl⟩
      have hxL : L[i]? = some x := by rw [List.getElem?_eq_getElem hlt, hx]
      have hxw := HWF.out x (hx ▸ List.getElem_mem hlt)
      have hr0 : w.rangeAt bb (off + i * 4) x.L := by
        have := flatA_at L i x hxL
        intro j u hu
        have hj : j < 4 := (List.getElem?_eq_some_iff.1 hu).1
        have := hrg (i * 4 + j) u (by rw [← this, List.getElem?_take_of_lt hj, List.getElem?_drop] at hu; exact hu)
        rw [show off + i * 4 + j = off + (i * 4 + j) by omega]
        exact this
      have hr1 := Lib.hid (rangeAt_ext hr0 HX.out.ext hbl)
      clear hrg hr0
      obtain ⟨hxk, hxm, hxp, hxs⟩ := hxw
      by_cases k0 : x.k = 0
      · have dk0 : (x.k == 0) = true := by simpa using k0
        clear k0
        obtain ⟨m, hm⟩ : ∃ m, x.m % 281474976710656 = m := ⟨_, rfl⟩
        by_cases hbad : m = 0 ∨ m / 1099511627776 % 2 = 1 ∨ x.p < 0
        · have HB := Lib.hid (show x.m % 281474976710656 = 0 ∨ x.m % 281474976710656 / 1099511627776 % 2 = 1 ∨ x.p < 0 by rw [hm]; exact hbad)
          clear hbad hm
          go_wp2_with (first
            | fail
            | ((with_reducible refine at_load 32 ?_); refine wpList_load_mid rfl 32 _ rfl bb (off + i * 4) rfl x.L _ hr1.out Try.underlying32 rfl size_act ?_)
            | ((with_reducible refine at_alloc 32 ?_); refine al_zero rfl 32 rfl AZ zero_act ?_
               intro X wq hq hs hx)
            | ((with_reducible refine at_store 32 ?_); refine st_at rfl rfl 32 _ _ rfl X 0 _ x.L.toArray AZ x.L.toArray 32 rfl rfl rfl hq (by exact (by decide : 0 + 4 ≤ 4)) (by kernel_rfl) rfl rfl ?_
               intro wb hq' hm'
               have hX : wr.heap.size ≤ X := by omega
               have EB : Ext wr wb := hx.mutE hm' (fun n hn h => by have h2 : n = X := h; omega)
               have HP := Lib.hid (HX.out.box EB hX hq')
               have c0 : wb.cell? ⟨X, 0, none⟩ = some (.int .i64 x.k) := by rw [cell_row hq']; rfl
               have c1 : wb.cell? ⟨X, 1, none⟩ = some (.int .u64 x.m) := by rw [cell_row hq']; rfl
               have c2 : wb.cell? ⟨X, 2, none⟩ = some (.int .i64 x.p) := by rw [cell_row hq']; rfl
               have c3 : wb.cell? ⟨X, 3, none⟩ = some (.int .i64 x.s) := by rw [cell_row hq']; rfl
               clear hx hm' hq hs hq' EB wq))
          refine beginL (S := fun W' => W'.heap[X]? = some (.cells x.L.toArray 32 (0, 0))) (by kernel_rfl) ?_
          intro wd hqx
          have hq0 : wd.heap[X]? = some (.cells x.L.toArray 32 (0, 0)) := (hqx.block X (heap_lt HP.out.row)).trans HP.out.row
          have HPD := Lib.hid (HP.out.grow hqx)
          clear hqx
          refine takeL (i := 0) (v := (.pointer (some ⟨f, 0, none⟩))) rfl (by kernel_rfl) (by kernel_rfl) (by kernel_rfl) (fun _ _ _ h => h) (Or.inl ⟨rfl, fun _ _ => rfl⟩) hq0 ?_
          simp only [Act.put, List.setIfInBounds_toArray, List.set_cons_zero, List.set_cons_succ]
          refine takeL (i := 1) (v := (.pointer (some ⟨X, 1, none⟩))) rfl (by kernel_rfl) (by kernel_rfl) (by kernel_rfl) (fun _ _ _ h => h) (Or.inl ⟨rfl, fun _ _ => rfl⟩) hq0 ?_
          simp only [Act.put, List.setIfInBounds_toArray, List.set_cons_zero, List.set_cons_succ]
          refine takeL (i := 2) (v := _) rfl (by kernel_rfl) (by kernel_rfl) (by kernel_rfl) (fun _ _ _ h => h) (yieldsIf_cell rfl 30 _ rfl ⟨X, 1, none⟩ rfl (.int .u64 x.m) _ (fun W' hW' => (cell_of_row _ _ _ _ _ _ hW').trans rfl) Try.underlying30 rfl) hq0 ?_
          simp only [Act.put, List.setIfInBounds_toArray, List.set_cons_zero, List.set_cons_succ]
          refine takeL (i := 3) (v := (.pointer (some ⟨X, 2, none⟩))) rfl (by kernel_rfl) (by kernel_rfl) (by kernel_rfl) (fun _ _ _ h => h) (Or.inl ⟨rfl, fun _ _ => rfl⟩) hq0 ?_
          simp only [Act.put, List.setIfInBounds_toArray, List.set_cons_zero, List.set_cons_succ]
          refine takeL (i := 4) (v := _) rfl (by kernel_rfl) (by kernel_rfl) (by kernel_rfl) (fun _ _ _ h => h) (yieldsIf_cell rfl 3 _ rfl ⟨X, 2, none⟩ rfl (.int .i64 x.p) _ (fun W' hW' => (cell_of_row _ _ _ _ _ _ hW').trans rfl) Try.underlying3 rfl) hq0 ?_
          simp only [Act.put, List.setIfInBounds_toArray, List.set_cons_zero, List.set_cons_succ]
          refine takeL (i := 6) (v := (.pointer (some ⟨db, 0, none⟩))) rfl (by kernel_rfl) (by kernel_rfl) (by kernel_rfl) (fun _ _ _ h => h) (Or.inl ⟨rfl, fun _ _ => rfl⟩) hq0 ?_
          simp only [Act.put, List.setIfInBounds_toArray, List.set_cons_zero, List.set_cons_succ]
          refine takeL (i := 7) (v := (.pointer (some ⟨X, 1, none⟩))) rfl (by kernel_rfl) (by kernel_rfl) (by kernel_rfl) (fun _ _ _ h => h) (Or.inl ⟨rfl, fun _ _ => rfl⟩) hq0 ?_
          simp only [Act.put, List.setIfInBounds_toArray, List.set_cons_zero, List.set_cons_succ]
          refine takeL (i := 8) (v := _) rfl (by kernel_rfl) (by kernel_rfl) (by kernel_rfl) (fun _ _ _ h => h) (yieldsIf_cell rfl 30 _ rfl ⟨X, 1, none⟩ rfl (.int .u64 x.m) _ (fun W' hW' => (cell_of_row _ _ _ _ _ _ hW').trans rfl) Try.underlying30 rfl) hq0 ?_
          simp only [Act.put, List.setIfInBounds_toArray, List.set_cons_zero, List.set_cons_succ]
          refine takeL (i := 9) (v := (.pointer (some ⟨X, 2, none⟩))) rfl (by kernel_rfl) (by kernel_rfl) (by kernel_rfl) (fun _ _ _ h => h) (Or.inl ⟨rfl, fun _ _ => rfl⟩) hq0 ?_
          simp only [Act.put, List.setIfInBounds_toArray, List.set_cons_zero, List.set_cons_succ]
          refine takeL (i := 10) (v := _) rfl (by kernel_rfl) (by kernel_rfl) (by kernel_rfl) (fun _ _ _ h => h) (yieldsIf_cell rfl 3 _ rfl ⟨X, 2, none⟩ rfl (.int .i64 x.p) _ (fun W' hW' => (cell_of_row _ _ _ _ _ _ hW').trans rfl) Try.underlying3 rfl) hq0 ?_
          simp only [Act.put, List.setIfInBounds_toArray, List.set_cons_zero, List.set_cons_succ]
          refine runL (i := 5) rfl rfl (by kernel_rfl) (fun K hK => ?_)
          go_simp
          refine (p_learn_bad w wd f db X _ M M n A HPD.out x.m x.p (by omega) HB.out).mono ?_
          rintro e wc1 ⟨rfl, hpd, hrw⟩
          have hq1 := (fun (_ : _) => hrw) hq0
          have HPE := Lib.hid hpd
          clear hpd
          refine hK.out _ _ hq1 (fun hHeld => ?_)
          try simp only [Act.put, List.setIfInBounds_toArray, List.set_cons_zero, List.set_cons_succ]
          clear hK K hHeld
          refine runL (i := 11) rfl rfl (by kernel_rfl) (fun K hK => ?_)
          go_simp
          refine (q_learn_bad w wc1 f db X _ M M n A HPE.out x.m x.p (by omega) HB.out).mono ?_
          rintro e wc2 ⟨rfl, hpd, hrw2⟩
          have hq2 := (fun (_ : _) => hrw2) hq1
          have HPZ := Lib.hid hpd
          clear hpd
          refine hK.out _ _ hq2 (fun hHeld => ?_)
          try simp only [Act.put, List.setIfInBounds_toArray, List.set_cons_zero, List.set_cons_succ]
          clear hK K hHeld
          refine takeL (i := 12) (v := (.bool false)) rfl (by kernel_rfl) (by kernel_rfl) (by kernel_rfl) (fun _ _ _ h => h) (Or.inl ⟨rfl, fun W' _ => by go_simp⟩) hq2 ?_
          simp only [Act.put, List.setIfInBounds_toArray, List.set_cons_zero, List.set_cons_succ]
          refine wpAnyH_done (by kernel_rfl) ?_ _
          have HM2 := HM
          have HML2 := Lib.hid hMl
          clear hq0 hq1 hq2 hrw hrw2 c0 c1 c2 c3
          have HFE := Lib.hid HPZ.out.fd
          go_wp2_with fail
          obtain ⟨u, hu, hcu⟩ : ∃ u, EntsAt wc2 u M ∧ ∀ w', Ext wc2 w' → w'.cell? ⟨db, 2, none⟩ = some u := by
            obtain ⟨F, q1, q2, q3, q4, q5⟩ := HFE.out
            obtain ⟨v, h1, h2, h3⟩ := q3.ents
            exact ⟨v, h1, h3⟩
          refine beginL (S := fun W' => Ext wc2 W') (by kernel_rfl) ?_
          intro wd hqx
          have hq0 : Ext wc2 wd := hqx
          refine takeL (i := 0) (v := (.pointer (some ⟨f, 0, none⟩))) rfl (by kernel_rfl) (by kernel_rfl) (by kernel_rfl) (fun _ _ _ h => h) (Or.inl ⟨rfl, fun _ _ => rfl⟩) hq0 ?_
          simp only [Act.put, List.setIfInBounds_toArray, List.set_cons_zero, List.set_cons_succ]
          refine takeL (i := 2) (v := (.pointer (some ⟨db, 0, none⟩))) rfl (by kernel_rfl) (by kernel_rfl) (by kernel_rfl) (fun _ _ _ h => h) (Or.inl ⟨rfl, fun _ _ => rfl⟩) hq0 ?_
          simp only [Act.put, List.setIfInBounds_toArray, List.set_cons_zero, List.set_cons_succ]
          refine takeL (i := 3) (v := (.pointer (some ⟨db, 0, none⟩))) rfl (by kernel_rfl) (by kernel_rfl) (by kernel_rfl) (fun _ _ _ h => h) (Or.inl ⟨rfl, fun _ _ => rfl⟩) hq0 ?_
          simp only [Act.put, List.setIfInBounds_toArray, List.set_cons_zero, List.set_cons_succ]
          refine takeL (i := 4) (v := (.pointer (some ⟨db, 2, none⟩))) rfl (by kernel_rfl) (by kernel_rfl) (by kernel_rfl) (fun _ _ _ h => h) (Or.inl ⟨rfl, fun _ _ => rfl⟩) hq0 ?_
          simp only [Act.put, List.setIfInBounds_toArray, List.set_cons_zero, List.set_cons_succ]
          refine takeL (i := 5) (v := _) rfl (by kernel_rfl) (by kernel_rfl) (by kernel_rfl) (fun _ _ _ h => h) (yieldsIf_cell rfl 27 _ rfl ⟨db, 2, none⟩ rfl u _ (fun W' hW' => hcu W' hW') Try.underlying27 rfl) hq0 ?_
          simp only [Act.put, List.setIfInBounds_toArray, List.set_cons_zero, List.set_cons_succ]
          refine runL (i := 1) rfl rfl (by kernel_rfl) (fun K hK => ?_)
          go_simp
          refine (fd_all w wd f db M M n A (HFE.out.grow hqx) HM2.out (by have := HML2.out; omega)).mono ?_
          rintro e wc1 ⟨aa, ac, rfl, hown, hx⟩
          have hq1 := hq0.trans hx
          refine hK.out _ _ hq1 (fun hHeld => ?_)
          try simp only [Act.put, List.setIfInBounds_toArray, List.set_cons_zero, List.set_cons_succ]
          clear hK K hHeld
          refine runL (i := 6) rfl rfl (by kernel_rfl) (fun K hK => ?_)
          go_simp
          refine (same_any wc1 _ u M ((ents_own hown)) (hu.ext hq1) (by have := HML2.out; omega)).mono ?_
          rintro e wc2 ⟨rfl, hx⟩
          have hq2 := hq1.trans hx
          refine hK.out _ _ hq2 (fun hHeld => ?_)
          try simp only [Act.put, List.setIfInBounds_toArray, List.set_cons_zero, List.set_cons_succ]
          clear hK K hHeld
          refine takeL (i := 7) (v := (.bool false)) rfl (by kernel_rfl) (by kernel_rfl) (by kernel_rfl) (fun _ _ _ h => h) (Or.inl ⟨rfl, fun _ _ => rfl⟩) hq2 ?_
          simp only [Act.put, List.setIfInBounds_toArray, List.set_cons_zero, List.set_cons_succ]
          refine wpAnyH_done (by kernel_rfl) ?_ _
          have hxz := hq2
          clear hq0 hqx hu hcu hown
          go_wp2_with fail
          go_roundw
          case rel => exact ⟨i + 1, by omega, by go_num, _, HM2.out, HML2.out, HFE.out.grow hxz⟩
          case measure => simp [intOf] <;> omega
        · have HM0 := Lib.hid (show 0 < m ∧ m < 281474976710656 by omega)
          have HG := Lib.hid (show m ≠ 0 ∧ ¬ m / 1099511627776 % 2 = 1 by omega)
          have HPO := Lib.hid (show 0 ≤ x.p ∧ x.p < 9223372036854775808 by omega)
          have HMX := Lib.hid hm
          clear hbad hm
          go_wp2_with (first
            | fail
            | ((with_reducible refine at_load 32 ?_); refine wpList_load_mid rfl 32 _ rfl bb (off + i * 4) rfl x.L _ hr1.out Try.underlying32 rfl size_act ?_)
            | ((with_reducible refine at_alloc 32 ?_); refine al_zero rfl 32 rfl AZ zero_act ?_
               intro X wq hq hs hx)
            | ((with_reducible refine at_store 32 ?_); refine st_at rfl rfl 32 _ _ rfl X 0 _ x.L.toArray AZ x.L.toArray 32 rfl rfl rfl hq (by exact (by decide : 0 + 4 ≤ 4)) (by kernel_rfl) rfl rfl ?_
               intro wb hq' hm'
               have hX : wr.heap.size ≤ X := by omega
               have EB : Ext wr wb := hx.mutE hm' (fun n hn h => by have h2 : n = X := h; omega)
               have HP := Lib.hid (HX.out.box EB hX hq')
               have c0 : wb.cell? ⟨X, 0, none⟩ = some (.int .i64 x.k) := by rw [cell_row hq']; rfl
               have c1 : wb.cell? ⟨X, 1, none⟩ = some (.int .u64 x.m) := by rw [cell_row hq']; rfl
               have c2 : wb.cell? ⟨X, 2, none⟩ = some (.int .i64 x.p) := by rw [cell_row hq']; rfl
               have c3 : wb.cell? ⟨X, 3, none⟩ = some (.int .i64 x.s) := by rw [cell_row hq']; rfl
               clear hx hm' hq hs hq' EB wq))
          refine beginL (S := fun W' => W'.heap[X]? = some (.cells x.L.toArray 32 (0, 0))) (by kernel_rfl) ?_
          intro wd hqx
          have hq0 : wd.heap[X]? = some (.cells x.L.toArray 32 (0, 0)) := (hqx.block X (heap_lt HP.out.row)).trans HP.out.row
          have HPD := Lib.hid (HP.out.grow hqx)
          clear hqx
          refine takeL (i := 0) (v := (.pointer (some ⟨f, 0, none⟩))) rfl (by kernel_rfl) (by kernel_rfl) (by kernel_rfl) (fun _ _ _ h => h) (Or.inl ⟨rfl, fun _ _ => rfl⟩) hq0 ?_
          simp only [Act.put, List.setIfInBounds_toArray, List.set_cons_zero, List.set_cons_succ]
          refine takeL (i := 1) (v := (.pointer (some ⟨X, 1, none⟩))) rfl (by kernel_rfl) (by kernel_rfl) (by kernel_rfl) (fun _ _ _ h => h) (Or.inl ⟨rfl, fun _ _ => rfl⟩) hq0 ?_
          simp only [Act.put, List.setIfInBounds_toArray, List.set_cons_zero, List.set_cons_succ]
          refine takeL (i := 2) (v := _) rfl (by kernel_rfl) (by kernel_rfl) (by kernel_rfl) (fun _ _ _ h => h) (yieldsIf_cell rfl 30 _ rfl ⟨X, 1, none⟩ rfl (.int .u64 x.m) _ (fun W' hW' => (cell_of_row _ _ _ _ _ _ hW').trans rfl) Try.underlying30 rfl) hq0 ?_
          simp only [Act.put, List.setIfInBounds_toArray, List.set_cons_zero, List.set_cons_succ]
          refine takeL (i := 3) (v := (.pointer (some ⟨X, 2, none⟩))) rfl (by kernel_rfl) (by kernel_rfl) (by kernel_rfl) (fun _ _ _ h => h) (Or.inl ⟨rfl, fun _ _ => rfl⟩) hq0 ?_
          simp only [Act.put, List.setIfInBounds_toArray, List.set_cons_zero, List.set_cons_succ]
          refine takeL (i := 4) (v := _) rfl (by kernel_rfl) (by kernel_rfl) (by kernel_rfl) (fun _ _ _ h => h) (yieldsIf_cell rfl 3 _ rfl ⟨X, 2, none⟩ rfl (.int .i64 x.p) _ (fun W' hW' => (cell_of_row _ _ _ _ _ _ hW').trans rfl) Try.underlying3 rfl) hq0 ?_
          simp only [Act.put, List.setIfInBounds_toArray, List.set_cons_zero, List.set_cons_succ]
          refine takeL (i := 6) (v := (.pointer (some ⟨db, 0, none⟩))) rfl (by kernel_rfl) (by kernel_rfl) (by kernel_rfl) (fun _ _ _ h => h) (Or.inl ⟨rfl, fun _ _ => rfl⟩) hq0 ?_
          simp only [Act.put, List.setIfInBounds_toArray, List.set_cons_zero, List.set_cons_succ]
          refine takeL (i := 7) (v := (.pointer (some ⟨X, 1, none⟩))) rfl (by kernel_rfl) (by kernel_rfl) (by kernel_rfl) (fun _ _ _ h => h) (Or.inl ⟨rfl, fun _ _ => rfl⟩) hq0 ?_
          simp only [Act.put, List.setIfInBounds_toArray, List.set_cons_zero, List.set_cons_succ]
          refine takeL (i := 8) (v := _) rfl (by kernel_rfl) (by kernel_rfl) (by kernel_rfl) (fun _ _ _ h => h) (yieldsIf_cell rfl 30 _ rfl ⟨X, 1, none⟩ rfl (.int .u64 x.m) _ (fun W' hW' => (cell_of_row _ _ _ _ _ _ hW').trans rfl) Try.underlying30 rfl) hq0 ?_
          simp only [Act.put, List.setIfInBounds_toArray, List.set_cons_zero, List.set_cons_succ]
          refine takeL (i := 9) (v := (.pointer (some ⟨X, 2, none⟩))) rfl (by kernel_rfl) (by kernel_rfl) (by kernel_rfl) (fun _ _ _ h => h) (Or.inl ⟨rfl, fun _ _ => rfl⟩) hq0 ?_
          simp only [Act.put, List.setIfInBounds_toArray, List.set_cons_zero, List.set_cons_succ]
          refine takeL (i := 10) (v := _) rfl (by kernel_rfl) (by kernel_rfl) (by kernel_rfl) (fun _ _ _ h => h) (yieldsIf_cell rfl 3 _ rfl ⟨X, 2, none⟩ rfl (.int .i64 x.p) _ (fun W' hW' => (cell_of_row _ _ _ _ _ _ hW').trans rfl) Try.underlying3 rfl) hq0 ?_
          simp only [Act.put, List.setIfInBounds_toArray, List.set_cons_zero, List.set_cons_succ]
          refine runL (i := 5) rfl rfl (by kernel_rfl) (fun K hK => ?_)
          go_simp
          refine (p_learn w wd f db X _ M M n A HPD.out HM.out (by omega) (by omega) x.m x.p m (by omega) HMX.out HPO.out HG.out.1 HG.out.2).mono ?_
          rintro e wc1 ⟨rfl, M2, hl, hpd, hrw⟩
          have hq1 := (fun (_ : _) => hrw) hq0
          have HPE := Lib.hid hpd
          clear hpd
          refine hK.out _ _ hq1 (fun hHeld => ?_)
          try simp only [Act.put, List.setIfInBounds_toArray, List.set_cons_zero, List.set_cons_succ]
          clear hK K hHeld
          refine runL (i := 11) rfl rfl (by kernel_rfl) (fun K hK => ?_)
          go_simp
          refine (q_learn w wc1 f db X _ M2 M n A HPE.out HM.out (by omega) x.m x.p m (by omega) HMX.out HPO.out.1 HG.out.1 HG.out.2).mono ?_
          rintro e wc2 ⟨rfl, M3, hl3, hpd, hrw2⟩
          have hq2 := (fun (_ : _) => hrw2) hq1
          obtain rfl := learned_uniq HM.out hl3 hl
          have HPZ := Lib.hid hpd
          clear hpd
          refine hK.out _ _ hq2 (fun hHeld => ?_)
          try simp only [Act.put, List.setIfInBounds_toArray, List.set_cons_zero, List.set_cons_succ]
          clear hK K hHeld
          refine takeL (i := 12) (v := (.bool false)) rfl (by kernel_rfl) (by kernel_rfl) (by kernel_rfl) (fun _ _ _ h => h) (Or.inl ⟨rfl, fun W' _ => by go_simp⟩) hq2 ?_
          simp only [Act.put, List.setIfInBounds_toArray, List.set_cons_zero, List.set_cons_succ]
          refine wpAnyH_done (by kernel_rfl) ?_ _
          have HM2 := Lib.hid (learned_ok HM.out (by omega) HM0.out HPO.out hl)
          have HML2 := Lib.hid (learned_len HM.out hMl (by omega) hl)
          clear hq0 hq1 hq2 hrw hrw2 c0 c1 c2 c3 hl hl3
          have HFE := Lib.hid HPZ.out.fd
          go_wp2_with fail
          obtain ⟨u, hu, hcu⟩ : ∃ u, EntsAt wc2 u M3 ∧ ∀ w', Ext wc2 w' → w'.cell? ⟨db, 2, none⟩ = some u := by
            obtain ⟨F, q1, q2, q3, q4, q5⟩ := HFE.out
            obtain ⟨v, h1, h2, h3⟩ := q3.ents
            exact ⟨v, h1, h3⟩
          refine beginL (S := fun W' => Ext wc2 W') (by kernel_rfl) ?_
          intro wd hqx
          have hq0 : Ext wc2 wd := hqx
          refine takeL (i := 0) (v := (.pointer (some ⟨f, 0, none⟩))) rfl (by kernel_rfl) (by kernel_rfl) (by kernel_rfl) (fun _ _ _ h => h) (Or.inl ⟨rfl, fun _ _ => rfl⟩) hq0 ?_
          simp only [Act.put, List.setIfInBounds_toArray, List.set_cons_zero, List.set_cons_succ]
          refine takeL (i := 2) (v := (.pointer (some ⟨db, 0, none⟩))) rfl (by kernel_rfl) (by kernel_rfl) (by kernel_rfl) (fun _ _ _ h => h) (Or.inl ⟨rfl, fun _ _ => rfl⟩) hq0 ?_
          simp only [Act.put, List.setIfInBounds_toArray, List.set_cons_zero, List.set_cons_succ]
          refine takeL (i := 3) (v := (.pointer (some ⟨db, 0, none⟩))) rfl (by kernel_rfl) (by kernel_rfl) (by kernel_rfl) (fun _ _ _ h => h) (Or.inl ⟨rfl, fun _ _ => rfl⟩) hq0 ?_
          simp only [Act.put, List.setIfInBounds_toArray, List.set_cons_zero, List.set_cons_succ]
          refine takeL (i := 4) (v := (.pointer (some ⟨db, 2, none⟩))) rfl (by kernel_rfl) (by kernel_rfl) (by kernel_rfl) (fun _ _ _ h => h) (Or.inl ⟨rfl, fun _ _ => rfl⟩) hq0 ?_
          simp only [Act.put, List.setIfInBounds_toArray, List.set_cons_zero, List.set_cons_succ]
          refine takeL (i := 5) (v := _) rfl (by kernel_rfl) (by kernel_rfl) (by kernel_rfl) (fun _ _ _ h => h) (yieldsIf_cell rfl 27 _ rfl ⟨db, 2, none⟩ rfl u _ (fun W' hW' => hcu W' hW') Try.underlying27 rfl) hq0 ?_
          simp only [Act.put, List.setIfInBounds_toArray, List.set_cons_zero, List.set_cons_succ]
          refine runL (i := 1) rfl rfl (by kernel_rfl) (fun K hK => ?_)
          go_simp
          refine (fd_all w wd f db M3 M3 n A (HFE.out.grow hqx) HM2.out (by have := HML2.out; omega)).mono ?_
          rintro e wc1 ⟨aa, ac, rfl, hown, hx⟩
          have hq1 := hq0.trans hx
          refine hK.out _ _ hq1 (fun hHeld => ?_)
          try simp only [Act.put, List.setIfInBounds_toArray, List.set_cons_zero, List.set_cons_succ]
          clear hK K hHeld
          refine runL (i := 6) rfl rfl (by kernel_rfl) (fun K hK => ?_)
          go_simp
          refine (same_any wc1 _ u M3 ((ents_own hown)) (hu.ext hq1) (by have := HML2.out; omega)).mono ?_
          rintro e wc2 ⟨rfl, hx⟩
          have hq2 := hq1.trans hx
          refine hK.out _ _ hq2 (fun hHeld => ?_)
          try simp only [Act.put, List.setIfInBounds_toArray, List.set_cons_zero, List.set_cons_succ]
          clear hK K hHeld
          refine takeL (i := 7) (v := (.bool false)) rfl (by kernel_rfl) (by kernel_rfl) (by kernel_rfl) (fun _ _ _ h => h) (Or.inl ⟨rfl, fun _ _ => rfl⟩) hq2 ?_
          simp only [Act.put, List.setIfInBounds_toArray, List.set_cons_zero, List.set_cons_succ]
          refine wpAnyH_done (by kernel_rfl) ?_ _
          have hxz := hq2
          clear hq0 hqx hu hcu hown
          go_wp2_with fail
          go_roundw
          case rel => exact ⟨i + 1, by omega, by go_num, _, HM2.out, HML2.out, HFE.out.grow hxz⟩
          case measure => simp [intOf] <;> omega
      have dk0 : (x.k == 0) = false := by simpa using k0
      by_cases k1 : x.k = 1
      · have dk1 : (x.k == 1) = true := by simpa using k1
        clear k0 k1
        go_wp2_with (first
          | fail
          | ((with_reducible refine at_load 32 ?_); refine wpList_load_mid rfl 32 _ rfl bb (off + i * 4) rfl x.L _ hr1.out Try.underlying32 rfl size_act ?_)
          | ((with_reducible refine at_alloc 32 ?_); refine al_zero rfl 32 rfl AZ zero_act ?_
             intro X wq hq hs hx)
          | ((with_reducible refine at_store 32 ?_); refine st_at rfl rfl 32 _ _ rfl X 0 _ x.L.toArray AZ x.L.toArray 32 rfl rfl rfl hq (by exact (by decide : 0 + 4 ≤ 4)) (by kernel_rfl) rfl rfl ?_
             intro wb hq' hm'
             have hX : wr.heap.size ≤ X := by omega
             have EB : Ext wr wb := hx.mutE hm' (fun n hn h => by have h2 : n = X := h; omega)
             have HP := Lib.hid (HX.out.box EB hX hq')
             have c0 : wb.cell? ⟨X, 0, none⟩ = some (.int .i64 x.k) := by rw [cell_row hq']; rfl
             have c1 : wb.cell? ⟨X, 1, none⟩ = some (.int .u64 x.m) := by rw [cell_row hq']; rfl
             have c2 : wb.cell? ⟨X, 2, none⟩ = some (.int .i64 x.p) := by rw [cell_row hq']; rfl
             have c3 : wb.cell? ⟨X, 3, none⟩ = some (.int .i64 x.s) := by rw [cell_row hq']; rfl
             clear hx hm' hq hs hq' EB wq))
        refine (p_find w wb f db X _ M M n A HP.out x.m (by omega)).mono ?_
        rintro e wf1 ⟨he1, hp1⟩
        obtain ⟨pv, pb, rfl⟩ := find_form he1
        have HP1 := Lib.hid hp1
        have HE1 := Lib.hid he1
        have c1' : wf1.cell? ⟨X, 1, none⟩ = some (.int .u64 x.m) := by rw [cell_row hp1.row]; rfl
        clear hp1 he1 c0 c1 c2 c3
        go_wp2_with fail
        refine (q_find w wf1 f db X _ M M n A HP1.out x.m (by omega)).mono ?_
        rintro e wf2 ⟨he2, hp2⟩
        obtain rfl := find_uniq HM.out he2 HE1.out
        have HPZ := Lib.hid hp2
        have HM2 := HM
        have HML2 := Lib.hid hMl
        clear hp2 he2 c1'
        have HFE := Lib.hid HPZ.out.fd
        go_wp2_with fail
        obtain ⟨u, hu, hcu⟩ : ∃ u, EntsAt wf2 u M ∧ ∀ w', Ext wf2 w' → w'.cell? ⟨db, 2, none⟩ = some u := by
          obtain ⟨F, q1, q2, q3, q4, q5⟩ := HFE.out
          obtain ⟨v, h1, h2, h3⟩ := q3.ents
          exact ⟨v, h1, h3⟩
        refine beginL (S := fun W' => Ext wf2 W') (by kernel_rfl) ?_
        intro wd hqx
        have hq0 : Ext wf2 wd := hqx
        refine takeL (i := 0) (v := (.pointer (some ⟨f, 0, none⟩))) rfl (by kernel_rfl) (by kernel_rfl) (by kernel_rfl) (fun _ _ _ h => h) (Or.inl ⟨rfl, fun _ _ => rfl⟩) hq0 ?_
        simp only [Act.put, List.setIfInBounds_toArray, List.set_cons_zero, List.set_cons_succ]
        refine takeL (i := 2) (v := (.pointer (some ⟨db, 0, none⟩))) rfl (by kernel_rfl) (by kernel_rfl) (by kernel_rfl) (fun _ _ _ h => h) (Or.inl ⟨rfl, fun _ _ => rfl⟩) hq0 ?_
        simp only [Act.put, List.setIfInBounds_toArray, List.set_cons_zero, List.set_cons_succ]
        refine takeL (i := 3) (v := (.pointer (some ⟨db, 0, none⟩))) rfl (by kernel_rfl) (by kernel_rfl) (by kernel_rfl) (fun _ _ _ h => h) (Or.inl ⟨rfl, fun _ _ => rfl⟩) hq0 ?_
        simp only [Act.put, List.setIfInBounds_toArray, List.set_cons_zero, List.set_cons_succ]
        refine takeL (i := 4) (v := (.pointer (some ⟨db, 2, none⟩))) rfl (by kernel_rfl) (by kernel_rfl) (by kernel_rfl) (fun _ _ _ h => h) (Or.inl ⟨rfl, fun _ _ => rfl⟩) hq0 ?_
        simp only [Act.put, List.setIfInBounds_toArray, List.set_cons_zero, List.set_cons_succ]
        refine takeL (i := 5) (v := _) rfl (by kernel_rfl) (by kernel_rfl) (by kernel_rfl) (fun _ _ _ h => h) (yieldsIf_cell rfl 27 _ rfl ⟨db, 2, none⟩ rfl u _ (fun W' hW' => hcu W' hW') Try.underlying27 rfl) hq0 ?_
        simp only [Act.put, List.setIfInBounds_toArray, List.set_cons_zero, List.set_cons_succ]
        refine runL (i := 1) rfl rfl (by kernel_rfl) (fun K hK => ?_)
        go_simp
        refine (fd_all w wd f db M M n A (HFE.out.grow hqx) HM2.out (by have := HML2.out; omega)).mono ?_
        rintro e wc1 ⟨aa, ac, rfl, hown, hx⟩
        have hq1 := hq0.trans hx
        refine hK.out _ _ hq1 (fun hHeld => ?_)
        try simp only [Act.put, List.setIfInBounds_toArray, List.set_cons_zero, List.set_cons_succ]
        clear hK K hHeld
        refine runL (i := 6) rfl rfl (by kernel_rfl) (fun K hK => ?_)
        go_simp
        refine (same_any wc1 _ u M ((ents_own hown)) (hu.ext hq1) (by have := HML2.out; omega)).mono ?_
        rintro e wc2 ⟨rfl, hx⟩
        have hq2 := hq1.trans hx
        refine hK.out _ _ hq2 (fun hHeld => ?_)
        try simp only [Act.put, List.setIfInBounds_toArray, List.set_cons_zero, List.set_cons_succ]
        clear hK K hHeld
        refine takeL (i := 7) (v := (.bool false)) rfl (by kernel_rfl) (by kernel_rfl) (by kernel_rfl) (fun _ _ _ h => h) (Or.inl ⟨rfl, fun _ _ => rfl⟩) hq2 ?_
        simp only [Act.put, List.setIfInBounds_toArray, List.set_cons_zero, List.set_cons_succ]
        refine wpAnyH_done (by kernel_rfl) ?_ _
        have hxz := hq2
        clear hq0 hqx hu hcu hown
        go_wp2_with fail
        go_roundw
        case rel => exact ⟨i + 1, by omega, by go_num, _, HM2.out, HML2.out, HFE.out.grow hxz⟩
        case measure => simp [intOf] <;> omega
      have dk1 : (x.k == 1) = false := by simpa using k1
      by_cases k2 : x.k = 2
      · have dk2 : (x.k == 2) = true := by simpa using k2
        clear k0 k1 k2
        go_wp2_with (first
          | fail
          | ((with_reducible refine at_load 32 ?_); refine wpList_load_mid rfl 32 _ rfl bb (off + i * 4) rfl x.L _ hr1.out Try.underlying32 rfl size_act ?_)
          | ((with_reducible refine at_alloc 32 ?_); refine al_zero rfl 32 rfl AZ zero_act ?_
             intro X wq hq hs hx)
          | ((with_reducible refine at_store 32 ?_); refine st_at rfl rfl 32 _ _ rfl X 0 _ x.L.toArray AZ x.L.toArray 32 rfl rfl rfl hq (by exact (by decide : 0 + 4 ≤ 4)) (by kernel_rfl) rfl rfl ?_
             intro wb hq' hm'
             have hX : wr.heap.size ≤ X := by omega
             have EB : Ext wr wb := hx.mutE hm' (fun n hn h => by have h2 : n = X := h; omega)
             have HP := Lib.hid (HX.out.box EB hX hq')
             have c0 : wb.cell? ⟨X, 0, none⟩ = some (.int .i64 x.k) := by rw [cell_row hq']; rfl
             have c1 : wb.cell? ⟨X, 1, none⟩ = some (.int .u64 x.m) := by rw [cell_row hq']; rfl
             have c2 : wb.cell? ⟨X, 2, none⟩ = some (.int .i64 x.p) := by rw [cell_row hq']; rfl
             have c3 : wb.cell? ⟨X, 3, none⟩ = some (.int .i64 x.s) := by rw [cell_row hq']; rfl
             clear hx hm' hq hs hq' EB wq))
        refine (p_tick w wb f db X _ M M n A HP.out HM.out (by omega)).mono ?_
        rintro e wf1 ⟨rfl, hp1, _⟩
        have HP1 := Lib.hid hp1
        clear hp1 c0 c1 c2 c3
        go_wp2_with fail
        refine (q_tick w wf1 f db X _ _ M n A HP1.out HM.out (by omega)).mono ?_
        rintro e wf2 ⟨rfl, hp2, _⟩
        have hM2 := tick_ok HM.out
        have hML2 : ((M.filterMap tickE).length : Int) ≤ n := by have := fm_len (st := tickE) M; omega
        generalize M.filterMap tickE = M2 at hp2 hM2 hML2
        have HPZ := Lib.hid hp2
        have HM2 := Lib.hid hM2
        have HML2 := Lib.hid hML2
        clear hp2 hM2 hML2 HP1
        have HFE := Lib.hid HPZ.out.fd
        go_wp2_with fail
        obtain ⟨u, hu, hcu⟩ : ∃ u, EntsAt wf2 u M2 ∧ ∀ w', Ext wf2 w' → w'.cell? ⟨db, 2, none⟩ = some u := by
          obtain ⟨F, q1, q2, q3, q4, q5⟩ := HFE.out
          obtain ⟨v, h1, h2, h3⟩ := q3.ents
          exact ⟨v, h1, h3⟩
        refine beginL (S := fun W' => Ext wf2 W') (by kernel_rfl) ?_
        intro wd hqx
        have hq0 : Ext wf2 wd := hqx
        refine takeL (i := 0) (v := (.pointer (some ⟨f, 0, none⟩))) rfl (by kernel_rfl) (by kernel_rfl) (by kernel_rfl) (fun _ _ _ h => h) (Or.inl ⟨rfl, fun _ _ => rfl⟩) hq0 ?_
        simp only [Act.put, List.setIfInBounds_toArray, List.set_cons_zero, List.set_cons_succ]
        refine takeL (i := 2) (v := (.pointer (some ⟨db, 0, none⟩))) rfl (by kernel_rfl) (by kernel_rfl) (by kernel_rfl) (fun _ _ _ h => h) (Or.inl ⟨rfl, fun _ _ => rfl⟩) hq0 ?_
        simp only [Act.put, List.setIfInBounds_toArray, List.set_cons_zero, List.set_cons_succ]
        refine takeL (i := 3) (v := (.pointer (some ⟨db, 0, none⟩))) rfl (by kernel_rfl) (by kernel_rfl) (by kernel_rfl) (fun _ _ _ h => h) (Or.inl ⟨rfl, fun _ _ => rfl⟩) hq0 ?_
        simp only [Act.put, List.setIfInBounds_toArray, List.set_cons_zero, List.set_cons_succ]
        refine takeL (i := 4) (v := (.pointer (some ⟨db, 2, none⟩))) rfl (by kernel_rfl) (by kernel_rfl) (by kernel_rfl) (fun _ _ _ h => h) (Or.inl ⟨rfl, fun _ _ => rfl⟩) hq0 ?_
        simp only [Act.put, List.setIfInBounds_toArray, List.set_cons_zero, List.set_cons_succ]
        refine takeL (i := 5) (v := _) rfl (by kernel_rfl) (by kernel_rfl) (by kernel_rfl) (fun _ _ _ h => h) (yieldsIf_cell rfl 27 _ rfl ⟨db, 2, none⟩ rfl u _ (fun W' hW' => hcu W' hW') Try.underlying27 rfl) hq0 ?_
        simp only [Act.put, List.setIfInBounds_toArray, List.set_cons_zero, List.set_cons_succ]
        refine runL (i := 1) rfl rfl (by kernel_rfl) (fun K hK => ?_)
        go_simp
        refine (fd_all w wd f db M2 M2 n A (HFE.out.grow hqx) HM2.out (by have := HML2.out; omega)).mono ?_
        rintro e wc1 ⟨aa, ac, rfl, hown, hx⟩
        have hq1 := hq0.trans hx
        refine hK.out _ _ hq1 (fun hHeld => ?_)
        try simp only [Act.put, List.setIfInBounds_toArray, List.set_cons_zero, List.set_cons_succ]
        clear hK K hHeld
        refine runL (i := 6) rfl rfl (by kernel_rfl) (fun K hK => ?_)
        go_simp
        refine (same_any wc1 _ u M2 ((ents_own hown)) (hu.ext hq1) (by have := HML2.out; omega)).mono ?_
        rintro e wc2 ⟨rfl, hx⟩
        have hq2 := hq1.trans hx
        refine hK.out _ _ hq2 (fun hHeld => ?_)
        try simp only [Act.put, List.setIfInBounds_toArray, List.set_cons_zero, List.set_cons_succ]
        clear hK K hHeld
        refine takeL (i := 7) (v := (.bool false)) rfl (by kernel_rfl) (by kernel_rfl) (by kernel_rfl) (fun _ _ _ h => h) (Or.inl ⟨rfl, fun _ _ => rfl⟩) hq2 ?_
        simp only [Act.put, List.setIfInBounds_toArray, List.set_cons_zero, List.set_cons_succ]
        refine wpAnyH_done (by kernel_rfl) ?_ _
        have hxz := hq2
        clear hq0 hqx hu hcu hown
        go_wp2_with fail
        go_roundw
        case rel => exact ⟨i + 1, by omega, by go_num, _, HM2.out, HML2.out, HFE.out.grow hxz⟩
        case measure => simp [intOf] <;> omega
      have dk2 : (x.k == 2) = false := by simpa using k2
      by_cases k3 : x.k = 3
      · have dk3 : (x.k == 3) = true := by simpa using k3
        clear k0 k1 k2 k3
        go_wp2_with (first
          | fail
          | ((with_reducible refine at_load 32 ?_); refine wpList_load_mid rfl 32 _ rfl bb (off + i * 4) rfl x.L _ hr1.out Try.underlying32 rfl size_act ?_)
          | ((with_reducible refine at_alloc 32 ?_); refine al_zero rfl 32 rfl AZ zero_act ?_
             intro X wq hq hs hx)
          | ((with_reducible refine at_store 32 ?_); refine st_at rfl rfl 32 _ _ rfl X 0 _ x.L.toArray AZ x.L.toArray 32 rfl rfl rfl hq (by exact (by decide : 0 + 4 ≤ 4)) (by kernel_rfl) rfl rfl ?_
             intro wb hq' hm'
             have hX : wr.heap.size ≤ X := by omega
             have EB : Ext wr wb := hx.mutE hm' (fun n hn h => by have h2 : n = X := h; omega)
             have HP := Lib.hid (HX.out.box EB hX hq')
             have c0 : wb.cell? ⟨X, 0, none⟩ = some (.int .i64 x.k) := by rw [cell_row hq']; rfl
             have c1 : wb.cell? ⟨X, 1, none⟩ = some (.int .u64 x.m) := by rw [cell_row hq']; rfl
             have c2 : wb.cell? ⟨X, 2, none⟩ = some (.int .i64 x.p) := by rw [cell_row hq']; rfl
             have c3 : wb.cell? ⟨X, 3, none⟩ = some (.int .i64 x.s) := by rw [cell_row hq']; rfl
             clear hx hm' hq hs hq' EB wq))
        refine beginL (S := fun W' => W'.heap[X]? = some (.cells x.L.toArray 32 (0, 0))) (by kernel_rfl) ?_
        intro wd hqx
        have hq0 : wd.heap[X]? = some (.cells x.L.toArray 32 (0, 0)) := (hqx.block X (heap_lt HP.out.row)).trans HP.out.row
        have HPD := Lib.hid (HP.out.grow hqx)
        clear hqx
        refine takeL (i := 0) (v := (.pointer (some ⟨f, 0, none⟩))) rfl (by kernel_rfl) (by kernel_rfl) (by kernel_rfl) (fun _ _ _ h => h) (Or.inl ⟨rfl, fun _ _ => rfl⟩) hq0 ?_
        simp only [Act.put, List.setIfInBounds_toArray, List.set_cons_zero, List.set_cons_succ]
        refine takeL (i := 1) (v := (.pointer (some ⟨X, 2, none⟩))) rfl (by kernel_rfl) (by kernel_rfl) (by kernel_rfl) (fun _ _ _ h => h) (Or.inl ⟨rfl, fun _ _ => rfl⟩) hq0 ?_
        simp only [Act.put, List.setIfInBounds_toArray, List.set_cons_zero, List.set_cons_succ]
        refine takeL (i := 2) (v := _) rfl (by kernel_rfl) (by kernel_rfl) (by kernel_rfl) (fun _ _ _ h => h) (yieldsIf_cell rfl 3 _ rfl ⟨X, 2, none⟩ rfl (.int .i64 x.p) _ (fun W' hW' => (cell_of_row _ _ _ _ _ _ hW').trans rfl) Try.underlying3 rfl) hq0 ?_
        simp only [Act.put, List.setIfInBounds_toArray, List.set_cons_zero, List.set_cons_succ]
        refine takeL (i := 4) (v := (.pointer (some ⟨db, 0, none⟩))) rfl (by kernel_rfl) (by kernel_rfl) (by kernel_rfl) (fun _ _ _ h => h) (Or.inl ⟨rfl, fun _ _ => rfl⟩) hq0 ?_
        simp only [Act.put, List.setIfInBounds_toArray, List.set_cons_zero, List.set_cons_succ]
        refine takeL (i := 5) (v := (.pointer (some ⟨X, 2, none⟩))) rfl (by kernel_rfl) (by kernel_rfl) (by kernel_rfl) (fun _ _ _ h => h) (Or.inl ⟨rfl, fun _ _ => rfl⟩) hq0 ?_
        simp only [Act.put, List.setIfInBounds_toArray, List.set_cons_zero, List.set_cons_succ]
        refine takeL (i := 6) (v := _) rfl (by kernel_rfl) (by kernel_rfl) (by kernel_rfl) (fun _ _ _ h => h) (yieldsIf_cell rfl 3 _ rfl ⟨X, 2, none⟩ rfl (.int .i64 x.p) _ (fun W' hW' => (cell_of_row _ _ _ _ _ _ hW').trans rfl) Try.underlying3 rfl) hq0 ?_
        simp only [Act.put, List.setIfInBounds_toArray, List.set_cons_zero, List.set_cons_succ]
        refine runL (i := 3) rfl rfl (by kernel_rfl) (fun K hK => ?_)
        go_simp
        refine (p_flush w wd f db X _ M M n A HPD.out HM.out (by omega) (by omega) x.p).mono ?_
        rintro e wc1 ⟨rfl, hpd, hrw⟩
        have hq1 := (fun (_ : _) => hrw) hq0
        have HPE := Lib.hid hpd
        clear hpd
        refine hK.out _ _ hq1 (fun hHeld => ?_)
        try simp only [Act.put, List.setIfInBounds_toArray, List.set_cons_zero, List.set_cons_succ]
        clear hK K hHeld
        refine runL (i := 7) rfl rfl (by kernel_rfl) (fun K hK => ?_)
        go_simp
        refine (q_short0 w wc1 f db X _ _ M n A HPE.out HM.out x.p).mono ?_
        rintro e wc2 ⟨rfl, hpd, hrw2⟩
        have hq2 := (fun (_ : _) => hrw2) hq1
        have hM2 := short_ok HM.out x.p 0
        have hML2 : ((shorts x.p 0 M).length : Int) ≤ n := by have := fm_len (st := shortE x.p 0) M; unfold shorts; omega
        generalize shorts x.p 0 M = M2 at hpd hM2 hML2
        have HPZ := Lib.hid hpd
        have HM2 := Lib.hid hM2
        have HML2 := Lib.hid hML2
        clear hpd hM2 hML2 HPE
        refine hK.out _ _ hq2 (fun hHeld => ?_)
        try simp only [Act.put, List.setIfInBounds_toArray, List.set_cons_zero, List.set_cons_succ]
        clear hK K hHeld
        refine takeL (i := 8) (v := (.bool false)) rfl (by kernel_rfl) (by kernel_rfl) (by kernel_rfl) (fun _ _ _ h => h) (Or.inl ⟨rfl, fun W' _ => by go_simp⟩) hq2 ?_
        simp only [Act.put, List.setIfInBounds_toArray, List.set_cons_zero, List.set_cons_succ]
        refine wpAnyH_done (by kernel_rfl) ?_ _
        clear hq0 hq1 hq2 hrw hrw2 c0 c1 c2 c3
        have HFE := Lib.hid HPZ.out.fd
        go_wp2_with fail
        obtain ⟨u, hu, hcu⟩ : ∃ u, EntsAt wc2 u M2 ∧ ∀ w', Ext wc2 w' → w'.cell? ⟨db, 2, none⟩ = some u := by
          obtain ⟨F, q1, q2, q3, q4, q5⟩ := HFE.out
          obtain ⟨v, h1, h2, h3⟩ := q3.ents
          exact ⟨v, h1, h3⟩
        refine beginL (S := fun W' => Ext wc2 W') (by kernel_rfl) ?_
        intro wd hqx
        have hq0 : Ext wc2 wd := hqx
        refine takeL (i := 0) (v := (.pointer (some ⟨f, 0, none⟩))) rfl (by kernel_rfl) (by kernel_rfl) (by kernel_rfl) (fun _ _ _ h => h) (Or.inl ⟨rfl, fun _ _ => rfl⟩) hq0 ?_
        simp only [Act.put, List.setIfInBounds_toArray, List.set_cons_zero, List.set_cons_succ]
        refine takeL (i := 2) (v := (.pointer (some ⟨db, 0, none⟩))) rfl (by kernel_rfl) (by kernel_rfl) (by kernel_rfl) (fun _ _ _ h => h) (Or.inl ⟨rfl, fun _ _ => rfl⟩) hq0 ?_
        simp only [Act.put, List.setIfInBounds_toArray, List.set_cons_zero, List.set_cons_succ]
        refine takeL (i := 3) (v := (.pointer (some ⟨db, 0, none⟩))) rfl (by kernel_rfl) (by kernel_rfl) (by kernel_rfl) (fun _ _ _ h => h) (Or.inl ⟨rfl, fun _ _ => rfl⟩) hq0 ?_
        simp only [Act.put, List.setIfInBounds_toArray, List.set_cons_zero, List.set_cons_succ]
        refine takeL (i := 4) (v := (.pointer (some ⟨db, 2, none⟩))) rfl (by kernel_rfl) (by kernel_rfl) (by kernel_rfl) (fun _ _ _ h => h) (Or.inl ⟨rfl, fun _ _ => rfl⟩) hq0 ?_
        simp only [Act.put, List.setIfInBounds_toArray, List.set_cons_zero, List.set_cons_succ]
        refine takeL (i := 5) (v := _) rfl (by kernel_rfl) (by kernel_rfl) (by kernel_rfl) (fun _ _ _ h => h) (yieldsIf_cell rfl 27 _ rfl ⟨db, 2, none⟩ rfl u _ (fun W' hW' => hcu W' hW') Try.underlying27 rfl) hq0 ?_
        simp only [Act.put, List.setIfInBounds_toArray, List.set_cons_zero, List.set_cons_succ]
        refine runL (i := 1) rfl rfl (by kernel_rfl) (fun K hK => ?_)
        go_simp
        refine (fd_all w wd f db M2 M2 n A (HFE.out.grow hqx) HM2.out (by have := HML2.out; omega)).mono ?_
        rintro e wc1 ⟨aa, ac, rfl, hown, hx⟩
        have hq1 := hq0.trans hx
        refine hK.out _ _ hq1 (fun hHeld => ?_)
        try simp only [Act.put, List.setIfInBounds_toArray, List.set_cons_zero, List.set_cons_succ]
        clear hK K hHeld
        refine runL (i := 6) rfl rfl (by kernel_rfl) (fun K hK => ?_)
        go_simp
        refine (same_any wc1 _ u M2 ((ents_own hown)) (hu.ext hq1) (by have := HML2.out; omega)).mono ?_
        rintro e wc2 ⟨rfl, hx⟩
        have hq2 := hq1.trans hx
        refine hK.out _ _ hq2 (fun hHeld => ?_)
        try simp only [Act.put, List.setIfInBounds_toArray, List.set_cons_zero, List.set_cons_succ]
        clear hK K hHeld
        refine takeL (i := 7) (v := (.bool false)) rfl (by kernel_rfl) (by kernel_rfl) (by kernel_rfl) (fun _ _ _ h => h) (Or.inl ⟨rfl, fun _ _ => rfl⟩) hq2 ?_
        simp only [Act.put, List.setIfInBounds_toArray, List.set_cons_zero, List.set_cons_succ]
        refine wpAnyH_done (by kernel_rfl) ?_ _
        have hxz := hq2
        clear hq0 hqx hu hcu hown
        go_wp2_with fail
        go_roundw
        case rel => exact ⟨i + 1, by omega, by go_num, _, HM2.out, HML2.out, HFE.out.grow hxz⟩
        case measure => simp [intOf] <;> omega
      have dk3 : (x.k == 3) = false := by simpa using k3
      clear k0 k1 k2 k3
      go_wp2_with (first
        | fail
        | ((with_reducible refine at_load 32 ?_); refine wpList_load_mid rfl 32 _ rfl bb (off + i * 4) rfl x.L _ hr1.out Try.underlying32 rfl size_act ?_)
        | ((with_reducible refine at_alloc 32 ?_); refine al_zero rfl 32 rfl AZ zero_act ?_
           intro X wq hq hs hx)
        | ((with_reducible refine at_store 32 ?_); refine st_at rfl rfl 32 _ _ rfl X 0 _ x.L.toArray AZ x.L.toArray 32 rfl rfl rfl hq (by exact (by decide : 0 + 4 ≤ 4)) (by kernel_rfl) rfl rfl ?_
           intro wb hq' hm'
           have hX : wr.heap.size ≤ X := by omega
           have EB : Ext wr wb := hx.mutE hm' (fun n hn h => by have h2 : n = X := h; omega)
           have HP := Lib.hid (HX.out.box EB hX hq')
           have c0 : wb.cell? ⟨X, 0, none⟩ = some (.int .i64 x.k) := by rw [cell_row hq']; rfl
           have c1 : wb.cell? ⟨X, 1, none⟩ = some (.int .u64 x.m) := by rw [cell_row hq']; rfl
           have c2 : wb.cell? ⟨X, 2, none⟩ = some (.int .i64 x.p) := by rw [cell_row hq']; rfl
           have c3 : wb.cell? ⟨X, 3, none⟩ = some (.int .i64 x.s) := by rw [cell_row hq']; rfl
           clear hx hm' hq hs hq' EB wq))
      refine beginL (S := fun W' => W'.heap[X]? = some (.cells x.L.toArray 32 (0, 0))) (by kernel_rfl) ?_
      intro wd hqx
      have hq0 : wd.heap[X]? = some (.cells x.L.toArray 32 (0, 0)) := (hqx.block X (heap_lt HP.out.row)).trans HP.out.row
      have HPD := Lib.hid (HP.out.grow hqx)
      clear hqx
      refine takeL (i := 0) (v := (.pointer (some ⟨f, 0, none⟩))) rfl (by kernel_rfl) (by kernel_rfl) (by kernel_rfl) (fun _ _ _ h => h) (Or.inl ⟨rfl, fun _ _ => rfl⟩) hq0 ?_
      simp only [Act.put, List.setIfInBounds_toArray, List.set_cons_zero, List.set_cons_succ]
      refine takeL (i := 1) (v := (.pointer (some ⟨X, 2, none⟩))) rfl (by kernel_rfl) (by kernel_rfl) (by kernel_rfl) (fun _ _ _ h => h) (Or.inl ⟨rfl, fun _ _ => rfl⟩) hq0 ?_
      simp only [Act.put, List.setIfInBounds_toArray, List.set_cons_zero, List.set_cons_succ]
      refine takeL (i := 2) (v := _) rfl (by kernel_rfl) (by kernel_rfl) (by kernel_rfl) (fun _ _ _ h => h) (yieldsIf_cell rfl 3 _ rfl ⟨X, 2, none⟩ rfl (.int .i64 x.p) _ (fun W' hW' => (cell_of_row _ _ _ _ _ _ hW').trans rfl) Try.underlying3 rfl) hq0 ?_
      simp only [Act.put, List.setIfInBounds_toArray, List.set_cons_zero, List.set_cons_succ]
      refine takeL (i := 3) (v := (.pointer (some ⟨X, 3, none⟩))) rfl (by kernel_rfl) (by kernel_rfl) (by kernel_rfl) (fun _ _ _ h => h) (Or.inl ⟨rfl, fun _ _ => rfl⟩) hq0 ?_
      simp only [Act.put, List.setIfInBounds_toArray, List.set_cons_zero, List.set_cons_succ]
      refine takeL (i := 4) (v := _) rfl (by kernel_rfl) (by kernel_rfl) (by kernel_rfl) (fun _ _ _ h => h) (yieldsIf_cell rfl 3 _ rfl ⟨X, 3, none⟩ rfl (.int .i64 x.s) _ (fun W' hW' => (cell_of_row _ _ _ _ _ _ hW').trans rfl) Try.underlying3 rfl) hq0 ?_
      simp only [Act.put, List.setIfInBounds_toArray, List.set_cons_zero, List.set_cons_succ]
      refine takeL (i := 6) (v := (.pointer (some ⟨db, 0, none⟩))) rfl (by kernel_rfl) (by kernel_rfl) (by kernel_rfl) (fun _ _ _ h => h) (Or.inl ⟨rfl, fun _ _ => rfl⟩) hq0 ?_
      simp only [Act.put, List.setIfInBounds_toArray, List.set_cons_zero, List.set_cons_succ]
      refine takeL (i := 7) (v := (.pointer (some ⟨X, 2, none⟩))) rfl (by kernel_rfl) (by kernel_rfl) (by kernel_rfl) (fun _ _ _ h => h) (Or.inl ⟨rfl, fun _ _ => rfl⟩) hq0 ?_
      simp only [Act.put, List.setIfInBounds_toArray, List.set_cons_zero, List.set_cons_succ]
      refine takeL (i := 8) (v := _) rfl (by kernel_rfl) (by kernel_rfl) (by kernel_rfl) (fun _ _ _ h => h) (yieldsIf_cell rfl 3 _ rfl ⟨X, 2, none⟩ rfl (.int .i64 x.p) _ (fun W' hW' => (cell_of_row _ _ _ _ _ _ hW').trans rfl) Try.underlying3 rfl) hq0 ?_
      simp only [Act.put, List.setIfInBounds_toArray, List.set_cons_zero, List.set_cons_succ]
      refine takeL (i := 9) (v := (.pointer (some ⟨X, 3, none⟩))) rfl (by kernel_rfl) (by kernel_rfl) (by kernel_rfl) (fun _ _ _ h => h) (Or.inl ⟨rfl, fun _ _ => rfl⟩) hq0 ?_
      simp only [Act.put, List.setIfInBounds_toArray, List.set_cons_zero, List.set_cons_succ]
      refine takeL (i := 10) (v := _) rfl (by kernel_rfl) (by kernel_rfl) (by kernel_rfl) (fun _ _ _ h => h) (yieldsIf_cell rfl 3 _ rfl ⟨X, 3, none⟩ rfl (.int .i64 x.s) _ (fun W' hW' => (cell_of_row _ _ _ _ _ _ hW').trans rfl) Try.underlying3 rfl) hq0 ?_
      simp only [Act.put, List.setIfInBounds_toArray, List.set_cons_zero, List.set_cons_succ]
      refine takeL (i := 11) (v := (.int .i64 (max 0 x.s))) rfl (by kernel_rfl) (by kernel_rfl) (by kernel_rfl) (fun _ _ _ h => h) (Or.inl ⟨rfl, fun W' _ => by go_simp; split <;> omega⟩) hq0 ?_
      simp only [Act.put, List.setIfInBounds_toArray, List.set_cons_zero, List.set_cons_succ]
      refine runL (i := 5) rfl rfl (by kernel_rfl) (fun K hK => ?_)
      go_simp
      refine (p_short w wd f db X _ M M n A HPD.out HM.out (by omega) (by omega) x.p x.s).mono ?_
      rintro e wc1 ⟨rfl, hpd, hrw⟩
      have hq1 := (fun (_ : _) => hrw) hq0
      have HPE := Lib.hid hpd
      clear hpd
      refine hK.out _ _ hq1 (fun hHeld => ?_)
      try simp only [Act.put, List.setIfInBounds_toArray, List.set_cons_zero, List.set_cons_succ]
      clear hK K hHeld
      refine runL (i := 12) rfl rfl (by kernel_rfl) (fun K hK => ?_)
      go_simp
      refine (q_short w wc1 f db X _ _ M n A HPE.out HM.out x.p x.s (by omega)).mono ?_
      rintro e wc2 ⟨rfl, hpd, hrw2⟩
      have hq2 := (fun (_ : _) => hrw2) hq1
      have hM2 := short_ok HM.out x.p x.s
      have hML2 : ((shorts x.p x.s M).length : Int) ≤ n := by have := fm_len (st := shortE x.p x.s) M; unfold shorts; omega
      generalize shorts x.p x.s M = M2 at hpd hM2 hML2
      have HPZ := Lib.hid hpd
      have HM2 := Lib.hid hM2
      have HML2 := Lib.hid hML2
      clear hpd hM2 hML2 HPE
      refine hK.out _ _ hq2 (fun hHeld => ?_)
      try simp only [Act.put, List.setIfInBounds_toArray, List.set_cons_zero, List.set_cons_succ]
      clear hK K hHeld
      refine takeL (i := 13) (v := (.bool false)) rfl (by kernel_rfl) (by kernel_rfl) (by kernel_rfl) (fun _ _ _ h => h) (Or.inl ⟨rfl, fun W' _ => by go_simp⟩) hq2 ?_
      simp only [Act.put, List.setIfInBounds_toArray, List.set_cons_zero, List.set_cons_succ]
      refine wpAnyH_done (by kernel_rfl) ?_ _
      clear hq0 hq1 hq2 hrw hrw2 c0 c1 c2 c3
      have HFE := Lib.hid HPZ.out.fd
      go_wp2_with fail
      obtain ⟨u, hu, hcu⟩ : ∃ u, EntsAt wc2 u M2 ∧ ∀ w', Ext wc2 w' → w'.cell? ⟨db, 2, none⟩ = some u := by
        obtain ⟨F, q1, q2, q3, q4, q5⟩ := HFE.out
        obtain ⟨v, h1, h2, h3⟩ := q3.ents
        exact ⟨v, h1, h3⟩
      refine beginL (S := fun W' => Ext wc2 W') (by kernel_rfl) ?_
      intro wd hqx
      have hq0 : Ext wc2 wd := hqx
      refine takeL (i := 0) (v := (.pointer (some ⟨f, 0, none⟩))) rfl (by kernel_rfl) (by kernel_rfl) (by kernel_rfl) (fun _ _ _ h => h) (Or.inl ⟨rfl, fun _ _ => rfl⟩) hq0 ?_
      simp only [Act.put, List.setIfInBounds_toArray, List.set_cons_zero, List.set_cons_succ]
      refine takeL (i := 2) (v := (.pointer (some ⟨db, 0, none⟩))) rfl (by kernel_rfl) (by kernel_rfl) (by kernel_rfl) (fun _ _ _ h => h) (Or.inl ⟨rfl, fun _ _ => rfl⟩) hq0 ?_
      simp only [Act.put, List.setIfInBounds_toArray, List.set_cons_zero, List.set_cons_succ]
      refine takeL (i := 3) (v := (.pointer (some ⟨db, 0, none⟩))) rfl (by kernel_rfl) (by kernel_rfl) (by kernel_rfl) (fun _ _ _ h => h) (Or.inl ⟨rfl, fun _ _ => rfl⟩) hq0 ?_
      simp only [Act.put, List.setIfInBounds_toArray, List.set_cons_zero, List.set_cons_succ]
      refine takeL (i := 4) (v := (.pointer (some ⟨db, 2, none⟩))) rfl (by kernel_rfl) (by kernel_rfl) (by kernel_rfl) (fun _ _ _ h => h) (Or.inl ⟨rfl, fun _ _ => rfl⟩) hq0 ?_
      simp only [Act.put, List.setIfInBounds_toArray, List.set_cons_zero, List.set_cons_succ]
      refine takeL (i := 5) (v := _) rfl (by kernel_rfl) (by kernel_rfl) (by kernel_rfl) (fun _ _ _ h => h) (yieldsIf_cell rfl 27 _ rfl ⟨db, 2, none⟩ rfl u _ (fun W' hW' => hcu W' hW') Try.underlying27 rfl) hq0 ?_
      simp only [Act.put, List.setIfInBounds_toArray, List.set_cons_zero, List.set_cons_succ]
      refine runL (i := 1) rfl rfl (by kernel_rfl) (fun K hK => ?_)
      go_simp
      refine (fd_all w wd f db M2 M2 n A (HFE.out.grow hqx) HM2.out (by have := HML2.out; omega)).mono ?_
      rintro e wc1 ⟨aa, ac, rfl, hown, hx⟩
      have hq1 := hq0.trans hx
      refine hK.out _ _ hq1 (fun hHeld => ?_)
      try simp only [Act.put, List.setIfInBounds_toArray, List.set_cons_zero, List.set_cons_succ]
      clear hK K hHeld
      refine runL (i := 6) rfl rfl (by kernel_rfl) (fun K hK => ?_)
      go_simp
      refine (same_any wc1 _ u M2 ((ents_own hown)) (hu.ext hq1) (by have := HML2.out; omega)).mono ?_
      rintro e wc2 ⟨rfl, hx⟩
      have hq2 := hq1.trans hx
      refine hK.out _ _ hq2 (fun hHeld => ?_)
      try simp only [Act.put, List.setIfInBounds_toArray, List.set_cons_zero, List.set_cons_succ]
      clear hK K hHeld
      refine takeL (i := 7) (v := (.bool false)) rfl (by kernel_rfl) (by kernel_rfl) (by kernel_rfl) (fun _ _ _ h => h) (Or.inl ⟨rfl, fun _ _ => rfl⟩) hq2 ?_
      simp only [Act.put, List.setIfInBounds_toArray, List.set_cons_zero, List.set_cons_succ]
      refine wpAnyH_done (by kernel_rfl) ?_ _
      have hxz := hq2
      clear hq0 hqx hu hcu hown
      go_wp2_with fail
      go_roundw
      case rel => exact ⟨i + 1, by omega, by go_num, _, HM2.out, HML2.out, HFE.out.grow hxz⟩
      case measure => simp [intOf] <;> omega
    · obtain rfl : i = L.length := by omega
      have dlt : decide ((L.length : Int) < (L.length : Int)) = false := by simp
      have HML := Lib.hid hMl
      go_wp2_with fail
      obtain ⟨u, hu, hcu⟩ : ∃ u, EntsAt wr u M ∧ ∀ w', Ext wr w' → w'.cell? ⟨db, 2, none⟩ = some u := by
        obtain ⟨F, q1, q2, q3, q4, q5⟩ := HX.out
        obtain ⟨v, h1, h2, h3⟩ := q3.ents
        exact ⟨v, h1, h3⟩
      refine beginL (S := fun W' => Ext wr W') (by kernel_rfl) ?_
      intro wd hqx
      have hq0 : Ext wr wd := hqx
      refine takeL (i := 0) (v := (.bool true)) rfl (by kernel_rfl) (by kernel_rfl) (by kernel_rfl) (fun _ _ _ h => h) (Or.inl ⟨rfl, fun _ _ => rfl⟩) hq0 ?_
      simp only [Act.put, List.setIfInBounds_toArray, List.set_cons_zero, List.set_cons_succ]
      refine takeL (i := 1) (v := (.bool true)) rfl (by kernel_rfl) (by kernel_rfl) (by kernel_rfl) (fun _ _ _ h => h) (Or.inl ⟨rfl, fun _ _ => rfl⟩) hq0 ?_
      simp only [Act.put, List.setIfInBounds_toArray, List.set_cons_zero, List.set_cons_succ]
      refine takeL (i := 2) (v := (.pointer (some ⟨f, 0, none⟩))) rfl (by kernel_rfl) (by kernel_rfl) (by kernel_rfl) (fun _ _ _ h => h) (Or.inl ⟨rfl, fun _ _ => rfl⟩) hq0 ?_
      simp only [Act.put, List.setIfInBounds_toArray, List.set_cons_zero, List.set_cons_succ]
      refine takeL (i := 4) (v := (.pointer (some ⟨db, 0, none⟩))) rfl (by kernel_rfl) (by kernel_rfl) (by kernel_rfl) (fun _ _ _ h => h) (Or.inl ⟨rfl, fun _ _ => rfl⟩) hq0 ?_
      simp only [Act.put, List.setIfInBounds_toArray, List.set_cons_zero, List.set_cons_succ]
      refine takeL (i := 5) (v := (.pointer (some ⟨db, 0, none⟩))) rfl (by kernel_rfl) (by kernel_rfl) (by kernel_rfl) (fun _ _ _ h => h) (Or.inl ⟨rfl, fun _ _ => rfl⟩) hq0 ?_
      simp only [Act.put, List.setIfInBounds_toArray, List.set_cons_zero, List.set_cons_succ]
      refine takeL (i := 6) (v := (.pointer (some ⟨db, 2, none⟩))) rfl (by kernel_rfl) (by kernel_rfl) (by kernel_rfl) (fun _ _ _ h => h) (Or.inl ⟨rfl, fun _ _ => rfl⟩) hq0 ?_
      simp only [Act.put, List.setIfInBounds_toArray, List.set_cons_zero, List.set_cons_succ]
      refine takeL (i := 7) (v := _) rfl (by kernel_rfl) (by kernel_rfl) (by kernel_rfl) (fun _ _ _ h => h) (yieldsIf_cell rfl 27 _ rfl ⟨db, 2, none⟩ rfl u _ (fun W' hW' => hcu W' hW') Try.underlying27 rfl) hq0 ?_
      simp only [Act.put, List.setIfInBounds_toArray, List.set_cons_zero, List.set_cons_succ]
      refine runG (i := 3) rfl (by rfl) (by kernel_rfl) (fun K hK => ?_)
      go_simp
      refine (fd_all w wd f db M M n A (HX.out.grow hqx) HM.out (by have := HML.out; omega)).mono ?_
      rintro e wc1 ⟨aa, ac, rfl, hown, hx⟩
      have hq1 := hq0.trans hx
      refine hK.out _ _ hq1 (fun hHeld => ?_)
      try simp only [Act.put, List.setIfInBounds_toArray, List.set_cons_zero, List.set_cons_succ]
      clear hK K hHeld
      refine runG (i := 8) rfl (by rfl) (by kernel_rfl) (fun K hK => ?_)
      go_simp
      refine (same_any wc1 _ u M ((ents_own hown)) (hu.ext hq1) (by have := HML.out; omega)).mono ?_
      rintro e wc2 ⟨rfl, hx⟩
      have hq2 := hq1.trans hx
      refine hK.out _ _ hq2 (fun hHeld => ?_)
      try simp only [Act.put, List.setIfInBounds_toArray, List.set_cons_zero, List.set_cons_succ]
      clear hK K hHeld
      refine takeL (i := 9) (v := (.bool true)) rfl (by kernel_rfl) (by kernel_rfl) (by kernel_rfl) (fun _ _ _ h => h) (Or.inl ⟨rfl, fun _ _ => rfl⟩) hq2 ?_
      simp only [Act.put, List.setIfInBounds_toArray, List.set_cons_zero, List.set_cons_succ]
      refine takeL (i := 10) (v := (.bool true)) rfl (by kernel_rfl) (by kernel_rfl) (by kernel_rfl) (fun _ _ _ h => h) (Or.inl ⟨rfl, fun _ _ => rfl⟩) hq2 ?_
      simp only [Act.put, List.setIfInBounds_toArray, List.set_cons_zero, List.set_cons_succ]
      refine wpAnyH_done (by kernel_rfl) ?_ _
      go_wp2_with fail
      go_ret
      exact ⟨rfl, HX.out.ext.trans hq2⟩

end Go.Proofs.Ytheackckmhbodaa
