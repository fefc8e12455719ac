/- The walk of RelayAgain. No statement is proved here. -/
import Derived.Test.YtemmfbedchfekaaRlF
namespace Go.Proofs.Ytemmfbedchfekaa
open Go.RowKit Go.BigFrame Go.WideShapes Go.ChangeShapes Go.Deep
set_option linter.unusedVariables false
set_option linter.unusedSimpArgs false
set_option maxRecDepth 100000

theorem outL_false (B : Br) (inn p q : Int) (n : Nat) : outL B inn p false n = outL B inn q false n := rfl
theorem goes_again {B : Br} {L1 L2 : List En} {inn src dst : Int} {xs1 xs2 : List Int} (hi : inn < 9223372036854775808) (h1 : GoesP B 9 300 [] inn src dst L1 xs1) (h2 : GoesP B 9 300 L1 inn src dst L2 xs2) : L2 = L1 ∧ xs2 = xs1 ∧ L1.length ≤ 1 ∧ Ok 300 L1 := by
  rcases h1 with ⟨hc, rfl, rfl⟩ | ⟨hc, hl1, ho1⟩
  · rcases h2 with ⟨_, rfl, rfl⟩ | ⟨hd, _⟩
    · exact ⟨rfl, rfl, by simp, nil_ok 300⟩
    · exfalso
      rcases hc with h | h | h | h
      · omega
      · omega
      · rw [hd.2.2.1] at h; cases h
      · rw [hd.2.2.2] at h; cases h
  · rcases h2 with ⟨hd, _⟩ | ⟨_, hl2, ho2⟩
    · exfalso
      rcases hd with h | h | h | h
      · omega
      · omega
      · rw [hc.2.2.1] at h; cases h
      · rw [hc.2.2.2] at h; cases h
    · have hL : L2 = L1 ∧ L1.length ≤ 1 ∧ Ok 300 L1 := by
        rcases hl1 with ⟨hk, hl1⟩ | ⟨hk, rfl⟩
        · obtain ⟨m, hm⟩ : ∃ m, src % 281474976710656 = m := ⟨_, rfl⟩
          have hk0 := hk.2
          unfold okM at hk0
          rw [hm] at hl1 hl2 hk0
          have e1 : L1 = [(m, inn, 300)] := by
            rcases hl1 with ⟨_, rfl⟩ | ⟨_, h, _⟩
            · rfl
            · simp at h
          subst e1
          have hok : Ok 300 [(m, inn, (300 : Int))] := by
            have := (nil_ok 300).ins (e := (m, inn, 300)) ⟨by dsimp only; omega, by dsimp only; omega, by dsimp only; omega, by dsimp only; omega⟩
            exact this
          rcases hl2 with ⟨_, hl2⟩ | ⟨hn, _⟩
          · refine ⟨?_, by simp, hok⟩
            rcases hl2 with ⟨_, rfl⟩ | ⟨hn, _⟩
            · show ins (m, inn, 300) [(m, inn, 300)] = _
              unfold ins
              rw [if_neg (by omega), if_pos rfl]
            · exact absurd (by simp) hn
          · exact absurd hk hn
        · rcases hl2 with ⟨hk2, _⟩ | ⟨_, rfl⟩
          · exact absurd hk2 hk
          · exact ⟨rfl, by simp, nil_ok 300⟩
      obtain ⟨rfl, hl, hok⟩ := hL
      refine ⟨rfl, ?_, hl, hok⟩
      rcases ho1 with ⟨hf, p, kn, hp, rfl⟩ | ⟨hf, rfl⟩
      · rcases ho2 with ⟨_, p2, kn2, hp2, rfl⟩ | ⟨hf2, _⟩
        · unfold OneP at hp hp2
          by_cases hg : dst / 1099511627776 % 2 = 1
          · rw [if_pos hg] at hp hp2
            rw [hp, hp2]
            exact outL_false _ _ _ _ _
          · rw [if_neg hg] at hp hp2
            rcases hp with ⟨e0, he, hk, rfl, rfl⟩ | ⟨hn, rfl⟩
            · rcases hp2 with ⟨e1, he1, hk1, rfl, rfl⟩ | ⟨hn, _⟩
              · rw [hok.uni he he1 (by omega)]
              · exact absurd (List.mem_map.2 ⟨e0, he, hk⟩) hn
            · rcases hp2 with ⟨e1, he1, hk1, _⟩ | ⟨_, rfl⟩
              · exact absurd (List.mem_map.2 ⟨e1, he1, hk1⟩) hn
              · exact outL_false _ _ _ _ _
        · rw [hf] at hf2; cases hf2
      · rcases ho2 with ⟨hf2, _⟩ | ⟨_, rfl⟩
        · rw [hf] at hf2; cases hf2
        · rfl
set_option maxRecDepth 100000 in
set_option maxHeartbeats 1000000 in
theorem law_RelayAgain {w : World} (c : Array Value) (B : Br) (hb : BrC w c B) (ho : B.ok) (nn : Int) (hnn : -9223372036854775808 ≤ nn ∧ nn ≤ 9223372036854775807) (src : Int) (hsrc : 0 ≤ src ∧ src < 18446744073709551616) (dst : Int) (hdst : 0 ≤ dst ∧ dst < 18446744073709551616) :
    Calls Try.prog 7 #[.agg c, .agg #[.int .i64 nn, .int .u64 src, .int .u64 dst]] w fun e w' => e = .returned (.bool true) ∧ Ext w w' := by
  have HBC0 := Lib.hid hb
  have hcz : c.size = 20 := by
    obtain ⟨_, _, _, hz, _⟩ := hb.facts ho.hd.1
    exact hz
  have hci := Lib.hid (show (Try.prog.info? 33).map (·.size) = some c.size by rw [hcz]; exact size_br)
  clear hb hcz
  go_enter Try.func7, Try.ntmps7
  go_wp2_with fail
  refine (awake19 _).mono ?_
  rintro e w1 ⟨rfl, hx1⟩
  have hxr : w1.heap[w.heap.size]? = some (.cells c 33 (0, 0)) := (hx1.block _ (by simp; omega)).trans ((heap_alloc_old _ _ (by simp)).trans (heap_alloc_new _ _))
  have hyr : w1.heap[w.heap.size + 1]? = some (.cells #[.int .i64 nn, .int .u64 src, .int .u64 dst] 45 (0, 0)) := (hx1.block _ (by simp)).trans (heap_alloc2_new _ _ _)
  have hx01 : Ext w w1 := (((Ext.refl w).alloc _).alloc _).trans hx1
  obtain ⟨X, hX⟩ : ∃ X, w.heap.size = X := ⟨_, rfl⟩
  rw [hX] at hxr hyr ⊢
  obtain ⟨Y, hY⟩ : ∃ Y, X + 1 = Y := ⟨_, rfl⟩
  rw [hY] at hyr ⊢
  have HXR := Lib.hid hxr
  have HYR := Lib.hid hyr
  have HX1 := Lib.hid hx01
  clear hx1 hxr hyr hX hY hx01
  go_wp2_with (first
    | fail
    | ((with_reducible refine at_load 33 ?_); refine wpList_load_row rfl 33 _ rfl X rfl 33 c (0, 0) _ HXR.out Try.underlying33 rfl hci.out ?_))
  refine (few_any c B w1 (HBC0.out.ext HX1.out) ho).mono ?_
  rintro e w2 ⟨fw, rfl, hx2, hfew⟩
  have HXR2 := Lib.hid ((hx2.block X (heap_lt HXR.out)).trans HXR.out)
  have HYR2 := Lib.hid ((hx2.block Y (heap_lt HYR.out)).trans HYR.out)
  have HW2 := Lib.hid (HX1.out.trans hx2)
  clear hx2 HXR HYR
  go_wp2_with fail
  refine (new_good w2 9 300 (by decide)).mono ?_
  rintro e w3 ⟨f, rfl, hx3, -, hb3⟩
  obtain ⟨F, hF⟩ : ∃ F : Nat → Prop, F = fun k => w2.heap.size ≤ k ∧ k < w3.heap.size := ⟨_, rfl⟩
  rw [← hF] at hb3
  have HF0 := Lib.hid (show ∀ k, F k → w2.heap.size ≤ k from fun k h => by rw [hF] at h; exact h.1)
  have HB3 := Lib.hid hb3
  have HW3 := Lib.hid (HW2.out.trans hx3)
  have HXR3 := Lib.hid ((hx3.block X (heap_lt HXR2.out)).trans HXR2.out)
  have HYR3 := Lib.hid ((hx3.block Y (heap_lt HYR2.out)).trans HYR2.out)
  have HXl := Lib.hid (And.intro (heap_lt HXR2.out) (heap_lt HYR2.out))
  clear hb3 hF
  cases fw with
  | false =>
    clear hfew hx3
    go_wp2_with fail
    go_ret
    exact ⟨rfl, HW3.out⟩
  | true =>
  obtain ⟨-, hnp1, hnp8, hno, hnf⟩ := hfew.1 rfl
  have HN := Lib.hid (show B.np ≤ 1000 ∧ B.no ≤ 1000 ∧ B.nf ≤ 1000 by omega)
  clear hfew hx3
  have y1 : w3.cell? ⟨Y, 1, none⟩ = some (.int .u64 src) := by rw [cell_row HYR3.out]; rfl
  have y2 : w3.cell? ⟨Y, 2, none⟩ = some (.int .u64 dst) := by rw [cell_row HYR3.out]; rfl
  by_cases heq : IntKind.u64.wrap (src * 65536) = IntKind.u64.wrap (dst * 65536)
  · have de : (IntKind.u64.wrap (src * 65536) == IntKind.u64.wrap (dst * 65536)) = true := by simpa using heq
    clear heq
    go_wp2_with fail
    go_ret
    exact ⟨rfl, HW3.out⟩
  have de : (IntKind.u64.wrap (src * 65536) == IntKind.u64.wrap (dst * 65536)) = false := by simpa using heq
  clear heq
  go_wp2_with (first
    | fail
    | ((with_reducible refine at_load 33 ?_); refine wpList_load_row rfl 33 _ rfl X rfl 33 c (0, 0) _ HXR3.out Try.underlying33 rfl hci.out ?_))
  refine (clone_any c B w3 (HBC0.out.ext HW3.out) ho HN.out).mono ?_
  rintro e w4 ⟨c2, rfl, hoc, hx4⟩
  have HOC := Lib.hid hoc
  have HX4 := Lib.hid hx4
  have hcs : c2.size = 20 := hoc.size ho
  have hcl := Lib.hid (show 0 + c2.size ≤ BZ.size by rw [hcs]; decide)
  have hci2 := Lib.hid (show (Try.prog.info? 33).map (·.size) = some c2.size by rw [hcs]; exact size_br)
  have hc1 := Lib.hid (hoc.one ho)
  have hcf := Lib.hid (full_row hcs)
  clear hoc hcs
  have y0 : w4.cell? ⟨Y, 0, none⟩ = some (.int .i64 nn) := by rw [cell_row ((hx4.block Y (heap_lt HYR3.out)).trans HYR3.out)]; rfl
  clear hx4 y1 y2 y0
  go_upto_region 7 with (first
    | fail
    | ((with_reducible refine at_alloc 33 ?_); refine al_zero rfl 33 rfl BZ zero_br ?_
       intro Z wz hqz hsz hxz)
    | ((with_reducible refine at_store 33 ?_); refine st_at rfl rfl 33 _ _ rfl Z 0 _ c2 BZ c2 33 rfl rfl rfl hqz hcl.out hci2.out hc1.out hcf.out ?_
       intro w5 hq5 hm5
       have HE5 := Lib.hid (show Ext w4 w5 from hxz.mutE hm5 (fun n hn h => by have h2 : n = Z := h; omega))
       have HZ5 := Lib.hid hq5
       have hZs : w4.heap.size = Z := hsz
       clear hqz hsz hxz hq5 hm5))
  have HE35 := Lib.hid (HX4.out.trans HE5.out)
  obtain ⟨g, hbg⟩ := brg_box HOC.out (by omega) HE5.out HZ5.out (by have := HX4.out.size; omega)
  have hdis : ∀ k, (w3.heap.size ≤ k ∧ k < w5.heap.size) → ¬ F k := fun k hk hc => by have := HB3.out.lt k hc; omega
  obtain ⟨C, hCr, hBK, -⟩ := hbg.brk (F := F) (by omega) hdis
  obtain rfl : C = c2 := by
    have := hCr.symm.trans HZ5.out
    injection this with this
    injection this
  have HBK := Lib.hid hBK
  have HXR5 := Lib.hid ((HE35.out.block X (heap_lt HXR3.out)).trans HXR3.out)
  have HYR5 := Lib.hid ((HE35.out.block Y (heap_lt HYR3.out)).trans HYR3.out)
  have y0 : w5.cell? ⟨Y, 0, none⟩ = some (.int .i64 nn) := by rw [cell_row HYR5.out]; rfl
  have y1 : w5.cell? ⟨Y, 1, none⟩ = some (.int .u64 src) := by rw [cell_row HYR5.out]; rfl
  have y2 : w5.cell? ⟨Y, 2, none⟩ = some (.int .u64 dst) := by rw [cell_row HYR5.out]; rfl
  have HZn := Lib.hid (show w3.heap.size ≤ Z by have := HX4.out.size; omega)
  clear hbg hCr hBK hcl hc1 hcf hdis hZs
  go_wp2_with (first
    | fail
    | ((with_reducible refine at_load 33 ?_); refine wpList_load_row rfl 33 _ rfl Z rfl 33 C (0, 0) _ HZ5.out Try.underlying33 rfl hci2.out ?_))
  refine (out_any w5 F f [] 9 300 (HB3.out.ext HE35.out) (nil_ok 300) (by decide) (by decide) C B HBK.out ho ⟨by omega, by omega⟩ nn src dst (by omega) hsrc hdst).mono ?_
  rintro e w6 ⟨L1, xs1, hg1, v1, F1, base1, rfl, ho1, hbs1, hFb1, hb6, hFs1, hm1⟩
  have hnF : ∀ k, k = X ∨ k = Y ∨ k = Z → ¬ F k := fun k hk hc => by
    have h1 := HF0.out k hc
    have h2 := HB3.out.lt k hc
    have := HXl.out
    have := HZn.out
    omega
  have HF1 := Lib.hid (show ∀ k, F1 k → F k ∨ w5.heap.size ≤ k from hFs1)
  have HB6 := Lib.hid hb6
  have HBK6 := Lib.hid (HBK.out.step (F1 := F1) hm1.size (fun k hk hn => hm1.heap hk hn) (fun k hk h => by rcases hFs1 k h with h | h; exact h; omega))
  have HX6 := Lib.hid ((hm1.heap (heap_lt HXR5.out) (hnF X (.inl rfl))).trans HXR5.out)
  have HY6 := Lib.hid ((hm1.heap (heap_lt HYR5.out) (hnF Y (.inr (.inl rfl)))).trans HYR5.out)
  have HZ6 := Lib.hid ((hm1.heap (heap_lt HZ5.out) (hnF Z (.inr (.inr rfl)))).trans HZ5.out)
  have HW6 := Lib.hid (ext_mut (HW3.out.trans HE35.out) hm1 (fun n hn hc => by have := HF0.out n hc; have := HW2.out.size; omega))
  have HO1 := Lib.hid ho1
  have HFB1 := Lib.hid hFb1
  have HG1 := Lib.hid hg1
  obtain ⟨hok1, hl1⟩ := goes_ok hg1 (nil_ok 300) (by decide) (by decide) (by decide) (by omega) hsrc.1
  have HOK1 := Lib.hid hok1
  have HS5 := Lib.hid hm1.size
  obtain ⟨va1, vc1, rfl⟩ := own_form ho1
  have HNF := Lib.hid hnF
  clear hg1 ho1 hbs1 hFb1 hb6 hFs1 hm1 hok1 y0 y1 y2 hnF
  have hL1 : L1.length ≤ 12 := by
    rcases HG1.out with ⟨_, rfl, _⟩ | ⟨_, h, _⟩
    · simp
    · rcases h with ⟨_, h⟩ | ⟨_, rfl⟩
      · rcases h with ⟨_, rfl⟩ | ⟨_, h, _⟩
        · simp [ins]
        · simp at h
      · simp
  go_wp2_with fail
  refine (all_any w6 F1 f L1 9 300 HB6.out HOK1.out hL1).mono ?_
  rintro e wa ⟨va, rfl, hxa, howa⟩
  obtain ⟨ava, aca, rfl⟩ := own_form howa
  obtain ⟨n1, hn1⟩ : ∃ n, L1.length = n := ⟨_, rfl⟩
  rw [hn1]
  have HLN := Lib.hid hn1
  have HXA := Lib.hid hxa
  have HZA := Lib.hid ((hxa.block Z (heap_lt HZ6.out)).trans HZ6.out)
  have HYA := (hxa.block Y (heap_lt HY6.out)).trans HY6.out
  have y0 : wa.cell? ⟨Y, 0, none⟩ = some (.int .i64 nn) := by rw [cell_row HYA]; rfl
  have y1 : wa.cell? ⟨Y, 1, none⟩ = some (.int .u64 src) := by rw [cell_row HYA]; rfl
  have y2 : wa.cell? ⟨Y, 2, none⟩ = some (.int .u64 dst) := by rw [cell_row HYA]; rfl
  have HBKA := Lib.hid (HBK6.out.step (F1 := F1) hxa.size (fun k hk _ => hxa.block k hk) (fun k _ h => h))
  clear hxa howa hn1 HYA
  go_wp2_with (first
    | fail
    | ((with_reducible refine at_load 33 ?_); refine wpList_load_row rfl 33 _ rfl Z rfl 33 C (0, 0) _ HZA.out Try.underlying33 rfl hci2.out ?_))
  refine (out_any wa F1 f L1 9 300 (HB6.out.ext HXA.out) HOK1.out (by decide) ⟨by decide, by decide, hl1⟩ C B HBKA.out ho ⟨by omega, by omega⟩ nn src dst (by omega) hsrc hdst).mono ?_
  rintro e w7 ⟨L2, xs2, hg2, v2, F2, base2, rfl, ho2, hbs2, hFb2, hb7, hFs2, hm2⟩
  obtain ⟨rfl, rfl, hll, -⟩ := goes_again (by omega) HG1.out hg2
  have hnF1 : ∀ k, k = X ∨ k = Y ∨ k = Z → ¬ F1 k := fun k hk hc => by
    rcases HF1.out k hc with h | h
    · exact HNF.out k hk h
    · have h1 := heap_lt HXR5.out
      have h2 := heap_lt HYR5.out
      have h3 := heap_lt HZ5.out
      rcases hk with rfl | rfl | rfl <;> omega
  have HB7 := Lib.hid hb7
  have HZ7 := Lib.hid ((hm2.heap (heap_lt HZA.out) (hnF1 Z (.inr (.inr rfl)))).trans HZA.out)
  have hXA := (HXA.out.block X (heap_lt HX6.out)).trans HX6.out
  have HX7 := Lib.hid ((hm2.heap (heap_lt hXA) (hnF1 X (.inl rfl))).trans hXA)
  have HW7 := Lib.hid (ext_mut (HW6.out.trans HXA.out) hm2 (fun n hn hc => by
    rcases HF1.out n hc with h | h
    · have := HF0.out n h; have := HW2.out.size; omega
    · have := HW3.out.size; have := HE35.out.size; omega))
  have hi1 := ints_own (own_mut (owns_ext HO1.out HXA.out) hm2 HFB1.out)
  have hi2 := ints_own ho2
  have HB2 := Lib.hid ((HBKA.out.step (F1 := F2) hm2.size (fun k hk hn => hm2.heap hk hn) (fun k hk h => by rcases hFs2 k h with h | h; exact h; omega)).br)
  have HBC := Lib.hid (HBC0.out.ext HW7.out)
  have HLX := Lib.hid (goes_len hg2)
  have HOK := HOK1
  have HLL := Lib.hid hll
  obtain ⟨va2, vc2, rfl⟩ := own_form ho2
  clear hg2 ho2 hbs2 hFb2 hb7 hFs2 hm2 hll hnF1 hXA y0 y1 y2
  obtain ⟨m, hm⟩ : ∃ m, xs2.length = m := ⟨_, rfl⟩
  rw [hm] at hi1 hi2 ⊢
  have HI1 := Lib.hid hi1
  have HI2 := Lib.hid hi2
  clear hi1 hi2 hm
  go_wp2_with fail
  refine beginL (S := fun W' => Ext w7 W') (by kernel_rfl) ?_
  intro wd hqx
  have hq0 : Ext w7 wd := hqx
  refine takeL (i := 0) (v := (.bool true)) rfl (by kernel_rfl) (by kernel_rfl) (by kernel_rfl) (fun _ _ _ h => h) (Or.inl ⟨rfl, fun _ _ => rfl⟩) hq0 ?_
  simp only [Act.put, List.setIfInBounds_toArray, List.set_cons_zero, List.set_cons_succ]
  refine takeL (i := 1) (v := (.bool true)) rfl (by kernel_rfl) (by kernel_rfl) (by kernel_rfl) (fun _ _ _ h => h) (Or.inl ⟨rfl, fun _ _ => rfl⟩) hq0 ?_
  simp only [Act.put, List.setIfInBounds_toArray, List.set_cons_zero, List.set_cons_succ]
  refine takeL (i := 2) (v := (.slice va1 m vc1)) rfl (by kernel_rfl) (by kernel_rfl) (by kernel_rfl) (fun _ _ _ h => h) (Or.inl ⟨rfl, fun _ _ => rfl⟩) hq0 ?_
  simp only [Act.put, List.setIfInBounds_toArray, List.set_cons_zero, List.set_cons_succ]
  refine takeL (i := 3) (v := (.slice va2 m vc2)) rfl (by kernel_rfl) (by kernel_rfl) (by kernel_rfl) (fun _ _ _ h => h) (Or.inl ⟨rfl, fun _ _ => rfl⟩) hq0 ?_
  simp only [Act.put, List.setIfInBounds_toArray, List.set_cons_zero, List.set_cons_succ]
  refine runG (i := 4) rfl (by rfl) (by kernel_rfl) (fun K hK => ?_)
  go_simp
  refine (ints_any wd _ _ xs2 (HI1.out.ext hq0) (HI2.out.ext hq0) (by have := HLX.out; omega)).mono ?_
  rintro e wc1 ⟨rfl, hx⟩
  have hq1 := hq0.trans hx
  refine hK.out _ _ hq1 (fun hHeld => ?_)
  try simp only [Act.put, List.setIfInBounds_toArray, List.set_cons_zero, List.set_cons_succ]
  clear hK K hHeld
  refine takeL (i := 5) (v := (.bool true)) rfl (by kernel_rfl) (by kernel_rfl) (by kernel_rfl) (fun _ _ _ h => h) (Or.inl ⟨rfl, fun _ _ => rfl⟩) hq1 ?_
  simp only [Act.put, List.setIfInBounds_toArray, List.set_cons_zero, List.set_cons_succ]
  refine takeL (i := 6) (v := (.bool true)) rfl (by kernel_rfl) (by kernel_rfl) (by kernel_rfl) (fun _ _ _ h => h) (Or.inl ⟨rfl, fun _ _ => rfl⟩) hq1 ?_
  simp only [Act.put, List.setIfInBounds_toArray, List.set_cons_zero, List.set_cons_succ]
  refine takeL (i := 7) (v := (.pointer (some ⟨f, 0, none⟩))) rfl (by kernel_rfl) (by kernel_rfl) (by kernel_rfl) (fun _ _ _ h => h) (Or.inl ⟨rfl, fun _ _ => rfl⟩) hq1 ?_
  simp only [Act.put, List.setIfInBounds_toArray, List.set_cons_zero, List.set_cons_succ]
  refine takeL (i := 10) (v := (.int .i64 (n1 : Int))) rfl (by kernel_rfl) (by kernel_rfl) (by kernel_rfl) (fun _ _ _ h => h) (Or.inl ⟨rfl, fun _ _ => rfl⟩) hq1 ?_
  simp only [Act.put, List.setIfInBounds_toArray, List.set_cons_zero, List.set_cons_succ]
  refine runG (i := 8) rfl (by rfl) (by kernel_rfl) (fun K hK => ?_)
  go_simp
  refine (all_any wc1 F2 f L2 9 300 (HB7.out.ext hq1) HOK.out (by have := HLL.out; omega)).mono ?_
  rintro e wc2 ⟨v8, rfl, hx, hown8⟩
  have hq2 := hq1.trans hx
  obtain ⟨av8, ac8, rfl⟩ := own_form hown8
  have HN1 := HLN.out
  rw [HN1]
  clear hown8
  refine hK.out _ _ hq2 (fun hHeld => ?_)
  try simp only [Act.put, List.setIfInBounds_toArray, List.set_cons_zero, List.set_cons_succ]
  clear hK K hHeld
  refine takeL (i := 9) (v := (.int .i64 (n1 : Int))) rfl (by kernel_rfl) (by kernel_rfl) (by kernel_rfl) (fun _ _ _ h => h) (Or.inl ⟨rfl, fun W' _ => by go_simp⟩) hq2 ?_
  simp only [Act.put, List.setIfInBounds_toArray, List.set_cons_zero, List.set_cons_succ]
  refine takeL (i := 11) (v := (.bool true)) rfl (by kernel_rfl) (by kernel_rfl) (by kernel_rfl) (fun _ _ _ h => h) (Or.inl ⟨rfl, fun W' _ => by go_simp⟩) hq2 ?_
  simp only [Act.put, List.setIfInBounds_toArray, List.set_cons_zero, List.set_cons_succ]
  refine takeL (i := 12) (v := (.bool true)) rfl (by kernel_rfl) (by kernel_rfl) (by kernel_rfl) (fun _ _ _ h => h) (Or.inl ⟨rfl, fun _ _ => rfl⟩) hq2 ?_
  simp only [Act.put, List.setIfInBounds_toArray, List.set_cons_zero, List.set_cons_succ]
  refine takeL (i := 13) (v := (.bool true)) rfl (by kernel_rfl) (by kernel_rfl) (by kernel_rfl) (fun _ _ _ h => h) (Or.inl ⟨rfl, fun _ _ => rfl⟩) hq2 ?_
  simp only [Act.put, List.setIfInBounds_toArray, List.set_cons_zero, List.set_cons_succ]
  refine takeL (i := 14) (v := _) rfl (by kernel_rfl) (by kernel_rfl) (by kernel_rfl) (fun _ _ _ h => h) (yieldsIf_rowS rfl 33 _ rfl Z rfl C _ _ (fun W' hW' => (hW'.block _ (heap_lt HZ7.out)).trans HZ7.out) Try.underlying33 rfl hci2.out) hq2 ?_
  simp only [Act.put, List.setIfInBounds_toArray, List.set_cons_zero, List.set_cons_succ]
  refine takeL (i := 15) (v := _) rfl (by kernel_rfl) (by kernel_rfl) (by kernel_rfl) (fun _ _ _ h => h) (yieldsIf_rowS rfl 33 _ rfl X rfl c _ _ (fun W' hW' => (hW'.block _ (heap_lt HX7.out)).trans HX7.out) Try.underlying33 rfl hci.out) hq2 ?_
  simp only [Act.put, List.setIfInBounds_toArray, List.set_cons_zero, List.set_cons_succ]
  refine runG (i := 16) rfl (by rfl) (by kernel_rfl) (fun K hK => ?_)
  go_simp
  refine (clone_any c B wc2 ((HBC.out.ext hq2)) ho HN.out).mono ?_
  rintro e wc3 ⟨c3, rfl, hoc3, hx⟩
  have hq3 := hq2.trans hx
  refine hK.out _ _ hq3 (fun hHeld => ?_)
  try simp only [Act.put, List.setIfInBounds_toArray, List.set_cons_zero, List.set_cons_succ]
  clear hK K hHeld
  refine runG (i := 17) rfl (by rfl) (by kernel_rfl) (fun K hK => ?_)
  go_simp
  refine (same_any C c3 B wc3 (HB2.out.ext hq3) (hoc3.br) ho).mono ?_
  rintro e wc4 ⟨rfl, hx⟩
  have hq4 := hq3.trans hx
  refine hK.out _ _ hq4 (fun hHeld => ?_)
  try simp only [Act.put, List.setIfInBounds_toArray, List.set_cons_zero, List.set_cons_succ]
  clear hK K hHeld
  refine takeL (i := 18) (v := (.bool true)) rfl (by kernel_rfl) (by kernel_rfl) (by kernel_rfl) (fun _ _ _ h => h) (Or.inl ⟨rfl, fun _ _ => rfl⟩) hq4 ?_
  simp only [Act.put, List.setIfInBounds_toArray, List.set_cons_zero, List.set_cons_succ]
  refine takeL (i := 19) (v := (.bool true)) rfl (by kernel_rfl) (by kernel_rfl) (by kernel_rfl) (fun _ _ _ h => h) (Or.inl ⟨rfl, fun _ _ => rfl⟩) hq4 ?_
  simp only [Act.put, List.setIfInBounds_toArray, List.set_cons_zero, List.set_cons_succ]
  refine wpAnyH_done (by kernel_rfl) ?_ _
  clear hq0 hqx
  go_wp2_with fail
  go_ret
  exact ⟨rfl, HW7.out.trans hq4⟩

end Go.Proofs.Ytemmfbedchfekaa
