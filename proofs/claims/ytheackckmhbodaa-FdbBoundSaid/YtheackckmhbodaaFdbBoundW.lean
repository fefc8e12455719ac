/- The walk of FdbBound (under way). No statement is proved here. -/
import Derived.Test.YtheackckmhbodaaFdR
namespace Go.Proofs.Ytheackckmhbodaa
open Go.RowKit Go.BigFrame Go.WideShapes Go.ChangeShapes Go.Deep
set_option linter.unusedVariables false
set_option linter.unusedSimpArgs false

set_option maxRecDepth 100000 in
set_option maxHeartbeats 4000000 in
theorem law_FdbBound {w : World} (a : Int) (ha : 0 ≤ a ∧ a < 256) (b : Int) (hb : 0 ≤ b ∧ b < 256) (v : Value) (L : List Ac) (h : ActsAt w v L ∧ ∀ h ∈ L, h.wf) :
    Calls Try.prog 5 #[.int .u8 a, .int .u8 b, v] w fun e w' => e = .returned (.bool true) ∧ Ext w w' := by
  obtain ⟨hacts, hwf⟩ := h
  obtain ⟨av, cap, rfl, hm, hf⟩ := hacts
  obtain ⟨n, hn⟩ : ∃ n : Nat, 1 + a % 8 = (n : Int) := ⟨(1 + a % 8).toNat, by omega⟩
  have hn2 : 1 ≤ n ∧ n ≤ 8 := by omega
  obtain ⟨A, hA⟩ : ∃ A : Int, 1 + b = A := ⟨_, rfl⟩
  have hA2 : 1 ≤ A ∧ A ≤ 256 := by omega
  have HF := Lib.hid hf
  have HWF := Lib.hid hwf
  have ha0 := ha.1
  have hb0 := hb.1
  clear hf hwf
  go_enter Try.func5, Try.ntmps5
  go_wp2_with fail
  refine (awake07 _).mono ?_
  rintro e w1 ⟨rfl, h1⟩
  have E1 := Lib.hid h1
  clear h1
  by_cases hl : 60 < L.length
  · have d0 : decide (60 < (L.length : Int)) = true := by simp; omega
    go_wp2_with fail
    go_ret
    exact ⟨rfl, E1.out⟩
  have d0 : decide (60 < (L.length : Int)) = false := by simp; omega
  go_wp2_with fail
  refine (new_x w1 n A (by omega) w E1.out).mono ?_
  rintro e w2 ⟨f, rfl, h2⟩
  have H2 := Lib.hid h2
  clear h2
  go_wp2_with fail
  go_loopw [9] (fun s wr => ∃ i : Nat, i ≤ L.length ∧ s = .int .i64 i ∧ ∃ M, Ok A M ∧ (M.length : Int) ≤ n ∧ Fx w wr f M n A) (fun s _ => L.length - (intOf s).toNat)
  case atStart => exact ⟨0, by omega, rfl, [], nil_ok A, by simp, H2.out⟩
  case round =>
    clear H2
    obtain ⟨i, hi, rfl, M, hM, hMl, hfx⟩ := hrel
    have HM := Lib.hid hM
    have HX := Lib.hid hfx
    clear hM hfx
    by_cases hlt : i < L.length
    · have dlt : decide ((i : Int) < (L.length : Int)) = true := by simp; omega
      obtain ⟨bb, off, rfl, hbl, hlc, hcm, hrg⟩ := HF.out (by omega)
      obtain ⟨x, hx⟩ : ∃ x, L[i] = x := ⟨_, rfl⟩
      have hxL : L[i]? = some x := by rw [List.getElem?_eq_getElem hlt, hx]
      have hxw := HWF.out x (hx ▸ List.getElem_mem hlt)
      have hr0 : w.rangeAt bb (off + i * 4) x.L := by
        have := flatA_at L i x hxL
        intro j u hu
        have hj : j < 4 := (List.getElem?_eq_some_iff.1 hu).1
        have := hrg (i * 4 + j) u (by rw [← this, List.getElem?_take_of_lt hj, List.getElem?_drop] at hu; exact hu)
        rw [show off + i * 4 + j = off + (i * 4 + j) by omega]
        exact this
      have hr1 := Lib.hid (rangeAt_ext hr0 HX.out.ext hbl)
      clear hrg hr0
      obtain ⟨hxk, hxm, hxp, -⟩ := hxw
      by_cases hk2 : x.k = 2
      · have dk2 : (x.k == 2) = true := by simpa using hk2
        clear hk2
        go_wp2_with (first
          | fail
          | ((with_reducible refine at_load 32 ?_); refine wpList_load_mid rfl 32 _ rfl bb (off + i * 4) rfl x.L _ hr1.out Try.underlying32 rfl size_act ?_)
          | ((with_reducible refine at_alloc 32 ?_); refine al_zero rfl 32 rfl AZ zero_act ?_
             intro X wq hq hs hx)
          | ((with_reducible refine at_store 32 ?_); refine st_at rfl rfl 32 _ _ rfl X 0 _ x.L.toArray AZ x.L.toArray 32 rfl rfl rfl hq (by exact (by decide : 0 + 4 ≤ 4)) (by kernel_rfl) rfl rfl ?_
             intro wb hq' hm'
             have hX : wr.heap.size ≤ X := by omega
             have EB : Ext wr wb := hx.mutE hm' (fun n hn h => by have h2 : n = X := h; omega)
             have HQ := Lib.hid hq'
             have HEB := Lib.hid EB
             have c0 : wb.cell? ⟨X, 0, none⟩ = some (.int .i64 x.k) := by rw [cell_row hq']; rfl
             have c1 : wb.cell? ⟨X, 1, none⟩ = some (.int .u64 x.m) := by rw [cell_row hq']; rfl
             have c2 : wb.cell? ⟨X, 2, none⟩ = some (.int .i64 x.p) := by rw [cell_row hq']; rfl
             clear hx hm' hq hs wq hq' EB))
        refine (tick_x w wb f M n A (HX.out.grow HEB.out) HM.out (by omega)).mono ?_
        rintro e wt ⟨rfl, ht⟩
        have hM2 := tick_ok HM.out
        have hML2 : ((M.filterMap tickE).length : Int) ≤ n := by have := fm_len (st := tickE) M; omega
        generalize M.filterMap tickE = M2 at ht hM2 hML2
        have HM2 := Lib.hid hM2
        have HML2 := Lib.hid hML2
        have HX2 := Lib.hid ht
        clear hM2 hML2 ht c0 c1 c2
        go_wp2_with fail
        refine (all_x w _ f M2 n A HX2.out HM2.out (by have := HML2.out; omega)).mono ?_
        rintro e wA ⟨aa, ac, rfl, hown, hxx, hfA⟩
        obtain ⟨N, hN⟩ : ∃ N, (M2).length = N := ⟨_, rfl⟩
        rw [hN] at hown
        have hN8 : (N : Int) ≤ n := by have := HML2.out; omega
        have dn : decide ((n : Int) < (N : Int)) = false := by simp; omega
        have HO := Lib.hid hown
        have HA := Lib.hid hfA
        have HN := Lib.hid hN
        clear hown hxx hfA hN
        rw [HN.out]
        go_wp2_with fail
        go_loopw [15] (fun s wr => ∃ k : Nat, k ≤ N ∧ s = .int .i64 k ∧ Ext wA wr) (fun s _ => N - (intOf s).toNat)
        case atStart => exact ⟨0, by omega, rfl, Ext.refl _⟩
        case round =>
          obtain ⟨k, hk, rfl, hxk⟩ := hrel
          rename World => wk
          have HXK := Lib.hid hxk
          clear hxk
          by_cases hkl : k < N
          · have dk : decide ((k : Int) < (N : Int)) = true := by simp; omega
            have hkL : k < (M2).length := by rw [HN.out]; exact hkl
            obtain ⟨y, q, t, he⟩ : ∃ y q t, (M2)[k] = (y, q, t) := ⟨_, _, _, rfl⟩
            have hmem : (y, q, t) ∈ M2 := he ▸ List.getElem_mem hkL
            obtain ⟨hy, hq, ht1, ht2⟩ := HM2.out.2 _ hmem
            dsimp only at hy hq ht1 ht2
            have ho2 := owns_ext HO.out HXK.out
            obtain ⟨g, rfl⟩ : ∃ g, aa = some ⟨g, 0, none⟩ := by
              rcases ho2.2 with ⟨h0, _⟩ | ⟨g, cap', cur, hv', _⟩
              · exfalso
                injection h0 with _ h0 _
                omega
              · cases hv'
                exact ⟨g, rfl⟩
            have hr := ent_range ho2 HN.out k hkL
            rw [he] at hr
            have c0 : wk.cell? ⟨g, k * 3, none⟩ = some (.int .u64 y) := hr 0 _ rfl
            have c2 : wk.cell? ⟨g, k * 3 + 2, none⟩ = some (.int .i64 t) := hr 2 _ rfl
            have d1 : decide (t < 1) = false := by simp; omega
            have d2 : decide (A < t) = false := by simp; omega
            have d3 : y / 281474976710656 = 0 := by omega
            rcases Nat.eq_zero_or_pos k with hk0 | hk0
            · subst hk0
              clear hr ho2 hmem he
              go_wp2_with fail
              go_quiet (fail)
              go_wp2_with fail
              go_roundw
              case rel => exact ⟨1, by omega, by go_num, HXK.out.drewN _⟩
              case measure => simp [intOf] <;> omega
            · obtain ⟨kp, hkp⟩ : ∃ kp, k = kp + 1 := ⟨k - 1, by omega⟩
              have hpL : kp < (M2).length := by omega
              obtain ⟨y2, q2, t2, he2⟩ : ∃ y q t, (M2)[kp] = (y, q, t) := ⟨_, _, _, rfl⟩
              have hr2 := ent_range ho2 HN.out kp hpL
              rw [he2] at hr2
              have c3 : wk.cell? ⟨g, kp * 3, none⟩ = some (.int .u64 y2) := hr2 0 _ rfl
              have hwk : IntKind.i64.wrap ((k : Int) - 1) = (kp : Int) := by rw [IntKind.wrap_i64]; omega
              have d4 : decide (0 < (k : Int)) = true := by simp; omega
              have d5 : decide (y ≤ y2) = false := by
                have := List.pairwise_iff_getElem.1 HM2.out.1 kp k hpL hkL (by omega)
                rw [he, he2] at this
                simp; exact this
              have hup : IntKind.i64.wrap ((k : Int) + 1) = ((k + 1 : Nat) : Int) := by rw [IntKind.wrap_i64]; omega
              have hkpN : kp < N := by omega
              clear hr ho2 hmem he he2 hr2 hkp
              go_wp2_with fail
              go_quiet (fail)
              go_wp2_with fail
              go_roundw
              case rel => exact ⟨k + 1, by omega, by go_num, HXK.out.drewN _⟩
              case measure => simp [intOf] <;> omega
          · obtain rfl : k = N := by omega
            have dk : decide ((k : Int) < (k : Int)) = false := by simp
            go_wp2_with fail
            go_roundw
            case rel => exact ⟨i + 1, by omega, by go_num, _, HM2.out, HML2.out, HA.out.grow HXK.out⟩
            case measure => simp [intOf] <;> omega
      · have dk2 : (x.k == 2) = false := by simpa using hk2
        clear hk2
        obtain ⟨m, hm⟩ : ∃ m, x.m % 281474976710656 = m := ⟨_, rfl⟩
        by_cases hbad : m = 0 ∨ m / 1099511627776 % 2 = 1 ∨ x.p < 0
        · have HB := Lib.hid (show x.m % 281474976710656 = 0 ∨ x.m % 281474976710656 / 1099511627776 % 2 = 1 ∨ x.p < 0 by rw [hm]; exact hbad)
          clear hbad hm
          go_wp2_with (first
            | fail
            | ((with_reducible refine at_load 32 ?_); refine wpList_load_mid rfl 32 _ rfl bb (off + i * 4) rfl x.L _ hr1.out Try.underlying32 rfl size_act ?_)
            | ((with_reducible refine at_alloc 32 ?_); refine al_zero rfl 32 rfl AZ zero_act ?_
               intro X wq hq hs hx)
            | ((with_reducible refine at_store 32 ?_); refine st_at rfl rfl 32 _ _ rfl X 0 _ x.L.toArray AZ x.L.toArray 32 rfl rfl rfl hq (by exact (by decide : 0 + 4 ≤ 4)) (by kernel_rfl) rfl rfl ?_
               intro wb hq' hm'
               have hX : wr.heap.size ≤ X := by omega
               have EB : Ext wr wb := hx.mutE hm' (fun n hn h => by have h2 : n = X := h; omega)
               have HQ := Lib.hid hq'
               have HEB := Lib.hid EB
               have c0 : wb.cell? ⟨X, 0, none⟩ = some (.int .i64 x.k) := by rw [cell_row hq']; rfl
               have c1 : wb.cell? ⟨X, 1, none⟩ = some (.int .u64 x.m) := by rw [cell_row hq']; rfl
               have c2 : wb.cell? ⟨X, 2, none⟩ = some (.int .i64 x.p) := by rw [cell_row hq']; rfl
               clear hx hm' hq hs wq hq' EB))
          refine (learn_bad wb (fun _ => False) f [] n A x.m x.p (by omega) HB.out).mono ?_
          rintro e wt ⟨rfl, rfl⟩
          have HX1 := Lib.hid (HX.out.grow HEB.out)
          go_wp2_with fail
          refine (find_b w wb f M n A HX1.out x.m (by omega)).mono ?_
          rintro e wt ⟨hf, ht, _⟩
          have HM2 := HM
          have HML2 := Lib.hid hMl
          have HX2 := Lib.hid ht
          obtain ⟨pv, pb, rfl⟩ : ∃ pv pb, e = .returned (.tuple #[.int .i64 pv, .bool pb]) := by
            rcases hf with ⟨e0, _, _, h⟩ | ⟨_, h⟩
            · exact ⟨_, _, h⟩
            · exact ⟨_, _, h⟩
          clear hf ht c0 c1 c2
          go_wp2_with fail
          refine (all_x w _ f M n A HX2.out HM2.out (by have := HML2.out; omega)).mono ?_
          rintro e wA ⟨aa, ac, rfl, hown, hxx, hfA⟩
          obtain ⟨N, hN⟩ : ∃ N, (M).length = N := ⟨_, rfl⟩
          rw [hN] at hown
          have hN8 : (N : Int) ≤ n := by have := HML2.out; omega
          have dn : decide ((n : Int) < (N : Int)) = false := by simp; omega
          have HO := Lib.hid hown
          have HA := Lib.hid hfA
          have HN := Lib.hid hN
          clear hown hxx hfA hN
          rw [HN.out]
          go_wp2_with fail
          go_loopw [15] (fun s wr => ∃ k : Nat, k ≤ N ∧ s = .int .i64 k ∧ Ext wA wr) (fun s _ => N - (intOf s).toNat)
          case atStart => exact ⟨0, by omega, rfl, Ext.refl _⟩
          case round =>
            obtain ⟨k, hk, rfl, hxk⟩ := hrel
            rename World => wk
            have HXK := Lib.hid hxk
            clear hxk
            by_cases hkl : k < N
            · have dk : decide ((k : Int) < (N : Int)) = true := by simp; omega
              have hkL : k < (M).length := by rw [HN.out]; exact hkl
              obtain ⟨y, q, t, he⟩ : ∃ y q t, (M)[k] = (y, q, t) := ⟨_, _, _, rfl⟩
              have hmem : (y, q, t) ∈ M := he ▸ List.getElem_mem hkL
              obtain ⟨hy, hq, ht1, ht2⟩ := HM2.out.2 _ hmem
              dsimp only at hy hq ht1 ht2
              have ho2 := owns_ext HO.out HXK.out
              obtain ⟨g, rfl⟩ : ∃ g, aa = some ⟨g, 0, none⟩ := by
                rcases ho2.2 with ⟨h0, _⟩ | ⟨g, cap', cur, hv', _⟩
                · exfalso
                  injection h0 with _ h0 _
                  omega
                · cases hv'
                  exact ⟨g, rfl⟩
              have hr := ent_range ho2 HN.out k hkL
              rw [he] at hr
              have c0 : wk.cell? ⟨g, k * 3, none⟩ = some (.int .u64 y) := hr 0 _ rfl
              have c2 : wk.cell? ⟨g, k * 3 + 2, none⟩ = some (.int .i64 t) := hr 2 _ rfl
              have d1 : decide (t < 1) = false := by simp; omega
              have d2 : decide (A < t) = false := by simp; omega
              have d3 : y / 281474976710656 = 0 := by omega
              rcases Nat.eq_zero_or_pos k with hk0 | hk0
              · subst hk0
                clear hr ho2 hmem he
                go_wp2_with fail
                go_quiet (fail)
                go_wp2_with fail
                go_roundw
                case rel => exact ⟨1, by omega, by go_num, HXK.out.drewN _⟩
                case measure => simp [intOf] <;> omega
              · obtain ⟨kp, hkp⟩ : ∃ kp, k = kp + 1 := ⟨k - 1, by omega⟩
                have hpL : kp < (M).length := by omega
                obtain ⟨y2, q2, t2, he2⟩ : ∃ y q t, (M)[kp] = (y, q, t) := ⟨_, _, _, rfl⟩
                have hr2 := ent_range ho2 HN.out kp hpL
                rw [he2] at hr2
                have c3 : wk.cell? ⟨g, kp * 3, none⟩ = some (.int .u64 y2) := hr2 0 _ rfl
                have hwk : IntKind.i64.wrap ((k : Int) - 1) = (kp : Int) := by rw [IntKind.wrap_i64]; omega
                have d4 : decide (0 < (k : Int)) = true := by simp; omega
                have d5 : decide (y ≤ y2) = false := by
                  have := List.pairwise_iff_getElem.1 HM2.out.1 kp k hpL hkL (by omega)
                  rw [he, he2] at this
                  simp; exact this
                have hup : IntKind.i64.wrap ((k : Int) + 1) = ((k + 1 : Nat) : Int) := by rw [IntKind.wrap_i64]; omega
                have hkpN : kp < N := by omega
                clear hr ho2 hmem he he2 hr2 hkp
                go_wp2_with fail
                go_quiet (fail)
                go_wp2_with fail
                go_roundw
                case rel => exact ⟨k + 1, by omega, by go_num, HXK.out.drewN _⟩
                case measure => simp [intOf] <;> omega
            · obtain rfl : k = N := by omega
              have dk : decide ((k : Int) < (k : Int)) = false := by simp
              go_wp2_with fail
              go_roundw
              case rel => exact ⟨i + 1, by omega, by go_num, _, HM2.out, HML2.out, HA.out.grow HXK.out⟩
              case measure => simp [intOf] <;> omega
        · have HM0 := Lib.hid (show 0 < m ∧ m < 281474976710656 by omega)
          have HG := Lib.hid (show m ≠ 0 ∧ ¬ m / 1099511627776 % 2 = 1 by omega)
          have HP := Lib.hid (show 0 ≤ x.p ∧ x.p < 9223372036854775808 by omega)
          have HMX := Lib.hid hm
          clear hbad hm
          go_wp2_with (first
            | fail
            | ((with_reducible refine at_load 32 ?_); refine wpList_load_mid rfl 32 _ rfl bb (off + i * 4) rfl x.L _ hr1.out Try.underlying32 rfl size_act ?_)
            | ((with_reducible refine at_alloc 32 ?_); refine al_zero rfl 32 rfl AZ zero_act ?_
               intro X wq hq hs hx)
            | ((with_reducible refine at_store 32 ?_); refine st_at rfl rfl 32 _ _ rfl X 0 _ x.L.toArray AZ x.L.toArray 32 rfl rfl rfl hq (by exact (by decide : 0 + 4 ≤ 4)) (by kernel_rfl) rfl rfl ?_
               intro wb hq' hm'
               have hX : wr.heap.size ≤ X := by omega
               have EB : Ext wr wb := hx.mutE hm' (fun n hn h => by have h2 : n = X := h; omega)
               have HQ := Lib.hid hq'
               have HEB := Lib.hid EB
               have c0 : wb.cell? ⟨X, 0, none⟩ = some (.int .i64 x.k) := by rw [cell_row hq']; rfl
               have c1 : wb.cell? ⟨X, 1, none⟩ = some (.int .u64 x.m) := by rw [cell_row hq']; rfl
               have c2 : wb.cell? ⟨X, 2, none⟩ = some (.int .i64 x.p) := by rw [cell_row hq']; rfl
               clear hx hm' hq hs wq hq' EB))
          refine (learn_b w wr wb f M n A HX.out HEB.out HM.out (by omega) (by omega) x.m x.p m (by omega) HMX.out HP.out HG.out.1 HG.out.2).mono ?_
          rintro e wt ⟨rfl, M2, hl, ht, hsz, hk⟩
          have hM2 := learned_ok HM.out (by omega) HM0.out HP.out hl
          have hML2 := learned_len HM.out hMl (by omega) hl
          have hmem := learned_mem HM.out hl
          have hXl : X < wb.heap.size := heap_lt HQ.out
          have hrow := (hk X hX hXl).trans HQ.out
          have d1 : wt.cell? ⟨X, 1, none⟩ = some (.int .u64 x.m) := by rw [cell_row hrow]; rfl
          have HROW := Lib.hid hrow
          have HM2 := Lib.hid hM2
          have HML2 := Lib.hid hML2
          have HX2 := Lib.hid ht
          have HME := Lib.hid hmem
          clear hM2 hML2 ht hl hsz hk hrow hmem c0 c1 c2
          go_wp2_with fail
          refine (find_b w wt f M2 n A HX2.out x.m (by omega)).mono ?_
          rintro e wu ⟨hf, hu, hxu⟩
          obtain rfl : e = .returned (.tuple #[.int .i64 x.p, .bool true]) := by
            rcases hf with ⟨e0, he0, hk0, h⟩ | ⟨hn, _⟩
            · have := HM2.out.uni he0 HME.out (by rw [hk0, HMX.out])
              rw [h, this]
            · exact absurd (List.mem_map.2 ⟨_, HME.out, by rw [HMX.out]⟩) hn
          have d2 : wu.cell? ⟨X, 2, none⟩ = some (.int .i64 x.p) := by rw [cell_row ((hxu.block X (heap_lt HROW.out)).trans HROW.out)]; rfl
          have HX3 := Lib.hid hu
          clear hf hu hxu d1
          go_wp2_with fail
          clear d2
          refine (all_x w _ f M2 n A HX3.out HM2.out (by have := HML2.out; omega)).mono ?_
          rintro e wA ⟨aa, ac, rfl, hown, hxx, hfA⟩
          obtain ⟨N, hN⟩ : ∃ N, (M2).length = N := ⟨_, rfl⟩
          rw [hN] at hown
          have hN8 : (N : Int) ≤ n := by have := HML2.out; omega
          have dn : decide ((n : Int) < (N : Int)) = false := by simp; omega
          have HO := Lib.hid hown
          have HA := Lib.hid hfA
          have HN := Lib.hid hN
          clear hown hxx hfA hN
          rw [HN.out]
          go_wp2_with fail
          go_loopw [15] (fun s wr => ∃ k : Nat, k ≤ N ∧ s = .int .i64 k ∧ Ext wA wr) (fun s _ => N - (intOf s).toNat)
          case atStart => exact ⟨0, by omega, rfl, Ext.refl _⟩
          case round =>
            obtain ⟨k, hk, rfl, hxk⟩ := hrel
            rename World => wk
            have HXK := Lib.hid hxk
            clear hxk
            by_cases hkl : k < N
            · have dk : decide ((k : Int) < (N : Int)) = true := by simp; omega
              have hkL : k < (M2).length := by rw [HN.out]; exact hkl
              obtain ⟨y, q, t, he⟩ : ∃ y q t, (M2)[k] = (y, q, t) := ⟨_, _, _, rfl⟩
              have hmem : (y, q, t) ∈ M2 := he ▸ List.getElem_mem hkL
              obtain ⟨hy, hq, ht1, ht2⟩ := HM2.out.2 _ hmem
              dsimp only at hy hq ht1 ht2
              have ho2 := owns_ext HO.out HXK.out
              obtain ⟨g, rfl⟩ : ∃ g, aa = some ⟨g, 0, none⟩ := by
                rcases ho2.2 with ⟨h0, _⟩ | ⟨g, cap', cur, hv', _⟩
                · exfalso
                  injection h0 with _ h0 _
                  omega
                · cases hv'
                  exact ⟨g, rfl⟩
              have hr := ent_range ho2 HN.out k hkL
              rw [he] at hr
              have c0 : wk.cell? ⟨g, k * 3, none⟩ = some (.int .u64 y) := hr 0 _ rfl
              have c2 : wk.cell? ⟨g, k * 3 + 2, none⟩ = some (.int .i64 t) := hr 2 _ rfl
              have d1 : decide (t < 1) = false := by simp; omega
              have d2 : decide (A < t) = false := by simp; omega
              have d3 : y / 281474976710656 = 0 := by omega
              rcases Nat.eq_zero_or_pos k with hk0 | hk0
              · subst hk0
                clear hr ho2 hmem he
                go_wp2_with fail
                go_quiet (fail)
                go_wp2_with fail
                go_roundw
                case rel => exact ⟨1, by omega, by go_num, HXK.out.drewN _⟩
                case measure => simp [intOf] <;> omega
              · obtain ⟨kp, hkp⟩ : ∃ kp, k = kp + 1 := ⟨k - 1, by omega⟩
                have hpL : kp < (M2).length := by omega
                obtain ⟨y2, q2, t2, he2⟩ : ∃ y q t, (M2)[kp] = (y, q, t) := ⟨_, _, _, rfl⟩
                have hr2 := ent_range ho2 HN.out kp hpL
                rw [he2] at hr2
                have c3 : wk.cell? ⟨g, kp * 3, none⟩ = some (.int .u64 y2) := hr2 0 _ rfl
                have hwk : IntKind.i64.wrap ((k : Int) - 1) = (kp : Int) := by rw [IntKind.wrap_i64]; omega
                have d4 : decide (0 < (k : Int)) = true := by simp; omega
                have d5 : decide (y ≤ y2) = false := by
                  have := List.pairwise_iff_getElem.1 HM2.out.1 kp k hpL hkL (by omega)
                  rw [he, he2] at this
                  simp; exact this
                have hup : IntKind.i64.wrap ((k : Int) + 1) = ((k + 1 : Nat) : Int) := by rw [IntKind.wrap_i64]; omega
                have hkpN : kp < N := by omega
                clear hr ho2 hmem he he2 hr2 hkp
                go_wp2_with fail
                go_quiet (fail)
                go_wp2_with fail
                go_roundw
                case rel => exact ⟨k + 1, by omega, by go_num, HXK.out.drewN _⟩
                case measure => simp [intOf] <;> omega
            · obtain rfl : k = N := by omega
              have dk : decide ((k : Int) < (k : Int)) = false := by simp
              go_wp2_with fail
              go_roundw
              case rel => exact ⟨i + 1, by omega, by go_num, _, HM2.out, HML2.out, HA.out.grow HXK.out⟩
              case measure => simp [intOf] <;> omega
    · obtain rfl : i = L.length := by omega
      have dlt : decide ((L.length : Int) < (L.length : Int)) = false := by simp
      go_wp2_with fail
      go_ret
      exact ⟨rfl, HX.out.ext⟩

end Go.Proofs.Ytheackckmhbodaa
