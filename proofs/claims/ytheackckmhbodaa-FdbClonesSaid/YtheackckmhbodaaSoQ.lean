/- The library's sort: pdqsort. No statement is proved here. -/
import Derived.Test.YtheackckmhbodaaSoP
import Derived.Test.YtheackckmhbodaaSoI
namespace Go.Proofs.Ytheackckmhbodaa
open Go.RowKit Go.BigFrame Go.WideShapes Go.ChangeShapes Go.Deep
set_option linter.unusedVariables false
set_option linter.unusedSimpArgs false
open Go.Sort (PermIn SortedIn)
set_option maxRecDepth 100000

set_option maxRecDepth 100000 in
set_option maxHeartbeats 4000000 in
theorem pdqx_any (g n cap : Nat) (hn : n ≤ 60) (m : Nat) : ∀ (w : World) (l0 : List Int) (A B lim : Nat) (_ : B - A = m) (_ : B ≤ n) (_ : A ≤ B) (_ : Go.Sort.Below ltI A B l0.toArray) (_ : lim ≤ 6) (_ : Nums w g l0) (_ : l0.length = n),
    Calls Try.prog 39 #[(.slice (some ⟨g, 0, none⟩) n cap), .int .i64 A, .int .i64 B, .int .i64 lim] w fun e w' => e = .returned (.tuple #[]) ∧ SortP w g n A B l0.toArray w' := by
  induction m using Nat.strongRecOn with
  | _ m ih =>
  intro w l0 A B lim0 hm hB hAB hbel hlim0 hnu0 hln0
  have IH := Lib.hid ih
  have H0 := Lib.hid (show ∃ l : List Int, Nums w g l ∧ l.length = n ∧ RestP A B l0.toArray A B l ∧ Mut (fun k => k = g) w w from ⟨l0, hnu0, hln0, RestP.start hbel, Mut.refl _ w⟩)
  obtain ⟨D, hD⟩ : ∃ D, l0.toArray = D := ⟨_, rfl⟩
  rw [hD] at H0
  have HD := Lib.hid hD
  have HM := Lib.hid hm
  clear ih hbel hnu0 hln0 hD hm
  go_enter Try.func39, Try.ntmps39
  go_wp2_with fail
  go_loopw [1, 2, 3, 8, 9] (fun sa sb sl s8 s9 wr => ∃ (a b lim : Nat) (wb wp : Bool) (l : List Int), sa = .int .i64 a ∧ sb = .int .i64 b ∧ sl = .int .i64 lim ∧ s8 = .bool wb ∧ s9 = .bool wp ∧ (a ≤ b ∧ b ≤ n ∧ b - a ≤ B - A ∧ lim ≤ 6) ∧ Nums wr g l ∧ l.length = n ∧ RestP A B D a b l ∧ Mut (fun k => k = g) w wr) (fun sa sb _ _ _ _ => (intOf sb - intOf sa).toNat)
  case atStart =>
    obtain ⟨l, q1, q2, q3, q4⟩ := H0.out
    exact ⟨A, B, lim0, true, true, l, rfl, rfl, rfl, rfl, rfl, ⟨hAB, hB, Nat.le_refl _, hlim0⟩, q1, q2, q3, q4⟩
  case round =>
    clear H0
    obtain ⟨a, b, lim, wb, wp, l, rfl, rfl, rfl, rfl, rfl, ⟨hab, hbn, hbB, hlim⟩, hnu, hln, hre, hmu⟩ := hrel
    rename World => wl
    have NU := Lib.hid hnu
    have MU := Lib.hid hmu
    have RE := Lib.hid hre
    clear hnu hmu hre
    obtain ⟨k, hk⟩ : ∃ k, b - a = k := ⟨_, rfl⟩
    have hwk : IntKind.i64.wrap ((b : Int) - (a : Int)) = (k : Int) := by rw [IntKind.wrap_i64]; omega
    have HK := Lib.hid hk
    have hkn : k ≤ 60 := by omega
    by_cases h12 : k ≤ 12
    · have d12 : decide ((k : Int) ≤ 12) = true := by simp; omega
      clear hk
      go_wp2_with fail
      refine (insr_any wl g n cap l a b hab hbn (by omega) NU.out hln).mono ?_
      rintro e w5 ⟨rfl, l2, hnu2, hln2, hl2, hmu2⟩
      have NU2 := Lib.hid hnu2
      have MU2 := Lib.hid (MU.out.trans hmu2)
      have FI := Lib.hid (rest_ins RE.out hab (by omega) hl2)
      clear hnu2 hmu2 hl2
      go_wp2_with fail
      refine bodyPost_ret (results_none rfl _ _ _) rfl ?_
      exact ⟨rfl, l2, NU2.out, hln2, by rw [HD.out]; exact FI.out, MU2.out⟩
    have d12 : decide ((k : Int) ≤ 12) = false := by simp; omega
    have hab9 : a < b := by omega
    have hab12 : a + 12 < b := by omega
    cases lim with
    | zero =>
      clear hk
      go_wp2_with fail
      refine (heap_any wl g n cap l a b hab9 hbn (by omega) NU.out hln).mono ?_
      rintro e w5 ⟨rfl, l2, hnu2, hln2, hl2, hmu2⟩
      have NU2 := Lib.hid hnu2
      have MU2 := Lib.hid (MU.out.trans hmu2)
      have FI := Lib.hid (rest_heap RE.out hab (by omega) hl2)
      clear hnu2 hmu2 hl2
      go_wp2_with fail
      refine bodyPost_ret (results_none rfl _ _ _) rfl ?_
      exact ⟨rfl, l2, NU2.out, hln2, by rw [HD.out]; exact FI.out, MU2.out⟩
    | succ lim =>
    obtain ⟨lp, hlp⟩ : ∃ lp, lim + 1 = lp := ⟨_, rfl⟩
    have hwl : IntKind.i64.wrap ((lp : Int) - 1) = (lim : Int) := by rw [IntKind.wrap_i64]; omega
    have dl : ((lp : Int) == 0) = false := by simp; omega
    have dl2 : decide ((lp : Int) = 0) = false := by simp; omega
    have hlim6 : lim ≤ 6 := by omega
    have hlp6 : lp ≤ 6 := by omega
    rw [hlp]
    clear hlp hk hlim
    go_upto_if 35 with fail
    go_cut [3] from 19 to 133 (fun s wx => ∃ lim : Nat, s = .int .i64 lim ∧ lim ≤ 6 ∧ ∃ l : List Int, Nums wx g l ∧ l.length = n ∧ RestP A B D a b l ∧ Mut (fun k => k = g) w wx)
    case first =>
      cases wb with
      | true =>
        go_wp2_with fail
        go_meet
        case rel => exact ⟨lp, rfl, hlp6, l, NU.out, hln, RE.out, MU.out⟩
      | false =>
        go_wp2_with fail
        refine (brk_any wl g n cap l a b hab12 hbn hn NU.out hln).mono ?_
        rintro e w5 ⟨rfl, l2, hnu2, hln2, hl2, hmu2⟩
        have NU2 := Lib.hid hnu2
        have MU2 := Lib.hid (MU.out.trans hmu2)
        have RE2 := Lib.hid (rest_brk RE.out hab (by omega) hl2)
        clear hnu2 hmu2 hl2
        go_wp2_with fail
        go_meet
        case rel => exact ⟨lim, rfl, hlim6, l2, NU2.out, hln2, RE2.out, MU2.out⟩
    case rest =>
    clear NU MU RE hln hlim6 hlp6 dl dl2 hwl
    clear l
    obtain ⟨lim, rfl, hlim, l, hnu, hln, hre, hmu⟩ := hcut
    rename World => wx
    have NU := Lib.hid hnu
    have MU := Lib.hid hmu
    have RE := Lib.hid hre
    clear hnu hmu hre
    go_wp2_with fail
    refine (pick_any wx g n cap l a b hab12 hbn (by omega) NU.out hln).mono ?_
    rintro e w4 ⟨x, ht, rfl, hx, hxt⟩
    have hpr := Go.Sort.choosePivot_holds ltI l.toArray a b hab9
    rw [hx] at hpr
    dsimp only at hpr
    have NU2 := Lib.hid (NU.out.ext hxt)
    have MU2 := Lib.hid (MU.out.trans (hxt.mut _))
    clear hx hxt NU MU
    go_upto_if 50 with fail
    go_cut [11, 12] from 19 to 133 (fun s t wx => ∃ (pv : Nat) (ht : Go.Sort.Hint), s = .int .i64 pv ∧ t = .int .i64 (hintN ht) ∧ (a ≤ pv ∧ pv < b) ∧ ∃ l : List Int, Nums wx g l ∧ l.length = n ∧ RestP A B D a b l ∧ Mut (fun k => k = g) w wx)
    case first =>
      cases ht with
      | unknown =>
        go_wp2_with fail
        go_meet
        case rel => exact ⟨x, .unknown, rfl, rfl, hpr, l, NU2.out, hln, RE.out, MU2.out⟩
      | increasing =>
        go_wp2_with fail
        go_meet
        case rel => exact ⟨x, .increasing, rfl, rfl, hpr, l, NU2.out, hln, RE.out, MU2.out⟩
      | decreasing =>
        obtain ⟨pv, hpv⟩ : ∃ pv, (b - 1) - (x - a) = pv := ⟨_, rfl⟩
        have hpr2 : a ≤ pv ∧ pv < b := by omega
        have hpi : (b : Int) - 1 - ((x : Int) - (a : Int)) = (pv : Nat) := by omega
        have HPI := Lib.hid hpi
        clear hpv hpi
        go_wp2_with fail
        refine (rev_any w4 g n cap l a b hab9 hbn (by omega) NU2.out hln).mono ?_
        rintro e w5 ⟨rfl, l2, hnu2, hln2, hl2, hmu2⟩
        have NU3 := Lib.hid hnu2
        have MU3 := Lib.hid (MU2.out.trans hmu2)
        have RE3 := Lib.hid (rest_rev RE.out hab (by omega) hl2)
        clear hnu2 hmu2 hl2
        go_wp2_with fail
        try rw [HPI.out]
        go_meet
        case rel => exact ⟨pv, .increasing, by first | rfl | (rw [HPI.out]), rfl, hpr2, l2, NU3.out, hln2, RE3.out, MU3.out⟩
    case rest =>
    clear NU2 MU2 RE hln hpr
    clear l
    obtain ⟨pv, ht, rfl, rfl, ⟨hp1, hp2⟩, l, hnu, hln, hre, hmu⟩ := hcut
    rename World => wx
    have NU := Lib.hid hnu
    have MU := Lib.hid hmu
    have RE := Lib.hid hre
    clear hnu hmu hre
    go_upto_region 15 with fail
    go_cut [68] from 19 to 133 (fun s wx => ∃ c2 : Bool, s = .bool c2 ∧ ∃ l : List Int, Nums wx g l ∧ l.length = n ∧ RestP A B D a b l ∧ Mut (fun k => k = g) w wx)
    case first =>
      have NOP : Hid (∃ l : List Int, Nums wx g l ∧ l.length = n ∧ RestP A B D a b l ∧ Mut (fun k => k = g) w wx) := Lib.hid ⟨l, NU.out, hln, RE.out, MU.out⟩
      cases wb with
      | false =>
        go_wp2_with fail
        go_meet
        case rel => exact ⟨_, rfl, NOP.out⟩
      | true =>
        cases wp with
        | false =>
          go_wp2_with fail
          go_meet
          case rel => exact ⟨_, rfl, NOP.out⟩
        | true =>
          cases ht with
          | unknown =>
            go_wp2_with fail
            go_meet
            case rel => exact ⟨_, rfl, NOP.out⟩
          | decreasing =>
            go_wp2_with fail
            go_meet
            case rel => exact ⟨_, rfl, NOP.out⟩
          | increasing =>
            go_wp2_with fail
            go_meet
            case rel => exact ⟨_, rfl, NOP.out⟩
    case rest =>
    clear NU MU RE hln
    clear l
    obtain ⟨c2, rfl, l, hnu, hln, hre, hmu⟩ := hcut
    rename World => wx
    have NU := Lib.hid hnu
    have MU := Lib.hid hmu
    have RE := Lib.hid hre
    clear hnu hmu hre
    go_upto_if 68 with fail
    go_cut [13] from 19 to 133 (fun _ wx => ∃ l : List Int, Nums wx g l ∧ l.length = n ∧ RestP A B D a b l ∧ Mut (fun k => k = g) w wx)
    case first =>
      have NOP : Hid (∃ l : List Int, Nums wx g l ∧ l.length = n ∧ RestP A B D a b l ∧ Mut (fun k => k = g) w wx) := Lib.hid ⟨l, NU.out, hln, RE.out, MU.out⟩
      cases c2 with
      | false =>
        go_wp2_with fail
        go_meet
        case rel => exact NOP.out
      | true =>
        go_wp2_with fail
        refine (pins_any wx g n cap l a b hab9 hbn (by omega) NU.out hln).mono ?_
        rintro e w5 ⟨ok, d', rfl, hx, l2, hnu2, hln2, hl2, hmu2⟩
        obtain ⟨hr2, hf2⟩ := rest_pins RE.out hab9 (by omega) hx hl2
        have NU2 := Lib.hid hnu2
        have MU2 := Lib.hid (MU.out.trans hmu2)
        have RE2 := Lib.hid hr2
        have FI := Lib.hid hf2
        clear hnu2 hmu2 hl2 hr2 hf2 hx
        cases ok with
        | true =>
          go_wp2_with fail
          refine bodyPost_ret (results_none rfl _ _ _) rfl ?_
          exact ⟨rfl, l2, NU2.out, hln2, by rw [HD.out]; exact FI.out (by trivial), MU2.out⟩
        | false =>
          go_wp2_with fail
          go_meet
          case rel => exact ⟨l2, NU2.out, hln2, RE2.out, MU2.out⟩
    case rest =>
    clear NU MU RE hln
    clear l
    obtain ⟨l, hnu, hln, hre, hmu⟩ := hcut
    rename World => wx
    have NU := Lib.hid hnu
    have MU := Lib.hid hmu
    have RE := Lib.hid hre
    clear hnu hmu hre
    obtain ⟨c, hc⟩ : ∃ c, (decide (0 < a) && !ltI l.toArray[a - 1]! l.toArray[pv]!) = c := ⟨_, rfl⟩
    have HC := Lib.hid hc
    clear hc
    have hpn : pv < n := by omega
    go_upto_region 17 with fail
    go_cut [87] from 19 to 133 (fun s wx => s = .bool c ∧ Nums wx g l ∧ Mut (fun k => k = g) w wx)
    case first =>
      by_cases ha : 0 < a
      · have dij : decide ((0 : Int) < (a : Int)) = true := by simp; omega
        have dij2 : decide ((a : Int) > (0 : Int)) = true := by simp; omega
        obtain ⟨ap, hap⟩ : ∃ ap, a - 1 = ap := ⟨_, rfl⟩
        have hap1 : ap < n := by omega
        have hdn : IntKind.i64.wrap ((a : Int) - 1) = (ap : Int) := by rw [IntKind.wrap_i64]; omega
        have HAP := Lib.hid hap
        obtain ⟨x, hvp⟩ : ∃ x, at0 l ap = x := ⟨_, rfl⟩
        obtain ⟨y, hvq⟩ : ∃ y, at0 l pv = y := ⟨_, rfl⟩
        clear hap
        refine beginL (S := fun W' => Ext wx W') (by kernel_rfl) ?_
        intro wd hqx
        have hq0 : Ext wx wd := hqx
        refine takeL (i := 0) (v := (.int .i64 (a : Int))) rfl (by kernel_rfl) (by kernel_rfl) (by kernel_rfl) (fun _ _ _ h => h) (Or.inl ⟨rfl, fun _ _ => rfl⟩) hq0 ?_
        simp only [Act.put, List.setIfInBounds_toArray, List.set_cons_zero, List.set_cons_succ]
        refine takeL (i := 1) (v := (.bool true)) rfl (by kernel_rfl) (by kernel_rfl) (by kernel_rfl) (fun _ _ _ h => h) (Or.inl ⟨rfl, fun W' _ => by go_simp⟩) hq0 ?_
        simp only [Act.put, List.setIfInBounds_toArray, List.set_cons_zero, List.set_cons_succ]
        refine takeL (i := 2) (v := (.bool true)) rfl (by kernel_rfl) (by kernel_rfl) (by kernel_rfl) (fun _ _ _ h => h) (Or.inl ⟨rfl, fun _ _ => rfl⟩) hq0 ?_
        simp only [Act.put, List.setIfInBounds_toArray, List.set_cons_zero, List.set_cons_succ]
        refine takeL (i := 3) (v := (.slice (some ⟨g, 0, none⟩) n cap)) rfl (by kernel_rfl) (by kernel_rfl) (by kernel_rfl) (fun _ _ _ h => h) (Or.inl ⟨rfl, fun _ _ => rfl⟩) hq0 ?_
        simp only [Act.put, List.setIfInBounds_toArray, List.set_cons_zero, List.set_cons_succ]
        refine takeL (i := 4) (v := (.int .i64 (a : Int))) rfl (by kernel_rfl) (by kernel_rfl) (by kernel_rfl) (fun _ _ _ h => h) (Or.inl ⟨rfl, fun _ _ => rfl⟩) hq0 ?_
        simp only [Act.put, List.setIfInBounds_toArray, List.set_cons_zero, List.set_cons_succ]
        refine takeL (i := 5) (v := (.int .i64 (ap : Int))) rfl (by kernel_rfl) (by kernel_rfl) (by kernel_rfl) (fun _ _ _ h => h) (Or.inl ⟨rfl, fun W' _ => by go_simp <;> (rw [IntKind.wrap_i64]; omega)⟩) hq0 ?_
        simp only [Act.put, List.setIfInBounds_toArray, List.set_cons_zero, List.set_cons_succ]
        refine takeL (i := 6) (v := (.pointer (some ⟨g, ap, none⟩))) rfl (by kernel_rfl) (by kernel_rfl) (by kernel_rfl) (fun _ _ _ h => h) (Or.inl ⟨rfl, fun W' _ => by go_simp <;> (intro h; omega)⟩) hq0 ?_
        simp only [Act.put, List.setIfInBounds_toArray, List.set_cons_zero, List.set_cons_succ]
        refine takeL (i := 7) (v := _) rfl (by kernel_rfl) (by kernel_rfl) (by kernel_rfl) (fun _ _ _ h => h) (yieldsIf_cell rfl 30 _ rfl ⟨g, ap, none⟩ rfl (.int .u64 x) _ (fun W' hW' => (show W'.cell? ⟨g, ap, none⟩ = _ from (NU.out.ext hW').cell (by omega)).trans (by rw [hvp])) Try.underlying30 rfl) hq0 ?_
        simp only [Act.put, List.setIfInBounds_toArray, List.set_cons_zero, List.set_cons_succ]
        refine takeL (i := 8) (v := (.slice (some ⟨g, 0, none⟩) n cap)) rfl (by kernel_rfl) (by kernel_rfl) (by kernel_rfl) (fun _ _ _ h => h) (Or.inl ⟨rfl, fun _ _ => rfl⟩) hq0 ?_
        simp only [Act.put, List.setIfInBounds_toArray, List.set_cons_zero, List.set_cons_succ]
        refine takeL (i := 9) (v := (.int .i64 (pv : Int))) rfl (by kernel_rfl) (by kernel_rfl) (by kernel_rfl) (fun _ _ _ h => h) (Or.inl ⟨rfl, fun _ _ => rfl⟩) hq0 ?_
        simp only [Act.put, List.setIfInBounds_toArray, List.set_cons_zero, List.set_cons_succ]
        refine takeL (i := 10) (v := (.pointer (some ⟨g, pv, none⟩))) rfl (by kernel_rfl) (by kernel_rfl) (by kernel_rfl) (fun _ _ _ h => h) (Or.inl ⟨rfl, fun W' _ => by go_simp <;> (intro h; omega)⟩) hq0 ?_
        simp only [Act.put, List.setIfInBounds_toArray, List.set_cons_zero, List.set_cons_succ]
        refine takeL (i := 11) (v := _) rfl (by kernel_rfl) (by kernel_rfl) (by kernel_rfl) (fun _ _ _ h => h) (yieldsIf_cell rfl 30 _ rfl ⟨g, pv, none⟩ rfl (.int .u64 y) _ (fun W' hW' => (show W'.cell? ⟨g, pv, none⟩ = _ from (NU.out.ext hW').cell (by omega)).trans (by rw [hvq])) Try.underlying30 rfl) hq0 ?_
        simp only [Act.put, List.setIfInBounds_toArray, List.set_cons_zero, List.set_cons_succ]
        refine runG (i := 12) rfl (by rfl) (by kernel_rfl) (fun K hK => ?_)
        go_simp
        refine (less_ext x y _).mono ?_
        rintro e wc1 ⟨rfl, hx⟩
        have hq1 := hq0.trans hx
        refine hK.out _ _ hq1 (fun hHeld => ?_)
        try simp only [Act.put, List.setIfInBounds_toArray, List.set_cons_zero, List.set_cons_succ]
        clear hK K hHeld
        refine takeL (i := 13) (v := (.bool (!(decide (x < y))))) rfl (by kernel_rfl) (by kernel_rfl) (by kernel_rfl) (fun _ _ _ h => h) (Or.inl ⟨rfl, fun W' _ => by go_simp⟩) hq1 ?_
        simp only [Act.put, List.setIfInBounds_toArray, List.set_cons_zero, List.set_cons_succ]
        refine takeL (i := 14) (v := (.bool (!(decide (x < y))))) rfl (by kernel_rfl) (by kernel_rfl) (by kernel_rfl) (fun _ _ _ h => h) (Or.inl ⟨rfl, fun _ _ => rfl⟩) hq1 ?_
        simp only [Act.put, List.setIfInBounds_toArray, List.set_cons_zero, List.set_cons_succ]
        refine wpAnyH_done (by kernel_rfl) ?_ _
        have NU2 := Lib.hid (NU.out.ext hq1)
        have MU2 := Lib.hid (MU.out.trans (hq1.mut (fun k => k = g)))
        clear hq0 hqx hq1
        generalize hwn0 : wc1 = w5 at *
        go_wp2_with fail
        go_meet
        exact ⟨congrArg Value.bool (by rw [← HC.out, decide_eq_true ha, HAP.out, arr_at l (by omega), arr_at l (by omega), hvp, hvq]; rfl), NU2.out, MU2.out⟩
      · have dij : decide ((0 : Int) < (a : Int)) = false := by simp; omega
        have dij2 : decide ((a : Int) > (0 : Int)) = false := by simp; omega
        refine beginL (S := fun W' => Ext wx W') (by kernel_rfl) ?_
        intro wd hqx
        have hq0 : Ext wx wd := hqx
        refine takeL (i := 0) (v := (.int .i64 (a : Int))) rfl (by kernel_rfl) (by kernel_rfl) (by kernel_rfl) (fun _ _ _ h => h) (Or.inl ⟨rfl, fun _ _ => rfl⟩) hq0 ?_
        simp only [Act.put, List.setIfInBounds_toArray, List.set_cons_zero, List.set_cons_succ]
        refine takeL (i := 1) (v := (.bool false)) rfl (by kernel_rfl) (by kernel_rfl) (by kernel_rfl) (fun _ _ _ h => h) (Or.inl ⟨rfl, fun W' _ => by go_simp⟩) hq0 ?_
        simp only [Act.put, List.setIfInBounds_toArray, List.set_cons_zero, List.set_cons_succ]
        refine takeL (i := 2) (v := (.bool false)) rfl (by kernel_rfl) (by kernel_rfl) (by kernel_rfl) (fun _ _ _ h => h) (Or.inl ⟨rfl, fun _ _ => rfl⟩) hq0 ?_
        simp only [Act.put, List.setIfInBounds_toArray, List.set_cons_zero, List.set_cons_succ]
        refine takeL (i := 3) (v := undef) rfl (by kernel_rfl) (by kernel_rfl) (by kernel_rfl) (fun _ _ _ h => h) (Or.inr ⟨rfl, rfl⟩) hq0 ?_
        simp only [Act.put, List.setIfInBounds_toArray, List.set_cons_zero, List.set_cons_succ]
        refine takeL (i := 4) (v := undef) rfl (by kernel_rfl) (by kernel_rfl) (by kernel_rfl) (fun _ _ _ h => h) (Or.inr ⟨rfl, rfl⟩) hq0 ?_
        simp only [Act.put, List.setIfInBounds_toArray, List.set_cons_zero, List.set_cons_succ]
        refine takeL (i := 5) (v := undef) rfl (by kernel_rfl) (by kernel_rfl) (by kernel_rfl) (fun _ _ _ h => h) (Or.inr ⟨rfl, rfl⟩) hq0 ?_
        simp only [Act.put, List.setIfInBounds_toArray, List.set_cons_zero, List.set_cons_succ]
        refine takeL (i := 6) (v := undef) rfl (by kernel_rfl) (by kernel_rfl) (by kernel_rfl) (fun _ _ _ h => h) (Or.inr ⟨rfl, rfl⟩) hq0 ?_
        simp only [Act.put, List.setIfInBounds_toArray, List.set_cons_zero, List.set_cons_succ]
        refine takeL (i := 7) (v := undef) rfl (by kernel_rfl) (by kernel_rfl) (by kernel_rfl) (fun _ _ _ h => h) (Or.inr ⟨rfl, rfl⟩) hq0 ?_
        simp only [Act.put, List.setIfInBounds_toArray, List.set_cons_zero, List.set_cons_succ]
        refine takeL (i := 8) (v := undef) rfl (by kernel_rfl) (by kernel_rfl) (by kernel_rfl) (fun _ _ _ h => h) (Or.inr ⟨rfl, rfl⟩) hq0 ?_
        simp only [Act.put, List.setIfInBounds_toArray, List.set_cons_zero, List.set_cons_succ]
        refine takeL (i := 9) (v := undef) rfl (by kernel_rfl) (by kernel_rfl) (by kernel_rfl) (fun _ _ _ h => h) (Or.inr ⟨rfl, rfl⟩) hq0 ?_
        simp only [Act.put, List.setIfInBounds_toArray, List.set_cons_zero, List.set_cons_succ]
        refine takeL (i := 10) (v := undef) rfl (by kernel_rfl) (by kernel_rfl) (by kernel_rfl) (fun _ _ _ h => h) (Or.inr ⟨rfl, rfl⟩) hq0 ?_
        simp only [Act.put, List.setIfInBounds_toArray, List.set_cons_zero, List.set_cons_succ]
        refine takeL (i := 11) (v := undef) rfl (by kernel_rfl) (by kernel_rfl) (by kernel_rfl) (fun _ _ _ h => h) (Or.inr ⟨rfl, rfl⟩) hq0 ?_
        simp only [Act.put, List.setIfInBounds_toArray, List.set_cons_zero, List.set_cons_succ]
        refine takeL (i := 12) (v := undef) rfl (by kernel_rfl) (by kernel_rfl) (by kernel_rfl) (fun _ _ _ h => h) (Or.inr ⟨rfl, rfl⟩) hq0 ?_
        simp only [Act.put, List.setIfInBounds_toArray, List.set_cons_zero, List.set_cons_succ]
        refine takeL (i := 13) (v := undef) rfl (by kernel_rfl) (by kernel_rfl) (by kernel_rfl) (fun _ _ _ h => h) (Or.inr ⟨rfl, rfl⟩) hq0 ?_
        simp only [Act.put, List.setIfInBounds_toArray, List.set_cons_zero, List.set_cons_succ]
        refine takeL (i := 14) (v := (.bool false)) rfl (by kernel_rfl) (by kernel_rfl) (by kernel_rfl) (fun _ _ _ h => h) (Or.inl ⟨rfl, fun _ _ => rfl⟩) hq0 ?_
        simp only [Act.put, List.setIfInBounds_toArray, List.set_cons_zero, List.set_cons_succ]
        refine wpAnyH_done (by kernel_rfl) ?_ _
        have NU2 := Lib.hid (NU.out.ext hq0)
        have MU2 := Lib.hid (MU.out.trans (hq0.mut (fun k => k = g)))
        clear hq0 hqx
        generalize hwn0 : wd = w5 at *
        go_wp2_with fail
        go_meet
        exact ⟨congrArg Value.bool (by rw [← HC.out, decide_eq_false ha]; rfl), NU2.out, MU2.out⟩
    case rest =>
    obtain ⟨rfl, hnu, hmu⟩ := hcut
    clear NU MU
    have NU := Lib.hid hnu
    have MU := Lib.hid hmu
    clear hnu hmu
    rename World => wx
    cases c with
    | true =>
      have hc2 : 0 < a ∧ ltI l.toArray[a - 1]! l.toArray[pv]! = false := by
        have h := HC.out
        rw [Bool.and_eq_true, decide_eq_true_eq] at h
        exact ⟨h.1, by simpa using h.2⟩
      have HC2 := Lib.hid hc2
      clear hc2 HC
      go_wp2_with fail
      refine (parte_any wx g n cap l a b pv hab9 hp1 hp2 hbn (by omega) NU.out hln).mono ?_
      rintro e w5 ⟨mid, d4, rfl, hx, l4, hnu4, hln4, hl4, hmu4⟩
      obtain ⟨g1, g2, hre⟩ := RE.out.eq HC2.out.1 hp1 hp2 (by omega) HC2.out.2 hx hl4
      have NU4 := Lib.hid hnu4
      have MU4 := Lib.hid (MU.out.trans hmu4)
      have RE4 := Lib.hid hre
      clear hx hl4 hnu4 hmu4 hre
      go_wp2_with fail
      go_roundw
      case rel => exact ⟨mid, b, lim, _, _, l4, rfl, rfl, rfl, rfl, rfl, ⟨g2, hbn, by omega, hlim⟩, NU4.out, hln4, RE4.out, MU4.out⟩
      case measure => simp [intOf] <;> omega
    | false =>
      clear HC
      go_wp2_with fail
      refine (part_any wx g n cap l a b pv hab9 hp1 hp2 hbn (by omega) NU.out hln).mono ?_
      rintro e w5 ⟨mid, ap, d4, rfl, hx, l4, hnu4, hln4, hl4, hmu4⟩
      obtain ⟨g1, g2, hB1, hB2, hL, hR⟩ := RE.out.part hp1 hp2 (by omega) hx hl4
      have HL := Lib.hid hL
      have HR := Lib.hid hR
      have HB1 := Lib.hid hB1
      have HB2 := Lib.hid hB2
      have NU4 := Lib.hid hnu4
      have MU4 := Lib.hid (MU.out.trans hmu4)
      clear hx hl4 hnu4 hmu4 hL hR hB1 hB2 RE NU MU
      obtain ⟨m1, hm1⟩ : ∃ m1, mid + 1 = m1 := ⟨_, rfl⟩
      have hw5 : IntKind.i64.wrap ((mid : Int) + 1) = (m1 : Int) := by rw [IntKind.wrap_i64]; omega
      have HM1 := Lib.hid hm1
      have hm1n : m1 ≤ n := by omega
      have hm1b : m1 ≤ b := by omega
      have hma : a < m1 := by omega
      rw [hm1] at HR HL HB2
      clear hm1
      by_cases hside : mid - a < b - mid
      · have ds : decide ((mid : Int) - (a : Int) < (b : Int) - (mid : Int)) = true := by simp; omega
        have hml : mid - a < b - a := by omega
        go_wp2_with fail
        refine (IH.out (mid - a) (by have := HM.out; omega) w5 l4 a mid lim rfl (by omega) g1 HB1.out hlim NU4.out hln4).mono ?_
        rintro e w6 ⟨rfl, l5, hnu5, hln5, ⟨hp5, hs5⟩, hmu5⟩
        have NU5 := Lib.hid hnu5
        have MU5 := Lib.hid (MU4.out.trans hmu5)
        have RE5 := Lib.hid (HL.out l5 hp5 hs5)
        clear hnu5 hmu5 hp5 hs5
        go_wp2_with fail
        go_roundw
        case rel => exact ⟨m1, b, lim, _, _, l5, rfl, rfl, rfl, rfl, rfl, ⟨hm1b, hbn, by omega, hlim⟩, NU5.out, hln5, RE5.out, MU5.out⟩
        case measure => simp [intOf] <;> omega
      · have ds : decide ((mid : Int) - (a : Int) < (b : Int) - (mid : Int)) = false := by simp; omega
        go_wp2_with fail
        refine (IH.out (b - m1) (by have := HM.out; have := HM1.out; omega) w5 l4 m1 b lim rfl hbn hm1b HB2.out hlim NU4.out hln4).mono ?_
        rintro e w6 ⟨rfl, l5, hnu5, hln5, ⟨hp5, hs5⟩, hmu5⟩
        have NU5 := Lib.hid hnu5
        have MU5 := Lib.hid (MU4.out.trans hmu5)
        have RE5 := Lib.hid (HR.out l5 hp5 hs5)
        clear hnu5 hmu5 hp5 hs5
        go_wp2_with fail
        go_roundw
        case rel => exact ⟨a, mid, lim, _, _, l5, rfl, rfl, rfl, rfl, rfl, ⟨g1, by omega, by omega, hlim⟩, NU5.out, hln5, RE5.out, MU5.out⟩
        case measure => simp [intOf] <;> omega

end Go.Proofs.Ytheackckmhbodaa
