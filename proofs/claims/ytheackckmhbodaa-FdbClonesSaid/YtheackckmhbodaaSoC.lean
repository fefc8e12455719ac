/- The library's sort: siftDown. No statement is proved here. -/
import Derived.Test.YtheackckmhbodaaSoB
namespace Go.Proofs.Ytheackckmhbodaa
open Go.RowKit Go.BigFrame Go.WideShapes Go.ChangeShapes Go.Deep
set_option linter.unusedVariables false
set_option linter.unusedSimpArgs false
set_option maxRecDepth 100000

theorem sd_stop (hi fi r : Nat) (d : Array Int) (h : hi ≤ 2 * r + 1) : Go.Sort.siftDown ltI hi fi r d = d := by
  rw [Go.Sort.siftDown, dif_pos h]
theorem sd_a (hi fi r : Nat) (d : Array Int) (h : 2 * r + 2 < hi) (hl : ltI d[fi + (2 * r + 1)]! d[fi + (2 * r + 1) + 1]! = true) : Go.Sort.siftDown ltI hi fi r d = if ltI d[fi + r]! d[fi + (2 * r + 2)]! then Go.Sort.siftDown ltI hi fi (2 * r + 2) (Go.Sort.swp d (fi + r) (fi + (2 * r + 2))) else d := by
  rw [Go.Sort.siftDown, dif_neg (by omega), if_pos (by rw [hl, decide_eq_true (by omega : 2 * r + 1 + 1 < hi)]; rfl)]
  cases ltI d[fi + r]! d[fi + (2 * r + 2)]! with
  | false => rfl
  | true =>
    rw [if_neg (by decide), dif_pos h]
    rfl
theorem sd_b (hi fi r : Nat) (d : Array Int) (h : ¬ hi ≤ 2 * r + 1) (hl : (decide (2 * r + 1 + 1 < hi) && ltI d[fi + (2 * r + 1)]! d[fi + (2 * r + 1) + 1]!) = false) : Go.Sort.siftDown ltI hi fi r d = if ltI d[fi + r]! d[fi + (2 * r + 1)]! then Go.Sort.siftDown ltI hi fi (2 * r + 1) (Go.Sort.swp d (fi + r) (fi + (2 * r + 1))) else d := by
  rw [Go.Sort.siftDown, dif_neg h, if_neg (by rw [hl]; decide)]
  cases ltI d[fi + r]! d[fi + (2 * r + 1)]! with
  | false => rfl
  | true => rfl
set_option maxRecDepth 100000 in
set_option maxHeartbeats 2000000 in
theorem sift_any (w : World) (g n cap : Nat) (l0 : List Int) (lo hi fi : Nat) (hlo : lo ≤ n) (hfi : fi + hi ≤ n) (hn : n ≤ 500) (h : Nums w g l0) (hl : l0.length = n) :
    Calls Try.prog 52 #[(.slice (some ⟨g, 0, none⟩) n cap), .int .i64 lo, .int .i64 hi, .int .i64 fi] w fun e w' => e = .returned (.tuple #[]) ∧ SoP w g n (Go.Sort.siftDown ltI hi fi lo l0.toArray) w' := by
  have H0 := Lib.hid (show ∃ l : List Int, Nums w g l ∧ l.length = n ∧ Go.Sort.siftDown ltI hi fi lo l.toArray = Go.Sort.siftDown ltI hi fi lo l0.toArray ∧ Mut (fun k => k = g) w w from ⟨l0, h, hl, rfl, Mut.refl _ w⟩)
  generalize Go.Sort.siftDown ltI hi fi lo l0.toArray = D at *
  clear h hl
  go_enter Try.func52, Try.ntmps52
  go_wp2_with fail
  go_loopw [8] (fun s wr => ∃ (r : Nat) (l : List Int), s = .int .i64 r ∧ r ≤ n ∧ Nums wr g l ∧ l.length = n ∧ Go.Sort.siftDown ltI hi fi r l.toArray = D ∧ Mut (fun k => k = g) w wr) (fun s _ => n + 1 - (intOf s).toNat)
  case atStart =>
    obtain ⟨l, q1, q2, q3, q4⟩ := H0.out
    exact ⟨lo, l, rfl, hlo, q1, q2, q3, q4⟩
  case round =>
    clear H0
    obtain ⟨r, l, rfl, hr, hnu, hln, hsd, hmu⟩ := hrel
    rename World => wl
    have NU := Lib.hid hnu
    have MU := Lib.hid hmu
    have SDH := Lib.hid hsd
    clear hnu hmu hsd
    obtain ⟨c, hc⟩ : ∃ c, 2 * r + 1 = c := ⟨_, rfl⟩
    have hm1 : IntKind.i64.wrap (2 * (r : Int)) = 2 * (r : Int) := by rw [IntKind.wrap_i64]; omega
    have hm2 : IntKind.i64.wrap (2 * (r : Int) + 1) = (c : Int) := by rw [IntKind.wrap_i64]; omega
    by_cases hst : hi ≤ c
    · have dst : decide ((hi : Int) ≤ (c : Int)) = true := by simp; omega
      go_wp2_with fail
      go_end0
      exact ⟨rfl, l, NU.out, hln, by rw [← SDH.out, sd_stop _ _ _ _ (by omega)], MU.out⟩
    have dst : decide ((hi : Int) ≤ (c : Int)) = false := by simp; omega
    obtain ⟨pr, hpr⟩ : ∃ pr, fi + r = pr := ⟨_, rfl⟩
    obtain ⟨x, hvp⟩ : ∃ x, at0 l pr = x := ⟨_, rfl⟩
    have HPR := Lib.hid hpr
    have hrn : pr < n := by omega
    obtain ⟨c1, hc1⟩ : ∃ c1, c + 1 = c1 := ⟨_, rfl⟩
    go_wp2_with fail
    by_cases hch : c1 < hi
    · have dch : decide ((c1 : Int) < (hi : Int)) = true := by simp; omega
      obtain ⟨pc, hpc⟩ : ∃ pc, fi + c = pc := ⟨_, rfl⟩
      obtain ⟨pd, hpd⟩ : ∃ pd, pc + 1 = pd := ⟨_, rfl⟩
      obtain ⟨x1, hx1⟩ : ∃ x, at0 l pc = x := ⟨_, rfl⟩
      obtain ⟨x2, hx2⟩ : ∃ x, at0 l pd = x := ⟨_, rfl⟩
      have HL := Lib.hid (show ltI l.toArray[fi + (2 * r + 1)]! l.toArray[fi + (2 * r + 1) + 1]! = decide (x1 < x2) from by
        rw [show fi + (2 * r + 1) + 1 = pd by omega, show fi + (2 * r + 1) = pc by omega, arr_at l (by omega), arr_at l (by omega), hx1, hx2]
        rfl)
      refine beginL (S := fun W' => Ext wl W') (by kernel_rfl) ?_
      intro wd hqx
      have hq0 : Ext wl wd := hqx
      refine takeL (i := 0) (v := (.int .i64 (c : Int))) rfl (by kernel_rfl) (by kernel_rfl) (by kernel_rfl) (fun _ _ _ h => h) (Or.inl ⟨rfl, fun _ _ => rfl⟩) hq0 ?_
      simp only [Act.put, List.setIfInBounds_toArray, List.set_cons_zero, List.set_cons_succ]
      refine takeL (i := 1) (v := (.int .i64 (c1 : Int))) rfl (by kernel_rfl) (by kernel_rfl) (by kernel_rfl) (fun _ _ _ h => h) (Or.inl ⟨rfl, fun W' _ => by go_simp <;> (rw [IntKind.wrap_i64]; omega)⟩) hq0 ?_
      simp only [Act.put, List.setIfInBounds_toArray, List.set_cons_zero, List.set_cons_succ]
      refine takeL (i := 2) (v := (.int .i64 (hi : Int))) rfl (by kernel_rfl) (by kernel_rfl) (by kernel_rfl) (fun _ _ _ h => h) (Or.inl ⟨rfl, fun _ _ => rfl⟩) hq0 ?_
      simp only [Act.put, List.setIfInBounds_toArray, List.set_cons_zero, List.set_cons_succ]
      refine takeL (i := 3) (v := (.bool true)) rfl (by kernel_rfl) (by kernel_rfl) (by kernel_rfl) (fun _ _ _ h => h) (Or.inl ⟨rfl, fun W' _ => by go_simp⟩) hq0 ?_
      simp only [Act.put, List.setIfInBounds_toArray, List.set_cons_zero, List.set_cons_succ]
      refine takeL (i := 4) (v := (.bool true)) rfl (by kernel_rfl) (by kernel_rfl) (by kernel_rfl) (fun _ _ _ h => h) (Or.inl ⟨rfl, fun _ _ => rfl⟩) hq0 ?_
      simp only [Act.put, List.setIfInBounds_toArray, List.set_cons_zero, List.set_cons_succ]
      refine takeL (i := 5) (v := (.slice (some ⟨g, 0, none⟩) n cap)) rfl (by kernel_rfl) (by kernel_rfl) (by kernel_rfl) (fun _ _ _ h => h) (Or.inl ⟨rfl, fun _ _ => rfl⟩) hq0 ?_
      simp only [Act.put, List.setIfInBounds_toArray, List.set_cons_zero, List.set_cons_succ]
      refine takeL (i := 6) (v := (.int .i64 (fi : Int))) rfl (by kernel_rfl) (by kernel_rfl) (by kernel_rfl) (fun _ _ _ h => h) (Or.inl ⟨rfl, fun _ _ => rfl⟩) hq0 ?_
      simp only [Act.put, List.setIfInBounds_toArray, List.set_cons_zero, List.set_cons_succ]
      refine takeL (i := 7) (v := (.int .i64 (c : Int))) rfl (by kernel_rfl) (by kernel_rfl) (by kernel_rfl) (fun _ _ _ h => h) (Or.inl ⟨rfl, fun _ _ => rfl⟩) hq0 ?_
      simp only [Act.put, List.setIfInBounds_toArray, List.set_cons_zero, List.set_cons_succ]
      refine takeL (i := 8) (v := (.int .i64 (pc : Int))) rfl (by kernel_rfl) (by kernel_rfl) (by kernel_rfl) (fun _ _ _ h => h) (Or.inl ⟨rfl, fun W' _ => by go_simp <;> (rw [IntKind.wrap_i64]; omega)⟩) hq0 ?_
      simp only [Act.put, List.setIfInBounds_toArray, List.set_cons_zero, List.set_cons_succ]
      refine takeL (i := 9) (v := (.pointer (some ⟨g, pc, none⟩))) rfl (by kernel_rfl) (by kernel_rfl) (by kernel_rfl) (fun _ _ _ h => h) (Or.inl ⟨rfl, fun W' _ => by go_simp <;> (intro h; omega)⟩) hq0 ?_
      simp only [Act.put, List.setIfInBounds_toArray, List.set_cons_zero, List.set_cons_succ]
      refine takeL (i := 10) (v := _) rfl (by kernel_rfl) (by kernel_rfl) (by kernel_rfl) (fun _ _ _ h => h) (yieldsIf_cell rfl 30 _ rfl ⟨g, pc, none⟩ rfl (.int .u64 x1) _ (fun W' hW' => (show W'.cell? ⟨g, pc, none⟩ = _ from (NU.out.ext hW').cell (by omega)).trans (by rw [hx1])) Try.underlying30 rfl) hq0 ?_
      simp only [Act.put, List.setIfInBounds_toArray, List.set_cons_zero, List.set_cons_succ]
      refine takeL (i := 11) (v := (.slice (some ⟨g, 0, none⟩) n cap)) rfl (by kernel_rfl) (by kernel_rfl) (by kernel_rfl) (fun _ _ _ h => h) (Or.inl ⟨rfl, fun _ _ => rfl⟩) hq0 ?_
      simp only [Act.put, List.setIfInBounds_toArray, List.set_cons_zero, List.set_cons_succ]
      refine takeL (i := 12) (v := (.int .i64 (fi : Int))) rfl (by kernel_rfl) (by kernel_rfl) (by kernel_rfl) (fun _ _ _ h => h) (Or.inl ⟨rfl, fun _ _ => rfl⟩) hq0 ?_
      simp only [Act.put, List.setIfInBounds_toArray, List.set_cons_zero, List.set_cons_succ]
      refine takeL (i := 13) (v := (.int .i64 (c : Int))) rfl (by kernel_rfl) (by kernel_rfl) (by kernel_rfl) (fun _ _ _ h => h) (Or.inl ⟨rfl, fun _ _ => rfl⟩) hq0 ?_
      simp only [Act.put, List.setIfInBounds_toArray, List.set_cons_zero, List.set_cons_succ]
      refine takeL (i := 14) (v := (.int .i64 (pc : Int))) rfl (by kernel_rfl) (by kernel_rfl) (by kernel_rfl) (fun _ _ _ h => h) (Or.inl ⟨rfl, fun W' _ => by go_simp <;> (rw [IntKind.wrap_i64]; omega)⟩) hq0 ?_
      simp only [Act.put, List.setIfInBounds_toArray, List.set_cons_zero, List.set_cons_succ]
      refine takeL (i := 15) (v := (.int .i64 (pd : Int))) rfl (by kernel_rfl) (by kernel_rfl) (by kernel_rfl) (fun _ _ _ h => h) (Or.inl ⟨rfl, fun W' _ => by go_simp <;> (rw [IntKind.wrap_i64]; omega)⟩) hq0 ?_
      simp only [Act.put, List.setIfInBounds_toArray, List.set_cons_zero, List.set_cons_succ]
      refine takeL (i := 16) (v := (.pointer (some ⟨g, pd, none⟩))) rfl (by kernel_rfl) (by kernel_rfl) (by kernel_rfl) (fun _ _ _ h => h) (Or.inl ⟨rfl, fun W' _ => by go_simp <;> (intro h; omega)⟩) hq0 ?_
      simp only [Act.put, List.setIfInBounds_toArray, List.set_cons_zero, List.set_cons_succ]
      refine takeL (i := 17) (v := _) rfl (by kernel_rfl) (by kernel_rfl) (by kernel_rfl) (fun _ _ _ h => h) (yieldsIf_cell rfl 30 _ rfl ⟨g, pd, none⟩ rfl (.int .u64 x2) _ (fun W' hW' => (show W'.cell? ⟨g, pd, none⟩ = _ from (NU.out.ext hW').cell (by omega)).trans (by rw [hx2])) Try.underlying30 rfl) hq0 ?_
      simp only [Act.put, List.setIfInBounds_toArray, List.set_cons_zero, List.set_cons_succ]
      refine runG (i := 18) rfl (by rfl) (by kernel_rfl) (fun K hK => ?_)
      go_simp
      refine (less_ext x1 x2 _).mono ?_
      rintro e wc1 ⟨rfl, hx⟩
      have hq1 := hq0.trans hx
      refine hK.out _ _ hq1 (fun hHeld => ?_)
      try simp only [Act.put, List.setIfInBounds_toArray, List.set_cons_zero, List.set_cons_succ]
      clear hK K hHeld
      refine takeL (i := 19) (v := (.bool (decide (x1 < x2)))) rfl (by kernel_rfl) (by kernel_rfl) (by kernel_rfl) (fun _ _ _ h => h) (Or.inl ⟨rfl, fun _ _ => rfl⟩) hq1 ?_
      simp only [Act.put, List.setIfInBounds_toArray, List.set_cons_zero, List.set_cons_succ]
      refine wpAnyH_done (by kernel_rfl) ?_ _
      have NU2 := Lib.hid (NU.out.ext hq1)
      have MU2 := Lib.hid (MU.out.trans (hq1.mut (fun k => k = g)))
      clear hq0 hqx hq1
      generalize hwn0 : wc1 = w3 at *
      obtain ⟨d1, hd1⟩ : ∃ d1, decide (x1 < x2) = d1 := ⟨_, rfl⟩
      rw [hd1] at HL ⊢
      clear hd1
      cases d1 with
      | true =>
        obtain ⟨k, hk⟩ : ∃ k, c1 = k := ⟨_, rfl⟩
        have hup : IntKind.i64.wrap ((c : Int) + 1) = (k : Int) := by rw [IntKind.wrap_i64]; omega
        have HK := Lib.hid ((sd_a hi fi r l.toArray (by omega) HL.out).symm.trans SDH.out)
        obtain ⟨pk, hpk⟩ : ∃ pk, fi + k = pk := ⟨_, rfl⟩
        obtain ⟨y, hvq⟩ : ∃ y, at0 l pk = y := ⟨_, rfl⟩
        have hkl : pk < n := by omega
        have HK2 := Lib.hid (show (if decide (x < y) then Go.Sort.siftDown ltI hi fi k (swl l pr pk).toArray else l.toArray) = D from by
          have h0 := HK.out
          rw [show fi + r = pr from HPR.out, show fi + (2 * r + 2) = pk from by have := HPR.out; omega, arr_at l (by omega), arr_at l (by omega), hvp, hvq, ← swl_arr l (by omega) (by omega)] at h0
          rw [show k = (2 * r + 2) by omega]
          exact h0)
        clear HK
        go_wp2_with fail
        refine beginL (S := fun W' => Ext w3 W') (by kernel_rfl) ?_
        intro wd hqx
        have hq0 : Ext w3 wd := hqx
        refine takeL (i := 0) (v := (.slice (some ⟨g, 0, none⟩) n cap)) rfl (by kernel_rfl) (by kernel_rfl) (by kernel_rfl) (fun _ _ _ h => h) (Or.inl ⟨rfl, fun _ _ => rfl⟩) hq0 ?_
        simp only [Act.put, List.setIfInBounds_toArray, List.set_cons_zero, List.set_cons_succ]
        refine takeL (i := 1) (v := (.int .i64 (fi : Int))) rfl (by kernel_rfl) (by kernel_rfl) (by kernel_rfl) (fun _ _ _ h => h) (Or.inl ⟨rfl, fun _ _ => rfl⟩) hq0 ?_
        simp only [Act.put, List.setIfInBounds_toArray, List.set_cons_zero, List.set_cons_succ]
        refine takeL (i := 2) (v := (.int .i64 (r : Int))) rfl (by kernel_rfl) (by kernel_rfl) (by kernel_rfl) (fun _ _ _ h => h) (Or.inl ⟨rfl, fun _ _ => rfl⟩) hq0 ?_
        simp only [Act.put, List.setIfInBounds_toArray, List.set_cons_zero, List.set_cons_succ]
        refine takeL (i := 3) (v := (.int .i64 (pr : Int))) rfl (by kernel_rfl) (by kernel_rfl) (by kernel_rfl) (fun _ _ _ h => h) (Or.inl ⟨rfl, fun W' _ => by go_simp <;> (rw [IntKind.wrap_i64]; omega)⟩) hq0 ?_
        simp only [Act.put, List.setIfInBounds_toArray, List.set_cons_zero, List.set_cons_succ]
        refine takeL (i := 4) (v := (.pointer (some ⟨g, pr, none⟩))) rfl (by kernel_rfl) (by kernel_rfl) (by kernel_rfl) (fun _ _ _ h => h) (Or.inl ⟨rfl, fun W' _ => by go_simp <;> (intro h; omega)⟩) hq0 ?_
        simp only [Act.put, List.setIfInBounds_toArray, List.set_cons_zero, List.set_cons_succ]
        refine takeL (i := 5) (v := _) rfl (by kernel_rfl) (by kernel_rfl) (by kernel_rfl) (fun _ _ _ h => h) (yieldsIf_cell rfl 30 _ rfl ⟨g, pr, none⟩ rfl (.int .u64 x) _ (fun W' hW' => (show W'.cell? ⟨g, pr, none⟩ = _ from (NU2.out.ext hW').cell (by omega)).trans (by rw [hvp])) Try.underlying30 rfl) hq0 ?_
        simp only [Act.put, List.setIfInBounds_toArray, List.set_cons_zero, List.set_cons_succ]
        refine takeL (i := 6) (v := (.slice (some ⟨g, 0, none⟩) n cap)) rfl (by kernel_rfl) (by kernel_rfl) (by kernel_rfl) (fun _ _ _ h => h) (Or.inl ⟨rfl, fun _ _ => rfl⟩) hq0 ?_
        simp only [Act.put, List.setIfInBounds_toArray, List.set_cons_zero, List.set_cons_succ]
        refine takeL (i := 7) (v := (.int .i64 (fi : Int))) rfl (by kernel_rfl) (by kernel_rfl) (by kernel_rfl) (fun _ _ _ h => h) (Or.inl ⟨rfl, fun _ _ => rfl⟩) hq0 ?_
        simp only [Act.put, List.setIfInBounds_toArray, List.set_cons_zero, List.set_cons_succ]
        refine takeL (i := 8) (v := (.int .i64 (k : Int))) rfl (by kernel_rfl) (by kernel_rfl) (by kernel_rfl) (fun _ _ _ h => h) (Or.inl ⟨rfl, fun _ _ => rfl⟩) hq0 ?_
        simp only [Act.put, List.setIfInBounds_toArray, List.set_cons_zero, List.set_cons_succ]
        refine takeL (i := 9) (v := (.int .i64 (pk : Int))) rfl (by kernel_rfl) (by kernel_rfl) (by kernel_rfl) (fun _ _ _ h => h) (Or.inl ⟨rfl, fun W' _ => by go_simp <;> (rw [IntKind.wrap_i64]; omega)⟩) hq0 ?_
        simp only [Act.put, List.setIfInBounds_toArray, List.set_cons_zero, List.set_cons_succ]
        refine takeL (i := 10) (v := (.pointer (some ⟨g, pk, none⟩))) rfl (by kernel_rfl) (by kernel_rfl) (by kernel_rfl) (fun _ _ _ h => h) (Or.inl ⟨rfl, fun W' _ => by go_simp <;> (intro h; omega)⟩) hq0 ?_
        simp only [Act.put, List.setIfInBounds_toArray, List.set_cons_zero, List.set_cons_succ]
        refine takeL (i := 11) (v := _) rfl (by kernel_rfl) (by kernel_rfl) (by kernel_rfl) (fun _ _ _ h => h) (yieldsIf_cell rfl 30 _ rfl ⟨g, pk, none⟩ rfl (.int .u64 y) _ (fun W' hW' => (show W'.cell? ⟨g, pk, none⟩ = _ from (NU2.out.ext hW').cell (by omega)).trans (by rw [hvq])) Try.underlying30 rfl) hq0 ?_
        simp only [Act.put, List.setIfInBounds_toArray, List.set_cons_zero, List.set_cons_succ]
        refine runL (i := 12) rfl rfl (by kernel_rfl) (fun K hK => ?_)
        go_simp
        refine (less_ext x y _).mono ?_
        rintro e wc1 ⟨rfl, hx⟩
        have hq1 := hq0.trans hx
        refine hK.out _ _ hq1 (fun hHeld => ?_)
        try simp only [Act.put, List.setIfInBounds_toArray, List.set_cons_zero, List.set_cons_succ]
        clear hK K hHeld
        refine takeL (i := 13) (v := (.bool (!(decide (x < y))))) rfl (by kernel_rfl) (by kernel_rfl) (by kernel_rfl) (fun _ _ _ h => h) (Or.inl ⟨rfl, fun W' _ => by go_simp⟩) hq1 ?_
        simp only [Act.put, List.setIfInBounds_toArray, List.set_cons_zero, List.set_cons_succ]
        refine wpAnyH_done (by kernel_rfl) ?_ _
        have NU5 := Lib.hid (NU2.out.ext hq1)
        have MU5 := Lib.hid (MU2.out.trans (hq1.mut (fun k => k = g)))
        clear hq0 hqx hq1
        generalize hwn : wc1 = w5 at *
        obtain ⟨dx, hdx⟩ : ∃ dx, decide (x < y) = dx := ⟨_, rfl⟩
        rw [hdx] at HK2 ⊢
        clear hdx
        cases dx with
        | false =>
          go_wp2_with fail
          refine bodyPost_ret (results_none rfl _ _ _) rfl ?_
          exact ⟨rfl, l, NU5.out, hln, HK2.out, MU5.out⟩
        | true =>
          go_wp2_with fail
          refine beginZ (S := fun W' => Ext w5 W') 21 (by kernel_rfl) ?_
          intro wd hqx
          have hq0 : Ext w5 wd := hqx
          refine takeY (i := 0) (z := 21) (v := (.slice (some ⟨g, 0, none⟩) n cap)) rfl (by kernel_rfl) (by kernel_rfl) (by kernel_rfl) (by kernel_rfl) (fun _ _ _ h => h) (Or.inl ⟨rfl, fun _ _ => rfl⟩) hq0 ?_
          simp only [Act.put, List.setIfInBounds_toArray, List.set_cons_zero, List.set_cons_succ]
          refine takeY (i := 1) (z := 21) (v := (.int .i64 (fi : Int))) rfl (by kernel_rfl) (by kernel_rfl) (by kernel_rfl) (by kernel_rfl) (fun _ _ _ h => h) (Or.inl ⟨rfl, fun _ _ => rfl⟩) hq0 ?_
          simp only [Act.put, List.setIfInBounds_toArray, List.set_cons_zero, List.set_cons_succ]
          refine takeY (i := 2) (z := 21) (v := (.int .i64 (r : Int))) rfl (by kernel_rfl) (by kernel_rfl) (by kernel_rfl) (by kernel_rfl) (fun _ _ _ h => h) (Or.inl ⟨rfl, fun _ _ => rfl⟩) hq0 ?_
          simp only [Act.put, List.setIfInBounds_toArray, List.set_cons_zero, List.set_cons_succ]
          refine takeY (i := 3) (z := 21) (v := (.int .i64 (pr : Int))) rfl (by kernel_rfl) (by kernel_rfl) (by kernel_rfl) (by kernel_rfl) (fun _ _ _ h => h) (Or.inl ⟨rfl, fun W' _ => by go_simp <;> (rw [IntKind.wrap_i64]; omega)⟩) hq0 ?_
          simp only [Act.put, List.setIfInBounds_toArray, List.set_cons_zero, List.set_cons_succ]
          refine takeY (i := 4) (z := 21) (v := (.slice (some ⟨g, 0, none⟩) n cap)) rfl (by kernel_rfl) (by kernel_rfl) (by kernel_rfl) (by kernel_rfl) (fun _ _ _ h => h) (Or.inl ⟨rfl, fun _ _ => rfl⟩) hq0 ?_
          simp only [Act.put, List.setIfInBounds_toArray, List.set_cons_zero, List.set_cons_succ]
          refine takeY (i := 5) (z := 21) (v := (.int .i64 (fi : Int))) rfl (by kernel_rfl) (by kernel_rfl) (by kernel_rfl) (by kernel_rfl) (fun _ _ _ h => h) (Or.inl ⟨rfl, fun _ _ => rfl⟩) hq0 ?_
          simp only [Act.put, List.setIfInBounds_toArray, List.set_cons_zero, List.set_cons_succ]
          refine takeY (i := 6) (z := 21) (v := (.int .i64 (k : Int))) rfl (by kernel_rfl) (by kernel_rfl) (by kernel_rfl) (by kernel_rfl) (fun _ _ _ h => h) (Or.inl ⟨rfl, fun _ _ => rfl⟩) hq0 ?_
          simp only [Act.put, List.setIfInBounds_toArray, List.set_cons_zero, List.set_cons_succ]
          refine takeY (i := 7) (z := 21) (v := (.int .i64 (pk : Int))) rfl (by kernel_rfl) (by kernel_rfl) (by kernel_rfl) (by kernel_rfl) (fun _ _ _ h => h) (Or.inl ⟨rfl, fun W' _ => by go_simp <;> (rw [IntKind.wrap_i64]; omega)⟩) hq0 ?_
          simp only [Act.put, List.setIfInBounds_toArray, List.set_cons_zero, List.set_cons_succ]
          refine takeY (i := 8) (z := 21) (v := (.slice (some ⟨g, 0, none⟩) n cap)) rfl (by kernel_rfl) (by kernel_rfl) (by kernel_rfl) (by kernel_rfl) (fun _ _ _ h => h) (Or.inl ⟨rfl, fun _ _ => rfl⟩) hq0 ?_
          simp only [Act.put, List.setIfInBounds_toArray, List.set_cons_zero, List.set_cons_succ]
          refine takeY (i := 9) (z := 21) (v := (.int .i64 (fi : Int))) rfl (by kernel_rfl) (by kernel_rfl) (by kernel_rfl) (by kernel_rfl) (fun _ _ _ h => h) (Or.inl ⟨rfl, fun _ _ => rfl⟩) hq0 ?_
          simp only [Act.put, List.setIfInBounds_toArray, List.set_cons_zero, List.set_cons_succ]
          refine takeY (i := 10) (z := 21) (v := (.int .i64 (k : Int))) rfl (by kernel_rfl) (by kernel_rfl) (by kernel_rfl) (by kernel_rfl) (fun _ _ _ h => h) (Or.inl ⟨rfl, fun _ _ => rfl⟩) hq0 ?_
          simp only [Act.put, List.setIfInBounds_toArray, List.set_cons_zero, List.set_cons_succ]
          refine takeY (i := 11) (z := 21) (v := (.int .i64 (pk : Int))) rfl (by kernel_rfl) (by kernel_rfl) (by kernel_rfl) (by kernel_rfl) (fun _ _ _ h => h) (Or.inl ⟨rfl, fun W' _ => by go_simp <;> (rw [IntKind.wrap_i64]; omega)⟩) hq0 ?_
          simp only [Act.put, List.setIfInBounds_toArray, List.set_cons_zero, List.set_cons_succ]
          refine takeY (i := 12) (z := 21) (v := (.pointer (some ⟨g, pk, none⟩))) rfl (by kernel_rfl) (by kernel_rfl) (by kernel_rfl) (by kernel_rfl) (fun _ _ _ h => h) (Or.inl ⟨rfl, fun W' _ => by go_simp <;> (intro h; omega)⟩) hq0 ?_
          simp only [Act.put, List.setIfInBounds_toArray, List.set_cons_zero, List.set_cons_succ]
          refine takeZ (i := 13) (z := 21) (v := _) rfl rfl (by kernel_rfl) (by kernel_rfl) (by kernel_rfl) (by kernel_rfl) (by kernel_rfl) (by kernel_rfl) (fun _ _ _ h => h) (yieldsIf_cell rfl 30 _ rfl ⟨g, pk, none⟩ rfl (.int .u64 y) _ (fun W' hW' => (show W'.cell? ⟨g, pk, none⟩ = _ from (NU5.out.ext hW').cell (by omega)).trans (by rw [hvq])) Try.underlying30 rfl) hq0 ?_
          simp only [Act.put, List.setIfInBounds_toArray, List.set_cons_zero, List.set_cons_succ]
          refine takeY (i := 14) (z := 21) (v := (.slice (some ⟨g, 0, none⟩) n cap)) rfl (by kernel_rfl) (by kernel_rfl) (by kernel_rfl) (by kernel_rfl) (fun _ _ _ h => h) (Or.inl ⟨rfl, fun _ _ => rfl⟩) hq0 ?_
          simp only [Act.put, List.setIfInBounds_toArray, List.set_cons_zero, List.set_cons_succ]
          refine takeY (i := 15) (z := 21) (v := (.int .i64 (fi : Int))) rfl (by kernel_rfl) (by kernel_rfl) (by kernel_rfl) (by kernel_rfl) (fun _ _ _ h => h) (Or.inl ⟨rfl, fun _ _ => rfl⟩) hq0 ?_
          simp only [Act.put, List.setIfInBounds_toArray, List.set_cons_zero, List.set_cons_succ]
          refine takeY (i := 16) (z := 21) (v := (.int .i64 (r : Int))) rfl (by kernel_rfl) (by kernel_rfl) (by kernel_rfl) (by kernel_rfl) (fun _ _ _ h => h) (Or.inl ⟨rfl, fun _ _ => rfl⟩) hq0 ?_
          simp only [Act.put, List.setIfInBounds_toArray, List.set_cons_zero, List.set_cons_succ]
          refine takeY (i := 17) (z := 21) (v := (.int .i64 (pr : Int))) rfl (by kernel_rfl) (by kernel_rfl) (by kernel_rfl) (by kernel_rfl) (fun _ _ _ h => h) (Or.inl ⟨rfl, fun W' _ => by go_simp <;> (rw [IntKind.wrap_i64]; omega)⟩) hq0 ?_
          simp only [Act.put, List.setIfInBounds_toArray, List.set_cons_zero, List.set_cons_succ]
          refine takeY (i := 18) (z := 21) (v := (.pointer (some ⟨g, pr, none⟩))) rfl (by kernel_rfl) (by kernel_rfl) (by kernel_rfl) (by kernel_rfl) (fun _ _ _ h => h) (Or.inl ⟨rfl, fun W' _ => by go_simp <;> (intro h; omega)⟩) hq0 ?_
          simp only [Act.put, List.setIfInBounds_toArray, List.set_cons_zero, List.set_cons_succ]
          refine takeZ (i := 19) (z := 21) (v := _) rfl rfl (by kernel_rfl) (by kernel_rfl) (by kernel_rfl) (by kernel_rfl) (by kernel_rfl) (by kernel_rfl) (fun _ _ _ h => h) (yieldsIf_cell rfl 30 _ rfl ⟨g, pr, none⟩ rfl (.int .u64 x) _ (fun W' hW' => (show W'.cell? ⟨g, pr, none⟩ = _ from (NU5.out.ext hW').cell (by omega)).trans (by rw [hvp])) Try.underlying30 rfl) hq0 ?_
          simp only [Act.put, List.setIfInBounds_toArray, List.set_cons_zero, List.set_cons_succ]
          refine takeY (i := 20) (z := 21) (v := (.pointer (some ⟨g, pr, none⟩))) rfl (by kernel_rfl) (by kernel_rfl) (by kernel_rfl) (by kernel_rfl) (fun _ _ _ h => h) (Or.inl ⟨rfl, fun W' _ => by go_simp <;> (intro h; omega)⟩) hq0 ?_
          simp only [Act.put, List.setIfInBounds_toArray, List.set_cons_zero, List.set_cons_succ]
          refine runZl (z := 21) rfl rfl (by kernel_rfl) (fun K hK => ?_)
          have hce := (NU5.out.ext hq0)
          have hc1 : wd.cell? ⟨g, pr, none⟩ = some (.int .u64 (at0 l (pr))) := hce.cell (by omega)
          have hf1 := hce.froz (pr)
          go_simp
          refine hK.out _ _ ?_
          try simp only [Act.put, List.setIfInBounds_toArray, List.set_cons_zero, List.set_cons_succ]
          clear hK K hc1 hf1
          have hce2 := hce.set (p := pr) (by omega) (at0 l (pk))
          rw [hvq] at hce2
          have hq9 := (hq0.mut (fun k => k = g)).setCell (p := ⟨g, pr, none⟩) (.inl rfl) (.int .u64 y)
          refine takeL (i := 22) (v := (.pointer (some ⟨g, pk, none⟩))) rfl (by kernel_rfl) (by kernel_rfl) (by kernel_rfl) (fun _ _ _ h => h) (Or.inl ⟨rfl, fun W' _ => by go_simp <;> (intro h; omega)⟩) trivial ?_
          simp only [Act.put, List.setIfInBounds_toArray, List.set_cons_zero, List.set_cons_succ]
          refine runL (i := 23) rfl rfl (by kernel_rfl) (fun K hK => ?_)
          have hc2 : (wd.setCell ⟨g, pr, none⟩ (.int .u64 y)).cell? ⟨g, pk, none⟩ = some (.int .u64 (at0 (l.set (pr) y) (pk))) := hce2.cell (by simp; omega)
          have hf2 := hce2.froz (pk)
          go_simp
          refine hK.out _ _ trivial (fun _ => ?_)
          try simp only [Act.put, List.setIfInBounds_toArray, List.set_cons_zero, List.set_cons_succ]
          clear hK K hc2 hf2
          refine wpAnyH_done (by kernel_rfl) ?_ _
          have hce3 := hce2.set (p := pk) (by simp; omega) (at0 l (pr))
          rw [hvp] at hce3
          have NU3 := Lib.hid (show Nums _ g (swl l (pr) (pk)) from by unfold swl; rw [hvp, hvq]; exact hce3)
          have MU3 := Lib.hid (hq9.setCell (p := ⟨g, pk, none⟩) (.inl rfl) (.int .u64 x))
          clear hce hce2 hce3 hq9 hq0 hqx
          generalize (wd.setCell ⟨g, pr, none⟩ (.int .u64 y)).setCell ⟨g, pk, none⟩ (.int .u64 x) = wm at *
          go_wp2_with fail
          go_roundw
          case rel => exact ⟨k, swl l pr pk, rfl, by omega, NU3.out, by rw [swl_len]; exact hln, HK2.out, MU5.out.trans MU3.out⟩
          case measure => simp [intOf] <;> omega
      | false =>
        obtain ⟨k, hk⟩ : ∃ k, c = k := ⟨_, rfl⟩
        have HK := Lib.hid ((sd_b hi fi r l.toArray (by omega) (by rw [HL.out, Bool.and_false])).symm.trans SDH.out)
        obtain ⟨pk, hpk⟩ : ∃ pk, fi + k = pk := ⟨_, rfl⟩
        rw [hk]
        obtain ⟨y, hvq⟩ : ∃ y, at0 l pk = y := ⟨_, rfl⟩
        have hkl : pk < n := by omega
        have HK2 := Lib.hid (show (if decide (x < y) then Go.Sort.siftDown ltI hi fi k (swl l pr pk).toArray else l.toArray) = D from by
          have h0 := HK.out
          rw [show fi + r = pr from HPR.out, show fi + (2 * r + 1) = pk from by have := HPR.out; omega, arr_at l (by omega), arr_at l (by omega), hvp, hvq, ← swl_arr l (by omega) (by omega)] at h0
          rw [show k = (2 * r + 1) by omega]
          exact h0)
        clear HK
        go_wp2_with fail
        refine beginL (S := fun W' => Ext w3 W') (by kernel_rfl) ?_
        intro wd hqx
        have hq0 : Ext w3 wd := hqx
        refine takeL (i := 0) (v := (.slice (some ⟨g, 0, none⟩) n cap)) rfl (by kernel_rfl) (by kernel_rfl) (by kernel_rfl) (fun _ _ _ h => h) (Or.inl ⟨rfl, fun _ _ => rfl⟩) hq0 ?_
        simp only [Act.put, List.setIfInBounds_toArray, List.set_cons_zero, List.set_cons_succ]
        refine takeL (i := 1) (v := (.int .i64 (fi : Int))) rfl (by kernel_rfl) (by kernel_rfl) (by kernel_rfl) (fun _ _ _ h => h) (Or.inl ⟨rfl, fun _ _ => rfl⟩) hq0 ?_
        simp only [Act.put, List.setIfInBounds_toArray, List.set_cons_zero, List.set_cons_succ]
        refine takeL (i := 2) (v := (.int .i64 (r : Int))) rfl (by kernel_rfl) (by kernel_rfl) (by kernel_rfl) (fun _ _ _ h => h) (Or.inl ⟨rfl, fun _ _ => rfl⟩) hq0 ?_
        simp only [Act.put, List.setIfInBounds_toArray, List.set_cons_zero, List.set_cons_succ]
        refine takeL (i := 3) (v := (.int .i64 (pr : Int))) rfl (by kernel_rfl) (by kernel_rfl) (by kernel_rfl) (fun _ _ _ h => h) (Or.inl ⟨rfl, fun W' _ => by go_simp <;> (rw [IntKind.wrap_i64]; omega)⟩) hq0 ?_
        simp only [Act.put, List.setIfInBounds_toArray, List.set_cons_zero, List.set_cons_succ]
        refine takeL (i := 4) (v := (.pointer (some ⟨g, pr, none⟩))) rfl (by kernel_rfl) (by kernel_rfl) (by kernel_rfl) (fun _ _ _ h => h) (Or.inl ⟨rfl, fun W' _ => by go_simp <;> (intro h; omega)⟩) hq0 ?_
        simp only [Act.put, List.setIfInBounds_toArray, List.set_cons_zero, List.set_cons_succ]
        refine takeL (i := 5) (v := _) rfl (by kernel_rfl) (by kernel_rfl) (by kernel_rfl) (fun _ _ _ h => h) (yieldsIf_cell rfl 30 _ rfl ⟨g, pr, none⟩ rfl (.int .u64 x) _ (fun W' hW' => (show W'.cell? ⟨g, pr, none⟩ = _ from (NU2.out.ext hW').cell (by omega)).trans (by rw [hvp])) Try.underlying30 rfl) hq0 ?_
        simp only [Act.put, List.setIfInBounds_toArray, List.set_cons_zero, List.set_cons_succ]
        refine takeL (i := 6) (v := (.slice (some ⟨g, 0, none⟩) n cap)) rfl (by kernel_rfl) (by kernel_rfl) (by kernel_rfl) (fun _ _ _ h => h) (Or.inl ⟨rfl, fun _ _ => rfl⟩) hq0 ?_
        simp only [Act.put, List.setIfInBounds_toArray, List.set_cons_zero, List.set_cons_succ]
        refine takeL (i := 7) (v := (.int .i64 (fi : Int))) rfl (by kernel_rfl) (by kernel_rfl) (by kernel_rfl) (fun _ _ _ h => h) (Or.inl ⟨rfl, fun _ _ => rfl⟩) hq0 ?_
        simp only [Act.put, List.setIfInBounds_toArray, List.set_cons_zero, List.set_cons_succ]
        refine takeL (i := 8) (v := (.int .i64 (k : Int))) rfl (by kernel_rfl) (by kernel_rfl) (by kernel_rfl) (fun _ _ _ h => h) (Or.inl ⟨rfl, fun _ _ => rfl⟩) hq0 ?_
        simp only [Act.put, List.setIfInBounds_toArray, List.set_cons_zero, List.set_cons_succ]
        refine takeL (i := 9) (v := (.int .i64 (pk : Int))) rfl (by kernel_rfl) (by kernel_rfl) (by kernel_rfl) (fun _ _ _ h => h) (Or.inl ⟨rfl, fun W' _ => by go_simp <;> (rw [IntKind.wrap_i64]; omega)⟩) hq0 ?_
        simp only [Act.put, List.setIfInBounds_toArray, List.set_cons_zero, List.set_cons_succ]
        refine takeL (i := 10) (v := (.pointer (some ⟨g, pk, none⟩))) rfl (by kernel_rfl) (by kernel_rfl) (by kernel_rfl) (fun _ _ _ h => h) (Or.inl ⟨rfl, fun W' _ => by go_simp <;> (intro h; omega)⟩) hq0 ?_
        simp only [Act.put, List.setIfInBounds_toArray, List.set_cons_zero, List.set_cons_succ]
        refine takeL (i := 11) (v := _) rfl (by kernel_rfl) (by kernel_rfl) (by kernel_rfl) (fun _ _ _ h => h) (yieldsIf_cell rfl 30 _ rfl ⟨g, pk, none⟩ rfl (.int .u64 y) _ (fun W' hW' => (show W'.cell? ⟨g, pk, none⟩ = _ from (NU2.out.ext hW').cell (by omega)).trans (by rw [hvq])) Try.underlying30 rfl) hq0 ?_
        simp only [Act.put, List.setIfInBounds_toArray, List.set_cons_zero, List.set_cons_succ]
        refine runL (i := 12) rfl rfl (by kernel_rfl) (fun K hK => ?_)
        go_simp
        refine (less_ext x y _).mono ?_
        rintro e wc1 ⟨rfl, hx⟩
        have hq1 := hq0.trans hx
        refine hK.out _ _ hq1 (fun hHeld => ?_)
        try simp only [Act.put, List.setIfInBounds_toArray, List.set_cons_zero, List.set_cons_succ]
        clear hK K hHeld
        refine takeL (i := 13) (v := (.bool (!(decide (x < y))))) rfl (by kernel_rfl) (by kernel_rfl) (by kernel_rfl) (fun _ _ _ h => h) (Or.inl ⟨rfl, fun W' _ => by go_simp⟩) hq1 ?_
        simp only [Act.put, List.setIfInBounds_toArray, List.set_cons_zero, List.set_cons_succ]
        refine wpAnyH_done (by kernel_rfl) ?_ _
        have NU5 := Lib.hid (NU2.out.ext hq1)
        have MU5 := Lib.hid (MU2.out.trans (hq1.mut (fun k => k = g)))
        clear hq0 hqx hq1
        generalize hwn : wc1 = w5 at *
        obtain ⟨dx, hdx⟩ : ∃ dx, decide (x < y) = dx := ⟨_, rfl⟩
        rw [hdx] at HK2 ⊢
        clear hdx
        cases dx with
        | false =>
          go_wp2_with fail
          refine bodyPost_ret (results_none rfl _ _ _) rfl ?_
          exact ⟨rfl, l, NU5.out, hln, HK2.out, MU5.out⟩
        | true =>
          go_wp2_with fail
          refine beginZ (S := fun W' => Ext w5 W') 21 (by kernel_rfl) ?_
          intro wd hqx
          have hq0 : Ext w5 wd := hqx
          refine takeY (i := 0) (z := 21) (v := (.slice (some ⟨g, 0, none⟩) n cap)) rfl (by kernel_rfl) (by kernel_rfl) (by kernel_rfl) (by kernel_rfl) (fun _ _ _ h => h) (Or.inl ⟨rfl, fun _ _ => rfl⟩) hq0 ?_
          simp only [Act.put, List.setIfInBounds_toArray, List.set_cons_zero, List.set_cons_succ]
          refine takeY (i := 1) (z := 21) (v := (.int .i64 (fi : Int))) rfl (by kernel_rfl) (by kernel_rfl) (by kernel_rfl) (by kernel_rfl) (fun _ _ _ h => h) (Or.inl ⟨rfl, fun _ _ => rfl⟩) hq0 ?_
          simp only [Act.put, List.setIfInBounds_toArray, List.set_cons_zero, List.set_cons_succ]
          refine takeY (i := 2) (z := 21) (v := (.int .i64 (r : Int))) rfl (by kernel_rfl) (by kernel_rfl) (by kernel_rfl) (by kernel_rfl) (fun _ _ _ h => h) (Or.inl ⟨rfl, fun _ _ => rfl⟩) hq0 ?_
          simp only [Act.put, List.setIfInBounds_toArray, List.set_cons_zero, List.set_cons_succ]
          refine takeY (i := 3) (z := 21) (v := (.int .i64 (pr : Int))) rfl (by kernel_rfl) (by kernel_rfl) (by kernel_rfl) (by kernel_rfl) (fun _ _ _ h => h) (Or.inl ⟨rfl, fun W' _ => by go_simp <;> (rw [IntKind.wrap_i64]; omega)⟩) hq0 ?_
          simp only [Act.put, List.setIfInBounds_toArray, List.set_cons_zero, List.set_cons_succ]
          refine takeY (i := 4) (z := 21) (v := (.slice (some ⟨g, 0, none⟩) n cap)) rfl (by kernel_rfl) (by kernel_rfl) (by kernel_rfl) (by kernel_rfl) (fun _ _ _ h => h) (Or.inl ⟨rfl, fun _ _ => rfl⟩) hq0 ?_
          simp only [Act.put, List.setIfInBounds_toArray, List.set_cons_zero, List.set_cons_succ]
          refine takeY (i := 5) (z := 21) (v := (.int .i64 (fi : Int))) rfl (by kernel_rfl) (by kernel_rfl) (by kernel_rfl) (by kernel_rfl) (fun _ _ _ h => h) (Or.inl ⟨rfl, fun _ _ => rfl⟩) hq0 ?_
          simp only [Act.put, List.setIfInBounds_toArray, List.set_cons_zero, List.set_cons_succ]
          refine takeY (i := 6) (z := 21) (v := (.int .i64 (k : Int))) rfl (by kernel_rfl) (by kernel_rfl) (by kernel_rfl) (by kernel_rfl) (fun _ _ _ h => h) (Or.inl ⟨rfl, fun _ _ => rfl⟩) hq0 ?_
          simp only [Act.put, List.setIfInBounds_toArray, List.set_cons_zero, List.set_cons_succ]
          refine takeY (i := 7) (z := 21) (v := (.int .i64 (pk : Int))) rfl (by kernel_rfl) (by kernel_rfl) (by kernel_rfl) (by kernel_rfl) (fun _ _ _ h => h) (Or.inl ⟨rfl, fun W' _ => by go_simp <;> (rw [IntKind.wrap_i64]; omega)⟩) hq0 ?_
          simp only [Act.put, List.setIfInBounds_toArray, List.set_cons_zero, List.set_cons_succ]
          refine takeY (i := 8) (z := 21) (v := (.slice (some ⟨g, 0, none⟩) n cap)) rfl (by kernel_rfl) (by kernel_rfl) (by kernel_rfl) (by kernel_rfl) (fun _ _ _ h => h) (Or.inl ⟨rfl, fun _ _ => rfl⟩) hq0 ?_
          simp only [Act.put, List.setIfInBounds_toArray, List.set_cons_zero, List.set_cons_succ]
          refine takeY (i := 9) (z := 21) (v := (.int .i64 (fi : Int))) rfl (by kernel_rfl) (by kernel_rfl) (by kernel_rfl) (by kernel_rfl) (fun _ _ _ h => h) (Or.inl ⟨rfl, fun _ _ => rfl⟩) hq0 ?_
          simp only [Act.put, List.setIfInBounds_toArray, List.set_cons_zero, List.set_cons_succ]
          refine takeY (i := 10) (z := 21) (v := (.int .i64 (k : Int))) rfl (by kernel_rfl) (by kernel_rfl) (by kernel_rfl) (by kernel_rfl) (fun _ _ _ h => h) (Or.inl ⟨rfl, fun _ _ => rfl⟩) hq0 ?_
          simp only [Act.put, List.setIfInBounds_toArray, List.set_cons_zero, List.set_cons_succ]
          refine takeY (i := 11) (z := 21) (v := (.int .i64 (pk : Int))) rfl (by kernel_rfl) (by kernel_rfl) (by kernel_rfl) (by kernel_rfl) (fun _ _ _ h => h) (Or.inl ⟨rfl, fun W' _ => by go_simp <;> (rw [IntKind.wrap_i64]; omega)⟩) hq0 ?_
          simp only [Act.put, List.setIfInBounds_toArray, List.set_cons_zero, List.set_cons_succ]
          refine takeY (i := 12) (z := 21) (v := (.pointer (some ⟨g, pk, none⟩))) rfl (by kernel_rfl) (by kernel_rfl) (by kernel_rfl) (by kernel_rfl) (fun _ _ _ h => h) (Or.inl ⟨rfl, fun W' _ => by go_simp <;> (intro h; omega)⟩) hq0 ?_
          simp only [Act.put, List.setIfInBounds_toArray, List.set_cons_zero, List.set_cons_succ]
          refine takeZ (i := 13) (z := 21) (v := _) rfl rfl (by kernel_rfl) (by kernel_rfl) (by kernel_rfl) (by kernel_rfl) (by kernel_rfl) (by kernel_rfl) (fun _ _ _ h => h) (yieldsIf_cell rfl 30 _ rfl ⟨g, pk, none⟩ rfl (.int .u64 y) _ (fun W' hW' => (show W'.cell? ⟨g, pk, none⟩ = _ from (NU5.out.ext hW').cell (by omega)).trans (by rw [hvq])) Try.underlying30 rfl) hq0 ?_
          simp only [Act.put, List.setIfInBounds_toArray, List.set_cons_zero, List.set_cons_succ]
          refine takeY (i := 14) (z := 21) (v := (.slice (some ⟨g, 0, none⟩) n cap)) rfl (by kernel_rfl) (by kernel_rfl) (by kernel_rfl) (by kernel_rfl) (fun _ _ _ h => h) (Or.inl ⟨rfl, fun _ _ => rfl⟩) hq0 ?_
          simp only [Act.put, List.setIfInBounds_toArray, List.set_cons_zero, List.set_cons_succ]
          refine takeY (i := 15) (z := 21) (v := (.int .i64 (fi : Int))) rfl (by kernel_rfl) (by kernel_rfl) (by kernel_rfl) (by kernel_rfl) (fun _ _ _ h => h) (Or.inl ⟨rfl, fun _ _ => rfl⟩) hq0 ?_
          simp only [Act.put, List.setIfInBounds_toArray, List.set_cons_zero, List.set_cons_succ]
          refine takeY (i := 16) (z := 21) (v := (.int .i64 (r : Int))) rfl (by kernel_rfl) (by kernel_rfl) (by kernel_rfl) (by kernel_rfl) (fun _ _ _ h => h) (Or.inl ⟨rfl, fun _ _ => rfl⟩) hq0 ?_
          simp only [Act.put, List.setIfInBounds_toArray, List.set_cons_zero, List.set_cons_succ]
          refine takeY (i := 17) (z := 21) (v := (.int .i64 (pr : Int))) rfl (by kernel_rfl) (by kernel_rfl) (by kernel_rfl) (by kernel_rfl) (fun _ _ _ h => h) (Or.inl ⟨rfl, fun W' _ => by go_simp <;> (rw [IntKind.wrap_i64]; omega)⟩) hq0 ?_
          simp only [Act.put, List.setIfInBounds_toArray, List.set_cons_zero, List.set_cons_succ]
          refine takeY (i := 18) (z := 21) (v := (.pointer (some ⟨g, pr, none⟩))) rfl (by kernel_rfl) (by kernel_rfl) (by kernel_rfl) (by kernel_rfl) (fun _ _ _ h => h) (Or.inl ⟨rfl, fun W' _ => by go_simp <;> (intro h; omega)⟩) hq0 ?_
          simp only [Act.put, List.setIfInBounds_toArray, List.set_cons_zero, List.set_cons_succ]
          refine takeZ (i := 19) (z := 21) (v := _) rfl rfl (by kernel_rfl) (by kernel_rfl) (by kernel_rfl) (by kernel_rfl) (by kernel_rfl) (by kernel_rfl) (fun _ _ _ h => h) (yieldsIf_cell rfl 30 _ rfl ⟨g, pr, none⟩ rfl (.int .u64 x) _ (fun W' hW' => (show W'.cell? ⟨g, pr, none⟩ = _ from (NU5.out.ext hW').cell (by omega)).trans (by rw [hvp])) Try.underlying30 rfl) hq0 ?_
          simp only [Act.put, List.setIfInBounds_toArray, List.set_cons_zero, List.set_cons_succ]
          refine takeY (i := 20) (z := 21) (v := (.pointer (some ⟨g, pr, none⟩))) rfl (by kernel_rfl) (by kernel_rfl) (by kernel_rfl) (by kernel_rfl) (fun _ _ _ h => h) (Or.inl ⟨rfl, fun W' _ => by go_simp <;> (intro h; omega)⟩) hq0 ?_
          simp only [Act.put, List.setIfInBounds_toArray, List.set_cons_zero, List.set_cons_succ]
          refine runZl (z := 21) rfl rfl (by kernel_rfl) (fun K hK => ?_)
          have hce := (NU5.out.ext hq0)
          have hc1 : wd.cell? ⟨g, pr, none⟩ = some (.int .u64 (at0 l (pr))) := hce.cell (by omega)
          have hf1 := hce.froz (pr)
          go_simp
          refine hK.out _ _ ?_
          try simp only [Act.put, List.setIfInBounds_toArray, List.set_cons_zero, List.set_cons_succ]
          clear hK K hc1 hf1
          have hce2 := hce.set (p := pr) (by omega) (at0 l (pk))
          rw [hvq] at hce2
          have hq9 := (hq0.mut (fun k => k = g)).setCell (p := ⟨g, pr, none⟩) (.inl rfl) (.int .u64 y)
          refine takeL (i := 22) (v := (.pointer (some ⟨g, pk, none⟩))) rfl (by kernel_rfl) (by kernel_rfl) (by kernel_rfl) (fun _ _ _ h => h) (Or.inl ⟨rfl, fun W' _ => by go_simp <;> (intro h; omega)⟩) trivial ?_
          simp only [Act.put, List.setIfInBounds_toArray, List.set_cons_zero, List.set_cons_succ]
          refine runL (i := 23) rfl rfl (by kernel_rfl) (fun K hK => ?_)
          have hc2 : (wd.setCell ⟨g, pr, none⟩ (.int .u64 y)).cell? ⟨g, pk, none⟩ = some (.int .u64 (at0 (l.set (pr) y) (pk))) := hce2.cell (by simp; omega)
          have hf2 := hce2.froz (pk)
          go_simp
          refine hK.out _ _ trivial (fun _ => ?_)
          try simp only [Act.put, List.setIfInBounds_toArray, List.set_cons_zero, List.set_cons_succ]
          clear hK K hc2 hf2
          refine wpAnyH_done (by kernel_rfl) ?_ _
          have hce3 := hce2.set (p := pk) (by simp; omega) (at0 l (pr))
          rw [hvp] at hce3
          have NU3 := Lib.hid (show Nums _ g (swl l (pr) (pk)) from by unfold swl; rw [hvp, hvq]; exact hce3)
          have MU3 := Lib.hid (hq9.setCell (p := ⟨g, pk, none⟩) (.inl rfl) (.int .u64 x))
          clear hce hce2 hce3 hq9 hq0 hqx
          generalize (wd.setCell ⟨g, pr, none⟩ (.int .u64 y)).setCell ⟨g, pk, none⟩ (.int .u64 x) = wm at *
          go_wp2_with fail
          go_roundw
          case rel => exact ⟨k, swl l pr pk, rfl, by omega, NU3.out, by rw [swl_len]; exact hln, HK2.out, MU5.out.trans MU3.out⟩
          case measure => simp [intOf] <;> omega
    · have dch : decide ((c1 : Int) < (hi : Int)) = false := by simp; omega
      refine beginL (S := fun W' => Ext wl W') (by kernel_rfl) ?_
      intro wd hqx
      have hq0 : Ext wl wd := hqx
      refine takeL (i := 0) (v := (.int .i64 (c : Int))) rfl (by kernel_rfl) (by kernel_rfl) (by kernel_rfl) (fun _ _ _ h => h) (Or.inl ⟨rfl, fun _ _ => rfl⟩) hq0 ?_
      simp only [Act.put, List.setIfInBounds_toArray, List.set_cons_zero, List.set_cons_succ]
      refine takeL (i := 1) (v := (.int .i64 (c1 : Int))) rfl (by kernel_rfl) (by kernel_rfl) (by kernel_rfl) (fun _ _ _ h => h) (Or.inl ⟨rfl, fun W' _ => by go_simp <;> (rw [IntKind.wrap_i64]; omega)⟩) hq0 ?_
      simp only [Act.put, List.setIfInBounds_toArray, List.set_cons_zero, List.set_cons_succ]
      refine takeL (i := 2) (v := (.int .i64 (hi : Int))) rfl (by kernel_rfl) (by kernel_rfl) (by kernel_rfl) (fun _ _ _ h => h) (Or.inl ⟨rfl, fun _ _ => rfl⟩) hq0 ?_
      simp only [Act.put, List.setIfInBounds_toArray, List.set_cons_zero, List.set_cons_succ]
      refine takeL (i := 3) (v := (.bool false)) rfl (by kernel_rfl) (by kernel_rfl) (by kernel_rfl) (fun _ _ _ h => h) (Or.inl ⟨rfl, fun W' _ => by go_simp⟩) hq0 ?_
      simp only [Act.put, List.setIfInBounds_toArray, List.set_cons_zero, List.set_cons_succ]
      refine takeL (i := 4) (v := (.bool false)) rfl (by kernel_rfl) (by kernel_rfl) (by kernel_rfl) (fun _ _ _ h => h) (Or.inl ⟨rfl, fun _ _ => rfl⟩) hq0 ?_
      simp only [Act.put, List.setIfInBounds_toArray, List.set_cons_zero, List.set_cons_succ]
      refine takeL (i := 5) (v := undef) rfl (by kernel_rfl) (by kernel_rfl) (by kernel_rfl) (fun _ _ _ h => h) (Or.inr ⟨rfl, rfl⟩) hq0 ?_
      simp only [Act.put, List.setIfInBounds_toArray, List.set_cons_zero, List.set_cons_succ]
      refine takeL (i := 6) (v := undef) rfl (by kernel_rfl) (by kernel_rfl) (by kernel_rfl) (fun _ _ _ h => h) (Or.inr ⟨rfl, rfl⟩) hq0 ?_
      simp only [Act.put, List.setIfInBounds_toArray, List.set_cons_zero, List.set_cons_succ]
      refine takeL (i := 7) (v := undef) rfl (by kernel_rfl) (by kernel_rfl) (by kernel_rfl) (fun _ _ _ h => h) (Or.inr ⟨rfl, rfl⟩) hq0 ?_
      simp only [Act.put, List.setIfInBounds_toArray, List.set_cons_zero, List.set_cons_succ]
      refine takeL (i := 8) (v := undef) rfl (by kernel_rfl) (by kernel_rfl) (by kernel_rfl) (fun _ _ _ h => h) (Or.inr ⟨rfl, rfl⟩) hq0 ?_
      simp only [Act.put, List.setIfInBounds_toArray, List.set_cons_zero, List.set_cons_succ]
      refine takeL (i := 9) (v := undef) rfl (by kernel_rfl) (by kernel_rfl) (by kernel_rfl) (fun _ _ _ h => h) (Or.inr ⟨rfl, rfl⟩) hq0 ?_
      simp only [Act.put, List.setIfInBounds_toArray, List.set_cons_zero, List.set_cons_succ]
      refine takeL (i := 10) (v := undef) rfl (by kernel_rfl) (by kernel_rfl) (by kernel_rfl) (fun _ _ _ h => h) (Or.inr ⟨rfl, rfl⟩) hq0 ?_
      simp only [Act.put, List.setIfInBounds_toArray, List.set_cons_zero, List.set_cons_succ]
      refine takeL (i := 11) (v := undef) rfl (by kernel_rfl) (by kernel_rfl) (by kernel_rfl) (fun _ _ _ h => h) (Or.inr ⟨rfl, rfl⟩) hq0 ?_
      simp only [Act.put, List.setIfInBounds_toArray, List.set_cons_zero, List.set_cons_succ]
      refine takeL (i := 12) (v := undef) rfl (by kernel_rfl) (by kernel_rfl) (by kernel_rfl) (fun _ _ _ h => h) (Or.inr ⟨rfl, rfl⟩) hq0 ?_
      simp only [Act.put, List.setIfInBounds_toArray, List.set_cons_zero, List.set_cons_succ]
      refine takeL (i := 13) (v := undef) rfl (by kernel_rfl) (by kernel_rfl) (by kernel_rfl) (fun _ _ _ h => h) (Or.inr ⟨rfl, rfl⟩) hq0 ?_
      simp only [Act.put, List.setIfInBounds_toArray, List.set_cons_zero, List.set_cons_succ]
      refine takeL (i := 14) (v := undef) rfl (by kernel_rfl) (by kernel_rfl) (by kernel_rfl) (fun _ _ _ h => h) (Or.inr ⟨rfl, rfl⟩) hq0 ?_
      simp only [Act.put, List.setIfInBounds_toArray, List.set_cons_zero, List.set_cons_succ]
      refine takeL (i := 15) (v := undef) rfl (by kernel_rfl) (by kernel_rfl) (by kernel_rfl) (fun _ _ _ h => h) (Or.inr ⟨rfl, rfl⟩) hq0 ?_
      simp only [Act.put, List.setIfInBounds_toArray, List.set_cons_zero, List.set_cons_succ]
      refine takeL (i := 16) (v := undef) rfl (by kernel_rfl) (by kernel_rfl) (by kernel_rfl) (fun _ _ _ h => h) (Or.inr ⟨rfl, rfl⟩) hq0 ?_
      simp only [Act.put, List.setIfInBounds_toArray, List.set_cons_zero, List.set_cons_succ]
      refine takeL (i := 17) (v := undef) rfl (by kernel_rfl) (by kernel_rfl) (by kernel_rfl) (fun _ _ _ h => h) (Or.inr ⟨rfl, rfl⟩) hq0 ?_
      simp only [Act.put, List.setIfInBounds_toArray, List.set_cons_zero, List.set_cons_succ]
      refine takeL (i := 18) (v := undef) rfl (by kernel_rfl) (by kernel_rfl) (by kernel_rfl) (fun _ _ _ h => h) (Or.inr ⟨rfl, rfl⟩) hq0 ?_
      simp only [Act.put, List.setIfInBounds_toArray, List.set_cons_zero, List.set_cons_succ]
      refine takeL (i := 19) (v := (.bool false)) rfl (by kernel_rfl) (by kernel_rfl) (by kernel_rfl) (fun _ _ _ h => h) (Or.inl ⟨rfl, fun _ _ => rfl⟩) hq0 ?_
      simp only [Act.put, List.setIfInBounds_toArray, List.set_cons_zero, List.set_cons_succ]
      refine wpAnyH_done (by kernel_rfl) ?_ _
      have NU2 := Lib.hid (NU.out.ext hq0)
      have MU2 := Lib.hid (MU.out.trans (hq0.mut (fun k => k = g)))
      clear hq0 hqx
      generalize hwn0 : wd = w3 at *
      obtain ⟨k, hk⟩ : ∃ k, c = k := ⟨_, rfl⟩
      have HK := Lib.hid ((sd_b hi fi r l.toArray (by omega) (by rw [decide_eq_false (by omega), Bool.false_and])).symm.trans SDH.out)
      obtain ⟨pk, hpk⟩ : ∃ pk, fi + k = pk := ⟨_, rfl⟩
      rw [hk]
      obtain ⟨y, hvq⟩ : ∃ y, at0 l pk = y := ⟨_, rfl⟩
      have hkl : pk < n := by omega
      have HK2 := Lib.hid (show (if decide (x < y) then Go.Sort.siftDown ltI hi fi k (swl l pr pk).toArray else l.toArray) = D from by
        have h0 := HK.out
        rw [show fi + r = pr from HPR.out, show fi + (2 * r + 1) = pk from by have := HPR.out; omega, arr_at l (by omega), arr_at l (by omega), hvp, hvq, ← swl_arr l (by omega) (by omega)] at h0
        rw [show k = (2 * r + 1) by omega]
        exact h0)
      clear HK
      go_wp2_with fail
      refine beginL (S := fun W' => Ext w3 W') (by kernel_rfl) ?_
      intro wd hqx
      have hq0 : Ext w3 wd := hqx
      refine takeL (i := 0) (v := (.slice (some ⟨g, 0, none⟩) n cap)) rfl (by kernel_rfl) (by kernel_rfl) (by kernel_rfl) (fun _ _ _ h => h) (Or.inl ⟨rfl, fun _ _ => rfl⟩) hq0 ?_
      simp only [Act.put, List.setIfInBounds_toArray, List.set_cons_zero, List.set_cons_succ]
      refine takeL (i := 1) (v := (.int .i64 (fi : Int))) rfl (by kernel_rfl) (by kernel_rfl) (by kernel_rfl) (fun _ _ _ h => h) (Or.inl ⟨rfl, fun _ _ => rfl⟩) hq0 ?_
      simp only [Act.put, List.setIfInBounds_toArray, List.set_cons_zero, List.set_cons_succ]
      refine takeL (i := 2) (v := (.int .i64 (r : Int))) rfl (by kernel_rfl) (by kernel_rfl) (by kernel_rfl) (fun _ _ _ h => h) (Or.inl ⟨rfl, fun _ _ => rfl⟩) hq0 ?_
      simp only [Act.put, List.setIfInBounds_toArray, List.set_cons_zero, List.set_cons_succ]
      refine takeL (i := 3) (v := (.int .i64 (pr : Int))) rfl (by kernel_rfl) (by kernel_rfl) (by kernel_rfl) (fun _ _ _ h => h) (Or.inl ⟨rfl, fun W' _ => by go_simp <;> (rw [IntKind.wrap_i64]; omega)⟩) hq0 ?_
      simp only [Act.put, List.setIfInBounds_toArray, List.set_cons_zero, List.set_cons_succ]
      refine takeL (i := 4) (v := (.pointer (some ⟨g, pr, none⟩))) rfl (by kernel_rfl) (by kernel_rfl) (by kernel_rfl) (fun _ _ _ h => h) (Or.inl ⟨rfl, fun W' _ => by go_simp <;> (intro h; omega)⟩) hq0 ?_
      simp only [Act.put, List.setIfInBounds_toArray, List.set_cons_zero, List.set_cons_succ]
      refine takeL (i := 5) (v := _) rfl (by kernel_rfl) (by kernel_rfl) (by kernel_rfl) (fun _ _ _ h => h) (yieldsIf_cell rfl 30 _ rfl ⟨g, pr, none⟩ rfl (.int .u64 x) _ (fun W' hW' => (show W'.cell? ⟨g, pr, none⟩ = _ from (NU2.out.ext hW').cell (by omega)).trans (by rw [hvp])) Try.underlying30 rfl) hq0 ?_
      simp only [Act.put, List.setIfInBounds_toArray, List.set_cons_zero, List.set_cons_succ]
      refine takeL (i := 6) (v := (.slice (some ⟨g, 0, none⟩) n cap)) rfl (by kernel_rfl) (by kernel_rfl) (by kernel_rfl) (fun _ _ _ h => h) (Or.inl ⟨rfl, fun _ _ => rfl⟩) hq0 ?_
      simp only [Act.put, List.setIfInBounds_toArray, List.set_cons_zero, List.set_cons_succ]
      refine takeL (i := 7) (v := (.int .i64 (fi : Int))) rfl (by kernel_rfl) (by kernel_rfl) (by kernel_rfl) (fun _ _ _ h => h) (Or.inl ⟨rfl, fun _ _ => rfl⟩) hq0 ?_
      simp only [Act.put, List.setIfInBounds_toArray, List.set_cons_zero, List.set_cons_succ]
      refine takeL (i := 8) (v := (.int .i64 (k : Int))) rfl (by kernel_rfl) (by kernel_rfl) (by kernel_rfl) (fun _ _ _ h => h) (Or.inl ⟨rfl, fun _ _ => rfl⟩) hq0 ?_
      simp only [Act.put, List.setIfInBounds_toArray, List.set_cons_zero, List.set_cons_succ]
      refine takeL (i := 9) (v := (.int .i64 (pk : Int))) rfl (by kernel_rfl) (by kernel_rfl) (by kernel_rfl) (fun _ _ _ h => h) (Or.inl ⟨rfl, fun W' _ => by go_simp <;> (rw [IntKind.wrap_i64]; omega)⟩) hq0 ?_
      simp only [Act.put, List.setIfInBounds_toArray, List.set_cons_zero, List.set_cons_succ]
      refine takeL (i := 10) (v := (.pointer (some ⟨g, pk, none⟩))) rfl (by kernel_rfl) (by kernel_rfl) (by kernel_rfl) (fun _ _ _ h => h) (Or.inl ⟨rfl, fun W' _ => by go_simp <;> (intro h; omega)⟩) hq0 ?_
      simp only [Act.put, List.setIfInBounds_toArray, List.set_cons_zero, List.set_cons_succ]
      refine takeL (i := 11) (v := _) rfl (by kernel_rfl) (by kernel_rfl) (by kernel_rfl) (fun _ _ _ h => h) (yieldsIf_cell rfl 30 _ rfl ⟨g, pk, none⟩ rfl (.int .u64 y) _ (fun W' hW' => (show W'.cell? ⟨g, pk, none⟩ = _ from (NU2.out.ext hW').cell (by omega)).trans (by rw [hvq])) Try.underlying30 rfl) hq0 ?_
      simp only [Act.put, List.setIfInBounds_toArray, List.set_cons_zero, List.set_cons_succ]
      refine runL (i := 12) rfl rfl (by kernel_rfl) (fun K hK => ?_)
      go_simp
      refine (less_ext x y _).mono ?_
      rintro e wc1 ⟨rfl, hx⟩
      have hq1 := hq0.trans hx
      refine hK.out _ _ hq1 (fun hHeld => ?_)
      try simp only [Act.put, List.setIfInBounds_toArray, List.set_cons_zero, List.set_cons_succ]
      clear hK K hHeld
      refine takeL (i := 13) (v := (.bool (!(decide (x < y))))) rfl (by kernel_rfl) (by kernel_rfl) (by kernel_rfl) (fun _ _ _ h => h) (Or.inl ⟨rfl, fun W' _ => by go_simp⟩) hq1 ?_
      simp only [Act.put, List.setIfInBounds_toArray, List.set_cons_zero, List.set_cons_succ]
      refine wpAnyH_done (by kernel_rfl) ?_ _
      have NU5 := Lib.hid (NU2.out.ext hq1)
      have MU5 := Lib.hid (MU2.out.trans (hq1.mut (fun k => k = g)))
      clear hq0 hqx hq1
      generalize hwn : wc1 = w5 at *
      obtain ⟨dx, hdx⟩ : ∃ dx, decide (x < y) = dx := ⟨_, rfl⟩
      rw [hdx] at HK2 ⊢
      clear hdx
      cases dx with
      | false =>
        go_wp2_with fail
        refine bodyPost_ret (results_none rfl _ _ _) rfl ?_
        exact ⟨rfl, l, NU5.out, hln, HK2.out, MU5.out⟩
      | true =>
        go_wp2_with fail
        refine beginZ (S := fun W' => Ext w5 W') 21 (by kernel_rfl) ?_
        intro wd hqx
        have hq0 : Ext w5 wd := hqx
        refine takeY (i := 0) (z := 21) (v := (.slice (some ⟨g, 0, none⟩) n cap)) rfl (by kernel_rfl) (by kernel_rfl) (by kernel_rfl) (by kernel_rfl) (fun _ _ _ h => h) (Or.inl ⟨rfl, fun _ _ => rfl⟩) hq0 ?_
        simp only [Act.put, List.setIfInBounds_toArray, List.set_cons_zero, List.set_cons_succ]
        refine takeY (i := 1) (z := 21) (v := (.int .i64 (fi : Int))) rfl (by kernel_rfl) (by kernel_rfl) (by kernel_rfl) (by kernel_rfl) (fun _ _ _ h => h) (Or.inl ⟨rfl, fun _ _ => rfl⟩) hq0 ?_
        simp only [Act.put, List.setIfInBounds_toArray, List.set_cons_zero, List.set_cons_succ]
        refine takeY (i := 2) (z := 21) (v := (.int .i64 (r : Int))) rfl (by kernel_rfl) (by kernel_rfl) (by kernel_rfl) (by kernel_rfl) (fun _ _ _ h => h) (Or.inl ⟨rfl, fun _ _ => rfl⟩) hq0 ?_
        simp only [Act.put, List.setIfInBounds_toArray, List.set_cons_zero, List.set_cons_succ]
        refine takeY (i := 3) (z := 21) (v := (.int .i64 (pr : Int))) rfl (by kernel_rfl) (by kernel_rfl) (by kernel_rfl) (by kernel_rfl) (fun _ _ _ h => h) (Or.inl ⟨rfl, fun W' _ => by go_simp <;> (rw [IntKind.wrap_i64]; omega)⟩) hq0 ?_
        simp only [Act.put, List.setIfInBounds_toArray, List.set_cons_zero, List.set_cons_succ]
        refine takeY (i := 4) (z := 21) (v := (.slice (some ⟨g, 0, none⟩) n cap)) rfl (by kernel_rfl) (by kernel_rfl) (by kernel_rfl) (by kernel_rfl) (fun _ _ _ h => h) (Or.inl ⟨rfl, fun _ _ => rfl⟩) hq0 ?_
        simp only [Act.put, List.setIfInBounds_toArray, List.set_cons_zero, List.set_cons_succ]
        refine takeY (i := 5) (z := 21) (v := (.int .i64 (fi : Int))) rfl (by kernel_rfl) (by kernel_rfl) (by kernel_rfl) (by kernel_rfl) (fun _ _ _ h => h) (Or.inl ⟨rfl, fun _ _ => rfl⟩) hq0 ?_
        simp only [Act.put, List.setIfInBounds_toArray, List.set_cons_zero, List.set_cons_succ]
        refine takeY (i := 6) (z := 21) (v := (.int .i64 (k : Int))) rfl (by kernel_rfl) (by kernel_rfl) (by kernel_rfl) (by kernel_rfl) (fun _ _ _ h => h) (Or.inl ⟨rfl, fun _ _ => rfl⟩) hq0 ?_
        simp only [Act.put, List.setIfInBounds_toArray, List.set_cons_zero, List.set_cons_succ]
        refine takeY (i := 7) (z := 21) (v := (.int .i64 (pk : Int))) rfl (by kernel_rfl) (by kernel_rfl) (by kernel_rfl) (by kernel_rfl) (fun _ _ _ h => h) (Or.inl ⟨rfl, fun W' _ => by go_simp <;> (rw [IntKind.wrap_i64]; omega)⟩) hq0 ?_
        simp only [Act.put, List.setIfInBounds_toArray, List.set_cons_zero, List.set_cons_succ]
        refine takeY (i := 8) (z := 21) (v := (.slice (some ⟨g, 0, none⟩) n cap)) rfl (by kernel_rfl) (by kernel_rfl) (by kernel_rfl) (by kernel_rfl) (fun _ _ _ h => h) (Or.inl ⟨rfl, fun _ _ => rfl⟩) hq0 ?_
        simp only [Act.put, List.setIfInBounds_toArray, List.set_cons_zero, List.set_cons_succ]
        refine takeY (i := 9) (z := 21) (v := (.int .i64 (fi : Int))) rfl (by kernel_rfl) (by kernel_rfl) (by kernel_rfl) (by kernel_rfl) (fun _ _ _ h => h) (Or.inl ⟨rfl, fun _ _ => rfl⟩) hq0 ?_
        simp only [Act.put, List.setIfInBounds_toArray, List.set_cons_zero, List.set_cons_succ]
        refine takeY (i := 10) (z := 21) (v := (.int .i64 (k : Int))) rfl (by kernel_rfl) (by kernel_rfl) (by kernel_rfl) (by kernel_rfl) (fun _ _ _ h => h) (Or.inl ⟨rfl, fun _ _ => rfl⟩) hq0 ?_
        simp only [Act.put, List.setIfInBounds_toArray, List.set_cons_zero, List.set_cons_succ]
        refine takeY (i := 11) (z := 21) (v := (.int .i64 (pk : Int))) rfl (by kernel_rfl) (by kernel_rfl) (by kernel_rfl) (by kernel_rfl) (fun _ _ _ h => h) (Or.inl ⟨rfl, fun W' _ => by go_simp <;> (rw [IntKind.wrap_i64]; omega)⟩) hq0 ?_
        simp only [Act.put, List.setIfInBounds_toArray, List.set_cons_zero, List.set_cons_succ]
        refine takeY (i := 12) (z := 21) (v := (.pointer (some ⟨g, pk, none⟩))) rfl (by kernel_rfl) (by kernel_rfl) (by kernel_rfl) (by kernel_rfl) (fun _ _ _ h => h) (Or.inl ⟨rfl, fun W' _ => by go_simp <;> (intro h; omega)⟩) hq0 ?_
        simp only [Act.put, List.setIfInBounds_toArray, List.set_cons_zero, List.set_cons_succ]
        refine takeZ (i := 13) (z := 21) (v := _) rfl rfl (by kernel_rfl) (by kernel_rfl) (by kernel_rfl) (by kernel_rfl) (by kernel_rfl) (by kernel_rfl) (fun _ _ _ h => h) (yieldsIf_cell rfl 30 _ rfl ⟨g, pk, none⟩ rfl (.int .u64 y) _ (fun W' hW' => (show W'.cell? ⟨g, pk, none⟩ = _ from (NU5.out.ext hW').cell (by omega)).trans (by rw [hvq])) Try.underlying30 rfl) hq0 ?_
        simp only [Act.put, List.setIfInBounds_toArray, List.set_cons_zero, List.set_cons_succ]
        refine takeY (i := 14) (z := 21) (v := (.slice (some ⟨g, 0, none⟩) n cap)) rfl (by kernel_rfl) (by kernel_rfl) (by kernel_rfl) (by kernel_rfl) (fun _ _ _ h => h) (Or.inl ⟨rfl, fun _ _ => rfl⟩) hq0 ?_
        simp only [Act.put, List.setIfInBounds_toArray, List.set_cons_zero, List.set_cons_succ]
        refine takeY (i := 15) (z := 21) (v := (.int .i64 (fi : Int))) rfl (by kernel_rfl) (by kernel_rfl) (by kernel_rfl) (by kernel_rfl) (fun _ _ _ h => h) (Or.inl ⟨rfl, fun _ _ => rfl⟩) hq0 ?_
        simp only [Act.put, List.setIfInBounds_toArray, List.set_cons_zero, List.set_cons_succ]
        refine takeY (i := 16) (z := 21) (v := (.int .i64 (r : Int))) rfl (by kernel_rfl) (by kernel_rfl) (by kernel_rfl) (by kernel_rfl) (fun _ _ _ h => h) (Or.inl ⟨rfl, fun _ _ => rfl⟩) hq0 ?_
        simp only [Act.put, List.setIfInBounds_toArray, List.set_cons_zero, List.set_cons_succ]
        refine takeY (i := 17) (z := 21) (v := (.int .i64 (pr : Int))) rfl (by kernel_rfl) (by kernel_rfl) (by kernel_rfl) (by kernel_rfl) (fun _ _ _ h => h) (Or.inl ⟨rfl, fun W' _ => by go_simp <;> (rw [IntKind.wrap_i64]; omega)⟩) hq0 ?_
        simp only [Act.put, List.setIfInBounds_toArray, List.set_cons_zero, List.set_cons_succ]
        refine takeY (i := 18) (z := 21) (v := (.pointer (some ⟨g, pr, none⟩))) rfl (by kernel_rfl) (by kernel_rfl) (by kernel_rfl) (by kernel_rfl) (fun _ _ _ h => h) (Or.inl ⟨rfl, fun W' _ => by go_simp <;> (intro h; omega)⟩) hq0 ?_
        simp only [Act.put, List.setIfInBounds_toArray, List.set_cons_zero, List.set_cons_succ]
        refine takeZ (i := 19) (z := 21) (v := _) rfl rfl (by kernel_rfl) (by kernel_rfl) (by kernel_rfl) (by kernel_rfl) (by kernel_rfl) (by kernel_rfl) (fun _ _ _ h => h) (yieldsIf_cell rfl 30 _ rfl ⟨g, pr, none⟩ rfl (.int .u64 x) _ (fun W' hW' => (show W'.cell? ⟨g, pr, none⟩ = _ from (NU5.out.ext hW').cell (by omega)).trans (by rw [hvp])) Try.underlying30 rfl) hq0 ?_
        simp only [Act.put, List.setIfInBounds_toArray, List.set_cons_zero, List.set_cons_succ]
        refine takeY (i := 20) (z := 21) (v := (.pointer (some ⟨g, pr, none⟩))) rfl (by kernel_rfl) (by kernel_rfl) (by kernel_rfl) (by kernel_rfl) (fun _ _ _ h => h) (Or.inl ⟨rfl, fun W' _ => by go_simp <;> (intro h; omega)⟩) hq0 ?_
        simp only [Act.put, List.setIfInBounds_toArray, List.set_cons_zero, List.set_cons_succ]
        refine runZl (z := 21) rfl rfl (by kernel_rfl) (fun K hK => ?_)
        have hce := (NU5.out.ext hq0)
        have hc1 : wd.cell? ⟨g, pr, none⟩ = some (.int .u64 (at0 l (pr))) := hce.cell (by omega)
        have hf1 := hce.froz (pr)
        go_simp
        refine hK.out _ _ ?_
        try simp only [Act.put, List.setIfInBounds_toArray, List.set_cons_zero, List.set_cons_succ]
        clear hK K hc1 hf1
        have hce2 := hce.set (p := pr) (by omega) (at0 l (pk))
        rw [hvq] at hce2
        have hq9 := (hq0.mut (fun k => k = g)).setCell (p := ⟨g, pr, none⟩) (.inl rfl) (.int .u64 y)
        refine takeL (i := 22) (v := (.pointer (some ⟨g, pk, none⟩))) rfl (by kernel_rfl) (by kernel_rfl) (by kernel_rfl) (fun _ _ _ h => h) (Or.inl ⟨rfl, fun W' _ => by go_simp <;> (intro h; omega)⟩) trivial ?_
        simp only [Act.put, List.setIfInBounds_toArray, List.set_cons_zero, List.set_cons_succ]
        refine runL (i := 23) rfl rfl (by kernel_rfl) (fun K hK => ?_)
        have hc2 : (wd.setCell ⟨g, pr, none⟩ (.int .u64 y)).cell? ⟨g, pk, none⟩ = some (.int .u64 (at0 (l.set (pr) y) (pk))) := hce2.cell (by simp; omega)
        have hf2 := hce2.froz (pk)
        go_simp
        refine hK.out _ _ trivial (fun _ => ?_)
        try simp only [Act.put, List.setIfInBounds_toArray, List.set_cons_zero, List.set_cons_succ]
        clear hK K hc2 hf2
        refine wpAnyH_done (by kernel_rfl) ?_ _
        have hce3 := hce2.set (p := pk) (by simp; omega) (at0 l (pr))
        rw [hvp] at hce3
        have NU3 := Lib.hid (show Nums _ g (swl l (pr) (pk)) from by unfold swl; rw [hvp, hvq]; exact hce3)
        have MU3 := Lib.hid (hq9.setCell (p := ⟨g, pk, none⟩) (.inl rfl) (.int .u64 x))
        clear hce hce2 hce3 hq9 hq0 hqx
        generalize (wd.setCell ⟨g, pr, none⟩ (.int .u64 y)).setCell ⟨g, pk, none⟩ (.int .u64 x) = wm at *
        go_wp2_with fail
        go_roundw
        case rel => exact ⟨k, swl l pr pk, rfl, by omega, NU3.out, by rw [swl_len]; exact hln, HK2.out, MU5.out.trans MU3.out⟩
        case measure => simp [intOf] <;> omega

end Go.Proofs.Ytheackckmhbodaa
