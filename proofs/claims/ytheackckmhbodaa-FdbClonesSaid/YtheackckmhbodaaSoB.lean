/- The library's sort: swaps, turning round. No statement is proved here. -/
import Derived.Test.YtheackckmhbodaaSoA
namespace Go.Proofs.Ytheackckmhbodaa
open Go.RowKit Go.BigFrame Go.WideShapes Go.ChangeShapes Go.Deep
set_option linter.unusedVariables false
set_option linter.unusedSimpArgs false
set_option maxRecDepth 100000

def swl (l : List Int) (p q : Nat) : List Int := (l.set p (at0 l q)).set q (at0 l p)
theorem swl_len (l : List Int) (p q : Nat) : (swl l p q).length = l.length := by simp [swl]
theorem swl_arr (l : List Int) {p q : Nat} (hp : p < l.length) (hq : q < l.length) : (swl l p q).toArray = Go.Sort.swp l.toArray p q := by
  unfold swl Go.Sort.swp
  rw [arr_at l hp, arr_at l hq]
  simp
/-- What a sorting function leaves: block g as the plain function has it. -/
def SoP (w : World) (g n : Nat) (d : Array Int) (w' : World) : Prop := ∃ l, Nums w' g l ∧ l.length = n ∧ l.toArray = d ∧ Mut (fun k => k = g) w w'
set_option maxRecDepth 100000 in
set_option maxHeartbeats 2000000 in
theorem rev_any (w : World) (g n cap : Nat) (l0 : List Int) (a b : Nat) (hab : a < b) (hb : b ≤ n) (hn : n ≤ 500) (h : Nums w g l0) (hl : l0.length = n) :
    Calls Try.prog 45 #[(.slice (some ⟨g, 0, none⟩) n cap), .int .i64 a, .int .i64 b] w fun e w' => e = .returned (.tuple #[]) ∧ SoP w g n (Go.Sort.reverseRange l0.toArray a b) w' := by
  have H0 := Lib.hid (show ∃ l : List Int, Nums w g l ∧ l.length = n ∧ Go.Sort.reverseLoop a (b - 1) l.toArray = Go.Sort.reverseRange l0.toArray a b ∧ Mut (fun k => k = g) w w from ⟨l0, h, hl, rfl, Mut.refl _ w⟩)
  have hb1 : IntKind.i64.wrap ((b : Int) - 1) = ((b - 1 : Nat) : Int) := by rw [IntKind.wrap_i64]; omega
  generalize Go.Sort.reverseRange l0.toArray a b = D at *
  clear h hl
  go_enter Try.func45, Try.ntmps45
  obtain ⟨b1, hbb⟩ : ∃ b1, b - 1 = b1 := ⟨_, rfl⟩
  rw [hbb] at hb1 H0
  have hbn : b1 < n := by omega
  have han : a < n := by omega
  clear hbb hab hb
  go_wp2_with fail
  go_loopw [6, 7] (fun s t wr => ∃ i j : Nat, i ≤ n ∧ j < n ∧ s = .int .i64 i ∧ t = .int .i64 j ∧ ∃ l : List Int, Nums wr g l ∧ l.length = n ∧ Go.Sort.reverseLoop i j l.toArray = D ∧ Mut (fun k => k = g) w wr) (fun s _ _ => n + 1 - (intOf s).toNat)
  case atStart => exact ⟨a, b1, by omega, hbn, rfl, rfl, H0.out⟩
  case round =>
    clear H0 hb1
    obtain ⟨i, j, hi, hj, rfl, rfl, l, hnu, hln, hrv, hmu⟩ := hrel
    rename World => wl
    have NU := Lib.hid hnu
    have MU := Lib.hid hmu
    have RV := Lib.hid hrv
    clear hnu hmu hrv
    by_cases hij : i < j
    · have dij : decide ((i : Int) < (j : Int)) = true := by simp; omega
      obtain ⟨x, hvp⟩ : ∃ x, at0 l i = x := ⟨_, rfl⟩
      obtain ⟨y, hvq⟩ : ∃ y, at0 l j = y := ⟨_, rfl⟩
      go_wp2_with fail
      refine beginZ (S := fun W' => Ext wl W') 13 (by kernel_rfl) ?_
      intro wd hqx
      have hq0 : Ext wl wd := hqx
      refine takeY (i := 0) (z := 13) (v := (.slice (some ⟨g, 0, none⟩) n cap)) rfl (by kernel_rfl) (by kernel_rfl) (by kernel_rfl) (by kernel_rfl) (fun _ _ _ h => h) (Or.inl ⟨rfl, fun _ _ => rfl⟩) hq0 ?_
      simp only [Act.put, List.setIfInBounds_toArray, List.set_cons_zero, List.set_cons_succ]
      refine takeY (i := 1) (z := 13) (v := (.int .i64 (i : Int))) rfl (by kernel_rfl) (by kernel_rfl) (by kernel_rfl) (by kernel_rfl) (fun _ _ _ h => h) (Or.inl ⟨rfl, fun _ _ => rfl⟩) hq0 ?_
      simp only [Act.put, List.setIfInBounds_toArray, List.set_cons_zero, List.set_cons_succ]
      refine takeY (i := 2) (z := 13) (v := (.slice (some ⟨g, 0, none⟩) n cap)) rfl (by kernel_rfl) (by kernel_rfl) (by kernel_rfl) (by kernel_rfl) (fun _ _ _ h => h) (Or.inl ⟨rfl, fun _ _ => rfl⟩) hq0 ?_
      simp only [Act.put, List.setIfInBounds_toArray, List.set_cons_zero, List.set_cons_succ]
      refine takeY (i := 3) (z := 13) (v := (.int .i64 (j : Int))) rfl (by kernel_rfl) (by kernel_rfl) (by kernel_rfl) (by kernel_rfl) (fun _ _ _ h => h) (Or.inl ⟨rfl, fun _ _ => rfl⟩) hq0 ?_
      simp only [Act.put, List.setIfInBounds_toArray, List.set_cons_zero, List.set_cons_succ]
      refine takeY (i := 4) (z := 13) (v := (.slice (some ⟨g, 0, none⟩) n cap)) rfl (by kernel_rfl) (by kernel_rfl) (by kernel_rfl) (by kernel_rfl) (fun _ _ _ h => h) (Or.inl ⟨rfl, fun _ _ => rfl⟩) hq0 ?_
      simp only [Act.put, List.setIfInBounds_toArray, List.set_cons_zero, List.set_cons_succ]
      refine takeY (i := 5) (z := 13) (v := (.int .i64 (j : Int))) rfl (by kernel_rfl) (by kernel_rfl) (by kernel_rfl) (by kernel_rfl) (fun _ _ _ h => h) (Or.inl ⟨rfl, fun _ _ => rfl⟩) hq0 ?_
      simp only [Act.put, List.setIfInBounds_toArray, List.set_cons_zero, List.set_cons_succ]
      refine takeY (i := 6) (z := 13) (v := (.pointer (some ⟨g, j, none⟩))) rfl (by kernel_rfl) (by kernel_rfl) (by kernel_rfl) (by kernel_rfl) (fun _ _ _ h => h) (Or.inl ⟨rfl, fun W' _ => by go_simp <;> (intro h; omega)⟩) hq0 ?_
      simp only [Act.put, List.setIfInBounds_toArray, List.set_cons_zero, List.set_cons_succ]
      refine takeZ (i := 7) (z := 13) (v := _) rfl rfl (by kernel_rfl) (by kernel_rfl) (by kernel_rfl) (by kernel_rfl) (by kernel_rfl) (by kernel_rfl) (fun _ _ _ h => h) (yieldsIf_cell rfl 30 _ rfl ⟨g, j, none⟩ rfl (.int .u64 y) _ (fun W' hW' => (show W'.cell? ⟨g, j, none⟩ = _ from (NU.out.ext hW').cell (by omega)).trans (by rw [hvq])) Try.underlying30 rfl) hq0 ?_
      simp only [Act.put, List.setIfInBounds_toArray, List.set_cons_zero, List.set_cons_succ]
      refine takeY (i := 8) (z := 13) (v := (.slice (some ⟨g, 0, none⟩) n cap)) rfl (by kernel_rfl) (by kernel_rfl) (by kernel_rfl) (by kernel_rfl) (fun _ _ _ h => h) (Or.inl ⟨rfl, fun _ _ => rfl⟩) hq0 ?_
      simp only [Act.put, List.setIfInBounds_toArray, List.set_cons_zero, List.set_cons_succ]
      refine takeY (i := 9) (z := 13) (v := (.int .i64 (i : Int))) rfl (by kernel_rfl) (by kernel_rfl) (by kernel_rfl) (by kernel_rfl) (fun _ _ _ h => h) (Or.inl ⟨rfl, fun _ _ => rfl⟩) hq0 ?_
      simp only [Act.put, List.setIfInBounds_toArray, List.set_cons_zero, List.set_cons_succ]
      refine takeY (i := 10) (z := 13) (v := (.pointer (some ⟨g, i, none⟩))) rfl (by kernel_rfl) (by kernel_rfl) (by kernel_rfl) (by kernel_rfl) (fun _ _ _ h => h) (Or.inl ⟨rfl, fun W' _ => by go_simp <;> (intro h; omega)⟩) hq0 ?_
      simp only [Act.put, List.setIfInBounds_toArray, List.set_cons_zero, List.set_cons_succ]
      refine takeZ (i := 11) (z := 13) (v := _) rfl rfl (by kernel_rfl) (by kernel_rfl) (by kernel_rfl) (by kernel_rfl) (by kernel_rfl) (by kernel_rfl) (fun _ _ _ h => h) (yieldsIf_cell rfl 30 _ rfl ⟨g, i, none⟩ rfl (.int .u64 x) _ (fun W' hW' => (show W'.cell? ⟨g, i, none⟩ = _ from (NU.out.ext hW').cell (by omega)).trans (by rw [hvp])) Try.underlying30 rfl) hq0 ?_
      simp only [Act.put, List.setIfInBounds_toArray, List.set_cons_zero, List.set_cons_succ]
      refine takeY (i := 12) (z := 13) (v := (.pointer (some ⟨g, i, none⟩))) rfl (by kernel_rfl) (by kernel_rfl) (by kernel_rfl) (by kernel_rfl) (fun _ _ _ h => h) (Or.inl ⟨rfl, fun W' _ => by go_simp <;> (intro h; omega)⟩) hq0 ?_
      simp only [Act.put, List.setIfInBounds_toArray, List.set_cons_zero, List.set_cons_succ]
      refine runZl (z := 13) rfl rfl (by kernel_rfl) (fun K hK => ?_)
      have hce := (NU.out.ext hq0)
      have hc1 : wd.cell? ⟨g, i, none⟩ = some (.int .u64 (at0 l (i))) := hce.cell (by omega)
      have hf1 := hce.froz (i)
      go_simp
      refine hK.out _ _ ?_
      try simp only [Act.put, List.setIfInBounds_toArray, List.set_cons_zero, List.set_cons_succ]
      clear hK K hc1 hf1
      have hce2 := hce.set (p := i) (by omega) (at0 l (j))
      rw [hvq] at hce2
      have hq9 := (hq0.mut (fun k => k = g)).setCell (p := ⟨g, i, none⟩) (.inl rfl) (.int .u64 y)
      refine takeL (i := 14) (v := (.pointer (some ⟨g, j, none⟩))) rfl (by kernel_rfl) (by kernel_rfl) (by kernel_rfl) (fun _ _ _ h => h) (Or.inl ⟨rfl, fun W' _ => by go_simp <;> (intro h; omega)⟩) trivial ?_
      simp only [Act.put, List.setIfInBounds_toArray, List.set_cons_zero, List.set_cons_succ]
      refine runL (i := 15) rfl rfl (by kernel_rfl) (fun K hK => ?_)
      have hc2 : (wd.setCell ⟨g, i, none⟩ (.int .u64 y)).cell? ⟨g, j, none⟩ = some (.int .u64 (at0 (l.set (i) y) (j))) := hce2.cell (by simp; omega)
      have hf2 := hce2.froz (j)
      go_simp
      refine hK.out _ _ trivial (fun _ => ?_)
      try simp only [Act.put, List.setIfInBounds_toArray, List.set_cons_zero, List.set_cons_succ]
      clear hK K hc2 hf2
      refine wpAnyH_done (by kernel_rfl) ?_ _
      have hce3 := hce2.set (p := j) (by simp; omega) (at0 l (i))
      rw [hvp] at hce3
      have NU3 := Lib.hid (show Nums _ g (swl l (i) (j)) from by unfold swl; rw [hvp, hvq]; exact hce3)
      have MU3 := Lib.hid (hq9.setCell (p := ⟨g, j, none⟩) (.inl rfl) (.int .u64 x))
      clear hce hce2 hce3 hq9 hq0 hqx
      generalize (wd.setCell ⟨g, i, none⟩ (.int .u64 y)).setCell ⟨g, j, none⟩ (.int .u64 x) = wm at *
      have hup : IntKind.i64.wrap ((i : Int) + 1) = ((i + 1 : Nat) : Int) := by rw [IntKind.wrap_i64]; omega
      obtain ⟨j1, hj1⟩ : ∃ j1, j - 1 = j1 := ⟨_, rfl⟩
      have hdn : IntKind.i64.wrap ((j : Int) - 1) = (j1 : Int) := by rw [IntKind.wrap_i64]; omega
      have HJ := Lib.hid hj1
      clear hj1
      go_wp2_with fail
      go_roundw
      case rel =>
        refine ⟨i + 1, j1, by omega, by have := HJ.out; omega, by go_num, rfl, swl l i j, NU3.out, by rw [swl_len]; exact hln, ?_, MU.out.trans MU3.out⟩
        have := RV.out
        rw [Go.Sort.reverseLoop, if_pos hij, HJ.out] at this
        rw [swl_arr l (by omega) (by omega)]
        exact this
      case measure => simp [intOf] <;> omega
    · have dij : decide ((i : Int) < (j : Int)) = false := by simp; omega
      go_wp2_with fail
      go_end0
      refine ⟨rfl, l, NU.out, hln, ?_, MU.out⟩
      have := RV.out
      rw [Go.Sort.reverseLoop, if_neg hij] at this
      exact this

end Go.Proofs.Ytheackckmhbodaa
