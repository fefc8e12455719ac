/- How far it is: shorter, sums of lengths, the document's lengths. No statement is proved here. -/
import Derived.Test.YtendaloeonbbeaaReA
import Derived.Test.YtendaloeonbbeaaInts
namespace Go.Proofs.Ytendaloeonbbeaa
open Go.RowKit Go.BigFrame Go.WideShapes Go.ChangeShapes Go.Deep
set_option linter.unusedVariables false
set_option linter.unusedSimpArgs false

/-- Is one shorter than what there was? -/
def shW (a b : Nat) : Way → Bool
  | none => true
  | some (c, d) => ltW a b c d
theorem rshorter_any (a b : Nat) (v : Way) (w : World) (ha : a < 2 ^ 53) (hb : b < 2 ^ 53) (hv : v.fits) : Calls Try.prog 33 #[cvW (some (a, b)), cvW v] w fun e w' => e = .returned (.bool (shW a b v)) ∧ w = w' := by
  have HN := Lib.hid (rnone_any v w hv)
  cases v with
  | none =>
    obtain ⟨x, hx⟩ : ∃ x, cvW none = x := ⟨_, rfl⟩
    obtain ⟨y, hy⟩ : ∃ x, cvW (some (a, b)) = x := ⟨_, rfl⟩
    rw [hx] at HN ⊢
    rw [hy]
    clear hx hy
    go_enter Try.func33, Try.ntmps33
    go_wp2_with fail
    refine HN.out.mono ?_
    rintro e w1 ⟨rfl, rfl⟩
    go_wp2_with fail
    go_ret
    exact ⟨rfl, rfl⟩
  | some q =>
    obtain ⟨c, d⟩ := q
    have HL := Lib.hid (rless_any a b c d w ha hb hv.1 hv.2)
    obtain ⟨t, ht⟩ : ∃ t, ltW a b c d = t := ⟨_, rfl⟩
    have HT := Lib.hid (show shW a b (some (c, d)) = t from ht)
    rw [ht] at HL
    rw [HT.out]
    clear ht
    obtain ⟨x, hx⟩ : ∃ x, cvW (some (c, d)) = x := ⟨_, rfl⟩
    obtain ⟨y, hy⟩ : ∃ x, cvW (some (a, b)) = x := ⟨_, rfl⟩
    rw [hx] at HN HL ⊢
    rw [hy] at HL ⊢
    clear hx hy HT
    go_enter Try.func33, Try.ntmps33
    go_wp2_with fail
    refine HN.out.mono ?_
    rintro e w1 ⟨rfl, rfl⟩
    go_wp2_with fail
    refine HL.out.mono ?_
    rintro e w1 ⟨rfl, rfl⟩
    go_wp2_with fail
    go_ret
    exact ⟨rfl, rfl⟩
/-- The sum of two lengths. -/
theorem radd_run {P : Program} (w : World) (t : TypeId) (a b c d : Nat) (h1 : a + c < 2 ^ 53) (h2 : b + d < 2 ^ 53) : (binOp .add t (cvW (some (a, b))) (cvW (some (c, d)))).run P w = .ok (cvW (some (a + c, b + d))) w :=
  run_complex_sum w .add (.inl rfl) t .f64 _ _ _ _ _ _ (by unfold cSumBits; rw [f_add h1, f_add h2]; rfl)
/-- What the costs of a way make. -/
def sumC (xs : List Int) : Nat := (xs.map Int.toNat).sum
theorem sumC_take {xs : List Int} {i : Nat} (h : i < xs.length) : sumC (xs.take (i + 1)) = sumC (xs.take i) + (xs.getD i 0).toNat := by
  unfold sumC
  rw [List.take_add_one, List.map_append, List.sum_append, List.getElem?_eq_getElem h]
  simp [List.getD, List.getElem?_eq_getElem h]
theorem sumC_le {xs : List Int} (hx : ∀ z ∈ xs, 0 ≤ z ∧ z < 4294967296) : sumC xs ≤ xs.length * 4294967295 := by
  induction xs with
  | nil => simp [sumC]
  | cons z t ih =>
    have h1 := ih (fun y hy => hx y (List.mem_cons_of_mem _ hy))
    have h2 := hx z (List.mem_cons_self)
    have e : sumC (z :: t) = z.toNat + sumC t := by simp [sumC]
    rw [e, List.length_cons]
    omega
theorem sumC_take_le {xs : List Int} (hx : ∀ z ∈ xs, 0 ≤ z ∧ z < 4294967296) (i : Nat) : sumC (xs.take i) ≤ xs.length * 4294967295 := by
  have h1 := sumC_le (xs := xs.take i) (fun z hz => hx z (List.mem_of_mem_take hz))
  have h2 : (xs.take i).length ≤ xs.length := by rw [List.length_take]; omega
  exact Nat.le_trans h1 (Nat.mul_le_mul_right _ h2)
set_option maxRecDepth 100000 in
theorem rlength_any (v : Value) (xs : List Int) (w : World) (hi : IsInts w .u32 v xs) (hx : ∀ z ∈ xs, 0 ≤ z ∧ z < 4294967296) (hl : xs.length ≤ 1000000) : Calls Try.prog 19 #[v] w fun e w' => e = .returned (cvW (some (sumC xs, xs.length))) ∧ w = w' := by
  obtain ⟨a, cap, rfl, hm, hf⟩ := hi.form
  have HF := Lib.hid hf
  have h00 : cvW (some (0, 0)) = .complex .f64 0 0 := by
    show Value.complex .f64 (fl 0) (fl 0) = _
    rw [fl_zero]
  have H00 := Lib.hid h00
  clear hf hi h00
  go_enter Try.func19, Try.ntmps19
  go_wp2_with fail
  go_loopw [8, 3] (fun i s wr => ∃ n : Nat, n ≤ xs.length ∧ i = .int .i64 n ∧ s = cvW (some (sumC (xs.take n), n)) ∧ w = wr) (fun i _ _ => xs.length - (intOf i).toNat)
  case atStart => exact ⟨0, by omega, rfl, H00.out.symm, rfl⟩
  case round =>
    obtain ⟨n, hn, rfl, rfl, rfl⟩ := hrel
    by_cases hlt : n < xs.length
    · obtain ⟨b, off, rfl, hb, hc1, hc2, hcell⟩ := HF.out (by omega)
      have hz := hx (xs.getD n 0) (by rw [List.getD_eq_getElem?_getD, List.getElem?_eq_getElem hlt]; exact List.getElem_mem _)
      have hc := hcell n hlt
      have HS := Lib.hid (sumC_take hlt)
      have h1 := sumC_take_le hx n
      have h2 := sumC_take_le hx (n + 1)
      obtain ⟨z, hzz⟩ : ∃ z, xs.getD n 0 = z := ⟨_, rfl⟩
      rw [hzz] at hz hc HS
      obtain ⟨s, hs⟩ : ∃ s, sumC (xs.take n) = s := ⟨_, rfl⟩
      rw [hs] at HS h1 ⊢
      rw [HS.out] at h2
      have HR := Lib.hid (fun w : World => radd_run (P := Try.prog) w 30 s n z.toNat 1 (by omega) (by omega))
      obtain ⟨x, hxx⟩ : ∃ x, cvW (some (s, n)) = x := ⟨_, rfl⟩
      obtain ⟨y, hyy⟩ : ∃ x, cvW (some (z.toNat, 1)) = x := ⟨_, rfl⟩
      rw [hxx, hyy] at HR
      rw [hxx]
      have HY := Lib.hid hyy
      clear hzz hs hcell hxx hyy
      go_wp2_with fail
      refine (rlen_any z _ hz.1).mono ?_
      rintro e w1 ⟨rfl, rfl⟩
      rw [HY.out]
      have hrr := HR.out w
      obtain ⟨u, hu⟩ : ∃ u, cvW (some (s + z.toNat, n + 1)) = u := ⟨_, rfl⟩
      rw [hu] at hrr
      have HU := Lib.hid hu
      clear hu
      go_wp2_with fail
      go_roundw
      case rel => exact ⟨n + 1, by omega, by go_num, by rw [HS.out, HU.out], by first | rfl | trivial⟩
      case measure => simp [intOf]; omega
    · obtain rfl : n = xs.length := by omega
      rw [List.take_length]
      obtain ⟨x, hxx⟩ : ∃ x, cvW (some (sumC xs, xs.length)) = x := ⟨_, rfl⟩
      rw [hxx]
      have HXX := Lib.hid hxx
      clear hxx
      go_wp2_with fail
      go_ret
      exact ⟨by rw [HXX.out]; rfl, by first | rfl | trivial⟩

end Go.Proofs.Ytendaloeonbbeaa
