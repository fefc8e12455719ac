/- The walk of the law OctetCut. -/
import Derived.Test.YtgiobcbdbhnneaaOctN
namespace Go.Proofs.Ytgiobcbdbhnneaa
open Go.RowKit
set_option linter.unusedVariables false
set_option linter.unusedSimpArgs false

theorem only_ext {w w1 w2 : World} {R : Nat} (h : Ext w w1) (hR : w.heap.size ≤ R) (hg : w1.grownBy w2 (some R)) : Ext w w2 :=
  Below.grown h hg h.size (fun g hg => by simp at hg; omega)

theorem ints_take {w : World} {g k j : Nat} {xs : List Int} (h : IsInts w .u8 (.slice (some ⟨g, 0, none⟩) k k) xs) (hl : xs.length = k) (hj : j < k) : IsInts w .u8 (.slice (some ⟨g, 0, none⟩) j k) (xs.take j) := by
  rcases h with ⟨rfl, _⟩ | ⟨b, off, cap, hv, h0, h1, h2, h3, h4⟩
  · simp at hl
    omega
  · simp only [Value.slice.injEq, Option.some.injEq, Addr.mk.injEq] at hv
    obtain ⟨⟨rfl, rfl, _⟩, _, rfl⟩ := hv
    by_cases hz : j = 0
    · subst hz
      exact .inl ⟨by simp, .inr ⟨_, _, rfl⟩⟩
    · have ht : (xs.take j).length = j := by rw [List.length_take]; omega
      refine .inr ⟨_, _, _, by rw [ht], by omega, by omega, h2, h3, fun i hi => ?_⟩
      rw [h4 i (by omega)]
      rw [ht] at hi
      simp [List.getD, List.getElem?_take, hi]

set_option maxHeartbeats 1600000 in
theorem law_OctetCut (n : Int) (hn : 0 ≤ n ∧ n < 18446744073709551616) (m : Int) (hm : 0 ≤ m ∧ m < 256) (l : Int) (hl : 0 ≤ l ∧ l < 256) (w : World) :
    Calls Try.prog 7 #[.int .u64 n, .int .u8 m, .int .u8 l] w fun e w' => e = .returned (.bool true) ∧ Ext w w' := by
  obtain ⟨hn0, hn1⟩ := hn
  obtain ⟨hm0, hm1⟩ := hm
  obtain ⟨hl0, hl1⟩ := hl
  obtain ⟨n, rfl⟩ := Int.eq_ofNat_of_zero_le hn0
  obtain ⟨k, hk⟩ := Int.eq_ofNat_of_zero_le (show 0 ≤ 1 + m % 8 by omega)
  have hk0 : 1 ≤ k := by omega
  have hk1 : k ≤ 8 := by omega
  have hlk := Int.emod_nonneg l (show (k : Int) ≠ 0 by omega)
  have hlk' := Int.emod_lt_of_pos l (show 0 < (k : Int) by omega)
  obtain ⟨j, hj⟩ := Int.eq_ofNat_of_zero_le hlk
  have hjk : j < k := by omega
  have hj2 : l.tmod (k : Int) = j := by rw [Int.tmod_eq_emod_of_nonneg hl0]; exact hj
  go_enter Try.func7, Try.ntmps7
  go_wp2_with fail
  refine (awake1 _).mono ?_
  rintro e w1 ⟨rfl, h1⟩
  go_wp2_with fail
  refine (put_r n k _ (by omega) (by omega) (by omega)).mono ?_
  rintro e w2 ⟨g, rfl, hi2, hx2⟩
  go_wp2_with fail
  refine (new_any _ ((bts n k).take j) _ (ints_take hi2 (bts_len k n) hjk) (fun x hx => bts_rg k n x (List.mem_of_mem_take hx)) (by rw [List.length_take]; omega)).mono ?_
  rintro e w3 ⟨R, rfl, hrd, hR, hx3⟩
  have hw3 : Ext w w3 := (h1.trans hx2).trans hx3
  have hRw : w.heap.size ≤ R := Nat.le_trans (h1.trans hx2).size hR
  have hlen : ((bts n k).take j).length = j := by rw [List.length_take, bts_len]; omega
  have Hlen := Lib.hid hlen
  clear hlen hi2
  go_wp2_with fail
  refine (take_any R _ false k _ hrd).mono ?_
  rintro e w4 ⟨he, hrd4, hg4⟩
  have e1 : tkV ((bts n k).take j) false k = 0 := by
    unfold tkV
    rw [if_neg]
    rw [Hlen.out]
    omega
  have e2 : tkX ((bts n k).take j) false k = [] := by
    unfold tkX
    rw [if_pos ⟨(fits_iff _).2 (by omega), rfl⟩, if_neg]
    rw [Hlen.out]
    omega
  have e3 : tkS ((bts n k).take j) false k = true := by
    unfold tkS
    rw [if_pos ⟨(fits_iff _).2 (by omega), rfl⟩, Hlen.out]
    simp
    omega
  rw [e1] at he
  rw [e2, e3] at hrd4
  subst he
  have hw4 : Ext w w4 := only_ext hw3 hRw hg4
  clear e1 e2 e3 hrd hg4
  go_wp2_with fail
  refine (take_any R [] true 1 _ hrd4).mono ?_
  rintro e w5 ⟨he, hrd5, hg5⟩
  rw [show tkV [] true 1 = 0 from by decide] at he
  rw [show tkX [] true 1 = [] from by decide, show tkS [] true 1 = true from by decide] at hrd5
  subst he
  have hw5 : Ext w w5 := only_ext hw4 hRw hg5
  go_wp2_with fail
  refine (short_any R [] true _ hrd5).mono ?_
  rintro e w6 ⟨rfl, rfl⟩
  go_wp2_with fail
  refine (left_any R [] true _ hrd5).mono ?_
  rintro e w6 ⟨rfl, rfl⟩
  go_wp2
  go_ret
  exact ⟨rfl, hw5⟩

end Go.Proofs.Ytgiobcbdbhnneaa
