/- The readers' contracts: what is taken, what is left. No statement is proved here. -/
import Derived.Test.YtdfaagchlnkpnaaOctTs
namespace Go.Proofs.Ytdfaagchlnkpnaa
open Go.RowKit
set_option linter.unusedVariables false
set_option linter.unusedSimpArgs false

def Rd (w : World) (N R : Nat) (xs : List Int) (sh : Bool) : Prop :=
  (R < w.heap.size ∧ N ≤ R) ∧ w.cell? ⟨R, 1, none⟩ = some (.bool sh) ∧ (∀ o, w.frozen? ⟨R, o, none⟩ = false) ∧ (∀ x ∈ xs, 0 ≤ x ∧ x < 256) ∧ ∃ v, w.cell? ⟨R, 0, none⟩ = some v ∧
    ((xs = [] ∧ ∃ a cap, v = .slice a 0 cap) ∨ ∃ b off cap, v = .slice (some ⟨b, off, none⟩) xs.length cap ∧ 0 < xs.length ∧ xs.length ≤ cap ∧ cap ≤ maxLen ∧ b < N ∧ b < w.heap.size ∧
      ∀ i, i < xs.length → w.cell? ⟨b, off + i, none⟩ = some (.int .u8 (xs.getD i 0)))

def fitsK (k : Int) : Bool := decide (1 ≤ k) && decide (k ≤ 8)
def tkV (xs : List Int) (sh : Bool) (k : Int) : Int := if fitsK k = true ∧ sh = false ∧ k ≤ xs.length then num (xs.take k.toNat) else 0
def tkX (xs : List Int) (sh : Bool) (k : Int) : List Int := if fitsK k = true ∧ sh = false then (if k ≤ xs.length then xs.drop k.toNat else []) else xs
def tkS (xs : List Int) (sh : Bool) (k : Int) : Bool := if fitsK k = true ∧ sh = false then decide ((xs.length : Int) < k) else sh

def Took (w : World) (N R : Nat) (xs : List Int) (sh : Bool) (k : Int) (e : Ending) (w' : World) : Prop :=
  e = .returned (.int .u64 (tkV xs sh k)) ∧ Rd w' N R (tkX xs sh k) (tkS xs sh k) ∧ w.grownBy w' (some R)

theorem only_refl (w : World) (row : Option Nat) : w.grownBy w row := ⟨rfl, rfl, rfl, Nat.le_refl _, fun _ _ _ => rfl⟩
theorem only_set {a w : World} {g : Nat} (h : a.grownBy w (some g)) (o : Nat) (u : Value) : a.grownBy (w.setCell ⟨g, o, none⟩ u) (some g) :=
  ⟨h.os, h.tape, h.output, by simpa [World.setCell] using h.size, fun i hi hne => (Below.heap_setCell w ⟨g, o, none⟩ u i (fun he => hne (by rw [he]))).trans (h.block i hi hne)⟩
theorem size_set (w : World) (p : Addr) (u : Value) : (w.setCell p u).heap.size = w.heap.size := by simp [World.setCell]
theorem fits_iff (k : Int) : fitsK k = true ↔ 1 ≤ k ∧ k ≤ 8 := by simp [fitsK]

theorem take_out (R : Nat) (k : Int) (w : World) (h : k < 1 ∨ 8 < k) : Calls Try.prog 46 #[.pointer (some ⟨R, 0, none⟩), .int .i64 k] w fun e w' => e = .returned (.int .u64 0) ∧ w = w' := by
  go_enter Try.func46, Try.ntmps46
  go_wp2_with fail
  refine (fits_no _ _ h).mono ?_
  rintro e w1 ⟨rfl, rfl⟩
  go_wp2
  go_ret
  exact ⟨rfl, rfl⟩

theorem take_short (R : Nat) (k : Int) (w : World) (h0 : 1 ≤ k) (h1 : k ≤ 8) (c1 : w.cell? ⟨R, 1, none⟩ = some (.bool true)) : Calls Try.prog 46 #[.pointer (some ⟨R, 0, none⟩), .int .i64 k] w fun e w' => e = .returned (.int .u64 0) ∧ w = w' := by
  go_enter Try.func46, Try.ntmps46
  go_wp2_with fail
  refine (fits_yes _ _ (by omega) (by omega)).mono ?_
  rintro e w1 ⟨rfl, rfl⟩
  go_wp2
  go_ret
  exact ⟨rfl, rfl⟩

theorem take_few (R : Nat) (k : Int) (a : Option Addr) (l cap : Nat) (w : World) (h0 : 1 ≤ k) (h1 : k ≤ 8) (c0 : w.cell? ⟨R, 0, none⟩ = some (.slice a l cap)) (c1 : w.cell? ⟨R, 1, none⟩ = some (.bool false)) (hf : ∀ o, w.frozen? ⟨R, o, none⟩ = false) (hl : (l : Int) < k) :
    Calls Try.prog 46 #[.pointer (some ⟨R, 0, none⟩), .int .i64 k] w fun e w' => e = .returned (.int .u64 0) ∧ w' = (w.setCell ⟨R, 1, none⟩ (.bool true)).setCell ⟨R, 0, none⟩ (.slice none 0 0) := by
  go_enter Try.func46, Try.ntmps46
  go_wp2_with fail
  refine (fits_yes _ _ (by omega) (by omega)).mono ?_
  rintro e w1 ⟨rfl, rfl⟩
  go_wp2
  go_ret
  exact ⟨rfl, rfl⟩

theorem take_any {N : Nat} (R : Nat) (xs : List Int) (sh : Bool) (k : Int) (w : World) (h : Rd w N R xs sh) : Calls Try.prog 46 #[.pointer (some ⟨R, 0, none⟩), .int .i64 k] w (Took w N R xs sh k) := by
  have hR := h
  obtain ⟨⟨hr, hN⟩, c1, hf, hx, v, c0, hv⟩ := h
  by_cases hk : 1 ≤ k ∧ k ≤ 8
  · have hfk := (fits_iff k).2 hk
    obtain ⟨h0, h1⟩ := hk
    cases sh with
    | true =>
      refine (take_short R k w h0 h1 c1).mono ?_
      rintro e w' ⟨rfl, rfl⟩
      exact ⟨by simp [tkV], by simpa [tkX, tkS] using hR, only_refl _ _⟩
    | false =>
      by_cases hl : k ≤ xs.length
      · rcases hv with ⟨rfl, _⟩ | ⟨b, off, cap, rfl, hp, hlc, hm, hbR, hb, hc⟩
        · simp at hl
          omega
        · obtain ⟨q, rfl⟩ := Int.eq_ofNat_of_zero_le (show 0 ≤ k by omega)
          have hq : q ≤ xs.length := by omega
          have eV : tkV xs false q = num (xs.take q) := by simp [tkV, hfk, hq]
          have eX : tkX xs false q = xs.drop q := by simp [tkX, hfk, hq]
          have eS : tkS xs false q = false := by simp [tkS, hfk, hq]
          by_cases hqc : q < cap
          · refine (take_yes R b off cap q xs w c0 c1 (hf 0) hc hx (by omega) (by omega) hq hlc hm hqc).mono ?_
            rintro e w' ⟨rfl, rfl⟩
            refine ⟨by rw [eV], ?_, only_set (only_refl w _) 0 _⟩
            rw [eX, eS]
            refine ⟨⟨by rw [size_set]; exact hr, hN⟩, (World.cell?_setCell_other _ _ _ _ (by simp)).trans c1, fun o => (World.frozen?_setCell _ _ _ _).trans (hf o), fun x hx' => hx x (List.mem_of_mem_drop hx'), _, World.cell?_setCell_same _ _ _ c0, ?_⟩
            by_cases he : xs.length = q
            · exact .inl ⟨by rw [← he]; simp, _, _, by rw [he, Nat.sub_self]⟩
            · refine .inr ⟨b, off + q, cap - q, by rw [List.length_drop], by rw [List.length_drop]; omega, by rw [List.length_drop]; omega, by omega, hbR, by rw [size_set]; exact hb, fun i hi => ?_⟩
              rw [List.length_drop] at hi
              refine (World.cell?_setCell_other _ _ _ _ (by simp <;> omega)).trans ?_
              rw [show off + q + i = off + (q + i) by omega, hc (q + i) (by omega)]
              simp [List.getD]
          · have hcq : cap = q := by omega
            subst hcq
            have hlq : xs.length = cap := by omega
            rw [hlq] at c0
            refine (take_all R b off cap xs w c0 c1 (hf 0) hc hx (by omega) (by omega) hq hlc hm).mono ?_
            rintro e w' ⟨rfl, rfl⟩
            refine ⟨by rw [eV], ?_, only_set (only_refl w _) 0 _⟩
            rw [eX, eS]
            refine ⟨⟨by rw [size_set]; exact hr, hN⟩, (World.cell?_setCell_other _ _ _ _ (by simp)).trans c1, fun o => (World.frozen?_setCell _ _ _ _).trans (hf o), fun x hx' => hx x (List.mem_of_mem_drop hx'), _, World.cell?_setCell_same _ _ _ c0, .inl ⟨by rw [← hlq]; simp, _, _, rfl⟩⟩
      · have eV : tkV xs false k = 0 := by simp [tkV, hl]
        have eX : tkX xs false k = [] := by simp [tkX, hfk, hl]
        have eS : tkS xs false k = true := by
          simp [tkS, hfk]
          omega
        have hsl : ∃ a l cap, v = .slice a l cap ∧ (l : Int) < k := by
          rcases hv with ⟨rfl, a, cap, rfl⟩ | ⟨b, off, cap, rfl, _⟩
          · exact ⟨a, 0, cap, rfl, by omega⟩
          · exact ⟨_, _, cap, rfl, by omega⟩
        obtain ⟨a, l, cap, rfl, hlk⟩ := hsl
        refine (take_few R k a l cap w h0 h1 c0 c1 hf hlk).mono ?_
        rintro e w' ⟨rfl, rfl⟩
        refine ⟨by rw [eV], ?_, only_set (only_set (only_refl w _) _ _) _ _⟩
        rw [eX, eS]
        refine ⟨⟨by rw [size_set, size_set]; exact hr, hN⟩, ?_, fun o => (World.frozen?_setCell _ _ _ _).trans ((World.frozen?_setCell _ _ _ _).trans (hf o)), fun x hx' => by simp at hx', _, ?_, .inl ⟨rfl, none, 0, rfl⟩⟩
        · exact (World.cell?_setCell_other _ _ _ _ (by simp)).trans (World.cell?_setCell_same _ _ _ c1)
        · exact World.cell?_setCell_same _ _ _ ((World.cell?_setCell_other _ _ _ _ (by simp)).trans c0)
  · have hfk : fitsK k = false := by
      rw [Bool.eq_false_iff]
      exact fun h => hk ((fits_iff k).1 h)
    refine (take_out R k w (by omega)).mono ?_
    rintro e w' ⟨rfl, rfl⟩
    exact ⟨by simp [tkV, hfk], by simpa [tkX, tkS, hfk] using hR, only_refl _ _⟩

theorem short_any {N : Nat} (R : Nat) (xs : List Int) (sh : Bool) (w : World) (h : Rd w N R xs sh) : Calls Try.prog 47 #[.pointer (some ⟨R, 0, none⟩)] w fun e w' => e = .returned (.bool sh) ∧ w = w' := by
  obtain ⟨hr, c1, hf, hx, v, c0, hv⟩ := h
  go_enter Try.func47, Try.ntmps47
  go_wp2
  go_ret
  exact ⟨rfl, rfl⟩

end Go.Proofs.Ytdfaagchlnkpnaa
