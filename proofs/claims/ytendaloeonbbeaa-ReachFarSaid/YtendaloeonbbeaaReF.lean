/- How far it is: what the search does, as plain functions; what holds all along. No statement is proved here. -/
import Derived.Test.YtendaloeonbbeaaReE
namespace Go.Proofs.Ytendaloeonbbeaa
open Go.RowKit Go.BigFrame Go.WideShapes Go.ChangeShapes Go.Deep
set_option linter.unusedVariables false
set_option linter.unusedSimpArgs false

/-- One hop from point k. -/
def rel1 (k : Nat) (D : List Way) (h : Hp) : List Way := match D.getD k Option.none with
  | .none => D
  | .some (a, b) => if shW (a + h.c.toNat) (b + 1) (D.getD h.t.toNat Option.none) = true then D.set h.t.toNat (Option.some (a + h.c.toNat, b + 1)) else D
def relA (k : Nat) (D : List Way) (hs : List Hp) : List Way := hs.foldl (rel1 k) D
theorem relA_snoc (k : Nat) (D : List Way) (hs : List Hp) (h : Hp) : relA k D (hs ++ [h]) = rel1 k (relA k D hs) h := by simp [relA]
/-- The search: behind t points. -/
inductive Rch (n : Nat) (L : List Hp) (s : Nat) : Nat → List Way → List Bool → Int → Prop
  | zero : Rch n L s 0 ((List.replicate n Option.none).set s (Option.some (0, 0))) (List.replicate n false) s
  | step {t : Nat} {D : List Way} {dn : List Bool} {k : Nat} : Rch n L s t D dn k → k < n → Rch n L s (t + 1) (relA k D (leaveF n L k)) (dn.set k true) (nearF (relA k D (leaveF n L k)) (dn.set k true) n)
/-- What the walk wants. -/
structure Wk (n t : Nat) (D : List Way) : Prop where
  len : D.length = n
  small : ∀ i a b, D.getD i Option.none = Option.some (a, b) → b ≤ t ∧ a ≤ t * 4294967295
theorem Wk.fits {n t : Nat} {D : List Way} (h : Wk n t D) (ht : t ≤ 1001) (i : Nat) : (D.getD i Option.none).fits := by
  cases hd : D.getD i Option.none with
  | none => trivial
  | some q =>
    obtain ⟨a, b⟩ := q
    have h2 := h.small i a b hd
    constructor
    · show a < 2 ^ 53
      omega
    · show b < 2 ^ 53
      omega
theorem getD_setW {D : List Way} {i j : Nat} {q : Way} : (D.set i q).getD j Option.none = if i = j ∧ i < D.length then q else D.getD j Option.none := by
  simp only [List.getD_eq_getElem?_getD, List.getElem?_set]
  by_cases e : i = j
  · subst e
    by_cases h : i < D.length
    · rw [if_pos rfl, if_pos h, if_pos ⟨rfl, h⟩]; rfl
    · rw [if_pos rfl, if_neg h, if_neg (fun h2 => h h2.2), List.getElem?_eq_none (by omega)]
  · rw [if_neg e, if_neg (fun h2 => e h2.1)]
theorem rel1_len (k : Nat) (D : List Way) (h : Hp) : (rel1 k D h).length = D.length := by
  unfold rel1
  split
  · rfl
  · split
    · rw [List.length_set]
    · rfl
theorem relA_len (k : Nat) : ∀ (hs : List Hp) (D : List Way), (relA k D hs).length = D.length
  | [], _ => rfl
  | h :: hs, D => by
    show (relA k (rel1 k D h) hs).length = _
    rw [relA_len k hs, rel1_len]
/-- Relaxing from k does not change k's own. -/
theorem rel1_self {k : Nat} {D : List Way} {h : Hp} {q : Nat × Nat} (hq : D.getD k Option.none = Option.some q) : (rel1 k D h).getD k Option.none = Option.some q := by
  obtain ⟨a, b⟩ := q
  unfold rel1
  rw [hq]
  dsimp only
  split
  · rename_i hs
    rw [getD_setW]
    split
    · rename_i e
      rw [e.1, hq] at hs
      simp only [shW, ltW, Bool.or_eq_true, decide_eq_true_eq, Bool.and_eq_true, beq_iff_eq] at hs
      omega
    · exact hq
  · exact hq
theorem relA_self {k : Nat} {q : Nat × Nat} : ∀ (hs : List Hp) (D : List Way), D.getD k Option.none = Option.some q → (relA k D hs).getD k Option.none = Option.some q
  | [], _, h => h
  | h :: hs, D, hq => relA_self hs _ (rel1_self hq)
theorem rel1_small {k t : Nat} {D : List Way} {h : Hp} {a0 b0 : Nat} (hq : D.getD k Option.none = Option.some (a0, b0)) (hb0 : b0 ≤ t ∧ a0 ≤ t * 4294967295) (hc : h.c.toNat ≤ 4294967295) (hs : ∀ i a b, D.getD i Option.none = Option.some (a, b) → b ≤ t + 1 ∧ a ≤ (t + 1) * 4294967295) :
    ∀ i a b, (rel1 k D h).getD i Option.none = Option.some (a, b) → b ≤ t + 1 ∧ a ≤ (t + 1) * 4294967295 := by
  intro i a b hi
  unfold rel1 at hi
  rw [hq] at hi
  dsimp only at hi
  split at hi
  · rw [getD_setW] at hi
    split at hi
    · cases hi
      omega
    · exact hs i a b hi
  · exact hs i a b hi
theorem relA_small {k t : Nat} {a0 b0 : Nat} (hb0 : b0 ≤ t ∧ a0 ≤ t * 4294967295) : ∀ (hs : List Hp) (D : List Way), (∀ h ∈ hs, h.c.toNat ≤ 4294967295) → D.getD k Option.none = Option.some (a0, b0) → (∀ i a b, D.getD i Option.none = Option.some (a, b) → b ≤ t + 1 ∧ a ≤ (t + 1) * 4294967295) →
    ∀ i a b, (relA k D hs).getD i Option.none = Option.some (a, b) → b ≤ t + 1 ∧ a ≤ (t + 1) * 4294967295
  | [], _, _, _, h => h
  | h :: hs, D, hc, hq, hs0 => relA_small hb0 hs _ (fun x hx => hc x (List.mem_cons_of_mem _ hx)) (rel1_self hq) (rel1_small hq hb0 (hc h List.mem_cons_self) hs0)
/-- How many points are done with. -/
def cnt (l : List Bool) : Nat := (l.filter id).length
theorem cnt_set : ∀ (l : List Bool) (k : Nat), k < l.length → l.getD k false = false → cnt (l.set k true) = cnt l + 1
  | [], k, hk, _ => by simp at hk
  | b :: l, 0, _, hb => by
    obtain rfl : b = false := by simpa using hb
    simp [cnt]
  | b :: l, k + 1, hk, hb => by
    have ih := cnt_set l k (by simpa using hk) (by simpa using hb)
    unfold cnt at ih ⊢
    cases b <;> simp [ih]
theorem cnt_le (l : List Bool) : cnt l ≤ l.length := List.length_filter_le _ _
theorem leave_c {n : Nat} {L : List Hp} (hw : ∀ h ∈ L, h.wf) (k : Nat) : ∀ h ∈ leaveF n L k, h.c.toNat ≤ 4294967295 := fun h hh => by
  have := (hw h (List.mem_filter.1 hh |>.1)).2.2
  omega
theorem Rch.facts {n : Nat} {L : List Hp} {s t : Nat} {D : List Way} {dn : List Bool} {at_ : Int} (h : Rch n L s t D dn at_) (hs : s < n) (hw : ∀ h ∈ L, h.wf) :
    Wk n t D ∧ dn.length = n ∧ cnt dn = t ∧ (at_ = -1 ∨ ∃ k : Nat, k < n ∧ at_ = k ∧ dn.getD k false = false ∧ ∃ q, D.getD k Option.none = Option.some q) := by
  induction h with
  | zero =>
    refine ⟨⟨by simp, fun i a b hi => ?_⟩, by simp, ?_, .inr ⟨s, hs, rfl, by simp [List.getD, hs], (0, 0), ?_⟩⟩
    · rw [getD_setW] at hi
      split at hi
      · cases hi
        omega
      · simp only [List.getD_eq_getElem?_getD, List.getElem?_replicate] at hi
        split at hi <;> simp at hi
    · have : ∀ m, cnt (List.replicate m false) = 0 := fun m => by
        unfold cnt
        rw [List.filter_eq_nil_iff.2 (fun a ha => by
          have := List.eq_of_mem_replicate ha
          simp [this])]
        rfl
      exact this n
    · rw [getD_setW, if_pos ⟨rfl, by simpa using hs⟩]
  | step hr hk ih =>
    rename_i t D dn k
    obtain ⟨w1, l2, c3, h4⟩ := ih
    rcases h4 with h4 | ⟨k2, hk2, e, hd, ⟨a, b⟩, hq⟩
    · omega
    · obtain rfl : k = k2 := by omega
      have hsm := w1.small k a b hq
      refine ⟨⟨by rw [relA_len]; exact w1.len, fun i x y hi => relA_small hsm _ _ (leave_c hw k) hq (fun i x y hi => by have := w1.small i x y hi; omega) i x y hi⟩, by rw [List.length_set]; exact l2, by rw [cnt_set _ _ (by omega) hd, c3], ?_⟩
      exact nearF_rg _ _ n
theorem Rch.bound {n : Nat} {L : List Hp} {s t : Nat} {D : List Way} {dn : List Bool} {at_ : Int} (h : Rch n L s t D dn at_) (hs : s < n) (hw : ∀ h ∈ L, h.wf) : t ≤ n := by
  obtain ⟨-, l, c, -⟩ := h.facts hs hw
  have := cnt_le dn
  omega

end Go.Proofs.Ytendaloeonbbeaa
