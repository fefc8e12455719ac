/- Sorting by insertion: lists. Regions held till one operation: operations that read no world. No statement is proved here. -/
import Derived.Test.YtheackckmhbodaaHeldZo
namespace Go.Proofs.Ytheackckmhbodaa
open Go.RowKit Go.BigFrame Go.WideShapes Go.ChangeShapes Go.Deep
set_option linter.unusedVariables false
set_option linter.unusedSimpArgs false

section
variable {P : Program} {ops : Array Oper} {Q : Exit → Act → World → Prop} {md : Region.Mode} {S : World → Prop} {z : Nat}
/-- An operation that reads no world may be taken first, whether number z waits for it or not. -/
theorem wpAnyZ_first0 {i : Nat} {oi : Oper} {v : Value} (hi : ops[i]? = some oi) (hne : z ≠ i)
    (hsel : ∀ (j : Nat) (o : Oper) cs b, ops[j]? = some o → o.op ≠ .select cs b) (hQ : ∀ c a w, Q (.panic c) (a.put oi.dst v) w → Q (.panic c) a w) :
    ∀ (fuel : Nat) (listed : Array Bool) (a : Act) (w : World),
      (∀ j oj, ops[j]? = some oj → j ≠ i → listed.getD j true = false → (∀ e ∈ oj.after, Region.binds md e = true → e.on ≠ i) → oi.apart ops oj = true) →
      i ∈ Region.ready md ops listed → YieldsIf P ops (fun _ => True) oi v a → (listed.getD z true = false → S w) →
      wpAnyZ P md ops Q S z fuel (listed.setIfInBounds i true) (a.put oi.dst v) w → wpAnyZ P md ops Q S z (fuel + 1) listed a w := by
  have same : ∀ (l : Array Bool), (l.setIfInBounds i true).getD z true = false → l.getD z true = false := fun l h => by
    rw [getD_set_ne true (Ne.symm hne)] at h; exact h
  have same' : ∀ (l : Array Bool), l.getD z true = false → (l.setIfInBounds i true).getD z true = false := fun l h => by
    rw [getD_set_ne true (Ne.symm hne)]; exact h
  intro fuel
  induction fuel with
  | zero =>
    intro listed a w _ hr hy hS H
    refine ⟨fun h => (by rw [h] at hr; cases hr), fun j hj => ?_⟩
    by_cases hji : j = i
    · subst hji; exact hy.wpOp hi trivial ⟨fun h => hS (same _ h), H⟩
    · have := ready_mono hj hji
      rw [H.1] at this
      cases this
  | succ fuel ih =>
    intro listed a w hfree hr hy hS H
    refine ⟨fun h => (by rw [h] at hr; cases hr), fun j hj => ?_⟩
    by_cases hji : j = i
    · subst hji; exact hy.wpOp hi trivial ⟨fun h => hS (same _ h), H⟩
    · have h1 := H.2 j (ready_mono hj hji)
      obtain ⟨hjun, oj, hoj, hall⟩ := mem_ready.1 hj
      have hnot : ∀ e ∈ oj.after, Region.binds md e = true → e.on ≠ i := fun e he hb heq => by
        have h1 := hall e he hb
        have h0 := (mem_ready.1 hr).1
        rw [heq] at h1
        rcases Nat.lt_or_ge i listed.size with h' | h'
        · simp [h'] at h0 h1; rw [h0] at h1; cases h1
        · simp [Array.getElem?_eq_none h'] at h1
      have h2 := wpOp_putIf hoj (hfree j oj hoj hji hjun hnot) (fun cs b => hsel i oi cs b hi) (fun cs b => hsel j oj cs b hoj) hQ hy h1
      have hfree' : ∀ k ok, ops[k]? = some ok → k ≠ i → (listed.setIfInBounds j true).getD k true = false →
          (∀ e ∈ ok.after, Region.binds md e = true → e.on ≠ i) → oi.apart ops ok = true := fun k ok hk hki hun hno => by
        refine hfree k ok hk hki ?_ hno
        by_cases hjk : j = k
        · subst hjk; exact hjun
        · rw [getD_set_ne true hjk] at hun; exact hun
      refine wpOp_mono (fun a' w' h3 => ?_) h2
      have hS' : (listed.setIfInBounds j true).getD z true = false → S w' := fun h => h3.2.1 (by rw [Array.setIfInBounds_comm _ _ (Ne.symm hji)]; exact same' _ h)
      refine ⟨hS', ih (listed.setIfInBounds j true) a' w' hfree' (ready_mono hr (Ne.symm hji)) h3.1 hS' ?_⟩
      rw [Array.setIfInBounds_comm _ _ hji]
      exact h3.2.2
end
theorem takeY {P : Program} {md : Region.Mode} {Q : Exit → Act → World → Prop} {S : World → Prop} {l rest : List Oper} {i z : Nat} {oi : Oper} {v : Value} {fuel : Nat} {listed : Array Bool} {a : Act} {w : World} (hi : l.drop i = oi :: rest)
    (hne : (z == i) = false) (hs : Region.noSelect l.toArray = true) (hf : Region.free md l.toArray listed i = true) (hr : (Region.ready md l.toArray listed).contains i = true)
    (hQ : ∀ c a w, Q (.panic c) (a.put oi.dst v) w → Q (.panic c) a w) (hy : YieldsIf P l.toArray (fun _ => True) oi v a) (hS : S w)
    (h : wpAnyZ P md l.toArray Q S z fuel (listed.setIfInBounds i true) (a.put oi.dst v) w) : wpAnyZ P md l.toArray Q S z (fuel + 1) listed a w :=
  wpAnyZ_first0 (at_drop hi) (by simpa using hne) (Region.noSelect_spec hs) hQ fuel listed a w (Region.free_spec (at_drop hi) hf) (by simpa using hr) hy (fun _ => hS) h

/-! ### Lists by their places -/
def at0 (l : List Int) (i : Nat) : Int := l.getD i 0
def swp (l : List Int) (q : Nat) : List Int := (l.set (q + 1) (at0 l q)).set q (at0 l (q + 1))
theorem swp_len (l : List Int) (q : Nat) : (swp l q).length = l.length := by simp [swp]
theorem at_set (l : List Int) (p i : Nat) (v : Int) (h : p < l.length) : at0 (l.set p v) i = if i = p then v else at0 l i := by
  unfold at0
  by_cases hi : i = p
  · subst hi; simp [List.getD, h]
  · rw [if_neg hi]; simp [List.getD, List.getElem?_set_ne (Ne.symm hi)]
theorem at_swp (l : List Int) (q i : Nat) (h : q + 1 < l.length) : at0 (swp l q) i = if i = q then at0 l (q + 1) else if i = q + 1 then at0 l q else at0 l i := by
  unfold swp
  rw [at_set _ _ _ _ (by simp; omega), at_set _ _ _ _ h]
/-- The first i + 1 rise, but for the one at j, which is no greater than those behind it. -/
def InsI (l : List Int) (i j : Nat) : Prop := (∀ a b, a < b → b ≤ i → a ≠ j → b ≠ j → at0 l a ≤ at0 l b) ∧ ∀ b, j < b → b ≤ i → at0 l j ≤ at0 l b
def Rise (l : List Int) (i : Nat) : Prop := ∀ a b, a < b → b < i → at0 l a ≤ at0 l b
/-- No number twice, and the same numbers. -/
def Like (n : Nat) (l0 l : List Int) : Prop := l.length = n ∧ (∀ a b, a < n → b < n → at0 l a = at0 l b → a = b) ∧ ∀ x, (∃ a, a < n ∧ at0 l a = x) ↔ ∃ a, a < n ∧ at0 l0 a = x
theorem InsI.start {l : List Int} {i : Nat} (h : Rise l i) : InsI l i i := ⟨fun a b hab hb _ hbi => h a b hab (by omega), fun b h1 h2 => by omega⟩
theorem InsI.step {l : List Int} {i q : Nat} (h : InsI l i (q + 1)) (hn : q + 1 < l.length) (hlt : at0 l (q + 1) < at0 l q) (hi : q + 1 ≤ i) : InsI (swp l q) i q := by
  refine ⟨fun a b hab hb ha hbq => ?_, fun b h1 h2 => ?_⟩
  · rw [at_swp _ _ _ hn, at_swp _ _ _ hn, if_neg ha, if_neg hbq]
    by_cases h3 : a = q + 1
    · rw [if_pos h3, if_neg (by omega)]
      exact h.1 q b (by omega) hb (by omega) (by omega)
    · rw [if_neg h3]
      by_cases h4 : b = q + 1
      · rw [if_pos h4]
        exact h.1 a q (by omega) (by omega) h3 (by omega)
      · rw [if_neg h4]
        exact h.1 a b hab hb h3 h4
  · rw [at_swp _ _ _ hn, at_swp _ _ _ hn, if_pos rfl, if_neg (by omega)]
    by_cases h4 : b = q + 1
    · rw [if_pos h4]; omega
    · rw [if_neg h4]
      exact h.2 b (by omega) h2
theorem InsI.stop0 {l : List Int} {i : Nat} (h : InsI l i 0) : Rise l (i + 1) := fun a b hab hb => by
  by_cases ha : a = 0
  · subst ha; exact h.2 b hab (by omega)
  · exact h.1 a b hab (by omega) ha (by omega)
theorem InsI.stop {l : List Int} {i q : Nat} (h : InsI l i (q + 1)) (hle : at0 l q ≤ at0 l (q + 1)) (hi : q + 1 ≤ i) : Rise l (i + 1) := fun a b hab hb => by
  by_cases ha : a = q + 1
  · subst ha; exact h.2 b hab (by omega)
  · by_cases hbq : b = q + 1
    · subst hbq
      by_cases haq : a = q
      · subst haq; exact hle
      · exact Int.le_trans (h.1 a q (by omega) (by omega) ha (by omega)) hle
    · exact h.1 a b hab (by omega) ha hbq
theorem Like.swp {n : Nat} {l0 l : List Int} {q : Nat} (h : Like n l0 l) (hq : q + 1 < n) : Like n l0 (swp l q) := by
  obtain ⟨h1, h2, h3⟩ := h
  have hn : q + 1 < l.length := by omega
  have key : ∀ a, a < n → ∃ a', a' < n ∧ at0 (Go.Proofs.Ytheackckmhbodaa.swp l q) a = at0 l a' ∧ a' = if a = q then q + 1 else if a = q + 1 then q else a := fun a ha => by
    rw [at_swp _ _ _ hn]
    by_cases e1 : a = q
    · exact ⟨q + 1, hq, by rw [if_pos e1], by rw [if_pos e1]⟩
    · by_cases e2 : a = q + 1
      · exact ⟨q, by omega, by rw [if_neg e1, if_pos e2], by rw [if_neg e1, if_pos e2]⟩
      · exact ⟨a, ha, by rw [if_neg e1, if_neg e2], by rw [if_neg e1, if_neg e2]⟩
  refine ⟨by rw [swp_len]; exact h1, fun a b ha hb hab => ?_, fun x => ?_⟩
  · obtain ⟨a', ha', e1, e1'⟩ := key a ha
    obtain ⟨b', hb', e2, e2'⟩ := key b hb
    rw [e1, e2] at hab
    have := h2 a' b' ha' hb' hab
    rw [e1', e2'] at this
    split at this <;> split at this <;> (try split at this) <;> (try split at this) <;> omega
  · rw [← h3 x]
    constructor
    · rintro ⟨a, ha, rfl⟩
      obtain ⟨a', ha', e1, _⟩ := key a ha
      exact ⟨a', ha', e1.symm⟩
    · rintro ⟨a, ha, rfl⟩
      by_cases e1 : a = q
      · exact ⟨q + 1, hq, by rw [at_swp _ _ _ hn, if_neg (by omega), if_pos rfl, e1]⟩
      · by_cases e2 : a = q + 1
        · exact ⟨q, by omega, by rw [at_swp _ _ _ hn, if_pos rfl, e2]⟩
        · exact ⟨a, ha, by rw [at_swp _ _ _ hn, if_neg e1, if_neg e2]⟩
theorem mem_at {l : List Int} {x : Int} : x ∈ l ↔ ∃ a, a < l.length ∧ at0 l a = x := by
  constructor
  · intro h
    obtain ⟨a, ha, hx⟩ := List.getElem_of_mem h
    exact ⟨a, ha, by simp [at0, List.getD, ha, hx]⟩
  · rintro ⟨a, ha, rfl⟩
    simp [at0, List.getD, ha]
/-- Rising lists of the same numbers are one list. -/
theorem rise_uniq {l k : List Int} (h : Rise l l.length) (hl : Like l.length k l) (hk : k.Pairwise (· < ·)) (hkl : k.length = l.length) : l = k := by
  have hp : l.Pairwise (· < ·) := by
    rw [List.pairwise_iff_getElem]
    intro a b ha hb hab
    have h1 := h a b hab hb
    have h2 : at0 l a ≠ at0 l b := fun e => by have := hl.2.1 a b ha hb e; omega
    have e1 : at0 l a = l[a] := by simp [at0, List.getD, ha]
    have e2 : at0 l b = l[b] := by simp [at0, List.getD, hb]
    rw [← e1, ← e2]; omega
  have hm : ∀ x, x ∈ l ↔ x ∈ k := fun x => by rw [mem_at, mem_at, hkl]; exact hl.2.2 x
  have n1 : l.Nodup := hp.imp (fun {a b} h => by omega)
  have n2 : k.Nodup := hk.imp (fun {a b} h => by omega)
  have hperm : l.Perm k := (List.perm_ext_iff_of_nodup n1 n2).2 hm
  exact List.Perm.eq_of_pairwise (le := fun a b => a < b) (fun a b _ _ h1 h2 => by omega) hp hk hperm

end Go.Proofs.Ytheackckmhbodaa
