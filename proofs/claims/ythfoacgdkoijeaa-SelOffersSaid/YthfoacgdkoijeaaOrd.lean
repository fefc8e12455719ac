/- A region that draws its order, whose operations make memory in any order: what holds behind all of them. No statement is proved here. -/
import Derived.Test.YthfoacgdkoijeaaZtwo
namespace Go.Proofs.Ythfoacgdkoijeaa
open Go.RowKit Go.BigFrame Go.WideShapes Go.ChangeShapes Go.Deep
set_option linter.unusedVariables false
set_option linter.unusedSimpArgs false

section
variable {P : Program} {ops : Array Oper} {Q : Exit → Act → World → Prop} {md : Region.Mode}
/-- An act as far as the operations that are listed have laid their values (V). -/
structure Laid (ops : Array Oper) (a0 : Act) (V : Nat → Value) (listed : Array Bool) (a : Act) : Prop where
  defers : a.defers = a0.defers
  size : a.tmps.size = a0.tmps.size
  at_ : ∀ (i t : Nat) (o : Oper), ops[i]? = some o → o.dst = some t → listed.getD i false = true → t < a0.tmps.size → a.tmps[t]? = some (V i)
  old : ∀ t, (∀ (i : Nat) (o : Oper), ops[i]? = some o → o.dst = some t → listed.getD i false = false) → a.tmps[t]? = a0.tmps[t]?

/-- Each slot is laid by one operation at most. -/
def Once (ops : Array Oper) : Prop := ∀ (i j t : Nat) (oi oj : Oper), ops[i]? = some oi → ops[j]? = some oj → oi.dst = some t → oj.dst = some t → i = j
def onceB (ops : List Oper) : Bool := decide ((ops.filterMap (·.dst)).Nodup)
theorem nodup_once : ∀ (l : List Oper), (l.filterMap (·.dst)).Nodup → ∀ (i j t : Nat) (oi oj : Oper), l[i]? = some oi → l[j]? = some oj → oi.dst = some t → oj.dst = some t → i = j
  | [], _, i, j, t, oi, oj, hi, _, _, _ => by simp at hi
  | o :: r, h, i, j, t, oi, oj, hi, hj, di, dj => by
    have hr : (r.filterMap (·.dst)).Nodup := by
      cases hd : o.dst with
      | none => rw [List.filterMap_cons_none hd] at h; exact h
      | some u => rw [List.filterMap_cons_some hd] at h; exact (List.nodup_cons.1 h).2
    have notin : ∀ (k : Nat) (ok : Oper), r[k]? = some ok → ok.dst = some t → o.dst = some t → False := fun k ok hk dk d0 => by
      rw [List.filterMap_cons_some d0] at h
      exact (List.nodup_cons.1 h).1 (List.mem_filterMap.2 ⟨ok, List.mem_of_getElem? hk, dk⟩)
    match i, j with
    | 0, 0 => rfl
    | 0, j + 1 =>
      simp only [List.getElem?_cons_zero, Option.some.injEq, List.getElem?_cons_succ] at hi hj
      subst hi
      exact (notin j oj hj dj di).elim
    | i + 1, 0 =>
      simp only [List.getElem?_cons_zero, Option.some.injEq, List.getElem?_cons_succ] at hi hj
      subst hj
      exact (notin i oi hi di dj).elim
    | i + 1, j + 1 =>
      simp only [List.getElem?_cons_succ] at hi hj
      rw [nodup_once r hr i j t oi oj hi hj di dj]
theorem once_of {l : List Oper} (h : onceB l = true) : Once l.toArray := fun i j t oi oj hi hj di dj =>
  nodup_once l (by simpa [onceB] using h) i j t oi oj (by simpa using hi) (by simpa using hj) di dj

theorem Laid.put {a0 a : Act} {V : Nat → Value} {listed : Array Bool} (h : Laid ops a0 V listed a) (hon : Once ops) {i : Nat} {o : Oper} (hi : ops[i]? = some o) (hl : i < listed.size) (v : Value) :
    Laid ops a0 (fun j => if j = i then v else V j) (listed.setIfInBounds i true) (a.put o.dst v) := by
  have lst : ∀ j, (listed.setIfInBounds i true).getD j false = if i = j then true else listed.getD j false := fun j => by
    by_cases e : i = j
    · subst e; simp [Array.getD, hl]
    · rw [if_neg e, getD_set_ne false e]
  cases hd : o.dst with
  | none =>
    refine ⟨h.defers, h.size, fun j t oj hj dj lj ht => ?_, fun t hf => ?_⟩
    · have hne : j ≠ i := fun e => by subst e; rw [hi] at hj; cases hj; rw [hd] at dj; cases dj
      rw [if_neg hne]
      rw [lst, if_neg (Ne.symm hne)] at lj
      exact h.at_ j t oj hj dj lj ht
    · refine h.old t (fun j oj hj dj => ?_)
      have := hf j oj hj dj
      rw [lst] at this
      split at this
      · cases this
      · exact this
  | some d =>
    have hput : (a.put (some d) v).tmps = a.tmps.setIfInBounds d v := rfl
    refine ⟨h.defers, by rw [hput]; simpa using h.size, fun j t oj hj dj lj ht => ?_, fun t hf => ?_⟩
    · rw [hput]
      by_cases e : j = i
      · subst e
        rw [hi] at hj; cases hj
        rw [hd] at dj; cases dj
        rw [if_pos rfl]
        have : d < a.tmps.size := by rw [h.size]; exact ht
        simp [this]
      · rw [if_neg e]
        rw [lst, if_neg (Ne.symm e)] at lj
        have hne : d ≠ t := fun e2 => by subst e2; exact e (hon j i d oj o hj hi dj hd)
        rw [Array.getElem?_setIfInBounds_ne hne]
        exact h.at_ j t oj hj dj lj ht
    · rw [hput]
      have hne : d ≠ t := fun e2 => by
        subst e2
        have := hf i o hi hd
        rw [lst, if_pos rfl] at this
        cases this
      rw [Array.getElem?_setIfInBounds_ne hne]
      refine h.old t (fun j oj hj dj => ?_)
      have := hf j oj hj dj
      rw [lst] at this
      split at this
      · cases this
      · exact this
/-- With all listed the act is what its text's order makes. -/
theorem Laid.unique {a0 a b : Act} {V : Nat → Value} {listed : Array Bool} (h : Laid ops a0 V listed a) (k : Laid ops a0 V listed b) : a = b := by
  obtain ⟨ta, da⟩ := a
  obtain ⟨tb, db⟩ := b
  have h1 := h.defers; have k1 := k.defers
  simp only at h1 k1
  have ht : ta = tb := by
    apply Array.ext_getElem?
    intro t
    by_cases hs : t < a0.tmps.size
    · by_cases e : ∃ (i : Nat) (o : Oper), ops[i]? = some o ∧ o.dst = some t ∧ listed.getD i false = true
      · obtain ⟨i, o, hi, hd, hl⟩ := e
        exact (h.at_ i t o hi hd hl hs).trans (k.at_ i t o hi hd hl hs).symm
      · have hf : ∀ (i : Nat) (o : Oper), ops[i]? = some o → o.dst = some t → listed.getD i false = false := fun i o hi hd => by
          cases hc : listed.getD i false with
          | false => rfl
          | true => exact (e ⟨i, o, hi, hd, hc⟩).elim
        exact (h.old t hf).trans (k.old t hf).symm
    · have h2 := h.size; have k2 := k.size
      simp only at h2 k2
      rw [Array.getElem?_eq_none (by omega), Array.getElem?_eq_none (by omega)]
  rw [ht, h1.trans k1.symm]
/-- The values laid one behind the other. -/
def laySeq (V : Nat → Value) : List Oper → Nat → Act → Act
  | [], _, a => a
  | o :: r, n, a => laySeq V r (n + 1) (a.put o.dst (V n))
theorem laySeq_laid {l : List Oper} (hon : Once l.toArray) {a0 : Act} {V : Nat → Value} : ∀ (r : List Oper) (n : Nat) (a : Act) (listed : Array Bool), l.drop n = r → listed.size = l.length → Laid l.toArray a0 V listed a → (∀ i, n ≤ i → i < l.length → listed.getD i false = false) → (∀ i, i < n → listed.getD i false = true) →
    ∃ L2 : Array Bool, L2.size = l.length ∧ (∀ i, i < l.length → L2.getD i false = true) ∧ Laid l.toArray a0 V L2 (laySeq V r n a)
  | [], n, a, listed, hr, hs, hL, hf, ht => by
    have : l.length ≤ n := by have := congrArg List.length hr; simp at this; omega
    exact ⟨listed, hs, fun i hi => ht i (by omega), hL⟩
  | o :: r, n, a, listed, hr, hs, hL, hf, ht => by
    have hn : n < l.length := by have := congrArg List.length hr; simp at this; omega
    have ho : l.toArray[n]? = some o := by
      have e : (l.drop n)[0]? = some o := by rw [hr]; rfl
      rw [List.getElem?_drop, Nat.add_zero] at e
      simpa using e
    have hp := hL.put hon ho (by omega) (V n)
    have hV : (fun j => if j = n then V n else V j) = V := funext fun j => by split <;> simp_all
    rw [hV] at hp
    refine laySeq_laid hon r (n + 1) _ _ ?_ (by simpa using hs) hp (fun i h1 h2 => ?_) (fun i h1 => ?_)
    · rw [← List.drop_drop, hr]; rfl
    · rw [getD_set_ne false (by omega)]; exact hf i (by omega) h2
    · by_cases e : n = i
      · subst e; simp [Array.getD, hs, hn]
      · rw [getD_set_ne false e]; exact ht i (by omega)

/-- What comes ahead of what is listed is listed. -/
def Closed (md : Region.Mode) (ops : Array Oper) (listed : Array Bool) : Prop := ∀ (i : Nat) (o : Oper) (e : Edge), ops[i]? = some o → listed.getD i false = true → e ∈ o.after → Region.binds md e = true → listed.getD e.on false = true
theorem Closed.put {listed : Array Bool} (h : Closed md ops listed) {i : Nat} {o : Oper} (hi : ops[i]? = some o) (hl : i < listed.size) (hdep : ∀ e ∈ o.after, Region.binds md e = true → listed.getD e.on false = true) : Closed md ops (listed.setIfInBounds i true) := fun j oj e hj hlj he hb => by
  have up : ∀ n, listed.getD n false = true → (listed.setIfInBounds i true).getD n false = true := fun n hn => by
    by_cases e2 : i = n
    · subst e2; simp [Array.getD, hl]
    · rw [getD_set_ne false e2]; exact hn
  by_cases e2 : i = j
  · subst e2
    rw [hi] at hj; cases hj
    exact up _ (hdep e he hb)
  · rw [getD_set_ne false e2] at hlj
    exact up _ (h j oj e hj hlj he hb)
theorem closed0 (n : Nat) : Closed md ops (Array.replicate n false) := fun i o e _ hl _ _ => by
  by_cases h : i < n
  · simp [Array.getD, h] at hl
  · simp [Array.getD, h] at hl
/-- Whatever order is picked: behind each operation I holds of what is listed and of the values that are laid. -/
theorem all_orders {a0 : Act} (hon : Once ops) (htopo : ∀ (i : Nat) (o : Oper) (e : Edge), ops[i]? = some o → e ∈ o.after → Region.binds md e = true → e.on < i) (I : Array Bool → (Nat → Value) → World → Prop)
    (hstep : ∀ (listed : Array Bool) (V : Nat → Value) (a : Act) (w : World) (i : Nat) (o : Oper), ops[i]? = some o → listed.size = ops.size → Closed md ops listed → listed.getD i true = false → (∀ e ∈ o.after, Region.binds md e = true → listed.getD e.on false = true) → Laid ops a0 V listed a → I listed V w →
      wpOp P ops Q i (fun a' w' => ∃ v, a' = a.put o.dst v ∧ I (listed.setIfInBounds i true) (fun j => if j = i then v else V j) w') a w)
    (hend : ∀ (listed : Array Bool) (V : Nat → Value) (a : Act) (w : World), listed.size = ops.size → (∀ i, i < ops.size → listed.getD i false = true) → Laid ops a0 V listed a → I listed V w → Q .normal a w) :
    ∀ (fuel : Nat) (listed : Array Bool) (V : Nat → Value) (a : Act) (w : World), listed.size = ops.size → Closed md ops listed → listed.toList.count false ≤ fuel → Laid ops a0 V listed a → I listed V w → wpAny P md ops Q fuel listed a w := by
  have full : ∀ listed : Array Bool, listed.size = ops.size → Region.ready md ops listed = [] → ∀ i, i < ops.size → listed.getD i false = true := fun listed hs hr => by
    intro i
    induction i using Nat.strongRecOn with
    | ind i ih =>
      intro hi
      cases hc : listed.getD i false with
      | true => rfl
      | false =>
        have ho : ops[i]? = some ops[i] := by simp [hi]
        have : i ∈ Region.ready md ops listed := mem_ready.2 ⟨by simp [Array.getD, hs, hi] at hc ⊢; exact hc, _, ho, fun e he hb => by
          have := htopo i _ e ho he hb
          exact ih e.on this (by omega)⟩
        rw [hr] at this
        cases this
  intro fuel
  induction fuel with
  | zero =>
    intro listed V a w hs hcl hc hL hI
    have hall : ∀ i, i < ops.size → listed.getD i false = true := fun i hi => by
      cases hcc : listed.getD i false with
      | true => rfl
      | false =>
        exfalso
        have h0 : listed.toList.count false = 0 := by omega
        rw [List.count_eq_zero] at h0
        apply h0
        have hil : i < listed.size := by omega
        simp [Array.getD, hil] at hcc
        exact List.mem_of_getElem? (i := i) (by simp [hil, hcc])
    refine ⟨?_, hend listed V a w hs hall hL hI⟩
    cases hr : Region.ready md ops listed with
    | nil => rfl
    | cons j r =>
      exfalso
      have hj : j ∈ Region.ready md ops listed := by rw [hr]; simp
      obtain ⟨h1, o, ho, _⟩ := mem_ready.1 hj
      have hjl : j < ops.size := (Array.getElem?_eq_some_iff.1 ho).1
      have := hall j hjl
      simp [Array.getD, hs, hjl] at h1 this
      rw [h1] at this
      cases this
  | succ fuel ih =>
    intro listed V a w hs hcl hc hL hI
    refine ⟨fun hr => hend listed V a w hs (full listed hs hr) hL hI, fun i hi => ?_⟩
    obtain ⟨h1, o, ho, hdep⟩ := mem_ready.1 hi
    have hil : i < listed.size := by rw [hs]; exact (Array.getElem?_eq_some_iff.1 ho).1
    refine wpOp_mono (fun a' w' h => ?_) (hstep listed V a w i o ho hs hcl h1 hdep hL hI)
    obtain ⟨v, rfl, hI'⟩ := h
    refine ih _ _ _ _ (by simpa using hs) (hcl.put ho hil hdep) ?_ (hL.put hon ho hil v) hI'
    have hf : listed[i]? = some false := by
      simp [Array.getD, hil] at h1
      simp [hil, h1]
    have hcount : (listed.setIfInBounds i true).toList.count false + 1 = listed.toList.count false := by
      rw [Array.toList_setIfInBounds]
      have h2 : listed.toList[i]? = some false := by simpa using hf
      have hlt : i < listed.toList.length := by simpa using hil
      have h3 : listed.toList[i] = false := by
        rw [List.getElem?_eq_getElem hlt] at h2
        simpa using h2
      have hp : 0 < listed.toList.count false := List.count_pos_iff.2 (h3 ▸ List.getElem_mem hlt)
      rw [List.count_set hlt, h3]
      have e1 : ((false == false) = true) := rfl
      have e2 : ¬ ((true == false) = true) := by decide
      rw [if_pos e1, if_neg e2]
      omega
    omega
end

end Go.Proofs.Ythfoacgdkoijeaa
