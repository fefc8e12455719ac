/- Regions in all orders: what a step needs. No statement is proved here. -/
import Derived.Test.YthfoacgdkoijeaaOrd
namespace Go.Proofs.Ythfoacgdkoijeaa
open Go.RowKit Go.BigFrame Go.WideShapes Go.ChangeShapes Go.Deep
set_option linter.unusedVariables false
set_option linter.unusedSimpArgs false

theorem beginO {P : Program} {Q : Exit → Act → World → Prop} {id : Nat} {ops : Array Oper} {a : Act} {w : World} (hm : P.follows .mixedOrders = true)
    (h : ∀ wd : World, Ext w wd → wpAny P .any ops Q ops.size (Array.replicate ops.size false) a wd) : (Code.region id ops true).wp P Q a w :=
  wp_region_any hm (h w.drew (Ext.refl w).drew)
def topoB (md : Region.Mode) (l : List Oper) : Bool := l.zipIdx.all fun x => x.1.after.toList.all fun e => !Region.binds md e || decide (e.on < x.2)
theorem topo_of {md : Region.Mode} {l : List Oper} (h : topoB md l = true) : ∀ (i : Nat) (o : Oper) (e : Edge), l.toArray[i]? = some o → e ∈ o.after → Region.binds md e = true → e.on < i := fun i o e hi he hb => by
  have h1 := List.all_eq_true.1 h (o, i) (by
    rw [List.mem_zipIdx_iff_getElem?]
    simpa using hi)
  have h2 := List.all_eq_true.1 h1 e (by simpa using he)
  simp only [hb, Bool.not_true, Bool.false_or, decide_eq_true_eq] at h2
  exact h2
section
variable {P : Program} {ops : Array Oper} {Q : Exit → Act → World → Prop}
theorem wpOp_plain {i : Nat} {o : Oper} {K : Act → World → Prop} {a : Act} {w : World} (hi : ops[i]? = some o) (hg : o.guard = none) (h : o.wp P a w K Q) : wpOp P ops Q i K a w := by
  unfold wpOp
  simp only [hi]
  rw [if_pos (by simp [Region.wanted, hg])]
  exact .inl h
/-- An operation that only reads. -/
theorem wp_run {o : Oper} {K : Act → World → Prop} {a : Act} {w : World} (v : Value) (hr : (execOp a.eval o).run P w = .ok (.value v) w) (hK : K (a.put o.dst v) w) : o.wp P a w K Q := by
  unfold Oper.wp
  rw [hr]
  exact hK
theorem Laid.val {a0 a : Act} {V : Nat → Value} {listed : Array Bool} (h : Laid ops a0 V listed a) {i t : Nat} {o : Oper} (hi : ops[i]? = some o) (hd : o.dst = some t) (hl : listed.getD i false = true) (ht : t < a0.tmps.size) : a.eval (.tmp t) = V i := by
  show a.tmps.getD t undef = V i
  have := h.at_ i t o hi hd hl ht
  rw [Array.getD_eq_getD_getElem?, this]
  rfl
theorem Laid.olds {a0 a : Act} {V : Nat → Value} {listed : Array Bool} (h : Laid ops a0 V listed a) {t : Nat} (hn : ops.toList.all (fun o => o.dst != some t) = true) : a.eval (.tmp t) = a0.eval (.tmp t) := by
  show a.tmps.getD t undef = a0.tmps.getD t undef
  have := h.old t (fun i o hi hd => by
    have h1 := List.all_eq_true.1 hn o (by
      rw [Array.mem_toList_iff]
      exact Array.mem_of_getElem? hi)
    simp [hd] at h1)
  rw [Array.getD_eq_getD_getElem?, Array.getD_eq_getD_getElem?, this]
theorem laid0 (a0 : Act) (V : Nat → Value) (n : Nat) : Laid ops a0 V (Array.replicate n false) a0 :=
  ⟨rfl, rfl, fun i t o _ _ hl _ => (by
    by_cases h : i < n
    · simp [Array.getD, h] at hl
    · simp [Array.getD, h] at hl), fun _ _ => rfl⟩
/-- With all listed. -/
theorem laid_all {l : List Oper} (hon : Once l.toArray) {a0 a : Act} {V : Nat → Value} {listed : Array Bool} (h : Laid l.toArray a0 V listed a) (hs : listed.size = l.toArray.size) (hall : ∀ i, i < l.toArray.size → listed.getD i false = true) : a = laySeq V l 0 a0 := by
  obtain ⟨L2, h1, h2, h3⟩ := laySeq_laid hon (a0 := a0) (V := V) l 0 a0 (Array.replicate l.length false) rfl (by simp) (laid0 _ _ _) (fun i _ hi => by simp [Array.getD, hi]) (fun i hi => by omega)
  have e : listed = L2 := by
    apply Array.ext
    · simpa [h1] using hs
    · intro i hi hj
      have a1 := hall i (by rw [← hs]; exact hi)
      have a2 := h2 i (by rw [← h1]; exact hj)
      simp [Array.getD, hi] at a1
      simp [Array.getD, hj] at a2
      rw [a1, a2]
  subst e
  exact h.unique h3
/-- What is listed behind one more operation. -/
theorem set_listed {listed : Array Bool} {i j : Nat} (hi : i < listed.size) (h : (listed.setIfInBounds i true).getD j false = true) : j = i ∨ listed.getD j false = true := by
  by_cases e : i = j
  · exact .inl e.symm
  · rw [getD_set_ne false e] at h
    exact .inr h
theorem set_unlisted {listed : Array Bool} {i j : Nat} (hi : i < listed.size) (h : (listed.setIfInBounds i true).getD j false = false) : j ≠ i ∧ listed.getD j false = false := by
  by_cases e : i = j
  · subst e
    simp [Array.getD, hi] at h
  · rw [getD_set_ne false e] at h
    exact ⟨Ne.symm e, h⟩
end

end Go.Proofs.Ythfoacgdkoijeaa
