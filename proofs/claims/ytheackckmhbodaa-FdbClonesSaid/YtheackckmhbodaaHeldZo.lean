/- Regions that draw their order: a condition that is held till one operation, which waits for all that read, is carried out. No statement is proved here. -/
import Derived.Test.YtheackckmhbodaaRegO
import Derived.Test.YtheackckmhbodaaHeld
namespace Go.Proofs.Ytheackckmhbodaa
open Go.RowKit Go.BigFrame Go.WideShapes Go.ChangeShapes Go.Deep
set_option linter.unusedVariables false
set_option linter.unusedSimpArgs false

section
variable {P : Program} {ops : Array Oper} {Q : Exit → Act → World → Prop} {md : Region.Mode} {S : World → Prop} {z : Nat}
/-- Whatever order is picked: S holds behind every operation that is carried out, till number z is. -/
def wpAnyZ (P : Program) (md : Region.Mode) (ops : Array Oper) (Q : Exit → Act → World → Prop) (S : World → Prop) (z : Nat) : Nat → Array Bool → Act → World → Prop
  | 0, listed, a, w => Region.ready md ops listed = [] ∧ Q .normal a w
  | fuel + 1, listed, a, w =>
    (Region.ready md ops listed = [] → Q .normal a w) ∧
    ∀ i ∈ Region.ready md ops listed, wpOp P ops Q i (fun a' w' => ((listed.setIfInBounds i true).getD z true = false → S w') ∧ wpAnyZ P md ops Q S z fuel (listed.setIfInBounds i true) a' w') a w

theorem wpAny_of_z : ∀ (fuel : Nat) (listed : Array Bool) (a : Act) (w : World), wpAnyZ P md ops Q S z fuel listed a w → wpAny P md ops Q fuel listed a w
  | 0, _, _, _, h => h
  | fuel + 1, _, _, _, h => ⟨h.1, fun i hi => wpOp_mono (fun a' w' h' => wpAny_of_z fuel _ a' w' h'.2) (h.2 i hi)⟩

theorem getD_set_z (L : Array Bool) (i : Nat) (h : L.getD z true = true) : (L.setIfInBounds i true).getD z true = true := by
  by_cases hz : i = z
  · subst hz
    by_cases hl : i < L.size
    · simp [Array.getD, hl]
    · simp [Array.getD, hl]
  · rw [getD_set_ne true hz]; exact h

/-- Behind number z nothing is held. -/
theorem wpAnyZ_of_H : ∀ (fuel : Nat) (listed : Array Bool) (a : Act) (w : World), listed.getD z true = true → wpAnyH P md ops Q (fun _ => True) fuel listed a w → wpAnyZ P md ops Q S z fuel listed a w
  | 0, _, _, _, _, h => h
  | fuel + 1, listed, _, _, hz, h => ⟨h.1, fun i hi => wpOp_mono (fun a' w' h' => ⟨fun h0 => absurd (getD_set_z listed i hz) (by rw [h0]; decide), wpAnyZ_of_H fuel _ a' w' (getD_set_z listed i hz) h'.2⟩) (h.2 i hi)⟩

theorem wpAnyZ_first {i : Nat} {oi oz : Oper} {v : Value} (hi : ops[i]? = some oi) (hz : ops[z]? = some oz) (hzi : ∃ e ∈ oz.after, Region.binds md e = true ∧ e.on = i) (hne : z ≠ i)
    (hsel : ∀ (j : Nat) (o : Oper) cs b, ops[j]? = some o → o.op ≠ .select cs b) (hQ : ∀ c a w, Q (.panic c) (a.put oi.dst v) w → Q (.panic c) a w) :
    ∀ (fuel : Nat) (listed : Array Bool) (a : Act) (w : World), listed.getD z true = false →
      (∀ j oj, ops[j]? = some oj → j ≠ i → listed.getD j true = false → (∀ e ∈ oj.after, Region.binds md e = true → e.on ≠ i) → oi.apart ops oj = true) →
      i ∈ Region.ready md ops listed → YieldsIf P ops S oi v a → S w →
      wpAnyZ P md ops Q S z fuel (listed.setIfInBounds i true) (a.put oi.dst v) w → wpAnyZ P md ops Q S z (fuel + 1) listed a w := by
  intro fuel
  induction fuel with
  | zero =>
    intro listed a w _ _ hr hy hS H
    refine ⟨fun h => (by rw [h] at hr; cases hr), fun j hj => ?_⟩
    by_cases hji : j = i
    · subst hji; exact hy.wpOp hi hS ⟨fun _ => hS, H⟩
    · have := ready_mono hj hji
      rw [H.1] at this
      cases this
  | succ fuel ih =>
    intro listed a w hzl hfree hr hy hS H
    refine ⟨fun h => (by rw [h] at hr; cases hr), fun j hj => ?_⟩
    by_cases hji : j = i
    · subst hji; exact hy.wpOp hi hS ⟨fun _ => hS, H⟩
    · have h1 := H.2 j (ready_mono hj hji)
      obtain ⟨hjun, oj, hoj, hall⟩ := mem_ready.1 hj
      have hnot : ∀ e ∈ oj.after, Region.binds md e = true → e.on ≠ i := fun e he hb heq => by
        have h1 := hall e he hb
        have h0 := (mem_ready.1 hr).1
        rw [heq] at h1
        rcases Nat.lt_or_ge i listed.size with h' | h'
        · simp [h'] at h0 h1; rw [h0] at h1; cases h1
        · simp [Array.getElem?_eq_none h'] at h1
      have hjz : j ≠ z := fun e => by
        subst e
        obtain ⟨e, he, hb, hon⟩ := hzi
        rw [hoj] at hz
        cases hz
        exact hnot e he hb hon
      have h2 := wpOp_putIf hoj (hfree j oj hoj hji hjun hnot) (fun cs b => hsel i oi cs b hi) (fun cs b => hsel j oj cs b hoj) hQ hy h1
      have hfree' : ∀ k ok, ops[k]? = some ok → k ≠ i → (listed.setIfInBounds j true).getD k true = false →
          (∀ e ∈ ok.after, Region.binds md e = true → e.on ≠ i) → oi.apart ops ok = true := fun k ok hk hki hun hno => by
        refine hfree k ok hk hki ?_ hno
        by_cases hjk : j = k
        · subst hjk; exact hjun
        · rw [getD_set_ne true hjk] at hun; exact hun
      have hzj : (listed.setIfInBounds j true).getD z true = false := by rw [getD_set_ne true hjz]; exact hzl
      have hzij : ((listed.setIfInBounds i true).setIfInBounds j true).getD z true = false := by rw [getD_set_ne true hjz, getD_set_ne true (Ne.symm hne)]; exact hzl
      refine wpOp_mono (fun a' w' h3 => ⟨fun _ => h3.2.1 hzij, ih (listed.setIfInBounds j true) a' w' hzj hfree' (ready_mono hr (Ne.symm hji)) h3.1 (h3.2.1 hzij) ?_⟩) h2
      rw [Array.setIfInBounds_comm _ _ hji]
      exact h3.2.2
end
theorem beginZ {P : Program} {Q : Exit → Act → World → Prop} {S : World → Prop} {id : Nat} {ops : Array Oper} {a : Act} {w : World} (z : Nat) (hm : P.follows .mixedOrders = true)
    (h : ∀ wd : World, Ext w wd → wpAnyZ P .any ops Q S z ops.size (Array.replicate ops.size false) a wd) : (Code.region id ops true).wp P Q a w :=
  wp_region_any hm (wpAny_of_z _ _ _ _ (h w.drew (Ext.refl w).drew))
theorem at_drop {l rest : List Oper} {i : Nat} {o : Oper} (hi : l.drop i = o :: rest) : l.toArray[i]? = some o := by
  have e : (l.drop i)[0]? = some o := by rw [hi]; rfl
  rw [List.getElem?_drop, Nat.add_zero] at e
  simpa using e
theorem takeZ {P : Program} {md : Region.Mode} {Q : Exit → Act → World → Prop} {S : World → Prop} {l rest rz : List Oper} {i z : Nat} {oi oz : Oper} {v : Value} {fuel : Nat} {listed : Array Bool} {a : Act} {w : World} (hi : l.drop i = oi :: rest) (hz : l.drop z = oz :: rz)
    (hzi : (oz.after.toList.any fun e => Region.binds md e && e.on == i) = true) (hne : (z == i) = false) (hzl : listed.getD z true = false)
    (hs : Region.noSelect l.toArray = true) (hf : Region.free md l.toArray listed i = true) (hr : (Region.ready md l.toArray listed).contains i = true)
    (hQ : ∀ c a w, Q (.panic c) (a.put oi.dst v) w → Q (.panic c) a w) (hy : YieldsIf P l.toArray S oi v a) (hS : S w)
    (h : wpAnyZ P md l.toArray Q S z fuel (listed.setIfInBounds i true) (a.put oi.dst v) w) : wpAnyZ P md l.toArray Q S z (fuel + 1) listed a w := by
  refine wpAnyZ_first (at_drop hi) (at_drop hz) ?_ (by simpa using hne) (Region.noSelect_spec hs) hQ fuel listed a w hzl (Region.free_spec (at_drop hi) hf) (by simpa using hr) hy hS h
  obtain ⟨e, he, h2⟩ := List.any_eq_true.1 hzi
  simp only [Bool.and_eq_true, beq_iff_eq] at h2
  exact ⟨e, by simpa using he, h2.1, h2.2⟩
theorem runZ {P : Program} {md : Region.Mode} {Q : Exit → Act → World → Prop} {S : World → Prop} {l rest : List Oper} {i z : Nat} {oi : Oper} {fuel : Nat} {listed : Array Bool} {a : Act} {w : World} (hi : l.drop i = oi :: rest)
    (hg : oi.guard = none) (hr : Region.ready md l.toArray listed = [i])
    (h : ∀ K' : Act → World → Prop, Shut (∀ a w, S w → (S w → wpAnyZ P md l.toArray Q S z fuel (listed.setIfInBounds i true) a w) → K' a w) → Oper.wp P oi a w K' Q) : wpAnyZ P md l.toArray Q S z (fuel + 1) listed a w := by
  refine ⟨fun h0 => absurd (hr ▸ h0) (by simp), fun j hj => ?_⟩
  rw [hr] at hj
  obtain rfl : j = i := by simpa using hj
  unfold wpOp
  simp only [at_drop hi]
  rw [if_pos (by simp [Region.wanted, hg])]
  exact .inl (h _ (show ∀ a w, _ from fun a w hS hK => ⟨fun _ => hS, hK hS⟩))
/-- Number z itself: nothing is held behind it. -/
theorem runZl {P : Program} {md : Region.Mode} {Q : Exit → Act → World → Prop} {S : World → Prop} {l rest : List Oper} {z : Nat} {oz : Oper} {fuel : Nat} {listed : Array Bool} {a : Act} {w : World} (hi : l.drop z = oz :: rest)
    (hg : oz.guard = none) (hr : Region.ready md l.toArray listed = [z])
    (h : ∀ K' : Act → World → Prop, Shut (∀ a w, wpAnyH P md l.toArray Q (fun _ => True) fuel (listed.setIfInBounds z true) a w → K' a w) → Oper.wp P oz a w K' Q) : wpAnyZ P md l.toArray Q S z (fuel + 1) listed a w := by
  refine ⟨fun h0 => absurd (hr ▸ h0) (by simp), fun j hj => ?_⟩
  rw [hr] at hj
  obtain rfl : j = z := by simpa using hj
  have hz : (listed.setIfInBounds j true).getD j true = true := by
    by_cases hl : j < listed.size
    · simp [Array.getD, hl]
    · simp [Array.getD, hl]
  unfold wpOp
  simp only [at_drop hi]
  rw [if_pos (by simp [Region.wanted, hg])]
  exact .inl (h _ (show ∀ a w, _ from fun a w hK => ⟨fun h0 => absurd hz (by rw [h0]; decide), wpAnyZ_of_H _ _ _ _ hz hK⟩))

end Go.Proofs.Ytheackckmhbodaa
