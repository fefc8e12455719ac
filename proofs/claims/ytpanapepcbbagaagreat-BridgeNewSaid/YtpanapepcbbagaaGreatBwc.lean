/- Part 3 of what BridgeNew stands on. No statement is proved here. -/
import Derived.Laws.StructEq
import Derived.Deep.RegionHeld3
import Derived.Test.YtpanapepcbbagaaGreatBwb
namespace Go.Proofs.YtpanapepcbbagaaGreat
open Go.RowKit Go.BigFrame Go.WideShapes Go.ChangeShapes Go.Deep
set_option linter.unusedVariables false
set_option linter.unusedSimpArgs false
section
variable {P : Program} {ops : Array Oper} {Q : Exit → Act → World → Prop} {md : Region.Mode} {S S2 : World → Prop} {z : Nat}
/-- Whatever order is picked: S2 holds behind every operation, S till number z is carried out. -/
def wpAnyW (P : Program) (md : Region.Mode) (ops : Array Oper) (Q : Exit → Act → World → Prop) (S S2 : World → Prop) (z : Nat) : Nat → Array Bool → Act → World → Prop
  | 0, listed, a, w => Region.ready md ops listed = [] ∧ Q .normal a w
  | fuel + 1, listed, a, w =>
    (Region.ready md ops listed = [] → Q .normal a w) ∧
    ∀ i ∈ Region.ready md ops listed, wpOp P ops Q i (fun a' w' => (S2 w' ∧ ((listed.setIfInBounds i true).getD z true = false → S w')) ∧ wpAnyW P md ops Q S S2 z fuel (listed.setIfInBounds i true) a' w') a w
theorem wpAny_of_w : ∀ (fuel : Nat) (listed : Array Bool) (a : Act) (w : World), wpAnyW P md ops Q S S2 z fuel listed a w → wpAny P md ops Q fuel listed a w
  | 0, _, _, _, h => h
  | fuel + 1, _, _, _, h => ⟨h.1, fun i hi => wpOp_mono (fun a' w' h' => wpAny_of_w fuel _ a' w' h'.2) (h.2 i hi)⟩
theorem wpAnyW_of_H : ∀ (fuel : Nat) (listed : Array Bool) (a : Act) (w : World), listed.getD z true = true → wpAnyH P md ops Q S2 fuel listed a w → wpAnyW P md ops Q S S2 z fuel listed a w
  | 0, _, _, _, _, h => h
  | fuel + 1, listed, _, _, hz, h => ⟨h.1, fun i hi => wpOp_mono (fun a' w' h' => ⟨⟨h'.1, fun h0 => absurd (getD_set_z listed i hz) (by rw [h0]; decide)⟩, wpAnyW_of_H fuel _ a' w' (getD_set_z listed i hz) h'.2⟩) (h.2 i hi)⟩
theorem wpAnyW_first {i : Nat} {oi oz : Oper} {v : Value} (hi : ops[i]? = some oi) (hz : ops[z]? = some oz) (hzi : ∃ e ∈ oz.after, Region.binds md e = true ∧ e.on = i) (hne : z ≠ i)
    (hsel : ∀ (j : Nat) (o : Oper) cs b, ops[j]? = some o → o.op ≠ .select cs b) (hQ : ∀ c a w, Q (.panic c) (a.put oi.dst v) w → Q (.panic c) a w) :
    ∀ (fuel : Nat) (listed : Array Bool) (a : Act) (w : World), listed.getD z true = false →
      (∀ j oj, ops[j]? = some oj → j ≠ i → listed.getD j true = false → (∀ e ∈ oj.after, Region.binds md e = true → e.on ≠ i) → oi.apart ops oj = true) →
      i ∈ Region.ready md ops listed → YieldsIf P ops S oi v a → S w → S2 w →
      wpAnyW P md ops Q S S2 z fuel (listed.setIfInBounds i true) (a.put oi.dst v) w → wpAnyW P md ops Q S S2 z (fuel + 1) listed a w := by
  intro fuel
  induction fuel with
  | zero =>
    intro listed a w _ _ hr hy hS h2 H
    refine ⟨fun h => (by rw [h] at hr; cases hr), fun j hj => ?_⟩
    by_cases hji : j = i
    · subst hji; exact hy.wpOp hi hS ⟨⟨h2, fun _ => hS⟩, H⟩
    · have := ready_mono hj hji
      rw [H.1] at this
      cases this
  | succ fuel ih =>
    intro listed a w hzl hfree hr hy hS hS2 H
    refine ⟨fun h => (by rw [h] at hr; cases hr), fun j hj => ?_⟩
    by_cases hji : j = i
    · subst hji; exact hy.wpOp hi hS ⟨⟨hS2, fun _ => hS⟩, H⟩
    · have h1 := H.2 j (ready_mono hj hji)
      obtain ⟨hjun, oj, hoj, hall⟩ := mem_ready.1 hj
      have hnot : ∀ e ∈ oj.after, Region.binds md e = true → e.on ≠ i := fun e he hb heq => by
        have h1 := hall e he hb
        have h0 := (mem_ready.1 hr).1
        rw [heq] at h1
        rcases Nat.lt_or_ge i listed.size with h' | h'
        · simp [h'] at h0 h1; rw [h0] at h1; cases h1
        · simp [Array.getElem?_eq_none h'] at h1
      have hjz : j ≠ z := fun e => by
        subst e
        obtain ⟨e, he, hb, hon⟩ := hzi
        rw [hoj] at hz
        cases hz
        exact hnot e he hb hon
      have h2 := wpOp_putIf hoj (hfree j oj hoj hji hjun hnot) (fun cs b => hsel i oi cs b hi) (fun cs b => hsel j oj cs b hoj) hQ hy h1
      have hfree' : ∀ k ok, ops[k]? = some ok → k ≠ i → (listed.setIfInBounds j true).getD k true = false →
          (∀ e ∈ ok.after, Region.binds md e = true → e.on ≠ i) → oi.apart ops ok = true := fun k ok hk hki hun hno => by
        refine hfree k ok hk hki ?_ hno
        by_cases hjk : j = k
        · subst hjk; exact hjun
        · rw [getD_set_ne true hjk] at hun; exact hun
      have hzj : (listed.setIfInBounds j true).getD z true = false := by rw [getD_set_ne true hjz]; exact hzl
      have hzij : ((listed.setIfInBounds i true).setIfInBounds j true).getD z true = false := by rw [getD_set_ne true hjz, getD_set_ne true (Ne.symm hne)]; exact hzl
      refine wpOp_mono (fun a' w' h3 => ⟨⟨h3.2.1.1, fun _ => h3.2.1.2 hzij⟩, ih (listed.setIfInBounds j true) a' w' hzj hfree' (ready_mono hr (Ne.symm hji)) h3.1 (h3.2.1.2 hzij) h3.2.1.1 ?_⟩) h2
      rw [Array.setIfInBounds_comm _ _ hji]
      exact h3.2.2
/-- What is read under the weaker condition may come at any time. -/
theorem wpAnyW_firstB {i : Nat} {oi : Oper} {v : Value} (hi : ops[i]? = some oi) (hne : z ≠ i)
    (hsel : ∀ (j : Nat) (o : Oper) cs b, ops[j]? = some o → o.op ≠ .select cs b) (hQ : ∀ c a w, Q (.panic c) (a.put oi.dst v) w → Q (.panic c) a w) :
    ∀ (fuel : Nat) (listed : Array Bool) (a : Act) (w : World),
      (∀ j oj, ops[j]? = some oj → j ≠ i → listed.getD j true = false → (∀ e ∈ oj.after, Region.binds md e = true → e.on ≠ i) → oi.apart ops oj = true) →
      i ∈ Region.ready md ops listed → YieldsIf P ops S2 oi v a → S2 w → (listed.getD z true = false → S w) →
      wpAnyW P md ops Q S S2 z fuel (listed.setIfInBounds i true) (a.put oi.dst v) w → wpAnyW P md ops Q S S2 z (fuel + 1) listed a w := by
  intro fuel
  induction fuel with
  | zero =>
    intro listed a w _ hr hy h2 hS H
    refine ⟨fun h => (by rw [h] at hr; cases hr), fun j hj => ?_⟩
    by_cases hji : j = i
    · subst hji; exact hy.wpOp hi h2 ⟨⟨h2, fun h0 => hS (by rw [getD_set_ne true (Ne.symm hne)] at h0; exact h0)⟩, H⟩
    · have := ready_mono hj hji
      rw [H.1] at this
      cases this
  | succ fuel ih =>
    intro listed a w hfree hr hy hS2 hS H
    refine ⟨fun h => (by rw [h] at hr; cases hr), fun j hj => ?_⟩
    by_cases hji : j = i
    · subst hji; exact hy.wpOp hi hS2 ⟨⟨hS2, fun h0 => hS (by rw [getD_set_ne true (Ne.symm hne)] at h0; exact h0)⟩, H⟩
    · have h1 := H.2 j (ready_mono hj hji)
      obtain ⟨hjun, oj, hoj, hall⟩ := mem_ready.1 hj
      have hnot : ∀ e ∈ oj.after, Region.binds md e = true → e.on ≠ i := fun e he hb heq => by
        have h1 := hall e he hb
        have h0 := (mem_ready.1 hr).1
        rw [heq] at h1
        rcases Nat.lt_or_ge i listed.size with h' | h'
        · simp [h'] at h0 h1; rw [h0] at h1; cases h1
        · simp [Array.getElem?_eq_none h'] at h1
      have h2 := wpOp_putIf hoj (hfree j oj hoj hji hjun hnot) (fun cs b => hsel i oi cs b hi) (fun cs b => hsel j oj cs b hoj) hQ hy h1
      have hfree' : ∀ k ok, ops[k]? = some ok → k ≠ i → (listed.setIfInBounds j true).getD k true = false →
          (∀ e ∈ ok.after, Region.binds md e = true → e.on ≠ i) → oi.apart ops ok = true := fun k ok hk hki hun hno => by
        refine hfree k ok hk hki ?_ hno
        by_cases hjk : j = k
        · subst hjk; exact hjun
        · rw [getD_set_ne true hjk] at hun; exact hun
      have hcom : ((listed.setIfInBounds i true).setIfInBounds j true).getD z true = (listed.setIfInBounds j true).getD z true := by
        rw [Array.setIfInBounds_comm _ _ (Ne.symm hji), getD_set_ne true (Ne.symm hne)]
      refine wpOp_mono (fun a' w' h3 => ⟨⟨h3.2.1.1, fun h0 => h3.2.1.2 (hcom.trans h0)⟩, ih (listed.setIfInBounds j true) a' w' hfree' (ready_mono hr (Ne.symm hji)) h3.1 h3.2.1.1 (fun h0 => h3.2.1.2 (hcom.trans h0)) ?_⟩) h2
      rw [Array.setIfInBounds_comm _ _ hji]
      exact h3.2.2
end
theorem beginW {P : Program} {Q : Exit → Act → World → Prop} {S S2 : World → Prop} {id : Nat} {ops : Array Oper} {a : Act} {w : World} (z : Nat) (hm : P.follows .mixedOrders = true)
    (h : ∀ wd : World, Ext w wd → wpAnyW P .any ops Q S S2 z ops.size (Array.replicate ops.size false) a wd) : (Code.region id ops true).wp P Q a w :=
  wp_region_any hm (wpAny_of_w _ _ _ _ (h w.drew (Ext.refl w).drew))
theorem takeW {P : Program} {md : Region.Mode} {Q : Exit → Act → World → Prop} {S S2 : World → Prop} {l rest rz : List Oper} {i z : Nat} {oi oz : Oper} {v : Value} {fuel : Nat} {listed : Array Bool} {a : Act} {w : World} (hi : l.drop i = oi :: rest) (hz : l.drop z = oz :: rz)
    (hzi : (oz.after.toList.any fun e => Region.binds md e && e.on == i) = true) (hne : (z == i) = false) (hzl : listed.getD z true = false)
    (hs : Region.noSelect l.toArray = true) (hf : Region.free md l.toArray listed i = true) (hr : (Region.ready md l.toArray listed).contains i = true)
    (hQ : ∀ c a w, Q (.panic c) (a.put oi.dst v) w → Q (.panic c) a w) (hy : YieldsIf P l.toArray S oi v a) (hS : S w) (hS2 : S2 w)
    (h : wpAnyW P md l.toArray Q S S2 z fuel (listed.setIfInBounds i true) (a.put oi.dst v) w) : wpAnyW P md l.toArray Q S S2 z (fuel + 1) listed a w := by
  refine wpAnyW_first (at_drop hi) (at_drop hz) ?_ (by simpa using hne) (Region.noSelect_spec hs) hQ fuel listed a w hzl (Region.free_spec (at_drop hi) hf) (by simpa using hr) hy hS hS2 h
  obtain ⟨e, he, h2⟩ := List.any_eq_true.1 hzi
  simp only [Bool.and_eq_true, beq_iff_eq] at h2
  exact ⟨e, by simpa using he, h2.1, h2.2⟩
theorem takeWb {P : Program} {md : Region.Mode} {Q : Exit → Act → World → Prop} {S S2 : World → Prop} {l rest : List Oper} {i z : Nat} {oi : Oper} {v : Value} {fuel : Nat} {listed : Array Bool} {a : Act} {w : World} (hi : l.drop i = oi :: rest) (hne : (z == i) = false)
    (hs : Region.noSelect l.toArray = true) (hf : Region.free md l.toArray listed i = true) (hr : (Region.ready md l.toArray listed).contains i = true)
    (hQ : ∀ c a w, Q (.panic c) (a.put oi.dst v) w → Q (.panic c) a w) (hy : YieldsIf P l.toArray S2 oi v a) (hS : S w) (hS2 : S2 w)
    (h : wpAnyW P md l.toArray Q S S2 z fuel (listed.setIfInBounds i true) (a.put oi.dst v) w) : wpAnyW P md l.toArray Q S S2 z (fuel + 1) listed a w :=
  wpAnyW_firstB (at_drop hi) (by simpa using hne) (Region.noSelect_spec hs) hQ fuel listed a w (Region.free_spec (at_drop hi) hf) (by simpa using hr) hy hS2 (fun _ => hS) h
/-- A guarded one whose guard let it through. -/
theorem runWG {P : Program} {md : Region.Mode} {Q : Exit → Act → World → Prop} {S S2 : World → Prop} {l rest : List Oper} {i z : Nat} {oi : Oper} {fuel : Nat} {listed : Array Bool} {a : Act} {w : World} (hi : l.drop i = oi :: rest)
    (hg : Region.wanted oi (yielded l.toArray a.tmps) = true) (hr : Region.ready md l.toArray listed = [i]) (h12 : ∀ w, S w → S2 w)
    (h : ∀ K' : Act → World → Prop, Shut (∀ a w, S w → (S w → wpAnyW P md l.toArray Q S S2 z fuel (listed.setIfInBounds i true) a w) → K' a w) → Oper.wp P oi a w K' Q) : wpAnyW P md l.toArray Q S S2 z (fuel + 1) listed a w := by
  refine ⟨fun h0 => absurd (hr ▸ h0) (by simp), fun j hj => ?_⟩
  rw [hr] at hj
  obtain rfl : j = i := by simpa using hj
  unfold wpOp
  simp only [at_drop hi]
  rw [if_pos hg]
  exact .inl (h _ (show ∀ a w, _ from fun a w hS hK => ⟨⟨h12 w hS, fun _ => hS⟩, hK hS⟩))
/-- Number z itself. -/
theorem runWl {P : Program} {md : Region.Mode} {Q : Exit → Act → World → Prop} {S S2 : World → Prop} {l rest : List Oper} {z : Nat} {oz : Oper} {fuel : Nat} {listed : Array Bool} {a : Act} {w : World} (hi : l.drop z = oz :: rest)
    (hg : oz.guard = none) (hr : Region.ready md l.toArray listed = [z])
    (h : ∀ K' : Act → World → Prop, Shut (∀ a w, S2 w → (S2 w → wpAnyH P md l.toArray Q S2 fuel (listed.setIfInBounds z true) a w) → K' a w) → Oper.wp P oz a w K' Q) : wpAnyW P md l.toArray Q S S2 z (fuel + 1) listed a w := by
  refine ⟨fun h0 => absurd (hr ▸ h0) (by simp), fun j hj => ?_⟩
  rw [hr] at hj
  obtain rfl : j = z := by simpa using hj
  have hz : (listed.setIfInBounds j true).getD j true = true := by
    by_cases hl : j < listed.size
    · simp [Array.getD, hl]
    · simp [Array.getD, hl]
  unfold wpOp
  simp only [at_drop hi]
  rw [if_pos (by simp [Region.wanted, hg])]
  exact .inl (h _ (show ∀ a w, _ from fun a w h2 hK => ⟨⟨h2, fun h0 => absurd hz (by rw [h0]; decide)⟩, wpAnyW_of_H _ _ _ _ hz (hK h2)⟩))
end Go.Proofs.YtpanapepcbbagaaGreat
namespace Go.Proofs.YtpanapepcbbagaaGreat
open Go.RowKit Go.BigFrame Go.WideShapes Go.ChangeShapes Go.Deep
set_option linter.unusedVariables false
set_option linter.unusedSimpArgs false
theorem tW {P : Program} {md : Region.Mode} {Q : Exit → Act → World → Prop} {w0 : World} {G o : Nat} {l rest rz : List Oper} {oi oz : Oper} {fuel : Nat} {listed : Array Bool} {a : Act} {w : World} (i z : Nat) (v : Value) (hi : l.drop i = oi :: rest) (hz : l.drop z = oz :: rz)
    (hy : YieldsIf P l.toArray (fun W' => Ext w0 W') oi v a) (hS : Ext w0 w) (h : wpAnyW P md l.toArray Q (fun W' => Ext w0 W') (fun W' => Pm G o w0 W') z fuel (listed.setIfInBounds i true) (a.put oi.dst v) w)
    (hzi : (oz.after.toList.any fun e => Region.binds md e && e.on == i) = true := by kernel_rfl) (hne : (z == i) = false := by kernel_rfl) (hzl : listed.getD z true = false := by kernel_rfl)
    (hs : Region.noSelect l.toArray = true := by kernel_rfl) (hf : Region.free md l.toArray listed i = true := by kernel_rfl) (hr : (Region.ready md l.toArray listed).contains i = true := by kernel_rfl)
    (hQ : ∀ c a w, Q (.panic c) (a.put oi.dst v) w → Q (.panic c) a w := by exact fun _ _ _ h => h) : wpAnyW P md l.toArray Q (fun W' => Ext w0 W') (fun W' => Pm G o w0 W') z (fuel + 1) listed a w := takeW hi hz hzi hne hzl hs hf hr hQ hy hS (hS.pm G o) h
theorem tWp {P : Program} {md : Region.Mode} {Q : Exit → Act → World → Prop} {w0 : World} {G o : Nat} {l rest rz : List Oper} {oi oz : Oper} {fuel : Nat} {listed : Array Bool} {a : Act} {w : World} (i z : Nat) (v : Value) (hi : l.drop i = oi :: rest) (hz : l.drop z = oz :: rz)
    (hS : Ext w0 w) (h : wpAnyW P md l.toArray Q (fun W' => Ext w0 W') (fun W' => Pm G o w0 W') z fuel (listed.setIfInBounds i true) (a.put oi.dst v) w)
    (hzi : (oz.after.toList.any fun e => Region.binds md e && e.on == i) = true := by kernel_rfl) (hne : (z == i) = false := by kernel_rfl) (hzl : listed.getD z true = false := by kernel_rfl)
    (hs : Region.noSelect l.toArray = true := by kernel_rfl) (hf : Region.free md l.toArray listed i = true := by kernel_rfl) (hr : (Region.ready md l.toArray listed).contains i = true := by kernel_rfl)
    (hQ : ∀ c a w, Q (.panic c) (a.put oi.dst v) w → Q (.panic c) a w := by exact fun _ _ _ h => h) (hy : YieldsIf P l.toArray (fun W' => Ext w0 W') oi v a := by exact Or.inl ⟨rfl, fun _ _ => rfl⟩) : wpAnyW P md l.toArray Q (fun W' => Ext w0 W') (fun W' => Pm G o w0 W') z (fuel + 1) listed a w := takeW hi hz hzi hne hzl hs hf hr hQ hy hS (hS.pm G o) h
theorem tV {P : Program} {md : Region.Mode} {Q : Exit → Act → World → Prop} {w0 : World} {G o : Nat} {l rest : List Oper} {oi : Oper} {fuel : Nat} {listed : Array Bool} {a : Act} {w : World} (i z : Nat) (v : Value) (hi : l.drop i = oi :: rest)
    (hy : YieldsIf P l.toArray (fun W' => Pm G o w0 W') oi v a) (hS : Ext w0 w) (h : wpAnyW P md l.toArray Q (fun W' => Ext w0 W') (fun W' => Pm G o w0 W') z fuel (listed.setIfInBounds i true) (a.put oi.dst v) w)
    (hne : (z == i) = false := by kernel_rfl) (hs : Region.noSelect l.toArray = true := by kernel_rfl) (hf : Region.free md l.toArray listed i = true := by kernel_rfl) (hr : (Region.ready md l.toArray listed).contains i = true := by kernel_rfl)
    (hQ : ∀ c a w, Q (.panic c) (a.put oi.dst v) w → Q (.panic c) a w := by exact fun _ _ _ h => h) : wpAnyW P md l.toArray Q (fun W' => Ext w0 W') (fun W' => Pm G o w0 W') z (fuel + 1) listed a w := takeWb hi hne hs hf hr hQ hy hS (hS.pm G o) h
theorem tVp {P : Program} {md : Region.Mode} {Q : Exit → Act → World → Prop} {w0 : World} {G o : Nat} {l rest : List Oper} {oi : Oper} {fuel : Nat} {listed : Array Bool} {a : Act} {w : World} (i z : Nat) (v : Value) (hi : l.drop i = oi :: rest)
    (hS : Ext w0 w) (h : wpAnyW P md l.toArray Q (fun W' => Ext w0 W') (fun W' => Pm G o w0 W') z fuel (listed.setIfInBounds i true) (a.put oi.dst v) w)
    (hne : (z == i) = false := by kernel_rfl) (hs : Region.noSelect l.toArray = true := by kernel_rfl) (hf : Region.free md l.toArray listed i = true := by kernel_rfl) (hr : (Region.ready md l.toArray listed).contains i = true := by kernel_rfl)
    (hQ : ∀ c a w, Q (.panic c) (a.put oi.dst v) w → Q (.panic c) a w := by exact fun _ _ _ h => h) (hy : YieldsIf P l.toArray (fun W' => Pm G o w0 W') oi v a := by exact Or.inl ⟨rfl, fun _ _ => rfl⟩) : wpAnyW P md l.toArray Q (fun W' => Ext w0 W') (fun W' => Pm G o w0 W') z (fuel + 1) listed a w := takeWb hi hne hs hf hr hQ hy hS (hS.pm G o) h
end Go.Proofs.YtpanapepcbbagaaGreat
namespace Go.Proofs.YtpanapepcbbagaaGreat
open Go.RowKit
set_option linter.unusedVariables false
set_option linter.unusedSimpArgs false
theorem low_nat (n b : Nat) (w : World) (hn : n < 18446744073709551616) (hb : b < 64) :
    Calls Tryz.prog 180 #[.int .u64 n, .int .u64 b] w fun e w' => e = .returned (.int .u64 ((n % 2 ^ b : Nat) : Int)) ∧ w = w' := by
  have hm := and_mask n b hn hb
  go_enter Tryz.func180, Tryz.ntmps180
  go_wp2
  go_ret
  refine ⟨?_, rfl⟩
  show Ending.returned (Value.int .u64 _) = _
  exact congrArg (fun x => Ending.returned (.int .u64 x)) (by simp)
theorem addr_any (x : Int) (w : World) (h2 : 0 ≤ x) (h3 : x < 18446744073709551616) :
    Calls Tryz.prog 162 #[.int .u64 x] w fun e w' => e = .returned (.int .u64 (x % 281474976710656)) ∧ w = w' := by
  obtain ⟨x, rfl⟩ := Int.eq_ofNat_of_zero_le h2
  go_enter Tryz.func162, Tryz.ntmps162
  go_wp2_with fail
  refine (low_nat x 48 _ (by omega) (by decide)).mono ?_
  rintro e w1 ⟨rfl, rfl⟩
  go_wp2
  go_ret
  exact ⟨retI (by omega), rfl⟩
end Go.Proofs.YtpanapepcbbagaaGreat
namespace Go.Proofs.YtpanapepcbbagaaGreat
open Go.RowKit
set_option linter.unusedVariables false
set_option linter.unusedSimpArgs false
def cmpV (x y : Int) : Int := if x < y then -1 else if y < x then 1 else 0
theorem cmp_u64 (x y : Int) (w : World) : Calls Tryz.prog 181 #[.int .u64 x, .int .u64 y] w fun e w' => e = .returned (.int .i64 (cmpV x y)) ∧ w = w' := by
  have nan : ∀ (z : Int) (w : World), Calls Tryz.prog 186 #[.int .u64 z] w fun e w' => e = .returned (.bool false) ∧ w = w' := fun z w => by
    go_enter Tryz.func186, Tryz.ntmps186
    go_wp2
    go_ret
    exact ⟨retB (by simp), rfl⟩
  have HN := Lib.hid nan
  clear nan
  rcases (show x < y ∨ y < x ∨ x = y by omega) with h | h | h
  · refine asi (x := -1) ?_ (by simp [cmpV, h])
    go_enter Tryz.func181, Tryz.ntmps181
    go_wp2_with fail
    refine (HN.out _ _).mono ?_
    rintro e w1 ⟨rfl, rfl⟩
    go_wp2_with fail
    refine (HN.out _ _).mono ?_
    rintro e w1 ⟨rfl, rfl⟩
    go_wp2
    go_ret
    exact ⟨rfl, rfl⟩
  · refine asi (x := 1) ?_ (by simp [cmpV, h]; omega)
    go_enter Tryz.func181, Tryz.ntmps181
    go_wp2_with fail
    refine (HN.out _ _).mono ?_
    rintro e w1 ⟨rfl, rfl⟩
    go_wp2_with fail
    refine (HN.out _ _).mono ?_
    rintro e w1 ⟨rfl, rfl⟩
    go_wp2
    go_ret
    exact ⟨rfl, rfl⟩
  · subst h
    refine asi (x := 0) ?_ (by simp [cmpV])
    go_enter Tryz.func181, Tryz.ntmps181
    go_wp2_with fail
    refine (HN.out _ _).mono ?_
    rintro e w1 ⟨rfl, rfl⟩
    go_wp2_with fail
    refine (HN.out _ _).mono ?_
    rintro e w1 ⟨rfl, rfl⟩
    go_wp2
    go_ret
    exact ⟨rfl, rfl⟩
theorem cmp_u32 (x y : Int) (w : World) : Calls Tryz.prog 182 #[.int .u32 x, .int .u32 y] w fun e w' => e = .returned (.int .i64 (cmpV x y)) ∧ w = w' := by
  have nan : ∀ (z : Int) (w : World), Calls Tryz.prog 187 #[.int .u32 z] w fun e w' => e = .returned (.bool false) ∧ w = w' := fun z w => by
    go_enter Tryz.func187, Tryz.ntmps187
    go_wp2
    go_ret
    exact ⟨retB (by simp), rfl⟩
  have HN := Lib.hid nan
  clear nan
  rcases (show x < y ∨ y < x ∨ x = y by omega) with h | h | h
  · refine asi (x := -1) ?_ (by simp [cmpV, h])
    go_enter Tryz.func182, Tryz.ntmps182
    go_wp2_with fail
    refine (HN.out _ _).mono ?_
    rintro e w1 ⟨rfl, rfl⟩
    go_wp2_with fail
    refine (HN.out _ _).mono ?_
    rintro e w1 ⟨rfl, rfl⟩
    go_wp2
    go_ret
    exact ⟨rfl, rfl⟩
  · refine asi (x := 1) ?_ (by simp [cmpV, h]; omega)
    go_enter Tryz.func182, Tryz.ntmps182
    go_wp2_with fail
    refine (HN.out _ _).mono ?_
    rintro e w1 ⟨rfl, rfl⟩
    go_wp2_with fail
    refine (HN.out _ _).mono ?_
    rintro e w1 ⟨rfl, rfl⟩
    go_wp2
    go_ret
    exact ⟨rfl, rfl⟩
  · subst h
    refine asi (x := 0) ?_ (by simp [cmpV])
    go_enter Tryz.func182, Tryz.ntmps182
    go_wp2_with fail
    refine (HN.out _ _).mono ?_
    rintro e w1 ⟨rfl, rfl⟩
    go_wp2_with fail
    refine (HN.out _ _).mono ?_
    rintro e w1 ⟨rfl, rfl⟩
    go_wp2
    go_ret
    exact ⟨rfl, rfl⟩
theorem cmp_u16 (x y : Int) (w : World) : Calls Tryz.prog 183 #[.int .u16 x, .int .u16 y] w fun e w' => e = .returned (.int .i64 (cmpV x y)) ∧ w = w' := by
  have nan : ∀ (z : Int) (w : World), Calls Tryz.prog 188 #[.int .u16 z] w fun e w' => e = .returned (.bool false) ∧ w = w' := fun z w => by
    go_enter Tryz.func188, Tryz.ntmps188
    go_wp2
    go_ret
    exact ⟨retB (by simp), rfl⟩
  have HN := Lib.hid nan
  clear nan
  rcases (show x < y ∨ y < x ∨ x = y by omega) with h | h | h
  · refine asi (x := -1) ?_ (by simp [cmpV, h])
    go_enter Tryz.func183, Tryz.ntmps183
    go_wp2_with fail
    refine (HN.out _ _).mono ?_
    rintro e w1 ⟨rfl, rfl⟩
    go_wp2_with fail
    refine (HN.out _ _).mono ?_
    rintro e w1 ⟨rfl, rfl⟩
    go_wp2
    go_ret
    exact ⟨rfl, rfl⟩
  · refine asi (x := 1) ?_ (by simp [cmpV, h]; omega)
    go_enter Tryz.func183, Tryz.ntmps183
    go_wp2_with fail
    refine (HN.out _ _).mono ?_
    rintro e w1 ⟨rfl, rfl⟩
    go_wp2_with fail
    refine (HN.out _ _).mono ?_
    rintro e w1 ⟨rfl, rfl⟩
    go_wp2
    go_ret
    exact ⟨rfl, rfl⟩
  · subst h
    refine asi (x := 0) ?_ (by simp [cmpV])
    go_enter Tryz.func183, Tryz.ntmps183
    go_wp2_with fail
    refine (HN.out _ _).mono ?_
    rintro e w1 ⟨rfl, rfl⟩
    go_wp2_with fail
    refine (HN.out _ _).mono ?_
    rintro e w1 ⟨rfl, rfl⟩
    go_wp2
    go_ret
    exact ⟨rfl, rfl⟩
theorem part_root (r c b p x r' c' b' p' x' : Int) (w : World) : Calls Tryz.prog 164 #[.agg #[.int .u64 r, .int .u32 c, .int .u64 b, .int .u16 p, .int .u16 x], .agg #[.int .u64 r', .int .u32 c', .int .u64 b', .int .u16 p', .int .u16 x']] w fun e w' => e = .returned (.int .i64 (cmpV r r')) ∧ Ext w w' := by
  go_enter Tryz.func164, Tryz.ntmps164
  go_wp2_with fail
  refine (cmp_u64 _ _ _).mono ?_
  rintro e w1 ⟨rfl, rfl⟩
  go_wp2
  go_ret
  exact ⟨rfl, ((Ext.refl w).alloc _).alloc _⟩
theorem part_cost (r c b p x r' c' b' p' x' : Int) (w : World) : Calls Tryz.prog 165 #[.agg #[.int .u64 r, .int .u32 c, .int .u64 b, .int .u16 p, .int .u16 x], .agg #[.int .u64 r', .int .u32 c', .int .u64 b', .int .u16 p', .int .u16 x']] w fun e w' => e = .returned (.int .i64 (cmpV c c')) ∧ Ext w w' := by
  go_enter Tryz.func165, Tryz.ntmps165
  go_wp2_with fail
  refine (cmp_u32 _ _ _).mono ?_
  rintro e w1 ⟨rfl, rfl⟩
  go_wp2
  go_ret
  exact ⟨rfl, ((Ext.refl w).alloc _).alloc _⟩
theorem part_bridge (r c b p x r' c' b' p' x' : Int) (w : World) : Calls Tryz.prog 166 #[.agg #[.int .u64 r, .int .u32 c, .int .u64 b, .int .u16 p, .int .u16 x], .agg #[.int .u64 r', .int .u32 c', .int .u64 b', .int .u16 p', .int .u16 x']] w fun e w' => e = .returned (.int .i64 (cmpV b b')) ∧ Ext w w' := by
  go_enter Tryz.func166, Tryz.ntmps166
  go_wp2_with fail
  refine (cmp_u64 _ _ _).mono ?_
  rintro e w1 ⟨rfl, rfl⟩
  go_wp2
  go_ret
  exact ⟨rfl, ((Ext.refl w).alloc _).alloc _⟩
theorem part_port (r c b p x r' c' b' p' x' : Int) (w : World) : Calls Tryz.prog 167 #[.agg #[.int .u64 r, .int .u32 c, .int .u64 b, .int .u16 p, .int .u16 x], .agg #[.int .u64 r', .int .u32 c', .int .u64 b', .int .u16 p', .int .u16 x']] w fun e w' => e = .returned (.int .i64 (cmpV p p')) ∧ Ext w w' := by
  go_enter Tryz.func167, Tryz.ntmps167
  go_wp2_with fail
  refine (cmp_u16 _ _ _).mono ?_
  rintro e w1 ⟨rfl, rfl⟩
  go_wp2
  go_ret
  exact ⟨rfl, ((Ext.refl w).alloc _).alloc _⟩
theorem part_rx (r c b p x r' c' b' p' x' : Int) (w : World) : Calls Tryz.prog 168 #[.agg #[.int .u64 r, .int .u32 c, .int .u64 b, .int .u16 p, .int .u16 x], .agg #[.int .u64 r', .int .u32 c', .int .u64 b', .int .u16 p', .int .u16 x']] w fun e w' => e = .returned (.int .i64 (cmpV x x')) ∧ Ext w w' := by
  go_enter Tryz.func168, Tryz.ntmps168
  go_wp2_with fail
  refine (cmp_u16 _ _ _).mono ?_
  rintro e w1 ⟨rfl, rfl⟩
  go_wp2
  go_ret
  exact ⟨rfl, ((Ext.refl w).alloc _).alloc _⟩
/-- The first of some numbers that isn't 0. -/
def firstNZ : List Int → Int
  | [] => 0
  | x :: l => if x = 0 then firstNZ l else x
/-- What a call of 'first' keeps: its two boxes. -/
theorem two_held (r c b p x r' c' b' p' x' : Int) {w : World} {t : TypeId} {w' : World} (hx : Ext ((w.alloc (.cells #[.int .u64 r, .int .u32 c, .int .u64 b, .int .u16 p, .int .u16 x] t)).alloc (.cells #[.int .u64 r', .int .u32 c', .int .u64 b', .int .u16 p', .int .u16 x'] t)) w') :
    (w'.cell? ⟨w.heap.size, 0, none⟩ = some (.int .u64 r) ∧ w'.cell? ⟨w.heap.size, 1, none⟩ = some (.int .u32 c) ∧ w'.cell? ⟨w.heap.size, 2, none⟩ = some (.int .u64 b) ∧ w'.cell? ⟨w.heap.size, 3, none⟩ = some (.int .u16 p) ∧ w'.cell? ⟨w.heap.size, 4, none⟩ = some (.int .u16 x)) ∧ (w'.cell? ⟨w.heap.size + 1, 0, none⟩ = some (.int .u64 r') ∧ w'.cell? ⟨w.heap.size + 1, 1, none⟩ = some (.int .u32 c') ∧ w'.cell? ⟨w.heap.size + 1, 2, none⟩ = some (.int .u64 b') ∧ w'.cell? ⟨w.heap.size + 1, 3, none⟩ = some (.int .u16 p') ∧ w'.cell? ⟨w.heap.size + 1, 4, none⟩ = some (.int .u16 x')) := by
  have o : ∀ j, w'.cell? ⟨w.heap.size, j, none⟩ = #[.int .u64 r, .int .u32 c, .int .u64 b, .int .u16 p, .int .u16 x][j]? := fun j => (hx.cell (by simp; omega)).trans ((World.cell?_alloc_past _ _ _ (by simp)).trans (World.cell?_alloc_at _ _ _ _ rfl))
  have n : ∀ j, w'.cell? ⟨w.heap.size + 1, j, none⟩ = #[.int .u64 r', .int .u32 c', .int .u64 b', .int .u16 p', .int .u16 x'][j]? := fun j => (hx.cell (by simp)).trans (World.cell?_alloc_at _ _ _ _ (by simp))
  exact ⟨⟨o 0, o 1, o 2, o 3, o 4⟩, n 0, n 1, n 2, n 3, n 4⟩
set_option maxHeartbeats 3200000 in
theorem first5 (r c b p x r' c' b' p' x' : Int) (S cap : Nat) (w : World) (hS0 : S < w.heap.size)
    (f0 : w.cell? ⟨S, 0, none⟩ = some (.func (.func 164) #[] #[]))
    (f1 : w.cell? ⟨S, 1, none⟩ = some (.func (.func 165) #[] #[]))
    (f2 : w.cell? ⟨S, 2, none⟩ = some (.func (.func 166) #[] #[]))
    (f3 : w.cell? ⟨S, 3, none⟩ = some (.func (.func 167) #[] #[]))
    (f4 : w.cell? ⟨S, 4, none⟩ = some (.func (.func 168) #[] #[])) :
    Calls Tryz.prog 163 #[.agg #[.int .u64 r, .int .u32 c, .int .u64 b, .int .u16 p, .int .u16 x], .agg #[.int .u64 r', .int .u32 c', .int .u64 b', .int .u16 p', .int .u16 x'], .slice (some ⟨S, 0, none⟩) 5 cap] w fun e w' => e = .returned (.int .i64 (firstNZ [cmpV r r', cmpV c c', cmpV b b', cmpV p p', cmpV x x'])) ∧ Ext w w' := by
  have hS := Lib.hid (fun w' (hx : Ext ((w.alloc (.cells #[.int .u64 r, .int .u32 c, .int .u64 b, .int .u16 p, .int .u16 x] 30)).alloc (.cells #[.int .u64 r', .int .u32 c', .int .u64 b', .int .u16 p', .int .u16 x'] 30)) w') => And.intro (two_held r c b p x r' c' b' p' x' hx)
    (show w'.cell? ⟨S, 0, none⟩ = some (.func (.func 164) #[] #[]) ∧ w'.cell? ⟨S, 1, none⟩ = some (.func (.func 165) #[] #[]) ∧ w'.cell? ⟨S, 2, none⟩ = some (.func (.func 166) #[] #[]) ∧ w'.cell? ⟨S, 3, none⟩ = some (.func (.func 167) #[] #[]) ∧ w'.cell? ⟨S, 4, none⟩ = some (.func (.func 168) #[] #[]) from ⟨((((Ext.refl w).alloc _).alloc _).trans hx).cell hS0 |>.trans f0, ((((Ext.refl w).alloc _).alloc _).trans hx).cell hS0 |>.trans f1, ((((Ext.refl w).alloc _).alloc _).trans hx).cell hS0 |>.trans f2, ((((Ext.refl w).alloc _).alloc _).trans hx).cell hS0 |>.trans f3, ((((Ext.refl w).alloc _).alloc _).trans hx).cell hS0 |>.trans f4⟩))
  clear f0 f1 f2 f3 f4
  go_enter Tryz.func163, Tryz.ntmps163
  go_wp2
  generalize hB : (w.alloc (Obj.cells #[Value.int IntKind.u64 r, Value.int IntKind.u32 c, Value.int IntKind.u64 b, Value.int IntKind.u16 p, Value.int IntKind.u16 x] 30)).alloc (Obj.cells #[Value.int IntKind.u64 r', Value.int IntKind.u32 c', Value.int IntKind.u64 b', Value.int IntKind.u16 p', Value.int IntKind.u16 x'] 30) = B at hS ⊢
  have hwB : Ext w B := by rw [← hB]; exact ((Ext.refl w).alloc _).alloc _
  clear hB
  have x0 : Ext B B := Ext.refl B
  have K := hS.out _ x0
  refine wp_loop_rounds 6 ?_
  rw [rounds_succ]
  go_wp2_with fail
  refine (part_root r c b p x r' c' b' p' x' _).mono ?_
  rintro e w1 ⟨rfl, h1⟩
  have x1 : Ext B w1 := x0.trans h1
  clear K
  have K := hS.out _ x1
  by_cases z1 : cmpV r r' = 0
  rotate_left
  · have b1 : (cmpV r r' != 0) = true := by simpa using z1
    have Z := Lib.hid z1
    clear z1
    go_wp2
    go_ret
    exact ⟨retI (by simp [firstNZ, Z.out]), hwB.trans x1⟩
  have b1 : (cmpV r r' != 0) = false := by simpa using z1
  have y1 := Lib.hid z1
  clear z1
  go_wp2
  rw [rounds_succ]
  go_wp2_with fail
  refine (part_cost r c b p x r' c' b' p' x' _).mono ?_
  rintro e w2 ⟨rfl, h2⟩
  have x2 : Ext B w2 := x1.trans h2
  clear K
  have K := hS.out _ x2
  by_cases z2 : cmpV c c' = 0
  rotate_left
  · have b2 : (cmpV c c' != 0) = true := by simpa using z2
    have Z := Lib.hid z2
    clear z2
    go_wp2
    go_ret
    exact ⟨retI (by simp [firstNZ, y1.out, Z.out]), hwB.trans x2⟩
  have b2 : (cmpV c c' != 0) = false := by simpa using z2
  have y2 := Lib.hid z2
  clear z2
  go_wp2
  rw [rounds_succ]
  go_wp2_with fail
  refine (part_bridge r c b p x r' c' b' p' x' _).mono ?_
  rintro e w3 ⟨rfl, h3⟩
  have x3 : Ext B w3 := x2.trans h3
  clear K
  have K := hS.out _ x3
  by_cases z3 : cmpV b b' = 0
  rotate_left
  · have b3 : (cmpV b b' != 0) = true := by simpa using z3
    have Z := Lib.hid z3
    clear z3
    go_wp2
    go_ret
    exact ⟨retI (by simp [firstNZ, y1.out, y2.out, Z.out]), hwB.trans x3⟩
  have b3 : (cmpV b b' != 0) = false := by simpa using z3
  have y3 := Lib.hid z3
  clear z3
  go_wp2
  rw [rounds_succ]
  go_wp2_with fail
  refine (part_port r c b p x r' c' b' p' x' _).mono ?_
  rintro e w4 ⟨rfl, h4⟩
  have x4 : Ext B w4 := x3.trans h4
  clear K
  have K := hS.out _ x4
  by_cases z4 : cmpV p p' = 0
  rotate_left
  · have b4 : (cmpV p p' != 0) = true := by simpa using z4
    have Z := Lib.hid z4
    clear z4
    go_wp2
    go_ret
    exact ⟨retI (by simp [firstNZ, y1.out, y2.out, y3.out, Z.out]), hwB.trans x4⟩
  have b4 : (cmpV p p' != 0) = false := by simpa using z4
  have y4 := Lib.hid z4
  clear z4
  go_wp2
  rw [rounds_succ]
  go_wp2_with fail
  refine (part_rx r c b p x r' c' b' p' x' _).mono ?_
  rintro e w5 ⟨rfl, h5⟩
  have x5 : Ext B w5 := x4.trans h5
  clear K
  have K := hS.out _ x5
  by_cases z5 : cmpV x x' = 0
  rotate_left
  · have b5 : (cmpV x x' != 0) = true := by simpa using z5
    have Z := Lib.hid z5
    clear z5
    go_wp2
    go_ret
    exact ⟨retI (by simp [firstNZ, y1.out, y2.out, y3.out, y4.out, Z.out]), hwB.trans x5⟩
  have b5 : (cmpV x x' != 0) = false := by simpa using z5
  have y5 := Lib.hid z5
  clear z5
  go_wp2
  rw [rounds_succ]
  go_wp2
  go_ret
  exact ⟨retI (by simp [firstNZ, y1.out, y2.out, y3.out, y4.out, y5.out]), hwB.trans x5⟩
set_option maxHeartbeats 3200000 in
theorem first4 (r c b p x r' c' b' p' x' : Int) (S cap : Nat) (w : World) (hS0 : S < w.heap.size)
    (f0 : w.cell? ⟨S, 0, none⟩ = some (.func (.func 164) #[] #[]))
    (f1 : w.cell? ⟨S, 1, none⟩ = some (.func (.func 165) #[] #[]))
    (f2 : w.cell? ⟨S, 2, none⟩ = some (.func (.func 166) #[] #[]))
    (f3 : w.cell? ⟨S, 3, none⟩ = some (.func (.func 167) #[] #[])) :
    Calls Tryz.prog 163 #[.agg #[.int .u64 r, .int .u32 c, .int .u64 b, .int .u16 p, .int .u16 x], .agg #[.int .u64 r', .int .u32 c', .int .u64 b', .int .u16 p', .int .u16 x'], .slice (some ⟨S, 0, none⟩) 4 cap] w fun e w' => e = .returned (.int .i64 (firstNZ [cmpV r r', cmpV c c', cmpV b b', cmpV p p'])) ∧ Ext w w' := by
  have hS := Lib.hid (fun w' (hx : Ext ((w.alloc (.cells #[.int .u64 r, .int .u32 c, .int .u64 b, .int .u16 p, .int .u16 x] 30)).alloc (.cells #[.int .u64 r', .int .u32 c', .int .u64 b', .int .u16 p', .int .u16 x'] 30)) w') => And.intro (two_held r c b p x r' c' b' p' x' hx)
    (show w'.cell? ⟨S, 0, none⟩ = some (.func (.func 164) #[] #[]) ∧ w'.cell? ⟨S, 1, none⟩ = some (.func (.func 165) #[] #[]) ∧ w'.cell? ⟨S, 2, none⟩ = some (.func (.func 166) #[] #[]) ∧ w'.cell? ⟨S, 3, none⟩ = some (.func (.func 167) #[] #[]) from ⟨((((Ext.refl w).alloc _).alloc _).trans hx).cell hS0 |>.trans f0, ((((Ext.refl w).alloc _).alloc _).trans hx).cell hS0 |>.trans f1, ((((Ext.refl w).alloc _).alloc _).trans hx).cell hS0 |>.trans f2, ((((Ext.refl w).alloc _).alloc _).trans hx).cell hS0 |>.trans f3⟩))
  clear f0 f1 f2 f3
  go_enter Tryz.func163, Tryz.ntmps163
  go_wp2
  generalize hB : (w.alloc (Obj.cells #[Value.int IntKind.u64 r, Value.int IntKind.u32 c, Value.int IntKind.u64 b, Value.int IntKind.u16 p, Value.int IntKind.u16 x] 30)).alloc (Obj.cells #[Value.int IntKind.u64 r', Value.int IntKind.u32 c', Value.int IntKind.u64 b', Value.int IntKind.u16 p', Value.int IntKind.u16 x'] 30) = B at hS ⊢
  have hwB : Ext w B := by rw [← hB]; exact ((Ext.refl w).alloc _).alloc _
  clear hB
  have x0 : Ext B B := Ext.refl B
  have K := hS.out _ x0
  refine wp_loop_rounds 5 ?_
  rw [rounds_succ]
  go_wp2_with fail
  refine (part_root r c b p x r' c' b' p' x' _).mono ?_
  rintro e w1 ⟨rfl, h1⟩
  have x1 : Ext B w1 := x0.trans h1
  clear K
  have K := hS.out _ x1
  by_cases z1 : cmpV r r' = 0
  rotate_left
  · have b1 : (cmpV r r' != 0) = true := by simpa using z1
    have Z := Lib.hid z1
    clear z1
    go_wp2
    go_ret
    exact ⟨retI (by simp [firstNZ, Z.out]), hwB.trans x1⟩
  have b1 : (cmpV r r' != 0) = false := by simpa using z1
  have y1 := Lib.hid z1
  clear z1
  go_wp2
  rw [rounds_succ]
  go_wp2_with fail
  refine (part_cost r c b p x r' c' b' p' x' _).mono ?_
  rintro e w2 ⟨rfl, h2⟩
  have x2 : Ext B w2 := x1.trans h2
  clear K
  have K := hS.out _ x2
  by_cases z2 : cmpV c c' = 0
  rotate_left
  · have b2 : (cmpV c c' != 0) = true := by simpa using z2
    have Z := Lib.hid z2
    clear z2
    go_wp2
    go_ret
    exact ⟨retI (by simp [firstNZ, y1.out, Z.out]), hwB.trans x2⟩
  have b2 : (cmpV c c' != 0) = false := by simpa using z2
  have y2 := Lib.hid z2
  clear z2
  go_wp2
  rw [rounds_succ]
  go_wp2_with fail
  refine (part_bridge r c b p x r' c' b' p' x' _).mono ?_
  rintro e w3 ⟨rfl, h3⟩
  have x3 : Ext B w3 := x2.trans h3
  clear K
  have K := hS.out _ x3
  by_cases z3 : cmpV b b' = 0
  rotate_left
  · have b3 : (cmpV b b' != 0) = true := by simpa using z3
    have Z := Lib.hid z3
    clear z3
    go_wp2
    go_ret
    exact ⟨retI (by simp [firstNZ, y1.out, y2.out, Z.out]), hwB.trans x3⟩
  have b3 : (cmpV b b' != 0) = false := by simpa using z3
  have y3 := Lib.hid z3
  clear z3
  go_wp2
  rw [rounds_succ]
  go_wp2_with fail
  refine (part_port r c b p x r' c' b' p' x' _).mono ?_
  rintro e w4 ⟨rfl, h4⟩
  have x4 : Ext B w4 := x3.trans h4
  clear K
  have K := hS.out _ x4
  by_cases z4 : cmpV p p' = 0
  rotate_left
  · have b4 : (cmpV p p' != 0) = true := by simpa using z4
    have Z := Lib.hid z4
    clear z4
    go_wp2
    go_ret
    exact ⟨retI (by simp [firstNZ, y1.out, y2.out, y3.out, Z.out]), hwB.trans x4⟩
  have b4 : (cmpV p p' != 0) = false := by simpa using z4
  have y4 := Lib.hid z4
  clear z4
  go_wp2
  rw [rounds_succ]
  go_wp2
  go_ret
  exact ⟨retI (by simp [firstNZ, y1.out, y2.out, y3.out, y4.out]), hwB.trans x4⟩
theorem vcmp_any (r c b p x r' c' b' p' x' : Int) (w : World) :
    Calls Tryz.prog 136 #[.agg #[.int .u64 r, .int .u32 c, .int .u64 b, .int .u16 p, .int .u16 x], .agg #[.int .u64 r', .int .u32 c', .int .u64 b', .int .u16 p', .int .u16 x']] w fun e w' => e = .returned (.int .i64 (firstNZ [cmpV r r', cmpV c c', cmpV b b', cmpV p p', cmpV x x'])) ∧ Ext w w' := by
  go_enter Tryz.func136, Tryz.ntmps136
  go_wp2_with fail
  refine (first5 r c b p x r' c' b' p' x' _ _ _ (by simp) ?_ ?_ ?_ ?_ ?_).mono ?_
  · exact (World.cell?_alloc_at _ _ _ _ (by simp)).trans rfl
  · exact (World.cell?_alloc_at _ _ _ _ (by simp)).trans rfl
  · exact (World.cell?_alloc_at _ _ _ _ (by simp)).trans rfl
  · exact (World.cell?_alloc_at _ _ _ _ (by simp)).trans rfl
  · exact (World.cell?_alloc_at _ _ _ _ (by simp)).trans rfl
  rintro e w1 ⟨rfl, h1⟩
  go_wp2
  go_ret
  exact ⟨rfl, ((((Ext.refl w).alloc _).alloc _).alloc _).trans h1⟩
theorem vfour_any (r c b p x r' c' b' p' x' : Int) (w : World) :
    Calls Tryz.prog 137 #[.agg #[.int .u64 r, .int .u32 c, .int .u64 b, .int .u16 p, .int .u16 x], .agg #[.int .u64 r', .int .u32 c', .int .u64 b', .int .u16 p', .int .u16 x']] w fun e w' => e = .returned (.int .i64 (firstNZ [cmpV r r', cmpV c c', cmpV b b', cmpV p p'])) ∧ Ext w w' := by
  go_enter Tryz.func137, Tryz.ntmps137
  go_wp2_with fail
  refine (first4 r c b p x r' c' b' p' x' _ _ _ (by simp) ?_ ?_ ?_ ?_).mono ?_
  · exact (World.cell?_alloc_at _ _ _ _ (by simp)).trans rfl
  · exact (World.cell?_alloc_at _ _ _ _ (by simp)).trans rfl
  · exact (World.cell?_alloc_at _ _ _ _ (by simp)).trans rfl
  · exact (World.cell?_alloc_at _ _ _ _ (by simp)).trans rfl
  rintro e w1 ⟨rfl, h1⟩
  go_wp2
  go_ret
  exact ⟨rfl, ((((Ext.refl w).alloc _).alloc _).alloc _).trans h1⟩
end Go.Proofs.YtpanapepcbbagaaGreat
namespace Go.Proofs.YtpanapepcbbagaaGreat
open Go.RowKit
set_option linter.unusedVariables false
set_option linter.unusedSimpArgs false
def c4 (r c b p r' c' b' p' : Int) : Int := firstNZ [cmpV r r', cmpV c c', cmpV b b', cmpV p p']
def c5 (r c b p x r' c' b' p' x' : Int) : Int := firstNZ [cmpV r r', cmpV c c', cmpV b b', cmpV p p', cmpV x x']
theorem c5_c4 (r c b p x r' c' b' p' x' : Int) : c5 r c b p x r' c' b' p' x' = if c4 r c b p r' c' b' p' = 0 then cmpV x x' else c4 r c b p r' c' b' p' := by
  unfold c5 c4
  simp only [firstNZ]
  (repeat' split) <;> simp_all
theorem vbetter_any (r c b p x r' c' b' p' x' : Int) (w : World) : Calls Tryz.prog 63 #[.agg #[.int .u64 r, .int .u32 c, .int .u64 b, .int .u16 p, .int .u16 x], .agg #[.int .u64 r', .int .u32 c', .int .u64 b', .int .u16 p', .int .u16 x']] w fun e w' => e = .returned (.bool (decide (c5 r c b p x r' c' b' p' x' < 0))) ∧ Ext w w' := by
  go_enter Tryz.func63, Tryz.ntmps63
  go_wp2_with fail
  refine (asi (vcmp_any r c b p x r' c' b' p' x' _) (show _ = c5 r c b p x r' c' b' p' x' from rfl)).mono ?_
  rintro e w1 ⟨rfl, h1⟩
  go_wp2
  go_ret
  exact ⟨rfl, (((Ext.refl w).alloc _).alloc _).trans h1⟩
theorem vsame_any (r c b p x r' c' b' p' x' : Int) (w : World) : Calls Tryz.prog 67 #[.agg #[.int .u64 r, .int .u32 c, .int .u64 b, .int .u16 p, .int .u16 x], .agg #[.int .u64 r', .int .u32 c', .int .u64 b', .int .u16 p', .int .u16 x']] w fun e w' => e = .returned (.bool (c4 r c b p r' c' b' p' == 0)) ∧ Ext w w' := by
  go_enter Tryz.func67, Tryz.ntmps67
  go_wp2_with fail
  refine (asi (vfour_any r c b p x r' c' b' p' x' _) (show _ = c4 r c b p r' c' b' p' from rfl)).mono ?_
  rintro e w1 ⟨rfl, h1⟩
  go_wp2
  go_ret
  exact ⟨rfl, (((Ext.refl w).alloc _).alloc _).trans h1⟩
def thr (c q : Int) : Int := if c + q ≤ 4294967295 then c + q else 4294967295
theorem vthrough_any (r c b p x q z : Int) (w : World) (hc : 0 ≤ c ∧ c < 4294967296) (hq : 0 ≤ q ∧ q < 4294967296) :
    Calls Tryz.prog 135 #[.agg #[.int .u64 r, .int .u32 c, .int .u64 b, .int .u16 p, .int .u16 x], .int .u32 q, .int .u16 z] w fun e w' => e = .returned (.agg #[.int .u64 r, .int .u32 (thr c q), .int .u64 b, .int .u16 p, .int .u16 z]) ∧ Ext w w' := by
  obtain ⟨hc0, hc1⟩ := hc
  obtain ⟨hq0, hq1⟩ := hq
  by_cases h : c + q ≤ 4294967295
  · refine asv (v := .agg #[.int .u64 r, .int .u32 (c + q), .int .u64 b, .int .u16 p, .int .u16 z]) ?_ (by simp [thr, h])
    go_enter Tryz.func135, Tryz.ntmps135
    go_wp2
    exact bodyPost_ret (v := .agg #[.int .u64 r, .int .u32 (c + q), .int .u64 b, .int .u16 p, .int .u16 z]) (by simp [results, Tryz.results135, go_sem]) rfl ⟨rfl, ((Ext.refl w).alloc _).alloc _⟩
  · refine asv (v := .agg #[.int .u64 r, .int .u32 4294967295, .int .u64 b, .int .u16 p, .int .u16 z]) ?_ (by simp [thr, h])
    go_enter Tryz.func135, Tryz.ntmps135
    go_wp2
    exact bodyPost_ret (v := .agg #[.int .u64 r, .int .u32 4294967295, .int .u64 b, .int .u16 p, .int .u16 z]) (by simp [results, Tryz.results135, go_sem]) rfl ⟨rfl, ((Ext.refl w).alloc _).alloc _⟩
theorem vown_any (r : Int) (w : World) :
    Calls Tryz.prog 22 #[.int .u64 r] w fun e w' => e = .returned (.agg #[.int .u64 r, .int .u32 0, .int .u64 r, .int .u16 0, .int .u16 0]) ∧ Ext w w' := by
  go_enter Tryz.func22, Tryz.ntmps22
  go_wp2
  exact bodyPost_ret (v := .agg #[.int .u64 r, .int .u32 0, .int .u64 r, .int .u16 0, .int .u16 0]) (by simp [results, Tryz.results22, go_sem]) rfl ⟨rfl, (Ext.refl w).alloc _⟩
end Go.Proofs.YtpanapepcbbagaaGreat
namespace Go.Proofs.YtpanapepcbbagaaGreat
open Go.RowKit Go.BigFrame Go.WideShapes Go.ChangeShapes Go.Deep
set_option linter.unusedVariables false
set_option linter.unusedSimpArgs false
theorem older_any (a m h d : Int) (w : World) (h0 : -9223372036854775808 ≤ a) (h1 : a < 9223372036854775807) :
    Calls Tryz.prog 64 #[.agg #[.int .i64 a, .int .i64 m, .int .i64 h, .int .i64 d]] w fun e w' => e = .returned (.agg #[.int .i64 (a + 1), .int .i64 m, .int .i64 h, .int .i64 d]) ∧ Ext w w' := by
  go_enter Tryz.func64, Tryz.ntmps64
  go_wp2
  exact bodyPost_ret (v := .agg #[.int .i64 (a + 1), .int .i64 m, .int .i64 h, .int .i64 d]) (by simp [results, Tryz.results64, go_sem]) rfl ⟨rfl, ((Ext.refl w).alloc _).alloc _⟩
theorem w64 (n : Int) (h0 : -9223372036854775808 ≤ n) (h1 : n ≤ 9223372036854775807) : wrap64 n = n := by unfold wrap64; omega
end Go.Proofs.YtpanapepcbbagaaGreat
namespace Go.Proofs.YtpanapepcbbagaaGreat
open Go.RowKit Go.BigFrame Go.WideShapes Go.ChangeShapes Go.Deep
set_option linter.unusedVariables false
set_option linter.unusedSimpArgs false
def iask (L : List Value) : List Value := (L.set 43 (.bool true)).set 44 (.bool false)
def iage (L : List Value) : List Value := (iask (L.set 86 (.int .i64 1))).set 18 (.int .i64 1)
theorem ne_b {x y : Int} (h : ¬ x = y) : (x == y) = false := by simpa using h
set_option maxRecDepth 100000 in
set_option maxHeartbeats 1000000 in
theorem inf_ask {w : World} (G o : Nat) (L : List Value) (hP_w : Pv w G o L) (hl : L.length = 89) (rst : Bool) : Calls Tryz.prog 138 #[.agg #[.pointer (some ⟨G, o, none⟩), .bool rst]] w fun e w' => e = .returned (.tuple #[]) ∧ Pv w' G o (iask L) ∧ Pm G o w w' := by
  have hG := hP_w.lt
  have HLEN := Lib.hid hl
  clear hl
  go_enter Tryz.func138, Tryz.ntmps138
  go_wp2_with (first
    | fail
    | ((with_reducible refine at_box 110 ?_); refine bx_row rfl 110 _ rfl #[.pointer (some ⟨G, o, none⟩), .bool rst] rfl ?_
       intro H0 z1 hq hs hx
       have E_z1 : Pm G o w z1 := Ext.pm hx G o
       have hP_z1 : Pv z1 G o L := hP_w.ext hx
       have hH_z1 : z1.heap[H0]? = some (.cells #[.pointer (some ⟨G, o, none⟩), .bool rst] 110 (0, 0)) := hq
       have hb_H0 : w.heap.size ≤ H0 := by omega
       have hn_H0G : H0 ≠ G := by omega
       have rH0_z1 : z1.cell? ⟨H0, 0, none⟩ = some (.pointer (some ⟨G, o, none⟩)) := (cell_of_row _ _ _ _ _ _ hH_z1).trans rfl
       have rH1_z1 : z1.cell? ⟨H0, 1, none⟩ = some (.bool rst) := (cell_of_row _ _ _ _ _ _ hH_z1).trans rfl
       clear hP_w
       clear hq hs hx))
  refine beginW (S := fun W' => Ext z1 W') (S2 := fun W' => Pm G o z1 W') 7 (by kernel_rfl) ?_
  intro wd hqx
  have hq0 : Ext z1 wd := hqx
  refine tWp 0 7 ((.pointer (some ⟨H0, 0, none⟩))) rfl rfl hq0 ?_
  simp only [ps]
  refine tW 1 7 (_) rfl rfl (yieldsIf_cell rfl 79 _ rfl ⟨H0, 0, none⟩ rfl (.pointer (some ⟨G, o, none⟩)) _ (fun W' hW' => (cell_of_row _ _ _ _ _ _ ((hW'.block _ (heap_lt hH_z1)).trans hH_z1)).trans rfl) Tryz.underlying79 rfl) hq0 ?_
  simp only [ps]
  refine tVp 2 7 ((.pointer (some ⟨H0, 0, none⟩))) rfl hq0 ?_
  simp only [ps]
  refine tV 3 7 (_) rfl (yieldsIf_cell rfl 79 _ rfl ⟨H0, 0, none⟩ rfl (.pointer (some ⟨G, o, none⟩)) _ (fun W' hW' => (cell_of_row _ _ _ _ _ _ (Pm.row hW' hH_z1 (show H0 ≠ G by omega))).trans rfl) Tryz.underlying79 rfl) hq0 ?_
  simp only [ps]
  refine tVp 4 7 ((.pointer (some ⟨G, o, none⟩))) rfl hq0 ?_
  simp only [ps]
  refine tVp 5 7 ((.pointer (some ⟨G, o + 22, none⟩))) rfl hq0 ?_
  simp only [ps]
  refine tWp 6 7 ((.pointer (some ⟨G, o + 43, none⟩))) rfl rfl hq0 ?_
  simp only [ps]
  refine runWl (z := 7) rfl rfl (by kernel_rfl) (fun K hK => ?_)
  refine wp_st_pv rfl 4 _ _ rfl G o 43 _ (hP_z1.ext hq0) _ #[.bool true] rfl rfl rfl (by exact (by decide : 43 + 1 ≤ 89)) (by kernel_rfl) rfl (fun ws7 hp7 hm7 => ?_)
  replace hp7 := pv_one hp7 HLEN.out (by decide)
  have hr7 : Pm G o z1 ws7 := (Ext.pm hq0 G o).trans hm7
  refine hK.out _ _ hr7 (fun _ => ?_)
  try simp only [ps]
  clear hK K
  refine tLp 8 ((.pointer (some ⟨G, o, none⟩))) rfl hr7 ?_
  simp only [ps]
  refine tLp 9 ((.pointer (some ⟨G, o + 22, none⟩))) rfl hr7 ?_
  simp only [ps]
  refine tLp 10 ((.pointer (some ⟨G, o + 44, none⟩))) rfl hr7 ?_
  simp only [ps]
  refine runL (i := 11) rfl rfl (by kernel_rfl) (fun K hK => ?_)
  refine wp_st_pv rfl 4 _ _ rfl G o 44 _ hp7 _ #[.bool false] rfl rfl rfl (by exact (by decide : 44 + 1 ≤ 89)) (by kernel_rfl) rfl (fun ws11 hp11 hm11 => ?_)
  replace hp11 := pv_one hp11 (len_set' HLEN.out) (by decide)
  have hr11 : Pm G o z1 ws11 := hr7.trans hm11
  refine hK.out _ _ hr11 (fun _ => ?_)
  try simp only [ps]
  clear hK K
  refine wpAnyH_done (by kernel_rfl) ?_ _
  generalize ws11 = z2 at *
  have hP_z2 : Pv z2 G o ((L.set 43 (.bool true)).set 44 (.bool false)) := hp11
  have hH_z2 : z2.heap[H0]? = some (.cells #[.pointer (some ⟨G, o, none⟩), .bool rst] 110 (0, 0)) := (hm11.row (hm7.row ((hq0.block _ (heap_lt hH_z1)).trans hH_z1) (show H0 ≠ G by omega)) (show H0 ≠ G by omega))
  have E_z2 : Pm G o w z2 := ((E_z1.ext hq0).trans hm7).trans hm11
  have rH0_z2 : z2.cell? ⟨H0, 0, none⟩ = some (.pointer (some ⟨G, o, none⟩)) := (cell_of_row _ _ _ _ _ _ hH_z2).trans rfl
  have rH1_z2 : z2.cell? ⟨H0, 1, none⟩ = some (.bool rst) := (cell_of_row _ _ _ _ _ _ hH_z2).trans rfl
  clear hH_z1 hP_z1 E_z1 rH0_z1 rH1_z1
  clear hq0 hqx hm7 hm11 hp7 hp11 hr7 hr11
  go_wp2_with fail
  go_end0
  exact ⟨rfl, hP_z2, E_z2⟩
set_option maxRecDepth 100000 in
set_option maxHeartbeats 1000000 in
theorem inf_age {w : World} (G o : Nat) (L : List Value) (hP_w : Pv w G o L) (hl : L.length = 89) (rst : Bool) : Calls Tryz.prog 79 #[.agg #[.pointer (some ⟨G, o, none⟩), .bool rst]] w fun e w' => e = .returned (.tuple #[]) ∧ Pv w' G o (iage L) ∧ Pm G o w w' := by
  have hG := hP_w.lt
  have HLEN := Lib.hid hl
  clear hl
  go_enter Tryz.func79, Tryz.ntmps79
  go_wp2_with (first
    | fail
    | ((with_reducible refine at_box 110 ?_); refine bx_row rfl 110 _ rfl #[.pointer (some ⟨G, o, none⟩), .bool rst] rfl ?_
       intro H0 z1 hq hs hx
       have E_z1 : Pm G o w z1 := Ext.pm hx G o
       have hP_z1 : Pv z1 G o L := hP_w.ext hx
       have hH_z1 : z1.heap[H0]? = some (.cells #[.pointer (some ⟨G, o, none⟩), .bool rst] 110 (0, 0)) := hq
       have hb_H0 : w.heap.size ≤ H0 := by omega
       have hn_H0G : H0 ≠ G := by omega
       have rH0_z1 : z1.cell? ⟨H0, 0, none⟩ = some (.pointer (some ⟨G, o, none⟩)) := (cell_of_row _ _ _ _ _ _ hH_z1).trans rfl
       have rH1_z1 : z1.cell? ⟨H0, 1, none⟩ = some (.bool rst) := (cell_of_row _ _ _ _ _ _ hH_z1).trans rfl
       clear hP_w
       clear hq hs hx)
    | ((with_reducible refine at_store 3 ?_); refine st_pv rfl rfl 3 _ _ rfl G o 86 _ hP_z1 _ #[.int .i64 1] rfl rfl rfl (by exact (by decide : 86 + 1 ≤ 89)) (by kernel_rfl) rfl ?_
       intro z2 hp hm
       replace hp := pv_one hp HLEN.out (by decide)
       have hP_z2 := hp
       have hH_z2 := hm.row hH_z1 (show H0 ≠ G by omega)
       have E_z2 : Pm G o w z2 := E_z1.trans hm
       have rH0_z2 : z2.cell? ⟨H0, 0, none⟩ = some (.pointer (some ⟨G, o, none⟩)) := (cell_of_row _ _ _ _ _ _ hH_z2).trans rfl
       have rH1_z2 : z2.cell? ⟨H0, 1, none⟩ = some (.bool rst) := (cell_of_row _ _ _ _ _ _ hH_z2).trans rfl
       clear hH_z1 hP_z1 E_z1 rH0_z1 rH1_z1
       clear hp hm)
    | ((with_reducible refine at_load 110 ?_); refine wpList_load_row rfl 110 _ rfl H0 rfl 110 #[.pointer (some ⟨G, o, none⟩), .bool rst] (0, 0) _ hH_z2 Tryz.underlying110 rfl (by kernel_rfl) ?_))
  refine (inf_ask G o _ hP_z2 (len_set' HLEN.out) rst).mono ?_
  rintro e z3 ⟨rfl, hp, hm⟩
  have hP_z3 : Pv z3 G o (((L.set 86 (.int .i64 1)).set 43 (.bool true)).set 44 (.bool false)) := hp
  have hH_z3 := hm.row hH_z2 (show H0 ≠ G by omega)
  have E_z3 : Pm G o w z3 := E_z2.trans hm
  have rH0_z3 : z3.cell? ⟨H0, 0, none⟩ = some (.pointer (some ⟨G, o, none⟩)) := (cell_of_row _ _ _ _ _ _ hH_z3).trans rfl
  have rH1_z3 : z3.cell? ⟨H0, 1, none⟩ = some (.bool rst) := (cell_of_row _ _ _ _ _ _ hH_z3).trans rfl
  clear hH_z2 hP_z2 E_z2 rH0_z2 rH1_z2
  clear hp hm
  go_wp2_with (first
    | fail
    | ((with_reducible refine at_store 3 ?_); refine st_pv rfl rfl 3 _ _ rfl G o 18 _ hP_z3 _ #[.int .i64 1] rfl rfl rfl (by exact (by decide : 18 + 1 ≤ 89)) (by kernel_rfl) rfl ?_
       intro z4 hp hm
       replace hp := pv_one hp (len_set' (len_set' (len_set' HLEN.out))) (by decide)
       have hP_z4 := hp
       have hH_z4 := hm.row hH_z3 (show H0 ≠ G by omega)
       have E_z4 : Pm G o w z4 := E_z3.trans hm
       have rH0_z4 : z4.cell? ⟨H0, 0, none⟩ = some (.pointer (some ⟨G, o, none⟩)) := (cell_of_row _ _ _ _ _ _ hH_z4).trans rfl
       have rH1_z4 : z4.cell? ⟨H0, 1, none⟩ = some (.bool rst) := (cell_of_row _ _ _ _ _ _ hH_z4).trans rfl
       clear hH_z3 hP_z3 E_z3 rH0_z3 rH1_z3
       clear hp hm))
  go_end0
  exact ⟨rfl, hP_z4, E_z4⟩
theorem res_pv {P : Program} {f : FuncId} {args : Array Value} {w : World} {G o : Nat} {L1 L2 : List Value} (h : Calls P f args w fun e w' => e = .returned (.tuple #[]) ∧ Pv w' G o L1 ∧ Pm G o w w') (e : L1 = L2) : Calls P f args w fun e w' => e = .returned (.tuple #[]) ∧ Pv w' G o L2 ∧ Pm G o w w' := e ▸ h
end Go.Proofs.YtpanapepcbbagaaGreat
