/- How far it is: what the search's answer is, as plain mathematics. No statement is proved here. -/
import Derived.Test.YtendaloeonbbeaaReF
namespace Go.Proofs.Ytendaloeonbbeaa
open Go.RowKit Go.BigFrame Go.WideShapes Go.ChangeShapes Go.Deep
set_option linter.unusedVariables false
set_option linter.unusedSimpArgs false

/-- No longer than. -/
def Le (x y : Nat × Nat) : Prop := x.1 < y.1 ∨ (x.1 = y.1 ∧ x.2 ≤ y.2)
theorem Le.rfl' {x : Nat × Nat} : Le x x := .inr ⟨rfl, Nat.le_refl _⟩
theorem Le.trans {x y z : Nat × Nat} (h : Le x y) (k : Le y z) : Le x z := by unfold Le at *; omega
theorem Le.total {x y : Nat × Nat} (h : ¬ Le x y) : Le y x := by unfold Le at *; omega
/-- One hop more. -/
def hopW (q : Nat × Nat) (h : Hp) : Nat × Nat := (q.1 + h.c.toNat, q.2 + 1)
theorem le_hop (q : Nat × Nat) (h : Hp) : Le q (hopW q h) := by unfold Le hopW; dsimp only; omega
theorem ltW_iff {a b c d : Nat} : ltW a b c d = true ↔ ¬ Le (c, d) (a, b) := by
  unfold ltW Le
  simp only [Bool.or_eq_true, decide_eq_true_eq, Bool.and_eq_true, beq_iff_eq]
  omega
theorem nearF_min (D : List Way) (dn : List Bool) : ∀ i, (nearF D dn i = -1 → ∀ j, j < i → dn.getD j false = false → D.getD j Option.none = Option.none) ∧
    (∀ k : Nat, nearF D dn i = k → ∀ q, D.getD k Option.none = Option.some q → ∀ j, j < i → dn.getD j false = false → ∀ x, D.getD j Option.none = Option.some x → Le q x)
  | 0 => ⟨fun _ j hj => by omega, fun k hk => by unfold nearF at hk; omega⟩
  | i + 1 => by
    obtain ⟨ih1, ih2⟩ := nearF_min D dn i
    have hrg := nearF_rg D dn i
    unfold nearF
    by_cases hb : nearB D dn (nearF D dn i) i = true
    · rw [if_pos hb]
      refine ⟨fun h => by omega, fun k hk q hq j hj hd x hx => ?_⟩
      obtain rfl : k = i := by omega
      unfold nearB at hb
      rw [hq] at hb
      by_cases e : j = k
      · subst e
        rw [hq] at hx
        cases hx
        exact Le.rfl'
      · rcases hrg with h | ⟨m, hm, hme, hmd, ⟨⟨a, b⟩, hr⟩⟩
        · rw [ih1 h j (by omega) hd] at hx
          cases hx
        · have h1 := ih2 m hme _ hr j (by omega) hd x hx
          obtain ⟨qa, qb⟩ := q
          rw [hme, Int.toNat_natCast, hr] at hb
          simp only [Bool.and_eq_true, Bool.or_eq_true, decide_eq_true_eq] at hb
          rcases hb.2 with h2 | h2
          · omega
          · exact (Le.total (ltW_iff.1 h2)).trans h1
    · rw [if_neg hb]
      refine ⟨fun h j hj hd => ?_, fun k hk q hq j hj hd x hx => ?_⟩
      · by_cases e : j = i
        · subst e
          unfold nearB at hb
          rw [hd, h] at hb
          cases hx : D.getD j Option.none with
          | none => rfl
          | some y => rw [hx] at hb; simp at hb
        · exact ih1 h j (by omega) hd
      · by_cases e : j = i
        · subst e
          obtain ⟨qa, qb⟩ := q
          obtain ⟨xa, xb⟩ := x
          unfold nearB at hb
          rw [hd, hx, hk, Int.toNat_natCast, hq] at hb
          have h2 : ¬ ltW xa xb qa qb = true := fun h => hb (by simp [h])
          exact Classical.not_not.1 (fun h => h2 (ltW_iff.2 h))
        · exact ih2 k hk q hq j (by omega) hd x hx
theorem rel1_spec {k : Nat} {D : List Way} {h : Hp} {q : Nat × Nat} (hq : D.getD k Option.none = Option.some q) (ht : h.t.toNat < D.length) :
    (∀ i, (rel1 k D h).getD i Option.none = D.getD i Option.none ∨ (h.t.toNat = i ∧ (rel1 k D h).getD i Option.none = Option.some (hopW q h) ∧ ∀ x, D.getD i Option.none = Option.some x → ¬ Le x (hopW q h))) ∧
    ∃ y, (rel1 k D h).getD h.t.toNat Option.none = Option.some y ∧ Le y (hopW q h) := by
  obtain ⟨a, b⟩ := q
  unfold rel1
  rw [hq]
  dsimp only
  by_cases hs : shW (a + h.c.toNat) (b + 1) (D.getD h.t.toNat Option.none) = true
  · rw [if_pos hs]
    refine ⟨fun i => ?_, _, by rw [getD_setW, if_pos ⟨rfl, ht⟩]; rfl, Le.rfl'⟩
    rw [getD_setW]
    by_cases e : h.t.toNat = i
    · subst e
      refine .inr ⟨rfl, by rw [if_pos ⟨rfl, ht⟩]; rfl, fun x hx => ?_⟩
      rw [hx] at hs
      exact ltW_iff.1 hs
    · rw [if_neg (fun h => e h.1)]
      exact .inl rfl
  · rw [if_neg hs]
    refine ⟨fun i => .inl rfl, ?_⟩
    cases hx : D.getD h.t.toNat Option.none with
    | none => rw [hx] at hs; exact absurd rfl hs
    | some y =>
      rw [hx] at hs
      exact ⟨y, rfl, Classical.not_not.1 (fun h => hs (ltW_iff.2 h))⟩
theorem relA_spec {k : Nat} {q : Nat × Nat} : ∀ (hs : List Hp) (D : List Way), D.getD k Option.none = Option.some q → (∀ h ∈ hs, h.t.toNat < D.length) →
    (∀ i, (relA k D hs).getD i Option.none = D.getD i Option.none ∨ ∃ h ∈ hs, h.t.toNat = i ∧ (relA k D hs).getD i Option.none = Option.some (hopW q h) ∧ ∀ x, D.getD i Option.none = Option.some x → ¬ Le x (hopW q h)) ∧
    ∀ h ∈ hs, ∃ y, (relA k D hs).getD h.t.toNat Option.none = Option.some y ∧ Le y (hopW q h)
  | [], D, _, _ => ⟨fun i => .inl rfl, fun h hh => by cases hh⟩
  | h :: hs, D, hq, ht => by
    obtain ⟨s1, y1, hy1, l1⟩ := rel1_spec hq (ht h List.mem_cons_self)
    obtain ⟨t1, t2⟩ := relA_spec hs (rel1 k D h) (rel1_self hq) (fun x hx => by rw [rel1_len]; exact ht x (List.mem_cons_of_mem _ hx))
    have e : relA k D (h :: hs) = relA k (rel1 k D h) hs := rfl
    rw [e]
    refine ⟨fun i => ?_, fun x hx => ?_⟩
    · rcases t1 i with h1 | ⟨g, hg, hgi, hgv, hgx⟩
      · rw [h1]
        rcases s1 i with h2 | ⟨h2, h3, h4⟩
        · exact .inl h2
        · exact .inr ⟨h, List.mem_cons_self, h2, h3, h4⟩
      · refine .inr ⟨g, List.mem_cons_of_mem _ hg, hgi, hgv, fun x hx => ?_⟩
        rcases s1 i with h2 | ⟨h2, h3, h4⟩
        · exact hgx x (h2.trans hx)
        · intro hl
          exact h4 x hx (hl.trans (Le.total (hgx _ h3)))
    · rcases List.mem_cons.1 hx with rfl | hx
      · rcases t1 x.t.toNat with h1 | ⟨g, hg, hgi, hgv, hgx⟩
        · exact ⟨y1, h1.trans hy1, l1⟩
        · exact ⟨_, hgv, (Le.total (hgx _ hy1)).trans l1⟩
      · exact t2 x hx
/-- What holds all along. -/
structure DInv (n : Nat) (L : List Hp) (s : Nat) (D : List Way) (dn : List Bool) : Prop where
  len : D.length = n
  dl : dn.length = n
  src : D.getD s Option.none = Option.some (0, 0)
  rch : ∀ k, dn.getD k false = true → ∃ q, D.getD k Option.none = Option.some q
  rel : ∀ k q, dn.getD k false = true → D.getD k Option.none = Option.some q → ∀ h ∈ leaveF n L k, ∃ y, D.getD h.t.toNat Option.none = Option.some y ∧ Le y (hopW q h)
  ord : ∀ k j a b, dn.getD k false = true → dn.getD j false = false → D.getD k Option.none = Option.some a → D.getD j Option.none = Option.some b → Le a b
  att : ∀ i q, i ≠ s → D.getD i Option.none = Option.some q → ∃ k h p, dn.getD k false = true ∧ h ∈ leaveF n L k ∧ h.t.toNat = i ∧ D.getD k Option.none = Option.some p ∧ q = hopW p h
theorem leave_ok {n : Nat} {L : List Hp} {k : Nat} {h : Hp} (hh : h ∈ leaveF n L k) : h ∈ L ∧ h.ok n = true ∧ h.f = k := by
  obtain ⟨h1, h2⟩ := List.mem_filter.1 hh
  rw [Bool.and_eq_true] at h2
  exact ⟨h1, h2.1, by simpa using h2.2⟩
theorem ok_t {n : Nat} {h : Hp} (hk : h.ok n = true) : (0 ≤ h.f ∧ h.f < n) ∧ (0 ≤ h.t ∧ h.t < n) := by
  simp only [Hp.ok, Bool.and_eq_true, decide_eq_true_eq] at hk
  omega
theorem getD_setB {l : List Bool} {i j : Nat} (hi : i < l.length) : (l.set i true).getD j false = if i = j then true else l.getD j false := by
  simp only [List.getD_eq_getElem?_getD, List.getElem?_set]
  by_cases e : i = j
  · subst e
    rw [if_pos rfl, if_pos hi, if_pos rfl]
    rfl
  · rw [if_neg e, if_neg e]
theorem DInv.step {n : Nat} {L : List Hp} {s : Nat} {D : List Way} {dn : List Bool} {k : Nat} {q : Nat × Nat} (h : DInv n L s D dn) (hk : k < n) (hd : dn.getD k false = false) (hq : D.getD k Option.none = Option.some q)
    (hmin : ∀ j, dn.getD j false = false → ∀ x, D.getD j Option.none = Option.some x → Le q x) : DInv n L s (relA k D (leaveF n L k)) (dn.set k true) := by
  obtain ⟨s1, s2⟩ := relA_spec (leaveF n L k) D hq (fun g hg => by
    have := ok_t (leave_ok hg).2.1
    rw [h.len]
    omega)
  have hself := relA_self (leaveF n L k) D hq
  have hdn : ∀ j, (dn.set k true).getD j false = if k = j then true else dn.getD j false := fun j => getD_setB (by rw [h.dl]; exact hk)
  have hmono : ∀ i x, D.getD i Option.none = Option.some x → ∃ y, (relA k D (leaveF n L k)).getD i Option.none = Option.some y ∧ Le y x := fun i x hx => by
    rcases s1 i with h1 | ⟨g, -, -, hv, hl⟩
    · exact ⟨x, h1.trans hx, Le.rfl'⟩
    · exact ⟨_, hv, Le.total (hl x hx)⟩
  have hfix : ∀ j, dn.getD j false = true → (relA k D (leaveF n L k)).getD j Option.none = D.getD j Option.none := fun j hj => by
    rcases s1 j with h1 | ⟨g, -, -, hv, hl⟩
    · exact h1
    · obtain ⟨x, hx⟩ := h.rch j hj
      exact absurd ((h.ord j k x q hj hd hx hq).trans (le_hop q g)) (hl x hx)
  refine ⟨by rw [relA_len]; exact h.len, by rw [List.length_set]; exact h.dl, ?_, fun j hj => ?_, fun j x hj hx g hg => ?_, fun j i a b hj hi ha hb => ?_, fun i r his hr => ?_⟩
  · obtain ⟨y, hy, hl⟩ := hmono s _ h.src
    rw [hy]
    obtain ⟨y1, y2⟩ := y
    unfold Le at hl
    dsimp only at hl
    congr 2 <;> omega
  · rw [hdn] at hj
    by_cases e : k = j
    · subst e; exact ⟨q, hself⟩
    · rw [if_neg e] at hj
      obtain ⟨x, hx⟩ := h.rch j hj
      exact ⟨x, (hfix j hj).trans hx⟩
  · rw [hdn] at hj
    by_cases e : k = j
    · subst e
      rw [hself] at hx
      cases hx
      exact s2 g hg
    · rw [if_neg e] at hj
      rw [hfix j hj] at hx
      obtain ⟨y, hy, hl⟩ := h.rel j x hj hx g hg
      obtain ⟨y2, hy2, hl2⟩ := hmono _ y hy
      exact ⟨y2, hy2, hl2.trans hl⟩
  · rw [hdn] at hj hi
    have hki : ¬ k = i := fun e => by rw [if_pos e] at hi; cases hi
    rw [if_neg hki] at hi
    have haq : Le a q := by
      by_cases e : k = j
      · subst e
        rw [hself] at ha
        cases ha
        exact Le.rfl'
      · rw [if_neg e] at hj
        rw [hfix j hj] at ha
        exact h.ord j k a q hj hd ha hq
    rcases s1 i with h1 | ⟨g, -, -, hv, hl⟩
    · exact haq.trans (hmin i hi b (h1.symm.trans hb))
    · rw [hv] at hb
      cases hb
      exact haq.trans (le_hop q g)
  · rcases s1 i with h1 | ⟨g, hg, hgi, hv, hl⟩
    · obtain ⟨j, g, p, hj, hg, hgi, hp, e⟩ := h.att i r his (h1.symm.trans hr)
      have hkj : ¬ k = j := fun e => by rw [e, hj] at hd; cases hd
      exact ⟨j, g, p, by rw [hdn, if_neg hkj]; exact hj, hg, hgi, (hfix j hj).trans hp, e⟩
    · rw [hv] at hr
      cases hr
      exact ⟨k, g, q, by rw [hdn, if_pos rfl], hg, hgi, hself, rfl⟩
theorem Rch.inv {n : Nat} {L : List Hp} {s t : Nat} {D : List Way} {dn : List Bool} {z : Int} (h : Rch n L s t D dn z) (hs : s < n) :
    DInv n L s D dn ∧ ((z = -1 ∧ ∀ j, j < n → dn.getD j false = false → D.getD j Option.none = Option.none) ∨ ∃ k : Nat, z = k ∧ k < n ∧ dn.getD k false = false ∧ ∃ q, D.getD k Option.none = Option.some q ∧ ∀ j, dn.getD j false = false → ∀ x, D.getD j Option.none = Option.some x → Le q x) := by
  induction h with
  | zero =>
    have h0 : ∀ i, ((List.replicate n (Option.none : Way)).set s (Option.some (0, 0))).getD i Option.none = if s = i then Option.some (0, 0) else Option.none := fun i => by
      rw [getD_setW]
      by_cases e : s = i
      · rw [if_pos ⟨e, by simpa using hs⟩, if_pos e]
      · rw [if_neg (fun h => e h.1), if_neg e]
        simp only [List.getD_eq_getElem?_getD, List.getElem?_replicate]
        split <;> rfl
    have hd0 : ∀ i, (List.replicate n false).getD i false = false := fun i => by
      simp only [List.getD_eq_getElem?_getD, List.getElem?_replicate]
      split <;> rfl
    refine ⟨⟨by simp, by simp, by rw [h0, if_pos rfl], fun k hk => absurd ((hd0 k).symm.trans hk) (by decide), fun k q hk => absurd ((hd0 k).symm.trans hk) (by decide), fun k j a b hk => absurd ((hd0 k).symm.trans hk) (by decide), fun i q his hi => absurd (((h0 i).trans (if_neg (Ne.symm his))).symm.trans hi) (by simp)⟩, .inr ⟨s, rfl, hs, hd0 s, (0, 0), by rw [h0, if_pos rfl], fun j _ x hx => ?_⟩⟩
    rw [h0] at hx
    split at hx
    · cases hx; exact Le.rfl'
    · cases hx
  | step hr hk ih =>
    rename_i t D dn k
    obtain ⟨hi, h2⟩ := ih
    rcases h2 with ⟨h2, -⟩ | ⟨k2, e, -, hd, q, hq, hmin⟩
    · omega
    · obtain rfl : k = k2 := by omega
      have hn := hi.step hk hd hq hmin
      refine ⟨hn, ?_⟩
      obtain ⟨m1, m2⟩ := nearF_min (relA k D (leaveF n L k)) (dn.set k true) n
      rcases nearF_rg (relA k D (leaveF n L k)) (dn.set k true) n with h3 | ⟨m, hm, hme, hmd, r, hr⟩
      · exact .inl ⟨h3, m1 h3⟩
      · refine .inr ⟨m, hme, hm, hmd, r, hr, fun j hj x hx => m2 m hme r hr j ?_ hj x hx⟩
        rcases Nat.lt_or_ge j n with h4 | h4
        · exact h4
        · rw [List.getD_eq_getElem?_getD, List.getElem?_eq_none (by rw [hn.len]; exact h4)] at hx
          cases hx
/-- The search's answer: the start is at nothing, no hop shortens a way, and each point that is reached is reached by a hop. -/
structure Fin (n : Nat) (L : List Hp) (s : Nat) (D : List Way) : Prop where
  len : D.length = n
  src : D.getD s Option.none = Option.some (0, 0)
  rel : ∀ h ∈ L, h.ok n = true → ∀ q, D.getD h.f.toNat Option.none = Option.some q → ∃ y, D.getD h.t.toNat Option.none = Option.some y ∧ Le y (hopW q h)
  att : ∀ i q, i ≠ s → D.getD i Option.none = Option.some q → ∃ h ∈ L, h.ok n = true ∧ h.t.toNat = i ∧ ∃ p, D.getD h.f.toNat Option.none = Option.some p ∧ q = hopW p h
theorem Rch.fin {n : Nat} {L : List Hp} {s t : Nat} {D : List Way} {dn : List Bool} (h : Rch n L s t D dn (-1)) (hs : s < n) : Fin n L s D := by
  obtain ⟨hi, h2⟩ := h.inv hs
  rcases h2 with ⟨-, h2⟩ | ⟨k, e, -⟩
  · refine ⟨hi.len, hi.src, fun g hg hok q hq => ?_, fun i q his hiq => ?_⟩
    · have hrg := ok_t hok
      refine hi.rel g.f.toNat q ?_ hq g (List.mem_filter.2 ⟨hg, by rw [hok, Bool.true_and]; simp; omega⟩)
      cases hd : dn.getD g.f.toNat false
      · rw [h2 _ (by omega) hd] at hq
        cases hq
      · rfl
    · obtain ⟨k, g, p, hk, hg, hgi, hp, e⟩ := hi.att i q his hiq
      obtain ⟨h1, h3, h4⟩ := leave_ok hg
      exact ⟨g, h1, h3, hgi, p, by rw [h4, Int.toNat_natCast]; exact hp, e⟩
  · omega
/-- A way, by the hops there are. -/
inductive Walk (n : Nat) (L : List Hp) (s : Nat) : Nat → Nat × Nat → Prop
  | here : Walk n L s s (0, 0)
  | hop {i : Nat} {q : Nat × Nat} {h : Hp} : Walk n L s i q → h ∈ L → h.ok n = true → h.f = i → Walk n L s h.t.toNat (hopW q h)
theorem Walk.mono {n : Nat} {L L' : List Hp} {s i : Nat} {q : Nat × Nat} (h : Walk n L s i q) (hl : ∀ x ∈ L, x ∈ L') : Walk n L' s i q := by
  induction h with
  | here => exact .here
  | hop _ h1 h2 h3 ih => exact .hop ih (hl _ h1) h2 h3
/-- No way is shorter. -/
theorem Fin.least {n : Nat} {L : List Hp} {s : Nat} {D : List Way} (h : Fin n L s D) {i : Nat} {q : Nat × Nat} (hw : Walk n L s i q) : ∃ y, D.getD i Option.none = Option.some y ∧ Le y q := by
  induction hw with
  | here => exact ⟨_, h.src, Le.rfl'⟩
  | @hop i q g _ h1 h2 h3 ih =>
    obtain ⟨y, hy, hl⟩ := ih
    obtain ⟨z, hz, hl2⟩ := h.rel g h1 h2 y (by rw [h3, Int.toNat_natCast]; exact hy)
    refine ⟨z, hz, hl2.trans ?_⟩
    unfold Le hopW at *
    dsimp only
    omega
/-- Each is a way's. -/
theorem Fin.walk {n : Nat} {L : List Hp} {s : Nat} {D : List Way} (h : Fin n L s D) : ∀ (m i : Nat) (q : Nat × Nat), q.2 ≤ m → D.getD i Option.none = Option.some q → Walk n L s i q
  | m, i, q, hm, hq => by
    by_cases e : i = s
    · subst e
      rw [h.src] at hq
      cases hq
      exact .here
    · obtain ⟨g, h1, h2, h3, p, hp, e2⟩ := h.att i q e hq
      cases m with
      | zero => rw [e2] at hm; unfold hopW at hm; simp at hm
      | succ m =>
        have := h.walk m g.f.toNat p (by rw [e2] at hm; unfold hopW at hm; dsimp only at hm; omega) hp
        have hk := ok_t h2
        rw [← h3, e2]
        exact .hop this h1 h2 (by omega)
/-- With more hops nothing is farther. -/
theorem Fin.more {n : Nat} {L L' : List Hp} {s : Nat} {D D' : List Way} (h : Fin n L s D) (h' : Fin n L' s D') (hl : ∀ x ∈ L, x ∈ L') {i : Nat} {q : Nat × Nat} (hq : D.getD i Option.none = Option.some q) : ∃ y, D'.getD i Option.none = Option.some y ∧ Le y q :=
  h'.least ((h.walk q.2 i q (Nat.le_refl _) hq).mono hl)

end Go.Proofs.Ytendaloeonbbeaa
