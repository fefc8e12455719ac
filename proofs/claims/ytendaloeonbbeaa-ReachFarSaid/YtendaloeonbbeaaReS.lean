/- How far it is: the document's rounds, as plain mathematics: they come to what the search comes to. No statement is proved here. -/
import Derived.Test.YtendaloeonbbeaaReP
namespace Go.Proofs.Ytendaloeonbbeaa
open Go.RowKit Go.BigFrame Go.WideShapes Go.ChangeShapes Go.Deep
set_option linter.unusedVariables false
set_option linter.unusedSimpArgs false

/-- One hop of a round. -/
def rnd1 (n : Nat) (now : List Way) (next : List Way) (h : Hp) : List Way :=
  if h.ok n = true then match now.getD h.f.toNat Option.none with
    | .none => next
    | .some q => if shW (hopW q h).1 (hopW q h).2 (next.getD h.t.toNat Option.none) = true then next.set h.t.toNat (Option.some (hopW q h)) else next
  else next
def rndA (n : Nat) (now next : List Way) (L : List Hp) : List Way := L.foldl (rnd1 n now) next
/-- The document's rounds. -/
def rnds (n : Nat) (L : List Hp) (s : Nat) : Nat → List Way
  | 0 => (List.replicate n Option.none).set s (Option.some (0, 0))
  | t + 1 => rndA n (rnds n L s t) (rnds n L s t) L
theorem rndA_snoc (n : Nat) (now next : List Way) (L : List Hp) (h : Hp) : rndA n now next (L ++ [h]) = rnd1 n now (rndA n now next L) h := by simp [rndA]
theorem rnd1_len (n : Nat) (now next : List Way) (h : Hp) : (rnd1 n now next h).length = next.length := by
  unfold rnd1
  split
  · split
    · rfl
    · split
      · rw [List.length_set]
      · rfl
  · rfl
theorem rndA_len (n : Nat) (now : List Way) : ∀ (L : List Hp) (next : List Way), (rndA n now next L).length = next.length
  | [], _ => rfl
  | h :: L, next => by
    show (rndA n now (rnd1 n now next h) L).length = _
    rw [rndA_len n now L, rnd1_len]
theorem rnds_len (n : Nat) (L : List Hp) (s : Nat) : ∀ t, (rnds n L s t).length = n
  | 0 => by simp [rnds]
  | t + 1 => by
    unfold rnds
    rw [rndA_len, rnds_len n L s t]
theorem rnd1_spec {n : Nat} {now next : List Way} {h : Hp} (hl : next.length = n) :
    (∀ i, (rnd1 n now next h).getD i Option.none = next.getD i Option.none ∨ ∃ q, h.ok n = true ∧ now.getD h.f.toNat Option.none = Option.some q ∧ h.t.toNat = i ∧ (rnd1 n now next h).getD i Option.none = Option.some (hopW q h) ∧ ∀ x, next.getD i Option.none = Option.some x → Le (hopW q h) x) ∧
    ∀ q, h.ok n = true → now.getD h.f.toNat Option.none = Option.some q → ∃ y, (rnd1 n now next h).getD h.t.toNat Option.none = Option.some y ∧ Le y (hopW q h) := by
  unfold rnd1
  by_cases hk : h.ok n = true
  · have hr := ok_t hk
    rw [if_pos hk]
    cases hq : now.getD h.f.toNat Option.none with
    | none => exact ⟨fun i => .inl rfl, fun q _ h2 => by cases h2⟩
    | some q =>
      dsimp only
      by_cases hs : shW (hopW q h).1 (hopW q h).2 (next.getD h.t.toNat Option.none) = true
      · rw [if_pos hs]
        have hset : (next.set h.t.toNat (Option.some (hopW q h))).getD h.t.toNat Option.none = Option.some (hopW q h) := by rw [getD_setW, if_pos ⟨rfl, by omega⟩]
        refine ⟨fun i => ?_, fun q2 _ h2 => ?_⟩
        · by_cases e : h.t.toNat = i
          · subst e
            refine .inr ⟨q, hk, rfl, rfl, hset, fun x hx => ?_⟩
            rw [hx] at hs
            exact Le.total (ltW_iff.1 hs)
          · left
            rw [getD_setW, if_neg (fun h => e h.1)]
        · cases h2
          exact ⟨_, hset, Le.rfl'⟩
      · rw [if_neg hs]
        refine ⟨fun i => .inl rfl, fun q2 _ h2 => ?_⟩
        cases h2
        cases hx : next.getD h.t.toNat Option.none with
        | none => rw [hx] at hs; exact absurd rfl hs
        | some y =>
          rw [hx] at hs
          exact ⟨y, rfl, Classical.not_not.1 (fun h => hs (ltW_iff.2 h))⟩
  · rw [if_neg hk]
    exact ⟨fun i => .inl rfl, fun q h1 => absurd h1 hk⟩
theorem rndA_spec {n : Nat} {now : List Way} : ∀ (L : List Hp) (next : List Way), next.length = n →
    (∀ i, (rndA n now next L).getD i Option.none = next.getD i Option.none ∨ ∃ h ∈ L, ∃ q, h.ok n = true ∧ now.getD h.f.toNat Option.none = Option.some q ∧ h.t.toNat = i ∧ (rndA n now next L).getD i Option.none = Option.some (hopW q h)) ∧
    (∀ i x, next.getD i Option.none = Option.some x → ∃ y, (rndA n now next L).getD i Option.none = Option.some y ∧ Le y x) ∧
    ∀ h ∈ L, ∀ q, h.ok n = true → now.getD h.f.toNat Option.none = Option.some q → ∃ y, (rndA n now next L).getD h.t.toNat Option.none = Option.some y ∧ Le y (hopW q h)
  | [], next, _ => ⟨fun i => .inl rfl, fun i x hx => ⟨x, hx, Le.rfl'⟩, fun h hh => by cases hh⟩
  | h :: L, next, hl => by
    obtain ⟨s1, s2⟩ := rnd1_spec (now := now) (h := h) hl
    obtain ⟨t1, t2, t3⟩ := rndA_spec (n := n) (now := now) L (rnd1 n now next h) (by rw [rnd1_len]; exact hl)
    have e : rndA n now next (h :: L) = rndA n now (rnd1 n now next h) L := rfl
    rw [e]
    refine ⟨fun i => ?_, fun i x hx => ?_, fun g hg q h1 h2 => ?_⟩
    · rcases t1 i with h1 | ⟨g, hg, q, h1⟩
      · rw [h1]
        rcases s1 i with h2 | ⟨q, h2, h3, h4, h5, -⟩
        · exact .inl h2
        · exact .inr ⟨h, List.mem_cons_self, q, h2, h3, h4, h5⟩
      · exact .inr ⟨g, List.mem_cons_of_mem _ hg, q, h1⟩
    · rcases s1 i with h2 | ⟨q, h2, h3, h4, h5, h6⟩
      · exact t2 i x (h2.trans hx)
      · obtain ⟨y, hy, hl2⟩ := t2 i _ h5
        exact ⟨y, hy, hl2.trans (h6 x hx)⟩
    · rcases List.mem_cons.1 hg with rfl | hg
      · obtain ⟨y, hy, hl1⟩ := s2 q h1 h2
        obtain ⟨z, hz, hl2⟩ := t2 _ y hy
        exact ⟨z, hz, hl2.trans hl1⟩
      · exact t3 g hg q h1 h2
/-- Behind t rounds: the shortest of all ways of at most t hops. -/
theorem rnds_best {n : Nat} {L : List Hp} {s : Nat} (hs : s < n) : ∀ t, (∀ i q, (rnds n L s t).getD i Option.none = Option.some q → Walk n L s i q ∧ q.2 ≤ t) ∧
    (∀ i q, Walk n L s i q → q.2 ≤ t → ∃ y, (rnds n L s t).getD i Option.none = Option.some y ∧ Le y q)
  | 0 => by
    have h0 : ∀ i, (rnds n L s 0).getD i Option.none = if s = i then Option.some (0, 0) else Option.none := fun i => by
      unfold rnds
      rw [getD_setW]
      by_cases e : s = i
      · rw [if_pos ⟨e, by simpa using hs⟩, if_pos e]
      · rw [if_neg (fun h => e h.1), if_neg e]
        simp only [List.getD_eq_getElem?_getD, List.getElem?_replicate]
        split <;> rfl
    refine ⟨fun i q hq => ?_, fun i q hw hq => ?_⟩
    · rw [h0] at hq
      split at hq
      · rename_i e
        cases hq
        subst e
        exact ⟨.here, Nat.le_refl _⟩
      · cases hq
    · cases hw with
      | here => exact ⟨(0, 0), by rw [h0, if_pos rfl], Le.rfl'⟩
      | hop _ _ _ _ => unfold hopW at hq; simp at hq
  | t + 1 => by
    obtain ⟨ih1, ih2⟩ := rnds_best hs t (L := L)
    obtain ⟨t1, t2, t3⟩ := rndA_spec (n := n) (now := rnds n L s t) L (rnds n L s t) (rnds_len n L s t)
    have e : rnds n L s (t + 1) = rndA n (rnds n L s t) (rnds n L s t) L := rfl
    rw [e]
    refine ⟨fun i q hq => ?_, fun i q hw hq => ?_⟩
    · rcases t1 i with h1 | ⟨g, hg, p, h1, h2, h3, h4⟩
      · obtain ⟨w1, w2⟩ := ih1 i q (h1.symm.trans hq)
        exact ⟨w1, by omega⟩
      · rw [h4] at hq
        cases hq
        obtain ⟨w1, w2⟩ := ih1 _ p h2
        have hr := ok_t h1
        subst h3
        exact ⟨.hop w1 hg h1 (by omega), by show p.2 + 1 ≤ t + 1; omega⟩
    · cases hw with
      | here =>
        obtain ⟨y, hy, hl⟩ := ih2 s (0, 0) .here (Nat.zero_le _)
        obtain ⟨z, hz, hl2⟩ := t2 s y hy
        exact ⟨z, hz, hl2.trans hl⟩
      | @hop j p g hw2 hg hok hf =>
        have hp : p.2 ≤ t := by unfold hopW at hq; dsimp only at hq; omega
        obtain ⟨y, hy, hl⟩ := ih2 j p hw2 hp
        obtain ⟨z, hz, hl2⟩ := t3 g hg y hok (by rw [hf, Int.toNat_natCast]; exact hy)
        refine ⟨z, hz, hl2.trans ?_⟩
        unfold Le hopW at *
        dsimp only
        omega
theorem Le.anti {x y : Nat × Nat} (h : Le x y) (k : Le y x) : x = y := by
  obtain ⟨a, b⟩ := x
  obtain ⟨c, d⟩ := y
  unfold Le at h k
  dsimp only at h k
  have h1 : a = c := by omega
  have h2 : b = d := by omega
  rw [h1, h2]
/-- The search comes to what the document's rounds come to. -/
theorem Rch.same {n : Nat} {L : List Hp} {s t : Nat} {D : List Way} {dn : List Bool} (h : Rch n L s t D dn (-1)) (hs : s < n) (hw : ∀ h ∈ L, h.wf) : D = rnds n L s n := by
  have hf := h.fin hs
  have hb := h.bound hs hw
  have hsm := (h.facts hs hw).1.small
  obtain ⟨b1, b2⟩ := rnds_best hs n (L := L)
  have key : ∀ i, D.getD i Option.none = (rnds n L s n).getD i Option.none := fun i => by
    cases hd : D.getD i Option.none with
    | none =>
      cases hr : (rnds n L s n).getD i Option.none with
      | none => rfl
      | some y =>
        obtain ⟨z, hz, -⟩ := hf.least (b1 i y hr).1
        rw [hd] at hz
        cases hz
    | some q =>
      have hq2 : q.2 ≤ n := Nat.le_trans (hsm i q.1 q.2 hd).1 hb
      obtain ⟨y, hy, hl⟩ := b2 i q (hf.walk q.2 i q (Nat.le_refl _) hd) hq2
      obtain ⟨z, hz, hl2⟩ := hf.least (b1 i y hy).1
      rw [hd] at hz
      cases hz
      rw [hy, hl.anti hl2]
  apply List.ext_getElem?
  intro i
  have h1 := hf.len
  have h2 := rnds_len n L s n
  by_cases hi : i < n
  · have := key i
    rw [List.getD_eq_getElem?_getD, List.getD_eq_getElem?_getD, List.getElem?_eq_getElem (by omega), List.getElem?_eq_getElem (by omega)] at this
    rw [List.getElem?_eq_getElem (by omega), List.getElem?_eq_getElem (by omega)]
    exact congrArg some this
  · rw [List.getElem?_eq_none (by omega), List.getElem?_eq_none (by omega)]

end Go.Proofs.Ytendaloeonbbeaa
