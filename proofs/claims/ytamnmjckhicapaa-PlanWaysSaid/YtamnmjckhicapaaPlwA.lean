/- What PlanWays stands on, behind its chain. No statement is proved here. -/
import Derived.Test.YtamnmjckhicapaaPvFv
namespace Go.Proofs.Ytamnmjckhicapaa
open Go.RowKit Go.BigFrame Go.WideShapes Go.ChangeShapes Go.Deep
set_option linter.unusedVariables false
set_option linter.unusedSimpArgs false
set_option maxRecDepth 100000

theorem planF_by_len (N : List Nd) (S : List (List Pl)) : (planF N S).by_.length = S.length := byOf_len N S
theorem pigeon : ∀ (n m : Nat) (f : Nat → Nat), (∀ i, i < m → f i < n) → (∀ i j, i < m → j < m → f i = f j → i = j) → m ≤ n
  | 0, m, f, h1, _ => by
    cases m with
    | zero => exact Nat.le_refl _
    | succ m => exact absurd (h1 0 (by omega)) (by omega)
  | n + 1, 0, f, _, _ => by omega
  | n + 1, m + 1, f, h1, h2 => by
    have ih := pigeon n m (fun i => if f i = n then f m else f i) (fun i hi => ?_) (fun i j hi hj e => ?_)
    · omega
    · try dsimp only
      have a := h1 m (by omega)
      have b := h1 i (by omega)
      split
      · rename_i h
        have : f m ≠ n := fun h3 => by have := h2 i m (by omega) (by omega) (h.trans h3.symm); omega
        omega
      · omega
    · try dsimp only at e
      by_cases c1 : f i = n
      · by_cases c2 : f j = n
        · exact h2 i j (by omega) (by omega) (c1.trans c2.symm)
        · rw [if_pos c1, if_neg c2] at e
          have := h2 m j (by omega) (by omega) e
          omega
      · by_cases c2 : f j = n
        · rw [if_neg c1, if_pos c2] at e
          have := h2 i m (by omega) (by omega) e
          omega
        · rw [if_neg c1, if_neg c2] at e
          exact h2 i j (by omega) (by omega) e
theorem least_of {p : Nat → Prop} : ∀ m, p m → ∃ d, p d ∧ ∀ e, p e → d ≤ e := fun m => by
  induction m using Nat.strongRecOn with
  | _ m ih =>
    intro hm
    by_cases h : ∃ e, e < m ∧ p e
    · obtain ⟨e, he, hp⟩ := h
      exact ih e he hp
    · exact ⟨m, hm, fun e hp => Nat.le_of_not_lt fun hl => h ⟨e, hl, hp⟩⟩
def Far (n : Nat) (L : List Hp) (s k d : Nat) : Prop := (∃ q, Walk n L s k q ∧ q.2 = d) ∧ ∀ q, Walk n L s k q → d ≤ q.2
theorem walk_lt {n : Nat} {L : List Hp} {s k : Nat} {q : Nat × Nat} (hs : s < n) (h : Walk n L s k q) : k < n := by
  cases h with
  | here => exact hs
  | hop _ _ h2 _ => have := ok_t h2; omega
theorem far_back {n : Nat} {L : List Hp} {s : Nat} : ∀ d k, Far n L s k d → ∀ e, e ≤ d → ∃ v, Far n L s v e
  | 0, k, h, e, he => by
    obtain rfl : e = 0 := by omega
    exact ⟨k, h⟩
  | d + 1, k, h, e, he => by
    by_cases hd : e = d + 1
    · subst hd
      exact ⟨k, h⟩
    · obtain ⟨⟨q, hw, hq⟩, hmin⟩ := h
      cases hw with
      | here => simp at hq
      | @hop i q' g hw' h1 h2 h3 =>
        have hq' : q'.2 = d := by
          have e1 : (hopW q' g).2 = q'.2 + 1 := rfl
          omega
        refine far_back d i ⟨⟨q', hw', hq'⟩, fun q2 hw2 => ?_⟩ e (by omega)
        have := hmin _ (.hop hw2 h1 h2 h3)
        have e1 : (hopW q2 g).2 = q2.2 + 1 := rfl
        omega
theorem far_short {n : Nat} {L : List Hp} {s k d : Nat} (hs : s < n) (h : Far n L s k d) : d + 1 ≤ n := by
  have hv : ∀ e, ∃ v, e ≤ d → Far n L s v e := fun e => by
    by_cases he : e ≤ d
    · obtain ⟨v, hv⟩ := far_back d k h e he
      exact ⟨v, fun _ => hv⟩
    · exact ⟨0, fun h => absurd h he⟩
  refine pigeon n (d + 1) (fun e => Classical.choose (hv e)) (fun e he => ?_) (fun e e' he he' hh => ?_)
  · obtain ⟨⟨q, hw, _⟩, _⟩ := Classical.choose_spec (hv e) (by omega)
    exact walk_lt hs hw
  · have a := Classical.choose_spec (hv e) (by omega)
    have b := Classical.choose_spec (hv e') (by omega)
    try dsimp only at hh
    rw [hh] at a
    obtain ⟨⟨q, hw, hq⟩, hm⟩ := a
    obtain ⟨⟨q', hw', hq'⟩, hm'⟩ := b
    have := hm _ hw'
    have := hm' _ hw
    omega
theorem far_conn {n : Nat} {L : List Hp} {s k : Nat} (hs : s < n) (h : Conn n L s k) : ((farF n L s).getD k Option.none).isNone = false := by
  obtain ⟨q, hw⟩ := h
  obtain ⟨d, ⟨q', hw', hd⟩, hm⟩ := least_of (p := fun d => ∃ q, Walk n L s k q ∧ q.2 = d) q.2 ⟨q, hw, rfl⟩
  have hf : Far n L s k d := ⟨⟨q', hw', hd⟩, fun q2 h2 => hm q2.2 ⟨q2, h2, rfl⟩⟩
  have := far_short hs hf
  obtain ⟨y, hy, _⟩ := (rnds_best hs n (L := L)).2 k q' hw' (by omega)
  have hy' : (farF n L s).getD k Option.none = Option.some y := hy
  rw [hy']
  rfl
theorem far_iff {n : Nat} {L : List Hp} {s k : Nat} (hs : s < n) : ((farF n L s).getD k Option.none).isNone = false ↔ Conn n L s k := ⟨fun h => by
  cases hq : (farF n L s).getD k Option.none with
  | none => rw [hq] at h; simp at h
  | some q => exact ⟨q, (far_walk hs hq).1⟩, far_conn hs⟩
theorem partK_same (n : Nat) (L : List Hp) (hs : Sym n L) : ∀ i, i ≤ n → ∀ j k, j < n → k < n → Conn n L j k → at0 (partK n L i) j = at0 (partK n L i) k
  | 0, _, j, k, hj, hk, _ => by
    simp [partK, at0, List.getD_eq_getElem?_getD, hj, hk]
  | i + 1, hi, j, k, hj, hk, hc => by
    have ih := partK_same n L hs i (by omega) j k hj hk hc
    have hl := partK_len n L i
    unfold partK
    split
    · exact ih
    · rw [markK_at i (farF n L i) (partK n L i) j n (by omega), markK_at i (farF n L i) (partK n L i) k n (by omega)]
      have e : Conn n L i j ↔ Conn n L i k := ⟨fun h => h.trans hc, fun h => h.trans (hc.symm hs)⟩
      by_cases h : Conn n L i j
      · rw [if_pos ⟨hj, far_conn (by omega) h⟩, if_pos ⟨hk, far_conn (by omega) (e.1 h)⟩]
      · rw [if_neg (fun x => h ((far_iff (by omega)).1 x.2)), if_neg (fun x => h (e.2 ((far_iff (by omega)).1 x.2)))]
        exact ih
theorem partF_same {n : Nat} {L : List Hp} (hs : Sym n L) {j k : Nat} (hj : j < n) (hk : k < n) (hc : Conn n L j k) : at0 (partF n L) j = at0 (partF n L) k := partK_same n L hs n (Nat.le_refl _) j k hj hk hc
theorem partF_idem {n : Nat} {L : List Hp} (hs : Sym n L) {j : Nat} (hj : j < n) : at0 (partF n L) (at0 (partF n L) j).toNat = at0 (partF n L) j := by
  have hb := partF_rng n L j hj
  exact partF_same hs (by omega) hj (partF_conn n L j hj)
theorem rootB_at (F A : List Int) (n : Nat) (hF : Rng n F) (hA : A.length = n) (hid : ∀ j, j < n → at0 F (at0 F j).toNat = at0 F j) : ∀ i, i ≤ n → (∀ c, c < n → at0 F c = c → at0 (rootB F A i) c = at0 A c) ∧ ∀ k, k < i → at0 (rootB F A i) k = at0 A (at0 F k).toNat
  | 0, _ => ⟨fun _ _ _ => rfl, fun k hk => by omega⟩
  | i + 1, hi => by
    obtain ⟨h1, h2⟩ := rootB_at F A n hF hA hid i (by omega)
    have hb := hF i (by omega)
    have hv : at0 (rootB F A i) (at0 F i).toNat = at0 A (at0 F i).toNat := h1 _ (by omega) (by rw [hid i (by omega)]; omega)
    unfold rootB
    refine ⟨fun c hc e => ?_, fun k hk => ?_⟩
    · rw [at_set _ _ _ _ (by rw [rootB_len]; omega), hv]
      by_cases ec : c = i
      · subst ec
        rw [if_pos rfl, e, Int.toNat_natCast]
      · rw [if_neg ec]
        exact h1 c hc e
    · rw [at_set _ _ _ _ (by rw [rootB_len]; omega), hv]
      by_cases ek : k = i
      · subst ek
        rw [if_pos rfl]
      · rw [if_neg ek]
        exact h2 k (by omega)
theorem root_at {N : List Nd} {S : List (List Pl)} {i : Nat} (hi : i < N.length) : at0 (planF N S).root i = idA N (at0 (rootsOf N S) i).toNat := by
  show at0 ((rootsOf N S).map _) i = _
  unfold at0
  rw [List.getD_eq_getElem?_getD, List.getElem?_map, List.getD_eq_getElem?_getD, List.getElem?_eq_getElem (by rw [rootsOf_len]; exact hi)]
  rfl
theorem cost_at {N : List Nd} {S : List (List Pl)} {i : Nat} (hi : i < N.length) : at0 (planF N S).cost i = ((costW (waysOf N S) i : Nat) : Int) := by
  show at0 ((List.range N.length).map _) i = _
  unfold at0
  rw [List.getD_eq_getElem?_getD, List.getElem?_map, List.getElem?_range hi]
  rfl
theorem rootF_at (N : List Nd) {n : Nat} {L : List Hp} (hs : Sym n L) {j : Nat} (hj : j < n) : at0 (rootF N (partF n L)) j = at0 (rootA N (partF n L) n) (at0 (partF n L) j).toNat := by
  unfold rootF
  rw [partF_len]
  exact (rootB_at (partF n L) _ n (partF_rng n L) (by rw [rootA_len, partF_len]) (fun j hj => partF_idem hs hj) n (Nat.le_refl _)).2 j hj
theorem bools_open {w : World} {uv : Value} {U : List Bool} (h : BoolsAt w uv U) (h1 : 1 ≤ U.length) : ∃ ub uo ucap, uv = .slice (some ⟨ub, uo, none⟩) U.length ucap ∧ ∀ W', Ext w W' → ∀ i, i < U.length → W'.cell? ⟨ub, uo + i, none⟩ = some (.bool (U.getD i false)) := by
  obtain ⟨ua, ucap, rfl, hm, hf⟩ := h
  obtain ⟨ub, uo, rfl, hb, -, -, h3⟩ := hf (by omega)
  refine ⟨ub, uo, ucap, rfl, fun W' hx i hi => ?_⟩
  have := h3 i hi 0 _ rfl
  rw [Nat.add_zero, Nat.mul_one] at this
  exact (hx.cell hb).trans this
theorem upsL_len (u : Int) : (upsL u).length = 6 := by simp [upsL]
theorem NetOk.ids {N : List Nd} {S : List (List Pl)} (h : NetOk N S) : ∀ i j, i < N.length → j < N.length → idA N i = idA N j → i = j := fun i j hi hj e => by
  have hn := h.nodes.2
  rw [List.nodup_iff_pairwise_ne, List.pairwise_map, List.pairwise_iff_getElem] at hn
  have g : ∀ k (hk : k < N.length), idA N k = N[k].id := fun k hk => by unfold idA; rw [List.getD_eq_getElem?_getD, List.getElem?_eq_getElem hk]; rfl
  rw [g i hi, g j hj] at e
  rcases Nat.lt_trichotomy i j with h1 | h1 | h1
  · exact absurd (by rw [e]) (hn i j hi hj h1)
  · exact h1
  · exact absurd (by rw [e]) (hn j i hj hi h1)
/-- No way is better. -/
def Bst (n : Nat) (L : List Hp) (s k : Nat) (q : Nat × Nat) : Prop := Walk n L s k q ∧ ∀ q', Walk n L s k q' → Le q q'
theorem Le.anti2 {x y : Nat × Nat} (h : Le x y) (k : Le y x) : x = y := by
  unfold Le at *
  exact Prod.ext (by omega) (by omega)
theorem bst_of {n : Nat} {L : List Hp} {s k : Nat} (h : Conn n L s k) : ∃ q, Bst n L s k q := by
  obtain ⟨q, hw⟩ := h
  obtain ⟨c, ⟨h1, hw1⟩, hm1⟩ := least_of (p := fun c => ∃ h, Walk n L s k (c, h)) q.1 ⟨q.2, hw⟩
  obtain ⟨d, hw2, hm2⟩ := least_of (p := fun d => Walk n L s k (c, d)) h1 hw1
  refine ⟨(c, d), hw2, fun q' hw' => ?_⟩
  have h3 := hm1 q'.1 ⟨q'.2, hw'⟩
  unfold Le
  dsimp only
  by_cases e : q'.1 = c
  · have := hm2 q'.2 (by rw [← e]; exact hw')
    omega
  · omega
theorem Bst.back {n : Nat} {L : List Hp} {s i : Nat} {q : Nat × Nat} {g : Hp} (h : Bst n L s g.t.toNat (hopW q g)) (hw : Walk n L s i q) (h1 : g ∈ L) (h2 : g.ok n = true) (h3 : g.f = i) : Bst n L s i q := by
  refine ⟨hw, fun q2 hw2 => ?_⟩
  have := h.2 _ (.hop hw2 h1 h2 h3)
  unfold Le hopW at *
  dsimp only at this
  omega
theorem bst_back {n : Nat} {L : List Hp} {s : Nat} : ∀ d k c, Bst n L s k (c, d) → ∀ e, e ≤ d → ∃ v c', Bst n L s v (c', e)
  | 0, k, c, h, e, he => by
    obtain rfl : e = 0 := by omega
    exact ⟨k, c, h⟩
  | d + 1, k, c, h, e, he => by
    by_cases hd : e = d + 1
    · subst hd
      exact ⟨k, c, h⟩
    · obtain ⟨q, hq⟩ : ∃ q, q = (c, d + 1) := ⟨_, rfl⟩
      rw [← hq] at h
      have hw := h.1
      cases hw with
      | here => simp at hq
      | @hop i q' g hw' h1 h2 h3 =>
        have e1 : (hopW q' g).2 = q'.2 + 1 := rfl
        have e2 : (hopW q' g).2 = d + 1 := by rw [hq]
        have hb := h.back hw' h1 h2 h3
        obtain ⟨a, b⟩ := q'
        dsimp only at e1
        obtain rfl : b = d := by omega
        exact bst_back b i a hb e (by omega)
theorem bst_short {n : Nat} {L : List Hp} {s k : Nat} {q : Nat × Nat} (hs : s < n) (h : Bst n L s k q) : q.2 + 1 ≤ n := by
  obtain ⟨c, d⟩ := q
  have hv : ∀ e, ∃ v, e ≤ d → ∃ c', Bst n L s v (c', e) := fun e => by
    by_cases he : e ≤ d
    · obtain ⟨v, c', hv⟩ := bst_back d k c h e he
      exact ⟨v, fun _ => ⟨c', hv⟩⟩
    · exact ⟨0, fun h => absurd h he⟩
  refine pigeon n (d + 1) (fun e => Classical.choose (hv e)) (fun e he => ?_) (fun e e' he he' hh => ?_)
  · obtain ⟨c', hw, _⟩ := Classical.choose_spec (hv e) (by omega)
    exact walk_lt hs hw
  · have a := Classical.choose_spec (hv e) (by omega)
    have b := Classical.choose_spec (hv e') (by omega)
    try dsimp only at hh
    rw [hh] at a
    obtain ⟨c1, hw, hm⟩ := a
    obtain ⟨c2, hw', hm'⟩ := b
    have := (hm _ hw').anti2 (hm' _ hw)
    exact (Prod.mk.inj this).2
theorem far_best {n : Nat} {L : List Hp} {s k : Nat} {q : Nat × Nat} (hs : s < n) (h : Bst n L s k q) : (farF n L s).getD k Option.none = Option.some q := by
  have h1 := bst_short hs h
  obtain ⟨y, hy, hle⟩ := (rnds_best hs n (L := L)).2 k q h.1 (by omega)
  have hy' : (farF n L s).getD k Option.none = Option.some y := hy
  rw [hy', (h.2 y (far_walk hs hy').1).anti2 hle]
theorem wayA_at (r : Nat) (R : List Int) (D W : List Way) (j : Nat) (hj : j < W.length) : ∀ k, (wayA r R D W k).getD j Option.none = if j < k ∧ at0 R j = r then D.getD j Option.none else W.getD j Option.none
  | 0 => by rw [if_neg (by omega)]; rfl
  | k + 1 => by
    have ih := wayA_at r R D W j hj k
    unfold wayA
    split
    · rename_i h
      rw [getD_setW]
      by_cases e : k = j
      · subst e
        rw [if_pos ⟨rfl, by rw [wayA_len]; exact hj⟩, if_pos ⟨by omega, h⟩]
      · rw [if_neg (fun x => e (by first | exact x.1 | exact x.1.symm)), ih]
        by_cases h2 : j < k ∧ at0 R j = r
        · rw [if_pos h2, if_pos ⟨by omega, h2.2⟩]
        · rw [if_neg h2, if_neg (fun x => h2 ⟨by omega, x.2⟩)]
    · rename_i h
      rw [ih]
      by_cases h2 : j < k ∧ at0 R j = r
      · rw [if_pos h2, if_pos ⟨by omega, h2.2⟩]
      · rw [if_neg h2, if_neg (fun x => h2 ⟨by
          by_cases e : j = k
          · exact absurd (by rw [← e]; exact x.2) h
          · omega, x.2⟩)]
theorem wayK_at (n : Nat) (L : List Hp) (R : List Int) {j r : Nat} (hj : j < n) (hr : at0 R j = r) (hrr : at0 R r = r) : ∀ i, i ≤ n → r < i → (wayK n L R i).getD j Option.none = (farF n L r).getD j Option.none
  | 0, _, h => by omega
  | i + 1, hi, h => by
    unfold wayK
    split
    · rename_i hc
      rw [wayA_at i R _ _ j (by rw [wayK_len]; exact hj) n]
      by_cases e : r = i
      · subst e
        rw [if_pos ⟨hj, hr⟩]
      · rw [if_neg (fun x => e (by omega))]
        exact wayK_at n L R hj hr hrr i (by omega) (by omega)
    · rename_i hc
      have e : r ≠ i := fun e => hc (by rw [← e]; exact hrr)
      exact wayK_at n L R hj hr hrr i (by omega) (by omega)
theorem roots_same {N : List Nd} {S : List (List Pl)} {j k : Nat} (hj : j < N.length) (hk : k < N.length) (h : Conn N.length (hopsF N S) j k) : at0 (rootsOf N S) j = at0 (rootsOf N S) k := by
  unfold rootsOf
  rw [rootF_at N (hopsF_sym _ _ _) hj, rootF_at N (hopsF_sym _ _ _) hk, partF_same (hopsF_sym _ _ _) hj hk h]
/-- A bridge's cost is its best way's, from its root. -/
theorem cost_best {N : List Nd} {S : List (List Pl)} {j : Nat} (hj : j < N.length) : ∃ r q, at0 (rootsOf N S) j = (r : Nat) ∧ r < N.length ∧ Bst N.length (hopsF N S) r j q ∧ costW (waysOf N S) j = q.1 := by
  have hb := rootsOf_rng N S j hj
  obtain ⟨r, hr⟩ : ∃ r : Nat, at0 (rootsOf N S) j = r := ⟨_, (Int.toNat_of_nonneg hb.1).symm⟩
  have hc := rootsOf_conn N S j hj
  rw [hr] at hb hc
  rw [Int.toNat_natCast] at hc
  obtain ⟨q, hq⟩ := bst_of hc
  have hrn : r < N.length := by omega
  have hrr : at0 (rootsOf N S) r = r := by rw [roots_same hrn hj hc]; exact hr
  refine ⟨r, q, hr, hrn, hq, ?_⟩
  have e := wayK_at N.length (hopsF N S) (rootsOf N S) hj hr hrr N.length (Nat.le_refl _) hrn
  rw [far_best hrn hq] at e
  have e2 : (waysOf N S).getD j Option.none = Option.some q := e
  unfold costW
  rw [e2]
theorem hop_conn {n : Nat} {L : List Hp} {h : Hp} (hh : h ∈ L) (hok : h.ok n = true) : Conn n L h.f.toNat h.t.toNat := ⟨_, .hop .here hh hok (by have := hok; unfold Hp.ok at this; simp only [Bool.and_eq_true, decide_eq_true_eq] at this; omega)⟩
theorem near_le {N : List Nd} {S : List (List Pl)} {h : Hp} (hh : h ∈ hopsF N S) (hok : h.ok N.length = true) : at0 (rootsOf N S) h.f.toNat = at0 (rootsOf N S) h.t.toNat ∧ costW (waysOf N S) h.t.toNat ≤ costW (waysOf N S) h.f.toNat + h.c.toNat := by
  have hk := hok
  unfold Hp.ok at hk
  simp only [Bool.and_eq_true, decide_eq_true_eq] at hk
  have e := roots_same (N := N) (S := S) (by omega) (by omega) (hop_conn hh hok)
  refine ⟨e, ?_⟩
  obtain ⟨r1, q1, e1, l1, b1, c1⟩ := cost_best (N := N) (S := S) (j := h.f.toNat) (by omega)
  obtain ⟨r2, q2, e2, l2, b2, c2⟩ := cost_best (N := N) (S := S) (j := h.t.toNat) (by omega)
  obtain rfl : r1 = r2 := by omega
  have := b2.2 _ (.hop b1.1 hh hok (by omega))
  unfold Le hopW at this
  dsimp only at this
  omega
theorem near_by {N : List Nd} {S : List (List Pl)} {i : Nat} (hi : i < N.length) (hr : ¬ at0 (rootsOf N S) i = i) : ∃ h ∈ hopsF N S, h.ok N.length = true ∧ h.t.toNat = i ∧ costW (waysOf N S) i = costW (waysOf N S) h.f.toNat + h.c.toNat := by
  obtain ⟨r, q, e, l, b, c⟩ := cost_best (N := N) (S := S) hi
  have hw := b.1
  cases hw with
  | here => exact absurd e hr
  | @hop j q' g hw' h1 h2 h3 =>
    refine ⟨g, h1, h2, rfl, ?_⟩
    have hb := b.back hw' h1 h2 h3
    have hj := walk_lt l hw'
    obtain ⟨r2, q2, e2, l2, b2, c2⟩ := cost_best (N := N) (S := S) hj
    have hrr : at0 (rootsOf N S) r = at0 (rootsOf N S) j := roots_same l hj ⟨_, hw'⟩
    have hcr := roots_same (N := N) (S := S) hj hi ⟨_, .hop .here h1 h2 h3⟩
    obtain rfl : r2 = r := by omega
    have := (hb.2 _ b2.1).anti2 (b2.2 _ hb.1)
    rw [h3, Int.toNat_natCast, c2, c, ← this]
    rfl
/-- Each place on one segment at most. -/
def Uniq (S : List (List Pl)) : Prop := ∀ s s' p, s < S.length → s' < S.length → p ∈ S.getD s [] → p ∈ S.getD s' [] → s = s'
theorem NetOk.uniq {N : List Nd} {S : List (List Pl)} (h : NetOk N S) : Uniq S := fun s s' p hs hs' hp hp' => by
  have hn := h.nodup
  rw [List.nodup_iff_pairwise_ne, List.pairwise_flatten] at hn
  have h2 := hn.2
  rw [List.pairwise_iff_getElem] at h2
  have g : ∀ k (hk : k < S.length), S.getD k [] = S[k] := fun k hk => by rw [List.getD_eq_getElem?_getD, List.getElem?_eq_getElem hk]; rfl
  rw [g s hs] at hp
  rw [g s' hs'] at hp'
  rcases Nat.lt_trichotomy s s' with h1 | h1 | h1
  · exact absurd rfl (h2 s s' hs hs' h1 p hp p hp')
  · exact h1
  · exact absurd rfl (h2 s' s hs' hs h1 p hp' p hp)
theorem raised_in {U : List Bool} {S : List (List Pl)} {s : Nat} {p : Pl} (hs : s < S.length) (h : p ∈ (raisedL U S).getD s []) : U.getD s false = true ∧ p ∈ S.getD s [] := by
  rw [raisedL_at U S hs] at h
  unfold raisedF at h
  split at h
  · rename_i e
    exact ⟨e, h⟩
  · cases h
theorem Uniq.raised {S : List (List Pl)} (h : Uniq S) (U : List Bool) : Uniq (raisedL U S) := fun s s' p hs hs' hp hp' => by
  rw [raisedL_len] at hs hs'
  exact h s s' p hs hs' (raised_in hs hp).2 (raised_in hs' hp').2
theorem putS_out (s : Int) : ∀ (l : List Pl) (f : Pl → Option Int) (x : Pl), x ∉ l → putS s f l x = f x
  | [], _, _, _ => rfl
  | a :: l, f, x, h => by
    rw [List.mem_cons, not_or] at h
    show putS s _ l x = f x
    rw [putS_out s l _ x h.2, if_neg h.1]
theorem putS_in (s : Int) : ∀ (l : List Pl) (f : Pl → Option Int) (x : Pl), x ∈ l → putS s f l x = some s
  | a :: l, f, x, h => by
    show putS s _ l x = some s
    by_cases hx : x ∈ l
    · exact putS_in s l _ x hx
    · rw [putS_out s l _ x hx, if_pos]
      rcases List.mem_cons.1 h with e | e
      · exact e
      · exact absurd e hx
theorem segK_at {S : List (List Pl)} (hu : Uniq S) {s : Nat} {p : Pl} (hp : p ∈ S.getD s []) : ∀ k, k ≤ S.length → s < k → segK S k p = some (s : Int)
  | 0, _, h => by omega
  | k + 1, hk, h => by
    show putS k (segK S k) (S.getD k []) p = _
    by_cases e : s = k
    · subst e
      exact putS_in _ _ _ _ hp
    · rw [putS_out _ _ _ _ (fun hx => e (hu s k p (by omega) (by omega) hp hx))]
      exact segK_at hu hp k (by omega) (by omega)
theorem segF_at {S : List (List Pl)} (hu : Uniq S) {s : Nat} {p : Pl} (hs : s < S.length) (hp : p ∈ S.getD s []) : segF S p = some (s : Int) := segK_at hu hp S.length (Nat.le_refl _) hs
theorem minK_least (cf : Pl → Pl → Int) (f : Pl → Nat) (h1 : ∀ a b, cf a b < 0 → f a ≤ f b) (h2 : ∀ a b, ¬ cf a b < 0 → f b ≤ f a) (S : List Pl) : ∀ k j, j ≤ k → f (minK cf S k) ≤ f (S.getD j (0, 0))
  | 0, j, h => by
    obtain rfl : j = 0 := by omega
    exact Nat.le_refl _
  | k + 1, j, h => by
    have ih := minK_least cf f h1 h2 S k
    unfold minK
    split
    · rename_i hc
      by_cases e : j = k + 1
      · rw [e]
        exact Nat.le_refl _
      · exact Nat.le_trans (h1 _ _ hc) (ih j (by omega))
    · rename_i hc
      by_cases e : j = k + 1
      · rw [e]
        exact h2 _ _ hc
      · exact ih j (by omega)
theorem minF_least (cf : Pl → Pl → Int) (f : Pl → Nat) (h1 : ∀ a b, cf a b < 0 → f a ≤ f b) (h2 : ∀ a b, ¬ cf a b < 0 → f b ≤ f a) {S : List Pl} {x : Pl} (hx : x ∈ S) : f (minF cf S) ≤ f x := by
  obtain ⟨j, hj, rfl⟩ := List.getElem_of_mem hx
  have e : S.getD j (0, 0) = S[j] := by rw [List.getD_eq_getElem?_getD, List.getElem?_eq_getElem hj]; rfl
  rw [← e]
  exact minK_least cf f h1 h2 S (S.length - 1) j (by omega)
theorem offer_le (N : List Nd) (D : List Way) (p q r s more than : Nat) : (offerF N D p q r s more than < 0 → costW D p + more ≤ costW D r + than) ∧ (¬ offerF N D p q r s more than < 0 → costW D r + than ≤ costW D p + more) ∧ (offerF N D p q r s more than = 0 → costW D p + more = costW D r + than) := by
  unfold offerF orI
  rcases cmpI_cases ((costW D p + more : Nat) : Int) ((costW D r + than : Nat) : Int) with ⟨h, e⟩ | ⟨h, h', e⟩ | ⟨h, h', e⟩
  · rw [e, if_neg (by decide)]
    omega
  · rw [e, if_neg (by decide)]
    omega
  · rw [e, if_pos rfl]
    omega
def nearK (N : List Nd) (D : List Way) (f : Pl → Option Int) (By : List Pl) (a : Pl) : Nat := costW D (By.getD ((f a).getD 0).toNat (0, 0)).1.toNat + (costA N a).toNat
theorem nearP_le (N : List Nd) (D : List Way) (f : Pl → Option Int) (By : List Pl) (a b : Pl) : (nearP N D f By a b < 0 → nearK N D f By a ≤ nearK N D f By b) ∧ (¬ nearP N D f By a b < 0 → nearK N D f By b ≤ nearK N D f By a) := by
  unfold nearP
  have h := offer_le N D (By.getD ((f a).getD 0).toNat (0, 0)).1.toNat (By.getD ((f a).getD 0).toNat (0, 0)).2.toNat (By.getD ((f b).getD 0).toNat (0, 0)).1.toNat (By.getD ((f b).getD 0).toNat (0, 0)).2.toNat (ptA N a.1.toNat a.2.toNat).cost.toNat (ptA N b.1.toNat b.2.toNat).cost.toNat
  have ea : nearK N D f By a = costW D (By.getD ((f a).getD 0).toNat (0, 0)).1.toNat + (ptA N a.1.toNat a.2.toNat).cost.toNat := rfl
  have eb : nearK N D f By b = costW D (By.getD ((f b).getD 0).toNat (0, 0)).1.toNat + (ptA N b.1.toNat b.2.toNat).cost.toNat := rfl
  rw [ea, eb]
  generalize offerF N D (By.getD ((f a).getD 0).toNat (0, 0)).1.toNat (By.getD ((f a).getD 0).toNat (0, 0)).2.toNat (By.getD ((f b).getD 0).toNat (0, 0)).1.toNat (By.getD ((f b).getD 0).toNat (0, 0)).2.toNat (ptA N a.1.toNat a.2.toNat).cost.toNat (ptA N b.1.toNat b.2.toNat).cost.toNat = o at h ⊢
  unfold orI
  by_cases h0 : o = 0
  · have := h.2.2 h0
    omega
  · rw [if_neg h0]
    exact ⟨h.1, h.2.1⟩
theorem des_least {N : List Nd} {D : List Way} {seg : List Pl} {x : Pl} (hx : x ∈ seg) : costW D (desF N D seg).1.toNat ≤ costW D x.1.toNat := by
  unfold desF
  have h1 : 0 < seg.length := List.length_pos_of_mem hx
  rw [if_neg (by omega)]
  refine minF_least (offerP N D) (fun a => costW D a.1.toNat) (fun a b h => ?_) (fun a b h => ?_) hx
  · have := (offer_le N D a.1.toNat a.2.toNat b.1.toNat b.2.toNat 0 0).1 h
    omega
  · have := (offer_le N D a.1.toNat a.2.toNat b.1.toNat b.2.toNat 0 0).2.1 h
    omega
theorem alL_at (f : Pl → Option Int) (By : List Pl) (i : Nat) {k np : Nat} (hk : k < np) : at0 (alL f By i np) k = alK f By i k := by
  unfold at0 alL
  rw [List.getD_eq_getElem?_getD, List.getElem?_map, List.getElem?_range hk]
  rfl
theorem mem_waL {f : Pl → Option Int} {By : List Pl} {i np : Nat} {p : Pl} : p ∈ waL f By i np ↔ ∃ j, j < np ∧ alK f By i j = 1 ∧ p = ((i : Int), (j : Int)) := by
  unfold waL
  rw [List.mem_map]
  constructor
  · rintro ⟨j, hj, rfl⟩
    obtain ⟨h1, h2⟩ := List.mem_filter.1 hj
    exact ⟨j, List.mem_range.1 h1, by simpa using h2, rfl⟩
  · rintro ⟨j, h1, h2, rfl⟩
    exact ⟨j, List.mem_filter.2 ⟨List.mem_range.2 h1, by simpa using h2⟩, rfl⟩
theorem alone_set (f : Pl → Option Int) (By : List Pl) (a : Pl) : aloneF f By a = 0 ∨ aloneF f By a = 1 ∨ aloneF f By a = 2 ∨ aloneF f By a = 4 := by
  unfold aloneF
  split
  · exact .inl rfl
  · split
    · exact .inr (.inr (.inr rfl))
    · split
      · exact .inr (.inr (.inl rfl))
      · exact .inr (.inl rfl)
theorem alone_one {f : Pl → Option Int} {By : List Pl} {a : Pl} (h : aloneF f By a = 1) : ∃ s, f a = some s ∧ (By.getD s.toNat (0, 0)).1 ≠ a.1 := by
  unfold aloneF at h
  split at h
  · cases h
  · rename_i s e
    split at h
    · cases h
    · split at h
      · cases h
      · rename_i h2
        exact ⟨s, e, h2⟩
abbrev rolesOf (N : List Nd) (S : List (List Pl)) (i : Nat) : List Int := roleF N (waysOf N S) (rootsOf N S) (segF S) (byOf N S) i
abbrev npA (N : List Nd) (i : Nat) : Nat := (N.getD i default).ports.length
theorem alone_eq {f : Pl → Option Int} {By : List Pl} {a : Pl} {s : Int} (h : f a = some s) : aloneF f By a = if By.getD s.toNat (0, 0) = a then 4 else if (By.getD s.toNat (0, 0)).1 = a.1 then 2 else 1 := by
  unfold aloneF
  rw [h]
/-- What a bridge's root port is. -/
structure RootAt (N : List Nd) (S : List (List Pl)) (i k s j : Nat) : Prop where
  port : k < npA N i
  al : alK (segF S) (byOf N S) i k = 1
  role : rolesOf N S i = (alL (segF S) (byOf N S) i (npA N i)).set k 3
  seg : s < S.length
  mem : (((i : Int), (k : Int)) : Pl) ∈ S.getD s []
  by_ : ((byOf N S).getD s (0, 0)).1 = (j : Nat)
  lt : j < N.length
  root : at0 (rootsOf N S) j = at0 (rootsOf N S) i
  cost : costW (waysOf N S) i = costW (waysOf N S) j + (costA N ((i : Int), (k : Int))).toNat
  one : 1 ≤ costA N ((i : Int), (k : Int))
theorem role_root {N : List Nd} {S : List (List Pl)} (hok : ∀ seg ∈ S, ∀ p ∈ seg, PlOk N p) (hu : Uniq S) (hpos : ∀ p, PlOk N p → 1 ≤ costA N p) {i : Nat} (hi : i < N.length) (hr : ¬ at0 (rootsOf N S) i = i) : ∃ k s j, RootAt N S i k s j := by
  obtain ⟨h, hh, hk, ht, hc⟩ := near_by hi hr
  obtain ⟨seg, hs, hf, p, hp, hne, he⟩ := mem_hopsF.1 hh
  obtain ⟨p', hp', hpe⟩ := mem_brF.1 hf
  have okp := hok _ hs p hp
  obtain ⟨s0, hs0, rfl⟩ := mem_getD hs
  have fs := segF_at hu hs0 hp
  have ec : h.c = costA N p := by rw [he]
  have et : h.t = p.1 := by rw [he]
  have pos := hpos p okp
  have hrg := ok_t hk
  have hby : (byOf N S).getD s0 (0, 0) = desF N (waysOf N S) (S.getD s0 []) := byOf_at N S hs0
  have hdl := des_least (N := N) (D := waysOf N S) hp'
  rw [hpe] at hdl
  have hdm := desF_mem (N := N) (D := waysOf N S) (seg := S.getD s0 []) (List.length_pos_of_mem hp)
  have okd := hok _ hs _ hdm
  obtain ⟨pi, pk⟩ := p
  obtain ⟨o1, o2, o3, o4⟩ := okp
  dsimp only at o1 o2 o3 o4 et
  obtain ⟨k0, rfl⟩ : ∃ k0 : Nat, pk = k0 := ⟨_, (Int.toNat_of_nonneg o3).symm⟩
  obtain rfl : pi = (i : Int) := by omega
  rw [Int.toNat_natCast] at o4
  have al0 : alK (segF S) (byOf N S) i k0 = 1 := by
    have hn : (desF N (waysOf N S) (S.getD s0 [])).1 ≠ (i : Int) := fun e => by
      rw [e, Int.toNat_natCast] at hdl
      omega
    unfold alK
    rw [alone_eq fs, Int.toNat_natCast, hby, if_neg (fun e => hn (by rw [e])), if_neg hn]
  have hm0 : (((i : Int), (k0 : Int)) : Pl) ∈ waL (segF S) (byOf N S) i (npA N i) := mem_waL.2 ⟨k0, by unfold npA; omega, al0, rfl⟩
  have hlen := List.length_pos_of_mem hm0
  have hmm := minF_mem (nearP N (waysOf N S) (segF S) (byOf N S)) _ hlen
  have hle := minF_least (nearP N (waysOf N S) (segF S) (byOf N S)) (nearK N (waysOf N S) (segF S) (byOf N S)) (fun a b => (nearP_le _ _ _ _ a b).1) (fun a b => (nearP_le _ _ _ _ a b).2) hm0
  obtain ⟨k, hkn, hal, hke⟩ := mem_waL.1 hmm
  rw [hke] at hle
  obtain ⟨v, hv, hvn⟩ := alone_one hal
  obtain ⟨s, rfl, hsl, hsm⟩ := segK_some S S.length _ v hv
  have hby2 : (byOf N S).getD s (0, 0) = desF N (waysOf N S) (S.getD s []) := byOf_at N S hsl
  have hsS : S.getD s [] ∈ S := by
    rw [List.getD_eq_getElem?_getD, List.getElem?_eq_getElem hsl]
    exact List.getElem_mem hsl
  have hdm2 := desF_mem (N := N) (D := waysOf N S) (seg := S.getD s []) (List.length_pos_of_mem hsm)
  rw [Int.toNat_natCast, hby2] at hvn
  dsimp only at hvn
  obtain ⟨d1, d2, d3, d4⟩ := hok _ hsS _ hdm2
  have okm := hok _ hsS _ hsm
  have pos2 := hpos _ okm
  obtain ⟨j, hj⟩ : ∃ j : Nat, (desF N (waysOf N S) (S.getD s [])).1 = j := ⟨_, (Int.toNat_of_nonneg d1).symm⟩
  have hl2 := near_le (N := N) (S := S) (h := ⟨(desF N (waysOf N S) (S.getD s [])).1, (i : Int), costA N ((i : Int), (k : Int))⟩) (mem_hopsF.2 ⟨S.getD s [], hsS, mem_brF.2 ⟨_, hdm2, rfl⟩, _, hsm, fun e => hvn e.symm, rfl⟩) (by
    unfold Hp.ok
    simp only [Bool.and_eq_true, decide_eq_true_eq]
    omega)
  dsimp only at hl2
  have n1 : nearK N (waysOf N S) (segF S) (byOf N S) ((i : Int), (k : Int)) = costW (waysOf N S) j + (costA N ((i : Int), (k : Int))).toNat := by
    have hv' : segF S ((i : Int), (k : Int)) = some (s : Int) := hv
    unfold nearK
    rw [hv', Option.getD_some, Int.toNat_natCast, hby2, hj, Int.toNat_natCast]
  have n2 : nearK N (waysOf N S) (segF S) (byOf N S) ((i : Int), (k0 : Int)) ≤ costW (waysOf N S) i := by
    unfold nearK
    rw [fs, Option.getD_some, Int.toNat_natCast, hby]
    omega
  rw [hj, Int.toNat_natCast, Int.toNat_natCast] at hl2
  refine ⟨k, s, j, hkn, hal, ?_, hsl, hsm, by rw [hby2, hj], by omega, hl2.1, by omega, pos2⟩
  unfold rolesOf roleF
  dsimp only
  rw [if_pos ⟨hr, hlen⟩, hke, Int.toNat_natCast]
theorem zero_fp : ∀ w, (zeroValue 59).run Try.prog w = .ok (.agg PZ2) w := (zero_of_info (P := Try.prog) (t := 59) (v := .agg PZ2) (n := 2) (by kernel_rfl)).1
theorem size_fp : (Try.prog.info? 59).map (·.size) = some 2 := by kernel_rfl
theorem node_open {w : World} {nv : Value} {N : List Nd} (h : NodesAt w nv N) (h1 : 1 ≤ N.length) : ∃ nb no ncap, nv = .slice (some ⟨nb, no, none⟩) N.length ncap ∧ (∀ W', Ext w W' → ∀ i, i < N.length → W'.cell? ⟨nb, no + i * 3, none⟩ = some (.int .u64 (idA N i))) ∧
    ∀ i, i < N.length → ∃ a cap, (∀ W', Ext w W' → W'.cell? ⟨nb, no + i * 3 + 2, none⟩ = some (.slice a (npA N i) cap)) ∧ (0 < npA N i → ∃ pb po, a = some ⟨pb, po, none⟩ ∧ ∀ W', Ext w W' → ∀ k, k < npA N i → W'.cell? ⟨pb, po + k * 5 + 1, none⟩ = some (.int .u32 (ptA N i k).cost)) := by
  obtain ⟨pv, ⟨na, ncap, rfl, hnm, hnf⟩, hpt⟩ := h
  obtain ⟨nb, no, rfl, hb, -, -, h3⟩ := hnf (by omega)
  refine ⟨nb, no, ncap, rfl, fun W' hx i hi => ?_, fun i hi => ?_⟩
  · have := h3 i hi 0 _ rfl
    rw [Nat.add_zero] at this
    exact (hx.cell hb).trans this
  · obtain ⟨a, cap, e, -, hf⟩ := hpt i hi
    refine ⟨a, cap, fun W' hx => ?_, fun h0 => ?_⟩
    · have := h3 i hi 2 _ rfl
      rw [e] at this
      exact (hx.cell hb).trans this
    · obtain ⟨pb, po, e1, hpb, -, -, h4⟩ := hf h0
      exact ⟨pb, po, e1, fun W' hx k hk => (hx.cell hpb).trans (h4 k hk 1 _ rfl)⟩
theorem segs_open {w : World} {sv : Value} {S : List (List Pl)} (h : SegsAt w sv S) (h1 : 1 ≤ S.length) : ∃ sb so scap, sv = .slice (some ⟨sb, so, none⟩) S.length scap ∧
    ∀ i, i < S.length → ∃ a cap, (∀ W', Ext w W' → W'.cell? ⟨sb, so + i, none⟩ = some (.slice a (S.getD i []).length cap)) ∧ (0 < (S.getD i []).length → ∃ pb po, a = some ⟨pb, po, none⟩ ∧ ∀ W', Ext w W' → ∀ k, k < (S.getD i []).length → W'.rangeAt pb (po + k * 2) (plL ((S.getD i []).getD k (0, 0)))) := by
  obtain ⟨pv, ⟨sa, scap, rfl, hsm, hsf⟩, hpl⟩ := h
  obtain ⟨sb, so, rfl, hb, -, -, h3⟩ := hsf (by omega)
  refine ⟨sb, so, scap, rfl, fun i hi => ?_⟩
  obtain ⟨a, cap, e, -, hf⟩ := hpl i hi
  refine ⟨a, cap, fun W' hx => ?_, fun h0 => ?_⟩
  · have := h3 i hi 0 _ rfl
    rw [Nat.add_zero, Nat.mul_one, e] at this
    exact (hx.cell hb).trans this
  · obtain ⟨pb, po, e1, hpb, -, -, h4⟩ := hf h0
    exact ⟨pb, po, e1, fun W' hx k hk => rangeR_ext (h4 k hk) hx hpb⟩
theorem plan_open2 {w : World} {v : Value} {p : Pn} {n m : Nat} (h : PlanAt w v p) (hr : p.root.length = n) (hc : p.cost.length = n) (hb : p.by_.length = m) (hro : p.roles.length = n) (h1 : 1 ≤ n) (h2 : 1 ≤ m) :
    ∃ aa ao ca ba bo cb ya yo cc da dof cd, v = .agg #[.slice (some ⟨aa, ao, none⟩) n ca, .slice (some ⟨ba, bo, none⟩) n cb, .slice (some ⟨ya, yo, none⟩) m cc, .slice (some ⟨da, dof, none⟩) n cd] ∧
      (∀ W', Ext w W' → ∀ i, i < n → W'.cell? ⟨aa, ao + i, none⟩ = some (.int .u64 (at0 p.root i)) ∧ W'.cell? ⟨ba, bo + i, none⟩ = some (.int .u32 (at0 p.cost i))) ∧
      (∀ W', Ext w W' → ∀ s, s < m → W'.cell? ⟨ya, yo + s * 2, none⟩ = some (.int .i64 (p.by_.getD s (0, 0)).1)) ∧
      ∀ i, i < n → ∃ a cap, (∀ W', Ext w W' → W'.cell? ⟨da, dof + i, none⟩ = some (.slice a (p.roles.getD i []).length cap)) ∧ (0 < (p.roles.getD i []).length → ∃ pb po, a = some ⟨pb, po, none⟩ ∧ ∀ W', Ext w W' → ∀ k, k < (p.roles.getD i []).length → W'.cell? ⟨pb, po + k, none⟩ = some (.int .i64 (at0 (p.roles.getD i []) k))) := by
  obtain ⟨pa, pb, pc, pd, rfl, ⟨aa, acap, rfl, -, haf⟩, ⟨ab, bcap, rfl, -, hbf⟩, ⟨ac, ccap, rfl, -, hcf⟩, ⟨rv, ⟨da, dcap, rfl, -, hdf⟩, hrv⟩⟩ := h
  rw [hr] at haf ⊢
  rw [hc] at hbf ⊢
  rw [hb] at hcf ⊢
  rw [hro] at hdf hrv ⊢
  obtain ⟨a1, o1, rfl, l1, -, -, f1⟩ := haf (by omega)
  obtain ⟨a2, o2, rfl, l2, -, -, f2⟩ := hbf (by omega)
  obtain ⟨a3, o3, rfl, l3, -, -, f3⟩ := hcf (by omega)
  obtain ⟨a4, o4, rfl, l4, -, -, f4⟩ := hdf (by omega)
  refine ⟨a1, o1, acap, a2, o2, bcap, a3, o3, ccap, a4, o4, dcap, rfl, fun W' hx i hi => ⟨?_, ?_⟩, fun W' hx s hs => ?_, fun i hi => ?_⟩
  · have := f1 i hi 0 _ rfl
    rw [Nat.add_zero, Nat.mul_one] at this
    exact (hx.cell l1).trans this
  · have := f2 i hi 0 _ rfl
    rw [Nat.add_zero, Nat.mul_one] at this
    exact (hx.cell l2).trans this
  · have := f3 s hs 0 _ rfl
    rw [Nat.add_zero] at this
    exact (hx.cell l3).trans this
  · obtain ⟨a, cap, e, hf⟩ := (hrv i hi).a
    refine ⟨a, cap, fun W' hx => ?_, fun h0 => ?_⟩
    · have := f4 i hi 0 _ rfl
      rw [Nat.add_zero, Nat.mul_one, e] at this
      exact (hx.cell l4).trans this
    · obtain ⟨b, off, e1, hb1, hr1⟩ := hf h0
      refine ⟨b, off, e1, fun W' hx k hk => ?_⟩
      have e2 : at0 (p.roles.getD i []) k = (p.roles.getD i [])[k] := by unfold at0; rw [List.getD_eq_getElem?_getD (l := p.roles.getD i []), List.getElem?_eq_getElem hk]; rfl
      rw [e2]
      exact (hx.cell hb1).trans (hr1 k hk)
theorem roles_at {N : List Nd} {S : List (List Pl)} {i : Nat} (hi : i < N.length) : (planF N S).roles.getD i [] = rolesOf N S i := by
  show ((List.range N.length).map _).getD i [] = _
  rw [List.getD_eq_getElem?_getD, List.getElem?_map, List.getElem?_range hi]
  rfl
theorem NetOk.pos {N : List Nd} {S : List (List Pl)} (h : NetOk N S) : ∀ p, PlOk N p → 1 ≤ costA N p := fun p hp => by
  obtain ⟨h1, h2, h3, h4⟩ := hp
  have hi : p.1.toNat < N.length := by omega
  have hN : N.getD p.1.toNat default ∈ N := by
    rw [List.getD_eq_getElem?_getD, List.getElem?_eq_getElem hi]
    exact List.getElem_mem hi
  have hk : p.2.toNat < (N.getD p.1.toNat default).ports.length := by omega
  have hP : (N.getD p.1.toNat default).ports.getD p.2.toNat default ∈ (N.getD p.1.toNat default).ports := by
    rw [List.getD_eq_getElem?_getD (l := (N.getD p.1.toNat default).ports), List.getElem?_eq_getElem hk]
    exact List.getElem_mem hk
  obtain ⟨a, b, c⟩ := (h.nodes.1 _ hN).2.2.1 _ hP
  unfold costA
  omega
theorem at0_put (l : List Int) (k j : Nat) (x : Int) (hk : k < l.length) : at0 (l.set k x) j = if k = j then x else at0 l j := by
  unfold at0
  rw [List.getD_eq_getElem?_getD, List.getD_eq_getElem?_getD, List.getElem?_set]
  by_cases e : k = j
  · subst e
    rw [if_pos rfl, if_pos rfl, if_pos hk]
    rfl
  · rw [if_neg e, if_neg e]
theorem alK_set (f : Pl → Option Int) (By : List Pl) (i k : Nat) : alK f By i k = 0 ∨ alK f By i k = 1 ∨ alK f By i k = 2 ∨ alK f By i k = 4 := alone_set f By _
theorem nd_inj {L : List Pl} (h : L.Nodup) {i j : Nat} (hi : i < L.length) (hj : j < L.length) (e : L[i] = L[j]) : i = j := by
  rw [List.nodup_iff_pairwise_ne, List.pairwise_iff_getElem] at h
  rcases Nat.lt_trichotomy i j with h1 | h1 | h1
  · exact absurd e (h i j hi hj h1)
  · exact h1
  · exact absurd e.symm (h j i hj hi h1)
/-- How many cost less. -/
def rkA (c : Nat → Int) (x : Int) : Nat → Nat
  | 0 => 0
  | n + 1 => rkA c x n + if c n < x then 1 else 0
theorem rkA_le (c : Nat → Int) (x : Int) : ∀ n, rkA c x n ≤ n
  | 0 => Nat.le_refl _
  | n + 1 => by
    have := rkA_le c x n
    unfold rkA
    split <;> omega
theorem rkA_mono (c : Nat → Int) {x y : Int} (h : x ≤ y) : ∀ n, rkA c x n ≤ rkA c y n
  | 0 => Nat.le_refl _
  | n + 1 => by
    have := rkA_mono c h n
    unfold rkA
    by_cases h1 : c n < x
    · rw [if_pos h1, if_pos (by omega)]
      omega
    · rw [if_neg h1]
      omega
theorem rkA_lt (c : Nat → Int) {x y : Int} (h : x < y) {j : Nat} (hj : c j = x) : ∀ n, j < n → rkA c x n < rkA c y n
  | 0, h => by omega
  | n + 1, hn => by
    have hm := rkA_mono c (Int.le_of_lt h) n
    unfold rkA
    by_cases e : j = n
    · subst e
      rw [if_neg (by omega), if_pos (by omega)]
      omega
    · have := rkA_lt c h hj n (by omega)
      by_cases h1 : c n < x
      · rw [if_pos h1, if_pos (by omega)]
        omega
      · rw [if_neg h1]
        omega
/-- What stands once the place kk of segment sr has been met. -/
def metI (sr kk s k : Nat) (a b : Int) : Int := if sr < s ∨ sr = s ∧ kk < k then a else b
theorem metI_zero (sr kk : Nat) (a b : Int) : metI sr kk 0 0 a b = b := by unfold metI; rw [if_neg (by omega)]
theorem metI_last {sr kk s : Nat} (h : sr < s) (a b : Int) : metI sr kk s 0 a b = a := by unfold metI; rw [if_pos (by omega)]
theorem metI_seg {sr kk s m : Nat} (h : sr = s → kk < m) (a b : Int) : metI sr kk s m a b = metI sr kk (s + 1) 0 a b := by
  unfold metI
  by_cases h1 : sr < s + 1
  · rw [if_pos (show sr < s ∨ sr = s ∧ kk < m by omega), if_pos (show sr < s + 1 ∨ sr = s + 1 ∧ kk < 0 by omega)]
  · rw [if_neg (show ¬ (sr < s ∨ sr = s ∧ kk < m) by omega), if_neg (show ¬ (sr < s + 1 ∨ sr = s + 1 ∧ kk < 0) by omega)]
theorem metI_at {sr kk s k : Nat} (h : s = sr ∧ k = kk) (a b : Int) : metI sr kk s k a b = b ∧ metI sr kk s (k + 1) a b = a := by
  unfold metI
  rw [if_neg (show ¬ (sr < s ∨ sr = s ∧ kk < k) by omega), if_pos (show sr < s ∨ sr = s ∧ kk < k + 1 by omega)]
  exact ⟨rfl, rfl⟩
theorem metI_not {sr kk s k : Nat} (h : ¬ (s = sr ∧ k = kk)) (a b : Int) : metI sr kk s (k + 1) a b = metI sr kk s k a b := by
  unfold metI
  by_cases h1 : sr < s ∨ sr = s ∧ kk < k
  · rw [if_pos h1, if_pos (show sr < s ∨ sr = s ∧ kk < k + 1 by omega)]
  · rw [if_neg h1, if_neg (show ¬ (sr < s ∨ sr = s ∧ kk < k + 1) by omega)]
theorem cost_small {N : List Nd} {S0 : List (List Pl)} (h : NetOk N S0) (U : List Bool) {i : Nat} (hi : i < N.length) : 0 ≤ at0 (planF N (raisedL U S0)).cost i ∧ at0 (planF N (raisedL U S0)).cost i < 4294967296 := by
  rw [cost_at hi]
  obtain ⟨r, q, e, l, b, c⟩ := cost_best (N := N) (S := raisedL U S0) hi
  have h1 := walk_cost b.1 (hopsF_cost (M := 200000000) (raisedL_ok h.sok) (fun x hx q hq => ((h.nodes.1 x hx).2.2.1 q hq).2.2))
  have h2 := bst_short l b
  have h3 := h.one.2
  have h4 : q.2 * 200000000 ≤ 4 * 200000000 := Nat.mul_le_mul_right _ (by omega)
  rw [c]
  omega
/-- A root costs nothing. -/
theorem cost_own {N : List Nd} {S0 : List (List Pl)} (h : NetOk N S0) (U : List Bool) {i : Nat} (hi : i < N.length) (hr : at0 (planF N (raisedL U S0)).root i = idA N i) : at0 (planF N (raisedL U S0)).cost i = 0 := by
  rw [root_at hi] at hr
  have hrg := rootsOf_rng N (raisedL U S0) i hi
  have e2 := h.ids _ _ (by omega) hi hr
  rw [cost_at hi]
  obtain ⟨r, q, e, l, b, c⟩ := cost_best (N := N) (S := raisedL U S0) hi
  obtain rfl : r = i := by omega
  have := b.2 _ .here
  unfold Le at this
  dsimp only at this
  omega
/-- From a bridge that isn't root one place leads on. -/
theorem root_way {N : List Nd} {S0 : List (List Pl)} (h : NetOk N S0) (U : List Bool) {i : Nat} (hi : i < N.length) (hr : at0 (planF N (raisedL U S0)).root i ≠ idA N i) : ∃ kr sr kk j, kr < npA N i ∧ sr < S0.length ∧ kk < (S0.getD sr []).length ∧ (S0.getD sr []).getD kk (0, 0) = ((i : Int), (kr : Int)) ∧
    ((planF N (raisedL U S0)).by_.getD sr (0, 0)).1 = (j : Nat) ∧ j < N.length ∧ at0 (planF N (raisedL U S0)).root j = at0 (planF N (raisedL U S0)).root i ∧ at0 (planF N (raisedL U S0)).cost i = at0 (planF N (raisedL U S0)).cost j + (ptA N i kr).cost ∧ 1 ≤ (ptA N i kr).cost ∧
    ∀ s k, s < S0.length → k < (S0.getD s []).length → PlOk N ((S0.getD s []).getD k (0, 0)) ∧ (((S0.getD s []).getD k (0, 0)).1 = i ∧ at0 ((planF N (raisedL U S0)).roles.getD i []) ((S0.getD s []).getD k (0, 0)).2.toNat = 3 ↔ s = sr ∧ k = kk) := by
  have hrg := rootsOf_rng N (raisedL U S0) i hi
  have hr2 : ¬ at0 (rootsOf N (raisedL U S0)) i = i := fun e => hr (by rw [root_at hi, e, Int.toNat_natCast])
  obtain ⟨kr, sr, j, ra⟩ := role_root (raisedL_ok h.sok) (h.uniq.raised U) h.pos hi hr2
  have hsr : sr < S0.length := by have := ra.seg; rw [raisedL_len] at this; exact this
  obtain ⟨hU, hmem⟩ := raised_in hsr ra.mem
  have hS : S0.getD sr [] ∈ S0 := by
    rw [List.getD_eq_getElem?_getD, List.getElem?_eq_getElem hsr]
    exact List.getElem_mem hsr
  obtain ⟨kk, hkk, he⟩ := List.getElem_of_mem hmem
  have hec : costA N ((i : Int), (kr : Int)) = (ptA N i kr).cost := by unfold costA ptA; rw [Int.toNat_natCast, Int.toNat_natCast]
  have hget : ∀ (L : List Pl) (k : Nat) (hk : k < L.length), L.getD k (0, 0) = L[k] := fun L k hk => by rw [List.getD_eq_getElem?_getD, List.getElem?_eq_getElem hk]; rfl
  have one := ra.one
  have cst := ra.cost
  rw [hec] at one cst
  refine ⟨kr, sr, kk, j, ra.port, hsr, hkk, by rw [hget _ _ hkk, he], ra.by_, ra.lt, by rw [root_at ra.lt, root_at hi, ra.root], by rw [cost_at hi, cost_at ra.lt, cst]; omega, one, fun s k hs hk => ?_⟩
  have hSs : S0.getD s [] ∈ S0 := by
    rw [List.getD_eq_getElem?_getD, List.getElem?_eq_getElem hs]
    exact List.getElem_mem hs
  have hm : (S0.getD s []).getD k (0, 0) ∈ S0.getD s [] := by rw [hget _ _ hk]; exact List.getElem_mem hk
  have ok := h.sok _ hSs _ hm
  refine ⟨ok, ?_⟩
  have hnd : (S0.getD sr []).Nodup := by
    have hn := h.nodup
    rw [List.nodup_iff_pairwise_ne, List.pairwise_flatten] at hn
    exact hn.1 _ hS
  have hport := ra.port
  have hrole : ∀ m, m < npA N i → (at0 ((planF N (raisedL U S0)).roles.getD i []) m = 3 ↔ m = kr) := fun m hm => by
    rw [roles_at hi, ra.role, at0_put _ _ _ _ (by rw [alL_len]; exact ra.port), alL_at _ _ _ hm]
    by_cases e : kr = m
    · rw [if_pos e]
      omega
    · rw [if_neg e]
      rcases alK_set (segF (raisedL U S0)) (byOf N (raisedL U S0)) i m with e | e | e | e <;> rw [e] <;> omega
  constructor
  · rintro ⟨h1, h2⟩
    obtain ⟨o1, o2, o3, o4⟩ := ok
    rw [h1, Int.toNat_natCast] at o4
    have e3 := (hrole _ (by unfold npA; omega)).1 h2
    have e4 : (S0.getD s []).getD k (0, 0) = ((i : Int), (kr : Int)) := Prod.ext h1 (by show _ = (kr : Int); omega)
    rw [e4] at hm
    obtain rfl := h.uniq s sr _ hs hsr hm hmem
    refine ⟨rfl, ?_⟩
    rw [hget _ _ hk, ← he] at e4
    exact nd_inj hnd hk hkk e4
  · rintro ⟨rfl, rfl⟩
    have e4 : (S0.getD s []).getD k (0, 0) = ((i : Int), (kr : Int)) := by rw [hget _ _ hkk, he]
    rw [e4]
    exact ⟨rfl, (hrole kr hport).2 rfl⟩
set_option maxRecDepth 100000 in
set_option maxHeartbeats 16000000 in
theorem law_PlanWays {w : World} (v : Value) (t : Tn) (ht : TinyA w v t) (hr : TnR t) (u : Int) (hu : 0 ≤ u ∧ u < 256) :
    Calls Try.prog 5 #[v, .int .u8 u] w fun e w' => e = .returned (.bool true) ∧ Ext w w' := by
  obtain ⟨a, b, hv, hab⟩ := id ht
  subst hv
  have ha1 : a.oneCell' = true := by obtain ⟨_, _, e, _⟩ := hab.1; rw [e]; rfl
  have hb1 : b.oneCell' = true := by obtain ⟨_, ⟨_, _, e, _⟩, _⟩ := hab.2.1; rw [e]; rfl
  have HO0 := Lib.hid (show (#[.int .u8 t.rst, a, b, .int .u8 t.edge] : Array Value).toList.all (·.oneCell') = true from by
    show (true && (a.oneCell' && (b.oneCell' && true))) = true
    rw [ha1, hb1]
    rfl)
  have HT := Lib.hid ht
  have HR := Lib.hid hr
  have HU := Lib.hid hu
  clear ht hr hu hab ha1 hb1
  go_enter Try.func5, Try.ntmps5
  go_wp2_with (first
    | fail
    | ((with_reducible refine at_box 25 ?_); refine bx_row rfl 25 _ rfl #[.int .u8 t.rst, a, b, .int .u8 t.edge] rfl ?_
       intro X wa hX hsz hx1
       have HXa := Lib.hid (show BoxAt wa X #[.int .u8 t.rst, a, b, .int .u8 t.edge] 25 from hX)
       have HEa := Lib.hid hx1
       clear hX hsz hx1))
  refine (awake_any wa).mono ?_
  rintro e w1 ⟨rfl, hx1⟩
  have HX1 := Lib.hid (HXa.out.ext hx1)
  have HE1 := Lib.hid (HEa.out.trans hx1)
  clear hx1
  go_wp2_with (first
    | fail
    | ((with_reducible refine at_load 25 ?_); refine wpList_load_row rfl 25 _ rfl X rfl 25 #[.int .u8 t.rst, a, b, .int .u8 t.edge] (0, 0) _ HX1.out Try.underlying25 rfl size_ti ?_))
  have htin := HT.out
  refine (tiny_any (.agg #[.int .u8 t.rst, a, b, .int .u8 t.edge]) t w1 (by obtain ⟨a', b', e1, h1, h2, h3⟩ := htin; exact ⟨a', b', e1, h1.ext HE1.out, h2.ext HE1.out, h3⟩)).mono ?_
  clear htin
  rintro e w2 ⟨nv, sv, rfl, h1, h2, h3, hx2⟩
  obtain ⟨ok, hok⟩ : ∃ ok, okT t = ok := ⟨_, rfl⟩
  rw [hok] at h3 ⊢
  have HOK := Lib.hid hok
  have H3 := Lib.hid h3
  have HX2 := Lib.hid (HX1.out.ext hx2)
  have HE2 := Lib.hid (HE1.out.trans hx2)
  have HON := Lib.hid (show (#[.int .i64 0, .int .i64 20, .int .i64 2, .int .i64 15, .int .i64 6, .int .i64 20, .int .i64 300, nv, sv] : Array Value).toList.all (·.oneCell') = true from by
    show (true && (true && (true && (true && (true && (true && (true && (nv.oneCell' && (sv.oneCell' && true))))))))) = true
    rw [h1, h2]
    rfl)
  clear h1 h2 h3 hx2 hok
  cases ok with
  | false =>
    go_wp2_with (first
      | fail
      | ((with_reducible refine at_alloc 32 ?_); refine al_zero rfl 32 rfl NZ zero_rn ?_
         intro V w3 hq3 hsz3 hx3)
      | ((with_reducible refine at_store 32 ?_); refine st_at rfl rfl 32 _ _ rfl V 0 _ #[.int .i64 0, .int .i64 20, .int .i64 2, .int .i64 15, .int .i64 6, .int .i64 20, .int .i64 300, nv, sv] NZ #[.int .i64 0, .int .i64 20, .int .i64 2, .int .i64 15, .int .i64 6, .int .i64 20, .int .i64 300, nv, sv] 32 rfl rfl rfl hq3 (by exact (by decide : 0 + 9 ≤ 9)) (by kernel_rfl) HON.out rfl ?_
         intro w4 hq4 hm4
         have E4 : Ext w2 w4 := hx3.mutE hm4 (fun g hg h => by have h2 : g = V := h; omega)
         have HVV0 := Lib.hid (show BoxAt w4 V #[.int .i64 0, .int .i64 20, .int .i64 2, .int .i64 15, .int .i64 6, .int .i64 20, .int .i64 300, nv, sv] 32 from hq4)
         have HE4 := Lib.hid E4
         clear hq3 hsz3 hx3 hq4 hm4 E4 w3))
    go_ret
    exact ⟨rfl, HE2.out.trans HE4.out⟩
  | true =>
    have HNT := Lib.hid (H3.out rfl)
    obtain ⟨n, hn⟩ : ∃ n, t.ports.length = n := ⟨_, rfl⟩
    have hn1 : 1 ≤ n ∧ n ≤ 5 := by obtain ⟨q1, q2, _⟩ := okT_spec HOK.out; omega
    have HNN := Lib.hid hn
    obtain ⟨nb, no, ncap, hnve, hids, hnp⟩ := node_open HNT.out.1 (by rw [nodesT_len, hn]; exact hn1.1)
    rw [nodesT_len, hn] at hnve hids hnp
    have HNV := Lib.hid hnve
    clear hnve
    have HID := Lib.hid hids
    have HNP := Lib.hid hnp
    obtain ⟨sb, so, scap, hsve, hsegs⟩ := segs_open HNT.out.2 (by rw [segsT_len]; omega)
    rw [segsT_len] at hsve hsegs
    have HSVE := Lib.hid hsve
    have HSG := Lib.hid hsegs
    clear hn H3 hids hnp hsve hsegs
    have HS0 := Lib.hid (Ext.refl w2)
    go_wp2_with (first
      | fail
      | ((with_reducible refine at_alloc 32 ?_); refine al_zero rfl 32 rfl NZ zero_rn ?_
         intro V w3 hq3 hsz3 hx3)
      | ((with_reducible refine at_store 32 ?_); refine st_at rfl rfl 32 _ _ rfl V 0 _ #[.int .i64 0, .int .i64 20, .int .i64 2, .int .i64 15, .int .i64 6, .int .i64 20, .int .i64 300, nv, sv] NZ #[.int .i64 0, .int .i64 20, .int .i64 2, .int .i64 15, .int .i64 6, .int .i64 20, .int .i64 300, nv, sv] 32 rfl rfl rfl hq3 (by exact (by decide : 0 + 9 ≤ 9)) (by kernel_rfl) HON.out rfl ?_
         intro w4 hq4 hm4
         have E4 : Ext w2 w4 := hx3.mutE hm4 (fun g hg h => by have h2 : g = V := h; omega)
         have HVV0 := Lib.hid (show BoxAt w4 V #[.int .i64 0, .int .i64 20, .int .i64 2, .int .i64 15, .int .i64 6, .int .i64 20, .int .i64 300, nv, sv] 32 from hq4)
         have HE4 := Lib.hid E4
         have HS0 := Lib.hid (HS0.out.trans E4)
         clear hq3 hsz3 hx3 hq4 hm4 E4 w3)
      | ((with_reducible refine at_load 32 ?_); refine wpList_load_row rfl 32 _ rfl V rfl 32 #[.int .i64 0, .int .i64 20, .int .i64 2, .int .i64 15, .int .i64 6, .int .i64 20, .int .i64 300, nv, sv] (0, 0) _ HVV0.out Try.underlying32 rfl size_rn ?_))
    refine (mynet_any nv sv t w4 (HNT.out.1.ext HS0.out) (HNT.out.2.ext HS0.out) HR.out HOK.out).mono ?_
    rintro e wm1 ⟨nm1, sm1, rfl, hnet, -, -, hxm1⟩
    go_wp2_with fail
    refine (ups_any u wm1 HU.out).mono ?_
    rintro e wu ⟨uv, rfl, hub, hxu⟩
    obtain ⟨ub, uo, ucap, huv, hbo⟩ := bools_open hub (by rw [upsL_len]; omega)
    rw [upsL_len] at huv hbo
    subst huv
    have HBO := Lib.hid hbo
    clear hbo
    go_wp2_with fail
    refine (plan_any nm1 sm1 _ _ _ _ wu (hnet.ext hxu) hub).mono ?_
    rintro e wv1 ⟨pv, rfl, hpl, hxv1⟩
    have E0 : Ext wu wv1 := hxv1
    have HSU := Lib.hid (HS0.out.trans (hxm1.trans hxu))
    have HXU := Lib.hid (Ext.refl wu)
    have HVU := Lib.hid (HVV0.out.ext (hxm1.trans hxu))
    clear hub hxu hxm1 hxv1
    obtain ⟨aa1, ao1, ca1, ba1, bo1, cb1, ya1, yo1, cc1, da1, dof1, cd1, rfl, hrc, hby, hro⟩ := plan_open2 (n := n) (m := 6) hpl (by rw [planF_root_len, nodesT_len]; exact HNN.out) (by rw [planF_cost_len, nodesT_len]; exact HNN.out) (by rw [planF_by_len, raisedL_len, segsT_len]) (by rw [planF_roles_len, nodesT_len]; exact HNN.out) hn1.1 (by omega)
    obtain ⟨q1, hq⟩ : ∃ q, planF (nodesT t) (raisedL (upsL u) (segsT t)) = q := ⟨_, rfl⟩
    rw [hq] at hrc hby hro
    have HQ1 := Lib.hid hq
    have HRC0 := Lib.hid hrc
    have HBY0 := Lib.hid hby
    have HRO0 := Lib.hid hro
    have HG1 := Lib.hid E0
    clear hnet hpl hq hrc hby hro E0
    go_wp2_with (first
      | fail
      | ((with_reducible refine at_alloc 42 ?_); refine al_zero rfl 42 rfl PNZ zero_pn ?_
         intro P1 wa1 hqa hsza hxa)
      | ((with_reducible refine at_store 42 ?_); refine st_at rfl rfl 42 _ _ rfl P1 0 _ #[.slice (some ⟨aa1, ao1, none⟩) n ca1, .slice (some ⟨ba1, bo1, none⟩) n cb1, .slice (some ⟨ya1, yo1, none⟩) 6 cc1, .slice (some ⟨da1, dof1, none⟩) n cd1] PNZ #[.slice (some ⟨aa1, ao1, none⟩) n ca1, .slice (some ⟨ba1, bo1, none⟩) n cb1, .slice (some ⟨ya1, yo1, none⟩) 6 cc1, .slice (some ⟨da1, dof1, none⟩) n cd1] 42 rfl rfl rfl hqa (by exact (by decide : 0 + 4 ≤ 4)) (by kernel_rfl) rfl rfl ?_
         intro wp1 hqp hmp
         have EP : Ext wv1 wp1 := hxa.mutE hmp (fun g hg h => by have h2 : g = P1 := h; omega)
         have HCE1 := Lib.hid EP
         have HS1 := Lib.hid (HSU.out.trans (HG1.out.trans EP))
         have HUP := Lib.hid (HXU.out.trans (HG1.out.trans EP))
         have HVV1 := Lib.hid (HVU.out.ext (HG1.out.trans EP))
         have HB1 := Lib.hid (show BoxAt wp1 P1 #[.slice (some ⟨aa1, ao1, none⟩) n ca1, .slice (some ⟨ba1, bo1, none⟩) n cb1, .slice (some ⟨ya1, yo1, none⟩) 6 cc1, .slice (some ⟨da1, dof1, none⟩) n cd1] 42 from hqp)
         have KP0 := Lib.hid (show ∀ W', Ext wp1 W' → W'.cell? ⟨P1, 0, none⟩ = some (.slice (some ⟨aa1, ao1, none⟩) n ca1) from fun W' hw => (HB1.out.ext hw).cell 0 rfl)
         have KP1 := Lib.hid (show ∀ W', Ext wp1 W' → W'.cell? ⟨P1, 1, none⟩ = some (.slice (some ⟨ba1, bo1, none⟩) n cb1) from fun W' hw => (HB1.out.ext hw).cell 1 rfl)
         have KP2 := Lib.hid (show ∀ W', Ext wp1 W' → W'.cell? ⟨P1, 2, none⟩ = some (.slice (some ⟨ya1, yo1, none⟩) 6 cc1) from fun W' hw => (HB1.out.ext hw).cell 2 rfl)
         have KP3 := Lib.hid (show ∀ W', Ext wp1 W' → W'.cell? ⟨P1, 3, none⟩ = some (.slice (some ⟨da1, dof1, none⟩) n cd1) from fun W' hw => (HB1.out.ext hw).cell 3 rfl)
         have KV7 := Lib.hid (show ∀ W', Ext wp1 W' → W'.cell? ⟨V, 7, none⟩ = some (.slice (some ⟨nb, no, none⟩) n ncap) from fun W' hw => by rw [← HNV.out]; exact (HVV1.out.ext hw).cell 7 rfl)
         have KV8 := Lib.hid (show ∀ W', Ext wp1 W' → W'.cell? ⟨V, 8, none⟩ = some (.slice (some ⟨sb, so, none⟩) 6 scap) from fun W' hw => by rw [← HSVE.out]; exact (HVV1.out.ext hw).cell 8 rfl)
         have KRC := Lib.hid (show ∀ i, i < n → ∀ W', Ext wp1 W' → W'.cell? ⟨aa1, ao1 + i, none⟩ = some (.int .u64 (at0 q1.root i)) ∧ W'.cell? ⟨ba1, bo1 + i, none⟩ = some (.int .u32 (at0 q1.cost i)) from fun i hi W' hw => HRC0.out W' (EP.trans hw) i hi)
         have KBY := Lib.hid (show ∀ s, s < 6 → ∀ W', Ext wp1 W' → W'.cell? ⟨ya1, yo1 + s * 2, none⟩ = some (.int .i64 (q1.by_.getD s (0, 0)).1) from fun s hs W' hw => HBY0.out W' (EP.trans hw) s hs)
         have KID := Lib.hid (show ∀ i, i < n → ∀ W', Ext wp1 W' → W'.cell? ⟨nb, no + i * 3, none⟩ = some (.int .u64 (idA (nodesT t) i)) from fun i hi W' hw => HID.out W' (HS1.out.trans hw) i hi)
         have KUP := Lib.hid (show ∀ s, s < 6 → ∀ W', Ext wp1 W' → W'.cell? ⟨ub, uo + s, none⟩ = some (.bool ((upsL u).getD s false)) from fun s hs W' hw => HBO.out W' (HUP.out.trans hw) s hs)
         have p0 := KP0.out wp1 (Ext.refl _)
         have p1 := KP1.out wp1 (Ext.refl _)
         have p2 := KP2.out wp1 (Ext.refl _)
         have p3 := KP3.out wp1 (Ext.refl _)
         have v7 := KV7.out wp1 (Ext.refl _)
         have v8 := KV8.out wp1 (Ext.refl _)
         clear hqa hsza hxa hqp hmp EP))
    clear p0 p1 p2 p3 v7 v8 HRC0 HBY0 HID
    have HOKN := Lib.hid (tiny_ok HR.out HOK.out)
    have HNL := Lib.hid (show (nodesT t).length = n from by rw [nodesT_len]; exact HNN.out)
    have KRO := Lib.hid (show ∀ i, i < n → ∃ a cap, (∀ W', Ext wp1 W' → W'.cell? ⟨da1, dof1 + i, none⟩ = some (.slice a (npA (nodesT t) i) cap)) ∧ (0 < npA (nodesT t) i → ∃ pb po, a = some ⟨pb, po, none⟩ ∧ ∀ W', Ext wp1 W' → ∀ k, k < npA (nodesT t) i → W'.cell? ⟨pb, po + k, none⟩ = some (.int .i64 (at0 (q1.roles.getD i []) k))) from fun i hi => by
      have e : (q1.roles.getD i []).length = npA (nodesT t) i := by rw [← HQ1.out]; exact planF_role_len (by rw [HNL.out]; exact hi)
      obtain ⟨a, cap, h1, h2⟩ := HRO0.out i hi
      rw [e] at h1 h2
      refine ⟨a, cap, fun W' hw => h1 W' (HCE1.out.trans hw), fun h0 => ?_⟩
      obtain ⟨pb, po, e1, h3⟩ := h2 h0
      exact ⟨pb, po, e1, fun W' hw => h3 W' (HCE1.out.trans hw)⟩)
    have KNP := Lib.hid (show ∀ i, i < n → ∃ a cap, (∀ W', Ext wp1 W' → W'.cell? ⟨nb, no + i * 3 + 2, none⟩ = some (.slice a (npA (nodesT t) i) cap)) ∧ (0 < npA (nodesT t) i → ∃ pb po, a = some ⟨pb, po, none⟩ ∧ ∀ W', Ext wp1 W' → ∀ k, k < npA (nodesT t) i → W'.cell? ⟨pb, po + k * 5 + 1, none⟩ = some (.int .u32 (ptA (nodesT t) i k).cost)) from fun i hi => by
      obtain ⟨a, cap, h1, h2⟩ := HNP.out i hi
      refine ⟨a, cap, fun W' hw => h1 W' (HS1.out.trans hw), fun h0 => ?_⟩
      obtain ⟨pb, po, e1, h3⟩ := h2 h0
      exact ⟨pb, po, e1, fun W' hw => h3 W' (HS1.out.trans hw)⟩)
    have KSG := Lib.hid (show ∀ s, s < 6 → ∃ a cap, (∀ W', Ext wp1 W' → W'.cell? ⟨sb, so + s, none⟩ = some (.slice a ((segsT t).getD s []).length cap)) ∧ (0 < ((segsT t).getD s []).length → ∃ pb po, a = some ⟨pb, po, none⟩ ∧ ∀ W', Ext wp1 W' → ∀ k, k < ((segsT t).getD s []).length → W'.rangeAt pb (po + k * 2) (plL (((segsT t).getD s []).getD k (0, 0)))) from fun s hs => by
      obtain ⟨a, cap, h1, h2⟩ := HSG.out s hs
      refine ⟨a, cap, fun W' hw => h1 W' (HS1.out.trans hw), fun h0 => ?_⟩
      obtain ⟨pb, po, e1, h3⟩ := h2 h0
      exact ⟨pb, po, e1, fun W' hw => h3 W' (HS1.out.trans hw)⟩)
    clear HRO0 HNP HSG
    go_loopw [9] (fun s wr => ∃ (i : Nat) (wo : World), wo = wr ∧ s = .int .i64 i ∧ i ≤ n ∧ Ext wp1 wo) (fun s _ => n - (intOf s).toNat)
    case atStart => exact ⟨0, _, rfl, rfl, by omega, Ext.refl _⟩
    case round =>
      obtain ⟨i, wo, rfl, rfl, hi, hx⟩ := hrel
      rename World => wl
      have HXL := Lib.hid hx
      have v7 := KV7.out wl hx
      have hup : IntKind.i64.wrap ((i : Int) + 1) = ((i + 1 : Nat) : Int) := by rw [IntKind.wrap_i64]; omega
      clear hx
      by_cases hlt : i < n
      · have dlt : decide ((i : Int) < (n : Int)) = true := by simp; omega
        obtain ⟨ra, rcap, hra, -⟩ := KRO.out i hlt
        obtain ⟨pa, pcap, hpa, -⟩ := KNP.out i hlt
        obtain ⟨m, hm⟩ : ∃ m, npA (nodesT t) i = m := ⟨_, rfl⟩
        rw [hm] at hra hpa
        have HRA := Lib.hid hra
        have HPA := Lib.hid hpa
        clear hra hpa hm
        go_wp2_with fail
        refine beginL (S := fun W' => Ext wl W') (by kernel_rfl) ?_
        intro wd hqx
        have hq0 : Ext wl wd := hqx
        refine tLp 0 ((.pointer (some ⟨P1, 3, none⟩))) rfl hq0 ?_
        simp only [ps]
        refine tL 1 (_) rfl (yieldsIf_cell rfl 40 _ rfl ⟨P1, 3, none⟩ rfl (.slice (some ⟨da1, dof1, none⟩) n cd1) _ (fun W' hW' => KP3.out W' (HXL.out.trans hW')) Try.underlying40 rfl) hq0 ?_
        simp only [ps]
        refine tLp 2 ((.int .i64 (i : Int))) rfl hq0 ?_
        simp only [ps]
        refine tL 3 ((.pointer (some ⟨da1, dof1 + i, none⟩))) rfl (Or.inl ⟨rfl, fun W' _ => by go_simp <;> (intro h; omega)⟩) hq0 ?_
        simp only [ps]
        refine tL 4 (_) rfl (yieldsIf_cell rfl 56 _ rfl ⟨da1, dof1 + i, none⟩ rfl (.slice ra m rcap) _ (fun W' hW' => HRA.out W' (HXL.out.trans hW')) Try.underlying56 rfl) hq0 ?_
        simp only [ps]
        refine tL 5 ((.int .i64 (m : Int))) rfl (Or.inl ⟨rfl, fun W' _ => by go_simp⟩) hq0 ?_
        simp only [ps]
        refine tLp 6 ((.pointer (some ⟨V, 7, none⟩))) rfl hq0 ?_
        simp only [ps]
        refine tL 7 (_) rfl (yieldsIf_cell rfl 29 _ rfl ⟨V, 7, none⟩ rfl (.slice (some ⟨nb, no, none⟩) n ncap) _ (fun W' hW' => KV7.out W' (HXL.out.trans hW')) Try.underlying29 rfl) hq0 ?_
        simp only [ps]
        refine tLp 8 ((.int .i64 (i : Int))) rfl hq0 ?_
        simp only [ps]
        refine tL 9 ((.pointer (some ⟨nb, no + i * 3, none⟩))) rfl (Or.inl ⟨rfl, fun W' _ => by go_simp <;> (intro h; omega)⟩) hq0 ?_
        simp only [ps]
        refine tLp 10 ((.pointer (some ⟨nb, no + i * 3 + 2, none⟩))) rfl hq0 ?_
        simp only [ps]
        refine tL 11 (_) rfl (yieldsIf_cell rfl 61 _ rfl ⟨nb, no + i * 3 + 2, none⟩ rfl (.slice pa m pcap) _ (fun W' hW' => HPA.out W' (HXL.out.trans hW')) Try.underlying61 rfl) hq0 ?_
        simp only [ps]
        refine tL 12 ((.int .i64 (m : Int))) rfl (Or.inl ⟨rfl, fun W' _ => by go_simp⟩) hq0 ?_
        simp only [ps]
        refine tL 13 ((.bool false)) rfl (Or.inl ⟨rfl, fun W' _ => by go_simp⟩) hq0 ?_
        simp only [ps]
        refine wpAnyH_done (by kernel_rfl) ?_ _
        go_wp2_with fail
        go_roundw
        case rel => exact ⟨i + 1, _, rfl, by go_num, hlt, HXL.out.trans (by first | assumption | exact Ext.refl _)⟩
        case measure => simp [intOf] <;> omega
      · have dlt : decide ((i : Int) < (n : Int)) = false := by simp; omega
        go_wp2_with fail
        go_loopw [10] (fun s wr => ∃ (i : Nat) (wo : World), wo = wr ∧ s = .int .i64 i ∧ i ≤ n ∧ Ext wp1 wo) (fun s _ => n - (intOf s).toNat)
        case atStart => exact ⟨0, _, rfl, rfl, by omega, HXL.out⟩
        case round =>
          obtain ⟨i, wo, rfl, rfl, hi, hx⟩ := hrel
          rename World => wj
          have HXJ := Lib.hid hx
          have v7 := KV7.out wj hx
          have hupi : IntKind.i64.wrap ((i : Int) + 1) = ((i + 1 : Nat) : Int) := by rw [IntKind.wrap_i64]; omega
          clear hx
          by_cases hlti : i < n
          · have dlti : decide ((i : Int) < (n : Int)) = true := by simp; omega
            obtain ⟨ci0, hci0⟩ := cost_small HOKN.out (upsL u) (i := i) (by rw [HNL.out]; exact hlti)
            rw [HQ1.out] at ci0 hci0
            obtain ⟨y, hy⟩ : ∃ y, at0 q1.root i = y := ⟨_, rfl⟩
            obtain ⟨ci, hci⟩ : ∃ y, at0 q1.cost i = y := ⟨_, rfl⟩
            have KY := Lib.hid (fun W' hw => (KRC.out i hlti W' hw).1)
            have KCI := Lib.hid (fun W' hw => (KRC.out i hlti W' hw).2)
            rw [hy] at KY
            rw [hci] at KCI ci0 hci0
            go_wp2_with fail
            go_loopw [11, 12, 13] (fun a sm st wr => ∃ (k d : Nat) (su : Int) (wo : World), wo = wr ∧ a = .int .i64 k ∧ sm = .int .u32 su ∧ st = .int .i64 d ∧ k < n ∧ at0 q1.root k = y ∧ su + at0 q1.cost k = ci ∧ 0 ≤ su ∧ d + rkA (at0 q1.cost) (at0 q1.cost k) n ≤ n ∧ Ext wj wo) (fun _ _ st _ => n + 1 - (intOf st).toNat)
            case atStart => exact ⟨i, 0, 0, _, rfl, rfl, rfl, rfl, hlti, hy, by rw [hci]; omega, by omega, by have := rkA_le (at0 q1.cost) (at0 q1.cost i) n; omega, Ext.refl _⟩
            case round =>
              obtain ⟨k, d, su, wo, rfl, rfl, rfl, rfl, hk, hyk, hsu, hsu0, hd, hx⟩ := hrel
              rename World => wk
              have HXK := Lib.hid (HXJ.out.trans hx)
              have HXK0 := Lib.hid hx
              clear hx
              have hupd : IntKind.i64.wrap ((d : Int) + 1) = ((d + 1 : Nat) : Int) := by rw [IntKind.wrap_i64]; omega
              have hkN : k < (nodesT t).length := by rw [HNL.out]; exact hk
              obtain ⟨ck0, ck1⟩ := cost_small HOKN.out (upsL u) hkN
              rw [HQ1.out] at ck0 ck1
              have hown := cost_own HOKN.out (upsL u) hkN
              have hway := root_way HOKN.out (upsL u) hkN
              rw [HQ1.out, hyk] at hown hway
              obtain ⟨x, hx1⟩ : ∃ x, idA (nodesT t) k = x := ⟨_, rfl⟩
              obtain ⟨ck, hck⟩ : ∃ x, at0 q1.cost k = x := ⟨_, rfl⟩
              have K1 := Lib.hid (KID.out k hk)
              have KCK := Lib.hid (fun W' hw => (KRC.out k hk W' hw).2)
              rw [hx1] at K1 hown hway
              rw [hck] at KCK hown hway ck0 ck1 hsu hd
              clear hx1
              by_cases hxy : y = x
              · subst hxy
                have hc0 := hown rfl
                obtain rfl : su = ci := by omega
                have d1 : (y == y) = true := by simp
                have d2 : (su == su) = true := by simp
                have q1c := KP1.out
                clear hown hway
                go_wp2_with fail
                refine beginL (S := fun W' => Ext wk W') (by kernel_rfl) ?_
                intro wd hqx
                have hq0 : Ext wk wd := hqx
                refine tLp 0 ((.pointer (some ⟨V, 7, none⟩))) rfl hq0 ?_
                simp only [ps]
                refine tL 1 (_) rfl (yieldsIf_cell rfl 29 _ rfl ⟨V, 7, none⟩ rfl (.slice (some ⟨nb, no, none⟩) n ncap) _ (fun W' hW' => KV7.out W' (HXK.out.trans hW')) Try.underlying29 rfl) hq0 ?_
                simp only [ps]
                refine tLp 2 ((.int .i64 (k : Int))) rfl hq0 ?_
                simp only [ps]
                refine tL 3 ((.pointer (some ⟨nb, no + k * 3, none⟩))) rfl (Or.inl ⟨rfl, fun W' _ => by go_simp <;> (intro h; omega)⟩) hq0 ?_
                simp only [ps]
                refine tLp 4 ((.pointer (some ⟨nb, no + k * 3, none⟩))) rfl hq0 ?_
                simp only [ps]
                refine tL 5 (_) rfl (yieldsIf_cell rfl 53 _ rfl ⟨nb, no + k * 3, none⟩ rfl (.int .u64 y) _ (fun W' hW' => K1.out W' (HXK.out.trans hW')) Try.underlying53 rfl) hq0 ?_
                simp only [ps]
                refine tLp 6 ((.pointer (some ⟨P1, 0, none⟩))) rfl hq0 ?_
                simp only [ps]
                refine tL 7 (_) rfl (yieldsIf_cell rfl 37 _ rfl ⟨P1, 0, none⟩ rfl (.slice (some ⟨aa1, ao1, none⟩) n ca1) _ (fun W' hW' => KP0.out W' (HXK.out.trans hW')) Try.underlying37 rfl) hq0 ?_
                simp only [ps]
                refine tLp 8 ((.int .i64 (i : Int))) rfl hq0 ?_
                simp only [ps]
                refine tL 9 ((.pointer (some ⟨aa1, ao1 + i, none⟩))) rfl (Or.inl ⟨rfl, fun W' _ => by go_simp <;> (intro h; omega)⟩) hq0 ?_
                simp only [ps]
                refine tL 10 (_) rfl (yieldsIf_cell rfl 53 _ rfl ⟨aa1, ao1 + i, none⟩ rfl (.int .u64 y) _ (fun W' hW' => KY.out W' (HXK.out.trans hW')) Try.underlying53 rfl) hq0 ?_
                simp only [ps]
                refine tL 11 ((.bool false)) rfl (Or.inl ⟨rfl, fun W' _ => by go_simp⟩) hq0 ?_
                simp only [ps]
                refine wpAnyH_done (by kernel_rfl) ?_ _
                have p1 := KP1.out _ (HXK.out.trans (show Ext wk _ from hq0))
                have hcc := KCI.out _ (HXK.out.trans (show Ext wk _ from hq0))
                go_wp2_with fail
                go_roundw
                case rel => exact ⟨i + 1, _, rfl, by go_num, hlti, HXK.out.trans (by first | assumption | exact Ext.refl _)⟩
                case measure => simp [intOf] <;> omega
              · have nxy : ¬ x = y := fun e => hxy e.symm
                have d1 : decide (x = y) = false := by simpa using nxy
                have d2 : (x == y) = false := by simpa using nxy
                have d3 : decide (x ≠ y) = true := by simpa using nxy
                obtain ⟨kr, sr, kk, j, hkr, hsr, hkk, hat, hby, hj, hrj, hcj, hc1, hrole⟩ := hway hxy
                rw [segsT_len] at hsr
                rw [HNL.out] at hj
                obtain ⟨cj, hcj1⟩ : ∃ x, at0 q1.cost j = x := ⟨_, rfl⟩
                obtain ⟨cp, hcp1⟩ : ∃ x, (ptA (nodesT t) k kr).cost = x := ⟨_, rfl⟩
                have KCJ := Lib.hid (fun W' hw => (KRC.out j hj W' hw).2)
                have KRJ := Lib.hid (fun W' hw => (KRC.out j hj W' hw).1)
                have cj0 := (cost_small HOKN.out (upsL u) (i := j) (by rw [HNL.out]; exact hj)).1
                rw [HQ1.out] at cj0
                have hrk := rkA_lt (at0 q1.cost) (x := cj) (y := ck) (by omega) hcj1 n hj
                rw [hcj1] at KCJ hcj cj0
                rw [hrj] at KRJ
                have HRJ := Lib.hid hrj
                have HCJ1 := Lib.hid hcj1
                have HCP1 := Lib.hid hcp1
                rw [hcp1] at hcj hc1
                have HROLE := Lib.hid hrole
                have HKR := Lib.hid hkr
                have HKK := Lib.hid hkk
                have HBYJ := Lib.hid hby
                have HAT := Lib.hid hat
                have dn : decide ((n : Int) < (d : Int)) = false := by simp; omega
                clear hown hway hrj hcj1 hcp1 hrole hkr hkk hby hat hxy
                go_wp2_with fail
                refine beginL (S := fun W' => Ext wk W') (by kernel_rfl) ?_
                intro wd hqx
                have hq0 : Ext wk wd := hqx
                refine tLp 0 ((.pointer (some ⟨V, 7, none⟩))) rfl hq0 ?_
                simp only [ps]
                refine tL 1 (_) rfl (yieldsIf_cell rfl 29 _ rfl ⟨V, 7, none⟩ rfl (.slice (some ⟨nb, no, none⟩) n ncap) _ (fun W' hW' => KV7.out W' (HXK.out.trans hW')) Try.underlying29 rfl) hq0 ?_
                simp only [ps]
                refine tLp 2 ((.int .i64 (k : Int))) rfl hq0 ?_
                simp only [ps]
                refine tL 3 ((.pointer (some ⟨nb, no + k * 3, none⟩))) rfl (Or.inl ⟨rfl, fun W' _ => by go_simp <;> (intro h; omega)⟩) hq0 ?_
                simp only [ps]
                refine tLp 4 ((.pointer (some ⟨nb, no + k * 3, none⟩))) rfl hq0 ?_
                simp only [ps]
                refine tL 5 (_) rfl (yieldsIf_cell rfl 53 _ rfl ⟨nb, no + k * 3, none⟩ rfl (.int .u64 x) _ (fun W' hW' => K1.out W' (HXK.out.trans hW')) Try.underlying53 rfl) hq0 ?_
                simp only [ps]
                refine tLp 6 ((.pointer (some ⟨P1, 0, none⟩))) rfl hq0 ?_
                simp only [ps]
                refine tL 7 (_) rfl (yieldsIf_cell rfl 37 _ rfl ⟨P1, 0, none⟩ rfl (.slice (some ⟨aa1, ao1, none⟩) n ca1) _ (fun W' hW' => KP0.out W' (HXK.out.trans hW')) Try.underlying37 rfl) hq0 ?_
                simp only [ps]
                refine tLp 8 ((.int .i64 (i : Int))) rfl hq0 ?_
                simp only [ps]
                refine tL 9 ((.pointer (some ⟨aa1, ao1 + i, none⟩))) rfl (Or.inl ⟨rfl, fun W' _ => by go_simp <;> (intro h; omega)⟩) hq0 ?_
                simp only [ps]
                refine tL 10 (_) rfl (yieldsIf_cell rfl 53 _ rfl ⟨aa1, ao1 + i, none⟩ rfl (.int .u64 y) _ (fun W' hW' => KY.out W' (HXK.out.trans hW')) Try.underlying53 rfl) hq0 ?_
                simp only [ps]
                refine tL 11 ((.bool true)) rfl (Or.inl ⟨rfl, fun W' _ => by go_simp⟩) hq0 ?_
                simp only [ps]
                refine wpAnyH_done (by kernel_rfl) ?_ _
                rename World => wd
                have HXD := Lib.hid (HXK.out.trans (show Ext wk wd from hq0))
                have HXD0 := Lib.hid (show Ext wk wd from hq0)
                have v7 := KV7.out wd HXD.out
                go_wp2_with fail
                go_loopw [15, 14, 12] (fun s nx sm wr => ∃ (s' : Nat) (a b : Int) (wo : World), wo = wr ∧ s = .int .i64 s' ∧ nx = .int .i64 a ∧ sm = .int .u32 b ∧ s' ≤ 6 ∧ a = metI sr kk s' 0 j (-1) ∧ b = metI sr kk s' 0 (su + cp) su ∧ Ext wk wo) (fun s _ _ _ => 6 - (intOf s).toNat)
                case atStart => exact ⟨0, -1, su, _, rfl, rfl, rfl, rfl, by omega, (metI_zero _ _ _ _).symm, (metI_zero _ _ _ _).symm, HXD0.out⟩
                case round =>
                  obtain ⟨s, a, b, wo, rfl, rfl, rfl, rfl, hs, ha, hb, hx⟩ := hrel
                  have HA := Lib.hid ha
                  have HB := Lib.hid hb
                  clear ha hb
                  rename World => we
                  have HXE := Lib.hid (HXK.out.trans hx)
                  have HXE0 := Lib.hid hx
                  have v8 := KV8.out we HXE.out
                  have hups : IntKind.i64.wrap ((s : Int) + 1) = ((s + 1 : Nat) : Int) := by rw [IntKind.wrap_i64]; omega
                  clear hx
                  by_cases hls : s < 6
                  · have dls : decide ((s : Int) < (6 : Int)) = true := by simp; omega
                    obtain ⟨sa, cap, hc, hpl⟩ := KSG.out s hls
                    have hm60 := HOKN.out.seg60 s (by rw [segsT_len]; exact hls)
                    have hrs := HROLE.out s
                    obtain ⟨L, hL⟩ : ∃ L, (segsT t).getD s [] = L := ⟨_, rfl⟩
                    have HKL := Lib.hid (show sr = s → kk < L.length from fun e => by rw [← hL, ← e]; exact HKK.out)
                    have HLA := Lib.hid (show sr = s → L.getD kk (0, 0) = ((k : Int), (kr : Int)) from fun e => by rw [← hL, ← e]; exact HAT.out)
                    rw [hL] at hc hpl hrs hm60
                    obtain ⟨m, hm⟩ : ∃ m, L.length = m := ⟨_, rfl⟩
                    rw [hm] at hc hpl hrs hm60 HKL
                    have HC := Lib.hid hc
                    have HPC := Lib.hid hpl
                    have HRS := Lib.hid (fun q hq => hrs q (by rw [segsT_len]; exact hls) hq)
                    clear hc hpl hrs hL hm
                    go_wp2_with fail
                    go_loopw [16, 14, 12] (fun s1 nx sm wr => ∃ (q : Nat) (a b : Int) (wo : World), wo = wr ∧ s1 = .int .i64 q ∧ nx = .int .i64 a ∧ sm = .int .u32 b ∧ q ≤ m ∧ a = metI sr kk s q j (-1) ∧ b = metI sr kk s q (su + cp) su ∧ Ext we wo) (fun s1 _ _ _ => m - (intOf s1).toNat)
                    case atStart => exact ⟨0, a, b, _, rfl, rfl, rfl, rfl, by omega, HA.out, HB.out, Ext.refl _⟩
                    case round =>
                      obtain ⟨q, a, b, wo, rfl, rfl, rfl, rfl, hq, ha, hb, hx⟩ := hrel
                      have HA := Lib.hid ha
                      have HB := Lib.hid hb
                      clear ha hb
                      rename World => wf
                      have HXF := Lib.hid (HXE.out.trans hx)
                      have HXF0 := Lib.hid (HXE0.out.trans hx)
                      have HXF1 := Lib.hid hx
                      have v8 := KV8.out wf HXF.out
                      have hc := HC.out wf HXF.out
                      have hupq : IntKind.i64.wrap ((q : Int) + 1) = ((q + 1 : Nat) : Int) := by rw [IntKind.wrap_i64]; omega
                      clear hx
                      by_cases hqm : q < m
                      · have dqm : decide ((q : Int) < (m : Int)) = true := by simp; omega
                        obtain ⟨pb, po, rfl, hpk⟩ := HPC.out (by omega)
                        have RS := Lib.hid (hpk wf HXF.out q hqm)
                        obtain ⟨okp, h4⟩ := HRS.out q hqm
                        have hla : s = sr ∧ q = kk → L.getD q (0, 0) = ((k : Int), (kr : Int)) := fun e => by rw [e.2]; exact HLA.out e.1.symm
                        clear hpk
                        generalize L.getD q (0, 0) = p at RS okp h4 hla
                        obtain ⟨qi, qk⟩ := p
                        obtain ⟨o1, o2, o3, o4⟩ := okp
                        dsimp only at o1 o2 o3 o4 h4
                        obtain ⟨bi, rfl⟩ : ∃ b : Nat, qi = b := ⟨_, (Int.toNat_of_nonneg o1).symm⟩
                        obtain ⟨bk, rfl⟩ : ∃ b : Nat, qk = b := ⟨_, (Int.toNat_of_nonneg o3).symm⟩
                        rw [Int.toNat_natCast] at o4 h4
                        have lbi : bi < n := by rw [HNL.out] at o2; omega
                        have lbk : bk < npA (nodesT t) bi := by unfold npA; omega
                        obtain ⟨ra, rcap, hra, hrp⟩ := KRO.out bi lbi
                        obtain ⟨rb, ro, rfl, hrc⟩ := hrp (by omega)
                        obtain ⟨mi, hmi⟩ : ∃ m, npA (nodesT t) bi = m := ⟨_, rfl⟩
                        rw [hmi] at hra hrc lbk
                        have hrx := fun W' hw => hrc W' hw bk lbk
                        obtain ⟨z, hz⟩ : ∃ x, at0 (q1.roles.getD bi []) bk = x := ⟨_, rfl⟩
                        rw [hz] at hrx
                        have K2 := Lib.hid hra
                        have K3 := Lib.hid hrx
                        clear hra hrp hrc hrx hmi o1 o2 o3 o4
                        go_wp2_with (first
                          | fail
                          | ((with_reducible refine at_load 59 ?_); refine wpList_load_mid rfl 59 _ rfl pb (po + q * 2) rfl [.int .i64 (bi : Int), .int .i64 (bk : Int)] _ RS.out Try.underlying59 rfl size_fp ?_)
                          | ((with_reducible refine at_alloc 59 ?_); refine al_zero rfl 59 rfl PZ2 zero_fp ?_
                             intro Q wa hq hsz hxa)
                          | ((with_reducible refine at_store 59 ?_); refine st_at rfl rfl 59 _ _ rfl Q 0 _ #[.int .i64 (bi : Int), .int .i64 (bk : Int)] PZ2 #[.int .i64 (bi : Int), .int .i64 (bk : Int)] 59 rfl rfl rfl hq (by exact (by decide : 0 + 2 ≤ 2)) (by kernel_rfl) rfl rfl ?_
                             intro ws hqs hms
                             have HQ := Lib.hid (show BoxAt ws Q #[.int .i64 (bi : Int), .int .i64 (bk : Int)] 59 from hqs)
                             have HXS := Lib.hid (show Ext wf ws from hxa.mutE hms (fun j hj h => by have h2 : j = Q := h; omega))
                             clear hq hsz hxa hqs hms))
                        by_cases hbi : bi = k
                        · subst hbi
                          have e1 : ((bi : Int) == (bi : Int)) = true := by simp
                          rw [hz] at h4
                          by_cases hz3 : z = 3
                          · subst hz3
                            have hmet := h4.1 ⟨rfl, rfl⟩
                            have e3 : ((bi : Int), (bk : Int)) = ((bi : Int), (kr : Int)) := hla hmet
                            obtain rfl : bk = kr := by have := (Prod.mk.inj e3).2; omega
                            obtain ⟨na, nb1⟩ := metI_at hmet (j : Int) (-1)
                            obtain ⟨nc, nd⟩ := metI_at hmet (su + cp) su
                            obtain rfl : b = su := by rw [HB.out, nc]
                            have HNB := Lib.hid nb1
                            have HND := Lib.hid nd
                            have HMET := Lib.hid hmet
                            obtain ⟨na1, ncap1, hna, hnc⟩ := KNP.out bi hk
                            obtain ⟨nb2, no2, rfl, hnc2⟩ := hnc (by have := HKR.out; omega)
                            have hcc := fun W' hw => hnc2 W' hw bk HKR.out
                            rw [HCP1.out] at hcc
                            have K4 := Lib.hid hna
                            have K5 := Lib.hid hcc
                            have KJ := KBY.out s hls
                            rw [hmet.1, HBYJ.out, ← hmet.1] at KJ
                            clear hmet na nb1 nc nd HA HB
                            have K6 := Lib.hid KJ
                            have hwr : IntKind.u32.wrap (b + cp) = b + cp := by rw [IntKind.wrap_u32]; omega
                            obtain ⟨mk1, hmk1⟩ : ∃ m, npA (nodesT t) bi = m := ⟨_, rfl⟩
                            have hkr9 := HKR.out
                            rw [hmk1] at K4 hkr9
                            clear hna hnc hnc2 hcc KJ h4 e3 hla hmk1
                            refine beginL (S := fun W' => Ext ws W') (by kernel_rfl) ?_
                            intro wd hqx
                            have hq0 : Ext ws wd := hqx
                            refine tLp 0 ((.pointer (some ⟨Q, 0, none⟩))) rfl hq0 ?_
                            simp only [ps]
                            refine tL 1 (_) rfl (yieldsIf_cell rfl 3 _ rfl ⟨Q, 0, none⟩ rfl (.int .i64 (bi : Int)) _ (fun W' hW' => (HQ.out.ext hW').cell 0 rfl) Try.underlying3 rfl) hq0 ?_
                            simp only [ps]
                            refine tLp 2 ((.int .i64 (bi : Int))) rfl hq0 ?_
                            simp only [ps]
                            refine tL 3 ((.bool true)) rfl (Or.inl ⟨rfl, fun W' _ => by go_simp⟩) hq0 ?_
                            simp only [ps]
                            refine tLp 4 ((.bool true)) rfl hq0 ?_
                            simp only [ps]
                            refine tLp 5 ((.pointer (some ⟨P1, 3, none⟩))) rfl hq0 ?_
                            simp only [ps]
                            refine tL 6 (_) rfl (yieldsIf_cell rfl 40 _ rfl ⟨P1, 3, none⟩ rfl (.slice (some ⟨da1, dof1, none⟩) n cd1) _ (fun W' hW' => KP3.out W' ((HXF.out.trans HXS.out).trans hW')) Try.underlying40 rfl) hq0 ?_
                            simp only [ps]
                            refine tLp 7 ((.pointer (some ⟨Q, 0, none⟩))) rfl hq0 ?_
                            simp only [ps]
                            refine tL 8 (_) rfl (yieldsIf_cell rfl 3 _ rfl ⟨Q, 0, none⟩ rfl (.int .i64 (bi : Int)) _ (fun W' hW' => (HQ.out.ext hW').cell 0 rfl) Try.underlying3 rfl) hq0 ?_
                            simp only [ps]
                            refine tL 9 ((.pointer (some ⟨da1, dof1 + bi, none⟩))) rfl (Or.inl ⟨rfl, fun W' _ => by go_simp <;> (intro h; omega)⟩) hq0 ?_
                            simp only [ps]
                            refine tL 10 (_) rfl (yieldsIf_cell rfl 56 _ rfl ⟨da1, dof1 + bi, none⟩ rfl (.slice (some ⟨rb, ro, none⟩) mi rcap) _ (fun W' hW' => K2.out W' ((HXF.out.trans HXS.out).trans hW')) Try.underlying56 rfl) hq0 ?_
                            simp only [ps]
                            refine tLp 11 ((.pointer (some ⟨Q, 1, none⟩))) rfl hq0 ?_
                            simp only [ps]
                            refine tL 12 (_) rfl (yieldsIf_cell rfl 3 _ rfl ⟨Q, 1, none⟩ rfl (.int .i64 (bk : Int)) _ (fun W' hW' => (HQ.out.ext hW').cell 1 rfl) Try.underlying3 rfl) hq0 ?_
                            simp only [ps]
                            refine tL 13 ((.pointer (some ⟨rb, ro + bk, none⟩))) rfl (Or.inl ⟨rfl, fun W' _ => by go_simp <;> (intro h; omega)⟩) hq0 ?_
                            simp only [ps]
                            refine tL 14 (_) rfl (yieldsIf_cell rfl 3 _ rfl ⟨rb, ro + bk, none⟩ rfl (.int .i64 3) _ (fun W' hW' => K3.out W' ((HXF.out.trans HXS.out).trans hW')) Try.underlying3 rfl) hq0 ?_
                            simp only [ps]
                            refine tL 15 ((.bool true)) rfl (Or.inl ⟨rfl, fun W' _ => by go_simp⟩) hq0 ?_
                            simp only [ps]
                            refine tLp 16 ((.bool true)) rfl hq0 ?_
                            simp only [ps]
                            refine wpAnyH_done (by kernel_rfl) ?_ _
                            rename World => wg
                            have HGS := Lib.hid (show Ext ws wg from hq0)
                            have HXG := Lib.hid (HXS.out.trans HGS.out)
                            have p2 := KP2.out wg (HXF.out.trans HXG.out)
                            have cby := K6.out wg (HXF.out.trans HXG.out)
                            go_wp2_with fail
                            refine beginL (S := fun W' => Ext wg W') (by kernel_rfl) ?_
                            intro wd hqx
                            have hq0 : Ext wg wd := hqx
                            refine tLp 0 ((.int .u32 b)) rfl hq0 ?_
                            simp only [ps]
                            refine tLp 1 ((.pointer (some ⟨V, 7, none⟩))) rfl hq0 ?_
                            simp only [ps]
                            refine tL 2 (_) rfl (yieldsIf_cell rfl 29 _ rfl ⟨V, 7, none⟩ rfl (.slice (some ⟨nb, no, none⟩) n ncap) _ (fun W' hW' => KV7.out W' ((HXF.out.trans HXG.out).trans hW')) Try.underlying29 rfl) hq0 ?_
                            simp only [ps]
                            refine tLp 3 ((.int .i64 (bi : Int))) rfl hq0 ?_
                            simp only [ps]
                            refine tL 4 ((.pointer (some ⟨nb, no + bi * 3, none⟩))) rfl (Or.inl ⟨rfl, fun W' _ => by go_simp <;> (intro h; omega)⟩) hq0 ?_
                            simp only [ps]
                            refine tLp 5 ((.pointer (some ⟨nb, no + bi * 3 + 2, none⟩))) rfl hq0 ?_
                            simp only [ps]
                            refine tL 6 (_) rfl (yieldsIf_cell rfl 61 _ rfl ⟨nb, no + bi * 3 + 2, none⟩ rfl (.slice (some ⟨nb2, no2, none⟩) mk1 ncap1) _ (fun W' hW' => K4.out W' ((HXF.out.trans HXG.out).trans hW')) Try.underlying61 rfl) hq0 ?_
                            simp only [ps]
                            refine tLp 7 ((.pointer (some ⟨Q, 1, none⟩))) rfl hq0 ?_
                            simp only [ps]
                            refine tL 8 (_) rfl (yieldsIf_cell rfl 3 _ rfl ⟨Q, 1, none⟩ rfl (.int .i64 (bk : Int)) _ (fun W' hW' => (HQ.out.ext (HGS.out.trans hW')).cell 1 rfl) Try.underlying3 rfl) hq0 ?_
                            simp only [ps]
                            refine tL 9 ((.pointer (some ⟨nb2, no2 + bk * 5, none⟩))) rfl (Or.inl ⟨rfl, fun W' _ => by go_simp <;> (intro h; omega)⟩) hq0 ?_
                            simp only [ps]
                            refine tLp 10 ((.pointer (some ⟨nb2, no2 + bk * 5 + 1, none⟩))) rfl hq0 ?_
                            simp only [ps]
                            refine tL 11 (_) rfl (yieldsIf_cell rfl 54 _ rfl ⟨nb2, no2 + bk * 5 + 1, none⟩ rfl (.int .u32 cp) _ (fun W' hW' => K5.out W' ((HXF.out.trans HXG.out).trans hW')) Try.underlying54 rfl) hq0 ?_
                            simp only [ps]
                            refine tL 12 ((.int .u32 (b + cp))) rfl (Or.inl ⟨rfl, fun W' _ => by go_simp⟩) hq0 ?_
                            simp only [ps]
                            refine tLp 13 ((.int .u32 (b + cp))) rfl hq0 ?_
                            simp only [ps]
                            refine wpAnyH_done (by kernel_rfl) ?_ _
                            go_wp2_with fail
                            go_roundw
                            case rel => exact ⟨q + 1, j, b + cp, _, rfl, by go_num, rfl, by first | rfl | go_num, by omega, HNB.out.symm, HND.out.symm, HXF1.out.trans (HXG.out.trans (by first | assumption | exact Ext.refl _))⟩
                            case measure => simp [intOf] <;> omega
                          · have hne : ¬ (s = sr ∧ q = kk) := fun e => hz3 (h4.2 e).2
                            have na := metI_not hne (j : Int) (-1)
                            have nc := metI_not hne (su + cp) su
                            have HNA := Lib.hid na
                            have HNC := Lib.hid nc
                            clear na nc
                            have e2 : (z == 3) = false := by simpa using hz3
                            have e4 : decide (z = 3) = false := by simpa using hz3
                            clear h4 hla
                            refine beginL (S := fun W' => Ext ws W') (by kernel_rfl) ?_
                            intro wd hqx
                            have hq0 : Ext ws wd := hqx
                            refine tLp 0 ((.pointer (some ⟨Q, 0, none⟩))) rfl hq0 ?_
                            simp only [ps]
                            refine tL 1 (_) rfl (yieldsIf_cell rfl 3 _ rfl ⟨Q, 0, none⟩ rfl (.int .i64 (bi : Int)) _ (fun W' hW' => (HQ.out.ext hW').cell 0 rfl) Try.underlying3 rfl) hq0 ?_
                            simp only [ps]
                            refine tLp 2 ((.int .i64 (bi : Int))) rfl hq0 ?_
                            simp only [ps]
                            refine tL 3 ((.bool true)) rfl (Or.inl ⟨rfl, fun W' _ => by go_simp⟩) hq0 ?_
                            simp only [ps]
                            refine tLp 4 ((.bool true)) rfl hq0 ?_
                            simp only [ps]
                            refine tLp 5 ((.pointer (some ⟨P1, 3, none⟩))) rfl hq0 ?_
                            simp only [ps]
                            refine tL 6 (_) rfl (yieldsIf_cell rfl 40 _ rfl ⟨P1, 3, none⟩ rfl (.slice (some ⟨da1, dof1, none⟩) n cd1) _ (fun W' hW' => KP3.out W' ((HXF.out.trans HXS.out).trans hW')) Try.underlying40 rfl) hq0 ?_
                            simp only [ps]
                            refine tLp 7 ((.pointer (some ⟨Q, 0, none⟩))) rfl hq0 ?_
                            simp only [ps]
                            refine tL 8 (_) rfl (yieldsIf_cell rfl 3 _ rfl ⟨Q, 0, none⟩ rfl (.int .i64 (bi : Int)) _ (fun W' hW' => (HQ.out.ext hW').cell 0 rfl) Try.underlying3 rfl) hq0 ?_
                            simp only [ps]
                            refine tL 9 ((.pointer (some ⟨da1, dof1 + bi, none⟩))) rfl (Or.inl ⟨rfl, fun W' _ => by go_simp <;> (intro h; omega)⟩) hq0 ?_
                            simp only [ps]
                            refine tL 10 (_) rfl (yieldsIf_cell rfl 56 _ rfl ⟨da1, dof1 + bi, none⟩ rfl (.slice (some ⟨rb, ro, none⟩) mi rcap) _ (fun W' hW' => K2.out W' ((HXF.out.trans HXS.out).trans hW')) Try.underlying56 rfl) hq0 ?_
                            simp only [ps]
                            refine tLp 11 ((.pointer (some ⟨Q, 1, none⟩))) rfl hq0 ?_
                            simp only [ps]
                            refine tL 12 (_) rfl (yieldsIf_cell rfl 3 _ rfl ⟨Q, 1, none⟩ rfl (.int .i64 (bk : Int)) _ (fun W' hW' => (HQ.out.ext hW').cell 1 rfl) Try.underlying3 rfl) hq0 ?_
                            simp only [ps]
                            refine tL 13 ((.pointer (some ⟨rb, ro + bk, none⟩))) rfl (Or.inl ⟨rfl, fun W' _ => by go_simp <;> (intro h; omega)⟩) hq0 ?_
                            simp only [ps]
                            refine tL 14 (_) rfl (yieldsIf_cell rfl 3 _ rfl ⟨rb, ro + bk, none⟩ rfl (.int .i64 z) _ (fun W' hW' => K3.out W' ((HXF.out.trans HXS.out).trans hW')) Try.underlying3 rfl) hq0 ?_
                            simp only [ps]
                            refine tL 15 ((.bool false)) rfl (Or.inl ⟨rfl, fun W' _ => by go_simp⟩) hq0 ?_
                            simp only [ps]
                            refine tLp 16 ((.bool false)) rfl hq0 ?_
                            simp only [ps]
                            refine wpAnyH_done (by kernel_rfl) ?_ _
                            go_wp2_with fail
                            go_roundw
                            case rel => exact ⟨q + 1, a, b, _, rfl, by go_num, rfl, rfl, by omega, by rw [HNA.out]; exact HA.out, by rw [HNC.out]; exact HB.out, HXF1.out.trans (HXS.out.trans (by first | assumption | exact Ext.refl _))⟩
                            case measure => simp [intOf] <;> omega
                        · have hne : ¬ (s = sr ∧ q = kk) := fun e => hbi (by have := (h4.2 e).1; omega)
                          have na := metI_not hne (j : Int) (-1)
                          have nc := metI_not hne (su + cp) su
                          have HNA := Lib.hid na
                          have HNC := Lib.hid nc
                          clear na nc
                          have e1 : ((bi : Int) == (k : Int)) = false := by simp; omega
                          have e4 : decide ((bi : Int) = (k : Int)) = false := by simp; omega
                          clear h4 hla
                          refine beginL (S := fun W' => Ext ws W') (by kernel_rfl) ?_
                          intro wd hqx
                          have hq0 : Ext ws wd := hqx
                          refine tLp 0 ((.pointer (some ⟨Q, 0, none⟩))) rfl hq0 ?_
                          simp only [ps]
                          refine tL 1 (_) rfl (yieldsIf_cell rfl 3 _ rfl ⟨Q, 0, none⟩ rfl (.int .i64 (bi : Int)) _ (fun W' hW' => (HQ.out.ext hW').cell 0 rfl) Try.underlying3 rfl) hq0 ?_
                          simp only [ps]
                          refine tLp 2 ((.int .i64 (k : Int))) rfl hq0 ?_
                          simp only [ps]
                          refine tL 3 ((.bool false)) rfl (Or.inl ⟨rfl, fun W' _ => by go_simp⟩) hq0 ?_
                          simp only [ps]
                          refine tLp 4 ((.bool false)) rfl hq0 ?_
                          simp only [ps]
                          refine tL 5 (undef) rfl (Or.inr ⟨rfl, rfl⟩) hq0 ?_
                          simp only [ps]
                          refine tL 6 (undef) rfl (Or.inr ⟨rfl, rfl⟩) hq0 ?_
                          simp only [ps]
                          refine tL 7 (undef) rfl (Or.inr ⟨rfl, rfl⟩) hq0 ?_
                          simp only [ps]
                          refine tL 8 (undef) rfl (Or.inr ⟨rfl, rfl⟩) hq0 ?_
                          simp only [ps]
                          refine tL 9 (undef) rfl (Or.inr ⟨rfl, rfl⟩) hq0 ?_
                          simp only [ps]
                          refine tL 10 (undef) rfl (Or.inr ⟨rfl, rfl⟩) hq0 ?_
                          simp only [ps]
                          refine tL 11 (undef) rfl (Or.inr ⟨rfl, rfl⟩) hq0 ?_
                          simp only [ps]
                          refine tL 12 (undef) rfl (Or.inr ⟨rfl, rfl⟩) hq0 ?_
                          simp only [ps]
                          refine tL 13 (undef) rfl (Or.inr ⟨rfl, rfl⟩) hq0 ?_
                          simp only [ps]
                          refine tL 14 (undef) rfl (Or.inr ⟨rfl, rfl⟩) hq0 ?_
                          simp only [ps]
                          refine tL 15 (undef) rfl (Or.inr ⟨rfl, rfl⟩) hq0 ?_
                          simp only [ps]
                          refine tLp 16 ((.bool false)) rfl hq0 ?_
                          simp only [ps]
                          refine wpAnyH_done (by kernel_rfl) ?_ _
                          go_wp2_with fail
                          go_roundw
                          case rel => exact ⟨q + 1, a, b, _, rfl, by go_num, rfl, rfl, by omega, by rw [HNA.out]; exact HA.out, by rw [HNC.out]; exact HB.out, HXF1.out.trans (HXS.out.trans (by first | assumption | exact Ext.refl _))⟩
                          case measure => simp [intOf] <;> omega
                      · have dqm : decide ((q : Int) < (m : Int)) = false := by simp; omega
                        obtain rfl : m = q := by omega
                        have ha := HA.out
                        have hb := HB.out
                        rw [metI_seg HKL.out] at ha hb
                        have HA2 := Lib.hid ha
                        have HB2 := Lib.hid hb
                        clear ha hb
                        go_wp2_with fail
                        go_roundw
                        case rel => exact ⟨s + 1, a, b, _, rfl, by go_num, rfl, rfl, hls, HA2.out, HB2.out, HXF0.out.trans (by first | assumption | exact Ext.refl _)⟩
                        case measure => simp [intOf] <;> omega
                  · have dls : decide ((s : Int) < (6 : Int)) = false := by simp; omega
                    obtain rfl : s = 6 := by omega
                    have ha := HA.out
                    have hb := HB.out
                    rw [metI_last hsr] at ha hb
                    clear HA HB
                    subst ha
                    subst hb
                    have dj0 : decide ((j : Int) < 0) = false := by simp
                    have djn : decide ((n : Int) ≤ (j : Int)) = false := by simp; omega
                    have v7 := KV7.out we HXE.out
                    have d6 : (y == y) = true := by simp
                    have d7 : decide (ck ≤ cj) = false := by simp; omega
                    have hfin : d + 1 + rkA (at0 q1.cost) cj n ≤ n := by omega
                    go_wp2_with fail
                    refine beginL (S := fun W' => Ext we W') (by kernel_rfl) ?_
                    intro wd hqx
                    have hq0 : Ext we wd := hqx
                    refine tLp 0 ((.pointer (some ⟨P1, 0, none⟩))) rfl hq0 ?_
                    simp only [ps]
                    refine tL 1 (_) rfl (yieldsIf_cell rfl 37 _ rfl ⟨P1, 0, none⟩ rfl (.slice (some ⟨aa1, ao1, none⟩) n ca1) _ (fun W' hW' => KP0.out W' (HXE.out.trans hW')) Try.underlying37 rfl) hq0 ?_
                    simp only [ps]
                    refine tLp 2 ((.int .i64 (j : Int))) rfl hq0 ?_
                    simp only [ps]
                    refine tL 3 ((.pointer (some ⟨aa1, ao1 + j, none⟩))) rfl (Or.inl ⟨rfl, fun W' _ => by go_simp <;> (intro h; omega)⟩) hq0 ?_
                    simp only [ps]
                    refine tL 4 (_) rfl (yieldsIf_cell rfl 53 _ rfl ⟨aa1, ao1 + j, none⟩ rfl (.int .u64 y) _ (fun W' hW' => KRJ.out W' (HXE.out.trans hW')) Try.underlying53 rfl) hq0 ?_
                    simp only [ps]
                    refine tLp 5 ((.pointer (some ⟨P1, 0, none⟩))) rfl hq0 ?_
                    simp only [ps]
                    refine tL 6 (_) rfl (yieldsIf_cell rfl 37 _ rfl ⟨P1, 0, none⟩ rfl (.slice (some ⟨aa1, ao1, none⟩) n ca1) _ (fun W' hW' => KP0.out W' (HXE.out.trans hW')) Try.underlying37 rfl) hq0 ?_
                    simp only [ps]
                    refine tLp 7 ((.int .i64 (i : Int))) rfl hq0 ?_
                    simp only [ps]
                    refine tL 8 ((.pointer (some ⟨aa1, ao1 + i, none⟩))) rfl (Or.inl ⟨rfl, fun W' _ => by go_simp <;> (intro h; omega)⟩) hq0 ?_
                    simp only [ps]
                    refine tL 9 (_) rfl (yieldsIf_cell rfl 53 _ rfl ⟨aa1, ao1 + i, none⟩ rfl (.int .u64 y) _ (fun W' hW' => KY.out W' (HXE.out.trans hW')) Try.underlying53 rfl) hq0 ?_
                    simp only [ps]
                    refine tL 10 ((.bool false)) rfl (Or.inl ⟨rfl, fun W' _ => by go_simp⟩) hq0 ?_
                    simp only [ps]
                    refine tLp 11 ((.bool false)) rfl hq0 ?_
                    simp only [ps]
                    refine tLp 12 ((.pointer (some ⟨P1, 1, none⟩))) rfl hq0 ?_
                    simp only [ps]
                    refine tL 13 (_) rfl (yieldsIf_cell rfl 38 _ rfl ⟨P1, 1, none⟩ rfl (.slice (some ⟨ba1, bo1, none⟩) n cb1) _ (fun W' hW' => KP1.out W' (HXE.out.trans hW')) Try.underlying38 rfl) hq0 ?_
                    simp only [ps]
                    refine tLp 14 ((.int .i64 (j : Int))) rfl hq0 ?_
                    simp only [ps]
                    refine tL 15 ((.pointer (some ⟨ba1, bo1 + j, none⟩))) rfl (Or.inl ⟨rfl, fun W' _ => by go_simp <;> (intro h; omega)⟩) hq0 ?_
                    simp only [ps]
                    refine tL 16 (_) rfl (yieldsIf_cell rfl 54 _ rfl ⟨ba1, bo1 + j, none⟩ rfl (.int .u32 cj) _ (fun W' hW' => KCJ.out W' (HXE.out.trans hW')) Try.underlying54 rfl) hq0 ?_
                    simp only [ps]
                    refine tLp 17 ((.pointer (some ⟨P1, 1, none⟩))) rfl hq0 ?_
                    simp only [ps]
                    refine tL 18 (_) rfl (yieldsIf_cell rfl 38 _ rfl ⟨P1, 1, none⟩ rfl (.slice (some ⟨ba1, bo1, none⟩) n cb1) _ (fun W' hW' => KP1.out W' (HXE.out.trans hW')) Try.underlying38 rfl) hq0 ?_
                    simp only [ps]
                    refine tLp 19 ((.int .i64 (k : Int))) rfl hq0 ?_
                    simp only [ps]
                    refine tL 20 ((.pointer (some ⟨ba1, bo1 + k, none⟩))) rfl (Or.inl ⟨rfl, fun W' _ => by go_simp <;> (intro h; omega)⟩) hq0 ?_
                    simp only [ps]
                    refine tL 21 (_) rfl (yieldsIf_cell rfl 54 _ rfl ⟨ba1, bo1 + k, none⟩ rfl (.int .u32 ck) _ (fun W' hW' => KCK.out W' (HXE.out.trans hW')) Try.underlying54 rfl) hq0 ?_
                    simp only [ps]
                    refine tL 22 ((.bool false)) rfl (Or.inl ⟨rfl, fun W' _ => by go_simp <;> omega⟩) hq0 ?_
                    simp only [ps]
                    refine tLp 23 ((.bool false)) rfl hq0 ?_
                    simp only [ps]
                    refine wpAnyH_done (by kernel_rfl) ?_ _
                    go_wp2_with fail
                    go_roundw
                    case rel => exact ⟨j, d + 1, su + cp, _, rfl, rfl, rfl, by go_num, hj, HRJ.out, by rw [HCJ1.out]; omega, by omega, by rw [HCJ1.out]; exact hfin, HXK0.out.trans <| HXE0.out.trans (by first | assumption | exact Ext.refl _)⟩
                    case measure => simp [intOf] <;> omega
          · have dlti : decide ((i : Int) < (n : Int)) = false := by simp; omega
            go_wp2_with fail
            go_ret
            exact ⟨rfl, HE2.out.trans (HS1.out.trans HXJ.out)⟩

end Go.Proofs.Ytamnmjckhicapaa
