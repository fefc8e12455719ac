/- Roots are least; the walk of PlanLess. No statement is proved here. -/
import Derived.Test.YtamnmjckhicapaaPvFw
namespace Go.Proofs.Ytamnmjckhicapaa
open Go.RowKit Go.BigFrame Go.WideShapes Go.ChangeShapes Go.Deep
set_option linter.unusedVariables false
set_option linter.unusedSimpArgs false
set_option maxRecDepth 100000

theorem pigeon : ∀ (n m : Nat) (f : Nat → Nat), (∀ i, i < m → f i < n) → (∀ i j, i < m → j < m → f i = f j → i = j) → m ≤ n
  | 0, m, f, h1, _ => by
    cases m with
    | zero => exact Nat.le_refl _
    | succ m => exact absurd (h1 0 (by omega)) (by omega)
  | n + 1, 0, f, _, _ => by omega
  | n + 1, m + 1, f, h1, h2 => by
    have ih := pigeon n m (fun i => if f i = n then f m else f i) (fun i hi => ?_) (fun i j hi hj e => ?_)
    · omega
    · try dsimp only
      have a := h1 m (by omega)
      have b := h1 i (by omega)
      split
      · rename_i h
        have : f m ≠ n := fun h3 => by have := h2 i m (by omega) (by omega) (h.trans h3.symm); omega
        omega
      · omega
    · try dsimp only at e
      by_cases c1 : f i = n
      · by_cases c2 : f j = n
        · exact h2 i j (by omega) (by omega) (c1.trans c2.symm)
        · rw [if_pos c1, if_neg c2] at e
          have := h2 m j (by omega) (by omega) e
          omega
      · by_cases c2 : f j = n
        · rw [if_neg c1, if_pos c2] at e
          have := h2 i m (by omega) (by omega) e
          omega
        · rw [if_neg c1, if_neg c2] at e
          exact h2 i j (by omega) (by omega) e
theorem least_of {p : Nat → Prop} : ∀ m, p m → ∃ d, p d ∧ ∀ e, p e → d ≤ e := fun m => by
  induction m using Nat.strongRecOn with
  | _ m ih =>
    intro hm
    by_cases h : ∃ e, e < m ∧ p e
    · obtain ⟨e, he, hp⟩ := h
      exact ih e he hp
    · exact ⟨m, hm, fun e hp => Nat.le_of_not_lt fun hl => h ⟨e, hl, hp⟩⟩
def Far (n : Nat) (L : List Hp) (s k d : Nat) : Prop := (∃ q, Walk n L s k q ∧ q.2 = d) ∧ ∀ q, Walk n L s k q → d ≤ q.2
theorem walk_lt {n : Nat} {L : List Hp} {s k : Nat} {q : Nat × Nat} (hs : s < n) (h : Walk n L s k q) : k < n := by
  cases h with
  | here => exact hs
  | hop _ _ h2 _ => have := ok_t h2; omega
theorem far_back {n : Nat} {L : List Hp} {s : Nat} : ∀ d k, Far n L s k d → ∀ e, e ≤ d → ∃ v, Far n L s v e
  | 0, k, h, e, he => by
    obtain rfl : e = 0 := by omega
    exact ⟨k, h⟩
  | d + 1, k, h, e, he => by
    by_cases hd : e = d + 1
    · subst hd
      exact ⟨k, h⟩
    · obtain ⟨⟨q, hw, hq⟩, hmin⟩ := h
      cases hw with
      | here => simp at hq
      | @hop i q' g hw' h1 h2 h3 =>
        have hq' : q'.2 = d := by
          have e1 : (hopW q' g).2 = q'.2 + 1 := rfl
          omega
        refine far_back d i ⟨⟨q', hw', hq'⟩, fun q2 hw2 => ?_⟩ e (by omega)
        have := hmin _ (.hop hw2 h1 h2 h3)
        have e1 : (hopW q2 g).2 = q2.2 + 1 := rfl
        omega
theorem far_short {n : Nat} {L : List Hp} {s k d : Nat} (hs : s < n) (h : Far n L s k d) : d + 1 ≤ n := by
  have hv : ∀ e, ∃ v, e ≤ d → Far n L s v e := fun e => by
    by_cases he : e ≤ d
    · obtain ⟨v, hv⟩ := far_back d k h e he
      exact ⟨v, fun _ => hv⟩
    · exact ⟨0, fun h => absurd h he⟩
  refine pigeon n (d + 1) (fun e => Classical.choose (hv e)) (fun e he => ?_) (fun e e' he he' hh => ?_)
  · obtain ⟨⟨q, hw, _⟩, _⟩ := Classical.choose_spec (hv e) (by omega)
    exact walk_lt hs hw
  · have a := Classical.choose_spec (hv e) (by omega)
    have b := Classical.choose_spec (hv e') (by omega)
    try dsimp only at hh
    rw [hh] at a
    obtain ⟨⟨q, hw, hq⟩, hm⟩ := a
    obtain ⟨⟨q', hw', hq'⟩, hm'⟩ := b
    have := hm _ hw'
    have := hm' _ hw
    omega
theorem far_conn {n : Nat} {L : List Hp} {s k : Nat} (hs : s < n) (h : Conn n L s k) : ((farF n L s).getD k Option.none).isNone = false := by
  obtain ⟨q, hw⟩ := h
  obtain ⟨d, ⟨q', hw', hd⟩, hm⟩ := least_of (p := fun d => ∃ q, Walk n L s k q ∧ q.2 = d) q.2 ⟨q, hw, rfl⟩
  have hf : Far n L s k d := ⟨⟨q', hw', hd⟩, fun q2 h2 => hm q2.2 ⟨q2, h2, rfl⟩⟩
  have := far_short hs hf
  obtain ⟨y, hy, _⟩ := (rnds_best hs n (L := L)).2 k q' hw' (by omega)
  have hy' : (farF n L s).getD k Option.none = Option.some y := hy
  rw [hy']
  rfl
theorem far_iff {n : Nat} {L : List Hp} {s k : Nat} (hs : s < n) : ((farF n L s).getD k Option.none).isNone = false ↔ Conn n L s k := ⟨fun h => by
  cases hq : (farF n L s).getD k Option.none with
  | none => rw [hq] at h; simp at h
  | some q => exact ⟨q, (far_walk hs hq).1⟩, far_conn hs⟩
theorem partK_same (n : Nat) (L : List Hp) (hs : Sym n L) : ∀ i, i ≤ n → ∀ j k, j < n → k < n → Conn n L j k → at0 (partK n L i) j = at0 (partK n L i) k
  | 0, _, j, k, hj, hk, _ => by
    simp [partK, at0, List.getD_eq_getElem?_getD, hj, hk]
  | i + 1, hi, j, k, hj, hk, hc => by
    have ih := partK_same n L hs i (by omega) j k hj hk hc
    have hl := partK_len n L i
    unfold partK
    split
    · exact ih
    · rw [markK_at i (farF n L i) (partK n L i) j n (by omega), markK_at i (farF n L i) (partK n L i) k n (by omega)]
      have e : Conn n L i j ↔ Conn n L i k := ⟨fun h => h.trans hc, fun h => h.trans (hc.symm hs)⟩
      by_cases h : Conn n L i j
      · rw [if_pos ⟨hj, far_conn (by omega) h⟩, if_pos ⟨hk, far_conn (by omega) (e.1 h)⟩]
      · rw [if_neg (fun x => h ((far_iff (by omega)).1 x.2)), if_neg (fun x => h (e.2 ((far_iff (by omega)).1 x.2)))]
        exact ih
theorem partF_same {n : Nat} {L : List Hp} (hs : Sym n L) {j k : Nat} (hj : j < n) (hk : k < n) (hc : Conn n L j k) : at0 (partF n L) j = at0 (partF n L) k := partK_same n L hs n (Nat.le_refl _) j k hj hk hc
theorem partF_idem {n : Nat} {L : List Hp} (hs : Sym n L) {j : Nat} (hj : j < n) : at0 (partF n L) (at0 (partF n L) j).toNat = at0 (partF n L) j := by
  have hb := partF_rng n L j hj
  exact partF_same hs (by omega) hj (partF_conn n L j hj)
theorem rootA_least (N : List Nd) (F : List Int) (n : Nat) (hF : Rng n F) (hl : F.length = n) : ∀ i, i ≤ n → ∀ j k, j < n → k < i → at0 F k = at0 F j → idA N (at0 (rootA N F i) (at0 F j).toNat).toNat ≤ idA N k
  | 0, _, j, k, _, hk, _ => by omega
  | i + 1, hi, j, k, hj, hk, e => by
    have hbi := hF i (by omega)
    have hbj := hF j hj
    have ih := rootA_least N F n hF hl i (by omega)
    unfold rootA
    by_cases hc : idA N i < idA N (at0 (rootA N F i) (at0 F i).toNat).toNat
    · rw [if_pos hc, at_set _ _ _ _ (by rw [rootA_len]; omega)]
      by_cases e2 : (at0 F j).toNat = (at0 F i).toNat
      · rw [if_pos e2, Int.toNat_natCast]
        by_cases e3 : k = i
        · subst e3; exact Int.le_refl _
        · have := ih j k hj (by omega) e
          rw [e2] at this
          omega
      · rw [if_neg e2]
        have e3 : k ≠ i := fun h => e2 (by rw [← e, h])
        exact ih j k hj (by omega) e
    · rw [if_neg hc]
      by_cases e3 : k = i
      · subst e3
        rw [← e]
        omega
      · exact ih j k hj (by omega) e
theorem rootB_at (F A : List Int) (n : Nat) (hF : Rng n F) (hA : A.length = n) (hid : ∀ j, j < n → at0 F (at0 F j).toNat = at0 F j) : ∀ i, i ≤ n → (∀ c, c < n → at0 F c = c → at0 (rootB F A i) c = at0 A c) ∧ ∀ k, k < i → at0 (rootB F A i) k = at0 A (at0 F k).toNat
  | 0, _ => ⟨fun _ _ _ => rfl, fun k hk => by omega⟩
  | i + 1, hi => by
    obtain ⟨h1, h2⟩ := rootB_at F A n hF hA hid i (by omega)
    have hb := hF i (by omega)
    have hv : at0 (rootB F A i) (at0 F i).toNat = at0 A (at0 F i).toNat := h1 _ (by omega) (by rw [hid i (by omega)]; omega)
    unfold rootB
    refine ⟨fun c hc e => ?_, fun k hk => ?_⟩
    · rw [at_set _ _ _ _ (by rw [rootB_len]; omega), hv]
      by_cases ec : c = i
      · subst ec
        rw [if_pos rfl, e, Int.toNat_natCast]
      · rw [if_neg ec]
        exact h1 c hc e
    · rw [at_set _ _ _ _ (by rw [rootB_len]; omega), hv]
      by_cases ek : k = i
      · subst ek
        rw [if_pos rfl]
      · rw [if_neg ek]
        exact h2 k (by omega)
/-- A root's identifier is the least of all that are joined. -/
theorem rootF_least (N : List Nd) (n : Nat) (L : List Hp) (hs : Sym n L) {j k : Nat} (hj : j < n) (hk : k < n) (hc : Conn n L j k) : idA N (at0 (rootF N (partF n L)) j).toNat ≤ idA N k := by
  unfold rootF
  rw [partF_len, (rootB_at (partF n L) _ n (partF_rng n L) (by rw [rootA_len, partF_len]) (fun j hj => partF_idem hs hj) n (Nat.le_refl _)).2 j hj]
  exact rootA_least N _ n (partF_rng n L) (partF_len n L) n (Nat.le_refl _) j k hj hk (partF_same hs hk hj (hc.symm hs))
/-- With more hops no root is greater. -/
theorem rootF_more (N : List Nd) (n : Nat) (L L' : List Hp) (hs : Sym n L) (hs' : Sym n L') (hl : ∀ x ∈ L, x ∈ L') {j : Nat} (hj : j < n) : idA N (at0 (rootF N (partF n L')) j).toNat ≤ idA N (at0 (rootF N (partF n L)) j).toNat := by
  have hb := rootF_rng N (partF n L) n (partF_rng n L) (partF_len n L) j hj
  have hc := rootF_conn N n L hs j hj
  obtain ⟨q, hw⟩ := hc.symm hs
  exact rootF_least N n L' hs' hj (by omega) ⟨q, hw.mono hl⟩

end Go.Proofs.Ytamnmjckhicapaa
namespace Go.Proofs.Ytamnmjckhicapaa
open Go.RowKit Go.BigFrame Go.WideShapes Go.ChangeShapes Go.Deep
set_option linter.unusedVariables false
set_option linter.unusedSimpArgs false
set_option maxRecDepth 100000

theorem root_at {N : List Nd} {S : List (List Pl)} {i : Nat} (hi : i < N.length) : at0 (planF N S).root i = idA N (at0 (rootsOf N S) i).toNat := by
  show at0 ((rootsOf N S).map _) i = _
  unfold at0
  rw [List.getD_eq_getElem?_getD, List.getElem?_map, List.getD_eq_getElem?_getD, List.getElem?_eq_getElem (by rw [rootsOf_len]; exact hi)]
  rfl
theorem cost_at {N : List Nd} {S : List (List Pl)} {i : Nat} (hi : i < N.length) : at0 (planF N S).cost i = ((costW (waysOf N S) i : Nat) : Int) := by
  show at0 ((List.range N.length).map _) i = _
  unfold at0
  rw [List.getD_eq_getElem?_getD, List.getElem?_map, List.getElem?_range hi]
  rfl
theorem raised_mem {U : List Bool} {S : List (List Pl)} {seg : List Pl} {p : Pl} (h : seg ∈ raisedL U S) (hp : p ∈ seg) : ∃ i, i < S.length ∧ U.getD i false = true ∧ seg = S.getD i [] := by
  unfold raisedL at h
  obtain ⟨i, hi, rfl⟩ := List.mem_map.1 h
  unfold raisedF at hp ⊢
  cases hu : U.getD i false with
  | false => rw [hu] at hp; simp at hp
  | true => exact ⟨i, List.mem_range.1 hi, hu, by simp⟩
theorem hops_more (N : List Nd) (S : List (List Pl)) {U U' : List Bool} (hU : ∀ i, i < S.length → U.getD i false = true → U'.getD i false = true) : ∀ x ∈ hopsF N (raisedL U S), x ∈ hopsF N (raisedL U' S) := fun x hx => by
  obtain ⟨seg, hs, hf, p, hp, hr⟩ := mem_hopsF.1 hx
  obtain ⟨i, hi, hu, rfl⟩ := raised_mem hs hp
  refine mem_hopsF.2 ⟨_, ?_, hf, p, hp, hr⟩
  refine List.mem_map.2 ⟨i, List.mem_range.2 hi, ?_⟩
  unfold raisedF
  rw [if_pos (hU i hi hu)]
theorem hops_none (N : List Nd) (S : List (List Pl)) : hopsF N (raisedL [] S) = [] := by
  refine List.eq_nil_iff_forall_not_mem.2 fun x hx => ?_
  obtain ⟨seg, hs, hf, p, hp, hr⟩ := mem_hopsF.1 hx
  obtain ⟨i, hi, hu, rfl⟩ := raised_mem hs hp
  simp at hu
/-- With more segments up no root is greater. -/
theorem root_more (N : List Nd) (S : List (List Pl)) {U U' : List Bool} (hU : ∀ i, i < S.length → U.getD i false = true → U'.getD i false = true) {j : Nat} (hj : j < N.length) : at0 (planF N (raisedL U' S)).root j ≤ at0 (planF N (raisedL U S)).root j := by
  rw [root_at hj, root_at hj]
  exact rootF_more N N.length _ _ (hopsF_sym _ _ _) (hopsF_sym _ _ _) (hops_more N S hU) hj
theorem root_none (N : List Nd) (S : List (List Pl)) {j : Nat} (hj : j < N.length) : at0 (planF N (raisedL [] S)).root j = idA N j := by
  rw [root_at hj]
  obtain ⟨q, hw⟩ := rootsOf_conn N (raisedL [] S) j hj
  rw [hops_none] at hw
  have e : (at0 (rootsOf N (raisedL [] S)) j).toNat = j := by
    generalize (at0 (rootsOf N (raisedL [] S)) j).toNat = r at hw
    cases hw with
    | here => rfl
    | hop _ h1 _ _ => simp at h1
  rw [e]
theorem cost_none (N : List Nd) (S : List (List Pl)) {j : Nat} (hj : j < N.length) : at0 (planF N (raisedL [] S)).cost j = 0 := by
  rw [cost_at hj]
  unfold costW
  cases hx : (waysOf N (raisedL [] S)).getD j Option.none with
  | none => rfl
  | some x =>
    have := wayF_cost (M := 0) (by rw [hops_none]; simp) N.length (Nat.le_refl _) hx
    simp only
    omega
theorem ups63 (u : Int) : ∀ i, i < 6 → (upsL u).getD i false = true → (upsL 63).getD i false = true := fun i hi _ => by
  have h : ∀ i, i < 6 → (upsL 63).getD i false = true := by decide
  exact h i hi
theorem node_id {w : World} {nv : Value} {N : List Nd} (h : NodesAt w nv N) (h1 : 1 ≤ N.length) : ∃ nb no ncap, nv = .slice (some ⟨nb, no, none⟩) N.length ncap ∧ ∀ W', Ext w W' → ∀ i, i < N.length → W'.cell? ⟨nb, no + i * 3, none⟩ = some (.int .u64 (idA N i)) := by
  obtain ⟨pv, ⟨na, ncap, rfl, hnm, hnf⟩, hpt⟩ := h
  obtain ⟨nb, no, rfl, hb, -, -, h3⟩ := hnf (by omega)
  refine ⟨nb, no, ncap, rfl, fun W' hx i hi => ?_⟩
  have := h3 i hi 0 _ rfl
  rw [Nat.add_zero] at this
  exact (hx.cell hb).trans this
theorem no_bools (w : World) : BoolsAt w (.slice none 0 0) [] := ⟨none, 0, rfl, by decide, fun h => by simp at h⟩

end Go.Proofs.Ytamnmjckhicapaa
namespace Go.Proofs.Ytamnmjckhicapaa
open Go.RowKit Go.BigFrame Go.WideShapes Go.ChangeShapes Go.Deep
set_option linter.unusedVariables false
set_option linter.unusedSimpArgs false
set_option maxRecDepth 100000

set_option maxRecDepth 100000 in
set_option maxHeartbeats 16000000 in
theorem law_PlanLess {w : World} (v : Value) (t : Tn) (ht : TinyA w v t) (hr : TnR t) (u : Int) (hu : 0 ≤ u ∧ u < 256) :
    Calls Try.prog 8 #[v, .int .u8 u] w fun e w' => e = .returned (.bool true) ∧ Ext w w' := by
  obtain ⟨a, b, hv, hab⟩ := id ht
  subst hv
  have ha1 : a.oneCell' = true := by obtain ⟨_, _, e, _⟩ := hab.1; rw [e]; rfl
  have hb1 : b.oneCell' = true := by obtain ⟨_, ⟨_, _, e, _⟩, _⟩ := hab.2.1; rw [e]; rfl
  have HO0 := Lib.hid (show (#[.int .u8 t.rst, a, b, .int .u8 t.edge] : Array Value).toList.all (·.oneCell') = true from by
    show (true && (a.oneCell' && (b.oneCell' && true))) = true
    rw [ha1, hb1]
    rfl)
  have HT := Lib.hid ht
  have HR := Lib.hid hr
  have HU := Lib.hid hu
  clear ht hr hu hab ha1 hb1
  go_enter Try.func8, Try.ntmps8
  go_wp2_with (first
    | fail
    | ((with_reducible refine at_box 25 ?_); refine bx_row rfl 25 _ rfl #[.int .u8 t.rst, a, b, .int .u8 t.edge] rfl ?_
       intro X wa hX hsz hx1
       have HXa := Lib.hid (show BoxAt wa X #[.int .u8 t.rst, a, b, .int .u8 t.edge] 25 from hX)
       have HEa := Lib.hid hx1
       clear hX hsz hx1))
  refine (awake_any wa).mono ?_
  rintro e w1 ⟨rfl, hx1⟩
  have HX1 := Lib.hid (HXa.out.ext hx1)
  have HE1 := Lib.hid (HEa.out.trans hx1)
  clear hx1
  go_wp2_with (first
    | fail
    | ((with_reducible refine at_load 25 ?_); refine wpList_load_row rfl 25 _ rfl X rfl 25 #[.int .u8 t.rst, a, b, .int .u8 t.edge] (0, 0) _ HX1.out Try.underlying25 rfl size_ti ?_))
  have htin := HT.out
  refine (tiny_any (.agg #[.int .u8 t.rst, a, b, .int .u8 t.edge]) t w1 (by obtain ⟨a', b', e1, h1, h2, h3⟩ := htin; exact ⟨a', b', e1, h1.ext HE1.out, h2.ext HE1.out, h3⟩)).mono ?_
  clear htin
  rintro e w2 ⟨nv, sv, rfl, h1, h2, h3, hx2⟩
  obtain ⟨ok, hok⟩ : ∃ ok, okT t = ok := ⟨_, rfl⟩
  rw [hok] at h3 ⊢
  have HOK := Lib.hid hok
  have H3 := Lib.hid h3
  have HX2 := Lib.hid (HX1.out.ext hx2)
  have HE2 := Lib.hid (HE1.out.trans hx2)
  have HON := Lib.hid (show (#[.int .i64 0, .int .i64 20, .int .i64 2, .int .i64 15, .int .i64 6, .int .i64 20, .int .i64 300, nv, sv] : Array Value).toList.all (·.oneCell') = true from by
    show (true && (true && (true && (true && (true && (true && (true && (nv.oneCell' && (sv.oneCell' && true))))))))) = true
    rw [h1, h2]
    rfl)
  clear h1 h2 h3 hx2 hok
  cases ok with
  | false =>
    go_wp2_with (first
      | fail
      | ((with_reducible refine at_alloc 32 ?_); refine al_zero rfl 32 rfl NZ zero_rn ?_
         intro V w3 hq3 hsz3 hx3)
      | ((with_reducible refine at_store 32 ?_); refine st_at rfl rfl 32 _ _ rfl V 0 _ #[.int .i64 0, .int .i64 20, .int .i64 2, .int .i64 15, .int .i64 6, .int .i64 20, .int .i64 300, nv, sv] NZ #[.int .i64 0, .int .i64 20, .int .i64 2, .int .i64 15, .int .i64 6, .int .i64 20, .int .i64 300, nv, sv] 32 rfl rfl rfl hq3 (by exact (by decide : 0 + 9 ≤ 9)) (by kernel_rfl) HON.out rfl ?_
         intro w4 hq4 hm4
         have E4 : Ext w2 w4 := hx3.mutE hm4 (fun g hg h => by have h2 : g = V := h; omega)
         have HVV0 := Lib.hid (show BoxAt w4 V #[.int .i64 0, .int .i64 20, .int .i64 2, .int .i64 15, .int .i64 6, .int .i64 20, .int .i64 300, nv, sv] 32 from hq4)
         have HE4 := Lib.hid E4
         clear hq3 hsz3 hx3 hq4 hm4 E4 w3))
    go_ret
    exact ⟨rfl, HE2.out.trans HE4.out⟩
  | true =>
    have HNT := Lib.hid (H3.out rfl)
    obtain ⟨n, hn⟩ : ∃ n, t.ports.length = n := ⟨_, rfl⟩
    have hn1 : 1 ≤ n ∧ n ≤ 5 := by obtain ⟨q1, q2, _⟩ := okT_spec HOK.out; omega
    have HNN := Lib.hid hn
    obtain ⟨nb, no, ncap, hnve, hids⟩ := node_id HNT.out.1 (by rw [nodesT_len, hn]; exact hn1.1)
    rw [nodesT_len, hn] at hnve hids
    have HNV := Lib.hid hnve
    clear hnve
    have HID := Lib.hid hids
    clear hn H3 hids
    have HS0 := Lib.hid (Ext.refl w2)
    go_wp2_with (first
      | fail
      | ((with_reducible refine at_alloc 32 ?_); refine al_zero rfl 32 rfl NZ zero_rn ?_
         intro V w3 hq3 hsz3 hx3)
      | ((with_reducible refine at_store 32 ?_); refine st_at rfl rfl 32 _ _ rfl V 0 _ #[.int .i64 0, .int .i64 20, .int .i64 2, .int .i64 15, .int .i64 6, .int .i64 20, .int .i64 300, nv, sv] NZ #[.int .i64 0, .int .i64 20, .int .i64 2, .int .i64 15, .int .i64 6, .int .i64 20, .int .i64 300, nv, sv] 32 rfl rfl rfl hq3 (by exact (by decide : 0 + 9 ≤ 9)) (by kernel_rfl) HON.out rfl ?_
         intro w4 hq4 hm4
         have E4 : Ext w2 w4 := hx3.mutE hm4 (fun g hg h => by have h2 : g = V := h; omega)
         have HVV0 := Lib.hid (show BoxAt w4 V #[.int .i64 0, .int .i64 20, .int .i64 2, .int .i64 15, .int .i64 6, .int .i64 20, .int .i64 300, nv, sv] 32 from hq4)
         have HE4 := Lib.hid E4
         have HS0 := Lib.hid (HS0.out.trans E4)
         clear hq3 hsz3 hx3 hq4 hm4 E4 w3)
      | ((with_reducible refine at_load 32 ?_); refine wpList_load_row rfl 32 _ rfl V rfl 32 #[.int .i64 0, .int .i64 20, .int .i64 2, .int .i64 15, .int .i64 6, .int .i64 20, .int .i64 300, nv, sv] (0, 0) _ HVV0.out Try.underlying32 rfl size_rn ?_))
    refine (mynet_any nv sv t w4 (HNT.out.1.ext HS0.out) (HNT.out.2.ext HS0.out) HR.out HOK.out).mono ?_
    rintro e wm1 ⟨nm1, sm1, rfl, hnet, -, -, hxm1⟩
    go_wp2_with fail
    refine (plan_any nm1 sm1 (.slice none 0 0) _ _ [] wm1 hnet (no_bools _)).mono ?_
    rintro e wv1 ⟨pv, rfl, hpl, hxv1⟩
    have E0 : Ext w4 wv1 := hxm1.trans hxv1
    obtain ⟨aa1, ao1, ca1, ba1, bo1, cb1, cc1, da1, dof1, cd1, ac1, rfl, hcell⟩ := plan_open (n := n) hpl (by rw [planF_root_len, nodesT_len]; exact HNN.out) (by rw [planF_cost_len, nodesT_len]; exact HNN.out) (by rw [planF_roles_len, nodesT_len]; exact HNN.out) hn1.1
    obtain ⟨q1, hq⟩ : ∃ q, planF (nodesT t) (raisedL [] (segsT t)) = q := ⟨_, rfl⟩
    rw [hq] at hcell ⊢
    have HQ1 := Lib.hid hq
    have HC1 := Lib.hid hcell
    have HG1 := Lib.hid E0
    clear hnet hpl hq hcell E0
    go_wp2_with (first
      | fail
      | ((with_reducible refine at_alloc 42 ?_); refine al_zero rfl 42 rfl PNZ zero_pn ?_
         intro P1 wa1 hqa hsza hxa)
      | ((with_reducible refine at_store 42 ?_); refine st_at rfl rfl 42 _ _ rfl P1 0 _ #[.slice (some ⟨aa1, ao1, none⟩) n ca1, .slice (some ⟨ba1, bo1, none⟩) n cb1, .slice ac1 q1.by_.length cc1, .slice (some ⟨da1, dof1, none⟩) n cd1] PNZ #[.slice (some ⟨aa1, ao1, none⟩) n ca1, .slice (some ⟨ba1, bo1, none⟩) n cb1, .slice ac1 q1.by_.length cc1, .slice (some ⟨da1, dof1, none⟩) n cd1] 42 rfl rfl rfl hqa (by exact (by decide : 0 + 4 ≤ 4)) (by kernel_rfl) rfl rfl ?_
         intro wp1 hqp hmp
         have EP : Ext wv1 wp1 := hxa.mutE hmp (fun g hg h => by have h2 : g = P1 := h; omega)
         have HB1 := Lib.hid (show BoxAt wp1 P1 #[.slice (some ⟨aa1, ao1, none⟩) n ca1, .slice (some ⟨ba1, bo1, none⟩) n cb1, .slice ac1 q1.by_.length cc1, .slice (some ⟨da1, dof1, none⟩) n cd1] 42 from hqp)
         have HCE1 := Lib.hid EP
         have HS1 := Lib.hid (HS0.out.trans (HG1.out.trans EP))
         have HVV1 := Lib.hid (HVV0.out.ext (HG1.out.trans EP))
         clear hqa hsza hxa hqp hmp EP)
      | ((with_reducible refine at_load 32 ?_); refine wpList_load_row rfl 32 _ rfl V rfl 32 #[.int .i64 0, .int .i64 20, .int .i64 2, .int .i64 15, .int .i64 6, .int .i64 20, .int .i64 300, nv, sv] (0, 0) _ HVV1.out Try.underlying32 rfl size_rn ?_))
    refine (mynet_any nv sv t wp1 (HNT.out.1.ext HS1.out) (HNT.out.2.ext HS1.out) HR.out HOK.out).mono ?_
    rintro e wm2 ⟨nm2, sm2, rfl, hnet, -, -, hxm2⟩
    go_wp2_with fail
    refine (ups_any u wm2 HU.out).mono ?_
    rintro e wu2 ⟨uv2, rfl, hub, hxu2⟩
    go_wp2_with fail
    refine (plan_any nm2 sm2 uv2 _ _ _ wu2 (hnet.ext hxu2) hub).mono ?_
    rintro e wv2 ⟨pv, rfl, hpl, hxv2⟩
    have E0 : Ext wp1 wv2 := hxm2.trans (hxu2.trans hxv2)
    obtain ⟨aa2, ao2, ca2, ba2, bo2, cb2, cc2, da2, dof2, cd2, ac2, rfl, hcell⟩ := plan_open (n := n) hpl (by rw [planF_root_len, nodesT_len]; exact HNN.out) (by rw [planF_cost_len, nodesT_len]; exact HNN.out) (by rw [planF_roles_len, nodesT_len]; exact HNN.out) hn1.1
    obtain ⟨q2, hq⟩ : ∃ q, planF (nodesT t) (raisedL (upsL u) (segsT t)) = q := ⟨_, rfl⟩
    rw [hq] at hcell ⊢
    have HQ2 := Lib.hid hq
    have HC2 := Lib.hid hcell
    have HG2 := Lib.hid E0
    clear hnet hpl hq hcell E0
    go_wp2_with (first
      | fail
      | ((with_reducible refine at_alloc 42 ?_); refine al_zero rfl 42 rfl PNZ zero_pn ?_
         intro P2 wa2 hqa hsza hxa)
      | ((with_reducible refine at_store 42 ?_); refine st_at rfl rfl 42 _ _ rfl P2 0 _ #[.slice (some ⟨aa2, ao2, none⟩) n ca2, .slice (some ⟨ba2, bo2, none⟩) n cb2, .slice ac2 q2.by_.length cc2, .slice (some ⟨da2, dof2, none⟩) n cd2] PNZ #[.slice (some ⟨aa2, ao2, none⟩) n ca2, .slice (some ⟨ba2, bo2, none⟩) n cb2, .slice ac2 q2.by_.length cc2, .slice (some ⟨da2, dof2, none⟩) n cd2] 42 rfl rfl rfl hqa (by exact (by decide : 0 + 4 ≤ 4)) (by kernel_rfl) rfl rfl ?_
         intro wp2 hqp hmp
         have EP : Ext wv2 wp2 := hxa.mutE hmp (fun g hg h => by have h2 : g = P2 := h; omega)
         have HB2 := Lib.hid (show BoxAt wp2 P2 #[.slice (some ⟨aa2, ao2, none⟩) n ca2, .slice (some ⟨ba2, bo2, none⟩) n cb2, .slice ac2 q2.by_.length cc2, .slice (some ⟨da2, dof2, none⟩) n cd2] 42 from hqp)
         have HCE2 := Lib.hid EP
         have HS2 := Lib.hid (HS1.out.trans (HG2.out.trans EP))
         have HVV2 := Lib.hid (HVV1.out.ext (HG2.out.trans EP))
         have HY1 := Lib.hid (HB1.out.ext (HG2.out.trans EP))
         clear hqa hsza hxa hqp hmp EP)
      | ((with_reducible refine at_load 32 ?_); refine wpList_load_row rfl 32 _ rfl V rfl 32 #[.int .i64 0, .int .i64 20, .int .i64 2, .int .i64 15, .int .i64 6, .int .i64 20, .int .i64 300, nv, sv] (0, 0) _ HVV2.out Try.underlying32 rfl size_rn ?_))
    refine (mynet_any nv sv t wp2 (HNT.out.1.ext HS2.out) (HNT.out.2.ext HS2.out) HR.out HOK.out).mono ?_
    rintro e wm3 ⟨nm3, sm3, rfl, hnet, -, -, hxm3⟩
    go_wp2_with fail
    refine (ups_any 63 wm3 (by decide)).mono ?_
    rintro e wu3 ⟨uv3, rfl, hub, hxu3⟩
    go_wp2_with fail
    refine (plan_any nm3 sm3 uv3 _ _ _ wu3 (hnet.ext hxu3) hub).mono ?_
    rintro e wv3 ⟨pv, rfl, hpl, hxv3⟩
    have E0 : Ext wp2 wv3 := hxm3.trans (hxu3.trans hxv3)
    obtain ⟨aa3, ao3, ca3, ba3, bo3, cb3, cc3, da3, dof3, cd3, ac3, rfl, hcell⟩ := plan_open (n := n) hpl (by rw [planF_root_len, nodesT_len]; exact HNN.out) (by rw [planF_cost_len, nodesT_len]; exact HNN.out) (by rw [planF_roles_len, nodesT_len]; exact HNN.out) hn1.1
    obtain ⟨q3, hq⟩ : ∃ q, planF (nodesT t) (raisedL (upsL 63) (segsT t)) = q := ⟨_, rfl⟩
    rw [hq] at hcell ⊢
    have HQ3 := Lib.hid hq
    have HC3 := Lib.hid hcell
    have HG3 := Lib.hid E0
    clear hnet hpl hq hcell E0
    go_wp2_with (first
      | fail
      | ((with_reducible refine at_alloc 42 ?_); refine al_zero rfl 42 rfl PNZ zero_pn ?_
         intro P3 wa3 hqa hsza hxa)
      | ((with_reducible refine at_store 42 ?_); refine st_at rfl rfl 42 _ _ rfl P3 0 _ #[.slice (some ⟨aa3, ao3, none⟩) n ca3, .slice (some ⟨ba3, bo3, none⟩) n cb3, .slice ac3 q3.by_.length cc3, .slice (some ⟨da3, dof3, none⟩) n cd3] PNZ #[.slice (some ⟨aa3, ao3, none⟩) n ca3, .slice (some ⟨ba3, bo3, none⟩) n cb3, .slice ac3 q3.by_.length cc3, .slice (some ⟨da3, dof3, none⟩) n cd3] 42 rfl rfl rfl hqa (by exact (by decide : 0 + 4 ≤ 4)) (by kernel_rfl) rfl rfl ?_
         intro wp3 hqp hmp
         have EP : Ext wv3 wp3 := hxa.mutE hmp (fun g hg h => by have h2 : g = P3 := h; omega)
         have HB3 := Lib.hid (show BoxAt wp3 P3 #[.slice (some ⟨aa3, ao3, none⟩) n ca3, .slice (some ⟨ba3, bo3, none⟩) n cb3, .slice ac3 q3.by_.length cc3, .slice (some ⟨da3, dof3, none⟩) n cd3] 42 from hqp)
         have HCE3 := Lib.hid EP
         have HS3 := Lib.hid (HS2.out.trans (HG3.out.trans EP))
         have HVV3 := Lib.hid (HVV2.out.ext (HG3.out.trans EP))
         have HY2 := Lib.hid (HB2.out.ext (HG3.out.trans EP))
         have HZ1 := Lib.hid (HY1.out.ext (HG3.out.trans EP))
         have p0 : wp3.cell? ⟨P1, 0, none⟩ = some (.slice (some ⟨aa1, ao1, none⟩) n ca1) := HZ1.out.cell 0 rfl
         have p1 : wp3.cell? ⟨P1, 1, none⟩ = some (.slice (some ⟨ba1, bo1, none⟩) n cb1) := HZ1.out.cell 1 rfl
         have r0 : wp3.cell? ⟨P2, 0, none⟩ = some (.slice (some ⟨aa2, ao2, none⟩) n ca2) := HY2.out.cell 0 rfl
         have s0 : wp3.cell? ⟨P3, 0, none⟩ = some (.slice (some ⟨aa3, ao3, none⟩) n ca3) := HB3.out.cell 0 rfl
         have v7 : wp3.cell? ⟨V, 7, none⟩ = some (.slice (some ⟨nb, no, none⟩) n ncap) := by rw [← HNV.out]; exact HVV3.out.cell 7 rfl
         clear hqa hsza hxa hqp hmp EP))
    clear p0 p1 r0 s0 v7
    go_loopw [11] (fun s wr => ∃ (i : Nat) (wo : World), wo = wr ∧ s = .int .i64 i ∧ i ≤ n ∧ Ext wp3 wo) (fun s _ => n - (intOf s).toNat)
    case atStart => exact ⟨0, _, rfl, rfl, by omega, Ext.refl _⟩
    case round =>
      obtain ⟨i, wo, rfl, rfl, hi, hx⟩ := hrel
      rename World => wl
      have HXL := Lib.hid hx
      have v7 : wl.cell? ⟨V, 7, none⟩ = some (.slice (some ⟨nb, no, none⟩) n ncap) := by rw [← HNV.out]; exact (HVV3.out.ext hx).cell 7 rfl
      have hup : IntKind.i64.wrap ((i : Int) + 1) = ((i + 1 : Nat) : Int) := by rw [IntKind.wrap_i64]; omega
      clear hx
      by_cases hlt : i < n
      · have dlt : decide ((i : Int) < (n : Int)) = true := by simp; omega
        have hlt2 : i < (nodesT t).length := by rw [nodesT_len, HNN.out]; exact hlt
        obtain ⟨ha1, hb1, -⟩ := HC1.out wl (HCE1.out.trans (HG2.out.trans (HCE2.out.trans (HG3.out.trans (HCE3.out.trans HXL.out))))) i hlt
        obtain ⟨ha2, -, -⟩ := HC2.out wl (HCE2.out.trans (HG3.out.trans (HCE3.out.trans HXL.out))) i hlt
        obtain ⟨ha3, -, -⟩ := HC3.out wl (HCE3.out.trans HXL.out) i hlt
        have hid0 := HID.out wl (HS3.out.trans HXL.out) i hlt
        have m2 : at0 q2.root i ≤ idA (nodesT t) i := by
          rw [← HQ2.out, ← root_none (nodesT t) (segsT t) hlt2]
          exact root_more _ _ (fun j _ h => by simp at h) hlt2
        have m3 : at0 q3.root i ≤ at0 q2.root i := by
          rw [← HQ2.out, ← HQ3.out]
          exact root_more _ _ (fun j hj h => ups63 u j (by rw [segsT_len] at hj; exact hj) h) hlt2
        rw [show at0 q1.root i = idA (nodesT t) i from by rw [← HQ1.out]; exact root_none _ _ hlt2] at ha1
        rw [show at0 q1.cost i = 0 from by rw [← HQ1.out]; exact cost_none _ _ hlt2] at hb1
        obtain ⟨x1, hx1⟩ : ∃ x, idA (nodesT t) i = x := ⟨_, rfl⟩
        obtain ⟨x2, hx2⟩ : ∃ x, at0 q2.root i = x := ⟨_, rfl⟩
        obtain ⟨x3, hx3⟩ : ∃ x, at0 q3.root i = x := ⟨_, rfl⟩
        rw [hx1] at ha1 hid0 m2
        rw [hx2] at ha2 m2 m3
        rw [hx3] at ha3 m3
        have keep : ∀ {p : Addr} {u : Value}, wl.cell? p = some u → ∀ W', Ext wl W' → W'.cell? p = some u := fun h W' hx => (hx.cell (World.block_lt_of_cell? wl _ h)).trans h
        have K1 := Lib.hid (keep ha1)
        have K2 := Lib.hid (keep hb1)
        have K3 := Lib.hid (keep ha2)
        have K4 := Lib.hid (keep ha3)
        have K5 := Lib.hid (keep hid0)
        have HZL := Lib.hid (HZ1.out.ext (HXL.out))
        have HYL := Lib.hid (HY2.out.ext (HXL.out))
        have HBL := Lib.hid (HB3.out.ext (HXL.out))
        have KV := Lib.hid (keep v7)
        have M2 := m2
        have d2 : decide (x1 < x2) = false := by simp; omega
        have d3 : decide (x2 < x3) = false := by simp; omega
        clear ha1 hb1 ha2 ha3 hid0 hx1 hx2 hx3 keep hlt2
        go_wp2_with fail
        refine beginL (S := fun W' => Ext wl W') (by kernel_rfl) ?_
        intro wd hqx
        have hq0 : Ext wl wd := hqx
        refine tLp 0 ((.pointer (some ⟨P1, 0, none⟩))) rfl hq0 ?_
        simp only [ps]
        refine tL 1 (_) rfl (yieldsIf_cell rfl 37 _ rfl ⟨P1, 0, none⟩ rfl (.slice (some ⟨aa1, ao1, none⟩) n ca1) _ (fun W' hW' => (HZL.out.ext hW').cell 0 rfl) Try.underlying37 rfl) hq0 ?_
        simp only [ps]
        refine tLp 2 ((.int .i64 (i : Int))) rfl hq0 ?_
        simp only [ps]
        refine tL 3 ((.pointer (some ⟨aa1, ao1 + i, none⟩))) rfl (Or.inl ⟨rfl, fun W' _ => by go_simp <;> (intro h; omega)⟩) hq0 ?_
        simp only [ps]
        refine tL 4 (_) rfl (yieldsIf_cell rfl 53 _ rfl ⟨aa1, ao1 + i, none⟩ rfl (.int .u64 x1) _ (fun W' hW' => K1.out W' hW') Try.underlying53 rfl) hq0 ?_
        simp only [ps]
        refine tLp 5 ((.pointer (some ⟨V, 7, none⟩))) rfl hq0 ?_
        simp only [ps]
        refine tL 6 (_) rfl (yieldsIf_cell rfl 29 _ rfl ⟨V, 7, none⟩ rfl (.slice (some ⟨nb, no, none⟩) n ncap) _ (fun W' hW' => KV.out W' hW') Try.underlying29 rfl) hq0 ?_
        simp only [ps]
        refine tLp 7 ((.int .i64 (i : Int))) rfl hq0 ?_
        simp only [ps]
        refine tL 8 ((.pointer (some ⟨nb, no + i * 3, none⟩))) rfl (Or.inl ⟨rfl, fun W' _ => by go_simp <;> (intro h; omega)⟩) hq0 ?_
        simp only [ps]
        refine tLp 9 ((.pointer (some ⟨nb, no + i * 3, none⟩))) rfl hq0 ?_
        simp only [ps]
        refine tL 10 (_) rfl (yieldsIf_cell rfl 53 _ rfl ⟨nb, no + i * 3, none⟩ rfl (.int .u64 x1) _ (fun W' hW' => K5.out W' hW') Try.underlying53 rfl) hq0 ?_
        simp only [ps]
        refine tL 11 ((.bool false)) rfl (Or.inl ⟨rfl, fun W' _ => by go_simp⟩) hq0 ?_
        simp only [ps]
        refine tLp 12 ((.bool false)) rfl hq0 ?_
        simp only [ps]
        refine tLp 13 ((.pointer (some ⟨P1, 1, none⟩))) rfl hq0 ?_
        simp only [ps]
        refine tL 14 (_) rfl (yieldsIf_cell rfl 38 _ rfl ⟨P1, 1, none⟩ rfl (.slice (some ⟨ba1, bo1, none⟩) n cb1) _ (fun W' hW' => (HZL.out.ext hW').cell 1 rfl) Try.underlying38 rfl) hq0 ?_
        simp only [ps]
        refine tLp 15 ((.int .i64 (i : Int))) rfl hq0 ?_
        simp only [ps]
        refine tL 16 ((.pointer (some ⟨ba1, bo1 + i, none⟩))) rfl (Or.inl ⟨rfl, fun W' _ => by go_simp <;> (intro h; omega)⟩) hq0 ?_
        simp only [ps]
        refine tL 17 (_) rfl (yieldsIf_cell rfl 54 _ rfl ⟨ba1, bo1 + i, none⟩ rfl (.int .u32 0) _ (fun W' hW' => K2.out W' hW') Try.underlying54 rfl) hq0 ?_
        simp only [ps]
        refine tL 18 ((.bool false)) rfl (Or.inl ⟨rfl, fun W' _ => by go_simp⟩) hq0 ?_
        simp only [ps]
        refine tLp 19 ((.bool false)) rfl hq0 ?_
        simp only [ps]
        refine tLp 20 ((.bool false)) rfl hq0 ?_
        simp only [ps]
        refine tLp 21 ((.pointer (some ⟨P2, 0, none⟩))) rfl hq0 ?_
        simp only [ps]
        refine tL 22 (_) rfl (yieldsIf_cell rfl 37 _ rfl ⟨P2, 0, none⟩ rfl (.slice (some ⟨aa2, ao2, none⟩) n ca2) _ (fun W' hW' => (HYL.out.ext hW').cell 0 rfl) Try.underlying37 rfl) hq0 ?_
        simp only [ps]
        refine tLp 23 ((.int .i64 (i : Int))) rfl hq0 ?_
        simp only [ps]
        refine tL 24 ((.pointer (some ⟨aa2, ao2 + i, none⟩))) rfl (Or.inl ⟨rfl, fun W' _ => by go_simp <;> (intro h; omega)⟩) hq0 ?_
        simp only [ps]
        refine tL 25 (_) rfl (yieldsIf_cell rfl 53 _ rfl ⟨aa2, ao2 + i, none⟩ rfl (.int .u64 x2) _ (fun W' hW' => K3.out W' hW') Try.underlying53 rfl) hq0 ?_
        simp only [ps]
        refine tLp 26 ((.pointer (some ⟨P1, 0, none⟩))) rfl hq0 ?_
        simp only [ps]
        refine tL 27 (_) rfl (yieldsIf_cell rfl 37 _ rfl ⟨P1, 0, none⟩ rfl (.slice (some ⟨aa1, ao1, none⟩) n ca1) _ (fun W' hW' => (HZL.out.ext hW').cell 0 rfl) Try.underlying37 rfl) hq0 ?_
        simp only [ps]
        refine tLp 28 ((.int .i64 (i : Int))) rfl hq0 ?_
        simp only [ps]
        refine tL 29 ((.pointer (some ⟨aa1, ao1 + i, none⟩))) rfl (Or.inl ⟨rfl, fun W' _ => by go_simp <;> (intro h; omega)⟩) hq0 ?_
        simp only [ps]
        refine tL 30 (_) rfl (yieldsIf_cell rfl 53 _ rfl ⟨aa1, ao1 + i, none⟩ rfl (.int .u64 x1) _ (fun W' hW' => K1.out W' hW') Try.underlying53 rfl) hq0 ?_
        simp only [ps]
        refine tL 31 ((.bool false)) rfl (Or.inl ⟨rfl, fun W' _ => by go_simp⟩) hq0 ?_
        simp only [ps]
        refine tLp 32 ((.bool false)) rfl hq0 ?_
        simp only [ps]
        refine tLp 33 ((.bool false)) rfl hq0 ?_
        simp only [ps]
        refine tLp 34 ((.pointer (some ⟨P3, 0, none⟩))) rfl hq0 ?_
        simp only [ps]
        refine tL 35 (_) rfl (yieldsIf_cell rfl 37 _ rfl ⟨P3, 0, none⟩ rfl (.slice (some ⟨aa3, ao3, none⟩) n ca3) _ (fun W' hW' => (HBL.out.ext hW').cell 0 rfl) Try.underlying37 rfl) hq0 ?_
        simp only [ps]
        refine tLp 36 ((.int .i64 (i : Int))) rfl hq0 ?_
        simp only [ps]
        refine tL 37 ((.pointer (some ⟨aa3, ao3 + i, none⟩))) rfl (Or.inl ⟨rfl, fun W' _ => by go_simp <;> (intro h; omega)⟩) hq0 ?_
        simp only [ps]
        refine tL 38 (_) rfl (yieldsIf_cell rfl 53 _ rfl ⟨aa3, ao3 + i, none⟩ rfl (.int .u64 x3) _ (fun W' hW' => K4.out W' hW') Try.underlying53 rfl) hq0 ?_
        simp only [ps]
        refine tLp 39 ((.pointer (some ⟨P2, 0, none⟩))) rfl hq0 ?_
        simp only [ps]
        refine tL 40 (_) rfl (yieldsIf_cell rfl 37 _ rfl ⟨P2, 0, none⟩ rfl (.slice (some ⟨aa2, ao2, none⟩) n ca2) _ (fun W' hW' => (HYL.out.ext hW').cell 0 rfl) Try.underlying37 rfl) hq0 ?_
        simp only [ps]
        refine tLp 41 ((.int .i64 (i : Int))) rfl hq0 ?_
        simp only [ps]
        refine tL 42 ((.pointer (some ⟨aa2, ao2 + i, none⟩))) rfl (Or.inl ⟨rfl, fun W' _ => by go_simp <;> (intro h; omega)⟩) hq0 ?_
        simp only [ps]
        refine tL 43 (_) rfl (yieldsIf_cell rfl 53 _ rfl ⟨aa2, ao2 + i, none⟩ rfl (.int .u64 x2) _ (fun W' hW' => K3.out W' hW') Try.underlying53 rfl) hq0 ?_
        simp only [ps]
        refine tL 44 ((.bool false)) rfl (Or.inl ⟨rfl, fun W' _ => by go_simp⟩) hq0 ?_
        simp only [ps]
        refine tLp 45 ((.bool false)) rfl hq0 ?_
        simp only [ps]
        refine wpAnyH_done (by kernel_rfl) ?_ _
        go_wp2_with fail
        go_roundw
        case rel => exact ⟨i + 1, _, rfl, by go_num, hlt, HXL.out.trans (by assumption)⟩
        case measure => simp [intOf] <;> omega
      · have dlt : decide ((i : Int) < (n : Int)) = false := by simp; omega
        obtain rfl : n = i := by omega
        go_wp2_with fail
        go_ret
        exact ⟨rfl, HE2.out.trans (HS3.out.trans HXL.out)⟩

end Go.Proofs.Ytamnmjckhicapaa
