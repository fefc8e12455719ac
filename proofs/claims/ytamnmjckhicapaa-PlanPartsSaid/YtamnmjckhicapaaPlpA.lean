/- What PlanParts stands on, behind its chain. No statement is proved here. -/
import Derived.Test.YtamnmjckhicapaaPvFv
namespace Go.Proofs.Ytamnmjckhicapaa
open Go.RowKit Go.BigFrame Go.WideShapes Go.ChangeShapes Go.Deep
set_option linter.unusedVariables false
set_option linter.unusedSimpArgs false
set_option maxRecDepth 100000

theorem pigeon : ∀ (n m : Nat) (f : Nat → Nat), (∀ i, i < m → f i < n) → (∀ i j, i < m → j < m → f i = f j → i = j) → m ≤ n
  | 0, m, f, h1, _ => by
    cases m with
    | zero => exact Nat.le_refl _
    | succ m => exact absurd (h1 0 (by omega)) (by omega)
  | n + 1, 0, f, _, _ => by omega
  | n + 1, m + 1, f, h1, h2 => by
    have ih := pigeon n m (fun i => if f i = n then f m else f i) (fun i hi => ?_) (fun i j hi hj e => ?_)
    · omega
    · try dsimp only
      have a := h1 m (by omega)
      have b := h1 i (by omega)
      split
      · rename_i h
        have : f m ≠ n := fun h3 => by have := h2 i m (by omega) (by omega) (h.trans h3.symm); omega
        omega
      · omega
    · try dsimp only at e
      by_cases c1 : f i = n
      · by_cases c2 : f j = n
        · exact h2 i j (by omega) (by omega) (c1.trans c2.symm)
        · rw [if_pos c1, if_neg c2] at e
          have := h2 m j (by omega) (by omega) e
          omega
      · by_cases c2 : f j = n
        · rw [if_neg c1, if_pos c2] at e
          have := h2 i m (by omega) (by omega) e
          omega
        · rw [if_neg c1, if_neg c2] at e
          exact h2 i j (by omega) (by omega) e
theorem least_of {p : Nat → Prop} : ∀ m, p m → ∃ d, p d ∧ ∀ e, p e → d ≤ e := fun m => by
  induction m using Nat.strongRecOn with
  | _ m ih =>
    intro hm
    by_cases h : ∃ e, e < m ∧ p e
    · obtain ⟨e, he, hp⟩ := h
      exact ih e he hp
    · exact ⟨m, hm, fun e hp => Nat.le_of_not_lt fun hl => h ⟨e, hl, hp⟩⟩
def Far (n : Nat) (L : List Hp) (s k d : Nat) : Prop := (∃ q, Walk n L s k q ∧ q.2 = d) ∧ ∀ q, Walk n L s k q → d ≤ q.2
theorem walk_lt {n : Nat} {L : List Hp} {s k : Nat} {q : Nat × Nat} (hs : s < n) (h : Walk n L s k q) : k < n := by
  cases h with
  | here => exact hs
  | hop _ _ h2 _ => have := ok_t h2; omega
theorem far_back {n : Nat} {L : List Hp} {s : Nat} : ∀ d k, Far n L s k d → ∀ e, e ≤ d → ∃ v, Far n L s v e
  | 0, k, h, e, he => by
    obtain rfl : e = 0 := by omega
    exact ⟨k, h⟩
  | d + 1, k, h, e, he => by
    by_cases hd : e = d + 1
    · subst hd
      exact ⟨k, h⟩
    · obtain ⟨⟨q, hw, hq⟩, hmin⟩ := h
      cases hw with
      | here => simp at hq
      | @hop i q' g hw' h1 h2 h3 =>
        have hq' : q'.2 = d := by
          have e1 : (hopW q' g).2 = q'.2 + 1 := rfl
          omega
        refine far_back d i ⟨⟨q', hw', hq'⟩, fun q2 hw2 => ?_⟩ e (by omega)
        have := hmin _ (.hop hw2 h1 h2 h3)
        have e1 : (hopW q2 g).2 = q2.2 + 1 := rfl
        omega
theorem far_short {n : Nat} {L : List Hp} {s k d : Nat} (hs : s < n) (h : Far n L s k d) : d + 1 ≤ n := by
  have hv : ∀ e, ∃ v, e ≤ d → Far n L s v e := fun e => by
    by_cases he : e ≤ d
    · obtain ⟨v, hv⟩ := far_back d k h e he
      exact ⟨v, fun _ => hv⟩
    · exact ⟨0, fun h => absurd h he⟩
  refine pigeon n (d + 1) (fun e => Classical.choose (hv e)) (fun e he => ?_) (fun e e' he he' hh => ?_)
  · obtain ⟨⟨q, hw, _⟩, _⟩ := Classical.choose_spec (hv e) (by omega)
    exact walk_lt hs hw
  · have a := Classical.choose_spec (hv e) (by omega)
    have b := Classical.choose_spec (hv e') (by omega)
    try dsimp only at hh
    rw [hh] at a
    obtain ⟨⟨q, hw, hq⟩, hm⟩ := a
    obtain ⟨⟨q', hw', hq'⟩, hm'⟩ := b
    have := hm _ hw'
    have := hm' _ hw
    omega
theorem far_conn {n : Nat} {L : List Hp} {s k : Nat} (hs : s < n) (h : Conn n L s k) : ((farF n L s).getD k Option.none).isNone = false := by
  obtain ⟨q, hw⟩ := h
  obtain ⟨d, ⟨q', hw', hd⟩, hm⟩ := least_of (p := fun d => ∃ q, Walk n L s k q ∧ q.2 = d) q.2 ⟨q, hw, rfl⟩
  have hf : Far n L s k d := ⟨⟨q', hw', hd⟩, fun q2 h2 => hm q2.2 ⟨q2, h2, rfl⟩⟩
  have := far_short hs hf
  obtain ⟨y, hy, _⟩ := (rnds_best hs n (L := L)).2 k q' hw' (by omega)
  have hy' : (farF n L s).getD k Option.none = Option.some y := hy
  rw [hy']
  rfl
theorem far_iff {n : Nat} {L : List Hp} {s k : Nat} (hs : s < n) : ((farF n L s).getD k Option.none).isNone = false ↔ Conn n L s k := ⟨fun h => by
  cases hq : (farF n L s).getD k Option.none with
  | none => rw [hq] at h; simp at h
  | some q => exact ⟨q, (far_walk hs hq).1⟩, far_conn hs⟩
theorem partK_same (n : Nat) (L : List Hp) (hs : Sym n L) : ∀ i, i ≤ n → ∀ j k, j < n → k < n → Conn n L j k → at0 (partK n L i) j = at0 (partK n L i) k
  | 0, _, j, k, hj, hk, _ => by
    simp [partK, at0, List.getD_eq_getElem?_getD, hj, hk]
  | i + 1, hi, j, k, hj, hk, hc => by
    have ih := partK_same n L hs i (by omega) j k hj hk hc
    have hl := partK_len n L i
    unfold partK
    split
    · exact ih
    · rw [markK_at i (farF n L i) (partK n L i) j n (by omega), markK_at i (farF n L i) (partK n L i) k n (by omega)]
      have e : Conn n L i j ↔ Conn n L i k := ⟨fun h => h.trans hc, fun h => h.trans (hc.symm hs)⟩
      by_cases h : Conn n L i j
      · rw [if_pos ⟨hj, far_conn (by omega) h⟩, if_pos ⟨hk, far_conn (by omega) (e.1 h)⟩]
      · rw [if_neg (fun x => h ((far_iff (by omega)).1 x.2)), if_neg (fun x => h (e.2 ((far_iff (by omega)).1 x.2)))]
        exact ih
theorem partF_same {n : Nat} {L : List Hp} (hs : Sym n L) {j k : Nat} (hj : j < n) (hk : k < n) (hc : Conn n L j k) : at0 (partF n L) j = at0 (partF n L) k := partK_same n L hs n (Nat.le_refl _) j k hj hk hc
theorem partF_idem {n : Nat} {L : List Hp} (hs : Sym n L) {j : Nat} (hj : j < n) : at0 (partF n L) (at0 (partF n L) j).toNat = at0 (partF n L) j := by
  have hb := partF_rng n L j hj
  exact partF_same hs (by omega) hj (partF_conn n L j hj)
theorem rootA_least (N : List Nd) (F : List Int) (n : Nat) (hF : Rng n F) (hl : F.length = n) : ∀ i, i ≤ n → ∀ j k, j < n → k < i → at0 F k = at0 F j → idA N (at0 (rootA N F i) (at0 F j).toNat).toNat ≤ idA N k
  | 0, _, j, k, _, hk, _ => by omega
  | i + 1, hi, j, k, hj, hk, e => by
    have hbi := hF i (by omega)
    have hbj := hF j hj
    have ih := rootA_least N F n hF hl i (by omega)
    unfold rootA
    by_cases hc : idA N i < idA N (at0 (rootA N F i) (at0 F i).toNat).toNat
    · rw [if_pos hc, at_set _ _ _ _ (by rw [rootA_len]; omega)]
      by_cases e2 : (at0 F j).toNat = (at0 F i).toNat
      · rw [if_pos e2, Int.toNat_natCast]
        by_cases e3 : k = i
        · subst e3; exact Int.le_refl _
        · have := ih j k hj (by omega) e
          rw [e2] at this
          omega
      · rw [if_neg e2]
        have e3 : k ≠ i := fun h => e2 (by rw [← e, h])
        exact ih j k hj (by omega) e
    · rw [if_neg hc]
      by_cases e3 : k = i
      · subst e3
        rw [← e]
        omega
      · exact ih j k hj (by omega) e
theorem rootB_at (F A : List Int) (n : Nat) (hF : Rng n F) (hA : A.length = n) (hid : ∀ j, j < n → at0 F (at0 F j).toNat = at0 F j) : ∀ i, i ≤ n → (∀ c, c < n → at0 F c = c → at0 (rootB F A i) c = at0 A c) ∧ ∀ k, k < i → at0 (rootB F A i) k = at0 A (at0 F k).toNat
  | 0, _ => ⟨fun _ _ _ => rfl, fun k hk => by omega⟩
  | i + 1, hi => by
    obtain ⟨h1, h2⟩ := rootB_at F A n hF hA hid i (by omega)
    have hb := hF i (by omega)
    have hv : at0 (rootB F A i) (at0 F i).toNat = at0 A (at0 F i).toNat := h1 _ (by omega) (by rw [hid i (by omega)]; omega)
    unfold rootB
    refine ⟨fun c hc e => ?_, fun k hk => ?_⟩
    · rw [at_set _ _ _ _ (by rw [rootB_len]; omega), hv]
      by_cases ec : c = i
      · subst ec
        rw [if_pos rfl, e, Int.toNat_natCast]
      · rw [if_neg ec]
        exact h1 c hc e
    · rw [at_set _ _ _ _ (by rw [rootB_len]; omega), hv]
      by_cases ek : k = i
      · subst ek
        rw [if_pos rfl]
      · rw [if_neg ek]
        exact h2 k (by omega)
/-- A root's identifier is the least of all that are joined. -/
theorem rootF_least (N : List Nd) (n : Nat) (L : List Hp) (hs : Sym n L) {j k : Nat} (hj : j < n) (hk : k < n) (hc : Conn n L j k) : idA N (at0 (rootF N (partF n L)) j).toNat ≤ idA N k := by
  unfold rootF
  rw [partF_len, (rootB_at (partF n L) _ n (partF_rng n L) (by rw [rootA_len, partF_len]) (fun j hj => partF_idem hs hj) n (Nat.le_refl _)).2 j hj]
  exact rootA_least N _ n (partF_rng n L) (partF_len n L) n (Nat.le_refl _) j k hj hk (partF_same hs hk hj (hc.symm hs))
theorem root_at {N : List Nd} {S : List (List Pl)} {i : Nat} (hi : i < N.length) : at0 (planF N S).root i = idA N (at0 (rootsOf N S) i).toNat := by
  show at0 ((rootsOf N S).map _) i = _
  unfold at0
  rw [List.getD_eq_getElem?_getD, List.getElem?_map, List.getD_eq_getElem?_getD, List.getElem?_eq_getElem (by rw [rootsOf_len]; exact hi)]
  rfl
theorem node_id {w : World} {nv : Value} {N : List Nd} (h : NodesAt w nv N) (h1 : 1 ≤ N.length) : ∃ nb no ncap, nv = .slice (some ⟨nb, no, none⟩) N.length ncap ∧ ∀ W', Ext w W' → ∀ i, i < N.length → W'.cell? ⟨nb, no + i * 3, none⟩ = some (.int .u64 (idA N i)) := by
  obtain ⟨pv, ⟨na, ncap, rfl, hnm, hnf⟩, hpt⟩ := h
  obtain ⟨nb, no, rfl, hb, -, -, h3⟩ := hnf (by omega)
  refine ⟨nb, no, ncap, rfl, fun W' hx i hi => ?_⟩
  have := h3 i hi 0 _ rfl
  rw [Nat.add_zero] at this
  exact (hx.cell hb).trans this
theorem partK_le (n : Nat) (L : List Hp) (hs : Sym n L) : ∀ i, i ≤ n → ∀ j, j < n → at0 (partK n L i) j ≤ j
  | 0, _, j, hj => by
    simp [partK, at0, List.getD_eq_getElem?_getD, hj]
    try omega
  | i + 1, hi, j, hj => by
    have ih := partK_le n L hs i (by omega) j hj
    have hl := partK_len n L i
    unfold partK
    split
    · exact ih
    · rename_i hz
      rw [markK_at i (farF n L i) (partK n L i) j n (by omega)]
      split
      · rename_i hc
        have hcj := (far_iff (by omega)).1 hc.2
        by_cases h : i ≤ j
        · omega
        · have h2 := (partK_ok n L i (by omega)).2 j (by omega)
          have h3 := partK_same n L hs i (by omega) i j (by omega) hj hcj
          omega
      · exact ih
theorem partF_le {n : Nat} {L : List Hp} (hs : Sym n L) {j : Nat} (hj : j < n) : at0 (partF n L) j ≤ j := partK_le n L hs n (Nat.le_refl _) j hj
theorem rootF_at (N : List Nd) {n : Nat} {L : List Hp} (hs : Sym n L) {j : Nat} (hj : j < n) : at0 (rootF N (partF n L)) j = at0 (rootA N (partF n L) n) (at0 (partF n L) j).toNat := by
  unfold rootF
  rw [partF_len]
  exact (rootB_at (partF n L) _ n (partF_rng n L) (by rw [rootA_len, partF_len]) (fun j hj => partF_idem hs hj) n (Nat.le_refl _)).2 j hj
/-- Two have one root just if they are of one part. -/
theorem part_root (N : List Nd) {n : Nat} {L : List Hp} (hs : Sym n L) (hid : ∀ i j, i < n → j < n → idA N i = idA N j → i = j) {i k : Nat} (hi : i < n) (hk : k < n) :
    at0 (partF n L) i = at0 (partF n L) k ↔ idA N (at0 (rootF N (partF n L)) i).toNat = idA N (at0 (rootF N (partF n L)) k).toNat := by
  constructor
  · intro h
    rw [rootF_at N hs hi, rootF_at N hs hk, h]
  · intro h
    have b1 := rootF_rng N (partF n L) n (partF_rng n L) (partF_len n L) i hi
    have b2 := rootF_rng N (partF n L) n (partF_rng n L) (partF_len n L) k hk
    have e := hid _ _ (by omega) (by omega) h
    have c1 := rootF_conn N n L hs i hi
    have c2 := rootF_conn N n L hs k hk
    rw [e] at c1
    exact partF_same hs hi hk ((c1.symm hs).trans c2)
theorem root_own (N : List Nd) {n : Nat} {L : List Hp} (hs : Sym n L) {j : Nat} (hj : j < n) : idA N (at0 (rootF N (partF n L)) j).toNat ≤ idA N j := rootF_least N n L hs hj hj (Conn.refl n L j)
/-- Who is on one segment that is up is of one part. -/
theorem seg_part (N : List Nd) (S : List (List Pl)) {seg : List Pl} (hS : seg ∈ S) {p q : Pl} (hp : p ∈ seg) (hq : q ∈ seg) (h1 : 0 ≤ p.1 ∧ p.1 < N.length) (h2 : 0 ≤ q.1 ∧ q.1 < N.length) :
    at0 (partF N.length (hopsF N S)) p.1.toNat = at0 (partF N.length (hopsF N S)) q.1.toNat := by
  by_cases e : q.1 = p.1
  · rw [e]
  · refine partF_same (hopsF_sym _ _ _) (by omega) (by omega) ?_
    refine ⟨_, Walk.hop (h := ⟨p.1, q.1, costA N q⟩) .here (mem_hopsF.2 ⟨seg, hS, mem_brF.2 ⟨p, hp, rfl⟩, q, hq, e, rfl⟩) ?_ ?_⟩
    · simp only [Hp.ok, Bool.and_eq_true, decide_eq_true_eq]
      omega
    · show p.1 = _
      omega
set_option maxRecDepth 100000 in
set_option maxHeartbeats 4000000 in
theorem hasparts_any (nv sv uv : Value) (N : List Nd) (S : List (List Pl)) (U : List Bool) (w : World) (hN : NetA w nv sv N S) (hu : BoolsAt w uv U) :
    Calls Try.prog 16 #[.agg #[.int .i64 0, .int .i64 20, .int .i64 2, .int .i64 15, .int .i64 6, .int .i64 20, .int .i64 300, nv, sv], uv] w fun e w' => ∃ g, e = .returned (.slice (some ⟨g, 0, none⟩) N.length N.length) ∧ IRow w' g (partF N.length (hopsF N (raisedL U S))) ∧ Ext w w' := by
  have HN := Lib.hid hN
  have HU := Lib.hid hu
  have HSV := Lib.hid hN.segs.one
  obtain ⟨nb, no, ncap, rfl⟩ := hN.nodes.form hN.ok.one.1
  obtain ⟨n, hn⟩ : ∃ n, N.length = n := ⟨_, rfl⟩
  have HNL := Lib.hid hn
  rw [hn] at HN ⊢
  clear hN hn hu
  go_enter Try.func16, Try.ntmps16
  go_wp2_with (first
    | fail
    | ((with_reducible refine at_box 47 ?_); refine bx_row rfl 47 _ rfl #[.int .i64 0, .int .i64 20, .int .i64 2, .int .i64 15, .int .i64 6, .int .i64 20, .int .i64 300, .slice (some ⟨nb, no, none⟩) n ncap, sv] rfl ?_
       intro X w1 hX hsz hx1
       have HX := Lib.hid (show BoxAt w1 X #[.int .i64 0, .int .i64 20, .int .i64 2, .int .i64 15, .int .i64 6, .int .i64 20, .int .i64 300, .slice (some ⟨nb, no, none⟩) n ncap, sv] 47 from hX)
       have HE := Lib.hid hx1
       clear hX hsz hx1)
    | ((with_reducible refine at_load 47 ?_); refine wpList_load_row rfl 47 _ rfl X rfl 47 #[.int .i64 0, .int .i64 20, .int .i64 2, .int .i64 15, .int .i64 6, .int .i64 20, .int .i64 300, .slice (some ⟨nb, no, none⟩) n ncap, sv] (0, 0) _ HX.out Try.underlying47 rfl size_net ?_))
  refine (right_a 6 true (.inl ⟨rfl, rfl⟩) (.slice (some ⟨nb, no, none⟩) n ncap) sv N S w1 (HN.out.ext HE.out)).mono ?_
  rintro e w2 ⟨rfl, hx2⟩
  have HX2 := Lib.hid (HX.out.ext hx2)
  have HE2 := Lib.hid (HE.out.trans hx2)
  have HN2 := Lib.hid (HN.out.ext HE2.out)
  have HU2 := Lib.hid (HU.out.ext HE2.out)
  clear hx2
  go_wp2_with fail
  refine beginL (S := fun W' => Ext w2 W') (by kernel_rfl) ?_
  intro wd hqx
  have hq0 : Ext w2 wd := hqx
  refine tL 0 (_) rfl (yieldsIf_rowS rfl 47 _ rfl X rfl #[.int .i64 0, .int .i64 20, .int .i64 2, .int .i64 15, .int .i64 6, .int .i64 20, .int .i64 300, .slice (some ⟨nb, no, none⟩) n ncap, sv] _ _ (fun W' hW' => HX2.out.ext hW') Try.underlying47 rfl size_net) hq0 ?_
  simp only [ps]
  refine tL 1 (_) rfl (yieldsIf_rowS rfl 47 _ rfl X rfl #[.int .i64 0, .int .i64 20, .int .i64 2, .int .i64 15, .int .i64 6, .int .i64 20, .int .i64 300, .slice (some ⟨nb, no, none⟩) n ncap, sv] _ _ (fun W' hW' => HX2.out.ext hW') Try.underlying47 rfl size_net) hq0 ?_
  simp only [ps]
  refine tL 2 (_) rfl (yieldsIf_rowS rfl 47 _ rfl X rfl #[.int .i64 0, .int .i64 20, .int .i64 2, .int .i64 15, .int .i64 6, .int .i64 20, .int .i64 300, .slice (some ⟨nb, no, none⟩) n ncap, sv] _ _ (fun W' hW' => HX2.out.ext hW') Try.underlying47 rfl size_net) hq0 ?_
  simp only [ps]
  refine tLp 3 (uv) rfl hq0 ?_
  simp only [ps]
  refine runL (i := 4) rfl rfl (by kernel_rfl) (fun K hK => ?_)
  go_simp
  refine (raised_any 0 20 2 15 6 20 300 (.slice (some ⟨nb, no, none⟩) n ncap) sv uv S U wd (HN2.out.segs.ext (by assumption)) (HU2.out.ext (by assumption)) ⟨HN2.out.seg1, by have := HN2.out.ok.segs; omega⟩).mono ?_
  rintro e wc1 ⟨rv, rfl, hrv, hx⟩
  have hq1 := hq0.trans hx
  refine hK.out _ _ hq1 (fun hHeld => ?_)
  try simp only [ps]
  clear hK K hHeld
  refine runL (i := 5) rfl rfl (by kernel_rfl) (fun K hK => ?_)
  go_simp
  refine (hops_any 0 20 2 15 6 20 300 (.slice (some ⟨nb, no, none⟩) n ncap) sv rv N (raisedL U S) wc1 (HN2.out.nodes.ext (by assumption)) HN2.out.ok.one.1 hrv ⟨by rw [raisedL_len]; exact HN2.out.ok.segs, raisedL_small HN2.out.ok.s60⟩ (raisedL_ok HN2.out.ok.sok) HN2.out.ok.cost).mono ?_
  rintro e wc2 ⟨lv, rfl, hlv, hx⟩
  have hq2 := hq1.trans hx
  refine hK.out _ _ hq2 (fun hHeld => ?_)
  try simp only [ps]
  clear hK K hHeld
  refine runL (i := 6) rfl rfl (by kernel_rfl) (fun K hK => ?_)
  go_simp
  refine (parts_any 0 20 2 15 6 20 300 (some ⟨nb, no, none⟩) n ncap sv lv (hopsF N (raisedL U S)) wc2 (by have := HN2.out.ok.one; rw [HNL.out] at this; exact this) hlv (by have := hopsF_len N (raisedL U S) 60 (raisedL_small HN2.out.ok.s60); rw [raisedL_len] at this; have := HN2.out.ok.segs; omega) (hopsF_wf (raisedL_ok HN2.out.ok.sok) HN2.out.ok.cost (by have := HN2.out.ok.one.2; omega))).mono ?_
  rintro e wc3 ⟨gp, rfl, hip, -, hx⟩
  have hq3 := hq2.trans hx
  have HP := Lib.hid hip
  refine hK.out _ _ hq3 (fun hHeld => ?_)
  try simp only [ps]
  clear hK K hHeld
  refine tLp 7 ((.slice (some ⟨gp, 0, none⟩) n n)) rfl hq3 ?_
  simp only [ps]
  refine wpAnyH_done (by kernel_rfl) ?_ _
  go_wp2_with fail
  go_ret
  exact ⟨gp, rfl, HP.out, HE2.out.trans (by assumption)⟩
theorem seg_open {w : World} {sv : Value} {S : List (List Pl)} (h : SegsAt w sv S) (h1 : 1 ≤ S.length) : ∃ sb so scap, sv = .slice (some ⟨sb, so, none⟩) S.length scap ∧
    ∀ W', Ext w W' → ∀ i, i < S.length → ∃ a cap, W'.cell? ⟨sb, so + i, none⟩ = some (.slice a (S.getD i []).length cap) ∧ (0 < (S.getD i []).length → ∃ pb po, a = some ⟨pb, po, none⟩ ∧
      ∀ k, k < (S.getD i []).length → W'.cell? ⟨pb, po + k * 2, none⟩ = some (.int .i64 ((S.getD i []).getD k (0, 0)).1)) := by
  obtain ⟨pv, ⟨sa, scap, rfl, hsm, hsf⟩, hpl⟩ := h
  obtain ⟨sb, so, rfl, hb, -, -, h3⟩ := hsf (by omega)
  refine ⟨sb, so, scap, rfl, fun W' hx i hi => ?_⟩
  obtain ⟨a, cap, e, -, hf⟩ := hpl i hi
  refine ⟨a, cap, ?_, fun h0 => ?_⟩
  · have := h3 i hi 0 _ rfl
    rw [Nat.add_zero, Nat.mul_one, e] at this
    exact (hx.cell hb).trans this
  · obtain ⟨pb, po, e1, hpb, -, -, h4⟩ := hf h0
    refine ⟨pb, po, e1, fun k hk => ?_⟩
    have := h4 k hk 0 _ rfl
    rw [Nat.add_zero] at this
    exact (hx.cell hpb).trans this
theorem bools_open {w : World} {uv : Value} {U : List Bool} (h : BoolsAt w uv U) (h1 : 1 ≤ U.length) : ∃ ub uo ucap, uv = .slice (some ⟨ub, uo, none⟩) U.length ucap ∧ ∀ W', Ext w W' → ∀ i, i < U.length → W'.cell? ⟨ub, uo + i, none⟩ = some (.bool (U.getD i false)) := by
  obtain ⟨ua, ucap, rfl, hm, hf⟩ := h
  obtain ⟨ub, uo, rfl, hb, -, -, h3⟩ := hf (by omega)
  refine ⟨ub, uo, ucap, rfl, fun W' hx i hi => ?_⟩
  have := h3 i hi 0 _ rfl
  rw [Nat.add_zero, Nat.mul_one] at this
  exact (hx.cell hb).trans this
theorem upsL_len (u : Int) : (upsL u).length = 6 := by simp [upsL]
/-- Two places of one segment that is up: one part. -/
theorem seg_same {N : List Nd} {S : List (List Pl)} {U : List Bool} (hok : ∀ seg ∈ S, ∀ p ∈ seg, PlOk N p) {s k m : Nat} (hs : s < S.length) (hu : U.getD s false = true) (hk : k < (S.getD s []).length) (hm : m < (S.getD s []).length) :
    (0 ≤ ((S.getD s []).getD k (0, 0)).1 ∧ ((S.getD s []).getD k (0, 0)).1 < N.length) ∧ at0 (partF N.length (hopsF N (raisedL U S))) ((S.getD s []).getD k (0, 0)).1.toNat = at0 (partF N.length (hopsF N (raisedL U S))) ((S.getD s []).getD m (0, 0)).1.toNat := by
  have mem : ∀ {j : Nat}, j < (S.getD s []).length → (S.getD s []).getD j (0, 0) ∈ S.getD s [] := fun {j} hj => by
    rw [List.getD_eq_getElem?_getD (l := S.getD s []), List.getElem?_eq_getElem hj]
    exact List.getElem_mem hj
  have hS : S.getD s [] ∈ S := by
    rw [List.getD_eq_getElem?_getD, List.getElem?_eq_getElem hs]
    exact List.getElem_mem hs
  have hR : S.getD s [] ∈ raisedL U S := List.mem_map.2 ⟨s, List.mem_range.2 hs, by unfold raisedF; rw [if_pos hu]⟩
  have ok1 := hok _ hS _ (mem hk)
  have ok2 := hok _ hS _ (mem hm)
  exact ⟨⟨ok1.1, ok1.2.1⟩, seg_part N (raisedL U S) hR (mem hk) (mem hm) ⟨ok1.1, ok1.2.1⟩ ⟨ok2.1, ok2.2.1⟩⟩
theorem parts_are (N : List Nd) (S : List (List Pl)) : ∀ j, j < N.length → 0 ≤ at0 (partF N.length (hopsF N S)) j ∧ at0 (partF N.length (hopsF N S)) j ≤ j ∧ at0 (partF N.length (hopsF N S)) (at0 (partF N.length (hopsF N S)) j).toNat = at0 (partF N.length (hopsF N S)) j := fun j hj =>
  ⟨(partF_rng _ _ j hj).1, partF_le (hopsF_sym _ _ _) hj, partF_idem (hopsF_sym _ _ _) hj⟩
theorem NetOk.ids {N : List Nd} {S : List (List Pl)} (h : NetOk N S) : ∀ i j, i < N.length → j < N.length → idA N i = idA N j → i = j := fun i j hi hj e => by
  have hn := h.nodes.2
  rw [List.nodup_iff_pairwise_ne, List.pairwise_map, List.pairwise_iff_getElem] at hn
  have g : ∀ k (hk : k < N.length), idA N k = N[k].id := fun k hk => by unfold idA; rw [List.getD_eq_getElem?_getD, List.getElem?_eq_getElem hk]; rfl
  rw [g i hi, g j hj] at e
  rcases Nat.lt_trichotomy i j with h1 | h1 | h1
  · exact absurd (by rw [e]) (hn i j hi hj h1)
  · exact h1
  · exact absurd (by rw [e]) (hn j i hj hi h1)
theorem part_plan {N : List Nd} {S0 : List (List Pl)} (h : NetOk N S0) (S : List (List Pl)) : ∀ i k, i < N.length → k < N.length → (at0 (partF N.length (hopsF N S)) i = at0 (partF N.length (hopsF N S)) k ↔ at0 (planF N S).root i = at0 (planF N S).root k) := fun i k hi hk => by
  rw [root_at hi, root_at hk]
  exact part_root N (hopsF_sym _ _ _) h.ids hi hk
theorem root_le (N : List Nd) (S : List (List Pl)) : ∀ i, i < N.length → at0 (planF N S).root i ≤ idA N i := fun i hi => by
  rw [root_at hi]
  exact root_own N (hopsF_sym _ _ _) hi
set_option maxRecDepth 100000 in
set_option maxHeartbeats 16000000 in
theorem law_PlanParts {w : World} (v : Value) (t : Tn) (ht : TinyA w v t) (hr : TnR t) (u : Int) (hu : 0 ≤ u ∧ u < 256) :
    Calls Try.prog 6 #[v, .int .u8 u] w fun e w' => e = .returned (.bool true) ∧ Ext w w' := by
  obtain ⟨a, b, hv, hab⟩ := id ht
  subst hv
  have ha1 : a.oneCell' = true := by obtain ⟨_, _, e, _⟩ := hab.1; rw [e]; rfl
  have hb1 : b.oneCell' = true := by obtain ⟨_, ⟨_, _, e, _⟩, _⟩ := hab.2.1; rw [e]; rfl
  have HO0 := Lib.hid (show (#[.int .u8 t.rst, a, b, .int .u8 t.edge] : Array Value).toList.all (·.oneCell') = true from by
    show (true && (a.oneCell' && (b.oneCell' && true))) = true
    rw [ha1, hb1]
    rfl)
  have HT := Lib.hid ht
  have HR := Lib.hid hr
  have HU := Lib.hid hu
  clear ht hr hu hab ha1 hb1
  go_enter Try.func6, Try.ntmps6
  go_wp2_with (first
    | fail
    | ((with_reducible refine at_box 25 ?_); refine bx_row rfl 25 _ rfl #[.int .u8 t.rst, a, b, .int .u8 t.edge] rfl ?_
       intro X wa hX hsz hx1
       have HXa := Lib.hid (show BoxAt wa X #[.int .u8 t.rst, a, b, .int .u8 t.edge] 25 from hX)
       have HEa := Lib.hid hx1
       clear hX hsz hx1))
  refine (awake_any wa).mono ?_
  rintro e w1 ⟨rfl, hx1⟩
  have HX1 := Lib.hid (HXa.out.ext hx1)
  have HE1 := Lib.hid (HEa.out.trans hx1)
  clear hx1
  go_wp2_with (first
    | fail
    | ((with_reducible refine at_load 25 ?_); refine wpList_load_row rfl 25 _ rfl X rfl 25 #[.int .u8 t.rst, a, b, .int .u8 t.edge] (0, 0) _ HX1.out Try.underlying25 rfl size_ti ?_))
  have htin := HT.out
  refine (tiny_any (.agg #[.int .u8 t.rst, a, b, .int .u8 t.edge]) t w1 (by obtain ⟨a', b', e1, h1, h2, h3⟩ := htin; exact ⟨a', b', e1, h1.ext HE1.out, h2.ext HE1.out, h3⟩)).mono ?_
  clear htin
  rintro e w2 ⟨nv, sv, rfl, h1, h2, h3, hx2⟩
  obtain ⟨ok, hok⟩ : ∃ ok, okT t = ok := ⟨_, rfl⟩
  rw [hok] at h3 ⊢
  have HOK := Lib.hid hok
  have H3 := Lib.hid h3
  have HX2 := Lib.hid (HX1.out.ext hx2)
  have HE2 := Lib.hid (HE1.out.trans hx2)
  have HON := Lib.hid (show (#[.int .i64 0, .int .i64 20, .int .i64 2, .int .i64 15, .int .i64 6, .int .i64 20, .int .i64 300, nv, sv] : Array Value).toList.all (·.oneCell') = true from by
    show (true && (true && (true && (true && (true && (true && (true && (nv.oneCell' && (sv.oneCell' && true))))))))) = true
    rw [h1, h2]
    rfl)
  clear h1 h2 h3 hx2 hok
  cases ok with
  | false =>
    go_wp2_with (first
      | fail
      | ((with_reducible refine at_alloc 32 ?_); refine al_zero rfl 32 rfl NZ zero_rn ?_
         intro V w3 hq3 hsz3 hx3)
      | ((with_reducible refine at_store 32 ?_); refine st_at rfl rfl 32 _ _ rfl V 0 _ #[.int .i64 0, .int .i64 20, .int .i64 2, .int .i64 15, .int .i64 6, .int .i64 20, .int .i64 300, nv, sv] NZ #[.int .i64 0, .int .i64 20, .int .i64 2, .int .i64 15, .int .i64 6, .int .i64 20, .int .i64 300, nv, sv] 32 rfl rfl rfl hq3 (by exact (by decide : 0 + 9 ≤ 9)) (by kernel_rfl) HON.out rfl ?_
         intro w4 hq4 hm4
         have E4 : Ext w2 w4 := hx3.mutE hm4 (fun g hg h => by have h2 : g = V := h; omega)
         have HVV0 := Lib.hid (show BoxAt w4 V #[.int .i64 0, .int .i64 20, .int .i64 2, .int .i64 15, .int .i64 6, .int .i64 20, .int .i64 300, nv, sv] 32 from hq4)
         have HE4 := Lib.hid E4
         clear hq3 hsz3 hx3 hq4 hm4 E4 w3))
    go_ret
    exact ⟨rfl, HE2.out.trans HE4.out⟩
  | true =>
    have HNT := Lib.hid (H3.out rfl)
    obtain ⟨n, hn⟩ : ∃ n, t.ports.length = n := ⟨_, rfl⟩
    have hn1 : 1 ≤ n ∧ n ≤ 5 := by obtain ⟨q1, q2, _⟩ := okT_spec HOK.out; omega
    have HNN := Lib.hid hn
    obtain ⟨nb, no, ncap, hnve, hids⟩ := node_id HNT.out.1 (by rw [nodesT_len, hn]; exact hn1.1)
    rw [nodesT_len, hn] at hnve hids
    have HNV := Lib.hid hnve
    clear hnve
    have HID := Lib.hid hids
    clear hn H3 hids
    obtain ⟨sb, so, scap, hsve, hsegs⟩ := seg_open HNT.out.2 (by rw [segsT_len]; omega)
    rw [segsT_len] at hsve hsegs
    have HSVE := Lib.hid hsve
    have HSG := Lib.hid hsegs
    clear hsve hsegs
    have HS0 := Lib.hid (Ext.refl w2)
    go_wp2_with (first
      | fail
      | ((with_reducible refine at_alloc 32 ?_); refine al_zero rfl 32 rfl NZ zero_rn ?_
         intro V w3 hq3 hsz3 hx3)
      | ((with_reducible refine at_store 32 ?_); refine st_at rfl rfl 32 _ _ rfl V 0 _ #[.int .i64 0, .int .i64 20, .int .i64 2, .int .i64 15, .int .i64 6, .int .i64 20, .int .i64 300, nv, sv] NZ #[.int .i64 0, .int .i64 20, .int .i64 2, .int .i64 15, .int .i64 6, .int .i64 20, .int .i64 300, nv, sv] 32 rfl rfl rfl hq3 (by exact (by decide : 0 + 9 ≤ 9)) (by kernel_rfl) HON.out rfl ?_
         intro w4 hq4 hm4
         have E4 : Ext w2 w4 := hx3.mutE hm4 (fun g hg h => by have h2 : g = V := h; omega)
         have HVV0 := Lib.hid (show BoxAt w4 V #[.int .i64 0, .int .i64 20, .int .i64 2, .int .i64 15, .int .i64 6, .int .i64 20, .int .i64 300, nv, sv] 32 from hq4)
         have HE4 := Lib.hid E4
         have HS0 := Lib.hid (HS0.out.trans E4)
         clear hq3 hsz3 hx3 hq4 hm4 E4 w3))
    refine (ups_any u w4 HU.out).mono ?_
    rintro e wu ⟨uv, rfl, hub, hxu⟩
    obtain ⟨ub, uo, ucap, huv, hbo⟩ := bools_open hub (by rw [upsL_len]; omega)
    rw [upsL_len] at huv hbo
    subst huv
    have HBO := Lib.hid hbo
    clear hbo
    have HUB := Lib.hid hub
    have HSU := Lib.hid (HS0.out.trans hxu)
    have HVU := Lib.hid (HVV0.out.ext hxu)
    clear hub
    clear hxu
    go_wp2_with (first
      | fail
      | ((with_reducible refine at_load 32 ?_); refine wpList_load_row rfl 32 _ rfl V rfl 32 #[.int .i64 0, .int .i64 20, .int .i64 2, .int .i64 15, .int .i64 6, .int .i64 20, .int .i64 300, nv, sv] (0, 0) _ HVU.out Try.underlying32 rfl size_rn ?_))
    refine (mynet_any nv sv t wu (HNT.out.1.ext HSU.out) (HNT.out.2.ext HSU.out) HR.out HOK.out).mono ?_
    rintro e wm ⟨nm, sm, rfl, hnet, -, -, hxm⟩
    go_wp2_with fail
    refine (hasparts_any nm sm _ _ _ _ wm hnet (HUB.out.ext hxm)).mono ?_
    rintro e wq ⟨gp, rfl, hip, hxq⟩
    rw [show (nodesT t).length = n from by rw [nodesT_len]; exact HNN.out] at hip ⊢
    have HIP := Lib.hid hip
    have HSQ := Lib.hid (HSU.out.trans (hxm.trans hxq))
    have HVQ := Lib.hid (HVU.out.ext (hxm.trans hxq))
    have HUQ := Lib.hid (HUB.out.ext (hxm.trans hxq))
    have HXQ := Lib.hid (hxm.trans hxq)
    clear hnet hip hxm hxq
    go_wp2_with (first
      | fail
      | ((with_reducible refine at_load 32 ?_); refine wpList_load_row rfl 32 _ rfl V rfl 32 #[.int .i64 0, .int .i64 20, .int .i64 2, .int .i64 15, .int .i64 6, .int .i64 20, .int .i64 300, nv, sv] (0, 0) _ HVQ.out Try.underlying32 rfl size_rn ?_))
    refine (mynet_any nv sv t wq (HNT.out.1.ext HSQ.out) (HNT.out.2.ext HSQ.out) HR.out HOK.out).mono ?_
    rintro e wm1 ⟨nm1, sm1, rfl, hnet, -, -, hxm1⟩
    go_wp2_with fail
    refine (plan_any nm1 sm1 _ _ _ _ wm1 hnet (HUQ.out.ext hxm1)).mono ?_
    rintro e wv1 ⟨pv, rfl, hpl, hxv1⟩
    have E0 : Ext wq wv1 := hxm1.trans hxv1
    obtain ⟨aa1, ao1, ca1, ba1, bo1, cb1, cc1, da1, dof1, cd1, ac1, rfl, hcell⟩ := plan_open (n := n) hpl (by rw [planF_root_len, nodesT_len]; exact HNN.out) (by rw [planF_cost_len, nodesT_len]; exact HNN.out) (by rw [planF_roles_len, nodesT_len]; exact HNN.out) hn1.1
    obtain ⟨q1, hq⟩ : ∃ q, planF (nodesT t) (raisedL (upsL u) (segsT t)) = q := ⟨_, rfl⟩
    rw [hq] at hcell ⊢
    have HQ1 := Lib.hid hq
    have HC1 := Lib.hid hcell
    have HG1 := Lib.hid E0
    clear hnet hpl hq hcell E0
    go_wp2_with (first
      | fail
      | ((with_reducible refine at_alloc 42 ?_); refine al_zero rfl 42 rfl PNZ zero_pn ?_
         intro P1 wa1 hqa hsza hxa)
      | ((with_reducible refine at_store 42 ?_); refine st_at rfl rfl 42 _ _ rfl P1 0 _ #[.slice (some ⟨aa1, ao1, none⟩) n ca1, .slice (some ⟨ba1, bo1, none⟩) n cb1, .slice ac1 q1.by_.length cc1, .slice (some ⟨da1, dof1, none⟩) n cd1] PNZ #[.slice (some ⟨aa1, ao1, none⟩) n ca1, .slice (some ⟨ba1, bo1, none⟩) n cb1, .slice ac1 q1.by_.length cc1, .slice (some ⟨da1, dof1, none⟩) n cd1] 42 rfl rfl rfl hqa (by exact (by decide : 0 + 4 ≤ 4)) (by kernel_rfl) rfl rfl ?_
         intro wp1 hqp hmp
         have EP : Ext wv1 wp1 := hxa.mutE hmp (fun g hg h => by have h2 : g = P1 := h; omega)
         have HB1 := Lib.hid (show BoxAt wp1 P1 #[.slice (some ⟨aa1, ao1, none⟩) n ca1, .slice (some ⟨ba1, bo1, none⟩) n cb1, .slice ac1 q1.by_.length cc1, .slice (some ⟨da1, dof1, none⟩) n cd1] 42 from hqp)
         have HCE1 := Lib.hid EP
         have HS1 := Lib.hid (HSQ.out.trans (HG1.out.trans EP))
         have HVV1 := Lib.hid (HVQ.out.ext (HG1.out.trans EP))
         have HIP1 := Lib.hid (show IRow wp1 gp _ from ((HG1.out.trans EP).block gp (heap_lt HIP.out)).trans HIP.out)
         have HUP := Lib.hid (HXQ.out.trans (HG1.out.trans EP))
         have p0 : wp1.cell? ⟨P1, 0, none⟩ = some (.slice (some ⟨aa1, ao1, none⟩) n ca1) := HB1.out.cell 0 rfl
         have v7 : wp1.cell? ⟨V, 7, none⟩ = some (.slice (some ⟨nb, no, none⟩) n ncap) := by rw [← HNV.out]; exact HVV1.out.cell 7 rfl
         have v8 : wp1.cell? ⟨V, 8, none⟩ = some (.slice (some ⟨sb, so, none⟩) 6 scap) := by rw [← HSVE.out]; exact HVV1.out.cell 8 rfl
         clear hqa hsza hxa hqp hmp EP))
    clear p0 v7 v8
    have HOKN := Lib.hid (tiny_ok HR.out HOK.out)
    have HNL := Lib.hid (show (nodesT t).length = n from by rw [nodesT_len]; exact HNN.out)
    obtain ⟨PP, hPP⟩ : ∃ l, partF n (hopsF (nodesT t) (raisedL (upsL u) (segsT t))) = l := ⟨_, rfl⟩
    have HPP := Lib.hid hPP
    have HPL := Lib.hid (show PP.length = n from by rw [← hPP]; exact partF_len _ _)
    have HP1 := Lib.hid (parts_are (nodesT t) (raisedL (upsL u) (segsT t)))
    have HP2 := Lib.hid (part_plan HOKN.out (raisedL (upsL u) (segsT t)))
    have HP3 := Lib.hid (root_le (nodesT t) (raisedL (upsL u) (segsT t)))
    rw [HNL.out, hPP] at HP1
    rw [HNL.out, hPP, HQ1.out] at HP2
    rw [HNL.out, HQ1.out] at HP3
    rw [hPP] at HIP HIP1
    clear hPP
    go_loopw [11] (fun s wr => ∃ (i : Nat) (wo : World), wo = wr ∧ s = .int .i64 i ∧ i ≤ 6 ∧ Ext wp1 wo) (fun s _ => 6 - (intOf s).toNat)
    case atStart => exact ⟨0, _, rfl, rfl, by omega, Ext.refl _⟩
    case round =>
      obtain ⟨s, wo, rfl, rfl, hs, hx⟩ := hrel
      rename World => wl
      have HXL := Lib.hid hx
      have v8 : wl.cell? ⟨V, 8, none⟩ = some (.slice (some ⟨sb, so, none⟩) 6 scap) := by rw [← HSVE.out]; exact (HVV1.out.ext hx).cell 8 rfl
      have hup : IntKind.i64.wrap ((s : Int) + 1) = ((s + 1 : Nat) : Int) := by rw [IntKind.wrap_i64]; omega
      clear hx
      by_cases hlt : s < 6
      · have dlt : decide ((s : Int) < (6 : Int)) = true := by simp; omega
        obtain ⟨a, cap, hc, hpl⟩ := HSG.out wl (HS1.out.trans HXL.out) s hlt
        obtain ⟨m, hm⟩ : ∃ m, ((segsT t).getD s []).length = m := ⟨_, rfl⟩
        rw [hm] at hc hpl
        have HC := Lib.hid hc
        have HPC := Lib.hid hpl
        have HM := Lib.hid hm
        have KV := Lib.hid (show ∀ W', Ext wl W' → W'.cell? ⟨V, 8, none⟩ = some (.slice (some ⟨sb, so, none⟩) 6 scap) from fun W' hx => (hx.cell (World.block_lt_of_cell? wl _ v8)).trans v8)
        clear hpl hm
        go_wp2_with fail
        go_loopw [12] (fun s wr => ∃ (k : Nat) (wo : World), wo = wr ∧ s = .int .i64 k ∧ (1 ≤ k ∧ k ≤ m ∨ k = 1) ∧ Ext wl wo) (fun s _ => m - (intOf s).toNat)
        case atStart => exact ⟨1, _, rfl, rfl, by omega, Ext.refl _⟩
        case round =>
          obtain ⟨k, wo, rfl, rfl, hk, hx⟩ := hrel
          rename World => wk
          have HXK := Lib.hid hx
          have v8 : wk.cell? ⟨V, 8, none⟩ = some (.slice (some ⟨sb, so, none⟩) 6 scap) := KV.out wk hx
          have hc : wk.cell? ⟨sb, so + s, none⟩ = some (.slice a m cap) := (hx.cell (World.block_lt_of_cell? wl _ HC.out)).trans HC.out
          by_cases hkt : k < m
          · have dkt : decide ((k : Int) < (m : Int)) = true := by simp; omega
            have hupk : IntKind.i64.wrap ((k : Int) + 1) = ((k + 1 : Nat) : Int) := by rw [IntKind.wrap_i64]; have := HOKN.out.seg60 s (by rw [segsT_len]; exact hlt); rw [HM.out] at this; omega
            obtain ⟨pb, po, rfl, hpk⟩ := HPC.out (by omega)
            have keep : ∀ {p : Addr} {u : Value}, wk.cell? p = some u → ∀ W', Ext wk W' → W'.cell? p = some u := fun h W' hx => (hx.cell (World.block_lt_of_cell? wk _ h)).trans h
            have KW := Lib.hid (keep v8)
            have KC := Lib.hid (keep hc)
            have KU := Lib.hid (show ∀ W', Ext wk W' → W'.cell? ⟨ub, uo + s, none⟩ = some (.bool ((upsL u).getD s false)) from fun W' hw => HBO.out W' (HUP.out.trans (HXL.out.trans (HXK.out.trans hw))) s hlt)
            cases hb : (upsL u).getD s false with
            | false =>
              rw [hb] at KU
              clear hx keep hpk
              go_wp2_with fail
              refine beginL (S := fun W' => Ext wk W') (by kernel_rfl) ?_
              intro wd hqx
              have hq0 : Ext wk wd := hqx
              refine tLp 0 ((.slice (some ⟨ub, uo, none⟩) 6 ucap)) rfl hq0 ?_
              simp only [ps]
              refine tLp 1 ((.int .i64 (s : Int))) rfl hq0 ?_
              simp only [ps]
              refine tL 2 ((.pointer (some ⟨ub, uo + s, none⟩))) rfl (Or.inl ⟨rfl, fun W' _ => by go_simp <;> (intro h; omega)⟩) hq0 ?_
              simp only [ps]
              refine tL 3 (_) rfl (yieldsIf_cell rfl 4 _ rfl ⟨ub, uo + s, none⟩ rfl (.bool false) _ (fun W' hW' => KU.out W' hW') Try.underlying4 rfl) hq0 ?_
              simp only [ps]
              refine tLp 4 ((.bool false)) rfl hq0 ?_
              simp only [ps]
              refine tL 5 (undef) rfl (Or.inr ⟨rfl, rfl⟩) hq0 ?_
              simp only [ps]
              refine tL 6 (undef) rfl (Or.inr ⟨rfl, rfl⟩) hq0 ?_
              simp only [ps]
              refine tL 7 (undef) rfl (Or.inr ⟨rfl, rfl⟩) hq0 ?_
              simp only [ps]
              refine tL 8 (undef) rfl (Or.inr ⟨rfl, rfl⟩) hq0 ?_
              simp only [ps]
              refine tL 9 (undef) rfl (Or.inr ⟨rfl, rfl⟩) hq0 ?_
              simp only [ps]
              refine tL 10 (undef) rfl (Or.inr ⟨rfl, rfl⟩) hq0 ?_
              simp only [ps]
              refine tL 11 (undef) rfl (Or.inr ⟨rfl, rfl⟩) hq0 ?_
              simp only [ps]
              refine tL 12 (undef) rfl (Or.inr ⟨rfl, rfl⟩) hq0 ?_
              simp only [ps]
              refine tL 13 (undef) rfl (Or.inr ⟨rfl, rfl⟩) hq0 ?_
              simp only [ps]
              refine tL 14 (undef) rfl (Or.inr ⟨rfl, rfl⟩) hq0 ?_
              simp only [ps]
              refine tL 15 (undef) rfl (Or.inr ⟨rfl, rfl⟩) hq0 ?_
              simp only [ps]
              refine tL 16 (undef) rfl (Or.inr ⟨rfl, rfl⟩) hq0 ?_
              simp only [ps]
              refine tL 17 (undef) rfl (Or.inr ⟨rfl, rfl⟩) hq0 ?_
              simp only [ps]
              refine tL 18 (undef) rfl (Or.inr ⟨rfl, rfl⟩) hq0 ?_
              simp only [ps]
              refine tL 19 (undef) rfl (Or.inr ⟨rfl, rfl⟩) hq0 ?_
              simp only [ps]
              refine tL 20 (undef) rfl (Or.inr ⟨rfl, rfl⟩) hq0 ?_
              simp only [ps]
              refine tL 21 (undef) rfl (Or.inr ⟨rfl, rfl⟩) hq0 ?_
              simp only [ps]
              refine tL 22 (undef) rfl (Or.inr ⟨rfl, rfl⟩) hq0 ?_
              simp only [ps]
              refine tL 23 (undef) rfl (Or.inr ⟨rfl, rfl⟩) hq0 ?_
              simp only [ps]
              refine tL 24 (undef) rfl (Or.inr ⟨rfl, rfl⟩) hq0 ?_
              simp only [ps]
              refine tL 25 (undef) rfl (Or.inr ⟨rfl, rfl⟩) hq0 ?_
              simp only [ps]
              refine tL 26 (undef) rfl (Or.inr ⟨rfl, rfl⟩) hq0 ?_
              simp only [ps]
              refine tL 27 (undef) rfl (Or.inr ⟨rfl, rfl⟩) hq0 ?_
              simp only [ps]
              refine tL 28 (undef) rfl (Or.inr ⟨rfl, rfl⟩) hq0 ?_
              simp only [ps]
              refine tLp 29 ((.bool false)) rfl hq0 ?_
              simp only [ps]
              refine wpAnyH_done (by kernel_rfl) ?_ _
              go_wp2_with fail
              go_roundw
              case rel => exact ⟨k + 1, _, rfl, by go_num, by omega, HXK.out.trans (by first | assumption | exact Ext.refl _)⟩
              case measure => simp [intOf] <;> omega
            | true =>
              rw [hb] at KU
              have h1 : ∀ W', Ext wk W' → W'.cell? ⟨pb, po + k * 2, none⟩ = some (.int .i64 (((segsT t).getD s []).getD k (0, 0)).1) := fun W' hw => ((HXK.out.trans hw).cell (World.block_lt_of_cell? wl _ (hpk k hkt))).trans (hpk k hkt)
              have h2 : ∀ W', Ext wk W' → W'.cell? ⟨pb, po + 0 * 2, none⟩ = some (.int .i64 (((segsT t).getD s []).getD 0 (0, 0)).1) := fun W' hw => ((HXK.out.trans hw).cell (World.block_lt_of_cell? wl _ (hpk 0 (by omega)))).trans (hpk 0 (by omega))
              rw [Nat.zero_mul, Nat.add_zero] at h2
              have s1 := seg_same (N := nodesT t) (S := segsT t) (U := upsL u) HOKN.out.sok (s := s) (k := k) (m := 0) (by rw [segsT_len]; exact hlt) hb (by rw [HM.out]; exact hkt) (by rw [HM.out]; omega)
              have s2 := seg_same (N := nodesT t) (S := segsT t) (U := upsL u) HOKN.out.sok (s := s) (k := 0) (m := 0) (by rw [segsT_len]; exact hlt) hb (by rw [HM.out]; omega) (by rw [HM.out]; omega)
              rw [HNL.out, HPP.out] at s1 s2
              obtain ⟨b1, hb1⟩ : ∃ b : Nat, (((segsT t).getD s []).getD k (0, 0)).1 = b := ⟨_, (Int.toNat_of_nonneg s1.1.1).symm⟩
              obtain ⟨b2, hb2⟩ : ∃ b : Nat, (((segsT t).getD s []).getD 0 (0, 0)).1 = b := ⟨_, (Int.toNat_of_nonneg s2.1.1).symm⟩
              rw [hb1] at s1 h1
              rw [hb2] at s1 s2 h2
              simp only [Int.toNat_natCast] at s1
              have lb1 : b1 < n := by omega
              have lb2 : b2 < n := by omega
              obtain ⟨x, hx0⟩ : ∃ x, at0 PP b2 = x := ⟨_, rfl⟩
              have K1 := Lib.hid h1
              have K2 := Lib.hid h2
              have g : ∀ b : Nat, b < n → ∀ W', Ext wk W' → W'.cell? ⟨gp, b, none⟩ = some (.int .i64 (at0 PP b)) := fun b hb W' hw => (HIP1.out.ext (HXL.out.trans (HXK.out.trans hw))).cell (by rw [HPL.out]; exact hb)
              have g1 := g b1 lb1
              rw [s1.2, hx0] at g1
              have g2 := g b2 lb2
              rw [hx0] at g2
              have K3 := Lib.hid g1
              have K4 := Lib.hid g2
              clear hx keep hpk h1 h2 s1 s2 g g1 g2 hx0 hb1 hb2
              go_wp2_with fail
              refine beginL (S := fun W' => Ext wk W') (by kernel_rfl) ?_
              intro wd hqx
              have hq0 : Ext wk wd := hqx
              refine tLp 0 ((.slice (some ⟨ub, uo, none⟩) 6 ucap)) rfl hq0 ?_
              simp only [ps]
              refine tLp 1 ((.int .i64 (s : Int))) rfl hq0 ?_
              simp only [ps]
              refine tL 2 ((.pointer (some ⟨ub, uo + s, none⟩))) rfl (Or.inl ⟨rfl, fun W' _ => by go_simp <;> (intro h; omega)⟩) hq0 ?_
              simp only [ps]
              refine tL 3 (_) rfl (yieldsIf_cell rfl 4 _ rfl ⟨ub, uo + s, none⟩ rfl (.bool true) _ (fun W' hW' => KU.out W' hW') Try.underlying4 rfl) hq0 ?_
              simp only [ps]
              refine tLp 4 ((.bool true)) rfl hq0 ?_
              simp only [ps]
              refine tLp 5 ((.slice (some ⟨gp, 0, none⟩) n n)) rfl hq0 ?_
              simp only [ps]
              refine tLp 6 ((.pointer (some ⟨V, 8, none⟩))) rfl hq0 ?_
              simp only [ps]
              refine tL 7 (_) rfl (yieldsIf_cell rfl 30 _ rfl ⟨V, 8, none⟩ rfl (.slice (some ⟨sb, so, none⟩) 6 scap) _ (fun W' hW' => KW.out W' hW') Try.underlying30 rfl) hq0 ?_
              simp only [ps]
              refine tLp 8 ((.int .i64 (s : Int))) rfl hq0 ?_
              simp only [ps]
              refine tL 9 ((.pointer (some ⟨sb, so + s, none⟩))) rfl (Or.inl ⟨rfl, fun W' _ => by go_simp <;> (intro h; omega)⟩) hq0 ?_
              simp only [ps]
              refine tL 10 (_) rfl (yieldsIf_cell rfl 49 _ rfl ⟨sb, so + s, none⟩ rfl (.slice (some ⟨pb, po, none⟩) m cap) _ (fun W' hW' => KC.out W' hW') Try.underlying49 rfl) hq0 ?_
              simp only [ps]
              refine tLp 11 ((.int .i64 (k : Int))) rfl hq0 ?_
              simp only [ps]
              refine tL 12 ((.pointer (some ⟨pb, po + k * 2, none⟩))) rfl (Or.inl ⟨rfl, fun W' _ => by go_simp <;> (intro h; omega)⟩) hq0 ?_
              simp only [ps]
              refine tLp 13 ((.pointer (some ⟨pb, po + k * 2, none⟩))) rfl hq0 ?_
              simp only [ps]
              refine tL 14 (_) rfl (yieldsIf_cell rfl 3 _ rfl ⟨pb, po + k * 2, none⟩ rfl (.int .i64 (b1 : Int)) _ (fun W' hW' => K1.out W' hW') Try.underlying3 rfl) hq0 ?_
              simp only [ps]
              refine tL 15 ((.pointer (some ⟨gp, b1, none⟩))) rfl (Or.inl ⟨rfl, fun W' _ => by go_simp <;> (intro h; omega)⟩) hq0 ?_
              simp only [ps]
              refine tL 16 (_) rfl (yieldsIf_cell rfl 3 _ rfl ⟨gp, b1, none⟩ rfl (.int .i64 x) _ (fun W' hW' => K3.out W' hW') Try.underlying3 rfl) hq0 ?_
              simp only [ps]
              refine tLp 17 ((.slice (some ⟨gp, 0, none⟩) n n)) rfl hq0 ?_
              simp only [ps]
              refine tLp 18 ((.pointer (some ⟨V, 8, none⟩))) rfl hq0 ?_
              simp only [ps]
              refine tL 19 (_) rfl (yieldsIf_cell rfl 30 _ rfl ⟨V, 8, none⟩ rfl (.slice (some ⟨sb, so, none⟩) 6 scap) _ (fun W' hW' => KW.out W' hW') Try.underlying30 rfl) hq0 ?_
              simp only [ps]
              refine tLp 20 ((.int .i64 (s : Int))) rfl hq0 ?_
              simp only [ps]
              refine tL 21 ((.pointer (some ⟨sb, so + s, none⟩))) rfl (Or.inl ⟨rfl, fun W' _ => by go_simp <;> (intro h; omega)⟩) hq0 ?_
              simp only [ps]
              refine tL 22 (_) rfl (yieldsIf_cell rfl 49 _ rfl ⟨sb, so + s, none⟩ rfl (.slice (some ⟨pb, po, none⟩) m cap) _ (fun W' hW' => KC.out W' hW') Try.underlying49 rfl) hq0 ?_
              simp only [ps]
              refine tL 23 ((.pointer (some ⟨pb, po, none⟩))) rfl (Or.inl ⟨rfl, fun W' _ => by go_simp <;> (intro h; omega)⟩) hq0 ?_
              simp only [ps]
              refine tLp 24 ((.pointer (some ⟨pb, po, none⟩))) rfl hq0 ?_
              simp only [ps]
              refine tL 25 (_) rfl (yieldsIf_cell rfl 3 _ rfl ⟨pb, po, none⟩ rfl (.int .i64 (b2 : Int)) _ (fun W' hW' => K2.out W' hW') Try.underlying3 rfl) hq0 ?_
              simp only [ps]
              refine tL 26 ((.pointer (some ⟨gp, b2, none⟩))) rfl (Or.inl ⟨rfl, fun W' _ => by go_simp <;> (intro h; omega)⟩) hq0 ?_
              simp only [ps]
              refine tL 27 (_) rfl (yieldsIf_cell rfl 3 _ rfl ⟨gp, b2, none⟩ rfl (.int .i64 x) _ (fun W' hW' => K4.out W' hW') Try.underlying3 rfl) hq0 ?_
              simp only [ps]
              refine tL 28 ((.bool false)) rfl (Or.inl ⟨rfl, fun W' _ => by go_simp⟩) hq0 ?_
              simp only [ps]
              refine tLp 29 ((.bool false)) rfl hq0 ?_
              simp only [ps]
              refine wpAnyH_done (by kernel_rfl) ?_ _
              go_wp2_with fail
              go_roundw
              case rel => exact ⟨k + 1, _, rfl, by go_num, by omega, HXK.out.trans (by first | assumption | exact Ext.refl _)⟩
              case measure => simp [intOf] <;> omega
          · have dkt : decide ((k : Int) < (m : Int)) = false := by simp; omega
            clear hx
            go_wp2_with fail
            go_roundw
            case rel => exact ⟨s + 1, _, rfl, by go_num, hlt, HXL.out.trans (HXK.out.trans (by first | assumption | exact Ext.refl _))⟩
            case measure => simp [intOf] <;> omega
      · have dlt : decide ((s : Int) < (6 : Int)) = false := by simp; omega
        go_wp2_with fail
        go_loopw [13] (fun s wr => ∃ (i : Nat) (wo : World), wo = wr ∧ s = .int .i64 i ∧ i ≤ n ∧ Ext wl wo) (fun s _ => n - (intOf s).toNat)
        case atStart => exact ⟨0, _, rfl, rfl, by omega, Ext.refl _⟩
        case round =>
          obtain ⟨i, wo, rfl, rfl, hi, hx⟩ := hrel
          rename World => wj
          have HXJ := Lib.hid (HXL.out.trans hx)
          have HXJ0 := Lib.hid hx
          have hupi : IntKind.i64.wrap ((i : Int) + 1) = ((i + 1 : Nat) : Int) := by rw [IntKind.wrap_i64]; omega
          clear hx
          by_cases hlti : i < n
          · have dlti : decide ((i : Int) < (n : Int)) = true := by simp; omega
            obtain ⟨pp1, pp2, pp3⟩ := HP1.out i hlti
            obtain ⟨b, hb⟩ : ∃ b : Nat, at0 PP i = b := ⟨_, (Int.toNat_of_nonneg pp1).symm⟩
            rw [hb, Int.toNat_natCast] at pp3
            rw [hb] at pp2
            have g : ∀ j : Nat, j < n → ∀ W', Ext wj W' → W'.cell? ⟨gp, j, none⟩ = some (.int .i64 (at0 PP j)) := fun j hj W' hw => (HIP1.out.ext (HXJ.out.trans hw)).cell (by rw [HPL.out]; exact hj)
            have g1 := g i hlti
            rw [hb] at g1
            have g2 := g b (by omega)
            rw [pp3] at g2
            have hr : ∀ j : Nat, j < n → ∀ W', Ext wj W' → W'.cell? ⟨aa1, ao1 + j, none⟩ = some (.int .u64 (at0 q1.root j)) := fun j hj W' hw => (HC1.out W' (HCE1.out.trans (HXJ.out.trans hw)) j hj).1
            have hid0 : ∀ W', Ext wj W' → W'.cell? ⟨nb, no + i * 3, none⟩ = some (.int .u64 (idA (nodesT t) i)) := fun W' hw => HID.out W' (HS1.out.trans (HXJ.out.trans hw)) i hlti
            have le := HP3.out i hlti
            have HB := Lib.hid hb
            have r1 := hr i hlti
            obtain ⟨x, hx1⟩ : ∃ x, at0 q1.root i = x := ⟨_, rfl⟩
            obtain ⟨y, hy1⟩ : ∃ x, idA (nodesT t) i = x := ⟨_, rfl⟩
            rw [hx1] at r1 le
            rw [hy1] at hid0 le
            have HX1 := Lib.hid hx1
            have K1 := Lib.hid g1
            have K2 := Lib.hid g2
            have K3 := Lib.hid r1
            have K4 := Lib.hid hid0
            have KP := Lib.hid (show ∀ W', Ext wj W' → W'.cell? ⟨P1, 0, none⟩ = some (.slice (some ⟨aa1, ao1, none⟩) n ca1) from fun W' hw => (HB1.out.ext (HXJ.out.trans hw)).cell 0 rfl)
            have KV := Lib.hid (show ∀ W', Ext wj W' → W'.cell? ⟨V, 7, none⟩ = some (.slice (some ⟨nb, no, none⟩) n ncap) from fun W' hw => by rw [← HNV.out]; exact (HVV1.out.ext (HXJ.out.trans hw)).cell 7 rfl)
            have KG := Lib.hid g
            have KR := Lib.hid hr
            have d1 : decide ((b : Int) < 0) = false := by simp
            have d2 : decide ((i : Int) < (b : Int)) = false := by simp; omega
            have d3 : decide (y < x) = false := by simp; omega
            clear pp1 pp3 g g1 g2 hr r1 hid0 hx1 hy1 hb
            go_wp2_with fail
            refine beginL (S := fun W' => Ext wj W') (by kernel_rfl) ?_
            intro wd hqx
            have hq0 : Ext wj wd := hqx
            refine tLp 0 ((.slice (some ⟨gp, 0, none⟩) n n)) rfl hq0 ?_
            simp only [ps]
            refine tLp 1 ((.int .i64 (i : Int))) rfl hq0 ?_
            simp only [ps]
            refine tL 2 ((.pointer (some ⟨gp, i, none⟩))) rfl (Or.inl ⟨rfl, fun W' _ => by go_simp <;> (intro h; omega)⟩) hq0 ?_
            simp only [ps]
            refine tL 3 (_) rfl (yieldsIf_cell rfl 3 _ rfl ⟨gp, i, none⟩ rfl (.int .i64 (b : Int)) _ (fun W' hW' => K1.out W' hW') Try.underlying3 rfl) hq0 ?_
            simp only [ps]
            refine tL 4 ((.bool false)) rfl (Or.inl ⟨rfl, fun W' _ => by go_simp⟩) hq0 ?_
            simp only [ps]
            refine tLp 5 ((.bool false)) rfl hq0 ?_
            simp only [ps]
            refine tLp 6 ((.slice (some ⟨gp, 0, none⟩) n n)) rfl hq0 ?_
            simp only [ps]
            refine tLp 7 ((.int .i64 (i : Int))) rfl hq0 ?_
            simp only [ps]
            refine tL 8 ((.pointer (some ⟨gp, i, none⟩))) rfl (Or.inl ⟨rfl, fun W' _ => by go_simp <;> (intro h; omega)⟩) hq0 ?_
            simp only [ps]
            refine tL 9 (_) rfl (yieldsIf_cell rfl 3 _ rfl ⟨gp, i, none⟩ rfl (.int .i64 (b : Int)) _ (fun W' hW' => K1.out W' hW') Try.underlying3 rfl) hq0 ?_
            simp only [ps]
            refine tLp 10 ((.int .i64 (i : Int))) rfl hq0 ?_
            simp only [ps]
            refine tL 11 ((.bool false)) rfl (Or.inl ⟨rfl, fun W' _ => by go_simp <;> omega⟩) hq0 ?_
            simp only [ps]
            refine tLp 12 ((.bool false)) rfl hq0 ?_
            simp only [ps]
            refine tLp 13 ((.bool false)) rfl hq0 ?_
            simp only [ps]
            refine tLp 14 ((.pointer (some ⟨P1, 0, none⟩))) rfl hq0 ?_
            simp only [ps]
            refine tL 15 (_) rfl (yieldsIf_cell rfl 37 _ rfl ⟨P1, 0, none⟩ rfl (.slice (some ⟨aa1, ao1, none⟩) n ca1) _ (fun W' hW' => KP.out W' hW') Try.underlying37 rfl) hq0 ?_
            simp only [ps]
            refine tLp 16 ((.int .i64 (i : Int))) rfl hq0 ?_
            simp only [ps]
            refine tL 17 ((.pointer (some ⟨aa1, ao1 + i, none⟩))) rfl (Or.inl ⟨rfl, fun W' _ => by go_simp <;> (intro h; omega)⟩) hq0 ?_
            simp only [ps]
            refine tL 18 (_) rfl (yieldsIf_cell rfl 53 _ rfl ⟨aa1, ao1 + i, none⟩ rfl (.int .u64 x) _ (fun W' hW' => K3.out W' hW') Try.underlying53 rfl) hq0 ?_
            simp only [ps]
            refine tLp 19 ((.pointer (some ⟨V, 7, none⟩))) rfl hq0 ?_
            simp only [ps]
            refine tL 20 (_) rfl (yieldsIf_cell rfl 29 _ rfl ⟨V, 7, none⟩ rfl (.slice (some ⟨nb, no, none⟩) n ncap) _ (fun W' hW' => KV.out W' hW') Try.underlying29 rfl) hq0 ?_
            simp only [ps]
            refine tLp 21 ((.int .i64 (i : Int))) rfl hq0 ?_
            simp only [ps]
            refine tL 22 ((.pointer (some ⟨nb, no + i * 3, none⟩))) rfl (Or.inl ⟨rfl, fun W' _ => by go_simp <;> (intro h; omega)⟩) hq0 ?_
            simp only [ps]
            refine tLp 23 ((.pointer (some ⟨nb, no + i * 3, none⟩))) rfl hq0 ?_
            simp only [ps]
            refine tL 24 (_) rfl (yieldsIf_cell rfl 53 _ rfl ⟨nb, no + i * 3, none⟩ rfl (.int .u64 y) _ (fun W' hW' => K4.out W' hW') Try.underlying53 rfl) hq0 ?_
            simp only [ps]
            refine tL 25 ((.bool false)) rfl (Or.inl ⟨rfl, fun W' _ => by go_simp⟩) hq0 ?_
            simp only [ps]
            refine tLp 26 ((.bool false)) rfl hq0 ?_
            simp only [ps]
            refine wpAnyH_done (by kernel_rfl) ?_ _
            have HQ21 := Lib.hid hq0
            clear hqx hq0
            go_wp2_with fail
            refine beginL (S := fun W' => Ext wj W') (by kernel_rfl) ?_
            intro wd hqx
            have hq0 : Ext wj wd := HQ21.out.trans hqx
            refine tLp 0 ((.slice (some ⟨gp, 0, none⟩) n n)) rfl hq0 ?_
            simp only [ps]
            refine tLp 1 ((.slice (some ⟨gp, 0, none⟩) n n)) rfl hq0 ?_
            simp only [ps]
            refine tLp 2 ((.int .i64 (i : Int))) rfl hq0 ?_
            simp only [ps]
            refine tL 3 ((.pointer (some ⟨gp, i, none⟩))) rfl (Or.inl ⟨rfl, fun W' _ => by go_simp <;> (intro h; omega)⟩) hq0 ?_
            simp only [ps]
            refine tL 4 (_) rfl (yieldsIf_cell rfl 3 _ rfl ⟨gp, i, none⟩ rfl (.int .i64 (b : Int)) _ (fun W' hW' => K1.out W' hW') Try.underlying3 rfl) hq0 ?_
            simp only [ps]
            refine tL 5 ((.pointer (some ⟨gp, b, none⟩))) rfl (Or.inl ⟨rfl, fun W' _ => by go_simp <;> (intro h; omega)⟩) hq0 ?_
            simp only [ps]
            refine tL 6 (_) rfl (yieldsIf_cell rfl 3 _ rfl ⟨gp, b, none⟩ rfl (.int .i64 (b : Int)) _ (fun W' hW' => K2.out W' hW') Try.underlying3 rfl) hq0 ?_
            simp only [ps]
            refine tLp 7 ((.slice (some ⟨gp, 0, none⟩) n n)) rfl hq0 ?_
            simp only [ps]
            refine tLp 8 ((.int .i64 (i : Int))) rfl hq0 ?_
            simp only [ps]
            refine tL 9 ((.pointer (some ⟨gp, i, none⟩))) rfl (Or.inl ⟨rfl, fun W' _ => by go_simp <;> (intro h; omega)⟩) hq0 ?_
            simp only [ps]
            refine tL 10 (_) rfl (yieldsIf_cell rfl 3 _ rfl ⟨gp, i, none⟩ rfl (.int .i64 (b : Int)) _ (fun W' hW' => K1.out W' hW') Try.underlying3 rfl) hq0 ?_
            simp only [ps]
            refine tL 11 ((.bool false)) rfl (Or.inl ⟨rfl, fun W' _ => by go_simp⟩) hq0 ?_
            simp only [ps]
            refine wpAnyH_done (by kernel_rfl) ?_ _
            go_wp2_with fail
            go_loopw [14] (fun s wr => ∃ (k : Nat) (wo : World), wo = wr ∧ s = .int .i64 k ∧ k ≤ i ∧ Ext wj wo) (fun s _ => i - (intOf s).toNat)
            case atStart => exact ⟨0, _, rfl, rfl, by omega, by assumption⟩
            case round =>
              obtain ⟨k, wo, rfl, rfl, hk, hx⟩ := hrel
              rename World => wk
              have HXK := Lib.hid hx
              have hupk : IntKind.i64.wrap ((k : Int) + 1) = ((k + 1 : Nat) : Int) := by rw [IntKind.wrap_i64]; omega
              clear hx
              by_cases hkt : k < i
              · have dkt : decide ((k : Int) < (i : Int)) = true := by simp; omega
                obtain ⟨c, hc⟩ : ∃ c, at0 PP k = c := ⟨_, rfl⟩
                obtain ⟨z, hz⟩ : ∃ z, at0 q1.root k = z := ⟨_, rfl⟩
                have e := HP2.out i k hlti (by omega)
                have g3 := KG.out k (by omega)
                have r3 := KR.out k (by omega)
                rw [HB.out, HX1.out, hc, hz] at e
                rw [hc] at g3
                rw [hz] at r3
                clear hc hz
                by_cases hpk : (b : Int) = c
                · have hxz := e.1 hpk
                  subst hpk
                  subst hxz
                  have K5 := Lib.hid g3
                  have K6 := Lib.hid r3
                  have d5 : ((b : Int) == (b : Int)) = true := by simp
                  have d6 : (x == x) = true := by simp
                  clear g3 r3 e
                  go_wp2_with fail
                  refine beginL (S := fun W' => Ext wk W') (by kernel_rfl) ?_
                  intro wd hqx
                  have hq0 : Ext wk wd := hqx
                  refine tLp 0 ((.slice (some ⟨gp, 0, none⟩) n n)) rfl hq0 ?_
                  simp only [ps]
                  refine tLp 1 ((.int .i64 (i : Int))) rfl hq0 ?_
                  simp only [ps]
                  refine tL 2 ((.pointer (some ⟨gp, i, none⟩))) rfl (Or.inl ⟨rfl, fun W' _ => by go_simp <;> (intro h; omega)⟩) hq0 ?_
                  simp only [ps]
                  refine tL 3 (_) rfl (yieldsIf_cell rfl 3 _ rfl ⟨gp, i, none⟩ rfl (.int .i64 (b : Int)) _ (fun W' hW' => K1.out W' (HXK.out.trans hW')) Try.underlying3 rfl) hq0 ?_
                  simp only [ps]
                  refine tLp 4 ((.slice (some ⟨gp, 0, none⟩) n n)) rfl hq0 ?_
                  simp only [ps]
                  refine tLp 5 ((.int .i64 (k : Int))) rfl hq0 ?_
                  simp only [ps]
                  refine tL 6 ((.pointer (some ⟨gp, k, none⟩))) rfl (Or.inl ⟨rfl, fun W' _ => by go_simp <;> (intro h; omega)⟩) hq0 ?_
                  simp only [ps]
                  refine tL 7 (_) rfl (yieldsIf_cell rfl 3 _ rfl ⟨gp, k, none⟩ rfl (.int .i64 (b : Int)) _ (fun W' hW' => K5.out W' (HXK.out.trans hW')) Try.underlying3 rfl) hq0 ?_
                  simp only [ps]
                  refine tL 8 ((.bool true)) rfl (Or.inl ⟨rfl, fun W' _ => by go_simp⟩) hq0 ?_
                  simp only [ps]
                  refine tLp 9 ((.pointer (some ⟨P1, 0, none⟩))) rfl hq0 ?_
                  simp only [ps]
                  refine tL 10 (_) rfl (yieldsIf_cell rfl 37 _ rfl ⟨P1, 0, none⟩ rfl (.slice (some ⟨aa1, ao1, none⟩) n ca1) _ (fun W' hW' => KP.out W' (HXK.out.trans hW')) Try.underlying37 rfl) hq0 ?_
                  simp only [ps]
                  refine tLp 11 ((.int .i64 (i : Int))) rfl hq0 ?_
                  simp only [ps]
                  refine tL 12 ((.pointer (some ⟨aa1, ao1 + i, none⟩))) rfl (Or.inl ⟨rfl, fun W' _ => by go_simp <;> (intro h; omega)⟩) hq0 ?_
                  simp only [ps]
                  refine tL 13 (_) rfl (yieldsIf_cell rfl 53 _ rfl ⟨aa1, ao1 + i, none⟩ rfl (.int .u64 x) _ (fun W' hW' => K3.out W' (HXK.out.trans hW')) Try.underlying53 rfl) hq0 ?_
                  simp only [ps]
                  refine tLp 14 ((.pointer (some ⟨P1, 0, none⟩))) rfl hq0 ?_
                  simp only [ps]
                  refine tL 15 (_) rfl (yieldsIf_cell rfl 37 _ rfl ⟨P1, 0, none⟩ rfl (.slice (some ⟨aa1, ao1, none⟩) n ca1) _ (fun W' hW' => KP.out W' (HXK.out.trans hW')) Try.underlying37 rfl) hq0 ?_
                  simp only [ps]
                  refine tLp 16 ((.int .i64 (k : Int))) rfl hq0 ?_
                  simp only [ps]
                  refine tL 17 ((.pointer (some ⟨aa1, ao1 + k, none⟩))) rfl (Or.inl ⟨rfl, fun W' _ => by go_simp <;> (intro h; omega)⟩) hq0 ?_
                  simp only [ps]
                  refine tL 18 (_) rfl (yieldsIf_cell rfl 53 _ rfl ⟨aa1, ao1 + k, none⟩ rfl (.int .u64 x) _ (fun W' hW' => K6.out W' (HXK.out.trans hW')) Try.underlying53 rfl) hq0 ?_
                  simp only [ps]
                  refine tL 19 ((.bool true)) rfl (Or.inl ⟨rfl, fun W' _ => by go_simp⟩) hq0 ?_
                  simp only [ps]
                  refine tL 20 ((.bool false)) rfl (Or.inl ⟨rfl, fun W' _ => by go_simp⟩) hq0 ?_
                  simp only [ps]
                  refine wpAnyH_done (by kernel_rfl) ?_ _
                  go_wp2_with fail
                  go_roundw
                  case rel => exact ⟨k + 1, _, rfl, by go_num, by omega, HXK.out.trans (by first | assumption | exact Ext.refl _)⟩
                  case measure => simp [intOf] <;> omega
                · have hxz : ¬ x = z := fun h => hpk (e.2 h)
                  have K5 := Lib.hid g3
                  have K6 := Lib.hid r3
                  have d4 : decide ((b : Int) = c) = false := by simpa using hpk
                  have d5 : ((b : Int) == c) = false := by simpa using hpk
                  have d6 : decide (x = z) = false := by simpa using hxz
                  have d7 : (x == z) = false := by simpa using hxz
                  clear g3 r3 e
                  go_wp2_with fail
                  refine beginL (S := fun W' => Ext wk W') (by kernel_rfl) ?_
                  intro wd hqx
                  have hq0 : Ext wk wd := hqx
                  refine tLp 0 ((.slice (some ⟨gp, 0, none⟩) n n)) rfl hq0 ?_
                  simp only [ps]
                  refine tLp 1 ((.int .i64 (i : Int))) rfl hq0 ?_
                  simp only [ps]
                  refine tL 2 ((.pointer (some ⟨gp, i, none⟩))) rfl (Or.inl ⟨rfl, fun W' _ => by go_simp <;> (intro h; omega)⟩) hq0 ?_
                  simp only [ps]
                  refine tL 3 (_) rfl (yieldsIf_cell rfl 3 _ rfl ⟨gp, i, none⟩ rfl (.int .i64 (b : Int)) _ (fun W' hW' => K1.out W' (HXK.out.trans hW')) Try.underlying3 rfl) hq0 ?_
                  simp only [ps]
                  refine tLp 4 ((.slice (some ⟨gp, 0, none⟩) n n)) rfl hq0 ?_
                  simp only [ps]
                  refine tLp 5 ((.int .i64 (k : Int))) rfl hq0 ?_
                  simp only [ps]
                  refine tL 6 ((.pointer (some ⟨gp, k, none⟩))) rfl (Or.inl ⟨rfl, fun W' _ => by go_simp <;> (intro h; omega)⟩) hq0 ?_
                  simp only [ps]
                  refine tL 7 (_) rfl (yieldsIf_cell rfl 3 _ rfl ⟨gp, k, none⟩ rfl (.int .i64 c) _ (fun W' hW' => K5.out W' (HXK.out.trans hW')) Try.underlying3 rfl) hq0 ?_
                  simp only [ps]
                  refine tL 8 ((.bool false)) rfl (Or.inl ⟨rfl, fun W' _ => by go_simp⟩) hq0 ?_
                  simp only [ps]
                  refine tLp 9 ((.pointer (some ⟨P1, 0, none⟩))) rfl hq0 ?_
                  simp only [ps]
                  refine tL 10 (_) rfl (yieldsIf_cell rfl 37 _ rfl ⟨P1, 0, none⟩ rfl (.slice (some ⟨aa1, ao1, none⟩) n ca1) _ (fun W' hW' => KP.out W' (HXK.out.trans hW')) Try.underlying37 rfl) hq0 ?_
                  simp only [ps]
                  refine tLp 11 ((.int .i64 (i : Int))) rfl hq0 ?_
                  simp only [ps]
                  refine tL 12 ((.pointer (some ⟨aa1, ao1 + i, none⟩))) rfl (Or.inl ⟨rfl, fun W' _ => by go_simp <;> (intro h; omega)⟩) hq0 ?_
                  simp only [ps]
                  refine tL 13 (_) rfl (yieldsIf_cell rfl 53 _ rfl ⟨aa1, ao1 + i, none⟩ rfl (.int .u64 x) _ (fun W' hW' => K3.out W' (HXK.out.trans hW')) Try.underlying53 rfl) hq0 ?_
                  simp only [ps]
                  refine tLp 14 ((.pointer (some ⟨P1, 0, none⟩))) rfl hq0 ?_
                  simp only [ps]
                  refine tL 15 (_) rfl (yieldsIf_cell rfl 37 _ rfl ⟨P1, 0, none⟩ rfl (.slice (some ⟨aa1, ao1, none⟩) n ca1) _ (fun W' hW' => KP.out W' (HXK.out.trans hW')) Try.underlying37 rfl) hq0 ?_
                  simp only [ps]
                  refine tLp 16 ((.int .i64 (k : Int))) rfl hq0 ?_
                  simp only [ps]
                  refine tL 17 ((.pointer (some ⟨aa1, ao1 + k, none⟩))) rfl (Or.inl ⟨rfl, fun W' _ => by go_simp <;> (intro h; omega)⟩) hq0 ?_
                  simp only [ps]
                  refine tL 18 (_) rfl (yieldsIf_cell rfl 53 _ rfl ⟨aa1, ao1 + k, none⟩ rfl (.int .u64 z) _ (fun W' hW' => K6.out W' (HXK.out.trans hW')) Try.underlying53 rfl) hq0 ?_
                  simp only [ps]
                  refine tL 19 ((.bool false)) rfl (Or.inl ⟨rfl, fun W' _ => by go_simp⟩) hq0 ?_
                  simp only [ps]
                  refine tL 20 ((.bool false)) rfl (Or.inl ⟨rfl, fun W' _ => by go_simp⟩) hq0 ?_
                  simp only [ps]
                  refine wpAnyH_done (by kernel_rfl) ?_ _
                  go_wp2_with fail
                  go_roundw
                  case rel => exact ⟨k + 1, _, rfl, by go_num, by omega, HXK.out.trans (by first | assumption | exact Ext.refl _)⟩
                  case measure => simp [intOf] <;> omega
              · have dkt : decide ((k : Int) < (i : Int)) = false := by simp; omega
                go_wp2_with fail
                go_roundw
                case rel => exact ⟨i + 1, _, rfl, by go_num, hlti, HXJ0.out.trans (HXK.out.trans (by first | assumption | exact Ext.refl _))⟩
                case measure => simp [intOf] <;> omega
          · have dlti : decide ((i : Int) < (n : Int)) = false := by simp; omega
            obtain rfl : n = i := by omega
            go_wp2_with fail
            go_ret
            exact ⟨rfl, HE2.out.trans (HS1.out.trans HXJ.out)⟩

end Go.Proofs.Ytamnmjckhicapaa
