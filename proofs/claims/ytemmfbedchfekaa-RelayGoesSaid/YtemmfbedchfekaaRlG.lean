/- Relay: what is forgotten; where frames go by the document. No statement is proved here. -/
import Derived.Test.YtemmfbedchfekaaRlF
namespace Go.Proofs.Ytemmfbedchfekaa
open Go.RowKit Go.BigFrame Go.WideShapes Go.ChangeShapes Go.Deep
set_option linter.unusedVariables false
set_option linter.unusedSimpArgs false
set_option maxRecDepth 100000

theorem goes_uniq {B : Br} {most age : Int} {L A C : List En} {inn src dst : Int} {xs ys : List Int} (hL : Ok age L) (hA : Ok age A) (h1 : GoesP B most age L inn src dst A xs) (h2 : GoesP B most age L inn src dst C ys) : C = A ∧ ys = xs := by
  rcases h1 with ⟨hc, rfl, rfl⟩ | ⟨hc, hl1, ho1⟩
  · rcases h2 with ⟨_, rfl, rfl⟩ | ⟨hd, _⟩
    · exact ⟨rfl, rfl⟩
    · exfalso
      rcases hc with h | h | h | h
      · omega
      · omega
      · rw [hd.2.2.1] at h; cases h
      · rw [hd.2.2.2] at h; cases h
  · rcases h2 with ⟨hd, _⟩ | ⟨_, hl2, ho2⟩
    · exfalso
      rcases hd with h | h | h | h
      · omega
      · omega
      · rw [hc.2.2.1] at h; cases h
      · rw [hc.2.2.2] at h; cases h
    · have hAC : C = A := by
        rcases hl1 with ⟨hk, hl1⟩ | ⟨hk, rfl⟩
        · rcases hl2 with ⟨_, hl2⟩ | ⟨hn, _⟩
          · exact learned_uniq hL hl2 hl1
          · exact absurd hk hn
        · rcases hl2 with ⟨hk2, _⟩ | ⟨_, rfl⟩
          · exact absurd hk2 hk
          · rfl
      subst hAC
      refine ⟨rfl, ?_⟩
      rcases ho1 with ⟨hf, p, kn, hp, rfl⟩ | ⟨hf, rfl⟩
      · rcases ho2 with ⟨_, p2, kn2, hp2, rfl⟩ | ⟨hf2, _⟩
        · unfold OneP at hp hp2
          by_cases hg : dst / 1099511627776 % 2 = 1
          · rw [if_pos hg] at hp hp2
            rw [hp, hp2]
            rfl
          · rw [if_neg hg] at hp hp2
            rcases hp with ⟨e0, he, hk, rfl, rfl⟩ | ⟨hn, rfl⟩
            · rcases hp2 with ⟨e1, he1, hk1, rfl, rfl⟩ | ⟨hn, _⟩
              · rw [hA.uni he he1 (by omega)]
              · exact absurd (List.mem_map.2 ⟨e0, he, hk⟩) hn
            · rcases hp2 with ⟨e1, he1, hk1, _⟩ | ⟨_, rfl⟩
              · exact absurd (List.mem_map.2 ⟨e1, he1, hk1⟩) hn
              · rfl
        · rw [hf] at hf2; cases hf2
      · rcases ho2 with ⟨hf2, _⟩ | ⟨_, rfl⟩
        · rw [hf] at hf2; cases hf2
        · rfl
/-- The places to be forgotten. -/
theorem ints_of_fl : ∀ (n : Nat) (xs : List Value), RowTyped [some .i64] n xs → ∃ zs : List Int, zs.length = n ∧ xs = iv zs
  | 0, xs, h => ⟨[], rfl, by
      have := h.1
      rw [Nat.zero_mul] at this
      rw [List.length_eq_zero_iff.1 this]; rfl⟩
  | n + 1, xs, h => by
    obtain ⟨h1, h2⟩ := h
    have e1 : ([some IntKind.i64] : List (Option IntKind)).length = 1 := rfl
    rw [e1] at h1 h2
    cases xs with
    | nil => simp at h1
    | cons v r =>
      obtain ⟨zs, l1, l2⟩ := ints_of_fl n r ⟨by rw [e1]; simp at h1; omega, fun i hi => by
        rw [e1]
        have := h2 (i + 1) (by omega)
        simp only [Nat.mul_one] at this ⊢
        rw [List.drop_succ_cons] at this
        exact this⟩
      have ht := h2 0 (by omega)
      obtain ⟨z, hz, _⟩ := ht.int 0 .i64 rfl
      refine ⟨z :: zs, by simp [l1], ?_⟩
      rw [l2]
      have : v = .int .i64 z := by simpa using hz
      rw [this]; rfl
theorem iv_inj : ∀ {a b : List Int}, iv a = iv b → a = b
  | [], [], _ => rfl
  | [], _ :: _, h => by simp [iv] at h
  | _ :: _, [], h => by simp [iv] at h
  | x :: a, y :: b, h => by
    simp only [iv, List.map_cons, List.cons.injEq, Value.int.injEq, true_and] at h
    rw [h.1, iv_inj h.2]
def secB (B : Br) : Int := if B.hb 1 = true then 0 else B.hi 5
def flushL (B : Br) (zs : List Int) (L : List En) : List En := zs.foldl (fun L z => shorts z (secB B) L) L
theorem flushL_ok {B : Br} {age : Int} : ∀ (zs : List Int) {L : List En}, Ok age L → Ok age (flushL B zs L)
  | [], _, h => h
  | z :: r, L, h => flushL_ok r (L := shorts z (secB B) L) (short_ok h z _)
theorem flushL_len {B : Br} : ∀ (zs : List Int) (L : List En), (flushL B zs L).length ≤ L.length
  | [], _ => Nat.le_refl _
  | z :: r, L => Nat.le_trans (flushL_len r (shorts z (secB B) L)) (List.length_filterMap_le _ _)
theorem flushL_snoc (B : Br) (zs : List Int) (z : Int) (L : List En) : flushL B (zs ++ [z]) L = shorts z (secB B) (flushL B zs L) := by unfold flushL; rw [List.foldl_append]; rfl
/-- What a reader of what is to be forgotten finds. -/
theorem BrC.fls {w : World} {c : Array Value} {B : Br} (h : BrC w c B) (ho : B.ok) : ∃ zs : List Int, zs.length = B.nf ∧ B.fl = iv zs ∧ c[1]? = some (.bool (B.hb 1)) ∧ c[5]? = some (.int .i64 (B.hi 5)) ∧ ∃ a cap, c[19]? = some (.slice a zs.length cap) ∧ (0 < zs.length → ∃ b off, a = some ⟨b, off, none⟩ ∧ b < w.heap.size ∧ zs.length ≤ cap ∧ cap ≤ 9223372036854775807 ∧ ∀ i (hi : i < zs.length), w.cell? ⟨b, off + i, none⟩ = some (.int .i64 (zs[i]'hi))) := by
  obtain ⟨s1, s2, s3, hz, hhd, c17, c18, c19, r1, r2, r3⟩ := h.facts ho.hd.1
  obtain ⟨zs, hl, he⟩ := ints_of_fl _ _ ho.fl
  obtain ⟨a, cap, rfl, hm, hf⟩ := r3.form
  refine ⟨zs, hl, he, by rw [hhd 1 (by omega)]; exact ho.hb 1 rfl, by rw [hhd 5 (by omega)]; exact ho.hi 5 rfl, a, cap, by rw [hl]; exact c19, fun h0 => ?_⟩
  obtain ⟨b, off, rfl, hb, h1, h2, h3⟩ := hf (by omega)
  exact ⟨b, off, rfl, hb, by omega, h2, fun i hi => h3 i _ (by rw [he]; simp [iv, hi])⟩
theorem set_split {α : Type} : ∀ (l : List α) (i : Nat) (v : α), i < l.length → l.take i ++ [v] ++ l.drop (i + 1) = l.set i v
  | a :: r, 0, v, h => rfl
  | a :: r, i + 1, v, h => by
    have := set_split r i v (by simpa using h)
    simpa using this
def clr (c : Array Value) : Array Value := c.setIfInBounds 19 (.slice none 0 0)
theorem row_setA {c : Array Value} (h : c.size = 20) (v : Value) : (c.toList.take 19 ++ (#[v] : Array Value).toList ++ c.toList.drop (19 + (#[v] : Array Value).size)).toArray = c.setIfInBounds 19 v := by
  have := set_split c.toList 19 v (by rw [Array.length_toList, h]; decide)
  apply Array.toList_inj.1
  simpa using this
theorem row_clr {c : Array Value} (h : c.size = 20) : (c.toList.take 19 ++ (#[Value.slice none 0 0] : Array Value).toList ++ c.toList.drop (19 + (#[Value.slice none 0 0] : Array Value).size)).toArray = clr c := row_setA h _
set_option maxRecDepth 100000 in
set_option maxHeartbeats 2000000 in
theorem p_flushall (w : World) (F : Nat → Prop) (f : Nat) (L : List En) (most age : Int) (hfb : Fb w F f L most age) (hL : Ok age L) (ha : 1 ≤ age ∧ age ≤ 1000000) (hlen : L.length ≤ 4096) (Z : Nat) (c : Array Value) (B : Br) (hZ : w.heap[Z]? = some (.cells c 33 (0, 0))) (hnZ : ¬ F Z) (hbk : BrK w F c B) (ho : B.ok) (hnf : B.nf ≤ 1000) (hcz : c.size = 20)
    (zs : List Int) (hzs : B.fl = iv zs) :
    Calls Try.prog 12 #[.pointer (some ⟨Z, 0, none⟩), .pointer (some ⟨f, 0, none⟩)] w fun e w' => e = .returned (.tuple #[]) ∧ Fb w' F f (flushL B zs L) most age ∧ Mut (fun k => F k ∨ k = Z) w w' ∧ w'.heap[Z]? = some (.cells (clr c) 33 (0, 0)) := by
  have rd : ∀ w', Mut F w w' → w'.heap[Z]? = some (.cells c 33 (0, 0)) ∧ BrC w' c B := fun w' hm => ⟨(hm.heap (heap_lt hZ) hnZ).trans hZ, hbk w' hm.size (fun k hk hn => hm.heap hk hn)⟩
  obtain ⟨zs', hl, he, c1, c5, a, cap, c19, -⟩ := hbk.br.fls ho
  obtain rfl : zs' = zs := by
    rw [he] at hzs
    exact iv_inj hzs
  have d19 : w.cell? ⟨Z, 19, none⟩ = some (.slice a zs'.length cap) := by rw [cell_of_row _ _ _ _ _ _ hZ]; exact c19
  have RD := Lib.hid rd
  have HFB := Lib.hid hfb
  have HL := Lib.hid hL
  have C1 := Lib.hid (And.intro c1 (And.intro c5 c19))
  have HE := Lib.hid he
  have HZ := Lib.hid hZ
  obtain ⟨n, hn⟩ : ∃ n, zs'.length = n := ⟨_, rfl⟩
  rw [hn] at d19
  have HNN := Lib.hid hn
  have hn1 : n ≤ 1000 := by omega
  clear rd hfb hL c1 c5 c19 he hZ hn hzs hl hbk
  go_enter Try.func12, Try.ntmps12
  go_wp2_with fail
  go_loopw [11] (fun s wr => ∃ j : Nat, j ≤ n ∧ s = .int .i64 j ∧ Fb wr F f (flushL B (zs'.take j) L) most age ∧ Mut F w wr) (fun s _ => n - (intOf s).toNat)
  case atStart => exact ⟨0, by omega, rfl, by rw [List.take_zero]; exact HFB.out, Mut.refl _ _⟩
  case round =>
    obtain ⟨j, hj, rfl, hfb, hm⟩ := hrel
    rename World => wr
    have HB := Lib.hid hfb
    have HM := Lib.hid hm
    obtain ⟨hZr, hbr⟩ := RD.out wr hm
    have d1 : wr.cell? ⟨Z, 1, none⟩ = some (.bool (B.hb 1)) := by rw [cell_of_row _ _ _ _ _ _ hZr]; exact C1.out.1
    have d5 : wr.cell? ⟨Z, 5, none⟩ = some (.int .i64 (B.hi 5)) := by rw [cell_of_row _ _ _ _ _ _ hZr]; exact C1.out.2.1
    have HZr := Lib.hid hZr
    have hup : IntKind.i64.wrap ((j : Int) + 1) = ((j + 1 : Nat) : Int) := by rw [IntKind.wrap_i64]; omega
    clear hfb hm
    by_cases hlt : j < n
    · have dlt : decide ((j : Int) < (n : Int)) = true := by simp; omega
      have hjz : j < zs'.length := by rw [HNN.out]; exact hlt
      obtain ⟨zs2, hl2, he2, -, -, a2, cap2, c19, hz2⟩ := hbr.fls ho
      obtain rfl : zs2 = zs' := iv_inj (he2.symm.trans HE.out)
      obtain ⟨rfl, rfl⟩ : a2 = a ∧ cap2 = cap := by
        have := c19.symm.trans C1.out.2.2
        injection this with this
        injection this with h1 h2 h3
        exact ⟨h1, h3⟩
      obtain ⟨b, off, rfl, hb, hc1, hc2, hzr⟩ := hz2 (by omega)
      obtain ⟨z, hz⟩ : ∃ z, zs2[j] = z := ⟨_, rfl⟩
      have v0 : wr.cell? ⟨b, off + j, none⟩ = some (.int .i64 z) := by rw [← hz]; exact hzr j hjz
      have HTK := Lib.hid (show zs2.take (j + 1) = zs2.take j ++ [z] by rw [List.take_add_one, List.getElem?_eq_getElem hjz, hz]; rfl)
      have hle := flushL_len (B := B) (zs2.take j) L
      obtain ⟨r, hr⟩ : ∃ r, B.hb 1 = r := ⟨_, rfl⟩
      rw [hr] at d1
      clear hbr hZr he2 c19 hz2 hzr hz hl2
      cases r with
      | true =>
        have HS := Lib.hid (show secB B = 0 by unfold secB; rw [if_pos hr])
        clear hr
        go_wp2_with fail
        obtain ⟨bb, DD, gb, q1, q2, q3⟩ := HB.out
        refine (flush_any wr F f bb _ DD _ gb most age q1 (flushL_ok _ HL.out) (by omega) q2 q3 z (by omega)).mono ?_
        rintro e w1 ⟨rfl, hd⟩
        obtain ⟨p1, p2⟩ := hd.fb (short_ok (flushL_ok _ HL.out) z 0) q3
        have HP1 := Lib.hid p1
        have HP2 := Lib.hid (HM.out.trans p2)
        clear hd p1 p2 q1 q2 q3
        go_wp2_with fail
        go_roundw
        case rel => exact ⟨j + 1, by omega, by go_num, by rw [HTK.out, flushL_snoc, HS.out]; exact HP1.out, HP2.out⟩
        case measure => simp [intOf] <;> omega
      | false =>
        have HS := Lib.hid (show secB B = B.hi 5 by unfold secB; rw [if_neg (by rw [hr]; decide)])
        obtain ⟨sc, hsc⟩ : ∃ sc, B.hi 5 = sc := ⟨_, rfl⟩
        rw [hsc] at d5 HS
        clear hr hsc
        go_wp2_with fail
        obtain ⟨bb, DD, gb, q1, q2, q3⟩ := HB.out
        refine (short_any wr F f bb _ DD _ gb most age q1 (flushL_ok _ HL.out) (by omega) q2 q3 z sc (by omega)).mono ?_
        rintro e w1 ⟨rfl, hd⟩
        obtain ⟨p1, p2⟩ := hd.fb (short_ok (flushL_ok _ HL.out) z sc) q3
        have HP1 := Lib.hid p1
        have HP2 := Lib.hid (HM.out.trans p2)
        clear hd p1 p2 q1 q2 q3
        go_wp2_with fail
        go_roundw
        case rel => exact ⟨j + 1, by omega, by go_num, by rw [HTK.out, flushL_snoc, HS.out]; exact HP1.out, HP2.out⟩
        case measure => simp [intOf] <;> omega
    · obtain rfl : j = n := by omega
      have dlt : decide ((j : Int) < (j : Int)) = false := by simp
      have hrowc := Lib.hid (show (c.toList.take 19 ++ (#[Value.slice none 0 0] : Array Value).toList ++ c.toList.drop (19 + (#[Value.slice none 0 0] : Array Value).size)).toArray = clr c from row_clr hcz)
      have hlc := Lib.hid (show 19 + (#[Value.slice none 0 0] : Array Value).size ≤ c.size by rw [hcz]; decide)
      go_wp2_with (first
        | fail
        | ((with_reducible refine at_store 31 ?_); refine st_at rfl rfl 31 _ _ rfl Z 19 _ #[.slice none 0 0] c (clr c) 33 rfl rfl rfl HZr.out hlc.out (by kernel_rfl) rfl hrowc.out ?_
           intro w7 hrow7 hm7))
      go_end0
      have hfin := HB.out
      rw [List.take_of_length_le (by rw [HNN.out]; exact Nat.le_refl _)] at hfin
      exact ⟨rfl, hfin.apart hm7 (fun k hk hc => hnZ (by rw [← show k = Z from hc]; exact hk)), (HM.out.mono (fun k _ h => .inl h)).trans (hm7.mono (fun k _ h => .inr h)), hrow7⟩

end Go.Proofs.Ytemmfbedchfekaa
