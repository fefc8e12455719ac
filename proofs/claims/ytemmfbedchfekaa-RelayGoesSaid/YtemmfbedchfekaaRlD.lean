/- Relay: whole numbers held against each other; the example. No statement is proved here. -/
import Derived.Test.YtemmfbedchfekaaRlC
namespace Go.Proofs.Ytemmfbedchfekaa
open Go.RowKit Go.BigFrame Go.WideShapes Go.ChangeShapes Go.Deep
set_option linter.unusedVariables false
set_option linter.unusedSimpArgs false
set_option maxRecDepth 100000

def IntsA (w : World) (v : Value) (L : List Int) : Prop := ∃ a cap, v = .slice a L.length cap ∧ (0 < L.length → ∃ b off, a = some ⟨b, off, none⟩ ∧ b < w.heap.size ∧ ∀ i (hi : i < L.length), w.cell? ⟨b, off + i, none⟩ = some (.int .i64 (L[i]'hi)))
theorem IntsA.ext {w w' : World} {v : Value} {L : List Int} (h : IntsA w v L) (hx : Ext w w') : IntsA w' v L := by
  obtain ⟨a, cap, e, hf⟩ := h
  refine ⟨a, cap, e, fun h0 => ?_⟩
  obtain ⟨b, off, e1, hb, hr⟩ := hf h0
  exact ⟨b, off, e1, Nat.lt_of_lt_of_le hb hx.size, fun i hi => (hx.cell (p := ⟨b, off + i, none⟩) hb).trans (hr i hi)⟩
theorem ints_own {w : World} {base : Nat} {v : Value} {L : List Int} (h : w.ownsRow base 3 1 v L.length (iv L)) : IntsA w v L := by
  obtain ⟨a, cap, rfl⟩ := own_form h
  refine ⟨a, cap, rfl, fun h0 => ?_⟩
  rcases h.2 with ⟨e0, _⟩ | ⟨g, cap', cur, hv', hb, hg, h1, h2, h3, h4⟩
  · exfalso
    injection e0 with _ e1 _
    omega
  · cases hv'
    refine ⟨g, 0, rfl, heap_lt hg, fun i hi => ?_⟩
    have e : (cur.toList.take (L.length * 1))[i]? = (iv L)[i]? := by rw [h4]
    rw [List.getElem?_take_of_lt (by omega), Array.getElem?_toList, List.getElem?_map, List.getElem?_eq_getElem hi] at e
    rw [Nat.zero_add, cell_row hg, e]
    rfl
theorem own_mut {w w' : World} {F : Nat → Prop} {base m n : Nat} {e : TypeId} {v : Value} {xs : List Value} (h : w.ownsRow base e m v n xs) (hm : Mut F w w') (hF : ∀ k, F k → k < base) : w'.ownsRow base e m v n xs :=
  owns_keep h (fun g hg hl => hm.heap hl (fun hc => by have := owns_lt' h g hg; have := hF g hc; omega))
theorem brk_own {w : World} {N : Nat} {F : Nat → Prop} {c : Array Value} {B : Br} (h : OwnC w N c B) (hF : ∀ k, F k → k < N) : BrK w F c B := fun w' hs hk => by
  obtain ⟨s1, s2, s3, e, h1, h2, h3⟩ := h
  have row : ∀ {m : Nat} {v : Value} {n : Nat} {xs : List Value} {t : TypeId}, w.ownsRow N t m v n xs → IsRow w' m v n xs := fun {m v n xs t} hr =>
    own_row (owns_keep hr (fun g hg hl => hk g hl (fun hc => by have := owns_lt' hr g hg; have := hF g hc; omega)))
  exact ⟨s1, s2, s3, e, row h1, row h2, row h3⟩
theorem mem_outL {B : Br} {inn p : Int} {kn : Bool} {n : Nat} {x : Int} (h : x ∈ outL B inn p kn n) : ∃ i : Nat, i < n ∧ x = i ∧ (i : Int) ≠ inn ∧ fwB B i = true ∧ (kn = true → x = p) := by
  unfold outL othersL at h
  obtain ⟨h1, h2⟩ := List.mem_filter.1 h
  obtain ⟨i, hi, rfl⟩ := List.mem_map.1 h1
  obtain ⟨h3, h4⟩ := List.mem_filter.1 hi
  unfold goes at h4
  rw [Bool.and_eq_true, decide_eq_true_eq] at h4
  exact ⟨i, List.mem_range.1 h3, rfl, h4.1, h4.2, fun hk => by rw [hk] at h2; simpa using h2⟩
theorem outL_rises (B : Br) (inn p : Int) (kn : Bool) (n : Nat) : (outL B inn p kn n).Pairwise (· < ·) := by
  unfold outL othersL
  refine List.Pairwise.filter _ (List.pairwise_map.2 (List.Pairwise.filter _ ?_))
  exact List.pairwise_lt_range.imp (fun {a b} h => by show (a : Int) < (b : Int); omega)
theorem outL_len (B : Br) (inn p : Int) (kn : Bool) (n : Nat) : (outL B inn p kn n).length ≤ n := by
  unfold outL
  exact Nat.le_trans (List.length_filter_le _ _) (othersL_len B inn n)
theorem goes_ok {B : Br} {most age : Int} {L L' : List En} {inn src dst : Int} {xs : List Int} (h : GoesP B most age L inn src dst L' xs) (hL : Ok age L) (ha : 1 ≤ age) (hm : 1 ≤ most) (hl : (L.length : Int) ≤ most) (hin : inn < 9223372036854775808) (hsrc : 0 ≤ src) : Ok age L' ∧ (L'.length : Int) ≤ most := by
  rcases h with ⟨_, rfl, _⟩ | ⟨⟨h0, _⟩, h1, _⟩
  · exact ⟨hL, hl⟩
  · rcases h1 with ⟨⟨_, ho⟩, hle⟩ | ⟨_, rfl⟩
    · exact ⟨learned_ok hL ha (by unfold okM at ho; omega) ⟨h0, hin⟩ hle, learned_len hL hl hm hle⟩
    · exact ⟨hL, hl⟩
theorem goes_len {B : Br} {most age : Int} {L L' : List En} {inn src dst : Int} {xs : List Int} (h : GoesP B most age L inn src dst L' xs) : xs.length ≤ B.np := by
  rcases h with ⟨_, _, rfl⟩ | ⟨_, _, h⟩
  · exact Nat.zero_le _
  · rcases h with ⟨_, p, kn, _, rfl⟩ | ⟨_, rfl⟩
    · exact outL_len _ _ _ _ _
    · exact Nat.zero_le _
set_option maxRecDepth 100000 in
set_option maxHeartbeats 8000000 in
theorem ints_any (w : World) (v u : Value) (L : List Int) (hv : IntsA w v L) (hu : IntsA w u L) (hl : L.length ≤ 10000) : Calls Try.prog 16 #[v, u] w fun e w' => e = .returned (.bool true) ∧ Ext w w' := by
  obtain ⟨a, cap, rfl, ha⟩ := hv
  obtain ⟨b, cap2, rfl, hb⟩ := hu
  obtain ⟨n, hn⟩ : ∃ n, L.length = n := ⟨_, rfl⟩
  rw [hn]
  have HN := Lib.hid hn
  have HA := Lib.hid ha
  have HB := Lib.hid hb
  rw [hn] at hl
  clear ha hb hn
  go_enter Try.func16, Try.ntmps16
  go_wp2_with fail
  go_loopw [5] (fun s wr => ∃ i : Nat, i ≤ n ∧ s = .int .i64 i ∧ Ext w wr) (fun s _ => n - (intOf s).toNat)
  case atStart => exact ⟨0, by omega, rfl, Ext.refl _⟩
  case round =>
    obtain ⟨i, hi, rfl, hx⟩ := hrel
    rename World => wr
    have HX := Lib.hid hx
    clear hx
    by_cases hlt : i < n
    · have dlt : decide ((i : Int) < (n : Int)) = true := by simp; omega
      have hiL : i < L.length := by rw [HN.out]; exact hlt
      obtain ⟨b1, o1, rfl, hb1, hr1⟩ := HA.out (by omega)
      obtain ⟨b2, o2, rfl, hb2, hr2⟩ := HB.out (by omega)
      obtain ⟨y, he⟩ : ∃ y, L[i] = y := ⟨_, rfl⟩
      have c0 : wr.cell? ⟨b1, o1 + i, none⟩ = some (.int .i64 y) := by rw [← he]; exact (HX.out.cell (p := ⟨b1, o1 + i, none⟩) hb1).trans (hr1 i hiL)
      have d0 : wr.cell? ⟨b2, o2 + i, none⟩ = some (.int .i64 y) := by rw [← he]; exact (HX.out.cell (p := ⟨b2, o2 + i, none⟩) hb2).trans (hr2 i hiL)
      have hup : IntKind.i64.wrap ((i : Int) + 1) = ((i + 1 : Nat) : Int) := by rw [IntKind.wrap_i64]; omega
      clear hr1 hr2 he
      go_wp2_with fail
      go_quiet (fail)
      go_wp2_with fail
      go_roundw
      case rel => exact ⟨i + 1, by omega, by go_num, HX.out.drewN _⟩
      case measure => simp [intOf] <;> omega
    · obtain rfl : i = n := by omega
      have dlt : decide ((i : Int) < (i : Int)) = false := by simp
      go_wp2_with fail
      go_ret
      exact ⟨rfl, HX.out⟩
def eA : List En := [(5, 1, 300)]
def eB : List En := [(5, 1, 300), (6, 0, 300)]
theorem eA_ok : Ok 300 eA := ⟨by decide, by decide⟩
theorem g1 {L : List En} {xs : List Int} (h : GoesP (openBr 3) 9 300 [] 1 5 6 L xs) : L = eA ∧ xs = [0, 2] := by
  have hb : (openBr 3).gb 1 2 = true ∧ (openBr 3).gb 1 27 = true ∧ (openBr 3).gb 1 29 = true := openBr_gb 3 1 (by decide)
  rcases h with ⟨h, _⟩ | ⟨_, h1, h2⟩
  · exfalso
    rcases h with h | h | h | h
    · revert h; decide
    · revert h; decide
    · rw [show (1 : Int).toNat = 1 from rfl, hb.1] at h; cases h
    · revert h; decide
  · rw [show (1 : Int).toNat = 1 from rfl] at h1 h2
    have hL : L = eA := by
      rcases h1 with ⟨_, h⟩ | ⟨h, _⟩
      · rcases h with ⟨_, rfl⟩ | ⟨_, h, _⟩
        · decide
        · simp at h
      · exact absurd ⟨hb.2.2, by unfold okM; decide⟩ h
    subst hL
    refine ⟨rfl, ?_⟩
    rcases h2 with ⟨_, p, kn, ho, rfl⟩ | ⟨h, _⟩
    · unfold OneP at ho
      rw [if_neg (by decide)] at ho
      rcases ho with ⟨e0, he, hk, _⟩ | ⟨_, rfl⟩
      · exfalso
        simp only [eA, List.mem_cons, List.not_mem_nil, or_false] at he
        subst he
        revert hk; decide
      · show List.filter _ (othersL (openBr 3) 1 3) = _
        rw [show othersL (openBr 3) 1 3 = [0, 2] by decide +kernel]
        rfl
    · rw [hb.2.1] at h; cases h
theorem g2 {L : List En} {xs : List Int} (h : GoesP (openBr 3) 9 300 eA 0 6 5 L xs) : L = eB ∧ xs = [1] := by
  have hb : (openBr 3).gb 0 2 = true ∧ (openBr 3).gb 0 27 = true ∧ (openBr 3).gb 0 29 = true := openBr_gb 3 0 (by decide)
  rcases h with ⟨h, _⟩ | ⟨_, h1, h2⟩
  · exfalso
    rcases h with h | h | h | h
    · revert h; decide
    · revert h; decide
    · rw [show (0 : Int).toNat = 0 from rfl, hb.1] at h; cases h
    · revert h; decide
  · rw [show (0 : Int).toNat = 0 from rfl] at h1 h2
    have hL : L = eB := by
      rcases h1 with ⟨_, h⟩ | ⟨h, _⟩
      · rcases h with ⟨_, rfl⟩ | ⟨_, h, _⟩
        · decide
        · simp [eA] at h
      · exact absurd ⟨hb.2.2, by unfold okM; decide⟩ h
    subst hL
    refine ⟨rfl, ?_⟩
    rcases h2 with ⟨_, p, kn, ho, rfl⟩ | ⟨h, _⟩
    · unfold OneP at ho
      rw [if_neg (by decide)] at ho
      rcases ho with ⟨e0, he, hk, rfl, rfl⟩ | ⟨hn, _⟩
      · simp only [eB, List.mem_cons, List.not_mem_nil, or_false] at he
        rcases he with rfl | rfl
        · show List.filter _ (othersL (openBr 3) 0 3) = _
          rw [show othersL (openBr 3) 0 3 = [1, 2] by decide +kernel]
          decide
        · exfalso
          revert hk; decide
      · exact absurd (show (5 : Int) % 281474976710656 ∈ eB.map Prod.fst by decide) hn
    · rw [hb.2.1] at h; cases h
theorem ints_lit (w : World) (L : List Int) : IntsA (w.alloc (.cells (iv L).toArray 3)) (.slice (some ⟨w.heap.size, 0, none⟩) L.length L.length) L :=
  ⟨_, _, rfl, fun h0 => ⟨w.heap.size, 0, rfl, heap_lt (heap_alloc_new _ _), fun i hi => by
    rw [Nat.zero_add, cell_row (heap_alloc_new w (.cells (iv L).toArray 3))]
    simp [iv, hi]⟩⟩
set_option maxRecDepth 100000 in
set_option maxHeartbeats 8000000 in
theorem awake19 (w : World) : Calls Try.prog 8 #[] w fun e w' => e = .returned (.bool true) ∧ Ext w w' := by
  go_enter Try.func8, Try.ntmps8
  go_wp2_with fail
  refine (new_good w 9 300 (by decide)).mono ?_
  rintro e w1 ⟨f, rfl, hx1, hf, hb1⟩
  obtain ⟨F, hF⟩ : ∃ F : Nat → Prop, F = fun k => w.heap.size ≤ k ∧ k < w1.heap.size := ⟨_, rfl⟩
  rw [← hF] at hb1
  have HF0 := Lib.hid (show ∀ k, F k → w.heap.size ≤ k from fun k h => by rw [hF] at h; exact h.1)
  have HB1 := Lib.hid hb1
  have HX1 := Lib.hid hx1
  clear hb1 hx1 hF hf
  go_wp2_with fail
  refine (open_any 3 (by decide) w1).mono ?_
  rintro e w2 ⟨c, rfl, hoc, hx2⟩
  have HK2 := Lib.hid (brk_own (F := F) hoc HB1.out.lt)
  have HB2 := Lib.hid (HB1.out.ext hx2)
  have HX2 := Lib.hid (HX1.out.trans hx2)
  clear hoc hx2
  go_wp2_with fail
  refine (out_any w2 F f [] 9 300 HB2.out (nil_ok 300) (by decide) (by decide) c (openBr 3) HK2.out (openBr_ok 3 (by decide)) (by decide) 1 5 6 (by decide) (by decide) (by decide)).mono ?_
  rintro e w3 ⟨L1, xs1, hg, v1, F1, base1, rfl, ho1, hbs, hF1, hb3, hFs, hm⟩
  obtain ⟨rfl, rfl⟩ := g1 hg
  have HF1 := Lib.hid (show ∀ k, F1 k → w.heap.size ≤ k from fun k h => by rcases hFs k h with h | h; exact HF0.out k h; exact Nat.le_trans HX2.out.size h)
  have HO1 := Lib.hid ho1
  have HL1 := Lib.hid hF1
  have HB3 := Lib.hid hb3
  have HX3 := Lib.hid (ext_mut HX2.out hm (fun n hn hc => by have := HF0.out n hc; omega))
  clear hg ho1 hbs hF1 hb3 hFs hm
  go_wp2_with fail
  refine (open_any 3 (by decide) w3).mono ?_
  rintro e w4 ⟨c2, rfl, hoc, hx2⟩
  have HK4 := Lib.hid (brk_own (F := F1) hoc HB3.out.lt)
  have HB4 := Lib.hid (HB3.out.ext hx2)
  have HX4 := Lib.hid (HX3.out.trans hx2)
  have HO4 := Lib.hid (owns_ext HO1.out hx2)
  clear hoc hx2
  go_wp2_with fail
  refine (out_any w4 F1 f eA 9 300 HB4.out eA_ok (by decide) (by decide) c2 (openBr 3) HK4.out (openBr_ok 3 (by decide)) (by decide) 0 6 5 (by decide) (by decide) (by decide)).mono ?_
  rintro e w5 ⟨L2, xs2, hg, v2, F2, base2, rfl, ho2, hbs, hF2, hb5, hFs, hm⟩
  obtain ⟨rfl, rfl⟩ := g2 hg
  have HO5 := Lib.hid (ints_own (L := [0, 2]) (own_mut HO4.out hm HL1.out))
  have HO6 := Lib.hid (ints_own (L := [1]) ho2)
  have HX5 := Lib.hid (ext_mut HX4.out hm (fun n hn hc => by have := HF1.out n hc; omega))
  clear hg ho2 hbs hF2 hb5 hFs hm
  go_wp2_with fail
  refine (ints_any _ v1 _ [0, 2] (HO5.out.ext ((Ext.refl _).alloc _)) (ints_lit w5 [0, 2]) (by decide)).mono ?_
  rintro e w6 ⟨rfl, hx⟩
  have HX6 := Lib.hid (((Ext.refl w5).alloc _).trans hx)
  clear hx
  go_wp2_with fail
  refine (ints_any _ v2 _ [1] (HO6.out.ext (HX6.out.trans ((Ext.refl _).alloc _))) (ints_lit w6 [1]) (by decide)).mono ?_
  rintro e w7 ⟨rfl, hx⟩
  have HX7 := Lib.hid ((HX6.out.trans ((Ext.refl w6).alloc _)).trans hx)
  clear hx
  go_wp2_with fail
  refine (res_any 1652522221571 _ (by decide)).mono ?_
  rintro e _ ⟨rfl, rfl⟩
  rw [show resB 1652522221571 = true by decide]
  go_wp2_with fail
  refine (res_any 5 _ (by decide)).mono ?_
  rintro e _ ⟨rfl, rfl⟩
  rw [show resB 5 = false by decide]
  go_wp2_with fail
  go_ret
  exact ⟨rfl, HX5.out.trans HX7.out⟩

end Go.Proofs.Ytemmfbedchfekaa
