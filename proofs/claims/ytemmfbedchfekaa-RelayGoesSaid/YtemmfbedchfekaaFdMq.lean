/- The document's database: what is learned. No statement is proved here. -/
import Derived.Test.YtemmfbedchfekaaBrF
import Derived.Test.YtemmfbedchfekaaFdLq
import Derived.Test.YtemmfbedchfekaaFdRq
namespace Go.Proofs.Ytemmfbedchfekaa
open Go.RowKit Go.BigFrame Go.WideShapes Go.ChangeShapes Go.Deep
set_option linter.unusedVariables false
set_option linter.unusedSimpArgs false
set_option maxRecDepth 100000

def insD (e : En) : List En → List En
  | [] => [e]
  | a :: r => if e.1 < a.1 then e :: a :: r else a :: insD e r
theorem insD_len (e : En) : ∀ L, (insD e L).length = L.length + 1
  | [] => rfl
  | a :: r => by
    unfold insD
    split
    · rfl
    · rw [List.length_cons, insD_len e r, List.length_cons]
theorem insD_erase {e : En} : ∀ {L : List En} {i : Nat} (hi : i < L.length), L.Pairwise (fun a b => a.1 < b.1) → (L[i]'hi).1 = e.1 → insD e (L.eraseIdx i) = ins e L
  | a :: r, 0, hi, hp, hk => by
    obtain ⟨h1, h2⟩ := List.pairwise_cons.1 hp
    have hk : a.1 = e.1 := hk
    rw [List.eraseIdx_cons_zero]
    unfold ins
    rw [if_neg (by omega), if_pos hk.symm]
    cases r with
    | nil => rfl
    | cons b s =>
      unfold insD
      rw [if_pos (by have := h1 b (by simp); omega)]
  | a :: r, i + 1, hi, hp, hk => by
    obtain ⟨h1, h2⟩ := List.pairwise_cons.1 hp
    have hi2 : i < r.length := by simpa using hi
    have hk : (r[i]'hi2).1 = e.1 := hk
    have hlt := h1 _ (List.getElem_mem hi2)
    rw [List.eraseIdx_cons_succ]
    unfold ins insD
    rw [if_neg (by omega), if_neg (by omega), if_neg (by omega), insD_erase hi2 h2 hk]
theorem insD_new {e : En} : ∀ {L : List En}, e.1 ∉ L.map Prod.fst → insD e L = ins e L
  | [], _ => rfl
  | a :: r, h => by
    have h1 : e.1 ≠ a.1 := fun hc => h (by rw [hc]; simp)
    have h2 : e.1 ∉ r.map Prod.fst := fun hc => h (by rw [List.map_cons]; exact List.mem_cons_of_mem _ hc)
    unfold ins insD
    by_cases hlt : e.1 < a.1
    · rw [if_pos hlt, if_pos hlt]
    · rw [if_neg hlt, if_neg hlt, if_neg h1, insD_new h2]
theorem upd_none {x : Int} : ∀ {L : List En}, x ∉ L.map Prod.fst → upd x 0 L = L
  | [], _ => rfl
  | a :: r, h => by
    have h1 : a.1 ≠ x := fun hc => h (by rw [← hc]; simp)
    have h2 : x ∉ r.map Prod.fst := fun hc => h (by rw [List.map_cons]; exact List.mem_cons_of_mem _ hc)
    have h3 := upd_none h2
    unfold upd at h3 ⊢
    rw [List.filterMap_cons, show setSec x 0 a = some a from by unfold setSec; rw [if_neg h1]]
    dsimp only
    rw [h3]
theorem erase_upd : ∀ {L : List En} {i : Nat} (hi : i < L.length), L.Pairwise (fun a b => a.1 < b.1) → L.eraseIdx i = upd (L[i]'hi).1 0 L
  | a :: r, 0, hi, hp => by
    obtain ⟨h1, h2⟩ := List.pairwise_cons.1 hp
    have h3 : upd a.1 0 r = r := upd_none (fun hc => by obtain ⟨e, he, hk⟩ := List.mem_map.1 hc; have := h1 e he; omega)
    rw [List.eraseIdx_cons_zero]
    show r = upd a.1 0 (a :: r)
    unfold upd at h3 ⊢
    rw [List.filterMap_cons, show setSec a.1 0 a = none from by unfold setSec; rw [if_pos rfl, if_pos (by omega)]]
    exact h3.symm
  | a :: r, i + 1, hi, hp => by
    obtain ⟨h1, h2⟩ := List.pairwise_cons.1 hp
    have hi2 : i < r.length := by simpa using hi
    have ih := erase_upd hi2 h2
    have hlt := h1 _ (List.getElem_mem hi2)
    rw [List.eraseIdx_cons_succ, ih]
    show a :: upd (r[i]'hi2).1 0 r = upd (r[i]'hi2).1 0 (a :: r)
    unfold upd
    rw [List.filterMap_cons, show setSec (r[i]'hi2).1 0 a = some a from by unfold setSec; rw [if_neg (by omega)]]
theorem erase_keys {L : List En} {i : Nat} {x : Int} (h : x ∉ L.map Prod.fst) : x ∉ (L.eraseIdx i).map Prod.fst := fun hc => by
  obtain ⟨e, he, hk⟩ := List.mem_map.1 hc
  exact h (List.mem_map.2 ⟨e, List.mem_of_mem_eraseIdx he, hk⟩)
/-- The first of those that live shortest. -/
def LeastP (L : List En) (k n : Nat) : Prop := ∃ hk : k < L.length, ∀ j (hj : j < L.length), j < n → (L[k]'hk).2.2 < (L[j]'hj).2.2 ∨ ((L[k]'hk).2.2 = (L[j]'hj).2.2 ∧ k ≤ j)
theorem learned_uniq {most age m port : Int} {L A B : List En} (hL : Ok age L) (ha : LearnedP most age m port L A) (hb : LearnedP most age m port L B) : A = B := by
  rcases ha with ⟨ha, rfl⟩ | ⟨ha1, ha2, e0, he0, hall, rfl⟩
  · rcases hb with ⟨_, rfl⟩ | ⟨hb1, hb2, _⟩
    · rfl
    · rcases ha with ha | ha
      · exact absurd ha hb1
      · omega
  · rcases hb with ⟨hb, rfl⟩ | ⟨hb1, hb2, e1, he1, hall1, rfl⟩
    · rcases hb with hb | hb
      · exact absurd hb ha1
      · omega
    · have h1 := hall e1 he1
      have h2 := hall1 e0 he0
      have : e0 = e1 := hL.uni he0 he1 (by omega)
      rw [this]
theorem learned_old {most age m port : Int} {L : List En} (hL : Ok age L) {i : Nat} (hi : i < L.length) (hk : (L[i]'hi).1 = m) : LearnedP most age m port L (insD (m, port, age) (L.eraseIdx i)) :=
  .inl ⟨.inl (List.mem_map.2 ⟨_, List.getElem_mem hi, hk⟩), insD_erase hi hL.1 hk⟩
theorem learned_new {most age m port : Int} {L : List En} (hn : m ∉ L.map Prod.fst) (hl : (L.length : Int) < most) : LearnedP most age m port L (insD (m, port, age) L) :=
  .inl ⟨.inr hl, insD_new hn⟩
theorem learned_full {most age m port : Int} {L : List En} (hL : Ok age L) (hn : m ∉ L.map Prod.fst) (hl : most ≤ (L.length : Int)) {k : Nat} (h : LeastP L k L.length) : LearnedP most age m port L (insD (m, port, age) (L.eraseIdx k)) := by
  obtain ⟨hk, hall⟩ := h
  refine .inr ⟨hn, hl, L[k]'hk, List.getElem_mem hk, fun e' he' => ?_, ?_⟩
  · obtain ⟨j, hj, rfl⟩ := List.getElem_of_mem he'
    rcases hall j hj hj with h1 | ⟨h1, h2⟩
    · exact .inl h1
    · refine .inr ⟨h1, ?_⟩
      rcases Nat.lt_or_eq_of_le h2 with h3 | rfl
      · have := List.pairwise_iff_getElem.1 hL.1 k j hk hj h3
        omega
      · exact Int.le_refl _
  · rw [insD_new (erase_keys hn), erase_upd hk hL.1]
set_option maxRecDepth 100000 in
set_option maxHeartbeats 4000000 in
theorem d_learn_bad (w : World) (wb : Nat) (x port : Int) (hx0 : 0 ≤ x ∧ x < 18446744073709551616) (hb : x % 281474976710656 = 0 ∨ x % 281474976710656 / 1099511627776 % 2 = 1 ∨ port < 0) :
    Calls Try.prog 33 #[.pointer (some ⟨wb, 0, none⟩), .int .u64 x, .int .i64 port] w fun e w' => e = .returned (.bool false) ∧ w = w' := by
  go_enter Try.func33, Try.ntmps33
  have HB := Lib.hid hb
  clear hb
  go_wp2_with fail
  refine (ref_addr x _ hx0.1 hx0.2).mono ?_
  rintro e _ ⟨rfl, rfl⟩
  obtain ⟨m, hm⟩ : ∃ m, x % 281474976710656 = m := ⟨_, rfl⟩
  have hm2 : 0 ≤ m ∧ m < 281474976710656 := by omega
  have HB2 := Lib.hid (show m = 0 ∨ m / 1099511627776 % 2 = 1 ∨ port < 0 by rw [← hm]; exact HB.out)
  rw [hm]
  clear hm
  go_wp2_with fail
  refine (ref_group m _ (by omega) (by omega)).mono ?_
  rintro e _ ⟨rfl, rfl⟩
  by_cases h0 : m = 0
  · have d0 : (m == 0) = true := by simpa using h0
    obtain ⟨G, hG⟩ : ∃ G, (m / 1099511627776 % 2 == 1) = G := ⟨_, rfl⟩
    rw [hG]
    clear hG h0 HB HB2
    go_wp2_with fail
    go_ret
    exact ⟨rfl, rfl⟩
  have d0 : (m == 0) = false := by simpa using h0
  by_cases h1 : m / 1099511627776 % 2 = 1
  · rw [show (m / 1099511627776 % 2 == 1) = true by simpa using h1]
    clear h0 h1 HB HB2
    go_wp2_with fail
    go_ret
    exact ⟨rfl, rfl⟩
  rw [show (m / 1099511627776 % 2 == 1) = false by simpa using h1]
  have d2 : decide (port < 0) = true := decide_eq_true (by have := HB2.out; omega)
  clear h0 h1 HB HB2
  go_wp2_with fail
  go_ret
  exact ⟨rfl, rfl⟩
set_option maxRecDepth 100000 in
set_option maxHeartbeats 4000000 in
theorem d_learn (w : World) (F : Nat → Prop) (wb : Nat) (L : List En) (most age : Int) (h : Dw w F wb L most age) (hF : ∀ k, F k → k < w.heap.size) (hL : Ok age L) (hlen : 1 ≤ most ∧ (L.length : Int) ≤ most ∧ most ≤ 5000) (x port m : Int) (hx0 : 0 ≤ x ∧ x < 18446744073709551616) (hm : x % 281474976710656 = m) (hport : 0 ≤ port)
    (h0 : m ≠ 0) (h1 : ¬ m / 1099511627776 % 2 = 1) : Calls Try.prog 33 #[.pointer (some ⟨wb, 0, none⟩), .int .u64 x, .int .i64 port] w fun e w' => e = .returned (.bool true) ∧ ∃ L', LearnedP most age m port L L' ∧ Dw w' F wb L' most age ∧ Mut (fun n => n = wb) w w' := by
  have HL := Lib.hid hL
  have HMX := Lib.hid hm
  have hmr : 0 ≤ m ∧ m < 281474976710656 := by omega
  clear hL
  obtain ⟨a, cap, hwl, hl, hcells, hrows⟩ := h.reads
  have HC := Lib.hid hcells
  have HR := Lib.hid hrows
  have HD := Lib.hid h
  have HF := Lib.hid hF
  clear hcells hrows h hF
  clear hm
  go_enter Try.func33, Try.ntmps33
  go_wp2_with fail
  refine (ref_addr x _ hx0.1 hx0.2).mono ?_
  rintro e _ ⟨rfl, rfl⟩
  rw [HMX.out]
  go_wp2_with fail
  refine (ref_group m _ (by omega) (by omega)).mono ?_
  rintro e _ ⟨rfl, rfl⟩
  rw [show (m / 1099511627776 % 2 == 1) = false by simpa using h1]
  have d0 : (m == 0) = false := by simpa using h0
  have d2 : decide (port < 0) = false := by simpa using hport
  clear h0 h1
  go_wp2_with fail
  refine (d_at w F wb L most age HD.out m (by omega)).mono ?_
  rintro e wa ⟨⟨k, rfl, hp⟩, hx⟩
  rw [show m % 281474976710656 = m by omega] at hp
  have HDA := Lib.hid (HD.out.ext hx)
  have HXA := Lib.hid hx
  have HFA := Lib.hid (show ∀ k, F k → k < wa.heap.size from fun k hk => Nat.lt_of_lt_of_le (HF.out k hk) hx.size)
  obtain ⟨ca0, -, ca2, -⟩ := HC.out wa hx
  clear hx d0 d2
  have HFE := Lib.hid (show ∀ wz, Ext w wz → Dw wz F wb L most age ∧ (∀ k, F k → k < wz.heap.size) from fun wz hx => ⟨HD.out.ext hx, fun k hk => Nat.lt_of_lt_of_le (HF.out k hk) hx.size⟩)
  rcases hp with ⟨rfl, hn⟩ | ⟨i0, hi0, rfl, hk⟩
  · have HN := Lib.hid hn
    clear hn
    by_cases hfull : (L.length : Int) = most
    · have df : ((L.length : Int) == most) = true := by simpa using hfull
      have HFU := Lib.hid hfull
      have hne : 1 ≤ L.length := by omega
      clear hfull
      go_wp2_with fail
      go_quiet (fail)
      generalize hwz : wa.drewN nq = wz
      have HXZ := Lib.hid (show Ext w wz by rw [← hwz]; exact HXA.out.drewN _)
      clear hwz ca0 ca2 df
      go_wp2_with fail
      go_loopw [8, 9] (fun z s wr => ∃ (kk i : Nat), z = .int .i64 kk ∧ s = .int .i64 i ∧ kk < i ∧ i ≤ L.length ∧ LeastP L kk i ∧ Ext w wr) (fun _ s _ => L.length - (intOf s).toNat)
      case atStart => exact ⟨0, 1, rfl, rfl, by omega, by omega, ⟨by omega, fun j hj h1 => by
        obtain rfl : j = 0 := by omega
        exact .inr ⟨rfl, by omega⟩⟩, HXZ.out⟩
      case round =>
        obtain ⟨kk, i, rfl, rfl, hki, hi, ⟨hkk, hall⟩, hx⟩ := hrel
        rename World => wr
        have HX := Lib.hid hx
        have HAL := Lib.hid hall
        obtain ⟨-, -, c2, -⟩ := HC.out wr hx
        clear hx hall
        by_cases hlt : i < L.length
        · have dlt : decide ((i : Int) < (L.length : Int)) = true := by simp; omega
          obtain ⟨b, off, rfl, hlc, hcm, hrg⟩ := HR.out (by omega)
          obtain ⟨y, q, t, he⟩ : ∃ y q t, L[i] = (y, q, t) := ⟨_, _, _, rfl⟩
          obtain ⟨y2, q2, t2, he2⟩ : ∃ y q t, L[kk] = (y, q, t) := ⟨_, _, _, rfl⟩
          have hr := hrg wr HX.out i hlt
          have hr2 := hrg wr HX.out kk hkk
          rw [he] at hr
          rw [he2] at hr2
          have e1 : wr.cell? ⟨b, off + i * 3 + 2, none⟩ = some (.int .i64 t) := hr 2 _ rfl
          have e2 : wr.cell? ⟨b, off + kk * 3 + 2, none⟩ = some (.int .i64 t2) := hr2 2 _ rfl
          have HE := Lib.hid (And.intro he he2)
          have hup : IntKind.i64.wrap ((i : Int) + 1) = ((i + 1 : Nat) : Int) := by rw [IntKind.wrap_i64]; omega
          clear hr hr2 hrg he he2
          by_cases hs : t < t2
          · have ds : decide (t < t2) = true := by simpa using hs
            have HS := Lib.hid hs
            clear hs
            go_wp2_with fail
            go_quiet (fail)
            go_wp2_with fail
            go_roundw
            case rel =>
              refine ⟨i, i + 1, rfl, by go_num, by omega, by omega, ⟨hlt, fun j hj hji => ?_⟩, HX.out.drewN _⟩
              rw [HE.out.1]
              by_cases hji2 : j = i
              · subst hji2
                rw [HE.out.1]; exact .inr ⟨rfl, Nat.le_refl _⟩
              · have := HAL.out j hj (by omega)
                rw [HE.out.2] at this
                have := HS.out
                dsimp only at *
                exact .inl (by omega)
            case measure => simp [intOf] <;> omega
          · have ds : decide (t < t2) = false := by simpa using hs
            have HS := Lib.hid hs
            clear hs
            go_wp2_with fail
            go_quiet (fail)
            go_wp2_with fail
            go_roundw
            case rel =>
              refine ⟨kk, i + 1, rfl, by go_num, by omega, by omega, ⟨hkk, fun j hj hji => ?_⟩, HX.out.drewN _⟩
              by_cases hji2 : j = i
              · subst hji2
                have h1 : kk ≤ j := by omega
                rw [HE.out.1, HE.out.2]
                have := HS.out
                dsimp only
                by_cases h2 : t2 = t
                · exact .inr ⟨h2, h1⟩
                · exact .inl (by omega)
              · exact HAL.out j hj (by omega)
            case measure => simp [intOf] <;> omega
        · obtain rfl : i = L.length := by omega
          have dlt : decide ((L.length : Int) < (L.length : Int)) = false := by simp
          have dk2 : decide (0 ≤ (kk : Int)) = true := by simp
          have hal : LeastP L kk L.length := ⟨hkk, HAL.out⟩
          go_wp2_with fail
          refine (d_without wr F wb L most age (HFE.out wr HX.out).1 (HFE.out wr HX.out).2 kk hkk).mono ?_
          rintro e w1 ⟨rfl, hd1, hm1⟩
          have HD1 := Lib.hid hd1
          have HM1 := Lib.hid ((HX.out.mut (fun n => n = wb)).trans hm1)
          have HF1 := Lib.hid (show ∀ k, F k → k < w1.heap.size from fun k hk => Nat.lt_of_lt_of_le ((HFE.out wr HX.out).2 k hk) hm1.size)
          have hl0 := erase_len L kk
          clear hd1 hm1 c2
          obtain ⟨a1, cap1, hwl1, hl1, hcells1, hrows1⟩ := HD1.out.reads
          have HC1 := Lib.hid hcells1
          have HR1 := Lib.hid hrows1
          clear hcells1 hrows1
          have HLP := Lib.hid (learned_full (most := most) (port := port) HL.out HN.out (by have := HFU.out; omega) hal)
          obtain ⟨T, hT⟩ : ∃ T, insD (m, port, age) (L.eraseIdx kk) = T := ⟨_, rfl⟩
          have hTl : T.length = (L.eraseIdx kk).length + 1 := by rw [← hT, insD_len]
          rw [hT] at HLP
          have HT := Lib.hid hT
          clear hT
          go_wp2_with fail
          go_loopw [10, 11, 12] (fun u pf s wr => ∃ (i : Nat) (v : Value) (wo : World) (pb : Bool) (acc : List En), wo = wr ∧ v = u ∧ pf = .bool pb ∧ i ≤ (L.eraseIdx kk).length ∧ s = .int .i64 i ∧ Ext w1 wo ∧ wo.ownsRow w1.heap.size 58 3 v acc.length (evs acc) ∧ (if pb = true then acc ++ (L.eraseIdx kk).drop i = T else acc ++ insD (m, port, age) ((L.eraseIdx kk).drop i) = T)) (fun _ _ s _ => (L.eraseIdx kk).length - (intOf s).toNat)
          case atStart => exact ⟨0, _, _, false, [], rfl, rfl, rfl, by omega, rfl, Ext.refl _, ⟨by simp [evs], .inl ⟨by simp, rfl⟩⟩, by rw [if_neg (by decide)]; exact HT.out⟩
          case round =>
            obtain ⟨i, v, wo, pb, acc, rfl, rfl, rfl, hi, rfl, hx, hown, hinv⟩ := hrel
            rename World => wr
            have HX := Lib.hid hx
            have HO := Lib.hid hown
            obtain ⟨-, d1c, c2, -⟩ := HC1.out wr hx
            have hal : acc.length ≤ T.length := by
              cases pb
              · rw [if_neg (by decide)] at hinv; rw [← hinv, List.length_append]; omega
              · rw [if_pos rfl] at hinv; rw [← hinv, List.length_append]; omega
            have HI := Lib.hid hinv
            clear hx hown hinv
            by_cases hlt : i < (L.eraseIdx kk).length
            · have dlt : decide ((i : Int) < ((L.eraseIdx kk).length : Int)) = true := by simp; omega
              obtain ⟨b, off, rfl, hlc, hcm, hrg⟩ := HR1.out (by omega)
              obtain ⟨y, q, t, he⟩ : ∃ y q t, (L.eraseIdx kk)[i] = (y, q, t) := ⟨_, _, _, rfl⟩
              have hr := hrg wr HX.out i hlt
              rw [he] at hr
              have d00 : wr.cell? ⟨b, off + i * 3, none⟩ = some (.int .u64 y) := hr 0 _ rfl
              have HDR := Lib.hid (show (L.eraseIdx kk).drop i = (y, q, t) :: (L.eraseIdx kk).drop (i + 1) by rw [List.drop_eq_getElem_cons hlt, he])
              have hup : IntKind.i64.wrap ((i : Int) + 1) = ((i + 1 : Nat) : Int) := by rw [IntKind.wrap_i64]; omega
              have hr1 := Lib.hid hr
              have HRI := Lib.hid (show ∀ w', Ext w1 w' → w'.rangeAt b (off + i * 3) (ev (y, q, t)) from fun w' hx => by have := hrg w' hx i hlt; rw [he] at this; exact this)
              clear he hrg hr
              cases pb with
              | true =>
                go_wp2_with (first
                  | fail
                  | ((with_reducible refine at_load 58 ?_); refine wpList_load_mid rfl 58 _ rfl b (off + i * 3) rfl (ev (y, q, t)) _ hr1.out Try.underlying58 rfl size_dent ?_)
                  | ((with_reducible refine at_bs 40 ?_); refine wpList_one rfl _ rfl (y, q, t) rfl ?_
                     intro X wq hX hs hxq)
                  | (at_builtin; refine wpList_snoc rfl _ _ rfl w1 (HX.out.trans hxq) v acc rfl (owns_ext HO.out hxq) X (y, q, t) rfl hX (by omega) ?_
                     intro v6 w6 ho6 hx6))
                have HO6 := Lib.hid ho6
                have HX6 := Lib.hid hx6
                have HI6 := Lib.hid (show if true = true then (acc ++ [(y, q, t)]) ++ (L.eraseIdx kk).drop (i + 1) = T else (acc ++ [(y, q, t)]) ++ insD (m, port, age) ((L.eraseIdx kk).drop (i + 1)) = T by
                  have := HI.out
                  rw [if_pos rfl, HDR.out] at this
                  rw [if_pos rfl, List.append_assoc]; exact this)
                clear ho6 hx6 hX hs hxq c2 d00 d1c
                go_wp2_with fail
                go_roundw
                case rel => exact ⟨i + 1, _, _, true, acc ++ [(y, q, t)], rfl, rfl, rfl, by omega, by go_num, HX6.out, HO6.out, HI6.out⟩
                case measure => simp [intOf] <;> omega
              | false =>
                by_cases hgt : m < y
                · have dgt : decide (m < y) = true := by simpa using hgt
                  have HG2 := Lib.hid hgt
                  clear hgt
                  go_wp2_with (first
                    | fail
                    | ((with_reducible refine at_bs 40 ?_); refine wpList_one rfl _ rfl (m, port, age) rfl ?_
                       intro X wq hX hs hxq)
                    | (at_builtin; refine wpList_snoc rfl _ _ rfl w1 (HX.out.trans hxq) v acc rfl (owns_ext HO.out hxq) X (m, port, age) rfl hX (by omega) ?_
                       intro v6 w6 ho6 hx6
                       have HO5 := Lib.hid ho6
                       have HX5 := Lib.hid hx6
                       have c26 := (HC1.out w6 hx6).2.2.1
                       have hr6 := Lib.hid (HRI.out w6 hx6)
                       clear ho6 hx6 hX hs hxq)
                    | ((with_reducible refine at_load 58 ?_); refine wpList_load_mid rfl 58 _ rfl b (off + i * 3) rfl (ev (y, q, t)) _ hr6.out Try.underlying58 rfl size_dent ?_)
                    | ((with_reducible refine at_bs 40 ?_); refine wpList_one rfl _ rfl (y, q, t) rfl ?_
                       intro X2 wq2 hX2 hs2 hxq2)
                    | (at_builtin; refine wpList_snoc rfl _ _ rfl w1 (HX5.out.trans hxq2) v6 (acc ++ [(m, port, age)]) rfl (owns_ext HO5.out hxq2) X2 (y, q, t) rfl hX2 (by rw [List.length_append, List.length_singleton]; omega) ?_
                       intro v8 w8 ho8 hx8))
                  have HO6 := Lib.hid ho8
                  have HX6 := Lib.hid hx8
                  have HI6 := Lib.hid (show if true = true then (acc ++ [(m, port, age)] ++ [(y, q, t)]) ++ (L.eraseIdx kk).drop (i + 1) = T else (acc ++ [(m, port, age)] ++ [(y, q, t)]) ++ insD (m, port, age) ((L.eraseIdx kk).drop (i + 1)) = T by
                    have := HI.out
                    rw [if_neg (by decide), HDR.out] at this
                    unfold insD at this
                    rw [if_pos HG2.out] at this
                    rw [if_pos rfl, List.append_assoc, List.append_assoc]; exact this)
                  clear ho8 hx8 hX2 hs2 hxq2 c2 d00 d1c c26
                  go_wp2_with fail
                  go_roundw
                  case rel => exact ⟨i + 1, _, _, true, acc ++ [(m, port, age)] ++ [(y, q, t)], rfl, rfl, rfl, by omega, by go_num, HX6.out, HO6.out, HI6.out⟩
                  case measure => simp [intOf] <;> omega
                · have dgt : decide (m < y) = false := by simpa using hgt
                  have HG2 := Lib.hid hgt
                  clear hgt
                  go_wp2_with (first
                    | fail
                    | ((with_reducible refine at_load 58 ?_); refine wpList_load_mid rfl 58 _ rfl b (off + i * 3) rfl (ev (y, q, t)) _ hr1.out Try.underlying58 rfl size_dent ?_)
                    | ((with_reducible refine at_bs 40 ?_); refine wpList_one rfl _ rfl (y, q, t) rfl ?_
                       intro X wq hX hs hxq)
                    | (at_builtin; refine wpList_snoc rfl _ _ rfl w1 (HX.out.trans hxq) v acc rfl (owns_ext HO.out hxq) X (y, q, t) rfl hX (by omega) ?_
                       intro v6 w6 ho6 hx6))
                  have HO6 := Lib.hid ho6
                  have HX6 := Lib.hid hx6
                  have HI6 := Lib.hid (show if false = true then (acc ++ [(y, q, t)]) ++ (L.eraseIdx kk).drop (i + 1) = T else (acc ++ [(y, q, t)]) ++ insD (m, port, age) ((L.eraseIdx kk).drop (i + 1)) = T by
                    have := HI.out
                    rw [if_neg (by decide), HDR.out] at this
                    unfold insD at this
                    rw [if_neg HG2.out] at this
                    rw [if_neg (by decide), List.append_assoc]; exact this)
                  clear ho6 hx6 hX hs hxq c2 d00 d1c
                  go_wp2_with fail
                  go_roundw
                  case rel => exact ⟨i + 1, _, _, false, acc ++ [(y, q, t)], rfl, rfl, rfl, by omega, by go_num, HX6.out, HO6.out, HI6.out⟩
                  case measure => simp [intOf] <;> omega
            · obtain rfl : i = (L.eraseIdx kk).length := by omega
              have dlt : decide (((L.eraseIdx kk).length : Int) < ((L.eraseIdx kk).length : Int)) = false := by simp
              cases pb with
              | true =>
                have ho := HO.out
                obtain ⟨a', cap', rfl⟩ := own_form ho
                have hac : acc = T := by have := HI.out; rw [if_pos rfl, List.drop_length, List.append_nil] at this; exact this
                subst hac
                have HO2 := Lib.hid ho
                clear ho HO
                obtain ⟨N, hN⟩ : ∃ N, acc.length = N := ⟨_, rfl⟩
                rw [hN]
                go_wp2_with (first
                  | fail
                  | ((with_reducible refine at_store 40 ?_); refine st_at rfl rfl 40 _ _ rfl wb 2 _ #[.slice a' N cap'] #[.int .i64 most, .int .i64 age, .slice a1 (L.eraseIdx kk).length cap1] #[.int .i64 most, .int .i64 age, .slice a' N cap'] 42 rfl rfl rfl (HC1.out wr HX.out).2.2.2 (by exact (by decide : 2 + 1 ≤ 3)) (by kernel_rfl) rfl rfl ?_
                     intro w7 hrow7 hm7))
                go_ret
                subst hN
                exact ⟨rfl, _, HLP.out, (fun h => ⟨h.1, HM1.out.trans h.2⟩) (HD1.out.put HF1.out HX.out HO2.out (Nat.le_refl _) (by omega) hrow7 hm7)⟩
              | false =>
                go_wp2_with (first
                  | fail
                  | ((with_reducible refine at_bs 40 ?_); refine wpList_one rfl _ rfl (m, port, age) rfl ?_
                     intro X wq hX hs hxq)
                  | (at_builtin; refine wpList_snoc rfl _ _ rfl w1 (HX.out.trans hxq) v acc rfl (owns_ext HO.out hxq) X (m, port, age) rfl hX (by omega) ?_
                     intro v6 w6 ho6 hx6
                     have ho := ho6
                     obtain ⟨a', cap', rfl⟩ := own_form ho
                     obtain ⟨N, hN⟩ : ∃ N, (acc ++ [(m, port, age)]).length = N := ⟨_, rfl⟩
                     rw [hN]
                     have HO6 := Lib.hid ho6
                     have HX6 := Lib.hid hx6
                     clear ho ho6 hx6 hX hs hxq c2 d1c
                     have c2 := (HC1.out w6 HX6.out).2.2.1)
                  | ((with_reducible refine at_store 40 ?_); refine st_at rfl rfl 40 _ _ rfl wb 2 _ #[.slice a' N cap'] #[.int .i64 most, .int .i64 age, .slice a1 (L.eraseIdx kk).length cap1] #[.int .i64 most, .int .i64 age, .slice a' N cap'] 42 rfl rfl rfl (HC1.out w6 HX6.out).2.2.2 (by exact (by decide : 2 + 1 ≤ 3)) (by kernel_rfl) rfl rfl ?_
                     intro w7 hrow7 hm7))
                go_ret
                subst hN
                have hac : acc ++ [(m, port, age)] = T := by have := HI.out; rw [if_neg (by decide), List.drop_length] at this; exact this
                subst hac
                exact ⟨rfl, _, HLP.out, (fun h => ⟨h.1, HM1.out.trans h.2⟩) (HD1.out.put HF1.out HX6.out HO6.out (Nat.le_refl _) (by omega) hrow7 hm7)⟩
    · have df : ((L.length : Int) == most) = false := by simpa using hfull
      have HFU := Lib.hid hfull
      clear hfull
      go_wp2_with fail
      go_quiet (fail)
      generalize hwz : wa.drewN nq = wz
      have hxz : Ext w wz := by rw [← hwz]; exact HXA.out.drewN _
      have HD1 := Lib.hid (HFE.out wz hxz).1
      have HM1 := Lib.hid (hxz.mut (fun n => n = wb))
      have HF1 := Lib.hid (HFE.out wz hxz).2
      clear hwz ca0 ca2 df hxz
      obtain ⟨a1, cap1, hwl1, hl1, hcells1, hrows1⟩ := HD1.out.reads
      have HC1 := Lib.hid hcells1
      have HR1 := Lib.hid hrows1
      clear hcells1 hrows1
      have HLP := Lib.hid (learned_new (most := most) (port := port) (age := age) HN.out (by have := HFU.out; omega))
      obtain ⟨T, hT⟩ : ∃ T, insD (m, port, age) (L) = T := ⟨_, rfl⟩
      have hTl : T.length = (L).length + 1 := by rw [← hT, insD_len]
      rw [hT] at HLP
      have HT := Lib.hid hT
      clear hT
      go_wp2_with fail
      go_loopw [10, 11, 12] (fun u pf s wr => ∃ (i : Nat) (v : Value) (wo : World) (pb : Bool) (acc : List En), wo = wr ∧ v = u ∧ pf = .bool pb ∧ i ≤ (L).length ∧ s = .int .i64 i ∧ Ext wz wo ∧ wo.ownsRow wz.heap.size 58 3 v acc.length (evs acc) ∧ (if pb = true then acc ++ (L).drop i = T else acc ++ insD (m, port, age) ((L).drop i) = T)) (fun _ _ s _ => (L).length - (intOf s).toNat)
      case atStart => exact ⟨0, _, _, false, [], rfl, rfl, rfl, by omega, rfl, Ext.refl _, ⟨by simp [evs], .inl ⟨by simp, rfl⟩⟩, by rw [if_neg (by decide)]; exact HT.out⟩
      case round =>
        obtain ⟨i, v, wo, pb, acc, rfl, rfl, rfl, hi, rfl, hx, hown, hinv⟩ := hrel
        rename World => wr
        have HX := Lib.hid hx
        have HO := Lib.hid hown
        obtain ⟨-, d1c, c2, -⟩ := HC1.out wr hx
        have hal : acc.length ≤ T.length := by
          cases pb
          · rw [if_neg (by decide)] at hinv; rw [← hinv, List.length_append]; omega
          · rw [if_pos rfl] at hinv; rw [← hinv, List.length_append]; omega
        have HI := Lib.hid hinv
        clear hx hown hinv
        by_cases hlt : i < (L).length
        · have dlt : decide ((i : Int) < ((L).length : Int)) = true := by simp; omega
          obtain ⟨b, off, rfl, hlc, hcm, hrg⟩ := HR1.out (by omega)
          obtain ⟨y, q, t, he⟩ : ∃ y q t, (L)[i] = (y, q, t) := ⟨_, _, _, rfl⟩
          have hr := hrg wr HX.out i hlt
          rw [he] at hr
          have d00 : wr.cell? ⟨b, off + i * 3, none⟩ = some (.int .u64 y) := hr 0 _ rfl
          have HDR := Lib.hid (show (L).drop i = (y, q, t) :: (L).drop (i + 1) by rw [List.drop_eq_getElem_cons hlt, he])
          have hup : IntKind.i64.wrap ((i : Int) + 1) = ((i + 1 : Nat) : Int) := by rw [IntKind.wrap_i64]; omega
          have hr1 := Lib.hid hr
          have HRI := Lib.hid (show ∀ w', Ext wz w' → w'.rangeAt b (off + i * 3) (ev (y, q, t)) from fun w' hx => by have := hrg w' hx i hlt; rw [he] at this; exact this)
          clear he hrg hr
          cases pb with
          | true =>
            go_wp2_with (first
              | fail
              | ((with_reducible refine at_load 58 ?_); refine wpList_load_mid rfl 58 _ rfl b (off + i * 3) rfl (ev (y, q, t)) _ hr1.out Try.underlying58 rfl size_dent ?_)
              | ((with_reducible refine at_bs 40 ?_); refine wpList_one rfl _ rfl (y, q, t) rfl ?_
                 intro X wq hX hs hxq)
              | (at_builtin; refine wpList_snoc rfl _ _ rfl wz (HX.out.trans hxq) v acc rfl (owns_ext HO.out hxq) X (y, q, t) rfl hX (by omega) ?_
                 intro v6 w6 ho6 hx6))
            have HO6 := Lib.hid ho6
            have HX6 := Lib.hid hx6
            have HI6 := Lib.hid (show if true = true then (acc ++ [(y, q, t)]) ++ (L).drop (i + 1) = T else (acc ++ [(y, q, t)]) ++ insD (m, port, age) ((L).drop (i + 1)) = T by
              have := HI.out
              rw [if_pos rfl, HDR.out] at this
              rw [if_pos rfl, List.append_assoc]; exact this)
            clear ho6 hx6 hX hs hxq c2 d00 d1c
            go_wp2_with fail
            go_roundw
            case rel => exact ⟨i + 1, _, _, true, acc ++ [(y, q, t)], rfl, rfl, rfl, by omega, by go_num, HX6.out, HO6.out, HI6.out⟩
            case measure => simp [intOf] <;> omega
          | false =>
            by_cases hgt : m < y
            · have dgt : decide (m < y) = true := by simpa using hgt
              have HG2 := Lib.hid hgt
              clear hgt
              go_wp2_with (first
                | fail
                | ((with_reducible refine at_bs 40 ?_); refine wpList_one rfl _ rfl (m, port, age) rfl ?_
                   intro X wq hX hs hxq)
                | (at_builtin; refine wpList_snoc rfl _ _ rfl wz (HX.out.trans hxq) v acc rfl (owns_ext HO.out hxq) X (m, port, age) rfl hX (by omega) ?_
                   intro v6 w6 ho6 hx6
                   have HO5 := Lib.hid ho6
                   have HX5 := Lib.hid hx6
                   have c26 := (HC1.out w6 hx6).2.2.1
                   have hr6 := Lib.hid (HRI.out w6 hx6)
                   clear ho6 hx6 hX hs hxq)
                | ((with_reducible refine at_load 58 ?_); refine wpList_load_mid rfl 58 _ rfl b (off + i * 3) rfl (ev (y, q, t)) _ hr6.out Try.underlying58 rfl size_dent ?_)
                | ((with_reducible refine at_bs 40 ?_); refine wpList_one rfl _ rfl (y, q, t) rfl ?_
                   intro X2 wq2 hX2 hs2 hxq2)
                | (at_builtin; refine wpList_snoc rfl _ _ rfl wz (HX5.out.trans hxq2) v6 (acc ++ [(m, port, age)]) rfl (owns_ext HO5.out hxq2) X2 (y, q, t) rfl hX2 (by rw [List.length_append, List.length_singleton]; omega) ?_
                   intro v8 w8 ho8 hx8))
              have HO6 := Lib.hid ho8
              have HX6 := Lib.hid hx8
              have HI6 := Lib.hid (show if true = true then (acc ++ [(m, port, age)] ++ [(y, q, t)]) ++ (L).drop (i + 1) = T else (acc ++ [(m, port, age)] ++ [(y, q, t)]) ++ insD (m, port, age) ((L).drop (i + 1)) = T by
                have := HI.out
                rw [if_neg (by decide), HDR.out] at this
                unfold insD at this
                rw [if_pos HG2.out] at this
                rw [if_pos rfl, List.append_assoc, List.append_assoc]; exact this)
              clear ho8 hx8 hX2 hs2 hxq2 c2 d00 d1c c26
              go_wp2_with fail
              go_roundw
              case rel => exact ⟨i + 1, _, _, true, acc ++ [(m, port, age)] ++ [(y, q, t)], rfl, rfl, rfl, by omega, by go_num, HX6.out, HO6.out, HI6.out⟩
              case measure => simp [intOf] <;> omega
            · have dgt : decide (m < y) = false := by simpa using hgt
              have HG2 := Lib.hid hgt
              clear hgt
              go_wp2_with (first
                | fail
                | ((with_reducible refine at_load 58 ?_); refine wpList_load_mid rfl 58 _ rfl b (off + i * 3) rfl (ev (y, q, t)) _ hr1.out Try.underlying58 rfl size_dent ?_)
                | ((with_reducible refine at_bs 40 ?_); refine wpList_one rfl _ rfl (y, q, t) rfl ?_
                   intro X wq hX hs hxq)
                | (at_builtin; refine wpList_snoc rfl _ _ rfl wz (HX.out.trans hxq) v acc rfl (owns_ext HO.out hxq) X (y, q, t) rfl hX (by omega) ?_
                   intro v6 w6 ho6 hx6))
              have HO6 := Lib.hid ho6
              have HX6 := Lib.hid hx6
              have HI6 := Lib.hid (show if false = true then (acc ++ [(y, q, t)]) ++ (L).drop (i + 1) = T else (acc ++ [(y, q, t)]) ++ insD (m, port, age) ((L).drop (i + 1)) = T by
                have := HI.out
                rw [if_neg (by decide), HDR.out] at this
                unfold insD at this
                rw [if_neg HG2.out] at this
                rw [if_neg (by decide), List.append_assoc]; exact this)
              clear ho6 hx6 hX hs hxq c2 d00 d1c
              go_wp2_with fail
              go_roundw
              case rel => exact ⟨i + 1, _, _, false, acc ++ [(y, q, t)], rfl, rfl, rfl, by omega, by go_num, HX6.out, HO6.out, HI6.out⟩
              case measure => simp [intOf] <;> omega
        · obtain rfl : i = (L).length := by omega
          have dlt : decide (((L).length : Int) < ((L).length : Int)) = false := by simp
          cases pb with
          | true =>
            have ho := HO.out
            obtain ⟨a', cap', rfl⟩ := own_form ho
            have hac : acc = T := by have := HI.out; rw [if_pos rfl, List.drop_length, List.append_nil] at this; exact this
            subst hac
            have HO2 := Lib.hid ho
            clear ho HO
            obtain ⟨N, hN⟩ : ∃ N, acc.length = N := ⟨_, rfl⟩
            rw [hN]
            go_wp2_with (first
              | fail
              | ((with_reducible refine at_store 40 ?_); refine st_at rfl rfl 40 _ _ rfl wb 2 _ #[.slice a' N cap'] #[.int .i64 most, .int .i64 age, .slice a1 (L).length cap1] #[.int .i64 most, .int .i64 age, .slice a' N cap'] 42 rfl rfl rfl (HC1.out wr HX.out).2.2.2 (by exact (by decide : 2 + 1 ≤ 3)) (by kernel_rfl) rfl rfl ?_
                 intro w7 hrow7 hm7))
            go_ret
            subst hN
            exact ⟨rfl, _, HLP.out, (fun h => ⟨h.1, HM1.out.trans h.2⟩) (HD1.out.put HF1.out HX.out HO2.out (Nat.le_refl _) (by omega) hrow7 hm7)⟩
          | false =>
            go_wp2_with (first
              | fail
              | ((with_reducible refine at_bs 40 ?_); refine wpList_one rfl _ rfl (m, port, age) rfl ?_
                 intro X wq hX hs hxq)
              | (at_builtin; refine wpList_snoc rfl _ _ rfl wz (HX.out.trans hxq) v acc rfl (owns_ext HO.out hxq) X (m, port, age) rfl hX (by omega) ?_
                 intro v6 w6 ho6 hx6
                 have ho := ho6
                 obtain ⟨a', cap', rfl⟩ := own_form ho
                 obtain ⟨N, hN⟩ : ∃ N, (acc ++ [(m, port, age)]).length = N := ⟨_, rfl⟩
                 rw [hN]
                 have HO6 := Lib.hid ho6
                 have HX6 := Lib.hid hx6
                 clear ho ho6 hx6 hX hs hxq c2 d1c
                 have c2 := (HC1.out w6 HX6.out).2.2.1)
              | ((with_reducible refine at_store 40 ?_); refine st_at rfl rfl 40 _ _ rfl wb 2 _ #[.slice a' N cap'] #[.int .i64 most, .int .i64 age, .slice a1 (L).length cap1] #[.int .i64 most, .int .i64 age, .slice a' N cap'] 42 rfl rfl rfl (HC1.out w6 HX6.out).2.2.2 (by exact (by decide : 2 + 1 ≤ 3)) (by kernel_rfl) rfl rfl ?_
                 intro w7 hrow7 hm7))
            go_ret
            subst hN
            have hac : acc ++ [(m, port, age)] = T := by have := HI.out; rw [if_neg (by decide), List.drop_length] at this; exact this
            subst hac
            exact ⟨rfl, _, HLP.out, (fun h => ⟨h.1, HM1.out.trans h.2⟩) (HD1.out.put HF1.out HX6.out HO6.out (Nat.le_refl _) (by omega) hrow7 hm7)⟩
  · have dk : decide ((i0 : Int) < 0) = false := by simp
    have dk2 : decide (0 ≤ (i0 : Int)) = true := by simp
    go_wp2_with fail
    go_quiet (fail)
    generalize hwz : wa.drewN nq = wz
    have hxz : Ext w wz := by rw [← hwz]; exact HXA.out.drewN _
    have HXZ := Lib.hid hxz
    clear hwz ca0 ca2 hxz
    go_wp2_with fail
    refine (d_without wz F wb L most age (HFE.out wz HXZ.out).1 (HFE.out wz HXZ.out).2 i0 hi0).mono ?_
    rintro e w1 ⟨rfl, hd1, hm1⟩
    have HD1 := Lib.hid hd1
    have HM1 := Lib.hid ((HXZ.out.mut (fun n => n = wb)).trans hm1)
    have HF1 := Lib.hid (show ∀ k, F k → k < w1.heap.size from fun k hk => Nat.lt_of_lt_of_le ((HFE.out wz HXZ.out).2 k hk) hm1.size)
    have hl0 := erase_len L i0
    clear hd1 hm1
    obtain ⟨a1, cap1, hwl1, hl1, hcells1, hrows1⟩ := HD1.out.reads
    have HC1 := Lib.hid hcells1
    have HR1 := Lib.hid hrows1
    clear hcells1 hrows1
    have HLP := Lib.hid (learned_old (most := most) (port := port) HL.out hi0 hk)
    obtain ⟨T, hT⟩ : ∃ T, insD (m, port, age) (L.eraseIdx i0) = T := ⟨_, rfl⟩
    have hTl : T.length = (L.eraseIdx i0).length + 1 := by rw [← hT, insD_len]
    rw [hT] at HLP
    have HT := Lib.hid hT
    clear hT
    go_wp2_with fail
    go_loopw [10, 11, 12] (fun u pf s wr => ∃ (i : Nat) (v : Value) (wo : World) (pb : Bool) (acc : List En), wo = wr ∧ v = u ∧ pf = .bool pb ∧ i ≤ (L.eraseIdx i0).length ∧ s = .int .i64 i ∧ Ext w1 wo ∧ wo.ownsRow w1.heap.size 58 3 v acc.length (evs acc) ∧ (if pb = true then acc ++ (L.eraseIdx i0).drop i = T else acc ++ insD (m, port, age) ((L.eraseIdx i0).drop i) = T)) (fun _ _ s _ => (L.eraseIdx i0).length - (intOf s).toNat)
    case atStart => exact ⟨0, _, _, false, [], rfl, rfl, rfl, by omega, rfl, Ext.refl _, ⟨by simp [evs], .inl ⟨by simp, rfl⟩⟩, by rw [if_neg (by decide)]; exact HT.out⟩
    case round =>
      obtain ⟨i, v, wo, pb, acc, rfl, rfl, rfl, hi, rfl, hx, hown, hinv⟩ := hrel
      rename World => wr
      have HX := Lib.hid hx
      have HO := Lib.hid hown
      obtain ⟨-, d1c, c2, -⟩ := HC1.out wr hx
      have hal : acc.length ≤ T.length := by
        cases pb
        · rw [if_neg (by decide)] at hinv; rw [← hinv, List.length_append]; omega
        · rw [if_pos rfl] at hinv; rw [← hinv, List.length_append]; omega
      have HI := Lib.hid hinv
      clear hx hown hinv
      by_cases hlt : i < (L.eraseIdx i0).length
      · have dlt : decide ((i : Int) < ((L.eraseIdx i0).length : Int)) = true := by simp; omega
        obtain ⟨b, off, rfl, hlc, hcm, hrg⟩ := HR1.out (by omega)
        obtain ⟨y, q, t, he⟩ : ∃ y q t, (L.eraseIdx i0)[i] = (y, q, t) := ⟨_, _, _, rfl⟩
        have hr := hrg wr HX.out i hlt
        rw [he] at hr
        have d00 : wr.cell? ⟨b, off + i * 3, none⟩ = some (.int .u64 y) := hr 0 _ rfl
        have HDR := Lib.hid (show (L.eraseIdx i0).drop i = (y, q, t) :: (L.eraseIdx i0).drop (i + 1) by rw [List.drop_eq_getElem_cons hlt, he])
        have hup : IntKind.i64.wrap ((i : Int) + 1) = ((i + 1 : Nat) : Int) := by rw [IntKind.wrap_i64]; omega
        have hr1 := Lib.hid hr
        have HRI := Lib.hid (show ∀ w', Ext w1 w' → w'.rangeAt b (off + i * 3) (ev (y, q, t)) from fun w' hx => by have := hrg w' hx i hlt; rw [he] at this; exact this)
        clear he hrg hr
        cases pb with
        | true =>
          go_wp2_with (first
            | fail
            | ((with_reducible refine at_load 58 ?_); refine wpList_load_mid rfl 58 _ rfl b (off + i * 3) rfl (ev (y, q, t)) _ hr1.out Try.underlying58 rfl size_dent ?_)
            | ((with_reducible refine at_bs 40 ?_); refine wpList_one rfl _ rfl (y, q, t) rfl ?_
               intro X wq hX hs hxq)
            | (at_builtin; refine wpList_snoc rfl _ _ rfl w1 (HX.out.trans hxq) v acc rfl (owns_ext HO.out hxq) X (y, q, t) rfl hX (by omega) ?_
               intro v6 w6 ho6 hx6))
          have HO6 := Lib.hid ho6
          have HX6 := Lib.hid hx6
          have HI6 := Lib.hid (show if true = true then (acc ++ [(y, q, t)]) ++ (L.eraseIdx i0).drop (i + 1) = T else (acc ++ [(y, q, t)]) ++ insD (m, port, age) ((L.eraseIdx i0).drop (i + 1)) = T by
            have := HI.out
            rw [if_pos rfl, HDR.out] at this
            rw [if_pos rfl, List.append_assoc]; exact this)
          clear ho6 hx6 hX hs hxq c2 d00 d1c
          go_wp2_with fail
          go_roundw
          case rel => exact ⟨i + 1, _, _, true, acc ++ [(y, q, t)], rfl, rfl, rfl, by omega, by go_num, HX6.out, HO6.out, HI6.out⟩
          case measure => simp [intOf] <;> omega
        | false =>
          by_cases hgt : m < y
          · have dgt : decide (m < y) = true := by simpa using hgt
            have HG2 := Lib.hid hgt
            clear hgt
            go_wp2_with (first
              | fail
              | ((with_reducible refine at_bs 40 ?_); refine wpList_one rfl _ rfl (m, port, age) rfl ?_
                 intro X wq hX hs hxq)
              | (at_builtin; refine wpList_snoc rfl _ _ rfl w1 (HX.out.trans hxq) v acc rfl (owns_ext HO.out hxq) X (m, port, age) rfl hX (by omega) ?_
                 intro v6 w6 ho6 hx6
                 have HO5 := Lib.hid ho6
                 have HX5 := Lib.hid hx6
                 have c26 := (HC1.out w6 hx6).2.2.1
                 have hr6 := Lib.hid (HRI.out w6 hx6)
                 clear ho6 hx6 hX hs hxq)
              | ((with_reducible refine at_load 58 ?_); refine wpList_load_mid rfl 58 _ rfl b (off + i * 3) rfl (ev (y, q, t)) _ hr6.out Try.underlying58 rfl size_dent ?_)
              | ((with_reducible refine at_bs 40 ?_); refine wpList_one rfl _ rfl (y, q, t) rfl ?_
                 intro X2 wq2 hX2 hs2 hxq2)
              | (at_builtin; refine wpList_snoc rfl _ _ rfl w1 (HX5.out.trans hxq2) v6 (acc ++ [(m, port, age)]) rfl (owns_ext HO5.out hxq2) X2 (y, q, t) rfl hX2 (by rw [List.length_append, List.length_singleton]; omega) ?_
                 intro v8 w8 ho8 hx8))
            have HO6 := Lib.hid ho8
            have HX6 := Lib.hid hx8
            have HI6 := Lib.hid (show if true = true then (acc ++ [(m, port, age)] ++ [(y, q, t)]) ++ (L.eraseIdx i0).drop (i + 1) = T else (acc ++ [(m, port, age)] ++ [(y, q, t)]) ++ insD (m, port, age) ((L.eraseIdx i0).drop (i + 1)) = T by
              have := HI.out
              rw [if_neg (by decide), HDR.out] at this
              unfold insD at this
              rw [if_pos HG2.out] at this
              rw [if_pos rfl, List.append_assoc, List.append_assoc]; exact this)
            clear ho8 hx8 hX2 hs2 hxq2 c2 d00 d1c c26
            go_wp2_with fail
            go_roundw
            case rel => exact ⟨i + 1, _, _, true, acc ++ [(m, port, age)] ++ [(y, q, t)], rfl, rfl, rfl, by omega, by go_num, HX6.out, HO6.out, HI6.out⟩
            case measure => simp [intOf] <;> omega
          · have dgt : decide (m < y) = false := by simpa using hgt
            have HG2 := Lib.hid hgt
            clear hgt
            go_wp2_with (first
              | fail
              | ((with_reducible refine at_load 58 ?_); refine wpList_load_mid rfl 58 _ rfl b (off + i * 3) rfl (ev (y, q, t)) _ hr1.out Try.underlying58 rfl size_dent ?_)
              | ((with_reducible refine at_bs 40 ?_); refine wpList_one rfl _ rfl (y, q, t) rfl ?_
                 intro X wq hX hs hxq)
              | (at_builtin; refine wpList_snoc rfl _ _ rfl w1 (HX.out.trans hxq) v acc rfl (owns_ext HO.out hxq) X (y, q, t) rfl hX (by omega) ?_
                 intro v6 w6 ho6 hx6))
            have HO6 := Lib.hid ho6
            have HX6 := Lib.hid hx6
            have HI6 := Lib.hid (show if false = true then (acc ++ [(y, q, t)]) ++ (L.eraseIdx i0).drop (i + 1) = T else (acc ++ [(y, q, t)]) ++ insD (m, port, age) ((L.eraseIdx i0).drop (i + 1)) = T by
              have := HI.out
              rw [if_neg (by decide), HDR.out] at this
              unfold insD at this
              rw [if_neg HG2.out] at this
              rw [if_neg (by decide), List.append_assoc]; exact this)
            clear ho6 hx6 hX hs hxq c2 d00 d1c
            go_wp2_with fail
            go_roundw
            case rel => exact ⟨i + 1, _, _, false, acc ++ [(y, q, t)], rfl, rfl, rfl, by omega, by go_num, HX6.out, HO6.out, HI6.out⟩
            case measure => simp [intOf] <;> omega
      · obtain rfl : i = (L.eraseIdx i0).length := by omega
        have dlt : decide (((L.eraseIdx i0).length : Int) < ((L.eraseIdx i0).length : Int)) = false := by simp
        cases pb with
        | true =>
          have ho := HO.out
          obtain ⟨a', cap', rfl⟩ := own_form ho
          have hac : acc = T := by have := HI.out; rw [if_pos rfl, List.drop_length, List.append_nil] at this; exact this
          subst hac
          have HO2 := Lib.hid ho
          clear ho HO
          obtain ⟨N, hN⟩ : ∃ N, acc.length = N := ⟨_, rfl⟩
          rw [hN]
          go_wp2_with (first
            | fail
            | ((with_reducible refine at_store 40 ?_); refine st_at rfl rfl 40 _ _ rfl wb 2 _ #[.slice a' N cap'] #[.int .i64 most, .int .i64 age, .slice a1 (L.eraseIdx i0).length cap1] #[.int .i64 most, .int .i64 age, .slice a' N cap'] 42 rfl rfl rfl (HC1.out wr HX.out).2.2.2 (by exact (by decide : 2 + 1 ≤ 3)) (by kernel_rfl) rfl rfl ?_
               intro w7 hrow7 hm7))
          go_ret
          subst hN
          exact ⟨rfl, _, HLP.out, (fun h => ⟨h.1, HM1.out.trans h.2⟩) (HD1.out.put HF1.out HX.out HO2.out (Nat.le_refl _) (by omega) hrow7 hm7)⟩
        | false =>
          go_wp2_with (first
            | fail
            | ((with_reducible refine at_bs 40 ?_); refine wpList_one rfl _ rfl (m, port, age) rfl ?_
               intro X wq hX hs hxq)
            | (at_builtin; refine wpList_snoc rfl _ _ rfl w1 (HX.out.trans hxq) v acc rfl (owns_ext HO.out hxq) X (m, port, age) rfl hX (by omega) ?_
               intro v6 w6 ho6 hx6
               have ho := ho6
               obtain ⟨a', cap', rfl⟩ := own_form ho
               obtain ⟨N, hN⟩ : ∃ N, (acc ++ [(m, port, age)]).length = N := ⟨_, rfl⟩
               rw [hN]
               have HO6 := Lib.hid ho6
               have HX6 := Lib.hid hx6
               clear ho ho6 hx6 hX hs hxq c2 d1c
               have c2 := (HC1.out w6 HX6.out).2.2.1)
            | ((with_reducible refine at_store 40 ?_); refine st_at rfl rfl 40 _ _ rfl wb 2 _ #[.slice a' N cap'] #[.int .i64 most, .int .i64 age, .slice a1 (L.eraseIdx i0).length cap1] #[.int .i64 most, .int .i64 age, .slice a' N cap'] 42 rfl rfl rfl (HC1.out w6 HX6.out).2.2.2 (by exact (by decide : 2 + 1 ≤ 3)) (by kernel_rfl) rfl rfl ?_
               intro w7 hrow7 hm7))
          go_ret
          subst hN
          have hac : acc ++ [(m, port, age)] = T := by have := HI.out; rw [if_neg (by decide), List.drop_length] at this; exact this
          subst hac
          exact ⟨rfl, _, HLP.out, (fun h => ⟨h.1, HM1.out.trans h.2⟩) (HD1.out.put HF1.out HX6.out HO6.out (Nat.le_refl _) (by omega) hrow7 hm7)⟩

end Go.Proofs.Ytemmfbedchfekaa
