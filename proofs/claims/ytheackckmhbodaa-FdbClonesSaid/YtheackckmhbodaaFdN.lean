/- Databases of up to sixty: learning, forgetting one port. No statement is proved here. -/
import Derived.Test.YtheackckmhbodaaSoS
import Derived.Test.YtheackckmhbodaaFdR
import Derived.Test.YtheackckmhbodaaInts
namespace Go.Proofs.Ytheackckmhbodaa
open Go.RowKit Go.BigFrame Go.WideShapes Go.ChangeShapes Go.Deep
set_option linter.unusedVariables false
set_option linter.unusedSimpArgs false
set_option maxRecDepth 100000

theorem owns_keep {w w' : World} {base m n : Nat} {e : TypeId} {v : Value} {xs : List Value} (h : w.ownsRow base e m v n xs) (hk : ∀ k, base ≤ k → k < w.heap.size → w'.heap[k]? = w.heap[k]?) : w'.ownsRow base e m v n xs := by
  refine ⟨h.1, ?_⟩
  rcases h.2 with hn | ⟨g, cap, cur, rfl, hb, hg, rest⟩
  · exact .inl hn
  · exact .inr ⟨g, cap, cur, rfl, hb, (hk g hb (Array.getElem?_eq_some_iff.1 hg).1).trans hg, rest⟩
theorem flush_b (w0 wr w : World) (f : Nat) (L : List En) (most age : Int) (h : Fx w0 wr f L most age) (hx : Ext wr w) (hL : Ok age L) (ha : 0 ≤ age ∧ age ≤ 1000000) (hlen : L.length ≤ 4096) (port : Int) :
    Calls Try.prog 18 #[.pointer (some ⟨f, 0, none⟩), .int .i64 port] w fun e w' => e = .returned (.int .i64 (cntP port (fun _ => false) L)) ∧ Fx w0 w' f (shorts port 0 L) most age ∧ ∀ k, wr.heap.size ≤ k → k < w.heap.size → w'.heap[k]? = w.heap[k]? := by
  obtain ⟨⟨F, hb, hF⟩, hE⟩ := h
  have hlt : ∀ k, F k → k < wr.heap.size := by obtain ⟨_, _, _, _, _, h3⟩ := hb; exact h3
  obtain ⟨b, D, gb, q1, q2, q3⟩ := hb.ext hx
  refine (flush_any w F f b L.length D L gb most age q1 hL ha q2 q3 port hlen).mono ?_
  rintro e w' ⟨he, hd⟩
  obtain ⟨p1, p2⟩ := hd.fb (short_ok hL port 0) q3
  exact ⟨he, ⟨⟨F, p1, hF⟩, ext_mut (hE.trans hx) p2 (fun n hn hc => by have := hF n hc; omega)⟩, fun k hk1 hk2 => p2.heap hk2 (fun hc => by have := hlt k hc; omega)⟩
/-- Learning whatever comes. -/
theorem learn_c (w0 w : World) (f : Nat) (L : List En) (most age : Int) (h : Fx w0 w f L most age) (hL : Ok age L) (ha : 1 ≤ age ∧ age ≤ 1000000) (hlen : 1 ≤ most ∧ most ≤ 4096 ∧ (L.length : Int) ≤ most) (x port : Int) (hx0 : 0 ≤ x ∧ x < 18446744073709551616) (hport : 0 ≤ port ∧ port < 9223372036854775808) :
    Calls Try.prog 12 #[.pointer (some ⟨f, 0, none⟩), .int .u64 x, .int .i64 port] w fun e w' => ∃ (bb : Bool) (L' : List En), e = .returned (.bool bb) ∧ Ok age L' ∧ L'.length ≤ L.length + 1 ∧ (L'.length : Int) ≤ most ∧ Fx w0 w' f L' most age := by
  obtain ⟨m, hm⟩ : ∃ m, x % 281474976710656 = m := ⟨_, rfl⟩
  by_cases hb : m = 0 ∨ m / 1099511627776 % 2 = 1
  · refine (learn_bad w (fun _ => False) f L most age x port hx0 (by rw [hm]; omega)).mono ?_
    rintro e w' ⟨he, rfl⟩
    exact ⟨false, L, he, hL, by omega, hlen.2.2, h⟩
  · refine (learn_x w0 w f L most age h hL ha hlen x port m hx0 hm hport (by omega) (by omega)).mono ?_
    rintro e w' ⟨he, L', hl, hf⟩
    refine ⟨true, L', he, learned_ok hL ha.1 (by omega) hport hl, ?_, learned_len hL hlen.2.2 hlen.1 hl, hf⟩
    rcases hl with ⟨_, rfl⟩ | ⟨_, _, e0, he0, _, rfl⟩
    · rw [ins_len hL.1]
      split <;> omega
    · have h2 := upd_len hL.1 he0 rfl
      rw [ins_len (L := upd e0.1 0 L) (fm_rises (setSec_keeps _ _) hL.1)]
      split <;> omega
/-- All but those of one port. -/
def fl (p : Int) (L : List En) : List En := L.filter (fun e => !(e.2.1 == p))
theorem shorts_fl (p : Int) : ∀ L : List En, shorts p 0 L = fl p L
  | [] => rfl
  | a :: r => by
    have ih := shorts_fl p r
    unfold shorts fl at ih ⊢
    by_cases h : a.2.1 = p
    · have h1 : shortE p 0 a = none := by
        unfold shortE setSec
        rw [if_pos h, if_pos rfl, if_pos (by omega)]
      rw [List.filterMap_cons_none h1, List.filter_cons_of_neg (by simp [h]), ih]
    · have h1 : shortE p 0 a = some a := by
        unfold shortE
        rw [if_neg h]
      rw [List.filterMap_cons_some h1, List.filter_cons_of_pos (by simp [h]), ih]
theorem cnt_fl (p : Int) : ∀ L : List En, cntP p (fun _ => false) L + (fl p L).length = L.length
  | [] => rfl
  | a :: r => by
    have ih := cnt_fl p r
    unfold fl at ih ⊢
    by_cases h : a.2.1 = p
    · rw [cntP, if_pos ⟨h, rfl⟩, List.filter_cons_of_neg (by simp [h]), List.length_cons]; omega
    · rw [cntP, if_neg (fun hc => h hc.1), List.filter_cons_of_pos (by simp [h]), List.length_cons, List.length_cons]; omega
theorem fl_skip (p : Int) (L : List En) (i : Nat) (hi : i < L.length) (h : (L[i]).2.1 = p) : (fl p (L.take (i + 1))).length = (fl p (L.take i)).length := by
  unfold fl
  rw [List.take_succ_eq_append_getElem hi, List.filter_append, List.filter_cons_of_neg (by simp [h])]
  simp
theorem fl_step (p : Int) (L : List En) (i : Nat) (hi : i < L.length) (h : (L[i]).2.1 ≠ p) : (fl p (L.take (i + 1))).length = (fl p (L.take i)).length + 1 ∧ ∃ h2 : (fl p (L.take i)).length < (fl p L).length, (fl p L)[(fl p (L.take i)).length] = L[i] := by
  have e0 : fl p (L.take (i + 1)) = fl p (L.take i) ++ [L[i]] := by
    unfold fl
    rw [List.take_succ_eq_append_getElem hi, List.filter_append, List.filter_cons_of_pos (by simp [h])]
    rfl
  have e1 : fl p L = fl p (L.take (i + 1)) ++ fl p (L.drop (i + 1)) := by
    unfold fl
    rw [← List.filter_append, List.take_append_drop]
  have hlt : (fl p (L.take i)).length < (fl p L).length := by rw [e1, e0]; simp only [List.length_append, List.length_cons, List.length_nil]; omega
  refine ⟨by rw [e0]; simp, hlt, ?_⟩
  have : (fl p L)[(fl p (L.take i)).length]? = some L[i] := by
    rw [e1, e0, List.append_assoc, List.getElem?_append_right (Nat.le_refl _)]
    simp
  rw [List.getElem?_eq_getElem hlt] at this
  exact Option.some.inj this

end Go.Proofs.Ytheackckmhbodaa
