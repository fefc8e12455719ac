/- The program's database and the document's side by side. No statement is proved here. -/
import Derived.Test.YtemmfbedchfekaaBrF
import Derived.Test.YtemmfbedchfekaaFdMq
namespace Go.Proofs.Ytemmfbedchfekaa
open Go.RowKit Go.BigFrame Go.WideShapes Go.ChangeShapes Go.Deep
set_option linter.unusedVariables false
set_option linter.unusedSimpArgs false
set_option maxRecDepth 100000

/-- Since w0 there is nothing new but memory: the program's database f holds L, the document's M. -/
def FD (w0 w : World) (f wb : Nat) (L M : List En) (most age : Int) : Prop := ∃ F, Fb w F f L most age ∧ (∀ k, F k → w0.heap.size ≤ k) ∧ Dw w F wb M most age ∧ w0.heap.size ≤ wb ∧ Ext w0 w
/-- .. with a box beside. -/
def PD (w0 w : World) (f wb X : Nat) (row : Obj) (L M : List En) (most age : Int) : Prop :=
  ∃ F, Fb w F f L most age ∧ (∀ k, F k → w0.heap.size ≤ k) ∧ Dw w F wb M most age ∧ w0.heap.size ≤ wb ∧ Ext w0 w ∧ w.heap[X]? = some row ∧ ¬ F X ∧ X ≠ wb ∧ w0.heap.size ≤ X
theorem Fb.lt {w : World} {F : Nat → Prop} {f : Nat} {L : List En} {most age : Int} (h : Fb w F f L most age) : ∀ k, F k → k < w.heap.size := by
  obtain ⟨_, _, _, _, _, h3⟩ := h
  exact h3
theorem FD.grow {w0 w w' : World} {f wb : Nat} {L M : List En} {most age : Int} (h : FD w0 w f wb L M most age) (hx : Ext w w') : FD w0 w' f wb L M most age := by
  obtain ⟨F, h1, h2, h3, h4, h5⟩ := h
  exact ⟨F, h1.ext hx, h2, h3.ext hx, h4, h5.trans hx⟩
theorem FD.ext {w0 w : World} {f wb : Nat} {L M : List En} {most age : Int} (h : FD w0 w f wb L M most age) : Ext w0 w := by
  obtain ⟨F, h1, h2, h3, h4, h5⟩ := h
  exact h5
theorem PD.fd {w0 w : World} {f wb X : Nat} {row : Obj} {L M : List En} {most age : Int} (h : PD w0 w f wb X row L M most age) : FD w0 w f wb L M most age := by
  obtain ⟨F, h1, h2, h3, h4, h5, _⟩ := h
  exact ⟨F, h1, h2, h3, h4, h5⟩
theorem PD.row {w0 w : World} {f wb X : Nat} {row : Obj} {L M : List En} {most age : Int} (h : PD w0 w f wb X row L M most age) : w.heap[X]? = some row := by
  obtain ⟨F, h1, h2, h3, h4, h5, h6, _⟩ := h
  exact h6
theorem PD.grow {w0 w w' : World} {f wb X : Nat} {row : Obj} {L M : List En} {most age : Int} (h : PD w0 w f wb X row L M most age) (hx : Ext w w') : PD w0 w' f wb X row L M most age := by
  obtain ⟨F, h1, h2, h3, h4, h5, h6, h7, h8, h9⟩ := h
  exact ⟨F, h1.ext hx, h2, h3.ext hx, h4, h5.trans hx, (hx.block X (heap_lt h6)).trans h6, h7, h8, h9⟩
theorem FD.box {w0 w w' : World} {f wb X : Nat} {row : Obj} {L M : List En} {most age : Int} (h : FD w0 w f wb L M most age) (hx : Ext w w') (hX : w.heap.size ≤ X) (hr : w'.heap[X]? = some row) : PD w0 w' f wb X row L M most age := by
  obtain ⟨F, h1, h2, h3, h4, h5⟩ := h
  refine ⟨F, h1.ext hx, h2, h3.ext hx, h4, h5.trans hx, hr, fun hc => by have := h1.lt X hc; omega, ?_, by have := h5.size; omega⟩
  obtain ⟨a, cap, q1, _⟩ := h3
  have := heap_lt q1
  omega
theorem PD.prog {w0 w w' : World} {F F' : Nat → Prop} {f wb X : Nat} {row : Obj} {L L' M : List En} {most age : Int} (h1 : Fb w F f L most age) (h2 : ∀ k, F k → w0.heap.size ≤ k) (h3 : Dw w F wb M most age) (h4 : w0.heap.size ≤ wb) (h5 : Ext w0 w) (h6 : w.heap[X]? = some row) (h7 : ¬ F X) (h8 : X ≠ wb) (h9 : w0.heap.size ≤ X)
    (hb : Fb w' F' f L' most age) (hF : ∀ k, F' k → F k ∨ w.heap.size ≤ k) (hm : Mut F w w') : PD w0 w' f wb X row L' M most age :=
  ⟨F', hb, fun k hk => by rcases hF k hk with h | h; exact h2 k h; exact Nat.le_trans h5.size h, h3.keep (fun k hk hn => hm.heap hk hn) hm.size (fun k hk hk' => by rcases hF k hk' with h | h; exact h; omega), h4,
    ext_mut h5 hm (fun n hn hc => by have := h2 n hc; omega), (hm.heap (heap_lt h6) h7).trans h6, fun hc => by rcases hF X hc with h | h; exact h7 h; have := heap_lt h6; omega, h8, h9⟩
theorem PD.doc {w0 w w' : World} {F : Nat → Prop} {f wb X : Nat} {row : Obj} {L M M' : List En} {most age : Int} (h1 : Fb w F f L most age) (h2 : ∀ k, F k → w0.heap.size ≤ k) (h3 : Dw w F wb M most age) (h4 : w0.heap.size ≤ wb) (h5 : Ext w0 w) (h6 : w.heap[X]? = some row) (h7 : ¬ F X) (h8 : X ≠ wb) (h9 : w0.heap.size ≤ X)
    (hd : Dw w' F wb M' most age) (hm : Mut (fun n => n = wb) w w') : PD w0 w' f wb X row L M' most age := by
  obtain ⟨_, _, q1, q2, q3, _⟩ := h3
  exact ⟨F, h1.apart hm (fun k hk hc => q3 (by rw [← show k = wb from hc]; exact hk)), h2, hd, h4, ext_mut h5 hm (fun n hn hc => by have : n = wb := hc; omega), (hm.heap (heap_lt h6) h8).trans h6, h7, h8, h9⟩
theorem p_short (w0 w : World) (f wb X : Nat) (row : Obj) (L M : List En) (most age : Int) (h : PD w0 w f wb X row L M most age) (hL : Ok age L) (ha : 0 ≤ age ∧ age ≤ 1000000) (hlen : L.length ≤ 4096) (port sec : Int) : Calls Try.prog 25 #[.pointer (some ⟨f, 0, none⟩), .int .i64 port, .int .i64 sec] w fun e w' => e = .returned (.int .i64 (cntP port (fun _ => false) L)) ∧ PD w0 w' f wb X row (shorts port sec L) M most age ∧ w'.heap[X]? = some row := by
  obtain ⟨F, ⟨b, DD, gb, q1, q2, q3⟩, h2, h3, h4, h5, h6, h7, h8, h9⟩ := h
  refine (short_any w F f b L.length DD L gb most age q1 hL ha q2 q3 port sec hlen).mono ?_
  rintro e w' ⟨he, hd⟩
  obtain ⟨p1, p2⟩ := hd.fb (short_ok hL port sec) q3
  have hp := PD.prog ⟨b, DD, gb, q1, q2, q3⟩ h2 h3 h4 h5 h6 h7 h8 h9 p1 (fun k hk => .inl hk) p2
  exact ⟨he, hp, hp.row⟩
theorem p_flush (w0 w : World) (f wb X : Nat) (row : Obj) (L M : List En) (most age : Int) (h : PD w0 w f wb X row L M most age) (hL : Ok age L) (ha : 0 ≤ age ∧ age ≤ 1000000) (hlen : L.length ≤ 4096) (port : Int) : Calls Try.prog 24 #[.pointer (some ⟨f, 0, none⟩), .int .i64 port] w fun e w' => e = .returned (.int .i64 (cntP port (fun _ => false) L)) ∧ PD w0 w' f wb X row (shorts port 0 L) M most age ∧ w'.heap[X]? = some row := by
  obtain ⟨F, ⟨b, DD, gb, q1, q2, q3⟩, h2, h3, h4, h5, h6, h7, h8, h9⟩ := h
  refine (flush_any w F f b L.length DD L gb most age q1 hL ha q2 q3 port hlen).mono ?_
  rintro e w' ⟨he, hd⟩
  obtain ⟨p1, p2⟩ := hd.fb (short_ok hL port 0) q3
  have hp := PD.prog ⟨b, DD, gb, q1, q2, q3⟩ h2 h3 h4 h5 h6 h7 h8 h9 p1 (fun k hk => .inl hk) p2
  exact ⟨he, hp, hp.row⟩
theorem p_learn (w0 w : World) (f wb X : Nat) (row : Obj) (L M : List En) (most age : Int) (h : PD w0 w f wb X row L M most age) (hL : Ok age L) (ha : 1 ≤ age ∧ age ≤ 1000000) (hlen : 1 ≤ most ∧ most ≤ 4096 ∧ (L.length : Int) ≤ most) (x port m : Int) (hx0 : 0 ≤ x ∧ x < 18446744073709551616) (hm : x % 281474976710656 = m) (hport : 0 ≤ port ∧ port < 9223372036854775808)
    (h0 : m ≠ 0) (h1 : ¬ m / 1099511627776 % 2 = 1) : Calls Try.prog 29 #[.pointer (some ⟨f, 0, none⟩), .int .u64 x, .int .i64 port] w fun e w' => e = .returned (.bool true) ∧ ∃ L', LearnedP most age m port L L' ∧ PD w0 w' f wb X row L' M most age ∧ w'.heap[X]? = some row := by
  obtain ⟨F, q1, h2, h3, h4, h5, h6, h7, h8, h9⟩ := h
  refine (learn_good w F f L most age q1 hL ha hlen x port m hx0 hm hport h0 h1).mono ?_
  rintro e w' ⟨he, L', p1, p2, p3⟩
  have hp := PD.prog q1 h2 h3 h4 h5 h6 h7 h8 h9 p2 (fun k hk => hk.elim .inl (fun h => .inr h.1)) p3
  exact ⟨he, L', p1, hp, hp.row⟩
theorem q_learn (w0 w : World) (f wb X : Nat) (row : Obj) (L M : List En) (most age : Int) (h : PD w0 w f wb X row L M most age) (hM : Ok age M) (hlen : 1 ≤ most ∧ (M.length : Int) ≤ most ∧ most ≤ 5000) (x port m : Int) (hx0 : 0 ≤ x ∧ x < 18446744073709551616) (hm : x % 281474976710656 = m) (hport : 0 ≤ port)
    (h0 : m ≠ 0) (h1 : ¬ m / 1099511627776 % 2 = 1) : Calls Try.prog 33 #[.pointer (some ⟨wb, 0, none⟩), .int .u64 x, .int .i64 port] w fun e w' => e = .returned (.bool true) ∧ ∃ M', LearnedP most age m port M M' ∧ PD w0 w' f wb X row L M' most age ∧ w'.heap[X]? = some row := by
  obtain ⟨F, q1, h2, h3, h4, h5, h6, h7, h8, h9⟩ := h
  refine (d_learn w F wb M most age h3 q1.lt hM hlen x port m hx0 hm hport h0 h1).mono ?_
  rintro e w' ⟨he, M', p1, p2, p3⟩
  have hp := PD.doc q1 h2 h3 h4 h5 h6 h7 h8 h9 p2 p3
  exact ⟨he, M', p1, hp, hp.row⟩
theorem p_learn_bad (w0 w : World) (f wb X : Nat) (row : Obj) (L M : List En) (most age : Int) (h : PD w0 w f wb X row L M most age) (x port : Int) (hx0 : 0 ≤ x ∧ x < 18446744073709551616) (hb : x % 281474976710656 = 0 ∨ x % 281474976710656 / 1099511627776 % 2 = 1 ∨ port < 0) :
    Calls Try.prog 29 #[.pointer (some ⟨f, 0, none⟩), .int .u64 x, .int .i64 port] w fun e w' => e = .returned (.bool false) ∧ PD w0 w' f wb X row L M most age ∧ w'.heap[X]? = some row :=
  (learn_bad w (fun _ => False) f L most age x port hx0 hb).mono fun e w' ⟨he, hw⟩ => ⟨he, hw ▸ h, hw ▸ h.row⟩
theorem q_learn_bad (w0 w : World) (f wb X : Nat) (row : Obj) (L M : List En) (most age : Int) (h : PD w0 w f wb X row L M most age) (x port : Int) (hx0 : 0 ≤ x ∧ x < 18446744073709551616) (hb : x % 281474976710656 = 0 ∨ x % 281474976710656 / 1099511627776 % 2 = 1 ∨ port < 0) :
    Calls Try.prog 33 #[.pointer (some ⟨wb, 0, none⟩), .int .u64 x, .int .i64 port] w fun e w' => e = .returned (.bool false) ∧ PD w0 w' f wb X row L M most age ∧ w'.heap[X]? = some row :=
  (d_learn_bad w wb x port hx0 hb).mono fun e w' ⟨he, hw⟩ => ⟨he, hw ▸ h, hw ▸ h.row⟩
theorem q_short (w0 w : World) (f wb X : Nat) (row : Obj) (L M : List En) (most age : Int) (h : PD w0 w f wb X row L M most age) (hM : Ok age M) (port sec : Int) (hs0 : -9223372036854775808 ≤ sec ∧ sec < 9223372036854775808) : Calls Try.prog 26 #[.pointer (some ⟨wb, 0, none⟩), .int .i64 port, .int .i64 (max 0 sec)] w fun e w' => e = .returned (.int .i64 (cntP port (fun _ => false) M)) ∧ PD w0 w' f wb X row L (shorts port sec M) most age ∧ w'.heap[X]? = some row := by
  obtain ⟨F, q1, h2, h3, h4, h5, h6, h7, h8, h9⟩ := h
  refine (d_short w F wb M most age h3 q1.lt hM port (max 0 sec) (by omega)).mono ?_
  rintro e w' ⟨he, p2, p3⟩
  rw [shD_short hM] at p2
  rw [← cntD_p] at he
  have hp := PD.doc q1 h2 h3 h4 h5 h6 h7 h8 h9 p2 p3
  exact ⟨he, hp, hp.row⟩
theorem q_short0 (w0 w : World) (f wb X : Nat) (row : Obj) (L M : List En) (most age : Int) (h : PD w0 w f wb X row L M most age) (hM : Ok age M) (port : Int) : Calls Try.prog 26 #[.pointer (some ⟨wb, 0, none⟩), .int .i64 port, .int .i64 0] w fun e w' => e = .returned (.int .i64 (cntP port (fun _ => false) M)) ∧ PD w0 w' f wb X row L (shorts port 0 M) most age ∧ w'.heap[X]? = some row := by
  have := q_short w0 w f wb X row L M most age h hM port 0 (by omega)
  simpa using this
/-- What is found: a function of the list. -/
def FindP (L : List En) (x : Int) (e : Ending) : Prop := (∃ e0 ∈ L, e0.1 = x % 281474976710656 ∧ e = .returned (.tuple #[.int .i64 e0.2.1, .bool true])) ∨ (x % 281474976710656 ∉ L.map Prod.fst ∧ e = .returned (.tuple #[.int .i64 (-1), .bool false]))
theorem find_uniq {age : Int} {L : List En} (hL : Ok age L) {x : Int} {e e' : Ending} (h : FindP L x e) (h' : FindP L x e') : e = e' := by
  rcases h with ⟨e0, he, hk, rfl⟩ | ⟨hn, rfl⟩
  · rcases h' with ⟨e1, he1, hk1, rfl⟩ | ⟨hn1, rfl⟩
    · rw [hL.uni he he1 (by omega)]
    · exact absurd (List.mem_map.2 ⟨e0, he, hk⟩) hn1
  · rcases h' with ⟨e1, he1, hk1, rfl⟩ | ⟨hn1, rfl⟩
    · exact absurd (List.mem_map.2 ⟨e1, he1, hk1⟩) hn
    · rfl
theorem find_form {L : List En} {x : Int} {e : Ending} (h : FindP L x e) : ∃ p b, e = .returned (.tuple #[.int .i64 p, .bool b]) := by
  rcases h with ⟨e0, _, _, rfl⟩ | ⟨_, rfl⟩ <;> exact ⟨_, _, rfl⟩
theorem p_find (w0 w : World) (f wb X : Nat) (row : Obj) (L M : List En) (most age : Int) (h : PD w0 w f wb X row L M most age) (x : Int) (hx0 : 0 ≤ x ∧ x < 18446744073709551616) : Calls Try.prog 22 #[.pointer (some ⟨f, 0, none⟩), .int .u64 x] w fun e w' => FindP L x e ∧ PD w0 w' f wb X row L M most age := by
  have hh := h
  obtain ⟨F, q1, h2, h3, h4, h5, h6, h7, h8, h9⟩ := h
  exact (find_any w F f L most age q1 x hx0).mono fun e w' ⟨he, hx⟩ => ⟨he, hh.grow hx⟩
theorem q_find (w0 w : World) (f wb X : Nat) (row : Obj) (L M : List En) (most age : Int) (h : PD w0 w f wb X row L M most age) (x : Int) (hx0 : 0 ≤ x ∧ x < 18446744073709551616) : Calls Try.prog 34 #[.pointer (some ⟨wb, 0, none⟩), .int .u64 x] w fun e w' => FindP M x e ∧ PD w0 w' f wb X row L M most age := by
  have hh := h
  obtain ⟨F, q1, h2, h3, h4, h5, h6, h7, h8, h9⟩ := h
  exact (d_find w F wb M most age h3 x hx0).mono fun e w' ⟨he, hx⟩ => ⟨he, hh.grow hx⟩
theorem fd_all (w0 w : World) (f wb : Nat) (L M : List En) (most age : Int) (h : FD w0 w f wb L M most age) (hL : Ok age L) (h12 : L.length ≤ 12) : Calls Try.prog 19 #[.pointer (some ⟨f, 0, none⟩)] w fun e w' => ∃ a cap, e = .returned (.slice a L.length cap) ∧ w'.ownsRow w.heap.size 57 3 (.slice a L.length cap) L.length (evs L) ∧ Ext w w' := by
  obtain ⟨F, q1, h2, h3, h4, h5⟩ := h
  refine (all_any w F f L most age q1 hL h12).mono ?_
  rintro e w' ⟨v, he, hxx, hown⟩
  obtain ⟨a, cap, rfl⟩ := own_form hown
  exact ⟨a, cap, he, hown, hxx⟩
/-- A list of entries that reads as a slice. -/
def EntsAt (w : World) (v : Value) (L : List En) : Prop := ∃ a cap, v = .slice a L.length cap ∧ (0 < L.length → ∃ b off, a = some ⟨b, off, none⟩ ∧ b < w.heap.size ∧ ∀ i (hi : i < L.length), w.rangeAt b (off + i * 3) (ev (L[i]'hi)))
theorem EntsAt.ext {w w' : World} {v : Value} {L : List En} (h : EntsAt w v L) (hx : Ext w w') : EntsAt w' v L := by
  obtain ⟨a, cap, e, hf⟩ := h
  refine ⟨a, cap, e, fun h0 => ?_⟩
  obtain ⟨b, off, e1, hb, hr⟩ := hf h0
  exact ⟨b, off, e1, Nat.lt_of_lt_of_le hb hx.size, fun i hi => rangeAt_ext (hr i hi) hx hb⟩
theorem ents_own {w : World} {base : Nat} {v : Value} {L : List En} (h : w.ownsRow base 57 3 v L.length (evs L)) : EntsAt w v L := by
  obtain ⟨a, cap, rfl⟩ := own_form h
  refine ⟨a, cap, rfl, fun h0 => ?_⟩
  obtain ⟨g, rfl⟩ : ∃ g, a = some ⟨g, 0, none⟩ := by
    rcases h.2 with ⟨e0, _⟩ | ⟨g, cap', cur, hv', _⟩
    · exfalso
      injection e0 with _ e1 _
      omega
    · cases hv'
      exact ⟨g, rfl⟩
  refine ⟨g, 0, rfl, (h.lt g rfl).2, fun i hi => ?_⟩
  rw [Nat.zero_add]
  exact ent_range h rfl i hi
theorem Dw.ents {w : World} {F : Nat → Prop} {wb : Nat} {L : List En} {most age : Int} (h : Dw w F wb L most age) : ∃ v, EntsAt w v L ∧ wb < w.heap.size ∧ ∀ w', Ext w w' → w'.cell? ⟨wb, 2, none⟩ = some v := by
  obtain ⟨a, cap, h1, h2, h3, h4⟩ := h
  refine ⟨.slice a L.length cap, ⟨a, cap, rfl, fun h0 => ?_⟩, heap_lt h1, fun w' hx => by rw [cell_row ((hx.block wb (heap_lt h1)).trans h1)]; rfl⟩
  obtain ⟨b, off, e, hb, hne, hFb, hc1, hc2, hr⟩ := h4 h0
  refine ⟨b, off, e, hb, fun i hi j v hv => ?_⟩
  have hj : j < 3 := by
    have := (List.getElem?_eq_some_iff.1 hv).1
    simpa [ev] using this
  have := hr (i * 3 + j) v (by rw [evs_at L i hi j hj]; exact hv)
  rw [show off + i * 3 + j = off + (i * 3 + j) by omega]
  exact this
end Go.Proofs.Ytemmfbedchfekaa
