/- One database of the law's own; the example. No statement is proved here. -/
import Derived.Test.YtheackckmhbodaaFdX
import Derived.Test.YtheackckmhbodaaFdH
namespace Go.Proofs.Ytheackckmhbodaa
open Go.RowKit Go.BigFrame Go.WideShapes Go.ChangeShapes Go.Deep
set_option linter.unusedVariables false
set_option linter.unusedSimpArgs false

/-- Since w0 there is nothing new but memory; the database f, new since, holds L. -/
def Fx (w0 w : World) (f : Nat) (L : List En) (most age : Int) : Prop := (∃ F, Fb w F f L most age ∧ ∀ k, F k → w0.heap.size ≤ k) ∧ Ext w0 w
theorem Fx.grow {w0 w w' : World} {f : Nat} {L : List En} {most age : Int} (h : Fx w0 w f L most age) (hx : Ext w w') : Fx w0 w' f L most age := by
  obtain ⟨⟨F, h1, h2⟩, h3⟩ := h
  exact ⟨⟨F, h1.ext hx, h2⟩, h3.trans hx⟩
theorem Fx.ext {w0 w : World} {f : Nat} {L : List En} {most age : Int} (h : Fx w0 w f L most age) : Ext w0 w := h.2
theorem fm_ok {age : Int} {L : List En} (h : Ok age L) {st : En → Option En} (hs : Keeps st) (hb : ∀ e ∈ L, ∀ e', st e = some e' → e'.2.1 = e.2.1 ∧ 1 ≤ e'.2.2 ∧ e'.2.2 ≤ age) : Ok age (L.filterMap st) :=
  ⟨fm_rises hs h.1, fun e' he' => by
    obtain ⟨e, he, hse⟩ := List.mem_filterMap.1 he'
    have h1 := h.2 e he
    have h2 := hb e he e' hse
    have h3 := hs e e' hse
    rw [h3, h2.1]
    exact ⟨h1.1, h1.2.1, h2.2⟩⟩
theorem setSec_b {e e' : En} {s : Int} (h : setSec e.1 s e = some e') : e'.2.1 = e.2.1 ∧ e'.2.2 = s ∧ 0 < s := by
  unfold setSec at h
  rw [if_pos rfl] at h
  split at h
  · cases h
  · have := Option.some.inj h
    rw [← this]
    exact ⟨rfl, rfl, by omega⟩
theorem tick_ok {age : Int} {L : List En} (h : Ok age L) : Ok age (L.filterMap tickE) := fm_ok h tickE_keeps (fun e he e' hs => by
  obtain ⟨a, b, c⟩ := setSec_b hs
  have := h.2 e he
  exact ⟨a, by omega, by omega⟩)
theorem short_ok {age : Int} {L : List En} (h : Ok age L) (port sec : Int) : Ok age (shorts port sec L) := fm_ok h (shortE_keeps port sec) (fun e he e' hs => by
  have hb := h.2 e he
  unfold shortE at hs
  split at hs
  · obtain ⟨a, b, c⟩ := setSec_b hs
    exact ⟨a, by omega, by omega⟩
  · have := Option.some.inj hs
    rw [← this]
    exact ⟨rfl, hb.2.2.1, hb.2.2.2⟩)
theorem new_x (w : World) (size age : Int) (h : (1 ≤ size ∧ size ≤ 4096) ∧ 1 ≤ age ∧ age ≤ 1000000) (w0 : World) (h0 : Ext w0 w) : Calls Try.prog 11 #[.int .i64 size, .int .i64 age] w fun e w' => ∃ f, e = .returned (.pointer (some ⟨f, 0, none⟩)) ∧ Fx w0 w' f [] size age :=
  (new_good w size age h).mono fun e w' ⟨f, he, hx, _, hb⟩ => ⟨f, he, ⟨_, hb, fun k hk => Nat.le_trans h0.size hk.1⟩, h0.trans hx⟩
theorem learn_x (w0 w : World) (f : Nat) (L : List En) (most age : Int) (h : Fx w0 w f L most age) (hL : Ok age L) (ha : 1 ≤ age ∧ age ≤ 1000000) (hlen : 1 ≤ most ∧ most ≤ 4096 ∧ (L.length : Int) ≤ most) (x port m : Int) (hx0 : 0 ≤ x ∧ x < 18446744073709551616) (hm : x % 281474976710656 = m) (hport : 0 ≤ port ∧ port < 9223372036854775808)
    (h0 : m ≠ 0) (h1 : ¬ m / 1099511627776 % 2 = 1) : Calls Try.prog 12 #[.pointer (some ⟨f, 0, none⟩), .int .u64 x, .int .i64 port] w fun e w' => e = .returned (.bool true) ∧ ∃ L', LearnedP most age m port L L' ∧ Fx w0 w' f L' most age := by
  obtain ⟨⟨F, hb, hF⟩, hx⟩ := h
  refine (learn_good w F f L most age hb hL ha hlen x port m hx0 hm hport h0 h1).mono ?_
  rintro e w' ⟨he, L', h2, h3, h4⟩
  exact ⟨he, L', h2, ⟨_, h3, fun k hk => by rcases hk with hk | hk; exact hF k hk; exact Nat.le_trans hx.size hk.1⟩, ext_mut hx h4 (fun n hn hc => by have := hF n hc; omega)⟩
theorem tick_x (w0 w : World) (f : Nat) (L : List En) (most age : Int) (h : Fx w0 w f L most age) (hL : Ok age L) (ha : age ≤ 1000000) : Calls Try.prog 16 #[.pointer (some ⟨f, 0, none⟩)] w fun e w' => e = .returned (.tuple #[]) ∧ Fx w0 w' f (L.filterMap tickE) most age := by
  obtain ⟨⟨F, ⟨b, D, gb, h1, h2, h3⟩, hF⟩, hx⟩ := h
  refine (tick_any w F f b L.length D L gb most age h1 hL ha h2 h3).mono ?_
  rintro e w' ⟨he, hd⟩
  obtain ⟨q1, q2⟩ := hd.fb (tick_ok hL) h3
  exact ⟨he, ⟨F, q1, hF⟩, ext_mut hx q2 (fun n hn hc => by have := hF n hc; omega)⟩
theorem short_x (w0 w : World) (f : Nat) (L : List En) (most age : Int) (h : Fx w0 w f L most age) (hL : Ok age L) (ha : 0 ≤ age ∧ age ≤ 1000000) (hlen : L.length ≤ 4096) (port sec : Int) : Calls Try.prog 20 #[.pointer (some ⟨f, 0, none⟩), .int .i64 port, .int .i64 sec] w fun e w' => e = .returned (.int .i64 (cntP port (fun _ => false) L)) ∧ Fx w0 w' f (shorts port sec L) most age := by
  obtain ⟨⟨F, ⟨b, D, gb, h1, h2, h3⟩, hF⟩, hx⟩ := h
  refine (short_any w F f b L.length D L gb most age h1 hL ha h2 h3 port sec hlen).mono ?_
  rintro e w' ⟨he, hd⟩
  obtain ⟨q1, q2⟩ := hd.fb (short_ok hL port sec) h3
  exact ⟨he, ⟨F, q1, hF⟩, ext_mut hx q2 (fun n hn hc => by have := hF n hc; omega)⟩
theorem find_x (w0 w : World) (f : Nat) (L : List En) (most age : Int) (h : Fx w0 w f L most age) (x : Int) (hx0 : 0 ≤ x ∧ x < 18446744073709551616) : Calls Try.prog 14 #[.pointer (some ⟨f, 0, none⟩), .int .u64 x] w fun e w' => ((∃ e0 ∈ L, e0.1 = x % 281474976710656 ∧ e = .returned (.tuple #[.int .i64 e0.2.1, .bool true])) ∨ (x % 281474976710656 ∉ L.map Prod.fst ∧ e = .returned (.tuple #[.int .i64 (-1), .bool false]))) ∧ Fx w0 w' f L most age := by
  have hh := h
  obtain ⟨⟨F, hb, hF⟩, hx⟩ := h
  refine (find_any w F f L most age hb x hx0).mono ?_
  rintro e w' ⟨he, hxx⟩
  exact ⟨he, hh.grow hxx⟩
theorem own_form {w : World} {base m n : Nat} {e : TypeId} {v : Value} {xs : List Value} (h : w.ownsRow base e m v n xs) : ∃ a cap, v = .slice a n cap := by
  obtain ⟨h0, ⟨rfl, rfl⟩ | ⟨g, cap, cur, rfl, hb, hg, hn, hm, hs, ht⟩⟩ := h
  · exact ⟨_, _, rfl⟩
  · exact ⟨_, _, rfl⟩
theorem all_x (w0 w : World) (f : Nat) (L : List En) (most age : Int) (h : Fx w0 w f L most age) (hL : Ok age L) (h12 : L.length ≤ 12) : Calls Try.prog 22 #[.pointer (some ⟨f, 0, none⟩)] w fun e w' => ∃ a cap, e = .returned (.slice a L.length cap) ∧ w'.ownsRow w.heap.size 43 3 (.slice a L.length cap) L.length (evs L) ∧ Ext w w' ∧ Fx w0 w' f L most age := by
  have hh := h
  obtain ⟨⟨F, hb, hF⟩, hx⟩ := h
  refine (all_any w F f L most age hb hL h12).mono ?_
  rintro e w' ⟨v, he, hxx, hown⟩
  obtain ⟨a, cap, rfl⟩ := own_form hown
  exact ⟨a, cap, he, hown, hxx, hh.grow hxx⟩

def xA : List En := [(1, 5, 300)]
def xB : List En := [(1, 5, 299)]
def xC : List En := [(1, 5, 299), (2, 6, 300)]
def xD : List En := [(2, 6, 300), (3, 7, 300)]
theorem xA_ok : Ok 300 xA := ⟨by decide, by decide⟩
theorem xB_ok : Ok 300 xB := ⟨by decide, by decide⟩
theorem xC_ok : Ok 300 xC := ⟨by decide, by decide⟩
theorem xD_ok : Ok 300 xD := ⟨by decide, by decide⟩
theorem nil_ok (age : Int) : Ok age [] := ⟨List.Pairwise.nil, fun e h => by cases h⟩
theorem l1 {L : List En} (h : LearnedP 2 300 1 5 [] L) : L = xA := by
  rcases h with ⟨_, rfl⟩ | ⟨_, h, _⟩
  · rfl
  · simp at h
theorem t1 : xA.filterMap tickE = xB := by decide
theorem l2 {L : List En} (h : LearnedP 2 300 2 6 xB L) : L = xC := by
  rcases h with ⟨_, rfl⟩ | ⟨_, h, _⟩
  · decide
  · simp [xB] at h
theorem l3 {L : List En} (h : LearnedP 2 300 3 7 xC L) : L = xD := by
  rcases h with ⟨h, _⟩ | ⟨_, _, e0, he, hb, rfl⟩
  · exfalso
    rcases h with h | h
    · revert h; decide
    · simp [xC] at h
  · have h1 := hb (1, 5, 299) (by decide)
    simp only [xC, List.mem_cons, List.not_mem_nil, or_false] at he
    rcases he with rfl | rfl
    · decide
    · simp at h1
set_option maxRecDepth 100000 in
set_option maxHeartbeats 4000000 in
theorem awake07 (w : World) : Calls Try.prog 10 #[] w fun e w' => e = .returned (.bool true) ∧ Ext w w' := by
  go_enter Try.func10, Try.ntmps10
  go_wp2_with fail
  refine (new_x w 2 300 (by decide) w (Ext.refl w)).mono ?_
  rintro e w1 ⟨f, rfl, h1⟩
  have H1 := Lib.hid h1
  clear h1
  go_wp2_with fail
  refine (learn_x w w1 f [] 2 300 H1.out (nil_ok 300) (by decide) (by decide) 1 5 1 (by decide) rfl (by decide) (by decide) (by decide)).mono ?_
  rintro e w2 ⟨rfl, L, hl, h2⟩
  obtain rfl := l1 hl
  have H2 := Lib.hid h2
  clear h2 hl
  go_wp2_with fail
  refine (tick_x w w2 f xA 2 300 H2.out xA_ok (by decide)).mono ?_
  rintro e w3 ⟨rfl, h3⟩
  rw [t1] at h3
  have H3 := Lib.hid h3
  clear h3
  go_wp2_with fail
  refine (learn_x w w3 f xB 2 300 H3.out xB_ok (by decide) (by decide) 2 6 2 (by decide) rfl (by decide) (by decide) (by decide)).mono ?_
  rintro e w4 ⟨rfl, L, hl, h4⟩
  obtain rfl := l2 hl
  have H4 := Lib.hid h4
  clear h4 hl
  go_wp2_with fail
  refine (learn_x w w4 f xC 2 300 H4.out xC_ok (by decide) (by decide) 3 7 3 (by decide) rfl (by decide) (by decide) (by decide)).mono ?_
  rintro e w5 ⟨rfl, L, hl, h5⟩
  obtain rfl := l3 hl
  have H5 := Lib.hid h5
  clear h5 hl
  go_wp2_with fail
  refine (find_x w w5 f xD 2 300 H5.out 1 (by decide)).mono ?_
  rintro e w6 ⟨hf, h6⟩
  obtain rfl : e = .returned (.tuple #[.int .i64 (-1), .bool false]) := by
    rcases hf with ⟨e0, he, hk, _⟩ | ⟨_, h⟩
    · exfalso
      simp only [xD, List.mem_cons, List.not_mem_nil, or_false] at he
      rcases he with rfl | rfl <;> simp at hk
    · exact h
  have H6 := Lib.hid h6
  clear h6 hf
  go_wp2_with fail
  refine (find_x w w6 f xD 2 300 H6.out 2 (by decide)).mono ?_
  rintro e w7 ⟨hf, h7⟩
  obtain rfl : e = .returned (.tuple #[.int .i64 6, .bool true]) := by
    rcases hf with ⟨e0, he, hk, h⟩ | ⟨h, _⟩
    · simp only [xD, List.mem_cons, List.not_mem_nil, or_false] at he
      rcases he with rfl | rfl
      · exact h
      · simp at hk
    · exact absurd (show (2 : Int) % 281474976710656 ∈ xD.map Prod.fst by decide) h
  have H7 := Lib.hid h7
  clear h7 hf
  go_wp2_with fail
  refine (all_x w w7 f xD 2 300 H7.out xD_ok (by decide)).mono ?_
  rintro e w8 ⟨a, cap, rfl, _, _, h8⟩
  have H8 := Lib.hid h8
  clear h8
  go_wp2_with fail
  go_ret
  exact ⟨rfl, H8.out.ext⟩

end Go.Proofs.Ytheackckmhbodaa
