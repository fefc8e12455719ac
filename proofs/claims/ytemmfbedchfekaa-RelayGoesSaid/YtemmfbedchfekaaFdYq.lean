/- One database of the law's own; the example. No statement is proved here. -/
import Derived.Test.YtemmfbedchfekaaBrF
import Derived.Test.YtemmfbedchfekaaFdXq
import Derived.Test.YtemmfbedchfekaaFdHq
namespace Go.Proofs.Ytemmfbedchfekaa
open Go.RowKit Go.BigFrame Go.WideShapes Go.ChangeShapes Go.Deep
set_option linter.unusedVariables false
set_option linter.unusedSimpArgs false
set_option maxRecDepth 100000

/-- Since w0 there is nothing new but memory; the database f, new since, holds L. -/
def Fx (w0 w : World) (f : Nat) (L : List En) (most age : Int) : Prop := (∃ F, Fb w F f L most age ∧ ∀ k, F k → w0.heap.size ≤ k) ∧ Ext w0 w
theorem Fx.grow {w0 w w' : World} {f : Nat} {L : List En} {most age : Int} (h : Fx w0 w f L most age) (hx : Ext w w') : Fx w0 w' f L most age := by
  obtain ⟨⟨F, h1, h2⟩, h3⟩ := h
  exact ⟨⟨F, h1.ext hx, h2⟩, h3.trans hx⟩
theorem Fx.ext {w0 w : World} {f : Nat} {L : List En} {most age : Int} (h : Fx w0 w f L most age) : Ext w0 w := h.2
theorem fm_ok {age : Int} {L : List En} (h : Ok age L) {st : En → Option En} (hs : Keeps st) (hb : ∀ e ∈ L, ∀ e', st e = some e' → e'.2.1 = e.2.1 ∧ 1 ≤ e'.2.2 ∧ e'.2.2 ≤ age) : Ok age (L.filterMap st) :=
  ⟨fm_rises hs h.1, fun e' he' => by
    obtain ⟨e, he, hse⟩ := List.mem_filterMap.1 he'
    have h1 := h.2 e he
    have h2 := hb e he e' hse
    have h3 := hs e e' hse
    rw [h3, h2.1]
    exact ⟨h1.1, h1.2.1, h2.2⟩⟩
theorem setSec_b {e e' : En} {s : Int} (h : setSec e.1 s e = some e') : e'.2.1 = e.2.1 ∧ e'.2.2 = s ∧ 0 < s := by
  unfold setSec at h
  rw [if_pos rfl] at h
  split at h
  · cases h
  · have := Option.some.inj h
    rw [← this]
    exact ⟨rfl, rfl, by omega⟩
theorem tick_ok {age : Int} {L : List En} (h : Ok age L) : Ok age (L.filterMap tickE) := fm_ok h tickE_keeps (fun e he e' hs => by
  obtain ⟨a, b, c⟩ := setSec_b hs
  have := h.2 e he
  exact ⟨a, by omega, by omega⟩)
theorem short_ok {age : Int} {L : List En} (h : Ok age L) (port sec : Int) : Ok age (shorts port sec L) := fm_ok h (shortE_keeps port sec) (fun e he e' hs => by
  have hb := h.2 e he
  unfold shortE at hs
  split at hs
  · obtain ⟨a, b, c⟩ := setSec_b hs
    exact ⟨a, by omega, by omega⟩
  · have := Option.some.inj hs
    rw [← this]
    exact ⟨rfl, hb.2.2.1, hb.2.2.2⟩)
theorem new_x (w : World) (size age : Int) (h : (1 ≤ size ∧ size ≤ 4096) ∧ 1 ≤ age ∧ age ≤ 1000000) (w0 : World) (h0 : Ext w0 w) : Calls Try.prog 10 #[.int .i64 size, .int .i64 age] w fun e w' => ∃ f, e = .returned (.pointer (some ⟨f, 0, none⟩)) ∧ Fx w0 w' f [] size age :=
  (new_good w size age h).mono fun e w' ⟨f, he, hx, _, hb⟩ => ⟨f, he, ⟨_, hb, fun k hk => Nat.le_trans h0.size hk.1⟩, h0.trans hx⟩
theorem learn_x (w0 w : World) (f : Nat) (L : List En) (most age : Int) (h : Fx w0 w f L most age) (hL : Ok age L) (ha : 1 ≤ age ∧ age ≤ 1000000) (hlen : 1 ≤ most ∧ most ≤ 4096 ∧ (L.length : Int) ≤ most) (x port m : Int) (hx0 : 0 ≤ x ∧ x < 18446744073709551616) (hm : x % 281474976710656 = m) (hport : 0 ≤ port ∧ port < 9223372036854775808)
    (h0 : m ≠ 0) (h1 : ¬ m / 1099511627776 % 2 = 1) : Calls Try.prog 29 #[.pointer (some ⟨f, 0, none⟩), .int .u64 x, .int .i64 port] w fun e w' => e = .returned (.bool true) ∧ ∃ L', LearnedP most age m port L L' ∧ Fx w0 w' f L' most age := by
  obtain ⟨⟨F, hb, hF⟩, hx⟩ := h
  refine (learn_good w F f L most age hb hL ha hlen x port m hx0 hm hport h0 h1).mono ?_
  rintro e w' ⟨he, L', h2, h3, h4⟩
  exact ⟨he, L', h2, ⟨_, h3, fun k hk => by rcases hk with hk | hk; exact hF k hk; exact Nat.le_trans hx.size hk.1⟩, ext_mut hx h4 (fun n hn hc => by have := hF n hc; omega)⟩
theorem short_x (w0 w : World) (f : Nat) (L : List En) (most age : Int) (h : Fx w0 w f L most age) (hL : Ok age L) (ha : 0 ≤ age ∧ age ≤ 1000000) (hlen : L.length ≤ 4096) (port sec : Int) : Calls Try.prog 25 #[.pointer (some ⟨f, 0, none⟩), .int .i64 port, .int .i64 sec] w fun e w' => e = .returned (.int .i64 (cntP port (fun _ => false) L)) ∧ Fx w0 w' f (shorts port sec L) most age := by
  obtain ⟨⟨F, ⟨b, D, gb, h1, h2, h3⟩, hF⟩, hx⟩ := h
  refine (short_any w F f b L.length D L gb most age h1 hL ha h2 h3 port sec hlen).mono ?_
  rintro e w' ⟨he, hd⟩
  obtain ⟨q1, q2⟩ := hd.fb (short_ok hL port sec) h3
  exact ⟨he, ⟨F, q1, hF⟩, ext_mut hx q2 (fun n hn hc => by have := hF n hc; omega)⟩
theorem find_x (w0 w : World) (f : Nat) (L : List En) (most age : Int) (h : Fx w0 w f L most age) (x : Int) (hx0 : 0 ≤ x ∧ x < 18446744073709551616) : Calls Try.prog 22 #[.pointer (some ⟨f, 0, none⟩), .int .u64 x] w fun e w' => ((∃ e0 ∈ L, e0.1 = x % 281474976710656 ∧ e = .returned (.tuple #[.int .i64 e0.2.1, .bool true])) ∨ (x % 281474976710656 ∉ L.map Prod.fst ∧ e = .returned (.tuple #[.int .i64 (-1), .bool false]))) ∧ Fx w0 w' f L most age := by
  have hh := h
  obtain ⟨⟨F, hb, hF⟩, hx⟩ := h
  refine (find_any w F f L most age hb x hx0).mono ?_
  rintro e w' ⟨he, hxx⟩
  exact ⟨he, hh.grow hxx⟩
theorem all_x (w0 w : World) (f : Nat) (L : List En) (most age : Int) (h : Fx w0 w f L most age) (hL : Ok age L) (h12 : L.length ≤ 12) : Calls Try.prog 19 #[.pointer (some ⟨f, 0, none⟩)] w fun e w' => ∃ a cap, e = .returned (.slice a L.length cap) ∧ w'.ownsRow w.heap.size 57 3 (.slice a L.length cap) L.length (evs L) ∧ Ext w w' ∧ Fx w0 w' f L most age := by
  have hh := h
  obtain ⟨⟨F, hb, hF⟩, hx⟩ := h
  refine (all_any w F f L most age hb hL h12).mono ?_
  rintro e w' ⟨v, he, hxx, hown⟩
  obtain ⟨a, cap, rfl⟩ := own_form hown
  exact ⟨a, cap, he, hown, hxx, hh.grow hxx⟩

def xA : List En := [(1, 5, 300)]
def xB : List En := [(1, 5, 299)]
def xC : List En := [(1, 5, 299), (2, 6, 300)]
def xD : List En := [(2, 6, 300), (3, 7, 300)]
theorem xA_ok : Ok 300 xA := ⟨by decide, by decide⟩
theorem xB_ok : Ok 300 xB := ⟨by decide, by decide⟩
theorem xC_ok : Ok 300 xC := ⟨by decide, by decide⟩
theorem xD_ok : Ok 300 xD := ⟨by decide, by decide⟩
theorem nil_ok (age : Int) : Ok age [] := ⟨List.Pairwise.nil, fun e h => by cases h⟩
theorem l1 {L : List En} (h : LearnedP 2 300 1 5 [] L) : L = xA := by
  rcases h with ⟨_, rfl⟩ | ⟨_, h, _⟩
  · rfl
  · simp at h
theorem t1 : xA.filterMap tickE = xB := by decide
theorem l2 {L : List En} (h : LearnedP 2 300 2 6 xB L) : L = xC := by
  rcases h with ⟨_, rfl⟩ | ⟨_, h, _⟩
  · decide
  · simp [xB] at h
theorem l3 {L : List En} (h : LearnedP 2 300 3 7 xC L) : L = xD := by
  rcases h with ⟨h, _⟩ | ⟨_, _, e0, he, hb, rfl⟩
  · exfalso
    rcases h with h | h
    · revert h; decide
    · simp [xC] at h
  · have h1 := hb (1, 5, 299) (by decide)
    simp only [xC, List.mem_cons, List.not_mem_nil, or_false] at he
    rcases he with rfl | rfl
    · decide
    · simp at h1
end Go.Proofs.Ytemmfbedchfekaa
