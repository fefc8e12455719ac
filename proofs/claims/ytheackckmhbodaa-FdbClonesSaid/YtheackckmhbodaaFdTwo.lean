/- Two databases of the law's own. No statement is proved here. -/
import Derived.Test.YtheackckmhbodaaFdZ
namespace Go.Proofs.Ytheackckmhbodaa
open Go.RowKit Go.BigFrame Go.WideShapes Go.ChangeShapes Go.Deep
set_option linter.unusedVariables false
set_option linter.unusedSimpArgs false

def Fx2 (w0 w : World) (f g : Nat) (L M : List En) (most age : Int) : Prop :=
  (∃ F G, Fb w F f L most age ∧ Fb w G g M most age ∧ (∀ k, F k → ¬ G k) ∧ (∀ k, F k → w0.heap.size ≤ k) ∧ ∀ k, G k → w0.heap.size ≤ k) ∧ Ext w0 w
theorem Fx2.swap {w0 w : World} {f g : Nat} {L M : List En} {most age : Int} (h : Fx2 w0 w f g L M most age) : Fx2 w0 w g f M L most age := by
  obtain ⟨⟨F, G, h1, h2, h3, h4, h5⟩, h6⟩ := h
  exact ⟨⟨G, F, h2, h1, fun k hg hf => h3 k hf hg, h5, h4⟩, h6⟩
theorem Fx2.ext {w0 w : World} {f g : Nat} {L M : List En} {most age : Int} (h : Fx2 w0 w f g L M most age) : Ext w0 w := h.2
theorem Fx2.grow {w0 w w' : World} {f g : Nat} {L M : List En} {most age : Int} (h : Fx2 w0 w f g L M most age) (hx : Ext w w') : Fx2 w0 w' f g L M most age := by
  obtain ⟨⟨F, G, h1, h2, h3, h4, h5⟩, h6⟩ := h
  exact ⟨⟨F, G, h1.ext hx, h2.ext hx, h3, h4, h5⟩, h6.trans hx⟩
theorem new_2 (w0 w : World) (f : Nat) (most age : Int) (L : List En) (h : Fx w0 w f L most age) (ha : (1 ≤ most ∧ most ≤ 4096) ∧ 1 ≤ age ∧ age ≤ 1000000) : Calls Try.prog 11 #[.int .i64 most, .int .i64 age] w fun e w' => ∃ g, e = .returned (.pointer (some ⟨g, 0, none⟩)) ∧ Fx2 w0 w' f g L [] most age := by
  obtain ⟨⟨F, h1, h2⟩, h3⟩ := h
  have hlt : ∀ k, F k → k < w.heap.size := by obtain ⟨_, _, _, _, _, h⟩ := h1; exact h
  refine (new_good w most age ha).mono ?_
  rintro e w' ⟨g, he, hx, _, hb⟩
  exact ⟨g, he, ⟨F, _, h1.ext hx, hb, fun k hk hg => by have := hlt k hk; have := hg.1; omega, h2, fun k hk => Nat.le_trans h3.size hk.1⟩, h3.trans hx⟩
theorem learn_2 (w0 w : World) (f g : Nat) (L M : List En) (most age : Int) (h : Fx2 w0 w f g L M most age) (hL : Ok age L) (ha : 1 ≤ age ∧ age ≤ 1000000) (hlen : 1 ≤ most ∧ most ≤ 4096 ∧ (L.length : Int) ≤ most) (x port m : Int) (hx0 : 0 ≤ x ∧ x < 18446744073709551616) (hm : x % 281474976710656 = m) (hport : 0 ≤ port ∧ port < 9223372036854775808)
    (h0 : m ≠ 0) (h1 : ¬ m / 1099511627776 % 2 = 1) : Calls Try.prog 12 #[.pointer (some ⟨f, 0, none⟩), .int .u64 x, .int .i64 port] w fun e w' => e = .returned (.bool true) ∧ ∃ L', LearnedP most age m port L L' ∧ Fx2 w0 w' f g L' M most age := by
  obtain ⟨⟨F, G, b1, b2, b3, b4, b5⟩, hx⟩ := h
  have hlt : ∀ k, G k → k < w.heap.size := by obtain ⟨_, _, _, _, _, h⟩ := b2; exact h
  refine (learn_good w F f L most age b1 hL ha hlen x port m hx0 hm hport h0 h1).mono ?_
  rintro e w' ⟨he, L', h2, h3, h4⟩
  refine ⟨he, L', h2, ⟨_, G, h3, b2.apart h4 (fun k hg hf => b3 k hf hg), fun k hk hg => ?_, fun k hk => by rcases hk with hk | hk; exact b4 k hk; exact Nat.le_trans hx.size hk.1, b5⟩, ext_mut hx h4 (fun n hn hc => by have := b4 n hc; omega)⟩
  rcases hk with hk | hk
  · exact b3 k hk hg
  · have := hlt k hg; have := hk.1; omega
theorem tick_2 (w0 w : World) (f g : Nat) (L M : List En) (most age : Int) (h : Fx2 w0 w f g L M most age) (hL : Ok age L) (ha : age ≤ 1000000) : Calls Try.prog 16 #[.pointer (some ⟨f, 0, none⟩)] w fun e w' => e = .returned (.tuple #[]) ∧ Fx2 w0 w' f g (L.filterMap tickE) M most age := by
  obtain ⟨⟨F, G, ⟨b, D, gb, h1, h2, h3⟩, b2, b3, b4, b5⟩, hx⟩ := h
  refine (tick_any w F f b L.length D L gb most age h1 hL ha h2 h3).mono ?_
  rintro e w' ⟨he, hd⟩
  obtain ⟨q1, q2⟩ := hd.fb (tick_ok hL) h3
  exact ⟨he, ⟨F, G, q1, b2.apart q2 (fun k hg hf => b3 k hf hg), b3, b4, b5⟩, ext_mut hx q2 (fun n hn hc => by have := b4 n hc; omega)⟩
theorem short_2 (w0 w : World) (f g : Nat) (L M : List En) (most age : Int) (h : Fx2 w0 w f g L M most age) (hL : Ok age L) (ha : 0 ≤ age ∧ age ≤ 1000000) (hlen : L.length ≤ 4096) (port sec : Int) : Calls Try.prog 20 #[.pointer (some ⟨f, 0, none⟩), .int .i64 port, .int .i64 sec] w fun e w' => e = .returned (.int .i64 (cntP port (fun _ => false) L)) ∧ Fx2 w0 w' f g (shorts port sec L) M most age := by
  obtain ⟨⟨F, G, ⟨b, D, gb, h1, h2, h3⟩, b2, b3, b4, b5⟩, hx⟩ := h
  refine (short_any w F f b L.length D L gb most age h1 hL ha h2 h3 port sec hlen).mono ?_
  rintro e w' ⟨he, hd⟩
  obtain ⟨q1, q2⟩ := hd.fb (short_ok hL port sec) h3
  exact ⟨he, ⟨F, G, q1, b2.apart q2 (fun k hg hf => b3 k hf hg), b3, b4, b5⟩, ext_mut hx q2 (fun n hn hc => by have := b4 n hc; omega)⟩
theorem find_2 (w0 w : World) (f g : Nat) (L M : List En) (most age : Int) (h : Fx2 w0 w f g L M most age) (x : Int) (hx0 : 0 ≤ x ∧ x < 18446744073709551616) : Calls Try.prog 14 #[.pointer (some ⟨f, 0, none⟩), .int .u64 x] w fun e w' => ((∃ e0 ∈ L, e0.1 = x % 281474976710656 ∧ e = .returned (.tuple #[.int .i64 e0.2.1, .bool true])) ∨ (x % 281474976710656 ∉ L.map Prod.fst ∧ e = .returned (.tuple #[.int .i64 (-1), .bool false]))) ∧ Fx2 w0 w' f g L M most age := by
  have hh := h
  obtain ⟨⟨F, G, b1, _⟩, _⟩ := h
  refine (find_any w F f L most age b1 x hx0).mono ?_
  rintro e w' ⟨he, hxx⟩
  exact ⟨he, hh.grow hxx⟩
theorem all_2 (w0 w : World) (f g : Nat) (L M : List En) (most age : Int) (h : Fx2 w0 w f g L M most age) (hL : Ok age L) (h12 : L.length ≤ 12) : Calls Try.prog 22 #[.pointer (some ⟨f, 0, none⟩)] w fun e w' => ∃ a cap, e = .returned (.slice a L.length cap) ∧ Fx2 w0 w' f g L M most age := by
  have hh := h
  obtain ⟨⟨F, G, b1, _⟩, _⟩ := h
  refine (all_any w F f L most age b1 hL h12).mono ?_
  rintro e w' ⟨v, he, hxx, hown⟩
  obtain ⟨a, cap, rfl⟩ := own_form hown
  exact ⟨a, cap, he, hh.grow hxx⟩
/-- One station, that lives for s seconds yet. -/
def ln (m p s : Int) : List En := if 0 < s then [(m, p, s)] else []
theorem ln_tick (m p s : Int) : (ln m p s).filterMap tickE = ln m p (s - 1) := by
  unfold ln
  by_cases h : 0 < s
  · rw [if_pos h]
    by_cases h1 : 0 < s - 1
    · rw [if_pos h1]
      simp [tickE, setSec, show ¬ s - 1 ≤ 0 by omega]
    · rw [if_neg h1]
      simp [tickE, setSec, show s - 1 ≤ 0 by omega]
  · rw [if_neg h, if_neg (by omega)]
    rfl
theorem ln_short (m p s q : Int) : shorts p q (ln m p s) = ln m p (min s q) := by
  unfold ln shorts
  by_cases h : 0 < s
  · rw [if_pos h]
    by_cases h1 : 0 < min s q
    · rw [if_pos h1]
      simp [shortE, setSec, show ¬ min s q ≤ 0 by omega]
    · rw [if_neg h1]
      simp [shortE, setSec, show min s q ≤ 0 by omega]
  · rw [if_neg h, if_neg (by omega)]
    rfl
theorem ln_ok {m p s age : Int} (hm : 0 < m ∧ m < 281474976710656) (hp : 0 ≤ p ∧ p < 9223372036854775808) (hs : s ≤ age) : Ok age (ln m p s) := by
  unfold ln
  split
  · exact ⟨List.pairwise_singleton _ _, fun e he => by simp at he; subst he; exact ⟨hm, hp, by dsimp only; omega, hs⟩⟩
  · exact ⟨List.Pairwise.nil, fun e he => by cases he⟩
theorem ln_len (m p s : Int) : (ln m p s).length ≤ 1 := by unfold ln; split <;> simp
theorem ln_find {m p s x : Int} {e : Ending} (hx : x = m) (h : (∃ e0 ∈ ln m p s, e0.1 = x ∧ e = .returned (.tuple #[.int .i64 e0.2.1, .bool true])) ∨ (x ∉ (ln m p s).map Prod.fst ∧ e = .returned (.tuple #[.int .i64 (-1), .bool false]))) :
    e = .returned (.tuple #[.int .i64 (if 0 < s then p else -1), .bool (decide (0 < s))]) := by
  unfold ln at h
  by_cases hs : 0 < s
  · rw [if_pos hs] at h ⊢
    rw [decide_eq_true hs]
    rcases h with ⟨e0, he, _, h⟩ | ⟨hn, _⟩
    · simp at he; subst he; exact h
    · exact absurd (by simp [hx]) hn
  · rw [if_neg hs] at h ⊢
    rw [decide_eq_false hs]
    rcases h with ⟨e0, he, _, _⟩ | ⟨_, h⟩
    · cases he
    · exact h

end Go.Proofs.Ytheackckmhbodaa
