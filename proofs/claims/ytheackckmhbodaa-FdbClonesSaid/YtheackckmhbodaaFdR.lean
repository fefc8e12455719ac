/- The walk of FdbBound. No statement is proved here. -/
import Derived.Test.YtheackckmhbodaaFdQ
import Derived.Test.YtheackckmhbodaaBoxO
namespace Go.Proofs.Ytheackckmhbodaa
open Go.RowKit Go.BigFrame Go.WideShapes Go.ChangeShapes Go.Deep
set_option linter.unusedVariables false
set_option linter.unusedSimpArgs false

def AZ : Array Value := #[.int .i64 0, .int .u64 0, .int .i64 0, .int .i64 0]
theorem zero_act : ∀ w, (zeroValue 32).run Try.prog w = .ok (.agg AZ) w := (zero_of_info (P := Try.prog) (t := 32) (v := .agg AZ) (n := 4) (by kernel_rfl)).1
theorem size_act : (Try.prog.info? 32).map (·.size) = some 4 := by kernel_rfl
theorem learned_len {most age m port : Int} {L M : List En} (hL : Ok age L) (hn : (L.length : Int) ≤ most) (h1 : 1 ≤ most) (h : LearnedP most age m port L M) : (M.length : Int) ≤ most := by
  rcases h with ⟨hc, rfl⟩ | ⟨hc, hm, e0, he0, _, rfl⟩
  · rw [ins_len hL.1]
    split
    · exact hn
    · rcases hc with hc | hc
      · exact absurd hc (by assumption)
      · omega
  · have h2 := upd_len hL.1 he0 rfl
    rw [ins_len (L := upd e0.1 0 L) (fm_rises (setSec_keeps _ _) hL.1)]
    split
    · omega
    · omega
theorem learned_ok {most age m port : Int} {L M : List En} (hL : Ok age L) (ha : 1 ≤ age) (hm : 0 < m ∧ m < 281474976710656) (hp : 0 ≤ port ∧ port < 9223372036854775808) (h : LearnedP most age m port L M) : Ok age M := by
  rcases h with ⟨_, rfl⟩ | ⟨_, _, e0, he0, _, rfl⟩
  · exact hL.ins ⟨hm, hp, ha, Int.le_refl _⟩
  · refine Ok.ins ?_ ⟨hm, hp, ha, Int.le_refl _⟩
    refine ⟨fm_rises (setSec_keeps _ _) hL.1, fun e' he' => ?_⟩
    obtain ⟨e, he, q1, q2, q3⟩ := upd_mem he'
    rcases q3 with ⟨_, h0, _⟩ | ⟨_, rfl⟩
    · omega
    · exact hL.2 _ he
theorem learned_mem {most age m port : Int} {L M : List En} (hL : Ok age L) (h : LearnedP most age m port L M) : (m, port, age) ∈ M := by
  rcases h with ⟨_, rfl⟩ | ⟨_, _, e0, he0, _, rfl⟩
  · exact (ins_mem hL.1).2 (.inl rfl)
  · exact (ins_mem (L := upd e0.1 0 L) (fm_rises (setSec_keeps _ _) hL.1)).2 (.inl rfl)

/-- Learning, with boxes of the law's own beside: what came behind the database's world wr is kept. -/
theorem learn_b (w0 wr w : World) (f : Nat) (L : List En) (most age : Int) (h : Fx w0 wr f L most age) (hx : Ext wr w) (hL : Ok age L) (ha : 1 ≤ age ∧ age ≤ 1000000) (hlen : 1 ≤ most ∧ most ≤ 4096 ∧ (L.length : Int) ≤ most) (x port m : Int) (hx0 : 0 ≤ x ∧ x < 18446744073709551616) (hm : x % 281474976710656 = m) (hport : 0 ≤ port ∧ port < 9223372036854775808)
    (h0 : m ≠ 0) (h1 : ¬ m / 1099511627776 % 2 = 1) : Calls Try.prog 12 #[.pointer (some ⟨f, 0, none⟩), .int .u64 x, .int .i64 port] w fun e w' => e = .returned (.bool true) ∧ ∃ L', LearnedP most age m port L L' ∧ Fx w0 w' f L' most age ∧ w.heap.size ≤ w'.heap.size ∧ ∀ k, wr.heap.size ≤ k → k < w.heap.size → w'.heap[k]? = w.heap[k]? := by
  obtain ⟨⟨F, hb, hF⟩, hE⟩ := h
  have hlt : ∀ k, F k → k < wr.heap.size := by obtain ⟨_, _, _, _, _, h3⟩ := hb; exact h3
  have hE2 := hE.trans hx
  refine (learn_good w F f L most age (hb.ext hx) hL ha hlen x port m hx0 hm hport h0 h1).mono ?_
  rintro e w' ⟨he, L', h2, h3, h4⟩
  exact ⟨he, L', h2, ⟨⟨_, h3, fun k hk => by rcases hk with hk | hk; exact hF k hk; exact Nat.le_trans hE2.size hk.1⟩, ext_mut hE2 h4 (fun n hn hc => by have := hF n hc; omega)⟩, h4.size, fun k hk1 hk2 => h4.heap hk2 (fun hc => by have := hlt k hc; omega)⟩
theorem find_b (w0 w : World) (f : Nat) (L : List En) (most age : Int) (h : Fx w0 w f L most age) (x : Int) (hx0 : 0 ≤ x ∧ x < 18446744073709551616) : Calls Try.prog 14 #[.pointer (some ⟨f, 0, none⟩), .int .u64 x] w fun e w' => ((∃ e0 ∈ L, e0.1 = x % 281474976710656 ∧ e = .returned (.tuple #[.int .i64 e0.2.1, .bool true])) ∨ (x % 281474976710656 ∉ L.map Prod.fst ∧ e = .returned (.tuple #[.int .i64 (-1), .bool false]))) ∧ Fx w0 w' f L most age ∧ Ext w w' := by
  have hh := h
  obtain ⟨⟨F, hb, hF⟩, hx⟩ := h
  refine (find_any w F f L most age hb x hx0).mono ?_
  rintro e w' ⟨he, hxx⟩
  exact ⟨he, hh.grow hxx, hxx⟩
theorem fm_len {st : En → Option En} : ∀ L : List En, (L.filterMap st).length ≤ L.length := fun L => List.length_filterMap_le _ _

end Go.Proofs.Ytheackckmhbodaa
