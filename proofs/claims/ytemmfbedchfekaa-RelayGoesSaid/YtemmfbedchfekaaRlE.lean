/- A bridge of its own put into a box. No statement is proved here. -/
import Derived.Test.YtemmfbedchfekaaRlD
import Derived.Test.YtemmfbedchfekaaBrLp
namespace Go.Proofs.Ytemmfbedchfekaa
open Go.RowKit Go.BigFrame Go.WideShapes Go.ChangeShapes Go.Deep
set_option linter.unusedVariables false
set_option linter.unusedSimpArgs false
set_option maxRecDepth 100000

theorem brg_box {w w' : World} {N : Nat} {c : Array Value} {B : Br} {X : Nat} (h : OwnC w N c B) (hp : 0 < B.np) (hx : Ext w w') (hX : w'.heap[X]? = some (.cells c 33 (0, 0))) (hXn : N ≤ X) :
    ∃ g, BrG w' (fun k => N ≤ k ∧ k < w'.heap.size) X g B := by
  obtain ⟨s1, s2, s3, rfl, ⟨hl, h1⟩, h2, h3⟩ := h
  rcases h1 with ⟨_, h0⟩ | ⟨g, cap, cur, rfl, hb, hg, hn, hm, hs, ht⟩
  · omega
  · have keep : ∀ {e : TypeId} {m n : Nat} {v : Value} {xs : List Value}, w.ownsRow N e m v n xs → w'.ownsRow 0 e m v n xs ∧ ∀ h, v.ownBlock = some h → (N ≤ h ∧ h < w'.heap.size) := by
      intro e m n v xs h
      refine ⟨owns_base (owns_ext h hx) (Nat.zero_le _), fun b hb => ?_⟩
      have := h.lt b hb
      exact ⟨this.1, Nat.lt_of_lt_of_le this.2 hx.size⟩
    obtain ⟨p, r⟩ := keep h2
    obtain ⟨q, s⟩ := keep h3
    exact ⟨g, ⟨hXn, heap_lt hX⟩, ⟨hb, Nat.lt_of_lt_of_le (heap_lt hg) hx.size⟩, cap, cur, s2, s3, hX, (hx.block g (heap_lt hg)).trans hg, hs, hn, hm, ht, p, q, r, s⟩
theorem full_row {c : Array Value} (h : c.size = 20) : (BZ.toList.take 0 ++ c.toList ++ BZ.toList.drop (0 + c.size)).toArray = c := by
  rw [h, show BZ.toList.drop (0 + 20) = [] from rfl]
  simp
theorem lt89' {k N j : Nat} (hk : k < N) (hj : j < 89) : k * 89 + j < N * 89 := by omega
/-- What BrG gives a reader. -/
theorem BrG.brk {w : World} {G F : Nat → Prop} {X g : Nat} {B : Br} (h : BrG w G X g B) (hp : 0 < B.np) (hd : ∀ k, G k → ¬ F k) : ∃ C, w.heap[X]? = some (.cells C 33 (0, 0)) ∧ BrK w F C B ∧ C.size = B.hd.length + 3 := by
  obtain ⟨C, h1, h2, h3⟩ := h.br hp
  refine ⟨C, h1, fun w' hs hk => ?_, h3⟩
  obtain ⟨C', h4, h5, _⟩ := (h.keep (w' := w') (fun k hG hl => hk k hl (hd k hG))).br hp
  have : some (Obj.cells C 33 (0, 0)) = some (Obj.cells C' 33 (0, 0)) := by rw [← h1, ← h4, hk X (heap_lt h1) (hd X h.1)]
  injection this with this
  injection this with this
  rw [this]; exact h5
/-! ### Two frames through ports that all forward -/
def oth (N a : Nat) : List Int := ((List.range N).filter (fun i => decide (i ≠ a))).map Int.ofNat
theorem others_open (N a : Nat) : othersL (openBr N) a N = oth N a := by
  unfold othersL oth
  congr 1
  refine List.filter_congr (fun i hi => ?_)
  obtain ⟨h2, h27, _⟩ := openBr_gb N i (List.mem_range.1 hi)
  unfold goes fwB
  rw [h2, h27]
  by_cases h : i = a
  · subst h; simp
  · have : ¬ (i : Int) = (a : Int) := by omega
    simp [h, this]
theorem oth_len : ∀ N, N ≤ 8 → ∀ a, a < N → (oth N a).length = N - 1 := by decide +kernel
theorem oth_one : ∀ N, N ≤ 8 → ∀ a, a < N → ∀ b, b < N → (oth N b).filter (fun i => decide (i = (a : Int))) = if a = b then [] else [(a : Int)] := by decide +kernel
theorem outL_no {N a : Nat} (hN : N ≤ 8) (ha : a < N) (p : Int) : (outL (openBr N) a p false N).length = N - 1 := by
  unfold outL
  rw [others_open]
  have : (oth N a).filter (fun i => !false || decide (i = p)) = oth N a := List.filter_eq_self.2 (fun i _ => rfl)
  rw [this]
  exact oth_len N hN a ha
theorem outL_yes {N a b : Nat} (hN : N ≤ 8) (ha : a < N) (hb : b < N) : outL (openBr N) b a true N = if a = b then [] else [(a : Int)] := by
  unfold outL
  rw [others_open]
  exact oth_one N hN a ha b hb
theorem goes_open {N : Nat} {most age : Int} {L L' : List En} {a : Nat} (ha : a < N) {src dst : Int} {xs : List Int} (h : GoesP (openBr N) most age L a src dst L' xs) (hr : resB dst = false) :
    ((okM src ∧ LearnedP most age (src % 281474976710656) a L L') ∨ (¬ okM src ∧ L' = L)) ∧ ∃ p kn, OneP L' dst p kn ∧ xs = outL (openBr N) a p kn N := by
  obtain ⟨h2, h27, h29⟩ := openBr_gb N a ha
  rcases h with ⟨h, _⟩ | ⟨_, h1, h3⟩
  · exfalso
    rw [Int.toNat_natCast, h2] at h
    rcases h with h | h | h | h
    · omega
    · have : ((openBr N).np : Int) = (N : Int) := rfl
      omega
    · cases h
    · rw [hr] at h; cases h
  · rw [Int.toNat_natCast, h27] at h3
    rw [Int.toNat_natCast, h29] at h1
    refine ⟨?_, ?_⟩
    · rcases h1 with ⟨⟨_, h⟩, hl⟩ | ⟨h, hl⟩
      · exact .inl ⟨h, hl⟩
      · exact .inr ⟨fun hc => h ⟨rfl, hc⟩, hl⟩
    · rcases h3 with ⟨_, h⟩ | ⟨h, _⟩
      · exact h
      · cases h
theorem learns_math {N a b : Nat} (hN : N ≤ 8) (ha : a < N) (hb : b < N) {src dst : Int} {L1 L2 : List En} {xs1 xs2 : List Int} (h1 : GoesP (openBr N) 20 300 [] a src dst L1 xs1) (h2 : GoesP (openBr N) 20 300 L1 b dst src L2 xs2) (hs : resB src = false) (hd : resB dst = false) :
    (xs1.length = N - 1 ∨ (src % 281474976710656 = dst % 281474976710656 ∧ src % 281474976710656 ≠ 0 ∧ ¬ src / 1099511627776 % 2 = 1)) ∧
    ((src % 281474976710656 = 0 ∨ src / 1099511627776 % 2 = 1) → xs2.length = N - 1) ∧
    (¬ (src % 281474976710656 = 0 ∨ src / 1099511627776 % 2 = 1) → (a = b ∨ src % 281474976710656 = dst % 281474976710656) → xs2.length = 0) ∧
    (¬ (src % 281474976710656 = 0 ∨ src / 1099511627776 % 2 = 1) → ¬ (a = b ∨ src % 281474976710656 = dst % 281474976710656) → xs2 = [(a : Int)]) := by
  obtain ⟨hl1, p1, k1, ho1, rfl⟩ := goes_open ha h1 hd
  obtain ⟨hl2, p2, k2, ho2, rfl⟩ := goes_open hb h2 hs
  obtain ⟨s, hsm⟩ : ∃ s, src % 281474976710656 = s := ⟨_, rfl⟩
  obtain ⟨d, hdm⟩ : ∃ d, dst % 281474976710656 = d := ⟨_, rfl⟩
  have hgs : src / 1099511627776 % 2 = s / 1099511627776 % 2 := by omega
  have hgd : dst / 1099511627776 % 2 = d / 1099511627776 % 2 := by omega
  unfold okM at hl1 hl2
  unfold OneP at ho1 ho2
  rw [hsm] at hl1 ho2 ⊢
  rw [hdm] at hl2 ho1 ⊢
  rw [hgs] at ho2 ⊢
  rw [hgd] at ho1
  -- what is known behind the first frame
  have hL1 : (s ≠ 0 ∧ ¬ s / 1099511627776 % 2 = 1 ∧ L1 = [(s, (a : Int), 300)]) ∨ (¬ (s ≠ 0 ∧ ¬ s / 1099511627776 % 2 = 1) ∧ L1 = []) := by
    rcases hl1 with ⟨h, hl⟩ | ⟨h, rfl⟩
    · refine .inl ⟨h.1, h.2, ?_⟩
      rcases hl with ⟨_, rfl⟩ | ⟨_, h, _⟩
      · rfl
      · simp at h
    · exact .inr ⟨h, rfl⟩
  have hL2 : (d ≠ 0 ∧ ¬ d / 1099511627776 % 2 = 1 ∧ L2 = ins (d, (b : Int), 300) L1) ∨ (¬ (d ≠ 0 ∧ ¬ d / 1099511627776 % 2 = 1) ∧ L2 = L1) := by
    have hlen : L1.length ≤ 1 := by rcases hL1 with ⟨_, _, rfl⟩ | ⟨_, rfl⟩ <;> simp
    rcases hl2 with ⟨h, hl⟩ | ⟨h, rfl⟩
    · refine .inl ⟨h.1, h.2, ?_⟩
      rcases hl with ⟨_, rfl⟩ | ⟨_, h, _⟩
      · rfl
      · omega
    · exact .inr ⟨h, rfl⟩
  clear hl1 hl2 h1 h2
  have P1 : L1.Pairwise (fun x y => x.1 < y.1) := by rcases hL1 with ⟨_, _, rfl⟩ | ⟨_, rfl⟩ <;> simp
  refine ⟨?_, fun hz => ?_, fun hz hab => ?_, fun hz hab => ?_⟩
  · by_cases hg : d / 1099511627776 % 2 = 1
    · rw [if_pos hg] at ho1
      subst ho1
      exact .inl (outL_no hN ha p1)
    · rw [if_neg hg] at ho1
      rcases ho1 with ⟨e0, he, hk, rfl, rfl⟩ | ⟨_, rfl⟩
      · rcases hL1 with ⟨q1, q2, rfl⟩ | ⟨_, rfl⟩
        · rw [List.mem_singleton] at he
          subst he
          exact .inr ⟨hk, q1, q2⟩
        · cases he
      · exact .inl (outL_no hN ha p1)
  · have hk2 : k2 = false := by
      by_cases hg : s / 1099511627776 % 2 = 1
      · rw [if_pos hg] at ho2; exact ho2
      · rw [if_neg hg] at ho2
        rcases ho2 with ⟨e0, he, hk, _⟩ | ⟨_, h⟩
        · exfalso
          have hs0 : s = 0 := by rcases hz with h | h; exact h; exact absurd h hg
          rcases hL1 with ⟨q1, _⟩ | ⟨_, rfl⟩
          · exact q1 hs0
          · rcases hL2 with ⟨q1, _, rfl⟩ | ⟨_, rfl⟩
            · rcases (ins_mem P1).1 he with rfl | ⟨h, _⟩
              · exact q1 (by dsimp only at hk; omega)
              · cases h
            · cases he
        · exact h
    subst hk2
    exact outL_no hN hb p2
  all_goals
    rw [if_neg (fun h => hz (.inr h))] at ho2
    obtain ⟨q1, q2, rfl⟩ : s ≠ 0 ∧ ¬ s / 1099511627776 % 2 = 1 ∧ L1 = [(s, (a : Int), 300)] := by
      rcases hL1 with h | ⟨h, _⟩
      · exact h
      · exact absurd ⟨fun h => hz (.inl h), fun h => hz (.inr h)⟩ h
    have hmem : (∃ e0 ∈ L2, e0.1 = s ∧ k2 = true ∧ p2 = e0.2.1) := by
      rcases ho2 with h | ⟨h, _⟩
      · exact h
      · exfalso
        refine h ?_
        rcases hL2 with ⟨_, _, rfl⟩ | ⟨_, rfl⟩
        · exact (ins_keys P1 s).2 (.inr (by simp))
        · simp
    obtain ⟨e0, he, hk, rfl, rfl⟩ := hmem
  · have hp : e0.2.1 = (b : Int) := by
      rcases hL2 with ⟨r1, r2, rfl⟩ | ⟨hn, rfl⟩
      · rcases (ins_mem P1).1 he with rfl | ⟨h, hne⟩
        · rfl
        · rw [List.mem_singleton] at h
          subst h
          rcases hab with rfl | h
          · rfl
          · exact absurd h hne
      · rw [List.mem_singleton] at he
        subst he
        rcases hab with rfl | h
        · rfl
        · exact absurd ⟨by rw [← h]; exact q1, by rw [← h]; exact q2⟩ hn
    rw [hp, outL_yes hN hb hb, if_pos rfl]
    rfl
  · have hp : e0.2.1 = (a : Int) := by
      rcases hL2 with ⟨r1, r2, rfl⟩ | ⟨hn, rfl⟩
      · rcases (ins_mem P1).1 he with rfl | ⟨h, hne⟩
        · exact absurd (.inr hk.symm) hab
        · rw [List.mem_singleton] at h
          subst h
          rfl
      · rw [List.mem_singleton] at he
        subst he
        rfl
    rw [hp, outL_yes hN ha hb, if_neg (fun h => hab (.inl h))]

end Go.Proofs.Ytemmfbedchfekaa
