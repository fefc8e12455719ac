/- Clocks that run down: what many ticks leave: plain facts. No statement is proved here. -/
import Derived.Test.YtnblchilgaimhaaClkT
import Derived.Test.YtnblchilgaimhaaClkB
import Derived.Test.YtnblchilgaimhaaBrO
import Derived.Test.YtnblchilgaimhaaBoxB
namespace Go.Proofs.Ytnblchilgaimhaa
open Go.RowKit Go.BigFrame Go.WideShapes Go.ChangeShapes Go.Deep
set_option linter.unusedVariables false
set_option linter.unusedSimpArgs false

theorem r_gi_congr {A B : Br} {k j : Nat} (h : A.ps[k * 89 + j]? = B.ps[k * 89 + j]?) : A.gi k j = B.gi k j := by unfold Br.gi; rw [h]
theorem tickN_at {B : Br} (ho : B.ok) : ∀ n, n ≤ B.np → ∀ k j, k < B.np → j < 89 → (tickN B n).ps[k * 89 + j]? = if k < n ∧ 6 ≤ j ∧ j < 15 then some (.int .i64 (dwn (B.gi k j))) else B.ps[k * 89 + j]?
  | 0, _, k, j, _, _ => by
    rw [if_neg (by omega)]
    rfl
  | n + 1, hn, k, j, hk, hj => by
    have ih := tickN_at ho n (by omega)
    have okn := tickN_ok ho n (by omega)
    have hnn : n < (tickN B n).np := by rw [tickN_np]; omega
    show (tickP (tickN B n) n 9).ps[k * 89 + j]? = _
    rw [tickP_at okn hnn 9 (Nat.le_refl _)]
    by_cases e : k = n
    · subst e
      have hg : (tickN B k).gi k j = B.gi k j := r_gi_congr (by rw [ih k j hk hj, if_neg (by omega)])
      by_cases h : 6 ≤ j ∧ j < 15
      · rw [if_pos (by omega), if_pos (by omega), show k * 89 + j - k * 89 = j by omega, hg]
      · rw [if_neg (by omega), if_neg (by omega), ih k j hk hj, if_neg (by omega)]
    · rw [if_neg (by omega), ih k j hk hj]
      by_cases h : k < n ∧ 6 ≤ j ∧ j < 15
      · rw [if_pos h, if_pos (by omega)]
      · rw [if_neg h, if_neg (by omega)]
theorem tickB_at {B : Br} (ho : B.ok) {k j : Nat} (hk : k < B.np) (hj : j < 89) : (tickB B).ps[k * 89 + j]? = if 6 ≤ j ∧ j < 15 then some (.int .i64 (dwn (B.gi k j))) else B.ps[k * 89 + j]? := by
  unfold tickB
  rw [tickN_at ho B.np (Nat.le_refl _) k j hk hj]
  by_cases h : 6 ≤ j ∧ j < 15
  · rw [if_pos ⟨hk, h.1, h.2⟩, if_pos h]
  · rw [if_neg (fun h2 => h ⟨h2.2.1, h2.2.2⟩), if_neg h]
/-- Behind n ticks. -/
def runB (B : Br) : Nat → Br | 0 => B | n + 1 => tickB (runB B n)
theorem runB_np (B : Br) : ∀ n, (runB B n).np = B.np | 0 => rfl | n + 1 => (tickB_np _).trans (runB_np B n)
theorem runB_hd (B : Br) : ∀ n, (runB B n).hd = B.hd | 0 => rfl | n + 1 => (tickN_hd _ _).trans (runB_hd B n)
theorem runB_ok {B : Br} (ho : B.ok) : ∀ n, (runB B n).ok | 0 => ho | n + 1 => tickB_ok (runB_ok ho n)
theorem runB_hi (B : Br) (n j : Nat) : (runB B n).hi j = B.hi j := by unfold Br.hi; rw [runB_hd]
theorem tickN_rest (B : Br) : ∀ n, (tickN B n).no = B.no ∧ (tickN B n).os = B.os ∧ (tickN B n).nf = B.nf ∧ (tickN B n).fl = B.fl
  | 0 => ⟨rfl, rfl, rfl, rfl⟩
  | n + 1 => by
    obtain ⟨a, b, c, d⟩ := tickP_rest (tickN B n) n 9
    obtain ⟨a', b', c', d'⟩ := tickN_rest B n
    exact ⟨a.trans a', b.trans b', c.trans c', d.trans d'⟩
theorem runB_rest (B : Br) : ∀ n, (runB B n).no = B.no ∧ (runB B n).os = B.os ∧ (runB B n).nf = B.nf ∧ (runB B n).fl = B.fl
  | 0 => ⟨rfl, rfl, rfl, rfl⟩
  | n + 1 => by
    obtain ⟨a, b, c, d⟩ := tickN_rest (runB B n) (runB B n).np
    obtain ⟨a', b', c', d'⟩ := runB_rest B n
    exact ⟨a.trans a', b.trans b', c.trans c', d.trans d'⟩
theorem dwn_max (c : Int) (n : Nat) : dwn (max 0 (c - n)) = max 0 (c - (n + 1 : Nat)) := by
  unfold dwn
  split <;> omega
theorem r_clk {j : Nat} (h : 6 ≤ j ∧ j < 15) : PL[j]? = some (some .i64) := by
  rcases (show j = 6 ∨ j = 7 ∨ j = 8 ∨ j = 9 ∨ j = 10 ∨ j = 11 ∨ j = 12 ∨ j = 13 ∨ j = 14 by omega) with rfl | rfl | rfl | rfl | rfl | rfl | rfl | rfl | rfl <;> rfl
theorem runB_at {B : Br} (ho : B.ok) {k : Nat} (hk : k < B.np) (hc : ∀ j, 6 ≤ j ∧ j < 15 → 0 ≤ B.gi k j) : ∀ n j, j < 89 → (runB B n).ps[k * 89 + j]? = if 6 ≤ j ∧ j < 15 then some (.int .i64 (max 0 (B.gi k j - n))) else B.ps[k * 89 + j]?
  | 0, j, hj => by
    by_cases h : 6 ≤ j ∧ j < 15
    · rw [if_pos h]
      show B.ps[k * 89 + j]? = _
      rw [ho.gi hk j (r_clk h)]
      have h2 := hc j h
      rw [show max 0 (B.gi k j - (0 : Nat)) = B.gi k j by omega]
    · rw [if_neg h]
      rfl
  | n + 1, j, hj => by
    have ih := runB_at ho hk hc n j hj
    show (tickB (runB B n)).ps[k * 89 + j]? = _
    rw [tickB_at (runB_ok ho n) (by rw [runB_np]; exact hk) hj]
    by_cases h : 6 ≤ j ∧ j < 15
    · rw [if_pos h] at ih
      rw [if_pos h, if_pos h]
      have hg : (runB B n).gi k j = max 0 (B.gi k j - n) := by unfold Br.gi; rw [ih]; rfl
      rw [hg, dwn_max]
    · rw [if_neg h] at ih
      rw [if_neg h, if_neg h]
      exact ih
theorem runB_clk {B : Br} (ho : B.ok) {k : Nat} (hk : k < B.np) (hc : ∀ j, 6 ≤ j ∧ j < 15 → 0 ≤ B.gi k j) (n : Nat) {j : Nat} (h : 6 ≤ j ∧ j < 15) : (runB B n).gi k j = max 0 (B.gi k j - n) := by
  have h2 := runB_at ho hk hc n j (by omega)
  rw [if_pos h] at h2
  unfold Br.gi
  rw [h2]
  rfl
theorem runB_else {B : Br} (ho : B.ok) {k : Nat} (hk : k < B.np) (hc : ∀ j, 6 ≤ j ∧ j < 15 → 0 ≤ B.gi k j) (n : Nat) {j : Nat} (hj : j < 89) (h : ¬ (6 ≤ j ∧ j < 15)) : (runB B n).gi k j = B.gi k j := by
  refine r_gi_congr ?_
  rw [runB_at ho hk hc n j hj, if_neg h]
theorem clk_of {B : Br} (h : RightP B) {k : Nat} (hk : k < B.np) : ∀ j, 6 ≤ j ∧ j < 15 → 0 ≤ B.gi k j := fun j hj => by
  have h2 := (h.2 k hk).1 (j - 6) (by omega)
  rw [show 6 + (j - 6) = j by omega] at h2
  exact h2.1
theorem runB_right {B : Br} (ho : B.ok) (h : RightP B) (n : Nat) : RightP (runB B n) := by
  refine ⟨?_, fun k hk => ?_⟩
  · have h1 := h.1
    unfold HdR at h1 ⊢
    simp only [runB_hi, runB_np]
    exact h1
  · rw [runB_np] at hk
    have hc := clk_of h hk
    obtain ⟨a, b, c, d⟩ := h.2 k hk
    have e : ∀ j, j < 89 → ¬ (6 ≤ j ∧ j < 15) → (runB B n).gi k j = B.gi k j := fun j hj hn => runB_else ho hk hc n hj hn
    refine ⟨fun j hj => ?_, ?_, ?_, ?_⟩
    · have h3 := a j hj
      rw [runB_clk ho hk hc n (j := 6 + j) (by omega)]
      omega
    · rw [e 78 (by decide) (by decide), e 79 (by decide) (by decide), e 80 (by decide) (by decide), e 81 (by decide) (by decide)]
      exact b
    · rw [e 82 (by decide) (by decide), e 83 (by decide) (by decide), e 84 (by decide) (by decide), e 85 (by decide) (by decide)]
      exact c
    · rw [e 64 (by decide) (by decide), e 65 (by decide) (by decide), e 66 (by decide) (by decide), e 67 (by decide) (by decide)]
      exact d
/-- A port, its clocks as they were: the port as it was. -/
theorem runB_back {B : Br} (ho : B.ok) {k : Nat} (hk : k < B.np) (hc : ∀ j, 6 ≤ j ∧ j < 15 → 0 ≤ B.gi k j) (n : Nat) : (port (runB B n).ps k).take 6 ++ (((port B.ps k).drop 6).take 9 ++ (port (runB B n).ps k).drop 15) = port B.ps k := by
  have l1 : (port (runB B n).ps k).length = 89 := by
    have h := len89 (runB_ok ho n) (k := k) (by rw [runB_np]; exact hk)
    simp [port]
    omega
  have l2 : (port B.ps k).length = 89 := by
    have h := len89 ho hk
    simp [port]
    omega
  apply List.ext_getElem?
  intro j
  by_cases hj : j < 89
  · have ha := runB_at ho hk hc n j hj
    rw [← port_at (B := runB B n) hj, ← port_at (B := B) hj] at ha
    by_cases h6 : j < 6
    · rw [if_neg (by omega)] at ha
      rw [List.getElem?_append_left (by simp [l1]; omega), List.getElem?_take, if_pos h6, ha]
    · rw [List.getElem?_append_right (by simp [l1]; omega), show ((port (runB B n).ps k).take 6).length = 6 by simp [l1]]
      by_cases h15 : j < 15
      · rw [List.getElem?_append_left (by simp [l2]; omega), List.getElem?_take, if_pos (by omega), List.getElem?_drop, show 6 + (j - 6) = j by omega]
      · rw [if_neg (by omega)] at ha
        rw [List.getElem?_append_right (by simp [l2]; omega), show (((port B.ps k).drop 6).take 9).length = 9 by simp [l2], List.getElem?_drop, show 15 + (j - 6 - 9) = j by omega, ha]
  · rw [List.getElem?_eq_none (by simp [l1, l2]; omega), List.getElem?_eq_none (by omega)]

/-- The ports of another bridge in the place of the box's own. -/
theorem BrG.swap2 {w : World} {F : Nat → Prop} {X g : Nat} {B C : Br} (h : BrG w F X g C) (ho : C.hd.length = 17) (hhd : C.hd = B.hd) (hrs : C.no = B.no ∧ C.os = B.os ∧ C.nf = B.nf ∧ C.fl = B.fl) {s1 : Value} (hr : IsRow (w.setCell ⟨X, 17, none⟩ s1) 89 s1 B.np B.ps) :
    ∃ D : Array Value, (w.setCell ⟨X, 17, none⟩ s1).heap[X]? = some (.cells D 33 (0, 0)) ∧ BrC (w.setCell ⟨X, 17, none⟩ s1) D B ∧ D.size = 20 := by
  obtain ⟨h1, h2, cap, cur, s2, s3, a, b, c, d, e, f, p, q, r, s⟩ := h
  obtain ⟨e1, e2, e3, e4⟩ := hrs
  refine ⟨_, heap_setCell_same _ _ _ _ _ _ a, ⟨s1, s2, s3, ?_, hr, ?_, ?_⟩, by simp [ho]⟩
  · rw [← hhd]
    simp only [List.setIfInBounds_toArray]
    rw [List.set_append_right _ _ (by omega), ho]
    rfl
  · rw [← e1, ← e2]
    exact own_row (own_set p a (by decide) s1)
  · rw [← e3, ← e4]
    exact own_row (own_set q a (by decide) s1)
theorem r_wrap (n : Int) (h0 : -9223372036854775808 ≤ n) (h1 : n < 9223372036854775808) : IntKind.i64.wrap n = n := by
  simp [IntKind.wrap, IntKind.bits, IntKind.signed]
  omega
/-- The row of a copied port, its clocks as they were. -/
theorem r_back_row {p q cl : List Value} (h : p.take 6 ++ (cl ++ p.drop 15) = q) (hc : cl.length = 9) : (p.toArray.toList.take 6 ++ cl.toArray.toList ++ p.toArray.toList.drop (6 + cl.toArray.size)).toArray = q.toArray := by
  rw [← h]
  simp [hc]

end Go.Proofs.Ytnblchilgaimhaa
