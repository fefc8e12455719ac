/- What LlcTurned's walk wants of bytes. No statement is proved here. -/
import Derived.Test.YtjahjiaopegoaaaLlK
import Derived.Laws.BitsAllLaws
namespace Go.Proofs.Ytjahjiaopegoaaa
open Go.RowKit Go.BigFrame Go.WideShapes Go.ChangeShapes Go.Deep
set_option linter.unusedVariables false
set_option linter.unusedSimpArgs false

theorem xor8 (x y : Int) (h1 : 0 ≤ x ∧ x < 256) (h2 : 0 ≤ y ∧ y < 256) (h3 : y ≠ 0) : ∃ v, bits .xor .u8 x y = v ∧ 0 ≤ v ∧ v < 256 ∧ v ≠ x := by
  refine ⟨_, rfl, ?_⟩
  rw [u8_xor x y h1.1 h1.2 h2.1 h2.2]
  have hb : x.toNat ^^^ y.toNat < 2 ^ 8 := Nat.xor_lt_two_pow (by omega) (by omega)
  refine ⟨by omega, by omega, fun e => h3 ?_⟩
  have e2 : x.toNat ^^^ y.toNat = x.toNat := by omega
  have e3 := congrArg (x.toNat ^^^ ·) e2
  simp only [← Nat.xor_assoc, Nat.xor_self, Nat.zero_xor] at e3
  omega
theorem own_cell {w : World} {base : Nat} {g n cap k : Nat} {xs : List Int} (h : w.ownsRow base 5 1 (.slice (some ⟨g, 0, none⟩) n cap) n (xs.map (Value.int .u8))) (hk : k < n) : w.cell? ⟨g, k, none⟩ = some (.int .u8 (xs.getD k 0)) := by
  have hl : n = xs.length := by have := h.1; simp at this; omega
  subst hl
  rcases isBytes_own (xs := xs) h with ⟨rfl, _⟩ | ⟨b, off, c, h1, g0, g1, g2, h2, h3⟩
  · simp at hk
  · simp only [Value.slice.injEq, Option.some.injEq, Addr.mk.injEq] at h1
    obtain ⟨⟨rfl, rfl, -⟩, -, rfl⟩ := h1
    simpa using h3 k hk
theorem ints_cell {w : World} {b off n cap k : Nat} {xs : List Int} (h : IsInts w .u8 (.slice (some ⟨b, off, none⟩) n cap) xs) (hk : k < n) : w.cell? ⟨b, off + k, none⟩ = some (.int .u8 (xs.getD k 0)) := by
  rcases h with ⟨_, h | ⟨_, _, h⟩⟩ | ⟨b', off', c, h1, g0, g1, g2, h2, h3⟩
  · simp at h
  · simp at h; omega
  · simp only [Value.slice.injEq, Option.some.injEq, Addr.mk.injEq] at h1
    obtain ⟨⟨rfl, rfl, -⟩, rfl, rfl⟩ := h1
    exact h3 k hk
theorem getD_rg {xs : List Int} (h : ∀ x ∈ xs, 0 ≤ x ∧ x < 256) (k : Nat) : 0 ≤ xs.getD k 0 ∧ xs.getD k 0 < 256 := by
  by_cases hk : k < xs.length
  · rw [List.getD_eq_getElem?_getD, List.getElem?_eq_getElem hk]
    exact h _ (List.getElem_mem hk)
  · rw [List.getD_eq_getElem?_getD, List.getElem?_eq_none (by omega)]
    simp
theorem wrap13 (s : Int) (q : Mg) (hk : q.kd = 0 ∨ q.kd = 1 ∨ q.kd = 2) : (wrapL s q).getD 13 0 = ((3 + (encL q).length : Nat) : Int) := by
  have hw := wrap_parts s q hk []
  rw [List.append_nil, List.append_nil] at hw
  rw [hw]
  have hS := bts_len 6 s.toNat
  generalize bts s.toNat 6 = S at *
  match S, hS with
  | [s0, s1, s2, s3, s4, s5], _ => rfl
/-- What of a frame is wanted: letters alone. -/
structure Frm (fr : List Int) (m : Int) : Prop where
  len : fr.length = 60
  rg : ∀ x ∈ fr, 0 ≤ x ∧ x < 256
  at13 : fr.getD 13 0 = m
  m1 : 3 ≤ m
  m2 : m ≤ 46
  turned : ∀ k v, (k < 6 ∨ (14 ≤ k ∧ k < 17)) → v ≠ fr.getD k 0 → openF (fr.set k v) = (0, Mg.zero, 3)
  cut : ∀ j : Nat, (j : Int) < 14 + m → openF (fr.take j) = (0, Mg.zero, if j < 17 then 2 else 3)
theorem frm (s : Int) (q : Mg) (hk : q.kd = 0 ∨ q.kd = 1 ∨ q.kd = 2) : ∃ m, Frm (wrapL s q) m := by
  have hn := encL_le q
  exact ⟨_, wrapL_len s q hk, wrapL_bytes s q hk, wrap13 s q hk, by omega, by omega, fun k v h hv => open_turned s q hk k h v hv, fun j h => open_cut s q hk j (by omega)⟩

end Go.Proofs.Ytjahjiaopegoaaa
