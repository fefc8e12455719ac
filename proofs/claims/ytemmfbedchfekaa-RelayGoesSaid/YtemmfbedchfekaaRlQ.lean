/- Slices of frames that came in. No statement is proved here. -/
import Derived.Test.YtemmfbedchfekaaRlE
namespace Go.Proofs.Ytemmfbedchfekaa
open Go.RowKit Go.BigFrame Go.WideShapes Go.ChangeShapes Go.Deep
set_option linter.unusedVariables false
set_option linter.unusedSimpArgs false

structure Fr where
  n : Int
  s : Int
  d : Int
def Fr.L (h : Fr) : List Value := [.int .i64 h.n, .int .u64 h.s, .int .u64 h.d]
def Fr.wf (h : Fr) : Prop := (-9223372036854775808 ≤ h.n ∧ h.n < 9223372036854775808) ∧ (0 ≤ h.s ∧ h.s < 18446744073709551616) ∧ 0 ≤ h.d ∧ h.d < 18446744073709551616
def flatF (l : List Fr) : List Value := l.flatMap Fr.L
theorem flatF_cons (h : Fr) (l : List Fr) : flatF (h :: l) = h.L ++ flatF l := by simp [flatF]
theorem flatF_len : ∀ l : List Fr, (flatF l).length = l.length * 3
  | [] => rfl
  | h :: l => by
    rw [flatF_cons, List.length_append, flatF_len l, List.length_cons]
    show 3 + _ = _
    omega
theorem flatF_at : ∀ (l : List Fr) (j : Nat) (h : Fr), l[j]? = some h → ((flatF l).drop (j * 3)).take 3 = h.L
  | [], j, h, hj => by simp at hj
  | x :: l, 0, h, hj => by
    obtain rfl : x = h := by simpa using hj
    rw [flatF_cons]
    rfl
  | x :: l, j + 1, h, hj => by
    have ih := flatF_at l j h (by simpa using hj)
    have e : x.L.length = 3 := rfl
    rw [flatF_cons, List.drop_append, show x.L.drop ((j + 1) * 3) = [] from List.drop_eq_nil_of_le (by rw [e]; omega), List.nil_append, e, show (j + 1) * 3 - 3 = j * 3 by omega]
    exact ih
def FrsAt (w : World) (v : Value) (L : List Fr) : Prop := ∃ a cap, v = .slice a L.length cap ∧ L.length ≤ 9223372036854775807 ∧ (0 < L.length → ∃ b off, a = some ⟨b, off, none⟩ ∧ b < w.heap.size ∧ L.length ≤ cap ∧ cap ≤ 9223372036854775807 ∧ w.rangeAt b off (flatF L))
theorem FrsAt.ext {w w' : World} {v : Value} {L : List Fr} (h : FrsAt w v L) (hx : Ext w w') : FrsAt w' v L := by
  obtain ⟨a, cap, e, hm, hf⟩ := h
  refine ⟨a, cap, e, hm, fun h0 => ?_⟩
  obtain ⟨b, off, e1, hb, h1, h2, h3⟩ := hf h0
  exact ⟨b, off, e1, Nat.lt_of_lt_of_le hb hx.size, h1, h2, rangeAt_ext h3 hx hb⟩

theorem lay_fr : lay Try.prog 6 45 = some [some .i64, some .u64, some .u64] := by kernel_rfl
theorem frs_of : ∀ (m : Nat) (xs : List Value), RowTyped [some .i64, some .u64, some .u64] m xs → ∃ L : List Fr, L.length = m ∧ flatF L = xs ∧ ∀ h ∈ L, h.wf
  | 0, xs, h => ⟨[], rfl, by
      have := h.1
      rw [Nat.zero_mul] at this
      rw [List.length_eq_zero_iff.1 this]
      rfl, fun h hh => by cases hh⟩
  | m + 1, xs, h => by
    obtain ⟨h1, h2⟩ := h
    have e3 : ([some .i64, some .u64, some .u64] : List (Option IntKind)).length = 3 := rfl
    rw [e3] at h1 h2
    obtain ⟨L, l1, l2, l3⟩ := frs_of m (xs.drop 3) ⟨by rw [e3, List.length_drop]; omega, fun i hi => by
      rw [e3, List.drop_drop]
      have := h2 (i + 1) (by omega)
      rw [show 3 + i * 3 = (i + 1) * 3 by omega]
      exact this⟩
    have ht := h2 0 (by omega)
    rw [Nat.zero_mul, List.drop_zero] at ht
    obtain ⟨z0, c0, w0⟩ := ht.int 0 .i64 rfl
    obtain ⟨z1, c1, w1⟩ := ht.int 1 .u64 rfl
    obtain ⟨z2, c2, w2⟩ := ht.int 2 .u64 rfl
    refine ⟨⟨z0, z1, z2⟩ :: L, by simp [l1], ?_, fun h hh => ?_⟩
    · rw [flatF_cons, l2, ← List.take_append_drop 3 xs, List.drop_append, List.length_take, Nat.min_eq_left (by omega), Nat.sub_self, List.drop_zero, List.drop_eq_nil_of_le (by rw [List.length_take]; omega), List.nil_append]
      congr 1
      apply List.ext_getElem?
      intro j
      match j with
      | 0 => exact c0.symm
      | 1 => exact c1.symm
      | 2 => exact c2.symm
      | j + 3 => rw [List.getElem?_eq_none (by show 3 ≤ _; omega), List.getElem?_eq_none (by rw [List.length_take]; omega)]
    · rcases List.mem_cons.1 hh with rfl | hh
      · have h0 := wf_i64 w0
        have h1 := wf_u64 w1
        have h2 := wf_u64 w2
        unfold Fr.wf
        dsimp only
        omega
      · exact l3 h hh
set_option maxRecDepth 100000 in
theorem open_frs {H : Type} {enc : TypeId × Value → H} {w : World} {r : Reach} {b0 : Nat} {v : Value} {d : DataW H} {p : List MemPlace}
    (hv : Value.okWide Try.prog w r b0 34 v) (h : DataW.Trod enc Try.prog w 0 (fun _ => true) true 34 v d p) : ∃ L : List Fr, FrsAt w v L ∧ ∀ h ∈ L, h.wf := by
  obtain ⟨fuel, hf⟩ := h
  obtain ⟨a0, l0, c0, rfl⟩ := okWide_slice Try.underlying34 hv
  obtain ⟨m, xs, hr, ht⟩ := open_row Try.underlying34 lay_fr (by decide) hf
  obtain ⟨L, rfl, rfl, hw⟩ := frs_of m xs ht
  refine ⟨L, ?_, hw⟩
  rcases hr.2 with ⟨h0, h1 | ⟨a, cap, h1⟩⟩ | ⟨b, off, cap, h1, g0, g1, g2, h2, h3⟩
  · cases h1
    exact ⟨_, 0, by rw [h0], by omega, fun h => by omega⟩
  · cases h1
    exact ⟨_, c0, by rw [h0], by omega, fun h => by omega⟩
  · cases h1
    unfold maxLen at g2
    exact ⟨_, c0, rfl, by omega, fun _ => ⟨b, off, rfl, h2, g1, by omega, h3⟩⟩

end Go.Proofs.Ytemmfbedchfekaa
