/- Slices of acts that came in. No statement is proved here. -/
import Derived.Test.YtheackckmhbodaaFdZ
namespace Go.Proofs.Ytheackckmhbodaa
open Go.RowKit Go.BigFrame Go.WideShapes Go.ChangeShapes Go.Deep
set_option linter.unusedVariables false
set_option linter.unusedSimpArgs false

structure Ac where
  k : Int
  m : Int
  p : Int
  s : Int
def Ac.L (h : Ac) : List Value := [.int .i64 h.k, .int .u64 h.m, .int .i64 h.p, .int .i64 h.s]
def Ac.wf (h : Ac) : Prop := (-9223372036854775808 ≤ h.k ∧ h.k < 9223372036854775808) ∧ (0 ≤ h.m ∧ h.m < 18446744073709551616) ∧ (-9223372036854775808 ≤ h.p ∧ h.p < 9223372036854775808) ∧ -9223372036854775808 ≤ h.s ∧ h.s < 9223372036854775808
def flatA (l : List Ac) : List Value := l.flatMap Ac.L
theorem flatA_cons (h : Ac) (l : List Ac) : flatA (h :: l) = h.L ++ flatA l := by simp [flatA]
theorem flatA_len : ∀ l : List Ac, (flatA l).length = l.length * 4
  | [] => rfl
  | h :: l => by
    rw [flatA_cons, List.length_append, flatA_len l, List.length_cons]
    show 4 + _ = _
    omega
theorem flatA_at : ∀ (l : List Ac) (j : Nat) (h : Ac), l[j]? = some h → ((flatA l).drop (j * 4)).take 4 = h.L
  | [], j, h, hj => by simp at hj
  | x :: l, 0, h, hj => by
    obtain rfl : x = h := by simpa using hj
    rw [flatA_cons]
    rfl
  | x :: l, j + 1, h, hj => by
    have ih := flatA_at l j h (by simpa using hj)
    have e : x.L.length = 4 := rfl
    rw [flatA_cons, List.drop_append, show x.L.drop ((j + 1) * 4) = [] from List.drop_eq_nil_of_le (by rw [e]; omega), List.nil_append, e, show (j + 1) * 4 - 4 = j * 4 by omega]
    exact ih
def ActsAt (w : World) (v : Value) (L : List Ac) : Prop := ∃ a cap, v = .slice a L.length cap ∧ L.length ≤ 9223372036854775807 ∧ (0 < L.length → ∃ b off, a = some ⟨b, off, none⟩ ∧ b < w.heap.size ∧ L.length ≤ cap ∧ cap ≤ 9223372036854775807 ∧ w.rangeAt b off (flatA L))
theorem ActsAt.ext {w w' : World} {v : Value} {L : List Ac} (h : ActsAt w v L) (hx : Ext w w') : ActsAt w' v L := by
  obtain ⟨a, cap, e, hm, hf⟩ := h
  refine ⟨a, cap, e, hm, fun h0 => ?_⟩
  obtain ⟨b, off, e1, hb, h1, h2, h3⟩ := hf h0
  exact ⟨b, off, e1, Nat.lt_of_lt_of_le hb hx.size, h1, h2, rangeAt_ext h3 hx hb⟩

/-- A slice of n elements, of m cells each: its cells. -/
def IsRow (w : World) (m : Nat) (v : Value) (n : Nat) (xs : List Value) : Prop :=
  xs.length = n * m ∧ ((n = 0 ∧ (v = .slice none 0 0 ∨ ∃ a cap, v = .slice (some a) 0 cap)) ∨
   ∃ b off cap, v = .slice (some ⟨b, off, none⟩) n cap ∧ 0 < n ∧ n ≤ cap ∧ cap ≤ maxLen ∧ b < w.heap.size ∧ w.rangeAt b off xs)

def RowTyped (l : List (Option IntKind)) (n : Nat) (xs : List Value) : Prop := xs.length = n * l.length ∧ ∀ i, i < n → Typed l ((xs.drop (i * l.length)).take l.length)


theorem IsRow.ext {w w' : World} {m n : Nat} {v : Value} {xs : List Value} (h : IsRow w m v n xs) (hx : Ext w w') : IsRow w' m v n xs := by
  obtain ⟨h0, h | ⟨b, off, cap, h1, g0, g1, g2, h2, h3⟩⟩ := h
  · exact ⟨h0, .inl h⟩
  · exact ⟨h0, .inr ⟨b, off, cap, h1, g0, g1, g2, Nat.lt_of_lt_of_le h2 hx.size, rangeAt_ext h3 hx h2⟩⟩

theorem take_drop_take (xs : List Value) (i m : Nat) : (xs.take ((i + 1) * m)).drop (i * m) = (xs.drop (i * m)).take m := by
  rw [List.drop_take]
  congr 1
  rw [Nat.add_mul, Nat.one_mul]
  omega

theorem RowTyped.one {l : List (Option IntKind)} : ∀ {n : Nat} {xs : List Value}, RowTyped l n xs → ∀ v ∈ xs, v.oneCell' = true
  | 0, xs, h, v, hv => by
    have := h.1
    rw [Nat.zero_mul] at this
    rw [List.length_eq_zero_iff.1 this] at hv
    cases hv
  | n + 1, xs, h, v, hv => by
    obtain ⟨h1, h2⟩ := h
    rw [Nat.add_mul, Nat.one_mul] at h1
    have e : xs = xs.take (n * l.length) ++ (xs.drop (n * l.length)).take l.length := by
      rw [List.take_of_length_le (l := xs.drop (n * l.length)) (by simp; omega), List.take_append_drop]
    rw [e] at hv
    rcases List.mem_append.1 hv with hv | hv
    · have hlen : (xs.take (n * l.length)).length = n * l.length := by rw [List.length_take]; exact Nat.min_eq_left (by omega)
      refine RowTyped.one (n := n) (xs := xs.take (n * l.length)) ⟨hlen, fun i hi => ?_⟩ v hv
      have := h2 i (by omega)
      have hle : (i + 1) * l.length ≤ n * l.length := Nat.mul_le_mul_right _ hi
      rw [← take_drop_take] at this ⊢
      rwa [List.take_take, Nat.min_eq_left hle]
    · exact (h2 n (by omega)).one v hv

section
variable {P : Program} {H : Type} {enc : TypeId × Value → H} {w : World}

/-- A slice of flat elements opened. -/
theorem open_row {d n : Nat} {t e : TypeId} {l : List (Option IntKind)} {c : Value} {x : DataW H × List MemPlace} (ht : P.underlying t = some (.slice e)) (he : lay P d e = some l) (hl : 0 < l.length)
    (h : DataW.trod enc P w 0 (fun _ => true) true n t [c] = some x) : ∃ m xs, IsRow w l.length c m xs ∧ RowTyped l m xs := by
  rcases DataW.trod_slice ht h with ⟨hc, _⟩ | ⟨a, len, cap, elems, rest, k, _, hc, _, _, hlc, hm, hlen, hel, _, _⟩
  · refine ⟨0, [], ⟨by simp, .inl ⟨rfl, .inl (by simpa using hc)⟩⟩, by simp, fun i hi => by omega⟩
  · have hc' : c = .slice (some a) len cap := by simpa using hc
    rw [lay_cells he] at hel
    by_cases h0 : len = 0
    · subst h0
      exact ⟨0, [], ⟨by simp, .inl ⟨rfl, .inr ⟨a, cap, hc'⟩⟩⟩, by simp, fun i hi => by omega⟩
    · have each : ∀ i, i < len → ∃ cs, (∀ j, j < l.length → w.cell? ((a.add (i * l.length)).add j) = cs[j]?) ∧ Typed l cs := by
        intro i hi
        have := hel i hi
        rw [List.getElem?_eq_getElem (by omega)] at this
        obtain ⟨cs, h1, h2⟩ := Option.bind_eq_some_iff.1 this
        obtain ⟨_, _, h3⟩ := World.cells?_some h1
        exact ⟨cs, h3, trod_typed d e l k cs _ he h2⟩
      obtain ⟨b, off, spot⟩ := a
      have hspot : spot = none := by
        obtain ⟨cs, h1, h2⟩ := each 0 (by omega)
        have := h1 0 hl
        obtain ⟨v, hv⟩ : ∃ v, cs[0]? = some v := ⟨cs[0]'(by rw [h2.1]; exact hl), by simp⟩
        rw [hv] at this
        simpa [Addr.add] using World.cell?_spot this
      subst hspot
      have cell : ∀ i, i < len → ∃ cs, (∀ j, j < l.length → w.cell? ⟨b, off + (i * l.length + j), none⟩ = cs[j]?) ∧ Typed l cs := by
        intro i hi
        obtain ⟨cs, h1, h2⟩ := each i hi
        refine ⟨cs, fun j hj => ?_, h2⟩
        have := h1 j hj
        rw [Addr.add_mid, Addr.add_mid, Nat.add_assoc] at this
        exact this
      have hb : b < w.heap.size := by
        obtain ⟨cs, h1, h2⟩ := cell 0 (by omega)
        have := h1 0 hl
        obtain ⟨v, hv⟩ : ∃ v, cs[0]? = some v := ⟨cs[0]'(by rw [h2.1]; exact hl), by simp⟩
        rw [hv] at this
        exact World.block_lt_of_cell? w _ this
      have part : ∀ i, i < len → Typed l ((((List.range (len * l.length)).map fun j => (w.cell? ⟨b, off + j, none⟩).getD undef).drop (i * l.length)).take l.length) ∧ ∀ j, j < l.length → ∃ v, w.cell? ⟨b, off + (i * l.length + j), none⟩ = some v := by
        intro i hi
        obtain ⟨cs, h1, h2⟩ := cell i hi
        have hle : (i + 1) * l.length ≤ len * l.length := Nat.mul_le_mul_right _ hi
        rw [Nat.add_mul, Nat.one_mul] at hle
        have e : (((List.range (len * l.length)).map fun j => (w.cell? ⟨b, off + j, none⟩).getD undef).drop (i * l.length)).take l.length = cs := by
          apply List.ext_getElem?
          intro j
          by_cases hj : j < l.length
          · have hr : i * l.length + j < len * l.length := by omega
            rw [List.getElem?_take, if_pos hj, List.getElem?_drop, List.getElem?_map, List.getElem?_range hr]
            simp only [Option.map_some]
            rw [h1 j hj, List.getElem?_eq_getElem (by rw [h2.1]; exact hj)]
            rfl
          · rw [List.getElem?_eq_none (by simp; omega), List.getElem?_eq_none (by rw [h2.1]; omega)]
        refine ⟨e ▸ h2, fun j hj => ⟨cs[j]'(by rw [h2.1]; exact hj), ?_⟩⟩
        rw [h1 j hj]
        simp
      refine ⟨len, (List.range (len * l.length)).map fun j => (w.cell? ⟨b, off + j, none⟩).getD undef, ⟨by simp, .inr ⟨b, off, cap, hc', by omega, hlc, hm, hb, fun j v hv => ?_⟩⟩, by simp, fun i hi => (part i hi).1⟩
      have hj : j < len * l.length := by simpa using (List.getElem?_eq_some_iff.1 hv).1
      have hi : j / l.length < len := Nat.div_lt_of_lt_mul (by rw [Nat.mul_comm]; exact hj)
      obtain ⟨u, hu⟩ := (part _ hi).2 (j % l.length) (Nat.mod_lt _ hl)
      have e : j / l.length * l.length + j % l.length = j := by rw [Nat.mul_comm]; exact Nat.div_add_mod j _
      rw [e] at hu
      simp [List.getElem?_map, List.getElem?_range hj, hu] at hv
      rw [hu, hv]

end

theorem lay_act : lay Try.prog 6 32 = some [some .i64, some .u64, some .i64, some .i64] := by kernel_rfl
theorem acts_of : ∀ (m : Nat) (xs : List Value), RowTyped [some .i64, some .u64, some .i64, some .i64] m xs → ∃ L : List Ac, L.length = m ∧ flatA L = xs ∧ ∀ h ∈ L, h.wf
  | 0, xs, h => ⟨[], rfl, by
      have := h.1
      rw [Nat.zero_mul] at this
      rw [List.length_eq_zero_iff.1 this]
      rfl, fun h hh => by cases hh⟩
  | m + 1, xs, h => by
    obtain ⟨h1, h2⟩ := h
    have e3 : ([some .i64, some .u64, some .i64, some .i64] : List (Option IntKind)).length = 4 := rfl
    rw [e3] at h1 h2
    obtain ⟨L, l1, l2, l3⟩ := acts_of m (xs.drop 4) ⟨by rw [e3, List.length_drop]; omega, fun i hi => by
      rw [e3, List.drop_drop]
      have := h2 (i + 1) (by omega)
      rw [show 4 + i * 4 = (i + 1) * 4 by omega]
      exact this⟩
    have ht := h2 0 (by omega)
    rw [Nat.zero_mul, List.drop_zero] at ht
    obtain ⟨z0, c0, w0⟩ := ht.int 0 .i64 rfl
    obtain ⟨z1, c1, w1⟩ := ht.int 1 .u64 rfl
    obtain ⟨z2, c2, w2⟩ := ht.int 2 .i64 rfl
    obtain ⟨z3, c3, w3⟩ := ht.int 3 .i64 rfl
    refine ⟨⟨z0, z1, z2, z3⟩ :: L, by simp [l1], ?_, fun h hh => ?_⟩
    · rw [flatA_cons, l2, ← List.take_append_drop 4 xs, List.drop_append, List.length_take, Nat.min_eq_left (by omega), Nat.sub_self, List.drop_zero, List.drop_eq_nil_of_le (by rw [List.length_take]; omega), List.nil_append]
      congr 1
      apply List.ext_getElem?
      intro j
      match j with
      | 0 => exact c0.symm
      | 1 => exact c1.symm
      | 2 => exact c2.symm
      | 3 => exact c3.symm
      | j + 4 => rw [List.getElem?_eq_none (by show 4 ≤ _; omega), List.getElem?_eq_none (by rw [List.length_take]; omega)]
    · rcases List.mem_cons.1 hh with rfl | hh
      · have h0 := wf_i64 w0
        have h1 := wf_u64 w1
        have h2 := wf_i64 w2
        have h3 := wf_i64 w3
        unfold Ac.wf
        dsimp only
        omega
      · exact l3 h hh
set_option maxRecDepth 100000 in
theorem open_acts {H : Type} {enc : TypeId × Value → H} {w : World} {r : Reach} {b0 : Nat} {v : Value} {d : DataW H} {p : List MemPlace}
    (hv : Value.okWide Try.prog w r b0 22 v) (h : DataW.Trod enc Try.prog w 0 (fun _ => true) true 22 v d p) : ∃ L : List Ac, ActsAt w v L ∧ ∀ h ∈ L, h.wf := by
  obtain ⟨fuel, hf⟩ := h
  obtain ⟨a0, l0, c0, rfl⟩ := okWide_slice Try.underlying22 hv
  obtain ⟨m, xs, hr, ht⟩ := open_row Try.underlying22 lay_act (by decide) hf
  obtain ⟨L, rfl, rfl, hw⟩ := acts_of m xs ht
  refine ⟨L, ?_, hw⟩
  rcases hr.2 with ⟨h0, h1 | ⟨a, cap, h1⟩⟩ | ⟨b, off, cap, h1, g0, g1, g2, h2, h3⟩
  · cases h1
    exact ⟨_, 0, by rw [h0], by omega, fun h => by omega⟩
  · cases h1
    exact ⟨_, c0, by rw [h0], by omega, fun h => by omega⟩
  · cases h1
    unfold maxLen at g2
    exact ⟨_, c0, rfl, by omega, fun _ => ⟨b, off, rfl, h2, g1, by omega, h3⟩⟩

end Go.Proofs.Ytheackckmhbodaa
