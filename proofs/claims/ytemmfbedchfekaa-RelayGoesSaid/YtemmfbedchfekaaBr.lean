/- Bridges that came in: what they read as. No statement is proved here. -/
import Derived.Test.YtemmfbedchfekaaFlat
import Derived.Laws.AppendOwn
namespace Go.Proofs.Ytemmfbedchfekaa
open Go.RowKit Go.WideShapes Go.ChangeShapes Go.Deep
set_option linter.unusedVariables false
set_option linter.unusedSimpArgs false

/-- A slice of n elements, of m cells each: its cells. -/
def IsRow (w : World) (m : Nat) (v : Value) (n : Nat) (xs : List Value) : Prop :=
  xs.length = n * m ∧ ((n = 0 ∧ (v = .slice none 0 0 ∨ ∃ a cap, v = .slice (some a) 0 cap)) ∨
   ∃ b off cap, v = .slice (some ⟨b, off, none⟩) n cap ∧ 0 < n ∧ n ≤ cap ∧ cap ≤ maxLen ∧ b < w.heap.size ∧ w.rangeAt b off xs)

def RowTyped (l : List (Option IntKind)) (n : Nat) (xs : List Value) : Prop := xs.length = n * l.length ∧ ∀ i, i < n → Typed l ((xs.drop (i * l.length)).take l.length)

theorem rangeAt_ext {w w' : World} {b off : Nat} {xs : List Value} (h : w.rangeAt b off xs) (hx : Ext w w') (hb : b < w.heap.size) : w'.rangeAt b off xs := fun j v hv => (hx.cell hb).trans (h j v hv)

theorem IsRow.ext {w w' : World} {m n : Nat} {v : Value} {xs : List Value} (h : IsRow w m v n xs) (hx : Ext w w') : IsRow w' m v n xs := by
  obtain ⟨h0, h | ⟨b, off, cap, h1, g0, g1, g2, h2, h3⟩⟩ := h
  · exact ⟨h0, .inl h⟩
  · exact ⟨h0, .inr ⟨b, off, cap, h1, g0, g1, g2, Nat.lt_of_lt_of_le h2 hx.size, rangeAt_ext h3 hx h2⟩⟩

theorem take_drop_take (xs : List Value) (i m : Nat) : (xs.take ((i + 1) * m)).drop (i * m) = (xs.drop (i * m)).take m := by
  rw [List.drop_take]
  congr 1
  rw [Nat.add_mul, Nat.one_mul]
  omega

theorem RowTyped.one {l : List (Option IntKind)} : ∀ {n : Nat} {xs : List Value}, RowTyped l n xs → ∀ v ∈ xs, v.oneCell' = true
  | 0, xs, h, v, hv => by
    have := h.1
    rw [Nat.zero_mul] at this
    rw [List.length_eq_zero_iff.1 this] at hv
    cases hv
  | n + 1, xs, h, v, hv => by
    obtain ⟨h1, h2⟩ := h
    rw [Nat.add_mul, Nat.one_mul] at h1
    have e : xs = xs.take (n * l.length) ++ (xs.drop (n * l.length)).take l.length := by
      rw [List.take_of_length_le (l := xs.drop (n * l.length)) (by simp; omega), List.take_append_drop]
    rw [e] at hv
    rcases List.mem_append.1 hv with hv | hv
    · have hlen : (xs.take (n * l.length)).length = n * l.length := by rw [List.length_take]; exact Nat.min_eq_left (by omega)
      refine RowTyped.one (n := n) (xs := xs.take (n * l.length)) ⟨hlen, fun i hi => ?_⟩ v hv
      have := h2 i (by omega)
      have hle : (i + 1) * l.length ≤ n * l.length := Nat.mul_le_mul_right _ hi
      rw [← take_drop_take] at this ⊢
      rwa [List.take_take, Nat.min_eq_left hle]
    · exact (h2 n (by omega)).one v hv

section
variable {P : Program} {H : Type} {enc : TypeId × Value → H} {w : World}

/-- A slice of flat elements opened. -/
theorem open_row {d n : Nat} {t e : TypeId} {l : List (Option IntKind)} {c : Value} {x : DataW H × List MemPlace} (ht : P.underlying t = some (.slice e)) (he : lay P d e = some l) (hl : 0 < l.length)
    (h : DataW.trod enc P w 0 (fun _ => true) true n t [c] = some x) : ∃ m xs, IsRow w l.length c m xs ∧ RowTyped l m xs := by
  rcases DataW.trod_slice ht h with ⟨hc, _⟩ | ⟨a, len, cap, elems, rest, k, _, hc, _, _, hlc, hm, hlen, hel, _, _⟩
  · refine ⟨0, [], ⟨by simp, .inl ⟨rfl, .inl (by simpa using hc)⟩⟩, by simp, fun i hi => by omega⟩
  · have hc' : c = .slice (some a) len cap := by simpa using hc
    rw [lay_cells he] at hel
    by_cases h0 : len = 0
    · subst h0
      exact ⟨0, [], ⟨by simp, .inl ⟨rfl, .inr ⟨a, cap, hc'⟩⟩⟩, by simp, fun i hi => by omega⟩
    · have each : ∀ i, i < len → ∃ cs, (∀ j, j < l.length → w.cell? ((a.add (i * l.length)).add j) = cs[j]?) ∧ Typed l cs := by
        intro i hi
        have := hel i hi
        rw [List.getElem?_eq_getElem (by omega)] at this
        obtain ⟨cs, h1, h2⟩ := Option.bind_eq_some_iff.1 this
        obtain ⟨_, _, h3⟩ := World.cells?_some h1
        exact ⟨cs, h3, trod_typed d e l k cs _ he h2⟩
      obtain ⟨b, off, spot⟩ := a
      have hspot : spot = none := by
        obtain ⟨cs, h1, h2⟩ := each 0 (by omega)
        have := h1 0 hl
        obtain ⟨v, hv⟩ : ∃ v, cs[0]? = some v := ⟨cs[0]'(by rw [h2.1]; exact hl), by simp⟩
        rw [hv] at this
        simpa [Addr.add] using World.cell?_spot this
      subst hspot
      have cell : ∀ i, i < len → ∃ cs, (∀ j, j < l.length → w.cell? ⟨b, off + (i * l.length + j), none⟩ = cs[j]?) ∧ Typed l cs := by
        intro i hi
        obtain ⟨cs, h1, h2⟩ := each i hi
        refine ⟨cs, fun j hj => ?_, h2⟩
        have := h1 j hj
        rw [Addr.add_mid, Addr.add_mid, Nat.add_assoc] at this
        exact this
      have hb : b < w.heap.size := by
        obtain ⟨cs, h1, h2⟩ := cell 0 (by omega)
        have := h1 0 hl
        obtain ⟨v, hv⟩ : ∃ v, cs[0]? = some v := ⟨cs[0]'(by rw [h2.1]; exact hl), by simp⟩
        rw [hv] at this
        exact World.block_lt_of_cell? w _ this
      have part : ∀ i, i < len → Typed l ((((List.range (len * l.length)).map fun j => (w.cell? ⟨b, off + j, none⟩).getD undef).drop (i * l.length)).take l.length) ∧ ∀ j, j < l.length → ∃ v, w.cell? ⟨b, off + (i * l.length + j), none⟩ = some v := by
        intro i hi
        obtain ⟨cs, h1, h2⟩ := cell i hi
        have hle : (i + 1) * l.length ≤ len * l.length := Nat.mul_le_mul_right _ hi
        rw [Nat.add_mul, Nat.one_mul] at hle
        have e : (((List.range (len * l.length)).map fun j => (w.cell? ⟨b, off + j, none⟩).getD undef).drop (i * l.length)).take l.length = cs := by
          apply List.ext_getElem?
          intro j
          by_cases hj : j < l.length
          · have hr : i * l.length + j < len * l.length := by omega
            rw [List.getElem?_take, if_pos hj, List.getElem?_drop, List.getElem?_map, List.getElem?_range hr]
            simp only [Option.map_some]
            rw [h1 j hj, List.getElem?_eq_getElem (by rw [h2.1]; exact hj)]
            rfl
          · rw [List.getElem?_eq_none (by simp; omega), List.getElem?_eq_none (by rw [h2.1]; omega)]
        refine ⟨e ▸ h2, fun j hj => ⟨cs[j]'(by rw [h2.1]; exact hj), ?_⟩⟩
        rw [h1 j hj]
        simp
      refine ⟨len, (List.range (len * l.length)).map fun j => (w.cell? ⟨b, off + j, none⟩).getD undef, ⟨by simp, .inr ⟨b, off, cap, hc', by omega, hlc, hm, hb, fun j v hv => ?_⟩⟩, by simp, fun i hi => (part i hi).1⟩
      have hj : j < len * l.length := by simpa using (List.getElem?_eq_some_iff.1 hv).1
      have hi : j / l.length < len := Nat.div_lt_of_lt_mul (by rw [Nat.mul_comm]; exact hj)
      obtain ⟨u, hu⟩ := (part _ hi).2 (j % l.length) (Nat.mod_lt _ hl)
      have e : j / l.length * l.length + j % l.length = j := by rw [Nat.mul_comm]; exact Nat.div_add_mod j _
      rw [e] at hu
      simp [List.getElem?_map, List.getElem?_range hj, hu] at hv
      rw [hu, hv]

end

/-! ### Bridges -/
def HL : List (Option IntKind) := [some .u64, none, some .i64, some .i64, some .i64, some .i64, some .i64, some .u64, some .u32, some .u64, some .u16, some .u16, some .i64, some .i64, some .i64, some .i64, some .i64]
def ML : List (Option IntKind) := [some .i64, none, none, none, none, none, none, some .i64, some .u64, some .u32, some .u64, some .u16, some .u16, some .i64, some .i64, some .i64, some .i64]
def PL : List (Option IntKind) := [some .u16, some .u32, none, none, none, none] ++ List.replicate 16 (some .i64) ++ List.replicate 29 none ++ ML ++ [some .u64, some .u32, some .u64, some .u16, some .u16, some .u64, some .u32, some .u64, some .u16, some .u16] ++ List.replicate 11 (some .i64)
def SL : List (Option IntKind) := some .i64 :: ML

theorem lay_port : lay Try.prog 6 69 = some PL := by kernel_rfl
theorem lay_sent : lay Try.prog 6 99 = some SL := by kernel_rfl
theorem lay_int : lay Try.prog 6 3 = some [some .i64] := by kernel_rfl
theorem lay_times : lay Try.prog 6 24 = some (List.replicate 4 (some .i64)) := by kernel_rfl
theorem lay_vec : lay Try.prog 6 28 = some [some .u64, some .u32, some .u64, some .u16, some .u16] := by kernel_rfl

/-- What a bridge reads as: its first cells; its ports', its messages', its places' cells, and how many of each. -/
structure Br where
  hd : List Value
  np : Nat
  ps : List Value
  no : Nat
  os : List Value
  nf : Nat
  fl : List Value

structure Br.ok (B : Br) : Prop where
  hd : Typed HL B.hd
  ps : RowTyped PL B.np B.ps
  os : RowTyped SL B.no B.os
  fl : RowTyped [some .i64] B.nf B.fl

/-- The cells of a bridge's value. -/
def BrC (w : World) (c : Array Value) (B : Br) : Prop :=
  ∃ s1 s2 s3, c = (B.hd ++ [s1, s2, s3]).toArray ∧ IsRow w 89 s1 B.np B.ps ∧ IsRow w 18 s2 B.no B.os ∧ IsRow w 1 s3 B.nf B.fl

theorem BrC.ext {w w' : World} {c : Array Value} {B : Br} (h : BrC w c B) (hx : Ext w w') : BrC w' c B := by
  obtain ⟨s1, s2, s3, h0, h1, h2, h3⟩ := h
  exact ⟨s1, s2, s3, h0, h1.ext hx, h2.ext hx, h3.ext hx⟩

theorem lay_head : layFs (lay Try.prog 6) ((Try.prog.fieldsOf 33).toList.take 7) 0 = some HL := by kernel_rfl

set_option maxRecDepth 100000 in
theorem open_br {H : Type} {enc : TypeId × Value → H} {w : World} {r : Reach} {b0 : Nat} {v : Value} {d : DataW H} {p : List MemPlace} (hv : Value.okWide Try.prog w r b0 33 v)
    (h : DataW.Trod enc Try.prog w 0 (fun _ => true) true 33 v d p) : ∃ c B, v = .agg c ∧ BrC w c B ∧ B.ok := by
  obtain ⟨cs, rfl, hsz⟩ := okWide_struct Try.underlying33 hv
  obtain ⟨fuel, hf⟩ := h
  obtain ⟨xs, n, _, hx, hl, hlen, hg⟩ := DataW.trod_struct Try.underlying33 hf
  have hc : Try.prog.cellsOf 33 = 20 := by kernel_rfl
  rw [hc] at hsz hl
  have hv : (Value.agg cs).cells.toList = cs.toList := rfl
  rw [hv] at hg hl
  have some_of : ∀ (i : Nat) (f : Field), (Try.prog.fieldsOf 33)[i]? = some f → ∃ y, DataW.trod enc Try.prog w 0 (fun _ => true) true n f.type ((cs.toList.drop f.offset).take (Try.prog.cellsOf f.type)) = some y := by
    intro i f hi
    have hi' := hi
    rw [show Try.prog.fieldsOf 33 = _ from by rw [Program.fieldsOf, Try.underlying33]] at hi'
    have h1 := hg i f hi'
    have : i < xs.length := by rw [hlen]; exact (Array.getElem?_eq_some_iff.1 hi').1
    rw [List.getElem?_eq_getElem this] at h1
    exact ⟨_, h1⟩
  have hH := fs_typed (P := Try.prog) (d := 6) (n := n) (cs := cs.toList) (fun t l cs x h hx => trod_typed 6 t l n cs x h hx) _ 0 HL lay_head (fun f hf => by
    obtain ⟨i, hi, rfl⟩ := List.getElem_of_mem (List.mem_of_mem_take hf)
    exact some_of i _ (by simp [Array.getElem?_eq_getElem (show i < (Try.prog.fieldsOf 33).size by simpa using hi)]))
  have one : ∀ i t, (Try.prog.fieldsOf 33)[i]?.map (fun f => (f.type, f.offset, Try.prog.cellsOf f.type)) = some (t, 10 + i, 1) → ∃ s y, cs[10 + i]? = some s ∧ DataW.trod enc Try.prog w 0 (fun _ => true) true n t [s] = some y := by
    intro i t ht
    obtain ⟨f, hf, he⟩ := Option.map_eq_some_iff.1 ht
    obtain ⟨y, hy⟩ := some_of i f hf
    simp only [Prod.mk.injEq] at he
    obtain ⟨e1, e2, e3⟩ := he
    rw [e1] at e3
    rw [e1, e3, e2] at hy
    have hlt : 10 + i < cs.size := by
      have : i < 10 := by
        have := (Array.getElem?_eq_some_iff.1 hf).1
        have hz : (Try.prog.fieldsOf 33).size = 10 := by kernel_rfl
        omega
      omega
    have e : (cs.toList.drop (10 + i)).take 1 = [cs[10 + i]] := by
      rw [List.drop_eq_getElem_cons (by simpa using hlt)]
      simp
    rw [e] at hy
    exact ⟨cs[10 + i], y, by simp [hlt], hy⟩
  obtain ⟨s1, y1, c1, t1⟩ := one 7 29 (by kernel_rfl)
  obtain ⟨s2, y2, c2, t2⟩ := one 8 30 (by kernel_rfl)
  obtain ⟨s3, y3, c3, t3⟩ := one 9 31 (by kernel_rfl)
  obtain ⟨m1, x1, r1, q1⟩ := open_row Try.underlying29 lay_port (by decide) t1
  obtain ⟨m2, x2, r2, q2⟩ := open_row Try.underlying30 lay_sent (by decide) t2
  obtain ⟨m3, x3, r3, q3⟩ := open_row Try.underlying31 lay_int (by decide) t3
  refine ⟨cs, ⟨cs.toList.take 17, m1, x1, m2, x2, m3, x3⟩, rfl, ⟨s1, s2, s3, ?_, r1, r2, r3⟩, ⟨by simpa [HL] using hH, q1, q2, q3⟩⟩
  apply Array.ext'
  show cs.toList = cs.toList.take 17 ++ [s1, s2, s3]
  have : cs.toList = cs.toList.take 17 ++ cs.toList.drop 17 := (List.take_append_drop 17 cs.toList).symm
  refine this.trans ?_
  congr 1
  apply List.ext_getElem?
  intro j
  match j with
  | 0 => simpa using c1
  | 1 => simpa using c2
  | 2 => simpa using c3
  | j + 3 => rw [List.getElem?_eq_none (by simp; omega)]; simp

end Go.Proofs.Ytemmfbedchfekaa
