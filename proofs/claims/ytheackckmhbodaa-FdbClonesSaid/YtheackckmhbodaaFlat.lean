/- Flat types: structs of integers and bools, however deep: their cells' kinds, that such a value is like itself, how arguments of them read. No statement is proved here. -/
import Derived.Test.YtheackckmhbodaaBase
import Derived.Laws.StructEq
import Derived.Deep.MidRow
import Derived.Deep.Slices
namespace Go.Proofs.Ytheackckmhbodaa
open Go.RowKit Go.WideShapes Go.ChangeShapes Go.Deep
set_option linter.unusedVariables false
set_option linter.unusedSimpArgs false

/-- The kinds of a list of fields' cells, that lie one behind the other. -/
def layFs (F : TypeId → Option (List (Option IntKind))) : List Field → Nat → Option (List (Option IntKind))
  | [], _ => some []
  | f :: fs, off => if f.name ≠ "_" ∧ f.offset = off then (F f.type).bind fun l => (layFs F fs (off + l.length)).map (l ++ ·) else none

/-- The kinds of a flat type's cells. -/
def lay (P : Program) : Nat → TypeId → Option (List (Option IntKind))
  | 0, _ => none
  | d + 1, t =>
    match P.underlying t with
    | some .bool => if (P.info? t).map (·.size) = some 1 then some [none] else none
    | some (.int k) => if (P.info? t).map (·.size) = some 1 then some [some k] else none
    | some (.struct fs) => (layFs (lay P d) fs.toList 0).bind fun l => if P.stoodInHeld t = false ∧ (P.info? t).map (·.size) = some l.length then some l else none
    | _ => none

def cellOk : Option IntKind → Value → Prop
  | none, v => ∃ b, v = .bool b
  | some k, v => ∃ z, v = .int k z ∧ (Lit.int k z).wf = true

/-- Cells of these kinds. -/
def Typed (l : List (Option IntKind)) (cs : List Value) : Prop := cs.length = l.length ∧ ∀ (j : Nat) (k : Option IntKind), l[j]? = some k → ∃ v, cs[j]? = some v ∧ cellOk k v

theorem cellOk_one {k : Option IntKind} {v : Value} (h : cellOk k v) : v.oneCell' = true := by
  cases k with
  | none => obtain ⟨b, rfl⟩ := h; rfl
  | some k => obtain ⟨z, rfl, _⟩ := h; rfl

theorem Typed.one {l : List (Option IntKind)} {cs : List Value} (h : Typed l cs) : ∀ v ∈ cs, v.oneCell' = true := by
  intro v hv
  obtain ⟨j, hj, rfl⟩ := List.getElem_of_mem hv
  obtain ⟨u, hu, ho⟩ := h.2 j _ (List.getElem?_eq_getElem (by rw [← h.1]; exact hj))
  rw [List.getElem?_eq_getElem hj] at hu
  cases hu
  exact cellOk_one ho

theorem Typed.bool {l : List (Option IntKind)} {cs : List Value} (h : Typed l cs) (j : Nat) (hj : l[j]? = some none) : ∃ b, cs[j]? = some (.bool b) := by
  obtain ⟨v, hv, b, rfl⟩ := h.2 j _ hj
  exact ⟨b, hv⟩
theorem Typed.int {l : List (Option IntKind)} {cs : List Value} (h : Typed l cs) (j : Nat) (k : IntKind) (hj : l[j]? = some (some k)) : ∃ z, cs[j]? = some (.int k z) ∧ (Lit.int k z).wf = true := by
  obtain ⟨v, hv, z, rfl, hz⟩ := h.2 j _ hj
  exact ⟨z, hv, hz⟩

theorem Typed.set {l : List (Option IntKind)} {cs : List Value} (h : Typed l cs) (j : Nat) (v : Value) (hv : ∀ k, l[j]? = some k → cellOk k v) : Typed l (cs.set j v) := by
  refine ⟨by simpa using h.1, fun i k hi => ?_⟩
  by_cases e : j = i
  · subst e
    have hl : j < l.length := (List.getElem?_eq_some_iff.1 hi).1
    exact ⟨v, by simp [h.1, hl], hv k hi⟩
  · obtain ⟨u, hu, ho⟩ := h.2 i k hi
    exact ⟨u, by simp [e, hu], ho⟩

theorem Typed.part {l l2 : List (Option IntKind)} {cs : List Value} (h : Typed (l ++ l2) cs) : Typed l (cs.take l.length) ∧ Typed l2 (cs.drop l.length) := by
  have hlen : cs.length = l.length + l2.length := by simpa using h.1
  refine ⟨⟨by simp; omega, fun j k hj => ?_⟩, ⟨by simp; omega, fun j k hj => ?_⟩⟩
  · have hl : j < l.length := (List.getElem?_eq_some_iff.1 hj).1
    obtain ⟨v, hv, ho⟩ := h.2 j k (by rw [List.getElem?_append_left hl]; exact hj)
    exact ⟨v, by rw [List.getElem?_take]; simp [hl, hv], ho⟩
  · obtain ⟨v, hv, ho⟩ := h.2 (l.length + j) k (by rw [List.getElem?_append_right (by omega)]; simpa using hj)
    exact ⟨v, by simpa using hv, ho⟩

theorem Typed.append {l l2 : List (Option IntKind)} {cs cs2 : List Value} (h : Typed l cs) (h2 : Typed l2 cs2) : Typed (l ++ l2) (cs ++ cs2) := by
  have a := h.1; have b := h2.1
  refine ⟨by simp; omega, fun j k hj => ?_⟩
  by_cases hl : j < l.length
  · obtain ⟨v, hv, ho⟩ := h.2 j k (by rw [List.getElem?_append_left hl] at hj; exact hj)
    exact ⟨v, by rw [List.getElem?_append_left (by omega)]; exact hv, ho⟩
  · obtain ⟨v, hv, ho⟩ := h2.2 (j - l.length) k (by rw [List.getElem?_append_right (by omega)] at hj; exact hj)
    exact ⟨v, by rw [List.getElem?_append_right (by omega), a]; exact hv, ho⟩

section
variable {P : Program}

theorem layFs_cons {F : TypeId → Option (List (Option IntKind))} {f : Field} {fs : List Field} {off : Nat} {l : List (Option IntKind)} (h : layFs F (f :: fs) off = some l) :
    f.name ≠ "_" ∧ f.offset = off ∧ ∃ l1 l2, F f.type = some l1 ∧ layFs F fs (off + l1.length) = some l2 ∧ l = l1 ++ l2 := by
  simp only [layFs] at h
  split at h
  · rename_i hc
    obtain ⟨l1, h1, h2⟩ := Option.bind_eq_some_iff.1 h
    obtain ⟨l2, h3, h4⟩ := Option.map_eq_some_iff.1 h2
    exact ⟨hc.1, hc.2, l1, l2, h1, h3, h4.symm⟩
  · cases h

theorem lay_struct {d : Nat} {t : TypeId} {fs : Array Field} {l : List (Option IntKind)} (hu : P.underlying t = some (.struct fs)) (h : lay P (d + 1) t = some l) :
    layFs (lay P d) fs.toList 0 = some l ∧ P.stoodInHeld t = false ∧ (P.info? t).map (·.size) = some l.length := by
  simp only [lay, hu] at h
  obtain ⟨l1, h1, h2⟩ := Option.bind_eq_some_iff.1 h
  split at h2
  · rename_i hc
    cases h2
    exact ⟨h1, hc.1, hc.2⟩
  · cases h2

theorem lay_size {d : Nat} {t : TypeId} {l : List (Option IntKind)} (h : lay P d t = some l) : (P.info? t).map (·.size) = some l.length := by
  cases d with
  | zero => simp [lay] at h
  | succ d =>
    cases hu : P.underlying t with
    | none => simp [lay, hu] at h
    | some q =>
      cases q <;> simp [lay, hu] at h
      case bool => obtain ⟨h1, rfl⟩ := h; simpa using h1
      case int => obtain ⟨h1, rfl⟩ := h; simpa using h1
      case struct fs =>
        obtain ⟨l1, h1, h2⟩ := Option.bind_eq_some_iff.1 h
        split at h2
        · rename_i hc
          cases h2
          simpa using hc.2
        · cases h2

theorem lay_cells {d : Nat} {t : TypeId} {l : List (Option IntKind)} (h : lay P d t = some l) : P.cellsOf t = l.length := by
  simp [Program.cellsOf, lay_size h]

/-- The value that these cells are, at a type. -/
def asVal (P : Program) (t : TypeId) (cs : List Value) : Value :=
  match P.underlying t with
  | some (.struct _) => .agg cs.toArray
  | _ => cs.headD undef

theorem run_isAgg {t : TypeId} {q : TypeDesc} (hu : P.underlying t = some q) (w : World) : (isAgg t).run P w = .ok q.isRow w := by
  unfold isAgg
  rw [Sem.run_bind, run_underlying hu w]
  cases q <;> rfl

theorem run_part {d : Nat} {t : TypeId} {l : List (Option IntKind)} {cs : List Value} {off : Nat} (w : World) (h : lay P d t = some l) (ht : Typed l ((cs.drop off).take l.length)) :
    (part t cs.toArray off).run P w = .ok (asVal P t ((cs.drop off).take l.length)) w := by
  have hz := lay_size h
  cases d with
  | zero => simp [lay] at h
  | succ d =>
    cases hu : P.underlying t with
    | none => simp [lay, hu] at h
    | some q =>
      have scalar : ∀ k, l = [k] → ∃ v, cs[off]? = some v ∧ (cs.drop off).take l.length = [v] := by
        rintro k rfl
        obtain ⟨v, hv, _⟩ := ht.2 0 k rfl
        refine ⟨v, by simpa [List.getElem?_take] using hv, ?_⟩
        have hl := ht.1
        match hq : (cs.drop off).take [k].length, hl with
        | [u], _ => rw [hq] at hv; simp at hv; rw [hv]
      cases q <;> simp [lay, hu] at h
      case bool =>
        obtain ⟨_, rfl⟩ := h
        obtain ⟨v, hv, he⟩ := scalar _ rfl
        rw [he]
        simp [part, Sem.run_bind, run_isAgg hu, hv, asVal, hu]
      case int k =>
        obtain ⟨_, rfl⟩ := h
        obtain ⟨v, hv, he⟩ := scalar _ rfl
        rw [he]
        simp [part, Sem.run_bind, run_isAgg hu, hv, asVal, hu]
      case struct fs =>
        cases hq : P.info? t with
        | none => simp [hq] at hz
        | some i =>
          have hs : i.size = l.length := by simpa [hq] using hz
          simp [part, Sem.run_bind, run_isAgg hu, asVal, hu, sizeOf, typeInfo, hq, hs]

theorem eqFs_refl {d D : Nat} (IH : ∀ (t : TypeId) (l : List (Option IntKind)) (cs : List Value) (w : World), lay P d t = some l → Typed l cs → (Op.equalIn D t (asVal P t cs) (asVal P t cs)).run P w = .ok true w) (cs : List Value) (w : World) :
    ∀ (fs : List Field) (off : Nat) (l : List (Option IntKind)), layFs (lay P d) fs off = some l → Typed l (cs.drop off) → (Op.eqFields D cs.toArray cs.toArray fs).run P w = .ok true w
  | [], _, _, _, _ => by simp [Op.eqFields]
  | f :: fs, off, l, h, ht => by
    obtain ⟨hn, ho, l1, l2, h1, h2, rfl⟩ := layFs_cons h
    obtain ⟨t1, t2⟩ := ht.part
    have hp := run_part (cs := cs) (off := off) w h1 t1
    have hr := IH f.type l1 _ w h1 t1
    have := eqFs_refl IH cs w fs (off + l1.length) l2 h2 (by rw [List.drop_drop] at t2; exact t2)
    simp only [Op.eqFields, ho, Sem.run_bind, Sem.run_ite, hp, hr, Result.andThen_ok, if_pos hn]
    simpa using this

/-- A flat value is like itself. -/
theorem eq_refl : ∀ (d : Nat) (t : TypeId) (l : List (Option IntKind)) (cs : List Value) (D : Nat) (w : World), d ≤ D → lay P d t = some l → Typed l cs → (Op.equalIn D t (asVal P t cs) (asVal P t cs)).run P w = .ok true w
  | 0, _, _, _, _, _, _, h, _ => by simp [lay] at h
  | d + 1, t, l, cs, 0, _, hd, _, _ => by omega
  | d + 1, t, l, cs, D + 1, w, hd, h, ht => by
    cases hu : P.underlying t with
    | none => simp [lay, hu] at h
    | some q =>
      have h' := h
      cases q <;> simp [lay, hu] at h
      case bool =>
        obtain ⟨_, rfl⟩ := h
        obtain ⟨b, hb⟩ := ht.bool 0 rfl
        match cs, ht.1, hb with
        | [v], _, hb =>
          obtain rfl : v = .bool b := by simpa using hb
          simp [asVal, hu, Op.equalIn, run_underlying hu, Sem.run_bind]
      case int k =>
        obtain ⟨_, rfl⟩ := h
        obtain ⟨z, hz, _⟩ := ht.int 0 k rfl
        match cs, ht.1, hz with
        | [v], _, hz =>
          obtain rfl : v = .int k z := by simpa using hz
          simp [asVal, hu, Op.equalIn, run_underlying hu, Sem.run_bind]
      case struct fs =>
        obtain ⟨h1, h2, _⟩ := lay_struct hu h'
        have hf : P.fieldsOf t = fs := by simp [Program.fieldsOf, hu]
        have hv : asVal P t cs = .agg cs.toArray := by simp [asVal, hu]
        rw [hv, run_equalIn_struct w D t _ _ (by rw [hf]; exact hu) h2, hf]
        exact eqFs_refl (fun t l cs w h ht => eq_refl d t l cs D w (by omega) h ht) cs w fs.toList 0 l h1 (by simpa using ht)

theorem eql_flat {d : Nat} {t : TypeId} {fs : Array Field} {l : List (Option IntKind)} {cs : List Value} (w : World) (hu : P.underlying t = some (.struct fs)) (hd : d ≤ 10000) (h : lay P d t = some l) (ht : Typed l cs) :
    (Op.equalIn 10000 t (.agg cs.toArray) (.agg cs.toArray)).run P w = .ok true w := by
  have := eq_refl d t l cs 10000 w hd h ht
  simpa [asVal, hu] using this

/-! ### How an argument of a flat type reads -/

variable {H : Type} {enc : TypeId × Value → H} {w : World} {base : Nat} {spare : Nat → Bool} {held : Bool}

theorem fs_typed {d n : Nat} {cs : List Value} (IH : ∀ (t : TypeId) (l : List (Option IntKind)) (cs : List Value) (x : DataW H × List MemPlace), lay P d t = some l → DataW.trod enc P w base spare held n t cs = some x → Typed l cs) :
    ∀ (fs : List Field) (off : Nat) (l : List (Option IntKind)), layFs (lay P d) fs off = some l → (∀ f ∈ fs, ∃ y, DataW.trod enc P w base spare held n f.type ((cs.drop f.offset).take (P.cellsOf f.type)) = some y) → Typed l ((cs.drop off).take l.length)
  | [], off, l, h, _ => by
    simp only [layFs] at h
    cases h
    exact ⟨by simp, fun j k hj => by simp at hj⟩
  | f :: fs, off, l, h, hy => by
    obtain ⟨_, ho, l1, l2, h1, h2, rfl⟩ := layFs_cons h
    obtain ⟨y, hy1⟩ := hy f (by simp)
    have t1 := IH f.type l1 _ y h1 hy1
    rw [lay_cells h1, ho] at t1
    have t2 := fs_typed IH fs (off + l1.length) l2 h2 (fun g hg => hy g (by simp [hg]))
    have := t1.append t2
    rw [List.length_append, List.take_add, List.drop_drop]
    exact this

theorem trod_typed : ∀ (d : Nat) (t : TypeId) (l : List (Option IntKind)) (n : Nat) (cs : List Value) (x : DataW H × List MemPlace), lay P d t = some l → DataW.trod enc P w base spare held n t cs = some x → Typed l cs
  | 0, _, _, _, _, _, h, _ => by simp [lay] at h
  | d + 1, t, l, n, cs, x, h, hx => by
    cases hu : P.underlying t with
    | none => simp [lay, hu] at h
    | some q =>
      have h' := h
      cases q <;> simp [lay, hu] at h
      case bool =>
        obtain ⟨_, rfl⟩ := h
        obtain ⟨b, rfl, _⟩ := DataW.trod_bool hu hx
        refine ⟨rfl, fun j k hj => ?_⟩
        match j, hj with
        | 0, hj => cases hj; exact ⟨_, rfl, b, rfl⟩
      case int k =>
        obtain ⟨_, rfl⟩ := h
        obtain ⟨z, rfl, _, hz⟩ := DataW.trod_int hu hx
        refine ⟨rfl, fun j k' hj => ?_⟩
        match j, hj with
        | 0, hj => cases hj; exact ⟨_, rfl, z, rfl, hz⟩
      case struct fs =>
        obtain ⟨h1, _, hz⟩ := lay_struct hu h'
        obtain ⟨xs, m, _, _, hl, hlen, hf⟩ := DataW.trod_struct hu hx
        have hl' : cs.length = l.length := by rw [hl]; exact lay_cells h'
        have := fs_typed (cs := cs) (fun t l cs x h hx => trod_typed d t l m cs x h hx) fs.toList 0 l h1 (fun f hf' => by
          obtain ⟨i, hi, rfl⟩ := List.getElem_of_mem hf'
          have hi' : i < fs.size := by simpa using hi
          have := hf i fs[i] (by simp [hi'])
          rw [List.getElem?_eq_getElem (by omega)] at this
          exact ⟨_, this⟩)
        rw [List.drop_zero, List.take_of_length_le (by omega)] at this
        exact this

end

end Go.Proofs.Ytheackckmhbodaa
