/- Part 1 of what BridgeNew stands on. No statement is proved here. -/
import Derived.WalkKit
import Derived.ProofKit
import Derived.OpenShut
import Derived.BigQuiet
import Derived.Lib.Hide
import Derived.LoopN
import Derived.ChangeSame
import Derived.Deep.Draws
import Derived.Deep.Fields
import Derived.WideKeyArgs
import Derived.Test.YtpanapepcbbagaaGreatRows
import Derived.Laws.StructEq
import Derived.Deep.MidRow
import Derived.Deep.Slices
import Derived.Laws.AppendOwn
import Derived.Deep.WholeRow
import Derived.Deep.AppendLies
import Derived.Laws.AppendOwnNone
import Derived.OwnWalk
import Derived.StillTailTactics
namespace Go.Proofs.YtpanapepcbbagaaGreat
open Go.RowKit Go.WideShapes Go.ChangeShapes Go.WideElems Go.Deep
set_option linter.unusedVariables false
set_option linter.unusedSimpArgs false
theorem bel_drewN {B : Nat} {a w : World} (h : Below B a w) (n : Nat) : Below B a (w.drewN n) := ⟨h.os, h.tape, h.output, h.size, h.block⟩
/-- A world that has at most new memory. -/
def Ext (a b : World) : Prop := Below a.heap.size a b
theorem Ext.refl (a : World) : Ext a a := Below.refl _ a
theorem Ext.trans {a b c : World} (h : Ext a b) (k : Ext b c) : Ext a c := Below.trans h (Below.mono k h.size)
theorem Ext.drew {a b : World} (h : Ext a b) : Ext a b.drew := Below.drew h
theorem Ext.drewN {a b : World} (h : Ext a b) (n : Nat) : Ext a (b.drewN n) := bel_drewN h n
theorem Ext.alloc {a b : World} (h : Ext a b) (o : Obj) : Ext a (b.alloc o) := Below.alloc h h.size o
theorem Ext.setCell {a b : World} (h : Ext a b) {p : Addr} (hp : a.heap.size ≤ p.block) (u : Value) : Ext a (b.setCell p u) := Below.setCell h hp u
theorem Ext.cell {a b : World} (h : Ext a b) {p : Addr} (hp : p.block < a.heap.size) : b.cell? p = a.cell? p := Below.cell h hp
/-- A contract's result under another name. -/
theorem asv {P : Program} {f : FuncId} {args : Array Value} {w : World} {v v' : Value} {R : World → Prop} (h : Calls P f args w fun e w' => e = .returned v ∧ R w') (hv : v = v') :
    Calls P f args w fun e w' => e = .returned v' ∧ R w' := h.mono fun _ _ ⟨he, hr⟩ => ⟨by rw [he, hv], hr⟩
theorem asi {P : Program} {f : FuncId} {args : Array Value} {w : World} {k : IntKind} {x y : Int} {R : World → Prop} (h : Calls P f args w fun e w' => e = .returned (.int k x) ∧ R w') (hv : x = y) :
    Calls P f args w fun e w' => e = .returned (.int k y) ∧ R w' := h.mono fun _ _ ⟨he, hr⟩ => ⟨by rw [he, hv], hr⟩
theorem asb {P : Program} {f : FuncId} {args : Array Value} {w : World} {x y : Bool} {R : World → Prop} (h : Calls P f args w fun e w' => e = .returned (.bool x) ∧ R w') (hv : x = y) :
    Calls P f args w fun e w' => e = .returned (.bool y) ∧ R w' := h.mono fun _ _ ⟨he, hr⟩ => ⟨by rw [he, hv], hr⟩
theorem retI {k : IntKind} {a b : Int} (h : a = b) : Ending.returned (.int k a) = .returned (.int k b) := by rw [h]
theorem retB {a b : Bool} (h : a = b) : Ending.returned (.bool a) = .returned (.bool b) := by rw [h]
/-- A contract that leaves the world alone, met inside a region whose order is drawn. -/
theorem quietL {P : Program} {f : FuncId} {args : Array Value} {w : World} {n : Nat} {v : Value}
    (h : Calls P f args (w.drewN n) fun e w' => e = .returned v ∧ w.drewN n = w') : Calls P f args (w.drewN n) fun e w'' => e = .returned v ∧ ∃ m, w'' = w.drewN m :=
  h.mono fun _ _ ⟨he, hm⟩ => ⟨he, n, hm.symm⟩
theorem quietA {P : Program} {f : FuncId} {args : Array Value} {w : World} {a n : Nat} {v : Value}
    (h : Calls P f args (w.drewN (a + n)) fun e w' => e = .returned v ∧ w.drewN (a + n) = w') : Calls P f args (w.drewN (a + n)) fun e w'' => e = .returned v ∧ ∃ m, w'' = w.drewN (a + m) :=
  h.mono fun _ _ ⟨he, hm⟩ => ⟨he, n, hm.symm⟩
/-- The lowest bits of a number of 64 bits. -/
theorem and_mask (n b : Nat) (hn : n < 18446744073709551616) (hb : b < 64) :
    bits .and .u64 (n : Int) (IntKind.u64.wrap (IntKind.u64.wrap (2 ^ b) - 1)) = ((n % 2 ^ b : Nat) : Int) := by
  have h1 : (2 : Nat) ^ b < 18446744073709551616 := by
    have := Nat.pow_lt_pow_right (show 1 < 2 by decide) hb
    exact Nat.lt_of_lt_of_le this (by decide)
  have h0 : 0 < (2 : Nat) ^ b := Nat.two_pow_pos b
  have e1 : IntKind.u64.wrap ((2 : Int) ^ b) = ((2 ^ b : Nat) : Int) := by
    rw [IntKind.wrap_u64]
    have : ((2 : Int) ^ b) = ((2 ^ b : Nat) : Int) := by push_cast; rfl
    rw [this]; omega
  rw [e1]
  have e2 : IntKind.u64.wrap (((2 ^ b : Nat) : Int) - 1) = ((2 ^ b - 1 : Nat) : Int) := by
    rw [IntKind.wrap_u64]; omega
  rw [e2, u64_and_nat n (2 ^ b - 1) hn (by omega), Nat.and_two_pow_sub_one_eq_mod]
theorem wf_u32 {n : Int} (h : (Lit.int .u32 n).wf = true) : 0 ≤ n ∧ n < 4294967296 := by simp [Lit.wf, IntKind.min, IntKind.max, IntKind.signed, IntKind.bits] at h; omega
theorem wf_u64 {n : Int} (h : (Lit.int .u64 n).wf = true) : 0 ≤ n ∧ n < 18446744073709551616 := by simp [Lit.wf, IntKind.min, IntKind.max, IntKind.signed, IntKind.bits] at h; omega
end Go.Proofs.YtpanapepcbbagaaGreat
namespace Go.Proofs.YtpanapepcbbagaaGreat
open Go.RowKit Go.WideShapes Go.ChangeShapes Go.Deep
set_option linter.unusedVariables false
set_option linter.unusedSimpArgs false
/-- The kinds of a list of fields' cells, that lie one behind the other. -/
def layFs (F : TypeId → Option (List (Option IntKind))) : List Field → Nat → Option (List (Option IntKind))
  | [], _ => some []
  | f :: fs, off => if f.name ≠ "_" ∧ f.offset = off then (F f.type).bind fun l => (layFs F fs (off + l.length)).map (l ++ ·) else none
/-- The kinds of a flat type's cells. -/
def lay (P : Program) : Nat → TypeId → Option (List (Option IntKind))
  | 0, _ => none
  | d + 1, t =>
    match P.underlying t with
    | some .bool => if (P.info? t).map (·.size) = some 1 then some [none] else none
    | some (.int k) => if (P.info? t).map (·.size) = some 1 then some [some k] else none
    | some (.struct fs) => (layFs (lay P d) fs.toList 0).bind fun l => if P.stoodInHeld t = false ∧ (P.info? t).map (·.size) = some l.length then some l else none
    | _ => none
def cellOk : Option IntKind → Value → Prop
  | none, v => ∃ b, v = .bool b
  | some k, v => ∃ z, v = .int k z ∧ (Lit.int k z).wf = true
/-- Cells of these kinds. -/
def Typed (l : List (Option IntKind)) (cs : List Value) : Prop := cs.length = l.length ∧ ∀ (j : Nat) (k : Option IntKind), l[j]? = some k → ∃ v, cs[j]? = some v ∧ cellOk k v
theorem cellOk_one {k : Option IntKind} {v : Value} (h : cellOk k v) : v.oneCell' = true := by
  cases k with
  | none => obtain ⟨b, rfl⟩ := h; rfl
  | some k => obtain ⟨z, rfl, _⟩ := h; rfl
theorem Typed.one {l : List (Option IntKind)} {cs : List Value} (h : Typed l cs) : ∀ v ∈ cs, v.oneCell' = true := by
  intro v hv
  obtain ⟨j, hj, rfl⟩ := List.getElem_of_mem hv
  obtain ⟨u, hu, ho⟩ := h.2 j _ (List.getElem?_eq_getElem (by rw [← h.1]; exact hj))
  rw [List.getElem?_eq_getElem hj] at hu
  cases hu
  exact cellOk_one ho
theorem Typed.bool {l : List (Option IntKind)} {cs : List Value} (h : Typed l cs) (j : Nat) (hj : l[j]? = some none) : ∃ b, cs[j]? = some (.bool b) := by
  obtain ⟨v, hv, b, rfl⟩ := h.2 j _ hj
  exact ⟨b, hv⟩
theorem Typed.int {l : List (Option IntKind)} {cs : List Value} (h : Typed l cs) (j : Nat) (k : IntKind) (hj : l[j]? = some (some k)) : ∃ z, cs[j]? = some (.int k z) ∧ (Lit.int k z).wf = true := by
  obtain ⟨v, hv, z, rfl, hz⟩ := h.2 j _ hj
  exact ⟨z, hv, hz⟩
theorem Typed.set {l : List (Option IntKind)} {cs : List Value} (h : Typed l cs) (j : Nat) (v : Value) (hv : ∀ k, l[j]? = some k → cellOk k v) : Typed l (cs.set j v) := by
  refine ⟨by simpa using h.1, fun i k hi => ?_⟩
  by_cases e : j = i
  · subst e
    have hl : j < l.length := (List.getElem?_eq_some_iff.1 hi).1
    exact ⟨v, by simp [h.1, hl], hv k hi⟩
  · obtain ⟨u, hu, ho⟩ := h.2 i k hi
    exact ⟨u, by simp [e, hu], ho⟩
theorem Typed.part {l l2 : List (Option IntKind)} {cs : List Value} (h : Typed (l ++ l2) cs) : Typed l (cs.take l.length) ∧ Typed l2 (cs.drop l.length) := by
  have hlen : cs.length = l.length + l2.length := by simpa using h.1
  refine ⟨⟨by simp; omega, fun j k hj => ?_⟩, ⟨by simp; omega, fun j k hj => ?_⟩⟩
  · have hl : j < l.length := (List.getElem?_eq_some_iff.1 hj).1
    obtain ⟨v, hv, ho⟩ := h.2 j k (by rw [List.getElem?_append_left hl]; exact hj)
    exact ⟨v, by rw [List.getElem?_take]; simp [hl, hv], ho⟩
  · obtain ⟨v, hv, ho⟩ := h.2 (l.length + j) k (by rw [List.getElem?_append_right (by omega)]; simpa using hj)
    exact ⟨v, by simpa using hv, ho⟩
theorem Typed.append {l l2 : List (Option IntKind)} {cs cs2 : List Value} (h : Typed l cs) (h2 : Typed l2 cs2) : Typed (l ++ l2) (cs ++ cs2) := by
  have a := h.1; have b := h2.1
  refine ⟨by simp; omega, fun j k hj => ?_⟩
  by_cases hl : j < l.length
  · obtain ⟨v, hv, ho⟩ := h.2 j k (by rw [List.getElem?_append_left hl] at hj; exact hj)
    exact ⟨v, by rw [List.getElem?_append_left (by omega)]; exact hv, ho⟩
  · obtain ⟨v, hv, ho⟩ := h2.2 (j - l.length) k (by rw [List.getElem?_append_right (by omega)] at hj; exact hj)
    exact ⟨v, by rw [List.getElem?_append_right (by omega), a]; exact hv, ho⟩
section
variable {P : Program}
theorem layFs_cons {F : TypeId → Option (List (Option IntKind))} {f : Field} {fs : List Field} {off : Nat} {l : List (Option IntKind)} (h : layFs F (f :: fs) off = some l) :
    f.name ≠ "_" ∧ f.offset = off ∧ ∃ l1 l2, F f.type = some l1 ∧ layFs F fs (off + l1.length) = some l2 ∧ l = l1 ++ l2 := by
  simp only [layFs] at h
  split at h
  · rename_i hc
    obtain ⟨l1, h1, h2⟩ := Option.bind_eq_some_iff.1 h
    obtain ⟨l2, h3, h4⟩ := Option.map_eq_some_iff.1 h2
    exact ⟨hc.1, hc.2, l1, l2, h1, h3, h4.symm⟩
  · cases h
theorem lay_struct {d : Nat} {t : TypeId} {fs : Array Field} {l : List (Option IntKind)} (hu : P.underlying t = some (.struct fs)) (h : lay P (d + 1) t = some l) :
    layFs (lay P d) fs.toList 0 = some l ∧ P.stoodInHeld t = false ∧ (P.info? t).map (·.size) = some l.length := by
  simp only [lay, hu] at h
  obtain ⟨l1, h1, h2⟩ := Option.bind_eq_some_iff.1 h
  split at h2
  · rename_i hc
    cases h2
    exact ⟨h1, hc.1, hc.2⟩
  · cases h2
theorem lay_size {d : Nat} {t : TypeId} {l : List (Option IntKind)} (h : lay P d t = some l) : (P.info? t).map (·.size) = some l.length := by
  cases d with
  | zero => simp [lay] at h
  | succ d =>
    cases hu : P.underlying t with
    | none => simp [lay, hu] at h
    | some q =>
      cases q <;> simp [lay, hu] at h
      case bool => obtain ⟨h1, rfl⟩ := h; simpa using h1
      case int => obtain ⟨h1, rfl⟩ := h; simpa using h1
      case struct fs =>
        obtain ⟨l1, h1, h2⟩ := Option.bind_eq_some_iff.1 h
        split at h2
        · rename_i hc
          cases h2
          simpa using hc.2
        · cases h2
/-- The value that these cells are, at a type. -/
def asVal (P : Program) (t : TypeId) (cs : List Value) : Value :=
  match P.underlying t with
  | some (.struct _) => .agg cs.toArray
  | _ => cs.headD undef
theorem run_isAgg {t : TypeId} {q : TypeDesc} (hu : P.underlying t = some q) (w : World) : (isAgg t).run P w = .ok q.isRow w := by
  unfold isAgg
  rw [Sem.run_bind, run_underlying hu w]
  cases q <;> rfl
theorem run_part {d : Nat} {t : TypeId} {l : List (Option IntKind)} {cs : List Value} {off : Nat} (w : World) (h : lay P d t = some l) (ht : Typed l ((cs.drop off).take l.length)) :
    (part t cs.toArray off).run P w = .ok (asVal P t ((cs.drop off).take l.length)) w := by
  have hz := lay_size h
  cases d with
  | zero => simp [lay] at h
  | succ d =>
    cases hu : P.underlying t with
    | none => simp [lay, hu] at h
    | some q =>
      have scalar : ∀ k, l = [k] → ∃ v, cs[off]? = some v ∧ (cs.drop off).take l.length = [v] := by
        rintro k rfl
        obtain ⟨v, hv, _⟩ := ht.2 0 k rfl
        refine ⟨v, by simpa [List.getElem?_take] using hv, ?_⟩
        have hl := ht.1
        match hq : (cs.drop off).take [k].length, hl with
        | [u], _ => rw [hq] at hv; simp at hv; rw [hv]
      cases q <;> simp [lay, hu] at h
      case bool =>
        obtain ⟨_, rfl⟩ := h
        obtain ⟨v, hv, he⟩ := scalar _ rfl
        rw [he]
        simp [part, Sem.run_bind, run_isAgg hu, hv, asVal, hu]
      case int k =>
        obtain ⟨_, rfl⟩ := h
        obtain ⟨v, hv, he⟩ := scalar _ rfl
        rw [he]
        simp [part, Sem.run_bind, run_isAgg hu, hv, asVal, hu]
      case struct fs =>
        cases hq : P.info? t with
        | none => simp [hq] at hz
        | some i =>
          have hs : i.size = l.length := by simpa [hq] using hz
          simp [part, Sem.run_bind, run_isAgg hu, asVal, hu, sizeOf, typeInfo, hq, hs]
theorem eqFs_refl {d D : Nat} (IH : ∀ (t : TypeId) (l : List (Option IntKind)) (cs : List Value) (w : World), lay P d t = some l → Typed l cs → (Op.equalIn D t (asVal P t cs) (asVal P t cs)).run P w = .ok true w) (cs : List Value) (w : World) :
    ∀ (fs : List Field) (off : Nat) (l : List (Option IntKind)), layFs (lay P d) fs off = some l → Typed l (cs.drop off) → (Op.eqFields D cs.toArray cs.toArray fs).run P w = .ok true w
  | [], _, _, _, _ => by simp [Op.eqFields]
  | f :: fs, off, l, h, ht => by
    obtain ⟨hn, ho, l1, l2, h1, h2, rfl⟩ := layFs_cons h
    obtain ⟨t1, t2⟩ := ht.part
    have hp := run_part (cs := cs) (off := off) w h1 t1
    have hr := IH f.type l1 _ w h1 t1
    have := eqFs_refl IH cs w fs (off + l1.length) l2 h2 (by rw [List.drop_drop] at t2; exact t2)
    simp only [Op.eqFields, ho, Sem.run_bind, Sem.run_ite, hp, hr, Result.andThen_ok, if_pos hn]
    simpa using this
/-- A flat value is like itself. -/
theorem eq_refl : ∀ (d : Nat) (t : TypeId) (l : List (Option IntKind)) (cs : List Value) (D : Nat) (w : World), d ≤ D → lay P d t = some l → Typed l cs → (Op.equalIn D t (asVal P t cs) (asVal P t cs)).run P w = .ok true w
  | 0, _, _, _, _, _, _, h, _ => by simp [lay] at h
  | d + 1, t, l, cs, 0, _, hd, _, _ => by omega
  | d + 1, t, l, cs, D + 1, w, hd, h, ht => by
    cases hu : P.underlying t with
    | none => simp [lay, hu] at h
    | some q =>
      have h' := h
      cases q <;> simp [lay, hu] at h
      case bool =>
        obtain ⟨_, rfl⟩ := h
        obtain ⟨b, hb⟩ := ht.bool 0 rfl
        match cs, ht.1, hb with
        | [v], _, hb =>
          obtain rfl : v = .bool b := by simpa using hb
          simp [asVal, hu, Op.equalIn, run_underlying hu, Sem.run_bind]
      case int k =>
        obtain ⟨_, rfl⟩ := h
        obtain ⟨z, hz, _⟩ := ht.int 0 k rfl
        match cs, ht.1, hz with
        | [v], _, hz =>
          obtain rfl : v = .int k z := by simpa using hz
          simp [asVal, hu, Op.equalIn, run_underlying hu, Sem.run_bind]
      case struct fs =>
        obtain ⟨h1, h2, _⟩ := lay_struct hu h'
        have hf : P.fieldsOf t = fs := by simp [Program.fieldsOf, hu]
        have hv : asVal P t cs = .agg cs.toArray := by simp [asVal, hu]
        rw [hv, run_equalIn_struct w D t _ _ (by rw [hf]; exact hu) h2, hf]
        exact eqFs_refl (fun t l cs w h ht => eq_refl d t l cs D w (by omega) h ht) cs w fs.toList 0 l h1 (by simpa using ht)
theorem eql_flat {d : Nat} {t : TypeId} {fs : Array Field} {l : List (Option IntKind)} {cs : List Value} (w : World) (hu : P.underlying t = some (.struct fs)) (hd : d ≤ 10000) (h : lay P d t = some l) (ht : Typed l cs) :
    (Op.equalIn 10000 t (.agg cs.toArray) (.agg cs.toArray)).run P w = .ok true w := by
  have := eq_refl d t l cs 10000 w hd h ht
  simpa [asVal, hu] using this
variable {H : Type} {enc : TypeId × Value → H} {w : World} {base : Nat} {spare : Nat → Bool} {held : Bool}
end
end Go.Proofs.YtpanapepcbbagaaGreat
namespace Go.Proofs.YtpanapepcbbagaaGreat
open Go.RowKit Go.WideShapes Go.ChangeShapes Go.Deep
set_option linter.unusedVariables false
set_option linter.unusedSimpArgs false
/-- A slice of n elements, of m cells each: its cells. -/
def IsRow (w : World) (m : Nat) (v : Value) (n : Nat) (xs : List Value) : Prop :=
  xs.length = n * m ∧ ((n = 0 ∧ (v = .slice none 0 0 ∨ ∃ a cap, v = .slice (some a) 0 cap)) ∨
   ∃ b off cap, v = .slice (some ⟨b, off, none⟩) n cap ∧ 0 < n ∧ n ≤ cap ∧ cap ≤ maxLen ∧ b < w.heap.size ∧ w.rangeAt b off xs)
def RowTyped (l : List (Option IntKind)) (n : Nat) (xs : List Value) : Prop := xs.length = n * l.length ∧ ∀ i, i < n → Typed l ((xs.drop (i * l.length)).take l.length)
theorem rangeAt_ext {w w' : World} {b off : Nat} {xs : List Value} (h : w.rangeAt b off xs) (hx : Ext w w') (hb : b < w.heap.size) : w'.rangeAt b off xs := fun j v hv => (hx.cell hb).trans (h j v hv)
theorem IsRow.ext {w w' : World} {m n : Nat} {v : Value} {xs : List Value} (h : IsRow w m v n xs) (hx : Ext w w') : IsRow w' m v n xs := by
  obtain ⟨h0, h | ⟨b, off, cap, h1, g0, g1, g2, h2, h3⟩⟩ := h
  · exact ⟨h0, .inl h⟩
  · exact ⟨h0, .inr ⟨b, off, cap, h1, g0, g1, g2, Nat.lt_of_lt_of_le h2 hx.size, rangeAt_ext h3 hx h2⟩⟩
theorem take_drop_take (xs : List Value) (i m : Nat) : (xs.take ((i + 1) * m)).drop (i * m) = (xs.drop (i * m)).take m := by
  rw [List.drop_take]
  congr 1
  rw [Nat.add_mul, Nat.one_mul]
  omega
theorem RowTyped.one {l : List (Option IntKind)} : ∀ {n : Nat} {xs : List Value}, RowTyped l n xs → ∀ v ∈ xs, v.oneCell' = true
  | 0, xs, h, v, hv => by
    have := h.1
    rw [Nat.zero_mul] at this
    rw [List.length_eq_zero_iff.1 this] at hv
    cases hv
  | n + 1, xs, h, v, hv => by
    obtain ⟨h1, h2⟩ := h
    rw [Nat.add_mul, Nat.one_mul] at h1
    have e : xs = xs.take (n * l.length) ++ (xs.drop (n * l.length)).take l.length := by
      rw [List.take_of_length_le (l := xs.drop (n * l.length)) (by simp; omega), List.take_append_drop]
    rw [e] at hv
    rcases List.mem_append.1 hv with hv | hv
    · have hlen : (xs.take (n * l.length)).length = n * l.length := by rw [List.length_take]; exact Nat.min_eq_left (by omega)
      refine RowTyped.one (n := n) (xs := xs.take (n * l.length)) ⟨hlen, fun i hi => ?_⟩ v hv
      have := h2 i (by omega)
      have hle : (i + 1) * l.length ≤ n * l.length := Nat.mul_le_mul_right _ hi
      rw [← take_drop_take] at this ⊢
      rwa [List.take_take, Nat.min_eq_left hle]
    · exact (h2 n (by omega)).one v hv
section
variable {P : Program} {H : Type} {enc : TypeId × Value → H} {w : World}
end
def HL : List (Option IntKind) := [some .u64, none, some .i64, some .i64, some .i64, some .i64, some .i64, some .u64, some .u32, some .u64, some .u16, some .u16, some .i64, some .i64, some .i64, some .i64, some .i64]
def ML : List (Option IntKind) := [some .i64, none, none, none, none, none, none, some .i64, some .u64, some .u32, some .u64, some .u16, some .u16, some .i64, some .i64, some .i64, some .i64]
def PL : List (Option IntKind) := [some .u16, some .u32, none, none, none, none] ++ List.replicate 16 (some .i64) ++ List.replicate 29 none ++ ML ++ [some .u64, some .u32, some .u64, some .u16, some .u16, some .u64, some .u32, some .u64, some .u16, some .u16] ++ List.replicate 11 (some .i64)
def SL : List (Option IntKind) := some .i64 :: ML
theorem lay_port : lay Tryz.prog 6 60 = some PL := by kernel_rfl
theorem lay_sent : lay Tryz.prog 6 71 = some SL := by kernel_rfl
/-- What a bridge reads as: its first cells; its ports', its messages', its places' cells, and how many of each. -/
structure Br where
  hd : List Value
  np : Nat
  ps : List Value
  no : Nat
  os : List Value
  nf : Nat
  fl : List Value
structure Br.ok (B : Br) : Prop where
  hd : Typed HL B.hd
  ps : RowTyped PL B.np B.ps
  os : RowTyped SL B.no B.os
  fl : RowTyped [some .i64] B.nf B.fl
/-- The cells of a bridge's value. -/
def BrC (w : World) (c : Array Value) (B : Br) : Prop :=
  ∃ s1 s2 s3, c = (B.hd ++ [s1, s2, s3]).toArray ∧ IsRow w 89 s1 B.np B.ps ∧ IsRow w 18 s2 B.no B.os ∧ IsRow w 1 s3 B.nf B.fl
theorem BrC.ext {w w' : World} {c : Array Value} {B : Br} (h : BrC w c B) (hx : Ext w w') : BrC w' c B := by
  obtain ⟨s1, s2, s3, h0, h1, h2, h3⟩ := h
  exact ⟨s1, s2, s3, h0, h1.ext hx, h2.ext hx, h3.ext hx⟩
end Go.Proofs.YtpanapepcbbagaaGreat
namespace Go.Proofs.YtpanapepcbbagaaGreat
open Go.RowKit Go.WideShapes Go.ChangeShapes Go.Deep
set_option linter.unusedVariables false
set_option linter.unusedSimpArgs false
theorem IsRow.form {w : World} {m n : Nat} {v : Value} {xs : List Value} (h : IsRow w m v n xs) : ∃ a cap, v = .slice a n cap ∧ n ≤ 9223372036854775807 ∧ (0 < n → ∃ b off, a = some ⟨b, off, none⟩ ∧ b < w.heap.size ∧ n ≤ cap ∧ cap ≤ 9223372036854775807 ∧ w.rangeAt b off xs) := by
  obtain ⟨_, ⟨rfl, rfl | ⟨a, cap, rfl⟩⟩ | ⟨b, off, cap, rfl, h0, h1, h2, h3, h4⟩⟩ := h
  · exact ⟨none, 0, rfl, by simp, fun h => by simp at h⟩
  · exact ⟨some a, cap, rfl, by simp, fun h => by simp at h⟩
  · unfold maxLen at h2
    exact ⟨_, cap, rfl, by omega, fun _ => ⟨b, off, rfl, h3, h1, h2, h4⟩⟩
theorem BrC.facts {w : World} {c : Array Value} {B : Br} (h : BrC w c B) (hl : B.hd.length = 17) : ∃ s1 s2 s3, c.size = 20 ∧ (∀ j, j < 17 → c[j]? = B.hd[j]?) ∧ c[17]? = some s1 ∧ c[18]? = some s2 ∧ c[19]? = some s3 ∧ IsRow w 89 s1 B.np B.ps ∧ IsRow w 18 s2 B.no B.os ∧ IsRow w 1 s3 B.nf B.fl := by
  obtain ⟨s1, s2, s3, rfl, h1, h2, h3⟩ := h
  refine ⟨s1, s2, s3, by simp [hl], fun j hj => ?_, ?_, ?_, ?_, h1, h2, h3⟩
  · simp only [List.getElem?_toArray]
    exact List.getElem?_append_left (by omega)
  · simp [hl]
  · simp [hl]
  · simp [hl]
/-- A box's cells in a later world. -/
theorem box_cell {w w' : World} {c : Array Value} {t : TypeId} (hx : Ext (w.alloc (.cells c t)) w') : ∀ j, w'.cell? ⟨w.heap.size, j, none⟩ = c[j]? :=
  fun j => (hx.cell (by simp)).trans (World.cell?_alloc_at _ _ _ _ rfl)
theorem size_br : (Tryz.prog.info? 35).map (·.size) = some 20 := by kernel_rfl
theorem size_port : (Tryz.prog.info? 60).map (·.size) = some 89 := by kernel_rfl
def zc : Option IntKind → Value
  | none => .bool false
  | some k => .int k 0
/-- A port's cells at first. -/
def PZ : Array Value := (PL.map zc).toArray
theorem size_PZ : PZ.size = 89 := by kernel_rfl
theorem zero_port : ∀ w, (zeroValue 60).run Tryz.prog w = .ok (.agg PZ) w := (zero_of_info (P := Tryz.prog) (t := 60) (v := .agg PZ) (n := 89) (by kernel_rfl)).1
/-- Guards for the walk's own arms: the next operation is a load, a store, of this type. -/
theorem at_load (T : TypeId) {P : Program} {ops : Array Oper} {rest : List Oper} {a : Act} {w : World} {Q : Exit → Act → World → Prop} {d : Option Tmp} {x : Operand} {ty : TypeId} {pos : String} {af : Array Edge}
    (h : wpList P ops Q ({ dst := d, op := .load T x, type := ty, pos := pos, after := af, guard := none } :: rest) a w) : wpList P ops Q ({ dst := d, op := .load T x, type := ty, pos := pos, after := af, guard := none } :: rest) a w := h
theorem at_store (T : TypeId) {P : Program} {ops : Array Oper} {rest : List Oper} {a : Act} {w : World} {Q : Exit → Act → World → Prop} {d : Option Tmp} {x y : Operand} {ty : TypeId} {pos : String} {af : Array Edge}
    (h : wpList P ops Q ({ dst := d, op := .store T x y, type := ty, pos := pos, after := af, guard := none } :: rest) a w) : wpList P ops Q ({ dst := d, op := .store T x y, type := ty, pos := pos, after := af, guard := none } :: rest) a w := h
theorem at_loadG (T : TypeId) {P : Program} {ops : Array Oper} {rest : List Oper} {a : Act} {w : World} {Q : Exit → Act → World → Prop} {d : Option Tmp} {x : Operand} {ty : TypeId} {pos : String} {af : Array Edge} {gd : Nat × Bool}
    (h : wpList P ops Q ({ dst := d, op := .load T x, type := ty, pos := pos, after := af, guard := some gd } :: rest) a w) : wpList P ops Q ({ dst := d, op := .load T x, type := ty, pos := pos, after := af, guard := some gd } :: rest) a w := h
/-- Where the operation's guard lets it run. -/
theorem wpList_load_rowG {P : Program} {ops : Array Oper} {rest : List Oper} {o : Oper} {a : Act} {w : World} {Q : Exit → Act → World → Prop} (hw : Region.wanted o (yielded ops a.tmps) = true) (ty : TypeId) (x : Operand) (ho : o.op = .load ty x)
    (g : Nat) (hx : a.eval x = .pointer (some ⟨g, 0, none⟩)) (t : TypeId) (cs : Array Value) (fr : Nat × Nat) (d : TypeDesc) (hg : w.heap[g]? = some (.cells cs t fr))
    (hu : P.underlying ty = some d) (hd : (match d with | .struct _ | .array _ _ => true | _ => false) = true) (hi : (P.info? ty).map (·.size) = some cs.size)
    (h : wpList P ops Q rest (a.put o.dst (.agg cs)) w) : wpList P ops Q (o :: rest) a w :=
  BigFrame.wpList_want hw fun _ hK => wp_load_row ty x ho g hx t cs fr d hg hu hd hi (hK _ _ h)
theorem wpList_load_midG {P : Program} {ops : Array Oper} {rest : List Oper} {op : Oper} {a : Act} {w : World} {Q : Exit → Act → World → Prop} (hw : Region.wanted op (yielded ops a.tmps) = true) (ty : TypeId) (x : Operand) (ho : op.op = .load ty x)
    (b o : Nat) (hx : a.eval x = .pointer (some ⟨b, o, none⟩)) (cs : List Value) (d : TypeDesc) (hc : w.rangeAt b o cs)
    (hu : P.underlying ty = some d) (hd : d.isRow = true) (hi : (P.info? ty).map (·.size) = some cs.length)
    (h : wpList P ops Q rest (a.put op.dst (.agg cs.toArray)) w) : wpList P ops Q (op :: rest) a w :=
  BigFrame.wpList_want hw fun _ hK => wp_load_mid ty x ho b o hx cs d hc hu hd hi (hK _ _ h)
/-- A whole value into the box that was made last. -/
theorem wpList_store_new {P : Program} {ops : Array Oper} {rest : List Oper} {op : Oper} {a : Act} {w : World} {Q : Exit → Act → World → Prop} (hgd : op.guard = none) (t : TypeId) (x y : Operand) (ho : op.op = .store t x y)
    (c c' : Array Value) (hx : a.eval x = .pointer (some ⟨w.heap.size, 0, none⟩)) (hy : a.eval y = .agg c') (hi : (P.info? t).map (·.size) = some c'.size) (hs : c.size = c'.size) (h1 : c'.all (·.oneCell') = true)
    (h : wpList P ops Q rest (a.put op.dst undef) (w.alloc (.cells c' t))) : wpList P ops Q (op :: rest) a (w.alloc (.cells c t)) :=
  wpList_plain hgd fun K hK => by
    unfold Oper.wp execOp
    simp only [ho, hx, hy, Instr.storeAt, Instr.sureAddr, Sem.run_bind, Sem.run_pure, Result.andThen_ok, run_storeVar_new w t c c' hi hs h1]
    exact hK _ _ h
/-- Likewise, into a box whose cells are told by another type. -/
theorem wpList_store_new2 {P : Program} {ops : Array Oper} {rest : List Oper} {op : Oper} {a : Act} {w : World} {Q : Exit → Act → World → Prop} (hgd : op.guard = none) (hdst : op.dst = none) (t t0 : TypeId) (x y : Operand) (ho : op.op = .store t x y)
    (c c' : Array Value) (n : Nat) (hx : a.eval x = .pointer (some ⟨n, 0, none⟩)) (hn : n = w.heap.size) (hy : a.eval y = .agg c') (hi : (P.info? t).map (·.size) = some c'.size) (hs : c.size = c'.size) (h1 : c'.toList.all (·.oneCell') = true)
    (h : wpList P ops Q rest a (w.alloc (.cells c' t0))) : wpList P ops Q (op :: rest) a (w.alloc (.cells c t0)) :=
  wpList_plain hgd fun K hK => by
    subst hn
    unfold Oper.wp execOp
    simp only [ho, hx, hy, Instr.storeAt, Instr.sureAddr, Sem.run_bind, Sem.run_pure, Result.andThen_ok, run_storeVar_row _ _ t0 t c c' (heap_alloc_new w _) hi hs (by rw [← Array.all_toList]; exact h1), World.setRow_alloc_new]
    exact hK _ _ (by rw [show a.put op.dst undef = a by rw [hdst]; rfl]; exact h)
/-- Likewise, the world behind it under a name. -/
theorem wpList_store_new3 {P : Program} {ops : Array Oper} {rest : List Oper} {op : Oper} {a : Act} {w : World} {Q : Exit → Act → World → Prop} (hgd : op.guard = none) (hdst : op.dst = none) (t t0 : TypeId) (x y : Operand) (ho : op.op = .store t x y)
    (c c' : Array Value) (n : Nat) (hx : a.eval x = .pointer (some ⟨n, 0, none⟩)) (hn : n = w.heap.size) (hy : a.eval y = .agg c') (hi : (P.info? t).map (·.size) = some c'.size) (hs : c.size = c'.size) (h1 : c'.toList.all (·.oneCell') = true)
    (h : ∀ w' : World, w' = w.alloc (.cells c' t0) → wpList P ops Q rest a w') : wpList P ops Q (op :: rest) a (w.alloc (.cells c t0)) :=
  wpList_plain hgd fun K hK => by
    subst hn
    unfold Oper.wp execOp
    simp only [ho, hx, hy, Instr.storeAt, Instr.sureAddr, Sem.run_bind, Sem.run_pure, Result.andThen_ok, run_storeVar_row _ _ t0 t c c' (heap_alloc_new w _) hi hs (by rw [← Array.all_toList]; exact h1), World.setRow_alloc_new]
    exact hK _ _ (by rw [show a.put op.dst undef = a by rw [hdst]; rfl]; exact h _ rfl)
/-- A port's cells. -/
def port (ps : List Value) (i : Nat) : List Value := (ps.drop (i * 89)).take 89
theorem port_typed {B : Br} (ho : B.ok) {i : Nat} (hi : i < B.np) : Typed PL (port B.ps i) := ho.ps.2 i hi
theorem port_range {w : World} {b off : Nat} {ps : List Value} (h : w.rangeAt b off ps) (i : Nat) : w.rangeAt b (off + i * 89) (port ps i) := fun j v hv => by
  unfold port at hv
  rw [List.getElem?_take] at hv
  split at hv
  · rw [List.getElem?_drop] at hv
    have := h _ _ hv
    rwa [← Nat.add_assoc] at this
  · cases hv
end Go.Proofs.YtpanapepcbbagaaGreat
namespace Go.Proofs.YtpanapepcbbagaaGreat
open Go.RowKit Go.WideShapes Go.ChangeShapes Go.Deep
set_option linter.unusedVariables false
set_option linter.unusedSimpArgs false
/-- What a call owns reads as a row. -/
theorem own_row {w : World} {base m n : Nat} {e : TypeId} {v : Value} {xs : List Value} (h : w.ownsRow base e m v n xs) : IsRow w m v n xs := by
  obtain ⟨h0, ⟨rfl, rfl⟩ | ⟨g, cap, cur, rfl, hb, hg, hn, hm, hs, ht⟩⟩ := h
  · exact ⟨h0, .inl ⟨rfl, .inl rfl⟩⟩
  · refine ⟨h0, ?_⟩
    by_cases hz : n = 0
    · exact .inl ⟨hz, .inr ⟨_, cap, by rw [hz]⟩⟩
    · refine .inr ⟨g, 0, cap, rfl, by omega, hn, hm, (Array.getElem?_eq_some_iff.1 hg).1, fun j v hv => ?_⟩
      rw [← ht, List.getElem?_take] at hv
      split at hv
      · rw [Nat.zero_add, cell_of_row w g j cur e (0, 0) hg]
        simpa using hv
      · cases hv
theorem own_form {w : World} {base m n : Nat} {e : TypeId} {v : Value} {xs : List Value} (h : w.ownsRow base e m v n xs) : ∃ a cap, v = .slice a n cap := by
  obtain ⟨h0, ⟨rfl, rfl⟩ | ⟨g, cap, cur, rfl, hb, hg, hn, hm, hs, ht⟩⟩ := h
  · exact ⟨_, _, rfl⟩
  · exact ⟨_, _, rfl⟩
theorem info_of {P : Program} {t : TypeId} {z : Value} {n b : Nat} (h : (P.info? t).map (fun i => (i.zero, i.size, i.bytes)) = some (some z, n, b)) : ∃ i, P.info? t = some i ∧ i.zero = some z ∧ i.size = n ∧ i.bytes = b := by
  obtain ⟨i, hi, he⟩ := Option.map_eq_some_iff.1 h
  simp only [Prod.mk.injEq] at he
  exact ⟨i, hi, he.1, he.2.1, he.2.2⟩
def SZ : Array Value := (SL.map zc).toArray
theorem size_SZ : SZ.size = 18 := by kernel_rfl
theorem info_sent : (Tryz.prog.info? 71).map (fun i => (i.zero, i.size, i.bytes)) = some (some (.agg SZ), 18, 96) := by kernel_rfl
theorem info_int : (Tryz.prog.info? 3).map (fun i => (i.zero, i.size, i.bytes)) = some (some (.int .i64 0), 1, 8) := by kernel_rfl
theorem heap_lt {w : World} {X : Nat} {o : Obj} (h : w.heap[X]? = some o) : X < w.heap.size := (Array.getElem?_eq_some_iff.1 h).1
theorem own_set {w : World} {base m n : Nat} {e : TypeId} {v : Value} {xs : List Value} (h : w.ownsRow base e m v n xs) {X j : Nat} {C : Array Value} {t : TypeId} {fr : Nat × Nat} (hX : w.heap[X]? = some (.cells C t fr)) (ht : t ≠ e) (u : Value) :
    (w.setCell ⟨X, j, none⟩ u).ownsRow base e m v n xs := by
  refine ⟨h.1, ?_⟩
  rcases h.2 with hn | ⟨g, cap, cur, rfl, hb, hg, rest⟩
  · exact .inl hn
  · refine .inr ⟨g, cap, cur, rfl, hb, ?_, rest⟩
    rw [Below.heap_setCell _ _ _ _ (fun e' => ?_)]
    · exact hg
    · subst e'
      rw [hg] at hX
      cases hX
      exact ht rfl
theorem ext_setRow {a w : World} (h : Ext a w) {g : Nat} (hg : a.heap.size ≤ g) (cs : Array Value) : Ext a (w.setRow g cs) :=
  Below.trans h ⟨rfl, rfl, rfl, by simp, fun k hk => setRow_other w g k cs (by omega)⟩
end Go.Proofs.YtpanapepcbbagaaGreat
namespace Go.Proofs.YtpanapepcbbagaaGreat
open Go.RowKit Go.WideShapes Go.ChangeShapes Go.Deep
set_option linter.unusedVariables false
set_option linter.unusedSimpArgs false
/-- A region whose last operations stand in one order: the world behind its draw gets a name. -/
theorem wp_region_tail {P : Program} {id : Nat} {Q : Exit → Act → World → Prop} {a : Act} {w : World} {l : List Oper} (n : Nat) (hm : P.follows .mixedOrders = true) (hB : Region.lexTailB .any l.toArray n = true)
    (h : ∀ w2 : World, w2 = w.drew → wpStill P l.toArray w2 (fun a' => wpList P l.toArray Q (l.drop n) a' w2) (l.take n) a) : (Code.region id l.toArray true).wp P Q a w :=
  wp_region_still_tail n hm hB (h _ rfl)
def Br.setp (B : Br) (k j : Nat) (v : Value) : Br := { B with ps := B.ps.set (k * 89 + j) v }
def Br.gi (B : Br) (k j : Nat) : Int := match B.ps[k * 89 + j]? with | some (.int _ z) => z | _ => 0
def Br.gb (B : Br) (k j : Nat) : Bool := match B.ps[k * 89 + j]? with | some (.bool z) => z | _ => false
def Br.hi (B : Br) (j : Nat) : Int := match B.hd[j]? with | some (.int _ z) => z | _ => 0
def Br.hb (B : Br) (j : Nat) : Bool := match B.hd[j]? with | some (.bool z) => z | _ => false
theorem rowTyped_iff {l : List (Option IntKind)} {n : Nat} {xs : List Value} : RowTyped l n xs ↔ xs.length = n * l.length ∧ ∀ i, i < n → ∀ j c, l[j]? = some c → ∃ v, xs[i * l.length + j]? = some v ∧ cellOk c v := by
  constructor
  · rintro ⟨h1, h2⟩
    refine ⟨h1, fun i hi j c hj => ?_⟩
    obtain ⟨v, hv, ho⟩ := (h2 i hi).2 j c hj
    refine ⟨v, ?_, ho⟩
    rw [List.getElem?_take] at hv
    split at hv
    · simpa using hv
    · cases hv
  · rintro ⟨h1, h2⟩
    refine ⟨h1, fun i hi => ⟨?_, fun j c hj => ?_⟩⟩
    · have hle : (i + 1) * l.length ≤ n * l.length := Nat.mul_le_mul_right _ hi
      rw [Nat.add_mul, Nat.one_mul] at hle
      simp; omega
    · obtain ⟨v, hv, ho⟩ := h2 i hi j c hj
      refine ⟨v, ?_, ho⟩
      have hl : j < l.length := (List.getElem?_eq_some_iff.1 hj).1
      rw [List.getElem?_take, if_pos hl]
      simpa using hv
theorem Br.ok.len {B : Br} (ho : B.ok) : B.ps.length = B.np * 89 := ho.ps.1
theorem Br.ok.cell {B : Br} (ho : B.ok) {k : Nat} (hk : k < B.np) {j : Nat} {c : Option IntKind} (hj : PL[j]? = some c) : ∃ v, B.ps[k * 89 + j]? = some v ∧ cellOk c v :=
  (rowTyped_iff.1 ho.ps).2 k hk j c hj
theorem Br.ok.gi {B : Br} (ho : B.ok) {k : Nat} (hk : k < B.np) (j : Nat) {K : IntKind} (hj : PL[j]? = some (some K)) : B.ps[k * 89 + j]? = some (.int K (B.gi k j)) := by
  obtain ⟨v, hv, z, rfl, _⟩ := ho.cell hk hj
  rw [hv, Br.gi, hv]
theorem Br.ok.gw {B : Br} (ho : B.ok) {k : Nat} (hk : k < B.np) (j : Nat) {K : IntKind} (hj : PL[j]? = some (some K)) : (Lit.int K (B.gi k j)).wf = true := by
  obtain ⟨v, hv, z, rfl, hz⟩ := ho.cell hk hj
  rw [Br.gi, hv]
  exact hz
theorem Br.ok.gb {B : Br} (ho : B.ok) {k : Nat} (hk : k < B.np) (j : Nat) (hj : PL[j]? = some none) : B.ps[k * 89 + j]? = some (.bool (B.gb k j)) := by
  obtain ⟨v, hv, z, rfl⟩ := ho.cell hk hj
  rw [hv, Br.gb, hv]
theorem Br.ok.hi {B : Br} (ho : B.ok) (j : Nat) {K : IntKind} (hj : HL[j]? = some (some K)) : B.hd[j]? = some (.int K (B.hi j)) := by
  obtain ⟨z, hv, _⟩ := ho.hd.int j K hj
  rw [hv, Br.hi, hv]
theorem Br.ok.hw {B : Br} (ho : B.ok) (j : Nat) {K : IntKind} (hj : HL[j]? = some (some K)) : (Lit.int K (B.hi j)).wf = true := by
  obtain ⟨z, hv, hz⟩ := ho.hd.int j K hj
  rw [Br.hi, hv]
  exact hz
theorem Br.ok.hb {B : Br} (ho : B.ok) (j : Nat) (hj : HL[j]? = some none) : B.hd[j]? = some (.bool (B.hb j)) := by
  obtain ⟨z, hv⟩ := ho.hd.bool j hj
  rw [hv, Br.hb, hv]
theorem Br.ok.setp {B : Br} (ho : B.ok) {k j : Nat} {v : Value} (hk : k < B.np) (hj : j < 89) (hv : ∀ c, PL[j]? = some c → cellOk c v) : (B.setp k j v).ok := by
  refine ⟨ho.hd, ?_, ho.os, ho.fl⟩
  obtain ⟨h1, h2⟩ := rowTyped_iff.1 ho.ps
  refine rowTyped_iff.2 ⟨by simpa [Br.setp] using h1, fun i hi j' c hj' => ?_⟩
  obtain ⟨u, hu, hc⟩ := h2 i hi j' c hj'
  have hl : j' < 89 := (List.getElem?_eq_some_iff.1 hj').1
  have hlen : PL.length = 89 := rfl
  rw [hlen] at hu ⊢
  by_cases e : k * 89 + j = i * 89 + j'
  · have e1 : i = k := by omega
    have e2 : j' = j := by omega
    subst e1; subst e2
    refine ⟨v, ?_, hv c hj'⟩
    show (B.ps.set _ v)[_]? = _
    rw [List.getElem?_set_self (List.getElem?_eq_some_iff.1 hu).1]
  · refine ⟨u, ?_, hc⟩
    show (B.ps.set _ v)[_]? = _
    rw [List.getElem?_set_ne e]
    exact hu
theorem Br.ok.setI {B : Br} (ho : B.ok) {k : Nat} (hk : k < B.np) (j : Nat) (K : IntKind) (z : Int) (hj : PL[j]? = some (some K)) (hz : (Lit.int K z).wf = true) : (B.setp k j (.int K z)).ok :=
  ho.setp hk (List.getElem?_eq_some_iff.1 hj).1 (fun c hc => by rw [hj] at hc; cases hc; exact ⟨z, rfl, hz⟩)
theorem Br.ok.setB {B : Br} (ho : B.ok) {k : Nat} (hk : k < B.np) (j : Nat) (z : Bool) (hj : PL[j]? = some none) : (B.setp k j (.bool z)).ok :=
  ho.setp hk (List.getElem?_eq_some_iff.1 hj).1 (fun c hc => by rw [hj] at hc; cases hc; exact ⟨z, rfl⟩)
@[simp] theorem np_setp (B : Br) (k j : Nat) (v : Value) : (B.setp k j v).np = B.np := rfl
@[simp] theorem no_setp (B : Br) (k j : Nat) (v : Value) : (B.setp k j v).no = B.no := rfl
@[simp] theorem nf_setp (B : Br) (k j : Nat) (v : Value) : (B.setp k j v).nf = B.nf := rfl
@[simp] theorem os_setp (B : Br) (k j : Nat) (v : Value) : (B.setp k j v).os = B.os := rfl
@[simp] theorem fl_setp (B : Br) (k j : Nat) (v : Value) : (B.setp k j v).fl = B.fl := rfl
@[simp] theorem hd_setp (B : Br) (k j : Nat) (v : Value) : (B.setp k j v).hd = B.hd := rfl
@[simp] theorem hi_setp (B : Br) (k j i : Nat) (v : Value) : (B.setp k j v).hi i = B.hi i := rfl
@[simp] theorem hb_setp (B : Br) (k j i : Nat) (v : Value) : (B.setp k j v).hb i = B.hb i := rfl
@[simp] theorem len_setp (B : Br) (k j : Nat) (v : Value) : (B.setp k j v).ps.length = B.ps.length := by simp [Br.setp]
theorem cell_setp_ne (B : Br) (k j j' : Nat) (v : Value) (h : j ≠ j') : (B.setp k j v).ps[k * 89 + j']? = B.ps[k * 89 + j']? := by simp [Br.setp, h]
theorem gb_setp_ne (B : Br) (k j j' : Nat) (v : Value) (h : j ≠ j') : (B.setp k j v).gb k j' = B.gb k j' := by rw [Br.gb, cell_setp_ne _ _ _ _ _ h]; rfl
/-- A cell of the head set. -/
def Br.seth (B : Br) (j : Nat) (v : Value) : Br := { B with hd := B.hd.set j v }
@[simp] theorem np_seth (B : Br) (j : Nat) (v : Value) : (B.seth j v).np = B.np := rfl
@[simp] theorem len_seth (B : Br) (j : Nat) (v : Value) : (B.seth j v).ps.length = B.ps.length := rfl
@[simp] theorem gi_seth (B : Br) (k i j : Nat) (v : Value) : (B.seth j v).gi k i = B.gi k i := rfl
@[simp] theorem gb_seth (B : Br) (k i j : Nat) (v : Value) : (B.seth j v).gb k i = B.gb k i := rfl
/-- A whole port set. -/
def Br.setPort (B : Br) (k : Nat) (l : List Value) : Br := { B with ps := B.ps.take (k * 89) ++ l ++ B.ps.drop (k * 89 + 89) }
theorem setPort_at {B : Br} {k : Nat} {l : List Value} (hl : l.length = 89) (hk : k * 89 + 89 ≤ B.ps.length) (i : Nat) :
    (B.setPort k l).ps[i]? = if k * 89 ≤ i ∧ i < k * 89 + 89 then l[i - k * 89]? else B.ps[i]? := by
  show (B.ps.take (k * 89) ++ l ++ B.ps.drop (k * 89 + 89))[i]? = _
  have h1 : (B.ps.take (k * 89)).length = k * 89 := by rw [List.length_take]; omega
  rw [List.append_assoc]
  by_cases a : i < k * 89
  · rw [List.getElem?_append_left (by omega), List.getElem?_take, if_pos a, if_neg (by omega)]
  · rw [List.getElem?_append_right (by omega), h1]
    by_cases b : i < k * 89 + 89
    · rw [List.getElem?_append_left (by omega), if_pos ⟨by omega, b⟩]
    · rw [List.getElem?_append_right (by omega), List.getElem?_drop, if_neg (by omega), hl]
      congr 1; omega
theorem Br.ext_ps {B C : Br} (h1 : B.hd = C.hd) (h2 : B.np = C.np) (h3 : ∀ i : Nat, B.ps[i]? = C.ps[i]?) (h4 : B.no = C.no) (h5 : B.os = C.os) (h6 : B.nf = C.nf) (h7 : B.fl = C.fl) : B = C := by
  obtain ⟨⟩ := B; obtain ⟨⟩ := C
  simp only [Br.mk.injEq]
  exact ⟨h1, h2, List.ext_getElem? h3, h4, h5, h6, h7⟩
theorem setPort_self {B : Br} {k : Nat} (hk : k * 89 + 89 ≤ B.ps.length) : B.setPort k (port B.ps k) = B := by
  refine Br.ext_ps rfl rfl (fun i => ?_) rfl rfl rfl rfl
  rw [setPort_at (by simp [port]; omega) hk]
  split
  · rename_i h
    unfold port
    rw [List.getElem?_take, if_pos (by omega), List.getElem?_drop]
    congr 1; omega
  · rfl
theorem port_len {B : Br} {k : Nat} (hk : k * 89 + 89 ≤ B.ps.length) : (port B.ps k).length = 89 := by simp [port]; omega
theorem port_at {B : Br} {k j : Nat} (hj : j < 89) : (port B.ps k)[j]? = B.ps[k * 89 + j]? := by
  unfold port
  rw [List.getElem?_take, if_pos hj, List.getElem?_drop]
def Mut (F : Nat → Prop) (w w' : World) : Prop := w'.os = w.os ∧ w'.tape = w.tape ∧ w'.output = w.output ∧ w.heap.size ≤ w'.heap.size ∧ ∀ k, k < w.heap.size → ¬ F k → w'.heap[k]? = w.heap[k]?
theorem Mut.refl (F : Nat → Prop) (w : World) : Mut F w w := ⟨rfl, rfl, rfl, Nat.le_refl _, fun _ _ _ => rfl⟩
theorem Mut.mono {F G : Nat → Prop} {w w' : World} (h : Mut F w w') (hFG : ∀ k, k < w.heap.size → F k → G k) : Mut G w w' :=
  ⟨h.1, h.2.1, h.2.2.1, h.2.2.2.1, fun k hk hg => h.2.2.2.2 k hk (fun hf => hg (hFG k hk hf))⟩
theorem Mut.trans {F : Nat → Prop} {a b c : World} (h : Mut F a b) (k : Mut F b c) : Mut F a c :=
  ⟨k.1.trans h.1, k.2.1.trans h.2.1, k.2.2.1.trans h.2.2.1, Nat.le_trans h.2.2.2.1 k.2.2.2.1, fun i hi hf => (k.2.2.2.2 i (Nat.lt_of_lt_of_le hi h.2.2.2.1) hf).trans (h.2.2.2.2 i hi hf)⟩
theorem Ext.mut {a b : World} (h : Ext a b) (F : Nat → Prop) : Mut F a b := ⟨h.os, h.tape, h.output, h.size, fun k hk _ => h.block k hk⟩
theorem Mut.ext {a b : World} {F : Nat → Prop} (h : Mut F a b) (hF : ∀ k, k < a.heap.size → ¬ F k) : Ext a b := ⟨h.1, h.2.1, h.2.2.1, h.2.2.2.1, fun k hk => h.2.2.2.2 k hk (hF k hk)⟩
theorem Mut.alloc {F : Nat → Prop} {a b : World} (h : Mut F a b) (o : Obj) : Mut F a (b.alloc o) := h.trans (((Ext.refl b).alloc o).mut F)
theorem Mut.drewN {F : Nat → Prop} {a b : World} (h : Mut F a b) (n : Nat) : Mut F a (b.drewN n) := h.trans (((Ext.refl b).drewN n).mut F)
theorem Mut.drew {F : Nat → Prop} {a b : World} (h : Mut F a b) : Mut F a b.drew := h.trans (((Ext.refl b).drew).mut F)
theorem Mut.setCell {F : Nat → Prop} {a b : World} (h : Mut F a b) {p : Addr} (hp : F p.block ∨ a.heap.size ≤ p.block) (v : Value) : Mut F a (b.setCell p v) :=
  ⟨h.1, h.2.1, h.2.2.1, by simpa using h.2.2.2.1, fun k hk hf => by
    rw [Below.heap_setCell _ _ _ _ (fun e => ?_)]
    · exact h.2.2.2.2 k hk hf
    · rcases hp with hp | hp
      · exact hf (e ▸ hp)
      · omega⟩
theorem Mut.setRow {F : Nat → Prop} {a b : World} (h : Mut F a b) {g : Nat} (hp : F g ∨ a.heap.size ≤ g) (cs : Array Value) : Mut F a (b.setRow g cs) :=
  ⟨h.1, h.2.1, h.2.2.1, by simpa using h.2.2.2.1, fun k hk hf => by
    rw [setRow_other b g k cs (fun e => ?_)]
    · exact h.2.2.2.2 k hk hf
    · rcases hp with hp | hp
      · exact hf (e ▸ hp)
      · omega⟩
theorem Mut.setCells {F : Nat → Prop} {a : World} {g : Nat} (hp : F g ∨ a.heap.size ≤ g) : ∀ (vs : List Value) (o : Nat) {b : World}, Mut F a b → Mut F a (b.setCells g o vs)
  | [], _, _, h => h
  | v :: r, o, _, h => Mut.setCells hp r (o + 1) (h.setCell hp v)
/-- What lies outside holds its cells. -/
theorem Mut.heap {F : Nat → Prop} {a b : World} (h : Mut F a b) {k : Nat} (hk : k < a.heap.size) (hf : ¬ F k) : b.heap[k]? = a.heap[k]? := h.2.2.2.2 k hk hf
theorem Mut.size {F : Nat → Prop} {a b : World} (h : Mut F a b) : a.heap.size ≤ b.heap.size := h.2.2.2.1
theorem Mut.cell {F : Nat → Prop} {a b : World} (h : Mut F a b) {p : Addr} (hk : p.block < a.heap.size) (hf : ¬ F p.block) : b.cell? p = a.cell? p := by
  simp only [World.cell?, h.heap hk hf]
/-- The bridge B lies in box X; its ports in block g; its other rows in blocks of F. -/
def BrG (w : World) (F : Nat → Prop) (X g : Nat) (B : Br) : Prop :=
  F X ∧ F g ∧ ∃ cap cur s2 s3, w.heap[X]? = some (.cells (B.hd ++ [.slice (some ⟨g, 0, none⟩) B.np cap, s2, s3]).toArray 35 (0, 0)) ∧
    w.heap[g]? = some (.cells cur 60 (0, 0)) ∧ cur.size = cap * 89 ∧ B.np ≤ cap ∧ cap ≤ maxLen ∧ cur.toList.take (B.np * 89) = B.ps ∧
    w.ownsRow 0 71 18 s2 B.no B.os ∧ w.ownsRow 0 3 1 s3 B.nf B.fl ∧ (∀ h, s2.ownBlock = some h → F h) ∧ (∀ h, s3.ownBlock = some h → F h)
theorem owns_keep {w w' : World} {base m n : Nat} {e : TypeId} {v : Value} {xs : List Value} (h : w.ownsRow base e m v n xs) (hk : ∀ g, v.ownBlock = some g → g < w.heap.size → w'.heap[g]? = w.heap[g]?) : w'.ownsRow base e m v n xs := by
  refine ⟨h.1, ?_⟩
  rcases h.2 with hn | ⟨g, cap, cur, rfl, hb, hg, rest⟩
  · exact .inl hn
  · exact .inr ⟨g, cap, cur, rfl, hb, (hk g rfl (heap_lt hg)).trans hg, rest⟩
theorem BrG.mono {w : World} {F G : Nat → Prop} {X g : Nat} {B : Br} (h : BrG w F X g B) (hFG : ∀ k, F k → G k) : BrG w G X g B := by
  obtain ⟨h1, h2, cap, cur, s2, s3, a, b, c, d, e, f, p, q, r, s⟩ := h
  exact ⟨hFG _ h1, hFG _ h2, cap, cur, s2, s3, a, b, c, d, e, f, p, q, fun k hk => hFG _ (r k hk), fun k hk => hFG _ (s k hk)⟩
/-- Where no block of F turned. -/
theorem BrG.keep {w w' : World} {F : Nat → Prop} {X g : Nat} {B : Br} (h : BrG w F X g B) (hk : ∀ k, F k → k < w.heap.size → w'.heap[k]? = w.heap[k]?) : BrG w' F X g B := by
  obtain ⟨h1, h2, cap, cur, s2, s3, a, b, c, d, e, f, p, q, r, s⟩ := h
  exact ⟨h1, h2, cap, cur, s2, s3, (hk X h1 (heap_lt a)).trans a, (hk g h2 (heap_lt b)).trans b, c, d, e, f, owns_keep p (fun k hk' hl => hk k (r k hk') hl), owns_keep q (fun k hk' hl => hk k (s k hk') hl), r, s⟩
theorem BrG.ext {w w' : World} {F : Nat → Prop} {X g : Nat} {B : Br} (h : BrG w F X g B) (hx : Ext w w') : BrG w' F X g B := h.keep fun k _ hk => hx.block k hk
theorem BrG.alloc {w : World} {F : Nat → Prop} {X g : Nat} {B : Br} (h : BrG w F X g B) (o : Obj) : BrG (w.alloc o) F X g B := h.ext ((Ext.refl w).alloc o)
theorem BrG.drewN {w : World} {F : Nat → Prop} {X g : Nat} {B : Br} (h : BrG w F X g B) (n : Nat) : BrG (w.drewN n) F X g B := h.ext ((Ext.refl w).drewN n)
theorem BrG.drew {w : World} {F : Nat → Prop} {X g : Nat} {B : Br} (h : BrG w F X g B) : BrG w.drew F X g B := h.ext ((Ext.refl w).drew)
/-- Where other blocks turned alone. -/
theorem BrG.apart {w w' : World} {F G : Nat → Prop} {X g : Nat} {B : Br} (h : BrG w F X g B) (hm : Mut G w w') (hd : ∀ k, k < w.heap.size → F k → ¬ G k) : BrG w' F X g B := h.keep fun k hf hk => hm.heap hk (hd k hk hf)
theorem BrG.lt {w : World} {F : Nat → Prop} {X g : Nat} {B : Br} (h : BrG w F X g B) : X < w.heap.size ∧ g < w.heap.size ∧ X ≠ g := by
  obtain ⟨h1, h2, cap, cur, s2, s3, a, b, _⟩ := h
  refine ⟨heap_lt a, heap_lt b, fun e => ?_⟩
  subst e
  rw [b] at a
  simp at a
theorem BrG.F1 {w : World} {F : Nat → Prop} {X g : Nat} {B : Br} (h : BrG w F X g B) : F X := h.1
theorem BrG.F2 {w : World} {F : Nat → Prop} {X g : Nat} {B : Br} (h : BrG w F X g B) : F g := h.2.1
theorem BrG.setCell {w : World} {F : Nat → Prop} {X g : Nat} {B : Br} (h : BrG w F X g B) (i : Nat) (hi : i < B.np * 89) (v : Value) : BrG (w.setCell ⟨g, i, none⟩ v) F X g { B with ps := B.ps.set i v } := by
  have hne := h.lt.2.2
  obtain ⟨h1, h2, cap, cur, s2, s3, a, b, c, d, e, f, p, q, r, s⟩ := h
  refine ⟨h1, h2, cap, cur.setIfInBounds i v, s2, s3, (heap_setCell_other _ _ _ _ hne).trans a, heap_setCell_same _ _ _ _ _ _ b, by simpa using c, d, e, ?_, own_set p b (by decide) v, own_set q b (by decide) v, r, s⟩
  show (cur.setIfInBounds i v).toList.take (B.np * 89) = B.ps.set i v
  rw [← f, Array.toList_setIfInBounds, List.take_set]
theorem BrG.setp {w : World} {F : Nat → Prop} {X g : Nat} {B : Br} (h : BrG w F X g B) {k j : Nat} (hk : k < B.np) (hj : j < 89) (v : Value) : BrG (w.setCell ⟨g, k * 89 + j, none⟩ v) F X g (B.setp k j v) :=
  h.setCell _ (by omega) v
theorem BrG.seth {w : World} {F : Nat → Prop} {X g : Nat} {B : Br} (h : BrG w F X g B) {j : Nat} (hj : j < B.hd.length) (v : Value) : BrG (w.setCell ⟨X, j, none⟩ v) F X g (B.seth j v) := by
  have hne := h.lt.2.2
  obtain ⟨h1, h2, cap, cur, s2, s3, a, b, c, d, e, f, p, q, r, s⟩ := h
  refine ⟨h1, h2, cap, cur, s2, s3, ?_, (heap_setCell_other _ _ _ _ hne.symm).trans b, c, d, e, f, own_set p a (by decide) v, own_set q a (by decide) v, r, s⟩
  rw [heap_setCell_same _ _ _ _ _ _ a]
  congr 2
  show _ = (B.hd.set j v ++ _).toArray
  rw [← List.set_append_left _ _ hj]
  simp
theorem len89 {B : Br} (ho : B.ok) {k : Nat} (hk : k < B.np) : k * 89 + 89 ≤ B.ps.length := by rw [ho.len]; omega
theorem BrG.frozen {w : World} {F : Nat → Prop} {X g : Nat} {B : Br} (h : BrG w F X g B) (i : Nat) : w.frozen? ⟨g, i, none⟩ = false := by
  obtain ⟨h1, h2, cap, cur, s2, s3, a, b, _⟩ := h
  exact frozen_of_row _ _ _ _ _ b
theorem BrG.cellg {w : World} {F : Nat → Prop} {X g : Nat} {B : Br} (h : BrG w F X g B) {i : Nat} (hi : i < B.np * 89) : w.cell? ⟨g, i, none⟩ = B.ps[i]? := by
  obtain ⟨h1, h2, cap, cur, s2, s3, a, b, c, d, e, f, _⟩ := h
  rw [cell_of_row _ _ _ _ _ _ b, ← f, List.getElem?_take, if_pos hi]
  simp
theorem BrG.cellX {w : World} {F : Nat → Prop} {X g : Nat} {B : Br} (h : BrG w F X g B) (ho : B.ok) {i : Nat} (hi : i < 17) : w.cell? ⟨X, i, none⟩ = B.hd[i]? := by
  obtain ⟨h1, h2, cap, cur, s2, s3, a, b, _⟩ := h
  have hl : B.hd.length = 17 := ho.hd.1
  rw [cell_of_row _ _ _ _ _ _ a]
  simp only [List.getElem?_toArray]
  exact List.getElem?_append_left (by omega)
theorem BrG.cell17 {w : World} {F : Nat → Prop} {X g : Nat} {B : Br} (h : BrG w F X g B) (ho : B.ok) : ∃ cap, w.cell? ⟨X, 17, none⟩ = some (.slice (some ⟨g, 0, none⟩) B.np cap) ∧ B.np ≤ cap ∧ cap ≤ 9223372036854775807 := by
  obtain ⟨h1, h2, cap, cur, s2, s3, a, b, _, d, e, _⟩ := h
  have hl : B.hd.length = 17 := ho.hd.1
  unfold maxLen at e
  refine ⟨cap, ?_, d, by omega⟩
  rw [cell_of_row _ _ _ _ _ _ a]
  simp [hl]
theorem BrG.range {w : World} {F : Nat → Prop} {X g : Nat} {B : Br} (h : BrG w F X g B) {k : Nat} (hk : k < B.np) : w.rangeAt g (k * 89) (port B.ps k) := fun j v hv => by
  have hj : j < 89 := by
    have := (List.getElem?_eq_some_iff.1 hv).1
    simp [port] at this; omega
  rw [h.cellg (by omega), ← port_at hj]
  exact hv
theorem BrG.setCellsFrom {F : Nat → Prop} {X g : Nat} : ∀ (vs : List Value) (i : Nat) (w : World) (B : Br), BrG w F X g B → i + vs.length ≤ B.np * 89 → BrG (w.setCells g i vs) F X g { B with ps := B.ps.take i ++ vs ++ B.ps.drop (i + vs.length) }
  | [], i, w, B, h, _ => by
    have e : B.ps.take i ++ [] ++ B.ps.drop (i + 0) = B.ps := by simp
    show BrG w F X g { B with ps := B.ps.take i ++ [] ++ B.ps.drop (i + 0) }
    rw [e]
    exact h
  | v :: r, i, w, B, h, hi => by
    have hl : B.ps.length = B.np * 89 := by
      obtain ⟨h1, h2, cap, cur, s2, s3, a, b, c, d, e, f, _⟩ := h
      have : B.np * 89 ≤ cap * 89 := Nat.mul_le_mul_right _ d
      rw [← f]; simp; omega
    have hi' : i + (r.length + 1) ≤ B.np * 89 := by simpa using hi
    have := BrG.setCellsFrom r (i + 1) _ _ (h.setCell i (by omega) v) (by show i + 1 + r.length ≤ B.np * 89; omega)
    have e : ({ B with ps := B.ps.take i ++ (v :: r) ++ B.ps.drop (i + (v :: r).length) } : Br) = { B with ps := (B.ps.set i v).take (i + 1) ++ r ++ (B.ps.set i v).drop (i + 1 + r.length) } := by
      congr 1
      rw [List.drop_set_of_lt (by omega), List.take_set, List.take_succ_eq_append_getElem (by omega), List.set_append_right _ _ (by simp; omega)]
      have : i - (List.take i B.ps).length = 0 := by simp; omega
      simp only [this, List.set_cons_zero, List.append_assoc, List.cons_append, List.length_cons]
      rw [show i + 1 + r.length = i + (r.length + 1) by omega, List.nil_append]
    rw [e]
    exact this
theorem BrG.setPort {w : World} {F : Nat → Prop} {X g : Nat} {B : Br} (h : BrG w F X g B) {k : Nat} (hk : k < B.np) {l : List Value} (hl : l.length = 89) : BrG (w.setCells g (k * 89) l) F X g (B.setPort k l) := by
  have := BrG.setCellsFrom l (k * 89) w B h (by omega)
  rw [hl] at this
  exact this
theorem BrG.br {w : World} {F : Nat → Prop} {X g : Nat} {B : Br} (h : BrG w F X g B) (hp : 0 < B.np) : ∃ C : Array Value, w.heap[X]? = some (.cells C 35 (0, 0)) ∧ BrC w C B ∧ C.size = B.hd.length + 3 := by
  obtain ⟨h1, h2, cap, cur, s2, s3, a, b, c, d, e, f, p, q, r, s⟩ := h
  refine ⟨_, a, ⟨_, s2, s3, rfl, ?_, own_row p, own_row q⟩, by simp⟩
  have hle : B.np * 89 ≤ cap * 89 := Nat.mul_le_mul_right _ d
  refine ⟨by rw [← f]; simp; omega, .inr ⟨g, 0, cap, rfl, hp, d, e, heap_lt b, fun j v hv => ?_⟩⟩
  rw [← f, List.getElem?_take] at hv
  split at hv
  · rw [Nat.zero_add, cell_of_row _ _ _ _ _ _ b]
    simpa using hv
  · cases hv
end Go.Proofs.YtpanapepcbbagaaGreat
namespace Go.Proofs.YtpanapepcbbagaaGreat
open Go.RowKit Go.WideShapes Go.ChangeShapes Go.Deep
set_option linter.unusedVariables false
set_option linter.unusedSimpArgs false
/-- The answer of a look: yes just if R. -/
def Tells (w : World) (R : Prop) (e : Ending) (w' : World) : Prop := ∃ f : Bool, e = .returned (.bool f) ∧ Ext w w' ∧ (f = true ↔ R)
def TR (a m h d : Int) : Prop := 0 ≤ a ∧ a ≤ 255 ∧ 6 ≤ m ∧ m ≤ 40 ∧ 1 ≤ h ∧ h ≤ 10 ∧ 4 ≤ d ∧ d ≤ 30 ∧ m ≤ 2 * (d - 1) ∧ 2 * (h + 1) ≤ m
def TF (a m h d : Int) : Prop := 0 ≤ a ∧ a ≤ 65535 ∧ 0 ≤ m ∧ m ≤ 65535 ∧ 0 ≤ h ∧ h ≤ 65535 ∧ 0 ≤ d ∧ d ≤ 65535
theorem tright_any (a m h d : Int) (w : World) : Calls Tryz.prog 30 #[.agg #[.int .i64 a, .int .i64 m, .int .i64 h, .int .i64 d]] w (Tells w (TR a m h d)) := by
  go_enter Tryz.func30, Tryz.ntmps30
  go_wp2
  all_goals (go_ret; refine ⟨_, rfl, (Ext.refl w).alloc _, ?_⟩; unfold TR)
  all_goals first
    | (simp; omega)
    | skip
theorem tfew_any (a m h d : Int) (w : World) : Calls Tryz.prog 31 #[.agg #[.int .i64 a, .int .i64 m, .int .i64 h, .int .i64 d]] w (Tells w (TF a m h d)) := by
  go_enter Tryz.func31, Tryz.ntmps31
  go_wp2
  all_goals (go_ret; refine ⟨_, rfl, (Ext.refl w).alloc _, ?_⟩; unfold TF)
  all_goals first
    | (simp; omega)
    | skip
def HdR (B : Br) : Prop := TR (B.hi 2) (B.hi 3) (B.hi 4) (B.hi 5) ∧ TF (B.hi 13) (B.hi 14) (B.hi 15) (B.hi 16) ∧ B.hi 2 = 0 ∧ 1 ≤ B.hi 6 ∧ B.hi 6 ≤ 10 ∧ B.np ≤ 32 ∧ -1 ≤ B.hi 12 ∧ B.hi 12 < B.np
def ClkR (B : Br) (k : Nat) : Prop := ∀ j, j < 9 → 0 ≤ B.gi k (6 + j) ∧ B.gi k (6 + j) ≤ 1000
def PortR (B : Br) (k : Nat) : Prop := ClkR B k ∧ TF (B.gi k 78) (B.gi k 79) (B.gi k 80) (B.gi k 81) ∧ TF (B.gi k 82) (B.gi k 83) (B.gi k 84) (B.gi k 85) ∧ TF (B.gi k 64) (B.gi k 65) (B.gi k 66) (B.gi k 67)
/-- A bridge that may be. -/
def RightP (B : Br) : Prop := HdR B ∧ ∀ k, k < B.np → PortR B k
set_option maxRecDepth 100000 in
set_option maxHeartbeats 3000000 in
theorem right_any (c : Array Value) (B : Br) (w : World) (hb : BrC w c B) (ho : B.ok) : Calls Tryz.prog 21 #[.agg c] w (Tells w (RightP B)) := by
  obtain ⟨s1, s2, s3, hz, hhd, c17, c18, c19, r1, -, -⟩ := hb.facts ho.hd.1
  obtain ⟨a1, k1, rfl, m1, hrow⟩ := r1.form
  have HR := Lib.hid hrow
  have HHD := Lib.hid hhd
  have h2 := (hhd 2 (by decide)).trans (ho.hi 2 rfl)
  have h3 := (hhd 3 (by decide)).trans (ho.hi 3 rfl)
  have h4 := (hhd 4 (by decide)).trans (ho.hi 4 rfl)
  have h5 := (hhd 5 (by decide)).trans (ho.hi 5 rfl)
  have h6 := (hhd 6 (by decide)).trans (ho.hi 6 rfl)
  have h12 := (hhd 12 (by decide)).trans (ho.hi 12 rfl)
  have h13 := (hhd 13 (by decide)).trans (ho.hi 13 rfl)
  have h14 := (hhd 14 (by decide)).trans (ho.hi 14 rfl)
  have h15 := (hhd 15 (by decide)).trans (ho.hi 15 rfl)
  have h16 := (hhd 16 (by decide)).trans (ho.hi 16 rfl)
  clear hz hhd hb r1 hrow c18 c19
  have hzp := zero_port
  go_enter Tryz.func21, Tryz.ntmps21
  go_wp2_with fail
  refine (tright_any _ _ _ _ _).mono ?_
  rintro e w1 ⟨f, rfl, hx1, hf⟩
  have hbx1 := box_cell hx1
  have HF := Lib.hid hf
  clear hf
  go_wp2_with fail
  refine (tfew_any _ _ _ _ _).mono ?_
  rintro e w2 ⟨g, rfl, hx2, hg⟩
  have hx3 := hx1.trans hx2
  have hbx2 := box_cell hx3
  have HG := Lib.hid hg
  clear hg hbx1 hx1 hx2
  go_wp2_with fail
  all_goals first
    | (go_ret
       refine ⟨false, rfl, ((Ext.refl w).alloc _).trans hx3, ⟨(fun h => by cases h), (fun h => ?_)⟩⟩
       obtain ⟨⟨ht, hg', e⟩, -⟩ := h
       first
         | exact absurd (HF.out.2 ht) ‹_›
         | exact absurd (HG.out.2 hg') ‹_›
         | omega)
    | skip
  have HH : Hid (HdR B) := Lib.hid ⟨HF.out.1 ‹_›, HG.out.1 ‹_›, by omega, by omega, by omega, by omega, by omega, by omega⟩
  clear HF HG h2 h3 h4 h5 h6 h12 h13 h14 h15 h16
  go_loopw [5] (fun i wr => ∃ j : Nat, j ≤ B.np ∧ i = .int .i64 j ∧ Ext (w.alloc (.cells c 35)) wr ∧ Hid (∀ k, k < j → PortR B k)) (fun i _ => B.np - (intOf i).toNat)
  case atStart => exact ⟨0, by omega, rfl, hx3, Lib.hid (fun k hk => by omega)⟩
  case round =>
    clear hx3 hbx2
    obtain ⟨j, hj, rfl, hxr, hall⟩ := hrel
    have hbx := box_cell hxr
    by_cases hlt : j < B.np
    · obtain ⟨b, off, rfl, hb, hlc, hcm, hc⟩ := HR.out (by omega)
      have hpr := Lib.hid (port_range (rangeAt_ext (rangeAt_ext hc ((Ext.refl w).alloc _) hb) hxr (by simp; omega)) j)
      have hpt := Lib.hid (port_typed ho hlt)
      have p6 := (port_at (B := B) (k := j) (j := 6) (by decide)).trans (ho.gi hlt 6 rfl)
      have p7 := (port_at (B := B) (k := j) (j := 7) (by decide)).trans (ho.gi hlt 7 rfl)
      have p8 := (port_at (B := B) (k := j) (j := 8) (by decide)).trans (ho.gi hlt 8 rfl)
      have p9 := (port_at (B := B) (k := j) (j := 9) (by decide)).trans (ho.gi hlt 9 rfl)
      have p10 := (port_at (B := B) (k := j) (j := 10) (by decide)).trans (ho.gi hlt 10 rfl)
      have p11 := (port_at (B := B) (k := j) (j := 11) (by decide)).trans (ho.gi hlt 11 rfl)
      have p12 := (port_at (B := B) (k := j) (j := 12) (by decide)).trans (ho.gi hlt 12 rfl)
      have p13 := (port_at (B := B) (k := j) (j := 13) (by decide)).trans (ho.gi hlt 13 rfl)
      have p14 := (port_at (B := B) (k := j) (j := 14) (by decide)).trans (ho.gi hlt 14 rfl)
      have q78 := Lib.hid ((port_at (B := B) (k := j) (j := 78) (by decide)).trans (ho.gi hlt 78 rfl))
      have q79 := Lib.hid ((port_at (B := B) (k := j) (j := 79) (by decide)).trans (ho.gi hlt 79 rfl))
      have q80 := Lib.hid ((port_at (B := B) (k := j) (j := 80) (by decide)).trans (ho.gi hlt 80 rfl))
      have q81 := Lib.hid ((port_at (B := B) (k := j) (j := 81) (by decide)).trans (ho.gi hlt 81 rfl))
      have q82 := Lib.hid ((port_at (B := B) (k := j) (j := 82) (by decide)).trans (ho.gi hlt 82 rfl))
      have q83 := Lib.hid ((port_at (B := B) (k := j) (j := 83) (by decide)).trans (ho.gi hlt 83 rfl))
      have q84 := Lib.hid ((port_at (B := B) (k := j) (j := 84) (by decide)).trans (ho.gi hlt 84 rfl))
      have q85 := Lib.hid ((port_at (B := B) (k := j) (j := 85) (by decide)).trans (ho.gi hlt 85 rfl))
      have q64 := Lib.hid ((port_at (B := B) (k := j) (j := 64) (by decide)).trans (ho.gi hlt 64 rfl))
      have q65 := Lib.hid ((port_at (B := B) (k := j) (j := 65) (by decide)).trans (ho.gi hlt 65 rfl))
      have q66 := Lib.hid ((port_at (B := B) (k := j) (j := 66) (by decide)).trans (ho.gi hlt 66 rfl))
      have q67 := Lib.hid ((port_at (B := B) (k := j) (j := 67) (by decide)).trans (ho.gi hlt 67 rfl))
      obtain ⟨p, hp⟩ : ∃ p, port B.ps j = p := ⟨_, rfl⟩
      rw [hp] at hpr hpt p6 p7 p8 p9 p10 p11 p12 p13 p14 q78 q79 q80 q81 q82 q83 q84 q85 q64 q65 q66 q67
      have hpz := Lib.hid (show (Tryz.prog.info? 60).map (·.size) = some p.length by rw [hpt.out.1]; exact size_port)
      clear hc hp
      have hps := Lib.hid (show (Tryz.prog.info? 60).map (·.size) = some p.toArray.size by rw [List.size_toArray]; exact hpz.out)
      have hpl := Lib.hid (show PZ.size = p.toArray.size by rw [size_PZ, List.size_toArray]; exact hpt.out.1.symm)
      have hpo := Lib.hid (all_oneCell_toArray hpt.out.one)
      go_wp2_with (first | fail | ((with_reducible refine at_load 60 ?_); refine wpList_load_mid rfl 60 _ rfl b (off + j * 89) rfl p _ hpr.out Tryz.underlying60 rfl hpz.out ?_) | ((with_reducible refine at_store 60 ?_); refine wpList_store_new rfl 60 _ _ rfl PZ p.toArray rfl rfl hps.out hpl.out hpo.out ?_))
      have hk9 : Hid (∀ k, k < 9 → [Value.int .i64 (B.gi j 6), Value.int .i64 (B.gi j 7), Value.int .i64 (B.gi j 8), Value.int .i64 (B.gi j 9), Value.int .i64 (B.gi j 10), Value.int .i64 (B.gi j 11), Value.int .i64 (B.gi j 12), Value.int .i64 (B.gi j 13), Value.int .i64 (B.gi j 14)][k]? = some (.int .i64 (B.gi j (6 + k)))) := Lib.hid (fun k hk =>
        match k, hk with
        | 0, _ => rfl | 1, _ => rfl | 2, _ => rfl | 3, _ => rfl | 4, _ => rfl | 5, _ => rfl | 6, _ => rfl | 7, _ => rfl | 8, _ => rfl)
      have hx9 : Hid (Ext (w.alloc (.cells c 35)) (((wr.alloc (.cells p.toArray 60)).alloc (.cells #[.int .i64 (B.gi j 6), .int .i64 (B.gi j 7), .int .i64 (B.gi j 8), .int .i64 (B.gi j 9), .int .i64 (B.gi j 10), .int .i64 (B.gi j 11), .int .i64 (B.gi j 12), .int .i64 (B.gi j 13), .int .i64 (B.gi j 14)] 54)).alloc (.cells #[.int .i64 (B.gi j 6), .int .i64 (B.gi j 7), .int .i64 (B.gi j 8), .int .i64 (B.gi j 9), .int .i64 (B.gi j 10), .int .i64 (B.gi j 11), .int .i64 (B.gi j 12), .int .i64 (B.gi j 13), .int .i64 (B.gi j 14)] 3))) := Lib.hid (((hxr.alloc _).alloc _).alloc _)
      have hpx := Lib.hid (show ∀ w' : World, Ext ((wr.alloc (.cells p.toArray 60)).alloc (.cells #[.int .i64 (B.gi j 6), .int .i64 (B.gi j 7), .int .i64 (B.gi j 8), .int .i64 (B.gi j 9), .int .i64 (B.gi j 10), .int .i64 (B.gi j 11), .int .i64 (B.gi j 12), .int .i64 (B.gi j 13), .int .i64 (B.gi j 14)] 54)) w' → ∀ j, w'.cell? ⟨wr.heap.size, j, none⟩ = p[j]? from
        fun w' hx j => (hx.cell (by simp; omega)).trans ((World.cell?_alloc_past _ _ _ (by simp)).trans ((World.cell?_alloc_at _ _ _ _ rfl).trans (by simp))))
      clear p6 p7 p8 p9 p10 p11 p12 p13 p14
      go_loop [9] (fun i => ∃ k : Nat, k ≤ 9 ∧ i = .int .i64 k ∧ Hid (∀ n, n < k → 0 ≤ B.gi j (6 + n) ∧ B.gi j (6 + n) ≤ 1000)) (fun i => 9 - (intOf i).toNat)
      case atStart => exact ⟨0, by omega, rfl, Lib.hid (fun n hn => by omega)⟩
      case round =>
        obtain ⟨k, hk, rfl, hn⟩ := hrel
        by_cases hlk : k < 9
        · have hz := hk9.out k hlk
          obtain ⟨hlz, hz'⟩ := List.getElem?_eq_some_iff.1 hz
          obtain ⟨z, hze⟩ : ∃ z, B.gi j (6 + k) = z := ⟨_, rfl⟩
          rw [hze] at hz hz'
          have HZ := Lib.hid hze
          clear hze
          go_wp2_with fail
          all_goals first
            | (go_ret
               refine ⟨false, rfl, ((Ext.refl w).alloc _).trans hx9.out, ⟨(fun h => by cases h), (fun h => ?_)⟩⟩
               have h1 := (h.2 j hlt).1 k hlk
               rw [HZ.out] at h1
               omega)
            | skip
          go_round
          case rel =>
            refine ⟨k + 1, by omega, by go_num, Lib.hid (fun n hn' => ?_)⟩
            by_cases e : n = k
            · subst e
              rw [HZ.out]
              omega
            · exact hn.out n (by omega)
          case measure => simp [intOf]; omega
        · have hclk : Hid (ClkR B j) := Lib.hid (fun n hn' => hn.out n (by omega))
          have a78 := q78.out
          have a79 := q79.out
          have a80 := q80.out
          have a81 := q81.out
          go_wp2_with fail
          refine (tfew_any _ _ _ _ _).mono ?_
          rintro e w5 ⟨f5, rfl, hx5, hf5⟩
          have hb5 := hpx.out w5 ((Ext.refl _).alloc _ |>.trans hx5)
          have HF5 := Lib.hid hf5
          clear hf5 a78 a79 a80 a81
          have a82 := q82.out
          have a83 := q83.out
          have a84 := q84.out
          have a85 := q85.out
          go_wp2_with fail
          refine (tfew_any _ _ _ _ _).mono ?_
          rintro e w6 ⟨f6, rfl, hx6, hf6⟩
          have hb6 := hpx.out w6 (((Ext.refl _).alloc _ |>.trans hx5).trans hx6)
          have HF6 := Lib.hid hf6
          clear hf6 a82 a83 a84 a85 hb5
          have a64 := q64.out
          have a65 := q65.out
          have a66 := q66.out
          have a67 := q67.out
          go_wp2_with fail
          refine (tfew_any _ _ _ _ _).mono ?_
          rintro e w7 ⟨f7, rfl, hx7, hf7⟩
          have HF7 := Lib.hid hf7
          clear hf7 a64 a65 a66 a67 hb6
          have hx8 := hx9.out.trans (hx5.trans (hx6.trans hx7))
          clear hx5 hx6 hx7
          cases f5 <;> cases f6 <;> cases f7
          all_goals
            go_wp2_with fail
          all_goals first
            | (go_ret
               refine ⟨false, rfl, ((Ext.refl w).alloc _).trans hx8, ⟨(fun h => by cases h), (fun h => ?_)⟩⟩
               obtain ⟨h1, h2, h3, h4⟩ := h.2 j hlt
               first | exact HF5.out.2 h2 | exact HF6.out.2 h3 | exact HF7.out.2 h4)
            | skip
          go_roundw
          case rel =>
            refine ⟨j + 1, by omega, by go_num, hx8, Lib.hid (fun n hn' => ?_)⟩
            by_cases e : n = j
            · subst e
              exact ⟨hclk.out, HF5.out.1 trivial, HF6.out.1 trivial, HF7.out.1 trivial⟩
            · exact hall.out n (by omega)
          case measure => simp [intOf]; omega
    · go_wp2_with fail
      go_ret
      exact ⟨true, rfl, ((Ext.refl w).alloc _).trans hxr, ⟨fun _ => ⟨HH.out, fun k hk => hall.out k (by omega)⟩, fun _ => rfl⟩⟩
end Go.Proofs.YtpanapepcbbagaaGreat
