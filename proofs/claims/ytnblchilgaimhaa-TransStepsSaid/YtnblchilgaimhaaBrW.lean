/- Examples laid by a law: a port, a slice of one port, a bridge. No statement is proved here. -/
import Derived.Test.YtnblchilgaimhaaBrL
import Derived.Great.BuildSlice
namespace Go.Proofs.Ytnblchilgaimhaa
open Go.RowKit Go.WideShapes Go.ChangeShapes Go.Deep
set_option linter.unusedVariables false
set_option linter.unusedSimpArgs false

theorem at_build (T : TypeId) {P : Program} {ops : Array Oper} {rest : List Oper} {a : Act} {w : World} {Q : Exit → Act → World → Prop} {d : Option Tmp} {x : Array (Nat × Operand)} {ty : TypeId} {pos : String} {af : Array Edge}
    (h : wpList P ops Q ({ dst := d, op := .build T x, type := ty, pos := pos, after := af, guard := none } :: rest) a w) : wpList P ops Q ({ dst := d, op := .build T x, type := ty, pos := pos, after := af, guard := none } :: rest) a w := h
theorem at_slice (T : TypeId) {P : Program} {ops : Array Oper} {rest : List Oper} {a : Act} {w : World} {Q : Exit → Act → World → Prop} {d : Option Tmp} {n : Nat} {x : Array (Nat × Operand)} {ty : TypeId} {pos : String} {af : Array Edge}
    (h : wpList P ops Q ({ dst := d, op := .buildSlice T n x, type := ty, pos := pos, after := af, guard := none } :: rest) a w) : wpList P ops Q ({ dst := d, op := .buildSlice T n x, type := ty, pos := pos, after := af, guard := none } :: rest) a w := h

theorem wpList_build2 {P : Program} {ops : Array Oper} {rest : List Oper} {o : Oper} {a : Act} {w : World} {Q : Exit → Act → World → Prop} (hg : o.guard = none) (t : TypeId) (parts : Array (Nat × Operand)) (ho : o.op = .build t parts)
    (vals : List (Nat × Value)) (hv : parts.toList.map (fun x => (x.1, a.eval x.2)) = vals) (cells : Array Value) (hb : P.built t vals = some cells)
    (h : wpList P ops Q rest (a.put o.dst (.agg cells)) w) : wpList P ops Q (o :: rest) a w := by
  have e : (parts.map fun (i, x) => (i, a.eval x)).toList = vals := by rw [Array.toList_map]; exact hv
  exact wpList_build hg t parts ho (by rw [e, hb]; rfl) (by rw [e, hb]; exact h)

/-- A slice literal of one port. -/
theorem wpList_slice1 {ops : Array Oper} {rest : List Oper} {o : Oper} {a : Act} {w : World} {Q : Exit → Act → World → Prop} (hg : o.guard = none) (parts : Array (Nat × Operand)) (ho : o.op = .buildSlice 29 1 parts)
    (vals : List (Nat × Value)) (hv : parts.toList.map (fun x => (x.1, a.eval x.2)) = vals) (cells : Array Value) (hf : Instr.fill (fun i => some (i * 89, 89)) ((Array.range (1 * 89)).map (PZ[· % PZ.size]!)) vals = some cells)
    (h : wpList Try.prog ops Q rest (a.put o.dst (.slice (some ⟨w.heap.size, 0, none⟩) 1 1)) (w.alloc (.cells cells 53))) : wpList Try.prog ops Q (o :: rest) a w := by
  have e : (parts.map fun (i, x) => (i, a.eval x)).toList = vals := by rw [Array.toList_map]; exact hv
  obtain ⟨i1, hi1, hz1, hs1, hb1⟩ := info_of info_port
  exact wpList_buildSlice hg 29 53 1 parts ho cells i1 (.agg PZ) Try.underlying29 hi1 hz1 (by rw [hs1]; decide) (by rw [hs1]; decide) (by rw [e, hs1]; exact hf) h

/-- A bridge of one port that a call laid. -/
theorem one_port {w : World} {hd : List Value} {p : List Value} (hp : p.length = 89) {C : Array Value} (hC : C = (hd ++ [Value.slice (some ⟨w.heap.size, 0, none⟩) 1 1, Value.slice none 0 0, Value.slice none 0 0]).toArray) :
    BrG ((w.alloc (.cells p.toArray 53)).alloc (.cells C 33)) (fun k => w.heap.size ≤ k) (w.heap.size + 1) w.heap.size ⟨hd, 1, p, 0, [], 0, []⟩ := by
  refine ⟨by simp, by simp, 1, p.toArray, .slice none 0 0, .slice none 0 0, ?_, (heap_alloc_old _ _ (by simp)).trans (heap_alloc_new _ _), by simpa using hp, Nat.le_refl _, by decide, by simp [List.take_of_length_le, hp],
    ⟨rfl, .inl ⟨rfl, rfl⟩⟩, ⟨rfl, .inl ⟨rfl, rfl⟩⟩, (fun h hh => by cases hh), (fun h hh => by cases hh)⟩
  subst hC
  exact heap_alloc2_new _ _ _

/-- A port's and a head's cells at first, as lists. -/
def pz : List Value := PL.map zc
def hz : List Value := HL.map zc
theorem typed_zero (l : List (Option IntKind)) (hl : (l.all fun c => match c with | none => true | some k => (Lit.int k 0).wf) = true) : Typed l (l.map zc) := by
  refine ⟨by simp, fun j k hj => ⟨zc k, by simp [List.getElem?_map, hj], ?_⟩⟩
  have := List.all_eq_true.1 hl k (List.mem_of_getElem? hj)
  cases k with
  | none => exact ⟨false, rfl⟩
  | some K => exact ⟨0, rfl, this⟩
theorem pz_ok : Typed PL pz := typed_zero PL (by decide)
theorem hz_ok : Typed HL hz := typed_zero HL (by decide)
theorem one_ok {hd p : List Value} (h1 : Typed HL hd) (h2 : Typed PL p) : Br.ok ⟨hd, 1, p, 0, [], 0, []⟩ := by
  refine ⟨h1, ⟨by simpa using h2.1, fun i hi => ?_⟩, ⟨rfl, fun i hi => absurd hi (Nat.not_lt_zero i)⟩, ⟨rfl, fun i hi => absurd hi (Nat.not_lt_zero i)⟩⟩
  obtain rfl : i = 0 := by
    have : i < 1 := hi
    omega
  have := h2.1
  rw [Nat.zero_mul, List.drop_zero, List.take_of_length_le (Nat.le_of_eq this)]
  exact h2

end Go.Proofs.Ytnblchilgaimhaa
