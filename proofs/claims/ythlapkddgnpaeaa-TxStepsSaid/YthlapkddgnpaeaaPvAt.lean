/- A port that lies in a row of memory, at any place: what it reads as, what a store into it leaves. No statement is proved here. -/
import Derived.Test.YthlapkddgnpaeaaBoxBt
namespace Go.Proofs.Ythlapkddgnpaeaa
open Go.RowKit Go.BigFrame Go.WideShapes Go.ChangeShapes Go.Deep
set_option linter.unusedVariables false
set_option linter.unusedSimpArgs false

/-- A port lies in block G, from place o on, and reads as L. -/
def Pv (w : World) (G o : Nat) (L : List Value) : Prop := ∃ C T, w.heap[G]? = some (.cells C T (0, 0)) ∧ L.length = 89 ∧ (C.toList.drop o).take 89 = L
/-- Of all that there was at most this port turned. -/
def Pm (G o : Nat) (w w' : World) : Prop := Mut (fun n => n = G) w w' ∧ ∀ C T, w.heap[G]? = some (.cells C T (0, 0)) → ∃ C', w'.heap[G]? = some (.cells C' T (0, 0)) ∧ C'.size = C.size ∧ ∀ i, (i < o ∨ o + 89 ≤ i) → C'[i]? = C[i]?

theorem Pv.lt {w : World} {G o : Nat} {L : List Value} (h : Pv w G o L) : G < w.heap.size := by obtain ⟨C, T, h1, _⟩ := h; exact heap_lt h1
theorem Pv.len {w : World} {G o : Nat} {L : List Value} (h : Pv w G o L) : L.length = 89 := by obtain ⟨C, T, _, h2, _⟩ := h; exact h2
theorem Pv.keep {w w' : World} {G o : Nat} {L : List Value} (h : Pv w G o L) (hk : w'.heap[G]? = w.heap[G]?) : Pv w' G o L := by obtain ⟨C, T, h1, h2, h3⟩ := h; exact ⟨C, T, hk.trans h1, h2, h3⟩
theorem Pv.ext {w w' : World} {G o : Nat} {L : List Value} (h : Pv w G o L) (hx : Ext w w') : Pv w' G o L := h.keep (hx.block _ h.lt)
theorem Pv.mut {w w' : World} {G o B : Nat} {L : List Value} (h : Pv w G o L) (hm : Mut (fun n => n = B) w w') (hne : G ≠ B) : Pv w' G o L := h.keep (hm.heap h.lt hne)
theorem Pv.cell {w : World} {G o : Nat} {L : List Value} (h : Pv w G o L) {j : Nat} (hj : j < 89) : w.cell? ⟨G, o + j, none⟩ = L[j]? := by
  obtain ⟨C, T, h1, h2, rfl⟩ := h
  rw [cell_of_row _ _ _ _ _ _ h1, List.getElem?_take, if_pos hj, List.getElem?_drop]
  simp
theorem Pv.range {w : World} {G o : Nat} {L : List Value} (h : Pv w G o L) {j n : Nat} {l : List Value} (hl : (L.drop j).take n = l) (hn : j + n ≤ 89) : w.rangeAt G (o + j) l := fun i v hv => by
  subst hl
  rw [List.getElem?_take] at hv
  split at hv
  · rw [List.getElem?_drop] at hv
    rw [show o + j + i = o + (j + i) by omega, h.cell (by omega)]
    exact hv
  · cases hv
theorem Pv.frozen {w : World} {G o : Nat} {L : List Value} (h : Pv w G o L) (i : Nat) : w.frozen? ⟨G, i, none⟩ = false := by
  obtain ⟨C, T, h1, _⟩ := h
  exact frozen_of_row _ _ _ _ _ h1
theorem Pv.box {w : World} {X : Nat} {L : List Value} {T : TypeId} (h : w.heap[X]? = some (.cells L.toArray T (0, 0))) (hl : L.length = 89) : Pv w X 0 L := ⟨_, T, h, hl, by simp [← hl]⟩

theorem Pm.refl (G o : Nat) (w : World) : Pm G o w w := ⟨Mut.refl _ _, fun C T h => ⟨C, h, rfl, fun _ _ => rfl⟩⟩
theorem Pm.trans {G o : Nat} {a b c : World} (h : Pm G o a b) (k : Pm G o b c) : Pm G o a c := by
  refine ⟨h.1.trans k.1, fun C T h0 => ?_⟩
  obtain ⟨C1, h1, s1, e1⟩ := h.2 C T h0
  obtain ⟨C2, h2, s2, e2⟩ := k.2 C1 T h1
  exact ⟨C2, h2, s2.trans s1, fun i hi => (e2 i hi).trans (e1 i hi)⟩
theorem Ext.pm {a b : World} (h : Ext a b) (G o : Nat) : Pm G o a b := ⟨h.mut _, fun C T h0 => ⟨C, (h.block _ (heap_lt h0)).trans h0, rfl, fun _ _ => rfl⟩⟩
theorem Pm.ext {G o : Nat} {a b c : World} (h : Pm G o a b) (k : Ext b c) : Pm G o a c := h.trans (k.pm G o)
theorem Pm.new {G o B : Nat} {a b c : World} (h : Pm G o a b) (k : Mut (fun n => n = B) b c) (hB : a.heap.size ≤ B) : Pm G o a c := by
  refine ⟨mut_new h.1 k hB, fun C T h0 => ?_⟩
  obtain ⟨C1, h1, s1, e1⟩ := h.2 C T h0
  have hG := heap_lt h0
  exact ⟨C1, (k.heap (heap_lt h1) (show ¬ G = B by omega)).trans h1, s1, e1⟩
theorem Pm.size {G o : Nat} {a b : World} (h : Pm G o a b) : a.heap.size ≤ b.heap.size := h.1.size
theorem Pm.row {G o X : Nat} {a b : World} {x : Obj} (h : Pm G o a b) (hX : a.heap[X]? = some x) (hne : X ≠ G) : b.heap[X]? = some x := (h.1.heap (heap_lt hX) hne).trans hX
/-- A new box, written as one likes, is no matter. -/
theorem Pm.of_ext {G o X : Nat} {a b c : World} (h : Ext a b) (k : Pm X o b c) (hX : a.heap.size ≤ X) (G' o' : Nat) : Pm G' o' a c := Pm.new (h.pm G' o') k.1 hX
theorem Pm.mutE {G o : Nat} {a b c : World} (h : Ext a b) (k : Pm G o b c) (hG : a.heap.size ≤ G) : Ext a c := Ext.mutE h k.1 (fun n hn e => by have h2 : n = G := e; omega)

/-- What a store of a row into a port leaves. -/
def setL (L : List Value) (j : Nat) (vs : List Value) : List Value := L.take j ++ vs ++ L.drop (j + vs.length)
theorem setL_len {L : List Value} {j : Nat} {vs : List Value} (hj : j + vs.length ≤ L.length) : (setL L j vs).length = L.length := by unfold setL; simp; omega
theorem setL_at {L : List Value} {j : Nat} {vs : List Value} (hj : j + vs.length ≤ L.length) (i : Nat) : (setL L j vs)[i]? = if j ≤ i ∧ i < j + vs.length then vs[i - j]? else L[i]? := by
  unfold setL
  have hz : (L.take j).length = j := by rw [List.length_take]; omega
  rw [List.append_assoc]
  by_cases h1 : i < j
  · rw [List.getElem?_append_left (by omega), List.getElem?_take, if_pos h1, if_neg (by omega)]
  · rw [List.getElem?_append_right (by omega), hz]
    by_cases h2 : i < j + vs.length
    · rw [List.getElem?_append_left (by omega), if_pos (by omega)]
    · rw [List.getElem?_append_right (by omega), if_neg (by omega), List.getElem?_drop]
      congr 1; omega
theorem setL_one {L : List Value} {j : Nat} (v : Value) (hj : j < L.length) : setL L j [v] = L.set j v := by
  apply List.ext_getElem?
  intro i
  rw [setL_at (by simp; omega), List.getElem?_set]
  by_cases e : j = i
  · subst e; simp [hj]
  · rw [if_neg e, if_neg (by simp; omega)]

theorem pv_store {w w' : World} {G o j : Nat} {L : List Value} {vs : List Value} {C : Array Value} {T : TypeId} (h0 : w.heap[G]? = some (.cells C T (0, 0))) (hl : L.length = 89) (he : (C.toList.drop o).take 89 = L) (hj : j + vs.length ≤ 89)
    (hr : w'.heap[G]? = some (.cells (C.toList.take (o + j) ++ vs ++ C.toList.drop (o + j + vs.length)).toArray T (0, 0))) (hm : Mut (fun n => n = G) w w') : Pv w' G o (setL L j vs) ∧ Pm G o w w' := by
  have hCs : o + 89 ≤ C.size := by rw [← he] at hl; simp at hl; omega
  have at_ : ∀ i, (C.toList.take (o + j) ++ vs ++ C.toList.drop (o + j + vs.length))[i]? = if o + j ≤ i ∧ i < o + j + vs.length then vs[i - (o + j)]? else C.toList[i]? := fun i => by
    have := setL_at (L := C.toList) (j := o + j) (vs := vs) (by simp; omega) i
    unfold setL at this
    exact this
  refine ⟨⟨_, T, hr, by rw [setL_len (by omega), hl], ?_⟩, hm, fun C0 T0 h1 => ?_⟩
  · apply List.ext_getElem?
    intro i
    rw [setL_at (by omega), ← he]
    by_cases hi : i < 89
    · rw [List.getElem?_take, if_pos hi, List.getElem?_drop]
      simp only []
      rw [at_, List.getElem?_take, if_pos hi, List.getElem?_drop]
      by_cases h2 : j ≤ i ∧ i < j + vs.length
      · rw [if_pos (by omega), if_pos h2]
        congr 1; omega
      · rw [if_neg (by omega), if_neg h2]
    · rw [List.getElem?_eq_none (by simp; omega), if_neg (by omega), List.getElem?_eq_none (by simp; omega)]
  · rw [h0] at h1
    cases h1
    refine ⟨_, hr, by simp; omega, fun i hi => ?_⟩
    rw [← Array.getElem?_toList, ← Array.getElem?_toList]
    simp only []
    rw [at_, if_neg (by omega)]

/-- A store into a port: the world behind it is a letter. -/
theorem st_pv {P : Program} {ops : Array Oper} {rest : List Oper} {op : Oper} {a : Act} {w : World} {Q : Exit → Act → World → Prop} (hgd : op.guard = none) (hdst : op.dst = none) (ty : TypeId) (x y : Operand) (ho : op.op = .store ty x y)
    (G o j : Nat) (L : List Value) (hp : Pv w G o L) (u : Value) (vs : Array Value) (hx : a.eval x = .pointer (some ⟨G, o + j, none⟩)) (hy : a.eval y = u) (hv : u.cells = vs) (hj : j + vs.size ≤ 89)
    (hi : (P.info? ty).map (·.size) = some vs.size) (h1 : vs.toList.all (·.oneCell') = true)
    (h : ∀ w', Pv w' G o (setL L j vs.toList) → Pm G o w w' → wpList P ops Q rest a w') : wpList P ops Q (op :: rest) a w := by
  obtain ⟨C, T, h0, hl, he⟩ := hp
  have hCs : o + 89 ≤ C.size := by rw [← he] at hl; simp at hl; omega
  refine st_at hgd hdst ty x y ho G (o + j) u vs C _ T hx hy hv h0 (by omega) hi h1 rfl (fun w' hr hm => ?_)
  obtain ⟨a1, a2⟩ := pv_store (vs := vs.toList) h0 hl he (by simpa using hj) (by simpa using hr) hm
  exact h w' a1 a2
theorem wp_st_pv {P : Program} {op : Oper} {a : Act} {w : World} {K : Act → World → Prop} {Q : Exit → Act → World → Prop} (hdst : op.dst = none) (ty : TypeId) (x y : Operand) (ho : op.op = .store ty x y)
    (G o j : Nat) (L : List Value) (hp : Pv w G o L) (u : Value) (vs : Array Value) (hx : a.eval x = .pointer (some ⟨G, o + j, none⟩)) (hy : a.eval y = u) (hv : u.cells = vs) (hj : j + vs.size ≤ 89)
    (hi : (P.info? ty).map (·.size) = some vs.size) (h1 : vs.toList.all (·.oneCell') = true)
    (h : ∀ w', Pv w' G o (setL L j vs.toList) → Pm G o w w' → K a w') : op.wp P a w K Q := by
  obtain ⟨C, T, h0, hl, he⟩ := hp
  have hCs : o + 89 ≤ C.size := by rw [← he] at hl; simp at hl; omega
  refine wp_st_at hdst ty x y ho G (o + j) u vs C _ T hx hy hv h0 (by omega) hi h1 rfl (fun w' hr hm => ?_)
  obtain ⟨a1, a2⟩ := pv_store (vs := vs.toList) h0 hl he (by simpa using hj) (by simpa using hr) hm
  exact h w' a1 a2

/-! ### A port of a bridge -/
theorem BrG.pv {w : World} {F : Nat → Prop} {X g k : Nat} {B : Br} (h : BrG w F X g B) (hk : k < B.np) : Pv w g (k * 89) (port B.ps k) := by
  obtain ⟨h1, h2, cap, cur, s2, s3, a, b, c, d, e, f, rest⟩ := h
  have hle : (k + 1) * 89 ≤ B.np * 89 := Nat.mul_le_mul_right _ hk
  have hcap : B.np * 89 ≤ cap * 89 := Nat.mul_le_mul_right _ d
  refine ⟨cur, _, b, ?_, ?_⟩
  · rw [← f]; unfold port; simp; omega
  · rw [← f]
    unfold port
    rw [List.drop_take, List.take_take, Nat.min_eq_left (by omega)]
theorem BrG.pm {w w' : World} {F : Nat → Prop} {X g k : Nat} {B : Br} (h : BrG w F X g B) (hk : k < B.np) (hm : Pm g (k * 89) w w') {L : List Value} (hp : Pv w' g (k * 89) L) : BrG w' F X g (B.setPort k L) := by
  have hlt := h.lt
  obtain ⟨h1, h2, cap, cur, s2, s3, a, b, c, d, e, f, p, q, r, s⟩ := h
  have hle : (k + 1) * 89 ≤ B.np * 89 := Nat.mul_le_mul_right _ hk
  have hcap : B.np * 89 ≤ cap * 89 := Nat.mul_le_mul_right _ d
  have hps : B.ps.length = B.np * 89 := by rw [← f]; simp; omega
  obtain ⟨C', hC', hs', he'⟩ := hm.2 _ _ b
  obtain ⟨C2, T2, g1, g2, g3⟩ := hp
  rw [hC'] at g1
  cases g1
  have own : ∀ {e : TypeId} {m n : Nat} {v : Value} {xs : List Value}, e ≠ 53 → w.ownsRow 0 e m v n xs → w'.ownsRow 0 e m v n xs := fun {e m n v xs} hne ho => by
    refine ⟨ho.1, ?_⟩
    rcases ho.2 with h0 | ⟨g3, c3, cu3, e1, e2, e3, rest⟩
    · exact .inl h0
    · refine .inr ⟨g3, c3, cu3, e1, e2, ?_, rest⟩
      have hgg : g3 ≠ g := fun e0 => by
        subst e0
        rw [b] at e3
        cases e3
        exact hne rfl
      exact hm.row e3 hgg
  refine ⟨h1, h2, cap, C', s2, s3, hm.row a hlt.2.2, hC', by omega, d, e, ?_, own (by decide) p, own (by decide) q, r, s⟩
  apply List.ext_getElem?
  intro i
  rw [setPort_at g2 (by omega), List.getElem?_take, show (B.setPort k L).np = B.np from rfl]
  by_cases hi : i < B.np * 89
  · rw [if_pos hi]
    by_cases h3 : k * 89 ≤ i ∧ i < k * 89 + 89
    · rw [if_pos h3, ← g3, List.getElem?_take, if_pos (by omega), List.getElem?_drop]
      congr 1; omega
    · rw [if_neg h3, Array.getElem?_toList, he' i (by omega), ← f, List.getElem?_take, if_pos hi, Array.getElem?_toList]
  · rw [if_neg hi, if_neg (by omega), List.getElem?_eq_none (by omega)]
theorem Pm.mutF {G o : Nat} {F : Nat → Prop} {a b : World} (h : Pm G o a b) (hG : F G) : Mut F a b := h.1.mono (fun n _ e => by have h2 : n = G := e; rw [h2]; exact hG)

/-! ### Cells -/
def pI (L : List Value) (j : Nat) : Int := match L[j]? with | some (.int _ z) => z | _ => 0
def pB (L : List Value) (j : Nat) : Bool := match L[j]? with | some (.bool z) => z | _ => false
theorem tpB {L : List Value} (h : Typed PL L) (j : Nat) (hj : PL[j]? = some none) : L[j]? = some (.bool (pB L j)) := by
  obtain ⟨b, hb⟩ := h.bool j hj
  rw [hb, pB, hb]
theorem tpI {L : List Value} (h : Typed PL L) (j : Nat) {K : IntKind} (hj : PL[j]? = some (some K)) : L[j]? = some (.int K (pI L j)) := by
  obtain ⟨z, hz, _⟩ := h.int j K hj
  rw [hz, pI, hz]
theorem tpW {L : List Value} (h : Typed PL L) (j : Nat) {K : IntKind} (hj : PL[j]? = some (some K)) : (Lit.int K (pI L j)).wf = true := by
  obtain ⟨z, hz, hw⟩ := h.int j K hj
  rw [pI, hz]; exact hw
theorem tpL {L : List Value} (h : Typed PL L) : L.length = 89 := h.1
theorem Typed.setL {l : List (Option IntKind)} {L : List Value} (h : Typed l L) {j : Nat} {vs : List Value} (hj : j + vs.length ≤ l.length) (hv : Typed ((l.drop j).take vs.length) vs) : Typed l (setL L j vs) := by
  have hl := h.1
  refine ⟨by rw [setL_len (by omega), hl], fun i k hi => ?_⟩
  rw [setL_at (by omega)]
  by_cases e : j ≤ i ∧ i < j + vs.length
  · rw [if_pos e]
    refine hv.2 (i - j) k ?_
    rw [List.getElem?_take, if_pos (by omega), List.getElem?_drop, show j + (i - j) = i by omega]
    exact hi
  · rw [if_neg e]; exact h.2 i k hi
theorem Typed.piece {l : List (Option IntKind)} {L : List Value} (h : Typed l L) (j n : Nat) (hj : j + n ≤ l.length) : Typed ((l.drop j).take n) ((L.drop j).take n) := by
  have hl := h.1
  refine ⟨by simp; omega, fun i k hi => ?_⟩
  rw [List.getElem?_take] at hi ⊢
  split at hi
  · rename_i hlt
    rw [if_pos hlt]
    rw [List.getElem?_drop] at hi ⊢
    exact h.2 _ k hi
  · cases hi
/-- A part of a port, cell by cell. -/
theorem seg_of {L l : List Value} {j : Nat} (hl : j + l.length ≤ L.length) (h : ∀ i, i < l.length → L[j + i]? = l[i]?) : (L.drop j).take l.length = l := by
  apply List.ext_getElem?
  intro i
  by_cases hi : i < l.length
  · rw [List.getElem?_take, if_pos hi, List.getElem?_drop, h i hi]
  · rw [List.getElem?_eq_none (by simp; omega), List.getElem?_eq_none (by omega)]
theorem len_set' {L : List Value} {j : Nat} {v : Value} (h : L.length = 89) : (L.set j v).length = 89 := by simpa using h
theorem get_same {L : List Value} {j : Nat} {v : Value} (h : L.length = 89) (hj : j < 89) : (L.set j v)[j]? = some v := by simp [h, hj]
theorem get_ne {L : List Value} {i j : Nat} {v : Value} (h : i ≠ j) : (L.set i v)[j]? = L[j]? := by simp [h]
theorem br_typed {B : Br} (ho : B.ok) {k : Nat} (hk : k < B.np) : Typed PL (port B.ps k) := ho.ps.2 k hk
theorem pI_port {B : Br} {k j : Nat} (hj : j < 89) : pI (port B.ps k) j = B.gi k j := by
  unfold pI Br.gi
  rw [port_at hj]
  rcases B.ps[k * 89 + j]? with _ | v
  · rfl
  · cases v <;> rfl
theorem pB_port {B : Br} {k j : Nat} (hj : j < 89) : pB (port B.ps k) j = B.gb k j := by
  unfold pB Br.gb
  rw [port_at hj]
  rcases B.ps[k * 89 + j]? with _ | v
  · rfl
  · cases v <;> rfl

end Go.Proofs.Ythlapkddgnpaeaa
