/- How far it is: hops in memory; those that leave a point. No statement is proved here. -/
import Derived.Test.YtendaloeonbbeaaReC
import Derived.Test.YtendaloeonbbeaaBox
import Derived.Test.YtendaloeonbbeaaZtwob
import Derived.Great.BuildSlice
import Derived.Maps.AppendAt
namespace Go.Proofs.Ytendaloeonbbeaa
open Go.RowKit Go.BigFrame Go.WideShapes Go.ChangeShapes Go.Deep
set_option linter.unusedVariables false
set_option linter.unusedSimpArgs false

structure Hp where
  f : Int
  t : Int
  c : Int
def Hp.L (h : Hp) : List Value := [.int .i64 h.f, .int .i64 h.t, .int .u32 h.c]
def flatH (l : List Hp) : List Value := l.flatMap Hp.L
theorem flatH_cons (h : Hp) (l : List Hp) : flatH (h :: l) = h.L ++ flatH l := by simp [flatH]
theorem flatH_len : ∀ l : List Hp, (flatH l).length = l.length * 3
  | [] => rfl
  | h :: l => by
    rw [flatH_cons, List.length_append, flatH_len l, List.length_cons]
    show 3 + l.length * 3 = _
    omega
theorem flatH_snoc (l : List Hp) (h : Hp) : flatH (l ++ [h]) = flatH l ++ h.L := by simp [flatH]
theorem flatH_at : ∀ (l : List Hp) (j : Nat) (h : Hp), l[j]? = some h → ((flatH l).drop (j * 3)).take 3 = h.L
  | [], j, h, hj => by simp at hj
  | x :: l, 0, h, hj => by
    obtain rfl : x = h := by simpa using hj
    rw [flatH_cons]
    rfl
  | x :: l, j + 1, h, hj => by
    have ih := flatH_at l j h (by simpa using hj)
    have e : x.L.length = 3 := rfl
    rw [flatH_cons, List.drop_append, show x.L.drop ((j + 1) * 3) = [] from List.drop_eq_nil_of_le (by rw [e]; omega), List.nil_append, e, show (j + 1) * 3 - 3 = j * 3 by omega]
    exact ih
def Hp.ok (n : Nat) (h : Hp) : Bool := decide (0 ≤ h.f) && decide (h.f < n) && decide (0 ≤ h.t) && decide (h.t < n)
def leaveF (n : Nat) (L : List Hp) (f : Nat) : List Hp := L.filter fun h => h.ok n && h.f == f
theorem leaveF_snoc (n : Nat) (L : List Hp) (h : Hp) (f : Nat) : leaveF n (L ++ [h]) f = leaveF n L f ++ (if (h.ok n && h.f == f) = true then [h] else []) := by
  unfold leaveF
  rw [List.filter_append]
  congr 1
  cases hb : (h.ok n && h.f == f) <;> simp [List.filter, hb]
theorem leaveF_len (n : Nat) (L : List Hp) (f : Nat) : (leaveF n L f).length ≤ L.length := List.length_filter_le _ _
/-- A slice of hops that is only read. -/
def HopsAt (w : World) (v : Value) (L : List Hp) : Prop := ∃ a cap, v = .slice a L.length cap ∧ L.length ≤ 9223372036854775807 ∧ (0 < L.length → ∃ b off, a = some ⟨b, off, none⟩ ∧ b < w.heap.size ∧ L.length ≤ cap ∧ cap ≤ 9223372036854775807 ∧ w.rangeAt b off (flatH L))
theorem rangeR_ext {w w' : World} {b off : Nat} {xs : List Value} (h : w.rangeAt b off xs) (hx : Ext w w') (hb : b < w.heap.size) : w'.rangeAt b off xs := fun j v hv => (hx.cell hb).trans (h j v hv)
theorem HopsAt.ext {w w' : World} {v : Value} {L : List Hp} (h : HopsAt w v L) (hx : Ext w w') : HopsAt w' v L := by
  obtain ⟨a, cap, e, hm, hf⟩ := h
  refine ⟨a, cap, e, hm, fun h0 => ?_⟩
  obtain ⟨b, off, e1, hb, h1, h2, h3⟩ := hf h0
  exact ⟨b, off, e1, Nat.lt_of_lt_of_le hb hx.size, h1, h2, rangeR_ext h3 hx hb⟩
theorem own_keep2 {w w' : World} {base size n : Nat} {e : TypeId} {v : Value} {xs : List Value} (h : w.ownsRow base e size v n xs) (hk : ∀ g, v.ownBlock = some g → w'.heap[g]? = w.heap[g]?) : w'.ownsRow base e size v n xs := by
  refine ⟨h.1, ?_⟩
  rcases h.2 with h0 | ⟨g, cap, cur, e1, e2, e3, rest⟩
  · exact .inl h0
  · exact .inr ⟨g, cap, cur, e1, e2, (hk g (by rw [e1]; rfl)).trans e3, rest⟩
theorem own_lt2 {w : World} {base size n : Nat} {e : TypeId} {v : Value} {xs : List Value} (h : w.ownsRow base e size v n xs) {g : Nat} (hg : v.ownBlock = some g) : base ≤ g ∧ g < w.heap.size := by
  rcases h.2 with ⟨rfl, -⟩ | ⟨g2, cap, cur, rfl, e2, e3, -⟩
  · simp [Value.ownBlock] at hg
  · obtain rfl : g2 = g := by simpa [Value.ownBlock] using hg
    exact ⟨e2, heap_lt e3⟩
/-- A row of slices, each of its own: what lies in it. -/
structure Rows (w : World) (base T n : Nat) (S : Nat → List Hp) (vs : List Value) : Prop where
  row : w.heap[T]? = some (.cells vs.toArray 26 (0, 0))
  len : vs.length = n
  lt : T < base
  own : ∀ f, f < n → w.ownsRow base 47 3 (vs.getD f undef) (S f).length (flatH (S f))
  apart : ∀ f g, f < n → g < n → f ≠ g → ∀ m, (vs.getD f undef).ownBlock = some m → (vs.getD g undef).ownBlock ≠ some m
theorem Rows.keep {w w' : World} {base T n : Nat} {S : Nat → List Hp} {vs : List Value} (h : Rows w base T n S vs) (hT : w'.heap[T]? = w.heap[T]?) (hk : ∀ f g, f < n → (vs.getD f undef).ownBlock = some g → w'.heap[g]? = w.heap[g]?) : Rows w' base T n S vs :=
  ⟨hT.trans h.row, h.len, h.lt, fun f hf => own_keep2 (h.own f hf) (fun g hg => hk f g hf hg), h.apart⟩
theorem Rows.ext {w w' : World} {base T n : Nat} {S : Nat → List Hp} {vs : List Value} (h : Rows w base T n S vs) (hx : Ext w w') : Rows w' base T n S vs :=
  h.keep (hx.block _ (heap_lt h.row)) (fun f g hf hg => hx.block _ (own_lt2 (h.own f hf) hg).2)
/-- One hop more at one point. -/
theorem Rows.put {w w1 w2 : World} {base T n f : Nat} {S : Nat → List Hp} {vs : List Value} (h : Rows w base T n S vs) (hf : f < n) {x : Hp} {v' : Value} (ho : w1.ownsRow base 47 3 v' ((S f).length + 1) (flatH (S f) ++ x.L))
    (hg : ∀ m, m < w.heap.size → (vs.getD f undef).ownBlock ≠ some m → w1.heap[m]? = w.heap[m]?) (hv : v'.ownBlock = (vs.getD f undef).ownBlock ∨ ∃ m, v'.ownBlock = some m ∧ w.heap.size ≤ m)
    (hT : w2.heap[T]? = some (.cells (vs.set f v').toArray 26 (0, 0))) (hm : ∀ m, m < w1.heap.size → m ≠ T → w2.heap[m]? = w1.heap[m]?) :
    Rows w2 base T n (fun g => if g = f then S f ++ [x] else S g) (vs.set f v') := by
  have hlt := h.lt
  have hsz : ∀ g m, g < n → (vs.getD g undef).ownBlock = some m → base ≤ m ∧ m < w.heap.size := fun g m hg2 hgm => own_lt2 (h.own g hg2) hgm
  have hget : ∀ g, (vs.set f v').getD g undef = if g = f then v' else vs.getD g undef := fun g => by
    simp only [List.getD_eq_getElem?_getD]
    by_cases e : g = f
    · subst e
      rw [if_pos rfl, List.getElem?_set_self (by rw [h.len]; exact hf)]
      rfl
    · rw [if_neg e, List.getElem?_set_ne (Ne.symm e)]
  refine ⟨hT, by rw [List.length_set]; exact h.len, hlt, fun g hgn => ?_, fun a b ha hb hab m hma => ?_⟩
  · rw [hget]
    by_cases e : g = f
    · subst e
      rw [if_pos rfl]
      simp only [if_true]
      rw [List.length_append, flatH_snoc]
      refine own_keep2 ho (fun m hmv => ?_)
      obtain ⟨b1, b2⟩ := own_lt2 ho hmv
      exact hm m b2 (by omega)
    · rw [if_neg e]
      simp only [if_neg e]
      refine own_keep2 (h.own g hgn) (fun m hgm => ?_)
      obtain ⟨b1, b2⟩ := hsz g m hgn hgm
      have hne : (vs.getD f undef).ownBlock ≠ some m := h.apart g f hgn hf e m hgm
      have h1 := hg m b2 hne
      have b3 : m < w1.heap.size := by
        have := (Array.getElem?_eq_some_iff.1 (h1.trans (Array.getElem?_eq_getElem b2))).1
        exact this
      exact (hm m b3 (by omega)).trans h1
  · rw [hget] at hma ⊢
    by_cases e1 : a = f
    · subst e1
      rw [if_pos rfl] at hma
      rw [if_neg (Ne.symm hab)]
      rcases hv with hv | ⟨q, hq, hqs⟩
      · rw [hv] at hma
        exact h.apart a b ha hb hab m hma
      · rw [hq] at hma
        obtain rfl : q = m := by simpa using hma
        intro hbm
        have := hsz b q hb hbm
        omega
    · rw [if_neg e1] at hma
      by_cases e2 : b = f
      · subst e2
        rw [if_pos rfl]
        rcases hv with hv | ⟨q, hq, hqs⟩
        · rw [hv]
          exact h.apart a b ha hb hab m hma
        · rw [hq]
          intro hbm
          obtain rfl : q = m := by simpa using hbm
          have := hsz a q ha hma
          omega
      · rw [if_neg e2]
        exact h.apart a b ha hb hab m hma

end Go.Proofs.Ytendaloeonbbeaa
