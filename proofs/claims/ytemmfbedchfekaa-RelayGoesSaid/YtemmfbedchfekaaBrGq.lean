/- Contracts on bridges: a port's place, a bridge of its own, whether two are one. No statement is proved here. -/
import Derived.Test.YtemmfbedchfekaaBrF
import Derived.Test.YtemmfbedchfekaaBrF
import Derived.Deep.AppendLies
import Derived.Laws.AppendOwnNone
import Derived.OwnWalk
import Derived.BigQuiet
namespace Go.Proofs.Ytemmfbedchfekaa
open Go.RowKit Go.WideShapes Go.ChangeShapes Go.Deep
set_option linter.unusedVariables false
set_option linter.unusedSimpArgs false
set_option maxRecDepth 100000

/-- What a call owns reads as a row. -/
theorem own_row {w : World} {base m n : Nat} {e : TypeId} {v : Value} {xs : List Value} (h : w.ownsRow base e m v n xs) : IsRow w m v n xs := by
  obtain ⟨h0, ⟨rfl, rfl⟩ | ⟨g, cap, cur, rfl, hb, hg, hn, hm, hs, ht⟩⟩ := h
  · exact ⟨h0, .inl ⟨rfl, .inl rfl⟩⟩
  · refine ⟨h0, ?_⟩
    by_cases hz : n = 0
    · exact .inl ⟨hz, .inr ⟨_, cap, by rw [hz]⟩⟩
    · refine .inr ⟨g, 0, cap, rfl, by omega, hn, hm, (Array.getElem?_eq_some_iff.1 hg).1, fun j v hv => ?_⟩
      rw [← ht, List.getElem?_take] at hv
      split at hv
      · rw [Nat.zero_add, cell_of_row w g j cur e (0, 0) hg]
        simpa using hv
      · cases hv

theorem own_form {w : World} {base m n : Nat} {e : TypeId} {v : Value} {xs : List Value} (h : w.ownsRow base e m v n xs) : ∃ a cap, v = .slice a n cap := by
  obtain ⟨h0, ⟨rfl, rfl⟩ | ⟨g, cap, cur, rfl, hb, hg, hn, hm, hs, ht⟩⟩ := h
  · exact ⟨_, _, rfl⟩
  · exact ⟨_, _, rfl⟩

/-- A slice's elements behind what a call owns that holds none yet. -/
theorem wpList_append_row {P : Program} {w : World} {ops : Array Oper} {rest : List Oper} {o : Oper} {a : Act} {Q : Exit → Act → World → Prop} (hgd : o.guard = none) (s x : Operand) (t : TypeId)
    (ho : o.op = .call { callee := .builtin .append, args := #[s, x], argTypes := #[t, t] })
    (base : Nat) (e : TypeId) (i : TypeInfo) (z : Value) (size bytes : Nat) (ht : P.underlying t = some (.slice e)) (hi : P.info? e = some i) (hz : i.zero = some z)
    (hsize : i.size = size) (hby : i.bytes = bytes) (hzs : z.cells.size = size) (hsz : 0 < size)
    (v : Value) (hs : a.eval s = v) (hown : w.ownsRow base e size v 0 []) (u : Value) (hx : a.eval x = u) (n : Nat) (xs : List Value) (hrow : IsRow w size u n xs) (h1 : ∀ u ∈ xs, u.oneCell' = true)
    (hn : n * bytes ≤ 140737488355328) (hm : n ≤ maxLen) (hbase : base ≤ w.heap.size)
    (h : ∀ a' cap' w', w'.ownsRow base e size (.slice a' n cap') n xs → w.grownBy w' v.ownBlock → wpList P ops Q rest (a.put o.dst (.slice a' n cap')) w') : wpList P ops Q (o :: rest) a w := by
  have fin : ∀ v' w', w'.ownsRow base e size v' (0 + n) ([] ++ xs) → w.grownBy w' v.ownBlock → (v' = .slice none 0 0 ↔ v = .slice none 0 0 ∧ n = 0) → wpList P ops Q rest (a.put o.dst v') w' := by
    intro v' w' h2 h3 _
    rw [Nat.zero_add, List.nil_append] at h2
    obtain ⟨a', cap', rfl⟩ := own_form h2
    exact h a' cap' w' h2 h3
  obtain ⟨h0, ⟨rfl, rfl | ⟨ad, cap, rfl⟩⟩ | ⟨b, off, cap, rfl, g0, g1, g2, g3, g4⟩⟩ := hrow
  · have hl : xs = [] := by
      rw [Nat.zero_mul] at h0
      exact List.length_eq_zero_iff.1 h0
    subst hl
    refine wpList_append_own_none hgd s x t ho base e i size ht hi v 0 [] hs hown hx ?_
    have h2 := hown
    obtain ⟨a', cap', rfl⟩ := own_form h2
    exact h a' cap' w h2 ⟨rfl, rfl, rfl, Nat.le_refl _, fun _ _ _ => rfl⟩
  · have hl : xs = [] := by
      rw [Nat.zero_mul] at h0
      exact List.length_eq_zero_iff.1 h0
    subst hl
    exact wpList_append_own w hgd s x t ho base e i z size bytes ht hi hz hsize hby hzs hsz v 0 [] hs hown ad 0 cap [] hx (by simp) (by simp) (by simp) (by simp) (by simp) hbase fin
  · refine wpList_append_own w hgd s x t ho base e i z size bytes ht hi hz hsize hby hzs hsz v 0 [] hs hown ⟨b, off, none⟩ n cap xs hx h0 (fun j u hu => ?_) h1 (by simpa using hm) (by simpa using hn) hbase fin
    rw [Addr.add_mid]
    exact g4 j u hu

theorem info_of {P : Program} {t : TypeId} {z : Value} {n b : Nat} (h : (P.info? t).map (fun i => (i.zero, i.size, i.bytes)) = some (some z, n, b)) : ∃ i, P.info? t = some i ∧ i.zero = some z ∧ i.size = n ∧ i.bytes = b := by
  obtain ⟨i, hi, he⟩ := Option.map_eq_some_iff.1 h
  simp only [Prod.mk.injEq] at he
  exact ⟨i, hi, he.1, he.2.1, he.2.2⟩

def SZ : Array Value := (SL.map zc).toArray
theorem size_SZ : SZ.size = 18 := by kernel_rfl
theorem info_port : (Try.prog.info? 69).map (fun i => (i.zero, i.size, i.bytes)) = some (some (.agg PZ), 89, 416) := by kernel_rfl
theorem info_sent : (Try.prog.info? 99).map (fun i => (i.zero, i.size, i.bytes)) = some (some (.agg SZ), 18, 96) := by kernel_rfl
theorem info_int : (Try.prog.info? 3).map (fun i => (i.zero, i.size, i.bytes)) = some (some (.int .i64 0), 1, 8) := by kernel_rfl

/-- A bridge's value whose slices the call owns. -/
def OwnC (w : World) (N : Nat) (c : Array Value) (B : Br) : Prop :=
  ∃ s1 s2 s3, c = (B.hd ++ [s1, s2, s3]).toArray ∧ w.ownsRow N 69 89 s1 B.np B.ps ∧ w.ownsRow N 99 18 s2 B.no B.os ∧ w.ownsRow N 3 1 s3 B.nf B.fl

theorem OwnC.br {w : World} {N : Nat} {c : Array Value} {B : Br} (h : OwnC w N c B) : BrC w c B := by
  obtain ⟨s1, s2, s3, h0, h1, h2, h3⟩ := h
  exact ⟨s1, s2, s3, h0, own_row h1, own_row h2, own_row h3⟩

/-- A bridge of its own is handed back. -/
def Cloned (w : World) (B : Br) (e : Ending) (w' : World) : Prop := ∃ c, e = .returned (.agg c) ∧ OwnC w' w.heap.size c B ∧ Ext w w'

/-- The box's cells behind a call of the box's owner that turned none of them. -/
theorem grown_heap {w w' : World} {row : Option Nat} (hg : w.grownBy w' row) {X : Nat} {o : Obj} (h : w.heap[X]? = some o) (hne : some X ≠ row) : w'.heap[X]? = some o :=
  (hg.block X (Array.getElem?_eq_some_iff.1 h).1 hne).trans h

theorem heap_lt {w : World} {X : Nat} {o : Obj} (h : w.heap[X]? = some o) : X < w.heap.size := (Array.getElem?_eq_some_iff.1 h).1

theorem own_set {w : World} {base m n : Nat} {e : TypeId} {v : Value} {xs : List Value} (h : w.ownsRow base e m v n xs) {X j : Nat} {C : Array Value} {t : TypeId} {fr : Nat × Nat} (hX : w.heap[X]? = some (.cells C t fr)) (ht : t ≠ e) (u : Value) :
    (w.setCell ⟨X, j, none⟩ u).ownsRow base e m v n xs := by
  refine ⟨h.1, ?_⟩
  rcases h.2 with hn | ⟨g, cap, cur, rfl, hb, hg, rest⟩
  · exact .inl hn
  · refine .inr ⟨g, cap, cur, rfl, hb, ?_, rest⟩
    rw [Below.heap_setCell _ _ _ _ (fun e' => ?_)]
    · exact hg
    · subst e'
      rw [hg] at hX
      cases hX
      exact ht rfl

theorem ext_setRow {a w : World} (h : Ext a w) {g : Nat} (hg : a.heap.size ≤ g) (cs : Array Value) : Ext a (w.setRow g cs) :=
  Below.trans h ⟨rfl, rfl, rfl, by simp, fun k hk => setRow_other w g k cs (by omega)⟩

theorem own_setRow {w : World} {base m n : Nat} {e : TypeId} {v : Value} {xs : List Value} (h : w.ownsRow base e m v n xs) {X : Nat} {C : Array Value} {t : TypeId} {fr : Nat × Nat} (hX : w.heap[X]? = some (.cells C t fr)) (ht : t ≠ e) (cs : Array Value) :
    (w.setRow X cs).ownsRow base e m v n xs := by
  refine ⟨h.1, ?_⟩
  rcases h.2 with hn | ⟨g, cap, cur, rfl, hb, hg, rest⟩
  · exact .inl hn
  · refine .inr ⟨g, cap, cur, rfl, hb, ?_, rest⟩
    rw [setRow_other w X g cs (fun e' => ?_)]
    · exact hg
    · subst e'
      rw [hg] at hX
      cases hX
      exact ht rfl

theorem own_ne {w : World} {base m n : Nat} {e : TypeId} {v : Value} {xs : List Value} (h : w.ownsRow base e m v n xs) {H : Nat} (hH : w.heap.size ≤ H) : v.ownBlock ≠ some H := fun he => by
  have := (h.lt H he).2
  omega

theorem set3 {c : Array Value} {hd : List Value} {s1 s2 s3 : Value} (hz : c.size = 20) (hl : hd.length = 17) (hhd : ∀ j, j < 17 → c[j]? = hd[j]?) :
    ((c.setIfInBounds 17 s1).setIfInBounds 18 s2).setIfInBounds 19 s3 = (hd ++ [s1, s2, s3]).toArray := by
  apply Array.ext_getElem?
  intro j
  have e : (hd ++ [s1, s2, s3]).toArray[j]? = (hd ++ [s1, s2, s3])[j]? := by simp
  refine Eq.trans ?_ e.symm
  clear e
  by_cases h19 : j = 19
  · subst h19
    rw [List.getElem?_append_right (by omega), hl]
    simp [hz]
  by_cases h18 : j = 18
  · subst h18
    rw [List.getElem?_append_right (by omega), hl]
    simp [hz]
  by_cases h17 : j = 17
  · subst h17
    rw [List.getElem?_append_right (by omega), hl]
    simp [hz]
  rw [Array.getElem?_setIfInBounds_ne (by omega), Array.getElem?_setIfInBounds_ne (by omega), Array.getElem?_setIfInBounds_ne (by omega)]
  by_cases hj : j < 17
  · rw [hhd j hj, List.getElem?_append_left (by omega)]
  · rw [Array.getElem?_eq_none (by omega), List.getElem?_eq_none (by simp; omega)]

set_option maxHeartbeats 3200000 in
theorem clone_any (c : Array Value) (B : Br) (w : World) (hb : BrC w c B) (ho : B.ok) (hn : B.np ≤ 1000 ∧ B.no ≤ 1000 ∧ B.nf ≤ 1000) : Calls Try.prog 11 #[.agg c] w (Cloned w B) := by
  have hl := ho.hd.1
  obtain ⟨s1, s2, s3, hz, hhd, c17, c18, c19, r1, r2, r3⟩ := hb.facts ho.hd.1
  obtain ⟨a1, k1, rfl, m1, -⟩ := r1.form
  obtain ⟨a2, k2, rfl, m2, -⟩ := r2.form
  obtain ⟨a3, k3, rfl, m3, -⟩ := r3.form
  obtain ⟨n1, n2, n3⟩ := hn
  obtain ⟨i1, hi1, hz1, hs1, hb1⟩ := info_of info_port
  obtain ⟨i2, hi2, hz2, hs2, hb2⟩ := info_of info_sent
  obtain ⟨i3, hi3, hz3, hs3, hb3⟩ := info_of info_int
  have HZ := Lib.hid hz
  have HD := Lib.hid hhd
  have HL := Lib.hid hl
  have I1 := Lib.hid (And.intro hi1 (And.intro hz1 (And.intro hs1 hb1)))
  have I2 := Lib.hid (And.intro hi2 (And.intro hz2 (And.intro hs2 hb2)))
  have I3 := Lib.hid (And.intro hi3 (And.intro hz3 (And.intro hs3 hb3)))
  have R1 := Lib.hid r1
  have R2 := Lib.hid r2
  have R3 := Lib.hid r3
  have HB := Lib.hid hb
  clear hz hhd hi1 hz1 hs1 hb1 hi2 hz2 hs2 hb2 hi3 hz3 hs3 hb3 r1 r2 r3 hl hb
  go_enter Try.func11, Try.ntmps11
  go_wp2_with (at_builtin; refine wpList_append_row rfl _ _ 29 rfl w.heap.size 69 i1 (.agg PZ) 89 416 Try.underlying29 I1.out.1 I1.out.2.1 I1.out.2.2.1 I1.out.2.2.2 size_PZ (by decide) _ rfl ?o1 (.slice a1 B.np k1) rfl B.np B.ps ?r1 ho.ps.one (by omega) (by unfold maxLen; omega) ?b1 ?_)
  case o1 =>
    have := World.ownsRow_made (base := w.heap.size) (e := 69) (size := 89) ((w.alloc (.cells c 33)).alloc (.cells #[.int .u64 0, .bool false, .int .i64 0, .int .i64 0, .int .i64 0, .int .i64 0, .int .i64 0, .int .u64 0, .int .u32 0, .int .u64 0, .int .u16 0, .int .u16 0, .int .i64 0, .int .i64 0, .int .i64 0, .int .i64 0, .int .i64 0, .slice none 0 0, .slice none 0 0, .slice none 0 0] 33)) #[] 0 (by simp; omega) (by unfold maxLen; omega) (by simp)
    simp only [World.size_alloc] at this
    exact this
  case r1 => exact R1.out.ext ((((Ext.refl w).alloc _).alloc _).alloc _)
  case b1 => simp; omega
  intro a1' k1' w1 q1 g1
  have e1 : Ext w w1 := Below.grown ((((Ext.refl w).alloc _).alloc _).alloc _) g1 (by simp; omega) (fun k hk => by simp [Value.ownBlock] at hk; omega)
  have x1 : w1.heap[w.heap.size]? = some (.cells c 33 (0, 0)) := grown_heap g1 ((heap_alloc_old _ _ (by simp; omega)).trans ((heap_alloc_old _ _ (by simp)).trans (heap_alloc_new _ _))) (by simp [Value.ownBlock]; omega)
  have y1 : ∃ Z : Array Value, w1.heap[w.heap.size + 1]? = some (.cells Z 33 (0, 0)) ∧ Z.size = 20 := ⟨_, grown_heap g1 ((heap_alloc_old _ _ (by simp)).trans (heap_alloc2_new _ _ _)) (by simp [Value.ownBlock]), rfl⟩
  have Q1 := Lib.hid q1
  have G1 := Lib.hid g1
  have X1 := Lib.hid x1
  have Y1 := Lib.hid y1
  have E1 := Lib.hid e1
  have f1 : ∀ j, w1.frozen? ⟨w.heap.size, j, none⟩ = false := fun j => frozen_of_row _ _ _ _ _ X1.out
  have d1 : ∀ j, w1.cell? ⟨w.heap.size, j, none⟩ = c[j]? := fun j => cell_of_row _ _ _ _ _ _ X1.out
  have z1 : w.heap.size < w1.heap.size := heap_lt X1.out
  clear q1 g1 x1 y1 e1
  go_wp2_with (at_builtin; refine wpList_append_row rfl _ _ 30 rfl w.heap.size 99 i2 (.agg SZ) 18 96 Try.underlying30 I2.out.1 I2.out.2.1 I2.out.2.2.1 I2.out.2.2.2 size_SZ (by decide) _ rfl ?o2 (.slice a2 B.no k2) rfl B.no B.os ?r2 ho.os.one (by omega) (by unfold maxLen; omega) ?b2 ?_)
  case o2 =>
    have := World.ownsRow_made (base := w.heap.size) (e := 99) (size := 18) (w1.setCell ⟨w.heap.size, 17, none⟩ (.slice a1' B.np k1')) #[] 0 (by simp; omega) (by unfold maxLen; omega) (by simp)
    rw [World.size_setCell] at this
    exact this
  case r2 => exact R2.out.ext ((E1.out.setCell (Nat.le_refl _) _).alloc _)
  case b2 => simp; omega
  intro a2' k2' w2 q2 g2
  have e2 : Ext w w2 := Below.grown ((E1.out.setCell (Nat.le_refl _) _).alloc _) g2 (by simp; omega) (fun k hk => by simp [Value.ownBlock] at hk; omega)
  have x2 : w2.heap[w.heap.size]? = some (.cells (c.setIfInBounds 17 (.slice a1' B.np k1')) 33 (0, 0)) := grown_heap g2 ((heap_alloc_old _ _ (by simp; omega)).trans (heap_setCell_same _ _ _ _ _ _ X1.out)) (by simp [Value.ownBlock]; omega)
  have y2 : ∃ Z : Array Value, w2.heap[w.heap.size + 1]? = some (.cells Z 33 (0, 0)) ∧ Z.size = 20 := by
    obtain ⟨Z, hZ, hZs⟩ := Y1.out
    have := heap_lt hZ
    exact ⟨Z, grown_heap g2 ((heap_alloc_old _ _ (by simp; omega)).trans ((heap_setCell_other _ _ _ _ (by simp)).trans hZ)) (by simp [Value.ownBlock]; omega), hZs⟩
  have p2 : w2.ownsRow w.heap.size 69 89 (.slice a1' B.np k1') B.np B.ps := ((own_set Q1.out X1.out (by decide) _).alloc _).kept g2 (.inr (own_ne Q1.out (by simp)))
  have Q2 := Lib.hid q2
  have P2 := Lib.hid p2
  have X2 := Lib.hid x2
  have Y2 := Lib.hid y2
  have E2 := Lib.hid e2
  have f2 : ∀ j, w2.frozen? ⟨w.heap.size, j, none⟩ = false := fun j => frozen_of_row _ _ _ _ _ X2.out
  have d2 : w2.cell? ⟨w.heap.size, 18, none⟩ = some (.slice a2 B.no k2) := by rw [cell_of_row _ _ _ _ _ _ X2.out]; simpa using c18
  have d3 : w2.cell? ⟨w.heap.size, 19, none⟩ = some (.slice a3 B.nf k3) := by rw [cell_of_row _ _ _ _ _ _ X2.out]; simpa using c19
  have z2 : w.heap.size < w2.heap.size := heap_lt X2.out
  clear q2 g2 x2 y2 e2 p2 f1 d1 z1
  go_wp2_with (at_builtin; refine wpList_append_row rfl _ _ 31 rfl w.heap.size 3 i3 (.int .i64 0) 1 8 Try.underlying31 I3.out.1 I3.out.2.1 I3.out.2.2.1 I3.out.2.2.2 rfl (by decide) _ rfl ?o3 (.slice a3 B.nf k3) rfl B.nf B.fl ?r3 ho.fl.one (by omega) (by unfold maxLen; omega) ?b3 ?_)
  case o3 =>
    have := World.ownsRow_made (base := w.heap.size) (e := 3) (size := 1) (w2.setCell ⟨w.heap.size, 18, none⟩ (.slice a2' B.no k2')) #[] 0 (by simp; omega) (by unfold maxLen; omega) (by simp)
    rw [World.size_setCell] at this
    exact this
  case r3 => exact R3.out.ext ((E2.out.setCell (Nat.le_refl _) _).alloc _)
  case b3 => simp; omega
  intro a3' k3' w3 q3 g3
  have e3 : Ext w w3 := Below.grown ((E2.out.setCell (Nat.le_refl _) _).alloc _) g3 (by simp; omega) (fun k hk => by simp [Value.ownBlock] at hk; omega)
  have x3 : w3.heap[w.heap.size]? = some (.cells ((c.setIfInBounds 17 (.slice a1' B.np k1')).setIfInBounds 18 (.slice a2' B.no k2')) 33 (0, 0)) := grown_heap g3 ((heap_alloc_old _ _ (by simp; omega)).trans (heap_setCell_same _ _ _ _ _ _ X2.out)) (by simp [Value.ownBlock]; omega)
  have y3 : ∃ Z : Array Value, w3.heap[w.heap.size + 1]? = some (.cells Z 33 (0, 0)) ∧ Z.size = 20 := by
    obtain ⟨Z, hZ, hZs⟩ := Y2.out
    have := heap_lt hZ
    exact ⟨Z, grown_heap g3 ((heap_alloc_old _ _ (by simp; omega)).trans ((heap_setCell_other _ _ _ _ (by simp)).trans hZ)) (by simp [Value.ownBlock]; omega), hZs⟩
  have p3 : w3.ownsRow w.heap.size 69 89 (.slice a1' B.np k1') B.np B.ps := ((own_set P2.out X2.out (by decide) _).alloc _).kept g3 (.inr (own_ne P2.out (by simp)))
  have t3 : w3.ownsRow w.heap.size 99 18 (.slice a2' B.no k2') B.no B.os := ((own_set Q2.out X2.out (by decide) _).alloc _).kept g3 (.inr (own_ne Q2.out (by simp)))
  obtain ⟨Z, hZ, hZs⟩ := y3
  obtain ⟨C, hC⟩ : ∃ C, ((c.setIfInBounds 17 (.slice a1' B.np k1')).setIfInBounds 18 (.slice a2' B.no k2')).setIfInBounds 19 (.slice a3' B.nf k3') = C := ⟨_, rfl⟩
  have hCz : C.size = 20 := by rw [← hC]; simpa using HZ.out
  have hCe : C = (B.hd ++ [Value.slice a1' B.np k1', Value.slice a2' B.no k2', Value.slice a3' B.nf k3']).toArray := hC ▸ set3 HZ.out HL.out HD.out
  have hone : C.all (·.oneCell') = true := by
    rw [hCe]
    refine all_oneCell_toArray (fun v hv => ?_)
    rcases List.mem_append.1 hv with hv | hv
    · exact ho.hd.one v hv
    · simp at hv
      rcases hv with rfl | rfl | rfl <;> rfl
  have x4 : (w3.setCell ⟨w.heap.size, 19, none⟩ (.slice a3' B.nf k3')).heap[w.heap.size]? = some (.cells C 33 (0, 0)) := by
    rw [← hC]
    exact heap_setCell_same _ _ _ _ _ _ x3
  have y4 : (w3.setCell ⟨w.heap.size, 19, none⟩ (.slice a3' B.nf k3')).heap[w.heap.size + 1]? = some (.cells Z 33 (0, 0)) := (heap_setCell_other _ _ _ _ (by simp)).trans hZ
  have o4 : OwnC ((w3.setCell ⟨w.heap.size, 19, none⟩ (.slice a3' B.nf k3')).setRow (w.heap.size + 1) C) w.heap.size C B :=
    ⟨_, _, _, hCe, own_setRow (own_set p3 x3 (by decide) _) y4 (by decide) C, own_setRow (own_set t3 x3 (by decide) _) y4 (by decide) C, own_setRow (own_set q3 x3 (by decide) _) y4 (by decide) C⟩
  have e4 : Ext w ((w3.setCell ⟨w.heap.size, 19, none⟩ (.slice a3' B.nf k3')).setRow (w.heap.size + 1) C) := ext_setRow (Below.setCell e3 (Nat.le_refl _) _) (by omega) C
  have y5 : ((w3.setCell ⟨w.heap.size, 19, none⟩ (.slice a3' B.nf k3')).setRow (w.heap.size + 1) C).heap[w.heap.size + 1]? = some (.cells C 33 (0, 0)) := setRow_heap _ _ _ _ _ _ y4
  have f3 : w3.frozen? ⟨w.heap.size, 19, none⟩ = false := frozen_of_row _ _ _ _ _ x3
  have d4 : w3.cell? ⟨w.heap.size, 19, none⟩ = some (.slice a3 B.nf k3) := by rw [cell_of_row _ _ _ _ _ _ x3]; simpa using c19
  have hi : (Try.prog.info? 33).map (·.size) = some C.size := by rw [hCz]; exact size_br
  have X4 := Lib.hid x4
  have Y4 := Lib.hid y4
  have O4 := Lib.hid o4
  have E4 := Lib.hid e4
  have Y5 := Lib.hid y5
  have HI := Lib.hid hi
  have HO := Lib.hid hone
  have HS := Lib.hid (hZs.trans hCz.symm)
  clear x4 y4 o4 e4 y5 hi hone hZs hCz hC hCe hZ x3 p3 t3 q3 e3 g3 f2 d2 d3 z2
  go_wp2_with (first
    | fail
    | (refine wpList_load_row rfl 33 _ rfl w.heap.size rfl _ C (0, 0) _ X4.out Try.underlying33 rfl HI.out ?_)
    | (refine wpList_store_row rfl 33 _ _ rfl (w.heap.size + 1) C rfl rfl _ Z Y4.out HI.out HS.out HO.out ?_))
  refine bodyPost_ret (results_cell_row rfl _ _ _ _ C (0, 0) _ rfl Y5.out Try.underlying33 rfl HI.out) rfl ?_
  exact ⟨C, rfl, O4.out, E4.out⟩

end Go.Proofs.Ytemmfbedchfekaa
