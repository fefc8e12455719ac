/- Contracts of package vec: comparing. No statement is proved here. -/
import Derived.Test.YthfoacgdkoijeaaIdentA
import Derived.Laws.StructEq
namespace Go.Proofs.Ythfoacgdkoijeaa
open Go.RowKit
set_option linter.unusedVariables false
set_option linter.unusedSimpArgs false

def cmpV (x y : Int) : Int := if x < y then -1 else if y < x then 1 else 0

theorem cmp_u64 (x y : Int) (w : World) : Calls Try.prog 90 #[.int .u64 x, .int .u64 y] w fun e w' => e = .returned (.int .i64 (cmpV x y)) ∧ w = w' := by
  have nan : ∀ (z : Int) (w : World), Calls Try.prog 95 #[.int .u64 z] w fun e w' => e = .returned (.bool false) ∧ w = w' := fun z w => by
    go_enter Try.func95, Try.ntmps95
    go_wp2
    go_ret
    exact ⟨retB (by simp), rfl⟩
  have HN := Lib.hid nan
  clear nan
  rcases (show x < y ∨ y < x ∨ x = y by omega) with h | h | h
  · refine asi (x := -1) ?_ (by simp [cmpV, h])
    go_enter Try.func90, Try.ntmps90
    go_wp2_with fail
    refine (HN.out _ _).mono ?_
    rintro e w1 ⟨rfl, rfl⟩
    go_wp2_with fail
    refine (HN.out _ _).mono ?_
    rintro e w1 ⟨rfl, rfl⟩
    go_wp2
    go_ret
    exact ⟨rfl, rfl⟩
  · refine asi (x := 1) ?_ (by simp [cmpV, h]; omega)
    go_enter Try.func90, Try.ntmps90
    go_wp2_with fail
    refine (HN.out _ _).mono ?_
    rintro e w1 ⟨rfl, rfl⟩
    go_wp2_with fail
    refine (HN.out _ _).mono ?_
    rintro e w1 ⟨rfl, rfl⟩
    go_wp2
    go_ret
    exact ⟨rfl, rfl⟩
  · subst h
    refine asi (x := 0) ?_ (by simp [cmpV])
    go_enter Try.func90, Try.ntmps90
    go_wp2_with fail
    refine (HN.out _ _).mono ?_
    rintro e w1 ⟨rfl, rfl⟩
    go_wp2_with fail
    refine (HN.out _ _).mono ?_
    rintro e w1 ⟨rfl, rfl⟩
    go_wp2
    go_ret
    exact ⟨rfl, rfl⟩

theorem cmp_u32 (x y : Int) (w : World) : Calls Try.prog 91 #[.int .u32 x, .int .u32 y] w fun e w' => e = .returned (.int .i64 (cmpV x y)) ∧ w = w' := by
  have nan : ∀ (z : Int) (w : World), Calls Try.prog 96 #[.int .u32 z] w fun e w' => e = .returned (.bool false) ∧ w = w' := fun z w => by
    go_enter Try.func96, Try.ntmps96
    go_wp2
    go_ret
    exact ⟨retB (by simp), rfl⟩
  have HN := Lib.hid nan
  clear nan
  rcases (show x < y ∨ y < x ∨ x = y by omega) with h | h | h
  · refine asi (x := -1) ?_ (by simp [cmpV, h])
    go_enter Try.func91, Try.ntmps91
    go_wp2_with fail
    refine (HN.out _ _).mono ?_
    rintro e w1 ⟨rfl, rfl⟩
    go_wp2_with fail
    refine (HN.out _ _).mono ?_
    rintro e w1 ⟨rfl, rfl⟩
    go_wp2
    go_ret
    exact ⟨rfl, rfl⟩
  · refine asi (x := 1) ?_ (by simp [cmpV, h]; omega)
    go_enter Try.func91, Try.ntmps91
    go_wp2_with fail
    refine (HN.out _ _).mono ?_
    rintro e w1 ⟨rfl, rfl⟩
    go_wp2_with fail
    refine (HN.out _ _).mono ?_
    rintro e w1 ⟨rfl, rfl⟩
    go_wp2
    go_ret
    exact ⟨rfl, rfl⟩
  · subst h
    refine asi (x := 0) ?_ (by simp [cmpV])
    go_enter Try.func91, Try.ntmps91
    go_wp2_with fail
    refine (HN.out _ _).mono ?_
    rintro e w1 ⟨rfl, rfl⟩
    go_wp2_with fail
    refine (HN.out _ _).mono ?_
    rintro e w1 ⟨rfl, rfl⟩
    go_wp2
    go_ret
    exact ⟨rfl, rfl⟩

theorem cmp_u16 (x y : Int) (w : World) : Calls Try.prog 92 #[.int .u16 x, .int .u16 y] w fun e w' => e = .returned (.int .i64 (cmpV x y)) ∧ w = w' := by
  have nan : ∀ (z : Int) (w : World), Calls Try.prog 97 #[.int .u16 z] w fun e w' => e = .returned (.bool false) ∧ w = w' := fun z w => by
    go_enter Try.func97, Try.ntmps97
    go_wp2
    go_ret
    exact ⟨retB (by simp), rfl⟩
  have HN := Lib.hid nan
  clear nan
  rcases (show x < y ∨ y < x ∨ x = y by omega) with h | h | h
  · refine asi (x := -1) ?_ (by simp [cmpV, h])
    go_enter Try.func92, Try.ntmps92
    go_wp2_with fail
    refine (HN.out _ _).mono ?_
    rintro e w1 ⟨rfl, rfl⟩
    go_wp2_with fail
    refine (HN.out _ _).mono ?_
    rintro e w1 ⟨rfl, rfl⟩
    go_wp2
    go_ret
    exact ⟨rfl, rfl⟩
  · refine asi (x := 1) ?_ (by simp [cmpV, h]; omega)
    go_enter Try.func92, Try.ntmps92
    go_wp2_with fail
    refine (HN.out _ _).mono ?_
    rintro e w1 ⟨rfl, rfl⟩
    go_wp2_with fail
    refine (HN.out _ _).mono ?_
    rintro e w1 ⟨rfl, rfl⟩
    go_wp2
    go_ret
    exact ⟨rfl, rfl⟩
  · subst h
    refine asi (x := 0) ?_ (by simp [cmpV])
    go_enter Try.func92, Try.ntmps92
    go_wp2_with fail
    refine (HN.out _ _).mono ?_
    rintro e w1 ⟨rfl, rfl⟩
    go_wp2_with fail
    refine (HN.out _ _).mono ?_
    rintro e w1 ⟨rfl, rfl⟩
    go_wp2
    go_ret
    exact ⟨rfl, rfl⟩

theorem part_root (r c b p x r' c' b' p' x' : Int) (w : World) : Calls Try.prog 79 #[.agg #[.int .u64 r, .int .u32 c, .int .u64 b, .int .u16 p, .int .u16 x], .agg #[.int .u64 r', .int .u32 c', .int .u64 b', .int .u16 p', .int .u16 x']] w fun e w' => e = .returned (.int .i64 (cmpV r r')) ∧ Ext w w' := by
  go_enter Try.func79, Try.ntmps79
  go_wp2_with fail
  refine (cmp_u64 _ _ _).mono ?_
  rintro e w1 ⟨rfl, rfl⟩
  go_wp2
  go_ret
  exact ⟨rfl, ((Ext.refl w).alloc _).alloc _⟩

theorem part_cost (r c b p x r' c' b' p' x' : Int) (w : World) : Calls Try.prog 80 #[.agg #[.int .u64 r, .int .u32 c, .int .u64 b, .int .u16 p, .int .u16 x], .agg #[.int .u64 r', .int .u32 c', .int .u64 b', .int .u16 p', .int .u16 x']] w fun e w' => e = .returned (.int .i64 (cmpV c c')) ∧ Ext w w' := by
  go_enter Try.func80, Try.ntmps80
  go_wp2_with fail
  refine (cmp_u32 _ _ _).mono ?_
  rintro e w1 ⟨rfl, rfl⟩
  go_wp2
  go_ret
  exact ⟨rfl, ((Ext.refl w).alloc _).alloc _⟩

theorem part_bridge (r c b p x r' c' b' p' x' : Int) (w : World) : Calls Try.prog 81 #[.agg #[.int .u64 r, .int .u32 c, .int .u64 b, .int .u16 p, .int .u16 x], .agg #[.int .u64 r', .int .u32 c', .int .u64 b', .int .u16 p', .int .u16 x']] w fun e w' => e = .returned (.int .i64 (cmpV b b')) ∧ Ext w w' := by
  go_enter Try.func81, Try.ntmps81
  go_wp2_with fail
  refine (cmp_u64 _ _ _).mono ?_
  rintro e w1 ⟨rfl, rfl⟩
  go_wp2
  go_ret
  exact ⟨rfl, ((Ext.refl w).alloc _).alloc _⟩

theorem part_port (r c b p x r' c' b' p' x' : Int) (w : World) : Calls Try.prog 82 #[.agg #[.int .u64 r, .int .u32 c, .int .u64 b, .int .u16 p, .int .u16 x], .agg #[.int .u64 r', .int .u32 c', .int .u64 b', .int .u16 p', .int .u16 x']] w fun e w' => e = .returned (.int .i64 (cmpV p p')) ∧ Ext w w' := by
  go_enter Try.func82, Try.ntmps82
  go_wp2_with fail
  refine (cmp_u16 _ _ _).mono ?_
  rintro e w1 ⟨rfl, rfl⟩
  go_wp2
  go_ret
  exact ⟨rfl, ((Ext.refl w).alloc _).alloc _⟩

theorem part_rx (r c b p x r' c' b' p' x' : Int) (w : World) : Calls Try.prog 85 #[.agg #[.int .u64 r, .int .u32 c, .int .u64 b, .int .u16 p, .int .u16 x], .agg #[.int .u64 r', .int .u32 c', .int .u64 b', .int .u16 p', .int .u16 x']] w fun e w' => e = .returned (.int .i64 (cmpV x x')) ∧ Ext w w' := by
  go_enter Try.func85, Try.ntmps85
  go_wp2_with fail
  refine (cmp_u16 _ _ _).mono ?_
  rintro e w1 ⟨rfl, rfl⟩
  go_wp2
  go_ret
  exact ⟨rfl, ((Ext.refl w).alloc _).alloc _⟩

/-- The first of some numbers that isn't 0. -/
def firstNZ : List Int → Int
  | [] => 0
  | x :: l => if x = 0 then firstNZ l else x


/-- What a call of 'first' keeps: its two boxes. -/
theorem two_held (r c b p x r' c' b' p' x' : Int) {w : World} {t : TypeId} {w' : World} (hx : Ext ((w.alloc (.cells #[.int .u64 r, .int .u32 c, .int .u64 b, .int .u16 p, .int .u16 x] t)).alloc (.cells #[.int .u64 r', .int .u32 c', .int .u64 b', .int .u16 p', .int .u16 x'] t)) w') :
    (w'.cell? ⟨w.heap.size, 0, none⟩ = some (.int .u64 r) ∧ w'.cell? ⟨w.heap.size, 1, none⟩ = some (.int .u32 c) ∧ w'.cell? ⟨w.heap.size, 2, none⟩ = some (.int .u64 b) ∧ w'.cell? ⟨w.heap.size, 3, none⟩ = some (.int .u16 p) ∧ w'.cell? ⟨w.heap.size, 4, none⟩ = some (.int .u16 x)) ∧ (w'.cell? ⟨w.heap.size + 1, 0, none⟩ = some (.int .u64 r') ∧ w'.cell? ⟨w.heap.size + 1, 1, none⟩ = some (.int .u32 c') ∧ w'.cell? ⟨w.heap.size + 1, 2, none⟩ = some (.int .u64 b') ∧ w'.cell? ⟨w.heap.size + 1, 3, none⟩ = some (.int .u16 p') ∧ w'.cell? ⟨w.heap.size + 1, 4, none⟩ = some (.int .u16 x')) := by
  have o : ∀ j, w'.cell? ⟨w.heap.size, j, none⟩ = #[.int .u64 r, .int .u32 c, .int .u64 b, .int .u16 p, .int .u16 x][j]? := fun j => (hx.cell (by simp; omega)).trans ((World.cell?_alloc_past _ _ _ (by simp)).trans (World.cell?_alloc_at _ _ _ _ rfl))
  have n : ∀ j, w'.cell? ⟨w.heap.size + 1, j, none⟩ = #[.int .u64 r', .int .u32 c', .int .u64 b', .int .u16 p', .int .u16 x'][j]? := fun j => (hx.cell (by simp)).trans (World.cell?_alloc_at _ _ _ _ (by simp))
  exact ⟨⟨o 0, o 1, o 2, o 3, o 4⟩, n 0, n 1, n 2, n 3, n 4⟩

set_option maxHeartbeats 3200000 in
theorem first5 (r c b p x r' c' b' p' x' : Int) (S cap : Nat) (w : World) (hS0 : S < w.heap.size)
    (f0 : w.cell? ⟨S, 0, none⟩ = some (.func (.func 79) #[] #[]))
    (f1 : w.cell? ⟨S, 1, none⟩ = some (.func (.func 80) #[] #[]))
    (f2 : w.cell? ⟨S, 2, none⟩ = some (.func (.func 81) #[] #[]))
    (f3 : w.cell? ⟨S, 3, none⟩ = some (.func (.func 82) #[] #[]))
    (f4 : w.cell? ⟨S, 4, none⟩ = some (.func (.func 85) #[] #[])) :
    Calls Try.prog 78 #[.agg #[.int .u64 r, .int .u32 c, .int .u64 b, .int .u16 p, .int .u16 x], .agg #[.int .u64 r', .int .u32 c', .int .u64 b', .int .u16 p', .int .u16 x'], .slice (some ⟨S, 0, none⟩) 5 cap] w fun e w' => e = .returned (.int .i64 (firstNZ [cmpV r r', cmpV c c', cmpV b b', cmpV p p', cmpV x x'])) ∧ Ext w w' := by
  have hS := Lib.hid (fun w' (hx : Ext ((w.alloc (.cells #[.int .u64 r, .int .u32 c, .int .u64 b, .int .u16 p, .int .u16 x] 28)).alloc (.cells #[.int .u64 r', .int .u32 c', .int .u64 b', .int .u16 p', .int .u16 x'] 28)) w') => And.intro (two_held r c b p x r' c' b' p' x' hx)
    (show w'.cell? ⟨S, 0, none⟩ = some (.func (.func 79) #[] #[]) ∧ w'.cell? ⟨S, 1, none⟩ = some (.func (.func 80) #[] #[]) ∧ w'.cell? ⟨S, 2, none⟩ = some (.func (.func 81) #[] #[]) ∧ w'.cell? ⟨S, 3, none⟩ = some (.func (.func 82) #[] #[]) ∧ w'.cell? ⟨S, 4, none⟩ = some (.func (.func 85) #[] #[]) from ⟨((((Ext.refl w).alloc _).alloc _).trans hx).cell hS0 |>.trans f0, ((((Ext.refl w).alloc _).alloc _).trans hx).cell hS0 |>.trans f1, ((((Ext.refl w).alloc _).alloc _).trans hx).cell hS0 |>.trans f2, ((((Ext.refl w).alloc _).alloc _).trans hx).cell hS0 |>.trans f3, ((((Ext.refl w).alloc _).alloc _).trans hx).cell hS0 |>.trans f4⟩))
  clear f0 f1 f2 f3 f4
  go_enter Try.func78, Try.ntmps78
  go_wp2
  generalize hB : (w.alloc (Obj.cells #[Value.int IntKind.u64 r, Value.int IntKind.u32 c, Value.int IntKind.u64 b, Value.int IntKind.u16 p, Value.int IntKind.u16 x] 28)).alloc (Obj.cells #[Value.int IntKind.u64 r', Value.int IntKind.u32 c', Value.int IntKind.u64 b', Value.int IntKind.u16 p', Value.int IntKind.u16 x'] 28) = B at hS ⊢
  have hwB : Ext w B := by rw [← hB]; exact ((Ext.refl w).alloc _).alloc _
  clear hB
  have x0 : Ext B B := Ext.refl B
  have K := hS.out _ x0
  refine wp_loop_rounds 6 ?_
  rw [rounds_succ]
  go_wp2_with fail
  refine (part_root r c b p x r' c' b' p' x' _).mono ?_
  rintro e w1 ⟨rfl, h1⟩
  have x1 : Ext B w1 := x0.trans h1
  clear K
  have K := hS.out _ x1
  by_cases z1 : cmpV r r' = 0
  rotate_left
  · have b1 : (cmpV r r' != 0) = true := by simpa using z1
    have Z := Lib.hid z1
    clear z1
    go_wp2
    go_ret
    exact ⟨retI (by simp [firstNZ, Z.out]), hwB.trans x1⟩
  have b1 : (cmpV r r' != 0) = false := by simpa using z1
  have y1 := Lib.hid z1
  clear z1
  go_wp2
  rw [rounds_succ]
  go_wp2_with fail
  refine (part_cost r c b p x r' c' b' p' x' _).mono ?_
  rintro e w2 ⟨rfl, h2⟩
  have x2 : Ext B w2 := x1.trans h2
  clear K
  have K := hS.out _ x2
  by_cases z2 : cmpV c c' = 0
  rotate_left
  · have b2 : (cmpV c c' != 0) = true := by simpa using z2
    have Z := Lib.hid z2
    clear z2
    go_wp2
    go_ret
    exact ⟨retI (by simp [firstNZ, y1.out, Z.out]), hwB.trans x2⟩
  have b2 : (cmpV c c' != 0) = false := by simpa using z2
  have y2 := Lib.hid z2
  clear z2
  go_wp2
  rw [rounds_succ]
  go_wp2_with fail
  refine (part_bridge r c b p x r' c' b' p' x' _).mono ?_
  rintro e w3 ⟨rfl, h3⟩
  have x3 : Ext B w3 := x2.trans h3
  clear K
  have K := hS.out _ x3
  by_cases z3 : cmpV b b' = 0
  rotate_left
  · have b3 : (cmpV b b' != 0) = true := by simpa using z3
    have Z := Lib.hid z3
    clear z3
    go_wp2
    go_ret
    exact ⟨retI (by simp [firstNZ, y1.out, y2.out, Z.out]), hwB.trans x3⟩
  have b3 : (cmpV b b' != 0) = false := by simpa using z3
  have y3 := Lib.hid z3
  clear z3
  go_wp2
  rw [rounds_succ]
  go_wp2_with fail
  refine (part_port r c b p x r' c' b' p' x' _).mono ?_
  rintro e w4 ⟨rfl, h4⟩
  have x4 : Ext B w4 := x3.trans h4
  clear K
  have K := hS.out _ x4
  by_cases z4 : cmpV p p' = 0
  rotate_left
  · have b4 : (cmpV p p' != 0) = true := by simpa using z4
    have Z := Lib.hid z4
    clear z4
    go_wp2
    go_ret
    exact ⟨retI (by simp [firstNZ, y1.out, y2.out, y3.out, Z.out]), hwB.trans x4⟩
  have b4 : (cmpV p p' != 0) = false := by simpa using z4
  have y4 := Lib.hid z4
  clear z4
  go_wp2
  rw [rounds_succ]
  go_wp2_with fail
  refine (part_rx r c b p x r' c' b' p' x' _).mono ?_
  rintro e w5 ⟨rfl, h5⟩
  have x5 : Ext B w5 := x4.trans h5
  clear K
  have K := hS.out _ x5
  by_cases z5 : cmpV x x' = 0
  rotate_left
  · have b5 : (cmpV x x' != 0) = true := by simpa using z5
    have Z := Lib.hid z5
    clear z5
    go_wp2
    go_ret
    exact ⟨retI (by simp [firstNZ, y1.out, y2.out, y3.out, y4.out, Z.out]), hwB.trans x5⟩
  have b5 : (cmpV x x' != 0) = false := by simpa using z5
  have y5 := Lib.hid z5
  clear z5
  go_wp2
  rw [rounds_succ]
  go_wp2
  go_ret
  exact ⟨retI (by simp [firstNZ, y1.out, y2.out, y3.out, y4.out, y5.out]), hwB.trans x5⟩

set_option maxHeartbeats 3200000 in
theorem first4 (r c b p x r' c' b' p' x' : Int) (S cap : Nat) (w : World) (hS0 : S < w.heap.size)
    (f0 : w.cell? ⟨S, 0, none⟩ = some (.func (.func 79) #[] #[]))
    (f1 : w.cell? ⟨S, 1, none⟩ = some (.func (.func 80) #[] #[]))
    (f2 : w.cell? ⟨S, 2, none⟩ = some (.func (.func 81) #[] #[]))
    (f3 : w.cell? ⟨S, 3, none⟩ = some (.func (.func 82) #[] #[])) :
    Calls Try.prog 78 #[.agg #[.int .u64 r, .int .u32 c, .int .u64 b, .int .u16 p, .int .u16 x], .agg #[.int .u64 r', .int .u32 c', .int .u64 b', .int .u16 p', .int .u16 x'], .slice (some ⟨S, 0, none⟩) 4 cap] w fun e w' => e = .returned (.int .i64 (firstNZ [cmpV r r', cmpV c c', cmpV b b', cmpV p p'])) ∧ Ext w w' := by
  have hS := Lib.hid (fun w' (hx : Ext ((w.alloc (.cells #[.int .u64 r, .int .u32 c, .int .u64 b, .int .u16 p, .int .u16 x] 28)).alloc (.cells #[.int .u64 r', .int .u32 c', .int .u64 b', .int .u16 p', .int .u16 x'] 28)) w') => And.intro (two_held r c b p x r' c' b' p' x' hx)
    (show w'.cell? ⟨S, 0, none⟩ = some (.func (.func 79) #[] #[]) ∧ w'.cell? ⟨S, 1, none⟩ = some (.func (.func 80) #[] #[]) ∧ w'.cell? ⟨S, 2, none⟩ = some (.func (.func 81) #[] #[]) ∧ w'.cell? ⟨S, 3, none⟩ = some (.func (.func 82) #[] #[]) from ⟨((((Ext.refl w).alloc _).alloc _).trans hx).cell hS0 |>.trans f0, ((((Ext.refl w).alloc _).alloc _).trans hx).cell hS0 |>.trans f1, ((((Ext.refl w).alloc _).alloc _).trans hx).cell hS0 |>.trans f2, ((((Ext.refl w).alloc _).alloc _).trans hx).cell hS0 |>.trans f3⟩))
  clear f0 f1 f2 f3
  go_enter Try.func78, Try.ntmps78
  go_wp2
  generalize hB : (w.alloc (Obj.cells #[Value.int IntKind.u64 r, Value.int IntKind.u32 c, Value.int IntKind.u64 b, Value.int IntKind.u16 p, Value.int IntKind.u16 x] 28)).alloc (Obj.cells #[Value.int IntKind.u64 r', Value.int IntKind.u32 c', Value.int IntKind.u64 b', Value.int IntKind.u16 p', Value.int IntKind.u16 x'] 28) = B at hS ⊢
  have hwB : Ext w B := by rw [← hB]; exact ((Ext.refl w).alloc _).alloc _
  clear hB
  have x0 : Ext B B := Ext.refl B
  have K := hS.out _ x0
  refine wp_loop_rounds 5 ?_
  rw [rounds_succ]
  go_wp2_with fail
  refine (part_root r c b p x r' c' b' p' x' _).mono ?_
  rintro e w1 ⟨rfl, h1⟩
  have x1 : Ext B w1 := x0.trans h1
  clear K
  have K := hS.out _ x1
  by_cases z1 : cmpV r r' = 0
  rotate_left
  · have b1 : (cmpV r r' != 0) = true := by simpa using z1
    have Z := Lib.hid z1
    clear z1
    go_wp2
    go_ret
    exact ⟨retI (by simp [firstNZ, Z.out]), hwB.trans x1⟩
  have b1 : (cmpV r r' != 0) = false := by simpa using z1
  have y1 := Lib.hid z1
  clear z1
  go_wp2
  rw [rounds_succ]
  go_wp2_with fail
  refine (part_cost r c b p x r' c' b' p' x' _).mono ?_
  rintro e w2 ⟨rfl, h2⟩
  have x2 : Ext B w2 := x1.trans h2
  clear K
  have K := hS.out _ x2
  by_cases z2 : cmpV c c' = 0
  rotate_left
  · have b2 : (cmpV c c' != 0) = true := by simpa using z2
    have Z := Lib.hid z2
    clear z2
    go_wp2
    go_ret
    exact ⟨retI (by simp [firstNZ, y1.out, Z.out]), hwB.trans x2⟩
  have b2 : (cmpV c c' != 0) = false := by simpa using z2
  have y2 := Lib.hid z2
  clear z2
  go_wp2
  rw [rounds_succ]
  go_wp2_with fail
  refine (part_bridge r c b p x r' c' b' p' x' _).mono ?_
  rintro e w3 ⟨rfl, h3⟩
  have x3 : Ext B w3 := x2.trans h3
  clear K
  have K := hS.out _ x3
  by_cases z3 : cmpV b b' = 0
  rotate_left
  · have b3 : (cmpV b b' != 0) = true := by simpa using z3
    have Z := Lib.hid z3
    clear z3
    go_wp2
    go_ret
    exact ⟨retI (by simp [firstNZ, y1.out, y2.out, Z.out]), hwB.trans x3⟩
  have b3 : (cmpV b b' != 0) = false := by simpa using z3
  have y3 := Lib.hid z3
  clear z3
  go_wp2
  rw [rounds_succ]
  go_wp2_with fail
  refine (part_port r c b p x r' c' b' p' x' _).mono ?_
  rintro e w4 ⟨rfl, h4⟩
  have x4 : Ext B w4 := x3.trans h4
  clear K
  have K := hS.out _ x4
  by_cases z4 : cmpV p p' = 0
  rotate_left
  · have b4 : (cmpV p p' != 0) = true := by simpa using z4
    have Z := Lib.hid z4
    clear z4
    go_wp2
    go_ret
    exact ⟨retI (by simp [firstNZ, y1.out, y2.out, y3.out, Z.out]), hwB.trans x4⟩
  have b4 : (cmpV p p' != 0) = false := by simpa using z4
  have y4 := Lib.hid z4
  clear z4
  go_wp2
  rw [rounds_succ]
  go_wp2
  go_ret
  exact ⟨retI (by simp [firstNZ, y1.out, y2.out, y3.out, y4.out]), hwB.trans x4⟩

theorem vcmp_any (r c b p x r' c' b' p' x' : Int) (w : World) :
    Calls Try.prog 68 #[.agg #[.int .u64 r, .int .u32 c, .int .u64 b, .int .u16 p, .int .u16 x], .agg #[.int .u64 r', .int .u32 c', .int .u64 b', .int .u16 p', .int .u16 x']] w fun e w' => e = .returned (.int .i64 (firstNZ [cmpV r r', cmpV c c', cmpV b b', cmpV p p', cmpV x x'])) ∧ Ext w w' := by
  go_enter Try.func68, Try.ntmps68
  go_wp2_with fail
  refine (first5 r c b p x r' c' b' p' x' _ _ _ (by simp) ?_ ?_ ?_ ?_ ?_).mono ?_
  · exact (World.cell?_alloc_at _ _ _ _ (by simp)).trans rfl
  · exact (World.cell?_alloc_at _ _ _ _ (by simp)).trans rfl
  · exact (World.cell?_alloc_at _ _ _ _ (by simp)).trans rfl
  · exact (World.cell?_alloc_at _ _ _ _ (by simp)).trans rfl
  · exact (World.cell?_alloc_at _ _ _ _ (by simp)).trans rfl
  rintro e w1 ⟨rfl, h1⟩
  go_wp2
  go_ret
  exact ⟨rfl, ((((Ext.refl w).alloc _).alloc _).alloc _).trans h1⟩

theorem vfour_any (r c b p x r' c' b' p' x' : Int) (w : World) :
    Calls Try.prog 64 #[.agg #[.int .u64 r, .int .u32 c, .int .u64 b, .int .u16 p, .int .u16 x], .agg #[.int .u64 r', .int .u32 c', .int .u64 b', .int .u16 p', .int .u16 x']] w fun e w' => e = .returned (.int .i64 (firstNZ [cmpV r r', cmpV c c', cmpV b b', cmpV p p'])) ∧ Ext w w' := by
  go_enter Try.func64, Try.ntmps64
  go_wp2_with fail
  refine (first4 r c b p x r' c' b' p' x' _ _ _ (by simp) ?_ ?_ ?_ ?_).mono ?_
  · exact (World.cell?_alloc_at _ _ _ _ (by simp)).trans rfl
  · exact (World.cell?_alloc_at _ _ _ _ (by simp)).trans rfl
  · exact (World.cell?_alloc_at _ _ _ _ (by simp)).trans rfl
  · exact (World.cell?_alloc_at _ _ _ _ (by simp)).trans rfl
  rintro e w1 ⟨rfl, h1⟩
  go_wp2
  go_ret
  exact ⟨rfl, ((((Ext.refl w).alloc _).alloc _).alloc _).trans h1⟩

end Go.Proofs.Ythfoacgdkoijeaa
