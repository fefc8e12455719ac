/- Times: how long they are kept. No statement is proved here. -/
import Derived.Test.YthfoacgdkoijeaaBase
import Derived.Deep.RegionHeld3
import Derived.Laws.StructEq
namespace Go.Proofs.Ythfoacgdkoijeaa
open Go.RowKit Go.BigFrame Go.WideShapes Go.ChangeShapes Go.Deep
set_option linter.unusedVariables false
set_option linter.unusedSimpArgs false

theorem older_any (a m h d : Int) (w : World) (h0 : -9223372036854775808 ≤ a) (h1 : a < 9223372036854775807) :
    Calls Try.prog 69 #[.agg #[.int .i64 a, .int .i64 m, .int .i64 h, .int .i64 d]] w fun e w' => e = .returned (.agg #[.int .i64 (a + 1), .int .i64 m, .int .i64 h, .int .i64 d]) ∧ Ext w w' := by
  go_enter Try.func69, Try.ntmps69
  go_wp2
  exact bodyPost_ret (v := .agg #[.int .i64 (a + 1), .int .i64 m, .int .i64 h, .int .i64 d]) (by simp [results, Try.results69, go_sem]) rfl ⟨rfl, ((Ext.refl w).alloc _).alloc _⟩
theorem w64 (n : Int) (h0 : -9223372036854775808 ≤ n) (h1 : n ≤ 9223372036854775807) : wrap64 n = n := by unfold wrap64; omega
theorem field_age (w : World) (a m h d : Int) : (Instr.field 24 (.agg #[.int .i64 a, .int .i64 m, .int .i64 h, .int .i64 d]) 0).run Try.prog w = .ok (.int .i64 a) w := by kernel_rfl
attribute [local go_sem] field_age
/-- What a region must keep: the world has at most new memory, and the box reads as it was laid. -/
theorem box_held {w : World} {t : TypeId} (a m h d : Int) {w' : World} (hx : Ext (w.alloc (.cells #[.int .i64 a, .int .i64 m, .int .i64 h, .int .i64 d] t)) w') :
    Ext (w.alloc (.cells #[.int .i64 a, .int .i64 m, .int .i64 h, .int .i64 d] t)) w' ∧ w'.cell? ⟨w.heap.size, 0, none⟩ = some (.int .i64 a) ∧ w'.cell? ⟨w.heap.size, 1, none⟩ = some (.int .i64 m) ∧
      w'.cell? ⟨w.heap.size, 2, none⟩ = some (.int .i64 h) ∧ w'.cell? ⟨w.heap.size, 3, none⟩ = some (.int .i64 d) :=
  ⟨hx, (hx.cell (by simp)).trans ((World.cell?_alloc_at _ _ _ _ rfl).trans rfl), (hx.cell (by simp)).trans ((World.cell?_alloc_at _ _ _ _ rfl).trans rfl),
    (hx.cell (by simp)).trans ((World.cell?_alloc_at _ _ _ _ rfl).trans rfl), (hx.cell (by simp)).trans ((World.cell?_alloc_at _ _ _ _ rfl).trans rfl)⟩
theorem waits_yes (a m h d : Int) (w : World) (ha : 0 ≤ a) (ha' : a ≤ 65535) (hm : 0 ≤ m) (hm' : m ≤ 65535) (hh : 0 ≤ h) (hh' : h ≤ 65535) (hlt : a + 1 ≤ m) :
    Calls Try.prog 94 #[.agg #[.int .i64 a, .int .i64 m, .int .i64 h, .int .i64 d]] w fun e w' => e = .returned (.int .i64 (3 * h)) ∧ Ext w w' := by
  have hS := Lib.hid (fun w' => @box_held w 24 a m h d w')
  go_enter Try.func94, Try.ntmps94
  go_wp2
  generalize hB : w.alloc (Obj.cells #[Value.int IntKind.i64 a, Value.int IntKind.i64 m, Value.int IntKind.i64 h, Value.int IntKind.i64 d] 24) = B at hS ⊢
  have hwB : Ext w B := by rw [← hB]; exact (Ext.refl w).alloc _
  clear hB
  go_region_held3 (fun w' => Ext B w' ∧ w'.cell? ⟨w.heap.size, 0, none⟩ = some (.int .i64 a) ∧ w'.cell? ⟨w.heap.size, 1, none⟩ = some (.int .i64 m) ∧ w'.cell? ⟨w.heap.size, 2, none⟩ = some (.int .i64 h) ∧ w'.cell? ⟨w.heap.size, 3, none⟩ = some (.int .i64 d))
    ((first | exact hS.out _ (Ext.refl _) | exact hS.out _ (Ext.drew (Ext.refl _)) | exact hS.out _ (Ext.drew (And.left (by assumption))) | exact hS.out _ (Ext.trans (And.left (by assumption)) (by assumption))))
    (first | (go_at_call 69; refine (older_any _ _ _ _ _ (by omega) (by omega)).mono ?_; rintro e w1 ⟨rfl, h1⟩))
  have hw1 : Ext w w1 := hwB.trans ((Ext.refl _).drew.trans h1)
  have hc := hS.out _ ((Ext.refl _).drew.trans h1)
  have hf : decide (m < a + 1) = false := by simp; omega
  go_wp2
  go_ret
  exact ⟨retI (by omega), hw1⟩
theorem waits_no (a m h d : Int) (w : World) (ha : 0 ≤ a) (ha' : a ≤ 65535) (hm : 0 ≤ m) (hm' : m ≤ 65535) (hh : 0 ≤ h) (hh' : h ≤ 65535) (hlt : m < a + 1) :
    Calls Try.prog 94 #[.agg #[.int .i64 a, .int .i64 m, .int .i64 h, .int .i64 d]] w fun e w' => e = .returned (.int .i64 (0)) ∧ Ext w w' := by
  have hS := Lib.hid (fun w' => @box_held w 24 a m h d w')
  go_enter Try.func94, Try.ntmps94
  go_wp2
  generalize hB : w.alloc (Obj.cells #[Value.int IntKind.i64 a, Value.int IntKind.i64 m, Value.int IntKind.i64 h, Value.int IntKind.i64 d] 24) = B at hS ⊢
  have hwB : Ext w B := by rw [← hB]; exact (Ext.refl w).alloc _
  clear hB
  go_region_held3 (fun w' => Ext B w' ∧ w'.cell? ⟨w.heap.size, 0, none⟩ = some (.int .i64 a) ∧ w'.cell? ⟨w.heap.size, 1, none⟩ = some (.int .i64 m) ∧ w'.cell? ⟨w.heap.size, 2, none⟩ = some (.int .i64 h) ∧ w'.cell? ⟨w.heap.size, 3, none⟩ = some (.int .i64 d))
    ((first | exact hS.out _ (Ext.refl _) | exact hS.out _ (Ext.drew (Ext.refl _)) | exact hS.out _ (Ext.drew (And.left (by assumption))) | exact hS.out _ (Ext.trans (And.left (by assumption)) (by assumption))))
    (first | (go_at_call 69; refine (older_any _ _ _ _ _ (by omega) (by omega)).mono ?_; rintro e w1 ⟨rfl, h1⟩))
  have hw1 : Ext w w1 := hwB.trans ((Ext.refl _).drew.trans h1)
  have hc := hS.out _ ((Ext.refl _).drew.trans h1)
  have hf : decide (m < a + 1) = true := by simp; omega
  go_wp2
  go_ret
  exact ⟨retI (by omega), hw1⟩
def waitsV (a m h : Int) : Int := if a < m then 3 * h else 0
theorem waits_any (a m h d : Int) (w : World) (ha : 0 ≤ a) (ha' : a ≤ 65535) (hm : 0 ≤ m) (hm' : m ≤ 65535) (hh : 0 ≤ h) (hh' : h ≤ 65535) :
    Calls Try.prog 94 #[.agg #[.int .i64 a, .int .i64 m, .int .i64 h, .int .i64 d]] w fun e w' => e = .returned (.int .i64 (waitsV a m h)) ∧ Ext w w' := by
  by_cases hlt : a < m
  · exact asi (waits_yes a m h d w ha ha' hm hm' hh hh' (by omega)) (by simp [waitsV, hlt])
  · exact asi (waits_no a m h d w ha ha' hm hm' hh hh' (by omega)) (by simp [waitsV, hlt])
theorem ref_waits (a m h d : Int) (w : World) (ha : 0 ≤ a) (ha' : a ≤ 65535) (hm : 0 ≤ m) (hm' : m ≤ 65535) (hh : 0 ≤ h) (hh' : h ≤ 65535) :
    Calls Try.prog 26 #[.agg #[.int .i64 a, .int .i64 m, .int .i64 h, .int .i64 d]] w fun e w' => e = .returned (.int .i64 (waitsV a m h)) ∧ Ext w w' := by
  by_cases hlt : a < m
  · refine asi (x := 3 * h) ?_ (by simp [waitsV, hlt])
    have hf : decide (a < m) = true := by simpa using hlt
    go_enter Try.func26, Try.ntmps26
    go_wp2
    go_ret
    exact ⟨retI (by omega), (Ext.refl w).alloc _⟩
  · refine asi (x := 0) ?_ (by simp [waitsV, hlt])
    have hf : decide (a < m) = false := by simpa using hlt
    go_enter Try.func26, Try.ntmps26
    go_wp2
    go_ret
    exact ⟨retI (by omega), (Ext.refl w).alloc _⟩
theorem eq_times (w : World) (a m h d a' m' h' d' : Int) : (binOp .eql 24 (.agg #[.int .i64 a, .int .i64 m, .int .i64 h, .int .i64 d]) (.agg #[.int .i64 a', .int .i64 m', .int .i64 h', .int .i64 d'])).run Try.prog w =
    .ok (.bool (a == a' && m == m' && h == h' && d == d')) w := by
  have k1 : Try.prog.stoodInHeld 24 = false := by kernel_rfl
  simp [go_sem, k1, Try.underlying24]
  split
  · split
    · split
      · split <;> simp_all
      · simp_all
    · simp_all
  · simp_all
theorem guard_times : Try.prog.eqGuardType Try.prog.depth 24 = false := by kernel_rfl

end Go.Proofs.Ythfoacgdkoijeaa
