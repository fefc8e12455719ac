/- Contracts of package times and of the document's answers, and the walks of its laws. -/
import Derived.Test.YtgiobcbdbhnneabBase
import Derived.Deep.RegionHeld3
import Derived.Laws.StructEq
namespace Go.Proofs.Ytgiobcbdbhnneab
open Go.RowKit
set_option linter.unusedVariables false

theorem older_any (a m h d : Int) (w : World) (h0 : -9223372036854775808 ≤ a) (h1 : a < 9223372036854775807) :
    Calls Try.prog 23 #[.agg #[.int .i64 a, .int .i64 m, .int .i64 h, .int .i64 d]] w fun e w' => e = .returned (.agg #[.int .i64 (a + 1), .int .i64 m, .int .i64 h, .int .i64 d]) ∧ Ext w w' := by
  go_enter Try.func23, Try.ntmps23
  go_wp2
  exact bodyPost_ret (v := .agg #[.int .i64 (a + 1), .int .i64 m, .int .i64 h, .int .i64 d]) (by simp [results, Try.results23, go_sem]) rfl ⟨rfl, ((Ext.refl w).alloc _).alloc _⟩

theorem within_any (n l m : Int) (w : World) :
    Calls Try.prog 37 #[.int .i64 n, .int .i64 l, .int .i64 m] w fun e w' => e = .returned (.bool (decide (l ≤ n) && decide (n ≤ m))) ∧ w = w' := by
  by_cases h1 : l ≤ n
  · have e1 : decide (l ≤ n) = true := by simpa using h1
    go_enter Try.func37, Try.ntmps37
    go_wp2
    go_ret
    exact ⟨retB (by rw [e1]; rfl), rfl⟩
  · have e1 : decide (l ≤ n) = false := by simpa using h1
    go_enter Try.func37, Try.ntmps37
    go_wp2
    go_ret
    exact ⟨rfl, rfl⟩

def toV (s : Int) : Int := if s < 0 then 0 else if 255 < s then 65280 else s * 256

theorem to_any (s : Int) (w : World) : Calls Try.prog 24 #[.int .i64 s] w fun e w' => e = .returned (.int .u16 (toV s)) ∧ w = w' := by
  by_cases h : s < 0
  · refine asi (x := 0) ?_ (by simp [toV, h])
    go_enter Try.func24, Try.ntmps24
    go_wp2
    go_ret
    exact ⟨retI (by omega), rfl⟩
  · by_cases h2 : 255 < s
    · refine asi (x := 65280) ?_ (by simp [toV, h, h2])
      go_enter Try.func24, Try.ntmps24
      go_wp2
      go_ret
      exact ⟨retI (by omega), rfl⟩
    · refine asi (x := s * 256) ?_ (by simp [toV, h, h2])
      go_enter Try.func24, Try.ntmps24
      go_wp2
      go_ret
      exact ⟨retI (by omega), rfl⟩

theorem ref_to (s : Int) (w : World) : Calls Try.prog 25 #[.int .i64 s] w fun e w' => e = .returned (.int .u16 (toV s)) ∧ w = w' := by
  by_cases h : s < 0
  · refine asi (x := 0) ?_ (by simp [toV, h])
    go_enter Try.func25, Try.ntmps25
    go_wp2
    go_ret
    exact ⟨retI (by omega), rfl⟩
  · by_cases h2 : 255 < s
    · refine asi (x := 65280) ?_ (by simp [toV, h, h2])
      go_enter Try.func25, Try.ntmps25
      go_wp2
      go_ret
      exact ⟨retI (by omega), rfl⟩
    · refine asi (x := s * 256) ?_ (by simp [toV, h, h2])
      go_enter Try.func25, Try.ntmps25
      go_wp2
      go_ret
      exact ⟨retI (by omega), rfl⟩

theorem from_any (x : Int) (w : World) (h0 : 0 ≤ x) (h1 : x < 65536) : Calls Try.prog 26 #[.int .u16 x] w fun e w' => e = .returned (.int .i64 ((x + 128) / 256)) ∧ w = w' := by
  go_enter Try.func26, Try.ntmps26
  go_wp2
  go_ret
  exact ⟨retI (by omega), rfl⟩

theorem ref_from (x : Int) (w : World) (h0 : 0 ≤ x) (h1 : x < 65536) : Calls Try.prog 27 #[.int .u16 x] w fun e w' => e = .returned (.int .i64 ((x + 128) / 256)) ∧ w = w' := by
  have hd : (x.tdiv 256) = x / 256 := Int.tdiv_eq_ediv_of_nonneg h0
  have hm : (x.tmod 256) = x % 256 := Int.tmod_eq_emod_of_nonneg h0
  have e0 : IntKind.u16.wrap (x / 256) = x / 256 := by rw [IntKind.wrap_u16]; omega
  have e1 : wrap64 (x / 256) = x / 256 := by unfold wrap64; omega
  have e2 : wrap64 (x / 256 + 1) = x / 256 + 1 := by unfold wrap64; omega
  by_cases h : 128 ≤ x % 256
  · go_enter Try.func27, Try.ntmps27
    go_wp2
    go_ret
    exact ⟨retI (by omega), rfl⟩
  · go_enter Try.func27, Try.ntmps27
    go_wp2
    go_ret
    exact ⟨retI (by omega), rfl⟩

theorem eq_checks (w : World) (b0 b1 b2 b3 b4 b5 : Bool) : (binOp .eql 51 (.agg #[.bool b0, .bool b1, .bool b2, .bool b3, .bool b4, .bool b5]) (.agg #[.bool true, .bool true, .bool true, .bool true, .bool true, .bool true])).run Try.prog w =
    .ok (.bool (b0 && b1 && b2 && b3 && b4 && b5)) w := by
  have k1 : Try.prog.stoodInHeld 51 = false := by kernel_rfl
  simp [go_sem, k1, Try.underlying51]
  cases b0 <;> simp <;> cases b1 <;> simp <;> cases b2 <;> simp <;> cases b3 <;> simp <;> cases b4 <;> simp <;> cases b5 <;> simp
theorem guard_checks : Try.prog.eqGuardType Try.prog.depth 51 = false := by kernel_rfl
theorem eq_times (w : World) (a m h d a' m' h' d' : Int) : (binOp .eql 34 (.agg #[.int .i64 a, .int .i64 m, .int .i64 h, .int .i64 d]) (.agg #[.int .i64 a', .int .i64 m', .int .i64 h', .int .i64 d'])).run Try.prog w =
    .ok (.bool (a == a' && m == m' && h == h' && d == d')) w := by
  have k1 : Try.prog.stoodInHeld 34 = false := by kernel_rfl
  simp [go_sem, k1, Try.underlying34]
  split
  · split
    · split
      · split <;> simp_all
      · simp_all
    · simp_all
  · simp_all
theorem guard_times : Try.prog.eqGuardType Try.prog.depth 34 = false := by kernel_rfl
theorem field_age (w : World) (a m h d : Int) : (Instr.field 34 (.agg #[.int .i64 a, .int .i64 m, .int .i64 h, .int .i64 d]) 0).run Try.prog w = .ok (.int .i64 a) w := by kernel_rfl
attribute [local go_sem] field_age

theorem w64 (n : Int) (h0 : -9223372036854775808 ≤ n) (h1 : n ≤ 9223372036854775807) : wrap64 n = n := by unfold wrap64; omega

/-- Whether times may be. -/
def rightB (a m h d : Int) : Bool := decide (0 ≤ a ∧ a ≤ 255 ∧ 6 ≤ m ∧ m ≤ 40 ∧ 1 ≤ h ∧ h ≤ 10 ∧ 4 ≤ d ∧ d ≤ 30 ∧ m ≤ 2 * (d - 1) ∧ 2 * (h + 1) ≤ m)

theorem right_any (a m h d : Int) (w : World) :
    Calls Try.prog 18 #[.agg #[.int .i64 a, .int .i64 m, .int .i64 h, .int .i64 d]] w fun e w' => e = .returned (.bool (rightB a m h d)) ∧ Ext w w' := by
  have he := eq_checks
  have hg := guard_checks
  go_enter Try.func18, Try.ntmps18
  go_wp2
  go_quiet ((first
    | (go_at_call 37; exact quietL (within_any _ _ _ _))
    | (go_at_call 37; exact quietA (within_any _ _ _ _))))
  go_wp2
  go_ret
  refine ⟨retB ?_, ((Ext.refl w).alloc _).drewN _⟩
  unfold rightB
  rw [Bool.eq_iff_iff]
  simp only [Bool.and_eq_true, decide_eq_true_eq]
  by_cases hr : (1 ≤ h ∧ h ≤ 10) ∧ (4 ≤ d ∧ d ≤ 30)
  · rw [w64 (d - 1) (by omega) (by omega), w64 (2 * (d - 1)) (by omega) (by omega), w64 (h + 1) (by omega) (by omega), w64 (2 * (h + 1)) (by omega) (by omega)]
    omega
  · omega

/-- What a region must keep: the world has at most new memory, and the box reads as it was laid. -/
theorem box_held {w : World} {t : TypeId} (a m h d : Int) {w' : World} (hx : Ext (w.alloc (.cells #[.int .i64 a, .int .i64 m, .int .i64 h, .int .i64 d] t)) w') :
    Ext (w.alloc (.cells #[.int .i64 a, .int .i64 m, .int .i64 h, .int .i64 d] t)) w' ∧ w'.cell? ⟨w.heap.size, 0, none⟩ = some (.int .i64 a) ∧ w'.cell? ⟨w.heap.size, 1, none⟩ = some (.int .i64 m) ∧
      w'.cell? ⟨w.heap.size, 2, none⟩ = some (.int .i64 h) ∧ w'.cell? ⟨w.heap.size, 3, none⟩ = some (.int .i64 d) :=
  ⟨hx, (hx.cell (by simp)).trans ((World.cell?_alloc_at _ _ _ _ rfl).trans rfl), (hx.cell (by simp)).trans ((World.cell?_alloc_at _ _ _ _ rfl).trans rfl),
    (hx.cell (by simp)).trans ((World.cell?_alloc_at _ _ _ _ rfl).trans rfl), (hx.cell (by simp)).trans ((World.cell?_alloc_at _ _ _ _ rfl).trans rfl)⟩

theorem waits_yes (a m h d : Int) (w : World) (ha : 0 ≤ a) (ha' : a ≤ 65535) (hm : 0 ≤ m) (hm' : m ≤ 65535) (hh : 0 ≤ h) (hh' : h ≤ 65535) (hlt : a + 1 ≤ m) :
    Calls Try.prog 21 #[.agg #[.int .i64 a, .int .i64 m, .int .i64 h, .int .i64 d]] w fun e w' => e = .returned (.int .i64 (3 * h)) ∧ Ext w w' := by
  have hS := Lib.hid (fun w' => @box_held w 34 a m h d w')
  go_enter Try.func21, Try.ntmps21
  go_wp2
  generalize hB : w.alloc (Obj.cells #[Value.int IntKind.i64 a, Value.int IntKind.i64 m, Value.int IntKind.i64 h, Value.int IntKind.i64 d] 34) = B at hS ⊢
  have hwB : Ext w B := by rw [← hB]; exact (Ext.refl w).alloc _
  clear hB
  go_region_held3 (fun w' => Ext B w' ∧ w'.cell? ⟨w.heap.size, 0, none⟩ = some (.int .i64 a) ∧ w'.cell? ⟨w.heap.size, 1, none⟩ = some (.int .i64 m) ∧ w'.cell? ⟨w.heap.size, 2, none⟩ = some (.int .i64 h) ∧ w'.cell? ⟨w.heap.size, 3, none⟩ = some (.int .i64 d))
    ((first | exact hS.out _ (Ext.refl _) | exact hS.out _ (Ext.drew (Ext.refl _)) | exact hS.out _ (Ext.drew (And.left (by assumption))) | exact hS.out _ (Ext.trans (And.left (by assumption)) (by assumption))))
    (first | (go_at_call 23; refine (older_any _ _ _ _ _ (by omega) (by omega)).mono ?_; rintro e w1 ⟨rfl, h1⟩))
  have hw1 : Ext w w1 := hwB.trans ((Ext.refl _).drew.trans h1)
  have hc := hS.out _ ((Ext.refl _).drew.trans h1)
  have hf : decide (m < a + 1) = false := by simp; omega
  go_wp2
  go_ret
  exact ⟨retI (by omega), hw1⟩

theorem waits_no (a m h d : Int) (w : World) (ha : 0 ≤ a) (ha' : a ≤ 65535) (hm : 0 ≤ m) (hm' : m ≤ 65535) (hh : 0 ≤ h) (hh' : h ≤ 65535) (hlt : m < a + 1) :
    Calls Try.prog 21 #[.agg #[.int .i64 a, .int .i64 m, .int .i64 h, .int .i64 d]] w fun e w' => e = .returned (.int .i64 (0)) ∧ Ext w w' := by
  have hS := Lib.hid (fun w' => @box_held w 34 a m h d w')
  go_enter Try.func21, Try.ntmps21
  go_wp2
  generalize hB : w.alloc (Obj.cells #[Value.int IntKind.i64 a, Value.int IntKind.i64 m, Value.int IntKind.i64 h, Value.int IntKind.i64 d] 34) = B at hS ⊢
  have hwB : Ext w B := by rw [← hB]; exact (Ext.refl w).alloc _
  clear hB
  go_region_held3 (fun w' => Ext B w' ∧ w'.cell? ⟨w.heap.size, 0, none⟩ = some (.int .i64 a) ∧ w'.cell? ⟨w.heap.size, 1, none⟩ = some (.int .i64 m) ∧ w'.cell? ⟨w.heap.size, 2, none⟩ = some (.int .i64 h) ∧ w'.cell? ⟨w.heap.size, 3, none⟩ = some (.int .i64 d))
    ((first | exact hS.out _ (Ext.refl _) | exact hS.out _ (Ext.drew (Ext.refl _)) | exact hS.out _ (Ext.drew (And.left (by assumption))) | exact hS.out _ (Ext.trans (And.left (by assumption)) (by assumption))))
    (first | (go_at_call 23; refine (older_any _ _ _ _ _ (by omega) (by omega)).mono ?_; rintro e w1 ⟨rfl, h1⟩))
  have hw1 : Ext w w1 := hwB.trans ((Ext.refl _).drew.trans h1)
  have hc := hS.out _ ((Ext.refl _).drew.trans h1)
  have hf : decide (m < a + 1) = true := by simp; omega
  go_wp2
  go_ret
  exact ⟨retI (by omega), hw1⟩

def waitsV (a m h : Int) : Int := if a < m then 3 * h else 0

theorem waits_any (a m h d : Int) (w : World) (ha : 0 ≤ a) (ha' : a ≤ 65535) (hm : 0 ≤ m) (hm' : m ≤ 65535) (hh : 0 ≤ h) (hh' : h ≤ 65535) :
    Calls Try.prog 21 #[.agg #[.int .i64 a, .int .i64 m, .int .i64 h, .int .i64 d]] w fun e w' => e = .returned (.int .i64 (waitsV a m h)) ∧ Ext w w' := by
  by_cases hlt : a < m
  · exact asi (waits_yes a m h d w ha ha' hm hm' hh hh' (by omega)) (by simp [waitsV, hlt])
  · exact asi (waits_no a m h d w ha ha' hm hm' hh hh' (by omega)) (by simp [waitsV, hlt])

theorem ref_waits (a m h d : Int) (w : World) (ha : 0 ≤ a) (ha' : a ≤ 65535) (hm : 0 ≤ m) (hm' : m ≤ 65535) (hh : 0 ≤ h) (hh' : h ≤ 65535) :
    Calls Try.prog 22 #[.agg #[.int .i64 a, .int .i64 m, .int .i64 h, .int .i64 d]] w fun e w' => e = .returned (.int .i64 (waitsV a m h)) ∧ Ext w w' := by
  by_cases hlt : a < m
  · refine asi (x := 3 * h) ?_ (by simp [waitsV, hlt])
    have hf : decide (a < m) = true := by simpa using hlt
    go_enter Try.func22, Try.ntmps22
    go_wp2
    go_ret
    exact ⟨retI (by omega), (Ext.refl w).alloc _⟩
  · refine asi (x := 0) ?_ (by simp [waitsV, hlt])
    have hf : decide (a < m) = false := by simpa using hlt
    go_enter Try.func22, Try.ntmps22
    go_wp2
    go_ret
    exact ⟨retI (by omega), (Ext.refl w).alloc _⟩

set_option maxHeartbeats 1600000 in
theorem ref_right (a m h d : Int) (w : World) :
    Calls Try.prog 19 #[.agg #[.int .i64 a, .int .i64 m, .int .i64 h, .int .i64 d]] w fun e w' => e = .returned (.bool (rightB a m h d)) ∧ Ext w w' := by
  by_cases h1 : a < 0 ∨ 255 < a ∨ m < 6 ∨ 40 < m ∨ h < 1 ∨ 10 < h ∨ d < 4 ∨ 30 < d
  · refine asb (x := false) ?_ (by unfold rightB; symm; rw [decide_eq_false_iff_not]; omega)
    rcases (show a < 0 ∨ (0 ≤ a ∧ 255 < a) ∨ (0 ≤ a ∧ a ≤ 255 ∧ m < 6) ∨ (0 ≤ a ∧ a ≤ 255 ∧ 6 ≤ m ∧ 40 < m) ∨ (0 ≤ a ∧ a ≤ 255 ∧ 6 ≤ m ∧ m ≤ 40 ∧ h < 1) ∨ (0 ≤ a ∧ a ≤ 255 ∧ 6 ≤ m ∧ m ≤ 40 ∧ 1 ≤ h ∧ 10 < h) ∨
      (0 ≤ a ∧ a ≤ 255 ∧ 6 ≤ m ∧ m ≤ 40 ∧ 1 ≤ h ∧ h ≤ 10 ∧ d < 4) ∨ (0 ≤ a ∧ a ≤ 255 ∧ 6 ≤ m ∧ m ≤ 40 ∧ 1 ≤ h ∧ h ≤ 10 ∧ 4 ≤ d ∧ 30 < d) by omega) with c | ⟨c1, c⟩ | ⟨c1, c2, c⟩ | ⟨c1, c2, c3, c⟩ | ⟨c1, c2, c3, c4, c⟩ | ⟨c1, c2, c3, c4, c5, c⟩ | ⟨c1, c2, c3, c4, c5, c6, c⟩ | ⟨c1, c2, c3, c4, c5, c6, c7, c⟩
    all_goals
      clear h1
      go_enter Try.func19, Try.ntmps19
      go_wp2
      go_ret
      exact ⟨rfl, (Ext.refl w).alloc _⟩
  · have c1 : 0 ≤ a := by omega
    have c2 : a ≤ 255 := by omega
    have c3 : 6 ≤ m := by omega
    have c4 : m ≤ 40 := by omega
    have c5 : 1 ≤ h := by omega
    have c6 : h ≤ 10 := by omega
    have c7 : 4 ≤ d := by omega
    have c8 : d ≤ 30 := by omega
    clear h1
    by_cases h2 : m ≤ 2 * (d - 1)
    · refine asb (x := decide (2 * (h + 1) ≤ m)) ?_ (by unfold rightB; rw [decide_eq_decide]; omega)
      go_enter Try.func19, Try.ntmps19
      go_wp2
      go_ret
      exact ⟨retB (by simp), (Ext.refl w).alloc _⟩
    · refine asb (x := false) ?_ (by unfold rightB; symm; rw [decide_eq_false_iff_not]; omega)
      go_enter Try.func19, Try.ntmps19
      go_wp2
      go_ret
      exact ⟨retB (by simp), (Ext.refl w).alloc _⟩

end Go.Proofs.Ytgiobcbdbhnneab
