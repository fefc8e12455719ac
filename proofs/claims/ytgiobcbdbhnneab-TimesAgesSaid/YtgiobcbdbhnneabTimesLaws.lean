/- The walks of the laws of package times. -/
import Derived.Test.YtgiobcbdbhnneabTimes
namespace Go.Proofs.Ytgiobcbdbhnneab
open Go.RowKit
set_option linter.unusedVariables false

def fewB (a m h d : Int) : Bool := decide (0 ≤ a ∧ a ≤ 65535 ∧ 0 ≤ m ∧ m ≤ 65535 ∧ 0 ≤ h ∧ h ≤ 65535 ∧ 0 ≤ d ∧ d ≤ 65535)

set_option maxHeartbeats 1600000 in
theorem ref_few (a m h d : Int) (w : World) :
    Calls Try.prog 20 #[.agg #[.int .i64 a, .int .i64 m, .int .i64 h, .int .i64 d]] w fun e w' => e = .returned (.bool (fewB a m h d)) ∧ Ext w w' := by
  by_cases h1 : a < 0 ∨ 65535 < a ∨ m < 0 ∨ 65535 < m ∨ h < 0 ∨ 65535 < h ∨ d < 0 ∨ 65535 < d
  · refine asb (x := false) ?_ (by unfold fewB; symm; rw [decide_eq_false_iff_not]; omega)
    rcases (show a < 0 ∨ (0 ≤ a ∧ 65535 < a) ∨ (0 ≤ a ∧ a ≤ 65535 ∧ m < 0) ∨ (0 ≤ a ∧ a ≤ 65535 ∧ 0 ≤ m ∧ 65535 < m) ∨ (0 ≤ a ∧ a ≤ 65535 ∧ 0 ≤ m ∧ m ≤ 65535 ∧ h < 0) ∨ (0 ≤ a ∧ a ≤ 65535 ∧ 0 ≤ m ∧ m ≤ 65535 ∧ 0 ≤ h ∧ 65535 < h) ∨
      (0 ≤ a ∧ a ≤ 65535 ∧ 0 ≤ m ∧ m ≤ 65535 ∧ 0 ≤ h ∧ h ≤ 65535 ∧ d < 0) ∨ (0 ≤ a ∧ a ≤ 65535 ∧ 0 ≤ m ∧ m ≤ 65535 ∧ 0 ≤ h ∧ h ≤ 65535 ∧ 0 ≤ d ∧ 65535 < d) by omega) with c | ⟨c1, c⟩ | ⟨c1, c2, c⟩ | ⟨c1, c2, c3, c⟩ | ⟨c1, c2, c3, c4, c⟩ | ⟨c1, c2, c3, c4, c5, c⟩ | ⟨c1, c2, c3, c4, c5, c6, c⟩ | ⟨c1, c2, c3, c4, c5, c6, c7, c⟩
    all_goals
      clear h1
      go_enter Try.func20, Try.ntmps20
      go_wp2
      go_ret
      exact ⟨retB (by first | rfl | (simp; done) | (simp; omega)), (Ext.refl w).alloc _⟩
  · have c1 : 0 ≤ a := by omega
    have c2 : a ≤ 65535 := by omega
    have c3 : 0 ≤ m := by omega
    have c4 : m ≤ 65535 := by omega
    have c5 : 0 ≤ h := by omega
    have c6 : h ≤ 65535 := by omega
    have c7 : 0 ≤ d := by omega
    have c8 : d ≤ 65535 := by omega
    clear h1
    refine asb (x := true) ?_ (by unfold fewB; symm; rw [decide_eq_true_eq]; omega)
    go_enter Try.func20, Try.ntmps20
    go_wp2
    go_ret
    exact ⟨rfl, (Ext.refl w).alloc _⟩

set_option maxHeartbeats 1600000 in
theorem awake4 (w : World) : Calls Try.prog 17 #[] w fun e w' => e = .returned (.bool true) ∧ Ext w w' := by
  have hS := fun w' => @box_held w 34 19 20 2 15 w'
  go_enter Try.func17, Try.ntmps17
  go_wp2_with fail
  refine (asi (to_any 20 _) (show _ = 5120 from rfl)).mono ?_
  rintro e w1 ⟨rfl, rfl⟩
  go_wp2_with fail
  refine (from_any 5247 _ (by decide) (by decide)).mono ?_
  rintro e w1 ⟨rfl, rfl⟩
  go_wp2_with fail
  refine (from_any 5248 _ (by decide) (by decide)).mono ?_
  rintro e w1 ⟨rfl, rfl⟩
  have HS := Lib.hid hS
  clear hS
  go_wp2_with fail
  refine (asi (waits_any 19 20 2 15 _ (by decide) (by decide) (by decide) (by decide) (by decide) (by decide)) (show _ = 6 from rfl)).mono ?_
  rintro e w1 ⟨rfl, h1⟩
  obtain ⟨_, k0, k1, k2, k3⟩ := HS.out _ h1
  go_wp2_with fail
  refine (older_any 19 20 2 15 _ (by decide) (by decide)).mono ?_
  rintro e w2 ⟨rfl, h2⟩
  go_wp2_with fail
  refine (asi (waits_any 20 20 2 15 _ (by decide) (by decide) (by decide) (by decide) (by decide) (by decide)) (show _ = 0 from rfl)).mono ?_
  rintro e w3 ⟨rfl, h3⟩
  have h13 := (h1.trans h2).trans h3
  clear k0 k1 k2 k3
  obtain ⟨_, k0, k1, k2, k3⟩ := HS.out _ h13
  go_wp2_with fail
  refine (asb (right_any 19 20 2 15 _) (show _ = true from by decide)).mono ?_
  rintro e w4 ⟨rfl, h4⟩
  go_wp2
  go_ret
  exact ⟨rfl, ((Ext.refl w).alloc _).trans (h13.trans h4)⟩

set_option maxHeartbeats 1600000 in
theorem law_TimesParts (s : Int) (hs : -9223372036854775808 ≤ s ∧ s ≤ 9223372036854775807) (x : Int) (hx : 0 ≤ x ∧ x < 65536) (w : World) :
    Calls Try.prog 7 #[.int .i64 s, .int .u16 x] w fun e w' => e = .returned (.bool true) ∧ Ext w w' := by
  obtain ⟨hx0, hx1⟩ := hx
  go_enter Try.func7, Try.ntmps7
  go_wp2_with fail
  refine (awake4 _).mono ?_
  rintro e w1 ⟨rfl, h1⟩
  go_wp2_with fail
  refine (to_any _ _).mono ?_
  rintro e w2 ⟨rfl, rfl⟩
  go_wp2_with fail
  refine (ref_to _ _).mono ?_
  rintro e w2 ⟨rfl, rfl⟩
  go_wp2_with fail
  refine (from_any _ _ hx0 hx1).mono ?_
  rintro e w2 ⟨rfl, rfl⟩
  go_wp2_with fail
  refine (ref_from _ _ hx0 hx1).mono ?_
  rintro e w2 ⟨rfl, rfl⟩
  go_wp2
  go_ret
  exact ⟨rfl, h1⟩

set_option maxHeartbeats 1600000 in
theorem law_TimesBack (s : Int) (hs : 0 ≤ s ∧ s < 256) (x : Int) (hx : 0 ≤ x ∧ x < 65536) (w : World) :
    Calls Try.prog 8 #[.int .u8 s, .int .u16 x] w fun e w' => e = .returned (.bool true) ∧ Ext w w' := by
  obtain ⟨hx0, hx1⟩ := hx
  obtain ⟨hs0, hs1⟩ := hs
  go_enter Try.func8, Try.ntmps8
  go_wp2_with fail
  refine (awake4 _).mono ?_
  rintro e w1 ⟨rfl, h1⟩
  go_wp2_with fail
  refine (from_any _ _ hx0 hx1).mono ?_
  rintro e w2 ⟨rfl, rfl⟩
  go_wp2_with fail
  refine (asi (to_any _ _) (show _ = s * 256 by unfold toV; rw [if_neg (by omega), if_neg (by omega)])).mono ?_
  rintro e w2 ⟨rfl, rfl⟩
  go_wp2_with fail
  refine (asi (from_any _ _ (by omega) (by omega)) (show _ = s by omega)).mono ?_
  rintro e w2 ⟨rfl, rfl⟩
  go_wp2
  go_ret
  exact ⟨retB (by simp; omega), h1⟩

theorem toV_le {a b : Int} (h : a ≤ b) : toV a ≤ toV b := by
  unfold toV
  repeat' split
  all_goals omega
theorem toV_bd (a : Int) : 0 ≤ toV a ∧ toV a ≤ 65280 := by
  unfold toV
  repeat' split
  all_goals omega
theorem toV_rest (a : Int) : (toV a).tmod 256 = 0 := by
  rw [Int.tmod_eq_emod_of_nonneg (toV_bd a).1]
  unfold toV
  repeat' split
  all_goals omega

set_option maxHeartbeats 3200000 in
theorem law_TimesRises (a : Int) (ha : -9223372036854775808 ≤ a ∧ a ≤ 9223372036854775807) (b : Int) (hb : -9223372036854775808 ≤ b ∧ b ≤ 9223372036854775807) (x : Int) (hx : 0 ≤ x ∧ x < 65536) (y : Int) (hy : 0 ≤ y ∧ y < 65536) (w : World) :
    Calls Try.prog 10 #[.int .i64 a, .int .i64 b, .int .u16 x, .int .u16 y] w fun e w' => e = .returned (.bool true) ∧ Ext w w' := by
  obtain ⟨hx0, hx1⟩ := hx
  obtain ⟨hy0, hy1⟩ := hy
  obtain ⟨hta, hta'⟩ := toV_bd a
  have htr : IntKind.u16.wrap ((toV a).tmod 256) = 0 := by rw [toV_rest]; rfl
  have htr' := toV_rest a
  have htm : toV a % 256 = 0 := by rw [← Int.tmod_eq_emod_of_nonneg hta]; exact htr'
  by_cases h1 : a ≤ b <;> by_cases h2 : x ≤ y
  · have f1 := toV_le h1
    have f2 : (x + 128) / 256 ≤ (y + 128) / 256 := by omega
    go_enter Try.func10, Try.ntmps10
    go_wp2_with fail
    refine (awake4 _).mono ?_
    rintro e w1 ⟨rfl, g1⟩
    go_wp2_with fail
    refine (to_any _ _).mono ?_
    rintro e w2 ⟨rfl, rfl⟩
    go_wp2_with fail
    refine (to_any _ _).mono ?_
    rintro e w2 ⟨rfl, rfl⟩
    go_wp2_with fail
    refine (from_any _ _ (by omega) (by omega)).mono ?_
    rintro e w2 ⟨rfl, rfl⟩
    go_wp2_with fail
    refine (from_any _ _ (by omega) (by omega)).mono ?_
    rintro e w2 ⟨rfl, rfl⟩
    go_wp2_with fail
    refine (to_any _ _).mono ?_
    rintro e w2 ⟨rfl, rfl⟩
    go_wp2
    go_ret
    exact ⟨retB (by simp), g1⟩
  · have f1 := toV_le h1
    go_enter Try.func10, Try.ntmps10
    go_wp2_with fail
    refine (awake4 _).mono ?_
    rintro e w1 ⟨rfl, g1⟩
    go_wp2_with fail
    refine (to_any _ _).mono ?_
    rintro e w2 ⟨rfl, rfl⟩
    go_wp2_with fail
    refine (to_any _ _).mono ?_
    rintro e w2 ⟨rfl, rfl⟩
    go_wp2_with fail
    refine (to_any _ _).mono ?_
    rintro e w2 ⟨rfl, rfl⟩
    go_wp2
    go_ret
    exact ⟨retB (by simp), g1⟩
  · have f2 : (x + 128) / 256 ≤ (y + 128) / 256 := by omega
    go_enter Try.func10, Try.ntmps10
    go_wp2_with fail
    refine (awake4 _).mono ?_
    rintro e w1 ⟨rfl, g1⟩
    go_wp2_with fail
    refine (from_any _ _ (by omega) (by omega)).mono ?_
    rintro e w2 ⟨rfl, rfl⟩
    go_wp2_with fail
    refine (from_any _ _ (by omega) (by omega)).mono ?_
    rintro e w2 ⟨rfl, rfl⟩
    go_wp2_with fail
    refine (to_any _ _).mono ?_
    rintro e w2 ⟨rfl, rfl⟩
    go_wp2
    go_ret
    exact ⟨retB (by simp), g1⟩
  · go_enter Try.func10, Try.ntmps10
    go_wp2_with fail
    refine (awake4 _).mono ?_
    rintro e w1 ⟨rfl, g1⟩
    go_wp2_with fail
    refine (to_any _ _).mono ?_
    rintro e w2 ⟨rfl, rfl⟩
    go_wp2
    go_ret
    exact ⟨retB (by simp), g1⟩

set_option maxHeartbeats 3200000 in
theorem law_TimesTells (a : Int) (ha : -9223372036854775808 ≤ a ∧ a ≤ 9223372036854775807) (m : Int) (hm : -9223372036854775808 ≤ m ∧ m ≤ 9223372036854775807) (h : Int) (hh : -9223372036854775808 ≤ h ∧ h ≤ 9223372036854775807)
    (d : Int) (hd : -9223372036854775808 ≤ d ∧ d ≤ 9223372036854775807) (w : World) :
    Calls Try.prog 6 #[.agg #[.int .i64 a, .int .i64 m, .int .i64 h, .int .i64 d]] w fun e w' => e = .returned (.bool true) ∧ Ext w w' := by
  clear ha hm hh hd
  have hS := Lib.hid (fun w' => @box_held w 34 a m h d w')
  go_enter Try.func6, Try.ntmps6
  go_wp2_with fail
  generalize hB : w.alloc (Obj.cells #[Value.int IntKind.i64 a, Value.int IntKind.i64 m, Value.int IntKind.i64 h, Value.int IntKind.i64 d] 34) = B at hS ⊢
  have hwB : Ext w B := by rw [← hB]; exact (Ext.refl w).alloc _
  clear hB
  refine (awake4 _).mono ?_
  rintro e w1 ⟨rfl, h1⟩
  go_wp2
  go_region_held3 (fun w' => Ext B w' ∧ w'.cell? ⟨w.heap.size, 0, none⟩ = some (.int .i64 a) ∧ w'.cell? ⟨w.heap.size, 1, none⟩ = some (.int .i64 m) ∧ w'.cell? ⟨w.heap.size, 2, none⟩ = some (.int .i64 h) ∧ w'.cell? ⟨w.heap.size, 3, none⟩ = some (.int .i64 d))
    ((first | exact hS.out _ (by assumption) | exact hS.out _ (Ext.refl _) | exact hS.out _ (Ext.drew (by assumption)) | exact hS.out _ (Ext.drew (Ext.refl _)) | exact hS.out _ (Ext.drew (And.left (by assumption))) | exact hS.out _ (Ext.trans (And.left (by assumption)) (by assumption))))
    (first | (go_at_call 18; refine (right_any _ _ _ _ _).mono ?_; rintro e w2 ⟨rfl, h2⟩) | (go_at_call 19; refine (ref_right _ _ _ _ _).mono ?_; rintro e w3 ⟨rfl, h3⟩))
  have hA : Ext B w3 := And.left (by assumption)
  obtain ⟨_, k0, k1, k2, k3⟩ := hS.out _ hA
  clear h1 h2 h3
  cases hf : fewB a m h d
  · have Hf := Lib.hid hf
    clear hf
    go_wp2_with fail
    refine (asb (ref_few _ _ _ _ _) Hf.out).mono ?_
    rintro e w4 ⟨rfl, h4⟩
    go_wp2
    go_ret
    exact ⟨rfl, (hwB.trans hA).trans h4⟩
  · have Hf := Lib.hid hf
    obtain ⟨c1, c2, c3, c4, c5, c6, c7, c8⟩ := of_decide_eq_true hf
    clear hf
    go_wp2_with fail
    refine (asb (ref_few _ _ _ _ _) Hf.out).mono ?_
    rintro e w4 ⟨rfl, h4⟩
    have hA4 := hA.trans h4
    clear k0 k1 k2 k3
    obtain ⟨_, k0, k1, k2, k3⟩ := hS.out _ hA4
    have hT := Lib.hid (fun w' (hx : Ext (w4.alloc (.cells #[.int .i64 (a + 1), .int .i64 m, .int .i64 h, .int .i64 d] 34)) w') => And.intro (hS.out _ (hA4.trans (((Ext.refl w4).alloc _).trans hx))) (box_held (a + 1) m h d hx))
    go_wp2
    clear k0 k1 k2 k3
    generalize hC : w4.alloc (Obj.cells #[Value.int IntKind.i64 (a + 1), Value.int IntKind.i64 m, Value.int IntKind.i64 h, Value.int IntKind.i64 d] 34) = C at hT ⊢
    have hwC : Ext w C := by rw [← hC]; exact (hwB.trans hA4).alloc _
    clear hC
    have he := eq_times
    have hg := guard_times
    go_region_held3 (fun w' => (Ext B w' ∧ w'.cell? ⟨w.heap.size, 0, none⟩ = some (.int .i64 a) ∧ w'.cell? ⟨w.heap.size, 1, none⟩ = some (.int .i64 m) ∧ w'.cell? ⟨w.heap.size, 2, none⟩ = some (.int .i64 h) ∧ w'.cell? ⟨w.heap.size, 3, none⟩ = some (.int .i64 d)) ∧
        Ext C w' ∧ w'.cell? ⟨w4.heap.size, 0, none⟩ = some (.int .i64 (a + 1)) ∧ w'.cell? ⟨w4.heap.size, 1, none⟩ = some (.int .i64 m) ∧ w'.cell? ⟨w4.heap.size, 2, none⟩ = some (.int .i64 h) ∧ w'.cell? ⟨w4.heap.size, 3, none⟩ = some (.int .i64 d))
      ((first | exact hT.out _ (by assumption) | exact hT.out _ (Ext.refl _) | exact hT.out _ (Ext.drew (by assumption)) | exact hT.out _ (Ext.drew (Ext.refl _)) | exact hT.out _ (Ext.drew (And.left (And.right (by assumption)))) | exact hT.out _ (Ext.trans (And.left (And.right (by assumption))) (by assumption))))
      (first | (go_at_call 21; refine (waits_any _ _ _ _ _ (by omega) (by omega) (by omega) (by omega) (by omega) (by omega)).mono ?_; rintro e w5 ⟨rfl, h5⟩) | (go_at_call 22; refine (ref_waits _ _ _ _ _ (by omega) (by omega) (by omega) (by omega) (by omega) (by omega)).mono ?_; rintro e w6 ⟨rfl, h6⟩) | (go_at_call 23; refine (older_any _ _ _ _ _ (by omega) (by omega)).mono ?_; rintro e w7 ⟨rfl, h7⟩))
    have hE : Ext C w7 := And.left (And.right (by assumption))
    go_wp2
    go_ret
    exact ⟨rfl, hwC.trans hE⟩

end Go.Proofs.Ytgiobcbdbhnneab
