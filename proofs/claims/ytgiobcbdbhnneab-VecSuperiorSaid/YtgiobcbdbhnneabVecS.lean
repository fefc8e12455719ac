/- The walk of the law VecSmall, and of the chapter's example. -/
import Derived.Test.YtgiobcbdbhnneabVecB
import Derived.Deep.RegionHeld3
namespace Go.Proofs.Ytgiobcbdbhnneab
open Go.RowKit
set_option linter.unusedVariables false

set_option maxHeartbeats 3200000 in
theorem awake3 (w : World) : Calls Try.prog 11 #[] w fun e w' => e = .returned (.bool true) ∧ Ext w w' := by
  have hS := Lib.hid (fun w' (hx : Ext (((w.alloc (.cells #[.int .u64 1, .int .u32 5, .int .u64 0, .int .u16 0, .int .u16 0] 26)).alloc (.cells #[.int .u64 1, .int .u32 6, .int .u64 0, .int .u16 0, .int .u16 0] 26)).alloc
      (.cells #[.int .u64 0, .int .u32 9, .int .u64 0, .int .u16 0, .int .u16 0] 26)) w') =>
    show (w'.cell? ⟨w.heap.size, 0, none⟩ = some (.int .u64 1) ∧ w'.cell? ⟨w.heap.size, 1, none⟩ = some (.int .u32 5) ∧ w'.cell? ⟨w.heap.size, 2, none⟩ = some (.int .u64 0) ∧ w'.cell? ⟨w.heap.size, 3, none⟩ = some (.int .u16 0) ∧ w'.cell? ⟨w.heap.size, 4, none⟩ = some (.int .u16 0)) ∧ (w'.cell? ⟨w.heap.size + 1, 0, none⟩ = some (.int .u64 1) ∧ w'.cell? ⟨w.heap.size + 1, 1, none⟩ = some (.int .u32 6) ∧ w'.cell? ⟨w.heap.size + 1, 2, none⟩ = some (.int .u64 0) ∧ w'.cell? ⟨w.heap.size + 1, 3, none⟩ = some (.int .u16 0) ∧ w'.cell? ⟨w.heap.size + 1, 4, none⟩ = some (.int .u16 0)) ∧ (w'.cell? ⟨w.heap.size + 1 + 1, 0, none⟩ = some (.int .u64 0) ∧ w'.cell? ⟨w.heap.size + 1 + 1, 1, none⟩ = some (.int .u32 9) ∧ w'.cell? ⟨w.heap.size + 1 + 1, 2, none⟩ = some (.int .u64 0) ∧ w'.cell? ⟨w.heap.size + 1 + 1, 3, none⟩ = some (.int .u16 0) ∧ w'.cell? ⟨w.heap.size + 1 + 1, 4, none⟩ = some (.int .u16 0)) from by
      have o : ∀ j, w'.cell? ⟨w.heap.size, j, none⟩ = #[.int .u64 1, .int .u32 5, .int .u64 0, .int .u16 0, .int .u16 0][j]? := fun j => (hx.cell (by simp; omega)).trans ((World.cell?_alloc_past _ _ _ (by simp; omega)).trans ((World.cell?_alloc_past _ _ _ (by simp)).trans (World.cell?_alloc_at _ _ _ _ rfl)))
      have n : ∀ j, w'.cell? ⟨w.heap.size + 1, j, none⟩ = #[.int .u64 1, .int .u32 6, .int .u64 0, .int .u16 0, .int .u16 0][j]? := fun j => (hx.cell (by simp)).trans ((World.cell?_alloc_past _ _ _ (by simp)).trans (World.cell?_alloc_at _ _ _ _ (by simp)))
      have m : ∀ j, w'.cell? ⟨w.heap.size + 1 + 1, j, none⟩ = #[.int .u64 0, .int .u32 9, .int .u64 0, .int .u16 0, .int .u16 0][j]? := fun j => (hx.cell (by simp)).trans (World.cell?_alloc_at _ _ _ _ (by simp))
      exact ⟨⟨o 0, o 1, o 2, o 3, o 4⟩, ⟨n 0, n 1, n 2, n 3, n 4⟩, m 0, m 1, m 2, m 3, m 4⟩)
  have he := eq_vec
  have hg := guard_vec
  go_enter Try.func11, Try.ntmps11
  go_wp2_with fail
  refine (asb (vbetter_any _ _ _ _ _ _ _ _ _ _ _) (show _ = true from by decide)).mono ?_
  rintro e w1 ⟨rfl, h1⟩
  have K := hS.out _ h1
  go_wp2_with fail
  refine (asb (vbetter_any _ _ _ _ _ _ _ _ _ _ _) (show _ = true from by decide)).mono ?_
  rintro e w2 ⟨rfl, h2⟩
  have h12 := h1.trans h2
  clear K
  have K := hS.out _ h12
  go_wp2_with fail
  refine (asb (vbetter_any _ _ _ _ _ _ _ _ _ _ _) (show _ = false from by decide)).mono ?_
  rintro e w3 ⟨rfl, h3⟩
  have h13 := h12.trans h3
  clear K
  have K := hS.out _ h13
  go_wp2_with fail
  refine (asb (vsame_any _ _ _ _ _ _ _ _ _ _ _) (show _ = true from by decide)).mono ?_
  rintro e w4 ⟨rfl, h4⟩
  go_wp2_with fail
  refine (vown_any _ _).mono ?_
  rintro e w5 ⟨rfl, h5⟩
  go_wp2
  go_ret
  exact ⟨rfl, ((((Ext.refl w).alloc _).alloc _).alloc _).trans (h13.trans (h4.trans h5))⟩

theorem b_false {a b : Bool} (h : a = true → False) : a = false := by cases a <;> simp_all


set_option maxHeartbeats 3200000 in
theorem law_VecSmall (r : Int) (hr : 0 ≤ r ∧ r < 18446744073709551616) (c : Int) (hc : 0 ≤ c ∧ c < 4294967296) (b : Int) (hb : 0 ≤ b ∧ b < 18446744073709551616) (p : Int) (hp : 0 ≤ p ∧ p < 65536) (x : Int) (hx : 0 ≤ x ∧ x < 65536) (r' : Int) (hr' : 0 ≤ r' ∧ r' < 18446744073709551616) (c' : Int) (hc' : 0 ≤ c' ∧ c' < 4294967296) (b' : Int) (hb' : 0 ≤ b' ∧ b' < 18446744073709551616) (p' : Int) (hp' : 0 ≤ p' ∧ p' < 65536) (x' : Int) (hx' : 0 ≤ x' ∧ x' < 65536) (w : World) :
    Calls Try.prog 5 #[.agg #[.int .u64 r, .int .u32 c, .int .u64 b, .int .u16 p, .int .u16 x], .agg #[.int .u64 r', .int .u32 c', .int .u64 b', .int .u16 p', .int .u16 x']] w fun e w' => e = .returned (.bool true) ∧ Ext w w' := by
  clear hr hc hb hp hx hr' hc' hb' hp' hx'
  have hS := Lib.hid (fun w' (hx : Ext ((w.alloc (.cells #[.int .u64 r, .int .u32 c, .int .u64 b, .int .u16 p, .int .u16 x] 26)).alloc (.cells #[.int .u64 r', .int .u32 c', .int .u64 b', .int .u16 p', .int .u16 x'] 26)) w') => And.intro hx (two_held r c b p x r' c' b' p' x' hx))
  have g5 := c5_rg r c b p x r' c' b' p' x'
  have g4 := c4_rg r c b p r' c' b' p'
  by_cases h1 : r = r'
  · subst h1
    by_cases h2 : c = c'
    · subst h2
      by_cases h3 : b = b'
      · subst h3
        clear g5 g4
        go_enter Try.func5, Try.ntmps5
        go_wp2_with fail
        generalize hB : (w.alloc (Obj.cells #[Value.int IntKind.u64 r, Value.int IntKind.u32 c, Value.int IntKind.u64 b, Value.int IntKind.u16 p, Value.int IntKind.u16 x] 26)).alloc (Obj.cells #[Value.int IntKind.u64 r, Value.int IntKind.u32 c, Value.int IntKind.u64 b, Value.int IntKind.u16 p', Value.int IntKind.u16 x'] 26) = B at hS ⊢
        have hwB : Ext w B := by rw [← hB]; exact ((Ext.refl w).alloc _).alloc _
        clear hB
        refine (awake3 _).mono ?_
        rintro e w1 ⟨rfl, h1⟩
        have K := hS.out _ h1
        go_wp2
        go_quiet (fail)
        go_wp2
        go_ret
        exact ⟨rfl, hwB.trans (h1.drewN _)⟩
      · have fb : Hid (decide (c5 r c b p x r c b' p' x' < 0) = decide (b < b')) := Lib.hid (by rw [decide_eq_decide]; omega)
        have hne : (b == b') = false := by simpa using h3
        clear g5 g4
        go_enter Try.func5, Try.ntmps5
        go_wp2_with fail
        generalize hB : (w.alloc (Obj.cells #[Value.int IntKind.u64 r, Value.int IntKind.u32 c, Value.int IntKind.u64 b, Value.int IntKind.u16 p, Value.int IntKind.u16 x] 26)).alloc (Obj.cells #[Value.int IntKind.u64 r, Value.int IntKind.u32 c, Value.int IntKind.u64 b', Value.int IntKind.u16 p', Value.int IntKind.u16 x'] 26) = B at hS ⊢
        have hwB : Ext w B := by rw [← hB]; exact ((Ext.refl w).alloc _).alloc _
        clear hB
        refine (awake3 _).mono ?_
        rintro e w1 ⟨rfl, h1⟩
        have K := hS.out _ h1
        go_wp2
        go_region_held3 (fun w' => Ext B w' ∧ (w'.cell? ⟨w.heap.size, 0, none⟩ = some (.int .u64 r) ∧ w'.cell? ⟨w.heap.size, 1, none⟩ = some (.int .u32 c) ∧ w'.cell? ⟨w.heap.size, 2, none⟩ = some (.int .u64 b) ∧ w'.cell? ⟨w.heap.size, 3, none⟩ = some (.int .u16 p) ∧ w'.cell? ⟨w.heap.size, 4, none⟩ = some (.int .u16 x)) ∧ (w'.cell? ⟨w.heap.size + 1, 0, none⟩ = some (.int .u64 r) ∧ w'.cell? ⟨w.heap.size + 1, 1, none⟩ = some (.int .u32 c) ∧ w'.cell? ⟨w.heap.size + 1, 2, none⟩ = some (.int .u64 b') ∧ w'.cell? ⟨w.heap.size + 1, 3, none⟩ = some (.int .u16 p') ∧ w'.cell? ⟨w.heap.size + 1, 4, none⟩ = some (.int .u16 x')))
          ((first | exact hS.out _ (by assumption) | exact hS.out _ (Ext.refl _) | exact hS.out _ (Ext.drew (by assumption)) | exact hS.out _ (Ext.drew (Ext.refl _)) | exact hS.out _ (Ext.drew (And.left (by assumption))) | exact hS.out _ (Ext.trans (And.left (by assumption)) (by assumption))))
          (first | (go_at_call 16; refine (asb (vbetter_any _ _ _ _ _ _ _ _ _ _ _) fb.out).mono ?_; rintro e w2 ⟨rfl, h2⟩))
        have hE : Ext B w2 := And.left (by assumption)
        go_wp2
        go_ret
        exact ⟨retB (by simp), hwB.trans hE⟩
    · have fb : Hid (decide (c5 r c b p x r c' b' p' x' < 0) = decide (c < c')) := Lib.hid (by rw [decide_eq_decide]; omega)
      have fs : Hid ((c4 r c b p r c' b' p' == 0) = false) := Lib.hid (by simp; omega)
      have hne : (c != c') = true := by simpa using h2
      clear g5 g4
      go_enter Try.func5, Try.ntmps5
      go_wp2_with fail
      generalize hB : (w.alloc (Obj.cells #[Value.int IntKind.u64 r, Value.int IntKind.u32 c, Value.int IntKind.u64 b, Value.int IntKind.u16 p, Value.int IntKind.u16 x] 26)).alloc (Obj.cells #[Value.int IntKind.u64 r, Value.int IntKind.u32 c', Value.int IntKind.u64 b', Value.int IntKind.u16 p', Value.int IntKind.u16 x'] 26) = B at hS ⊢
      have hwB : Ext w B := by rw [← hB]; exact ((Ext.refl w).alloc _).alloc _
      clear hB
      refine (awake3 _).mono ?_
      rintro e w1 ⟨rfl, h1⟩
      have K := hS.out _ h1
      go_wp2
      go_region_held3 (fun w' => Ext B w' ∧ (w'.cell? ⟨w.heap.size, 0, none⟩ = some (.int .u64 r) ∧ w'.cell? ⟨w.heap.size, 1, none⟩ = some (.int .u32 c) ∧ w'.cell? ⟨w.heap.size, 2, none⟩ = some (.int .u64 b) ∧ w'.cell? ⟨w.heap.size, 3, none⟩ = some (.int .u16 p) ∧ w'.cell? ⟨w.heap.size, 4, none⟩ = some (.int .u16 x)) ∧ (w'.cell? ⟨w.heap.size + 1, 0, none⟩ = some (.int .u64 r) ∧ w'.cell? ⟨w.heap.size + 1, 1, none⟩ = some (.int .u32 c') ∧ w'.cell? ⟨w.heap.size + 1, 2, none⟩ = some (.int .u64 b') ∧ w'.cell? ⟨w.heap.size + 1, 3, none⟩ = some (.int .u16 p') ∧ w'.cell? ⟨w.heap.size + 1, 4, none⟩ = some (.int .u16 x')))
        ((first | exact hS.out _ (by assumption) | exact hS.out _ (Ext.refl _) | exact hS.out _ (Ext.drew (by assumption)) | exact hS.out _ (Ext.drew (Ext.refl _)) | exact hS.out _ (Ext.drew (And.left (by assumption))) | exact hS.out _ (Ext.trans (And.left (by assumption)) (by assumption))))
        (first | (go_at_call 16; refine (asb (vbetter_any _ _ _ _ _ _ _ _ _ _ _) fb.out).mono ?_; rintro e w2 ⟨rfl, h2⟩) | (go_at_call 15; refine (asb (vsame_any _ _ _ _ _ _ _ _ _ _ _) fs.out).mono ?_; rintro e w3 ⟨rfl, h3⟩))
      have hE : Ext B w3 := And.left (by assumption)
      go_wp2
      go_ret
      exact ⟨retB (by simp), hwB.trans hE⟩
  · have fb : Hid (decide (c5 r c b p x r' c' b' p' x' < 0) = decide (r < r')) := Lib.hid (by rw [decide_eq_decide]; omega)
    have fs : Hid ((c4 r c b p r' c' b' p' == 0) = false) := Lib.hid (by simp; omega)
    have hne : (r != r') = true := by simpa using h1
    clear g5 g4
    go_enter Try.func5, Try.ntmps5
    go_wp2_with fail
    generalize hB : (w.alloc (Obj.cells #[Value.int IntKind.u64 r, Value.int IntKind.u32 c, Value.int IntKind.u64 b, Value.int IntKind.u16 p, Value.int IntKind.u16 x] 26)).alloc (Obj.cells #[Value.int IntKind.u64 r', Value.int IntKind.u32 c', Value.int IntKind.u64 b', Value.int IntKind.u16 p', Value.int IntKind.u16 x'] 26) = B at hS ⊢
    have hwB : Ext w B := by rw [← hB]; exact ((Ext.refl w).alloc _).alloc _
    clear hB
    refine (awake3 _).mono ?_
    rintro e w1 ⟨rfl, h1⟩
    have K := hS.out _ h1
    go_wp2
    go_region_held3 (fun w' => Ext B w' ∧ (w'.cell? ⟨w.heap.size, 0, none⟩ = some (.int .u64 r) ∧ w'.cell? ⟨w.heap.size, 1, none⟩ = some (.int .u32 c) ∧ w'.cell? ⟨w.heap.size, 2, none⟩ = some (.int .u64 b) ∧ w'.cell? ⟨w.heap.size, 3, none⟩ = some (.int .u16 p) ∧ w'.cell? ⟨w.heap.size, 4, none⟩ = some (.int .u16 x)) ∧ (w'.cell? ⟨w.heap.size + 1, 0, none⟩ = some (.int .u64 r') ∧ w'.cell? ⟨w.heap.size + 1, 1, none⟩ = some (.int .u32 c') ∧ w'.cell? ⟨w.heap.size + 1, 2, none⟩ = some (.int .u64 b') ∧ w'.cell? ⟨w.heap.size + 1, 3, none⟩ = some (.int .u16 p') ∧ w'.cell? ⟨w.heap.size + 1, 4, none⟩ = some (.int .u16 x')))
      ((first | exact hS.out _ (by assumption) | exact hS.out _ (Ext.refl _) | exact hS.out _ (Ext.drew (by assumption)) | exact hS.out _ (Ext.drew (Ext.refl _)) | exact hS.out _ (Ext.drew (And.left (by assumption))) | exact hS.out _ (Ext.trans (And.left (by assumption)) (by assumption))))
      (first | (go_at_call 16; refine (asb (vbetter_any _ _ _ _ _ _ _ _ _ _ _) fb.out).mono ?_; rintro e w2 ⟨rfl, h2⟩) | (go_at_call 15; refine (asb (vsame_any _ _ _ _ _ _ _ _ _ _ _) fs.out).mono ?_; rintro e w3 ⟨rfl, h3⟩))
    have hE : Ext B w3 := And.left (by assumption)
    go_wp2
    go_ret
    exact ⟨retB (by simp), hwB.trans hE⟩

end Go.Proofs.Ytgiobcbdbhnneab
