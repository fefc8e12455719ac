/- The walk of the chapter's example. -/
import Derived.Test.YtgiobcbdbhnneaaVecB
import Derived.Deep.RegionHeld3
namespace Go.Proofs.Ytgiobcbdbhnneaa
open Go.RowKit
set_option linter.unusedVariables false

set_option maxHeartbeats 3200000 in
theorem awake3 (w : World) : Calls Try.prog 37 #[] w fun e w' => e = .returned (.bool true) ∧ Ext w w' := by
  have hS := Lib.hid (fun w' (hx : Ext (((w.alloc (.cells #[.int .u64 1, .int .u32 5, .int .u64 0, .int .u16 0, .int .u16 0] 56)).alloc (.cells #[.int .u64 1, .int .u32 6, .int .u64 0, .int .u16 0, .int .u16 0] 56)).alloc
      (.cells #[.int .u64 0, .int .u32 9, .int .u64 0, .int .u16 0, .int .u16 0] 56)) w') =>
    show (w'.cell? ⟨w.heap.size, 0, none⟩ = some (.int .u64 1) ∧ w'.cell? ⟨w.heap.size, 1, none⟩ = some (.int .u32 5) ∧ w'.cell? ⟨w.heap.size, 2, none⟩ = some (.int .u64 0) ∧ w'.cell? ⟨w.heap.size, 3, none⟩ = some (.int .u16 0) ∧ w'.cell? ⟨w.heap.size, 4, none⟩ = some (.int .u16 0)) ∧ (w'.cell? ⟨w.heap.size + 1, 0, none⟩ = some (.int .u64 1) ∧ w'.cell? ⟨w.heap.size + 1, 1, none⟩ = some (.int .u32 6) ∧ w'.cell? ⟨w.heap.size + 1, 2, none⟩ = some (.int .u64 0) ∧ w'.cell? ⟨w.heap.size + 1, 3, none⟩ = some (.int .u16 0) ∧ w'.cell? ⟨w.heap.size + 1, 4, none⟩ = some (.int .u16 0)) ∧ (w'.cell? ⟨w.heap.size + 1 + 1, 0, none⟩ = some (.int .u64 0) ∧ w'.cell? ⟨w.heap.size + 1 + 1, 1, none⟩ = some (.int .u32 9) ∧ w'.cell? ⟨w.heap.size + 1 + 1, 2, none⟩ = some (.int .u64 0) ∧ w'.cell? ⟨w.heap.size + 1 + 1, 3, none⟩ = some (.int .u16 0) ∧ w'.cell? ⟨w.heap.size + 1 + 1, 4, none⟩ = some (.int .u16 0)) from by
      have o : ∀ j, w'.cell? ⟨w.heap.size, j, none⟩ = #[.int .u64 1, .int .u32 5, .int .u64 0, .int .u16 0, .int .u16 0][j]? := fun j => (hx.cell (by simp; omega)).trans ((World.cell?_alloc_past _ _ _ (by simp; omega)).trans ((World.cell?_alloc_past _ _ _ (by simp)).trans (World.cell?_alloc_at _ _ _ _ rfl)))
      have n : ∀ j, w'.cell? ⟨w.heap.size + 1, j, none⟩ = #[.int .u64 1, .int .u32 6, .int .u64 0, .int .u16 0, .int .u16 0][j]? := fun j => (hx.cell (by simp)).trans ((World.cell?_alloc_past _ _ _ (by simp)).trans (World.cell?_alloc_at _ _ _ _ (by simp)))
      have m : ∀ j, w'.cell? ⟨w.heap.size + 1 + 1, j, none⟩ = #[.int .u64 0, .int .u32 9, .int .u64 0, .int .u16 0, .int .u16 0][j]? := fun j => (hx.cell (by simp)).trans (World.cell?_alloc_at _ _ _ _ (by simp))
      exact ⟨⟨o 0, o 1, o 2, o 3, o 4⟩, ⟨n 0, n 1, n 2, n 3, n 4⟩, m 0, m 1, m 2, m 3, m 4⟩)
  have he := eq_vec
  have hg := guard_vec
  go_enter Try.func37, Try.ntmps37
  go_wp2_with fail
  refine (asb (vbetter_any _ _ _ _ _ _ _ _ _ _ _) (show _ = true from by decide)).mono ?_
  rintro e w1 ⟨rfl, h1⟩
  have K := hS.out _ h1
  go_wp2_with fail
  refine (asb (vbetter_any _ _ _ _ _ _ _ _ _ _ _) (show _ = true from by decide)).mono ?_
  rintro e w2 ⟨rfl, h2⟩
  have h12 := h1.trans h2
  clear K
  have K := hS.out _ h12
  go_wp2_with fail
  refine (asb (vbetter_any _ _ _ _ _ _ _ _ _ _ _) (show _ = false from by decide)).mono ?_
  rintro e w3 ⟨rfl, h3⟩
  have h13 := h12.trans h3
  clear K
  have K := hS.out _ h13
  go_wp2_with fail
  refine (asb (vsame_any _ _ _ _ _ _ _ _ _ _ _) (show _ = true from by decide)).mono ?_
  rintro e w4 ⟨rfl, h4⟩
  go_wp2_with fail
  refine (vown_any _ _).mono ?_
  rintro e w5 ⟨rfl, h5⟩
  go_wp2
  go_ret
  exact ⟨rfl, ((((Ext.refl w).alloc _).alloc _).alloc _).trans (h13.trans (h4.trans h5))⟩

theorem b_false {a : Bool} (h : a = true → False) : a = false := by cases a <;> simp_all


end Go.Proofs.Ytgiobcbdbhnneaa
