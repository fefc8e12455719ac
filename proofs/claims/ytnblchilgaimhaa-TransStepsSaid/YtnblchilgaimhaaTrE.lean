/- Role transitions: further actions of the rows. No statement is proved here. -/
import Derived.Test.YtnblchilgaimhaaTrD
namespace Go.Proofs.Ytnblchilgaimhaa
open Go.RowKit Go.BigFrame Go.WideShapes Go.ChangeShapes Go.Deep
set_option linter.unusedVariables false
set_option linter.unusedSimpArgs false

theorem tr_rerooted (w : World) (F : Nat → Prop) (X g k : Nat) (B : Br) (h : BrG w F X g B) (ho : B.ok) (hk : k < B.np) : Calls Try.prog 76 #[placeV g k X] w fun e w' => e = .returned (.tuple #[]) ∧ BrG w' F X g (B.setp k 42 (.bool false)) ∧ Mut F w w' := by
  obtain ⟨hX, hg, hne⟩ := h.lt
  have H := Lib.hid h
  have e42 := (h.cellg (i := k * 89 + 42) (lt89 hk (by decide))).trans (ho.gb hk 42 rfl)
  have efr := h.frozen
  have hs : w.heap.size ≠ g := by omega
  clear h
  unfold placeV
  go_enter Try.func76, Try.ntmps76
  go_wp2_with fail
  go_end0
  exact ⟨rfl, (H.out.setp (k := k) (j := 42) hk (by decide) (.bool false)).alloc _, ((Mut.refl F w).setCell (p := ⟨g, k * 89 + 42, none⟩) (.inl H.out.F2) (.bool false)).alloc _⟩
theorem tr_rememberRoot (w : World) (F : Nat → Prop) (X g k : Nat) (B : Br) (h : BrG w F X g B) (ho : B.ok) (hk : k < B.np) : Calls Try.prog 78 #[placeV g k X] w fun e w' => e = .returned (.tuple #[]) ∧ BrG w' F X g (B.setp k 12 (.int .i64 (B.hi 5))) ∧ Mut F w w' := by
  obtain ⟨hX, hg, hne⟩ := h.lt
  have H := Lib.hid h
  clear h
  unfold placeV
  go_enter Try.func78, Try.ntmps78
  go_wp2_with fail
  refine wp_region_tail 11 (by kernel_rfl) (by kernel_rfl) ?_
  intro y hy
  have hyx : Ext (w.alloc (.cells #[.pointer (some ⟨g, k * 89, none⟩), .pointer (some ⟨X, 0, none⟩), .int .i64 k] 68)) y := by
    rw [hy]
    exact (Ext.refl _).drew
  clear hy
  have HY := Lib.hid (H.out.ext (((Ext.refl w).alloc _).trans hyx))
  have HM := Lib.hid ((((Ext.refl w).alloc _).trans hyx).mut F)
  have e0 : y.cell? ⟨w.heap.size, 0, none⟩ = some (.pointer (some ⟨g, k * 89, none⟩)) := (cell_of_row _ _ _ _ _ _ ((hyx.block _ (by simp)).trans (heap_alloc_new w _))).trans rfl
  have e1 : y.cell? ⟨w.heap.size, 1, none⟩ = some (.pointer (some ⟨X, 0, none⟩)) := (cell_of_row _ _ _ _ _ _ ((hyx.block _ (by simp)).trans (heap_alloc_new w _))).trans rfl
  have e112 := (HY.out.cellg (i := k * 89 + 12) (lt89 hk (by decide))).trans (ho.gi hk 12 rfl)
  have eh5 := (HY.out.cellX ho (i := 5) (by decide)).trans (ho.hi 5 rfl)
  have efr := HY.out.frozen
  clear hyx
  simp only [List.take_succ_cons, List.take_zero, List.drop_succ_cons, List.drop_zero]
  repeat still_step
  refine wpStill_nil ?_
  go_wp2_with fail
  go_end0
  exact ⟨rfl, (HY.out.setp (k := k) (j := 12) hk (by decide) _), (HM.out.setCell (.inl HY.out.F2) _)⟩
theorem tr_takeRoot (w : World) (F : Nat → Prop) (X g k : Nat) (B : Br) (h : BrG w F X g B) (ho : B.ok) (hk : k < B.np) (hF : ∀ n, F n → n < w.heap.size) (hselB : (Lit.int .i64 (B.gi k 88)).wf = true) : Calls Try.prog 53 #[placeV g k X] w fun e w' => e = .returned (.tuple #[]) ∧ BrG w' F X g ((B.setp k 87 (.int .i64 (B.gi k 88))).setp k 12 (.int .i64 (B.hi 5))) ∧ Mut F w w' := by
  obtain ⟨hX, hg, hne⟩ := h.lt
  have H := Lib.hid h
  have hnb : ¬ F w.heap.size := fun hh => by have := hF _ hh; omega
  have HB := Lib.hid hselB
  clear h hF
  unfold placeV
  go_enter Try.func53, Try.ntmps53
  go_wp2_with fail
  refine (tr_take _ F X g k _ (H.out.alloc _) ho hk).mono ?_
  rintro e w1 ⟨rfl, hb, hm⟩
  have HP := Lib.hid ((hm.heap (by simp) hnb).trans (heap_alloc_new w _))
  have HM := Lib.hid (((Mut.refl F w).alloc _).trans hm)
  have HB1 := Lib.hid hb
  clear hm hb
  go_wp2_with (first | fail | ((with_reducible refine at_load 68 ?_); refine wpList_load_row rfl 68 _ rfl w.heap.size rfl 68 #[.pointer (some ⟨g, k * 89, none⟩), .pointer (some ⟨X, 0, none⟩), .int .i64 k] (0, 0) _ HP.out Try.underlying68 rfl size_place ?_))
  refine (tr_rememberRoot _ F X g k _ HB1.out (ho.setI hk 87 _ _ rfl HB.out) hk).mono ?_
  rintro e w2 ⟨rfl, hb3, hm3⟩
  go_wp2_with fail
  go_end0
  exact ⟨rfl, hb3, HM.out.trans hm3⟩

end Go.Proofs.Ytnblchilgaimhaa
