/- Role transitions: tests and actions of the rows. No statement is proved here. -/
import Derived.Test.YtnblchilgaimhaaTrB
namespace Go.Proofs.Ytnblchilgaimhaa
open Go.RowKit Go.BigFrame Go.WideShapes Go.ChangeShapes Go.Deep
set_option linter.unusedVariables false
set_option linter.unusedSimpArgs false

/-- A port, and where it is. -/
def placeV (g k X : Nat) : Value := .agg #[.pointer (some ⟨g, k * 89, none⟩), .pointer (some ⟨X, 0, none⟩), .int .i64 k]

theorem tr_still (w : World) (F : Nat → Prop) (X g k : Nat) (B : Br) (h : BrG w F X g B) (ho : B.ok) (hk : k < B.np) : Calls Try.prog 57 #[placeV g k X] w fun e w' => e = .returned (.bool (!B.gb k 29 && !B.gb k 27)) ∧ Ext w w' := by
  obtain ⟨hX, hg, hne⟩ := h.lt
  have p29 := (h.cellg (i := k * 89 + 29) (lt89 hk (by decide))).trans (ho.gb hk 29 rfl)
  have p27 := (h.cellg (i := k * 89 + 27) (lt89 hk (by decide))).trans (ho.gb hk 27 rfl)
  clear h
  obtain ⟨x29, e29⟩ : ∃ b, B.gb k 29 = b := ⟨_, rfl⟩
  rw [e29] at p29 ⊢
  obtain ⟨x27, e27⟩ : ∃ b, B.gb k 27 = b := ⟨_, rfl⟩
  rw [e27] at p27 ⊢
  have hs : w.heap.size ≠ g := by omega
  unfold placeV
  go_enter Try.func57, Try.ntmps57
  cases x29
  all_goals
    go_wp2_with fail
    go_ret
    exact ⟨by simp, (Ext.refl w).alloc _⟩
theorem tr_to (w : World) (F : Nat → Prop) (X g k : Nat) (B : Br) (h : BrG w F X g B) (ho : B.ok) (hk : k < B.np) (r : Int) : Calls Try.prog 90 #[placeV g k X, .int .i64 r] w fun e w' => e = .returned (.bool (B.gi k 88 == r && B.gi k 87 != r)) ∧ Ext w w' := by
  obtain ⟨hX, hg, hne⟩ := h.lt
  have p88 := (h.cellg (i := k * 89 + 88) (lt89 hk (by decide))).trans (ho.gi hk 88 rfl)
  have p87 := (h.cellg (i := k * 89 + 87) (lt89 hk (by decide))).trans (ho.gi hk 87 rfl)
  clear h
  obtain ⟨x88, e88⟩ : ∃ b, B.gi k 88 = b := ⟨_, rfl⟩
  rw [e88] at p88 ⊢
  obtain ⟨x87, e87⟩ : ∃ b, B.gi k 87 = b := ⟨_, rfl⟩
  rw [e87] at p87 ⊢
  have hs : w.heap.size ≠ g := by omega
  unfold placeV
  go_enter Try.func90, Try.ntmps90
  by_cases h1 : x88 = r
  · have h2 : (x88 == r) = true := by simpa using h1
    go_wp2_with fail
    go_ret
    exact ⟨by simp [h1], (Ext.refl w).alloc _⟩
  · have h2 : (x88 == r) = false := by simpa using h1
    go_wp2_with fail
    go_ret
    exact ⟨by simp [h1], (Ext.refl w).alloc _⟩
theorem tr_toDisabled (w : World) (F : Nat → Prop) (X g k : Nat) (B : Br) (h : BrG w F X g B) (ho : B.ok) (hk : k < B.np) : Calls Try.prog 50 #[placeV g k X] w fun e w' => e = .returned (.bool (B.gi k 88 == 0 && B.gi k 87 != 0)) ∧ Ext w w' := by
  obtain ⟨hX, hg, hne⟩ := h.lt
  have H := Lib.hid h
  have PB := Lib.hid place_build
  unfold placeV
  go_enter Try.func50, Try.ntmps50
  go_wp2_with fail
  refine (tr_to _ F X g k B (H.out.ext ((Ext.refl w).alloc _)) ho hk _).mono ?_
  rintro e w1 ⟨rfl, hx⟩
  go_wp2_with fail
  go_ret
  exact ⟨rfl, ((Ext.refl w).alloc _).trans hx⟩
theorem tr_toRoot (w : World) (F : Nat → Prop) (X g k : Nat) (B : Br) (h : BrG w F X g B) (ho : B.ok) (hk : k < B.np) : Calls Try.prog 52 #[placeV g k X] w fun e w' => e = .returned (.bool (B.gi k 88 == 3 && B.gi k 87 != 3)) ∧ Ext w w' := by
  obtain ⟨hX, hg, hne⟩ := h.lt
  have H := Lib.hid h
  have PB := Lib.hid place_build
  unfold placeV
  go_enter Try.func52, Try.ntmps52
  go_wp2_with fail
  refine (tr_to _ F X g k B (H.out.ext ((Ext.refl w).alloc _)) ho hk _).mono ?_
  rintro e w1 ⟨rfl, hx⟩
  go_wp2_with fail
  go_ret
  exact ⟨rfl, ((Ext.refl w).alloc _).trans hx⟩
theorem tr_toDesignated (w : World) (F : Nat → Prop) (X g k : Nat) (B : Br) (h : BrG w F X g B) (ho : B.ok) (hk : k < B.np) : Calls Try.prog 54 #[placeV g k X] w fun e w' => e = .returned (.bool (B.gi k 88 == 4 && B.gi k 87 != 4)) ∧ Ext w w' := by
  obtain ⟨hX, hg, hne⟩ := h.lt
  have H := Lib.hid h
  have PB := Lib.hid place_build
  unfold placeV
  go_enter Try.func54, Try.ntmps54
  go_wp2_with fail
  refine (tr_to _ F X g k B (H.out.ext ((Ext.refl w).alloc _)) ho hk _).mono ?_
  rintro e w1 ⟨rfl, hx⟩
  go_wp2_with fail
  go_ret
  exact ⟨rfl, ((Ext.refl w).alloc _).trans hx⟩
theorem tr_asked (w : World) (F : Nat → Prop) (X g k : Nat) (B : Br) (h : BrG w F X g B) (ho : B.ok) (hk : k < B.np) : Calls Try.prog 61 #[placeV g k X] w fun e w' => e = .returned (.bool (B.gb k 33 && !B.gb k 22)) ∧ Ext w w' := by
  obtain ⟨hX, hg, hne⟩ := h.lt
  have p33 := (h.cellg (i := k * 89 + 33) (lt89 hk (by decide))).trans (ho.gb hk 33 rfl)
  have p22 := (h.cellg (i := k * 89 + 22) (lt89 hk (by decide))).trans (ho.gb hk 22 rfl)
  clear h
  obtain ⟨x33, e33⟩ : ∃ b, B.gb k 33 = b := ⟨_, rfl⟩
  rw [e33] at p33 ⊢
  obtain ⟨x22, e22⟩ : ∃ b, B.gb k 22 = b := ⟨_, rfl⟩
  rw [e22] at p22 ⊢
  have hs : w.heap.size ≠ g := by omega
  unfold placeV
  go_enter Try.func61, Try.ntmps61
  cases x33
  all_goals
    go_wp2_with fail
    go_ret
    exact ⟨by simp, (Ext.refl w).alloc _⟩
theorem tr_rerootsAll (w : World) (F : Nat → Prop) (X g k : Nat) (B : Br) (h : BrG w F X g B) (ho : B.ok) (hk : k < B.np) : Calls Try.prog 69 #[placeV g k X] w fun e w' => e = .returned (.bool (!B.gb k 26 && !B.gb k 42)) ∧ Ext w w' := by
  obtain ⟨hX, hg, hne⟩ := h.lt
  have p26 := (h.cellg (i := k * 89 + 26) (lt89 hk (by decide))).trans (ho.gb hk 26 rfl)
  have p42 := (h.cellg (i := k * 89 + 42) (lt89 hk (by decide))).trans (ho.gb hk 42 rfl)
  clear h
  obtain ⟨x26, e26⟩ : ∃ b, B.gb k 26 = b := ⟨_, rfl⟩
  rw [e26] at p26 ⊢
  obtain ⟨x42, e42⟩ : ∃ b, B.gb k 42 = b := ⟨_, rfl⟩
  rw [e42] at p42 ⊢
  have hs : w.heap.size ≠ g := by omega
  unfold placeV
  go_enter Try.func69, Try.ntmps69
  cases x26
  all_goals
    go_wp2_with fail
    go_ret
    exact ⟨by simp, (Ext.refl w).alloc _⟩
theorem tr_isRerooted (w : World) (F : Nat → Prop) (X g k : Nat) (B : Br) (h : BrG w F X g B) (ho : B.ok) (hk : k < B.np) : Calls Try.prog 75 #[placeV g k X] w fun e w' => e = .returned (.bool (B.gb k 42 && B.gb k 26)) ∧ Ext w w' := by
  obtain ⟨hX, hg, hne⟩ := h.lt
  have p42 := (h.cellg (i := k * 89 + 42) (lt89 hk (by decide))).trans (ho.gb hk 42 rfl)
  have p26 := (h.cellg (i := k * 89 + 26) (lt89 hk (by decide))).trans (ho.gb hk 26 rfl)
  clear h
  obtain ⟨x42, e42⟩ : ∃ b, B.gb k 42 = b := ⟨_, rfl⟩
  rw [e42] at p42 ⊢
  obtain ⟨x26, e26⟩ : ∃ b, B.gb k 26 = b := ⟨_, rfl⟩
  rw [e26] at p26 ⊢
  have hs : w.heap.size ≠ g := by omega
  unfold placeV
  go_enter Try.func75, Try.ntmps75
  cases x42
  all_goals
    go_wp2_with fail
    go_ret
    exact ⟨by simp, (Ext.refl w).alloc _⟩
theorem tr_proposes (w : World) (F : Nat → Prop) (X g k : Nat) (B : Br) (h : BrG w F X g B) (ho : B.ok) (hk : k < B.np) : Calls Try.prog 79 #[placeV g k X] w fun e w' => e = .returned (.bool (!B.gb k 26 && !B.gb k 23 && !B.gb k 34 && !B.gb k 32)) ∧ Ext w w' := by
  obtain ⟨hX, hg, hne⟩ := h.lt
  have p26 := (h.cellg (i := k * 89 + 26) (lt89 hk (by decide))).trans (ho.gb hk 26 rfl)
  have p23 := (h.cellg (i := k * 89 + 23) (lt89 hk (by decide))).trans (ho.gb hk 23 rfl)
  have p34 := (h.cellg (i := k * 89 + 34) (lt89 hk (by decide))).trans (ho.gb hk 34 rfl)
  have p32 := (h.cellg (i := k * 89 + 32) (lt89 hk (by decide))).trans (ho.gb hk 32 rfl)
  clear h
  obtain ⟨x26, e26⟩ : ∃ b, B.gb k 26 = b := ⟨_, rfl⟩
  rw [e26] at p26 ⊢
  obtain ⟨x23, e23⟩ : ∃ b, B.gb k 23 = b := ⟨_, rfl⟩
  rw [e23] at p23 ⊢
  obtain ⟨x34, e34⟩ : ∃ b, B.gb k 34 = b := ⟨_, rfl⟩
  rw [e34] at p34 ⊢
  obtain ⟨x32, e32⟩ : ∃ b, B.gb k 32 = b := ⟨_, rfl⟩
  rw [e32] at p32 ⊢
  have hs : w.heap.size ≠ g := by omega
  unfold placeV
  go_enter Try.func79, Try.ntmps79
  cases x26 <;> cases x23 <;> cases x34
  all_goals
    go_wp2_with fail
    go_ret
    exact ⟨by simp, (Ext.refl w).alloc _⟩
theorem tr_toBlocked (w : World) (F : Nat → Prop) (X g k : Nat) (B : Br) (h : BrG w F X g B) (ho : B.ok) (hk : k < B.np) : Calls Try.prog 56 #[placeV g k X] w fun e w' => e = .returned (.bool ((B.gi k 88 == 1 && B.gi k 87 != 1) || (B.gi k 88 == 2 && B.gi k 87 != 2))) ∧ Ext w w' := by
  obtain ⟨hX, hg, hne⟩ := h.lt
  have H := Lib.hid h
  have PB := Lib.hid place_build
  unfold placeV
  go_enter Try.func56, Try.ntmps56
  go_wp2_with fail
  refine (tr_to _ F X g k B (H.out.ext ((Ext.refl w).alloc _)) ho hk _).mono ?_
  rintro e w1 ⟨rfl, hx⟩
  have hp1 := (hx.block _ (by simp)).trans (heap_alloc_new w _)
  have HP1 := Lib.hid hp1
  have HX := Lib.hid hx
  clear hx hp1
  cases hc : (B.gi k 88 == 1 && B.gi k 87 != 1)
  · go_wp2_with (first | fail | ((with_reducible refine at_loadG 68 ?_); refine wpList_load_rowG rfl 68 _ rfl w.heap.size rfl 68 #[.pointer (some ⟨g, k * 89, none⟩), .pointer (some ⟨X, 0, none⟩), .int .i64 k] (0, 0) _ HP1.out Try.underlying68 rfl size_place ?_))
    refine (tr_to _ F X g k B (H.out.ext (((Ext.refl w).alloc _).trans HX.out)) ho hk _).mono ?_
    rintro e w2 ⟨rfl, hx2⟩
    go_wp2_with fail
    go_ret
    exact ⟨by rw [hc]; rfl, (((Ext.refl w).alloc _).trans HX.out).trans hx2⟩
  · go_wp2_with fail
    go_ret
    exact ⟨by rw [hc]; rfl, ((Ext.refl w).alloc _).trans HX.out⟩
theorem tr_take (w : World) (F : Nat → Prop) (X g k : Nat) (B : Br) (h : BrG w F X g B) (ho : B.ok) (hk : k < B.np) : Calls Try.prog 55 #[placeV g k X] w fun e w' => e = .returned (.tuple #[]) ∧ BrG w' F X g (B.setp k 87 (.int .i64 (B.gi k 88))) ∧ Mut F w w' := by
  obtain ⟨hX, hg, hne⟩ := h.lt
  have H := Lib.hid h
  clear h
  unfold placeV
  go_enter Try.func55, Try.ntmps55
  go_wp2_with fail
  refine wp_region_tail 9 (by kernel_rfl) (by kernel_rfl) ?_
  intro y hy
  have hyx : Ext (w.alloc (.cells #[.pointer (some ⟨g, k * 89, none⟩), .pointer (some ⟨X, 0, none⟩), .int .i64 k] 68)) y := by
    rw [hy]
    exact (Ext.refl _).drew
  clear hy
  have HY := Lib.hid (H.out.ext (((Ext.refl w).alloc _).trans hyx))
  have HM := Lib.hid ((((Ext.refl w).alloc _).trans hyx).mut F)
  have e0 : y.cell? ⟨w.heap.size, 0, none⟩ = some (.pointer (some ⟨g, k * 89, none⟩)) := (cell_of_row _ _ _ _ _ _ ((hyx.block _ (by simp)).trans (heap_alloc_new w _))).trans rfl
  have e88 := (HY.out.cellg (i := k * 89 + 88) (lt89 hk (by decide))).trans (ho.gi hk 88 rfl)
  have e87 := (HY.out.cellg (i := k * 89 + 87) (lt89 hk (by decide))).trans (ho.gi hk 87 rfl)
  have efr := HY.out.frozen
  clear hyx
  simp only [List.take_succ_cons, List.take_zero, List.drop_succ_cons, List.drop_zero]
  repeat still_step
  refine wpStill_nil ?_
  go_wp2_with fail
  go_end0
  exact ⟨rfl, HY.out.setp (k := k) (j := 87) hk (by decide) _, HM.out.setCell (.inl HY.out.F2) _⟩

end Go.Proofs.Ytnblchilgaimhaa
