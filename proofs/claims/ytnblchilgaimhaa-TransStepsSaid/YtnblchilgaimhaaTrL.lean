/- Role transitions: tests of the rows of designated ports. No statement is proved here. -/
import Derived.Test.YtnblchilgaimhaaTrJ
namespace Go.Proofs.Ytnblchilgaimhaa
open Go.RowKit Go.BigFrame Go.WideShapes Go.ChangeShapes Go.Deep
set_option linter.unusedVariables false
set_option linter.unusedSimpArgs false

set_option maxHeartbeats 2000000 in
theorem tr_designatedMay (w : World) (F : Nat → Prop) (X g k : Nat) (B : Br) (h : BrG w F X g B) (ho : B.ok) (hk : k < B.np) : Calls Try.prog 95 #[placeV g k X] w fun e w' => e = .returned (.bool (trDes B k)) ∧ Ext w w' := by
  unfold trDes
  obtain ⟨x23, e23⟩ : ∃ b, B.gb k 23 = b := ⟨_, rfl⟩
  rw [e23]
  have HE23 := Lib.hid e23
  clear e23
  obtain ⟨x32, e32⟩ : ∃ b, B.gb k 32 = b := ⟨_, rfl⟩
  rw [e32]
  have HE32 := Lib.hid e32
  clear e32
  obtain ⟨x42, e42⟩ : ∃ b, B.gb k 42 = b := ⟨_, rfl⟩
  rw [e42]
  have HE42 := Lib.hid e42
  clear e42
  obtain ⟨x46, e46⟩ : ∃ b, B.gb k 46 = b := ⟨_, rfl⟩
  rw [e46]
  have HE46 := Lib.hid e46
  clear e46
  obtain ⟨x7, e7⟩ : ∃ b, B.gi k 7 = b := ⟨_, rfl⟩
  obtain ⟨x12, e12⟩ : ∃ b, B.gi k 12 = b := ⟨_, rfl⟩
  rw [e7, e12]
  have HE7 := Lib.hid e7
  have HE12 := Lib.hid e12
  clear e7 e12
  obtain ⟨hX, hg, hne⟩ := h.lt
  have hEz := (Ext.refl w).alloc (.cells #[.pointer (some ⟨g, k * 89, none⟩), .pointer (some ⟨X, 0, none⟩), .int .i64 k] 68)
  have hBz := h.alloc (.cells #[.pointer (some ⟨g, k * 89, none⟩), .pointer (some ⟨X, 0, none⟩), .int .i64 k] 68)
  have hPz := heap_alloc_new w (.cells #[.pointer (some ⟨g, k * 89, none⟩), .pointer (some ⟨X, 0, none⟩), .int .i64 k] 68)
  have hb0 : w.heap.size < (w.alloc (.cells #[.pointer (some ⟨g, k * 89, none⟩), .pointer (some ⟨X, 0, none⟩), .int .i64 k] 68)).heap.size := by simp
  have hbg : w.heap.size ≠ g := by omega
  have hbX : w.heap.size ≠ X := by omega
  have HEz := Lib.hid hEz
  have HBz := Lib.hid hBz
  have HPz := Lib.hid hPz
  have HZ0 := Lib.hid hb0
  clear hEz hBz hPz hb0 h
  unfold placeV
  go_enter Try.func95, Try.ntmps95
  go_wp2_with fail
  generalize w.alloc (.cells #[.pointer (some ⟨g, k * 89, none⟩), .pointer (some ⟨X, 0, none⟩), .int .i64 k] 68) = wz at *
  obtain ⟨b0, hb00⟩ : ∃ b, w.heap.size = b := ⟨_, rfl⟩
  rw [hb00] at HPz HZ0 hbg hbX ⊢
  clear hb00
  have hb0 := HZ0.out
  have hBz := HBz.out
  have c0 : wz.cell? ⟨b0, 0, none⟩ = some (.pointer (some ⟨g, k * 89, none⟩)) := (cell_of_row _ _ _ _ _ _ HPz.out).trans rfl
  have c1 : wz.cell? ⟨b0, 1, none⟩ = some (.pointer (some ⟨X, 0, none⟩)) := (cell_of_row _ _ _ _ _ _ HPz.out).trans rfl
  have c2 : wz.cell? ⟨b0, 2, none⟩ = some (.int .i64 k) := (cell_of_row _ _ _ _ _ _ HPz.out).trans rfl
  have hgz : g < wz.heap.size := hBz.lt.2.1
  have hXz : X < wz.heap.size := hBz.lt.1
  refine beginL (S := fun W' => Ext wz W') (by kernel_rfl) ?_
  intro wd hqx
  have hq0 : Ext wz wd := hqx
  refine takeL (i := 0) (v := (.pointer (some ⟨b0, 0, none⟩))) rfl (by kernel_rfl) (by kernel_rfl) (by kernel_rfl) (fun _ _ _ h => h) (Or.inl ⟨rfl, fun _ _ => rfl⟩) hq0 ?_
  simp only [Act.put, List.setIfInBounds_toArray, List.set_cons_zero, List.set_cons_succ]
  refine takeL (i := 1) (v := _) rfl (by kernel_rfl) (by kernel_rfl) (by kernel_rfl) (fun _ _ _ h => h) (yieldsIf_cell rfl 56 _ rfl ⟨b0, 0, none⟩ rfl (.pointer (some ⟨g, k * 89, none⟩)) _ (fun W' hW' => (hW'.cell (p := ⟨b0, 0, none⟩) hb0).trans c0) Try.underlying56 rfl) hq0 ?_
  simp only [Act.put, List.setIfInBounds_toArray, List.set_cons_zero, List.set_cons_succ]
  refine takeL (i := 2) (v := (.pointer (some ⟨g, k * 89, none⟩))) rfl (by kernel_rfl) (by kernel_rfl) (by kernel_rfl) (fun _ _ _ h => h) (Or.inl ⟨rfl, fun _ _ => rfl⟩) hq0 ?_
  simp only [Act.put, List.setIfInBounds_toArray, List.set_cons_zero, List.set_cons_succ]
  refine takeL (i := 3) (v := (.pointer (some ⟨g, k * 89 + 22, none⟩))) rfl (by kernel_rfl) (by kernel_rfl) (by kernel_rfl) (fun _ _ _ h => h) (Or.inl ⟨rfl, fun _ _ => rfl⟩) hq0 ?_
  simp only [Act.put, List.setIfInBounds_toArray, List.set_cons_zero, List.set_cons_succ]
  refine takeL (i := 4) (v := (.pointer (some ⟨b0, 0, none⟩))) rfl (by kernel_rfl) (by kernel_rfl) (by kernel_rfl) (fun _ _ _ h => h) (Or.inl ⟨rfl, fun _ _ => rfl⟩) hq0 ?_
  simp only [Act.put, List.setIfInBounds_toArray, List.set_cons_zero, List.set_cons_succ]
  refine takeL (i := 5) (v := _) rfl (by kernel_rfl) (by kernel_rfl) (by kernel_rfl) (fun _ _ _ h => h) (yieldsIf_cell rfl 56 _ rfl ⟨b0, 0, none⟩ rfl (.pointer (some ⟨g, k * 89, none⟩)) _ (fun W' hW' => (hW'.cell (p := ⟨b0, 0, none⟩) hb0).trans c0) Try.underlying56 rfl) hq0 ?_
  simp only [Act.put, List.setIfInBounds_toArray, List.set_cons_zero, List.set_cons_succ]
  refine takeL (i := 6) (v := (.pointer (some ⟨g, k * 89, none⟩))) rfl (by kernel_rfl) (by kernel_rfl) (by kernel_rfl) (fun _ _ _ h => h) (Or.inl ⟨rfl, fun _ _ => rfl⟩) hq0 ?_
  simp only [Act.put, List.setIfInBounds_toArray, List.set_cons_zero, List.set_cons_succ]
  refine takeL (i := 7) (v := (.pointer (some ⟨g, k * 89 + 6, none⟩))) rfl (by kernel_rfl) (by kernel_rfl) (by kernel_rfl) (fun _ _ _ h => h) (Or.inl ⟨rfl, fun _ _ => rfl⟩) hq0 ?_
  simp only [Act.put, List.setIfInBounds_toArray, List.set_cons_zero, List.set_cons_succ]
  refine takeL (i := 8) (v := (.pointer (some ⟨g, k * 89 + 22, none⟩))) rfl (by kernel_rfl) (by kernel_rfl) (by kernel_rfl) (fun _ _ _ h => h) (Or.inl ⟨rfl, fun _ _ => rfl⟩) hq0 ?_
  simp only [Act.put, List.setIfInBounds_toArray, List.set_cons_zero, List.set_cons_succ]
  refine takeL (i := 9) (v := (.pointer (some ⟨g, k * 89 + 6, none⟩))) rfl (by kernel_rfl) (by kernel_rfl) (by kernel_rfl) (fun _ _ _ h => h) (Or.inl ⟨rfl, fun _ _ => rfl⟩) hq0 ?_
  simp only [Act.put, List.setIfInBounds_toArray, List.set_cons_zero, List.set_cons_succ]
  refine wpAnyH_done (by kernel_rfl) ?_ _
  have hBd := hBz.ext hq0
  have p23 := (hBd.cellg (i := k * 89 + 23) (lt89 hk (by decide))).trans (ho.gb hk 23 rfl)
  have p32 := (hBd.cellg (i := k * 89 + 32) (lt89 hk (by decide))).trans (ho.gb hk 32 rfl)
  have p42 := (hBd.cellg (i := k * 89 + 42) (lt89 hk (by decide))).trans (ho.gb hk 42 rfl)
  have p46 := (hBd.cellg (i := k * 89 + 46) (lt89 hk (by decide))).trans (ho.gb hk 46 rfl)
  have p7 := (hBd.cellg (i := k * 89 + 7) (lt89 hk (by decide))).trans (ho.gi hk 7 rfl)
  have p12 := (hBd.cellg (i := k * 89 + 12) (lt89 hk (by decide))).trans (ho.gi hk 12 rfl)
  rw [HE23.out] at p23
  rw [HE32.out] at p32
  rw [HE42.out] at p42
  rw [HE46.out] at p46
  rw [HE7.out] at p7
  rw [HE12.out] at p12
  have HQ := Lib.hid hq0
  clear hBd hBz hq0 hqx c0 c1 c2 hgz hXz hb0
  cases h7 : (x7 == 0)
  · cases x23
    · cases x32
      · go_wp2_with fail
        go_ret
        exact ⟨by first | (simp; done) | (simp [hz]; done) | (simp [h7]; done) | (simp [h7, hz]; done), HEz.out.trans HQ.out⟩
      · cases x42
        · go_wp2_with fail
          go_ret
          exact ⟨by first | (simp; done) | (simp [hz]; done) | (simp [h7]; done) | (simp [h7, hz]; done), HEz.out.trans HQ.out⟩
        · cases hz : (x12 == 0)
          · go_wp2_with fail
            go_ret
            exact ⟨by first | (simp; done) | (simp [hz]; done) | (simp [h7]; done) | (simp [h7, hz]; done), HEz.out.trans HQ.out⟩
          · go_wp2_with fail
            go_ret
            exact ⟨by first | (simp; done) | (simp [hz]; done) | (simp [h7]; done) | (simp [h7, hz]; done), HEz.out.trans HQ.out⟩
    · cases x42
      · go_wp2_with fail
        go_ret
        exact ⟨by first | (simp; done) | (simp [hz]; done) | (simp [h7]; done) | (simp [h7, hz]; done), HEz.out.trans HQ.out⟩
      · cases hz : (x12 == 0)
        · go_wp2_with fail
          go_ret
          exact ⟨by first | (simp; done) | (simp [hz]; done) | (simp [h7]; done) | (simp [h7, hz]; done), HEz.out.trans HQ.out⟩
        · go_wp2_with fail
          go_ret
          exact ⟨by first | (simp; done) | (simp [hz]; done) | (simp [h7]; done) | (simp [h7, hz]; done), HEz.out.trans HQ.out⟩
  · cases x42
    · go_wp2_with fail
      go_ret
      exact ⟨by first | (simp; done) | (simp [hz]; done) | (simp [h7]; done) | (simp [h7, hz]; done), HEz.out.trans HQ.out⟩
    · cases hz : (x12 == 0)
      · go_wp2_with fail
        go_ret
        exact ⟨by first | (simp; done) | (simp [hz]; done) | (simp [h7]; done) | (simp [h7, hz]; done), HEz.out.trans HQ.out⟩
      · go_wp2_with fail
        go_ret
        exact ⟨by first | (simp; done) | (simp [hz]; done) | (simp [h7]; done) | (simp [h7, hz]; done), HEz.out.trans HQ.out⟩

theorem tr_designatedLearns (w : World) (F : Nat → Prop) (X g k : Nat) (B : Br) (h : BrG w F X g B) (ho : B.ok) (hk : k < B.np) : Calls Try.prog 86 #[placeV g k X] w fun e w' => e = .returned (.bool (trDes B k && !B.gb k 28)) ∧ Ext w w' := by
  obtain ⟨hX, hg, hne⟩ := h.lt
  have H := Lib.hid h
  obtain ⟨m, hm⟩ : ∃ m, trDes B k = m := ⟨_, rfl⟩
  rw [hm]
  have HM := Lib.hid hm
  clear hm
  obtain ⟨x28, e28⟩ : ∃ b, B.gb k 28 = b := ⟨_, rfl⟩
  rw [e28]
  have HE28 := Lib.hid e28
  clear e28
  unfold placeV
  go_enter Try.func86, Try.ntmps86
  go_wp2_with fail
  refine (tr_designatedMay _ F X g k B (H.out.ext ((Ext.refl w).alloc _)) ho hk).mono ?_
  rintro e w1 ⟨he, hx⟩
  rw [HM.out] at he
  obtain rfl : e = .returned (.bool m) := he
  have hP := (hx.block _ (by simp)).trans (heap_alloc_new w _)
  have c0 : w1.cell? ⟨w.heap.size, 0, none⟩ = some (.pointer (some ⟨g, k * 89, none⟩)) := (cell_of_row _ _ _ _ _ _ hP).trans rfl
  have hB1 := H.out.ext (((Ext.refl w).alloc _).trans hx)
  have HX := Lib.hid hx
  have p28 := (hB1.cellg (i := k * 89 + 28) (lt89 hk (by decide))).trans (ho.gb hk 28 rfl)
  rw [HE28.out] at p28
  clear h hX hg hne hx hP hB1
  cases m
  all_goals
    go_wp2_with fail
    go_ret
    exact ⟨by simp, ((Ext.refl w).alloc _).trans HX.out⟩

theorem tr_designatedForwards (w : World) (F : Nat → Prop) (X g k : Nat) (B : Br) (h : BrG w F X g B) (ho : B.ok) (hk : k < B.np) : Calls Try.prog 87 #[placeV g k X] w fun e w' => e = .returned (.bool (trDes B k && B.gb k 28 && !B.gb k 26)) ∧ Ext w w' := by
  obtain ⟨hX, hg, hne⟩ := h.lt
  have H := Lib.hid h
  obtain ⟨m, hm⟩ : ∃ m, trDes B k = m := ⟨_, rfl⟩
  rw [hm]
  have HM := Lib.hid hm
  clear hm
  obtain ⟨x28, e28⟩ : ∃ b, B.gb k 28 = b := ⟨_, rfl⟩
  rw [e28]
  have HE28 := Lib.hid e28
  clear e28
  obtain ⟨x26, e26⟩ : ∃ b, B.gb k 26 = b := ⟨_, rfl⟩
  rw [e26]
  have HE26 := Lib.hid e26
  clear e26
  unfold placeV
  go_enter Try.func87, Try.ntmps87
  go_wp2_with fail
  refine (tr_designatedMay _ F X g k B (H.out.ext ((Ext.refl w).alloc _)) ho hk).mono ?_
  rintro e w1 ⟨he, hx⟩
  rw [HM.out] at he
  obtain rfl : e = .returned (.bool m) := he
  have hP := (hx.block _ (by simp)).trans (heap_alloc_new w _)
  have c0 : w1.cell? ⟨w.heap.size, 0, none⟩ = some (.pointer (some ⟨g, k * 89, none⟩)) := (cell_of_row _ _ _ _ _ _ hP).trans rfl
  have hB1 := H.out.ext (((Ext.refl w).alloc _).trans hx)
  have HX := Lib.hid hx
  have p28 := (hB1.cellg (i := k * 89 + 28) (lt89 hk (by decide))).trans (ho.gb hk 28 rfl)
  rw [HE28.out] at p28
  have p26 := (hB1.cellg (i := k * 89 + 26) (lt89 hk (by decide))).trans (ho.gb hk 26 rfl)
  rw [HE26.out] at p26
  clear h hX hg hne hx hP hB1
  cases m <;> cases x28
  all_goals
    go_wp2_with fail
    go_ret
    exact ⟨by simp, ((Ext.refl w).alloc _).trans HX.out⟩

end Go.Proofs.Ytnblchilgaimhaa
