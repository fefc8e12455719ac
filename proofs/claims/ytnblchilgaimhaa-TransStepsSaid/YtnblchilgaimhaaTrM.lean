/- Role transitions: the other actions of the rows. No statement is proved here. -/
import Derived.Test.YtnblchilgaimhaaTrJ
namespace Go.Proofs.Ytnblchilgaimhaa
open Go.RowKit Go.BigFrame Go.WideShapes Go.ChangeShapes Go.Deep
set_option linter.unusedVariables false
set_option linter.unusedSimpArgs false

theorem Mut.toF {w w' : World} {F : Nat → Prop} {g : Nat} (h : Mut (fun n => n = g) w w') (hg : F g) : Mut F w w' := h.mono (fun n _ e => by rw [show n = g from e]; exact hg)
theorem trWait_set {B : Br} {k j : Nat} {v : Value} (h : j ≠ 45) : trWait (B.setp k j v) k = trWait B k := by
  unfold trWait
  rw [gb_setp_ne _ _ _ _ _ h]
  rfl
theorem tr_settle (w : World) (F : Nat → Prop) (X g k : Nat) (B : Br) (h : BrG w F X g B) (ho : B.ok) (hk : k < B.np) (fd : Int) : Calls Try.prog 91 #[placeV g k X, .int .i64 fd] w fun e w' => e = .returned (.tuple #[]) ∧ BrG w' F X g (trSettle B k fd) ∧ Mut (fun n => n = g) w w' := by
  obtain ⟨hX, hg, hne⟩ := h.lt
  have hbg : ¬ w.heap.size = g := by omega
  have hbX : ¬ w.heap.size = X := by omega
  have hXg : ¬ X = g := hne
  have hFg := h.F2
  have HMz := Lib.hid ((Mut.refl (fun n => n = g) w).alloc (.cells #[.pointer (some ⟨g, k * 89, none⟩), .pointer (some ⟨X, 0, none⟩), .int .i64 k] 68))
  have HBz := Lib.hid (BrG.alloc h (.cells #[.pointer (some ⟨g, k * 89, none⟩), .pointer (some ⟨X, 0, none⟩), .int .i64 k] 68))
  have HPz := Lib.hid (heap_alloc_new w (.cells #[.pointer (some ⟨g, k * 89, none⟩), .pointer (some ⟨X, 0, none⟩), .int .i64 k] 68))
  have HZ0 := Lib.hid (show w.heap.size < (w.alloc (.cells #[.pointer (some ⟨g, k * 89, none⟩), .pointer (some ⟨X, 0, none⟩), .int .i64 k] 68)).heap.size by simp)
  have okz : Br.ok B := ho
  clear h
  unfold placeV
  go_enter Try.func91, Try.ntmps91
  go_wp2_with fail
  have HZ1 := Lib.hid (show w.heap.size = w.heap.size by simp)
  generalize hwz : (w.alloc (.cells #[.pointer (some ⟨g, k * 89, none⟩), .pointer (some ⟨X, 0, none⟩), .int .i64 k] 68)) = wz at *
  clear hwz
  obtain ⟨b0, hb00⟩ : ∃ b, w.heap.size = b := ⟨_, rfl⟩
  have hPz := HPz.out
  rw [HZ1.out, hb00] at hPz
  have HPz := Lib.hid hPz
  clear hPz HZ1
  rw [hb00] at HZ0 hbg hbX ⊢
  clear hb00
  have hb0 := HZ0.out
  have c0 : wz.cell? ⟨b0, 0, none⟩ = some (.pointer (some ⟨g, k * 89, none⟩)) := (cell_of_row _ _ _ _ _ _ HPz.out).trans rfl
  have c1 : wz.cell? ⟨b0, 1, none⟩ = some (.pointer (some ⟨X, 0, none⟩)) := (cell_of_row _ _ _ _ _ _ HPz.out).trans rfl
  have c2 : wz.cell? ⟨b0, 2, none⟩ = some (.int .i64 k) := (cell_of_row _ _ _ _ _ _ HPz.out).trans rfl
  have hgz : g < wz.heap.size := HBz.out.lt.2.1
  have hXz : X < wz.heap.size := HBz.out.lt.1
  refine beginL (S := fun W' => Ext wz W') (by kernel_rfl) ?_
  intro wd hqx
  have hq0 : Ext wz wd := hqx
  refine takeL (i := 0) (v := (.pointer (some ⟨b0, 0, none⟩))) rfl (by kernel_rfl) (by kernel_rfl) (by kernel_rfl) (fun _ _ _ h => h) (Or.inl ⟨rfl, fun _ _ => rfl⟩) hq0 ?_
  simp only [Act.put, List.setIfInBounds_toArray, List.set_cons_zero, List.set_cons_succ]
  refine takeL (i := 1) (v := _) rfl (by kernel_rfl) (by kernel_rfl) (by kernel_rfl) (fun _ _ _ h => h) (yieldsIf_cell rfl 56 _ rfl ⟨b0, 0, none⟩ rfl (.pointer (some ⟨g, k * 89, none⟩)) _ (fun W' hW' => (hW'.cell (p := ⟨b0, 0, none⟩) hb0).trans c0) Try.underlying56 rfl) hq0 ?_
  simp only [Act.put, List.setIfInBounds_toArray, List.set_cons_zero, List.set_cons_succ]
  refine takeL (i := 2) (v := (.pointer (some ⟨g, k * 89, none⟩))) rfl (by kernel_rfl) (by kernel_rfl) (by kernel_rfl) (fun _ _ _ h => h) (Or.inl ⟨rfl, fun _ _ => rfl⟩) hq0 ?_
  simp only [Act.put, List.setIfInBounds_toArray, List.set_cons_zero, List.set_cons_succ]
  refine takeL (i := 3) (v := (.pointer (some ⟨g, k * 89 + 22, none⟩))) rfl (by kernel_rfl) (by kernel_rfl) (by kernel_rfl) (fun _ _ _ h => h) (Or.inl ⟨rfl, fun _ _ => rfl⟩) hq0 ?_
  simp only [Act.put, List.setIfInBounds_toArray, List.set_cons_zero, List.set_cons_succ]
  refine takeL (i := 4) (v := (.pointer (some ⟨b0, 0, none⟩))) rfl (by kernel_rfl) (by kernel_rfl) (by kernel_rfl) (fun _ _ _ h => h) (Or.inl ⟨rfl, fun _ _ => rfl⟩) hq0 ?_
  simp only [Act.put, List.setIfInBounds_toArray, List.set_cons_zero, List.set_cons_succ]
  refine takeL (i := 5) (v := _) rfl (by kernel_rfl) (by kernel_rfl) (by kernel_rfl) (fun _ _ _ h => h) (yieldsIf_cell rfl 56 _ rfl ⟨b0, 0, none⟩ rfl (.pointer (some ⟨g, k * 89, none⟩)) _ (fun W' hW' => (hW'.cell (p := ⟨b0, 0, none⟩) hb0).trans c0) Try.underlying56 rfl) hq0 ?_
  simp only [Act.put, List.setIfInBounds_toArray, List.set_cons_zero, List.set_cons_succ]
  refine takeL (i := 6) (v := (.pointer (some ⟨g, k * 89, none⟩))) rfl (by kernel_rfl) (by kernel_rfl) (by kernel_rfl) (fun _ _ _ h => h) (Or.inl ⟨rfl, fun _ _ => rfl⟩) hq0 ?_
  simp only [Act.put, List.setIfInBounds_toArray, List.set_cons_zero, List.set_cons_succ]
  refine takeL (i := 7) (v := (.pointer (some ⟨g, k * 89 + 6, none⟩))) rfl (by kernel_rfl) (by kernel_rfl) (by kernel_rfl) (fun _ _ _ h => h) (Or.inl ⟨rfl, fun _ _ => rfl⟩) hq0 ?_
  simp only [Act.put, List.setIfInBounds_toArray, List.set_cons_zero, List.set_cons_succ]
  refine takeL (i := 8) (v := (.pointer (some ⟨g, k * 89 + 22, none⟩))) rfl (by kernel_rfl) (by kernel_rfl) (by kernel_rfl) (fun _ _ _ h => h) (Or.inl ⟨rfl, fun _ _ => rfl⟩) hq0 ?_
  simp only [Act.put, List.setIfInBounds_toArray, List.set_cons_zero, List.set_cons_succ]
  refine takeL (i := 9) (v := (.pointer (some ⟨g, k * 89 + 6, none⟩))) rfl (by kernel_rfl) (by kernel_rfl) (by kernel_rfl) (fun _ _ _ h => h) (Or.inl ⟨rfl, fun _ _ => rfl⟩) hq0 ?_
  simp only [Act.put, List.setIfInBounds_toArray, List.set_cons_zero, List.set_cons_succ]
  refine wpAnyH_done (by kernel_rfl) ?_ _
  have hBd := HBz.out.ext hq0
  have e7 := (hBd.cellg (i := k * 89 + 7) (lt89 hk (by decide))).trans (Br.ok.gi ho (k := k) hk 7 rfl)
  have e12 := (hBd.cellg (i := k * 89 + 12) (lt89 hk (by decide))).trans (Br.ok.gi ho (k := k) hk 12 rfl)
  have e47 := (hBd.cellg (i := k * 89 + 47) (lt89 hk (by decide))).trans (Br.ok.gb ho (k := k) hk 47 rfl)
  have e46 := (hBd.cellg (i := k * 89 + 46) (lt89 hk (by decide))).trans (Br.ok.gb ho (k := k) hk 46 rfl)
  have e42 := (hBd.cellg (i := k * 89 + 42) (lt89 hk (by decide))).trans (Br.ok.gb ho (k := k) hk 42 rfl)
  have efr := hBd.frozen
  have HBd := Lib.hid hBd
  have HQ := Lib.hid hq0
  clear hBd hq0 hqx c0 c1 c2
  go_wp2_with fail
  go_end0
  exact ⟨rfl, (((((HBd.out.setp (k := k) (j := 7) hk (by decide) (.int .i64 fd)).setp (k := k) (j := 12) hk (by decide) (.int .i64 0)).setp (k := k) (j := 47) hk (by decide) (.bool true)).setp (k := k) (j := 46) hk (by decide) (.bool false)).setp (k := k) (j := 42) hk (by decide) (.bool false)), HMz.out.trans ((((((HQ.out.mut (fun n => n = g)).setCell (p := ⟨g, k * 89 + 7, none⟩) (.inl rfl) (.int .i64 fd)).setCell (p := ⟨g, k * 89 + 12, none⟩) (.inl rfl) (.int .i64 0)).setCell (p := ⟨g, k * 89 + 47, none⟩) (.inl rfl) (.bool true)).setCell (p := ⟨g, k * 89 + 46, none⟩) (.inl rfl) (.bool false)).setCell (p := ⟨g, k * 89 + 42, none⟩) (.inl rfl) (.bool false))⟩

theorem tr_disable (w : World) (F : Nat → Prop) (X g k : Nat) (B : Br) (h : BrG w F X g B) (ho : B.ok) (hk : k < B.np) : Calls Try.prog 58 #[placeV g k X] w fun e w' => e = .returned (.tuple #[]) ∧ BrG w' F X g (trSettle B k (B.hi 3)) ∧ Mut (fun n => n = g) w w' := by
  obtain ⟨hX, hg, hne⟩ := h.lt
  have hbg : ¬ w.heap.size = g := by omega
  have hbX : ¬ w.heap.size = X := by omega
  have hXg : ¬ X = g := hne
  have hFg := h.F2
  have HMz := Lib.hid ((Mut.refl (fun n => n = g) w).alloc (.cells #[.pointer (some ⟨g, k * 89, none⟩), .pointer (some ⟨X, 0, none⟩), .int .i64 k] 68))
  have HBz := Lib.hid (BrG.alloc h (.cells #[.pointer (some ⟨g, k * 89, none⟩), .pointer (some ⟨X, 0, none⟩), .int .i64 k] 68))
  have HPz := Lib.hid (heap_alloc_new w (.cells #[.pointer (some ⟨g, k * 89, none⟩), .pointer (some ⟨X, 0, none⟩), .int .i64 k] 68))
  have HZ0 := Lib.hid (show w.heap.size < (w.alloc (.cells #[.pointer (some ⟨g, k * 89, none⟩), .pointer (some ⟨X, 0, none⟩), .int .i64 k] 68)).heap.size by simp)
  have okz : Br.ok B := ho
  clear h
  unfold placeV
  go_enter Try.func58, Try.ntmps58
  go_wp2_with fail
  have HZ1 := Lib.hid (show w.heap.size = w.heap.size by simp)
  generalize hwz : (w.alloc (.cells #[.pointer (some ⟨g, k * 89, none⟩), .pointer (some ⟨X, 0, none⟩), .int .i64 k] 68)) = wz at *
  clear hwz
  obtain ⟨b0, hb00⟩ : ∃ b, w.heap.size = b := ⟨_, rfl⟩
  have hPz := HPz.out
  rw [HZ1.out, hb00] at hPz
  have HPz := Lib.hid hPz
  clear hPz HZ1
  rw [hb00] at HZ0 hbg hbX ⊢
  clear hb00
  have hb0 := HZ0.out
  have c0 : wz.cell? ⟨b0, 0, none⟩ = some (.pointer (some ⟨g, k * 89, none⟩)) := (cell_of_row _ _ _ _ _ _ HPz.out).trans rfl
  have c1 : wz.cell? ⟨b0, 1, none⟩ = some (.pointer (some ⟨X, 0, none⟩)) := (cell_of_row _ _ _ _ _ _ HPz.out).trans rfl
  have c2 : wz.cell? ⟨b0, 2, none⟩ = some (.int .i64 k) := (cell_of_row _ _ _ _ _ _ HPz.out).trans rfl
  have hgz : g < wz.heap.size := HBz.out.lt.2.1
  have hXz : X < wz.heap.size := HBz.out.lt.1
  have q3 := (HBz.out.cellX okz (i := 3) (by decide)).trans (okz.hi 3 rfl)
  refine beginL (S := fun W' => Mut (fun n => n = g) wz W') (by kernel_rfl) ?_
  intro wd hqx
  have hq0 : Mut (fun n => n = g) wz wd := hqx.mut _
  refine takeL (i := 0) (v := _) rfl (by kernel_rfl) (by kernel_rfl) (by kernel_rfl) (fun _ _ _ h => h) (yieldsIf_rowS rfl 68 _ rfl b0 rfl #[.pointer (some ⟨g, k * 89, none⟩), .pointer (some ⟨X, 0, none⟩), .int .i64 k] _ _ (fun W' hW' => (hW'.heap hb0 hbg).trans HPz.out) Try.underlying68 rfl size_place) hq0 ?_
  simp only [Act.put, List.setIfInBounds_toArray, List.set_cons_zero, List.set_cons_succ]
  refine takeL (i := 1) (v := (.pointer (some ⟨b0, 1, none⟩))) rfl (by kernel_rfl) (by kernel_rfl) (by kernel_rfl) (fun _ _ _ h => h) (Or.inl ⟨rfl, fun _ _ => rfl⟩) hq0 ?_
  simp only [Act.put, List.setIfInBounds_toArray, List.set_cons_zero, List.set_cons_succ]
  refine takeL (i := 2) (v := _) rfl (by kernel_rfl) (by kernel_rfl) (by kernel_rfl) (fun _ _ _ h => h) (yieldsIf_cell rfl 39 _ rfl ⟨b0, 1, none⟩ rfl (.pointer (some ⟨X, 0, none⟩)) _ (fun W' hW' => (hW'.cell (p := ⟨b0, 1, none⟩) hb0 hbg).trans c1) Try.underlying39 rfl) hq0 ?_
  simp only [Act.put, List.setIfInBounds_toArray, List.set_cons_zero, List.set_cons_succ]
  refine takeL (i := 3) (v := (.pointer (some ⟨X, 0, none⟩))) rfl (by kernel_rfl) (by kernel_rfl) (by kernel_rfl) (fun _ _ _ h => h) (Or.inl ⟨rfl, fun _ _ => rfl⟩) hq0 ?_
  simp only [Act.put, List.setIfInBounds_toArray, List.set_cons_zero, List.set_cons_succ]
  refine takeL (i := 4) (v := (.pointer (some ⟨X, 2, none⟩))) rfl (by kernel_rfl) (by kernel_rfl) (by kernel_rfl) (fun _ _ _ h => h) (Or.inl ⟨rfl, fun _ _ => rfl⟩) hq0 ?_
  simp only [Act.put, List.setIfInBounds_toArray, List.set_cons_zero, List.set_cons_succ]
  refine takeL (i := 5) (v := (.pointer (some ⟨X, 3, none⟩))) rfl (by kernel_rfl) (by kernel_rfl) (by kernel_rfl) (fun _ _ _ h => h) (Or.inl ⟨rfl, fun _ _ => rfl⟩) hq0 ?_
  simp only [Act.put, List.setIfInBounds_toArray, List.set_cons_zero, List.set_cons_succ]
  refine takeL (i := 6) (v := _) rfl (by kernel_rfl) (by kernel_rfl) (by kernel_rfl) (fun _ _ _ h => h) (yieldsIf_cell rfl 3 _ rfl ⟨X, 3, none⟩ rfl (.int .i64 (B.hi 3)) _ (fun W' hW' => (hW'.cell (p := ⟨X, 3, none⟩) hXz hXg).trans q3) Try.underlying3 rfl) hq0 ?_
  simp only [Act.put, List.setIfInBounds_toArray, List.set_cons_zero, List.set_cons_succ]
  refine runL (i := 7) rfl rfl (by kernel_rfl) (fun K hK => ?_)
  go_simp
  refine (tr_settle wd F X g k B (HBz.out.ext hqx) ho hk (B.hi 3)).mono ?_
  rintro e wc1 ⟨rfl, hB, hm⟩
  have hq1 := hq0.trans hm
  refine hK.out _ _ hq1 (fun hHeld => ?_)
  try simp only [Act.put, List.setIfInBounds_toArray, List.set_cons_zero, List.set_cons_succ]
  clear hK K hHeld
  refine wpAnyH_done (by kernel_rfl) ?_ _
  go_wp2_with fail
  go_end0
  exact ⟨rfl, hB, HMz.out.trans hq1⟩

theorem tr_block (w : World) (F : Nat → Prop) (X g k : Nat) (B : Br) (h : BrG w F X g B) (ho : B.ok) (hk : k < B.np) : Calls Try.prog 60 #[placeV g k X] w fun e w' => e = .returned (.tuple #[]) ∧ BrG w' F X g (trSettle B k (trWait B k)) ∧ Mut (fun n => n = g) w w' := by
  obtain ⟨hX, hg, hne⟩ := h.lt
  have hbg : ¬ w.heap.size = g := by omega
  have hbX : ¬ w.heap.size = X := by omega
  have hXg : ¬ X = g := hne
  have hFg := h.F2
  have HMz := Lib.hid ((Mut.refl (fun n => n = g) w).alloc (.cells #[.pointer (some ⟨g, k * 89, none⟩), .pointer (some ⟨X, 0, none⟩), .int .i64 k] 68))
  have HBz := Lib.hid (BrG.alloc h (.cells #[.pointer (some ⟨g, k * 89, none⟩), .pointer (some ⟨X, 0, none⟩), .int .i64 k] 68))
  have HPz := Lib.hid (heap_alloc_new w (.cells #[.pointer (some ⟨g, k * 89, none⟩), .pointer (some ⟨X, 0, none⟩), .int .i64 k] 68))
  have HZ0 := Lib.hid (show w.heap.size < (w.alloc (.cells #[.pointer (some ⟨g, k * 89, none⟩), .pointer (some ⟨X, 0, none⟩), .int .i64 k] 68)).heap.size by simp)
  have okz : Br.ok B := ho
  clear h
  unfold placeV
  go_enter Try.func60, Try.ntmps60
  go_wp2_with fail
  have HZ1 := Lib.hid (show w.heap.size = w.heap.size by simp)
  generalize hwz : (w.alloc (.cells #[.pointer (some ⟨g, k * 89, none⟩), .pointer (some ⟨X, 0, none⟩), .int .i64 k] 68)) = wz at *
  clear hwz
  obtain ⟨b0, hb00⟩ : ∃ b, w.heap.size = b := ⟨_, rfl⟩
  have hPz := HPz.out
  rw [HZ1.out, hb00] at hPz
  have HPz := Lib.hid hPz
  clear hPz HZ1
  rw [hb00] at HZ0 hbg hbX ⊢
  clear hb00
  have hb0 := HZ0.out
  have c0 : wz.cell? ⟨b0, 0, none⟩ = some (.pointer (some ⟨g, k * 89, none⟩)) := (cell_of_row _ _ _ _ _ _ HPz.out).trans rfl
  have c1 : wz.cell? ⟨b0, 1, none⟩ = some (.pointer (some ⟨X, 0, none⟩)) := (cell_of_row _ _ _ _ _ _ HPz.out).trans rfl
  have c2 : wz.cell? ⟨b0, 2, none⟩ = some (.int .i64 k) := (cell_of_row _ _ _ _ _ _ HPz.out).trans rfl
  have hgz : g < wz.heap.size := HBz.out.lt.2.1
  have hXz : X < wz.heap.size := HBz.out.lt.1
  refine beginL (S := fun W' => Mut (fun n => n = g) wz W') (by kernel_rfl) ?_
  intro wd hqx
  have hq0 : Mut (fun n => n = g) wz wd := hqx.mut _
  refine takeL (i := 0) (v := _) rfl (by kernel_rfl) (by kernel_rfl) (by kernel_rfl) (fun _ _ _ h => h) (yieldsIf_rowS rfl 68 _ rfl b0 rfl #[.pointer (some ⟨g, k * 89, none⟩), .pointer (some ⟨X, 0, none⟩), .int .i64 k] _ _ (fun W' hW' => (hW'.heap hb0 hbg).trans HPz.out) Try.underlying68 rfl size_place) hq0 ?_
  simp only [Act.put, List.setIfInBounds_toArray, List.set_cons_zero, List.set_cons_succ]
  refine takeL (i := 1) (v := _) rfl (by kernel_rfl) (by kernel_rfl) (by kernel_rfl) (fun _ _ _ h => h) (yieldsIf_rowS rfl 68 _ rfl b0 rfl #[.pointer (some ⟨g, k * 89, none⟩), .pointer (some ⟨X, 0, none⟩), .int .i64 k] _ _ (fun W' hW' => (hW'.heap hb0 hbg).trans HPz.out) Try.underlying68 rfl size_place) hq0 ?_
  simp only [Act.put, List.setIfInBounds_toArray, List.set_cons_zero, List.set_cons_succ]
  refine runL (i := 2) rfl rfl (by kernel_rfl) (fun K hK => ?_)
  go_simp
  refine (tr_forwardDelay wd F X g k B (HBz.out.ext hqx) ho hk).mono ?_
  rintro e wc1 ⟨he, hx⟩
  obtain rfl : e = .returned (.int .i64 (trWait B k)) := he
  have hqx := hqx.trans hx
  have hq1 := hq0.trans (hx.mut _)
  refine hK.out _ _ hq1 (fun hHeld => ?_)
  try simp only [Act.put, List.setIfInBounds_toArray, List.set_cons_zero, List.set_cons_succ]
  clear hK K hHeld
  refine runL (i := 3) rfl rfl (by kernel_rfl) (fun K hK => ?_)
  go_simp
  refine (tr_settle wc1 F X g k B (HBz.out.ext hqx) ho hk (trWait B k)).mono ?_
  rintro e wc2 ⟨rfl, hB, hm⟩
  have hq2 := hq1.trans hm
  refine hK.out _ _ hq2 (fun hHeld => ?_)
  try simp only [Act.put, List.setIfInBounds_toArray, List.set_cons_zero, List.set_cons_succ]
  clear hK K hHeld
  refine wpAnyH_done (by kernel_rfl) ?_ _
  go_wp2_with fail
  go_end0
  exact ⟨rfl, hB, HMz.out.trans hq2⟩

theorem tr_backUp (w : World) (F : Nat → Prop) (X g k : Nat) (B : Br) (h : BrG w F X g B) (ho : B.ok) (hk : k < B.np) (h4 : 0 ≤ B.hi 4 ∧ B.hi 4 ≤ 1000) : Calls Try.prog 66 #[placeV g k X] w fun e w' => e = .returned (.tuple #[]) ∧ BrG w' F X g (B.setp k 10 (.int .i64 (2 * B.hi 4))) ∧ Mut (fun n => n = g) w w' := by
  obtain ⟨hX, hg, hne⟩ := h.lt
  have hbg : ¬ w.heap.size = g := by omega
  have hbX : ¬ w.heap.size = X := by omega
  have hXg : ¬ X = g := hne
  have hFg := h.F2
  have HMz := Lib.hid ((Mut.refl (fun n => n = g) w).alloc (.cells #[.pointer (some ⟨g, k * 89, none⟩), .pointer (some ⟨X, 0, none⟩), .int .i64 k] 68))
  have HBz := Lib.hid (BrG.alloc h (.cells #[.pointer (some ⟨g, k * 89, none⟩), .pointer (some ⟨X, 0, none⟩), .int .i64 k] 68))
  have HPz := Lib.hid (heap_alloc_new w (.cells #[.pointer (some ⟨g, k * 89, none⟩), .pointer (some ⟨X, 0, none⟩), .int .i64 k] 68))
  have HZ0 := Lib.hid (show w.heap.size < (w.alloc (.cells #[.pointer (some ⟨g, k * 89, none⟩), .pointer (some ⟨X, 0, none⟩), .int .i64 k] 68)).heap.size by simp)
  have okz : Br.ok B := ho
  clear h
  unfold placeV
  go_enter Try.func66, Try.ntmps66
  go_wp2_with fail
  have HZ1 := Lib.hid (show w.heap.size = w.heap.size by simp)
  generalize hwz : (w.alloc (.cells #[.pointer (some ⟨g, k * 89, none⟩), .pointer (some ⟨X, 0, none⟩), .int .i64 k] 68)) = wz at *
  clear hwz
  obtain ⟨b0, hb00⟩ : ∃ b, w.heap.size = b := ⟨_, rfl⟩
  have hPz := HPz.out
  rw [HZ1.out, hb00] at hPz
  have HPz := Lib.hid hPz
  clear hPz HZ1
  rw [hb00] at HZ0 hbg hbX ⊢
  clear hb00
  have hb0 := HZ0.out
  have c0 : wz.cell? ⟨b0, 0, none⟩ = some (.pointer (some ⟨g, k * 89, none⟩)) := (cell_of_row _ _ _ _ _ _ HPz.out).trans rfl
  have c1 : wz.cell? ⟨b0, 1, none⟩ = some (.pointer (some ⟨X, 0, none⟩)) := (cell_of_row _ _ _ _ _ _ HPz.out).trans rfl
  have c2 : wz.cell? ⟨b0, 2, none⟩ = some (.int .i64 k) := (cell_of_row _ _ _ _ _ _ HPz.out).trans rfl
  have hgz : g < wz.heap.size := HBz.out.lt.2.1
  have hXz : X < wz.heap.size := HBz.out.lt.1
  have hwr : IntKind.i64.wrap (2 * B.hi 4) = 2 * B.hi 4 := by rw [IntKind.wrap_i64]; omega
  have q4 := (HBz.out.cellX okz (i := 4) (by decide)).trans (okz.hi 4 rfl)
  refine beginL (S := fun W' => Mut (fun n => n = g) wz W') (by kernel_rfl) ?_
  intro wd hqx
  have hq0 : Mut (fun n => n = g) wz wd := hqx.mut _
  have HBd := Lib.hid (HBz.out.ext hqx)
  have e10 := (HBd.out.cellg (i := k * 89 + 10) (lt89 hk (by decide))).trans (Br.ok.gi ho (k := k) hk 10 rfl)
  have efr := HBd.out.frozen
  refine takeL (i := 0) (v := (.pointer (some ⟨b0, 0, none⟩))) rfl (by kernel_rfl) (by kernel_rfl) (by kernel_rfl) (fun _ _ _ h => h) (Or.inl ⟨rfl, fun _ _ => rfl⟩) hq0 ?_
  simp only [Act.put, List.setIfInBounds_toArray, List.set_cons_zero, List.set_cons_succ]
  refine takeL (i := 1) (v := _) rfl (by kernel_rfl) (by kernel_rfl) (by kernel_rfl) (fun _ _ _ h => h) (yieldsIf_cell rfl 56 _ rfl ⟨b0, 0, none⟩ rfl (.pointer (some ⟨g, k * 89, none⟩)) _ (fun W' hW' => (hW'.cell (p := ⟨b0, 0, none⟩) hb0 hbg).trans c0) Try.underlying56 rfl) hq0 ?_
  simp only [Act.put, List.setIfInBounds_toArray, List.set_cons_zero, List.set_cons_succ]
  refine takeL (i := 2) (v := (.pointer (some ⟨b0, 1, none⟩))) rfl (by kernel_rfl) (by kernel_rfl) (by kernel_rfl) (fun _ _ _ h => h) (Or.inl ⟨rfl, fun _ _ => rfl⟩) hq0 ?_
  simp only [Act.put, List.setIfInBounds_toArray, List.set_cons_zero, List.set_cons_succ]
  refine takeL (i := 3) (v := _) rfl (by kernel_rfl) (by kernel_rfl) (by kernel_rfl) (fun _ _ _ h => h) (yieldsIf_cell rfl 39 _ rfl ⟨b0, 1, none⟩ rfl (.pointer (some ⟨X, 0, none⟩)) _ (fun W' hW' => (hW'.cell (p := ⟨b0, 1, none⟩) hb0 hbg).trans c1) Try.underlying39 rfl) hq0 ?_
  simp only [Act.put, List.setIfInBounds_toArray, List.set_cons_zero, List.set_cons_succ]
  refine takeL (i := 4) (v := (.pointer (some ⟨X, 0, none⟩))) rfl (by kernel_rfl) (by kernel_rfl) (by kernel_rfl) (fun _ _ _ h => h) (Or.inl ⟨rfl, fun _ _ => rfl⟩) hq0 ?_
  simp only [Act.put, List.setIfInBounds_toArray, List.set_cons_zero, List.set_cons_succ]
  refine takeL (i := 5) (v := (.pointer (some ⟨X, 2, none⟩))) rfl (by kernel_rfl) (by kernel_rfl) (by kernel_rfl) (fun _ _ _ h => h) (Or.inl ⟨rfl, fun _ _ => rfl⟩) hq0 ?_
  simp only [Act.put, List.setIfInBounds_toArray, List.set_cons_zero, List.set_cons_succ]
  refine takeL (i := 6) (v := (.pointer (some ⟨X, 4, none⟩))) rfl (by kernel_rfl) (by kernel_rfl) (by kernel_rfl) (fun _ _ _ h => h) (Or.inl ⟨rfl, fun _ _ => rfl⟩) hq0 ?_
  simp only [Act.put, List.setIfInBounds_toArray, List.set_cons_zero, List.set_cons_succ]
  refine takeL (i := 7) (v := _) rfl (by kernel_rfl) (by kernel_rfl) (by kernel_rfl) (fun _ _ _ h => h) (yieldsIf_cell rfl 3 _ rfl ⟨X, 4, none⟩ rfl (.int .i64 (B.hi 4)) _ (fun W' hW' => (hW'.cell (p := ⟨X, 4, none⟩) hXz hXg).trans q4) Try.underlying3 rfl) hq0 ?_
  simp only [Act.put, List.setIfInBounds_toArray, List.set_cons_zero, List.set_cons_succ]
  refine takeL (i := 8) (v := (.int .i64 (2 * B.hi 4))) rfl (by kernel_rfl) (by kernel_rfl) (by kernel_rfl) (fun _ _ _ h => h) (Or.inl ⟨rfl, fun W' _ => by go_simp⟩) hq0 ?_
  simp only [Act.put, List.setIfInBounds_toArray, List.set_cons_zero, List.set_cons_succ]
  refine takeL (i := 9) (v := (.pointer (some ⟨g, k * 89, none⟩))) rfl (by kernel_rfl) (by kernel_rfl) (by kernel_rfl) (fun _ _ _ h => h) (Or.inl ⟨rfl, fun _ _ => rfl⟩) hq0 ?_
  simp only [Act.put, List.setIfInBounds_toArray, List.set_cons_zero, List.set_cons_succ]
  refine takeL (i := 10) (v := (.pointer (some ⟨g, k * 89 + 6, none⟩))) rfl (by kernel_rfl) (by kernel_rfl) (by kernel_rfl) (fun _ _ _ h => h) (Or.inl ⟨rfl, fun _ _ => rfl⟩) hq0 ?_
  simp only [Act.put, List.setIfInBounds_toArray, List.set_cons_zero, List.set_cons_succ]
  refine takeL (i := 11) (v := (.pointer (some ⟨g, k * 89 + 10, none⟩))) rfl (by kernel_rfl) (by kernel_rfl) (by kernel_rfl) (fun _ _ _ h => h) (Or.inl ⟨rfl, fun _ _ => rfl⟩) hq0 ?_
  simp only [Act.put, List.setIfInBounds_toArray, List.set_cons_zero, List.set_cons_succ]
  refine runL (i := 12) rfl rfl (by kernel_rfl) (fun K hK => ?_)
  go_simp
  have hq1 := hq0.setCell (p := ⟨g, k * 89 + 10, none⟩) (.inl rfl) (.int .i64 (2 * B.hi 4))
  refine hK.out _ _ hq1 (fun hHeld => ?_)
  try simp only [Act.put, List.setIfInBounds_toArray, List.set_cons_zero, List.set_cons_succ]
  clear hK K hHeld
  refine wpAnyH_done (by kernel_rfl) ?_ _
  go_wp2_with fail
  go_end0
  exact ⟨rfl, (HBd.out.setp (k := k) (j := 10) hk (by decide) (.int .i64 (2 * B.hi 4))), HMz.out.trans hq1⟩

theorem tr_learn (w : World) (F : Nat → Prop) (X g k : Nat) (B : Br) (h : BrG w F X g B) (ho : B.ok) (hk : k < B.np) : Calls Try.prog 72 #[placeV g k X] w fun e w' => e = .returned (.tuple #[]) ∧ BrG w' F X g (trLearn B k) ∧ Mut (fun n => n = g) w w' := by
  obtain ⟨hX, hg, hne⟩ := h.lt
  have hbg : ¬ w.heap.size = g := by omega
  have hbX : ¬ w.heap.size = X := by omega
  have hXg : ¬ X = g := hne
  have hFg := h.F2
  have e28 := (h.cellg (i := k * 89 + 28) (lt89 hk (by decide))).trans (Br.ok.gb ho (k := k) hk 28 rfl)
  have efr := h.frozen
  have HMz := Lib.hid (((Mut.refl (fun n => n = g) w).setCell (p := ⟨g, k * 89 + 28, none⟩) (.inl rfl) (.bool true)).alloc (.cells #[.pointer (some ⟨g, k * 89, none⟩), .pointer (some ⟨X, 0, none⟩), .int .i64 k] 68))
  have HBz := Lib.hid (BrG.alloc (h.setp (k := k) (j := 28) hk (by decide) (.bool true)) (.cells #[.pointer (some ⟨g, k * 89, none⟩), .pointer (some ⟨X, 0, none⟩), .int .i64 k] 68))
  have HPz := Lib.hid (heap_alloc_new (w.setCell ⟨g, k * 89 + 28, none⟩ (.bool true)) (.cells #[.pointer (some ⟨g, k * 89, none⟩), .pointer (some ⟨X, 0, none⟩), .int .i64 k] 68))
  have HZ0 := Lib.hid (show w.heap.size < ((w.setCell ⟨g, k * 89 + 28, none⟩ (.bool true)).alloc (.cells #[.pointer (some ⟨g, k * 89, none⟩), .pointer (some ⟨X, 0, none⟩), .int .i64 k] 68)).heap.size by simp)
  have okz : Br.ok (B.setp k 28 (.bool true)) := (ho.setB (k := k) hk 28 true rfl)
  clear h
  unfold placeV
  go_enter Try.func72, Try.ntmps72
  go_wp2_with fail
  clear e28 efr
  have HZ1 := Lib.hid (show (w.setCell ⟨g, k * 89 + 28, none⟩ (.bool true)).heap.size = w.heap.size by simp)
  generalize hwz : ((w.setCell ⟨g, k * 89 + 28, none⟩ (.bool true)).alloc (.cells #[.pointer (some ⟨g, k * 89, none⟩), .pointer (some ⟨X, 0, none⟩), .int .i64 k] 68)) = wz at *
  clear hwz
  obtain ⟨b0, hb00⟩ : ∃ b, w.heap.size = b := ⟨_, rfl⟩
  have hPz := HPz.out
  rw [HZ1.out, hb00] at hPz
  have HPz := Lib.hid hPz
  clear hPz HZ1
  rw [hb00] at HZ0 hbg hbX ⊢
  clear hb00
  have hb0 := HZ0.out
  have c0 : wz.cell? ⟨b0, 0, none⟩ = some (.pointer (some ⟨g, k * 89, none⟩)) := (cell_of_row _ _ _ _ _ _ HPz.out).trans rfl
  have c1 : wz.cell? ⟨b0, 1, none⟩ = some (.pointer (some ⟨X, 0, none⟩)) := (cell_of_row _ _ _ _ _ _ HPz.out).trans rfl
  have c2 : wz.cell? ⟨b0, 2, none⟩ = some (.int .i64 k) := (cell_of_row _ _ _ _ _ _ HPz.out).trans rfl
  have hgz : g < wz.heap.size := HBz.out.lt.2.1
  have hXz : X < wz.heap.size := HBz.out.lt.1
  refine beginL (S := fun W' => Mut (fun n => n = g) wz W') (by kernel_rfl) ?_
  intro wd hqx
  have hq0 : Mut (fun n => n = g) wz wd := hqx.mut _
  refine takeL (i := 0) (v := (.pointer (some ⟨b0, 0, none⟩))) rfl (by kernel_rfl) (by kernel_rfl) (by kernel_rfl) (fun _ _ _ h => h) (Or.inl ⟨rfl, fun _ _ => rfl⟩) hq0 ?_
  simp only [Act.put, List.setIfInBounds_toArray, List.set_cons_zero, List.set_cons_succ]
  refine takeL (i := 1) (v := _) rfl (by kernel_rfl) (by kernel_rfl) (by kernel_rfl) (fun _ _ _ h => h) (yieldsIf_cell rfl 56 _ rfl ⟨b0, 0, none⟩ rfl (.pointer (some ⟨g, k * 89, none⟩)) _ (fun W' hW' => (hW'.cell (p := ⟨b0, 0, none⟩) hb0 hbg).trans c0) Try.underlying56 rfl) hq0 ?_
  simp only [Act.put, List.setIfInBounds_toArray, List.set_cons_zero, List.set_cons_succ]
  refine takeL (i := 2) (v := _) rfl (by kernel_rfl) (by kernel_rfl) (by kernel_rfl) (fun _ _ _ h => h) (yieldsIf_rowS rfl 68 _ rfl b0 rfl #[.pointer (some ⟨g, k * 89, none⟩), .pointer (some ⟨X, 0, none⟩), .int .i64 k] _ _ (fun W' hW' => (hW'.heap hb0 hbg).trans HPz.out) Try.underlying68 rfl size_place) hq0 ?_
  simp only [Act.put, List.setIfInBounds_toArray, List.set_cons_zero, List.set_cons_succ]
  refine runL (i := 3) rfl rfl (by kernel_rfl) (fun K hK => ?_)
  go_simp
  refine (tr_forwardDelay wd F X g k (B.setp k 28 (.bool true)) (HBz.out.ext hqx) okz hk).mono ?_
  rintro e wc1 ⟨he, hx⟩
  rw [trWait_set (by decide)] at he
  obtain rfl : e = .returned (.int .i64 (trWait B k)) := he
  have hq1 := hq0.trans (hx.mut _)
  have HBd := Lib.hid (HBz.out.ext (hqx.trans hx))
  have e7 := (HBd.out.cellg (i := k * 89 + 7) (lt89 hk (by decide))).trans (Br.ok.gi okz (k := k) hk 7 rfl)
  have efr := HBd.out.frozen
  refine hK.out _ _ hq1 (fun hHeld => ?_)
  try simp only [Act.put, List.setIfInBounds_toArray, List.set_cons_zero, List.set_cons_succ]
  clear hK K hHeld
  refine takeL (i := 4) (v := (.pointer (some ⟨g, k * 89, none⟩))) rfl (by kernel_rfl) (by kernel_rfl) (by kernel_rfl) (fun _ _ _ h => h) (Or.inl ⟨rfl, fun _ _ => rfl⟩) hq1 ?_
  simp only [Act.put, List.setIfInBounds_toArray, List.set_cons_zero, List.set_cons_succ]
  refine takeL (i := 5) (v := (.pointer (some ⟨g, k * 89 + 6, none⟩))) rfl (by kernel_rfl) (by kernel_rfl) (by kernel_rfl) (fun _ _ _ h => h) (Or.inl ⟨rfl, fun _ _ => rfl⟩) hq1 ?_
  simp only [Act.put, List.setIfInBounds_toArray, List.set_cons_zero, List.set_cons_succ]
  refine takeL (i := 6) (v := (.pointer (some ⟨g, k * 89 + 7, none⟩))) rfl (by kernel_rfl) (by kernel_rfl) (by kernel_rfl) (fun _ _ _ h => h) (Or.inl ⟨rfl, fun _ _ => rfl⟩) hq1 ?_
  simp only [Act.put, List.setIfInBounds_toArray, List.set_cons_zero, List.set_cons_succ]
  refine runL (i := 7) rfl rfl (by kernel_rfl) (fun K hK => ?_)
  go_simp
  have hq2 := hq1.setCell (p := ⟨g, k * 89 + 7, none⟩) (.inl rfl) (.int .i64 (trWait B k))
  refine hK.out _ _ hq2 (fun hHeld => ?_)
  try simp only [Act.put, List.setIfInBounds_toArray, List.set_cons_zero, List.set_cons_succ]
  clear hK K hHeld
  refine wpAnyH_done (by kernel_rfl) ?_ _
  go_wp2_with fail
  go_end0
  exact ⟨rfl, (HBd.out.setp (k := k) (j := 7) hk (by decide) (.int .i64 (trWait B k))), HMz.out.trans hq2⟩

theorem tr_retire (w : World) (F : Nat → Prop) (X g k : Nat) (B : Br) (h : BrG w F X g B) (ho : B.ok) (hk : k < B.np) : Calls Try.prog 85 #[placeV g k X] w fun e w' => e = .returned (.tuple #[]) ∧ BrG w' F X g ((((B.setp k 28 (.bool false)).setp k 26 (.bool false)).setp k 24 (.bool false)).setp k 7 (.int .i64 (trWait B k))) ∧ Mut (fun n => n = g) w w' := by
  obtain ⟨hX, hg, hne⟩ := h.lt
  have hbg : ¬ w.heap.size = g := by omega
  have hbX : ¬ w.heap.size = X := by omega
  have hXg : ¬ X = g := hne
  have hFg := h.F2
  have e28 := (h.cellg (i := k * 89 + 28) (lt89 hk (by decide))).trans (Br.ok.gb ho (k := k) hk 28 rfl)
  have e26 := (h.cellg (i := k * 89 + 26) (lt89 hk (by decide))).trans (Br.ok.gb ho (k := k) hk 26 rfl)
  have e24 := (h.cellg (i := k * 89 + 24) (lt89 hk (by decide))).trans (Br.ok.gb ho (k := k) hk 24 rfl)
  have efr := h.frozen
  have HMz := Lib.hid (((((Mut.refl (fun n => n = g) w).setCell (p := ⟨g, k * 89 + 28, none⟩) (.inl rfl) (.bool false)).setCell (p := ⟨g, k * 89 + 26, none⟩) (.inl rfl) (.bool false)).setCell (p := ⟨g, k * 89 + 24, none⟩) (.inl rfl) (.bool false)).alloc (.cells #[.pointer (some ⟨g, k * 89, none⟩), .pointer (some ⟨X, 0, none⟩), .int .i64 k] 68))
  have HBz := Lib.hid (BrG.alloc (((h.setp (k := k) (j := 28) hk (by decide) (.bool false)).setp (k := k) (j := 26) hk (by decide) (.bool false)).setp (k := k) (j := 24) hk (by decide) (.bool false)) (.cells #[.pointer (some ⟨g, k * 89, none⟩), .pointer (some ⟨X, 0, none⟩), .int .i64 k] 68))
  have HPz := Lib.hid (heap_alloc_new (((w.setCell ⟨g, k * 89 + 28, none⟩ (.bool false)).setCell ⟨g, k * 89 + 26, none⟩ (.bool false)).setCell ⟨g, k * 89 + 24, none⟩ (.bool false)) (.cells #[.pointer (some ⟨g, k * 89, none⟩), .pointer (some ⟨X, 0, none⟩), .int .i64 k] 68))
  have HZ0 := Lib.hid (show w.heap.size < ((((w.setCell ⟨g, k * 89 + 28, none⟩ (.bool false)).setCell ⟨g, k * 89 + 26, none⟩ (.bool false)).setCell ⟨g, k * 89 + 24, none⟩ (.bool false)).alloc (.cells #[.pointer (some ⟨g, k * 89, none⟩), .pointer (some ⟨X, 0, none⟩), .int .i64 k] 68)).heap.size by simp)
  have okz : Br.ok (((B.setp k 28 (.bool false)).setp k 26 (.bool false)).setp k 24 (.bool false)) := (((ho.setB (k := k) hk 28 false rfl).setB (k := k) hk 26 false rfl).setB (k := k) hk 24 false rfl)
  clear h
  unfold placeV
  go_enter Try.func85, Try.ntmps85
  go_wp2_with fail
  clear e28 e26 e24 efr
  have HZ1 := Lib.hid (show (((w.setCell ⟨g, k * 89 + 28, none⟩ (.bool false)).setCell ⟨g, k * 89 + 26, none⟩ (.bool false)).setCell ⟨g, k * 89 + 24, none⟩ (.bool false)).heap.size = w.heap.size by simp)
  generalize hwz : ((((w.setCell ⟨g, k * 89 + 28, none⟩ (.bool false)).setCell ⟨g, k * 89 + 26, none⟩ (.bool false)).setCell ⟨g, k * 89 + 24, none⟩ (.bool false)).alloc (.cells #[.pointer (some ⟨g, k * 89, none⟩), .pointer (some ⟨X, 0, none⟩), .int .i64 k] 68)) = wz at *
  clear hwz
  obtain ⟨b0, hb00⟩ : ∃ b, w.heap.size = b := ⟨_, rfl⟩
  have hPz := HPz.out
  rw [HZ1.out, hb00] at hPz
  have HPz := Lib.hid hPz
  clear hPz HZ1
  rw [hb00] at HZ0 hbg hbX ⊢
  clear hb00
  have hb0 := HZ0.out
  have c0 : wz.cell? ⟨b0, 0, none⟩ = some (.pointer (some ⟨g, k * 89, none⟩)) := (cell_of_row _ _ _ _ _ _ HPz.out).trans rfl
  have c1 : wz.cell? ⟨b0, 1, none⟩ = some (.pointer (some ⟨X, 0, none⟩)) := (cell_of_row _ _ _ _ _ _ HPz.out).trans rfl
  have c2 : wz.cell? ⟨b0, 2, none⟩ = some (.int .i64 k) := (cell_of_row _ _ _ _ _ _ HPz.out).trans rfl
  have hgz : g < wz.heap.size := HBz.out.lt.2.1
  have hXz : X < wz.heap.size := HBz.out.lt.1
  refine beginL (S := fun W' => Mut (fun n => n = g) wz W') (by kernel_rfl) ?_
  intro wd hqx
  have hq0 : Mut (fun n => n = g) wz wd := hqx.mut _
  refine takeL (i := 0) (v := (.pointer (some ⟨b0, 0, none⟩))) rfl (by kernel_rfl) (by kernel_rfl) (by kernel_rfl) (fun _ _ _ h => h) (Or.inl ⟨rfl, fun _ _ => rfl⟩) hq0 ?_
  simp only [Act.put, List.setIfInBounds_toArray, List.set_cons_zero, List.set_cons_succ]
  refine takeL (i := 1) (v := _) rfl (by kernel_rfl) (by kernel_rfl) (by kernel_rfl) (fun _ _ _ h => h) (yieldsIf_cell rfl 56 _ rfl ⟨b0, 0, none⟩ rfl (.pointer (some ⟨g, k * 89, none⟩)) _ (fun W' hW' => (hW'.cell (p := ⟨b0, 0, none⟩) hb0 hbg).trans c0) Try.underlying56 rfl) hq0 ?_
  simp only [Act.put, List.setIfInBounds_toArray, List.set_cons_zero, List.set_cons_succ]
  refine takeL (i := 2) (v := _) rfl (by kernel_rfl) (by kernel_rfl) (by kernel_rfl) (fun _ _ _ h => h) (yieldsIf_rowS rfl 68 _ rfl b0 rfl #[.pointer (some ⟨g, k * 89, none⟩), .pointer (some ⟨X, 0, none⟩), .int .i64 k] _ _ (fun W' hW' => (hW'.heap hb0 hbg).trans HPz.out) Try.underlying68 rfl size_place) hq0 ?_
  simp only [Act.put, List.setIfInBounds_toArray, List.set_cons_zero, List.set_cons_succ]
  refine runL (i := 3) rfl rfl (by kernel_rfl) (fun K hK => ?_)
  go_simp
  refine (tr_forwardDelay wd F X g k (((B.setp k 28 (.bool false)).setp k 26 (.bool false)).setp k 24 (.bool false)) (HBz.out.ext hqx) okz hk).mono ?_
  rintro e wc1 ⟨he, hx⟩
  rw [trWait_set (by decide), trWait_set (by decide), trWait_set (by decide)] at he
  obtain rfl : e = .returned (.int .i64 (trWait B k)) := he
  have hq1 := hq0.trans (hx.mut _)
  have HBd := Lib.hid (HBz.out.ext (hqx.trans hx))
  have e7 := (HBd.out.cellg (i := k * 89 + 7) (lt89 hk (by decide))).trans (Br.ok.gi okz (k := k) hk 7 rfl)
  have efr := HBd.out.frozen
  refine hK.out _ _ hq1 (fun hHeld => ?_)
  try simp only [Act.put, List.setIfInBounds_toArray, List.set_cons_zero, List.set_cons_succ]
  clear hK K hHeld
  refine takeL (i := 4) (v := (.pointer (some ⟨g, k * 89, none⟩))) rfl (by kernel_rfl) (by kernel_rfl) (by kernel_rfl) (fun _ _ _ h => h) (Or.inl ⟨rfl, fun _ _ => rfl⟩) hq1 ?_
  simp only [Act.put, List.setIfInBounds_toArray, List.set_cons_zero, List.set_cons_succ]
  refine takeL (i := 5) (v := (.pointer (some ⟨g, k * 89 + 6, none⟩))) rfl (by kernel_rfl) (by kernel_rfl) (by kernel_rfl) (fun _ _ _ h => h) (Or.inl ⟨rfl, fun _ _ => rfl⟩) hq1 ?_
  simp only [Act.put, List.setIfInBounds_toArray, List.set_cons_zero, List.set_cons_succ]
  refine takeL (i := 6) (v := (.pointer (some ⟨g, k * 89 + 7, none⟩))) rfl (by kernel_rfl) (by kernel_rfl) (by kernel_rfl) (fun _ _ _ h => h) (Or.inl ⟨rfl, fun _ _ => rfl⟩) hq1 ?_
  simp only [Act.put, List.setIfInBounds_toArray, List.set_cons_zero, List.set_cons_succ]
  refine runL (i := 7) rfl rfl (by kernel_rfl) (fun K hK => ?_)
  go_simp
  have hq2 := hq1.setCell (p := ⟨g, k * 89 + 7, none⟩) (.inl rfl) (.int .i64 (trWait B k))
  refine hK.out _ _ hq2 (fun hHeld => ?_)
  try simp only [Act.put, List.setIfInBounds_toArray, List.set_cons_zero, List.set_cons_succ]
  clear hK K hHeld
  refine wpAnyH_done (by kernel_rfl) ?_ _
  go_wp2_with fail
  go_end0
  exact ⟨rfl, (HBd.out.setp (k := k) (j := 7) hk (by decide) (.int .i64 (trWait B k))), HMz.out.trans hq2⟩

theorem tr_sync (w : World) (F : Nat → Prop) (X g k : Nat) (B : Br) (h : BrG w F X g B) (ho : B.ok) (hk : k < B.np) : Calls Try.prog 82 #[placeV g k X] w fun e w' => e = .returned (.tuple #[]) ∧ BrG w' F X g ((((B.setp k 12 (.int .i64 0)).setp k 47 (.bool true)).setp k 46 (.bool false))) ∧ Mut (fun n => n = g) w w' := by
  obtain ⟨hX, hg, hne⟩ := h.lt
  have hbg : ¬ w.heap.size = g := by omega
  have hbX : ¬ w.heap.size = X := by omega
  have hXg : ¬ X = g := hne
  have hFg := h.F2
  have e12 := (h.cellg (i := k * 89 + 12) (lt89 hk (by decide))).trans (Br.ok.gi ho (k := k) hk 12 rfl)
  have efr := h.frozen
  have HMz := Lib.hid (((Mut.refl (fun n => n = g) w).setCell (p := ⟨g, k * 89 + 12, none⟩) (.inl rfl) (.int .i64 0)).alloc (.cells #[.pointer (some ⟨g, k * 89, none⟩), .pointer (some ⟨X, 0, none⟩), .int .i64 k] 68))
  have HBz := Lib.hid (BrG.alloc (h.setp (k := k) (j := 12) hk (by decide) (.int .i64 0)) (.cells #[.pointer (some ⟨g, k * 89, none⟩), .pointer (some ⟨X, 0, none⟩), .int .i64 k] 68))
  have HPz := Lib.hid (heap_alloc_new (w.setCell ⟨g, k * 89 + 12, none⟩ (.int .i64 0)) (.cells #[.pointer (some ⟨g, k * 89, none⟩), .pointer (some ⟨X, 0, none⟩), .int .i64 k] 68))
  have HZ0 := Lib.hid (show w.heap.size < ((w.setCell ⟨g, k * 89 + 12, none⟩ (.int .i64 0)).alloc (.cells #[.pointer (some ⟨g, k * 89, none⟩), .pointer (some ⟨X, 0, none⟩), .int .i64 k] 68)).heap.size by simp)
  have okz : Br.ok (B.setp k 12 (.int .i64 0)) := (ho.setI (k := k) hk 12 .i64 0 rfl (by decide))
  clear h
  unfold placeV
  go_enter Try.func82, Try.ntmps82
  go_wp2_with fail
  clear e12 efr
  have HZ1 := Lib.hid (show (w.setCell ⟨g, k * 89 + 12, none⟩ (.int .i64 0)).heap.size = w.heap.size by simp)
  generalize hwz : ((w.setCell ⟨g, k * 89 + 12, none⟩ (.int .i64 0)).alloc (.cells #[.pointer (some ⟨g, k * 89, none⟩), .pointer (some ⟨X, 0, none⟩), .int .i64 k] 68)) = wz at *
  clear hwz
  obtain ⟨b0, hb00⟩ : ∃ b, w.heap.size = b := ⟨_, rfl⟩
  have hPz := HPz.out
  rw [HZ1.out, hb00] at hPz
  have HPz := Lib.hid hPz
  clear hPz HZ1
  rw [hb00] at HZ0 hbg hbX ⊢
  clear hb00
  have hb0 := HZ0.out
  have c0 : wz.cell? ⟨b0, 0, none⟩ = some (.pointer (some ⟨g, k * 89, none⟩)) := (cell_of_row _ _ _ _ _ _ HPz.out).trans rfl
  have c1 : wz.cell? ⟨b0, 1, none⟩ = some (.pointer (some ⟨X, 0, none⟩)) := (cell_of_row _ _ _ _ _ _ HPz.out).trans rfl
  have c2 : wz.cell? ⟨b0, 2, none⟩ = some (.int .i64 k) := (cell_of_row _ _ _ _ _ _ HPz.out).trans rfl
  have hgz : g < wz.heap.size := HBz.out.lt.2.1
  have hXz : X < wz.heap.size := HBz.out.lt.1
  refine beginL (S := fun W' => Mut (fun n => n = g) wz W') (by kernel_rfl) ?_
  intro wd hqx
  have hq0 : Mut (fun n => n = g) wz wd := hqx.mut _
  have HBd := Lib.hid (HBz.out.ext hqx)
  have e47 := (HBd.out.cellg (i := k * 89 + 47) (lt89 hk (by decide))).trans (Br.ok.gb okz (k := k) hk 47 rfl)
  have e46 := (HBd.out.cellg (i := k * 89 + 46) (lt89 hk (by decide))).trans (Br.ok.gb okz (k := k) hk 46 rfl)
  have efr := HBd.out.frozen
  refine takeL (i := 0) (v := (.pointer (some ⟨b0, 0, none⟩))) rfl (by kernel_rfl) (by kernel_rfl) (by kernel_rfl) (fun _ _ _ h => h) (Or.inl ⟨rfl, fun _ _ => rfl⟩) hq0 ?_
  simp only [Act.put, List.setIfInBounds_toArray, List.set_cons_zero, List.set_cons_succ]
  refine takeL (i := 1) (v := _) rfl (by kernel_rfl) (by kernel_rfl) (by kernel_rfl) (fun _ _ _ h => h) (yieldsIf_cell rfl 56 _ rfl ⟨b0, 0, none⟩ rfl (.pointer (some ⟨g, k * 89, none⟩)) _ (fun W' hW' => (hW'.cell (p := ⟨b0, 0, none⟩) hb0 hbg).trans c0) Try.underlying56 rfl) hq0 ?_
  simp only [Act.put, List.setIfInBounds_toArray, List.set_cons_zero, List.set_cons_succ]
  refine takeL (i := 2) (v := (.pointer (some ⟨b0, 0, none⟩))) rfl (by kernel_rfl) (by kernel_rfl) (by kernel_rfl) (fun _ _ _ h => h) (Or.inl ⟨rfl, fun _ _ => rfl⟩) hq0 ?_
  simp only [Act.put, List.setIfInBounds_toArray, List.set_cons_zero, List.set_cons_succ]
  refine takeL (i := 3) (v := _) rfl (by kernel_rfl) (by kernel_rfl) (by kernel_rfl) (fun _ _ _ h => h) (yieldsIf_cell rfl 56 _ rfl ⟨b0, 0, none⟩ rfl (.pointer (some ⟨g, k * 89, none⟩)) _ (fun W' hW' => (hW'.cell (p := ⟨b0, 0, none⟩) hb0 hbg).trans c0) Try.underlying56 rfl) hq0 ?_
  simp only [Act.put, List.setIfInBounds_toArray, List.set_cons_zero, List.set_cons_succ]
  refine takeL (i := 4) (v := (.pointer (some ⟨g, k * 89, none⟩))) rfl (by kernel_rfl) (by kernel_rfl) (by kernel_rfl) (fun _ _ _ h => h) (Or.inl ⟨rfl, fun _ _ => rfl⟩) hq0 ?_
  simp only [Act.put, List.setIfInBounds_toArray, List.set_cons_zero, List.set_cons_succ]
  refine takeL (i := 5) (v := (.pointer (some ⟨g, k * 89 + 22, none⟩))) rfl (by kernel_rfl) (by kernel_rfl) (by kernel_rfl) (fun _ _ _ h => h) (Or.inl ⟨rfl, fun _ _ => rfl⟩) hq0 ?_
  simp only [Act.put, List.setIfInBounds_toArray, List.set_cons_zero, List.set_cons_succ]
  refine takeL (i := 6) (v := (.pointer (some ⟨g, k * 89 + 47, none⟩))) rfl (by kernel_rfl) (by kernel_rfl) (by kernel_rfl) (fun _ _ _ h => h) (Or.inl ⟨rfl, fun _ _ => rfl⟩) hq0 ?_
  simp only [Act.put, List.setIfInBounds_toArray, List.set_cons_zero, List.set_cons_succ]
  refine runL (i := 7) rfl rfl (by kernel_rfl) (fun K hK => ?_)
  go_simp
  have hq1 := hq0.setCell (p := ⟨g, k * 89 + 47, none⟩) (.inl rfl) (.bool true)
  refine hK.out _ _ hq1 (fun hHeld => ?_)
  try simp only [Act.put, List.setIfInBounds_toArray, List.set_cons_zero, List.set_cons_succ]
  clear hK K hHeld
  refine takeL (i := 8) (v := (.pointer (some ⟨g, k * 89, none⟩))) rfl (by kernel_rfl) (by kernel_rfl) (by kernel_rfl) (fun _ _ _ h => h) (Or.inl ⟨rfl, fun _ _ => rfl⟩) hq1 ?_
  simp only [Act.put, List.setIfInBounds_toArray, List.set_cons_zero, List.set_cons_succ]
  refine takeL (i := 9) (v := (.pointer (some ⟨g, k * 89 + 22, none⟩))) rfl (by kernel_rfl) (by kernel_rfl) (by kernel_rfl) (fun _ _ _ h => h) (Or.inl ⟨rfl, fun _ _ => rfl⟩) hq1 ?_
  simp only [Act.put, List.setIfInBounds_toArray, List.set_cons_zero, List.set_cons_succ]
  refine takeL (i := 10) (v := (.pointer (some ⟨g, k * 89 + 46, none⟩))) rfl (by kernel_rfl) (by kernel_rfl) (by kernel_rfl) (fun _ _ _ h => h) (Or.inl ⟨rfl, fun _ _ => rfl⟩) hq1 ?_
  simp only [Act.put, List.setIfInBounds_toArray, List.set_cons_zero, List.set_cons_succ]
  refine runL (i := 11) rfl rfl (by kernel_rfl) (fun K hK => ?_)
  go_simp
  have hq2 := hq1.setCell (p := ⟨g, k * 89 + 46, none⟩) (.inl rfl) (.bool false)
  refine hK.out _ _ hq2 (fun hHeld => ?_)
  try simp only [Act.put, List.setIfInBounds_toArray, List.set_cons_zero, List.set_cons_succ]
  clear hK K hHeld
  refine wpAnyH_done (by kernel_rfl) ?_ _
  go_wp2_with fail
  go_end0
  exact ⟨rfl, ((HBd.out.setp (k := k) (j := 47) hk (by decide) (.bool true)).setp (k := k) (j := 46) hk (by decide) (.bool false)), HMz.out.trans hq2⟩

theorem tr_propose (w : World) (F : Nat → Prop) (X g k : Nat) (B : Br) (h : BrG w F X g B) (ho : B.ok) (hk : k < B.np) : Calls Try.prog 80 #[placeV g k X] w fun e w' => e = .returned (.tuple #[]) ∧ BrG w' F X g ((((B.setp k 34 (.bool true)).setp k 31 (.bool true)).setp k 6 (.int .i64 (trEd B k)))) ∧ Mut (fun n => n = g) w w' := by
  obtain ⟨hX, hg, hne⟩ := h.lt
  have hbg : ¬ w.heap.size = g := by omega
  have hbX : ¬ w.heap.size = X := by omega
  have hXg : ¬ X = g := hne
  have hFg := h.F2
  have HMz := Lib.hid ((Mut.refl (fun n => n = g) w).alloc (.cells #[.pointer (some ⟨g, k * 89, none⟩), .pointer (some ⟨X, 0, none⟩), .int .i64 k] 68))
  have HBz := Lib.hid (BrG.alloc h (.cells #[.pointer (some ⟨g, k * 89, none⟩), .pointer (some ⟨X, 0, none⟩), .int .i64 k] 68))
  have HPz := Lib.hid (heap_alloc_new w (.cells #[.pointer (some ⟨g, k * 89, none⟩), .pointer (some ⟨X, 0, none⟩), .int .i64 k] 68))
  have HZ0 := Lib.hid (show w.heap.size < (w.alloc (.cells #[.pointer (some ⟨g, k * 89, none⟩), .pointer (some ⟨X, 0, none⟩), .int .i64 k] 68)).heap.size by simp)
  have okz : Br.ok B := ho
  clear h
  unfold placeV
  go_enter Try.func80, Try.ntmps80
  go_wp2_with fail
  have HZ1 := Lib.hid (show w.heap.size = w.heap.size by simp)
  generalize hwz : (w.alloc (.cells #[.pointer (some ⟨g, k * 89, none⟩), .pointer (some ⟨X, 0, none⟩), .int .i64 k] 68)) = wz at *
  clear hwz
  obtain ⟨b0, hb00⟩ : ∃ b, w.heap.size = b := ⟨_, rfl⟩
  have hPz := HPz.out
  rw [HZ1.out, hb00] at hPz
  have HPz := Lib.hid hPz
  clear hPz HZ1
  rw [hb00] at HZ0 hbg hbX ⊢
  clear hb00
  have hb0 := HZ0.out
  have c0 : wz.cell? ⟨b0, 0, none⟩ = some (.pointer (some ⟨g, k * 89, none⟩)) := (cell_of_row _ _ _ _ _ _ HPz.out).trans rfl
  have c1 : wz.cell? ⟨b0, 1, none⟩ = some (.pointer (some ⟨X, 0, none⟩)) := (cell_of_row _ _ _ _ _ _ HPz.out).trans rfl
  have c2 : wz.cell? ⟨b0, 2, none⟩ = some (.int .i64 k) := (cell_of_row _ _ _ _ _ _ HPz.out).trans rfl
  have hgz : g < wz.heap.size := HBz.out.lt.2.1
  have hXz : X < wz.heap.size := HBz.out.lt.1
  refine beginL (S := fun W' => Mut (fun n => n = g) wz W') (by kernel_rfl) ?_
  intro wd hqx
  have hq0 : Mut (fun n => n = g) wz wd := hqx.mut _
  have HBd := Lib.hid (HBz.out.ext hqx)
  have e34 := (HBd.out.cellg (i := k * 89 + 34) (lt89 hk (by decide))).trans (Br.ok.gb ho (k := k) hk 34 rfl)
  have e31 := (HBd.out.cellg (i := k * 89 + 31) (lt89 hk (by decide))).trans (Br.ok.gb ho (k := k) hk 31 rfl)
  have efr := HBd.out.frozen
  refine takeL (i := 0) (v := (.pointer (some ⟨b0, 0, none⟩))) rfl (by kernel_rfl) (by kernel_rfl) (by kernel_rfl) (fun _ _ _ h => h) (Or.inl ⟨rfl, fun _ _ => rfl⟩) hq0 ?_
  simp only [Act.put, List.setIfInBounds_toArray, List.set_cons_zero, List.set_cons_succ]
  refine takeL (i := 1) (v := _) rfl (by kernel_rfl) (by kernel_rfl) (by kernel_rfl) (fun _ _ _ h => h) (yieldsIf_cell rfl 56 _ rfl ⟨b0, 0, none⟩ rfl (.pointer (some ⟨g, k * 89, none⟩)) _ (fun W' hW' => (hW'.cell (p := ⟨b0, 0, none⟩) hb0 hbg).trans c0) Try.underlying56 rfl) hq0 ?_
  simp only [Act.put, List.setIfInBounds_toArray, List.set_cons_zero, List.set_cons_succ]
  refine takeL (i := 2) (v := (.pointer (some ⟨b0, 0, none⟩))) rfl (by kernel_rfl) (by kernel_rfl) (by kernel_rfl) (fun _ _ _ h => h) (Or.inl ⟨rfl, fun _ _ => rfl⟩) hq0 ?_
  simp only [Act.put, List.setIfInBounds_toArray, List.set_cons_zero, List.set_cons_succ]
  refine takeL (i := 3) (v := _) rfl (by kernel_rfl) (by kernel_rfl) (by kernel_rfl) (fun _ _ _ h => h) (yieldsIf_cell rfl 56 _ rfl ⟨b0, 0, none⟩ rfl (.pointer (some ⟨g, k * 89, none⟩)) _ (fun W' hW' => (hW'.cell (p := ⟨b0, 0, none⟩) hb0 hbg).trans c0) Try.underlying56 rfl) hq0 ?_
  simp only [Act.put, List.setIfInBounds_toArray, List.set_cons_zero, List.set_cons_succ]
  refine takeL (i := 4) (v := (.pointer (some ⟨g, k * 89, none⟩))) rfl (by kernel_rfl) (by kernel_rfl) (by kernel_rfl) (fun _ _ _ h => h) (Or.inl ⟨rfl, fun _ _ => rfl⟩) hq0 ?_
  simp only [Act.put, List.setIfInBounds_toArray, List.set_cons_zero, List.set_cons_succ]
  refine takeL (i := 5) (v := (.pointer (some ⟨g, k * 89 + 22, none⟩))) rfl (by kernel_rfl) (by kernel_rfl) (by kernel_rfl) (fun _ _ _ h => h) (Or.inl ⟨rfl, fun _ _ => rfl⟩) hq0 ?_
  simp only [Act.put, List.setIfInBounds_toArray, List.set_cons_zero, List.set_cons_succ]
  refine takeL (i := 6) (v := (.pointer (some ⟨g, k * 89 + 34, none⟩))) rfl (by kernel_rfl) (by kernel_rfl) (by kernel_rfl) (fun _ _ _ h => h) (Or.inl ⟨rfl, fun _ _ => rfl⟩) hq0 ?_
  simp only [Act.put, List.setIfInBounds_toArray, List.set_cons_zero, List.set_cons_succ]
  refine runL (i := 7) rfl rfl (by kernel_rfl) (fun K hK => ?_)
  go_simp
  have hq1 := hq0.setCell (p := ⟨g, k * 89 + 34, none⟩) (.inl rfl) (.bool true)
  refine hK.out _ _ hq1 (fun hHeld => ?_)
  try simp only [Act.put, List.setIfInBounds_toArray, List.set_cons_zero, List.set_cons_succ]
  clear hK K hHeld
  refine takeL (i := 8) (v := (.pointer (some ⟨g, k * 89, none⟩))) rfl (by kernel_rfl) (by kernel_rfl) (by kernel_rfl) (fun _ _ _ h => h) (Or.inl ⟨rfl, fun _ _ => rfl⟩) hq1 ?_
  simp only [Act.put, List.setIfInBounds_toArray, List.set_cons_zero, List.set_cons_succ]
  refine takeL (i := 9) (v := (.pointer (some ⟨g, k * 89 + 22, none⟩))) rfl (by kernel_rfl) (by kernel_rfl) (by kernel_rfl) (fun _ _ _ h => h) (Or.inl ⟨rfl, fun _ _ => rfl⟩) hq1 ?_
  simp only [Act.put, List.setIfInBounds_toArray, List.set_cons_zero, List.set_cons_succ]
  refine takeL (i := 10) (v := (.pointer (some ⟨g, k * 89 + 31, none⟩))) rfl (by kernel_rfl) (by kernel_rfl) (by kernel_rfl) (fun _ _ _ h => h) (Or.inl ⟨rfl, fun _ _ => rfl⟩) hq1 ?_
  simp only [Act.put, List.setIfInBounds_toArray, List.set_cons_zero, List.set_cons_succ]
  refine runL (i := 11) rfl rfl (by kernel_rfl) (fun K hK => ?_)
  go_simp
  have hq2 := hq1.setCell (p := ⟨g, k * 89 + 31, none⟩) (.inl rfl) (.bool true)
  refine hK.out _ _ hq2 (fun hHeld => ?_)
  try simp only [Act.put, List.setIfInBounds_toArray, List.set_cons_zero, List.set_cons_succ]
  clear hK K hHeld
  refine wpAnyH_done (by kernel_rfl) ?_ _
  have HMz2 := Lib.hid (HMz.out.trans hq2)
  have HPz2 := Lib.hid ((hq2.heap hb0 hbg).trans HPz.out)
  have HZ2 := Lib.hid (Nat.lt_of_lt_of_le hb0 hq2.size)
  have HBz2 := Lib.hid ((HBd.out.setp (k := k) (j := 34) hk (by decide) (.bool true)).setp (k := k) (j := 31) hk (by decide) (.bool true))
  clear HMz HPz HZ0 HBz okz c0 c1 c2 hgz hXz hb0 hqx hq0 hq1 hq2 e34 e31 efr HBd
  have HMz := HMz2
  have HPz := HPz2
  have HZ0 := HZ2
  have HBz := HBz2
  have okz : Br.ok ((B.setp k 34 (.bool true)).setp k 31 (.bool true)) := ((ho.setB (k := k) hk 34 true rfl).setB (k := k) hk 31 true rfl)
  clear HMz2 HPz2 HZ2 HBz2
  go_wp2_with fail
  generalize hwz : ((wd.setCell ⟨g, k * 89 + 34, none⟩ (.bool true)).setCell ⟨g, k * 89 + 31, none⟩ (.bool true)) = wz at *
  clear hwz
  have hb0 := HZ0.out
  have c0 : wz.cell? ⟨b0, 0, none⟩ = some (.pointer (some ⟨g, k * 89, none⟩)) := (cell_of_row _ _ _ _ _ _ HPz.out).trans rfl
  have c1 : wz.cell? ⟨b0, 1, none⟩ = some (.pointer (some ⟨X, 0, none⟩)) := (cell_of_row _ _ _ _ _ _ HPz.out).trans rfl
  have c2 : wz.cell? ⟨b0, 2, none⟩ = some (.int .i64 k) := (cell_of_row _ _ _ _ _ _ HPz.out).trans rfl
  have hgz : g < wz.heap.size := HBz.out.lt.2.1
  have hXz : X < wz.heap.size := HBz.out.lt.1
  obtain ⟨C, hC, hCb, hCz⟩ := HBz.out.br (show 0 < Br.np ((B.setp k 34 (.bool true)).setp k 31 (.bool true)) by show 0 < B.np; omega)
  have HC := Lib.hid hC
  have HCb := Lib.hid hCb
  have HCi := Lib.hid (show (Try.prog.info? 33).map (·.size) = some C.size by rw [hCz, okz.hd.1]; exact size_br)
  clear hC hCb hCz
  refine beginL (S := fun W' => Mut (fun n => n = g) wz W') (by kernel_rfl) ?_
  intro wd hqx
  have hq0 : Mut (fun n => n = g) wz wd := hqx.mut _
  refine takeL (i := 0) (v := (.pointer (some ⟨b0, 0, none⟩))) rfl (by kernel_rfl) (by kernel_rfl) (by kernel_rfl) (fun _ _ _ h => h) (Or.inl ⟨rfl, fun _ _ => rfl⟩) hq0 ?_
  simp only [Act.put, List.setIfInBounds_toArray, List.set_cons_zero, List.set_cons_succ]
  refine takeL (i := 1) (v := _) rfl (by kernel_rfl) (by kernel_rfl) (by kernel_rfl) (fun _ _ _ h => h) (yieldsIf_cell rfl 56 _ rfl ⟨b0, 0, none⟩ rfl (.pointer (some ⟨g, k * 89, none⟩)) _ (fun W' hW' => (hW'.cell (p := ⟨b0, 0, none⟩) hb0 hbg).trans c0) Try.underlying56 rfl) hq0 ?_
  simp only [Act.put, List.setIfInBounds_toArray, List.set_cons_zero, List.set_cons_succ]
  refine takeL (i := 2) (v := (.pointer (some ⟨b0, 1, none⟩))) rfl (by kernel_rfl) (by kernel_rfl) (by kernel_rfl) (fun _ _ _ h => h) (Or.inl ⟨rfl, fun _ _ => rfl⟩) hq0 ?_
  simp only [Act.put, List.setIfInBounds_toArray, List.set_cons_zero, List.set_cons_succ]
  refine takeL (i := 3) (v := _) rfl (by kernel_rfl) (by kernel_rfl) (by kernel_rfl) (fun _ _ _ h => h) (yieldsIf_cell rfl 39 _ rfl ⟨b0, 1, none⟩ rfl (.pointer (some ⟨X, 0, none⟩)) _ (fun W' hW' => (hW'.cell (p := ⟨b0, 1, none⟩) hb0 hbg).trans c1) Try.underlying39 rfl) hq0 ?_
  simp only [Act.put, List.setIfInBounds_toArray, List.set_cons_zero, List.set_cons_succ]
  refine takeL (i := 4) (v := (.pointer (some ⟨X, 0, none⟩))) rfl (by kernel_rfl) (by kernel_rfl) (by kernel_rfl) (fun _ _ _ h => h) (Or.inl ⟨rfl, fun _ _ => rfl⟩) hq0 ?_
  simp only [Act.put, List.setIfInBounds_toArray, List.set_cons_zero, List.set_cons_succ]
  refine takeL (i := 5) (v := _) rfl (by kernel_rfl) (by kernel_rfl) (by kernel_rfl) (fun _ _ _ h => h) (yieldsIf_rowS rfl 33 _ rfl X rfl C _ _ (fun W' hW' => (hW'.heap hXz hXg).trans HC.out) Try.underlying33 rfl HCi.out) hq0 ?_
  simp only [Act.put, List.setIfInBounds_toArray, List.set_cons_zero, List.set_cons_succ]
  refine takeL (i := 6) (v := (.pointer (some ⟨b0, 2, none⟩))) rfl (by kernel_rfl) (by kernel_rfl) (by kernel_rfl) (fun _ _ _ h => h) (Or.inl ⟨rfl, fun _ _ => rfl⟩) hq0 ?_
  simp only [Act.put, List.setIfInBounds_toArray, List.set_cons_zero, List.set_cons_succ]
  refine takeL (i := 7) (v := _) rfl (by kernel_rfl) (by kernel_rfl) (by kernel_rfl) (fun _ _ _ h => h) (yieldsIf_cell rfl 3 _ rfl ⟨b0, 2, none⟩ rfl (.int .i64 k) _ (fun W' hW' => (hW'.cell (p := ⟨b0, 2, none⟩) hb0 hbg).trans c2) Try.underlying3 rfl) hq0 ?_
  simp only [Act.put, List.setIfInBounds_toArray, List.set_cons_zero, List.set_cons_succ]
  refine runL (i := 8) rfl rfl (by kernel_rfl) (fun K hK => ?_)
  go_simp
  refine (cedel_any C ((B.setp k 34 (.bool true)).setp k 31 (.bool true)) k _ (HCb.out.ext hqx) okz hk).mono ?_
  rintro e wc1 ⟨he, hx⟩
  rw [gb_setp_ne _ _ _ _ _ (by decide), gb_setp_ne _ _ _ _ _ (by decide)] at he
  obtain rfl : e = .returned (.int .i64 (trEd B k)) := he
  have hq1 := hq0.trans (hx.mut _)
  have HBd := Lib.hid (HBz.out.ext (hqx.trans hx))
  have e6 := (HBd.out.cellg (i := k * 89 + 6) (lt89 hk (by decide))).trans (Br.ok.gi okz (k := k) hk 6 rfl)
  have efr := HBd.out.frozen
  refine hK.out _ _ hq1 (fun hHeld => ?_)
  try simp only [Act.put, List.setIfInBounds_toArray, List.set_cons_zero, List.set_cons_succ]
  clear hK K hHeld
  refine takeL (i := 9) (v := (.pointer (some ⟨g, k * 89, none⟩))) rfl (by kernel_rfl) (by kernel_rfl) (by kernel_rfl) (fun _ _ _ h => h) (Or.inl ⟨rfl, fun _ _ => rfl⟩) hq1 ?_
  simp only [Act.put, List.setIfInBounds_toArray, List.set_cons_zero, List.set_cons_succ]
  refine takeL (i := 10) (v := (.pointer (some ⟨g, k * 89 + 6, none⟩))) rfl (by kernel_rfl) (by kernel_rfl) (by kernel_rfl) (fun _ _ _ h => h) (Or.inl ⟨rfl, fun _ _ => rfl⟩) hq1 ?_
  simp only [Act.put, List.setIfInBounds_toArray, List.set_cons_zero, List.set_cons_succ]
  refine takeL (i := 11) (v := (.pointer (some ⟨g, k * 89 + 6, none⟩))) rfl (by kernel_rfl) (by kernel_rfl) (by kernel_rfl) (fun _ _ _ h => h) (Or.inl ⟨rfl, fun _ _ => rfl⟩) hq1 ?_
  simp only [Act.put, List.setIfInBounds_toArray, List.set_cons_zero, List.set_cons_succ]
  refine runL (i := 12) rfl rfl (by kernel_rfl) (fun K hK => ?_)
  go_simp
  have hq2 := hq1.setCell (p := ⟨g, k * 89 + 6, none⟩) (.inl rfl) (.int .i64 (trEd B k))
  refine hK.out _ _ hq2 (fun hHeld => ?_)
  try simp only [Act.put, List.setIfInBounds_toArray, List.set_cons_zero, List.set_cons_succ]
  clear hK K hHeld
  refine wpAnyH_done (by kernel_rfl) ?_ _
  go_wp2_with fail
  go_end0
  exact ⟨rfl, (HBd.out.setp (k := k) (j := 6) hk (by decide) (.int .i64 (trEd B k))), HMz.out.trans hq2⟩

end Go.Proofs.Ytnblchilgaimhaa
