/- Role transitions: tests of the rows of roots and of designated ports. No statement is proved here. -/
import Derived.Test.YtnblchilgaimhaaTrI
namespace Go.Proofs.Ytnblchilgaimhaa
open Go.RowKit Go.BigFrame Go.WideShapes Go.ChangeShapes Go.Deep
set_option linter.unusedVariables false
set_option linter.unusedSimpArgs false

theorem tr_rer (c : Array Value) (B : Br) (k : Nat) (w : World) (hb : BrC w c B) (ho : B.ok) : Calls Try.prog 30 #[.agg c, .int .i64 k] w fun e w' => e = .returned (.bool (trRer B k)) ∧ Ext w w' :=
  (rerooted_any c B k w hb ho).mono fun e w' ⟨f, he, hx, hf⟩ => ⟨by rw [he, show f = trRer B k from Bool.eq_iff_iff.2 (hf.trans (trRer_iff B k).symm)], hx⟩
theorem tr_alls (c : Array Value) (B : Br) (w : World) (hb : BrC w c B) (ho : B.ok) : Calls Try.prog 28 #[.agg c] w fun e w' => e = .returned (.bool (trAll B)) ∧ Ext w w' :=
  (allsynced_any c B w hb ho).mono fun e w' ⟨f, he, hx, hf⟩ => ⟨by rw [he, show f = trAll B from Bool.eq_iff_iff.2 (hf.trans (trAll_iff B).symm)], hx⟩

theorem tr_rootMay (w : World) (F : Nat → Prop) (X g k : Nat) (B : Br) (h : BrG w F X g B) (ho : B.ok) (hk : k < B.np) : Calls Try.prog 94 #[placeV g k X] w fun e w' => e = .returned (.bool (trMay B k)) ∧ Ext w w' := by
  obtain ⟨hX, hg, hne⟩ := h.lt
  have hEz := (Ext.refl w).alloc (.cells #[.pointer (some ⟨g, k * 89, none⟩), .pointer (some ⟨X, 0, none⟩), .int .i64 k] 68)
  have hBz := h.alloc (.cells #[.pointer (some ⟨g, k * 89, none⟩), .pointer (some ⟨X, 0, none⟩), .int .i64 k] 68)
  have hPz := heap_alloc_new w (.cells #[.pointer (some ⟨g, k * 89, none⟩), .pointer (some ⟨X, 0, none⟩), .int .i64 k] 68)
  have hb0 : w.heap.size < (w.alloc (.cells #[.pointer (some ⟨g, k * 89, none⟩), .pointer (some ⟨X, 0, none⟩), .int .i64 k] 68)).heap.size := by simp
  have hbg : w.heap.size ≠ g := by omega
  have hbX : w.heap.size ≠ X := by omega
  have HEz := Lib.hid hEz
  have HBz := Lib.hid hBz
  have HPz := Lib.hid hPz
  have HZ0 := Lib.hid hb0
  clear hEz hBz hPz hb0 h
  unfold placeV
  go_enter Try.func94, Try.ntmps94
  go_wp2_with fail
  generalize w.alloc (.cells #[.pointer (some ⟨g, k * 89, none⟩), .pointer (some ⟨X, 0, none⟩), .int .i64 k] 68) = wz at *
  obtain ⟨b0, hb00⟩ : ∃ b, w.heap.size = b := ⟨_, rfl⟩
  rw [hb00] at HPz HZ0 hbg hbX ⊢
  clear hb00
  have hb0 := HZ0.out
  have hBz := HBz.out
  have c0 : wz.cell? ⟨b0, 0, none⟩ = some (.pointer (some ⟨g, k * 89, none⟩)) := (cell_of_row _ _ _ _ _ _ HPz.out).trans rfl
  have c1 : wz.cell? ⟨b0, 1, none⟩ = some (.pointer (some ⟨X, 0, none⟩)) := (cell_of_row _ _ _ _ _ _ HPz.out).trans rfl
  have c2 : wz.cell? ⟨b0, 2, none⟩ = some (.int .i64 k) := (cell_of_row _ _ _ _ _ _ HPz.out).trans rfl
  have hgz : g < wz.heap.size := hBz.lt.2.1
  have hXz : X < wz.heap.size := hBz.lt.1
  have p7 := (hBz.cellg (i := k * 89 + 7) (lt89 hk (by decide))).trans (ho.gi hk 7 rfl)
  have p10 := (hBz.cellg (i := k * 89 + 10) (lt89 hk (by decide))).trans (ho.gi hk 10 rfl)
  have q1 := (hBz.cellX ho (i := 1) (by decide)).trans (ho.hb 1 rfl)
  obtain ⟨C, hC, hCb, hCz⟩ := hBz.br (by omega)
  have HC := Lib.hid hC
  have HCb := Lib.hid hCb
  have HCi := Lib.hid (show (Try.prog.info? 33).map (·.size) = some C.size by rw [hCz, ho.hd.1]; exact size_br)
  clear hC hCb hCz
  cases h7 : (B.gi k 7 == 0)
  · cases h1 : B.hb 1
    · rw [h1] at q1
      refine beginL (S := fun W' => Ext wz W') (by kernel_rfl) ?_
      intro wd hqx
      have hq0 : Ext wz wd := hqx
      refine takeL (i := 0) (v := (.pointer (some ⟨b0, 0, none⟩))) rfl (by kernel_rfl) (by kernel_rfl) (by kernel_rfl) (fun _ _ _ h => h) (Or.inl ⟨rfl, fun _ _ => rfl⟩) hq0 ?_
      simp only [Act.put, List.setIfInBounds_toArray, List.set_cons_zero, List.set_cons_succ]
      refine takeL (i := 1) (v := _) rfl (by kernel_rfl) (by kernel_rfl) (by kernel_rfl) (fun _ _ _ h => h) (yieldsIf_cell rfl 56 _ rfl ⟨b0, 0, none⟩ rfl (.pointer (some ⟨g, k * 89, none⟩)) _ (fun W' hW' => (hW'.cell (p := ⟨b0, 0, none⟩) hb0).trans c0) Try.underlying56 rfl) hq0 ?_
      simp only [Act.put, List.setIfInBounds_toArray, List.set_cons_zero, List.set_cons_succ]
      refine takeL (i := 2) (v := (.pointer (some ⟨g, k * 89, none⟩))) rfl (by kernel_rfl) (by kernel_rfl) (by kernel_rfl) (fun _ _ _ h => h) (Or.inl ⟨rfl, fun _ _ => rfl⟩) hq0 ?_
      simp only [Act.put, List.setIfInBounds_toArray, List.set_cons_zero, List.set_cons_succ]
      refine takeL (i := 3) (v := (.pointer (some ⟨g, k * 89 + 6, none⟩))) rfl (by kernel_rfl) (by kernel_rfl) (by kernel_rfl) (fun _ _ _ h => h) (Or.inl ⟨rfl, fun _ _ => rfl⟩) hq0 ?_
      simp only [Act.put, List.setIfInBounds_toArray, List.set_cons_zero, List.set_cons_succ]
      refine takeL (i := 4) (v := (.pointer (some ⟨g, k * 89 + 7, none⟩))) rfl (by kernel_rfl) (by kernel_rfl) (by kernel_rfl) (fun _ _ _ h => h) (Or.inl ⟨rfl, fun _ _ => rfl⟩) hq0 ?_
      simp only [Act.put, List.setIfInBounds_toArray, List.set_cons_zero, List.set_cons_succ]
      refine takeL (i := 5) (v := _) rfl (by kernel_rfl) (by kernel_rfl) (by kernel_rfl) (fun _ _ _ h => h) (yieldsIf_cell rfl 3 _ rfl ⟨g, k * 89 + 7, none⟩ rfl (.int .i64 (B.gi k 7)) _ (fun W' hW' => (hW'.cell (p := ⟨g, k * 89 + 7, none⟩) hgz).trans p7) Try.underlying3 rfl) hq0 ?_
      simp only [Act.put, List.setIfInBounds_toArray, List.set_cons_zero, List.set_cons_succ]
      refine takeL (i := 6) (v := (.bool false)) rfl (by kernel_rfl) (by kernel_rfl) (by kernel_rfl) (fun _ _ _ h => h) (Or.inl ⟨rfl, fun W' _ => by go_simp⟩) hq0 ?_
      simp only [Act.put, List.setIfInBounds_toArray, List.set_cons_zero, List.set_cons_succ]
      refine takeL (i := 7) (v := (.bool false)) rfl (by kernel_rfl) (by kernel_rfl) (by kernel_rfl) (fun _ _ _ h => h) (Or.inl ⟨rfl, fun _ _ => rfl⟩) hq0 ?_
      simp only [Act.put, List.setIfInBounds_toArray, List.set_cons_zero, List.set_cons_succ]
      refine takeL (i := 8) (v := (.pointer (some ⟨b0, 1, none⟩))) rfl (by kernel_rfl) (by kernel_rfl) (by kernel_rfl) (fun _ _ _ h => h) (Or.inl ⟨rfl, fun _ _ => rfl⟩) hq0 ?_
      simp only [Act.put, List.setIfInBounds_toArray, List.set_cons_zero, List.set_cons_succ]
      refine takeL (i := 9) (v := _) rfl (by kernel_rfl) (by kernel_rfl) (by kernel_rfl) (fun _ _ _ h => h) (yieldsIf_cell rfl 39 _ rfl ⟨b0, 1, none⟩ rfl (.pointer (some ⟨X, 0, none⟩)) _ (fun W' hW' => (hW'.cell (p := ⟨b0, 1, none⟩) hb0).trans c1) Try.underlying39 rfl) hq0 ?_
      simp only [Act.put, List.setIfInBounds_toArray, List.set_cons_zero, List.set_cons_succ]
      refine takeL (i := 10) (v := (.pointer (some ⟨X, 0, none⟩))) rfl (by kernel_rfl) (by kernel_rfl) (by kernel_rfl) (fun _ _ _ h => h) (Or.inl ⟨rfl, fun _ _ => rfl⟩) hq0 ?_
      simp only [Act.put, List.setIfInBounds_toArray, List.set_cons_zero, List.set_cons_succ]
      refine takeL (i := 11) (v := (.pointer (some ⟨X, 1, none⟩))) rfl (by kernel_rfl) (by kernel_rfl) (by kernel_rfl) (fun _ _ _ h => h) (Or.inl ⟨rfl, fun _ _ => rfl⟩) hq0 ?_
      simp only [Act.put, List.setIfInBounds_toArray, List.set_cons_zero, List.set_cons_succ]
      refine takeL (i := 12) (v := _) rfl (by kernel_rfl) (by kernel_rfl) (by kernel_rfl) (fun _ _ _ h => h) (yieldsIf_cell rfl 4 _ rfl ⟨X, 1, none⟩ rfl (.bool false) _ (fun W' hW' => (hW'.cell (p := ⟨X, 1, none⟩) hXz).trans q1) Try.underlying4 rfl) hq0 ?_
      simp only [Act.put, List.setIfInBounds_toArray, List.set_cons_zero, List.set_cons_succ]
      refine takeL (i := 13) (v := (.bool false)) rfl (by kernel_rfl) (by kernel_rfl) (by kernel_rfl) (fun _ _ _ h => h) (Or.inl ⟨rfl, fun _ _ => rfl⟩) hq0 ?_
      simp only [Act.put, List.setIfInBounds_toArray, List.set_cons_zero, List.set_cons_succ]
      refine takeL (i := 14) (v := undef) rfl (by kernel_rfl) (by kernel_rfl) (by kernel_rfl) (fun _ _ _ h => h) (Or.inr ⟨rfl, rfl⟩) hq0 ?_
      simp only [Act.put, List.setIfInBounds_toArray, List.set_cons_zero, List.set_cons_succ]
      refine takeL (i := 15) (v := undef) rfl (by kernel_rfl) (by kernel_rfl) (by kernel_rfl) (fun _ _ _ h => h) (Or.inr ⟨rfl, rfl⟩) hq0 ?_
      simp only [Act.put, List.setIfInBounds_toArray, List.set_cons_zero, List.set_cons_succ]
      refine takeL (i := 16) (v := undef) rfl (by kernel_rfl) (by kernel_rfl) (by kernel_rfl) (fun _ _ _ h => h) (Or.inr ⟨rfl, rfl⟩) hq0 ?_
      simp only [Act.put, List.setIfInBounds_toArray, List.set_cons_zero, List.set_cons_succ]
      refine takeL (i := 17) (v := undef) rfl (by kernel_rfl) (by kernel_rfl) (by kernel_rfl) (fun _ _ _ h => h) (Or.inr ⟨rfl, rfl⟩) hq0 ?_
      simp only [Act.put, List.setIfInBounds_toArray, List.set_cons_zero, List.set_cons_succ]
      refine takeL (i := 18) (v := undef) rfl (by kernel_rfl) (by kernel_rfl) (by kernel_rfl) (fun _ _ _ h => h) (Or.inr ⟨rfl, rfl⟩) hq0 ?_
      simp only [Act.put, List.setIfInBounds_toArray, List.set_cons_zero, List.set_cons_succ]
      refine takeL (i := 19) (v := undef) rfl (by kernel_rfl) (by kernel_rfl) (by kernel_rfl) (fun _ _ _ h => h) (Or.inr ⟨rfl, rfl⟩) hq0 ?_
      simp only [Act.put, List.setIfInBounds_toArray, List.set_cons_zero, List.set_cons_succ]
      refine takeL (i := 20) (v := undef) rfl (by kernel_rfl) (by kernel_rfl) (by kernel_rfl) (fun _ _ _ h => h) (Or.inr ⟨rfl, rfl⟩) hq0 ?_
      simp only [Act.put, List.setIfInBounds_toArray, List.set_cons_zero, List.set_cons_succ]
      refine takeL (i := 21) (v := (.bool false)) rfl (by kernel_rfl) (by kernel_rfl) (by kernel_rfl) (fun _ _ _ h => h) (Or.inl ⟨rfl, fun _ _ => rfl⟩) hq0 ?_
      simp only [Act.put, List.setIfInBounds_toArray, List.set_cons_zero, List.set_cons_succ]
      refine takeL (i := 22) (v := (.bool false)) rfl (by kernel_rfl) (by kernel_rfl) (by kernel_rfl) (fun _ _ _ h => h) (Or.inl ⟨rfl, fun _ _ => rfl⟩) hq0 ?_
      simp only [Act.put, List.setIfInBounds_toArray, List.set_cons_zero, List.set_cons_succ]
      refine takeL (i := 23) (v := undef) rfl (by kernel_rfl) (by kernel_rfl) (by kernel_rfl) (fun _ _ _ h => h) (Or.inr ⟨rfl, rfl⟩) hq0 ?_
      simp only [Act.put, List.setIfInBounds_toArray, List.set_cons_zero, List.set_cons_succ]
      refine takeL (i := 24) (v := undef) rfl (by kernel_rfl) (by kernel_rfl) (by kernel_rfl) (fun _ _ _ h => h) (Or.inr ⟨rfl, rfl⟩) hq0 ?_
      simp only [Act.put, List.setIfInBounds_toArray, List.set_cons_zero, List.set_cons_succ]
      refine takeL (i := 25) (v := undef) rfl (by kernel_rfl) (by kernel_rfl) (by kernel_rfl) (fun _ _ _ h => h) (Or.inr ⟨rfl, rfl⟩) hq0 ?_
      simp only [Act.put, List.setIfInBounds_toArray, List.set_cons_zero, List.set_cons_succ]
      refine takeL (i := 26) (v := undef) rfl (by kernel_rfl) (by kernel_rfl) (by kernel_rfl) (fun _ _ _ h => h) (Or.inr ⟨rfl, rfl⟩) hq0 ?_
      simp only [Act.put, List.setIfInBounds_toArray, List.set_cons_zero, List.set_cons_succ]
      refine takeL (i := 27) (v := undef) rfl (by kernel_rfl) (by kernel_rfl) (by kernel_rfl) (fun _ _ _ h => h) (Or.inr ⟨rfl, rfl⟩) hq0 ?_
      simp only [Act.put, List.setIfInBounds_toArray, List.set_cons_zero, List.set_cons_succ]
      refine takeL (i := 28) (v := undef) rfl (by kernel_rfl) (by kernel_rfl) (by kernel_rfl) (fun _ _ _ h => h) (Or.inr ⟨rfl, rfl⟩) hq0 ?_
      simp only [Act.put, List.setIfInBounds_toArray, List.set_cons_zero, List.set_cons_succ]
      refine takeL (i := 29) (v := undef) rfl (by kernel_rfl) (by kernel_rfl) (by kernel_rfl) (fun _ _ _ h => h) (Or.inr ⟨rfl, rfl⟩) hq0 ?_
      simp only [Act.put, List.setIfInBounds_toArray, List.set_cons_zero, List.set_cons_succ]
      refine takeL (i := 30) (v := (.bool false)) rfl (by kernel_rfl) (by kernel_rfl) (by kernel_rfl) (fun _ _ _ h => h) (Or.inl ⟨rfl, fun _ _ => rfl⟩) hq0 ?_
      simp only [Act.put, List.setIfInBounds_toArray, List.set_cons_zero, List.set_cons_succ]
      refine takeL (i := 31) (v := (.bool false)) rfl (by kernel_rfl) (by kernel_rfl) (by kernel_rfl) (fun _ _ _ h => h) (Or.inl ⟨rfl, fun _ _ => rfl⟩) hq0 ?_
      simp only [Act.put, List.setIfInBounds_toArray, List.set_cons_zero, List.set_cons_succ]
      refine takeL (i := 32) (v := (.bool false)) rfl (by kernel_rfl) (by kernel_rfl) (by kernel_rfl) (fun _ _ _ h => h) (Or.inl ⟨rfl, fun _ _ => rfl⟩) hq0 ?_
      simp only [Act.put, List.setIfInBounds_toArray, List.set_cons_zero, List.set_cons_succ]
      refine wpAnyH_done (by kernel_rfl) ?_ _
      go_wp2_with fail
      go_ret
      exact ⟨by simp [trMay, h7, h1], HEz.out.trans hq0⟩
    · rw [h1] at q1
      cases hrr : trRer B k
      · refine beginL (S := fun W' => Ext wz W') (by kernel_rfl) ?_
        intro wd hqx
        have hq0 : Ext wz wd := hqx
        refine takeL (i := 0) (v := (.pointer (some ⟨b0, 0, none⟩))) rfl (by kernel_rfl) (by kernel_rfl) (by kernel_rfl) (fun _ _ _ h => h) (Or.inl ⟨rfl, fun _ _ => rfl⟩) hq0 ?_
        simp only [Act.put, List.setIfInBounds_toArray, List.set_cons_zero, List.set_cons_succ]
        refine takeL (i := 1) (v := _) rfl (by kernel_rfl) (by kernel_rfl) (by kernel_rfl) (fun _ _ _ h => h) (yieldsIf_cell rfl 56 _ rfl ⟨b0, 0, none⟩ rfl (.pointer (some ⟨g, k * 89, none⟩)) _ (fun W' hW' => (hW'.cell (p := ⟨b0, 0, none⟩) hb0).trans c0) Try.underlying56 rfl) hq0 ?_
        simp only [Act.put, List.setIfInBounds_toArray, List.set_cons_zero, List.set_cons_succ]
        refine takeL (i := 2) (v := (.pointer (some ⟨g, k * 89, none⟩))) rfl (by kernel_rfl) (by kernel_rfl) (by kernel_rfl) (fun _ _ _ h => h) (Or.inl ⟨rfl, fun _ _ => rfl⟩) hq0 ?_
        simp only [Act.put, List.setIfInBounds_toArray, List.set_cons_zero, List.set_cons_succ]
        refine takeL (i := 3) (v := (.pointer (some ⟨g, k * 89 + 6, none⟩))) rfl (by kernel_rfl) (by kernel_rfl) (by kernel_rfl) (fun _ _ _ h => h) (Or.inl ⟨rfl, fun _ _ => rfl⟩) hq0 ?_
        simp only [Act.put, List.setIfInBounds_toArray, List.set_cons_zero, List.set_cons_succ]
        refine takeL (i := 4) (v := (.pointer (some ⟨g, k * 89 + 7, none⟩))) rfl (by kernel_rfl) (by kernel_rfl) (by kernel_rfl) (fun _ _ _ h => h) (Or.inl ⟨rfl, fun _ _ => rfl⟩) hq0 ?_
        simp only [Act.put, List.setIfInBounds_toArray, List.set_cons_zero, List.set_cons_succ]
        refine takeL (i := 5) (v := _) rfl (by kernel_rfl) (by kernel_rfl) (by kernel_rfl) (fun _ _ _ h => h) (yieldsIf_cell rfl 3 _ rfl ⟨g, k * 89 + 7, none⟩ rfl (.int .i64 (B.gi k 7)) _ (fun W' hW' => (hW'.cell (p := ⟨g, k * 89 + 7, none⟩) hgz).trans p7) Try.underlying3 rfl) hq0 ?_
        simp only [Act.put, List.setIfInBounds_toArray, List.set_cons_zero, List.set_cons_succ]
        refine takeL (i := 6) (v := (.bool false)) rfl (by kernel_rfl) (by kernel_rfl) (by kernel_rfl) (fun _ _ _ h => h) (Or.inl ⟨rfl, fun W' _ => by go_simp⟩) hq0 ?_
        simp only [Act.put, List.setIfInBounds_toArray, List.set_cons_zero, List.set_cons_succ]
        refine takeL (i := 7) (v := (.bool false)) rfl (by kernel_rfl) (by kernel_rfl) (by kernel_rfl) (fun _ _ _ h => h) (Or.inl ⟨rfl, fun _ _ => rfl⟩) hq0 ?_
        simp only [Act.put, List.setIfInBounds_toArray, List.set_cons_zero, List.set_cons_succ]
        refine takeL (i := 8) (v := (.pointer (some ⟨b0, 1, none⟩))) rfl (by kernel_rfl) (by kernel_rfl) (by kernel_rfl) (fun _ _ _ h => h) (Or.inl ⟨rfl, fun _ _ => rfl⟩) hq0 ?_
        simp only [Act.put, List.setIfInBounds_toArray, List.set_cons_zero, List.set_cons_succ]
        refine takeL (i := 9) (v := _) rfl (by kernel_rfl) (by kernel_rfl) (by kernel_rfl) (fun _ _ _ h => h) (yieldsIf_cell rfl 39 _ rfl ⟨b0, 1, none⟩ rfl (.pointer (some ⟨X, 0, none⟩)) _ (fun W' hW' => (hW'.cell (p := ⟨b0, 1, none⟩) hb0).trans c1) Try.underlying39 rfl) hq0 ?_
        simp only [Act.put, List.setIfInBounds_toArray, List.set_cons_zero, List.set_cons_succ]
        refine takeL (i := 10) (v := (.pointer (some ⟨X, 0, none⟩))) rfl (by kernel_rfl) (by kernel_rfl) (by kernel_rfl) (fun _ _ _ h => h) (Or.inl ⟨rfl, fun _ _ => rfl⟩) hq0 ?_
        simp only [Act.put, List.setIfInBounds_toArray, List.set_cons_zero, List.set_cons_succ]
        refine takeL (i := 11) (v := (.pointer (some ⟨X, 1, none⟩))) rfl (by kernel_rfl) (by kernel_rfl) (by kernel_rfl) (fun _ _ _ h => h) (Or.inl ⟨rfl, fun _ _ => rfl⟩) hq0 ?_
        simp only [Act.put, List.setIfInBounds_toArray, List.set_cons_zero, List.set_cons_succ]
        refine takeL (i := 12) (v := _) rfl (by kernel_rfl) (by kernel_rfl) (by kernel_rfl) (fun _ _ _ h => h) (yieldsIf_cell rfl 4 _ rfl ⟨X, 1, none⟩ rfl (.bool true) _ (fun W' hW' => (hW'.cell (p := ⟨X, 1, none⟩) hXz).trans q1) Try.underlying4 rfl) hq0 ?_
        simp only [Act.put, List.setIfInBounds_toArray, List.set_cons_zero, List.set_cons_succ]
        refine takeL (i := 13) (v := (.bool true)) rfl (by kernel_rfl) (by kernel_rfl) (by kernel_rfl) (fun _ _ _ h => h) (Or.inl ⟨rfl, fun _ _ => rfl⟩) hq0 ?_
        simp only [Act.put, List.setIfInBounds_toArray, List.set_cons_zero, List.set_cons_succ]
        refine takeL (i := 14) (v := (.pointer (some ⟨b0, 1, none⟩))) rfl (by kernel_rfl) (by kernel_rfl) (by kernel_rfl) (fun _ _ _ h => h) (Or.inl ⟨rfl, fun _ _ => rfl⟩) hq0 ?_
        simp only [Act.put, List.setIfInBounds_toArray, List.set_cons_zero, List.set_cons_succ]
        refine takeL (i := 15) (v := _) rfl (by kernel_rfl) (by kernel_rfl) (by kernel_rfl) (fun _ _ _ h => h) (yieldsIf_cell rfl 39 _ rfl ⟨b0, 1, none⟩ rfl (.pointer (some ⟨X, 0, none⟩)) _ (fun W' hW' => (hW'.cell (p := ⟨b0, 1, none⟩) hb0).trans c1) Try.underlying39 rfl) hq0 ?_
        simp only [Act.put, List.setIfInBounds_toArray, List.set_cons_zero, List.set_cons_succ]
        refine takeL (i := 16) (v := (.pointer (some ⟨X, 0, none⟩))) rfl (by kernel_rfl) (by kernel_rfl) (by kernel_rfl) (fun _ _ _ h => h) (Or.inl ⟨rfl, fun _ _ => rfl⟩) hq0 ?_
        simp only [Act.put, List.setIfInBounds_toArray, List.set_cons_zero, List.set_cons_succ]
        refine takeL (i := 17) (v := _) rfl (by kernel_rfl) (by kernel_rfl) (by kernel_rfl) (fun _ _ _ h => h) (yieldsIf_rowS rfl 33 _ rfl X rfl C _ _ (fun W' hW' => (hW'.block _ hXz).trans HC.out) Try.underlying33 rfl HCi.out) hq0 ?_
        simp only [Act.put, List.setIfInBounds_toArray, List.set_cons_zero, List.set_cons_succ]
        refine takeL (i := 18) (v := (.pointer (some ⟨b0, 2, none⟩))) rfl (by kernel_rfl) (by kernel_rfl) (by kernel_rfl) (fun _ _ _ h => h) (Or.inl ⟨rfl, fun _ _ => rfl⟩) hq0 ?_
        simp only [Act.put, List.setIfInBounds_toArray, List.set_cons_zero, List.set_cons_succ]
        refine takeL (i := 19) (v := _) rfl (by kernel_rfl) (by kernel_rfl) (by kernel_rfl) (fun _ _ _ h => h) (yieldsIf_cell rfl 3 _ rfl ⟨b0, 2, none⟩ rfl (.int .i64 k) _ (fun W' hW' => (hW'.cell (p := ⟨b0, 2, none⟩) hb0).trans c2) Try.underlying3 rfl) hq0 ?_
        simp only [Act.put, List.setIfInBounds_toArray, List.set_cons_zero, List.set_cons_succ]
        refine runG (i := 20) rfl (by rfl) (by kernel_rfl) (fun K hK => ?_)
        go_simp
        refine (tr_rer C B k _ (HCb.out.ext hq0) ho).mono ?_
        rintro e wc1 ⟨he, hx⟩
        rw [hrr] at he
        obtain rfl : e = .returned (.bool false) := he
        have hq1 := hq0.trans hx
        refine hK.out _ _ hq1 (fun hHeld => ?_)
        try simp only [Act.put, List.setIfInBounds_toArray, List.set_cons_zero, List.set_cons_succ]
        clear hK K hHeld
        refine takeL (i := 21) (v := (.bool false)) rfl (by kernel_rfl) (by kernel_rfl) (by kernel_rfl) (fun _ _ _ h => h) (Or.inl ⟨rfl, fun _ _ => rfl⟩) hq1 ?_
        simp only [Act.put, List.setIfInBounds_toArray, List.set_cons_zero, List.set_cons_succ]
        refine takeL (i := 22) (v := (.bool false)) rfl (by kernel_rfl) (by kernel_rfl) (by kernel_rfl) (fun _ _ _ h => h) (Or.inl ⟨rfl, fun _ _ => rfl⟩) hq1 ?_
        simp only [Act.put, List.setIfInBounds_toArray, List.set_cons_zero, List.set_cons_succ]
        refine takeL (i := 23) (v := undef) rfl (by kernel_rfl) (by kernel_rfl) (by kernel_rfl) (fun _ _ _ h => h) (Or.inr ⟨rfl, rfl⟩) hq1 ?_
        simp only [Act.put, List.setIfInBounds_toArray, List.set_cons_zero, List.set_cons_succ]
        refine takeL (i := 24) (v := undef) rfl (by kernel_rfl) (by kernel_rfl) (by kernel_rfl) (fun _ _ _ h => h) (Or.inr ⟨rfl, rfl⟩) hq1 ?_
        simp only [Act.put, List.setIfInBounds_toArray, List.set_cons_zero, List.set_cons_succ]
        refine takeL (i := 25) (v := undef) rfl (by kernel_rfl) (by kernel_rfl) (by kernel_rfl) (fun _ _ _ h => h) (Or.inr ⟨rfl, rfl⟩) hq1 ?_
        simp only [Act.put, List.setIfInBounds_toArray, List.set_cons_zero, List.set_cons_succ]
        refine takeL (i := 26) (v := undef) rfl (by kernel_rfl) (by kernel_rfl) (by kernel_rfl) (fun _ _ _ h => h) (Or.inr ⟨rfl, rfl⟩) hq1 ?_
        simp only [Act.put, List.setIfInBounds_toArray, List.set_cons_zero, List.set_cons_succ]
        refine takeL (i := 27) (v := undef) rfl (by kernel_rfl) (by kernel_rfl) (by kernel_rfl) (fun _ _ _ h => h) (Or.inr ⟨rfl, rfl⟩) hq1 ?_
        simp only [Act.put, List.setIfInBounds_toArray, List.set_cons_zero, List.set_cons_succ]
        refine takeL (i := 28) (v := undef) rfl (by kernel_rfl) (by kernel_rfl) (by kernel_rfl) (fun _ _ _ h => h) (Or.inr ⟨rfl, rfl⟩) hq1 ?_
        simp only [Act.put, List.setIfInBounds_toArray, List.set_cons_zero, List.set_cons_succ]
        refine takeL (i := 29) (v := undef) rfl (by kernel_rfl) (by kernel_rfl) (by kernel_rfl) (fun _ _ _ h => h) (Or.inr ⟨rfl, rfl⟩) hq1 ?_
        simp only [Act.put, List.setIfInBounds_toArray, List.set_cons_zero, List.set_cons_succ]
        refine takeL (i := 30) (v := (.bool false)) rfl (by kernel_rfl) (by kernel_rfl) (by kernel_rfl) (fun _ _ _ h => h) (Or.inl ⟨rfl, fun _ _ => rfl⟩) hq1 ?_
        simp only [Act.put, List.setIfInBounds_toArray, List.set_cons_zero, List.set_cons_succ]
        refine takeL (i := 31) (v := (.bool false)) rfl (by kernel_rfl) (by kernel_rfl) (by kernel_rfl) (fun _ _ _ h => h) (Or.inl ⟨rfl, fun _ _ => rfl⟩) hq1 ?_
        simp only [Act.put, List.setIfInBounds_toArray, List.set_cons_zero, List.set_cons_succ]
        refine takeL (i := 32) (v := (.bool false)) rfl (by kernel_rfl) (by kernel_rfl) (by kernel_rfl) (fun _ _ _ h => h) (Or.inl ⟨rfl, fun _ _ => rfl⟩) hq1 ?_
        simp only [Act.put, List.setIfInBounds_toArray, List.set_cons_zero, List.set_cons_succ]
        refine wpAnyH_done (by kernel_rfl) ?_ _
        go_wp2_with fail
        go_ret
        exact ⟨by simp [trMay, h7, h1, hrr], HEz.out.trans hq1⟩
      · refine beginL (S := fun W' => Ext wz W') (by kernel_rfl) ?_
        intro wd hqx
        have hq0 : Ext wz wd := hqx
        refine takeL (i := 0) (v := (.pointer (some ⟨b0, 0, none⟩))) rfl (by kernel_rfl) (by kernel_rfl) (by kernel_rfl) (fun _ _ _ h => h) (Or.inl ⟨rfl, fun _ _ => rfl⟩) hq0 ?_
        simp only [Act.put, List.setIfInBounds_toArray, List.set_cons_zero, List.set_cons_succ]
        refine takeL (i := 1) (v := _) rfl (by kernel_rfl) (by kernel_rfl) (by kernel_rfl) (fun _ _ _ h => h) (yieldsIf_cell rfl 56 _ rfl ⟨b0, 0, none⟩ rfl (.pointer (some ⟨g, k * 89, none⟩)) _ (fun W' hW' => (hW'.cell (p := ⟨b0, 0, none⟩) hb0).trans c0) Try.underlying56 rfl) hq0 ?_
        simp only [Act.put, List.setIfInBounds_toArray, List.set_cons_zero, List.set_cons_succ]
        refine takeL (i := 2) (v := (.pointer (some ⟨g, k * 89, none⟩))) rfl (by kernel_rfl) (by kernel_rfl) (by kernel_rfl) (fun _ _ _ h => h) (Or.inl ⟨rfl, fun _ _ => rfl⟩) hq0 ?_
        simp only [Act.put, List.setIfInBounds_toArray, List.set_cons_zero, List.set_cons_succ]
        refine takeL (i := 3) (v := (.pointer (some ⟨g, k * 89 + 6, none⟩))) rfl (by kernel_rfl) (by kernel_rfl) (by kernel_rfl) (fun _ _ _ h => h) (Or.inl ⟨rfl, fun _ _ => rfl⟩) hq0 ?_
        simp only [Act.put, List.setIfInBounds_toArray, List.set_cons_zero, List.set_cons_succ]
        refine takeL (i := 4) (v := (.pointer (some ⟨g, k * 89 + 7, none⟩))) rfl (by kernel_rfl) (by kernel_rfl) (by kernel_rfl) (fun _ _ _ h => h) (Or.inl ⟨rfl, fun _ _ => rfl⟩) hq0 ?_
        simp only [Act.put, List.setIfInBounds_toArray, List.set_cons_zero, List.set_cons_succ]
        refine takeL (i := 5) (v := _) rfl (by kernel_rfl) (by kernel_rfl) (by kernel_rfl) (fun _ _ _ h => h) (yieldsIf_cell rfl 3 _ rfl ⟨g, k * 89 + 7, none⟩ rfl (.int .i64 (B.gi k 7)) _ (fun W' hW' => (hW'.cell (p := ⟨g, k * 89 + 7, none⟩) hgz).trans p7) Try.underlying3 rfl) hq0 ?_
        simp only [Act.put, List.setIfInBounds_toArray, List.set_cons_zero, List.set_cons_succ]
        refine takeL (i := 6) (v := (.bool false)) rfl (by kernel_rfl) (by kernel_rfl) (by kernel_rfl) (fun _ _ _ h => h) (Or.inl ⟨rfl, fun W' _ => by go_simp⟩) hq0 ?_
        simp only [Act.put, List.setIfInBounds_toArray, List.set_cons_zero, List.set_cons_succ]
        refine takeL (i := 7) (v := (.bool false)) rfl (by kernel_rfl) (by kernel_rfl) (by kernel_rfl) (fun _ _ _ h => h) (Or.inl ⟨rfl, fun _ _ => rfl⟩) hq0 ?_
        simp only [Act.put, List.setIfInBounds_toArray, List.set_cons_zero, List.set_cons_succ]
        refine takeL (i := 8) (v := (.pointer (some ⟨b0, 1, none⟩))) rfl (by kernel_rfl) (by kernel_rfl) (by kernel_rfl) (fun _ _ _ h => h) (Or.inl ⟨rfl, fun _ _ => rfl⟩) hq0 ?_
        simp only [Act.put, List.setIfInBounds_toArray, List.set_cons_zero, List.set_cons_succ]
        refine takeL (i := 9) (v := _) rfl (by kernel_rfl) (by kernel_rfl) (by kernel_rfl) (fun _ _ _ h => h) (yieldsIf_cell rfl 39 _ rfl ⟨b0, 1, none⟩ rfl (.pointer (some ⟨X, 0, none⟩)) _ (fun W' hW' => (hW'.cell (p := ⟨b0, 1, none⟩) hb0).trans c1) Try.underlying39 rfl) hq0 ?_
        simp only [Act.put, List.setIfInBounds_toArray, List.set_cons_zero, List.set_cons_succ]
        refine takeL (i := 10) (v := (.pointer (some ⟨X, 0, none⟩))) rfl (by kernel_rfl) (by kernel_rfl) (by kernel_rfl) (fun _ _ _ h => h) (Or.inl ⟨rfl, fun _ _ => rfl⟩) hq0 ?_
        simp only [Act.put, List.setIfInBounds_toArray, List.set_cons_zero, List.set_cons_succ]
        refine takeL (i := 11) (v := (.pointer (some ⟨X, 1, none⟩))) rfl (by kernel_rfl) (by kernel_rfl) (by kernel_rfl) (fun _ _ _ h => h) (Or.inl ⟨rfl, fun _ _ => rfl⟩) hq0 ?_
        simp only [Act.put, List.setIfInBounds_toArray, List.set_cons_zero, List.set_cons_succ]
        refine takeL (i := 12) (v := _) rfl (by kernel_rfl) (by kernel_rfl) (by kernel_rfl) (fun _ _ _ h => h) (yieldsIf_cell rfl 4 _ rfl ⟨X, 1, none⟩ rfl (.bool true) _ (fun W' hW' => (hW'.cell (p := ⟨X, 1, none⟩) hXz).trans q1) Try.underlying4 rfl) hq0 ?_
        simp only [Act.put, List.setIfInBounds_toArray, List.set_cons_zero, List.set_cons_succ]
        refine takeL (i := 13) (v := (.bool true)) rfl (by kernel_rfl) (by kernel_rfl) (by kernel_rfl) (fun _ _ _ h => h) (Or.inl ⟨rfl, fun _ _ => rfl⟩) hq0 ?_
        simp only [Act.put, List.setIfInBounds_toArray, List.set_cons_zero, List.set_cons_succ]
        refine takeL (i := 14) (v := (.pointer (some ⟨b0, 1, none⟩))) rfl (by kernel_rfl) (by kernel_rfl) (by kernel_rfl) (fun _ _ _ h => h) (Or.inl ⟨rfl, fun _ _ => rfl⟩) hq0 ?_
        simp only [Act.put, List.setIfInBounds_toArray, List.set_cons_zero, List.set_cons_succ]
        refine takeL (i := 15) (v := _) rfl (by kernel_rfl) (by kernel_rfl) (by kernel_rfl) (fun _ _ _ h => h) (yieldsIf_cell rfl 39 _ rfl ⟨b0, 1, none⟩ rfl (.pointer (some ⟨X, 0, none⟩)) _ (fun W' hW' => (hW'.cell (p := ⟨b0, 1, none⟩) hb0).trans c1) Try.underlying39 rfl) hq0 ?_
        simp only [Act.put, List.setIfInBounds_toArray, List.set_cons_zero, List.set_cons_succ]
        refine takeL (i := 16) (v := (.pointer (some ⟨X, 0, none⟩))) rfl (by kernel_rfl) (by kernel_rfl) (by kernel_rfl) (fun _ _ _ h => h) (Or.inl ⟨rfl, fun _ _ => rfl⟩) hq0 ?_
        simp only [Act.put, List.setIfInBounds_toArray, List.set_cons_zero, List.set_cons_succ]
        refine takeL (i := 17) (v := _) rfl (by kernel_rfl) (by kernel_rfl) (by kernel_rfl) (fun _ _ _ h => h) (yieldsIf_rowS rfl 33 _ rfl X rfl C _ _ (fun W' hW' => (hW'.block _ hXz).trans HC.out) Try.underlying33 rfl HCi.out) hq0 ?_
        simp only [Act.put, List.setIfInBounds_toArray, List.set_cons_zero, List.set_cons_succ]
        refine takeL (i := 18) (v := (.pointer (some ⟨b0, 2, none⟩))) rfl (by kernel_rfl) (by kernel_rfl) (by kernel_rfl) (fun _ _ _ h => h) (Or.inl ⟨rfl, fun _ _ => rfl⟩) hq0 ?_
        simp only [Act.put, List.setIfInBounds_toArray, List.set_cons_zero, List.set_cons_succ]
        refine takeL (i := 19) (v := _) rfl (by kernel_rfl) (by kernel_rfl) (by kernel_rfl) (fun _ _ _ h => h) (yieldsIf_cell rfl 3 _ rfl ⟨b0, 2, none⟩ rfl (.int .i64 k) _ (fun W' hW' => (hW'.cell (p := ⟨b0, 2, none⟩) hb0).trans c2) Try.underlying3 rfl) hq0 ?_
        simp only [Act.put, List.setIfInBounds_toArray, List.set_cons_zero, List.set_cons_succ]
        refine runG (i := 20) rfl (by rfl) (by kernel_rfl) (fun K hK => ?_)
        go_simp
        refine (tr_rer C B k _ (HCb.out.ext hq0) ho).mono ?_
        rintro e wc1 ⟨he, hx⟩
        rw [hrr] at he
        obtain rfl : e = .returned (.bool true) := he
        have hq1 := hq0.trans hx
        refine hK.out _ _ hq1 (fun hHeld => ?_)
        try simp only [Act.put, List.setIfInBounds_toArray, List.set_cons_zero, List.set_cons_succ]
        clear hK K hHeld
        refine takeL (i := 21) (v := (.bool true)) rfl (by kernel_rfl) (by kernel_rfl) (by kernel_rfl) (fun _ _ _ h => h) (Or.inl ⟨rfl, fun _ _ => rfl⟩) hq1 ?_
        simp only [Act.put, List.setIfInBounds_toArray, List.set_cons_zero, List.set_cons_succ]
        refine takeL (i := 22) (v := (.bool true)) rfl (by kernel_rfl) (by kernel_rfl) (by kernel_rfl) (fun _ _ _ h => h) (Or.inl ⟨rfl, fun _ _ => rfl⟩) hq1 ?_
        simp only [Act.put, List.setIfInBounds_toArray, List.set_cons_zero, List.set_cons_succ]
        refine takeL (i := 23) (v := (.pointer (some ⟨b0, 0, none⟩))) rfl (by kernel_rfl) (by kernel_rfl) (by kernel_rfl) (fun _ _ _ h => h) (Or.inl ⟨rfl, fun _ _ => rfl⟩) hq1 ?_
        simp only [Act.put, List.setIfInBounds_toArray, List.set_cons_zero, List.set_cons_succ]
        refine takeL (i := 24) (v := _) rfl (by kernel_rfl) (by kernel_rfl) (by kernel_rfl) (fun _ _ _ h => h) (yieldsIf_cell rfl 56 _ rfl ⟨b0, 0, none⟩ rfl (.pointer (some ⟨g, k * 89, none⟩)) _ (fun W' hW' => (hW'.cell (p := ⟨b0, 0, none⟩) hb0).trans c0) Try.underlying56 rfl) hq1 ?_
        simp only [Act.put, List.setIfInBounds_toArray, List.set_cons_zero, List.set_cons_succ]
        refine takeL (i := 25) (v := (.pointer (some ⟨g, k * 89, none⟩))) rfl (by kernel_rfl) (by kernel_rfl) (by kernel_rfl) (fun _ _ _ h => h) (Or.inl ⟨rfl, fun _ _ => rfl⟩) hq1 ?_
        simp only [Act.put, List.setIfInBounds_toArray, List.set_cons_zero, List.set_cons_succ]
        refine takeL (i := 26) (v := (.pointer (some ⟨g, k * 89 + 6, none⟩))) rfl (by kernel_rfl) (by kernel_rfl) (by kernel_rfl) (fun _ _ _ h => h) (Or.inl ⟨rfl, fun _ _ => rfl⟩) hq1 ?_
        simp only [Act.put, List.setIfInBounds_toArray, List.set_cons_zero, List.set_cons_succ]
        refine takeL (i := 27) (v := (.pointer (some ⟨g, k * 89 + 10, none⟩))) rfl (by kernel_rfl) (by kernel_rfl) (by kernel_rfl) (fun _ _ _ h => h) (Or.inl ⟨rfl, fun _ _ => rfl⟩) hq1 ?_
        simp only [Act.put, List.setIfInBounds_toArray, List.set_cons_zero, List.set_cons_succ]
        refine takeL (i := 28) (v := _) rfl (by kernel_rfl) (by kernel_rfl) (by kernel_rfl) (fun _ _ _ h => h) (yieldsIf_cell rfl 3 _ rfl ⟨g, k * 89 + 10, none⟩ rfl (.int .i64 (B.gi k 10)) _ (fun W' hW' => (hW'.cell (p := ⟨g, k * 89 + 10, none⟩) hgz).trans p10) Try.underlying3 rfl) hq1 ?_
        simp only [Act.put, List.setIfInBounds_toArray, List.set_cons_zero, List.set_cons_succ]
        refine takeL (i := 29) (v := (.bool (B.gi k 10 == 0))) rfl (by kernel_rfl) (by kernel_rfl) (by kernel_rfl) (fun _ _ _ h => h) (Or.inl ⟨rfl, fun W' _ => by go_simp⟩) hq1 ?_
        simp only [Act.put, List.setIfInBounds_toArray, List.set_cons_zero, List.set_cons_succ]
        refine takeL (i := 30) (v := (.bool (B.gi k 10 == 0))) rfl (by kernel_rfl) (by kernel_rfl) (by kernel_rfl) (fun _ _ _ h => h) (Or.inl ⟨rfl, fun _ _ => rfl⟩) hq1 ?_
        simp only [Act.put, List.setIfInBounds_toArray, List.set_cons_zero, List.set_cons_succ]
        refine takeL (i := 31) (v := (.bool (B.gi k 10 == 0))) rfl (by kernel_rfl) (by kernel_rfl) (by kernel_rfl) (fun _ _ _ h => h) (Or.inl ⟨rfl, fun _ _ => rfl⟩) hq1 ?_
        simp only [Act.put, List.setIfInBounds_toArray, List.set_cons_zero, List.set_cons_succ]
        refine takeL (i := 32) (v := (.bool (B.gi k 10 == 0))) rfl (by kernel_rfl) (by kernel_rfl) (by kernel_rfl) (fun _ _ _ h => h) (Or.inl ⟨rfl, fun _ _ => rfl⟩) hq1 ?_
        simp only [Act.put, List.setIfInBounds_toArray, List.set_cons_zero, List.set_cons_succ]
        refine wpAnyH_done (by kernel_rfl) ?_ _
        go_wp2_with fail
        go_ret
        exact ⟨by simp [trMay, h7, h1, hrr], HEz.out.trans hq1⟩
  · refine beginL (S := fun W' => Ext wz W') (by kernel_rfl) ?_
    intro wd hqx
    have hq0 : Ext wz wd := hqx
    refine takeL (i := 0) (v := (.pointer (some ⟨b0, 0, none⟩))) rfl (by kernel_rfl) (by kernel_rfl) (by kernel_rfl) (fun _ _ _ h => h) (Or.inl ⟨rfl, fun _ _ => rfl⟩) hq0 ?_
    simp only [Act.put, List.setIfInBounds_toArray, List.set_cons_zero, List.set_cons_succ]
    refine takeL (i := 1) (v := _) rfl (by kernel_rfl) (by kernel_rfl) (by kernel_rfl) (fun _ _ _ h => h) (yieldsIf_cell rfl 56 _ rfl ⟨b0, 0, none⟩ rfl (.pointer (some ⟨g, k * 89, none⟩)) _ (fun W' hW' => (hW'.cell (p := ⟨b0, 0, none⟩) hb0).trans c0) Try.underlying56 rfl) hq0 ?_
    simp only [Act.put, List.setIfInBounds_toArray, List.set_cons_zero, List.set_cons_succ]
    refine takeL (i := 2) (v := (.pointer (some ⟨g, k * 89, none⟩))) rfl (by kernel_rfl) (by kernel_rfl) (by kernel_rfl) (fun _ _ _ h => h) (Or.inl ⟨rfl, fun _ _ => rfl⟩) hq0 ?_
    simp only [Act.put, List.setIfInBounds_toArray, List.set_cons_zero, List.set_cons_succ]
    refine takeL (i := 3) (v := (.pointer (some ⟨g, k * 89 + 6, none⟩))) rfl (by kernel_rfl) (by kernel_rfl) (by kernel_rfl) (fun _ _ _ h => h) (Or.inl ⟨rfl, fun _ _ => rfl⟩) hq0 ?_
    simp only [Act.put, List.setIfInBounds_toArray, List.set_cons_zero, List.set_cons_succ]
    refine takeL (i := 4) (v := (.pointer (some ⟨g, k * 89 + 7, none⟩))) rfl (by kernel_rfl) (by kernel_rfl) (by kernel_rfl) (fun _ _ _ h => h) (Or.inl ⟨rfl, fun _ _ => rfl⟩) hq0 ?_
    simp only [Act.put, List.setIfInBounds_toArray, List.set_cons_zero, List.set_cons_succ]
    refine takeL (i := 5) (v := _) rfl (by kernel_rfl) (by kernel_rfl) (by kernel_rfl) (fun _ _ _ h => h) (yieldsIf_cell rfl 3 _ rfl ⟨g, k * 89 + 7, none⟩ rfl (.int .i64 (B.gi k 7)) _ (fun W' hW' => (hW'.cell (p := ⟨g, k * 89 + 7, none⟩) hgz).trans p7) Try.underlying3 rfl) hq0 ?_
    simp only [Act.put, List.setIfInBounds_toArray, List.set_cons_zero, List.set_cons_succ]
    refine takeL (i := 6) (v := (.bool true)) rfl (by kernel_rfl) (by kernel_rfl) (by kernel_rfl) (fun _ _ _ h => h) (Or.inl ⟨rfl, fun W' _ => by go_simp⟩) hq0 ?_
    simp only [Act.put, List.setIfInBounds_toArray, List.set_cons_zero, List.set_cons_succ]
    refine takeL (i := 7) (v := (.bool true)) rfl (by kernel_rfl) (by kernel_rfl) (by kernel_rfl) (fun _ _ _ h => h) (Or.inl ⟨rfl, fun _ _ => rfl⟩) hq0 ?_
    simp only [Act.put, List.setIfInBounds_toArray, List.set_cons_zero, List.set_cons_succ]
    refine takeL (i := 8) (v := undef) rfl (by kernel_rfl) (by kernel_rfl) (by kernel_rfl) (fun _ _ _ h => h) (Or.inr ⟨rfl, rfl⟩) hq0 ?_
    simp only [Act.put, List.setIfInBounds_toArray, List.set_cons_zero, List.set_cons_succ]
    refine takeL (i := 9) (v := undef) rfl (by kernel_rfl) (by kernel_rfl) (by kernel_rfl) (fun _ _ _ h => h) (Or.inr ⟨rfl, rfl⟩) hq0 ?_
    simp only [Act.put, List.setIfInBounds_toArray, List.set_cons_zero, List.set_cons_succ]
    refine takeL (i := 10) (v := undef) rfl (by kernel_rfl) (by kernel_rfl) (by kernel_rfl) (fun _ _ _ h => h) (Or.inr ⟨rfl, rfl⟩) hq0 ?_
    simp only [Act.put, List.setIfInBounds_toArray, List.set_cons_zero, List.set_cons_succ]
    refine takeL (i := 11) (v := undef) rfl (by kernel_rfl) (by kernel_rfl) (by kernel_rfl) (fun _ _ _ h => h) (Or.inr ⟨rfl, rfl⟩) hq0 ?_
    simp only [Act.put, List.setIfInBounds_toArray, List.set_cons_zero, List.set_cons_succ]
    refine takeL (i := 12) (v := undef) rfl (by kernel_rfl) (by kernel_rfl) (by kernel_rfl) (fun _ _ _ h => h) (Or.inr ⟨rfl, rfl⟩) hq0 ?_
    simp only [Act.put, List.setIfInBounds_toArray, List.set_cons_zero, List.set_cons_succ]
    refine takeL (i := 13) (v := undef) rfl (by kernel_rfl) (by kernel_rfl) (by kernel_rfl) (fun _ _ _ h => h) (Or.inr ⟨rfl, rfl⟩) hq0 ?_
    simp only [Act.put, List.setIfInBounds_toArray, List.set_cons_zero, List.set_cons_succ]
    refine takeL (i := 14) (v := undef) rfl (by kernel_rfl) (by kernel_rfl) (by kernel_rfl) (fun _ _ _ h => h) (Or.inr ⟨rfl, rfl⟩) hq0 ?_
    simp only [Act.put, List.setIfInBounds_toArray, List.set_cons_zero, List.set_cons_succ]
    refine takeL (i := 15) (v := undef) rfl (by kernel_rfl) (by kernel_rfl) (by kernel_rfl) (fun _ _ _ h => h) (Or.inr ⟨rfl, rfl⟩) hq0 ?_
    simp only [Act.put, List.setIfInBounds_toArray, List.set_cons_zero, List.set_cons_succ]
    refine takeL (i := 16) (v := undef) rfl (by kernel_rfl) (by kernel_rfl) (by kernel_rfl) (fun _ _ _ h => h) (Or.inr ⟨rfl, rfl⟩) hq0 ?_
    simp only [Act.put, List.setIfInBounds_toArray, List.set_cons_zero, List.set_cons_succ]
    refine takeL (i := 17) (v := undef) rfl (by kernel_rfl) (by kernel_rfl) (by kernel_rfl) (fun _ _ _ h => h) (Or.inr ⟨rfl, rfl⟩) hq0 ?_
    simp only [Act.put, List.setIfInBounds_toArray, List.set_cons_zero, List.set_cons_succ]
    refine takeL (i := 18) (v := undef) rfl (by kernel_rfl) (by kernel_rfl) (by kernel_rfl) (fun _ _ _ h => h) (Or.inr ⟨rfl, rfl⟩) hq0 ?_
    simp only [Act.put, List.setIfInBounds_toArray, List.set_cons_zero, List.set_cons_succ]
    refine takeL (i := 19) (v := undef) rfl (by kernel_rfl) (by kernel_rfl) (by kernel_rfl) (fun _ _ _ h => h) (Or.inr ⟨rfl, rfl⟩) hq0 ?_
    simp only [Act.put, List.setIfInBounds_toArray, List.set_cons_zero, List.set_cons_succ]
    refine takeL (i := 20) (v := undef) rfl (by kernel_rfl) (by kernel_rfl) (by kernel_rfl) (fun _ _ _ h => h) (Or.inr ⟨rfl, rfl⟩) hq0 ?_
    simp only [Act.put, List.setIfInBounds_toArray, List.set_cons_zero, List.set_cons_succ]
    refine takeL (i := 21) (v := undef) rfl (by kernel_rfl) (by kernel_rfl) (by kernel_rfl) (fun _ _ _ h => h) (Or.inr ⟨rfl, rfl⟩) hq0 ?_
    simp only [Act.put, List.setIfInBounds_toArray, List.set_cons_zero, List.set_cons_succ]
    refine takeL (i := 22) (v := undef) rfl (by kernel_rfl) (by kernel_rfl) (by kernel_rfl) (fun _ _ _ h => h) (Or.inr ⟨rfl, rfl⟩) hq0 ?_
    simp only [Act.put, List.setIfInBounds_toArray, List.set_cons_zero, List.set_cons_succ]
    refine takeL (i := 23) (v := undef) rfl (by kernel_rfl) (by kernel_rfl) (by kernel_rfl) (fun _ _ _ h => h) (Or.inr ⟨rfl, rfl⟩) hq0 ?_
    simp only [Act.put, List.setIfInBounds_toArray, List.set_cons_zero, List.set_cons_succ]
    refine takeL (i := 24) (v := undef) rfl (by kernel_rfl) (by kernel_rfl) (by kernel_rfl) (fun _ _ _ h => h) (Or.inr ⟨rfl, rfl⟩) hq0 ?_
    simp only [Act.put, List.setIfInBounds_toArray, List.set_cons_zero, List.set_cons_succ]
    refine takeL (i := 25) (v := undef) rfl (by kernel_rfl) (by kernel_rfl) (by kernel_rfl) (fun _ _ _ h => h) (Or.inr ⟨rfl, rfl⟩) hq0 ?_
    simp only [Act.put, List.setIfInBounds_toArray, List.set_cons_zero, List.set_cons_succ]
    refine takeL (i := 26) (v := undef) rfl (by kernel_rfl) (by kernel_rfl) (by kernel_rfl) (fun _ _ _ h => h) (Or.inr ⟨rfl, rfl⟩) hq0 ?_
    simp only [Act.put, List.setIfInBounds_toArray, List.set_cons_zero, List.set_cons_succ]
    refine takeL (i := 27) (v := undef) rfl (by kernel_rfl) (by kernel_rfl) (by kernel_rfl) (fun _ _ _ h => h) (Or.inr ⟨rfl, rfl⟩) hq0 ?_
    simp only [Act.put, List.setIfInBounds_toArray, List.set_cons_zero, List.set_cons_succ]
    refine takeL (i := 28) (v := undef) rfl (by kernel_rfl) (by kernel_rfl) (by kernel_rfl) (fun _ _ _ h => h) (Or.inr ⟨rfl, rfl⟩) hq0 ?_
    simp only [Act.put, List.setIfInBounds_toArray, List.set_cons_zero, List.set_cons_succ]
    refine takeL (i := 29) (v := undef) rfl (by kernel_rfl) (by kernel_rfl) (by kernel_rfl) (fun _ _ _ h => h) (Or.inr ⟨rfl, rfl⟩) hq0 ?_
    simp only [Act.put, List.setIfInBounds_toArray, List.set_cons_zero, List.set_cons_succ]
    refine takeL (i := 30) (v := undef) rfl (by kernel_rfl) (by kernel_rfl) (by kernel_rfl) (fun _ _ _ h => h) (Or.inr ⟨rfl, rfl⟩) hq0 ?_
    simp only [Act.put, List.setIfInBounds_toArray, List.set_cons_zero, List.set_cons_succ]
    refine takeL (i := 31) (v := (.bool true)) rfl (by kernel_rfl) (by kernel_rfl) (by kernel_rfl) (fun _ _ _ h => h) (Or.inl ⟨rfl, fun _ _ => rfl⟩) hq0 ?_
    simp only [Act.put, List.setIfInBounds_toArray, List.set_cons_zero, List.set_cons_succ]
    refine takeL (i := 32) (v := (.bool true)) rfl (by kernel_rfl) (by kernel_rfl) (by kernel_rfl) (fun _ _ _ h => h) (Or.inl ⟨rfl, fun _ _ => rfl⟩) hq0 ?_
    simp only [Act.put, List.setIfInBounds_toArray, List.set_cons_zero, List.set_cons_succ]
    refine wpAnyH_done (by kernel_rfl) ?_ _
    go_wp2_with fail
    go_ret
    exact ⟨by simp [trMay, h7], HEz.out.trans hq0⟩
theorem tr_rootLearns (w : World) (F : Nat → Prop) (X g k : Nat) (B : Br) (h : BrG w F X g B) (ho : B.ok) (hk : k < B.np) : Calls Try.prog 71 #[placeV g k X] w fun e w' => e = .returned (.bool (trMay B k && !B.gb k 28)) ∧ Ext w w' := by
  obtain ⟨hX, hg, hne⟩ := h.lt
  have H := Lib.hid h
  obtain ⟨m, hm⟩ : ∃ m, trMay B k = m := ⟨_, rfl⟩
  rw [hm]
  have HM := Lib.hid hm
  clear hm
  obtain ⟨x28, e28⟩ : ∃ b, B.gb k 28 = b := ⟨_, rfl⟩
  rw [e28]
  have HE28 := Lib.hid e28
  clear e28
  unfold placeV
  go_enter Try.func71, Try.ntmps71
  go_wp2_with fail
  refine (tr_rootMay _ F X g k B (H.out.ext ((Ext.refl w).alloc _)) ho hk).mono ?_
  rintro e w1 ⟨he, hx⟩
  rw [HM.out] at he
  obtain rfl : e = .returned (.bool m) := he
  have hP := (hx.block _ (by simp)).trans (heap_alloc_new w _)
  have c0 : w1.cell? ⟨w.heap.size, 0, none⟩ = some (.pointer (some ⟨g, k * 89, none⟩)) := (cell_of_row _ _ _ _ _ _ hP).trans rfl
  have hB1 := H.out.ext (((Ext.refl w).alloc _).trans hx)
  have HX := Lib.hid hx
  have p28 := (hB1.cellg (i := k * 89 + 28) (lt89 hk (by decide))).trans (ho.gb hk 28 rfl)
  rw [HE28.out] at p28
  clear h hX hg hne hx hP hB1
  cases m
  all_goals
    go_wp2_with fail
    go_ret
    exact ⟨by simp, ((Ext.refl w).alloc _).trans HX.out⟩

theorem tr_rootForwards (w : World) (F : Nat → Prop) (X g k : Nat) (B : Br) (h : BrG w F X g B) (ho : B.ok) (hk : k < B.np) : Calls Try.prog 73 #[placeV g k X] w fun e w' => e = .returned (.bool (trMay B k && B.gb k 28 && !B.gb k 26)) ∧ Ext w w' := by
  obtain ⟨hX, hg, hne⟩ := h.lt
  have H := Lib.hid h
  obtain ⟨m, hm⟩ : ∃ m, trMay B k = m := ⟨_, rfl⟩
  rw [hm]
  have HM := Lib.hid hm
  clear hm
  obtain ⟨x28, e28⟩ : ∃ b, B.gb k 28 = b := ⟨_, rfl⟩
  rw [e28]
  have HE28 := Lib.hid e28
  clear e28
  obtain ⟨x26, e26⟩ : ∃ b, B.gb k 26 = b := ⟨_, rfl⟩
  rw [e26]
  have HE26 := Lib.hid e26
  clear e26
  unfold placeV
  go_enter Try.func73, Try.ntmps73
  go_wp2_with fail
  refine (tr_rootMay _ F X g k B (H.out.ext ((Ext.refl w).alloc _)) ho hk).mono ?_
  rintro e w1 ⟨he, hx⟩
  rw [HM.out] at he
  obtain rfl : e = .returned (.bool m) := he
  have hP := (hx.block _ (by simp)).trans (heap_alloc_new w _)
  have c0 : w1.cell? ⟨w.heap.size, 0, none⟩ = some (.pointer (some ⟨g, k * 89, none⟩)) := (cell_of_row _ _ _ _ _ _ hP).trans rfl
  have hB1 := H.out.ext (((Ext.refl w).alloc _).trans hx)
  have HX := Lib.hid hx
  have p28 := (hB1.cellg (i := k * 89 + 28) (lt89 hk (by decide))).trans (ho.gb hk 28 rfl)
  rw [HE28.out] at p28
  have p26 := (hB1.cellg (i := k * 89 + 26) (lt89 hk (by decide))).trans (ho.gb hk 26 rfl)
  rw [HE26.out] at p26
  clear h hX hg hne hx hP hB1
  cases m <;> cases x28
  all_goals
    go_wp2_with fail
    go_ret
    exact ⟨by simp, ((Ext.refl w).alloc _).trans HX.out⟩

theorem tr_agrees (w : World) (F : Nat → Prop) (X g k : Nat) (B : Br) (h : BrG w F X g B) (ho : B.ok) (hk : k < B.np) : Calls Try.prog 63 #[placeV g k X] w fun e w' => e = .returned (.bool (trAgs B k)) ∧ Ext w w' := by
  unfold trAgs
  obtain ⟨m, hm⟩ : ∃ m, trAll B = m := ⟨_, rfl⟩
  rw [hm]
  have HM := Lib.hid hm
  clear hm
  obtain ⟨x22, e22⟩ : ∃ b, B.gb k 22 = b := ⟨_, rfl⟩
  rw [e22]
  have HE22 := Lib.hid e22
  clear e22
  obtain ⟨x33, e33⟩ : ∃ b, B.gb k 33 = b := ⟨_, rfl⟩
  rw [e33]
  have HE33 := Lib.hid e33
  clear e33
  obtain ⟨hX, hg, hne⟩ := h.lt
  have hB0 := h.alloc (.cells #[.pointer (some ⟨g, k * 89, none⟩), .pointer (some ⟨X, 0, none⟩), .int .i64 k] 68)
  obtain ⟨C, hC, hCb, hCz⟩ := hB0.br (by omega)
  have HC := Lib.hid hC
  have HCb := Lib.hid hCb
  have HCi := Lib.hid (show (Try.prog.info? 33).map (·.size) = some C.size by rw [hCz, ho.hd.1]; exact size_br)
  have H0 := Lib.hid hB0
  clear hC hCb hCz hB0 h
  unfold placeV
  go_enter Try.func63, Try.ntmps63
  have hs : w.heap.size ≠ X := by omega
  go_wp2_with (first | fail | ((with_reducible refine at_load 33 ?_); refine wpList_load_row rfl 33 _ rfl X rfl 33 C (0, 0) _ HC.out Try.underlying33 rfl HCi.out ?_))
  refine (tr_alls C B _ HCb.out ho).mono ?_
  rintro e w1 ⟨he, hx⟩
  rw [HM.out] at he
  obtain rfl : e = .returned (.bool m) := he
  have hB1 := H0.out.ext hx
  have p22 := (hB1.cellg (i := k * 89 + 22) (lt89 hk (by decide))).trans (ho.gb hk 22 rfl)
  have p33 := (hB1.cellg (i := k * 89 + 33) (lt89 hk (by decide))).trans (ho.gb hk 33 rfl)
  rw [HE22.out] at p22
  rw [HE33.out] at p33
  have HX := Lib.hid hx
  clear hx hB1 hX hg hne hs
  cases m <;> cases x22 <;> cases x33
  all_goals
    go_wp2_with fail
    go_ret
    exact ⟨by simp, ((Ext.refl w).alloc _).trans HX.out⟩

theorem tr_syncs (w : World) (F : Nat → Prop) (X g k : Nat) (B : Br) (h : BrG w F X g B) (ho : B.ok) (hk : k < B.np) : Calls Try.prog 81 #[placeV g k X] w fun e w' => e = .returned (.bool (if B.gb k 47 = true then B.gb k 46 else (!B.gb k 29 && !B.gb k 27) || B.gb k 23 || B.gb k 32)) ∧ Ext w w' := by
  obtain ⟨m, hm⟩ : ∃ m, (!B.gb k 29 && !B.gb k 27) = m := ⟨_, rfl⟩
  rw [hm]
  have HM := Lib.hid hm
  clear hm
  obtain ⟨x23, e23⟩ : ∃ b, B.gb k 23 = b := ⟨_, rfl⟩
  rw [e23]
  have HE23 := Lib.hid e23
  clear e23
  obtain ⟨x32, e32⟩ : ∃ b, B.gb k 32 = b := ⟨_, rfl⟩
  rw [e32]
  have HE32 := Lib.hid e32
  clear e32
  obtain ⟨hX, hg, hne⟩ := h.lt
  have p47 := (h.cellg (i := k * 89 + 47) (lt89 hk (by decide))).trans (ho.gb hk 47 rfl)
  have p46 := (h.cellg (i := k * 89 + 46) (lt89 hk (by decide))).trans (ho.gb hk 46 rfl)
  have H := Lib.hid h
  have hs : w.heap.size ≠ g := by omega
  clear h
  unfold placeV
  go_enter Try.func81, Try.ntmps81
  cases h47 : B.gb k 47
  · rw [h47] at p47
    go_wp2_with fail
    refine (tr_still _ F X g k B (H.out.ext ((Ext.refl w).alloc _)) ho hk).mono ?_
    rintro e w1 ⟨he, hx⟩
    rw [HM.out] at he
    obtain rfl : e = .returned (.bool m) := he
    have hB1 := H.out.ext (((Ext.refl w).alloc _).trans hx)
    have p23 := (hB1.cellg (i := k * 89 + 23) (lt89 hk (by decide))).trans (ho.gb hk 23 rfl)
    have p32 := (hB1.cellg (i := k * 89 + 32) (lt89 hk (by decide))).trans (ho.gb hk 32 rfl)
    rw [HE23.out] at p23
    rw [HE32.out] at p32
    have HX := Lib.hid hx
    clear hx hB1 p46 p47 h47
    cases m <;> cases x23
    all_goals
      go_wp2_with fail
      go_ret
      exact ⟨by simp, ((Ext.refl w).alloc _).trans HX.out⟩
  · rw [h47] at p47
    go_wp2_with fail
    go_ret
    exact ⟨by simp, (Ext.refl w).alloc _⟩

set_option maxHeartbeats 4000000 in
theorem tr_retires (w : World) (F : Nat → Prop) (X g k : Nat) (B : Br) (h : BrG w F X g B) (ho : B.ok) (hk : k < B.np) : Calls Try.prog 84 #[placeV g k X] w fun e w' => e = .returned (.bool ((B.gb k 28 || B.gb k 26) && !B.gb k 32 && ((B.gb k 46 && !B.gb k 47) || (B.gb k 42 && B.gi k 12 != 0) || B.gb k 24))) ∧ Ext w w' := by
  obtain ⟨hX, hg, hne⟩ := h.lt
  have p46 := (h.cellg (i := k * 89 + 46) (lt89 hk (by decide))).trans (ho.gb hk 46 rfl)
  have p47 := (h.cellg (i := k * 89 + 47) (lt89 hk (by decide))).trans (ho.gb hk 47 rfl)
  have p42 := (h.cellg (i := k * 89 + 42) (lt89 hk (by decide))).trans (ho.gb hk 42 rfl)
  have p24 := (h.cellg (i := k * 89 + 24) (lt89 hk (by decide))).trans (ho.gb hk 24 rfl)
  have p28 := (h.cellg (i := k * 89 + 28) (lt89 hk (by decide))).trans (ho.gb hk 28 rfl)
  have p26 := (h.cellg (i := k * 89 + 26) (lt89 hk (by decide))).trans (ho.gb hk 26 rfl)
  have p32 := (h.cellg (i := k * 89 + 32) (lt89 hk (by decide))).trans (ho.gb hk 32 rfl)
  have p12 := (h.cellg (i := k * 89 + 12) (lt89 hk (by decide))).trans (ho.gi hk 12 rfl)
  have hs : w.heap.size ≠ g := by omega
  clear h
  obtain ⟨x46, e46⟩ : ∃ b, B.gb k 46 = b := ⟨_, rfl⟩
  rw [e46] at p46 ⊢
  obtain ⟨x47, e47⟩ : ∃ b, B.gb k 47 = b := ⟨_, rfl⟩
  rw [e47] at p47 ⊢
  obtain ⟨x42, e42⟩ : ∃ b, B.gb k 42 = b := ⟨_, rfl⟩
  rw [e42] at p42 ⊢
  obtain ⟨x24, e24⟩ : ∃ b, B.gb k 24 = b := ⟨_, rfl⟩
  rw [e24] at p24 ⊢
  obtain ⟨x28, e28⟩ : ∃ b, B.gb k 28 = b := ⟨_, rfl⟩
  rw [e28] at p28 ⊢
  obtain ⟨x26, e26⟩ : ∃ b, B.gb k 26 = b := ⟨_, rfl⟩
  rw [e26] at p26 ⊢
  obtain ⟨x32, e32⟩ : ∃ b, B.gb k 32 = b := ⟨_, rfl⟩
  rw [e32] at p32 ⊢
  obtain ⟨x12, e12⟩ : ∃ b, B.gi k 12 = b := ⟨_, rfl⟩
  rw [e12] at p12 ⊢
  clear e46 e47 e42 e24 e28 e26 e32 e12
  unfold placeV
  go_enter Try.func84, Try.ntmps84
  cases x46
  · cases x42
    · cases x28
      · cases x26
        · go_wp2_with fail
          go_ret
          exact ⟨by first | (simp; done) | simp [hz], (Ext.refl w).alloc _⟩
        · cases x32
          · go_wp2_with fail
            go_ret
            exact ⟨by first | (simp; done) | simp [hz], (Ext.refl w).alloc _⟩
          · go_wp2_with fail
            go_ret
            exact ⟨by first | (simp; done) | simp [hz], (Ext.refl w).alloc _⟩
      · cases x32
        · go_wp2_with fail
          go_ret
          exact ⟨by first | (simp; done) | simp [hz], (Ext.refl w).alloc _⟩
        · go_wp2_with fail
          go_ret
          exact ⟨by first | (simp; done) | simp [hz], (Ext.refl w).alloc _⟩
    · cases hz : (x12 != 0)
      · cases x28
        · cases x26
          · go_wp2_with fail
            go_ret
            exact ⟨by first | (simp; done) | simp [hz], (Ext.refl w).alloc _⟩
          · cases x32
            · go_wp2_with fail
              go_ret
              exact ⟨by first | (simp; done) | simp [hz], (Ext.refl w).alloc _⟩
            · go_wp2_with fail
              go_ret
              exact ⟨by first | (simp; done) | simp [hz], (Ext.refl w).alloc _⟩
        · cases x32
          · go_wp2_with fail
            go_ret
            exact ⟨by first | (simp; done) | simp [hz], (Ext.refl w).alloc _⟩
          · go_wp2_with fail
            go_ret
            exact ⟨by first | (simp; done) | simp [hz], (Ext.refl w).alloc _⟩
      · cases x28
        · cases x26
          · go_wp2_with fail
            go_ret
            exact ⟨by first | (simp; done) | simp [hz], (Ext.refl w).alloc _⟩
          · cases x32
            · go_wp2_with fail
              go_ret
              exact ⟨by first | (simp; done) | simp [hz], (Ext.refl w).alloc _⟩
            · go_wp2_with fail
              go_ret
              exact ⟨by first | (simp; done) | simp [hz], (Ext.refl w).alloc _⟩
        · cases x32
          · go_wp2_with fail
            go_ret
            exact ⟨by first | (simp; done) | simp [hz], (Ext.refl w).alloc _⟩
          · go_wp2_with fail
            go_ret
            exact ⟨by first | (simp; done) | simp [hz], (Ext.refl w).alloc _⟩
  · cases x47
    · cases x28
      · cases x26
        · go_wp2_with fail
          go_ret
          exact ⟨by first | (simp; done) | simp [hz], (Ext.refl w).alloc _⟩
        · cases x32
          · go_wp2_with fail
            go_ret
            exact ⟨by first | (simp; done) | simp [hz], (Ext.refl w).alloc _⟩
          · go_wp2_with fail
            go_ret
            exact ⟨by first | (simp; done) | simp [hz], (Ext.refl w).alloc _⟩
      · cases x32
        · go_wp2_with fail
          go_ret
          exact ⟨by first | (simp; done) | simp [hz], (Ext.refl w).alloc _⟩
        · go_wp2_with fail
          go_ret
          exact ⟨by first | (simp; done) | simp [hz], (Ext.refl w).alloc _⟩
    · cases x42
      · cases x28
        · cases x26
          · go_wp2_with fail
            go_ret
            exact ⟨by first | (simp; done) | simp [hz], (Ext.refl w).alloc _⟩
          · cases x32
            · go_wp2_with fail
              go_ret
              exact ⟨by first | (simp; done) | simp [hz], (Ext.refl w).alloc _⟩
            · go_wp2_with fail
              go_ret
              exact ⟨by first | (simp; done) | simp [hz], (Ext.refl w).alloc _⟩
        · cases x32
          · go_wp2_with fail
            go_ret
            exact ⟨by first | (simp; done) | simp [hz], (Ext.refl w).alloc _⟩
          · go_wp2_with fail
            go_ret
            exact ⟨by first | (simp; done) | simp [hz], (Ext.refl w).alloc _⟩
      · cases hz : (x12 != 0)
        · cases x28
          · cases x26
            · go_wp2_with fail
              go_ret
              exact ⟨by first | (simp; done) | simp [hz], (Ext.refl w).alloc _⟩
            · cases x32
              · go_wp2_with fail
                go_ret
                exact ⟨by first | (simp; done) | simp [hz], (Ext.refl w).alloc _⟩
              · go_wp2_with fail
                go_ret
                exact ⟨by first | (simp; done) | simp [hz], (Ext.refl w).alloc _⟩
          · cases x32
            · go_wp2_with fail
              go_ret
              exact ⟨by first | (simp; done) | simp [hz], (Ext.refl w).alloc _⟩
            · go_wp2_with fail
              go_ret
              exact ⟨by first | (simp; done) | simp [hz], (Ext.refl w).alloc _⟩
        · cases x28
          · cases x26
            · go_wp2_with fail
              go_ret
              exact ⟨by first | (simp; done) | simp [hz], (Ext.refl w).alloc _⟩
            · cases x32
              · go_wp2_with fail
                go_ret
                exact ⟨by first | (simp; done) | simp [hz], (Ext.refl w).alloc _⟩
              · go_wp2_with fail
                go_ret
                exact ⟨by first | (simp; done) | simp [hz], (Ext.refl w).alloc _⟩
          · cases x32
            · go_wp2_with fail
              go_ret
              exact ⟨by first | (simp; done) | simp [hz], (Ext.refl w).alloc _⟩
            · go_wp2_with fail
              go_ret
              exact ⟨by first | (simp; done) | simp [hz], (Ext.refl w).alloc _⟩

end Go.Proofs.Ytnblchilgaimhaa
