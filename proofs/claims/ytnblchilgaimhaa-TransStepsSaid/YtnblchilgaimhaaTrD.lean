/- Role transitions: actions with two stores. No statement is proved here. -/
import Derived.Test.YtnblchilgaimhaaTrC
namespace Go.Proofs.Ytnblchilgaimhaa
open Go.RowKit Go.BigFrame Go.WideShapes Go.ChangeShapes Go.Deep
set_option linter.unusedVariables false
set_option linter.unusedSimpArgs false

/-- Two that may come up, none guarded: either first. -/
theorem run2L {P : Program} {md : Region.Mode} {Q : Exit → Act → World → Prop} {S : World → Prop} {l r1 r2 : List Oper} {i j : Nat} {oi oj : Oper} {fuel : Nat} {listed : Array Bool} {a : Act} {w : World} (hi : l.drop i = oi :: r1) (hj : l.drop j = oj :: r2)
    (hgi : oi.guard = none) (hgj : oj.guard = none) (hr : Region.ready md l.toArray listed = [i, j])
    (h1 : ∀ K' : Act → World → Prop, Shut (∀ a w, S w → (S w → wpAnyH P md l.toArray Q S fuel (listed.setIfInBounds i true) a w) → K' a w) → Oper.wp P oi a w K' Q)
    (h2 : ∀ K' : Act → World → Prop, Shut (∀ a w, S w → (S w → wpAnyH P md l.toArray Q S fuel (listed.setIfInBounds j true) a w) → K' a w) → Oper.wp P oj a w K' Q) : wpAnyH P md l.toArray Q S (fuel + 1) listed a w := by
  refine wpAnyH_ready hr (by simp) (AllReadyH.cons (o := oi) ?_ (fun K hK => ?_) (AllReadyH.cons (o := oj) ?_ (fun K hK => ?_) AllReadyH.nil))
  · have e : (l.drop i)[0]? = some oi := by rw [hi]; rfl
    rw [List.getElem?_drop, Nat.add_zero] at e
    simpa using e
  · rw [if_pos (by simp [Region.wanted, hgi])]
    exact h1 K hK
  · have e : (l.drop j)[0]? = some oj := by rw [hj]; rfl
    rw [List.getElem?_drop, Nat.add_zero] at e
    simpa using e
  · rw [if_pos (by simp [Region.wanted, hgj])]
    exact h2 K hK

theorem tr_stop (w : World) (F : Nat → Prop) (X g k : Nat) (B : Br) (h : BrG w F X g B) (ho : B.ok) (hk : k < B.np) (hF : ∀ n, F n → n < w.heap.size) : Calls Try.prog 51 #[placeV g k X] w fun e w' => e = .returned (.tuple #[]) ∧ BrG w' F X g (((B.setp k 28 (.bool false)).setp k 26 (.bool false)).setp k 87 (.int .i64 (B.gi k 88))) ∧ Mut F w w' := by
  obtain ⟨hX, hg, hne⟩ := h.lt
  have H := Lib.hid h
  have hnb : ¬ F w.heap.size := fun hh => by have := hF _ hh; omega
  have HF := Lib.hid hF
  clear h hF
  unfold placeV
  go_enter Try.func51, Try.ntmps51
  go_wp2_with fail
  refine beginL (S := fun W' => Mut F (w.alloc (.cells #[.pointer (some ⟨g, k * 89, none⟩), .pointer (some ⟨X, 0, none⟩), .int .i64 k] 68)) W') (by kernel_rfl) ?_
  intro y hyx
  have hm := hyx.mut F
  have HYB := Lib.hid (H.out.ext (((Ext.refl w).alloc _).trans hyx))
  have hbx : w.heap.size < (w.alloc (.cells #[.pointer (some ⟨g, k * 89, none⟩), .pointer (some ⟨X, 0, none⟩), .int .i64 k] 68)).heap.size := by simp
  have c0 : (w.alloc (.cells #[.pointer (some ⟨g, k * 89, none⟩), .pointer (some ⟨X, 0, none⟩), .int .i64 k] 68)).cell? ⟨w.heap.size, 0, none⟩ = some (.pointer (some ⟨g, k * 89, none⟩)) := (cell_of_row _ _ _ _ _ _ (heap_alloc_new w _)).trans rfl
  have e28 := (HYB.out.cellg (i := k * 89 + 28) (lt89 hk (by decide))).trans (ho.gb hk 28 rfl)
  have e26 := (HYB.out.cellg (i := k * 89 + 26) (lt89 hk (by decide))).trans (ho.gb hk 26 rfl)
  have efr := HYB.out.frozen
  clear hyx
  refine takeL (i := 0) (v := (.pointer (some ⟨w.heap.size, 0, none⟩))) rfl (by kernel_rfl) (by kernel_rfl) (by kernel_rfl) (fun _ _ _ h => h) (Or.inl ⟨rfl, fun _ _ => rfl⟩) hm ?_
  simp only [Act.put, List.setIfInBounds_toArray, List.set_cons_zero, List.set_cons_succ]
  refine takeL (i := 1) (v := _) rfl (by kernel_rfl) (by kernel_rfl) (by kernel_rfl) (fun _ _ _ h => h) (yieldsIf_cell rfl 56 _ rfl ⟨w.heap.size, 0, none⟩ rfl (.pointer (some ⟨g, k * 89, none⟩)) _ (fun W' hW' => (hW'.cell (p := ⟨w.heap.size, 0, none⟩) hbx hnb).trans c0) Try.underlying56 rfl) hm ?_
  simp only [Act.put, List.setIfInBounds_toArray, List.set_cons_zero, List.set_cons_succ]
  refine takeL (i := 2) (v := (.pointer (some ⟨w.heap.size, 0, none⟩))) rfl (by kernel_rfl) (by kernel_rfl) (by kernel_rfl) (fun _ _ _ h => h) (Or.inl ⟨rfl, fun _ _ => rfl⟩) hm ?_
  simp only [Act.put, List.setIfInBounds_toArray, List.set_cons_zero, List.set_cons_succ]
  refine takeL (i := 3) (v := _) rfl (by kernel_rfl) (by kernel_rfl) (by kernel_rfl) (fun _ _ _ h => h) (yieldsIf_cell rfl 56 _ rfl ⟨w.heap.size, 0, none⟩ rfl (.pointer (some ⟨g, k * 89, none⟩)) _ (fun W' hW' => (hW'.cell (p := ⟨w.heap.size, 0, none⟩) hbx hnb).trans c0) Try.underlying56 rfl) hm ?_
  simp only [Act.put, List.setIfInBounds_toArray, List.set_cons_zero, List.set_cons_succ]
  refine takeL (i := 4) (v := (.pointer (some ⟨g, k * 89, none⟩))) rfl (by kernel_rfl) (by kernel_rfl) (by kernel_rfl) (fun _ _ _ h => h) (Or.inl ⟨rfl, fun _ _ => rfl⟩) hm ?_
  simp only [Act.put, List.setIfInBounds_toArray, List.set_cons_zero, List.set_cons_succ]
  refine takeL (i := 5) (v := (.pointer (some ⟨g, k * 89 + 22, none⟩))) rfl (by kernel_rfl) (by kernel_rfl) (by kernel_rfl) (fun _ _ _ h => h) (Or.inl ⟨rfl, fun _ _ => rfl⟩) hm ?_
  simp only [Act.put, List.setIfInBounds_toArray, List.set_cons_zero, List.set_cons_succ]
  refine takeL (i := 6) (v := (.pointer (some ⟨g, k * 89 + 28, none⟩))) rfl (by kernel_rfl) (by kernel_rfl) (by kernel_rfl) (fun _ _ _ h => h) (Or.inl ⟨rfl, fun _ _ => rfl⟩) hm ?_
  simp only [Act.put, List.setIfInBounds_toArray, List.set_cons_zero, List.set_cons_succ]
  refine runL (i := 7) rfl rfl (by kernel_rfl) (fun K hK => ?_)
  go_simp
  have hm1 := hm.setCell (p := ⟨g, k * 89 + 28, none⟩) (.inl HYB.out.F2) (.bool false)
  refine hK.out _ _ hm1 (fun hHeld => ?_)
  try simp only [Act.put, List.setIfInBounds_toArray, List.set_cons_zero, List.set_cons_succ]
  clear hK K hHeld
  have HB1 := Lib.hid (HYB.out.setp (k := k) (j := 28) hk (by decide) (.bool false))
  refine takeL (i := 8) (v := (.pointer (some ⟨g, k * 89, none⟩))) rfl (by kernel_rfl) (by kernel_rfl) (by kernel_rfl) (fun _ _ _ h => h) (Or.inl ⟨rfl, fun _ _ => rfl⟩) hm1 ?_
  simp only [Act.put, List.setIfInBounds_toArray, List.set_cons_zero, List.set_cons_succ]
  refine takeL (i := 9) (v := (.pointer (some ⟨g, k * 89 + 22, none⟩))) rfl (by kernel_rfl) (by kernel_rfl) (by kernel_rfl) (fun _ _ _ h => h) (Or.inl ⟨rfl, fun _ _ => rfl⟩) hm1 ?_
  simp only [Act.put, List.setIfInBounds_toArray, List.set_cons_zero, List.set_cons_succ]
  refine takeL (i := 10) (v := (.pointer (some ⟨g, k * 89 + 26, none⟩))) rfl (by kernel_rfl) (by kernel_rfl) (by kernel_rfl) (fun _ _ _ h => h) (Or.inl ⟨rfl, fun _ _ => rfl⟩) hm1 ?_
  simp only [Act.put, List.setIfInBounds_toArray, List.set_cons_zero, List.set_cons_succ]
  refine runL (i := 11) rfl rfl (by kernel_rfl) (fun K hK => ?_)
  go_simp
  have hm2 := hm1.setCell (p := ⟨g, k * 89 + 26, none⟩) (.inl HYB.out.F2) (.bool false)
  refine hK.out _ _ hm2 (fun hHeld => ?_)
  try simp only [Act.put, List.setIfInBounds_toArray, List.set_cons_zero, List.set_cons_succ]
  clear hK K hHeld
  refine wpAnyH_done (by kernel_rfl) ?_ _
  have HB2 := Lib.hid (HB1.out.setp (k := k) (j := 26) hk (by decide) (.bool false))
  have hm0 := (((Ext.refl w).alloc (.cells #[.pointer (some ⟨g, k * 89, none⟩), .pointer (some ⟨X, 0, none⟩), .int .i64 k] 68)).mut F).trans hm2
  have hP := (hm2.heap hbx hnb).trans (heap_alloc_new w (.cells #[.pointer (some ⟨g, k * 89, none⟩), .pointer (some ⟨X, 0, none⟩), .int .i64 k] 68))
  obtain ⟨y2, hy2⟩ : ∃ y2, (y.setCell ⟨g, k * 89 + 28, none⟩ (.bool false)).setCell ⟨g, k * 89 + 26, none⟩ (.bool false) = y2 := ⟨_, rfl⟩
  rw [hy2] at HB2 hm0 hP ⊢
  have HM0 := Lib.hid hm0
  have HP := Lib.hid hP
  clear hm hm1 hm2 hm0 hP hy2 c0 e28 e26 efr
  go_wp2_with (first | fail | ((with_reducible refine at_load 68 ?_); refine wpList_load_row rfl 68 _ rfl w.heap.size rfl 68 #[.pointer (some ⟨g, k * 89, none⟩), .pointer (some ⟨X, 0, none⟩), .int .i64 k] (0, 0) _ HP.out Try.underlying68 rfl size_place ?_))
  refine (tr_take _ F X g k _ HB2.out ((ho.setB hk 28 _ rfl).setB hk 26 _ rfl) hk).mono ?_
  rintro e w1 ⟨rfl, hb3, hm3⟩
  rw [gi_setp_ne _ _ _ _ _ (by decide), gi_setp_ne _ _ _ _ _ (by decide)] at hb3
  go_wp2_with fail
  go_end0
  exact ⟨rfl, hb3, HM0.out.trans hm3⟩

end Go.Proofs.Ytnblchilgaimhaa
