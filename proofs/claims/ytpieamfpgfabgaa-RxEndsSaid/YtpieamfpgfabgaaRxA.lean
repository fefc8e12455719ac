/- The receive machine: its row. No statement is proved here. -/
import Derived.Test.YtpieamfpgfabgaaRg
namespace Go.Proofs.Ytpieamfpgfabgaa
open Go.RowKit Go.BigFrame Go.WideShapes Go.ChangeShapes Go.Deep
set_option linter.unusedVariables false

/-- Which row holds: 1 discards, 2 receives, 0 none. -/
def rxSel (en bpdu msg : Bool) (ed rx : Int) : Nat :=
  if (!en && (bpdu || (ed != 3))) = true then 1 else if (!en || !bpdu) = true then 0 else if (rx == 0 || ((rx == 1) && !msg)) = true then 2 else 0
def rxFun (n : Nat) (p : Value) : Value := if n = 1 then .func (.func 33) #[.agg #[p]] #[] else if n = 2 then .func (.func 34) #[.agg #[p]] #[] else Value.nilFunc

set_option maxRecDepth 100000 in
set_option maxHeartbeats 1000000 in
theorem rx_row (g o : Nat) (w : World) (en bpdu msg : Bool) (ed rx : Int) (fl : List Value) (h2 : w.cell? ⟨g, o + 2, none⟩ = some (.bool en)) (h6 : w.cell? ⟨g, o + 6, none⟩ = some (.int .i64 ed)) (h15 : w.cell? ⟨g, o + 15, none⟩ = some (.int .i64 rx))
    (hfl : w.rangeAt g (o + 22) fl) (hfn : fl.length = 29) (hone : ∀ v ∈ fl, v.oneCell' = true) (f13 : fl[13]? = some (.bool bpdu)) (f14 : fl[14]? = some (.bool msg)) (hg : g < w.heap.size) :
    Calls Try.prog 24 #[.agg #[.pointer (some ⟨g, o, none⟩)]] w fun e w' => e = .returned (rxFun (rxSel en bpdu msg ed rx) (.pointer (some ⟨g, o, none⟩))) ∧ Ext w w' := by
  have HF := Lib.hid hfl
  have HO := Lib.hid hone
  have HN := Lib.hid hfn
  have F13 := Lib.hid f13
  have F14 := Lib.hid f14
  have H2 := Lib.hid h2
  have H6 := Lib.hid h6
  have H15 := Lib.hid h15
  clear hfl hone hfn f13 f14 h2 h6 h15
  go_enter Try.func24, Try.ntmps24
  go_wp2
  have hw0 := (Ext.refl w).alloc (.cells #[.pointer (some ⟨g, o, none⟩)] 60)
  have z0 : (w.alloc (.cells #[.pointer (some ⟨g, o, none⟩)] 60)).cell? ⟨w.heap.size, 0, none⟩ = some (.pointer (some ⟨g, o, none⟩)) := (World.cell?_alloc_at _ _ _ _ rfl).trans rfl
  have hb0 : w.heap.size < (w.alloc (.cells #[.pointer (some ⟨g, o, none⟩)] 60)).heap.size := by simp
  generalize w.alloc (.cells #[.pointer (some ⟨g, o, none⟩)] 60) = wz at *
  obtain ⟨b0, hb00⟩ : ∃ b, w.heap.size = b := ⟨_, rfl⟩
  rw [hb00] at z0 hb0 ⊢
  have hgz : g < wz.heap.size := Nat.lt_of_lt_of_le hg hw0.size
  have hfl := rangeAt_ext HF.out hw0 hg
  have h15 := (hw0.cell (p := ⟨g, o + 15, none⟩) hg).trans H15.out
  have hfn := HN.out
  have hone := HO.out
  have hfi : (Try.prog.info? 50).map (·.size) = some fl.length := by rw [hfn]; exact size_flags
  refine beginL (S := fun W' => Ext wz W') (by kernel_rfl) ?_
  intro wd hrf
  refine takeL (i := 0) (v := (.pointer (some ⟨b0, 0, none⟩))) rfl (by kernel_rfl) (by kernel_rfl) (by kernel_rfl) (fun _ _ _ h => h) (Or.inl ⟨rfl, fun _ _ => rfl⟩) hrf ?_
  simp only [Act.put, List.setIfInBounds_toArray, List.set_cons_zero, List.set_cons_succ]
  refine takeL (i := 1) (v := _) rfl (by kernel_rfl) (by kernel_rfl) (by kernel_rfl) (fun _ _ _ h => h) (yieldsIf_cell rfl 54 _ rfl ⟨b0, 0, none⟩ rfl (.pointer (some ⟨g, o, none⟩)) _ (fun W' hW' => (hW'.cell (p := ⟨b0, 0, none⟩) hb0).trans z0) Try.underlying54 rfl) hrf ?_
  simp only [Act.put, List.setIfInBounds_toArray, List.set_cons_zero, List.set_cons_succ]
  refine takeL (i := 2) (v := (.pointer (some ⟨g, o, none⟩))) rfl (by kernel_rfl) (by kernel_rfl) (by kernel_rfl) (fun _ _ _ h => h) (Or.inl ⟨rfl, fun _ _ => rfl⟩) hrf ?_
  simp only [Act.put, List.setIfInBounds_toArray, List.set_cons_zero, List.set_cons_succ]
  refine takeL (i := 3) (v := (.pointer (some ⟨g, o + 22, none⟩))) rfl (by kernel_rfl) (by kernel_rfl) (by kernel_rfl) (fun _ _ _ h => h) (Or.inl ⟨rfl, fun _ _ => rfl⟩) hrf ?_
  simp only [Act.put, List.setIfInBounds_toArray, List.set_cons_zero, List.set_cons_succ]
  refine takeL (i := 4) (v := _) rfl (by kernel_rfl) (by kernel_rfl) (by kernel_rfl) (fun _ _ _ h => h) (yieldsIf_load_mid rfl 50 _ rfl g (o + 22) rfl (fl) _ (fun W' hW' => rangeAt_ext hfl hW' hgz) Try.underlying50 rfl hfi) hrf ?_
  simp only [Act.put, List.setIfInBounds_toArray, List.set_cons_zero, List.set_cons_succ]
  refine takeL (i := 5) (v := (.pointer (some ⟨b0, 0, none⟩))) rfl (by kernel_rfl) (by kernel_rfl) (by kernel_rfl) (fun _ _ _ h => h) (Or.inl ⟨rfl, fun _ _ => rfl⟩) hrf ?_
  simp only [Act.put, List.setIfInBounds_toArray, List.set_cons_zero, List.set_cons_succ]
  refine takeL (i := 6) (v := _) rfl (by kernel_rfl) (by kernel_rfl) (by kernel_rfl) (fun _ _ _ h => h) (yieldsIf_cell rfl 54 _ rfl ⟨b0, 0, none⟩ rfl (.pointer (some ⟨g, o, none⟩)) _ (fun W' hW' => (hW'.cell (p := ⟨b0, 0, none⟩) hb0).trans z0) Try.underlying54 rfl) hrf ?_
  simp only [Act.put, List.setIfInBounds_toArray, List.set_cons_zero, List.set_cons_succ]
  refine takeL (i := 7) (v := (.pointer (some ⟨g, o, none⟩))) rfl (by kernel_rfl) (by kernel_rfl) (by kernel_rfl) (fun _ _ _ h => h) (Or.inl ⟨rfl, fun _ _ => rfl⟩) hrf ?_
  simp only [Act.put, List.setIfInBounds_toArray, List.set_cons_zero, List.set_cons_succ]
  refine takeL (i := 8) (v := (.pointer (some ⟨g, o + 15, none⟩))) rfl (by kernel_rfl) (by kernel_rfl) (by kernel_rfl) (fun _ _ _ h => h) (Or.inl ⟨rfl, fun _ _ => rfl⟩) hrf ?_
  simp only [Act.put, List.setIfInBounds_toArray, List.set_cons_zero, List.set_cons_succ]
  refine takeL (i := 9) (v := (.pointer (some ⟨g, o + 15, none⟩))) rfl (by kernel_rfl) (by kernel_rfl) (by kernel_rfl) (fun _ _ _ h => h) (Or.inl ⟨rfl, fun _ _ => rfl⟩) hrf ?_
  simp only [Act.put, List.setIfInBounds_toArray, List.set_cons_zero, List.set_cons_succ]
  refine takeL (i := 10) (v := _) rfl (by kernel_rfl) (by kernel_rfl) (by kernel_rfl) (fun _ _ _ h => h) (yieldsIf_cell rfl 3 _ rfl ⟨g, o + 15, none⟩ rfl (.int .i64 rx) _ (fun W' hW' => (hW'.cell (p := ⟨g, o + 15, none⟩) hgz).trans h15) Try.underlying3 rfl) hrf ?_
  simp only [Act.put, List.setIfInBounds_toArray, List.set_cons_zero, List.set_cons_succ]
  refine runL (i := 11) rfl rfl (by kernel_rfl) (fun K hK => ?_)
  refine wp_alloc_zero 50 rfl FZ (zero_flags _) ?_
  refine hK.out _ _ (hrf.alloc _) (fun hHeld => ?_)
  try simp only [Act.put, List.setIfInBounds_toArray, List.set_cons_zero, List.set_cons_succ]
  clear hK K
  refine runL (i := 12) rfl rfl (by kernel_rfl) (fun K hK => ?_)
  refine wp_store_row 50 _ _ rfl wd.heap.size _ FZ fl.toArray rfl rfl (heap_alloc_new _ _) (by rw [List.size_toArray]; exact hfi) (by rw [List.size_toArray]; exact hfn.symm) (all_oneCell_toArray hone) ?_
  refine hK.out _ _ (ext_setRow (hrf.alloc _) hrf.size _) (fun hHeld => ?_)
  try simp only [Act.put, List.setIfInBounds_toArray, List.set_cons_zero, List.set_cons_succ]
  clear hK K
  refine takeL (i := 13) (v := (.int .i64 rx)) rfl (by kernel_rfl) (by kernel_rfl) (by kernel_rfl) (fun _ _ _ h => h) (Or.inl ⟨rfl, fun _ _ => rfl⟩) hHeld ?_
  simp only [Act.put, List.setIfInBounds_toArray, List.set_cons_zero, List.set_cons_succ]
  refine wpAnyH_done (by kernel_rfl) ?_ _
  have hX := setRow_heap _ _ _ fl.toArray _ _ (heap_alloc_new wd (.cells FZ 50))
  generalize hw2 : (wd.alloc (.cells FZ 50)).setRow wd.heap.size fl.toArray = w2 at *
  have hE := Ext.trans hw0 hHeld
  have y0 := (hHeld.cell (p := ⟨b0, 0, none⟩) hb0).trans z0
  have q2 := (hE.cell (p := ⟨g, o + 2, none⟩) hg).trans H2.out
  have q6 := (hE.cell (p := ⟨g, o + 6, none⟩) hg).trans H6.out
  have q13 : w2.cell? ⟨wd.heap.size, 13, none⟩ = some (.bool bpdu) := by rw [cell_of_row _ _ _ _ _ _ hX]; simpa using F13.out
  have q14 : w2.cell? ⟨wd.heap.size, 14, none⟩ = some (.bool msg) := by rw [cell_of_row _ _ _ _ _ _ hX]; simpa using F14.out
  generalize wd.heap.size = n1 at *
  have HE := Lib.hid hE
  clear hHeld hE z0 hfl h15 hfn hone hfi hrf hX hw0 hb0 hgz hw2
  go_wp2
  all_goals
    go_ret
    refine ⟨?_, HE.out⟩
    simp_all [rxSel, rxFun]

end Go.Proofs.Ytpieamfpgfabgaa
