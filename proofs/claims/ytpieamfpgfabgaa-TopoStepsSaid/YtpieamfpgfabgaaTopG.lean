/- The machine of changes: its other actions; what is to be done in the other states. No statement is proved here. -/
import Derived.Test.YtpieamfpgfabgaaTopF
namespace Go.Proofs.Ytpieamfpgfabgaa
open Go.RowKit Go.BigFrame Go.WideShapes Go.ChangeShapes Go.Deep
set_option linter.unusedVariables false
set_option linter.unusedSimpArgs false

def tleave (B : Br) (k : Nat) : Br := (((B.setp k 25 (.bool true)).setp k 48 (.bool false)).setp k 13 (.int .i64 0)).setp k 21 (.int .i64 0)
def tactiv (B : Br) (k : Nat) : Br := ((tcp (tbegin B k) k B.np).setp k 31 (.bool true)).setp k 21 (.int .i64 2)
set_option maxRecDepth 100000 in
set_option maxHeartbeats 2000000 in
theorem top_leave (w : World) (F : Nat → Prop) (X g k : Nat) (B : Br) (h : BrG w F X g B) (ho : B.ok) (hk : k < B.np) (hn : B.np < 1000) (hT : TR (B.hi 2) (B.hi 3) (B.hi 4) (B.hi 5)) (hF : ∀ n, F n → n < w.heap.size) (b1 b2 : Nat) : Calls Try.prog 42 #[.agg #[.pointer (some ⟨g, k * 89, none⟩), .int .i64 (B.hi 2), .int .i64 (B.hi 3), .int .i64 (B.hi 4), .int .i64 (B.hi 5), .func (.func 35) #[] #[.pointer (some ⟨b1, 0, none⟩), .pointer (some ⟨b2, 0, none⟩)]]] w fun e w' => e = .returned (.tuple #[]) ∧ BrG w' F X g (tleave B k) ∧ Mut F w w' := by
  have hbF : ¬ F w.heap.size := fun hh => by have := hF _ hh; omega
  have HMz := Lib.hid ((Mut.refl F w).alloc (.cells #[.pointer (some ⟨g, k * 89, none⟩), .int .i64 (B.hi 2), .int .i64 (B.hi 3), .int .i64 (B.hi 4), .int .i64 (B.hi 5), .func (.func 35) #[] #[.pointer (some ⟨b1, 0, none⟩), .pointer (some ⟨b2, 0, none⟩)]] 65))
  have HBz := Lib.hid (h.alloc (.cells #[.pointer (some ⟨g, k * 89, none⟩), .int .i64 (B.hi 2), .int .i64 (B.hi 3), .int .i64 (B.hi 4), .int .i64 (B.hi 5), .func (.func 35) #[] #[.pointer (some ⟨b1, 0, none⟩), .pointer (some ⟨b2, 0, none⟩)]] 65))
  have HPz := Lib.hid (heap_alloc_new w (.cells #[.pointer (some ⟨g, k * 89, none⟩), .int .i64 (B.hi 2), .int .i64 (B.hi 3), .int .i64 (B.hi 4), .int .i64 (B.hi 5), .func (.func 35) #[] #[.pointer (some ⟨b1, 0, none⟩), .pointer (some ⟨b2, 0, none⟩)]] 65))
  have HZ0 := Lib.hid (show w.heap.size < (w.alloc (.cells #[.pointer (some ⟨g, k * 89, none⟩), .int .i64 (B.hi 2), .int .i64 (B.hi 3), .int .i64 (B.hi 4), .int .i64 (B.hi 5), .func (.func 35) #[] #[.pointer (some ⟨b1, 0, none⟩), .pointer (some ⟨b2, 0, none⟩)]] 65)).heap.size by simp)
  clear h hF hT
  go_enter Try.func42, Try.ntmps42
  go_wp2_with fail
  generalize hwz : w.alloc (.cells #[.pointer (some ⟨g, k * 89, none⟩), .int .i64 (B.hi 2), .int .i64 (B.hi 3), .int .i64 (B.hi 4), .int .i64 (B.hi 5), .func (.func 35) #[] #[.pointer (some ⟨b1, 0, none⟩), .pointer (some ⟨b2, 0, none⟩)]] 65) = wz at *
  clear hwz
  obtain ⟨b0, hb00⟩ : ∃ b, w.heap.size = b := ⟨_, rfl⟩
  rw [hb00] at HZ0 HPz hbF ⊢
  clear hb00
  have hb0 := HZ0.out
  have c0 : wz.cell? ⟨b0, 0, none⟩ = some (.pointer (some ⟨g, k * 89, none⟩)) := (cell_of_row _ _ _ _ _ _ HPz.out).trans rfl
  refine beginL (S := fun W' => Mut F wz W') (by kernel_rfl) ?_
  intro wd hqx
  have hq0 : Mut F wz wd := hqx.mut F
  have HBd := Lib.hid (HBz.out.ext hqx)
  have e25 := (HBd.out.cellg (i := k * 89 + 25) (lt89 hk (by decide))).trans (Br.ok.gb ho (k := k) hk 25 rfl)
  have e48 := (HBd.out.cellg (i := k * 89 + 48) (lt89 hk (by decide))).trans (Br.ok.gb ho (k := k) hk 48 rfl)
  have efr := HBd.out.frozen
  refine takeL (i := 0) (v := (.pointer (some ⟨b0, 0, none⟩))) rfl (by kernel_rfl) (by kernel_rfl) (by kernel_rfl) (fun _ _ _ h => h) (Or.inl ⟨rfl, fun _ _ => rfl⟩) hq0 ?_
  simp only [Act.put, List.setIfInBounds_toArray, List.set_cons_zero, List.set_cons_succ]
  refine takeL (i := 1) (v := _) rfl (by kernel_rfl) (by kernel_rfl) (by kernel_rfl) (fun _ _ _ h => h) (yieldsIf_cell rfl 54 _ rfl ⟨b0, 0, none⟩ rfl (.pointer (some ⟨g, k * 89, none⟩)) _ (fun W' hW' => (hW'.cell (p := ⟨b0, 0, none⟩) hb0 hbF).trans c0) Try.underlying54 rfl) hq0 ?_
  simp only [Act.put, List.setIfInBounds_toArray, List.set_cons_zero, List.set_cons_succ]
  refine takeL (i := 2) (v := (.pointer (some ⟨b0, 0, none⟩))) rfl (by kernel_rfl) (by kernel_rfl) (by kernel_rfl) (fun _ _ _ h => h) (Or.inl ⟨rfl, fun _ _ => rfl⟩) hq0 ?_
  simp only [Act.put, List.setIfInBounds_toArray, List.set_cons_zero, List.set_cons_succ]
  refine takeL (i := 3) (v := _) rfl (by kernel_rfl) (by kernel_rfl) (by kernel_rfl) (fun _ _ _ h => h) (yieldsIf_cell rfl 54 _ rfl ⟨b0, 0, none⟩ rfl (.pointer (some ⟨g, k * 89, none⟩)) _ (fun W' hW' => (hW'.cell (p := ⟨b0, 0, none⟩) hb0 hbF).trans c0) Try.underlying54 rfl) hq0 ?_
  simp only [Act.put, List.setIfInBounds_toArray, List.set_cons_zero, List.set_cons_succ]
  refine takeL (i := 4) (v := (.pointer (some ⟨g, k * 89, none⟩))) rfl (by kernel_rfl) (by kernel_rfl) (by kernel_rfl) (fun _ _ _ h => h) (Or.inl ⟨rfl, fun _ _ => rfl⟩) hq0 ?_
  simp only [Act.put, List.setIfInBounds_toArray, List.set_cons_zero, List.set_cons_succ]
  refine takeL (i := 5) (v := (.pointer (some ⟨g, k * 89 + 22, none⟩))) rfl (by kernel_rfl) (by kernel_rfl) (by kernel_rfl) (fun _ _ _ h => h) (Or.inl ⟨rfl, fun _ _ => rfl⟩) hq0 ?_
  simp only [Act.put, List.setIfInBounds_toArray, List.set_cons_zero, List.set_cons_succ]
  refine takeL (i := 6) (v := (.pointer (some ⟨g, k * 89 + 25, none⟩))) rfl (by kernel_rfl) (by kernel_rfl) (by kernel_rfl) (fun _ _ _ h => h) (Or.inl ⟨rfl, fun _ _ => rfl⟩) hq0 ?_
  simp only [Act.put, List.setIfInBounds_toArray, List.set_cons_zero, List.set_cons_succ]
  refine runL (i := 7) rfl rfl (by kernel_rfl) (fun K hK => ?_)
  go_simp
  have hq1 := hq0.setCell (p := ⟨g, k * 89 + 25, none⟩) (.inl HBz.out.F2) (.bool true)
  refine hK.out _ _ hq1 (fun hHeld => ?_)
  try simp only [Act.put, List.setIfInBounds_toArray, List.set_cons_zero, List.set_cons_succ]
  clear hK K hHeld
  refine takeL (i := 8) (v := (.pointer (some ⟨g, k * 89, none⟩))) rfl (by kernel_rfl) (by kernel_rfl) (by kernel_rfl) (fun _ _ _ h => h) (Or.inl ⟨rfl, fun _ _ => rfl⟩) hq1 ?_
  simp only [Act.put, List.setIfInBounds_toArray, List.set_cons_zero, List.set_cons_succ]
  refine takeL (i := 9) (v := (.pointer (some ⟨g, k * 89 + 22, none⟩))) rfl (by kernel_rfl) (by kernel_rfl) (by kernel_rfl) (fun _ _ _ h => h) (Or.inl ⟨rfl, fun _ _ => rfl⟩) hq1 ?_
  simp only [Act.put, List.setIfInBounds_toArray, List.set_cons_zero, List.set_cons_succ]
  refine takeL (i := 10) (v := (.pointer (some ⟨g, k * 89 + 48, none⟩))) rfl (by kernel_rfl) (by kernel_rfl) (by kernel_rfl) (fun _ _ _ h => h) (Or.inl ⟨rfl, fun _ _ => rfl⟩) hq1 ?_
  simp only [Act.put, List.setIfInBounds_toArray, List.set_cons_zero, List.set_cons_succ]
  refine runL (i := 11) rfl rfl (by kernel_rfl) (fun K hK => ?_)
  go_simp
  have hq2 := hq1.setCell (p := ⟨g, k * 89 + 48, none⟩) (.inl HBz.out.F2) (.bool false)
  refine hK.out _ _ hq2 (fun hHeld => ?_)
  try simp only [Act.put, List.setIfInBounds_toArray, List.set_cons_zero, List.set_cons_succ]
  clear hK K hHeld
  refine wpAnyH_done (by kernel_rfl) ?_ _
  have hBe := ((HBd.out.setp (k := k) (j := 25) hk (by decide) (.bool true)).setp (k := k) (j := 48) hk (by decide) (.bool false))
  have hMe := hq2
  obtain ⟨y, hy⟩ : ∃ y, (wd.setCell ⟨g, k * 89 + 25, none⟩ (.bool true)).setCell ⟨g, k * 89 + 48, none⟩ (.bool false) = y := ⟨_, rfl⟩
  rw [hy] at hBe hMe ⊢
  have ok2 : Br.ok ((B.setp k 25 (.bool true)).setp k 48 (.bool false)) := (ho.setB hk 25 true rfl).setB (k := k) hk 48 false rfl
  have e13 := (hBe.cellg (i := k * 89 + 13) (lt89 hk (by decide))).trans (Br.ok.gi ok2 (k := k) hk 13 rfl)
  have e21 := (hBe.cellg (i := k * 89 + 21) (lt89 hk (by decide))).trans (Br.ok.gi ok2 (k := k) hk 21 rfl)
  have efr2 := hBe.frozen
  have c0y := (hMe.cell (p := ⟨b0, 0, none⟩) hb0 hbF).trans c0
  have HBe := Lib.hid hBe
  have HMe := Lib.hid (HMz.out.trans hMe)
  clear hBe hMe hy c0 hqx hq0 hq1 hq2 e25 e48
  go_wp2_with fail
  go_end0
  exact ⟨rfl, ((HBe.out.setp (k := k) (j := 13) hk (by decide) (.int .i64 0)).setp (k := k) (j := 21) hk (by decide) (.int .i64 0)), ((HMe.out.setCell (p := ⟨g, k * 89 + 13, none⟩) (.inl HBe.out.F2) (.int .i64 0)).setCell (p := ⟨g, k * 89 + 21, none⟩) (.inl HBe.out.F2) (.int .i64 0))⟩
set_option maxRecDepth 100000 in
set_option maxHeartbeats 2000000 in
theorem top_spread (w : World) (F : Nat → Prop) (X g k : Nat) (B : Br) (h : BrG w F X g B) (ho : B.ok) (hk : k < B.np) (hn : B.np < 1000) (hT : TR (B.hi 2) (B.hi 3) (B.hi 4) (B.hi 5)) (hF : ∀ n, F n → n < w.heap.size) (b1 b2 : Nat) : Calls Try.prog 45 #[.agg #[.pointer (some ⟨g, k * 89, none⟩), .int .i64 (B.hi 2), .int .i64 (B.hi 3), .int .i64 (B.hi 4), .int .i64 (B.hi 5), .func (.func 35) #[] #[.pointer (some ⟨b1, 0, none⟩), .pointer (some ⟨b2, 0, none⟩)]]] w fun e w' => e = .returned (.tuple #[]) ∧ BrG w' F X g (tspread B k) ∧ Mut F w w' := by
  have H := Lib.hid h
  have HF := Lib.hid hF
  have HT := Lib.hid hT
  have hbF : ¬ F w.heap.size := fun hh => by have := hF _ hh; omega
  have HX0 := Lib.hid ((Ext.refl w).alloc (.cells #[.pointer (some ⟨g, k * 89, none⟩), .int .i64 (B.hi 2), .int .i64 (B.hi 3), .int .i64 (B.hi 4), .int .i64 (B.hi 5), .func (.func 35) #[] #[.pointer (some ⟨b1, 0, none⟩), .pointer (some ⟨b2, 0, none⟩)]] 65))
  have HBX := Lib.hid (h.alloc (.cells #[.pointer (some ⟨g, k * 89, none⟩), .int .i64 (B.hi 2), .int .i64 (B.hi 3), .int .i64 (B.hi 4), .int .i64 (B.hi 5), .func (.func 35) #[] #[.pointer (some ⟨b1, 0, none⟩), .pointer (some ⟨b2, 0, none⟩)]] 65))
  have HP0 := Lib.hid (heap_alloc_new w (.cells #[.pointer (some ⟨g, k * 89, none⟩), .int .i64 (B.hi 2), .int .i64 (B.hi 3), .int .i64 (B.hi 4), .int .i64 (B.hi 5), .func (.func 35) #[] #[.pointer (some ⟨b1, 0, none⟩), .pointer (some ⟨b2, 0, none⟩)]] 65))
  clear h hF hT
  go_enter Try.func45, Try.ntmps45
  go_wp2_with fail
  refine (top_begin _ F X g k B HBX.out ho hk hn HT.out (fun n hn' => Nat.lt_of_lt_of_le (HF.out n hn') HX0.out.size) b1 b2).mono ?_
  rintro e w1 ⟨rfl, hB1, hm1⟩
  have HBz := Lib.hid hB1
  have HMz := Lib.hid ((HX0.out.mut F).trans hm1)
  have HPz := Lib.hid ((hm1.heap (by simp) hbF).trans HP0.out)
  have okz := tbegin_ok ho hk HT.out
  have hkz : k < (tbegin B k).np := by rw [tbegin_np]; exact hk
  clear hB1 hm1 HP0 HBX
  obtain ⟨b0, hb00⟩ : ∃ b, w.heap.size = b := ⟨_, rfl⟩
  rw [hb00] at HPz hbF ⊢
  clear hb00
  have c0 : w1.cell? ⟨b0, 0, none⟩ = some (.pointer (some ⟨g, k * 89, none⟩)) := (cell_of_row _ _ _ _ _ _ HPz.out).trans rfl
  have hb0 := heap_lt HPz.out
  go_wp2_with fail
  refine beginL (S := fun W' => Mut F w1 W') (by kernel_rfl) ?_
  intro wd hqx
  have hq0 : Mut F w1 wd := hqx.mut F
  have HBd := Lib.hid (HBz.out.ext hqx)
  have e25 := (HBd.out.cellg (i := k * 89 + 25) (lt89 hkz (by decide))).trans (Br.ok.gb okz (k := k) hkz 25 rfl)
  have e49 := (HBd.out.cellg (i := k * 89 + 49) (lt89 hkz (by decide))).trans (Br.ok.gb okz (k := k) hkz 49 rfl)
  have efr := HBd.out.frozen
  refine takeL (i := 0) (v := (.pointer (some ⟨b0, 0, none⟩))) rfl (by kernel_rfl) (by kernel_rfl) (by kernel_rfl) (fun _ _ _ h => h) (Or.inl ⟨rfl, fun _ _ => rfl⟩) hq0 ?_
  simp only [Act.put, List.setIfInBounds_toArray, List.set_cons_zero, List.set_cons_succ]
  refine takeL (i := 1) (v := _) rfl (by kernel_rfl) (by kernel_rfl) (by kernel_rfl) (fun _ _ _ h => h) (yieldsIf_cell rfl 54 _ rfl ⟨b0, 0, none⟩ rfl (.pointer (some ⟨g, k * 89, none⟩)) _ (fun W' hW' => (hW'.cell (p := ⟨b0, 0, none⟩) hb0 hbF).trans c0) Try.underlying54 rfl) hq0 ?_
  simp only [Act.put, List.setIfInBounds_toArray, List.set_cons_zero, List.set_cons_succ]
  refine takeL (i := 2) (v := (.pointer (some ⟨b0, 0, none⟩))) rfl (by kernel_rfl) (by kernel_rfl) (by kernel_rfl) (fun _ _ _ h => h) (Or.inl ⟨rfl, fun _ _ => rfl⟩) hq0 ?_
  simp only [Act.put, List.setIfInBounds_toArray, List.set_cons_zero, List.set_cons_succ]
  refine takeL (i := 3) (v := _) rfl (by kernel_rfl) (by kernel_rfl) (by kernel_rfl) (fun _ _ _ h => h) (yieldsIf_cell rfl 54 _ rfl ⟨b0, 0, none⟩ rfl (.pointer (some ⟨g, k * 89, none⟩)) _ (fun W' hW' => (hW'.cell (p := ⟨b0, 0, none⟩) hb0 hbF).trans c0) Try.underlying54 rfl) hq0 ?_
  simp only [Act.put, List.setIfInBounds_toArray, List.set_cons_zero, List.set_cons_succ]
  refine takeL (i := 4) (v := (.pointer (some ⟨g, k * 89, none⟩))) rfl (by kernel_rfl) (by kernel_rfl) (by kernel_rfl) (fun _ _ _ h => h) (Or.inl ⟨rfl, fun _ _ => rfl⟩) hq0 ?_
  simp only [Act.put, List.setIfInBounds_toArray, List.set_cons_zero, List.set_cons_succ]
  refine takeL (i := 5) (v := (.pointer (some ⟨g, k * 89 + 22, none⟩))) rfl (by kernel_rfl) (by kernel_rfl) (by kernel_rfl) (fun _ _ _ h => h) (Or.inl ⟨rfl, fun _ _ => rfl⟩) hq0 ?_
  simp only [Act.put, List.setIfInBounds_toArray, List.set_cons_zero, List.set_cons_succ]
  refine takeL (i := 6) (v := (.pointer (some ⟨g, k * 89 + 25, none⟩))) rfl (by kernel_rfl) (by kernel_rfl) (by kernel_rfl) (fun _ _ _ h => h) (Or.inl ⟨rfl, fun _ _ => rfl⟩) hq0 ?_
  simp only [Act.put, List.setIfInBounds_toArray, List.set_cons_zero, List.set_cons_succ]
  refine runL (i := 7) rfl rfl (by kernel_rfl) (fun K hK => ?_)
  go_simp
  have hq1 := hq0.setCell (p := ⟨g, k * 89 + 25, none⟩) (.inl HBz.out.F2) (.bool true)
  refine hK.out _ _ hq1 (fun hHeld => ?_)
  try simp only [Act.put, List.setIfInBounds_toArray, List.set_cons_zero, List.set_cons_succ]
  clear hK K hHeld
  refine takeL (i := 8) (v := (.pointer (some ⟨g, k * 89, none⟩))) rfl (by kernel_rfl) (by kernel_rfl) (by kernel_rfl) (fun _ _ _ h => h) (Or.inl ⟨rfl, fun _ _ => rfl⟩) hq1 ?_
  simp only [Act.put, List.setIfInBounds_toArray, List.set_cons_zero, List.set_cons_succ]
  refine takeL (i := 9) (v := (.pointer (some ⟨g, k * 89 + 22, none⟩))) rfl (by kernel_rfl) (by kernel_rfl) (by kernel_rfl) (fun _ _ _ h => h) (Or.inl ⟨rfl, fun _ _ => rfl⟩) hq1 ?_
  simp only [Act.put, List.setIfInBounds_toArray, List.set_cons_zero, List.set_cons_succ]
  refine takeL (i := 10) (v := (.pointer (some ⟨g, k * 89 + 49, none⟩))) rfl (by kernel_rfl) (by kernel_rfl) (by kernel_rfl) (fun _ _ _ h => h) (Or.inl ⟨rfl, fun _ _ => rfl⟩) hq1 ?_
  simp only [Act.put, List.setIfInBounds_toArray, List.set_cons_zero, List.set_cons_succ]
  refine runL (i := 11) rfl rfl (by kernel_rfl) (fun K hK => ?_)
  go_simp
  have hq2 := hq1.setCell (p := ⟨g, k * 89 + 49, none⟩) (.inl HBz.out.F2) (.bool false)
  refine hK.out _ _ hq2 (fun hHeld => ?_)
  try simp only [Act.put, List.setIfInBounds_toArray, List.set_cons_zero, List.set_cons_succ]
  clear hK K hHeld
  refine wpAnyH_done (by kernel_rfl) ?_ _
  go_wp2_with fail
  go_end0
  exact ⟨rfl, ((HBd.out.setp (k := k) (j := 25) hkz (by decide) (.bool true)).setp (k := k) (j := 49) hkz (by decide) (.bool false)), HMz.out.trans hq2⟩
set_option maxRecDepth 100000 in
set_option maxHeartbeats 2000000 in
theorem top_activate (w : World) (F : Nat → Prop) (X g k : Nat) (B : Br) (h : BrG w F X g B) (ho : B.ok) (hk : k < B.np) (hn : B.np < 1000) (hT : TR (B.hi 2) (B.hi 3) (B.hi 4) (B.hi 5)) (hF : ∀ n, F n → n < w.heap.size) (b1 b2 : Nat) (c1 : w.cell? ⟨b1, 0, none⟩ = some (.pointer (some ⟨X, 0, none⟩))) (c2 : w.cell? ⟨b2, 0, none⟩ = some (.int .i64 k)) (f1 : ¬ F b1) (f2 : ¬ F b2) : Calls Try.prog 40 #[.agg #[.pointer (some ⟨g, k * 89, none⟩), .int .i64 (B.hi 2), .int .i64 (B.hi 3), .int .i64 (B.hi 4), .int .i64 (B.hi 5), .func (.func 35) #[] #[.pointer (some ⟨b1, 0, none⟩), .pointer (some ⟨b2, 0, none⟩)]]] w fun e w' => e = .returned (.tuple #[]) ∧ BrG w' F X g (tactiv B k) ∧ Mut F w w' := by
  have H := Lib.hid h
  have HF := Lib.hid hF
  have HT := Lib.hid hT
  have hbF : ¬ F w.heap.size := fun hh => by have := hF _ hh; omega
  have HX0 := Lib.hid ((Ext.refl w).alloc (.cells #[.pointer (some ⟨g, k * 89, none⟩), .int .i64 (B.hi 2), .int .i64 (B.hi 3), .int .i64 (B.hi 4), .int .i64 (B.hi 5), .func (.func 35) #[] #[.pointer (some ⟨b1, 0, none⟩), .pointer (some ⟨b2, 0, none⟩)]] 65))
  have HBX := Lib.hid (h.alloc (.cells #[.pointer (some ⟨g, k * 89, none⟩), .int .i64 (B.hi 2), .int .i64 (B.hi 3), .int .i64 (B.hi 4), .int .i64 (B.hi 5), .func (.func 35) #[] #[.pointer (some ⟨b1, 0, none⟩), .pointer (some ⟨b2, 0, none⟩)]] 65))
  have HP0 := Lib.hid (heap_alloc_new w (.cells #[.pointer (some ⟨g, k * 89, none⟩), .int .i64 (B.hi 2), .int .i64 (B.hi 3), .int .i64 (B.hi 4), .int .i64 (B.hi 5), .func (.func 35) #[] #[.pointer (some ⟨b1, 0, none⟩), .pointer (some ⟨b2, 0, none⟩)]] 65))
  have C1 := Lib.hid c1
  have C2 := Lib.hid c2
  clear c1 c2
  clear h hF hT
  go_enter Try.func40, Try.ntmps40
  go_wp2_with fail
  refine (top_begin _ F X g k B HBX.out ho hk hn HT.out (fun n hn' => Nat.lt_of_lt_of_le (HF.out n hn') HX0.out.size) b1 b2).mono ?_
  rintro e w1 ⟨rfl, hB1, hm1⟩
  have HBz := Lib.hid hB1
  have HMz := Lib.hid ((HX0.out.mut F).trans hm1)
  have HPz := Lib.hid ((hm1.heap (by simp) hbF).trans HP0.out)
  have okz := tbegin_ok ho hk HT.out
  have hkz : k < (tbegin B k).np := by rw [tbegin_np]; exact hk
  clear hB1 hm1 HP0 HBX
  have d1 := Lib.hid ((HMz.out.cell (p := ⟨b1, 0, none⟩) (World.block_lt_of_cell? w _ C1.out) f1).trans C1.out)
  have d2 := Lib.hid ((HMz.out.cell (p := ⟨b2, 0, none⟩) (World.block_lt_of_cell? w _ C2.out) f2).trans C2.out)
  have m5 : w1.cell? ⟨w.heap.size, 5, none⟩ = some (.func (.func 35) #[] #[.pointer (some ⟨b1, 0, none⟩), .pointer (some ⟨b2, 0, none⟩)]) := (cell_of_row _ _ _ _ _ _ HPz.out).trans rfl
  go_wp2_with fail
  refine (top_tell _ F X g k (tbegin B k) HBz.out okz (by rw [tbegin_np]; exact hn) (by omega) b1 b2 d1.out d2.out f1 f2).mono ?_
  rintro e w2 ⟨rfl, hB2, hm2⟩
  rw [tbegin_np] at hB2
  have okt : Br.ok (tcp (tbegin B k) k B.np) := tcp_ok okz k B.np (by rw [tbegin_np]; exact Nat.le_refl _)
  have hkt : k < (tcp (tbegin B k) k B.np).np := by rw [tcp_np]; exact hkz
  have c0 : w2.cell? ⟨w.heap.size, 0, none⟩ = some (.pointer (some ⟨g, k * 89, none⟩)) := (hm2.cell (p := ⟨w.heap.size, 0, none⟩) (heap_lt HPz.out) hbF).trans ((cell_of_row _ _ _ _ _ _ HPz.out).trans rfl)
  have e31 := (hB2.cellg (i := k * 89 + 31) (lt89 hkt (by decide))).trans (Br.ok.gb okt (k := k) hkt 31 rfl)
  have e21 := (hB2.cellg (i := k * 89 + 21) (lt89 hkt (by decide))).trans (Br.ok.gi okt (k := k) hkt 21 rfl)
  have efr := hB2.frozen
  have HB2 := Lib.hid hB2
  have HM2 := Lib.hid (HMz.out.trans hm2)
  clear hB2 hm2 m5
  go_wp2_with fail
  go_end0
  exact ⟨rfl, ((HB2.out.setp (k := k) (j := 31) hkt (by decide) (.bool true)).setp (k := k) (j := 21) hkt (by decide) (.int .i64 2)), ((HM2.out.setCell (p := ⟨g, k * 89 + 31, none⟩) (.inl HB2.out.F2) (.bool true)).setCell (p := ⟨g, k * 89 + 21, none⟩) (.inl HB2.out.F2) (.int .i64 2))⟩
end Go.Proofs.Ytpieamfpgfabgaa
