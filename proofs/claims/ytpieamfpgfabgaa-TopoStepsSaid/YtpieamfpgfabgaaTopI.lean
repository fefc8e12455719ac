/- The machine of changes: its step in the other states. No statement is proved here. -/
import Derived.Test.YtpieamfpgfabgaaTopH
namespace Go.Proofs.Ytpieamfpgfabgaa
open Go.RowKit Go.BigFrame Go.WideShapes Go.ChangeShapes Go.Deep
set_option linter.unusedVariables false
set_option linter.unusedSimpArgs false

set_option maxRecDepth 100000 in
set_option maxHeartbeats 1000000 in
theorem top_step0a (w : World) (F : Nat → Prop) (X g k : Nat) (B : Br) (h : BrG w F X g B) (ho : B.ok) (hk : k < B.np) (hn : B.np < 1000) (hT : TR (B.hi 2) (B.hi 3) (B.hi 4) (B.hi 5)) (hF : ∀ n, F n → n < w.heap.size) (h25 : B.gb k 25 = false) (hs : B.gi k 21 = 0) (hl : B.gb k 28 = true) : Calls Try.prog 21 #[.pointer (some ⟨X, 0, none⟩), .int .i64 k] w (Stepped w F X g (true, tforget B k)) := by
  obtain ⟨hX, hg, hne⟩ := h.lt
  obtain ⟨cap, c17, hc1, hc2⟩ := h.cell17 ho
  have p25 := (h.cellg (i := k * 89 + 25) (lt89 hk (by decide))).trans (ho.gb hk 25 rfl)
  rw [h25] at p25
  have HTR := Lib.hid (times_range h ho)
  have H := Lib.hid h
  have HF := Lib.hid hF
  have HT := Lib.hid hT
  have H_hs := Lib.hid hs
  clear hs
  have H_hl := Lib.hid hl
  clear hl
  have hk8 : k < 1000 := by omega
  clear h hF hT h25
  go_enter Try.func21, Try.ntmps21
  go_wp2_with fail
  refine beginL (S := fun W' => Ext w W') (by kernel_rfl) ?_
  intro wd hrf
  refine takeL (i := 0) (v := (.pointer (some ⟨g, k * 89, none⟩))) rfl (by kernel_rfl) (by kernel_rfl) (by kernel_rfl) (fun _ _ _ h => h) (Or.inl ⟨rfl, fun _ _ => rfl⟩) hrf ?_
  simp only [Act.put, List.setIfInBounds_toArray, List.set_cons_zero, List.set_cons_succ]
  refine takeL (i := 1) (v := (.pointer (some ⟨X, 0, none⟩))) rfl (by kernel_rfl) (by kernel_rfl) (by kernel_rfl) (fun _ _ _ h => h) (Or.inl ⟨rfl, fun _ _ => rfl⟩) hrf ?_
  simp only [Act.put, List.setIfInBounds_toArray, List.set_cons_zero, List.set_cons_succ]
  refine takeL (i := 2) (v := (.pointer (some ⟨X, 0, none⟩))) rfl (by kernel_rfl) (by kernel_rfl) (by kernel_rfl) (fun _ _ _ h => h) (Or.inl ⟨rfl, fun _ _ => rfl⟩) hrf ?_
  simp only [Act.put, List.setIfInBounds_toArray, List.set_cons_zero, List.set_cons_succ]
  refine takeL (i := 3) (v := (.pointer (some ⟨X, 2, none⟩))) rfl (by kernel_rfl) (by kernel_rfl) (by kernel_rfl) (fun _ _ _ h => h) (Or.inl ⟨rfl, fun _ _ => rfl⟩) hrf ?_
  simp only [Act.put, List.setIfInBounds_toArray, List.set_cons_zero, List.set_cons_succ]
  refine takeL (i := 4) (v := _) rfl (by kernel_rfl) (by kernel_rfl) (by kernel_rfl) (fun _ _ _ h => h) (yieldsIf_load_mid rfl 24 _ rfl X (2) rfl ([.int .i64 (B.hi 2), .int .i64 (B.hi 3), .int .i64 (B.hi 4), .int .i64 (B.hi 5)]) _ (fun W' hW' => rangeAt_ext HTR.out hW' hX) Try.underlying24 rfl top_size_times) hrf ?_
  simp only [Act.put, List.setIfInBounds_toArray, List.set_cons_zero, List.set_cons_succ]
  refine takeL (i := 5) (v := (.pointer (some ⟨X, 0, none⟩))) rfl (by kernel_rfl) (by kernel_rfl) (by kernel_rfl) (fun _ _ _ h => h) (Or.inl ⟨rfl, fun _ _ => rfl⟩) hrf ?_
  simp only [Act.put, List.setIfInBounds_toArray, List.set_cons_zero, List.set_cons_succ]
  refine takeL (i := 6) (v := (.int .i64 (k : Int))) rfl (by kernel_rfl) (by kernel_rfl) (by kernel_rfl) (fun _ _ _ h => h) (Or.inl ⟨rfl, fun _ _ => rfl⟩) hrf ?_
  simp only [Act.put, List.setIfInBounds_toArray, List.set_cons_zero, List.set_cons_succ]
  refine runL (i := 7) rfl rfl (by kernel_rfl) (fun K hK => ?_)
  go_simp
  refine (top_teller _ X k).mono ?_
  rintro e y1 ⟨b1, b2, rfl, hy1, hb1, hb2, d1, d2⟩
  have hr1 := hrf.trans hy1
  have hsz := hrf.size
  have f1 : ¬ F b1 := fun hh => by have := HF.out _ hh; omega
  have f2 : ¬ F b2 := fun hh => by have := HF.out _ hh; omega
  have D1 := Lib.hid d1
  have D2 := Lib.hid d2
  clear d1 d2 hy1 hrf hsz hb1 hb2
  refine hK.out _ _ hr1 (fun hHeld => ?_)
  try simp only [Act.put, List.setIfInBounds_toArray, List.set_cons_zero, List.set_cons_succ]
  clear hK K
  have hmb := fun W' : World => mem_build (.pointer (some ⟨g, k * 89, none⟩)) (.func (.func 35) #[] #[.pointer (some ⟨b1, 0, none⟩), .pointer (some ⟨b2, 0, none⟩)]) (B.hi 2) (B.hi 3) (B.hi 4) (B.hi 5) W' ⟨_, rfl⟩ ⟨_, _, _, rfl⟩
  refine takeL (i := 8) (v := (.agg #[.pointer (some ⟨g, k * 89, none⟩), .int .i64 (B.hi 2), .int .i64 (B.hi 3), .int .i64 (B.hi 4), .int .i64 (B.hi 5), .func (.func 35) #[] #[.pointer (some ⟨b1, 0, none⟩), .pointer (some ⟨b2, 0, none⟩)]])) rfl (by kernel_rfl) (by kernel_rfl) (by kernel_rfl) (fun _ _ _ h => h) (Or.inl ⟨rfl, fun W' _ => by go_simp⟩) hr1 ?_
  simp only [Act.put, List.setIfInBounds_toArray, List.set_cons_zero, List.set_cons_succ]
  clear hmb
  refine runL (i := 9) rfl rfl (by kernel_rfl) (fun K hK => ?_)
  go_simp
  refine (asv (v' := (.func (.func 36) #[.agg #[.pointer (some ⟨g, k * 89, none⟩), .int .i64 (B.hi 2), .int .i64 (B.hi 3), .int .i64 (B.hi 4), .int .i64 (B.hi 5), .func (.func 35) #[] #[.pointer (some ⟨b1, 0, none⟩), .pointer (some ⟨b2, 0, none⟩)]]] #[])) (top_row0a y1 F X g k B (H.out.ext hr1) ho hk b1 b2 H_hs.out H_hl.out) rfl).mono ?_
  rintro e y2 ⟨rfl, hy2⟩
  have hr2 := hr1.trans hy2
  have c1 := (hy2.cell (p := ⟨b1, 0, none⟩) (World.block_lt_of_cell? _ _ D1.out)).trans D1.out
  have c2 := (hy2.cell (p := ⟨b2, 0, none⟩) (World.block_lt_of_cell? _ _ D2.out)).trans D2.out
  have C1 := Lib.hid c1
  have C2 := Lib.hid c2
  clear c1 c2 hy2 D1 D2
  refine hK.out _ _ hr2 (fun hHeld => ?_)
  try simp only [Act.put, List.setIfInBounds_toArray, List.set_cons_zero, List.set_cons_succ]
  clear hK K
  refine takeL (i := 10) (v := (.func (.func 36) #[.agg #[.pointer (some ⟨g, k * 89, none⟩), .int .i64 (B.hi 2), .int .i64 (B.hi 3), .int .i64 (B.hi 4), .int .i64 (B.hi 5), .func (.func 35) #[] #[.pointer (some ⟨b1, 0, none⟩), .pointer (some ⟨b2, 0, none⟩)]]] #[])) rfl (by kernel_rfl) (by kernel_rfl) (by kernel_rfl) (fun _ _ _ h => h) (Or.inl ⟨rfl, fun _ _ => rfl⟩) hr2 ?_
  simp only [Act.put, List.setIfInBounds_toArray, List.set_cons_zero, List.set_cons_succ]
  refine wpAnyH_done (by kernel_rfl) ?_ _
  have HR := Lib.hid hr2
  clear hr1 hr2 c17 p25
  have q0 := topfn_eq0
  have q1 := topfn_eq 36
  go_wp2_with fail
  refine (top_forget y2 F X g k B (H.out.ext HR.out) ho hk hn HT.out (fun n hn' => Nat.lt_of_lt_of_le (HF.out n hn') HR.out.size) b1 b2).mono ?_
  rintro e y3 ⟨rfl, hB, hm⟩
  have HB := Lib.hid hB
  have HQ := Lib.hid ((HR.out.mut F).trans hm)
  clear hB hm
  go_wp2_with fail
  go_ret
  exact ⟨rfl, HB.out, HQ.out⟩

set_option maxRecDepth 100000 in
set_option maxHeartbeats 1000000 in
theorem top_step0b (w : World) (F : Nat → Prop) (X g k : Nat) (B : Br) (h : BrG w F X g B) (ho : B.ok) (hk : k < B.np) (hn : B.np < 1000) (hT : TR (B.hi 2) (B.hi 3) (B.hi 4) (B.hi 5)) (hF : ∀ n, F n → n < w.heap.size) (h25 : B.gb k 25 = false) (hs : B.gi k 21 = 0) (hl : B.gb k 28 = false) : Calls Try.prog 21 #[.pointer (some ⟨X, 0, none⟩), .int .i64 k] w (Stepped w F X g (false, B)) := by
  obtain ⟨hX, hg, hne⟩ := h.lt
  obtain ⟨cap, c17, hc1, hc2⟩ := h.cell17 ho
  have p25 := (h.cellg (i := k * 89 + 25) (lt89 hk (by decide))).trans (ho.gb hk 25 rfl)
  rw [h25] at p25
  have HTR := Lib.hid (times_range h ho)
  have H := Lib.hid h
  have HF := Lib.hid hF
  have HT := Lib.hid hT
  have H_hs := Lib.hid hs
  clear hs
  have H_hl := Lib.hid hl
  clear hl
  have hk8 : k < 1000 := by omega
  clear h hF hT h25
  go_enter Try.func21, Try.ntmps21
  go_wp2_with fail
  refine beginL (S := fun W' => Ext w W') (by kernel_rfl) ?_
  intro wd hrf
  refine takeL (i := 0) (v := (.pointer (some ⟨g, k * 89, none⟩))) rfl (by kernel_rfl) (by kernel_rfl) (by kernel_rfl) (fun _ _ _ h => h) (Or.inl ⟨rfl, fun _ _ => rfl⟩) hrf ?_
  simp only [Act.put, List.setIfInBounds_toArray, List.set_cons_zero, List.set_cons_succ]
  refine takeL (i := 1) (v := (.pointer (some ⟨X, 0, none⟩))) rfl (by kernel_rfl) (by kernel_rfl) (by kernel_rfl) (fun _ _ _ h => h) (Or.inl ⟨rfl, fun _ _ => rfl⟩) hrf ?_
  simp only [Act.put, List.setIfInBounds_toArray, List.set_cons_zero, List.set_cons_succ]
  refine takeL (i := 2) (v := (.pointer (some ⟨X, 0, none⟩))) rfl (by kernel_rfl) (by kernel_rfl) (by kernel_rfl) (fun _ _ _ h => h) (Or.inl ⟨rfl, fun _ _ => rfl⟩) hrf ?_
  simp only [Act.put, List.setIfInBounds_toArray, List.set_cons_zero, List.set_cons_succ]
  refine takeL (i := 3) (v := (.pointer (some ⟨X, 2, none⟩))) rfl (by kernel_rfl) (by kernel_rfl) (by kernel_rfl) (fun _ _ _ h => h) (Or.inl ⟨rfl, fun _ _ => rfl⟩) hrf ?_
  simp only [Act.put, List.setIfInBounds_toArray, List.set_cons_zero, List.set_cons_succ]
  refine takeL (i := 4) (v := _) rfl (by kernel_rfl) (by kernel_rfl) (by kernel_rfl) (fun _ _ _ h => h) (yieldsIf_load_mid rfl 24 _ rfl X (2) rfl ([.int .i64 (B.hi 2), .int .i64 (B.hi 3), .int .i64 (B.hi 4), .int .i64 (B.hi 5)]) _ (fun W' hW' => rangeAt_ext HTR.out hW' hX) Try.underlying24 rfl top_size_times) hrf ?_
  simp only [Act.put, List.setIfInBounds_toArray, List.set_cons_zero, List.set_cons_succ]
  refine takeL (i := 5) (v := (.pointer (some ⟨X, 0, none⟩))) rfl (by kernel_rfl) (by kernel_rfl) (by kernel_rfl) (fun _ _ _ h => h) (Or.inl ⟨rfl, fun _ _ => rfl⟩) hrf ?_
  simp only [Act.put, List.setIfInBounds_toArray, List.set_cons_zero, List.set_cons_succ]
  refine takeL (i := 6) (v := (.int .i64 (k : Int))) rfl (by kernel_rfl) (by kernel_rfl) (by kernel_rfl) (fun _ _ _ h => h) (Or.inl ⟨rfl, fun _ _ => rfl⟩) hrf ?_
  simp only [Act.put, List.setIfInBounds_toArray, List.set_cons_zero, List.set_cons_succ]
  refine runL (i := 7) rfl rfl (by kernel_rfl) (fun K hK => ?_)
  go_simp
  refine (top_teller _ X k).mono ?_
  rintro e y1 ⟨b1, b2, rfl, hy1, hb1, hb2, d1, d2⟩
  have hr1 := hrf.trans hy1
  have hsz := hrf.size
  have f1 : ¬ F b1 := fun hh => by have := HF.out _ hh; omega
  have f2 : ¬ F b2 := fun hh => by have := HF.out _ hh; omega
  have D1 := Lib.hid d1
  have D2 := Lib.hid d2
  clear d1 d2 hy1 hrf hsz hb1 hb2
  refine hK.out _ _ hr1 (fun hHeld => ?_)
  try simp only [Act.put, List.setIfInBounds_toArray, List.set_cons_zero, List.set_cons_succ]
  clear hK K
  have hmb := fun W' : World => mem_build (.pointer (some ⟨g, k * 89, none⟩)) (.func (.func 35) #[] #[.pointer (some ⟨b1, 0, none⟩), .pointer (some ⟨b2, 0, none⟩)]) (B.hi 2) (B.hi 3) (B.hi 4) (B.hi 5) W' ⟨_, rfl⟩ ⟨_, _, _, rfl⟩
  refine takeL (i := 8) (v := (.agg #[.pointer (some ⟨g, k * 89, none⟩), .int .i64 (B.hi 2), .int .i64 (B.hi 3), .int .i64 (B.hi 4), .int .i64 (B.hi 5), .func (.func 35) #[] #[.pointer (some ⟨b1, 0, none⟩), .pointer (some ⟨b2, 0, none⟩)]])) rfl (by kernel_rfl) (by kernel_rfl) (by kernel_rfl) (fun _ _ _ h => h) (Or.inl ⟨rfl, fun W' _ => by go_simp⟩) hr1 ?_
  simp only [Act.put, List.setIfInBounds_toArray, List.set_cons_zero, List.set_cons_succ]
  clear hmb
  refine runL (i := 9) rfl rfl (by kernel_rfl) (fun K hK => ?_)
  go_simp
  refine (asv (v' := Value.nilFunc) (top_row0b y1 F X g k B (H.out.ext hr1) ho hk b1 b2 H_hs.out H_hl.out) rfl).mono ?_
  rintro e y2 ⟨rfl, hy2⟩
  have hr2 := hr1.trans hy2
  have c1 := (hy2.cell (p := ⟨b1, 0, none⟩) (World.block_lt_of_cell? _ _ D1.out)).trans D1.out
  have c2 := (hy2.cell (p := ⟨b2, 0, none⟩) (World.block_lt_of_cell? _ _ D2.out)).trans D2.out
  have C1 := Lib.hid c1
  have C2 := Lib.hid c2
  clear c1 c2 hy2 D1 D2
  refine hK.out _ _ hr2 (fun hHeld => ?_)
  try simp only [Act.put, List.setIfInBounds_toArray, List.set_cons_zero, List.set_cons_succ]
  clear hK K
  refine takeL (i := 10) (v := Value.nilFunc) rfl (by kernel_rfl) (by kernel_rfl) (by kernel_rfl) (fun _ _ _ h => h) (Or.inl ⟨rfl, fun _ _ => rfl⟩) hr2 ?_
  simp only [Act.put, List.setIfInBounds_toArray, List.set_cons_zero, List.set_cons_succ]
  refine wpAnyH_done (by kernel_rfl) ?_ _
  have HR := Lib.hid hr2
  clear hr1 hr2 c17 p25
  have q0 := topfn_eq0
  go_wp2_with fail
  go_ret
  exact ⟨rfl, H.out.ext HR.out, HR.out.mut F⟩

set_option maxRecDepth 100000 in
set_option maxHeartbeats 1000000 in
theorem top_step9 (w : World) (F : Nat → Prop) (X g k : Nat) (B : Br) (h : BrG w F X g B) (ho : B.ok) (hk : k < B.np) (hn : B.np < 1000) (hT : TR (B.hi 2) (B.hi 3) (B.hi 4) (B.hi 5)) (hF : ∀ n, F n → n < w.heap.size) (h25 : B.gb k 25 = false) (h0 : B.gi k 21 ≠ 0) (h1 : B.gi k 21 ≠ 1) (h2 : B.gi k 21 ≠ 2) : Calls Try.prog 21 #[.pointer (some ⟨X, 0, none⟩), .int .i64 k] w (Stepped w F X g (false, B)) := by
  obtain ⟨hX, hg, hne⟩ := h.lt
  obtain ⟨cap, c17, hc1, hc2⟩ := h.cell17 ho
  have p25 := (h.cellg (i := k * 89 + 25) (lt89 hk (by decide))).trans (ho.gb hk 25 rfl)
  rw [h25] at p25
  have HTR := Lib.hid (times_range h ho)
  have H := Lib.hid h
  have HF := Lib.hid hF
  have HT := Lib.hid hT
  have H_h0 := Lib.hid h0
  clear h0
  have H_h1 := Lib.hid h1
  clear h1
  have H_h2 := Lib.hid h2
  clear h2
  have hk8 : k < 1000 := by omega
  clear h hF hT h25
  go_enter Try.func21, Try.ntmps21
  go_wp2_with fail
  refine beginL (S := fun W' => Ext w W') (by kernel_rfl) ?_
  intro wd hrf
  refine takeL (i := 0) (v := (.pointer (some ⟨g, k * 89, none⟩))) rfl (by kernel_rfl) (by kernel_rfl) (by kernel_rfl) (fun _ _ _ h => h) (Or.inl ⟨rfl, fun _ _ => rfl⟩) hrf ?_
  simp only [Act.put, List.setIfInBounds_toArray, List.set_cons_zero, List.set_cons_succ]
  refine takeL (i := 1) (v := (.pointer (some ⟨X, 0, none⟩))) rfl (by kernel_rfl) (by kernel_rfl) (by kernel_rfl) (fun _ _ _ h => h) (Or.inl ⟨rfl, fun _ _ => rfl⟩) hrf ?_
  simp only [Act.put, List.setIfInBounds_toArray, List.set_cons_zero, List.set_cons_succ]
  refine takeL (i := 2) (v := (.pointer (some ⟨X, 0, none⟩))) rfl (by kernel_rfl) (by kernel_rfl) (by kernel_rfl) (fun _ _ _ h => h) (Or.inl ⟨rfl, fun _ _ => rfl⟩) hrf ?_
  simp only [Act.put, List.setIfInBounds_toArray, List.set_cons_zero, List.set_cons_succ]
  refine takeL (i := 3) (v := (.pointer (some ⟨X, 2, none⟩))) rfl (by kernel_rfl) (by kernel_rfl) (by kernel_rfl) (fun _ _ _ h => h) (Or.inl ⟨rfl, fun _ _ => rfl⟩) hrf ?_
  simp only [Act.put, List.setIfInBounds_toArray, List.set_cons_zero, List.set_cons_succ]
  refine takeL (i := 4) (v := _) rfl (by kernel_rfl) (by kernel_rfl) (by kernel_rfl) (fun _ _ _ h => h) (yieldsIf_load_mid rfl 24 _ rfl X (2) rfl ([.int .i64 (B.hi 2), .int .i64 (B.hi 3), .int .i64 (B.hi 4), .int .i64 (B.hi 5)]) _ (fun W' hW' => rangeAt_ext HTR.out hW' hX) Try.underlying24 rfl top_size_times) hrf ?_
  simp only [Act.put, List.setIfInBounds_toArray, List.set_cons_zero, List.set_cons_succ]
  refine takeL (i := 5) (v := (.pointer (some ⟨X, 0, none⟩))) rfl (by kernel_rfl) (by kernel_rfl) (by kernel_rfl) (fun _ _ _ h => h) (Or.inl ⟨rfl, fun _ _ => rfl⟩) hrf ?_
  simp only [Act.put, List.setIfInBounds_toArray, List.set_cons_zero, List.set_cons_succ]
  refine takeL (i := 6) (v := (.int .i64 (k : Int))) rfl (by kernel_rfl) (by kernel_rfl) (by kernel_rfl) (fun _ _ _ h => h) (Or.inl ⟨rfl, fun _ _ => rfl⟩) hrf ?_
  simp only [Act.put, List.setIfInBounds_toArray, List.set_cons_zero, List.set_cons_succ]
  refine runL (i := 7) rfl rfl (by kernel_rfl) (fun K hK => ?_)
  go_simp
  refine (top_teller _ X k).mono ?_
  rintro e y1 ⟨b1, b2, rfl, hy1, hb1, hb2, d1, d2⟩
  have hr1 := hrf.trans hy1
  have hsz := hrf.size
  have f1 : ¬ F b1 := fun hh => by have := HF.out _ hh; omega
  have f2 : ¬ F b2 := fun hh => by have := HF.out _ hh; omega
  have D1 := Lib.hid d1
  have D2 := Lib.hid d2
  clear d1 d2 hy1 hrf hsz hb1 hb2
  refine hK.out _ _ hr1 (fun hHeld => ?_)
  try simp only [Act.put, List.setIfInBounds_toArray, List.set_cons_zero, List.set_cons_succ]
  clear hK K
  have hmb := fun W' : World => mem_build (.pointer (some ⟨g, k * 89, none⟩)) (.func (.func 35) #[] #[.pointer (some ⟨b1, 0, none⟩), .pointer (some ⟨b2, 0, none⟩)]) (B.hi 2) (B.hi 3) (B.hi 4) (B.hi 5) W' ⟨_, rfl⟩ ⟨_, _, _, rfl⟩
  refine takeL (i := 8) (v := (.agg #[.pointer (some ⟨g, k * 89, none⟩), .int .i64 (B.hi 2), .int .i64 (B.hi 3), .int .i64 (B.hi 4), .int .i64 (B.hi 5), .func (.func 35) #[] #[.pointer (some ⟨b1, 0, none⟩), .pointer (some ⟨b2, 0, none⟩)]])) rfl (by kernel_rfl) (by kernel_rfl) (by kernel_rfl) (fun _ _ _ h => h) (Or.inl ⟨rfl, fun W' _ => by go_simp⟩) hr1 ?_
  simp only [Act.put, List.setIfInBounds_toArray, List.set_cons_zero, List.set_cons_succ]
  clear hmb
  refine runL (i := 9) rfl rfl (by kernel_rfl) (fun K hK => ?_)
  go_simp
  refine (asv (v' := Value.nilFunc) (top_row9 y1 F X g k B (H.out.ext hr1) ho hk b1 b2 H_h0.out H_h1.out H_h2.out) rfl).mono ?_
  rintro e y2 ⟨rfl, hy2⟩
  have hr2 := hr1.trans hy2
  have c1 := (hy2.cell (p := ⟨b1, 0, none⟩) (World.block_lt_of_cell? _ _ D1.out)).trans D1.out
  have c2 := (hy2.cell (p := ⟨b2, 0, none⟩) (World.block_lt_of_cell? _ _ D2.out)).trans D2.out
  have C1 := Lib.hid c1
  have C2 := Lib.hid c2
  clear c1 c2 hy2 D1 D2
  refine hK.out _ _ hr2 (fun hHeld => ?_)
  try simp only [Act.put, List.setIfInBounds_toArray, List.set_cons_zero, List.set_cons_succ]
  clear hK K
  refine takeL (i := 10) (v := Value.nilFunc) rfl (by kernel_rfl) (by kernel_rfl) (by kernel_rfl) (fun _ _ _ h => h) (Or.inl ⟨rfl, fun _ _ => rfl⟩) hr2 ?_
  simp only [Act.put, List.setIfInBounds_toArray, List.set_cons_zero, List.set_cons_succ]
  refine wpAnyH_done (by kernel_rfl) ?_ _
  have HR := Lib.hid hr2
  clear hr1 hr2 c17 p25
  have q0 := topfn_eq0
  go_wp2_with fail
  go_ret
  exact ⟨rfl, H.out.ext HR.out, HR.out.mut F⟩

set_option maxRecDepth 100000 in
set_option maxHeartbeats 1000000 in
theorem top_step1_0 (w : World) (F : Nat → Prop) (X g k : Nat) (B : Br) (h : BrG w F X g B) (ho : B.ok) (hk : k < B.np) (hn : B.np < 1000) (hT : TR (B.hi 2) (B.hi 3) (B.hi 4) (B.hi 5)) (hF : ∀ n, F n → n < w.heap.size) (h25 : B.gb k 25 = false) (hs : B.gi k 21 = 1) (ha : act1 B k = 0) : Calls Try.prog 21 #[.pointer (some ⟨X, 0, none⟩), .int .i64 k] w (Stepped w F X g (false, B)) := by
  obtain ⟨hX, hg, hne⟩ := h.lt
  obtain ⟨cap, c17, hc1, hc2⟩ := h.cell17 ho
  have p25 := (h.cellg (i := k * 89 + 25) (lt89 hk (by decide))).trans (ho.gb hk 25 rfl)
  rw [h25] at p25
  have HTR := Lib.hid (times_range h ho)
  have H := Lib.hid h
  have HF := Lib.hid hF
  have HT := Lib.hid hT
  have H_hs := Lib.hid hs
  clear hs
  have H_ha := Lib.hid ha
  clear ha
  have hk8 : k < 1000 := by omega
  clear h hF hT h25
  go_enter Try.func21, Try.ntmps21
  go_wp2_with fail
  refine beginL (S := fun W' => Ext w W') (by kernel_rfl) ?_
  intro wd hrf
  refine takeL (i := 0) (v := (.pointer (some ⟨g, k * 89, none⟩))) rfl (by kernel_rfl) (by kernel_rfl) (by kernel_rfl) (fun _ _ _ h => h) (Or.inl ⟨rfl, fun _ _ => rfl⟩) hrf ?_
  simp only [Act.put, List.setIfInBounds_toArray, List.set_cons_zero, List.set_cons_succ]
  refine takeL (i := 1) (v := (.pointer (some ⟨X, 0, none⟩))) rfl (by kernel_rfl) (by kernel_rfl) (by kernel_rfl) (fun _ _ _ h => h) (Or.inl ⟨rfl, fun _ _ => rfl⟩) hrf ?_
  simp only [Act.put, List.setIfInBounds_toArray, List.set_cons_zero, List.set_cons_succ]
  refine takeL (i := 2) (v := (.pointer (some ⟨X, 0, none⟩))) rfl (by kernel_rfl) (by kernel_rfl) (by kernel_rfl) (fun _ _ _ h => h) (Or.inl ⟨rfl, fun _ _ => rfl⟩) hrf ?_
  simp only [Act.put, List.setIfInBounds_toArray, List.set_cons_zero, List.set_cons_succ]
  refine takeL (i := 3) (v := (.pointer (some ⟨X, 2, none⟩))) rfl (by kernel_rfl) (by kernel_rfl) (by kernel_rfl) (fun _ _ _ h => h) (Or.inl ⟨rfl, fun _ _ => rfl⟩) hrf ?_
  simp only [Act.put, List.setIfInBounds_toArray, List.set_cons_zero, List.set_cons_succ]
  refine takeL (i := 4) (v := _) rfl (by kernel_rfl) (by kernel_rfl) (by kernel_rfl) (fun _ _ _ h => h) (yieldsIf_load_mid rfl 24 _ rfl X (2) rfl ([.int .i64 (B.hi 2), .int .i64 (B.hi 3), .int .i64 (B.hi 4), .int .i64 (B.hi 5)]) _ (fun W' hW' => rangeAt_ext HTR.out hW' hX) Try.underlying24 rfl top_size_times) hrf ?_
  simp only [Act.put, List.setIfInBounds_toArray, List.set_cons_zero, List.set_cons_succ]
  refine takeL (i := 5) (v := (.pointer (some ⟨X, 0, none⟩))) rfl (by kernel_rfl) (by kernel_rfl) (by kernel_rfl) (fun _ _ _ h => h) (Or.inl ⟨rfl, fun _ _ => rfl⟩) hrf ?_
  simp only [Act.put, List.setIfInBounds_toArray, List.set_cons_zero, List.set_cons_succ]
  refine takeL (i := 6) (v := (.int .i64 (k : Int))) rfl (by kernel_rfl) (by kernel_rfl) (by kernel_rfl) (fun _ _ _ h => h) (Or.inl ⟨rfl, fun _ _ => rfl⟩) hrf ?_
  simp only [Act.put, List.setIfInBounds_toArray, List.set_cons_zero, List.set_cons_succ]
  refine runL (i := 7) rfl rfl (by kernel_rfl) (fun K hK => ?_)
  go_simp
  refine (top_teller _ X k).mono ?_
  rintro e y1 ⟨b1, b2, rfl, hy1, hb1, hb2, d1, d2⟩
  have hr1 := hrf.trans hy1
  have hsz := hrf.size
  have f1 : ¬ F b1 := fun hh => by have := HF.out _ hh; omega
  have f2 : ¬ F b2 := fun hh => by have := HF.out _ hh; omega
  have D1 := Lib.hid d1
  have D2 := Lib.hid d2
  clear d1 d2 hy1 hrf hsz hb1 hb2
  refine hK.out _ _ hr1 (fun hHeld => ?_)
  try simp only [Act.put, List.setIfInBounds_toArray, List.set_cons_zero, List.set_cons_succ]
  clear hK K
  have hmb := fun W' : World => mem_build (.pointer (some ⟨g, k * 89, none⟩)) (.func (.func 35) #[] #[.pointer (some ⟨b1, 0, none⟩), .pointer (some ⟨b2, 0, none⟩)]) (B.hi 2) (B.hi 3) (B.hi 4) (B.hi 5) W' ⟨_, rfl⟩ ⟨_, _, _, rfl⟩
  refine takeL (i := 8) (v := (.agg #[.pointer (some ⟨g, k * 89, none⟩), .int .i64 (B.hi 2), .int .i64 (B.hi 3), .int .i64 (B.hi 4), .int .i64 (B.hi 5), .func (.func 35) #[] #[.pointer (some ⟨b1, 0, none⟩), .pointer (some ⟨b2, 0, none⟩)]])) rfl (by kernel_rfl) (by kernel_rfl) (by kernel_rfl) (fun _ _ _ h => h) (Or.inl ⟨rfl, fun W' _ => by go_simp⟩) hr1 ?_
  simp only [Act.put, List.setIfInBounds_toArray, List.set_cons_zero, List.set_cons_succ]
  clear hmb
  refine runL (i := 9) rfl rfl (by kernel_rfl) (fun K hK => ?_)
  go_simp
  refine (asv (v' := Value.nilFunc) (top_row1 y1 F X g k B (H.out.ext hr1) ho hk b1 b2 H_hs.out) (by rw [H_ha.out]; rfl)).mono ?_
  rintro e y2 ⟨rfl, hy2⟩
  have hr2 := hr1.trans hy2
  have c1 := (hy2.cell (p := ⟨b1, 0, none⟩) (World.block_lt_of_cell? _ _ D1.out)).trans D1.out
  have c2 := (hy2.cell (p := ⟨b2, 0, none⟩) (World.block_lt_of_cell? _ _ D2.out)).trans D2.out
  have C1 := Lib.hid c1
  have C2 := Lib.hid c2
  clear c1 c2 hy2 D1 D2
  refine hK.out _ _ hr2 (fun hHeld => ?_)
  try simp only [Act.put, List.setIfInBounds_toArray, List.set_cons_zero, List.set_cons_succ]
  clear hK K
  refine takeL (i := 10) (v := Value.nilFunc) rfl (by kernel_rfl) (by kernel_rfl) (by kernel_rfl) (fun _ _ _ h => h) (Or.inl ⟨rfl, fun _ _ => rfl⟩) hr2 ?_
  simp only [Act.put, List.setIfInBounds_toArray, List.set_cons_zero, List.set_cons_succ]
  refine wpAnyH_done (by kernel_rfl) ?_ _
  have HR := Lib.hid hr2
  clear hr1 hr2 c17 p25
  have q0 := topfn_eq0
  go_wp2_with fail
  go_ret
  exact ⟨rfl, H.out.ext HR.out, HR.out.mut F⟩

set_option maxRecDepth 100000 in
set_option maxHeartbeats 1000000 in
theorem top_step1_1 (w : World) (F : Nat → Prop) (X g k : Nat) (B : Br) (h : BrG w F X g B) (ho : B.ok) (hk : k < B.np) (hn : B.np < 1000) (hT : TR (B.hi 2) (B.hi 3) (B.hi 4) (B.hi 5)) (hF : ∀ n, F n → n < w.heap.size) (h25 : B.gb k 25 = false) (hs : B.gi k 21 = 1) (ha : act1 B k = 1) : Calls Try.prog 21 #[.pointer (some ⟨X, 0, none⟩), .int .i64 k] w (Stepped w F X g (true, tactiv B k)) := by
  obtain ⟨hX, hg, hne⟩ := h.lt
  obtain ⟨cap, c17, hc1, hc2⟩ := h.cell17 ho
  have p25 := (h.cellg (i := k * 89 + 25) (lt89 hk (by decide))).trans (ho.gb hk 25 rfl)
  rw [h25] at p25
  have HTR := Lib.hid (times_range h ho)
  have H := Lib.hid h
  have HF := Lib.hid hF
  have HT := Lib.hid hT
  have H_hs := Lib.hid hs
  clear hs
  have H_ha := Lib.hid ha
  clear ha
  have hk8 : k < 1000 := by omega
  clear h hF hT h25
  go_enter Try.func21, Try.ntmps21
  go_wp2_with fail
  refine beginL (S := fun W' => Ext w W') (by kernel_rfl) ?_
  intro wd hrf
  refine takeL (i := 0) (v := (.pointer (some ⟨g, k * 89, none⟩))) rfl (by kernel_rfl) (by kernel_rfl) (by kernel_rfl) (fun _ _ _ h => h) (Or.inl ⟨rfl, fun _ _ => rfl⟩) hrf ?_
  simp only [Act.put, List.setIfInBounds_toArray, List.set_cons_zero, List.set_cons_succ]
  refine takeL (i := 1) (v := (.pointer (some ⟨X, 0, none⟩))) rfl (by kernel_rfl) (by kernel_rfl) (by kernel_rfl) (fun _ _ _ h => h) (Or.inl ⟨rfl, fun _ _ => rfl⟩) hrf ?_
  simp only [Act.put, List.setIfInBounds_toArray, List.set_cons_zero, List.set_cons_succ]
  refine takeL (i := 2) (v := (.pointer (some ⟨X, 0, none⟩))) rfl (by kernel_rfl) (by kernel_rfl) (by kernel_rfl) (fun _ _ _ h => h) (Or.inl ⟨rfl, fun _ _ => rfl⟩) hrf ?_
  simp only [Act.put, List.setIfInBounds_toArray, List.set_cons_zero, List.set_cons_succ]
  refine takeL (i := 3) (v := (.pointer (some ⟨X, 2, none⟩))) rfl (by kernel_rfl) (by kernel_rfl) (by kernel_rfl) (fun _ _ _ h => h) (Or.inl ⟨rfl, fun _ _ => rfl⟩) hrf ?_
  simp only [Act.put, List.setIfInBounds_toArray, List.set_cons_zero, List.set_cons_succ]
  refine takeL (i := 4) (v := _) rfl (by kernel_rfl) (by kernel_rfl) (by kernel_rfl) (fun _ _ _ h => h) (yieldsIf_load_mid rfl 24 _ rfl X (2) rfl ([.int .i64 (B.hi 2), .int .i64 (B.hi 3), .int .i64 (B.hi 4), .int .i64 (B.hi 5)]) _ (fun W' hW' => rangeAt_ext HTR.out hW' hX) Try.underlying24 rfl top_size_times) hrf ?_
  simp only [Act.put, List.setIfInBounds_toArray, List.set_cons_zero, List.set_cons_succ]
  refine takeL (i := 5) (v := (.pointer (some ⟨X, 0, none⟩))) rfl (by kernel_rfl) (by kernel_rfl) (by kernel_rfl) (fun _ _ _ h => h) (Or.inl ⟨rfl, fun _ _ => rfl⟩) hrf ?_
  simp only [Act.put, List.setIfInBounds_toArray, List.set_cons_zero, List.set_cons_succ]
  refine takeL (i := 6) (v := (.int .i64 (k : Int))) rfl (by kernel_rfl) (by kernel_rfl) (by kernel_rfl) (fun _ _ _ h => h) (Or.inl ⟨rfl, fun _ _ => rfl⟩) hrf ?_
  simp only [Act.put, List.setIfInBounds_toArray, List.set_cons_zero, List.set_cons_succ]
  refine runL (i := 7) rfl rfl (by kernel_rfl) (fun K hK => ?_)
  go_simp
  refine (top_teller _ X k).mono ?_
  rintro e y1 ⟨b1, b2, rfl, hy1, hb1, hb2, d1, d2⟩
  have hr1 := hrf.trans hy1
  have hsz := hrf.size
  have f1 : ¬ F b1 := fun hh => by have := HF.out _ hh; omega
  have f2 : ¬ F b2 := fun hh => by have := HF.out _ hh; omega
  have D1 := Lib.hid d1
  have D2 := Lib.hid d2
  clear d1 d2 hy1 hrf hsz hb1 hb2
  refine hK.out _ _ hr1 (fun hHeld => ?_)
  try simp only [Act.put, List.setIfInBounds_toArray, List.set_cons_zero, List.set_cons_succ]
  clear hK K
  have hmb := fun W' : World => mem_build (.pointer (some ⟨g, k * 89, none⟩)) (.func (.func 35) #[] #[.pointer (some ⟨b1, 0, none⟩), .pointer (some ⟨b2, 0, none⟩)]) (B.hi 2) (B.hi 3) (B.hi 4) (B.hi 5) W' ⟨_, rfl⟩ ⟨_, _, _, rfl⟩
  refine takeL (i := 8) (v := (.agg #[.pointer (some ⟨g, k * 89, none⟩), .int .i64 (B.hi 2), .int .i64 (B.hi 3), .int .i64 (B.hi 4), .int .i64 (B.hi 5), .func (.func 35) #[] #[.pointer (some ⟨b1, 0, none⟩), .pointer (some ⟨b2, 0, none⟩)]])) rfl (by kernel_rfl) (by kernel_rfl) (by kernel_rfl) (fun _ _ _ h => h) (Or.inl ⟨rfl, fun W' _ => by go_simp⟩) hr1 ?_
  simp only [Act.put, List.setIfInBounds_toArray, List.set_cons_zero, List.set_cons_succ]
  clear hmb
  refine runL (i := 9) rfl rfl (by kernel_rfl) (fun K hK => ?_)
  go_simp
  refine (asv (v' := (.func (.func 40) #[.agg #[.pointer (some ⟨g, k * 89, none⟩), .int .i64 (B.hi 2), .int .i64 (B.hi 3), .int .i64 (B.hi 4), .int .i64 (B.hi 5), .func (.func 35) #[] #[.pointer (some ⟨b1, 0, none⟩), .pointer (some ⟨b2, 0, none⟩)]]] #[])) (top_row1 y1 F X g k B (H.out.ext hr1) ho hk b1 b2 H_hs.out) (by rw [H_ha.out]; rfl)).mono ?_
  rintro e y2 ⟨rfl, hy2⟩
  have hr2 := hr1.trans hy2
  have c1 := (hy2.cell (p := ⟨b1, 0, none⟩) (World.block_lt_of_cell? _ _ D1.out)).trans D1.out
  have c2 := (hy2.cell (p := ⟨b2, 0, none⟩) (World.block_lt_of_cell? _ _ D2.out)).trans D2.out
  have C1 := Lib.hid c1
  have C2 := Lib.hid c2
  clear c1 c2 hy2 D1 D2
  refine hK.out _ _ hr2 (fun hHeld => ?_)
  try simp only [Act.put, List.setIfInBounds_toArray, List.set_cons_zero, List.set_cons_succ]
  clear hK K
  refine takeL (i := 10) (v := (.func (.func 40) #[.agg #[.pointer (some ⟨g, k * 89, none⟩), .int .i64 (B.hi 2), .int .i64 (B.hi 3), .int .i64 (B.hi 4), .int .i64 (B.hi 5), .func (.func 35) #[] #[.pointer (some ⟨b1, 0, none⟩), .pointer (some ⟨b2, 0, none⟩)]]] #[])) rfl (by kernel_rfl) (by kernel_rfl) (by kernel_rfl) (fun _ _ _ h => h) (Or.inl ⟨rfl, fun _ _ => rfl⟩) hr2 ?_
  simp only [Act.put, List.setIfInBounds_toArray, List.set_cons_zero, List.set_cons_succ]
  refine wpAnyH_done (by kernel_rfl) ?_ _
  have HR := Lib.hid hr2
  clear hr1 hr2 c17 p25
  have q0 := topfn_eq0
  have q1 := topfn_eq 40
  go_wp2_with fail
  refine (top_activate y2 F X g k B (H.out.ext HR.out) ho hk hn HT.out (fun n hn' => Nat.lt_of_lt_of_le (HF.out n hn') HR.out.size) b1 b2 C1.out C2.out f1 f2).mono ?_
  rintro e y3 ⟨rfl, hB, hm⟩
  have HB := Lib.hid hB
  have HQ := Lib.hid ((HR.out.mut F).trans hm)
  clear hB hm
  go_wp2_with fail
  go_ret
  exact ⟨rfl, HB.out, HQ.out⟩

set_option maxRecDepth 100000 in
set_option maxHeartbeats 1000000 in
theorem top_step1_2 (w : World) (F : Nat → Prop) (X g k : Nat) (B : Br) (h : BrG w F X g B) (ho : B.ok) (hk : k < B.np) (hn : B.np < 1000) (hT : TR (B.hi 2) (B.hi 3) (B.hi 4) (B.hi 5)) (hF : ∀ n, F n → n < w.heap.size) (h25 : B.gb k 25 = false) (hs : B.gi k 21 = 1) (ha : act1 B k = 2) : Calls Try.prog 21 #[.pointer (some ⟨X, 0, none⟩), .int .i64 k] w (Stepped w F X g (true, tleave B k)) := by
  obtain ⟨hX, hg, hne⟩ := h.lt
  obtain ⟨cap, c17, hc1, hc2⟩ := h.cell17 ho
  have p25 := (h.cellg (i := k * 89 + 25) (lt89 hk (by decide))).trans (ho.gb hk 25 rfl)
  rw [h25] at p25
  have HTR := Lib.hid (times_range h ho)
  have H := Lib.hid h
  have HF := Lib.hid hF
  have HT := Lib.hid hT
  have H_hs := Lib.hid hs
  clear hs
  have H_ha := Lib.hid ha
  clear ha
  have hk8 : k < 1000 := by omega
  clear h hF hT h25
  go_enter Try.func21, Try.ntmps21
  go_wp2_with fail
  refine beginL (S := fun W' => Ext w W') (by kernel_rfl) ?_
  intro wd hrf
  refine takeL (i := 0) (v := (.pointer (some ⟨g, k * 89, none⟩))) rfl (by kernel_rfl) (by kernel_rfl) (by kernel_rfl) (fun _ _ _ h => h) (Or.inl ⟨rfl, fun _ _ => rfl⟩) hrf ?_
  simp only [Act.put, List.setIfInBounds_toArray, List.set_cons_zero, List.set_cons_succ]
  refine takeL (i := 1) (v := (.pointer (some ⟨X, 0, none⟩))) rfl (by kernel_rfl) (by kernel_rfl) (by kernel_rfl) (fun _ _ _ h => h) (Or.inl ⟨rfl, fun _ _ => rfl⟩) hrf ?_
  simp only [Act.put, List.setIfInBounds_toArray, List.set_cons_zero, List.set_cons_succ]
  refine takeL (i := 2) (v := (.pointer (some ⟨X, 0, none⟩))) rfl (by kernel_rfl) (by kernel_rfl) (by kernel_rfl) (fun _ _ _ h => h) (Or.inl ⟨rfl, fun _ _ => rfl⟩) hrf ?_
  simp only [Act.put, List.setIfInBounds_toArray, List.set_cons_zero, List.set_cons_succ]
  refine takeL (i := 3) (v := (.pointer (some ⟨X, 2, none⟩))) rfl (by kernel_rfl) (by kernel_rfl) (by kernel_rfl) (fun _ _ _ h => h) (Or.inl ⟨rfl, fun _ _ => rfl⟩) hrf ?_
  simp only [Act.put, List.setIfInBounds_toArray, List.set_cons_zero, List.set_cons_succ]
  refine takeL (i := 4) (v := _) rfl (by kernel_rfl) (by kernel_rfl) (by kernel_rfl) (fun _ _ _ h => h) (yieldsIf_load_mid rfl 24 _ rfl X (2) rfl ([.int .i64 (B.hi 2), .int .i64 (B.hi 3), .int .i64 (B.hi 4), .int .i64 (B.hi 5)]) _ (fun W' hW' => rangeAt_ext HTR.out hW' hX) Try.underlying24 rfl top_size_times) hrf ?_
  simp only [Act.put, List.setIfInBounds_toArray, List.set_cons_zero, List.set_cons_succ]
  refine takeL (i := 5) (v := (.pointer (some ⟨X, 0, none⟩))) rfl (by kernel_rfl) (by kernel_rfl) (by kernel_rfl) (fun _ _ _ h => h) (Or.inl ⟨rfl, fun _ _ => rfl⟩) hrf ?_
  simp only [Act.put, List.setIfInBounds_toArray, List.set_cons_zero, List.set_cons_succ]
  refine takeL (i := 6) (v := (.int .i64 (k : Int))) rfl (by kernel_rfl) (by kernel_rfl) (by kernel_rfl) (fun _ _ _ h => h) (Or.inl ⟨rfl, fun _ _ => rfl⟩) hrf ?_
  simp only [Act.put, List.setIfInBounds_toArray, List.set_cons_zero, List.set_cons_succ]
  refine runL (i := 7) rfl rfl (by kernel_rfl) (fun K hK => ?_)
  go_simp
  refine (top_teller _ X k).mono ?_
  rintro e y1 ⟨b1, b2, rfl, hy1, hb1, hb2, d1, d2⟩
  have hr1 := hrf.trans hy1
  have hsz := hrf.size
  have f1 : ¬ F b1 := fun hh => by have := HF.out _ hh; omega
  have f2 : ¬ F b2 := fun hh => by have := HF.out _ hh; omega
  have D1 := Lib.hid d1
  have D2 := Lib.hid d2
  clear d1 d2 hy1 hrf hsz hb1 hb2
  refine hK.out _ _ hr1 (fun hHeld => ?_)
  try simp only [Act.put, List.setIfInBounds_toArray, List.set_cons_zero, List.set_cons_succ]
  clear hK K
  have hmb := fun W' : World => mem_build (.pointer (some ⟨g, k * 89, none⟩)) (.func (.func 35) #[] #[.pointer (some ⟨b1, 0, none⟩), .pointer (some ⟨b2, 0, none⟩)]) (B.hi 2) (B.hi 3) (B.hi 4) (B.hi 5) W' ⟨_, rfl⟩ ⟨_, _, _, rfl⟩
  refine takeL (i := 8) (v := (.agg #[.pointer (some ⟨g, k * 89, none⟩), .int .i64 (B.hi 2), .int .i64 (B.hi 3), .int .i64 (B.hi 4), .int .i64 (B.hi 5), .func (.func 35) #[] #[.pointer (some ⟨b1, 0, none⟩), .pointer (some ⟨b2, 0, none⟩)]])) rfl (by kernel_rfl) (by kernel_rfl) (by kernel_rfl) (fun _ _ _ h => h) (Or.inl ⟨rfl, fun W' _ => by go_simp⟩) hr1 ?_
  simp only [Act.put, List.setIfInBounds_toArray, List.set_cons_zero, List.set_cons_succ]
  clear hmb
  refine runL (i := 9) rfl rfl (by kernel_rfl) (fun K hK => ?_)
  go_simp
  refine (asv (v' := (.func (.func 42) #[.agg #[.pointer (some ⟨g, k * 89, none⟩), .int .i64 (B.hi 2), .int .i64 (B.hi 3), .int .i64 (B.hi 4), .int .i64 (B.hi 5), .func (.func 35) #[] #[.pointer (some ⟨b1, 0, none⟩), .pointer (some ⟨b2, 0, none⟩)]]] #[])) (top_row1 y1 F X g k B (H.out.ext hr1) ho hk b1 b2 H_hs.out) (by rw [H_ha.out]; rfl)).mono ?_
  rintro e y2 ⟨rfl, hy2⟩
  have hr2 := hr1.trans hy2
  have c1 := (hy2.cell (p := ⟨b1, 0, none⟩) (World.block_lt_of_cell? _ _ D1.out)).trans D1.out
  have c2 := (hy2.cell (p := ⟨b2, 0, none⟩) (World.block_lt_of_cell? _ _ D2.out)).trans D2.out
  have C1 := Lib.hid c1
  have C2 := Lib.hid c2
  clear c1 c2 hy2 D1 D2
  refine hK.out _ _ hr2 (fun hHeld => ?_)
  try simp only [Act.put, List.setIfInBounds_toArray, List.set_cons_zero, List.set_cons_succ]
  clear hK K
  refine takeL (i := 10) (v := (.func (.func 42) #[.agg #[.pointer (some ⟨g, k * 89, none⟩), .int .i64 (B.hi 2), .int .i64 (B.hi 3), .int .i64 (B.hi 4), .int .i64 (B.hi 5), .func (.func 35) #[] #[.pointer (some ⟨b1, 0, none⟩), .pointer (some ⟨b2, 0, none⟩)]]] #[])) rfl (by kernel_rfl) (by kernel_rfl) (by kernel_rfl) (fun _ _ _ h => h) (Or.inl ⟨rfl, fun _ _ => rfl⟩) hr2 ?_
  simp only [Act.put, List.setIfInBounds_toArray, List.set_cons_zero, List.set_cons_succ]
  refine wpAnyH_done (by kernel_rfl) ?_ _
  have HR := Lib.hid hr2
  clear hr1 hr2 c17 p25
  have q0 := topfn_eq0
  have q1 := topfn_eq 42
  go_wp2_with fail
  refine (top_leave y2 F X g k B (H.out.ext HR.out) ho hk hn HT.out (fun n hn' => Nat.lt_of_lt_of_le (HF.out n hn') HR.out.size) b1 b2).mono ?_
  rintro e y3 ⟨rfl, hB, hm⟩
  have HB := Lib.hid hB
  have HQ := Lib.hid ((HR.out.mut F).trans hm)
  clear hB hm
  go_wp2_with fail
  go_ret
  exact ⟨rfl, HB.out, HQ.out⟩

set_option maxRecDepth 100000 in
set_option maxHeartbeats 1000000 in
theorem top_step1_3 (w : World) (F : Nat → Prop) (X g k : Nat) (B : Br) (h : BrG w F X g B) (ho : B.ok) (hk : k < B.np) (hn : B.np < 1000) (hT : TR (B.hi 2) (B.hi 3) (B.hi 4) (B.hi 5)) (hF : ∀ n, F n → n < w.heap.size) (h25 : B.gb k 25 = false) (hs : B.gi k 21 = 1) (ha : act1 B k = 3) : Calls Try.prog 21 #[.pointer (some ⟨X, 0, none⟩), .int .i64 k] w (Stepped w F X g (true, tforget B k)) := by
  obtain ⟨hX, hg, hne⟩ := h.lt
  obtain ⟨cap, c17, hc1, hc2⟩ := h.cell17 ho
  have p25 := (h.cellg (i := k * 89 + 25) (lt89 hk (by decide))).trans (ho.gb hk 25 rfl)
  rw [h25] at p25
  have HTR := Lib.hid (times_range h ho)
  have H := Lib.hid h
  have HF := Lib.hid hF
  have HT := Lib.hid hT
  have H_hs := Lib.hid hs
  clear hs
  have H_ha := Lib.hid ha
  clear ha
  have hk8 : k < 1000 := by omega
  clear h hF hT h25
  go_enter Try.func21, Try.ntmps21
  go_wp2_with fail
  refine beginL (S := fun W' => Ext w W') (by kernel_rfl) ?_
  intro wd hrf
  refine takeL (i := 0) (v := (.pointer (some ⟨g, k * 89, none⟩))) rfl (by kernel_rfl) (by kernel_rfl) (by kernel_rfl) (fun _ _ _ h => h) (Or.inl ⟨rfl, fun _ _ => rfl⟩) hrf ?_
  simp only [Act.put, List.setIfInBounds_toArray, List.set_cons_zero, List.set_cons_succ]
  refine takeL (i := 1) (v := (.pointer (some ⟨X, 0, none⟩))) rfl (by kernel_rfl) (by kernel_rfl) (by kernel_rfl) (fun _ _ _ h => h) (Or.inl ⟨rfl, fun _ _ => rfl⟩) hrf ?_
  simp only [Act.put, List.setIfInBounds_toArray, List.set_cons_zero, List.set_cons_succ]
  refine takeL (i := 2) (v := (.pointer (some ⟨X, 0, none⟩))) rfl (by kernel_rfl) (by kernel_rfl) (by kernel_rfl) (fun _ _ _ h => h) (Or.inl ⟨rfl, fun _ _ => rfl⟩) hrf ?_
  simp only [Act.put, List.setIfInBounds_toArray, List.set_cons_zero, List.set_cons_succ]
  refine takeL (i := 3) (v := (.pointer (some ⟨X, 2, none⟩))) rfl (by kernel_rfl) (by kernel_rfl) (by kernel_rfl) (fun _ _ _ h => h) (Or.inl ⟨rfl, fun _ _ => rfl⟩) hrf ?_
  simp only [Act.put, List.setIfInBounds_toArray, List.set_cons_zero, List.set_cons_succ]
  refine takeL (i := 4) (v := _) rfl (by kernel_rfl) (by kernel_rfl) (by kernel_rfl) (fun _ _ _ h => h) (yieldsIf_load_mid rfl 24 _ rfl X (2) rfl ([.int .i64 (B.hi 2), .int .i64 (B.hi 3), .int .i64 (B.hi 4), .int .i64 (B.hi 5)]) _ (fun W' hW' => rangeAt_ext HTR.out hW' hX) Try.underlying24 rfl top_size_times) hrf ?_
  simp only [Act.put, List.setIfInBounds_toArray, List.set_cons_zero, List.set_cons_succ]
  refine takeL (i := 5) (v := (.pointer (some ⟨X, 0, none⟩))) rfl (by kernel_rfl) (by kernel_rfl) (by kernel_rfl) (fun _ _ _ h => h) (Or.inl ⟨rfl, fun _ _ => rfl⟩) hrf ?_
  simp only [Act.put, List.setIfInBounds_toArray, List.set_cons_zero, List.set_cons_succ]
  refine takeL (i := 6) (v := (.int .i64 (k : Int))) rfl (by kernel_rfl) (by kernel_rfl) (by kernel_rfl) (fun _ _ _ h => h) (Or.inl ⟨rfl, fun _ _ => rfl⟩) hrf ?_
  simp only [Act.put, List.setIfInBounds_toArray, List.set_cons_zero, List.set_cons_succ]
  refine runL (i := 7) rfl rfl (by kernel_rfl) (fun K hK => ?_)
  go_simp
  refine (top_teller _ X k).mono ?_
  rintro e y1 ⟨b1, b2, rfl, hy1, hb1, hb2, d1, d2⟩
  have hr1 := hrf.trans hy1
  have hsz := hrf.size
  have f1 : ¬ F b1 := fun hh => by have := HF.out _ hh; omega
  have f2 : ¬ F b2 := fun hh => by have := HF.out _ hh; omega
  have D1 := Lib.hid d1
  have D2 := Lib.hid d2
  clear d1 d2 hy1 hrf hsz hb1 hb2
  refine hK.out _ _ hr1 (fun hHeld => ?_)
  try simp only [Act.put, List.setIfInBounds_toArray, List.set_cons_zero, List.set_cons_succ]
  clear hK K
  have hmb := fun W' : World => mem_build (.pointer (some ⟨g, k * 89, none⟩)) (.func (.func 35) #[] #[.pointer (some ⟨b1, 0, none⟩), .pointer (some ⟨b2, 0, none⟩)]) (B.hi 2) (B.hi 3) (B.hi 4) (B.hi 5) W' ⟨_, rfl⟩ ⟨_, _, _, rfl⟩
  refine takeL (i := 8) (v := (.agg #[.pointer (some ⟨g, k * 89, none⟩), .int .i64 (B.hi 2), .int .i64 (B.hi 3), .int .i64 (B.hi 4), .int .i64 (B.hi 5), .func (.func 35) #[] #[.pointer (some ⟨b1, 0, none⟩), .pointer (some ⟨b2, 0, none⟩)]])) rfl (by kernel_rfl) (by kernel_rfl) (by kernel_rfl) (fun _ _ _ h => h) (Or.inl ⟨rfl, fun W' _ => by go_simp⟩) hr1 ?_
  simp only [Act.put, List.setIfInBounds_toArray, List.set_cons_zero, List.set_cons_succ]
  clear hmb
  refine runL (i := 9) rfl rfl (by kernel_rfl) (fun K hK => ?_)
  go_simp
  refine (asv (v' := (.func (.func 36) #[.agg #[.pointer (some ⟨g, k * 89, none⟩), .int .i64 (B.hi 2), .int .i64 (B.hi 3), .int .i64 (B.hi 4), .int .i64 (B.hi 5), .func (.func 35) #[] #[.pointer (some ⟨b1, 0, none⟩), .pointer (some ⟨b2, 0, none⟩)]]] #[])) (top_row1 y1 F X g k B (H.out.ext hr1) ho hk b1 b2 H_hs.out) (by rw [H_ha.out]; rfl)).mono ?_
  rintro e y2 ⟨rfl, hy2⟩
  have hr2 := hr1.trans hy2
  have c1 := (hy2.cell (p := ⟨b1, 0, none⟩) (World.block_lt_of_cell? _ _ D1.out)).trans D1.out
  have c2 := (hy2.cell (p := ⟨b2, 0, none⟩) (World.block_lt_of_cell? _ _ D2.out)).trans D2.out
  have C1 := Lib.hid c1
  have C2 := Lib.hid c2
  clear c1 c2 hy2 D1 D2
  refine hK.out _ _ hr2 (fun hHeld => ?_)
  try simp only [Act.put, List.setIfInBounds_toArray, List.set_cons_zero, List.set_cons_succ]
  clear hK K
  refine takeL (i := 10) (v := (.func (.func 36) #[.agg #[.pointer (some ⟨g, k * 89, none⟩), .int .i64 (B.hi 2), .int .i64 (B.hi 3), .int .i64 (B.hi 4), .int .i64 (B.hi 5), .func (.func 35) #[] #[.pointer (some ⟨b1, 0, none⟩), .pointer (some ⟨b2, 0, none⟩)]]] #[])) rfl (by kernel_rfl) (by kernel_rfl) (by kernel_rfl) (fun _ _ _ h => h) (Or.inl ⟨rfl, fun _ _ => rfl⟩) hr2 ?_
  simp only [Act.put, List.setIfInBounds_toArray, List.set_cons_zero, List.set_cons_succ]
  refine wpAnyH_done (by kernel_rfl) ?_ _
  have HR := Lib.hid hr2
  clear hr1 hr2 c17 p25
  have q0 := topfn_eq0
  have q1 := topfn_eq 36
  go_wp2_with fail
  refine (top_forget y2 F X g k B (H.out.ext HR.out) ho hk hn HT.out (fun n hn' => Nat.lt_of_lt_of_le (HF.out n hn') HR.out.size) b1 b2).mono ?_
  rintro e y3 ⟨rfl, hB, hm⟩
  have HB := Lib.hid hB
  have HQ := Lib.hid ((HR.out.mut F).trans hm)
  clear hB hm
  go_wp2_with fail
  go_ret
  exact ⟨rfl, HB.out, HQ.out⟩

set_option maxRecDepth 100000 in
set_option maxHeartbeats 1000000 in
theorem top_step2_4 (w : World) (F : Nat → Prop) (X g k : Nat) (B : Br) (h : BrG w F X g B) (ho : B.ok) (hk : k < B.np) (hn : B.np < 1000) (hT : TR (B.hi 2) (B.hi 3) (B.hi 4) (B.hi 5)) (hF : ∀ n, F n → n < w.heap.size) (h25 : B.gb k 25 = false) (hs : B.gi k 21 = 2) (ha : act2 B k = 4) : Calls Try.prog 21 #[.pointer (some ⟨X, 0, none⟩), .int .i64 k] w (Stepped w F X g (true, tspread B k)) := by
  obtain ⟨hX, hg, hne⟩ := h.lt
  obtain ⟨cap, c17, hc1, hc2⟩ := h.cell17 ho
  have p25 := (h.cellg (i := k * 89 + 25) (lt89 hk (by decide))).trans (ho.gb hk 25 rfl)
  rw [h25] at p25
  have HTR := Lib.hid (times_range h ho)
  have H := Lib.hid h
  have HF := Lib.hid hF
  have HT := Lib.hid hT
  have H_hs := Lib.hid hs
  clear hs
  have H_ha := Lib.hid ha
  clear ha
  have hk8 : k < 1000 := by omega
  clear h hF hT h25
  go_enter Try.func21, Try.ntmps21
  go_wp2_with fail
  refine beginL (S := fun W' => Ext w W') (by kernel_rfl) ?_
  intro wd hrf
  refine takeL (i := 0) (v := (.pointer (some ⟨g, k * 89, none⟩))) rfl (by kernel_rfl) (by kernel_rfl) (by kernel_rfl) (fun _ _ _ h => h) (Or.inl ⟨rfl, fun _ _ => rfl⟩) hrf ?_
  simp only [Act.put, List.setIfInBounds_toArray, List.set_cons_zero, List.set_cons_succ]
  refine takeL (i := 1) (v := (.pointer (some ⟨X, 0, none⟩))) rfl (by kernel_rfl) (by kernel_rfl) (by kernel_rfl) (fun _ _ _ h => h) (Or.inl ⟨rfl, fun _ _ => rfl⟩) hrf ?_
  simp only [Act.put, List.setIfInBounds_toArray, List.set_cons_zero, List.set_cons_succ]
  refine takeL (i := 2) (v := (.pointer (some ⟨X, 0, none⟩))) rfl (by kernel_rfl) (by kernel_rfl) (by kernel_rfl) (fun _ _ _ h => h) (Or.inl ⟨rfl, fun _ _ => rfl⟩) hrf ?_
  simp only [Act.put, List.setIfInBounds_toArray, List.set_cons_zero, List.set_cons_succ]
  refine takeL (i := 3) (v := (.pointer (some ⟨X, 2, none⟩))) rfl (by kernel_rfl) (by kernel_rfl) (by kernel_rfl) (fun _ _ _ h => h) (Or.inl ⟨rfl, fun _ _ => rfl⟩) hrf ?_
  simp only [Act.put, List.setIfInBounds_toArray, List.set_cons_zero, List.set_cons_succ]
  refine takeL (i := 4) (v := _) rfl (by kernel_rfl) (by kernel_rfl) (by kernel_rfl) (fun _ _ _ h => h) (yieldsIf_load_mid rfl 24 _ rfl X (2) rfl ([.int .i64 (B.hi 2), .int .i64 (B.hi 3), .int .i64 (B.hi 4), .int .i64 (B.hi 5)]) _ (fun W' hW' => rangeAt_ext HTR.out hW' hX) Try.underlying24 rfl top_size_times) hrf ?_
  simp only [Act.put, List.setIfInBounds_toArray, List.set_cons_zero, List.set_cons_succ]
  refine takeL (i := 5) (v := (.pointer (some ⟨X, 0, none⟩))) rfl (by kernel_rfl) (by kernel_rfl) (by kernel_rfl) (fun _ _ _ h => h) (Or.inl ⟨rfl, fun _ _ => rfl⟩) hrf ?_
  simp only [Act.put, List.setIfInBounds_toArray, List.set_cons_zero, List.set_cons_succ]
  refine takeL (i := 6) (v := (.int .i64 (k : Int))) rfl (by kernel_rfl) (by kernel_rfl) (by kernel_rfl) (fun _ _ _ h => h) (Or.inl ⟨rfl, fun _ _ => rfl⟩) hrf ?_
  simp only [Act.put, List.setIfInBounds_toArray, List.set_cons_zero, List.set_cons_succ]
  refine runL (i := 7) rfl rfl (by kernel_rfl) (fun K hK => ?_)
  go_simp
  refine (top_teller _ X k).mono ?_
  rintro e y1 ⟨b1, b2, rfl, hy1, hb1, hb2, d1, d2⟩
  have hr1 := hrf.trans hy1
  have hsz := hrf.size
  have f1 : ¬ F b1 := fun hh => by have := HF.out _ hh; omega
  have f2 : ¬ F b2 := fun hh => by have := HF.out _ hh; omega
  have D1 := Lib.hid d1
  have D2 := Lib.hid d2
  clear d1 d2 hy1 hrf hsz hb1 hb2
  refine hK.out _ _ hr1 (fun hHeld => ?_)
  try simp only [Act.put, List.setIfInBounds_toArray, List.set_cons_zero, List.set_cons_succ]
  clear hK K
  have hmb := fun W' : World => mem_build (.pointer (some ⟨g, k * 89, none⟩)) (.func (.func 35) #[] #[.pointer (some ⟨b1, 0, none⟩), .pointer (some ⟨b2, 0, none⟩)]) (B.hi 2) (B.hi 3) (B.hi 4) (B.hi 5) W' ⟨_, rfl⟩ ⟨_, _, _, rfl⟩
  refine takeL (i := 8) (v := (.agg #[.pointer (some ⟨g, k * 89, none⟩), .int .i64 (B.hi 2), .int .i64 (B.hi 3), .int .i64 (B.hi 4), .int .i64 (B.hi 5), .func (.func 35) #[] #[.pointer (some ⟨b1, 0, none⟩), .pointer (some ⟨b2, 0, none⟩)]])) rfl (by kernel_rfl) (by kernel_rfl) (by kernel_rfl) (fun _ _ _ h => h) (Or.inl ⟨rfl, fun W' _ => by go_simp⟩) hr1 ?_
  simp only [Act.put, List.setIfInBounds_toArray, List.set_cons_zero, List.set_cons_succ]
  clear hmb
  refine runL (i := 9) rfl rfl (by kernel_rfl) (fun K hK => ?_)
  go_simp
  refine (asv (v' := (.func (.func 45) #[.agg #[.pointer (some ⟨g, k * 89, none⟩), .int .i64 (B.hi 2), .int .i64 (B.hi 3), .int .i64 (B.hi 4), .int .i64 (B.hi 5), .func (.func 35) #[] #[.pointer (some ⟨b1, 0, none⟩), .pointer (some ⟨b2, 0, none⟩)]]] #[])) (top_row2 y1 F X g k B (H.out.ext hr1) ho hk hn HT.out (fun n hn' => Nat.lt_of_lt_of_le (HF.out n hn') hr1.size) b1 b2 H_hs.out) (by rw [H_ha.out]; rfl)).mono ?_
  rintro e y2 ⟨rfl, hy2⟩
  have hr2 := hr1.trans hy2
  have c1 := (hy2.cell (p := ⟨b1, 0, none⟩) (World.block_lt_of_cell? _ _ D1.out)).trans D1.out
  have c2 := (hy2.cell (p := ⟨b2, 0, none⟩) (World.block_lt_of_cell? _ _ D2.out)).trans D2.out
  have C1 := Lib.hid c1
  have C2 := Lib.hid c2
  clear c1 c2 hy2 D1 D2
  refine hK.out _ _ hr2 (fun hHeld => ?_)
  try simp only [Act.put, List.setIfInBounds_toArray, List.set_cons_zero, List.set_cons_succ]
  clear hK K
  refine takeL (i := 10) (v := (.func (.func 45) #[.agg #[.pointer (some ⟨g, k * 89, none⟩), .int .i64 (B.hi 2), .int .i64 (B.hi 3), .int .i64 (B.hi 4), .int .i64 (B.hi 5), .func (.func 35) #[] #[.pointer (some ⟨b1, 0, none⟩), .pointer (some ⟨b2, 0, none⟩)]]] #[])) rfl (by kernel_rfl) (by kernel_rfl) (by kernel_rfl) (fun _ _ _ h => h) (Or.inl ⟨rfl, fun _ _ => rfl⟩) hr2 ?_
  simp only [Act.put, List.setIfInBounds_toArray, List.set_cons_zero, List.set_cons_succ]
  refine wpAnyH_done (by kernel_rfl) ?_ _
  have HR := Lib.hid hr2
  clear hr1 hr2 c17 p25
  have q0 := topfn_eq0
  have q1 := topfn_eq 45
  go_wp2_with fail
  refine (top_spread y2 F X g k B (H.out.ext HR.out) ho hk hn HT.out (fun n hn' => Nat.lt_of_lt_of_le (HF.out n hn') HR.out.size) b1 b2).mono ?_
  rintro e y3 ⟨rfl, hB, hm⟩
  have HB := Lib.hid hB
  have HQ := Lib.hid ((HR.out.mut F).trans hm)
  clear hB hm
  go_wp2_with fail
  go_ret
  exact ⟨rfl, HB.out, HQ.out⟩


/-- The step of a port that has nothing to flush. -/
def topN (B : Br) (k : Nat) : Bool × Br :=
  if B.gi k 21 = 0 then (if B.gb k 28 = true then (true, tforget B k) else (false, B)) else
  if B.gi k 21 = 1 then (if act1 B k = 1 then (true, tactiv B k) else if act1 B k = 2 then (true, tleave B k) else if act1 B k = 3 then (true, tforget B k) else (false, B)) else
  if B.gi k 21 = 2 then (if act2 B k = 1 then (true, tforget B k) else if act2 B k = 2 then (true, tpass (tbegin B k) k) else if act2 B k = 3 then (true, tpass B k) else if act2 B k = 4 then (true, tspread B k) else if act2 B k = 5 then (true, tack B k) else (false, B)) else (false, B)
theorem act1_cases (B : Br) (k : Nat) : act1 B k = 0 ∨ act1 B k = 1 ∨ act1 B k = 2 ∨ act1 B k = 3 := by
  unfold act1 learnSel
  split
  · simp
  · split
    · simp
    · split <;> simp
theorem act2_cases (B : Br) (k : Nat) : act2 B k = 0 ∨ act2 B k = 1 ∨ act2 B k = 2 ∨ act2 B k = 3 ∨ act2 B k = 4 ∨ act2 B k = 5 := by
  unfold act2 actSel
  repeat' split
  all_goals simp
theorem top_stepN (w : World) (F : Nat → Prop) (X g k : Nat) (B : Br) (h : BrG w F X g B) (ho : B.ok) (hk : k < B.np) (hn : B.np < 1000) (hT : TR (B.hi 2) (B.hi 3) (B.hi 4) (B.hi 5)) (hF : ∀ n, F n → n < w.heap.size) (h25 : B.gb k 25 = false) : Calls Try.prog 21 #[.pointer (some ⟨X, 0, none⟩), .int .i64 k] w (Stepped w F X g (topN B k)) := by
  unfold topN
  by_cases h0 : B.gi k 21 = 0
  · rw [if_pos h0]
    cases hl : B.gb k 28
    · exact top_step0b w F X g k B h ho hk hn hT hF h25 h0 hl
    · exact top_step0a w F X g k B h ho hk hn hT hF h25 h0 hl
  rw [if_neg h0]
  by_cases h1 : B.gi k 21 = 1
  · rw [if_pos h1]
    rcases act1_cases B k with ha | ha | ha | ha
    · rw [if_neg (by omega), if_neg (by omega), if_neg (by omega)]; exact top_step1_0 w F X g k B h ho hk hn hT hF h25 h1 ha
    · rw [if_pos ha]; exact top_step1_1 w F X g k B h ho hk hn hT hF h25 h1 ha
    · rw [if_neg (by omega), if_pos ha]; exact top_step1_2 w F X g k B h ho hk hn hT hF h25 h1 ha
    · rw [if_neg (by omega), if_neg (by omega), if_pos ha]; exact top_step1_3 w F X g k B h ho hk hn hT hF h25 h1 ha
  rw [if_neg h1]
  by_cases h2 : B.gi k 21 = 2
  · rw [if_pos h2]
    rcases act2_cases B k with ha | ha | ha | ha | ha | ha
    · rw [if_neg (by omega), if_neg (by omega), if_neg (by omega), if_neg (by omega), if_neg (by omega)]; exact top_step2_0 w F X g k B h ho hk hn hT hF h25 h2 ha
    · rw [if_pos ha]; exact top_step2_1 w F X g k B h ho hk hn hT hF h25 h2 ha
    · rw [if_neg (by omega), if_pos ha]; exact top_step2_2 w F X g k B h ho hk hn hT hF h25 h2 ha
    · rw [if_neg (by omega), if_neg (by omega), if_pos ha]; exact top_step2_3 w F X g k B h ho hk hn hT hF h25 h2 ha
    · rw [if_neg (by omega), if_neg (by omega), if_neg (by omega), if_pos ha]; exact top_step2_4 w F X g k B h ho hk hn hT hF h25 h2 ha
    · rw [if_neg (by omega), if_neg (by omega), if_neg (by omega), if_neg (by omega), if_pos ha]; exact top_step2_5 w F X g k B h ho hk hn hT hF h25 h2 ha
  rw [if_neg h2]
  exact top_step9 w F X g k B h ho hk hn hT hF h25 h0 h1 h2

end Go.Proofs.Ytpieamfpgfabgaa
