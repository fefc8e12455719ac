/- The machine of changes: its step in TopoActive. No statement is proved here. -/
import Derived.Test.YtpieamfpgfabgaaTopC
namespace Go.Proofs.Ytpieamfpgfabgaa
open Go.RowKit Go.BigFrame Go.WideShapes Go.ChangeShapes Go.Deep
set_option linter.unusedVariables false
set_option linter.unusedSimpArgs false

def Teller (w : World) (X k : Nat) (e : Ending) (w' : World) : Prop := ∃ b1 b2 : Nat, e = .returned (.func (.func 35) #[] #[.pointer (some ⟨b1, 0, none⟩), .pointer (some ⟨b2, 0, none⟩)]) ∧ Ext w w' ∧ w.heap.size ≤ b1 ∧ w.heap.size ≤ b2 ∧
  w'.cell? ⟨b1, 0, none⟩ = some (.pointer (some ⟨X, 0, none⟩)) ∧ w'.cell? ⟨b2, 0, none⟩ = some (.int .i64 k)
theorem top_teller (w : World) (X k : Nat) : Calls Try.prog 26 #[.pointer (some ⟨X, 0, none⟩), .int .i64 k] w (Teller w X k) := by
  go_enter Try.func26, Try.ntmps26
  go_wp2
  go_ret
  exact ⟨w.heap.size, w.heap.size + 1, rfl, ((Ext.refl w).alloc _).alloc _, Nat.le_refl _, Nat.le_succ _, (World.cell?_alloc_past _ _ _ (by simp)).trans ((World.cell?_alloc_at _ _ _ _ rfl).trans rfl), (World.cell?_alloc_at _ _ _ _ (by simp)).trans rfl⟩

/-- Which action in TopoActive. -/
def act2 (B : Br) (k : Nat) : Nat := actSel ((B.gi k 87 == 3) || (B.gi k 87 == 4)) (B.gb k 32) (B.gb k 41) (B.gb k 39) (B.gb k 49) (B.gb k 40)
set_option maxRecDepth 100000 in
set_option maxHeartbeats 1000000 in
theorem top_row2 (w : World) (F : Nat → Prop) (X g k : Nat) (B : Br) (h : BrG w F X g B) (ho : B.ok) (hk : k < B.np) (hn : B.np < 1000) (hT : TR (B.hi 2) (B.hi 3) (B.hi 4) (B.hi 5)) (hF : ∀ n, F n → n < w.heap.size) (b1 b2 : Nat) (hs : B.gi k 21 = 2) : Calls Try.prog 27 #[.agg #[.pointer (some ⟨g, k * 89, none⟩), .int .i64 (B.hi 2), .int .i64 (B.hi 3), .int .i64 (B.hi 4), .int .i64 (B.hi 5), .func (.func 35) #[] #[.pointer (some ⟨b1, 0, none⟩), .pointer (some ⟨b2, 0, none⟩)]]] w fun e w' => e = .returned (topFun (act2 B k) (.agg #[.pointer (some ⟨g, k * 89, none⟩), .int .i64 (B.hi 2), .int .i64 (B.hi 3), .int .i64 (B.hi 4), .int .i64 (B.hi 5), .func (.func 35) #[] #[.pointer (some ⟨b1, 0, none⟩), .pointer (some ⟨b2, 0, none⟩)]])) ∧ Ext w w' := by
  obtain ⟨hX, hg, hne⟩ := h.lt
  have p21 := (h.cellg (i := k * 89 + 21) (lt89 hk (by decide))).trans (ho.gi hk 21 rfl)
  rw [hs] at p21
  have hx0 := (Ext.refl w).alloc (.cells #[.pointer (some ⟨g, k * 89, none⟩), .int .i64 (B.hi 2), .int .i64 (B.hi 3), .int .i64 (B.hi 4), .int .i64 (B.hi 5), .func (.func 35) #[] #[.pointer (some ⟨b1, 0, none⟩), .pointer (some ⟨b2, 0, none⟩)]] 65)
  have hB0 := h.ext hx0
  have HA := Lib.hid (top_active g (k * 89) (B.hi 2) (B.hi 3) (B.hi 4) (B.hi 5) b1 b2 (B.gi k 87) _ rfl (B.gb k 32) (B.gb k 41) (B.gb k 39) (B.gb k 49) (B.gb k 40) (flagsOf B.ps k) (w.alloc (.cells #[.pointer (some ⟨g, k * 89, none⟩), .int .i64 (B.hi 2), .int .i64 (B.hi 3), .int .i64 (B.hi 4), .int .i64 (B.hi 5), .func (.func 35) #[] #[.pointer (some ⟨b1, 0, none⟩), .pointer (some ⟨b2, 0, none⟩)]] 65)) (Nat.lt_of_lt_of_le hg hx0.size)
    ((hB0.cellg (i := k * 89 + 87) (lt89 hk (by decide))).trans (ho.gi hk 87 rfl)) (hB0.flags hk) (flagsOf_len ho hk) (flagsOf_one ho k)
    ((flagsOf_at (B := B) (k := k) (j := 10) (by decide)).trans (ho.gb hk 32 rfl)) ((flagsOf_at (B := B) (k := k) (j := 19) (by decide)).trans (ho.gb hk 41 rfl)) ((flagsOf_at (B := B) (k := k) (j := 17) (by decide)).trans (ho.gb hk 39 rfl))
    ((flagsOf_at (B := B) (k := k) (j := 27) (by decide)).trans (ho.gb hk 49 rfl)) ((flagsOf_at (B := B) (k := k) (j := 18) (by decide)).trans (ho.gb hk 40 rfl)))
  have HX := Lib.hid hx0
  clear h hF hT hx0 hB0 hs
  go_enter Try.func27, Try.ntmps27
  go_wp2_with fail
  refine HA.out.mono ?_
  rintro e w1 ⟨rfl, hx1⟩
  have HR := Lib.hid (HX.out.trans hx1)
  clear hx1 HA HX
  go_wp2_with fail
  go_ret
  exact ⟨rfl, HR.out⟩

theorem mem_build (p f : Value) (a m h d : Int) (w : World) (hp : ∃ q, p = .pointer q) (hf : ∃ x y z, f = .func x y z) : (Instr.build 65 #[(0, p), (1, .agg #[.int .i64 a, .int .i64 m, .int .i64 h, .int .i64 d]), (2, f)]).run Try.prog w = .ok (.agg #[p, .int .i64 a, .int .i64 m, .int .i64 h, .int .i64 d, f]) w := by
  obtain ⟨q, rfl⟩ := hp
  obtain ⟨x, y, z, rfl⟩ := hf
  kernel_rfl
theorem topfn_eq (f : FuncId) (cs : Array Value) (w : World) : (binOp BinOp.eql 1 (Value.func (Fn.func f) cs #[]) Value.nilFunc).run Try.prog w = .ok (.bool false) w := by kernel_rfl
theorem topfn_eq0 (w : World) : (binOp BinOp.eql 1 Value.nilFunc Value.nilFunc).run Try.prog w = .ok (.bool true) w := by kernel_rfl
theorem times_range {w : World} {F : Nat → Prop} {X g : Nat} {B : Br} (h : BrG w F X g B) (ho : B.ok) : w.rangeAt X 2 [.int .i64 (B.hi 2), .int .i64 (B.hi 3), .int .i64 (B.hi 4), .int .i64 (B.hi 5)] := fun j v hv => by
  have hj : j < 4 := by simpa using (List.getElem?_eq_some_iff.1 hv).1
  rcases (by omega : j = 0 ∨ j = 1 ∨ j = 2 ∨ j = 3) with rfl | rfl | rfl | rfl
  · exact ((h.cellX ho (i := 2) (by omega)).trans (ho.hi 2 rfl)).trans hv
  · exact ((h.cellX ho (i := 3) (by omega)).trans (ho.hi 3 rfl)).trans hv
  · exact ((h.cellX ho (i := 4) (by omega)).trans (ho.hi 4 rfl)).trans hv
  · exact ((h.cellX ho (i := 5) (by omega)).trans (ho.hi 5 rfl)).trans hv
theorem top_size_times : (Try.prog.info? 24).map (·.size) = some 4 := by kernel_rfl

set_option maxRecDepth 100000 in
set_option maxHeartbeats 1000000 in
theorem top_step2_0 (w : World) (F : Nat → Prop) (X g k : Nat) (B : Br) (h : BrG w F X g B) (ho : B.ok) (hk : k < B.np) (hn : B.np < 1000) (hT : TR (B.hi 2) (B.hi 3) (B.hi 4) (B.hi 5)) (hF : ∀ n, F n → n < w.heap.size) (h25 : B.gb k 25 = false) (hs : B.gi k 21 = 2) (ha : act2 B k = 0) : Calls Try.prog 21 #[.pointer (some ⟨X, 0, none⟩), .int .i64 k] w (Stepped w F X g (false, B)) := by
  obtain ⟨hX, hg, hne⟩ := h.lt
  obtain ⟨cap, c17, hc1, hc2⟩ := h.cell17 ho
  have p25 := (h.cellg (i := k * 89 + 25) (lt89 hk (by decide))).trans (ho.gb hk 25 rfl)
  rw [h25] at p25
  have HTR := Lib.hid (times_range h ho)
  have H := Lib.hid h
  have HF := Lib.hid hF
  have HT := Lib.hid hT
  have HS := Lib.hid hs
  have HA := Lib.hid ha
  have hk8 : k < 1000 := by omega
  clear h hF hT hs ha h25
  go_enter Try.func21, Try.ntmps21
  go_wp2_with fail
  refine beginL (S := fun W' => Ext w W') (by kernel_rfl) ?_
  intro wd hrf
  refine takeL (i := 0) (v := (.pointer (some ⟨g, k * 89, none⟩))) rfl (by kernel_rfl) (by kernel_rfl) (by kernel_rfl) (fun _ _ _ h => h) (Or.inl ⟨rfl, fun _ _ => rfl⟩) hrf ?_
  simp only [Act.put, List.setIfInBounds_toArray, List.set_cons_zero, List.set_cons_succ]
  refine takeL (i := 1) (v := (.pointer (some ⟨X, 0, none⟩))) rfl (by kernel_rfl) (by kernel_rfl) (by kernel_rfl) (fun _ _ _ h => h) (Or.inl ⟨rfl, fun _ _ => rfl⟩) hrf ?_
  simp only [Act.put, List.setIfInBounds_toArray, List.set_cons_zero, List.set_cons_succ]
  refine takeL (i := 2) (v := (.pointer (some ⟨X, 0, none⟩))) rfl (by kernel_rfl) (by kernel_rfl) (by kernel_rfl) (fun _ _ _ h => h) (Or.inl ⟨rfl, fun _ _ => rfl⟩) hrf ?_
  simp only [Act.put, List.setIfInBounds_toArray, List.set_cons_zero, List.set_cons_succ]
  refine takeL (i := 3) (v := (.pointer (some ⟨X, 2, none⟩))) rfl (by kernel_rfl) (by kernel_rfl) (by kernel_rfl) (fun _ _ _ h => h) (Or.inl ⟨rfl, fun _ _ => rfl⟩) hrf ?_
  simp only [Act.put, List.setIfInBounds_toArray, List.set_cons_zero, List.set_cons_succ]
  refine takeL (i := 4) (v := _) rfl (by kernel_rfl) (by kernel_rfl) (by kernel_rfl) (fun _ _ _ h => h) (yieldsIf_load_mid rfl 24 _ rfl X (2) rfl ([.int .i64 (B.hi 2), .int .i64 (B.hi 3), .int .i64 (B.hi 4), .int .i64 (B.hi 5)]) _ (fun W' hW' => rangeAt_ext HTR.out hW' hX) Try.underlying24 rfl top_size_times) hrf ?_
  simp only [Act.put, List.setIfInBounds_toArray, List.set_cons_zero, List.set_cons_succ]
  refine takeL (i := 5) (v := (.pointer (some ⟨X, 0, none⟩))) rfl (by kernel_rfl) (by kernel_rfl) (by kernel_rfl) (fun _ _ _ h => h) (Or.inl ⟨rfl, fun _ _ => rfl⟩) hrf ?_
  simp only [Act.put, List.setIfInBounds_toArray, List.set_cons_zero, List.set_cons_succ]
  refine takeL (i := 6) (v := (.int .i64 (k : Int))) rfl (by kernel_rfl) (by kernel_rfl) (by kernel_rfl) (fun _ _ _ h => h) (Or.inl ⟨rfl, fun _ _ => rfl⟩) hrf ?_
  simp only [Act.put, List.setIfInBounds_toArray, List.set_cons_zero, List.set_cons_succ]
  refine runL (i := 7) rfl rfl (by kernel_rfl) (fun K hK => ?_)
  go_simp
  refine (top_teller _ X k).mono ?_
  rintro e y1 ⟨b1, b2, rfl, hy1, hb1, hb2, d1, d2⟩
  have hr1 := hrf.trans hy1
  have hsz := hrf.size
  have f1 : ¬ F b1 := fun hh => by have := HF.out _ hh; omega
  have f2 : ¬ F b2 := fun hh => by have := HF.out _ hh; omega
  have D1 := Lib.hid d1
  have D2 := Lib.hid d2
  clear d1 d2 hy1 hrf hsz hb1 hb2
  refine hK.out _ _ hr1 (fun hHeld => ?_)
  try simp only [Act.put, List.setIfInBounds_toArray, List.set_cons_zero, List.set_cons_succ]
  clear hK K
  have hmb := fun W' : World => mem_build (.pointer (some ⟨g, k * 89, none⟩)) (.func (.func 35) #[] #[.pointer (some ⟨b1, 0, none⟩), .pointer (some ⟨b2, 0, none⟩)]) (B.hi 2) (B.hi 3) (B.hi 4) (B.hi 5) W' ⟨_, rfl⟩ ⟨_, _, _, rfl⟩
  refine takeL (i := 8) (v := (.agg #[.pointer (some ⟨g, k * 89, none⟩), .int .i64 (B.hi 2), .int .i64 (B.hi 3), .int .i64 (B.hi 4), .int .i64 (B.hi 5), .func (.func 35) #[] #[.pointer (some ⟨b1, 0, none⟩), .pointer (some ⟨b2, 0, none⟩)]])) rfl (by kernel_rfl) (by kernel_rfl) (by kernel_rfl) (fun _ _ _ h => h) (Or.inl ⟨rfl, fun W' _ => by go_simp⟩) hr1 ?_
  simp only [Act.put, List.setIfInBounds_toArray, List.set_cons_zero, List.set_cons_succ]
  clear hmb
  refine runL (i := 9) rfl rfl (by kernel_rfl) (fun K hK => ?_)
  go_simp
  refine (asv (v' := Value.nilFunc) (top_row2 y1 F X g k B (H.out.ext hr1) ho hk hn HT.out (fun n hn' => Nat.lt_of_lt_of_le (HF.out n hn') hr1.size) b1 b2 HS.out) (by rw [HA.out]; rfl)).mono ?_
  rintro e y2 ⟨rfl, hy2⟩
  have hr2 := hr1.trans hy2
  have c1 := (hy2.cell (p := ⟨b1, 0, none⟩) (World.block_lt_of_cell? _ _ D1.out)).trans D1.out
  have c2 := (hy2.cell (p := ⟨b2, 0, none⟩) (World.block_lt_of_cell? _ _ D2.out)).trans D2.out
  have C1 := Lib.hid c1
  have C2 := Lib.hid c2
  clear c1 c2 hy2 D1 D2
  refine hK.out _ _ hr2 (fun hHeld => ?_)
  try simp only [Act.put, List.setIfInBounds_toArray, List.set_cons_zero, List.set_cons_succ]
  clear hK K
  refine takeL (i := 10) (v := Value.nilFunc) rfl (by kernel_rfl) (by kernel_rfl) (by kernel_rfl) (fun _ _ _ h => h) (Or.inl ⟨rfl, fun _ _ => rfl⟩) hr2 ?_
  simp only [Act.put, List.setIfInBounds_toArray, List.set_cons_zero, List.set_cons_succ]
  refine wpAnyH_done (by kernel_rfl) ?_ _
  have HR := Lib.hid hr2
  clear hr1 hr2 c17 p25
  have q0 := topfn_eq0
  go_wp2_with fail
  go_ret
  exact ⟨rfl, H.out.ext HR.out, HR.out.mut F⟩

set_option maxRecDepth 100000 in
set_option maxHeartbeats 1000000 in
theorem top_step2_1 (w : World) (F : Nat → Prop) (X g k : Nat) (B : Br) (h : BrG w F X g B) (ho : B.ok) (hk : k < B.np) (hn : B.np < 1000) (hT : TR (B.hi 2) (B.hi 3) (B.hi 4) (B.hi 5)) (hF : ∀ n, F n → n < w.heap.size) (h25 : B.gb k 25 = false) (hs : B.gi k 21 = 2) (ha : act2 B k = 1) : Calls Try.prog 21 #[.pointer (some ⟨X, 0, none⟩), .int .i64 k] w (Stepped w F X g (true, tforget B k)) := by
  obtain ⟨hX, hg, hne⟩ := h.lt
  obtain ⟨cap, c17, hc1, hc2⟩ := h.cell17 ho
  have p25 := (h.cellg (i := k * 89 + 25) (lt89 hk (by decide))).trans (ho.gb hk 25 rfl)
  rw [h25] at p25
  have HTR := Lib.hid (times_range h ho)
  have H := Lib.hid h
  have HF := Lib.hid hF
  have HT := Lib.hid hT
  have HS := Lib.hid hs
  have HA := Lib.hid ha
  have hk8 : k < 1000 := by omega
  clear h hF hT hs ha h25
  go_enter Try.func21, Try.ntmps21
  go_wp2_with fail
  refine beginL (S := fun W' => Ext w W') (by kernel_rfl) ?_
  intro wd hrf
  refine takeL (i := 0) (v := (.pointer (some ⟨g, k * 89, none⟩))) rfl (by kernel_rfl) (by kernel_rfl) (by kernel_rfl) (fun _ _ _ h => h) (Or.inl ⟨rfl, fun _ _ => rfl⟩) hrf ?_
  simp only [Act.put, List.setIfInBounds_toArray, List.set_cons_zero, List.set_cons_succ]
  refine takeL (i := 1) (v := (.pointer (some ⟨X, 0, none⟩))) rfl (by kernel_rfl) (by kernel_rfl) (by kernel_rfl) (fun _ _ _ h => h) (Or.inl ⟨rfl, fun _ _ => rfl⟩) hrf ?_
  simp only [Act.put, List.setIfInBounds_toArray, List.set_cons_zero, List.set_cons_succ]
  refine takeL (i := 2) (v := (.pointer (some ⟨X, 0, none⟩))) rfl (by kernel_rfl) (by kernel_rfl) (by kernel_rfl) (fun _ _ _ h => h) (Or.inl ⟨rfl, fun _ _ => rfl⟩) hrf ?_
  simp only [Act.put, List.setIfInBounds_toArray, List.set_cons_zero, List.set_cons_succ]
  refine takeL (i := 3) (v := (.pointer (some ⟨X, 2, none⟩))) rfl (by kernel_rfl) (by kernel_rfl) (by kernel_rfl) (fun _ _ _ h => h) (Or.inl ⟨rfl, fun _ _ => rfl⟩) hrf ?_
  simp only [Act.put, List.setIfInBounds_toArray, List.set_cons_zero, List.set_cons_succ]
  refine takeL (i := 4) (v := _) rfl (by kernel_rfl) (by kernel_rfl) (by kernel_rfl) (fun _ _ _ h => h) (yieldsIf_load_mid rfl 24 _ rfl X (2) rfl ([.int .i64 (B.hi 2), .int .i64 (B.hi 3), .int .i64 (B.hi 4), .int .i64 (B.hi 5)]) _ (fun W' hW' => rangeAt_ext HTR.out hW' hX) Try.underlying24 rfl top_size_times) hrf ?_
  simp only [Act.put, List.setIfInBounds_toArray, List.set_cons_zero, List.set_cons_succ]
  refine takeL (i := 5) (v := (.pointer (some ⟨X, 0, none⟩))) rfl (by kernel_rfl) (by kernel_rfl) (by kernel_rfl) (fun _ _ _ h => h) (Or.inl ⟨rfl, fun _ _ => rfl⟩) hrf ?_
  simp only [Act.put, List.setIfInBounds_toArray, List.set_cons_zero, List.set_cons_succ]
  refine takeL (i := 6) (v := (.int .i64 (k : Int))) rfl (by kernel_rfl) (by kernel_rfl) (by kernel_rfl) (fun _ _ _ h => h) (Or.inl ⟨rfl, fun _ _ => rfl⟩) hrf ?_
  simp only [Act.put, List.setIfInBounds_toArray, List.set_cons_zero, List.set_cons_succ]
  refine runL (i := 7) rfl rfl (by kernel_rfl) (fun K hK => ?_)
  go_simp
  refine (top_teller _ X k).mono ?_
  rintro e y1 ⟨b1, b2, rfl, hy1, hb1, hb2, d1, d2⟩
  have hr1 := hrf.trans hy1
  have hsz := hrf.size
  have f1 : ¬ F b1 := fun hh => by have := HF.out _ hh; omega
  have f2 : ¬ F b2 := fun hh => by have := HF.out _ hh; omega
  have D1 := Lib.hid d1
  have D2 := Lib.hid d2
  clear d1 d2 hy1 hrf hsz hb1 hb2
  refine hK.out _ _ hr1 (fun hHeld => ?_)
  try simp only [Act.put, List.setIfInBounds_toArray, List.set_cons_zero, List.set_cons_succ]
  clear hK K
  have hmb := fun W' : World => mem_build (.pointer (some ⟨g, k * 89, none⟩)) (.func (.func 35) #[] #[.pointer (some ⟨b1, 0, none⟩), .pointer (some ⟨b2, 0, none⟩)]) (B.hi 2) (B.hi 3) (B.hi 4) (B.hi 5) W' ⟨_, rfl⟩ ⟨_, _, _, rfl⟩
  refine takeL (i := 8) (v := (.agg #[.pointer (some ⟨g, k * 89, none⟩), .int .i64 (B.hi 2), .int .i64 (B.hi 3), .int .i64 (B.hi 4), .int .i64 (B.hi 5), .func (.func 35) #[] #[.pointer (some ⟨b1, 0, none⟩), .pointer (some ⟨b2, 0, none⟩)]])) rfl (by kernel_rfl) (by kernel_rfl) (by kernel_rfl) (fun _ _ _ h => h) (Or.inl ⟨rfl, fun W' _ => by go_simp⟩) hr1 ?_
  simp only [Act.put, List.setIfInBounds_toArray, List.set_cons_zero, List.set_cons_succ]
  clear hmb
  refine runL (i := 9) rfl rfl (by kernel_rfl) (fun K hK => ?_)
  go_simp
  refine (asv (v' := (.func (.func 36) #[.agg #[.pointer (some ⟨g, k * 89, none⟩), .int .i64 (B.hi 2), .int .i64 (B.hi 3), .int .i64 (B.hi 4), .int .i64 (B.hi 5), .func (.func 35) #[] #[.pointer (some ⟨b1, 0, none⟩), .pointer (some ⟨b2, 0, none⟩)]]] #[])) (top_row2 y1 F X g k B (H.out.ext hr1) ho hk hn HT.out (fun n hn' => Nat.lt_of_lt_of_le (HF.out n hn') hr1.size) b1 b2 HS.out) (by rw [HA.out]; rfl)).mono ?_
  rintro e y2 ⟨rfl, hy2⟩
  have hr2 := hr1.trans hy2
  have c1 := (hy2.cell (p := ⟨b1, 0, none⟩) (World.block_lt_of_cell? _ _ D1.out)).trans D1.out
  have c2 := (hy2.cell (p := ⟨b2, 0, none⟩) (World.block_lt_of_cell? _ _ D2.out)).trans D2.out
  have C1 := Lib.hid c1
  have C2 := Lib.hid c2
  clear c1 c2 hy2 D1 D2
  refine hK.out _ _ hr2 (fun hHeld => ?_)
  try simp only [Act.put, List.setIfInBounds_toArray, List.set_cons_zero, List.set_cons_succ]
  clear hK K
  refine takeL (i := 10) (v := (.func (.func 36) #[.agg #[.pointer (some ⟨g, k * 89, none⟩), .int .i64 (B.hi 2), .int .i64 (B.hi 3), .int .i64 (B.hi 4), .int .i64 (B.hi 5), .func (.func 35) #[] #[.pointer (some ⟨b1, 0, none⟩), .pointer (some ⟨b2, 0, none⟩)]]] #[])) rfl (by kernel_rfl) (by kernel_rfl) (by kernel_rfl) (fun _ _ _ h => h) (Or.inl ⟨rfl, fun _ _ => rfl⟩) hr2 ?_
  simp only [Act.put, List.setIfInBounds_toArray, List.set_cons_zero, List.set_cons_succ]
  refine wpAnyH_done (by kernel_rfl) ?_ _
  have HR := Lib.hid hr2
  clear hr1 hr2 c17 p25
  have q0 := topfn_eq0
  have q1 := topfn_eq 36
  go_wp2_with fail
  refine (top_forget y2 F X g k B (H.out.ext HR.out) ho hk hn HT.out (fun n hn' => Nat.lt_of_lt_of_le (HF.out n hn') HR.out.size) b1 b2).mono ?_
  rintro e y3 ⟨rfl, hB, hm⟩
  have HB := Lib.hid hB
  have HQ := Lib.hid ((HR.out.mut F).trans hm)
  clear hB hm
  go_wp2_with fail
  go_ret
  exact ⟨rfl, HB.out, HQ.out⟩

set_option maxRecDepth 100000 in
set_option maxHeartbeats 1000000 in
theorem top_step2_2 (w : World) (F : Nat → Prop) (X g k : Nat) (B : Br) (h : BrG w F X g B) (ho : B.ok) (hk : k < B.np) (hn : B.np < 1000) (hT : TR (B.hi 2) (B.hi 3) (B.hi 4) (B.hi 5)) (hF : ∀ n, F n → n < w.heap.size) (h25 : B.gb k 25 = false) (hs : B.gi k 21 = 2) (ha : act2 B k = 2) : Calls Try.prog 21 #[.pointer (some ⟨X, 0, none⟩), .int .i64 k] w (Stepped w F X g (true, tpass (tbegin B k) k)) := by
  obtain ⟨hX, hg, hne⟩ := h.lt
  obtain ⟨cap, c17, hc1, hc2⟩ := h.cell17 ho
  have p25 := (h.cellg (i := k * 89 + 25) (lt89 hk (by decide))).trans (ho.gb hk 25 rfl)
  rw [h25] at p25
  have HTR := Lib.hid (times_range h ho)
  have H := Lib.hid h
  have HF := Lib.hid hF
  have HT := Lib.hid hT
  have HS := Lib.hid hs
  have HA := Lib.hid ha
  have hk8 : k < 1000 := by omega
  clear h hF hT hs ha h25
  go_enter Try.func21, Try.ntmps21
  go_wp2_with fail
  refine beginL (S := fun W' => Ext w W') (by kernel_rfl) ?_
  intro wd hrf
  refine takeL (i := 0) (v := (.pointer (some ⟨g, k * 89, none⟩))) rfl (by kernel_rfl) (by kernel_rfl) (by kernel_rfl) (fun _ _ _ h => h) (Or.inl ⟨rfl, fun _ _ => rfl⟩) hrf ?_
  simp only [Act.put, List.setIfInBounds_toArray, List.set_cons_zero, List.set_cons_succ]
  refine takeL (i := 1) (v := (.pointer (some ⟨X, 0, none⟩))) rfl (by kernel_rfl) (by kernel_rfl) (by kernel_rfl) (fun _ _ _ h => h) (Or.inl ⟨rfl, fun _ _ => rfl⟩) hrf ?_
  simp only [Act.put, List.setIfInBounds_toArray, List.set_cons_zero, List.set_cons_succ]
  refine takeL (i := 2) (v := (.pointer (some ⟨X, 0, none⟩))) rfl (by kernel_rfl) (by kernel_rfl) (by kernel_rfl) (fun _ _ _ h => h) (Or.inl ⟨rfl, fun _ _ => rfl⟩) hrf ?_
  simp only [Act.put, List.setIfInBounds_toArray, List.set_cons_zero, List.set_cons_succ]
  refine takeL (i := 3) (v := (.pointer (some ⟨X, 2, none⟩))) rfl (by kernel_rfl) (by kernel_rfl) (by kernel_rfl) (fun _ _ _ h => h) (Or.inl ⟨rfl, fun _ _ => rfl⟩) hrf ?_
  simp only [Act.put, List.setIfInBounds_toArray, List.set_cons_zero, List.set_cons_succ]
  refine takeL (i := 4) (v := _) rfl (by kernel_rfl) (by kernel_rfl) (by kernel_rfl) (fun _ _ _ h => h) (yieldsIf_load_mid rfl 24 _ rfl X (2) rfl ([.int .i64 (B.hi 2), .int .i64 (B.hi 3), .int .i64 (B.hi 4), .int .i64 (B.hi 5)]) _ (fun W' hW' => rangeAt_ext HTR.out hW' hX) Try.underlying24 rfl top_size_times) hrf ?_
  simp only [Act.put, List.setIfInBounds_toArray, List.set_cons_zero, List.set_cons_succ]
  refine takeL (i := 5) (v := (.pointer (some ⟨X, 0, none⟩))) rfl (by kernel_rfl) (by kernel_rfl) (by kernel_rfl) (fun _ _ _ h => h) (Or.inl ⟨rfl, fun _ _ => rfl⟩) hrf ?_
  simp only [Act.put, List.setIfInBounds_toArray, List.set_cons_zero, List.set_cons_succ]
  refine takeL (i := 6) (v := (.int .i64 (k : Int))) rfl (by kernel_rfl) (by kernel_rfl) (by kernel_rfl) (fun _ _ _ h => h) (Or.inl ⟨rfl, fun _ _ => rfl⟩) hrf ?_
  simp only [Act.put, List.setIfInBounds_toArray, List.set_cons_zero, List.set_cons_succ]
  refine runL (i := 7) rfl rfl (by kernel_rfl) (fun K hK => ?_)
  go_simp
  refine (top_teller _ X k).mono ?_
  rintro e y1 ⟨b1, b2, rfl, hy1, hb1, hb2, d1, d2⟩
  have hr1 := hrf.trans hy1
  have hsz := hrf.size
  have f1 : ¬ F b1 := fun hh => by have := HF.out _ hh; omega
  have f2 : ¬ F b2 := fun hh => by have := HF.out _ hh; omega
  have D1 := Lib.hid d1
  have D2 := Lib.hid d2
  clear d1 d2 hy1 hrf hsz hb1 hb2
  refine hK.out _ _ hr1 (fun hHeld => ?_)
  try simp only [Act.put, List.setIfInBounds_toArray, List.set_cons_zero, List.set_cons_succ]
  clear hK K
  have hmb := fun W' : World => mem_build (.pointer (some ⟨g, k * 89, none⟩)) (.func (.func 35) #[] #[.pointer (some ⟨b1, 0, none⟩), .pointer (some ⟨b2, 0, none⟩)]) (B.hi 2) (B.hi 3) (B.hi 4) (B.hi 5) W' ⟨_, rfl⟩ ⟨_, _, _, rfl⟩
  refine takeL (i := 8) (v := (.agg #[.pointer (some ⟨g, k * 89, none⟩), .int .i64 (B.hi 2), .int .i64 (B.hi 3), .int .i64 (B.hi 4), .int .i64 (B.hi 5), .func (.func 35) #[] #[.pointer (some ⟨b1, 0, none⟩), .pointer (some ⟨b2, 0, none⟩)]])) rfl (by kernel_rfl) (by kernel_rfl) (by kernel_rfl) (fun _ _ _ h => h) (Or.inl ⟨rfl, fun W' _ => by go_simp⟩) hr1 ?_
  simp only [Act.put, List.setIfInBounds_toArray, List.set_cons_zero, List.set_cons_succ]
  clear hmb
  refine runL (i := 9) rfl rfl (by kernel_rfl) (fun K hK => ?_)
  go_simp
  refine (asv (v' := (.func (.func 43) #[.agg #[.pointer (some ⟨g, k * 89, none⟩), .int .i64 (B.hi 2), .int .i64 (B.hi 3), .int .i64 (B.hi 4), .int .i64 (B.hi 5), .func (.func 35) #[] #[.pointer (some ⟨b1, 0, none⟩), .pointer (some ⟨b2, 0, none⟩)]]] #[])) (top_row2 y1 F X g k B (H.out.ext hr1) ho hk hn HT.out (fun n hn' => Nat.lt_of_lt_of_le (HF.out n hn') hr1.size) b1 b2 HS.out) (by rw [HA.out]; rfl)).mono ?_
  rintro e y2 ⟨rfl, hy2⟩
  have hr2 := hr1.trans hy2
  have c1 := (hy2.cell (p := ⟨b1, 0, none⟩) (World.block_lt_of_cell? _ _ D1.out)).trans D1.out
  have c2 := (hy2.cell (p := ⟨b2, 0, none⟩) (World.block_lt_of_cell? _ _ D2.out)).trans D2.out
  have C1 := Lib.hid c1
  have C2 := Lib.hid c2
  clear c1 c2 hy2 D1 D2
  refine hK.out _ _ hr2 (fun hHeld => ?_)
  try simp only [Act.put, List.setIfInBounds_toArray, List.set_cons_zero, List.set_cons_succ]
  clear hK K
  refine takeL (i := 10) (v := (.func (.func 43) #[.agg #[.pointer (some ⟨g, k * 89, none⟩), .int .i64 (B.hi 2), .int .i64 (B.hi 3), .int .i64 (B.hi 4), .int .i64 (B.hi 5), .func (.func 35) #[] #[.pointer (some ⟨b1, 0, none⟩), .pointer (some ⟨b2, 0, none⟩)]]] #[])) rfl (by kernel_rfl) (by kernel_rfl) (by kernel_rfl) (fun _ _ _ h => h) (Or.inl ⟨rfl, fun _ _ => rfl⟩) hr2 ?_
  simp only [Act.put, List.setIfInBounds_toArray, List.set_cons_zero, List.set_cons_succ]
  refine wpAnyH_done (by kernel_rfl) ?_ _
  have HR := Lib.hid hr2
  clear hr1 hr2 c17 p25
  have q0 := topfn_eq0
  have q1 := topfn_eq 43
  go_wp2_with fail
  refine (top_notice y2 F X g k B (H.out.ext HR.out) ho hk hn HT.out (fun n hn' => Nat.lt_of_lt_of_le (HF.out n hn') HR.out.size) b1 b2 C1.out C2.out f1 f2).mono ?_
  rintro e y3 ⟨rfl, hB, hm⟩
  have HB := Lib.hid hB
  have HQ := Lib.hid ((HR.out.mut F).trans hm)
  clear hB hm
  go_wp2_with fail
  go_ret
  exact ⟨rfl, HB.out, HQ.out⟩

set_option maxRecDepth 100000 in
set_option maxHeartbeats 1000000 in
theorem top_step2_3 (w : World) (F : Nat → Prop) (X g k : Nat) (B : Br) (h : BrG w F X g B) (ho : B.ok) (hk : k < B.np) (hn : B.np < 1000) (hT : TR (B.hi 2) (B.hi 3) (B.hi 4) (B.hi 5)) (hF : ∀ n, F n → n < w.heap.size) (h25 : B.gb k 25 = false) (hs : B.gi k 21 = 2) (ha : act2 B k = 3) : Calls Try.prog 21 #[.pointer (some ⟨X, 0, none⟩), .int .i64 k] w (Stepped w F X g (true, tpass B k)) := by
  obtain ⟨hX, hg, hne⟩ := h.lt
  obtain ⟨cap, c17, hc1, hc2⟩ := h.cell17 ho
  have p25 := (h.cellg (i := k * 89 + 25) (lt89 hk (by decide))).trans (ho.gb hk 25 rfl)
  rw [h25] at p25
  have HTR := Lib.hid (times_range h ho)
  have H := Lib.hid h
  have HF := Lib.hid hF
  have HT := Lib.hid hT
  have HS := Lib.hid hs
  have HA := Lib.hid ha
  have hk8 : k < 1000 := by omega
  clear h hF hT hs ha h25
  go_enter Try.func21, Try.ntmps21
  go_wp2_with fail
  refine beginL (S := fun W' => Ext w W') (by kernel_rfl) ?_
  intro wd hrf
  refine takeL (i := 0) (v := (.pointer (some ⟨g, k * 89, none⟩))) rfl (by kernel_rfl) (by kernel_rfl) (by kernel_rfl) (fun _ _ _ h => h) (Or.inl ⟨rfl, fun _ _ => rfl⟩) hrf ?_
  simp only [Act.put, List.setIfInBounds_toArray, List.set_cons_zero, List.set_cons_succ]
  refine takeL (i := 1) (v := (.pointer (some ⟨X, 0, none⟩))) rfl (by kernel_rfl) (by kernel_rfl) (by kernel_rfl) (fun _ _ _ h => h) (Or.inl ⟨rfl, fun _ _ => rfl⟩) hrf ?_
  simp only [Act.put, List.setIfInBounds_toArray, List.set_cons_zero, List.set_cons_succ]
  refine takeL (i := 2) (v := (.pointer (some ⟨X, 0, none⟩))) rfl (by kernel_rfl) (by kernel_rfl) (by kernel_rfl) (fun _ _ _ h => h) (Or.inl ⟨rfl, fun _ _ => rfl⟩) hrf ?_
  simp only [Act.put, List.setIfInBounds_toArray, List.set_cons_zero, List.set_cons_succ]
  refine takeL (i := 3) (v := (.pointer (some ⟨X, 2, none⟩))) rfl (by kernel_rfl) (by kernel_rfl) (by kernel_rfl) (fun _ _ _ h => h) (Or.inl ⟨rfl, fun _ _ => rfl⟩) hrf ?_
  simp only [Act.put, List.setIfInBounds_toArray, List.set_cons_zero, List.set_cons_succ]
  refine takeL (i := 4) (v := _) rfl (by kernel_rfl) (by kernel_rfl) (by kernel_rfl) (fun _ _ _ h => h) (yieldsIf_load_mid rfl 24 _ rfl X (2) rfl ([.int .i64 (B.hi 2), .int .i64 (B.hi 3), .int .i64 (B.hi 4), .int .i64 (B.hi 5)]) _ (fun W' hW' => rangeAt_ext HTR.out hW' hX) Try.underlying24 rfl top_size_times) hrf ?_
  simp only [Act.put, List.setIfInBounds_toArray, List.set_cons_zero, List.set_cons_succ]
  refine takeL (i := 5) (v := (.pointer (some ⟨X, 0, none⟩))) rfl (by kernel_rfl) (by kernel_rfl) (by kernel_rfl) (fun _ _ _ h => h) (Or.inl ⟨rfl, fun _ _ => rfl⟩) hrf ?_
  simp only [Act.put, List.setIfInBounds_toArray, List.set_cons_zero, List.set_cons_succ]
  refine takeL (i := 6) (v := (.int .i64 (k : Int))) rfl (by kernel_rfl) (by kernel_rfl) (by kernel_rfl) (fun _ _ _ h => h) (Or.inl ⟨rfl, fun _ _ => rfl⟩) hrf ?_
  simp only [Act.put, List.setIfInBounds_toArray, List.set_cons_zero, List.set_cons_succ]
  refine runL (i := 7) rfl rfl (by kernel_rfl) (fun K hK => ?_)
  go_simp
  refine (top_teller _ X k).mono ?_
  rintro e y1 ⟨b1, b2, rfl, hy1, hb1, hb2, d1, d2⟩
  have hr1 := hrf.trans hy1
  have hsz := hrf.size
  have f1 : ¬ F b1 := fun hh => by have := HF.out _ hh; omega
  have f2 : ¬ F b2 := fun hh => by have := HF.out _ hh; omega
  have D1 := Lib.hid d1
  have D2 := Lib.hid d2
  clear d1 d2 hy1 hrf hsz hb1 hb2
  refine hK.out _ _ hr1 (fun hHeld => ?_)
  try simp only [Act.put, List.setIfInBounds_toArray, List.set_cons_zero, List.set_cons_succ]
  clear hK K
  have hmb := fun W' : World => mem_build (.pointer (some ⟨g, k * 89, none⟩)) (.func (.func 35) #[] #[.pointer (some ⟨b1, 0, none⟩), .pointer (some ⟨b2, 0, none⟩)]) (B.hi 2) (B.hi 3) (B.hi 4) (B.hi 5) W' ⟨_, rfl⟩ ⟨_, _, _, rfl⟩
  refine takeL (i := 8) (v := (.agg #[.pointer (some ⟨g, k * 89, none⟩), .int .i64 (B.hi 2), .int .i64 (B.hi 3), .int .i64 (B.hi 4), .int .i64 (B.hi 5), .func (.func 35) #[] #[.pointer (some ⟨b1, 0, none⟩), .pointer (some ⟨b2, 0, none⟩)]])) rfl (by kernel_rfl) (by kernel_rfl) (by kernel_rfl) (fun _ _ _ h => h) (Or.inl ⟨rfl, fun W' _ => by go_simp⟩) hr1 ?_
  simp only [Act.put, List.setIfInBounds_toArray, List.set_cons_zero, List.set_cons_succ]
  clear hmb
  refine runL (i := 9) rfl rfl (by kernel_rfl) (fun K hK => ?_)
  go_simp
  refine (asv (v' := (.func (.func 44) #[.agg #[.pointer (some ⟨g, k * 89, none⟩), .int .i64 (B.hi 2), .int .i64 (B.hi 3), .int .i64 (B.hi 4), .int .i64 (B.hi 5), .func (.func 35) #[] #[.pointer (some ⟨b1, 0, none⟩), .pointer (some ⟨b2, 0, none⟩)]]] #[])) (top_row2 y1 F X g k B (H.out.ext hr1) ho hk hn HT.out (fun n hn' => Nat.lt_of_lt_of_le (HF.out n hn') hr1.size) b1 b2 HS.out) (by rw [HA.out]; rfl)).mono ?_
  rintro e y2 ⟨rfl, hy2⟩
  have hr2 := hr1.trans hy2
  have c1 := (hy2.cell (p := ⟨b1, 0, none⟩) (World.block_lt_of_cell? _ _ D1.out)).trans D1.out
  have c2 := (hy2.cell (p := ⟨b2, 0, none⟩) (World.block_lt_of_cell? _ _ D2.out)).trans D2.out
  have C1 := Lib.hid c1
  have C2 := Lib.hid c2
  clear c1 c2 hy2 D1 D2
  refine hK.out _ _ hr2 (fun hHeld => ?_)
  try simp only [Act.put, List.setIfInBounds_toArray, List.set_cons_zero, List.set_cons_succ]
  clear hK K
  refine takeL (i := 10) (v := (.func (.func 44) #[.agg #[.pointer (some ⟨g, k * 89, none⟩), .int .i64 (B.hi 2), .int .i64 (B.hi 3), .int .i64 (B.hi 4), .int .i64 (B.hi 5), .func (.func 35) #[] #[.pointer (some ⟨b1, 0, none⟩), .pointer (some ⟨b2, 0, none⟩)]]] #[])) rfl (by kernel_rfl) (by kernel_rfl) (by kernel_rfl) (fun _ _ _ h => h) (Or.inl ⟨rfl, fun _ _ => rfl⟩) hr2 ?_
  simp only [Act.put, List.setIfInBounds_toArray, List.set_cons_zero, List.set_cons_succ]
  refine wpAnyH_done (by kernel_rfl) ?_ _
  have HR := Lib.hid hr2
  clear hr1 hr2 c17 p25
  have q0 := topfn_eq0
  have q1 := topfn_eq 44
  go_wp2_with fail
  refine (top_pass y2 F X g k B (H.out.ext HR.out) ho hk hn HT.out (fun n hn' => Nat.lt_of_lt_of_le (HF.out n hn') HR.out.size) b1 b2 C1.out C2.out f1 f2).mono ?_
  rintro e y3 ⟨rfl, hB, hm⟩
  have HB := Lib.hid hB
  have HQ := Lib.hid ((HR.out.mut F).trans hm)
  clear hB hm
  go_wp2_with fail
  go_ret
  exact ⟨rfl, HB.out, HQ.out⟩

set_option maxRecDepth 100000 in
set_option maxHeartbeats 1000000 in
theorem top_step2_5 (w : World) (F : Nat → Prop) (X g k : Nat) (B : Br) (h : BrG w F X g B) (ho : B.ok) (hk : k < B.np) (hn : B.np < 1000) (hT : TR (B.hi 2) (B.hi 3) (B.hi 4) (B.hi 5)) (hF : ∀ n, F n → n < w.heap.size) (h25 : B.gb k 25 = false) (hs : B.gi k 21 = 2) (ha : act2 B k = 5) : Calls Try.prog 21 #[.pointer (some ⟨X, 0, none⟩), .int .i64 k] w (Stepped w F X g (true, tack B k)) := by
  obtain ⟨hX, hg, hne⟩ := h.lt
  obtain ⟨cap, c17, hc1, hc2⟩ := h.cell17 ho
  have p25 := (h.cellg (i := k * 89 + 25) (lt89 hk (by decide))).trans (ho.gb hk 25 rfl)
  rw [h25] at p25
  have HTR := Lib.hid (times_range h ho)
  have H := Lib.hid h
  have HF := Lib.hid hF
  have HT := Lib.hid hT
  have HS := Lib.hid hs
  have HA := Lib.hid ha
  have hk8 : k < 1000 := by omega
  clear h hF hT hs ha h25
  go_enter Try.func21, Try.ntmps21
  go_wp2_with fail
  refine beginL (S := fun W' => Ext w W') (by kernel_rfl) ?_
  intro wd hrf
  refine takeL (i := 0) (v := (.pointer (some ⟨g, k * 89, none⟩))) rfl (by kernel_rfl) (by kernel_rfl) (by kernel_rfl) (fun _ _ _ h => h) (Or.inl ⟨rfl, fun _ _ => rfl⟩) hrf ?_
  simp only [Act.put, List.setIfInBounds_toArray, List.set_cons_zero, List.set_cons_succ]
  refine takeL (i := 1) (v := (.pointer (some ⟨X, 0, none⟩))) rfl (by kernel_rfl) (by kernel_rfl) (by kernel_rfl) (fun _ _ _ h => h) (Or.inl ⟨rfl, fun _ _ => rfl⟩) hrf ?_
  simp only [Act.put, List.setIfInBounds_toArray, List.set_cons_zero, List.set_cons_succ]
  refine takeL (i := 2) (v := (.pointer (some ⟨X, 0, none⟩))) rfl (by kernel_rfl) (by kernel_rfl) (by kernel_rfl) (fun _ _ _ h => h) (Or.inl ⟨rfl, fun _ _ => rfl⟩) hrf ?_
  simp only [Act.put, List.setIfInBounds_toArray, List.set_cons_zero, List.set_cons_succ]
  refine takeL (i := 3) (v := (.pointer (some ⟨X, 2, none⟩))) rfl (by kernel_rfl) (by kernel_rfl) (by kernel_rfl) (fun _ _ _ h => h) (Or.inl ⟨rfl, fun _ _ => rfl⟩) hrf ?_
  simp only [Act.put, List.setIfInBounds_toArray, List.set_cons_zero, List.set_cons_succ]
  refine takeL (i := 4) (v := _) rfl (by kernel_rfl) (by kernel_rfl) (by kernel_rfl) (fun _ _ _ h => h) (yieldsIf_load_mid rfl 24 _ rfl X (2) rfl ([.int .i64 (B.hi 2), .int .i64 (B.hi 3), .int .i64 (B.hi 4), .int .i64 (B.hi 5)]) _ (fun W' hW' => rangeAt_ext HTR.out hW' hX) Try.underlying24 rfl top_size_times) hrf ?_
  simp only [Act.put, List.setIfInBounds_toArray, List.set_cons_zero, List.set_cons_succ]
  refine takeL (i := 5) (v := (.pointer (some ⟨X, 0, none⟩))) rfl (by kernel_rfl) (by kernel_rfl) (by kernel_rfl) (fun _ _ _ h => h) (Or.inl ⟨rfl, fun _ _ => rfl⟩) hrf ?_
  simp only [Act.put, List.setIfInBounds_toArray, List.set_cons_zero, List.set_cons_succ]
  refine takeL (i := 6) (v := (.int .i64 (k : Int))) rfl (by kernel_rfl) (by kernel_rfl) (by kernel_rfl) (fun _ _ _ h => h) (Or.inl ⟨rfl, fun _ _ => rfl⟩) hrf ?_
  simp only [Act.put, List.setIfInBounds_toArray, List.set_cons_zero, List.set_cons_succ]
  refine runL (i := 7) rfl rfl (by kernel_rfl) (fun K hK => ?_)
  go_simp
  refine (top_teller _ X k).mono ?_
  rintro e y1 ⟨b1, b2, rfl, hy1, hb1, hb2, d1, d2⟩
  have hr1 := hrf.trans hy1
  have hsz := hrf.size
  have f1 : ¬ F b1 := fun hh => by have := HF.out _ hh; omega
  have f2 : ¬ F b2 := fun hh => by have := HF.out _ hh; omega
  have D1 := Lib.hid d1
  have D2 := Lib.hid d2
  clear d1 d2 hy1 hrf hsz hb1 hb2
  refine hK.out _ _ hr1 (fun hHeld => ?_)
  try simp only [Act.put, List.setIfInBounds_toArray, List.set_cons_zero, List.set_cons_succ]
  clear hK K
  have hmb := fun W' : World => mem_build (.pointer (some ⟨g, k * 89, none⟩)) (.func (.func 35) #[] #[.pointer (some ⟨b1, 0, none⟩), .pointer (some ⟨b2, 0, none⟩)]) (B.hi 2) (B.hi 3) (B.hi 4) (B.hi 5) W' ⟨_, rfl⟩ ⟨_, _, _, rfl⟩
  refine takeL (i := 8) (v := (.agg #[.pointer (some ⟨g, k * 89, none⟩), .int .i64 (B.hi 2), .int .i64 (B.hi 3), .int .i64 (B.hi 4), .int .i64 (B.hi 5), .func (.func 35) #[] #[.pointer (some ⟨b1, 0, none⟩), .pointer (some ⟨b2, 0, none⟩)]])) rfl (by kernel_rfl) (by kernel_rfl) (by kernel_rfl) (fun _ _ _ h => h) (Or.inl ⟨rfl, fun W' _ => by go_simp⟩) hr1 ?_
  simp only [Act.put, List.setIfInBounds_toArray, List.set_cons_zero, List.set_cons_succ]
  clear hmb
  refine runL (i := 9) rfl rfl (by kernel_rfl) (fun K hK => ?_)
  go_simp
  refine (asv (v' := (.func (.func 46) #[.agg #[.pointer (some ⟨g, k * 89, none⟩), .int .i64 (B.hi 2), .int .i64 (B.hi 3), .int .i64 (B.hi 4), .int .i64 (B.hi 5), .func (.func 35) #[] #[.pointer (some ⟨b1, 0, none⟩), .pointer (some ⟨b2, 0, none⟩)]]] #[])) (top_row2 y1 F X g k B (H.out.ext hr1) ho hk hn HT.out (fun n hn' => Nat.lt_of_lt_of_le (HF.out n hn') hr1.size) b1 b2 HS.out) (by rw [HA.out]; rfl)).mono ?_
  rintro e y2 ⟨rfl, hy2⟩
  have hr2 := hr1.trans hy2
  have c1 := (hy2.cell (p := ⟨b1, 0, none⟩) (World.block_lt_of_cell? _ _ D1.out)).trans D1.out
  have c2 := (hy2.cell (p := ⟨b2, 0, none⟩) (World.block_lt_of_cell? _ _ D2.out)).trans D2.out
  have C1 := Lib.hid c1
  have C2 := Lib.hid c2
  clear c1 c2 hy2 D1 D2
  refine hK.out _ _ hr2 (fun hHeld => ?_)
  try simp only [Act.put, List.setIfInBounds_toArray, List.set_cons_zero, List.set_cons_succ]
  clear hK K
  refine takeL (i := 10) (v := (.func (.func 46) #[.agg #[.pointer (some ⟨g, k * 89, none⟩), .int .i64 (B.hi 2), .int .i64 (B.hi 3), .int .i64 (B.hi 4), .int .i64 (B.hi 5), .func (.func 35) #[] #[.pointer (some ⟨b1, 0, none⟩), .pointer (some ⟨b2, 0, none⟩)]]] #[])) rfl (by kernel_rfl) (by kernel_rfl) (by kernel_rfl) (fun _ _ _ h => h) (Or.inl ⟨rfl, fun _ _ => rfl⟩) hr2 ?_
  simp only [Act.put, List.setIfInBounds_toArray, List.set_cons_zero, List.set_cons_succ]
  refine wpAnyH_done (by kernel_rfl) ?_ _
  have HR := Lib.hid hr2
  clear hr1 hr2 c17 p25
  have q0 := topfn_eq0
  have q1 := topfn_eq 46
  go_wp2_with fail
  refine (top_ack y2 F X g k B (H.out.ext HR.out) ho hk hn HT.out (fun n hn' => Nat.lt_of_lt_of_le (HF.out n hn') HR.out.size) b1 b2).mono ?_
  rintro e y3 ⟨rfl, hB, hm⟩
  have HB := Lib.hid hB
  have HQ := Lib.hid ((HR.out.mut F).trans hm)
  clear hB hm
  go_wp2_with fail
  go_ret
  exact ⟨rfl, HB.out, HQ.out⟩

end Go.Proofs.Ytpieamfpgfabgaa
