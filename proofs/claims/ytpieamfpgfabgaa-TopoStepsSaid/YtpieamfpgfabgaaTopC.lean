/- The machine of changes in TopoActive. No statement is proved here. -/
import Derived.Test.YtpieamfpgfabgaaTopB
namespace Go.Proofs.Ytpieamfpgfabgaa
open Go.RowKit Go.BigFrame Go.WideShapes Go.ChangeShapes Go.Deep
set_option linter.unusedVariables false
set_option linter.unusedSimpArgs false

/-- A change begins, if there is none. -/
def tbegin (B : Br) (k : Nat) : Br := if B.gi k 13 = 0 then if B.gb k 45 = true then ((B.setp k 13 (.int .i64 (B.hi 4 + 1))).setp k 31 (.bool true)) else (B.setp k 13 (.int .i64 (B.hi 3 + B.hi 5))) else B
def tpass0 (B : Br) (k : Nat) : Br := ((B.setp k 39 (.bool false)).setp k 41 (.bool false)).setp k 48 (.bool (B.gb k 48 || (B.gi k 87 == 4)))
def tpass (B : Br) (k : Nat) : Br := tcp (tpass0 B k) k B.np
def tforget (B : Br) (k : Nat) : Br := (((((B.setp k 39 (.bool false)).setp k 41 (.bool false)).setp k 40 (.bool false)).setp k 49 (.bool false)).setp k 21 (.int .i64 1))
def tspread (B : Br) (k : Nat) : Br := ((tbegin B k).setp k 25 (.bool true)).setp k 49 (.bool false)
def tack (B : Br) (k : Nat) : Br := ((B.setp k 13 (.int .i64 0)).setp k 40 (.bool false))
theorem tbegin_np (B : Br) (k : Nat) : (tbegin B k).np = B.np := by
  unfold tbegin
  split
  · split <;> rfl
  · rfl
theorem tbegin_hd (B : Br) (k : Nat) : (tbegin B k).hd = B.hd := by
  unfold tbegin
  split
  · split <;> rfl
  · rfl
theorem tbegin_ok {B : Br} (ho : B.ok) {k : Nat} (hk : k < B.np) (hT : TR (B.hi 2) (B.hi 3) (B.hi 4) (B.hi 5)) : (tbegin B k).ok := by
  unfold TR at hT
  unfold tbegin
  split
  · split
    · exact (ho.setI hk 13 .i64 _ rfl (by simp [Lit.wf, IntKind.min, IntKind.max, IntKind.signed, IntKind.bits]; omega)).setB (k := k) hk 31 true rfl
    · exact ho.setI hk 13 .i64 _ rfl (by simp [Lit.wf, IntKind.min, IntKind.max, IntKind.signed, IntKind.bits]; omega)
  · exact ho
theorem tpass0_ok {B : Br} (ho : B.ok) {k : Nat} (hk : k < B.np) : (tpass0 B k).ok := ((ho.setB hk 39 false rfl).setB (k := k) hk 41 false rfl).setB (k := k) hk 48 _ rfl
theorem tpass_ok {B : Br} (ho : B.ok) {k : Nat} (hk : k < B.np) : (tpass B k).ok := tcp_ok (tpass0_ok ho hk) k B.np (Nat.le_refl _)
theorem tpass_np (B : Br) (k : Nat) : (tpass B k).np = B.np := tcp_np _ _ _
theorem tforget_ok {B : Br} (ho : B.ok) {k : Nat} (hk : k < B.np) : (tforget B k).ok := ((((ho.setB hk 39 false rfl).setB (k := k) hk 41 false rfl).setB (k := k) hk 40 false rfl).setB (k := k) hk 49 false rfl).setI (k := k) hk 21 .i64 1 rfl (by decide)
theorem tack_ok {B : Br} (ho : B.ok) {k : Nat} (hk : k < B.np) : (tack B k).ok := (ho.setI hk 13 .i64 0 rfl (by decide)).setB (k := k) hk 40 false rfl
theorem tspread_ok {B : Br} (ho : B.ok) {k : Nat} (hk : k < B.np) (hT : TR (B.hi 2) (B.hi 3) (B.hi 4) (B.hi 5)) : (tspread B k).ok :=
  ((tbegin_ok ho hk hT).setB (k := k) (by rw [tbegin_np]; exact hk) 25 true rfl).setB (k := k) (by show k < (tbegin B k).np; rw [tbegin_np]; exact hk) 49 false rfl

set_option maxRecDepth 100000 in
set_option maxHeartbeats 1000000 in
theorem top_forget (w : World) (F : Nat → Prop) (X g k : Nat) (B : Br) (h : BrG w F X g B) (ho : B.ok) (hk : k < B.np) (hn : B.np < 1000) (hT : TR (B.hi 2) (B.hi 3) (B.hi 4) (B.hi 5)) (hF : ∀ n, F n → n < w.heap.size) (b1 b2 : Nat) : Calls Try.prog 36 #[.agg #[.pointer (some ⟨g, k * 89, none⟩), .int .i64 (B.hi 2), .int .i64 (B.hi 3), .int .i64 (B.hi 4), .int .i64 (B.hi 5), .func (.func 35) #[] #[.pointer (some ⟨b1, 0, none⟩), .pointer (some ⟨b2, 0, none⟩)]]] w fun e w' => e = .returned (.tuple #[]) ∧ BrG w' F X g (tforget B k) ∧ Mut F w w' := by
  obtain ⟨hX, hg, hne⟩ := h.lt
  unfold TR at hT
  have p39 := (h.cellg (i := k * 89 + 39) (lt89 hk (by decide))).trans (ho.gb hk 39 rfl)
  have p41 := (h.cellg (i := k * 89 + 41) (lt89 hk (by decide))).trans (ho.gb hk 41 rfl)
  have p40 := (h.cellg (i := k * 89 + 40) (lt89 hk (by decide))).trans (ho.gb hk 40 rfl)
  have p49 := (h.cellg (i := k * 89 + 49) (lt89 hk (by decide))).trans (ho.gb hk 49 rfl)
  have p21 := (h.cellg (i := k * 89 + 21) (lt89 hk (by decide))).trans (ho.gi hk 21 rfl)
  have hf := h.frozen
  have H := Lib.hid h
  have HF := Lib.hid hF
  clear h hF
  go_enter Try.func36, Try.ntmps36
  go_wp2
  go_end0
  exact ⟨rfl, (((((H.out.setp (k := k) (j := 39) hk (by decide) (.bool false)).setp (k := k) (j := 41) hk (by decide) (.bool false)).setp (k := k) (j := 40) hk (by decide) (.bool false)).setp (k := k) (j := 49) hk (by decide) (.bool false)).setp (k := k) (j := 21) hk (by decide) (.int .i64 1)).alloc _, ((((((Mut.refl F w).setCell (p := ⟨g, k * 89 + 39, none⟩) (.inl H.out.F2) (.bool false)).setCell (p := ⟨g, k * 89 + 41, none⟩) (.inl H.out.F2) (.bool false)).setCell (p := ⟨g, k * 89 + 40, none⟩) (.inl H.out.F2) (.bool false)).setCell (p := ⟨g, k * 89 + 49, none⟩) (.inl H.out.F2) (.bool false)).setCell (p := ⟨g, k * 89 + 21, none⟩) (.inl H.out.F2) (.int .i64 1)).alloc _⟩

set_option maxRecDepth 100000 in
set_option maxHeartbeats 1000000 in
theorem top_ack (w : World) (F : Nat → Prop) (X g k : Nat) (B : Br) (h : BrG w F X g B) (ho : B.ok) (hk : k < B.np) (hn : B.np < 1000) (hT : TR (B.hi 2) (B.hi 3) (B.hi 4) (B.hi 5)) (hF : ∀ n, F n → n < w.heap.size) (b1 b2 : Nat) : Calls Try.prog 46 #[.agg #[.pointer (some ⟨g, k * 89, none⟩), .int .i64 (B.hi 2), .int .i64 (B.hi 3), .int .i64 (B.hi 4), .int .i64 (B.hi 5), .func (.func 35) #[] #[.pointer (some ⟨b1, 0, none⟩), .pointer (some ⟨b2, 0, none⟩)]]] w fun e w' => e = .returned (.tuple #[]) ∧ BrG w' F X g (tack B k) ∧ Mut F w w' := by
  obtain ⟨hX, hg, hne⟩ := h.lt
  unfold TR at hT
  have p13 := (h.cellg (i := k * 89 + 13) (lt89 hk (by decide))).trans (ho.gi hk 13 rfl)
  have p40 := (h.cellg (i := k * 89 + 40) (lt89 hk (by decide))).trans (ho.gb hk 40 rfl)
  have hf := h.frozen
  have H := Lib.hid h
  have HF := Lib.hid hF
  clear h hF
  go_enter Try.func46, Try.ntmps46
  go_wp2
  go_end0
  exact ⟨rfl, ((H.out.setp (k := k) (j := 13) hk (by decide) (.int .i64 0)).setp (k := k) (j := 40) hk (by decide) (.bool false)).alloc _, (((Mut.refl F w).setCell (p := ⟨g, k * 89 + 13, none⟩) (.inl H.out.F2) (.int .i64 0)).setCell (p := ⟨g, k * 89 + 40, none⟩) (.inl H.out.F2) (.bool false)).alloc _⟩

set_option maxRecDepth 100000 in
set_option maxHeartbeats 1000000 in
theorem top_beginA (w : World) (F : Nat → Prop) (X g k : Nat) (B : Br) (h : BrG w F X g B) (ho : B.ok) (hk : k < B.np) (hn : B.np < 1000) (hT : TR (B.hi 2) (B.hi 3) (B.hi 4) (B.hi 5)) (hF : ∀ n, F n → n < w.heap.size) (b1 b2 : Nat) (h13 : (B.gi k 13 != 0) = true) : Calls Try.prog 47 #[.agg #[.pointer (some ⟨g, k * 89, none⟩), .int .i64 (B.hi 2), .int .i64 (B.hi 3), .int .i64 (B.hi 4), .int .i64 (B.hi 5), .func (.func 35) #[] #[.pointer (some ⟨b1, 0, none⟩), .pointer (some ⟨b2, 0, none⟩)]]] w fun e w' => e = .returned (.tuple #[]) ∧ BrG w' F X g B ∧ Mut F w w' := by
  obtain ⟨hX, hg, hne⟩ := h.lt
  unfold TR at hT
  have p13 := (h.cellg (i := k * 89 + 13) (lt89 hk (by decide))).trans (ho.gi hk 13 rfl)
  have p45 := (h.cellg (i := k * 89 + 45) (lt89 hk (by decide))).trans (ho.gb hk 45 rfl)
  have p31 := (h.cellg (i := k * 89 + 31) (lt89 hk (by decide))).trans (ho.gb hk 31 rfl)
  have hf := h.frozen
  have H := Lib.hid h
  have HF := Lib.hid hF
  clear h hF
  go_enter Try.func47, Try.ntmps47
  go_wp2
  go_end0
  exact ⟨rfl, H.out.alloc _, (Mut.refl F w).alloc _⟩

set_option maxRecDepth 100000 in
set_option maxHeartbeats 1000000 in
theorem top_beginB (w : World) (F : Nat → Prop) (X g k : Nat) (B : Br) (h : BrG w F X g B) (ho : B.ok) (hk : k < B.np) (hn : B.np < 1000) (hT : TR (B.hi 2) (B.hi 3) (B.hi 4) (B.hi 5)) (hF : ∀ n, F n → n < w.heap.size) (b1 b2 : Nat) (h13 : B.gi k 13 = 0) (h45 : B.gb k 45 = true) : Calls Try.prog 47 #[.agg #[.pointer (some ⟨g, k * 89, none⟩), .int .i64 (B.hi 2), .int .i64 (B.hi 3), .int .i64 (B.hi 4), .int .i64 (B.hi 5), .func (.func 35) #[] #[.pointer (some ⟨b1, 0, none⟩), .pointer (some ⟨b2, 0, none⟩)]]] w fun e w' => e = .returned (.tuple #[]) ∧ BrG w' F X g ((B.setp k 13 (.int .i64 (B.hi 4 + 1))).setp k 31 (.bool true)) ∧ Mut F w w' := by
  obtain ⟨hX, hg, hne⟩ := h.lt
  unfold TR at hT
  have p13 := (h.cellg (i := k * 89 + 13) (lt89 hk (by decide))).trans (ho.gi hk 13 rfl)
  have p45 := (h.cellg (i := k * 89 + 45) (lt89 hk (by decide))).trans (ho.gb hk 45 rfl)
  have p31 := (h.cellg (i := k * 89 + 31) (lt89 hk (by decide))).trans (ho.gb hk 31 rfl)
  have hf := h.frozen
  rw [h13] at p13
  rw [h45] at p45
  clear h13 h45
  have H := Lib.hid h
  have HF := Lib.hid hF
  clear h hF
  go_enter Try.func47, Try.ntmps47
  go_wp2
  go_end0
  exact ⟨rfl, ((H.out.setp (k := k) (j := 13) hk (by decide) (.int .i64 (B.hi 4 + 1))).setp (k := k) (j := 31) hk (by decide) (.bool true)).alloc _, (((Mut.refl F w).setCell (p := ⟨g, k * 89 + 13, none⟩) (.inl H.out.F2) (.int .i64 (B.hi 4 + 1))).setCell (p := ⟨g, k * 89 + 31, none⟩) (.inl H.out.F2) (.bool true)).alloc _⟩

set_option maxRecDepth 100000 in
set_option maxHeartbeats 1000000 in
theorem top_beginC (w : World) (F : Nat → Prop) (X g k : Nat) (B : Br) (h : BrG w F X g B) (ho : B.ok) (hk : k < B.np) (hn : B.np < 1000) (hT : TR (B.hi 2) (B.hi 3) (B.hi 4) (B.hi 5)) (hF : ∀ n, F n → n < w.heap.size) (b1 b2 : Nat) (h13 : B.gi k 13 = 0) (h45 : B.gb k 45 = false) : Calls Try.prog 47 #[.agg #[.pointer (some ⟨g, k * 89, none⟩), .int .i64 (B.hi 2), .int .i64 (B.hi 3), .int .i64 (B.hi 4), .int .i64 (B.hi 5), .func (.func 35) #[] #[.pointer (some ⟨b1, 0, none⟩), .pointer (some ⟨b2, 0, none⟩)]]] w fun e w' => e = .returned (.tuple #[]) ∧ BrG w' F X g (B.setp k 13 (.int .i64 (B.hi 3 + B.hi 5))) ∧ Mut F w w' := by
  obtain ⟨hX, hg, hne⟩ := h.lt
  unfold TR at hT
  have p13 := (h.cellg (i := k * 89 + 13) (lt89 hk (by decide))).trans (ho.gi hk 13 rfl)
  have p45 := (h.cellg (i := k * 89 + 45) (lt89 hk (by decide))).trans (ho.gb hk 45 rfl)
  have p31 := (h.cellg (i := k * 89 + 31) (lt89 hk (by decide))).trans (ho.gb hk 31 rfl)
  have hf := h.frozen
  rw [h13] at p13
  rw [h45] at p45
  clear h13 h45
  have H := Lib.hid h
  have HF := Lib.hid hF
  clear h hF
  go_enter Try.func47, Try.ntmps47
  go_wp2
  go_end0
  exact ⟨rfl, (H.out.setp (k := k) (j := 13) hk (by decide) (.int .i64 (B.hi 3 + B.hi 5))).alloc _, ((Mut.refl F w).setCell (p := ⟨g, k * 89 + 13, none⟩) (.inl H.out.F2) (.int .i64 (B.hi 3 + B.hi 5))).alloc _⟩

theorem top_begin (w : World) (F : Nat → Prop) (X g k : Nat) (B : Br) (h : BrG w F X g B) (ho : B.ok) (hk : k < B.np) (hn : B.np < 1000) (hT : TR (B.hi 2) (B.hi 3) (B.hi 4) (B.hi 5)) (hF : ∀ n, F n → n < w.heap.size) (b1 b2 : Nat) : Calls Try.prog 47 #[.agg #[.pointer (some ⟨g, k * 89, none⟩), .int .i64 (B.hi 2), .int .i64 (B.hi 3), .int .i64 (B.hi 4), .int .i64 (B.hi 5), .func (.func 35) #[] #[.pointer (some ⟨b1, 0, none⟩), .pointer (some ⟨b2, 0, none⟩)]]] w fun e w' => e = .returned (.tuple #[]) ∧ BrG w' F X g (tbegin B k) ∧ Mut F w w' := by
  unfold tbegin
  by_cases h13 : B.gi k 13 = 0
  · rw [if_pos h13]
    cases h45 : B.gb k 45
    · rw [if_neg (by simp)]
      exact top_beginC w F X g k B h ho hk hn hT hF b1 b2 h13 h45
    · rw [if_pos rfl]
      exact top_beginB w F X g k B h ho hk hn hT hF b1 b2 h13 h45
  · rw [if_neg h13]
    exact top_beginA w F X g k B h ho hk hn hT hF b1 b2 (by simpa using h13)

set_option maxRecDepth 100000 in
set_option maxHeartbeats 1000000 in
theorem top_passA (w : World) (F : Nat → Prop) (X g k : Nat) (B : Br) (h : BrG w F X g B) (ho : B.ok) (hk : k < B.np) (hn : B.np < 1000) (hT : TR (B.hi 2) (B.hi 3) (B.hi 4) (B.hi 5)) (hF : ∀ n, F n → n < w.heap.size) (b1 b2 : Nat) (c1 : w.cell? ⟨b1, 0, none⟩ = some (.pointer (some ⟨X, 0, none⟩))) (c2 : w.cell? ⟨b2, 0, none⟩ = some (.int .i64 k)) (f1 : ¬ F b1) (f2 : ¬ F b2) (h48 : B.gb k 48 = true) : Calls Try.prog 44 #[.agg #[.pointer (some ⟨g, k * 89, none⟩), .int .i64 (B.hi 2), .int .i64 (B.hi 3), .int .i64 (B.hi 4), .int .i64 (B.hi 5), .func (.func 35) #[] #[.pointer (some ⟨b1, 0, none⟩), .pointer (some ⟨b2, 0, none⟩)]]] w fun e w' => e = .returned (.tuple #[]) ∧ BrG w' F X g (tpass B k) ∧ Mut F w w' := by
  obtain ⟨hX, hg, hne⟩ := h.lt
  unfold TR at hT
  have he : tpass0 B k = (((B.setp k 39 (.bool false)).setp k 41 (.bool false)).setp k 48 (.bool true)) := by
    unfold tpass0
    rw [show (B.gb k 48 || (B.gi k 87 == 4)) = true by rw [h48]; rfl]
  have p39 := (h.cellg (i := k * 89 + 39) (lt89 hk (by decide))).trans (ho.gb hk 39 rfl)
  have p41 := (h.cellg (i := k * 89 + 41) (lt89 hk (by decide))).trans (ho.gb hk 41 rfl)
  have p48 := (h.cellg (i := k * 89 + 48) (lt89 hk (by decide))).trans (ho.gb hk 48 rfl)
  have p87 := (h.cellg (i := k * 89 + 87) (lt89 hk (by decide))).trans (ho.gi hk 87 rfl)
  have hf := h.frozen
  rw [h48] at p48
  have H := Lib.hid h
  have HF := Lib.hid hF
  have HBc := Lib.hid (show BrG _ F X g (tpass0 B k) from by rw [he]; exact (((h.setp (k := k) (j := 39) hk (by decide) (.bool false)).setp (k := k) (j := 41) hk (by decide) (.bool false)).setp (k := k) (j := 48) hk (by decide) (.bool true)).alloc (.cells #[.pointer (some ⟨g, k * 89, none⟩), .int .i64 (B.hi 2), .int .i64 (B.hi 3), .int .i64 (B.hi 4), .int .i64 (B.hi 5), .func (.func 35) #[] #[.pointer (some ⟨b1, 0, none⟩), .pointer (some ⟨b2, 0, none⟩)]] 65))
  have hM := ((((Mut.refl F w).setCell (p := ⟨g, k * 89 + 39, none⟩) (.inl h.F2) (.bool false)).setCell (p := ⟨g, k * 89 + 41, none⟩) (.inl h.F2) (.bool false)).setCell (p := ⟨g, k * 89 + 48, none⟩) (.inl h.F2) (.bool true)).alloc (.cells #[.pointer (some ⟨g, k * 89, none⟩), .int .i64 (B.hi 2), .int .i64 (B.hi 3), .int .i64 (B.hi 4), .int .i64 (B.hi 5), .func (.func 35) #[] #[.pointer (some ⟨b1, 0, none⟩), .pointer (some ⟨b2, 0, none⟩)]] 65)
  have C1 := Lib.hid ((hM.cell (p := ⟨b1, 0, none⟩) (World.block_lt_of_cell? w _ c1) f1).trans c1)
  have C2 := Lib.hid ((hM.cell (p := ⟨b2, 0, none⟩) (World.block_lt_of_cell? w _ c2) f2).trans c2)
  have HM := Lib.hid hM
  have okc := tpass0_ok ho hk
  clear h hF hM c1 c2 he
  go_enter Try.func44, Try.ntmps44
  go_wp2_with fail
  refine (top_tell _ F X g k (tpass0 B k) HBc.out okc hn (by omega) b1 b2 C1.out C2.out f1 f2).mono ?_
  rintro e w2 ⟨rfl, hB2, hm2⟩
  have HR := Lib.hid (HM.out.trans hm2)
  have HB2 := Lib.hid (show BrG w2 F X g (tpass B k) from hB2)
  clear hB2 hm2
  go_wp2_with fail
  go_end0
  exact ⟨rfl, HB2.out, HR.out⟩

set_option maxRecDepth 100000 in
set_option maxHeartbeats 1000000 in
theorem top_passB (w : World) (F : Nat → Prop) (X g k : Nat) (B : Br) (h : BrG w F X g B) (ho : B.ok) (hk : k < B.np) (hn : B.np < 1000) (hT : TR (B.hi 2) (B.hi 3) (B.hi 4) (B.hi 5)) (hF : ∀ n, F n → n < w.heap.size) (b1 b2 : Nat) (c1 : w.cell? ⟨b1, 0, none⟩ = some (.pointer (some ⟨X, 0, none⟩))) (c2 : w.cell? ⟨b2, 0, none⟩ = some (.int .i64 k)) (f1 : ¬ F b1) (f2 : ¬ F b2) (h48 : B.gb k 48 = false) (h87 : B.gi k 87 = 4) : Calls Try.prog 44 #[.agg #[.pointer (some ⟨g, k * 89, none⟩), .int .i64 (B.hi 2), .int .i64 (B.hi 3), .int .i64 (B.hi 4), .int .i64 (B.hi 5), .func (.func 35) #[] #[.pointer (some ⟨b1, 0, none⟩), .pointer (some ⟨b2, 0, none⟩)]]] w fun e w' => e = .returned (.tuple #[]) ∧ BrG w' F X g (tpass B k) ∧ Mut F w w' := by
  obtain ⟨hX, hg, hne⟩ := h.lt
  unfold TR at hT
  have he : tpass0 B k = (((B.setp k 39 (.bool false)).setp k 41 (.bool false)).setp k 48 (.bool true)) := by
    unfold tpass0
    rw [show (B.gb k 48 || (B.gi k 87 == 4)) = true by rw [h48, h87]; rfl]
  have p39 := (h.cellg (i := k * 89 + 39) (lt89 hk (by decide))).trans (ho.gb hk 39 rfl)
  have p41 := (h.cellg (i := k * 89 + 41) (lt89 hk (by decide))).trans (ho.gb hk 41 rfl)
  have p48 := (h.cellg (i := k * 89 + 48) (lt89 hk (by decide))).trans (ho.gb hk 48 rfl)
  have p87 := (h.cellg (i := k * 89 + 87) (lt89 hk (by decide))).trans (ho.gi hk 87 rfl)
  have hf := h.frozen
  rw [h48] at p48
  rw [h87] at p87
  have H := Lib.hid h
  have HF := Lib.hid hF
  have HBc := Lib.hid (show BrG _ F X g (tpass0 B k) from by rw [he]; exact (((h.setp (k := k) (j := 39) hk (by decide) (.bool false)).setp (k := k) (j := 41) hk (by decide) (.bool false)).setp (k := k) (j := 48) hk (by decide) (.bool true)).alloc (.cells #[.pointer (some ⟨g, k * 89, none⟩), .int .i64 (B.hi 2), .int .i64 (B.hi 3), .int .i64 (B.hi 4), .int .i64 (B.hi 5), .func (.func 35) #[] #[.pointer (some ⟨b1, 0, none⟩), .pointer (some ⟨b2, 0, none⟩)]] 65))
  have hM := ((((Mut.refl F w).setCell (p := ⟨g, k * 89 + 39, none⟩) (.inl h.F2) (.bool false)).setCell (p := ⟨g, k * 89 + 41, none⟩) (.inl h.F2) (.bool false)).setCell (p := ⟨g, k * 89 + 48, none⟩) (.inl h.F2) (.bool true)).alloc (.cells #[.pointer (some ⟨g, k * 89, none⟩), .int .i64 (B.hi 2), .int .i64 (B.hi 3), .int .i64 (B.hi 4), .int .i64 (B.hi 5), .func (.func 35) #[] #[.pointer (some ⟨b1, 0, none⟩), .pointer (some ⟨b2, 0, none⟩)]] 65)
  have C1 := Lib.hid ((hM.cell (p := ⟨b1, 0, none⟩) (World.block_lt_of_cell? w _ c1) f1).trans c1)
  have C2 := Lib.hid ((hM.cell (p := ⟨b2, 0, none⟩) (World.block_lt_of_cell? w _ c2) f2).trans c2)
  have HM := Lib.hid hM
  have okc := tpass0_ok ho hk
  clear h hF hM c1 c2 he
  go_enter Try.func44, Try.ntmps44
  go_wp2_with fail
  refine (top_tell _ F X g k (tpass0 B k) HBc.out okc hn (by omega) b1 b2 C1.out C2.out f1 f2).mono ?_
  rintro e w2 ⟨rfl, hB2, hm2⟩
  have HR := Lib.hid (HM.out.trans hm2)
  have HB2 := Lib.hid (show BrG w2 F X g (tpass B k) from hB2)
  clear hB2 hm2
  go_wp2_with fail
  go_end0
  exact ⟨rfl, HB2.out, HR.out⟩

set_option maxRecDepth 100000 in
set_option maxHeartbeats 1000000 in
theorem top_passC (w : World) (F : Nat → Prop) (X g k : Nat) (B : Br) (h : BrG w F X g B) (ho : B.ok) (hk : k < B.np) (hn : B.np < 1000) (hT : TR (B.hi 2) (B.hi 3) (B.hi 4) (B.hi 5)) (hF : ∀ n, F n → n < w.heap.size) (b1 b2 : Nat) (c1 : w.cell? ⟨b1, 0, none⟩ = some (.pointer (some ⟨X, 0, none⟩))) (c2 : w.cell? ⟨b2, 0, none⟩ = some (.int .i64 k)) (f1 : ¬ F b1) (f2 : ¬ F b2) (h48 : B.gb k 48 = false) (h87 : (B.gi k 87 == 4) = false) : Calls Try.prog 44 #[.agg #[.pointer (some ⟨g, k * 89, none⟩), .int .i64 (B.hi 2), .int .i64 (B.hi 3), .int .i64 (B.hi 4), .int .i64 (B.hi 5), .func (.func 35) #[] #[.pointer (some ⟨b1, 0, none⟩), .pointer (some ⟨b2, 0, none⟩)]]] w fun e w' => e = .returned (.tuple #[]) ∧ BrG w' F X g (tpass B k) ∧ Mut F w w' := by
  obtain ⟨hX, hg, hne⟩ := h.lt
  unfold TR at hT
  have he : tpass0 B k = (((B.setp k 39 (.bool false)).setp k 41 (.bool false)).setp k 48 (.bool false)) := by
    unfold tpass0
    rw [show (B.gb k 48 || (B.gi k 87 == 4)) = false by rw [h48, h87]; rfl]
  have p39 := (h.cellg (i := k * 89 + 39) (lt89 hk (by decide))).trans (ho.gb hk 39 rfl)
  have p41 := (h.cellg (i := k * 89 + 41) (lt89 hk (by decide))).trans (ho.gb hk 41 rfl)
  have p48 := (h.cellg (i := k * 89 + 48) (lt89 hk (by decide))).trans (ho.gb hk 48 rfl)
  have p87 := (h.cellg (i := k * 89 + 87) (lt89 hk (by decide))).trans (ho.gi hk 87 rfl)
  have hf := h.frozen
  rw [h48] at p48
  have H := Lib.hid h
  have HF := Lib.hid hF
  have HBc := Lib.hid (show BrG _ F X g (tpass0 B k) from by rw [he]; exact (((h.setp (k := k) (j := 39) hk (by decide) (.bool false)).setp (k := k) (j := 41) hk (by decide) (.bool false)).setp (k := k) (j := 48) hk (by decide) (.bool false)).alloc (.cells #[.pointer (some ⟨g, k * 89, none⟩), .int .i64 (B.hi 2), .int .i64 (B.hi 3), .int .i64 (B.hi 4), .int .i64 (B.hi 5), .func (.func 35) #[] #[.pointer (some ⟨b1, 0, none⟩), .pointer (some ⟨b2, 0, none⟩)]] 65))
  have hM := ((((Mut.refl F w).setCell (p := ⟨g, k * 89 + 39, none⟩) (.inl h.F2) (.bool false)).setCell (p := ⟨g, k * 89 + 41, none⟩) (.inl h.F2) (.bool false)).setCell (p := ⟨g, k * 89 + 48, none⟩) (.inl h.F2) (.bool false)).alloc (.cells #[.pointer (some ⟨g, k * 89, none⟩), .int .i64 (B.hi 2), .int .i64 (B.hi 3), .int .i64 (B.hi 4), .int .i64 (B.hi 5), .func (.func 35) #[] #[.pointer (some ⟨b1, 0, none⟩), .pointer (some ⟨b2, 0, none⟩)]] 65)
  have C1 := Lib.hid ((hM.cell (p := ⟨b1, 0, none⟩) (World.block_lt_of_cell? w _ c1) f1).trans c1)
  have C2 := Lib.hid ((hM.cell (p := ⟨b2, 0, none⟩) (World.block_lt_of_cell? w _ c2) f2).trans c2)
  have HM := Lib.hid hM
  have okc := tpass0_ok ho hk
  clear h hF hM c1 c2 he
  go_enter Try.func44, Try.ntmps44
  go_wp2_with fail
  refine (top_tell _ F X g k (tpass0 B k) HBc.out okc hn (by omega) b1 b2 C1.out C2.out f1 f2).mono ?_
  rintro e w2 ⟨rfl, hB2, hm2⟩
  have HR := Lib.hid (HM.out.trans hm2)
  have HB2 := Lib.hid (show BrG w2 F X g (tpass B k) from hB2)
  clear hB2 hm2
  go_wp2_with fail
  go_end0
  exact ⟨rfl, HB2.out, HR.out⟩

theorem top_pass (w : World) (F : Nat → Prop) (X g k : Nat) (B : Br) (h : BrG w F X g B) (ho : B.ok) (hk : k < B.np) (hn : B.np < 1000) (hT : TR (B.hi 2) (B.hi 3) (B.hi 4) (B.hi 5)) (hF : ∀ n, F n → n < w.heap.size) (b1 b2 : Nat) (c1 : w.cell? ⟨b1, 0, none⟩ = some (.pointer (some ⟨X, 0, none⟩))) (c2 : w.cell? ⟨b2, 0, none⟩ = some (.int .i64 k)) (f1 : ¬ F b1) (f2 : ¬ F b2) : Calls Try.prog 44 #[.agg #[.pointer (some ⟨g, k * 89, none⟩), .int .i64 (B.hi 2), .int .i64 (B.hi 3), .int .i64 (B.hi 4), .int .i64 (B.hi 5), .func (.func 35) #[] #[.pointer (some ⟨b1, 0, none⟩), .pointer (some ⟨b2, 0, none⟩)]]] w fun e w' => e = .returned (.tuple #[]) ∧ BrG w' F X g (tpass B k) ∧ Mut F w w' := by
  cases h48 : B.gb k 48
  · cases h87 : (B.gi k 87 == 4)
    · exact top_passC w F X g k B h ho hk hn hT hF b1 b2 c1 c2 f1 f2 h48 h87
    · exact top_passB w F X g k B h ho hk hn hT hF b1 b2 c1 c2 f1 f2 h48 (by simpa using h87)
  · exact top_passA w F X g k B h ho hk hn hT hF b1 b2 c1 c2 f1 f2 h48

theorem tbegin_hi (B : Br) (k j : Nat) : (tbegin B k).hi j = B.hi j := by unfold Br.hi; rw [tbegin_hd]
set_option maxRecDepth 100000 in
set_option maxHeartbeats 1000000 in
theorem top_notice (w : World) (F : Nat → Prop) (X g k : Nat) (B : Br) (h : BrG w F X g B) (ho : B.ok) (hk : k < B.np) (hn : B.np < 1000) (hT : TR (B.hi 2) (B.hi 3) (B.hi 4) (B.hi 5)) (hF : ∀ n, F n → n < w.heap.size) (b1 b2 : Nat) (c1 : w.cell? ⟨b1, 0, none⟩ = some (.pointer (some ⟨X, 0, none⟩))) (c2 : w.cell? ⟨b2, 0, none⟩ = some (.int .i64 k)) (f1 : ¬ F b1) (f2 : ¬ F b2) : Calls Try.prog 43 #[.agg #[.pointer (some ⟨g, k * 89, none⟩), .int .i64 (B.hi 2), .int .i64 (B.hi 3), .int .i64 (B.hi 4), .int .i64 (B.hi 5), .func (.func 35) #[] #[.pointer (some ⟨b1, 0, none⟩), .pointer (some ⟨b2, 0, none⟩)]]] w fun e w' => e = .returned (.tuple #[]) ∧ BrG w' F X g (tpass (tbegin B k) k) ∧ Mut F w w' := by
  have H := Lib.hid h
  have HF := Lib.hid hF
  have HT := Lib.hid hT
  have hx0 := (Ext.refl w).alloc (.cells #[.pointer (some ⟨g, k * 89, none⟩), .int .i64 (B.hi 2), .int .i64 (B.hi 3), .int .i64 (B.hi 4), .int .i64 (B.hi 5), .func (.func 35) #[] #[.pointer (some ⟨b1, 0, none⟩), .pointer (some ⟨b2, 0, none⟩)]] 65)
  have hm0 : ∀ j, (w.alloc (.cells #[.pointer (some ⟨g, k * 89, none⟩), .int .i64 (B.hi 2), .int .i64 (B.hi 3), .int .i64 (B.hi 4), .int .i64 (B.hi 5), .func (.func 35) #[] #[.pointer (some ⟨b1, 0, none⟩), .pointer (some ⟨b2, 0, none⟩)]] 65)).cell? ⟨w.heap.size, j, none⟩ = (#[.pointer (some ⟨g, k * 89, none⟩), .int .i64 (B.hi 2), .int .i64 (B.hi 3), .int .i64 (B.hi 4), .int .i64 (B.hi 5), .func (.func 35) #[] #[.pointer (some ⟨b1, 0, none⟩), .pointer (some ⟨b2, 0, none⟩)]] : Array Value)[j]? := fun j => World.cell?_alloc_at _ _ _ _ rfl
  have hs0 : w.heap.size < (w.alloc (.cells #[.pointer (some ⟨g, k * 89, none⟩), .int .i64 (B.hi 2), .int .i64 (B.hi 3), .int .i64 (B.hi 4), .int .i64 (B.hi 5), .func (.func 35) #[] #[.pointer (some ⟨b1, 0, none⟩), .pointer (some ⟨b2, 0, none⟩)]] 65)).heap.size := by simp
  have hBx := h.alloc (.cells #[.pointer (some ⟨g, k * 89, none⟩), .int .i64 (B.hi 2), .int .i64 (B.hi 3), .int .i64 (B.hi 4), .int .i64 (B.hi 5), .func (.func 35) #[] #[.pointer (some ⟨b1, 0, none⟩), .pointer (some ⟨b2, 0, none⟩)]] 65)
  have HX0 := Lib.hid hx0
  have HM0 := Lib.hid hm0
  have HS0 := Lib.hid hs0
  have HBX := Lib.hid hBx
  have C1 := Lib.hid c1
  have C2 := Lib.hid c2
  clear h hF hT hx0 hm0 hs0 hBx c1 c2
  go_enter Try.func43, Try.ntmps43
  go_wp2_with fail
  refine (top_begin _ F X g k B HBX.out ho hk hn HT.out (fun n hn' => Nat.lt_of_lt_of_le (HF.out n hn') HX0.out.size) b1 b2).mono ?_
  rintro e w1 ⟨rfl, hB1, hm1⟩
  have HB1 := Lib.hid hB1
  have HM1 := Lib.hid hm1
  have HMW := Lib.hid ((HX0.out.mut F).trans hm1)
  have hnf : ¬ F w.heap.size := fun hh => by have := HF.out _ hh; omega
  have key := fun j => (hm1.cell (p := ⟨w.heap.size, j, none⟩) HS0.out hnf).trans (HM0.out j)
  have m0_ := (key 0).trans (show (#[.pointer (some ⟨g, k * 89, none⟩), .int .i64 (B.hi 2), .int .i64 (B.hi 3), .int .i64 (B.hi 4), .int .i64 (B.hi 5), .func (.func 35) #[] #[.pointer (some ⟨b1, 0, none⟩), .pointer (some ⟨b2, 0, none⟩)]] : Array Value)[0]? = some _ from rfl)
  have m1_ := (key 1).trans (show (#[.pointer (some ⟨g, k * 89, none⟩), .int .i64 (B.hi 2), .int .i64 (B.hi 3), .int .i64 (B.hi 4), .int .i64 (B.hi 5), .func (.func 35) #[] #[.pointer (some ⟨b1, 0, none⟩), .pointer (some ⟨b2, 0, none⟩)]] : Array Value)[1]? = some _ from rfl)
  have m2_ := (key 2).trans (show (#[.pointer (some ⟨g, k * 89, none⟩), .int .i64 (B.hi 2), .int .i64 (B.hi 3), .int .i64 (B.hi 4), .int .i64 (B.hi 5), .func (.func 35) #[] #[.pointer (some ⟨b1, 0, none⟩), .pointer (some ⟨b2, 0, none⟩)]] : Array Value)[2]? = some _ from rfl)
  have m3_ := (key 3).trans (show (#[.pointer (some ⟨g, k * 89, none⟩), .int .i64 (B.hi 2), .int .i64 (B.hi 3), .int .i64 (B.hi 4), .int .i64 (B.hi 5), .func (.func 35) #[] #[.pointer (some ⟨b1, 0, none⟩), .pointer (some ⟨b2, 0, none⟩)]] : Array Value)[3]? = some _ from rfl)
  have m4_ := (key 4).trans (show (#[.pointer (some ⟨g, k * 89, none⟩), .int .i64 (B.hi 2), .int .i64 (B.hi 3), .int .i64 (B.hi 4), .int .i64 (B.hi 5), .func (.func 35) #[] #[.pointer (some ⟨b1, 0, none⟩), .pointer (some ⟨b2, 0, none⟩)]] : Array Value)[4]? = some _ from rfl)
  have m5_ := (key 5).trans (show (#[.pointer (some ⟨g, k * 89, none⟩), .int .i64 (B.hi 2), .int .i64 (B.hi 3), .int .i64 (B.hi 4), .int .i64 (B.hi 5), .func (.func 35) #[] #[.pointer (some ⟨b1, 0, none⟩), .pointer (some ⟨b2, 0, none⟩)]] : Array Value)[5]? = some _ from rfl)
  have d1 := Lib.hid ((HMW.out.cell (p := ⟨b1, 0, none⟩) (World.block_lt_of_cell? w _ C1.out) f1).trans C1.out)
  have d2 := Lib.hid ((HMW.out.cell (p := ⟨b2, 0, none⟩) (World.block_lt_of_cell? w _ C2.out) f2).trans C2.out)
  clear hB1 hm1 key hnf
  go_wp2_with fail
  have okb := tbegin_ok ho hk HT.out
  have hp := top_pass w1 F X g k (tbegin B k) HB1.out okb (by rw [tbegin_np]; exact hk) (by rw [tbegin_np]; exact hn) (by simp only [tbegin_hi]; exact HT.out) (fun n hn' => Nat.lt_of_lt_of_le (HF.out n hn') HMW.out.size) b1 b2 d1.out d2.out f1 f2
  simp only [tbegin_hi] at hp
  refine hp.mono ?_
  rintro e w2 ⟨rfl, hB2, hm2⟩
  have HR := Lib.hid (HMW.out.trans hm2)
  have HB2 := Lib.hid hB2
  clear hB2 hm2 hp
  go_wp2_with fail
  go_end0
  exact ⟨rfl, HB2.out, HR.out⟩

end Go.Proofs.Ytpieamfpgfabgaa
