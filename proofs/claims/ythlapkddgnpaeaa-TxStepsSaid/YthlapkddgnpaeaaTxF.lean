/- The machine that sends: its step, whatever blocks its bridge lies in. No statement is proved here. -/
import Derived.Test.YthlapkddgnpaeaaTxM
namespace Go.Proofs.Ythlapkddgnpaeaa
open Go.RowKit Go.BigFrame Go.WideShapes Go.ChangeShapes Go.Deep
set_option linter.unusedVariables false
set_option linter.unusedSimpArgs false

set_option maxRecDepth 100000 in
set_option maxHeartbeats 2000000 in
theorem txg_s0 (w : World) (F : Nat → Prop) (X g k : Nat) (B : Br) (h : BrG w F X g B) (ho : B.ok) (hk : k < B.np) (hn : B.np < 1000) (h44 : B.gb k 44 = false) :
    Calls Try.prog 18 #[.pointer (some ⟨X, 0, none⟩), .int .i64 k] w (fun e w' => e = .returned (.bool false) ∧ BrG w' (fun n => F n ∨ (w.heap.size ≤ n ∧ n < w'.heap.size)) X g (B) ∧ Mut F w w') := by
  obtain ⟨hX, hg, hne⟩ := h.lt
  obtain ⟨cap, c17, hc1, hc2⟩ := h.cell17 ho
  have p44 := (h.cellg (i := k * 89 + 44) (lt89 hk (by decide))).trans (ho.gb hk 44 rfl)
  have p50 := (h.cellg (i := k * 89 + 50) (lt89 hk (by decide))).trans (ho.gb hk 50 rfl)
  have p45 := (h.cellg (i := k * 89 + 45) (lt89 hk (by decide))).trans (ho.gb hk 45 rfl)
  have p87 := (h.cellg (i := k * 89 + 87) (lt89 hk (by decide))).trans (ho.gi hk 87 rfl)
  have p8 := (h.cellg (i := k * 89 + 8) (lt89 hk (by decide))).trans (ho.gi hk 8 rfl)
  have p31 := (h.cellg (i := k * 89 + 31) (lt89 hk (by decide))).trans (ho.gb hk 31 rfl)
  have p14 := (h.cellg (i := k * 89 + 14) (lt89 hk (by decide))).trans (ho.gi hk 14 rfl)
  have p13 := (h.cellg (i := k * 89 + 13) (lt89 hk (by decide))).trans (ho.gi hk 13 rfl)
  have q4 := (h.cellX ho (i := 4) (by omega)).trans (ho.hi 4 rfl)
  have q6 := (h.cellX ho (i := 6) (by omega)).trans (ho.hi 6 rfl)
  rw [h44] at p44
  have hF1 := h.F1
  have hF2 := h.F2
  have hfr := h.frozen
  have H := Lib.hid h
  clear h
  have HK := Lib.hid (tx_kind g (k * 89) _ _ w p45 p87)
  go_enter Try.func18, Try.ntmps18
  go_wp2_with fail
  refine scope_hid 3 (fun J0 hJ0 => ?_)
  go_wp2_with fail
  refine HK.out.mono ?_
  rintro e w1 ⟨rfl, hx1⟩
  have HX1 := Lib.hid hx1
  clear HK
  have r44 := (hx1.cell (p := ⟨g, k * 89 + 44, none⟩) hg).trans p44
  have r50 := (hx1.cell (p := ⟨g, k * 89 + 50, none⟩) hg).trans p50
  have r45 := (hx1.cell (p := ⟨g, k * 89 + 45, none⟩) hg).trans p45
  have r87 := (hx1.cell (p := ⟨g, k * 89 + 87, none⟩) hg).trans p87
  have r8 := (hx1.cell (p := ⟨g, k * 89 + 8, none⟩) hg).trans p8
  have r31 := (hx1.cell (p := ⟨g, k * 89 + 31, none⟩) hg).trans p31
  have r14 := (hx1.cell (p := ⟨g, k * 89 + 14, none⟩) hg).trans p14
  have r13 := (hx1.cell (p := ⟨g, k * 89 + 13, none⟩) hg).trans p13
  have s4 := (hx1.cell (p := ⟨X, 4, none⟩) hX).trans q4
  have s6 := (hx1.cell (p := ⟨X, 6, none⟩) hX).trans q6
  have d17 := (hx1.cell (p := ⟨X, 17, none⟩) hX).trans c17
  have hgr : ∀ j, w1.frozen? ⟨g, j, none⟩ = false := fun j => (H.out.ext hx1).frozen j
  clear hx1 c17 hfr q4 q6 p44 p50 p45 p87 p8 p31 p14 p13
  go_wp2_with fail
  refine jump_ret hJ0 ?_
  go_ret
  exact ⟨rfl, (H.out.ext HX1.out).mono (fun n hn => .inl hn), (Ext.mut HX1.out F)⟩
set_option maxRecDepth 100000 in
set_option maxHeartbeats 2000000 in
theorem txg_s0b (w : World) (F : Nat → Prop) (X g k : Nat) (B : Br) (h : BrG w F X g B) (ho : B.ok) (hk : k < B.np) (hn : B.np < 1000) (h44 : B.gb k 44 = true) (h50 : B.gb k 50 = true) :
    Calls Try.prog 18 #[.pointer (some ⟨X, 0, none⟩), .int .i64 k] w (fun e w' => e = .returned (.bool false) ∧ BrG w' (fun n => F n ∨ (w.heap.size ≤ n ∧ n < w'.heap.size)) X g (B) ∧ Mut F w w') := by
  obtain ⟨hX, hg, hne⟩ := h.lt
  obtain ⟨cap, c17, hc1, hc2⟩ := h.cell17 ho
  have p44 := (h.cellg (i := k * 89 + 44) (lt89 hk (by decide))).trans (ho.gb hk 44 rfl)
  have p50 := (h.cellg (i := k * 89 + 50) (lt89 hk (by decide))).trans (ho.gb hk 50 rfl)
  have p45 := (h.cellg (i := k * 89 + 45) (lt89 hk (by decide))).trans (ho.gb hk 45 rfl)
  have p87 := (h.cellg (i := k * 89 + 87) (lt89 hk (by decide))).trans (ho.gi hk 87 rfl)
  have p8 := (h.cellg (i := k * 89 + 8) (lt89 hk (by decide))).trans (ho.gi hk 8 rfl)
  have p31 := (h.cellg (i := k * 89 + 31) (lt89 hk (by decide))).trans (ho.gb hk 31 rfl)
  have p14 := (h.cellg (i := k * 89 + 14) (lt89 hk (by decide))).trans (ho.gi hk 14 rfl)
  have p13 := (h.cellg (i := k * 89 + 13) (lt89 hk (by decide))).trans (ho.gi hk 13 rfl)
  have q4 := (h.cellX ho (i := 4) (by omega)).trans (ho.hi 4 rfl)
  have q6 := (h.cellX ho (i := 6) (by omega)).trans (ho.hi 6 rfl)
  rw [h44] at p44
  rw [h50] at p50
  have hF1 := h.F1
  have hF2 := h.F2
  have hfr := h.frozen
  have H := Lib.hid h
  clear h
  have HK := Lib.hid (tx_kind g (k * 89) _ _ w p45 p87)
  go_enter Try.func18, Try.ntmps18
  go_wp2_with fail
  refine scope_hid 3 (fun J0 hJ0 => ?_)
  go_wp2_with fail
  refine HK.out.mono ?_
  rintro e w1 ⟨rfl, hx1⟩
  have HX1 := Lib.hid hx1
  clear HK
  have r44 := (hx1.cell (p := ⟨g, k * 89 + 44, none⟩) hg).trans p44
  have r50 := (hx1.cell (p := ⟨g, k * 89 + 50, none⟩) hg).trans p50
  have r45 := (hx1.cell (p := ⟨g, k * 89 + 45, none⟩) hg).trans p45
  have r87 := (hx1.cell (p := ⟨g, k * 89 + 87, none⟩) hg).trans p87
  have r8 := (hx1.cell (p := ⟨g, k * 89 + 8, none⟩) hg).trans p8
  have r31 := (hx1.cell (p := ⟨g, k * 89 + 31, none⟩) hg).trans p31
  have r14 := (hx1.cell (p := ⟨g, k * 89 + 14, none⟩) hg).trans p14
  have r13 := (hx1.cell (p := ⟨g, k * 89 + 13, none⟩) hg).trans p13
  have s4 := (hx1.cell (p := ⟨X, 4, none⟩) hX).trans q4
  have s6 := (hx1.cell (p := ⟨X, 6, none⟩) hX).trans q6
  have d17 := (hx1.cell (p := ⟨X, 17, none⟩) hX).trans c17
  have hgr : ∀ j, w1.frozen? ⟨g, j, none⟩ = false := fun j => (H.out.ext hx1).frozen j
  clear hx1 c17 hfr q4 q6 p44 p50 p45 p87 p8 p31 p14 p13
  go_wp2_with fail
  refine jump_ret hJ0 ?_
  go_ret
  exact ⟨rfl, (H.out.ext HX1.out).mono (fun n hn => .inl hn), (Ext.mut HX1.out F)⟩
set_option maxRecDepth 100000 in
set_option maxHeartbeats 2000000 in
theorem txg_c4 (w : World) (F : Nat → Prop) (X g k : Nat) (B : Br) (h : BrG w F X g B) (ho : B.ok) (hk : k < B.np) (hn : B.np < 1000) (h44 : B.gb k 44 = true) (h50 : B.gb k 50 = false) (h8 : B.gi k 8 = 0) (h87 : B.gi k 87 = 4) :
    Calls Try.prog 18 #[.pointer (some ⟨X, 0, none⟩), .int .i64 k] w (fun e w' => e = .returned (.bool true) ∧ BrG w' (fun n => F n ∨ (w.heap.size ≤ n ∧ n < w'.heap.size)) X g (((B.setp k 31 (.bool true)).setp k 8 (.int .i64 (B.hi 4)))) ∧ Mut F w w') := by
  obtain ⟨hX, hg, hne⟩ := h.lt
  obtain ⟨cap, c17, hc1, hc2⟩ := h.cell17 ho
  have p44 := (h.cellg (i := k * 89 + 44) (lt89 hk (by decide))).trans (ho.gb hk 44 rfl)
  have p50 := (h.cellg (i := k * 89 + 50) (lt89 hk (by decide))).trans (ho.gb hk 50 rfl)
  have p45 := (h.cellg (i := k * 89 + 45) (lt89 hk (by decide))).trans (ho.gb hk 45 rfl)
  have p87 := (h.cellg (i := k * 89 + 87) (lt89 hk (by decide))).trans (ho.gi hk 87 rfl)
  have p8 := (h.cellg (i := k * 89 + 8) (lt89 hk (by decide))).trans (ho.gi hk 8 rfl)
  have p31 := (h.cellg (i := k * 89 + 31) (lt89 hk (by decide))).trans (ho.gb hk 31 rfl)
  have p14 := (h.cellg (i := k * 89 + 14) (lt89 hk (by decide))).trans (ho.gi hk 14 rfl)
  have p13 := (h.cellg (i := k * 89 + 13) (lt89 hk (by decide))).trans (ho.gi hk 13 rfl)
  have q4 := (h.cellX ho (i := 4) (by omega)).trans (ho.hi 4 rfl)
  have q6 := (h.cellX ho (i := 6) (by omega)).trans (ho.hi 6 rfl)
  rw [h44] at p44
  rw [h50] at p50
  rw [h8] at p8
  rw [h87] at p87
  have hF1 := h.F1
  have hF2 := h.F2
  have hfr := h.frozen
  have H := Lib.hid h
  clear h
  have HK := Lib.hid (tx_kind g (k * 89) _ _ w p45 p87)
  go_enter Try.func18, Try.ntmps18
  go_wp2_with fail
  refine scope_hid 3 (fun J0 hJ0 => ?_)
  go_wp2_with fail
  refine HK.out.mono ?_
  rintro e w1 ⟨rfl, hx1⟩
  have HX1 := Lib.hid hx1
  clear HK
  have r44 := (hx1.cell (p := ⟨g, k * 89 + 44, none⟩) hg).trans p44
  have r50 := (hx1.cell (p := ⟨g, k * 89 + 50, none⟩) hg).trans p50
  have r45 := (hx1.cell (p := ⟨g, k * 89 + 45, none⟩) hg).trans p45
  have r87 := (hx1.cell (p := ⟨g, k * 89 + 87, none⟩) hg).trans p87
  have r8 := (hx1.cell (p := ⟨g, k * 89 + 8, none⟩) hg).trans p8
  have r31 := (hx1.cell (p := ⟨g, k * 89 + 31, none⟩) hg).trans p31
  have r14 := (hx1.cell (p := ⟨g, k * 89 + 14, none⟩) hg).trans p14
  have r13 := (hx1.cell (p := ⟨g, k * 89 + 13, none⟩) hg).trans p13
  have s4 := (hx1.cell (p := ⟨X, 4, none⟩) hX).trans q4
  have s6 := (hx1.cell (p := ⟨X, 6, none⟩) hX).trans q6
  have d17 := (hx1.cell (p := ⟨X, 17, none⟩) hX).trans c17
  have hgr : ∀ j, w1.frozen? ⟨g, j, none⟩ = false := fun j => (H.out.ext hx1).frozen j
  clear hx1 c17 hfr q4 q6 p44 p50 p45 p87 p8 p31 p14 p13
  go_wp2_with fail
  try go_step3
  show J0 (Exit.goto 0) _ _
  refine jump_hid hJ0 rfl (fun J1 hJ1 => ?_)
  clear hJ0
  go_wp2_with fail
  try go_step3
  show J1 (Exit.goto 2) _ _
  refine jump_hid hJ1 rfl (fun J2 hJ2 => ?_)
  clear hJ1
  go_wp2_with fail
  have hfin := (((H.out.ext HX1.out).setp (k := k) (j := 31) hk (by decide) (.bool true)).setp (k := k) (j := 8) hk (by decide) (.int .i64 (B.hi 4)))
  have hmut := ((((Ext.mut HX1.out F)).setCell (p := ⟨g, k * 89 + 31, none⟩) (.inl hF2) (.bool true)).setCell (p := ⟨g, k * 89 + 8, none⟩) (.inl hF2) (.int .i64 (B.hi 4)))
  refine jump_ret hJ2 ?_
  go_ret
  exact ⟨rfl, hfin.mono (fun n hn => .inl hn), hmut⟩
set_option maxRecDepth 100000 in
set_option maxHeartbeats 2000000 in
theorem txg_c3t (w : World) (F : Nat → Prop) (X g k : Nat) (B : Br) (h : BrG w F X g B) (ho : B.ok) (hk : k < B.np) (hn : B.np < 1000) (h44 : B.gb k 44 = true) (h50 : B.gb k 50 = false) (h8 : B.gi k 8 = 0) (h87 : B.gi k 87 = 3) (h13 : (B.gi k 13 != 0) = true) :
    Calls Try.prog 18 #[.pointer (some ⟨X, 0, none⟩), .int .i64 k] w (fun e w' => e = .returned (.bool true) ∧ BrG w' (fun n => F n ∨ (w.heap.size ≤ n ∧ n < w'.heap.size)) X g (((B.setp k 31 (.bool true)).setp k 8 (.int .i64 (B.hi 4)))) ∧ Mut F w w') := by
  obtain ⟨hX, hg, hne⟩ := h.lt
  obtain ⟨cap, c17, hc1, hc2⟩ := h.cell17 ho
  have p44 := (h.cellg (i := k * 89 + 44) (lt89 hk (by decide))).trans (ho.gb hk 44 rfl)
  have p50 := (h.cellg (i := k * 89 + 50) (lt89 hk (by decide))).trans (ho.gb hk 50 rfl)
  have p45 := (h.cellg (i := k * 89 + 45) (lt89 hk (by decide))).trans (ho.gb hk 45 rfl)
  have p87 := (h.cellg (i := k * 89 + 87) (lt89 hk (by decide))).trans (ho.gi hk 87 rfl)
  have p8 := (h.cellg (i := k * 89 + 8) (lt89 hk (by decide))).trans (ho.gi hk 8 rfl)
  have p31 := (h.cellg (i := k * 89 + 31) (lt89 hk (by decide))).trans (ho.gb hk 31 rfl)
  have p14 := (h.cellg (i := k * 89 + 14) (lt89 hk (by decide))).trans (ho.gi hk 14 rfl)
  have p13 := (h.cellg (i := k * 89 + 13) (lt89 hk (by decide))).trans (ho.gi hk 13 rfl)
  have q4 := (h.cellX ho (i := 4) (by omega)).trans (ho.hi 4 rfl)
  have q6 := (h.cellX ho (i := 6) (by omega)).trans (ho.hi 6 rfl)
  rw [h44] at p44
  rw [h50] at p50
  rw [h8] at p8
  rw [h87] at p87
  have hF1 := h.F1
  have hF2 := h.F2
  have hfr := h.frozen
  have H := Lib.hid h
  clear h
  have HK := Lib.hid (tx_kind g (k * 89) _ _ w p45 p87)
  go_enter Try.func18, Try.ntmps18
  go_wp2_with fail
  refine scope_hid 3 (fun J0 hJ0 => ?_)
  go_wp2_with fail
  refine HK.out.mono ?_
  rintro e w1 ⟨rfl, hx1⟩
  have HX1 := Lib.hid hx1
  clear HK
  have r44 := (hx1.cell (p := ⟨g, k * 89 + 44, none⟩) hg).trans p44
  have r50 := (hx1.cell (p := ⟨g, k * 89 + 50, none⟩) hg).trans p50
  have r45 := (hx1.cell (p := ⟨g, k * 89 + 45, none⟩) hg).trans p45
  have r87 := (hx1.cell (p := ⟨g, k * 89 + 87, none⟩) hg).trans p87
  have r8 := (hx1.cell (p := ⟨g, k * 89 + 8, none⟩) hg).trans p8
  have r31 := (hx1.cell (p := ⟨g, k * 89 + 31, none⟩) hg).trans p31
  have r14 := (hx1.cell (p := ⟨g, k * 89 + 14, none⟩) hg).trans p14
  have r13 := (hx1.cell (p := ⟨g, k * 89 + 13, none⟩) hg).trans p13
  have s4 := (hx1.cell (p := ⟨X, 4, none⟩) hX).trans q4
  have s6 := (hx1.cell (p := ⟨X, 6, none⟩) hX).trans q6
  have d17 := (hx1.cell (p := ⟨X, 17, none⟩) hX).trans c17
  have hgr : ∀ j, w1.frozen? ⟨g, j, none⟩ = false := fun j => (H.out.ext hx1).frozen j
  clear hx1 c17 hfr q4 q6 p44 p50 p45 p87 p8 p31 p14 p13
  go_wp2_with fail
  try go_step3
  show J0 (Exit.goto 0) _ _
  refine jump_hid hJ0 rfl (fun J1 hJ1 => ?_)
  clear hJ0
  go_wp2_with fail
  try go_step3
  show J1 (Exit.goto 2) _ _
  refine jump_hid hJ1 rfl (fun J2 hJ2 => ?_)
  clear hJ1
  go_wp2_with fail
  have hfin := (((H.out.ext HX1.out).setp (k := k) (j := 31) hk (by decide) (.bool true)).setp (k := k) (j := 8) hk (by decide) (.int .i64 (B.hi 4)))
  have hmut := ((((Ext.mut HX1.out F)).setCell (p := ⟨g, k * 89 + 31, none⟩) (.inl hF2) (.bool true)).setCell (p := ⟨g, k * 89 + 8, none⟩) (.inl hF2) (.int .i64 (B.hi 4)))
  refine jump_ret hJ2 ?_
  go_ret
  exact ⟨rfl, hfin.mono (fun n hn => .inl hn), hmut⟩
set_option maxRecDepth 100000 in
set_option maxHeartbeats 2000000 in
theorem txg_c3f (w : World) (F : Nat → Prop) (X g k : Nat) (B : Br) (h : BrG w F X g B) (ho : B.ok) (hk : k < B.np) (hn : B.np < 1000) (h44 : B.gb k 44 = true) (h50 : B.gb k 50 = false) (h8 : B.gi k 8 = 0) (h87 : B.gi k 87 = 3) (h13 : B.gi k 13 = 0) :
    Calls Try.prog 18 #[.pointer (some ⟨X, 0, none⟩), .int .i64 k] w (fun e w' => e = .returned (.bool true) ∧ BrG w' (fun n => F n ∨ (w.heap.size ≤ n ∧ n < w'.heap.size)) X g ((B.setp k 8 (.int .i64 (B.hi 4)))) ∧ Mut F w w') := by
  obtain ⟨hX, hg, hne⟩ := h.lt
  obtain ⟨cap, c17, hc1, hc2⟩ := h.cell17 ho
  have p44 := (h.cellg (i := k * 89 + 44) (lt89 hk (by decide))).trans (ho.gb hk 44 rfl)
  have p50 := (h.cellg (i := k * 89 + 50) (lt89 hk (by decide))).trans (ho.gb hk 50 rfl)
  have p45 := (h.cellg (i := k * 89 + 45) (lt89 hk (by decide))).trans (ho.gb hk 45 rfl)
  have p87 := (h.cellg (i := k * 89 + 87) (lt89 hk (by decide))).trans (ho.gi hk 87 rfl)
  have p8 := (h.cellg (i := k * 89 + 8) (lt89 hk (by decide))).trans (ho.gi hk 8 rfl)
  have p31 := (h.cellg (i := k * 89 + 31) (lt89 hk (by decide))).trans (ho.gb hk 31 rfl)
  have p14 := (h.cellg (i := k * 89 + 14) (lt89 hk (by decide))).trans (ho.gi hk 14 rfl)
  have p13 := (h.cellg (i := k * 89 + 13) (lt89 hk (by decide))).trans (ho.gi hk 13 rfl)
  have q4 := (h.cellX ho (i := 4) (by omega)).trans (ho.hi 4 rfl)
  have q6 := (h.cellX ho (i := 6) (by omega)).trans (ho.hi 6 rfl)
  rw [h44] at p44
  rw [h50] at p50
  rw [h8] at p8
  rw [h87] at p87
  rw [h13] at p13
  have hF1 := h.F1
  have hF2 := h.F2
  have hfr := h.frozen
  have H := Lib.hid h
  clear h
  have HK := Lib.hid (tx_kind g (k * 89) _ _ w p45 p87)
  go_enter Try.func18, Try.ntmps18
  go_wp2_with fail
  refine scope_hid 3 (fun J0 hJ0 => ?_)
  go_wp2_with fail
  refine HK.out.mono ?_
  rintro e w1 ⟨rfl, hx1⟩
  have HX1 := Lib.hid hx1
  clear HK
  have r44 := (hx1.cell (p := ⟨g, k * 89 + 44, none⟩) hg).trans p44
  have r50 := (hx1.cell (p := ⟨g, k * 89 + 50, none⟩) hg).trans p50
  have r45 := (hx1.cell (p := ⟨g, k * 89 + 45, none⟩) hg).trans p45
  have r87 := (hx1.cell (p := ⟨g, k * 89 + 87, none⟩) hg).trans p87
  have r8 := (hx1.cell (p := ⟨g, k * 89 + 8, none⟩) hg).trans p8
  have r31 := (hx1.cell (p := ⟨g, k * 89 + 31, none⟩) hg).trans p31
  have r14 := (hx1.cell (p := ⟨g, k * 89 + 14, none⟩) hg).trans p14
  have r13 := (hx1.cell (p := ⟨g, k * 89 + 13, none⟩) hg).trans p13
  have s4 := (hx1.cell (p := ⟨X, 4, none⟩) hX).trans q4
  have s6 := (hx1.cell (p := ⟨X, 6, none⟩) hX).trans q6
  have d17 := (hx1.cell (p := ⟨X, 17, none⟩) hX).trans c17
  have hgr : ∀ j, w1.frozen? ⟨g, j, none⟩ = false := fun j => (H.out.ext hx1).frozen j
  clear hx1 c17 hfr q4 q6 p44 p50 p45 p87 p8 p31 p14 p13
  go_wp2_with fail
  try go_step3
  show J0 (Exit.goto 0) _ _
  refine jump_hid hJ0 rfl (fun J1 hJ1 => ?_)
  clear hJ0
  go_wp2_with fail
  try go_step3
  show J1 (Exit.goto 2) _ _
  refine jump_hid hJ1 rfl (fun J2 hJ2 => ?_)
  clear hJ1
  go_wp2_with fail
  have hfin := ((H.out.ext HX1.out).setp (k := k) (j := 8) hk (by decide) (.int .i64 (B.hi 4)))
  have hmut := (((Ext.mut HX1.out F)).setCell (p := ⟨g, k * 89 + 8, none⟩) (.inl hF2) (.int .i64 (B.hi 4)))
  refine jump_ret hJ2 ?_
  go_ret
  exact ⟨rfl, hfin.mono (fun n hn => .inl hn), hmut⟩
set_option maxRecDepth 100000 in
set_option maxHeartbeats 2000000 in
theorem txg_cx (w : World) (F : Nat → Prop) (X g k : Nat) (B : Br) (h : BrG w F X g B) (ho : B.ok) (hk : k < B.np) (hn : B.np < 1000) (h44 : B.gb k 44 = true) (h50 : B.gb k 50 = false) (h8 : B.gi k 8 = 0) (n4 : (B.gi k 87 == 4) = false) (n3 : (B.gi k 87 == 3) = false) :
    Calls Try.prog 18 #[.pointer (some ⟨X, 0, none⟩), .int .i64 k] w (fun e w' => e = .returned (.bool true) ∧ BrG w' (fun n => F n ∨ (w.heap.size ≤ n ∧ n < w'.heap.size)) X g ((B.setp k 8 (.int .i64 (B.hi 4)))) ∧ Mut F w w') := by
  obtain ⟨hX, hg, hne⟩ := h.lt
  obtain ⟨cap, c17, hc1, hc2⟩ := h.cell17 ho
  have p44 := (h.cellg (i := k * 89 + 44) (lt89 hk (by decide))).trans (ho.gb hk 44 rfl)
  have p50 := (h.cellg (i := k * 89 + 50) (lt89 hk (by decide))).trans (ho.gb hk 50 rfl)
  have p45 := (h.cellg (i := k * 89 + 45) (lt89 hk (by decide))).trans (ho.gb hk 45 rfl)
  have p87 := (h.cellg (i := k * 89 + 87) (lt89 hk (by decide))).trans (ho.gi hk 87 rfl)
  have p8 := (h.cellg (i := k * 89 + 8) (lt89 hk (by decide))).trans (ho.gi hk 8 rfl)
  have p31 := (h.cellg (i := k * 89 + 31) (lt89 hk (by decide))).trans (ho.gb hk 31 rfl)
  have p14 := (h.cellg (i := k * 89 + 14) (lt89 hk (by decide))).trans (ho.gi hk 14 rfl)
  have p13 := (h.cellg (i := k * 89 + 13) (lt89 hk (by decide))).trans (ho.gi hk 13 rfl)
  have q4 := (h.cellX ho (i := 4) (by omega)).trans (ho.hi 4 rfl)
  have q6 := (h.cellX ho (i := 6) (by omega)).trans (ho.hi 6 rfl)
  rw [h44] at p44
  rw [h50] at p50
  rw [h8] at p8
  have hF1 := h.F1
  have hF2 := h.F2
  have hfr := h.frozen
  have H := Lib.hid h
  clear h
  have HK := Lib.hid (tx_kind g (k * 89) _ _ w p45 p87)
  go_enter Try.func18, Try.ntmps18
  go_wp2_with fail
  refine scope_hid 3 (fun J0 hJ0 => ?_)
  go_wp2_with fail
  refine HK.out.mono ?_
  rintro e w1 ⟨rfl, hx1⟩
  have HX1 := Lib.hid hx1
  clear HK
  have r44 := (hx1.cell (p := ⟨g, k * 89 + 44, none⟩) hg).trans p44
  have r50 := (hx1.cell (p := ⟨g, k * 89 + 50, none⟩) hg).trans p50
  have r45 := (hx1.cell (p := ⟨g, k * 89 + 45, none⟩) hg).trans p45
  have r87 := (hx1.cell (p := ⟨g, k * 89 + 87, none⟩) hg).trans p87
  have r8 := (hx1.cell (p := ⟨g, k * 89 + 8, none⟩) hg).trans p8
  have r31 := (hx1.cell (p := ⟨g, k * 89 + 31, none⟩) hg).trans p31
  have r14 := (hx1.cell (p := ⟨g, k * 89 + 14, none⟩) hg).trans p14
  have r13 := (hx1.cell (p := ⟨g, k * 89 + 13, none⟩) hg).trans p13
  have s4 := (hx1.cell (p := ⟨X, 4, none⟩) hX).trans q4
  have s6 := (hx1.cell (p := ⟨X, 6, none⟩) hX).trans q6
  have d17 := (hx1.cell (p := ⟨X, 17, none⟩) hX).trans c17
  have hgr : ∀ j, w1.frozen? ⟨g, j, none⟩ = false := fun j => (H.out.ext hx1).frozen j
  clear hx1 c17 hfr q4 q6 p44 p50 p45 p87 p8 p31 p14 p13
  go_wp2_with fail
  try go_step3
  show J0 (Exit.goto 0) _ _
  refine jump_hid hJ0 rfl (fun J1 hJ1 => ?_)
  clear hJ0
  go_wp2_with fail
  try go_step3
  show J1 (Exit.goto 2) _ _
  refine jump_hid hJ1 rfl (fun J2 hJ2 => ?_)
  clear hJ1
  go_wp2_with fail
  have hfin := ((H.out.ext HX1.out).setp (k := k) (j := 8) hk (by decide) (.int .i64 (B.hi 4)))
  have hmut := (((Ext.mut HX1.out F)).setCell (p := ⟨g, k * 89 + 8, none⟩) (.inl hF2) (.int .i64 (B.hi 4)))
  refine jump_ret hJ2 ?_
  go_ret
  exact ⟨rfl, hfin.mono (fun n hn => .inl hn), hmut⟩
set_option maxRecDepth 100000 in
set_option maxHeartbeats 2000000 in
theorem txg_n1 (w : World) (F : Nat → Prop) (X g k : Nat) (B : Br) (h : BrG w F X g B) (ho : B.ok) (hk : k < B.np) (hn : B.np < 1000) (h44 : B.gb k 44 = true) (h50 : B.gb k 50 = false) (n8 : (B.gi k 8 == 0) = false) (ht : txTells (B.gb k 45) (B.gi k 87) = false)  :
    Calls Try.prog 18 #[.pointer (some ⟨X, 0, none⟩), .int .i64 k] w (fun e w' => e = .returned (.bool false) ∧ BrG w' (fun n => F n ∨ (w.heap.size ≤ n ∧ n < w'.heap.size)) X g (B) ∧ Mut F w w') := by
  obtain ⟨hX, hg, hne⟩ := h.lt
  obtain ⟨cap, c17, hc1, hc2⟩ := h.cell17 ho
  have p44 := (h.cellg (i := k * 89 + 44) (lt89 hk (by decide))).trans (ho.gb hk 44 rfl)
  have p50 := (h.cellg (i := k * 89 + 50) (lt89 hk (by decide))).trans (ho.gb hk 50 rfl)
  have p45 := (h.cellg (i := k * 89 + 45) (lt89 hk (by decide))).trans (ho.gb hk 45 rfl)
  have p87 := (h.cellg (i := k * 89 + 87) (lt89 hk (by decide))).trans (ho.gi hk 87 rfl)
  have p8 := (h.cellg (i := k * 89 + 8) (lt89 hk (by decide))).trans (ho.gi hk 8 rfl)
  have p31 := (h.cellg (i := k * 89 + 31) (lt89 hk (by decide))).trans (ho.gb hk 31 rfl)
  have p14 := (h.cellg (i := k * 89 + 14) (lt89 hk (by decide))).trans (ho.gi hk 14 rfl)
  have p13 := (h.cellg (i := k * 89 + 13) (lt89 hk (by decide))).trans (ho.gi hk 13 rfl)
  have q4 := (h.cellX ho (i := 4) (by omega)).trans (ho.hi 4 rfl)
  have q6 := (h.cellX ho (i := 6) (by omega)).trans (ho.hi 6 rfl)
  rw [h44] at p44
  rw [h50] at p50
  have hF1 := h.F1
  have hF2 := h.F2
  have hfr := h.frozen
  have H := Lib.hid h
  clear h
  have HK0 := tx_kind g (k * 89) _ _ w p45 p87
  rw [ht] at HK0
  have HK := Lib.hid HK0
  clear HK0 ht
  go_enter Try.func18, Try.ntmps18
  go_wp2_with fail
  refine scope_hid 3 (fun J0 hJ0 => ?_)
  go_wp2_with fail
  refine HK.out.mono ?_
  rintro e w1 ⟨rfl, hx1⟩
  have HX1 := Lib.hid hx1
  clear HK
  have r44 := (hx1.cell (p := ⟨g, k * 89 + 44, none⟩) hg).trans p44
  have r50 := (hx1.cell (p := ⟨g, k * 89 + 50, none⟩) hg).trans p50
  have r45 := (hx1.cell (p := ⟨g, k * 89 + 45, none⟩) hg).trans p45
  have r87 := (hx1.cell (p := ⟨g, k * 89 + 87, none⟩) hg).trans p87
  have r8 := (hx1.cell (p := ⟨g, k * 89 + 8, none⟩) hg).trans p8
  have r31 := (hx1.cell (p := ⟨g, k * 89 + 31, none⟩) hg).trans p31
  have r14 := (hx1.cell (p := ⟨g, k * 89 + 14, none⟩) hg).trans p14
  have r13 := (hx1.cell (p := ⟨g, k * 89 + 13, none⟩) hg).trans p13
  have s4 := (hx1.cell (p := ⟨X, 4, none⟩) hX).trans q4
  have s6 := (hx1.cell (p := ⟨X, 6, none⟩) hX).trans q6
  have d17 := (hx1.cell (p := ⟨X, 17, none⟩) hX).trans c17
  have hgr : ∀ j, w1.frozen? ⟨g, j, none⟩ = false := fun j => (H.out.ext hx1).frozen j
  clear hx1 c17 hfr q4 q6 p44 p50 p45 p87 p8 p31 p14 p13
  go_wp2_with fail
  go_quiet (fail)
  go_wp2_with fail
  refine jump_ret hJ0 ?_
  go_ret
  exact ⟨rfl, (H.out.ext ((Ext.trans HX1.out ((Ext.refl _).drewN _)))).mono (fun n hn => .inl hn), (Ext.mut (Ext.trans HX1.out ((Ext.refl _).drewN _)) F)⟩
set_option maxRecDepth 100000 in
set_option maxHeartbeats 2000000 in
theorem txg_n2 (w : World) (F : Nat → Prop) (X g k : Nat) (B : Br) (h : BrG w F X g B) (ho : B.ok) (hk : k < B.np) (hn : B.np < 1000) (h44 : B.gb k 44 = true) (h50 : B.gb k 50 = false) (n8 : (B.gi k 8 == 0) = false) (ht : txTells (B.gb k 45) (B.gi k 87) = true) (h31 : B.gb k 31 = false) :
    Calls Try.prog 18 #[.pointer (some ⟨X, 0, none⟩), .int .i64 k] w (fun e w' => e = .returned (.bool false) ∧ BrG w' (fun n => F n ∨ (w.heap.size ≤ n ∧ n < w'.heap.size)) X g (B) ∧ Mut F w w') := by
  obtain ⟨hX, hg, hne⟩ := h.lt
  obtain ⟨cap, c17, hc1, hc2⟩ := h.cell17 ho
  have p44 := (h.cellg (i := k * 89 + 44) (lt89 hk (by decide))).trans (ho.gb hk 44 rfl)
  have p50 := (h.cellg (i := k * 89 + 50) (lt89 hk (by decide))).trans (ho.gb hk 50 rfl)
  have p45 := (h.cellg (i := k * 89 + 45) (lt89 hk (by decide))).trans (ho.gb hk 45 rfl)
  have p87 := (h.cellg (i := k * 89 + 87) (lt89 hk (by decide))).trans (ho.gi hk 87 rfl)
  have p8 := (h.cellg (i := k * 89 + 8) (lt89 hk (by decide))).trans (ho.gi hk 8 rfl)
  have p31 := (h.cellg (i := k * 89 + 31) (lt89 hk (by decide))).trans (ho.gb hk 31 rfl)
  have p14 := (h.cellg (i := k * 89 + 14) (lt89 hk (by decide))).trans (ho.gi hk 14 rfl)
  have p13 := (h.cellg (i := k * 89 + 13) (lt89 hk (by decide))).trans (ho.gi hk 13 rfl)
  have q4 := (h.cellX ho (i := 4) (by omega)).trans (ho.hi 4 rfl)
  have q6 := (h.cellX ho (i := 6) (by omega)).trans (ho.hi 6 rfl)
  rw [h44] at p44
  rw [h50] at p50
  rw [h31] at p31
  have hF1 := h.F1
  have hF2 := h.F2
  have hfr := h.frozen
  have H := Lib.hid h
  clear h
  have HK0 := tx_kind g (k * 89) _ _ w p45 p87
  rw [ht] at HK0
  have HK := Lib.hid HK0
  clear HK0 ht
  go_enter Try.func18, Try.ntmps18
  go_wp2_with fail
  refine scope_hid 3 (fun J0 hJ0 => ?_)
  go_wp2_with fail
  refine HK.out.mono ?_
  rintro e w1 ⟨rfl, hx1⟩
  have HX1 := Lib.hid hx1
  clear HK
  have r44 := (hx1.cell (p := ⟨g, k * 89 + 44, none⟩) hg).trans p44
  have r50 := (hx1.cell (p := ⟨g, k * 89 + 50, none⟩) hg).trans p50
  have r45 := (hx1.cell (p := ⟨g, k * 89 + 45, none⟩) hg).trans p45
  have r87 := (hx1.cell (p := ⟨g, k * 89 + 87, none⟩) hg).trans p87
  have r8 := (hx1.cell (p := ⟨g, k * 89 + 8, none⟩) hg).trans p8
  have r31 := (hx1.cell (p := ⟨g, k * 89 + 31, none⟩) hg).trans p31
  have r14 := (hx1.cell (p := ⟨g, k * 89 + 14, none⟩) hg).trans p14
  have r13 := (hx1.cell (p := ⟨g, k * 89 + 13, none⟩) hg).trans p13
  have s4 := (hx1.cell (p := ⟨X, 4, none⟩) hX).trans q4
  have s6 := (hx1.cell (p := ⟨X, 6, none⟩) hX).trans q6
  have d17 := (hx1.cell (p := ⟨X, 17, none⟩) hX).trans c17
  have hgr : ∀ j, w1.frozen? ⟨g, j, none⟩ = false := fun j => (H.out.ext hx1).frozen j
  clear hx1 c17 hfr q4 q6 p44 p50 p45 p87 p8 p31 p14 p13
  go_wp2_with fail
  go_quiet (fail)
  go_wp2_with fail
  refine jump_ret hJ0 ?_
  go_ret
  exact ⟨rfl, (H.out.ext ((Ext.trans HX1.out ((Ext.refl _).drewN _)))).mono (fun n hn => .inl hn), (Ext.mut (Ext.trans HX1.out ((Ext.refl _).drewN _)) F)⟩
set_option maxRecDepth 100000 in
set_option maxHeartbeats 2000000 in
theorem txg_n3 (w : World) (F : Nat → Prop) (X g k : Nat) (B : Br) (h : BrG w F X g B) (ho : B.ok) (hk : k < B.np) (hn : B.np < 1000) (h44 : B.gb k 44 = true) (h50 : B.gb k 50 = false) (n8 : (B.gi k 8 == 0) = false) (ht : txTells (B.gb k 45) (B.gi k 87) = true) (h31 : B.gb k 31 = true) (hlt : ¬ B.gi k 14 < B.hi 6) :
    Calls Try.prog 18 #[.pointer (some ⟨X, 0, none⟩), .int .i64 k] w (fun e w' => e = .returned (.bool false) ∧ BrG w' (fun n => F n ∨ (w.heap.size ≤ n ∧ n < w'.heap.size)) X g (B) ∧ Mut F w w') := by
  obtain ⟨hX, hg, hne⟩ := h.lt
  obtain ⟨cap, c17, hc1, hc2⟩ := h.cell17 ho
  have p44 := (h.cellg (i := k * 89 + 44) (lt89 hk (by decide))).trans (ho.gb hk 44 rfl)
  have p50 := (h.cellg (i := k * 89 + 50) (lt89 hk (by decide))).trans (ho.gb hk 50 rfl)
  have p45 := (h.cellg (i := k * 89 + 45) (lt89 hk (by decide))).trans (ho.gb hk 45 rfl)
  have p87 := (h.cellg (i := k * 89 + 87) (lt89 hk (by decide))).trans (ho.gi hk 87 rfl)
  have p8 := (h.cellg (i := k * 89 + 8) (lt89 hk (by decide))).trans (ho.gi hk 8 rfl)
  have p31 := (h.cellg (i := k * 89 + 31) (lt89 hk (by decide))).trans (ho.gb hk 31 rfl)
  have p14 := (h.cellg (i := k * 89 + 14) (lt89 hk (by decide))).trans (ho.gi hk 14 rfl)
  have p13 := (h.cellg (i := k * 89 + 13) (lt89 hk (by decide))).trans (ho.gi hk 13 rfl)
  have q4 := (h.cellX ho (i := 4) (by omega)).trans (ho.hi 4 rfl)
  have q6 := (h.cellX ho (i := 6) (by omega)).trans (ho.hi 6 rfl)
  rw [h44] at p44
  rw [h50] at p50
  rw [h31] at p31
  have hF1 := h.F1
  have hF2 := h.F2
  have hfr := h.frozen
  have H := Lib.hid h
  clear h
  have HK0 := tx_kind g (k * 89) _ _ w p45 p87
  rw [ht] at HK0
  have HK := Lib.hid HK0
  clear HK0 ht
  have hlt2 : decide (B.gi k 14 < B.hi 6) = false := by simpa using hlt
  go_enter Try.func18, Try.ntmps18
  go_wp2_with fail
  refine scope_hid 3 (fun J0 hJ0 => ?_)
  go_wp2_with fail
  refine HK.out.mono ?_
  rintro e w1 ⟨rfl, hx1⟩
  have HX1 := Lib.hid hx1
  clear HK
  have r44 := (hx1.cell (p := ⟨g, k * 89 + 44, none⟩) hg).trans p44
  have r50 := (hx1.cell (p := ⟨g, k * 89 + 50, none⟩) hg).trans p50
  have r45 := (hx1.cell (p := ⟨g, k * 89 + 45, none⟩) hg).trans p45
  have r87 := (hx1.cell (p := ⟨g, k * 89 + 87, none⟩) hg).trans p87
  have r8 := (hx1.cell (p := ⟨g, k * 89 + 8, none⟩) hg).trans p8
  have r31 := (hx1.cell (p := ⟨g, k * 89 + 31, none⟩) hg).trans p31
  have r14 := (hx1.cell (p := ⟨g, k * 89 + 14, none⟩) hg).trans p14
  have r13 := (hx1.cell (p := ⟨g, k * 89 + 13, none⟩) hg).trans p13
  have s4 := (hx1.cell (p := ⟨X, 4, none⟩) hX).trans q4
  have s6 := (hx1.cell (p := ⟨X, 6, none⟩) hX).trans q6
  have d17 := (hx1.cell (p := ⟨X, 17, none⟩) hX).trans c17
  have hgr : ∀ j, w1.frozen? ⟨g, j, none⟩ = false := fun j => (H.out.ext hx1).frozen j
  clear hx1 c17 hfr q4 q6 p44 p50 p45 p87 p8 p31 p14 p13
  go_wp2_with fail
  go_quiet (fail)
  go_wp2_with fail
  refine jump_ret hJ0 ?_
  go_ret
  exact ⟨rfl, (H.out.ext ((Ext.trans HX1.out ((Ext.refl _).drewN _)))).mono (fun n hn => .inl hn), (Ext.mut (Ext.trans HX1.out ((Ext.refl _).drewN _)) F)⟩
set_option maxRecDepth 100000 in
set_option maxHeartbeats 2000000 in
theorem txg_news (w : World) (F : Nat → Prop) (X g k : Nat) (B : Br) (h : BrG w F X g B) (ho : B.ok) (hk : k < B.np) (hn : B.np < 1000) (h44 : B.gb k 44 = true) (h50 : B.gb k 50 = false) (n8 : (B.gi k 8 == 0) = false) (ht : txTells (B.gb k 45) (B.gi k 87) = true) (h31 : B.gb k 31 = true) (hlt : B.gi k 14 < B.hi 6) (h14 : 0 ≤ B.gi k 14 ∧ B.gi k 14 ≤ 100000) (hno : B.no ≤ 100000) :
    Calls Try.prog 18 #[.pointer (some ⟨X, 0, none⟩), .int .i64 k] w (fun e w' => e = .returned (.bool true) ∧ BrG w' (fun n => F n ∨ (w.heap.size ≤ n ∧ n < w'.heap.size)) X g (txNews B k) ∧ Mut F w w') := by
  obtain ⟨hX, hg, hne⟩ := h.lt
  obtain ⟨cap, c17, hc1, hc2⟩ := h.cell17 ho
  have p44 := (h.cellg (i := k * 89 + 44) (lt89 hk (by decide))).trans (ho.gb hk 44 rfl)
  have p50 := (h.cellg (i := k * 89 + 50) (lt89 hk (by decide))).trans (ho.gb hk 50 rfl)
  have p45 := (h.cellg (i := k * 89 + 45) (lt89 hk (by decide))).trans (ho.gb hk 45 rfl)
  have p87 := (h.cellg (i := k * 89 + 87) (lt89 hk (by decide))).trans (ho.gi hk 87 rfl)
  have p8 := (h.cellg (i := k * 89 + 8) (lt89 hk (by decide))).trans (ho.gi hk 8 rfl)
  have p31 := (h.cellg (i := k * 89 + 31) (lt89 hk (by decide))).trans (ho.gb hk 31 rfl)
  have p14 := (h.cellg (i := k * 89 + 14) (lt89 hk (by decide))).trans (ho.gi hk 14 rfl)
  have p13 := (h.cellg (i := k * 89 + 13) (lt89 hk (by decide))).trans (ho.gi hk 13 rfl)
  have q4 := (h.cellX ho (i := 4) (by omega)).trans (ho.hi 4 rfl)
  have q6 := (h.cellX ho (i := 6) (by omega)).trans (ho.hi 6 rfl)
  rw [h44] at p44
  rw [h50] at p50
  rw [h31] at p31
  have hF1 := h.F1
  have hF2 := h.F2
  have hfr := h.frozen
  have H := Lib.hid h
  clear h
  have HK0 := tx_kind g (k * 89) _ _ w p45 p87
  rw [ht] at HK0
  have HK := Lib.hid HK0
  clear HK0 ht
  have hlt2 : decide (B.gi k 14 < B.hi 6) = true := by simpa using hlt
  go_enter Try.func18, Try.ntmps18
  go_wp2_with fail
  refine scope_hid 3 (fun J0 hJ0 => ?_)
  go_wp2_with fail
  refine HK.out.mono ?_
  rintro e w1 ⟨rfl, hx1⟩
  have HX1 := Lib.hid hx1
  clear HK
  have r44 := (hx1.cell (p := ⟨g, k * 89 + 44, none⟩) hg).trans p44
  have r50 := (hx1.cell (p := ⟨g, k * 89 + 50, none⟩) hg).trans p50
  have r45 := (hx1.cell (p := ⟨g, k * 89 + 45, none⟩) hg).trans p45
  have r87 := (hx1.cell (p := ⟨g, k * 89 + 87, none⟩) hg).trans p87
  have r8 := (hx1.cell (p := ⟨g, k * 89 + 8, none⟩) hg).trans p8
  have r31 := (hx1.cell (p := ⟨g, k * 89 + 31, none⟩) hg).trans p31
  have r14 := (hx1.cell (p := ⟨g, k * 89 + 14, none⟩) hg).trans p14
  have r13 := (hx1.cell (p := ⟨g, k * 89 + 13, none⟩) hg).trans p13
  have s4 := (hx1.cell (p := ⟨X, 4, none⟩) hX).trans q4
  have s6 := (hx1.cell (p := ⟨X, 6, none⟩) hX).trans q6
  have d17 := (hx1.cell (p := ⟨X, 17, none⟩) hX).trans c17
  have hgr : ∀ j, w1.frozen? ⟨g, j, none⟩ = false := fun j => (H.out.ext hx1).frozen j
  clear hx1 c17 hfr q4 q6 p44 p50 p45 p87 p8 p31 p14 p13
  go_wp2_with fail
  go_quiet (fail)
  go_wp2_with fail
  try go_step3
  show J0 (Exit.goto 1) _ _
  refine jump_hid hJ0 rfl (fun J1 hJ1 => ?_)
  clear hJ0
  go_wp2_with fail
  have HXn : ∀ q, Ext w (w1.drewN q) := fun q => Ext.trans HX1.out ((Ext.refl _).drewN q)
  clear hgr d17 r44 r50 r45 r87 r8 r31 r14 r13 s4 s6
  refine (tx_send _ F X g k B (txKind (B.gb k 45) (B.gi k 87)) (H.out.ext (HXn _)) ho hk hn h14 hno).mono ?_
  rintro e w2 ⟨rfl, hB2, hM2⟩
  have okS := txSend_ok ho hk (by omega : k < 1000) (txKind (B.gb k 45) (B.gi k 87)) h14
  have hkS : k < (txSend B k (txKind (B.gb k 45) (B.gi k 87))).np := by rw [txSend_np]; exact hk
  have HB2 := Lib.hid hB2
  have HM2 := Lib.hid ((Ext.mut (HXn _) F).trans hM2)
  have hsz : w.heap.size ≤ w2.heap.size := Nat.le_trans (Below.size (HXn _)) hM2.2.2.2.1
  have HMo := Lib.hid (show BrG w2 (fun n => F n ∨ (w.heap.size ≤ n ∧ n < w2.heap.size)) X g (txSend B k (txKind (B.gb k 45) (B.gi k 87))) from hB2.mono (fun n hn => hn.elim .inl (fun hn => .inr ⟨Nat.le_trans (Below.size (HXn _)) hn.1, hn.2⟩)))
  clear hB2 hM2 hsz
  obtain ⟨hX2, hg2, hne2⟩ := HMo.out.lt
  have t4 := (HMo.out.cellX okS (i := 4) (by omega)).trans (okS.hi 4 rfl)
  rw [show (txSend B k (txKind (B.gb k 45) (B.gi k 87))).hi 4 = B.hi 4 by unfold Br.hi; rw [txSend_hd]] at t4
  have t8 := (HMo.out.cellg (i := k * 89 + 8) (lt89 hkS (by decide))).trans (okS.gi hkS 8 rfl)
  have hf2 := HMo.out.frozen
  have hfin := Lib.hid (HMo.out.setp (k := k) (j := 8) hkS (by decide) (.int .i64 (B.hi 4)))
  have hmut := Lib.hid (HM2.out.setCell (p := ⟨g, k * 89 + 8, none⟩) (.inl hF2) (.int .i64 (B.hi 4)))
  go_wp2_with fail
  try go_step3
  go_wp2_with fail
  refine jump_ret hJ1 ?_
  go_ret
  exact ⟨rfl, hfin.out.mono (fun n hn => hn.elim .inl (fun h => .inr ⟨h.1, by simp only [World.size_setCell]; exact h.2⟩)), hmut.out⟩
theorem txg_step (w : World) (F : Nat → Prop) (X g k : Nat) (B : Br) (h : BrG w F X g B) (ho : B.ok) (hk : k < B.np) (hn : B.np < 1000) (h14 : 0 ≤ B.gi k 14 ∧ B.gi k 14 ≤ 100000) (hno : B.no ≤ 100000) :
    Calls Try.prog 18 #[.pointer (some ⟨X, 0, none⟩), .int .i64 k] w fun e w' => e = .returned (.bool (txF B k).1) ∧ BrG w' (fun n => F n ∨ (w.heap.size ≤ n ∧ n < w'.heap.size)) X g (txF B k).2 ∧ Mut F w w' := by
  unfold txF txSel
  cases h44 : B.gb k 44
  · exact txg_s0 w F X g k B h ho hk hn h44
  cases h50 : B.gb k 50
  case true => exact txg_s0b w F X g k B h ho hk hn h44 h50
  rw [if_neg (show ¬ ((!true || false) = true) by simp)]
  by_cases h8 : B.gi k 8 = 0
  · rw [if_pos h8]
    unfold txClock
    by_cases h4 : B.gi k 87 = 4
    · rw [h4]
      exact txg_c4 w F X g k B h ho hk hn h44 h50 h8 h4
    by_cases h3 : B.gi k 87 = 3
    · rw [h3]
      by_cases h13 : B.gi k 13 = 0
      · rw [h13]
        exact txg_c3f w F X g k B h ho hk hn h44 h50 h8 h3 h13
      · have h13b : (B.gi k 13 != 0) = true := by simpa using h13
        rw [h13b]
        exact txg_c3t w F X g k B h ho hk hn h44 h50 h8 h3 h13b
    have n4 : (B.gi k 87 == 4) = false := by simpa using h4
    have n3 : (B.gi k 87 == 3) = false := by simpa using h3
    rw [n4, n3]
    exact txg_cx w F X g k B h ho hk hn h44 h50 h8 n4 n3
  have n8 : (B.gi k 8 == 0) = false := by simpa using h8
  rw [if_neg h8]
  cases ht : txTells (B.gb k 45) (B.gi k 87)
  · exact txg_n1 w F X g k B h ho hk hn h44 h50 n8 ht
  cases h31 : B.gb k 31
  · exact txg_n2 w F X g k B h ho hk hn h44 h50 n8 ht h31
  by_cases hlt : B.gi k 14 < B.hi 6
  · have e : decide (B.gi k 14 < B.hi 6) = true := by simpa using hlt
    rw [e]
    exact txg_news w F X g k B h ho hk hn h44 h50 n8 ht h31 hlt h14 hno
  · have e : decide (B.gi k 14 < B.hi 6) = false := by simpa using hlt
    rw [e]
    exact txg_n3 w F X g k B h ho hk hn h44 h50 n8 ht h31 hlt

end Go.Proofs.Ythlapkddgnpaeaa
