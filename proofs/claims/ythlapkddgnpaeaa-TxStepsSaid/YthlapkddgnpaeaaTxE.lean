/- The machine that sends: its step. No statement is proved here. -/
import Derived.Test.YthlapkddgnpaeaaTxD
import Derived.ScopeJumps
namespace Go.Proofs.Ythlapkddgnpaeaa
open Go.RowKit Go.BigFrame Go.WideShapes Go.ChangeShapes Go.Deep
set_option linter.unusedVariables false
set_option linter.unusedSimpArgs false

/-- As Q; a goto goes on behind its label, at most n times. -/
def jumpN (P : Program) (c : Code) (Q : Exit → Act → World → Prop) : Nat → Exit → Act → World → Prop
  | 0, .goto _, _, _ => False
  | n + 1, .goto l, a, w => ∃ rest, findLabel c l = some rest ∧ rest.wp P (jumpN P c Q n) a w
  | _, e, a, w => Q e a w
theorem wp_scope_n {P : Program} {a : Act} {w : World} {Q : Exit → Act → World → Prop} {c : Code} (n : Nat) (h : c.wp P (jumpN P c Q n) a w) : (Code.scope c).wp P Q a w := by
  intro b k cs
  have key : ∀ n (rest : Code) a w, rest.wp P (jumpN P c Q n) a w → ∃ e a' w', Q e a' w' ∧ Arrives P (lone (b.at a (.code rest :: .inScope c :: k)) cs w) b k cs e a' w' := by
    intro n
    induction n with
    | zero =>
      intro rest a w h
      obtain ⟨e, a₁, w₁, hq, harr⟩ := h b (.inScope c :: k) cs
      cases e with
      | normal => exact ⟨.normal, a₁, w₁, hq, Steps.trans harr (.one step_inScope)⟩
      | exit id => exact ⟨.exit id, a₁, w₁, hq, fun k' hk => harr k' (by simp [exitTo, hk])⟩
      | goto l => exact hq.elim
      | ret => exact ⟨_, a₁, w₁, hq, harr⟩
      | panic ch => exact ⟨_, a₁, w₁, hq, harr⟩
      | outgrown => exact ⟨_, a₁, w₁, hq, harr⟩
    | succ n ih =>
      intro rest a w h
      obtain ⟨e, a₁, w₁, hq, harr⟩ := h b (.inScope c :: k) cs
      cases e with
      | normal => exact ⟨.normal, a₁, w₁, hq, Steps.trans harr (.one step_inScope)⟩
      | exit id => exact ⟨.exit id, a₁, w₁, hq, fun k' hk => harr k' (by simp [exitTo, hk])⟩
      | goto l =>
        obtain ⟨r2, hf, h2⟩ := hq
        obtain ⟨e₂, a₂, w₂, hq₂, harr₂⟩ := ih r2 a₁ w₁ h2
        exact ⟨e₂, a₂, w₂, hq₂, .of_steps (harr _ (by simp [gotoIn, hf])) harr₂⟩
      | ret => exact ⟨_, a₁, w₁, hq, harr⟩
      | panic ch => exact ⟨_, a₁, w₁, hq, harr⟩
      | outgrown => exact ⟨_, a₁, w₁, hq, harr⟩
  obtain ⟨e, a₁, w₁, hq, harr⟩ := key n c a w h
  exact ⟨e, a₁, w₁, hq, .of_steps (.one step_scope) harr⟩
theorem scope_hid {P : Program} {a : Act} {w : World} {Q : Exit → Act → World → Prop} {c : Code} (n : Nat) (h : ∀ J, Hid (J = jumpN P c Q n) → c.wp P J a w) : (Code.scope c).wp P Q a w :=
  wp_scope_n n (h _ (Lib.hid rfl))
theorem jump_hid {P : Program} {a : Act} {w : World} {Q : Exit → Act → World → Prop} {c rest : Code} {n l : Nat} {J : Exit → Act → World → Prop} (hJ : Hid (J = jumpN P c Q (n + 1))) (hf : findLabel c l = some rest) (h : ∀ J', Hid (J' = jumpN P c Q n) → rest.wp P J' a w) : J (.goto l) a w := by
  rw [hJ.out]
  exact ⟨rest, hf, h _ (Lib.hid rfl)⟩
theorem jump_ret {P : Program} {a : Act} {w : World} {Q : Exit → Act → World → Prop} {c : Code} {n : Nat} {J : Exit → Act → World → Prop} (hJ : Hid (J = jumpN P c Q n)) (h : Q .ret a w) : J .ret a w := by
  rw [hJ.out]
  cases n <;> exact h

/-- What its step does: the clock is wound; something is sent; nothing. -/
def txClock (B : Br) (k : Nat) : Br := (if (B.gi k 87 == 4 || (B.gi k 87 == 3 && B.gi k 13 != 0)) = true then B.setp k 31 (.bool true) else B).setp k 8 (.int .i64 (B.hi 4))
def txNews (B : Br) (k : Nat) : Br := (txSend B k (txKind (B.gb k 45) (B.gi k 87))).setp k 8 (.int .i64 (B.hi 4))
def txSel (B : Br) (k : Nat) : Nat :=
  if (!B.gb k 44 || B.gb k 50) = true then 0 else if B.gi k 8 = 0 then 1 else if (txTells (B.gb k 45) (B.gi k 87) && B.gb k 31 && decide (B.gi k 14 < B.hi 6)) = true then 2 else 0
def txF (B : Br) (k : Nat) : Bool × Br := if txSel B k = 1 then (true, txClock B k) else if txSel B k = 2 then (true, txNews B k) else (false, B)

theorem txSend_np (B : Br) (k : Nat) (kind : Int) : (txSend B k kind).np = B.np := by unfold txSend; split <;> rfl
theorem txSend_hd (B : Br) (k : Nat) (kind : Int) : (txSend B k kind).hd = B.hd := by unfold txSend; split <;> rfl
theorem txSend_no (B : Br) (k : Nat) (kind : Int) : (txSend B k kind).no = B.no + 1 := by unfold txSend; split <;> rfl
theorem txSend_ok {B : Br} (ho : B.ok) {k : Nat} (hk : k < B.np) (hk8 : k < 1000) (kind : Int) (h14 : 0 ≤ B.gi k 14 ∧ B.gi k 14 ≤ 100000) : (txSend B k kind).ok := by
  have hs := sent_ok ho hk hk8 kind
  have hw : (Lit.int .i64 (B.gi k 14 + 1)).wf = true := by
    simp [Lit.wf, IntKind.min, IntKind.max, IntKind.signed, IntKind.bits]
    omega
  unfold txSend
  split
  · exact (hs.setB (k := k) hk 31 false rfl).setI (k := k) hk 14 .i64 _ rfl hw
  · exact ((hs.setB (k := k) hk 31 false rfl).setB (k := k) hk 48 false rfl).setI (k := k) hk 14 .i64 _ rfl hw

set_option maxRecDepth 100000 in
set_option maxHeartbeats 2000000 in
theorem tx_s0 (w : World) (N X g k : Nat) (B : Br) (h : BrG w (fun n => N ≤ n ∧ n < w.heap.size) X g B) (ho : B.ok) (hk : k < B.np) (hn : B.np < 1000) (h44 : B.gb k 44 = false) :
    Calls Try.prog 18 #[.pointer (some ⟨X, 0, none⟩), .int .i64 k] w (fun e w' => e = .returned (.bool false) ∧ BrG w' (fun n => N ≤ n ∧ n < w'.heap.size) X g (B) ∧ Mut (fun n => N ≤ n) w w') := by
  obtain ⟨hX, hg, hne⟩ := h.lt
  obtain ⟨cap, c17, hc1, hc2⟩ := h.cell17 ho
  have p44 := (h.cellg (i := k * 89 + 44) (lt89 hk (by decide))).trans (ho.gb hk 44 rfl)
  have p50 := (h.cellg (i := k * 89 + 50) (lt89 hk (by decide))).trans (ho.gb hk 50 rfl)
  have p45 := (h.cellg (i := k * 89 + 45) (lt89 hk (by decide))).trans (ho.gb hk 45 rfl)
  have p87 := (h.cellg (i := k * 89 + 87) (lt89 hk (by decide))).trans (ho.gi hk 87 rfl)
  have p8 := (h.cellg (i := k * 89 + 8) (lt89 hk (by decide))).trans (ho.gi hk 8 rfl)
  have p31 := (h.cellg (i := k * 89 + 31) (lt89 hk (by decide))).trans (ho.gb hk 31 rfl)
  have p14 := (h.cellg (i := k * 89 + 14) (lt89 hk (by decide))).trans (ho.gi hk 14 rfl)
  have p13 := (h.cellg (i := k * 89 + 13) (lt89 hk (by decide))).trans (ho.gi hk 13 rfl)
  have q4 := (h.cellX ho (i := 4) (by omega)).trans (ho.hi 4 rfl)
  have q6 := (h.cellX ho (i := 6) (by omega)).trans (ho.hi 6 rfl)
  rw [h44] at p44
  have hF1 := h.F1
  have hF2 := h.F2
  have hfr := h.frozen
  have H := Lib.hid h
  clear h
  have HK := Lib.hid (tx_kind g (k * 89) _ _ w p45 p87)
  go_enter Try.func18, Try.ntmps18
  go_wp2_with fail
  refine scope_hid 3 (fun J0 hJ0 => ?_)
  go_wp2_with fail
  refine HK.out.mono ?_
  rintro e w1 ⟨rfl, hx1⟩
  have HX1 := Lib.hid hx1
  clear HK
  have r44 := (hx1.cell (p := ⟨g, k * 89 + 44, none⟩) hg).trans p44
  have r50 := (hx1.cell (p := ⟨g, k * 89 + 50, none⟩) hg).trans p50
  have r45 := (hx1.cell (p := ⟨g, k * 89 + 45, none⟩) hg).trans p45
  have r87 := (hx1.cell (p := ⟨g, k * 89 + 87, none⟩) hg).trans p87
  have r8 := (hx1.cell (p := ⟨g, k * 89 + 8, none⟩) hg).trans p8
  have r31 := (hx1.cell (p := ⟨g, k * 89 + 31, none⟩) hg).trans p31
  have r14 := (hx1.cell (p := ⟨g, k * 89 + 14, none⟩) hg).trans p14
  have r13 := (hx1.cell (p := ⟨g, k * 89 + 13, none⟩) hg).trans p13
  have s4 := (hx1.cell (p := ⟨X, 4, none⟩) hX).trans q4
  have s6 := (hx1.cell (p := ⟨X, 6, none⟩) hX).trans q6
  have d17 := (hx1.cell (p := ⟨X, 17, none⟩) hX).trans c17
  have hgr : ∀ j, w1.frozen? ⟨g, j, none⟩ = false := fun j => (H.out.ext hx1).frozen j
  clear hx1 c17 hfr q4 q6 p44 p50 p45 p87 p8 p31 p14 p13
  go_wp2_with fail
  refine jump_ret hJ0 ?_
  go_ret
  exact ⟨rfl, (H.out.ext HX1.out).mono (fun n hn => ⟨hn.1, Nat.lt_of_lt_of_le hn.2 (Below.size HX1.out)⟩), (Ext.mut HX1.out _)⟩
set_option maxRecDepth 100000 in
set_option maxHeartbeats 2000000 in
theorem tx_s0b (w : World) (N X g k : Nat) (B : Br) (h : BrG w (fun n => N ≤ n ∧ n < w.heap.size) X g B) (ho : B.ok) (hk : k < B.np) (hn : B.np < 1000) (h44 : B.gb k 44 = true) (h50 : B.gb k 50 = true) :
    Calls Try.prog 18 #[.pointer (some ⟨X, 0, none⟩), .int .i64 k] w (fun e w' => e = .returned (.bool false) ∧ BrG w' (fun n => N ≤ n ∧ n < w'.heap.size) X g (B) ∧ Mut (fun n => N ≤ n) w w') := by
  obtain ⟨hX, hg, hne⟩ := h.lt
  obtain ⟨cap, c17, hc1, hc2⟩ := h.cell17 ho
  have p44 := (h.cellg (i := k * 89 + 44) (lt89 hk (by decide))).trans (ho.gb hk 44 rfl)
  have p50 := (h.cellg (i := k * 89 + 50) (lt89 hk (by decide))).trans (ho.gb hk 50 rfl)
  have p45 := (h.cellg (i := k * 89 + 45) (lt89 hk (by decide))).trans (ho.gb hk 45 rfl)
  have p87 := (h.cellg (i := k * 89 + 87) (lt89 hk (by decide))).trans (ho.gi hk 87 rfl)
  have p8 := (h.cellg (i := k * 89 + 8) (lt89 hk (by decide))).trans (ho.gi hk 8 rfl)
  have p31 := (h.cellg (i := k * 89 + 31) (lt89 hk (by decide))).trans (ho.gb hk 31 rfl)
  have p14 := (h.cellg (i := k * 89 + 14) (lt89 hk (by decide))).trans (ho.gi hk 14 rfl)
  have p13 := (h.cellg (i := k * 89 + 13) (lt89 hk (by decide))).trans (ho.gi hk 13 rfl)
  have q4 := (h.cellX ho (i := 4) (by omega)).trans (ho.hi 4 rfl)
  have q6 := (h.cellX ho (i := 6) (by omega)).trans (ho.hi 6 rfl)
  rw [h44] at p44
  rw [h50] at p50
  have hF1 := h.F1
  have hF2 := h.F2
  have hfr := h.frozen
  have H := Lib.hid h
  clear h
  have HK := Lib.hid (tx_kind g (k * 89) _ _ w p45 p87)
  go_enter Try.func18, Try.ntmps18
  go_wp2_with fail
  refine scope_hid 3 (fun J0 hJ0 => ?_)
  go_wp2_with fail
  refine HK.out.mono ?_
  rintro e w1 ⟨rfl, hx1⟩
  have HX1 := Lib.hid hx1
  clear HK
  have r44 := (hx1.cell (p := ⟨g, k * 89 + 44, none⟩) hg).trans p44
  have r50 := (hx1.cell (p := ⟨g, k * 89 + 50, none⟩) hg).trans p50
  have r45 := (hx1.cell (p := ⟨g, k * 89 + 45, none⟩) hg).trans p45
  have r87 := (hx1.cell (p := ⟨g, k * 89 + 87, none⟩) hg).trans p87
  have r8 := (hx1.cell (p := ⟨g, k * 89 + 8, none⟩) hg).trans p8
  have r31 := (hx1.cell (p := ⟨g, k * 89 + 31, none⟩) hg).trans p31
  have r14 := (hx1.cell (p := ⟨g, k * 89 + 14, none⟩) hg).trans p14
  have r13 := (hx1.cell (p := ⟨g, k * 89 + 13, none⟩) hg).trans p13
  have s4 := (hx1.cell (p := ⟨X, 4, none⟩) hX).trans q4
  have s6 := (hx1.cell (p := ⟨X, 6, none⟩) hX).trans q6
  have d17 := (hx1.cell (p := ⟨X, 17, none⟩) hX).trans c17
  have hgr : ∀ j, w1.frozen? ⟨g, j, none⟩ = false := fun j => (H.out.ext hx1).frozen j
  clear hx1 c17 hfr q4 q6 p44 p50 p45 p87 p8 p31 p14 p13
  go_wp2_with fail
  refine jump_ret hJ0 ?_
  go_ret
  exact ⟨rfl, (H.out.ext HX1.out).mono (fun n hn => ⟨hn.1, Nat.lt_of_lt_of_le hn.2 (Below.size HX1.out)⟩), (Ext.mut HX1.out _)⟩
set_option maxRecDepth 100000 in
set_option maxHeartbeats 2000000 in
theorem tx_c4 (w : World) (N X g k : Nat) (B : Br) (h : BrG w (fun n => N ≤ n ∧ n < w.heap.size) X g B) (ho : B.ok) (hk : k < B.np) (hn : B.np < 1000) (h44 : B.gb k 44 = true) (h50 : B.gb k 50 = false) (h8 : B.gi k 8 = 0) (h87 : B.gi k 87 = 4) :
    Calls Try.prog 18 #[.pointer (some ⟨X, 0, none⟩), .int .i64 k] w (fun e w' => e = .returned (.bool true) ∧ BrG w' (fun n => N ≤ n ∧ n < w'.heap.size) X g (((B.setp k 31 (.bool true)).setp k 8 (.int .i64 (B.hi 4)))) ∧ Mut (fun n => N ≤ n) w w') := by
  obtain ⟨hX, hg, hne⟩ := h.lt
  obtain ⟨cap, c17, hc1, hc2⟩ := h.cell17 ho
  have p44 := (h.cellg (i := k * 89 + 44) (lt89 hk (by decide))).trans (ho.gb hk 44 rfl)
  have p50 := (h.cellg (i := k * 89 + 50) (lt89 hk (by decide))).trans (ho.gb hk 50 rfl)
  have p45 := (h.cellg (i := k * 89 + 45) (lt89 hk (by decide))).trans (ho.gb hk 45 rfl)
  have p87 := (h.cellg (i := k * 89 + 87) (lt89 hk (by decide))).trans (ho.gi hk 87 rfl)
  have p8 := (h.cellg (i := k * 89 + 8) (lt89 hk (by decide))).trans (ho.gi hk 8 rfl)
  have p31 := (h.cellg (i := k * 89 + 31) (lt89 hk (by decide))).trans (ho.gb hk 31 rfl)
  have p14 := (h.cellg (i := k * 89 + 14) (lt89 hk (by decide))).trans (ho.gi hk 14 rfl)
  have p13 := (h.cellg (i := k * 89 + 13) (lt89 hk (by decide))).trans (ho.gi hk 13 rfl)
  have q4 := (h.cellX ho (i := 4) (by omega)).trans (ho.hi 4 rfl)
  have q6 := (h.cellX ho (i := 6) (by omega)).trans (ho.hi 6 rfl)
  rw [h44] at p44
  rw [h50] at p50
  rw [h8] at p8
  rw [h87] at p87
  have hF1 := h.F1
  have hF2 := h.F2
  have hfr := h.frozen
  have H := Lib.hid h
  clear h
  have HK := Lib.hid (tx_kind g (k * 89) _ _ w p45 p87)
  go_enter Try.func18, Try.ntmps18
  go_wp2_with fail
  refine scope_hid 3 (fun J0 hJ0 => ?_)
  go_wp2_with fail
  refine HK.out.mono ?_
  rintro e w1 ⟨rfl, hx1⟩
  have HX1 := Lib.hid hx1
  clear HK
  have r44 := (hx1.cell (p := ⟨g, k * 89 + 44, none⟩) hg).trans p44
  have r50 := (hx1.cell (p := ⟨g, k * 89 + 50, none⟩) hg).trans p50
  have r45 := (hx1.cell (p := ⟨g, k * 89 + 45, none⟩) hg).trans p45
  have r87 := (hx1.cell (p := ⟨g, k * 89 + 87, none⟩) hg).trans p87
  have r8 := (hx1.cell (p := ⟨g, k * 89 + 8, none⟩) hg).trans p8
  have r31 := (hx1.cell (p := ⟨g, k * 89 + 31, none⟩) hg).trans p31
  have r14 := (hx1.cell (p := ⟨g, k * 89 + 14, none⟩) hg).trans p14
  have r13 := (hx1.cell (p := ⟨g, k * 89 + 13, none⟩) hg).trans p13
  have s4 := (hx1.cell (p := ⟨X, 4, none⟩) hX).trans q4
  have s6 := (hx1.cell (p := ⟨X, 6, none⟩) hX).trans q6
  have d17 := (hx1.cell (p := ⟨X, 17, none⟩) hX).trans c17
  have hgr : ∀ j, w1.frozen? ⟨g, j, none⟩ = false := fun j => (H.out.ext hx1).frozen j
  clear hx1 c17 hfr q4 q6 p44 p50 p45 p87 p8 p31 p14 p13
  go_wp2_with fail
  try go_step3
  show J0 (Exit.goto 0) _ _
  refine jump_hid hJ0 rfl (fun J1 hJ1 => ?_)
  clear hJ0
  go_wp2_with fail
  try go_step3
  show J1 (Exit.goto 2) _ _
  refine jump_hid hJ1 rfl (fun J2 hJ2 => ?_)
  clear hJ1
  go_wp2_with fail
  have hfin := (((H.out.ext HX1.out).setp (k := k) (j := 31) hk (by decide) (.bool true)).setp (k := k) (j := 8) hk (by decide) (.int .i64 (B.hi 4)))
  have hmut := ((((Ext.mut HX1.out (fun n => N ≤ n ∧ n < w.heap.size))).setCell (p := ⟨g, k * 89 + 31, none⟩) (.inl hF2) (.bool true)).setCell (p := ⟨g, k * 89 + 8, none⟩) (.inl hF2) (.int .i64 (B.hi 4)))
  refine jump_ret hJ2 ?_
  go_ret
  exact ⟨rfl, hfin.mono (fun n hn => ⟨hn.1, by simp only [World.size_setCell]; exact Nat.lt_of_lt_of_le hn.2 (Below.size HX1.out)⟩), hmut.mono (fun n _ hn => hn.1)⟩
set_option maxRecDepth 100000 in
set_option maxHeartbeats 2000000 in
theorem tx_c3t (w : World) (N X g k : Nat) (B : Br) (h : BrG w (fun n => N ≤ n ∧ n < w.heap.size) X g B) (ho : B.ok) (hk : k < B.np) (hn : B.np < 1000) (h44 : B.gb k 44 = true) (h50 : B.gb k 50 = false) (h8 : B.gi k 8 = 0) (h87 : B.gi k 87 = 3) (h13 : (B.gi k 13 != 0) = true) :
    Calls Try.prog 18 #[.pointer (some ⟨X, 0, none⟩), .int .i64 k] w (fun e w' => e = .returned (.bool true) ∧ BrG w' (fun n => N ≤ n ∧ n < w'.heap.size) X g (((B.setp k 31 (.bool true)).setp k 8 (.int .i64 (B.hi 4)))) ∧ Mut (fun n => N ≤ n) w w') := by
  obtain ⟨hX, hg, hne⟩ := h.lt
  obtain ⟨cap, c17, hc1, hc2⟩ := h.cell17 ho
  have p44 := (h.cellg (i := k * 89 + 44) (lt89 hk (by decide))).trans (ho.gb hk 44 rfl)
  have p50 := (h.cellg (i := k * 89 + 50) (lt89 hk (by decide))).trans (ho.gb hk 50 rfl)
  have p45 := (h.cellg (i := k * 89 + 45) (lt89 hk (by decide))).trans (ho.gb hk 45 rfl)
  have p87 := (h.cellg (i := k * 89 + 87) (lt89 hk (by decide))).trans (ho.gi hk 87 rfl)
  have p8 := (h.cellg (i := k * 89 + 8) (lt89 hk (by decide))).trans (ho.gi hk 8 rfl)
  have p31 := (h.cellg (i := k * 89 + 31) (lt89 hk (by decide))).trans (ho.gb hk 31 rfl)
  have p14 := (h.cellg (i := k * 89 + 14) (lt89 hk (by decide))).trans (ho.gi hk 14 rfl)
  have p13 := (h.cellg (i := k * 89 + 13) (lt89 hk (by decide))).trans (ho.gi hk 13 rfl)
  have q4 := (h.cellX ho (i := 4) (by omega)).trans (ho.hi 4 rfl)
  have q6 := (h.cellX ho (i := 6) (by omega)).trans (ho.hi 6 rfl)
  rw [h44] at p44
  rw [h50] at p50
  rw [h8] at p8
  rw [h87] at p87
  have hF1 := h.F1
  have hF2 := h.F2
  have hfr := h.frozen
  have H := Lib.hid h
  clear h
  have HK := Lib.hid (tx_kind g (k * 89) _ _ w p45 p87)
  go_enter Try.func18, Try.ntmps18
  go_wp2_with fail
  refine scope_hid 3 (fun J0 hJ0 => ?_)
  go_wp2_with fail
  refine HK.out.mono ?_
  rintro e w1 ⟨rfl, hx1⟩
  have HX1 := Lib.hid hx1
  clear HK
  have r44 := (hx1.cell (p := ⟨g, k * 89 + 44, none⟩) hg).trans p44
  have r50 := (hx1.cell (p := ⟨g, k * 89 + 50, none⟩) hg).trans p50
  have r45 := (hx1.cell (p := ⟨g, k * 89 + 45, none⟩) hg).trans p45
  have r87 := (hx1.cell (p := ⟨g, k * 89 + 87, none⟩) hg).trans p87
  have r8 := (hx1.cell (p := ⟨g, k * 89 + 8, none⟩) hg).trans p8
  have r31 := (hx1.cell (p := ⟨g, k * 89 + 31, none⟩) hg).trans p31
  have r14 := (hx1.cell (p := ⟨g, k * 89 + 14, none⟩) hg).trans p14
  have r13 := (hx1.cell (p := ⟨g, k * 89 + 13, none⟩) hg).trans p13
  have s4 := (hx1.cell (p := ⟨X, 4, none⟩) hX).trans q4
  have s6 := (hx1.cell (p := ⟨X, 6, none⟩) hX).trans q6
  have d17 := (hx1.cell (p := ⟨X, 17, none⟩) hX).trans c17
  have hgr : ∀ j, w1.frozen? ⟨g, j, none⟩ = false := fun j => (H.out.ext hx1).frozen j
  clear hx1 c17 hfr q4 q6 p44 p50 p45 p87 p8 p31 p14 p13
  go_wp2_with fail
  try go_step3
  show J0 (Exit.goto 0) _ _
  refine jump_hid hJ0 rfl (fun J1 hJ1 => ?_)
  clear hJ0
  go_wp2_with fail
  try go_step3
  show J1 (Exit.goto 2) _ _
  refine jump_hid hJ1 rfl (fun J2 hJ2 => ?_)
  clear hJ1
  go_wp2_with fail
  have hfin := (((H.out.ext HX1.out).setp (k := k) (j := 31) hk (by decide) (.bool true)).setp (k := k) (j := 8) hk (by decide) (.int .i64 (B.hi 4)))
  have hmut := ((((Ext.mut HX1.out (fun n => N ≤ n ∧ n < w.heap.size))).setCell (p := ⟨g, k * 89 + 31, none⟩) (.inl hF2) (.bool true)).setCell (p := ⟨g, k * 89 + 8, none⟩) (.inl hF2) (.int .i64 (B.hi 4)))
  refine jump_ret hJ2 ?_
  go_ret
  exact ⟨rfl, hfin.mono (fun n hn => ⟨hn.1, by simp only [World.size_setCell]; exact Nat.lt_of_lt_of_le hn.2 (Below.size HX1.out)⟩), hmut.mono (fun n _ hn => hn.1)⟩
set_option maxRecDepth 100000 in
set_option maxHeartbeats 2000000 in
theorem tx_c3f (w : World) (N X g k : Nat) (B : Br) (h : BrG w (fun n => N ≤ n ∧ n < w.heap.size) X g B) (ho : B.ok) (hk : k < B.np) (hn : B.np < 1000) (h44 : B.gb k 44 = true) (h50 : B.gb k 50 = false) (h8 : B.gi k 8 = 0) (h87 : B.gi k 87 = 3) (h13 : B.gi k 13 = 0) :
    Calls Try.prog 18 #[.pointer (some ⟨X, 0, none⟩), .int .i64 k] w (fun e w' => e = .returned (.bool true) ∧ BrG w' (fun n => N ≤ n ∧ n < w'.heap.size) X g ((B.setp k 8 (.int .i64 (B.hi 4)))) ∧ Mut (fun n => N ≤ n) w w') := by
  obtain ⟨hX, hg, hne⟩ := h.lt
  obtain ⟨cap, c17, hc1, hc2⟩ := h.cell17 ho
  have p44 := (h.cellg (i := k * 89 + 44) (lt89 hk (by decide))).trans (ho.gb hk 44 rfl)
  have p50 := (h.cellg (i := k * 89 + 50) (lt89 hk (by decide))).trans (ho.gb hk 50 rfl)
  have p45 := (h.cellg (i := k * 89 + 45) (lt89 hk (by decide))).trans (ho.gb hk 45 rfl)
  have p87 := (h.cellg (i := k * 89 + 87) (lt89 hk (by decide))).trans (ho.gi hk 87 rfl)
  have p8 := (h.cellg (i := k * 89 + 8) (lt89 hk (by decide))).trans (ho.gi hk 8 rfl)
  have p31 := (h.cellg (i := k * 89 + 31) (lt89 hk (by decide))).trans (ho.gb hk 31 rfl)
  have p14 := (h.cellg (i := k * 89 + 14) (lt89 hk (by decide))).trans (ho.gi hk 14 rfl)
  have p13 := (h.cellg (i := k * 89 + 13) (lt89 hk (by decide))).trans (ho.gi hk 13 rfl)
  have q4 := (h.cellX ho (i := 4) (by omega)).trans (ho.hi 4 rfl)
  have q6 := (h.cellX ho (i := 6) (by omega)).trans (ho.hi 6 rfl)
  rw [h44] at p44
  rw [h50] at p50
  rw [h8] at p8
  rw [h87] at p87
  rw [h13] at p13
  have hF1 := h.F1
  have hF2 := h.F2
  have hfr := h.frozen
  have H := Lib.hid h
  clear h
  have HK := Lib.hid (tx_kind g (k * 89) _ _ w p45 p87)
  go_enter Try.func18, Try.ntmps18
  go_wp2_with fail
  refine scope_hid 3 (fun J0 hJ0 => ?_)
  go_wp2_with fail
  refine HK.out.mono ?_
  rintro e w1 ⟨rfl, hx1⟩
  have HX1 := Lib.hid hx1
  clear HK
  have r44 := (hx1.cell (p := ⟨g, k * 89 + 44, none⟩) hg).trans p44
  have r50 := (hx1.cell (p := ⟨g, k * 89 + 50, none⟩) hg).trans p50
  have r45 := (hx1.cell (p := ⟨g, k * 89 + 45, none⟩) hg).trans p45
  have r87 := (hx1.cell (p := ⟨g, k * 89 + 87, none⟩) hg).trans p87
  have r8 := (hx1.cell (p := ⟨g, k * 89 + 8, none⟩) hg).trans p8
  have r31 := (hx1.cell (p := ⟨g, k * 89 + 31, none⟩) hg).trans p31
  have r14 := (hx1.cell (p := ⟨g, k * 89 + 14, none⟩) hg).trans p14
  have r13 := (hx1.cell (p := ⟨g, k * 89 + 13, none⟩) hg).trans p13
  have s4 := (hx1.cell (p := ⟨X, 4, none⟩) hX).trans q4
  have s6 := (hx1.cell (p := ⟨X, 6, none⟩) hX).trans q6
  have d17 := (hx1.cell (p := ⟨X, 17, none⟩) hX).trans c17
  have hgr : ∀ j, w1.frozen? ⟨g, j, none⟩ = false := fun j => (H.out.ext hx1).frozen j
  clear hx1 c17 hfr q4 q6 p44 p50 p45 p87 p8 p31 p14 p13
  go_wp2_with fail
  try go_step3
  show J0 (Exit.goto 0) _ _
  refine jump_hid hJ0 rfl (fun J1 hJ1 => ?_)
  clear hJ0
  go_wp2_with fail
  try go_step3
  show J1 (Exit.goto 2) _ _
  refine jump_hid hJ1 rfl (fun J2 hJ2 => ?_)
  clear hJ1
  go_wp2_with fail
  have hfin := ((H.out.ext HX1.out).setp (k := k) (j := 8) hk (by decide) (.int .i64 (B.hi 4)))
  have hmut := (((Ext.mut HX1.out (fun n => N ≤ n ∧ n < w.heap.size))).setCell (p := ⟨g, k * 89 + 8, none⟩) (.inl hF2) (.int .i64 (B.hi 4)))
  refine jump_ret hJ2 ?_
  go_ret
  exact ⟨rfl, hfin.mono (fun n hn => ⟨hn.1, by simp only [World.size_setCell]; exact Nat.lt_of_lt_of_le hn.2 (Below.size HX1.out)⟩), hmut.mono (fun n _ hn => hn.1)⟩
set_option maxRecDepth 100000 in
set_option maxHeartbeats 2000000 in
theorem tx_cx (w : World) (N X g k : Nat) (B : Br) (h : BrG w (fun n => N ≤ n ∧ n < w.heap.size) X g B) (ho : B.ok) (hk : k < B.np) (hn : B.np < 1000) (h44 : B.gb k 44 = true) (h50 : B.gb k 50 = false) (h8 : B.gi k 8 = 0) (n4 : (B.gi k 87 == 4) = false) (n3 : (B.gi k 87 == 3) = false) :
    Calls Try.prog 18 #[.pointer (some ⟨X, 0, none⟩), .int .i64 k] w (fun e w' => e = .returned (.bool true) ∧ BrG w' (fun n => N ≤ n ∧ n < w'.heap.size) X g ((B.setp k 8 (.int .i64 (B.hi 4)))) ∧ Mut (fun n => N ≤ n) w w') := by
  obtain ⟨hX, hg, hne⟩ := h.lt
  obtain ⟨cap, c17, hc1, hc2⟩ := h.cell17 ho
  have p44 := (h.cellg (i := k * 89 + 44) (lt89 hk (by decide))).trans (ho.gb hk 44 rfl)
  have p50 := (h.cellg (i := k * 89 + 50) (lt89 hk (by decide))).trans (ho.gb hk 50 rfl)
  have p45 := (h.cellg (i := k * 89 + 45) (lt89 hk (by decide))).trans (ho.gb hk 45 rfl)
  have p87 := (h.cellg (i := k * 89 + 87) (lt89 hk (by decide))).trans (ho.gi hk 87 rfl)
  have p8 := (h.cellg (i := k * 89 + 8) (lt89 hk (by decide))).trans (ho.gi hk 8 rfl)
  have p31 := (h.cellg (i := k * 89 + 31) (lt89 hk (by decide))).trans (ho.gb hk 31 rfl)
  have p14 := (h.cellg (i := k * 89 + 14) (lt89 hk (by decide))).trans (ho.gi hk 14 rfl)
  have p13 := (h.cellg (i := k * 89 + 13) (lt89 hk (by decide))).trans (ho.gi hk 13 rfl)
  have q4 := (h.cellX ho (i := 4) (by omega)).trans (ho.hi 4 rfl)
  have q6 := (h.cellX ho (i := 6) (by omega)).trans (ho.hi 6 rfl)
  rw [h44] at p44
  rw [h50] at p50
  rw [h8] at p8
  have hF1 := h.F1
  have hF2 := h.F2
  have hfr := h.frozen
  have H := Lib.hid h
  clear h
  have HK := Lib.hid (tx_kind g (k * 89) _ _ w p45 p87)
  go_enter Try.func18, Try.ntmps18
  go_wp2_with fail
  refine scope_hid 3 (fun J0 hJ0 => ?_)
  go_wp2_with fail
  refine HK.out.mono ?_
  rintro e w1 ⟨rfl, hx1⟩
  have HX1 := Lib.hid hx1
  clear HK
  have r44 := (hx1.cell (p := ⟨g, k * 89 + 44, none⟩) hg).trans p44
  have r50 := (hx1.cell (p := ⟨g, k * 89 + 50, none⟩) hg).trans p50
  have r45 := (hx1.cell (p := ⟨g, k * 89 + 45, none⟩) hg).trans p45
  have r87 := (hx1.cell (p := ⟨g, k * 89 + 87, none⟩) hg).trans p87
  have r8 := (hx1.cell (p := ⟨g, k * 89 + 8, none⟩) hg).trans p8
  have r31 := (hx1.cell (p := ⟨g, k * 89 + 31, none⟩) hg).trans p31
  have r14 := (hx1.cell (p := ⟨g, k * 89 + 14, none⟩) hg).trans p14
  have r13 := (hx1.cell (p := ⟨g, k * 89 + 13, none⟩) hg).trans p13
  have s4 := (hx1.cell (p := ⟨X, 4, none⟩) hX).trans q4
  have s6 := (hx1.cell (p := ⟨X, 6, none⟩) hX).trans q6
  have d17 := (hx1.cell (p := ⟨X, 17, none⟩) hX).trans c17
  have hgr : ∀ j, w1.frozen? ⟨g, j, none⟩ = false := fun j => (H.out.ext hx1).frozen j
  clear hx1 c17 hfr q4 q6 p44 p50 p45 p87 p8 p31 p14 p13
  go_wp2_with fail
  try go_step3
  show J0 (Exit.goto 0) _ _
  refine jump_hid hJ0 rfl (fun J1 hJ1 => ?_)
  clear hJ0
  go_wp2_with fail
  try go_step3
  show J1 (Exit.goto 2) _ _
  refine jump_hid hJ1 rfl (fun J2 hJ2 => ?_)
  clear hJ1
  go_wp2_with fail
  have hfin := ((H.out.ext HX1.out).setp (k := k) (j := 8) hk (by decide) (.int .i64 (B.hi 4)))
  have hmut := (((Ext.mut HX1.out (fun n => N ≤ n ∧ n < w.heap.size))).setCell (p := ⟨g, k * 89 + 8, none⟩) (.inl hF2) (.int .i64 (B.hi 4)))
  refine jump_ret hJ2 ?_
  go_ret
  exact ⟨rfl, hfin.mono (fun n hn => ⟨hn.1, by simp only [World.size_setCell]; exact Nat.lt_of_lt_of_le hn.2 (Below.size HX1.out)⟩), hmut.mono (fun n _ hn => hn.1)⟩
set_option maxRecDepth 100000 in
set_option maxHeartbeats 2000000 in
theorem tx_n1 (w : World) (N X g k : Nat) (B : Br) (h : BrG w (fun n => N ≤ n ∧ n < w.heap.size) X g B) (ho : B.ok) (hk : k < B.np) (hn : B.np < 1000) (h44 : B.gb k 44 = true) (h50 : B.gb k 50 = false) (n8 : (B.gi k 8 == 0) = false) (ht : txTells (B.gb k 45) (B.gi k 87) = false)  :
    Calls Try.prog 18 #[.pointer (some ⟨X, 0, none⟩), .int .i64 k] w (fun e w' => e = .returned (.bool false) ∧ BrG w' (fun n => N ≤ n ∧ n < w'.heap.size) X g (B) ∧ Mut (fun n => N ≤ n) w w') := by
  obtain ⟨hX, hg, hne⟩ := h.lt
  obtain ⟨cap, c17, hc1, hc2⟩ := h.cell17 ho
  have p44 := (h.cellg (i := k * 89 + 44) (lt89 hk (by decide))).trans (ho.gb hk 44 rfl)
  have p50 := (h.cellg (i := k * 89 + 50) (lt89 hk (by decide))).trans (ho.gb hk 50 rfl)
  have p45 := (h.cellg (i := k * 89 + 45) (lt89 hk (by decide))).trans (ho.gb hk 45 rfl)
  have p87 := (h.cellg (i := k * 89 + 87) (lt89 hk (by decide))).trans (ho.gi hk 87 rfl)
  have p8 := (h.cellg (i := k * 89 + 8) (lt89 hk (by decide))).trans (ho.gi hk 8 rfl)
  have p31 := (h.cellg (i := k * 89 + 31) (lt89 hk (by decide))).trans (ho.gb hk 31 rfl)
  have p14 := (h.cellg (i := k * 89 + 14) (lt89 hk (by decide))).trans (ho.gi hk 14 rfl)
  have p13 := (h.cellg (i := k * 89 + 13) (lt89 hk (by decide))).trans (ho.gi hk 13 rfl)
  have q4 := (h.cellX ho (i := 4) (by omega)).trans (ho.hi 4 rfl)
  have q6 := (h.cellX ho (i := 6) (by omega)).trans (ho.hi 6 rfl)
  rw [h44] at p44
  rw [h50] at p50
  have hF1 := h.F1
  have hF2 := h.F2
  have hfr := h.frozen
  have H := Lib.hid h
  clear h
  have HK0 := tx_kind g (k * 89) _ _ w p45 p87
  rw [ht] at HK0
  have HK := Lib.hid HK0
  clear HK0 ht
  go_enter Try.func18, Try.ntmps18
  go_wp2_with fail
  refine scope_hid 3 (fun J0 hJ0 => ?_)
  go_wp2_with fail
  refine HK.out.mono ?_
  rintro e w1 ⟨rfl, hx1⟩
  have HX1 := Lib.hid hx1
  clear HK
  have r44 := (hx1.cell (p := ⟨g, k * 89 + 44, none⟩) hg).trans p44
  have r50 := (hx1.cell (p := ⟨g, k * 89 + 50, none⟩) hg).trans p50
  have r45 := (hx1.cell (p := ⟨g, k * 89 + 45, none⟩) hg).trans p45
  have r87 := (hx1.cell (p := ⟨g, k * 89 + 87, none⟩) hg).trans p87
  have r8 := (hx1.cell (p := ⟨g, k * 89 + 8, none⟩) hg).trans p8
  have r31 := (hx1.cell (p := ⟨g, k * 89 + 31, none⟩) hg).trans p31
  have r14 := (hx1.cell (p := ⟨g, k * 89 + 14, none⟩) hg).trans p14
  have r13 := (hx1.cell (p := ⟨g, k * 89 + 13, none⟩) hg).trans p13
  have s4 := (hx1.cell (p := ⟨X, 4, none⟩) hX).trans q4
  have s6 := (hx1.cell (p := ⟨X, 6, none⟩) hX).trans q6
  have d17 := (hx1.cell (p := ⟨X, 17, none⟩) hX).trans c17
  have hgr : ∀ j, w1.frozen? ⟨g, j, none⟩ = false := fun j => (H.out.ext hx1).frozen j
  clear hx1 c17 hfr q4 q6 p44 p50 p45 p87 p8 p31 p14 p13
  go_wp2_with fail
  go_quiet (fail)
  go_wp2_with fail
  refine jump_ret hJ0 ?_
  go_ret
  exact ⟨rfl, (H.out.ext ((Ext.trans HX1.out ((Ext.refl _).drewN _)))).mono (fun n hn => ⟨hn.1, Nat.lt_of_lt_of_le hn.2 (Below.size (Ext.trans HX1.out ((Ext.refl _).drewN _)))⟩), (Ext.mut (Ext.trans HX1.out ((Ext.refl _).drewN _)) _)⟩
set_option maxRecDepth 100000 in
set_option maxHeartbeats 2000000 in
theorem tx_n2 (w : World) (N X g k : Nat) (B : Br) (h : BrG w (fun n => N ≤ n ∧ n < w.heap.size) X g B) (ho : B.ok) (hk : k < B.np) (hn : B.np < 1000) (h44 : B.gb k 44 = true) (h50 : B.gb k 50 = false) (n8 : (B.gi k 8 == 0) = false) (ht : txTells (B.gb k 45) (B.gi k 87) = true) (h31 : B.gb k 31 = false) :
    Calls Try.prog 18 #[.pointer (some ⟨X, 0, none⟩), .int .i64 k] w (fun e w' => e = .returned (.bool false) ∧ BrG w' (fun n => N ≤ n ∧ n < w'.heap.size) X g (B) ∧ Mut (fun n => N ≤ n) w w') := by
  obtain ⟨hX, hg, hne⟩ := h.lt
  obtain ⟨cap, c17, hc1, hc2⟩ := h.cell17 ho
  have p44 := (h.cellg (i := k * 89 + 44) (lt89 hk (by decide))).trans (ho.gb hk 44 rfl)
  have p50 := (h.cellg (i := k * 89 + 50) (lt89 hk (by decide))).trans (ho.gb hk 50 rfl)
  have p45 := (h.cellg (i := k * 89 + 45) (lt89 hk (by decide))).trans (ho.gb hk 45 rfl)
  have p87 := (h.cellg (i := k * 89 + 87) (lt89 hk (by decide))).trans (ho.gi hk 87 rfl)
  have p8 := (h.cellg (i := k * 89 + 8) (lt89 hk (by decide))).trans (ho.gi hk 8 rfl)
  have p31 := (h.cellg (i := k * 89 + 31) (lt89 hk (by decide))).trans (ho.gb hk 31 rfl)
  have p14 := (h.cellg (i := k * 89 + 14) (lt89 hk (by decide))).trans (ho.gi hk 14 rfl)
  have p13 := (h.cellg (i := k * 89 + 13) (lt89 hk (by decide))).trans (ho.gi hk 13 rfl)
  have q4 := (h.cellX ho (i := 4) (by omega)).trans (ho.hi 4 rfl)
  have q6 := (h.cellX ho (i := 6) (by omega)).trans (ho.hi 6 rfl)
  rw [h44] at p44
  rw [h50] at p50
  rw [h31] at p31
  have hF1 := h.F1
  have hF2 := h.F2
  have hfr := h.frozen
  have H := Lib.hid h
  clear h
  have HK0 := tx_kind g (k * 89) _ _ w p45 p87
  rw [ht] at HK0
  have HK := Lib.hid HK0
  clear HK0 ht
  go_enter Try.func18, Try.ntmps18
  go_wp2_with fail
  refine scope_hid 3 (fun J0 hJ0 => ?_)
  go_wp2_with fail
  refine HK.out.mono ?_
  rintro e w1 ⟨rfl, hx1⟩
  have HX1 := Lib.hid hx1
  clear HK
  have r44 := (hx1.cell (p := ⟨g, k * 89 + 44, none⟩) hg).trans p44
  have r50 := (hx1.cell (p := ⟨g, k * 89 + 50, none⟩) hg).trans p50
  have r45 := (hx1.cell (p := ⟨g, k * 89 + 45, none⟩) hg).trans p45
  have r87 := (hx1.cell (p := ⟨g, k * 89 + 87, none⟩) hg).trans p87
  have r8 := (hx1.cell (p := ⟨g, k * 89 + 8, none⟩) hg).trans p8
  have r31 := (hx1.cell (p := ⟨g, k * 89 + 31, none⟩) hg).trans p31
  have r14 := (hx1.cell (p := ⟨g, k * 89 + 14, none⟩) hg).trans p14
  have r13 := (hx1.cell (p := ⟨g, k * 89 + 13, none⟩) hg).trans p13
  have s4 := (hx1.cell (p := ⟨X, 4, none⟩) hX).trans q4
  have s6 := (hx1.cell (p := ⟨X, 6, none⟩) hX).trans q6
  have d17 := (hx1.cell (p := ⟨X, 17, none⟩) hX).trans c17
  have hgr : ∀ j, w1.frozen? ⟨g, j, none⟩ = false := fun j => (H.out.ext hx1).frozen j
  clear hx1 c17 hfr q4 q6 p44 p50 p45 p87 p8 p31 p14 p13
  go_wp2_with fail
  go_quiet (fail)
  go_wp2_with fail
  refine jump_ret hJ0 ?_
  go_ret
  exact ⟨rfl, (H.out.ext ((Ext.trans HX1.out ((Ext.refl _).drewN _)))).mono (fun n hn => ⟨hn.1, Nat.lt_of_lt_of_le hn.2 (Below.size (Ext.trans HX1.out ((Ext.refl _).drewN _)))⟩), (Ext.mut (Ext.trans HX1.out ((Ext.refl _).drewN _)) _)⟩
set_option maxRecDepth 100000 in
set_option maxHeartbeats 2000000 in
theorem tx_n3 (w : World) (N X g k : Nat) (B : Br) (h : BrG w (fun n => N ≤ n ∧ n < w.heap.size) X g B) (ho : B.ok) (hk : k < B.np) (hn : B.np < 1000) (h44 : B.gb k 44 = true) (h50 : B.gb k 50 = false) (n8 : (B.gi k 8 == 0) = false) (ht : txTells (B.gb k 45) (B.gi k 87) = true) (h31 : B.gb k 31 = true) (hlt : ¬ B.gi k 14 < B.hi 6) :
    Calls Try.prog 18 #[.pointer (some ⟨X, 0, none⟩), .int .i64 k] w (fun e w' => e = .returned (.bool false) ∧ BrG w' (fun n => N ≤ n ∧ n < w'.heap.size) X g (B) ∧ Mut (fun n => N ≤ n) w w') := by
  obtain ⟨hX, hg, hne⟩ := h.lt
  obtain ⟨cap, c17, hc1, hc2⟩ := h.cell17 ho
  have p44 := (h.cellg (i := k * 89 + 44) (lt89 hk (by decide))).trans (ho.gb hk 44 rfl)
  have p50 := (h.cellg (i := k * 89 + 50) (lt89 hk (by decide))).trans (ho.gb hk 50 rfl)
  have p45 := (h.cellg (i := k * 89 + 45) (lt89 hk (by decide))).trans (ho.gb hk 45 rfl)
  have p87 := (h.cellg (i := k * 89 + 87) (lt89 hk (by decide))).trans (ho.gi hk 87 rfl)
  have p8 := (h.cellg (i := k * 89 + 8) (lt89 hk (by decide))).trans (ho.gi hk 8 rfl)
  have p31 := (h.cellg (i := k * 89 + 31) (lt89 hk (by decide))).trans (ho.gb hk 31 rfl)
  have p14 := (h.cellg (i := k * 89 + 14) (lt89 hk (by decide))).trans (ho.gi hk 14 rfl)
  have p13 := (h.cellg (i := k * 89 + 13) (lt89 hk (by decide))).trans (ho.gi hk 13 rfl)
  have q4 := (h.cellX ho (i := 4) (by omega)).trans (ho.hi 4 rfl)
  have q6 := (h.cellX ho (i := 6) (by omega)).trans (ho.hi 6 rfl)
  rw [h44] at p44
  rw [h50] at p50
  rw [h31] at p31
  have hF1 := h.F1
  have hF2 := h.F2
  have hfr := h.frozen
  have H := Lib.hid h
  clear h
  have HK0 := tx_kind g (k * 89) _ _ w p45 p87
  rw [ht] at HK0
  have HK := Lib.hid HK0
  clear HK0 ht
  have hlt2 : decide (B.gi k 14 < B.hi 6) = false := by simpa using hlt
  go_enter Try.func18, Try.ntmps18
  go_wp2_with fail
  refine scope_hid 3 (fun J0 hJ0 => ?_)
  go_wp2_with fail
  refine HK.out.mono ?_
  rintro e w1 ⟨rfl, hx1⟩
  have HX1 := Lib.hid hx1
  clear HK
  have r44 := (hx1.cell (p := ⟨g, k * 89 + 44, none⟩) hg).trans p44
  have r50 := (hx1.cell (p := ⟨g, k * 89 + 50, none⟩) hg).trans p50
  have r45 := (hx1.cell (p := ⟨g, k * 89 + 45, none⟩) hg).trans p45
  have r87 := (hx1.cell (p := ⟨g, k * 89 + 87, none⟩) hg).trans p87
  have r8 := (hx1.cell (p := ⟨g, k * 89 + 8, none⟩) hg).trans p8
  have r31 := (hx1.cell (p := ⟨g, k * 89 + 31, none⟩) hg).trans p31
  have r14 := (hx1.cell (p := ⟨g, k * 89 + 14, none⟩) hg).trans p14
  have r13 := (hx1.cell (p := ⟨g, k * 89 + 13, none⟩) hg).trans p13
  have s4 := (hx1.cell (p := ⟨X, 4, none⟩) hX).trans q4
  have s6 := (hx1.cell (p := ⟨X, 6, none⟩) hX).trans q6
  have d17 := (hx1.cell (p := ⟨X, 17, none⟩) hX).trans c17
  have hgr : ∀ j, w1.frozen? ⟨g, j, none⟩ = false := fun j => (H.out.ext hx1).frozen j
  clear hx1 c17 hfr q4 q6 p44 p50 p45 p87 p8 p31 p14 p13
  go_wp2_with fail
  go_quiet (fail)
  go_wp2_with fail
  refine jump_ret hJ0 ?_
  go_ret
  exact ⟨rfl, (H.out.ext ((Ext.trans HX1.out ((Ext.refl _).drewN _)))).mono (fun n hn => ⟨hn.1, Nat.lt_of_lt_of_le hn.2 (Below.size (Ext.trans HX1.out ((Ext.refl _).drewN _)))⟩), (Ext.mut (Ext.trans HX1.out ((Ext.refl _).drewN _)) _)⟩
set_option maxRecDepth 100000 in
set_option maxHeartbeats 2000000 in
theorem tx_news (w : World) (N X g k : Nat) (B : Br) (h : BrG w (fun n => N ≤ n ∧ n < w.heap.size) X g B) (ho : B.ok) (hk : k < B.np) (hn : B.np < 1000) (h44 : B.gb k 44 = true) (h50 : B.gb k 50 = false) (n8 : (B.gi k 8 == 0) = false) (ht : txTells (B.gb k 45) (B.gi k 87) = true) (h31 : B.gb k 31 = true) (hlt : B.gi k 14 < B.hi 6) (h14 : 0 ≤ B.gi k 14 ∧ B.gi k 14 ≤ 100000) (hno : B.no ≤ 100000) :
    Calls Try.prog 18 #[.pointer (some ⟨X, 0, none⟩), .int .i64 k] w (fun e w' => e = .returned (.bool true) ∧ BrG w' (fun n => N ≤ n ∧ n < w'.heap.size) X g (txNews B k) ∧ Mut (fun n => N ≤ n) w w') := by
  obtain ⟨hX, hg, hne⟩ := h.lt
  obtain ⟨cap, c17, hc1, hc2⟩ := h.cell17 ho
  have p44 := (h.cellg (i := k * 89 + 44) (lt89 hk (by decide))).trans (ho.gb hk 44 rfl)
  have p50 := (h.cellg (i := k * 89 + 50) (lt89 hk (by decide))).trans (ho.gb hk 50 rfl)
  have p45 := (h.cellg (i := k * 89 + 45) (lt89 hk (by decide))).trans (ho.gb hk 45 rfl)
  have p87 := (h.cellg (i := k * 89 + 87) (lt89 hk (by decide))).trans (ho.gi hk 87 rfl)
  have p8 := (h.cellg (i := k * 89 + 8) (lt89 hk (by decide))).trans (ho.gi hk 8 rfl)
  have p31 := (h.cellg (i := k * 89 + 31) (lt89 hk (by decide))).trans (ho.gb hk 31 rfl)
  have p14 := (h.cellg (i := k * 89 + 14) (lt89 hk (by decide))).trans (ho.gi hk 14 rfl)
  have p13 := (h.cellg (i := k * 89 + 13) (lt89 hk (by decide))).trans (ho.gi hk 13 rfl)
  have q4 := (h.cellX ho (i := 4) (by omega)).trans (ho.hi 4 rfl)
  have q6 := (h.cellX ho (i := 6) (by omega)).trans (ho.hi 6 rfl)
  rw [h44] at p44
  rw [h50] at p50
  rw [h31] at p31
  have hF1 := h.F1
  have hF2 := h.F2
  have hfr := h.frozen
  have H := Lib.hid h
  clear h
  have HK0 := tx_kind g (k * 89) _ _ w p45 p87
  rw [ht] at HK0
  have HK := Lib.hid HK0
  clear HK0 ht
  have hlt2 : decide (B.gi k 14 < B.hi 6) = true := by simpa using hlt
  go_enter Try.func18, Try.ntmps18
  go_wp2_with fail
  refine scope_hid 3 (fun J0 hJ0 => ?_)
  go_wp2_with fail
  refine HK.out.mono ?_
  rintro e w1 ⟨rfl, hx1⟩
  have HX1 := Lib.hid hx1
  clear HK
  have r44 := (hx1.cell (p := ⟨g, k * 89 + 44, none⟩) hg).trans p44
  have r50 := (hx1.cell (p := ⟨g, k * 89 + 50, none⟩) hg).trans p50
  have r45 := (hx1.cell (p := ⟨g, k * 89 + 45, none⟩) hg).trans p45
  have r87 := (hx1.cell (p := ⟨g, k * 89 + 87, none⟩) hg).trans p87
  have r8 := (hx1.cell (p := ⟨g, k * 89 + 8, none⟩) hg).trans p8
  have r31 := (hx1.cell (p := ⟨g, k * 89 + 31, none⟩) hg).trans p31
  have r14 := (hx1.cell (p := ⟨g, k * 89 + 14, none⟩) hg).trans p14
  have r13 := (hx1.cell (p := ⟨g, k * 89 + 13, none⟩) hg).trans p13
  have s4 := (hx1.cell (p := ⟨X, 4, none⟩) hX).trans q4
  have s6 := (hx1.cell (p := ⟨X, 6, none⟩) hX).trans q6
  have d17 := (hx1.cell (p := ⟨X, 17, none⟩) hX).trans c17
  have hgr : ∀ j, w1.frozen? ⟨g, j, none⟩ = false := fun j => (H.out.ext hx1).frozen j
  clear hx1 c17 hfr q4 q6 p44 p50 p45 p87 p8 p31 p14 p13
  go_wp2_with fail
  go_quiet (fail)
  go_wp2_with fail
  try go_step3
  show J0 (Exit.goto 1) _ _
  refine jump_hid hJ0 rfl (fun J1 hJ1 => ?_)
  clear hJ0
  go_wp2_with fail
  have HXn : ∀ q, Ext w (w1.drewN q) := fun q => Ext.trans HX1.out ((Ext.refl _).drewN q)
  clear hgr d17 r44 r50 r45 r87 r8 r31 r14 r13 s4 s6
  refine (tx_send _ (fun n => N ≤ n ∧ n < w.heap.size) X g k B (txKind (B.gb k 45) (B.gi k 87)) (H.out.ext (HXn _)) ho hk hn h14 hno).mono ?_
  rintro e w2 ⟨rfl, hB2, hM2⟩
  have okS := txSend_ok ho hk (by omega : k < 1000) (txKind (B.gb k 45) (B.gi k 87)) h14
  have hkS : k < (txSend B k (txKind (B.gb k 45) (B.gi k 87))).np := by rw [txSend_np]; exact hk
  have HB2 := Lib.hid hB2
  have HM2 := Lib.hid ((Ext.mut (HXn _) (fun n => N ≤ n ∧ n < w.heap.size)).trans hM2)
  have hsz : w.heap.size ≤ w2.heap.size := Nat.le_trans (Below.size (HXn _)) hM2.2.2.2.1
  have HMo := Lib.hid (show BrG w2 (fun n => N ≤ n ∧ n < w2.heap.size) X g (txSend B k (txKind (B.gb k 45) (B.gi k 87))) from hB2.mono (fun n hn => hn.elim (fun hn => ⟨hn.1, by have := hn.2; omega⟩) (fun hn => ⟨by have h1 := hF1.1; have h2 := hF1.2; have h3 := Nat.le_trans (Below.size (HXn _)) hn.1; omega, hn.2⟩)))
  clear hB2 hM2 hsz
  obtain ⟨hX2, hg2, hne2⟩ := HMo.out.lt
  have t4 := (HMo.out.cellX okS (i := 4) (by omega)).trans (okS.hi 4 rfl)
  rw [show (txSend B k (txKind (B.gb k 45) (B.gi k 87))).hi 4 = B.hi 4 by unfold Br.hi; rw [txSend_hd]] at t4
  have t8 := (HMo.out.cellg (i := k * 89 + 8) (lt89 hkS (by decide))).trans (okS.gi hkS 8 rfl)
  have hf2 := HMo.out.frozen
  have hfin := Lib.hid (HMo.out.setp (k := k) (j := 8) hkS (by decide) (.int .i64 (B.hi 4)))
  have hmut := Lib.hid (HM2.out.setCell (p := ⟨g, k * 89 + 8, none⟩) (.inl hF2) (.int .i64 (B.hi 4)))
  go_wp2_with fail
  try go_step3
  go_wp2_with fail
  refine jump_ret hJ1 ?_
  go_ret
  exact ⟨rfl, hfin.out.mono (fun n hn => ⟨hn.1, by simp only [World.size_setCell]; exact hn.2⟩), hmut.out.mono (fun n _ hn => hn.1)⟩
theorem tx_stepW (w : World) (N X g k : Nat) (B : Br) (h : BrG w (fun n => N ≤ n ∧ n < w.heap.size) X g B) (ho : B.ok) (hk : k < B.np) (hn : B.np < 1000) (h14 : 0 ≤ B.gi k 14 ∧ B.gi k 14 ≤ 100000) (hno : B.no ≤ 100000) :
    Calls Try.prog 18 #[.pointer (some ⟨X, 0, none⟩), .int .i64 k] w fun e w' => e = .returned (.bool (txF B k).1) ∧ BrG w' (fun n => N ≤ n ∧ n < w'.heap.size) X g (txF B k).2 ∧ Mut (fun n => N ≤ n) w w' := by
  unfold txF txSel
  cases h44 : B.gb k 44
  · exact tx_s0 w N X g k B h ho hk hn h44
  cases h50 : B.gb k 50
  case true => exact tx_s0b w N X g k B h ho hk hn h44 h50
  rw [if_neg (show ¬ ((!true || false) = true) by simp)]
  by_cases h8 : B.gi k 8 = 0
  · rw [if_pos h8]
    unfold txClock
    by_cases h4 : B.gi k 87 = 4
    · rw [h4]
      exact tx_c4 w N X g k B h ho hk hn h44 h50 h8 h4
    by_cases h3 : B.gi k 87 = 3
    · rw [h3]
      by_cases h13 : B.gi k 13 = 0
      · rw [h13]
        exact tx_c3f w N X g k B h ho hk hn h44 h50 h8 h3 h13
      · have h13b : (B.gi k 13 != 0) = true := by simpa using h13
        rw [h13b]
        exact tx_c3t w N X g k B h ho hk hn h44 h50 h8 h3 h13b
    have n4 : (B.gi k 87 == 4) = false := by simpa using h4
    have n3 : (B.gi k 87 == 3) = false := by simpa using h3
    rw [n4, n3]
    exact tx_cx w N X g k B h ho hk hn h44 h50 h8 n4 n3
  have n8 : (B.gi k 8 == 0) = false := by simpa using h8
  rw [if_neg h8]
  cases ht : txTells (B.gb k 45) (B.gi k 87)
  · exact tx_n1 w N X g k B h ho hk hn h44 h50 n8 ht
  cases h31 : B.gb k 31
  · exact tx_n2 w N X g k B h ho hk hn h44 h50 n8 ht h31
  by_cases hlt : B.gi k 14 < B.hi 6
  · have e : decide (B.gi k 14 < B.hi 6) = true := by simpa using hlt
    rw [e]
    exact tx_news w N X g k B h ho hk hn h44 h50 n8 ht h31 hlt h14 hno
  · have e : decide (B.gi k 14 < B.hi 6) = false := by simpa using hlt
    rw [e]
    exact tx_n3 w N X g k B h ho hk hn h44 h50 n8 ht h31 hlt

end Go.Proofs.Ythlapkddgnpaeaa
