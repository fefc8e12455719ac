/- The receive machine: what it does, its step, a message taken in. No statement is proved here. -/
import Derived.Test.YtpieamfpgfabgaaRxA
namespace Go.Proofs.Ytpieamfpgfabgaa
open Go.RowKit Go.BigFrame Go.WideShapes Go.ChangeShapes Go.Deep
set_option linter.unusedVariables false

def rxDisc (B : Br) (k : Nat) : Br := ((((((B.setp k 35 (.bool false)).setp k 37 (.bool false)).setp k 38 (.bool false)).setp k 36 (.bool false)).setp k 6 (.int .i64 3)).setp k 15 (.int .i64 0))
def rxRcvR (B : Br) (k : Nat) : Br := ((((((B.setp k 37 (.bool true)).setp k 32 (.bool false)).setp k 35 (.bool false)).setp k 36 (.bool true)).setp k 6 (.int .i64 3)).setp k 15 (.int .i64 1))
def rxRcvS (B : Br) (k : Nat) : Br := ((((((B.setp k 38 (.bool true)).setp k 32 (.bool false)).setp k 35 (.bool false)).setp k 36 (.bool true)).setp k 6 (.int .i64 3)).setp k 15 (.int .i64 1))
def rxRcv (B : Br) (k : Nat) : Br := if B.gi k 51 = 2 then rxRcvR B k else rxRcvS B k
def rxS (B : Br) (k : Nat) : Nat := rxSel (B.gb k 2) (B.gb k 35) (B.gb k 36) (B.gi k 6) (B.gi k 15)
/-- The machine's step. -/
def rxF (B : Br) (k : Nat) : Bool × Br := if rxS B k = 1 then (true, rxDisc B k) else if rxS B k = 2 then (true, rxRcv B k) else (false, B)

theorem rxDisc_ok {B : Br} {k : Nat} (ho : B.ok) (hk : k < B.np) : (rxDisc B k).ok := ((((((ho.setB hk 35 false rfl).setB hk 37 false rfl).setB hk 38 false rfl).setB hk 36 false rfl).setI hk 6 .i64 3 rfl (by decide)).setI hk 15 .i64 0 rfl (by decide))
theorem rxRcvR_ok {B : Br} {k : Nat} (ho : B.ok) (hk : k < B.np) : (rxRcvR B k).ok := ((((((ho.setB hk 37 true rfl).setB hk 32 false rfl).setB hk 35 false rfl).setB hk 36 true rfl).setI hk 6 .i64 3 rfl (by decide)).setI hk 15 .i64 1 rfl (by decide))
theorem rxRcvS_ok {B : Br} {k : Nat} (ho : B.ok) (hk : k < B.np) : (rxRcvS B k).ok := ((((((ho.setB hk 38 true rfl).setB hk 32 false rfl).setB hk 35 false rfl).setB hk 36 true rfl).setI hk 6 .i64 3 rfl (by decide)).setI hk 15 .i64 1 rfl (by decide))
theorem rxF_np (B : Br) (k : Nat) : (rxF B k).2.np = B.np := by
  unfold rxF rxRcv
  split <;> (try split) <;> (try split) <;> rfl
theorem rxF_ok {B : Br} {k : Nat} (ho : B.ok) (hk : k < B.np) : (rxF B k).2.ok := by
  unfold rxF rxRcv
  split
  · exact rxDisc_ok ho hk
  · split
    · split
      · exact rxRcvR_ok ho hk
      · exact rxRcvS_ok ho hk
    · exact ho

theorem fn_eq (f : FuncId) (cs : Array Value) (w : World) : (binOp BinOp.eql 1 (Value.func (Fn.func f) cs #[]) Value.nilFunc).run Try.prog w = .ok (.bool false) w := by kernel_rfl
theorem fn_eq0 (w : World) : (binOp BinOp.eql 1 Value.nilFunc Value.nilFunc).run Try.prog w = .ok (.bool true) w := by kernel_rfl

set_option maxRecDepth 100000 in
set_option maxHeartbeats 1000000 in
theorem rx_discard (w : World) (g o : Nat) (u35 u37 u38 u36 u6 u15 : Value) (h35 : w.cell? ⟨g, o + 35, none⟩ = some u35) (h37 : w.cell? ⟨g, o + 37, none⟩ = some u37) (h38 : w.cell? ⟨g, o + 38, none⟩ = some u38) (h36 : w.cell? ⟨g, o + 36, none⟩ = some u36) (h6 : w.cell? ⟨g, o + 6, none⟩ = some u6) (h15 : w.cell? ⟨g, o + 15, none⟩ = some u15) (hf : ∀ j, w.frozen? ⟨g, j, none⟩ = false) (hg : g < w.heap.size) : Calls Try.prog 33 #[.agg #[.pointer (some ⟨g, o, none⟩)]] w fun e w' => e = .returned (.tuple #[]) ∧ w' = ((((((w.setCell ⟨g, o + 35, none⟩ (.bool false)).setCell ⟨g, o + 37, none⟩ (.bool false)).setCell ⟨g, o + 38, none⟩ (.bool false)).setCell ⟨g, o + 36, none⟩ (.bool false)).setCell ⟨g, o + 6, none⟩ (.int .i64 3)).setCell ⟨g, o + 15, none⟩ (.int .i64 0)).alloc (.cells #[.pointer (some ⟨g, o, none⟩)] 60) := by
  have hn1 : w.heap.size ≠ g := by omega
  have hn2 : g ≠ w.heap.size := by omega
  go_enter Try.func33, Try.ntmps33
  go_wp2
  go_end0
  exact ⟨rfl, rfl⟩

set_option maxRecDepth 100000 in
set_option maxHeartbeats 1000000 in
theorem rx_receiveR (w : World) (g o : Nat) (u37 u32 u35 u36 u6 u15 : Value) (m : Int) (hm : m = 2) (h37 : w.cell? ⟨g, o + 37, none⟩ = some u37) (h32 : w.cell? ⟨g, o + 32, none⟩ = some u32) (h35 : w.cell? ⟨g, o + 35, none⟩ = some u35) (h36 : w.cell? ⟨g, o + 36, none⟩ = some u36) (h6 : w.cell? ⟨g, o + 6, none⟩ = some u6) (h15 : w.cell? ⟨g, o + 15, none⟩ = some u15) (h51 : w.cell? ⟨g, o + 51, none⟩ = some (.int .i64 m)) (hf : ∀ j, w.frozen? ⟨g, j, none⟩ = false) (hg : g < w.heap.size) : Calls Try.prog 34 #[.agg #[.pointer (some ⟨g, o, none⟩)]] w fun e w' => e = .returned (.tuple #[]) ∧ w' = ((((((w.setCell ⟨g, o + 37, none⟩ (.bool true)).setCell ⟨g, o + 32, none⟩ (.bool false)).setCell ⟨g, o + 35, none⟩ (.bool false)).setCell ⟨g, o + 36, none⟩ (.bool true)).setCell ⟨g, o + 6, none⟩ (.int .i64 3)).setCell ⟨g, o + 15, none⟩ (.int .i64 1)).alloc (.cells #[.pointer (some ⟨g, o, none⟩)] 60) := by
  have hn1 : w.heap.size ≠ g := by omega
  have hn2 : g ≠ w.heap.size := by omega
  subst hm
  go_enter Try.func34, Try.ntmps34
  go_wp2
  go_end0
  exact ⟨rfl, rfl⟩

set_option maxRecDepth 100000 in
set_option maxHeartbeats 1000000 in
theorem rx_receiveS (w : World) (g o : Nat) (u38 u32 u35 u36 u6 u15 : Value) (m : Int) (hm : (m == 2) = false) (h38 : w.cell? ⟨g, o + 38, none⟩ = some u38) (h32 : w.cell? ⟨g, o + 32, none⟩ = some u32) (h35 : w.cell? ⟨g, o + 35, none⟩ = some u35) (h36 : w.cell? ⟨g, o + 36, none⟩ = some u36) (h6 : w.cell? ⟨g, o + 6, none⟩ = some u6) (h15 : w.cell? ⟨g, o + 15, none⟩ = some u15) (h51 : w.cell? ⟨g, o + 51, none⟩ = some (.int .i64 m)) (hf : ∀ j, w.frozen? ⟨g, j, none⟩ = false) (hg : g < w.heap.size) : Calls Try.prog 34 #[.agg #[.pointer (some ⟨g, o, none⟩)]] w fun e w' => e = .returned (.tuple #[]) ∧ w' = ((((((w.setCell ⟨g, o + 38, none⟩ (.bool true)).setCell ⟨g, o + 32, none⟩ (.bool false)).setCell ⟨g, o + 35, none⟩ (.bool false)).setCell ⟨g, o + 36, none⟩ (.bool true)).setCell ⟨g, o + 6, none⟩ (.int .i64 3)).setCell ⟨g, o + 15, none⟩ (.int .i64 1)).alloc (.cells #[.pointer (some ⟨g, o, none⟩)] 60) := by
  have hn1 : w.heap.size ≠ g := by omega
  have hn2 : g ≠ w.heap.size := by omega
  go_enter Try.func34, Try.ntmps34
  go_wp2
  go_end0
  exact ⟨rfl, rfl⟩

set_option maxRecDepth 100000 in
set_option maxHeartbeats 1000000 in
theorem rx_step0 (w : World) (F : Nat → Prop) (X g k : Nat) (B : Br) (h : BrG w F X g B) (ho : B.ok) (hk : k < B.np) (hk2 : k < 1000) (hs : rxS B k = 0) :
    Calls Try.prog 19 #[.pointer (some ⟨X, 0, none⟩), .int .i64 k] w (Stepped w F X g (false, B)) := by
  obtain ⟨hX, hg, hne⟩ := h.lt
  obtain ⟨cap, c17, hc1, hc2⟩ := h.cell17 ho
  have hr := (rx_row g (k * 89) w (B.gb k 2) (B.gb k 35) (B.gb k 36) (B.gi k 6) (B.gi k 15) (flagsOf B.ps k) ((h.cellg (i := k * 89 + 2) (lt89 hk (by decide))).trans (ho.gb hk 2 rfl)) ((h.cellg (i := k * 89 + 6) (lt89 hk (by decide))).trans (ho.gi hk 6 rfl)) ((h.cellg (i := k * 89 + 15) (lt89 hk (by decide))).trans (ho.gi hk 15 rfl))
    (h.flags hk) (flagsOf_len ho hk) (flagsOf_one ho k) ((flagsOf_at (B := B) (k := k) (j := 13) (by decide)).trans (ho.gb hk 35 rfl)) ((flagsOf_at (B := B) (k := k) (j := 14) (by decide)).trans (ho.gb hk 36 rfl)) hg)
  rw [show rxSel (B.gb k 2) (B.gb k 35) (B.gb k 36) (B.gi k 6) (B.gi k 15) = 0 from hs] at hr
  have HR := Lib.hid hr
  have H := Lib.hid h
  have HS := Lib.hid hs
  clear h hr hs
  go_enter Try.func19, Try.ntmps19
  go_wp2_with fail
  refine (asv (v' := rxFun 0 (.pointer (some ⟨g, k * 89, none⟩))) HR.out rfl).mono ?_
  rintro e w1 ⟨rfl, hx1⟩
  have H1 := Lib.hid (H.out.ext hx1)
  have HM := Lib.hid (hx1.mut F)
  clear hx1 c17 HR
  unfold rxFun
  have q0 := fn_eq0
  have q1 := fn_eq 33
  have q2 := fn_eq 34
  go_wp2_with fail
  go_ret
  exact ⟨rfl, H1.out, HM.out⟩

theorem rx_discardB (w : World) (F : Nat → Prop) (X g k : Nat) (B : Br) (h : BrG w F X g B) (ho : B.ok) (hk : k < B.np) (hk2 : k < 1000) : Calls Try.prog 33 #[.agg #[.pointer (some ⟨g, k * 89, none⟩)]] w fun e w' => e = .returned (.tuple #[]) ∧ BrG w' F X g (rxDisc B k) ∧ Mut F w w' := by
  refine (rx_discard w g (k * 89) _ _ _ _ _ _  ((h.cellg (i := k * 89 + 35) (lt89 hk (by decide))).trans (ho.gb hk 35 rfl)) ((h.cellg (i := k * 89 + 37) (lt89 hk (by decide))).trans (ho.gb hk 37 rfl)) ((h.cellg (i := k * 89 + 38) (lt89 hk (by decide))).trans (ho.gb hk 38 rfl)) ((h.cellg (i := k * 89 + 36) (lt89 hk (by decide))).trans (ho.gb hk 36 rfl)) ((h.cellg (i := k * 89 + 6) (lt89 hk (by decide))).trans (ho.gi hk 6 rfl)) ((h.cellg (i := k * 89 + 15) (lt89 hk (by decide))).trans (ho.gi hk 15 rfl)) h.frozen h.lt.2.1).mono ?_
  rintro e w' ⟨rfl, rfl⟩
  exact ⟨rfl, ((((((h.setp (j := 35) hk (by decide) (.bool false)).setp (j := 37) hk (by decide) (.bool false)).setp (j := 38) hk (by decide) (.bool false)).setp (j := 36) hk (by decide) (.bool false)).setp (j := 6) hk (by decide) (.int .i64 3)).setp (j := 15) hk (by decide) (.int .i64 0)).alloc _, (((((((Mut.refl F w).setCell (.inl h.F2) _).setCell (.inl h.F2) _).setCell (.inl h.F2) _).setCell (.inl h.F2) _).setCell (.inl h.F2) _).setCell (.inl h.F2) _).alloc _⟩

theorem rx_receiveRB (w : World) (F : Nat → Prop) (X g k : Nat) (B : Br) (h : BrG w F X g B) (ho : B.ok) (hk : k < B.np) (hk2 : k < 1000) (hm : B.gi k 51 = 2) : Calls Try.prog 34 #[.agg #[.pointer (some ⟨g, k * 89, none⟩)]] w fun e w' => e = .returned (.tuple #[]) ∧ BrG w' F X g (rxRcvR B k) ∧ Mut F w w' := by
  refine (rx_receiveR w g (k * 89) _ _ _ _ _ _ _ hm ((h.cellg (i := k * 89 + 37) (lt89 hk (by decide))).trans (ho.gb hk 37 rfl)) ((h.cellg (i := k * 89 + 32) (lt89 hk (by decide))).trans (ho.gb hk 32 rfl)) ((h.cellg (i := k * 89 + 35) (lt89 hk (by decide))).trans (ho.gb hk 35 rfl)) ((h.cellg (i := k * 89 + 36) (lt89 hk (by decide))).trans (ho.gb hk 36 rfl)) ((h.cellg (i := k * 89 + 6) (lt89 hk (by decide))).trans (ho.gi hk 6 rfl)) ((h.cellg (i := k * 89 + 15) (lt89 hk (by decide))).trans (ho.gi hk 15 rfl)) ((h.cellg (i := k * 89 + 51) (lt89 hk (by decide))).trans (ho.gi hk 51 rfl)) h.frozen h.lt.2.1).mono ?_
  rintro e w' ⟨rfl, rfl⟩
  exact ⟨rfl, ((((((h.setp (j := 37) hk (by decide) (.bool true)).setp (j := 32) hk (by decide) (.bool false)).setp (j := 35) hk (by decide) (.bool false)).setp (j := 36) hk (by decide) (.bool true)).setp (j := 6) hk (by decide) (.int .i64 3)).setp (j := 15) hk (by decide) (.int .i64 1)).alloc _, (((((((Mut.refl F w).setCell (.inl h.F2) _).setCell (.inl h.F2) _).setCell (.inl h.F2) _).setCell (.inl h.F2) _).setCell (.inl h.F2) _).setCell (.inl h.F2) _).alloc _⟩

theorem rx_receiveSB (w : World) (F : Nat → Prop) (X g k : Nat) (B : Br) (h : BrG w F X g B) (ho : B.ok) (hk : k < B.np) (hk2 : k < 1000) (hm : (B.gi k 51 == 2) = false) : Calls Try.prog 34 #[.agg #[.pointer (some ⟨g, k * 89, none⟩)]] w fun e w' => e = .returned (.tuple #[]) ∧ BrG w' F X g (rxRcvS B k) ∧ Mut F w w' := by
  refine (rx_receiveS w g (k * 89) _ _ _ _ _ _ _ hm ((h.cellg (i := k * 89 + 38) (lt89 hk (by decide))).trans (ho.gb hk 38 rfl)) ((h.cellg (i := k * 89 + 32) (lt89 hk (by decide))).trans (ho.gb hk 32 rfl)) ((h.cellg (i := k * 89 + 35) (lt89 hk (by decide))).trans (ho.gb hk 35 rfl)) ((h.cellg (i := k * 89 + 36) (lt89 hk (by decide))).trans (ho.gb hk 36 rfl)) ((h.cellg (i := k * 89 + 6) (lt89 hk (by decide))).trans (ho.gi hk 6 rfl)) ((h.cellg (i := k * 89 + 15) (lt89 hk (by decide))).trans (ho.gi hk 15 rfl)) ((h.cellg (i := k * 89 + 51) (lt89 hk (by decide))).trans (ho.gi hk 51 rfl)) h.frozen h.lt.2.1).mono ?_
  rintro e w' ⟨rfl, rfl⟩
  exact ⟨rfl, ((((((h.setp (j := 38) hk (by decide) (.bool true)).setp (j := 32) hk (by decide) (.bool false)).setp (j := 35) hk (by decide) (.bool false)).setp (j := 36) hk (by decide) (.bool true)).setp (j := 6) hk (by decide) (.int .i64 3)).setp (j := 15) hk (by decide) (.int .i64 1)).alloc _, (((((((Mut.refl F w).setCell (.inl h.F2) _).setCell (.inl h.F2) _).setCell (.inl h.F2) _).setCell (.inl h.F2) _).setCell (.inl h.F2) _).setCell (.inl h.F2) _).alloc _⟩

set_option maxRecDepth 100000 in
set_option maxHeartbeats 1000000 in
theorem rx_step1 (w : World) (F : Nat → Prop) (X g k : Nat) (B : Br) (h : BrG w F X g B) (ho : B.ok) (hk : k < B.np) (hk2 : k < 1000) (hs : rxS B k = 1) :
    Calls Try.prog 19 #[.pointer (some ⟨X, 0, none⟩), .int .i64 k] w (Stepped w F X g (true, rxDisc B k)) := by
  obtain ⟨hX, hg, hne⟩ := h.lt
  obtain ⟨cap, c17, hc1, hc2⟩ := h.cell17 ho
  have hr := (rx_row g (k * 89) w (B.gb k 2) (B.gb k 35) (B.gb k 36) (B.gi k 6) (B.gi k 15) (flagsOf B.ps k) ((h.cellg (i := k * 89 + 2) (lt89 hk (by decide))).trans (ho.gb hk 2 rfl)) ((h.cellg (i := k * 89 + 6) (lt89 hk (by decide))).trans (ho.gi hk 6 rfl)) ((h.cellg (i := k * 89 + 15) (lt89 hk (by decide))).trans (ho.gi hk 15 rfl))
    (h.flags hk) (flagsOf_len ho hk) (flagsOf_one ho k) ((flagsOf_at (B := B) (k := k) (j := 13) (by decide)).trans (ho.gb hk 35 rfl)) ((flagsOf_at (B := B) (k := k) (j := 14) (by decide)).trans (ho.gb hk 36 rfl)) hg)
  rw [show rxSel (B.gb k 2) (B.gb k 35) (B.gb k 36) (B.gi k 6) (B.gi k 15) = 1 from hs] at hr
  have HR := Lib.hid hr
  have H := Lib.hid h
  have HS := Lib.hid hs
  clear h hr hs
  go_enter Try.func19, Try.ntmps19
  go_wp2_with fail
  refine (asv (v' := rxFun 1 (.pointer (some ⟨g, k * 89, none⟩))) HR.out rfl).mono ?_
  rintro e w1 ⟨rfl, hx1⟩
  have H1 := Lib.hid (H.out.ext hx1)
  have HM := Lib.hid (hx1.mut F)
  clear hx1 c17 HR
  unfold rxFun
  have q0 := fn_eq0
  have q1 := fn_eq 33
  have q2 := fn_eq 34
  go_wp2_with fail
  refine (rx_discardB w1 F X g k B H1.out ho hk hk2).mono ?_
  rintro e w2 ⟨rfl, hB, hm⟩
  have HB := Lib.hid hB
  have HQ := Lib.hid (HM.out.trans hm)
  clear hB hm
  go_wp2_with fail
  go_ret
  exact ⟨rfl, HB.out, HQ.out⟩

set_option maxRecDepth 100000 in
set_option maxHeartbeats 1000000 in
theorem rx_step2 (w : World) (F : Nat → Prop) (X g k : Nat) (B : Br) (h : BrG w F X g B) (ho : B.ok) (hk : k < B.np) (hk2 : k < 1000) (hs : rxS B k = 2) :
    Calls Try.prog 19 #[.pointer (some ⟨X, 0, none⟩), .int .i64 k] w (Stepped w F X g (true, rxRcv B k)) := by
  obtain ⟨hX, hg, hne⟩ := h.lt
  obtain ⟨cap, c17, hc1, hc2⟩ := h.cell17 ho
  have hr := (rx_row g (k * 89) w (B.gb k 2) (B.gb k 35) (B.gb k 36) (B.gi k 6) (B.gi k 15) (flagsOf B.ps k) ((h.cellg (i := k * 89 + 2) (lt89 hk (by decide))).trans (ho.gb hk 2 rfl)) ((h.cellg (i := k * 89 + 6) (lt89 hk (by decide))).trans (ho.gi hk 6 rfl)) ((h.cellg (i := k * 89 + 15) (lt89 hk (by decide))).trans (ho.gi hk 15 rfl))
    (h.flags hk) (flagsOf_len ho hk) (flagsOf_one ho k) ((flagsOf_at (B := B) (k := k) (j := 13) (by decide)).trans (ho.gb hk 35 rfl)) ((flagsOf_at (B := B) (k := k) (j := 14) (by decide)).trans (ho.gb hk 36 rfl)) hg)
  rw [show rxSel (B.gb k 2) (B.gb k 35) (B.gb k 36) (B.gi k 6) (B.gi k 15) = 2 from hs] at hr
  have HR := Lib.hid hr
  have H := Lib.hid h
  have HS := Lib.hid hs
  clear h hr hs
  go_enter Try.func19, Try.ntmps19
  go_wp2_with fail
  refine (asv (v' := rxFun 2 (.pointer (some ⟨g, k * 89, none⟩))) HR.out rfl).mono ?_
  rintro e w1 ⟨rfl, hx1⟩
  have H1 := Lib.hid (H.out.ext hx1)
  have HM := Lib.hid (hx1.mut F)
  clear hx1 c17 HR
  unfold rxFun
  have q0 := fn_eq0
  have q1 := fn_eq 33
  have q2 := fn_eq 34
  go_wp2_with fail
  have hc : Calls Try.prog 34 #[.agg #[.pointer (some ⟨g, k * 89, none⟩)]] w1 fun e w' => e = .returned (.tuple #[]) ∧ BrG w' F X g (rxRcv B k) ∧ Mut F w1 w' := by
    unfold rxRcv
    by_cases hm : B.gi k 51 = 2
    · rw [if_pos hm]
      exact rx_receiveRB w1 F X g k B H1.out ho hk hk2 hm
    · rw [if_neg hm]
      exact rx_receiveSB w1 F X g k B H1.out ho hk hk2 (by simpa using hm)
  refine hc.mono ?_
  rintro e w2 ⟨rfl, hB, hm⟩
  have HB := Lib.hid hB
  have HQ := Lib.hid (HM.out.trans hm)
  clear hB hm hc
  go_wp2_with fail
  go_ret
  exact ⟨rfl, HB.out, HQ.out⟩

theorem rx_step (w : World) (F : Nat → Prop) (X g k : Nat) (B : Br) (h : BrG w F X g B) (ho : B.ok) (hk : k < B.np) (hk2 : k < 1000) :
    Calls Try.prog 19 #[.pointer (some ⟨X, 0, none⟩), .int .i64 k] w (Stepped w F X g (rxF B k)) := by
  have h3 : rxS B k = 0 ∨ rxS B k = 1 ∨ rxS B k = 2 := by
    unfold rxS rxSel
    split <;> (try split) <;> (try split) <;> simp
  unfold rxF
  rcases h3 with hs | hs | hs
  · rw [if_neg (by omega), if_neg (by omega)]
    exact rx_step0 w F X g k B h ho hk hk2 hs
  · rw [if_pos hs]
    exact rx_step1 w F X g k B h ho hk hk2 hs
  · rw [if_neg (by omega), if_pos hs]
    exact rx_step2 w F X g k B h ho hk hk2 hs

end Go.Proofs.Ytpieamfpgfabgaa
