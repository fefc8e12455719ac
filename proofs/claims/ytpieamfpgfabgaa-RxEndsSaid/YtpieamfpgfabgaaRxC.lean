/- The receive machine: a message taken in. No statement is proved here. -/
import Derived.Test.YtpieamfpgfabgaaRxB
import Derived.StillTailTactics
namespace Go.Proofs.Ytpieamfpgfabgaa
open Go.RowKit Go.BigFrame Go.WideShapes Go.ChangeShapes Go.Deep
set_option linter.unusedVariables false

theorem BrG.thereAt {w : World} {F : Nat → Prop} {X g : Nat} {B : Br} (h : BrG w F X g B) {k j n : Nat} (hk : k < B.np) (hj : j + n ≤ 89) : w.there g (k * 89 + j) n := fun i hi => by
  have := h.there hk (j + i) (by omega)
  rw [show k * 89 + (j + i) = k * 89 + j + i by omega] at this
  exact this
theorem wpList_store_midN {P : Program} {ops : Array Oper} {rest : List Oper} {op : Oper} {a : Act} {w : World} {Q : Exit → Act → World → Prop} (hgd : op.guard = none) (hdst : op.dst = none) (ty : TypeId) (x y : Operand) (ho : op.op = .store ty x y)
    (b o : Nat) (cells : Array Value) (hx : a.eval x = .pointer (some ⟨b, o, none⟩)) (hy : a.eval y = .agg cells) (ht : w.there b o cells.size) (hi : (P.info? ty).map (·.size) = some cells.size) (h1 : cells.all (·.oneCell') = true)
    (h : ∀ w' : World, w' = w.setCells b o cells.toList → wpList P ops Q rest a w') : wpList P ops Q (op :: rest) a w :=
  wpList_store_mid hgd ty x y ho b o cells hx hy ht hi h1 (by rw [show a.put op.dst undef = a by rw [hdst]; rfl]; exact h _ rfl)

def mi (l : List Value) (j : Nat) : Int := match l[j]? with | some (.int _ z) => z | _ => 0
def mb (l : List Value) (j : Nat) : Bool := match l[j]? with | some (.bool z) => z | _ => false
theorem Typed.gi {L : List (Option IntKind)} {l : List Value} (h : Typed L l) (j : Nat) {K : IntKind} (hj : L[j]? = some (some K)) : l[j]? = some (.int K (mi l j)) := by
  obtain ⟨z, hv, _⟩ := h.int j K hj
  rw [hv, mi, hv]
theorem Typed.gw {L : List (Option IntKind)} {l : List Value} (h : Typed L l) (j : Nat) {K : IntKind} (hj : L[j]? = some (some K)) : (Lit.int K (mi l j)).wf = true := by
  obtain ⟨z, hv, hz⟩ := h.int j K hj
  rw [mi, hv]
  exact hz
theorem Typed.gb {L : List (Option IntKind)} {l : List Value} (h : Typed L l) (j : Nat) (hj : L[j]? = some none) : l[j]? = some (.bool (mb l j)) := by
  obtain ⟨z, hv⟩ := h.bool j hj
  rw [hv, mb, hv]
theorem PL_msg (i : Nat) (hi : i < 17) : PL[51 + i]? = ML[i]? := by
  match i, hi with
  | 0, _ => exact rfl
  | 1, _ => exact rfl
  | 2, _ => exact rfl
  | 3, _ => exact rfl
  | 4, _ => exact rfl
  | 5, _ => exact rfl
  | 6, _ => exact rfl
  | 7, _ => exact rfl
  | 8, _ => exact rfl
  | 9, _ => exact rfl
  | 10, _ => exact rfl
  | 11, _ => exact rfl
  | 12, _ => exact rfl
  | 13, _ => exact rfl
  | 14, _ => exact rfl
  | 15, _ => exact rfl
  | 16, _ => exact rfl
  | n + 17, h => exact absurd h (by omega)
def rxTook (B : Br) (k : Nat) (m : List Value) : Br := (B.setr k 51 m).setp k 35 (.bool true)
/-- What becomes of a message. -/
def takeF (B : Br) (i : Int) (m : List Value) : Bool × Br :=
  if 0 ≤ i ∧ i.toNat < B.np then if (!B.gb i.toNat 2 || B.gb i.toNat 35 || ((mi m 0 == 2) && !B.hb 1)) = true then (false, B) else (true, rxTook B i.toNat m) else (false, B)
theorem rxMsg_ok {B : Br} (ho : B.ok) {k : Nat} (hk : k < B.np) {m : List Value} (hm : Typed ML m) : (B.setr k 51 m).ok := by
  have hz : m.length = 17 := hm.1
  refine ho.setr hk (by omega) (fun i v hv c hc => ?_)
  have hi : i < 17 := by
    have := (List.getElem?_eq_some_iff.1 hv).1
    omega
  rw [PL_msg i hi] at hc
  obtain ⟨u, hu, hcu⟩ := hm.2 i c hc
  rw [hv] at hu
  cases hu
  exact hcu
theorem rxTook_ok {B : Br} (ho : B.ok) {k : Nat} (hk : k < B.np) {m : List Value} (hm : Typed ML m) : (rxTook B k m).ok :=
  (rxMsg_ok ho hk hm).setB (k := k) hk 35 true rfl
theorem takeF_ok {B : Br} (ho : B.ok) (i : Int) {m : List Value} (hm : Typed ML m) : (takeF B i m).2.ok := by
  unfold takeF
  split
  · rename_i hi
    split
    · exact ho
    · exact rxTook_ok ho hi.2 hm
  · exact ho
theorem takeF_np (B : Br) (i : Int) (m : List Value) : (takeF B i m).2.np = B.np := by
  unfold takeF
  split
  · split <;> rfl
  · rfl

set_option maxRecDepth 100000 in
set_option maxHeartbeats 1000000 in
theorem rxt_lo (w : World) (F : Nat → Prop) (X g : Nat) (B : Br) (h : BrG w F X g B) (ho : B.ok) (m : List Value) (hm : Typed ML m) (i : Int) (hi : i < 0) : Calls Try.prog 15 #[.pointer (some ⟨X, 0, none⟩), .int .i64 i, .agg m.toArray] w (Stepped w F X g (false, B)) := by
  obtain ⟨hX, hg, hne⟩ := h.lt
  obtain ⟨cap, c17, hc1, hc2⟩ := h.cell17 ho
  have H := Lib.hid h
  clear h
  go_enter Try.func15, Try.ntmps15
  go_wp2
  go_ret
  exact ⟨rfl, H.out.alloc _, (Mut.refl F w).alloc _⟩

set_option maxRecDepth 100000 in
set_option maxHeartbeats 1000000 in
theorem rxt_hi (w : World) (F : Nat → Prop) (X g : Nat) (B : Br) (h : BrG w F X g B) (ho : B.ok) (m : List Value) (hm : Typed ML m) (i : Int) (hi0 : 0 ≤ i) (hi : ((B.np : Nat) : Int) ≤ i) : Calls Try.prog 15 #[.pointer (some ⟨X, 0, none⟩), .int .i64 i, .agg m.toArray] w (Stepped w F X g (false, B)) := by
  obtain ⟨hX, hg, hne⟩ := h.lt
  obtain ⟨cap, c17, hc1, hc2⟩ := h.cell17 ho
  have H := Lib.hid h
  clear h
  go_enter Try.func15, Try.ntmps15
  go_wp2
  go_ret
  exact ⟨rfl, H.out.alloc _, (Mut.refl F w).alloc _⟩

set_option maxRecDepth 100000 in
set_option maxHeartbeats 1000000 in
theorem rxt_a (w : World) (F : Nat → Prop) (X g : Nat) (B : Br) (h : BrG w F X g B) (ho : B.ok) (m : List Value) (hm : Typed ML m) (k : Nat) (hk : k < B.np) (hk2 : k < 1000) (e2 : B.gb k 2 = false) : Calls Try.prog 15 #[.pointer (some ⟨X, 0, none⟩), .int .i64 k, .agg m.toArray] w (Stepped w F X g (false, B)) := by
  obtain ⟨hX, hg, hne⟩ := h.lt
  obtain ⟨cap, c17, hc1, hc2⟩ := h.cell17 ho
  have p2 := (h.cellg (i := k * 89 + 2) (lt89 hk (by decide))).trans (ho.gb hk 2 rfl)
  have p35 := (h.cellg (i := k * 89 + 35) (lt89 hk (by decide))).trans (ho.gb hk 35 rfl)
  have q1 := (h.cellX ho (i := 1) (by omega)).trans (ho.hb 1 rfl)
  have m0 := hm.gi 0 rfl
  rw [e2] at p2
  have hf := h.frozen
  have H := Lib.hid h
  have HTM := Lib.hid hm
  have hmn := Lib.hid (show m.length = 17 from hm.1)
  have hmi := Lib.hid (show (Try.prog.info? 35).map (·.size) = some m.toArray.size by rw [List.size_toArray, hmn.out]; exact size_msg)
  have hmo := Lib.hid (all_oneCell_toArray hm.one)
  clear h hm e2
  go_enter Try.func15, Try.ntmps15
  go_wp2_with (first | fail | ((with_reducible refine at_load 35 ?_); refine wpList_load_row rfl 35 _ rfl _ rfl 35 m.toArray (0, 0) _ (heap_alloc_new _ _) Try.underlying35 rfl hmi.out ?_))
  go_ret
  exact ⟨rfl, H.out.alloc _, (Mut.refl F w).alloc _⟩

set_option maxRecDepth 100000 in
set_option maxHeartbeats 1000000 in
theorem rxt_b (w : World) (F : Nat → Prop) (X g : Nat) (B : Br) (h : BrG w F X g B) (ho : B.ok) (m : List Value) (hm : Typed ML m) (k : Nat) (hk : k < B.np) (hk2 : k < 1000) (e2 : B.gb k 2 = true) (e35 : B.gb k 35 = true) : Calls Try.prog 15 #[.pointer (some ⟨X, 0, none⟩), .int .i64 k, .agg m.toArray] w (Stepped w F X g (false, B)) := by
  obtain ⟨hX, hg, hne⟩ := h.lt
  obtain ⟨cap, c17, hc1, hc2⟩ := h.cell17 ho
  have p2 := (h.cellg (i := k * 89 + 2) (lt89 hk (by decide))).trans (ho.gb hk 2 rfl)
  have p35 := (h.cellg (i := k * 89 + 35) (lt89 hk (by decide))).trans (ho.gb hk 35 rfl)
  have q1 := (h.cellX ho (i := 1) (by omega)).trans (ho.hb 1 rfl)
  have m0 := hm.gi 0 rfl
  rw [e2] at p2
  rw [e35] at p35
  have hf := h.frozen
  have H := Lib.hid h
  have HTM := Lib.hid hm
  have hmn := Lib.hid (show m.length = 17 from hm.1)
  have hmi := Lib.hid (show (Try.prog.info? 35).map (·.size) = some m.toArray.size by rw [List.size_toArray, hmn.out]; exact size_msg)
  have hmo := Lib.hid (all_oneCell_toArray hm.one)
  clear h hm e2 e35
  go_enter Try.func15, Try.ntmps15
  go_wp2_with (first | fail | ((with_reducible refine at_load 35 ?_); refine wpList_load_row rfl 35 _ rfl _ rfl 35 m.toArray (0, 0) _ (heap_alloc_new _ _) Try.underlying35 rfl hmi.out ?_))
  go_ret
  exact ⟨rfl, H.out.alloc _, (Mut.refl F w).alloc _⟩

set_option maxRecDepth 100000 in
set_option maxHeartbeats 1000000 in
theorem rxt_c (w : World) (F : Nat → Prop) (X g : Nat) (B : Br) (h : BrG w F X g B) (ho : B.ok) (m : List Value) (hm : Typed ML m) (k : Nat) (hk : k < B.np) (hk2 : k < 1000) (e2 : B.gb k 2 = true) (e35 : B.gb k 35 = false) (em : mi m 0 = 2) (er : B.hb 1 = false) : Calls Try.prog 15 #[.pointer (some ⟨X, 0, none⟩), .int .i64 k, .agg m.toArray] w (Stepped w F X g (false, B)) := by
  obtain ⟨hX, hg, hne⟩ := h.lt
  obtain ⟨cap, c17, hc1, hc2⟩ := h.cell17 ho
  have p2 := (h.cellg (i := k * 89 + 2) (lt89 hk (by decide))).trans (ho.gb hk 2 rfl)
  have p35 := (h.cellg (i := k * 89 + 35) (lt89 hk (by decide))).trans (ho.gb hk 35 rfl)
  have q1 := (h.cellX ho (i := 1) (by omega)).trans (ho.hb 1 rfl)
  have m0 := hm.gi 0 rfl
  rw [e2] at p2
  rw [e35] at p35
  rw [em] at m0
  rw [er] at q1
  have hf := h.frozen
  have H := Lib.hid h
  have HTM := Lib.hid hm
  have hmn := Lib.hid (show m.length = 17 from hm.1)
  have hmi := Lib.hid (show (Try.prog.info? 35).map (·.size) = some m.toArray.size by rw [List.size_toArray, hmn.out]; exact size_msg)
  have hmo := Lib.hid (all_oneCell_toArray hm.one)
  clear h hm e2 e35 em er
  go_enter Try.func15, Try.ntmps15
  go_wp2_with (first | fail | ((with_reducible refine at_load 35 ?_); refine wpList_load_row rfl 35 _ rfl _ rfl 35 m.toArray (0, 0) _ (heap_alloc_new _ _) Try.underlying35 rfl hmi.out ?_))
  go_ret
  exact ⟨rfl, H.out.alloc _, (Mut.refl F w).alloc _⟩

set_option maxRecDepth 100000 in
set_option maxHeartbeats 1000000 in
theorem rxt_d (w : World) (F : Nat → Prop) (X g : Nat) (B : Br) (h : BrG w F X g B) (ho : B.ok) (m : List Value) (hm : Typed ML m) (k : Nat) (hk : k < B.np) (hk2 : k < 1000) (e2 : B.gb k 2 = true) (e35 : B.gb k 35 = false) (em : (mi m 0 == 2) = false) : Calls Try.prog 15 #[.pointer (some ⟨X, 0, none⟩), .int .i64 k, .agg m.toArray] w (Stepped w F X g (true, rxTook B k m)) := by
  obtain ⟨hX, hg, hne⟩ := h.lt
  obtain ⟨cap, c17, hc1, hc2⟩ := h.cell17 ho
  have p2 := (h.cellg (i := k * 89 + 2) (lt89 hk (by decide))).trans (ho.gb hk 2 rfl)
  have p35 := (h.cellg (i := k * 89 + 35) (lt89 hk (by decide))).trans (ho.gb hk 35 rfl)
  have q1 := (h.cellX ho (i := 1) (by omega)).trans (ho.hb 1 rfl)
  have m0 := hm.gi 0 rfl
  rw [e2] at p2
  rw [e35] at p35
  have hf := h.frozen
  have H := Lib.hid h
  have HTM := Lib.hid hm
  have hmn := Lib.hid (show m.length = 17 from hm.1)
  have hmi := Lib.hid (show (Try.prog.info? 35).map (·.size) = some m.toArray.size by rw [List.size_toArray, hmn.out]; exact size_msg)
  have hmo := Lib.hid (all_oneCell_toArray hm.one)
  clear h hm e2 e35
  go_enter Try.func15, Try.ntmps15
  go_wp2_with (first | fail | ((with_reducible refine at_load 35 ?_); refine wpList_load_row rfl 35 _ rfl _ rfl 35 m.toArray (0, 0) _ (heap_alloc_new _ _) Try.underlying35 rfl hmi.out ?_) | ((with_reducible refine at_store 35 ?_); refine wpList_store_midN rfl rfl 35 _ _ rfl g (k * 89 + 51) m.toArray rfl rfl (by rw [List.size_toArray]; exact ((H.out.alloc _).thereAt hk (by rw [hmn.out]; decide))) hmi.out hmo.out ?_; intro w5 hw5; have hB5 : BrG w5 F X g (B.setr k 51 m) := (by rw [hw5]; exact (H.out.alloc _).setr hk (j := 51) (by rw [hmn.out]; decide)); have hM5 : Mut F w w5 := (by rw [hw5]; exact Mut.setCells (.inl H.out.F2) _ _ ((Mut.refl F w).alloc _)); have HB5 := Lib.hid hB5; have HM5 := Lib.hid hM5; have p35x := (HB5.out.cellg (i := k * 89 + 35) (lt89 (N := B.np) hk (by decide))).trans ((rxMsg_ok ho hk HTM.out).gb (k := k) hk 35 rfl); have hf5 := HB5.out.frozen; obtain ⟨cap5, c17x, hc5, hd5⟩ := HB5.out.cell17 (rxMsg_ok ho hk HTM.out); simp only [np_setr] at c17x hc5; clear hw5 hB5 hM5 p2 p35 q1 c17 hf))
  go_ret
  exact ⟨rfl, HB5.out.setp (k := k) (j := 35) hk (by decide) _, HM5.out.setCell (.inl HB5.out.F2) _⟩

set_option maxRecDepth 100000 in
set_option maxHeartbeats 1000000 in
theorem rxt_e (w : World) (F : Nat → Prop) (X g : Nat) (B : Br) (h : BrG w F X g B) (ho : B.ok) (m : List Value) (hm : Typed ML m) (k : Nat) (hk : k < B.np) (hk2 : k < 1000) (e2 : B.gb k 2 = true) (e35 : B.gb k 35 = false) (em : mi m 0 = 2) (er : B.hb 1 = true) : Calls Try.prog 15 #[.pointer (some ⟨X, 0, none⟩), .int .i64 k, .agg m.toArray] w (Stepped w F X g (true, rxTook B k m)) := by
  obtain ⟨hX, hg, hne⟩ := h.lt
  obtain ⟨cap, c17, hc1, hc2⟩ := h.cell17 ho
  have p2 := (h.cellg (i := k * 89 + 2) (lt89 hk (by decide))).trans (ho.gb hk 2 rfl)
  have p35 := (h.cellg (i := k * 89 + 35) (lt89 hk (by decide))).trans (ho.gb hk 35 rfl)
  have q1 := (h.cellX ho (i := 1) (by omega)).trans (ho.hb 1 rfl)
  have m0 := hm.gi 0 rfl
  rw [e2] at p2
  rw [e35] at p35
  rw [em] at m0
  rw [er] at q1
  have hf := h.frozen
  have H := Lib.hid h
  have HTM := Lib.hid hm
  have hmn := Lib.hid (show m.length = 17 from hm.1)
  have hmi := Lib.hid (show (Try.prog.info? 35).map (·.size) = some m.toArray.size by rw [List.size_toArray, hmn.out]; exact size_msg)
  have hmo := Lib.hid (all_oneCell_toArray hm.one)
  clear h hm e2 e35 em er
  go_enter Try.func15, Try.ntmps15
  go_wp2_with (first | fail | ((with_reducible refine at_load 35 ?_); refine wpList_load_row rfl 35 _ rfl _ rfl 35 m.toArray (0, 0) _ (heap_alloc_new _ _) Try.underlying35 rfl hmi.out ?_) | ((with_reducible refine at_store 35 ?_); refine wpList_store_midN rfl rfl 35 _ _ rfl g (k * 89 + 51) m.toArray rfl rfl (by rw [List.size_toArray]; exact ((H.out.alloc _).thereAt hk (by rw [hmn.out]; decide))) hmi.out hmo.out ?_; intro w5 hw5; have hB5 : BrG w5 F X g (B.setr k 51 m) := (by rw [hw5]; exact (H.out.alloc _).setr hk (j := 51) (by rw [hmn.out]; decide)); have hM5 : Mut F w w5 := (by rw [hw5]; exact Mut.setCells (.inl H.out.F2) _ _ ((Mut.refl F w).alloc _)); have HB5 := Lib.hid hB5; have HM5 := Lib.hid hM5; have p35x := (HB5.out.cellg (i := k * 89 + 35) (lt89 (N := B.np) hk (by decide))).trans ((rxMsg_ok ho hk HTM.out).gb (k := k) hk 35 rfl); have hf5 := HB5.out.frozen; obtain ⟨cap5, c17x, hc5, hd5⟩ := HB5.out.cell17 (rxMsg_ok ho hk HTM.out); simp only [np_setr] at c17x hc5; clear hw5 hB5 hM5 p2 p35 q1 c17 hf))
  go_ret
  exact ⟨rfl, HB5.out.setp (k := k) (j := 35) hk (by decide) _, HM5.out.setCell (.inl HB5.out.F2) _⟩

theorem rxt_take (w : World) (F : Nat → Prop) (X g : Nat) (B : Br) (h : BrG w F X g B) (ho : B.ok) (m : List Value) (hm : Typed ML m) (hn : B.np < 1000) (i : Int) : Calls Try.prog 15 #[.pointer (some ⟨X, 0, none⟩), .int .i64 i, .agg m.toArray] w (Stepped w F X g (takeF B i m)) := by
  unfold takeF
  by_cases h0 : 0 ≤ i
  · obtain ⟨k, rfl⟩ : ∃ k : Nat, i = k := ⟨i.toNat, by omega⟩
    by_cases hk : k < B.np
    · rw [if_pos ⟨h0, by simpa using hk⟩]
      simp only [Int.toNat_natCast]
      cases e2 : B.gb k 2
      · simpa using rxt_a w F X g B h ho m hm k hk (by omega) e2
      · cases e35 : B.gb k 35
        · cases em : (mi m 0 == 2)
          · simpa using rxt_d w F X g B h ho m hm k hk (by omega) e2 e35 em
          · cases er : B.hb 1
            · simpa using rxt_c w F X g B h ho m hm k hk (by omega) e2 e35 (by simpa using em) er
            · simpa using rxt_e w F X g B h ho m hm k hk (by omega) e2 e35 (by simpa using em) er
        · simpa using rxt_b w F X g B h ho m hm k hk (by omega) e2 e35
    · rw [if_neg (fun h => hk (by simpa using h.2))]
      exact rxt_hi w F X g B h ho m hm k h0 (by omega)
  · rw [if_neg (fun h => h0 h.1)]
    exact rxt_lo w F X g B h ho m hm i (by omega)

set_option maxRecDepth 100000 in
set_option maxHeartbeats 1000000 in
theorem rxd_lo (w : World) (F : Nat → Prop) (X g : Nat) (B : Br) (h : BrG w F X g B) (ho : B.ok) (m : List Value) (hm : Typed ML m) (i : Int) (hi : i < 0) : Calls Try.prog 16 #[.pointer (some ⟨X, 0, none⟩), .int .i64 i, .agg m.toArray] w (Stepped w F X g (false, B)) := by
  obtain ⟨hX, hg, hne⟩ := h.lt
  obtain ⟨cap, c17, hc1, hc2⟩ := h.cell17 ho
  have H := Lib.hid h
  clear h
  go_enter Try.func16, Try.ntmps16
  go_wp2
  go_ret
  exact ⟨rfl, H.out.alloc _, (Mut.refl F w).alloc _⟩

set_option maxRecDepth 100000 in
set_option maxHeartbeats 1000000 in
theorem rxd_hi (w : World) (F : Nat → Prop) (X g : Nat) (B : Br) (h : BrG w F X g B) (ho : B.ok) (m : List Value) (hm : Typed ML m) (i : Int) (hi0 : 0 ≤ i) (hi : ((B.np : Nat) : Int) ≤ i) : Calls Try.prog 16 #[.pointer (some ⟨X, 0, none⟩), .int .i64 i, .agg m.toArray] w (Stepped w F X g (false, B)) := by
  obtain ⟨hX, hg, hne⟩ := h.lt
  obtain ⟨cap, c17, hc1, hc2⟩ := h.cell17 ho
  have H := Lib.hid h
  clear h
  go_enter Try.func16, Try.ntmps16
  go_wp2
  go_ret
  exact ⟨rfl, H.out.alloc _, (Mut.refl F w).alloc _⟩

set_option maxRecDepth 100000 in
set_option maxHeartbeats 1000000 in
theorem rxd_a (w : World) (F : Nat → Prop) (X g : Nat) (B : Br) (h : BrG w F X g B) (ho : B.ok) (m : List Value) (hm : Typed ML m) (k : Nat) (hk : k < B.np) (hk2 : k < 1000) (e2 : B.gb k 2 = false) : Calls Try.prog 16 #[.pointer (some ⟨X, 0, none⟩), .int .i64 k, .agg m.toArray] w (Stepped w F X g (false, B)) := by
  obtain ⟨hX, hg, hne⟩ := h.lt
  obtain ⟨cap, c17, hc1, hc2⟩ := h.cell17 ho
  have p2 := (h.cellg (i := k * 89 + 2) (lt89 hk (by decide))).trans (ho.gb hk 2 rfl)
  have p35 := (h.cellg (i := k * 89 + 35) (lt89 hk (by decide))).trans (ho.gb hk 35 rfl)
  have q1 := (h.cellX ho (i := 1) (by omega)).trans (ho.hb 1 rfl)
  have m0 := hm.gi 0 rfl
  rw [e2] at p2
  have hf := h.frozen
  have H := Lib.hid h
  have HTM := Lib.hid hm
  have hmn := Lib.hid (show m.length = 17 from hm.1)
  have hmi := Lib.hid (show (Try.prog.info? 35).map (·.size) = some m.toArray.size by rw [List.size_toArray, hmn.out]; exact size_msg)
  have hmo := Lib.hid (all_oneCell_toArray hm.one)
  clear h hm e2
  go_enter Try.func16, Try.ntmps16
  go_wp2_with (first | fail | ((with_reducible refine at_load 35 ?_); refine wpList_load_row rfl 35 _ rfl _ rfl 35 m.toArray (0, 0) _ (heap_alloc_new _ _) Try.underlying35 rfl hmi.out ?_))
  go_ret
  exact ⟨rfl, H.out.alloc _, (Mut.refl F w).alloc _⟩

set_option maxRecDepth 100000 in
set_option maxHeartbeats 1000000 in
theorem rxd_b (w : World) (F : Nat → Prop) (X g : Nat) (B : Br) (h : BrG w F X g B) (ho : B.ok) (m : List Value) (hm : Typed ML m) (k : Nat) (hk : k < B.np) (hk2 : k < 1000) (e2 : B.gb k 2 = true) (e35 : B.gb k 35 = true) : Calls Try.prog 16 #[.pointer (some ⟨X, 0, none⟩), .int .i64 k, .agg m.toArray] w (Stepped w F X g (false, B)) := by
  obtain ⟨hX, hg, hne⟩ := h.lt
  obtain ⟨cap, c17, hc1, hc2⟩ := h.cell17 ho
  have p2 := (h.cellg (i := k * 89 + 2) (lt89 hk (by decide))).trans (ho.gb hk 2 rfl)
  have p35 := (h.cellg (i := k * 89 + 35) (lt89 hk (by decide))).trans (ho.gb hk 35 rfl)
  have q1 := (h.cellX ho (i := 1) (by omega)).trans (ho.hb 1 rfl)
  have m0 := hm.gi 0 rfl
  rw [e2] at p2
  rw [e35] at p35
  have hf := h.frozen
  have H := Lib.hid h
  have HTM := Lib.hid hm
  have hmn := Lib.hid (show m.length = 17 from hm.1)
  have hmi := Lib.hid (show (Try.prog.info? 35).map (·.size) = some m.toArray.size by rw [List.size_toArray, hmn.out]; exact size_msg)
  have hmo := Lib.hid (all_oneCell_toArray hm.one)
  clear h hm e2 e35
  go_enter Try.func16, Try.ntmps16
  go_wp2_with (first | fail | ((with_reducible refine at_load 35 ?_); refine wpList_load_row rfl 35 _ rfl _ rfl 35 m.toArray (0, 0) _ (heap_alloc_new _ _) Try.underlying35 rfl hmi.out ?_))
  go_ret
  exact ⟨rfl, H.out.alloc _, (Mut.refl F w).alloc _⟩

set_option maxRecDepth 100000 in
set_option maxHeartbeats 1000000 in
theorem rxd_c (w : World) (F : Nat → Prop) (X g : Nat) (B : Br) (h : BrG w F X g B) (ho : B.ok) (m : List Value) (hm : Typed ML m) (k : Nat) (hk : k < B.np) (hk2 : k < 1000) (e2 : B.gb k 2 = true) (e35 : B.gb k 35 = false) (em : mi m 0 = 2) (er : B.hb 1 = false) : Calls Try.prog 16 #[.pointer (some ⟨X, 0, none⟩), .int .i64 k, .agg m.toArray] w (Stepped w F X g (false, B)) := by
  obtain ⟨hX, hg, hne⟩ := h.lt
  obtain ⟨cap, c17, hc1, hc2⟩ := h.cell17 ho
  have p2 := (h.cellg (i := k * 89 + 2) (lt89 hk (by decide))).trans (ho.gb hk 2 rfl)
  have p35 := (h.cellg (i := k * 89 + 35) (lt89 hk (by decide))).trans (ho.gb hk 35 rfl)
  have q1 := (h.cellX ho (i := 1) (by omega)).trans (ho.hb 1 rfl)
  have m0 := hm.gi 0 rfl
  rw [e2] at p2
  rw [e35] at p35
  rw [em] at m0
  rw [er] at q1
  have hf := h.frozen
  have H := Lib.hid h
  have HTM := Lib.hid hm
  have hmn := Lib.hid (show m.length = 17 from hm.1)
  have hmi := Lib.hid (show (Try.prog.info? 35).map (·.size) = some m.toArray.size by rw [List.size_toArray, hmn.out]; exact size_msg)
  have hmo := Lib.hid (all_oneCell_toArray hm.one)
  clear h hm e2 e35 em er
  go_enter Try.func16, Try.ntmps16
  go_wp2_with (first | fail | ((with_reducible refine at_load 35 ?_); refine wpList_load_row rfl 35 _ rfl _ rfl 35 m.toArray (0, 0) _ (heap_alloc_new _ _) Try.underlying35 rfl hmi.out ?_))
  go_ret
  exact ⟨rfl, H.out.alloc _, (Mut.refl F w).alloc _⟩

set_option maxRecDepth 100000 in
set_option maxHeartbeats 1000000 in
theorem rxd_d (w : World) (F : Nat → Prop) (X g : Nat) (B : Br) (h : BrG w F X g B) (ho : B.ok) (m : List Value) (hm : Typed ML m) (k : Nat) (hk : k < B.np) (hk2 : k < 1000) (e2 : B.gb k 2 = true) (e35 : B.gb k 35 = false) (em : (mi m 0 == 2) = false) : Calls Try.prog 16 #[.pointer (some ⟨X, 0, none⟩), .int .i64 k, .agg m.toArray] w (Stepped w F X g (true, rxTook B k m)) := by
  obtain ⟨hX, hg, hne⟩ := h.lt
  obtain ⟨cap, c17, hc1, hc2⟩ := h.cell17 ho
  have p2 := (h.cellg (i := k * 89 + 2) (lt89 hk (by decide))).trans (ho.gb hk 2 rfl)
  have p35 := (h.cellg (i := k * 89 + 35) (lt89 hk (by decide))).trans (ho.gb hk 35 rfl)
  have q1 := (h.cellX ho (i := 1) (by omega)).trans (ho.hb 1 rfl)
  have m0 := hm.gi 0 rfl
  rw [e2] at p2
  rw [e35] at p35
  have hf := h.frozen
  have H := Lib.hid h
  have HTM := Lib.hid hm
  have hmn := Lib.hid (show m.length = 17 from hm.1)
  have hmi := Lib.hid (show (Try.prog.info? 35).map (·.size) = some m.toArray.size by rw [List.size_toArray, hmn.out]; exact size_msg)
  have hmo := Lib.hid (all_oneCell_toArray hm.one)
  clear h hm e2 e35
  go_enter Try.func16, Try.ntmps16
  go_wp2_with (first | fail | ((with_reducible refine at_load 35 ?_); refine wpList_load_row rfl 35 _ rfl _ rfl 35 m.toArray (0, 0) _ (heap_alloc_new _ _) Try.underlying35 rfl hmi.out ?_))
  refine wp_region_tail 8 (by kernel_rfl) (by kernel_rfl) ?_
  intro w2 hw2
  have hx2 : Ext w w2 := by
    rw [hw2]
    exact ((Ext.refl w).alloc _).drew
  have hb2 := congrArg (fun v : World => v.heap[w.heap.size]?) hw2
  simp only [show ∀ u : World, u.drew.heap = u.heap from fun _ => rfl, heap_alloc_new] at hb2
  have d17 := (hx2.cell (p := ⟨X, 17, none⟩) hX).trans c17
  have HB2 := Lib.hid hb2
  clear hw2 hb2
  simp only [List.take_succ_cons, List.take_zero, List.drop_succ_cons, List.drop_zero]
  iterate 5 still_step
  refine wpStill_load_row rfl 35 _ rfl w.heap.size rfl 35 _ _ HB2.out Try.underlying35 rfl hmi.out ?_
  simp only [Act.put, List.setIfInBounds_toArray, List.set_cons_succ, List.set_cons_zero]
  iterate 2 still_step
  refine wpStill_nil ?_
  refine wpList_store_midN rfl rfl 35 _ _ rfl g (k * 89 + 51) m.toArray rfl rfl (by rw [List.size_toArray]; exact ((H.out.ext hx2).thereAt hk (by rw [hmn.out]; decide))) hmi.out hmo.out ?_
  intro w5 hw5
  have hB5 : BrG w5 F X g (B.setr k 51 m) := (by rw [hw5]; exact (H.out.ext hx2).setr hk (j := 51) (by rw [hmn.out]; decide))
  have hM5 : Mut F w w5 := (by rw [hw5]; exact Mut.setCells (.inl H.out.F2) _ _ (hx2.mut F))
  have HB5 := Lib.hid hB5
  have HM5 := Lib.hid hM5
  have p35x := (HB5.out.cellg (i := k * 89 + 35) (lt89 (N := B.np) hk (by decide))).trans ((rxMsg_ok ho hk HTM.out).gb (k := k) hk 35 rfl)
  have hf5 := HB5.out.frozen
  obtain ⟨cap5, c17x, hc5, hd5⟩ := HB5.out.cell17 (rxMsg_ok ho hk HTM.out)
  simp only [np_setr] at c17x hc5
  clear hw5 hB5 hM5 p2 p35 q1 c17 hf
  clear d17 hx2 HB2
  go_wp2_with fail
  go_ret
  exact ⟨rfl, HB5.out.setp (k := k) (j := 35) hk (by decide) _, HM5.out.setCell (.inl HB5.out.F2) _⟩

set_option maxRecDepth 100000 in
set_option maxHeartbeats 1000000 in
theorem rxd_e (w : World) (F : Nat → Prop) (X g : Nat) (B : Br) (h : BrG w F X g B) (ho : B.ok) (m : List Value) (hm : Typed ML m) (k : Nat) (hk : k < B.np) (hk2 : k < 1000) (e2 : B.gb k 2 = true) (e35 : B.gb k 35 = false) (em : mi m 0 = 2) (er : B.hb 1 = true) : Calls Try.prog 16 #[.pointer (some ⟨X, 0, none⟩), .int .i64 k, .agg m.toArray] w (Stepped w F X g (true, rxTook B k m)) := by
  obtain ⟨hX, hg, hne⟩ := h.lt
  obtain ⟨cap, c17, hc1, hc2⟩ := h.cell17 ho
  have p2 := (h.cellg (i := k * 89 + 2) (lt89 hk (by decide))).trans (ho.gb hk 2 rfl)
  have p35 := (h.cellg (i := k * 89 + 35) (lt89 hk (by decide))).trans (ho.gb hk 35 rfl)
  have q1 := (h.cellX ho (i := 1) (by omega)).trans (ho.hb 1 rfl)
  have m0 := hm.gi 0 rfl
  rw [e2] at p2
  rw [e35] at p35
  rw [em] at m0
  rw [er] at q1
  have hf := h.frozen
  have H := Lib.hid h
  have HTM := Lib.hid hm
  have hmn := Lib.hid (show m.length = 17 from hm.1)
  have hmi := Lib.hid (show (Try.prog.info? 35).map (·.size) = some m.toArray.size by rw [List.size_toArray, hmn.out]; exact size_msg)
  have hmo := Lib.hid (all_oneCell_toArray hm.one)
  clear h hm e2 e35 em er
  go_enter Try.func16, Try.ntmps16
  go_wp2_with (first | fail | ((with_reducible refine at_load 35 ?_); refine wpList_load_row rfl 35 _ rfl _ rfl 35 m.toArray (0, 0) _ (heap_alloc_new _ _) Try.underlying35 rfl hmi.out ?_))
  refine wp_region_tail 8 (by kernel_rfl) (by kernel_rfl) ?_
  intro w2 hw2
  have hx2 : Ext w w2 := by
    rw [hw2]
    exact ((Ext.refl w).alloc _).drew
  have hb2 := congrArg (fun v : World => v.heap[w.heap.size]?) hw2
  simp only [show ∀ u : World, u.drew.heap = u.heap from fun _ => rfl, heap_alloc_new] at hb2
  have d17 := (hx2.cell (p := ⟨X, 17, none⟩) hX).trans c17
  have HB2 := Lib.hid hb2
  clear hw2 hb2
  simp only [List.take_succ_cons, List.take_zero, List.drop_succ_cons, List.drop_zero]
  iterate 5 still_step
  refine wpStill_load_row rfl 35 _ rfl w.heap.size rfl 35 _ _ HB2.out Try.underlying35 rfl hmi.out ?_
  simp only [Act.put, List.setIfInBounds_toArray, List.set_cons_succ, List.set_cons_zero]
  iterate 2 still_step
  refine wpStill_nil ?_
  refine wpList_store_midN rfl rfl 35 _ _ rfl g (k * 89 + 51) m.toArray rfl rfl (by rw [List.size_toArray]; exact ((H.out.ext hx2).thereAt hk (by rw [hmn.out]; decide))) hmi.out hmo.out ?_
  intro w5 hw5
  have hB5 : BrG w5 F X g (B.setr k 51 m) := (by rw [hw5]; exact (H.out.ext hx2).setr hk (j := 51) (by rw [hmn.out]; decide))
  have hM5 : Mut F w w5 := (by rw [hw5]; exact Mut.setCells (.inl H.out.F2) _ _ (hx2.mut F))
  have HB5 := Lib.hid hB5
  have HM5 := Lib.hid hM5
  have p35x := (HB5.out.cellg (i := k * 89 + 35) (lt89 (N := B.np) hk (by decide))).trans ((rxMsg_ok ho hk HTM.out).gb (k := k) hk 35 rfl)
  have hf5 := HB5.out.frozen
  obtain ⟨cap5, c17x, hc5, hd5⟩ := HB5.out.cell17 (rxMsg_ok ho hk HTM.out)
  simp only [np_setr] at c17x hc5
  clear hw5 hB5 hM5 p2 p35 q1 c17 hf
  clear d17 hx2 HB2
  go_wp2_with fail
  go_ret
  exact ⟨rfl, HB5.out.setp (k := k) (j := 35) hk (by decide) _, HM5.out.setCell (.inl HB5.out.F2) _⟩

theorem rxd_take (w : World) (F : Nat → Prop) (X g : Nat) (B : Br) (h : BrG w F X g B) (ho : B.ok) (m : List Value) (hm : Typed ML m) (hn : B.np < 1000) (i : Int) : Calls Try.prog 16 #[.pointer (some ⟨X, 0, none⟩), .int .i64 i, .agg m.toArray] w (Stepped w F X g (takeF B i m)) := by
  unfold takeF
  by_cases h0 : 0 ≤ i
  · obtain ⟨k, rfl⟩ : ∃ k : Nat, i = k := ⟨i.toNat, by omega⟩
    by_cases hk : k < B.np
    · rw [if_pos ⟨h0, by simpa using hk⟩]
      simp only [Int.toNat_natCast]
      cases e2 : B.gb k 2
      · simpa using rxd_a w F X g B h ho m hm k hk (by omega) e2
      · cases e35 : B.gb k 35
        · cases em : (mi m 0 == 2)
          · simpa using rxd_d w F X g B h ho m hm k hk (by omega) e2 e35 em
          · cases er : B.hb 1
            · simpa using rxd_c w F X g B h ho m hm k hk (by omega) e2 e35 (by simpa using em) er
            · simpa using rxd_e w F X g B h ho m hm k hk (by omega) e2 e35 (by simpa using em) er
        · simpa using rxd_b w F X g B h ho m hm k hk (by omega) e2 e35
    · rw [if_neg (fun h => hk (by simpa using h.2))]
      exact rxd_hi w F X g B h ho m hm k h0 (by omega)
  · rw [if_neg (fun h => h0 h.1)]
    exact rxd_lo w F X g B h ho m hm i (by omega)

end Go.Proofs.Ytpieamfpgfabgaa
