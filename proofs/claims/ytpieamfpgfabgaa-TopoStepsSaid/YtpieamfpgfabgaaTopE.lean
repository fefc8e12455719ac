/- The machine of changes: the example; by itself. No statement is proved here. -/
import Derived.Test.YtpieamfpgfabgaaTopD
namespace Go.Proofs.Ytpieamfpgfabgaa
open Go.RowKit Go.BigFrame Go.WideShapes Go.ChangeShapes Go.Deep
set_option linter.unusedVariables false
set_option linter.unusedSimpArgs false

theorem wpList_slice2 {ops : Array Oper} {rest : List Oper} {o : Oper} {a : Act} {w : World} {Q : Exit → Act → World → Prop} (hg : o.guard = none) (parts : Array (Nat × Operand)) (ho : o.op = .buildSlice 29 2 parts)
    (vals : List (Nat × Value)) (hv : parts.toList.map (fun x => (x.1, a.eval x.2)) = vals) (cells : Array Value) (hf : Instr.fill (fun i => some (i * 89, 89)) ((Array.range (2 * 89)).map (PZ[· % PZ.size]!)) vals = some cells)
    (h : wpList Try.prog ops Q rest (a.put o.dst (.slice (some ⟨w.heap.size, 0, none⟩) 2 2)) (w.alloc (.cells cells 52))) : wpList Try.prog ops Q (o :: rest) a w := by
  have e : (parts.map fun (i, x) => (i, a.eval x)).toList = vals := by rw [Array.toList_map]; exact hv
  obtain ⟨i1, hi1, hz1, hs1, hb1⟩ := info_of info_port
  exact wpList_buildSlice hg 29 52 2 parts ho cells i1 (.agg PZ) Try.underlying29 hi1 hz1 (by rw [hs1]; decide) (by rw [hs1]; decide) (by rw [e, hs1]; exact hf) h
theorem two_ports {w : World} {hd ps : List Value} (hp : ps.length = 178) {C : Array Value} (hC : C = (hd ++ [Value.slice (some ⟨w.heap.size, 0, none⟩) 2 2, Value.slice none 0 0, Value.slice none 0 0]).toArray) :
    BrG ((w.alloc (.cells ps.toArray 52)).alloc (.cells C 33)) (fun k => w.heap.size ≤ k ∧ k < w.heap.size + 2) (w.heap.size + 1) w.heap.size ⟨hd, 2, ps, 0, [], 0, []⟩ := by
  refine ⟨by omega, by omega, 2, ps.toArray, .slice none 0 0, .slice none 0 0, ?_, (heap_alloc_old _ _ (by simp)).trans (heap_alloc_new _ _), by simpa using hp, Nat.le_refl _, by decide, by simp [List.take_of_length_le, hp],
    ⟨rfl, .inl ⟨rfl, rfl⟩⟩, ⟨rfl, .inl ⟨rfl, rfl⟩⟩, (fun h hh => by cases hh), (fun h hh => by cases hh)⟩
  subst hC
  exact heap_alloc2_new _ _ _
theorem two_ok {hd p q : List Value} (h1 : Typed HL hd) (h2 : Typed PL p) (h3 : Typed PL q) : Br.ok ⟨hd, 2, p ++ q, 0, [], 0, []⟩ := by
  have lp : p.length = 89 := h2.1
  have lq : q.length = 89 := h3.1
  refine ⟨h1, ⟨by simp [lp, lq]; rfl, fun i hi => ?_⟩, ⟨rfl, fun i hi => absurd hi (Nat.not_lt_zero i)⟩, ⟨rfl, fun i hi => absurd hi (Nat.not_lt_zero i)⟩⟩
  have hl : PL.length = 89 := rfl
  rw [hl]
  rcases (by have : i < 2 := hi; omega : i = 0 ∨ i = 1) with rfl | rfl
  · rw [Nat.zero_mul, List.drop_zero, List.take_append_of_le_length (by omega), List.take_of_length_le (by omega)]
    exact h2
  · rw [Nat.one_mul, List.drop_append_of_le_length (by omega), List.drop_of_length_le (by omega), List.nil_append, List.take_of_length_le (by omega)]
    exact h3

def tpP : List Value := (((pz.set 87 (.int .i64 4)).set 21 (.int .i64 2)).set 39 (.bool true))
def tpH : List Value := (((hz.set 3 (.int .i64 20)).set 4 (.int .i64 2)).set 5 (.int .i64 15))
def tpB : Br := ⟨tpH, 2, tpP ++ pz, 0, [], 0, []⟩
theorem tpB_ok : tpB.ok := two_ok (((hz_ok.set 3 _ (fun k hk => by cases hk; exact ⟨_, rfl, by decide⟩)).set 4 _ (fun k hk => by cases hk; exact ⟨_, rfl, by decide⟩)).set 5 _ (fun k hk => by cases hk; exact ⟨_, rfl, by decide⟩))
  (((pz_ok.set 87 _ (fun k hk => by cases hk; exact ⟨_, rfl, by decide⟩)).set 21 _ (fun k hk => by cases hk; exact ⟨_, rfl, by decide⟩)).set 39 _ (fun k hk => by cases hk; exact ⟨_, rfl⟩)) pz_ok
theorem tp_len : (tpP ++ pz).length = 178 := by kernel_rfl
def tpS : Value := .agg #[.int .i64 0, .int .i64 0, .int .i64 0, .int .i64 0, .int .i64 0, .int .i64 0, .int .i64 2]
def tpF : Value := .agg ((List.replicate 29 (Value.bool false)).set 17 (.bool true)).toArray
def tpT : Value := .agg #[.int .i64 0, .int .i64 20, .int .i64 2, .int .i64 15]
theorem tp_bt (w : World) : (Instr.build 24 #[(1, .int .i64 20), (2, .int .i64 2), (3, .int .i64 15)]).run Try.prog w = .ok tpT w := by kernel_rfl
theorem tp_bf : Try.prog.built 50 [(17, .bool true)] = some ((List.replicate 29 (Value.bool false)).set 17 (.bool true)).toArray := by kernel_rfl
theorem tp_b1 : Try.prog.built 52 [(15, .int .i64 4), (7, tpS), (8, tpF)] = some tpP.toArray := by kernel_rfl
theorem tp_b0 : Try.prog.built 52 [] = some pz.toArray := by kernel_rfl
theorem tp_b2 : Instr.fill (fun i => some (i * 89, 89)) ((Array.range (2 * 89)).map (PZ[· % PZ.size]!)) [(0, .agg tpP.toArray), (1, .agg pz.toArray)] = some (tpP ++ pz).toArray := by kernel_rfl
theorem tp_b3 (b : Nat) : Try.prog.built 33 [(2, tpT), (7, Value.slice (some ⟨b, 0, none⟩) 2 2)] = some (tpH ++ [Value.slice (some ⟨b, 0, none⟩) 2 2, Value.slice none 0 0, Value.slice none 0 0]).toArray := by kernel_rfl
theorem tp_act : act2 tpB 0 = 3 := by kernel_rfl
theorem tp_39 : (tpass tpB 0).gb 0 39 = false := by kernel_rfl
theorem tp_48 : (tpass tpB 0).gb 0 48 = true := by kernel_rfl
theorem tp_49 : (tpass tpB 0).gb 0 49 = false := by kernel_rfl
theorem tp_149 : (tpass tpB 0).gb 1 49 = true := by kernel_rfl
theorem tp_TR : TR (tpB.hi 2) (tpB.hi 3) (tpB.hi 4) (tpB.hi 5) := by unfold TR; decide +kernel

set_option maxRecDepth 100000 in
set_option maxHeartbeats 2000000 in
theorem top_awake (w : World) : Calls Try.prog 20 #[] w fun e w' => e = .returned (.bool true) ∧ Ext w w' := by
  have hmz := tp_b3 w.heap.size
  obtain ⟨C, hC⟩ : ∃ C, (tpH ++ [Value.slice (some ⟨w.heap.size, 0, none⟩) 2 2, Value.slice none 0 0, Value.slice none 0 0]).toArray = C := ⟨_, rfl⟩
  rw [hC] at hmz
  have HM := Lib.hid hmz
  have hCz : C.size = 20 := by rw [← hC]; rfl
  have hCo : C.toList.all (·.oneCell') = true := by rw [← hC]; rfl
  have hCi := Lib.hid (show (Try.prog.info? 33).map (·.size) = some C.size by rw [hCz]; exact size_br)
  have HCz := Lib.hid (size_z20.trans hCz.symm)
  have HCo := Lib.hid hCo
  have HC := Lib.hid hC
  clear hC hCz hCo hmz
  have hbt := tp_bt
  go_enter Try.func20, Try.ntmps20
  go_wp2_with (first
    | fail
    | ((with_reducible refine at_build 50 ?_); refine wpList_build2 rfl 50 _ rfl [(17, .bool true)] rfl _ tp_bf ?_)
    | ((with_reducible refine at_build 52 ?_); refine wpList_build2 rfl 52 _ rfl [(15, .int .i64 4), (7, tpS), (8, tpF)] rfl _ tp_b1 ?_)
    | ((with_reducible refine at_build 52 ?_); refine wpList_build2 rfl 52 _ rfl [] rfl _ tp_b0 ?_)
    | ((with_reducible refine at_slice 29 ?_); refine wpList_slice2 rfl _ rfl [(0, .agg tpP.toArray), (1, .agg pz.toArray)] rfl _ tp_b2 ?_)
    | ((with_reducible refine at_build 33 ?_); refine wpList_build2 rfl 33 _ rfl [(2, tpT), (7, Value.slice (some ⟨w.heap.size, 0, none⟩) 2 2)] rfl C HM.out ?_)
    | ((with_reducible refine at_store 33 ?_); refine wpList_store_new2 rfl rfl 33 _ _ _ rfl _ C _ rfl ?_ rfl hCi.out HCz.out HCo.out ?_; · simp))
  refine (top_step2_3 _ _ (w.heap.size + 1) w.heap.size 0 tpB (two_ports tp_len HC.out.symm) tpB_ok (by decide) (by decide) tp_TR (fun n hn => by simp; omega) (by kernel_rfl) (by kernel_rfl) tp_act).mono ?_
  rintro e w0 ⟨he, hB0, hm0⟩
  obtain rfl : e = .returned (.bool true) := he
  have hE0 := (((Ext.refl w).alloc (.cells (tpP ++ pz).toArray 52)).alloc (.cells C 33)).mutE hm0 (fun n hn h1 => by have := h1.1; omega)
  have ok0 : Br.ok (tpass tpB 0) := tpass_ok tpB_ok (by decide)
  have H0 := Lib.hid (show BrG w0 _ _ _ (tpass tpB 0) from hB0)
  clear hB0 hm0
  obtain ⟨cap, c17, hc1, hc2⟩ := H0.out.cell17 ok0
  rw [show (tpass tpB 0).np = 2 from rfl] at c17 hc1
  have p39 := (H0.out.cellg (i := 0 * 89 + 39) (by decide)).trans (ok0.gb (k := 0) (by decide) 39 rfl)
  have p48 := (H0.out.cellg (i := 0 * 89 + 48) (by decide)).trans (ok0.gb (k := 0) (by decide) 48 rfl)
  have p49 := (H0.out.cellg (i := 0 * 89 + 49) (by decide)).trans (ok0.gb (k := 0) (by decide) 49 rfl)
  have p149 := (H0.out.cellg (i := 1 * 89 + 49) (by decide)).trans (ok0.gb (k := 1) (by decide) 49 rfl)
  rw [tp_39, Nat.zero_mul, Nat.zero_add] at p39
  rw [tp_48, Nat.zero_mul, Nat.zero_add] at p48
  rw [tp_49, Nat.zero_mul, Nat.zero_add] at p49
  rw [tp_149, show 1 * 89 + 49 = 138 from rfl] at p149
  go_wp2_with fail
  go_ret
  exact ⟨rfl, hE0⟩

/-- What a change does that is handed on. -/
theorem tpass_reads {C : Br} (ho : C.ok) {k : Nat} (hk : k < C.np) (h49 : C.gb k 49 = false) (h48 : C.gb k 48 = false) :
    (∀ j, j < C.np → (tpass C k).gb j 49 = decide (j ≠ k) ) ∧ (tpass C k).gb k 48 = (C.gi k 87 == 4) ∧ (tpass C k).gb k 39 = false := by
  have h89 := len89 ho hk
  have hl : (tpass0 C k).ps.length = C.ps.length := by simp [tpass0]
  have hn : C.np * 89 ≤ (tpass0 C k).ps.length := by rw [hl, ho.len]; exact Nat.le_refl _
  unfold tpass
  refine ⟨fun j hj => ?_, ?_, ?_⟩
  · rw [tcp_49 _ _ hn hj]
    by_cases e : j = k
    · rw [if_pos e]
      subst e
      rw [show (tpass0 C j).gb j 49 = C.gb j 49 by unfold tpass0; rw [gb_setp_ne _ _ _ _ _ (by decide), gb_setp_ne _ _ _ _ _ (by decide), gb_setp_ne _ _ _ _ _ (by decide)], h49]
      simp
    · rw [if_neg e]
      simp [e]
  · rw [tcp_gb _ _ hn (by decide) (by decide)]
    unfold tpass0
    rw [gb_setp_same _ _ _ _ (by simp only [len_setp]; omega), h48]
    rfl
  · rw [tcp_gb _ _ hn (by decide) (by decide)]
    unfold tpass0
    rw [gb_setp_ne _ _ _ _ _ (by decide), gb_setp_ne _ _ _ _ _ (by decide), gb_setp_same _ _ _ _ (by omega)]
theorem tbegin_gb {C : Br} (k j : Nat) (hj : j ≠ 31) (hj2 : j ≠ 13) : (tbegin C k).gb k j = C.gb k j := by
  unfold tbegin
  split
  · split
    · rw [gb_setp_ne _ _ _ _ _ (by omega), gb_setp_ne _ _ _ _ _ (by omega)]
    · rw [gb_setp_ne _ _ _ _ _ (by omega)]
  · rfl
theorem tbegin_gi {C : Br} (k j : Nat) (hj : j ≠ 31) (hj2 : j ≠ 13) : (tbegin C k).gi k j = C.gi k j := by
  unfold tbegin
  split
  · split
    · rw [gi_setp_ne _ _ _ _ _ (by omega), gi_setp_ne _ _ _ _ _ (by omega)]
    · rw [gi_setp_ne _ _ _ _ _ (by omega)]
  · rfl

def tq0 (B : Br) (n : Nat) : Br := B.upd 49 (fun _ => .bool false) n
theorem tq0_np (B : Br) (n : Nat) : (tq0 B n).np = B.np := upd_np B _ _ n
theorem tq0_ok {B : Br} (ho : B.ok) (n : Nat) (hn : n ≤ B.np) : (tq0 B n).ok := upd_ok ho (by decide) (fun i c hc => by cases hc; exact ⟨false, rfl⟩) n hn
theorem tq0_49 {B : Br} (ho : B.ok) {k : Nat} (hk : k < B.np) : (tq0 B B.np).gb k 49 = false := upd_gb B (by decide) (fun _ => false) (by rw [ho.len]; exact Nat.le_refl _) hk
theorem tq0_hi (B : Br) (n j : Nat) : (tq0 B n).hi j = B.hi j := by unfold Br.hi tq0; rw [upd_hd]

end Go.Proofs.Ytpieamfpgfabgaa
