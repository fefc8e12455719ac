/- The machine that sends, by the document: what it does without a message. No statement is proved here. -/
import Derived.Test.YthlapkddgnpaeaaTxF
import Derived.Test.YthlapkddgnpaeaaPvBt
import Derived.Test.YthlapkddgnpaeaaZtwot
import Derived.Deep.Light
import Derived.StillTailTactics
import Derived.Maps.AppendAt
import Derived.Laws.AppendOwnNone
namespace Go.Proofs.Ythlapkddgnpaeaa
open Go.RowKit Go.BigFrame Go.WideShapes Go.ChangeShapes Go.Deep
set_option linter.unusedVariables false
set_option linter.unusedSimpArgs false

theorem pv_row {a b : World} {P0 : Nat} {L0 L : List Value} {T : TypeId} (h0 : a.heap[P0]? = some (.cells L0.toArray T (0, 0))) (hl : L0.length = 89) (hm : Pm P0 0 a b) (hp : Pv b P0 0 L) : b.heap[P0]? = some (.cells L.toArray T (0, 0)) := by
  obtain ⟨C', h1, hz, -⟩ := hm.2 _ _ h0
  obtain ⟨C2, T2, h2, hl2, he⟩ := hp
  rw [h1] at h2
  cases h2
  rw [h1]
  have : C'.toList.length = 89 := by simpa [hl] using hz
  rw [List.drop_zero, List.take_of_length_le (Nat.le_of_eq this)] at he
  rw [← he]
theorem cell_lt {w : World} {X j : Nat} {v : Value} (h : w.cell? ⟨X, j, none⟩ = some v) : X < w.heap.size := by
  by_cases hx : X < w.heap.size
  · exact hx
  · simp [World.cell?, Array.getElem?_eq_none (Nat.le_of_not_lt hx)] at h
theorem cell_ext {a b : World} {X j : Nat} {v : Value} (h : a.cell? ⟨X, j, none⟩ = some v) (hx : Ext a b) : b.cell? ⟨X, j, none⟩ = some v := (hx.cell (p := ⟨X, j, none⟩) (cell_lt h)).trans h
theorem cell_pm {a b : World} {G o X j : Nat} {v : Value} (h : a.cell? ⟨X, j, none⟩ = some v) (hm : Pm G o a b) (hne : X ≠ G) : b.cell? ⟨X, j, none⟩ = some v := (hm.1.cell (p := ⟨X, j, none⟩) (cell_lt h) hne).trans h
theorem sp_0 {Z : Br} {k : Nat} {L : List Value} (hl : port Z.ps k = L) (h89 : k * 89 + 89 ≤ Z.ps.length) : Z.setPort k L = Z := by rw [← hl]; exact setPort_self h89
theorem sp_s {Z Y : Br} {k j : Nat} {M : List Value} {v : Value} (h : Z.setPort k M = Y) (hl : M.length = 89) (h89 : k * 89 + 89 ≤ Z.ps.length) (hj : j < 89) : Z.setPort k (M.set j v) = Y.setp k j v := by rw [setPort_set hl h89 hj, h]

set_option maxRecDepth 100000 in
set_option maxHeartbeats 4000000 in
theorem txd_s0 (w : World) (F : Nat → Prop) (X g k : Nat) (B : Br) (h : BrG w F X g B) (ho : B.ok) (hk : k < B.np) (hn : B.np < 1000) (h44 : B.gb k 44 = false) :
    Calls Try.prog 19 #[.pointer (some ⟨X, 0, none⟩), .int .i64 k] w (fun e w' => e = .returned (.bool false) ∧ BrG w' (fun n => F n ∨ (w.heap.size ≤ n ∧ n < w'.heap.size)) X g (B) ∧ Mut F w w') := by
  obtain ⟨hX, hg, hne⟩ := h.lt
  obtain ⟨cap2, c17, hc3, hc4⟩ := h.cell17 ho
  have hn8 : k < 1000 := by omega
  have h89 := Lib.hid (len89 ho hk)
  have hpr := h.range hk
  have hT0 := br_typed ho hk
  have HONE := Lib.hid hT0.one
  have f44 : (port B.ps k)[44]? = some (.bool false) := (tpB hT0 44 rfl).trans (by rw [pB_port (by decide), h44])
  obtain ⟨L, hL⟩ : ∃ L, port B.ps k = L := ⟨_, rfl⟩
  rw [hL] at hpr hT0 HONE f44
  have HL := Lib.hid hL
  have HLEN := Lib.hid (tpL hT0)
  have HPR := Lib.hid hpr
  clear hL hpr
  have hpz := Lib.hid (show (Try.prog.info? 53).map (·.size) = some L.length by rw [HLEN.out]; exact size_port)
  have hps := Lib.hid (show (Try.prog.info? 53).map (·.size) = some L.toArray.size by rw [List.size_toArray]; exact hpz.out)
  have hpl := Lib.hid (show PZ.size = L.toArray.size by rw [size_PZ, List.size_toArray]; exact HLEN.out.symm)
  have hpo := Lib.hid (all_oneCell_toArray HONE.out)
  have hzp := zero_port
  clear hT0
  have HL_44 := Lib.hid f44
  clear f44
  have Y17 := Lib.hid c17
  have H := Lib.hid h
  clear h
  go_enter Try.func19, Try.ntmps19
  go_wp2_with (first
    | fail
    | ((with_reducible refine at_load 53 ?_); refine wpList_load_mid rfl 53 _ rfl g (k * 89) rfl L _ HPR.out Try.underlying53 rfl hpz.out ?_)
    | ((with_reducible refine at_store 53 ?_); refine wpList_store_new3 rfl rfl 53 _ _ _ rfl PZ L.toArray _ rfl ?_ rfl hps.out hpl.out (by rw [Array.all_toList]; exact hpo.out) ?_; · rfl
       intro z1 hz1
       have hx1 : Ext w z1 := by rw [hz1]; exact (Ext.refl _).alloc _
       have hq := heap_alloc_new w (.cells L.toArray 53)
       rw [← hz1] at hq
       obtain ⟨P0, hP0⟩ : ∃ n, w.heap.size = n := ⟨_, rfl⟩
       rw [hP0] at hq ⊢
       have hP_z1 : Pv z1 P0 0 L := Pv.box hq HLEN.out
       have HQ := Lib.hid hq
       have hXP : X ≠ P0 := by omega
       have hgP : g ≠ P0 := by omega
       have HW0 := Lib.hid hP0
       have x17_z1 : z1.cell? ⟨X, 17, none⟩ = some (.slice (some ⟨g, 0, none⟩) B.np cap2) := cell_ext Y17.out hx1
       have p44_z1 : z1.cell? ⟨P0, 44, none⟩ = some (.bool false) := (hP_z1.cell (j := 44) (by decide)).trans HL_44.out
       have HX1 := Lib.hid hx1
       clear hz1 hq hP0 c17 hx1))
  go_ret
  exact ⟨rfl, (H.out.ext HX1.out).mono (fun n hn => .inl hn), HX1.out.mut F⟩

set_option maxRecDepth 100000 in
set_option maxHeartbeats 4000000 in
theorem txd_s0b (w : World) (F : Nat → Prop) (X g k : Nat) (B : Br) (h : BrG w F X g B) (ho : B.ok) (hk : k < B.np) (hn : B.np < 1000) (h44 : B.gb k 44 = true) (h50 : B.gb k 50 = true) :
    Calls Try.prog 19 #[.pointer (some ⟨X, 0, none⟩), .int .i64 k] w (fun e w' => e = .returned (.bool false) ∧ BrG w' (fun n => F n ∨ (w.heap.size ≤ n ∧ n < w'.heap.size)) X g (B) ∧ Mut F w w') := by
  obtain ⟨hX, hg, hne⟩ := h.lt
  obtain ⟨cap2, c17, hc3, hc4⟩ := h.cell17 ho
  have hn8 : k < 1000 := by omega
  have h89 := Lib.hid (len89 ho hk)
  have hpr := h.range hk
  have hT0 := br_typed ho hk
  have HONE := Lib.hid hT0.one
  have f44 : (port B.ps k)[44]? = some (.bool true) := (tpB hT0 44 rfl).trans (by rw [pB_port (by decide), h44])
  have f50 : (port B.ps k)[50]? = some (.bool true) := (tpB hT0 50 rfl).trans (by rw [pB_port (by decide), h50])
  obtain ⟨L, hL⟩ : ∃ L, port B.ps k = L := ⟨_, rfl⟩
  rw [hL] at hpr hT0 HONE f44 f50
  have HL := Lib.hid hL
  have HLEN := Lib.hid (tpL hT0)
  have HPR := Lib.hid hpr
  clear hL hpr
  have hpz := Lib.hid (show (Try.prog.info? 53).map (·.size) = some L.length by rw [HLEN.out]; exact size_port)
  have hps := Lib.hid (show (Try.prog.info? 53).map (·.size) = some L.toArray.size by rw [List.size_toArray]; exact hpz.out)
  have hpl := Lib.hid (show PZ.size = L.toArray.size by rw [size_PZ, List.size_toArray]; exact HLEN.out.symm)
  have hpo := Lib.hid (all_oneCell_toArray HONE.out)
  have hzp := zero_port
  clear hT0
  have HL_44 := Lib.hid f44
  clear f44
  have HL_50 := Lib.hid f50
  clear f50
  have Y17 := Lib.hid c17
  have H := Lib.hid h
  clear h
  go_enter Try.func19, Try.ntmps19
  go_wp2_with (first
    | fail
    | ((with_reducible refine at_load 53 ?_); refine wpList_load_mid rfl 53 _ rfl g (k * 89) rfl L _ HPR.out Try.underlying53 rfl hpz.out ?_)
    | ((with_reducible refine at_store 53 ?_); refine wpList_store_new3 rfl rfl 53 _ _ _ rfl PZ L.toArray _ rfl ?_ rfl hps.out hpl.out (by rw [Array.all_toList]; exact hpo.out) ?_; · rfl
       intro z1 hz1
       have hx1 : Ext w z1 := by rw [hz1]; exact (Ext.refl _).alloc _
       have hq := heap_alloc_new w (.cells L.toArray 53)
       rw [← hz1] at hq
       obtain ⟨P0, hP0⟩ : ∃ n, w.heap.size = n := ⟨_, rfl⟩
       rw [hP0] at hq ⊢
       have hP_z1 : Pv z1 P0 0 L := Pv.box hq HLEN.out
       have HQ := Lib.hid hq
       have hXP : X ≠ P0 := by omega
       have hgP : g ≠ P0 := by omega
       have HW0 := Lib.hid hP0
       have x17_z1 : z1.cell? ⟨X, 17, none⟩ = some (.slice (some ⟨g, 0, none⟩) B.np cap2) := cell_ext Y17.out hx1
       have p44_z1 : z1.cell? ⟨P0, 44, none⟩ = some (.bool true) := (hP_z1.cell (j := 44) (by decide)).trans HL_44.out
       have p50_z1 : z1.cell? ⟨P0, 50, none⟩ = some (.bool true) := (hP_z1.cell (j := 50) (by decide)).trans HL_50.out
       have HX1 := Lib.hid hx1
       clear hz1 hq hP0 c17 hx1))
  go_ret
  exact ⟨rfl, (H.out.ext HX1.out).mono (fun n hn => .inl hn), HX1.out.mut F⟩

theorem set_one {L : List Value} (h : ∀ v ∈ L, v.oneCell' = true) {j : Nat} {u : Value} (hu : u.oneCell' = true) : ∀ v ∈ L.set j u, v.oneCell' = true := fun v hv => by
  rcases List.mem_or_eq_of_mem_set hv with h1 | h1
  · exact h v h1
  · rw [h1]; exact hu
set_option maxRecDepth 100000 in
set_option maxHeartbeats 4000000 in
theorem txd_c4 (w : World) (F : Nat → Prop) (X g k : Nat) (B : Br) (h : BrG w F X g B) (ho : B.ok) (hk : k < B.np) (hn : B.np < 1000) (h44 : B.gb k 44 = true) (h50 : B.gb k 50 = false) (h8 : B.gi k 8 = 0) (h87 : B.gi k 87 = 4) :
    Calls Try.prog 19 #[.pointer (some ⟨X, 0, none⟩), .int .i64 k] w (fun e w' => e = .returned (.bool true) ∧ BrG w' (fun n => F n ∨ (w.heap.size ≤ n ∧ n < w'.heap.size)) X g ((((B.setp k 31 (.bool true))).setp k 8 (.int .i64 (B.hi 4)))) ∧ Mut F w w') := by
  obtain ⟨hX, hg, hne⟩ := h.lt
  obtain ⟨cap2, c17, hc3, hc4⟩ := h.cell17 ho
  have hn8 : k < 1000 := by omega
  have h89 := Lib.hid (len89 ho hk)
  have hpr := h.range hk
  have hT0 := br_typed ho hk
  have HONE := Lib.hid hT0.one
  have f44 : (port B.ps k)[44]? = some (.bool true) := (tpB hT0 44 rfl).trans (by rw [pB_port (by decide), h44])
  have f50 : (port B.ps k)[50]? = some (.bool false) := (tpB hT0 50 rfl).trans (by rw [pB_port (by decide), h50])
  have f8 : (port B.ps k)[8]? = some (.int .i64 0) := (tpI hT0 8 rfl).trans (by rw [pI_port (by decide), h8])
  have f87 : (port B.ps k)[87]? = some (.int .i64 4) := (tpI hT0 87 rfl).trans (by rw [pI_port (by decide), h87])
  obtain ⟨L, hL⟩ : ∃ L, port B.ps k = L := ⟨_, rfl⟩
  rw [hL] at hpr hT0 HONE f44 f50 f8 f87
  have HL := Lib.hid hL
  have HLEN := Lib.hid (tpL hT0)
  have HPR := Lib.hid hpr
  clear hL hpr
  have hpz := Lib.hid (show (Try.prog.info? 53).map (·.size) = some L.length by rw [HLEN.out]; exact size_port)
  have hps := Lib.hid (show (Try.prog.info? 53).map (·.size) = some L.toArray.size by rw [List.size_toArray]; exact hpz.out)
  have hpl := Lib.hid (show PZ.size = L.toArray.size by rw [size_PZ, List.size_toArray]; exact HLEN.out.symm)
  have hpo := Lib.hid (all_oneCell_toArray HONE.out)
  have hzp := zero_port
  clear hT0
  have HL_44 := Lib.hid f44
  clear f44
  have HL_50 := Lib.hid f50
  clear f50
  have HL_8 := Lib.hid f8
  clear f8
  have HL_87 := Lib.hid f87
  clear f87
  have x4 := (h.cellX ho (i := 4) (by decide)).trans (ho.hi 4 rfl)
  have Y4 := Lib.hid x4
  clear x4
  have Y17 := Lib.hid c17
  have H := Lib.hid h
  clear h
  go_enter Try.func19, Try.ntmps19
  go_upto_region 8 with (first
    | fail
    | ((with_reducible refine at_load 53 ?_); refine wpList_load_mid rfl 53 _ rfl g (k * 89) rfl L _ HPR.out Try.underlying53 rfl hpz.out ?_)
    | ((with_reducible refine at_store 53 ?_); refine wpList_store_new3 rfl rfl 53 _ _ _ rfl PZ L.toArray _ rfl ?_ rfl hps.out hpl.out (by rw [Array.all_toList]; exact hpo.out) ?_; · rfl
       intro z1 hz1
       have hx1 : Ext w z1 := by rw [hz1]; exact (Ext.refl _).alloc _
       have hq := heap_alloc_new w (.cells L.toArray 53)
       rw [← hz1] at hq
       obtain ⟨P0, hP0⟩ : ∃ n, w.heap.size = n := ⟨_, rfl⟩
       rw [hP0] at hq ⊢
       have hP_z1 : Pv z1 P0 0 L := Pv.box hq HLEN.out
       have HQ := Lib.hid hq
       have hXP : X ≠ P0 := by omega
       have hgP : g ≠ P0 := by omega
       have HW0 := Lib.hid hP0
       have x4_z1 : z1.cell? ⟨X, 4, none⟩ = some (.int .i64 (B.hi 4)) := cell_ext Y4.out hx1
       have x17_z1 : z1.cell? ⟨X, 17, none⟩ = some (.slice (some ⟨g, 0, none⟩) B.np cap2) := cell_ext Y17.out hx1
       have p44_z1 : z1.cell? ⟨P0, 44, none⟩ = some (.bool true) := (hP_z1.cell (j := 44) (by decide)).trans HL_44.out
       have p50_z1 : z1.cell? ⟨P0, 50, none⟩ = some (.bool false) := (hP_z1.cell (j := 50) (by decide)).trans HL_50.out
       have p8_z1 : z1.cell? ⟨P0, 8, none⟩ = some (.int .i64 0) := (hP_z1.cell (j := 8) (by decide)).trans HL_8.out
       have p87_z1 : z1.cell? ⟨P0, 87, none⟩ = some (.int .i64 4) := (hP_z1.cell (j := 87) (by decide)).trans HL_87.out
       have HX1 := Lib.hid hx1
       clear hz1 hq hP0 c17 hx1)
    | ((with_reducible refine at_store 4 ?_); refine st_pv rfl rfl 4 _ _ rfl P0 0 31 _ hP_z1 _ #[.bool true] rfl rfl rfl (by exact (by decide : 31 + 1 ≤ 89)) (by kernel_rfl) rfl ?_
       intro z2 hp hm
       replace hp := pv_one hp HLEN.out (by decide)
       have hP_z2 : Pv z2 P0 0 (L.set 31 (.bool true)) := hp
       have E_z2 : Pm P0 0 z1 z2 := hm
       have x4_z2 : z2.cell? ⟨X, 4, none⟩ = some (.int .i64 (B.hi 4)) := cell_pm x4_z1 hm hXP
       have x17_z2 : z2.cell? ⟨X, 17, none⟩ = some (.slice (some ⟨g, 0, none⟩) B.np cap2) := cell_pm x17_z1 hm hXP
       have p44_z2 : z2.cell? ⟨P0, 44, none⟩ = some (.bool true) := (hP_z2.cell (j := 44) (by decide)).trans ((get_ne (by decide)).trans HL_44.out)
       have p50_z2 : z2.cell? ⟨P0, 50, none⟩ = some (.bool false) := (hP_z2.cell (j := 50) (by decide)).trans ((get_ne (by decide)).trans HL_50.out)
       have p8_z2 : z2.cell? ⟨P0, 8, none⟩ = some (.int .i64 0) := (hP_z2.cell (j := 8) (by decide)).trans ((get_ne (by decide)).trans HL_8.out)
       have p87_z2 : z2.cell? ⟨P0, 87, none⟩ = some (.int .i64 4) := (hP_z2.cell (j := 87) (by decide)).trans ((get_ne (by decide)).trans HL_87.out)
       clear hP_z1 x4_z1 x17_z1 p44_z1 p50_z1 p8_z1 p87_z1
       clear hp hm)
    | ((with_reducible refine at_store 3 ?_); refine st_pv rfl rfl 3 _ _ rfl P0 0 8 _ hP_z2 _ #[.int .i64 (B.hi 4)] rfl rfl rfl (by exact (by decide : 8 + 1 ≤ 89)) (by kernel_rfl) rfl ?_
       intro z3 hp hm
       replace hp := pv_one hp (len_set' HLEN.out) (by decide)
       have hP_z3 : Pv z3 P0 0 ((L.set 31 (.bool true)).set 8 (.int .i64 (B.hi 4))) := hp
       have E_z3 : Pm P0 0 z1 z3 := E_z2.trans hm
       have x4_z3 : z3.cell? ⟨X, 4, none⟩ = some (.int .i64 (B.hi 4)) := cell_pm x4_z2 hm hXP
       have x17_z3 : z3.cell? ⟨X, 17, none⟩ = some (.slice (some ⟨g, 0, none⟩) B.np cap2) := cell_pm x17_z2 hm hXP
       have p44_z3 : z3.cell? ⟨P0, 44, none⟩ = some (.bool true) := (hP_z3.cell (j := 44) (by decide)).trans ((get_ne (by decide)).trans ((get_ne (by decide)).trans HL_44.out))
       have p50_z3 : z3.cell? ⟨P0, 50, none⟩ = some (.bool false) := (hP_z3.cell (j := 50) (by decide)).trans ((get_ne (by decide)).trans ((get_ne (by decide)).trans HL_50.out))
       have p8_z3 : z3.cell? ⟨P0, 8, none⟩ = some (.int .i64 (B.hi 4)) := (hP_z3.cell (j := 8) (by decide)).trans (get_same (len_set' HLEN.out) (by decide))
       have p87_z3 : z3.cell? ⟨P0, 87, none⟩ = some (.int .i64 4) := (hP_z3.cell (j := 87) (by decide)).trans ((get_ne (by decide)).trans ((get_ne (by decide)).trans HL_87.out))
       clear hP_z2 x4_z2 x17_z2 E_z2 p44_z2 p50_z2 p8_z2 p87_z2
       clear hp hm))
  have HBz := Lib.hid (H.out.keep (fun n _ hn => (E_z3.1.heap (Nat.lt_of_lt_of_le hn HX1.out.size) (show ¬ n = P0 by have := HW0.out; omega)).trans (HX1.out.block n hn)))
  have HMz := Lib.hid (show Mut F w z3 from mut_new (HX1.out.mut F) E_z3.1 (by have := HW0.out; omega))
  have hPf := hP_z3
  have hrw := pv_row HQ.out HLEN.out E_z3 hPf
  have hlen := Lib.hid hPf.len
  have hone := Lib.hid (show ∀ v ∈ (((L.set 31 (.bool true)).set 8 (.int .i64 (B.hi 4))) : List Value), v.oneCell' = true from by
    have h0 := HONE.out
    exact (set_one (set_one h0 rfl) rfl))
  have HEQ := Lib.hid (show B.setPort k ((L.set 31 (.bool true)).set 8 (.int .i64 (B.hi 4))) = ((((B).setp k 31 (.bool true))).setp k 8 (.int .i64 (B.hi 4))) from (sp_s (j := 8) (v := .int .i64 (B.hi 4)) (sp_s (j := 31) (v := .bool true) (sp_0 (Z := B) HL.out h89.out) HLEN.out h89.out (by decide)) (len_set' HLEN.out) h89.out (by decide)))
  have c17y := x17_z3
  obtain ⟨N, hN⟩ : ∃ N, ((L.set 31 (.bool true)).set 8 (.int .i64 (B.hi 4))) = N := ⟨_, rfl⟩
  rw [hN] at hrw hlen hone HEQ
  clear hN hPf
  refine wp_region_tail 7 (by kernel_rfl) (by kernel_rfl) ?_
  intro w9 hw9
  have hx9 : Ext z3 w9 := by
    rw [hw9]
    exact (Ext.refl _).drew
  have HB2 := Lib.hid ((hx9.block _ (heap_lt hrw)).trans hrw)
  have d17 := cell_ext c17y hx9
  have hBy := Lib.hid (HBz.out.ext hx9)
  have hMy := Lib.hid (HMz.out.trans (hx9.mut F))
  have hth := Lib.hid (hBy.out.there (show k < (B).np from hk))
  have HSZ := Lib.hid hx9.size
  clear hw9 hrw c17y hx9
  simp only [List.take_succ_cons, List.take_zero, List.drop_succ_cons, List.drop_zero]
  iterate 5 still_step
  refine wpStill_load_row rfl 53 _ rfl P0 rfl _ _ _ HB2.out Try.underlying53 rfl (by rw [List.size_toArray, hlen.out]; exact size_port) ?_
  simp only [Act.put, List.setIfInBounds_toArray, List.set_cons_zero, List.set_cons_succ]
  iterate 1 still_step
  refine wpStill_nil ?_
  refine wpList_store_mid rfl 53 _ _ rfl g (k * 89) _ rfl rfl (by rw [List.size_toArray, hlen.out]; exact hth.out) (by rw [List.size_toArray, hlen.out]; exact size_port) (all_oneCell_toArray hone.out) ?_
  go_wp2_with fail
  go_ret
  have hfin := hBy.out.setPort (show k < (B).np from hk) (l := N) hlen.out
  rw [HEQ.out] at hfin
  exact ⟨rfl, hfin.mono (fun n hn => .inl hn), Mut.setCells (.inl H.out.F2) _ _ hMy.out⟩

set_option maxRecDepth 100000 in
set_option maxHeartbeats 4000000 in
theorem txd_c3t (w : World) (F : Nat → Prop) (X g k : Nat) (B : Br) (h : BrG w F X g B) (ho : B.ok) (hk : k < B.np) (hn : B.np < 1000) (h44 : B.gb k 44 = true) (h50 : B.gb k 50 = false) (h8 : B.gi k 8 = 0) (h87 : B.gi k 87 = 3) (h13 : (B.gi k 13 != 0) = true) :
    Calls Try.prog 19 #[.pointer (some ⟨X, 0, none⟩), .int .i64 k] w (fun e w' => e = .returned (.bool true) ∧ BrG w' (fun n => F n ∨ (w.heap.size ≤ n ∧ n < w'.heap.size)) X g ((((B.setp k 31 (.bool true))).setp k 8 (.int .i64 (B.hi 4)))) ∧ Mut F w w') := by
  obtain ⟨hX, hg, hne⟩ := h.lt
  obtain ⟨cap2, c17, hc3, hc4⟩ := h.cell17 ho
  have hn8 : k < 1000 := by omega
  have h89 := Lib.hid (len89 ho hk)
  have hpr := h.range hk
  have hT0 := br_typed ho hk
  have HONE := Lib.hid hT0.one
  have f44 : (port B.ps k)[44]? = some (.bool true) := (tpB hT0 44 rfl).trans (by rw [pB_port (by decide), h44])
  have f50 : (port B.ps k)[50]? = some (.bool false) := (tpB hT0 50 rfl).trans (by rw [pB_port (by decide), h50])
  have f8 : (port B.ps k)[8]? = some (.int .i64 0) := (tpI hT0 8 rfl).trans (by rw [pI_port (by decide), h8])
  have f87 : (port B.ps k)[87]? = some (.int .i64 3) := (tpI hT0 87 rfl).trans (by rw [pI_port (by decide), h87])
  have f13 : (port B.ps k)[13]? = some (.int .i64 (B.gi k 13)) := (tpI hT0 13 rfl).trans (by rw [pI_port (by decide)])
  obtain ⟨L, hL⟩ : ∃ L, port B.ps k = L := ⟨_, rfl⟩
  rw [hL] at hpr hT0 HONE f44 f50 f8 f87 f13
  have HL := Lib.hid hL
  have HLEN := Lib.hid (tpL hT0)
  have HPR := Lib.hid hpr
  clear hL hpr
  have hpz := Lib.hid (show (Try.prog.info? 53).map (·.size) = some L.length by rw [HLEN.out]; exact size_port)
  have hps := Lib.hid (show (Try.prog.info? 53).map (·.size) = some L.toArray.size by rw [List.size_toArray]; exact hpz.out)
  have hpl := Lib.hid (show PZ.size = L.toArray.size by rw [size_PZ, List.size_toArray]; exact HLEN.out.symm)
  have hpo := Lib.hid (all_oneCell_toArray HONE.out)
  have hzp := zero_port
  clear hT0
  have HL_44 := Lib.hid f44
  clear f44
  have HL_50 := Lib.hid f50
  clear f50
  have HL_8 := Lib.hid f8
  clear f8
  have HL_87 := Lib.hid f87
  clear f87
  have HL_13 := Lib.hid f13
  clear f13
  have x4 := (h.cellX ho (i := 4) (by decide)).trans (ho.hi 4 rfl)
  have Y4 := Lib.hid x4
  clear x4
  have Y17 := Lib.hid c17
  have H := Lib.hid h
  clear h
  go_enter Try.func19, Try.ntmps19
  go_upto_region 8 with (first
    | fail
    | ((with_reducible refine at_load 53 ?_); refine wpList_load_mid rfl 53 _ rfl g (k * 89) rfl L _ HPR.out Try.underlying53 rfl hpz.out ?_)
    | ((with_reducible refine at_store 53 ?_); refine wpList_store_new3 rfl rfl 53 _ _ _ rfl PZ L.toArray _ rfl ?_ rfl hps.out hpl.out (by rw [Array.all_toList]; exact hpo.out) ?_; · rfl
       intro z1 hz1
       have hx1 : Ext w z1 := by rw [hz1]; exact (Ext.refl _).alloc _
       have hq := heap_alloc_new w (.cells L.toArray 53)
       rw [← hz1] at hq
       obtain ⟨P0, hP0⟩ : ∃ n, w.heap.size = n := ⟨_, rfl⟩
       rw [hP0] at hq ⊢
       have hP_z1 : Pv z1 P0 0 L := Pv.box hq HLEN.out
       have HQ := Lib.hid hq
       have hXP : X ≠ P0 := by omega
       have hgP : g ≠ P0 := by omega
       have HW0 := Lib.hid hP0
       have x4_z1 : z1.cell? ⟨X, 4, none⟩ = some (.int .i64 (B.hi 4)) := cell_ext Y4.out hx1
       have x17_z1 : z1.cell? ⟨X, 17, none⟩ = some (.slice (some ⟨g, 0, none⟩) B.np cap2) := cell_ext Y17.out hx1
       have p44_z1 : z1.cell? ⟨P0, 44, none⟩ = some (.bool true) := (hP_z1.cell (j := 44) (by decide)).trans HL_44.out
       have p50_z1 : z1.cell? ⟨P0, 50, none⟩ = some (.bool false) := (hP_z1.cell (j := 50) (by decide)).trans HL_50.out
       have p8_z1 : z1.cell? ⟨P0, 8, none⟩ = some (.int .i64 0) := (hP_z1.cell (j := 8) (by decide)).trans HL_8.out
       have p87_z1 : z1.cell? ⟨P0, 87, none⟩ = some (.int .i64 3) := (hP_z1.cell (j := 87) (by decide)).trans HL_87.out
       have p13_z1 : z1.cell? ⟨P0, 13, none⟩ = some (.int .i64 (B.gi k 13)) := (hP_z1.cell (j := 13) (by decide)).trans HL_13.out
       have HX1 := Lib.hid hx1
       clear hz1 hq hP0 c17 hx1)
    | ((with_reducible refine at_store 4 ?_); refine st_pv rfl rfl 4 _ _ rfl P0 0 31 _ hP_z1 _ #[.bool true] rfl rfl rfl (by exact (by decide : 31 + 1 ≤ 89)) (by kernel_rfl) rfl ?_
       intro z2 hp hm
       replace hp := pv_one hp HLEN.out (by decide)
       have hP_z2 : Pv z2 P0 0 (L.set 31 (.bool true)) := hp
       have E_z2 : Pm P0 0 z1 z2 := hm
       have x4_z2 : z2.cell? ⟨X, 4, none⟩ = some (.int .i64 (B.hi 4)) := cell_pm x4_z1 hm hXP
       have x17_z2 : z2.cell? ⟨X, 17, none⟩ = some (.slice (some ⟨g, 0, none⟩) B.np cap2) := cell_pm x17_z1 hm hXP
       have p44_z2 : z2.cell? ⟨P0, 44, none⟩ = some (.bool true) := (hP_z2.cell (j := 44) (by decide)).trans ((get_ne (by decide)).trans HL_44.out)
       have p50_z2 : z2.cell? ⟨P0, 50, none⟩ = some (.bool false) := (hP_z2.cell (j := 50) (by decide)).trans ((get_ne (by decide)).trans HL_50.out)
       have p8_z2 : z2.cell? ⟨P0, 8, none⟩ = some (.int .i64 0) := (hP_z2.cell (j := 8) (by decide)).trans ((get_ne (by decide)).trans HL_8.out)
       have p87_z2 : z2.cell? ⟨P0, 87, none⟩ = some (.int .i64 3) := (hP_z2.cell (j := 87) (by decide)).trans ((get_ne (by decide)).trans HL_87.out)
       have p13_z2 : z2.cell? ⟨P0, 13, none⟩ = some (.int .i64 (B.gi k 13)) := (hP_z2.cell (j := 13) (by decide)).trans ((get_ne (by decide)).trans HL_13.out)
       clear hP_z1 x4_z1 x17_z1 p44_z1 p50_z1 p8_z1 p87_z1 p13_z1
       clear hp hm)
    | ((with_reducible refine at_store 3 ?_); refine st_pv rfl rfl 3 _ _ rfl P0 0 8 _ hP_z2 _ #[.int .i64 (B.hi 4)] rfl rfl rfl (by exact (by decide : 8 + 1 ≤ 89)) (by kernel_rfl) rfl ?_
       intro z3 hp hm
       replace hp := pv_one hp (len_set' HLEN.out) (by decide)
       have hP_z3 : Pv z3 P0 0 ((L.set 31 (.bool true)).set 8 (.int .i64 (B.hi 4))) := hp
       have E_z3 : Pm P0 0 z1 z3 := E_z2.trans hm
       have x4_z3 : z3.cell? ⟨X, 4, none⟩ = some (.int .i64 (B.hi 4)) := cell_pm x4_z2 hm hXP
       have x17_z3 : z3.cell? ⟨X, 17, none⟩ = some (.slice (some ⟨g, 0, none⟩) B.np cap2) := cell_pm x17_z2 hm hXP
       have p44_z3 : z3.cell? ⟨P0, 44, none⟩ = some (.bool true) := (hP_z3.cell (j := 44) (by decide)).trans ((get_ne (by decide)).trans ((get_ne (by decide)).trans HL_44.out))
       have p50_z3 : z3.cell? ⟨P0, 50, none⟩ = some (.bool false) := (hP_z3.cell (j := 50) (by decide)).trans ((get_ne (by decide)).trans ((get_ne (by decide)).trans HL_50.out))
       have p8_z3 : z3.cell? ⟨P0, 8, none⟩ = some (.int .i64 (B.hi 4)) := (hP_z3.cell (j := 8) (by decide)).trans (get_same (len_set' HLEN.out) (by decide))
       have p87_z3 : z3.cell? ⟨P0, 87, none⟩ = some (.int .i64 3) := (hP_z3.cell (j := 87) (by decide)).trans ((get_ne (by decide)).trans ((get_ne (by decide)).trans HL_87.out))
       have p13_z3 : z3.cell? ⟨P0, 13, none⟩ = some (.int .i64 (B.gi k 13)) := (hP_z3.cell (j := 13) (by decide)).trans ((get_ne (by decide)).trans ((get_ne (by decide)).trans HL_13.out))
       clear hP_z2 x4_z2 x17_z2 E_z2 p44_z2 p50_z2 p8_z2 p87_z2 p13_z2
       clear hp hm))
  have HBz := Lib.hid (H.out.keep (fun n _ hn => (E_z3.1.heap (Nat.lt_of_lt_of_le hn HX1.out.size) (show ¬ n = P0 by have := HW0.out; omega)).trans (HX1.out.block n hn)))
  have HMz := Lib.hid (show Mut F w z3 from mut_new (HX1.out.mut F) E_z3.1 (by have := HW0.out; omega))
  have hPf := hP_z3
  have hrw := pv_row HQ.out HLEN.out E_z3 hPf
  have hlen := Lib.hid hPf.len
  have hone := Lib.hid (show ∀ v ∈ (((L.set 31 (.bool true)).set 8 (.int .i64 (B.hi 4))) : List Value), v.oneCell' = true from by
    have h0 := HONE.out
    exact (set_one (set_one h0 rfl) rfl))
  have HEQ := Lib.hid (show B.setPort k ((L.set 31 (.bool true)).set 8 (.int .i64 (B.hi 4))) = ((((B).setp k 31 (.bool true))).setp k 8 (.int .i64 (B.hi 4))) from (sp_s (j := 8) (v := .int .i64 (B.hi 4)) (sp_s (j := 31) (v := .bool true) (sp_0 (Z := B) HL.out h89.out) HLEN.out h89.out (by decide)) (len_set' HLEN.out) h89.out (by decide)))
  have c17y := x17_z3
  obtain ⟨N, hN⟩ : ∃ N, ((L.set 31 (.bool true)).set 8 (.int .i64 (B.hi 4))) = N := ⟨_, rfl⟩
  rw [hN] at hrw hlen hone HEQ
  clear hN hPf
  refine wp_region_tail 7 (by kernel_rfl) (by kernel_rfl) ?_
  intro w9 hw9
  have hx9 : Ext z3 w9 := by
    rw [hw9]
    exact (Ext.refl _).drew
  have HB2 := Lib.hid ((hx9.block _ (heap_lt hrw)).trans hrw)
  have d17 := cell_ext c17y hx9
  have hBy := Lib.hid (HBz.out.ext hx9)
  have hMy := Lib.hid (HMz.out.trans (hx9.mut F))
  have hth := Lib.hid (hBy.out.there (show k < (B).np from hk))
  have HSZ := Lib.hid hx9.size
  clear hw9 hrw c17y hx9
  simp only [List.take_succ_cons, List.take_zero, List.drop_succ_cons, List.drop_zero]
  iterate 5 still_step
  refine wpStill_load_row rfl 53 _ rfl P0 rfl _ _ _ HB2.out Try.underlying53 rfl (by rw [List.size_toArray, hlen.out]; exact size_port) ?_
  simp only [Act.put, List.setIfInBounds_toArray, List.set_cons_zero, List.set_cons_succ]
  iterate 1 still_step
  refine wpStill_nil ?_
  refine wpList_store_mid rfl 53 _ _ rfl g (k * 89) _ rfl rfl (by rw [List.size_toArray, hlen.out]; exact hth.out) (by rw [List.size_toArray, hlen.out]; exact size_port) (all_oneCell_toArray hone.out) ?_
  go_wp2_with fail
  go_ret
  have hfin := hBy.out.setPort (show k < (B).np from hk) (l := N) hlen.out
  rw [HEQ.out] at hfin
  exact ⟨rfl, hfin.mono (fun n hn => .inl hn), Mut.setCells (.inl H.out.F2) _ _ hMy.out⟩

set_option maxRecDepth 100000 in
set_option maxHeartbeats 4000000 in
theorem txd_c3f (w : World) (F : Nat → Prop) (X g k : Nat) (B : Br) (h : BrG w F X g B) (ho : B.ok) (hk : k < B.np) (hn : B.np < 1000) (h44 : B.gb k 44 = true) (h50 : B.gb k 50 = false) (h8 : B.gi k 8 = 0) (h87 : B.gi k 87 = 3) (h13 : B.gi k 13 = 0) :
    Calls Try.prog 19 #[.pointer (some ⟨X, 0, none⟩), .int .i64 k] w (fun e w' => e = .returned (.bool true) ∧ BrG w' (fun n => F n ∨ (w.heap.size ≤ n ∧ n < w'.heap.size)) X g ((B.setp k 8 (.int .i64 (B.hi 4)))) ∧ Mut F w w') := by
  obtain ⟨hX, hg, hne⟩ := h.lt
  obtain ⟨cap2, c17, hc3, hc4⟩ := h.cell17 ho
  have hn8 : k < 1000 := by omega
  have h89 := Lib.hid (len89 ho hk)
  have hpr := h.range hk
  have hT0 := br_typed ho hk
  have HONE := Lib.hid hT0.one
  have f44 : (port B.ps k)[44]? = some (.bool true) := (tpB hT0 44 rfl).trans (by rw [pB_port (by decide), h44])
  have f50 : (port B.ps k)[50]? = some (.bool false) := (tpB hT0 50 rfl).trans (by rw [pB_port (by decide), h50])
  have f8 : (port B.ps k)[8]? = some (.int .i64 0) := (tpI hT0 8 rfl).trans (by rw [pI_port (by decide), h8])
  have f87 : (port B.ps k)[87]? = some (.int .i64 3) := (tpI hT0 87 rfl).trans (by rw [pI_port (by decide), h87])
  have f13 : (port B.ps k)[13]? = some (.int .i64 0) := (tpI hT0 13 rfl).trans (by rw [pI_port (by decide), h13])
  obtain ⟨L, hL⟩ : ∃ L, port B.ps k = L := ⟨_, rfl⟩
  rw [hL] at hpr hT0 HONE f44 f50 f8 f87 f13
  have HL := Lib.hid hL
  have HLEN := Lib.hid (tpL hT0)
  have HPR := Lib.hid hpr
  clear hL hpr
  have hpz := Lib.hid (show (Try.prog.info? 53).map (·.size) = some L.length by rw [HLEN.out]; exact size_port)
  have hps := Lib.hid (show (Try.prog.info? 53).map (·.size) = some L.toArray.size by rw [List.size_toArray]; exact hpz.out)
  have hpl := Lib.hid (show PZ.size = L.toArray.size by rw [size_PZ, List.size_toArray]; exact HLEN.out.symm)
  have hpo := Lib.hid (all_oneCell_toArray HONE.out)
  have hzp := zero_port
  clear hT0
  have HL_44 := Lib.hid f44
  clear f44
  have HL_50 := Lib.hid f50
  clear f50
  have HL_8 := Lib.hid f8
  clear f8
  have HL_87 := Lib.hid f87
  clear f87
  have HL_13 := Lib.hid f13
  clear f13
  have x4 := (h.cellX ho (i := 4) (by decide)).trans (ho.hi 4 rfl)
  have Y4 := Lib.hid x4
  clear x4
  have Y17 := Lib.hid c17
  have H := Lib.hid h
  clear h
  go_enter Try.func19, Try.ntmps19
  go_upto_region 8 with (first
    | fail
    | ((with_reducible refine at_load 53 ?_); refine wpList_load_mid rfl 53 _ rfl g (k * 89) rfl L _ HPR.out Try.underlying53 rfl hpz.out ?_)
    | ((with_reducible refine at_store 53 ?_); refine wpList_store_new3 rfl rfl 53 _ _ _ rfl PZ L.toArray _ rfl ?_ rfl hps.out hpl.out (by rw [Array.all_toList]; exact hpo.out) ?_; · rfl
       intro z1 hz1
       have hx1 : Ext w z1 := by rw [hz1]; exact (Ext.refl _).alloc _
       have hq := heap_alloc_new w (.cells L.toArray 53)
       rw [← hz1] at hq
       obtain ⟨P0, hP0⟩ : ∃ n, w.heap.size = n := ⟨_, rfl⟩
       rw [hP0] at hq ⊢
       have hP_z1 : Pv z1 P0 0 L := Pv.box hq HLEN.out
       have HQ := Lib.hid hq
       have hXP : X ≠ P0 := by omega
       have hgP : g ≠ P0 := by omega
       have HW0 := Lib.hid hP0
       have x4_z1 : z1.cell? ⟨X, 4, none⟩ = some (.int .i64 (B.hi 4)) := cell_ext Y4.out hx1
       have x17_z1 : z1.cell? ⟨X, 17, none⟩ = some (.slice (some ⟨g, 0, none⟩) B.np cap2) := cell_ext Y17.out hx1
       have p44_z1 : z1.cell? ⟨P0, 44, none⟩ = some (.bool true) := (hP_z1.cell (j := 44) (by decide)).trans HL_44.out
       have p50_z1 : z1.cell? ⟨P0, 50, none⟩ = some (.bool false) := (hP_z1.cell (j := 50) (by decide)).trans HL_50.out
       have p8_z1 : z1.cell? ⟨P0, 8, none⟩ = some (.int .i64 0) := (hP_z1.cell (j := 8) (by decide)).trans HL_8.out
       have p87_z1 : z1.cell? ⟨P0, 87, none⟩ = some (.int .i64 3) := (hP_z1.cell (j := 87) (by decide)).trans HL_87.out
       have p13_z1 : z1.cell? ⟨P0, 13, none⟩ = some (.int .i64 0) := (hP_z1.cell (j := 13) (by decide)).trans HL_13.out
       have HX1 := Lib.hid hx1
       clear hz1 hq hP0 c17 hx1)
    | ((with_reducible refine at_store 3 ?_); refine st_pv rfl rfl 3 _ _ rfl P0 0 8 _ hP_z1 _ #[.int .i64 (B.hi 4)] rfl rfl rfl (by exact (by decide : 8 + 1 ≤ 89)) (by kernel_rfl) rfl ?_
       intro z2 hp hm
       replace hp := pv_one hp HLEN.out (by decide)
       have hP_z2 : Pv z2 P0 0 (L.set 8 (.int .i64 (B.hi 4))) := hp
       have E_z2 : Pm P0 0 z1 z2 := hm
       have x4_z2 : z2.cell? ⟨X, 4, none⟩ = some (.int .i64 (B.hi 4)) := cell_pm x4_z1 hm hXP
       have x17_z2 : z2.cell? ⟨X, 17, none⟩ = some (.slice (some ⟨g, 0, none⟩) B.np cap2) := cell_pm x17_z1 hm hXP
       have p44_z2 : z2.cell? ⟨P0, 44, none⟩ = some (.bool true) := (hP_z2.cell (j := 44) (by decide)).trans ((get_ne (by decide)).trans HL_44.out)
       have p50_z2 : z2.cell? ⟨P0, 50, none⟩ = some (.bool false) := (hP_z2.cell (j := 50) (by decide)).trans ((get_ne (by decide)).trans HL_50.out)
       have p8_z2 : z2.cell? ⟨P0, 8, none⟩ = some (.int .i64 (B.hi 4)) := (hP_z2.cell (j := 8) (by decide)).trans (get_same HLEN.out (by decide))
       have p87_z2 : z2.cell? ⟨P0, 87, none⟩ = some (.int .i64 3) := (hP_z2.cell (j := 87) (by decide)).trans ((get_ne (by decide)).trans HL_87.out)
       have p13_z2 : z2.cell? ⟨P0, 13, none⟩ = some (.int .i64 0) := (hP_z2.cell (j := 13) (by decide)).trans ((get_ne (by decide)).trans HL_13.out)
       clear hP_z1 x4_z1 x17_z1 p44_z1 p50_z1 p8_z1 p87_z1 p13_z1
       clear hp hm))
  have HBz := Lib.hid (H.out.keep (fun n _ hn => (E_z2.1.heap (Nat.lt_of_lt_of_le hn HX1.out.size) (show ¬ n = P0 by have := HW0.out; omega)).trans (HX1.out.block n hn)))
  have HMz := Lib.hid (show Mut F w z2 from mut_new (HX1.out.mut F) E_z2.1 (by have := HW0.out; omega))
  have hPf := hP_z2
  have hrw := pv_row HQ.out HLEN.out E_z2 hPf
  have hlen := Lib.hid hPf.len
  have hone := Lib.hid (show ∀ v ∈ ((L.set 8 (.int .i64 (B.hi 4))) : List Value), v.oneCell' = true from by
    have h0 := HONE.out
    exact (set_one h0 rfl))
  have HEQ := Lib.hid (show B.setPort k (L.set 8 (.int .i64 (B.hi 4))) = ((B).setp k 8 (.int .i64 (B.hi 4))) from (sp_s (j := 8) (v := .int .i64 (B.hi 4)) (sp_0 (Z := B) HL.out h89.out) HLEN.out h89.out (by decide)))
  have c17y := x17_z2
  obtain ⟨N, hN⟩ : ∃ N, (L.set 8 (.int .i64 (B.hi 4))) = N := ⟨_, rfl⟩
  rw [hN] at hrw hlen hone HEQ
  clear hN hPf
  refine wp_region_tail 7 (by kernel_rfl) (by kernel_rfl) ?_
  intro w9 hw9
  have hx9 : Ext z2 w9 := by
    rw [hw9]
    exact (Ext.refl _).drew
  have HB2 := Lib.hid ((hx9.block _ (heap_lt hrw)).trans hrw)
  have d17 := cell_ext c17y hx9
  have hBy := Lib.hid (HBz.out.ext hx9)
  have hMy := Lib.hid (HMz.out.trans (hx9.mut F))
  have hth := Lib.hid (hBy.out.there (show k < (B).np from hk))
  have HSZ := Lib.hid hx9.size
  clear hw9 hrw c17y hx9
  simp only [List.take_succ_cons, List.take_zero, List.drop_succ_cons, List.drop_zero]
  iterate 5 still_step
  refine wpStill_load_row rfl 53 _ rfl P0 rfl _ _ _ HB2.out Try.underlying53 rfl (by rw [List.size_toArray, hlen.out]; exact size_port) ?_
  simp only [Act.put, List.setIfInBounds_toArray, List.set_cons_zero, List.set_cons_succ]
  iterate 1 still_step
  refine wpStill_nil ?_
  refine wpList_store_mid rfl 53 _ _ rfl g (k * 89) _ rfl rfl (by rw [List.size_toArray, hlen.out]; exact hth.out) (by rw [List.size_toArray, hlen.out]; exact size_port) (all_oneCell_toArray hone.out) ?_
  go_wp2_with fail
  go_ret
  have hfin := hBy.out.setPort (show k < (B).np from hk) (l := N) hlen.out
  rw [HEQ.out] at hfin
  exact ⟨rfl, hfin.mono (fun n hn => .inl hn), Mut.setCells (.inl H.out.F2) _ _ hMy.out⟩

set_option maxRecDepth 100000 in
set_option maxHeartbeats 4000000 in
theorem txd_cx (w : World) (F : Nat → Prop) (X g k : Nat) (B : Br) (h : BrG w F X g B) (ho : B.ok) (hk : k < B.np) (hn : B.np < 1000) (h44 : B.gb k 44 = true) (h50 : B.gb k 50 = false) (h8 : B.gi k 8 = 0) (n4 : (B.gi k 87 == 4) = false) (n3 : (B.gi k 87 == 3) = false) :
    Calls Try.prog 19 #[.pointer (some ⟨X, 0, none⟩), .int .i64 k] w (fun e w' => e = .returned (.bool true) ∧ BrG w' (fun n => F n ∨ (w.heap.size ≤ n ∧ n < w'.heap.size)) X g ((B.setp k 8 (.int .i64 (B.hi 4)))) ∧ Mut F w w') := by
  obtain ⟨hX, hg, hne⟩ := h.lt
  obtain ⟨cap2, c17, hc3, hc4⟩ := h.cell17 ho
  have hn8 : k < 1000 := by omega
  have h89 := Lib.hid (len89 ho hk)
  have hpr := h.range hk
  have hT0 := br_typed ho hk
  have HONE := Lib.hid hT0.one
  have f44 : (port B.ps k)[44]? = some (.bool true) := (tpB hT0 44 rfl).trans (by rw [pB_port (by decide), h44])
  have f50 : (port B.ps k)[50]? = some (.bool false) := (tpB hT0 50 rfl).trans (by rw [pB_port (by decide), h50])
  have f8 : (port B.ps k)[8]? = some (.int .i64 0) := (tpI hT0 8 rfl).trans (by rw [pI_port (by decide), h8])
  have f87 : (port B.ps k)[87]? = some (.int .i64 (B.gi k 87)) := (tpI hT0 87 rfl).trans (by rw [pI_port (by decide)])
  obtain ⟨L, hL⟩ : ∃ L, port B.ps k = L := ⟨_, rfl⟩
  rw [hL] at hpr hT0 HONE f44 f50 f8 f87
  have HL := Lib.hid hL
  have HLEN := Lib.hid (tpL hT0)
  have HPR := Lib.hid hpr
  clear hL hpr
  have hpz := Lib.hid (show (Try.prog.info? 53).map (·.size) = some L.length by rw [HLEN.out]; exact size_port)
  have hps := Lib.hid (show (Try.prog.info? 53).map (·.size) = some L.toArray.size by rw [List.size_toArray]; exact hpz.out)
  have hpl := Lib.hid (show PZ.size = L.toArray.size by rw [size_PZ, List.size_toArray]; exact HLEN.out.symm)
  have hpo := Lib.hid (all_oneCell_toArray HONE.out)
  have hzp := zero_port
  clear hT0
  have HL_44 := Lib.hid f44
  clear f44
  have HL_50 := Lib.hid f50
  clear f50
  have HL_8 := Lib.hid f8
  clear f8
  have HL_87 := Lib.hid f87
  clear f87
  have x4 := (h.cellX ho (i := 4) (by decide)).trans (ho.hi 4 rfl)
  have Y4 := Lib.hid x4
  clear x4
  have Y17 := Lib.hid c17
  have H := Lib.hid h
  clear h
  go_enter Try.func19, Try.ntmps19
  go_upto_region 8 with (first
    | fail
    | ((with_reducible refine at_load 53 ?_); refine wpList_load_mid rfl 53 _ rfl g (k * 89) rfl L _ HPR.out Try.underlying53 rfl hpz.out ?_)
    | ((with_reducible refine at_store 53 ?_); refine wpList_store_new3 rfl rfl 53 _ _ _ rfl PZ L.toArray _ rfl ?_ rfl hps.out hpl.out (by rw [Array.all_toList]; exact hpo.out) ?_; · rfl
       intro z1 hz1
       have hx1 : Ext w z1 := by rw [hz1]; exact (Ext.refl _).alloc _
       have hq := heap_alloc_new w (.cells L.toArray 53)
       rw [← hz1] at hq
       obtain ⟨P0, hP0⟩ : ∃ n, w.heap.size = n := ⟨_, rfl⟩
       rw [hP0] at hq ⊢
       have hP_z1 : Pv z1 P0 0 L := Pv.box hq HLEN.out
       have HQ := Lib.hid hq
       have hXP : X ≠ P0 := by omega
       have hgP : g ≠ P0 := by omega
       have HW0 := Lib.hid hP0
       have x4_z1 : z1.cell? ⟨X, 4, none⟩ = some (.int .i64 (B.hi 4)) := cell_ext Y4.out hx1
       have x17_z1 : z1.cell? ⟨X, 17, none⟩ = some (.slice (some ⟨g, 0, none⟩) B.np cap2) := cell_ext Y17.out hx1
       have p44_z1 : z1.cell? ⟨P0, 44, none⟩ = some (.bool true) := (hP_z1.cell (j := 44) (by decide)).trans HL_44.out
       have p50_z1 : z1.cell? ⟨P0, 50, none⟩ = some (.bool false) := (hP_z1.cell (j := 50) (by decide)).trans HL_50.out
       have p8_z1 : z1.cell? ⟨P0, 8, none⟩ = some (.int .i64 0) := (hP_z1.cell (j := 8) (by decide)).trans HL_8.out
       have p87_z1 : z1.cell? ⟨P0, 87, none⟩ = some (.int .i64 (B.gi k 87)) := (hP_z1.cell (j := 87) (by decide)).trans HL_87.out
       have HX1 := Lib.hid hx1
       clear hz1 hq hP0 c17 hx1)
    | ((with_reducible refine at_store 3 ?_); refine st_pv rfl rfl 3 _ _ rfl P0 0 8 _ hP_z1 _ #[.int .i64 (B.hi 4)] rfl rfl rfl (by exact (by decide : 8 + 1 ≤ 89)) (by kernel_rfl) rfl ?_
       intro z2 hp hm
       replace hp := pv_one hp HLEN.out (by decide)
       have hP_z2 : Pv z2 P0 0 (L.set 8 (.int .i64 (B.hi 4))) := hp
       have E_z2 : Pm P0 0 z1 z2 := hm
       have x4_z2 : z2.cell? ⟨X, 4, none⟩ = some (.int .i64 (B.hi 4)) := cell_pm x4_z1 hm hXP
       have x17_z2 : z2.cell? ⟨X, 17, none⟩ = some (.slice (some ⟨g, 0, none⟩) B.np cap2) := cell_pm x17_z1 hm hXP
       have p44_z2 : z2.cell? ⟨P0, 44, none⟩ = some (.bool true) := (hP_z2.cell (j := 44) (by decide)).trans ((get_ne (by decide)).trans HL_44.out)
       have p50_z2 : z2.cell? ⟨P0, 50, none⟩ = some (.bool false) := (hP_z2.cell (j := 50) (by decide)).trans ((get_ne (by decide)).trans HL_50.out)
       have p8_z2 : z2.cell? ⟨P0, 8, none⟩ = some (.int .i64 (B.hi 4)) := (hP_z2.cell (j := 8) (by decide)).trans (get_same HLEN.out (by decide))
       have p87_z2 : z2.cell? ⟨P0, 87, none⟩ = some (.int .i64 (B.gi k 87)) := (hP_z2.cell (j := 87) (by decide)).trans ((get_ne (by decide)).trans HL_87.out)
       clear hP_z1 x4_z1 x17_z1 p44_z1 p50_z1 p8_z1 p87_z1
       clear hp hm))
  have HBz := Lib.hid (H.out.keep (fun n _ hn => (E_z2.1.heap (Nat.lt_of_lt_of_le hn HX1.out.size) (show ¬ n = P0 by have := HW0.out; omega)).trans (HX1.out.block n hn)))
  have HMz := Lib.hid (show Mut F w z2 from mut_new (HX1.out.mut F) E_z2.1 (by have := HW0.out; omega))
  have hPf := hP_z2
  have hrw := pv_row HQ.out HLEN.out E_z2 hPf
  have hlen := Lib.hid hPf.len
  have hone := Lib.hid (show ∀ v ∈ ((L.set 8 (.int .i64 (B.hi 4))) : List Value), v.oneCell' = true from by
    have h0 := HONE.out
    exact (set_one h0 rfl))
  have HEQ := Lib.hid (show B.setPort k (L.set 8 (.int .i64 (B.hi 4))) = ((B).setp k 8 (.int .i64 (B.hi 4))) from (sp_s (j := 8) (v := .int .i64 (B.hi 4)) (sp_0 (Z := B) HL.out h89.out) HLEN.out h89.out (by decide)))
  have c17y := x17_z2
  obtain ⟨N, hN⟩ : ∃ N, (L.set 8 (.int .i64 (B.hi 4))) = N := ⟨_, rfl⟩
  rw [hN] at hrw hlen hone HEQ
  clear hN hPf
  refine wp_region_tail 7 (by kernel_rfl) (by kernel_rfl) ?_
  intro w9 hw9
  have hx9 : Ext z2 w9 := by
    rw [hw9]
    exact (Ext.refl _).drew
  have HB2 := Lib.hid ((hx9.block _ (heap_lt hrw)).trans hrw)
  have d17 := cell_ext c17y hx9
  have hBy := Lib.hid (HBz.out.ext hx9)
  have hMy := Lib.hid (HMz.out.trans (hx9.mut F))
  have hth := Lib.hid (hBy.out.there (show k < (B).np from hk))
  have HSZ := Lib.hid hx9.size
  clear hw9 hrw c17y hx9
  simp only [List.take_succ_cons, List.take_zero, List.drop_succ_cons, List.drop_zero]
  iterate 5 still_step
  refine wpStill_load_row rfl 53 _ rfl P0 rfl _ _ _ HB2.out Try.underlying53 rfl (by rw [List.size_toArray, hlen.out]; exact size_port) ?_
  simp only [Act.put, List.setIfInBounds_toArray, List.set_cons_zero, List.set_cons_succ]
  iterate 1 still_step
  refine wpStill_nil ?_
  refine wpList_store_mid rfl 53 _ _ rfl g (k * 89) _ rfl rfl (by rw [List.size_toArray, hlen.out]; exact hth.out) (by rw [List.size_toArray, hlen.out]; exact size_port) (all_oneCell_toArray hone.out) ?_
  go_wp2_with fail
  go_ret
  have hfin := hBy.out.setPort (show k < (B).np from hk) (l := N) hlen.out
  rw [HEQ.out] at hfin
  exact ⟨rfl, hfin.mono (fun n hn => .inl hn), Mut.setCells (.inl H.out.F2) _ _ hMy.out⟩

set_option maxRecDepth 100000 in
set_option maxHeartbeats 4000000 in
theorem txd_n2 (w : World) (F : Nat → Prop) (X g k : Nat) (B : Br) (h : BrG w F X g B) (ho : B.ok) (hk : k < B.np) (hn : B.np < 1000) (h44 : B.gb k 44 = true) (h50 : B.gb k 50 = false) (n8 : (B.gi k 8 == 0) = false) (h31 : B.gb k 31 = false) :
    Calls Try.prog 19 #[.pointer (some ⟨X, 0, none⟩), .int .i64 k] w (fun e w' => e = .returned (.bool false) ∧ BrG w' (fun n => F n ∨ (w.heap.size ≤ n ∧ n < w'.heap.size)) X g (B) ∧ Mut F w w') := by
  obtain ⟨hX, hg, hne⟩ := h.lt
  obtain ⟨cap2, c17, hc3, hc4⟩ := h.cell17 ho
  have hn8 : k < 1000 := by omega
  have h89 := Lib.hid (len89 ho hk)
  have hpr := h.range hk
  have hT0 := br_typed ho hk
  have HONE := Lib.hid hT0.one
  have f44 : (port B.ps k)[44]? = some (.bool true) := (tpB hT0 44 rfl).trans (by rw [pB_port (by decide), h44])
  have f50 : (port B.ps k)[50]? = some (.bool false) := (tpB hT0 50 rfl).trans (by rw [pB_port (by decide), h50])
  have f8 : (port B.ps k)[8]? = some (.int .i64 (B.gi k 8)) := (tpI hT0 8 rfl).trans (by rw [pI_port (by decide)])
  have f31 : (port B.ps k)[31]? = some (.bool false) := (tpB hT0 31 rfl).trans (by rw [pB_port (by decide), h31])
  obtain ⟨L, hL⟩ : ∃ L, port B.ps k = L := ⟨_, rfl⟩
  rw [hL] at hpr hT0 HONE f44 f50 f8 f31
  have HL := Lib.hid hL
  have HLEN := Lib.hid (tpL hT0)
  have HPR := Lib.hid hpr
  clear hL hpr
  have hpz := Lib.hid (show (Try.prog.info? 53).map (·.size) = some L.length by rw [HLEN.out]; exact size_port)
  have hps := Lib.hid (show (Try.prog.info? 53).map (·.size) = some L.toArray.size by rw [List.size_toArray]; exact hpz.out)
  have hpl := Lib.hid (show PZ.size = L.toArray.size by rw [size_PZ, List.size_toArray]; exact HLEN.out.symm)
  have hpo := Lib.hid (all_oneCell_toArray HONE.out)
  have hzp := zero_port
  clear hT0
  have HL_44 := Lib.hid f44
  clear f44
  have HL_50 := Lib.hid f50
  clear f50
  have HL_8 := Lib.hid f8
  clear f8
  have HL_31 := Lib.hid f31
  clear f31
  have x6 := (h.cellX ho (i := 6) (by decide)).trans (ho.hi 6 rfl)
  have Y6 := Lib.hid x6
  clear x6
  have Y17 := Lib.hid c17
  have H := Lib.hid h
  clear h
  go_enter Try.func19, Try.ntmps19
  go_wp2_with (first
    | fail
    | ((with_reducible refine at_load 53 ?_); refine wpList_load_mid rfl 53 _ rfl g (k * 89) rfl L _ HPR.out Try.underlying53 rfl hpz.out ?_)
    | ((with_reducible refine at_store 53 ?_); refine wpList_store_new3 rfl rfl 53 _ _ _ rfl PZ L.toArray _ rfl ?_ rfl hps.out hpl.out (by rw [Array.all_toList]; exact hpo.out) ?_; · rfl
       intro z1 hz1
       have hx1 : Ext w z1 := by rw [hz1]; exact (Ext.refl _).alloc _
       have hq := heap_alloc_new w (.cells L.toArray 53)
       rw [← hz1] at hq
       obtain ⟨P0, hP0⟩ : ∃ n, w.heap.size = n := ⟨_, rfl⟩
       rw [hP0] at hq ⊢
       have hP_z1 : Pv z1 P0 0 L := Pv.box hq HLEN.out
       have HQ := Lib.hid hq
       have hXP : X ≠ P0 := by omega
       have hgP : g ≠ P0 := by omega
       have HW0 := Lib.hid hP0
       have x6_z1 : z1.cell? ⟨X, 6, none⟩ = some (.int .i64 (B.hi 6)) := cell_ext Y6.out hx1
       have x17_z1 : z1.cell? ⟨X, 17, none⟩ = some (.slice (some ⟨g, 0, none⟩) B.np cap2) := cell_ext Y17.out hx1
       have p44_z1 : z1.cell? ⟨P0, 44, none⟩ = some (.bool true) := (hP_z1.cell (j := 44) (by decide)).trans HL_44.out
       have p50_z1 : z1.cell? ⟨P0, 50, none⟩ = some (.bool false) := (hP_z1.cell (j := 50) (by decide)).trans HL_50.out
       have p8_z1 : z1.cell? ⟨P0, 8, none⟩ = some (.int .i64 (B.gi k 8)) := (hP_z1.cell (j := 8) (by decide)).trans HL_8.out
       have p31_z1 : z1.cell? ⟨P0, 31, none⟩ = some (.bool false) := (hP_z1.cell (j := 31) (by decide)).trans HL_31.out
       have HX1 := Lib.hid hx1
       clear hz1 hq hP0 c17 hx1))
  go_quiet (fail)
  go_wp2_with fail
  go_ret
  exact ⟨rfl, (H.out.ext (HX1.out.trans ((Ext.refl z1).drewN _))).mono (fun n hn => .inl hn), (HX1.out.trans ((Ext.refl z1).drewN _)).mut F⟩

set_option maxRecDepth 100000 in
set_option maxHeartbeats 4000000 in
theorem txd_n3 (w : World) (F : Nat → Prop) (X g k : Nat) (B : Br) (h : BrG w F X g B) (ho : B.ok) (hk : k < B.np) (hn : B.np < 1000) (h44 : B.gb k 44 = true) (h50 : B.gb k 50 = false) (n8 : (B.gi k 8 == 0) = false) (h31 : B.gb k 31 = true) (hlt : ¬ B.gi k 14 < B.hi 6) :
    Calls Try.prog 19 #[.pointer (some ⟨X, 0, none⟩), .int .i64 k] w (fun e w' => e = .returned (.bool false) ∧ BrG w' (fun n => F n ∨ (w.heap.size ≤ n ∧ n < w'.heap.size)) X g (B) ∧ Mut F w w') := by
  have hlt2 : decide (B.hi 6 ≤ B.gi k 14) = true := by simp; omega
  obtain ⟨hX, hg, hne⟩ := h.lt
  obtain ⟨cap2, c17, hc3, hc4⟩ := h.cell17 ho
  have hn8 : k < 1000 := by omega
  have h89 := Lib.hid (len89 ho hk)
  have hpr := h.range hk
  have hT0 := br_typed ho hk
  have HONE := Lib.hid hT0.one
  have f44 : (port B.ps k)[44]? = some (.bool true) := (tpB hT0 44 rfl).trans (by rw [pB_port (by decide), h44])
  have f50 : (port B.ps k)[50]? = some (.bool false) := (tpB hT0 50 rfl).trans (by rw [pB_port (by decide), h50])
  have f8 : (port B.ps k)[8]? = some (.int .i64 (B.gi k 8)) := (tpI hT0 8 rfl).trans (by rw [pI_port (by decide)])
  have f31 : (port B.ps k)[31]? = some (.bool true) := (tpB hT0 31 rfl).trans (by rw [pB_port (by decide), h31])
  have f14 : (port B.ps k)[14]? = some (.int .i64 (B.gi k 14)) := (tpI hT0 14 rfl).trans (by rw [pI_port (by decide)])
  obtain ⟨L, hL⟩ : ∃ L, port B.ps k = L := ⟨_, rfl⟩
  rw [hL] at hpr hT0 HONE f44 f50 f8 f31 f14
  have HL := Lib.hid hL
  have HLEN := Lib.hid (tpL hT0)
  have HPR := Lib.hid hpr
  clear hL hpr
  have hpz := Lib.hid (show (Try.prog.info? 53).map (·.size) = some L.length by rw [HLEN.out]; exact size_port)
  have hps := Lib.hid (show (Try.prog.info? 53).map (·.size) = some L.toArray.size by rw [List.size_toArray]; exact hpz.out)
  have hpl := Lib.hid (show PZ.size = L.toArray.size by rw [size_PZ, List.size_toArray]; exact HLEN.out.symm)
  have hpo := Lib.hid (all_oneCell_toArray HONE.out)
  have hzp := zero_port
  clear hT0
  have HL_44 := Lib.hid f44
  clear f44
  have HL_50 := Lib.hid f50
  clear f50
  have HL_8 := Lib.hid f8
  clear f8
  have HL_31 := Lib.hid f31
  clear f31
  have HL_14 := Lib.hid f14
  clear f14
  have x6 := (h.cellX ho (i := 6) (by decide)).trans (ho.hi 6 rfl)
  have Y6 := Lib.hid x6
  clear x6
  have Y17 := Lib.hid c17
  have H := Lib.hid h
  clear h
  go_enter Try.func19, Try.ntmps19
  go_wp2_with (first
    | fail
    | ((with_reducible refine at_load 53 ?_); refine wpList_load_mid rfl 53 _ rfl g (k * 89) rfl L _ HPR.out Try.underlying53 rfl hpz.out ?_)
    | ((with_reducible refine at_store 53 ?_); refine wpList_store_new3 rfl rfl 53 _ _ _ rfl PZ L.toArray _ rfl ?_ rfl hps.out hpl.out (by rw [Array.all_toList]; exact hpo.out) ?_; · rfl
       intro z1 hz1
       have hx1 : Ext w z1 := by rw [hz1]; exact (Ext.refl _).alloc _
       have hq := heap_alloc_new w (.cells L.toArray 53)
       rw [← hz1] at hq
       obtain ⟨P0, hP0⟩ : ∃ n, w.heap.size = n := ⟨_, rfl⟩
       rw [hP0] at hq ⊢
       have hP_z1 : Pv z1 P0 0 L := Pv.box hq HLEN.out
       have HQ := Lib.hid hq
       have hXP : X ≠ P0 := by omega
       have hgP : g ≠ P0 := by omega
       have HW0 := Lib.hid hP0
       have x6_z1 : z1.cell? ⟨X, 6, none⟩ = some (.int .i64 (B.hi 6)) := cell_ext Y6.out hx1
       have x17_z1 : z1.cell? ⟨X, 17, none⟩ = some (.slice (some ⟨g, 0, none⟩) B.np cap2) := cell_ext Y17.out hx1
       have p44_z1 : z1.cell? ⟨P0, 44, none⟩ = some (.bool true) := (hP_z1.cell (j := 44) (by decide)).trans HL_44.out
       have p50_z1 : z1.cell? ⟨P0, 50, none⟩ = some (.bool false) := (hP_z1.cell (j := 50) (by decide)).trans HL_50.out
       have p8_z1 : z1.cell? ⟨P0, 8, none⟩ = some (.int .i64 (B.gi k 8)) := (hP_z1.cell (j := 8) (by decide)).trans HL_8.out
       have p31_z1 : z1.cell? ⟨P0, 31, none⟩ = some (.bool true) := (hP_z1.cell (j := 31) (by decide)).trans HL_31.out
       have p14_z1 : z1.cell? ⟨P0, 14, none⟩ = some (.int .i64 (B.gi k 14)) := (hP_z1.cell (j := 14) (by decide)).trans HL_14.out
       have HX1 := Lib.hid hx1
       clear hz1 hq hP0 c17 hx1))
  go_quiet (fail)
  go_wp2_with fail
  go_ret
  exact ⟨rfl, (H.out.ext (HX1.out.trans ((Ext.refl z1).drewN _))).mono (fun n hn => .inl hn), (HX1.out.trans ((Ext.refl z1).drewN _)).mut F⟩

set_option maxRecDepth 100000 in
set_option maxHeartbeats 4000000 in
theorem txd_k0 (w : World) (F : Nat → Prop) (X g k : Nat) (B : Br) (h : BrG w F X g B) (ho : B.ok) (hk : k < B.np) (hn : B.np < 1000) (h44 : B.gb k 44 = true) (h50 : B.gb k 50 = false) (n8 : (B.gi k 8 == 0) = false) (h31 : B.gb k 31 = true) (hlt : B.gi k 14 < B.hi 6) (h45 : B.gb k 45 = false) (n4 : (B.gi k 87 == 4) = false) (n3 : (B.gi k 87 == 3) = false) :
    Calls Try.prog 19 #[.pointer (some ⟨X, 0, none⟩), .int .i64 k] w (fun e w' => e = .returned (.bool false) ∧ BrG w' (fun n => F n ∨ (w.heap.size ≤ n ∧ n < w'.heap.size)) X g (B) ∧ Mut F w w') := by
  have hlt2 : decide (B.hi 6 ≤ B.gi k 14) = false := by simp; omega
  obtain ⟨hX, hg, hne⟩ := h.lt
  obtain ⟨cap2, c17, hc3, hc4⟩ := h.cell17 ho
  have hn8 : k < 1000 := by omega
  have h89 := Lib.hid (len89 ho hk)
  have hpr := h.range hk
  have hT0 := br_typed ho hk
  have HONE := Lib.hid hT0.one
  have f44 : (port B.ps k)[44]? = some (.bool true) := (tpB hT0 44 rfl).trans (by rw [pB_port (by decide), h44])
  have f50 : (port B.ps k)[50]? = some (.bool false) := (tpB hT0 50 rfl).trans (by rw [pB_port (by decide), h50])
  have f8 : (port B.ps k)[8]? = some (.int .i64 (B.gi k 8)) := (tpI hT0 8 rfl).trans (by rw [pI_port (by decide)])
  have f31 : (port B.ps k)[31]? = some (.bool true) := (tpB hT0 31 rfl).trans (by rw [pB_port (by decide), h31])
  have f14 : (port B.ps k)[14]? = some (.int .i64 (B.gi k 14)) := (tpI hT0 14 rfl).trans (by rw [pI_port (by decide)])
  have f45 : (port B.ps k)[45]? = some (.bool false) := (tpB hT0 45 rfl).trans (by rw [pB_port (by decide), h45])
  have f87 : (port B.ps k)[87]? = some (.int .i64 (B.gi k 87)) := (tpI hT0 87 rfl).trans (by rw [pI_port (by decide)])
  obtain ⟨L, hL⟩ : ∃ L, port B.ps k = L := ⟨_, rfl⟩
  rw [hL] at hpr hT0 HONE f44 f50 f8 f31 f14 f45 f87
  have HL := Lib.hid hL
  have HLEN := Lib.hid (tpL hT0)
  have HPR := Lib.hid hpr
  clear hL hpr
  have hpz := Lib.hid (show (Try.prog.info? 53).map (·.size) = some L.length by rw [HLEN.out]; exact size_port)
  have hps := Lib.hid (show (Try.prog.info? 53).map (·.size) = some L.toArray.size by rw [List.size_toArray]; exact hpz.out)
  have hpl := Lib.hid (show PZ.size = L.toArray.size by rw [size_PZ, List.size_toArray]; exact HLEN.out.symm)
  have hpo := Lib.hid (all_oneCell_toArray HONE.out)
  have hzp := zero_port
  clear hT0
  have HL_44 := Lib.hid f44
  clear f44
  have HL_50 := Lib.hid f50
  clear f50
  have HL_8 := Lib.hid f8
  clear f8
  have HL_31 := Lib.hid f31
  clear f31
  have HL_14 := Lib.hid f14
  clear f14
  have HL_45 := Lib.hid f45
  clear f45
  have HL_87 := Lib.hid f87
  clear f87
  have x6 := (h.cellX ho (i := 6) (by decide)).trans (ho.hi 6 rfl)
  have Y6 := Lib.hid x6
  clear x6
  have Y17 := Lib.hid c17
  have H := Lib.hid h
  clear h
  go_enter Try.func19, Try.ntmps19
  go_wp2_with (first
    | fail
    | ((with_reducible refine at_load 53 ?_); refine wpList_load_mid rfl 53 _ rfl g (k * 89) rfl L _ HPR.out Try.underlying53 rfl hpz.out ?_)
    | ((with_reducible refine at_store 53 ?_); refine wpList_store_new3 rfl rfl 53 _ _ _ rfl PZ L.toArray _ rfl ?_ rfl hps.out hpl.out (by rw [Array.all_toList]; exact hpo.out) ?_; · rfl
       intro z1 hz1
       have hx1 : Ext w z1 := by rw [hz1]; exact (Ext.refl _).alloc _
       have hq := heap_alloc_new w (.cells L.toArray 53)
       rw [← hz1] at hq
       obtain ⟨P0, hP0⟩ : ∃ n, w.heap.size = n := ⟨_, rfl⟩
       rw [hP0] at hq ⊢
       have hP_z1 : Pv z1 P0 0 L := Pv.box hq HLEN.out
       have HQ := Lib.hid hq
       have hXP : X ≠ P0 := by omega
       have hgP : g ≠ P0 := by omega
       have HW0 := Lib.hid hP0
       have x6_z1 : z1.cell? ⟨X, 6, none⟩ = some (.int .i64 (B.hi 6)) := cell_ext Y6.out hx1
       have x17_z1 : z1.cell? ⟨X, 17, none⟩ = some (.slice (some ⟨g, 0, none⟩) B.np cap2) := cell_ext Y17.out hx1
       have p44_z1 : z1.cell? ⟨P0, 44, none⟩ = some (.bool true) := (hP_z1.cell (j := 44) (by decide)).trans HL_44.out
       have p50_z1 : z1.cell? ⟨P0, 50, none⟩ = some (.bool false) := (hP_z1.cell (j := 50) (by decide)).trans HL_50.out
       have p8_z1 : z1.cell? ⟨P0, 8, none⟩ = some (.int .i64 (B.gi k 8)) := (hP_z1.cell (j := 8) (by decide)).trans HL_8.out
       have p31_z1 : z1.cell? ⟨P0, 31, none⟩ = some (.bool true) := (hP_z1.cell (j := 31) (by decide)).trans HL_31.out
       have p14_z1 : z1.cell? ⟨P0, 14, none⟩ = some (.int .i64 (B.gi k 14)) := (hP_z1.cell (j := 14) (by decide)).trans HL_14.out
       have p45_z1 : z1.cell? ⟨P0, 45, none⟩ = some (.bool false) := (hP_z1.cell (j := 45) (by decide)).trans HL_45.out
       have p87_z1 : z1.cell? ⟨P0, 87, none⟩ = some (.int .i64 (B.gi k 87)) := (hP_z1.cell (j := 87) (by decide)).trans HL_87.out
       have HX1 := Lib.hid hx1
       clear hz1 hq hP0 c17 hx1))
  go_quiet (fail)
  go_wp2_with fail
  go_ret
  exact ⟨rfl, (H.out.ext (HX1.out.trans ((Ext.refl z1).drewN _))).mono (fun n hn => .inl hn), (HX1.out.trans ((Ext.refl z1).drewN _)).mut F⟩

set_option maxRecDepth 100000 in
set_option maxHeartbeats 4000000 in
theorem txd_k1 (w : World) (F : Nat → Prop) (X g k : Nat) (B : Br) (h : BrG w F X g B) (ho : B.ok) (hk : k < B.np) (hn : B.np < 1000) (h44 : B.gb k 44 = true) (h50 : B.gb k 50 = false) (n8 : (B.gi k 8 == 0) = false) (h31 : B.gb k 31 = true) (hlt : B.gi k 14 < B.hi 6) (h45 : B.gb k 45 = true) (h87 : B.gi k 87 = 0) :
    Calls Try.prog 19 #[.pointer (some ⟨X, 0, none⟩), .int .i64 k] w (fun e w' => e = .returned (.bool false) ∧ BrG w' (fun n => F n ∨ (w.heap.size ≤ n ∧ n < w'.heap.size)) X g (B) ∧ Mut F w w') := by
  have hlt2 : decide (B.hi 6 ≤ B.gi k 14) = false := by simp; omega
  obtain ⟨hX, hg, hne⟩ := h.lt
  obtain ⟨cap2, c17, hc3, hc4⟩ := h.cell17 ho
  have hn8 : k < 1000 := by omega
  have h89 := Lib.hid (len89 ho hk)
  have hpr := h.range hk
  have hT0 := br_typed ho hk
  have HONE := Lib.hid hT0.one
  have f44 : (port B.ps k)[44]? = some (.bool true) := (tpB hT0 44 rfl).trans (by rw [pB_port (by decide), h44])
  have f50 : (port B.ps k)[50]? = some (.bool false) := (tpB hT0 50 rfl).trans (by rw [pB_port (by decide), h50])
  have f8 : (port B.ps k)[8]? = some (.int .i64 (B.gi k 8)) := (tpI hT0 8 rfl).trans (by rw [pI_port (by decide)])
  have f31 : (port B.ps k)[31]? = some (.bool true) := (tpB hT0 31 rfl).trans (by rw [pB_port (by decide), h31])
  have f14 : (port B.ps k)[14]? = some (.int .i64 (B.gi k 14)) := (tpI hT0 14 rfl).trans (by rw [pI_port (by decide)])
  have f45 : (port B.ps k)[45]? = some (.bool true) := (tpB hT0 45 rfl).trans (by rw [pB_port (by decide), h45])
  have f87 : (port B.ps k)[87]? = some (.int .i64 0) := (tpI hT0 87 rfl).trans (by rw [pI_port (by decide), h87])
  obtain ⟨L, hL⟩ : ∃ L, port B.ps k = L := ⟨_, rfl⟩
  rw [hL] at hpr hT0 HONE f44 f50 f8 f31 f14 f45 f87
  have HL := Lib.hid hL
  have HLEN := Lib.hid (tpL hT0)
  have HPR := Lib.hid hpr
  clear hL hpr
  have hpz := Lib.hid (show (Try.prog.info? 53).map (·.size) = some L.length by rw [HLEN.out]; exact size_port)
  have hps := Lib.hid (show (Try.prog.info? 53).map (·.size) = some L.toArray.size by rw [List.size_toArray]; exact hpz.out)
  have hpl := Lib.hid (show PZ.size = L.toArray.size by rw [size_PZ, List.size_toArray]; exact HLEN.out.symm)
  have hpo := Lib.hid (all_oneCell_toArray HONE.out)
  have hzp := zero_port
  clear hT0
  have HL_44 := Lib.hid f44
  clear f44
  have HL_50 := Lib.hid f50
  clear f50
  have HL_8 := Lib.hid f8
  clear f8
  have HL_31 := Lib.hid f31
  clear f31
  have HL_14 := Lib.hid f14
  clear f14
  have HL_45 := Lib.hid f45
  clear f45
  have HL_87 := Lib.hid f87
  clear f87
  have x6 := (h.cellX ho (i := 6) (by decide)).trans (ho.hi 6 rfl)
  have Y6 := Lib.hid x6
  clear x6
  have Y17 := Lib.hid c17
  have H := Lib.hid h
  clear h
  go_enter Try.func19, Try.ntmps19
  go_wp2_with (first
    | fail
    | ((with_reducible refine at_load 53 ?_); refine wpList_load_mid rfl 53 _ rfl g (k * 89) rfl L _ HPR.out Try.underlying53 rfl hpz.out ?_)
    | ((with_reducible refine at_store 53 ?_); refine wpList_store_new3 rfl rfl 53 _ _ _ rfl PZ L.toArray _ rfl ?_ rfl hps.out hpl.out (by rw [Array.all_toList]; exact hpo.out) ?_; · rfl
       intro z1 hz1
       have hx1 : Ext w z1 := by rw [hz1]; exact (Ext.refl _).alloc _
       have hq := heap_alloc_new w (.cells L.toArray 53)
       rw [← hz1] at hq
       obtain ⟨P0, hP0⟩ : ∃ n, w.heap.size = n := ⟨_, rfl⟩
       rw [hP0] at hq ⊢
       have hP_z1 : Pv z1 P0 0 L := Pv.box hq HLEN.out
       have HQ := Lib.hid hq
       have hXP : X ≠ P0 := by omega
       have hgP : g ≠ P0 := by omega
       have HW0 := Lib.hid hP0
       have x6_z1 : z1.cell? ⟨X, 6, none⟩ = some (.int .i64 (B.hi 6)) := cell_ext Y6.out hx1
       have x17_z1 : z1.cell? ⟨X, 17, none⟩ = some (.slice (some ⟨g, 0, none⟩) B.np cap2) := cell_ext Y17.out hx1
       have p44_z1 : z1.cell? ⟨P0, 44, none⟩ = some (.bool true) := (hP_z1.cell (j := 44) (by decide)).trans HL_44.out
       have p50_z1 : z1.cell? ⟨P0, 50, none⟩ = some (.bool false) := (hP_z1.cell (j := 50) (by decide)).trans HL_50.out
       have p8_z1 : z1.cell? ⟨P0, 8, none⟩ = some (.int .i64 (B.gi k 8)) := (hP_z1.cell (j := 8) (by decide)).trans HL_8.out
       have p31_z1 : z1.cell? ⟨P0, 31, none⟩ = some (.bool true) := (hP_z1.cell (j := 31) (by decide)).trans HL_31.out
       have p14_z1 : z1.cell? ⟨P0, 14, none⟩ = some (.int .i64 (B.gi k 14)) := (hP_z1.cell (j := 14) (by decide)).trans HL_14.out
       have p45_z1 : z1.cell? ⟨P0, 45, none⟩ = some (.bool true) := (hP_z1.cell (j := 45) (by decide)).trans HL_45.out
       have p87_z1 : z1.cell? ⟨P0, 87, none⟩ = some (.int .i64 0) := (hP_z1.cell (j := 87) (by decide)).trans HL_87.out
       have HX1 := Lib.hid hx1
       clear hz1 hq hP0 c17 hx1))
  go_quiet (fail)
  go_wp2_with fail
  go_ret
  exact ⟨rfl, (H.out.ext (HX1.out.trans ((Ext.refl z1).drewN _))).mono (fun n hn => .inl hn), (HX1.out.trans ((Ext.refl z1).drewN _)).mut F⟩


end Go.Proofs.Ythlapkddgnpaeaa
