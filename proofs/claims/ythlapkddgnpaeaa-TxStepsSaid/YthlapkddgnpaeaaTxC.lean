/- The machine that sends: what is told, by the document. No statement is proved here. -/
import Derived.Test.YthlapkddgnpaeaaTxB
namespace Go.Proofs.Ythlapkddgnpaeaa
open Go.RowKit Go.BigFrame Go.WideShapes Go.ChangeShapes Go.Deep
set_option linter.unusedVariables false
set_option linter.unusedSimpArgs false

def VZ : Array Value := #[.int .u64 0, .int .u32 0, .int .u64 0, .int .u16 0, .int .u16 0]
theorem zero_vec : ∀ w, (zeroValue 28).run Try.prog w = .ok (.agg VZ) w := (zero_of_info (P := Try.prog) (t := 28) (v := .agg VZ) (n := 5) (by kernel_rfl)).1
theorem new_row {w : World} {o : Obj} {n : Nat} (h : n = w.heap.size) : (w.alloc o).heap[n]? = some o := by subst h; exact heap_alloc_new _ _
theorem msg_d0 (ch ak : Bool) (a b c d e f g h i : Int) : Try.prog.built 43 [(1, .bool ch), (2, .bool ak), (7, .int .i64 4), (8, .agg #[Value.int .u64 a, .int .u32 b, .int .u64 c, .int .u16 d, .int .u16 e]), (9, .agg [Value.int .i64 f, .int .i64 g, .int .i64 h, .int .i64 i].toArray)] = some (msgA 0 ch ak false false false false 4 a b c d e f g h i) := by kernel_rfl
theorem msg_d2 (ch pr ag ln fw : Bool) (ro a b c d e f g h i : Int) : Try.prog.built 43 [(0, .int .i64 2), (1, .bool ch), (3, .bool pr), (4, .bool ag), (5, .bool ln), (6, .bool fw), (7, .int .i64 ro), (8, .agg #[Value.int .u64 a, .int .u32 b, .int .u64 c, .int .u16 d, .int .u16 e]), (9, .agg [Value.int .i64 f, .int .i64 g, .int .i64 h, .int .i64 i].toArray)] = some (msgA 2 ch false pr ag ln fw ro a b c d e f g h i) := by kernel_rfl

set_option maxRecDepth 100000 in
set_option maxHeartbeats 2000000 in
theorem txd_msg (c : Array Value) (B : Br) (w : World) (hb : BrC w c B) (ho : B.ok) (k : Nat) (hk : k < B.np) (h13 : 0 ≤ B.gi k 13) (kind : Int) : Calls Try.prog 22 #[.agg c, .int .i64 k, .int .i64 kind] w fun e w' => e = .returned (.agg (txMsg B k kind)) ∧ Ext w w' := by
  obtain ⟨s1, s2, s3, hz, hhd, c17, c18, c19, r1, -, -⟩ := hb.facts ho.hd.1
  obtain ⟨a1, k1, rfl, m1, hrow⟩ := r1.form
  obtain ⟨bb, off, rfl, hbl, hlc, hcm, hc⟩ := hrow (by omega)
  have HC := Lib.hid hc
  have HBL := Lib.hid hbl
  clear hz hhd hb r1 hrow c18 c19 hc hbl
  have hzm := zero_msg
  have hzv := zero_vec
  have hzp := zero_port
  have HNN := Lib.hid h13
  clear h13
  have hpt := Lib.hid (port_typed ho hk)
  have hpr := Lib.hid (port_range (rangeAt_ext HC.out (((Ext.refl w).alloc (.cells c 33)).alloc (.cells MZ 43)) HBL.out) k)
  have P13 := Lib.hid ((port_at (B := B) (k := k) (j := 13) (by decide)).trans (ho.gi hk 13 rfl))
  have P48 := Lib.hid ((port_at (B := B) (k := k) (j := 48) (by decide)).trans (ho.gb hk 48 rfl))
  have P34 := Lib.hid ((port_at (B := B) (k := k) (j := 34) (by decide)).trans (ho.gb hk 34 rfl))
  have P22 := Lib.hid ((port_at (B := B) (k := k) (j := 22) (by decide)).trans (ho.gb hk 22 rfl))
  have P29 := Lib.hid ((port_at (B := B) (k := k) (j := 29) (by decide)).trans (ho.gb hk 29 rfl))
  have P27 := Lib.hid ((port_at (B := B) (k := k) (j := 27) (by decide)).trans (ho.gb hk 27 rfl))
  have P87 := Lib.hid ((port_at (B := B) (k := k) (j := 87) (by decide)).trans (ho.gi hk 87 rfl))
  have P73 := Lib.hid ((port_at (B := B) (k := k) (j := 73) (by decide)).trans (ho.gi hk 73 rfl))
  have P74 := Lib.hid ((port_at (B := B) (k := k) (j := 74) (by decide)).trans (ho.gi hk 74 rfl))
  have P75 := Lib.hid ((port_at (B := B) (k := k) (j := 75) (by decide)).trans (ho.gi hk 75 rfl))
  have P76 := Lib.hid ((port_at (B := B) (k := k) (j := 76) (by decide)).trans (ho.gi hk 76 rfl))
  have P77 := Lib.hid ((port_at (B := B) (k := k) (j := 77) (by decide)).trans (ho.gi hk 77 rfl))
  have P82 := Lib.hid ((port_at (B := B) (k := k) (j := 82) (by decide)).trans (ho.gi hk 82 rfl))
  have P83 := Lib.hid ((port_at (B := B) (k := k) (j := 83) (by decide)).trans (ho.gi hk 83 rfl))
  have P84 := Lib.hid ((port_at (B := B) (k := k) (j := 84) (by decide)).trans (ho.gi hk 84 rfl))
  have P85 := Lib.hid ((port_at (B := B) (k := k) (j := 85) (by decide)).trans (ho.gi hk 85 rfl))
  obtain ⟨p, hp⟩ : ∃ p, port B.ps k = p := ⟨_, rfl⟩
  rw [hp] at hpr hpt P13 P48 P34 P22 P29 P27 P87 P73 P74 P75 P76 P77 P82 P83 P84 P85
  clear hp
  have hpz := Lib.hid (show (Try.prog.info? 53).map (·.size) = some p.length by rw [hpt.out.1]; exact size_port)
  have hps := Lib.hid (show (Try.prog.info? 53).map (·.size) = some p.toArray.size by rw [List.size_toArray]; exact hpz.out)
  have hpl := Lib.hid (show PZ.size = p.toArray.size by rw [size_PZ, List.size_toArray]; exact hpt.out.1.symm)
  have hpo := Lib.hid (all_oneCell_toArray hpt.out.one)
  clear hpt
  have htc := Lib.hid (show decide (0 < B.gi k 13) = (B.gi k 13 != 0) from by
    have := HNN.out
    by_cases e : B.gi k 13 = 0
    · rw [e]; rfl
    · have h1 : decide (0 < B.gi k 13) = true := by simp; omega
      have h2 : (B.gi k 13 != 0) = true := by simpa using e
      rw [h1, h2])
  go_enter Try.func22, Try.ntmps22
  by_cases k0 : kind = 0
  · have e0 : (kind == 0) = true := by simpa using k0
    have HB1 := Lib.hid (show Try.prog.built 43 [(1, .bool (decide (0 < B.gi k 13))), (2, .bool (B.gb k 48)), (7, .int .i64 4), (8, .agg #[Value.int .u64 (B.gi k 73), .int .u32 (B.gi k 74), .int .u64 (B.gi k 75), .int .u16 (B.gi k 76), .int .u16 0]), (9, .agg [Value.int .i64 (B.gi k 82), .int .i64 (B.gi k 83), .int .i64 (B.gi k 84), .int .i64 (B.gi k 85)].toArray)] = some (txMsg B k kind) by rw [htc.out]; subst k0; exact msg_d0 _ _ _ _ _ _ _ _ _ _ _)
    have HIm := Lib.hid (show (Try.prog.info? 43).map (·.size) = some (txMsg B k kind).size by rw [txMsg_size]; exact size_msg)
    have HSm := Lib.hid (show MZ.size = (txMsg B k kind).size by rw [txMsg_size]; rfl)
    have HOm := Lib.hid (txMsg_one B k kind)
    go_wp2_with (first
      | fail
      | ((with_reducible refine at_load 53 ?_); refine wpList_load_mid rfl 53 _ rfl bb (off + k * 89) rfl p _ hpr.out Try.underlying53 rfl hpz.out ?_)
      | ((with_reducible refine at_store 53 ?_); refine wpList_store_new3 rfl rfl 53 _ _ _ rfl PZ p.toArray _ rfl ?_ rfl hps.out hpl.out (by rw [Array.all_toList]; exact hpo.out) ?_; · simp
         intro u1 hu1
         have hE1 : Ext w u1 := by rw [hu1]; exact (((Ext.refl w).alloc _).alloc _).alloc _
         have hr7 : u1.heap[w.heap.size + 1 + 1]? = some (.cells p.toArray 53 (0, 0)) := by rw [hu1]; exact new_row (by simp)
         have hr6 : u1.heap[w.heap.size + 1]? = some (.cells MZ 43 (0, 0)) := by rw [hu1]; exact (heap_alloc_old _ _ (by simp)).trans (new_row (by simp))
         clear hu1
         obtain ⟨p7, h7⟩ : ∃ n, w.heap.size + 1 + 1 = n := ⟨_, rfl⟩
         rw [h7] at hr7 ⊢
         obtain ⟨t6, h6⟩ : ∃ n, w.heap.size + 1 = n := ⟨_, rfl⟩
         rw [h6] at hr6 ⊢
         have hw6 : w.heap.size ≤ t6 ∧ t6 < p7 ∧ w.heap.size ≤ p7 := by omega
         clear h6 h7
         have HRV := Lib.hid (show u1.rangeAt p7 73 [Value.int .u64 (B.gi k 73), .int .u32 (B.gi k 74), .int .u64 (B.gi k 75), .int .u16 (B.gi k 76), .int .u16 (B.gi k 77)] from range_cons ((cell_of_row _ _ _ _ _ _ hr7).trans (by simpa using P73.out)) (range_cons ((cell_of_row _ _ _ _ _ _ hr7).trans (by simpa using P74.out)) (range_cons ((cell_of_row _ _ _ _ _ _ hr7).trans (by simpa using P75.out)) (range_cons ((cell_of_row _ _ _ _ _ _ hr7).trans (by simpa using P76.out)) (range_cons ((cell_of_row _ _ _ _ _ _ hr7).trans (by simpa using P77.out)) range_nil)))))
         have HR7 := Lib.hid hr7
         have HR6 := Lib.hid hr6
         have HE1 := Lib.hid hE1
         clear hr7 hr6 hE1 c17)
      | ((with_reducible refine at_load 28 ?_); refine wpList_load_mid rfl 28 _ rfl p7 73 rfl [Value.int .u64 (B.gi k 73), .int .u32 (B.gi k 74), .int .u64 (B.gi k 75), .int .u16 (B.gi k 76), .int .u16 (B.gi k 77)] _ HRV.out Try.underlying28 rfl size_vec ?_)
      | ((with_reducible refine at_store 28 ?_); refine wpList_store_new3 rfl rfl 28 _ _ _ rfl VZ [Value.int .u64 (B.gi k 73), .int .u32 (B.gi k 74), .int .u64 (B.gi k 75), .int .u16 (B.gi k 76), .int .u16 (B.gi k 77)].toArray _ rfl ?_ rfl (by exact size_vec) rfl rfl ?_; · simp
         intro u2 hu2
         have hE2 : Ext u1 u2 := by rw [hu2]; exact (Ext.refl u1).alloc _
         have hr8 : u2.heap[u1.heap.size]? = some (.cells [Value.int .u64 (B.gi k 73), .int .u32 (B.gi k 74), .int .u64 (B.gi k 75), .int .u16 (B.gi k 76), .int .u16 (B.gi k 77)].toArray 28 (0, 0)) := by rw [hu2]; exact heap_alloc_new _ _
         have hl7 := heap_lt HR7.out
         have hl6 := heap_lt HR6.out
         have hwu := HE1.out.size
         clear hu2
         obtain ⟨v8, h8⟩ : ∃ n, u1.heap.size = n := ⟨_, rfl⟩
         rw [h8] at hr8 hl7 hl6 hwu ⊢
         clear h8
         have hr7 := (hE2.block _ (heap_lt HR7.out)).trans HR7.out
         have hr6 := (hE2.block _ (heap_lt HR6.out)).trans HR6.out
         have d4 : u2.cell? ⟨v8, 4, none⟩ = some (.int .u16 (B.gi k 77)) := (cell_of_row _ _ _ _ _ _ hr8).trans rfl
         have hf8 : ∀ j, u2.frozen? ⟨v8, j, none⟩ = false := fun j => frozen_of_row _ _ _ _ _ hr8
         have hne7 : p7 ≠ v8 := by omega
         have hne6 : t6 ≠ v8 := by omega
         have p13 : u2.cell? ⟨p7, 13, none⟩ = some _ := (cell_of_row _ _ _ _ _ _ hr7).trans ((by simp : p.toArray[13]? = p[13]?).trans P13.out)
         have p48 : u2.cell? ⟨p7, 48, none⟩ = some _ := (cell_of_row _ _ _ _ _ _ hr7).trans ((by simp : p.toArray[48]? = p[48]?).trans P48.out)
         have p34 : u2.cell? ⟨p7, 34, none⟩ = some _ := (cell_of_row _ _ _ _ _ _ hr7).trans ((by simp : p.toArray[34]? = p[34]?).trans P34.out)
         have p22 : u2.cell? ⟨p7, 22, none⟩ = some _ := (cell_of_row _ _ _ _ _ _ hr7).trans ((by simp : p.toArray[22]? = p[22]?).trans P22.out)
         have p29 : u2.cell? ⟨p7, 29, none⟩ = some _ := (cell_of_row _ _ _ _ _ _ hr7).trans ((by simp : p.toArray[29]? = p[29]?).trans P29.out)
         have p27 : u2.cell? ⟨p7, 27, none⟩ = some _ := (cell_of_row _ _ _ _ _ _ hr7).trans ((by simp : p.toArray[27]? = p[27]?).trans P27.out)
         have p87 : u2.cell? ⟨p7, 87, none⟩ = some _ := (cell_of_row _ _ _ _ _ _ hr7).trans ((by simp : p.toArray[87]? = p[87]?).trans P87.out)
         have HV := Lib.hid (show (u2.setCell ⟨v8, 4, none⟩ (.int .u16 0)).heap[v8]? = some (.cells #[Value.int .u64 (B.gi k 73), .int .u32 (B.gi k 74), .int .u64 (B.gi k 75), .int .u16 (B.gi k 76), .int .u16 0] 28 (0, 0)) from heap_setCell_same _ _ _ _ _ _ hr8)
         have H6 := Lib.hid (show (u2.setCell ⟨v8, 4, none⟩ (.int .u16 0)).heap[t6]? = some (.cells MZ 43 (0, 0)) from (heap_setCell_other _ _ _ _ hne6).trans hr6)
         have h7w : (u2.setCell ⟨v8, 4, none⟩ (.int .u16 0)).heap[p7]? = some (.cells p.toArray 53 (0, 0)) := (heap_setCell_other _ _ _ _ hne7).trans hr7
         have HT := Lib.hid (show (u2.setCell ⟨v8, 4, none⟩ (.int .u16 0)).rangeAt p7 82 [Value.int .i64 (B.gi k 82), .int .i64 (B.gi k 83), .int .i64 (B.gi k 84), .int .i64 (B.gi k 85)] from range_cons ((cell_of_row _ _ _ _ _ _ h7w).trans (by simpa using P82.out)) (range_cons ((cell_of_row _ _ _ _ _ _ h7w).trans (by simpa using P83.out)) (range_cons ((cell_of_row _ _ _ _ _ _ h7w).trans (by simpa using P84.out)) (range_cons ((cell_of_row _ _ _ _ _ _ h7w).trans (by simpa using P85.out)) range_nil))))
         have HE := Lib.hid (show Ext w ((u2.setCell ⟨v8, 4, none⟩ (.int .u16 0)).setRow t6 (txMsg B k kind)) from ext_setRow (Below.setCell (HE1.out.trans hE2) hwu _) hw6.1 _)
         have HY := Lib.hid (setRow_heap _ _ _ (txMsg B k kind) _ _ H6.out)
         clear hr8 hr7 hr6 hE2 HR7 HR6 HE1 h7w HRV)
      | ((with_reducible refine at_load 28 ?_); refine wpList_load_row rfl 28 _ rfl v8 rfl 28 #[Value.int .u64 (B.gi k 73), .int .u32 (B.gi k 74), .int .u64 (B.gi k 75), .int .u16 (B.gi k 76), .int .u16 0] (0, 0) _ HV.out Try.underlying28 rfl size_vec ?_)
      | ((with_reducible refine at_load 24 ?_); refine wpList_load_mid rfl 24 _ rfl p7 82 rfl [Value.int .i64 (B.gi k 82), .int .i64 (B.gi k 83), .int .i64 (B.gi k 84), .int .i64 (B.gi k 85)] _ HT.out Try.underlying24 rfl size_times ?_)
      | ((with_reducible refine at_build 43 ?_); refine wpList_build2 rfl 43 _ rfl [(1, .bool (decide (0 < B.gi k 13))), (2, .bool (B.gb k 48)), (7, .int .i64 4), (8, .agg #[Value.int .u64 (B.gi k 73), .int .u32 (B.gi k 74), .int .u64 (B.gi k 75), .int .u16 (B.gi k 76), .int .u16 0]), (9, .agg [Value.int .i64 (B.gi k 82), .int .i64 (B.gi k 83), .int .i64 (B.gi k 84), .int .i64 (B.gi k 85)].toArray)] rfl (txMsg B k kind) HB1.out ?_)
      | ((with_reducible refine at_store 43 ?_); refine wpList_store_row rfl 43 _ _ rfl t6 (txMsg B k kind) rfl rfl 43 MZ H6.out HIm.out HSm.out HOm.out ?_))
    refine bodyPost_ret (results_cell_row rfl _ _ _ _ (txMsg B k kind) (0, 0) _ rfl HY.out Try.underlying43 rfl HIm.out) rfl ?_
    exact ⟨rfl, HE.out⟩
  by_cases k1 : kind = 1
  · have n0 : (kind == 0) = false := by simpa using k0
    have e1 : (kind == 1) = true := by simpa using k1
    have HB1 := Lib.hid (show Try.prog.built 43 [(0, .int .i64 1)] = some (txMsg B k kind) by rw [k1]; exact msg_b1)
    have HIm := Lib.hid (show (Try.prog.info? 43).map (·.size) = some (txMsg B k kind).size by rw [txMsg_size]; exact size_msg)
    have HSm := Lib.hid (show MZ.size = (txMsg B k kind).size by rw [txMsg_size]; rfl)
    have HOm := Lib.hid (txMsg_one B k kind)
    go_wp2_with (first
      | fail
      | ((with_reducible refine at_load 53 ?_); refine wpList_load_mid rfl 53 _ rfl bb (off + k * 89) rfl p _ hpr.out Try.underlying53 rfl hpz.out ?_)
      | ((with_reducible refine at_store 53 ?_); refine wpList_store_new3 rfl rfl 53 _ _ _ rfl PZ p.toArray _ rfl ?_ rfl hps.out hpl.out (by rw [Array.all_toList]; exact hpo.out) ?_; · simp
         intro u1 hu1
         have hE1 : Ext w u1 := by rw [hu1]; exact (((Ext.refl w).alloc _).alloc _).alloc _
         have hr7 : u1.heap[w.heap.size + 1 + 1]? = some (.cells p.toArray 53 (0, 0)) := by rw [hu1]; exact new_row (by simp)
         have hr6 : u1.heap[w.heap.size + 1]? = some (.cells MZ 43 (0, 0)) := by rw [hu1]; exact (heap_alloc_old _ _ (by simp)).trans (new_row (by simp))
         clear hu1
         obtain ⟨p7, h7⟩ : ∃ n, w.heap.size + 1 + 1 = n := ⟨_, rfl⟩
         rw [h7] at hr7 ⊢
         obtain ⟨t6, h6⟩ : ∃ n, w.heap.size + 1 = n := ⟨_, rfl⟩
         rw [h6] at hr6 ⊢
         have hw6 : w.heap.size ≤ t6 ∧ t6 < p7 ∧ w.heap.size ≤ p7 := by omega
         clear h6 h7
         have HRV := Lib.hid (show u1.rangeAt p7 73 [Value.int .u64 (B.gi k 73), .int .u32 (B.gi k 74), .int .u64 (B.gi k 75), .int .u16 (B.gi k 76), .int .u16 (B.gi k 77)] from range_cons ((cell_of_row _ _ _ _ _ _ hr7).trans (by simpa using P73.out)) (range_cons ((cell_of_row _ _ _ _ _ _ hr7).trans (by simpa using P74.out)) (range_cons ((cell_of_row _ _ _ _ _ _ hr7).trans (by simpa using P75.out)) (range_cons ((cell_of_row _ _ _ _ _ _ hr7).trans (by simpa using P76.out)) (range_cons ((cell_of_row _ _ _ _ _ _ hr7).trans (by simpa using P77.out)) range_nil)))))
         have HR7 := Lib.hid hr7
         have HR6 := Lib.hid hr6
         have HE1 := Lib.hid hE1
         clear hr7 hr6 hE1 c17)
      | ((with_reducible refine at_load 28 ?_); refine wpList_load_mid rfl 28 _ rfl p7 73 rfl [Value.int .u64 (B.gi k 73), .int .u32 (B.gi k 74), .int .u64 (B.gi k 75), .int .u16 (B.gi k 76), .int .u16 (B.gi k 77)] _ HRV.out Try.underlying28 rfl size_vec ?_)
      | ((with_reducible refine at_store 28 ?_); refine wpList_store_new3 rfl rfl 28 _ _ _ rfl VZ [Value.int .u64 (B.gi k 73), .int .u32 (B.gi k 74), .int .u64 (B.gi k 75), .int .u16 (B.gi k 76), .int .u16 (B.gi k 77)].toArray _ rfl ?_ rfl (by exact size_vec) rfl rfl ?_; · simp
         intro u2 hu2
         have hE2 : Ext u1 u2 := by rw [hu2]; exact (Ext.refl u1).alloc _
         have hr8 : u2.heap[u1.heap.size]? = some (.cells [Value.int .u64 (B.gi k 73), .int .u32 (B.gi k 74), .int .u64 (B.gi k 75), .int .u16 (B.gi k 76), .int .u16 (B.gi k 77)].toArray 28 (0, 0)) := by rw [hu2]; exact heap_alloc_new _ _
         have hl7 := heap_lt HR7.out
         have hl6 := heap_lt HR6.out
         have hwu := HE1.out.size
         clear hu2
         obtain ⟨v8, h8⟩ : ∃ n, u1.heap.size = n := ⟨_, rfl⟩
         rw [h8] at hr8 hl7 hl6 hwu ⊢
         clear h8
         have hr7 := (hE2.block _ (heap_lt HR7.out)).trans HR7.out
         have hr6 := (hE2.block _ (heap_lt HR6.out)).trans HR6.out
         have d4 : u2.cell? ⟨v8, 4, none⟩ = some (.int .u16 (B.gi k 77)) := (cell_of_row _ _ _ _ _ _ hr8).trans rfl
         have hf8 : ∀ j, u2.frozen? ⟨v8, j, none⟩ = false := fun j => frozen_of_row _ _ _ _ _ hr8
         have hne7 : p7 ≠ v8 := by omega
         have hne6 : t6 ≠ v8 := by omega
         have p13 : u2.cell? ⟨p7, 13, none⟩ = some _ := (cell_of_row _ _ _ _ _ _ hr7).trans ((by simp : p.toArray[13]? = p[13]?).trans P13.out)
         have p48 : u2.cell? ⟨p7, 48, none⟩ = some _ := (cell_of_row _ _ _ _ _ _ hr7).trans ((by simp : p.toArray[48]? = p[48]?).trans P48.out)
         have p34 : u2.cell? ⟨p7, 34, none⟩ = some _ := (cell_of_row _ _ _ _ _ _ hr7).trans ((by simp : p.toArray[34]? = p[34]?).trans P34.out)
         have p22 : u2.cell? ⟨p7, 22, none⟩ = some _ := (cell_of_row _ _ _ _ _ _ hr7).trans ((by simp : p.toArray[22]? = p[22]?).trans P22.out)
         have p29 : u2.cell? ⟨p7, 29, none⟩ = some _ := (cell_of_row _ _ _ _ _ _ hr7).trans ((by simp : p.toArray[29]? = p[29]?).trans P29.out)
         have p27 : u2.cell? ⟨p7, 27, none⟩ = some _ := (cell_of_row _ _ _ _ _ _ hr7).trans ((by simp : p.toArray[27]? = p[27]?).trans P27.out)
         have p87 : u2.cell? ⟨p7, 87, none⟩ = some _ := (cell_of_row _ _ _ _ _ _ hr7).trans ((by simp : p.toArray[87]? = p[87]?).trans P87.out)
         have HV := Lib.hid (show (u2.setCell ⟨v8, 4, none⟩ (.int .u16 0)).heap[v8]? = some (.cells #[Value.int .u64 (B.gi k 73), .int .u32 (B.gi k 74), .int .u64 (B.gi k 75), .int .u16 (B.gi k 76), .int .u16 0] 28 (0, 0)) from heap_setCell_same _ _ _ _ _ _ hr8)
         have H6 := Lib.hid (show (u2.setCell ⟨v8, 4, none⟩ (.int .u16 0)).heap[t6]? = some (.cells MZ 43 (0, 0)) from (heap_setCell_other _ _ _ _ hne6).trans hr6)
         have h7w : (u2.setCell ⟨v8, 4, none⟩ (.int .u16 0)).heap[p7]? = some (.cells p.toArray 53 (0, 0)) := (heap_setCell_other _ _ _ _ hne7).trans hr7
         have HT := Lib.hid (show (u2.setCell ⟨v8, 4, none⟩ (.int .u16 0)).rangeAt p7 82 [Value.int .i64 (B.gi k 82), .int .i64 (B.gi k 83), .int .i64 (B.gi k 84), .int .i64 (B.gi k 85)] from range_cons ((cell_of_row _ _ _ _ _ _ h7w).trans (by simpa using P82.out)) (range_cons ((cell_of_row _ _ _ _ _ _ h7w).trans (by simpa using P83.out)) (range_cons ((cell_of_row _ _ _ _ _ _ h7w).trans (by simpa using P84.out)) (range_cons ((cell_of_row _ _ _ _ _ _ h7w).trans (by simpa using P85.out)) range_nil))))
         have HE := Lib.hid (show Ext w ((u2.setCell ⟨v8, 4, none⟩ (.int .u16 0)).setRow t6 (txMsg B k kind)) from ext_setRow (Below.setCell (HE1.out.trans hE2) hwu _) hw6.1 _)
         have HY := Lib.hid (setRow_heap _ _ _ (txMsg B k kind) _ _ H6.out)
         clear hr8 hr7 hr6 hE2 HR7 HR6 HE1 h7w HRV)
      | ((with_reducible refine at_load 28 ?_); refine wpList_load_row rfl 28 _ rfl v8 rfl 28 #[Value.int .u64 (B.gi k 73), .int .u32 (B.gi k 74), .int .u64 (B.gi k 75), .int .u16 (B.gi k 76), .int .u16 0] (0, 0) _ HV.out Try.underlying28 rfl size_vec ?_)
      | ((with_reducible refine at_load 24 ?_); refine wpList_load_mid rfl 24 _ rfl p7 82 rfl [Value.int .i64 (B.gi k 82), .int .i64 (B.gi k 83), .int .i64 (B.gi k 84), .int .i64 (B.gi k 85)] _ HT.out Try.underlying24 rfl size_times ?_)
      | ((with_reducible refine at_build 43 ?_); refine wpList_build2 rfl 43 _ rfl [(0, .int .i64 1)] rfl (txMsg B k kind) HB1.out ?_)
      | ((with_reducible refine at_store 43 ?_); refine wpList_store_row rfl 43 _ _ rfl t6 (txMsg B k kind) rfl rfl 43 MZ H6.out HIm.out HSm.out HOm.out ?_))
    refine bodyPost_ret (results_cell_row rfl _ _ _ _ (txMsg B k kind) (0, 0) _ rfl HY.out Try.underlying43 rfl HIm.out) rfl ?_
    exact ⟨rfl, HE.out⟩
  by_cases k2 : kind = 2
  · have n0 : (kind == 0) = false := by simpa using k0
    have n1 : (kind == 1) = false := by simpa using k1
    have e2 : (kind == 2) = true := by simpa using k2
    have HB1 := Lib.hid (show Try.prog.built 43 [(0, .int .i64 2), (1, .bool (decide (0 < B.gi k 13))), (3, .bool (B.gb k 34)), (4, .bool (B.gb k 22)), (5, .bool (B.gb k 29)), (6, .bool (B.gb k 27)), (7, .int .i64 (B.gi k 87)), (8, .agg #[Value.int .u64 (B.gi k 73), .int .u32 (B.gi k 74), .int .u64 (B.gi k 75), .int .u16 (B.gi k 76), .int .u16 0]), (9, .agg [Value.int .i64 (B.gi k 82), .int .i64 (B.gi k 83), .int .i64 (B.gi k 84), .int .i64 (B.gi k 85)].toArray)] = some (txMsg B k kind) by rw [htc.out]; subst k2; exact msg_d2 _ _ _ _ _ _ _ _ _ _ _ _ _ _ _)
    have HIm := Lib.hid (show (Try.prog.info? 43).map (·.size) = some (txMsg B k kind).size by rw [txMsg_size]; exact size_msg)
    have HSm := Lib.hid (show MZ.size = (txMsg B k kind).size by rw [txMsg_size]; rfl)
    have HOm := Lib.hid (txMsg_one B k kind)
    go_wp2_with (first
      | fail
      | ((with_reducible refine at_load 53 ?_); refine wpList_load_mid rfl 53 _ rfl bb (off + k * 89) rfl p _ hpr.out Try.underlying53 rfl hpz.out ?_)
      | ((with_reducible refine at_store 53 ?_); refine wpList_store_new3 rfl rfl 53 _ _ _ rfl PZ p.toArray _ rfl ?_ rfl hps.out hpl.out (by rw [Array.all_toList]; exact hpo.out) ?_; · simp
         intro u1 hu1
         have hE1 : Ext w u1 := by rw [hu1]; exact (((Ext.refl w).alloc _).alloc _).alloc _
         have hr7 : u1.heap[w.heap.size + 1 + 1]? = some (.cells p.toArray 53 (0, 0)) := by rw [hu1]; exact new_row (by simp)
         have hr6 : u1.heap[w.heap.size + 1]? = some (.cells MZ 43 (0, 0)) := by rw [hu1]; exact (heap_alloc_old _ _ (by simp)).trans (new_row (by simp))
         clear hu1
         obtain ⟨p7, h7⟩ : ∃ n, w.heap.size + 1 + 1 = n := ⟨_, rfl⟩
         rw [h7] at hr7 ⊢
         obtain ⟨t6, h6⟩ : ∃ n, w.heap.size + 1 = n := ⟨_, rfl⟩
         rw [h6] at hr6 ⊢
         have hw6 : w.heap.size ≤ t6 ∧ t6 < p7 ∧ w.heap.size ≤ p7 := by omega
         clear h6 h7
         have HRV := Lib.hid (show u1.rangeAt p7 73 [Value.int .u64 (B.gi k 73), .int .u32 (B.gi k 74), .int .u64 (B.gi k 75), .int .u16 (B.gi k 76), .int .u16 (B.gi k 77)] from range_cons ((cell_of_row _ _ _ _ _ _ hr7).trans (by simpa using P73.out)) (range_cons ((cell_of_row _ _ _ _ _ _ hr7).trans (by simpa using P74.out)) (range_cons ((cell_of_row _ _ _ _ _ _ hr7).trans (by simpa using P75.out)) (range_cons ((cell_of_row _ _ _ _ _ _ hr7).trans (by simpa using P76.out)) (range_cons ((cell_of_row _ _ _ _ _ _ hr7).trans (by simpa using P77.out)) range_nil)))))
         have HR7 := Lib.hid hr7
         have HR6 := Lib.hid hr6
         have HE1 := Lib.hid hE1
         clear hr7 hr6 hE1 c17)
      | ((with_reducible refine at_load 28 ?_); refine wpList_load_mid rfl 28 _ rfl p7 73 rfl [Value.int .u64 (B.gi k 73), .int .u32 (B.gi k 74), .int .u64 (B.gi k 75), .int .u16 (B.gi k 76), .int .u16 (B.gi k 77)] _ HRV.out Try.underlying28 rfl size_vec ?_)
      | ((with_reducible refine at_store 28 ?_); refine wpList_store_new3 rfl rfl 28 _ _ _ rfl VZ [Value.int .u64 (B.gi k 73), .int .u32 (B.gi k 74), .int .u64 (B.gi k 75), .int .u16 (B.gi k 76), .int .u16 (B.gi k 77)].toArray _ rfl ?_ rfl (by exact size_vec) rfl rfl ?_; · simp
         intro u2 hu2
         have hE2 : Ext u1 u2 := by rw [hu2]; exact (Ext.refl u1).alloc _
         have hr8 : u2.heap[u1.heap.size]? = some (.cells [Value.int .u64 (B.gi k 73), .int .u32 (B.gi k 74), .int .u64 (B.gi k 75), .int .u16 (B.gi k 76), .int .u16 (B.gi k 77)].toArray 28 (0, 0)) := by rw [hu2]; exact heap_alloc_new _ _
         have hl7 := heap_lt HR7.out
         have hl6 := heap_lt HR6.out
         have hwu := HE1.out.size
         clear hu2
         obtain ⟨v8, h8⟩ : ∃ n, u1.heap.size = n := ⟨_, rfl⟩
         rw [h8] at hr8 hl7 hl6 hwu ⊢
         clear h8
         have hr7 := (hE2.block _ (heap_lt HR7.out)).trans HR7.out
         have hr6 := (hE2.block _ (heap_lt HR6.out)).trans HR6.out
         have d4 : u2.cell? ⟨v8, 4, none⟩ = some (.int .u16 (B.gi k 77)) := (cell_of_row _ _ _ _ _ _ hr8).trans rfl
         have hf8 : ∀ j, u2.frozen? ⟨v8, j, none⟩ = false := fun j => frozen_of_row _ _ _ _ _ hr8
         have hne7 : p7 ≠ v8 := by omega
         have hne6 : t6 ≠ v8 := by omega
         have p13 : u2.cell? ⟨p7, 13, none⟩ = some _ := (cell_of_row _ _ _ _ _ _ hr7).trans ((by simp : p.toArray[13]? = p[13]?).trans P13.out)
         have p48 : u2.cell? ⟨p7, 48, none⟩ = some _ := (cell_of_row _ _ _ _ _ _ hr7).trans ((by simp : p.toArray[48]? = p[48]?).trans P48.out)
         have p34 : u2.cell? ⟨p7, 34, none⟩ = some _ := (cell_of_row _ _ _ _ _ _ hr7).trans ((by simp : p.toArray[34]? = p[34]?).trans P34.out)
         have p22 : u2.cell? ⟨p7, 22, none⟩ = some _ := (cell_of_row _ _ _ _ _ _ hr7).trans ((by simp : p.toArray[22]? = p[22]?).trans P22.out)
         have p29 : u2.cell? ⟨p7, 29, none⟩ = some _ := (cell_of_row _ _ _ _ _ _ hr7).trans ((by simp : p.toArray[29]? = p[29]?).trans P29.out)
         have p27 : u2.cell? ⟨p7, 27, none⟩ = some _ := (cell_of_row _ _ _ _ _ _ hr7).trans ((by simp : p.toArray[27]? = p[27]?).trans P27.out)
         have p87 : u2.cell? ⟨p7, 87, none⟩ = some _ := (cell_of_row _ _ _ _ _ _ hr7).trans ((by simp : p.toArray[87]? = p[87]?).trans P87.out)
         have HV := Lib.hid (show (u2.setCell ⟨v8, 4, none⟩ (.int .u16 0)).heap[v8]? = some (.cells #[Value.int .u64 (B.gi k 73), .int .u32 (B.gi k 74), .int .u64 (B.gi k 75), .int .u16 (B.gi k 76), .int .u16 0] 28 (0, 0)) from heap_setCell_same _ _ _ _ _ _ hr8)
         have H6 := Lib.hid (show (u2.setCell ⟨v8, 4, none⟩ (.int .u16 0)).heap[t6]? = some (.cells MZ 43 (0, 0)) from (heap_setCell_other _ _ _ _ hne6).trans hr6)
         have h7w : (u2.setCell ⟨v8, 4, none⟩ (.int .u16 0)).heap[p7]? = some (.cells p.toArray 53 (0, 0)) := (heap_setCell_other _ _ _ _ hne7).trans hr7
         have HT := Lib.hid (show (u2.setCell ⟨v8, 4, none⟩ (.int .u16 0)).rangeAt p7 82 [Value.int .i64 (B.gi k 82), .int .i64 (B.gi k 83), .int .i64 (B.gi k 84), .int .i64 (B.gi k 85)] from range_cons ((cell_of_row _ _ _ _ _ _ h7w).trans (by simpa using P82.out)) (range_cons ((cell_of_row _ _ _ _ _ _ h7w).trans (by simpa using P83.out)) (range_cons ((cell_of_row _ _ _ _ _ _ h7w).trans (by simpa using P84.out)) (range_cons ((cell_of_row _ _ _ _ _ _ h7w).trans (by simpa using P85.out)) range_nil))))
         have HE := Lib.hid (show Ext w ((u2.setCell ⟨v8, 4, none⟩ (.int .u16 0)).setRow t6 (txMsg B k kind)) from ext_setRow (Below.setCell (HE1.out.trans hE2) hwu _) hw6.1 _)
         have HY := Lib.hid (setRow_heap _ _ _ (txMsg B k kind) _ _ H6.out)
         clear hr8 hr7 hr6 hE2 HR7 HR6 HE1 h7w HRV)
      | ((with_reducible refine at_load 28 ?_); refine wpList_load_row rfl 28 _ rfl v8 rfl 28 #[Value.int .u64 (B.gi k 73), .int .u32 (B.gi k 74), .int .u64 (B.gi k 75), .int .u16 (B.gi k 76), .int .u16 0] (0, 0) _ HV.out Try.underlying28 rfl size_vec ?_)
      | ((with_reducible refine at_load 24 ?_); refine wpList_load_mid rfl 24 _ rfl p7 82 rfl [Value.int .i64 (B.gi k 82), .int .i64 (B.gi k 83), .int .i64 (B.gi k 84), .int .i64 (B.gi k 85)] _ HT.out Try.underlying24 rfl size_times ?_)
      | ((with_reducible refine at_build 43 ?_); refine wpList_build2 rfl 43 _ rfl [(0, .int .i64 2), (1, .bool (decide (0 < B.gi k 13))), (3, .bool (B.gb k 34)), (4, .bool (B.gb k 22)), (5, .bool (B.gb k 29)), (6, .bool (B.gb k 27)), (7, .int .i64 (B.gi k 87)), (8, .agg #[Value.int .u64 (B.gi k 73), .int .u32 (B.gi k 74), .int .u64 (B.gi k 75), .int .u16 (B.gi k 76), .int .u16 0]), (9, .agg [Value.int .i64 (B.gi k 82), .int .i64 (B.gi k 83), .int .i64 (B.gi k 84), .int .i64 (B.gi k 85)].toArray)] rfl (txMsg B k kind) HB1.out ?_)
      | ((with_reducible refine at_store 43 ?_); refine wpList_store_row rfl 43 _ _ rfl t6 (txMsg B k kind) rfl rfl 43 MZ H6.out HIm.out HSm.out HOm.out ?_))
    refine bodyPost_ret (results_cell_row rfl _ _ _ _ (txMsg B k kind) (0, 0) _ rfl HY.out Try.underlying43 rfl HIm.out) rfl ?_
    exact ⟨rfl, HE.out⟩
  · have n0 : (kind == 0) = false := by simpa using k0
    have n1 : (kind == 1) = false := by simpa using k1
    have n2 : (kind == 2) = false := by simpa using k2
    have HB1 := Lib.hid (show Try.prog.built 43 [] = some (txMsg B k kind) by unfold txMsg; rw [if_neg k0, if_neg k1, if_neg k2]; exact msg_b2)
    have HIm := Lib.hid (show (Try.prog.info? 43).map (·.size) = some (txMsg B k kind).size by rw [txMsg_size]; exact size_msg)
    have HSm := Lib.hid (show MZ.size = (txMsg B k kind).size by rw [txMsg_size]; rfl)
    have HOm := Lib.hid (txMsg_one B k kind)
    go_wp2_with (first
      | fail
      | ((with_reducible refine at_load 53 ?_); refine wpList_load_mid rfl 53 _ rfl bb (off + k * 89) rfl p _ hpr.out Try.underlying53 rfl hpz.out ?_)
      | ((with_reducible refine at_store 53 ?_); refine wpList_store_new3 rfl rfl 53 _ _ _ rfl PZ p.toArray _ rfl ?_ rfl hps.out hpl.out (by rw [Array.all_toList]; exact hpo.out) ?_; · simp
         intro u1 hu1
         have hE1 : Ext w u1 := by rw [hu1]; exact (((Ext.refl w).alloc _).alloc _).alloc _
         have hr7 : u1.heap[w.heap.size + 1 + 1]? = some (.cells p.toArray 53 (0, 0)) := by rw [hu1]; exact new_row (by simp)
         have hr6 : u1.heap[w.heap.size + 1]? = some (.cells MZ 43 (0, 0)) := by rw [hu1]; exact (heap_alloc_old _ _ (by simp)).trans (new_row (by simp))
         clear hu1
         obtain ⟨p7, h7⟩ : ∃ n, w.heap.size + 1 + 1 = n := ⟨_, rfl⟩
         rw [h7] at hr7 ⊢
         obtain ⟨t6, h6⟩ : ∃ n, w.heap.size + 1 = n := ⟨_, rfl⟩
         rw [h6] at hr6 ⊢
         have hw6 : w.heap.size ≤ t6 ∧ t6 < p7 ∧ w.heap.size ≤ p7 := by omega
         clear h6 h7
         have HRV := Lib.hid (show u1.rangeAt p7 73 [Value.int .u64 (B.gi k 73), .int .u32 (B.gi k 74), .int .u64 (B.gi k 75), .int .u16 (B.gi k 76), .int .u16 (B.gi k 77)] from range_cons ((cell_of_row _ _ _ _ _ _ hr7).trans (by simpa using P73.out)) (range_cons ((cell_of_row _ _ _ _ _ _ hr7).trans (by simpa using P74.out)) (range_cons ((cell_of_row _ _ _ _ _ _ hr7).trans (by simpa using P75.out)) (range_cons ((cell_of_row _ _ _ _ _ _ hr7).trans (by simpa using P76.out)) (range_cons ((cell_of_row _ _ _ _ _ _ hr7).trans (by simpa using P77.out)) range_nil)))))
         have HR7 := Lib.hid hr7
         have HR6 := Lib.hid hr6
         have HE1 := Lib.hid hE1
         clear hr7 hr6 hE1 c17)
      | ((with_reducible refine at_load 28 ?_); refine wpList_load_mid rfl 28 _ rfl p7 73 rfl [Value.int .u64 (B.gi k 73), .int .u32 (B.gi k 74), .int .u64 (B.gi k 75), .int .u16 (B.gi k 76), .int .u16 (B.gi k 77)] _ HRV.out Try.underlying28 rfl size_vec ?_)
      | ((with_reducible refine at_store 28 ?_); refine wpList_store_new3 rfl rfl 28 _ _ _ rfl VZ [Value.int .u64 (B.gi k 73), .int .u32 (B.gi k 74), .int .u64 (B.gi k 75), .int .u16 (B.gi k 76), .int .u16 (B.gi k 77)].toArray _ rfl ?_ rfl (by exact size_vec) rfl rfl ?_; · simp
         intro u2 hu2
         have hE2 : Ext u1 u2 := by rw [hu2]; exact (Ext.refl u1).alloc _
         have hr8 : u2.heap[u1.heap.size]? = some (.cells [Value.int .u64 (B.gi k 73), .int .u32 (B.gi k 74), .int .u64 (B.gi k 75), .int .u16 (B.gi k 76), .int .u16 (B.gi k 77)].toArray 28 (0, 0)) := by rw [hu2]; exact heap_alloc_new _ _
         have hl7 := heap_lt HR7.out
         have hl6 := heap_lt HR6.out
         have hwu := HE1.out.size
         clear hu2
         obtain ⟨v8, h8⟩ : ∃ n, u1.heap.size = n := ⟨_, rfl⟩
         rw [h8] at hr8 hl7 hl6 hwu ⊢
         clear h8
         have hr7 := (hE2.block _ (heap_lt HR7.out)).trans HR7.out
         have hr6 := (hE2.block _ (heap_lt HR6.out)).trans HR6.out
         have d4 : u2.cell? ⟨v8, 4, none⟩ = some (.int .u16 (B.gi k 77)) := (cell_of_row _ _ _ _ _ _ hr8).trans rfl
         have hf8 : ∀ j, u2.frozen? ⟨v8, j, none⟩ = false := fun j => frozen_of_row _ _ _ _ _ hr8
         have hne7 : p7 ≠ v8 := by omega
         have hne6 : t6 ≠ v8 := by omega
         have p13 : u2.cell? ⟨p7, 13, none⟩ = some _ := (cell_of_row _ _ _ _ _ _ hr7).trans ((by simp : p.toArray[13]? = p[13]?).trans P13.out)
         have p48 : u2.cell? ⟨p7, 48, none⟩ = some _ := (cell_of_row _ _ _ _ _ _ hr7).trans ((by simp : p.toArray[48]? = p[48]?).trans P48.out)
         have p34 : u2.cell? ⟨p7, 34, none⟩ = some _ := (cell_of_row _ _ _ _ _ _ hr7).trans ((by simp : p.toArray[34]? = p[34]?).trans P34.out)
         have p22 : u2.cell? ⟨p7, 22, none⟩ = some _ := (cell_of_row _ _ _ _ _ _ hr7).trans ((by simp : p.toArray[22]? = p[22]?).trans P22.out)
         have p29 : u2.cell? ⟨p7, 29, none⟩ = some _ := (cell_of_row _ _ _ _ _ _ hr7).trans ((by simp : p.toArray[29]? = p[29]?).trans P29.out)
         have p27 : u2.cell? ⟨p7, 27, none⟩ = some _ := (cell_of_row _ _ _ _ _ _ hr7).trans ((by simp : p.toArray[27]? = p[27]?).trans P27.out)
         have p87 : u2.cell? ⟨p7, 87, none⟩ = some _ := (cell_of_row _ _ _ _ _ _ hr7).trans ((by simp : p.toArray[87]? = p[87]?).trans P87.out)
         have HV := Lib.hid (show (u2.setCell ⟨v8, 4, none⟩ (.int .u16 0)).heap[v8]? = some (.cells #[Value.int .u64 (B.gi k 73), .int .u32 (B.gi k 74), .int .u64 (B.gi k 75), .int .u16 (B.gi k 76), .int .u16 0] 28 (0, 0)) from heap_setCell_same _ _ _ _ _ _ hr8)
         have H6 := Lib.hid (show (u2.setCell ⟨v8, 4, none⟩ (.int .u16 0)).heap[t6]? = some (.cells MZ 43 (0, 0)) from (heap_setCell_other _ _ _ _ hne6).trans hr6)
         have h7w : (u2.setCell ⟨v8, 4, none⟩ (.int .u16 0)).heap[p7]? = some (.cells p.toArray 53 (0, 0)) := (heap_setCell_other _ _ _ _ hne7).trans hr7
         have HT := Lib.hid (show (u2.setCell ⟨v8, 4, none⟩ (.int .u16 0)).rangeAt p7 82 [Value.int .i64 (B.gi k 82), .int .i64 (B.gi k 83), .int .i64 (B.gi k 84), .int .i64 (B.gi k 85)] from range_cons ((cell_of_row _ _ _ _ _ _ h7w).trans (by simpa using P82.out)) (range_cons ((cell_of_row _ _ _ _ _ _ h7w).trans (by simpa using P83.out)) (range_cons ((cell_of_row _ _ _ _ _ _ h7w).trans (by simpa using P84.out)) (range_cons ((cell_of_row _ _ _ _ _ _ h7w).trans (by simpa using P85.out)) range_nil))))
         have HE := Lib.hid (show Ext w ((u2.setCell ⟨v8, 4, none⟩ (.int .u16 0)).setRow t6 (txMsg B k kind)) from ext_setRow (Below.setCell (HE1.out.trans hE2) hwu _) hw6.1 _)
         have HY := Lib.hid (setRow_heap _ _ _ (txMsg B k kind) _ _ H6.out)
         clear hr8 hr7 hr6 hE2 HR7 HR6 HE1 h7w HRV)
      | ((with_reducible refine at_load 28 ?_); refine wpList_load_row rfl 28 _ rfl v8 rfl 28 #[Value.int .u64 (B.gi k 73), .int .u32 (B.gi k 74), .int .u64 (B.gi k 75), .int .u16 (B.gi k 76), .int .u16 0] (0, 0) _ HV.out Try.underlying28 rfl size_vec ?_)
      | ((with_reducible refine at_load 24 ?_); refine wpList_load_mid rfl 24 _ rfl p7 82 rfl [Value.int .i64 (B.gi k 82), .int .i64 (B.gi k 83), .int .i64 (B.gi k 84), .int .i64 (B.gi k 85)] _ HT.out Try.underlying24 rfl size_times ?_)
      | ((with_reducible refine at_build 43 ?_); refine wpList_build2 rfl 43 _ rfl [] rfl (txMsg B k kind) HB1.out ?_)
      | ((with_reducible refine at_store 43 ?_); refine wpList_store_row rfl 43 _ _ rfl t6 (txMsg B k kind) rfl rfl 43 MZ H6.out HIm.out HSm.out HOm.out ?_))
    refine bodyPost_ret (results_cell_row rfl _ _ _ _ (txMsg B k kind) (0, 0) _ rfl HY.out Try.underlying43 rfl HIm.out) rfl ?_
    exact ⟨rfl, HE.out⟩

end Go.Proofs.Ythlapkddgnpaeaa
