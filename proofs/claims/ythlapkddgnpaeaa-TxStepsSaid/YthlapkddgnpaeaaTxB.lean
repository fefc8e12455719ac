/- The machine that sends: what is told. No statement is proved here. -/
import Derived.Test.YthlapkddgnpaeaaTxA
import Derived.Test.YthlapkddgnpaeaaUpd
namespace Go.Proofs.Ythlapkddgnpaeaa
open Go.RowKit Go.BigFrame Go.WideShapes Go.ChangeShapes Go.Deep
set_option linter.unusedVariables false
set_option linter.unusedSimpArgs false

theorem range_cons {w : World} {b o : Nat} {v : Value} {l : List Value} (h0 : w.cell? ⟨b, o, none⟩ = some v) (h : w.rangeAt b (o + 1) l) : w.rangeAt b o (v :: l) := fun j u hu => by
  cases j with
  | zero => obtain rfl : v = u := by simpa using hu
            exact h0
  | succ j =>
    rw [show o + (j + 1) = o + 1 + j by omega]
    exact h j u (by simpa using hu)
theorem range_nil {w : World} {b o : Nat} : w.rangeAt b o [] := fun j u hu => by simp at hu
theorem yieldsIf_build {P : Program} {ops : Array Oper} {S : World → Prop} {op : Oper} {a : Act} (hw : Region.wanted op (yielded ops a.tmps) = true) (t : TypeId) (parts : Array (Nat × Operand)) (ho : op.op = .build t parts)
    (vals : List (Nat × Value)) (hv : parts.toList.map (fun x => (x.1, a.eval x.2)) = vals) (cells : Array Value) (hb : P.built t vals = some cells) : YieldsIf P ops S op (.agg cells) a :=
  .inl ⟨hw, fun w _ => by
    have e : (parts.map fun (i, x) => (i, a.eval x)).toList = vals := by rw [Array.toList_map]; exact hv
    unfold execOp
    simp only [ho, Sem.run_bind, run_build w t _ cells (by rw [e]; exact hb), Result.andThen_ok]
    rfl⟩

/-- A message, out of its parts. -/
def msgA (kd : Int) (ch ak pr ag ln fw : Bool) (ro : Int) (a : Int) (b : Int) (c : Int) (d : Int) (e : Int) (f g h i : Int) : Array Value :=
  #[.int .i64 kd, .bool ch, .bool ak, .bool pr, .bool ag, .bool ln, .bool fw, .int .i64 ro, .int .u64 a, .int .u32 b, .int .u64 c, .int .u16 d, .int .u16 e, .int .i64 f, .int .i64 g, .int .i64 h, .int .i64 i]
def MZ : Array Value := #[.int .i64 0, .bool false, .bool false, .bool false, .bool false, .bool false, .bool false, .int .i64 0, .int .u64 0, .int .u32 0, .int .u64 0, .int .u16 0, .int .u16 0, .int .i64 0, .int .i64 0, .int .i64 0, .int .i64 0]
theorem zero_msg : ∀ w, (zeroValue 43).run Try.prog w = .ok (.agg MZ) w := (zero_of_info (P := Try.prog) (t := 43) (v := .agg MZ) (n := 17) (by kernel_rfl)).1
/-- What a port tells in a message of a kind. -/
def txMsg (B : Br) (k : Nat) (kind : Int) : Array Value :=
  if kind = 0 then msgA 0 (B.gi k 13 != 0) (B.gb k 48) false false false false 4 (B.gi k 73) (B.gi k 74) (B.gi k 75) (B.gi k 76) 0 (B.gi k 82) (B.gi k 83) (B.gi k 84) (B.gi k 85)
  else if kind = 1 then msgA 1 false false false false false false 0 0 0 0 0 0 0 0 0 0
  else if kind = 2 then msgA 2 (B.gi k 13 != 0) false (B.gb k 34) (B.gb k 22) (B.gb k 29) (B.gb k 27) (B.gi k 87) (B.gi k 73) (B.gi k 74) (B.gi k 75) (B.gi k 76) 0 (B.gi k 82) (B.gi k 83) (B.gi k 84) (B.gi k 85)
  else MZ
theorem msg_b0 (kd : Int) (ch : Bool) (a b c d e f g h i : Int) : Try.prog.built 43 [(0, .int .i64 kd), (1, .bool ch), (8, .agg [Value.int .u64 a, .int .u32 b, .int .u64 c, .int .u16 d, .int .u16 e].toArray), (9, .agg [Value.int .i64 f, .int .i64 g, .int .i64 h, .int .i64 i].toArray)] = some (msgA kd ch false false false false false 0 a b c d e f g h i) := by kernel_rfl
theorem msg_b1 : Try.prog.built 43 [(0, .int .i64 1)] = some (msgA 1 false false false false false false 0 0 0 0 0 0 0 0 0 0) := by kernel_rfl
theorem msg_b2 : Try.prog.built 43 [] = some MZ := by kernel_rfl
theorem msg_one (kd : Int) (ch ak pr ag ln fw : Bool) (ro a b c d e f g h i : Int) : (msgA kd ch ak pr ag ln fw ro a b c d e f g h i).all (·.oneCell') = true := by rw [← Array.all_toList]; rfl
theorem mz_one : MZ.all (·.oneCell') = true := by rw [← Array.all_toList]; rfl
theorem txMsg_size (B : Br) (k : Nat) (kind : Int) : (txMsg B k kind).size = 17 := by
  unfold txMsg
  split
  · rfl
  split
  · rfl
  split <;> rfl
theorem txMsg_one (B : Br) (k : Nat) (kind : Int) : (txMsg B k kind).all (·.oneCell') = true := by
  unfold txMsg
  split
  · exact msg_one ..
  split
  · exact msg_one ..
  split
  · exact msg_one ..
  · exact mz_one
theorem size_vec : (Try.prog.info? 28).map (·.size) = some 5 := by kernel_rfl
theorem size_times : (Try.prog.info? 24).map (·.size) = some 4 := by kernel_rfl

set_option maxRecDepth 100000 in
set_option maxHeartbeats 2000000 in
theorem tx_msg (c : Array Value) (B : Br) (w : World) (hb : BrC w c B) (ho : B.ok) (k : Nat) (hk : k < B.np) (kind : Int) : Calls Try.prog 21 #[.agg c, .int .i64 k, .int .i64 kind] w fun e w' => e = .returned (.agg (txMsg B k kind)) ∧ Ext w w' := by
  obtain ⟨s1, s2, s3, hz, hhd, c17, c18, c19, r1, -, -⟩ := hb.facts ho.hd.1
  obtain ⟨a1, k1, rfl, m1, hrow⟩ := r1.form
  obtain ⟨bb, off, rfl, hbl, hlc, hcm, hc⟩ := hrow (by omega)
  have HC := Lib.hid hc
  have HBL := Lib.hid hbl
  clear hz hhd hb r1 hrow c18 c19 hc hbl
  have hzm := zero_msg
  go_enter Try.func21, Try.ntmps21
  go_wp2_with fail
  have hx0 : Ext w ((w.alloc (.cells c 33)).alloc (.cells MZ 43)) := ((Ext.refl w).alloc _).alloc _
  have hr6 : ((w.alloc (.cells c 33)).alloc (.cells MZ 43)).heap[w.heap.size + 1]? = some (.cells MZ 43 (0, 0)) := heap_alloc2_new _ _ _
  have hwl : w.heap.size + 1 < ((w.alloc (.cells c 33)).alloc (.cells MZ 43)).heap.size := heap_lt hr6
  generalize ((w.alloc (.cells c 33)).alloc (.cells MZ 43)) = W0 at *
  obtain ⟨t6, h6⟩ : ∃ n, w.heap.size + 1 = n := ⟨_, rfl⟩
  rw [h6] at hr6 hwl ⊢
  have hw6 : w.heap.size ≤ t6 := by omega
  clear h6
  have hL := rangeAt_ext HC.out hx0 HBL.out
  have HBW := Lib.hid (Nat.lt_of_lt_of_le HBL.out hx0.size)
  have pr := port_range hL k
  have q13 : W0.cell? ⟨bb, off + k * 89 + 13, none⟩ = some _ := pr 13 _ ((port_at (B := B) (k := k) (j := 13) (by decide)).trans (ho.gi hk 13 rfl))
  have q48 : W0.cell? ⟨bb, off + k * 89 + 48, none⟩ = some _ := pr 48 _ ((port_at (B := B) (k := k) (j := 48) (by decide)).trans (ho.gb hk 48 rfl))
  have q34 : W0.cell? ⟨bb, off + k * 89 + 34, none⟩ = some _ := pr 34 _ ((port_at (B := B) (k := k) (j := 34) (by decide)).trans (ho.gb hk 34 rfl))
  have q22 : W0.cell? ⟨bb, off + k * 89 + 22, none⟩ = some _ := pr 22 _ ((port_at (B := B) (k := k) (j := 22) (by decide)).trans (ho.gb hk 22 rfl))
  have q29 : W0.cell? ⟨bb, off + k * 89 + 29, none⟩ = some _ := pr 29 _ ((port_at (B := B) (k := k) (j := 29) (by decide)).trans (ho.gb hk 29 rfl))
  have q27 : W0.cell? ⟨bb, off + k * 89 + 27, none⟩ = some _ := pr 27 _ ((port_at (B := B) (k := k) (j := 27) (by decide)).trans (ho.gb hk 27 rfl))
  have q87 : W0.cell? ⟨bb, off + k * 89 + 87, none⟩ = some _ := pr 87 _ ((port_at (B := B) (k := k) (j := 87) (by decide)).trans (ho.gi hk 87 rfl))
  have q73 : W0.cell? ⟨bb, off + k * 89 + 73, none⟩ = some _ := pr 73 _ ((port_at (B := B) (k := k) (j := 73) (by decide)).trans (ho.gi hk 73 rfl))
  have q74 : W0.cell? ⟨bb, off + k * 89 + 74, none⟩ = some _ := pr 74 _ ((port_at (B := B) (k := k) (j := 74) (by decide)).trans (ho.gi hk 74 rfl))
  have q75 : W0.cell? ⟨bb, off + k * 89 + 75, none⟩ = some _ := pr 75 _ ((port_at (B := B) (k := k) (j := 75) (by decide)).trans (ho.gi hk 75 rfl))
  have q76 : W0.cell? ⟨bb, off + k * 89 + 76, none⟩ = some _ := pr 76 _ ((port_at (B := B) (k := k) (j := 76) (by decide)).trans (ho.gi hk 76 rfl))
  have q77 : W0.cell? ⟨bb, off + k * 89 + 77, none⟩ = some _ := pr 77 _ ((port_at (B := B) (k := k) (j := 77) (by decide)).trans (ho.gi hk 77 rfl))
  have q82 : W0.cell? ⟨bb, off + k * 89 + 82, none⟩ = some _ := pr 82 _ ((port_at (B := B) (k := k) (j := 82) (by decide)).trans (ho.gi hk 82 rfl))
  have q83 : W0.cell? ⟨bb, off + k * 89 + 83, none⟩ = some _ := pr 83 _ ((port_at (B := B) (k := k) (j := 83) (by decide)).trans (ho.gi hk 83 rfl))
  have q84 : W0.cell? ⟨bb, off + k * 89 + 84, none⟩ = some _ := pr 84 _ ((port_at (B := B) (k := k) (j := 84) (by decide)).trans (ho.gi hk 84 rfl))
  have q85 : W0.cell? ⟨bb, off + k * 89 + 85, none⟩ = some _ := pr 85 _ ((port_at (B := B) (k := k) (j := 85) (by decide)).trans (ho.gi hk 85 rfl))
  have RV := Lib.hid (show W0.rangeAt bb (off + k * 89 + 73) [Value.int .u64 (B.gi k 73), .int .u32 (B.gi k 74), .int .u64 (B.gi k 75), .int .u16 (B.gi k 76), .int .u16 (B.gi k 77)] from range_cons q73 (range_cons q74 (range_cons q75 (range_cons q76 (range_cons q77 range_nil)))))
  have RT := Lib.hid (show W0.rangeAt bb (off + k * 89 + 82) [Value.int .i64 (B.gi k 82), .int .i64 (B.gi k 83), .int .i64 (B.gi k 84), .int .i64 (B.gi k 85)] from range_cons q82 (range_cons q83 (range_cons q84 (range_cons q85 range_nil))))
  clear pr hL c17 q73 q74 q75 q76 q77 q82 q83 q84 q85
  refine beginL (S := fun W' => Ext W0 W') (by kernel_rfl) ?_
  intro wd hqx
  have hq0 : Ext W0 wd := hqx
  refine takeL (i := 0) (v := (.int .i64 kind)) rfl (by kernel_rfl) (by kernel_rfl) (by kernel_rfl) (fun _ _ _ h => h) (Or.inl ⟨rfl, fun _ _ => rfl⟩) hq0 ?_
  simp only [Act.put, List.setIfInBounds_toArray, List.set_cons_zero, List.set_cons_succ]
  refine takeL (i := 1) (v := (.pointer (some ⟨bb, off + k * 89, none⟩))) rfl (by kernel_rfl) (by kernel_rfl) (by kernel_rfl) (fun _ _ _ h => h) (Or.inl ⟨rfl, fun _ _ => rfl⟩) hq0 ?_
  simp only [Act.put, List.setIfInBounds_toArray, List.set_cons_zero, List.set_cons_succ]
  refine takeL (i := 2) (v := (.pointer (some ⟨bb, off + k * 89, none⟩))) rfl (by kernel_rfl) (by kernel_rfl) (by kernel_rfl) (fun _ _ _ h => h) (Or.inl ⟨rfl, fun _ _ => rfl⟩) hq0 ?_
  simp only [Act.put, List.setIfInBounds_toArray, List.set_cons_zero, List.set_cons_succ]
  refine takeL (i := 3) (v := (.pointer (some ⟨bb, off + k * 89 + 6, none⟩))) rfl (by kernel_rfl) (by kernel_rfl) (by kernel_rfl) (fun _ _ _ h => h) (Or.inl ⟨rfl, fun _ _ => rfl⟩) hq0 ?_
  simp only [Act.put, List.setIfInBounds_toArray, List.set_cons_zero, List.set_cons_succ]
  refine takeL (i := 4) (v := (.pointer (some ⟨bb, off + k * 89 + 13, none⟩))) rfl (by kernel_rfl) (by kernel_rfl) (by kernel_rfl) (fun _ _ _ h => h) (Or.inl ⟨rfl, fun _ _ => rfl⟩) hq0 ?_
  simp only [Act.put, List.setIfInBounds_toArray, List.set_cons_zero, List.set_cons_succ]
  refine takeL (i := 5) (v := _) rfl (by kernel_rfl) (by kernel_rfl) (by kernel_rfl) (fun _ _ _ h => h) (yieldsIf_cell rfl 3 _ rfl ⟨bb, off + k * 89 + 13, none⟩ rfl (.int .i64 (B.gi k 13)) _ (fun W' hW' => (hW'.cell (p := ⟨bb, off + k * 89 + 13, none⟩) HBW.out).trans q13) Try.underlying3 rfl) hq0 ?_
  simp only [Act.put, List.setIfInBounds_toArray, List.set_cons_zero, List.set_cons_succ]
  refine takeL (i := 6) (v := (.bool (B.gi k 13 != 0))) rfl (by kernel_rfl) (by kernel_rfl) (by kernel_rfl) (fun _ _ _ h => h) (Or.inl ⟨rfl, fun W' _ => by go_simp⟩) hq0 ?_
  simp only [Act.put, List.setIfInBounds_toArray, List.set_cons_zero, List.set_cons_succ]
  refine takeL (i := 7) (v := (.pointer (some ⟨bb, off + k * 89, none⟩))) rfl (by kernel_rfl) (by kernel_rfl) (by kernel_rfl) (fun _ _ _ h => h) (Or.inl ⟨rfl, fun _ _ => rfl⟩) hq0 ?_
  simp only [Act.put, List.setIfInBounds_toArray, List.set_cons_zero, List.set_cons_succ]
  refine takeL (i := 8) (v := (.pointer (some ⟨bb, off + k * 89, none⟩))) rfl (by kernel_rfl) (by kernel_rfl) (by kernel_rfl) (fun _ _ _ h => h) (Or.inl ⟨rfl, fun _ _ => rfl⟩) hq0 ?_
  simp only [Act.put, List.setIfInBounds_toArray, List.set_cons_zero, List.set_cons_succ]
  refine takeL (i := 9) (v := (.pointer (some ⟨bb, off + k * 89 + 73, none⟩))) rfl (by kernel_rfl) (by kernel_rfl) (by kernel_rfl) (fun _ _ _ h => h) (Or.inl ⟨rfl, fun _ _ => rfl⟩) hq0 ?_
  simp only [Act.put, List.setIfInBounds_toArray, List.set_cons_zero, List.set_cons_succ]
  refine takeL (i := 10) (v := _) rfl (by kernel_rfl) (by kernel_rfl) (by kernel_rfl) (fun _ _ _ h => h) (yieldsIf_load_mid rfl 28 _ rfl bb (off + k * 89 + 73) rfl ([Value.int .u64 (B.gi k 73), .int .u32 (B.gi k 74), .int .u64 (B.gi k 75), .int .u16 (B.gi k 76), .int .u16 (B.gi k 77)]) _ (fun W' hW' => rangeAt_ext RV.out hW' HBW.out) Try.underlying28 rfl size_vec) hq0 ?_
  simp only [Act.put, List.setIfInBounds_toArray, List.set_cons_zero, List.set_cons_succ]
  refine takeL (i := 11) (v := (.pointer (some ⟨bb, off + k * 89, none⟩))) rfl (by kernel_rfl) (by kernel_rfl) (by kernel_rfl) (fun _ _ _ h => h) (Or.inl ⟨rfl, fun _ _ => rfl⟩) hq0 ?_
  simp only [Act.put, List.setIfInBounds_toArray, List.set_cons_zero, List.set_cons_succ]
  refine takeL (i := 12) (v := (.pointer (some ⟨bb, off + k * 89, none⟩))) rfl (by kernel_rfl) (by kernel_rfl) (by kernel_rfl) (fun _ _ _ h => h) (Or.inl ⟨rfl, fun _ _ => rfl⟩) hq0 ?_
  simp only [Act.put, List.setIfInBounds_toArray, List.set_cons_zero, List.set_cons_succ]
  refine takeL (i := 13) (v := (.pointer (some ⟨bb, off + k * 89 + 82, none⟩))) rfl (by kernel_rfl) (by kernel_rfl) (by kernel_rfl) (fun _ _ _ h => h) (Or.inl ⟨rfl, fun _ _ => rfl⟩) hq0 ?_
  simp only [Act.put, List.setIfInBounds_toArray, List.set_cons_zero, List.set_cons_succ]
  refine takeL (i := 14) (v := _) rfl (by kernel_rfl) (by kernel_rfl) (by kernel_rfl) (fun _ _ _ h => h) (yieldsIf_load_mid rfl 24 _ rfl bb (off + k * 89 + 82) rfl ([Value.int .i64 (B.gi k 82), .int .i64 (B.gi k 83), .int .i64 (B.gi k 84), .int .i64 (B.gi k 85)]) _ (fun W' hW' => rangeAt_ext RT.out hW' HBW.out) Try.underlying24 rfl size_times) hq0 ?_
  simp only [Act.put, List.setIfInBounds_toArray, List.set_cons_zero, List.set_cons_succ]
  refine takeL (i := 15) (v := (.agg (msgA kind (B.gi k 13 != 0) false false false false false 0 (B.gi k 73) (B.gi k 74) (B.gi k 75) (B.gi k 76) (B.gi k 77) (B.gi k 82) (B.gi k 83) (B.gi k 84) (B.gi k 85)))) rfl (by kernel_rfl) (by kernel_rfl) (by kernel_rfl) (fun _ _ _ h => h) (yieldsIf_build rfl 43 _ rfl [(0, .int .i64 kind), (1, .bool (B.gi k 13 != 0)), (8, .agg [Value.int .u64 (B.gi k 73), .int .u32 (B.gi k 74), .int .u64 (B.gi k 75), .int .u16 (B.gi k 76), .int .u16 (B.gi k 77)].toArray), (9, .agg [Value.int .i64 (B.gi k 82), .int .i64 (B.gi k 83), .int .i64 (B.gi k 84), .int .i64 (B.gi k 85)].toArray)] rfl (msgA kind (B.gi k 13 != 0) false false false false false 0 (B.gi k 73) (B.gi k 74) (B.gi k 75) (B.gi k 76) (B.gi k 77) (B.gi k 82) (B.gi k 83) (B.gi k 84) (B.gi k 85)) (msg_b0 _ _ _ _ _ _ _ _ _ _ _)) hq0 ?_
  simp only [Act.put, List.setIfInBounds_toArray, List.set_cons_zero, List.set_cons_succ]
  refine runL (i := 16) rfl rfl (by kernel_rfl) (fun K hK => ?_)
  refine wp_alloc_zero 43 rfl MZ (zero_msg _) ?_
  have hq1 := hq0.alloc (.cells MZ 43)
  refine hK.out _ _ hq1 (fun hHeld => ?_)
  try simp only [Act.put, List.setIfInBounds_toArray, List.set_cons_zero, List.set_cons_succ]
  clear hK K hHeld
  refine runL (i := 17) rfl rfl (by kernel_rfl) (fun K hK => ?_)
  refine wp_store_row 43 _ _ rfl wd.heap.size 43 MZ (msgA kind (B.gi k 13 != 0) false false false false false 0 (B.gi k 73) (B.gi k 74) (B.gi k 75) (B.gi k 76) (B.gi k 77) (B.gi k 82) (B.gi k 83) (B.gi k 84) (B.gi k 85)) rfl rfl (heap_alloc_new _ _) size_msg rfl (msg_one _ _ _ _ _ _ _ _ _ _ _ _ _ _ _ _ _) ?_
  rw [World.setRow_alloc_new]
  have hq2 := hq0.alloc (.cells (msgA kind (B.gi k 13 != 0) false false false false false 0 (B.gi k 73) (B.gi k 74) (B.gi k 75) (B.gi k 76) (B.gi k 77) (B.gi k 82) (B.gi k 83) (B.gi k 84) (B.gi k 85)) 43)
  refine hK.out _ _ hq2 (fun hHeld => ?_)
  try simp only [Act.put, List.setIfInBounds_toArray, List.set_cons_zero, List.set_cons_succ]
  clear hK K hHeld
  refine wpAnyH_done (by kernel_rfl) ?_ _
  have hr8 : (wd.alloc (.cells (msgA kind (B.gi k 13 != 0) false false false false false 0 (B.gi k 73) (B.gi k 74) (B.gi k 75) (B.gi k 76) (B.gi k 77) (B.gi k 82) (B.gi k 83) (B.gi k 84) (B.gi k 85)) 43)).heap[wd.heap.size]? = some (.cells (msgA kind (B.gi k 13 != 0) false false false false false 0 (B.gi k 73) (B.gi k 74) (B.gi k 75) (B.gi k 76) (B.gi k 77) (B.gi k 82) (B.gi k 83) (B.gi k 84) (B.gi k 85)) 43 (0, 0)) := heap_alloc_new _ _
  have hE8 : Ext W0 (wd.alloc (.cells (msgA kind (B.gi k 13 != 0) false false false false false 0 (B.gi k 73) (B.gi k 74) (B.gi k 75) (B.gi k 76) (B.gi k 77) (B.gi k 82) (B.gi k 83) (B.gi k 84) (B.gi k 85)) 43)) := hq0.alloc _
  have hl8 : W0.heap.size ≤ wd.heap.size := hq0.size
  clear hqx hq0 hq1 hq2
  generalize wd.alloc (.cells (msgA kind (B.gi k 13 != 0) false false false false false 0 (B.gi k 73) (B.gi k 74) (B.gi k 75) (B.gi k 76) (B.gi k 77) (B.gi k 82) (B.gi k 83) (B.gi k 84) (B.gi k 85)) 43) = u1 at *
  obtain ⟨h8, hh8⟩ : ∃ n, wd.heap.size = n := ⟨_, rfl⟩
  rw [hh8] at hr8 hl8 ⊢
  clear hh8 wd
  have hr6 := (hE8.block _ hwl).trans hr6
  have HR6 := Lib.hid hr6
  have HR8 := Lib.hid hr8
  have hf8 : ∀ j, u1.frozen? ⟨h8, j, none⟩ = false := fun j => frozen_of_row _ _ _ _ _ hr8
  have c8 : ∀ j, u1.cell? ⟨h8, j, none⟩ = (msgA kind (B.gi k 13 != 0) false false false false false 0 (B.gi k 73) (B.gi k 74) (B.gi k 75) (B.gi k 76) (B.gi k 77) (B.gi k 82) (B.gi k 83) (B.gi k 84) (B.gi k 85))[j]? := fun j => cell_of_row _ _ _ _ _ _ hr8
  have hne : h8 ≠ t6 := by omega
  have HEX := Lib.hid (hx0.trans hE8)
  have p13 := (hE8.cell (p := ⟨bb, off + k * 89 + 13, none⟩) HBW.out).trans q13
  have p48 := (hE8.cell (p := ⟨bb, off + k * 89 + 48, none⟩) HBW.out).trans q48
  have p34 := (hE8.cell (p := ⟨bb, off + k * 89 + 34, none⟩) HBW.out).trans q34
  have p22 := (hE8.cell (p := ⟨bb, off + k * 89 + 22, none⟩) HBW.out).trans q22
  have p29 := (hE8.cell (p := ⟨bb, off + k * 89 + 29, none⟩) HBW.out).trans q29
  have p27 := (hE8.cell (p := ⟨bb, off + k * 89 + 27, none⟩) HBW.out).trans q27
  have p87 := (hE8.cell (p := ⟨bb, off + k * 89 + 87, none⟩) HBW.out).trans q87
  clear q13 q48 q34 q22 q29 q27 q87
  have HBU := Lib.hid (Nat.lt_of_lt_of_le HBW.out hE8.size)
  have hwh : w.heap.size ≤ h8 := by omega
  clear hr6 hr8 hx0 hE8 hwl hl8
  have d12 : u1.cell? ⟨h8, 12, none⟩ = some (.int .u16 (B.gi k 77)) := c8 12
  have d2 : u1.cell? ⟨h8, 2, none⟩ = some (.bool false) := c8 2
  have d7 : u1.cell? ⟨h8, 7, none⟩ = some (.int .i64 0) := c8 7
  have d3 : u1.cell? ⟨h8, 3, none⟩ = some (.bool false) := c8 3
  have d4 : u1.cell? ⟨h8, 4, none⟩ = some (.bool false) := c8 4
  have d5 : u1.cell? ⟨h8, 5, none⟩ = some (.bool false) := c8 5
  have d6 : u1.cell? ⟨h8, 6, none⟩ = some (.bool false) := c8 6
  clear c8
  have hbne : bb ≠ h8 := by have := HBW.out; have := HBL.out; omega
  have HIm := Lib.hid (show (Try.prog.info? 43).map (·.size) = some (txMsg B k kind).size by rw [txMsg_size]; exact size_msg)
  have HSm := Lib.hid (show MZ.size = (txMsg B k kind).size by rw [txMsg_size]; rfl)
  have HOm := Lib.hid (txMsg_one B k kind)
  by_cases k0 : kind = 0
  · have e0 : (kind == 0) = true := by simpa using k0
    have eC : (((msgA kind (B.gi k 13 != 0) false false false false false 0 (B.gi k 73) (B.gi k 74) (B.gi k 75) (B.gi k 76) (B.gi k 77) (B.gi k 82) (B.gi k 83) (B.gi k 84) (B.gi k 85)).setIfInBounds 12 (Value.int .u16 0)).setIfInBounds 2 (Value.bool (B.gb k 48))).setIfInBounds 7 (Value.int .i64 4) = txMsg B k kind := by subst k0; rfl
    have H8 := Lib.hid (show (((u1.setCell ⟨h8, 12, none⟩ (.int .u16 0)).setCell ⟨h8, 2, none⟩ (.bool (B.gb k 48))).setCell ⟨h8, 7, none⟩ (.int .i64 4)).heap[h8]? = some (.cells (txMsg B k kind) 43 (0, 0)) from (by rw [← eC]; exact heap_setCell_same _ _ _ _ _ _ (heap_setCell_same _ _ _ _ _ _ (heap_setCell_same _ _ _ _ _ _ HR8.out))))
    have H6 := Lib.hid (show (((u1.setCell ⟨h8, 12, none⟩ (.int .u16 0)).setCell ⟨h8, 2, none⟩ (.bool (B.gb k 48))).setCell ⟨h8, 7, none⟩ (.int .i64 4)).heap[t6]? = some (.cells MZ 43 (0, 0)) from (heap_setCell_other _ _ _ _ (Ne.symm hne)).trans ((heap_setCell_other _ _ _ _ (Ne.symm hne)).trans ((heap_setCell_other _ _ _ _ (Ne.symm hne)).trans HR6.out)))
    have HE := Lib.hid (show Ext w ((((u1.setCell ⟨h8, 12, none⟩ (.int .u16 0)).setCell ⟨h8, 2, none⟩ (.bool (B.gb k 48))).setCell ⟨h8, 7, none⟩ (.int .i64 4)).setRow t6 (txMsg B k kind)) from ext_setRow (Below.setCell (Below.setCell (Below.setCell HEX.out hwh _) hwh _) hwh _) hw6 _)
    have HY := Lib.hid (setRow_heap _ _ _ (txMsg B k kind) _ _ H6.out)
    clear eC
    go_wp2_with (first
      | fail
      | ((with_reducible refine at_load 43 ?_); refine wpList_load_row rfl 43 _ rfl h8 rfl 43 (txMsg B k kind) (0, 0) _ H8.out Try.underlying43 rfl HIm.out ?_)
      | ((with_reducible refine at_store 43 ?_); refine wpList_store_row rfl 43 _ _ rfl t6 (txMsg B k kind) rfl rfl 43 MZ H6.out HIm.out HSm.out HOm.out ?_))
    refine bodyPost_ret (results_cell_row rfl _ _ _ _ (txMsg B k kind) (0, 0) _ rfl HY.out Try.underlying43 rfl HIm.out) rfl ?_
    exact ⟨rfl, HE.out⟩
  by_cases k1 : kind = 1
  · have n0 : (kind == 0) = false := by simpa using k0
    have e1 : (kind == 1) = true := by simpa using k1
    have HB1 := Lib.hid (show Try.prog.built 43 [(0, .int .i64 1)] = some (txMsg B k kind) by rw [k1]; exact msg_b1)
    have H8 := Lib.hid (show ((u1.setCell ⟨h8, 12, none⟩ (.int .u16 0)).setRow h8 (txMsg B k kind)).heap[h8]? = some (.cells (txMsg B k kind) 43 (0, 0)) from setRow_heap _ _ _ _ _ _ (heap_setCell_same _ _ _ _ _ _ HR8.out))
    have H6 := Lib.hid (show ((u1.setCell ⟨h8, 12, none⟩ (.int .u16 0)).setRow h8 (txMsg B k kind)).heap[t6]? = some (.cells MZ 43 (0, 0)) from (setRow_other _ _ _ _ (Ne.symm hne)).trans ((heap_setCell_other _ _ _ _ (Ne.symm hne)).trans HR6.out))
    have HE := Lib.hid (show Ext w (((u1.setCell ⟨h8, 12, none⟩ (.int .u16 0)).setRow h8 (txMsg B k kind)).setRow t6 (txMsg B k kind)) from ext_setRow (ext_setRow (Below.setCell HEX.out hwh _) hwh _) hw6 _)
    have HY := Lib.hid (setRow_heap _ _ _ (txMsg B k kind) _ _ H6.out)
    have HZ8 := Lib.hid (show (u1.setCell ⟨h8, 12, none⟩ (.int .u16 0)).heap[h8]? = some (.cells _ 43 (0, 0)) from heap_setCell_same _ _ _ _ _ _ HR8.out)
    go_wp2_with (first
      | fail
      | ((with_reducible refine at_build 43 ?_); refine wpList_build2 rfl 43 _ rfl [(0, .int .i64 1)] rfl (txMsg B k kind) HB1.out ?_)
      | ((with_reducible refine at_load 43 ?_); refine wpList_load_row rfl 43 _ rfl h8 rfl 43 (txMsg B k kind) (0, 0) _ H8.out Try.underlying43 rfl HIm.out ?_)
      | ((with_reducible refine at_store 43 ?_); refine wpList_store_row rfl 43 _ _ rfl h8 (txMsg B k kind) rfl rfl 43 _ HZ8.out HIm.out (by rw [txMsg_size]; rfl) HOm.out ?_)
      | ((with_reducible refine at_store 43 ?_); refine wpList_store_row rfl 43 _ _ rfl t6 (txMsg B k kind) rfl rfl 43 MZ H6.out HIm.out HSm.out HOm.out ?_))
    refine bodyPost_ret (results_cell_row rfl _ _ _ _ (txMsg B k kind) (0, 0) _ rfl HY.out Try.underlying43 rfl HIm.out) rfl ?_
    exact ⟨rfl, HE.out⟩
  by_cases k2 : kind = 2
  · have n0 : (kind == 0) = false := by simpa using k0
    have n1 : (kind == 1) = false := by simpa using k1
    have e2 : (kind == 2) = true := by simpa using k2
    go_wp2_with fail
    have hr8 : (u1.setCell ⟨h8, 12, none⟩ (.int .u16 0)).heap[h8]? = some (.cells _ 43 (0, 0)) := heap_setCell_same _ _ _ _ _ _ HR8.out
    have hr6 : (u1.setCell ⟨h8, 12, none⟩ (.int .u16 0)).heap[t6]? = some (.cells MZ 43 (0, 0)) := (heap_setCell_other _ _ _ _ (Ne.symm hne)).trans HR6.out
    have hEX : Ext w (u1.setCell ⟨h8, 12, none⟩ (.int .u16 0)) := Below.setCell HEX.out hwh _
    have r34 : (u1.setCell ⟨h8, 12, none⟩ (.int .u16 0)).cell? ⟨bb, off + k * 89 + 34, none⟩ = some _ := (World.cell?_setCell_far _ _ _ _ (Ne.symm hbne)).trans p34
    have r22 : (u1.setCell ⟨h8, 12, none⟩ (.int .u16 0)).cell? ⟨bb, off + k * 89 + 22, none⟩ = some _ := (World.cell?_setCell_far _ _ _ _ (Ne.symm hbne)).trans p22
    have r29 : (u1.setCell ⟨h8, 12, none⟩ (.int .u16 0)).cell? ⟨bb, off + k * 89 + 29, none⟩ = some _ := (World.cell?_setCell_far _ _ _ _ (Ne.symm hbne)).trans p29
    have r27 : (u1.setCell ⟨h8, 12, none⟩ (.int .u16 0)).cell? ⟨bb, off + k * 89 + 27, none⟩ = some _ := (World.cell?_setCell_far _ _ _ _ (Ne.symm hbne)).trans p27
    have r87 : (u1.setCell ⟨h8, 12, none⟩ (.int .u16 0)).cell? ⟨bb, off + k * 89 + 87, none⟩ = some _ := (World.cell?_setCell_far _ _ _ _ (Ne.symm hbne)).trans p87
    clear hf8 d12 d2 d7 d3 d4 d5 d6 HR8 HR6 HEX HBU p13 p48 p34 p22 p29 p27 p87
    generalize (u1.setCell ⟨h8, 12, none⟩ (.int .u16 0)) = u2 at *
    obtain ⟨R2, hR2⟩ : ∃ R, (msgA kind (B.gi k 13 != 0) false false false false false 0 (B.gi k 73) (B.gi k 74) (B.gi k 75) (B.gi k 76) (B.gi k 77) (B.gi k 82) (B.gi k 83) (B.gi k 84) (B.gi k 85)).setIfInBounds 12 (Value.int .u16 0) = R := ⟨_, rfl⟩
    rw [hR2] at hr8
    have hbu : bb < u2.heap.size := Nat.lt_of_lt_of_le HBL.out hEX.size
    have h8u : h8 < u2.heap.size := heap_lt hr8
    have h6u : t6 < u2.heap.size := heap_lt hr6
    have Q34 := Lib.hid r34
    have Q22 := Lib.hid r22
    clear r34 r22
    refine beginL (S := fun W' => Mut (fun n => n = h8) u2 W') (by kernel_rfl) ?_
    intro wd hqx
    have hq0 : Mut (fun n => n = h8) u2 wd := hqx.mut _
    have hrd := (hqx.block _ h8u).trans hr8
    have hfd : ∀ j, wd.frozen? ⟨h8, j, none⟩ = false := fun j => frozen_of_row _ _ _ _ _ hrd
    have e3 : wd.cell? ⟨h8, 3, none⟩ = some (.bool false) := (cell_of_row _ _ _ _ _ _ hrd).trans (by subst k2; rw [← hR2]; rfl)
    have e4 : wd.cell? ⟨h8, 4, none⟩ = some (.bool false) := (cell_of_row _ _ _ _ _ _ hrd).trans (by subst k2; rw [← hR2]; rfl)
    clear hrd
    refine takeL (i := 0) (v := (.pointer (some ⟨bb, off + k * 89, none⟩))) rfl (by kernel_rfl) (by kernel_rfl) (by kernel_rfl) (fun _ _ _ h => h) (Or.inl ⟨rfl, fun _ _ => rfl⟩) hq0 ?_
    simp only [Act.put, List.setIfInBounds_toArray, List.set_cons_zero, List.set_cons_succ]
    refine takeL (i := 1) (v := (.pointer (some ⟨bb, off + k * 89, none⟩))) rfl (by kernel_rfl) (by kernel_rfl) (by kernel_rfl) (fun _ _ _ h => h) (Or.inl ⟨rfl, fun _ _ => rfl⟩) hq0 ?_
    simp only [Act.put, List.setIfInBounds_toArray, List.set_cons_zero, List.set_cons_succ]
    refine takeL (i := 2) (v := (.pointer (some ⟨bb, off + k * 89 + 22, none⟩))) rfl (by kernel_rfl) (by kernel_rfl) (by kernel_rfl) (fun _ _ _ h => h) (Or.inl ⟨rfl, fun _ _ => rfl⟩) hq0 ?_
    simp only [Act.put, List.setIfInBounds_toArray, List.set_cons_zero, List.set_cons_succ]
    refine takeL (i := 3) (v := (.pointer (some ⟨bb, off + k * 89 + 34, none⟩))) rfl (by kernel_rfl) (by kernel_rfl) (by kernel_rfl) (fun _ _ _ h => h) (Or.inl ⟨rfl, fun _ _ => rfl⟩) hq0 ?_
    simp only [Act.put, List.setIfInBounds_toArray, List.set_cons_zero, List.set_cons_succ]
    refine takeL (i := 4) (v := _) rfl (by kernel_rfl) (by kernel_rfl) (by kernel_rfl) (fun _ _ _ h => h) (yieldsIf_cell rfl 4 _ rfl ⟨bb, off + k * 89 + 34, none⟩ rfl (.bool (B.gb k 34)) _ (fun W' hW' => (hW'.cell (p := ⟨bb, off + k * 89 + 34, none⟩) hbu hbne).trans Q34.out) Try.underlying4 rfl) hq0 ?_
    simp only [Act.put, List.setIfInBounds_toArray, List.set_cons_zero, List.set_cons_succ]
    refine takeL (i := 5) (v := (.pointer (some ⟨bb, off + k * 89, none⟩))) rfl (by kernel_rfl) (by kernel_rfl) (by kernel_rfl) (fun _ _ _ h => h) (Or.inl ⟨rfl, fun _ _ => rfl⟩) hq0 ?_
    simp only [Act.put, List.setIfInBounds_toArray, List.set_cons_zero, List.set_cons_succ]
    refine takeL (i := 6) (v := (.pointer (some ⟨bb, off + k * 89, none⟩))) rfl (by kernel_rfl) (by kernel_rfl) (by kernel_rfl) (fun _ _ _ h => h) (Or.inl ⟨rfl, fun _ _ => rfl⟩) hq0 ?_
    simp only [Act.put, List.setIfInBounds_toArray, List.set_cons_zero, List.set_cons_succ]
    refine takeL (i := 7) (v := (.pointer (some ⟨bb, off + k * 89 + 22, none⟩))) rfl (by kernel_rfl) (by kernel_rfl) (by kernel_rfl) (fun _ _ _ h => h) (Or.inl ⟨rfl, fun _ _ => rfl⟩) hq0 ?_
    simp only [Act.put, List.setIfInBounds_toArray, List.set_cons_zero, List.set_cons_succ]
    refine takeL (i := 8) (v := (.pointer (some ⟨bb, off + k * 89 + 22, none⟩))) rfl (by kernel_rfl) (by kernel_rfl) (by kernel_rfl) (fun _ _ _ h => h) (Or.inl ⟨rfl, fun _ _ => rfl⟩) hq0 ?_
    simp only [Act.put, List.setIfInBounds_toArray, List.set_cons_zero, List.set_cons_succ]
    refine takeL (i := 9) (v := _) rfl (by kernel_rfl) (by kernel_rfl) (by kernel_rfl) (fun _ _ _ h => h) (yieldsIf_cell rfl 4 _ rfl ⟨bb, off + k * 89 + 22, none⟩ rfl (.bool (B.gb k 22)) _ (fun W' hW' => (hW'.cell (p := ⟨bb, off + k * 89 + 22, none⟩) hbu hbne).trans Q22.out) Try.underlying4 rfl) hq0 ?_
    simp only [Act.put, List.setIfInBounds_toArray, List.set_cons_zero, List.set_cons_succ]
    refine takeL (i := 10) (v := (.pointer (some ⟨h8, 3, none⟩))) rfl (by kernel_rfl) (by kernel_rfl) (by kernel_rfl) (fun _ _ _ h => h) (Or.inl ⟨rfl, fun _ _ => rfl⟩) hq0 ?_
    simp only [Act.put, List.setIfInBounds_toArray, List.set_cons_zero, List.set_cons_succ]
    refine runL (i := 11) rfl rfl (by kernel_rfl) (fun K hK => ?_)
    go_simp
    have hq1 := hq0.setCell (p := ⟨h8, 3, none⟩) (.inl rfl) (.bool (B.gb k 34))
    refine hK.out _ _ hq1 (fun hHeld => ?_)
    try simp only [Act.put, List.setIfInBounds_toArray, List.set_cons_zero, List.set_cons_succ]
    clear hK K hHeld
    refine takeL (i := 12) (v := (.pointer (some ⟨h8, 4, none⟩))) rfl (by kernel_rfl) (by kernel_rfl) (by kernel_rfl) (fun _ _ _ h => h) (Or.inl ⟨rfl, fun _ _ => rfl⟩) hq1 ?_
    simp only [Act.put, List.setIfInBounds_toArray, List.set_cons_zero, List.set_cons_succ]
    refine runL (i := 13) rfl rfl (by kernel_rfl) (fun K hK => ?_)
    go_simp
    have hq2 := hq1.setCell (p := ⟨h8, 4, none⟩) (.inl rfl) (.bool (B.gb k 22))
    refine hK.out _ _ hq2 (fun hHeld => ?_)
    try simp only [Act.put, List.setIfInBounds_toArray, List.set_cons_zero, List.set_cons_succ]
    clear hK K hHeld
    refine wpAnyH_done (by kernel_rfl) ?_ _
    have hr8n : ((wd.setCell ⟨h8, 3, none⟩ (.bool (B.gb k 34))).setCell ⟨h8, 4, none⟩ (.bool (B.gb k 22))).heap[h8]? = some (.cells ((R2.setIfInBounds 3 (Value.bool (B.gb k 34))).setIfInBounds 4 (Value.bool (B.gb k 22))) 43 (0, 0)) := heap_setCell_same _ _ _ _ _ _ (heap_setCell_same _ _ _ _ _ _ ((hqx.block _ h8u).trans hr8))
    have hr6n : ((wd.setCell ⟨h8, 3, none⟩ (.bool (B.gb k 34))).setCell ⟨h8, 4, none⟩ (.bool (B.gb k 22))).heap[t6]? = some (.cells MZ 43 (0, 0)) := (heap_setCell_other _ _ _ _ (Ne.symm hne)).trans ((heap_setCell_other _ _ _ _ (Ne.symm hne)).trans ((hqx.block _ h6u).trans hr6))
    have hEXn : Ext w ((wd.setCell ⟨h8, 3, none⟩ (.bool (B.gb k 34))).setCell ⟨h8, 4, none⟩ (.bool (B.gb k 22))) := Below.setCell (Below.setCell (hEX.trans hqx) hwh _) hwh _
    have rn29 : ((wd.setCell ⟨h8, 3, none⟩ (.bool (B.gb k 34))).setCell ⟨h8, 4, none⟩ (.bool (B.gb k 22))).cell? ⟨bb, off + k * 89 + 29, none⟩ = some _ := (World.cell?_setCell_far _ _ _ _ (Ne.symm hbne)).trans ((World.cell?_setCell_far _ _ _ _ (Ne.symm hbne)).trans ((hqx.cell (p := ⟨bb, off + k * 89 + 29, none⟩) hbu).trans r29))
    have rn27 : ((wd.setCell ⟨h8, 3, none⟩ (.bool (B.gb k 34))).setCell ⟨h8, 4, none⟩ (.bool (B.gb k 22))).cell? ⟨bb, off + k * 89 + 27, none⟩ = some _ := (World.cell?_setCell_far _ _ _ _ (Ne.symm hbne)).trans ((World.cell?_setCell_far _ _ _ _ (Ne.symm hbne)).trans ((hqx.cell (p := ⟨bb, off + k * 89 + 27, none⟩) hbu).trans r27))
    have rn87 : ((wd.setCell ⟨h8, 3, none⟩ (.bool (B.gb k 34))).setCell ⟨h8, 4, none⟩ (.bool (B.gb k 22))).cell? ⟨bb, off + k * 89 + 87, none⟩ = some _ := (World.cell?_setCell_far _ _ _ _ (Ne.symm hbne)).trans ((World.cell?_setCell_far _ _ _ _ (Ne.symm hbne)).trans ((hqx.cell (p := ⟨bb, off + k * 89 + 87, none⟩) hbu).trans r87))
    clear hr8 hr6 hEX hqx hq0 hq1 hq2 hbu h8u h6u hfd e3 e4 Q34 Q22 r29 r27 r87
    generalize ((wd.setCell ⟨h8, 3, none⟩ (.bool (B.gb k 34))).setCell ⟨h8, 4, none⟩ (.bool (B.gb k 22))) = u3 at *
    clear wd 
    have hr8 := hr8n
    have hr6 := hr6n
    have hEX := hEXn
    have r29 := rn29
    have r27 := rn27
    have r87 := rn87
    clear hr8n hr6n hEXn rn29 rn27 rn87
    obtain ⟨R3, hR3⟩ : ∃ R, ((R2.setIfInBounds 3 (Value.bool (B.gb k 34))).setIfInBounds 4 (Value.bool (B.gb k 22))) = R := ⟨_, rfl⟩
    rw [hR3] at hr8
    go_wp2_with fail
    have hbu : bb < u3.heap.size := Nat.lt_of_lt_of_le HBL.out hEX.size
    have h8u : h8 < u3.heap.size := heap_lt hr8
    have h6u : t6 < u3.heap.size := heap_lt hr6
    have Q29 := Lib.hid r29
    have Q27 := Lib.hid r27
    clear r29 r27
    refine beginL (S := fun W' => Mut (fun n => n = h8) u3 W') (by kernel_rfl) ?_
    intro wd hqx
    have hq0 : Mut (fun n => n = h8) u3 wd := hqx.mut _
    have hrd := (hqx.block _ h8u).trans hr8
    have hfd : ∀ j, wd.frozen? ⟨h8, j, none⟩ = false := fun j => frozen_of_row _ _ _ _ _ hrd
    have e5 : wd.cell? ⟨h8, 5, none⟩ = some (.bool false) := (cell_of_row _ _ _ _ _ _ hrd).trans (by subst k2; rw [← hR3, ← hR2]; rfl)
    have e6 : wd.cell? ⟨h8, 6, none⟩ = some (.bool false) := (cell_of_row _ _ _ _ _ _ hrd).trans (by subst k2; rw [← hR3, ← hR2]; rfl)
    clear hrd
    refine takeL (i := 0) (v := (.pointer (some ⟨bb, off + k * 89, none⟩))) rfl (by kernel_rfl) (by kernel_rfl) (by kernel_rfl) (fun _ _ _ h => h) (Or.inl ⟨rfl, fun _ _ => rfl⟩) hq0 ?_
    simp only [Act.put, List.setIfInBounds_toArray, List.set_cons_zero, List.set_cons_succ]
    refine takeL (i := 1) (v := (.pointer (some ⟨bb, off + k * 89, none⟩))) rfl (by kernel_rfl) (by kernel_rfl) (by kernel_rfl) (fun _ _ _ h => h) (Or.inl ⟨rfl, fun _ _ => rfl⟩) hq0 ?_
    simp only [Act.put, List.setIfInBounds_toArray, List.set_cons_zero, List.set_cons_succ]
    refine takeL (i := 2) (v := (.pointer (some ⟨bb, off + k * 89 + 22, none⟩))) rfl (by kernel_rfl) (by kernel_rfl) (by kernel_rfl) (fun _ _ _ h => h) (Or.inl ⟨rfl, fun _ _ => rfl⟩) hq0 ?_
    simp only [Act.put, List.setIfInBounds_toArray, List.set_cons_zero, List.set_cons_succ]
    refine takeL (i := 3) (v := (.pointer (some ⟨bb, off + k * 89 + 29, none⟩))) rfl (by kernel_rfl) (by kernel_rfl) (by kernel_rfl) (fun _ _ _ h => h) (Or.inl ⟨rfl, fun _ _ => rfl⟩) hq0 ?_
    simp only [Act.put, List.setIfInBounds_toArray, List.set_cons_zero, List.set_cons_succ]
    refine takeL (i := 4) (v := _) rfl (by kernel_rfl) (by kernel_rfl) (by kernel_rfl) (fun _ _ _ h => h) (yieldsIf_cell rfl 4 _ rfl ⟨bb, off + k * 89 + 29, none⟩ rfl (.bool (B.gb k 29)) _ (fun W' hW' => (hW'.cell (p := ⟨bb, off + k * 89 + 29, none⟩) hbu hbne).trans Q29.out) Try.underlying4 rfl) hq0 ?_
    simp only [Act.put, List.setIfInBounds_toArray, List.set_cons_zero, List.set_cons_succ]
    refine takeL (i := 5) (v := (.pointer (some ⟨bb, off + k * 89, none⟩))) rfl (by kernel_rfl) (by kernel_rfl) (by kernel_rfl) (fun _ _ _ h => h) (Or.inl ⟨rfl, fun _ _ => rfl⟩) hq0 ?_
    simp only [Act.put, List.setIfInBounds_toArray, List.set_cons_zero, List.set_cons_succ]
    refine takeL (i := 6) (v := (.pointer (some ⟨bb, off + k * 89, none⟩))) rfl (by kernel_rfl) (by kernel_rfl) (by kernel_rfl) (fun _ _ _ h => h) (Or.inl ⟨rfl, fun _ _ => rfl⟩) hq0 ?_
    simp only [Act.put, List.setIfInBounds_toArray, List.set_cons_zero, List.set_cons_succ]
    refine takeL (i := 7) (v := (.pointer (some ⟨bb, off + k * 89 + 22, none⟩))) rfl (by kernel_rfl) (by kernel_rfl) (by kernel_rfl) (fun _ _ _ h => h) (Or.inl ⟨rfl, fun _ _ => rfl⟩) hq0 ?_
    simp only [Act.put, List.setIfInBounds_toArray, List.set_cons_zero, List.set_cons_succ]
    refine takeL (i := 8) (v := (.pointer (some ⟨bb, off + k * 89 + 27, none⟩))) rfl (by kernel_rfl) (by kernel_rfl) (by kernel_rfl) (fun _ _ _ h => h) (Or.inl ⟨rfl, fun _ _ => rfl⟩) hq0 ?_
    simp only [Act.put, List.setIfInBounds_toArray, List.set_cons_zero, List.set_cons_succ]
    refine takeL (i := 9) (v := _) rfl (by kernel_rfl) (by kernel_rfl) (by kernel_rfl) (fun _ _ _ h => h) (yieldsIf_cell rfl 4 _ rfl ⟨bb, off + k * 89 + 27, none⟩ rfl (.bool (B.gb k 27)) _ (fun W' hW' => (hW'.cell (p := ⟨bb, off + k * 89 + 27, none⟩) hbu hbne).trans Q27.out) Try.underlying4 rfl) hq0 ?_
    simp only [Act.put, List.setIfInBounds_toArray, List.set_cons_zero, List.set_cons_succ]
    refine takeL (i := 10) (v := (.pointer (some ⟨h8, 5, none⟩))) rfl (by kernel_rfl) (by kernel_rfl) (by kernel_rfl) (fun _ _ _ h => h) (Or.inl ⟨rfl, fun _ _ => rfl⟩) hq0 ?_
    simp only [Act.put, List.setIfInBounds_toArray, List.set_cons_zero, List.set_cons_succ]
    refine runL (i := 11) rfl rfl (by kernel_rfl) (fun K hK => ?_)
    go_simp
    have hq1 := hq0.setCell (p := ⟨h8, 5, none⟩) (.inl rfl) (.bool (B.gb k 29))
    refine hK.out _ _ hq1 (fun hHeld => ?_)
    try simp only [Act.put, List.setIfInBounds_toArray, List.set_cons_zero, List.set_cons_succ]
    clear hK K hHeld
    refine takeL (i := 12) (v := (.pointer (some ⟨h8, 6, none⟩))) rfl (by kernel_rfl) (by kernel_rfl) (by kernel_rfl) (fun _ _ _ h => h) (Or.inl ⟨rfl, fun _ _ => rfl⟩) hq1 ?_
    simp only [Act.put, List.setIfInBounds_toArray, List.set_cons_zero, List.set_cons_succ]
    refine runL (i := 13) rfl rfl (by kernel_rfl) (fun K hK => ?_)
    go_simp
    have hq2 := hq1.setCell (p := ⟨h8, 6, none⟩) (.inl rfl) (.bool (B.gb k 27))
    refine hK.out _ _ hq2 (fun hHeld => ?_)
    try simp only [Act.put, List.setIfInBounds_toArray, List.set_cons_zero, List.set_cons_succ]
    clear hK K hHeld
    refine wpAnyH_done (by kernel_rfl) ?_ _
    have hr8n : ((wd.setCell ⟨h8, 5, none⟩ (.bool (B.gb k 29))).setCell ⟨h8, 6, none⟩ (.bool (B.gb k 27))).heap[h8]? = some (.cells ((R3.setIfInBounds 5 (Value.bool (B.gb k 29))).setIfInBounds 6 (Value.bool (B.gb k 27))) 43 (0, 0)) := heap_setCell_same _ _ _ _ _ _ (heap_setCell_same _ _ _ _ _ _ ((hqx.block _ h8u).trans hr8))
    have hr6n : ((wd.setCell ⟨h8, 5, none⟩ (.bool (B.gb k 29))).setCell ⟨h8, 6, none⟩ (.bool (B.gb k 27))).heap[t6]? = some (.cells MZ 43 (0, 0)) := (heap_setCell_other _ _ _ _ (Ne.symm hne)).trans ((heap_setCell_other _ _ _ _ (Ne.symm hne)).trans ((hqx.block _ h6u).trans hr6))
    have hEXn : Ext w ((wd.setCell ⟨h8, 5, none⟩ (.bool (B.gb k 29))).setCell ⟨h8, 6, none⟩ (.bool (B.gb k 27))) := Below.setCell (Below.setCell (hEX.trans hqx) hwh _) hwh _
    have rn87 : ((wd.setCell ⟨h8, 5, none⟩ (.bool (B.gb k 29))).setCell ⟨h8, 6, none⟩ (.bool (B.gb k 27))).cell? ⟨bb, off + k * 89 + 87, none⟩ = some _ := (World.cell?_setCell_far _ _ _ _ (Ne.symm hbne)).trans ((World.cell?_setCell_far _ _ _ _ (Ne.symm hbne)).trans ((hqx.cell (p := ⟨bb, off + k * 89 + 87, none⟩) hbu).trans r87))
    clear hr8 hr6 hEX hqx hq0 hq1 hq2 hbu h8u h6u hfd e5 e6 Q29 Q27 r87
    generalize ((wd.setCell ⟨h8, 5, none⟩ (.bool (B.gb k 29))).setCell ⟨h8, 6, none⟩ (.bool (B.gb k 27))) = u4 at *
    clear wd 
    have hr8 := hr8n
    have hr6 := hr6n
    have hEX := hEXn
    have r87 := rn87
    clear hr8n hr6n hEXn rn87
    obtain ⟨R4, hR4⟩ : ∃ R, ((R3.setIfInBounds 5 (Value.bool (B.gb k 29))).setIfInBounds 6 (Value.bool (B.gb k 27))) = R := ⟨_, rfl⟩
    rw [hR4] at hr8
    have hf8 : ∀ j, u4.frozen? ⟨h8, j, none⟩ = false := fun j => frozen_of_row _ _ _ _ _ hr8
    have hR5 : R4.setIfInBounds 7 (Value.int .i64 (B.gi k 87)) = txMsg B k kind := by
      subst k2
      rw [← hR4, ← hR3, ← hR2]
      rfl
    have d7 : ∃ v, u4.cell? ⟨h8, 7, none⟩ = some v := ⟨.int .i64 0, (cell_of_row _ _ _ _ _ _ hr8).trans (by subst k2; rw [← hR4, ← hR3, ← hR2]; rfl)⟩
    obtain ⟨v7, d7⟩ := d7
    have H8 := Lib.hid (show (u4.setCell ⟨h8, 7, none⟩ (.int .i64 (B.gi k 87))).heap[h8]? = some (.cells (txMsg B k kind) 43 (0, 0)) from (by rw [← hR5]; exact heap_setCell_same _ _ _ _ _ _ hr8))
    have H6 := Lib.hid (show (u4.setCell ⟨h8, 7, none⟩ (.int .i64 (B.gi k 87))).heap[t6]? = some (.cells MZ 43 (0, 0)) from (heap_setCell_other _ _ _ _ (Ne.symm hne)).trans hr6)
    have HE := Lib.hid (show Ext w ((u4.setCell ⟨h8, 7, none⟩ (.int .i64 (B.gi k 87))).setRow t6 (txMsg B k kind)) from ext_setRow (Below.setCell hEX hwh _) hw6 _)
    have HY := Lib.hid (setRow_heap _ _ _ (txMsg B k kind) _ _ H6.out)
    clear hR5 hR4 hR3 hR2 hr8 hr6 hEX
    go_wp2_with (first
      | fail
      | ((with_reducible refine at_load 43 ?_); refine wpList_load_row rfl 43 _ rfl h8 rfl 43 (txMsg B k kind) (0, 0) _ H8.out Try.underlying43 rfl HIm.out ?_)
      | ((with_reducible refine at_store 43 ?_); refine wpList_store_row rfl 43 _ _ rfl t6 (txMsg B k kind) rfl rfl 43 MZ H6.out HIm.out HSm.out HOm.out ?_))
    refine bodyPost_ret (results_cell_row rfl _ _ _ _ (txMsg B k kind) (0, 0) _ rfl HY.out Try.underlying43 rfl HIm.out) rfl ?_
    exact ⟨rfl, HE.out⟩
  · have n0 : (kind == 0) = false := by simpa using k0
    have n1 : (kind == 1) = false := by simpa using k1
    have n2 : (kind == 2) = false := by simpa using k2
    have HB1 := Lib.hid (show Try.prog.built 43 [] = some (txMsg B k kind) by unfold txMsg; rw [if_neg k0, if_neg k1, if_neg k2]; exact msg_b2)
    have H8 := Lib.hid (show ((u1.setCell ⟨h8, 12, none⟩ (.int .u16 0)).setRow h8 (txMsg B k kind)).heap[h8]? = some (.cells (txMsg B k kind) 43 (0, 0)) from setRow_heap _ _ _ _ _ _ (heap_setCell_same _ _ _ _ _ _ HR8.out))
    have H6 := Lib.hid (show ((u1.setCell ⟨h8, 12, none⟩ (.int .u16 0)).setRow h8 (txMsg B k kind)).heap[t6]? = some (.cells MZ 43 (0, 0)) from (setRow_other _ _ _ _ (Ne.symm hne)).trans ((heap_setCell_other _ _ _ _ (Ne.symm hne)).trans HR6.out))
    have HE := Lib.hid (show Ext w (((u1.setCell ⟨h8, 12, none⟩ (.int .u16 0)).setRow h8 (txMsg B k kind)).setRow t6 (txMsg B k kind)) from ext_setRow (ext_setRow (Below.setCell HEX.out hwh _) hwh _) hw6 _)
    have HY := Lib.hid (setRow_heap _ _ _ (txMsg B k kind) _ _ H6.out)
    have HZ8 := Lib.hid (show (u1.setCell ⟨h8, 12, none⟩ (.int .u16 0)).heap[h8]? = some (.cells _ 43 (0, 0)) from heap_setCell_same _ _ _ _ _ _ HR8.out)
    go_wp2_with (first
      | fail
      | ((with_reducible refine at_build 43 ?_); refine wpList_build2 rfl 43 _ rfl [] rfl (txMsg B k kind) HB1.out ?_)
      | ((with_reducible refine at_load 43 ?_); refine wpList_load_row rfl 43 _ rfl h8 rfl 43 (txMsg B k kind) (0, 0) _ H8.out Try.underlying43 rfl HIm.out ?_)
      | ((with_reducible refine at_store 43 ?_); refine wpList_store_row rfl 43 _ _ rfl h8 (txMsg B k kind) rfl rfl 43 _ HZ8.out HIm.out (by rw [txMsg_size]; rfl) HOm.out ?_)
      | ((with_reducible refine at_store 43 ?_); refine wpList_store_row rfl 43 _ _ rfl t6 (txMsg B k kind) rfl rfl 43 MZ H6.out HIm.out HSm.out HOm.out ?_))
    refine bodyPost_ret (results_cell_row rfl _ _ _ _ (txMsg B k kind) (0, 0) _ rfl HY.out Try.underlying43 rfl HIm.out) rfl ?_
    exact ⟨rfl, HE.out⟩

end Go.Proofs.Ythlapkddgnpaeaa
