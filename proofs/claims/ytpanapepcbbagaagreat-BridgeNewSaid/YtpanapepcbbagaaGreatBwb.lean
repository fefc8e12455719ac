/- Part 2 of what BridgeNew stands on. No statement is proved here. -/
import Derived.Deep.Draws
import Derived.Deep.RegionHeld3
import Derived.BigQuiet
import Derived.Great.BuildSlice
import Derived.Deep.Light
import Derived.Laws.CopyRow
import Derived.Test.YtpanapepcbbagaaGreatBwa
namespace Go.Proofs.YtpanapepcbbagaaGreat
open Go.RowKit Go.BigFrame Go.WideShapes Go.ChangeShapes Go.Deep
set_option linter.unusedVariables false
set_option linter.unusedSimpArgs false
section
variable {P : Program} {ops : Array Oper} {C : World → Prop} {Q : Act → Prop} {a : Act} {o : Oper} {rest : List Oper}
theorem wpQuiet_load_mid (hgd : o.guard = none) (ty : TypeId) (x : Operand) (ho : o.op = .load ty x) (b off : Nat) (hx : a.eval x = .pointer (some ⟨b, off, none⟩)) (cs : List Value) (d : TypeDesc)
    (hc : ∀ w, C w → w.rangeAt b off cs) (hu : P.underlying ty = some d) (hd : d.isRow = true) (hi : (P.info? ty).map (·.size) = some cs.length)
    (h : wpQuiet P ops C Q rest (a.put o.dst (.agg cs.toArray))) : wpQuiet P ops C Q (o :: rest) a :=
  BigFrame.wpQuiet_want (by simp [Region.wanted, hgd]) fun K hK => ⟨_, fun w hw => by
    unfold Oper.quietAt execOp
    simp only [ho, hx, Instr.loadAt, Instr.sureAddr, Sem.run_bind, Sem.run_pure, Result.andThen_ok, run_loadVar_mid w b off ty cs d (hc w hw) hu hd hi]
    exact ⟨rfl, rfl⟩, hK _ h⟩
theorem wpQuiet_neq (hgd : o.guard = none) (t : TypeId) (x y : Operand) (ho : o.op = .binOp .neq t x y t) (cs : List Value) (hx : a.eval x = .agg cs.toArray) (hy : a.eval y = .agg cs.toArray)
    {d : Nat} {fs : Array Field} {l : List (Option IntKind)} (hu : P.underlying t = some (.struct fs)) (hd : d ≤ 10000) (hl : lay P d t = some l) (ht : Typed l cs) (hm : P.eqGuardType P.depth t = false)
    (h : wpQuiet P ops C Q rest (a.put o.dst (.bool false))) : wpQuiet P ops C Q (o :: rest) a :=
  BigFrame.wpQuiet_want (by simp [Region.wanted, hgd]) fun K hK => ⟨_, fun w hw => by
    unfold Oper.quietAt execOp
    simp [ho, hx, hy, Sem.run_bind, run_eqGuard_agg, hm, run_neq_struct, eql_flat w hu hd hl ht]
    exact ⟨rfl, rfl⟩, hK _ h⟩
end
theorem range_drewN {w : World} {b off : Nat} {xs : List Value} (h : w.rangeAt b off xs) : ∀ w', (∃ n, w' = w.drewN n) → w'.rangeAt b off xs := fun w' ⟨n, e⟩ j v hv => by
  rw [e, World.cell?_drewN]
  exact h j v hv
/-- A part of a row. -/
def piece (m : Nat) (xs : List Value) (i : Nat) : List Value := (xs.drop (i * m)).take m
theorem piece_range {w : World} {b off m : Nat} {xs : List Value} (h : w.rangeAt b off xs) (i : Nat) : w.rangeAt b (off + i * m) (piece m xs i) := fun j v hv => by
  unfold piece at hv
  rw [List.getElem?_take] at hv
  split at hv
  · rw [List.getElem?_drop] at hv
    have := h _ _ hv
    rwa [← Nat.add_assoc] at this
  · cases hv
theorem size_sent : (Tryz.prog.info? 71).map (·.size) = some 18 := by kernel_rfl
theorem guard_port : Tryz.prog.eqGuardType Tryz.prog.depth 60 = false := by kernel_rfl
theorem guard_sent : Tryz.prog.eqGuardType Tryz.prog.depth 71 = false := by kernel_rfl
set_option maxRecDepth 100000 in
set_option maxHeartbeats 12000000 in
theorem same_any (c c' : Array Value) (B : Br) (w : World) (hb : BrC w c B) (hb' : BrC w c' B) (ho : B.ok) :
    Calls Tryz.prog 14 #[.agg c, .agg c'] w fun e w' => e = .returned (.bool true) ∧ Ext w w' := by
  obtain ⟨s1, s2, s3, hz, hhd, c17, c18, c19, r1, r2, r3⟩ := hb.facts ho.hd.1
  obtain ⟨s1', s2', s3', hz', hhd', c17', c18', c19', r1', r2', r3'⟩ := hb'.facts ho.hd.1
  obtain ⟨a1, k1, rfl, m1, f1⟩ := r1.form
  obtain ⟨a2, k2, rfl, m2, f2⟩ := r2.form
  obtain ⟨a3, k3, rfl, m3, f3⟩ := r3.form
  obtain ⟨a1', k1', rfl, -, f1'⟩ := r1'.form
  obtain ⟨a2', k2', rfl, -, f2'⟩ := r2'.form
  obtain ⟨a3', k3', rfl, -, f3'⟩ := r3'.form
  obtain ⟨x0, h0, -⟩ := ho.hd.int 0 .u64 rfl
  obtain ⟨x1, h1⟩ := ho.hd.bool 1 rfl
  obtain ⟨x2, h2, -⟩ := ho.hd.int 2 .i64 rfl
  obtain ⟨x3, h3, -⟩ := ho.hd.int 3 .i64 rfl
  obtain ⟨x4, h4, -⟩ := ho.hd.int 4 .i64 rfl
  obtain ⟨x5, h5, -⟩ := ho.hd.int 5 .i64 rfl
  obtain ⟨x6, h6, -⟩ := ho.hd.int 6 .i64 rfl
  obtain ⟨x7, h7, -⟩ := ho.hd.int 7 .u64 rfl
  obtain ⟨x8, h8, -⟩ := ho.hd.int 8 .u32 rfl
  obtain ⟨x9, h9, -⟩ := ho.hd.int 9 .u64 rfl
  obtain ⟨x10, h10, -⟩ := ho.hd.int 10 .u16 rfl
  obtain ⟨x11, h11, -⟩ := ho.hd.int 11 .u16 rfl
  obtain ⟨x12, h12, -⟩ := ho.hd.int 12 .i64 rfl
  obtain ⟨x13, h13, -⟩ := ho.hd.int 13 .i64 rfl
  obtain ⟨x14, h14, -⟩ := ho.hd.int 14 .i64 rfl
  obtain ⟨x15, h15, -⟩ := ho.hd.int 15 .i64 rfl
  obtain ⟨x16, h16, -⟩ := ho.hd.int 16 .i64 rfl
  have h0' := h0
  have h1' := h1
  have h2' := h2
  have h3' := h3
  have h4' := h4
  have h5' := h5
  have h6' := h6
  have h7' := h7
  have h8' := h8
  have h9' := h9
  have h10' := h10
  have h11' := h11
  have h12' := h12
  have h13' := h13
  have h14' := h14
  have h15' := h15
  have h16' := h16
  rw [← hhd _ (by decide)] at h0
  rw [← hhd' _ (by decide)] at h0'
  rw [← hhd _ (by decide)] at h1
  rw [← hhd' _ (by decide)] at h1'
  rw [← hhd _ (by decide)] at h2
  rw [← hhd' _ (by decide)] at h2'
  rw [← hhd _ (by decide)] at h3
  rw [← hhd' _ (by decide)] at h3'
  rw [← hhd _ (by decide)] at h4
  rw [← hhd' _ (by decide)] at h4'
  rw [← hhd _ (by decide)] at h5
  rw [← hhd' _ (by decide)] at h5'
  rw [← hhd _ (by decide)] at h6
  rw [← hhd' _ (by decide)] at h6'
  rw [← hhd _ (by decide)] at h7
  rw [← hhd' _ (by decide)] at h7'
  rw [← hhd _ (by decide)] at h8
  rw [← hhd' _ (by decide)] at h8'
  rw [← hhd _ (by decide)] at h9
  rw [← hhd' _ (by decide)] at h9'
  rw [← hhd _ (by decide)] at h10
  rw [← hhd' _ (by decide)] at h10'
  rw [← hhd _ (by decide)] at h11
  rw [← hhd' _ (by decide)] at h11'
  rw [← hhd _ (by decide)] at h12
  rw [← hhd' _ (by decide)] at h12'
  rw [← hhd _ (by decide)] at h13
  rw [← hhd' _ (by decide)] at h13'
  rw [← hhd _ (by decide)] at h14
  rw [← hhd' _ (by decide)] at h14'
  rw [← hhd _ (by decide)] at h15
  rw [← hhd' _ (by decide)] at h15'
  rw [← hhd _ (by decide)] at h16
  rw [← hhd' _ (by decide)] at h16'
  have F1 := Lib.hid f1
  have F2 := Lib.hid f2
  have F3 := Lib.hid f3
  have F1' := Lib.hid f1'
  have F2' := Lib.hid f2'
  have F3' := Lib.hid f3'
  clear hz hz' hhd hhd' hb hb' r1 r2 r3 r1' r2' r3' f1 f2 f3 f1' f2' f3'
  have hx0 := Lib.hid (show ∀ wr, Ext ((w.alloc (.cells c 35)).alloc (.cells c' 35)) wr → Ext w wr ∧ (∀ j, wr.cell? ⟨w.heap.size, j, none⟩ = c[j]?) ∧ (∀ j, wr.cell? ⟨w.heap.size + 1, j, none⟩ = c'[j]?) from
    fun wr hx => ⟨(((Ext.refl w).alloc _).alloc _).trans hx, fun j => (hx.cell (by simp; omega)).trans ((World.cell?_alloc_past _ _ _ (by simp)).trans (World.cell?_alloc_at _ _ _ _ rfl)), fun j => (hx.cell (by simp)).trans (World.cell?_alloc_at _ _ _ _ (by simp))⟩)
  go_enter Tryz.func14, Tryz.ntmps14
  go_wp2
  clear h0 h0' h1 h1' h2 h2' h3 h3' h4 h4' h5 h5' h6 h6' h7 h7' h8 h8' h9 h9' h10 h10' h11 h11' h12 h12' h13 h13' h14 h14' h15 h15' h16 h16'
  go_loopw [5] (fun i wr => ∃ j : Nat, j ≤ B.np ∧ i = .int .i64 j ∧ Ext ((w.alloc (.cells c 35)).alloc (.cells c' 35)) wr) (fun i _ => B.np - (intOf i).toNat)
  case atStart => exact ⟨0, by omega, rfl, Ext.refl _⟩
  case round =>
    obtain ⟨j, hj, rfl, hx5⟩ := hrel
    obtain ⟨hw5, hb1, hb2⟩ := hx0.out _ hx5
    by_cases hlt : j < B.np
    · obtain ⟨b, off, rfl, hb, hlc, hcm, hc⟩ := F1.out (by omega)
      obtain ⟨b', off', rfl, hb', hlc', hcm', hc'⟩ := F1'.out (by omega)
      have hp := Lib.hid (piece_range (m := 89) (rangeAt_ext hc hw5 hb) j)
      have hp' := Lib.hid (piece_range (m := 89) (rangeAt_ext hc' hw5 hb') j)
      have ht := Lib.hid (ho.ps.2 j hlt)
      have hz : Hid ((Tryz.prog.info? 60).map (·.size) = some (piece 89 B.ps j).length) := Lib.hid (by show _ = some ((B.ps.drop (j * 89)).take 89).length; rw [show ((B.ps.drop (j * 89)).take 89).length = 89 from ht.out.1]; exact size_port)
      clear hc hc'
      go_wp2
      refine wp_region_quiet_lit (by kernel_rfl) (by kernel_rfl) ?_
      iterate 4 (go_big_quiet_step (fail))
      refine wpQuiet_load_mid rfl 60 _ rfl b (off + j * 89) rfl (piece 89 B.ps j) _ (range_drewN hp.out) Tryz.underlying60 rfl hz.out ?_
      simp only [Act.put, List.setIfInBounds_toArray, List.set_cons_succ, List.set_cons_zero]
      iterate 4 (go_big_quiet_step (fail))
      refine wpQuiet_load_mid rfl 60 _ rfl b' (off' + j * 89) rfl (piece 89 B.ps j) _ (range_drewN hp'.out) Tryz.underlying60 rfl hz.out ?_
      simp only [Act.put, List.setIfInBounds_toArray, List.set_cons_succ, List.set_cons_zero]
      refine wpQuiet_neq rfl 60 _ _ rfl (piece 89 B.ps j) rfl rfl Tryz.underlying60 (by decide) lay_port ht.out guard_port ?_
      refine wpQuiet_nil ?_
      intro _ hw'
      obtain ⟨nq, hw''⟩ := hw'
      subst hw''
      go_wp2
      go_roundw
      case rel => exact ⟨j + 1, by omega, by go_num, hx5.drewN _⟩
      case measure => simp [intOf]; omega
    · go_wp2
      clear hj hlt hb1 hb2
      go_loopw [6] (fun i wr => ∃ j : Nat, j ≤ B.no ∧ i = .int .i64 j ∧ Ext ((w.alloc (.cells c 35)).alloc (.cells c' 35)) wr) (fun i _ => B.no - (intOf i).toNat)
      case atStart => exact ⟨0, by omega, rfl, hx5⟩
      case round =>
        obtain ⟨j, hj, rfl, hx6⟩ := hrel
        obtain ⟨hw6, hb1, hb2⟩ := hx0.out _ hx6
        by_cases hlt : j < B.no
        · obtain ⟨b, off, rfl, hb, hlc, hcm, hc⟩ := F2.out (by omega)
          obtain ⟨b', off', rfl, hb', hlc', hcm', hc'⟩ := F2'.out (by omega)
          have hp := Lib.hid (piece_range (m := 18) (rangeAt_ext hc hw6 hb) j)
          have hp' := Lib.hid (piece_range (m := 18) (rangeAt_ext hc' hw6 hb') j)
          have ht := Lib.hid (ho.os.2 j hlt)
          have hz : Hid ((Tryz.prog.info? 71).map (·.size) = some (piece 18 B.os j).length) := Lib.hid (by show _ = some ((B.os.drop (j * 18)).take 18).length; rw [show ((B.os.drop (j * 18)).take 18).length = 18 from ht.out.1]; exact size_sent)
          clear hc hc'
          go_wp2
          refine wp_region_quiet_lit (by kernel_rfl) (by kernel_rfl) ?_
          iterate 4 (go_big_quiet_step (fail))
          refine wpQuiet_load_mid rfl 71 _ rfl b (off + j * 18) rfl (piece 18 B.os j) _ (range_drewN hp.out) Tryz.underlying71 rfl hz.out ?_
          simp only [Act.put, List.setIfInBounds_toArray, List.set_cons_succ, List.set_cons_zero]
          iterate 4 (go_big_quiet_step (fail))
          refine wpQuiet_load_mid rfl 71 _ rfl b' (off' + j * 18) rfl (piece 18 B.os j) _ (range_drewN hp'.out) Tryz.underlying71 rfl hz.out ?_
          simp only [Act.put, List.setIfInBounds_toArray, List.set_cons_succ, List.set_cons_zero]
          refine wpQuiet_neq rfl 71 _ _ rfl (piece 18 B.os j) rfl rfl Tryz.underlying71 (by decide) lay_sent ht.out guard_sent ?_
          refine wpQuiet_nil ?_
          intro _ hw'
          obtain ⟨nq, hw''⟩ := hw'
          subst hw''
          go_wp2
          go_roundw
          case rel => exact ⟨j + 1, by omega, by go_num, hx6.drewN _⟩
          case measure => simp [intOf]; omega
        · go_wp2
          clear hj hlt hb1 hb2
          go_loopw [7] (fun i wr => ∃ j : Nat, j ≤ B.nf ∧ i = .int .i64 j ∧ Ext ((w.alloc (.cells c 35)).alloc (.cells c' 35)) wr) (fun i _ => B.nf - (intOf i).toNat)
          case atStart => exact ⟨0, by omega, rfl, hx6⟩
          case round =>
            obtain ⟨j, hj, rfl, hx7⟩ := hrel
            obtain ⟨hw7, hb1, hb2⟩ := hx0.out _ hx7
            by_cases hlt : j < B.nf
            · obtain ⟨b, off, rfl, hb, hlc, hcm, hc⟩ := F3.out (by omega)
              obtain ⟨b', off', rfl, hb', hlc', hcm', hc'⟩ := F3'.out (by omega)
              obtain ⟨z, hz, -⟩ := (ho.fl.2 j hlt).int 0 .i64 rfl
              have hz2 : B.fl[j]? = some (.int .i64 z) := by simpa [List.getElem?_take, List.getElem?_drop] using hz
              have hp := rangeAt_ext hc hw7 hb j _ hz2
              have hp' := rangeAt_ext hc' hw7 hb' j _ hz2
              clear hc hc' hz hz2
              go_wp2
              go_quiet (fail)
              go_wp2
              go_roundw
              case rel => exact ⟨j + 1, by omega, by go_num, hx7.drewN _⟩
              case measure => simp [intOf]; omega
            · go_wp2
              go_ret
              exact ⟨rfl, hw7⟩
end Go.Proofs.YtpanapepcbbagaaGreat
namespace Go.Proofs.YtpanapepcbbagaaGreat
open Go.RowKit Go.WideShapes Go.ChangeShapes Go.Deep
set_option linter.unusedVariables false
set_option linter.unusedSimpArgs false
theorem Ext.mutE {a b c : World} {F : Nat → Prop} (h : Ext a b) (m : Mut F b c) (hF : ∀ k, k < a.heap.size → ¬ F k) : Ext a c :=
  ⟨m.1.trans h.os, m.2.1.trans h.tape, m.2.2.1.trans h.output, Nat.le_trans h.size m.2.2.2.1, fun k hk => (m.2.2.2.2 k (Nat.lt_of_lt_of_le hk h.size) (hF k hk)).trans (h.block k hk)⟩
theorem lt89 {k N j : Nat} (hk : k < N) (hj : j < 89) : k * 89 + j < N * 89 := by omega
/-- What a step leaves. -/
def Stepped (w : World) (F : Nat → Prop) (X g : Nat) (r : Bool × Br) (e : Ending) (w' : World) : Prop := e = .returned (.bool r.1) ∧ BrG w' F X g r.2 ∧ Mut F w w'
end Go.Proofs.YtpanapepcbbagaaGreat
namespace Go.Proofs.YtpanapepcbbagaaGreat
open Go.RowKit Go.WideShapes Go.ChangeShapes Go.Deep
set_option linter.unusedVariables false
set_option linter.unusedSimpArgs false
/-- A whole row is read in each world that holds its block. -/
theorem yieldsIf_load_row {P : Program} {ops : Array Oper} {wz : World} {op : Oper} {a : Act} (hw : Region.wanted op (yielded ops a.tmps) = true) (ty : TypeId) (x : Operand) (ho : op.op = .load ty x)
    (X : Nat) (hx : a.eval x = .pointer (some ⟨X, 0, none⟩)) (C : Array Value) (t : TypeId) (d : TypeDesc) (hX : wz.heap[X]? = some (.cells C t (0, 0)))
    (hu : P.underlying ty = some d) (hd : (match d with | .struct _ | .array _ _ => true | _ => false) = true) (hi : (P.info? ty).map (·.size) = some C.size) : YieldsIf P ops (fun W' => Ext wz W') op (.agg C) a :=
  .inl ⟨hw, fun W' hW' => by
    have h := ((show Ext wz W' from hW').block X (heap_lt hX)).trans hX
    unfold execOp
    simp only [ho, hx, Instr.loadAt, Instr.sureAddr, Sem.run_bind, Sem.run_pure, Result.andThen_ok, run_loadVar_row W' X t ty C (0, 0) d h hu hd hi]⟩
end Go.Proofs.YtpanapepcbbagaaGreat
namespace Go.Proofs.YtpanapepcbbagaaGreat
open Go.RowKit Go.WideShapes Go.ChangeShapes Go.Deep
set_option linter.unusedVariables false
set_option linter.unusedSimpArgs false
theorem at_build (T : TypeId) {P : Program} {ops : Array Oper} {rest : List Oper} {a : Act} {w : World} {Q : Exit → Act → World → Prop} {d : Option Tmp} {x : Array (Nat × Operand)} {ty : TypeId} {pos : String} {af : Array Edge}
    (h : wpList P ops Q ({ dst := d, op := .build T x, type := ty, pos := pos, after := af, guard := none } :: rest) a w) : wpList P ops Q ({ dst := d, op := .build T x, type := ty, pos := pos, after := af, guard := none } :: rest) a w := h
theorem wpList_build2 {P : Program} {ops : Array Oper} {rest : List Oper} {o : Oper} {a : Act} {w : World} {Q : Exit → Act → World → Prop} (hg : o.guard = none) (t : TypeId) (parts : Array (Nat × Operand)) (ho : o.op = .build t parts)
    (vals : List (Nat × Value)) (hv : parts.toList.map (fun x => (x.1, a.eval x.2)) = vals) (cells : Array Value) (hb : P.built t vals = some cells)
    (h : wpList P ops Q rest (a.put o.dst (.agg cells)) w) : wpList P ops Q (o :: rest) a w := by
  have e : (parts.map fun (i, x) => (i, a.eval x)).toList = vals := by rw [Array.toList_map]; exact hv
  exact wpList_build hg t parts ho (by rw [e, hb]; rfl) (by rw [e, hb]; exact h)
def hz : List Value := HL.map zc
end Go.Proofs.YtpanapepcbbagaaGreat
namespace Go.Proofs.YtpanapepcbbagaaGreat
open Go.RowKit Go.BigFrame Go.WideShapes Go.ChangeShapes Go.Deep
set_option linter.unusedVariables false
set_option linter.unusedSimpArgs false
theorem run_loadAt_cell {P : Program} (w : World) (ty : TypeId) (p : Addr) (v : Value) (d : TypeDesc) (hu : P.underlying ty = some d) (hd : d.isRow = false) (hc : w.cell? p = some v) :
    (Instr.loadAt ty (.pointer (some p))).run P w = .ok v w := by
  simp [Instr.loadAt, Instr.sureAddr, loadVar, Sem.run_bind, run_isAgg hu, hd, hc, Result.andThen]
/-- A cell that is read in each world that meets S. -/
theorem yieldsIf_cell {P : Program} {ops : Array Oper} {S : World → Prop} {op : Oper} {a : Act} (hw : Region.wanted op (yielded ops a.tmps) = true) (ty : TypeId) (x : Operand) (ho : op.op = .load ty x)
    (p : Addr) (hx : a.eval x = .pointer (some p)) (v : Value) (d : TypeDesc) (hS : ∀ w, S w → w.cell? p = some v) (hu : P.underlying ty = some d) (hd : d.isRow = false) : YieldsIf P ops S op v a :=
  .inl ⟨hw, fun w hw' => by
    unfold execOp
    simp only [ho, hx, Sem.run_bind, run_loadAt_cell w ty p v d hu hd (hS w hw'), Result.andThen_ok]
    rfl⟩
/-- A new variable of a flat type among operations in an open order. -/
theorem wp_alloc_zero {P : Program} {op : Oper} {a : Act} {w : World} {K : Act → World → Prop} {Q : Exit → Act → World → Prop} (ty : TypeId) (ho : op.op = .alloc ty)
    (z : Array Value) (hz : (zeroValue ty).run P w = .ok (.agg z) w) (h : K (a.put op.dst (.pointer (some ⟨w.heap.size, 0, none⟩))) (w.alloc (.cells z ty))) : op.wp P a w K Q := by
  unfold Oper.wp execOp
  simp only [ho, Instr.alloc, newVar, newRow, Sem.run_bind, hz, Result.andThen_ok]
  go_simp
  exact h
/-- A whole value into a variable, among operations in an open order. -/
theorem wp_store_row {P : Program} {op : Oper} {a : Act} {w : World} {K : Act → World → Prop} {Q : Exit → Act → World → Prop} (t : TypeId) (x y : Operand) (ho : op.op = .store t x y)
    (g : Nat) (t0 : TypeId) (old cs : Array Value) (hx : a.eval x = .pointer (some ⟨g, 0, none⟩)) (hy : a.eval y = .agg cs) (hg : w.heap[g]? = some (.cells old t0 (0, 0))) (hi : (P.info? t).map (·.size) = some cs.size)
    (hs : old.size = cs.size) (h1 : cs.all (·.oneCell') = true) (h : K (a.put op.dst undef) (w.setRow g cs)) : op.wp P a w K Q := by
  unfold Oper.wp execOp
  simp only [ho, hx, hy, Instr.storeAt, Instr.sureAddr, Sem.run_bind, Sem.run_pure, Result.andThen_ok, run_storeVar_row w g t0 t old cs hg hi hs h1]
  exact h
/-- The beginning: the world behind the draw under a name. -/
theorem beginL {P : Program} {Q : Exit → Act → World → Prop} {S : World → Prop} {id : Nat} {ops : Array Oper} {a : Act} {w : World} (hm : P.follows .mixedOrders = true)
    (h : ∀ wd : World, Ext w wd → wpAnyH P .any ops Q S ops.size (Array.replicate ops.size false) a wd) : (Code.region id ops true).wp P Q a w :=
  wp_region_held hm (h w.drew (Ext.refl w).drew)
/-- Number i first: the operation by its own text. -/
theorem takeL {P : Program} {md : Region.Mode} {Q : Exit → Act → World → Prop} {S : World → Prop} {l rest : List Oper} {i : Nat} {oi : Oper} {v : Value} {fuel : Nat} {listed : Array Bool} {a : Act} {w : World} (hi : l.drop i = oi :: rest)
    (hs : Region.noSelect l.toArray = true) (hf : Region.free md l.toArray listed i = true) (hr : (Region.ready md l.toArray listed).contains i = true)
    (hQ : ∀ c a w, Q (.panic c) (a.put oi.dst v) w → Q (.panic c) a w) (hy : YieldsIf P l.toArray S oi v a) (hS : S w)
    (h : wpAnyH P md l.toArray Q S fuel (listed.setIfInBounds i true) (a.put oi.dst v) w) : wpAnyH P md l.toArray Q S (fuel + 1) listed a w :=
  wpAnyH_take (by
    have e : (l.drop i)[0]? = some oi := by rw [hi]; rfl
    rw [List.getElem?_drop, Nat.add_zero] at e
    simpa using e) hs hf hr hQ hy hS h
theorem ps : (∀ (a : Act) (d : Nat) (v : Value), a.put (some d) v = { a with tmps := a.tmps.setIfInBounds d v }) ∧ (∀ (a : Act) (v : Value), a.put none v = a) ∧ (∀ (l : List Value) (i : Nat) (v : Value), l.toArray.setIfInBounds i v = (l.set i v).toArray) ∧
    (∀ (x v : Value) (l : List Value), (x :: l).set 0 v = v :: l) ∧ (∀ (x v : Value) (l : List Value) (n : Nat), (x :: l).set (n + 1) v = x :: l.set n v) :=
  ⟨fun _ _ _ => rfl, fun _ _ => rfl, fun _ _ _ => List.setIfInBounds_toArray .., fun _ _ _ => rfl, fun _ _ _ _ => rfl⟩
theorem tL {P : Program} {md : Region.Mode} {Q : Exit → Act → World → Prop} {S : World → Prop} {l rest : List Oper} {oi : Oper} {fuel : Nat} {listed : Array Bool} {a : Act} {w : World} (i : Nat) (v : Value) (hi : l.drop i = oi :: rest) (hy : YieldsIf P l.toArray S oi v a) (hS : S w)
    (h : wpAnyH P md l.toArray Q S fuel (listed.setIfInBounds i true) (a.put oi.dst v) w)
    (hs : Region.noSelect l.toArray = true := by kernel_rfl) (hf : Region.free md l.toArray listed i = true := by kernel_rfl) (hr : (Region.ready md l.toArray listed).contains i = true := by kernel_rfl)
    (hQ : ∀ c a w, Q (.panic c) (a.put oi.dst v) w → Q (.panic c) a w := by exact fun _ _ _ h => h) : wpAnyH P md l.toArray Q S (fuel + 1) listed a w := takeL hi hs hf hr hQ hy hS h
theorem tLp {P : Program} {md : Region.Mode} {Q : Exit → Act → World → Prop} {S : World → Prop} {l rest : List Oper} {oi : Oper} {fuel : Nat} {listed : Array Bool} {a : Act} {w : World} (i : Nat) (v : Value) (hi : l.drop i = oi :: rest) (hS : S w)
    (h : wpAnyH P md l.toArray Q S fuel (listed.setIfInBounds i true) (a.put oi.dst v) w)
    (hs : Region.noSelect l.toArray = true := by kernel_rfl) (hf : Region.free md l.toArray listed i = true := by kernel_rfl) (hr : (Region.ready md l.toArray listed).contains i = true := by kernel_rfl)
    (hQ : ∀ c a w, Q (.panic c) (a.put oi.dst v) w → Q (.panic c) a w := by exact fun _ _ _ h => h) (hy : YieldsIf P l.toArray S oi v a := by exact Or.inl ⟨rfl, fun _ _ => rfl⟩) : wpAnyH P md l.toArray Q S (fuel + 1) listed a w := takeL hi hs hf hr hQ hy hS h
/-- The one that may come up is carried out. -/
theorem runL {P : Program} {md : Region.Mode} {Q : Exit → Act → World → Prop} {S : World → Prop} {l rest : List Oper} {i : Nat} {oi : Oper} {fuel : Nat} {listed : Array Bool} {a : Act} {w : World} (hi : l.drop i = oi :: rest)
    (hg : oi.guard = none) (hr : Region.ready md l.toArray listed = [i])
    (h : ∀ K' : Act → World → Prop, Shut (∀ a w, S w → (S w → wpAnyH P md l.toArray Q S fuel (listed.setIfInBounds i true) a w) → K' a w) → Oper.wp P oi a w K' Q) : wpAnyH P md l.toArray Q S (fuel + 1) listed a w := by
  refine wpAnyH_ready hr (by simp) (AllReadyH.cons (o := oi) ?_ (fun K hK => ?_) AllReadyH.nil)
  · have e : (l.drop i)[0]? = some oi := by rw [hi]; rfl
    rw [List.getElem?_drop, Nat.add_zero] at e
    simpa using e
  · rw [if_pos (by simp [Region.wanted, hg])]
    exact h K hK
def FZ : Array Value := Array.replicate 29 (.bool false)
theorem zero_flags : ∀ w, (zeroValue 58).run Tryz.prog w = .ok (.agg FZ) w := (zero_of_info (P := Tryz.prog) (t := 58) (v := .agg FZ) (n := 29) (by kernel_rfl)).1
theorem size_flags : (Tryz.prog.info? 58).map (·.size) = some 29 := by kernel_rfl
theorem size_msg : (Tryz.prog.info? 46).map (·.size) = some 17 := by kernel_rfl
/-- A port's flags, its message. -/
def flagsOf (ps : List Value) (k : Nat) : List Value := (ps.drop (k * 89 + 22)).take 29
def msgOf (ps : List Value) (k : Nat) : List Value := (ps.drop (k * 89 + 51)).take 17
theorem flagsOf_at {B : Br} {k j : Nat} (hj : j < 29) : (flagsOf B.ps k)[j]? = B.ps[k * 89 + (22 + j)]? := by
  unfold flagsOf
  rw [List.getElem?_take, if_pos hj, List.getElem?_drop, Nat.add_assoc]
theorem msgOf_at {B : Br} {k j : Nat} (hj : j < 17) : (msgOf B.ps k)[j]? = B.ps[k * 89 + (51 + j)]? := by
  unfold msgOf
  rw [List.getElem?_take, if_pos hj, List.getElem?_drop, Nat.add_assoc]
theorem flagsOf_len {B : Br} (ho : B.ok) {k : Nat} (hk : k < B.np) : (flagsOf B.ps k).length = 29 := by
  have := len89 ho hk
  unfold flagsOf
  simp; omega
theorem flagsOf_one {B : Br} (ho : B.ok) (k : Nat) : ∀ v ∈ flagsOf B.ps k, v.oneCell' = true := fun v hv => ho.ps.one v (List.mem_of_mem_drop (List.mem_of_mem_take hv))
theorem BrG.flags {w : World} {F : Nat → Prop} {X g : Nat} {B : Br} (h : BrG w F X g B) {k : Nat} (hk : k < B.np) : w.rangeAt g (k * 89 + 22) (flagsOf B.ps k) := fun j v hv => by
  have hj : j < 29 := by
    have := (List.getElem?_eq_some_iff.1 hv).1
    simp [flagsOf] at this; omega
  rw [show k * 89 + 22 + j = k * 89 + (22 + j) from Nat.add_assoc _ _ _, h.cellg (by omega), ← flagsOf_at hj]
  exact hv
theorem BrG.msg {w : World} {F : Nat → Prop} {X g : Nat} {B : Br} (h : BrG w F X g B) {k : Nat} (hk : k < B.np) : w.rangeAt g (k * 89 + 51) (msgOf B.ps k) := fun j v hv => by
  have hj : j < 17 := by
    have := (List.getElem?_eq_some_iff.1 hv).1
    simp [msgOf] at this; omega
  rw [show k * 89 + 51 + j = k * 89 + (51 + j) from Nat.add_assoc _ _ _, h.cellg (by omega), ← msgOf_at hj]
  exact hv
/-- A row of cells set from place j on. -/
def Br.setr (B : Br) (k j : Nat) (l : List Value) : Br := { B with ps := B.ps.take (k * 89 + j) ++ l ++ B.ps.drop (k * 89 + j + l.length) }
theorem BrG.setr {w : World} {F : Nat → Prop} {X g : Nat} {B : Br} (h : BrG w F X g B) {k j : Nat} (hk : k < B.np) {l : List Value} (hj : j + l.length ≤ 89) : BrG (w.setCells g (k * 89 + j) l) F X g (B.setr k j l) :=
  BrG.setCellsFrom l (k * 89 + j) w B h (by omega)
theorem setr_at {B : Br} {k j : Nat} {l : List Value} (hk : k * 89 + 89 ≤ B.ps.length) (hj : j + l.length ≤ 89) (i : Nat) :
    (B.setr k j l).ps[i]? = if k * 89 + j ≤ i ∧ i < k * 89 + j + l.length then l[i - (k * 89 + j)]? else B.ps[i]? := by
  show (B.ps.take (k * 89 + j) ++ l ++ B.ps.drop (k * 89 + j + l.length))[i]? = _
  have hz : (B.ps.take (k * 89 + j)).length = k * 89 + j := by rw [List.length_take]; omega
  rw [List.append_assoc]
  by_cases h1 : i < k * 89 + j
  · rw [List.getElem?_append_left (by omega), List.getElem?_take, if_pos h1, if_neg (by omega)]
  · rw [List.getElem?_append_right (by omega), hz]
    by_cases h2 : i < k * 89 + j + l.length
    · rw [List.getElem?_append_left (by omega), if_pos (by omega)]
    · rw [List.getElem?_append_right (by omega), if_neg (by omega), List.getElem?_drop]
      congr 1; omega
@[simp] theorem np_setr (B : Br) (k j : Nat) (l : List Value) : (B.setr k j l).np = B.np := rfl
@[simp] theorem hd_setr (B : Br) (k j : Nat) (l : List Value) : (B.setr k j l).hd = B.hd := rfl
theorem len_setr {B : Br} {k j : Nat} {l : List Value} (hk : k * 89 + 89 ≤ B.ps.length) (hj : j + l.length ≤ 89) : (B.setr k j l).ps.length = B.ps.length := by
  show (B.ps.take (k * 89 + j) ++ l ++ B.ps.drop (k * 89 + j + l.length)).length = _
  simp; omega
theorem Br.ok.setr {B : Br} (ho : B.ok) {k j : Nat} {l : List Value} (hk : k < B.np) (hj : j + l.length ≤ 89) (hl : ∀ i v, l[i]? = some v → ∀ c, PL[j + i]? = some c → cellOk c v) : (B.setr k j l).ok := by
  have h89 := len89 ho hk
  refine ⟨ho.hd, ?_, ho.os, ho.fl⟩
  obtain ⟨h1, h2⟩ := rowTyped_iff.1 ho.ps
  refine rowTyped_iff.2 ⟨by rw [len_setr h89 hj]; exact h1, fun i hi j' c hj' => ?_⟩
  have hl' : j' < 89 := (List.getElem?_eq_some_iff.1 hj').1
  have hlen : PL.length = 89 := rfl
  obtain ⟨u, hu, hc⟩ := h2 i hi j' c hj'
  rw [hlen] at hu ⊢
  rw [setr_at h89 hj]
  split
  · rename_i hin
    have e1 : i = k := by omega
    subst e1
    obtain ⟨v, hv⟩ : ∃ v, l[i * 89 + j' - (i * 89 + j)]? = some v := ⟨_, List.getElem?_eq_getElem (by omega)⟩
    refine ⟨v, hv, hl _ v hv c ?_⟩
    rw [show j + (i * 89 + j' - (i * 89 + j)) = j' by omega]
    exact hj'
  · exact ⟨u, hu, hc⟩
end Go.Proofs.YtpanapepcbbagaaGreat
namespace Go.Proofs.YtpanapepcbbagaaGreat
open Go.RowKit Go.BigFrame Go.WideShapes Go.ChangeShapes Go.Deep
set_option linter.unusedVariables false
set_option linter.unusedSimpArgs false
/-- Cell j of the first n ports set to what v says. -/
def Br.upd (B : Br) (j : Nat) (v : Nat → Value) : Nat → Br
  | 0 => B
  | n + 1 => (B.upd j v n).setp n j (v n)
theorem upd_np (B : Br) (j : Nat) (v : Nat → Value) : ∀ n, (B.upd j v n).np = B.np
  | 0 => rfl
  | n + 1 => upd_np B j v n
theorem upd_len (B : Br) (j : Nat) (v : Nat → Value) : ∀ n, (B.upd j v n).ps.length = B.ps.length
  | 0 => rfl
  | n + 1 => by
    show ((B.upd j v n).setp n j (v n)).ps.length = _
    rw [len_setp]
    exact upd_len B j v n
theorem upd_ok {B : Br} (ho : B.ok) {j : Nat} (hj : j < 89) {v : Nat → Value} (hv : ∀ i c, PL[j]? = some c → cellOk c (v i)) : ∀ n, n ≤ B.np → (B.upd j v n).ok
  | 0, _ => ho
  | n + 1, h => (upd_ok ho hj hv n (by omega)).setp (by rw [upd_np]; omega) hj (hv n)
theorem upd_at (B : Br) {j : Nat} (hj : j < 89) (v : Nat → Value) : ∀ n, n * 89 ≤ B.ps.length → ∀ i, (B.upd j v n).ps[i]? = if i % 89 = j ∧ i / 89 < n then some (v (i / 89)) else B.ps[i]?
  | 0, _, i => by rw [if_neg (by omega)]; rfl
  | n + 1, h, i => by
    have ih := upd_at B hj v n (by omega) i
    show ((B.upd j v n).ps.set (n * 89 + j) (v n))[i]? = _
    by_cases e : i = n * 89 + j
    · subst e
      rw [List.getElem?_set_self (by rw [upd_len]; omega), if_pos (by omega), show (n * 89 + j) / 89 = n by omega]
    · rw [List.getElem?_set_ne (by omega), ih]
      by_cases a : i % 89 = j ∧ i / 89 < n
      · rw [if_pos a, if_pos (by omega)]
      · rw [if_neg a, if_neg (by omega)]
theorem upd_cell (B : Br) {j : Nat} (hj : j < 89) (v : Nat → Value) {n : Nat} (h : n * 89 ≤ B.ps.length) {k j' : Nat} (hj' : j' < 89) : (B.upd j v n).ps[k * 89 + j']? = if j' = j ∧ k < n then some (v k) else B.ps[k * 89 + j']? := by
  rw [upd_at B hj v n h, show (k * 89 + j') % 89 = j' by omega, show (k * 89 + j') / 89 = k by omega]
theorem upd_gi_ne (B : Br) {j : Nat} (hj : j < 89) (v : Nat → Value) {n : Nat} (h : n * 89 ≤ B.ps.length) {k j' : Nat} (hj' : j' < 89) (hne : j' ≠ j) : (B.upd j v n).gi k j' = B.gi k j' := by
  unfold Br.gi
  rw [upd_cell B hj _ h hj', if_neg (by omega)]
end Go.Proofs.YtpanapepcbbagaaGreat
namespace Go.Proofs.YtpanapepcbbagaaGreat
open Go.RowKit Go.BigFrame Go.WideShapes Go.ChangeShapes Go.Deep
set_option linter.unusedVariables false
set_option linter.unusedSimpArgs false
theorem mut_setRow (w : World) (g : Nat) (cs : Array Value) : Mut (fun n => n = g) w (w.setRow g cs) := ⟨rfl, rfl, rfl, by simp, fun k _ hf => setRow_other w g k cs hf⟩
/-- A store into a box that is known as a row: the world behind it is a letter. -/
theorem st_at {P : Program} {ops : Array Oper} {rest : List Oper} {op : Oper} {a : Act} {w : World} {Q : Exit → Act → World → Prop} (hgd : op.guard = none) (hdst : op.dst = none) (ty : TypeId) (x y : Operand) (ho : op.op = .store ty x y)
    (g o : Nat) (u : Value) (vs cs cs' : Array Value) (t : TypeId) (hx : a.eval x = .pointer (some ⟨g, o, none⟩)) (hy : a.eval y = u) (hv : u.cells = vs) (hX : w.heap[g]? = some (.cells cs t (0, 0))) (hl : o + vs.size ≤ cs.size)
    (hi : (P.info? ty).map (·.size) = some vs.size) (h1 : vs.toList.all (·.oneCell') = true) (hcs : (cs.toList.take o ++ vs.toList ++ cs.toList.drop (o + vs.size)).toArray = cs')
    (h : ∀ w', w'.heap[g]? = some (.cells cs' t (0, 0)) → Mut (fun n => n = g) w w' → wpList P ops Q rest a w') : wpList P ops Q (op :: rest) a w := by
  subst hcs
  refine wpList_plain hgd fun K hK => ?_
  have h3 := run_storeCells_at (P := P) g o t vs.toList 0 cs w hX (by simpa using hl) (fun v hv => List.all_eq_true.1 h1 v hv)
  simp only [Nat.add_zero, Array.length_toList] at h3
  have hrun : (storeVar ty ⟨g, o, none⟩ u).run P w = .ok () (w.setRow g (cs.toList.take o ++ vs.toList ++ cs.toList.drop (o + vs.size)).toArray) := by
    cases hq : P.info? ty with
    | none => simp [hq] at hi
    | some i =>
      have hs : vs.size = i.size := by simp [hq] at hi; omega
      simp [storeVar, sizeOf, typeInfo, hq, hv, hs]
      simpa [hs] using h3
  unfold Oper.wp execOp
  simp only [ho, hx, hy, Instr.storeAt, Instr.sureAddr, Sem.run_bind, Sem.run_pure, Result.andThen_ok, hrun]
  refine hK _ _ ?_
  rw [show a.put op.dst undef = a by rw [hdst]; rfl]
  exact h _ (setRow_heap _ _ _ _ _ _ hX) (mut_setRow w g _)
theorem at_alloc (T : TypeId) {P : Program} {ops : Array Oper} {rest : List Oper} {a : Act} {w : World} {Q : Exit → Act → World → Prop} {d : Option Tmp} {ty : TypeId} {pos : String} {after : Array Edge}
    (h : wpList P ops Q ({ dst := d, op := .alloc T, type := ty, pos := pos, after := after, guard := none } :: rest) a w) : wpList P ops Q ({ dst := d, op := .alloc T, type := ty, pos := pos, after := after, guard := none } :: rest) a w := h
/-- A new variable: its world is a letter. -/
theorem al_zero {P : Program} {ops : Array Oper} {rest : List Oper} {op : Oper} {a : Act} {w : World} {Q : Exit → Act → World → Prop} (hgd : op.guard = none) (ty : TypeId) (ho : op.op = .alloc ty)
    (z : Array Value) (hz : ∀ w, (zeroValue ty).run P w = .ok (.agg z) w) (h : ∀ (X : Nat) (w' : World), w'.heap[X]? = some (.cells z ty (0, 0)) → w.heap.size = X → Ext w w' → wpList P ops Q rest (a.put op.dst (.pointer (some ⟨X, 0, none⟩))) w') : wpList P ops Q (op :: rest) a w :=
  wpList_plain hgd fun K hK => wp_alloc_zero ty ho z (hz w) (hK _ _ (h _ _ (heap_alloc_new _ _) rfl ((Ext.refl w).alloc _)))
/-- The same among operations in an open order. -/
theorem wp_st_at {P : Program} {op : Oper} {a : Act} {w : World} {K : Act → World → Prop} {Q : Exit → Act → World → Prop} (hdst : op.dst = none) (ty : TypeId) (x y : Operand) (ho : op.op = .store ty x y)
    (g o : Nat) (u : Value) (vs cs cs' : Array Value) (t : TypeId) (hx : a.eval x = .pointer (some ⟨g, o, none⟩)) (hy : a.eval y = u) (hv : u.cells = vs) (hX : w.heap[g]? = some (.cells cs t (0, 0))) (hl : o + vs.size ≤ cs.size)
    (hi : (P.info? ty).map (·.size) = some vs.size) (h1 : vs.toList.all (·.oneCell') = true) (hcs : (cs.toList.take o ++ vs.toList ++ cs.toList.drop (o + vs.size)).toArray = cs')
    (h : ∀ w', w'.heap[g]? = some (.cells cs' t (0, 0)) → Mut (fun n => n = g) w w' → K a w') : op.wp P a w K Q := by
  subst hcs
  have h3 := run_storeCells_at (P := P) g o t vs.toList 0 cs w hX (by simpa using hl) (fun v hv => List.all_eq_true.1 h1 v hv)
  simp only [Nat.add_zero, Array.length_toList] at h3
  have hrun : (storeVar ty ⟨g, o, none⟩ u).run P w = .ok () (w.setRow g (cs.toList.take o ++ vs.toList ++ cs.toList.drop (o + vs.size)).toArray) := by
    cases hq : P.info? ty with
    | none => simp [hq] at hi
    | some i =>
      have hs : vs.size = i.size := by simp [hq] at hi; omega
      simp [storeVar, sizeOf, typeInfo, hq, hv, hs]
      simpa [hs] using h3
  unfold Oper.wp execOp
  simp only [ho, hx, hy, Instr.storeAt, Instr.sureAddr, Sem.run_bind, Sem.run_pure, Result.andThen_ok, hrun]
  have h4 : K (a.put op.dst undef) (w.setRow g (cs.toList.take o ++ vs.toList ++ cs.toList.drop (o + vs.size)).toArray) := by
    rw [show a.put op.dst undef = a by rw [hdst]; rfl]
    exact h _ (setRow_heap _ _ _ _ _ _ hX) (mut_setRow w g _)
  exact h4
theorem wp_al_zero {P : Program} {op : Oper} {a : Act} {w : World} {K : Act → World → Prop} {Q : Exit → Act → World → Prop} (ty : TypeId) (ho : op.op = .alloc ty)
    (z : Array Value) (hz : ∀ w, (zeroValue ty).run P w = .ok (.agg z) w) (h : ∀ (X : Nat) (w' : World), w'.heap[X]? = some (.cells z ty (0, 0)) → w.heap.size = X → Ext w w' → K (a.put op.dst (.pointer (some ⟨X, 0, none⟩))) w') : op.wp P a w K Q :=
  wp_alloc_zero ty ho z (hz w) (h _ _ (heap_alloc_new _ _) rfl ((Ext.refl w).alloc _))
/-- Two may come up. -/
theorem runL2 {P : Program} {md : Region.Mode} {Q : Exit → Act → World → Prop} {S : World → Prop} {l r1 r2 : List Oper} {i j : Nat} {oi oj : Oper} {fuel : Nat} {listed : Array Bool} {a : Act} {w : World} (hi : l.drop i = oi :: r1) (hgi : oi.guard = none)
    (hj : l.drop j = oj :: r2) (hgj : oj.guard = none) (hr : Region.ready md l.toArray listed = [i, j])
    (h1 : ∀ K' : Act → World → Prop, Shut (∀ a w, S w → (S w → wpAnyH P md l.toArray Q S fuel (listed.setIfInBounds i true) a w) → K' a w) → Oper.wp P oi a w K' Q)
    (h2 : ∀ K' : Act → World → Prop, Shut (∀ a w, S w → (S w → wpAnyH P md l.toArray Q S fuel (listed.setIfInBounds j true) a w) → K' a w) → Oper.wp P oj a w K' Q) : wpAnyH P md l.toArray Q S (fuel + 1) listed a w := by
  have at_ : ∀ {n : Nat} {o : Oper} {r : List Oper}, l.drop n = o :: r → l.toArray[n]? = some o := fun {n o r} h => by
    have e : (l.drop n)[0]? = some o := by rw [h]; rfl
    rw [List.getElem?_drop, Nat.add_zero] at e
    simpa using e
  refine wpAnyH_ready hr (by simp) (AllReadyH.cons (o := oi) (at_ hi) (fun K hK => ?_) (AllReadyH.cons (o := oj) (at_ hj) (fun K hK => ?_) AllReadyH.nil))
  · rw [if_pos (by simp [Region.wanted, hgi])]
    exact h1 K hK
  · rw [if_pos (by simp [Region.wanted, hgj])]
    exact h2 K hK
section
variable {P : Program} {ops : Array Oper} {Q : Exit → Act → World → Prop} {md : Region.Mode} {S : World → Prop} {z : Nat}
/-- Whatever order is picked: S holds behind every operation that is carried out, till number z is. -/
def wpAnyZ (P : Program) (md : Region.Mode) (ops : Array Oper) (Q : Exit → Act → World → Prop) (S : World → Prop) (z : Nat) : Nat → Array Bool → Act → World → Prop
  | 0, listed, a, w => Region.ready md ops listed = [] ∧ Q .normal a w
  | fuel + 1, listed, a, w =>
    (Region.ready md ops listed = [] → Q .normal a w) ∧
    ∀ i ∈ Region.ready md ops listed, wpOp P ops Q i (fun a' w' => ((listed.setIfInBounds i true).getD z true = false → S w') ∧ wpAnyZ P md ops Q S z fuel (listed.setIfInBounds i true) a' w') a w
theorem wpAny_of_z : ∀ (fuel : Nat) (listed : Array Bool) (a : Act) (w : World), wpAnyZ P md ops Q S z fuel listed a w → wpAny P md ops Q fuel listed a w
  | 0, _, _, _, h => h
  | fuel + 1, _, _, _, h => ⟨h.1, fun i hi => wpOp_mono (fun a' w' h' => wpAny_of_z fuel _ a' w' h'.2) (h.2 i hi)⟩
theorem getD_set_z (L : Array Bool) (i : Nat) (h : L.getD z true = true) : (L.setIfInBounds i true).getD z true = true := by
  by_cases hz : i = z
  · subst hz
    by_cases hl : i < L.size
    · simp [Array.getD, hl]
    · simp [Array.getD, hl]
  · rw [getD_set_ne true hz]; exact h
/-- Behind number z nothing is held. -/
theorem wpAnyZ_of_H : ∀ (fuel : Nat) (listed : Array Bool) (a : Act) (w : World), listed.getD z true = true → wpAnyH P md ops Q (fun _ => True) fuel listed a w → wpAnyZ P md ops Q S z fuel listed a w
  | 0, _, _, _, _, h => h
  | fuel + 1, listed, _, _, hz, h => ⟨h.1, fun i hi => wpOp_mono (fun a' w' h' => ⟨fun h0 => absurd (getD_set_z listed i hz) (by rw [h0]; decide), wpAnyZ_of_H fuel _ a' w' (getD_set_z listed i hz) h'.2⟩) (h.2 i hi)⟩
theorem wpAnyZ_first {i : Nat} {oi oz : Oper} {v : Value} (hi : ops[i]? = some oi) (hz : ops[z]? = some oz) (hzi : ∃ e ∈ oz.after, Region.binds md e = true ∧ e.on = i) (hne : z ≠ i)
    (hsel : ∀ (j : Nat) (o : Oper) cs b, ops[j]? = some o → o.op ≠ .select cs b) (hQ : ∀ c a w, Q (.panic c) (a.put oi.dst v) w → Q (.panic c) a w) :
    ∀ (fuel : Nat) (listed : Array Bool) (a : Act) (w : World), listed.getD z true = false →
      (∀ j oj, ops[j]? = some oj → j ≠ i → listed.getD j true = false → (∀ e ∈ oj.after, Region.binds md e = true → e.on ≠ i) → oi.apart ops oj = true) →
      i ∈ Region.ready md ops listed → YieldsIf P ops S oi v a → S w →
      wpAnyZ P md ops Q S z fuel (listed.setIfInBounds i true) (a.put oi.dst v) w → wpAnyZ P md ops Q S z (fuel + 1) listed a w := by
  intro fuel
  induction fuel with
  | zero =>
    intro listed a w _ _ hr hy hS H
    refine ⟨fun h => (by rw [h] at hr; cases hr), fun j hj => ?_⟩
    by_cases hji : j = i
    · subst hji; exact hy.wpOp hi hS ⟨fun _ => hS, H⟩
    · have := ready_mono hj hji
      rw [H.1] at this
      cases this
  | succ fuel ih =>
    intro listed a w hzl hfree hr hy hS H
    refine ⟨fun h => (by rw [h] at hr; cases hr), fun j hj => ?_⟩
    by_cases hji : j = i
    · subst hji; exact hy.wpOp hi hS ⟨fun _ => hS, H⟩
    · have h1 := H.2 j (ready_mono hj hji)
      obtain ⟨hjun, oj, hoj, hall⟩ := mem_ready.1 hj
      have hnot : ∀ e ∈ oj.after, Region.binds md e = true → e.on ≠ i := fun e he hb heq => by
        have h1 := hall e he hb
        have h0 := (mem_ready.1 hr).1
        rw [heq] at h1
        rcases Nat.lt_or_ge i listed.size with h' | h'
        · simp [h'] at h0 h1; rw [h0] at h1; cases h1
        · simp [Array.getElem?_eq_none h'] at h1
      have hjz : j ≠ z := fun e => by
        subst e
        obtain ⟨e, he, hb, hon⟩ := hzi
        rw [hoj] at hz
        cases hz
        exact hnot e he hb hon
      have h2 := wpOp_putIf hoj (hfree j oj hoj hji hjun hnot) (fun cs b => hsel i oi cs b hi) (fun cs b => hsel j oj cs b hoj) hQ hy h1
      have hfree' : ∀ k ok, ops[k]? = some ok → k ≠ i → (listed.setIfInBounds j true).getD k true = false →
          (∀ e ∈ ok.after, Region.binds md e = true → e.on ≠ i) → oi.apart ops ok = true := fun k ok hk hki hun hno => by
        refine hfree k ok hk hki ?_ hno
        by_cases hjk : j = k
        · subst hjk; exact hjun
        · rw [getD_set_ne true hjk] at hun; exact hun
      have hzj : (listed.setIfInBounds j true).getD z true = false := by rw [getD_set_ne true hjz]; exact hzl
      have hzij : ((listed.setIfInBounds i true).setIfInBounds j true).getD z true = false := by rw [getD_set_ne true hjz, getD_set_ne true (Ne.symm hne)]; exact hzl
      refine wpOp_mono (fun a' w' h3 => ⟨fun _ => h3.2.1 hzij, ih (listed.setIfInBounds j true) a' w' hzj hfree' (ready_mono hr (Ne.symm hji)) h3.1 (h3.2.1 hzij) ?_⟩) h2
      rw [Array.setIfInBounds_comm _ _ hji]
      exact h3.2.2
end
theorem beginZ {P : Program} {Q : Exit → Act → World → Prop} {S : World → Prop} {id : Nat} {ops : Array Oper} {a : Act} {w : World} (z : Nat) (hm : P.follows .mixedOrders = true)
    (h : ∀ wd : World, Ext w wd → wpAnyZ P .any ops Q S z ops.size (Array.replicate ops.size false) a wd) : (Code.region id ops true).wp P Q a w :=
  wp_region_any hm (wpAny_of_z _ _ _ _ (h w.drew (Ext.refl w).drew))
theorem at_drop {l rest : List Oper} {i : Nat} {o : Oper} (hi : l.drop i = o :: rest) : l.toArray[i]? = some o := by
  have e : (l.drop i)[0]? = some o := by rw [hi]; rfl
  rw [List.getElem?_drop, Nat.add_zero] at e
  simpa using e
theorem takeZ {P : Program} {md : Region.Mode} {Q : Exit → Act → World → Prop} {S : World → Prop} {l rest rz : List Oper} {i z : Nat} {oi oz : Oper} {v : Value} {fuel : Nat} {listed : Array Bool} {a : Act} {w : World} (hi : l.drop i = oi :: rest) (hz : l.drop z = oz :: rz)
    (hzi : (oz.after.toList.any fun e => Region.binds md e && e.on == i) = true) (hne : (z == i) = false) (hzl : listed.getD z true = false)
    (hs : Region.noSelect l.toArray = true) (hf : Region.free md l.toArray listed i = true) (hr : (Region.ready md l.toArray listed).contains i = true)
    (hQ : ∀ c a w, Q (.panic c) (a.put oi.dst v) w → Q (.panic c) a w) (hy : YieldsIf P l.toArray S oi v a) (hS : S w)
    (h : wpAnyZ P md l.toArray Q S z fuel (listed.setIfInBounds i true) (a.put oi.dst v) w) : wpAnyZ P md l.toArray Q S z (fuel + 1) listed a w := by
  refine wpAnyZ_first (at_drop hi) (at_drop hz) ?_ (by simpa using hne) (Region.noSelect_spec hs) hQ fuel listed a w hzl (Region.free_spec (at_drop hi) hf) (by simpa using hr) hy hS h
  obtain ⟨e, he, h2⟩ := List.any_eq_true.1 hzi
  simp only [Bool.and_eq_true, beq_iff_eq] at h2
  exact ⟨e, by simpa using he, h2.1, h2.2⟩
theorem runZ {P : Program} {md : Region.Mode} {Q : Exit → Act → World → Prop} {S : World → Prop} {l rest : List Oper} {i z : Nat} {oi : Oper} {fuel : Nat} {listed : Array Bool} {a : Act} {w : World} (hi : l.drop i = oi :: rest)
    (hg : oi.guard = none) (hr : Region.ready md l.toArray listed = [i])
    (h : ∀ K' : Act → World → Prop, Shut (∀ a w, S w → (S w → wpAnyZ P md l.toArray Q S z fuel (listed.setIfInBounds i true) a w) → K' a w) → Oper.wp P oi a w K' Q) : wpAnyZ P md l.toArray Q S z (fuel + 1) listed a w := by
  refine ⟨fun h0 => absurd (hr ▸ h0) (by simp), fun j hj => ?_⟩
  rw [hr] at hj
  obtain rfl : j = i := by simpa using hj
  unfold wpOp
  simp only [at_drop hi]
  rw [if_pos (by simp [Region.wanted, hg])]
  exact .inl (h _ (show ∀ a w, _ from fun a w hS hK => ⟨fun _ => hS, hK hS⟩))
/-- Number z itself: nothing is held behind it. -/
theorem runZl {P : Program} {md : Region.Mode} {Q : Exit → Act → World → Prop} {S : World → Prop} {l rest : List Oper} {z : Nat} {oz : Oper} {fuel : Nat} {listed : Array Bool} {a : Act} {w : World} (hi : l.drop z = oz :: rest)
    (hg : oz.guard = none) (hr : Region.ready md l.toArray listed = [z])
    (h : ∀ K' : Act → World → Prop, Shut (∀ a w, wpAnyH P md l.toArray Q (fun _ => True) fuel (listed.setIfInBounds z true) a w → K' a w) → Oper.wp P oz a w K' Q) : wpAnyZ P md l.toArray Q S z (fuel + 1) listed a w := by
  refine ⟨fun h0 => absurd (hr ▸ h0) (by simp), fun j hj => ?_⟩
  rw [hr] at hj
  obtain rfl : j = z := by simpa using hj
  have hz : (listed.setIfInBounds j true).getD j true = true := by
    by_cases hl : j < listed.size
    · simp [Array.getD, hl]
    · simp [Array.getD, hl]
  unfold wpOp
  simp only [at_drop hi]
  rw [if_pos (by simp [Region.wanted, hg])]
  exact .inl (h _ (show ∀ a w, _ from fun a w hK => ⟨fun h0 => absurd hz (by rw [h0]; decide), wpAnyZ_of_H _ _ _ _ hz hK⟩))
theorem runG {P : Program} {md : Region.Mode} {Q : Exit → Act → World → Prop} {S : World → Prop} {l rest : List Oper} {i : Nat} {oi : Oper} {fuel : Nat} {listed : Array Bool} {a : Act} {w : World} (hi : l.drop i = oi :: rest)
    (hw : Region.wanted oi (yielded l.toArray a.tmps) = true) (hr : Region.ready md l.toArray listed = [i])
    (h : ∀ K' : Act → World → Prop, Shut (∀ a w, S w → (S w → wpAnyH P md l.toArray Q S fuel (listed.setIfInBounds i true) a w) → K' a w) → Oper.wp P oi a w K' Q) : wpAnyH P md l.toArray Q S (fuel + 1) listed a w := by
  refine wpAnyH_ready hr (by simp) (AllReadyH.cons (o := oi) ?_ (fun K hK => ?_) AllReadyH.nil)
  · have e : (l.drop i)[0]? = some oi := by rw [hi]; rfl
    rw [List.getElem?_drop, Nat.add_zero] at e
    simpa using e
  · rw [if_pos hw]
    exact h K hK
theorem yieldsIf_build {P : Program} {ops : Array Oper} {S : World → Prop} {op : Oper} {a : Act} (hw : Region.wanted op (yielded ops a.tmps) = true) (t : TypeId) (parts : Array (Nat × Operand)) (ho : op.op = .build t parts)
    (vals : List (Nat × Value)) (hv : parts.toList.map (fun x => (x.1, a.eval x.2)) = vals) (cells : Array Value) (hb : P.built t vals = some cells) : YieldsIf P ops S op (.agg cells) a :=
  .inl ⟨hw, fun w _ => by
    have e : (parts.map fun (i, x) => (i, a.eval x)).toList = vals := by rw [Array.toList_map]; exact hv
    unfold execOp
    simp only [ho, Sem.run_bind, run_build w t _ cells (by rw [e]; exact hb), Result.andThen_ok]
    rfl⟩
theorem yieldsIf_rowS {P : Program} {ops : Array Oper} {S : World → Prop} {op : Oper} {a : Act} (hw : Region.wanted op (yielded ops a.tmps) = true) (ty : TypeId) (x : Operand) (ho : op.op = .load ty x)
    (X : Nat) (hx : a.eval x = .pointer (some ⟨X, 0, none⟩)) (C : Array Value) (t : TypeId) (d : TypeDesc) (hX : ∀ W', S W' → W'.heap[X]? = some (.cells C t (0, 0)))
    (hu : P.underlying ty = some d) (hd : (match d with | .struct _ | .array _ _ => true | _ => false) = true) (hi : (P.info? ty).map (·.size) = some C.size) : YieldsIf P ops S op (.agg C) a :=
  .inl ⟨hw, fun W' hW' => by
    have h := hX W' hW'
    unfold execOp
    simp only [ho, hx, Instr.loadAt, Instr.sureAddr, Sem.run_bind, Sem.run_pure, Result.andThen_ok, run_loadVar_row W' X t ty C (0, 0) d h hu hd hi]⟩
theorem mut_new {a b c : World} {F : Nat → Prop} {B : Nat} (h : Mut F a b) (m : Mut (fun n => n = B) b c) (hB : a.heap.size ≤ B) : Mut F a c :=
  ⟨m.1.trans h.1, m.2.1.trans h.2.1, m.2.2.1.trans h.2.2.1, Nat.le_trans h.2.2.2.1 m.2.2.2.1, fun k hk hf => (m.2.2.2.2 k (Nat.lt_of_lt_of_le hk h.2.2.2.1) (by omega)).trans (h.2.2.2.2 k hk hf)⟩
end Go.Proofs.YtpanapepcbbagaaGreat
namespace Go.Proofs.YtpanapepcbbagaaGreat
open Go.RowKit Go.BigFrame Go.WideShapes Go.ChangeShapes Go.Deep
set_option linter.unusedVariables false
set_option linter.unusedSimpArgs false
/-- A port lies in block G, from place o on, and reads as L. -/
def Pv (w : World) (G o : Nat) (L : List Value) : Prop := ∃ C T, w.heap[G]? = some (.cells C T (0, 0)) ∧ L.length = 89 ∧ (C.toList.drop o).take 89 = L
/-- Of all that there was at most this port turned. -/
def Pm (G o : Nat) (w w' : World) : Prop := Mut (fun n => n = G) w w' ∧ ∀ C T, w.heap[G]? = some (.cells C T (0, 0)) → ∃ C', w'.heap[G]? = some (.cells C' T (0, 0)) ∧ C'.size = C.size ∧ ∀ i, (i < o ∨ o + 89 ≤ i) → C'[i]? = C[i]?
theorem Pv.lt {w : World} {G o : Nat} {L : List Value} (h : Pv w G o L) : G < w.heap.size := by obtain ⟨C, T, h1, _⟩ := h; exact heap_lt h1
theorem Pv.len {w : World} {G o : Nat} {L : List Value} (h : Pv w G o L) : L.length = 89 := by obtain ⟨C, T, _, h2, _⟩ := h; exact h2
theorem Pv.keep {w w' : World} {G o : Nat} {L : List Value} (h : Pv w G o L) (hk : w'.heap[G]? = w.heap[G]?) : Pv w' G o L := by obtain ⟨C, T, h1, h2, h3⟩ := h; exact ⟨C, T, hk.trans h1, h2, h3⟩
theorem Pv.ext {w w' : World} {G o : Nat} {L : List Value} (h : Pv w G o L) (hx : Ext w w') : Pv w' G o L := h.keep (hx.block _ h.lt)
theorem Pv.mut {w w' : World} {G o B : Nat} {L : List Value} (h : Pv w G o L) (hm : Mut (fun n => n = B) w w') (hne : G ≠ B) : Pv w' G o L := h.keep (hm.heap h.lt hne)
theorem Pv.cell {w : World} {G o : Nat} {L : List Value} (h : Pv w G o L) {j : Nat} (hj : j < 89) : w.cell? ⟨G, o + j, none⟩ = L[j]? := by
  obtain ⟨C, T, h1, h2, rfl⟩ := h
  rw [cell_of_row _ _ _ _ _ _ h1, List.getElem?_take, if_pos hj, List.getElem?_drop]
  simp
theorem Pv.range {w : World} {G o : Nat} {L : List Value} (h : Pv w G o L) {j n : Nat} {l : List Value} (hl : (L.drop j).take n = l) (hn : j + n ≤ 89) : w.rangeAt G (o + j) l := fun i v hv => by
  subst hl
  rw [List.getElem?_take] at hv
  split at hv
  · rw [List.getElem?_drop] at hv
    rw [show o + j + i = o + (j + i) by omega, h.cell (by omega)]
    exact hv
  · cases hv
theorem Pv.frozen {w : World} {G o : Nat} {L : List Value} (h : Pv w G o L) (i : Nat) : w.frozen? ⟨G, i, none⟩ = false := by
  obtain ⟨C, T, h1, _⟩ := h
  exact frozen_of_row _ _ _ _ _ h1
theorem Pv.box {w : World} {X : Nat} {L : List Value} {T : TypeId} (h : w.heap[X]? = some (.cells L.toArray T (0, 0))) (hl : L.length = 89) : Pv w X 0 L := ⟨_, T, h, hl, by simp [← hl]⟩
theorem Pm.refl (G o : Nat) (w : World) : Pm G o w w := ⟨Mut.refl _ _, fun C T h => ⟨C, h, rfl, fun _ _ => rfl⟩⟩
theorem Pm.trans {G o : Nat} {a b c : World} (h : Pm G o a b) (k : Pm G o b c) : Pm G o a c := by
  refine ⟨h.1.trans k.1, fun C T h0 => ?_⟩
  obtain ⟨C1, h1, s1, e1⟩ := h.2 C T h0
  obtain ⟨C2, h2, s2, e2⟩ := k.2 C1 T h1
  exact ⟨C2, h2, s2.trans s1, fun i hi => (e2 i hi).trans (e1 i hi)⟩
theorem Ext.pm {a b : World} (h : Ext a b) (G o : Nat) : Pm G o a b := ⟨h.mut _, fun C T h0 => ⟨C, (h.block _ (heap_lt h0)).trans h0, rfl, fun _ _ => rfl⟩⟩
theorem Pm.ext {G o : Nat} {a b c : World} (h : Pm G o a b) (k : Ext b c) : Pm G o a c := h.trans (k.pm G o)
theorem Pm.size {G o : Nat} {a b : World} (h : Pm G o a b) : a.heap.size ≤ b.heap.size := h.1.size
theorem Pm.row {G o X : Nat} {a b : World} {x : Obj} (h : Pm G o a b) (hX : a.heap[X]? = some x) (hne : X ≠ G) : b.heap[X]? = some x := (h.1.heap (heap_lt hX) hne).trans hX
theorem Pm.mutE {G o : Nat} {a b c : World} (h : Ext a b) (k : Pm G o b c) (hG : a.heap.size ≤ G) : Ext a c := Ext.mutE h k.1 (fun n hn e => by have h2 : n = G := e; omega)
/-- What a store of a row into a port leaves. -/
def setL (L : List Value) (j : Nat) (vs : List Value) : List Value := L.take j ++ vs ++ L.drop (j + vs.length)
theorem setL_len {L : List Value} {j : Nat} {vs : List Value} (hj : j + vs.length ≤ L.length) : (setL L j vs).length = L.length := by unfold setL; simp; omega
theorem setL_at {L : List Value} {j : Nat} {vs : List Value} (hj : j + vs.length ≤ L.length) (i : Nat) : (setL L j vs)[i]? = if j ≤ i ∧ i < j + vs.length then vs[i - j]? else L[i]? := by
  unfold setL
  have hz : (L.take j).length = j := by rw [List.length_take]; omega
  rw [List.append_assoc]
  by_cases h1 : i < j
  · rw [List.getElem?_append_left (by omega), List.getElem?_take, if_pos h1, if_neg (by omega)]
  · rw [List.getElem?_append_right (by omega), hz]
    by_cases h2 : i < j + vs.length
    · rw [List.getElem?_append_left (by omega), if_pos (by omega)]
    · rw [List.getElem?_append_right (by omega), if_neg (by omega), List.getElem?_drop]
      congr 1; omega
theorem setL_one {L : List Value} {j : Nat} (v : Value) (hj : j < L.length) : setL L j [v] = L.set j v := by
  apply List.ext_getElem?
  intro i
  rw [setL_at (by simp; omega), List.getElem?_set]
  by_cases e : j = i
  · subst e; simp [hj]
  · rw [if_neg e, if_neg (by simp; omega)]
theorem pv_store {w w' : World} {G o j : Nat} {L : List Value} {vs : List Value} {C : Array Value} {T : TypeId} (h0 : w.heap[G]? = some (.cells C T (0, 0))) (hl : L.length = 89) (he : (C.toList.drop o).take 89 = L) (hj : j + vs.length ≤ 89)
    (hr : w'.heap[G]? = some (.cells (C.toList.take (o + j) ++ vs ++ C.toList.drop (o + j + vs.length)).toArray T (0, 0))) (hm : Mut (fun n => n = G) w w') : Pv w' G o (setL L j vs) ∧ Pm G o w w' := by
  have hCs : o + 89 ≤ C.size := by rw [← he] at hl; simp at hl; omega
  have at_ : ∀ i, (C.toList.take (o + j) ++ vs ++ C.toList.drop (o + j + vs.length))[i]? = if o + j ≤ i ∧ i < o + j + vs.length then vs[i - (o + j)]? else C.toList[i]? := fun i => by
    have := setL_at (L := C.toList) (j := o + j) (vs := vs) (by simp; omega) i
    unfold setL at this
    exact this
  refine ⟨⟨_, T, hr, by rw [setL_len (by omega), hl], ?_⟩, hm, fun C0 T0 h1 => ?_⟩
  · apply List.ext_getElem?
    intro i
    rw [setL_at (by omega), ← he]
    by_cases hi : i < 89
    · rw [List.getElem?_take, if_pos hi, List.getElem?_drop]
      simp only []
      rw [at_, List.getElem?_take, if_pos hi, List.getElem?_drop]
      by_cases h2 : j ≤ i ∧ i < j + vs.length
      · rw [if_pos (by omega), if_pos h2]
        congr 1; omega
      · rw [if_neg (by omega), if_neg h2]
    · rw [List.getElem?_eq_none (by simp; omega), if_neg (by omega), List.getElem?_eq_none (by simp; omega)]
  · rw [h0] at h1
    cases h1
    refine ⟨_, hr, by simp; omega, fun i hi => ?_⟩
    rw [← Array.getElem?_toList, ← Array.getElem?_toList]
    simp only []
    rw [at_, if_neg (by omega)]
/-- A store into a port: the world behind it is a letter. -/
theorem st_pv {P : Program} {ops : Array Oper} {rest : List Oper} {op : Oper} {a : Act} {w : World} {Q : Exit → Act → World → Prop} (hgd : op.guard = none) (hdst : op.dst = none) (ty : TypeId) (x y : Operand) (ho : op.op = .store ty x y)
    (G o j : Nat) (L : List Value) (hp : Pv w G o L) (u : Value) (vs : Array Value) (hx : a.eval x = .pointer (some ⟨G, o + j, none⟩)) (hy : a.eval y = u) (hv : u.cells = vs) (hj : j + vs.size ≤ 89)
    (hi : (P.info? ty).map (·.size) = some vs.size) (h1 : vs.toList.all (·.oneCell') = true)
    (h : ∀ w', Pv w' G o (setL L j vs.toList) → Pm G o w w' → wpList P ops Q rest a w') : wpList P ops Q (op :: rest) a w := by
  obtain ⟨C, T, h0, hl, he⟩ := hp
  have hCs : o + 89 ≤ C.size := by rw [← he] at hl; simp at hl; omega
  refine st_at hgd hdst ty x y ho G (o + j) u vs C _ T hx hy hv h0 (by omega) hi h1 rfl (fun w' hr hm => ?_)
  obtain ⟨a1, a2⟩ := pv_store (vs := vs.toList) h0 hl he (by simpa using hj) (by simpa using hr) hm
  exact h w' a1 a2
theorem wp_st_pv {P : Program} {op : Oper} {a : Act} {w : World} {K : Act → World → Prop} {Q : Exit → Act → World → Prop} (hdst : op.dst = none) (ty : TypeId) (x y : Operand) (ho : op.op = .store ty x y)
    (G o j : Nat) (L : List Value) (hp : Pv w G o L) (u : Value) (vs : Array Value) (hx : a.eval x = .pointer (some ⟨G, o + j, none⟩)) (hy : a.eval y = u) (hv : u.cells = vs) (hj : j + vs.size ≤ 89)
    (hi : (P.info? ty).map (·.size) = some vs.size) (h1 : vs.toList.all (·.oneCell') = true)
    (h : ∀ w', Pv w' G o (setL L j vs.toList) → Pm G o w w' → K a w') : op.wp P a w K Q := by
  obtain ⟨C, T, h0, hl, he⟩ := hp
  have hCs : o + 89 ≤ C.size := by rw [← he] at hl; simp at hl; omega
  refine wp_st_at hdst ty x y ho G (o + j) u vs C _ T hx hy hv h0 (by omega) hi h1 rfl (fun w' hr hm => ?_)
  obtain ⟨a1, a2⟩ := pv_store (vs := vs.toList) h0 hl he (by simpa using hj) (by simpa using hr) hm
  exact h w' a1 a2
theorem BrG.pv {w : World} {F : Nat → Prop} {X g k : Nat} {B : Br} (h : BrG w F X g B) (hk : k < B.np) : Pv w g (k * 89) (port B.ps k) := by
  obtain ⟨h1, h2, cap, cur, s2, s3, a, b, c, d, e, f, rest⟩ := h
  have hle : (k + 1) * 89 ≤ B.np * 89 := Nat.mul_le_mul_right _ hk
  have hcap : B.np * 89 ≤ cap * 89 := Nat.mul_le_mul_right _ d
  refine ⟨cur, _, b, ?_, ?_⟩
  · rw [← f]; unfold port; simp; omega
  · rw [← f]
    unfold port
    rw [List.drop_take, List.take_take, Nat.min_eq_left (by omega)]
theorem BrG.pm {w w' : World} {F : Nat → Prop} {X g k : Nat} {B : Br} (h : BrG w F X g B) (hk : k < B.np) (hm : Pm g (k * 89) w w') {L : List Value} (hp : Pv w' g (k * 89) L) : BrG w' F X g (B.setPort k L) := by
  have hlt := h.lt
  obtain ⟨h1, h2, cap, cur, s2, s3, a, b, c, d, e, f, p, q, r, s⟩ := h
  have hle : (k + 1) * 89 ≤ B.np * 89 := Nat.mul_le_mul_right _ hk
  have hcap : B.np * 89 ≤ cap * 89 := Nat.mul_le_mul_right _ d
  have hps : B.ps.length = B.np * 89 := by rw [← f]; simp; omega
  obtain ⟨C', hC', hs', he'⟩ := hm.2 _ _ b
  obtain ⟨C2, T2, g1, g2, g3⟩ := hp
  rw [hC'] at g1
  cases g1
  have own : ∀ {e : TypeId} {m n : Nat} {v : Value} {xs : List Value}, e ≠ 60 → w.ownsRow 0 e m v n xs → w'.ownsRow 0 e m v n xs := fun {e m n v xs} hne ho => by
    refine ⟨ho.1, ?_⟩
    rcases ho.2 with h0 | ⟨g3, c3, cu3, e1, e2, e3, rest⟩
    · exact .inl h0
    · refine .inr ⟨g3, c3, cu3, e1, e2, ?_, rest⟩
      have hgg : g3 ≠ g := fun e0 => by
        subst e0
        rw [b] at e3
        cases e3
        exact hne rfl
      exact hm.row e3 hgg
  refine ⟨h1, h2, cap, C', s2, s3, hm.row a hlt.2.2, hC', by omega, d, e, ?_, own (by decide) p, own (by decide) q, r, s⟩
  apply List.ext_getElem?
  intro i
  rw [setPort_at g2 (by omega), List.getElem?_take, show (B.setPort k L).np = B.np from rfl]
  by_cases hi : i < B.np * 89
  · rw [if_pos hi]
    by_cases h3 : k * 89 ≤ i ∧ i < k * 89 + 89
    · rw [if_pos h3, ← g3, List.getElem?_take, if_pos (by omega), List.getElem?_drop]
      congr 1; omega
    · rw [if_neg h3, Array.getElem?_toList, he' i (by omega), ← f, List.getElem?_take, if_pos hi, Array.getElem?_toList]
  · rw [if_neg hi, if_neg (by omega), List.getElem?_eq_none (by omega)]
theorem Pm.mutF {G o : Nat} {F : Nat → Prop} {a b : World} (h : Pm G o a b) (hG : F G) : Mut F a b := h.1.mono (fun n _ e => by have h2 : n = G := e; rw [h2]; exact hG)
def pI (L : List Value) (j : Nat) : Int := match L[j]? with | some (.int _ z) => z | _ => 0
def pB (L : List Value) (j : Nat) : Bool := match L[j]? with | some (.bool z) => z | _ => false
theorem tpB {L : List Value} (h : Typed PL L) (j : Nat) (hj : PL[j]? = some none) : L[j]? = some (.bool (pB L j)) := by
  obtain ⟨b, hb⟩ := h.bool j hj
  rw [hb, pB, hb]
theorem tpI {L : List Value} (h : Typed PL L) (j : Nat) {K : IntKind} (hj : PL[j]? = some (some K)) : L[j]? = some (.int K (pI L j)) := by
  obtain ⟨z, hz, _⟩ := h.int j K hj
  rw [hz, pI, hz]
theorem tpW {L : List Value} (h : Typed PL L) (j : Nat) {K : IntKind} (hj : PL[j]? = some (some K)) : (Lit.int K (pI L j)).wf = true := by
  obtain ⟨z, hz, hw⟩ := h.int j K hj
  rw [pI, hz]; exact hw
theorem tpL {L : List Value} (h : Typed PL L) : L.length = 89 := h.1
theorem Typed.setL {l : List (Option IntKind)} {L : List Value} (h : Typed l L) {j : Nat} {vs : List Value} (hj : j + vs.length ≤ l.length) (hv : Typed ((l.drop j).take vs.length) vs) : Typed l (setL L j vs) := by
  have hl := h.1
  refine ⟨by rw [setL_len (by omega), hl], fun i k hi => ?_⟩
  rw [setL_at (by omega)]
  by_cases e : j ≤ i ∧ i < j + vs.length
  · rw [if_pos e]
    refine hv.2 (i - j) k ?_
    rw [List.getElem?_take, if_pos (by omega), List.getElem?_drop, show j + (i - j) = i by omega]
    exact hi
  · rw [if_neg e]; exact h.2 i k hi
/-- A part of a port, cell by cell. -/
theorem seg_of {L l : List Value} {j : Nat} (hl : j + l.length ≤ L.length) (h : ∀ i, i < l.length → L[j + i]? = l[i]?) : (L.drop j).take l.length = l := by
  apply List.ext_getElem?
  intro i
  by_cases hi : i < l.length
  · rw [List.getElem?_take, if_pos hi, List.getElem?_drop, h i hi]
  · rw [List.getElem?_eq_none (by simp; omega), List.getElem?_eq_none (by omega)]
theorem len_set' {L : List Value} {j : Nat} {v : Value} (h : L.length = 89) : (L.set j v).length = 89 := by simpa using h
theorem get_same {L : List Value} {j : Nat} {v : Value} (h : L.length = 89) (hj : j < 89) : (L.set j v)[j]? = some v := by simp [h, hj]
theorem get_ne {L : List Value} {i j : Nat} {v : Value} (h : i ≠ j) : (L.set i v)[j]? = L[j]? := by simp [h]
theorem br_typed {B : Br} (ho : B.ok) {k : Nat} (hk : k < B.np) : Typed PL (port B.ps k) := ho.ps.2 k hk
end Go.Proofs.YtpanapepcbbagaaGreat
namespace Go.Proofs.YtpanapepcbbagaaGreat
open Go.RowKit Go.BigFrame Go.WideShapes Go.ChangeShapes Go.Deep
set_option linter.unusedVariables false
set_option linter.unusedSimpArgs false
theorem pv_one {w : World} {G o j : Nat} {L : List Value} {v : Value} (h : Pv w G o (setL L j [v])) (hl : L.length = 89) (hj : j < 89) : Pv w G o (L.set j v) := by
  rw [setL_one v (by omega)] at h
  exact h
theorem len_setL {L vs : List Value} {j : Nat} (h : L.length = 89) (hj : j + vs.length ≤ 89) : (setL L j vs).length = 89 := by rw [setL_len (by omega), h]
theorem seg_ne {L : List Value} {i j n : Nat} {v : Value} (h : i < j ∨ j + n ≤ i) : ((L.set i v).drop j).take n = (L.drop j).take n := by
  apply List.ext_getElem?
  intro m
  rw [List.getElem?_take, List.getElem?_take]
  split
  · rw [List.getElem?_drop, List.getElem?_drop, List.getElem?_set_ne (by omega)]
  · rfl
theorem at_box (T : TypeId) {P : Program} {ops : Array Oper} {rest : List Oper} {a : Act} {w : World} {Q : Exit → Act → World → Prop} {d : Option Tmp} {x : Operand} {ty : TypeId} {pos : String} {after : Array Edge}
    (h : wpList P ops Q ({ dst := d, op := .box T x, type := ty, pos := pos, after := after, guard := none } :: rest) a w) : wpList P ops Q ({ dst := d, op := .box T x, type := ty, pos := pos, after := after, guard := none } :: rest) a w := h
theorem bx_row {P : Program} {ops : Array Oper} {rest : List Oper} {op : Oper} {a : Act} {w : World} {Q : Exit → Act → World → Prop} (hgd : op.guard = none) (t : TypeId) (x : Operand) (ho : op.op = .box t x) (cells : Array Value) (hx : (a.eval x).cells = cells)
    (h : ∀ (X : Nat) (w' : World), w'.heap[X]? = some (.cells cells t (0, 0)) → w.heap.size = X → Ext w w' → wpList P ops Q rest (a.put op.dst (.pointer (some ⟨X, 0, none⟩))) w') : wpList P ops Q (op :: rest) a w := by
  subst hx
  refine wpList_plain hgd fun K hK => ?_
  unfold Oper.wp execOp
  simp only [ho, Sem.run_bind, Instr.box, newVar, newRow, run_newObj_alloc, Sem.run_pure, Result.andThen_ok]
  exact hK _ _ (h _ _ (heap_alloc_new _ _) rfl ((Ext.refl w).alloc _))
theorem tset_b {L : List Value} (h : Typed PL L) (j : Nat) (z : Bool) (hj : PL[j]? = some none) : Typed PL (L.set j (.bool z)) := h.set j _ (fun k hk => by rw [hj] at hk; cases hk; exact ⟨z, rfl⟩)
theorem tset_i {L : List Value} (h : Typed PL L) (j : Nat) (K : IntKind) (z : Int) (hj : PL[j]? = some (some K)) (hz : (Lit.int K z).wf = true) : Typed PL (L.set j (.int K z)) := h.set j _ (fun k hk => by rw [hj] at hk; cases hk; exact ⟨z, rfl, hz⟩)
end Go.Proofs.YtpanapepcbbagaaGreat
