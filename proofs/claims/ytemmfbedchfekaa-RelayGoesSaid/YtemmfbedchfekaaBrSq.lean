/- Two like bridges are one: the contract of Same. No statement is proved here. -/
import Derived.Test.YtemmfbedchfekaaBrF
import Derived.Test.YtemmfbedchfekaaBrGq
import Derived.Deep.Draws
namespace Go.Proofs.Ytemmfbedchfekaa
open Go.RowKit Go.BigFrame Go.WideShapes Go.ChangeShapes Go.Deep
set_option linter.unusedVariables false
set_option linter.unusedSimpArgs false
set_option maxRecDepth 100000

section
variable {P : Program} {ops : Array Oper} {C : World → Prop} {Q : Act → Prop} {a : Act} {o : Oper} {rest : List Oper}

theorem wpQuiet_load_mid (hgd : o.guard = none) (ty : TypeId) (x : Operand) (ho : o.op = .load ty x) (b off : Nat) (hx : a.eval x = .pointer (some ⟨b, off, none⟩)) (cs : List Value) (d : TypeDesc)
    (hc : ∀ w, C w → w.rangeAt b off cs) (hu : P.underlying ty = some d) (hd : d.isRow = true) (hi : (P.info? ty).map (·.size) = some cs.length)
    (h : wpQuiet P ops C Q rest (a.put o.dst (.agg cs.toArray))) : wpQuiet P ops C Q (o :: rest) a :=
  BigFrame.wpQuiet_want (by simp [Region.wanted, hgd]) fun K hK => ⟨_, fun w hw => by
    unfold Oper.quietAt execOp
    simp only [ho, hx, Instr.loadAt, Instr.sureAddr, Sem.run_bind, Sem.run_pure, Result.andThen_ok, run_loadVar_mid w b off ty cs d (hc w hw) hu hd hi]
    exact ⟨rfl, rfl⟩, hK _ h⟩

theorem wpQuiet_neq (hgd : o.guard = none) (t : TypeId) (x y : Operand) (ho : o.op = .binOp .neq t x y t) (cs : List Value) (hx : a.eval x = .agg cs.toArray) (hy : a.eval y = .agg cs.toArray)
    {d : Nat} {fs : Array Field} {l : List (Option IntKind)} (hu : P.underlying t = some (.struct fs)) (hd : d ≤ 10000) (hl : lay P d t = some l) (ht : Typed l cs) (hm : P.eqGuardType P.depth t = false)
    (h : wpQuiet P ops C Q rest (a.put o.dst (.bool false))) : wpQuiet P ops C Q (o :: rest) a :=
  BigFrame.wpQuiet_want (by simp [Region.wanted, hgd]) fun K hK => ⟨_, fun w hw => by
    unfold Oper.quietAt execOp
    simp [ho, hx, hy, Sem.run_bind, run_eqGuard_agg, hm, run_neq_struct, eql_flat w hu hd hl ht]
    exact ⟨rfl, rfl⟩, hK _ h⟩

theorem wpQuiet_load_midG (hw : Region.wanted o (yielded ops a.tmps) = true) (ty : TypeId) (x : Operand) (ho : o.op = .load ty x) (b off : Nat) (hx : a.eval x = .pointer (some ⟨b, off, none⟩)) (cs : List Value) (d : TypeDesc)
    (hc : ∀ w, C w → w.rangeAt b off cs) (hu : P.underlying ty = some d) (hd : d.isRow = true) (hi : (P.info? ty).map (·.size) = some cs.length)
    (h : wpQuiet P ops C Q rest (a.put o.dst (.agg cs.toArray))) : wpQuiet P ops C Q (o :: rest) a :=
  BigFrame.wpQuiet_want hw fun K hK => ⟨_, fun w hw => by
    unfold Oper.quietAt execOp
    simp only [ho, hx, Instr.loadAt, Instr.sureAddr, Sem.run_bind, Sem.run_pure, Result.andThen_ok, run_loadVar_mid w b off ty cs d (hc w hw) hu hd hi]
    exact ⟨rfl, rfl⟩, hK _ h⟩

theorem wpQuiet_neqG (hw : Region.wanted o (yielded ops a.tmps) = true) (t : TypeId) (x y : Operand) (ho : o.op = .binOp .neq t x y t) (cs : List Value) (hx : a.eval x = .agg cs.toArray) (hy : a.eval y = .agg cs.toArray)
    {d : Nat} {fs : Array Field} {l : List (Option IntKind)} (hu : P.underlying t = some (.struct fs)) (hd : d ≤ 10000) (hl : lay P d t = some l) (ht : Typed l cs) (hm : P.eqGuardType P.depth t = false)
    (h : wpQuiet P ops C Q rest (a.put o.dst (.bool false))) : wpQuiet P ops C Q (o :: rest) a :=
  BigFrame.wpQuiet_want hw fun K hK => ⟨_, fun w hw => by
    unfold Oper.quietAt execOp
    simp [ho, hx, hy, Sem.run_bind, run_eqGuard_agg, hm, run_neq_struct, eql_flat w hu hd hl ht]
    exact ⟨rfl, rfl⟩, hK _ h⟩

end

theorem range_drewN {w : World} {b off : Nat} {xs : List Value} (h : w.rangeAt b off xs) : ∀ w', (∃ n, w' = w.drewN n) → w'.rangeAt b off xs := fun w' ⟨n, e⟩ j v hv => by
  rw [e, World.cell?_drewN]
  exact h j v hv

/-- A part of a row. -/
def piece (m : Nat) (xs : List Value) (i : Nat) : List Value := (xs.drop (i * m)).take m
theorem piece_range {w : World} {b off m : Nat} {xs : List Value} (h : w.rangeAt b off xs) (i : Nat) : w.rangeAt b (off + i * m) (piece m xs i) := fun j v hv => by
  unfold piece at hv
  rw [List.getElem?_take] at hv
  split at hv
  · rw [List.getElem?_drop] at hv
    have := h _ _ hv
    rwa [← Nat.add_assoc] at this
  · cases hv
theorem size_sent : (Try.prog.info? 99).map (·.size) = some 18 := by kernel_rfl
theorem guard_port : Try.prog.eqGuardType Try.prog.depth 69 = false := by kernel_rfl
theorem guard_sent : Try.prog.eqGuardType Try.prog.depth 99 = false := by kernel_rfl

set_option maxRecDepth 100000 in
set_option maxHeartbeats 12000000 in
theorem same_any (c c' : Array Value) (B : Br) (w : World) (hb : BrC w c B) (hb' : BrC w c' B) (ho : B.ok) :
    Calls Try.prog 20 #[.agg c, .agg c'] w fun e w' => e = .returned (.bool true) ∧ Ext w w' := by
  obtain ⟨s1, s2, s3, hz, hhd, c17, c18, c19, r1, r2, r3⟩ := hb.facts ho.hd.1
  obtain ⟨s1', s2', s3', hz', hhd', c17', c18', c19', r1', r2', r3'⟩ := hb'.facts ho.hd.1
  obtain ⟨a1, k1, rfl, m1, f1⟩ := r1.form
  obtain ⟨a2, k2, rfl, m2, f2⟩ := r2.form
  obtain ⟨a3, k3, rfl, m3, f3⟩ := r3.form
  obtain ⟨a1', k1', rfl, -, f1'⟩ := r1'.form
  obtain ⟨a2', k2', rfl, -, f2'⟩ := r2'.form
  obtain ⟨a3', k3', rfl, -, f3'⟩ := r3'.form
  obtain ⟨x0, h0, -⟩ := ho.hd.int 0 .u64 rfl
  obtain ⟨x1, h1⟩ := ho.hd.bool 1 rfl
  obtain ⟨x2, h2, -⟩ := ho.hd.int 2 .i64 rfl
  obtain ⟨x3, h3, -⟩ := ho.hd.int 3 .i64 rfl
  obtain ⟨x4, h4, -⟩ := ho.hd.int 4 .i64 rfl
  obtain ⟨x5, h5, -⟩ := ho.hd.int 5 .i64 rfl
  obtain ⟨x6, h6, -⟩ := ho.hd.int 6 .i64 rfl
  obtain ⟨x7, h7, -⟩ := ho.hd.int 7 .u64 rfl
  obtain ⟨x8, h8, -⟩ := ho.hd.int 8 .u32 rfl
  obtain ⟨x9, h9, -⟩ := ho.hd.int 9 .u64 rfl
  obtain ⟨x10, h10, -⟩ := ho.hd.int 10 .u16 rfl
  obtain ⟨x11, h11, -⟩ := ho.hd.int 11 .u16 rfl
  obtain ⟨x12, h12, -⟩ := ho.hd.int 12 .i64 rfl
  obtain ⟨x13, h13, -⟩ := ho.hd.int 13 .i64 rfl
  obtain ⟨x14, h14, -⟩ := ho.hd.int 14 .i64 rfl
  obtain ⟨x15, h15, -⟩ := ho.hd.int 15 .i64 rfl
  obtain ⟨x16, h16, -⟩ := ho.hd.int 16 .i64 rfl
  have h0' := h0
  have h1' := h1
  have h2' := h2
  have h3' := h3
  have h4' := h4
  have h5' := h5
  have h6' := h6
  have h7' := h7
  have h8' := h8
  have h9' := h9
  have h10' := h10
  have h11' := h11
  have h12' := h12
  have h13' := h13
  have h14' := h14
  have h15' := h15
  have h16' := h16
  rw [← hhd _ (by decide)] at h0
  rw [← hhd' _ (by decide)] at h0'
  rw [← hhd _ (by decide)] at h1
  rw [← hhd' _ (by decide)] at h1'
  rw [← hhd _ (by decide)] at h2
  rw [← hhd' _ (by decide)] at h2'
  rw [← hhd _ (by decide)] at h3
  rw [← hhd' _ (by decide)] at h3'
  rw [← hhd _ (by decide)] at h4
  rw [← hhd' _ (by decide)] at h4'
  rw [← hhd _ (by decide)] at h5
  rw [← hhd' _ (by decide)] at h5'
  rw [← hhd _ (by decide)] at h6
  rw [← hhd' _ (by decide)] at h6'
  rw [← hhd _ (by decide)] at h7
  rw [← hhd' _ (by decide)] at h7'
  rw [← hhd _ (by decide)] at h8
  rw [← hhd' _ (by decide)] at h8'
  rw [← hhd _ (by decide)] at h9
  rw [← hhd' _ (by decide)] at h9'
  rw [← hhd _ (by decide)] at h10
  rw [← hhd' _ (by decide)] at h10'
  rw [← hhd _ (by decide)] at h11
  rw [← hhd' _ (by decide)] at h11'
  rw [← hhd _ (by decide)] at h12
  rw [← hhd' _ (by decide)] at h12'
  rw [← hhd _ (by decide)] at h13
  rw [← hhd' _ (by decide)] at h13'
  rw [← hhd _ (by decide)] at h14
  rw [← hhd' _ (by decide)] at h14'
  rw [← hhd _ (by decide)] at h15
  rw [← hhd' _ (by decide)] at h15'
  rw [← hhd _ (by decide)] at h16
  rw [← hhd' _ (by decide)] at h16'
  have F1 := Lib.hid f1
  have F2 := Lib.hid f2
  have F3 := Lib.hid f3
  have F1' := Lib.hid f1'
  have F2' := Lib.hid f2'
  have F3' := Lib.hid f3'
  clear hz hz' hhd hhd' hb hb' r1 r2 r3 r1' r2' r3' f1 f2 f3 f1' f2' f3'
  have hx0 := Lib.hid (show ∀ wr, Ext ((w.alloc (.cells c 33)).alloc (.cells c' 33)) wr → Ext w wr ∧ (∀ j, wr.cell? ⟨w.heap.size, j, none⟩ = c[j]?) ∧ (∀ j, wr.cell? ⟨w.heap.size + 1, j, none⟩ = c'[j]?) from
    fun wr hx => ⟨(((Ext.refl w).alloc _).alloc _).trans hx, fun j => (hx.cell (by simp; omega)).trans ((World.cell?_alloc_past _ _ _ (by simp)).trans (World.cell?_alloc_at _ _ _ _ rfl)), fun j => (hx.cell (by simp)).trans (World.cell?_alloc_at _ _ _ _ (by simp))⟩)
  go_enter Try.func20, Try.ntmps20
  go_wp2
  clear h0 h0' h1 h1' h2 h2' h3 h3' h4 h4' h5 h5' h6 h6' h7 h7' h8 h8' h9 h9' h10 h10' h11 h11' h12 h12' h13 h13' h14 h14' h15 h15' h16 h16'
  go_loopw [5] (fun i wr => ∃ j : Nat, j ≤ B.np ∧ i = .int .i64 j ∧ Ext ((w.alloc (.cells c 33)).alloc (.cells c' 33)) wr) (fun i _ => B.np - (intOf i).toNat)
  case atStart => exact ⟨0, by omega, rfl, Ext.refl _⟩
  case round =>
    obtain ⟨j, hj, rfl, hx5⟩ := hrel
    obtain ⟨hw5, hb1, hb2⟩ := hx0.out _ hx5
    by_cases hlt : j < B.np
    · obtain ⟨b, off, rfl, hb, hlc, hcm, hc⟩ := F1.out (by omega)
      obtain ⟨b', off', rfl, hb', hlc', hcm', hc'⟩ := F1'.out (by omega)
      have hp := Lib.hid (piece_range (m := 89) (rangeAt_ext hc hw5 hb) j)
      have hp' := Lib.hid (piece_range (m := 89) (rangeAt_ext hc' hw5 hb') j)
      have ht := Lib.hid (ho.ps.2 j hlt)
      have hz : Hid ((Try.prog.info? 69).map (·.size) = some (piece 89 B.ps j).length) := Lib.hid (by show _ = some ((B.ps.drop (j * 89)).take 89).length; rw [show ((B.ps.drop (j * 89)).take 89).length = 89 from ht.out.1]; exact size_port)
      clear hc hc'
      go_wp2
      refine wp_region_quiet_lit (by kernel_rfl) (by kernel_rfl) ?_
      iterate 4 (go_big_quiet_step (fail))
      refine wpQuiet_load_mid rfl 69 _ rfl b (off + j * 89) rfl (piece 89 B.ps j) _ (range_drewN hp.out) Try.underlying69 rfl hz.out ?_
      simp only [Act.put, List.setIfInBounds_toArray, List.set_cons_succ, List.set_cons_zero]
      iterate 4 (go_big_quiet_step (fail))
      refine wpQuiet_load_mid rfl 69 _ rfl b' (off' + j * 89) rfl (piece 89 B.ps j) _ (range_drewN hp'.out) Try.underlying69 rfl hz.out ?_
      simp only [Act.put, List.setIfInBounds_toArray, List.set_cons_succ, List.set_cons_zero]
      refine wpQuiet_neq rfl 69 _ _ rfl (piece 89 B.ps j) rfl rfl Try.underlying69 (by decide) lay_port ht.out guard_port ?_
      refine wpQuiet_nil ?_
      intro _ hw'
      obtain ⟨nq, hw''⟩ := hw'
      subst hw''
      go_wp2
      go_roundw
      case rel => exact ⟨j + 1, by omega, by go_num, hx5.drewN _⟩
      case measure => simp [intOf]; omega
    · go_wp2
      clear hj hlt hb1 hb2
      go_loopw [6] (fun i wr => ∃ j : Nat, j ≤ B.no ∧ i = .int .i64 j ∧ Ext ((w.alloc (.cells c 33)).alloc (.cells c' 33)) wr) (fun i _ => B.no - (intOf i).toNat)
      case atStart => exact ⟨0, by omega, rfl, hx5⟩
      case round =>
        obtain ⟨j, hj, rfl, hx6⟩ := hrel
        obtain ⟨hw6, hb1, hb2⟩ := hx0.out _ hx6
        by_cases hlt : j < B.no
        · obtain ⟨b, off, rfl, hb, hlc, hcm, hc⟩ := F2.out (by omega)
          obtain ⟨b', off', rfl, hb', hlc', hcm', hc'⟩ := F2'.out (by omega)
          have hp := Lib.hid (piece_range (m := 18) (rangeAt_ext hc hw6 hb) j)
          have hp' := Lib.hid (piece_range (m := 18) (rangeAt_ext hc' hw6 hb') j)
          have ht := Lib.hid (ho.os.2 j hlt)
          have hz : Hid ((Try.prog.info? 99).map (·.size) = some (piece 18 B.os j).length) := Lib.hid (by show _ = some ((B.os.drop (j * 18)).take 18).length; rw [show ((B.os.drop (j * 18)).take 18).length = 18 from ht.out.1]; exact size_sent)
          clear hc hc'
          go_wp2
          refine wp_region_quiet_lit (by kernel_rfl) (by kernel_rfl) ?_
          iterate 4 (go_big_quiet_step (fail))
          refine wpQuiet_load_mid rfl 99 _ rfl b (off + j * 18) rfl (piece 18 B.os j) _ (range_drewN hp.out) Try.underlying99 rfl hz.out ?_
          simp only [Act.put, List.setIfInBounds_toArray, List.set_cons_succ, List.set_cons_zero]
          iterate 4 (go_big_quiet_step (fail))
          refine wpQuiet_load_mid rfl 99 _ rfl b' (off' + j * 18) rfl (piece 18 B.os j) _ (range_drewN hp'.out) Try.underlying99 rfl hz.out ?_
          simp only [Act.put, List.setIfInBounds_toArray, List.set_cons_succ, List.set_cons_zero]
          refine wpQuiet_neq rfl 99 _ _ rfl (piece 18 B.os j) rfl rfl Try.underlying99 (by decide) lay_sent ht.out guard_sent ?_
          refine wpQuiet_nil ?_
          intro _ hw'
          obtain ⟨nq, hw''⟩ := hw'
          subst hw''
          go_wp2
          go_roundw
          case rel => exact ⟨j + 1, by omega, by go_num, hx6.drewN _⟩
          case measure => simp [intOf]; omega
        · go_wp2
          clear hj hlt hb1 hb2
          go_loopw [7] (fun i wr => ∃ j : Nat, j ≤ B.nf ∧ i = .int .i64 j ∧ Ext ((w.alloc (.cells c 33)).alloc (.cells c' 33)) wr) (fun i _ => B.nf - (intOf i).toNat)
          case atStart => exact ⟨0, by omega, rfl, hx6⟩
          case round =>
            obtain ⟨j, hj, rfl, hx7⟩ := hrel
            obtain ⟨hw7, hb1, hb2⟩ := hx0.out _ hx7
            by_cases hlt : j < B.nf
            · obtain ⟨b, off, rfl, hb, hlc, hcm, hc⟩ := F3.out (by omega)
              obtain ⟨b', off', rfl, hb', hlc', hcm', hc'⟩ := F3'.out (by omega)
              obtain ⟨z, hz, -⟩ := (ho.fl.2 j hlt).int 0 .i64 rfl
              have hz2 : B.fl[j]? = some (.int .i64 z) := by simpa [List.getElem?_take, List.getElem?_drop] using hz
              have hp := rangeAt_ext hc hw7 hb j _ hz2
              have hp' := rangeAt_ext hc' hw7 hb' j _ hz2
              clear hc hc' hz hz2
              go_wp2
              go_quiet (fail)
              go_wp2
              go_roundw
              case rel => exact ⟨j + 1, by omega, by go_num, hx7.drewN _⟩
              case measure => simp [intOf]; omega
            · go_wp2
              go_ret
              exact ⟨rfl, hw7⟩

end Go.Proofs.Ytemmfbedchfekaa
