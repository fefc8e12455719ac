/- Part 8 of what BridgeNew stands on. No statement is proved here. -/
import Derived.StillTailTactics
import Derived.Deep.Light
import Derived.Laws.BitsAllLaws
import Derived.Test.YtpanapepcbbagaaGreatBwg
namespace Go.Proofs.YtpanapepcbbagaaGreat
open Go.RowKit Go.BigFrame Go.WideShapes Go.ChangeShapes Go.Deep
set_option linter.unusedVariables false
set_option linter.unusedSimpArgs false
def el0 (B : Br) (k : Nat) : Bool := !B.gb k 32 || (!B.gb k 2 && !B.gb k 4)
def el1 (B : Br) (k : Nat) : Bool := (!B.gb k 2 && B.gb k 4) || ((B.gi k 6 == 0) && B.gb k 5 && B.gb k 45 && B.gb k 34)
set_option maxHeartbeats 1000000 in
theorem edge_leaves (p : List Value) (en ad au oe pr sr : Bool) (ed : Int) (w : World) (p2 : p[2]? = some (.bool en)) (p4 : p[4]? = some (.bool ad)) (p5 : p[5]? = some (.bool au)) (p6 : p[6]? = some (.int .i64 ed)) (p32 : p[32]? = some (.bool oe)) (p34 : p[34]? = some (.bool pr)) (p45 : p[45]? = some (.bool sr)) :
    Calls Tryz.prog 53 #[.agg p.toArray] w fun e w' => e = .returned (.agg #[.bool (!oe || (!en && !ad)), .bool ((!en && ad) || ((ed == 0) && au && sr && pr))]) ∧ Ext w w' := by
  obtain ⟨z, hz⟩ : ∃ z : Bool, (ed == 0) = z := ⟨_, rfl⟩
  rw [hz]
  obtain ⟨x0, h0⟩ : ∃ x, (!oe || (!en && !ad)) = x := ⟨_, rfl⟩
  obtain ⟨x1, h1⟩ : ∃ x, ((!en && ad) || (z && au && sr && pr)) = x := ⟨_, rfl⟩
  rw [h0, h1]
  go_enter Tryz.func53, Tryz.ntmps53
  go_wp2_with fail
  all_goals
    refine bodyPost_ret (v := .agg #[.bool x0, .bool x1]) ?_ rfl ⟨rfl, ((Ext.refl w).alloc _).alloc _⟩
    subst h0
    subst h1
    clear hz
    simp [results, Tryz.results53, go_sem, *]
theorem edge_ix0 (a b : Bool) (w : World) : (Instr.index 106 (.agg #[.bool a, .bool b]) (.int .i64 0)).run Tryz.prog w = .ok (.bool a) w := by kernel_rfl
theorem edge_ix1 (a b : Bool) (w : World) : (Instr.index 106 (.agg #[.bool a, .bool b]) (.int .i64 1)).run Tryz.prog w = .ok (.bool b) w := by kernel_rfl
theorem edge_iy0 (w : World) : (Instr.index 108 (.agg #[.int .i64 1, .int .i64 0]) (.int .i64 0)).run Tryz.prog w = .ok (.int .i64 1) w := by kernel_rfl
theorem edge_iy1 (w : World) : (Instr.index 108 (.agg #[.int .i64 1, .int .i64 0]) (.int .i64 1)).run Tryz.prog w = .ok (.int .i64 0) w := by kernel_rfl
end Go.Proofs.YtpanapepcbbagaaGreat
namespace Go.Proofs.YtpanapepcbbagaaGreat
open Go.RowKit Go.BigFrame Go.WideShapes Go.ChangeShapes Go.Deep
set_option linter.unusedVariables false
set_option linter.unusedSimpArgs false
set_option maxRecDepth 100000 in
set_option maxHeartbeats 1000000 in
theorem edge_s0b (w : World) (F : Nat → Prop) (X g k : Nat) (B : Br) (h : BrG w F X g B) (ho : B.ok) (hk : k < B.np) (hk2 : k < 1000) (s0 : B.gi k 17 = 0) (v : el0 B k = false) :
    Calls Tryz.prog 39 #[.pointer (some ⟨X, 0, none⟩), .int .i64 k] w (Stepped w F X g (false, B)) := by
  obtain ⟨hX, hg, hne⟩ := h.lt
  obtain ⟨cap, c17, hc1, hc2⟩ := h.cell17 ho
  have hpr := Lib.hid (h.range hk)
  have hpt := Lib.hid (port_typed ho hk)
  have r2 := Lib.hid ((port_at (B := B) (k := k) (j := 2) (by decide)).trans (ho.gb hk 2 rfl))
  have r4 := Lib.hid ((port_at (B := B) (k := k) (j := 4) (by decide)).trans (ho.gb hk 4 rfl))
  have r5 := Lib.hid ((port_at (B := B) (k := k) (j := 5) (by decide)).trans (ho.gb hk 5 rfl))
  have r6 := Lib.hid ((port_at (B := B) (k := k) (j := 6) (by decide)).trans (ho.gi hk 6 rfl))
  have r32 := Lib.hid ((port_at (B := B) (k := k) (j := 32) (by decide)).trans (ho.gb hk 32 rfl))
  have r34 := Lib.hid ((port_at (B := B) (k := k) (j := 34) (by decide)).trans (ho.gb hk 34 rfl))
  have r45 := Lib.hid ((port_at (B := B) (k := k) (j := 45) (by decide)).trans (ho.gb hk 45 rfl))
  have p17 := (h.cellg (i := k * 89 + 17) (lt89 hk (by decide))).trans (ho.gi hk 17 rfl)
  have p32 := (h.cellg (i := k * 89 + 32) (lt89 hk (by decide))).trans (ho.gb hk 32 rfl)
  have hf := h.frozen
  have H := Lib.hid h
  clear h
  rw [s0] at p17
  clear s0
  have V := Lib.hid v
  clear v
  have hpz := Lib.hid (show (Tryz.prog.info? 60).map (·.size) = some (port B.ps k).length by rw [hpt.out.1]; exact size_port)
  go_enter Tryz.func39, Tryz.ntmps39
  go_wp2_with (first | fail | ((with_reducible refine at_loadG 60 ?_); refine wpList_load_midG rfl 60 _ rfl g (k * 89) rfl (port B.ps k) _ hpr.out Tryz.underlying60 rfl hpz.out ?_))
  refine (asv (v' := .agg #[.bool false, .bool (el1 B k)]) (edge_leaves (port B.ps k) _ _ _ _ _ _ _ w r2.out r4.out r5.out r6.out r32.out r34.out r45.out) (by rw [← V.out]; rfl)).mono ?_
  rintro e w1 ⟨rfl, hx1⟩
  have i0 := edge_ix0
  have i1 := edge_ix1
  have j0 := edge_iy0
  have j1 := edge_iy1
  have q17 := (hx1.cell (p := ⟨g, k * 89 + 17, none⟩) hg).trans p17
  have q32 := (hx1.cell (p := ⟨g, k * 89 + 32, none⟩) hg).trans p32
  have hf1 : ∀ j, w1.frozen? ⟨g, j, none⟩ = false := (H.out.ext hx1).frozen
  clear p17 p32 hf c17
  go_wp2_with fail
  go_ret
  exact ⟨rfl, H.out.ext hx1, hx1.mut F⟩
end Go.Proofs.YtpanapepcbbagaaGreat
namespace Go.Proofs.YtpanapepcbbagaaGreat
open Go.RowKit Go.BigFrame Go.WideShapes Go.ChangeShapes Go.Deep
set_option linter.unusedVariables false
set_option linter.unusedSimpArgs false
def MZ : Array Value := (ML.map zc).toArray
theorem zero_msg : ∀ w, (zeroValue 46).run Tryz.prog w = .ok (.agg MZ) w := (zero_of_info (P := Tryz.prog) (t := 46) (v := .agg MZ) (n := 17) (by kernel_rfl)).1
theorem better_any (r c b p x r' c' b' p' x' : Int) (w : World) : Calls Tryz.prog 139 #[.agg #[.int .u64 r, .int .u32 c, .int .u64 b, .int .u16 p, .int .u16 x], .agg #[.int .u64 r', .int .u32 c', .int .u64 b', .int .u16 p', .int .u16 x']] w fun e w' => e = .returned (.bool (decide (c4 r c b p r' c' b' p' < 0))) ∧ Ext w w' := by
  have h5 : decide (c5 r c b p 0 r' c' b' p' 0 < 0) = decide (c4 r c b p r' c' b' p' < 0) := by
    rw [c5_c4]
    split
    · rename_i h; rw [h]; decide
    · rfl
  have H5 := Lib.hid h5
  clear h5
  go_enter Tryz.func139, Tryz.ntmps139
  go_wp2_with (first
    | fail
    | ((with_reducible refine at_box 30 ?_); refine bx_row rfl 30 _ rfl #[.int .u64 r, .int .u32 c, .int .u64 b, .int .u16 p, .int .u16 x] rfl ?_
       intro A0 z1 hq hs hx
       have E_z1 : Ext w z1 := hx
       have hA_z1 : z1.heap[A0]? = some (.cells #[.int .u64 r, .int .u32 c, .int .u64 b, .int .u16 p, .int .u16 x] 30 (0, 0)) := hq
       have hb_A0 : w.heap.size ≤ A0 := by omega
       clear hq hs hx)
    | ((with_reducible refine at_box 30 ?_); refine bx_row rfl 30 _ rfl #[.int .u64 r', .int .u32 c', .int .u64 b', .int .u16 p', .int .u16 x'] rfl ?_
       intro B0 z2 hq hs hx
       have E_z2 : Ext w z2 := E_z1.trans hx
       have hA_z2 : z2.heap[A0]? = some (.cells #[.int .u64 r, .int .u32 c, .int .u64 b, .int .u16 p, .int .u16 x] 30 (0, 0)) := (hx.block _ (heap_lt hA_z1)).trans hA_z1
       have hB_z2 : z2.heap[B0]? = some (.cells #[.int .u64 r', .int .u32 c', .int .u64 b', .int .u16 p', .int .u16 x'] 30 (0, 0)) := hq
       have hb_B0 : w.heap.size ≤ B0 := by have := E_z1.size; omega
       have hn_A0B0 : A0 ≠ B0 := by have := heap_lt hA_z1; omega
       clear hA_z1 E_z1
       clear hq hs hx)
    | ((with_reducible refine at_store 28 ?_); refine st_at rfl rfl 28 _ _ rfl A0 4 _ #[.int .u16 0] _ #[.int .u64 r, .int .u32 c, .int .u64 b, .int .u16 p, .int .u16 0] _ rfl rfl rfl hA_z2 (by exact (by decide : 4 + 1 ≤ 5)) (by kernel_rfl) rfl rfl ?_
       intro z3 hq hm
       have hA_z3 : z3.heap[A0]? = some (.cells #[.int .u64 r, .int .u32 c, .int .u64 b, .int .u16 p, .int .u16 0] 30 (0, 0)) := hq
       have hB_z3 : z3.heap[B0]? = some (.cells #[.int .u64 r', .int .u32 c', .int .u64 b', .int .u16 p', .int .u16 x'] 30 (0, 0)) := (hm.heap (heap_lt hB_z2) (show ¬ B0 = A0 by omega)).trans hB_z2
       have E_z3 : Ext w z3 := Ext.mutE E_z2 hm (fun n hn h => by have h2 : n = A0 := h; omega)
       clear hA_z2 hB_z2 E_z2
       clear hq hm)
    | ((with_reducible refine at_store 28 ?_); refine st_at rfl rfl 28 _ _ rfl B0 4 _ #[.int .u16 0] _ #[.int .u64 r', .int .u32 c', .int .u64 b', .int .u16 p', .int .u16 0] _ rfl rfl rfl hB_z3 (by exact (by decide : 4 + 1 ≤ 5)) (by kernel_rfl) rfl rfl ?_
       intro z4 hq hm
       have hB_z4 : z4.heap[B0]? = some (.cells #[.int .u64 r', .int .u32 c', .int .u64 b', .int .u16 p', .int .u16 0] 30 (0, 0)) := hq
       have hA_z4 : z4.heap[A0]? = some (.cells #[.int .u64 r, .int .u32 c, .int .u64 b, .int .u16 p, .int .u16 0] 30 (0, 0)) := (hm.heap (heap_lt hA_z3) (show ¬ A0 = B0 by omega)).trans hA_z3
       have E_z4 : Ext w z4 := Ext.mutE E_z3 hm (fun n hn h => by have h2 : n = B0 := h; omega)
       clear hA_z3 hB_z3 E_z3
       clear hq hm)
    | ((with_reducible refine at_load 30 ?_); refine wpList_load_row rfl 30 _ rfl A0 rfl 30 #[.int .u64 r, .int .u32 c, .int .u64 b, .int .u16 p, .int .u16 0] (0, 0) _ hA_z4 Tryz.underlying30 rfl (by kernel_rfl) ?_)
    | ((with_reducible refine at_load 30 ?_); refine wpList_load_row rfl 30 _ rfl B0 rfl 30 #[.int .u64 r', .int .u32 c', .int .u64 b', .int .u16 p', .int .u16 0] (0, 0) _ hB_z4 Tryz.underlying30 rfl (by kernel_rfl) ?_))
  refine (asb (vbetter_any _ _ _ _ _ _ _ _ _ _ _) H5.out).mono ?_
  rintro e z5 ⟨rfl, hx⟩
  have E_z5 : Ext w z5 := E_z4.trans hx
  have hA_z5 : z5.heap[A0]? = some (.cells #[.int .u64 r, .int .u32 c, .int .u64 b, .int .u16 p, .int .u16 0] 30 (0, 0)) := (hx.block _ (heap_lt hA_z4)).trans hA_z4
  have hB_z5 : z5.heap[B0]? = some (.cells #[.int .u64 r', .int .u32 c', .int .u64 b', .int .u16 p', .int .u16 0] 30 (0, 0)) := (hx.block _ (heap_lt hB_z4)).trans hB_z4
  clear hA_z4 hB_z4 E_z4
  clear hx
  go_wp2_with fail
  go_ret
  exact ⟨rfl, E_z5⟩
end Go.Proofs.YtpanapepcbbagaaGreat
