/- What a byte of flags says, by the program; a vector and times out of a reader. No statement is proved here. -/
import Derived.Test.YtdfaagchlnkpnaaBpC
import Derived.Test.YtdfaagchlnkpnaaBox
namespace Go.Proofs.Ytdfaagchlnkpnaa
open Go.RowKit Go.BigFrame Go.WideShapes Go.ChangeShapes Go.Deep
set_option linter.unusedVariables false
set_option linter.unusedSimpArgs false

def MZ : Array Value := #[.int .i64 0, .bool false, .bool false, .bool false, .bool false, .bool false, .bool false, .int .i64 0, .int .u64 0, .int .u32 0, .int .u64 0, .int .u16 0, .int .u16 0, .int .i64 0, .int .i64 0, .int .i64 0, .int .i64 0]
theorem zero_msg : ∀ w, (zeroValue 30).run Try.prog w = .ok (.agg MZ) w := (zero_of_info (P := Try.prog) (t := 30) (v := .agg MZ) (n := 17) (by kernel_rfl)).1
def VZ : Array Value := #[.int .u64 0, .int .u32 0, .int .u64 0, .int .u16 0, .int .u16 0]
theorem zero_vec : ∀ w, (zeroValue 26).run Try.prog w = .ok (.agg VZ) w := (zero_of_info (P := Try.prog) (t := 26) (v := .agg VZ) (n := 5) (by kernel_rfl)).1
def TZ : Array Value := #[.int .i64 0, .int .i64 0, .int .i64 0, .int .i64 0]
theorem zero_times : ∀ w, (zeroValue 28).run Try.prog w = .ok (.agg TZ) w := (zero_of_info (P := Try.prog) (t := 28) (v := .agg TZ) (n := 4) (by kernel_rfl)).1
theorem row_range {w : World} {X : Nat} {cs : Array Value} {t : TypeId} (h : w.heap[X]? = some (.cells cs t (0, 0))) (o : Nat) {l : List Value} (hl : (cs.toList.drop o).take l.length = l) : w.rangeAt X o l := fun j v hv => by
  rw [cell_of_row _ _ _ _ _ _ h, ← Array.getElem?_toList]
  rw [← hl, List.getElem?_take] at hv
  split at hv
  · rwa [List.getElem?_drop] at hv
  · cases hv
set_option maxRecDepth 100000 in
set_option maxHeartbeats 1000000 in
theorem flagged_yes (kd n : Int) (hn : 0 ≤ n ∧ n < 18446744073709551616) (hkd : kd = 2) (w : World) : Calls Try.prog 42 #[.int .i64 kd, .int .u64 n] w fun e w' => e = .returned (.agg #[.int .i64 kd, .bool (isB n 1), .bool (isB n 128), .bool (isB n 2), .bool (isB n 64), .bool (isB n 16), .bool (isB n 32), .int .i64 (roB (bits .and .u64 (n / 4) 3)), .int .u64 0, .int .u32 0, .int .u64 0, .int .u16 0, .int .u16 0, .int .i64 0, .int .i64 0, .int .i64 0, .int .i64 0]) ∧ Ext w w' := by
  have hz := zero_msg
  have hk : (kd == 2) = true := by simpa using hkd
  have HK := Lib.hid hkd
  clear hkd
  go_enter Try.func42, Try.ntmps42
  go_wp2_with (first
    | fail
    | ((with_reducible refine at_alloc 30 ?_); refine al_zero rfl 30 rfl MZ zero_msg ?_
       intro R0 z1 hq hs hx
       have E_z1 : Ext w z1 := hx
       have hR_z1 : z1.heap[R0]? = some (.cells #[.int .i64 0, .bool false, .bool false, .bool false, .bool false, .bool false, .bool false, .int .i64 0, .int .u64 0, .int .u32 0, .int .u64 0, .int .u16 0, .int .u16 0, .int .i64 0, .int .i64 0, .int .i64 0, .int .i64 0] 30 (0, 0)) := hq
       have hb_R0 : w.heap.size ≤ R0 := by omega
       clear hq hs hx)
    | ((with_reducible refine at_alloc 30 ?_); refine al_zero rfl 30 rfl MZ zero_msg ?_
       intro X0 z2 hq hs hx
       have E_z2 : Ext w z2 := E_z1.trans hx
       have hR_z2 : z2.heap[R0]? = some (.cells #[.int .i64 0, .bool false, .bool false, .bool false, .bool false, .bool false, .bool false, .int .i64 0, .int .u64 0, .int .u32 0, .int .u64 0, .int .u16 0, .int .u16 0, .int .i64 0, .int .i64 0, .int .i64 0, .int .i64 0] 30 (0, 0)) := (hx.block _ (heap_lt hR_z1)).trans hR_z1
       have hX_z2 : z2.heap[X0]? = some (.cells #[.int .i64 0, .bool false, .bool false, .bool false, .bool false, .bool false, .bool false, .int .i64 0, .int .u64 0, .int .u32 0, .int .u64 0, .int .u16 0, .int .u16 0, .int .i64 0, .int .i64 0, .int .i64 0, .int .i64 0] 30 (0, 0)) := hq
       have hb_X0 : w.heap.size ≤ X0 := by have := E_z1.size; omega
       have hn_R0X0 : R0 ≠ X0 := by have := heap_lt hR_z1; omega
       clear hR_z1 E_z1
       clear hq hs hx)
    | ((with_reducible refine at_store 30 ?_); refine st_at rfl rfl 30 _ _ rfl X0 0 _ #[.int .i64 kd, .bool (isB n 1), .bool (isB n 128), .bool false, .bool false, .bool false, .bool false, .int .i64 4, .int .u64 0, .int .u32 0, .int .u64 0, .int .u16 0, .int .u16 0, .int .i64 0, .int .i64 0, .int .i64 0, .int .i64 0] _ #[.int .i64 kd, .bool (isB n 1), .bool (isB n 128), .bool false, .bool false, .bool false, .bool false, .int .i64 4, .int .u64 0, .int .u32 0, .int .u64 0, .int .u16 0, .int .u16 0, .int .i64 0, .int .i64 0, .int .i64 0, .int .i64 0] _ rfl rfl rfl hX_z2 (by exact (by decide : 0 + 17 ≤ 17)) (by kernel_rfl) rfl rfl ?_
       intro z3 hq hm
       have hX_z3 : z3.heap[X0]? = some (.cells #[.int .i64 kd, .bool (isB n 1), .bool (isB n 128), .bool false, .bool false, .bool false, .bool false, .int .i64 4, .int .u64 0, .int .u32 0, .int .u64 0, .int .u16 0, .int .u16 0, .int .i64 0, .int .i64 0, .int .i64 0, .int .i64 0] 30 (0, 0)) := hq
       have hR_z3 : z3.heap[R0]? = some (.cells #[.int .i64 0, .bool false, .bool false, .bool false, .bool false, .bool false, .bool false, .int .i64 0, .int .u64 0, .int .u32 0, .int .u64 0, .int .u16 0, .int .u16 0, .int .i64 0, .int .i64 0, .int .i64 0, .int .i64 0] 30 (0, 0)) := (hm.heap (heap_lt hR_z2) (show ¬ R0 = X0 by omega)).trans hR_z2
       have E_z3 : Ext w z3 := Ext.mutE E_z2 hm (fun n hn h => by have h2 : n = X0 := h; omega)
       clear hR_z2 hX_z2 E_z2
       clear hq hm)
    | ((with_reducible refine at_store 4 ?_); refine st_at rfl rfl 4 _ _ rfl X0 3 _ #[.bool (isB n 2)] _ #[.int .i64 kd, .bool (isB n 1), .bool (isB n 128), .bool (isB n 2), .bool false, .bool false, .bool false, .int .i64 4, .int .u64 0, .int .u32 0, .int .u64 0, .int .u16 0, .int .u16 0, .int .i64 0, .int .i64 0, .int .i64 0, .int .i64 0] _ rfl rfl rfl hX_z3 (by exact (by decide : 3 + 1 ≤ 17)) (by kernel_rfl) rfl rfl ?_
       intro z4 hq hm
       have hX_z4 : z4.heap[X0]? = some (.cells #[.int .i64 kd, .bool (isB n 1), .bool (isB n 128), .bool (isB n 2), .bool false, .bool false, .bool false, .int .i64 4, .int .u64 0, .int .u32 0, .int .u64 0, .int .u16 0, .int .u16 0, .int .i64 0, .int .i64 0, .int .i64 0, .int .i64 0] 30 (0, 0)) := hq
       have hR_z4 : z4.heap[R0]? = some (.cells #[.int .i64 0, .bool false, .bool false, .bool false, .bool false, .bool false, .bool false, .int .i64 0, .int .u64 0, .int .u32 0, .int .u64 0, .int .u16 0, .int .u16 0, .int .i64 0, .int .i64 0, .int .i64 0, .int .i64 0] 30 (0, 0)) := (hm.heap (heap_lt hR_z3) (show ¬ R0 = X0 by omega)).trans hR_z3
       have E_z4 : Ext w z4 := Ext.mutE E_z3 hm (fun n hn h => by have h2 : n = X0 := h; omega)
       clear hR_z3 hX_z3 E_z3
       clear hq hm)
    | ((with_reducible refine at_store 4 ?_); refine st_at rfl rfl 4 _ _ rfl X0 4 _ #[.bool (isB n 64)] _ #[.int .i64 kd, .bool (isB n 1), .bool (isB n 128), .bool (isB n 2), .bool (isB n 64), .bool false, .bool false, .int .i64 4, .int .u64 0, .int .u32 0, .int .u64 0, .int .u16 0, .int .u16 0, .int .i64 0, .int .i64 0, .int .i64 0, .int .i64 0] _ rfl rfl rfl hX_z4 (by exact (by decide : 4 + 1 ≤ 17)) (by kernel_rfl) rfl rfl ?_
       intro z5 hq hm
       have hX_z5 : z5.heap[X0]? = some (.cells #[.int .i64 kd, .bool (isB n 1), .bool (isB n 128), .bool (isB n 2), .bool (isB n 64), .bool false, .bool false, .int .i64 4, .int .u64 0, .int .u32 0, .int .u64 0, .int .u16 0, .int .u16 0, .int .i64 0, .int .i64 0, .int .i64 0, .int .i64 0] 30 (0, 0)) := hq
       have hR_z5 : z5.heap[R0]? = some (.cells #[.int .i64 0, .bool false, .bool false, .bool false, .bool false, .bool false, .bool false, .int .i64 0, .int .u64 0, .int .u32 0, .int .u64 0, .int .u16 0, .int .u16 0, .int .i64 0, .int .i64 0, .int .i64 0, .int .i64 0] 30 (0, 0)) := (hm.heap (heap_lt hR_z4) (show ¬ R0 = X0 by omega)).trans hR_z4
       have E_z5 : Ext w z5 := Ext.mutE E_z4 hm (fun n hn h => by have h2 : n = X0 := h; omega)
       clear hR_z4 hX_z4 E_z4
       clear hq hm)
    | ((with_reducible refine at_store 4 ?_); refine st_at rfl rfl 4 _ _ rfl X0 5 _ #[.bool (isB n 16)] _ #[.int .i64 kd, .bool (isB n 1), .bool (isB n 128), .bool (isB n 2), .bool (isB n 64), .bool (isB n 16), .bool false, .int .i64 4, .int .u64 0, .int .u32 0, .int .u64 0, .int .u16 0, .int .u16 0, .int .i64 0, .int .i64 0, .int .i64 0, .int .i64 0] _ rfl rfl rfl hX_z5 (by exact (by decide : 5 + 1 ≤ 17)) (by kernel_rfl) rfl rfl ?_
       intro z6 hq hm
       have hX_z6 : z6.heap[X0]? = some (.cells #[.int .i64 kd, .bool (isB n 1), .bool (isB n 128), .bool (isB n 2), .bool (isB n 64), .bool (isB n 16), .bool false, .int .i64 4, .int .u64 0, .int .u32 0, .int .u64 0, .int .u16 0, .int .u16 0, .int .i64 0, .int .i64 0, .int .i64 0, .int .i64 0] 30 (0, 0)) := hq
       have hR_z6 : z6.heap[R0]? = some (.cells #[.int .i64 0, .bool false, .bool false, .bool false, .bool false, .bool false, .bool false, .int .i64 0, .int .u64 0, .int .u32 0, .int .u64 0, .int .u16 0, .int .u16 0, .int .i64 0, .int .i64 0, .int .i64 0, .int .i64 0] 30 (0, 0)) := (hm.heap (heap_lt hR_z5) (show ¬ R0 = X0 by omega)).trans hR_z5
       have E_z6 : Ext w z6 := Ext.mutE E_z5 hm (fun n hn h => by have h2 : n = X0 := h; omega)
       clear hR_z5 hX_z5 E_z5
       clear hq hm)
    | ((with_reducible refine at_store 4 ?_); refine st_at rfl rfl 4 _ _ rfl X0 6 _ #[.bool (isB n 32)] _ #[.int .i64 kd, .bool (isB n 1), .bool (isB n 128), .bool (isB n 2), .bool (isB n 64), .bool (isB n 16), .bool (isB n 32), .int .i64 4, .int .u64 0, .int .u32 0, .int .u64 0, .int .u16 0, .int .u16 0, .int .i64 0, .int .i64 0, .int .i64 0, .int .i64 0] _ rfl rfl rfl hX_z6 (by exact (by decide : 6 + 1 ≤ 17)) (by kernel_rfl) rfl rfl ?_
       intro z7 hq hm
       have hX_z7 : z7.heap[X0]? = some (.cells #[.int .i64 kd, .bool (isB n 1), .bool (isB n 128), .bool (isB n 2), .bool (isB n 64), .bool (isB n 16), .bool (isB n 32), .int .i64 4, .int .u64 0, .int .u32 0, .int .u64 0, .int .u16 0, .int .u16 0, .int .i64 0, .int .i64 0, .int .i64 0, .int .i64 0] 30 (0, 0)) := hq
       have hR_z7 : z7.heap[R0]? = some (.cells #[.int .i64 0, .bool false, .bool false, .bool false, .bool false, .bool false, .bool false, .int .i64 0, .int .u64 0, .int .u32 0, .int .u64 0, .int .u16 0, .int .u16 0, .int .i64 0, .int .i64 0, .int .i64 0, .int .i64 0] 30 (0, 0)) := (hm.heap (heap_lt hR_z6) (show ¬ R0 = X0 by omega)).trans hR_z6
       have E_z7 : Ext w z7 := Ext.mutE E_z6 hm (fun n hn h => by have h2 : n = X0 := h; omega)
       clear hR_z6 hX_z6 E_z6
       clear hq hm))
  have hsh : (n / 4) = (n / 4) := rfl
  refine (rof_q (n / 4) _).mono ?_
  rintro e _ ⟨rfl, rfl⟩
  go_wp2_with (first
    | fail
    | ((with_reducible refine at_store 3 ?_); refine st_at rfl rfl 3 _ _ rfl X0 7 _ #[.int .i64 (roB (bits .and .u64 (n / 4) 3))] _ #[.int .i64 kd, .bool (isB n 1), .bool (isB n 128), .bool (isB n 2), .bool (isB n 64), .bool (isB n 16), .bool (isB n 32), .int .i64 (roB (bits .and .u64 (n / 4) 3)), .int .u64 0, .int .u32 0, .int .u64 0, .int .u16 0, .int .u16 0, .int .i64 0, .int .i64 0, .int .i64 0, .int .i64 0] _ rfl rfl rfl hX_z7 (by exact (by decide : 7 + 1 ≤ 17)) (by kernel_rfl) rfl rfl ?_
       intro z8 hq hm
       have hX_z8 : z8.heap[X0]? = some (.cells #[.int .i64 kd, .bool (isB n 1), .bool (isB n 128), .bool (isB n 2), .bool (isB n 64), .bool (isB n 16), .bool (isB n 32), .int .i64 (roB (bits .and .u64 (n / 4) 3)), .int .u64 0, .int .u32 0, .int .u64 0, .int .u16 0, .int .u16 0, .int .i64 0, .int .i64 0, .int .i64 0, .int .i64 0] 30 (0, 0)) := hq
       have hR_z8 : z8.heap[R0]? = some (.cells #[.int .i64 0, .bool false, .bool false, .bool false, .bool false, .bool false, .bool false, .int .i64 0, .int .u64 0, .int .u32 0, .int .u64 0, .int .u16 0, .int .u16 0, .int .i64 0, .int .i64 0, .int .i64 0, .int .i64 0] 30 (0, 0)) := (hm.heap (heap_lt hR_z7) (show ¬ R0 = X0 by omega)).trans hR_z7
       have E_z8 : Ext w z8 := Ext.mutE E_z7 hm (fun n hn h => by have h2 : n = X0 := h; omega)
       clear hR_z7 hX_z7 E_z7
       clear hq hm)
    | ((with_reducible refine at_load 30 ?_); refine wpList_load_row rfl 30 _ rfl X0 rfl 30 #[.int .i64 kd, .bool (isB n 1), .bool (isB n 128), .bool (isB n 2), .bool (isB n 64), .bool (isB n 16), .bool (isB n 32), .int .i64 (roB (bits .and .u64 (n / 4) 3)), .int .u64 0, .int .u32 0, .int .u64 0, .int .u16 0, .int .u16 0, .int .i64 0, .int .i64 0, .int .i64 0, .int .i64 0] (0, 0) _ hX_z8 Try.underlying30 rfl (by kernel_rfl) ?_)
    | ((with_reducible refine at_store 30 ?_); refine st_at rfl rfl 30 _ _ rfl R0 0 _ #[.int .i64 kd, .bool (isB n 1), .bool (isB n 128), .bool (isB n 2), .bool (isB n 64), .bool (isB n 16), .bool (isB n 32), .int .i64 (roB (bits .and .u64 (n / 4) 3)), .int .u64 0, .int .u32 0, .int .u64 0, .int .u16 0, .int .u16 0, .int .i64 0, .int .i64 0, .int .i64 0, .int .i64 0] _ #[.int .i64 kd, .bool (isB n 1), .bool (isB n 128), .bool (isB n 2), .bool (isB n 64), .bool (isB n 16), .bool (isB n 32), .int .i64 (roB (bits .and .u64 (n / 4) 3)), .int .u64 0, .int .u32 0, .int .u64 0, .int .u16 0, .int .u16 0, .int .i64 0, .int .i64 0, .int .i64 0, .int .i64 0] _ rfl rfl rfl hR_z8 (by exact (by decide : 0 + 17 ≤ 17)) (by kernel_rfl) rfl rfl ?_
       intro z9 hq hm
       have hR_z9 : z9.heap[R0]? = some (.cells #[.int .i64 kd, .bool (isB n 1), .bool (isB n 128), .bool (isB n 2), .bool (isB n 64), .bool (isB n 16), .bool (isB n 32), .int .i64 (roB (bits .and .u64 (n / 4) 3)), .int .u64 0, .int .u32 0, .int .u64 0, .int .u16 0, .int .u16 0, .int .i64 0, .int .i64 0, .int .i64 0, .int .i64 0] 30 (0, 0)) := hq
       have hX_z9 : z9.heap[X0]? = some (.cells #[.int .i64 kd, .bool (isB n 1), .bool (isB n 128), .bool (isB n 2), .bool (isB n 64), .bool (isB n 16), .bool (isB n 32), .int .i64 (roB (bits .and .u64 (n / 4) 3)), .int .u64 0, .int .u32 0, .int .u64 0, .int .u16 0, .int .u16 0, .int .i64 0, .int .i64 0, .int .i64 0, .int .i64 0] 30 (0, 0)) := (hm.heap (heap_lt hX_z8) (show ¬ X0 = R0 by omega)).trans hX_z8
       have E_z9 : Ext w z9 := Ext.mutE E_z8 hm (fun n hn h => by have h2 : n = R0 := h; omega)
       clear hR_z8 hX_z8 E_z8
       clear hq hm))
  refine bodyPost_ret (results_cell_row rfl _ _ _ _ _ (0, 0) _ rfl hR_z9 Try.underlying30 rfl (by kernel_rfl)) rfl ?_
  exact ⟨rfl, E_z9⟩
set_option maxRecDepth 100000 in
set_option maxHeartbeats 1000000 in
theorem flagged_no (kd n : Int) (hn : 0 ≤ n ∧ n < 18446744073709551616) (hkd : ¬ kd = 2) (w : World) : Calls Try.prog 42 #[.int .i64 kd, .int .u64 n] w fun e w' => e = .returned (.agg #[.int .i64 kd, .bool (isB n 1), .bool (isB n 128), .bool false, .bool false, .bool false, .bool false, .int .i64 4, .int .u64 0, .int .u32 0, .int .u64 0, .int .u16 0, .int .u16 0, .int .i64 0, .int .i64 0, .int .i64 0, .int .i64 0]) ∧ Ext w w' := by
  have hz := zero_msg
  have hk : (kd == 2) = false := by simpa using hkd
  have HK := Lib.hid hkd
  clear hkd
  go_enter Try.func42, Try.ntmps42
  go_wp2_with (first
    | fail
    | ((with_reducible refine at_alloc 30 ?_); refine al_zero rfl 30 rfl MZ zero_msg ?_
       intro R0 z1 hq hs hx
       have E_z1 : Ext w z1 := hx
       have hR_z1 : z1.heap[R0]? = some (.cells #[.int .i64 0, .bool false, .bool false, .bool false, .bool false, .bool false, .bool false, .int .i64 0, .int .u64 0, .int .u32 0, .int .u64 0, .int .u16 0, .int .u16 0, .int .i64 0, .int .i64 0, .int .i64 0, .int .i64 0] 30 (0, 0)) := hq
       have hb_R0 : w.heap.size ≤ R0 := by omega
       clear hq hs hx)
    | ((with_reducible refine at_alloc 30 ?_); refine al_zero rfl 30 rfl MZ zero_msg ?_
       intro X0 z2 hq hs hx
       have E_z2 : Ext w z2 := E_z1.trans hx
       have hR_z2 : z2.heap[R0]? = some (.cells #[.int .i64 0, .bool false, .bool false, .bool false, .bool false, .bool false, .bool false, .int .i64 0, .int .u64 0, .int .u32 0, .int .u64 0, .int .u16 0, .int .u16 0, .int .i64 0, .int .i64 0, .int .i64 0, .int .i64 0] 30 (0, 0)) := (hx.block _ (heap_lt hR_z1)).trans hR_z1
       have hX_z2 : z2.heap[X0]? = some (.cells #[.int .i64 0, .bool false, .bool false, .bool false, .bool false, .bool false, .bool false, .int .i64 0, .int .u64 0, .int .u32 0, .int .u64 0, .int .u16 0, .int .u16 0, .int .i64 0, .int .i64 0, .int .i64 0, .int .i64 0] 30 (0, 0)) := hq
       have hb_X0 : w.heap.size ≤ X0 := by have := E_z1.size; omega
       have hn_R0X0 : R0 ≠ X0 := by have := heap_lt hR_z1; omega
       clear hR_z1 E_z1
       clear hq hs hx)
    | ((with_reducible refine at_store 30 ?_); refine st_at rfl rfl 30 _ _ rfl X0 0 _ #[.int .i64 kd, .bool (isB n 1), .bool (isB n 128), .bool false, .bool false, .bool false, .bool false, .int .i64 4, .int .u64 0, .int .u32 0, .int .u64 0, .int .u16 0, .int .u16 0, .int .i64 0, .int .i64 0, .int .i64 0, .int .i64 0] _ #[.int .i64 kd, .bool (isB n 1), .bool (isB n 128), .bool false, .bool false, .bool false, .bool false, .int .i64 4, .int .u64 0, .int .u32 0, .int .u64 0, .int .u16 0, .int .u16 0, .int .i64 0, .int .i64 0, .int .i64 0, .int .i64 0] _ rfl rfl rfl hX_z2 (by exact (by decide : 0 + 17 ≤ 17)) (by kernel_rfl) rfl rfl ?_
       intro z3 hq hm
       have hX_z3 : z3.heap[X0]? = some (.cells #[.int .i64 kd, .bool (isB n 1), .bool (isB n 128), .bool false, .bool false, .bool false, .bool false, .int .i64 4, .int .u64 0, .int .u32 0, .int .u64 0, .int .u16 0, .int .u16 0, .int .i64 0, .int .i64 0, .int .i64 0, .int .i64 0] 30 (0, 0)) := hq
       have hR_z3 : z3.heap[R0]? = some (.cells #[.int .i64 0, .bool false, .bool false, .bool false, .bool false, .bool false, .bool false, .int .i64 0, .int .u64 0, .int .u32 0, .int .u64 0, .int .u16 0, .int .u16 0, .int .i64 0, .int .i64 0, .int .i64 0, .int .i64 0] 30 (0, 0)) := (hm.heap (heap_lt hR_z2) (show ¬ R0 = X0 by omega)).trans hR_z2
       have E_z3 : Ext w z3 := Ext.mutE E_z2 hm (fun n hn h => by have h2 : n = X0 := h; omega)
       clear hR_z2 hX_z2 E_z2
       clear hq hm)
    | ((with_reducible refine at_load 30 ?_); refine wpList_load_row rfl 30 _ rfl X0 rfl 30 #[.int .i64 kd, .bool (isB n 1), .bool (isB n 128), .bool false, .bool false, .bool false, .bool false, .int .i64 4, .int .u64 0, .int .u32 0, .int .u64 0, .int .u16 0, .int .u16 0, .int .i64 0, .int .i64 0, .int .i64 0, .int .i64 0] (0, 0) _ hX_z3 Try.underlying30 rfl (by kernel_rfl) ?_)
    | ((with_reducible refine at_store 30 ?_); refine st_at rfl rfl 30 _ _ rfl R0 0 _ #[.int .i64 kd, .bool (isB n 1), .bool (isB n 128), .bool false, .bool false, .bool false, .bool false, .int .i64 4, .int .u64 0, .int .u32 0, .int .u64 0, .int .u16 0, .int .u16 0, .int .i64 0, .int .i64 0, .int .i64 0, .int .i64 0] _ #[.int .i64 kd, .bool (isB n 1), .bool (isB n 128), .bool false, .bool false, .bool false, .bool false, .int .i64 4, .int .u64 0, .int .u32 0, .int .u64 0, .int .u16 0, .int .u16 0, .int .i64 0, .int .i64 0, .int .i64 0, .int .i64 0] _ rfl rfl rfl hR_z3 (by exact (by decide : 0 + 17 ≤ 17)) (by kernel_rfl) rfl rfl ?_
       intro z4 hq hm
       have hR_z4 : z4.heap[R0]? = some (.cells #[.int .i64 kd, .bool (isB n 1), .bool (isB n 128), .bool false, .bool false, .bool false, .bool false, .int .i64 4, .int .u64 0, .int .u32 0, .int .u64 0, .int .u16 0, .int .u16 0, .int .i64 0, .int .i64 0, .int .i64 0, .int .i64 0] 30 (0, 0)) := hq
       have hX_z4 : z4.heap[X0]? = some (.cells #[.int .i64 kd, .bool (isB n 1), .bool (isB n 128), .bool false, .bool false, .bool false, .bool false, .int .i64 4, .int .u64 0, .int .u32 0, .int .u64 0, .int .u16 0, .int .u16 0, .int .i64 0, .int .i64 0, .int .i64 0, .int .i64 0] 30 (0, 0)) := (hm.heap (heap_lt hX_z3) (show ¬ X0 = R0 by omega)).trans hX_z3
       have E_z4 : Ext w z4 := Ext.mutE E_z3 hm (fun n hn h => by have h2 : n = R0 := h; omega)
       clear hR_z3 hX_z3 E_z3
       clear hq hm))
  refine bodyPost_ret (results_cell_row rfl _ _ _ _ _ (0, 0) _ rfl hR_z4 Try.underlying30 rfl (by kernel_rfl)) rfl ?_
  exact ⟨rfl, E_z4⟩

theorem flagged_q (kd n : Int) (hn : 0 ≤ n ∧ n < 18446744073709551616) (w : World) : Calls Try.prog 42 #[.int .i64 kd, .int .u64 n] w fun e w' => e = .returned (.agg #[.int .i64 (flagged kd n).kd, .bool (flagged kd n).ch, .bool (flagged kd n).ak, .bool (flagged kd n).pr, .bool (flagged kd n).ag, .bool (flagged kd n).ln, .bool (flagged kd n).fw, .int .i64 (flagged kd n).ro, .int .u64 (flagged kd n).r, .int .u32 (flagged kd n).c, .int .u64 (flagged kd n).b, .int .u16 (flagged kd n).p, .int .u16 (flagged kd n).x, .int .i64 (flagged kd n).a, .int .i64 (flagged kd n).m, .int .i64 (flagged kd n).h, .int .i64 (flagged kd n).d]) ∧ Ext w w' := by
  by_cases h : kd = 2
  · refine (flagged_yes kd n hn h w).mono ?_
    rintro e w' ⟨rfl, hx⟩
    refine ⟨?_, hx⟩
    unfold flagged
    rw [if_pos h]
    rfl
  · refine (flagged_no kd n hn h w).mono ?_
    rintro e w' ⟨rfl, hx⟩
    refine ⟨?_, hx⟩
    unfold flagged
    rw [if_neg h]
    rfl
theorem results_crt {P : Program} {fn : Func} {p u : Tmp} {ty : TypeId} (h : fn.results = #[.cell p ty, .tmp u]) (tmps : Array Value) (w : World) (g : Nat) (t : TypeId) (cs : Array Value) (fr : Nat × Nat) (d : TypeDesc)
    (hp : tmps.getD p undef = .pointer (some ⟨g, 0, none⟩)) (hg : w.heap[g]? = some (.cells cs t fr))
    (hu : P.underlying ty = some d) (hd : (match d with | .struct _ | .array _ _ => true | _ => false) = true) (hi : (P.info? ty).map (·.size) = some cs.size) :
    (results fn tmps).run P w = .ok (.tuple #[.agg cs, tmps.getD u undef]) w := by
  rw [results_cell_tmp h]
  have hp' : tmps[p]?.getD undef = .pointer (some ⟨g, 0, none⟩) := by simpa using hp
  simp [hp', asAddr, run_loadVar_row w g t ty cs fr d hg hu hd hi, Result.andThen]
theorem mut_new {a b c : World} {F : Nat → Prop} {B : Nat} (h : Mut F a b) (m : Mut (fun n => n = B) b c) (hB : a.heap.size ≤ B) : Mut F a c :=
  ⟨m.1.trans h.1, m.2.1.trans h.2.1, m.2.2.1.trans h.2.2.1, Nat.le_trans h.2.2.2.1 m.2.2.2.1, fun k hk hf => (m.2.2.2.2 k (Nat.lt_of_lt_of_le hk h.2.2.2.1) (by omega)).trans (h.2.2.2.2 k hk hf)⟩
/-- A number out of a reader that has so many bytes. -/
theorem rd_mut {w w' : World} {N R B : Nat} {xs : List Int} {sh : Bool} (h : Rd w N R xs sh) (hm : Mut (fun n => n = B) w w') (hR : R < B) : Rd w' N R xs sh := by
  obtain ⟨⟨hr, hN⟩, c1, hf, hx, v, c0, hv⟩ := h
  have hblk : w'.heap[R]? = w.heap[R]? := hm.heap hr (by omega)
  refine ⟨⟨Nat.lt_of_lt_of_le hr hm.size, hN⟩, (hm.cell (p := ⟨R, 1, none⟩) hr (by show ¬ R = B; omega)).trans c1, fun o => ?_, hx, v, (hm.cell (p := ⟨R, 0, none⟩) hr (by show ¬ R = B; omega)).trans c0, ?_⟩
  · rw [World.frozen?_of_block (a := ⟨R, o, none⟩) hblk]; exact hf o
  · rcases hv with hv | ⟨b, off, cap, h1, h2, h3, h4, h5, h6, h7⟩
    · exact .inl hv
    · exact .inr ⟨b, off, cap, h1, h2, h3, h4, h5, Nat.lt_of_lt_of_le h6 hm.size, fun i hi => (hm.cell (p := ⟨b, off + i, none⟩) h6 (by show ¬ b = B; omega)).trans (h7 i hi)⟩
theorem take_n {N : Nat} (R : Nat) (xs : List Int) (k : Nat) (w : World) (h : Rd w N R xs false) (h0 : 1 ≤ k) (h8 : k ≤ 8) (hl : k ≤ xs.length) :
    Calls Try.prog 46 #[.pointer (some ⟨R, 0, none⟩), .int .i64 k] w fun e w' => e = .returned (.int .u64 (nu xs 0 k)) ∧ Rd w' N R (xs.drop k) false ∧ Mut (fun n => n = R) w w' := by
  refine (take_any R xs false k w h).mono ?_
  rintro e w' ⟨rfl, hr, hg⟩
  have hf : fitsK k = true := (fits_iff k).2 ⟨by omega, by omega⟩
  have e1 : tkV xs false k = nu xs 0 k := by
    unfold tkV nu
    rw [if_pos ⟨hf, rfl, by omega⟩, Int.toNat_natCast, List.drop_zero]
  have e2 : tkX xs false k = xs.drop k := by
    unfold tkX
    rw [if_pos ⟨hf, rfl⟩, if_pos (by omega), Int.toNat_natCast]
  have e3 : tkS xs false k = false := by
    unfold tkS
    rw [if_pos ⟨hf, rfl⟩]
    exact decide_eq_false (by omega)
  rw [e2, e3] at hr
  refine ⟨by rw [e1], hr, hg.os, hg.tape, hg.output, hg.size, fun j hj hne => hg.block j hj (fun e => hne (by simpa using e))⟩
theorem nu_drop (xs : List Int) (a i k : Nat) : nu (xs.drop a) i k = nu xs (a + i) k := by unfold nu; rw [List.drop_drop]
theorem nu_rg {xs : List Int} (hx : ∀ x ∈ xs, 0 ≤ x ∧ x < 256) (i k : Nat) : 0 ≤ nu xs i k ∧ nu xs i k < 256 ^ k := by
  have := num_rg ((xs.drop i).take k) (fun x h => hx x (List.mem_of_mem_drop (List.mem_of_mem_take h)))
  have hl : ((xs.drop i).take k).length ≤ k := by simp; omega
  have hp : (256 : Int) ^ ((xs.drop i).take k).length ≤ 256 ^ k := by
    have e : ∀ n : Nat, (256 : Int) ^ n = ((256 ^ n : Nat) : Int) := fun n => by
      induction n with
      | zero => rfl
      | succ n ih => rw [Int.pow_succ, ih, Nat.pow_succ]; omega
    have := Nat.pow_le_pow_right (show 0 < 256 by decide) hl
    rw [e, e]
    omega
  unfold nu
  omega
set_option maxRecDepth 100000 in
set_option maxHeartbeats 1000000 in
theorem tvec_q {N : Nat} (R : Nat) (xs : List Int) (w : World) (rd_w : Rd w N R xs false) (hl : 22 ≤ xs.length) : Calls Try.prog 48 #[.pointer (some ⟨R, 0, none⟩)] w fun e w' =>
    e = .returned (.agg #[.int .u64 (nu xs 0 8), .int .u32 (nu xs 8 4), .int .u64 (nu xs 12 8), .int .u16 (nu xs 20 2), .int .u16 0]) ∧ Rd w' N R (xs.drop 22) false ∧ Mut (fun n => n = R) w w' := by
  have hR := rd_w.1.1
  have hxs := rd_w.2.2.2.1
  have hz := zero_vec
  have c1 : IntKind.u32.wrap (nu xs 8 4) = nu xs 8 4 := by have := nu_rg hxs 8 4; rw [IntKind.wrap_u32]; omega
  have c2 : IntKind.u16.wrap (nu xs 20 2) = nu xs 20 2 := by have := nu_rg hxs 20 2; rw [IntKind.wrap_u16]; omega
  go_enter Try.func48, Try.ntmps48
  go_wp2_with (first
    | fail
    | ((with_reducible refine at_alloc 26 ?_); refine al_zero rfl 26 rfl VZ zero_vec ?_
       intro R0 z1 hq hs hx
       have E_z1 : Mut (fun n => n = R) w z1 := hx.mut _
       have rd_z1 : Rd z1 N R xs false := rd_ext rd_w hx
       have hR_z1 : z1.heap[R0]? = some (.cells #[.int .u64 0, .int .u32 0, .int .u64 0, .int .u16 0, .int .u16 0] 26 (0, 0)) := hq
       have hb_R0 : w.heap.size ≤ R0 := by omega
       clear rd_w
       clear hq hs hx)
    | ((with_reducible refine at_alloc 26 ?_); refine al_zero rfl 26 rfl VZ zero_vec ?_
       intro X0 z2 hq hs hx
       have E_z2 : Mut (fun n => n = R) w z2 := E_z1.trans (hx.mut _)
       have hR_z2 : z2.heap[R0]? = some (.cells #[.int .u64 0, .int .u32 0, .int .u64 0, .int .u16 0, .int .u16 0] 26 (0, 0)) := (hx.block _ (heap_lt hR_z1)).trans hR_z1
       have rd_z2 : Rd z2 N R xs false := rd_ext rd_z1 hx
       have hX_z2 : z2.heap[X0]? = some (.cells #[.int .u64 0, .int .u32 0, .int .u64 0, .int .u16 0, .int .u16 0] 26 (0, 0)) := hq
       have hb_X0 : w.heap.size ≤ X0 := by have := E_z1.size; omega
       have hn_R0X0 : R0 ≠ X0 := by have := heap_lt hR_z1; omega
       clear hR_z1 rd_z1 E_z1
       clear hq hs hx))
  refine (take_n R xs 8 _ rd_z2 (by decide) (by decide) (by first | omega | (simp only [List.length_drop]; omega))).mono ?_
  rintro e z3 ⟨rfl, nrd, hm⟩
  have hR_z3 : z3.heap[R0]? = some (.cells #[.int .u64 0, .int .u32 0, .int .u64 0, .int .u16 0, .int .u16 0] 26 (0, 0)) := (hm.heap (heap_lt hR_z2) (show ¬ R0 = R by omega)).trans hR_z2
  have hX_z3 : z3.heap[X0]? = some (.cells #[.int .u64 0, .int .u32 0, .int .u64 0, .int .u16 0, .int .u16 0] 26 (0, 0)) := (hm.heap (heap_lt hX_z2) (show ¬ X0 = R by omega)).trans hX_z2
  have rd_z3 : Rd z3 N R (xs.drop 8) false := by simpa only [List.drop_drop] using nrd
  have E_z3 : Mut (fun n => n = R) w z3 := Mut.trans E_z2 hm
  clear hR_z2 hX_z2 rd_z2 E_z2
  clear hm nrd
  go_wp2_with (first
    | fail
    | ((with_reducible refine at_store 22 ?_); refine st_at rfl rfl 22 _ _ rfl X0 0 _ #[.int .u64 (nu xs 0 8)] _ #[.int .u64 (nu xs 0 8), .int .u32 0, .int .u64 0, .int .u16 0, .int .u16 0] _ rfl rfl rfl hX_z3 (by exact (by decide : 0 + 1 ≤ 5)) (by kernel_rfl) rfl rfl ?_
       intro z4 hq hm
       have hX_z4 : z4.heap[X0]? = some (.cells #[.int .u64 (nu xs 0 8), .int .u32 0, .int .u64 0, .int .u16 0, .int .u16 0] 26 (0, 0)) := hq
       have hR_z4 : z4.heap[R0]? = some (.cells #[.int .u64 0, .int .u32 0, .int .u64 0, .int .u16 0, .int .u16 0] 26 (0, 0)) := (hm.heap (heap_lt hR_z3) (show ¬ R0 = X0 by omega)).trans hR_z3
       have E_z4 : Mut (fun n => n = R) w z4 := mut_new E_z3 hm (by omega)
       have rd_z4 : Rd z4 N R (xs.drop 8) false := rd_mut rd_z3 hm (by omega)
       clear hR_z3 hX_z3 rd_z3 E_z3
       clear hq hm))
  refine (take_n R (xs.drop 8) 4 _ rd_z4 (by decide) (by decide) (by first | omega | (simp only [List.length_drop]; omega))).mono ?_
  rintro e z5 ⟨rfl, nrd, hm⟩
  have hR_z5 : z5.heap[R0]? = some (.cells #[.int .u64 0, .int .u32 0, .int .u64 0, .int .u16 0, .int .u16 0] 26 (0, 0)) := (hm.heap (heap_lt hR_z4) (show ¬ R0 = R by omega)).trans hR_z4
  have hX_z5 : z5.heap[X0]? = some (.cells #[.int .u64 (nu xs 0 8), .int .u32 0, .int .u64 0, .int .u16 0, .int .u16 0] 26 (0, 0)) := (hm.heap (heap_lt hX_z4) (show ¬ X0 = R by omega)).trans hX_z4
  have rd_z5 : Rd z5 N R (xs.drop 12) false := by simpa only [List.drop_drop] using nrd
  have E_z5 : Mut (fun n => n = R) w z5 := Mut.trans E_z4 hm
  clear hR_z4 hX_z4 rd_z4 E_z4
  clear hm nrd
  rw [show nu (xs.drop 8) 0 4 = nu xs 8 4 from nu_drop xs 8 0 4]
  go_wp2_with (first
    | fail
    | ((with_reducible refine at_store 23 ?_); refine st_at rfl rfl 23 _ _ rfl X0 1 _ #[.int .u32 (nu xs 8 4)] _ #[.int .u64 (nu xs 0 8), .int .u32 (nu xs 8 4), .int .u64 0, .int .u16 0, .int .u16 0] _ rfl rfl rfl hX_z5 (by exact (by decide : 1 + 1 ≤ 5)) (by kernel_rfl) rfl rfl ?_
       intro z6 hq hm
       have hX_z6 : z6.heap[X0]? = some (.cells #[.int .u64 (nu xs 0 8), .int .u32 (nu xs 8 4), .int .u64 0, .int .u16 0, .int .u16 0] 26 (0, 0)) := hq
       have hR_z6 : z6.heap[R0]? = some (.cells #[.int .u64 0, .int .u32 0, .int .u64 0, .int .u16 0, .int .u16 0] 26 (0, 0)) := (hm.heap (heap_lt hR_z5) (show ¬ R0 = X0 by omega)).trans hR_z5
       have E_z6 : Mut (fun n => n = R) w z6 := mut_new E_z5 hm (by omega)
       have rd_z6 : Rd z6 N R (xs.drop 12) false := rd_mut rd_z5 hm (by omega)
       clear hR_z5 hX_z5 rd_z5 E_z5
       clear hq hm))
  refine (take_n R (xs.drop 12) 8 _ rd_z6 (by decide) (by decide) (by first | omega | (simp only [List.length_drop]; omega))).mono ?_
  rintro e z7 ⟨rfl, nrd, hm⟩
  have hR_z7 : z7.heap[R0]? = some (.cells #[.int .u64 0, .int .u32 0, .int .u64 0, .int .u16 0, .int .u16 0] 26 (0, 0)) := (hm.heap (heap_lt hR_z6) (show ¬ R0 = R by omega)).trans hR_z6
  have hX_z7 : z7.heap[X0]? = some (.cells #[.int .u64 (nu xs 0 8), .int .u32 (nu xs 8 4), .int .u64 0, .int .u16 0, .int .u16 0] 26 (0, 0)) := (hm.heap (heap_lt hX_z6) (show ¬ X0 = R by omega)).trans hX_z6
  have rd_z7 : Rd z7 N R (xs.drop 20) false := by simpa only [List.drop_drop] using nrd
  have E_z7 : Mut (fun n => n = R) w z7 := Mut.trans E_z6 hm
  clear hR_z6 hX_z6 rd_z6 E_z6
  clear hm nrd
  rw [show nu (xs.drop 12) 0 8 = nu xs 12 8 from nu_drop xs 12 0 8]
  go_wp2_with (first
    | fail
    | ((with_reducible refine at_store 22 ?_); refine st_at rfl rfl 22 _ _ rfl X0 2 _ #[.int .u64 (nu xs 12 8)] _ #[.int .u64 (nu xs 0 8), .int .u32 (nu xs 8 4), .int .u64 (nu xs 12 8), .int .u16 0, .int .u16 0] _ rfl rfl rfl hX_z7 (by exact (by decide : 2 + 1 ≤ 5)) (by kernel_rfl) rfl rfl ?_
       intro z8 hq hm
       have hX_z8 : z8.heap[X0]? = some (.cells #[.int .u64 (nu xs 0 8), .int .u32 (nu xs 8 4), .int .u64 (nu xs 12 8), .int .u16 0, .int .u16 0] 26 (0, 0)) := hq
       have hR_z8 : z8.heap[R0]? = some (.cells #[.int .u64 0, .int .u32 0, .int .u64 0, .int .u16 0, .int .u16 0] 26 (0, 0)) := (hm.heap (heap_lt hR_z7) (show ¬ R0 = X0 by omega)).trans hR_z7
       have E_z8 : Mut (fun n => n = R) w z8 := mut_new E_z7 hm (by omega)
       have rd_z8 : Rd z8 N R (xs.drop 20) false := rd_mut rd_z7 hm (by omega)
       clear hR_z7 hX_z7 rd_z7 E_z7
       clear hq hm))
  refine (take_n R (xs.drop 20) 2 _ rd_z8 (by decide) (by decide) (by first | omega | (simp only [List.length_drop]; omega))).mono ?_
  rintro e z9 ⟨rfl, nrd, hm⟩
  have hR_z9 : z9.heap[R0]? = some (.cells #[.int .u64 0, .int .u32 0, .int .u64 0, .int .u16 0, .int .u16 0] 26 (0, 0)) := (hm.heap (heap_lt hR_z8) (show ¬ R0 = R by omega)).trans hR_z8
  have hX_z9 : z9.heap[X0]? = some (.cells #[.int .u64 (nu xs 0 8), .int .u32 (nu xs 8 4), .int .u64 (nu xs 12 8), .int .u16 0, .int .u16 0] 26 (0, 0)) := (hm.heap (heap_lt hX_z8) (show ¬ X0 = R by omega)).trans hX_z8
  have rd_z9 : Rd z9 N R (xs.drop 22) false := by simpa only [List.drop_drop] using nrd
  have E_z9 : Mut (fun n => n = R) w z9 := Mut.trans E_z8 hm
  clear hR_z8 hX_z8 rd_z8 E_z8
  clear hm nrd
  rw [show nu (xs.drop 20) 0 2 = nu xs 20 2 from nu_drop xs 20 0 2]
  go_wp2_with (first
    | fail
    | ((with_reducible refine at_store 24 ?_); refine st_at rfl rfl 24 _ _ rfl X0 3 _ #[.int .u16 (nu xs 20 2)] _ #[.int .u64 (nu xs 0 8), .int .u32 (nu xs 8 4), .int .u64 (nu xs 12 8), .int .u16 (nu xs 20 2), .int .u16 0] _ rfl rfl rfl hX_z9 (by exact (by decide : 3 + 1 ≤ 5)) (by kernel_rfl) rfl rfl ?_
       intro z10 hq hm
       have hX_z10 : z10.heap[X0]? = some (.cells #[.int .u64 (nu xs 0 8), .int .u32 (nu xs 8 4), .int .u64 (nu xs 12 8), .int .u16 (nu xs 20 2), .int .u16 0] 26 (0, 0)) := hq
       have hR_z10 : z10.heap[R0]? = some (.cells #[.int .u64 0, .int .u32 0, .int .u64 0, .int .u16 0, .int .u16 0] 26 (0, 0)) := (hm.heap (heap_lt hR_z9) (show ¬ R0 = X0 by omega)).trans hR_z9
       have E_z10 : Mut (fun n => n = R) w z10 := mut_new E_z9 hm (by omega)
       have rd_z10 : Rd z10 N R (xs.drop 22) false := rd_mut rd_z9 hm (by omega)
       clear hR_z9 hX_z9 rd_z9 E_z9
       clear hq hm)
    | ((with_reducible refine at_load 26 ?_); refine wpList_load_row rfl 26 _ rfl X0 rfl 26 #[.int .u64 (nu xs 0 8), .int .u32 (nu xs 8 4), .int .u64 (nu xs 12 8), .int .u16 (nu xs 20 2), .int .u16 0] (0, 0) _ hX_z10 Try.underlying26 rfl (by kernel_rfl) ?_)
    | ((with_reducible refine at_store 26 ?_); refine st_at rfl rfl 26 _ _ rfl R0 0 _ #[.int .u64 (nu xs 0 8), .int .u32 (nu xs 8 4), .int .u64 (nu xs 12 8), .int .u16 (nu xs 20 2), .int .u16 0] _ #[.int .u64 (nu xs 0 8), .int .u32 (nu xs 8 4), .int .u64 (nu xs 12 8), .int .u16 (nu xs 20 2), .int .u16 0] _ rfl rfl rfl hR_z10 (by exact (by decide : 0 + 5 ≤ 5)) (by kernel_rfl) rfl rfl ?_
       intro z11 hq hm
       have hR_z11 : z11.heap[R0]? = some (.cells #[.int .u64 (nu xs 0 8), .int .u32 (nu xs 8 4), .int .u64 (nu xs 12 8), .int .u16 (nu xs 20 2), .int .u16 0] 26 (0, 0)) := hq
       have hX_z11 : z11.heap[X0]? = some (.cells #[.int .u64 (nu xs 0 8), .int .u32 (nu xs 8 4), .int .u64 (nu xs 12 8), .int .u16 (nu xs 20 2), .int .u16 0] 26 (0, 0)) := (hm.heap (heap_lt hX_z10) (show ¬ X0 = R0 by omega)).trans hX_z10
       have E_z11 : Mut (fun n => n = R) w z11 := mut_new E_z10 hm (by omega)
       have rd_z11 : Rd z11 N R (xs.drop 22) false := rd_mut rd_z10 hm (by omega)
       clear hR_z10 hX_z10 rd_z10 E_z10
       clear hq hm))
  refine bodyPost_ret (results_cell_row rfl _ _ _ _ _ (0, 0) _ rfl hR_z11 Try.underlying26 rfl (by kernel_rfl)) rfl ?_
  exact ⟨rfl, rd_z11, E_z11⟩
set_option maxRecDepth 100000 in
set_option maxHeartbeats 1000000 in
theorem ttimes_q {N : Nat} (R : Nat) (xs : List Int) (w : World) (rd_w : Rd w N R xs false) (hl : 8 ≤ xs.length) : Calls Try.prog 49 #[.pointer (some ⟨R, 0, none⟩)] w fun e w' =>
    e = .returned (.tuple #[.agg #[.int .i64 (fromV (nu xs 0 2)), .int .i64 (fromV (nu xs 2 2)), .int .i64 (fromV (nu xs 4 2)), .int .i64 (fromV (nu xs 6 2))], .bool (decide (nu xs 0 2 < nu xs 2 2))]) ∧ Rd w' N R (xs.drop 8) false ∧ Mut (fun n => n = R) w w' := by
  have hR := rd_w.1.1
  have hxs := rd_w.2.2.2.1
  have hz := zero_times
  have g := fun i => nu_rg hxs i 2
  have c0 : IntKind.u16.wrap (nu xs 0 2) = nu xs 0 2 := by have := g 0; rw [IntKind.wrap_u16]; omega
  have c2 : IntKind.u16.wrap (nu xs 2 2) = nu xs 2 2 := by have := g 2; rw [IntKind.wrap_u16]; omega
  have c4 : IntKind.u16.wrap (nu xs 4 2) = nu xs 4 2 := by have := g 4; rw [IntKind.wrap_u16]; omega
  have c6 : IntKind.u16.wrap (nu xs 6 2) = nu xs 6 2 := by have := g 6; rw [IntKind.wrap_u16]; omega
  have G := Lib.hid g
  clear g
  go_enter Try.func49, Try.ntmps49
  go_wp2_with (first
    | fail
    | ((with_reducible refine at_alloc 28 ?_); refine al_zero rfl 28 rfl TZ zero_times ?_
       intro R0 z1 hq hs hx
       have E_z1 : Mut (fun n => n = R) w z1 := hx.mut _
       have rd_z1 : Rd z1 N R xs false := rd_ext rd_w hx
       have hR_z1 : z1.heap[R0]? = some (.cells #[.int .i64 0, .int .i64 0, .int .i64 0, .int .i64 0] 28 (0, 0)) := hq
       have hb_R0 : w.heap.size ≤ R0 := by omega
       clear rd_w
       clear hq hs hx))
  refine (take_n R xs 2 _ rd_z1 (by decide) (by decide) (by first | omega | (simp only [List.length_drop]; omega))).mono ?_
  rintro e z2 ⟨rfl, nrd, hm⟩
  have hR_z2 : z2.heap[R0]? = some (.cells #[.int .i64 0, .int .i64 0, .int .i64 0, .int .i64 0] 28 (0, 0)) := (hm.heap (heap_lt hR_z1) (show ¬ R0 = R by omega)).trans hR_z1
  have rd_z2 : Rd z2 N R (xs.drop 2) false := by simpa only [List.drop_drop] using nrd
  have E_z2 : Mut (fun n => n = R) w z2 := Mut.trans E_z1 hm
  clear hR_z1 rd_z1 E_z1
  clear hm nrd
  go_wp2_with fail
  refine (take_n R (xs.drop 2) 2 _ rd_z2 (by decide) (by decide) (by first | omega | (simp only [List.length_drop]; omega))).mono ?_
  rintro e z3 ⟨rfl, nrd, hm⟩
  have hR_z3 : z3.heap[R0]? = some (.cells #[.int .i64 0, .int .i64 0, .int .i64 0, .int .i64 0] 28 (0, 0)) := (hm.heap (heap_lt hR_z2) (show ¬ R0 = R by omega)).trans hR_z2
  have rd_z3 : Rd z3 N R (xs.drop 4) false := by simpa only [List.drop_drop] using nrd
  have E_z3 : Mut (fun n => n = R) w z3 := Mut.trans E_z2 hm
  clear hR_z2 rd_z2 E_z2
  clear hm nrd
  rw [show nu (xs.drop 2) 0 2 = nu xs 2 2 from nu_drop xs 2 0 2]
  go_wp2_with fail
  refine (from_any (nu xs 0 2) _ (G.out 0).1 (by have := (G.out 0).2; omega)).mono ?_
  rintro e _ ⟨rfl, rfl⟩
  go_wp2_with fail
  refine (from_any (nu xs 2 2) _ (G.out 2).1 (by have := (G.out 2).2; omega)).mono ?_
  rintro e _ ⟨rfl, rfl⟩
  go_wp2_with (first
    | fail
    | ((with_reducible refine at_store 3 ?_); refine st_at rfl rfl 3 _ _ rfl R0 0 _ #[.int .i64 ((nu xs 0 2 + 128) / 256)] _ #[.int .i64 ((nu xs 0 2 + 128) / 256), .int .i64 0, .int .i64 0, .int .i64 0] _ rfl rfl rfl hR_z3 (by exact (by decide : 0 + 1 ≤ 4)) (by kernel_rfl) rfl rfl ?_
       intro z4 hq hm
       have hR_z4 : z4.heap[R0]? = some (.cells #[.int .i64 ((nu xs 0 2 + 128) / 256), .int .i64 0, .int .i64 0, .int .i64 0] 28 (0, 0)) := hq
       have E_z4 : Mut (fun n => n = R) w z4 := mut_new E_z3 hm (by omega)
       have rd_z4 : Rd z4 N R (xs.drop 4) false := rd_mut rd_z3 hm (by omega)
       clear hR_z3 rd_z3 E_z3
       clear hq hm)
    | ((with_reducible refine at_store 3 ?_); refine st_at rfl rfl 3 _ _ rfl R0 1 _ #[.int .i64 ((nu xs 2 2 + 128) / 256)] _ #[.int .i64 ((nu xs 0 2 + 128) / 256), .int .i64 ((nu xs 2 2 + 128) / 256), .int .i64 0, .int .i64 0] _ rfl rfl rfl hR_z4 (by exact (by decide : 1 + 1 ≤ 4)) (by kernel_rfl) rfl rfl ?_
       intro z5 hq hm
       have hR_z5 : z5.heap[R0]? = some (.cells #[.int .i64 ((nu xs 0 2 + 128) / 256), .int .i64 ((nu xs 2 2 + 128) / 256), .int .i64 0, .int .i64 0] 28 (0, 0)) := hq
       have E_z5 : Mut (fun n => n = R) w z5 := mut_new E_z4 hm (by omega)
       have rd_z5 : Rd z5 N R (xs.drop 4) false := rd_mut rd_z4 hm (by omega)
       clear hR_z4 rd_z4 E_z4
       clear hq hm))
  refine (take_n R (xs.drop 4) 2 _ rd_z5 (by decide) (by decide) (by first | omega | (simp only [List.length_drop]; omega))).mono ?_
  rintro e z6 ⟨rfl, nrd, hm⟩
  have hR_z6 : z6.heap[R0]? = some (.cells #[.int .i64 ((nu xs 0 2 + 128) / 256), .int .i64 ((nu xs 2 2 + 128) / 256), .int .i64 0, .int .i64 0] 28 (0, 0)) := (hm.heap (heap_lt hR_z5) (show ¬ R0 = R by omega)).trans hR_z5
  have rd_z6 : Rd z6 N R (xs.drop 6) false := by simpa only [List.drop_drop] using nrd
  have E_z6 : Mut (fun n => n = R) w z6 := Mut.trans E_z5 hm
  clear hR_z5 rd_z5 E_z5
  clear hm nrd
  rw [show nu (xs.drop 4) 0 2 = nu xs 4 2 from nu_drop xs 4 0 2]
  go_wp2_with fail
  refine (from_any (nu xs 4 2) _ (G.out 4).1 (by have := (G.out 4).2; omega)).mono ?_
  rintro e _ ⟨rfl, rfl⟩
  go_wp2_with (first
    | fail
    | ((with_reducible refine at_store 3 ?_); refine st_at rfl rfl 3 _ _ rfl R0 2 _ #[.int .i64 ((nu xs 4 2 + 128) / 256)] _ #[.int .i64 ((nu xs 0 2 + 128) / 256), .int .i64 ((nu xs 2 2 + 128) / 256), .int .i64 ((nu xs 4 2 + 128) / 256), .int .i64 0] _ rfl rfl rfl hR_z6 (by exact (by decide : 2 + 1 ≤ 4)) (by kernel_rfl) rfl rfl ?_
       intro z7 hq hm
       have hR_z7 : z7.heap[R0]? = some (.cells #[.int .i64 ((nu xs 0 2 + 128) / 256), .int .i64 ((nu xs 2 2 + 128) / 256), .int .i64 ((nu xs 4 2 + 128) / 256), .int .i64 0] 28 (0, 0)) := hq
       have E_z7 : Mut (fun n => n = R) w z7 := mut_new E_z6 hm (by omega)
       have rd_z7 : Rd z7 N R (xs.drop 6) false := rd_mut rd_z6 hm (by omega)
       clear hR_z6 rd_z6 E_z6
       clear hq hm))
  refine (take_n R (xs.drop 6) 2 _ rd_z7 (by decide) (by decide) (by first | omega | (simp only [List.length_drop]; omega))).mono ?_
  rintro e z8 ⟨rfl, nrd, hm⟩
  have hR_z8 : z8.heap[R0]? = some (.cells #[.int .i64 ((nu xs 0 2 + 128) / 256), .int .i64 ((nu xs 2 2 + 128) / 256), .int .i64 ((nu xs 4 2 + 128) / 256), .int .i64 0] 28 (0, 0)) := (hm.heap (heap_lt hR_z7) (show ¬ R0 = R by omega)).trans hR_z7
  have rd_z8 : Rd z8 N R (xs.drop 8) false := by simpa only [List.drop_drop] using nrd
  have E_z8 : Mut (fun n => n = R) w z8 := Mut.trans E_z7 hm
  clear hR_z7 rd_z7 E_z7
  clear hm nrd
  rw [show nu (xs.drop 6) 0 2 = nu xs 6 2 from nu_drop xs 6 0 2]
  go_wp2_with fail
  refine (from_any (nu xs 6 2) _ (G.out 6).1 (by have := (G.out 6).2; omega)).mono ?_
  rintro e _ ⟨rfl, rfl⟩
  go_wp2_with (first
    | fail
    | ((with_reducible refine at_store 3 ?_); refine st_at rfl rfl 3 _ _ rfl R0 3 _ #[.int .i64 ((nu xs 6 2 + 128) / 256)] _ #[.int .i64 ((nu xs 0 2 + 128) / 256), .int .i64 ((nu xs 2 2 + 128) / 256), .int .i64 ((nu xs 4 2 + 128) / 256), .int .i64 ((nu xs 6 2 + 128) / 256)] _ rfl rfl rfl hR_z8 (by exact (by decide : 3 + 1 ≤ 4)) (by kernel_rfl) rfl rfl ?_
       intro z9 hq hm
       have hR_z9 : z9.heap[R0]? = some (.cells #[.int .i64 ((nu xs 0 2 + 128) / 256), .int .i64 ((nu xs 2 2 + 128) / 256), .int .i64 ((nu xs 4 2 + 128) / 256), .int .i64 ((nu xs 6 2 + 128) / 256)] 28 (0, 0)) := hq
       have E_z9 : Mut (fun n => n = R) w z9 := mut_new E_z8 hm (by omega)
       have rd_z9 : Rd z9 N R (xs.drop 8) false := rd_mut rd_z8 hm (by omega)
       clear hR_z8 rd_z8 E_z8
       clear hq hm)
    | ((with_reducible refine at_load 28 ?_); refine wpList_load_row rfl 28 _ rfl R0 rfl 28 #[.int .i64 ((nu xs 0 2 + 128) / 256), .int .i64 ((nu xs 2 2 + 128) / 256), .int .i64 ((nu xs 4 2 + 128) / 256), .int .i64 ((nu xs 6 2 + 128) / 256)] (0, 0) _ hR_z9 Try.underlying28 rfl (by kernel_rfl) ?_)
    | ((with_reducible refine at_store 28 ?_); refine st_at rfl rfl 28 _ _ rfl R0 0 _ #[.int .i64 ((nu xs 0 2 + 128) / 256), .int .i64 ((nu xs 2 2 + 128) / 256), .int .i64 ((nu xs 4 2 + 128) / 256), .int .i64 ((nu xs 6 2 + 128) / 256)] _ #[.int .i64 ((nu xs 0 2 + 128) / 256), .int .i64 ((nu xs 2 2 + 128) / 256), .int .i64 ((nu xs 4 2 + 128) / 256), .int .i64 ((nu xs 6 2 + 128) / 256)] _ rfl rfl rfl hR_z9 (by exact (by decide : 0 + 4 ≤ 4)) (by kernel_rfl) rfl rfl ?_
       intro z10 hq hm
       have hR_z10 : z10.heap[R0]? = some (.cells #[.int .i64 ((nu xs 0 2 + 128) / 256), .int .i64 ((nu xs 2 2 + 128) / 256), .int .i64 ((nu xs 4 2 + 128) / 256), .int .i64 ((nu xs 6 2 + 128) / 256)] 28 (0, 0)) := hq
       have E_z10 : Mut (fun n => n = R) w z10 := mut_new E_z9 hm (by omega)
       have rd_z10 : Rd z10 N R (xs.drop 8) false := rd_mut rd_z9 hm (by omega)
       clear hR_z9 rd_z9 E_z9
       clear hq hm))
  refine bodyPost_ret (results_crt rfl _ _ _ _ _ (0, 0) _ rfl hR_z10 Try.underlying28 rfl (by kernel_rfl)) rfl ?_
  exact ⟨rfl, rd_z10, E_z10⟩

end Go.Proofs.Ytdfaagchlnkpnaa
