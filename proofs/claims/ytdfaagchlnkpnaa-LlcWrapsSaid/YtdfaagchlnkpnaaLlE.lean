/- The example of llc. No statement is proved here. -/
import Derived.Test.YtdfaagchlnkpnaaLlD
import Derived.Test.YtdfaagchlnkpnaaBpL
namespace Go.Proofs.Ytdfaagchlnkpnaa
open Go.RowKit Go.BigFrame Go.WideShapes Go.ChangeShapes Go.Deep
set_option linter.unusedVariables false
set_option linter.unusedSimpArgs false

theorem ints_far {w w' : World} {X : Nat} {v : Value} {xs : List Int} {cs : Array Value} {t : TypeId} (h : IsInts w .u8 v xs) (hX : w.heap[X]? = some (.cells cs t (0, 0))) (hn : cs.toList.all notU8 = true) (hm : Mut (fun n => n = X) w w') : IsInts w' .u8 v xs := by
  rcases h with h | ⟨b, off, cap, h2, h3, h4, h5, h6, h7⟩
  · exact .inl h
  · have hbX : b ≠ X := fun e => by
      subst e
      have := h7 0 h3
      rw [cell_of_row _ _ _ _ _ _ hX, ← Array.getElem?_toList] at this
      have := List.all_eq_true.1 hn _ (List.mem_of_getElem? this)
      simp [notU8] at this
    exact .inr ⟨b, off, cap, h2, h3, h4, h5, Nat.lt_of_lt_of_le h6 hm.size, fun i hi => (hm.cell (p := ⟨b, off + i, none⟩) h6 hbX).trans (h7 i hi)⟩
/-- The example's frame. -/
def wr : List Int := wrapL 5 Mg.tcn
theorem wr_len : wr.length = 60 := by decide +kernel
theorem wr_12 : wr.getD 12 0 = 0 := by decide +kernel
theorem wr_13 : wr.getD 13 0 = 7 := by decide +kernel
theorem wr_bytes : ∀ x ∈ wr, 0 ≤ x ∧ x < 256 := by decide +kernel
theorem wr_open : openF wr = (5, Mg.tcn, 0) := by kernel_rfl
theorem ex_wrap (w : World) : Calls Try.prog 23 #[.int .u64 5, .agg #[.int .i64 1, .bool false, .bool false, .bool false, .bool false, .bool false, .bool false, .int .i64 0, .int .u64 0, .int .u32 0, .int .u64 0, .int .u16 0, .int .u16 0, .int .i64 0, .int .i64 0, .int .i64 0, .int .i64 0]] w (Owned w wr) := wrap_any 5 (by omega) Mg.tcn tcn_ok (.inr (.inl rfl)) w
theorem ex_open (v : Value) (w : World) (h : IsInts w .u8 v wr) : Calls Try.prog 25 #[v] w fun e w' => e = .returned (.tuple #[.int .u64 5, .agg #[.int .i64 1, .bool false, .bool false, .bool false, .bool false, .bool false, .bool false, .int .i64 0, .int .u64 0, .int .u32 0, .int .u64 0, .int .u16 0, .int .u16 0, .int .i64 0, .int .i64 0, .int .i64 0, .int .i64 0], .int .i64 0]) ∧ Ext w w' := by
  have := open_any v wr w h wr_bytes (by rw [wr_len]; decide)
  rw [wr_open] at this
  exact this
theorem ex_eqt (w : World) : (binOp .eql 30 (.agg #[.int .i64 1, .bool false, .bool false, .bool false, .bool false, .bool false, .bool false, .int .i64 0, .int .u64 0, .int .u32 0, .int .u64 0, .int .u16 0, .int .u16 0, .int .i64 0, .int .i64 0, .int .i64 0, .int .i64 0]) (.agg #[.int .i64 1, .bool false, .bool false, .bool false, .bool false, .bool false, .bool false, .int .i64 0, .int .u64 0, .int .u32 0, .int .u64 0, .int .u16 0, .int .u16 0, .int .i64 0, .int .i64 0, .int .i64 0, .int .i64 0])).run Try.prog w = .ok (.bool true) w := eq_msg Mg.tcn tcn_ok w
set_option maxRecDepth 100000 in
set_option maxHeartbeats 2000000 in
theorem awake6 (w : World) : Calls Try.prog 22 #[] w fun e w' => e = .returned (.bool true) ∧ Ext w w' := by
  have hz := zero_msg
  have heq := ex_eqt
  have hms : MZ.setIfInBounds 0 (Value.int .i64 1) = #[.int .i64 1, .bool false, .bool false, .bool false, .bool false, .bool false, .bool false, .int .i64 0, .int .u64 0, .int .u32 0, .int .u64 0, .int .u16 0, .int .u16 0, .int .i64 0, .int .i64 0, .int .i64 0, .int .i64 0] := by kernel_rfl
  go_enter Try.func22, Try.ntmps22
  go_wp2_with fail
  refine (ex_wrap _).mono ?_
  rintro e z1 ⟨ve, rfl, hown, hx⟩
  have E_z1 : Ext w z1 := hx
  have hi_z1 := isBytes_own hown
  clear hown
  clear hx
  obtain ⟨av, cv, hv, -, hv2⟩ := hi_z1.form
  rw [wr_len] at hv hv2
  obtain ⟨vb, vo, rfl, -, hvc, hvm, -⟩ := hv2 (by decide)
  subst hv
  go_wp2_with fail
  refine (ex_open _ _ hi_z1).mono ?_
  rintro e z2 ⟨rfl, hx⟩
  have E_z2 : Ext w z2 := E_z1.trans hx
  have hi_z2 : IsInts z2 .u8 (.slice (some ⟨vb, vo, none⟩) 60 cv) wr := hi_z1.ext hx
  clear hi_z1 E_z1
  clear hx
  go_wp2_with (first
    | fail
    | ((with_reducible refine at_alloc 30 ?_); refine al_zero rfl 30 rfl MZ zero_msg ?_
       intro X0 z3 hq hs hx
       have E_z3 : Ext w z3 := E_z2.trans hx
       have hi_z3 : IsInts z3 .u8 (.slice (some ⟨vb, vo, none⟩) 60 cv) wr := hi_z2.ext hx
       have hX_z3 : z3.heap[X0]? = some (.cells #[.int .i64 0, .bool false, .bool false, .bool false, .bool false, .bool false, .bool false, .int .i64 0, .int .u64 0, .int .u32 0, .int .u64 0, .int .u16 0, .int .u16 0, .int .i64 0, .int .i64 0, .int .i64 0, .int .i64 0] 30 (0, 0)) := hq
       have hb_X0 : w.heap.size ≤ X0 := by have := E_z2.size; omega
       clear hi_z2 E_z2
       clear hq hs hx)
    | ((with_reducible refine at_store 30 ?_); refine st_at rfl rfl 30 _ _ rfl X0 0 _ #[.int .i64 1, .bool false, .bool false, .bool false, .bool false, .bool false, .bool false, .int .i64 0, .int .u64 0, .int .u32 0, .int .u64 0, .int .u16 0, .int .u16 0, .int .i64 0, .int .i64 0, .int .i64 0, .int .i64 0] _ #[.int .i64 1, .bool false, .bool false, .bool false, .bool false, .bool false, .bool false, .int .i64 0, .int .u64 0, .int .u32 0, .int .u64 0, .int .u16 0, .int .u16 0, .int .i64 0, .int .i64 0, .int .i64 0, .int .i64 0] _ rfl rfl rfl hX_z3 (by exact (by decide : 0 + 17 ≤ 17)) (by kernel_rfl) rfl rfl ?_
       intro z4 hq hm
       have hX_z4 : z4.heap[X0]? = some (.cells #[.int .i64 1, .bool false, .bool false, .bool false, .bool false, .bool false, .bool false, .int .i64 0, .int .u64 0, .int .u32 0, .int .u64 0, .int .u16 0, .int .u16 0, .int .i64 0, .int .i64 0, .int .i64 0, .int .i64 0] 30 (0, 0)) := hq
       have E_z4 : Ext w z4 := Ext.mutE E_z3 hm (fun n hn h => by have h2 : n = X0 := h; omega)
       have hi_z4 : IsInts z4 .u8 (.slice (some ⟨vb, vo, none⟩) 60 cv) wr := ints_far hi_z3 hX_z3 rfl hm
       have hcs : ∀ i, i < 60 → z4.cell? ⟨vb, vo + i, none⟩ = some (.int .u8 (wr.getD i 0)) := by
         obtain ⟨av2, cv2, hv3, -, hv4⟩ := hi_z4.form
         rw [wr_len] at hv3 hv4
         obtain ⟨vb2, vo2, e2, -, -, -, hv5⟩ := hv4 (by decide)
         subst e2
         injection hv3 with e3 e4 e5
         injection e3 with e3
         injection e3 with e3 e6 e7
         subst e3 e6
         exact hv5
       have c12 := hcs 12 (by decide)
       have c13 := hcs 13 (by decide)
       rw [wr_12] at c12
       rw [wr_13] at c13
       clear hcs
       clear hX_z3 hi_z3 E_z3
       clear hq hm)
    | ((with_reducible refine at_loadG 30 ?_); refine wpList_load_rowG rfl 30 _ rfl X0 rfl 30 #[.int .i64 1, .bool false, .bool false, .bool false, .bool false, .bool false, .bool false, .int .i64 0, .int .u64 0, .int .u32 0, .int .u64 0, .int .u16 0, .int .u16 0, .int .i64 0, .int .i64 0, .int .i64 0, .int .i64 0] (0, 0) _ hX_z4 Try.underlying30 rfl (by kernel_rfl) ?_))
  go_ret
  exact ⟨rfl, E_z4⟩

end Go.Proofs.Ytdfaagchlnkpnaa
