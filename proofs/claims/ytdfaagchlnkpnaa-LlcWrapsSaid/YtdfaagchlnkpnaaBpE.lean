/- What bytes are decoded to, by the program. No statement is proved here. -/
import Derived.Test.YtdfaagchlnkpnaaJump
namespace Go.Proofs.Ytdfaagchlnkpnaa
open Go.RowKit Go.BigFrame Go.WideShapes Go.ChangeShapes Go.Deep
set_option linter.unusedVariables false
set_option linter.unusedSimpArgs false

def notU8 : Value → Bool
  | .int .u8 _ => false
  | _ => true
/-- A reader stays where a box without bytes is written. -/
theorem rd_far {w w' : World} {N R X : Nat} {xs : List Int} {sh : Bool} {cs : Array Value} {t : TypeId} (h : Rd w N R xs sh) (hX : w.heap[X]? = some (.cells cs t (0, 0))) (hn : cs.toList.all notU8 = true) (hne : R ≠ X) (hm : Mut (fun n => n = X) w w') : Rd w' N R xs sh := by
  obtain ⟨⟨hr, hN⟩, c1, hf, hx, v, c0, hv⟩ := h
  have hblk : w'.heap[R]? = w.heap[R]? := hm.heap hr (by omega)
  refine ⟨⟨Nat.lt_of_lt_of_le hr hm.size, hN⟩, (hm.cell (p := ⟨R, 1, none⟩) hr (by show ¬ R = X; omega)).trans c1, fun o => ?_, hx, v, (hm.cell (p := ⟨R, 0, none⟩) hr (by show ¬ R = X; omega)).trans c0, ?_⟩
  · rw [World.frozen?_of_block (a := ⟨R, o, none⟩) hblk]; exact hf o
  · rcases hv with hv | ⟨b, off, cap, h1, h2, h3, h4, h5, h6, h7⟩
    · exact .inl hv
    · have hbX : b ≠ X := fun e => by
        subst e
        have := h7 0 h2
        rw [cell_of_row _ _ _ _ _ _ hX, ← Array.getElem?_toList] at this
        have := List.all_eq_true.1 hn _ (List.mem_of_getElem? this)
        simp [notU8] at this
      exact .inr ⟨b, off, cap, h1, h2, h3, h4, h5, Nat.lt_of_lt_of_le h6 hm.size, fun i hi => (hm.cell (p := ⟨b, off + i, none⟩) h6 hbX).trans (h7 i hi)⟩
theorem take_g {N : Nat} (R : Nat) (xs : List Int) (sh : Bool) (k : Int) (w : World) (h : Rd w N R xs sh) : Calls Try.prog 46 #[.pointer (some ⟨R, 0, none⟩), .int .i64 k] w fun e w' =>
    e = .returned (.int .u64 (tkV xs sh k)) ∧ Rd w' N R (tkX xs sh k) (tkS xs sh k) ∧ Mut (fun n => n = R) w w' :=
  (take_any R xs sh k w h).mono fun _ _ ⟨h1, h2, hg⟩ => ⟨h1, h2, hg.os, hg.tape, hg.output, hg.size, fun j hj hne => hg.block j hj (fun e => hne (by simpa using e))⟩
theorem short4 (xs : List Int) (h : xs.length < 4) : tkS (tkX (tkX xs false 2) (tkS xs false 2) 1) (tkS (tkX xs false 2) (tkS xs false 2) 1) 1 = true := by
  have f1 : fitsK 1 = true := by decide
  have f2 : fitsK 2 = true := by decide
  match xs, h with
  | [], _ => decide
  | [a], _ => simp [tkS, tkX, f1, f2]
  | [a, b], _ => simp [tkS, tkX, f1, f2]
  | [a, b, c], _ => simp [tkS, tkX, f1, f2]
  | a :: b :: c :: d :: l, h => simp at h; omega
theorem err_eq (n : Int) (w : World) : True := trivial
set_option maxRecDepth 100000 in
set_option maxHeartbeats 2000000 in
theorem dec_short (v : Value) (xs : List Int) (w : World) (h : IsInts w .u8 v xs) (hx : ∀ x ∈ xs, 0 ≤ x ∧ x < 256) (hl : xs.length ≤ 100000) (h4 : xs.length < 4) : Calls Try.prog 21 #[v] w fun e w' => e = .returned (.tuple #[.agg #[.int .i64 Mg.zero.kd, .bool Mg.zero.ch, .bool Mg.zero.ak, .bool Mg.zero.pr, .bool Mg.zero.ag, .bool Mg.zero.ln, .bool Mg.zero.fw, .int .i64 Mg.zero.ro, .int .u64 Mg.zero.r, .int .u32 Mg.zero.c, .int .u64 Mg.zero.b, .int .u16 Mg.zero.p, .int .u16 Mg.zero.x, .int .i64 Mg.zero.a, .int .i64 Mg.zero.m, .int .i64 Mg.zero.h, .int .i64 Mg.zero.d], .int .i64 2]) ∧ Ext w w' := by
  have hz := zero_msg
  have hbz := zero_msg
  go_enter Try.func21, Try.ntmps21
  go_wp2_with (first
    | fail
    | ((with_reducible refine at_alloc 30 ?_); refine al_zero rfl 30 rfl MZ zero_msg ?_
       intro R0 z1 hq hs hx
       have E_z1 : Ext w z1 := hx
       have hR_z1 : z1.heap[R0]? = some (.cells #[.int .i64 0, .bool false, .bool false, .bool false, .bool false, .bool false, .bool false, .int .i64 0, .int .u64 0, .int .u32 0, .int .u64 0, .int .u16 0, .int .u16 0, .int .i64 0, .int .i64 0, .int .i64 0, .int .i64 0] 30 (0, 0)) := hq
       have hb_R0 : w.heap.size ≤ R0 := by omega
       clear hq hs hx))
  refine scope_hid 2 (fun J0 hJ0 => ?_)
  go_wp2_with (first
    | fail
    | ((with_reducible refine at_alloc 30 ?_); refine al_zero rfl 30 rfl MZ zero_msg ?_
       intro X0 z2 hq hs hx
       have E_z2 : Ext w z2 := E_z1.trans hx
       have hR_z2 : z2.heap[R0]? = some (.cells #[.int .i64 0, .bool false, .bool false, .bool false, .bool false, .bool false, .bool false, .int .i64 0, .int .u64 0, .int .u32 0, .int .u64 0, .int .u16 0, .int .u16 0, .int .i64 0, .int .i64 0, .int .i64 0, .int .i64 0] 30 (0, 0)) := (hx.block _ (heap_lt hR_z1)).trans hR_z1
       have hM_z2 : z2.heap[X0]? = some (.cells #[.int .i64 0, .bool false, .bool false, .bool false, .bool false, .bool false, .bool false, .int .i64 0, .int .u64 0, .int .u32 0, .int .u64 0, .int .u16 0, .int .u16 0, .int .i64 0, .int .i64 0, .int .i64 0, .int .i64 0] 30 (0, 0)) := hq
       have hb_X0 : w.heap.size ≤ X0 := by have := E_z1.size; omega
       have hn_R0X0 : R0 ≠ X0 := by have := heap_lt hR_z1; omega
       clear hR_z1 E_z1
       clear hq hs hx))
  refine (new_any _ xs _ (h.ext E_z2) hx hl).mono ?_
  rintro e n1 ⟨Q, rfl, nrd, hQ, hx2⟩
  have E_n1 : Ext w n1 := E_z2.trans hx2
  have hR_n1 : n1.heap[R0]? = some (.cells #[.int .i64 0, .bool false, .bool false, .bool false, .bool false, .bool false, .bool false, .int .i64 0, .int .u64 0, .int .u32 0, .int .u64 0, .int .u16 0, .int .u16 0, .int .i64 0, .int .i64 0, .int .i64 0, .int .i64 0] 30 (0, 0)) := (hx2.block _ (heap_lt hR_z2)).trans hR_z2
  have hM_n1 : n1.heap[X0]? = some (.cells #[.int .i64 0, .bool false, .bool false, .bool false, .bool false, .bool false, .bool false, .int .i64 0, .int .u64 0, .int .u32 0, .int .u64 0, .int .u16 0, .int .u16 0, .int .i64 0, .int .i64 0, .int .i64 0, .int .i64 0] 30 (0, 0)) := (hx2.block _ (heap_lt hM_z2)).trans hM_z2
  have rd_n1 := nrd
  have hQR : Q ≠ R0 := by have := heap_lt hR_z2; omega
  have hQX : Q ≠ X0 := by have := heap_lt hM_z2; omega
  have hQw : w.heap.size ≤ Q := by have := E_z2.size; omega
  clear hR_z2 hM_z2 E_z2
  clear nrd hx2 hQ
  go_wp2_with fail
  refine (take_g Q xs false 2 _ rd_n1).mono ?_
  rintro e z3 ⟨rfl, nrd, hm⟩
  have hR_z3 : z3.heap[R0]? = some (.cells #[.int .i64 0, .bool false, .bool false, .bool false, .bool false, .bool false, .bool false, .int .i64 0, .int .u64 0, .int .u32 0, .int .u64 0, .int .u16 0, .int .u16 0, .int .i64 0, .int .i64 0, .int .i64 0, .int .i64 0] 30 (0, 0)) := (hm.heap (heap_lt hR_n1) (show ¬ R0 = Q by omega)).trans hR_n1
  have hM_z3 : z3.heap[X0]? = some (.cells #[.int .i64 0, .bool false, .bool false, .bool false, .bool false, .bool false, .bool false, .int .i64 0, .int .u64 0, .int .u32 0, .int .u64 0, .int .u16 0, .int .u16 0, .int .i64 0, .int .i64 0, .int .i64 0, .int .i64 0] 30 (0, 0)) := (hm.heap (heap_lt hM_n1) (show ¬ X0 = Q by omega)).trans hM_n1
  have rd_z3 : Rd z3 Q Q (tkX xs false 2) (tkS xs false 2) := by simpa only [List.drop_drop] using nrd
  have E_z3 : Ext w z3 := Ext.mutE E_n1 hm (fun n hn h => by have h2 : n = Q := h; omega)
  clear hR_n1 hM_n1 rd_n1 E_n1
  clear hm nrd
  go_wp2_with fail
  refine (take_g Q (tkX xs false 2) (tkS xs false 2) 1 _ rd_z3).mono ?_
  rintro e z4 ⟨rfl, nrd, hm⟩
  have hR_z4 : z4.heap[R0]? = some (.cells #[.int .i64 0, .bool false, .bool false, .bool false, .bool false, .bool false, .bool false, .int .i64 0, .int .u64 0, .int .u32 0, .int .u64 0, .int .u16 0, .int .u16 0, .int .i64 0, .int .i64 0, .int .i64 0, .int .i64 0] 30 (0, 0)) := (hm.heap (heap_lt hR_z3) (show ¬ R0 = Q by omega)).trans hR_z3
  have hM_z4 : z4.heap[X0]? = some (.cells #[.int .i64 0, .bool false, .bool false, .bool false, .bool false, .bool false, .bool false, .int .i64 0, .int .u64 0, .int .u32 0, .int .u64 0, .int .u16 0, .int .u16 0, .int .i64 0, .int .i64 0, .int .i64 0, .int .i64 0] 30 (0, 0)) := (hm.heap (heap_lt hM_z3) (show ¬ X0 = Q by omega)).trans hM_z3
  have rd_z4 : Rd z4 Q Q (tkX (tkX xs false 2) (tkS xs false 2) 1) (tkS (tkX xs false 2) (tkS xs false 2) 1) := by simpa only [List.drop_drop] using nrd
  have E_z4 : Ext w z4 := Ext.mutE E_z3 hm (fun n hn h => by have h2 : n = Q := h; omega)
  clear hR_z3 hM_z3 rd_z3 E_z3
  clear hm nrd
  go_wp2_with fail
  refine (take_g Q (tkX (tkX xs false 2) (tkS xs false 2) 1) (tkS (tkX xs false 2) (tkS xs false 2) 1) 1 _ rd_z4).mono ?_
  rintro e z5 ⟨rfl, nrd, hm⟩
  have hR_z5 : z5.heap[R0]? = some (.cells #[.int .i64 0, .bool false, .bool false, .bool false, .bool false, .bool false, .bool false, .int .i64 0, .int .u64 0, .int .u32 0, .int .u64 0, .int .u16 0, .int .u16 0, .int .i64 0, .int .i64 0, .int .i64 0, .int .i64 0] 30 (0, 0)) := (hm.heap (heap_lt hR_z4) (show ¬ R0 = Q by omega)).trans hR_z4
  have hM_z5 : z5.heap[X0]? = some (.cells #[.int .i64 0, .bool false, .bool false, .bool false, .bool false, .bool false, .bool false, .int .i64 0, .int .u64 0, .int .u32 0, .int .u64 0, .int .u16 0, .int .u16 0, .int .i64 0, .int .i64 0, .int .i64 0, .int .i64 0] 30 (0, 0)) := (hm.heap (heap_lt hM_z4) (show ¬ X0 = Q by omega)).trans hM_z4
  have rd_z5 : Rd z5 Q Q (tkX (tkX (tkX xs false 2) (tkS xs false 2) 1) (tkS (tkX xs false 2) (tkS xs false 2) 1) 1) (tkS (tkX (tkX xs false 2) (tkS xs false 2) 1) (tkS (tkX xs false 2) (tkS xs false 2) 1) 1) := by simpa only [List.drop_drop] using nrd
  have E_z5 : Ext w z5 := Ext.mutE E_z4 hm (fun n hn h => by have h2 : n = Q := h; omega)
  clear hR_z4 hM_z4 rd_z4 E_z4
  clear hm nrd
  go_wp2_with fail
  refine (short_any Q _ _ _ rd_z5).mono ?_
  rintro e _ ⟨rfl, rfl⟩
  rw [short4 xs h4]
  go_wp2_with fail
  try go_step3
  show J0 (Exit.goto 0) _ _
  refine jump_hid hJ0 rfl (fun J1 hJ1 => ?_)
  clear hJ0
  go_wp2_with (first
    | fail
    | ((with_reducible refine at_store 30 ?_); refine st_at rfl rfl 30 _ _ rfl R0 0 _ #[.int .i64 0, .bool false, .bool false, .bool false, .bool false, .bool false, .bool false, .int .i64 0, .int .u64 0, .int .u32 0, .int .u64 0, .int .u16 0, .int .u16 0, .int .i64 0, .int .i64 0, .int .i64 0, .int .i64 0] _ #[.int .i64 0, .bool false, .bool false, .bool false, .bool false, .bool false, .bool false, .int .i64 0, .int .u64 0, .int .u32 0, .int .u64 0, .int .u16 0, .int .u16 0, .int .i64 0, .int .i64 0, .int .i64 0, .int .i64 0] _ rfl rfl rfl hR_z5 (by exact (by decide : 0 + 17 ≤ 17)) (by kernel_rfl) rfl rfl ?_
       intro z6 hq hm
       have hR_z6 : z6.heap[R0]? = some (.cells #[.int .i64 0, .bool false, .bool false, .bool false, .bool false, .bool false, .bool false, .int .i64 0, .int .u64 0, .int .u32 0, .int .u64 0, .int .u16 0, .int .u16 0, .int .i64 0, .int .i64 0, .int .i64 0, .int .i64 0] 30 (0, 0)) := hq
       have hM_z6 : z6.heap[X0]? = some (.cells #[.int .i64 0, .bool false, .bool false, .bool false, .bool false, .bool false, .bool false, .int .i64 0, .int .u64 0, .int .u32 0, .int .u64 0, .int .u16 0, .int .u16 0, .int .i64 0, .int .i64 0, .int .i64 0, .int .i64 0] 30 (0, 0)) := (hm.heap (heap_lt hM_z5) (show ¬ X0 = R0 by omega)).trans hM_z5
       have E_z6 : Ext w z6 := Ext.mutE E_z5 hm (fun n hn h => by have h2 : n = R0 := h; omega)
       have rd_z6 : Rd z6 Q Q (tkX (tkX (tkX xs false 2) (tkS xs false 2) 1) (tkS (tkX xs false 2) (tkS xs false 2) 1) 1) (tkS (tkX (tkX xs false 2) (tkS xs false 2) 1) (tkS (tkX xs false 2) (tkS xs false 2) 1) 1) := rd_far rd_z5 hR_z5 rfl (by omega) hm
       clear hR_z5 hM_z5 rd_z5 E_z5
       clear hq hm))
  refine jump_ret hJ1 ?_
  refine bodyPost_ret (results_crt rfl _ _ _ _ _ (0, 0) _ rfl hR_z6 Try.underlying30 rfl (by kernel_rfl)) rfl ?_
  refine ⟨?_, E_z6⟩
  rfl
set_option maxRecDepth 100000 in
set_option maxHeartbeats 2000000 in
theorem dec_form (v : Value) (xs : List Int) (w : World) (h : IsInts w .u8 v xs) (hx : ∀ x ∈ xs, 0 ≤ x ∧ x < 256) (hl : xs.length ≤ 100000) (h4 : 4 ≤ xs.length) (hf : (nu xs 0 2 != 0) = true) : Calls Try.prog 21 #[v] w fun e w' => e = .returned (.tuple #[.agg #[.int .i64 Mg.zero.kd, .bool Mg.zero.ch, .bool Mg.zero.ak, .bool Mg.zero.pr, .bool Mg.zero.ag, .bool Mg.zero.ln, .bool Mg.zero.fw, .int .i64 Mg.zero.ro, .int .u64 Mg.zero.r, .int .u32 Mg.zero.c, .int .u64 Mg.zero.b, .int .u16 Mg.zero.p, .int .u16 Mg.zero.x, .int .i64 Mg.zero.a, .int .i64 Mg.zero.m, .int .i64 Mg.zero.h, .int .i64 Mg.zero.d], .int .i64 3]) ∧ Ext w w' := by
  have hz := zero_msg
  have hbz := zero_msg
  obtain ⟨av, cv, rfl, hlm, -⟩ := h.form
  go_enter Try.func21, Try.ntmps21
  go_wp2_with (first
    | fail
    | ((with_reducible refine at_alloc 30 ?_); refine al_zero rfl 30 rfl MZ zero_msg ?_
       intro R0 z1 hq hs hx
       have E_z1 : Ext w z1 := hx
       have hR_z1 : z1.heap[R0]? = some (.cells #[.int .i64 0, .bool false, .bool false, .bool false, .bool false, .bool false, .bool false, .int .i64 0, .int .u64 0, .int .u32 0, .int .u64 0, .int .u16 0, .int .u16 0, .int .i64 0, .int .i64 0, .int .i64 0, .int .i64 0] 30 (0, 0)) := hq
       have hb_R0 : w.heap.size ≤ R0 := by omega
       clear hq hs hx))
  refine scope_hid 2 (fun J0 hJ0 => ?_)
  go_wp2_with (first
    | fail
    | ((with_reducible refine at_alloc 30 ?_); refine al_zero rfl 30 rfl MZ zero_msg ?_
       intro X0 z2 hq hs hx
       have E_z2 : Ext w z2 := E_z1.trans hx
       have hR_z2 : z2.heap[R0]? = some (.cells #[.int .i64 0, .bool false, .bool false, .bool false, .bool false, .bool false, .bool false, .int .i64 0, .int .u64 0, .int .u32 0, .int .u64 0, .int .u16 0, .int .u16 0, .int .i64 0, .int .i64 0, .int .i64 0, .int .i64 0] 30 (0, 0)) := (hx.block _ (heap_lt hR_z1)).trans hR_z1
       have hM_z2 : z2.heap[X0]? = some (.cells #[.int .i64 0, .bool false, .bool false, .bool false, .bool false, .bool false, .bool false, .int .i64 0, .int .u64 0, .int .u32 0, .int .u64 0, .int .u16 0, .int .u16 0, .int .i64 0, .int .i64 0, .int .i64 0, .int .i64 0] 30 (0, 0)) := hq
       have hb_X0 : w.heap.size ≤ X0 := by have := E_z1.size; omega
       have hn_R0X0 : R0 ≠ X0 := by have := heap_lt hR_z1; omega
       clear hR_z1 E_z1
       clear hq hs hx))
  refine (new_any _ xs _ (h.ext E_z2) hx hl).mono ?_
  rintro e n1 ⟨Q, rfl, nrd, hQ, hx2⟩
  have E_n1 : Ext w n1 := E_z2.trans hx2
  have hR_n1 : n1.heap[R0]? = some (.cells #[.int .i64 0, .bool false, .bool false, .bool false, .bool false, .bool false, .bool false, .int .i64 0, .int .u64 0, .int .u32 0, .int .u64 0, .int .u16 0, .int .u16 0, .int .i64 0, .int .i64 0, .int .i64 0, .int .i64 0] 30 (0, 0)) := (hx2.block _ (heap_lt hR_z2)).trans hR_z2
  have hM_n1 : n1.heap[X0]? = some (.cells #[.int .i64 0, .bool false, .bool false, .bool false, .bool false, .bool false, .bool false, .int .i64 0, .int .u64 0, .int .u32 0, .int .u64 0, .int .u16 0, .int .u16 0, .int .i64 0, .int .i64 0, .int .i64 0, .int .i64 0] 30 (0, 0)) := (hx2.block _ (heap_lt hM_z2)).trans hM_z2
  have rd_n1 := nrd
  have hQR : Q ≠ R0 := by have := heap_lt hR_z2; omega
  have hQX : Q ≠ X0 := by have := heap_lt hM_z2; omega
  have hQw : w.heap.size ≤ Q := by have := E_z2.size; omega
  clear hR_z2 hM_z2 E_z2
  clear nrd hx2 hQ
  go_wp2_with fail
  refine (take_n Q xs 2 _ rd_n1 (by decide) (by decide) (by first | omega | (simp only [List.length_drop]; omega))).mono ?_
  rintro e z3 ⟨rfl, nrd, hm⟩
  have hR_z3 : z3.heap[R0]? = some (.cells #[.int .i64 0, .bool false, .bool false, .bool false, .bool false, .bool false, .bool false, .int .i64 0, .int .u64 0, .int .u32 0, .int .u64 0, .int .u16 0, .int .u16 0, .int .i64 0, .int .i64 0, .int .i64 0, .int .i64 0] 30 (0, 0)) := (hm.heap (heap_lt hR_n1) (show ¬ R0 = Q by omega)).trans hR_n1
  have hM_z3 : z3.heap[X0]? = some (.cells #[.int .i64 0, .bool false, .bool false, .bool false, .bool false, .bool false, .bool false, .int .i64 0, .int .u64 0, .int .u32 0, .int .u64 0, .int .u16 0, .int .u16 0, .int .i64 0, .int .i64 0, .int .i64 0, .int .i64 0] 30 (0, 0)) := (hm.heap (heap_lt hM_n1) (show ¬ X0 = Q by omega)).trans hM_n1
  have rd_z3 : Rd z3 Q Q (xs.drop 2) false := by simpa only [List.drop_drop] using nrd
  have E_z3 : Ext w z3 := Ext.mutE E_n1 hm (fun n hn h => by have h2 : n = Q := h; omega)
  clear hR_n1 hM_n1 rd_n1 E_n1
  clear hm nrd
  go_wp2_with fail
  refine (take_n Q (xs.drop 2) 1 _ rd_z3 (by decide) (by decide) (by first | omega | (simp only [List.length_drop]; omega))).mono ?_
  rintro e z4 ⟨rfl, nrd, hm⟩
  have hR_z4 : z4.heap[R0]? = some (.cells #[.int .i64 0, .bool false, .bool false, .bool false, .bool false, .bool false, .bool false, .int .i64 0, .int .u64 0, .int .u32 0, .int .u64 0, .int .u16 0, .int .u16 0, .int .i64 0, .int .i64 0, .int .i64 0, .int .i64 0] 30 (0, 0)) := (hm.heap (heap_lt hR_z3) (show ¬ R0 = Q by omega)).trans hR_z3
  have hM_z4 : z4.heap[X0]? = some (.cells #[.int .i64 0, .bool false, .bool false, .bool false, .bool false, .bool false, .bool false, .int .i64 0, .int .u64 0, .int .u32 0, .int .u64 0, .int .u16 0, .int .u16 0, .int .i64 0, .int .i64 0, .int .i64 0, .int .i64 0] 30 (0, 0)) := (hm.heap (heap_lt hM_z3) (show ¬ X0 = Q by omega)).trans hM_z3
  have rd_z4 : Rd z4 Q Q (xs.drop 3) false := by simpa only [List.drop_drop] using nrd
  have E_z4 : Ext w z4 := Ext.mutE E_z3 hm (fun n hn h => by have h2 : n = Q := h; omega)
  clear hR_z3 hM_z3 rd_z3 E_z3
  clear hm nrd
  rw [show nu (xs.drop 2) 0 1 = nu xs 2 1 from nu_drop xs 2 0 1]
  go_wp2_with fail
  refine (take_n Q (xs.drop 3) 1 _ rd_z4 (by decide) (by decide) (by first | omega | (simp only [List.length_drop]; omega))).mono ?_
  rintro e z5 ⟨rfl, nrd, hm⟩
  have hR_z5 : z5.heap[R0]? = some (.cells #[.int .i64 0, .bool false, .bool false, .bool false, .bool false, .bool false, .bool false, .int .i64 0, .int .u64 0, .int .u32 0, .int .u64 0, .int .u16 0, .int .u16 0, .int .i64 0, .int .i64 0, .int .i64 0, .int .i64 0] 30 (0, 0)) := (hm.heap (heap_lt hR_z4) (show ¬ R0 = Q by omega)).trans hR_z4
  have hM_z5 : z5.heap[X0]? = some (.cells #[.int .i64 0, .bool false, .bool false, .bool false, .bool false, .bool false, .bool false, .int .i64 0, .int .u64 0, .int .u32 0, .int .u64 0, .int .u16 0, .int .u16 0, .int .i64 0, .int .i64 0, .int .i64 0, .int .i64 0] 30 (0, 0)) := (hm.heap (heap_lt hM_z4) (show ¬ X0 = Q by omega)).trans hM_z4
  have rd_z5 : Rd z5 Q Q (xs.drop 4) false := by simpa only [List.drop_drop] using nrd
  have E_z5 : Ext w z5 := Ext.mutE E_z4 hm (fun n hn h => by have h2 : n = Q := h; omega)
  clear hR_z4 hM_z4 rd_z4 E_z4
  clear hm nrd
  rw [show nu (xs.drop 3) 0 1 = nu xs 3 1 from nu_drop xs 3 0 1]
  go_wp2_with fail
  refine (short_any Q _ _ _ rd_z5).mono ?_
  rintro e _ ⟨rfl, rfl⟩
  go_wp2_with fail
  try go_step3
  show J0 (Exit.goto 0) _ _
  refine jump_hid hJ0 rfl (fun J1 hJ1 => ?_)
  clear hJ0
  go_wp2_with (first
    | fail
    | ((with_reducible refine at_store 30 ?_); refine st_at rfl rfl 30 _ _ rfl R0 0 _ #[.int .i64 0, .bool false, .bool false, .bool false, .bool false, .bool false, .bool false, .int .i64 0, .int .u64 0, .int .u32 0, .int .u64 0, .int .u16 0, .int .u16 0, .int .i64 0, .int .i64 0, .int .i64 0, .int .i64 0] _ #[.int .i64 0, .bool false, .bool false, .bool false, .bool false, .bool false, .bool false, .int .i64 0, .int .u64 0, .int .u32 0, .int .u64 0, .int .u16 0, .int .u16 0, .int .i64 0, .int .i64 0, .int .i64 0, .int .i64 0] _ rfl rfl rfl hR_z5 (by exact (by decide : 0 + 17 ≤ 17)) (by kernel_rfl) rfl rfl ?_
       intro z6 hq hm
       have hR_z6 : z6.heap[R0]? = some (.cells #[.int .i64 0, .bool false, .bool false, .bool false, .bool false, .bool false, .bool false, .int .i64 0, .int .u64 0, .int .u32 0, .int .u64 0, .int .u16 0, .int .u16 0, .int .i64 0, .int .i64 0, .int .i64 0, .int .i64 0] 30 (0, 0)) := hq
       have hM_z6 : z6.heap[X0]? = some (.cells #[.int .i64 0, .bool false, .bool false, .bool false, .bool false, .bool false, .bool false, .int .i64 0, .int .u64 0, .int .u32 0, .int .u64 0, .int .u16 0, .int .u16 0, .int .i64 0, .int .i64 0, .int .i64 0, .int .i64 0] 30 (0, 0)) := (hm.heap (heap_lt hM_z5) (show ¬ X0 = R0 by omega)).trans hM_z5
       have E_z6 : Ext w z6 := Ext.mutE E_z5 hm (fun n hn h => by have h2 : n = R0 := h; omega)
       have rd_z6 : Rd z6 Q Q (xs.drop 4) false := rd_far rd_z5 hR_z5 rfl (by omega) hm
       clear hR_z5 hM_z5 rd_z5 E_z5
       clear hq hm))
  refine jump_ret hJ1 ?_
  refine bodyPost_ret (results_crt rfl _ _ _ _ _ (0, 0) _ rfl hR_z6 Try.underlying30 rfl (by kernel_rfl)) rfl ?_
  refine ⟨?_, E_z6⟩
  rfl
set_option maxRecDepth 100000 in
set_option maxHeartbeats 2000000 in
theorem dec_tcn (v : Value) (xs : List Int) (w : World) (h : IsInts w .u8 v xs) (hx : ∀ x ∈ xs, 0 ≤ x ∧ x < 256) (hl : xs.length ≤ 100000) (h4 : 4 ≤ xs.length) (hf : (nu xs 0 2 != 0) = false) (hn : (nu xs 3 1 == 128) = true) : Calls Try.prog 21 #[v] w fun e w' => e = .returned (.tuple #[.agg #[.int .i64 Mg.tcn.kd, .bool Mg.tcn.ch, .bool Mg.tcn.ak, .bool Mg.tcn.pr, .bool Mg.tcn.ag, .bool Mg.tcn.ln, .bool Mg.tcn.fw, .int .i64 Mg.tcn.ro, .int .u64 Mg.tcn.r, .int .u32 Mg.tcn.c, .int .u64 Mg.tcn.b, .int .u16 Mg.tcn.p, .int .u16 Mg.tcn.x, .int .i64 Mg.tcn.a, .int .i64 Mg.tcn.m, .int .i64 Mg.tcn.h, .int .i64 Mg.tcn.d], .int .i64 0]) ∧ Ext w w' := by
  have hz := zero_msg
  have hbz := zero_msg
  obtain ⟨av, cv, rfl, hlm, -⟩ := h.form
  go_enter Try.func21, Try.ntmps21
  go_wp2_with (first
    | fail
    | ((with_reducible refine at_alloc 30 ?_); refine al_zero rfl 30 rfl MZ zero_msg ?_
       intro R0 z1 hq hs hx
       have E_z1 : Ext w z1 := hx
       have hR_z1 : z1.heap[R0]? = some (.cells #[.int .i64 0, .bool false, .bool false, .bool false, .bool false, .bool false, .bool false, .int .i64 0, .int .u64 0, .int .u32 0, .int .u64 0, .int .u16 0, .int .u16 0, .int .i64 0, .int .i64 0, .int .i64 0, .int .i64 0] 30 (0, 0)) := hq
       have hb_R0 : w.heap.size ≤ R0 := by omega
       clear hq hs hx))
  refine scope_hid 2 (fun J0 hJ0 => ?_)
  go_wp2_with (first
    | fail
    | ((with_reducible refine at_alloc 30 ?_); refine al_zero rfl 30 rfl MZ zero_msg ?_
       intro X0 z2 hq hs hx
       have E_z2 : Ext w z2 := E_z1.trans hx
       have hR_z2 : z2.heap[R0]? = some (.cells #[.int .i64 0, .bool false, .bool false, .bool false, .bool false, .bool false, .bool false, .int .i64 0, .int .u64 0, .int .u32 0, .int .u64 0, .int .u16 0, .int .u16 0, .int .i64 0, .int .i64 0, .int .i64 0, .int .i64 0] 30 (0, 0)) := (hx.block _ (heap_lt hR_z1)).trans hR_z1
       have hM_z2 : z2.heap[X0]? = some (.cells #[.int .i64 0, .bool false, .bool false, .bool false, .bool false, .bool false, .bool false, .int .i64 0, .int .u64 0, .int .u32 0, .int .u64 0, .int .u16 0, .int .u16 0, .int .i64 0, .int .i64 0, .int .i64 0, .int .i64 0] 30 (0, 0)) := hq
       have hb_X0 : w.heap.size ≤ X0 := by have := E_z1.size; omega
       have hn_R0X0 : R0 ≠ X0 := by have := heap_lt hR_z1; omega
       clear hR_z1 E_z1
       clear hq hs hx))
  refine (new_any _ xs _ (h.ext E_z2) hx hl).mono ?_
  rintro e n1 ⟨Q, rfl, nrd, hQ, hx2⟩
  have E_n1 : Ext w n1 := E_z2.trans hx2
  have hR_n1 : n1.heap[R0]? = some (.cells #[.int .i64 0, .bool false, .bool false, .bool false, .bool false, .bool false, .bool false, .int .i64 0, .int .u64 0, .int .u32 0, .int .u64 0, .int .u16 0, .int .u16 0, .int .i64 0, .int .i64 0, .int .i64 0, .int .i64 0] 30 (0, 0)) := (hx2.block _ (heap_lt hR_z2)).trans hR_z2
  have hM_n1 : n1.heap[X0]? = some (.cells #[.int .i64 0, .bool false, .bool false, .bool false, .bool false, .bool false, .bool false, .int .i64 0, .int .u64 0, .int .u32 0, .int .u64 0, .int .u16 0, .int .u16 0, .int .i64 0, .int .i64 0, .int .i64 0, .int .i64 0] 30 (0, 0)) := (hx2.block _ (heap_lt hM_z2)).trans hM_z2
  have rd_n1 := nrd
  have hQR : Q ≠ R0 := by have := heap_lt hR_z2; omega
  have hQX : Q ≠ X0 := by have := heap_lt hM_z2; omega
  have hQw : w.heap.size ≤ Q := by have := E_z2.size; omega
  clear hR_z2 hM_z2 E_z2
  clear nrd hx2 hQ
  go_wp2_with fail
  refine (take_n Q xs 2 _ rd_n1 (by decide) (by decide) (by first | omega | (simp only [List.length_drop]; omega))).mono ?_
  rintro e z3 ⟨rfl, nrd, hm⟩
  have hR_z3 : z3.heap[R0]? = some (.cells #[.int .i64 0, .bool false, .bool false, .bool false, .bool false, .bool false, .bool false, .int .i64 0, .int .u64 0, .int .u32 0, .int .u64 0, .int .u16 0, .int .u16 0, .int .i64 0, .int .i64 0, .int .i64 0, .int .i64 0] 30 (0, 0)) := (hm.heap (heap_lt hR_n1) (show ¬ R0 = Q by omega)).trans hR_n1
  have hM_z3 : z3.heap[X0]? = some (.cells #[.int .i64 0, .bool false, .bool false, .bool false, .bool false, .bool false, .bool false, .int .i64 0, .int .u64 0, .int .u32 0, .int .u64 0, .int .u16 0, .int .u16 0, .int .i64 0, .int .i64 0, .int .i64 0, .int .i64 0] 30 (0, 0)) := (hm.heap (heap_lt hM_n1) (show ¬ X0 = Q by omega)).trans hM_n1
  have rd_z3 : Rd z3 Q Q (xs.drop 2) false := by simpa only [List.drop_drop] using nrd
  have E_z3 : Ext w z3 := Ext.mutE E_n1 hm (fun n hn h => by have h2 : n = Q := h; omega)
  clear hR_n1 hM_n1 rd_n1 E_n1
  clear hm nrd
  go_wp2_with fail
  refine (take_n Q (xs.drop 2) 1 _ rd_z3 (by decide) (by decide) (by first | omega | (simp only [List.length_drop]; omega))).mono ?_
  rintro e z4 ⟨rfl, nrd, hm⟩
  have hR_z4 : z4.heap[R0]? = some (.cells #[.int .i64 0, .bool false, .bool false, .bool false, .bool false, .bool false, .bool false, .int .i64 0, .int .u64 0, .int .u32 0, .int .u64 0, .int .u16 0, .int .u16 0, .int .i64 0, .int .i64 0, .int .i64 0, .int .i64 0] 30 (0, 0)) := (hm.heap (heap_lt hR_z3) (show ¬ R0 = Q by omega)).trans hR_z3
  have hM_z4 : z4.heap[X0]? = some (.cells #[.int .i64 0, .bool false, .bool false, .bool false, .bool false, .bool false, .bool false, .int .i64 0, .int .u64 0, .int .u32 0, .int .u64 0, .int .u16 0, .int .u16 0, .int .i64 0, .int .i64 0, .int .i64 0, .int .i64 0] 30 (0, 0)) := (hm.heap (heap_lt hM_z3) (show ¬ X0 = Q by omega)).trans hM_z3
  have rd_z4 : Rd z4 Q Q (xs.drop 3) false := by simpa only [List.drop_drop] using nrd
  have E_z4 : Ext w z4 := Ext.mutE E_z3 hm (fun n hn h => by have h2 : n = Q := h; omega)
  clear hR_z3 hM_z3 rd_z3 E_z3
  clear hm nrd
  rw [show nu (xs.drop 2) 0 1 = nu xs 2 1 from nu_drop xs 2 0 1]
  go_wp2_with fail
  refine (take_n Q (xs.drop 3) 1 _ rd_z4 (by decide) (by decide) (by first | omega | (simp only [List.length_drop]; omega))).mono ?_
  rintro e z5 ⟨rfl, nrd, hm⟩
  have hR_z5 : z5.heap[R0]? = some (.cells #[.int .i64 0, .bool false, .bool false, .bool false, .bool false, .bool false, .bool false, .int .i64 0, .int .u64 0, .int .u32 0, .int .u64 0, .int .u16 0, .int .u16 0, .int .i64 0, .int .i64 0, .int .i64 0, .int .i64 0] 30 (0, 0)) := (hm.heap (heap_lt hR_z4) (show ¬ R0 = Q by omega)).trans hR_z4
  have hM_z5 : z5.heap[X0]? = some (.cells #[.int .i64 0, .bool false, .bool false, .bool false, .bool false, .bool false, .bool false, .int .i64 0, .int .u64 0, .int .u32 0, .int .u64 0, .int .u16 0, .int .u16 0, .int .i64 0, .int .i64 0, .int .i64 0, .int .i64 0] 30 (0, 0)) := (hm.heap (heap_lt hM_z4) (show ¬ X0 = Q by omega)).trans hM_z4
  have rd_z5 : Rd z5 Q Q (xs.drop 4) false := by simpa only [List.drop_drop] using nrd
  have E_z5 : Ext w z5 := Ext.mutE E_z4 hm (fun n hn h => by have h2 : n = Q := h; omega)
  clear hR_z4 hM_z4 rd_z4 E_z4
  clear hm nrd
  rw [show nu (xs.drop 3) 0 1 = nu xs 3 1 from nu_drop xs 3 0 1]
  go_wp2_with fail
  refine (short_any Q _ _ _ rd_z5).mono ?_
  rintro e _ ⟨rfl, rfl⟩
  go_wp2_with (first
    | fail
    | ((with_reducible refine at_store 30 ?_); refine st_at rfl rfl 30 _ _ rfl R0 0 _ #[.int .i64 1, .bool false, .bool false, .bool false, .bool false, .bool false, .bool false, .int .i64 0, .int .u64 0, .int .u32 0, .int .u64 0, .int .u16 0, .int .u16 0, .int .i64 0, .int .i64 0, .int .i64 0, .int .i64 0] _ #[.int .i64 1, .bool false, .bool false, .bool false, .bool false, .bool false, .bool false, .int .i64 0, .int .u64 0, .int .u32 0, .int .u64 0, .int .u16 0, .int .u16 0, .int .i64 0, .int .i64 0, .int .i64 0, .int .i64 0] _ rfl rfl rfl hR_z5 (by exact (by decide : 0 + 17 ≤ 17)) (by kernel_rfl) rfl rfl ?_
       intro z6 hq hm
       have hR_z6 : z6.heap[R0]? = some (.cells #[.int .i64 1, .bool false, .bool false, .bool false, .bool false, .bool false, .bool false, .int .i64 0, .int .u64 0, .int .u32 0, .int .u64 0, .int .u16 0, .int .u16 0, .int .i64 0, .int .i64 0, .int .i64 0, .int .i64 0] 30 (0, 0)) := hq
       have hM_z6 : z6.heap[X0]? = some (.cells #[.int .i64 0, .bool false, .bool false, .bool false, .bool false, .bool false, .bool false, .int .i64 0, .int .u64 0, .int .u32 0, .int .u64 0, .int .u16 0, .int .u16 0, .int .i64 0, .int .i64 0, .int .i64 0, .int .i64 0] 30 (0, 0)) := (hm.heap (heap_lt hM_z5) (show ¬ X0 = R0 by omega)).trans hM_z5
       have E_z6 : Ext w z6 := Ext.mutE E_z5 hm (fun n hn h => by have h2 : n = R0 := h; omega)
       have rd_z6 : Rd z6 Q Q (xs.drop 4) false := rd_far rd_z5 hR_z5 rfl (by omega) hm
       clear hR_z5 hM_z5 rd_z5 E_z5
       clear hq hm))
  refine jump_ret hJ0 ?_
  refine bodyPost_ret (results_crt rfl _ _ _ _ _ (0, 0) _ rfl hR_z6 Try.underlying30 rfl (by kernel_rfl)) rfl ?_
  refine ⟨?_, E_z6⟩
  rfl
set_option maxRecDepth 100000 in
set_option maxHeartbeats 2000000 in
theorem dec_kind1 (v : Value) (xs : List Int) (w : World) (h : IsInts w .u8 v xs) (hx : ∀ x ∈ xs, 0 ≤ x ∧ x < 256) (hl : xs.length ≤ 100000) (h4 : 4 ≤ xs.length) (hf : (nu xs 0 2 != 0) = false) (hn : (nu xs 3 1 == 128) = false) (h2 : (nu xs 3 1 == 2) = false) (hz0 : (nu xs 3 1 != 0) = true) : Calls Try.prog 21 #[v] w fun e w' => e = .returned (.tuple #[.agg #[.int .i64 Mg.zero.kd, .bool Mg.zero.ch, .bool Mg.zero.ak, .bool Mg.zero.pr, .bool Mg.zero.ag, .bool Mg.zero.ln, .bool Mg.zero.fw, .int .i64 Mg.zero.ro, .int .u64 Mg.zero.r, .int .u32 Mg.zero.c, .int .u64 Mg.zero.b, .int .u16 Mg.zero.p, .int .u16 Mg.zero.x, .int .i64 Mg.zero.a, .int .i64 Mg.zero.m, .int .i64 Mg.zero.h, .int .i64 Mg.zero.d], .int .i64 4]) ∧ Ext w w' := by
  have hz := zero_msg
  have hbz := zero_msg
  obtain ⟨av, cv, rfl, hlm, -⟩ := h.form
  go_enter Try.func21, Try.ntmps21
  go_wp2_with (first
    | fail
    | ((with_reducible refine at_alloc 30 ?_); refine al_zero rfl 30 rfl MZ zero_msg ?_
       intro R0 z1 hq hs hx
       have E_z1 : Ext w z1 := hx
       have hR_z1 : z1.heap[R0]? = some (.cells #[.int .i64 0, .bool false, .bool false, .bool false, .bool false, .bool false, .bool false, .int .i64 0, .int .u64 0, .int .u32 0, .int .u64 0, .int .u16 0, .int .u16 0, .int .i64 0, .int .i64 0, .int .i64 0, .int .i64 0] 30 (0, 0)) := hq
       have hb_R0 : w.heap.size ≤ R0 := by omega
       clear hq hs hx))
  refine scope_hid 2 (fun J0 hJ0 => ?_)
  go_wp2_with (first
    | fail
    | ((with_reducible refine at_alloc 30 ?_); refine al_zero rfl 30 rfl MZ zero_msg ?_
       intro X0 z2 hq hs hx
       have E_z2 : Ext w z2 := E_z1.trans hx
       have hR_z2 : z2.heap[R0]? = some (.cells #[.int .i64 0, .bool false, .bool false, .bool false, .bool false, .bool false, .bool false, .int .i64 0, .int .u64 0, .int .u32 0, .int .u64 0, .int .u16 0, .int .u16 0, .int .i64 0, .int .i64 0, .int .i64 0, .int .i64 0] 30 (0, 0)) := (hx.block _ (heap_lt hR_z1)).trans hR_z1
       have hM_z2 : z2.heap[X0]? = some (.cells #[.int .i64 0, .bool false, .bool false, .bool false, .bool false, .bool false, .bool false, .int .i64 0, .int .u64 0, .int .u32 0, .int .u64 0, .int .u16 0, .int .u16 0, .int .i64 0, .int .i64 0, .int .i64 0, .int .i64 0] 30 (0, 0)) := hq
       have hb_X0 : w.heap.size ≤ X0 := by have := E_z1.size; omega
       have hn_R0X0 : R0 ≠ X0 := by have := heap_lt hR_z1; omega
       clear hR_z1 E_z1
       clear hq hs hx))
  refine (new_any _ xs _ (h.ext E_z2) hx hl).mono ?_
  rintro e n1 ⟨Q, rfl, nrd, hQ, hx2⟩
  have E_n1 : Ext w n1 := E_z2.trans hx2
  have hR_n1 : n1.heap[R0]? = some (.cells #[.int .i64 0, .bool false, .bool false, .bool false, .bool false, .bool false, .bool false, .int .i64 0, .int .u64 0, .int .u32 0, .int .u64 0, .int .u16 0, .int .u16 0, .int .i64 0, .int .i64 0, .int .i64 0, .int .i64 0] 30 (0, 0)) := (hx2.block _ (heap_lt hR_z2)).trans hR_z2
  have hM_n1 : n1.heap[X0]? = some (.cells #[.int .i64 0, .bool false, .bool false, .bool false, .bool false, .bool false, .bool false, .int .i64 0, .int .u64 0, .int .u32 0, .int .u64 0, .int .u16 0, .int .u16 0, .int .i64 0, .int .i64 0, .int .i64 0, .int .i64 0] 30 (0, 0)) := (hx2.block _ (heap_lt hM_z2)).trans hM_z2
  have rd_n1 := nrd
  have hQR : Q ≠ R0 := by have := heap_lt hR_z2; omega
  have hQX : Q ≠ X0 := by have := heap_lt hM_z2; omega
  have hQw : w.heap.size ≤ Q := by have := E_z2.size; omega
  clear hR_z2 hM_z2 E_z2
  clear nrd hx2 hQ
  go_wp2_with fail
  refine (take_n Q xs 2 _ rd_n1 (by decide) (by decide) (by first | omega | (simp only [List.length_drop]; omega))).mono ?_
  rintro e z3 ⟨rfl, nrd, hm⟩
  have hR_z3 : z3.heap[R0]? = some (.cells #[.int .i64 0, .bool false, .bool false, .bool false, .bool false, .bool false, .bool false, .int .i64 0, .int .u64 0, .int .u32 0, .int .u64 0, .int .u16 0, .int .u16 0, .int .i64 0, .int .i64 0, .int .i64 0, .int .i64 0] 30 (0, 0)) := (hm.heap (heap_lt hR_n1) (show ¬ R0 = Q by omega)).trans hR_n1
  have hM_z3 : z3.heap[X0]? = some (.cells #[.int .i64 0, .bool false, .bool false, .bool false, .bool false, .bool false, .bool false, .int .i64 0, .int .u64 0, .int .u32 0, .int .u64 0, .int .u16 0, .int .u16 0, .int .i64 0, .int .i64 0, .int .i64 0, .int .i64 0] 30 (0, 0)) := (hm.heap (heap_lt hM_n1) (show ¬ X0 = Q by omega)).trans hM_n1
  have rd_z3 : Rd z3 Q Q (xs.drop 2) false := by simpa only [List.drop_drop] using nrd
  have E_z3 : Ext w z3 := Ext.mutE E_n1 hm (fun n hn h => by have h2 : n = Q := h; omega)
  clear hR_n1 hM_n1 rd_n1 E_n1
  clear hm nrd
  go_wp2_with fail
  refine (take_n Q (xs.drop 2) 1 _ rd_z3 (by decide) (by decide) (by first | omega | (simp only [List.length_drop]; omega))).mono ?_
  rintro e z4 ⟨rfl, nrd, hm⟩
  have hR_z4 : z4.heap[R0]? = some (.cells #[.int .i64 0, .bool false, .bool false, .bool false, .bool false, .bool false, .bool false, .int .i64 0, .int .u64 0, .int .u32 0, .int .u64 0, .int .u16 0, .int .u16 0, .int .i64 0, .int .i64 0, .int .i64 0, .int .i64 0] 30 (0, 0)) := (hm.heap (heap_lt hR_z3) (show ¬ R0 = Q by omega)).trans hR_z3
  have hM_z4 : z4.heap[X0]? = some (.cells #[.int .i64 0, .bool false, .bool false, .bool false, .bool false, .bool false, .bool false, .int .i64 0, .int .u64 0, .int .u32 0, .int .u64 0, .int .u16 0, .int .u16 0, .int .i64 0, .int .i64 0, .int .i64 0, .int .i64 0] 30 (0, 0)) := (hm.heap (heap_lt hM_z3) (show ¬ X0 = Q by omega)).trans hM_z3
  have rd_z4 : Rd z4 Q Q (xs.drop 3) false := by simpa only [List.drop_drop] using nrd
  have E_z4 : Ext w z4 := Ext.mutE E_z3 hm (fun n hn h => by have h2 : n = Q := h; omega)
  clear hR_z3 hM_z3 rd_z3 E_z3
  clear hm nrd
  rw [show nu (xs.drop 2) 0 1 = nu xs 2 1 from nu_drop xs 2 0 1]
  go_wp2_with fail
  refine (take_n Q (xs.drop 3) 1 _ rd_z4 (by decide) (by decide) (by first | omega | (simp only [List.length_drop]; omega))).mono ?_
  rintro e z5 ⟨rfl, nrd, hm⟩
  have hR_z5 : z5.heap[R0]? = some (.cells #[.int .i64 0, .bool false, .bool false, .bool false, .bool false, .bool false, .bool false, .int .i64 0, .int .u64 0, .int .u32 0, .int .u64 0, .int .u16 0, .int .u16 0, .int .i64 0, .int .i64 0, .int .i64 0, .int .i64 0] 30 (0, 0)) := (hm.heap (heap_lt hR_z4) (show ¬ R0 = Q by omega)).trans hR_z4
  have hM_z5 : z5.heap[X0]? = some (.cells #[.int .i64 0, .bool false, .bool false, .bool false, .bool false, .bool false, .bool false, .int .i64 0, .int .u64 0, .int .u32 0, .int .u64 0, .int .u16 0, .int .u16 0, .int .i64 0, .int .i64 0, .int .i64 0, .int .i64 0] 30 (0, 0)) := (hm.heap (heap_lt hM_z4) (show ¬ X0 = Q by omega)).trans hM_z4
  have rd_z5 : Rd z5 Q Q (xs.drop 4) false := by simpa only [List.drop_drop] using nrd
  have E_z5 : Ext w z5 := Ext.mutE E_z4 hm (fun n hn h => by have h2 : n = Q := h; omega)
  clear hR_z4 hM_z4 rd_z4 E_z4
  clear hm nrd
  rw [show nu (xs.drop 3) 0 1 = nu xs 3 1 from nu_drop xs 3 0 1]
  go_wp2_with fail
  refine (short_any Q _ _ _ rd_z5).mono ?_
  rintro e _ ⟨rfl, rfl⟩
  go_wp2_with fail
  try go_step3
  show J0 (Exit.goto 0) _ _
  refine jump_hid hJ0 rfl (fun J1 hJ1 => ?_)
  clear hJ0
  go_wp2_with (first
    | fail
    | ((with_reducible refine at_store 30 ?_); refine st_at rfl rfl 30 _ _ rfl R0 0 _ #[.int .i64 0, .bool false, .bool false, .bool false, .bool false, .bool false, .bool false, .int .i64 0, .int .u64 0, .int .u32 0, .int .u64 0, .int .u16 0, .int .u16 0, .int .i64 0, .int .i64 0, .int .i64 0, .int .i64 0] _ #[.int .i64 0, .bool false, .bool false, .bool false, .bool false, .bool false, .bool false, .int .i64 0, .int .u64 0, .int .u32 0, .int .u64 0, .int .u16 0, .int .u16 0, .int .i64 0, .int .i64 0, .int .i64 0, .int .i64 0] _ rfl rfl rfl hR_z5 (by exact (by decide : 0 + 17 ≤ 17)) (by kernel_rfl) rfl rfl ?_
       intro z6 hq hm
       have hR_z6 : z6.heap[R0]? = some (.cells #[.int .i64 0, .bool false, .bool false, .bool false, .bool false, .bool false, .bool false, .int .i64 0, .int .u64 0, .int .u32 0, .int .u64 0, .int .u16 0, .int .u16 0, .int .i64 0, .int .i64 0, .int .i64 0, .int .i64 0] 30 (0, 0)) := hq
       have hM_z6 : z6.heap[X0]? = some (.cells #[.int .i64 0, .bool false, .bool false, .bool false, .bool false, .bool false, .bool false, .int .i64 0, .int .u64 0, .int .u32 0, .int .u64 0, .int .u16 0, .int .u16 0, .int .i64 0, .int .i64 0, .int .i64 0, .int .i64 0] 30 (0, 0)) := (hm.heap (heap_lt hM_z5) (show ¬ X0 = R0 by omega)).trans hM_z5
       have E_z6 : Ext w z6 := Ext.mutE E_z5 hm (fun n hn h => by have h2 : n = R0 := h; omega)
       have rd_z6 : Rd z6 Q Q (xs.drop 4) false := rd_far rd_z5 hR_z5 rfl (by omega) hm
       clear hR_z5 hM_z5 rd_z5 E_z5
       clear hq hm))
  refine jump_ret hJ1 ?_
  refine bodyPost_ret (results_crt rfl _ _ _ _ _ (0, 0) _ rfl hR_z6 Try.underlying30 rfl (by kernel_rfl)) rfl ?_
  refine ⟨?_, E_z6⟩
  rfl
set_option maxRecDepth 100000 in
set_option maxHeartbeats 2000000 in
theorem dec_kind2 (v : Value) (xs : List Int) (w : World) (h : IsInts w .u8 v xs) (hx : ∀ x ∈ xs, 0 ≤ x ∧ x < 256) (hl : xs.length ≤ 100000) (h4 : 4 ≤ xs.length) (hf : (nu xs 0 2 != 0) = false) (hn : (nu xs 3 1 == 128) = false) (h2 : (nu xs 3 1 == 2) = true) (hv : decide (2 ≤ nu xs 2 1) = false) (hz0 : (nu xs 3 1 != 0) = true) : Calls Try.prog 21 #[v] w fun e w' => e = .returned (.tuple #[.agg #[.int .i64 Mg.zero.kd, .bool Mg.zero.ch, .bool Mg.zero.ak, .bool Mg.zero.pr, .bool Mg.zero.ag, .bool Mg.zero.ln, .bool Mg.zero.fw, .int .i64 Mg.zero.ro, .int .u64 Mg.zero.r, .int .u32 Mg.zero.c, .int .u64 Mg.zero.b, .int .u16 Mg.zero.p, .int .u16 Mg.zero.x, .int .i64 Mg.zero.a, .int .i64 Mg.zero.m, .int .i64 Mg.zero.h, .int .i64 Mg.zero.d], .int .i64 4]) ∧ Ext w w' := by
  have hz := zero_msg
  have hbz := zero_msg
  obtain ⟨av, cv, rfl, hlm, -⟩ := h.form
  go_enter Try.func21, Try.ntmps21
  go_wp2_with (first
    | fail
    | ((with_reducible refine at_alloc 30 ?_); refine al_zero rfl 30 rfl MZ zero_msg ?_
       intro R0 z1 hq hs hx
       have E_z1 : Ext w z1 := hx
       have hR_z1 : z1.heap[R0]? = some (.cells #[.int .i64 0, .bool false, .bool false, .bool false, .bool false, .bool false, .bool false, .int .i64 0, .int .u64 0, .int .u32 0, .int .u64 0, .int .u16 0, .int .u16 0, .int .i64 0, .int .i64 0, .int .i64 0, .int .i64 0] 30 (0, 0)) := hq
       have hb_R0 : w.heap.size ≤ R0 := by omega
       clear hq hs hx))
  refine scope_hid 2 (fun J0 hJ0 => ?_)
  go_wp2_with (first
    | fail
    | ((with_reducible refine at_alloc 30 ?_); refine al_zero rfl 30 rfl MZ zero_msg ?_
       intro X0 z2 hq hs hx
       have E_z2 : Ext w z2 := E_z1.trans hx
       have hR_z2 : z2.heap[R0]? = some (.cells #[.int .i64 0, .bool false, .bool false, .bool false, .bool false, .bool false, .bool false, .int .i64 0, .int .u64 0, .int .u32 0, .int .u64 0, .int .u16 0, .int .u16 0, .int .i64 0, .int .i64 0, .int .i64 0, .int .i64 0] 30 (0, 0)) := (hx.block _ (heap_lt hR_z1)).trans hR_z1
       have hM_z2 : z2.heap[X0]? = some (.cells #[.int .i64 0, .bool false, .bool false, .bool false, .bool false, .bool false, .bool false, .int .i64 0, .int .u64 0, .int .u32 0, .int .u64 0, .int .u16 0, .int .u16 0, .int .i64 0, .int .i64 0, .int .i64 0, .int .i64 0] 30 (0, 0)) := hq
       have hb_X0 : w.heap.size ≤ X0 := by have := E_z1.size; omega
       have hn_R0X0 : R0 ≠ X0 := by have := heap_lt hR_z1; omega
       clear hR_z1 E_z1
       clear hq hs hx))
  refine (new_any _ xs _ (h.ext E_z2) hx hl).mono ?_
  rintro e n1 ⟨Q, rfl, nrd, hQ, hx2⟩
  have E_n1 : Ext w n1 := E_z2.trans hx2
  have hR_n1 : n1.heap[R0]? = some (.cells #[.int .i64 0, .bool false, .bool false, .bool false, .bool false, .bool false, .bool false, .int .i64 0, .int .u64 0, .int .u32 0, .int .u64 0, .int .u16 0, .int .u16 0, .int .i64 0, .int .i64 0, .int .i64 0, .int .i64 0] 30 (0, 0)) := (hx2.block _ (heap_lt hR_z2)).trans hR_z2
  have hM_n1 : n1.heap[X0]? = some (.cells #[.int .i64 0, .bool false, .bool false, .bool false, .bool false, .bool false, .bool false, .int .i64 0, .int .u64 0, .int .u32 0, .int .u64 0, .int .u16 0, .int .u16 0, .int .i64 0, .int .i64 0, .int .i64 0, .int .i64 0] 30 (0, 0)) := (hx2.block _ (heap_lt hM_z2)).trans hM_z2
  have rd_n1 := nrd
  have hQR : Q ≠ R0 := by have := heap_lt hR_z2; omega
  have hQX : Q ≠ X0 := by have := heap_lt hM_z2; omega
  have hQw : w.heap.size ≤ Q := by have := E_z2.size; omega
  clear hR_z2 hM_z2 E_z2
  clear nrd hx2 hQ
  go_wp2_with fail
  refine (take_n Q xs 2 _ rd_n1 (by decide) (by decide) (by first | omega | (simp only [List.length_drop]; omega))).mono ?_
  rintro e z3 ⟨rfl, nrd, hm⟩
  have hR_z3 : z3.heap[R0]? = some (.cells #[.int .i64 0, .bool false, .bool false, .bool false, .bool false, .bool false, .bool false, .int .i64 0, .int .u64 0, .int .u32 0, .int .u64 0, .int .u16 0, .int .u16 0, .int .i64 0, .int .i64 0, .int .i64 0, .int .i64 0] 30 (0, 0)) := (hm.heap (heap_lt hR_n1) (show ¬ R0 = Q by omega)).trans hR_n1
  have hM_z3 : z3.heap[X0]? = some (.cells #[.int .i64 0, .bool false, .bool false, .bool false, .bool false, .bool false, .bool false, .int .i64 0, .int .u64 0, .int .u32 0, .int .u64 0, .int .u16 0, .int .u16 0, .int .i64 0, .int .i64 0, .int .i64 0, .int .i64 0] 30 (0, 0)) := (hm.heap (heap_lt hM_n1) (show ¬ X0 = Q by omega)).trans hM_n1
  have rd_z3 : Rd z3 Q Q (xs.drop 2) false := by simpa only [List.drop_drop] using nrd
  have E_z3 : Ext w z3 := Ext.mutE E_n1 hm (fun n hn h => by have h2 : n = Q := h; omega)
  clear hR_n1 hM_n1 rd_n1 E_n1
  clear hm nrd
  go_wp2_with fail
  refine (take_n Q (xs.drop 2) 1 _ rd_z3 (by decide) (by decide) (by first | omega | (simp only [List.length_drop]; omega))).mono ?_
  rintro e z4 ⟨rfl, nrd, hm⟩
  have hR_z4 : z4.heap[R0]? = some (.cells #[.int .i64 0, .bool false, .bool false, .bool false, .bool false, .bool false, .bool false, .int .i64 0, .int .u64 0, .int .u32 0, .int .u64 0, .int .u16 0, .int .u16 0, .int .i64 0, .int .i64 0, .int .i64 0, .int .i64 0] 30 (0, 0)) := (hm.heap (heap_lt hR_z3) (show ¬ R0 = Q by omega)).trans hR_z3
  have hM_z4 : z4.heap[X0]? = some (.cells #[.int .i64 0, .bool false, .bool false, .bool false, .bool false, .bool false, .bool false, .int .i64 0, .int .u64 0, .int .u32 0, .int .u64 0, .int .u16 0, .int .u16 0, .int .i64 0, .int .i64 0, .int .i64 0, .int .i64 0] 30 (0, 0)) := (hm.heap (heap_lt hM_z3) (show ¬ X0 = Q by omega)).trans hM_z3
  have rd_z4 : Rd z4 Q Q (xs.drop 3) false := by simpa only [List.drop_drop] using nrd
  have E_z4 : Ext w z4 := Ext.mutE E_z3 hm (fun n hn h => by have h2 : n = Q := h; omega)
  clear hR_z3 hM_z3 rd_z3 E_z3
  clear hm nrd
  rw [show nu (xs.drop 2) 0 1 = nu xs 2 1 from nu_drop xs 2 0 1]
  go_wp2_with fail
  refine (take_n Q (xs.drop 3) 1 _ rd_z4 (by decide) (by decide) (by first | omega | (simp only [List.length_drop]; omega))).mono ?_
  rintro e z5 ⟨rfl, nrd, hm⟩
  have hR_z5 : z5.heap[R0]? = some (.cells #[.int .i64 0, .bool false, .bool false, .bool false, .bool false, .bool false, .bool false, .int .i64 0, .int .u64 0, .int .u32 0, .int .u64 0, .int .u16 0, .int .u16 0, .int .i64 0, .int .i64 0, .int .i64 0, .int .i64 0] 30 (0, 0)) := (hm.heap (heap_lt hR_z4) (show ¬ R0 = Q by omega)).trans hR_z4
  have hM_z5 : z5.heap[X0]? = some (.cells #[.int .i64 0, .bool false, .bool false, .bool false, .bool false, .bool false, .bool false, .int .i64 0, .int .u64 0, .int .u32 0, .int .u64 0, .int .u16 0, .int .u16 0, .int .i64 0, .int .i64 0, .int .i64 0, .int .i64 0] 30 (0, 0)) := (hm.heap (heap_lt hM_z4) (show ¬ X0 = Q by omega)).trans hM_z4
  have rd_z5 : Rd z5 Q Q (xs.drop 4) false := by simpa only [List.drop_drop] using nrd
  have E_z5 : Ext w z5 := Ext.mutE E_z4 hm (fun n hn h => by have h2 : n = Q := h; omega)
  clear hR_z4 hM_z4 rd_z4 E_z4
  clear hm nrd
  rw [show nu (xs.drop 3) 0 1 = nu xs 3 1 from nu_drop xs 3 0 1]
  go_wp2_with fail
  refine (short_any Q _ _ _ rd_z5).mono ?_
  rintro e _ ⟨rfl, rfl⟩
  go_wp2_with fail
  try go_step3
  show J0 (Exit.goto 0) _ _
  refine jump_hid hJ0 rfl (fun J1 hJ1 => ?_)
  clear hJ0
  go_wp2_with (first
    | fail
    | ((with_reducible refine at_store 30 ?_); refine st_at rfl rfl 30 _ _ rfl R0 0 _ #[.int .i64 0, .bool false, .bool false, .bool false, .bool false, .bool false, .bool false, .int .i64 0, .int .u64 0, .int .u32 0, .int .u64 0, .int .u16 0, .int .u16 0, .int .i64 0, .int .i64 0, .int .i64 0, .int .i64 0] _ #[.int .i64 0, .bool false, .bool false, .bool false, .bool false, .bool false, .bool false, .int .i64 0, .int .u64 0, .int .u32 0, .int .u64 0, .int .u16 0, .int .u16 0, .int .i64 0, .int .i64 0, .int .i64 0, .int .i64 0] _ rfl rfl rfl hR_z5 (by exact (by decide : 0 + 17 ≤ 17)) (by kernel_rfl) rfl rfl ?_
       intro z6 hq hm
       have hR_z6 : z6.heap[R0]? = some (.cells #[.int .i64 0, .bool false, .bool false, .bool false, .bool false, .bool false, .bool false, .int .i64 0, .int .u64 0, .int .u32 0, .int .u64 0, .int .u16 0, .int .u16 0, .int .i64 0, .int .i64 0, .int .i64 0, .int .i64 0] 30 (0, 0)) := hq
       have hM_z6 : z6.heap[X0]? = some (.cells #[.int .i64 0, .bool false, .bool false, .bool false, .bool false, .bool false, .bool false, .int .i64 0, .int .u64 0, .int .u32 0, .int .u64 0, .int .u16 0, .int .u16 0, .int .i64 0, .int .i64 0, .int .i64 0, .int .i64 0] 30 (0, 0)) := (hm.heap (heap_lt hM_z5) (show ¬ X0 = R0 by omega)).trans hM_z5
       have E_z6 : Ext w z6 := Ext.mutE E_z5 hm (fun n hn h => by have h2 : n = R0 := h; omega)
       have rd_z6 : Rd z6 Q Q (xs.drop 4) false := rd_far rd_z5 hR_z5 rfl (by omega) hm
       clear hR_z5 hM_z5 rd_z5 E_z5
       clear hq hm))
  refine jump_ret hJ1 ?_
  refine bodyPost_ret (results_crt rfl _ _ _ _ _ (0, 0) _ rfl hR_z6 Try.underlying30 rfl (by kernel_rfl)) rfl ?_
  refine ⟨?_, E_z6⟩
  rfl
set_option maxRecDepth 100000 in
set_option maxHeartbeats 2000000 in
theorem dec_short2 (v : Value) (xs : List Int) (w : World) (h : IsInts w .u8 v xs) (hx : ∀ x ∈ xs, 0 ≤ x ∧ x < 256) (hl : xs.length ≤ 100000) (h4 : 4 ≤ xs.length) (hf : (nu xs 0 2 != 0) = false) (hn : (nu xs 3 1 == 128) = false) (h2 : (nu xs 3 1 == 2) = true) (hv : decide (2 ≤ nu xs 2 1) = true) (h36 : decide ((xs.length : Int) < 36) = true) : Calls Try.prog 21 #[v] w fun e w' => e = .returned (.tuple #[.agg #[.int .i64 Mg.zero.kd, .bool Mg.zero.ch, .bool Mg.zero.ak, .bool Mg.zero.pr, .bool Mg.zero.ag, .bool Mg.zero.ln, .bool Mg.zero.fw, .int .i64 Mg.zero.ro, .int .u64 Mg.zero.r, .int .u32 Mg.zero.c, .int .u64 Mg.zero.b, .int .u16 Mg.zero.p, .int .u16 Mg.zero.x, .int .i64 Mg.zero.a, .int .i64 Mg.zero.m, .int .i64 Mg.zero.h, .int .i64 Mg.zero.d], .int .i64 2]) ∧ Ext w w' := by
  have hz := zero_msg
  have hbz := zero_msg
  obtain ⟨av, cv, rfl, hlm, -⟩ := h.form
  go_enter Try.func21, Try.ntmps21
  go_wp2_with (first
    | fail
    | ((with_reducible refine at_alloc 30 ?_); refine al_zero rfl 30 rfl MZ zero_msg ?_
       intro R0 z1 hq hs hx
       have E_z1 : Ext w z1 := hx
       have hR_z1 : z1.heap[R0]? = some (.cells #[.int .i64 0, .bool false, .bool false, .bool false, .bool false, .bool false, .bool false, .int .i64 0, .int .u64 0, .int .u32 0, .int .u64 0, .int .u16 0, .int .u16 0, .int .i64 0, .int .i64 0, .int .i64 0, .int .i64 0] 30 (0, 0)) := hq
       have hb_R0 : w.heap.size ≤ R0 := by omega
       clear hq hs hx))
  refine scope_hid 2 (fun J0 hJ0 => ?_)
  go_wp2_with (first
    | fail
    | ((with_reducible refine at_alloc 30 ?_); refine al_zero rfl 30 rfl MZ zero_msg ?_
       intro X0 z2 hq hs hx
       have E_z2 : Ext w z2 := E_z1.trans hx
       have hR_z2 : z2.heap[R0]? = some (.cells #[.int .i64 0, .bool false, .bool false, .bool false, .bool false, .bool false, .bool false, .int .i64 0, .int .u64 0, .int .u32 0, .int .u64 0, .int .u16 0, .int .u16 0, .int .i64 0, .int .i64 0, .int .i64 0, .int .i64 0] 30 (0, 0)) := (hx.block _ (heap_lt hR_z1)).trans hR_z1
       have hM_z2 : z2.heap[X0]? = some (.cells #[.int .i64 0, .bool false, .bool false, .bool false, .bool false, .bool false, .bool false, .int .i64 0, .int .u64 0, .int .u32 0, .int .u64 0, .int .u16 0, .int .u16 0, .int .i64 0, .int .i64 0, .int .i64 0, .int .i64 0] 30 (0, 0)) := hq
       have hb_X0 : w.heap.size ≤ X0 := by have := E_z1.size; omega
       have hn_R0X0 : R0 ≠ X0 := by have := heap_lt hR_z1; omega
       clear hR_z1 E_z1
       clear hq hs hx))
  refine (new_any _ xs _ (h.ext E_z2) hx hl).mono ?_
  rintro e n1 ⟨Q, rfl, nrd, hQ, hx2⟩
  have E_n1 : Ext w n1 := E_z2.trans hx2
  have hR_n1 : n1.heap[R0]? = some (.cells #[.int .i64 0, .bool false, .bool false, .bool false, .bool false, .bool false, .bool false, .int .i64 0, .int .u64 0, .int .u32 0, .int .u64 0, .int .u16 0, .int .u16 0, .int .i64 0, .int .i64 0, .int .i64 0, .int .i64 0] 30 (0, 0)) := (hx2.block _ (heap_lt hR_z2)).trans hR_z2
  have hM_n1 : n1.heap[X0]? = some (.cells #[.int .i64 0, .bool false, .bool false, .bool false, .bool false, .bool false, .bool false, .int .i64 0, .int .u64 0, .int .u32 0, .int .u64 0, .int .u16 0, .int .u16 0, .int .i64 0, .int .i64 0, .int .i64 0, .int .i64 0] 30 (0, 0)) := (hx2.block _ (heap_lt hM_z2)).trans hM_z2
  have rd_n1 := nrd
  have hQR : Q ≠ R0 := by have := heap_lt hR_z2; omega
  have hQX : Q ≠ X0 := by have := heap_lt hM_z2; omega
  have hQw : w.heap.size ≤ Q := by have := E_z2.size; omega
  clear hR_z2 hM_z2 E_z2
  clear nrd hx2 hQ
  go_wp2_with fail
  refine (take_n Q xs 2 _ rd_n1 (by decide) (by decide) (by first | omega | (simp only [List.length_drop]; omega))).mono ?_
  rintro e z3 ⟨rfl, nrd, hm⟩
  have hR_z3 : z3.heap[R0]? = some (.cells #[.int .i64 0, .bool false, .bool false, .bool false, .bool false, .bool false, .bool false, .int .i64 0, .int .u64 0, .int .u32 0, .int .u64 0, .int .u16 0, .int .u16 0, .int .i64 0, .int .i64 0, .int .i64 0, .int .i64 0] 30 (0, 0)) := (hm.heap (heap_lt hR_n1) (show ¬ R0 = Q by omega)).trans hR_n1
  have hM_z3 : z3.heap[X0]? = some (.cells #[.int .i64 0, .bool false, .bool false, .bool false, .bool false, .bool false, .bool false, .int .i64 0, .int .u64 0, .int .u32 0, .int .u64 0, .int .u16 0, .int .u16 0, .int .i64 0, .int .i64 0, .int .i64 0, .int .i64 0] 30 (0, 0)) := (hm.heap (heap_lt hM_n1) (show ¬ X0 = Q by omega)).trans hM_n1
  have rd_z3 : Rd z3 Q Q (xs.drop 2) false := by simpa only [List.drop_drop] using nrd
  have E_z3 : Ext w z3 := Ext.mutE E_n1 hm (fun n hn h => by have h2 : n = Q := h; omega)
  clear hR_n1 hM_n1 rd_n1 E_n1
  clear hm nrd
  go_wp2_with fail
  refine (take_n Q (xs.drop 2) 1 _ rd_z3 (by decide) (by decide) (by first | omega | (simp only [List.length_drop]; omega))).mono ?_
  rintro e z4 ⟨rfl, nrd, hm⟩
  have hR_z4 : z4.heap[R0]? = some (.cells #[.int .i64 0, .bool false, .bool false, .bool false, .bool false, .bool false, .bool false, .int .i64 0, .int .u64 0, .int .u32 0, .int .u64 0, .int .u16 0, .int .u16 0, .int .i64 0, .int .i64 0, .int .i64 0, .int .i64 0] 30 (0, 0)) := (hm.heap (heap_lt hR_z3) (show ¬ R0 = Q by omega)).trans hR_z3
  have hM_z4 : z4.heap[X0]? = some (.cells #[.int .i64 0, .bool false, .bool false, .bool false, .bool false, .bool false, .bool false, .int .i64 0, .int .u64 0, .int .u32 0, .int .u64 0, .int .u16 0, .int .u16 0, .int .i64 0, .int .i64 0, .int .i64 0, .int .i64 0] 30 (0, 0)) := (hm.heap (heap_lt hM_z3) (show ¬ X0 = Q by omega)).trans hM_z3
  have rd_z4 : Rd z4 Q Q (xs.drop 3) false := by simpa only [List.drop_drop] using nrd
  have E_z4 : Ext w z4 := Ext.mutE E_z3 hm (fun n hn h => by have h2 : n = Q := h; omega)
  clear hR_z3 hM_z3 rd_z3 E_z3
  clear hm nrd
  rw [show nu (xs.drop 2) 0 1 = nu xs 2 1 from nu_drop xs 2 0 1]
  go_wp2_with fail
  refine (take_n Q (xs.drop 3) 1 _ rd_z4 (by decide) (by decide) (by first | omega | (simp only [List.length_drop]; omega))).mono ?_
  rintro e z5 ⟨rfl, nrd, hm⟩
  have hR_z5 : z5.heap[R0]? = some (.cells #[.int .i64 0, .bool false, .bool false, .bool false, .bool false, .bool false, .bool false, .int .i64 0, .int .u64 0, .int .u32 0, .int .u64 0, .int .u16 0, .int .u16 0, .int .i64 0, .int .i64 0, .int .i64 0, .int .i64 0] 30 (0, 0)) := (hm.heap (heap_lt hR_z4) (show ¬ R0 = Q by omega)).trans hR_z4
  have hM_z5 : z5.heap[X0]? = some (.cells #[.int .i64 0, .bool false, .bool false, .bool false, .bool false, .bool false, .bool false, .int .i64 0, .int .u64 0, .int .u32 0, .int .u64 0, .int .u16 0, .int .u16 0, .int .i64 0, .int .i64 0, .int .i64 0, .int .i64 0] 30 (0, 0)) := (hm.heap (heap_lt hM_z4) (show ¬ X0 = Q by omega)).trans hM_z4
  have rd_z5 : Rd z5 Q Q (xs.drop 4) false := by simpa only [List.drop_drop] using nrd
  have E_z5 : Ext w z5 := Ext.mutE E_z4 hm (fun n hn h => by have h2 : n = Q := h; omega)
  clear hR_z4 hM_z4 rd_z4 E_z4
  clear hm nrd
  rw [show nu (xs.drop 3) 0 1 = nu xs 3 1 from nu_drop xs 3 0 1]
  go_wp2_with fail
  refine (short_any Q _ _ _ rd_z5).mono ?_
  rintro e _ ⟨rfl, rfl⟩
  go_wp2_with fail
  try go_step3
  show J0 (Exit.goto 0) _ _
  refine jump_hid hJ0 rfl (fun J1 hJ1 => ?_)
  clear hJ0
  go_wp2_with (first
    | fail
    | ((with_reducible refine at_store 30 ?_); refine st_at rfl rfl 30 _ _ rfl R0 0 _ #[.int .i64 0, .bool false, .bool false, .bool false, .bool false, .bool false, .bool false, .int .i64 0, .int .u64 0, .int .u32 0, .int .u64 0, .int .u16 0, .int .u16 0, .int .i64 0, .int .i64 0, .int .i64 0, .int .i64 0] _ #[.int .i64 0, .bool false, .bool false, .bool false, .bool false, .bool false, .bool false, .int .i64 0, .int .u64 0, .int .u32 0, .int .u64 0, .int .u16 0, .int .u16 0, .int .i64 0, .int .i64 0, .int .i64 0, .int .i64 0] _ rfl rfl rfl hR_z5 (by exact (by decide : 0 + 17 ≤ 17)) (by kernel_rfl) rfl rfl ?_
       intro z6 hq hm
       have hR_z6 : z6.heap[R0]? = some (.cells #[.int .i64 0, .bool false, .bool false, .bool false, .bool false, .bool false, .bool false, .int .i64 0, .int .u64 0, .int .u32 0, .int .u64 0, .int .u16 0, .int .u16 0, .int .i64 0, .int .i64 0, .int .i64 0, .int .i64 0] 30 (0, 0)) := hq
       have hM_z6 : z6.heap[X0]? = some (.cells #[.int .i64 0, .bool false, .bool false, .bool false, .bool false, .bool false, .bool false, .int .i64 0, .int .u64 0, .int .u32 0, .int .u64 0, .int .u16 0, .int .u16 0, .int .i64 0, .int .i64 0, .int .i64 0, .int .i64 0] 30 (0, 0)) := (hm.heap (heap_lt hM_z5) (show ¬ X0 = R0 by omega)).trans hM_z5
       have E_z6 : Ext w z6 := Ext.mutE E_z5 hm (fun n hn h => by have h2 : n = R0 := h; omega)
       have rd_z6 : Rd z6 Q Q (xs.drop 4) false := rd_far rd_z5 hR_z5 rfl (by omega) hm
       clear hR_z5 hM_z5 rd_z5 E_z5
       clear hq hm))
  refine jump_ret hJ1 ?_
  refine bodyPost_ret (results_crt rfl _ _ _ _ _ (0, 0) _ rfl hR_z6 Try.underlying30 rfl (by kernel_rfl)) rfl ?_
  refine ⟨?_, E_z6⟩
  rfl
set_option maxRecDepth 100000 in
set_option maxHeartbeats 2000000 in
theorem dec_short0 (v : Value) (xs : List Int) (w : World) (h : IsInts w .u8 v xs) (hx : ∀ x ∈ xs, 0 ≤ x ∧ x < 256) (hl : xs.length ≤ 100000) (h4 : 4 ≤ xs.length) (hf : (nu xs 0 2 != 0) = false) (hn : (nu xs 3 1 == 128) = false) (h2 : (nu xs 3 1 == 2) = false) (hz0 : (nu xs 3 1 != 0) = false) (h35 : decide ((xs.length : Int) < 35) = true) : Calls Try.prog 21 #[v] w fun e w' => e = .returned (.tuple #[.agg #[.int .i64 Mg.zero.kd, .bool Mg.zero.ch, .bool Mg.zero.ak, .bool Mg.zero.pr, .bool Mg.zero.ag, .bool Mg.zero.ln, .bool Mg.zero.fw, .int .i64 Mg.zero.ro, .int .u64 Mg.zero.r, .int .u32 Mg.zero.c, .int .u64 Mg.zero.b, .int .u16 Mg.zero.p, .int .u16 Mg.zero.x, .int .i64 Mg.zero.a, .int .i64 Mg.zero.m, .int .i64 Mg.zero.h, .int .i64 Mg.zero.d], .int .i64 2]) ∧ Ext w w' := by
  have hz := zero_msg
  have hbz := zero_msg
  obtain ⟨av, cv, rfl, hlm, -⟩ := h.form
  go_enter Try.func21, Try.ntmps21
  go_wp2_with (first
    | fail
    | ((with_reducible refine at_alloc 30 ?_); refine al_zero rfl 30 rfl MZ zero_msg ?_
       intro R0 z1 hq hs hx
       have E_z1 : Ext w z1 := hx
       have hR_z1 : z1.heap[R0]? = some (.cells #[.int .i64 0, .bool false, .bool false, .bool false, .bool false, .bool false, .bool false, .int .i64 0, .int .u64 0, .int .u32 0, .int .u64 0, .int .u16 0, .int .u16 0, .int .i64 0, .int .i64 0, .int .i64 0, .int .i64 0] 30 (0, 0)) := hq
       have hb_R0 : w.heap.size ≤ R0 := by omega
       clear hq hs hx))
  refine scope_hid 2 (fun J0 hJ0 => ?_)
  go_wp2_with (first
    | fail
    | ((with_reducible refine at_alloc 30 ?_); refine al_zero rfl 30 rfl MZ zero_msg ?_
       intro X0 z2 hq hs hx
       have E_z2 : Ext w z2 := E_z1.trans hx
       have hR_z2 : z2.heap[R0]? = some (.cells #[.int .i64 0, .bool false, .bool false, .bool false, .bool false, .bool false, .bool false, .int .i64 0, .int .u64 0, .int .u32 0, .int .u64 0, .int .u16 0, .int .u16 0, .int .i64 0, .int .i64 0, .int .i64 0, .int .i64 0] 30 (0, 0)) := (hx.block _ (heap_lt hR_z1)).trans hR_z1
       have hM_z2 : z2.heap[X0]? = some (.cells #[.int .i64 0, .bool false, .bool false, .bool false, .bool false, .bool false, .bool false, .int .i64 0, .int .u64 0, .int .u32 0, .int .u64 0, .int .u16 0, .int .u16 0, .int .i64 0, .int .i64 0, .int .i64 0, .int .i64 0] 30 (0, 0)) := hq
       have hb_X0 : w.heap.size ≤ X0 := by have := E_z1.size; omega
       have hn_R0X0 : R0 ≠ X0 := by have := heap_lt hR_z1; omega
       clear hR_z1 E_z1
       clear hq hs hx))
  refine (new_any _ xs _ (h.ext E_z2) hx hl).mono ?_
  rintro e n1 ⟨Q, rfl, nrd, hQ, hx2⟩
  have E_n1 : Ext w n1 := E_z2.trans hx2
  have hR_n1 : n1.heap[R0]? = some (.cells #[.int .i64 0, .bool false, .bool false, .bool false, .bool false, .bool false, .bool false, .int .i64 0, .int .u64 0, .int .u32 0, .int .u64 0, .int .u16 0, .int .u16 0, .int .i64 0, .int .i64 0, .int .i64 0, .int .i64 0] 30 (0, 0)) := (hx2.block _ (heap_lt hR_z2)).trans hR_z2
  have hM_n1 : n1.heap[X0]? = some (.cells #[.int .i64 0, .bool false, .bool false, .bool false, .bool false, .bool false, .bool false, .int .i64 0, .int .u64 0, .int .u32 0, .int .u64 0, .int .u16 0, .int .u16 0, .int .i64 0, .int .i64 0, .int .i64 0, .int .i64 0] 30 (0, 0)) := (hx2.block _ (heap_lt hM_z2)).trans hM_z2
  have rd_n1 := nrd
  have hQR : Q ≠ R0 := by have := heap_lt hR_z2; omega
  have hQX : Q ≠ X0 := by have := heap_lt hM_z2; omega
  have hQw : w.heap.size ≤ Q := by have := E_z2.size; omega
  clear hR_z2 hM_z2 E_z2
  clear nrd hx2 hQ
  go_wp2_with fail
  refine (take_n Q xs 2 _ rd_n1 (by decide) (by decide) (by first | omega | (simp only [List.length_drop]; omega))).mono ?_
  rintro e z3 ⟨rfl, nrd, hm⟩
  have hR_z3 : z3.heap[R0]? = some (.cells #[.int .i64 0, .bool false, .bool false, .bool false, .bool false, .bool false, .bool false, .int .i64 0, .int .u64 0, .int .u32 0, .int .u64 0, .int .u16 0, .int .u16 0, .int .i64 0, .int .i64 0, .int .i64 0, .int .i64 0] 30 (0, 0)) := (hm.heap (heap_lt hR_n1) (show ¬ R0 = Q by omega)).trans hR_n1
  have hM_z3 : z3.heap[X0]? = some (.cells #[.int .i64 0, .bool false, .bool false, .bool false, .bool false, .bool false, .bool false, .int .i64 0, .int .u64 0, .int .u32 0, .int .u64 0, .int .u16 0, .int .u16 0, .int .i64 0, .int .i64 0, .int .i64 0, .int .i64 0] 30 (0, 0)) := (hm.heap (heap_lt hM_n1) (show ¬ X0 = Q by omega)).trans hM_n1
  have rd_z3 : Rd z3 Q Q (xs.drop 2) false := by simpa only [List.drop_drop] using nrd
  have E_z3 : Ext w z3 := Ext.mutE E_n1 hm (fun n hn h => by have h2 : n = Q := h; omega)
  clear hR_n1 hM_n1 rd_n1 E_n1
  clear hm nrd
  go_wp2_with fail
  refine (take_n Q (xs.drop 2) 1 _ rd_z3 (by decide) (by decide) (by first | omega | (simp only [List.length_drop]; omega))).mono ?_
  rintro e z4 ⟨rfl, nrd, hm⟩
  have hR_z4 : z4.heap[R0]? = some (.cells #[.int .i64 0, .bool false, .bool false, .bool false, .bool false, .bool false, .bool false, .int .i64 0, .int .u64 0, .int .u32 0, .int .u64 0, .int .u16 0, .int .u16 0, .int .i64 0, .int .i64 0, .int .i64 0, .int .i64 0] 30 (0, 0)) := (hm.heap (heap_lt hR_z3) (show ¬ R0 = Q by omega)).trans hR_z3
  have hM_z4 : z4.heap[X0]? = some (.cells #[.int .i64 0, .bool false, .bool false, .bool false, .bool false, .bool false, .bool false, .int .i64 0, .int .u64 0, .int .u32 0, .int .u64 0, .int .u16 0, .int .u16 0, .int .i64 0, .int .i64 0, .int .i64 0, .int .i64 0] 30 (0, 0)) := (hm.heap (heap_lt hM_z3) (show ¬ X0 = Q by omega)).trans hM_z3
  have rd_z4 : Rd z4 Q Q (xs.drop 3) false := by simpa only [List.drop_drop] using nrd
  have E_z4 : Ext w z4 := Ext.mutE E_z3 hm (fun n hn h => by have h2 : n = Q := h; omega)
  clear hR_z3 hM_z3 rd_z3 E_z3
  clear hm nrd
  rw [show nu (xs.drop 2) 0 1 = nu xs 2 1 from nu_drop xs 2 0 1]
  go_wp2_with fail
  refine (take_n Q (xs.drop 3) 1 _ rd_z4 (by decide) (by decide) (by first | omega | (simp only [List.length_drop]; omega))).mono ?_
  rintro e z5 ⟨rfl, nrd, hm⟩
  have hR_z5 : z5.heap[R0]? = some (.cells #[.int .i64 0, .bool false, .bool false, .bool false, .bool false, .bool false, .bool false, .int .i64 0, .int .u64 0, .int .u32 0, .int .u64 0, .int .u16 0, .int .u16 0, .int .i64 0, .int .i64 0, .int .i64 0, .int .i64 0] 30 (0, 0)) := (hm.heap (heap_lt hR_z4) (show ¬ R0 = Q by omega)).trans hR_z4
  have hM_z5 : z5.heap[X0]? = some (.cells #[.int .i64 0, .bool false, .bool false, .bool false, .bool false, .bool false, .bool false, .int .i64 0, .int .u64 0, .int .u32 0, .int .u64 0, .int .u16 0, .int .u16 0, .int .i64 0, .int .i64 0, .int .i64 0, .int .i64 0] 30 (0, 0)) := (hm.heap (heap_lt hM_z4) (show ¬ X0 = Q by omega)).trans hM_z4
  have rd_z5 : Rd z5 Q Q (xs.drop 4) false := by simpa only [List.drop_drop] using nrd
  have E_z5 : Ext w z5 := Ext.mutE E_z4 hm (fun n hn h => by have h2 : n = Q := h; omega)
  clear hR_z4 hM_z4 rd_z4 E_z4
  clear hm nrd
  rw [show nu (xs.drop 3) 0 1 = nu xs 3 1 from nu_drop xs 3 0 1]
  go_wp2_with fail
  refine (short_any Q _ _ _ rd_z5).mono ?_
  rintro e _ ⟨rfl, rfl⟩
  go_wp2_with fail
  try go_step3
  show J0 (Exit.goto 0) _ _
  refine jump_hid hJ0 rfl (fun J1 hJ1 => ?_)
  clear hJ0
  go_wp2_with (first
    | fail
    | ((with_reducible refine at_store 30 ?_); refine st_at rfl rfl 30 _ _ rfl R0 0 _ #[.int .i64 0, .bool false, .bool false, .bool false, .bool false, .bool false, .bool false, .int .i64 0, .int .u64 0, .int .u32 0, .int .u64 0, .int .u16 0, .int .u16 0, .int .i64 0, .int .i64 0, .int .i64 0, .int .i64 0] _ #[.int .i64 0, .bool false, .bool false, .bool false, .bool false, .bool false, .bool false, .int .i64 0, .int .u64 0, .int .u32 0, .int .u64 0, .int .u16 0, .int .u16 0, .int .i64 0, .int .i64 0, .int .i64 0, .int .i64 0] _ rfl rfl rfl hR_z5 (by exact (by decide : 0 + 17 ≤ 17)) (by kernel_rfl) rfl rfl ?_
       intro z6 hq hm
       have hR_z6 : z6.heap[R0]? = some (.cells #[.int .i64 0, .bool false, .bool false, .bool false, .bool false, .bool false, .bool false, .int .i64 0, .int .u64 0, .int .u32 0, .int .u64 0, .int .u16 0, .int .u16 0, .int .i64 0, .int .i64 0, .int .i64 0, .int .i64 0] 30 (0, 0)) := hq
       have hM_z6 : z6.heap[X0]? = some (.cells #[.int .i64 0, .bool false, .bool false, .bool false, .bool false, .bool false, .bool false, .int .i64 0, .int .u64 0, .int .u32 0, .int .u64 0, .int .u16 0, .int .u16 0, .int .i64 0, .int .i64 0, .int .i64 0, .int .i64 0] 30 (0, 0)) := (hm.heap (heap_lt hM_z5) (show ¬ X0 = R0 by omega)).trans hM_z5
       have E_z6 : Ext w z6 := Ext.mutE E_z5 hm (fun n hn h => by have h2 : n = R0 := h; omega)
       have rd_z6 : Rd z6 Q Q (xs.drop 4) false := rd_far rd_z5 hR_z5 rfl (by omega) hm
       clear hR_z5 hM_z5 rd_z5 E_z5
       clear hq hm))
  refine jump_ret hJ1 ?_
  refine bodyPost_ret (results_crt rfl _ _ _ _ _ (0, 0) _ rfl hR_z6 Try.underlying30 rfl (by kernel_rfl)) rfl ?_
  refine ⟨?_, E_z6⟩
  rfl
set_option maxRecDepth 100000 in
set_option maxHeartbeats 2000000 in
theorem dec_rst (v : Value) (xs : List Int) (w : World) (h : IsInts w .u8 v xs) (hx : ∀ x ∈ xs, 0 ≤ x ∧ x < 256) (hl : xs.length ≤ 100000) (h4 : 4 ≤ xs.length) (hf : (nu xs 0 2 != 0) = false) (hn : (nu xs 3 1 == 128) = false) (h2 : (nu xs 3 1 == 2) = true) (hv : decide (2 ≤ nu xs 2 1) = true) (h36 : decide ((xs.length : Int) < 36) = false) (h35 : 36 ≤ xs.length) : Calls Try.prog 21 #[v] w fun e w' => e = .returned (.tuple #[.agg #[.int .i64 2, .bool (isB (nu xs 4 1) 1), .bool (isB (nu xs 4 1) 128), .bool (isB (nu xs 4 1) 2), .bool (isB (nu xs 4 1) 64), .bool (isB (nu xs 4 1) 16), .bool (isB (nu xs 4 1) 32), .int .i64 (roB (bits .and .u64 (nu xs 4 1 / 4) 3)), .int .u64 (nu xs 5 8), .int .u32 (nu xs 13 4), .int .u64 (nu xs 17 8), .int .u16 (nu xs 25 2), .int .u16 0, .int .i64 (fromV (nu xs 27 2)), .int .i64 (fromV (nu xs 29 2)), .int .i64 (fromV (nu xs 31 2)), .int .i64 (fromV (nu xs 33 2))], .int .i64 0]) ∧ Ext w w' := by
  have hz := zero_msg
  have hbz := zero_msg
  obtain ⟨av, cv, rfl, hlm, -⟩ := h.form
  go_enter Try.func21, Try.ntmps21
  go_wp2_with (first
    | fail
    | ((with_reducible refine at_alloc 30 ?_); refine al_zero rfl 30 rfl MZ zero_msg ?_
       intro R0 z1 hq hs hx
       have E_z1 : Ext w z1 := hx
       have hR_z1 : z1.heap[R0]? = some (.cells #[.int .i64 0, .bool false, .bool false, .bool false, .bool false, .bool false, .bool false, .int .i64 0, .int .u64 0, .int .u32 0, .int .u64 0, .int .u16 0, .int .u16 0, .int .i64 0, .int .i64 0, .int .i64 0, .int .i64 0] 30 (0, 0)) := hq
       have hb_R0 : w.heap.size ≤ R0 := by omega
       clear hq hs hx))
  refine scope_hid 2 (fun J0 hJ0 => ?_)
  go_wp2_with (first
    | fail
    | ((with_reducible refine at_alloc 30 ?_); refine al_zero rfl 30 rfl MZ zero_msg ?_
       intro X0 z2 hq hs hx
       have E_z2 : Ext w z2 := E_z1.trans hx
       have hR_z2 : z2.heap[R0]? = some (.cells #[.int .i64 0, .bool false, .bool false, .bool false, .bool false, .bool false, .bool false, .int .i64 0, .int .u64 0, .int .u32 0, .int .u64 0, .int .u16 0, .int .u16 0, .int .i64 0, .int .i64 0, .int .i64 0, .int .i64 0] 30 (0, 0)) := (hx.block _ (heap_lt hR_z1)).trans hR_z1
       have hM_z2 : z2.heap[X0]? = some (.cells #[.int .i64 0, .bool false, .bool false, .bool false, .bool false, .bool false, .bool false, .int .i64 0, .int .u64 0, .int .u32 0, .int .u64 0, .int .u16 0, .int .u16 0, .int .i64 0, .int .i64 0, .int .i64 0, .int .i64 0] 30 (0, 0)) := hq
       have hb_X0 : w.heap.size ≤ X0 := by have := E_z1.size; omega
       have hn_R0X0 : R0 ≠ X0 := by have := heap_lt hR_z1; omega
       clear hR_z1 E_z1
       clear hq hs hx))
  refine (new_any _ xs _ (h.ext E_z2) hx hl).mono ?_
  rintro e n1 ⟨Q, rfl, nrd, hQ, hx2⟩
  have E_n1 : Ext w n1 := E_z2.trans hx2
  have hR_n1 : n1.heap[R0]? = some (.cells #[.int .i64 0, .bool false, .bool false, .bool false, .bool false, .bool false, .bool false, .int .i64 0, .int .u64 0, .int .u32 0, .int .u64 0, .int .u16 0, .int .u16 0, .int .i64 0, .int .i64 0, .int .i64 0, .int .i64 0] 30 (0, 0)) := (hx2.block _ (heap_lt hR_z2)).trans hR_z2
  have hM_n1 : n1.heap[X0]? = some (.cells #[.int .i64 0, .bool false, .bool false, .bool false, .bool false, .bool false, .bool false, .int .i64 0, .int .u64 0, .int .u32 0, .int .u64 0, .int .u16 0, .int .u16 0, .int .i64 0, .int .i64 0, .int .i64 0, .int .i64 0] 30 (0, 0)) := (hx2.block _ (heap_lt hM_z2)).trans hM_z2
  have rd_n1 := nrd
  have hQR : Q ≠ R0 := by have := heap_lt hR_z2; omega
  have hQX : Q ≠ X0 := by have := heap_lt hM_z2; omega
  have hQw : w.heap.size ≤ Q := by have := E_z2.size; omega
  clear hR_z2 hM_z2 E_z2
  clear nrd hx2 hQ
  go_wp2_with fail
  refine (take_n Q xs 2 _ rd_n1 (by decide) (by decide) (by first | omega | (simp only [List.length_drop]; omega))).mono ?_
  rintro e z3 ⟨rfl, nrd, hm⟩
  have hR_z3 : z3.heap[R0]? = some (.cells #[.int .i64 0, .bool false, .bool false, .bool false, .bool false, .bool false, .bool false, .int .i64 0, .int .u64 0, .int .u32 0, .int .u64 0, .int .u16 0, .int .u16 0, .int .i64 0, .int .i64 0, .int .i64 0, .int .i64 0] 30 (0, 0)) := (hm.heap (heap_lt hR_n1) (show ¬ R0 = Q by omega)).trans hR_n1
  have hM_z3 : z3.heap[X0]? = some (.cells #[.int .i64 0, .bool false, .bool false, .bool false, .bool false, .bool false, .bool false, .int .i64 0, .int .u64 0, .int .u32 0, .int .u64 0, .int .u16 0, .int .u16 0, .int .i64 0, .int .i64 0, .int .i64 0, .int .i64 0] 30 (0, 0)) := (hm.heap (heap_lt hM_n1) (show ¬ X0 = Q by omega)).trans hM_n1
  have rd_z3 : Rd z3 Q Q (xs.drop 2) false := by simpa only [List.drop_drop] using nrd
  have E_z3 : Ext w z3 := Ext.mutE E_n1 hm (fun n hn h => by have h2 : n = Q := h; omega)
  clear hR_n1 hM_n1 rd_n1 E_n1
  clear hm nrd
  go_wp2_with fail
  refine (take_n Q (xs.drop 2) 1 _ rd_z3 (by decide) (by decide) (by first | omega | (simp only [List.length_drop]; omega))).mono ?_
  rintro e z4 ⟨rfl, nrd, hm⟩
  have hR_z4 : z4.heap[R0]? = some (.cells #[.int .i64 0, .bool false, .bool false, .bool false, .bool false, .bool false, .bool false, .int .i64 0, .int .u64 0, .int .u32 0, .int .u64 0, .int .u16 0, .int .u16 0, .int .i64 0, .int .i64 0, .int .i64 0, .int .i64 0] 30 (0, 0)) := (hm.heap (heap_lt hR_z3) (show ¬ R0 = Q by omega)).trans hR_z3
  have hM_z4 : z4.heap[X0]? = some (.cells #[.int .i64 0, .bool false, .bool false, .bool false, .bool false, .bool false, .bool false, .int .i64 0, .int .u64 0, .int .u32 0, .int .u64 0, .int .u16 0, .int .u16 0, .int .i64 0, .int .i64 0, .int .i64 0, .int .i64 0] 30 (0, 0)) := (hm.heap (heap_lt hM_z3) (show ¬ X0 = Q by omega)).trans hM_z3
  have rd_z4 : Rd z4 Q Q (xs.drop 3) false := by simpa only [List.drop_drop] using nrd
  have E_z4 : Ext w z4 := Ext.mutE E_z3 hm (fun n hn h => by have h2 : n = Q := h; omega)
  clear hR_z3 hM_z3 rd_z3 E_z3
  clear hm nrd
  rw [show nu (xs.drop 2) 0 1 = nu xs 2 1 from nu_drop xs 2 0 1]
  go_wp2_with fail
  refine (take_n Q (xs.drop 3) 1 _ rd_z4 (by decide) (by decide) (by first | omega | (simp only [List.length_drop]; omega))).mono ?_
  rintro e z5 ⟨rfl, nrd, hm⟩
  have hR_z5 : z5.heap[R0]? = some (.cells #[.int .i64 0, .bool false, .bool false, .bool false, .bool false, .bool false, .bool false, .int .i64 0, .int .u64 0, .int .u32 0, .int .u64 0, .int .u16 0, .int .u16 0, .int .i64 0, .int .i64 0, .int .i64 0, .int .i64 0] 30 (0, 0)) := (hm.heap (heap_lt hR_z4) (show ¬ R0 = Q by omega)).trans hR_z4
  have hM_z5 : z5.heap[X0]? = some (.cells #[.int .i64 0, .bool false, .bool false, .bool false, .bool false, .bool false, .bool false, .int .i64 0, .int .u64 0, .int .u32 0, .int .u64 0, .int .u16 0, .int .u16 0, .int .i64 0, .int .i64 0, .int .i64 0, .int .i64 0] 30 (0, 0)) := (hm.heap (heap_lt hM_z4) (show ¬ X0 = Q by omega)).trans hM_z4
  have rd_z5 : Rd z5 Q Q (xs.drop 4) false := by simpa only [List.drop_drop] using nrd
  have E_z5 : Ext w z5 := Ext.mutE E_z4 hm (fun n hn h => by have h2 : n = Q := h; omega)
  clear hR_z4 hM_z4 rd_z4 E_z4
  clear hm nrd
  rw [show nu (xs.drop 3) 0 1 = nu xs 3 1 from nu_drop xs 3 0 1]
  go_wp2_with fail
  refine (short_any Q _ _ _ rd_z5).mono ?_
  rintro e _ ⟨rfl, rfl⟩
  have hg41 := nu_rg hx 4 1
  go_wp2_with fail
  refine (take_n Q (xs.drop 4) 1 _ rd_z5 (by decide) (by decide) (by first | omega | (simp only [List.length_drop]; omega))).mono ?_
  rintro e z6 ⟨rfl, nrd, hm⟩
  have hR_z6 : z6.heap[R0]? = some (.cells #[.int .i64 0, .bool false, .bool false, .bool false, .bool false, .bool false, .bool false, .int .i64 0, .int .u64 0, .int .u32 0, .int .u64 0, .int .u16 0, .int .u16 0, .int .i64 0, .int .i64 0, .int .i64 0, .int .i64 0] 30 (0, 0)) := (hm.heap (heap_lt hR_z5) (show ¬ R0 = Q by omega)).trans hR_z5
  have hM_z6 : z6.heap[X0]? = some (.cells #[.int .i64 0, .bool false, .bool false, .bool false, .bool false, .bool false, .bool false, .int .i64 0, .int .u64 0, .int .u32 0, .int .u64 0, .int .u16 0, .int .u16 0, .int .i64 0, .int .i64 0, .int .i64 0, .int .i64 0] 30 (0, 0)) := (hm.heap (heap_lt hM_z5) (show ¬ X0 = Q by omega)).trans hM_z5
  have rd_z6 : Rd z6 Q Q (xs.drop 5) false := by simpa only [List.drop_drop] using nrd
  have E_z6 : Ext w z6 := Ext.mutE E_z5 hm (fun n hn h => by have h2 : n = Q := h; omega)
  clear hR_z5 hM_z5 rd_z5 E_z5
  clear hm nrd
  rw [show nu (xs.drop 4) 0 1 = nu xs 4 1 from nu_drop xs 4 0 1]
  go_wp2_with fail
  refine (flagged_yes 2 (nu xs 4 1) ⟨hg41.1, by have := hg41.2; omega⟩ rfl _).mono ?_
  rintro e z7 ⟨rfl, hx⟩
  have E_z7 : Ext w z7 := E_z6.trans hx
  have hR_z7 : z7.heap[R0]? = some (.cells #[.int .i64 0, .bool false, .bool false, .bool false, .bool false, .bool false, .bool false, .int .i64 0, .int .u64 0, .int .u32 0, .int .u64 0, .int .u16 0, .int .u16 0, .int .i64 0, .int .i64 0, .int .i64 0, .int .i64 0] 30 (0, 0)) := (hx.block _ (heap_lt hR_z6)).trans hR_z6
  have hM_z7 : z7.heap[X0]? = some (.cells #[.int .i64 0, .bool false, .bool false, .bool false, .bool false, .bool false, .bool false, .int .i64 0, .int .u64 0, .int .u32 0, .int .u64 0, .int .u16 0, .int .u16 0, .int .i64 0, .int .i64 0, .int .i64 0, .int .i64 0] 30 (0, 0)) := (hx.block _ (heap_lt hM_z6)).trans hM_z6
  have rd_z7 : Rd z7 Q Q (xs.drop 5) false := rd_ext rd_z6 hx
  clear hR_z6 hM_z6 rd_z6 E_z6
  clear hx
  go_wp2_with (first
    | fail
    | ((with_reducible refine at_store 30 ?_); refine st_at rfl rfl 30 _ _ rfl X0 0 _ #[.int .i64 2, .bool (isB (nu xs 4 1) 1), .bool (isB (nu xs 4 1) 128), .bool (isB (nu xs 4 1) 2), .bool (isB (nu xs 4 1) 64), .bool (isB (nu xs 4 1) 16), .bool (isB (nu xs 4 1) 32), .int .i64 (roB (bits .and .u64 (nu xs 4 1 / 4) 3)), .int .u64 0, .int .u32 0, .int .u64 0, .int .u16 0, .int .u16 0, .int .i64 0, .int .i64 0, .int .i64 0, .int .i64 0] _ #[.int .i64 2, .bool (isB (nu xs 4 1) 1), .bool (isB (nu xs 4 1) 128), .bool (isB (nu xs 4 1) 2), .bool (isB (nu xs 4 1) 64), .bool (isB (nu xs 4 1) 16), .bool (isB (nu xs 4 1) 32), .int .i64 (roB (bits .and .u64 (nu xs 4 1 / 4) 3)), .int .u64 0, .int .u32 0, .int .u64 0, .int .u16 0, .int .u16 0, .int .i64 0, .int .i64 0, .int .i64 0, .int .i64 0] _ rfl rfl rfl hM_z7 (by exact (by decide : 0 + 17 ≤ 17)) (by kernel_rfl) rfl rfl ?_
       intro z8 hq hm
       have hM_z8 : z8.heap[X0]? = some (.cells #[.int .i64 2, .bool (isB (nu xs 4 1) 1), .bool (isB (nu xs 4 1) 128), .bool (isB (nu xs 4 1) 2), .bool (isB (nu xs 4 1) 64), .bool (isB (nu xs 4 1) 16), .bool (isB (nu xs 4 1) 32), .int .i64 (roB (bits .and .u64 (nu xs 4 1 / 4) 3)), .int .u64 0, .int .u32 0, .int .u64 0, .int .u16 0, .int .u16 0, .int .i64 0, .int .i64 0, .int .i64 0, .int .i64 0] 30 (0, 0)) := hq
       have hR_z8 : z8.heap[R0]? = some (.cells #[.int .i64 0, .bool false, .bool false, .bool false, .bool false, .bool false, .bool false, .int .i64 0, .int .u64 0, .int .u32 0, .int .u64 0, .int .u16 0, .int .u16 0, .int .i64 0, .int .i64 0, .int .i64 0, .int .i64 0] 30 (0, 0)) := (hm.heap (heap_lt hR_z7) (show ¬ R0 = X0 by omega)).trans hR_z7
       have E_z8 : Ext w z8 := Ext.mutE E_z7 hm (fun n hn h => by have h2 : n = X0 := h; omega)
       have rd_z8 : Rd z8 Q Q (xs.drop 5) false := rd_far rd_z7 hM_z7 rfl (by omega) hm
       clear hR_z7 hM_z7 rd_z7 E_z7
       clear hq hm))
  refine (tvec_q Q (xs.drop 5) _ rd_z8 (by simp only [List.length_drop]; omega)).mono ?_
  rintro e z9 ⟨rfl, nrd, hm⟩
  have hR_z9 : z9.heap[R0]? = some (.cells #[.int .i64 0, .bool false, .bool false, .bool false, .bool false, .bool false, .bool false, .int .i64 0, .int .u64 0, .int .u32 0, .int .u64 0, .int .u16 0, .int .u16 0, .int .i64 0, .int .i64 0, .int .i64 0, .int .i64 0] 30 (0, 0)) := (hm.heap (heap_lt hR_z8) (show ¬ R0 = Q by omega)).trans hR_z8
  have hM_z9 : z9.heap[X0]? = some (.cells #[.int .i64 2, .bool (isB (nu xs 4 1) 1), .bool (isB (nu xs 4 1) 128), .bool (isB (nu xs 4 1) 2), .bool (isB (nu xs 4 1) 64), .bool (isB (nu xs 4 1) 16), .bool (isB (nu xs 4 1) 32), .int .i64 (roB (bits .and .u64 (nu xs 4 1 / 4) 3)), .int .u64 0, .int .u32 0, .int .u64 0, .int .u16 0, .int .u16 0, .int .i64 0, .int .i64 0, .int .i64 0, .int .i64 0] 30 (0, 0)) := (hm.heap (heap_lt hM_z8) (show ¬ X0 = Q by omega)).trans hM_z8
  have rd_z9 : Rd z9 Q Q (xs.drop 27) false := by simpa only [List.drop_drop] using nrd
  have E_z9 : Ext w z9 := Ext.mutE E_z8 hm (fun n hn h => by have h2 : n = Q := h; omega)
  clear hR_z8 hM_z8 rd_z8 E_z8
  clear hm nrd
  rw [nu_drop, nu_drop, nu_drop, nu_drop]
  go_wp2_with (first
    | fail
    | ((with_reducible refine at_store 26 ?_); refine st_at rfl rfl 26 _ _ rfl X0 8 _ #[.int .u64 (nu xs 5 8), .int .u32 (nu xs 13 4), .int .u64 (nu xs 17 8), .int .u16 (nu xs 25 2), .int .u16 0] _ #[.int .i64 2, .bool (isB (nu xs 4 1) 1), .bool (isB (nu xs 4 1) 128), .bool (isB (nu xs 4 1) 2), .bool (isB (nu xs 4 1) 64), .bool (isB (nu xs 4 1) 16), .bool (isB (nu xs 4 1) 32), .int .i64 (roB (bits .and .u64 (nu xs 4 1 / 4) 3)), .int .u64 (nu xs 5 8), .int .u32 (nu xs 13 4), .int .u64 (nu xs 17 8), .int .u16 (nu xs 25 2), .int .u16 0, .int .i64 0, .int .i64 0, .int .i64 0, .int .i64 0] _ rfl rfl rfl hM_z9 (by exact (by decide : 8 + 5 ≤ 17)) (by kernel_rfl) rfl rfl ?_
       intro z10 hq hm
       have hM_z10 : z10.heap[X0]? = some (.cells #[.int .i64 2, .bool (isB (nu xs 4 1) 1), .bool (isB (nu xs 4 1) 128), .bool (isB (nu xs 4 1) 2), .bool (isB (nu xs 4 1) 64), .bool (isB (nu xs 4 1) 16), .bool (isB (nu xs 4 1) 32), .int .i64 (roB (bits .and .u64 (nu xs 4 1 / 4) 3)), .int .u64 (nu xs 5 8), .int .u32 (nu xs 13 4), .int .u64 (nu xs 17 8), .int .u16 (nu xs 25 2), .int .u16 0, .int .i64 0, .int .i64 0, .int .i64 0, .int .i64 0] 30 (0, 0)) := hq
       have hR_z10 : z10.heap[R0]? = some (.cells #[.int .i64 0, .bool false, .bool false, .bool false, .bool false, .bool false, .bool false, .int .i64 0, .int .u64 0, .int .u32 0, .int .u64 0, .int .u16 0, .int .u16 0, .int .i64 0, .int .i64 0, .int .i64 0, .int .i64 0] 30 (0, 0)) := (hm.heap (heap_lt hR_z9) (show ¬ R0 = X0 by omega)).trans hR_z9
       have E_z10 : Ext w z10 := Ext.mutE E_z9 hm (fun n hn h => by have h2 : n = X0 := h; omega)
       have rd_z10 : Rd z10 Q Q (xs.drop 27) false := rd_far rd_z9 hM_z9 rfl (by omega) hm
       clear hR_z9 hM_z9 rd_z9 E_z9
       clear hq hm))
  refine (ttimes_q Q (xs.drop 27) _ rd_z10 (by simp only [List.length_drop]; omega)).mono ?_
  rintro e z11 ⟨rfl, nrd, hm⟩
  have hR_z11 : z11.heap[R0]? = some (.cells #[.int .i64 0, .bool false, .bool false, .bool false, .bool false, .bool false, .bool false, .int .i64 0, .int .u64 0, .int .u32 0, .int .u64 0, .int .u16 0, .int .u16 0, .int .i64 0, .int .i64 0, .int .i64 0, .int .i64 0] 30 (0, 0)) := (hm.heap (heap_lt hR_z10) (show ¬ R0 = Q by omega)).trans hR_z10
  have hM_z11 : z11.heap[X0]? = some (.cells #[.int .i64 2, .bool (isB (nu xs 4 1) 1), .bool (isB (nu xs 4 1) 128), .bool (isB (nu xs 4 1) 2), .bool (isB (nu xs 4 1) 64), .bool (isB (nu xs 4 1) 16), .bool (isB (nu xs 4 1) 32), .int .i64 (roB (bits .and .u64 (nu xs 4 1 / 4) 3)), .int .u64 (nu xs 5 8), .int .u32 (nu xs 13 4), .int .u64 (nu xs 17 8), .int .u16 (nu xs 25 2), .int .u16 0, .int .i64 0, .int .i64 0, .int .i64 0, .int .i64 0] 30 (0, 0)) := (hm.heap (heap_lt hM_z10) (show ¬ X0 = Q by omega)).trans hM_z10
  have rd_z11 : Rd z11 Q Q (xs.drop 35) false := by simpa only [List.drop_drop] using nrd
  have E_z11 : Ext w z11 := Ext.mutE E_z10 hm (fun n hn h => by have h2 : n = Q := h; omega)
  clear hR_z10 hM_z10 rd_z10 E_z10
  clear hm nrd
  rw [nu_drop, nu_drop, nu_drop, nu_drop]
  obtain ⟨yg, hyg⟩ : ∃ y, decide (nu xs (27 + 0) 2 < nu xs (27 + 2) 2) = y := ⟨_, rfl⟩
  rw [hyg]
  go_wp2_with (first
    | fail
    | ((with_reducible refine at_store 28 ?_); refine st_at rfl rfl 28 _ _ rfl X0 13 _ #[.int .i64 (fromV (nu xs 27 2)), .int .i64 (fromV (nu xs 29 2)), .int .i64 (fromV (nu xs 31 2)), .int .i64 (fromV (nu xs 33 2))] _ #[.int .i64 2, .bool (isB (nu xs 4 1) 1), .bool (isB (nu xs 4 1) 128), .bool (isB (nu xs 4 1) 2), .bool (isB (nu xs 4 1) 64), .bool (isB (nu xs 4 1) 16), .bool (isB (nu xs 4 1) 32), .int .i64 (roB (bits .and .u64 (nu xs 4 1 / 4) 3)), .int .u64 (nu xs 5 8), .int .u32 (nu xs 13 4), .int .u64 (nu xs 17 8), .int .u16 (nu xs 25 2), .int .u16 0, .int .i64 (fromV (nu xs 27 2)), .int .i64 (fromV (nu xs 29 2)), .int .i64 (fromV (nu xs 31 2)), .int .i64 (fromV (nu xs 33 2))] _ rfl rfl rfl hM_z11 (by exact (by decide : 13 + 4 ≤ 17)) (by kernel_rfl) rfl rfl ?_
       intro z12 hq hm
       have hM_z12 : z12.heap[X0]? = some (.cells #[.int .i64 2, .bool (isB (nu xs 4 1) 1), .bool (isB (nu xs 4 1) 128), .bool (isB (nu xs 4 1) 2), .bool (isB (nu xs 4 1) 64), .bool (isB (nu xs 4 1) 16), .bool (isB (nu xs 4 1) 32), .int .i64 (roB (bits .and .u64 (nu xs 4 1 / 4) 3)), .int .u64 (nu xs 5 8), .int .u32 (nu xs 13 4), .int .u64 (nu xs 17 8), .int .u16 (nu xs 25 2), .int .u16 0, .int .i64 (fromV (nu xs 27 2)), .int .i64 (fromV (nu xs 29 2)), .int .i64 (fromV (nu xs 31 2)), .int .i64 (fromV (nu xs 33 2))] 30 (0, 0)) := hq
       have hR_z12 : z12.heap[R0]? = some (.cells #[.int .i64 0, .bool false, .bool false, .bool false, .bool false, .bool false, .bool false, .int .i64 0, .int .u64 0, .int .u32 0, .int .u64 0, .int .u16 0, .int .u16 0, .int .i64 0, .int .i64 0, .int .i64 0, .int .i64 0] 30 (0, 0)) := (hm.heap (heap_lt hR_z11) (show ¬ R0 = X0 by omega)).trans hR_z11
       have E_z12 : Ext w z12 := Ext.mutE E_z11 hm (fun n hn h => by have h2 : n = X0 := h; omega)
       have rd_z12 : Rd z12 Q Q (xs.drop 35) false := rd_far rd_z11 hM_z11 rfl (by omega) hm
       clear hR_z11 hM_z11 rd_z11 E_z11
       clear hq hm)
    | ((with_reducible refine at_load 30 ?_); refine wpList_load_row rfl 30 _ rfl X0 rfl 30 #[.int .i64 2, .bool (isB (nu xs 4 1) 1), .bool (isB (nu xs 4 1) 128), .bool (isB (nu xs 4 1) 2), .bool (isB (nu xs 4 1) 64), .bool (isB (nu xs 4 1) 16), .bool (isB (nu xs 4 1) 32), .int .i64 (roB (bits .and .u64 (nu xs 4 1 / 4) 3)), .int .u64 (nu xs 5 8), .int .u32 (nu xs 13 4), .int .u64 (nu xs 17 8), .int .u16 (nu xs 25 2), .int .u16 0, .int .i64 (fromV (nu xs 27 2)), .int .i64 (fromV (nu xs 29 2)), .int .i64 (fromV (nu xs 31 2)), .int .i64 (fromV (nu xs 33 2))] (0, 0) _ hM_z12 Try.underlying30 rfl (by kernel_rfl) ?_)
    | ((with_reducible refine at_store 30 ?_); refine st_at rfl rfl 30 _ _ rfl R0 0 _ #[.int .i64 2, .bool (isB (nu xs 4 1) 1), .bool (isB (nu xs 4 1) 128), .bool (isB (nu xs 4 1) 2), .bool (isB (nu xs 4 1) 64), .bool (isB (nu xs 4 1) 16), .bool (isB (nu xs 4 1) 32), .int .i64 (roB (bits .and .u64 (nu xs 4 1 / 4) 3)), .int .u64 (nu xs 5 8), .int .u32 (nu xs 13 4), .int .u64 (nu xs 17 8), .int .u16 (nu xs 25 2), .int .u16 0, .int .i64 (fromV (nu xs 27 2)), .int .i64 (fromV (nu xs 29 2)), .int .i64 (fromV (nu xs 31 2)), .int .i64 (fromV (nu xs 33 2))] _ #[.int .i64 2, .bool (isB (nu xs 4 1) 1), .bool (isB (nu xs 4 1) 128), .bool (isB (nu xs 4 1) 2), .bool (isB (nu xs 4 1) 64), .bool (isB (nu xs 4 1) 16), .bool (isB (nu xs 4 1) 32), .int .i64 (roB (bits .and .u64 (nu xs 4 1 / 4) 3)), .int .u64 (nu xs 5 8), .int .u32 (nu xs 13 4), .int .u64 (nu xs 17 8), .int .u16 (nu xs 25 2), .int .u16 0, .int .i64 (fromV (nu xs 27 2)), .int .i64 (fromV (nu xs 29 2)), .int .i64 (fromV (nu xs 31 2)), .int .i64 (fromV (nu xs 33 2))] _ rfl rfl rfl hR_z12 (by exact (by decide : 0 + 17 ≤ 17)) (by kernel_rfl) rfl rfl ?_
       intro z13 hq hm
       have hR_z13 : z13.heap[R0]? = some (.cells #[.int .i64 2, .bool (isB (nu xs 4 1) 1), .bool (isB (nu xs 4 1) 128), .bool (isB (nu xs 4 1) 2), .bool (isB (nu xs 4 1) 64), .bool (isB (nu xs 4 1) 16), .bool (isB (nu xs 4 1) 32), .int .i64 (roB (bits .and .u64 (nu xs 4 1 / 4) 3)), .int .u64 (nu xs 5 8), .int .u32 (nu xs 13 4), .int .u64 (nu xs 17 8), .int .u16 (nu xs 25 2), .int .u16 0, .int .i64 (fromV (nu xs 27 2)), .int .i64 (fromV (nu xs 29 2)), .int .i64 (fromV (nu xs 31 2)), .int .i64 (fromV (nu xs 33 2))] 30 (0, 0)) := hq
       have hM_z13 : z13.heap[X0]? = some (.cells #[.int .i64 2, .bool (isB (nu xs 4 1) 1), .bool (isB (nu xs 4 1) 128), .bool (isB (nu xs 4 1) 2), .bool (isB (nu xs 4 1) 64), .bool (isB (nu xs 4 1) 16), .bool (isB (nu xs 4 1) 32), .int .i64 (roB (bits .and .u64 (nu xs 4 1 / 4) 3)), .int .u64 (nu xs 5 8), .int .u32 (nu xs 13 4), .int .u64 (nu xs 17 8), .int .u16 (nu xs 25 2), .int .u16 0, .int .i64 (fromV (nu xs 27 2)), .int .i64 (fromV (nu xs 29 2)), .int .i64 (fromV (nu xs 31 2)), .int .i64 (fromV (nu xs 33 2))] 30 (0, 0)) := (hm.heap (heap_lt hM_z12) (show ¬ X0 = R0 by omega)).trans hM_z12
       have E_z13 : Ext w z13 := Ext.mutE E_z12 hm (fun n hn h => by have h2 : n = R0 := h; omega)
       have rd_z13 : Rd z13 Q Q (xs.drop 35) false := rd_far rd_z12 hR_z12 rfl (by omega) hm
       clear hR_z12 hM_z12 rd_z12 E_z12
       clear hq hm))
  refine jump_ret hJ0 ?_
  refine bodyPost_ret (results_crt rfl _ _ _ _ _ (0, 0) _ rfl hR_z13 Try.underlying30 rfl (by kernel_rfl)) rfl ?_
  refine ⟨?_, E_z13⟩
  rfl
set_option maxRecDepth 100000 in
set_option maxHeartbeats 2000000 in
theorem dec_cfg (v : Value) (xs : List Int) (w : World) (h : IsInts w .u8 v xs) (hx : ∀ x ∈ xs, 0 ≤ x ∧ x < 256) (hl : xs.length ≤ 100000) (h4 : 4 ≤ xs.length) (hf : (nu xs 0 2 != 0) = false) (hn : (nu xs 3 1 == 128) = false) (h2 : (nu xs 3 1 == 2) = false) (hz0 : (nu xs 3 1 != 0) = false) (h36 : decide ((xs.length : Int) < 35) = false) (h35 : 35 ≤ xs.length) (hyg : decide (nu xs 27 2 < nu xs 29 2) = true) : Calls Try.prog 21 #[v] w fun e w' => e = .returned (.tuple #[.agg #[.int .i64 0, .bool (isB (nu xs 4 1) 1), .bool (isB (nu xs 4 1) 128), .bool false, .bool false, .bool false, .bool false, .int .i64 4, .int .u64 (nu xs 5 8), .int .u32 (nu xs 13 4), .int .u64 (nu xs 17 8), .int .u16 (nu xs 25 2), .int .u16 0, .int .i64 (fromV (nu xs 27 2)), .int .i64 (fromV (nu xs 29 2)), .int .i64 (fromV (nu xs 31 2)), .int .i64 (fromV (nu xs 33 2))], .int .i64 0]) ∧ Ext w w' := by
  have hz := zero_msg
  have hbz := zero_msg
  obtain ⟨av, cv, rfl, hlm, -⟩ := h.form
  go_enter Try.func21, Try.ntmps21
  go_wp2_with (first
    | fail
    | ((with_reducible refine at_alloc 30 ?_); refine al_zero rfl 30 rfl MZ zero_msg ?_
       intro R0 z1 hq hs hx
       have E_z1 : Ext w z1 := hx
       have hR_z1 : z1.heap[R0]? = some (.cells #[.int .i64 0, .bool false, .bool false, .bool false, .bool false, .bool false, .bool false, .int .i64 0, .int .u64 0, .int .u32 0, .int .u64 0, .int .u16 0, .int .u16 0, .int .i64 0, .int .i64 0, .int .i64 0, .int .i64 0] 30 (0, 0)) := hq
       have hb_R0 : w.heap.size ≤ R0 := by omega
       clear hq hs hx))
  refine scope_hid 2 (fun J0 hJ0 => ?_)
  go_wp2_with (first
    | fail
    | ((with_reducible refine at_alloc 30 ?_); refine al_zero rfl 30 rfl MZ zero_msg ?_
       intro X0 z2 hq hs hx
       have E_z2 : Ext w z2 := E_z1.trans hx
       have hR_z2 : z2.heap[R0]? = some (.cells #[.int .i64 0, .bool false, .bool false, .bool false, .bool false, .bool false, .bool false, .int .i64 0, .int .u64 0, .int .u32 0, .int .u64 0, .int .u16 0, .int .u16 0, .int .i64 0, .int .i64 0, .int .i64 0, .int .i64 0] 30 (0, 0)) := (hx.block _ (heap_lt hR_z1)).trans hR_z1
       have hM_z2 : z2.heap[X0]? = some (.cells #[.int .i64 0, .bool false, .bool false, .bool false, .bool false, .bool false, .bool false, .int .i64 0, .int .u64 0, .int .u32 0, .int .u64 0, .int .u16 0, .int .u16 0, .int .i64 0, .int .i64 0, .int .i64 0, .int .i64 0] 30 (0, 0)) := hq
       have hb_X0 : w.heap.size ≤ X0 := by have := E_z1.size; omega
       have hn_R0X0 : R0 ≠ X0 := by have := heap_lt hR_z1; omega
       clear hR_z1 E_z1
       clear hq hs hx))
  refine (new_any _ xs _ (h.ext E_z2) hx hl).mono ?_
  rintro e n1 ⟨Q, rfl, nrd, hQ, hx2⟩
  have E_n1 : Ext w n1 := E_z2.trans hx2
  have hR_n1 : n1.heap[R0]? = some (.cells #[.int .i64 0, .bool false, .bool false, .bool false, .bool false, .bool false, .bool false, .int .i64 0, .int .u64 0, .int .u32 0, .int .u64 0, .int .u16 0, .int .u16 0, .int .i64 0, .int .i64 0, .int .i64 0, .int .i64 0] 30 (0, 0)) := (hx2.block _ (heap_lt hR_z2)).trans hR_z2
  have hM_n1 : n1.heap[X0]? = some (.cells #[.int .i64 0, .bool false, .bool false, .bool false, .bool false, .bool false, .bool false, .int .i64 0, .int .u64 0, .int .u32 0, .int .u64 0, .int .u16 0, .int .u16 0, .int .i64 0, .int .i64 0, .int .i64 0, .int .i64 0] 30 (0, 0)) := (hx2.block _ (heap_lt hM_z2)).trans hM_z2
  have rd_n1 := nrd
  have hQR : Q ≠ R0 := by have := heap_lt hR_z2; omega
  have hQX : Q ≠ X0 := by have := heap_lt hM_z2; omega
  have hQw : w.heap.size ≤ Q := by have := E_z2.size; omega
  clear hR_z2 hM_z2 E_z2
  clear nrd hx2 hQ
  go_wp2_with fail
  refine (take_n Q xs 2 _ rd_n1 (by decide) (by decide) (by first | omega | (simp only [List.length_drop]; omega))).mono ?_
  rintro e z3 ⟨rfl, nrd, hm⟩
  have hR_z3 : z3.heap[R0]? = some (.cells #[.int .i64 0, .bool false, .bool false, .bool false, .bool false, .bool false, .bool false, .int .i64 0, .int .u64 0, .int .u32 0, .int .u64 0, .int .u16 0, .int .u16 0, .int .i64 0, .int .i64 0, .int .i64 0, .int .i64 0] 30 (0, 0)) := (hm.heap (heap_lt hR_n1) (show ¬ R0 = Q by omega)).trans hR_n1
  have hM_z3 : z3.heap[X0]? = some (.cells #[.int .i64 0, .bool false, .bool false, .bool false, .bool false, .bool false, .bool false, .int .i64 0, .int .u64 0, .int .u32 0, .int .u64 0, .int .u16 0, .int .u16 0, .int .i64 0, .int .i64 0, .int .i64 0, .int .i64 0] 30 (0, 0)) := (hm.heap (heap_lt hM_n1) (show ¬ X0 = Q by omega)).trans hM_n1
  have rd_z3 : Rd z3 Q Q (xs.drop 2) false := by simpa only [List.drop_drop] using nrd
  have E_z3 : Ext w z3 := Ext.mutE E_n1 hm (fun n hn h => by have h2 : n = Q := h; omega)
  clear hR_n1 hM_n1 rd_n1 E_n1
  clear hm nrd
  go_wp2_with fail
  refine (take_n Q (xs.drop 2) 1 _ rd_z3 (by decide) (by decide) (by first | omega | (simp only [List.length_drop]; omega))).mono ?_
  rintro e z4 ⟨rfl, nrd, hm⟩
  have hR_z4 : z4.heap[R0]? = some (.cells #[.int .i64 0, .bool false, .bool false, .bool false, .bool false, .bool false, .bool false, .int .i64 0, .int .u64 0, .int .u32 0, .int .u64 0, .int .u16 0, .int .u16 0, .int .i64 0, .int .i64 0, .int .i64 0, .int .i64 0] 30 (0, 0)) := (hm.heap (heap_lt hR_z3) (show ¬ R0 = Q by omega)).trans hR_z3
  have hM_z4 : z4.heap[X0]? = some (.cells #[.int .i64 0, .bool false, .bool false, .bool false, .bool false, .bool false, .bool false, .int .i64 0, .int .u64 0, .int .u32 0, .int .u64 0, .int .u16 0, .int .u16 0, .int .i64 0, .int .i64 0, .int .i64 0, .int .i64 0] 30 (0, 0)) := (hm.heap (heap_lt hM_z3) (show ¬ X0 = Q by omega)).trans hM_z3
  have rd_z4 : Rd z4 Q Q (xs.drop 3) false := by simpa only [List.drop_drop] using nrd
  have E_z4 : Ext w z4 := Ext.mutE E_z3 hm (fun n hn h => by have h2 : n = Q := h; omega)
  clear hR_z3 hM_z3 rd_z3 E_z3
  clear hm nrd
  rw [show nu (xs.drop 2) 0 1 = nu xs 2 1 from nu_drop xs 2 0 1]
  go_wp2_with fail
  refine (take_n Q (xs.drop 3) 1 _ rd_z4 (by decide) (by decide) (by first | omega | (simp only [List.length_drop]; omega))).mono ?_
  rintro e z5 ⟨rfl, nrd, hm⟩
  have hR_z5 : z5.heap[R0]? = some (.cells #[.int .i64 0, .bool false, .bool false, .bool false, .bool false, .bool false, .bool false, .int .i64 0, .int .u64 0, .int .u32 0, .int .u64 0, .int .u16 0, .int .u16 0, .int .i64 0, .int .i64 0, .int .i64 0, .int .i64 0] 30 (0, 0)) := (hm.heap (heap_lt hR_z4) (show ¬ R0 = Q by omega)).trans hR_z4
  have hM_z5 : z5.heap[X0]? = some (.cells #[.int .i64 0, .bool false, .bool false, .bool false, .bool false, .bool false, .bool false, .int .i64 0, .int .u64 0, .int .u32 0, .int .u64 0, .int .u16 0, .int .u16 0, .int .i64 0, .int .i64 0, .int .i64 0, .int .i64 0] 30 (0, 0)) := (hm.heap (heap_lt hM_z4) (show ¬ X0 = Q by omega)).trans hM_z4
  have rd_z5 : Rd z5 Q Q (xs.drop 4) false := by simpa only [List.drop_drop] using nrd
  have E_z5 : Ext w z5 := Ext.mutE E_z4 hm (fun n hn h => by have h2 : n = Q := h; omega)
  clear hR_z4 hM_z4 rd_z4 E_z4
  clear hm nrd
  rw [show nu (xs.drop 3) 0 1 = nu xs 3 1 from nu_drop xs 3 0 1]
  go_wp2_with fail
  refine (short_any Q _ _ _ rd_z5).mono ?_
  rintro e _ ⟨rfl, rfl⟩
  have hg41 := nu_rg hx 4 1
  go_wp2_with fail
  refine (take_n Q (xs.drop 4) 1 _ rd_z5 (by decide) (by decide) (by first | omega | (simp only [List.length_drop]; omega))).mono ?_
  rintro e z6 ⟨rfl, nrd, hm⟩
  have hR_z6 : z6.heap[R0]? = some (.cells #[.int .i64 0, .bool false, .bool false, .bool false, .bool false, .bool false, .bool false, .int .i64 0, .int .u64 0, .int .u32 0, .int .u64 0, .int .u16 0, .int .u16 0, .int .i64 0, .int .i64 0, .int .i64 0, .int .i64 0] 30 (0, 0)) := (hm.heap (heap_lt hR_z5) (show ¬ R0 = Q by omega)).trans hR_z5
  have hM_z6 : z6.heap[X0]? = some (.cells #[.int .i64 0, .bool false, .bool false, .bool false, .bool false, .bool false, .bool false, .int .i64 0, .int .u64 0, .int .u32 0, .int .u64 0, .int .u16 0, .int .u16 0, .int .i64 0, .int .i64 0, .int .i64 0, .int .i64 0] 30 (0, 0)) := (hm.heap (heap_lt hM_z5) (show ¬ X0 = Q by omega)).trans hM_z5
  have rd_z6 : Rd z6 Q Q (xs.drop 5) false := by simpa only [List.drop_drop] using nrd
  have E_z6 : Ext w z6 := Ext.mutE E_z5 hm (fun n hn h => by have h2 : n = Q := h; omega)
  clear hR_z5 hM_z5 rd_z5 E_z5
  clear hm nrd
  rw [show nu (xs.drop 4) 0 1 = nu xs 4 1 from nu_drop xs 4 0 1]
  go_wp2_with fail
  refine (flagged_no 0 (nu xs 4 1) ⟨hg41.1, by have := hg41.2; omega⟩ (by decide) _).mono ?_
  rintro e z7 ⟨rfl, hx⟩
  have E_z7 : Ext w z7 := E_z6.trans hx
  have hR_z7 : z7.heap[R0]? = some (.cells #[.int .i64 0, .bool false, .bool false, .bool false, .bool false, .bool false, .bool false, .int .i64 0, .int .u64 0, .int .u32 0, .int .u64 0, .int .u16 0, .int .u16 0, .int .i64 0, .int .i64 0, .int .i64 0, .int .i64 0] 30 (0, 0)) := (hx.block _ (heap_lt hR_z6)).trans hR_z6
  have hM_z7 : z7.heap[X0]? = some (.cells #[.int .i64 0, .bool false, .bool false, .bool false, .bool false, .bool false, .bool false, .int .i64 0, .int .u64 0, .int .u32 0, .int .u64 0, .int .u16 0, .int .u16 0, .int .i64 0, .int .i64 0, .int .i64 0, .int .i64 0] 30 (0, 0)) := (hx.block _ (heap_lt hM_z6)).trans hM_z6
  have rd_z7 : Rd z7 Q Q (xs.drop 5) false := rd_ext rd_z6 hx
  clear hR_z6 hM_z6 rd_z6 E_z6
  clear hx
  go_wp2_with (first
    | fail
    | ((with_reducible refine at_store 30 ?_); refine st_at rfl rfl 30 _ _ rfl X0 0 _ #[.int .i64 0, .bool (isB (nu xs 4 1) 1), .bool (isB (nu xs 4 1) 128), .bool false, .bool false, .bool false, .bool false, .int .i64 4, .int .u64 0, .int .u32 0, .int .u64 0, .int .u16 0, .int .u16 0, .int .i64 0, .int .i64 0, .int .i64 0, .int .i64 0] _ #[.int .i64 0, .bool (isB (nu xs 4 1) 1), .bool (isB (nu xs 4 1) 128), .bool false, .bool false, .bool false, .bool false, .int .i64 4, .int .u64 0, .int .u32 0, .int .u64 0, .int .u16 0, .int .u16 0, .int .i64 0, .int .i64 0, .int .i64 0, .int .i64 0] _ rfl rfl rfl hM_z7 (by exact (by decide : 0 + 17 ≤ 17)) (by kernel_rfl) rfl rfl ?_
       intro z8 hq hm
       have hM_z8 : z8.heap[X0]? = some (.cells #[.int .i64 0, .bool (isB (nu xs 4 1) 1), .bool (isB (nu xs 4 1) 128), .bool false, .bool false, .bool false, .bool false, .int .i64 4, .int .u64 0, .int .u32 0, .int .u64 0, .int .u16 0, .int .u16 0, .int .i64 0, .int .i64 0, .int .i64 0, .int .i64 0] 30 (0, 0)) := hq
       have hR_z8 : z8.heap[R0]? = some (.cells #[.int .i64 0, .bool false, .bool false, .bool false, .bool false, .bool false, .bool false, .int .i64 0, .int .u64 0, .int .u32 0, .int .u64 0, .int .u16 0, .int .u16 0, .int .i64 0, .int .i64 0, .int .i64 0, .int .i64 0] 30 (0, 0)) := (hm.heap (heap_lt hR_z7) (show ¬ R0 = X0 by omega)).trans hR_z7
       have E_z8 : Ext w z8 := Ext.mutE E_z7 hm (fun n hn h => by have h2 : n = X0 := h; omega)
       have rd_z8 : Rd z8 Q Q (xs.drop 5) false := rd_far rd_z7 hM_z7 rfl (by omega) hm
       clear hR_z7 hM_z7 rd_z7 E_z7
       clear hq hm))
  refine (tvec_q Q (xs.drop 5) _ rd_z8 (by simp only [List.length_drop]; omega)).mono ?_
  rintro e z9 ⟨rfl, nrd, hm⟩
  have hR_z9 : z9.heap[R0]? = some (.cells #[.int .i64 0, .bool false, .bool false, .bool false, .bool false, .bool false, .bool false, .int .i64 0, .int .u64 0, .int .u32 0, .int .u64 0, .int .u16 0, .int .u16 0, .int .i64 0, .int .i64 0, .int .i64 0, .int .i64 0] 30 (0, 0)) := (hm.heap (heap_lt hR_z8) (show ¬ R0 = Q by omega)).trans hR_z8
  have hM_z9 : z9.heap[X0]? = some (.cells #[.int .i64 0, .bool (isB (nu xs 4 1) 1), .bool (isB (nu xs 4 1) 128), .bool false, .bool false, .bool false, .bool false, .int .i64 4, .int .u64 0, .int .u32 0, .int .u64 0, .int .u16 0, .int .u16 0, .int .i64 0, .int .i64 0, .int .i64 0, .int .i64 0] 30 (0, 0)) := (hm.heap (heap_lt hM_z8) (show ¬ X0 = Q by omega)).trans hM_z8
  have rd_z9 : Rd z9 Q Q (xs.drop 27) false := by simpa only [List.drop_drop] using nrd
  have E_z9 : Ext w z9 := Ext.mutE E_z8 hm (fun n hn h => by have h2 : n = Q := h; omega)
  clear hR_z8 hM_z8 rd_z8 E_z8
  clear hm nrd
  rw [nu_drop, nu_drop, nu_drop, nu_drop]
  go_wp2_with (first
    | fail
    | ((with_reducible refine at_store 26 ?_); refine st_at rfl rfl 26 _ _ rfl X0 8 _ #[.int .u64 (nu xs 5 8), .int .u32 (nu xs 13 4), .int .u64 (nu xs 17 8), .int .u16 (nu xs 25 2), .int .u16 0] _ #[.int .i64 0, .bool (isB (nu xs 4 1) 1), .bool (isB (nu xs 4 1) 128), .bool false, .bool false, .bool false, .bool false, .int .i64 4, .int .u64 (nu xs 5 8), .int .u32 (nu xs 13 4), .int .u64 (nu xs 17 8), .int .u16 (nu xs 25 2), .int .u16 0, .int .i64 0, .int .i64 0, .int .i64 0, .int .i64 0] _ rfl rfl rfl hM_z9 (by exact (by decide : 8 + 5 ≤ 17)) (by kernel_rfl) rfl rfl ?_
       intro z10 hq hm
       have hM_z10 : z10.heap[X0]? = some (.cells #[.int .i64 0, .bool (isB (nu xs 4 1) 1), .bool (isB (nu xs 4 1) 128), .bool false, .bool false, .bool false, .bool false, .int .i64 4, .int .u64 (nu xs 5 8), .int .u32 (nu xs 13 4), .int .u64 (nu xs 17 8), .int .u16 (nu xs 25 2), .int .u16 0, .int .i64 0, .int .i64 0, .int .i64 0, .int .i64 0] 30 (0, 0)) := hq
       have hR_z10 : z10.heap[R0]? = some (.cells #[.int .i64 0, .bool false, .bool false, .bool false, .bool false, .bool false, .bool false, .int .i64 0, .int .u64 0, .int .u32 0, .int .u64 0, .int .u16 0, .int .u16 0, .int .i64 0, .int .i64 0, .int .i64 0, .int .i64 0] 30 (0, 0)) := (hm.heap (heap_lt hR_z9) (show ¬ R0 = X0 by omega)).trans hR_z9
       have E_z10 : Ext w z10 := Ext.mutE E_z9 hm (fun n hn h => by have h2 : n = X0 := h; omega)
       have rd_z10 : Rd z10 Q Q (xs.drop 27) false := rd_far rd_z9 hM_z9 rfl (by omega) hm
       clear hR_z9 hM_z9 rd_z9 E_z9
       clear hq hm))
  refine (ttimes_q Q (xs.drop 27) _ rd_z10 (by simp only [List.length_drop]; omega)).mono ?_
  rintro e z11 ⟨rfl, nrd, hm⟩
  have hR_z11 : z11.heap[R0]? = some (.cells #[.int .i64 0, .bool false, .bool false, .bool false, .bool false, .bool false, .bool false, .int .i64 0, .int .u64 0, .int .u32 0, .int .u64 0, .int .u16 0, .int .u16 0, .int .i64 0, .int .i64 0, .int .i64 0, .int .i64 0] 30 (0, 0)) := (hm.heap (heap_lt hR_z10) (show ¬ R0 = Q by omega)).trans hR_z10
  have hM_z11 : z11.heap[X0]? = some (.cells #[.int .i64 0, .bool (isB (nu xs 4 1) 1), .bool (isB (nu xs 4 1) 128), .bool false, .bool false, .bool false, .bool false, .int .i64 4, .int .u64 (nu xs 5 8), .int .u32 (nu xs 13 4), .int .u64 (nu xs 17 8), .int .u16 (nu xs 25 2), .int .u16 0, .int .i64 0, .int .i64 0, .int .i64 0, .int .i64 0] 30 (0, 0)) := (hm.heap (heap_lt hM_z10) (show ¬ X0 = Q by omega)).trans hM_z10
  have rd_z11 : Rd z11 Q Q (xs.drop 35) false := by simpa only [List.drop_drop] using nrd
  have E_z11 : Ext w z11 := Ext.mutE E_z10 hm (fun n hn h => by have h2 : n = Q := h; omega)
  clear hR_z10 hM_z10 rd_z10 E_z10
  clear hm nrd
  rw [nu_drop, nu_drop, nu_drop, nu_drop]
  rw [show decide (nu xs (27 + 0) 2 < nu xs (27 + 2) 2) = true from hyg]
  go_wp2_with (first
    | fail
    | ((with_reducible refine at_store 28 ?_); refine st_at rfl rfl 28 _ _ rfl X0 13 _ #[.int .i64 (fromV (nu xs 27 2)), .int .i64 (fromV (nu xs 29 2)), .int .i64 (fromV (nu xs 31 2)), .int .i64 (fromV (nu xs 33 2))] _ #[.int .i64 0, .bool (isB (nu xs 4 1) 1), .bool (isB (nu xs 4 1) 128), .bool false, .bool false, .bool false, .bool false, .int .i64 4, .int .u64 (nu xs 5 8), .int .u32 (nu xs 13 4), .int .u64 (nu xs 17 8), .int .u16 (nu xs 25 2), .int .u16 0, .int .i64 (fromV (nu xs 27 2)), .int .i64 (fromV (nu xs 29 2)), .int .i64 (fromV (nu xs 31 2)), .int .i64 (fromV (nu xs 33 2))] _ rfl rfl rfl hM_z11 (by exact (by decide : 13 + 4 ≤ 17)) (by kernel_rfl) rfl rfl ?_
       intro z12 hq hm
       have hM_z12 : z12.heap[X0]? = some (.cells #[.int .i64 0, .bool (isB (nu xs 4 1) 1), .bool (isB (nu xs 4 1) 128), .bool false, .bool false, .bool false, .bool false, .int .i64 4, .int .u64 (nu xs 5 8), .int .u32 (nu xs 13 4), .int .u64 (nu xs 17 8), .int .u16 (nu xs 25 2), .int .u16 0, .int .i64 (fromV (nu xs 27 2)), .int .i64 (fromV (nu xs 29 2)), .int .i64 (fromV (nu xs 31 2)), .int .i64 (fromV (nu xs 33 2))] 30 (0, 0)) := hq
       have hR_z12 : z12.heap[R0]? = some (.cells #[.int .i64 0, .bool false, .bool false, .bool false, .bool false, .bool false, .bool false, .int .i64 0, .int .u64 0, .int .u32 0, .int .u64 0, .int .u16 0, .int .u16 0, .int .i64 0, .int .i64 0, .int .i64 0, .int .i64 0] 30 (0, 0)) := (hm.heap (heap_lt hR_z11) (show ¬ R0 = X0 by omega)).trans hR_z11
       have E_z12 : Ext w z12 := Ext.mutE E_z11 hm (fun n hn h => by have h2 : n = X0 := h; omega)
       have rd_z12 : Rd z12 Q Q (xs.drop 35) false := rd_far rd_z11 hM_z11 rfl (by omega) hm
       clear hR_z11 hM_z11 rd_z11 E_z11
       clear hq hm)
    | ((with_reducible refine at_load 30 ?_); refine wpList_load_row rfl 30 _ rfl X0 rfl 30 #[.int .i64 0, .bool (isB (nu xs 4 1) 1), .bool (isB (nu xs 4 1) 128), .bool false, .bool false, .bool false, .bool false, .int .i64 4, .int .u64 (nu xs 5 8), .int .u32 (nu xs 13 4), .int .u64 (nu xs 17 8), .int .u16 (nu xs 25 2), .int .u16 0, .int .i64 (fromV (nu xs 27 2)), .int .i64 (fromV (nu xs 29 2)), .int .i64 (fromV (nu xs 31 2)), .int .i64 (fromV (nu xs 33 2))] (0, 0) _ hM_z12 Try.underlying30 rfl (by kernel_rfl) ?_)
    | ((with_reducible refine at_store 30 ?_); refine st_at rfl rfl 30 _ _ rfl R0 0 _ #[.int .i64 0, .bool (isB (nu xs 4 1) 1), .bool (isB (nu xs 4 1) 128), .bool false, .bool false, .bool false, .bool false, .int .i64 4, .int .u64 (nu xs 5 8), .int .u32 (nu xs 13 4), .int .u64 (nu xs 17 8), .int .u16 (nu xs 25 2), .int .u16 0, .int .i64 (fromV (nu xs 27 2)), .int .i64 (fromV (nu xs 29 2)), .int .i64 (fromV (nu xs 31 2)), .int .i64 (fromV (nu xs 33 2))] _ #[.int .i64 0, .bool (isB (nu xs 4 1) 1), .bool (isB (nu xs 4 1) 128), .bool false, .bool false, .bool false, .bool false, .int .i64 4, .int .u64 (nu xs 5 8), .int .u32 (nu xs 13 4), .int .u64 (nu xs 17 8), .int .u16 (nu xs 25 2), .int .u16 0, .int .i64 (fromV (nu xs 27 2)), .int .i64 (fromV (nu xs 29 2)), .int .i64 (fromV (nu xs 31 2)), .int .i64 (fromV (nu xs 33 2))] _ rfl rfl rfl hR_z12 (by exact (by decide : 0 + 17 ≤ 17)) (by kernel_rfl) rfl rfl ?_
       intro z13 hq hm
       have hR_z13 : z13.heap[R0]? = some (.cells #[.int .i64 0, .bool (isB (nu xs 4 1) 1), .bool (isB (nu xs 4 1) 128), .bool false, .bool false, .bool false, .bool false, .int .i64 4, .int .u64 (nu xs 5 8), .int .u32 (nu xs 13 4), .int .u64 (nu xs 17 8), .int .u16 (nu xs 25 2), .int .u16 0, .int .i64 (fromV (nu xs 27 2)), .int .i64 (fromV (nu xs 29 2)), .int .i64 (fromV (nu xs 31 2)), .int .i64 (fromV (nu xs 33 2))] 30 (0, 0)) := hq
       have hM_z13 : z13.heap[X0]? = some (.cells #[.int .i64 0, .bool (isB (nu xs 4 1) 1), .bool (isB (nu xs 4 1) 128), .bool false, .bool false, .bool false, .bool false, .int .i64 4, .int .u64 (nu xs 5 8), .int .u32 (nu xs 13 4), .int .u64 (nu xs 17 8), .int .u16 (nu xs 25 2), .int .u16 0, .int .i64 (fromV (nu xs 27 2)), .int .i64 (fromV (nu xs 29 2)), .int .i64 (fromV (nu xs 31 2)), .int .i64 (fromV (nu xs 33 2))] 30 (0, 0)) := (hm.heap (heap_lt hM_z12) (show ¬ X0 = R0 by omega)).trans hM_z12
       have E_z13 : Ext w z13 := Ext.mutE E_z12 hm (fun n hn h => by have h2 : n = R0 := h; omega)
       have rd_z13 : Rd z13 Q Q (xs.drop 35) false := rd_far rd_z12 hR_z12 rfl (by omega) hm
       clear hR_z12 hM_z12 rd_z12 E_z12
       clear hq hm))
  refine jump_ret hJ0 ?_
  refine bodyPost_ret (results_crt rfl _ _ _ _ _ (0, 0) _ rfl hR_z13 Try.underlying30 rfl (by kernel_rfl)) rfl ?_
  refine ⟨?_, E_z13⟩
  rfl
set_option maxRecDepth 100000 in
set_option maxHeartbeats 2000000 in
theorem dec_old (v : Value) (xs : List Int) (w : World) (h : IsInts w .u8 v xs) (hx : ∀ x ∈ xs, 0 ≤ x ∧ x < 256) (hl : xs.length ≤ 100000) (h4 : 4 ≤ xs.length) (hf : (nu xs 0 2 != 0) = false) (hn : (nu xs 3 1 == 128) = false) (h2 : (nu xs 3 1 == 2) = false) (hz0 : (nu xs 3 1 != 0) = false) (h36 : decide ((xs.length : Int) < 35) = false) (h35 : 35 ≤ xs.length) (hyg : decide (nu xs 27 2 < nu xs 29 2) = false) : Calls Try.prog 21 #[v] w fun e w' => e = .returned (.tuple #[.agg #[.int .i64 Mg.zero.kd, .bool Mg.zero.ch, .bool Mg.zero.ak, .bool Mg.zero.pr, .bool Mg.zero.ag, .bool Mg.zero.ln, .bool Mg.zero.fw, .int .i64 Mg.zero.ro, .int .u64 Mg.zero.r, .int .u32 Mg.zero.c, .int .u64 Mg.zero.b, .int .u16 Mg.zero.p, .int .u16 Mg.zero.x, .int .i64 Mg.zero.a, .int .i64 Mg.zero.m, .int .i64 Mg.zero.h, .int .i64 Mg.zero.d], .int .i64 5]) ∧ Ext w w' := by
  have hz := zero_msg
  have hbz := zero_msg
  obtain ⟨av, cv, rfl, hlm, -⟩ := h.form
  go_enter Try.func21, Try.ntmps21
  go_wp2_with (first
    | fail
    | ((with_reducible refine at_alloc 30 ?_); refine al_zero rfl 30 rfl MZ zero_msg ?_
       intro R0 z1 hq hs hx
       have E_z1 : Ext w z1 := hx
       have hR_z1 : z1.heap[R0]? = some (.cells #[.int .i64 0, .bool false, .bool false, .bool false, .bool false, .bool false, .bool false, .int .i64 0, .int .u64 0, .int .u32 0, .int .u64 0, .int .u16 0, .int .u16 0, .int .i64 0, .int .i64 0, .int .i64 0, .int .i64 0] 30 (0, 0)) := hq
       have hb_R0 : w.heap.size ≤ R0 := by omega
       clear hq hs hx))
  refine scope_hid 2 (fun J0 hJ0 => ?_)
  go_wp2_with (first
    | fail
    | ((with_reducible refine at_alloc 30 ?_); refine al_zero rfl 30 rfl MZ zero_msg ?_
       intro X0 z2 hq hs hx
       have E_z2 : Ext w z2 := E_z1.trans hx
       have hR_z2 : z2.heap[R0]? = some (.cells #[.int .i64 0, .bool false, .bool false, .bool false, .bool false, .bool false, .bool false, .int .i64 0, .int .u64 0, .int .u32 0, .int .u64 0, .int .u16 0, .int .u16 0, .int .i64 0, .int .i64 0, .int .i64 0, .int .i64 0] 30 (0, 0)) := (hx.block _ (heap_lt hR_z1)).trans hR_z1
       have hM_z2 : z2.heap[X0]? = some (.cells #[.int .i64 0, .bool false, .bool false, .bool false, .bool false, .bool false, .bool false, .int .i64 0, .int .u64 0, .int .u32 0, .int .u64 0, .int .u16 0, .int .u16 0, .int .i64 0, .int .i64 0, .int .i64 0, .int .i64 0] 30 (0, 0)) := hq
       have hb_X0 : w.heap.size ≤ X0 := by have := E_z1.size; omega
       have hn_R0X0 : R0 ≠ X0 := by have := heap_lt hR_z1; omega
       clear hR_z1 E_z1
       clear hq hs hx))
  refine (new_any _ xs _ (h.ext E_z2) hx hl).mono ?_
  rintro e n1 ⟨Q, rfl, nrd, hQ, hx2⟩
  have E_n1 : Ext w n1 := E_z2.trans hx2
  have hR_n1 : n1.heap[R0]? = some (.cells #[.int .i64 0, .bool false, .bool false, .bool false, .bool false, .bool false, .bool false, .int .i64 0, .int .u64 0, .int .u32 0, .int .u64 0, .int .u16 0, .int .u16 0, .int .i64 0, .int .i64 0, .int .i64 0, .int .i64 0] 30 (0, 0)) := (hx2.block _ (heap_lt hR_z2)).trans hR_z2
  have hM_n1 : n1.heap[X0]? = some (.cells #[.int .i64 0, .bool false, .bool false, .bool false, .bool false, .bool false, .bool false, .int .i64 0, .int .u64 0, .int .u32 0, .int .u64 0, .int .u16 0, .int .u16 0, .int .i64 0, .int .i64 0, .int .i64 0, .int .i64 0] 30 (0, 0)) := (hx2.block _ (heap_lt hM_z2)).trans hM_z2
  have rd_n1 := nrd
  have hQR : Q ≠ R0 := by have := heap_lt hR_z2; omega
  have hQX : Q ≠ X0 := by have := heap_lt hM_z2; omega
  have hQw : w.heap.size ≤ Q := by have := E_z2.size; omega
  clear hR_z2 hM_z2 E_z2
  clear nrd hx2 hQ
  go_wp2_with fail
  refine (take_n Q xs 2 _ rd_n1 (by decide) (by decide) (by first | omega | (simp only [List.length_drop]; omega))).mono ?_
  rintro e z3 ⟨rfl, nrd, hm⟩
  have hR_z3 : z3.heap[R0]? = some (.cells #[.int .i64 0, .bool false, .bool false, .bool false, .bool false, .bool false, .bool false, .int .i64 0, .int .u64 0, .int .u32 0, .int .u64 0, .int .u16 0, .int .u16 0, .int .i64 0, .int .i64 0, .int .i64 0, .int .i64 0] 30 (0, 0)) := (hm.heap (heap_lt hR_n1) (show ¬ R0 = Q by omega)).trans hR_n1
  have hM_z3 : z3.heap[X0]? = some (.cells #[.int .i64 0, .bool false, .bool false, .bool false, .bool false, .bool false, .bool false, .int .i64 0, .int .u64 0, .int .u32 0, .int .u64 0, .int .u16 0, .int .u16 0, .int .i64 0, .int .i64 0, .int .i64 0, .int .i64 0] 30 (0, 0)) := (hm.heap (heap_lt hM_n1) (show ¬ X0 = Q by omega)).trans hM_n1
  have rd_z3 : Rd z3 Q Q (xs.drop 2) false := by simpa only [List.drop_drop] using nrd
  have E_z3 : Ext w z3 := Ext.mutE E_n1 hm (fun n hn h => by have h2 : n = Q := h; omega)
  clear hR_n1 hM_n1 rd_n1 E_n1
  clear hm nrd
  go_wp2_with fail
  refine (take_n Q (xs.drop 2) 1 _ rd_z3 (by decide) (by decide) (by first | omega | (simp only [List.length_drop]; omega))).mono ?_
  rintro e z4 ⟨rfl, nrd, hm⟩
  have hR_z4 : z4.heap[R0]? = some (.cells #[.int .i64 0, .bool false, .bool false, .bool false, .bool false, .bool false, .bool false, .int .i64 0, .int .u64 0, .int .u32 0, .int .u64 0, .int .u16 0, .int .u16 0, .int .i64 0, .int .i64 0, .int .i64 0, .int .i64 0] 30 (0, 0)) := (hm.heap (heap_lt hR_z3) (show ¬ R0 = Q by omega)).trans hR_z3
  have hM_z4 : z4.heap[X0]? = some (.cells #[.int .i64 0, .bool false, .bool false, .bool false, .bool false, .bool false, .bool false, .int .i64 0, .int .u64 0, .int .u32 0, .int .u64 0, .int .u16 0, .int .u16 0, .int .i64 0, .int .i64 0, .int .i64 0, .int .i64 0] 30 (0, 0)) := (hm.heap (heap_lt hM_z3) (show ¬ X0 = Q by omega)).trans hM_z3
  have rd_z4 : Rd z4 Q Q (xs.drop 3) false := by simpa only [List.drop_drop] using nrd
  have E_z4 : Ext w z4 := Ext.mutE E_z3 hm (fun n hn h => by have h2 : n = Q := h; omega)
  clear hR_z3 hM_z3 rd_z3 E_z3
  clear hm nrd
  rw [show nu (xs.drop 2) 0 1 = nu xs 2 1 from nu_drop xs 2 0 1]
  go_wp2_with fail
  refine (take_n Q (xs.drop 3) 1 _ rd_z4 (by decide) (by decide) (by first | omega | (simp only [List.length_drop]; omega))).mono ?_
  rintro e z5 ⟨rfl, nrd, hm⟩
  have hR_z5 : z5.heap[R0]? = some (.cells #[.int .i64 0, .bool false, .bool false, .bool false, .bool false, .bool false, .bool false, .int .i64 0, .int .u64 0, .int .u32 0, .int .u64 0, .int .u16 0, .int .u16 0, .int .i64 0, .int .i64 0, .int .i64 0, .int .i64 0] 30 (0, 0)) := (hm.heap (heap_lt hR_z4) (show ¬ R0 = Q by omega)).trans hR_z4
  have hM_z5 : z5.heap[X0]? = some (.cells #[.int .i64 0, .bool false, .bool false, .bool false, .bool false, .bool false, .bool false, .int .i64 0, .int .u64 0, .int .u32 0, .int .u64 0, .int .u16 0, .int .u16 0, .int .i64 0, .int .i64 0, .int .i64 0, .int .i64 0] 30 (0, 0)) := (hm.heap (heap_lt hM_z4) (show ¬ X0 = Q by omega)).trans hM_z4
  have rd_z5 : Rd z5 Q Q (xs.drop 4) false := by simpa only [List.drop_drop] using nrd
  have E_z5 : Ext w z5 := Ext.mutE E_z4 hm (fun n hn h => by have h2 : n = Q := h; omega)
  clear hR_z4 hM_z4 rd_z4 E_z4
  clear hm nrd
  rw [show nu (xs.drop 3) 0 1 = nu xs 3 1 from nu_drop xs 3 0 1]
  go_wp2_with fail
  refine (short_any Q _ _ _ rd_z5).mono ?_
  rintro e _ ⟨rfl, rfl⟩
  have hg41 := nu_rg hx 4 1
  go_wp2_with fail
  refine (take_n Q (xs.drop 4) 1 _ rd_z5 (by decide) (by decide) (by first | omega | (simp only [List.length_drop]; omega))).mono ?_
  rintro e z6 ⟨rfl, nrd, hm⟩
  have hR_z6 : z6.heap[R0]? = some (.cells #[.int .i64 0, .bool false, .bool false, .bool false, .bool false, .bool false, .bool false, .int .i64 0, .int .u64 0, .int .u32 0, .int .u64 0, .int .u16 0, .int .u16 0, .int .i64 0, .int .i64 0, .int .i64 0, .int .i64 0] 30 (0, 0)) := (hm.heap (heap_lt hR_z5) (show ¬ R0 = Q by omega)).trans hR_z5
  have hM_z6 : z6.heap[X0]? = some (.cells #[.int .i64 0, .bool false, .bool false, .bool false, .bool false, .bool false, .bool false, .int .i64 0, .int .u64 0, .int .u32 0, .int .u64 0, .int .u16 0, .int .u16 0, .int .i64 0, .int .i64 0, .int .i64 0, .int .i64 0] 30 (0, 0)) := (hm.heap (heap_lt hM_z5) (show ¬ X0 = Q by omega)).trans hM_z5
  have rd_z6 : Rd z6 Q Q (xs.drop 5) false := by simpa only [List.drop_drop] using nrd
  have E_z6 : Ext w z6 := Ext.mutE E_z5 hm (fun n hn h => by have h2 : n = Q := h; omega)
  clear hR_z5 hM_z5 rd_z5 E_z5
  clear hm nrd
  rw [show nu (xs.drop 4) 0 1 = nu xs 4 1 from nu_drop xs 4 0 1]
  go_wp2_with fail
  refine (flagged_no 0 (nu xs 4 1) ⟨hg41.1, by have := hg41.2; omega⟩ (by decide) _).mono ?_
  rintro e z7 ⟨rfl, hx⟩
  have E_z7 : Ext w z7 := E_z6.trans hx
  have hR_z7 : z7.heap[R0]? = some (.cells #[.int .i64 0, .bool false, .bool false, .bool false, .bool false, .bool false, .bool false, .int .i64 0, .int .u64 0, .int .u32 0, .int .u64 0, .int .u16 0, .int .u16 0, .int .i64 0, .int .i64 0, .int .i64 0, .int .i64 0] 30 (0, 0)) := (hx.block _ (heap_lt hR_z6)).trans hR_z6
  have hM_z7 : z7.heap[X0]? = some (.cells #[.int .i64 0, .bool false, .bool false, .bool false, .bool false, .bool false, .bool false, .int .i64 0, .int .u64 0, .int .u32 0, .int .u64 0, .int .u16 0, .int .u16 0, .int .i64 0, .int .i64 0, .int .i64 0, .int .i64 0] 30 (0, 0)) := (hx.block _ (heap_lt hM_z6)).trans hM_z6
  have rd_z7 : Rd z7 Q Q (xs.drop 5) false := rd_ext rd_z6 hx
  clear hR_z6 hM_z6 rd_z6 E_z6
  clear hx
  go_wp2_with (first
    | fail
    | ((with_reducible refine at_store 30 ?_); refine st_at rfl rfl 30 _ _ rfl X0 0 _ #[.int .i64 0, .bool (isB (nu xs 4 1) 1), .bool (isB (nu xs 4 1) 128), .bool false, .bool false, .bool false, .bool false, .int .i64 4, .int .u64 0, .int .u32 0, .int .u64 0, .int .u16 0, .int .u16 0, .int .i64 0, .int .i64 0, .int .i64 0, .int .i64 0] _ #[.int .i64 0, .bool (isB (nu xs 4 1) 1), .bool (isB (nu xs 4 1) 128), .bool false, .bool false, .bool false, .bool false, .int .i64 4, .int .u64 0, .int .u32 0, .int .u64 0, .int .u16 0, .int .u16 0, .int .i64 0, .int .i64 0, .int .i64 0, .int .i64 0] _ rfl rfl rfl hM_z7 (by exact (by decide : 0 + 17 ≤ 17)) (by kernel_rfl) rfl rfl ?_
       intro z8 hq hm
       have hM_z8 : z8.heap[X0]? = some (.cells #[.int .i64 0, .bool (isB (nu xs 4 1) 1), .bool (isB (nu xs 4 1) 128), .bool false, .bool false, .bool false, .bool false, .int .i64 4, .int .u64 0, .int .u32 0, .int .u64 0, .int .u16 0, .int .u16 0, .int .i64 0, .int .i64 0, .int .i64 0, .int .i64 0] 30 (0, 0)) := hq
       have hR_z8 : z8.heap[R0]? = some (.cells #[.int .i64 0, .bool false, .bool false, .bool false, .bool false, .bool false, .bool false, .int .i64 0, .int .u64 0, .int .u32 0, .int .u64 0, .int .u16 0, .int .u16 0, .int .i64 0, .int .i64 0, .int .i64 0, .int .i64 0] 30 (0, 0)) := (hm.heap (heap_lt hR_z7) (show ¬ R0 = X0 by omega)).trans hR_z7
       have E_z8 : Ext w z8 := Ext.mutE E_z7 hm (fun n hn h => by have h2 : n = X0 := h; omega)
       have rd_z8 : Rd z8 Q Q (xs.drop 5) false := rd_far rd_z7 hM_z7 rfl (by omega) hm
       clear hR_z7 hM_z7 rd_z7 E_z7
       clear hq hm))
  refine (tvec_q Q (xs.drop 5) _ rd_z8 (by simp only [List.length_drop]; omega)).mono ?_
  rintro e z9 ⟨rfl, nrd, hm⟩
  have hR_z9 : z9.heap[R0]? = some (.cells #[.int .i64 0, .bool false, .bool false, .bool false, .bool false, .bool false, .bool false, .int .i64 0, .int .u64 0, .int .u32 0, .int .u64 0, .int .u16 0, .int .u16 0, .int .i64 0, .int .i64 0, .int .i64 0, .int .i64 0] 30 (0, 0)) := (hm.heap (heap_lt hR_z8) (show ¬ R0 = Q by omega)).trans hR_z8
  have hM_z9 : z9.heap[X0]? = some (.cells #[.int .i64 0, .bool (isB (nu xs 4 1) 1), .bool (isB (nu xs 4 1) 128), .bool false, .bool false, .bool false, .bool false, .int .i64 4, .int .u64 0, .int .u32 0, .int .u64 0, .int .u16 0, .int .u16 0, .int .i64 0, .int .i64 0, .int .i64 0, .int .i64 0] 30 (0, 0)) := (hm.heap (heap_lt hM_z8) (show ¬ X0 = Q by omega)).trans hM_z8
  have rd_z9 : Rd z9 Q Q (xs.drop 27) false := by simpa only [List.drop_drop] using nrd
  have E_z9 : Ext w z9 := Ext.mutE E_z8 hm (fun n hn h => by have h2 : n = Q := h; omega)
  clear hR_z8 hM_z8 rd_z8 E_z8
  clear hm nrd
  rw [nu_drop, nu_drop, nu_drop, nu_drop]
  go_wp2_with (first
    | fail
    | ((with_reducible refine at_store 26 ?_); refine st_at rfl rfl 26 _ _ rfl X0 8 _ #[.int .u64 (nu xs 5 8), .int .u32 (nu xs 13 4), .int .u64 (nu xs 17 8), .int .u16 (nu xs 25 2), .int .u16 0] _ #[.int .i64 0, .bool (isB (nu xs 4 1) 1), .bool (isB (nu xs 4 1) 128), .bool false, .bool false, .bool false, .bool false, .int .i64 4, .int .u64 (nu xs 5 8), .int .u32 (nu xs 13 4), .int .u64 (nu xs 17 8), .int .u16 (nu xs 25 2), .int .u16 0, .int .i64 0, .int .i64 0, .int .i64 0, .int .i64 0] _ rfl rfl rfl hM_z9 (by exact (by decide : 8 + 5 ≤ 17)) (by kernel_rfl) rfl rfl ?_
       intro z10 hq hm
       have hM_z10 : z10.heap[X0]? = some (.cells #[.int .i64 0, .bool (isB (nu xs 4 1) 1), .bool (isB (nu xs 4 1) 128), .bool false, .bool false, .bool false, .bool false, .int .i64 4, .int .u64 (nu xs 5 8), .int .u32 (nu xs 13 4), .int .u64 (nu xs 17 8), .int .u16 (nu xs 25 2), .int .u16 0, .int .i64 0, .int .i64 0, .int .i64 0, .int .i64 0] 30 (0, 0)) := hq
       have hR_z10 : z10.heap[R0]? = some (.cells #[.int .i64 0, .bool false, .bool false, .bool false, .bool false, .bool false, .bool false, .int .i64 0, .int .u64 0, .int .u32 0, .int .u64 0, .int .u16 0, .int .u16 0, .int .i64 0, .int .i64 0, .int .i64 0, .int .i64 0] 30 (0, 0)) := (hm.heap (heap_lt hR_z9) (show ¬ R0 = X0 by omega)).trans hR_z9
       have E_z10 : Ext w z10 := Ext.mutE E_z9 hm (fun n hn h => by have h2 : n = X0 := h; omega)
       have rd_z10 : Rd z10 Q Q (xs.drop 27) false := rd_far rd_z9 hM_z9 rfl (by omega) hm
       clear hR_z9 hM_z9 rd_z9 E_z9
       clear hq hm))
  refine (ttimes_q Q (xs.drop 27) _ rd_z10 (by simp only [List.length_drop]; omega)).mono ?_
  rintro e z11 ⟨rfl, nrd, hm⟩
  have hR_z11 : z11.heap[R0]? = some (.cells #[.int .i64 0, .bool false, .bool false, .bool false, .bool false, .bool false, .bool false, .int .i64 0, .int .u64 0, .int .u32 0, .int .u64 0, .int .u16 0, .int .u16 0, .int .i64 0, .int .i64 0, .int .i64 0, .int .i64 0] 30 (0, 0)) := (hm.heap (heap_lt hR_z10) (show ¬ R0 = Q by omega)).trans hR_z10
  have hM_z11 : z11.heap[X0]? = some (.cells #[.int .i64 0, .bool (isB (nu xs 4 1) 1), .bool (isB (nu xs 4 1) 128), .bool false, .bool false, .bool false, .bool false, .int .i64 4, .int .u64 (nu xs 5 8), .int .u32 (nu xs 13 4), .int .u64 (nu xs 17 8), .int .u16 (nu xs 25 2), .int .u16 0, .int .i64 0, .int .i64 0, .int .i64 0, .int .i64 0] 30 (0, 0)) := (hm.heap (heap_lt hM_z10) (show ¬ X0 = Q by omega)).trans hM_z10
  have rd_z11 : Rd z11 Q Q (xs.drop 35) false := by simpa only [List.drop_drop] using nrd
  have E_z11 : Ext w z11 := Ext.mutE E_z10 hm (fun n hn h => by have h2 : n = Q := h; omega)
  clear hR_z10 hM_z10 rd_z10 E_z10
  clear hm nrd
  rw [nu_drop, nu_drop, nu_drop, nu_drop]
  rw [show decide (nu xs (27 + 0) 2 < nu xs (27 + 2) 2) = false from hyg]
  go_wp2_with (first
    | fail
    | ((with_reducible refine at_store 28 ?_); refine st_at rfl rfl 28 _ _ rfl X0 13 _ #[.int .i64 (fromV (nu xs 27 2)), .int .i64 (fromV (nu xs 29 2)), .int .i64 (fromV (nu xs 31 2)), .int .i64 (fromV (nu xs 33 2))] _ #[.int .i64 0, .bool (isB (nu xs 4 1) 1), .bool (isB (nu xs 4 1) 128), .bool false, .bool false, .bool false, .bool false, .int .i64 4, .int .u64 (nu xs 5 8), .int .u32 (nu xs 13 4), .int .u64 (nu xs 17 8), .int .u16 (nu xs 25 2), .int .u16 0, .int .i64 (fromV (nu xs 27 2)), .int .i64 (fromV (nu xs 29 2)), .int .i64 (fromV (nu xs 31 2)), .int .i64 (fromV (nu xs 33 2))] _ rfl rfl rfl hM_z11 (by exact (by decide : 13 + 4 ≤ 17)) (by kernel_rfl) rfl rfl ?_
       intro z12 hq hm
       have hM_z12 : z12.heap[X0]? = some (.cells #[.int .i64 0, .bool (isB (nu xs 4 1) 1), .bool (isB (nu xs 4 1) 128), .bool false, .bool false, .bool false, .bool false, .int .i64 4, .int .u64 (nu xs 5 8), .int .u32 (nu xs 13 4), .int .u64 (nu xs 17 8), .int .u16 (nu xs 25 2), .int .u16 0, .int .i64 (fromV (nu xs 27 2)), .int .i64 (fromV (nu xs 29 2)), .int .i64 (fromV (nu xs 31 2)), .int .i64 (fromV (nu xs 33 2))] 30 (0, 0)) := hq
       have hR_z12 : z12.heap[R0]? = some (.cells #[.int .i64 0, .bool false, .bool false, .bool false, .bool false, .bool false, .bool false, .int .i64 0, .int .u64 0, .int .u32 0, .int .u64 0, .int .u16 0, .int .u16 0, .int .i64 0, .int .i64 0, .int .i64 0, .int .i64 0] 30 (0, 0)) := (hm.heap (heap_lt hR_z11) (show ¬ R0 = X0 by omega)).trans hR_z11
       have E_z12 : Ext w z12 := Ext.mutE E_z11 hm (fun n hn h => by have h2 : n = X0 := h; omega)
       have rd_z12 : Rd z12 Q Q (xs.drop 35) false := rd_far rd_z11 hM_z11 rfl (by omega) hm
       clear hR_z11 hM_z11 rd_z11 E_z11
       clear hq hm))
  try go_step3
  show J0 (Exit.goto 0) _ _
  refine jump_hid hJ0 rfl (fun J1 hJ1 => ?_)
  clear hJ0
  go_wp2_with (first
    | fail
    | ((with_reducible refine at_store 30 ?_); refine st_at rfl rfl 30 _ _ rfl R0 0 _ #[.int .i64 0, .bool false, .bool false, .bool false, .bool false, .bool false, .bool false, .int .i64 0, .int .u64 0, .int .u32 0, .int .u64 0, .int .u16 0, .int .u16 0, .int .i64 0, .int .i64 0, .int .i64 0, .int .i64 0] _ #[.int .i64 0, .bool false, .bool false, .bool false, .bool false, .bool false, .bool false, .int .i64 0, .int .u64 0, .int .u32 0, .int .u64 0, .int .u16 0, .int .u16 0, .int .i64 0, .int .i64 0, .int .i64 0, .int .i64 0] _ rfl rfl rfl hR_z12 (by exact (by decide : 0 + 17 ≤ 17)) (by kernel_rfl) rfl rfl ?_
       intro z13 hq hm
       have hR_z13 : z13.heap[R0]? = some (.cells #[.int .i64 0, .bool false, .bool false, .bool false, .bool false, .bool false, .bool false, .int .i64 0, .int .u64 0, .int .u32 0, .int .u64 0, .int .u16 0, .int .u16 0, .int .i64 0, .int .i64 0, .int .i64 0, .int .i64 0] 30 (0, 0)) := hq
       have hM_z13 : z13.heap[X0]? = some (.cells #[.int .i64 0, .bool (isB (nu xs 4 1) 1), .bool (isB (nu xs 4 1) 128), .bool false, .bool false, .bool false, .bool false, .int .i64 4, .int .u64 (nu xs 5 8), .int .u32 (nu xs 13 4), .int .u64 (nu xs 17 8), .int .u16 (nu xs 25 2), .int .u16 0, .int .i64 (fromV (nu xs 27 2)), .int .i64 (fromV (nu xs 29 2)), .int .i64 (fromV (nu xs 31 2)), .int .i64 (fromV (nu xs 33 2))] 30 (0, 0)) := (hm.heap (heap_lt hM_z12) (show ¬ X0 = R0 by omega)).trans hM_z12
       have E_z13 : Ext w z13 := Ext.mutE E_z12 hm (fun n hn h => by have h2 : n = R0 := h; omega)
       have rd_z13 : Rd z13 Q Q (xs.drop 35) false := rd_far rd_z12 hR_z12 rfl (by omega) hm
       clear hR_z12 hM_z12 rd_z12 E_z12
       clear hq hm))
  refine jump_ret hJ1 ?_
  refine bodyPost_ret (results_crt rfl _ _ _ _ _ (0, 0) _ rfl hR_z13 Try.underlying30 rfl (by kernel_rfl)) rfl ?_
  refine ⟨?_, E_z13⟩
  rfl

end Go.Proofs.Ytdfaagchlnkpnaa
