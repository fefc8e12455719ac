/- What a message is encoded to, by the document. No statement is proved here. -/
import Derived.Test.YtdfaagchlnkpnaaBpJ
namespace Go.Proofs.Ytdfaagchlnkpnaa
open Go.RowKit Go.BigFrame Go.WideShapes Go.ChangeShapes Go.Deep
set_option linter.unusedVariables false
set_option linter.unusedSimpArgs false

theorem size_al (w : World) (o : Obj) : (w.alloc o).heap.size = w.heap.size + 1 := by show (w.heap.push o).size = _; simp
theorem flag_e (s : Bool) (n : Int) (w : World) : Calls Try.prog 39 #[.bool s, .int .i64 n] w fun e w' => e = .returned (.int .i64 (bitV s n)) ∧ Ext w w' := toExt (flag_q s n w)
theorem w64i (n : Int) (h0 : -1000 ≤ n) (h1 : n ≤ 1000) : IntKind.i64.wrap n = n := by rw [IntKind.wrap_i64]; omega
theorem bts1 (x : Int) (h0 : 0 ≤ x) (h1 : x < 256) : bts x.toNat 1 = [x] := by
  rw [bts_1 _ (by omega)]
  congr 1
  omega
theorem refput_i (n : Int) (k : Nat) (w : World) (h : 0 ≤ n ∧ n < 18446744073709551616) (h0 : 1 ≤ k) (h1 : k ≤ 8) : Calls Try.prog 40 #[.int .u64 n, .int .i64 k] w (Owned w (bts n.toNat k)) := by
  obtain ⟨m, rfl⟩ := Int.eq_ofNat_of_zero_le h.1
  exact refput_any k m w (by omega) h0 h1
set_option maxRecDepth 100000 in
set_option maxHeartbeats 2000000 in
theorem ed_c (q : Mg) (hq : q.ok) (hk : q.kd = 0) (w : World) : Calls Try.prog 18 #[.agg #[.int .i64 q.kd, .bool q.ch, .bool q.ak, .bool q.pr, .bool q.ag, .bool q.ln, .bool q.fw, .int .i64 q.ro, .int .u64 q.r, .int .u32 q.c, .int .u64 q.b, .int .u16 q.p, .int .u16 q.x, .int .i64 q.a, .int .i64 q.m, .int .i64 q.h, .int .i64 q.d]] w (Owned w (encL q)) := by
  have hz := zero_msg
  have hfl := flagsN_rg q
  have gch := bitV_rg q.ch 1 (by decide)
  have gak := bitV_rg q.ak 128 (by decide)
  have gpr := bitV_rg q.pr 2 (by decide)
  have gln := bitV_rg q.ln 16 (by decide)
  have gfw := bitV_rg q.fw 32 (by decide)
  have gag := bitV_rg q.ag 64 (by decide)
  have b0 : decide (q.kd < 0) = false := by simp; omega
  have b2 : decide (2 < q.kd) = false := by simp; omega
  have k1 : (q.kd == 1) = false := by simp; omega
  have hpl : plainM q = (⟨0, q.ch, q.ak, false, false, false, false, 4, q.r, q.c, q.b, q.p, 0, (told q.a), (told q.m), (told q.h), (told q.d)⟩ : Mg) := by
    unfold plainM
    rw [if_neg (by omega), if_pos (.inl hk), flagged_flags, if_neg (by omega), hk]
    rfl
  have HPL := Lib.hid (show ∀ w : World, Calls Try.prog 20 #[.agg #[.int .i64 q.kd, .bool q.ch, .bool q.ak, .bool q.pr, .bool q.ag, .bool q.ln, .bool q.fw, .int .i64 q.ro, .int .u64 q.r, .int .u32 q.c, .int .u64 q.b, .int .u16 q.p, .int .u16 q.x, .int .i64 q.a, .int .i64 q.m, .int .i64 q.h, .int .i64 q.d]] w fun e w' => e = .returned (.agg #[.int .i64 0, .bool q.ch, .bool q.ak, .bool false, .bool false, .bool false, .bool false, .int .i64 4, .int .u64 q.r, .int .u32 q.c, .int .u64 q.b, .int .u16 q.p, .int .u16 0, .int .i64 (told q.a), .int .i64 (told q.m), .int .i64 (told q.h), .int .i64 (told q.d)]) ∧ Ext w w' from fun w => by
    have := plaind_any q hq w
    rw [hpl] at this
    exact this)
  clear hpl
  have hsum : bitV q.ch 1 + bitV q.ak 128 = flagsN q := by unfold flagsN; rw [if_neg (by omega), fl2_sum]
  have hb1 := bts1 (flagsN q) hfl.1 hfl.2
  have hek : e1 q = [0, 0, 0, 0] ++ [flagsN q] := by unfold e1 headL; rw [hb1, if_pos hk]
  have hl1 : (e1 q).length = 5 := by rw [hek]; rfl
  have hl2 : (e2 q).length = 13 := by simp [e2, hl1, bts_len]
  have hl3 : (e3 q).length = 17 := by simp [e3, hl2, bts_len]
  have hl4 : (e4 q).length = 25 := by simp [e4, hl3, bts_len]
  have hl6 : ∀ n, (e6 q n).length = 27 + 2 * n := fun n => by
    induction n with
    | zero => exact (e6_len q (by omega)).1
    | succ n ih => show (e6 q n ++ _).length = _; rw [List.length_append, ih, bts_len]; omega
  have hcw : IntKind.u64.wrap q.c = q.c := by have := hq.c; rw [IntKind.wrap_u64]; omega
  have hpw : IntKind.u64.wrap q.p = q.p := by have := hq.p; rw [IntKind.wrap_u64]; omega
  have HQ := Lib.hid hq
  have HK := Lib.hid hk
  clear hq hk
  go_enter Try.func18, Try.ntmps18
  go_wp2_with fail
  have hA_w0 : (w.alloc (.cells #[.int .i64 q.kd, .bool q.ch, .bool q.ak, .bool q.pr, .bool q.ag, .bool q.ln, .bool q.fw, .int .i64 q.ro, .int .u64 q.r, .int .u32 q.c, .int .u64 q.b, .int .u16 q.p, .int .u16 q.x, .int .i64 q.a, .int .i64 q.m, .int .i64 q.h, .int .i64 q.d] 30)).heap[w.heap.size]? = some (.cells #[.int .i64 q.kd, .bool q.ch, .bool q.ak, .bool q.pr, .bool q.ag, .bool q.ln, .bool q.fw, .int .i64 q.ro, .int .u64 q.r, .int .u32 q.c, .int .u64 q.b, .int .u16 q.p, .int .u16 q.x, .int .i64 q.a, .int .i64 q.m, .int .i64 q.h, .int .i64 q.d] 30 (0, 0)) := heap_alloc_new _ _
  have hE_w0 : Ext w (w.alloc (.cells #[.int .i64 q.kd, .bool q.ch, .bool q.ak, .bool q.pr, .bool q.ag, .bool q.ln, .bool q.fw, .int .i64 q.ro, .int .u64 q.r, .int .u32 q.c, .int .u64 q.b, .int .u16 q.p, .int .u16 q.x, .int .i64 q.a, .int .i64 q.m, .int .i64 q.h, .int .i64 q.d] 30)) := (Ext.refl _).alloc _
  generalize w.alloc (.cells #[.int .i64 q.kd, .bool q.ch, .bool q.ak, .bool q.pr, .bool q.ag, .bool q.ln, .bool q.fw, .int .i64 q.ro, .int .u64 q.r, .int .u32 q.c, .int .u64 q.b, .int .u16 q.p, .int .u16 q.x, .int .i64 q.a, .int .i64 q.m, .int .i64 q.h, .int .i64 q.d] 30) = w0 at *
  obtain ⟨A0, hA0⟩ : ∃ n, w.heap.size = n := ⟨_, rfl⟩
  rw [hA0] at hA_w0 ⊢
  have rA0_w0 : w0.cell? ⟨A0, 0, none⟩ = some (.int .i64 q.kd) := (cell_of_row _ _ _ _ _ _ hA_w0).trans rfl
  go_wp2_with (first
    | fail
    | ((with_reducible refine at_load 30 ?_); refine wpList_load_row rfl 30 _ rfl A0 rfl 30 #[.int .i64 q.kd, .bool q.ch, .bool q.ak, .bool q.pr, .bool q.ag, .bool q.ln, .bool q.fw, .int .i64 q.ro, .int .u64 q.r, .int .u32 q.c, .int .u64 q.b, .int .u16 q.p, .int .u16 q.x, .int .i64 q.a, .int .i64 q.m, .int .i64 q.h, .int .i64 q.d] (0, 0) _ hA_w0 Try.underlying30 rfl (by kernel_rfl) ?_))
  refine (HPL.out _).mono ?_
  rintro e z1 ⟨rfl, hx⟩
  have E_z1 : Ext w0 z1 := hx
  have hA_z1 : z1.heap[A0]? = some (.cells #[.int .i64 q.kd, .bool q.ch, .bool q.ak, .bool q.pr, .bool q.ag, .bool q.ln, .bool q.fw, .int .i64 q.ro, .int .u64 q.r, .int .u32 q.c, .int .u64 q.b, .int .u16 q.p, .int .u16 q.x, .int .i64 q.a, .int .i64 q.m, .int .i64 q.h, .int .i64 q.d] 30 (0, 0)) := (hx.block _ (heap_lt hA_w0)).trans hA_w0
  have rA0_z1 : z1.cell? ⟨A0, 0, none⟩ = some (.int .i64 q.kd) := (cell_of_row _ _ _ _ _ _ hA_z1).trans rfl
  clear hA_w0 rA0_w0
  clear hx
  go_wp2_with (first
    | fail
    | ((with_reducible refine at_alloc 30 ?_); refine al_zero rfl 30 rfl MZ zero_msg ?_
       intro P0 z2 hq hs hx
       have E_z2 : Ext w0 z2 := E_z1.trans hx
       have hA_z2 : z2.heap[A0]? = some (.cells #[.int .i64 q.kd, .bool q.ch, .bool q.ak, .bool q.pr, .bool q.ag, .bool q.ln, .bool q.fw, .int .i64 q.ro, .int .u64 q.r, .int .u32 q.c, .int .u64 q.b, .int .u16 q.p, .int .u16 q.x, .int .i64 q.a, .int .i64 q.m, .int .i64 q.h, .int .i64 q.d] 30 (0, 0)) := (hx.block _ (heap_lt hA_z1)).trans hA_z1
       have hP_z2 : z2.heap[P0]? = some (.cells #[.int .i64 0, .bool false, .bool false, .bool false, .bool false, .bool false, .bool false, .int .i64 0, .int .u64 0, .int .u32 0, .int .u64 0, .int .u16 0, .int .u16 0, .int .i64 0, .int .i64 0, .int .i64 0, .int .i64 0] 30 (0, 0)) := hq
       have hb_P0 : w0.heap.size ≤ P0 := by have := E_z1.size; omega
       have hn_A0P0 : A0 ≠ P0 := by have := heap_lt hA_z1; omega
       have rA0_z2 : z2.cell? ⟨A0, 0, none⟩ = some (.int .i64 q.kd) := (cell_of_row _ _ _ _ _ _ hA_z2).trans rfl
       clear hA_z1 E_z1 rA0_z1
       clear hq hs hx)
    | ((with_reducible refine at_store 30 ?_); refine st_at rfl rfl 30 _ _ rfl P0 0 _ #[.int .i64 0, .bool q.ch, .bool q.ak, .bool false, .bool false, .bool false, .bool false, .int .i64 4, .int .u64 q.r, .int .u32 q.c, .int .u64 q.b, .int .u16 q.p, .int .u16 0, .int .i64 (told q.a), .int .i64 (told q.m), .int .i64 (told q.h), .int .i64 (told q.d)] _ #[.int .i64 0, .bool q.ch, .bool q.ak, .bool false, .bool false, .bool false, .bool false, .int .i64 4, .int .u64 q.r, .int .u32 q.c, .int .u64 q.b, .int .u16 q.p, .int .u16 0, .int .i64 (told q.a), .int .i64 (told q.m), .int .i64 (told q.h), .int .i64 (told q.d)] _ rfl rfl rfl hP_z2 (by exact (by decide : 0 + 17 ≤ 17)) (by kernel_rfl) rfl rfl ?_
       intro z3 hq hm
       have hP_z3 : z3.heap[P0]? = some (.cells #[.int .i64 0, .bool q.ch, .bool q.ak, .bool false, .bool false, .bool false, .bool false, .int .i64 4, .int .u64 q.r, .int .u32 q.c, .int .u64 q.b, .int .u16 q.p, .int .u16 0, .int .i64 (told q.a), .int .i64 (told q.m), .int .i64 (told q.h), .int .i64 (told q.d)] 30 (0, 0)) := hq
       have hA_z3 : z3.heap[A0]? = some (.cells #[.int .i64 q.kd, .bool q.ch, .bool q.ak, .bool q.pr, .bool q.ag, .bool q.ln, .bool q.fw, .int .i64 q.ro, .int .u64 q.r, .int .u32 q.c, .int .u64 q.b, .int .u16 q.p, .int .u16 q.x, .int .i64 q.a, .int .i64 q.m, .int .i64 q.h, .int .i64 q.d] 30 (0, 0)) := (hm.heap (heap_lt hA_z2) (show ¬ A0 = P0 by omega)).trans hA_z2
       have E_z3 : Ext w0 z3 := Ext.mutE E_z2 hm (fun n hn h => by have h2 : n = P0 := h; omega)
       clear hA_z2 hP_z2 E_z2 rA0_z2
       clear hq hm))
  refine beginL (S := fun W' => Ext z3 W') (by kernel_rfl) ?_
  intro wd hqx
  have hq0 : Ext z3 wd := hqx
  refine takeL (i := 0) (v := (.pointer (some ⟨P0, 1, none⟩))) rfl (by kernel_rfl) (by kernel_rfl) (by kernel_rfl) (fun _ _ _ h => h) (Or.inl ⟨rfl, fun _ _ => rfl⟩) hq0 ?_
  simp only [Act.put, List.setIfInBounds_toArray, List.set_cons_zero, List.set_cons_succ]
  refine takeL (i := 1) (v := _) rfl (by kernel_rfl) (by kernel_rfl) (by kernel_rfl) (fun _ _ _ h => h) (yieldsIf_cell rfl 4 _ rfl ⟨P0, 1, none⟩ rfl (.bool q.ch) _ (fun W' hW' => (cell_of_row _ _ _ _ _ _ ((hW'.block _ (heap_lt hP_z3)).trans hP_z3)).trans rfl) Try.underlying4 rfl) hq0 ?_
  simp only [Act.put, List.setIfInBounds_toArray, List.set_cons_zero, List.set_cons_succ]
  refine takeL (i := 3) (v := (.pointer (some ⟨P0, 2, none⟩))) rfl (by kernel_rfl) (by kernel_rfl) (by kernel_rfl) (fun _ _ _ h => h) (Or.inl ⟨rfl, fun _ _ => rfl⟩) hq0 ?_
  simp only [Act.put, List.setIfInBounds_toArray, List.set_cons_zero, List.set_cons_succ]
  refine takeL (i := 4) (v := _) rfl (by kernel_rfl) (by kernel_rfl) (by kernel_rfl) (fun _ _ _ h => h) (yieldsIf_cell rfl 4 _ rfl ⟨P0, 2, none⟩ rfl (.bool q.ak) _ (fun W' hW' => (cell_of_row _ _ _ _ _ _ ((hW'.block _ (heap_lt hP_z3)).trans hP_z3)).trans rfl) Try.underlying4 rfl) hq0 ?_
  simp only [Act.put, List.setIfInBounds_toArray, List.set_cons_zero, List.set_cons_succ]
  refine runL (i := 2) rfl rfl (by kernel_rfl) (fun K hK => ?_)
  go_simp
  refine (flag_e q.ch 1 _).mono ?_
  rintro e wc1 ⟨rfl, hx⟩
  have hq1 := hq0.trans hx
  refine hK.out _ _ hq1 (fun hHeld => ?_)
  try simp only [Act.put, List.setIfInBounds_toArray, List.set_cons_zero, List.set_cons_succ]
  clear hK K hHeld
  refine runL (i := 5) rfl rfl (by kernel_rfl) (fun K hK => ?_)
  go_simp
  refine (flag_e q.ak 128 _).mono ?_
  rintro e wc2 ⟨rfl, hx⟩
  have hq2 := hq1.trans hx
  refine hK.out _ _ hq2 (fun hHeld => ?_)
  try simp only [Act.put, List.setIfInBounds_toArray, List.set_cons_zero, List.set_cons_succ]
  clear hK K hHeld
  refine takeL (i := 6) (v := (.int .i64 (bitV q.ch 1 + bitV q.ak 128))) rfl (by kernel_rfl) (by kernel_rfl) (by kernel_rfl) (fun _ _ _ h => h) (Or.inl ⟨rfl, fun W' _ => by go_simp; exact w64i _ (by omega) (by omega)⟩) hq2 ?_
  simp only [Act.put, List.setIfInBounds_toArray, List.set_cons_zero, List.set_cons_succ]
  refine takeL (i := 7) (v := (.int .i64 (bitV q.ch 1 + bitV q.ak 128))) rfl (by kernel_rfl) (by kernel_rfl) (by kernel_rfl) (fun _ _ _ h => h) (Or.inl ⟨rfl, fun _ _ => rfl⟩) hq2 ?_
  simp only [Act.put, List.setIfInBounds_toArray, List.set_cons_zero, List.set_cons_succ]
  refine wpAnyH_done (by kernel_rfl) ?_ _
  generalize wc2 = z4 at *
  have hA_z4 : z4.heap[A0]? = some (.cells #[.int .i64 q.kd, .bool q.ch, .bool q.ak, .bool q.pr, .bool q.ag, .bool q.ln, .bool q.fw, .int .i64 q.ro, .int .u64 q.r, .int .u32 q.c, .int .u64 q.b, .int .u16 q.p, .int .u16 q.x, .int .i64 q.a, .int .i64 q.m, .int .i64 q.h, .int .i64 q.d] 30 (0, 0)) := (hq2.block _ (heap_lt hA_z3)).trans hA_z3
  have hP_z4 : z4.heap[P0]? = some (.cells #[.int .i64 0, .bool q.ch, .bool q.ak, .bool false, .bool false, .bool false, .bool false, .int .i64 4, .int .u64 q.r, .int .u32 q.c, .int .u64 q.b, .int .u16 q.p, .int .u16 0, .int .i64 (told q.a), .int .i64 (told q.m), .int .i64 (told q.h), .int .i64 (told q.d)] 30 (0, 0)) := (hq2.block _ (heap_lt hP_z3)).trans hP_z3
  have E_z4 : Ext w0 z4 := E_z3.trans hq2
  have rP0_z4 : z4.cell? ⟨P0, 0, none⟩ = some (.int .i64 0) := (cell_of_row _ _ _ _ _ _ hP_z4).trans rfl
  have rP8_z4 : z4.cell? ⟨P0, 8, none⟩ = some (.int .u64 q.r) := (cell_of_row _ _ _ _ _ _ hP_z4).trans rfl
  have rP9_z4 : z4.cell? ⟨P0, 9, none⟩ = some (.int .u32 q.c) := (cell_of_row _ _ _ _ _ _ hP_z4).trans rfl
  have rP10_z4 : z4.cell? ⟨P0, 10, none⟩ = some (.int .u64 q.b) := (cell_of_row _ _ _ _ _ _ hP_z4).trans rfl
  have rP11_z4 : z4.cell? ⟨P0, 11, none⟩ = some (.int .u16 q.p) := (cell_of_row _ _ _ _ _ _ hP_z4).trans rfl
  have rA13_z4 : z4.cell? ⟨A0, 13, none⟩ = some (.int .i64 q.a) := (cell_of_row _ _ _ _ _ _ hA_z4).trans rfl
  have rA14_z4 : z4.cell? ⟨A0, 14, none⟩ = some (.int .i64 q.m) := (cell_of_row _ _ _ _ _ _ hA_z4).trans rfl
  have rA15_z4 : z4.cell? ⟨A0, 15, none⟩ = some (.int .i64 q.h) := (cell_of_row _ _ _ _ _ _ hA_z4).trans rfl
  have rA16_z4 : z4.cell? ⟨A0, 16, none⟩ = some (.int .i64 q.d) := (cell_of_row _ _ _ _ _ _ hA_z4).trans rfl
  clear hA_z3 hP_z3 E_z3
  clear hq0 hq1 hq2
  have hltP := heap_lt hP_z4
  have hltA := heap_lt hA_z4
  have HEW := Lib.hid E_z4
  have hPk := hP_z4
  have hAk := hA_z4
  have hone : IsInts ((z4.alloc (.cells #[.int .u8 0, .int .u8 0, .int .u8 0, .int .u8 0] 5)).alloc (.cells #[.int .u8 (flagsN q)] 5)) .u8 (.slice (some ⟨z4.heap.size + 1, 0, none⟩) 1 1) [flagsN q] := by
    have h := isBytes_alloc (z4.alloc (.cells #[.int .u8 0, .int .u8 0, .int .u8 0, .int .u8 0] 5)) [flagsN q] 1 5 (show 0 < 1 by decide) (Nat.le_refl _) (by decide)
    rw [size_al] at h
    exact h
  go_wp2_with (first
    | fail
    | (at_builtin; refine wpList_app rfl _ _ rfl z4 (((Ext.refl z4).alloc _).alloc _) _ _ ([0, 0, 0, 0]) ([flagsN q]) rfl rfl ((four_own z4 0 0 0 0).alloc _) hone (show 4 + 1 ≤ 100000 by decide) ?_
       intro va1 a1 hown_a1 hE_a1 hg_a1
       have hO_a1 : a1.ownsRow z4.heap.size 5 1 va1 (e1 q).length ((e1 q).map (Value.int .u8)) := by rw [hek]; exact hown_a1
       clear hown_a1 hg_a1
       have cP8_a1 : a1.cell? ⟨P0, 8, none⟩ = some (.int .u64 q.r) := (cell_of_row _ _ _ _ _ _ ((hE_a1.block _ hltP).trans hPk)).trans rfl))
  refine (refput_i (q.r) 8 _ HQ.out.r (by decide) (by decide)).mono ?_
  rintro e p2 ⟨vp0, rfl, hown_p, hx0⟩
  have hi_p2 := isBytes_own hown_p
  have hE_p2 := hE_a1.trans hx0
  have hO_p2 := owns_ext hO_a1 hx0
  clear hown_p hx0 hO_a1 hE_a1
  go_wp2_with (first
    | fail
    | (at_builtin; refine wpList_app rfl _ _ rfl z4 hE_p2 _ _ (e1 q) (bts (q.r).toNat 8) rfl rfl hO_p2 hi_p2 (by rw [hl1, bts_len]; omega) ?_
       intro va2 a2 hown_a2 hE_a2 hg_a2
       have hO_a2 : a2.ownsRow z4.heap.size 5 1 va2 (e2 q).length ((e2 q).map (Value.int .u8)) := by exact hown_a2
       clear hown_a2 hg_a2
       have cP9_a2 : a2.cell? ⟨P0, 9, none⟩ = some (.int .u32 q.c) := (cell_of_row _ _ _ _ _ _ ((hE_a2.block _ hltP).trans hPk)).trans rfl))
  clear hi_p2 hE_p2 hO_p2
  refine (refput_i (q.c) 4 _ ⟨HQ.out.c.1, by have := HQ.out.c.2; omega⟩ (by decide) (by decide)).mono ?_
  rintro e p3 ⟨vp1, rfl, hown_p, hx1⟩
  have hi_p3 := isBytes_own hown_p
  have hE_p3 := hE_a2.trans hx1
  have hO_p3 := owns_ext hO_a2 hx1
  clear hown_p hx1 hO_a2 hE_a2
  go_wp2_with (first
    | fail
    | (at_builtin; refine wpList_app rfl _ _ rfl z4 hE_p3 _ _ (e2 q) (bts (q.c).toNat 4) rfl rfl hO_p3 hi_p3 (by rw [hl2, bts_len]; omega) ?_
       intro va3 a3 hown_a3 hE_a3 hg_a3
       have hO_a3 : a3.ownsRow z4.heap.size 5 1 va3 (e3 q).length ((e3 q).map (Value.int .u8)) := by exact hown_a3
       clear hown_a3 hg_a3
       have cP10_a3 : a3.cell? ⟨P0, 10, none⟩ = some (.int .u64 q.b) := (cell_of_row _ _ _ _ _ _ ((hE_a3.block _ hltP).trans hPk)).trans rfl))
  clear hi_p3 hE_p3 hO_p3
  refine (refput_i (q.b) 8 _ HQ.out.b (by decide) (by decide)).mono ?_
  rintro e p4 ⟨vp2, rfl, hown_p, hx2⟩
  have hi_p4 := isBytes_own hown_p
  have hE_p4 := hE_a3.trans hx2
  have hO_p4 := owns_ext hO_a3 hx2
  clear hown_p hx2 hO_a3 hE_a3
  go_wp2_with (first
    | fail
    | (at_builtin; refine wpList_app rfl _ _ rfl z4 hE_p4 _ _ (e3 q) (bts (q.b).toNat 8) rfl rfl hO_p4 hi_p4 (by rw [hl3, bts_len]; omega) ?_
       intro va4 a4 hown_a4 hE_a4 hg_a4
       have hO_a4 : a4.ownsRow z4.heap.size 5 1 va4 (e4 q).length ((e4 q).map (Value.int .u8)) := by exact hown_a4
       clear hown_a4 hg_a4
       have cP11_a4 : a4.cell? ⟨P0, 11, none⟩ = some (.int .u16 q.p) := (cell_of_row _ _ _ _ _ _ ((hE_a4.block _ hltP).trans hPk)).trans rfl))
  clear hi_p4 hE_p4 hO_p4
  refine (refput_i (q.p) 2 _ ⟨HQ.out.p.1, by have := HQ.out.p.2; omega⟩ (by decide) (by decide)).mono ?_
  rintro e p5 ⟨vp3, rfl, hown_p, hx3⟩
  have hi_p5 := isBytes_own hown_p
  have hE_p5 := hE_a4.trans hx3
  have hO_p5 := owns_ext hO_a4 hx3
  clear hown_p hx3 hO_a4 hE_a4
  go_wp2_with (first
    | fail
    | (at_builtin; refine wpList_app rfl _ _ rfl z4 hE_p5 _ _ (e4 q) (bts (q.p).toNat 2) rfl rfl hO_p5 hi_p5 (by rw [hl4, bts_len]; omega) ?_
       intro va5 a5 hown_a5 hE_a5 hg_a5
       have hO_a5 : a5.ownsRow z4.heap.size 5 1 va5 (e5 q).length ((e5 q).map (Value.int .u8)) := by exact hown_a5
       clear hown_a5 hg_a5
       have cA13_a5 : a5.cell? ⟨A0, 13, none⟩ = some (.int .i64 q.a) := (cell_of_row _ _ _ _ _ _ ((hE_a5.block _ hltA).trans hAk)).trans rfl
       have cA14_a5 : a5.cell? ⟨A0, 14, none⟩ = some (.int .i64 q.m) := (cell_of_row _ _ _ _ _ _ ((hE_a5.block _ hltA).trans hAk)).trans rfl
       have cA15_a5 : a5.cell? ⟨A0, 15, none⟩ = some (.int .i64 q.h) := (cell_of_row _ _ _ _ _ _ ((hE_a5.block _ hltA).trans hAk)).trans rfl
       have cA16_a5 : a5.cell? ⟨A0, 16, none⟩ = some (.int .i64 q.d) := (cell_of_row _ _ _ _ _ _ ((hE_a5.block _ hltA).trans hAk)).trans rfl))
  have hTB : (a5.alloc (.cells #[.int .i64 q.a, .int .i64 q.m, .int .i64 q.h, .int .i64 q.d] 3)).heap[a5.heap.size]? = some (.cells #[.int .i64 q.a, .int .i64 q.m, .int .i64 q.h, .int .i64 q.d] 3 (0, 0)) := heap_alloc_new _ _
  have hE_b := hE_a5.trans ((Ext.refl a5).alloc (.cells #[.int .i64 q.a, .int .i64 q.m, .int .i64 q.h, .int .i64 q.d] 3))
  have hO_b := hO_a5.alloc (.cells #[.int .i64 q.a, .int .i64 q.m, .int .i64 q.h, .int .i64 q.d] 3)
  generalize a5.alloc (.cells #[.int .i64 q.a, .int .i64 q.m, .int .i64 q.h, .int .i64 q.d] 3) = b0 at *
  obtain ⟨T0, hT0⟩ : ∃ n, a5.heap.size = n := ⟨_, rfl⟩
  rw [hT0] at hTB ⊢
  clear hT0 hO_a5 hE_a5 cA13_a5 cA14_a5 cA15_a5 cA16_a5 hi_p5 hE_p5 hO_p5
  go_loopw [5, 7] (fun v i wr => ∃ n : Nat, n ≤ 4 ∧ i = .int .i64 n ∧ wr.ownsRow z4.heap.size 5 1 v (e6 q n).length ((e6 q n).map (Value.int .u8)) ∧ wr.heap[T0]? = some (.cells #[.int .i64 q.a, .int .i64 q.m, .int .i64 q.h, .int .i64 q.d] 3 (0, 0)) ∧ Ext z4 wr) (fun _ i _ => 4 - (intOf i).toNat)
  case atStart => exact ⟨0, by omega, rfl, hO_b, hTB, hE_b⟩
  case round =>
    clear hO_b hTB hE_b
    obtain ⟨n, hn, rfl, hO, hTB, hE⟩ := hrel
    by_cases hlt : n < 4
    · have cn : wr.cell? ⟨T0, n, none⟩ = some (.int .i64 (tm q n)) := (cell_of_row _ _ _ _ _ _ hTB).trans (by
        match n, hlt with
        | 0, _ => rfl
        | 1, _ => rfl
        | 2, _ => rfl
        | 3, _ => rfl)
      have hv := toV_rg (tm q n)
      have htw : IntKind.u64.wrap (toV (tm q n)) = toV (tm q n) := by rw [IntKind.wrap_u64]; omega
      go_wp2_with fail
      refine (ref_to (tm q n) wr).mono ?_
      rintro e _ ⟨rfl, rfl⟩
      go_wp2_with fail
      refine (refput_i (toV (tm q n)) 2 _ ⟨hv.1, by omega⟩ (by decide) (by decide)).mono ?_
      rintro e p ⟨gp, rfl, hown_p, hxp⟩
      have hip := isBytes_own hown_p
      have hop := owns_ext hO hxp
      have hEp := hE.trans hxp
      have hTp := (hxp.block _ (heap_lt hTB)).trans hTB
      clear hO hE hxp cn hTB hown_p
      go_wp2_with (first
        | fail
        | (at_builtin; refine wpList_app rfl _ _ rfl z4 hEp _ _ (e6 q n) (bts (toV (tm q n)).toNat 2) rfl rfl hop hip (by rw [hl6, bts_len]; omega) ?_
           intro vq wq hown_wq hE_wq hg_wq
           have hTq := far_keep hop hTp (by decide) hg_wq
           clear hop hTp hip hEp hg_wq))
      go_roundw
      case rel => exact ⟨n + 1, by omega, by go_num, hown_wq, hTq, hE_wq⟩
      case measure => simp [intOf]; omega
    · obtain rfl : n = 4 := by omega
      have cP0_wr : wr.cell? ⟨P0, 0, none⟩ = some (.int .i64 0) := (cell_of_row _ _ _ _ _ _ ((hE.block _ hltP).trans hPk)).trans rfl
      go_wp2_with fail
      go_ret
      refine ⟨_, rfl, ?_, hE_w0.trans (HEW.out.trans hE)⟩
      have e : encL q = e6 q 4 := by unfold encL; rw [if_pos HK.out]
      rw [e]
      exact owns_base hO (hE_w0.trans HEW.out).size
set_option maxRecDepth 100000 in
set_option maxHeartbeats 2000000 in
theorem ed_r0 (q : Mg) (hq : q.ok) (hk : q.kd = 2) (hr : roN q.ro = 0) (w : World) : Calls Try.prog 18 #[.agg #[.int .i64 q.kd, .bool q.ch, .bool q.ak, .bool q.pr, .bool q.ag, .bool q.ln, .bool q.fw, .int .i64 q.ro, .int .u64 q.r, .int .u32 q.c, .int .u64 q.b, .int .u16 q.p, .int .u16 q.x, .int .i64 q.a, .int .i64 q.m, .int .i64 q.h, .int .i64 q.d]] w (Owned w (encL q)) := by
  have hz := zero_msg
  have hfl := flagsN_rg q
  have gch := bitV_rg q.ch 1 (by decide)
  have gak := bitV_rg q.ak 128 (by decide)
  have gpr := bitV_rg q.pr 2 (by decide)
  have gln := bitV_rg q.ln 16 (by decide)
  have gfw := bitV_rg q.fw 32 (by decide)
  have gag := bitV_rg q.ag 64 (by decide)
  have b0 : decide (q.kd < 0) = false := by simp; omega
  have b2 : decide (2 < q.kd) = false := by simp; omega
  have k1 : (q.kd == 1) = false := by simp; omega
  have hpl : plainM q = (⟨2, q.ch, q.ak, q.pr, q.ag, q.ln, q.fw, 0, q.r, q.c, q.b, q.p, 0, (told q.a), (told q.m), (told q.h), (told q.d)⟩ : Mg) := by
    unfold plainM
    rw [if_neg (by omega), if_pos (.inr hk), flagged_flags, if_pos hk, hr, hk]
    rfl
  have HPL := Lib.hid (show ∀ w : World, Calls Try.prog 20 #[.agg #[.int .i64 q.kd, .bool q.ch, .bool q.ak, .bool q.pr, .bool q.ag, .bool q.ln, .bool q.fw, .int .i64 q.ro, .int .u64 q.r, .int .u32 q.c, .int .u64 q.b, .int .u16 q.p, .int .u16 q.x, .int .i64 q.a, .int .i64 q.m, .int .i64 q.h, .int .i64 q.d]] w fun e w' => e = .returned (.agg #[.int .i64 2, .bool q.ch, .bool q.ak, .bool q.pr, .bool q.ag, .bool q.ln, .bool q.fw, .int .i64 0, .int .u64 q.r, .int .u32 q.c, .int .u64 q.b, .int .u16 q.p, .int .u16 0, .int .i64 (told q.a), .int .i64 (told q.m), .int .i64 (told q.h), .int .i64 (told q.d)]) ∧ Ext w w' from fun w => by
    have := plaind_any q hq w
    rw [hpl] at this
    exact this)
  clear hpl
  have hsum : bitV q.ch 1 + bitV q.ak 128 + bitV q.pr 2 + bitV q.ln 16 + bitV q.fw 32 + bitV q.ag 64 = flagsN q := by unfold flagsN; rw [if_pos hk, fl6_sum, hr]; omega
  have hb1 := bts1 (flagsN q) hfl.1 hfl.2
  have hek : e1 q = [0, 0, 2, 2] ++ [flagsN q] := by unfold e1 headL; rw [hb1, if_neg (by omega), if_neg (by omega), if_pos hk]
  have hl1 : (e1 q).length = 5 := by rw [hek]; rfl
  have hl2 : (e2 q).length = 13 := by simp [e2, hl1, bts_len]
  have hl3 : (e3 q).length = 17 := by simp [e3, hl2, bts_len]
  have hl4 : (e4 q).length = 25 := by simp [e4, hl3, bts_len]
  have hl6 : ∀ n, (e6 q n).length = 27 + 2 * n := fun n => by
    induction n with
    | zero => exact (e6_len q (by omega)).1
    | succ n ih => show (e6 q n ++ _).length = _; rw [List.length_append, ih, bts_len]; omega
  have hcw : IntKind.u64.wrap q.c = q.c := by have := hq.c; rw [IntKind.wrap_u64]; omega
  have hpw : IntKind.u64.wrap q.p = q.p := by have := hq.p; rw [IntKind.wrap_u64]; omega
  have HQ := Lib.hid hq
  have HK := Lib.hid hk
  clear hq hk hr
  go_enter Try.func18, Try.ntmps18
  go_wp2_with fail
  have hA_w0 : (w.alloc (.cells #[.int .i64 q.kd, .bool q.ch, .bool q.ak, .bool q.pr, .bool q.ag, .bool q.ln, .bool q.fw, .int .i64 q.ro, .int .u64 q.r, .int .u32 q.c, .int .u64 q.b, .int .u16 q.p, .int .u16 q.x, .int .i64 q.a, .int .i64 q.m, .int .i64 q.h, .int .i64 q.d] 30)).heap[w.heap.size]? = some (.cells #[.int .i64 q.kd, .bool q.ch, .bool q.ak, .bool q.pr, .bool q.ag, .bool q.ln, .bool q.fw, .int .i64 q.ro, .int .u64 q.r, .int .u32 q.c, .int .u64 q.b, .int .u16 q.p, .int .u16 q.x, .int .i64 q.a, .int .i64 q.m, .int .i64 q.h, .int .i64 q.d] 30 (0, 0)) := heap_alloc_new _ _
  have hE_w0 : Ext w (w.alloc (.cells #[.int .i64 q.kd, .bool q.ch, .bool q.ak, .bool q.pr, .bool q.ag, .bool q.ln, .bool q.fw, .int .i64 q.ro, .int .u64 q.r, .int .u32 q.c, .int .u64 q.b, .int .u16 q.p, .int .u16 q.x, .int .i64 q.a, .int .i64 q.m, .int .i64 q.h, .int .i64 q.d] 30)) := (Ext.refl _).alloc _
  generalize w.alloc (.cells #[.int .i64 q.kd, .bool q.ch, .bool q.ak, .bool q.pr, .bool q.ag, .bool q.ln, .bool q.fw, .int .i64 q.ro, .int .u64 q.r, .int .u32 q.c, .int .u64 q.b, .int .u16 q.p, .int .u16 q.x, .int .i64 q.a, .int .i64 q.m, .int .i64 q.h, .int .i64 q.d] 30) = w0 at *
  obtain ⟨A0, hA0⟩ : ∃ n, w.heap.size = n := ⟨_, rfl⟩
  rw [hA0] at hA_w0 ⊢
  have rA0_w0 : w0.cell? ⟨A0, 0, none⟩ = some (.int .i64 q.kd) := (cell_of_row _ _ _ _ _ _ hA_w0).trans rfl
  go_wp2_with (first
    | fail
    | ((with_reducible refine at_load 30 ?_); refine wpList_load_row rfl 30 _ rfl A0 rfl 30 #[.int .i64 q.kd, .bool q.ch, .bool q.ak, .bool q.pr, .bool q.ag, .bool q.ln, .bool q.fw, .int .i64 q.ro, .int .u64 q.r, .int .u32 q.c, .int .u64 q.b, .int .u16 q.p, .int .u16 q.x, .int .i64 q.a, .int .i64 q.m, .int .i64 q.h, .int .i64 q.d] (0, 0) _ hA_w0 Try.underlying30 rfl (by kernel_rfl) ?_))
  refine (HPL.out _).mono ?_
  rintro e z1 ⟨rfl, hx⟩
  have E_z1 : Ext w0 z1 := hx
  have hA_z1 : z1.heap[A0]? = some (.cells #[.int .i64 q.kd, .bool q.ch, .bool q.ak, .bool q.pr, .bool q.ag, .bool q.ln, .bool q.fw, .int .i64 q.ro, .int .u64 q.r, .int .u32 q.c, .int .u64 q.b, .int .u16 q.p, .int .u16 q.x, .int .i64 q.a, .int .i64 q.m, .int .i64 q.h, .int .i64 q.d] 30 (0, 0)) := (hx.block _ (heap_lt hA_w0)).trans hA_w0
  have rA0_z1 : z1.cell? ⟨A0, 0, none⟩ = some (.int .i64 q.kd) := (cell_of_row _ _ _ _ _ _ hA_z1).trans rfl
  clear hA_w0 rA0_w0
  clear hx
  go_wp2_with (first
    | fail
    | ((with_reducible refine at_alloc 30 ?_); refine al_zero rfl 30 rfl MZ zero_msg ?_
       intro P0 z2 hq hs hx
       have E_z2 : Ext w0 z2 := E_z1.trans hx
       have hA_z2 : z2.heap[A0]? = some (.cells #[.int .i64 q.kd, .bool q.ch, .bool q.ak, .bool q.pr, .bool q.ag, .bool q.ln, .bool q.fw, .int .i64 q.ro, .int .u64 q.r, .int .u32 q.c, .int .u64 q.b, .int .u16 q.p, .int .u16 q.x, .int .i64 q.a, .int .i64 q.m, .int .i64 q.h, .int .i64 q.d] 30 (0, 0)) := (hx.block _ (heap_lt hA_z1)).trans hA_z1
       have hP_z2 : z2.heap[P0]? = some (.cells #[.int .i64 0, .bool false, .bool false, .bool false, .bool false, .bool false, .bool false, .int .i64 0, .int .u64 0, .int .u32 0, .int .u64 0, .int .u16 0, .int .u16 0, .int .i64 0, .int .i64 0, .int .i64 0, .int .i64 0] 30 (0, 0)) := hq
       have hb_P0 : w0.heap.size ≤ P0 := by have := E_z1.size; omega
       have hn_A0P0 : A0 ≠ P0 := by have := heap_lt hA_z1; omega
       have rA0_z2 : z2.cell? ⟨A0, 0, none⟩ = some (.int .i64 q.kd) := (cell_of_row _ _ _ _ _ _ hA_z2).trans rfl
       clear hA_z1 E_z1 rA0_z1
       clear hq hs hx)
    | ((with_reducible refine at_store 30 ?_); refine st_at rfl rfl 30 _ _ rfl P0 0 _ #[.int .i64 2, .bool q.ch, .bool q.ak, .bool q.pr, .bool q.ag, .bool q.ln, .bool q.fw, .int .i64 0, .int .u64 q.r, .int .u32 q.c, .int .u64 q.b, .int .u16 q.p, .int .u16 0, .int .i64 (told q.a), .int .i64 (told q.m), .int .i64 (told q.h), .int .i64 (told q.d)] _ #[.int .i64 2, .bool q.ch, .bool q.ak, .bool q.pr, .bool q.ag, .bool q.ln, .bool q.fw, .int .i64 0, .int .u64 q.r, .int .u32 q.c, .int .u64 q.b, .int .u16 q.p, .int .u16 0, .int .i64 (told q.a), .int .i64 (told q.m), .int .i64 (told q.h), .int .i64 (told q.d)] _ rfl rfl rfl hP_z2 (by exact (by decide : 0 + 17 ≤ 17)) (by kernel_rfl) rfl rfl ?_
       intro z3 hq hm
       have hP_z3 : z3.heap[P0]? = some (.cells #[.int .i64 2, .bool q.ch, .bool q.ak, .bool q.pr, .bool q.ag, .bool q.ln, .bool q.fw, .int .i64 0, .int .u64 q.r, .int .u32 q.c, .int .u64 q.b, .int .u16 q.p, .int .u16 0, .int .i64 (told q.a), .int .i64 (told q.m), .int .i64 (told q.h), .int .i64 (told q.d)] 30 (0, 0)) := hq
       have hA_z3 : z3.heap[A0]? = some (.cells #[.int .i64 q.kd, .bool q.ch, .bool q.ak, .bool q.pr, .bool q.ag, .bool q.ln, .bool q.fw, .int .i64 q.ro, .int .u64 q.r, .int .u32 q.c, .int .u64 q.b, .int .u16 q.p, .int .u16 q.x, .int .i64 q.a, .int .i64 q.m, .int .i64 q.h, .int .i64 q.d] 30 (0, 0)) := (hm.heap (heap_lt hA_z2) (show ¬ A0 = P0 by omega)).trans hA_z2
       have E_z3 : Ext w0 z3 := Ext.mutE E_z2 hm (fun n hn h => by have h2 : n = P0 := h; omega)
       clear hA_z2 hP_z2 E_z2 rA0_z2
       clear hq hm))
  refine beginL (S := fun W' => Ext z3 W') (by kernel_rfl) ?_
  intro wd hqx
  have hq0 : Ext z3 wd := hqx
  refine takeL (i := 0) (v := (.pointer (some ⟨P0, 1, none⟩))) rfl (by kernel_rfl) (by kernel_rfl) (by kernel_rfl) (fun _ _ _ h => h) (Or.inl ⟨rfl, fun _ _ => rfl⟩) hq0 ?_
  simp only [Act.put, List.setIfInBounds_toArray, List.set_cons_zero, List.set_cons_succ]
  refine takeL (i := 1) (v := _) rfl (by kernel_rfl) (by kernel_rfl) (by kernel_rfl) (fun _ _ _ h => h) (yieldsIf_cell rfl 4 _ rfl ⟨P0, 1, none⟩ rfl (.bool q.ch) _ (fun W' hW' => (cell_of_row _ _ _ _ _ _ ((hW'.block _ (heap_lt hP_z3)).trans hP_z3)).trans rfl) Try.underlying4 rfl) hq0 ?_
  simp only [Act.put, List.setIfInBounds_toArray, List.set_cons_zero, List.set_cons_succ]
  refine takeL (i := 3) (v := (.pointer (some ⟨P0, 2, none⟩))) rfl (by kernel_rfl) (by kernel_rfl) (by kernel_rfl) (fun _ _ _ h => h) (Or.inl ⟨rfl, fun _ _ => rfl⟩) hq0 ?_
  simp only [Act.put, List.setIfInBounds_toArray, List.set_cons_zero, List.set_cons_succ]
  refine takeL (i := 4) (v := _) rfl (by kernel_rfl) (by kernel_rfl) (by kernel_rfl) (fun _ _ _ h => h) (yieldsIf_cell rfl 4 _ rfl ⟨P0, 2, none⟩ rfl (.bool q.ak) _ (fun W' hW' => (cell_of_row _ _ _ _ _ _ ((hW'.block _ (heap_lt hP_z3)).trans hP_z3)).trans rfl) Try.underlying4 rfl) hq0 ?_
  simp only [Act.put, List.setIfInBounds_toArray, List.set_cons_zero, List.set_cons_succ]
  refine runL (i := 2) rfl rfl (by kernel_rfl) (fun K hK => ?_)
  go_simp
  refine (flag_e q.ch 1 _).mono ?_
  rintro e wc1 ⟨rfl, hx⟩
  have hq1 := hq0.trans hx
  refine hK.out _ _ hq1 (fun hHeld => ?_)
  try simp only [Act.put, List.setIfInBounds_toArray, List.set_cons_zero, List.set_cons_succ]
  clear hK K hHeld
  refine runL (i := 5) rfl rfl (by kernel_rfl) (fun K hK => ?_)
  go_simp
  refine (flag_e q.ak 128 _).mono ?_
  rintro e wc2 ⟨rfl, hx⟩
  have hq2 := hq1.trans hx
  refine hK.out _ _ hq2 (fun hHeld => ?_)
  try simp only [Act.put, List.setIfInBounds_toArray, List.set_cons_zero, List.set_cons_succ]
  clear hK K hHeld
  refine takeL (i := 6) (v := (.int .i64 (bitV q.ch 1 + bitV q.ak 128))) rfl (by kernel_rfl) (by kernel_rfl) (by kernel_rfl) (fun _ _ _ h => h) (Or.inl ⟨rfl, fun W' _ => by go_simp; exact w64i _ (by omega) (by omega)⟩) hq2 ?_
  simp only [Act.put, List.setIfInBounds_toArray, List.set_cons_zero, List.set_cons_succ]
  refine takeL (i := 7) (v := (.int .i64 (bitV q.ch 1 + bitV q.ak 128))) rfl (by kernel_rfl) (by kernel_rfl) (by kernel_rfl) (fun _ _ _ h => h) (Or.inl ⟨rfl, fun _ _ => rfl⟩) hq2 ?_
  simp only [Act.put, List.setIfInBounds_toArray, List.set_cons_zero, List.set_cons_succ]
  refine wpAnyH_done (by kernel_rfl) ?_ _
  generalize wc2 = z4 at *
  have hA_z4 : z4.heap[A0]? = some (.cells #[.int .i64 q.kd, .bool q.ch, .bool q.ak, .bool q.pr, .bool q.ag, .bool q.ln, .bool q.fw, .int .i64 q.ro, .int .u64 q.r, .int .u32 q.c, .int .u64 q.b, .int .u16 q.p, .int .u16 q.x, .int .i64 q.a, .int .i64 q.m, .int .i64 q.h, .int .i64 q.d] 30 (0, 0)) := (hq2.block _ (heap_lt hA_z3)).trans hA_z3
  have hP_z4 : z4.heap[P0]? = some (.cells #[.int .i64 2, .bool q.ch, .bool q.ak, .bool q.pr, .bool q.ag, .bool q.ln, .bool q.fw, .int .i64 0, .int .u64 q.r, .int .u32 q.c, .int .u64 q.b, .int .u16 q.p, .int .u16 0, .int .i64 (told q.a), .int .i64 (told q.m), .int .i64 (told q.h), .int .i64 (told q.d)] 30 (0, 0)) := (hq2.block _ (heap_lt hP_z3)).trans hP_z3
  have E_z4 : Ext w0 z4 := E_z3.trans hq2
  have rP0_z4 : z4.cell? ⟨P0, 0, none⟩ = some (.int .i64 2) := (cell_of_row _ _ _ _ _ _ hP_z4).trans rfl
  have rP8_z4 : z4.cell? ⟨P0, 8, none⟩ = some (.int .u64 q.r) := (cell_of_row _ _ _ _ _ _ hP_z4).trans rfl
  have rP9_z4 : z4.cell? ⟨P0, 9, none⟩ = some (.int .u32 q.c) := (cell_of_row _ _ _ _ _ _ hP_z4).trans rfl
  have rP10_z4 : z4.cell? ⟨P0, 10, none⟩ = some (.int .u64 q.b) := (cell_of_row _ _ _ _ _ _ hP_z4).trans rfl
  have rP11_z4 : z4.cell? ⟨P0, 11, none⟩ = some (.int .u16 q.p) := (cell_of_row _ _ _ _ _ _ hP_z4).trans rfl
  have rA13_z4 : z4.cell? ⟨A0, 13, none⟩ = some (.int .i64 q.a) := (cell_of_row _ _ _ _ _ _ hA_z4).trans rfl
  have rA14_z4 : z4.cell? ⟨A0, 14, none⟩ = some (.int .i64 q.m) := (cell_of_row _ _ _ _ _ _ hA_z4).trans rfl
  have rA15_z4 : z4.cell? ⟨A0, 15, none⟩ = some (.int .i64 q.h) := (cell_of_row _ _ _ _ _ _ hA_z4).trans rfl
  have rA16_z4 : z4.cell? ⟨A0, 16, none⟩ = some (.int .i64 q.d) := (cell_of_row _ _ _ _ _ _ hA_z4).trans rfl
  clear hA_z3 hP_z3 E_z3
  clear hq0 hq1 hq2
  have hltP := heap_lt hP_z4
  have hltA := heap_lt hA_z4
  have HEW := Lib.hid E_z4
  have hPk := hP_z4
  have hAk := hA_z4
  go_wp2_with fail
  have hE_h : Ext z4 ((z4.alloc (.cells #[.int .u8 0, .int .u8 0, .int .u8 0, .int .u8 0] 5)).alloc (.cells #[.int .u8 0, .int .u8 0, .int .u8 2, .int .u8 2] 5)) := ((Ext.refl z4).alloc _).alloc _
  have hO_h : ((z4.alloc (.cells #[.int .u8 0, .int .u8 0, .int .u8 0, .int .u8 0] 5)).alloc (.cells #[.int .u8 0, .int .u8 0, .int .u8 2, .int .u8 2] 5)).ownsRow z4.heap.size 5 1 (.slice (some ⟨z4.heap.size + 1, 0, none⟩) 4 4) ([0, 0, 2, 2]).length (([0, 0, 2, 2]).map (Value.int .u8)) := by
    have h := four_own (z4.alloc (.cells #[.int .u8 0, .int .u8 0, .int .u8 0, .int .u8 0] 5)) 0 0 2 2
    rw [size_al] at h
    exact owns_base h (by omega)
  obtain ⟨gh, hgh⟩ : ∃ n, z4.heap.size + 1 = n := ⟨_, rfl⟩
  rw [hgh] at hO_h ⊢
  generalize (z4.alloc (.cells #[.int .u8 0, .int .u8 0, .int .u8 0, .int .u8 0] 5)).alloc (.cells #[.int .u8 0, .int .u8 0, .int .u8 2, .int .u8 2] 5) = wh at *
  have hA_wh : wh.heap[A0]? = some (.cells #[.int .i64 q.kd, .bool q.ch, .bool q.ak, .bool q.pr, .bool q.ag, .bool q.ln, .bool q.fw, .int .i64 q.ro, .int .u64 q.r, .int .u32 q.c, .int .u64 q.b, .int .u16 q.p, .int .u16 q.x, .int .i64 q.a, .int .i64 q.m, .int .i64 q.h, .int .i64 q.d] 30 (0, 0)) := (hE_h.block _ (heap_lt hA_z4)).trans hA_z4
  have hP_wh : wh.heap[P0]? = some (.cells #[.int .i64 2, .bool q.ch, .bool q.ak, .bool q.pr, .bool q.ag, .bool q.ln, .bool q.fw, .int .i64 0, .int .u64 q.r, .int .u32 q.c, .int .u64 q.b, .int .u16 q.p, .int .u16 0, .int .i64 (told q.a), .int .i64 (told q.m), .int .i64 (told q.h), .int .i64 (told q.d)] 30 (0, 0)) := (hE_h.block _ (heap_lt hP_z4)).trans hP_z4
  have E_wh := E_z4.trans hE_h
  have ex_wh := hE_h
  have ow_wh := hO_h
  clear hE_h hO_h
  refine beginL (S := fun W' => Ext wh W') (by kernel_rfl) ?_
  intro wd hqx
  have hq0 : Ext wh wd := hqx
  refine takeL (i := 0) (v := (.int .i64 (bitV q.ch 1 + bitV q.ak 128))) rfl (by kernel_rfl) (by kernel_rfl) (by kernel_rfl) (fun _ _ _ h => h) (Or.inl ⟨rfl, fun _ _ => rfl⟩) hq0 ?_
  simp only [Act.put, List.setIfInBounds_toArray, List.set_cons_zero, List.set_cons_succ]
  refine takeL (i := 1) (v := (.pointer (some ⟨P0, 3, none⟩))) rfl (by kernel_rfl) (by kernel_rfl) (by kernel_rfl) (fun _ _ _ h => h) (Or.inl ⟨rfl, fun _ _ => rfl⟩) hq0 ?_
  simp only [Act.put, List.setIfInBounds_toArray, List.set_cons_zero, List.set_cons_succ]
  refine takeL (i := 2) (v := _) rfl (by kernel_rfl) (by kernel_rfl) (by kernel_rfl) (fun _ _ _ h => h) (yieldsIf_cell rfl 4 _ rfl ⟨P0, 3, none⟩ rfl (.bool q.pr) _ (fun W' hW' => (cell_of_row _ _ _ _ _ _ ((hW'.block _ (heap_lt hP_wh)).trans hP_wh)).trans rfl) Try.underlying4 rfl) hq0 ?_
  simp only [Act.put, List.setIfInBounds_toArray, List.set_cons_zero, List.set_cons_succ]
  refine takeL (i := 5) (v := (.pointer (some ⟨P0, 5, none⟩))) rfl (by kernel_rfl) (by kernel_rfl) (by kernel_rfl) (fun _ _ _ h => h) (Or.inl ⟨rfl, fun _ _ => rfl⟩) hq0 ?_
  simp only [Act.put, List.setIfInBounds_toArray, List.set_cons_zero, List.set_cons_succ]
  refine takeL (i := 6) (v := _) rfl (by kernel_rfl) (by kernel_rfl) (by kernel_rfl) (fun _ _ _ h => h) (yieldsIf_cell rfl 4 _ rfl ⟨P0, 5, none⟩ rfl (.bool q.ln) _ (fun W' hW' => (cell_of_row _ _ _ _ _ _ ((hW'.block _ (heap_lt hP_wh)).trans hP_wh)).trans rfl) Try.underlying4 rfl) hq0 ?_
  simp only [Act.put, List.setIfInBounds_toArray, List.set_cons_zero, List.set_cons_succ]
  refine takeL (i := 9) (v := (.pointer (some ⟨P0, 6, none⟩))) rfl (by kernel_rfl) (by kernel_rfl) (by kernel_rfl) (fun _ _ _ h => h) (Or.inl ⟨rfl, fun _ _ => rfl⟩) hq0 ?_
  simp only [Act.put, List.setIfInBounds_toArray, List.set_cons_zero, List.set_cons_succ]
  refine takeL (i := 10) (v := _) rfl (by kernel_rfl) (by kernel_rfl) (by kernel_rfl) (fun _ _ _ h => h) (yieldsIf_cell rfl 4 _ rfl ⟨P0, 6, none⟩ rfl (.bool q.fw) _ (fun W' hW' => (cell_of_row _ _ _ _ _ _ ((hW'.block _ (heap_lt hP_wh)).trans hP_wh)).trans rfl) Try.underlying4 rfl) hq0 ?_
  simp only [Act.put, List.setIfInBounds_toArray, List.set_cons_zero, List.set_cons_succ]
  refine takeL (i := 13) (v := (.pointer (some ⟨P0, 4, none⟩))) rfl (by kernel_rfl) (by kernel_rfl) (by kernel_rfl) (fun _ _ _ h => h) (Or.inl ⟨rfl, fun _ _ => rfl⟩) hq0 ?_
  simp only [Act.put, List.setIfInBounds_toArray, List.set_cons_zero, List.set_cons_succ]
  refine takeL (i := 14) (v := _) rfl (by kernel_rfl) (by kernel_rfl) (by kernel_rfl) (fun _ _ _ h => h) (yieldsIf_cell rfl 4 _ rfl ⟨P0, 4, none⟩ rfl (.bool q.ag) _ (fun W' hW' => (cell_of_row _ _ _ _ _ _ ((hW'.block _ (heap_lt hP_wh)).trans hP_wh)).trans rfl) Try.underlying4 rfl) hq0 ?_
  simp only [Act.put, List.setIfInBounds_toArray, List.set_cons_zero, List.set_cons_succ]
  refine runL (i := 3) rfl rfl (by kernel_rfl) (fun K hK => ?_)
  go_simp
  refine (flag_e q.pr 2 _).mono ?_
  rintro e wc1 ⟨rfl, hx⟩
  have hq1 := hq0.trans hx
  refine hK.out _ _ hq1 (fun hHeld => ?_)
  try simp only [Act.put, List.setIfInBounds_toArray, List.set_cons_zero, List.set_cons_succ]
  clear hK K hHeld
  refine takeL (i := 4) (v := (.int .i64 ((bitV q.ch 1 + bitV q.ak 128) + bitV q.pr 2))) rfl (by kernel_rfl) (by kernel_rfl) (by kernel_rfl) (fun _ _ _ h => h) (Or.inl ⟨rfl, fun W' _ => by go_simp; exact w64i _ (by omega) (by omega)⟩) hq1 ?_
  simp only [Act.put, List.setIfInBounds_toArray, List.set_cons_zero, List.set_cons_succ]
  refine runL (i := 7) rfl rfl (by kernel_rfl) (fun K hK => ?_)
  go_simp
  refine (flag_e q.ln 16 _).mono ?_
  rintro e wc2 ⟨rfl, hx⟩
  have hq2 := hq1.trans hx
  refine hK.out _ _ hq2 (fun hHeld => ?_)
  try simp only [Act.put, List.setIfInBounds_toArray, List.set_cons_zero, List.set_cons_succ]
  clear hK K hHeld
  refine takeL (i := 8) (v := (.int .i64 (((bitV q.ch 1 + bitV q.ak 128) + bitV q.pr 2) + bitV q.ln 16))) rfl (by kernel_rfl) (by kernel_rfl) (by kernel_rfl) (fun _ _ _ h => h) (Or.inl ⟨rfl, fun W' _ => by go_simp; exact w64i _ (by omega) (by omega)⟩) hq2 ?_
  simp only [Act.put, List.setIfInBounds_toArray, List.set_cons_zero, List.set_cons_succ]
  refine runL (i := 11) rfl rfl (by kernel_rfl) (fun K hK => ?_)
  go_simp
  refine (flag_e q.fw 32 _).mono ?_
  rintro e wc3 ⟨rfl, hx⟩
  have hq3 := hq2.trans hx
  refine hK.out _ _ hq3 (fun hHeld => ?_)
  try simp only [Act.put, List.setIfInBounds_toArray, List.set_cons_zero, List.set_cons_succ]
  clear hK K hHeld
  refine takeL (i := 12) (v := (.int .i64 ((((bitV q.ch 1 + bitV q.ak 128) + bitV q.pr 2) + bitV q.ln 16) + bitV q.fw 32))) rfl (by kernel_rfl) (by kernel_rfl) (by kernel_rfl) (fun _ _ _ h => h) (Or.inl ⟨rfl, fun W' _ => by go_simp; exact w64i _ (by omega) (by omega)⟩) hq3 ?_
  simp only [Act.put, List.setIfInBounds_toArray, List.set_cons_zero, List.set_cons_succ]
  refine runL (i := 15) rfl rfl (by kernel_rfl) (fun K hK => ?_)
  go_simp
  refine (flag_e q.ag 64 _).mono ?_
  rintro e wc4 ⟨rfl, hx⟩
  have hq4 := hq3.trans hx
  refine hK.out _ _ hq4 (fun hHeld => ?_)
  try simp only [Act.put, List.setIfInBounds_toArray, List.set_cons_zero, List.set_cons_succ]
  clear hK K hHeld
  refine takeL (i := 16) (v := (.int .i64 (((((bitV q.ch 1 + bitV q.ak 128) + bitV q.pr 2) + bitV q.ln 16) + bitV q.fw 32) + bitV q.ag 64))) rfl (by kernel_rfl) (by kernel_rfl) (by kernel_rfl) (fun _ _ _ h => h) (Or.inl ⟨rfl, fun W' _ => by go_simp; exact w64i _ (by omega) (by omega)⟩) hq4 ?_
  simp only [Act.put, List.setIfInBounds_toArray, List.set_cons_zero, List.set_cons_succ]
  refine takeL (i := 17) (v := (.int .i64 (((((bitV q.ch 1 + bitV q.ak 128) + bitV q.pr 2) + bitV q.ln 16) + bitV q.fw 32) + bitV q.ag 64))) rfl (by kernel_rfl) (by kernel_rfl) (by kernel_rfl) (fun _ _ _ h => h) (Or.inl ⟨rfl, fun _ _ => rfl⟩) hq4 ?_
  simp only [Act.put, List.setIfInBounds_toArray, List.set_cons_zero, List.set_cons_succ]
  refine wpAnyH_done (by kernel_rfl) ?_ _
  generalize wc4 = z5 at *
  have hA_z5 : z5.heap[A0]? = some (.cells #[.int .i64 q.kd, .bool q.ch, .bool q.ak, .bool q.pr, .bool q.ag, .bool q.ln, .bool q.fw, .int .i64 q.ro, .int .u64 q.r, .int .u32 q.c, .int .u64 q.b, .int .u16 q.p, .int .u16 q.x, .int .i64 q.a, .int .i64 q.m, .int .i64 q.h, .int .i64 q.d] 30 (0, 0)) := (hq4.block _ (heap_lt hA_wh)).trans hA_wh
  have hP_z5 : z5.heap[P0]? = some (.cells #[.int .i64 2, .bool q.ch, .bool q.ak, .bool q.pr, .bool q.ag, .bool q.ln, .bool q.fw, .int .i64 0, .int .u64 q.r, .int .u32 q.c, .int .u64 q.b, .int .u16 q.p, .int .u16 0, .int .i64 (told q.a), .int .i64 (told q.m), .int .i64 (told q.h), .int .i64 (told q.d)] 30 (0, 0)) := (hq4.block _ (heap_lt hP_wh)).trans hP_wh
  have E_z5 : Ext w0 z5 := E_wh.trans hq4
  have ex_z5 : Ext z4 z5 := ex_wh.trans hq4
  have ow_z5 : z5.ownsRow z4.heap.size 5 1 (.slice (some ⟨gh, 0, none⟩) 4 4) ([0, 0, 2, 2]).length (([0, 0, 2, 2]).map (Value.int .u8)) := owns_ext ow_wh hq4
  have rP0_z5 : z5.cell? ⟨P0, 0, none⟩ = some (.int .i64 2) := (cell_of_row _ _ _ _ _ _ hP_z5).trans rfl
  have rP7_z5 : z5.cell? ⟨P0, 7, none⟩ = some (.int .i64 0) := (cell_of_row _ _ _ _ _ _ hP_z5).trans rfl
  have rP8_z5 : z5.cell? ⟨P0, 8, none⟩ = some (.int .u64 q.r) := (cell_of_row _ _ _ _ _ _ hP_z5).trans rfl
  have rP9_z5 : z5.cell? ⟨P0, 9, none⟩ = some (.int .u32 q.c) := (cell_of_row _ _ _ _ _ _ hP_z5).trans rfl
  have rP10_z5 : z5.cell? ⟨P0, 10, none⟩ = some (.int .u64 q.b) := (cell_of_row _ _ _ _ _ _ hP_z5).trans rfl
  have rP11_z5 : z5.cell? ⟨P0, 11, none⟩ = some (.int .u16 q.p) := (cell_of_row _ _ _ _ _ _ hP_z5).trans rfl
  have rA13_z5 : z5.cell? ⟨A0, 13, none⟩ = some (.int .i64 q.a) := (cell_of_row _ _ _ _ _ _ hA_z5).trans rfl
  have rA14_z5 : z5.cell? ⟨A0, 14, none⟩ = some (.int .i64 q.m) := (cell_of_row _ _ _ _ _ _ hA_z5).trans rfl
  have rA15_z5 : z5.cell? ⟨A0, 15, none⟩ = some (.int .i64 q.h) := (cell_of_row _ _ _ _ _ _ hA_z5).trans rfl
  have rA16_z5 : z5.cell? ⟨A0, 16, none⟩ = some (.int .i64 q.d) := (cell_of_row _ _ _ _ _ _ hA_z5).trans rfl
  clear hA_wh hP_wh ex_wh ow_wh E_wh
  clear hq0 hq1 hq2 hq3 hq4
  go_wp2_with (first
    | fail
    | (at_builtin; refine wpList_app rfl _ _ rfl z4 (ex_z5.trans ((Ext.refl z5).alloc _)) _ _ ([0, 0, 2, 2]) ([flagsN q]) rfl rfl (ow_z5.alloc _) (isBytes_alloc z5 [flagsN q] 1 5 (show 0 < 1 by decide) (Nat.le_refl _) (by decide)) (show 4 + 1 ≤ 100000 by decide) ?_
       intro va1 a1 hown_a1 hE_a1 hg_a1
       have hO_a1 : a1.ownsRow z4.heap.size 5 1 va1 (e1 q).length ((e1 q).map (Value.int .u8)) := by rw [hek]; exact hown_a1
       clear hown_a1 hg_a1
       have cP8_a1 : a1.cell? ⟨P0, 8, none⟩ = some (.int .u64 q.r) := (cell_of_row _ _ _ _ _ _ ((hE_a1.block _ hltP).trans hPk)).trans rfl))
  refine (refput_i (q.r) 8 _ HQ.out.r (by decide) (by decide)).mono ?_
  rintro e p2 ⟨vp0, rfl, hown_p, hx0⟩
  have hi_p2 := isBytes_own hown_p
  have hE_p2 := hE_a1.trans hx0
  have hO_p2 := owns_ext hO_a1 hx0
  clear hown_p hx0 hO_a1 hE_a1
  go_wp2_with (first
    | fail
    | (at_builtin; refine wpList_app rfl _ _ rfl z4 hE_p2 _ _ (e1 q) (bts (q.r).toNat 8) rfl rfl hO_p2 hi_p2 (by rw [hl1, bts_len]; omega) ?_
       intro va2 a2 hown_a2 hE_a2 hg_a2
       have hO_a2 : a2.ownsRow z4.heap.size 5 1 va2 (e2 q).length ((e2 q).map (Value.int .u8)) := by exact hown_a2
       clear hown_a2 hg_a2
       have cP9_a2 : a2.cell? ⟨P0, 9, none⟩ = some (.int .u32 q.c) := (cell_of_row _ _ _ _ _ _ ((hE_a2.block _ hltP).trans hPk)).trans rfl))
  clear hi_p2 hE_p2 hO_p2
  refine (refput_i (q.c) 4 _ ⟨HQ.out.c.1, by have := HQ.out.c.2; omega⟩ (by decide) (by decide)).mono ?_
  rintro e p3 ⟨vp1, rfl, hown_p, hx1⟩
  have hi_p3 := isBytes_own hown_p
  have hE_p3 := hE_a2.trans hx1
  have hO_p3 := owns_ext hO_a2 hx1
  clear hown_p hx1 hO_a2 hE_a2
  go_wp2_with (first
    | fail
    | (at_builtin; refine wpList_app rfl _ _ rfl z4 hE_p3 _ _ (e2 q) (bts (q.c).toNat 4) rfl rfl hO_p3 hi_p3 (by rw [hl2, bts_len]; omega) ?_
       intro va3 a3 hown_a3 hE_a3 hg_a3
       have hO_a3 : a3.ownsRow z4.heap.size 5 1 va3 (e3 q).length ((e3 q).map (Value.int .u8)) := by exact hown_a3
       clear hown_a3 hg_a3
       have cP10_a3 : a3.cell? ⟨P0, 10, none⟩ = some (.int .u64 q.b) := (cell_of_row _ _ _ _ _ _ ((hE_a3.block _ hltP).trans hPk)).trans rfl))
  clear hi_p3 hE_p3 hO_p3
  refine (refput_i (q.b) 8 _ HQ.out.b (by decide) (by decide)).mono ?_
  rintro e p4 ⟨vp2, rfl, hown_p, hx2⟩
  have hi_p4 := isBytes_own hown_p
  have hE_p4 := hE_a3.trans hx2
  have hO_p4 := owns_ext hO_a3 hx2
  clear hown_p hx2 hO_a3 hE_a3
  go_wp2_with (first
    | fail
    | (at_builtin; refine wpList_app rfl _ _ rfl z4 hE_p4 _ _ (e3 q) (bts (q.b).toNat 8) rfl rfl hO_p4 hi_p4 (by rw [hl3, bts_len]; omega) ?_
       intro va4 a4 hown_a4 hE_a4 hg_a4
       have hO_a4 : a4.ownsRow z4.heap.size 5 1 va4 (e4 q).length ((e4 q).map (Value.int .u8)) := by exact hown_a4
       clear hown_a4 hg_a4
       have cP11_a4 : a4.cell? ⟨P0, 11, none⟩ = some (.int .u16 q.p) := (cell_of_row _ _ _ _ _ _ ((hE_a4.block _ hltP).trans hPk)).trans rfl))
  clear hi_p4 hE_p4 hO_p4
  refine (refput_i (q.p) 2 _ ⟨HQ.out.p.1, by have := HQ.out.p.2; omega⟩ (by decide) (by decide)).mono ?_
  rintro e p5 ⟨vp3, rfl, hown_p, hx3⟩
  have hi_p5 := isBytes_own hown_p
  have hE_p5 := hE_a4.trans hx3
  have hO_p5 := owns_ext hO_a4 hx3
  clear hown_p hx3 hO_a4 hE_a4
  go_wp2_with (first
    | fail
    | (at_builtin; refine wpList_app rfl _ _ rfl z4 hE_p5 _ _ (e4 q) (bts (q.p).toNat 2) rfl rfl hO_p5 hi_p5 (by rw [hl4, bts_len]; omega) ?_
       intro va5 a5 hown_a5 hE_a5 hg_a5
       have hO_a5 : a5.ownsRow z4.heap.size 5 1 va5 (e5 q).length ((e5 q).map (Value.int .u8)) := by exact hown_a5
       clear hown_a5 hg_a5
       have cA13_a5 : a5.cell? ⟨A0, 13, none⟩ = some (.int .i64 q.a) := (cell_of_row _ _ _ _ _ _ ((hE_a5.block _ hltA).trans hAk)).trans rfl
       have cA14_a5 : a5.cell? ⟨A0, 14, none⟩ = some (.int .i64 q.m) := (cell_of_row _ _ _ _ _ _ ((hE_a5.block _ hltA).trans hAk)).trans rfl
       have cA15_a5 : a5.cell? ⟨A0, 15, none⟩ = some (.int .i64 q.h) := (cell_of_row _ _ _ _ _ _ ((hE_a5.block _ hltA).trans hAk)).trans rfl
       have cA16_a5 : a5.cell? ⟨A0, 16, none⟩ = some (.int .i64 q.d) := (cell_of_row _ _ _ _ _ _ ((hE_a5.block _ hltA).trans hAk)).trans rfl))
  have hTB : (a5.alloc (.cells #[.int .i64 q.a, .int .i64 q.m, .int .i64 q.h, .int .i64 q.d] 3)).heap[a5.heap.size]? = some (.cells #[.int .i64 q.a, .int .i64 q.m, .int .i64 q.h, .int .i64 q.d] 3 (0, 0)) := heap_alloc_new _ _
  have hE_b := hE_a5.trans ((Ext.refl a5).alloc (.cells #[.int .i64 q.a, .int .i64 q.m, .int .i64 q.h, .int .i64 q.d] 3))
  have hO_b := hO_a5.alloc (.cells #[.int .i64 q.a, .int .i64 q.m, .int .i64 q.h, .int .i64 q.d] 3)
  generalize a5.alloc (.cells #[.int .i64 q.a, .int .i64 q.m, .int .i64 q.h, .int .i64 q.d] 3) = b0 at *
  obtain ⟨T0, hT0⟩ : ∃ n, a5.heap.size = n := ⟨_, rfl⟩
  rw [hT0] at hTB ⊢
  clear hT0 hO_a5 hE_a5 cA13_a5 cA14_a5 cA15_a5 cA16_a5 hi_p5 hE_p5 hO_p5
  go_loopw [5, 7] (fun v i wr => ∃ n : Nat, n ≤ 4 ∧ i = .int .i64 n ∧ wr.ownsRow z4.heap.size 5 1 v (e6 q n).length ((e6 q n).map (Value.int .u8)) ∧ wr.heap[T0]? = some (.cells #[.int .i64 q.a, .int .i64 q.m, .int .i64 q.h, .int .i64 q.d] 3 (0, 0)) ∧ Ext z4 wr) (fun _ i _ => 4 - (intOf i).toNat)
  case atStart => exact ⟨0, by omega, rfl, hO_b, hTB, hE_b⟩
  case round =>
    clear hO_b hTB hE_b
    obtain ⟨n, hn, rfl, hO, hTB, hE⟩ := hrel
    by_cases hlt : n < 4
    · have cn : wr.cell? ⟨T0, n, none⟩ = some (.int .i64 (tm q n)) := (cell_of_row _ _ _ _ _ _ hTB).trans (by
        match n, hlt with
        | 0, _ => rfl
        | 1, _ => rfl
        | 2, _ => rfl
        | 3, _ => rfl)
      have hv := toV_rg (tm q n)
      have htw : IntKind.u64.wrap (toV (tm q n)) = toV (tm q n) := by rw [IntKind.wrap_u64]; omega
      go_wp2_with fail
      refine (ref_to (tm q n) wr).mono ?_
      rintro e _ ⟨rfl, rfl⟩
      go_wp2_with fail
      refine (refput_i (toV (tm q n)) 2 _ ⟨hv.1, by omega⟩ (by decide) (by decide)).mono ?_
      rintro e p ⟨gp, rfl, hown_p, hxp⟩
      have hip := isBytes_own hown_p
      have hop := owns_ext hO hxp
      have hEp := hE.trans hxp
      have hTp := (hxp.block _ (heap_lt hTB)).trans hTB
      clear hO hE hxp cn hTB hown_p
      go_wp2_with (first
        | fail
        | (at_builtin; refine wpList_app rfl _ _ rfl z4 hEp _ _ (e6 q n) (bts (toV (tm q n)).toNat 2) rfl rfl hop hip (by rw [hl6, bts_len]; omega) ?_
           intro vq wq hown_wq hE_wq hg_wq
           have hTq := far_keep hop hTp (by decide) hg_wq
           clear hop hTp hip hEp hg_wq))
      go_roundw
      case rel => exact ⟨n + 1, by omega, by go_num, hown_wq, hTq, hE_wq⟩
      case measure => simp [intOf]; omega
    · obtain rfl : n = 4 := by omega
      have cP0_wr : wr.cell? ⟨P0, 0, none⟩ = some (.int .i64 2) := (cell_of_row _ _ _ _ _ _ ((hE.block _ hltP).trans hPk)).trans rfl
      have hone : IsInts (wr.alloc (.cells #[.int .u8 0] 5)) .u8 (.slice (some ⟨wr.heap.size, 0, none⟩) 1 1) [0] := isBytes_alloc wr [0] 1 5 (by decide) (Nat.le_refl _) (by decide)
      go_wp2_with (first
        | fail
        | (at_builtin; refine wpList_app rfl _ _ rfl z4 (hE.trans ((Ext.refl wr).alloc _)) _ _ (e6 q 4) ([0]) rfl rfl (hO.alloc _) hone (by rw [hl6]; decide) ?_
           intro vq wq hown_wq hE_wq hg_wq
           have hz1 := hown_wq
           have hz2 := hE_wq
           clear hown_wq hE_wq hg_wq))
      go_ret
      refine ⟨_, rfl, ?_, hE_w0.trans (HEW.out.trans hz2)⟩
      have e : encL q = e6 q 4 ++ [0] := by have := HK.out; unfold encL; rw [if_neg (by omega), if_pos this]
      rw [e]
      exact owns_base hz1 (hE_w0.trans HEW.out).size
set_option maxRecDepth 100000 in
set_option maxHeartbeats 2000000 in
theorem ed_r1 (q : Mg) (hq : q.ok) (hk : q.kd = 2) (hr : roN q.ro = 1) (w : World) : Calls Try.prog 18 #[.agg #[.int .i64 q.kd, .bool q.ch, .bool q.ak, .bool q.pr, .bool q.ag, .bool q.ln, .bool q.fw, .int .i64 q.ro, .int .u64 q.r, .int .u32 q.c, .int .u64 q.b, .int .u16 q.p, .int .u16 q.x, .int .i64 q.a, .int .i64 q.m, .int .i64 q.h, .int .i64 q.d]] w (Owned w (encL q)) := by
  have hz := zero_msg
  have hfl := flagsN_rg q
  have gch := bitV_rg q.ch 1 (by decide)
  have gak := bitV_rg q.ak 128 (by decide)
  have gpr := bitV_rg q.pr 2 (by decide)
  have gln := bitV_rg q.ln 16 (by decide)
  have gfw := bitV_rg q.fw 32 (by decide)
  have gag := bitV_rg q.ag 64 (by decide)
  have b0 : decide (q.kd < 0) = false := by simp; omega
  have b2 : decide (2 < q.kd) = false := by simp; omega
  have k1 : (q.kd == 1) = false := by simp; omega
  have hpl : plainM q = (⟨2, q.ch, q.ak, q.pr, q.ag, q.ln, q.fw, 1, q.r, q.c, q.b, q.p, 0, (told q.a), (told q.m), (told q.h), (told q.d)⟩ : Mg) := by
    unfold plainM
    rw [if_neg (by omega), if_pos (.inr hk), flagged_flags, if_pos hk, hr, hk]
    rfl
  have HPL := Lib.hid (show ∀ w : World, Calls Try.prog 20 #[.agg #[.int .i64 q.kd, .bool q.ch, .bool q.ak, .bool q.pr, .bool q.ag, .bool q.ln, .bool q.fw, .int .i64 q.ro, .int .u64 q.r, .int .u32 q.c, .int .u64 q.b, .int .u16 q.p, .int .u16 q.x, .int .i64 q.a, .int .i64 q.m, .int .i64 q.h, .int .i64 q.d]] w fun e w' => e = .returned (.agg #[.int .i64 2, .bool q.ch, .bool q.ak, .bool q.pr, .bool q.ag, .bool q.ln, .bool q.fw, .int .i64 1, .int .u64 q.r, .int .u32 q.c, .int .u64 q.b, .int .u16 q.p, .int .u16 0, .int .i64 (told q.a), .int .i64 (told q.m), .int .i64 (told q.h), .int .i64 (told q.d)]) ∧ Ext w w' from fun w => by
    have := plaind_any q hq w
    rw [hpl] at this
    exact this)
  clear hpl
  have hsum : bitV q.ch 1 + bitV q.ak 128 + bitV q.pr 2 + bitV q.ln 16 + bitV q.fw 32 + bitV q.ag 64 + 4 = flagsN q := by unfold flagsN; rw [if_pos hk, fl6_sum, hr]; omega
  have hb1 := bts1 (flagsN q) hfl.1 hfl.2
  have hek : e1 q = [0, 0, 2, 2] ++ [flagsN q] := by unfold e1 headL; rw [hb1, if_neg (by omega), if_neg (by omega), if_pos hk]
  have hl1 : (e1 q).length = 5 := by rw [hek]; rfl
  have hl2 : (e2 q).length = 13 := by simp [e2, hl1, bts_len]
  have hl3 : (e3 q).length = 17 := by simp [e3, hl2, bts_len]
  have hl4 : (e4 q).length = 25 := by simp [e4, hl3, bts_len]
  have hl6 : ∀ n, (e6 q n).length = 27 + 2 * n := fun n => by
    induction n with
    | zero => exact (e6_len q (by omega)).1
    | succ n ih => show (e6 q n ++ _).length = _; rw [List.length_append, ih, bts_len]; omega
  have hcw : IntKind.u64.wrap q.c = q.c := by have := hq.c; rw [IntKind.wrap_u64]; omega
  have hpw : IntKind.u64.wrap q.p = q.p := by have := hq.p; rw [IntKind.wrap_u64]; omega
  have HQ := Lib.hid hq
  have HK := Lib.hid hk
  clear hq hk hr
  go_enter Try.func18, Try.ntmps18
  go_wp2_with fail
  have hA_w0 : (w.alloc (.cells #[.int .i64 q.kd, .bool q.ch, .bool q.ak, .bool q.pr, .bool q.ag, .bool q.ln, .bool q.fw, .int .i64 q.ro, .int .u64 q.r, .int .u32 q.c, .int .u64 q.b, .int .u16 q.p, .int .u16 q.x, .int .i64 q.a, .int .i64 q.m, .int .i64 q.h, .int .i64 q.d] 30)).heap[w.heap.size]? = some (.cells #[.int .i64 q.kd, .bool q.ch, .bool q.ak, .bool q.pr, .bool q.ag, .bool q.ln, .bool q.fw, .int .i64 q.ro, .int .u64 q.r, .int .u32 q.c, .int .u64 q.b, .int .u16 q.p, .int .u16 q.x, .int .i64 q.a, .int .i64 q.m, .int .i64 q.h, .int .i64 q.d] 30 (0, 0)) := heap_alloc_new _ _
  have hE_w0 : Ext w (w.alloc (.cells #[.int .i64 q.kd, .bool q.ch, .bool q.ak, .bool q.pr, .bool q.ag, .bool q.ln, .bool q.fw, .int .i64 q.ro, .int .u64 q.r, .int .u32 q.c, .int .u64 q.b, .int .u16 q.p, .int .u16 q.x, .int .i64 q.a, .int .i64 q.m, .int .i64 q.h, .int .i64 q.d] 30)) := (Ext.refl _).alloc _
  generalize w.alloc (.cells #[.int .i64 q.kd, .bool q.ch, .bool q.ak, .bool q.pr, .bool q.ag, .bool q.ln, .bool q.fw, .int .i64 q.ro, .int .u64 q.r, .int .u32 q.c, .int .u64 q.b, .int .u16 q.p, .int .u16 q.x, .int .i64 q.a, .int .i64 q.m, .int .i64 q.h, .int .i64 q.d] 30) = w0 at *
  obtain ⟨A0, hA0⟩ : ∃ n, w.heap.size = n := ⟨_, rfl⟩
  rw [hA0] at hA_w0 ⊢
  have rA0_w0 : w0.cell? ⟨A0, 0, none⟩ = some (.int .i64 q.kd) := (cell_of_row _ _ _ _ _ _ hA_w0).trans rfl
  go_wp2_with (first
    | fail
    | ((with_reducible refine at_load 30 ?_); refine wpList_load_row rfl 30 _ rfl A0 rfl 30 #[.int .i64 q.kd, .bool q.ch, .bool q.ak, .bool q.pr, .bool q.ag, .bool q.ln, .bool q.fw, .int .i64 q.ro, .int .u64 q.r, .int .u32 q.c, .int .u64 q.b, .int .u16 q.p, .int .u16 q.x, .int .i64 q.a, .int .i64 q.m, .int .i64 q.h, .int .i64 q.d] (0, 0) _ hA_w0 Try.underlying30 rfl (by kernel_rfl) ?_))
  refine (HPL.out _).mono ?_
  rintro e z1 ⟨rfl, hx⟩
  have E_z1 : Ext w0 z1 := hx
  have hA_z1 : z1.heap[A0]? = some (.cells #[.int .i64 q.kd, .bool q.ch, .bool q.ak, .bool q.pr, .bool q.ag, .bool q.ln, .bool q.fw, .int .i64 q.ro, .int .u64 q.r, .int .u32 q.c, .int .u64 q.b, .int .u16 q.p, .int .u16 q.x, .int .i64 q.a, .int .i64 q.m, .int .i64 q.h, .int .i64 q.d] 30 (0, 0)) := (hx.block _ (heap_lt hA_w0)).trans hA_w0
  have rA0_z1 : z1.cell? ⟨A0, 0, none⟩ = some (.int .i64 q.kd) := (cell_of_row _ _ _ _ _ _ hA_z1).trans rfl
  clear hA_w0 rA0_w0
  clear hx
  go_wp2_with (first
    | fail
    | ((with_reducible refine at_alloc 30 ?_); refine al_zero rfl 30 rfl MZ zero_msg ?_
       intro P0 z2 hq hs hx
       have E_z2 : Ext w0 z2 := E_z1.trans hx
       have hA_z2 : z2.heap[A0]? = some (.cells #[.int .i64 q.kd, .bool q.ch, .bool q.ak, .bool q.pr, .bool q.ag, .bool q.ln, .bool q.fw, .int .i64 q.ro, .int .u64 q.r, .int .u32 q.c, .int .u64 q.b, .int .u16 q.p, .int .u16 q.x, .int .i64 q.a, .int .i64 q.m, .int .i64 q.h, .int .i64 q.d] 30 (0, 0)) := (hx.block _ (heap_lt hA_z1)).trans hA_z1
       have hP_z2 : z2.heap[P0]? = some (.cells #[.int .i64 0, .bool false, .bool false, .bool false, .bool false, .bool false, .bool false, .int .i64 0, .int .u64 0, .int .u32 0, .int .u64 0, .int .u16 0, .int .u16 0, .int .i64 0, .int .i64 0, .int .i64 0, .int .i64 0] 30 (0, 0)) := hq
       have hb_P0 : w0.heap.size ≤ P0 := by have := E_z1.size; omega
       have hn_A0P0 : A0 ≠ P0 := by have := heap_lt hA_z1; omega
       have rA0_z2 : z2.cell? ⟨A0, 0, none⟩ = some (.int .i64 q.kd) := (cell_of_row _ _ _ _ _ _ hA_z2).trans rfl
       clear hA_z1 E_z1 rA0_z1
       clear hq hs hx)
    | ((with_reducible refine at_store 30 ?_); refine st_at rfl rfl 30 _ _ rfl P0 0 _ #[.int .i64 2, .bool q.ch, .bool q.ak, .bool q.pr, .bool q.ag, .bool q.ln, .bool q.fw, .int .i64 1, .int .u64 q.r, .int .u32 q.c, .int .u64 q.b, .int .u16 q.p, .int .u16 0, .int .i64 (told q.a), .int .i64 (told q.m), .int .i64 (told q.h), .int .i64 (told q.d)] _ #[.int .i64 2, .bool q.ch, .bool q.ak, .bool q.pr, .bool q.ag, .bool q.ln, .bool q.fw, .int .i64 1, .int .u64 q.r, .int .u32 q.c, .int .u64 q.b, .int .u16 q.p, .int .u16 0, .int .i64 (told q.a), .int .i64 (told q.m), .int .i64 (told q.h), .int .i64 (told q.d)] _ rfl rfl rfl hP_z2 (by exact (by decide : 0 + 17 ≤ 17)) (by kernel_rfl) rfl rfl ?_
       intro z3 hq hm
       have hP_z3 : z3.heap[P0]? = some (.cells #[.int .i64 2, .bool q.ch, .bool q.ak, .bool q.pr, .bool q.ag, .bool q.ln, .bool q.fw, .int .i64 1, .int .u64 q.r, .int .u32 q.c, .int .u64 q.b, .int .u16 q.p, .int .u16 0, .int .i64 (told q.a), .int .i64 (told q.m), .int .i64 (told q.h), .int .i64 (told q.d)] 30 (0, 0)) := hq
       have hA_z3 : z3.heap[A0]? = some (.cells #[.int .i64 q.kd, .bool q.ch, .bool q.ak, .bool q.pr, .bool q.ag, .bool q.ln, .bool q.fw, .int .i64 q.ro, .int .u64 q.r, .int .u32 q.c, .int .u64 q.b, .int .u16 q.p, .int .u16 q.x, .int .i64 q.a, .int .i64 q.m, .int .i64 q.h, .int .i64 q.d] 30 (0, 0)) := (hm.heap (heap_lt hA_z2) (show ¬ A0 = P0 by omega)).trans hA_z2
       have E_z3 : Ext w0 z3 := Ext.mutE E_z2 hm (fun n hn h => by have h2 : n = P0 := h; omega)
       clear hA_z2 hP_z2 E_z2 rA0_z2
       clear hq hm))
  refine beginL (S := fun W' => Ext z3 W') (by kernel_rfl) ?_
  intro wd hqx
  have hq0 : Ext z3 wd := hqx
  refine takeL (i := 0) (v := (.pointer (some ⟨P0, 1, none⟩))) rfl (by kernel_rfl) (by kernel_rfl) (by kernel_rfl) (fun _ _ _ h => h) (Or.inl ⟨rfl, fun _ _ => rfl⟩) hq0 ?_
  simp only [Act.put, List.setIfInBounds_toArray, List.set_cons_zero, List.set_cons_succ]
  refine takeL (i := 1) (v := _) rfl (by kernel_rfl) (by kernel_rfl) (by kernel_rfl) (fun _ _ _ h => h) (yieldsIf_cell rfl 4 _ rfl ⟨P0, 1, none⟩ rfl (.bool q.ch) _ (fun W' hW' => (cell_of_row _ _ _ _ _ _ ((hW'.block _ (heap_lt hP_z3)).trans hP_z3)).trans rfl) Try.underlying4 rfl) hq0 ?_
  simp only [Act.put, List.setIfInBounds_toArray, List.set_cons_zero, List.set_cons_succ]
  refine takeL (i := 3) (v := (.pointer (some ⟨P0, 2, none⟩))) rfl (by kernel_rfl) (by kernel_rfl) (by kernel_rfl) (fun _ _ _ h => h) (Or.inl ⟨rfl, fun _ _ => rfl⟩) hq0 ?_
  simp only [Act.put, List.setIfInBounds_toArray, List.set_cons_zero, List.set_cons_succ]
  refine takeL (i := 4) (v := _) rfl (by kernel_rfl) (by kernel_rfl) (by kernel_rfl) (fun _ _ _ h => h) (yieldsIf_cell rfl 4 _ rfl ⟨P0, 2, none⟩ rfl (.bool q.ak) _ (fun W' hW' => (cell_of_row _ _ _ _ _ _ ((hW'.block _ (heap_lt hP_z3)).trans hP_z3)).trans rfl) Try.underlying4 rfl) hq0 ?_
  simp only [Act.put, List.setIfInBounds_toArray, List.set_cons_zero, List.set_cons_succ]
  refine runL (i := 2) rfl rfl (by kernel_rfl) (fun K hK => ?_)
  go_simp
  refine (flag_e q.ch 1 _).mono ?_
  rintro e wc1 ⟨rfl, hx⟩
  have hq1 := hq0.trans hx
  refine hK.out _ _ hq1 (fun hHeld => ?_)
  try simp only [Act.put, List.setIfInBounds_toArray, List.set_cons_zero, List.set_cons_succ]
  clear hK K hHeld
  refine runL (i := 5) rfl rfl (by kernel_rfl) (fun K hK => ?_)
  go_simp
  refine (flag_e q.ak 128 _).mono ?_
  rintro e wc2 ⟨rfl, hx⟩
  have hq2 := hq1.trans hx
  refine hK.out _ _ hq2 (fun hHeld => ?_)
  try simp only [Act.put, List.setIfInBounds_toArray, List.set_cons_zero, List.set_cons_succ]
  clear hK K hHeld
  refine takeL (i := 6) (v := (.int .i64 (bitV q.ch 1 + bitV q.ak 128))) rfl (by kernel_rfl) (by kernel_rfl) (by kernel_rfl) (fun _ _ _ h => h) (Or.inl ⟨rfl, fun W' _ => by go_simp; exact w64i _ (by omega) (by omega)⟩) hq2 ?_
  simp only [Act.put, List.setIfInBounds_toArray, List.set_cons_zero, List.set_cons_succ]
  refine takeL (i := 7) (v := (.int .i64 (bitV q.ch 1 + bitV q.ak 128))) rfl (by kernel_rfl) (by kernel_rfl) (by kernel_rfl) (fun _ _ _ h => h) (Or.inl ⟨rfl, fun _ _ => rfl⟩) hq2 ?_
  simp only [Act.put, List.setIfInBounds_toArray, List.set_cons_zero, List.set_cons_succ]
  refine wpAnyH_done (by kernel_rfl) ?_ _
  generalize wc2 = z4 at *
  have hA_z4 : z4.heap[A0]? = some (.cells #[.int .i64 q.kd, .bool q.ch, .bool q.ak, .bool q.pr, .bool q.ag, .bool q.ln, .bool q.fw, .int .i64 q.ro, .int .u64 q.r, .int .u32 q.c, .int .u64 q.b, .int .u16 q.p, .int .u16 q.x, .int .i64 q.a, .int .i64 q.m, .int .i64 q.h, .int .i64 q.d] 30 (0, 0)) := (hq2.block _ (heap_lt hA_z3)).trans hA_z3
  have hP_z4 : z4.heap[P0]? = some (.cells #[.int .i64 2, .bool q.ch, .bool q.ak, .bool q.pr, .bool q.ag, .bool q.ln, .bool q.fw, .int .i64 1, .int .u64 q.r, .int .u32 q.c, .int .u64 q.b, .int .u16 q.p, .int .u16 0, .int .i64 (told q.a), .int .i64 (told q.m), .int .i64 (told q.h), .int .i64 (told q.d)] 30 (0, 0)) := (hq2.block _ (heap_lt hP_z3)).trans hP_z3
  have E_z4 : Ext w0 z4 := E_z3.trans hq2
  have rP0_z4 : z4.cell? ⟨P0, 0, none⟩ = some (.int .i64 2) := (cell_of_row _ _ _ _ _ _ hP_z4).trans rfl
  have rP8_z4 : z4.cell? ⟨P0, 8, none⟩ = some (.int .u64 q.r) := (cell_of_row _ _ _ _ _ _ hP_z4).trans rfl
  have rP9_z4 : z4.cell? ⟨P0, 9, none⟩ = some (.int .u32 q.c) := (cell_of_row _ _ _ _ _ _ hP_z4).trans rfl
  have rP10_z4 : z4.cell? ⟨P0, 10, none⟩ = some (.int .u64 q.b) := (cell_of_row _ _ _ _ _ _ hP_z4).trans rfl
  have rP11_z4 : z4.cell? ⟨P0, 11, none⟩ = some (.int .u16 q.p) := (cell_of_row _ _ _ _ _ _ hP_z4).trans rfl
  have rA13_z4 : z4.cell? ⟨A0, 13, none⟩ = some (.int .i64 q.a) := (cell_of_row _ _ _ _ _ _ hA_z4).trans rfl
  have rA14_z4 : z4.cell? ⟨A0, 14, none⟩ = some (.int .i64 q.m) := (cell_of_row _ _ _ _ _ _ hA_z4).trans rfl
  have rA15_z4 : z4.cell? ⟨A0, 15, none⟩ = some (.int .i64 q.h) := (cell_of_row _ _ _ _ _ _ hA_z4).trans rfl
  have rA16_z4 : z4.cell? ⟨A0, 16, none⟩ = some (.int .i64 q.d) := (cell_of_row _ _ _ _ _ _ hA_z4).trans rfl
  clear hA_z3 hP_z3 E_z3
  clear hq0 hq1 hq2
  have hltP := heap_lt hP_z4
  have hltA := heap_lt hA_z4
  have HEW := Lib.hid E_z4
  have hPk := hP_z4
  have hAk := hA_z4
  go_wp2_with fail
  have hE_h : Ext z4 ((z4.alloc (.cells #[.int .u8 0, .int .u8 0, .int .u8 0, .int .u8 0] 5)).alloc (.cells #[.int .u8 0, .int .u8 0, .int .u8 2, .int .u8 2] 5)) := ((Ext.refl z4).alloc _).alloc _
  have hO_h : ((z4.alloc (.cells #[.int .u8 0, .int .u8 0, .int .u8 0, .int .u8 0] 5)).alloc (.cells #[.int .u8 0, .int .u8 0, .int .u8 2, .int .u8 2] 5)).ownsRow z4.heap.size 5 1 (.slice (some ⟨z4.heap.size + 1, 0, none⟩) 4 4) ([0, 0, 2, 2]).length (([0, 0, 2, 2]).map (Value.int .u8)) := by
    have h := four_own (z4.alloc (.cells #[.int .u8 0, .int .u8 0, .int .u8 0, .int .u8 0] 5)) 0 0 2 2
    rw [size_al] at h
    exact owns_base h (by omega)
  obtain ⟨gh, hgh⟩ : ∃ n, z4.heap.size + 1 = n := ⟨_, rfl⟩
  rw [hgh] at hO_h ⊢
  generalize (z4.alloc (.cells #[.int .u8 0, .int .u8 0, .int .u8 0, .int .u8 0] 5)).alloc (.cells #[.int .u8 0, .int .u8 0, .int .u8 2, .int .u8 2] 5) = wh at *
  have hA_wh : wh.heap[A0]? = some (.cells #[.int .i64 q.kd, .bool q.ch, .bool q.ak, .bool q.pr, .bool q.ag, .bool q.ln, .bool q.fw, .int .i64 q.ro, .int .u64 q.r, .int .u32 q.c, .int .u64 q.b, .int .u16 q.p, .int .u16 q.x, .int .i64 q.a, .int .i64 q.m, .int .i64 q.h, .int .i64 q.d] 30 (0, 0)) := (hE_h.block _ (heap_lt hA_z4)).trans hA_z4
  have hP_wh : wh.heap[P0]? = some (.cells #[.int .i64 2, .bool q.ch, .bool q.ak, .bool q.pr, .bool q.ag, .bool q.ln, .bool q.fw, .int .i64 1, .int .u64 q.r, .int .u32 q.c, .int .u64 q.b, .int .u16 q.p, .int .u16 0, .int .i64 (told q.a), .int .i64 (told q.m), .int .i64 (told q.h), .int .i64 (told q.d)] 30 (0, 0)) := (hE_h.block _ (heap_lt hP_z4)).trans hP_z4
  have E_wh := E_z4.trans hE_h
  have ex_wh := hE_h
  have ow_wh := hO_h
  clear hE_h hO_h
  refine beginL (S := fun W' => Ext wh W') (by kernel_rfl) ?_
  intro wd hqx
  have hq0 : Ext wh wd := hqx
  refine takeL (i := 0) (v := (.int .i64 (bitV q.ch 1 + bitV q.ak 128))) rfl (by kernel_rfl) (by kernel_rfl) (by kernel_rfl) (fun _ _ _ h => h) (Or.inl ⟨rfl, fun _ _ => rfl⟩) hq0 ?_
  simp only [Act.put, List.setIfInBounds_toArray, List.set_cons_zero, List.set_cons_succ]
  refine takeL (i := 1) (v := (.pointer (some ⟨P0, 3, none⟩))) rfl (by kernel_rfl) (by kernel_rfl) (by kernel_rfl) (fun _ _ _ h => h) (Or.inl ⟨rfl, fun _ _ => rfl⟩) hq0 ?_
  simp only [Act.put, List.setIfInBounds_toArray, List.set_cons_zero, List.set_cons_succ]
  refine takeL (i := 2) (v := _) rfl (by kernel_rfl) (by kernel_rfl) (by kernel_rfl) (fun _ _ _ h => h) (yieldsIf_cell rfl 4 _ rfl ⟨P0, 3, none⟩ rfl (.bool q.pr) _ (fun W' hW' => (cell_of_row _ _ _ _ _ _ ((hW'.block _ (heap_lt hP_wh)).trans hP_wh)).trans rfl) Try.underlying4 rfl) hq0 ?_
  simp only [Act.put, List.setIfInBounds_toArray, List.set_cons_zero, List.set_cons_succ]
  refine takeL (i := 5) (v := (.pointer (some ⟨P0, 5, none⟩))) rfl (by kernel_rfl) (by kernel_rfl) (by kernel_rfl) (fun _ _ _ h => h) (Or.inl ⟨rfl, fun _ _ => rfl⟩) hq0 ?_
  simp only [Act.put, List.setIfInBounds_toArray, List.set_cons_zero, List.set_cons_succ]
  refine takeL (i := 6) (v := _) rfl (by kernel_rfl) (by kernel_rfl) (by kernel_rfl) (fun _ _ _ h => h) (yieldsIf_cell rfl 4 _ rfl ⟨P0, 5, none⟩ rfl (.bool q.ln) _ (fun W' hW' => (cell_of_row _ _ _ _ _ _ ((hW'.block _ (heap_lt hP_wh)).trans hP_wh)).trans rfl) Try.underlying4 rfl) hq0 ?_
  simp only [Act.put, List.setIfInBounds_toArray, List.set_cons_zero, List.set_cons_succ]
  refine takeL (i := 9) (v := (.pointer (some ⟨P0, 6, none⟩))) rfl (by kernel_rfl) (by kernel_rfl) (by kernel_rfl) (fun _ _ _ h => h) (Or.inl ⟨rfl, fun _ _ => rfl⟩) hq0 ?_
  simp only [Act.put, List.setIfInBounds_toArray, List.set_cons_zero, List.set_cons_succ]
  refine takeL (i := 10) (v := _) rfl (by kernel_rfl) (by kernel_rfl) (by kernel_rfl) (fun _ _ _ h => h) (yieldsIf_cell rfl 4 _ rfl ⟨P0, 6, none⟩ rfl (.bool q.fw) _ (fun W' hW' => (cell_of_row _ _ _ _ _ _ ((hW'.block _ (heap_lt hP_wh)).trans hP_wh)).trans rfl) Try.underlying4 rfl) hq0 ?_
  simp only [Act.put, List.setIfInBounds_toArray, List.set_cons_zero, List.set_cons_succ]
  refine takeL (i := 13) (v := (.pointer (some ⟨P0, 4, none⟩))) rfl (by kernel_rfl) (by kernel_rfl) (by kernel_rfl) (fun _ _ _ h => h) (Or.inl ⟨rfl, fun _ _ => rfl⟩) hq0 ?_
  simp only [Act.put, List.setIfInBounds_toArray, List.set_cons_zero, List.set_cons_succ]
  refine takeL (i := 14) (v := _) rfl (by kernel_rfl) (by kernel_rfl) (by kernel_rfl) (fun _ _ _ h => h) (yieldsIf_cell rfl 4 _ rfl ⟨P0, 4, none⟩ rfl (.bool q.ag) _ (fun W' hW' => (cell_of_row _ _ _ _ _ _ ((hW'.block _ (heap_lt hP_wh)).trans hP_wh)).trans rfl) Try.underlying4 rfl) hq0 ?_
  simp only [Act.put, List.setIfInBounds_toArray, List.set_cons_zero, List.set_cons_succ]
  refine runL (i := 3) rfl rfl (by kernel_rfl) (fun K hK => ?_)
  go_simp
  refine (flag_e q.pr 2 _).mono ?_
  rintro e wc1 ⟨rfl, hx⟩
  have hq1 := hq0.trans hx
  refine hK.out _ _ hq1 (fun hHeld => ?_)
  try simp only [Act.put, List.setIfInBounds_toArray, List.set_cons_zero, List.set_cons_succ]
  clear hK K hHeld
  refine takeL (i := 4) (v := (.int .i64 ((bitV q.ch 1 + bitV q.ak 128) + bitV q.pr 2))) rfl (by kernel_rfl) (by kernel_rfl) (by kernel_rfl) (fun _ _ _ h => h) (Or.inl ⟨rfl, fun W' _ => by go_simp; exact w64i _ (by omega) (by omega)⟩) hq1 ?_
  simp only [Act.put, List.setIfInBounds_toArray, List.set_cons_zero, List.set_cons_succ]
  refine runL (i := 7) rfl rfl (by kernel_rfl) (fun K hK => ?_)
  go_simp
  refine (flag_e q.ln 16 _).mono ?_
  rintro e wc2 ⟨rfl, hx⟩
  have hq2 := hq1.trans hx
  refine hK.out _ _ hq2 (fun hHeld => ?_)
  try simp only [Act.put, List.setIfInBounds_toArray, List.set_cons_zero, List.set_cons_succ]
  clear hK K hHeld
  refine takeL (i := 8) (v := (.int .i64 (((bitV q.ch 1 + bitV q.ak 128) + bitV q.pr 2) + bitV q.ln 16))) rfl (by kernel_rfl) (by kernel_rfl) (by kernel_rfl) (fun _ _ _ h => h) (Or.inl ⟨rfl, fun W' _ => by go_simp; exact w64i _ (by omega) (by omega)⟩) hq2 ?_
  simp only [Act.put, List.setIfInBounds_toArray, List.set_cons_zero, List.set_cons_succ]
  refine runL (i := 11) rfl rfl (by kernel_rfl) (fun K hK => ?_)
  go_simp
  refine (flag_e q.fw 32 _).mono ?_
  rintro e wc3 ⟨rfl, hx⟩
  have hq3 := hq2.trans hx
  refine hK.out _ _ hq3 (fun hHeld => ?_)
  try simp only [Act.put, List.setIfInBounds_toArray, List.set_cons_zero, List.set_cons_succ]
  clear hK K hHeld
  refine takeL (i := 12) (v := (.int .i64 ((((bitV q.ch 1 + bitV q.ak 128) + bitV q.pr 2) + bitV q.ln 16) + bitV q.fw 32))) rfl (by kernel_rfl) (by kernel_rfl) (by kernel_rfl) (fun _ _ _ h => h) (Or.inl ⟨rfl, fun W' _ => by go_simp; exact w64i _ (by omega) (by omega)⟩) hq3 ?_
  simp only [Act.put, List.setIfInBounds_toArray, List.set_cons_zero, List.set_cons_succ]
  refine runL (i := 15) rfl rfl (by kernel_rfl) (fun K hK => ?_)
  go_simp
  refine (flag_e q.ag 64 _).mono ?_
  rintro e wc4 ⟨rfl, hx⟩
  have hq4 := hq3.trans hx
  refine hK.out _ _ hq4 (fun hHeld => ?_)
  try simp only [Act.put, List.setIfInBounds_toArray, List.set_cons_zero, List.set_cons_succ]
  clear hK K hHeld
  refine takeL (i := 16) (v := (.int .i64 (((((bitV q.ch 1 + bitV q.ak 128) + bitV q.pr 2) + bitV q.ln 16) + bitV q.fw 32) + bitV q.ag 64))) rfl (by kernel_rfl) (by kernel_rfl) (by kernel_rfl) (fun _ _ _ h => h) (Or.inl ⟨rfl, fun W' _ => by go_simp; exact w64i _ (by omega) (by omega)⟩) hq4 ?_
  simp only [Act.put, List.setIfInBounds_toArray, List.set_cons_zero, List.set_cons_succ]
  refine takeL (i := 17) (v := (.int .i64 (((((bitV q.ch 1 + bitV q.ak 128) + bitV q.pr 2) + bitV q.ln 16) + bitV q.fw 32) + bitV q.ag 64))) rfl (by kernel_rfl) (by kernel_rfl) (by kernel_rfl) (fun _ _ _ h => h) (Or.inl ⟨rfl, fun _ _ => rfl⟩) hq4 ?_
  simp only [Act.put, List.setIfInBounds_toArray, List.set_cons_zero, List.set_cons_succ]
  refine wpAnyH_done (by kernel_rfl) ?_ _
  generalize wc4 = z5 at *
  have hA_z5 : z5.heap[A0]? = some (.cells #[.int .i64 q.kd, .bool q.ch, .bool q.ak, .bool q.pr, .bool q.ag, .bool q.ln, .bool q.fw, .int .i64 q.ro, .int .u64 q.r, .int .u32 q.c, .int .u64 q.b, .int .u16 q.p, .int .u16 q.x, .int .i64 q.a, .int .i64 q.m, .int .i64 q.h, .int .i64 q.d] 30 (0, 0)) := (hq4.block _ (heap_lt hA_wh)).trans hA_wh
  have hP_z5 : z5.heap[P0]? = some (.cells #[.int .i64 2, .bool q.ch, .bool q.ak, .bool q.pr, .bool q.ag, .bool q.ln, .bool q.fw, .int .i64 1, .int .u64 q.r, .int .u32 q.c, .int .u64 q.b, .int .u16 q.p, .int .u16 0, .int .i64 (told q.a), .int .i64 (told q.m), .int .i64 (told q.h), .int .i64 (told q.d)] 30 (0, 0)) := (hq4.block _ (heap_lt hP_wh)).trans hP_wh
  have E_z5 : Ext w0 z5 := E_wh.trans hq4
  have ex_z5 : Ext z4 z5 := ex_wh.trans hq4
  have ow_z5 : z5.ownsRow z4.heap.size 5 1 (.slice (some ⟨gh, 0, none⟩) 4 4) ([0, 0, 2, 2]).length (([0, 0, 2, 2]).map (Value.int .u8)) := owns_ext ow_wh hq4
  have rP0_z5 : z5.cell? ⟨P0, 0, none⟩ = some (.int .i64 2) := (cell_of_row _ _ _ _ _ _ hP_z5).trans rfl
  have rP7_z5 : z5.cell? ⟨P0, 7, none⟩ = some (.int .i64 1) := (cell_of_row _ _ _ _ _ _ hP_z5).trans rfl
  have rP8_z5 : z5.cell? ⟨P0, 8, none⟩ = some (.int .u64 q.r) := (cell_of_row _ _ _ _ _ _ hP_z5).trans rfl
  have rP9_z5 : z5.cell? ⟨P0, 9, none⟩ = some (.int .u32 q.c) := (cell_of_row _ _ _ _ _ _ hP_z5).trans rfl
  have rP10_z5 : z5.cell? ⟨P0, 10, none⟩ = some (.int .u64 q.b) := (cell_of_row _ _ _ _ _ _ hP_z5).trans rfl
  have rP11_z5 : z5.cell? ⟨P0, 11, none⟩ = some (.int .u16 q.p) := (cell_of_row _ _ _ _ _ _ hP_z5).trans rfl
  have rA13_z5 : z5.cell? ⟨A0, 13, none⟩ = some (.int .i64 q.a) := (cell_of_row _ _ _ _ _ _ hA_z5).trans rfl
  have rA14_z5 : z5.cell? ⟨A0, 14, none⟩ = some (.int .i64 q.m) := (cell_of_row _ _ _ _ _ _ hA_z5).trans rfl
  have rA15_z5 : z5.cell? ⟨A0, 15, none⟩ = some (.int .i64 q.h) := (cell_of_row _ _ _ _ _ _ hA_z5).trans rfl
  have rA16_z5 : z5.cell? ⟨A0, 16, none⟩ = some (.int .i64 q.d) := (cell_of_row _ _ _ _ _ _ hA_z5).trans rfl
  clear hA_wh hP_wh ex_wh ow_wh E_wh
  clear hq0 hq1 hq2 hq3 hq4
  go_wp2_with (first
    | fail
    | (at_builtin; refine wpList_app rfl _ _ rfl z4 (ex_z5.trans ((Ext.refl z5).alloc _)) _ _ ([0, 0, 2, 2]) ([flagsN q]) rfl rfl (ow_z5.alloc _) (isBytes_alloc z5 [flagsN q] 1 5 (show 0 < 1 by decide) (Nat.le_refl _) (by decide)) (show 4 + 1 ≤ 100000 by decide) ?_
       intro va1 a1 hown_a1 hE_a1 hg_a1
       have hO_a1 : a1.ownsRow z4.heap.size 5 1 va1 (e1 q).length ((e1 q).map (Value.int .u8)) := by rw [hek]; exact hown_a1
       clear hown_a1 hg_a1
       have cP8_a1 : a1.cell? ⟨P0, 8, none⟩ = some (.int .u64 q.r) := (cell_of_row _ _ _ _ _ _ ((hE_a1.block _ hltP).trans hPk)).trans rfl))
  refine (refput_i (q.r) 8 _ HQ.out.r (by decide) (by decide)).mono ?_
  rintro e p2 ⟨vp0, rfl, hown_p, hx0⟩
  have hi_p2 := isBytes_own hown_p
  have hE_p2 := hE_a1.trans hx0
  have hO_p2 := owns_ext hO_a1 hx0
  clear hown_p hx0 hO_a1 hE_a1
  go_wp2_with (first
    | fail
    | (at_builtin; refine wpList_app rfl _ _ rfl z4 hE_p2 _ _ (e1 q) (bts (q.r).toNat 8) rfl rfl hO_p2 hi_p2 (by rw [hl1, bts_len]; omega) ?_
       intro va2 a2 hown_a2 hE_a2 hg_a2
       have hO_a2 : a2.ownsRow z4.heap.size 5 1 va2 (e2 q).length ((e2 q).map (Value.int .u8)) := by exact hown_a2
       clear hown_a2 hg_a2
       have cP9_a2 : a2.cell? ⟨P0, 9, none⟩ = some (.int .u32 q.c) := (cell_of_row _ _ _ _ _ _ ((hE_a2.block _ hltP).trans hPk)).trans rfl))
  clear hi_p2 hE_p2 hO_p2
  refine (refput_i (q.c) 4 _ ⟨HQ.out.c.1, by have := HQ.out.c.2; omega⟩ (by decide) (by decide)).mono ?_
  rintro e p3 ⟨vp1, rfl, hown_p, hx1⟩
  have hi_p3 := isBytes_own hown_p
  have hE_p3 := hE_a2.trans hx1
  have hO_p3 := owns_ext hO_a2 hx1
  clear hown_p hx1 hO_a2 hE_a2
  go_wp2_with (first
    | fail
    | (at_builtin; refine wpList_app rfl _ _ rfl z4 hE_p3 _ _ (e2 q) (bts (q.c).toNat 4) rfl rfl hO_p3 hi_p3 (by rw [hl2, bts_len]; omega) ?_
       intro va3 a3 hown_a3 hE_a3 hg_a3
       have hO_a3 : a3.ownsRow z4.heap.size 5 1 va3 (e3 q).length ((e3 q).map (Value.int .u8)) := by exact hown_a3
       clear hown_a3 hg_a3
       have cP10_a3 : a3.cell? ⟨P0, 10, none⟩ = some (.int .u64 q.b) := (cell_of_row _ _ _ _ _ _ ((hE_a3.block _ hltP).trans hPk)).trans rfl))
  clear hi_p3 hE_p3 hO_p3
  refine (refput_i (q.b) 8 _ HQ.out.b (by decide) (by decide)).mono ?_
  rintro e p4 ⟨vp2, rfl, hown_p, hx2⟩
  have hi_p4 := isBytes_own hown_p
  have hE_p4 := hE_a3.trans hx2
  have hO_p4 := owns_ext hO_a3 hx2
  clear hown_p hx2 hO_a3 hE_a3
  go_wp2_with (first
    | fail
    | (at_builtin; refine wpList_app rfl _ _ rfl z4 hE_p4 _ _ (e3 q) (bts (q.b).toNat 8) rfl rfl hO_p4 hi_p4 (by rw [hl3, bts_len]; omega) ?_
       intro va4 a4 hown_a4 hE_a4 hg_a4
       have hO_a4 : a4.ownsRow z4.heap.size 5 1 va4 (e4 q).length ((e4 q).map (Value.int .u8)) := by exact hown_a4
       clear hown_a4 hg_a4
       have cP11_a4 : a4.cell? ⟨P0, 11, none⟩ = some (.int .u16 q.p) := (cell_of_row _ _ _ _ _ _ ((hE_a4.block _ hltP).trans hPk)).trans rfl))
  clear hi_p4 hE_p4 hO_p4
  refine (refput_i (q.p) 2 _ ⟨HQ.out.p.1, by have := HQ.out.p.2; omega⟩ (by decide) (by decide)).mono ?_
  rintro e p5 ⟨vp3, rfl, hown_p, hx3⟩
  have hi_p5 := isBytes_own hown_p
  have hE_p5 := hE_a4.trans hx3
  have hO_p5 := owns_ext hO_a4 hx3
  clear hown_p hx3 hO_a4 hE_a4
  go_wp2_with (first
    | fail
    | (at_builtin; refine wpList_app rfl _ _ rfl z4 hE_p5 _ _ (e4 q) (bts (q.p).toNat 2) rfl rfl hO_p5 hi_p5 (by rw [hl4, bts_len]; omega) ?_
       intro va5 a5 hown_a5 hE_a5 hg_a5
       have hO_a5 : a5.ownsRow z4.heap.size 5 1 va5 (e5 q).length ((e5 q).map (Value.int .u8)) := by exact hown_a5
       clear hown_a5 hg_a5
       have cA13_a5 : a5.cell? ⟨A0, 13, none⟩ = some (.int .i64 q.a) := (cell_of_row _ _ _ _ _ _ ((hE_a5.block _ hltA).trans hAk)).trans rfl
       have cA14_a5 : a5.cell? ⟨A0, 14, none⟩ = some (.int .i64 q.m) := (cell_of_row _ _ _ _ _ _ ((hE_a5.block _ hltA).trans hAk)).trans rfl
       have cA15_a5 : a5.cell? ⟨A0, 15, none⟩ = some (.int .i64 q.h) := (cell_of_row _ _ _ _ _ _ ((hE_a5.block _ hltA).trans hAk)).trans rfl
       have cA16_a5 : a5.cell? ⟨A0, 16, none⟩ = some (.int .i64 q.d) := (cell_of_row _ _ _ _ _ _ ((hE_a5.block _ hltA).trans hAk)).trans rfl))
  have hTB : (a5.alloc (.cells #[.int .i64 q.a, .int .i64 q.m, .int .i64 q.h, .int .i64 q.d] 3)).heap[a5.heap.size]? = some (.cells #[.int .i64 q.a, .int .i64 q.m, .int .i64 q.h, .int .i64 q.d] 3 (0, 0)) := heap_alloc_new _ _
  have hE_b := hE_a5.trans ((Ext.refl a5).alloc (.cells #[.int .i64 q.a, .int .i64 q.m, .int .i64 q.h, .int .i64 q.d] 3))
  have hO_b := hO_a5.alloc (.cells #[.int .i64 q.a, .int .i64 q.m, .int .i64 q.h, .int .i64 q.d] 3)
  generalize a5.alloc (.cells #[.int .i64 q.a, .int .i64 q.m, .int .i64 q.h, .int .i64 q.d] 3) = b0 at *
  obtain ⟨T0, hT0⟩ : ∃ n, a5.heap.size = n := ⟨_, rfl⟩
  rw [hT0] at hTB ⊢
  clear hT0 hO_a5 hE_a5 cA13_a5 cA14_a5 cA15_a5 cA16_a5 hi_p5 hE_p5 hO_p5
  go_loopw [5, 7] (fun v i wr => ∃ n : Nat, n ≤ 4 ∧ i = .int .i64 n ∧ wr.ownsRow z4.heap.size 5 1 v (e6 q n).length ((e6 q n).map (Value.int .u8)) ∧ wr.heap[T0]? = some (.cells #[.int .i64 q.a, .int .i64 q.m, .int .i64 q.h, .int .i64 q.d] 3 (0, 0)) ∧ Ext z4 wr) (fun _ i _ => 4 - (intOf i).toNat)
  case atStart => exact ⟨0, by omega, rfl, hO_b, hTB, hE_b⟩
  case round =>
    clear hO_b hTB hE_b
    obtain ⟨n, hn, rfl, hO, hTB, hE⟩ := hrel
    by_cases hlt : n < 4
    · have cn : wr.cell? ⟨T0, n, none⟩ = some (.int .i64 (tm q n)) := (cell_of_row _ _ _ _ _ _ hTB).trans (by
        match n, hlt with
        | 0, _ => rfl
        | 1, _ => rfl
        | 2, _ => rfl
        | 3, _ => rfl)
      have hv := toV_rg (tm q n)
      have htw : IntKind.u64.wrap (toV (tm q n)) = toV (tm q n) := by rw [IntKind.wrap_u64]; omega
      go_wp2_with fail
      refine (ref_to (tm q n) wr).mono ?_
      rintro e _ ⟨rfl, rfl⟩
      go_wp2_with fail
      refine (refput_i (toV (tm q n)) 2 _ ⟨hv.1, by omega⟩ (by decide) (by decide)).mono ?_
      rintro e p ⟨gp, rfl, hown_p, hxp⟩
      have hip := isBytes_own hown_p
      have hop := owns_ext hO hxp
      have hEp := hE.trans hxp
      have hTp := (hxp.block _ (heap_lt hTB)).trans hTB
      clear hO hE hxp cn hTB hown_p
      go_wp2_with (first
        | fail
        | (at_builtin; refine wpList_app rfl _ _ rfl z4 hEp _ _ (e6 q n) (bts (toV (tm q n)).toNat 2) rfl rfl hop hip (by rw [hl6, bts_len]; omega) ?_
           intro vq wq hown_wq hE_wq hg_wq
           have hTq := far_keep hop hTp (by decide) hg_wq
           clear hop hTp hip hEp hg_wq))
      go_roundw
      case rel => exact ⟨n + 1, by omega, by go_num, hown_wq, hTq, hE_wq⟩
      case measure => simp [intOf]; omega
    · obtain rfl : n = 4 := by omega
      have cP0_wr : wr.cell? ⟨P0, 0, none⟩ = some (.int .i64 2) := (cell_of_row _ _ _ _ _ _ ((hE.block _ hltP).trans hPk)).trans rfl
      have hone : IsInts (wr.alloc (.cells #[.int .u8 0] 5)) .u8 (.slice (some ⟨wr.heap.size, 0, none⟩) 1 1) [0] := isBytes_alloc wr [0] 1 5 (by decide) (Nat.le_refl _) (by decide)
      go_wp2_with (first
        | fail
        | (at_builtin; refine wpList_app rfl _ _ rfl z4 (hE.trans ((Ext.refl wr).alloc _)) _ _ (e6 q 4) ([0]) rfl rfl (hO.alloc _) hone (by rw [hl6]; decide) ?_
           intro vq wq hown_wq hE_wq hg_wq
           have hz1 := hown_wq
           have hz2 := hE_wq
           clear hown_wq hE_wq hg_wq))
      go_ret
      refine ⟨_, rfl, ?_, hE_w0.trans (HEW.out.trans hz2)⟩
      have e : encL q = e6 q 4 ++ [0] := by have := HK.out; unfold encL; rw [if_neg (by omega), if_pos this]
      rw [e]
      exact owns_base hz1 (hE_w0.trans HEW.out).size
set_option maxRecDepth 100000 in
set_option maxHeartbeats 2000000 in
theorem ed_r2 (q : Mg) (hq : q.ok) (hk : q.kd = 2) (hr : roN q.ro = 2) (w : World) : Calls Try.prog 18 #[.agg #[.int .i64 q.kd, .bool q.ch, .bool q.ak, .bool q.pr, .bool q.ag, .bool q.ln, .bool q.fw, .int .i64 q.ro, .int .u64 q.r, .int .u32 q.c, .int .u64 q.b, .int .u16 q.p, .int .u16 q.x, .int .i64 q.a, .int .i64 q.m, .int .i64 q.h, .int .i64 q.d]] w (Owned w (encL q)) := by
  have hz := zero_msg
  have hfl := flagsN_rg q
  have gch := bitV_rg q.ch 1 (by decide)
  have gak := bitV_rg q.ak 128 (by decide)
  have gpr := bitV_rg q.pr 2 (by decide)
  have gln := bitV_rg q.ln 16 (by decide)
  have gfw := bitV_rg q.fw 32 (by decide)
  have gag := bitV_rg q.ag 64 (by decide)
  have b0 : decide (q.kd < 0) = false := by simp; omega
  have b2 : decide (2 < q.kd) = false := by simp; omega
  have k1 : (q.kd == 1) = false := by simp; omega
  have hpl : plainM q = (⟨2, q.ch, q.ak, q.pr, q.ag, q.ln, q.fw, 3, q.r, q.c, q.b, q.p, 0, (told q.a), (told q.m), (told q.h), (told q.d)⟩ : Mg) := by
    unfold plainM
    rw [if_neg (by omega), if_pos (.inr hk), flagged_flags, if_pos hk, hr, hk]
    rfl
  have HPL := Lib.hid (show ∀ w : World, Calls Try.prog 20 #[.agg #[.int .i64 q.kd, .bool q.ch, .bool q.ak, .bool q.pr, .bool q.ag, .bool q.ln, .bool q.fw, .int .i64 q.ro, .int .u64 q.r, .int .u32 q.c, .int .u64 q.b, .int .u16 q.p, .int .u16 q.x, .int .i64 q.a, .int .i64 q.m, .int .i64 q.h, .int .i64 q.d]] w fun e w' => e = .returned (.agg #[.int .i64 2, .bool q.ch, .bool q.ak, .bool q.pr, .bool q.ag, .bool q.ln, .bool q.fw, .int .i64 3, .int .u64 q.r, .int .u32 q.c, .int .u64 q.b, .int .u16 q.p, .int .u16 0, .int .i64 (told q.a), .int .i64 (told q.m), .int .i64 (told q.h), .int .i64 (told q.d)]) ∧ Ext w w' from fun w => by
    have := plaind_any q hq w
    rw [hpl] at this
    exact this)
  clear hpl
  have hsum : bitV q.ch 1 + bitV q.ak 128 + bitV q.pr 2 + bitV q.ln 16 + bitV q.fw 32 + bitV q.ag 64 + 8 = flagsN q := by unfold flagsN; rw [if_pos hk, fl6_sum, hr]; omega
  have hb1 := bts1 (flagsN q) hfl.1 hfl.2
  have hek : e1 q = [0, 0, 2, 2] ++ [flagsN q] := by unfold e1 headL; rw [hb1, if_neg (by omega), if_neg (by omega), if_pos hk]
  have hl1 : (e1 q).length = 5 := by rw [hek]; rfl
  have hl2 : (e2 q).length = 13 := by simp [e2, hl1, bts_len]
  have hl3 : (e3 q).length = 17 := by simp [e3, hl2, bts_len]
  have hl4 : (e4 q).length = 25 := by simp [e4, hl3, bts_len]
  have hl6 : ∀ n, (e6 q n).length = 27 + 2 * n := fun n => by
    induction n with
    | zero => exact (e6_len q (by omega)).1
    | succ n ih => show (e6 q n ++ _).length = _; rw [List.length_append, ih, bts_len]; omega
  have hcw : IntKind.u64.wrap q.c = q.c := by have := hq.c; rw [IntKind.wrap_u64]; omega
  have hpw : IntKind.u64.wrap q.p = q.p := by have := hq.p; rw [IntKind.wrap_u64]; omega
  have HQ := Lib.hid hq
  have HK := Lib.hid hk
  clear hq hk hr
  go_enter Try.func18, Try.ntmps18
  go_wp2_with fail
  have hA_w0 : (w.alloc (.cells #[.int .i64 q.kd, .bool q.ch, .bool q.ak, .bool q.pr, .bool q.ag, .bool q.ln, .bool q.fw, .int .i64 q.ro, .int .u64 q.r, .int .u32 q.c, .int .u64 q.b, .int .u16 q.p, .int .u16 q.x, .int .i64 q.a, .int .i64 q.m, .int .i64 q.h, .int .i64 q.d] 30)).heap[w.heap.size]? = some (.cells #[.int .i64 q.kd, .bool q.ch, .bool q.ak, .bool q.pr, .bool q.ag, .bool q.ln, .bool q.fw, .int .i64 q.ro, .int .u64 q.r, .int .u32 q.c, .int .u64 q.b, .int .u16 q.p, .int .u16 q.x, .int .i64 q.a, .int .i64 q.m, .int .i64 q.h, .int .i64 q.d] 30 (0, 0)) := heap_alloc_new _ _
  have hE_w0 : Ext w (w.alloc (.cells #[.int .i64 q.kd, .bool q.ch, .bool q.ak, .bool q.pr, .bool q.ag, .bool q.ln, .bool q.fw, .int .i64 q.ro, .int .u64 q.r, .int .u32 q.c, .int .u64 q.b, .int .u16 q.p, .int .u16 q.x, .int .i64 q.a, .int .i64 q.m, .int .i64 q.h, .int .i64 q.d] 30)) := (Ext.refl _).alloc _
  generalize w.alloc (.cells #[.int .i64 q.kd, .bool q.ch, .bool q.ak, .bool q.pr, .bool q.ag, .bool q.ln, .bool q.fw, .int .i64 q.ro, .int .u64 q.r, .int .u32 q.c, .int .u64 q.b, .int .u16 q.p, .int .u16 q.x, .int .i64 q.a, .int .i64 q.m, .int .i64 q.h, .int .i64 q.d] 30) = w0 at *
  obtain ⟨A0, hA0⟩ : ∃ n, w.heap.size = n := ⟨_, rfl⟩
  rw [hA0] at hA_w0 ⊢
  have rA0_w0 : w0.cell? ⟨A0, 0, none⟩ = some (.int .i64 q.kd) := (cell_of_row _ _ _ _ _ _ hA_w0).trans rfl
  go_wp2_with (first
    | fail
    | ((with_reducible refine at_load 30 ?_); refine wpList_load_row rfl 30 _ rfl A0 rfl 30 #[.int .i64 q.kd, .bool q.ch, .bool q.ak, .bool q.pr, .bool q.ag, .bool q.ln, .bool q.fw, .int .i64 q.ro, .int .u64 q.r, .int .u32 q.c, .int .u64 q.b, .int .u16 q.p, .int .u16 q.x, .int .i64 q.a, .int .i64 q.m, .int .i64 q.h, .int .i64 q.d] (0, 0) _ hA_w0 Try.underlying30 rfl (by kernel_rfl) ?_))
  refine (HPL.out _).mono ?_
  rintro e z1 ⟨rfl, hx⟩
  have E_z1 : Ext w0 z1 := hx
  have hA_z1 : z1.heap[A0]? = some (.cells #[.int .i64 q.kd, .bool q.ch, .bool q.ak, .bool q.pr, .bool q.ag, .bool q.ln, .bool q.fw, .int .i64 q.ro, .int .u64 q.r, .int .u32 q.c, .int .u64 q.b, .int .u16 q.p, .int .u16 q.x, .int .i64 q.a, .int .i64 q.m, .int .i64 q.h, .int .i64 q.d] 30 (0, 0)) := (hx.block _ (heap_lt hA_w0)).trans hA_w0
  have rA0_z1 : z1.cell? ⟨A0, 0, none⟩ = some (.int .i64 q.kd) := (cell_of_row _ _ _ _ _ _ hA_z1).trans rfl
  clear hA_w0 rA0_w0
  clear hx
  go_wp2_with (first
    | fail
    | ((with_reducible refine at_alloc 30 ?_); refine al_zero rfl 30 rfl MZ zero_msg ?_
       intro P0 z2 hq hs hx
       have E_z2 : Ext w0 z2 := E_z1.trans hx
       have hA_z2 : z2.heap[A0]? = some (.cells #[.int .i64 q.kd, .bool q.ch, .bool q.ak, .bool q.pr, .bool q.ag, .bool q.ln, .bool q.fw, .int .i64 q.ro, .int .u64 q.r, .int .u32 q.c, .int .u64 q.b, .int .u16 q.p, .int .u16 q.x, .int .i64 q.a, .int .i64 q.m, .int .i64 q.h, .int .i64 q.d] 30 (0, 0)) := (hx.block _ (heap_lt hA_z1)).trans hA_z1
       have hP_z2 : z2.heap[P0]? = some (.cells #[.int .i64 0, .bool false, .bool false, .bool false, .bool false, .bool false, .bool false, .int .i64 0, .int .u64 0, .int .u32 0, .int .u64 0, .int .u16 0, .int .u16 0, .int .i64 0, .int .i64 0, .int .i64 0, .int .i64 0] 30 (0, 0)) := hq
       have hb_P0 : w0.heap.size ≤ P0 := by have := E_z1.size; omega
       have hn_A0P0 : A0 ≠ P0 := by have := heap_lt hA_z1; omega
       have rA0_z2 : z2.cell? ⟨A0, 0, none⟩ = some (.int .i64 q.kd) := (cell_of_row _ _ _ _ _ _ hA_z2).trans rfl
       clear hA_z1 E_z1 rA0_z1
       clear hq hs hx)
    | ((with_reducible refine at_store 30 ?_); refine st_at rfl rfl 30 _ _ rfl P0 0 _ #[.int .i64 2, .bool q.ch, .bool q.ak, .bool q.pr, .bool q.ag, .bool q.ln, .bool q.fw, .int .i64 3, .int .u64 q.r, .int .u32 q.c, .int .u64 q.b, .int .u16 q.p, .int .u16 0, .int .i64 (told q.a), .int .i64 (told q.m), .int .i64 (told q.h), .int .i64 (told q.d)] _ #[.int .i64 2, .bool q.ch, .bool q.ak, .bool q.pr, .bool q.ag, .bool q.ln, .bool q.fw, .int .i64 3, .int .u64 q.r, .int .u32 q.c, .int .u64 q.b, .int .u16 q.p, .int .u16 0, .int .i64 (told q.a), .int .i64 (told q.m), .int .i64 (told q.h), .int .i64 (told q.d)] _ rfl rfl rfl hP_z2 (by exact (by decide : 0 + 17 ≤ 17)) (by kernel_rfl) rfl rfl ?_
       intro z3 hq hm
       have hP_z3 : z3.heap[P0]? = some (.cells #[.int .i64 2, .bool q.ch, .bool q.ak, .bool q.pr, .bool q.ag, .bool q.ln, .bool q.fw, .int .i64 3, .int .u64 q.r, .int .u32 q.c, .int .u64 q.b, .int .u16 q.p, .int .u16 0, .int .i64 (told q.a), .int .i64 (told q.m), .int .i64 (told q.h), .int .i64 (told q.d)] 30 (0, 0)) := hq
       have hA_z3 : z3.heap[A0]? = some (.cells #[.int .i64 q.kd, .bool q.ch, .bool q.ak, .bool q.pr, .bool q.ag, .bool q.ln, .bool q.fw, .int .i64 q.ro, .int .u64 q.r, .int .u32 q.c, .int .u64 q.b, .int .u16 q.p, .int .u16 q.x, .int .i64 q.a, .int .i64 q.m, .int .i64 q.h, .int .i64 q.d] 30 (0, 0)) := (hm.heap (heap_lt hA_z2) (show ¬ A0 = P0 by omega)).trans hA_z2
       have E_z3 : Ext w0 z3 := Ext.mutE E_z2 hm (fun n hn h => by have h2 : n = P0 := h; omega)
       clear hA_z2 hP_z2 E_z2 rA0_z2
       clear hq hm))
  refine beginL (S := fun W' => Ext z3 W') (by kernel_rfl) ?_
  intro wd hqx
  have hq0 : Ext z3 wd := hqx
  refine takeL (i := 0) (v := (.pointer (some ⟨P0, 1, none⟩))) rfl (by kernel_rfl) (by kernel_rfl) (by kernel_rfl) (fun _ _ _ h => h) (Or.inl ⟨rfl, fun _ _ => rfl⟩) hq0 ?_
  simp only [Act.put, List.setIfInBounds_toArray, List.set_cons_zero, List.set_cons_succ]
  refine takeL (i := 1) (v := _) rfl (by kernel_rfl) (by kernel_rfl) (by kernel_rfl) (fun _ _ _ h => h) (yieldsIf_cell rfl 4 _ rfl ⟨P0, 1, none⟩ rfl (.bool q.ch) _ (fun W' hW' => (cell_of_row _ _ _ _ _ _ ((hW'.block _ (heap_lt hP_z3)).trans hP_z3)).trans rfl) Try.underlying4 rfl) hq0 ?_
  simp only [Act.put, List.setIfInBounds_toArray, List.set_cons_zero, List.set_cons_succ]
  refine takeL (i := 3) (v := (.pointer (some ⟨P0, 2, none⟩))) rfl (by kernel_rfl) (by kernel_rfl) (by kernel_rfl) (fun _ _ _ h => h) (Or.inl ⟨rfl, fun _ _ => rfl⟩) hq0 ?_
  simp only [Act.put, List.setIfInBounds_toArray, List.set_cons_zero, List.set_cons_succ]
  refine takeL (i := 4) (v := _) rfl (by kernel_rfl) (by kernel_rfl) (by kernel_rfl) (fun _ _ _ h => h) (yieldsIf_cell rfl 4 _ rfl ⟨P0, 2, none⟩ rfl (.bool q.ak) _ (fun W' hW' => (cell_of_row _ _ _ _ _ _ ((hW'.block _ (heap_lt hP_z3)).trans hP_z3)).trans rfl) Try.underlying4 rfl) hq0 ?_
  simp only [Act.put, List.setIfInBounds_toArray, List.set_cons_zero, List.set_cons_succ]
  refine runL (i := 2) rfl rfl (by kernel_rfl) (fun K hK => ?_)
  go_simp
  refine (flag_e q.ch 1 _).mono ?_
  rintro e wc1 ⟨rfl, hx⟩
  have hq1 := hq0.trans hx
  refine hK.out _ _ hq1 (fun hHeld => ?_)
  try simp only [Act.put, List.setIfInBounds_toArray, List.set_cons_zero, List.set_cons_succ]
  clear hK K hHeld
  refine runL (i := 5) rfl rfl (by kernel_rfl) (fun K hK => ?_)
  go_simp
  refine (flag_e q.ak 128 _).mono ?_
  rintro e wc2 ⟨rfl, hx⟩
  have hq2 := hq1.trans hx
  refine hK.out _ _ hq2 (fun hHeld => ?_)
  try simp only [Act.put, List.setIfInBounds_toArray, List.set_cons_zero, List.set_cons_succ]
  clear hK K hHeld
  refine takeL (i := 6) (v := (.int .i64 (bitV q.ch 1 + bitV q.ak 128))) rfl (by kernel_rfl) (by kernel_rfl) (by kernel_rfl) (fun _ _ _ h => h) (Or.inl ⟨rfl, fun W' _ => by go_simp; exact w64i _ (by omega) (by omega)⟩) hq2 ?_
  simp only [Act.put, List.setIfInBounds_toArray, List.set_cons_zero, List.set_cons_succ]
  refine takeL (i := 7) (v := (.int .i64 (bitV q.ch 1 + bitV q.ak 128))) rfl (by kernel_rfl) (by kernel_rfl) (by kernel_rfl) (fun _ _ _ h => h) (Or.inl ⟨rfl, fun _ _ => rfl⟩) hq2 ?_
  simp only [Act.put, List.setIfInBounds_toArray, List.set_cons_zero, List.set_cons_succ]
  refine wpAnyH_done (by kernel_rfl) ?_ _
  generalize wc2 = z4 at *
  have hA_z4 : z4.heap[A0]? = some (.cells #[.int .i64 q.kd, .bool q.ch, .bool q.ak, .bool q.pr, .bool q.ag, .bool q.ln, .bool q.fw, .int .i64 q.ro, .int .u64 q.r, .int .u32 q.c, .int .u64 q.b, .int .u16 q.p, .int .u16 q.x, .int .i64 q.a, .int .i64 q.m, .int .i64 q.h, .int .i64 q.d] 30 (0, 0)) := (hq2.block _ (heap_lt hA_z3)).trans hA_z3
  have hP_z4 : z4.heap[P0]? = some (.cells #[.int .i64 2, .bool q.ch, .bool q.ak, .bool q.pr, .bool q.ag, .bool q.ln, .bool q.fw, .int .i64 3, .int .u64 q.r, .int .u32 q.c, .int .u64 q.b, .int .u16 q.p, .int .u16 0, .int .i64 (told q.a), .int .i64 (told q.m), .int .i64 (told q.h), .int .i64 (told q.d)] 30 (0, 0)) := (hq2.block _ (heap_lt hP_z3)).trans hP_z3
  have E_z4 : Ext w0 z4 := E_z3.trans hq2
  have rP0_z4 : z4.cell? ⟨P0, 0, none⟩ = some (.int .i64 2) := (cell_of_row _ _ _ _ _ _ hP_z4).trans rfl
  have rP8_z4 : z4.cell? ⟨P0, 8, none⟩ = some (.int .u64 q.r) := (cell_of_row _ _ _ _ _ _ hP_z4).trans rfl
  have rP9_z4 : z4.cell? ⟨P0, 9, none⟩ = some (.int .u32 q.c) := (cell_of_row _ _ _ _ _ _ hP_z4).trans rfl
  have rP10_z4 : z4.cell? ⟨P0, 10, none⟩ = some (.int .u64 q.b) := (cell_of_row _ _ _ _ _ _ hP_z4).trans rfl
  have rP11_z4 : z4.cell? ⟨P0, 11, none⟩ = some (.int .u16 q.p) := (cell_of_row _ _ _ _ _ _ hP_z4).trans rfl
  have rA13_z4 : z4.cell? ⟨A0, 13, none⟩ = some (.int .i64 q.a) := (cell_of_row _ _ _ _ _ _ hA_z4).trans rfl
  have rA14_z4 : z4.cell? ⟨A0, 14, none⟩ = some (.int .i64 q.m) := (cell_of_row _ _ _ _ _ _ hA_z4).trans rfl
  have rA15_z4 : z4.cell? ⟨A0, 15, none⟩ = some (.int .i64 q.h) := (cell_of_row _ _ _ _ _ _ hA_z4).trans rfl
  have rA16_z4 : z4.cell? ⟨A0, 16, none⟩ = some (.int .i64 q.d) := (cell_of_row _ _ _ _ _ _ hA_z4).trans rfl
  clear hA_z3 hP_z3 E_z3
  clear hq0 hq1 hq2
  have hltP := heap_lt hP_z4
  have hltA := heap_lt hA_z4
  have HEW := Lib.hid E_z4
  have hPk := hP_z4
  have hAk := hA_z4
  go_wp2_with fail
  have hE_h : Ext z4 ((z4.alloc (.cells #[.int .u8 0, .int .u8 0, .int .u8 0, .int .u8 0] 5)).alloc (.cells #[.int .u8 0, .int .u8 0, .int .u8 2, .int .u8 2] 5)) := ((Ext.refl z4).alloc _).alloc _
  have hO_h : ((z4.alloc (.cells #[.int .u8 0, .int .u8 0, .int .u8 0, .int .u8 0] 5)).alloc (.cells #[.int .u8 0, .int .u8 0, .int .u8 2, .int .u8 2] 5)).ownsRow z4.heap.size 5 1 (.slice (some ⟨z4.heap.size + 1, 0, none⟩) 4 4) ([0, 0, 2, 2]).length (([0, 0, 2, 2]).map (Value.int .u8)) := by
    have h := four_own (z4.alloc (.cells #[.int .u8 0, .int .u8 0, .int .u8 0, .int .u8 0] 5)) 0 0 2 2
    rw [size_al] at h
    exact owns_base h (by omega)
  obtain ⟨gh, hgh⟩ : ∃ n, z4.heap.size + 1 = n := ⟨_, rfl⟩
  rw [hgh] at hO_h ⊢
  generalize (z4.alloc (.cells #[.int .u8 0, .int .u8 0, .int .u8 0, .int .u8 0] 5)).alloc (.cells #[.int .u8 0, .int .u8 0, .int .u8 2, .int .u8 2] 5) = wh at *
  have hA_wh : wh.heap[A0]? = some (.cells #[.int .i64 q.kd, .bool q.ch, .bool q.ak, .bool q.pr, .bool q.ag, .bool q.ln, .bool q.fw, .int .i64 q.ro, .int .u64 q.r, .int .u32 q.c, .int .u64 q.b, .int .u16 q.p, .int .u16 q.x, .int .i64 q.a, .int .i64 q.m, .int .i64 q.h, .int .i64 q.d] 30 (0, 0)) := (hE_h.block _ (heap_lt hA_z4)).trans hA_z4
  have hP_wh : wh.heap[P0]? = some (.cells #[.int .i64 2, .bool q.ch, .bool q.ak, .bool q.pr, .bool q.ag, .bool q.ln, .bool q.fw, .int .i64 3, .int .u64 q.r, .int .u32 q.c, .int .u64 q.b, .int .u16 q.p, .int .u16 0, .int .i64 (told q.a), .int .i64 (told q.m), .int .i64 (told q.h), .int .i64 (told q.d)] 30 (0, 0)) := (hE_h.block _ (heap_lt hP_z4)).trans hP_z4
  have E_wh := E_z4.trans hE_h
  have ex_wh := hE_h
  have ow_wh := hO_h
  clear hE_h hO_h
  refine beginL (S := fun W' => Ext wh W') (by kernel_rfl) ?_
  intro wd hqx
  have hq0 : Ext wh wd := hqx
  refine takeL (i := 0) (v := (.int .i64 (bitV q.ch 1 + bitV q.ak 128))) rfl (by kernel_rfl) (by kernel_rfl) (by kernel_rfl) (fun _ _ _ h => h) (Or.inl ⟨rfl, fun _ _ => rfl⟩) hq0 ?_
  simp only [Act.put, List.setIfInBounds_toArray, List.set_cons_zero, List.set_cons_succ]
  refine takeL (i := 1) (v := (.pointer (some ⟨P0, 3, none⟩))) rfl (by kernel_rfl) (by kernel_rfl) (by kernel_rfl) (fun _ _ _ h => h) (Or.inl ⟨rfl, fun _ _ => rfl⟩) hq0 ?_
  simp only [Act.put, List.setIfInBounds_toArray, List.set_cons_zero, List.set_cons_succ]
  refine takeL (i := 2) (v := _) rfl (by kernel_rfl) (by kernel_rfl) (by kernel_rfl) (fun _ _ _ h => h) (yieldsIf_cell rfl 4 _ rfl ⟨P0, 3, none⟩ rfl (.bool q.pr) _ (fun W' hW' => (cell_of_row _ _ _ _ _ _ ((hW'.block _ (heap_lt hP_wh)).trans hP_wh)).trans rfl) Try.underlying4 rfl) hq0 ?_
  simp only [Act.put, List.setIfInBounds_toArray, List.set_cons_zero, List.set_cons_succ]
  refine takeL (i := 5) (v := (.pointer (some ⟨P0, 5, none⟩))) rfl (by kernel_rfl) (by kernel_rfl) (by kernel_rfl) (fun _ _ _ h => h) (Or.inl ⟨rfl, fun _ _ => rfl⟩) hq0 ?_
  simp only [Act.put, List.setIfInBounds_toArray, List.set_cons_zero, List.set_cons_succ]
  refine takeL (i := 6) (v := _) rfl (by kernel_rfl) (by kernel_rfl) (by kernel_rfl) (fun _ _ _ h => h) (yieldsIf_cell rfl 4 _ rfl ⟨P0, 5, none⟩ rfl (.bool q.ln) _ (fun W' hW' => (cell_of_row _ _ _ _ _ _ ((hW'.block _ (heap_lt hP_wh)).trans hP_wh)).trans rfl) Try.underlying4 rfl) hq0 ?_
  simp only [Act.put, List.setIfInBounds_toArray, List.set_cons_zero, List.set_cons_succ]
  refine takeL (i := 9) (v := (.pointer (some ⟨P0, 6, none⟩))) rfl (by kernel_rfl) (by kernel_rfl) (by kernel_rfl) (fun _ _ _ h => h) (Or.inl ⟨rfl, fun _ _ => rfl⟩) hq0 ?_
  simp only [Act.put, List.setIfInBounds_toArray, List.set_cons_zero, List.set_cons_succ]
  refine takeL (i := 10) (v := _) rfl (by kernel_rfl) (by kernel_rfl) (by kernel_rfl) (fun _ _ _ h => h) (yieldsIf_cell rfl 4 _ rfl ⟨P0, 6, none⟩ rfl (.bool q.fw) _ (fun W' hW' => (cell_of_row _ _ _ _ _ _ ((hW'.block _ (heap_lt hP_wh)).trans hP_wh)).trans rfl) Try.underlying4 rfl) hq0 ?_
  simp only [Act.put, List.setIfInBounds_toArray, List.set_cons_zero, List.set_cons_succ]
  refine takeL (i := 13) (v := (.pointer (some ⟨P0, 4, none⟩))) rfl (by kernel_rfl) (by kernel_rfl) (by kernel_rfl) (fun _ _ _ h => h) (Or.inl ⟨rfl, fun _ _ => rfl⟩) hq0 ?_
  simp only [Act.put, List.setIfInBounds_toArray, List.set_cons_zero, List.set_cons_succ]
  refine takeL (i := 14) (v := _) rfl (by kernel_rfl) (by kernel_rfl) (by kernel_rfl) (fun _ _ _ h => h) (yieldsIf_cell rfl 4 _ rfl ⟨P0, 4, none⟩ rfl (.bool q.ag) _ (fun W' hW' => (cell_of_row _ _ _ _ _ _ ((hW'.block _ (heap_lt hP_wh)).trans hP_wh)).trans rfl) Try.underlying4 rfl) hq0 ?_
  simp only [Act.put, List.setIfInBounds_toArray, List.set_cons_zero, List.set_cons_succ]
  refine runL (i := 3) rfl rfl (by kernel_rfl) (fun K hK => ?_)
  go_simp
  refine (flag_e q.pr 2 _).mono ?_
  rintro e wc1 ⟨rfl, hx⟩
  have hq1 := hq0.trans hx
  refine hK.out _ _ hq1 (fun hHeld => ?_)
  try simp only [Act.put, List.setIfInBounds_toArray, List.set_cons_zero, List.set_cons_succ]
  clear hK K hHeld
  refine takeL (i := 4) (v := (.int .i64 ((bitV q.ch 1 + bitV q.ak 128) + bitV q.pr 2))) rfl (by kernel_rfl) (by kernel_rfl) (by kernel_rfl) (fun _ _ _ h => h) (Or.inl ⟨rfl, fun W' _ => by go_simp; exact w64i _ (by omega) (by omega)⟩) hq1 ?_
  simp only [Act.put, List.setIfInBounds_toArray, List.set_cons_zero, List.set_cons_succ]
  refine runL (i := 7) rfl rfl (by kernel_rfl) (fun K hK => ?_)
  go_simp
  refine (flag_e q.ln 16 _).mono ?_
  rintro e wc2 ⟨rfl, hx⟩
  have hq2 := hq1.trans hx
  refine hK.out _ _ hq2 (fun hHeld => ?_)
  try simp only [Act.put, List.setIfInBounds_toArray, List.set_cons_zero, List.set_cons_succ]
  clear hK K hHeld
  refine takeL (i := 8) (v := (.int .i64 (((bitV q.ch 1 + bitV q.ak 128) + bitV q.pr 2) + bitV q.ln 16))) rfl (by kernel_rfl) (by kernel_rfl) (by kernel_rfl) (fun _ _ _ h => h) (Or.inl ⟨rfl, fun W' _ => by go_simp; exact w64i _ (by omega) (by omega)⟩) hq2 ?_
  simp only [Act.put, List.setIfInBounds_toArray, List.set_cons_zero, List.set_cons_succ]
  refine runL (i := 11) rfl rfl (by kernel_rfl) (fun K hK => ?_)
  go_simp
  refine (flag_e q.fw 32 _).mono ?_
  rintro e wc3 ⟨rfl, hx⟩
  have hq3 := hq2.trans hx
  refine hK.out _ _ hq3 (fun hHeld => ?_)
  try simp only [Act.put, List.setIfInBounds_toArray, List.set_cons_zero, List.set_cons_succ]
  clear hK K hHeld
  refine takeL (i := 12) (v := (.int .i64 ((((bitV q.ch 1 + bitV q.ak 128) + bitV q.pr 2) + bitV q.ln 16) + bitV q.fw 32))) rfl (by kernel_rfl) (by kernel_rfl) (by kernel_rfl) (fun _ _ _ h => h) (Or.inl ⟨rfl, fun W' _ => by go_simp; exact w64i _ (by omega) (by omega)⟩) hq3 ?_
  simp only [Act.put, List.setIfInBounds_toArray, List.set_cons_zero, List.set_cons_succ]
  refine runL (i := 15) rfl rfl (by kernel_rfl) (fun K hK => ?_)
  go_simp
  refine (flag_e q.ag 64 _).mono ?_
  rintro e wc4 ⟨rfl, hx⟩
  have hq4 := hq3.trans hx
  refine hK.out _ _ hq4 (fun hHeld => ?_)
  try simp only [Act.put, List.setIfInBounds_toArray, List.set_cons_zero, List.set_cons_succ]
  clear hK K hHeld
  refine takeL (i := 16) (v := (.int .i64 (((((bitV q.ch 1 + bitV q.ak 128) + bitV q.pr 2) + bitV q.ln 16) + bitV q.fw 32) + bitV q.ag 64))) rfl (by kernel_rfl) (by kernel_rfl) (by kernel_rfl) (fun _ _ _ h => h) (Or.inl ⟨rfl, fun W' _ => by go_simp; exact w64i _ (by omega) (by omega)⟩) hq4 ?_
  simp only [Act.put, List.setIfInBounds_toArray, List.set_cons_zero, List.set_cons_succ]
  refine takeL (i := 17) (v := (.int .i64 (((((bitV q.ch 1 + bitV q.ak 128) + bitV q.pr 2) + bitV q.ln 16) + bitV q.fw 32) + bitV q.ag 64))) rfl (by kernel_rfl) (by kernel_rfl) (by kernel_rfl) (fun _ _ _ h => h) (Or.inl ⟨rfl, fun _ _ => rfl⟩) hq4 ?_
  simp only [Act.put, List.setIfInBounds_toArray, List.set_cons_zero, List.set_cons_succ]
  refine wpAnyH_done (by kernel_rfl) ?_ _
  generalize wc4 = z5 at *
  have hA_z5 : z5.heap[A0]? = some (.cells #[.int .i64 q.kd, .bool q.ch, .bool q.ak, .bool q.pr, .bool q.ag, .bool q.ln, .bool q.fw, .int .i64 q.ro, .int .u64 q.r, .int .u32 q.c, .int .u64 q.b, .int .u16 q.p, .int .u16 q.x, .int .i64 q.a, .int .i64 q.m, .int .i64 q.h, .int .i64 q.d] 30 (0, 0)) := (hq4.block _ (heap_lt hA_wh)).trans hA_wh
  have hP_z5 : z5.heap[P0]? = some (.cells #[.int .i64 2, .bool q.ch, .bool q.ak, .bool q.pr, .bool q.ag, .bool q.ln, .bool q.fw, .int .i64 3, .int .u64 q.r, .int .u32 q.c, .int .u64 q.b, .int .u16 q.p, .int .u16 0, .int .i64 (told q.a), .int .i64 (told q.m), .int .i64 (told q.h), .int .i64 (told q.d)] 30 (0, 0)) := (hq4.block _ (heap_lt hP_wh)).trans hP_wh
  have E_z5 : Ext w0 z5 := E_wh.trans hq4
  have ex_z5 : Ext z4 z5 := ex_wh.trans hq4
  have ow_z5 : z5.ownsRow z4.heap.size 5 1 (.slice (some ⟨gh, 0, none⟩) 4 4) ([0, 0, 2, 2]).length (([0, 0, 2, 2]).map (Value.int .u8)) := owns_ext ow_wh hq4
  have rP0_z5 : z5.cell? ⟨P0, 0, none⟩ = some (.int .i64 2) := (cell_of_row _ _ _ _ _ _ hP_z5).trans rfl
  have rP7_z5 : z5.cell? ⟨P0, 7, none⟩ = some (.int .i64 3) := (cell_of_row _ _ _ _ _ _ hP_z5).trans rfl
  have rP8_z5 : z5.cell? ⟨P0, 8, none⟩ = some (.int .u64 q.r) := (cell_of_row _ _ _ _ _ _ hP_z5).trans rfl
  have rP9_z5 : z5.cell? ⟨P0, 9, none⟩ = some (.int .u32 q.c) := (cell_of_row _ _ _ _ _ _ hP_z5).trans rfl
  have rP10_z5 : z5.cell? ⟨P0, 10, none⟩ = some (.int .u64 q.b) := (cell_of_row _ _ _ _ _ _ hP_z5).trans rfl
  have rP11_z5 : z5.cell? ⟨P0, 11, none⟩ = some (.int .u16 q.p) := (cell_of_row _ _ _ _ _ _ hP_z5).trans rfl
  have rA13_z5 : z5.cell? ⟨A0, 13, none⟩ = some (.int .i64 q.a) := (cell_of_row _ _ _ _ _ _ hA_z5).trans rfl
  have rA14_z5 : z5.cell? ⟨A0, 14, none⟩ = some (.int .i64 q.m) := (cell_of_row _ _ _ _ _ _ hA_z5).trans rfl
  have rA15_z5 : z5.cell? ⟨A0, 15, none⟩ = some (.int .i64 q.h) := (cell_of_row _ _ _ _ _ _ hA_z5).trans rfl
  have rA16_z5 : z5.cell? ⟨A0, 16, none⟩ = some (.int .i64 q.d) := (cell_of_row _ _ _ _ _ _ hA_z5).trans rfl
  clear hA_wh hP_wh ex_wh ow_wh E_wh
  clear hq0 hq1 hq2 hq3 hq4
  go_wp2_with (first
    | fail
    | (at_builtin; refine wpList_app rfl _ _ rfl z4 (ex_z5.trans ((Ext.refl z5).alloc _)) _ _ ([0, 0, 2, 2]) ([flagsN q]) rfl rfl (ow_z5.alloc _) (isBytes_alloc z5 [flagsN q] 1 5 (show 0 < 1 by decide) (Nat.le_refl _) (by decide)) (show 4 + 1 ≤ 100000 by decide) ?_
       intro va1 a1 hown_a1 hE_a1 hg_a1
       have hO_a1 : a1.ownsRow z4.heap.size 5 1 va1 (e1 q).length ((e1 q).map (Value.int .u8)) := by rw [hek]; exact hown_a1
       clear hown_a1 hg_a1
       have cP8_a1 : a1.cell? ⟨P0, 8, none⟩ = some (.int .u64 q.r) := (cell_of_row _ _ _ _ _ _ ((hE_a1.block _ hltP).trans hPk)).trans rfl))
  refine (refput_i (q.r) 8 _ HQ.out.r (by decide) (by decide)).mono ?_
  rintro e p2 ⟨vp0, rfl, hown_p, hx0⟩
  have hi_p2 := isBytes_own hown_p
  have hE_p2 := hE_a1.trans hx0
  have hO_p2 := owns_ext hO_a1 hx0
  clear hown_p hx0 hO_a1 hE_a1
  go_wp2_with (first
    | fail
    | (at_builtin; refine wpList_app rfl _ _ rfl z4 hE_p2 _ _ (e1 q) (bts (q.r).toNat 8) rfl rfl hO_p2 hi_p2 (by rw [hl1, bts_len]; omega) ?_
       intro va2 a2 hown_a2 hE_a2 hg_a2
       have hO_a2 : a2.ownsRow z4.heap.size 5 1 va2 (e2 q).length ((e2 q).map (Value.int .u8)) := by exact hown_a2
       clear hown_a2 hg_a2
       have cP9_a2 : a2.cell? ⟨P0, 9, none⟩ = some (.int .u32 q.c) := (cell_of_row _ _ _ _ _ _ ((hE_a2.block _ hltP).trans hPk)).trans rfl))
  clear hi_p2 hE_p2 hO_p2
  refine (refput_i (q.c) 4 _ ⟨HQ.out.c.1, by have := HQ.out.c.2; omega⟩ (by decide) (by decide)).mono ?_
  rintro e p3 ⟨vp1, rfl, hown_p, hx1⟩
  have hi_p3 := isBytes_own hown_p
  have hE_p3 := hE_a2.trans hx1
  have hO_p3 := owns_ext hO_a2 hx1
  clear hown_p hx1 hO_a2 hE_a2
  go_wp2_with (first
    | fail
    | (at_builtin; refine wpList_app rfl _ _ rfl z4 hE_p3 _ _ (e2 q) (bts (q.c).toNat 4) rfl rfl hO_p3 hi_p3 (by rw [hl2, bts_len]; omega) ?_
       intro va3 a3 hown_a3 hE_a3 hg_a3
       have hO_a3 : a3.ownsRow z4.heap.size 5 1 va3 (e3 q).length ((e3 q).map (Value.int .u8)) := by exact hown_a3
       clear hown_a3 hg_a3
       have cP10_a3 : a3.cell? ⟨P0, 10, none⟩ = some (.int .u64 q.b) := (cell_of_row _ _ _ _ _ _ ((hE_a3.block _ hltP).trans hPk)).trans rfl))
  clear hi_p3 hE_p3 hO_p3
  refine (refput_i (q.b) 8 _ HQ.out.b (by decide) (by decide)).mono ?_
  rintro e p4 ⟨vp2, rfl, hown_p, hx2⟩
  have hi_p4 := isBytes_own hown_p
  have hE_p4 := hE_a3.trans hx2
  have hO_p4 := owns_ext hO_a3 hx2
  clear hown_p hx2 hO_a3 hE_a3
  go_wp2_with (first
    | fail
    | (at_builtin; refine wpList_app rfl _ _ rfl z4 hE_p4 _ _ (e3 q) (bts (q.b).toNat 8) rfl rfl hO_p4 hi_p4 (by rw [hl3, bts_len]; omega) ?_
       intro va4 a4 hown_a4 hE_a4 hg_a4
       have hO_a4 : a4.ownsRow z4.heap.size 5 1 va4 (e4 q).length ((e4 q).map (Value.int .u8)) := by exact hown_a4
       clear hown_a4 hg_a4
       have cP11_a4 : a4.cell? ⟨P0, 11, none⟩ = some (.int .u16 q.p) := (cell_of_row _ _ _ _ _ _ ((hE_a4.block _ hltP).trans hPk)).trans rfl))
  clear hi_p4 hE_p4 hO_p4
  refine (refput_i (q.p) 2 _ ⟨HQ.out.p.1, by have := HQ.out.p.2; omega⟩ (by decide) (by decide)).mono ?_
  rintro e p5 ⟨vp3, rfl, hown_p, hx3⟩
  have hi_p5 := isBytes_own hown_p
  have hE_p5 := hE_a4.trans hx3
  have hO_p5 := owns_ext hO_a4 hx3
  clear hown_p hx3 hO_a4 hE_a4
  go_wp2_with (first
    | fail
    | (at_builtin; refine wpList_app rfl _ _ rfl z4 hE_p5 _ _ (e4 q) (bts (q.p).toNat 2) rfl rfl hO_p5 hi_p5 (by rw [hl4, bts_len]; omega) ?_
       intro va5 a5 hown_a5 hE_a5 hg_a5
       have hO_a5 : a5.ownsRow z4.heap.size 5 1 va5 (e5 q).length ((e5 q).map (Value.int .u8)) := by exact hown_a5
       clear hown_a5 hg_a5
       have cA13_a5 : a5.cell? ⟨A0, 13, none⟩ = some (.int .i64 q.a) := (cell_of_row _ _ _ _ _ _ ((hE_a5.block _ hltA).trans hAk)).trans rfl
       have cA14_a5 : a5.cell? ⟨A0, 14, none⟩ = some (.int .i64 q.m) := (cell_of_row _ _ _ _ _ _ ((hE_a5.block _ hltA).trans hAk)).trans rfl
       have cA15_a5 : a5.cell? ⟨A0, 15, none⟩ = some (.int .i64 q.h) := (cell_of_row _ _ _ _ _ _ ((hE_a5.block _ hltA).trans hAk)).trans rfl
       have cA16_a5 : a5.cell? ⟨A0, 16, none⟩ = some (.int .i64 q.d) := (cell_of_row _ _ _ _ _ _ ((hE_a5.block _ hltA).trans hAk)).trans rfl))
  have hTB : (a5.alloc (.cells #[.int .i64 q.a, .int .i64 q.m, .int .i64 q.h, .int .i64 q.d] 3)).heap[a5.heap.size]? = some (.cells #[.int .i64 q.a, .int .i64 q.m, .int .i64 q.h, .int .i64 q.d] 3 (0, 0)) := heap_alloc_new _ _
  have hE_b := hE_a5.trans ((Ext.refl a5).alloc (.cells #[.int .i64 q.a, .int .i64 q.m, .int .i64 q.h, .int .i64 q.d] 3))
  have hO_b := hO_a5.alloc (.cells #[.int .i64 q.a, .int .i64 q.m, .int .i64 q.h, .int .i64 q.d] 3)
  generalize a5.alloc (.cells #[.int .i64 q.a, .int .i64 q.m, .int .i64 q.h, .int .i64 q.d] 3) = b0 at *
  obtain ⟨T0, hT0⟩ : ∃ n, a5.heap.size = n := ⟨_, rfl⟩
  rw [hT0] at hTB ⊢
  clear hT0 hO_a5 hE_a5 cA13_a5 cA14_a5 cA15_a5 cA16_a5 hi_p5 hE_p5 hO_p5
  go_loopw [5, 7] (fun v i wr => ∃ n : Nat, n ≤ 4 ∧ i = .int .i64 n ∧ wr.ownsRow z4.heap.size 5 1 v (e6 q n).length ((e6 q n).map (Value.int .u8)) ∧ wr.heap[T0]? = some (.cells #[.int .i64 q.a, .int .i64 q.m, .int .i64 q.h, .int .i64 q.d] 3 (0, 0)) ∧ Ext z4 wr) (fun _ i _ => 4 - (intOf i).toNat)
  case atStart => exact ⟨0, by omega, rfl, hO_b, hTB, hE_b⟩
  case round =>
    clear hO_b hTB hE_b
    obtain ⟨n, hn, rfl, hO, hTB, hE⟩ := hrel
    by_cases hlt : n < 4
    · have cn : wr.cell? ⟨T0, n, none⟩ = some (.int .i64 (tm q n)) := (cell_of_row _ _ _ _ _ _ hTB).trans (by
        match n, hlt with
        | 0, _ => rfl
        | 1, _ => rfl
        | 2, _ => rfl
        | 3, _ => rfl)
      have hv := toV_rg (tm q n)
      have htw : IntKind.u64.wrap (toV (tm q n)) = toV (tm q n) := by rw [IntKind.wrap_u64]; omega
      go_wp2_with fail
      refine (ref_to (tm q n) wr).mono ?_
      rintro e _ ⟨rfl, rfl⟩
      go_wp2_with fail
      refine (refput_i (toV (tm q n)) 2 _ ⟨hv.1, by omega⟩ (by decide) (by decide)).mono ?_
      rintro e p ⟨gp, rfl, hown_p, hxp⟩
      have hip := isBytes_own hown_p
      have hop := owns_ext hO hxp
      have hEp := hE.trans hxp
      have hTp := (hxp.block _ (heap_lt hTB)).trans hTB
      clear hO hE hxp cn hTB hown_p
      go_wp2_with (first
        | fail
        | (at_builtin; refine wpList_app rfl _ _ rfl z4 hEp _ _ (e6 q n) (bts (toV (tm q n)).toNat 2) rfl rfl hop hip (by rw [hl6, bts_len]; omega) ?_
           intro vq wq hown_wq hE_wq hg_wq
           have hTq := far_keep hop hTp (by decide) hg_wq
           clear hop hTp hip hEp hg_wq))
      go_roundw
      case rel => exact ⟨n + 1, by omega, by go_num, hown_wq, hTq, hE_wq⟩
      case measure => simp [intOf]; omega
    · obtain rfl : n = 4 := by omega
      have cP0_wr : wr.cell? ⟨P0, 0, none⟩ = some (.int .i64 2) := (cell_of_row _ _ _ _ _ _ ((hE.block _ hltP).trans hPk)).trans rfl
      have hone : IsInts (wr.alloc (.cells #[.int .u8 0] 5)) .u8 (.slice (some ⟨wr.heap.size, 0, none⟩) 1 1) [0] := isBytes_alloc wr [0] 1 5 (by decide) (Nat.le_refl _) (by decide)
      go_wp2_with (first
        | fail
        | (at_builtin; refine wpList_app rfl _ _ rfl z4 (hE.trans ((Ext.refl wr).alloc _)) _ _ (e6 q 4) ([0]) rfl rfl (hO.alloc _) hone (by rw [hl6]; decide) ?_
           intro vq wq hown_wq hE_wq hg_wq
           have hz1 := hown_wq
           have hz2 := hE_wq
           clear hown_wq hE_wq hg_wq))
      go_ret
      refine ⟨_, rfl, ?_, hE_w0.trans (HEW.out.trans hz2)⟩
      have e : encL q = e6 q 4 ++ [0] := by have := HK.out; unfold encL; rw [if_neg (by omega), if_pos this]
      rw [e]
      exact owns_base hz1 (hE_w0.trans HEW.out).size
set_option maxRecDepth 100000 in
set_option maxHeartbeats 2000000 in
theorem ed_r3 (q : Mg) (hq : q.ok) (hk : q.kd = 2) (hr : roN q.ro = 3) (w : World) : Calls Try.prog 18 #[.agg #[.int .i64 q.kd, .bool q.ch, .bool q.ak, .bool q.pr, .bool q.ag, .bool q.ln, .bool q.fw, .int .i64 q.ro, .int .u64 q.r, .int .u32 q.c, .int .u64 q.b, .int .u16 q.p, .int .u16 q.x, .int .i64 q.a, .int .i64 q.m, .int .i64 q.h, .int .i64 q.d]] w (Owned w (encL q)) := by
  have hz := zero_msg
  have hfl := flagsN_rg q
  have gch := bitV_rg q.ch 1 (by decide)
  have gak := bitV_rg q.ak 128 (by decide)
  have gpr := bitV_rg q.pr 2 (by decide)
  have gln := bitV_rg q.ln 16 (by decide)
  have gfw := bitV_rg q.fw 32 (by decide)
  have gag := bitV_rg q.ag 64 (by decide)
  have b0 : decide (q.kd < 0) = false := by simp; omega
  have b2 : decide (2 < q.kd) = false := by simp; omega
  have k1 : (q.kd == 1) = false := by simp; omega
  have hpl : plainM q = (⟨2, q.ch, q.ak, q.pr, q.ag, q.ln, q.fw, 4, q.r, q.c, q.b, q.p, 0, (told q.a), (told q.m), (told q.h), (told q.d)⟩ : Mg) := by
    unfold plainM
    rw [if_neg (by omega), if_pos (.inr hk), flagged_flags, if_pos hk, hr, hk]
    rfl
  have HPL := Lib.hid (show ∀ w : World, Calls Try.prog 20 #[.agg #[.int .i64 q.kd, .bool q.ch, .bool q.ak, .bool q.pr, .bool q.ag, .bool q.ln, .bool q.fw, .int .i64 q.ro, .int .u64 q.r, .int .u32 q.c, .int .u64 q.b, .int .u16 q.p, .int .u16 q.x, .int .i64 q.a, .int .i64 q.m, .int .i64 q.h, .int .i64 q.d]] w fun e w' => e = .returned (.agg #[.int .i64 2, .bool q.ch, .bool q.ak, .bool q.pr, .bool q.ag, .bool q.ln, .bool q.fw, .int .i64 4, .int .u64 q.r, .int .u32 q.c, .int .u64 q.b, .int .u16 q.p, .int .u16 0, .int .i64 (told q.a), .int .i64 (told q.m), .int .i64 (told q.h), .int .i64 (told q.d)]) ∧ Ext w w' from fun w => by
    have := plaind_any q hq w
    rw [hpl] at this
    exact this)
  clear hpl
  have hsum : bitV q.ch 1 + bitV q.ak 128 + bitV q.pr 2 + bitV q.ln 16 + bitV q.fw 32 + bitV q.ag 64 + 12 = flagsN q := by unfold flagsN; rw [if_pos hk, fl6_sum, hr]; omega
  have hb1 := bts1 (flagsN q) hfl.1 hfl.2
  have hek : e1 q = [0, 0, 2, 2] ++ [flagsN q] := by unfold e1 headL; rw [hb1, if_neg (by omega), if_neg (by omega), if_pos hk]
  have hl1 : (e1 q).length = 5 := by rw [hek]; rfl
  have hl2 : (e2 q).length = 13 := by simp [e2, hl1, bts_len]
  have hl3 : (e3 q).length = 17 := by simp [e3, hl2, bts_len]
  have hl4 : (e4 q).length = 25 := by simp [e4, hl3, bts_len]
  have hl6 : ∀ n, (e6 q n).length = 27 + 2 * n := fun n => by
    induction n with
    | zero => exact (e6_len q (by omega)).1
    | succ n ih => show (e6 q n ++ _).length = _; rw [List.length_append, ih, bts_len]; omega
  have hcw : IntKind.u64.wrap q.c = q.c := by have := hq.c; rw [IntKind.wrap_u64]; omega
  have hpw : IntKind.u64.wrap q.p = q.p := by have := hq.p; rw [IntKind.wrap_u64]; omega
  have HQ := Lib.hid hq
  have HK := Lib.hid hk
  clear hq hk hr
  go_enter Try.func18, Try.ntmps18
  go_wp2_with fail
  have hA_w0 : (w.alloc (.cells #[.int .i64 q.kd, .bool q.ch, .bool q.ak, .bool q.pr, .bool q.ag, .bool q.ln, .bool q.fw, .int .i64 q.ro, .int .u64 q.r, .int .u32 q.c, .int .u64 q.b, .int .u16 q.p, .int .u16 q.x, .int .i64 q.a, .int .i64 q.m, .int .i64 q.h, .int .i64 q.d] 30)).heap[w.heap.size]? = some (.cells #[.int .i64 q.kd, .bool q.ch, .bool q.ak, .bool q.pr, .bool q.ag, .bool q.ln, .bool q.fw, .int .i64 q.ro, .int .u64 q.r, .int .u32 q.c, .int .u64 q.b, .int .u16 q.p, .int .u16 q.x, .int .i64 q.a, .int .i64 q.m, .int .i64 q.h, .int .i64 q.d] 30 (0, 0)) := heap_alloc_new _ _
  have hE_w0 : Ext w (w.alloc (.cells #[.int .i64 q.kd, .bool q.ch, .bool q.ak, .bool q.pr, .bool q.ag, .bool q.ln, .bool q.fw, .int .i64 q.ro, .int .u64 q.r, .int .u32 q.c, .int .u64 q.b, .int .u16 q.p, .int .u16 q.x, .int .i64 q.a, .int .i64 q.m, .int .i64 q.h, .int .i64 q.d] 30)) := (Ext.refl _).alloc _
  generalize w.alloc (.cells #[.int .i64 q.kd, .bool q.ch, .bool q.ak, .bool q.pr, .bool q.ag, .bool q.ln, .bool q.fw, .int .i64 q.ro, .int .u64 q.r, .int .u32 q.c, .int .u64 q.b, .int .u16 q.p, .int .u16 q.x, .int .i64 q.a, .int .i64 q.m, .int .i64 q.h, .int .i64 q.d] 30) = w0 at *
  obtain ⟨A0, hA0⟩ : ∃ n, w.heap.size = n := ⟨_, rfl⟩
  rw [hA0] at hA_w0 ⊢
  have rA0_w0 : w0.cell? ⟨A0, 0, none⟩ = some (.int .i64 q.kd) := (cell_of_row _ _ _ _ _ _ hA_w0).trans rfl
  go_wp2_with (first
    | fail
    | ((with_reducible refine at_load 30 ?_); refine wpList_load_row rfl 30 _ rfl A0 rfl 30 #[.int .i64 q.kd, .bool q.ch, .bool q.ak, .bool q.pr, .bool q.ag, .bool q.ln, .bool q.fw, .int .i64 q.ro, .int .u64 q.r, .int .u32 q.c, .int .u64 q.b, .int .u16 q.p, .int .u16 q.x, .int .i64 q.a, .int .i64 q.m, .int .i64 q.h, .int .i64 q.d] (0, 0) _ hA_w0 Try.underlying30 rfl (by kernel_rfl) ?_))
  refine (HPL.out _).mono ?_
  rintro e z1 ⟨rfl, hx⟩
  have E_z1 : Ext w0 z1 := hx
  have hA_z1 : z1.heap[A0]? = some (.cells #[.int .i64 q.kd, .bool q.ch, .bool q.ak, .bool q.pr, .bool q.ag, .bool q.ln, .bool q.fw, .int .i64 q.ro, .int .u64 q.r, .int .u32 q.c, .int .u64 q.b, .int .u16 q.p, .int .u16 q.x, .int .i64 q.a, .int .i64 q.m, .int .i64 q.h, .int .i64 q.d] 30 (0, 0)) := (hx.block _ (heap_lt hA_w0)).trans hA_w0
  have rA0_z1 : z1.cell? ⟨A0, 0, none⟩ = some (.int .i64 q.kd) := (cell_of_row _ _ _ _ _ _ hA_z1).trans rfl
  clear hA_w0 rA0_w0
  clear hx
  go_wp2_with (first
    | fail
    | ((with_reducible refine at_alloc 30 ?_); refine al_zero rfl 30 rfl MZ zero_msg ?_
       intro P0 z2 hq hs hx
       have E_z2 : Ext w0 z2 := E_z1.trans hx
       have hA_z2 : z2.heap[A0]? = some (.cells #[.int .i64 q.kd, .bool q.ch, .bool q.ak, .bool q.pr, .bool q.ag, .bool q.ln, .bool q.fw, .int .i64 q.ro, .int .u64 q.r, .int .u32 q.c, .int .u64 q.b, .int .u16 q.p, .int .u16 q.x, .int .i64 q.a, .int .i64 q.m, .int .i64 q.h, .int .i64 q.d] 30 (0, 0)) := (hx.block _ (heap_lt hA_z1)).trans hA_z1
       have hP_z2 : z2.heap[P0]? = some (.cells #[.int .i64 0, .bool false, .bool false, .bool false, .bool false, .bool false, .bool false, .int .i64 0, .int .u64 0, .int .u32 0, .int .u64 0, .int .u16 0, .int .u16 0, .int .i64 0, .int .i64 0, .int .i64 0, .int .i64 0] 30 (0, 0)) := hq
       have hb_P0 : w0.heap.size ≤ P0 := by have := E_z1.size; omega
       have hn_A0P0 : A0 ≠ P0 := by have := heap_lt hA_z1; omega
       have rA0_z2 : z2.cell? ⟨A0, 0, none⟩ = some (.int .i64 q.kd) := (cell_of_row _ _ _ _ _ _ hA_z2).trans rfl
       clear hA_z1 E_z1 rA0_z1
       clear hq hs hx)
    | ((with_reducible refine at_store 30 ?_); refine st_at rfl rfl 30 _ _ rfl P0 0 _ #[.int .i64 2, .bool q.ch, .bool q.ak, .bool q.pr, .bool q.ag, .bool q.ln, .bool q.fw, .int .i64 4, .int .u64 q.r, .int .u32 q.c, .int .u64 q.b, .int .u16 q.p, .int .u16 0, .int .i64 (told q.a), .int .i64 (told q.m), .int .i64 (told q.h), .int .i64 (told q.d)] _ #[.int .i64 2, .bool q.ch, .bool q.ak, .bool q.pr, .bool q.ag, .bool q.ln, .bool q.fw, .int .i64 4, .int .u64 q.r, .int .u32 q.c, .int .u64 q.b, .int .u16 q.p, .int .u16 0, .int .i64 (told q.a), .int .i64 (told q.m), .int .i64 (told q.h), .int .i64 (told q.d)] _ rfl rfl rfl hP_z2 (by exact (by decide : 0 + 17 ≤ 17)) (by kernel_rfl) rfl rfl ?_
       intro z3 hq hm
       have hP_z3 : z3.heap[P0]? = some (.cells #[.int .i64 2, .bool q.ch, .bool q.ak, .bool q.pr, .bool q.ag, .bool q.ln, .bool q.fw, .int .i64 4, .int .u64 q.r, .int .u32 q.c, .int .u64 q.b, .int .u16 q.p, .int .u16 0, .int .i64 (told q.a), .int .i64 (told q.m), .int .i64 (told q.h), .int .i64 (told q.d)] 30 (0, 0)) := hq
       have hA_z3 : z3.heap[A0]? = some (.cells #[.int .i64 q.kd, .bool q.ch, .bool q.ak, .bool q.pr, .bool q.ag, .bool q.ln, .bool q.fw, .int .i64 q.ro, .int .u64 q.r, .int .u32 q.c, .int .u64 q.b, .int .u16 q.p, .int .u16 q.x, .int .i64 q.a, .int .i64 q.m, .int .i64 q.h, .int .i64 q.d] 30 (0, 0)) := (hm.heap (heap_lt hA_z2) (show ¬ A0 = P0 by omega)).trans hA_z2
       have E_z3 : Ext w0 z3 := Ext.mutE E_z2 hm (fun n hn h => by have h2 : n = P0 := h; omega)
       clear hA_z2 hP_z2 E_z2 rA0_z2
       clear hq hm))
  refine beginL (S := fun W' => Ext z3 W') (by kernel_rfl) ?_
  intro wd hqx
  have hq0 : Ext z3 wd := hqx
  refine takeL (i := 0) (v := (.pointer (some ⟨P0, 1, none⟩))) rfl (by kernel_rfl) (by kernel_rfl) (by kernel_rfl) (fun _ _ _ h => h) (Or.inl ⟨rfl, fun _ _ => rfl⟩) hq0 ?_
  simp only [Act.put, List.setIfInBounds_toArray, List.set_cons_zero, List.set_cons_succ]
  refine takeL (i := 1) (v := _) rfl (by kernel_rfl) (by kernel_rfl) (by kernel_rfl) (fun _ _ _ h => h) (yieldsIf_cell rfl 4 _ rfl ⟨P0, 1, none⟩ rfl (.bool q.ch) _ (fun W' hW' => (cell_of_row _ _ _ _ _ _ ((hW'.block _ (heap_lt hP_z3)).trans hP_z3)).trans rfl) Try.underlying4 rfl) hq0 ?_
  simp only [Act.put, List.setIfInBounds_toArray, List.set_cons_zero, List.set_cons_succ]
  refine takeL (i := 3) (v := (.pointer (some ⟨P0, 2, none⟩))) rfl (by kernel_rfl) (by kernel_rfl) (by kernel_rfl) (fun _ _ _ h => h) (Or.inl ⟨rfl, fun _ _ => rfl⟩) hq0 ?_
  simp only [Act.put, List.setIfInBounds_toArray, List.set_cons_zero, List.set_cons_succ]
  refine takeL (i := 4) (v := _) rfl (by kernel_rfl) (by kernel_rfl) (by kernel_rfl) (fun _ _ _ h => h) (yieldsIf_cell rfl 4 _ rfl ⟨P0, 2, none⟩ rfl (.bool q.ak) _ (fun W' hW' => (cell_of_row _ _ _ _ _ _ ((hW'.block _ (heap_lt hP_z3)).trans hP_z3)).trans rfl) Try.underlying4 rfl) hq0 ?_
  simp only [Act.put, List.setIfInBounds_toArray, List.set_cons_zero, List.set_cons_succ]
  refine runL (i := 2) rfl rfl (by kernel_rfl) (fun K hK => ?_)
  go_simp
  refine (flag_e q.ch 1 _).mono ?_
  rintro e wc1 ⟨rfl, hx⟩
  have hq1 := hq0.trans hx
  refine hK.out _ _ hq1 (fun hHeld => ?_)
  try simp only [Act.put, List.setIfInBounds_toArray, List.set_cons_zero, List.set_cons_succ]
  clear hK K hHeld
  refine runL (i := 5) rfl rfl (by kernel_rfl) (fun K hK => ?_)
  go_simp
  refine (flag_e q.ak 128 _).mono ?_
  rintro e wc2 ⟨rfl, hx⟩
  have hq2 := hq1.trans hx
  refine hK.out _ _ hq2 (fun hHeld => ?_)
  try simp only [Act.put, List.setIfInBounds_toArray, List.set_cons_zero, List.set_cons_succ]
  clear hK K hHeld
  refine takeL (i := 6) (v := (.int .i64 (bitV q.ch 1 + bitV q.ak 128))) rfl (by kernel_rfl) (by kernel_rfl) (by kernel_rfl) (fun _ _ _ h => h) (Or.inl ⟨rfl, fun W' _ => by go_simp; exact w64i _ (by omega) (by omega)⟩) hq2 ?_
  simp only [Act.put, List.setIfInBounds_toArray, List.set_cons_zero, List.set_cons_succ]
  refine takeL (i := 7) (v := (.int .i64 (bitV q.ch 1 + bitV q.ak 128))) rfl (by kernel_rfl) (by kernel_rfl) (by kernel_rfl) (fun _ _ _ h => h) (Or.inl ⟨rfl, fun _ _ => rfl⟩) hq2 ?_
  simp only [Act.put, List.setIfInBounds_toArray, List.set_cons_zero, List.set_cons_succ]
  refine wpAnyH_done (by kernel_rfl) ?_ _
  generalize wc2 = z4 at *
  have hA_z4 : z4.heap[A0]? = some (.cells #[.int .i64 q.kd, .bool q.ch, .bool q.ak, .bool q.pr, .bool q.ag, .bool q.ln, .bool q.fw, .int .i64 q.ro, .int .u64 q.r, .int .u32 q.c, .int .u64 q.b, .int .u16 q.p, .int .u16 q.x, .int .i64 q.a, .int .i64 q.m, .int .i64 q.h, .int .i64 q.d] 30 (0, 0)) := (hq2.block _ (heap_lt hA_z3)).trans hA_z3
  have hP_z4 : z4.heap[P0]? = some (.cells #[.int .i64 2, .bool q.ch, .bool q.ak, .bool q.pr, .bool q.ag, .bool q.ln, .bool q.fw, .int .i64 4, .int .u64 q.r, .int .u32 q.c, .int .u64 q.b, .int .u16 q.p, .int .u16 0, .int .i64 (told q.a), .int .i64 (told q.m), .int .i64 (told q.h), .int .i64 (told q.d)] 30 (0, 0)) := (hq2.block _ (heap_lt hP_z3)).trans hP_z3
  have E_z4 : Ext w0 z4 := E_z3.trans hq2
  have rP0_z4 : z4.cell? ⟨P0, 0, none⟩ = some (.int .i64 2) := (cell_of_row _ _ _ _ _ _ hP_z4).trans rfl
  have rP8_z4 : z4.cell? ⟨P0, 8, none⟩ = some (.int .u64 q.r) := (cell_of_row _ _ _ _ _ _ hP_z4).trans rfl
  have rP9_z4 : z4.cell? ⟨P0, 9, none⟩ = some (.int .u32 q.c) := (cell_of_row _ _ _ _ _ _ hP_z4).trans rfl
  have rP10_z4 : z4.cell? ⟨P0, 10, none⟩ = some (.int .u64 q.b) := (cell_of_row _ _ _ _ _ _ hP_z4).trans rfl
  have rP11_z4 : z4.cell? ⟨P0, 11, none⟩ = some (.int .u16 q.p) := (cell_of_row _ _ _ _ _ _ hP_z4).trans rfl
  have rA13_z4 : z4.cell? ⟨A0, 13, none⟩ = some (.int .i64 q.a) := (cell_of_row _ _ _ _ _ _ hA_z4).trans rfl
  have rA14_z4 : z4.cell? ⟨A0, 14, none⟩ = some (.int .i64 q.m) := (cell_of_row _ _ _ _ _ _ hA_z4).trans rfl
  have rA15_z4 : z4.cell? ⟨A0, 15, none⟩ = some (.int .i64 q.h) := (cell_of_row _ _ _ _ _ _ hA_z4).trans rfl
  have rA16_z4 : z4.cell? ⟨A0, 16, none⟩ = some (.int .i64 q.d) := (cell_of_row _ _ _ _ _ _ hA_z4).trans rfl
  clear hA_z3 hP_z3 E_z3
  clear hq0 hq1 hq2
  have hltP := heap_lt hP_z4
  have hltA := heap_lt hA_z4
  have HEW := Lib.hid E_z4
  have hPk := hP_z4
  have hAk := hA_z4
  go_wp2_with fail
  have hE_h : Ext z4 ((z4.alloc (.cells #[.int .u8 0, .int .u8 0, .int .u8 0, .int .u8 0] 5)).alloc (.cells #[.int .u8 0, .int .u8 0, .int .u8 2, .int .u8 2] 5)) := ((Ext.refl z4).alloc _).alloc _
  have hO_h : ((z4.alloc (.cells #[.int .u8 0, .int .u8 0, .int .u8 0, .int .u8 0] 5)).alloc (.cells #[.int .u8 0, .int .u8 0, .int .u8 2, .int .u8 2] 5)).ownsRow z4.heap.size 5 1 (.slice (some ⟨z4.heap.size + 1, 0, none⟩) 4 4) ([0, 0, 2, 2]).length (([0, 0, 2, 2]).map (Value.int .u8)) := by
    have h := four_own (z4.alloc (.cells #[.int .u8 0, .int .u8 0, .int .u8 0, .int .u8 0] 5)) 0 0 2 2
    rw [size_al] at h
    exact owns_base h (by omega)
  obtain ⟨gh, hgh⟩ : ∃ n, z4.heap.size + 1 = n := ⟨_, rfl⟩
  rw [hgh] at hO_h ⊢
  generalize (z4.alloc (.cells #[.int .u8 0, .int .u8 0, .int .u8 0, .int .u8 0] 5)).alloc (.cells #[.int .u8 0, .int .u8 0, .int .u8 2, .int .u8 2] 5) = wh at *
  have hA_wh : wh.heap[A0]? = some (.cells #[.int .i64 q.kd, .bool q.ch, .bool q.ak, .bool q.pr, .bool q.ag, .bool q.ln, .bool q.fw, .int .i64 q.ro, .int .u64 q.r, .int .u32 q.c, .int .u64 q.b, .int .u16 q.p, .int .u16 q.x, .int .i64 q.a, .int .i64 q.m, .int .i64 q.h, .int .i64 q.d] 30 (0, 0)) := (hE_h.block _ (heap_lt hA_z4)).trans hA_z4
  have hP_wh : wh.heap[P0]? = some (.cells #[.int .i64 2, .bool q.ch, .bool q.ak, .bool q.pr, .bool q.ag, .bool q.ln, .bool q.fw, .int .i64 4, .int .u64 q.r, .int .u32 q.c, .int .u64 q.b, .int .u16 q.p, .int .u16 0, .int .i64 (told q.a), .int .i64 (told q.m), .int .i64 (told q.h), .int .i64 (told q.d)] 30 (0, 0)) := (hE_h.block _ (heap_lt hP_z4)).trans hP_z4
  have E_wh := E_z4.trans hE_h
  have ex_wh := hE_h
  have ow_wh := hO_h
  clear hE_h hO_h
  refine beginL (S := fun W' => Ext wh W') (by kernel_rfl) ?_
  intro wd hqx
  have hq0 : Ext wh wd := hqx
  refine takeL (i := 0) (v := (.int .i64 (bitV q.ch 1 + bitV q.ak 128))) rfl (by kernel_rfl) (by kernel_rfl) (by kernel_rfl) (fun _ _ _ h => h) (Or.inl ⟨rfl, fun _ _ => rfl⟩) hq0 ?_
  simp only [Act.put, List.setIfInBounds_toArray, List.set_cons_zero, List.set_cons_succ]
  refine takeL (i := 1) (v := (.pointer (some ⟨P0, 3, none⟩))) rfl (by kernel_rfl) (by kernel_rfl) (by kernel_rfl) (fun _ _ _ h => h) (Or.inl ⟨rfl, fun _ _ => rfl⟩) hq0 ?_
  simp only [Act.put, List.setIfInBounds_toArray, List.set_cons_zero, List.set_cons_succ]
  refine takeL (i := 2) (v := _) rfl (by kernel_rfl) (by kernel_rfl) (by kernel_rfl) (fun _ _ _ h => h) (yieldsIf_cell rfl 4 _ rfl ⟨P0, 3, none⟩ rfl (.bool q.pr) _ (fun W' hW' => (cell_of_row _ _ _ _ _ _ ((hW'.block _ (heap_lt hP_wh)).trans hP_wh)).trans rfl) Try.underlying4 rfl) hq0 ?_
  simp only [Act.put, List.setIfInBounds_toArray, List.set_cons_zero, List.set_cons_succ]
  refine takeL (i := 5) (v := (.pointer (some ⟨P0, 5, none⟩))) rfl (by kernel_rfl) (by kernel_rfl) (by kernel_rfl) (fun _ _ _ h => h) (Or.inl ⟨rfl, fun _ _ => rfl⟩) hq0 ?_
  simp only [Act.put, List.setIfInBounds_toArray, List.set_cons_zero, List.set_cons_succ]
  refine takeL (i := 6) (v := _) rfl (by kernel_rfl) (by kernel_rfl) (by kernel_rfl) (fun _ _ _ h => h) (yieldsIf_cell rfl 4 _ rfl ⟨P0, 5, none⟩ rfl (.bool q.ln) _ (fun W' hW' => (cell_of_row _ _ _ _ _ _ ((hW'.block _ (heap_lt hP_wh)).trans hP_wh)).trans rfl) Try.underlying4 rfl) hq0 ?_
  simp only [Act.put, List.setIfInBounds_toArray, List.set_cons_zero, List.set_cons_succ]
  refine takeL (i := 9) (v := (.pointer (some ⟨P0, 6, none⟩))) rfl (by kernel_rfl) (by kernel_rfl) (by kernel_rfl) (fun _ _ _ h => h) (Or.inl ⟨rfl, fun _ _ => rfl⟩) hq0 ?_
  simp only [Act.put, List.setIfInBounds_toArray, List.set_cons_zero, List.set_cons_succ]
  refine takeL (i := 10) (v := _) rfl (by kernel_rfl) (by kernel_rfl) (by kernel_rfl) (fun _ _ _ h => h) (yieldsIf_cell rfl 4 _ rfl ⟨P0, 6, none⟩ rfl (.bool q.fw) _ (fun W' hW' => (cell_of_row _ _ _ _ _ _ ((hW'.block _ (heap_lt hP_wh)).trans hP_wh)).trans rfl) Try.underlying4 rfl) hq0 ?_
  simp only [Act.put, List.setIfInBounds_toArray, List.set_cons_zero, List.set_cons_succ]
  refine takeL (i := 13) (v := (.pointer (some ⟨P0, 4, none⟩))) rfl (by kernel_rfl) (by kernel_rfl) (by kernel_rfl) (fun _ _ _ h => h) (Or.inl ⟨rfl, fun _ _ => rfl⟩) hq0 ?_
  simp only [Act.put, List.setIfInBounds_toArray, List.set_cons_zero, List.set_cons_succ]
  refine takeL (i := 14) (v := _) rfl (by kernel_rfl) (by kernel_rfl) (by kernel_rfl) (fun _ _ _ h => h) (yieldsIf_cell rfl 4 _ rfl ⟨P0, 4, none⟩ rfl (.bool q.ag) _ (fun W' hW' => (cell_of_row _ _ _ _ _ _ ((hW'.block _ (heap_lt hP_wh)).trans hP_wh)).trans rfl) Try.underlying4 rfl) hq0 ?_
  simp only [Act.put, List.setIfInBounds_toArray, List.set_cons_zero, List.set_cons_succ]
  refine runL (i := 3) rfl rfl (by kernel_rfl) (fun K hK => ?_)
  go_simp
  refine (flag_e q.pr 2 _).mono ?_
  rintro e wc1 ⟨rfl, hx⟩
  have hq1 := hq0.trans hx
  refine hK.out _ _ hq1 (fun hHeld => ?_)
  try simp only [Act.put, List.setIfInBounds_toArray, List.set_cons_zero, List.set_cons_succ]
  clear hK K hHeld
  refine takeL (i := 4) (v := (.int .i64 ((bitV q.ch 1 + bitV q.ak 128) + bitV q.pr 2))) rfl (by kernel_rfl) (by kernel_rfl) (by kernel_rfl) (fun _ _ _ h => h) (Or.inl ⟨rfl, fun W' _ => by go_simp; exact w64i _ (by omega) (by omega)⟩) hq1 ?_
  simp only [Act.put, List.setIfInBounds_toArray, List.set_cons_zero, List.set_cons_succ]
  refine runL (i := 7) rfl rfl (by kernel_rfl) (fun K hK => ?_)
  go_simp
  refine (flag_e q.ln 16 _).mono ?_
  rintro e wc2 ⟨rfl, hx⟩
  have hq2 := hq1.trans hx
  refine hK.out _ _ hq2 (fun hHeld => ?_)
  try simp only [Act.put, List.setIfInBounds_toArray, List.set_cons_zero, List.set_cons_succ]
  clear hK K hHeld
  refine takeL (i := 8) (v := (.int .i64 (((bitV q.ch 1 + bitV q.ak 128) + bitV q.pr 2) + bitV q.ln 16))) rfl (by kernel_rfl) (by kernel_rfl) (by kernel_rfl) (fun _ _ _ h => h) (Or.inl ⟨rfl, fun W' _ => by go_simp; exact w64i _ (by omega) (by omega)⟩) hq2 ?_
  simp only [Act.put, List.setIfInBounds_toArray, List.set_cons_zero, List.set_cons_succ]
  refine runL (i := 11) rfl rfl (by kernel_rfl) (fun K hK => ?_)
  go_simp
  refine (flag_e q.fw 32 _).mono ?_
  rintro e wc3 ⟨rfl, hx⟩
  have hq3 := hq2.trans hx
  refine hK.out _ _ hq3 (fun hHeld => ?_)
  try simp only [Act.put, List.setIfInBounds_toArray, List.set_cons_zero, List.set_cons_succ]
  clear hK K hHeld
  refine takeL (i := 12) (v := (.int .i64 ((((bitV q.ch 1 + bitV q.ak 128) + bitV q.pr 2) + bitV q.ln 16) + bitV q.fw 32))) rfl (by kernel_rfl) (by kernel_rfl) (by kernel_rfl) (fun _ _ _ h => h) (Or.inl ⟨rfl, fun W' _ => by go_simp; exact w64i _ (by omega) (by omega)⟩) hq3 ?_
  simp only [Act.put, List.setIfInBounds_toArray, List.set_cons_zero, List.set_cons_succ]
  refine runL (i := 15) rfl rfl (by kernel_rfl) (fun K hK => ?_)
  go_simp
  refine (flag_e q.ag 64 _).mono ?_
  rintro e wc4 ⟨rfl, hx⟩
  have hq4 := hq3.trans hx
  refine hK.out _ _ hq4 (fun hHeld => ?_)
  try simp only [Act.put, List.setIfInBounds_toArray, List.set_cons_zero, List.set_cons_succ]
  clear hK K hHeld
  refine takeL (i := 16) (v := (.int .i64 (((((bitV q.ch 1 + bitV q.ak 128) + bitV q.pr 2) + bitV q.ln 16) + bitV q.fw 32) + bitV q.ag 64))) rfl (by kernel_rfl) (by kernel_rfl) (by kernel_rfl) (fun _ _ _ h => h) (Or.inl ⟨rfl, fun W' _ => by go_simp; exact w64i _ (by omega) (by omega)⟩) hq4 ?_
  simp only [Act.put, List.setIfInBounds_toArray, List.set_cons_zero, List.set_cons_succ]
  refine takeL (i := 17) (v := (.int .i64 (((((bitV q.ch 1 + bitV q.ak 128) + bitV q.pr 2) + bitV q.ln 16) + bitV q.fw 32) + bitV q.ag 64))) rfl (by kernel_rfl) (by kernel_rfl) (by kernel_rfl) (fun _ _ _ h => h) (Or.inl ⟨rfl, fun _ _ => rfl⟩) hq4 ?_
  simp only [Act.put, List.setIfInBounds_toArray, List.set_cons_zero, List.set_cons_succ]
  refine wpAnyH_done (by kernel_rfl) ?_ _
  generalize wc4 = z5 at *
  have hA_z5 : z5.heap[A0]? = some (.cells #[.int .i64 q.kd, .bool q.ch, .bool q.ak, .bool q.pr, .bool q.ag, .bool q.ln, .bool q.fw, .int .i64 q.ro, .int .u64 q.r, .int .u32 q.c, .int .u64 q.b, .int .u16 q.p, .int .u16 q.x, .int .i64 q.a, .int .i64 q.m, .int .i64 q.h, .int .i64 q.d] 30 (0, 0)) := (hq4.block _ (heap_lt hA_wh)).trans hA_wh
  have hP_z5 : z5.heap[P0]? = some (.cells #[.int .i64 2, .bool q.ch, .bool q.ak, .bool q.pr, .bool q.ag, .bool q.ln, .bool q.fw, .int .i64 4, .int .u64 q.r, .int .u32 q.c, .int .u64 q.b, .int .u16 q.p, .int .u16 0, .int .i64 (told q.a), .int .i64 (told q.m), .int .i64 (told q.h), .int .i64 (told q.d)] 30 (0, 0)) := (hq4.block _ (heap_lt hP_wh)).trans hP_wh
  have E_z5 : Ext w0 z5 := E_wh.trans hq4
  have ex_z5 : Ext z4 z5 := ex_wh.trans hq4
  have ow_z5 : z5.ownsRow z4.heap.size 5 1 (.slice (some ⟨gh, 0, none⟩) 4 4) ([0, 0, 2, 2]).length (([0, 0, 2, 2]).map (Value.int .u8)) := owns_ext ow_wh hq4
  have rP0_z5 : z5.cell? ⟨P0, 0, none⟩ = some (.int .i64 2) := (cell_of_row _ _ _ _ _ _ hP_z5).trans rfl
  have rP7_z5 : z5.cell? ⟨P0, 7, none⟩ = some (.int .i64 4) := (cell_of_row _ _ _ _ _ _ hP_z5).trans rfl
  have rP8_z5 : z5.cell? ⟨P0, 8, none⟩ = some (.int .u64 q.r) := (cell_of_row _ _ _ _ _ _ hP_z5).trans rfl
  have rP9_z5 : z5.cell? ⟨P0, 9, none⟩ = some (.int .u32 q.c) := (cell_of_row _ _ _ _ _ _ hP_z5).trans rfl
  have rP10_z5 : z5.cell? ⟨P0, 10, none⟩ = some (.int .u64 q.b) := (cell_of_row _ _ _ _ _ _ hP_z5).trans rfl
  have rP11_z5 : z5.cell? ⟨P0, 11, none⟩ = some (.int .u16 q.p) := (cell_of_row _ _ _ _ _ _ hP_z5).trans rfl
  have rA13_z5 : z5.cell? ⟨A0, 13, none⟩ = some (.int .i64 q.a) := (cell_of_row _ _ _ _ _ _ hA_z5).trans rfl
  have rA14_z5 : z5.cell? ⟨A0, 14, none⟩ = some (.int .i64 q.m) := (cell_of_row _ _ _ _ _ _ hA_z5).trans rfl
  have rA15_z5 : z5.cell? ⟨A0, 15, none⟩ = some (.int .i64 q.h) := (cell_of_row _ _ _ _ _ _ hA_z5).trans rfl
  have rA16_z5 : z5.cell? ⟨A0, 16, none⟩ = some (.int .i64 q.d) := (cell_of_row _ _ _ _ _ _ hA_z5).trans rfl
  clear hA_wh hP_wh ex_wh ow_wh E_wh
  clear hq0 hq1 hq2 hq3 hq4
  go_wp2_with (first
    | fail
    | (at_builtin; refine wpList_app rfl _ _ rfl z4 (ex_z5.trans ((Ext.refl z5).alloc _)) _ _ ([0, 0, 2, 2]) ([flagsN q]) rfl rfl (ow_z5.alloc _) (isBytes_alloc z5 [flagsN q] 1 5 (show 0 < 1 by decide) (Nat.le_refl _) (by decide)) (show 4 + 1 ≤ 100000 by decide) ?_
       intro va1 a1 hown_a1 hE_a1 hg_a1
       have hO_a1 : a1.ownsRow z4.heap.size 5 1 va1 (e1 q).length ((e1 q).map (Value.int .u8)) := by rw [hek]; exact hown_a1
       clear hown_a1 hg_a1
       have cP8_a1 : a1.cell? ⟨P0, 8, none⟩ = some (.int .u64 q.r) := (cell_of_row _ _ _ _ _ _ ((hE_a1.block _ hltP).trans hPk)).trans rfl))
  refine (refput_i (q.r) 8 _ HQ.out.r (by decide) (by decide)).mono ?_
  rintro e p2 ⟨vp0, rfl, hown_p, hx0⟩
  have hi_p2 := isBytes_own hown_p
  have hE_p2 := hE_a1.trans hx0
  have hO_p2 := owns_ext hO_a1 hx0
  clear hown_p hx0 hO_a1 hE_a1
  go_wp2_with (first
    | fail
    | (at_builtin; refine wpList_app rfl _ _ rfl z4 hE_p2 _ _ (e1 q) (bts (q.r).toNat 8) rfl rfl hO_p2 hi_p2 (by rw [hl1, bts_len]; omega) ?_
       intro va2 a2 hown_a2 hE_a2 hg_a2
       have hO_a2 : a2.ownsRow z4.heap.size 5 1 va2 (e2 q).length ((e2 q).map (Value.int .u8)) := by exact hown_a2
       clear hown_a2 hg_a2
       have cP9_a2 : a2.cell? ⟨P0, 9, none⟩ = some (.int .u32 q.c) := (cell_of_row _ _ _ _ _ _ ((hE_a2.block _ hltP).trans hPk)).trans rfl))
  clear hi_p2 hE_p2 hO_p2
  refine (refput_i (q.c) 4 _ ⟨HQ.out.c.1, by have := HQ.out.c.2; omega⟩ (by decide) (by decide)).mono ?_
  rintro e p3 ⟨vp1, rfl, hown_p, hx1⟩
  have hi_p3 := isBytes_own hown_p
  have hE_p3 := hE_a2.trans hx1
  have hO_p3 := owns_ext hO_a2 hx1
  clear hown_p hx1 hO_a2 hE_a2
  go_wp2_with (first
    | fail
    | (at_builtin; refine wpList_app rfl _ _ rfl z4 hE_p3 _ _ (e2 q) (bts (q.c).toNat 4) rfl rfl hO_p3 hi_p3 (by rw [hl2, bts_len]; omega) ?_
       intro va3 a3 hown_a3 hE_a3 hg_a3
       have hO_a3 : a3.ownsRow z4.heap.size 5 1 va3 (e3 q).length ((e3 q).map (Value.int .u8)) := by exact hown_a3
       clear hown_a3 hg_a3
       have cP10_a3 : a3.cell? ⟨P0, 10, none⟩ = some (.int .u64 q.b) := (cell_of_row _ _ _ _ _ _ ((hE_a3.block _ hltP).trans hPk)).trans rfl))
  clear hi_p3 hE_p3 hO_p3
  refine (refput_i (q.b) 8 _ HQ.out.b (by decide) (by decide)).mono ?_
  rintro e p4 ⟨vp2, rfl, hown_p, hx2⟩
  have hi_p4 := isBytes_own hown_p
  have hE_p4 := hE_a3.trans hx2
  have hO_p4 := owns_ext hO_a3 hx2
  clear hown_p hx2 hO_a3 hE_a3
  go_wp2_with (first
    | fail
    | (at_builtin; refine wpList_app rfl _ _ rfl z4 hE_p4 _ _ (e3 q) (bts (q.b).toNat 8) rfl rfl hO_p4 hi_p4 (by rw [hl3, bts_len]; omega) ?_
       intro va4 a4 hown_a4 hE_a4 hg_a4
       have hO_a4 : a4.ownsRow z4.heap.size 5 1 va4 (e4 q).length ((e4 q).map (Value.int .u8)) := by exact hown_a4
       clear hown_a4 hg_a4
       have cP11_a4 : a4.cell? ⟨P0, 11, none⟩ = some (.int .u16 q.p) := (cell_of_row _ _ _ _ _ _ ((hE_a4.block _ hltP).trans hPk)).trans rfl))
  clear hi_p4 hE_p4 hO_p4
  refine (refput_i (q.p) 2 _ ⟨HQ.out.p.1, by have := HQ.out.p.2; omega⟩ (by decide) (by decide)).mono ?_
  rintro e p5 ⟨vp3, rfl, hown_p, hx3⟩
  have hi_p5 := isBytes_own hown_p
  have hE_p5 := hE_a4.trans hx3
  have hO_p5 := owns_ext hO_a4 hx3
  clear hown_p hx3 hO_a4 hE_a4
  go_wp2_with (first
    | fail
    | (at_builtin; refine wpList_app rfl _ _ rfl z4 hE_p5 _ _ (e4 q) (bts (q.p).toNat 2) rfl rfl hO_p5 hi_p5 (by rw [hl4, bts_len]; omega) ?_
       intro va5 a5 hown_a5 hE_a5 hg_a5
       have hO_a5 : a5.ownsRow z4.heap.size 5 1 va5 (e5 q).length ((e5 q).map (Value.int .u8)) := by exact hown_a5
       clear hown_a5 hg_a5
       have cA13_a5 : a5.cell? ⟨A0, 13, none⟩ = some (.int .i64 q.a) := (cell_of_row _ _ _ _ _ _ ((hE_a5.block _ hltA).trans hAk)).trans rfl
       have cA14_a5 : a5.cell? ⟨A0, 14, none⟩ = some (.int .i64 q.m) := (cell_of_row _ _ _ _ _ _ ((hE_a5.block _ hltA).trans hAk)).trans rfl
       have cA15_a5 : a5.cell? ⟨A0, 15, none⟩ = some (.int .i64 q.h) := (cell_of_row _ _ _ _ _ _ ((hE_a5.block _ hltA).trans hAk)).trans rfl
       have cA16_a5 : a5.cell? ⟨A0, 16, none⟩ = some (.int .i64 q.d) := (cell_of_row _ _ _ _ _ _ ((hE_a5.block _ hltA).trans hAk)).trans rfl))
  have hTB : (a5.alloc (.cells #[.int .i64 q.a, .int .i64 q.m, .int .i64 q.h, .int .i64 q.d] 3)).heap[a5.heap.size]? = some (.cells #[.int .i64 q.a, .int .i64 q.m, .int .i64 q.h, .int .i64 q.d] 3 (0, 0)) := heap_alloc_new _ _
  have hE_b := hE_a5.trans ((Ext.refl a5).alloc (.cells #[.int .i64 q.a, .int .i64 q.m, .int .i64 q.h, .int .i64 q.d] 3))
  have hO_b := hO_a5.alloc (.cells #[.int .i64 q.a, .int .i64 q.m, .int .i64 q.h, .int .i64 q.d] 3)
  generalize a5.alloc (.cells #[.int .i64 q.a, .int .i64 q.m, .int .i64 q.h, .int .i64 q.d] 3) = b0 at *
  obtain ⟨T0, hT0⟩ : ∃ n, a5.heap.size = n := ⟨_, rfl⟩
  rw [hT0] at hTB ⊢
  clear hT0 hO_a5 hE_a5 cA13_a5 cA14_a5 cA15_a5 cA16_a5 hi_p5 hE_p5 hO_p5
  go_loopw [5, 7] (fun v i wr => ∃ n : Nat, n ≤ 4 ∧ i = .int .i64 n ∧ wr.ownsRow z4.heap.size 5 1 v (e6 q n).length ((e6 q n).map (Value.int .u8)) ∧ wr.heap[T0]? = some (.cells #[.int .i64 q.a, .int .i64 q.m, .int .i64 q.h, .int .i64 q.d] 3 (0, 0)) ∧ Ext z4 wr) (fun _ i _ => 4 - (intOf i).toNat)
  case atStart => exact ⟨0, by omega, rfl, hO_b, hTB, hE_b⟩
  case round =>
    clear hO_b hTB hE_b
    obtain ⟨n, hn, rfl, hO, hTB, hE⟩ := hrel
    by_cases hlt : n < 4
    · have cn : wr.cell? ⟨T0, n, none⟩ = some (.int .i64 (tm q n)) := (cell_of_row _ _ _ _ _ _ hTB).trans (by
        match n, hlt with
        | 0, _ => rfl
        | 1, _ => rfl
        | 2, _ => rfl
        | 3, _ => rfl)
      have hv := toV_rg (tm q n)
      have htw : IntKind.u64.wrap (toV (tm q n)) = toV (tm q n) := by rw [IntKind.wrap_u64]; omega
      go_wp2_with fail
      refine (ref_to (tm q n) wr).mono ?_
      rintro e _ ⟨rfl, rfl⟩
      go_wp2_with fail
      refine (refput_i (toV (tm q n)) 2 _ ⟨hv.1, by omega⟩ (by decide) (by decide)).mono ?_
      rintro e p ⟨gp, rfl, hown_p, hxp⟩
      have hip := isBytes_own hown_p
      have hop := owns_ext hO hxp
      have hEp := hE.trans hxp
      have hTp := (hxp.block _ (heap_lt hTB)).trans hTB
      clear hO hE hxp cn hTB hown_p
      go_wp2_with (first
        | fail
        | (at_builtin; refine wpList_app rfl _ _ rfl z4 hEp _ _ (e6 q n) (bts (toV (tm q n)).toNat 2) rfl rfl hop hip (by rw [hl6, bts_len]; omega) ?_
           intro vq wq hown_wq hE_wq hg_wq
           have hTq := far_keep hop hTp (by decide) hg_wq
           clear hop hTp hip hEp hg_wq))
      go_roundw
      case rel => exact ⟨n + 1, by omega, by go_num, hown_wq, hTq, hE_wq⟩
      case measure => simp [intOf]; omega
    · obtain rfl : n = 4 := by omega
      have cP0_wr : wr.cell? ⟨P0, 0, none⟩ = some (.int .i64 2) := (cell_of_row _ _ _ _ _ _ ((hE.block _ hltP).trans hPk)).trans rfl
      have hone : IsInts (wr.alloc (.cells #[.int .u8 0] 5)) .u8 (.slice (some ⟨wr.heap.size, 0, none⟩) 1 1) [0] := isBytes_alloc wr [0] 1 5 (by decide) (Nat.le_refl _) (by decide)
      go_wp2_with (first
        | fail
        | (at_builtin; refine wpList_app rfl _ _ rfl z4 (hE.trans ((Ext.refl wr).alloc _)) _ _ (e6 q 4) ([0]) rfl rfl (hO.alloc _) hone (by rw [hl6]; decide) ?_
           intro vq wq hown_wq hE_wq hg_wq
           have hz1 := hown_wq
           have hz2 := hE_wq
           clear hown_wq hE_wq hg_wq))
      go_ret
      refine ⟨_, rfl, ?_, hE_w0.trans (HEW.out.trans hz2)⟩
      have e : encL q = e6 q 4 ++ [0] := by have := HK.out; unfold encL; rw [if_neg (by omega), if_pos this]
      rw [e]
      exact owns_base hz1 (hE_w0.trans HEW.out).size

end Go.Proofs.Ytdfaagchlnkpnaa
