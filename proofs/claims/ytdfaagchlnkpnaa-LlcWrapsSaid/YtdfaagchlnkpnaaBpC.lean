/- What a message is encoded to, by the program. No statement is proved here. -/
import Derived.Test.YtdfaagchlnkpnaaBpB
namespace Go.Proofs.Ytdfaagchlnkpnaa
open Go.RowKit Go.BigFrame Go.WideShapes Go.ChangeShapes Go.Deep
set_option linter.unusedVariables false
set_option linter.unusedSimpArgs false

theorem owns_base {w : World} {a b m n : Nat} {e : TypeId} {v : Value} {xs : List Value} (h : w.ownsRow a e m v n xs) (hb : b ≤ a) : w.ownsRow b e m v n xs := by
  obtain ⟨h1, h2 | ⟨g, cap, cur, h3, h4, h5⟩⟩ := h
  · exact ⟨h1, .inl h2⟩
  · exact ⟨h1, .inr ⟨g, cap, cur, h3, Nat.le_trans hb h4, h5⟩⟩
theorem owns_ext {w w' : World} {a m n : Nat} {e : TypeId} {v : Value} {xs : List Value} (h : w.ownsRow a e m v n xs) (hx : Ext w w') : w'.ownsRow a e m v n xs := by
  obtain ⟨h1, h2 | ⟨g, cap, cur, h3, h4, h5, h6⟩⟩ := h
  · exact ⟨h1, .inl h2⟩
  · exact ⟨h1, .inr ⟨g, cap, cur, h3, h4, (hx.block _ (heap_lt h5)).trans h5, h6⟩⟩
theorem size_msgq : (Try.prog.info? 30).map (·.size) = some 17 := by kernel_rfl
theorem sl_eq (b n c : Nat) (w : World) : (binOp BinOp.eql 33 (.slice (some ⟨b, 0, none⟩) n c) (.slice none 0 0)).run Try.prog w = .ok (.bool false) w := by kernel_rfl
theorem sl_eq0 (w : World) : (binOp BinOp.eql 33 (.slice none 0 0) (.slice none 0 0)).run Try.prog w = .ok (.bool true) w := by kernel_rfl
/-- A block of another type, kept by an append. -/
theorem far_keep {w w' : World} {base n X : Nat} {v : Value} {xs : List Value} {c : Array Value} {t : TypeId} (h : w.ownsRow base 5 1 v n xs) (hX : w.heap[X]? = some (.cells c t (0, 0))) (ht : t ≠ 5) (hg : w.grownBy w' v.ownBlock) : w'.heap[X]? = some (.cells c t (0, 0)) := by
  refine (hg.block X (heap_lt hX) fun e => ?_).trans hX
  obtain ⟨h1, ⟨rfl, _⟩ | ⟨g, cap, cur, rfl, h4, h5, h6⟩⟩ := h
  · simp [Value.ownBlock] at e
  · simp only [Value.ownBlock, Option.some.injEq] at e
    subst e
    rw [h5] at hX
    simp only [Option.some.injEq, Obj.cells.injEq] at hX
    exact ht hX.2.1.symm
/-- A number's bytes, for a call. -/
theorem put_i (n : Int) (k : Nat) (w : World) (h : 0 ≤ n ∧ n < 18446744073709551616) (h0 : 1 ≤ k) (h1 : k ≤ 8) : Calls Try.prog 36 #[.int .u64 n, .int .i64 k] w (PutR w n.toNat k) := by
  obtain ⟨m, rfl⟩ := Int.eq_ofNat_of_zero_le h.1
  exact put_r m k w (by omega) h0 h1
set_option maxRecDepth 100000 in
set_option maxHeartbeats 2000000 in
theorem enc_body (q : Mg) (hq : q.ok) (hk : q.kd = 0 ∨ q.kd = 2) (w : World) : Calls Try.prog 17 #[.agg #[.int .i64 q.kd, .bool q.ch, .bool q.ak, .bool q.pr, .bool q.ag, .bool q.ln, .bool q.fw, .int .i64 q.ro, .int .u64 q.r, .int .u32 q.c, .int .u64 q.b, .int .u16 q.p, .int .u16 q.x, .int .i64 q.a, .int .i64 q.m, .int .i64 q.h, .int .i64 q.d]] w (Owned w (encL q)) := by
  have hsl := sl_eq
  have hfl := flagsN_rg q
  have hk1 : (q.kd == 1) = false := by simp; omega
  have hh4 : (headL q.kd).length = 4 := by rw [headL_len, if_pos (by omega)]
  have hz := size_msgq
  have hl1 : (e1 q).length = 5 := by simp [e1, bts_len, hh4]
  have hl2 : (e2 q).length = 13 := by simp [e2, hl1, bts_len]
  have hl3 : (e3 q).length = 17 := by simp [e3, hl2, bts_len]
  have hl4 : (e4 q).length = 25 := by simp [e4, hl3, bts_len]
  have hl6 : ∀ n, (e6 q n).length = 27 + 2 * n := fun n => by
    induction n with
    | zero => exact (e6_len q hk).1
    | succ n ih => show (e6 q n ++ _).length = _; rw [List.length_append, ih, bts_len]; omega
  have hcw : IntKind.u64.wrap q.c = q.c := by have := hq.c; rw [IntKind.wrap_u64]; omega
  have hpw : IntKind.u64.wrap q.p = q.p := by have := hq.p; rw [IntKind.wrap_u64]; omega
  go_enter Try.func17, Try.ntmps17
  go_wp2_with fail
  have hL_w0 : (w.alloc (.cells #[.int .i64 q.kd, .bool q.ch, .bool q.ak, .bool q.pr, .bool q.ag, .bool q.ln, .bool q.fw, .int .i64 q.ro, .int .u64 q.r, .int .u32 q.c, .int .u64 q.b, .int .u16 q.p, .int .u16 q.x, .int .i64 q.a, .int .i64 q.m, .int .i64 q.h, .int .i64 q.d] 30)).heap[w.heap.size]? = some (.cells #[.int .i64 q.kd, .bool q.ch, .bool q.ak, .bool q.pr, .bool q.ag, .bool q.ln, .bool q.fw, .int .i64 q.ro, .int .u64 q.r, .int .u32 q.c, .int .u64 q.b, .int .u16 q.p, .int .u16 q.x, .int .i64 q.a, .int .i64 q.m, .int .i64 q.h, .int .i64 q.d] 30 (0, 0)) := heap_alloc_new _ _
  have hE_w0 : Ext w (w.alloc (.cells #[.int .i64 q.kd, .bool q.ch, .bool q.ak, .bool q.pr, .bool q.ag, .bool q.ln, .bool q.fw, .int .i64 q.ro, .int .u64 q.r, .int .u32 q.c, .int .u64 q.b, .int .u16 q.p, .int .u16 q.x, .int .i64 q.a, .int .i64 q.m, .int .i64 q.h, .int .i64 q.d] 30)) := (Ext.refl _).alloc _
  generalize w.alloc (.cells #[.int .i64 q.kd, .bool q.ch, .bool q.ak, .bool q.pr, .bool q.ag, .bool q.ln, .bool q.fw, .int .i64 q.ro, .int .u64 q.r, .int .u32 q.c, .int .u64 q.b, .int .u16 q.p, .int .u16 q.x, .int .i64 q.a, .int .i64 q.m, .int .i64 q.h, .int .i64 q.d] 30) = w0 at *
  have hltB0 := heap_lt hL_w0
  obtain ⟨B0, hB0⟩ : ∃ n, w.heap.size = n := ⟨_, rfl⟩
  rw [hB0] at hL_w0 hltB0 ⊢
  have c0_w0 : w0.cell? ⟨B0, 0, none⟩ = some (.int .i64 q.kd) := (cell_of_row _ _ _ _ _ _ hL_w0).trans rfl
  have HQ := Lib.hid hq
  clear hq
  go_wp2_with fail
  refine (head_yes q.kd _ (by omega)).mono ?_
  rintro e w1 ⟨rfl, hown_w1, hE_w1⟩
  have hL_w1 : w1.heap[B0]? = some (.cells #[.int .i64 q.kd, .bool q.ch, .bool q.ak, .bool q.pr, .bool q.ag, .bool q.ln, .bool q.fw, .int .i64 q.ro, .int .u64 q.r, .int .u32 q.c, .int .u64 q.b, .int .u16 q.p, .int .u16 q.x, .int .i64 q.a, .int .i64 q.m, .int .i64 q.h, .int .i64 q.d] 30 (0, 0)) := (hE_w1.block _ hltB0).trans hL_w0
  have c0_w1 : w1.cell? ⟨B0, 0, none⟩ = some (.int .i64 q.kd) := (cell_of_row _ _ _ _ _ _ hL_w1).trans rfl
  clear c0_w0
  go_wp2_with (first
    | fail
    | ((with_reducible refine at_load 30 ?_); refine wpList_load_row rfl 30 _ rfl B0 rfl 30 #[.int .i64 q.kd, .bool q.ch, .bool q.ak, .bool q.pr, .bool q.ag, .bool q.ln, .bool q.fw, .int .i64 q.ro, .int .u64 q.r, .int .u32 q.c, .int .u64 q.b, .int .u16 q.p, .int .u16 q.x, .int .i64 q.a, .int .i64 q.m, .int .i64 q.h, .int .i64 q.d] (0, 0) _ hL_w1 Try.underlying30 rfl hz ?_))
  refine (flags_q q _).mono ?_
  rintro e w2 ⟨rfl, hx2⟩
  go_wp2_with fail
  refine (put_i (flagsN q) 1 _ ⟨hfl.1, by omega⟩ (by decide) (by decide)).mono ?_
  rintro e p3 ⟨g3, rfl, hi3, hx3⟩
  have hE_p3 := hE_w1.trans (hx2.trans hx3)
  have hown_p3 := owns_ext hown_w1 (hx2.trans hx3)
  clear hx2 hx3 hown_w1 hE_w1 c0_w1 hL_w1
  go_wp2_with (first
    | fail
    | (at_builtin; refine wpList_app rfl _ _ rfl w0 hE_p3 _ _ (headL q.kd) (bts (flagsN q).toNat 1) rfl rfl hown_p3 hi3 (by rw [hh4, bts_len]; omega) ?_
       intro va1 a1 hown_a1 hE_a1 hg_a1
       have hO_a1 : a1.ownsRow w0.heap.size 5 1 va1 (e1 q).length ((e1 q).map (Value.int .u8)) := hown_a1
       clear hown_a1 hg_a1
       have hL_a1 : a1.heap[B0]? = some (.cells #[.int .i64 q.kd, .bool q.ch, .bool q.ak, .bool q.pr, .bool q.ag, .bool q.ln, .bool q.fw, .int .i64 q.ro, .int .u64 q.r, .int .u32 q.c, .int .u64 q.b, .int .u16 q.p, .int .u16 q.x, .int .i64 q.a, .int .i64 q.m, .int .i64 q.h, .int .i64 q.d] 30 (0, 0)) := (hE_a1.block _ hltB0).trans hL_w0
       have c8_a1 : a1.cell? ⟨B0, 8, none⟩ = some (.int .u64 q.r) := (cell_of_row _ _ _ _ _ _ hL_a1).trans rfl))
  refine (put_i (q.r) 8 _ HQ.out.r (by decide) (by decide)).mono ?_
  rintro e p4 ⟨g4, rfl, hi4, hx4⟩
  have hE_p4 := hE_a1.trans hx4
  have hown_p4 := owns_ext hO_a1 hx4
  clear hx4 hO_a1 hE_a1 hL_a1 c8_a1 hi3 hown_p3 hE_p3
  go_wp2_with (first
    | fail
    | (at_builtin; refine wpList_app rfl _ _ rfl w0 hE_p4 _ _ (e1 q) (bts (q.r).toNat 8) rfl rfl hown_p4 hi4 (by rw [hl1, bts_len]; omega) ?_
       intro va2 a2 hown_a2 hE_a2 hg_a2
       have hO_a2 : a2.ownsRow w0.heap.size 5 1 va2 (e2 q).length ((e2 q).map (Value.int .u8)) := hown_a2
       clear hown_a2 hg_a2
       have hL_a2 : a2.heap[B0]? = some (.cells #[.int .i64 q.kd, .bool q.ch, .bool q.ak, .bool q.pr, .bool q.ag, .bool q.ln, .bool q.fw, .int .i64 q.ro, .int .u64 q.r, .int .u32 q.c, .int .u64 q.b, .int .u16 q.p, .int .u16 q.x, .int .i64 q.a, .int .i64 q.m, .int .i64 q.h, .int .i64 q.d] 30 (0, 0)) := (hE_a2.block _ hltB0).trans hL_w0
       have c9_a2 : a2.cell? ⟨B0, 9, none⟩ = some (.int .u32 q.c) := (cell_of_row _ _ _ _ _ _ hL_a2).trans rfl))
  refine (put_i (q.c) 4 _ ⟨HQ.out.c.1, by have := HQ.out.c.2; omega⟩ (by decide) (by decide)).mono ?_
  rintro e p5 ⟨g5, rfl, hi5, hx5⟩
  have hE_p5 := hE_a2.trans hx5
  have hown_p5 := owns_ext hO_a2 hx5
  clear hx5 hO_a2 hE_a2 hL_a2 c9_a2 hi4 hown_p4 hE_p4
  go_wp2_with (first
    | fail
    | (at_builtin; refine wpList_app rfl _ _ rfl w0 hE_p5 _ _ (e2 q) (bts (q.c).toNat 4) rfl rfl hown_p5 hi5 (by rw [hl2, bts_len]; omega) ?_
       intro va3 a3 hown_a3 hE_a3 hg_a3
       have hO_a3 : a3.ownsRow w0.heap.size 5 1 va3 (e3 q).length ((e3 q).map (Value.int .u8)) := hown_a3
       clear hown_a3 hg_a3
       have hL_a3 : a3.heap[B0]? = some (.cells #[.int .i64 q.kd, .bool q.ch, .bool q.ak, .bool q.pr, .bool q.ag, .bool q.ln, .bool q.fw, .int .i64 q.ro, .int .u64 q.r, .int .u32 q.c, .int .u64 q.b, .int .u16 q.p, .int .u16 q.x, .int .i64 q.a, .int .i64 q.m, .int .i64 q.h, .int .i64 q.d] 30 (0, 0)) := (hE_a3.block _ hltB0).trans hL_w0
       have c10_a3 : a3.cell? ⟨B0, 10, none⟩ = some (.int .u64 q.b) := (cell_of_row _ _ _ _ _ _ hL_a3).trans rfl))
  refine (put_i (q.b) 8 _ HQ.out.b (by decide) (by decide)).mono ?_
  rintro e p6 ⟨g6, rfl, hi6, hx6⟩
  have hE_p6 := hE_a3.trans hx6
  have hown_p6 := owns_ext hO_a3 hx6
  clear hx6 hO_a3 hE_a3 hL_a3 c10_a3 hi5 hown_p5 hE_p5
  go_wp2_with (first
    | fail
    | (at_builtin; refine wpList_app rfl _ _ rfl w0 hE_p6 _ _ (e3 q) (bts (q.b).toNat 8) rfl rfl hown_p6 hi6 (by rw [hl3, bts_len]; omega) ?_
       intro va4 a4 hown_a4 hE_a4 hg_a4
       have hO_a4 : a4.ownsRow w0.heap.size 5 1 va4 (e4 q).length ((e4 q).map (Value.int .u8)) := hown_a4
       clear hown_a4 hg_a4
       have hL_a4 : a4.heap[B0]? = some (.cells #[.int .i64 q.kd, .bool q.ch, .bool q.ak, .bool q.pr, .bool q.ag, .bool q.ln, .bool q.fw, .int .i64 q.ro, .int .u64 q.r, .int .u32 q.c, .int .u64 q.b, .int .u16 q.p, .int .u16 q.x, .int .i64 q.a, .int .i64 q.m, .int .i64 q.h, .int .i64 q.d] 30 (0, 0)) := (hE_a4.block _ hltB0).trans hL_w0
       have c11_a4 : a4.cell? ⟨B0, 11, none⟩ = some (.int .u16 q.p) := (cell_of_row _ _ _ _ _ _ hL_a4).trans rfl))
  refine (put_i (q.p) 2 _ ⟨HQ.out.p.1, by have := HQ.out.p.2; omega⟩ (by decide) (by decide)).mono ?_
  rintro e p7 ⟨g7, rfl, hi7, hx7⟩
  have hE_p7 := hE_a4.trans hx7
  have hown_p7 := owns_ext hO_a4 hx7
  clear hx7 hO_a4 hE_a4 hL_a4 c11_a4 hi6 hown_p6 hE_p6
  go_wp2_with (first
    | fail
    | (at_builtin; refine wpList_app rfl _ _ rfl w0 hE_p7 _ _ (e4 q) (bts (q.p).toNat 2) rfl rfl hown_p7 hi7 (by rw [hl4, bts_len]; omega) ?_
       intro va5 a5 hown_a5 hE_a5 hg_a5
       have hO_a5 : a5.ownsRow w0.heap.size 5 1 va5 (e5 q).length ((e5 q).map (Value.int .u8)) := hown_a5
       clear hown_a5 hg_a5
       have hL_a5 : a5.heap[B0]? = some (.cells #[.int .i64 q.kd, .bool q.ch, .bool q.ak, .bool q.pr, .bool q.ag, .bool q.ln, .bool q.fw, .int .i64 q.ro, .int .u64 q.r, .int .u32 q.c, .int .u64 q.b, .int .u16 q.p, .int .u16 q.x, .int .i64 q.a, .int .i64 q.m, .int .i64 q.h, .int .i64 q.d] 30 (0, 0)) := (hE_a5.block _ hltB0).trans hL_w0
       have c13_a5 : a5.cell? ⟨B0, 13, none⟩ = some (.int .i64 q.a) := (cell_of_row _ _ _ _ _ _ hL_a5).trans rfl
       have c14_a5 : a5.cell? ⟨B0, 14, none⟩ = some (.int .i64 q.m) := (cell_of_row _ _ _ _ _ _ hL_a5).trans rfl
       have c15_a5 : a5.cell? ⟨B0, 15, none⟩ = some (.int .i64 q.h) := (cell_of_row _ _ _ _ _ _ hL_a5).trans rfl
       have c16_a5 : a5.cell? ⟨B0, 16, none⟩ = some (.int .i64 q.d) := (cell_of_row _ _ _ _ _ _ hL_a5).trans rfl))
  have hTB : (a5.alloc (.cells #[.int .i64 q.a, .int .i64 q.m, .int .i64 q.h, .int .i64 q.d] 3)).heap[a5.heap.size]? = some (.cells #[.int .i64 q.a, .int .i64 q.m, .int .i64 q.h, .int .i64 q.d] 3 (0, 0)) := heap_alloc_new _ _
  have hE_b := hE_a5.trans ((Ext.refl a5).alloc (.cells #[.int .i64 q.a, .int .i64 q.m, .int .i64 q.h, .int .i64 q.d] 3))
  have hO_b := hO_a5.alloc (.cells #[.int .i64 q.a, .int .i64 q.m, .int .i64 q.h, .int .i64 q.d] 3)
  generalize a5.alloc (.cells #[.int .i64 q.a, .int .i64 q.m, .int .i64 q.h, .int .i64 q.d] 3) = b0 at *
  obtain ⟨T0, hT0⟩ : ∃ n, a5.heap.size = n := ⟨_, rfl⟩
  rw [hT0] at hTB ⊢
  clear hT0 hO_a5 hE_a5 hL_a5 c13_a5 c14_a5 c15_a5 c16_a5 hi7 hown_p7 hE_p7
  go_loopw [62, 3] (fun i v wr => ∃ n : Nat, n ≤ 4 ∧ i = .int .i64 n ∧ wr.ownsRow w0.heap.size 5 1 v (e6 q n).length ((e6 q n).map (Value.int .u8)) ∧ wr.heap[T0]? = some (.cells #[.int .i64 q.a, .int .i64 q.m, .int .i64 q.h, .int .i64 q.d] 3 (0, 0)) ∧ Ext w0 wr) (fun i _ _ => 4 - (intOf i).toNat)
  case atStart => exact ⟨0, by omega, rfl, hO_b, hTB, hE_b⟩
  case round =>
    clear hO_b hTB hE_b
    obtain ⟨n, hn, rfl, hO, hTB, hE⟩ := hrel
    by_cases hlt : n < 4
    · have cn : wr.cell? ⟨T0, n, none⟩ = some (.int .i64 (tm q n)) := (cell_of_row _ _ _ _ _ _ hTB).trans (by
        match n, hlt with
        | 0, _ => rfl
        | 1, _ => rfl
        | 2, _ => rfl
        | 3, _ => rfl)
      have hv := toV_rg (tm q n)
      have htw : IntKind.u64.wrap (toV (tm q n)) = toV (tm q n) := by rw [IntKind.wrap_u64]; omega
      go_wp2_with fail
      refine (to_any (tm q n) wr).mono ?_
      rintro e _ ⟨rfl, rfl⟩
      go_wp2_with fail
      refine (put_i (toV (tm q n)) 2 _ ⟨hv.1, by omega⟩ (by decide) (by decide)).mono ?_
      rintro e p ⟨gp, rfl, hip, hxp⟩
      have hop := owns_ext hO hxp
      have hEp := hE.trans hxp
      have hTp := (hxp.block _ (heap_lt hTB)).trans hTB
      clear hO hE hxp cn hTB
      go_wp2_with (first
        | fail
        | (at_builtin; refine wpList_app rfl _ _ rfl w0 hEp _ _ (e6 q n) (bts (toV (tm q n)).toNat 2) rfl rfl hop hip (by rw [hl6, bts_len]; omega) ?_
           intro vq wq hown_wq hE_wq hg_wq
           have hTq := far_keep hop hTp (by decide) hg_wq
           clear hop hTp hip hEp hg_wq))
      go_roundw
      case rel => exact ⟨n + 1, by omega, by go_num, hown_wq, hTq, hE_wq⟩
      case measure => simp [intOf]; omega
    · obtain rfl : n = 4 := by omega
      have hL_r : wr.heap[B0]? = some (.cells #[.int .i64 q.kd, .bool q.ch, .bool q.ak, .bool q.pr, .bool q.ag, .bool q.ln, .bool q.fw, .int .i64 q.ro, .int .u64 q.r, .int .u32 q.c, .int .u64 q.b, .int .u16 q.p, .int .u16 q.x, .int .i64 q.a, .int .i64 q.m, .int .i64 q.h, .int .i64 q.d] 30 (0, 0)) := (hE.block _ hltB0).trans hL_w0
      have c0 : wr.cell? ⟨B0, 0, none⟩ = some (.int .i64 q.kd) := (cell_of_row _ _ _ _ _ _ hL_r).trans rfl
      by_cases hk2 : q.kd = 2
      · rw [hk2] at c0
        have hone : IsInts (wr.alloc (.cells #[.int .u8 0] 5)) .u8 (.slice (some ⟨wr.heap.size, 0, none⟩) 1 1) [0] := isBytes_alloc wr [0] 1 5 (by decide) (Nat.le_refl _) (by decide)
        go_wp2_with (first
          | fail
          | (at_builtin; refine wpList_app rfl _ _ rfl w0 (hE.trans ((Ext.refl wr).alloc _)) _ _ (e6 q 4) ([0]) rfl rfl (hO.alloc _) hone (by rw [hl6]; decide) ?_
             intro vq wq hown_wq hE_wq hg_wq
             have hz1 := hown_wq
             have hz2 := hE_wq
             clear hown_wq hE_wq hg_wq))
        go_ret
        refine ⟨_, rfl, ?_, hE_w0.trans hz2⟩
        have e : encL q = e6 q 4 ++ [0] := by unfold encL; rw [if_neg (by omega), if_pos hk2]
        rw [e]
        exact owns_base hz1 hE_w0.size
      · have hk2b : (q.kd == 2) = false := by simpa using hk2
        go_wp2_with fail
        go_ret
        refine ⟨_, rfl, ?_, hE_w0.trans hE⟩
        have e : encL q = e6 q 4 := by unfold encL; rw [if_pos (by omega)]
        rw [e]
        exact owns_base hO hE_w0.size
set_option maxRecDepth 100000 in
set_option maxHeartbeats 2000000 in
theorem enc_tcn (q : Mg) (hk : q.kd = 1) (w : World) : Calls Try.prog 17 #[.agg #[.int .i64 q.kd, .bool q.ch, .bool q.ak, .bool q.pr, .bool q.ag, .bool q.ln, .bool q.fw, .int .i64 q.ro, .int .u64 q.r, .int .u32 q.c, .int .u64 q.b, .int .u16 q.p, .int .u16 q.x, .int .i64 q.a, .int .i64 q.m, .int .i64 q.h, .int .i64 q.d]] w (Owned w (encL q)) := by
  have hsl := sl_eq
  have hk1 : (q.kd == 1) = true := by simpa using hk
  have HK := Lib.hid hk
  clear hk
  go_enter Try.func17, Try.ntmps17
  go_wp2_with fail
  have hL_w0 : (w.alloc (.cells #[.int .i64 q.kd, .bool q.ch, .bool q.ak, .bool q.pr, .bool q.ag, .bool q.ln, .bool q.fw, .int .i64 q.ro, .int .u64 q.r, .int .u32 q.c, .int .u64 q.b, .int .u16 q.p, .int .u16 q.x, .int .i64 q.a, .int .i64 q.m, .int .i64 q.h, .int .i64 q.d] 30)).heap[w.heap.size]? = some (.cells #[.int .i64 q.kd, .bool q.ch, .bool q.ak, .bool q.pr, .bool q.ag, .bool q.ln, .bool q.fw, .int .i64 q.ro, .int .u64 q.r, .int .u32 q.c, .int .u64 q.b, .int .u16 q.p, .int .u16 q.x, .int .i64 q.a, .int .i64 q.m, .int .i64 q.h, .int .i64 q.d] 30 (0, 0)) := heap_alloc_new _ _
  have hE_w0 : Ext w (w.alloc (.cells #[.int .i64 q.kd, .bool q.ch, .bool q.ak, .bool q.pr, .bool q.ag, .bool q.ln, .bool q.fw, .int .i64 q.ro, .int .u64 q.r, .int .u32 q.c, .int .u64 q.b, .int .u16 q.p, .int .u16 q.x, .int .i64 q.a, .int .i64 q.m, .int .i64 q.h, .int .i64 q.d] 30)) := (Ext.refl _).alloc _
  generalize w.alloc (.cells #[.int .i64 q.kd, .bool q.ch, .bool q.ak, .bool q.pr, .bool q.ag, .bool q.ln, .bool q.fw, .int .i64 q.ro, .int .u64 q.r, .int .u32 q.c, .int .u64 q.b, .int .u16 q.p, .int .u16 q.x, .int .i64 q.a, .int .i64 q.m, .int .i64 q.h, .int .i64 q.d] 30) = w0 at *
  have hltB0 := heap_lt hL_w0
  obtain ⟨B0, hB0⟩ : ∃ n, w.heap.size = n := ⟨_, rfl⟩
  rw [hB0] at hL_w0 hltB0 ⊢
  have c0_w0 : w0.cell? ⟨B0, 0, none⟩ = some (.int .i64 q.kd) := (cell_of_row _ _ _ _ _ _ hL_w0).trans rfl
  go_wp2_with fail
  refine (head_yes q.kd _ (.inr (.inl HK.out))).mono ?_
  rintro e w1 ⟨rfl, hown_w1, hE_w1⟩
  have c0 := (hE_w1.cell (p := ⟨B0, 0, none⟩) hltB0).trans c0_w0
  go_wp2_with fail
  go_ret
  refine ⟨_, rfl, ?_, hE_w0.trans hE_w1⟩
  have e : encL q = headL q.kd := by have hk := HK.out; unfold encL; rw [if_neg (by omega), if_neg (by omega)]
  rw [e]
  exact owns_base hown_w1 hE_w0.size
theorem enc_none (q : Mg) (hk : ¬ (q.kd = 0 ∨ q.kd = 1 ∨ q.kd = 2)) (w : World) : Calls Try.prog 17 #[.agg #[.int .i64 q.kd, .bool q.ch, .bool q.ak, .bool q.pr, .bool q.ag, .bool q.ln, .bool q.fw, .int .i64 q.ro, .int .u64 q.r, .int .u32 q.c, .int .u64 q.b, .int .u16 q.p, .int .u16 q.x, .int .i64 q.a, .int .i64 q.m, .int .i64 q.h, .int .i64 q.d]] w fun e w' => e = .returned (.slice none 0 0) ∧ Ext w w' := by
  have hsl := sl_eq0
  have hk1 : (q.kd == 1) = false := by simp; omega
  go_enter Try.func17, Try.ntmps17
  go_wp2_with fail
  have hL_w0 : (w.alloc (.cells #[.int .i64 q.kd, .bool q.ch, .bool q.ak, .bool q.pr, .bool q.ag, .bool q.ln, .bool q.fw, .int .i64 q.ro, .int .u64 q.r, .int .u32 q.c, .int .u64 q.b, .int .u16 q.p, .int .u16 q.x, .int .i64 q.a, .int .i64 q.m, .int .i64 q.h, .int .i64 q.d] 30)).heap[w.heap.size]? = some (.cells #[.int .i64 q.kd, .bool q.ch, .bool q.ak, .bool q.pr, .bool q.ag, .bool q.ln, .bool q.fw, .int .i64 q.ro, .int .u64 q.r, .int .u32 q.c, .int .u64 q.b, .int .u16 q.p, .int .u16 q.x, .int .i64 q.a, .int .i64 q.m, .int .i64 q.h, .int .i64 q.d] 30 (0, 0)) := heap_alloc_new _ _
  have hE_w0 : Ext w (w.alloc (.cells #[.int .i64 q.kd, .bool q.ch, .bool q.ak, .bool q.pr, .bool q.ag, .bool q.ln, .bool q.fw, .int .i64 q.ro, .int .u64 q.r, .int .u32 q.c, .int .u64 q.b, .int .u16 q.p, .int .u16 q.x, .int .i64 q.a, .int .i64 q.m, .int .i64 q.h, .int .i64 q.d] 30)) := (Ext.refl _).alloc _
  generalize w.alloc (.cells #[.int .i64 q.kd, .bool q.ch, .bool q.ak, .bool q.pr, .bool q.ag, .bool q.ln, .bool q.fw, .int .i64 q.ro, .int .u64 q.r, .int .u32 q.c, .int .u64 q.b, .int .u16 q.p, .int .u16 q.x, .int .i64 q.a, .int .i64 q.m, .int .i64 q.h, .int .i64 q.d] 30) = w0 at *
  have hltB0 := heap_lt hL_w0
  obtain ⟨B0, hB0⟩ : ∃ n, w.heap.size = n := ⟨_, rfl⟩
  rw [hB0] at hL_w0 hltB0 ⊢
  have c0_w0 : w0.cell? ⟨B0, 0, none⟩ = some (.int .i64 q.kd) := (cell_of_row _ _ _ _ _ _ hL_w0).trans rfl
  go_wp2_with fail
  refine (head_no q.kd _ hk).mono ?_
  rintro e _ ⟨rfl, rfl⟩
  go_wp2_with fail
  go_ret
  refine ⟨rfl, hE_w0⟩
/-- What a message is encoded to, by the program. -/
theorem enc_any (q : Mg) (hq : q.ok) (w : World) : Calls Try.prog 17 #[.agg #[.int .i64 q.kd, .bool q.ch, .bool q.ak, .bool q.pr, .bool q.ag, .bool q.ln, .bool q.fw, .int .i64 q.ro, .int .u64 q.r, .int .u32 q.c, .int .u64 q.b, .int .u16 q.p, .int .u16 q.x, .int .i64 q.a, .int .i64 q.m, .int .i64 q.h, .int .i64 q.d]] w (Owned w (encL q)) := by
  by_cases hk : q.kd = 0 ∨ q.kd = 1 ∨ q.kd = 2
  · rcases hk with hk | hk | hk
    · exact enc_body q hq (.inl hk) w
    · exact enc_tcn q hk w
    · exact enc_body q hq (.inr hk) w
  · refine (enc_none q hk w).mono ?_
    rintro e w' ⟨rfl, hx⟩
    refine ⟨_, rfl, ?_, hx⟩
    have e : encL q = [] := by unfold encL headL; rw [if_neg (by omega), if_neg (by omega), if_neg (by omega), if_neg (by omega), if_neg (by omega)]
    rw [e]
    exact World.ownsRow_nil w' w.heap.size 5 1

end Go.Proofs.Ytdfaagchlnkpnaa
