/- The frame of a message by the document. No statement is proved here. -/
import Derived.Test.YtdfaagchlnkpnaaLlJ
import Derived.Test.YtdfaagchlnkpnaaBpL
namespace Go.Proofs.Ytdfaagchlnkpnaa
open Go.RowKit Go.BigFrame Go.WideShapes Go.ChangeShapes Go.Deep
set_option linter.unusedVariables false
set_option linter.unusedSimpArgs false

theorem own6 (w : World) : (w.alloc (.cells #[.int .u8 1, .int .u8 128, .int .u8 194, .int .u8 0, .int .u8 0, .int .u8 0] 5)).ownsRow w.heap.size 5 1 (.slice (some ⟨w.heap.size, 0, none⟩) 6 6) ([1, 128, 194, 0, 0, 0] : List Int).length (([1, 128, 194, 0, 0, 0] : List Int).map (Value.int .u8)) :=
  ⟨rfl, .inr ⟨w.heap.size, 6, _, rfl, Nat.le_refl _, heap_alloc_new _ _, Nat.le_refl _, by decide, rfl, rfl⟩⟩
theorem f3_eq (s : Int) (n : Nat) : f3 s n = f1 s ++ [0, 3 + (n : Int), 66, 66, 3] := by
  unfold f3 f2
  simp
theorem zrs_snoc (t : Nat) : zrs (t + 1) = zrs t ++ [0] := by
  unfold zrs
  exact List.replicate_succ'
def sLen : Value → Nat | .slice _ l _ => l | _ => 0
set_option maxRecDepth 100000 in
set_option maxHeartbeats 2000000 in
theorem dwrap_yes (s : Int) (hs : 0 ≤ s ∧ s < 18446744073709551616) (q : Mg) (hq : q.ok) (hk : q.kd = 0 ∨ q.kd = 1 ∨ q.kd = 2) (w : World) : Calls Try.prog 24 #[.int .u64 s, .agg #[.int .i64 q.kd, .bool q.ch, .bool q.ak, .bool q.pr, .bool q.ag, .bool q.ln, .bool q.fw, .int .i64 q.ro, .int .u64 q.r, .int .u32 q.c, .int .u64 q.b, .int .u16 q.p, .int .u16 q.x, .int .i64 q.a, .int .i64 q.m, .int .i64 q.h, .int .i64 q.d]] w (Owned w (wrapL s q)) := by
  obtain ⟨n, hl⟩ : ∃ n, (encL q).length = n := ⟨_, rfl⟩
  have hn : 1 ≤ n ∧ n ≤ 36 := by
    rw [← hl, encL_len]
    rcases hk with h | h | h <;> simp [h]
  have hb0 : ((n : Int) == 0) = false := by simp; omega
  have HS := Lib.hid hs
  have HQ := Lib.hid hq
  clear hk hs hq
  go_enter Try.func24, Try.ntmps24
  go_wp2_with fail
  have hA_w0 : (w.alloc (.cells #[.int .i64 q.kd, .bool q.ch, .bool q.ak, .bool q.pr, .bool q.ag, .bool q.ln, .bool q.fw, .int .i64 q.ro, .int .u64 q.r, .int .u32 q.c, .int .u64 q.b, .int .u16 q.p, .int .u16 q.x, .int .i64 q.a, .int .i64 q.m, .int .i64 q.h, .int .i64 q.d] 30)).heap[w.heap.size]? = some (.cells #[.int .i64 q.kd, .bool q.ch, .bool q.ak, .bool q.pr, .bool q.ag, .bool q.ln, .bool q.fw, .int .i64 q.ro, .int .u64 q.r, .int .u32 q.c, .int .u64 q.b, .int .u16 q.p, .int .u16 q.x, .int .i64 q.a, .int .i64 q.m, .int .i64 q.h, .int .i64 q.d] 30 (0, 0)) := heap_alloc_new _ _
  have hE_w0 : Ext w (w.alloc (.cells #[.int .i64 q.kd, .bool q.ch, .bool q.ak, .bool q.pr, .bool q.ag, .bool q.ln, .bool q.fw, .int .i64 q.ro, .int .u64 q.r, .int .u32 q.c, .int .u64 q.b, .int .u16 q.p, .int .u16 q.x, .int .i64 q.a, .int .i64 q.m, .int .i64 q.h, .int .i64 q.d] 30)) := (Ext.refl _).alloc _
  generalize w.alloc (.cells #[.int .i64 q.kd, .bool q.ch, .bool q.ak, .bool q.pr, .bool q.ag, .bool q.ln, .bool q.fw, .int .i64 q.ro, .int .u64 q.r, .int .u32 q.c, .int .u64 q.b, .int .u16 q.p, .int .u16 q.x, .int .i64 q.a, .int .i64 q.m, .int .i64 q.h, .int .i64 q.d] 30) = w0 at *
  obtain ⟨A0, hA0⟩ : ∃ n, w.heap.size = n := ⟨_, rfl⟩
  rw [hA0] at hA_w0 ⊢
  go_wp2_with (first
    | fail
    | ((with_reducible refine at_load 30 ?_); refine wpList_load_row rfl 30 _ rfl A0 rfl 30 #[.int .i64 q.kd, .bool q.ch, .bool q.ak, .bool q.pr, .bool q.ag, .bool q.ln, .bool q.fw, .int .i64 q.ro, .int .u64 q.r, .int .u32 q.c, .int .u64 q.b, .int .u16 q.p, .int .u16 q.x, .int .i64 q.a, .int .i64 q.m, .int .i64 q.h, .int .i64 q.d] (0, 0) _ hA_w0 Try.underlying30 rfl (by kernel_rfl) ?_))
  refine (encd_any q HQ.out _).mono ?_
  rintro e z1 ⟨vb, rfl, hown, hx⟩
  have E_z1 : Ext w0 z1 := hx
  have hA_z1 : z1.heap[A0]? = some (.cells #[.int .i64 q.kd, .bool q.ch, .bool q.ak, .bool q.pr, .bool q.ag, .bool q.ln, .bool q.fw, .int .i64 q.ro, .int .u64 q.r, .int .u32 q.c, .int .u64 q.b, .int .u16 q.p, .int .u16 q.x, .int .i64 q.a, .int .i64 q.m, .int .i64 q.h, .int .i64 q.d] 30 (0, 0)) := (hx.block _ (heap_lt hA_w0)).trans hA_w0
  have hi_z1 := isBytes_own hown
  clear hown
  clear hA_w0
  clear hx
  obtain ⟨av, cv, hv, -, -⟩ := hi_z1.form
  rw [hl] at hv
  subst hv
  go_wp2_with fail
  have hE_m := (Ext.refl z1).alloc (.cells #[.int .u8 1, .int .u8 128, .int .u8 194, .int .u8 0, .int .u8 0, .int .u8 0] 5)
  have hO_m := own6 z1
  generalize z1.alloc (.cells #[.int .u8 1, .int .u8 128, .int .u8 194, .int .u8 0, .int .u8 0, .int .u8 0] 5) = m0 at *
  refine (refput_i s 6 _ HS.out (by decide) (by decide)).mono ?_
  rintro e p0 ⟨g0, rfl, hown, hx⟩
  have hi := isBytes_own hown
  have hE_p0 := hE_m.trans hx
  have hO_p0 := owns_ext hO_m hx
  clear hx hE_m hO_m hown
  go_wp2_with (first
    | fail
    | (at_builtin; refine wpList_app rfl _ _ rfl z1 hE_p0 _ _ ([1, 128, 194, 0, 0, 0]) (bts s.toNat 6) rfl rfl hO_p0 hi (by simp [bts_len]) ?_
       intro va1 a1 hown hE_a1 hg
       have hO_a1 : a1.ownsRow z1.heap.size 5 1 va1 (f1 s).length ((f1 s).map (Value.int .u8)) := hown
       clear hown hg)
    | (at_builtin; refine wpList_app rfl _ _ rfl z1 (hE_a1.alloc _) _ _ (f1 s) ([0, 3 + (n : Int), 66, 66, 3]) rfl rfl (hO_a1.alloc _) (isBytes_alloc a1 [0, 3 + (n : Int), 66, 66, 3] 5 5 (by simp) (Nat.le_refl _) (by decide)) (by simp [f1, bts_len]) ?_
       intro va2 a2 hown hE_a2 hg
       rw [← f3_eq] at hown
       have hO_a2 : a2.ownsRow z1.heap.size 5 1 va2 (f3 s n).length ((f3 s n).map (Value.int .u8)) := hown
       clear hown hg)
    | (at_builtin; refine wpList_app rfl _ _ rfl z1 hE_a2 _ _ (f3 s n) (encL q) rfl rfl hO_a2 (hi_z1.ext hE_a2) (by rw [f3_len, hl]; omega) ?_
       intro va4 a4 hown hE_a4 hg
       have hO_a4 : a4.ownsRow z1.heap.size 5 1 va4 (f3 s n ++ encL q ++ zrs 0).length ((f3 s n ++ encL q ++ zrs 0).map (Value.int .u8)) := by
         have e0 : f3 s n ++ encL q ++ zrs 0 = f3 s n ++ encL q := by simp [zrs]
         rw [e0]
         exact hown
       clear hown hg))
  have HL := Lib.hid (fun t => show (f3 s n ++ encL q ++ zrs t).length = 17 + n + t by rw [List.length_append, List.length_append, f3_len, hl]; simp [zrs])
  have HW := Lib.hid (fun t (h : 17 + n + t = 60) => show wrapL s q = f3 s n ++ encL q ++ zrs t by unfold wrapL; rw [hl, if_neg (by omega), show t = 60 - (17 + n) by omega])
  have HZ1 := Lib.hid (hE_w0.trans E_z1)
  clear hl hb0 hE_a2 hO_a2
  go_loopw [6] (fun x wr => ∃ (t : Nat) (u : Value) (wo : World), wo = wr ∧ u = x ∧ 17 + n + t ≤ 60 ∧ wo.ownsRow z1.heap.size 5 1 u (f3 s n ++ encL q ++ zrs t).length ((f3 s n ++ encL q ++ zrs t).map (Value.int .u8)) ∧ Ext z1 wo) (fun x _ => 60 - sLen x)
  case atStart => exact ⟨0, _, _, rfl, rfl, by omega, hO_a4, hE_a4⟩
  case round =>
    clear hO_a4 hE_a4
    obtain ⟨t, u, wo, rfl, rfl, ht, hO, hE⟩ := hrel
    obtain ⟨au, cu, hu⟩ := own_form hO
    rw [HL.out] at hu
    subst hu
    have HO := Lib.hid hO
    clear hO
    by_cases hlt : 17 + n + t < 60
    · have hd : decide (((17 + n + t : Nat) : Int) < 60) = true := by simp; omega
      have HL2 := Lib.hid (HL.out t)
      go_wp2_with (first
        | fail
        | (at_builtin; refine wpList_app rfl _ _ rfl z1 (hE.alloc _) _ _ (f3 s n ++ encL q ++ zrs t) ([0]) rfl rfl (HO.out.alloc _) (isBytes_alloc wo [0] 1 5 (by decide) (Nat.le_refl _) (by decide)) (by rw [HL2.out]; show 17 + n + t + 1 ≤ 100000; omega) ?_
           intro va5 a5 hown hE_a5 hg
           have hO5 : a5.ownsRow z1.heap.size 5 1 va5 (f3 s n ++ encL q ++ zrs (t + 1)).length ((f3 s n ++ encL q ++ zrs (t + 1)).map (Value.int .u8)) := by
             rw [zrs_snoc, ← List.append_assoc]
             exact hown
           obtain ⟨a6, c6, h6⟩ := own_form hO5
           rw [HL.out] at h6
           have HO5 := Lib.hid hO5
           clear hown hg hO5))
      go_roundw
      case rel => exact ⟨t + 1, _, _, rfl, rfl, by omega, h6 ▸ HO5.out, hE_a5⟩
      case measure =>
        show 60 - (17 + n + (t + 1)) < 60 - (17 + n + t)
        omega
    · have hd : decide (((17 + n + t : Nat) : Int) < 60) = false := by simp; omega
      go_wp2_with fail
      go_ret
      refine ⟨_, rfl, ?_, HZ1.out.trans hE⟩
      rw [HW.out t (by omega)]
      exact owns_base HO.out HZ1.out.size
set_option maxRecDepth 100000 in
set_option maxHeartbeats 2000000 in
theorem dwrap_no (s : Int) (hs : 0 ≤ s ∧ s < 18446744073709551616) (q : Mg) (hq : q.ok) (hk : ¬ (q.kd = 0 ∨ q.kd = 1 ∨ q.kd = 2)) (w : World) : Calls Try.prog 24 #[.int .u64 s, .agg #[.int .i64 q.kd, .bool q.ch, .bool q.ak, .bool q.pr, .bool q.ag, .bool q.ln, .bool q.fw, .int .i64 q.ro, .int .u64 q.r, .int .u32 q.c, .int .u64 q.b, .int .u16 q.p, .int .u16 q.x, .int .i64 q.a, .int .i64 q.m, .int .i64 q.h, .int .i64 q.d]] w fun e w' => e = .returned (.slice none 0 0) ∧ Ext w w' := by
  have hl : (encL q).length = 0 := by rw [encL_len, if_neg (by omega), if_neg (by omega), if_neg (by omega)]
  have HQ := Lib.hid hq
  clear hk hq
  go_enter Try.func24, Try.ntmps24
  go_wp2_with fail
  have hA_w0 : (w.alloc (.cells #[.int .i64 q.kd, .bool q.ch, .bool q.ak, .bool q.pr, .bool q.ag, .bool q.ln, .bool q.fw, .int .i64 q.ro, .int .u64 q.r, .int .u32 q.c, .int .u64 q.b, .int .u16 q.p, .int .u16 q.x, .int .i64 q.a, .int .i64 q.m, .int .i64 q.h, .int .i64 q.d] 30)).heap[w.heap.size]? = some (.cells #[.int .i64 q.kd, .bool q.ch, .bool q.ak, .bool q.pr, .bool q.ag, .bool q.ln, .bool q.fw, .int .i64 q.ro, .int .u64 q.r, .int .u32 q.c, .int .u64 q.b, .int .u16 q.p, .int .u16 q.x, .int .i64 q.a, .int .i64 q.m, .int .i64 q.h, .int .i64 q.d] 30 (0, 0)) := heap_alloc_new _ _
  have hE_w0 : Ext w (w.alloc (.cells #[.int .i64 q.kd, .bool q.ch, .bool q.ak, .bool q.pr, .bool q.ag, .bool q.ln, .bool q.fw, .int .i64 q.ro, .int .u64 q.r, .int .u32 q.c, .int .u64 q.b, .int .u16 q.p, .int .u16 q.x, .int .i64 q.a, .int .i64 q.m, .int .i64 q.h, .int .i64 q.d] 30)) := (Ext.refl _).alloc _
  generalize w.alloc (.cells #[.int .i64 q.kd, .bool q.ch, .bool q.ak, .bool q.pr, .bool q.ag, .bool q.ln, .bool q.fw, .int .i64 q.ro, .int .u64 q.r, .int .u32 q.c, .int .u64 q.b, .int .u16 q.p, .int .u16 q.x, .int .i64 q.a, .int .i64 q.m, .int .i64 q.h, .int .i64 q.d] 30) = w0 at *
  obtain ⟨A0, hA0⟩ : ∃ n, w.heap.size = n := ⟨_, rfl⟩
  rw [hA0] at hA_w0 ⊢
  go_wp2_with (first
    | fail
    | ((with_reducible refine at_load 30 ?_); refine wpList_load_row rfl 30 _ rfl A0 rfl 30 #[.int .i64 q.kd, .bool q.ch, .bool q.ak, .bool q.pr, .bool q.ag, .bool q.ln, .bool q.fw, .int .i64 q.ro, .int .u64 q.r, .int .u32 q.c, .int .u64 q.b, .int .u16 q.p, .int .u16 q.x, .int .i64 q.a, .int .i64 q.m, .int .i64 q.h, .int .i64 q.d] (0, 0) _ hA_w0 Try.underlying30 rfl (by kernel_rfl) ?_))
  refine (encd_any q HQ.out _).mono ?_
  rintro e z1 ⟨vb, rfl, hown, hx⟩
  have E_z1 : Ext w0 z1 := hx
  have hA_z1 : z1.heap[A0]? = some (.cells #[.int .i64 q.kd, .bool q.ch, .bool q.ak, .bool q.pr, .bool q.ag, .bool q.ln, .bool q.fw, .int .i64 q.ro, .int .u64 q.r, .int .u32 q.c, .int .u64 q.b, .int .u16 q.p, .int .u16 q.x, .int .i64 q.a, .int .i64 q.m, .int .i64 q.h, .int .i64 q.d] 30 (0, 0)) := (hx.block _ (heap_lt hA_w0)).trans hA_w0
  have hi_z1 := isBytes_own hown
  clear hown
  clear hA_w0
  clear hx
  obtain ⟨av, cv, hv, -, -⟩ := hi_z1.form
  rw [hl] at hv
  subst hv
  go_wp2_with fail
  go_ret
  exact ⟨rfl, hE_w0.trans E_z1⟩

end Go.Proofs.Ytdfaagchlnkpnaa
