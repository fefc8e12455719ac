/- Which role a port is to have: the best of what is offered, by the program. No statement is proved here. -/
import Derived.Test.YthfoacgdkoijeaaSelD
namespace Go.Proofs.Ythfoacgdkoijeaa
open Go.RowKit Go.BigFrame Go.WideShapes Go.ChangeShapes Go.Deep
set_option linter.unusedVariables false
set_option linter.unusedSimpArgs false

def offV (B : Br) (n : Nat) : Array Value := if offers B n = true then #[.int .u64 (B.gi n 68), .int .u32 (thr (B.gi n 69) (B.gi n 1)), .int .u64 (B.gi n 70), .int .u16 (B.gi n 71), .int .u16 (B.gi n 0)] else VZ
theorem offer_B {w : World} (B : Br) (ho : B.ok) (n : Nat) (hn : n < B.np) (G o X : Nat) (hP : Pr w G o (port B.ps n)) (hid0 : w.cell? ⟨X, 0, none⟩ = some (.int .u64 (B.hi 0))) (hXl : X < w.heap.size) :
    Calls Try.prog 50 #[.pointer (some ⟨X, 0, none⟩), .pointer (some ⟨G, o, none⟩)] w fun e w' => e = .returned (.tuple #[.agg (offV B n), .bool (offers B n)]) ∧ Ext w w' := by
  have c0 : (port B.ps n)[0]? = some (.int .u16 (B.gi n 0)) := (port_at (by decide)).trans (ho.gi hn 0 rfl)
  have c1 : (port B.ps n)[1]? = some (.int .u32 (B.gi n 1)) := (port_at (by decide)).trans (ho.gi hn 1 rfl)
  have c68 : (port B.ps n)[68]? = some (.int .u64 (B.gi n 68)) := (port_at (by decide)).trans (ho.gi hn 68 rfl)
  have c69 : (port B.ps n)[69]? = some (.int .u32 (B.gi n 69)) := (port_at (by decide)).trans (ho.gi hn 69 rfl)
  have c70 : (port B.ps n)[70]? = some (.int .u64 (B.gi n 70)) := (port_at (by decide)).trans (ho.gi hn 70 rfl)
  have c71 : (port B.ps n)[71]? = some (.int .u16 (B.gi n 71)) := (port_at (by decide)).trans (ho.gi hn 71 rfl)
  have c72 : (port B.ps n)[72]? = some (.int .u16 (B.gi n 72)) := (port_at (by decide)).trans (ho.gi hn 72 rfl)
  have c86 : (port B.ps n)[86]? = some (.int .i64 (B.gi n 86)) := (port_at (by decide)).trans (ho.gi hn 86 rfl)
  have gid := wf_u64 (ho.hw 0 (K := .u64) rfl)
  have g70 := wf_u64 (ho.gw hn 70 (K := .u64) rfl)
  have g69 := wf_u32 (ho.gw hn 69 (K := .u32) rfl)
  have g1 := wf_u32 (ho.gw hn 1 (K := .u32) rfl)
  have hl := hP.2.1
  unfold offV
  by_cases e3 : B.gi n 86 = 3
  · cases hs : sameA (B.gi n 70) (B.hi 0)
    · have ht : offers B n = true := by simp [offers, e3, hs]
      rw [ht, if_pos rfl]
      rw [e3] at c86
      exact offer_yes G o _ hP hl X (B.hi 0) hid0 hXl gid _ c0 _ c1 _ c68 _ c69 _ c70 _ c71 _ c72 c86 g70 g69 g1 hs
    · have ht : offers B n = false := by simp [offers, hs]
      rw [ht, if_neg (by simp)]
      rw [e3] at c86
      exact offer_own G o _ hP hl X (B.hi 0) hid0 hXl gid _ c0 _ c1 _ c68 _ c69 _ c70 _ c71 _ c72 c86 g70 g69 g1 hs
  · have ht : offers B n = false := by
      unfold offers
      rw [ne_b e3]
      rfl
    rw [ht, if_neg (by simp)]
    exact offer_is3 G o _ hP hl X (B.hi 0) hid0 hXl gid _ c0 _ c1 _ c68 _ c69 _ c70 _ c71 _ c72 _ c86 g70 g69 g1 (by simpa using e3)

set_option maxRecDepth 100000 in
set_option maxHeartbeats 2000000 in
/-- The best of all, and where it was heard. -/
theorem root_any (c : Array Value) (B : Br) (w : World) (hb : BrC w c B) (ho : B.ok) (hn : B.np < 1000) :
    Calls Try.prog 29 #[.agg c] w fun e w' => e = .returned (.tuple #[.agg (rootF B B.np).cells, .int .i64 (rootF B B.np).at_]) ∧ Ext w w' := by
  obtain ⟨s1, s2, s3, hz, hhd, c17, c18, c19, r1, -, -⟩ := hb.facts ho.hd.1
  obtain ⟨a1, k1, rfl, m1, f1⟩ := r1.form
  have c0 := (hhd 0 (by decide)).trans (ho.hi 0 rfl)
  have F1 := Lib.hid f1
  have C17 := Lib.hid c17
  have hzv := zero_vec
  clear hz hhd c17 c18 c19 r1 f1 hb
  go_enter Try.func29, Try.ntmps29
  go_wp2_with (first
    | fail
    | ((with_reducible refine at_box 33 ?_); refine bx_row rfl 33 _ rfl c rfl ?_
       intro X0 z1 hq hs hx
       have HX1 := Lib.hid hq
       have HE1 := Lib.hid hx
       have HXw := Lib.hid (show w.heap.size ≤ X0 by omega)
       clear hq hs hx)
    | ((with_reducible refine at_alloc 28 ?_); refine al_zero rfl 28 rfl VZ zero_vec ?_
       intro R0 z2 hq hs hx
       have HR2 := Lib.hid hq
       have hX2 := (hx.block _ (heap_lt HX1.out)).trans HX1.out
       have HX2 := Lib.hid hX2
       have HE2 := Lib.hid (HE1.out.trans hx)
       have HRw := Lib.hid (show w.heap.size ≤ R0 by have := HE1.out.size; omega)
       have hne : X0 ≠ R0 := by have := heap_lt HX1.out; omega
       have x0 : z2.cell? ⟨X0, 0, none⟩ = some (.int .u64 (B.hi 0)) := (cell_of_row _ _ _ _ _ _ hX2).trans c0
       clear hq hs hx hX2 HE1))
  refine (vown_any (B.hi 0) _).mono ?_
  rintro e z3 ⟨rfl, hx⟩
  have HR3 := Lib.hid ((hx.block _ (heap_lt HR2.out)).trans HR2.out)
  have HX3 := Lib.hid ((hx.block _ (heap_lt HX2.out)).trans HX2.out)
  have HE3 := Lib.hid (HE2.out.trans hx)
  clear hx x0 HR2 HX2 HE2 HX1
  go_wp2_with (first
    | fail
    | ((with_reducible refine at_store 28 ?_); refine st_at rfl rfl 28 _ _ rfl R0 0 _ #[.int .u64 (B.hi 0), .int .u32 0, .int .u64 (B.hi 0), .int .u16 0, .int .u16 0] _ #[.int .u64 (B.hi 0), .int .u32 0, .int .u64 (B.hi 0), .int .u16 0, .int .u16 0] _ rfl rfl rfl HR3.out (by exact (by decide : 0 + 5 ≤ 5)) (by kernel_rfl) rfl rfl ?_
       intro z4 hq hm
       have HR4 := Lib.hid hq
       have hX4 := (hm.heap (heap_lt HX3.out) (show ¬ X0 = R0 from hne)).trans HX3.out
       have HX4 := Lib.hid hX4
       have HE4 := Lib.hid (Ext.mutE HE3.out hm (fun n hn h => by have h2 : n = R0 := h; have := HRw.out; omega))
       have x17 : z4.cell? ⟨X0, 17, none⟩ = some (.slice a1 B.np k1) := (cell_of_row _ _ _ _ _ _ hX4).trans C17.out
       clear hq hm hX4))
  go_loopw [13, 3] (fun v a wr => ∃ n : Nat, n ≤ B.np ∧ v = .int .i64 n ∧ a = .int .i64 (rootF B n).at_ ∧ wr.heap[R0]? = some (.cells (rootF B n).cells 28 (0, 0)) ∧ Mut (fun n => n = R0) z4 wr) (fun v _ _ => B.np - (intOf v).toNat)
  case atStart => exact ⟨0, by omega, rfl, rfl, HR4.out, Mut.refl _ _⟩
  case round =>
    clear x17
    obtain ⟨n, hn2, rfl, rfl, hR, hm⟩ := hrel
    have HR := Lib.hid hR
    have HM := Lib.hid hm
    have HX := Lib.hid ((hm.heap (heap_lt HX4.out) (show ¬ X0 = R0 from hne)).trans HX4.out)
    have HE := Lib.hid (Ext.mutE HE4.out hm (fun n hn h => by have h2 : n = R0 := h; have := HRw.out; omega))
    clear hR hm
    have x17 := (cell_of_row _ _ 17 _ _ _ HX.out).trans C17.out
    obtain ⟨v, hv⟩ : ∃ v, rootF B n = v := ⟨_, rfl⟩
    by_cases hlt : n < B.np
    · have HS := Lib.hid (show rootF B (n + 1) = if (offers B n && (rootF B n).lt (B.gi n 68) (thr (B.gi n 69) (B.gi n 1)) (B.gi n 70) (B.gi n 71) (B.gi n 0)) = true then ⟨B.gi n 68, thr (B.gi n 69) (B.gi n 1), B.gi n 70, B.gi n 71, B.gi n 0, n⟩ else rootF B n from rfl)
      rw [hv] at HS HR ⊢
      clear hv
      obtain ⟨bb, off, rfl, hbl, hlc, hcm, hrg⟩ := F1.out (by omega)
      have hXr : X0 < wr.heap.size := heap_lt HX.out
      have hPr : Pr wr bb (off + n * 89) (port B.ps n) := ⟨Nat.lt_of_lt_of_le hbl HE.out.size, port_len (len89 ho hlt), rangeAt_ext (port_range hrg n) HE.out hbl⟩
      have HP := Lib.hid hPr
      have hi0 := Lib.hid ((cell_of_row _ _ 0 _ _ _ HX.out).trans c0)
      clear hrg hPr
      go_wp2_with fail
      refine (offer_B B ho n hlt bb (off + n * 89) X0 HP.out hi0.out hXr).mono ?_
      rintro e y1 ⟨rfl, hx⟩
      have HR1 := Lib.hid ((hx.block _ (heap_lt HR.out)).trans HR.out)
      have HM1 := Lib.hid (HM.out.trans (hx.mut _))
      clear hx HP hi0 x17 hXr
      obtain ⟨ok, hok⟩ : ∃ b, offers B n = b := ⟨_, rfl⟩
      have HOV := Lib.hid (show offV B n = if ok = true then #[.int .u64 (B.gi n 68), .int .u32 (thr (B.gi n 69) (B.gi n 1)), .int .u64 (B.gi n 70), .int .u16 (B.gi n 71), .int .u16 (B.gi n 0)] else VZ by unfold offV; rw [hok])
      rw [hok] at HS ⊢
      clear hok
      cases ok
      · rw [show offV B n = VZ from HOV.out]
        go_wp2_with (first
          | fail
          | ((with_reducible refine at_alloc 28 ?_); refine al_zero rfl 28 rfl VZ zero_vec ?_
             intro V0 y2 hq hs hx
             have HV2 := Lib.hid hq
             have HR2 := Lib.hid ((hx.block _ (heap_lt HR1.out)).trans HR1.out)
             have HM2 := Lib.hid (HM1.out.trans (hx.mut _))
             have hnv : V0 ≠ R0 := by have := heap_lt HR1.out; omega
             have hvz : z4.heap.size ≤ V0 := by have := HM1.out.size; omega
             clear hq hs hx)
          | ((with_reducible refine at_store 28 ?_); refine st_at rfl rfl 28 _ _ rfl V0 0 _ VZ _ VZ _ rfl rfl rfl HV2.out (by exact (by decide : 0 + 5 ≤ 5)) (by kernel_rfl) rfl rfl ?_
             intro y3 hq hm
             have HV3 := Lib.hid hq
             have HR3 := Lib.hid ((hm.heap (heap_lt HR2.out) (show ¬ R0 = V0 from Ne.symm hnv)).trans HR2.out)
             have HM3 := Lib.hid (mut_new HM2.out hm hvz)
             clear hq hm))
        go_roundw
        case rel => exact ⟨n + 1, by omega, by go_num, by rw [HS.out]; rfl, by rw [HS.out]; exact HR3.out, HM3.out⟩
        case measure => simp [intOf]; omega
      · rw [show offV B n = #[.int .u64 (B.gi n 68), .int .u32 (thr (B.gi n 69) (B.gi n 1)), .int .u64 (B.gi n 70), .int .u16 (B.gi n 71), .int .u16 (B.gi n 0)] from HOV.out]
        obtain ⟨lt, hlt2⟩ : ∃ b, v.lt (B.gi n 68) (thr (B.gi n 69) (B.gi n 1)) (B.gi n 70) (B.gi n 71) (B.gi n 0) = b := ⟨_, rfl⟩
        rw [hlt2] at HS
        have HLT := Lib.hid (show decide (c5 (B.gi n 68) (thr (B.gi n 69) (B.gi n 1)) (B.gi n 70) (B.gi n 71) (B.gi n 0) v.r v.c v.b v.p v.x < 0) = lt from hlt2)
        have HVC := Lib.hid (show v.cells = #[.int .u64 v.r, .int .u32 v.c, .int .u64 v.b, .int .u16 v.p, .int .u16 v.x] from rfl)
        rw [HVC.out] at HR1
        clear hlt2
        go_wp2_with (first
          | fail
          | ((with_reducible refine at_alloc 28 ?_); refine al_zero rfl 28 rfl VZ zero_vec ?_
             intro V0 y2 hq hs hx
             have HV2 := Lib.hid hq
             have HR2 := Lib.hid ((hx.block _ (heap_lt HR1.out)).trans HR1.out)
             have HM2 := Lib.hid (HM1.out.trans (hx.mut _))
             have hnv : V0 ≠ R0 := by have := heap_lt HR1.out; omega
             have hvz : z4.heap.size ≤ V0 := by have := HM1.out.size; omega
             clear hq hs hx)
          | ((with_reducible refine at_store 28 ?_); refine st_at rfl rfl 28 _ _ rfl V0 0 _ #[.int .u64 (B.gi n 68), .int .u32 (thr (B.gi n 69) (B.gi n 1)), .int .u64 (B.gi n 70), .int .u16 (B.gi n 71), .int .u16 (B.gi n 0)] _ #[.int .u64 (B.gi n 68), .int .u32 (thr (B.gi n 69) (B.gi n 1)), .int .u64 (B.gi n 70), .int .u16 (B.gi n 71), .int .u16 (B.gi n 0)] _ rfl rfl rfl HV2.out (by exact (by decide : 0 + 5 ≤ 5)) (by kernel_rfl) rfl rfl ?_
             intro y3 hq hm
             have HV3 := Lib.hid hq
             have HR3 := Lib.hid ((hm.heap (heap_lt HR2.out) (show ¬ R0 = V0 from Ne.symm hnv)).trans HR2.out)
             have HM3 := Lib.hid (mut_new HM2.out hm hvz)
             clear hq hm)
          | ((with_reducible refine at_loadG 28 ?_); refine wpList_load_rowG rfl 28 _ rfl V0 rfl 28 #[.int .u64 (B.gi n 68), .int .u32 (thr (B.gi n 69) (B.gi n 1)), .int .u64 (B.gi n 70), .int .u16 (B.gi n 71), .int .u16 (B.gi n 0)] (0, 0) _ HV3.out Try.underlying28 rfl (by kernel_rfl) ?_)
          | ((with_reducible refine at_loadG 28 ?_); refine wpList_load_rowG rfl 28 _ rfl R0 rfl 28 #[.int .u64 v.r, .int .u32 v.c, .int .u64 v.b, .int .u16 v.p, .int .u16 v.x] (0, 0) _ HR3.out Try.underlying28 rfl (by kernel_rfl) ?_))
        refine (asb (vbetter_any _ _ _ _ _ _ _ _ _ _ _) HLT.out).mono ?_
        rintro e y4 ⟨rfl, hx⟩
        have HV4 := Lib.hid ((hx.block _ (heap_lt HV3.out)).trans HV3.out)
        have HR4b := Lib.hid ((hx.block _ (heap_lt HR3.out)).trans HR3.out)
        have HM4 := Lib.hid (HM3.out.trans (hx.mut _))
        clear hx
        cases lt
        · go_wp2_with fail
          go_roundw
          case rel => exact ⟨n + 1, by omega, by go_num, by rw [HS.out]; rfl, by rw [HS.out]; exact HR4b.out, HM4.out⟩
          case measure => simp [intOf]; omega
        · go_wp2_with (first
            | fail
            | ((with_reducible refine at_load 28 ?_); refine wpList_load_row rfl 28 _ rfl V0 rfl 28 #[.int .u64 (B.gi n 68), .int .u32 (thr (B.gi n 69) (B.gi n 1)), .int .u64 (B.gi n 70), .int .u16 (B.gi n 71), .int .u16 (B.gi n 0)] (0, 0) _ HV4.out Try.underlying28 rfl (by kernel_rfl) ?_)
            | ((with_reducible refine at_store 28 ?_); refine st_at rfl rfl 28 _ _ rfl R0 0 _ #[.int .u64 (B.gi n 68), .int .u32 (thr (B.gi n 69) (B.gi n 1)), .int .u64 (B.gi n 70), .int .u16 (B.gi n 71), .int .u16 (B.gi n 0)] _ #[.int .u64 (B.gi n 68), .int .u32 (thr (B.gi n 69) (B.gi n 1)), .int .u64 (B.gi n 70), .int .u16 (B.gi n 71), .int .u16 (B.gi n 0)] _ rfl rfl rfl HR4b.out (by exact (by decide : 0 + 5 ≤ 5)) (by kernel_rfl) rfl rfl ?_
               intro y5 hq hm
               have HR5 := Lib.hid hq
               have HM5 := Lib.hid (HM4.out.trans hm)
               clear hq hm))
          go_roundw
          case rel => exact ⟨n + 1, by omega, by go_num, by rw [HS.out]; rfl, by rw [HS.out]; exact HR5.out, HM5.out⟩
          case measure => simp [intOf]; omega
    · obtain rfl : n = B.np := by omega
      have HVC := Lib.hid (show v.cells = #[.int .u64 v.r, .int .u32 v.c, .int .u64 v.b, .int .u16 v.p, .int .u16 v.x] from rfl)
      rw [hv] at HR ⊢
      rw [HVC.out] at HR
      have HV := Lib.hid hv
      clear hv
      go_wp2_with (first
        | fail
        | ((with_reducible refine at_load 28 ?_); refine wpList_load_row rfl 28 _ rfl R0 rfl 28 #[.int .u64 v.r, .int .u32 v.c, .int .u64 v.b, .int .u16 v.p, .int .u16 v.x] (0, 0) _ HR.out Try.underlying28 rfl (by kernel_rfl) ?_)
        | ((with_reducible refine at_store 28 ?_); refine st_at rfl rfl 28 _ _ rfl R0 0 _ #[.int .u64 v.r, .int .u32 v.c, .int .u64 v.b, .int .u16 v.p, .int .u16 v.x] _ #[.int .u64 v.r, .int .u32 v.c, .int .u64 v.b, .int .u16 v.p, .int .u16 v.x] _ rfl rfl rfl HR.out (by exact (by decide : 0 + 5 ≤ 5)) (by kernel_rfl) rfl rfl ?_
           intro y5 hq hm
           have HR5 := Lib.hid hq
           have HE5 := Lib.hid (Ext.mutE HE.out hm (fun n hn h => by have h2 : n = R0 := h; have := HRw.out; omega))
           clear hq hm))
      refine bodyPost_ret (results_crt rfl _ _ _ _ _ (0, 0) _ rfl HR5.out Try.underlying28 rfl (by kernel_rfl)) rfl ?_
      rw [HV.out]
      exact ⟨rfl, HE5.out⟩

end Go.Proofs.Ythfoacgdkoijeaa
