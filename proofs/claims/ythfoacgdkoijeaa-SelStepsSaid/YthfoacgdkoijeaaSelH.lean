/- Which role a port is to have: the best of what is offered, by the document. No statement is proved here. -/
import Derived.Test.YthfoacgdkoijeaaSelG
namespace Go.Proofs.Ythfoacgdkoijeaa
open Go.RowKit Go.BigFrame Go.WideShapes Go.ChangeShapes Go.Deep
set_option linter.unusedVariables false
set_option linter.unusedSimpArgs false

set_option maxRecDepth 100000 in
set_option maxHeartbeats 2000000 in
theorem droot_any (c : Array Value) (B : Br) (w : World) (hb : BrC w c B) (ho : B.ok) (hn : B.np < 1000) :
    Calls Try.prog 30 #[.agg c] w fun e w' => e = .returned (.tuple #[.agg (rootF B B.np).cells, .int .i64 (rootF B B.np).at_]) ∧ Ext w w' := by
  have HB := Lib.hid hb
  obtain ⟨s1, s2, s3, hz, hhd, c17, c18, c19, r1, -, -⟩ := hb.facts ho.hd.1
  obtain ⟨a1, k1, rfl, m1, f1⟩ := r1.form
  have c0 := (hhd 0 (by decide)).trans (ho.hi 0 rfl)
  have C17 := Lib.hid c17
  have hzv := zero_vec
  have hi20 := Lib.hid (show (Try.prog.info? 33).map (·.size) = some c.size by rw [hz]; exact size_br)
  clear hz hhd c17 c18 c19 r1 f1 hb
  go_enter Try.func30, Try.ntmps30
  go_upto_region 1 with (first
    | fail
    | ((with_reducible refine at_box 33 ?_); refine bx_row rfl 33 _ rfl c rfl ?_
       intro X0 z1 hq hs hx
       have HX1 := Lib.hid hq
       have HE1 := Lib.hid hx
       clear hq hs hx)
    | ((with_reducible refine at_alloc 28 ?_); refine al_zero rfl 28 rfl VZ zero_vec ?_
       intro R0 z2 hq hs hx
       have HR2 := Lib.hid hq
       have hX2 := (hx.block _ (heap_lt HX1.out)).trans HX1.out
       have HX2 := Lib.hid hX2
       have HE2 := Lib.hid (HE1.out.trans hx)
       have HRw := Lib.hid (show w.heap.size ≤ R0 by have := HE1.out.size; omega)
       have hXR : X0 ≠ R0 := by have := heap_lt HX1.out; omega
       have x0 : z2.cell? ⟨X0, 0, none⟩ = some (.int .u64 (B.hi 0)) := (cell_of_row _ _ _ _ _ _ hX2).trans c0
       clear hq hs hx hX2 HE1))
  go_wp2_with (first
    | fail
    | ((with_reducible refine at_alloc 28 ?_); refine al_zero rfl 28 rfl VZ zero_vec ?_
       intro K0 z3 hq hs hx
       have HK3 := Lib.hid hq
       have HR3 := Lib.hid ((hx.block _ (heap_lt HR2.out)).trans HR2.out)
       have HX3 := Lib.hid ((hx.block _ (heap_lt HX2.out)).trans HX2.out)
       have HE3 := Lib.hid (HE2.out.trans hx)
       have HKw := Lib.hid (show w.heap.size ≤ K0 by have := HE2.out.size; omega)
       have hXK : X0 ≠ K0 := by have := heap_lt HX2.out; omega
       have hRK : R0 ≠ K0 := by have := heap_lt HR2.out; omega
       clear hq hs hx HE2 x0 HR2 HX2)
    | ((with_reducible refine at_store 28 ?_); refine st_at rfl rfl 28 _ _ rfl K0 0 _ #[.int .u64 (B.hi 0), .int .u32 0, .int .u64 (B.hi 0), .int .u16 0, .int .u16 0] _ #[.int .u64 (B.hi 0), .int .u32 0, .int .u64 (B.hi 0), .int .u16 0, .int .u16 0] _ rfl rfl rfl HK3.out (by exact (by decide : 0 + 5 ≤ 5)) (by kernel_rfl) rfl rfl ?_
       intro z4 hq hm
       have HK4 := Lib.hid hq
       have hX4 := (hm.heap (heap_lt HX3.out) (show ¬ X0 = K0 from hXK)).trans HX3.out
       have HX4 := Lib.hid hX4
       have HR4 := Lib.hid ((hm.heap (heap_lt HR3.out) (show ¬ R0 = K0 from hRK)).trans HR3.out)
       have HE4 := Lib.hid (Ext.mutE HE3.out hm (fun n hn h => by have h2 : n = K0 := h; have := HKw.out; omega))
       have x17 : z4.cell? ⟨X0, 17, none⟩ = some (.slice a1 B.np k1) := (cell_of_row _ _ _ _ _ _ hX4).trans C17.out
       clear hq hm hX4 HK3 HR3 HX3 HE3))
  go_loopw [6, 5] (fun v a wr => ∃ n : Nat, n ≤ B.np ∧ v = .int .i64 n ∧ a = .int .i64 (rootF B n).at_ ∧ wr.heap[K0]? = some (.cells (rootF B n).cells 28 (0, 0)) ∧ Mut (fun n => n = K0) z4 wr) (fun v _ _ => B.np - (intOf v).toNat)
  case atStart => exact ⟨0, by omega, rfl, rfl, HK4.out, Mut.refl _ _⟩
  case round =>
    clear x17
    obtain ⟨n, hn2, rfl, rfl, hR, hm⟩ := hrel
    have HR := Lib.hid hR
    have HM := Lib.hid hm
    have HX := Lib.hid ((hm.heap (heap_lt HX4.out) (show ¬ X0 = K0 from hXK)).trans HX4.out)
    have HE := Lib.hid (Ext.mutE HE4.out hm (fun n hn h => by have h2 : n = K0 := h; have := HKw.out; omega))
    have HRR := Lib.hid ((hm.heap (heap_lt HR4.out) (show ¬ R0 = K0 from hRK)).trans HR4.out)
    clear hR hm
    have x17 := (cell_of_row _ _ 17 _ _ _ HX.out).trans C17.out
    obtain ⟨v, hv⟩ : ∃ v, rootF B n = v := ⟨_, rfl⟩
    by_cases hlt : n < B.np
    · have HS := Lib.hid (show rootF B (n + 1) = if (offers B n && (rootF B n).lt (B.gi n 68) (thr (B.gi n 69) (B.gi n 1)) (B.gi n 70) (B.gi n 71) (B.gi n 0)) = true then ⟨B.gi n 68, thr (B.gi n 69) (B.gi n 1), B.gi n 70, B.gi n 71, B.gi n 0, n⟩ else rootF B n from rfl)
      rw [hv] at HS HR ⊢
      clear hv
      go_wp2_with (first
        | fail
        | ((with_reducible refine at_load 33 ?_); refine wpList_load_row rfl 33 _ rfl X0 rfl 33 c (0, 0) _ HX.out Try.underlying33 rfl hi20.out ?_))
      refine (doffer_B c B _ (HB.out.ext HE.out) ho n hlt hn).mono ?_
      rintro e y1 ⟨rfl, hx⟩
      have HR1 := Lib.hid ((hx.block _ (heap_lt HR.out)).trans HR.out)
      have HM1 := Lib.hid (HM.out.trans (hx.mut _))
      clear hx x17
      obtain ⟨ok, hok⟩ : ∃ b, offers B n = b := ⟨_, rfl⟩
      have HOV := Lib.hid (show offV B n = if ok = true then #[.int .u64 (B.gi n 68), .int .u32 (thr (B.gi n 69) (B.gi n 1)), .int .u64 (B.gi n 70), .int .u16 (B.gi n 71), .int .u16 (B.gi n 0)] else VZ by unfold offV; rw [hok])
      rw [hok] at HS ⊢
      clear hok
      cases ok
      · rw [show offV B n = VZ from HOV.out]
        go_wp2_with (first
          | fail
          | ((with_reducible refine at_alloc 28 ?_); refine al_zero rfl 28 rfl VZ zero_vec ?_
             intro V0 y2 hq hs hx
             have HV2 := Lib.hid hq
             have HR2 := Lib.hid ((hx.block _ (heap_lt HR1.out)).trans HR1.out)
             have HM2 := Lib.hid (HM1.out.trans (hx.mut _))
             have hnv : V0 ≠ K0 := by have := heap_lt HR1.out; omega
             have hvz : z4.heap.size ≤ V0 := by have := HM1.out.size; omega
             clear hq hs hx)
          | ((with_reducible refine at_store 28 ?_); refine st_at rfl rfl 28 _ _ rfl V0 0 _ VZ _ VZ _ rfl rfl rfl HV2.out (by exact (by decide : 0 + 5 ≤ 5)) (by kernel_rfl) rfl rfl ?_
             intro y3 hq hm
             have HV3 := Lib.hid hq
             have HR3 := Lib.hid ((hm.heap (heap_lt HR2.out) (show ¬ K0 = V0 from Ne.symm hnv)).trans HR2.out)
             have HM3 := Lib.hid (mut_new HM2.out hm hvz)
             clear hq hm))
        go_roundw
        case rel => exact ⟨n + 1, by omega, by go_num, by rw [HS.out]; rfl, by rw [HS.out]; exact HR3.out, HM3.out⟩
        case measure => simp [intOf]; omega
      · rw [show offV B n = #[.int .u64 (B.gi n 68), .int .u32 (thr (B.gi n 69) (B.gi n 1)), .int .u64 (B.gi n 70), .int .u16 (B.gi n 71), .int .u16 (B.gi n 0)] from HOV.out]
        obtain ⟨z, hz⟩ : ∃ z, c5 (B.gi n 68) (thr (B.gi n 69) (B.gi n 1)) (B.gi n 70) (B.gi n 71) (B.gi n 0) v.r v.c v.b v.p v.x = z := ⟨_, rfl⟩
        have HLT := Lib.hid (show v.lt (B.gi n 68) (thr (B.gi n 69) (B.gi n 1)) (B.gi n 70) (B.gi n 71) (B.gi n 0) = decide (z < 0) by rw [← hz]; rfl)
        have HZ := Lib.hid hz
        have HVC := Lib.hid (show v.cells = #[.int .u64 v.r, .int .u32 v.c, .int .u64 v.b, .int .u16 v.p, .int .u16 v.x] from rfl)
        rw [HVC.out] at HR1
        clear hz
        rw [HLT.out] at HS
        go_wp2_with (first
          | fail
          | ((with_reducible refine at_alloc 28 ?_); refine al_zero rfl 28 rfl VZ zero_vec ?_
             intro V0 y2 hq hs hx
             have HV2 := Lib.hid hq
             have HR2 := Lib.hid ((hx.block _ (heap_lt HR1.out)).trans HR1.out)
             have HM2 := Lib.hid (HM1.out.trans (hx.mut _))
             have hnv : V0 ≠ K0 := by have := heap_lt HR1.out; omega
             have hvz : z4.heap.size ≤ V0 := by have := HM1.out.size; omega
             clear hq hs hx)
          | ((with_reducible refine at_store 28 ?_); refine st_at rfl rfl 28 _ _ rfl V0 0 _ #[.int .u64 (B.gi n 68), .int .u32 (thr (B.gi n 69) (B.gi n 1)), .int .u64 (B.gi n 70), .int .u16 (B.gi n 71), .int .u16 (B.gi n 0)] _ #[.int .u64 (B.gi n 68), .int .u32 (thr (B.gi n 69) (B.gi n 1)), .int .u64 (B.gi n 70), .int .u16 (B.gi n 71), .int .u16 (B.gi n 0)] _ rfl rfl rfl HV2.out (by exact (by decide : 0 + 5 ≤ 5)) (by kernel_rfl) rfl rfl ?_
             intro y3 hq hm
             have HV3 := Lib.hid hq
             have HR3 := Lib.hid ((hm.heap (heap_lt HR2.out) (show ¬ K0 = V0 from Ne.symm hnv)).trans HR2.out)
             have HM3 := Lib.hid (mut_new HM2.out hm hvz)
             clear hq hm)
          | ((with_reducible refine at_loadG 28 ?_); refine wpList_load_rowG rfl 28 _ rfl V0 rfl 28 #[.int .u64 (B.gi n 68), .int .u32 (thr (B.gi n 69) (B.gi n 1)), .int .u64 (B.gi n 70), .int .u16 (B.gi n 71), .int .u16 (B.gi n 0)] (0, 0) _ HV3.out Try.underlying28 rfl (by kernel_rfl) ?_)
          | ((with_reducible refine at_loadG 28 ?_); refine wpList_load_rowG rfl 28 _ rfl K0 rfl 28 #[.int .u64 v.r, .int .u32 v.c, .int .u64 v.b, .int .u16 v.p, .int .u16 v.x] (0, 0) _ HR3.out Try.underlying28 rfl (by kernel_rfl) ?_))
        refine (asi (ref_cmp _ _ _ _ _ _ _ _ _ _ _) HZ.out).mono ?_
        rintro e y4 ⟨rfl, hx⟩
        have HV4 := Lib.hid ((hx.block _ (heap_lt HV3.out)).trans HV3.out)
        have HR4b := Lib.hid ((hx.block _ (heap_lt HR3.out)).trans HR3.out)
        have HM4 := Lib.hid (HM3.out.trans (hx.mut _))
        clear hx HZ
        by_cases hz0 : z < 0
        · have HS2 := Lib.hid (HS.out.trans (by rw [decide_eq_true hz0]))
          clear HS HLT
          go_wp2_with (first
            | fail
            | ((with_reducible refine at_load 28 ?_); refine wpList_load_row rfl 28 _ rfl V0 rfl 28 #[.int .u64 (B.gi n 68), .int .u32 (thr (B.gi n 69) (B.gi n 1)), .int .u64 (B.gi n 70), .int .u16 (B.gi n 71), .int .u16 (B.gi n 0)] (0, 0) _ HV4.out Try.underlying28 rfl (by kernel_rfl) ?_)
            | ((with_reducible refine at_store 28 ?_); refine st_at rfl rfl 28 _ _ rfl K0 0 _ #[.int .u64 (B.gi n 68), .int .u32 (thr (B.gi n 69) (B.gi n 1)), .int .u64 (B.gi n 70), .int .u16 (B.gi n 71), .int .u16 (B.gi n 0)] _ #[.int .u64 (B.gi n 68), .int .u32 (thr (B.gi n 69) (B.gi n 1)), .int .u64 (B.gi n 70), .int .u16 (B.gi n 71), .int .u16 (B.gi n 0)] _ rfl rfl rfl HR4b.out (by exact (by decide : 0 + 5 ≤ 5)) (by kernel_rfl) rfl rfl ?_
               intro y5 hq hm
               have HR5 := Lib.hid hq
               have HM5 := Lib.hid (HM4.out.trans hm)
               clear hq hm))
          go_roundw
          case rel => exact ⟨n + 1, by omega, by go_num, by rw [HS2.out]; rfl, by rw [HS2.out]; exact HR5.out, HM5.out⟩
          case measure => simp [intOf]; omega
        · have HS2 := Lib.hid (HS.out.trans (by rw [decide_eq_false hz0]))
          clear HS HLT
          go_wp2_with fail
          go_roundw
          case rel => exact ⟨n + 1, by omega, by go_num, by rw [HS2.out]; rfl, by rw [HS2.out]; exact HR4b.out, HM4.out⟩
          case measure => simp [intOf]; omega
    · obtain rfl : n = B.np := by omega
      have HVC := Lib.hid (show v.cells = #[.int .u64 v.r, .int .u32 v.c, .int .u64 v.b, .int .u16 v.p, .int .u16 v.x] from rfl)
      rw [hv] at HR ⊢
      rw [HVC.out] at HR
      have HV := Lib.hid hv
      clear hv
      go_wp2_with (first
        | fail
        | ((with_reducible refine at_load 28 ?_); refine wpList_load_row rfl 28 _ rfl K0 rfl 28 #[.int .u64 v.r, .int .u32 v.c, .int .u64 v.b, .int .u16 v.p, .int .u16 v.x] (0, 0) _ HR.out Try.underlying28 rfl (by kernel_rfl) ?_)
        | ((with_reducible refine at_store 28 ?_); refine st_at rfl rfl 28 _ _ rfl R0 0 _ #[.int .u64 v.r, .int .u32 v.c, .int .u64 v.b, .int .u16 v.p, .int .u16 v.x] _ #[.int .u64 v.r, .int .u32 v.c, .int .u64 v.b, .int .u16 v.p, .int .u16 v.x] _ rfl rfl rfl HRR.out (by exact (by decide : 0 + 5 ≤ 5)) (by kernel_rfl) rfl rfl ?_
           intro y5 hq hm
           have HR5 := Lib.hid hq
           have HE5 := Lib.hid (Ext.mutE HE.out hm (fun n hn h => by have h2 : n = R0 := h; have := HRw.out; omega))
           clear hq hm))
      refine bodyPost_ret (results_crt rfl _ _ _ _ _ (0, 0) _ rfl HR5.out Try.underlying28 rfl (by kernel_rfl)) rfl ?_
      rw [HV.out]
      exact ⟨rfl, HE5.out⟩

end Go.Proofs.Ythfoacgdkoijeaa
