/- The migration machine's step by the document. No statement is proved here. -/
import Derived.Test.YtfbgianmcmgekaaMigB
import Derived.Deep.Light
namespace Go.Proofs.Ytfbgianmcmgekaa
open Go.RowKit Go.BigFrame Go.WideShapes Go.ChangeShapes Go.Deep
set_option linter.unusedVariables false

theorem mig_step (w : World) (F : Nat → Prop) (X g k : Nat) (B : Br) (h : BrG w F X g B) (ho : B.ok) (hk : k < B.np) (hk2 : k < 1000) :
    Calls Try.prog 17 #[.pointer (some ⟨X, 0, none⟩), .int .i64 k] w (Stepped w F X g (migF B k)) := by
  by_cases s0 : B.gi k 16 = 0
  · cases v1 : mh1 B k
    · cases v2 : mh2 B k
      · have e : migF B k = (false, B) := by simp [migF, s0, v1, v2]
        rw [e]
        exact mig_s0c w F X g k B h ho hk hk2 s0 v1 v2
      · have e : migF B k = (true, migBegin B k) := by simp [migF, s0, v1, v2]
        rw [e]
        exact mig_s0b w F X g k B h ho hk hk2 s0 v1 v2
    · have e : migF B k = (true, migListen B k) := by simp [migF, s0, v1]
      rw [e]
      exact mig_s0a w F X g k B h ho hk hk2 s0 v1
  · by_cases s2 : B.gi k 16 = 2
    · cases v1 : mh3 B k
      · cases v2 : mh4 B k
        · have e : migF B k = (false, B) := by simp [migF, s2, v1, v2]
          rw [e]
          exact mig_s2c w F X g k B h ho hk hk2 s2 v1 v2
        · have e : migF B k = (true, migYield B k) := by simp [migF, s2, v1, v2]
          rw [e]
          exact mig_s2b w F X g k B h ho hk hk2 s2 v1 v2
      · have e : migF B k = (true, migBegin B k) := by simp [migF, s2, v1]
        rw [e]
        exact mig_s2a w F X g k B h ho hk hk2 s2 v1
    · by_cases s1 : B.gi k 16 = 1
      · cases v1 : mh5 B k
        · have e : migF B k = (false, B) := by simp [migF, s1, v1]
          rw [e]
          exact mig_s1b w F X g k B h ho hk hk2 s1 v1
        · have e : migF B k = (true, migListen B k) := by simp [migF, s1, v1]
          rw [e]
          exact mig_s1a w F X g k B h ho hk hk2 s1 v1
      · have e : migF B k = (false, B) := by simp [migF, s0, s1, s2]
        rw [e]
        exact mig_sx w F X g k B h ho hk hk2 (by simp; omega) (by simp; omega) (by simp; omega)

set_option maxRecDepth 100000 in
set_option maxHeartbeats 2000000 in
theorem mig_doc (w : World) (F : Nat → Prop) (X g k : Nat) (B : Br) (h : BrG w F X g B) (ho : B.ok) (hk : k < B.np) (hk2 : k < 1000) :
    Calls Try.prog 18 #[.pointer (some ⟨X, 0, none⟩), .int .i64 k] w (Stepped w F X g (migF B k)) := by
  obtain ⟨hX, hg, hne⟩ := h.lt
  obtain ⟨cap, c17, hc1, hc2⟩ := h.cell17 ho
  have hpr := Lib.hid (h.range hk)
  have hpt := Lib.hid (port_typed ho hk)
  have q1 := (h.cellX ho (i := 1) (by omega)).trans (ho.hb 1 rfl)
  have p2 := (port_at (B := B) (k := k) (j := 2) (by decide)).trans (ho.gb hk 2 rfl)
  have p9 := (port_at (B := B) (k := k) (j := 9) (by decide)).trans (ho.gi hk 9 rfl)
  have p16 := (port_at (B := B) (k := k) (j := 16) (by decide)).trans (ho.gi hk 16 rfl)
  have p30 := (port_at (B := B) (k := k) (j := 30) (by decide)).trans (ho.gb hk 30 rfl)
  have p37 := (port_at (B := B) (k := k) (j := 37) (by decide)).trans (ho.gb hk 37 rfl)
  have p38 := (port_at (B := B) (k := k) (j := 38) (by decide)).trans (ho.gb hk 38 rfl)
  have p45 := (port_at (B := B) (k := k) (j := 45) (by decide)).trans (ho.gb hk 45 rfl)
  have H := Lib.hid h
  clear h
  obtain ⟨p, hp⟩ : ∃ p, port B.ps k = p := ⟨_, rfl⟩
  rw [hp] at hpr hpt p2 p9 p16 p30 p37 p38 p45
  have HP := Lib.hid hp
  clear hp
  have hpz := Lib.hid (show (Try.prog.info? 52).map (·.size) = some p.length by rw [hpt.out.1]; exact size_port)
  have hps := Lib.hid (show (Try.prog.info? 52).map (·.size) = some p.toArray.size by rw [List.size_toArray]; exact hpz.out)
  have hpl := Lib.hid (show PZ.size = p.toArray.size by rw [size_PZ, List.size_toArray]; exact hpt.out.1.symm)
  have hpo := Lib.hid (all_oneCell_toArray hpt.out.one)
  have hzp := zero_port
  have hpn : p.length = 89 := hpt.out.1
  have HN := Lib.hid hpn
  clear hpn
  go_enter Try.func18, Try.ntmps18
  go_wp2_with (first | fail | ((with_reducible refine at_load 52 ?_); refine wpList_load_mid rfl 52 _ rfl g (k * 89) rfl p _ hpr.out Try.underlying52 rfl hpz.out ?_) | ((with_reducible refine at_store 52 ?_); refine wpList_store_new rfl 52 _ _ rfl PZ p.toArray rfl rfl hps.out hpl.out hpo.out ?_))
  all_goals first
    | (go_ret
       have e2 : migF B k = (false, B) := by
         go_light
         simp_all [migF, mh1, mh2, mh3, mh4, mh5]
       rw [e2]
       exact ⟨rfl, H.out.ext ((Ext.refl w).alloc _), ((Ext.refl w).alloc _).mut F⟩)
    | (have e2 : migF B k = (true, migListen B k) := by
         go_light
         simp_all [migF, mh1, mh2, mh3, mh4, mh5]
       refine wp_region_tail 7 (by kernel_rfl) (by kernel_rfl) ?_
       intro w2 hw2
       have hx2 : Ext w w2 := by
         rw [hw2]
         exact ((Ext.refl w).alloc _).drew
       have hb2 := congrArg (fun v : World => v.heap[w.heap.size]?) hw2
       simp only [show ∀ u : World, u.drew.heap = u.heap from fun _ => rfl, heap_alloc_new] at hb2
       have d17 := (hx2.cell (p := ⟨X, 17, none⟩) hX).trans c17
       have HB2 := Lib.hid hb2
       have hth := Lib.hid ((H.out.ext hx2).there hk)
       clear hw2 hb2 c17 q1 p2 p9 p16 p30 p37 p38 p45
       simp only [List.take_succ_cons, List.take_zero, List.drop_succ_cons, List.drop_zero]
       iterate 5 still_step
       refine wpStill_load_row rfl 52 _ rfl w.heap.size rfl 52 _ _ HB2.out Try.underlying52 rfl (by rw [List.size_toArray]; simp only [List.length_set]; exact hpz.out) ?_
       simp only [Act.put, List.setIfInBounds_toArray, List.set_cons_succ, List.set_cons_zero]
       iterate 1 still_step
       refine wpStill_nil ?_
       refine wpList_store_mid rfl 52 _ _ rfl g (k * 89) _ rfl rfl (by simp only [List.size_toArray, List.length_set, HN.out]; exact hth.out) (by simp only [List.size_toArray, List.length_set]; exact hpz.out) (all_oneCell_toArray (by repeat (first | exact hpt.out.one | refine one_set ?_ rfl))) ?_
       go_wp2_with fail
       go_ret
       rw [e2]
       have h89 : k * 89 + 89 ≤ B.ps.length := by rw [ho.len]; omega
       have e3 : B.setPort k (((p.set 37 (.bool false)).set 38 (.bool false)).set 16 (.int .i64 2)) = migListen B k := by
         rw [← HP.out]
         unfold migListen
         rw [setPort_set (by simp [port_len h89]) h89 (by decide), setPort_set (by simp [port_len h89]) h89 (by decide), setPort_set (by simp [port_len h89]) h89 (by decide), setPort_self h89]
       have hB := (H.out.ext hx2).setPort hk (l := (((p.set 37 (.bool false)).set 38 (.bool false)).set 16 (.int .i64 2))) (by simp [HN.out])
       rw [e3] at hB
       exact ⟨rfl, hB, Mut.setCells (.inl H.out.F2) _ _ (hx2.mut F)⟩)
    | (have e2 : migF B k = (true, migBegin B k) := by
         go_light
         simp_all [migF, mh1, mh2, mh3, mh4, mh5]
       refine wp_region_tail 7 (by kernel_rfl) (by kernel_rfl) ?_
       intro w2 hw2
       have hx2 : Ext w w2 := by
         rw [hw2]
         exact ((Ext.refl w).alloc _).drew
       have hb2 := congrArg (fun v : World => v.heap[w.heap.size]?) hw2
       simp only [show ∀ u : World, u.drew.heap = u.heap from fun _ => rfl, heap_alloc_new] at hb2
       have d17 := (hx2.cell (p := ⟨X, 17, none⟩) hX).trans c17
       have HB2 := Lib.hid hb2
       have hth := Lib.hid ((H.out.ext hx2).there hk)
       clear hw2 hb2 c17 q1 p2 p9 p16 p30 p37 p38 p45
       simp only [List.take_succ_cons, List.take_zero, List.drop_succ_cons, List.drop_zero]
       iterate 5 still_step
       refine wpStill_load_row rfl 52 _ rfl w.heap.size rfl 52 _ _ HB2.out Try.underlying52 rfl (by rw [List.size_toArray]; simp only [List.length_set]; exact hpz.out) ?_
       simp only [Act.put, List.setIfInBounds_toArray, List.set_cons_succ, List.set_cons_zero]
       iterate 1 still_step
       refine wpStill_nil ?_
       refine wpList_store_mid rfl 52 _ _ rfl g (k * 89) _ rfl rfl (by simp only [List.size_toArray, List.length_set, HN.out]; exact hth.out) (by simp only [List.size_toArray, List.length_set]; exact hpz.out) (all_oneCell_toArray (by repeat (first | exact hpt.out.one | refine one_set ?_ rfl))) ?_
       go_wp2_with fail
       go_ret
       rw [e2]
       have h89 : k * 89 + 89 ≤ B.ps.length := by rw [ho.len]; omega
       have e3 : B.setPort k ((((p.set 30 (.bool false)).set 45 (.bool (B.hb 1))).set 9 (.int .i64 3)).set 16 (.int .i64 0)) = migBegin B k := by
         rw [← HP.out]
         unfold migBegin
         rw [setPort_set (by simp [port_len h89]) h89 (by decide), setPort_set (by simp [port_len h89]) h89 (by decide), setPort_set (by simp [port_len h89]) h89 (by decide), setPort_set (by simp [port_len h89]) h89 (by decide), setPort_self h89]
       have hB := (H.out.ext hx2).setPort hk (l := ((((p.set 30 (.bool false)).set 45 (.bool (B.hb 1))).set 9 (.int .i64 3)).set 16 (.int .i64 0))) (by simp [HN.out])
       rw [e3] at hB
       exact ⟨rfl, hB, Mut.setCells (.inl H.out.F2) _ _ (hx2.mut F)⟩)
    | (have e2 : migF B k = (true, migBegin B k) := by
         go_light
         simp_all [migF, mh1, mh2, mh3, mh4, mh5]
       refine wp_region_tail 7 (by kernel_rfl) (by kernel_rfl) ?_
       intro w2 hw2
       have hx2 : Ext w w2 := by
         rw [hw2]
         exact ((Ext.refl w).alloc _).drew
       have hb2 := congrArg (fun v : World => v.heap[w.heap.size]?) hw2
       simp only [show ∀ u : World, u.drew.heap = u.heap from fun _ => rfl, heap_alloc_new] at hb2
       have d17 := (hx2.cell (p := ⟨X, 17, none⟩) hX).trans c17
       have HB2 := Lib.hid hb2
       have hth := Lib.hid ((H.out.ext hx2).there hk)
       clear hw2 hb2 c17 q1 p2 p9 p16 p30 p37 p38 p45
       simp only [List.take_succ_cons, List.take_zero, List.drop_succ_cons, List.drop_zero]
       iterate 5 still_step
       refine wpStill_load_row rfl 52 _ rfl w.heap.size rfl 52 _ _ HB2.out Try.underlying52 rfl (by rw [List.size_toArray]; simp only [List.length_set]; exact hpz.out) ?_
       simp only [Act.put, List.setIfInBounds_toArray, List.set_cons_succ, List.set_cons_zero]
       iterate 1 still_step
       refine wpStill_nil ?_
       refine wpList_store_mid rfl 52 _ _ rfl g (k * 89) _ rfl rfl (by simp only [List.size_toArray, List.length_set, HN.out]; exact hth.out) (by simp only [List.size_toArray, List.length_set]; exact hpz.out) (all_oneCell_toArray (by repeat (first | exact hpt.out.one | refine one_set ?_ rfl))) ?_
       go_wp2_with fail
       go_ret
       rw [e2]
       have h89 : k * 89 + 89 ≤ B.ps.length := by rw [ho.len]; omega
       have e3 : B.setPort k ((((p.set 30 (.bool false)).set 45 (.bool true)).set 9 (.int .i64 3)).set 16 (.int .i64 0)) = migBegin B k := by
         rw [← HP.out]
         unfold migBegin
         rw [show B.hb 1 = true from ‹_›]
         rw [setPort_set (by simp [port_len h89]) h89 (by decide), setPort_set (by simp [port_len h89]) h89 (by decide), setPort_set (by simp [port_len h89]) h89 (by decide), setPort_set (by simp [port_len h89]) h89 (by decide), setPort_self h89]
       have hB := (H.out.ext hx2).setPort hk (l := ((((p.set 30 (.bool false)).set 45 (.bool true)).set 9 (.int .i64 3)).set 16 (.int .i64 0))) (by simp [HN.out])
       rw [e3] at hB
       exact ⟨rfl, hB, Mut.setCells (.inl H.out.F2) _ _ (hx2.mut F)⟩)
    | (have e2 : migF B k = (true, migYield B k) := by
         go_light
         simp_all [migF, mh1, mh2, mh3, mh4, mh5]
       refine wp_region_tail 7 (by kernel_rfl) (by kernel_rfl) ?_
       intro w2 hw2
       have hx2 : Ext w w2 := by
         rw [hw2]
         exact ((Ext.refl w).alloc _).drew
       have hb2 := congrArg (fun v : World => v.heap[w.heap.size]?) hw2
       simp only [show ∀ u : World, u.drew.heap = u.heap from fun _ => rfl, heap_alloc_new] at hb2
       have d17 := (hx2.cell (p := ⟨X, 17, none⟩) hX).trans c17
       have HB2 := Lib.hid hb2
       have hth := Lib.hid ((H.out.ext hx2).there hk)
       clear hw2 hb2 c17 q1 p2 p9 p16 p30 p37 p38 p45
       simp only [List.take_succ_cons, List.take_zero, List.drop_succ_cons, List.drop_zero]
       iterate 5 still_step
       refine wpStill_load_row rfl 52 _ rfl w.heap.size rfl 52 _ _ HB2.out Try.underlying52 rfl (by rw [List.size_toArray]; simp only [List.length_set]; exact hpz.out) ?_
       simp only [Act.put, List.setIfInBounds_toArray, List.set_cons_succ, List.set_cons_zero]
       iterate 1 still_step
       refine wpStill_nil ?_
       refine wpList_store_mid rfl 52 _ _ rfl g (k * 89) _ rfl rfl (by simp only [List.size_toArray, List.length_set, HN.out]; exact hth.out) (by simp only [List.size_toArray, List.length_set]; exact hpz.out) (all_oneCell_toArray (by repeat (first | exact hpt.out.one | refine one_set ?_ rfl))) ?_
       go_wp2_with fail
       go_ret
       rw [e2]
       have h89 : k * 89 + 89 ≤ B.ps.length := by rw [ho.len]; omega
       have e3 : B.setPort k (((p.set 45 (.bool false)).set 9 (.int .i64 3)).set 16 (.int .i64 1)) = migYield B k := by
         rw [← HP.out]
         unfold migYield
         rw [setPort_set (by simp [port_len h89]) h89 (by decide), setPort_set (by simp [port_len h89]) h89 (by decide), setPort_set (by simp [port_len h89]) h89 (by decide), setPort_self h89]
       have hB := (H.out.ext hx2).setPort hk (l := (((p.set 45 (.bool false)).set 9 (.int .i64 3)).set 16 (.int .i64 1))) (by simp [HN.out])
       rw [e3] at hB
       exact ⟨rfl, hB, Mut.setCells (.inl H.out.F2) _ _ (hx2.mut F)⟩)

end Go.Proofs.Ytfbgianmcmgekaa
