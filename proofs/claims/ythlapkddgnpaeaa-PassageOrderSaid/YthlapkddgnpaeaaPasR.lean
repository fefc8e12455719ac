/- The step of the machine of passage, by the program and by the document. No statement is proved here. -/
import Derived.Test.YthlapkddgnpaeaaPasB
namespace Go.Proofs.Ythlapkddgnpaeaa
open Go.RowKit Go.BigFrame Go.WideShapes Go.ChangeShapes Go.Deep
set_option linter.unusedVariables false

theorem pas_step (w : World) (F : Nat → Prop) (X g k : Nat) (B : Br) (h : BrG w F X g B) (ho : B.ok) (hk : k < B.np) (hk2 : k < 1000) :
    Calls Try.prog 24 #[.pointer (some ⟨X, 0, none⟩), .int .i64 k] w (Stepped w F X g (pasF B k)) := by
  by_cases s0 : B.gi k 20 = 0
  · cases v : B.gb k 28
    · have e : pasF B k = (false, B) := by simp [pasF, s0, v]
      rw [e]
      exact pas_s0b w F X g k B h ho hk hk2 s0 v
    · have e : pasF B k = (true, pasLearn B k) := by simp [pasF, s0, v]
      rw [e]
      exact pas_s0a w F X g k B h ho hk hk2 s0 v
  · by_cases s1 : B.gi k 20 = 1
    · cases v : B.gb k 28
      · have e : pasF B k = (true, pasStop B k) := by simp [pasF, s1, v]
        rw [e]
        exact pas_s1a w F X g k B h ho hk hk2 s1 v
      · cases u : B.gb k 26
        · have e : pasF B k = (false, B) := by simp [pasF, s1, v, u]
          rw [e]
          exact pas_s1c w F X g k B h ho hk hk2 s1 v u
        · have e : pasF B k = (true, pasForward B k) := by simp [pasF, s1, v, u]
          rw [e]
          exact pas_s1b w F X g k B h ho hk hk2 s1 v u
    · by_cases s2 : B.gi k 20 = 2
      · cases v : B.gb k 26
        · have e : pasF B k = (true, pasStop B k) := by simp [pasF, s2, v]
          rw [e]
          exact pas_s2a w F X g k B h ho hk hk2 s2 v
        · have e : pasF B k = (false, B) := by simp [pasF, s2, v]
          rw [e]
          exact pas_s2b w F X g k B h ho hk hk2 s2 v
      · have e : pasF B k = (false, B) := by simp [pasF, s0, s1, s2]
        rw [e]
        exact pas_sx w F X g k B h ho hk hk2 (by simp; omega) (by simp; omega) (by simp; omega)

set_option maxRecDepth 100000 in
set_option maxHeartbeats 2000000 in
theorem pas_doc (w : World) (F : Nat → Prop) (X g k : Nat) (B : Br) (h : BrG w F X g B) (ho : B.ok) (hk : k < B.np) (hk2 : k < 1000) :
    Calls Try.prog 25 #[.pointer (some ⟨X, 0, none⟩), .int .i64 k] w (Stepped w F X g (pasF B k)) := by
  obtain ⟨hX, hg, hne⟩ := h.lt
  obtain ⟨cap, c17, hc1, hc2⟩ := h.cell17 ho
  have hpr := Lib.hid (h.range hk)
  have hpt := Lib.hid (port_typed ho hk)
  have p20 := (port_at (B := B) (k := k) (j := 20) (by decide)).trans (ho.gi hk 20 rfl)
  have p26 := (port_at (B := B) (k := k) (j := 26) (by decide)).trans (ho.gb hk 26 rfl)
  have p27 := (port_at (B := B) (k := k) (j := 27) (by decide)).trans (ho.gb hk 27 rfl)
  have p28 := (port_at (B := B) (k := k) (j := 28) (by decide)).trans (ho.gb hk 28 rfl)
  have p29 := (port_at (B := B) (k := k) (j := 29) (by decide)).trans (ho.gb hk 29 rfl)
  have H := Lib.hid h
  clear h
  obtain ⟨p, hp⟩ : ∃ p, port B.ps k = p := ⟨_, rfl⟩
  rw [hp] at hpr hpt p20 p26 p27 p28 p29
  have HP := Lib.hid hp
  clear hp
  have hpz := Lib.hid (show (Try.prog.info? 53).map (·.size) = some p.length by rw [hpt.out.1]; exact size_port)
  have hps := Lib.hid (show (Try.prog.info? 53).map (·.size) = some p.toArray.size by rw [List.size_toArray]; exact hpz.out)
  have hpl := Lib.hid (show PZ.size = p.toArray.size by rw [size_PZ, List.size_toArray]; exact hpt.out.1.symm)
  have hpo := Lib.hid (all_oneCell_toArray hpt.out.one)
  have hzp := zero_port
  have hpn : p.length = 89 := hpt.out.1
  have HN := Lib.hid hpn
  clear hpn
  go_enter Try.func25, Try.ntmps25
  go_wp2_with (first | fail | ((with_reducible refine at_load 53 ?_); refine wpList_load_mid rfl 53 _ rfl g (k * 89) rfl p _ hpr.out Try.underlying53 rfl hpz.out ?_) | ((with_reducible refine at_store 53 ?_); refine wpList_store_new rfl 53 _ _ rfl PZ p.toArray rfl rfl hps.out hpl.out hpo.out ?_))
  all_goals first
    | (go_ret
       have e2 : pasF B k = (false, B) := by
         go_light
         unfold pasF
         simp_all
       rw [e2]
       exact ⟨rfl, H.out.ext ((Ext.refl w).alloc _), ((Ext.refl w).alloc _).mut F⟩)
    | (have e2 : pasF B k = (true, pasLearn B k) := by
         go_light
         unfold pasF
         simp_all
       refine wp_region_tail 7 (by kernel_rfl) (by kernel_rfl) ?_
       intro w2 hw2
       have hx2 : Ext w w2 := by
         rw [hw2]
         exact ((Ext.refl w).alloc _).drew
       have hb2 := congrArg (fun v : World => v.heap[w.heap.size]?) hw2
       simp only [show ∀ u : World, u.drew.heap = u.heap from fun _ => rfl, heap_alloc_new] at hb2
       have d17 := (hx2.cell (p := ⟨X, 17, none⟩) hX).trans c17
       have HB2 := Lib.hid hb2
       have hth := Lib.hid ((H.out.ext hx2).there hk)
       clear hw2 hb2 c17 p20 p26 p27 p28 p29 
       simp only [List.take_succ_cons, List.take_zero, List.drop_succ_cons, List.drop_zero]
       iterate 5 still_step
       refine wpStill_load_row rfl 53 _ rfl w.heap.size rfl 53 _ _ HB2.out Try.underlying53 rfl (by rw [List.size_toArray]; simp only [List.length_set]; exact hpz.out) ?_
       simp only [Act.put, List.setIfInBounds_toArray, List.set_cons_succ, List.set_cons_zero]
       iterate 1 still_step
       refine wpStill_nil ?_
       refine wpList_store_mid rfl 53 _ _ rfl g (k * 89) _ rfl rfl (by simp only [List.size_toArray, List.length_set, HN.out]; exact hth.out) (by simp only [List.size_toArray, List.length_set]; exact hpz.out) (all_oneCell_toArray (by repeat (first | exact hpt.out.one | refine one_set ?_ rfl))) ?_
       go_wp2_with fail
       go_ret
       rw [e2]
       have h89 : k * 89 + 89 ≤ B.ps.length := len89 ho hk
       have e3 : B.setPort k ((p.set 29 (.bool true)).set 20 (.int .i64 1)) = pasLearn B k := by
         rw [← HP.out]
         unfold pasLearn
         rw [setPort_set (by simp [port_len h89]) h89 (by decide), setPort_set (by simp [port_len h89]) h89 (by decide), setPort_self h89]
       have hB := (H.out.ext hx2).setPort hk (l := ((p.set 29 (.bool true)).set 20 (.int .i64 1))) (by simp [HN.out])
       rw [e3] at hB
       exact ⟨rfl, hB, Mut.setCells (.inl H.out.F2) _ _ (hx2.mut F)⟩)
    | (have e2 : pasF B k = (true, pasStop B k) := by
         go_light
         unfold pasF
         simp_all
       refine wp_region_tail 7 (by kernel_rfl) (by kernel_rfl) ?_
       intro w2 hw2
       have hx2 : Ext w w2 := by
         rw [hw2]
         exact ((Ext.refl w).alloc _).drew
       have hb2 := congrArg (fun v : World => v.heap[w.heap.size]?) hw2
       simp only [show ∀ u : World, u.drew.heap = u.heap from fun _ => rfl, heap_alloc_new] at hb2
       have d17 := (hx2.cell (p := ⟨X, 17, none⟩) hX).trans c17
       have HB2 := Lib.hid hb2
       have hth := Lib.hid ((H.out.ext hx2).there hk)
       clear hw2 hb2 c17 p20 p26 p27 p28 p29 
       simp only [List.take_succ_cons, List.take_zero, List.drop_succ_cons, List.drop_zero]
       iterate 5 still_step
       refine wpStill_load_row rfl 53 _ rfl w.heap.size rfl 53 _ _ HB2.out Try.underlying53 rfl (by rw [List.size_toArray]; simp only [List.length_set]; exact hpz.out) ?_
       simp only [Act.put, List.setIfInBounds_toArray, List.set_cons_succ, List.set_cons_zero]
       iterate 1 still_step
       refine wpStill_nil ?_
       refine wpList_store_mid rfl 53 _ _ rfl g (k * 89) _ rfl rfl (by simp only [List.size_toArray, List.length_set, HN.out]; exact hth.out) (by simp only [List.size_toArray, List.length_set]; exact hpz.out) (all_oneCell_toArray (by repeat (first | exact hpt.out.one | refine one_set ?_ rfl))) ?_
       go_wp2_with fail
       go_ret
       rw [e2]
       have h89 : k * 89 + 89 ≤ B.ps.length := len89 ho hk
       have e3 : B.setPort k (((p.set 29 (.bool false)).set 27 (.bool false)).set 20 (.int .i64 0)) = pasStop B k := by
         rw [← HP.out]
         unfold pasStop
         rw [setPort_set (by simp [port_len h89]) h89 (by decide), setPort_set (by simp [port_len h89]) h89 (by decide), setPort_set (by simp [port_len h89]) h89 (by decide), setPort_self h89]
       have hB := (H.out.ext hx2).setPort hk (l := (((p.set 29 (.bool false)).set 27 (.bool false)).set 20 (.int .i64 0))) (by simp [HN.out])
       rw [e3] at hB
       exact ⟨rfl, hB, Mut.setCells (.inl H.out.F2) _ _ (hx2.mut F)⟩)
    | (have e2 : pasF B k = (true, pasForward B k) := by
         go_light
         unfold pasF
         simp_all
       refine wp_region_tail 7 (by kernel_rfl) (by kernel_rfl) ?_
       intro w2 hw2
       have hx2 : Ext w w2 := by
         rw [hw2]
         exact ((Ext.refl w).alloc _).drew
       have hb2 := congrArg (fun v : World => v.heap[w.heap.size]?) hw2
       simp only [show ∀ u : World, u.drew.heap = u.heap from fun _ => rfl, heap_alloc_new] at hb2
       have d17 := (hx2.cell (p := ⟨X, 17, none⟩) hX).trans c17
       have HB2 := Lib.hid hb2
       have hth := Lib.hid ((H.out.ext hx2).there hk)
       clear hw2 hb2 c17 p20 p26 p27 p28 p29 
       simp only [List.take_succ_cons, List.take_zero, List.drop_succ_cons, List.drop_zero]
       iterate 5 still_step
       refine wpStill_load_row rfl 53 _ rfl w.heap.size rfl 53 _ _ HB2.out Try.underlying53 rfl (by rw [List.size_toArray]; simp only [List.length_set]; exact hpz.out) ?_
       simp only [Act.put, List.setIfInBounds_toArray, List.set_cons_succ, List.set_cons_zero]
       iterate 1 still_step
       refine wpStill_nil ?_
       refine wpList_store_mid rfl 53 _ _ rfl g (k * 89) _ rfl rfl (by simp only [List.size_toArray, List.length_set, HN.out]; exact hth.out) (by simp only [List.size_toArray, List.length_set]; exact hpz.out) (all_oneCell_toArray (by repeat (first | exact hpt.out.one | refine one_set ?_ rfl))) ?_
       go_wp2_with fail
       go_ret
       rw [e2]
       have h89 : k * 89 + 89 ≤ B.ps.length := len89 ho hk
       have e3 : B.setPort k ((p.set 27 (.bool true)).set 20 (.int .i64 2)) = pasForward B k := by
         rw [← HP.out]
         unfold pasForward
         rw [setPort_set (by simp [port_len h89]) h89 (by decide), setPort_set (by simp [port_len h89]) h89 (by decide), setPort_self h89]
       have hB := (H.out.ext hx2).setPort hk (l := ((p.set 27 (.bool true)).set 20 (.int .i64 2))) (by simp [HN.out])
       rw [e3] at hB
       exact ⟨rfl, hB, Mut.setCells (.inl H.out.F2) _ _ (hx2.mut F)⟩)

end Go.Proofs.Ythlapkddgnpaeaa
