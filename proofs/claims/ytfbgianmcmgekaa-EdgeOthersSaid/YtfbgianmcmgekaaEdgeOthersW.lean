/- The walk of EdgeOthers. No statement is proved here. -/
import Derived.Test.YtfbgianmcmgekaaEdgeM
namespace Go.Proofs.Ytfbgianmcmgekaa
open Go.RowKit Go.BigFrame Go.WideShapes Go.ChangeShapes Go.Deep
set_option linter.unusedVariables false

set_option maxRecDepth 100000 in
set_option maxHeartbeats 2000000 in
theorem law_EdgeOthers {w : World} (c : Array Value) (B : Br) (hb : BrC w c B) (ho : B.ok) (i : Int) (hi : 0 ≤ i ∧ i < 256) :
    Calls Try.prog 12 #[.agg c, .int .u8 i] w fun e w' => e = .returned (.bool true) ∧ Ext w w' := by
  have hl := ho.hd.1
  have hz : c.size = 20 := by
    obtain ⟨_, _, _, h, _⟩ := hb.facts ho.hd.1
    exact h
  have hi20 := Lib.hid (show (Try.prog.info? 33).map (·.size) = some c.size by rw [hz]; exact size_br)
  have HB := Lib.hid hb
  have hcz := hz
  clear hb hl hz
  go_enter Try.func12, Try.ntmps12
  go_wp2_with fail
  refine (edge_awake _).mono ?_
  rintro e w1 ⟨rfl, hE1⟩
  go_wp2_with (first | fail | ((with_reducible refine at_load 33 ?_); refine wpList_load_row rfl 33 _ rfl _ rfl _ c (0, 0) _ (box_heap hE1) Try.underlying33 rfl hi20.out ?_))
  refine (few_any c B _ (HB.out.ext (((Ext.refl w).alloc _).trans hE1)) ho).mono ?_
  rintro e w2 ⟨f, rfl, hx2, hf⟩
  have hE2 := Ext.trans hE1 hx2
  clear hE1 hx2
  cases f
  · go_wp2_with fail
    go_ret
    exact ⟨rfl, ((Ext.refl w).alloc _).trans hE2⟩
  have hfew := Lib.hid (hf.1 rfl)
  clear hf
  have hn1 := hfew.out.2.1
  go_wp2_with (first | fail | ((with_reducible refine at_load 33 ?_); refine wpList_load_row rfl 33 _ rfl _ rfl _ c (0, 0) _ (box_heap hE2) Try.underlying33 rfl hi20.out ?_))
  refine (at_any c B i _ (HB.out.ext (((Ext.refl w).alloc _).trans hE2)) ho hi hn1).mono ?_
  rintro e w3 ⟨rfl, hx3⟩
  have hE3 := Ext.trans hE2 hx3
  clear hE2 hx3
  obtain ⟨k, hk0⟩ : ∃ k, i.toNat % B.np = k := ⟨_, rfl⟩
  have hk : k < B.np := by rw [← hk0]; exact Nat.mod_lt _ hn1
  have hk8 : k < 1000 := by have := hfew.out; omega
  rw [hk0]
  clear hk0
  go_wp2_with (first | fail | ((with_reducible refine at_load 33 ?_); refine wpList_load_row rfl 33 _ rfl _ rfl _ c (0, 0) _ (box_heap hE3) Try.underlying33 rfl hi20.out ?_))
  refine (clone_any c B _ (HB.out.ext (((Ext.refl w).alloc _).trans hE3)) ho (by have := hfew.out; omega)).mono ?_
  rintro e w4 ⟨cx, rfl, hO4, hx4⟩
  have hE4 := Ext.trans hE3 hx4
  have hcxz := Lib.hid (size_z20.trans (hO4.size ho).symm)
  have hcxo := Lib.hid (hO4.one ho)
  have hcxi := Lib.hid (show (Try.prog.info? 33).map (·.size) = some cx.size by rw [hO4.size ho]; exact size_br)
  obtain ⟨g, hBx⟩ := hO4.made hx4.size hn1
  have HX := Lib.hid hBx
  have hs3 := Lib.hid (show w.heap.size < w3.heap.size from Nat.lt_of_lt_of_le (by simp) hE3.size)
  have hs4 := Lib.hid hx4.size
  have HMK := Lib.hid (show ∀ wx : World, wx = w4.alloc (.cells cx 33) → BrG wx (fun n => w3.heap.size ≤ n ∧ n < w4.heap.size + 1) w4.heap.size g B ∧ Ext (w.alloc (.cells c 33)) wx ∧ wx.heap.size = w4.heap.size + 1 from by
    rintro _ rfl
    exact ⟨hBx, hE4.alloc _, by simp⟩)
  clear hBx hO4 hx4 hE3
  go_wp2_with (first
    | fail
    | ((with_reducible refine at_store 33 ?_); refine wpList_store_new3 rfl rfl 33 _ _ _ rfl _ cx _ rfl ?_ rfl hcxi.out hcxz.out hcxo.out ?_; · rfl
       intro wx hwx
       obtain ⟨hBx, hEx, hzx0⟩ := HMK.out wx hwx
       have HX := Lib.hid hBx
       have hzx := Lib.hid hzx0
       clear hwx hBx hzx0))
  have hB1z : BrG _ (fun n => w3.heap.size ≤ n ∧ n < w4.heap.size + 1) w4.heap.size g B := HX.out
  have ok1z : Br.ok B := ho
  have hm1z := (Mut.refl (fun n => w3.heap.size ≤ n ∧ n < w4.heap.size + 1) wx)
  refine (edge_step _ (fun n => w3.heap.size ≤ n ∧ n < w4.heap.size + 1) _ g k B hB1z ok1z hk hk8).mono ?_
  rintro e v1 ⟨he, hB1, hm1⟩
  obtain rfl : e = .returned (.bool (edgeF B k).1) := he
  have ok1 := edgeF_ok ok1z (k := k) hk
  have hE11 := Ext.mutE hEx (hm1z.trans hm1) (fun n hn h1 => by have := h1.1; have := hs3.out; simp at hn; omega)
  have H1 := Lib.hid hB1
  clear hB1 hB1z ok1z hm1 hm1z hEx
  obtain ⟨s1, s2, s3, hz0, hhd, c17b, c18b, c19b, r1, r2, r3⟩ := HB.out.facts ho.hd.1
  obtain ⟨a1, k1, rfl, m1, f1⟩ := r1.form
  obtain ⟨b, off, rfl, hbl, hlc, hcm, hrg⟩ := f1 (by omega)
  have hbx17 := Lib.hid ((box_cell hE11 17).trans c17b)
  have hbc := Lib.hid (port_range hrg k)
  clear hz0 hhd c18b c19b r2 r3 r1 hrg c17b f1
  go_wp2_with fail
  refine wp_region_tail 13 (by kernel_rfl) (by kernel_rfl) ?_
  intro y1 hy1
  have hyx1 : Ext v1 y1 := by
    rw [hy1]
    exact (Ext.refl _).drew
  clear hy1
  have hEy1 := hE11.trans hyx1
  have HY1 := Lib.hid (H1.out.ext hyx1)
  obtain ⟨cap1, x17, -, -⟩ := HY1.out.cell17 ok1
  have b17 := (hyx1.cell (p := ⟨w.heap.size, 17, none⟩) (Nat.lt_of_lt_of_le (by simp) hE11.size)).trans hbx17.out
  have bcv : y1.cell? ⟨b, off + k * 89 + 32, none⟩ = some (.bool (B.gb k 32)) := (((((Ext.refl w).alloc _).trans hEy1).cell (p := ⟨b, off + k * 89 + 32, none⟩) hbl).trans (hbc.out 32 _ ((port_at (by decide)).trans (ho.gb hk 32 rfl))))
  have xcv := (HY1.out.cellg (i := k * 89 + 32) (lt89 (by simpa [edgeF_np] using hk) (by decide))).trans (ok1.gb (by simpa [edgeF_np] using hk) 32 rfl)
  have xfr := HY1.out.frozen
  have hnpC : ((edgeF B k).2).np = B.np := by simp [edgeF_np]
  rw [hnpC] at x17
  simp only [List.take_succ_cons, List.take_zero, List.drop_succ_cons, List.drop_zero]
  repeat still_step
  refine wpStill_nil ?_
  clear b17 bcv x17
  go_wp2_with fail
  have HG1 := Lib.hid (HY1.out.setp (k := k) (j := 32) (by rw [hnpC]; exact hk) (by decide) (.bool (B.gb k 32)))
  have okG1 := ok1.setB (k := k) (by rw [hnpC]; exact hk) 32 (B.gb k 32) rfl
  have hEg1 := Ext.mutE hEy1 ((Mut.refl (fun n => w3.heap.size ≤ n ∧ n < w4.heap.size + 1) y1).setCell (p := ⟨g, k * 89 + 32, none⟩) (.inl HX.out.F2) (.bool (B.gb k 32))) (fun n hn h1 => by have := h1.1; have := hs3.out; simp at hn; omega)
  have hbx17 := Lib.hid ((hEg1.cell (p := ⟨w.heap.size, 17, none⟩) (by simp)).trans ((hE11.cell (p := ⟨w.heap.size, 17, none⟩) (by simp)).symm.trans hbx17.out))
  clear hyx1 hEy1 xcv xfr hnpC hE11
  generalize hgg1 : World.setCell y1 _ _ = g1
  rw [show World.setCell y1 ⟨g, k * 89 + 32, none⟩ _ = g1 from hgg1] at HG1 hEg1 hbx17
  clear hgg1
  refine wp_region_tail 13 (by kernel_rfl) (by kernel_rfl) ?_
  intro y2 hy2
  have hyx2 : Ext g1 y2 := by
    rw [hy2]
    exact (Ext.refl _).drew
  clear hy2
  have hEy2 := hEg1.trans hyx2
  have HY2 := Lib.hid (HG1.out.ext hyx2)
  obtain ⟨cap2, x17, -, -⟩ := HY2.out.cell17 okG1
  have b17 := (hyx2.cell (p := ⟨w.heap.size, 17, none⟩) (Nat.lt_of_lt_of_le (by simp) hEg1.size)).trans hbx17.out
  have bcv : y2.cell? ⟨b, off + k * 89 + 17, none⟩ = some (.int .i64 (B.gi k 17)) := (((((Ext.refl w).alloc _).trans hEy2).cell (p := ⟨b, off + k * 89 + 17, none⟩) hbl).trans (hbc.out 17 _ ((port_at (by decide)).trans (ho.gi hk 17 rfl))))
  have xcv := (HY2.out.cellg (i := k * 89 + 17) (lt89 (by simpa [edgeF_np] using hk) (by decide))).trans (okG1.gi (by simpa [edgeF_np] using hk) 17 rfl)
  have xfr := HY2.out.frozen
  have hnpC : (((edgeF B k).2.setp k 32 (.bool (B.gb k 32)))).np = B.np := by simp [edgeF_np]
  rw [hnpC] at x17
  simp only [List.take_succ_cons, List.take_zero, List.drop_succ_cons, List.drop_zero]
  repeat still_step
  refine wpStill_nil ?_
  clear b17 bcv x17
  go_wp2_with fail
  have HG2 := Lib.hid (HY2.out.setp (k := k) (j := 17) (by rw [hnpC]; exact hk) (by decide) (.int .i64 (B.gi k 17)))
  have okG2 := okG1.setI (k := k) (by rw [hnpC]; exact hk) 17 .i64 (B.gi k 17) rfl (ho.gw hk 17 rfl)
  have hEg2 := Ext.mutE hEy2 ((Mut.refl (fun n => w3.heap.size ≤ n ∧ n < w4.heap.size + 1) y2).setCell (p := ⟨g, k * 89 + 17, none⟩) (.inl HX.out.F2) (.int .i64 (B.gi k 17))) (fun n hn h1 => by have := h1.1; have := hs3.out; simp at hn; omega)
  have hbx17 := Lib.hid ((hEg2.cell (p := ⟨w.heap.size, 17, none⟩) (by simp)).trans ((hEg1.cell (p := ⟨w.heap.size, 17, none⟩) (by simp)).symm.trans hbx17.out))
  clear hyx2 hEy2 xcv xfr hnpC hEg1
  generalize hgg2 : World.setCell y2 _ _ = g2
  rw [show World.setCell y2 ⟨g, k * 89 + 17, none⟩ _ = g2 from hgg2] at HG2 hEg2 hbx17
  clear hgg2
  rw [edge_back B k ho hk] at HG2
  obtain ⟨C, hC, hCb, hCz0⟩ := HG2.out.br hn1
  have hCz : C.size = 20 := by rw [hCz0, ho.hd.1]; rfl
  have HC := Lib.hid hC
  have HCb := Lib.hid hCb
  clear hC hCb hCz0
  have hbb := Lib.hid (box_heap hEg2)
  have hbw := Lib.hid (HB.out.ext (((Ext.refl w).alloc _).trans hEg2))
  have hrf : Ext g2 g2.drew := (Ext.refl g2).drew
  have hfn := Lib.hid (show B.np ≤ 1000 ∧ B.no ≤ 1000 ∧ B.nf ≤ 1000 by have := hfew.out; omega)
  refine wp_region_held (S := fun W' => Ext g2 W') (by kernel_rfl) ?_
  refine wpAnyH_take (i := 0) rfl (by kernel_rfl) (by kernel_rfl) (by kernel_rfl) (fun _ _ _ h => h) (Or.inl ⟨rfl, fun _ _ => rfl⟩) (hrf) ?_
  simp only [Act.put, List.setIfInBounds_toArray, List.set_cons_zero, List.set_cons_succ]
  refine wpAnyH_take (i := 1) rfl (by kernel_rfl) (by kernel_rfl) (by kernel_rfl) (fun _ _ _ h => h) (Or.inl ⟨rfl, fun _ _ => rfl⟩) (hrf) ?_
  simp only [Act.put, List.setIfInBounds_toArray, List.set_cons_zero, List.set_cons_succ]
  refine wpAnyH_take (i := 2) rfl (by kernel_rfl) (by kernel_rfl) (by kernel_rfl) (fun _ _ _ h => h) (yieldsIf_load_row rfl _ _ rfl _ rfl C _ _ HC.out Try.underlying33 rfl (by rw [hCz]; exact size_br)) (hrf) ?_
  simp only [Act.put, List.setIfInBounds_toArray, List.set_cons_zero, List.set_cons_succ]
  refine wpAnyH_take (i := 3) rfl (by kernel_rfl) (by kernel_rfl) (by kernel_rfl) (fun _ _ _ h => h) (yieldsIf_load_row rfl _ _ rfl _ rfl c _ _ hbb.out Try.underlying33 rfl (by rw [hcz]; exact size_br)) (hrf) ?_
  simp only [Act.put, List.setIfInBounds_toArray, List.set_cons_zero, List.set_cons_succ]
  refine wpAnyH_ready (rs := [4]) (by kernel_rfl) (by simp) ?_
  refine AllReadyH.cons rfl (fun K hK => ?_) AllReadyH.nil
  go_simp
  refine (clone_any c B _ (hbw.out.ext hrf) ho hfn.out).mono ?_
  rintro e y1 ⟨cy, rfl, hOy, hyx⟩
  have hy0 : Ext g2 y1 := hrf.trans hyx
  have hyc := Lib.hid (OwnC.br hOy)
  clear hOy
  refine hK.out _ _ hy0 (fun hHeld => ?_)
  try simp only [Act.put, List.setIfInBounds_toArray, List.set_cons_zero, List.set_cons_succ]
  clear hK K
  refine wpAnyH_ready (rs := [5]) (by kernel_rfl) (by simp) ?_
  refine AllReadyH.cons rfl (fun K hK => ?_) AllReadyH.nil
  go_simp
  refine (same_any C cy B _ (HCb.out.ext hy0) hyc.out ho).mono ?_
  rintro e y2 ⟨rfl, hyy⟩
  have hy2 : Ext g2 y2 := hy0.trans hyy
  refine hK.out _ _ hy2 (fun hHeld => ?_)
  try simp only [Act.put, List.setIfInBounds_toArray, List.set_cons_zero, List.set_cons_succ]
  clear hK K
  refine wpAnyH_ready (rs := [6]) (by kernel_rfl) (by simp) ?_
  refine AllReadyH.cons rfl (fun K hK => ?_) AllReadyH.nil
  go_simp
  refine hK.out _ _ hy2 (fun hHeld => ?_)
  try simp only [Act.put, List.setIfInBounds_toArray, List.set_cons_zero, List.set_cons_succ]
  clear hK K
  refine wpAnyH_ready (rs := [7]) (by kernel_rfl) (by simp) ?_
  refine AllReadyH.cons rfl (fun K hK => ?_) AllReadyH.nil
  go_simp
  refine hK.out _ _ hy2 (fun hHeld => ?_)
  try simp only [Act.put, List.setIfInBounds_toArray, List.set_cons_zero, List.set_cons_succ]
  clear hK K
  refine wpAnyH_done (by kernel_rfl) ?_ _
  go_wp2_with fail
  go_ret
  exact ⟨rfl, ((Ext.refl w).alloc _).trans (hEg2.trans hy2)⟩

end Go.Proofs.Ytfbgianmcmgekaa
