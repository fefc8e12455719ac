/- The walk of TopoFlushes. No statement is proved here. -/
import Derived.Test.YtpieamfpgfabgaaTopM
namespace Go.Proofs.Ytpieamfpgfabgaa
open Go.RowKit Go.BigFrame Go.WideShapes Go.ChangeShapes Go.Deep
set_option linter.unusedVariables false
set_option linter.unusedSimpArgs false

set_option maxRecDepth 100000 in
set_option maxHeartbeats 2000000 in
theorem law_TopoFlushes {w : World} (c : Array Value) (B : Br) (hb : BrC w c B) (ho : B.ok) (i : Int) (hi : 0 ≤ i ∧ i < 256) :
    Calls Try.prog 9 #[.agg c, .int .u8 i] w fun e w' => e = .returned (.bool true) ∧ Ext w w' := by
  have hz0 : c.size = 20 := by
    obtain ⟨_, _, _, h, _⟩ := hb.facts ho.hd.1
    exact h
  have hi20 := Lib.hid (show (Try.prog.info? 33).map (·.size) = some c.size by rw [hz0]; exact size_br)
  have HCZ := Lib.hid hz0
  have hE00 : Ext w (w.alloc (.cells c 33)) := ((Ext.refl w).alloc _)
  have hL00 : (w.alloc (.cells c 33)).heap[w.heap.size]? = some (.cells c 33 (0, 0)) := heap_alloc_new _ _
  have hS00 : w.heap.size < (w.alloc (.cells c 33)).heap.size := heap_lt hL00
  have hB00 := hb.ext hE00
  clear hz0
  have HP := Lib.hid hb
  clear hb
  have HhE00 := Lib.hid hE00
  have HhL00 := Lib.hid hL00
  have HhS00 := Lib.hid hS00
  have HhB00 := Lib.hid hB00
  clear hE00 hL00 hS00 hB00
  go_enter Try.func9, Try.ntmps9
  go_wp2_with fail
  have hE00 := HhE00.out
  clear HhE00
  have hL00 := HhL00.out
  clear HhL00
  have hS00 := HhS00.out
  clear HhS00
  have hB00 := HhB00.out
  clear HhB00
  generalize (w.alloc (.cells c 33)) = W0 at *
  obtain ⟨bx, hq⟩ : ∃ n, w.heap.size = n := ⟨_, rfl⟩
  rw [hq] at hL00 hS00 ⊢
  have HE0 := Lib.hid hE00
  have HL0 := Lib.hid hL00
  have HB0 := Lib.hid hB00
  have HS0 := Lib.hid hS00
  have HWB := Lib.hid hq
  clear hE00 hL00 hB00 hS00 hq
  refine (top_awake _).mono ?_
  rintro e v1 ⟨rfl, E1⟩
  go_wp2_with (first | fail | ((with_reducible refine at_load 33 ?_); refine wpList_load_row rfl 33 _ rfl bx rfl 33 c (0, 0) _ ((E1.block _ HS0.out).trans HL0.out) Try.underlying33 rfl hi20.out ?_))
  refine (few_any c B _ (HB0.out.ext E1) ho).mono ?_
  rintro e v2 ⟨f, rfl, hx2, hf⟩
  have E2 := Ext.trans E1 hx2
  clear E1 hx2
  cases f
  · go_wp2_with fail
    go_ret
    exact ⟨rfl, HE0.out.trans E2⟩
  have hfew := Lib.hid (hf.1 rfl)
  clear hf
  have hn1 := hfew.out.2.1
  have HN := Lib.hid (show B.np ≤ 1000 ∧ B.no ≤ 1000 ∧ B.nf ≤ 1000 by have := hfew.out; omega)
  have hn8 : B.np < 1000 := by have := hfew.out; omega
  go_wp2_with (first
    | fail
    | ((with_reducible refine at_load 33 ?_); refine wpList_load_row rfl 33 _ rfl bx rfl 33 c (0, 0) _ ((E2.block _ HS0.out).trans HL0.out) Try.underlying33 rfl hi20.out ?_))
  refine (at_any c B i _ (HB0.out.ext E2) ho hi hn1).mono ?_
  rintro e v3 ⟨rfl, hx⟩
  have E3 := Ext.trans E2 hx
  clear E2 hx
  obtain ⟨k, hk0⟩ : ∃ k, i.toNat % B.np = k := ⟨_, rfl⟩
  have hk : k < B.np := by rw [← hk0]; exact Nat.mod_lt _ hn1
  have hk8 : k < 1000 := by omega
  rw [hk0]
  clear hk0
  have h89 := Lib.hid (len89 ho hk)
  go_wp2_with (first
    | fail
    | ((with_reducible refine at_load 33 ?_); refine wpList_load_row rfl 33 _ rfl bx rfl 33 c (0, 0) _ ((E3.block _ HS0.out).trans HL0.out) Try.underlying33 rfl hi20.out ?_))
  refine (clone_any c B _ (HB0.out.ext E3) ho HN.out).mono ?_
  rintro e u4 ⟨cx, rfl, hO, hx⟩
  have Eu := Ext.trans E3 hx
  have hcxz := Lib.hid (size_z20.trans (hO.size ho).symm)
  have hcxo := Lib.hid (hO.one ho)
  have hcxi := Lib.hid (show (Try.prog.info? 33).map (·.size) = some cx.size by rw [hO.size ho]; exact size_br)
  obtain ⟨gx, hM⟩ := hO.made hx.size hn1
  obtain ⟨Nx, hN0, hsz⟩ := nameLe hx.size
  have hNE : W0.heap.size ≤ Nx := by
    rw [← hN0]
    exact E3.size
  rw [hN0] at hM
  have HMK := Lib.hid (show ∀ wx : World, wx = u4.alloc (.cells cx 33) → BrG wx (fun n => Nx ≤ n ∧ n < u4.heap.size + 1) u4.heap.size gx B ∧ Ext W0 wx from by
    rintro _ rfl
    exact ⟨hM, Eu.alloc _⟩)
  clear hM hO hx Eu hN0 E3
  obtain ⟨X, hX0⟩ : ∃ n, u4.heap.size = n := ⟨_, rfl⟩
  have HX0 := Lib.hid hX0
  rw [hX0] at HMK hsz
  have hsx := Lib.hid (show Nx ≤ X ∧ W0.heap.size ≤ Nx from ⟨hsz, hNE⟩)
  clear hsz hNE hX0
  go_wp2_with (first
    | fail
    | ((with_reducible refine at_store 33 ?_); refine wpList_store_new3 rfl rfl 33 _ _ _ rfl _ cx _ rfl ?_ rfl hcxi.out hcxz.out hcxo.out ?_; · rfl
       intro wx hwx
       have hmk := HMK.out wx hwx
       obtain ⟨hBx, E5⟩ := hmk
       have H5x := Lib.hid hBx
       rw [HX0.out]
       clear hwx hBx HMK HX0 hcxz hcxo hcxi
       obtain ⟨hXl, hgl, hne⟩ := H5x.out.lt
       obtain ⟨cap, c17, hca, hcb⟩ := H5x.out.cell17 ho
       have hfr := H5x.out.frozen
       have p21 := (H5x.out.cellg (i := k * 89 + 21) (lt89 (N := (B).np) hk (by decide))).trans (Br.ok.gi ho (k := k) hk 21 rfl)
       have p87 := (H5x.out.cellg (i := k * 89 + 87) (lt89 (N := (B).np) hk (by decide))).trans (Br.ok.gi ho (k := k) hk 87 rfl)
       have p32 := (H5x.out.cellg (i := k * 89 + 32) (lt89 (N := (B).np) hk (by decide))).trans (Br.ok.gb ho (k := k) hk 32 rfl)
       have p25 := (H5x.out.cellg (i := k * 89 + 25) (lt89 (N := (B).np) hk (by decide))).trans (Br.ok.gb ho (k := k) hk 25 rfl)
       have p39 := (H5x.out.cellg (i := k * 89 + 39) (lt89 (N := (B).np) hk (by decide))).trans (Br.ok.gb ho (k := k) hk 39 rfl)
       have p41 := (H5x.out.cellg (i := k * 89 + 41) (lt89 (N := (B).np) hk (by decide))).trans (Br.ok.gb ho (k := k) hk 41 rfl)
       have p40 := (H5x.out.cellg (i := k * 89 + 40) (lt89 (N := (B).np) hk (by decide))).trans (Br.ok.gb ho (k := k) hk 40 rfl)
       have p49 := (H5x.out.cellg (i := k * 89 + 49) (lt89 (N := (B).np) hk (by decide))).trans (Br.ok.gb ho (k := k) hk 49 rfl)))
  have HZ6 := Lib.hid (show BrG _ (fun n => Nx ≤ n ∧ n < X + 1) X gx (tf0 B k) from ((((((((H5x.out.setp (k := k) (j := 21) hk (by decide) (.int .i64 2)).setp (k := k) (j := 87) hk (by decide) (.int .i64 4)).setp (k := k) (j := 32) hk (by decide) (.bool false)).setp (k := k) (j := 25) hk (by decide) (.bool false)).setp (k := k) (j := 39) hk (by decide) (.bool false)).setp (k := k) (j := 41) hk (by decide) (.bool false)).setp (k := k) (j := 40) hk (by decide) (.bool false)).setp (k := k) (j := 49) hk (by decide) (.bool true)))
  have okz6 : Br.ok (tf0 B k) := ((((((((ho.setI (k := k) hk 21 .i64 2 rfl (by decide)).setI (k := k) hk 87 .i64 4 rfl (by decide)).setB (k := k) hk 32 false rfl).setB (k := k) hk 25 false rfl).setB (k := k) hk 39 false rfl).setB (k := k) hk 41 false rfl).setB (k := k) hk 40 false rfl).setB (k := k) hk 49 true rfl)
  have hmz := (((((((((Mut.refl (fun n => Nx ≤ n ∧ n < X + 1) wx).setCell (p := ⟨gx, k * 89 + 21, none⟩) (.inl H5x.out.F2) (.int .i64 2)).setCell (p := ⟨gx, k * 89 + 87, none⟩) (.inl H5x.out.F2) (.int .i64 4)).setCell (p := ⟨gx, k * 89 + 32, none⟩) (.inl H5x.out.F2) (.bool false)).setCell (p := ⟨gx, k * 89 + 25, none⟩) (.inl H5x.out.F2) (.bool false)).setCell (p := ⟨gx, k * 89 + 39, none⟩) (.inl H5x.out.F2) (.bool false)).setCell (p := ⟨gx, k * 89 + 41, none⟩) (.inl H5x.out.F2) (.bool false)).setCell (p := ⟨gx, k * 89 + 40, none⟩) (.inl H5x.out.F2) (.bool false)).setCell (p := ⟨gx, k * 89 + 49, none⟩) (.inl H5x.out.F2) (.bool true))
  have EZ6 := Ext.mutE E5 hmz (fun n hn h1 => by have := h1.1; have := hsx.out; omega)
  clear E5
  have HMZ := Lib.hid hmz
  clear hmz
  clear c17 hfr p21 p87 p32 p25 p39 p41 p40 p49
  have hnf0 : B.nf ≤ 20 := hfew.out.2.2.2.2
  have HTR := Lib.hid (few_TR hfew.out.1)
  obtain ⟨o1, n1, d1, f1, l1⟩ := tf1_keeps ho hk HTR.out
  obtain ⟨o2, n2, d2, f2, l2⟩ := tf2_keeps ho hk hn8 HTR.out
  have HW0 := Lib.hid (BrG.widen HZ6.out)
  clear HZ6
  refine (top_stepW _ Nx X gx k (tf0 B k) HW0.out okz6 (by rw [tf0_np B k]; exact hk) (by rw [tf0_np B k]; exact hn8) (by unfold Br.hi; rw [tf0_hd B k]; exact HTR.out) (by rw [(tf0_nf B k).1]; omega)).mono ?_
  rw [tf0_step h89.out]
  rintro e y0 ⟨he, hB, hm⟩
  obtain rfl : e = .returned (.bool true) := he
  have EY0 := Ext.mutE EZ6 hm (fun n hn h1 => by have := hsx.out; have h2 : Nx ≤ n := h1; omega)
  have HY0 := Lib.hid (show BrG y0 _ X gx (tf1 B k) from hB)
  clear hB hm HW0 EZ6
  go_wp2_with fail
  refine (top_stepW _ Nx X gx k (tf1 B k) HY0.out o1 (by rw [n1]; exact hk) (by rw [n1]; exact hn8) (by unfold Br.hi; rw [d1]; exact HTR.out) (by rw [f1]; omega)).mono ?_
  rw [tf1_step h89.out]
  rintro e y1 ⟨he, hB, hm⟩
  obtain rfl : e = .returned (.bool true) := he
  have EY1 := Ext.mutE EY0 hm (fun n hn h1 => by have := hsx.out; have h2 : Nx ≤ n := h1; omega)
  have HY1 := Lib.hid (show BrG y1 _ X gx (tf2 B k) from hB)
  clear hB hm HY0 EY0
  go_wp2_with fail
  refine (top_stepW _ Nx X gx k (tf2 B k) HY1.out o2 (by rw [n2]; exact hk) (by rw [n2]; exact hn8) (by unfold Br.hi; rw [d2]; exact HTR.out) (by rw [f2]; omega)).mono ?_
  rw [tf2_step h89.out]
  rintro e y2 ⟨he, hB, hm⟩
  obtain rfl : e = .returned (.bool false) := he
  have EY2 := Ext.mutE EY1 hm (fun n hn h1 => by have := hsx.out; have h2 : Nx ≤ n := h1; omega)
  have HY2 := Lib.hid (show BrG y2 _ X gx (tf2 B k) from hB)
  clear hB hm HY1 EY1
  have hB := HY2.out
  have hk2 : k < (tf2 B k).np := by rw [n2]; exact hk
  obtain ⟨cap, c17, hca, hcb⟩ := hB.cell17 o2
  rw [n2] at c17 hca
  obtain ⟨g3, cp, c19, hcp, hcp2, hj⟩ := hB.cell19 o2.hd.1 (by rw [f2]; omega)
  have pn := hj B.nf (by rw [f2]; omega)
  have hlen : B.fl.length = B.nf := by have := (rowTyped_iff.1 ho.fl).1; simpa using this
  rw [l2, List.getElem?_append_right (by omega), hlen, Nat.sub_self] at pn
  rw [f2] at c19 hcp
  have p13 := (hB.cellg (i := k * 89 + 13) (lt89 hk2 (by decide))).trans (o2.gi hk2 13 rfl)
  have p49 := (hB.cellg (i := k * 89 + 49) (lt89 hk2 (by decide))).trans (o2.gb hk2 49 rfl)
  obtain ⟨-, -, -, -, -, -, -, c49, -⟩ := tf2_cells h89.out
  rw [c49] at p49
  have hv := tf2_13 h89.out (show 0 ≤ B.gi k 13 from ((hfew.out.1.2 k hk).1 7 (by decide)).1) HTR.out
  obtain ⟨v, hv0⟩ : ∃ v, (tf2 B k).gi k 13 = v := ⟨_, rfl⟩
  rw [hv0] at p13 hv
  have hdv : decide (0 < v) = true := by simp [hv]
  clear hv0 hB hj
  obtain ⟨a19, k19, hb19⟩ : ∃ a19 k19, W0.cell? ⟨bx, 19, none⟩ = some (.slice a19 B.nf k19) := by
    obtain ⟨s1, s2, s3, hz0, hhd, c17b, c18b, c19b, r1, r2, r3⟩ := HP.out.facts ho.hd.1
    obtain ⟨a1, k1, rfl, m1, f1⟩ := r3.form
    exact ⟨a1, k1, by rw [cell_of_row _ _ _ _ _ _ HL0.out]; exact c19b⟩
  have b19 := (EY2.cell (p := ⟨bx, 19, none⟩) HS0.out).trans hb19
  have hbx := Nat.lt_of_lt_of_le HS0.out EY2.size
  obtain ⟨hXl, hgl, hne⟩ := HY2.out.lt
  simp only [List.getElem?_cons_zero] at pn
  have hg3 : g3 < y2.heap.size := World.block_lt_of_cell? y2 _ pn
  go_wp2_with fail
  all_goals
    go_ret
    exact ⟨rfl, HE0.out.trans EY2⟩

end Go.Proofs.Ytpieamfpgfabgaa
