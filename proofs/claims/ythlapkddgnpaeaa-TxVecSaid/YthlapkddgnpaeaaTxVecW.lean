/- The walk of TxVec. No statement is proved here. -/
import Derived.Test.YthlapkddgnpaeaaTxN
namespace Go.Proofs.Ythlapkddgnpaeaa
open Go.RowKit Go.BigFrame Go.WideShapes Go.ChangeShapes Go.Deep
set_option linter.unusedVariables false
set_option linter.unusedSimpArgs false

set_option maxRecDepth 100000 in
set_option maxHeartbeats 4000000 in
theorem law_TxVec {w : World} (c : Array Value) (B : Br) (hb : BrC w c B) (ho : B.ok) (i : Int) (hi : 0 ≤ i ∧ i < 256) :
    Calls Try.prog 8 #[.agg c, .int .u8 i] w fun e w' => e = .returned (.bool true) ∧ Ext w w' := by
  have hz0 : c.size = 20 := by
    obtain ⟨_, _, _, h, _⟩ := hb.facts ho.hd.1
    exact h
  have hi20 := Lib.hid (show (Try.prog.info? 33).map (·.size) = some c.size by rw [hz0]; exact size_br)
  have HCZ := Lib.hid hz0
  have hE00 : Ext w (w.alloc (.cells c 33)) := ((Ext.refl w).alloc _)
  have hL00 : (w.alloc (.cells c 33)).heap[w.heap.size]? = some (.cells c 33 (0, 0)) := heap_alloc_new _ _
  have hS00 : w.heap.size < (w.alloc (.cells c 33)).heap.size := heap_lt hL00
  have hB00 := hb.ext hE00
  clear hz0
  have HP := Lib.hid hb
  clear hb
  have HhE00 := Lib.hid hE00
  have HhL00 := Lib.hid hL00
  have HhS00 := Lib.hid hS00
  have HhB00 := Lib.hid hB00
  clear hE00 hL00 hS00 hB00
  go_enter Try.func8, Try.ntmps8
  go_wp2_with fail
  have hE00 := HhE00.out
  clear HhE00
  have hL00 := HhL00.out
  clear HhL00
  have hS00 := HhS00.out
  clear HhS00
  have hB00 := HhB00.out
  clear HhB00
  generalize (w.alloc (.cells c 33)) = W0 at *
  obtain ⟨bx, hq⟩ : ∃ n, w.heap.size = n := ⟨_, rfl⟩
  rw [hq] at hL00 hS00 ⊢
  have HE0 := Lib.hid hE00
  have HL0 := Lib.hid hL00
  have HB0 := Lib.hid hB00
  have HS0 := Lib.hid hS00
  have HWB := Lib.hid hq
  clear hE00 hL00 hB00 hS00 hq
  refine (txw_awake _).mono ?_
  rintro e v1 ⟨rfl, E1⟩
  go_wp2_with (first | fail | ((with_reducible refine at_load 33 ?_); refine wpList_load_row rfl 33 _ rfl bx rfl 33 c (0, 0) _ ((E1.block _ HS0.out).trans HL0.out) Try.underlying33 rfl hi20.out ?_))
  refine (few_any c B _ (HB0.out.ext E1) ho).mono ?_
  rintro e v2 ⟨f, rfl, hx2, hf⟩
  have E2 := Ext.trans E1 hx2
  clear E1 hx2
  cases f
  · go_wp2_with fail
    go_ret
    exact ⟨rfl, HE0.out.trans E2⟩
  have hfew := Lib.hid (hf.1 rfl)
  clear hf
  have hn1 := hfew.out.2.1
  have HN := Lib.hid (show B.np ≤ 1000 ∧ B.no ≤ 1000 ∧ B.nf ≤ 1000 by have := hfew.out; omega)
  have hn8 : B.np < 1000 := by have := hfew.out; omega
  go_wp2_with (first
    | fail
    | ((with_reducible refine at_load 33 ?_); refine wpList_load_row rfl 33 _ rfl bx rfl 33 c (0, 0) _ ((E2.block _ HS0.out).trans HL0.out) Try.underlying33 rfl hi20.out ?_))
  refine (at_any c B i _ (HB0.out.ext E2) ho hi hn1).mono ?_
  rintro e v3 ⟨rfl, hx⟩
  have E3 := Ext.trans E2 hx
  clear E2 hx
  obtain ⟨k, hk0⟩ : ∃ k, i.toNat % B.np = k := ⟨_, rfl⟩
  have hk : k < B.np := by rw [← hk0]; exact Nat.mod_lt _ hn1
  have hk8 : k < 1000 := by omega
  rw [hk0]
  clear hk0
  have h89 := Lib.hid (len89 ho hk)
  have HB4 := Lib.hid (b_head HP.out ho HL0.out 4 rfl)
  have HB6 := Lib.hid (b_head HP.out ho HL0.out 6 rfl)
  go_wp2_with (first
    | fail
    | ((with_reducible refine at_load 33 ?_); refine wpList_load_row rfl 33 _ rfl bx rfl 33 c (0, 0) _ ((E3.block _ HS0.out).trans HL0.out) Try.underlying33 rfl hi20.out ?_))
  refine (clone_any c B _ (HB0.out.ext E3) ho HN.out).mono ?_
  rintro e u4 ⟨cx, rfl, hO, hx⟩
  have Eu := Ext.trans E3 hx
  have hcxz := Lib.hid (size_z20.trans (hO.size ho).symm)
  have hcxo := Lib.hid (hO.one ho)
  have hcxi := Lib.hid (show (Try.prog.info? 33).map (·.size) = some cx.size by rw [hO.size ho]; exact size_br)
  obtain ⟨gx, hM⟩ := hO.made hx.size hn1
  obtain ⟨Nx, hN0, hsz⟩ := nameLe hx.size
  have hNE : W0.heap.size ≤ Nx := by
    rw [← hN0]
    exact E3.size
  rw [hN0] at hM
  have HMK := Lib.hid (show ∀ wx : World, wx = u4.alloc (.cells cx 33) → BrG wx (fun n => Nx ≤ n ∧ n < u4.heap.size + 1) u4.heap.size gx B ∧ Ext W0 wx from by
    rintro _ rfl
    exact ⟨hM, Eu.alloc _⟩)
  clear hM hO hx Eu hN0 E3
  obtain ⟨X, hX0⟩ : ∃ n, u4.heap.size = n := ⟨_, rfl⟩
  have HX0 := Lib.hid hX0
  rw [hX0] at HMK hsz
  have hsx := Lib.hid (show Nx ≤ X ∧ W0.heap.size ≤ Nx from ⟨hsz, hNE⟩)
  clear hsz hNE hX0
  go_wp2_with (first
    | fail
    | ((with_reducible refine at_store 33 ?_); refine wpList_store_new3 rfl rfl 33 _ _ _ rfl _ cx _ rfl ?_ rfl hcxi.out hcxz.out hcxo.out ?_; · rfl
       intro wx hwx
       have hmk := HMK.out wx hwx
       obtain ⟨hBx, E5⟩ := hmk
       have H5x := Lib.hid hBx
       rw [HX0.out]
       clear hwx hBx HMK HX0 hcxz hcxo hcxi
       obtain ⟨hXl, hgl, hne⟩ := H5x.out.lt
       obtain ⟨cap, c17, hca, hcb⟩ := H5x.out.cell17 ho
       have hfr := H5x.out.frozen
       have p44 := (H5x.out.cellg (i := k * 89 + 44) (lt89 (N := (B).np) hk (by decide))).trans (Br.ok.gb ho (k := k) hk 44 rfl)
       have p50 := (H5x.out.cellg (i := k * 89 + 50) (lt89 (N := (B).np) hk (by decide))).trans (Br.ok.gb ho (k := k) hk 50 rfl)
       have p31 := (H5x.out.cellg (i := k * 89 + 31) (lt89 (N := (B).np) hk (by decide))).trans (Br.ok.gb ho (k := k) hk 31 rfl)
       have p8 := (H5x.out.cellg (i := k * 89 + 8) (lt89 (N := (B).np) hk (by decide))).trans (Br.ok.gi ho (k := k) hk 8 rfl)
       have p14 := (H5x.out.cellg (i := k * 89 + 14) (lt89 (N := (B).np) hk (by decide))).trans (Br.ok.gi ho (k := k) hk 14 rfl)))
  obtain ⟨s1, s2, s3, hz0, hhd, c17b, c18b, c19b, r1, r2, r3⟩ := HP.out.facts ho.hd.1
  obtain ⟨a1, k1, rfl, m1, f1⟩ := r1.form
  obtain ⟨bb, off, rfl, hbl, hlc, hcm, hrg⟩ := f1 (by omega)
  have HB17 := Lib.hid (show W0.cell? ⟨bx, 17, none⟩ = some (.slice (some ⟨bb, off, none⟩) B.np k1) by rw [cell_of_row _ _ _ _ _ _ HL0.out]; exact c17b)
  have HRG := Lib.hid hrg
  have HBL := Lib.hid hbl
  clear hz0 hhd c18b c19b r2 r3 r1 hrg c17b f1 hbl
  have HZ6 := Lib.hid (show BrG _ (fun n => Nx ≤ n ∧ n < X + 1) X gx (tv0 B k) from (((((H5x.out.setp (k := k) (j := 44) hk (by decide) (.bool true)).setp (k := k) (j := 50) hk (by decide) (.bool false)).setp (k := k) (j := 31) hk (by decide) (.bool true)).setp (k := k) (j := 8) hk (by decide) (.int .i64 1)).setp (k := k) (j := 14) hk (by decide) (.int .i64 0)))
  have okz6 : Br.ok (tv0 B k) := tv0_ok ho hk
  have hmz := ((((((Mut.refl (fun n => Nx ≤ n ∧ n < X + 1) wx).setCell (p := ⟨gx, k * 89 + 44, none⟩) (.inl H5x.out.F2) (.bool true)).setCell (p := ⟨gx, k * 89 + 50, none⟩) (.inl H5x.out.F2) (.bool false)).setCell (p := ⟨gx, k * 89 + 31, none⟩) (.inl H5x.out.F2) (.bool true)).setCell (p := ⟨gx, k * 89 + 8, none⟩) (.inl H5x.out.F2) (.int .i64 1)).setCell (p := ⟨gx, k * 89 + 14, none⟩) (.inl H5x.out.F2) (.int .i64 0))
  have EZ6 := Ext.mutE E5 hmz (fun n hn h1 => by have := h1.1; have := hsx.out; omega)
  clear E5
  have HMZ := Lib.hid hmz
  clear hmz
  clear c17 hfr p44 p50 p31 p8 p14
  have hno0 : B.no ≤ 20 := hfew.out.2.2.2.1
  have hh6 : 0 < B.hi 6 := by have := hfew.out.1.1.2.2.2.1; omega
  obtain ⟨-, -, -, -, t0, -, -⟩ := tv0_cells h89.out
  have n0 : (tv0 B k).np = B.np := rfl
  have m0 : (tv0 B k).no = B.no := rfl
  have hk0 : k < (tv0 B k).np := hk
  have HW0 := Lib.hid (BrG.widen HZ6.out)
  clear HZ6
  obtain ⟨a19, k19, hb18⟩ := b_slice18 HP.out ho HL0.out
  have HB18 := Lib.hid hb18
  clear hb18
  obtain ⟨sr, hsr⟩ : ∃ s, B.gb k 45 = s := ⟨_, rfl⟩
  obtain ⟨ro, hro⟩ : ∃ s, B.gi k 87 = s := ⟨_, rfl⟩
  cases ht : txTells sr ro
  · have ht2 : txTells (B.gb k 45) (B.gi k 87) = false := by rw [hsr, hro]; exact ht
    refine (tx_stepW _ Nx X gx k (tv0 B k) HW0.out okz6 (by rw [n0]; exact hk) (by rw [n0]; exact hn8) (by rw [t0]; decide) (by rw [m0]; omega)).mono ?_
    rw [tv_no h89.out ht2]
    rintro e y1 ⟨he, hB, hm⟩
    obtain rfl : e = .returned (.bool false) := he
    have EY1 := Ext.mutE EZ6 hm (fun n hn h1 => by have := hsx.out; have h2 : Nx ≤ n := h1; omega)
    have HY1 := Lib.hid (show BrG y1 _ X gx (tv0 B k) from hB)
    clear hB hm HW0 EZ6
    have b18 := (EY1.cell (p := ⟨bx, 18, none⟩) HS0.out).trans HB18.out
    have hbx := Nat.lt_of_lt_of_le HS0.out EY1.size
    obtain ⟨a18, k18, x18⟩ := HY1.out.len18 (okz6).hd.1
    rw [m0] at x18
    obtain ⟨hXl, hgl, hne⟩ := HY1.out.lt
    go_wp2_with fail
    all_goals
      go_ret
      exact ⟨rfl, HE0.out.trans EY1⟩
  cases hs1 : sr
  · rw [hs1] at ht
    by_cases hr3 : ro = 3
    · have ht2 : txTells (B.gb k 45) (B.gi k 87) = true := by rw [hsr, hro, hs1]; exact ht
      have hkd : txKind (B.gb k 45) (B.gi k 87) = 1 := by rw [hsr, hro]; rw [hs1, hr3]; rfl
      refine (tx_stepW _ Nx X gx k (tv0 B k) HW0.out okz6 (by rw [n0]; exact hk) (by rw [n0]; exact hn8) (by rw [t0]; decide) (by rw [m0]; omega)).mono ?_
      rw [tv_yes h89.out ht2 hh6]
      rintro e y2 ⟨he, hB, hm⟩
      obtain rfl : e = .returned (.bool true) := he
      have EY2 := Ext.mutE EZ6 hm (fun n hn h1 => by have := hsx.out; have h2 : Nx ≤ n := h1; omega)
      have HY2 := Lib.hid (show BrG y2 _ X gx (txNews (tv0 B k) k) from hB)
      clear hB hm HW0 EZ6
      have b18 := (EY2.cell (p := ⟨bx, 18, none⟩) HS0.out).trans HB18.out
      have hbx := Nat.lt_of_lt_of_le HS0.out EY2.size
      have okN := txNews_ok (okz6) hk0 hk8 (by rw [t0]; decide)
      obtain ⟨hXl, hgl, hne⟩ := HY2.out.lt
      obtain ⟨g3, cp, c18, hcp, hcm, hos⟩ := HY2.out.cell18 okN.hd.1 (by rw [txNews_no]; omega)
      rw [txNews_no, m0] at c18 hcp
      rw [tv_os h89.out, hkd] at hos
      have hlen : B.os.length = B.no * 18 := ho.os.1
      have RM := Lib.hid (sent_range (l := [Value.int .i64 1, .bool false, .bool false, .bool false, .bool false, .bool false, .bool false, .int .i64 0, .int .u64 0, .int .u32 0, .int .u64 0, .int .u16 0, .int .u16 0, .int .i64 0, .int .i64 0, .int .i64 0, .int .i64 0]) hlen hos (by rfl))
      clear hos
      have hg3 : g3 < y2.heap.size := World.block_lt_of_cell? y2 _ (RM.out 0 _ rfl)
      have HBV := Lib.hid (show bb < y2.heap.size from Nat.lt_of_lt_of_le HBL.out (HE0.out.trans EY2).size)
      have hL := rangeAt_ext (port_range HRG.out k) (HE0.out.trans EY2) HBL.out
      have q13 : y2.cell? ⟨bb, off + k * 89 + 13, none⟩ = some _ := hL 13 _ ((port_at (B := B) (k := k) (j := 13) (by decide)).trans (ho.gi hk 13 rfl))
      have q87 : y2.cell? ⟨bb, off + k * 89 + 87, none⟩ = some _ := hL 87 _ ((port_at (B := B) (k := k) (j := 87) (by decide)).trans (ho.gi hk 87 rfl))
      have q73 : y2.cell? ⟨bb, off + k * 89 + 73, none⟩ = some _ := hL 73 _ ((port_at (B := B) (k := k) (j := 73) (by decide)).trans (ho.gi hk 73 rfl))
      have q74 : y2.cell? ⟨bb, off + k * 89 + 74, none⟩ = some _ := hL 74 _ ((port_at (B := B) (k := k) (j := 74) (by decide)).trans (ho.gi hk 74 rfl))
      have q75 : y2.cell? ⟨bb, off + k * 89 + 75, none⟩ = some _ := hL 75 _ ((port_at (B := B) (k := k) (j := 75) (by decide)).trans (ho.gi hk 75 rfl))
      have q76 : y2.cell? ⟨bb, off + k * 89 + 76, none⟩ = some _ := hL 76 _ ((port_at (B := B) (k := k) (j := 76) (by decide)).trans (ho.gi hk 76 rfl))
      have q77 : y2.cell? ⟨bb, off + k * 89 + 77, none⟩ = some _ := hL 77 _ ((port_at (B := B) (k := k) (j := 77) (by decide)).trans (ho.gi hk 77 rfl))
      have q82 : y2.cell? ⟨bb, off + k * 89 + 82, none⟩ = some _ := hL 82 _ ((port_at (B := B) (k := k) (j := 82) (by decide)).trans (ho.gi hk 82 rfl))
      have q83 : y2.cell? ⟨bb, off + k * 89 + 83, none⟩ = some _ := hL 83 _ ((port_at (B := B) (k := k) (j := 83) (by decide)).trans (ho.gi hk 83 rfl))
      have q84 : y2.cell? ⟨bb, off + k * 89 + 84, none⟩ = some _ := hL 84 _ ((port_at (B := B) (k := k) (j := 84) (by decide)).trans (ho.gi hk 84 rfl))
      have q85 : y2.cell? ⟨bb, off + k * 89 + 85, none⟩ = some _ := hL 85 _ ((port_at (B := B) (k := k) (j := 85) (by decide)).trans (ho.gi hk 85 rfl))
      have RV := Lib.hid (show y2.rangeAt bb (off + k * 89 + 73) [Value.int .u64 (B.gi k 73), .int .u32 (B.gi k 74), .int .u64 (B.gi k 75), .int .u16 (B.gi k 76), .int .u16 (B.gi k 77)] from range_cons q73 (range_cons q74 (range_cons q75 (range_cons q76 (range_cons q77 range_nil)))))
      have RT := Lib.hid (show y2.rangeAt bb (off + k * 89 + 82) [Value.int .i64 (B.gi k 82), .int .i64 (B.gi k 83), .int .i64 (B.gi k 84), .int .i64 (B.gi k 85)] from range_cons q82 (range_cons q83 (range_cons q84 (range_cons q85 range_nil))))
      have q17 := (EY2.cell (p := ⟨bx, 17, none⟩) HS0.out).trans HB17.out
      have Q17 := Lib.hid q17
      have Q13 := Lib.hid q13
      have Q87 := Lib.hid q87
      have HEY := Lib.hid EY2
      clear hL q13 q87 q17 q73 q74 q75 q76 q77 q82 q83 q84 q85
      have hzm := zero_msg
      have hzv := zero_vec
      have hbm := msg_run1
      have hteq := tcn_eq
      have h87 : ro = 3 := hr3
      rw [h87] at hro
      rw [hro] at Q87
      go_wp2_with (first
        | fail
        | ((with_reducible refine at_load 43 ?_); refine wpList_load_mid rfl 43 _ rfl g3 (B.no * 18 + 1) rfl [Value.int .i64 1, .bool false, .bool false, .bool false, .bool false, .bool false, .bool false, .int .i64 0, .int .u64 0, .int .u32 0, .int .u64 0, .int .u16 0, .int .u16 0, .int .i64 0, .int .i64 0, .int .i64 0, .int .i64 0] _ RM.out Try.underlying43 rfl (by exact size_msg) ?_)
        | ((with_reducible refine at_store 43 ?_); refine wpList_store_new3 rfl rfl 43 _ _ _ rfl MZ [Value.int .i64 1, .bool false, .bool false, .bool false, .bool false, .bool false, .bool false, .int .i64 0, .int .u64 0, .int .u32 0, .int .u64 0, .int .u16 0, .int .u16 0, .int .i64 0, .int .i64 0, .int .i64 0, .int .i64 0].toArray _ rfl ?_ rfl (by exact size_msg) rfl rfl ?_; · rfl
           intro z1 hz1
           have hE1 : Ext y2 z1 := by rw [hz1]; exact (Ext.refl _).alloc _
           have hr1 : z1.heap[y2.heap.size]? = some (.cells [Value.int .i64 1, .bool false, .bool false, .bool false, .bool false, .bool false, .bool false, .int .i64 0, .int .u64 0, .int .u32 0, .int .u64 0, .int .u16 0, .int .u16 0, .int .i64 0, .int .i64 0, .int .i64 0, .int .i64 0].toArray 43 (0, 0)) := by rw [hz1]; exact heap_alloc_new _ _
           clear hz1
           have hlt1 : y2.heap.size < z1.heap.size := heap_lt hr1
           have hb12 : bx < y2.heap.size ∧ bb < y2.heap.size := ⟨hbx, HBV.out⟩
           obtain ⟨h12, hh12⟩ : ∃ n, y2.heap.size = n := ⟨_, rfl⟩
           rw [hh12] at hr1 hlt1 hb12 ⊢
           have HR1 := Lib.hid hr1
           have HE1 := Lib.hid hE1
           have RV1 := Lib.hid (rangeAt_ext RV.out hE1 HBV.out)
           have z17 := (hE1.cell (p := ⟨bx, 17, none⟩) hbx).trans Q17.out
           clear hr1 hE1 hh12 c18 b18)
        | ((with_reducible refine at_load 28 ?_); refine wpList_load_mid rfl 28 _ rfl bb (off + k * 89 + 73) rfl [Value.int .u64 (B.gi k 73), .int .u32 (B.gi k 74), .int .u64 (B.gi k 75), .int .u16 (B.gi k 76), .int .u16 (B.gi k 77)] _ RV1.out Try.underlying28 rfl (by exact size_vec) ?_)
        | ((with_reducible refine at_store 28 ?_); refine wpList_store_new3 rfl rfl 28 _ _ _ rfl VZ [Value.int .u64 (B.gi k 73), .int .u32 (B.gi k 74), .int .u64 (B.gi k 75), .int .u16 (B.gi k 76), .int .u16 (B.gi k 77)].toArray _ rfl ?_ rfl (by exact size_vec) rfl rfl ?_; · rfl
           intro z2 hz2
           have hE2 : Ext z1 z2 := by rw [hz2]; exact (Ext.refl _).alloc _
           have hr2 : z2.heap[z1.heap.size]? = some (.cells [Value.int .u64 (B.gi k 73), .int .u32 (B.gi k 74), .int .u64 (B.gi k 75), .int .u16 (B.gi k 76), .int .u16 (B.gi k 77)].toArray 28 (0, 0)) := by rw [hz2]; exact heap_alloc_new _ _
           clear hz2
           have hlt2 : z1.heap.size < z2.heap.size := heap_lt hr2
           have hr12 := (hE2.block _ hlt1).trans HR1.out
           have hsz1 := HE1.out.size
           obtain ⟨h13, hh13⟩ : ∃ n, z1.heap.size = n := ⟨_, rfl⟩
           rw [hh13] at hr2 hlt2 hlt1 hsz1 ⊢
           have hn1 : h12 ≠ h13 := by omega
           have hn2 : bx ≠ h13 ∧ bb ≠ h13 := by have := hb12; omega
           have hn3 := hn2.1
           have hn4 := hn2.2
           have d4 : z2.cell? ⟨h13, 4, none⟩ = some (.int .u16 (B.gi k 77)) := (cell_of_row _ _ _ _ _ _ hr2).trans rfl
           have hf13 : ∀ j, z2.frozen? ⟨h13, j, none⟩ = false := fun j => frozen_of_row _ _ _ _ _ hr2
           have m0c : z2.cell? ⟨h12, 0, none⟩ = some (.int .i64 1) := (cell_of_row _ _ _ _ _ _ hr12).trans rfl
           have HZ13 := Lib.hid (show (z2.setCell ⟨h13, 4, none⟩ (.int .u16 0)).heap[h13]? = some (.cells [Value.int .u64 (B.gi k 73), .int .u32 (B.gi k 74), .int .u64 (B.gi k 75), .int .u16 (B.gi k 76), .int .u16 0].toArray 28 (0, 0)) from heap_setCell_same _ _ _ _ _ _ hr2)
           have HZ12 := Lib.hid (show (z2.setCell ⟨h13, 4, none⟩ (.int .u16 0)).heap[h12]? = some (.cells [Value.int .i64 1, .bool false, .bool false, .bool false, .bool false, .bool false, .bool false, .int .i64 0, .int .u64 0, .int .u32 0, .int .u64 0, .int .u16 0, .int .u16 0, .int .i64 0, .int .i64 0, .int .i64 0, .int .i64 0].toArray 43 (0, 0)) from (heap_setCell_other _ _ _ _ hn1).trans hr12)
           have hE12 := HE1.out.trans hE2
           have hbbz : bb < y2.heap.size := HBV.out
           have c17z : z2.cell? ⟨bx, 17, none⟩ = some (.slice (some ⟨bb, off, none⟩) B.np k1) := (hE12.cell (p := ⟨bx, 17, none⟩) hbx).trans Q17.out
           have c13z : z2.cell? ⟨bb, off + k * 89 + 13, none⟩ = some (.int .i64 (B.gi k 13)) := (hE12.cell (p := ⟨bb, off + k * 89 + 13, none⟩) hbbz).trans Q13.out
           have c87z : z2.cell? ⟨bb, off + k * 89 + 87, none⟩ = some (.int .i64 3) := (hE12.cell (p := ⟨bb, off + k * 89 + 87, none⟩) hbbz).trans Q87.out
           have RT2 := Lib.hid (rangeAt_ext RT.out hE12 hbbz)
           have HEZ := Lib.hid (show Ext W0 (z2.setCell ⟨h13, 4, none⟩ (.int .u16 0)) from Below.setCell (HEY.out.trans hE12) (show W0.heap.size ≤ h13 by have h1 := HEY.out.size; omega) _)
           clear hr2 hr12 hE2 hE12 z17 hh13 HR1 HE1 hsz1)
        | ((with_reducible refine at_loadG 43 ?_); refine wpList_load_rowG rfl 43 _ rfl h12 rfl 43 [Value.int .i64 1, .bool false, .bool false, .bool false, .bool false, .bool false, .bool false, .int .i64 0, .int .u64 0, .int .u32 0, .int .u64 0, .int .u16 0, .int .u16 0, .int .i64 0, .int .i64 0, .int .i64 0, .int .i64 0].toArray (0, 0) _ HZ12.out Try.underlying43 rfl (by exact size_msg) ?_))
      all_goals
        go_ret
        exact ⟨rfl, HE0.out.trans HEZ.out⟩
    · have ht2 : txTells (B.gb k 45) (B.gi k 87) = true := by rw [hsr, hro, hs1]; exact ht
      have hkd : txKind (B.gb k 45) (B.gi k 87) = 0 := by rw [hsr, hro]; rw [hs1]; unfold txKind; rw [if_neg (by simp), if_neg hr3]
      refine (tx_stepW _ Nx X gx k (tv0 B k) HW0.out okz6 (by rw [n0]; exact hk) (by rw [n0]; exact hn8) (by rw [t0]; decide) (by rw [m0]; omega)).mono ?_
      rw [tv_yes h89.out ht2 hh6]
      rintro e y3 ⟨he, hB, hm⟩
      obtain rfl : e = .returned (.bool true) := he
      have EY3 := Ext.mutE EZ6 hm (fun n hn h1 => by have := hsx.out; have h2 : Nx ≤ n := h1; omega)
      have HY3 := Lib.hid (show BrG y3 _ X gx (txNews (tv0 B k) k) from hB)
      clear hB hm HW0 EZ6
      have b18 := (EY3.cell (p := ⟨bx, 18, none⟩) HS0.out).trans HB18.out
      have hbx := Nat.lt_of_lt_of_le HS0.out EY3.size
      have okN := txNews_ok (okz6) hk0 hk8 (by rw [t0]; decide)
      obtain ⟨hXl, hgl, hne⟩ := HY3.out.lt
      obtain ⟨g3, cp, c18, hcp, hcm, hos⟩ := HY3.out.cell18 okN.hd.1 (by rw [txNews_no]; omega)
      rw [txNews_no, m0] at c18 hcp
      rw [tv_os h89.out, hkd] at hos
      have hlen : B.os.length = B.no * 18 := ho.os.1
      have RM := Lib.hid (sent_range (l := [Value.int .i64 0, .bool (B.gi k 13 != 0), .bool (B.gb k 48), .bool false, .bool false, .bool false, .bool false, .int .i64 4, .int .u64 (B.gi k 73), .int .u32 (B.gi k 74), .int .u64 (B.gi k 75), .int .u16 (B.gi k 76), .int .u16 0, .int .i64 (B.gi k 82), .int .i64 (B.gi k 83), .int .i64 (B.gi k 84), .int .i64 (B.gi k 85)]) hlen hos (by rfl))
      clear hos
      have hg3 : g3 < y3.heap.size := World.block_lt_of_cell? y3 _ (RM.out 0 _ rfl)
      have HBV := Lib.hid (show bb < y3.heap.size from Nat.lt_of_lt_of_le HBL.out (HE0.out.trans EY3).size)
      have hL := rangeAt_ext (port_range HRG.out k) (HE0.out.trans EY3) HBL.out
      have q13 : y3.cell? ⟨bb, off + k * 89 + 13, none⟩ = some _ := hL 13 _ ((port_at (B := B) (k := k) (j := 13) (by decide)).trans (ho.gi hk 13 rfl))
      have q87 : y3.cell? ⟨bb, off + k * 89 + 87, none⟩ = some _ := hL 87 _ ((port_at (B := B) (k := k) (j := 87) (by decide)).trans (ho.gi hk 87 rfl))
      have q73 : y3.cell? ⟨bb, off + k * 89 + 73, none⟩ = some _ := hL 73 _ ((port_at (B := B) (k := k) (j := 73) (by decide)).trans (ho.gi hk 73 rfl))
      have q74 : y3.cell? ⟨bb, off + k * 89 + 74, none⟩ = some _ := hL 74 _ ((port_at (B := B) (k := k) (j := 74) (by decide)).trans (ho.gi hk 74 rfl))
      have q75 : y3.cell? ⟨bb, off + k * 89 + 75, none⟩ = some _ := hL 75 _ ((port_at (B := B) (k := k) (j := 75) (by decide)).trans (ho.gi hk 75 rfl))
      have q76 : y3.cell? ⟨bb, off + k * 89 + 76, none⟩ = some _ := hL 76 _ ((port_at (B := B) (k := k) (j := 76) (by decide)).trans (ho.gi hk 76 rfl))
      have q77 : y3.cell? ⟨bb, off + k * 89 + 77, none⟩ = some _ := hL 77 _ ((port_at (B := B) (k := k) (j := 77) (by decide)).trans (ho.gi hk 77 rfl))
      have q82 : y3.cell? ⟨bb, off + k * 89 + 82, none⟩ = some _ := hL 82 _ ((port_at (B := B) (k := k) (j := 82) (by decide)).trans (ho.gi hk 82 rfl))
      have q83 : y3.cell? ⟨bb, off + k * 89 + 83, none⟩ = some _ := hL 83 _ ((port_at (B := B) (k := k) (j := 83) (by decide)).trans (ho.gi hk 83 rfl))
      have q84 : y3.cell? ⟨bb, off + k * 89 + 84, none⟩ = some _ := hL 84 _ ((port_at (B := B) (k := k) (j := 84) (by decide)).trans (ho.gi hk 84 rfl))
      have q85 : y3.cell? ⟨bb, off + k * 89 + 85, none⟩ = some _ := hL 85 _ ((port_at (B := B) (k := k) (j := 85) (by decide)).trans (ho.gi hk 85 rfl))
      have RV := Lib.hid (show y3.rangeAt bb (off + k * 89 + 73) [Value.int .u64 (B.gi k 73), .int .u32 (B.gi k 74), .int .u64 (B.gi k 75), .int .u16 (B.gi k 76), .int .u16 (B.gi k 77)] from range_cons q73 (range_cons q74 (range_cons q75 (range_cons q76 (range_cons q77 range_nil)))))
      have RT := Lib.hid (show y3.rangeAt bb (off + k * 89 + 82) [Value.int .i64 (B.gi k 82), .int .i64 (B.gi k 83), .int .i64 (B.gi k 84), .int .i64 (B.gi k 85)] from range_cons q82 (range_cons q83 (range_cons q84 (range_cons q85 range_nil))))
      have q17 := (EY3.cell (p := ⟨bx, 17, none⟩) HS0.out).trans HB17.out
      have Q17 := Lib.hid q17
      have Q13 := Lib.hid q13
      have Q87 := Lib.hid q87
      have HEY := Lib.hid EY3
      clear hL q13 q87 q17 q73 q74 q75 q76 q77 q82 q83 q84 q85
      have hzm := zero_msg
      have hzv := zero_vec
      have hbm := msg_run1
      go_wp2_with (first
        | fail
        | ((with_reducible refine at_load 43 ?_); refine wpList_load_mid rfl 43 _ rfl g3 (B.no * 18 + 1) rfl [Value.int .i64 0, .bool (B.gi k 13 != 0), .bool (B.gb k 48), .bool false, .bool false, .bool false, .bool false, .int .i64 4, .int .u64 (B.gi k 73), .int .u32 (B.gi k 74), .int .u64 (B.gi k 75), .int .u16 (B.gi k 76), .int .u16 0, .int .i64 (B.gi k 82), .int .i64 (B.gi k 83), .int .i64 (B.gi k 84), .int .i64 (B.gi k 85)] _ RM.out Try.underlying43 rfl (by exact size_msg) ?_)
        | ((with_reducible refine at_store 43 ?_); refine wpList_store_new3 rfl rfl 43 _ _ _ rfl MZ [Value.int .i64 0, .bool (B.gi k 13 != 0), .bool (B.gb k 48), .bool false, .bool false, .bool false, .bool false, .int .i64 4, .int .u64 (B.gi k 73), .int .u32 (B.gi k 74), .int .u64 (B.gi k 75), .int .u16 (B.gi k 76), .int .u16 0, .int .i64 (B.gi k 82), .int .i64 (B.gi k 83), .int .i64 (B.gi k 84), .int .i64 (B.gi k 85)].toArray _ rfl ?_ rfl (by exact size_msg) rfl rfl ?_; · rfl
           intro z1 hz1
           have hE1 : Ext y3 z1 := by rw [hz1]; exact (Ext.refl _).alloc _
           have hr1 : z1.heap[y3.heap.size]? = some (.cells [Value.int .i64 0, .bool (B.gi k 13 != 0), .bool (B.gb k 48), .bool false, .bool false, .bool false, .bool false, .int .i64 4, .int .u64 (B.gi k 73), .int .u32 (B.gi k 74), .int .u64 (B.gi k 75), .int .u16 (B.gi k 76), .int .u16 0, .int .i64 (B.gi k 82), .int .i64 (B.gi k 83), .int .i64 (B.gi k 84), .int .i64 (B.gi k 85)].toArray 43 (0, 0)) := by rw [hz1]; exact heap_alloc_new _ _
           clear hz1
           have hlt1 : y3.heap.size < z1.heap.size := heap_lt hr1
           have hb12 : bx < y3.heap.size ∧ bb < y3.heap.size := ⟨hbx, HBV.out⟩
           obtain ⟨h12, hh12⟩ : ∃ n, y3.heap.size = n := ⟨_, rfl⟩
           rw [hh12] at hr1 hlt1 hb12 ⊢
           have HR1 := Lib.hid hr1
           have HE1 := Lib.hid hE1
           have RV1 := Lib.hid (rangeAt_ext RV.out hE1 HBV.out)
           have z17 := (hE1.cell (p := ⟨bx, 17, none⟩) hbx).trans Q17.out
           clear hr1 hE1 hh12 c18 b18)
        | ((with_reducible refine at_load 28 ?_); refine wpList_load_mid rfl 28 _ rfl bb (off + k * 89 + 73) rfl [Value.int .u64 (B.gi k 73), .int .u32 (B.gi k 74), .int .u64 (B.gi k 75), .int .u16 (B.gi k 76), .int .u16 (B.gi k 77)] _ RV1.out Try.underlying28 rfl (by exact size_vec) ?_)
        | ((with_reducible refine at_store 28 ?_); refine wpList_store_new3 rfl rfl 28 _ _ _ rfl VZ [Value.int .u64 (B.gi k 73), .int .u32 (B.gi k 74), .int .u64 (B.gi k 75), .int .u16 (B.gi k 76), .int .u16 (B.gi k 77)].toArray _ rfl ?_ rfl (by exact size_vec) rfl rfl ?_; · rfl
           intro z2 hz2
           have hE2 : Ext z1 z2 := by rw [hz2]; exact (Ext.refl _).alloc _
           have hr2 : z2.heap[z1.heap.size]? = some (.cells [Value.int .u64 (B.gi k 73), .int .u32 (B.gi k 74), .int .u64 (B.gi k 75), .int .u16 (B.gi k 76), .int .u16 (B.gi k 77)].toArray 28 (0, 0)) := by rw [hz2]; exact heap_alloc_new _ _
           clear hz2
           have hlt2 : z1.heap.size < z2.heap.size := heap_lt hr2
           have hr12 := (hE2.block _ hlt1).trans HR1.out
           have hsz1 := HE1.out.size
           obtain ⟨h13, hh13⟩ : ∃ n, z1.heap.size = n := ⟨_, rfl⟩
           rw [hh13] at hr2 hlt2 hlt1 hsz1 ⊢
           have hn1 : h12 ≠ h13 := by omega
           have hn2 : bx ≠ h13 ∧ bb ≠ h13 := by have := hb12; omega
           have hn3 := hn2.1
           have hn4 := hn2.2
           have d4 : z2.cell? ⟨h13, 4, none⟩ = some (.int .u16 (B.gi k 77)) := (cell_of_row _ _ _ _ _ _ hr2).trans rfl
           have hf13 : ∀ j, z2.frozen? ⟨h13, j, none⟩ = false := fun j => frozen_of_row _ _ _ _ _ hr2
           have m0c : z2.cell? ⟨h12, 0, none⟩ = some (.int .i64 0) := (cell_of_row _ _ _ _ _ _ hr12).trans rfl
           have HZ13 := Lib.hid (show (z2.setCell ⟨h13, 4, none⟩ (.int .u16 0)).heap[h13]? = some (.cells [Value.int .u64 (B.gi k 73), .int .u32 (B.gi k 74), .int .u64 (B.gi k 75), .int .u16 (B.gi k 76), .int .u16 0].toArray 28 (0, 0)) from heap_setCell_same _ _ _ _ _ _ hr2)
           have HZ12 := Lib.hid (show (z2.setCell ⟨h13, 4, none⟩ (.int .u16 0)).heap[h12]? = some (.cells [Value.int .i64 0, .bool (B.gi k 13 != 0), .bool (B.gb k 48), .bool false, .bool false, .bool false, .bool false, .int .i64 4, .int .u64 (B.gi k 73), .int .u32 (B.gi k 74), .int .u64 (B.gi k 75), .int .u16 (B.gi k 76), .int .u16 0, .int .i64 (B.gi k 82), .int .i64 (B.gi k 83), .int .i64 (B.gi k 84), .int .i64 (B.gi k 85)].toArray 43 (0, 0)) from (heap_setCell_other _ _ _ _ hn1).trans hr12)
           have hE12 := HE1.out.trans hE2
           have hbbz : bb < y3.heap.size := HBV.out
           have c17z : z2.cell? ⟨bx, 17, none⟩ = some (.slice (some ⟨bb, off, none⟩) B.np k1) := (hE12.cell (p := ⟨bx, 17, none⟩) hbx).trans Q17.out
           have c13z : z2.cell? ⟨bb, off + k * 89 + 13, none⟩ = some (.int .i64 (B.gi k 13)) := (hE12.cell (p := ⟨bb, off + k * 89 + 13, none⟩) hbbz).trans Q13.out
           have c87z : z2.cell? ⟨bb, off + k * 89 + 87, none⟩ = some (.int .i64 (B.gi k 87)) := (hE12.cell (p := ⟨bb, off + k * 89 + 87, none⟩) hbbz).trans Q87.out
           have RT2 := Lib.hid (rangeAt_ext RT.out hE12 hbbz)
           have HEZ := Lib.hid (show Ext W0 (z2.setCell ⟨h13, 4, none⟩ (.int .u16 0)) from Below.setCell (HEY.out.trans hE12) (show W0.heap.size ≤ h13 by have h1 := HEY.out.size; omega) _)
           clear hr2 hr12 hE2 hE12 z17 hh13 HR1 HE1 hsz1))
      have hzw : h12 < (z2.setCell ⟨h13, 4, none⟩ (.int .u16 0)).heap.size ∧ h13 < (z2.setCell ⟨h13, 4, none⟩ (.int .u16 0)).heap.size ∧ bx < (z2.setCell ⟨h13, 4, none⟩ (.int .u16 0)).heap.size ∧ bb < (z2.setCell ⟨h13, 4, none⟩ (.int .u16 0)).heap.size := ⟨heap_lt HZ12.out, heap_lt HZ13.out, by have := heap_lt HZ12.out; omega, by have := heap_lt HZ12.out; omega⟩
      have e17 := (World.cell?_setCell_far z2 ⟨h13, 4, none⟩ ⟨bx, 17, none⟩ (.int .u16 0) (Ne.symm hn3)).trans c17z
      have e13 := (World.cell?_setCell_far z2 ⟨h13, 4, none⟩ ⟨bb, off + k * 89 + 13, none⟩ (.int .u16 0) (Ne.symm hn4)).trans c13z
      have eT := Lib.hid (show (z2.setCell ⟨h13, 4, none⟩ (.int .u16 0)).rangeAt bb (off + k * 89 + 82) [Value.int .i64 (B.gi k 82), .int .i64 (B.gi k 83), .int .i64 (B.gi k 84), .int .i64 (B.gi k 85)] from fun j v hv => (World.cell?_setCell_far z2 ⟨h13, 4, none⟩ ⟨bb, off + k * 89 + 82 + j, none⟩ (.int .u16 0) (Ne.symm hn4)).trans (RT2.out j v hv))
      have rc := fun j => cell_of_row _ _ j _ _ _ HZ12.out
      have r12a := Lib.hid (show (z2.setCell ⟨h13, 4, none⟩ (.int .u16 0)).rangeAt h12 8 [Value.int .u64 (B.gi k 73), .int .u32 (B.gi k 74), .int .u64 (B.gi k 75), .int .u16 (B.gi k 76), .int .u16 0] from range_cons ((rc 8).trans rfl) (range_cons ((rc 9).trans rfl) (range_cons ((rc 10).trans rfl) (range_cons ((rc 11).trans rfl) (range_cons ((rc 12).trans rfl) range_nil)))))
      have r12b := Lib.hid (show (z2.setCell ⟨h13, 4, none⟩ (.int .u16 0)).rangeAt h12 13 [Value.int .i64 (B.gi k 82), .int .i64 (B.gi k 83), .int .i64 (B.gi k 84), .int .i64 (B.gi k 85)] from range_cons ((rc 13).trans rfl) (range_cons ((rc 14).trans rfl) (range_cons ((rc 15).trans rfl) (range_cons ((rc 16).trans rfl) range_nil))))
      have r12c : (z2.setCell ⟨h13, 4, none⟩ (.int .u16 0)).cell? ⟨h12, 1, none⟩ = some (.bool (B.gi k 13 != 0)) := (rc 1).trans rfl
      clear rc
      clear d4 hf13 m0c c17z c13z c87z
      generalize (z2.setCell ⟨h13, 4, none⟩ (.int .u16 0)) = z3 at *
      obtain ⟨hz12, hz13, hzbx, hzbb⟩ := hzw
      refine beginL (S := fun W' => Ext z3 W') (by kernel_rfl) ?_
      intro wd hqx
      have hq0 : Ext z3 wd := hqx
      refine takeL (i := 0) (v := (.bool true)) rfl (by kernel_rfl) (by kernel_rfl) (by kernel_rfl) (fun _ _ _ h => h) (Or.inl ⟨rfl, fun _ _ => rfl⟩) hq0 ?_
      simp only [Act.put, List.setIfInBounds_toArray, List.set_cons_zero, List.set_cons_succ]
      refine takeL (i := 1) (v := (.bool true)) rfl (by kernel_rfl) (by kernel_rfl) (by kernel_rfl) (fun _ _ _ h => h) (Or.inl ⟨rfl, fun _ _ => rfl⟩) hq0 ?_
      simp only [Act.put, List.setIfInBounds_toArray, List.set_cons_zero, List.set_cons_succ]
      refine takeL (i := 2) (v := (.pointer (some ⟨h12, 8, none⟩))) rfl (by kernel_rfl) (by kernel_rfl) (by kernel_rfl) (fun _ _ _ h => h) (Or.inl ⟨rfl, fun _ _ => rfl⟩) hq0 ?_
      simp only [Act.put, List.setIfInBounds_toArray, List.set_cons_zero, List.set_cons_succ]
      refine takeL (i := 3) (v := _) rfl (by kernel_rfl) (by kernel_rfl) (by kernel_rfl) (fun _ _ _ h => h) (yieldsIf_load_mid rfl 28 _ rfl h12 (8) rfl ([Value.int .u64 (B.gi k 73), .int .u32 (B.gi k 74), .int .u64 (B.gi k 75), .int .u16 (B.gi k 76), .int .u16 0]) _ (fun W' hW' => rangeAt_ext r12a.out hW' hz12) Try.underlying28 rfl (by exact size_vec)) hq0 ?_
      simp only [Act.put, List.setIfInBounds_toArray, List.set_cons_zero, List.set_cons_succ]
      refine takeL (i := 4) (v := _) rfl (by kernel_rfl) (by kernel_rfl) (by kernel_rfl) (fun _ _ _ h => h) (yieldsIf_rowS rfl 28 _ rfl h13 rfl [Value.int .u64 (B.gi k 73), .int .u32 (B.gi k 74), .int .u64 (B.gi k 75), .int .u16 (B.gi k 76), .int .u16 0].toArray _ _ (fun W' hW' => (hW'.block h13 hz13).trans HZ13.out) Try.underlying28 rfl (by exact size_vec)) hq0 ?_
      simp only [Act.put, List.setIfInBounds_toArray, List.set_cons_zero, List.set_cons_succ]
      refine takeL (i := 5) (v := (.bool true)) rfl (by kernel_rfl) (by kernel_rfl) (by kernel_rfl) (fun _ _ _ h => h) (Or.inl ⟨rfl, fun W' _ => by go_simp⟩) hq0 ?_
      simp only [Act.put, List.setIfInBounds_toArray, List.set_cons_zero, List.set_cons_succ]
      refine takeL (i := 6) (v := (.bool true)) rfl (by kernel_rfl) (by kernel_rfl) (by kernel_rfl) (fun _ _ _ h => h) (Or.inl ⟨rfl, fun _ _ => rfl⟩) hq0 ?_
      simp only [Act.put, List.setIfInBounds_toArray, List.set_cons_zero, List.set_cons_succ]
      refine takeL (i := 7) (v := (.bool true)) rfl (by kernel_rfl) (by kernel_rfl) (by kernel_rfl) (fun _ _ _ h => h) (Or.inl ⟨rfl, fun _ _ => rfl⟩) hq0 ?_
      simp only [Act.put, List.setIfInBounds_toArray, List.set_cons_zero, List.set_cons_succ]
      refine takeL (i := 8) (v := (.pointer (some ⟨h12, 13, none⟩))) rfl (by kernel_rfl) (by kernel_rfl) (by kernel_rfl) (fun _ _ _ h => h) (Or.inl ⟨rfl, fun _ _ => rfl⟩) hq0 ?_
      simp only [Act.put, List.setIfInBounds_toArray, List.set_cons_zero, List.set_cons_succ]
      refine takeL (i := 9) (v := _) rfl (by kernel_rfl) (by kernel_rfl) (by kernel_rfl) (fun _ _ _ h => h) (yieldsIf_load_mid rfl 24 _ rfl h12 (13) rfl ([Value.int .i64 (B.gi k 82), .int .i64 (B.gi k 83), .int .i64 (B.gi k 84), .int .i64 (B.gi k 85)]) _ (fun W' hW' => rangeAt_ext r12b.out hW' hz12) Try.underlying24 rfl (by exact size_times)) hq0 ?_
      simp only [Act.put, List.setIfInBounds_toArray, List.set_cons_zero, List.set_cons_succ]
      refine takeL (i := 10) (v := (.pointer (some ⟨bx, 17, none⟩))) rfl (by kernel_rfl) (by kernel_rfl) (by kernel_rfl) (fun _ _ _ h => h) (Or.inl ⟨rfl, fun _ _ => rfl⟩) hq0 ?_
      simp only [Act.put, List.setIfInBounds_toArray, List.set_cons_zero, List.set_cons_succ]
      refine takeL (i := 11) (v := _) rfl (by kernel_rfl) (by kernel_rfl) (by kernel_rfl) (fun _ _ _ h => h) (yieldsIf_cell rfl 29 _ rfl ⟨bx, 17, none⟩ rfl (.slice (some ⟨bb, off, none⟩) B.np k1) _ (fun W' hW' => (hW'.cell (p := ⟨bx, 17, none⟩) hzbx).trans e17) Try.underlying29 rfl) hq0 ?_
      simp only [Act.put, List.setIfInBounds_toArray, List.set_cons_zero, List.set_cons_succ]
      refine takeL (i := 12) (v := (.int .i64 (k : Int))) rfl (by kernel_rfl) (by kernel_rfl) (by kernel_rfl) (fun _ _ _ h => h) (Or.inl ⟨rfl, fun _ _ => rfl⟩) hq0 ?_
      simp only [Act.put, List.setIfInBounds_toArray, List.set_cons_zero, List.set_cons_succ]
      refine takeL (i := 13) (v := (.pointer (some ⟨bb, off + k * 89, none⟩))) rfl (by kernel_rfl) (by kernel_rfl) (by kernel_rfl) (fun _ _ _ h => h) (Or.inl ⟨rfl, fun W' _ => by go_simp⟩) hq0 ?_
      simp only [Act.put, List.setIfInBounds_toArray, List.set_cons_zero, List.set_cons_succ]
      refine takeL (i := 14) (v := (.pointer (some ⟨bb, off + k * 89 + 82, none⟩))) rfl (by kernel_rfl) (by kernel_rfl) (by kernel_rfl) (fun _ _ _ h => h) (Or.inl ⟨rfl, fun _ _ => rfl⟩) hq0 ?_
      simp only [Act.put, List.setIfInBounds_toArray, List.set_cons_zero, List.set_cons_succ]
      refine takeL (i := 15) (v := _) rfl (by kernel_rfl) (by kernel_rfl) (by kernel_rfl) (fun _ _ _ h => h) (yieldsIf_load_mid rfl 24 _ rfl bb (off + k * 89 + 82) rfl ([Value.int .i64 (B.gi k 82), .int .i64 (B.gi k 83), .int .i64 (B.gi k 84), .int .i64 (B.gi k 85)]) _ (fun W' hW' => rangeAt_ext eT.out hW' hzbb) Try.underlying24 rfl (by exact size_times)) hq0 ?_
      simp only [Act.put, List.setIfInBounds_toArray, List.set_cons_zero, List.set_cons_succ]
      refine takeL (i := 16) (v := (.bool true)) rfl (by kernel_rfl) (by kernel_rfl) (by kernel_rfl) (fun _ _ _ h => h) (Or.inl ⟨rfl, fun W' _ => by go_simp⟩) hq0 ?_
      simp only [Act.put, List.setIfInBounds_toArray, List.set_cons_zero, List.set_cons_succ]
      refine takeL (i := 17) (v := (.bool true)) rfl (by kernel_rfl) (by kernel_rfl) (by kernel_rfl) (fun _ _ _ h => h) (Or.inl ⟨rfl, fun _ _ => rfl⟩) hq0 ?_
      simp only [Act.put, List.setIfInBounds_toArray, List.set_cons_zero, List.set_cons_succ]
      refine takeL (i := 18) (v := (.bool true)) rfl (by kernel_rfl) (by kernel_rfl) (by kernel_rfl) (fun _ _ _ h => h) (Or.inl ⟨rfl, fun _ _ => rfl⟩) hq0 ?_
      simp only [Act.put, List.setIfInBounds_toArray, List.set_cons_zero, List.set_cons_succ]
      refine takeL (i := 19) (v := (.pointer (some ⟨h12, 1, none⟩))) rfl (by kernel_rfl) (by kernel_rfl) (by kernel_rfl) (fun _ _ _ h => h) (Or.inl ⟨rfl, fun _ _ => rfl⟩) hq0 ?_
      simp only [Act.put, List.setIfInBounds_toArray, List.set_cons_zero, List.set_cons_succ]
      refine takeL (i := 20) (v := _) rfl (by kernel_rfl) (by kernel_rfl) (by kernel_rfl) (fun _ _ _ h => h) (yieldsIf_cell rfl 4 _ rfl ⟨h12, 1, none⟩ rfl (.bool (B.gi k 13 != 0)) _ (fun W' hW' => (hW'.cell (p := ⟨h12, 1, none⟩) hz12).trans r12c) Try.underlying4 rfl) hq0 ?_
      simp only [Act.put, List.setIfInBounds_toArray, List.set_cons_zero, List.set_cons_succ]
      refine takeL (i := 21) (v := (.pointer (some ⟨bx, 17, none⟩))) rfl (by kernel_rfl) (by kernel_rfl) (by kernel_rfl) (fun _ _ _ h => h) (Or.inl ⟨rfl, fun _ _ => rfl⟩) hq0 ?_
      simp only [Act.put, List.setIfInBounds_toArray, List.set_cons_zero, List.set_cons_succ]
      refine takeL (i := 22) (v := _) rfl (by kernel_rfl) (by kernel_rfl) (by kernel_rfl) (fun _ _ _ h => h) (yieldsIf_cell rfl 29 _ rfl ⟨bx, 17, none⟩ rfl (.slice (some ⟨bb, off, none⟩) B.np k1) _ (fun W' hW' => (hW'.cell (p := ⟨bx, 17, none⟩) hzbx).trans e17) Try.underlying29 rfl) hq0 ?_
      simp only [Act.put, List.setIfInBounds_toArray, List.set_cons_zero, List.set_cons_succ]
      refine takeL (i := 23) (v := (.int .i64 (k : Int))) rfl (by kernel_rfl) (by kernel_rfl) (by kernel_rfl) (fun _ _ _ h => h) (Or.inl ⟨rfl, fun _ _ => rfl⟩) hq0 ?_
      simp only [Act.put, List.setIfInBounds_toArray, List.set_cons_zero, List.set_cons_succ]
      refine takeL (i := 24) (v := (.pointer (some ⟨bb, off + k * 89, none⟩))) rfl (by kernel_rfl) (by kernel_rfl) (by kernel_rfl) (fun _ _ _ h => h) (Or.inl ⟨rfl, fun W' _ => by go_simp⟩) hq0 ?_
      simp only [Act.put, List.setIfInBounds_toArray, List.set_cons_zero, List.set_cons_succ]
      refine takeL (i := 25) (v := (.pointer (some ⟨bb, off + k * 89 + 6, none⟩))) rfl (by kernel_rfl) (by kernel_rfl) (by kernel_rfl) (fun _ _ _ h => h) (Or.inl ⟨rfl, fun _ _ => rfl⟩) hq0 ?_
      simp only [Act.put, List.setIfInBounds_toArray, List.set_cons_zero, List.set_cons_succ]
      refine takeL (i := 26) (v := (.pointer (some ⟨bb, off + k * 89 + 13, none⟩))) rfl (by kernel_rfl) (by kernel_rfl) (by kernel_rfl) (fun _ _ _ h => h) (Or.inl ⟨rfl, fun _ _ => rfl⟩) hq0 ?_
      simp only [Act.put, List.setIfInBounds_toArray, List.set_cons_zero, List.set_cons_succ]
      refine takeL (i := 27) (v := _) rfl (by kernel_rfl) (by kernel_rfl) (by kernel_rfl) (fun _ _ _ h => h) (yieldsIf_cell rfl 3 _ rfl ⟨bb, off + k * 89 + 13, none⟩ rfl (.int .i64 (B.gi k 13)) _ (fun W' hW' => (hW'.cell (p := ⟨bb, off + k * 89 + 13, none⟩) hzbb).trans e13) Try.underlying3 rfl) hq0 ?_
      simp only [Act.put, List.setIfInBounds_toArray, List.set_cons_zero, List.set_cons_succ]
      refine takeL (i := 28) (v := (.bool (B.gi k 13 != 0))) rfl (by kernel_rfl) (by kernel_rfl) (by kernel_rfl) (fun _ _ _ h => h) (Or.inl ⟨rfl, fun W' _ => by go_simp⟩) hq0 ?_
      simp only [Act.put, List.setIfInBounds_toArray, List.set_cons_zero, List.set_cons_succ]
      refine takeL (i := 29) (v := (.bool true)) rfl (by kernel_rfl) (by kernel_rfl) (by kernel_rfl) (fun _ _ _ h => h) (Or.inl ⟨rfl, fun W' _ => by go_simp⟩) hq0 ?_
      simp only [Act.put, List.setIfInBounds_toArray, List.set_cons_zero, List.set_cons_succ]
      refine takeL (i := 30) (v := (.bool true)) rfl (by kernel_rfl) (by kernel_rfl) (by kernel_rfl) (fun _ _ _ h => h) (Or.inl ⟨rfl, fun _ _ => rfl⟩) hq0 ?_
      simp only [Act.put, List.setIfInBounds_toArray, List.set_cons_zero, List.set_cons_succ]
      refine takeL (i := 31) (v := (.bool true)) rfl (by kernel_rfl) (by kernel_rfl) (by kernel_rfl) (fun _ _ _ h => h) (Or.inl ⟨rfl, fun _ _ => rfl⟩) hq0 ?_
      simp only [Act.put, List.setIfInBounds_toArray, List.set_cons_zero, List.set_cons_succ]
      refine wpAnyH_done (by kernel_rfl) ?_ _
      go_wp2_with fail
      go_ret
      exact ⟨rfl, HE0.out.trans (HEZ.out.trans hq0)⟩
  · rw [hs1] at ht
    have ht2 : txTells (B.gb k 45) (B.gi k 87) = true := by rw [hsr, hro, hs1]; exact ht
    have hkd : txKind (B.gb k 45) (B.gi k 87) = 2 := by rw [hsr, hro]; rw [hs1]; rfl
    refine (tx_stepW _ Nx X gx k (tv0 B k) HW0.out okz6 (by rw [n0]; exact hk) (by rw [n0]; exact hn8) (by rw [t0]; decide) (by rw [m0]; omega)).mono ?_
    rw [tv_yes h89.out ht2 hh6]
    rintro e y4 ⟨he, hB, hm⟩
    obtain rfl : e = .returned (.bool true) := he
    have EY4 := Ext.mutE EZ6 hm (fun n hn h1 => by have := hsx.out; have h2 : Nx ≤ n := h1; omega)
    have HY4 := Lib.hid (show BrG y4 _ X gx (txNews (tv0 B k) k) from hB)
    clear hB hm HW0 EZ6
    have b18 := (EY4.cell (p := ⟨bx, 18, none⟩) HS0.out).trans HB18.out
    have hbx := Nat.lt_of_lt_of_le HS0.out EY4.size
    have okN := txNews_ok (okz6) hk0 hk8 (by rw [t0]; decide)
    obtain ⟨hXl, hgl, hne⟩ := HY4.out.lt
    obtain ⟨g3, cp, c18, hcp, hcm, hos⟩ := HY4.out.cell18 okN.hd.1 (by rw [txNews_no]; omega)
    rw [txNews_no, m0] at c18 hcp
    rw [tv_os h89.out, hkd] at hos
    have hlen : B.os.length = B.no * 18 := ho.os.1
    have RM := Lib.hid (sent_range (l := [Value.int .i64 2, .bool (B.gi k 13 != 0), .bool false, .bool (B.gb k 34), .bool (B.gb k 22), .bool (B.gb k 29), .bool (B.gb k 27), .int .i64 (B.gi k 87), .int .u64 (B.gi k 73), .int .u32 (B.gi k 74), .int .u64 (B.gi k 75), .int .u16 (B.gi k 76), .int .u16 0, .int .i64 (B.gi k 82), .int .i64 (B.gi k 83), .int .i64 (B.gi k 84), .int .i64 (B.gi k 85)]) hlen hos (by rfl))
    clear hos
    have hg3 : g3 < y4.heap.size := World.block_lt_of_cell? y4 _ (RM.out 0 _ rfl)
    have HBV := Lib.hid (show bb < y4.heap.size from Nat.lt_of_lt_of_le HBL.out (HE0.out.trans EY4).size)
    have hL := rangeAt_ext (port_range HRG.out k) (HE0.out.trans EY4) HBL.out
    have q13 : y4.cell? ⟨bb, off + k * 89 + 13, none⟩ = some _ := hL 13 _ ((port_at (B := B) (k := k) (j := 13) (by decide)).trans (ho.gi hk 13 rfl))
    have q87 : y4.cell? ⟨bb, off + k * 89 + 87, none⟩ = some _ := hL 87 _ ((port_at (B := B) (k := k) (j := 87) (by decide)).trans (ho.gi hk 87 rfl))
    have q73 : y4.cell? ⟨bb, off + k * 89 + 73, none⟩ = some _ := hL 73 _ ((port_at (B := B) (k := k) (j := 73) (by decide)).trans (ho.gi hk 73 rfl))
    have q74 : y4.cell? ⟨bb, off + k * 89 + 74, none⟩ = some _ := hL 74 _ ((port_at (B := B) (k := k) (j := 74) (by decide)).trans (ho.gi hk 74 rfl))
    have q75 : y4.cell? ⟨bb, off + k * 89 + 75, none⟩ = some _ := hL 75 _ ((port_at (B := B) (k := k) (j := 75) (by decide)).trans (ho.gi hk 75 rfl))
    have q76 : y4.cell? ⟨bb, off + k * 89 + 76, none⟩ = some _ := hL 76 _ ((port_at (B := B) (k := k) (j := 76) (by decide)).trans (ho.gi hk 76 rfl))
    have q77 : y4.cell? ⟨bb, off + k * 89 + 77, none⟩ = some _ := hL 77 _ ((port_at (B := B) (k := k) (j := 77) (by decide)).trans (ho.gi hk 77 rfl))
    have q82 : y4.cell? ⟨bb, off + k * 89 + 82, none⟩ = some _ := hL 82 _ ((port_at (B := B) (k := k) (j := 82) (by decide)).trans (ho.gi hk 82 rfl))
    have q83 : y4.cell? ⟨bb, off + k * 89 + 83, none⟩ = some _ := hL 83 _ ((port_at (B := B) (k := k) (j := 83) (by decide)).trans (ho.gi hk 83 rfl))
    have q84 : y4.cell? ⟨bb, off + k * 89 + 84, none⟩ = some _ := hL 84 _ ((port_at (B := B) (k := k) (j := 84) (by decide)).trans (ho.gi hk 84 rfl))
    have q85 : y4.cell? ⟨bb, off + k * 89 + 85, none⟩ = some _ := hL 85 _ ((port_at (B := B) (k := k) (j := 85) (by decide)).trans (ho.gi hk 85 rfl))
    have RV := Lib.hid (show y4.rangeAt bb (off + k * 89 + 73) [Value.int .u64 (B.gi k 73), .int .u32 (B.gi k 74), .int .u64 (B.gi k 75), .int .u16 (B.gi k 76), .int .u16 (B.gi k 77)] from range_cons q73 (range_cons q74 (range_cons q75 (range_cons q76 (range_cons q77 range_nil)))))
    have RT := Lib.hid (show y4.rangeAt bb (off + k * 89 + 82) [Value.int .i64 (B.gi k 82), .int .i64 (B.gi k 83), .int .i64 (B.gi k 84), .int .i64 (B.gi k 85)] from range_cons q82 (range_cons q83 (range_cons q84 (range_cons q85 range_nil))))
    have q17 := (EY4.cell (p := ⟨bx, 17, none⟩) HS0.out).trans HB17.out
    have Q17 := Lib.hid q17
    have Q13 := Lib.hid q13
    have Q87 := Lib.hid q87
    have HEY := Lib.hid EY4
    clear hL q13 q87 q17 q73 q74 q75 q76 q77 q82 q83 q84 q85
    have hzm := zero_msg
    have hzv := zero_vec
    have hbm := msg_run1
    subst hro
    go_wp2_with (first
      | fail
      | ((with_reducible refine at_load 43 ?_); refine wpList_load_mid rfl 43 _ rfl g3 (B.no * 18 + 1) rfl [Value.int .i64 2, .bool (B.gi k 13 != 0), .bool false, .bool (B.gb k 34), .bool (B.gb k 22), .bool (B.gb k 29), .bool (B.gb k 27), .int .i64 (B.gi k 87), .int .u64 (B.gi k 73), .int .u32 (B.gi k 74), .int .u64 (B.gi k 75), .int .u16 (B.gi k 76), .int .u16 0, .int .i64 (B.gi k 82), .int .i64 (B.gi k 83), .int .i64 (B.gi k 84), .int .i64 (B.gi k 85)] _ RM.out Try.underlying43 rfl (by exact size_msg) ?_)
      | ((with_reducible refine at_store 43 ?_); refine wpList_store_new3 rfl rfl 43 _ _ _ rfl MZ [Value.int .i64 2, .bool (B.gi k 13 != 0), .bool false, .bool (B.gb k 34), .bool (B.gb k 22), .bool (B.gb k 29), .bool (B.gb k 27), .int .i64 (B.gi k 87), .int .u64 (B.gi k 73), .int .u32 (B.gi k 74), .int .u64 (B.gi k 75), .int .u16 (B.gi k 76), .int .u16 0, .int .i64 (B.gi k 82), .int .i64 (B.gi k 83), .int .i64 (B.gi k 84), .int .i64 (B.gi k 85)].toArray _ rfl ?_ rfl (by exact size_msg) rfl rfl ?_; · rfl
         intro z1 hz1
         have hE1 : Ext y4 z1 := by rw [hz1]; exact (Ext.refl _).alloc _
         have hr1 : z1.heap[y4.heap.size]? = some (.cells [Value.int .i64 2, .bool (B.gi k 13 != 0), .bool false, .bool (B.gb k 34), .bool (B.gb k 22), .bool (B.gb k 29), .bool (B.gb k 27), .int .i64 (B.gi k 87), .int .u64 (B.gi k 73), .int .u32 (B.gi k 74), .int .u64 (B.gi k 75), .int .u16 (B.gi k 76), .int .u16 0, .int .i64 (B.gi k 82), .int .i64 (B.gi k 83), .int .i64 (B.gi k 84), .int .i64 (B.gi k 85)].toArray 43 (0, 0)) := by rw [hz1]; exact heap_alloc_new _ _
         clear hz1
         have hlt1 : y4.heap.size < z1.heap.size := heap_lt hr1
         have hb12 : bx < y4.heap.size ∧ bb < y4.heap.size := ⟨hbx, HBV.out⟩
         obtain ⟨h12, hh12⟩ : ∃ n, y4.heap.size = n := ⟨_, rfl⟩
         rw [hh12] at hr1 hlt1 hb12 ⊢
         have HR1 := Lib.hid hr1
         have HE1 := Lib.hid hE1
         have RV1 := Lib.hid (rangeAt_ext RV.out hE1 HBV.out)
         have z17 := (hE1.cell (p := ⟨bx, 17, none⟩) hbx).trans Q17.out
         clear hr1 hE1 hh12 c18 b18)
      | ((with_reducible refine at_load 28 ?_); refine wpList_load_mid rfl 28 _ rfl bb (off + k * 89 + 73) rfl [Value.int .u64 (B.gi k 73), .int .u32 (B.gi k 74), .int .u64 (B.gi k 75), .int .u16 (B.gi k 76), .int .u16 (B.gi k 77)] _ RV1.out Try.underlying28 rfl (by exact size_vec) ?_)
      | ((with_reducible refine at_store 28 ?_); refine wpList_store_new3 rfl rfl 28 _ _ _ rfl VZ [Value.int .u64 (B.gi k 73), .int .u32 (B.gi k 74), .int .u64 (B.gi k 75), .int .u16 (B.gi k 76), .int .u16 (B.gi k 77)].toArray _ rfl ?_ rfl (by exact size_vec) rfl rfl ?_; · rfl
         intro z2 hz2
         have hE2 : Ext z1 z2 := by rw [hz2]; exact (Ext.refl _).alloc _
         have hr2 : z2.heap[z1.heap.size]? = some (.cells [Value.int .u64 (B.gi k 73), .int .u32 (B.gi k 74), .int .u64 (B.gi k 75), .int .u16 (B.gi k 76), .int .u16 (B.gi k 77)].toArray 28 (0, 0)) := by rw [hz2]; exact heap_alloc_new _ _
         clear hz2
         have hlt2 : z1.heap.size < z2.heap.size := heap_lt hr2
         have hr12 := (hE2.block _ hlt1).trans HR1.out
         have hsz1 := HE1.out.size
         obtain ⟨h13, hh13⟩ : ∃ n, z1.heap.size = n := ⟨_, rfl⟩
         rw [hh13] at hr2 hlt2 hlt1 hsz1 ⊢
         have hn1 : h12 ≠ h13 := by omega
         have hn2 : bx ≠ h13 ∧ bb ≠ h13 := by have := hb12; omega
         have hn3 := hn2.1
         have hn4 := hn2.2
         have d4 : z2.cell? ⟨h13, 4, none⟩ = some (.int .u16 (B.gi k 77)) := (cell_of_row _ _ _ _ _ _ hr2).trans rfl
         have hf13 : ∀ j, z2.frozen? ⟨h13, j, none⟩ = false := fun j => frozen_of_row _ _ _ _ _ hr2
         have m0c : z2.cell? ⟨h12, 0, none⟩ = some (.int .i64 2) := (cell_of_row _ _ _ _ _ _ hr12).trans rfl
         have HZ13 := Lib.hid (show (z2.setCell ⟨h13, 4, none⟩ (.int .u16 0)).heap[h13]? = some (.cells [Value.int .u64 (B.gi k 73), .int .u32 (B.gi k 74), .int .u64 (B.gi k 75), .int .u16 (B.gi k 76), .int .u16 0].toArray 28 (0, 0)) from heap_setCell_same _ _ _ _ _ _ hr2)
         have HZ12 := Lib.hid (show (z2.setCell ⟨h13, 4, none⟩ (.int .u16 0)).heap[h12]? = some (.cells [Value.int .i64 2, .bool (B.gi k 13 != 0), .bool false, .bool (B.gb k 34), .bool (B.gb k 22), .bool (B.gb k 29), .bool (B.gb k 27), .int .i64 (B.gi k 87), .int .u64 (B.gi k 73), .int .u32 (B.gi k 74), .int .u64 (B.gi k 75), .int .u16 (B.gi k 76), .int .u16 0, .int .i64 (B.gi k 82), .int .i64 (B.gi k 83), .int .i64 (B.gi k 84), .int .i64 (B.gi k 85)].toArray 43 (0, 0)) from (heap_setCell_other _ _ _ _ hn1).trans hr12)
         have hE12 := HE1.out.trans hE2
         have hbbz : bb < y4.heap.size := HBV.out
         have c17z : z2.cell? ⟨bx, 17, none⟩ = some (.slice (some ⟨bb, off, none⟩) B.np k1) := (hE12.cell (p := ⟨bx, 17, none⟩) hbx).trans Q17.out
         have c13z : z2.cell? ⟨bb, off + k * 89 + 13, none⟩ = some (.int .i64 (B.gi k 13)) := (hE12.cell (p := ⟨bb, off + k * 89 + 13, none⟩) hbbz).trans Q13.out
         have c87z : z2.cell? ⟨bb, off + k * 89 + 87, none⟩ = some (.int .i64 (B.gi k 87)) := (hE12.cell (p := ⟨bb, off + k * 89 + 87, none⟩) hbbz).trans Q87.out
         have RT2 := Lib.hid (rangeAt_ext RT.out hE12 hbbz)
         have HEZ := Lib.hid (show Ext W0 (z2.setCell ⟨h13, 4, none⟩ (.int .u16 0)) from Below.setCell (HEY.out.trans hE12) (show W0.heap.size ≤ h13 by have h1 := HEY.out.size; omega) _)
         clear hr2 hr12 hE2 hE12 z17 hh13 HR1 HE1 hsz1))
    have hzw : h12 < (z2.setCell ⟨h13, 4, none⟩ (.int .u16 0)).heap.size ∧ h13 < (z2.setCell ⟨h13, 4, none⟩ (.int .u16 0)).heap.size ∧ bx < (z2.setCell ⟨h13, 4, none⟩ (.int .u16 0)).heap.size ∧ bb < (z2.setCell ⟨h13, 4, none⟩ (.int .u16 0)).heap.size := ⟨heap_lt HZ12.out, heap_lt HZ13.out, by have := heap_lt HZ12.out; omega, by have := heap_lt HZ12.out; omega⟩
    have e17 := (World.cell?_setCell_far z2 ⟨h13, 4, none⟩ ⟨bx, 17, none⟩ (.int .u16 0) (Ne.symm hn3)).trans c17z
    have e13 := (World.cell?_setCell_far z2 ⟨h13, 4, none⟩ ⟨bb, off + k * 89 + 13, none⟩ (.int .u16 0) (Ne.symm hn4)).trans c13z
    have eT := Lib.hid (show (z2.setCell ⟨h13, 4, none⟩ (.int .u16 0)).rangeAt bb (off + k * 89 + 82) [Value.int .i64 (B.gi k 82), .int .i64 (B.gi k 83), .int .i64 (B.gi k 84), .int .i64 (B.gi k 85)] from fun j v hv => (World.cell?_setCell_far z2 ⟨h13, 4, none⟩ ⟨bb, off + k * 89 + 82 + j, none⟩ (.int .u16 0) (Ne.symm hn4)).trans (RT2.out j v hv))
    have rc := fun j => cell_of_row _ _ j _ _ _ HZ12.out
    have r12a := Lib.hid (show (z2.setCell ⟨h13, 4, none⟩ (.int .u16 0)).rangeAt h12 8 [Value.int .u64 (B.gi k 73), .int .u32 (B.gi k 74), .int .u64 (B.gi k 75), .int .u16 (B.gi k 76), .int .u16 0] from range_cons ((rc 8).trans rfl) (range_cons ((rc 9).trans rfl) (range_cons ((rc 10).trans rfl) (range_cons ((rc 11).trans rfl) (range_cons ((rc 12).trans rfl) range_nil)))))
    have r12b := Lib.hid (show (z2.setCell ⟨h13, 4, none⟩ (.int .u16 0)).rangeAt h12 13 [Value.int .i64 (B.gi k 82), .int .i64 (B.gi k 83), .int .i64 (B.gi k 84), .int .i64 (B.gi k 85)] from range_cons ((rc 13).trans rfl) (range_cons ((rc 14).trans rfl) (range_cons ((rc 15).trans rfl) (range_cons ((rc 16).trans rfl) range_nil))))
    have r12c : (z2.setCell ⟨h13, 4, none⟩ (.int .u16 0)).cell? ⟨h12, 1, none⟩ = some (.bool (B.gi k 13 != 0)) := (rc 1).trans rfl
    clear rc
    clear d4 hf13 m0c c17z c13z c87z
    generalize (z2.setCell ⟨h13, 4, none⟩ (.int .u16 0)) = z3 at *
    obtain ⟨hz12, hz13, hzbx, hzbb⟩ := hzw
    refine beginL (S := fun W' => Ext z3 W') (by kernel_rfl) ?_
    intro wd hqx
    have hq0 : Ext z3 wd := hqx
    refine takeL (i := 0) (v := (.bool true)) rfl (by kernel_rfl) (by kernel_rfl) (by kernel_rfl) (fun _ _ _ h => h) (Or.inl ⟨rfl, fun _ _ => rfl⟩) hq0 ?_
    simp only [Act.put, List.setIfInBounds_toArray, List.set_cons_zero, List.set_cons_succ]
    refine takeL (i := 1) (v := (.bool true)) rfl (by kernel_rfl) (by kernel_rfl) (by kernel_rfl) (fun _ _ _ h => h) (Or.inl ⟨rfl, fun _ _ => rfl⟩) hq0 ?_
    simp only [Act.put, List.setIfInBounds_toArray, List.set_cons_zero, List.set_cons_succ]
    refine takeL (i := 2) (v := (.pointer (some ⟨h12, 8, none⟩))) rfl (by kernel_rfl) (by kernel_rfl) (by kernel_rfl) (fun _ _ _ h => h) (Or.inl ⟨rfl, fun _ _ => rfl⟩) hq0 ?_
    simp only [Act.put, List.setIfInBounds_toArray, List.set_cons_zero, List.set_cons_succ]
    refine takeL (i := 3) (v := _) rfl (by kernel_rfl) (by kernel_rfl) (by kernel_rfl) (fun _ _ _ h => h) (yieldsIf_load_mid rfl 28 _ rfl h12 (8) rfl ([Value.int .u64 (B.gi k 73), .int .u32 (B.gi k 74), .int .u64 (B.gi k 75), .int .u16 (B.gi k 76), .int .u16 0]) _ (fun W' hW' => rangeAt_ext r12a.out hW' hz12) Try.underlying28 rfl (by exact size_vec)) hq0 ?_
    simp only [Act.put, List.setIfInBounds_toArray, List.set_cons_zero, List.set_cons_succ]
    refine takeL (i := 4) (v := _) rfl (by kernel_rfl) (by kernel_rfl) (by kernel_rfl) (fun _ _ _ h => h) (yieldsIf_rowS rfl 28 _ rfl h13 rfl [Value.int .u64 (B.gi k 73), .int .u32 (B.gi k 74), .int .u64 (B.gi k 75), .int .u16 (B.gi k 76), .int .u16 0].toArray _ _ (fun W' hW' => (hW'.block h13 hz13).trans HZ13.out) Try.underlying28 rfl (by exact size_vec)) hq0 ?_
    simp only [Act.put, List.setIfInBounds_toArray, List.set_cons_zero, List.set_cons_succ]
    refine takeL (i := 5) (v := (.bool true)) rfl (by kernel_rfl) (by kernel_rfl) (by kernel_rfl) (fun _ _ _ h => h) (Or.inl ⟨rfl, fun W' _ => by go_simp⟩) hq0 ?_
    simp only [Act.put, List.setIfInBounds_toArray, List.set_cons_zero, List.set_cons_succ]
    refine takeL (i := 6) (v := (.bool true)) rfl (by kernel_rfl) (by kernel_rfl) (by kernel_rfl) (fun _ _ _ h => h) (Or.inl ⟨rfl, fun _ _ => rfl⟩) hq0 ?_
    simp only [Act.put, List.setIfInBounds_toArray, List.set_cons_zero, List.set_cons_succ]
    refine takeL (i := 7) (v := (.bool true)) rfl (by kernel_rfl) (by kernel_rfl) (by kernel_rfl) (fun _ _ _ h => h) (Or.inl ⟨rfl, fun _ _ => rfl⟩) hq0 ?_
    simp only [Act.put, List.setIfInBounds_toArray, List.set_cons_zero, List.set_cons_succ]
    refine takeL (i := 8) (v := (.pointer (some ⟨h12, 13, none⟩))) rfl (by kernel_rfl) (by kernel_rfl) (by kernel_rfl) (fun _ _ _ h => h) (Or.inl ⟨rfl, fun _ _ => rfl⟩) hq0 ?_
    simp only [Act.put, List.setIfInBounds_toArray, List.set_cons_zero, List.set_cons_succ]
    refine takeL (i := 9) (v := _) rfl (by kernel_rfl) (by kernel_rfl) (by kernel_rfl) (fun _ _ _ h => h) (yieldsIf_load_mid rfl 24 _ rfl h12 (13) rfl ([Value.int .i64 (B.gi k 82), .int .i64 (B.gi k 83), .int .i64 (B.gi k 84), .int .i64 (B.gi k 85)]) _ (fun W' hW' => rangeAt_ext r12b.out hW' hz12) Try.underlying24 rfl (by exact size_times)) hq0 ?_
    simp only [Act.put, List.setIfInBounds_toArray, List.set_cons_zero, List.set_cons_succ]
    refine takeL (i := 10) (v := (.pointer (some ⟨bx, 17, none⟩))) rfl (by kernel_rfl) (by kernel_rfl) (by kernel_rfl) (fun _ _ _ h => h) (Or.inl ⟨rfl, fun _ _ => rfl⟩) hq0 ?_
    simp only [Act.put, List.setIfInBounds_toArray, List.set_cons_zero, List.set_cons_succ]
    refine takeL (i := 11) (v := _) rfl (by kernel_rfl) (by kernel_rfl) (by kernel_rfl) (fun _ _ _ h => h) (yieldsIf_cell rfl 29 _ rfl ⟨bx, 17, none⟩ rfl (.slice (some ⟨bb, off, none⟩) B.np k1) _ (fun W' hW' => (hW'.cell (p := ⟨bx, 17, none⟩) hzbx).trans e17) Try.underlying29 rfl) hq0 ?_
    simp only [Act.put, List.setIfInBounds_toArray, List.set_cons_zero, List.set_cons_succ]
    refine takeL (i := 12) (v := (.int .i64 (k : Int))) rfl (by kernel_rfl) (by kernel_rfl) (by kernel_rfl) (fun _ _ _ h => h) (Or.inl ⟨rfl, fun _ _ => rfl⟩) hq0 ?_
    simp only [Act.put, List.setIfInBounds_toArray, List.set_cons_zero, List.set_cons_succ]
    refine takeL (i := 13) (v := (.pointer (some ⟨bb, off + k * 89, none⟩))) rfl (by kernel_rfl) (by kernel_rfl) (by kernel_rfl) (fun _ _ _ h => h) (Or.inl ⟨rfl, fun W' _ => by go_simp⟩) hq0 ?_
    simp only [Act.put, List.setIfInBounds_toArray, List.set_cons_zero, List.set_cons_succ]
    refine takeL (i := 14) (v := (.pointer (some ⟨bb, off + k * 89 + 82, none⟩))) rfl (by kernel_rfl) (by kernel_rfl) (by kernel_rfl) (fun _ _ _ h => h) (Or.inl ⟨rfl, fun _ _ => rfl⟩) hq0 ?_
    simp only [Act.put, List.setIfInBounds_toArray, List.set_cons_zero, List.set_cons_succ]
    refine takeL (i := 15) (v := _) rfl (by kernel_rfl) (by kernel_rfl) (by kernel_rfl) (fun _ _ _ h => h) (yieldsIf_load_mid rfl 24 _ rfl bb (off + k * 89 + 82) rfl ([Value.int .i64 (B.gi k 82), .int .i64 (B.gi k 83), .int .i64 (B.gi k 84), .int .i64 (B.gi k 85)]) _ (fun W' hW' => rangeAt_ext eT.out hW' hzbb) Try.underlying24 rfl (by exact size_times)) hq0 ?_
    simp only [Act.put, List.setIfInBounds_toArray, List.set_cons_zero, List.set_cons_succ]
    refine takeL (i := 16) (v := (.bool true)) rfl (by kernel_rfl) (by kernel_rfl) (by kernel_rfl) (fun _ _ _ h => h) (Or.inl ⟨rfl, fun W' _ => by go_simp⟩) hq0 ?_
    simp only [Act.put, List.setIfInBounds_toArray, List.set_cons_zero, List.set_cons_succ]
    refine takeL (i := 17) (v := (.bool true)) rfl (by kernel_rfl) (by kernel_rfl) (by kernel_rfl) (fun _ _ _ h => h) (Or.inl ⟨rfl, fun _ _ => rfl⟩) hq0 ?_
    simp only [Act.put, List.setIfInBounds_toArray, List.set_cons_zero, List.set_cons_succ]
    refine takeL (i := 18) (v := (.bool true)) rfl (by kernel_rfl) (by kernel_rfl) (by kernel_rfl) (fun _ _ _ h => h) (Or.inl ⟨rfl, fun _ _ => rfl⟩) hq0 ?_
    simp only [Act.put, List.setIfInBounds_toArray, List.set_cons_zero, List.set_cons_succ]
    refine takeL (i := 19) (v := (.pointer (some ⟨h12, 1, none⟩))) rfl (by kernel_rfl) (by kernel_rfl) (by kernel_rfl) (fun _ _ _ h => h) (Or.inl ⟨rfl, fun _ _ => rfl⟩) hq0 ?_
    simp only [Act.put, List.setIfInBounds_toArray, List.set_cons_zero, List.set_cons_succ]
    refine takeL (i := 20) (v := _) rfl (by kernel_rfl) (by kernel_rfl) (by kernel_rfl) (fun _ _ _ h => h) (yieldsIf_cell rfl 4 _ rfl ⟨h12, 1, none⟩ rfl (.bool (B.gi k 13 != 0)) _ (fun W' hW' => (hW'.cell (p := ⟨h12, 1, none⟩) hz12).trans r12c) Try.underlying4 rfl) hq0 ?_
    simp only [Act.put, List.setIfInBounds_toArray, List.set_cons_zero, List.set_cons_succ]
    refine takeL (i := 21) (v := (.pointer (some ⟨bx, 17, none⟩))) rfl (by kernel_rfl) (by kernel_rfl) (by kernel_rfl) (fun _ _ _ h => h) (Or.inl ⟨rfl, fun _ _ => rfl⟩) hq0 ?_
    simp only [Act.put, List.setIfInBounds_toArray, List.set_cons_zero, List.set_cons_succ]
    refine takeL (i := 22) (v := _) rfl (by kernel_rfl) (by kernel_rfl) (by kernel_rfl) (fun _ _ _ h => h) (yieldsIf_cell rfl 29 _ rfl ⟨bx, 17, none⟩ rfl (.slice (some ⟨bb, off, none⟩) B.np k1) _ (fun W' hW' => (hW'.cell (p := ⟨bx, 17, none⟩) hzbx).trans e17) Try.underlying29 rfl) hq0 ?_
    simp only [Act.put, List.setIfInBounds_toArray, List.set_cons_zero, List.set_cons_succ]
    refine takeL (i := 23) (v := (.int .i64 (k : Int))) rfl (by kernel_rfl) (by kernel_rfl) (by kernel_rfl) (fun _ _ _ h => h) (Or.inl ⟨rfl, fun _ _ => rfl⟩) hq0 ?_
    simp only [Act.put, List.setIfInBounds_toArray, List.set_cons_zero, List.set_cons_succ]
    refine takeL (i := 24) (v := (.pointer (some ⟨bb, off + k * 89, none⟩))) rfl (by kernel_rfl) (by kernel_rfl) (by kernel_rfl) (fun _ _ _ h => h) (Or.inl ⟨rfl, fun W' _ => by go_simp⟩) hq0 ?_
    simp only [Act.put, List.setIfInBounds_toArray, List.set_cons_zero, List.set_cons_succ]
    refine takeL (i := 25) (v := (.pointer (some ⟨bb, off + k * 89 + 6, none⟩))) rfl (by kernel_rfl) (by kernel_rfl) (by kernel_rfl) (fun _ _ _ h => h) (Or.inl ⟨rfl, fun _ _ => rfl⟩) hq0 ?_
    simp only [Act.put, List.setIfInBounds_toArray, List.set_cons_zero, List.set_cons_succ]
    refine takeL (i := 26) (v := (.pointer (some ⟨bb, off + k * 89 + 13, none⟩))) rfl (by kernel_rfl) (by kernel_rfl) (by kernel_rfl) (fun _ _ _ h => h) (Or.inl ⟨rfl, fun _ _ => rfl⟩) hq0 ?_
    simp only [Act.put, List.setIfInBounds_toArray, List.set_cons_zero, List.set_cons_succ]
    refine takeL (i := 27) (v := _) rfl (by kernel_rfl) (by kernel_rfl) (by kernel_rfl) (fun _ _ _ h => h) (yieldsIf_cell rfl 3 _ rfl ⟨bb, off + k * 89 + 13, none⟩ rfl (.int .i64 (B.gi k 13)) _ (fun W' hW' => (hW'.cell (p := ⟨bb, off + k * 89 + 13, none⟩) hzbb).trans e13) Try.underlying3 rfl) hq0 ?_
    simp only [Act.put, List.setIfInBounds_toArray, List.set_cons_zero, List.set_cons_succ]
    refine takeL (i := 28) (v := (.bool (B.gi k 13 != 0))) rfl (by kernel_rfl) (by kernel_rfl) (by kernel_rfl) (fun _ _ _ h => h) (Or.inl ⟨rfl, fun W' _ => by go_simp⟩) hq0 ?_
    simp only [Act.put, List.setIfInBounds_toArray, List.set_cons_zero, List.set_cons_succ]
    refine takeL (i := 29) (v := (.bool true)) rfl (by kernel_rfl) (by kernel_rfl) (by kernel_rfl) (fun _ _ _ h => h) (Or.inl ⟨rfl, fun W' _ => by go_simp⟩) hq0 ?_
    simp only [Act.put, List.setIfInBounds_toArray, List.set_cons_zero, List.set_cons_succ]
    refine takeL (i := 30) (v := (.bool true)) rfl (by kernel_rfl) (by kernel_rfl) (by kernel_rfl) (fun _ _ _ h => h) (Or.inl ⟨rfl, fun _ _ => rfl⟩) hq0 ?_
    simp only [Act.put, List.setIfInBounds_toArray, List.set_cons_zero, List.set_cons_succ]
    refine takeL (i := 31) (v := (.bool true)) rfl (by kernel_rfl) (by kernel_rfl) (by kernel_rfl) (fun _ _ _ h => h) (Or.inl ⟨rfl, fun _ _ => rfl⟩) hq0 ?_
    simp only [Act.put, List.setIfInBounds_toArray, List.set_cons_zero, List.set_cons_succ]
    refine wpAnyH_done (by kernel_rfl) ?_ _
    go_wp2_with fail
    go_ret
    exact ⟨rfl, HE0.out.trans (HEZ.out.trans hq0)⟩

end Go.Proofs.Ythlapkddgnpaeaa
