/- The walk of SelOffers. No statement is proved here. -/
import Derived.Test.YthfoacgdkoijeaaSelR
import Derived.Test.YthfoacgdkoijeaaSelL
import Derived.Test.YthfoacgdkoijeaaInfJ
namespace Go.Proofs.Ythfoacgdkoijeaa
open Go.RowKit Go.BigFrame Go.WideShapes Go.ChangeShapes Go.Deep
set_option linter.unusedVariables false
set_option linter.unusedSimpArgs false

set_option maxRecDepth 100000 in
set_option maxHeartbeats 4000000 in
theorem law_SelOffers {w : World} (c : Array Value) (B : Br) (hb : BrC w c B) (ho : B.ok) (i : Int) (hi : 0 ≤ i ∧ i < 256) :
    Calls Try.prog 13 #[.agg c, .int .u8 i] w fun e w' => e = .returned (.bool true) ∧ Ext w w' := by
  have hz0 : c.size = 20 := by
    obtain ⟨_, _, _, h, _⟩ := hb.facts ho.hd.1
    exact h
  have hi20 := Lib.hid (show (Try.prog.info? 33).map (·.size) = some c.size by rw [hz0]; exact size_br)
  have HCZ := Lib.hid hz0
  have hE00 : Ext w (w.alloc (.cells c 33)) := ((Ext.refl w).alloc _)
  have hL00 : (w.alloc (.cells c 33)).heap[w.heap.size]? = some (.cells c 33 (0, 0)) := heap_alloc_new _ _
  have hS00 : w.heap.size < (w.alloc (.cells c 33)).heap.size := heap_lt hL00
  have hB00 := hb.ext hE00
  clear hz0
  have HP := Lib.hid hb
  clear hb
  have HhE00 := Lib.hid hE00
  have HhL00 := Lib.hid hL00
  have HhS00 := Lib.hid hS00
  have HhB00 := Lib.hid hB00
  clear hE00 hL00 hS00 hB00
  go_enter Try.func13, Try.ntmps13
  go_wp2_with fail
  have hE00 := HhE00.out
  clear HhE00
  have hL00 := HhL00.out
  clear HhL00
  have hS00 := HhS00.out
  clear HhS00
  have hB00 := HhB00.out
  clear HhB00
  generalize (w.alloc (.cells c 33)) = W0 at *
  obtain ⟨bx, hq⟩ : ∃ n, w.heap.size = n := ⟨_, rfl⟩
  rw [hq] at hL00 hS00 ⊢
  have HE0 := Lib.hid hE00
  have HL0 := Lib.hid hL00
  have HB0 := Lib.hid hB00
  have HS0 := Lib.hid hS00
  have HWB := Lib.hid hq
  clear hE00 hL00 hB00 hS00 hq
  refine (sel_awake _).mono ?_
  rintro e v1 ⟨rfl, E1⟩
  go_wp2_with (first | fail | ((with_reducible refine at_load 33 ?_); refine wpList_load_row rfl 33 _ rfl bx rfl 33 c (0, 0) _ ((E1.block _ HS0.out).trans HL0.out) Try.underlying33 rfl hi20.out ?_))
  refine (few_any c B _ (HB0.out.ext E1) ho).mono ?_
  rintro e v2 ⟨f, rfl, hx2, hf⟩
  have E2 := Ext.trans E1 hx2
  clear E1 hx2
  cases f
  · go_wp2_with fail
    go_ret
    exact ⟨rfl, HE0.out.trans E2⟩
  have hfew := Lib.hid (hf.1 rfl)
  clear hf
  have hn1 := hfew.out.2.1
  have HN := Lib.hid (show B.np ≤ 1000 ∧ B.no ≤ 1000 ∧ B.nf ≤ 1000 by have := hfew.out; omega)
  have hn8 : B.np < 1000 := by have := hfew.out; omega
  go_wp2_with (first
    | fail
    | ((with_reducible refine at_load 33 ?_); refine wpList_load_row rfl 33 _ rfl bx rfl 33 c (0, 0) _ ((E2.block _ HS0.out).trans HL0.out) Try.underlying33 rfl hi20.out ?_))
  refine (at_any c B i _ (HB0.out.ext E2) ho hi hn1).mono ?_
  rintro e v3 ⟨rfl, hx⟩
  have E3 := Ext.trans E2 hx
  clear E2 hx
  obtain ⟨k, hk0⟩ : ∃ k, i.toNat % B.np = k := ⟨_, rfl⟩
  have hk : k < B.np := by rw [← hk0]; exact Nat.mod_lt _ hn1
  have hk8 : k < 1000 := by omega
  rw [hk0]
  clear hk0
  have h89 := Lib.hid (len89 ho hk)
  have HR78 := Lib.hid (show ∀ k, k < B.np → 0 ≤ B.gi k 78 ∧ B.gi k 78 ≤ 65535 from fun k hk => ⟨(hfew.out.1.2 k hk).2.1.1, (hfew.out.1.2 k hk).2.1.2.1⟩)
  have hz0 := Lib.hid HL0.out
  obtain ⟨q1, q2, q3, hcz, hhd, -, -, -, -, -, -⟩ := HP.out.facts ho.hd.1
  clear hz0
  have HBR := Lib.hid ((E3.block _ HS0.out).trans HL0.out)
  have b2 := (cell_of_row _ _ 2 _ _ _ HBR.out).trans ((hhd 2 (by decide)).trans (ho.hi 2 rfl))
  have b3 := (cell_of_row _ _ 3 _ _ _ HBR.out).trans ((hhd 3 (by decide)).trans (ho.hi 3 rfl))
  have b4 := (cell_of_row _ _ 4 _ _ _ HBR.out).trans ((hhd 4 (by decide)).trans (ho.hi 4 rfl))
  have b5 := (cell_of_row _ _ 5 _ _ _ HBR.out).trans ((hhd 5 (by decide)).trans (ho.hi 5 rfl))
  have RBT := Lib.hid (show v3.rangeAt bx 2 [.int .i64 (B.hi 2), .int .i64 (B.hi 3), .int .i64 (B.hi 4), .int .i64 (B.hi 5)] from rcons b2 (rcons b3 (rcons b4 (rcons b5 rnil))))
  clear b2 b3 b4 b5
  have B0c := Lib.hid ((cell_of_row _ _ 0 _ _ _ HBR.out).trans ((hhd 0 (by decide)).trans (ho.hi 0 rfl)))
  have hbxl := Nat.lt_of_lt_of_le HS0.out E3.size
  clear hhd hcz
  have hwr : IntKind.u64.wrap (B.hi 0 * 65536) = (B.hi 0 * 65536) % 18446744073709551616 := by simp [IntKind.wrap, IntKind.signed, IntKind.bits]
  have HB0v := Lib.hid (show c[0]? = some (.int .u64 (B.hi 0)) from by
    obtain ⟨q1, q2, q3, hcz, hhd, -, -, -, -, -, -⟩ := HP.out.facts ho.hd.1
    exact (hhd 0 (by decide)).trans (ho.hi 0 rfl))
  have hw0 := Lib.hid (wf_u64 (ho.hw 0 rfl))
  go_wp2_with (first
    | fail
    | ((with_reducible refine at_load 33 ?_); refine wpList_load_row rfl 33 _ rfl bx rfl 33 c (0, 0) _ ((E3.block _ HS0.out).trans HL0.out) Try.underlying33 rfl hi20.out ?_))
  refine (clone_any c B _ (HB0.out.ext E3) ho HN.out).mono ?_
  rintro e u4 ⟨cx, rfl, hO, hx⟩
  have Eu := Ext.trans E3 hx
  have hcxz := Lib.hid (size_z20.trans (hO.size ho).symm)
  have hcxo := Lib.hid (hO.one ho)
  have hcxi := Lib.hid (show (Try.prog.info? 33).map (·.size) = some cx.size by rw [hO.size ho]; exact size_br)
  obtain ⟨gx, hM⟩ := hO.made hx.size hn1
  obtain ⟨Nx, hN0, hsz⟩ := nameLe hx.size
  have hNE : W0.heap.size ≤ Nx := by
    rw [← hN0]
    exact E3.size
  rw [hN0] at hM
  have HMK := Lib.hid (show ∀ wx : World, wx = u4.alloc (.cells cx 33) → BrG wx (fun n => Nx ≤ n ∧ n < u4.heap.size + 1) u4.heap.size gx B ∧ Ext W0 wx from by
    rintro _ rfl
    exact ⟨hM, Eu.alloc _⟩)
  clear hM hO hx Eu hN0 E3
  obtain ⟨X, hX0⟩ : ∃ n, u4.heap.size = n := ⟨_, rfl⟩
  have HX0 := Lib.hid hX0
  rw [hX0] at HMK hsz
  have hsx := Lib.hid (show Nx ≤ X ∧ W0.heap.size ≤ Nx from ⟨hsz, hNE⟩)
  clear hsz hNE hX0
  obtain ⟨z, hz⟩ : ∃ z, (IntKind.u64.wrap (B.hi 0 * 65536) == 0) = z := ⟨_, rfl⟩
  have HID := Lib.hid (show z = false → B.hi 0 % 281474976710656 ≠ 0 from fun e => by
    have h := wf_u64 (ho.hw 0 rfl)
    subst hz
    rw [hwr] at e
    have e2 : ¬ (B.hi 0 * 65536 % 18446744073709551616 = 0) := by simpa using e
    omega)
  clear hwr
  cases z
  · have HID0 := Lib.hid (HID.out rfl)
    clear HID
    go_wp2_with (first
      | fail
      | ((with_reducible refine at_store 33 ?_); refine wpList_store_new3 rfl rfl 33 _ _ _ rfl _ cx _ rfl ?_ rfl hcxi.out hcxz.out hcxo.out ?_; · rfl
         intro wx hwx
         have hmk := HMK.out wx hwx
         obtain ⟨hBx, E5⟩ := hmk
         have H5x := Lib.hid hBx
         rw [HX0.out]
         clear hwx hBx HMK HX0 hcxz hcxo hcxi
         have hb0 := (cell_of_row _ _ 0 _ _ _ ((E5.block _ HS0.out).trans HL0.out)).trans HB0v.out))
    clear hb0 hz
    go_loopw [9] (fun i wr => ∃ n : Nat, n ≤ B.np ∧ i = .int .i64 n ∧ BrG wr (fun n => Nx ≤ n ∧ n < X + 1) X gx (of3 B n) ∧ Ext W0 wr) (fun i _ => B.np - (intOf i).toNat)
    case atStart => exact ⟨0, by omega, rfl, H5x.out, E5⟩
    case round =>
      clear E5 H5x
      obtain ⟨n, hn, rfl, hB, E6⟩ := hrel
      have H6 := Lib.hid hB
      clear hB
      have okn : Br.ok (of3 B n) := of3_ok ho n hn
      have hnp : ((of3 B n)).np = B.np := of3_np B n
      by_cases hlt : n < B.np
      · have hkn : n < ((of3 B n)).np := by rw [hnp]; exact hlt
        obtain ⟨hXl, hgl, hne⟩ := H6.out.lt
        obtain ⟨cap, c17, hca, hcb⟩ := H6.out.cell17 okn
        rw [show ((of3 B n)).np = B.np from hnp] at c17 hca
        have hfr := H6.out.frozen
        have p68 := (H6.out.cellg (i := n * 89 + 68) (lt89 (N := ((of3 B n)).np) hkn (by decide))).trans (Br.ok.gi okn (k := n) hkn 68 rfl)
        have p43 := (H6.out.cellg (i := n * 89 + 43) (lt89 (N := ((of3 B n)).np) hkn (by decide))).trans (Br.ok.gb okn (k := n) hkn 43 rfl)
        go_wp2_with fail
        go_region
        go_wp2_with fail
        go_roundw
        case rel =>
          refine ⟨n + 1, by omega, by go_num, (H6.out.setp (k := n) (j := 68) hkn (by decide) _).setp (k := n) (j := 43) hkn (by decide) _, ?_⟩
          exact Ext.mutE E6 ((((Mut.refl (fun n => Nx ≤ n ∧ n < X + 1) wr).setCell (p := ⟨gx, n * 89 + 68, none⟩) (.inl H6.out.F2) _)).setCell (p := ⟨gx, n * 89 + 43, none⟩) (.inl H6.out.F2) _) (fun n hn h1 => by have := h1.1; have := hsx.out; omega)
        case measure => simp [intOf]; omega
      · obtain rfl : n = B.np := by omega
        obtain ⟨Z, hZ⟩ : ∃ Z, (of3 B B.np) = Z := ⟨_, rfl⟩
        rw [hZ] at H6 okn hnp
        obtain ⟨hXlt, hglt, hnet⟩ := H6.out.lt
        obtain ⟨capt, c17t, hcat, hcbt⟩ := H6.out.cell17 okn
        rw [show (Z).np = B.np from hnp] at c17t hcat
        have hfrt := H6.out.frozen
        have hkZ : k < Z.np := by rw [hnp]; exact hk
        have h89Z := len89 okn hkZ
        obtain ⟨hXl, hgl, hne⟩ := H6.out.lt
        obtain ⟨cap, c17, hca, hcb⟩ := H6.out.cell17 okn
        rw [show (Z).np = B.np from hnp] at c17 hca
        have hfr := H6.out.frozen
        have p86 := (H6.out.cellg (i := k * 89 + 86) (lt89 (N := (Z).np) hkZ (by decide))).trans (Br.ok.gi okn (k := k) hkZ 86 rfl)
        go_upto_region 16 with fail
        have HZ7 := Lib.hid (show BrG _ (fun n => Nx ≤ n ∧ n < X + 1) X gx (Z.setp k 86 (.int .i64 3)) from (H6.out.setp (k := k) (j := 86) hkZ (by decide) (.int .i64 3)))
        have okz7 : Br.ok (Z.setp k 86 (.int .i64 3)) := (okn.setI (k := k) hkZ 86 .i64 3 rfl (by decide))
        have hmz := ((Mut.refl (fun n => Nx ≤ n ∧ n < X + 1) wr).setCell (p := ⟨gx, k * 89 + 86, none⟩) (.inl H6.out.F2) (.int .i64 3))
        have EZ7 := Ext.mutE E6 hmz (fun n hn h1 => by have := h1.1; have := hsx.out; omega)
        clear E6
        have HMZ := Lib.hid hmz
        clear hmz
        clear c17 hfr p86
        clear c17t hfrt
        go_wp2_with (first
          | fail
          | ((with_reducible refine at_store 28 ?_); refine wpList_store_midN rfl rfl 28 _ _ rfl gx (k * 89 + 68) #[.int .u64 0, .int .u32 0, .int .u64 0, .int .u16 0, .int .u16 0] rfl (by go_simp) (HZ7.out.thereAt (k := k) (n := 5) hkZ (by decide)) (by exact size_vec) (by rw [← Array.all_toList]; rfl) ?_
             intro wy hwy
             have hBS : BrG wy (fun n => Nx ≤ n ∧ n < X + 1) X gx (ofZ1 Z k) := by
               rw [hwy]
               exact HZ7.out.setr (k := k) (j := 68) (l := OZ) hkZ (by exact (by decide : 68 + 5 ≤ 89))
             have E8 : Ext W0 wy := by
               rw [hwy]
               exact Ext.mutE EZ7 (Mut.setCells (F := (fun n => Nx ≤ n ∧ n < X + 1)) (.inl HZ7.out.F2) _ _ (Mut.refl _ _)) (fun n hn h1 => by have := h1.1; have := hsx.out; omega)
             have H8x := Lib.hid hBS
             clear hwy hBS EZ7
             obtain ⟨hXl, hgl, hne⟩ := H8x.out.lt
             obtain ⟨cap, c17, hca, hcb⟩ := H8x.out.cell17 (ofZ1_ok okn hkZ)
             rw [show ((ofZ1 Z k)).np = B.np from hnp] at c17 hca
             have hfr := H8x.out.frozen
             have p1 := (H8x.out.cellg (i := k * 89 + 1) (lt89 (N := ((ofZ1 Z k)).np) hkZ (by decide))).trans (Br.ok.gi (ofZ1_ok okn hkZ) (k := k) hkZ 1 rfl)))
        have HZ9 := Lib.hid (show BrG _ (fun n => Nx ≤ n ∧ n < X + 1) X gx (ofZ Z k) from H8x.out.setp (k := k) (j := 1) hkZ (by decide) (.int .u32 0))
        have hmz := ((Mut.refl (fun n => Nx ≤ n ∧ n < X + 1) wy).setCell (p := ⟨gx, k * 89 + 1, none⟩) (.inl H8x.out.F2) (.int .u32 0))
        have EZ9 := Ext.mutE E8 hmz (fun n hn h1 => by have := h1.1; have := hsx.out; omega)
        clear E8
        clear c17 hfr p1
        clear hmz
        obtain ⟨C, hC⟩ : ∃ C, ofZ Z k = C := ⟨_, rfl⟩
        have okC : C.ok := hC ▸ ofZ_ok okn hkZ
        have hnC : C.np = B.np := by rw [← hC]; exact hnp
        rw [hC] at HZ9
        have h43 : C.gb 0 43 = true := by
          rw [← hC, ofZ_43a h89Z]
          rw [← hZ]; exact (of3_lt ho B.np (Nat.le_refl _) 0 hn1).2
        have hA : anyR C (Br.np C) = true := anyR_of (k := 0) h43 _ (by rw [hnC]; exact hn1)
        have hR0 : ∀ k, k < Br.np C → 0 ≤ Br.gi C k 78 ∧ Br.gi C k 78 ≤ 65535 := fun n hn => by rw [← hC, ofZ_keep h89Z (by decide) (by decide) (by decide) (by decide), ← hZ, of3_gi B (by decide) (by decide) (by decide)]; exact HR78.out n (by rw [← hnC]; exact hn)
        have hN8 : Br.np C < 1000 := (by rw [hnC]; exact hn8)
        have hN1 : 1 ≤ Br.np C := (by rw [hnC]; exact hn1)
        have SO := sel_out (B := C) okC hN8 hR0
        have HD := Lib.hid (sel_does hA)
        obtain ⟨Y, hY⟩ : ∃ q, psel (selB2 (noR C (Br.np C))) (Br.np C) = q := ⟨_, rfl⟩
        rw [hY] at SO HD
        clear hY hA
        have HSO := Lib.hid SO
        clear SO
        refine (sel_step _ (fun n => Nx ≤ n ∧ n < X + 1) X gx C HZ9.out okC hN8 hN1 hR0).mono ?_
        rw [HD.out]
        rintro e v10 ⟨he, hB, hm⟩
        obtain rfl : e = .returned (.bool true) := he
        have E10 := Ext.mutE EZ9 hm (fun n hn h1 => by have := h1.1; have := hsx.out; omega)
        clear EZ9
        have H10x := Lib.hid (show BrG _ (fun n => Nx ≤ n ∧ n < X + 1) X gx Y from hB)
        clear hB hm hR0 hN8 hN1
        obtain ⟨o7, o8, o12, o88, o50⟩ := offers_out (Z := Z) (Y := Y) ho hk HID0.out hZ (hC ▸ HSO.out)
        have hnY : Y.np = B.np := HSO.out.np.trans hnC
        have hkY : k < Y.np := by rw [hnY]; exact hk
        clear h43
        obtain ⟨hXl, hgl, hne⟩ := H10x.out.lt
        obtain ⟨cap, c17, hca, hcb⟩ := H10x.out.cell17 HSO.out.ok
        rw [show (Y).np = B.np from hnY] at c17 hca
        have hfr := H10x.out.frozen
        have hd7 := (H10x.out.cellX HSO.out.ok (i := 7) (by omega)).trans (HSO.out.ok.hi 7 rfl)
        have hd8 := (H10x.out.cellX HSO.out.ok (i := 8) (by omega)).trans (HSO.out.ok.hi 8 rfl)
        have hd12 := (H10x.out.cellX HSO.out.ok (i := 12) (by omega)).trans (HSO.out.ok.hi 12 rfl)
        have p88 := (H10x.out.cellg (i := k * 89 + 88) (lt89 (N := (Y).np) hkY (by decide))).trans (Br.ok.gi HSO.out.ok (k := k) hkY 88 rfl)
        have p50 := (H10x.out.cellg (i := k * 89 + 50) (lt89 (N := (Y).np) hkY (by decide))).trans (Br.ok.gb HSO.out.ok (k := k) hkY 50 rfl)
        rw [o7] at hd7
        rw [o8] at hd8
        rw [o12] at hd12
        rw [o88] at p88
        rw [o50] at p50
        go_wp2_with fail
        all_goals
          go_ret
          exact ⟨rfl, HE0.out.trans E10⟩
  · go_wp2_with (first
      | fail
      | ((with_reducible refine at_store 33 ?_); refine wpList_store_new3 rfl rfl 33 _ _ _ rfl _ cx _ rfl ?_ rfl hcxi.out hcxz.out hcxo.out ?_; · rfl
         intro wx hwx
         have hmk := HMK.out wx hwx
         obtain ⟨hBx, E5⟩ := hmk
         have H5x := Lib.hid hBx
         rw [HX0.out]
         clear hwx hBx HMK HX0 hcxz hcxo hcxi
         have hb0 := (cell_of_row _ _ 0 _ _ _ ((E5.block _ HS0.out).trans HL0.out)).trans HB0v.out))
    all_goals
      go_ret
      exact ⟨rfl, HE0.out.trans E5⟩

end Go.Proofs.Ythfoacgdkoijeaa
