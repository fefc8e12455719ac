/- The walk of SelTimes. No statement is proved here. -/
import Derived.Test.YthfoacgdkoijeaaSelP
import Derived.Test.YthfoacgdkoijeaaSelL
import Derived.Test.YthfoacgdkoijeaaInfI
namespace Go.Proofs.Ythfoacgdkoijeaa
open Go.RowKit Go.BigFrame Go.WideShapes Go.ChangeShapes Go.Deep
set_option linter.unusedVariables false
set_option linter.unusedSimpArgs false

set_option maxRecDepth 100000 in
set_option maxHeartbeats 4000000 in
theorem law_SelTimes {w : World} (c : Array Value) (B : Br) (hb : BrC w c B) (ho : B.ok) :
    Calls Try.prog 14 #[.agg c] w fun e w' => e = .returned (.bool true) ∧ Ext w w' := by
  have hz0 : c.size = 20 := by
    obtain ⟨_, _, _, h, _⟩ := hb.facts ho.hd.1
    exact h
  have hi20 := Lib.hid (show (Try.prog.info? 33).map (·.size) = some c.size by rw [hz0]; exact size_br)
  have HCZ := Lib.hid hz0
  have hE00 : Ext w (w.alloc (.cells c 33)) := ((Ext.refl w).alloc _)
  have hL00 : (w.alloc (.cells c 33)).heap[w.heap.size]? = some (.cells c 33 (0, 0)) := heap_alloc_new _ _
  have hS00 : w.heap.size < (w.alloc (.cells c 33)).heap.size := heap_lt hL00
  have hB00 := hb.ext hE00
  clear hz0
  have HP := Lib.hid hb
  clear hb
  have HhE00 := Lib.hid hE00
  have HhL00 := Lib.hid hL00
  have HhS00 := Lib.hid hS00
  have HhB00 := Lib.hid hB00
  clear hE00 hL00 hS00 hB00
  go_enter Try.func14, Try.ntmps14
  go_wp2_with fail
  have hE00 := HhE00.out
  clear HhE00
  have hL00 := HhL00.out
  clear HhL00
  have hS00 := HhS00.out
  clear HhS00
  have hB00 := HhB00.out
  clear HhB00
  generalize (w.alloc (.cells c 33)) = W0 at *
  obtain ⟨bx, hq⟩ : ∃ n, w.heap.size = n := ⟨_, rfl⟩
  rw [hq] at hL00 hS00 ⊢
  have HE0 := Lib.hid hE00
  have HL0 := Lib.hid hL00
  have HB0 := Lib.hid hB00
  have HS0 := Lib.hid hS00
  have HWB := Lib.hid hq
  clear hE00 hL00 hB00 hS00 hq
  refine (sel_awake _).mono ?_
  rintro e v1 ⟨rfl, E1⟩
  go_wp2_with (first | fail | ((with_reducible refine at_load 33 ?_); refine wpList_load_row rfl 33 _ rfl bx rfl 33 c (0, 0) _ ((E1.block _ HS0.out).trans HL0.out) Try.underlying33 rfl hi20.out ?_))
  refine (few_any c B _ (HB0.out.ext E1) ho).mono ?_
  rintro e v2 ⟨f, rfl, hx2, hf⟩
  have E2 := Ext.trans E1 hx2
  clear E1 hx2
  cases f
  · go_wp2_with fail
    go_ret
    exact ⟨rfl, HE0.out.trans E2⟩
  have hfew := Lib.hid (hf.1 rfl)
  clear hf
  have hn1 := hfew.out.2.1
  have HN := Lib.hid (show B.np ≤ 1000 ∧ B.no ≤ 1000 ∧ B.nf ≤ 1000 by have := hfew.out; omega)
  have hn8 : B.np < 1000 := by have := hfew.out; omega
  obtain ⟨s1, s2, s3, hz0, hhd, c17b, c18b, c19b, r1, r2, r3⟩ := HP.out.facts ho.hd.1
  obtain ⟨a1, k1, rfl, m1, f1⟩ := r1.form
  obtain ⟨bb, off, rfl, hbl, hlc, hcm, hrg⟩ := f1 (by omega)
  have HB17 := Lib.hid (show W0.cell? ⟨bx, 17, none⟩ = some (.slice (some ⟨bb, off, none⟩) B.np k1) by rw [cell_of_row _ _ _ _ _ _ HL0.out]; exact c17b)
  have HRG := Lib.hid hrg
  have HBL := Lib.hid hbl
  clear hz0 hhd c18b c19b r2 r3 r1 hrg c17b f1 hbl
  have HR78 := Lib.hid (show ∀ k, k < B.np → 0 ≤ B.gi k 78 ∧ B.gi k 78 ≤ 65535 from fun k hk => ⟨(hfew.out.1.2 k hk).2.1.1, (hfew.out.1.2 k hk).2.1.2.1⟩)
  go_wp2_with (first
    | fail
    | ((with_reducible refine at_load 33 ?_); refine wpList_load_row rfl 33 _ rfl bx rfl 33 c (0, 0) _ ((E2.block _ HS0.out).trans HL0.out) Try.underlying33 rfl hi20.out ?_))
  refine (clone_any c B _ (HB0.out.ext E2) ho HN.out).mono ?_
  rintro e u3 ⟨cx, rfl, hO, hx⟩
  have Eu := Ext.trans E2 hx
  have hcxz := Lib.hid (size_z20.trans (hO.size ho).symm)
  have hcxo := Lib.hid (hO.one ho)
  have hcxi := Lib.hid (show (Try.prog.info? 33).map (·.size) = some cx.size by rw [hO.size ho]; exact size_br)
  obtain ⟨gx, hM⟩ := hO.made hx.size hn1
  obtain ⟨Nx, hN0, hsz⟩ := nameLe hx.size
  have hNE : W0.heap.size ≤ Nx := by
    rw [← hN0]
    exact E2.size
  rw [hN0] at hM
  have HMK := Lib.hid (show ∀ wx : World, wx = u3.alloc (.cells cx 33) → BrG wx (fun n => Nx ≤ n ∧ n < u3.heap.size + 1) u3.heap.size gx B ∧ Ext W0 wx from by
    rintro _ rfl
    exact ⟨hM, Eu.alloc _⟩)
  clear hM hO hx Eu hN0 E2
  obtain ⟨X, hX0⟩ : ∃ n, u3.heap.size = n := ⟨_, rfl⟩
  have HX0 := Lib.hid hX0
  rw [hX0] at HMK hsz
  have hsx := Lib.hid (show Nx ≤ X ∧ W0.heap.size ≤ Nx from ⟨hsz, hNE⟩)
  clear hsz hNE hX0
  go_wp2_with (first
    | fail
    | ((with_reducible refine at_store 33 ?_); refine wpList_store_new3 rfl rfl 33 _ _ _ rfl _ cx _ rfl ?_ rfl hcxi.out hcxz.out hcxo.out ?_; · rfl
       intro wx hwx
       have hmk := HMK.out wx hwx
       obtain ⟨hBx, E4⟩ := hmk
       have H4x := Lib.hid hBx
       rw [HX0.out]
       clear hwx hBx HMK HX0 hcxz hcxo hcxi
       obtain ⟨hXl, hgl, hne⟩ := H4x.out.lt
       obtain ⟨cap, c17, hca, hcb⟩ := H4x.out.cell17 ho
       have hfr := H4x.out.frozen
       have p43 := (H4x.out.cellg (i := 0 * 89 + 43) (lt89 (N := (B).np) hn1 (by decide))).trans (Br.ok.gb ho (k := 0) hn1 43 rfl)
       rw [Nat.zero_mul, Nat.zero_add] at p43))
  have HZ5 := Lib.hid (show BrG _ (fun n => Nx ≤ n ∧ n < X + 1) X gx (B.setp 0 43 (.bool true)) from (H4x.out.setp (k := 0) (j := 43) hn1 (by decide) (.bool true)))
  have okz5 : Br.ok (B.setp 0 43 (.bool true)) := (ho.setB (k := 0) hn1 43 true rfl)
  have hmz := ((Mut.refl (fun n => Nx ≤ n ∧ n < X + 1) wx).setCell (p := ⟨gx, 0 * 89 + 43, none⟩) (.inl H4x.out.F2) (.bool true))
  have EZ5 := Ext.mutE E4 hmz (fun n hn h1 => by have := h1.1; have := hsx.out; omega)
  clear E4
  have HMZ := Lib.hid hmz
  clear hmz
  clear c17 hfr p43
  have hgi : ∀ k j, j < 89 → j ≠ 43 → Br.gi (B.setp 0 43 (.bool true)) k j = B.gi k j := fun k j h1 h2 => by
    by_cases e : k = 0
    · subst e; exact gi_setp_ne _ _ _ _ _ (Ne.symm h2)
    · exact gi_setp_port B _ (Ne.symm e) (by decide) h1
  have hA : anyR (B.setp 0 43 (.bool true)) (Br.np (B.setp 0 43 (.bool true))) = true := anyR_of (k := 0) (gb_setp_same _ _ _ _ (by have := len89 ho hn1; omega)) _ hn1
  have hR0 : ∀ k, k < Br.np (B.setp 0 43 (.bool true)) → 0 ≤ Br.gi (B.setp 0 43 (.bool true)) k 78 ∧ Br.gi (B.setp 0 43 (.bool true)) k 78 ≤ 65535 := fun k hk => by rw [hgi k 78 (by decide) (by decide)]; exact HR78.out k hk
  have SO := sel_out (B := (B.setp 0 43 (.bool true))) okz5 hn8 hR0
  have HD := Lib.hid (sel_does hA)
  obtain ⟨Z, hZ⟩ : ∃ Z, psel (selB2 (noR (B.setp 0 43 (.bool true)) (Br.np (B.setp 0 43 (.bool true))))) (Br.np (B.setp 0 43 (.bool true))) = Z := ⟨_, rfl⟩
  rw [hZ] at SO HD
  clear hZ hA
  have HSO := Lib.hid SO
  have HGI := Lib.hid hgi
  clear SO hgi
  refine (sel_step _ (fun n => Nx ≤ n ∧ n < X + 1) X gx (B.setp 0 43 (.bool true)) HZ5.out okz5 hn8 hn1 hR0).mono ?_
  rw [HD.out]
  rintro e v6 ⟨he, hB, hm⟩
  obtain rfl : e = .returned (.bool true) := he
  have E6 := Ext.mutE EZ5 hm (fun n hn h1 => by have := h1.1; have := hsx.out; omega)
  clear EZ5
  have H6x := Lib.hid (show BrG _ (fun n => Nx ≤ n ∧ n < X + 1) X gx Z from hB)
  clear hB hm hR0
  have hz0 := Lib.hid HL0.out
  obtain ⟨q1, q2, q3, hcz, hhd, -, -, -, -, -, -⟩ := HP.out.facts ho.hd.1
  clear hz0
  have HBR := Lib.hid ((E6.block _ HS0.out).trans HL0.out)
  have b2 := (cell_of_row _ _ 2 _ _ _ HBR.out).trans ((hhd 2 (by decide)).trans (ho.hi 2 rfl))
  have b3 := (cell_of_row _ _ 3 _ _ _ HBR.out).trans ((hhd 3 (by decide)).trans (ho.hi 3 rfl))
  have b4 := (cell_of_row _ _ 4 _ _ _ HBR.out).trans ((hhd 4 (by decide)).trans (ho.hi 4 rfl))
  have b5 := (cell_of_row _ _ 5 _ _ _ HBR.out).trans ((hhd 5 (by decide)).trans (ho.hi 5 rfl))
  have b17 := (E6.cell (p := ⟨bx, 17, none⟩) HS0.out).trans HB17.out
  have RBT := Lib.hid (show v6.rangeAt bx 2 [.int .i64 (B.hi 2), .int .i64 (B.hi 3), .int .i64 (B.hi 4), .int .i64 (B.hi 5)] from rcons b2 (rcons b3 (rcons b4 (rcons b5 rnil))))
  clear b2 b3 b5
  have hXlt := H6x.out.lt.1
  have x12 := (H6x.out.cellX HSO.out.ok (i := 12) (by decide)).trans (HSO.out.ok.hi 12 rfl)
  have hzt := zero_times
  have hbxl := Nat.lt_of_lt_of_le HS0.out E6.size
  have X7 := Lib.hid ((H6x.out.cellX HSO.out.ok (i := 7) (by decide)).trans (HSO.out.ok.hi 7 rfl))
  have X8 := Lib.hid ((H6x.out.cellX HSO.out.ok (i := 8) (by decide)).trans (HSO.out.ok.hi 8 rfl))
  have x13 := (H6x.out.cellX HSO.out.ok (i := 13) (by decide)).trans (HSO.out.ok.hi 13 rfl)
  have x14 := (H6x.out.cellX HSO.out.ok (i := 14) (by decide)).trans (HSO.out.ok.hi 14 rfl)
  have x15 := (H6x.out.cellX HSO.out.ok (i := 15) (by decide)).trans (HSO.out.ok.hi 15 rfl)
  have x16 := (H6x.out.cellX HSO.out.ok (i := 16) (by decide)).trans (HSO.out.ok.hi 16 rfl)
  have RXT := Lib.hid (show v6.rangeAt X 13 [.int .i64 (Z.hi 13), .int .i64 (Z.hi 14), .int .i64 (Z.hi 15), .int .i64 (Z.hi 16)] from rcons x13 (rcons x14 (rcons x15 (rcons x16 rnil))))
  clear x13 x14 x15 x16
  have B0c := Lib.hid ((cell_of_row _ _ 0 _ _ _ HBR.out).trans ((hhd 0 (by decide)).trans (ho.hi 0 rfl)))
  have B17 := Lib.hid b17
  have B4 := Lib.hid b4
  clear b17 b4
  have HBV := Lib.hid (show bb < v6.heap.size from Nat.lt_of_lt_of_le HBL.out (HE0.out.trans E6).size)
  have hrb := Lib.hid (rangeAt_ext HRG.out (HE0.out.trans E6) HBL.out)
  rcases HSO.out.times with ⟨e12, e13, e14, e15, e16⟩ | ⟨m, hk, e12, e13, e14, e15, e16⟩
  · simp only [hi_setp] at e13 e14 e15 e16
    rw [e12] at x12
    have X12 := Lib.hid x12
    clear x12
    go_upto_region 14 with (first
      | fail
      | ((with_reducible refine at_alloc 24 ?_); refine al_zero rfl 24 rfl TZ zero_times ?_
         intro N0 z1 hq hs hx
         have HN_z1 := Lib.hid hq
         have hE_z1 : Ext v6 z1 := hx
         have hN0 : v6.heap.size ≤ N0 := by omega
         clear hq hs hx)
      | ((with_reducible refine at_load 24 ?_); refine wpList_load_mid rfl 24 _ rfl bx 2 rfl [.int .i64 (B.hi 2), .int .i64 (B.hi 3), .int .i64 (B.hi 4), .int .i64 (B.hi 5)] _ RBT.out Try.underlying24 rfl (by kernel_rfl) ?_)
      | ((with_reducible refine at_store 24 ?_); refine st_at rfl rfl 24 _ _ rfl N0 0 _ #[.int .i64 (B.hi 2), .int .i64 (B.hi 3), .int .i64 (B.hi 4), .int .i64 (B.hi 5)] _ #[.int .i64 (B.hi 2), .int .i64 (B.hi 3), .int .i64 (B.hi 4), .int .i64 (B.hi 5)] _ rfl rfl rfl HN_z1.out (by exact (by decide : 0 + 4 ≤ 4)) (by kernel_rfl) rfl rfl ?_
         intro z2 hq hm
         have HN_z2 := Lib.hid hq
         have hE_z2 : Ext v6 z2 := Ext.mutE hE_z1 hm (fun n hn h => by have h2 : n = N0 := h; omega)
         have x12 := (hE_z2.cell (p := ⟨X, 12, none⟩) hXlt).trans X12.out
         have b17 := (hE_z2.cell (p := ⟨bx, 17, none⟩) hbxl).trans B17.out
         have b4 := (hE_z2.cell (p := ⟨bx, 4, none⟩) hbxl).trans B4.out
         have RXz := Lib.hid (rangeAt_ext RXT.out hE_z2 hXlt)
         clear hq hm))
    rw [← e13, ← e14, ← e15, ← e16] at HN_z2
    go_upto_region 18 with (first
      | fail
      | ((with_reducible refine at_load 24 ?_); refine wpList_load_mid rfl 24 _ rfl X 13 rfl [.int .i64 (Z.hi 13), .int .i64 (Z.hi 14), .int .i64 (Z.hi 15), .int .i64 (Z.hi 16)] _ RXz.out Try.underlying24 rfl (by kernel_rfl) ?_)
      | ((with_reducible refine at_load 24 ?_); refine wpList_load_row rfl 24 _ rfl N0 rfl 24 #[.int .i64 (Z.hi 13), .int .i64 (Z.hi 14), .int .i64 (Z.hi 15), .int .i64 (Z.hi 16)] (0, 0) _ HN_z2.out Try.underlying24 rfl (by kernel_rfl) ?_)
      | ((with_reducible refine at_store 3 ?_); refine st_at rfl rfl 3 _ _ rfl N0 2 _ #[.int .i64 (B.hi 4)] _ #[.int .i64 (Z.hi 13), .int .i64 (Z.hi 14), .int .i64 (B.hi 4), .int .i64 (Z.hi 16)] _ rfl rfl rfl HN_z2.out (by exact (by decide : 2 + 1 ≤ 4)) (by kernel_rfl) rfl rfl ?_
         intro z5 hq hm
         have HN_z5 := Lib.hid hq
         have hE_z5 : Ext v6 z5 := Ext.mutE hE_z2 hm (fun n hn h => by have h2 : n = N0 := h; omega)
         clear RXz b4 b17 x12
         clear hq hm))
    have HX := Lib.hid (H6x.out.ext hE_z5)
    have HNq := Lib.hid (show N0 < z5.heap.size from heap_lt HN_z5.out)
    have HEz := Lib.hid hE_z5
    clear hE_z5
    go_loopw [8] (fun i wr => ∃ n : Nat, n ≤ B.np ∧ i = .int .i64 n ∧ Ext z5 wr) (fun i _ => B.np - (intOf i).toNat)
    case atStart => exact ⟨0, by omega, rfl, Ext.refl _⟩
    case round =>
      obtain ⟨k, hn, rfl, EL⟩ := hrel
      have HXr := Lib.hid (HX.out.ext EL)
      by_cases hk : k < B.np
      · obtain ⟨hXl, hgl, hne⟩ := HXr.out.lt
        obtain ⟨cap, c17, hca, hcb⟩ := HXr.out.cell17 HSO.out.ok
        rw [show (Z).np = B.np from HSO.out.np] at c17 hca
        have hfr := HXr.out.frozen
        obtain ⟨d73, d74, d75, d76, d77, d82, d83, d84, d85⟩ := so_des HSO.out okz5 (n := k) hk
        rw [HGI.out k 0 (by decide) (by decide)] at d76
        have d75 : Z.gi k 75 = B.hi 0 := d75
        have d84 : Z.gi k 84 = B.hi 4 := d84
        have d0 : Z.gi k 0 = B.gi k 0 := (so_keep HSO.out okz5 (n := k) (j := 0) hk (by decide) (by decide) (by decide) (by decide)).trans (HGI.out k 0 (by decide) (by decide))
        have d68 : Z.gi k 68 = B.gi k 68 := (so_keep HSO.out okz5 (n := k) (j := 68) hk (by decide) (by decide) (by decide) (by decide)).trans (HGI.out k 68 (by decide) (by decide))
        have d69 : Z.gi k 69 = B.gi k 69 := (so_keep HSO.out okz5 (n := k) (j := 69) hk (by decide) (by decide) (by decide) (by decide)).trans (HGI.out k 69 (by decide) (by decide))
        have d70 : Z.gi k 70 = B.gi k 70 := (so_keep HSO.out okz5 (n := k) (j := 70) hk (by decide) (by decide) (by decide) (by decide)).trans (HGI.out k 70 (by decide) (by decide))
        have d71 : Z.gi k 71 = B.gi k 71 := (so_keep HSO.out okz5 (n := k) (j := 71) hk (by decide) (by decide) (by decide) (by decide)).trans (HGI.out k 71 (by decide) (by decide))
        have d72 : Z.gi k 72 = B.gi k 72 := (so_keep HSO.out okz5 (n := k) (j := 72) hk (by decide) (by decide) (by decide) (by decide)).trans (HGI.out k 72 (by decide) (by decide))
        have hkc : k < Br.np Z := (show k < Br.np Z by rw [HSO.out.np]; exact hk)
        have hrq0 := HXr.out.range (k := k) hkc
        have cq0 : (port (Br.ps Z) k)[0]? = some (.int .u16 (B.gi k 0)) := (port_at (B := Z) (k := k) (j := 0) (by decide)).trans ((Br.ok.gi HSO.out.ok (k := k) hkc 0 rfl).trans (by rw [d0]))
        have cq73 : (port (Br.ps Z) k)[73]? = some (.int .u64 (Z.hi 7)) := (port_at (B := Z) (k := k) (j := 73) (by decide)).trans ((Br.ok.gi HSO.out.ok (k := k) hkc 73 rfl).trans (by rw [d73]))
        have cq74 : (port (Br.ps Z) k)[74]? = some (.int .u32 (Z.hi 8)) := (port_at (B := Z) (k := k) (j := 74) (by decide)).trans ((Br.ok.gi HSO.out.ok (k := k) hkc 74 rfl).trans (by rw [d74]))
        have cq75 : (port (Br.ps Z) k)[75]? = some (.int .u64 (B.hi 0)) := (port_at (B := Z) (k := k) (j := 75) (by decide)).trans ((Br.ok.gi HSO.out.ok (k := k) hkc 75 rfl).trans (by rw [d75]))
        have cq76 : (port (Br.ps Z) k)[76]? = some (.int .u16 (B.gi k 0)) := (port_at (B := Z) (k := k) (j := 76) (by decide)).trans ((Br.ok.gi HSO.out.ok (k := k) hkc 76 rfl).trans (by rw [d76]))
        have cq77 : (port (Br.ps Z) k)[77]? = some (.int .u16 0) := (port_at (B := Z) (k := k) (j := 77) (by decide)).trans ((Br.ok.gi HSO.out.ok (k := k) hkc 77 rfl).trans (by rw [d77]))
        have cq82 : (port (Br.ps Z) k)[82]? = some (.int .i64 (Z.hi 13)) := (port_at (B := Z) (k := k) (j := 82) (by decide)).trans ((Br.ok.gi HSO.out.ok (k := k) hkc 82 rfl).trans (by rw [d82]))
        have cq83 : (port (Br.ps Z) k)[83]? = some (.int .i64 (Z.hi 14)) := (port_at (B := Z) (k := k) (j := 83) (by decide)).trans ((Br.ok.gi HSO.out.ok (k := k) hkc 83 rfl).trans (by rw [d83]))
        have cq84 : (port (Br.ps Z) k)[84]? = some (.int .i64 (B.hi 4)) := (port_at (B := Z) (k := k) (j := 84) (by decide)).trans ((Br.ok.gi HSO.out.ok (k := k) hkc 84 rfl).trans (by rw [d84]))
        have cq85 : (port (Br.ps Z) k)[85]? = some (.int .i64 (Z.hi 16)) := (port_at (B := Z) (k := k) (j := 85) (by decide)).trans ((Br.ok.gi HSO.out.ok (k := k) hkc 85 rfl).trans (by rw [d85]))
        have cq68 : (port (Br.ps Z) k)[68]? = some (.int .u64 (B.gi k 68)) := (port_at (B := Z) (k := k) (j := 68) (by decide)).trans ((Br.ok.gi HSO.out.ok (k := k) hkc 68 rfl).trans (by rw [d68]))
        have cq69 : (port (Br.ps Z) k)[69]? = some (.int .u32 (B.gi k 69)) := (port_at (B := Z) (k := k) (j := 69) (by decide)).trans ((Br.ok.gi HSO.out.ok (k := k) hkc 69 rfl).trans (by rw [d69]))
        have cq70 : (port (Br.ps Z) k)[70]? = some (.int .u64 (B.gi k 70)) := (port_at (B := Z) (k := k) (j := 70) (by decide)).trans ((Br.ok.gi HSO.out.ok (k := k) hkc 70 rfl).trans (by rw [d70]))
        have cq71 : (port (Br.ps Z) k)[71]? = some (.int .u16 (B.gi k 71)) := (port_at (B := Z) (k := k) (j := 71) (by decide)).trans ((Br.ok.gi HSO.out.ok (k := k) hkc 71 rfl).trans (by rw [d71]))
        have cq72 : (port (Br.ps Z) k)[72]? = some (.int .u16 (B.gi k 72)) := (port_at (B := Z) (k := k) (j := 72) (by decide)).trans ((Br.ok.gi HSO.out.ok (k := k) hkc 72 rfl).trans (by rw [d72]))
        have hnq0 : (port (Br.ps Z) k).length = 89 := (port_typed HSO.out.ok (i := k) hkc).1
        have hoq := Lib.hid (all_oneCell_toArray (port_typed HSO.out.ok (i := k) hkc).one)
        obtain ⟨pq, hpq⟩ : ∃ p, port (Br.ps Z) k = p := ⟨_, rfl⟩
        rw [hpq] at hrq0 hnq0 hoq cq0 cq73 cq74 cq75 cq76 cq77 cq82 cq83 cq84 cq85 cq68 cq69 cq70 cq71 cq72
        clear hpq
        have hrq := Lib.hid hrq0
        clear hrq0
        have hiq := Lib.hid (show (Try.prog.info? 51).map (·.size) = some pq.length by rw [hnq0]; exact size_port)
        have hjq := Lib.hid (show (Try.prog.info? 51).map (·.size) = some pq.toArray.size by rw [List.size_toArray, hnq0]; exact size_port)
        have hsqz := Lib.hid (show PZ.size = pq.toArray.size by rw [List.size_toArray]; exact hnq0.symm)
        have hzq := zero_port
        clear hnq0
        clear hkc
        clear d0 d73 d74 d75 d76 d77 d82 d83 d84 d85 d68 d69 d70 d71 d72
        go_wp2_with (first
          | fail
          | ((with_reducible refine at_load 51 ?_); refine wpList_load_mid rfl 51 _ rfl gx (k * 89) rfl pq _ hrq.out Try.underlying51 rfl hiq.out ?_)
          | ((with_reducible refine at_store 51 ?_); refine wpList_store_new3 rfl rfl 51 _ _ _ rfl PZ pq.toArray _ rfl ?_ rfl hjq.out hsqz.out (by rw [Array.all_toList]; exact hoq.out) ?_; · rfl
             intro wfq hwf
             have hY := HXr.out.alloc (.cells pq.toArray 51)
             rw [← hwf] at hY
             have hE0 : Ext wr wfq := by rw [hwf]; exact (Ext.refl _).alloc _
             have E7 := EL.trans hE0
             have hbx := heap_alloc_new wr (.cells pq.toArray 51)
             rw [← hwf] at hbx
             have hxb := Lib.hid HXr.out.lt.1
             obtain ⟨fq, hfb⟩ : ∃ n, wr.heap.size = n := ⟨_, rfl⟩
             rw [hfb] at hbx hxb ⊢
             have HFq := Lib.hid hbx
             have HGq := hxb
             have H7x := Lib.hid hY
             clear hwf hY hbx hxb hfb hE0 EL hzq))
        have hEa := HEz.out.trans E7
        have hXv := Nat.lt_of_lt_of_le hXlt hEa.size
        have hbxv := Nat.lt_of_lt_of_le hbxl hEa.size
        have hbbv := Nat.lt_of_lt_of_le HBV.out hEa.size
        have hN0v := Nat.lt_of_lt_of_le HNq.out E7.size
        have b17 := (hEa.cell (p := ⟨bx, 17, none⟩) hbxl).trans B17.out
        have b0 := (hEa.cell (p := ⟨bx, 0, none⟩) hbxl).trans B0c.out
        have x7 := (hEa.cell (p := ⟨X, 7, none⟩) hXlt).trans X7.out
        have x8 := (hEa.cell (p := ⟨X, 8, none⟩) hXlt).trans X8.out
        have hL := rangeAt_ext (port_range hrb.out k) hEa HBV.out
        have o68 : wfq.cell? ⟨bb, off + k * 89 + 68, none⟩ = some _ := hL 68 _ ((port_at (B := B) (k := k) (j := 68) (by decide)).trans (ho.gi hk 68 rfl))
        have o69 : wfq.cell? ⟨bb, off + k * 89 + 69, none⟩ = some _ := hL 69 _ ((port_at (B := B) (k := k) (j := 69) (by decide)).trans (ho.gi hk 69 rfl))
        have o70 : wfq.cell? ⟨bb, off + k * 89 + 70, none⟩ = some _ := hL 70 _ ((port_at (B := B) (k := k) (j := 70) (by decide)).trans (ho.gi hk 70 rfl))
        have o71 : wfq.cell? ⟨bb, off + k * 89 + 71, none⟩ = some _ := hL 71 _ ((port_at (B := B) (k := k) (j := 71) (by decide)).trans (ho.gi hk 71 rfl))
        have o72 : wfq.cell? ⟨bb, off + k * 89 + 72, none⟩ = some _ := hL 72 _ ((port_at (B := B) (k := k) (j := 72) (by decide)).trans (ho.gi hk 72 rfl))
        have ROV := Lib.hid (show wfq.rangeAt bb (off + k * 89 + 68) [Value.int .u64 (B.gi k 68), Value.int .u32 (B.gi k 69), Value.int .u64 (B.gi k 70), Value.int .u16 (B.gi k 71), Value.int .u16 (B.gi k 72)] from range_cons o68 (range_cons o69 (range_cons o70 (range_cons o71 (range_cons o72 range_nil)))))
        clear hL o68 o69 o70 o71 o72
        have HNv := Lib.hid ((E7.block _ HNq.out).trans HN_z5.out)
        have qq0 : wfq.cell? ⟨fq, 0, none⟩ = some (.int .u16 (B.gi k 0)) := by rw [cell_of_row _ _ _ _ _ _ HFq.out]; simpa using cq0
        have qq73 : wfq.cell? ⟨fq, 73, none⟩ = some (.int .u64 (Z.hi 7)) := by rw [cell_of_row _ _ _ _ _ _ HFq.out]; simpa using cq73
        have qq74 : wfq.cell? ⟨fq, 74, none⟩ = some (.int .u32 (Z.hi 8)) := by rw [cell_of_row _ _ _ _ _ _ HFq.out]; simpa using cq74
        have qq75 : wfq.cell? ⟨fq, 75, none⟩ = some (.int .u64 (B.hi 0)) := by rw [cell_of_row _ _ _ _ _ _ HFq.out]; simpa using cq75
        have qq76 : wfq.cell? ⟨fq, 76, none⟩ = some (.int .u16 (B.gi k 0)) := by rw [cell_of_row _ _ _ _ _ _ HFq.out]; simpa using cq76
        have qq77 : wfq.cell? ⟨fq, 77, none⟩ = some (.int .u16 0) := by rw [cell_of_row _ _ _ _ _ _ HFq.out]; simpa using cq77
        have qq82 : wfq.cell? ⟨fq, 82, none⟩ = some (.int .i64 (Z.hi 13)) := by rw [cell_of_row _ _ _ _ _ _ HFq.out]; simpa using cq82
        have qq83 : wfq.cell? ⟨fq, 83, none⟩ = some (.int .i64 (Z.hi 14)) := by rw [cell_of_row _ _ _ _ _ _ HFq.out]; simpa using cq83
        have qq84 : wfq.cell? ⟨fq, 84, none⟩ = some (.int .i64 (B.hi 4)) := by rw [cell_of_row _ _ _ _ _ _ HFq.out]; simpa using cq84
        have qq85 : wfq.cell? ⟨fq, 85, none⟩ = some (.int .i64 (Z.hi 16)) := by rw [cell_of_row _ _ _ _ _ _ HFq.out]; simpa using cq85
        have qq68 : wfq.cell? ⟨fq, 68, none⟩ = some (.int .u64 (B.gi k 68)) := by rw [cell_of_row _ _ _ _ _ _ HFq.out]; simpa using cq68
        have qq69 : wfq.cell? ⟨fq, 69, none⟩ = some (.int .u32 (B.gi k 69)) := by rw [cell_of_row _ _ _ _ _ _ HFq.out]; simpa using cq69
        have qq70 : wfq.cell? ⟨fq, 70, none⟩ = some (.int .u64 (B.gi k 70)) := by rw [cell_of_row _ _ _ _ _ _ HFq.out]; simpa using cq70
        have qq71 : wfq.cell? ⟨fq, 71, none⟩ = some (.int .u16 (B.gi k 71)) := by rw [cell_of_row _ _ _ _ _ _ HFq.out]; simpa using cq71
        have qq72 : wfq.cell? ⟨fq, 72, none⟩ = some (.int .u16 (B.gi k 72)) := by rw [cell_of_row _ _ _ _ _ _ HFq.out]; simpa using cq72
        have hltq : fq < wfq.heap.size := heap_lt HFq.out
        have RRq82 := Lib.hid (show wfq.rangeAt fq 82 [Value.int .i64 (Z.hi 13), Value.int .i64 (Z.hi 14), Value.int .i64 (B.hi 4), Value.int .i64 (Z.hi 16)] from (range_cons qq82 (range_cons qq83 (range_cons qq84 (range_cons qq85 range_nil)))))
        have RRq68 := Lib.hid (show wfq.rangeAt fq 68 [Value.int .u64 (B.gi k 68), Value.int .u32 (B.gi k 69), Value.int .u64 (B.gi k 70), Value.int .u16 (B.gi k 71), Value.int .u16 (B.gi k 72)] from (range_cons qq68 (range_cons qq69 (range_cons qq70 (range_cons qq71 (range_cons qq72 range_nil))))))
        refine beginL (S := fun W' => Ext wfq W') (by kernel_rfl) ?_
        intro wd hqx
        have hq0 : Ext wfq wd := hqx
        refine takeL (i := 0) (v := (.pointer (some ⟨fq, 82, none⟩))) rfl (by kernel_rfl) (by kernel_rfl) (by kernel_rfl) (fun _ _ _ h => h) (Or.inl ⟨rfl, fun _ _ => rfl⟩) hq0 ?_
        simp only [Act.put, List.setIfInBounds_toArray, List.set_cons_zero, List.set_cons_succ]
        refine takeL (i := 1) (v := _) rfl (by kernel_rfl) (by kernel_rfl) (by kernel_rfl) (fun _ _ _ h => h) (yieldsIf_load_mid rfl 24 _ rfl fq (82) rfl ([Value.int .i64 (Z.hi 13), Value.int .i64 (Z.hi 14), Value.int .i64 (B.hi 4), Value.int .i64 (Z.hi 16)]) _ (fun W' hW' => rangeAt_ext RRq82.out hW' hltq) Try.underlying24 rfl (by exact size_times)) hq0 ?_
        simp only [Act.put, List.setIfInBounds_toArray, List.set_cons_zero, List.set_cons_succ]
        refine takeL (i := 2) (v := _) rfl (by kernel_rfl) (by kernel_rfl) (by kernel_rfl) (fun _ _ _ h => h) (yieldsIf_rowS rfl 24 _ rfl N0 rfl #[.int .i64 (Z.hi 13), .int .i64 (Z.hi 14), .int .i64 (B.hi 4), .int .i64 (Z.hi 16)] _ _ (fun W' hW' => (hW'.block N0 hN0v).trans HNv.out) Try.underlying24 rfl (by exact size_times)) hq0 ?_
        simp only [Act.put, List.setIfInBounds_toArray, List.set_cons_zero, List.set_cons_succ]
        refine takeL (i := 3) (v := (.bool false)) rfl (by kernel_rfl) (by kernel_rfl) (by kernel_rfl) (fun _ _ _ h => h) (Or.inl ⟨rfl, fun W' _ => by go_simp⟩) hq0 ?_
        simp only [Act.put, List.setIfInBounds_toArray, List.set_cons_zero, List.set_cons_succ]
        refine takeL (i := 4) (v := (.bool false)) rfl (by kernel_rfl) (by kernel_rfl) (by kernel_rfl) (fun _ _ _ h => h) (Or.inl ⟨rfl, fun _ _ => rfl⟩) hq0 ?_
        simp only [Act.put, List.setIfInBounds_toArray, List.set_cons_zero, List.set_cons_succ]
        refine takeL (i := 5) (v := (.pointer (some ⟨fq, 73, none⟩))) rfl (by kernel_rfl) (by kernel_rfl) (by kernel_rfl) (fun _ _ _ h => h) (Or.inl ⟨rfl, fun _ _ => rfl⟩) hq0 ?_
        simp only [Act.put, List.setIfInBounds_toArray, List.set_cons_zero, List.set_cons_succ]
        refine takeL (i := 6) (v := (.pointer (some ⟨fq, 73, none⟩))) rfl (by kernel_rfl) (by kernel_rfl) (by kernel_rfl) (fun _ _ _ h => h) (Or.inl ⟨rfl, fun _ _ => rfl⟩) hq0 ?_
        simp only [Act.put, List.setIfInBounds_toArray, List.set_cons_zero, List.set_cons_succ]
        refine takeL (i := 7) (v := _) rfl (by kernel_rfl) (by kernel_rfl) (by kernel_rfl) (fun _ _ _ h => h) (yieldsIf_cell rfl 22 _ rfl ⟨fq, 73, none⟩ rfl (.int .u64 (Z.hi 7)) _ (fun W' hW' => (hW'.cell (p := ⟨fq, 73, none⟩) hltq).trans qq73) Try.underlying22 rfl) hq0 ?_
        simp only [Act.put, List.setIfInBounds_toArray, List.set_cons_zero, List.set_cons_succ]
        refine takeL (i := 8) (v := (.pointer (some ⟨X, 7, none⟩))) rfl (by kernel_rfl) (by kernel_rfl) (by kernel_rfl) (fun _ _ _ h => h) (Or.inl ⟨rfl, fun _ _ => rfl⟩) hq0 ?_
        simp only [Act.put, List.setIfInBounds_toArray, List.set_cons_zero, List.set_cons_succ]
        refine takeL (i := 9) (v := (.pointer (some ⟨X, 7, none⟩))) rfl (by kernel_rfl) (by kernel_rfl) (by kernel_rfl) (fun _ _ _ h => h) (Or.inl ⟨rfl, fun _ _ => rfl⟩) hq0 ?_
        simp only [Act.put, List.setIfInBounds_toArray, List.set_cons_zero, List.set_cons_succ]
        refine takeL (i := 10) (v := _) rfl (by kernel_rfl) (by kernel_rfl) (by kernel_rfl) (fun _ _ _ h => h) (yieldsIf_cell rfl 22 _ rfl ⟨X, 7, none⟩ rfl (.int .u64 (Z.hi 7)) _ (fun W' hW' => (hW'.cell (p := ⟨X, 7, none⟩) hXv).trans x7) Try.underlying22 rfl) hq0 ?_
        simp only [Act.put, List.setIfInBounds_toArray, List.set_cons_zero, List.set_cons_succ]
        refine takeL (i := 11) (v := (.bool false)) rfl (by kernel_rfl) (by kernel_rfl) (by kernel_rfl) (fun _ _ _ h => h) (Or.inl ⟨rfl, fun W' _ => by go_simp⟩) hq0 ?_
        simp only [Act.put, List.setIfInBounds_toArray, List.set_cons_zero, List.set_cons_succ]
        refine takeL (i := 12) (v := (.bool false)) rfl (by kernel_rfl) (by kernel_rfl) (by kernel_rfl) (fun _ _ _ h => h) (Or.inl ⟨rfl, fun _ _ => rfl⟩) hq0 ?_
        simp only [Act.put, List.setIfInBounds_toArray, List.set_cons_zero, List.set_cons_succ]
        refine takeL (i := 13) (v := (.bool false)) rfl (by kernel_rfl) (by kernel_rfl) (by kernel_rfl) (fun _ _ _ h => h) (Or.inl ⟨rfl, fun _ _ => rfl⟩) hq0 ?_
        simp only [Act.put, List.setIfInBounds_toArray, List.set_cons_zero, List.set_cons_succ]
        refine takeL (i := 14) (v := (.pointer (some ⟨fq, 73, none⟩))) rfl (by kernel_rfl) (by kernel_rfl) (by kernel_rfl) (fun _ _ _ h => h) (Or.inl ⟨rfl, fun _ _ => rfl⟩) hq0 ?_
        simp only [Act.put, List.setIfInBounds_toArray, List.set_cons_zero, List.set_cons_succ]
        refine takeL (i := 15) (v := (.pointer (some ⟨fq, 74, none⟩))) rfl (by kernel_rfl) (by kernel_rfl) (by kernel_rfl) (fun _ _ _ h => h) (Or.inl ⟨rfl, fun _ _ => rfl⟩) hq0 ?_
        simp only [Act.put, List.setIfInBounds_toArray, List.set_cons_zero, List.set_cons_succ]
        refine takeL (i := 16) (v := _) rfl (by kernel_rfl) (by kernel_rfl) (by kernel_rfl) (fun _ _ _ h => h) (yieldsIf_cell rfl 25 _ rfl ⟨fq, 74, none⟩ rfl (.int .u32 (Z.hi 8)) _ (fun W' hW' => (hW'.cell (p := ⟨fq, 74, none⟩) hltq).trans qq74) Try.underlying25 rfl) hq0 ?_
        simp only [Act.put, List.setIfInBounds_toArray, List.set_cons_zero, List.set_cons_succ]
        refine takeL (i := 17) (v := (.pointer (some ⟨X, 7, none⟩))) rfl (by kernel_rfl) (by kernel_rfl) (by kernel_rfl) (fun _ _ _ h => h) (Or.inl ⟨rfl, fun _ _ => rfl⟩) hq0 ?_
        simp only [Act.put, List.setIfInBounds_toArray, List.set_cons_zero, List.set_cons_succ]
        refine takeL (i := 18) (v := (.pointer (some ⟨X, 8, none⟩))) rfl (by kernel_rfl) (by kernel_rfl) (by kernel_rfl) (fun _ _ _ h => h) (Or.inl ⟨rfl, fun _ _ => rfl⟩) hq0 ?_
        simp only [Act.put, List.setIfInBounds_toArray, List.set_cons_zero, List.set_cons_succ]
        refine takeL (i := 19) (v := _) rfl (by kernel_rfl) (by kernel_rfl) (by kernel_rfl) (fun _ _ _ h => h) (yieldsIf_cell rfl 25 _ rfl ⟨X, 8, none⟩ rfl (.int .u32 (Z.hi 8)) _ (fun W' hW' => (hW'.cell (p := ⟨X, 8, none⟩) hXv).trans x8) Try.underlying25 rfl) hq0 ?_
        simp only [Act.put, List.setIfInBounds_toArray, List.set_cons_zero, List.set_cons_succ]
        refine takeL (i := 20) (v := (.bool false)) rfl (by kernel_rfl) (by kernel_rfl) (by kernel_rfl) (fun _ _ _ h => h) (Or.inl ⟨rfl, fun W' _ => by go_simp⟩) hq0 ?_
        simp only [Act.put, List.setIfInBounds_toArray, List.set_cons_zero, List.set_cons_succ]
        refine takeL (i := 21) (v := (.bool false)) rfl (by kernel_rfl) (by kernel_rfl) (by kernel_rfl) (fun _ _ _ h => h) (Or.inl ⟨rfl, fun _ _ => rfl⟩) hq0 ?_
        simp only [Act.put, List.setIfInBounds_toArray, List.set_cons_zero, List.set_cons_succ]
        refine takeL (i := 22) (v := (.bool false)) rfl (by kernel_rfl) (by kernel_rfl) (by kernel_rfl) (fun _ _ _ h => h) (Or.inl ⟨rfl, fun _ _ => rfl⟩) hq0 ?_
        simp only [Act.put, List.setIfInBounds_toArray, List.set_cons_zero, List.set_cons_succ]
        refine takeL (i := 23) (v := (.pointer (some ⟨fq, 73, none⟩))) rfl (by kernel_rfl) (by kernel_rfl) (by kernel_rfl) (fun _ _ _ h => h) (Or.inl ⟨rfl, fun _ _ => rfl⟩) hq0 ?_
        simp only [Act.put, List.setIfInBounds_toArray, List.set_cons_zero, List.set_cons_succ]
        refine takeL (i := 24) (v := (.pointer (some ⟨fq, 75, none⟩))) rfl (by kernel_rfl) (by kernel_rfl) (by kernel_rfl) (fun _ _ _ h => h) (Or.inl ⟨rfl, fun _ _ => rfl⟩) hq0 ?_
        simp only [Act.put, List.setIfInBounds_toArray, List.set_cons_zero, List.set_cons_succ]
        refine takeL (i := 25) (v := _) rfl (by kernel_rfl) (by kernel_rfl) (by kernel_rfl) (fun _ _ _ h => h) (yieldsIf_cell rfl 22 _ rfl ⟨fq, 75, none⟩ rfl (.int .u64 (B.hi 0)) _ (fun W' hW' => (hW'.cell (p := ⟨fq, 75, none⟩) hltq).trans qq75) Try.underlying22 rfl) hq0 ?_
        simp only [Act.put, List.setIfInBounds_toArray, List.set_cons_zero, List.set_cons_succ]
        refine takeL (i := 26) (v := (.pointer (some ⟨bx, 0, none⟩))) rfl (by kernel_rfl) (by kernel_rfl) (by kernel_rfl) (fun _ _ _ h => h) (Or.inl ⟨rfl, fun _ _ => rfl⟩) hq0 ?_
        simp only [Act.put, List.setIfInBounds_toArray, List.set_cons_zero, List.set_cons_succ]
        refine takeL (i := 27) (v := _) rfl (by kernel_rfl) (by kernel_rfl) (by kernel_rfl) (fun _ _ _ h => h) (yieldsIf_cell rfl 22 _ rfl ⟨bx, 0, none⟩ rfl (.int .u64 (B.hi 0)) _ (fun W' hW' => (hW'.cell (p := ⟨bx, 0, none⟩) hbxv).trans b0) Try.underlying22 rfl) hq0 ?_
        simp only [Act.put, List.setIfInBounds_toArray, List.set_cons_zero, List.set_cons_succ]
        refine takeL (i := 28) (v := (.bool false)) rfl (by kernel_rfl) (by kernel_rfl) (by kernel_rfl) (fun _ _ _ h => h) (Or.inl ⟨rfl, fun W' _ => by go_simp⟩) hq0 ?_
        simp only [Act.put, List.setIfInBounds_toArray, List.set_cons_zero, List.set_cons_succ]
        refine takeL (i := 29) (v := (.bool false)) rfl (by kernel_rfl) (by kernel_rfl) (by kernel_rfl) (fun _ _ _ h => h) (Or.inl ⟨rfl, fun _ _ => rfl⟩) hq0 ?_
        simp only [Act.put, List.setIfInBounds_toArray, List.set_cons_zero, List.set_cons_succ]
        refine takeL (i := 30) (v := (.bool false)) rfl (by kernel_rfl) (by kernel_rfl) (by kernel_rfl) (fun _ _ _ h => h) (Or.inl ⟨rfl, fun _ _ => rfl⟩) hq0 ?_
        simp only [Act.put, List.setIfInBounds_toArray, List.set_cons_zero, List.set_cons_succ]
        refine takeL (i := 31) (v := (.pointer (some ⟨fq, 73, none⟩))) rfl (by kernel_rfl) (by kernel_rfl) (by kernel_rfl) (fun _ _ _ h => h) (Or.inl ⟨rfl, fun _ _ => rfl⟩) hq0 ?_
        simp only [Act.put, List.setIfInBounds_toArray, List.set_cons_zero, List.set_cons_succ]
        refine takeL (i := 32) (v := (.pointer (some ⟨fq, 76, none⟩))) rfl (by kernel_rfl) (by kernel_rfl) (by kernel_rfl) (fun _ _ _ h => h) (Or.inl ⟨rfl, fun _ _ => rfl⟩) hq0 ?_
        simp only [Act.put, List.setIfInBounds_toArray, List.set_cons_zero, List.set_cons_succ]
        refine takeL (i := 33) (v := _) rfl (by kernel_rfl) (by kernel_rfl) (by kernel_rfl) (fun _ _ _ h => h) (yieldsIf_cell rfl 26 _ rfl ⟨fq, 76, none⟩ rfl (.int .u16 (B.gi k 0)) _ (fun W' hW' => (hW'.cell (p := ⟨fq, 76, none⟩) hltq).trans qq76) Try.underlying26 rfl) hq0 ?_
        simp only [Act.put, List.setIfInBounds_toArray, List.set_cons_zero, List.set_cons_succ]
        refine takeL (i := 34) (v := (.pointer (some ⟨fq, 0, none⟩))) rfl (by kernel_rfl) (by kernel_rfl) (by kernel_rfl) (fun _ _ _ h => h) (Or.inl ⟨rfl, fun _ _ => rfl⟩) hq0 ?_
        simp only [Act.put, List.setIfInBounds_toArray, List.set_cons_zero, List.set_cons_succ]
        refine takeL (i := 35) (v := _) rfl (by kernel_rfl) (by kernel_rfl) (by kernel_rfl) (fun _ _ _ h => h) (yieldsIf_cell rfl 26 _ rfl ⟨fq, 0, none⟩ rfl (.int .u16 (B.gi k 0)) _ (fun W' hW' => (hW'.cell (p := ⟨fq, 0, none⟩) hltq).trans qq0) Try.underlying26 rfl) hq0 ?_
        simp only [Act.put, List.setIfInBounds_toArray, List.set_cons_zero, List.set_cons_succ]
        refine takeL (i := 36) (v := (.bool false)) rfl (by kernel_rfl) (by kernel_rfl) (by kernel_rfl) (fun _ _ _ h => h) (Or.inl ⟨rfl, fun W' _ => by go_simp⟩) hq0 ?_
        simp only [Act.put, List.setIfInBounds_toArray, List.set_cons_zero, List.set_cons_succ]
        refine takeL (i := 37) (v := (.bool false)) rfl (by kernel_rfl) (by kernel_rfl) (by kernel_rfl) (fun _ _ _ h => h) (Or.inl ⟨rfl, fun _ _ => rfl⟩) hq0 ?_
        simp only [Act.put, List.setIfInBounds_toArray, List.set_cons_zero, List.set_cons_succ]
        refine takeL (i := 38) (v := (.bool false)) rfl (by kernel_rfl) (by kernel_rfl) (by kernel_rfl) (fun _ _ _ h => h) (Or.inl ⟨rfl, fun _ _ => rfl⟩) hq0 ?_
        simp only [Act.put, List.setIfInBounds_toArray, List.set_cons_zero, List.set_cons_succ]
        refine takeL (i := 39) (v := (.pointer (some ⟨fq, 68, none⟩))) rfl (by kernel_rfl) (by kernel_rfl) (by kernel_rfl) (fun _ _ _ h => h) (Or.inl ⟨rfl, fun _ _ => rfl⟩) hq0 ?_
        simp only [Act.put, List.setIfInBounds_toArray, List.set_cons_zero, List.set_cons_succ]
        refine takeL (i := 40) (v := _) rfl (by kernel_rfl) (by kernel_rfl) (by kernel_rfl) (fun _ _ _ h => h) (yieldsIf_load_mid rfl 28 _ rfl fq (68) rfl ([Value.int .u64 (B.gi k 68), Value.int .u32 (B.gi k 69), Value.int .u64 (B.gi k 70), Value.int .u16 (B.gi k 71), Value.int .u16 (B.gi k 72)]) _ (fun W' hW' => rangeAt_ext RRq68.out hW' hltq) Try.underlying28 rfl (by exact size_vec)) hq0 ?_
        simp only [Act.put, List.setIfInBounds_toArray, List.set_cons_zero, List.set_cons_succ]
        refine takeL (i := 41) (v := (.pointer (some ⟨bx, 17, none⟩))) rfl (by kernel_rfl) (by kernel_rfl) (by kernel_rfl) (fun _ _ _ h => h) (Or.inl ⟨rfl, fun _ _ => rfl⟩) hq0 ?_
        simp only [Act.put, List.setIfInBounds_toArray, List.set_cons_zero, List.set_cons_succ]
        refine takeL (i := 42) (v := _) rfl (by kernel_rfl) (by kernel_rfl) (by kernel_rfl) (fun _ _ _ h => h) (yieldsIf_cell rfl 29 _ rfl ⟨bx, 17, none⟩ rfl (.slice (some ⟨bb, off, none⟩) B.np k1) _ (fun W' hW' => (hW'.cell (p := ⟨bx, 17, none⟩) hbxv).trans b17) Try.underlying29 rfl) hq0 ?_
        simp only [Act.put, List.setIfInBounds_toArray, List.set_cons_zero, List.set_cons_succ]
        refine takeL (i := 43) (v := (.int .i64 (k : Int))) rfl (by kernel_rfl) (by kernel_rfl) (by kernel_rfl) (fun _ _ _ h => h) (Or.inl ⟨rfl, fun _ _ => rfl⟩) hq0 ?_
        simp only [Act.put, List.setIfInBounds_toArray, List.set_cons_zero, List.set_cons_succ]
        refine takeL (i := 44) (v := (.pointer (some ⟨bb, off + k * 89, none⟩))) rfl (by kernel_rfl) (by kernel_rfl) (by kernel_rfl) (fun _ _ _ h => h) (Or.inl ⟨rfl, fun W' _ => by go_simp⟩) hq0 ?_
        simp only [Act.put, List.setIfInBounds_toArray, List.set_cons_zero, List.set_cons_succ]
        refine takeL (i := 45) (v := (.pointer (some ⟨bb, off + k * 89 + 68, none⟩))) rfl (by kernel_rfl) (by kernel_rfl) (by kernel_rfl) (fun _ _ _ h => h) (Or.inl ⟨rfl, fun _ _ => rfl⟩) hq0 ?_
        simp only [Act.put, List.setIfInBounds_toArray, List.set_cons_zero, List.set_cons_succ]
        refine takeL (i := 46) (v := _) rfl (by kernel_rfl) (by kernel_rfl) (by kernel_rfl) (fun _ _ _ h => h) (yieldsIf_load_mid rfl 28 _ rfl bb (off + k * 89 + 68) rfl ([Value.int .u64 (B.gi k 68), Value.int .u32 (B.gi k 69), Value.int .u64 (B.gi k 70), Value.int .u16 (B.gi k 71), Value.int .u16 (B.gi k 72)]) _ (fun W' hW' => rangeAt_ext ROV.out hW' hbbv) Try.underlying28 rfl (by exact size_vec)) hq0 ?_
        simp only [Act.put, List.setIfInBounds_toArray, List.set_cons_zero, List.set_cons_succ]
        refine takeL (i := 47) (v := (.bool false)) rfl (by kernel_rfl) (by kernel_rfl) (by kernel_rfl) (fun _ _ _ h => h) (Or.inl ⟨rfl, fun W' _ => by go_simp⟩) hq0 ?_
        simp only [Act.put, List.setIfInBounds_toArray, List.set_cons_zero, List.set_cons_succ]
        refine takeL (i := 48) (v := (.bool false)) rfl (by kernel_rfl) (by kernel_rfl) (by kernel_rfl) (fun _ _ _ h => h) (Or.inl ⟨rfl, fun _ _ => rfl⟩) hq0 ?_
        simp only [Act.put, List.setIfInBounds_toArray, List.set_cons_zero, List.set_cons_succ]
        refine wpAnyH_done (by kernel_rfl) ?_ _
        have H8x := Lib.hid (H7x.out.ext hq0)
        have E8 := E7.trans hq0
        have HFq := Lib.hid ((hq0.block _ hltq).trans HFq.out)
        clear E7 RRq82 RRq68 hltq qq0 qq73 qq74 qq75 qq76 qq77 qq82 qq83 qq84 qq85 qq68 qq69 qq70 qq71 qq72
        go_wp2_with fail
        go_roundw
        case rel => exact ⟨k + 1, by omega, by go_num, E8⟩
        case measure => simp [intOf]; omega
      · obtain rfl : k = B.np := by omega
        obtain ⟨hXl, hgl, hne⟩ := HXr.out.lt
        obtain ⟨cap, c17, hca, hcb⟩ := HXr.out.cell17 HSO.out.ok
        rw [show (Z).np = B.np from HSO.out.np] at c17 hca
        have hfr := HXr.out.frozen
        go_wp2_with fail
        all_goals
          go_ret
          exact ⟨rfl, HE0.out.trans ((E6.trans HEz.out).trans EL)⟩
  · simp only [np_setp] at hk
    rw [e12] at x12
    have X12 := Lib.hid x12
    clear x12
    have hm8 : m < 1000 := by omega
    rw [HGI.out m 78 (by decide) (by decide)] at e13
    rw [HGI.out m 79 (by decide) (by decide)] at e14
    rw [HGI.out m 80 (by decide) (by decide)] at e15
    rw [HGI.out m 81 (by decide) (by decide)] at e16
    have ga := HR78.out m hk
    have hLm := port_range hrb.out m
    have o78 : v6.cell? ⟨bb, off + m * 89 + 78, none⟩ = some _ := hLm 78 _ ((port_at (B := B) (k := m) (j := 78) (by decide)).trans (ho.gi hk 78 rfl))
    have o79 : v6.cell? ⟨bb, off + m * 89 + 79, none⟩ = some _ := hLm 79 _ ((port_at (B := B) (k := m) (j := 79) (by decide)).trans (ho.gi hk 79 rfl))
    have o80 : v6.cell? ⟨bb, off + m * 89 + 80, none⟩ = some _ := hLm 80 _ ((port_at (B := B) (k := m) (j := 80) (by decide)).trans (ho.gi hk 80 rfl))
    have o81 : v6.cell? ⟨bb, off + m * 89 + 81, none⟩ = some _ := hLm 81 _ ((port_at (B := B) (k := m) (j := 81) (by decide)).trans (ho.gi hk 81 rfl))
    have RBM := Lib.hid (show v6.rangeAt bb (off + m * 89 + 78) [.int .i64 (B.gi m 78), .int .i64 (B.gi m 79), .int .i64 (B.gi m 80), .int .i64 (B.gi m 81)] from rcons o78 (rcons o79 (rcons o80 (rcons o81 rnil))))
    clear hLm o78 o79 o80 o81
    go_upto_region 14 with (first
      | fail
      | ((with_reducible refine at_alloc 24 ?_); refine al_zero rfl 24 rfl TZ zero_times ?_
         intro N0 z1 hq hs hx
         have HN_z1 := Lib.hid hq
         have hE_z1 : Ext v6 z1 := hx
         have hN0 : v6.heap.size ≤ N0 := by omega
         clear hq hs hx)
      | ((with_reducible refine at_load 24 ?_); refine wpList_load_mid rfl 24 _ rfl bx 2 rfl [.int .i64 (B.hi 2), .int .i64 (B.hi 3), .int .i64 (B.hi 4), .int .i64 (B.hi 5)] _ RBT.out Try.underlying24 rfl (by kernel_rfl) ?_)
      | ((with_reducible refine at_store 24 ?_); refine st_at rfl rfl 24 _ _ rfl N0 0 _ #[.int .i64 (B.hi 2), .int .i64 (B.hi 3), .int .i64 (B.hi 4), .int .i64 (B.hi 5)] _ #[.int .i64 (B.hi 2), .int .i64 (B.hi 3), .int .i64 (B.hi 4), .int .i64 (B.hi 5)] _ rfl rfl rfl HN_z1.out (by exact (by decide : 0 + 4 ≤ 4)) (by kernel_rfl) rfl rfl ?_
         intro z2 hq hm
         have HN_z2 := Lib.hid hq
         have hE_z2 : Ext v6 z2 := Ext.mutE hE_z1 hm (fun n hn h => by have h2 : n = N0 := h; omega)
         have x12 := (hE_z2.cell (p := ⟨X, 12, none⟩) hXlt).trans X12.out
         have b17 := (hE_z2.cell (p := ⟨bx, 17, none⟩) hbxl).trans B17.out
         have b4 := (hE_z2.cell (p := ⟨bx, 4, none⟩) hbxl).trans B4.out
         have RXz := Lib.hid (rangeAt_ext RXT.out hE_z2 hXlt)
         clear hq hm)
      | ((with_reducible refine at_load 24 ?_); refine wpList_load_mid rfl 24 _ rfl bb (off + m * 89 + 78) rfl [.int .i64 (B.gi m 78), .int .i64 (B.gi m 79), .int .i64 (B.gi m 80), .int .i64 (B.gi m 81)] _ (rangeAt_ext RBM.out hE_z2 HBV.out) Try.underlying24 rfl (by kernel_rfl) ?_)
      | ((with_reducible refine at_store 24 ?_); refine st_at rfl rfl 24 _ _ rfl N0 0 _ #[.int .i64 (B.gi m 78), .int .i64 (B.gi m 79), .int .i64 (B.gi m 80), .int .i64 (B.gi m 81)] _ #[.int .i64 (B.gi m 78), .int .i64 (B.gi m 79), .int .i64 (B.gi m 80), .int .i64 (B.gi m 81)] _ rfl rfl rfl HN_z2.out (by exact (by decide : 0 + 4 ≤ 4)) (by kernel_rfl) rfl rfl ?_
         intro z3 hq hm
         have HN_z3 := Lib.hid hq
         have hE_z3 : Ext v6 z3 := Ext.mutE hE_z2 hm (fun n hn h => by have h2 : n = N0 := h; omega)
         have x12 := (hE_z3.cell (p := ⟨X, 12, none⟩) hXlt).trans X12.out
         have b17 := (hE_z3.cell (p := ⟨bx, 17, none⟩) hbxl).trans B17.out
         have b4 := (hE_z3.cell (p := ⟨bx, 4, none⟩) hbxl).trans B4.out
         have RXz := Lib.hid (rangeAt_ext RXT.out hE_z3 hXlt)
         have n0 : z3.cell? ⟨N0, 0, none⟩ = some (.int .i64 (B.gi m 78)) := by rw [cell_of_row _ _ _ _ _ _ HN_z3.out]; rfl
         clear hq hm)
      | ((with_reducible refine at_store 3 ?_); refine st_at rfl rfl 3 _ _ rfl N0 0 _ #[.int .i64 (B.gi m 78 + 1)] _ #[.int .i64 (B.gi m 78 + 1), .int .i64 (B.gi m 79), .int .i64 (B.gi m 80), .int .i64 (B.gi m 81)] _ rfl rfl rfl HN_z3.out (by exact (by decide : 0 + 1 ≤ 4)) (by kernel_rfl) rfl rfl ?_
         intro z4 hq hm
         have HN_z4 := Lib.hid hq
         have hE_z4 : Ext v6 z4 := Ext.mutE hE_z3 hm (fun n hn h => by have h2 : n = N0 := h; omega)
         have x12 := (hE_z4.cell (p := ⟨X, 12, none⟩) hXlt).trans X12.out
         have b17 := (hE_z4.cell (p := ⟨bx, 17, none⟩) hbxl).trans B17.out
         have b4 := (hE_z4.cell (p := ⟨bx, 4, none⟩) hbxl).trans B4.out
         have RXz := Lib.hid (rangeAt_ext RXT.out hE_z4 hXlt)
         clear n0
         clear hq hm))
    rw [← e13, ← e14, ← e15, ← e16] at HN_z4
    go_upto_region 18 with (first
      | fail
      | ((with_reducible refine at_load 24 ?_); refine wpList_load_mid rfl 24 _ rfl X 13 rfl [.int .i64 (Z.hi 13), .int .i64 (Z.hi 14), .int .i64 (Z.hi 15), .int .i64 (Z.hi 16)] _ RXz.out Try.underlying24 rfl (by kernel_rfl) ?_)
      | ((with_reducible refine at_load 24 ?_); refine wpList_load_row rfl 24 _ rfl N0 rfl 24 #[.int .i64 (Z.hi 13), .int .i64 (Z.hi 14), .int .i64 (Z.hi 15), .int .i64 (Z.hi 16)] (0, 0) _ HN_z4.out Try.underlying24 rfl (by kernel_rfl) ?_)
      | ((with_reducible refine at_store 3 ?_); refine st_at rfl rfl 3 _ _ rfl N0 2 _ #[.int .i64 (B.hi 4)] _ #[.int .i64 (Z.hi 13), .int .i64 (Z.hi 14), .int .i64 (B.hi 4), .int .i64 (Z.hi 16)] _ rfl rfl rfl HN_z4.out (by exact (by decide : 2 + 1 ≤ 4)) (by kernel_rfl) rfl rfl ?_
         intro z5 hq hm
         have HN_z5 := Lib.hid hq
         have hE_z5 : Ext v6 z5 := Ext.mutE hE_z4 hm (fun n hn h => by have h2 : n = N0 := h; omega)
         clear RXz b4 b17 x12
         clear hq hm))
    have HX := Lib.hid (H6x.out.ext hE_z5)
    have HNq := Lib.hid (show N0 < z5.heap.size from heap_lt HN_z5.out)
    have HEz := Lib.hid hE_z5
    clear hE_z5
    go_loopw [8] (fun i wr => ∃ n : Nat, n ≤ B.np ∧ i = .int .i64 n ∧ Ext z5 wr) (fun i _ => B.np - (intOf i).toNat)
    case atStart => exact ⟨0, by omega, rfl, Ext.refl _⟩
    case round =>
      obtain ⟨k, hn, rfl, EL⟩ := hrel
      have HXr := Lib.hid (HX.out.ext EL)
      by_cases hk : k < B.np
      · obtain ⟨hXl, hgl, hne⟩ := HXr.out.lt
        obtain ⟨cap, c17, hca, hcb⟩ := HXr.out.cell17 HSO.out.ok
        rw [show (Z).np = B.np from HSO.out.np] at c17 hca
        have hfr := HXr.out.frozen
        obtain ⟨d73, d74, d75, d76, d77, d82, d83, d84, d85⟩ := so_des HSO.out okz5 (n := k) hk
        rw [HGI.out k 0 (by decide) (by decide)] at d76
        have d75 : Z.gi k 75 = B.hi 0 := d75
        have d84 : Z.gi k 84 = B.hi 4 := d84
        have d0 : Z.gi k 0 = B.gi k 0 := (so_keep HSO.out okz5 (n := k) (j := 0) hk (by decide) (by decide) (by decide) (by decide)).trans (HGI.out k 0 (by decide) (by decide))
        have d68 : Z.gi k 68 = B.gi k 68 := (so_keep HSO.out okz5 (n := k) (j := 68) hk (by decide) (by decide) (by decide) (by decide)).trans (HGI.out k 68 (by decide) (by decide))
        have d69 : Z.gi k 69 = B.gi k 69 := (so_keep HSO.out okz5 (n := k) (j := 69) hk (by decide) (by decide) (by decide) (by decide)).trans (HGI.out k 69 (by decide) (by decide))
        have d70 : Z.gi k 70 = B.gi k 70 := (so_keep HSO.out okz5 (n := k) (j := 70) hk (by decide) (by decide) (by decide) (by decide)).trans (HGI.out k 70 (by decide) (by decide))
        have d71 : Z.gi k 71 = B.gi k 71 := (so_keep HSO.out okz5 (n := k) (j := 71) hk (by decide) (by decide) (by decide) (by decide)).trans (HGI.out k 71 (by decide) (by decide))
        have d72 : Z.gi k 72 = B.gi k 72 := (so_keep HSO.out okz5 (n := k) (j := 72) hk (by decide) (by decide) (by decide) (by decide)).trans (HGI.out k 72 (by decide) (by decide))
        have hkc : k < Br.np Z := (show k < Br.np Z by rw [HSO.out.np]; exact hk)
        have hrq0 := HXr.out.range (k := k) hkc
        have cq0 : (port (Br.ps Z) k)[0]? = some (.int .u16 (B.gi k 0)) := (port_at (B := Z) (k := k) (j := 0) (by decide)).trans ((Br.ok.gi HSO.out.ok (k := k) hkc 0 rfl).trans (by rw [d0]))
        have cq73 : (port (Br.ps Z) k)[73]? = some (.int .u64 (Z.hi 7)) := (port_at (B := Z) (k := k) (j := 73) (by decide)).trans ((Br.ok.gi HSO.out.ok (k := k) hkc 73 rfl).trans (by rw [d73]))
        have cq74 : (port (Br.ps Z) k)[74]? = some (.int .u32 (Z.hi 8)) := (port_at (B := Z) (k := k) (j := 74) (by decide)).trans ((Br.ok.gi HSO.out.ok (k := k) hkc 74 rfl).trans (by rw [d74]))
        have cq75 : (port (Br.ps Z) k)[75]? = some (.int .u64 (B.hi 0)) := (port_at (B := Z) (k := k) (j := 75) (by decide)).trans ((Br.ok.gi HSO.out.ok (k := k) hkc 75 rfl).trans (by rw [d75]))
        have cq76 : (port (Br.ps Z) k)[76]? = some (.int .u16 (B.gi k 0)) := (port_at (B := Z) (k := k) (j := 76) (by decide)).trans ((Br.ok.gi HSO.out.ok (k := k) hkc 76 rfl).trans (by rw [d76]))
        have cq77 : (port (Br.ps Z) k)[77]? = some (.int .u16 0) := (port_at (B := Z) (k := k) (j := 77) (by decide)).trans ((Br.ok.gi HSO.out.ok (k := k) hkc 77 rfl).trans (by rw [d77]))
        have cq82 : (port (Br.ps Z) k)[82]? = some (.int .i64 (Z.hi 13)) := (port_at (B := Z) (k := k) (j := 82) (by decide)).trans ((Br.ok.gi HSO.out.ok (k := k) hkc 82 rfl).trans (by rw [d82]))
        have cq83 : (port (Br.ps Z) k)[83]? = some (.int .i64 (Z.hi 14)) := (port_at (B := Z) (k := k) (j := 83) (by decide)).trans ((Br.ok.gi HSO.out.ok (k := k) hkc 83 rfl).trans (by rw [d83]))
        have cq84 : (port (Br.ps Z) k)[84]? = some (.int .i64 (B.hi 4)) := (port_at (B := Z) (k := k) (j := 84) (by decide)).trans ((Br.ok.gi HSO.out.ok (k := k) hkc 84 rfl).trans (by rw [d84]))
        have cq85 : (port (Br.ps Z) k)[85]? = some (.int .i64 (Z.hi 16)) := (port_at (B := Z) (k := k) (j := 85) (by decide)).trans ((Br.ok.gi HSO.out.ok (k := k) hkc 85 rfl).trans (by rw [d85]))
        have cq68 : (port (Br.ps Z) k)[68]? = some (.int .u64 (B.gi k 68)) := (port_at (B := Z) (k := k) (j := 68) (by decide)).trans ((Br.ok.gi HSO.out.ok (k := k) hkc 68 rfl).trans (by rw [d68]))
        have cq69 : (port (Br.ps Z) k)[69]? = some (.int .u32 (B.gi k 69)) := (port_at (B := Z) (k := k) (j := 69) (by decide)).trans ((Br.ok.gi HSO.out.ok (k := k) hkc 69 rfl).trans (by rw [d69]))
        have cq70 : (port (Br.ps Z) k)[70]? = some (.int .u64 (B.gi k 70)) := (port_at (B := Z) (k := k) (j := 70) (by decide)).trans ((Br.ok.gi HSO.out.ok (k := k) hkc 70 rfl).trans (by rw [d70]))
        have cq71 : (port (Br.ps Z) k)[71]? = some (.int .u16 (B.gi k 71)) := (port_at (B := Z) (k := k) (j := 71) (by decide)).trans ((Br.ok.gi HSO.out.ok (k := k) hkc 71 rfl).trans (by rw [d71]))
        have cq72 : (port (Br.ps Z) k)[72]? = some (.int .u16 (B.gi k 72)) := (port_at (B := Z) (k := k) (j := 72) (by decide)).trans ((Br.ok.gi HSO.out.ok (k := k) hkc 72 rfl).trans (by rw [d72]))
        have hnq0 : (port (Br.ps Z) k).length = 89 := (port_typed HSO.out.ok (i := k) hkc).1
        have hoq := Lib.hid (all_oneCell_toArray (port_typed HSO.out.ok (i := k) hkc).one)
        obtain ⟨pq, hpq⟩ : ∃ p, port (Br.ps Z) k = p := ⟨_, rfl⟩
        rw [hpq] at hrq0 hnq0 hoq cq0 cq73 cq74 cq75 cq76 cq77 cq82 cq83 cq84 cq85 cq68 cq69 cq70 cq71 cq72
        clear hpq
        have hrq := Lib.hid hrq0
        clear hrq0
        have hiq := Lib.hid (show (Try.prog.info? 51).map (·.size) = some pq.length by rw [hnq0]; exact size_port)
        have hjq := Lib.hid (show (Try.prog.info? 51).map (·.size) = some pq.toArray.size by rw [List.size_toArray, hnq0]; exact size_port)
        have hsqz := Lib.hid (show PZ.size = pq.toArray.size by rw [List.size_toArray]; exact hnq0.symm)
        have hzq := zero_port
        clear hnq0
        clear hkc
        clear d0 d73 d74 d75 d76 d77 d82 d83 d84 d85 d68 d69 d70 d71 d72
        go_wp2_with (first
          | fail
          | ((with_reducible refine at_load 51 ?_); refine wpList_load_mid rfl 51 _ rfl gx (k * 89) rfl pq _ hrq.out Try.underlying51 rfl hiq.out ?_)
          | ((with_reducible refine at_store 51 ?_); refine wpList_store_new3 rfl rfl 51 _ _ _ rfl PZ pq.toArray _ rfl ?_ rfl hjq.out hsqz.out (by rw [Array.all_toList]; exact hoq.out) ?_; · rfl
             intro wfq hwf
             have hY := HXr.out.alloc (.cells pq.toArray 51)
             rw [← hwf] at hY
             have hE0 : Ext wr wfq := by rw [hwf]; exact (Ext.refl _).alloc _
             have E9 := EL.trans hE0
             have hbx := heap_alloc_new wr (.cells pq.toArray 51)
             rw [← hwf] at hbx
             have hxb := Lib.hid HXr.out.lt.1
             obtain ⟨fq, hfb⟩ : ∃ n, wr.heap.size = n := ⟨_, rfl⟩
             rw [hfb] at hbx hxb ⊢
             have HFq := Lib.hid hbx
             have HGq := hxb
             have H9x := Lib.hid hY
             clear hwf hY hbx hxb hfb hE0 EL hzq))
        have hEa := HEz.out.trans E9
        have hXv := Nat.lt_of_lt_of_le hXlt hEa.size
        have hbxv := Nat.lt_of_lt_of_le hbxl hEa.size
        have hbbv := Nat.lt_of_lt_of_le HBV.out hEa.size
        have hN0v := Nat.lt_of_lt_of_le HNq.out E9.size
        have b17 := (hEa.cell (p := ⟨bx, 17, none⟩) hbxl).trans B17.out
        have b0 := (hEa.cell (p := ⟨bx, 0, none⟩) hbxl).trans B0c.out
        have x7 := (hEa.cell (p := ⟨X, 7, none⟩) hXlt).trans X7.out
        have x8 := (hEa.cell (p := ⟨X, 8, none⟩) hXlt).trans X8.out
        have hL := rangeAt_ext (port_range hrb.out k) hEa HBV.out
        have o68 : wfq.cell? ⟨bb, off + k * 89 + 68, none⟩ = some _ := hL 68 _ ((port_at (B := B) (k := k) (j := 68) (by decide)).trans (ho.gi hk 68 rfl))
        have o69 : wfq.cell? ⟨bb, off + k * 89 + 69, none⟩ = some _ := hL 69 _ ((port_at (B := B) (k := k) (j := 69) (by decide)).trans (ho.gi hk 69 rfl))
        have o70 : wfq.cell? ⟨bb, off + k * 89 + 70, none⟩ = some _ := hL 70 _ ((port_at (B := B) (k := k) (j := 70) (by decide)).trans (ho.gi hk 70 rfl))
        have o71 : wfq.cell? ⟨bb, off + k * 89 + 71, none⟩ = some _ := hL 71 _ ((port_at (B := B) (k := k) (j := 71) (by decide)).trans (ho.gi hk 71 rfl))
        have o72 : wfq.cell? ⟨bb, off + k * 89 + 72, none⟩ = some _ := hL 72 _ ((port_at (B := B) (k := k) (j := 72) (by decide)).trans (ho.gi hk 72 rfl))
        have ROV := Lib.hid (show wfq.rangeAt bb (off + k * 89 + 68) [Value.int .u64 (B.gi k 68), Value.int .u32 (B.gi k 69), Value.int .u64 (B.gi k 70), Value.int .u16 (B.gi k 71), Value.int .u16 (B.gi k 72)] from range_cons o68 (range_cons o69 (range_cons o70 (range_cons o71 (range_cons o72 range_nil)))))
        clear hL o68 o69 o70 o71 o72
        have HNv := Lib.hid ((E9.block _ HNq.out).trans HN_z5.out)
        have qq0 : wfq.cell? ⟨fq, 0, none⟩ = some (.int .u16 (B.gi k 0)) := by rw [cell_of_row _ _ _ _ _ _ HFq.out]; simpa using cq0
        have qq73 : wfq.cell? ⟨fq, 73, none⟩ = some (.int .u64 (Z.hi 7)) := by rw [cell_of_row _ _ _ _ _ _ HFq.out]; simpa using cq73
        have qq74 : wfq.cell? ⟨fq, 74, none⟩ = some (.int .u32 (Z.hi 8)) := by rw [cell_of_row _ _ _ _ _ _ HFq.out]; simpa using cq74
        have qq75 : wfq.cell? ⟨fq, 75, none⟩ = some (.int .u64 (B.hi 0)) := by rw [cell_of_row _ _ _ _ _ _ HFq.out]; simpa using cq75
        have qq76 : wfq.cell? ⟨fq, 76, none⟩ = some (.int .u16 (B.gi k 0)) := by rw [cell_of_row _ _ _ _ _ _ HFq.out]; simpa using cq76
        have qq77 : wfq.cell? ⟨fq, 77, none⟩ = some (.int .u16 0) := by rw [cell_of_row _ _ _ _ _ _ HFq.out]; simpa using cq77
        have qq82 : wfq.cell? ⟨fq, 82, none⟩ = some (.int .i64 (Z.hi 13)) := by rw [cell_of_row _ _ _ _ _ _ HFq.out]; simpa using cq82
        have qq83 : wfq.cell? ⟨fq, 83, none⟩ = some (.int .i64 (Z.hi 14)) := by rw [cell_of_row _ _ _ _ _ _ HFq.out]; simpa using cq83
        have qq84 : wfq.cell? ⟨fq, 84, none⟩ = some (.int .i64 (B.hi 4)) := by rw [cell_of_row _ _ _ _ _ _ HFq.out]; simpa using cq84
        have qq85 : wfq.cell? ⟨fq, 85, none⟩ = some (.int .i64 (Z.hi 16)) := by rw [cell_of_row _ _ _ _ _ _ HFq.out]; simpa using cq85
        have qq68 : wfq.cell? ⟨fq, 68, none⟩ = some (.int .u64 (B.gi k 68)) := by rw [cell_of_row _ _ _ _ _ _ HFq.out]; simpa using cq68
        have qq69 : wfq.cell? ⟨fq, 69, none⟩ = some (.int .u32 (B.gi k 69)) := by rw [cell_of_row _ _ _ _ _ _ HFq.out]; simpa using cq69
        have qq70 : wfq.cell? ⟨fq, 70, none⟩ = some (.int .u64 (B.gi k 70)) := by rw [cell_of_row _ _ _ _ _ _ HFq.out]; simpa using cq70
        have qq71 : wfq.cell? ⟨fq, 71, none⟩ = some (.int .u16 (B.gi k 71)) := by rw [cell_of_row _ _ _ _ _ _ HFq.out]; simpa using cq71
        have qq72 : wfq.cell? ⟨fq, 72, none⟩ = some (.int .u16 (B.gi k 72)) := by rw [cell_of_row _ _ _ _ _ _ HFq.out]; simpa using cq72
        have hltq : fq < wfq.heap.size := heap_lt HFq.out
        have RRq82 := Lib.hid (show wfq.rangeAt fq 82 [Value.int .i64 (Z.hi 13), Value.int .i64 (Z.hi 14), Value.int .i64 (B.hi 4), Value.int .i64 (Z.hi 16)] from (range_cons qq82 (range_cons qq83 (range_cons qq84 (range_cons qq85 range_nil)))))
        have RRq68 := Lib.hid (show wfq.rangeAt fq 68 [Value.int .u64 (B.gi k 68), Value.int .u32 (B.gi k 69), Value.int .u64 (B.gi k 70), Value.int .u16 (B.gi k 71), Value.int .u16 (B.gi k 72)] from (range_cons qq68 (range_cons qq69 (range_cons qq70 (range_cons qq71 (range_cons qq72 range_nil))))))
        refine beginL (S := fun W' => Ext wfq W') (by kernel_rfl) ?_
        intro wd hqx
        have hq0 : Ext wfq wd := hqx
        refine takeL (i := 0) (v := (.pointer (some ⟨fq, 82, none⟩))) rfl (by kernel_rfl) (by kernel_rfl) (by kernel_rfl) (fun _ _ _ h => h) (Or.inl ⟨rfl, fun _ _ => rfl⟩) hq0 ?_
        simp only [Act.put, List.setIfInBounds_toArray, List.set_cons_zero, List.set_cons_succ]
        refine takeL (i := 1) (v := _) rfl (by kernel_rfl) (by kernel_rfl) (by kernel_rfl) (fun _ _ _ h => h) (yieldsIf_load_mid rfl 24 _ rfl fq (82) rfl ([Value.int .i64 (Z.hi 13), Value.int .i64 (Z.hi 14), Value.int .i64 (B.hi 4), Value.int .i64 (Z.hi 16)]) _ (fun W' hW' => rangeAt_ext RRq82.out hW' hltq) Try.underlying24 rfl (by exact size_times)) hq0 ?_
        simp only [Act.put, List.setIfInBounds_toArray, List.set_cons_zero, List.set_cons_succ]
        refine takeL (i := 2) (v := _) rfl (by kernel_rfl) (by kernel_rfl) (by kernel_rfl) (fun _ _ _ h => h) (yieldsIf_rowS rfl 24 _ rfl N0 rfl #[.int .i64 (Z.hi 13), .int .i64 (Z.hi 14), .int .i64 (B.hi 4), .int .i64 (Z.hi 16)] _ _ (fun W' hW' => (hW'.block N0 hN0v).trans HNv.out) Try.underlying24 rfl (by exact size_times)) hq0 ?_
        simp only [Act.put, List.setIfInBounds_toArray, List.set_cons_zero, List.set_cons_succ]
        refine takeL (i := 3) (v := (.bool false)) rfl (by kernel_rfl) (by kernel_rfl) (by kernel_rfl) (fun _ _ _ h => h) (Or.inl ⟨rfl, fun W' _ => by go_simp⟩) hq0 ?_
        simp only [Act.put, List.setIfInBounds_toArray, List.set_cons_zero, List.set_cons_succ]
        refine takeL (i := 4) (v := (.bool false)) rfl (by kernel_rfl) (by kernel_rfl) (by kernel_rfl) (fun _ _ _ h => h) (Or.inl ⟨rfl, fun _ _ => rfl⟩) hq0 ?_
        simp only [Act.put, List.setIfInBounds_toArray, List.set_cons_zero, List.set_cons_succ]
        refine takeL (i := 5) (v := (.pointer (some ⟨fq, 73, none⟩))) rfl (by kernel_rfl) (by kernel_rfl) (by kernel_rfl) (fun _ _ _ h => h) (Or.inl ⟨rfl, fun _ _ => rfl⟩) hq0 ?_
        simp only [Act.put, List.setIfInBounds_toArray, List.set_cons_zero, List.set_cons_succ]
        refine takeL (i := 6) (v := (.pointer (some ⟨fq, 73, none⟩))) rfl (by kernel_rfl) (by kernel_rfl) (by kernel_rfl) (fun _ _ _ h => h) (Or.inl ⟨rfl, fun _ _ => rfl⟩) hq0 ?_
        simp only [Act.put, List.setIfInBounds_toArray, List.set_cons_zero, List.set_cons_succ]
        refine takeL (i := 7) (v := _) rfl (by kernel_rfl) (by kernel_rfl) (by kernel_rfl) (fun _ _ _ h => h) (yieldsIf_cell rfl 22 _ rfl ⟨fq, 73, none⟩ rfl (.int .u64 (Z.hi 7)) _ (fun W' hW' => (hW'.cell (p := ⟨fq, 73, none⟩) hltq).trans qq73) Try.underlying22 rfl) hq0 ?_
        simp only [Act.put, List.setIfInBounds_toArray, List.set_cons_zero, List.set_cons_succ]
        refine takeL (i := 8) (v := (.pointer (some ⟨X, 7, none⟩))) rfl (by kernel_rfl) (by kernel_rfl) (by kernel_rfl) (fun _ _ _ h => h) (Or.inl ⟨rfl, fun _ _ => rfl⟩) hq0 ?_
        simp only [Act.put, List.setIfInBounds_toArray, List.set_cons_zero, List.set_cons_succ]
        refine takeL (i := 9) (v := (.pointer (some ⟨X, 7, none⟩))) rfl (by kernel_rfl) (by kernel_rfl) (by kernel_rfl) (fun _ _ _ h => h) (Or.inl ⟨rfl, fun _ _ => rfl⟩) hq0 ?_
        simp only [Act.put, List.setIfInBounds_toArray, List.set_cons_zero, List.set_cons_succ]
        refine takeL (i := 10) (v := _) rfl (by kernel_rfl) (by kernel_rfl) (by kernel_rfl) (fun _ _ _ h => h) (yieldsIf_cell rfl 22 _ rfl ⟨X, 7, none⟩ rfl (.int .u64 (Z.hi 7)) _ (fun W' hW' => (hW'.cell (p := ⟨X, 7, none⟩) hXv).trans x7) Try.underlying22 rfl) hq0 ?_
        simp only [Act.put, List.setIfInBounds_toArray, List.set_cons_zero, List.set_cons_succ]
        refine takeL (i := 11) (v := (.bool false)) rfl (by kernel_rfl) (by kernel_rfl) (by kernel_rfl) (fun _ _ _ h => h) (Or.inl ⟨rfl, fun W' _ => by go_simp⟩) hq0 ?_
        simp only [Act.put, List.setIfInBounds_toArray, List.set_cons_zero, List.set_cons_succ]
        refine takeL (i := 12) (v := (.bool false)) rfl (by kernel_rfl) (by kernel_rfl) (by kernel_rfl) (fun _ _ _ h => h) (Or.inl ⟨rfl, fun _ _ => rfl⟩) hq0 ?_
        simp only [Act.put, List.setIfInBounds_toArray, List.set_cons_zero, List.set_cons_succ]
        refine takeL (i := 13) (v := (.bool false)) rfl (by kernel_rfl) (by kernel_rfl) (by kernel_rfl) (fun _ _ _ h => h) (Or.inl ⟨rfl, fun _ _ => rfl⟩) hq0 ?_
        simp only [Act.put, List.setIfInBounds_toArray, List.set_cons_zero, List.set_cons_succ]
        refine takeL (i := 14) (v := (.pointer (some ⟨fq, 73, none⟩))) rfl (by kernel_rfl) (by kernel_rfl) (by kernel_rfl) (fun _ _ _ h => h) (Or.inl ⟨rfl, fun _ _ => rfl⟩) hq0 ?_
        simp only [Act.put, List.setIfInBounds_toArray, List.set_cons_zero, List.set_cons_succ]
        refine takeL (i := 15) (v := (.pointer (some ⟨fq, 74, none⟩))) rfl (by kernel_rfl) (by kernel_rfl) (by kernel_rfl) (fun _ _ _ h => h) (Or.inl ⟨rfl, fun _ _ => rfl⟩) hq0 ?_
        simp only [Act.put, List.setIfInBounds_toArray, List.set_cons_zero, List.set_cons_succ]
        refine takeL (i := 16) (v := _) rfl (by kernel_rfl) (by kernel_rfl) (by kernel_rfl) (fun _ _ _ h => h) (yieldsIf_cell rfl 25 _ rfl ⟨fq, 74, none⟩ rfl (.int .u32 (Z.hi 8)) _ (fun W' hW' => (hW'.cell (p := ⟨fq, 74, none⟩) hltq).trans qq74) Try.underlying25 rfl) hq0 ?_
        simp only [Act.put, List.setIfInBounds_toArray, List.set_cons_zero, List.set_cons_succ]
        refine takeL (i := 17) (v := (.pointer (some ⟨X, 7, none⟩))) rfl (by kernel_rfl) (by kernel_rfl) (by kernel_rfl) (fun _ _ _ h => h) (Or.inl ⟨rfl, fun _ _ => rfl⟩) hq0 ?_
        simp only [Act.put, List.setIfInBounds_toArray, List.set_cons_zero, List.set_cons_succ]
        refine takeL (i := 18) (v := (.pointer (some ⟨X, 8, none⟩))) rfl (by kernel_rfl) (by kernel_rfl) (by kernel_rfl) (fun _ _ _ h => h) (Or.inl ⟨rfl, fun _ _ => rfl⟩) hq0 ?_
        simp only [Act.put, List.setIfInBounds_toArray, List.set_cons_zero, List.set_cons_succ]
        refine takeL (i := 19) (v := _) rfl (by kernel_rfl) (by kernel_rfl) (by kernel_rfl) (fun _ _ _ h => h) (yieldsIf_cell rfl 25 _ rfl ⟨X, 8, none⟩ rfl (.int .u32 (Z.hi 8)) _ (fun W' hW' => (hW'.cell (p := ⟨X, 8, none⟩) hXv).trans x8) Try.underlying25 rfl) hq0 ?_
        simp only [Act.put, List.setIfInBounds_toArray, List.set_cons_zero, List.set_cons_succ]
        refine takeL (i := 20) (v := (.bool false)) rfl (by kernel_rfl) (by kernel_rfl) (by kernel_rfl) (fun _ _ _ h => h) (Or.inl ⟨rfl, fun W' _ => by go_simp⟩) hq0 ?_
        simp only [Act.put, List.setIfInBounds_toArray, List.set_cons_zero, List.set_cons_succ]
        refine takeL (i := 21) (v := (.bool false)) rfl (by kernel_rfl) (by kernel_rfl) (by kernel_rfl) (fun _ _ _ h => h) (Or.inl ⟨rfl, fun _ _ => rfl⟩) hq0 ?_
        simp only [Act.put, List.setIfInBounds_toArray, List.set_cons_zero, List.set_cons_succ]
        refine takeL (i := 22) (v := (.bool false)) rfl (by kernel_rfl) (by kernel_rfl) (by kernel_rfl) (fun _ _ _ h => h) (Or.inl ⟨rfl, fun _ _ => rfl⟩) hq0 ?_
        simp only [Act.put, List.setIfInBounds_toArray, List.set_cons_zero, List.set_cons_succ]
        refine takeL (i := 23) (v := (.pointer (some ⟨fq, 73, none⟩))) rfl (by kernel_rfl) (by kernel_rfl) (by kernel_rfl) (fun _ _ _ h => h) (Or.inl ⟨rfl, fun _ _ => rfl⟩) hq0 ?_
        simp only [Act.put, List.setIfInBounds_toArray, List.set_cons_zero, List.set_cons_succ]
        refine takeL (i := 24) (v := (.pointer (some ⟨fq, 75, none⟩))) rfl (by kernel_rfl) (by kernel_rfl) (by kernel_rfl) (fun _ _ _ h => h) (Or.inl ⟨rfl, fun _ _ => rfl⟩) hq0 ?_
        simp only [Act.put, List.setIfInBounds_toArray, List.set_cons_zero, List.set_cons_succ]
        refine takeL (i := 25) (v := _) rfl (by kernel_rfl) (by kernel_rfl) (by kernel_rfl) (fun _ _ _ h => h) (yieldsIf_cell rfl 22 _ rfl ⟨fq, 75, none⟩ rfl (.int .u64 (B.hi 0)) _ (fun W' hW' => (hW'.cell (p := ⟨fq, 75, none⟩) hltq).trans qq75) Try.underlying22 rfl) hq0 ?_
        simp only [Act.put, List.setIfInBounds_toArray, List.set_cons_zero, List.set_cons_succ]
        refine takeL (i := 26) (v := (.pointer (some ⟨bx, 0, none⟩))) rfl (by kernel_rfl) (by kernel_rfl) (by kernel_rfl) (fun _ _ _ h => h) (Or.inl ⟨rfl, fun _ _ => rfl⟩) hq0 ?_
        simp only [Act.put, List.setIfInBounds_toArray, List.set_cons_zero, List.set_cons_succ]
        refine takeL (i := 27) (v := _) rfl (by kernel_rfl) (by kernel_rfl) (by kernel_rfl) (fun _ _ _ h => h) (yieldsIf_cell rfl 22 _ rfl ⟨bx, 0, none⟩ rfl (.int .u64 (B.hi 0)) _ (fun W' hW' => (hW'.cell (p := ⟨bx, 0, none⟩) hbxv).trans b0) Try.underlying22 rfl) hq0 ?_
        simp only [Act.put, List.setIfInBounds_toArray, List.set_cons_zero, List.set_cons_succ]
        refine takeL (i := 28) (v := (.bool false)) rfl (by kernel_rfl) (by kernel_rfl) (by kernel_rfl) (fun _ _ _ h => h) (Or.inl ⟨rfl, fun W' _ => by go_simp⟩) hq0 ?_
        simp only [Act.put, List.setIfInBounds_toArray, List.set_cons_zero, List.set_cons_succ]
        refine takeL (i := 29) (v := (.bool false)) rfl (by kernel_rfl) (by kernel_rfl) (by kernel_rfl) (fun _ _ _ h => h) (Or.inl ⟨rfl, fun _ _ => rfl⟩) hq0 ?_
        simp only [Act.put, List.setIfInBounds_toArray, List.set_cons_zero, List.set_cons_succ]
        refine takeL (i := 30) (v := (.bool false)) rfl (by kernel_rfl) (by kernel_rfl) (by kernel_rfl) (fun _ _ _ h => h) (Or.inl ⟨rfl, fun _ _ => rfl⟩) hq0 ?_
        simp only [Act.put, List.setIfInBounds_toArray, List.set_cons_zero, List.set_cons_succ]
        refine takeL (i := 31) (v := (.pointer (some ⟨fq, 73, none⟩))) rfl (by kernel_rfl) (by kernel_rfl) (by kernel_rfl) (fun _ _ _ h => h) (Or.inl ⟨rfl, fun _ _ => rfl⟩) hq0 ?_
        simp only [Act.put, List.setIfInBounds_toArray, List.set_cons_zero, List.set_cons_succ]
        refine takeL (i := 32) (v := (.pointer (some ⟨fq, 76, none⟩))) rfl (by kernel_rfl) (by kernel_rfl) (by kernel_rfl) (fun _ _ _ h => h) (Or.inl ⟨rfl, fun _ _ => rfl⟩) hq0 ?_
        simp only [Act.put, List.setIfInBounds_toArray, List.set_cons_zero, List.set_cons_succ]
        refine takeL (i := 33) (v := _) rfl (by kernel_rfl) (by kernel_rfl) (by kernel_rfl) (fun _ _ _ h => h) (yieldsIf_cell rfl 26 _ rfl ⟨fq, 76, none⟩ rfl (.int .u16 (B.gi k 0)) _ (fun W' hW' => (hW'.cell (p := ⟨fq, 76, none⟩) hltq).trans qq76) Try.underlying26 rfl) hq0 ?_
        simp only [Act.put, List.setIfInBounds_toArray, List.set_cons_zero, List.set_cons_succ]
        refine takeL (i := 34) (v := (.pointer (some ⟨fq, 0, none⟩))) rfl (by kernel_rfl) (by kernel_rfl) (by kernel_rfl) (fun _ _ _ h => h) (Or.inl ⟨rfl, fun _ _ => rfl⟩) hq0 ?_
        simp only [Act.put, List.setIfInBounds_toArray, List.set_cons_zero, List.set_cons_succ]
        refine takeL (i := 35) (v := _) rfl (by kernel_rfl) (by kernel_rfl) (by kernel_rfl) (fun _ _ _ h => h) (yieldsIf_cell rfl 26 _ rfl ⟨fq, 0, none⟩ rfl (.int .u16 (B.gi k 0)) _ (fun W' hW' => (hW'.cell (p := ⟨fq, 0, none⟩) hltq).trans qq0) Try.underlying26 rfl) hq0 ?_
        simp only [Act.put, List.setIfInBounds_toArray, List.set_cons_zero, List.set_cons_succ]
        refine takeL (i := 36) (v := (.bool false)) rfl (by kernel_rfl) (by kernel_rfl) (by kernel_rfl) (fun _ _ _ h => h) (Or.inl ⟨rfl, fun W' _ => by go_simp⟩) hq0 ?_
        simp only [Act.put, List.setIfInBounds_toArray, List.set_cons_zero, List.set_cons_succ]
        refine takeL (i := 37) (v := (.bool false)) rfl (by kernel_rfl) (by kernel_rfl) (by kernel_rfl) (fun _ _ _ h => h) (Or.inl ⟨rfl, fun _ _ => rfl⟩) hq0 ?_
        simp only [Act.put, List.setIfInBounds_toArray, List.set_cons_zero, List.set_cons_succ]
        refine takeL (i := 38) (v := (.bool false)) rfl (by kernel_rfl) (by kernel_rfl) (by kernel_rfl) (fun _ _ _ h => h) (Or.inl ⟨rfl, fun _ _ => rfl⟩) hq0 ?_
        simp only [Act.put, List.setIfInBounds_toArray, List.set_cons_zero, List.set_cons_succ]
        refine takeL (i := 39) (v := (.pointer (some ⟨fq, 68, none⟩))) rfl (by kernel_rfl) (by kernel_rfl) (by kernel_rfl) (fun _ _ _ h => h) (Or.inl ⟨rfl, fun _ _ => rfl⟩) hq0 ?_
        simp only [Act.put, List.setIfInBounds_toArray, List.set_cons_zero, List.set_cons_succ]
        refine takeL (i := 40) (v := _) rfl (by kernel_rfl) (by kernel_rfl) (by kernel_rfl) (fun _ _ _ h => h) (yieldsIf_load_mid rfl 28 _ rfl fq (68) rfl ([Value.int .u64 (B.gi k 68), Value.int .u32 (B.gi k 69), Value.int .u64 (B.gi k 70), Value.int .u16 (B.gi k 71), Value.int .u16 (B.gi k 72)]) _ (fun W' hW' => rangeAt_ext RRq68.out hW' hltq) Try.underlying28 rfl (by exact size_vec)) hq0 ?_
        simp only [Act.put, List.setIfInBounds_toArray, List.set_cons_zero, List.set_cons_succ]
        refine takeL (i := 41) (v := (.pointer (some ⟨bx, 17, none⟩))) rfl (by kernel_rfl) (by kernel_rfl) (by kernel_rfl) (fun _ _ _ h => h) (Or.inl ⟨rfl, fun _ _ => rfl⟩) hq0 ?_
        simp only [Act.put, List.setIfInBounds_toArray, List.set_cons_zero, List.set_cons_succ]
        refine takeL (i := 42) (v := _) rfl (by kernel_rfl) (by kernel_rfl) (by kernel_rfl) (fun _ _ _ h => h) (yieldsIf_cell rfl 29 _ rfl ⟨bx, 17, none⟩ rfl (.slice (some ⟨bb, off, none⟩) B.np k1) _ (fun W' hW' => (hW'.cell (p := ⟨bx, 17, none⟩) hbxv).trans b17) Try.underlying29 rfl) hq0 ?_
        simp only [Act.put, List.setIfInBounds_toArray, List.set_cons_zero, List.set_cons_succ]
        refine takeL (i := 43) (v := (.int .i64 (k : Int))) rfl (by kernel_rfl) (by kernel_rfl) (by kernel_rfl) (fun _ _ _ h => h) (Or.inl ⟨rfl, fun _ _ => rfl⟩) hq0 ?_
        simp only [Act.put, List.setIfInBounds_toArray, List.set_cons_zero, List.set_cons_succ]
        refine takeL (i := 44) (v := (.pointer (some ⟨bb, off + k * 89, none⟩))) rfl (by kernel_rfl) (by kernel_rfl) (by kernel_rfl) (fun _ _ _ h => h) (Or.inl ⟨rfl, fun W' _ => by go_simp⟩) hq0 ?_
        simp only [Act.put, List.setIfInBounds_toArray, List.set_cons_zero, List.set_cons_succ]
        refine takeL (i := 45) (v := (.pointer (some ⟨bb, off + k * 89 + 68, none⟩))) rfl (by kernel_rfl) (by kernel_rfl) (by kernel_rfl) (fun _ _ _ h => h) (Or.inl ⟨rfl, fun _ _ => rfl⟩) hq0 ?_
        simp only [Act.put, List.setIfInBounds_toArray, List.set_cons_zero, List.set_cons_succ]
        refine takeL (i := 46) (v := _) rfl (by kernel_rfl) (by kernel_rfl) (by kernel_rfl) (fun _ _ _ h => h) (yieldsIf_load_mid rfl 28 _ rfl bb (off + k * 89 + 68) rfl ([Value.int .u64 (B.gi k 68), Value.int .u32 (B.gi k 69), Value.int .u64 (B.gi k 70), Value.int .u16 (B.gi k 71), Value.int .u16 (B.gi k 72)]) _ (fun W' hW' => rangeAt_ext ROV.out hW' hbbv) Try.underlying28 rfl (by exact size_vec)) hq0 ?_
        simp only [Act.put, List.setIfInBounds_toArray, List.set_cons_zero, List.set_cons_succ]
        refine takeL (i := 47) (v := (.bool false)) rfl (by kernel_rfl) (by kernel_rfl) (by kernel_rfl) (fun _ _ _ h => h) (Or.inl ⟨rfl, fun W' _ => by go_simp⟩) hq0 ?_
        simp only [Act.put, List.setIfInBounds_toArray, List.set_cons_zero, List.set_cons_succ]
        refine takeL (i := 48) (v := (.bool false)) rfl (by kernel_rfl) (by kernel_rfl) (by kernel_rfl) (fun _ _ _ h => h) (Or.inl ⟨rfl, fun _ _ => rfl⟩) hq0 ?_
        simp only [Act.put, List.setIfInBounds_toArray, List.set_cons_zero, List.set_cons_succ]
        refine wpAnyH_done (by kernel_rfl) ?_ _
        have H10x := Lib.hid (H9x.out.ext hq0)
        have E10 := E9.trans hq0
        have HFq := Lib.hid ((hq0.block _ hltq).trans HFq.out)
        clear E9 RRq82 RRq68 hltq qq0 qq73 qq74 qq75 qq76 qq77 qq82 qq83 qq84 qq85 qq68 qq69 qq70 qq71 qq72
        go_wp2_with fail
        go_roundw
        case rel => exact ⟨k + 1, by omega, by go_num, E10⟩
        case measure => simp [intOf]; omega
      · obtain rfl : k = B.np := by omega
        obtain ⟨hXl, hgl, hne⟩ := HXr.out.lt
        obtain ⟨cap, c17, hca, hcb⟩ := HXr.out.cell17 HSO.out.ok
        rw [show (Z).np = B.np from HSO.out.np] at c17 hca
        have hfr := HXr.out.frozen
        go_wp2_with fail
        all_goals
          go_ret
          exact ⟨rfl, HE0.out.trans ((E6.trans HEz.out).trans EL)⟩

end Go.Proofs.Ythfoacgdkoijeaa
