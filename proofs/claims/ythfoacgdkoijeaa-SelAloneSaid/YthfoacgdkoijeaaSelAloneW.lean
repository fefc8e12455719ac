/- The walk of SelAlone. No statement is proved here. -/
import Derived.Test.YthfoacgdkoijeaaSelQ
import Derived.Test.YthfoacgdkoijeaaSelL
import Derived.Test.YthfoacgdkoijeaaInfI
namespace Go.Proofs.Ythfoacgdkoijeaa
open Go.RowKit Go.BigFrame Go.WideShapes Go.ChangeShapes Go.Deep
set_option linter.unusedVariables false
set_option linter.unusedSimpArgs false

set_option maxRecDepth 100000 in
set_option maxHeartbeats 4000000 in
theorem law_SelAlone {w : World} (c : Array Value) (B : Br) (hb : BrC w c B) (ho : B.ok) :
    Calls Try.prog 12 #[.agg c] w fun e w' => e = .returned (.bool true) ∧ Ext w w' := by
  have hz0 : c.size = 20 := by
    obtain ⟨_, _, _, h, _⟩ := hb.facts ho.hd.1
    exact h
  have hi20 := Lib.hid (show (Try.prog.info? 33).map (·.size) = some c.size by rw [hz0]; exact size_br)
  have HCZ := Lib.hid hz0
  have hE00 : Ext w (w.alloc (.cells c 33)) := ((Ext.refl w).alloc _)
  have hL00 : (w.alloc (.cells c 33)).heap[w.heap.size]? = some (.cells c 33 (0, 0)) := heap_alloc_new _ _
  have hS00 : w.heap.size < (w.alloc (.cells c 33)).heap.size := heap_lt hL00
  have hB00 := hb.ext hE00
  clear hz0
  have HP := Lib.hid hb
  clear hb
  have HhE00 := Lib.hid hE00
  have HhL00 := Lib.hid hL00
  have HhS00 := Lib.hid hS00
  have HhB00 := Lib.hid hB00
  clear hE00 hL00 hS00 hB00
  go_enter Try.func12, Try.ntmps12
  go_wp2_with fail
  have hE00 := HhE00.out
  clear HhE00
  have hL00 := HhL00.out
  clear HhL00
  have hS00 := HhS00.out
  clear HhS00
  have hB00 := HhB00.out
  clear HhB00
  generalize (w.alloc (.cells c 33)) = W0 at *
  obtain ⟨bx, hq⟩ : ∃ n, w.heap.size = n := ⟨_, rfl⟩
  rw [hq] at hL00 hS00 ⊢
  have HE0 := Lib.hid hE00
  have HL0 := Lib.hid hL00
  have HB0 := Lib.hid hB00
  have HS0 := Lib.hid hS00
  have HWB := Lib.hid hq
  clear hE00 hL00 hB00 hS00 hq
  refine (sel_awake _).mono ?_
  rintro e v1 ⟨rfl, E1⟩
  go_wp2_with (first | fail | ((with_reducible refine at_load 33 ?_); refine wpList_load_row rfl 33 _ rfl bx rfl 33 c (0, 0) _ ((E1.block _ HS0.out).trans HL0.out) Try.underlying33 rfl hi20.out ?_))
  refine (few_any c B _ (HB0.out.ext E1) ho).mono ?_
  rintro e v2 ⟨f, rfl, hx2, hf⟩
  have E2 := Ext.trans E1 hx2
  clear E1 hx2
  cases f
  · go_wp2_with fail
    go_ret
    exact ⟨rfl, HE0.out.trans E2⟩
  have hfew := Lib.hid (hf.1 rfl)
  clear hf
  have hn1 := hfew.out.2.1
  have HN := Lib.hid (show B.np ≤ 1000 ∧ B.no ≤ 1000 ∧ B.nf ≤ 1000 by have := hfew.out; omega)
  have hn8 : B.np < 1000 := by have := hfew.out; omega
  obtain ⟨s1, s2, s3, hz0, hhd, c17b, c18b, c19b, r1, r2, r3⟩ := HP.out.facts ho.hd.1
  obtain ⟨a1, k1, rfl, m1, f1⟩ := r1.form
  obtain ⟨bb, off, rfl, hbl, hlc, hcm, hrg⟩ := f1 (by omega)
  have HB17 := Lib.hid (show W0.cell? ⟨bx, 17, none⟩ = some (.slice (some ⟨bb, off, none⟩) B.np k1) by rw [cell_of_row _ _ _ _ _ _ HL0.out]; exact c17b)
  have HRG := Lib.hid hrg
  have HBL := Lib.hid hbl
  clear hz0 hhd c18b c19b r2 r3 r1 hrg c17b f1 hbl
  have HR78 := Lib.hid (show ∀ k, k < B.np → 0 ≤ B.gi k 78 ∧ B.gi k 78 ≤ 65535 from fun k hk => ⟨(hfew.out.1.2 k hk).2.1.1, (hfew.out.1.2 k hk).2.1.2.1⟩)
  go_wp2_with (first
    | fail
    | ((with_reducible refine at_load 33 ?_); refine wpList_load_row rfl 33 _ rfl bx rfl 33 c (0, 0) _ ((E2.block _ HS0.out).trans HL0.out) Try.underlying33 rfl hi20.out ?_))
  refine (clone_any c B _ (HB0.out.ext E2) ho HN.out).mono ?_
  rintro e u3 ⟨cx, rfl, hO, hx⟩
  have Eu := Ext.trans E2 hx
  have hcxz := Lib.hid (size_z20.trans (hO.size ho).symm)
  have hcxo := Lib.hid (hO.one ho)
  have hcxi := Lib.hid (show (Try.prog.info? 33).map (·.size) = some cx.size by rw [hO.size ho]; exact size_br)
  obtain ⟨gx, hM⟩ := hO.made hx.size hn1
  obtain ⟨Nx, hN0, hsz⟩ := nameLe hx.size
  have hNE : W0.heap.size ≤ Nx := by
    rw [← hN0]
    exact E2.size
  rw [hN0] at hM
  have HMK := Lib.hid (show ∀ wx : World, wx = u3.alloc (.cells cx 33) → BrG wx (fun n => Nx ≤ n ∧ n < u3.heap.size + 1) u3.heap.size gx B ∧ Ext W0 wx from by
    rintro _ rfl
    exact ⟨hM, Eu.alloc _⟩)
  clear hM hO hx Eu hN0 E2
  obtain ⟨X, hX0⟩ : ∃ n, u3.heap.size = n := ⟨_, rfl⟩
  have HX0 := Lib.hid hX0
  rw [hX0] at HMK hsz
  have hsx := Lib.hid (show Nx ≤ X ∧ W0.heap.size ≤ Nx from ⟨hsz, hNE⟩)
  clear hsz hNE hX0
  go_wp2_with (first
    | fail
    | ((with_reducible refine at_store 33 ?_); refine wpList_store_new3 rfl rfl 33 _ _ _ rfl _ cx _ rfl ?_ rfl hcxi.out hcxz.out hcxo.out ?_; · rfl
       intro wx hwx
       have hmk := HMK.out wx hwx
       obtain ⟨hBx, E4⟩ := hmk
       have H4x := Lib.hid hBx
       rw [HX0.out]
       clear hwx hBx HMK HX0 hcxz hcxo hcxi))
  go_loopw [6] (fun i wr => ∃ n : Nat, n ≤ B.np ∧ i = .int .i64 n ∧ BrG wr (fun n => Nx ≤ n ∧ n < X + 1) X gx (al3 B n) ∧ Ext W0 wr) (fun i _ => B.np - (intOf i).toNat)
  case atStart => exact ⟨0, by omega, rfl, H4x.out, E4⟩
  case round =>
    clear E4 H4x
    obtain ⟨n, hn, rfl, hB, E5⟩ := hrel
    have H5 := Lib.hid hB
    clear hB
    have okn : Br.ok (al3 B n) := al3_ok ho n hn
    have hnp : ((al3 B n)).np = B.np := al3_np B n
    by_cases hlt : n < B.np
    · have hkn : n < ((al3 B n)).np := by rw [hnp]; exact hlt
      obtain ⟨hXl, hgl, hne⟩ := H5.out.lt
      obtain ⟨cap, c17, hca, hcb⟩ := H5.out.cell17 okn
      rw [show ((al3 B n)).np = B.np from hnp] at c17 hca
      have hfr := H5.out.frozen
      have p86 := (H5.out.cellg (i := n * 89 + 86) (lt89 (N := ((al3 B n)).np) hkn (by decide))).trans (Br.ok.gi okn (k := n) hkn 86 rfl)
      have p43 := (H5.out.cellg (i := n * 89 + 43) (lt89 (N := ((al3 B n)).np) hkn (by decide))).trans (Br.ok.gb okn (k := n) hkn 43 rfl)
      go_wp2_with fail
      go_region
      go_wp2_with fail
      go_roundw
      case rel =>
        refine ⟨n + 1, by omega, by go_num, (H5.out.setp (k := n) (j := 86) hkn (by decide) _).setp (k := n) (j := 43) hkn (by decide) _, ?_⟩
        exact Ext.mutE E5 ((((Mut.refl (fun n => Nx ≤ n ∧ n < X + 1) wr).setCell (p := ⟨gx, n * 89 + 86, none⟩) (.inl H5.out.F2) _)).setCell (p := ⟨gx, n * 89 + 43, none⟩) (.inl H5.out.F2) _) (fun n hn h1 => by have := h1.1; have := hsx.out; omega)
      case measure => simp [intOf]; omega
    · obtain rfl : n = B.np := by omega
      obtain ⟨Z, hZ⟩ : ∃ Z, (al3 B B.np) = Z := ⟨_, rfl⟩
      rw [hZ] at H5 okn hnp
      obtain ⟨hXlt, hglt, hnet⟩ := H5.out.lt
      obtain ⟨capt, c17t, hcat, hcbt⟩ := H5.out.cell17 okn
      rw [show (Z).np = B.np from hnp] at c17t hcat
      have hfrt := H5.out.frozen
      go_wp2_with fail
      have hA : anyR Z (Br.np Z) = true := anyR_of (k := 0) (hZ ▸ (al3_lt ho B.np (Nat.le_refl _) 0 hn1).2) _ (by rw [hnp]; exact hn1)
      have hR0 : ∀ k, k < Br.np Z → 0 ≤ Br.gi Z k 78 ∧ Br.gi Z k 78 ≤ 65535 := fun k hk => by rw [← hZ, al3_gi B (by decide) (by decide) (by decide)]; exact HR78.out k (by rw [← hnp]; exact hk)
      have hN8 : Br.np Z < 1000 := (by rw [hnp]; exact hn8)
      have hN1 : 1 ≤ Br.np Z := (by rw [hnp]; exact hn1)
      have SO := sel_out (B := Z) okn hN8 hR0
      have HD := Lib.hid (sel_does hA)
      obtain ⟨Y, hY⟩ : ∃ q, psel (selB2 (noR Z (Br.np Z))) (Br.np Z) = q := ⟨_, rfl⟩
      rw [hY] at SO HD
      clear hY hA
      have HSO := Lib.hid SO
      clear SO
      refine (sel_step _ (fun n => Nx ≤ n ∧ n < X + 1) X gx Z H5.out okn hN8 hN1 hR0).mono ?_
      rw [HD.out]
      rintro e v6 ⟨he, hB, hm⟩
      obtain rfl : e = .returned (.bool true) := he
      have E6 := Ext.mutE E5 hm (fun n hn h1 => by have := h1.1; have := hsx.out; omega)
      clear E5
      have H6x := Lib.hid (show BrG _ (fun n => Nx ≤ n ∧ n < X + 1) X gx Y from hB)
      clear hB hm hR0 hN8 hN1
      have AO := Lib.hid (alone_out ho hZ HSO.out)
      have HAL := Lib.hid hZ
      clear hZ
      have hz0 := Lib.hid HL0.out
      obtain ⟨q1, q2, q3, hcz, hhd, -, -, -, -, -, -⟩ := HP.out.facts ho.hd.1
      clear hz0
      have HBR := Lib.hid ((E6.block _ HS0.out).trans HL0.out)
      have b2 := (cell_of_row _ _ 2 _ _ _ HBR.out).trans ((hhd 2 (by decide)).trans (ho.hi 2 rfl))
      have b3 := (cell_of_row _ _ 3 _ _ _ HBR.out).trans ((hhd 3 (by decide)).trans (ho.hi 3 rfl))
      have b4 := (cell_of_row _ _ 4 _ _ _ HBR.out).trans ((hhd 4 (by decide)).trans (ho.hi 4 rfl))
      have b5 := (cell_of_row _ _ 5 _ _ _ HBR.out).trans ((hhd 5 (by decide)).trans (ho.hi 5 rfl))
      have RBT := Lib.hid (show v6.rangeAt bx 2 [.int .i64 (B.hi 2), .int .i64 (B.hi 3), .int .i64 (B.hi 4), .int .i64 (B.hi 5)] from rcons b2 (rcons b3 (rcons b4 (rcons b5 rnil))))
      clear b2 b3 b4 b5
      have B0c := Lib.hid ((cell_of_row _ _ 0 _ _ _ HBR.out).trans ((hhd 0 (by decide)).trans (ho.hi 0 rfl)))
      have hbxl := Nat.lt_of_lt_of_le HS0.out E6.size
      clear hhd hcz
      have x7 := (H6x.out.cellX HSO.out.ok (i := 7) (by decide)).trans (Br.ok.hi HSO.out.ok 7 rfl)
      have x8 := (H6x.out.cellX HSO.out.ok (i := 8) (by decide)).trans (Br.ok.hi HSO.out.ok 8 rfl)
      have x9 := (H6x.out.cellX HSO.out.ok (i := 9) (by decide)).trans (Br.ok.hi HSO.out.ok 9 rfl)
      have x10 := (H6x.out.cellX HSO.out.ok (i := 10) (by decide)).trans (Br.ok.hi HSO.out.ok 10 rfl)
      have x11 := (H6x.out.cellX HSO.out.ok (i := 11) (by decide)).trans (Br.ok.hi HSO.out.ok 11 rfl)
      rw [AO.out.h7] at x7
      rw [AO.out.h8] at x8
      rw [AO.out.h9] at x9
      rw [AO.out.h10] at x10
      rw [AO.out.h11] at x11
      have RXV := Lib.hid (show v6.rangeAt X 7 [.int .u64 (B.hi 0), .int .u32 0, .int .u64 (B.hi 0), .int .u16 0, .int .u16 0] from rcons x7 (rcons x8 (rcons x9 (rcons x10 (rcons x11 rnil)))))
      clear x7 x8 x9 x10 x11
      have hXl0 := H6x.out.lt.1
      have x12 := (H6x.out.cellX HSO.out.ok (i := 12) (by decide)).trans (Br.ok.hi HSO.out.ok 12 rfl)
      rw [AO.out.h12] at x12
      have X12 := Lib.hid x12
      clear x12
      clear c17t hfrt
      go_wp2_with fail
      have HX := Lib.hid H6x.out
      go_loopw [8] (fun i wr => ∃ n : Nat, n ≤ B.np ∧ i = .int .i64 n ∧ Ext v6 wr) (fun i _ => B.np - (intOf i).toNat)
      case atStart => exact ⟨0, by omega, rfl, Ext.refl _⟩
      case round =>
        obtain ⟨k, hn, rfl, EL⟩ := hrel
        have HXr := Lib.hid (HX.out.ext EL)
        by_cases hk : k < B.np
        · have hkZ : k < Z.np := by rw [hnp]; exact hk
          obtain ⟨d73, d74, d75, d76, d77, d82, d83, d84, d85⟩ := so_des HSO.out okn (n := k) hkZ
          have hro := AO.out.role k hk
          rw [AO.out.h7] at d73
          rw [AO.out.h8] at d74
          rw [AO.out.h13] at d82
          rw [AO.out.h14] at d83
          rw [AO.out.h16] at d85
          have hZ0 : Z.hi 0 = B.hi 0 := by rw [← HAL.out, al3_hi]
          have hZ4 : Z.hi 4 = B.hi 4 := by rw [← HAL.out, al3_hi]
          rw [hZ0] at d75
          rw [hZ4] at d84
          clear hZ0 hZ4
          have d0 : Y.gi k 0 = B.gi k 0 := (so_keep HSO.out okn (n := k) (j := 0) hkZ (by decide) (by decide) (by decide) (by decide)).trans (by rw [← HAL.out]; exact al3_gi B (by decide) (by decide) (by decide) _ _)
          rw [show Z.gi k 0 = B.gi k 0 by rw [← HAL.out]; exact al3_gi B (by decide) (by decide) (by decide) _ _] at d76
          obtain ⟨hXl, hgl, hne⟩ := HXr.out.lt
          obtain ⟨cap, c17, hca, hcb⟩ := HXr.out.cell17 HSO.out.ok
          rw [show (Y).np = B.np from (HSO.out.np.trans hnp)] at c17 hca
          have hfr := HXr.out.frozen
          by_cases h86 : Y.gi k 86 = 0
          · rw [if_pos h86] at hro
            have hkc : k < Br.np Y := (show k < Br.np Y by rw [(HSO.out.np.trans hnp)]; exact hk)
            have hrq0 := HXr.out.range (k := k) hkc
            have cq0 : (port (Br.ps Y) k)[0]? = some (.int .u16 (B.gi k 0)) := (port_at (B := Y) (k := k) (j := 0) (by decide)).trans ((Br.ok.gi HSO.out.ok (k := k) hkc 0 rfl).trans (by rw [d0]))
            have cq73 : (port (Br.ps Y) k)[73]? = some (.int .u64 (B.hi 0)) := (port_at (B := Y) (k := k) (j := 73) (by decide)).trans ((Br.ok.gi HSO.out.ok (k := k) hkc 73 rfl).trans (by rw [d73]))
            have cq74 : (port (Br.ps Y) k)[74]? = some (.int .u32 0) := (port_at (B := Y) (k := k) (j := 74) (by decide)).trans ((Br.ok.gi HSO.out.ok (k := k) hkc 74 rfl).trans (by rw [d74]))
            have cq75 : (port (Br.ps Y) k)[75]? = some (.int .u64 (B.hi 0)) := (port_at (B := Y) (k := k) (j := 75) (by decide)).trans ((Br.ok.gi HSO.out.ok (k := k) hkc 75 rfl).trans (by rw [d75]))
            have cq76 : (port (Br.ps Y) k)[76]? = some (.int .u16 (B.gi k 0)) := (port_at (B := Y) (k := k) (j := 76) (by decide)).trans ((Br.ok.gi HSO.out.ok (k := k) hkc 76 rfl).trans (by rw [d76]))
            have cq77 : (port (Br.ps Y) k)[77]? = some (.int .u16 0) := (port_at (B := Y) (k := k) (j := 77) (by decide)).trans ((Br.ok.gi HSO.out.ok (k := k) hkc 77 rfl).trans (by rw [d77]))
            have cq82 : (port (Br.ps Y) k)[82]? = some (.int .i64 (B.hi 2)) := (port_at (B := Y) (k := k) (j := 82) (by decide)).trans ((Br.ok.gi HSO.out.ok (k := k) hkc 82 rfl).trans (by rw [d82]))
            have cq83 : (port (Br.ps Y) k)[83]? = some (.int .i64 (B.hi 3)) := (port_at (B := Y) (k := k) (j := 83) (by decide)).trans ((Br.ok.gi HSO.out.ok (k := k) hkc 83 rfl).trans (by rw [d83]))
            have cq84 : (port (Br.ps Y) k)[84]? = some (.int .i64 (B.hi 4)) := (port_at (B := Y) (k := k) (j := 84) (by decide)).trans ((Br.ok.gi HSO.out.ok (k := k) hkc 84 rfl).trans (by rw [d84]))
            have cq85 : (port (Br.ps Y) k)[85]? = some (.int .i64 (B.hi 5)) := (port_at (B := Y) (k := k) (j := 85) (by decide)).trans ((Br.ok.gi HSO.out.ok (k := k) hkc 85 rfl).trans (by rw [d85]))
            have cq86 : (port (Br.ps Y) k)[86]? = some (.int .i64 0) := (port_at (B := Y) (k := k) (j := 86) (by decide)).trans ((Br.ok.gi HSO.out.ok (k := k) hkc 86 rfl).trans (by rw [h86]))
            have cq88 : (port (Br.ps Y) k)[88]? = some (.int .i64 0) := (port_at (B := Y) (k := k) (j := 88) (by decide)).trans ((Br.ok.gi HSO.out.ok (k := k) hkc 88 rfl).trans (by rw [hro]))
            have hnq0 : (port (Br.ps Y) k).length = 89 := (port_typed HSO.out.ok (i := k) hkc).1
            have hoq := Lib.hid (all_oneCell_toArray (port_typed HSO.out.ok (i := k) hkc).one)
            obtain ⟨pq, hpq⟩ : ∃ p, port (Br.ps Y) k = p := ⟨_, rfl⟩
            rw [hpq] at hrq0 hnq0 hoq cq0 cq73 cq74 cq75 cq76 cq77 cq82 cq83 cq84 cq85 cq86 cq88
            clear hpq
            have hrq := Lib.hid hrq0
            clear hrq0
            have hiq := Lib.hid (show (Try.prog.info? 51).map (·.size) = some pq.length by rw [hnq0]; exact size_port)
            have hjq := Lib.hid (show (Try.prog.info? 51).map (·.size) = some pq.toArray.size by rw [List.size_toArray, hnq0]; exact size_port)
            have hsqz := Lib.hid (show PZ.size = pq.toArray.size by rw [List.size_toArray]; exact hnq0.symm)
            have hzq := zero_port
            clear hnq0
            clear hkc
            clear d0 d73 d74 d75 d76 d77 d82 d83 d84 d85 hro
            go_upto_region 17 with (first
              | fail
              | ((with_reducible refine at_load 51 ?_); refine wpList_load_mid rfl 51 _ rfl gx (k * 89) rfl pq _ hrq.out Try.underlying51 rfl hiq.out ?_)
              | ((with_reducible refine at_store 51 ?_); refine wpList_store_new3 rfl rfl 51 _ _ _ rfl PZ pq.toArray _ rfl ?_ rfl hjq.out hsqz.out (by rw [Array.all_toList]; exact hoq.out) ?_; · rfl
                 intro wfq hwf
                 have hY := HXr.out.alloc (.cells pq.toArray 51)
                 rw [← hwf] at hY
                 have hE0 : Ext wr wfq := by rw [hwf]; exact (Ext.refl _).alloc _
                 have E7 := EL.trans hE0
                 have hbx := heap_alloc_new wr (.cells pq.toArray 51)
                 rw [← hwf] at hbx
                 have hxb := Lib.hid HXr.out.lt.1
                 obtain ⟨fq, hfb⟩ : ∃ n, wr.heap.size = n := ⟨_, rfl⟩
                 rw [hfb] at hbx hxb ⊢
                 have HFq := Lib.hid hbx
                 have HGq := hxb
                 have H7x := Lib.hid hY
                 clear hwf hY hbx hxb hfb hE0 EL hzq))
            have qq0 : wfq.cell? ⟨fq, 0, none⟩ = some (.int .u16 (B.gi k 0)) := by rw [cell_of_row _ _ _ _ _ _ HFq.out]; simpa using cq0
            have qq73 : wfq.cell? ⟨fq, 73, none⟩ = some (.int .u64 (B.hi 0)) := by rw [cell_of_row _ _ _ _ _ _ HFq.out]; simpa using cq73
            have qq74 : wfq.cell? ⟨fq, 74, none⟩ = some (.int .u32 0) := by rw [cell_of_row _ _ _ _ _ _ HFq.out]; simpa using cq74
            have qq75 : wfq.cell? ⟨fq, 75, none⟩ = some (.int .u64 (B.hi 0)) := by rw [cell_of_row _ _ _ _ _ _ HFq.out]; simpa using cq75
            have qq76 : wfq.cell? ⟨fq, 76, none⟩ = some (.int .u16 (B.gi k 0)) := by rw [cell_of_row _ _ _ _ _ _ HFq.out]; simpa using cq76
            have qq77 : wfq.cell? ⟨fq, 77, none⟩ = some (.int .u16 0) := by rw [cell_of_row _ _ _ _ _ _ HFq.out]; simpa using cq77
            have qq82 : wfq.cell? ⟨fq, 82, none⟩ = some (.int .i64 (B.hi 2)) := by rw [cell_of_row _ _ _ _ _ _ HFq.out]; simpa using cq82
            have qq83 : wfq.cell? ⟨fq, 83, none⟩ = some (.int .i64 (B.hi 3)) := by rw [cell_of_row _ _ _ _ _ _ HFq.out]; simpa using cq83
            have qq84 : wfq.cell? ⟨fq, 84, none⟩ = some (.int .i64 (B.hi 4)) := by rw [cell_of_row _ _ _ _ _ _ HFq.out]; simpa using cq84
            have qq85 : wfq.cell? ⟨fq, 85, none⟩ = some (.int .i64 (B.hi 5)) := by rw [cell_of_row _ _ _ _ _ _ HFq.out]; simpa using cq85
            have qq86 : wfq.cell? ⟨fq, 86, none⟩ = some (.int .i64 0) := by rw [cell_of_row _ _ _ _ _ _ HFq.out]; simpa using cq86
            have qq88 : wfq.cell? ⟨fq, 88, none⟩ = some (.int .i64 0) := by rw [cell_of_row _ _ _ _ _ _ HFq.out]; simpa using cq88
            have RRq73 := Lib.hid (show wfq.rangeAt fq 73 [Value.int .u64 (B.hi 0), Value.int .u32 0, Value.int .u64 (B.hi 0), Value.int .u16 (B.gi k 0), Value.int .u16 0] from (range_cons qq73 (range_cons qq74 (range_cons qq75 (range_cons qq76 (range_cons qq77 range_nil))))))
            have RRq82 := Lib.hid (show wfq.rangeAt fq 82 [Value.int .i64 (B.hi 2), Value.int .i64 (B.hi 3), Value.int .i64 (B.hi 4), Value.int .i64 (B.hi 5)] from (range_cons qq82 (range_cons qq83 (range_cons qq84 (range_cons qq85 range_nil)))))
            have hXv := Nat.lt_of_lt_of_le hXl0 E7.size
            have hbxv := Nat.lt_of_lt_of_le hbxl E7.size
            have b0 := (E7.cell (p := ⟨bx, 0, none⟩) hbxl).trans B0c.out
            have RBv := Lib.hid (rangeAt_ext RBT.out E7 hbxl)
            go_wp2_with (first
              | fail
              | ((with_reducible refine at_loadG 28 ?_); refine wpList_load_midG rfl 28 _ rfl fq 73 rfl [Value.int .u64 (B.hi 0), Value.int .u32 0, Value.int .u64 (B.hi 0), Value.int .u16 (B.gi k 0), Value.int .u16 0] _ RRq73.out Try.underlying28 rfl (by exact size_vec) ?_)
              | ((with_reducible refine at_loadG 24 ?_); refine wpList_load_midG rfl 24 _ rfl fq 82 rfl [Value.int .i64 (B.hi 2), Value.int .i64 (B.hi 3), Value.int .i64 (B.hi 4), Value.int .i64 (B.hi 5)] _ RRq82.out Try.underlying24 rfl (by exact size_times) ?_)
              | ((with_reducible refine at_loadG 24 ?_); refine wpList_load_midG rfl 24 _ rfl bx 2 rfl [.int .i64 (B.hi 2), .int .i64 (B.hi 3), .int .i64 (B.hi 4), .int .i64 (B.hi 5)] _ RBv.out Try.underlying24 rfl (by exact size_times) ?_))
            go_roundw
            case rel => exact ⟨k + 1, by omega, by go_num, E7⟩
            case measure => simp [intOf]; omega
          · rw [if_neg h86] at hro
            have hb86 : (Y.gi k 86 == 0) = false := by simpa using h86
            have h86 : Y.gi k 86 = Y.gi k 86 := rfl
            have hkc : k < Br.np Y := (show k < Br.np Y by rw [(HSO.out.np.trans hnp)]; exact hk)
            have hrq0 := HXr.out.range (k := k) hkc
            have cq0 : (port (Br.ps Y) k)[0]? = some (.int .u16 (B.gi k 0)) := (port_at (B := Y) (k := k) (j := 0) (by decide)).trans ((Br.ok.gi HSO.out.ok (k := k) hkc 0 rfl).trans (by rw [d0]))
            have cq73 : (port (Br.ps Y) k)[73]? = some (.int .u64 (B.hi 0)) := (port_at (B := Y) (k := k) (j := 73) (by decide)).trans ((Br.ok.gi HSO.out.ok (k := k) hkc 73 rfl).trans (by rw [d73]))
            have cq74 : (port (Br.ps Y) k)[74]? = some (.int .u32 0) := (port_at (B := Y) (k := k) (j := 74) (by decide)).trans ((Br.ok.gi HSO.out.ok (k := k) hkc 74 rfl).trans (by rw [d74]))
            have cq75 : (port (Br.ps Y) k)[75]? = some (.int .u64 (B.hi 0)) := (port_at (B := Y) (k := k) (j := 75) (by decide)).trans ((Br.ok.gi HSO.out.ok (k := k) hkc 75 rfl).trans (by rw [d75]))
            have cq76 : (port (Br.ps Y) k)[76]? = some (.int .u16 (B.gi k 0)) := (port_at (B := Y) (k := k) (j := 76) (by decide)).trans ((Br.ok.gi HSO.out.ok (k := k) hkc 76 rfl).trans (by rw [d76]))
            have cq77 : (port (Br.ps Y) k)[77]? = some (.int .u16 0) := (port_at (B := Y) (k := k) (j := 77) (by decide)).trans ((Br.ok.gi HSO.out.ok (k := k) hkc 77 rfl).trans (by rw [d77]))
            have cq82 : (port (Br.ps Y) k)[82]? = some (.int .i64 (B.hi 2)) := (port_at (B := Y) (k := k) (j := 82) (by decide)).trans ((Br.ok.gi HSO.out.ok (k := k) hkc 82 rfl).trans (by rw [d82]))
            have cq83 : (port (Br.ps Y) k)[83]? = some (.int .i64 (B.hi 3)) := (port_at (B := Y) (k := k) (j := 83) (by decide)).trans ((Br.ok.gi HSO.out.ok (k := k) hkc 83 rfl).trans (by rw [d83]))
            have cq84 : (port (Br.ps Y) k)[84]? = some (.int .i64 (B.hi 4)) := (port_at (B := Y) (k := k) (j := 84) (by decide)).trans ((Br.ok.gi HSO.out.ok (k := k) hkc 84 rfl).trans (by rw [d84]))
            have cq85 : (port (Br.ps Y) k)[85]? = some (.int .i64 (B.hi 5)) := (port_at (B := Y) (k := k) (j := 85) (by decide)).trans ((Br.ok.gi HSO.out.ok (k := k) hkc 85 rfl).trans (by rw [d85]))
            have cq86 : (port (Br.ps Y) k)[86]? = some (.int .i64 (Y.gi k 86)) := (port_at (B := Y) (k := k) (j := 86) (by decide)).trans ((Br.ok.gi HSO.out.ok (k := k) hkc 86 rfl).trans rfl)
            have cq88 : (port (Br.ps Y) k)[88]? = some (.int .i64 4) := (port_at (B := Y) (k := k) (j := 88) (by decide)).trans ((Br.ok.gi HSO.out.ok (k := k) hkc 88 rfl).trans (by rw [hro]))
            have hnq0 : (port (Br.ps Y) k).length = 89 := (port_typed HSO.out.ok (i := k) hkc).1
            have hoq := Lib.hid (all_oneCell_toArray (port_typed HSO.out.ok (i := k) hkc).one)
            obtain ⟨pq, hpq⟩ : ∃ p, port (Br.ps Y) k = p := ⟨_, rfl⟩
            rw [hpq] at hrq0 hnq0 hoq cq0 cq73 cq74 cq75 cq76 cq77 cq82 cq83 cq84 cq85 cq86 cq88
            clear hpq
            have hrq := Lib.hid hrq0
            clear hrq0
            have hiq := Lib.hid (show (Try.prog.info? 51).map (·.size) = some pq.length by rw [hnq0]; exact size_port)
            have hjq := Lib.hid (show (Try.prog.info? 51).map (·.size) = some pq.toArray.size by rw [List.size_toArray, hnq0]; exact size_port)
            have hsqz := Lib.hid (show PZ.size = pq.toArray.size by rw [List.size_toArray]; exact hnq0.symm)
            have hzq := zero_port
            clear hnq0
            clear hkc
            clear d0 d73 d74 d75 d76 d77 d82 d83 d84 d85 hro
            go_upto_region 17 with (first
              | fail
              | ((with_reducible refine at_load 51 ?_); refine wpList_load_mid rfl 51 _ rfl gx (k * 89) rfl pq _ hrq.out Try.underlying51 rfl hiq.out ?_)
              | ((with_reducible refine at_store 51 ?_); refine wpList_store_new3 rfl rfl 51 _ _ _ rfl PZ pq.toArray _ rfl ?_ rfl hjq.out hsqz.out (by rw [Array.all_toList]; exact hoq.out) ?_; · rfl
                 intro wfq hwf
                 have hY := HXr.out.alloc (.cells pq.toArray 51)
                 rw [← hwf] at hY
                 have hE0 : Ext wr wfq := by rw [hwf]; exact (Ext.refl _).alloc _
                 have E8 := EL.trans hE0
                 have hbx := heap_alloc_new wr (.cells pq.toArray 51)
                 rw [← hwf] at hbx
                 have hxb := Lib.hid HXr.out.lt.1
                 obtain ⟨fq, hfb⟩ : ∃ n, wr.heap.size = n := ⟨_, rfl⟩
                 rw [hfb] at hbx hxb ⊢
                 have HFq := Lib.hid hbx
                 have HGq := hxb
                 have H8x := Lib.hid hY
                 clear hwf hY hbx hxb hfb hE0 EL hzq))
            have qq0 : wfq.cell? ⟨fq, 0, none⟩ = some (.int .u16 (B.gi k 0)) := by rw [cell_of_row _ _ _ _ _ _ HFq.out]; simpa using cq0
            have qq73 : wfq.cell? ⟨fq, 73, none⟩ = some (.int .u64 (B.hi 0)) := by rw [cell_of_row _ _ _ _ _ _ HFq.out]; simpa using cq73
            have qq74 : wfq.cell? ⟨fq, 74, none⟩ = some (.int .u32 0) := by rw [cell_of_row _ _ _ _ _ _ HFq.out]; simpa using cq74
            have qq75 : wfq.cell? ⟨fq, 75, none⟩ = some (.int .u64 (B.hi 0)) := by rw [cell_of_row _ _ _ _ _ _ HFq.out]; simpa using cq75
            have qq76 : wfq.cell? ⟨fq, 76, none⟩ = some (.int .u16 (B.gi k 0)) := by rw [cell_of_row _ _ _ _ _ _ HFq.out]; simpa using cq76
            have qq77 : wfq.cell? ⟨fq, 77, none⟩ = some (.int .u16 0) := by rw [cell_of_row _ _ _ _ _ _ HFq.out]; simpa using cq77
            have qq82 : wfq.cell? ⟨fq, 82, none⟩ = some (.int .i64 (B.hi 2)) := by rw [cell_of_row _ _ _ _ _ _ HFq.out]; simpa using cq82
            have qq83 : wfq.cell? ⟨fq, 83, none⟩ = some (.int .i64 (B.hi 3)) := by rw [cell_of_row _ _ _ _ _ _ HFq.out]; simpa using cq83
            have qq84 : wfq.cell? ⟨fq, 84, none⟩ = some (.int .i64 (B.hi 4)) := by rw [cell_of_row _ _ _ _ _ _ HFq.out]; simpa using cq84
            have qq85 : wfq.cell? ⟨fq, 85, none⟩ = some (.int .i64 (B.hi 5)) := by rw [cell_of_row _ _ _ _ _ _ HFq.out]; simpa using cq85
            have qq86 : wfq.cell? ⟨fq, 86, none⟩ = some (.int .i64 (Y.gi k 86)) := by rw [cell_of_row _ _ _ _ _ _ HFq.out]; simpa using cq86
            have qq88 : wfq.cell? ⟨fq, 88, none⟩ = some (.int .i64 4) := by rw [cell_of_row _ _ _ _ _ _ HFq.out]; simpa using cq88
            have RRq73 := Lib.hid (show wfq.rangeAt fq 73 [Value.int .u64 (B.hi 0), Value.int .u32 0, Value.int .u64 (B.hi 0), Value.int .u16 (B.gi k 0), Value.int .u16 0] from (range_cons qq73 (range_cons qq74 (range_cons qq75 (range_cons qq76 (range_cons qq77 range_nil))))))
            have RRq82 := Lib.hid (show wfq.rangeAt fq 82 [Value.int .i64 (B.hi 2), Value.int .i64 (B.hi 3), Value.int .i64 (B.hi 4), Value.int .i64 (B.hi 5)] from (range_cons qq82 (range_cons qq83 (range_cons qq84 (range_cons qq85 range_nil)))))
            have hXv := Nat.lt_of_lt_of_le hXl0 E8.size
            have hbxv := Nat.lt_of_lt_of_le hbxl E8.size
            have b0 := (E8.cell (p := ⟨bx, 0, none⟩) hbxl).trans B0c.out
            have RBv := Lib.hid (rangeAt_ext RBT.out E8 hbxl)
            go_wp2_with (first
              | fail
              | ((with_reducible refine at_loadG 28 ?_); refine wpList_load_midG rfl 28 _ rfl fq 73 rfl [Value.int .u64 (B.hi 0), Value.int .u32 0, Value.int .u64 (B.hi 0), Value.int .u16 (B.gi k 0), Value.int .u16 0] _ RRq73.out Try.underlying28 rfl (by exact size_vec) ?_)
              | ((with_reducible refine at_loadG 24 ?_); refine wpList_load_midG rfl 24 _ rfl fq 82 rfl [Value.int .i64 (B.hi 2), Value.int .i64 (B.hi 3), Value.int .i64 (B.hi 4), Value.int .i64 (B.hi 5)] _ RRq82.out Try.underlying24 rfl (by exact size_times) ?_)
              | ((with_reducible refine at_loadG 24 ?_); refine wpList_load_midG rfl 24 _ rfl bx 2 rfl [.int .i64 (B.hi 2), .int .i64 (B.hi 3), .int .i64 (B.hi 4), .int .i64 (B.hi 5)] _ RBv.out Try.underlying24 rfl (by exact size_times) ?_))
            go_roundw
            case rel => exact ⟨k + 1, by omega, by go_num, E8⟩
            case measure => simp [intOf]; omega
        · obtain rfl : k = B.np := by omega
          obtain ⟨hXl, hgl, hne⟩ := HXr.out.lt
          obtain ⟨cap, c17, hca, hcb⟩ := HXr.out.cell17 HSO.out.ok
          rw [show (Y).np = B.np from (HSO.out.np.trans hnp)] at c17 hca
          have hfr := HXr.out.frozen
          have x12 := (EL.cell (p := ⟨X, 12, none⟩) hXl0).trans X12.out
          have b0 := (EL.cell (p := ⟨bx, 0, none⟩) hbxl).trans B0c.out
          have RXv := Lib.hid (rangeAt_ext RXV.out EL hXl0)
          go_wp2_with (first
            | fail
            | ((with_reducible refine at_loadG 28 ?_); refine wpList_load_midG rfl 28 _ rfl X 7 rfl [.int .u64 (B.hi 0), .int .u32 0, .int .u64 (B.hi 0), .int .u16 0, .int .u16 0] _ RXv.out Try.underlying28 rfl (by exact size_vec) ?_))
          all_goals
            go_ret
            exact ⟨rfl, HE0.out.trans (E6.trans EL)⟩

end Go.Proofs.Ythfoacgdkoijeaa
