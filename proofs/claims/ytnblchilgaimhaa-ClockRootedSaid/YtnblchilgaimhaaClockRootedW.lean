/- The walk of ClockRooted. No statement is proved here. -/
import Derived.Test.YtnblchilgaimhaaClkN
namespace Go.Proofs.Ytnblchilgaimhaa
open Go.RowKit Go.BigFrame Go.WideShapes Go.ChangeShapes Go.Deep
set_option linter.unusedVariables false

set_option maxRecDepth 100000 in
set_option maxHeartbeats 2000000 in
theorem law_ClockRooted {w : World} (c : Array Value) (B : Br) (hb : BrC w c B) (ho : B.ok) (i : Int) (hi : 0 ≤ i ∧ i < 256) (i2 : Int) (hi2 : 0 ≤ i2 ∧ i2 < 256) :
    Calls Try.prog 6 #[.agg c, .int .u8 i, .int .u8 i2] w fun e w' => e = .returned (.bool true) ∧ Ext w w' := by
  have hz0 : c.size = 20 := by
    obtain ⟨_, _, _, h, _⟩ := hb.facts ho.hd.1
    exact h
  have hi20 := Lib.hid (show (Try.prog.info? 33).map (·.size) = some c.size by rw [hz0]; exact size_br)
  have HCZ := Lib.hid hz0
  have hE00 : Ext w (w.alloc (.cells c 33)) := ((Ext.refl w).alloc _)
  have hL00 : (w.alloc (.cells c 33)).heap[w.heap.size]? = some (.cells c 33 (0, 0)) := heap_alloc_new _ _
  have hS00 : w.heap.size < (w.alloc (.cells c 33)).heap.size := heap_lt hL00
  have hB00 := hb.ext hE00
  clear hz0
  have HP := Lib.hid hb
  clear hb
  have HhE00 := Lib.hid hE00
  have HhL00 := Lib.hid hL00
  have HhS00 := Lib.hid hS00
  have HhB00 := Lib.hid hB00
  clear hE00 hL00 hS00 hB00
  go_enter Try.func6, Try.ntmps6
  go_wp2_with fail
  have hE00 := HhE00.out
  clear HhE00
  have hL00 := HhL00.out
  clear HhL00
  have hS00 := HhS00.out
  clear HhS00
  have hB00 := HhB00.out
  clear HhB00
  generalize (w.alloc (.cells c 33)) = W0 at *
  obtain ⟨bx, hq⟩ : ∃ n, w.heap.size = n := ⟨_, rfl⟩
  rw [hq] at hL00 hS00 ⊢
  have HE0 := Lib.hid hE00
  have HL0 := Lib.hid hL00
  have HB0 := Lib.hid hB00
  have HS0 := Lib.hid hS00
  have HWB := Lib.hid hq
  clear hE00 hL00 hB00 hS00 hq
  refine (ckw_awake _).mono ?_
  rintro e v1 ⟨rfl, E1⟩
  go_wp2_with (first | fail | ((with_reducible refine at_load 33 ?_); refine wpList_load_row rfl 33 _ rfl bx rfl 33 c (0, 0) _ ((E1.block _ HS0.out).trans HL0.out) Try.underlying33 rfl hi20.out ?_))
  refine (few_any c B _ (HB0.out.ext E1) ho).mono ?_
  rintro e v2 ⟨f, rfl, hx2, hf⟩
  have E2 := Ext.trans E1 hx2
  clear E1 hx2
  cases f
  · go_wp2_with fail
    go_ret
    exact ⟨rfl, HE0.out.trans E2⟩
  have hfew := Lib.hid (hf.1 rfl)
  clear hf
  have hn1 := hfew.out.2.1
  have HN := Lib.hid (show B.np ≤ 1000 ∧ B.no ≤ 1000 ∧ B.nf ≤ 1000 by have := hfew.out; omega)
  have hn8 : B.np < 1000 := by have := hfew.out; omega
  go_wp2_with (first
    | fail
    | ((with_reducible refine at_load 33 ?_); refine wpList_load_row rfl 33 _ rfl bx rfl 33 c (0, 0) _ ((E2.block _ HS0.out).trans HL0.out) Try.underlying33 rfl hi20.out ?_))
  refine (clone_any c B _ (HB0.out.ext E2) ho HN.out).mono ?_
  rintro e u3 ⟨cx, rfl, hO, hx⟩
  have Eu := Ext.trans E2 hx
  have hcxz := Lib.hid (size_z20.trans (hO.size ho).symm)
  have hcxo := Lib.hid (hO.one ho)
  have hcxi := Lib.hid (show (Try.prog.info? 33).map (·.size) = some cx.size by rw [hO.size ho]; exact size_br)
  obtain ⟨gx, hM⟩ := hO.made hx.size hn1
  obtain ⟨Nx, hN0, hsz⟩ := nameLe hx.size
  have hNE : W0.heap.size ≤ Nx := by
    rw [← hN0]
    exact E2.size
  rw [hN0] at hM
  have HMK := Lib.hid (show ∀ wx : World, wx = u3.alloc (.cells cx 33) → BrG wx (fun n => Nx ≤ n ∧ n < u3.heap.size + 1) u3.heap.size gx B ∧ Ext W0 wx from by
    rintro _ rfl
    exact ⟨hM, Eu.alloc _⟩)
  clear hM hO hx Eu hN0 E2
  obtain ⟨X, hX0⟩ : ∃ n, u3.heap.size = n := ⟨_, rfl⟩
  have HX0 := Lib.hid hX0
  rw [hX0] at HMK hsz
  have hsx := Lib.hid (show Nx ≤ X ∧ W0.heap.size ≤ Nx from ⟨hsz, hNE⟩)
  clear hsz hNE hX0
  go_wp2_with (first
    | fail
    | ((with_reducible refine at_store 33 ?_); refine wpList_store_new3 rfl rfl 33 _ _ _ rfl _ cx _ rfl ?_ rfl hcxi.out hcxz.out hcxo.out ?_; · rfl
       intro wx hwx
       have hmk := HMK.out wx hwx
       obtain ⟨hBx, E4⟩ := hmk
       have H4x := Lib.hid hBx
       rw [HX0.out]
       clear hwx hBx HMK HX0 hcxz hcxo hcxi))
  go_loopw [10] (fun i wr => ∃ n : Nat, n ≤ B.np ∧ i = .int .i64 n ∧ BrG wr (fun n => Nx ≤ n ∧ n < X + 1) X gx (rr0 B n) ∧ Ext W0 wr) (fun i _ => B.np - (intOf i).toNat)
  case atStart => exact ⟨0, by omega, rfl, H4x.out, E4⟩
  case round =>
    clear E4 H4x
    obtain ⟨n, hn, rfl, hB, E5⟩ := hrel
    have H5 := Lib.hid hB
    clear hB
    have okn : Br.ok (rr0 B n) := rr0_ok ho n hn
    have hnp : ((rr0 B n)).np = B.np := rr0_np B n
    by_cases hlt : n < B.np
    · have hkn : n < ((rr0 B n)).np := by rw [hnp]; exact hlt
      obtain ⟨hXl, hgl, hne⟩ := H5.out.lt
      obtain ⟨cap, c17, hca, hcb⟩ := H5.out.cell17 okn
      rw [show ((rr0 B n)).np = B.np from hnp] at c17 hca
      have hfr := H5.out.frozen
      have p12 := (H5.out.cellg (i := n * 89 + 12) (lt89 (N := ((rr0 B n)).np) hkn (by decide))).trans (Br.ok.gi okn (k := n) hkn 12 rfl)
      go_wp2_with fail
      go_roundw
      case rel =>
        refine ⟨n + 1, by omega, by go_num, H5.out.setp (k := n) (j := 12) hkn (by decide) _, ?_⟩
        exact Ext.mutE E5 ((Mut.refl (fun n => Nx ≤ n ∧ n < X + 1) wr).setCell (p := ⟨gx, n * 89 + 12, none⟩) (.inl H5.out.F2) _) (fun n hn h1 => by have := h1.1; have := hsx.out; omega)
      case measure => simp [intOf]; omega
    · obtain rfl : n = B.np := by omega
      obtain ⟨Z, hZ⟩ : ∃ Z, (rr0 B B.np) = Z := ⟨_, rfl⟩
      rw [hZ] at H5 okn hnp
      obtain ⟨hXlt, hglt, hnet⟩ := H5.out.lt
      obtain ⟨capt, c17t, hcat, hcbt⟩ := H5.out.cell17 okn
      rw [show (Z).np = B.np from hnp] at c17t hcat
      have hfrt := H5.out.frozen
      have HZ := Lib.hid (show ∀ k, k < Z.np → Z.gi k 12 = 0 from fun k hk => by rw [← hZ]; exact rr0_12 ho (by rw [← hnp]; exact hk))
      clear hZ
      go_wp2_with (first
        | fail
        | ((with_reducible refine at_load 33 ?_); refine wpList_load_row rfl 33 _ rfl bx rfl 33 c (0, 0) _ ((E5.block _ HS0.out).trans HL0.out) Try.underlying33 rfl hi20.out ?_))
      refine (at_any c B i _ (HB0.out.ext E5) ho hi hn1).mono ?_
      rintro e v6 ⟨rfl, hx⟩
      have E6 := Ext.trans E5 hx
      have H6x := Lib.hid (H5.out.ext hx)
      clear E5 hx
      obtain ⟨k, hk0⟩ : ∃ k, i.toNat % B.np = k := ⟨_, rfl⟩
      have hk : k < B.np := by rw [← hk0]; exact Nat.mod_lt _ hn1
      have hk8 : k < 1000 := by omega
      rw [hk0]
      clear hk0
      have h89 := Lib.hid (len89 ho hk)
      go_wp2_with (first
        | fail
        | ((with_reducible refine at_load 33 ?_); refine wpList_load_row rfl 33 _ rfl bx rfl 33 c (0, 0) _ ((E6.block _ HS0.out).trans HL0.out) Try.underlying33 rfl hi20.out ?_))
      refine (at_any c B i2 _ (HB0.out.ext E6) ho hi2 hn1).mono ?_
      rintro e v7 ⟨rfl, hx⟩
      have E7 := Ext.trans E6 hx
      have H7x := Lib.hid (H6x.out.ext hx)
      clear E6 hx
      obtain ⟨k2, hk0⟩ : ∃ k, i2.toNat % B.np = k := ⟨_, rfl⟩
      have hk2 : k2 < B.np := by rw [← hk0]; exact Nat.mod_lt _ hn1
      have hk28 : k2 < 1000 := by omega
      rw [hk0]
      clear hk0
      obtain ⟨C8, hC, hCb, hCz⟩ := H7x.out.br (show 0 < (Z).np by rw [show (Z).np = B.np from hnp]; exact hn1)
      have HCi8 := Lib.hid (show (Try.prog.info? 33).map (·.size) = some C8.size by rw [hCz, Br.ok.hd okn |>.1]; exact size_br)
      have HC8 := Lib.hid hC
      have HCb8 := Lib.hid hCb
      have HCn8 := Lib.hid (show C8.size = 20 by rw [hCz, Br.ok.hd okn |>.1]; rfl)
      clear hC hCb hCz
      have hkZ : k < Z.np := by rw [hnp]; exact hk
      have hk2Z : k2 < Z.np := by rw [hnp]; exact hk2
      go_wp2_with (first
        | fail
        | ((with_reducible refine at_load 33 ?_); refine wpList_load_row rfl 33 _ rfl X rfl 33 C8 (0, 0) _ HC8.out Try.underlying33 rfl HCi8.out ?_))
      refine (rerooted_any C8 Z k _ HCb8.out okn).mono ?_
      rintro e v9 ⟨f, rfl, hx, hf⟩
      obtain rfl := hf.2 (fun n hn _ => HZ.out n hn)
      clear hf
      have E9 := Ext.trans E7 hx
      have H9x := Lib.hid (H7x.out.ext hx)
      clear hx E7
      obtain ⟨hXl, hgl, hne⟩ := H9x.out.lt
      obtain ⟨cap, c17, hca, hcb⟩ := H9x.out.cell17 okn
      rw [show (Z).np = B.np from hnp] at c17 hca
      have hfr := H9x.out.frozen
      have p12 := (H9x.out.cellg (i := k2 * 89 + 12) (lt89 (N := (Z).np) hk2Z (by decide))).trans (Br.ok.gi okn (k := k2) hk2Z 12 rfl)
      have h89Z := Lib.hid (show k2 * 89 + 89 ≤ Z.ps.length from len89 okn hk2Z)
      have hother := Lib.hid (show ReR (Z.setp k2 12 (.int .i64 5)) k2 from fun n hn hne => by
        rw [gi_setp_port _ _ (by omega) (by decide) (by decide)]
        exact HZ.out n hn)
      have hsame := Lib.hid (show (Z.setp k2 12 (.int .i64 5)).gi k2 12 = 5 from gi_setp_same _ _ _ _ _ (by have := h89Z.out; omega))
      by_cases hkk : k = k2
      · have hkb : ((k : Int) == (k2 : Int)) = true := by rw [hkk]; simp
        have HK := Lib.hid hkk
        clear hkk
        go_wp2_with (first
          | fail
          | ((with_reducible refine at_loadG 33 ?_)
             have HZ10 := Lib.hid (show BrG _ (fun n => Nx ≤ n ∧ n < X + 1) X gx (Z.setp k2 12 (.int .i64 5)) from (H9x.out.setp (k := k2) (j := 12) hk2Z (by decide) (.int .i64 5)))
             have okz10 : Br.ok (Z.setp k2 12 (.int .i64 5)) := (okn.setI (k := k2) hk2Z 12 .i64 5 rfl (by decide))
             have hmz := ((Mut.refl (fun n => Nx ≤ n ∧ n < X + 1) v9).setCell (p := ⟨gx, k2 * 89 + 12, none⟩) (.inl H9x.out.F2) (.int .i64 5))
             have EZ10 := Ext.mutE E9 hmz (fun n hn h1 => by have := h1.1; have := hsx.out; omega)
             clear E9
             have HMZ := Lib.hid hmz
             clear hmz
             clear c17 hfr p12
             obtain ⟨C11, hC, hCb, hCz⟩ := HZ10.out.br (show 0 < ((Z.setp k2 12 (.int .i64 5))).np by rw [show ((Z.setp k2 12 (.int .i64 5))).np = B.np from (show (Z.setp k2 12 (.int .i64 5)).np = B.np from hnp)]; exact hn1)
             have HCi11 := Lib.hid (show (Try.prog.info? 33).map (·.size) = some C11.size by rw [hCz, Br.ok.hd okz10 |>.1]; exact size_br)
             have HC11 := Lib.hid hC
             have HCb11 := Lib.hid hCb
             have HCn11 := Lib.hid (show C11.size = 20 by rw [hCz, Br.ok.hd okz10 |>.1]; rfl)
             clear hC hCb hCz
             refine wpList_load_rowG rfl 33 _ rfl X rfl 33 C11 (0, 0) _ HC11.out Try.underlying33 rfl HCi11.out ?_))
        refine (rerooted_any C11 (Z.setp k2 12 (.int .i64 5)) k _ HCb11.out okz10).mono ?_
        rintro e v12 ⟨f, rfl, hx, hf⟩
        obtain rfl := hf.2 (by rw [HK.out]; exact hother.out)
        clear hf
        have E12 := Ext.trans EZ10 hx
        have HL2 := Lib.hid ((hx.block _ (heap_lt HC11.out)).trans HC11.out)
        have HLb2 := Lib.hid (HCb11.out.ext hx)
        clear hx EZ10
        go_wp2_with (first
          | fail
          | ((with_reducible refine at_loadG 33 ?_); refine wpList_load_rowG rfl 33 _ rfl X rfl 33 C11 (0, 0) _ HL2.out Try.underlying33 rfl HCi11.out ?_))
        refine (rerooted_any C11 (Z.setp k2 12 (.int .i64 5)) k2 _ HLb2.out okz10).mono ?_
        rintro e v13 ⟨f2, rfl, hx, hf⟩
        obtain rfl := hf.2 hother.out
        clear hf
        have E13 := Ext.trans E12 hx
        clear hx E12
        go_wp2_with fail
        all_goals
          go_ret
          exact ⟨rfl, HE0.out.trans E13⟩
      · have hkb : ((k : Int) == (k2 : Int)) = false := by
          have : (k : Int) ≠ (k2 : Int) := by omega
          simpa using this
        have HK := Lib.hid hkk
        clear hkk
        go_wp2_with (first
          | fail
          | ((with_reducible refine at_loadG 33 ?_)
             have HZ10 := Lib.hid (show BrG _ (fun n => Nx ≤ n ∧ n < X + 1) X gx (Z.setp k2 12 (.int .i64 5)) from (H9x.out.setp (k := k2) (j := 12) hk2Z (by decide) (.int .i64 5)))
             have okz10 : Br.ok (Z.setp k2 12 (.int .i64 5)) := (okn.setI (k := k2) hk2Z 12 .i64 5 rfl (by decide))
             have hmz := ((Mut.refl (fun n => Nx ≤ n ∧ n < X + 1) v9).setCell (p := ⟨gx, k2 * 89 + 12, none⟩) (.inl H9x.out.F2) (.int .i64 5))
             have EZ10 := Ext.mutE E9 hmz (fun n hn h1 => by have := h1.1; have := hsx.out; omega)
             clear E9
             have HMZ := Lib.hid hmz
             clear hmz
             clear c17 hfr p12
             obtain ⟨C11, hC, hCb, hCz⟩ := HZ10.out.br (show 0 < ((Z.setp k2 12 (.int .i64 5))).np by rw [show ((Z.setp k2 12 (.int .i64 5))).np = B.np from (show (Z.setp k2 12 (.int .i64 5)).np = B.np from hnp)]; exact hn1)
             have HCi11 := Lib.hid (show (Try.prog.info? 33).map (·.size) = some C11.size by rw [hCz, Br.ok.hd okz10 |>.1]; exact size_br)
             have HC11 := Lib.hid hC
             have HCb11 := Lib.hid hCb
             have HCn11 := Lib.hid (show C11.size = 20 by rw [hCz, Br.ok.hd okz10 |>.1]; rfl)
             clear hC hCb hCz
             refine wpList_load_rowG rfl 33 _ rfl X rfl 33 C11 (0, 0) _ HC11.out Try.underlying33 rfl HCi11.out ?_))
        refine (rerooted_any C11 (Z.setp k2 12 (.int .i64 5)) k _ HCb11.out okz10).mono ?_
        rintro e v14 ⟨f, rfl, hx, hf⟩
        obtain rfl : f = false := by
          cases f
          · rfl
          · have h5 := hf.1 rfl k2 hk2Z (by have := HK.out; omega)
            rw [hsame.out] at h5
            omega
        clear hf
        have E14 := Ext.trans EZ10 hx
        have HL2 := Lib.hid ((hx.block _ (heap_lt HC11.out)).trans HC11.out)
        have HLb2 := Lib.hid (HCb11.out.ext hx)
        clear hx EZ10
        go_wp2_with (first
          | fail
          | ((with_reducible refine at_loadG 33 ?_); refine wpList_load_rowG rfl 33 _ rfl X rfl 33 C11 (0, 0) _ HL2.out Try.underlying33 rfl HCi11.out ?_))
        refine (rerooted_any C11 (Z.setp k2 12 (.int .i64 5)) k2 _ HLb2.out okz10).mono ?_
        rintro e v15 ⟨f2, rfl, hx, hf⟩
        obtain rfl := hf.2 hother.out
        clear hf
        have E15 := Ext.trans E14 hx
        clear hx E14
        go_wp2_with fail
        all_goals
          go_ret
          exact ⟨rfl, HE0.out.trans E15⟩

end Go.Proofs.Ytnblchilgaimhaa
