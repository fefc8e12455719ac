/- The walk of TransBlocks. No statement is proved here. -/
import Derived.Test.YtnblchilgaimhaaTrU
namespace Go.Proofs.Ytnblchilgaimhaa
open Go.RowKit Go.BigFrame Go.WideShapes Go.ChangeShapes Go.Deep
set_option linter.unusedVariables false
set_option linter.unusedSimpArgs false

set_option maxRecDepth 100000 in
set_option maxHeartbeats 2000000 in
theorem law_TransBlocks {w : World} (c : Array Value) (B : Br) (hb : BrC w c B) (ho : B.ok) (i : Int) (hi : 0 ≤ i ∧ i < 256) (j : Int) (hj : 0 ≤ j ∧ j < 256) :
    Calls Try.prog 10 #[.agg c, .int .u8 i, .int .u8 j] w fun e w' => e = .returned (.bool true) ∧ Ext w w' := by
  have hz0 : c.size = 20 := by
    obtain ⟨_, _, _, h, _⟩ := hb.facts ho.hd.1
    exact h
  have hi20 := Lib.hid (show (Try.prog.info? 33).map (·.size) = some c.size by rw [hz0]; exact size_br)
  have HCZ := Lib.hid hz0
  have hE00 : Ext w (w.alloc (.cells c 33)) := ((Ext.refl w).alloc _)
  have hL00 : (w.alloc (.cells c 33)).heap[w.heap.size]? = some (.cells c 33 (0, 0)) := heap_alloc_new _ _
  have hS00 : w.heap.size < (w.alloc (.cells c 33)).heap.size := heap_lt hL00
  have hB00 := hb.ext hE00
  clear hz0
  have HP := Lib.hid hb
  clear hb
  have HhE00 := Lib.hid hE00
  have HhL00 := Lib.hid hL00
  have HhS00 := Lib.hid hS00
  have HhB00 := Lib.hid hB00
  clear hE00 hL00 hS00 hB00
  go_enter Try.func10, Try.ntmps10
  go_wp2_with fail
  have hE00 := HhE00.out
  clear HhE00
  have hL00 := HhL00.out
  clear HhL00
  have hS00 := HhS00.out
  clear HhS00
  have hB00 := HhB00.out
  clear HhB00
  generalize (w.alloc (.cells c 33)) = W0 at *
  obtain ⟨bx, hq⟩ : ∃ n, w.heap.size = n := ⟨_, rfl⟩
  rw [hq] at hL00 hS00 ⊢
  have HE0 := Lib.hid hE00
  have HL0 := Lib.hid hL00
  have HB0 := Lib.hid hB00
  have HS0 := Lib.hid hS00
  have HWB := Lib.hid hq
  clear hE00 hL00 hB00 hS00 hq
  refine (trw_awake _).mono ?_
  rintro e v1 ⟨rfl, E1⟩
  go_wp2_with (first | fail | ((with_reducible refine at_load 33 ?_); refine wpList_load_row rfl 33 _ rfl bx rfl 33 c (0, 0) _ ((E1.block _ HS0.out).trans HL0.out) Try.underlying33 rfl hi20.out ?_))
  refine (few_any c B _ (HB0.out.ext E1) ho).mono ?_
  rintro e v2 ⟨f, rfl, hx2, hf⟩
  have E2 := Ext.trans E1 hx2
  clear E1 hx2
  cases f
  · go_wp2_with fail
    go_ret
    exact ⟨rfl, HE0.out.trans E2⟩
  have hfew := Lib.hid (hf.1 rfl)
  clear hf
  have hn1 := hfew.out.2.1
  have HN := Lib.hid (show B.np ≤ 1000 ∧ B.no ≤ 1000 ∧ B.nf ≤ 1000 by have := hfew.out; omega)
  have hn8 : B.np < 1000 := by have := hfew.out; omega
  go_wp2_with (first
    | fail
    | ((with_reducible refine at_load 33 ?_); refine wpList_load_row rfl 33 _ rfl bx rfl 33 c (0, 0) _ ((E2.block _ HS0.out).trans HL0.out) Try.underlying33 rfl hi20.out ?_))
  refine (at_any c B i _ (HB0.out.ext E2) ho hi hn1).mono ?_
  rintro e v3 ⟨rfl, hx⟩
  have E3 := Ext.trans E2 hx
  clear E2 hx
  obtain ⟨k, hk0⟩ : ∃ k, i.toNat % B.np = k := ⟨_, rfl⟩
  have hk : k < B.np := by rw [← hk0]; exact Nat.mod_lt _ hn1
  have hk8 : k < 1000 := by omega
  rw [hk0]
  clear hk0
  have h89 := Lib.hid (len89 ho hk)
  go_wp2_with (first
    | fail
    | ((with_reducible refine at_load 33 ?_); refine wpList_load_row rfl 33 _ rfl bx rfl 33 c (0, 0) _ ((E3.block _ HS0.out).trans HL0.out) Try.underlying33 rfl hi20.out ?_))
  refine (clone_any c B _ (HB0.out.ext E3) ho HN.out).mono ?_
  rintro e u4 ⟨cx, rfl, hO, hx⟩
  have Eu := Ext.trans E3 hx
  have hcxz := Lib.hid (size_z20.trans (hO.size ho).symm)
  have hcxo := Lib.hid (hO.one ho)
  have hcxi := Lib.hid (show (Try.prog.info? 33).map (·.size) = some cx.size by rw [hO.size ho]; exact size_br)
  obtain ⟨gx, hM⟩ := hO.made hx.size hn1
  obtain ⟨Nx, hN0, hsz⟩ := nameLe hx.size
  have hNE : W0.heap.size ≤ Nx := by
    rw [← hN0]
    exact E3.size
  rw [hN0] at hM
  have HMK := Lib.hid (show ∀ wx : World, wx = u4.alloc (.cells cx 33) → BrG wx (fun n => Nx ≤ n ∧ n < u4.heap.size + 1) u4.heap.size gx B ∧ Ext W0 wx from by
    rintro _ rfl
    exact ⟨hM, Eu.alloc _⟩)
  clear hM hO hx Eu hN0 E3
  obtain ⟨X, hX0⟩ : ∃ n, u4.heap.size = n := ⟨_, rfl⟩
  have HX0 := Lib.hid hX0
  rw [hX0] at HMK hsz
  have hsx := Lib.hid (show Nx ≤ X ∧ W0.heap.size ≤ Nx from ⟨hsz, hNE⟩)
  clear hsz hNE hX0
  have hr3 : j % 3 = 0 ∨ j % 3 = 1 ∨ j % 3 = 2 := by omega
  have hrw : (Lit.int .i64 (j % 3)).wf = true := by rcases hr3 with h | h | h <;> rw [h] <;> decide
  have HR3 := Lib.hid hr3
  clear hr3
  go_wp2_with (first
    | fail
    | ((with_reducible refine at_store 33 ?_); refine wpList_store_new3 rfl rfl 33 _ _ _ rfl _ cx _ rfl ?_ rfl hcxi.out hcxz.out hcxo.out ?_; · rfl
       intro wx hwx
       have hmk := HMK.out wx hwx
       obtain ⟨hBx, E5⟩ := hmk
       have H5x := Lib.hid hBx
       rw [HX0.out]
       clear hwx hBx HMK HX0 hcxz hcxo hcxi
       obtain ⟨hXl, hgl, hne⟩ := H5x.out.lt
       obtain ⟨cap, c17, hca, hcb⟩ := H5x.out.cell17 ho
       have hfr := H5x.out.frozen
       have p44 := (H5x.out.cellg (i := k * 89 + 44) (lt89 (N := (B).np) hk (by decide))).trans (Br.ok.gb ho (k := k) hk 44 rfl)
       have p50 := (H5x.out.cellg (i := k * 89 + 50) (lt89 (N := (B).np) hk (by decide))).trans (Br.ok.gb ho (k := k) hk 50 rfl)
       have p88 := (H5x.out.cellg (i := k * 89 + 88) (lt89 (N := (B).np) hk (by decide))).trans (Br.ok.gi ho (k := k) hk 88 rfl)
       have p87 := (H5x.out.cellg (i := k * 89 + 87) (lt89 (N := (B).np) hk (by decide))).trans (Br.ok.gi ho (k := k) hk 87 rfl)
       have p29 := (H5x.out.cellg (i := k * 89 + 29) (lt89 (N := (B).np) hk (by decide))).trans (Br.ok.gb ho (k := k) hk 29 rfl)
       have p27 := (H5x.out.cellg (i := k * 89 + 27) (lt89 (N := (B).np) hk (by decide))).trans (Br.ok.gb ho (k := k) hk 27 rfl)))
  have HZ6 := Lib.hid (show BrG _ (fun n => Nx ≤ n ∧ n < X + 1) X gx (bl0 B k (j % 3)) from ((((((H5x.out.setp (k := k) (j := 44) hk (by decide) (.bool true)).setp (k := k) (j := 50) hk (by decide) (.bool false)).setp (k := k) (j := 88) hk (by decide) (.int .i64 (j % 3))).setp (k := k) (j := 87) hk (by decide) (.int .i64 4)).setp (k := k) (j := 29) hk (by decide) (.bool false)).setp (k := k) (j := 27) hk (by decide) (.bool false)))
  have okz6 : Br.ok (bl0 B k (j % 3)) := bl0_ok ho hk hrw
  have hmz := (((((((Mut.refl (fun n => Nx ≤ n ∧ n < X + 1) wx).setCell (p := ⟨gx, k * 89 + 44, none⟩) (.inl H5x.out.F2) (.bool true)).setCell (p := ⟨gx, k * 89 + 50, none⟩) (.inl H5x.out.F2) (.bool false)).setCell (p := ⟨gx, k * 89 + 88, none⟩) (.inl H5x.out.F2) (.int .i64 (j % 3))).setCell (p := ⟨gx, k * 89 + 87, none⟩) (.inl H5x.out.F2) (.int .i64 4)).setCell (p := ⟨gx, k * 89 + 29, none⟩) (.inl H5x.out.F2) (.bool false)).setCell (p := ⟨gx, k * 89 + 27, none⟩) (.inl H5x.out.F2) (.bool false))
  have EZ6 := Ext.mutE E5 hmz (fun n hn h1 => by have := h1.1; have := hsx.out; omega)
  clear E5
  have HMZ := Lib.hid hmz
  clear hmz
  clear c17 hfr p44 p50 p88 p87 p29 p27
  have hk0 : k < Br.np (bl0 B k (j % 3)) := by rw [bl0_np]; exact hk
  have h40 : 0 ≤ Br.hi (bl0 B k (j % 3)) 4 ∧ Br.hi (bl0 B k (j % 3)) 4 ≤ 1000 := by rw [bl0_hi]; exact few_hi4 hfew.out.1
  have HOK := Lib.hid okz6
  clear okz6
  go_loopw [12] (fun i wr => ∃ n : Nat, n ≤ 8 ∧ i = .int .i64 n ∧ BrG wr (fun n => Nx ≤ n ∧ n < X + 1) X gx (trIt (bl0 B k (j % 3)) k n) ∧ Ext W0 wr) (fun i _ => 8 - (intOf i).toNat)
  case atStart => exact ⟨0, by omega, rfl, HZ6.out, EZ6⟩
  case round =>
    clear EZ6 HZ6
    obtain ⟨n, hn, rfl, hB, E7⟩ := hrel
    have H7x := Lib.hid hB
    clear hB
    obtain ⟨i1, i2, i3⟩ := trIt_inv HOK.out hk0 h40 n
    rw [bl0_np] at i2
    have hkn : k < (trIt (bl0 B k (j % 3)) k n).np := by rw [i2]; exact hk
    by_cases hlt : n < 8
    · go_wp2_with fail
      refine (tr_stepL _ Nx X gx k (trIt (bl0 B k (j % 3)) k n) H7x.out i1 hkn (by rw [i2]; exact hn8) i3).mono ?_
      rintro e v8 ⟨he, hB, hm⟩
      obtain rfl : e = .returned (.bool (trF (trIt (bl0 B k (j % 3)) k n) k).1) := he
      have E8 := Ext.mutE E7 hm (fun n hn h1 => by have := h1.1; have := hsx.out; omega)
      clear E7
      have HB := Lib.hid (show BrG _ (fun n => Nx ≤ n ∧ n < X + 1) X gx (trIt (bl0 B k (j % 3)) k (n + 1)) from hB)
      clear hB hm
      have hA := bl_any ho hk (few_hi4 hfew.out.1) HR3.out n
      obtain ⟨j1, j2, j3⟩ := trIt_inv HOK.out hk0 h40 (n + 1)
      rw [bl0_np] at j2
      have hks : k < (trIt (bl0 B k (j % 3)) k (n + 1)).np := by rw [j2]; exact hk
      have a87 := hA.c87
      have a28 := hA.c28
      have a26 := hA.c26
      clear hA i1 i2 i3 hkn
      obtain ⟨Y, hY⟩ : ∃ Y, trIt (bl0 B k (j % 3)) k (n + 1) = Y := ⟨_, rfl⟩
      rw [hY] at HB j1 j2 j3 hks a87 a28 a26
      have HY := Lib.hid hY
      clear hY
      obtain ⟨hXl, hgl, hne⟩ := HB.out.lt
      obtain ⟨cap, c17, hca, hcb⟩ := HB.out.cell17 j1
      rw [show (Y).np = B.np from j2] at c17 hca
      have hfr := HB.out.frozen
      have hqr0 := HB.out.range (k := k) hks
      have hqt := port_typed j1 (i := k) hks
      have c87q := (port_at (B := Y) (k := k) (j := 87) (by decide)).trans (Br.ok.gi j1 (k := k) hks 87 rfl)
      rw [a87] at c87q
      have c28q := (port_at (B := Y) (k := k) (j := 28) (by decide)).trans (Br.ok.gb j1 (k := k) hks 28 rfl)
      rw [a28] at c28q
      have c26q := (port_at (B := Y) (k := k) (j := 26) (by decide)).trans (Br.ok.gb j1 (k := k) hks 26 rfl)
      rw [a26] at c26q
      obtain ⟨pq, hpq⟩ : ∃ p, port (Y).ps k = p := ⟨_, rfl⟩
      rw [hpq] at hqr0 hqt c87q c28q c26q
      clear hpq
      have hqr := Lib.hid hqr0
      have hqi := Lib.hid (show (Try.prog.info? 53).map (·.size) = some pq.length by rw [hqt.1]; exact size_port)
      have hqi2 := Lib.hid (show (Try.prog.info? 53).map (·.size) = some pq.toArray.size by rw [List.size_toArray]; exact hqi.out)
      have hqs := Lib.hid (show PZ.size = pq.toArray.size by rw [size_PZ, List.size_toArray]; exact hqt.1.symm)
      have hqo := Lib.hid (all_oneCell_toArray hqt.one)
      have hqzq := zero_port
      clear hqr0 hqt
      clear a87 a28 a26
      go_wp2_with (first
        | fail
        | ((with_reducible refine at_load 53 ?_); refine wpList_load_mid rfl 53 _ rfl gx (k * 89) rfl pq _ hqr.out Try.underlying53 rfl hqi.out ?_) | ((with_reducible refine at_store 53 ?_); refine wpList_store_new2 rfl rfl 53 _ _ _ rfl PZ pq.toArray _ rfl ?_ rfl hqi2.out hqs.out (by rw [Array.all_toList]; exact hqo.out) ?_; · simp))
      go_roundw
      case rel =>
        refine ⟨n + 1, by omega, by go_num, ?_, E8.alloc _⟩
        rw [HY.out]
        exact HB.out.alloc _
      case measure => simp [intOf]; omega
    · obtain rfl : n = 8 := by omega
      have h8 : Bl2 (trIt (bl0 B k (j % 3)) k 8) k (j % 3) := bl_all ho hk (few_hi4 hfew.out.1) HR3.out 6
      obtain ⟨Y, hY⟩ : ∃ Y, trIt (bl0 B k (j % 3)) k 8 = Y := ⟨_, rfl⟩
      rw [hY] at H7x i1 i2 i3 hkn h8
      clear hY
      obtain ⟨-, a47, a42, a12, -⟩ := h8
      obtain ⟨hXl, hgl, hne⟩ := H7x.out.lt
      obtain ⟨cap, c17, hca, hcb⟩ := H7x.out.cell17 i1
      rw [show (Y).np = B.np from i2] at c17 hca
      have hfr := H7x.out.frozen
      have hqr0 := H7x.out.range (k := k) hkn
      have hqt := port_typed i1 (i := k) hkn
      have c47q := (port_at (B := Y) (k := k) (j := 47) (by decide)).trans (Br.ok.gb i1 (k := k) hkn 47 rfl)
      rw [a47] at c47q
      have c42q := (port_at (B := Y) (k := k) (j := 42) (by decide)).trans (Br.ok.gb i1 (k := k) hkn 42 rfl)
      rw [a42] at c42q
      have c12q := (port_at (B := Y) (k := k) (j := 12) (by decide)).trans (Br.ok.gi i1 (k := k) hkn 12 rfl)
      rw [a12] at c12q
      obtain ⟨pq, hpq⟩ : ∃ p, port (Y).ps k = p := ⟨_, rfl⟩
      rw [hpq] at hqr0 hqt c47q c42q c12q
      clear hpq
      have hqr := Lib.hid hqr0
      have hqi := Lib.hid (show (Try.prog.info? 53).map (·.size) = some pq.length by rw [hqt.1]; exact size_port)
      have hqi2 := Lib.hid (show (Try.prog.info? 53).map (·.size) = some pq.toArray.size by rw [List.size_toArray]; exact hqi.out)
      have hqs := Lib.hid (show PZ.size = pq.toArray.size by rw [size_PZ, List.size_toArray]; exact hqt.1.symm)
      have hqo := Lib.hid (all_oneCell_toArray hqt.one)
      have hqzq := zero_port
      clear hqr0 hqt
      clear a47 a42 a12
      go_wp2_with (first
        | fail
        | ((with_reducible refine at_load 53 ?_); refine wpList_load_mid rfl 53 _ rfl gx (k * 89) rfl pq _ hqr.out Try.underlying53 rfl hqi.out ?_) | ((with_reducible refine at_store 53 ?_); refine wpList_store_new2 rfl rfl 53 _ _ _ rfl PZ pq.toArray _ rfl ?_ rfl hqi2.out hqs.out (by rw [Array.all_toList]; exact hqo.out) ?_; · simp))
      all_goals
        go_ret
        exact ⟨rfl, HE0.out.trans (E7.alloc _)⟩

end Go.Proofs.Ytnblchilgaimhaa
