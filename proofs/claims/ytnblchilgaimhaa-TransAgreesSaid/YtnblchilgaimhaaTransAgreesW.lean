/- The walk of TransAgrees. No statement is proved here. -/
import Derived.Test.YtnblchilgaimhaaTrU
namespace Go.Proofs.Ytnblchilgaimhaa
open Go.RowKit Go.BigFrame Go.WideShapes Go.ChangeShapes Go.Deep
set_option linter.unusedVariables false
set_option linter.unusedSimpArgs false

set_option maxRecDepth 100000 in
set_option maxHeartbeats 2000000 in
theorem law_TransAgrees {w : World} (c : Array Value) (B : Br) (hb : BrC w c B) (ho : B.ok) (i : Int) (hi : 0 ≤ i ∧ i < 256) :
    Calls Try.prog 12 #[.agg c, .int .u8 i] w fun e w' => e = .returned (.bool true) ∧ Ext w w' := by
  have hz0 : c.size = 20 := by
    obtain ⟨_, _, _, h, _⟩ := hb.facts ho.hd.1
    exact h
  have hi20 := Lib.hid (show (Try.prog.info? 33).map (·.size) = some c.size by rw [hz0]; exact size_br)
  have HCZ := Lib.hid hz0
  have hE00 : Ext w (w.alloc (.cells c 33)) := ((Ext.refl w).alloc _)
  have hL00 : (w.alloc (.cells c 33)).heap[w.heap.size]? = some (.cells c 33 (0, 0)) := heap_alloc_new _ _
  have hS00 : w.heap.size < (w.alloc (.cells c 33)).heap.size := heap_lt hL00
  have hB00 := hb.ext hE00
  clear hz0
  have HP := Lib.hid hb
  clear hb
  have HhE00 := Lib.hid hE00
  have HhL00 := Lib.hid hL00
  have HhS00 := Lib.hid hS00
  have HhB00 := Lib.hid hB00
  clear hE00 hL00 hS00 hB00
  go_enter Try.func12, Try.ntmps12
  go_wp2_with fail
  have hE00 := HhE00.out
  clear HhE00
  have hL00 := HhL00.out
  clear HhL00
  have hS00 := HhS00.out
  clear HhS00
  have hB00 := HhB00.out
  clear HhB00
  generalize (w.alloc (.cells c 33)) = W0 at *
  obtain ⟨bx, hq⟩ : ∃ n, w.heap.size = n := ⟨_, rfl⟩
  rw [hq] at hL00 hS00 ⊢
  have HE0 := Lib.hid hE00
  have HL0 := Lib.hid hL00
  have HB0 := Lib.hid hB00
  have HS0 := Lib.hid hS00
  have HWB := Lib.hid hq
  clear hE00 hL00 hB00 hS00 hq
  refine (trw_awake _).mono ?_
  rintro e v1 ⟨rfl, E1⟩
  go_wp2_with (first | fail | ((with_reducible refine at_load 33 ?_); refine wpList_load_row rfl 33 _ rfl bx rfl 33 c (0, 0) _ ((E1.block _ HS0.out).trans HL0.out) Try.underlying33 rfl hi20.out ?_))
  refine (few_any c B _ (HB0.out.ext E1) ho).mono ?_
  rintro e v2 ⟨f, rfl, hx2, hf⟩
  have E2 := Ext.trans E1 hx2
  clear E1 hx2
  cases f
  · go_wp2_with fail
    go_ret
    exact ⟨rfl, HE0.out.trans E2⟩
  have hfew := Lib.hid (hf.1 rfl)
  clear hf
  have hn1 := hfew.out.2.1
  have HN := Lib.hid (show B.np ≤ 1000 ∧ B.no ≤ 1000 ∧ B.nf ≤ 1000 by have := hfew.out; omega)
  have hn8 : B.np < 1000 := by have := hfew.out; omega
  go_wp2_with (first
    | fail
    | ((with_reducible refine at_load 33 ?_); refine wpList_load_row rfl 33 _ rfl bx rfl 33 c (0, 0) _ ((E2.block _ HS0.out).trans HL0.out) Try.underlying33 rfl hi20.out ?_))
  refine (at_any c B i _ (HB0.out.ext E2) ho hi hn1).mono ?_
  rintro e v3 ⟨rfl, hx⟩
  have E3 := Ext.trans E2 hx
  clear E2 hx
  obtain ⟨k, hk0⟩ : ∃ k, i.toNat % B.np = k := ⟨_, rfl⟩
  have hk : k < B.np := by rw [← hk0]; exact Nat.mod_lt _ hn1
  have hk8 : k < 1000 := by omega
  rw [hk0]
  clear hk0
  have h89 := Lib.hid (len89 ho hk)
  go_wp2_with (first
    | fail
    | ((with_reducible refine at_load 33 ?_); refine wpList_load_row rfl 33 _ rfl bx rfl 33 c (0, 0) _ ((E3.block _ HS0.out).trans HL0.out) Try.underlying33 rfl hi20.out ?_))
  refine (clone_any c B _ (HB0.out.ext E3) ho HN.out).mono ?_
  rintro e u4 ⟨cx, rfl, hO, hx⟩
  have Eu := Ext.trans E3 hx
  have hcxz := Lib.hid (size_z20.trans (hO.size ho).symm)
  have hcxo := Lib.hid (hO.one ho)
  have hcxi := Lib.hid (show (Try.prog.info? 33).map (·.size) = some cx.size by rw [hO.size ho]; exact size_br)
  obtain ⟨gx, hM⟩ := hO.made hx.size hn1
  obtain ⟨Nx, hN0, hsz⟩ := nameLe hx.size
  have hNE : W0.heap.size ≤ Nx := by
    rw [← hN0]
    exact E3.size
  rw [hN0] at hM
  have HMK := Lib.hid (show ∀ wx : World, wx = u4.alloc (.cells cx 33) → BrG wx (fun n => Nx ≤ n ∧ n < u4.heap.size + 1) u4.heap.size gx B ∧ Ext W0 wx from by
    rintro _ rfl
    exact ⟨hM, Eu.alloc _⟩)
  clear hM hO hx Eu hN0 E3
  obtain ⟨X, hX0⟩ : ∃ n, u4.heap.size = n := ⟨_, rfl⟩
  have HX0 := Lib.hid hX0
  rw [hX0] at HMK hsz
  have hsx := Lib.hid (show Nx ≤ X ∧ W0.heap.size ≤ Nx from ⟨hsz, hNE⟩)
  clear hsz hNE hX0
  obtain ⟨ag, h22⟩ : ∃ b, B.gb k 22 = b := ⟨_, rfl⟩
  go_wp2_with (first
    | fail
    | ((with_reducible refine at_store 33 ?_); refine wpList_store_new3 rfl rfl 33 _ _ _ rfl _ cx _ rfl ?_ rfl hcxi.out hcxz.out hcxo.out ?_; · rfl
       intro wx hwx
       have hmk := HMK.out wx hwx
       obtain ⟨hBx, E5⟩ := hmk
       have H5x := Lib.hid hBx
       rw [HX0.out]
       clear hwx hBx HMK HX0 hcxz hcxo hcxi
       obtain ⟨hXl, hgl, hne⟩ := H5x.out.lt
       obtain ⟨cap, c17, hca, hcb⟩ := H5x.out.cell17 ho
       have hfr := H5x.out.frozen
       have p44 := (H5x.out.cellg (i := k * 89 + 44) (lt89 (N := (B).np) hk (by decide))).trans (Br.ok.gb ho (k := k) hk 44 rfl)
       have p50 := (H5x.out.cellg (i := k * 89 + 50) (lt89 (N := (B).np) hk (by decide))).trans (Br.ok.gb ho (k := k) hk 50 rfl)
       have p88 := (H5x.out.cellg (i := k * 89 + 88) (lt89 (N := (B).np) hk (by decide))).trans (Br.ok.gi ho (k := k) hk 88 rfl)
       have p87 := (H5x.out.cellg (i := k * 89 + 87) (lt89 (N := (B).np) hk (by decide))).trans (Br.ok.gi ho (k := k) hk 87 rfl)
       have p19 := (H5x.out.cellg (i := k * 89 + 19) (lt89 (N := (B).np) hk (by decide))).trans (Br.ok.gi ho (k := k) hk 19 rfl)
       have p33 := (H5x.out.cellg (i := k * 89 + 33) (lt89 (N := (B).np) hk (by decide))).trans (Br.ok.gb ho (k := k) hk 33 rfl)
       have p22 := (H5x.out.cellg (i := k * 89 + 22) (lt89 (N := (B).np) hk (by decide))).trans ((Br.ok.gb ho (k := k) hk 22 rfl).trans (by rw [h22]))))
  have HZ6 := Lib.hid (show BrG _ (fun n => Nx ≤ n ∧ n < X + 1) X gx (ag0 B k) from ((((((H5x.out.setp (k := k) (j := 44) hk (by decide) (.bool true)).setp (k := k) (j := 50) hk (by decide) (.bool false)).setp (k := k) (j := 88) hk (by decide) (.int .i64 3)).setp (k := k) (j := 87) hk (by decide) (.int .i64 3)).setp (k := k) (j := 19) hk (by decide) (.int .i64 2)).setp (k := k) (j := 33) hk (by decide) (.bool true)))
  have okz6 : Br.ok (ag0 B k) := ag0_ok ho hk
  have hmz := (((((((Mut.refl (fun n => Nx ≤ n ∧ n < X + 1) wx).setCell (p := ⟨gx, k * 89 + 44, none⟩) (.inl H5x.out.F2) (.bool true)).setCell (p := ⟨gx, k * 89 + 50, none⟩) (.inl H5x.out.F2) (.bool false)).setCell (p := ⟨gx, k * 89 + 88, none⟩) (.inl H5x.out.F2) (.int .i64 3)).setCell (p := ⟨gx, k * 89 + 87, none⟩) (.inl H5x.out.F2) (.int .i64 3)).setCell (p := ⟨gx, k * 89 + 19, none⟩) (.inl H5x.out.F2) (.int .i64 2)).setCell (p := ⟨gx, k * 89 + 33, none⟩) (.inl H5x.out.F2) (.bool true))
  have EZ6 := Ext.mutE E5 hmz (fun n hn h1 => by have := h1.1; have := hsx.out; omega)
  clear E5
  have HMZ := Lib.hid hmz
  clear hmz
  clear c17 hfr p44 p50 p88 p87 p19 p33 p22
  have hk0 : k < Br.np (ag0 B k) := by rw [ag0_np]; exact hk
  have hn0 : Br.np (ag0 B k) < 1000 := by rw [ag0_np]; exact hn8
  have h40 : 0 ≤ Br.hi (ag0 B k) 4 ∧ Br.hi (ag0 B k) 4 ≤ 1000 := by rw [ag0_hi]; exact few_hi4 hfew.out.1
  cases ag
  · refine (tr_stepL _ Nx X gx k (ag0 B k) HZ6.out okz6 hk0 hn0 h40).mono ?_
    rw [ag_f h89.out h22]
    rintro e v7 ⟨he, hB, hm⟩
    obtain rfl : e = .returned (.bool true) := he
    have E7 := Ext.mutE EZ6 hm (fun n hn h1 => by have := h1.1; have := hsx.out; omega)
    clear EZ6
    have H7x := Lib.hid (show BrG _ (fun n => Nx ≤ n ∧ n < X + 1) X gx (agA B k) from hB)
    clear hB hm
    have ok7 : Br.ok (agA B k) := agA_ok ho hk
    have g33 := (agA_cells ho hk h22).2.2.2.1
    have hkA : k < (agA B k).np := by rw [agA_np]; exact hk
    obtain ⟨hXl, hgl, hne⟩ := H7x.out.lt
    obtain ⟨cap, c17, hca, hcb⟩ := H7x.out.cell17 ok7
    rw [show ((agA B k)).np = B.np from agA_np B k] at c17 hca
    have hfr := H7x.out.frozen
    have p33 := (H7x.out.cellg (i := k * 89 + 33) (lt89 (N := ((agA B k)).np) hkA (by decide))).trans (Br.ok.gb ok7 (k := k) hkA 33 rfl)
    rw [g33] at p33
    clear g33
    go_wp2_with fail
    clear c17 hfr p33
    go_loopw [12] (fun i wr => ∃ n : Nat, n ≤ B.np ∧ i = .int .i64 n ∧ BrG wr (fun n => Nx ≤ n ∧ n < X + 1) X gx (syn3 (agA B k) n) ∧ Ext W0 wr) (fun i _ => B.np - (intOf i).toNat)
    case atStart => exact ⟨0, by omega, rfl, H7x.out, E7⟩
    case round =>
      clear E7 H7x
      obtain ⟨n, hn, rfl, hB, E8⟩ := hrel
      have H8 := Lib.hid hB
      clear hB
      have okn : Br.ok (syn3 (agA B k) n) := syn3_ok (agA_ok ho hk) n (by rw [agA_np]; exact hn)
      have hnp : ((syn3 (agA B k) n)).np = B.np := (syn3_np _ _).trans (agA_np B k)
      by_cases hlt : n < B.np
      · have hkn : n < ((syn3 (agA B k) n)).np := by rw [hnp]; exact hlt
        obtain ⟨hXl, hgl, hne⟩ := H8.out.lt
        obtain ⟨cap, c17, hca, hcb⟩ := H8.out.cell17 okn
        rw [show ((syn3 (agA B k) n)).np = B.np from hnp] at c17 hca
        have hfr := H8.out.frozen
        have p44 := (H8.out.cellg (i := n * 89 + 44) (lt89 (N := ((syn3 (agA B k) n)).np) hkn (by decide))).trans (Br.ok.gb okn (k := n) hkn 44 rfl)
        have p47 := (H8.out.cellg (i := n * 89 + 47) (lt89 (N := ((syn3 (agA B k) n)).np) hkn (by decide))).trans (Br.ok.gb okn (k := n) hkn 47 rfl)
        have p87 := (H8.out.cellg (i := n * 89 + 87) (lt89 (N := ((syn3 (agA B k) n)).np) hkn (by decide))).trans (Br.ok.gi okn (k := n) hkn 87 rfl)
        have p88 := (H8.out.cellg (i := n * 89 + 88) (lt89 (N := ((syn3 (agA B k) n)).np) hkn (by decide))).trans (Br.ok.gi okn (k := n) hkn 88 rfl)
        have p46 := (H8.out.cellg (i := n * 89 + 46) (lt89 (N := ((syn3 (agA B k) n)).np) hkn (by decide))).trans (Br.ok.gb okn (k := n) hkn 46 rfl)
        rw [show (syn3 (agA B k) n).gb n 46 = true from by rw [syn3_gb_ne _ _ _ (by decide) (by decide) (by decide) (by decide)]; exact agA_46 ho hk hlt] at p46
        go_wp2_with fail
        refine wp_region_tail 11 (by kernel_rfl) (by kernel_rfl) ?_
        intro y hy
        have hBy : BrG y (fun n => Nx ≤ n ∧ n < X + 1) X gx ((syn3 (agA B k) n).setp n 44 (.bool true)) := by
          rw [hy]
          exact (H8.out.setp (k := n) (j := 44) hkn (by decide) (.bool true)).drew
        have hmy : Mut (fun n => Nx ≤ n ∧ n < X + 1) wr y := by
          rw [hy]
          exact ((Mut.refl (fun n => Nx ≤ n ∧ n < X + 1) wr).setCell (p := ⟨gx, n * 89 + 44, none⟩) (.inl H8.out.F2) (.bool true)).drew
        clear hy c17 hfr p44 p47 p87 p88 p46
        have okq : Br.ok ((syn3 (agA B k) n).setp n 44 (.bool true)) := okn.setB (k := n) hkn 44 true rfl
        have HY := Lib.hid hBy
        have HMY := Lib.hid hmy
        clear hBy hmy
        obtain ⟨capy, x17, hq1, hq2⟩ := HY.out.cell17 okq
        simp only [np_setp] at x17 hq1
        rw [hnp] at x17 hq1
        have q87 := (HY.out.cellg (i := n * 89 + 87) (lt89 (N := (syn3 (agA B k) n).np) hkn (by decide))).trans (okq.gi (k := n) hkn 87 rfl)
        rw [gi_setp_ne _ _ _ _ _ (by decide)] at q87
        have q88 := (HY.out.cellg (i := n * 89 + 88) (lt89 (N := (syn3 (agA B k) n).np) hkn (by decide))).trans (okq.gi (k := n) hkn 88 rfl)
        have q47 := (HY.out.cellg (i := n * 89 + 47) (lt89 (N := (syn3 (agA B k) n).np) hkn (by decide))).trans (okq.gb (k := n) hkn 47 rfl)
        have qfr := HY.out.frozen
        simp only [List.take_succ_cons, List.take_zero, List.drop_succ_cons, List.drop_zero]
        repeat still_step
        refine wpStill_nil ?_
        go_wp2_with fail
        go_roundw
        case rel =>
          refine ⟨n + 1, by omega, by go_num, (by rw [← syn3_swap]; exact (HY.out.setp (k := n) (j := 88) hkn (by decide) _).setp (k := n) (j := 47) hkn (by decide) _), ?_⟩
          exact Ext.mutE E8 ((HMY.out.setCell (p := ⟨gx, n * 89 + 88, none⟩) (.inl HY.out.F2) (.int .i64 ((syn3 (agA B k) n).gi n 87))).setCell (p := ⟨gx, n * 89 + 47, none⟩) (.inl HY.out.F2) (.bool true)) (fun n hn h1 => by have := h1.1; have := hsx.out; omega)
        case measure => simp [intOf]; omega
      · obtain rfl : n = B.np := by omega
        obtain ⟨Z, hZ⟩ : ∃ Z, (syn3 (agA B k) B.np) = Z := ⟨_, rfl⟩
        rw [hZ] at H8 okn hnp
        obtain ⟨hXlt, hglt, hnet⟩ := H8.out.lt
        obtain ⟨capt, c17t, hcat, hcbt⟩ := H8.out.cell17 okn
        rw [show (Z).np = B.np from hnp] at c17t hcat
        have hfrt := H8.out.frozen
        have hlast := ag_last ho hk h22 hZ
        have hkZ : k < Z.np := by rw [hnp]; exact hk
        have h4Z : 0 ≤ Z.hi 4 ∧ Z.hi 4 ≤ 1000 := by rw [← hZ, syn3_hi]; unfold agA trAskAll; rw [hi_setp, hi_upd, ag0_hi]; exact few_hi4 hfew.out.1
        have hnZ : Z.np < 1000 := by rw [hnp]; exact hn8
        clear hZ
        have h89Z := len89 okn hkZ
        go_wp2_with fail
        refine (tr_stepL _ Nx X gx k Z H8.out okn hkZ hnZ h4Z).mono ?_
        rw [hlast]
        rintro e v9 ⟨he, hB, hm⟩
        obtain rfl : e = .returned (.bool true) := he
        have E9 := Ext.mutE E8 hm (fun n hn h1 => by have := h1.1; have := hsx.out; omega)
        clear E8
        have H9x := Lib.hid (show BrG _ (fun n => Nx ≤ n ∧ n < X + 1) X gx ((trAgree Z k).setp k 46 (.bool false)) from hB)
        clear hB hm
        have ok9 : Br.ok ((trAgree Z k).setp k 46 (.bool false)) := (((okn.setB (k := k) hkZ 33 false rfl).setB (k := k) hkZ 22 true rfl).setB (k := k) hkZ 31 true rfl).setB (k := k) hkZ 46 false rfl
        have g22 : Br.gb ((trAgree Z k).setp k 46 (.bool false)) k 22 = true := by unfold trAgree; simp [gb_at, gb_setp_ne, len_setp, h89Z]
        have g31 : Br.gb ((trAgree Z k).setp k 46 (.bool false)) k 31 = true := by unfold trAgree; simp [gb_at, gb_setp_ne, len_setp, h89Z]
        have g46 : Br.gb ((trAgree Z k).setp k 46 (.bool false)) k 46 = false := by unfold trAgree; simp [gb_at, gb_setp_ne, len_setp, h89Z]
        have hkr : k < Br.np ((trAgree Z k).setp k 46 (.bool false)) := hkZ
        obtain ⟨hXl, hgl, hne⟩ := H9x.out.lt
        obtain ⟨cap, c17, hca, hcb⟩ := H9x.out.cell17 ok9
        rw [show (((trAgree Z k).setp k 46 (.bool false))).np = B.np from (show Br.np ((trAgree Z k).setp k 46 (.bool false)) = B.np from hnp)] at c17 hca
        have hfr := H9x.out.frozen
        have hqr0 := H9x.out.range (k := k) hkr
        have hqt := port_typed ok9 (i := k) hkr
        have c22q := (port_at (B := ((trAgree Z k).setp k 46 (.bool false))) (k := k) (j := 22) (by decide)).trans (Br.ok.gb ok9 (k := k) hkr 22 rfl)
        rw [g22] at c22q
        have c31q := (port_at (B := ((trAgree Z k).setp k 46 (.bool false))) (k := k) (j := 31) (by decide)).trans (Br.ok.gb ok9 (k := k) hkr 31 rfl)
        rw [g31] at c31q
        have c46q := (port_at (B := ((trAgree Z k).setp k 46 (.bool false))) (k := k) (j := 46) (by decide)).trans (Br.ok.gb ok9 (k := k) hkr 46 rfl)
        rw [g46] at c46q
        obtain ⟨pq, hpq⟩ : ∃ p, port (((trAgree Z k).setp k 46 (.bool false))).ps k = p := ⟨_, rfl⟩
        rw [hpq] at hqr0 hqt c22q c31q c46q
        clear hpq
        have hqr := Lib.hid hqr0
        have hqi := Lib.hid (show (Try.prog.info? 53).map (·.size) = some pq.length by rw [hqt.1]; exact size_port)
        have hqi2 := Lib.hid (show (Try.prog.info? 53).map (·.size) = some pq.toArray.size by rw [List.size_toArray]; exact hqi.out)
        have hqs := Lib.hid (show PZ.size = pq.toArray.size by rw [size_PZ, List.size_toArray]; exact hqt.1.symm)
        have hqo := Lib.hid (all_oneCell_toArray hqt.one)
        have hqzq := zero_port
        clear hqr0 hqt
        clear g22 g31 g46
        go_wp2_with (first
          | fail
          | ((with_reducible refine at_load 53 ?_); refine wpList_load_mid rfl 53 _ rfl gx (k * 89) rfl pq _ hqr.out Try.underlying53 rfl hqi.out ?_) | ((with_reducible refine at_store 53 ?_); refine wpList_store_new2 rfl rfl 53 _ _ _ rfl PZ pq.toArray _ rfl ?_ rfl hqi2.out hqs.out (by rw [Array.all_toList]; exact hqo.out) ?_; · simp))
        all_goals
          go_ret
          exact ⟨rfl, HE0.out.trans (E9.alloc _)⟩
  · refine (tr_stepL _ Nx X gx k (ag0 B k) HZ6.out okz6 hk0 hn0 h40).mono ?_
    rw [ag_t h89.out h22]
    rintro e v10 ⟨he, hB, hm⟩
    obtain rfl : e = .returned (.bool true) := he
    have E10 := Ext.mutE EZ6 hm (fun n hn h1 => by have := h1.1; have := hsx.out; omega)
    clear EZ6
    have H10x := Lib.hid (show BrG _ (fun n => Nx ≤ n ∧ n < X + 1) X gx ((trAgree (ag0 B k) k).setp k 46 (.bool false)) from hB)
    clear hB hm
    have ok10 : Br.ok ((trAgree (ag0 B k) k).setp k 46 (.bool false)) := (((okz6.setB (k := k) hk0 33 false rfl).setB (k := k) hk0 22 true rfl).setB (k := k) hk0 31 true rfl).setB (k := k) hk0 46 false rfl
    have hl := (ag0_cells h89.out).2.2.2.2.2.2.2
    have g33 : Br.gb ((trAgree (ag0 B k) k).setp k 46 (.bool false)) k 33 = false := by unfold trAgree; simp [gb_at, gb_setp_ne, len_setp, hl]
    have g22 : Br.gb ((trAgree (ag0 B k) k).setp k 46 (.bool false)) k 22 = true := by unfold trAgree; simp [gb_at, gb_setp_ne, len_setp, hl]
    have g31 : Br.gb ((trAgree (ag0 B k) k).setp k 46 (.bool false)) k 31 = true := by unfold trAgree; simp [gb_at, gb_setp_ne, len_setp, hl]
    have hkr : k < Br.np ((trAgree (ag0 B k) k).setp k 46 (.bool false)) := hk0
    obtain ⟨hXl, hgl, hne⟩ := H10x.out.lt
    obtain ⟨cap, c17, hca, hcb⟩ := H10x.out.cell17 ok10
    rw [show (((trAgree (ag0 B k) k).setp k 46 (.bool false))).np = B.np from (show Br.np ((trAgree (ag0 B k) k).setp k 46 (.bool false)) = B.np from ag0_np B k)] at c17 hca
    have hfr := H10x.out.frozen
    have p33 := (H10x.out.cellg (i := k * 89 + 33) (lt89 (N := (((trAgree (ag0 B k) k).setp k 46 (.bool false))).np) hkr (by decide))).trans (Br.ok.gb ok10 (k := k) hkr 33 rfl)
    rw [g33] at p33
    have p22 := (H10x.out.cellg (i := k * 89 + 22) (lt89 (N := (((trAgree (ag0 B k) k).setp k 46 (.bool false))).np) hkr (by decide))).trans (Br.ok.gb ok10 (k := k) hkr 22 rfl)
    rw [g22] at p22
    have p31 := (H10x.out.cellg (i := k * 89 + 31) (lt89 (N := (((trAgree (ag0 B k) k).setp k 46 (.bool false))).np) hkr (by decide))).trans (Br.ok.gb ok10 (k := k) hkr 31 rfl)
    rw [g31] at p31
    clear g33 g22 g31 hl
    go_wp2_with fail
    all_goals
      go_ret
      exact ⟨rfl, HE0.out.trans E10⟩

end Go.Proofs.Ytnblchilgaimhaa
