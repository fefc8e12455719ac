/- The walk of RxEnds. No statement is proved here. -/
import Derived.Test.YtpieamfpgfabgaaRxN
namespace Go.Proofs.Ytpieamfpgfabgaa
open Go.RowKit Go.BigFrame Go.WideShapes Go.ChangeShapes Go.Deep
set_option linter.unusedVariables false

set_option maxRecDepth 100000 in
set_option maxHeartbeats 2000000 in
theorem law_RxEnds {w : World} (c : Array Value) (B : Br) (hb : BrC w c B) (ho : B.ok) (i : Int) (hi : 0 ≤ i ∧ i < 256) :
    Calls Try.prog 4 #[.agg c, .int .u8 i] w fun e w' => e = .returned (.bool true) ∧ Ext w w' := by
  have hz0 : c.size = 20 := by
    obtain ⟨_, _, _, h, _⟩ := hb.facts ho.hd.1
    exact h
  have hi20 := Lib.hid (show (Try.prog.info? 33).map (·.size) = some c.size by rw [hz0]; exact size_br)
  have HCZ := Lib.hid hz0
  have hE00 : Ext w (w.alloc (.cells c 33)) := ((Ext.refl w).alloc _)
  have hL00 : (w.alloc (.cells c 33)).heap[w.heap.size]? = some (.cells c 33 (0, 0)) := heap_alloc_new _ _
  have hS00 : w.heap.size < (w.alloc (.cells c 33)).heap.size := heap_lt hL00
  have hB00 := hb.ext hE00
  clear hz0
  have HP := Lib.hid hb
  clear hb
  have HhE00 := Lib.hid hE00
  have HhL00 := Lib.hid hL00
  have HhS00 := Lib.hid hS00
  have HhB00 := Lib.hid hB00
  clear hE00 hL00 hS00 hB00
  go_enter Try.func4, Try.ntmps4
  go_wp2_with fail
  have hE00 := HhE00.out
  clear HhE00
  have hL00 := HhL00.out
  clear HhL00
  have hS00 := HhS00.out
  clear HhS00
  have hB00 := HhB00.out
  clear HhB00
  generalize (w.alloc (.cells c 33)) = W0 at *
  obtain ⟨bx, hq⟩ : ∃ n, w.heap.size = n := ⟨_, rfl⟩
  rw [hq] at hL00 hS00 ⊢
  have HE0 := Lib.hid hE00
  have HL0 := Lib.hid hL00
  have HB0 := Lib.hid hB00
  have HS0 := Lib.hid hS00
  have HWB := Lib.hid hq
  clear hE00 hL00 hB00 hS00 hq
  refine (rxw_awake _).mono ?_
  rintro e v1 ⟨rfl, E1⟩
  go_wp2_with (first | fail | ((with_reducible refine at_load 33 ?_); refine wpList_load_row rfl 33 _ rfl bx rfl 33 c (0, 0) _ ((E1.block _ HS0.out).trans HL0.out) Try.underlying33 rfl hi20.out ?_))
  refine (few_any c B _ (HB0.out.ext E1) ho).mono ?_
  rintro e v2 ⟨f, rfl, hx2, hf⟩
  have E2 := Ext.trans E1 hx2
  clear E1 hx2
  cases f
  · go_wp2_with fail
    go_ret
    exact ⟨rfl, HE0.out.trans E2⟩
  have hfew := Lib.hid (hf.1 rfl)
  clear hf
  have hn1 := hfew.out.2.1
  have HN := Lib.hid (show B.np ≤ 1000 ∧ B.no ≤ 1000 ∧ B.nf ≤ 1000 by have := hfew.out; omega)
  have hn8 : B.np < 1000 := by have := hfew.out; omega
  go_wp2_with (first
    | fail
    | ((with_reducible refine at_load 33 ?_); refine wpList_load_row rfl 33 _ rfl bx rfl 33 c (0, 0) _ ((E2.block _ HS0.out).trans HL0.out) Try.underlying33 rfl hi20.out ?_))
  refine (at_any c B i _ (HB0.out.ext E2) ho hi hn1).mono ?_
  rintro e v3 ⟨rfl, hx⟩
  have E3 := Ext.trans E2 hx
  clear E2 hx
  obtain ⟨k, hk0⟩ : ∃ k, i.toNat % B.np = k := ⟨_, rfl⟩
  have hk : k < B.np := by rw [← hk0]; exact Nat.mod_lt _ hn1
  have hk8 : k < 1000 := by omega
  rw [hk0]
  clear hk0
  have h89 := Lib.hid (len89 ho hk)
  go_wp2_with (first
    | fail
    | ((with_reducible refine at_load 33 ?_); refine wpList_load_row rfl 33 _ rfl bx rfl 33 c (0, 0) _ ((E3.block _ HS0.out).trans HL0.out) Try.underlying33 rfl hi20.out ?_))
  refine (clone_any c B _ (HB0.out.ext E3) ho HN.out).mono ?_
  rintro e u4 ⟨cx, rfl, hO, hx⟩
  have Eu := Ext.trans E3 hx
  have hcxz := Lib.hid (size_z20.trans (hO.size ho).symm)
  have hcxo := Lib.hid (hO.one ho)
  have hcxi := Lib.hid (show (Try.prog.info? 33).map (·.size) = some cx.size by rw [hO.size ho]; exact size_br)
  obtain ⟨gx, hM⟩ := hO.made hx.size hn1
  obtain ⟨Nx, hN0, hsz⟩ := nameLe hx.size
  have hNE : W0.heap.size ≤ Nx := by
    rw [← hN0]
    exact E3.size
  rw [hN0] at hM
  have HMK := Lib.hid (show ∀ wx : World, wx = u4.alloc (.cells cx 33) → BrG wx (fun n => Nx ≤ n ∧ n < u4.heap.size + 1) u4.heap.size gx B ∧ Ext W0 wx from by
    rintro _ rfl
    exact ⟨hM, Eu.alloc _⟩)
  clear hM hO hx Eu hN0 E3
  obtain ⟨X, hX0⟩ : ∃ n, u4.heap.size = n := ⟨_, rfl⟩
  have HX0 := Lib.hid hX0
  rw [hX0] at HMK hsz
  have hsx := Lib.hid (show Nx ≤ X ∧ W0.heap.size ≤ Nx from ⟨hsz, hNE⟩)
  clear hsz hNE hX0
  go_wp2_with (first
    | fail
    | ((with_reducible refine at_store 33 ?_); refine wpList_store_new3 rfl rfl 33 _ _ _ rfl _ cx _ rfl ?_ rfl hcxi.out hcxz.out hcxo.out ?_; · rfl
       intro wx hwx
       have hmk := HMK.out wx hwx
       obtain ⟨hBx, E5⟩ := hmk
       have H5x := Lib.hid hBx
       rw [HX0.out]
       clear hwx hBx HMK HX0 hcxz hcxo hcxi))
  refine (rx_step _ (fun n => Nx ≤ n ∧ n < X + 1) X gx k B H5x.out ho hk hk8).mono ?_
  rintro e v6 ⟨he, hB, hm⟩
  obtain rfl : e = .returned (.bool (rxF B k).1) := he
  have ok6 : Br.ok (rxF B k).2 := by
    have := rxF_ok (show Br.ok B from ho) (k := k) hk
    exact this
  have E6 := Ext.mutE E5 hm (fun n hn h1 => by have := h1.1; have := hsx.out; omega)
  clear E5
  have H6x := Lib.hid (show BrG _ (fun n => Nx ≤ n ∧ n < X + 1) X gx (rxF B k).2 from hB)
  clear hB hm
  go_wp2_with fail
  refine (rx_step _ (fun n => Nx ≤ n ∧ n < X + 1) X gx k (rxF B k).2 H6x.out ok6 (by rw [rxF_np]; exact hk) hk8).mono ?_
  rintro e v7 ⟨he, hB, hm⟩
  obtain rfl : e = .returned (.bool (rxF (rxF B k).2 k).1) := he
  have ok7 : Br.ok (rx2 B k) := by
    have := rxF_ok (show Br.ok (rxF B k).2 from ok6) (k := k) (by rw [rxF_np]; exact hk)
    exact this
  have E7 := Ext.mutE E6 hm (fun n hn h1 => by have := h1.1; have := hsx.out; omega)
  clear E6
  have H7x := Lib.hid (show BrG _ (fun n => Nx ≤ n ∧ n < X + 1) X gx (rx2 B k) from hB)
  clear hB hm
  go_wp2_with fail
  obtain ⟨e3, e4, e5, e6⟩ := rx2_ends B k h89.out
  have hk2 : k < (rx2 B k).np := by unfold rx2; rw [rxF_np, rxF_np]; exact hk
  refine (rx_step _ (fun n => Nx ≤ n ∧ n < X + 1) X gx k (rx2 B k) H7x.out ok7 hk2 hk8).mono ?_
  rw [e3]
  rintro e v8 ⟨he, hB, hm⟩
  obtain rfl : e = .returned (.bool false) := he
  have ok8 : Br.ok (rx2 B k) := by
    have := rxF_ok (show Br.ok (rx2 B k) from ok7) (k := k) hk2
    rw [e3] at this
    exact this
  have E8 := Ext.mutE E7 hm (fun n hn h1 => by have := h1.1; have := hsx.out; omega)
  clear E7
  have H8x := Lib.hid (show BrG _ (fun n => Nx ≤ n ∧ n < X + 1) X gx (rx2 B k) from hB)
  clear hB hm
  clear e3
  obtain ⟨hXlz, hglz, hnez⟩ := H8x.out.lt
  obtain ⟨capz, c17z, hcaz, hcbz⟩ := H8x.out.cell17 ok8
  rw [show ((rx2 B k)).np = B.np from (show (rx2 B k).np = B.np by unfold rx2; rw [rxF_np, rxF_np])] at c17z hcaz
  have hfrz := H8x.out.frozen
  have hqr0 := H8x.out.range (k := k) hk2
  have hqt := port_typed ok8 (i := k) hk2
  have c2q := (port_at (B := (rx2 B k)) (k := k) (j := 2) (by decide)).trans (Br.ok.gb ok8 (k := k) hk2 2 rfl)
  rw [e4] at c2q
  have c35q := (port_at (B := (rx2 B k)) (k := k) (j := 35) (by decide)).trans (Br.ok.gb ok8 (k := k) hk2 35 rfl)
  have c36q := (port_at (B := (rx2 B k)) (k := k) (j := 36) (by decide)).trans (Br.ok.gb ok8 (k := k) hk2 36 rfl)
  have c6q := (port_at (B := (rx2 B k)) (k := k) (j := 6) (by decide)).trans (Br.ok.gi ok8 (k := k) hk2 6 rfl)
  obtain ⟨pq, hpq⟩ : ∃ p, port ((rx2 B k)).ps k = p := ⟨_, rfl⟩
  rw [hpq] at hqr0 hqt c2q c35q c36q c6q
  clear hpq
  have hqr := Lib.hid hqr0
  have hqi := Lib.hid (show (Try.prog.info? 52).map (·.size) = some pq.length by rw [hqt.1]; exact size_port)
  have hqi2 := Lib.hid (show (Try.prog.info? 52).map (·.size) = some pq.toArray.size by rw [List.size_toArray]; exact hqi.out)
  have hqs := Lib.hid (show PZ.size = pq.toArray.size by rw [size_PZ, List.size_toArray]; exact hqt.1.symm)
  have hqo := Lib.hid (all_oneCell_toArray hqt.one)
  have hqzq := zero_port
  clear hqr0 hqt
  obtain ⟨s1, s2, s3, hz0, hhd, c17b, c18b, c19b, r1, r2, r3⟩ := HP.out.facts ho.hd.1
  obtain ⟨a1, k1, rfl, m1, f1⟩ := r1.form
  obtain ⟨bb, off, rfl, hbl, hlc, hcm, hrg⟩ := f1 (by omega)
  have HB17 := Lib.hid (show W0.cell? ⟨bx, 17, none⟩ = some (.slice (some ⟨bb, off, none⟩) B.np k1) by rw [cell_of_row _ _ _ _ _ _ HL0.out]; exact c17b)
  have HRG := Lib.hid hrg
  have HBL := Lib.hid hbl
  clear hz0 hhd c18b c19b r2 r3 r1 hrg c17b f1 hbl
  have b17 := (E8.cell (p := ⟨bx, 17, none⟩) HS0.out).trans HB17.out
  have hbxl : bx < v8.heap.size := Nat.lt_of_lt_of_le HS0.out E8.size
  have HBV := Lib.hid (show bb < v8.heap.size from Nat.lt_of_lt_of_le HBL.out (HE0.out.trans E8).size)
  have hor0 := rangeAt_ext (port_range HRG.out k) (HE0.out.trans E8) HBL.out
  have hot := port_typed ho (i := k) hk
  have c2o := (port_at (B := B) (k := k) (j := 2) (by decide)).trans (ho.gb hk 2 rfl)
  have c35o := (port_at (B := B) (k := k) (j := 35) (by decide)).trans (ho.gb hk 35 rfl)
  have c36o := (port_at (B := B) (k := k) (j := 36) (by decide)).trans (ho.gb hk 36 rfl)
  have c15o := (port_at (B := B) (k := k) (j := 15) (by decide)).trans (ho.gi hk 15 rfl)
  obtain ⟨po, hpo⟩ : ∃ p, port B.ps k = p := ⟨_, rfl⟩
  rw [hpo] at hor0 hot c2o c35o c36o c15o
  clear hpo
  have hor := Lib.hid hor0
  have hoi := Lib.hid (show (Try.prog.info? 52).map (·.size) = some po.length by rw [hot.1]; exact size_port)
  have hoi2 := Lib.hid (show (Try.prog.info? 52).map (·.size) = some po.toArray.size by rw [List.size_toArray]; exact hoi.out)
  have hos := Lib.hid (show PZ.size = po.toArray.size by rw [size_PZ, List.size_toArray]; exact hot.1.symm)
  have hoo := Lib.hid (all_oneCell_toArray hot.one)
  have hqzo := zero_port
  clear hor0 hot
  clear e4
  cases h2 : B.gb k 2
  · obtain ⟨e7, e8⟩ := e5 h2
    rw [h2] at c2q c2o
    rw [e7] at c35q
    rw [e8] at c6q
    clear e5 e6 e7 e8 h2
    go_wp2_with (first
      | fail
      | ((with_reducible refine at_load 52 ?_); refine wpList_load_mid rfl 52 _ rfl gx (k * 89) rfl pq _ hqr.out Try.underlying52 rfl hqi.out ?_) | ((with_reducible refine at_store 52 ?_); refine wpList_store_new2 rfl rfl 52 _ _ _ rfl PZ pq.toArray _ rfl ?_ rfl hqi2.out hqs.out (by rw [Array.all_toList]; exact hqo.out) ?_; · simp)
      | ((with_reducible refine at_load 52 ?_); refine wpList_load_mid rfl 52 _ rfl bb (off + k * 89) rfl po _ (rangeAt_ext hor.out ((Ext.refl _).alloc _) HBV.out) Try.underlying52 rfl hoi.out ?_) | ((with_reducible refine at_store 52 ?_); refine wpList_store_new2 rfl rfl 52 _ _ _ rfl PZ po.toArray _ rfl ?_ rfl hoi2.out hos.out (by rw [Array.all_toList]; exact hoo.out) ?_; · simp))
    all_goals
      go_ret
      exact ⟨rfl, HE0.out.trans ((E8.alloc _).alloc _)⟩
  · rw [h2] at c2q c2o
    clear e5
    by_cases hr0 : B.gi k 15 = 0
    · rw [hr0] at c15o
      cases h36 : B.gb k 36
      · obtain ⟨e7, e8⟩ := e6 h2 (by omega) h36
        rw [h36] at c36o
        rw [e7] at c36q
        rw [e8] at c35q
        clear e6 e7 e8 h2 h36 hr0
        cases h35 : B.gb k 35
        · rw [h35] at c35o c36q
          clear h35
          go_wp2_with (first
            | fail
            | ((with_reducible refine at_load 52 ?_); refine wpList_load_mid rfl 52 _ rfl gx (k * 89) rfl pq _ hqr.out Try.underlying52 rfl hqi.out ?_) | ((with_reducible refine at_store 52 ?_); refine wpList_store_new2 rfl rfl 52 _ _ _ rfl PZ pq.toArray _ rfl ?_ rfl hqi2.out hqs.out (by rw [Array.all_toList]; exact hqo.out) ?_; · simp)
            | ((with_reducible refine at_load 52 ?_); refine wpList_load_mid rfl 52 _ rfl bb (off + k * 89) rfl po _ (rangeAt_ext hor.out ((Ext.refl _).alloc _) HBV.out) Try.underlying52 rfl hoi.out ?_) | ((with_reducible refine at_store 52 ?_); refine wpList_store_new2 rfl rfl 52 _ _ _ rfl PZ po.toArray _ rfl ?_ rfl hoi2.out hos.out (by rw [Array.all_toList]; exact hoo.out) ?_; · simp))
          all_goals
            go_ret
            exact ⟨rfl, HE0.out.trans ((E8.alloc _).alloc _)⟩
        · rw [h35] at c35o c36q
          clear h35
          go_wp2_with (first
            | fail
            | ((with_reducible refine at_load 52 ?_); refine wpList_load_mid rfl 52 _ rfl gx (k * 89) rfl pq _ hqr.out Try.underlying52 rfl hqi.out ?_) | ((with_reducible refine at_store 52 ?_); refine wpList_store_new2 rfl rfl 52 _ _ _ rfl PZ pq.toArray _ rfl ?_ rfl hqi2.out hqs.out (by rw [Array.all_toList]; exact hqo.out) ?_; · simp)
            | ((with_reducible refine at_load 52 ?_); refine wpList_load_mid rfl 52 _ rfl bb (off + k * 89) rfl po _ (rangeAt_ext hor.out ((Ext.refl _).alloc _) HBV.out) Try.underlying52 rfl hoi.out ?_) | ((with_reducible refine at_store 52 ?_); refine wpList_store_new2 rfl rfl 52 _ _ _ rfl PZ po.toArray _ rfl ?_ rfl hoi2.out hos.out (by rw [Array.all_toList]; exact hoo.out) ?_; · simp))
          all_goals
            go_ret
            exact ⟨rfl, HE0.out.trans ((E8.alloc _).alloc _)⟩
      · rw [h36] at c36o
        clear e6 h2 h36 hr0
        go_wp2_with (first
          | fail
          | ((with_reducible refine at_load 52 ?_); refine wpList_load_mid rfl 52 _ rfl gx (k * 89) rfl pq _ hqr.out Try.underlying52 rfl hqi.out ?_) | ((with_reducible refine at_store 52 ?_); refine wpList_store_new2 rfl rfl 52 _ _ _ rfl PZ pq.toArray _ rfl ?_ rfl hqi2.out hqs.out (by rw [Array.all_toList]; exact hqo.out) ?_; · simp)
          | ((with_reducible refine at_load 52 ?_); refine wpList_load_mid rfl 52 _ rfl bb (off + k * 89) rfl po _ (rangeAt_ext hor.out ((Ext.refl _).alloc _) HBV.out) Try.underlying52 rfl hoi.out ?_) | ((with_reducible refine at_store 52 ?_); refine wpList_store_new2 rfl rfl 52 _ _ _ rfl PZ po.toArray _ rfl ?_ rfl hoi2.out hos.out (by rw [Array.all_toList]; exact hoo.out) ?_; · simp))
        all_goals
          go_ret
          exact ⟨rfl, HE0.out.trans ((E8.alloc _).alloc _)⟩
    · by_cases hr1 : B.gi k 15 = 1
      · rw [hr1] at c15o
        cases h36 : B.gb k 36
        · obtain ⟨e7, e8⟩ := e6 h2 (by omega) h36
          rw [h36] at c36o
          rw [e7] at c36q
          rw [e8] at c35q
          clear e6 e7 e8 h2 h36 hr1
          cases h35 : B.gb k 35
          · rw [h35] at c35o c36q
            clear h35
            go_wp2_with (first
              | fail
              | ((with_reducible refine at_load 52 ?_); refine wpList_load_mid rfl 52 _ rfl gx (k * 89) rfl pq _ hqr.out Try.underlying52 rfl hqi.out ?_) | ((with_reducible refine at_store 52 ?_); refine wpList_store_new2 rfl rfl 52 _ _ _ rfl PZ pq.toArray _ rfl ?_ rfl hqi2.out hqs.out (by rw [Array.all_toList]; exact hqo.out) ?_; · simp)
              | ((with_reducible refine at_load 52 ?_); refine wpList_load_mid rfl 52 _ rfl bb (off + k * 89) rfl po _ (rangeAt_ext hor.out ((Ext.refl _).alloc _) HBV.out) Try.underlying52 rfl hoi.out ?_) | ((with_reducible refine at_store 52 ?_); refine wpList_store_new2 rfl rfl 52 _ _ _ rfl PZ po.toArray _ rfl ?_ rfl hoi2.out hos.out (by rw [Array.all_toList]; exact hoo.out) ?_; · simp))
            all_goals
              go_ret
              exact ⟨rfl, HE0.out.trans ((E8.alloc _).alloc _)⟩
          · rw [h35] at c35o c36q
            clear h35
            go_wp2_with (first
              | fail
              | ((with_reducible refine at_load 52 ?_); refine wpList_load_mid rfl 52 _ rfl gx (k * 89) rfl pq _ hqr.out Try.underlying52 rfl hqi.out ?_) | ((with_reducible refine at_store 52 ?_); refine wpList_store_new2 rfl rfl 52 _ _ _ rfl PZ pq.toArray _ rfl ?_ rfl hqi2.out hqs.out (by rw [Array.all_toList]; exact hqo.out) ?_; · simp)
              | ((with_reducible refine at_load 52 ?_); refine wpList_load_mid rfl 52 _ rfl bb (off + k * 89) rfl po _ (rangeAt_ext hor.out ((Ext.refl _).alloc _) HBV.out) Try.underlying52 rfl hoi.out ?_) | ((with_reducible refine at_store 52 ?_); refine wpList_store_new2 rfl rfl 52 _ _ _ rfl PZ po.toArray _ rfl ?_ rfl hoi2.out hos.out (by rw [Array.all_toList]; exact hoo.out) ?_; · simp))
            all_goals
              go_ret
              exact ⟨rfl, HE0.out.trans ((E8.alloc _).alloc _)⟩
        · rw [h36] at c36o
          clear e6 h2 h36 hr1
          go_wp2_with (first
            | fail
            | ((with_reducible refine at_load 52 ?_); refine wpList_load_mid rfl 52 _ rfl gx (k * 89) rfl pq _ hqr.out Try.underlying52 rfl hqi.out ?_) | ((with_reducible refine at_store 52 ?_); refine wpList_store_new2 rfl rfl 52 _ _ _ rfl PZ pq.toArray _ rfl ?_ rfl hqi2.out hqs.out (by rw [Array.all_toList]; exact hqo.out) ?_; · simp)
            | ((with_reducible refine at_load 52 ?_); refine wpList_load_mid rfl 52 _ rfl bb (off + k * 89) rfl po _ (rangeAt_ext hor.out ((Ext.refl _).alloc _) HBV.out) Try.underlying52 rfl hoi.out ?_) | ((with_reducible refine at_store 52 ?_); refine wpList_store_new2 rfl rfl 52 _ _ _ rfl PZ po.toArray _ rfl ?_ rfl hoi2.out hos.out (by rw [Array.all_toList]; exact hoo.out) ?_; · simp))
          all_goals
            go_ret
            exact ⟨rfl, HE0.out.trans ((E8.alloc _).alloc _)⟩
      · have hr2 : (B.gi k 15 == 0) = false := by simpa using hr0
        have hr3 : (B.gi k 15 == 1) = false := by simpa using hr1
        clear e6 h2 hr0 hr1
        go_wp2_with (first
          | fail
          | ((with_reducible refine at_load 52 ?_); refine wpList_load_mid rfl 52 _ rfl gx (k * 89) rfl pq _ hqr.out Try.underlying52 rfl hqi.out ?_) | ((with_reducible refine at_store 52 ?_); refine wpList_store_new2 rfl rfl 52 _ _ _ rfl PZ pq.toArray _ rfl ?_ rfl hqi2.out hqs.out (by rw [Array.all_toList]; exact hqo.out) ?_; · simp)
          | ((with_reducible refine at_load 52 ?_); refine wpList_load_mid rfl 52 _ rfl bb (off + k * 89) rfl po _ (rangeAt_ext hor.out ((Ext.refl _).alloc _) HBV.out) Try.underlying52 rfl hoi.out ?_) | ((with_reducible refine at_store 52 ?_); refine wpList_store_new2 rfl rfl 52 _ _ _ rfl PZ po.toArray _ rfl ?_ rfl hoi2.out hos.out (by rw [Array.all_toList]; exact hoo.out) ?_; · simp))
        all_goals
          go_ret
          exact ⟨rfl, HE0.out.trans ((E8.alloc _).alloc _)⟩

end Go.Proofs.Ytpieamfpgfabgaa
