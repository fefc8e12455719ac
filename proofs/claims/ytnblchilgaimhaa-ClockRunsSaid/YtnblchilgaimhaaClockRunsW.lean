/- The walk of ClockRuns. No statement is proved here. -/
import Derived.Test.YtnblchilgaimhaaClkR
import Derived.Test.YtnblchilgaimhaaClkM
import Derived.Test.YtnblchilgaimhaaClkC
namespace Go.Proofs.Ytnblchilgaimhaa
open Go.RowKit Go.BigFrame Go.WideShapes Go.ChangeShapes Go.Deep
set_option linter.unusedVariables false
set_option linter.unusedSimpArgs false

set_option maxRecDepth 100000 in
set_option maxHeartbeats 4000000 in
theorem law_ClockRuns {w : World} (c : Array Value) (B : Br) (hb : BrC w c B) (ho : B.ok) (i : Int) (hi : 0 ≤ i ∧ i < 256) :
    Calls Try.prog 5 #[.agg c, .int .u8 i] w fun e w' => e = .returned (.bool true) ∧ Ext w w' := by
  have hz0 : c.size = 20 := by
    obtain ⟨_, _, _, h, _⟩ := hb.facts ho.hd.1
    exact h
  have hi20 := Lib.hid (show (Try.prog.info? 33).map (·.size) = some c.size by rw [hz0]; exact size_br)
  have HCZ := Lib.hid hz0
  have hE00 : Ext w (w.alloc (.cells c 33)) := ((Ext.refl w).alloc _)
  have hL00 : (w.alloc (.cells c 33)).heap[w.heap.size]? = some (.cells c 33 (0, 0)) := heap_alloc_new _ _
  have hS00 : w.heap.size < (w.alloc (.cells c 33)).heap.size := heap_lt hL00
  have hB00 := hb.ext hE00
  clear hz0
  have HP := Lib.hid hb
  clear hb
  have HhE00 := Lib.hid hE00
  have HhL00 := Lib.hid hL00
  have HhS00 := Lib.hid hS00
  have HhB00 := Lib.hid hB00
  clear hE00 hL00 hS00 hB00
  go_enter Try.func5, Try.ntmps5
  go_wp2_with fail
  have hE00 := HhE00.out
  clear HhE00
  have hL00 := HhL00.out
  clear HhL00
  have hS00 := HhS00.out
  clear HhS00
  have hB00 := HhB00.out
  clear HhB00
  generalize (w.alloc (.cells c 33)) = W0 at *
  obtain ⟨bx, hq⟩ : ∃ n, w.heap.size = n := ⟨_, rfl⟩
  rw [hq] at hL00 hS00 ⊢
  have HE0 := Lib.hid hE00
  have HL0 := Lib.hid hL00
  have HB0 := Lib.hid hB00
  have HS0 := Lib.hid hS00
  have HWB := Lib.hid hq
  clear hE00 hL00 hB00 hS00 hq
  refine (ckw_awake _).mono ?_
  rintro e v1 ⟨rfl, E1⟩
  go_wp2_with (first | fail | ((with_reducible refine at_load 33 ?_); refine wpList_load_row rfl 33 _ rfl bx rfl 33 c (0, 0) _ ((E1.block _ HS0.out).trans HL0.out) Try.underlying33 rfl hi20.out ?_))
  refine (few_any c B _ (HB0.out.ext E1) ho).mono ?_
  rintro e v2 ⟨f, rfl, hx2, hf⟩
  have E2 := Ext.trans E1 hx2
  clear E1 hx2
  cases f
  · go_wp2_with fail
    go_ret
    exact ⟨rfl, HE0.out.trans E2⟩
  have hfew := Lib.hid (hf.1 rfl)
  clear hf
  have hn1 := hfew.out.2.1
  have HN := Lib.hid (show B.np ≤ 1000 ∧ B.no ≤ 1000 ∧ B.nf ≤ 1000 by have := hfew.out; omega)
  have hn8 : B.np < 1000 := by have := hfew.out; omega
  obtain ⟨s1, s2, s3, hz0, hhd, c17b, c18b, c19b, r1, r2, r3⟩ := HP.out.facts ho.hd.1
  obtain ⟨a1, k1, rfl, m1, f1⟩ := r1.form
  obtain ⟨bb, off, rfl, hbl, hlc, hcm, hrg⟩ := f1 (by omega)
  have HB17 := Lib.hid (show W0.cell? ⟨bx, 17, none⟩ = some (.slice (some ⟨bb, off, none⟩) B.np k1) by rw [cell_of_row _ _ _ _ _ _ HL0.out]; exact c17b)
  have HRG := Lib.hid hrg
  have HBL := Lib.hid hbl
  have R1 := Lib.hid r1
  clear hz0 hhd c17b c18b c19b r1 r2 r3 hrg hbl f1
  go_wp2_with (first
    | fail
    | ((with_reducible refine at_load 33 ?_); refine wpList_load_row rfl 33 _ rfl bx rfl 33 c (0, 0) _ ((E2.block _ HS0.out).trans HL0.out) Try.underlying33 rfl hi20.out ?_))
  refine (clone_any c B _ (HB0.out.ext E2) ho HN.out).mono ?_
  rintro e u3 ⟨cx, rfl, hO, hx⟩
  have Eu := Ext.trans E2 hx
  have hcxz := Lib.hid (size_z20.trans (hO.size ho).symm)
  have hcxo := Lib.hid (hO.one ho)
  have hcxi := Lib.hid (show (Try.prog.info? 33).map (·.size) = some cx.size by rw [hO.size ho]; exact size_br)
  obtain ⟨gx, hM⟩ := hO.made hx.size hn1
  obtain ⟨Nx, hN0, hsz⟩ := nameLe hx.size
  have hNE : W0.heap.size ≤ Nx := by
    rw [← hN0]
    exact E2.size
  rw [hN0] at hM
  have HMK := Lib.hid (show ∀ wx : World, wx = u3.alloc (.cells cx 33) → BrG wx (fun n => Nx ≤ n ∧ n < u3.heap.size + 1) u3.heap.size gx B ∧ Ext W0 wx from by
    rintro _ rfl
    exact ⟨hM, Eu.alloc _⟩)
  clear hM hO hx Eu hN0 E2
  obtain ⟨X, hX0⟩ : ∃ n, u3.heap.size = n := ⟨_, rfl⟩
  have HX0 := Lib.hid hX0
  rw [hX0] at HMK hsz
  have hsx := Lib.hid (show Nx ≤ X ∧ W0.heap.size ≤ Nx from ⟨hsz, hNE⟩)
  clear hsz hNE hX0
  go_wp2_with (first
    | fail
    | ((with_reducible refine at_store 33 ?_); refine wpList_store_new3 rfl rfl 33 _ _ _ rfl _ cx _ rfl ?_ rfl hcxi.out hcxz.out hcxo.out ?_; · rfl
       intro wx hwx
       have hmk := HMK.out wx hwx
       obtain ⟨hBx, E4⟩ := hmk
       have H4x := Lib.hid hBx
       rw [HX0.out]
       clear hwx hBx HMK HX0 hcxz hcxo hcxi))
  have HC0 := Lib.hid H4x.out
  go_loopw [8] (fun v wr => ∃ j : Nat, (j : Int) ≤ i ∧ v = .int .i64 j ∧ BrG wr (fun n => Nx ≤ n ∧ n < X + 1) X gx (runB B j) ∧ Ext W0 wr) (fun v _ => i.toNat - (intOf v).toNat)
  case atStart => exact ⟨0, by omega, rfl, HC0.out, E4⟩
  case round =>
    clear E4 H4x HC0
    obtain ⟨j, hj, rfl, hB, EJ⟩ := hrel
    have HJ := Lib.hid hB
    clear hB
    by_cases hlt : (j : Int) < i
    · go_wp2_with fail
      refine (tick_any _ (fun n => Nx ≤ n ∧ n < X + 1) X gx (runB B j) HJ.out (runB_ok ho j) (by rw [runB_np]; exact hn8)).mono ?_
      rintro e v ⟨rfl, hB, hm⟩
      have EV := Ext.mutE EJ hm (fun n hn h1 => by have := h1.1; have := hsx.out; omega)
      have HV := Lib.hid (show BrG v (fun n => Nx ≤ n ∧ n < X + 1) X gx (runB B (j + 1)) from hB)
      clear hB hm
      go_wp2_with fail
      go_roundw
      case rel => exact ⟨j + 1, by push_cast; omega, by go_num, HV.out, EV⟩
      case measure => simp [intOf]; omega
    · have hji : (j : Int) = i := by omega
      have okZ := runB_ok ho j
      have npZ := runB_np B j
      have HRZ := Lib.hid (runB_right ho hfew.out.1 j)
      have HAT := Lib.hid (show ∀ k, k < B.np → ∀ q, 6 ≤ q ∧ q < 15 → (runB B j).gi k q = max 0 (B.gi k q - i) from fun k hk q hq => by rw [← hji]; exact runB_clk ho hk (clk_of hfew.out.1 hk) j hq)
      have HBK := Lib.hid (show ∀ k, k < B.np → (port (runB B j).ps k).take 6 ++ (((port B.ps k).drop 6).take 9 ++ (port (runB B j).ps k).drop 15) = port B.ps k from fun k hk => runB_back ho hk (clk_of hfew.out.1 hk) j)
      have HRS := Lib.hid (runB_rest B j)
      have HHD := Lib.hid (runB_hd B j)
      obtain ⟨Z, hZ⟩ : ∃ Z, runB B j = Z := ⟨_, rfl⟩
      rw [hZ] at okZ npZ HRZ HAT HBK HRS HHD HJ
      clear hZ hji
      obtain ⟨C5, hC, hCb, hCz⟩ := HJ.out.br (show 0 < (Z).np by rw [show (Z).np = B.np from npZ]; exact hn1)
      have HCi5 := Lib.hid (show (Try.prog.info? 33).map (·.size) = some C5.size by rw [hCz, Br.ok.hd okZ |>.1]; exact size_br)
      have HC5 := Lib.hid hC
      have HCb5 := Lib.hid hCb
      have HCn5 := Lib.hid (show C5.size = 20 by rw [hCz, Br.ok.hd okZ |>.1]; rfl)
      clear hC hCb hCz
      go_wp2_with (first
        | fail
        | ((with_reducible refine at_load 33 ?_); refine wpList_load_row rfl 33 _ rfl X rfl 33 C5 (0, 0) _ HC5.out Try.underlying33 rfl HCi5.out ?_))
      refine (cright_any C5 Z _ HCb5.out okZ).mono ?_
      rintro e vq ⟨f, rfl, hx, hf⟩
      obtain rfl : f = true := hf.2 HRZ.out
      have EQ := EJ.trans hx
      have HQ := Lib.hid (HJ.out.ext hx)
      clear hx hf
      obtain ⟨hXlt, hglt, hnet⟩ := HQ.out.lt
      obtain ⟨capt, c17t, hcat, hcbt⟩ := HQ.out.cell17 okZ
      rw [show (Z).np = B.np from npZ] at c17t hcat
      have hfrt := HQ.out.frozen
      have b17 := (EQ.cell (p := ⟨bx, 17, none⟩) HS0.out).trans HB17.out
      have hbxq := Nat.lt_of_lt_of_le HS0.out EQ.size
      have X17 := Lib.hid c17t
      have B17 := Lib.hid b17
      go_wp2_with fail
      clear c17t b17 hfrt
      have hci9 : (Try.prog.info? 45).map (·.size) = some 9 := by kernel_rfl
      have HCI := Lib.hid hci9
      clear hci9
      go_loopw [9] (fun v wr => ∃ n : Nat, n ≤ B.np ∧ v = .int .i64 n ∧ Ext vq wr) (fun v _ => B.np - (intOf v).toNat)
      case atStart => exact ⟨0, by omega, rfl, Ext.refl _⟩
      case round =>
        obtain ⟨k, hn, rfl, EL⟩ := hrel
        have HXr := Lib.hid (HQ.out.ext EL)
        by_cases hk : k < B.np
        · have hk8 : k < 1000 := by omega
          have c17 := (EL.cell (p := ⟨X, 17, none⟩) hXlt).trans X17.out
          have b17 := (EL.cell (p := ⟨bx, 17, none⟩) hbxq).trans B17.out
          have hbk := HBK.out k hk
          have hgr := fun q (hq : q < 9) => (hfew.out.1.2 k hk).1 q hq
          have g7 : 0 ≤ B.gi k 7 ∧ B.gi k 7 ≤ 1000 := hgr 1 (by decide)
          have g13 : 0 ≤ B.gi k 13 ∧ B.gi k 13 ≤ 1000 := hgr 7 (by decide)
          have g14 : 0 ≤ B.gi k 14 ∧ B.gi k 14 ≤ 1000 := hgr 8 (by decide)
          clear hgr
          have z7 := HAT.out k hk 7 ⟨by decide, by decide⟩
          have z13 := HAT.out k hk 13 ⟨by decide, by decide⟩
          have z14 := HAT.out k hk 14 ⟨by decide, by decide⟩
          have hkc : k < Br.np Z := (show k < Br.np Z by rw [npZ]; exact hk)
          have hrq0 := HXr.out.range (k := k) hkc
          have cq7 : (port (Br.ps Z) k)[7]? = some (.int .i64 (max 0 (B.gi k 7 - i))) := (port_at (B := Z) (k := k) (j := 7) (by decide)).trans ((Br.ok.gi okZ (k := k) hkc 7 rfl).trans (by rw [z7]))
          have cq13 : (port (Br.ps Z) k)[13]? = some (.int .i64 (max 0 (B.gi k 13 - i))) := (port_at (B := Z) (k := k) (j := 13) (by decide)).trans ((Br.ok.gi okZ (k := k) hkc 13 rfl).trans (by rw [z13]))
          have cq14 : (port (Br.ps Z) k)[14]? = some (.int .i64 (max 0 (B.gi k 14 - i))) := (port_at (B := Z) (k := k) (j := 14) (by decide)).trans ((Br.ok.gi okZ (k := k) hkc 14 rfl).trans (by rw [z14]))
          have hnq0 : (port (Br.ps Z) k).length = 89 := (port_typed okZ (i := k) hkc).1
          have hoq := Lib.hid (all_oneCell_toArray (port_typed okZ (i := k) hkc).one)
          obtain ⟨pq, hpq⟩ : ∃ p, port (Br.ps Z) k = p := ⟨_, rfl⟩
          rw [hpq] at hrq0 hnq0 hoq cq7 cq13 cq14 hbk
          clear hpq
          have hrq := Lib.hid hrq0
          clear hrq0
          have hiq := Lib.hid (show (Try.prog.info? 53).map (·.size) = some pq.length by rw [hnq0]; exact size_port)
          have hjq := Lib.hid (show (Try.prog.info? 53).map (·.size) = some pq.toArray.size by rw [List.size_toArray, hnq0]; exact size_port)
          have hsqz := Lib.hid (show PZ.size = pq.toArray.size by rw [List.size_toArray]; exact hnq0.symm)
          have hzq := zero_port
          clear hnq0
          clear hkc
          go_wp2_with (first
            | fail
            | ((with_reducible refine at_load 53 ?_); refine wpList_load_mid rfl 53 _ rfl gx (k * 89) rfl pq _ hrq.out Try.underlying53 rfl hiq.out ?_)
            | ((with_reducible refine at_store 53 ?_); refine wpList_store_new3 rfl rfl 53 _ _ _ rfl PZ pq.toArray _ rfl ?_ rfl hjq.out hsqz.out (by rw [Array.all_toList]; exact hoq.out) ?_; · rfl
               intro wfq hwf
               have hY := HXr.out.alloc (.cells pq.toArray 53)
               rw [← hwf] at hY
               have hE0 : Ext wr wfq := by rw [hwf]; exact (Ext.refl _).alloc _
               have E6 := EL.trans hE0
               have hbx := heap_alloc_new wr (.cells pq.toArray 53)
               rw [← hwf] at hbx
               have hxb := Lib.hid HXr.out.lt.1
               obtain ⟨fq, hfb⟩ : ∃ n, wr.heap.size = n := ⟨_, rfl⟩
               rw [hfb] at hbx hxb ⊢
               have HFq := Lib.hid hbx
               have HGq := hxb
               have H6x := Lib.hid hY
               have HFL := Lib.hid (show vq.heap.size ≤ fq by rw [← hfb]; exact EL.size)
               clear hwf hY hbx hxb hfb hE0 EL hzq))
          clear z7 z13 z14 c17 b17
          have qq7 : wfq.cell? ⟨fq, 7, none⟩ = some (.int .i64 (max 0 (B.gi k 7 - i))) := by rw [cell_of_row _ _ _ _ _ _ HFq.out]; simpa using cq7
          have qq13 : wfq.cell? ⟨fq, 13, none⟩ = some (.int .i64 (max 0 (B.gi k 13 - i))) := by rw [cell_of_row _ _ _ _ _ _ HFq.out]; simpa using cq13
          have qq14 : wfq.cell? ⟨fq, 14, none⟩ = some (.int .i64 (max 0 (B.gi k 14 - i))) := by rw [cell_of_row _ _ _ _ _ _ HFq.out]; simpa using cq14
          have EW := EQ.trans E6
          have hltq := heap_lt HFq.out
          have b17 := (EW.cell (p := ⟨bx, 17, none⟩) HS0.out).trans HB17.out
          have hbxw := Nat.lt_of_lt_of_le HS0.out EW.size
          have hbbw := Nat.lt_of_lt_of_le HBL.out (HE0.out.trans EW).size
          have hrp := rangeAt_ext (port_range HRG.out k) (HE0.out.trans EW) HBL.out
          have o7 : wfq.cell? ⟨bb, off + k * 89 + 7, none⟩ = some _ := hrp 7 _ ((port_at (B := B) (k := k) (j := 7) (by decide)).trans (ho.gi hk 7 rfl))
          have o13 : wfq.cell? ⟨bb, off + k * 89 + 13, none⟩ = some _ := hrp 13 _ ((port_at (B := B) (k := k) (j := 13) (by decide)).trans (ho.gi hk 13 rfl))
          have o14 : wfq.cell? ⟨bb, off + k * 89 + 14, none⟩ = some _ := hrp 14 _ ((port_at (B := B) (k := k) (j := 14) (by decide)).trans (ho.gi hk 14 rfl))
          have HRP := Lib.hid hrp
          clear hrp
          refine beginL (S := fun W' => Ext wfq W') (by kernel_rfl) ?_
          intro wd hqx
          have hq0 : Ext wfq wd := hqx
          refine takeL (i := 0) (v := (.pointer (some ⟨fq, 6, none⟩))) rfl (by kernel_rfl) (by kernel_rfl) (by kernel_rfl) (fun _ _ _ h => h) (Or.inl ⟨rfl, fun _ _ => rfl⟩) hq0 ?_
          simp only [Act.put, List.setIfInBounds_toArray, List.set_cons_zero, List.set_cons_succ]
          refine takeL (i := 1) (v := (.pointer (some ⟨fq, 7, none⟩))) rfl (by kernel_rfl) (by kernel_rfl) (by kernel_rfl) (fun _ _ _ h => h) (Or.inl ⟨rfl, fun _ _ => rfl⟩) hq0 ?_
          simp only [Act.put, List.setIfInBounds_toArray, List.set_cons_zero, List.set_cons_succ]
          refine takeL (i := 2) (v := _) rfl (by kernel_rfl) (by kernel_rfl) (by kernel_rfl) (fun _ _ _ h => h) (yieldsIf_cell rfl 3 _ rfl ⟨fq, 7, none⟩ rfl (.int .i64 (max 0 (B.gi k 7 - i))) _ (fun W' hW' => (hW'.cell (p := ⟨fq, 7, none⟩) hltq).trans qq7) Try.underlying3 rfl) hq0 ?_
          simp only [Act.put, List.setIfInBounds_toArray, List.set_cons_zero, List.set_cons_succ]
          refine takeL (i := 3) (v := (.pointer (some ⟨bx, 17, none⟩))) rfl (by kernel_rfl) (by kernel_rfl) (by kernel_rfl) (fun _ _ _ h => h) (Or.inl ⟨rfl, fun _ _ => rfl⟩) hq0 ?_
          simp only [Act.put, List.setIfInBounds_toArray, List.set_cons_zero, List.set_cons_succ]
          refine takeL (i := 4) (v := _) rfl (by kernel_rfl) (by kernel_rfl) (by kernel_rfl) (fun _ _ _ h => h) (yieldsIf_cell rfl 29 _ rfl ⟨bx, 17, none⟩ rfl (.slice (some ⟨bb, off, none⟩) B.np k1) _ (fun W' hW' => (hW'.cell (p := ⟨bx, 17, none⟩) hbxw).trans b17) Try.underlying29 rfl) hq0 ?_
          simp only [Act.put, List.setIfInBounds_toArray, List.set_cons_zero, List.set_cons_succ]
          refine takeL (i := 5) (v := (.int .i64 (k : Int))) rfl (by kernel_rfl) (by kernel_rfl) (by kernel_rfl) (fun _ _ _ h => h) (Or.inl ⟨rfl, fun _ _ => rfl⟩) hq0 ?_
          simp only [Act.put, List.setIfInBounds_toArray, List.set_cons_zero, List.set_cons_succ]
          refine takeL (i := 6) (v := (.pointer (some ⟨bb, off + k * 89, none⟩))) rfl (by kernel_rfl) (by kernel_rfl) (by kernel_rfl) (fun _ _ _ h => h) (Or.inl ⟨rfl, fun W' _ => by go_simp⟩) hq0 ?_
          simp only [Act.put, List.setIfInBounds_toArray, List.set_cons_zero, List.set_cons_succ]
          refine takeL (i := 7) (v := (.pointer (some ⟨bb, off + k * 89 + 6, none⟩))) rfl (by kernel_rfl) (by kernel_rfl) (by kernel_rfl) (fun _ _ _ h => h) (Or.inl ⟨rfl, fun _ _ => rfl⟩) hq0 ?_
          simp only [Act.put, List.setIfInBounds_toArray, List.set_cons_zero, List.set_cons_succ]
          refine takeL (i := 8) (v := (.pointer (some ⟨bb, off + k * 89 + 7, none⟩))) rfl (by kernel_rfl) (by kernel_rfl) (by kernel_rfl) (fun _ _ _ h => h) (Or.inl ⟨rfl, fun _ _ => rfl⟩) hq0 ?_
          simp only [Act.put, List.setIfInBounds_toArray, List.set_cons_zero, List.set_cons_succ]
          refine takeL (i := 9) (v := _) rfl (by kernel_rfl) (by kernel_rfl) (by kernel_rfl) (fun _ _ _ h => h) (yieldsIf_cell rfl 3 _ rfl ⟨bb, off + k * 89 + 7, none⟩ rfl (.int .i64 (B.gi k 7)) _ (fun W' hW' => (hW'.cell (p := ⟨bb, off + k * 89 + 7, none⟩) hbbw).trans o7) Try.underlying3 rfl) hq0 ?_
          simp only [Act.put, List.setIfInBounds_toArray, List.set_cons_zero, List.set_cons_succ]
          refine takeL (i := 10) (v := (.int .u8 i)) rfl (by kernel_rfl) (by kernel_rfl) (by kernel_rfl) (fun _ _ _ h => h) (Or.inl ⟨rfl, fun _ _ => rfl⟩) hq0 ?_
          simp only [Act.put, List.setIfInBounds_toArray, List.set_cons_zero, List.set_cons_succ]
          refine takeL (i := 11) (v := (.int .i64 i)) rfl (by kernel_rfl) (by kernel_rfl) (by kernel_rfl) (fun _ _ _ h => h) (Or.inl ⟨rfl, fun W' _ => by go_simp; exact r_wrap _ (by omega) (by omega)⟩) hq0 ?_
          simp only [Act.put, List.setIfInBounds_toArray, List.set_cons_zero, List.set_cons_succ]
          refine takeL (i := 12) (v := (.int .i64 (B.gi k 7 - i))) rfl (by kernel_rfl) (by kernel_rfl) (by kernel_rfl) (fun _ _ _ h => h) (Or.inl ⟨rfl, fun W' _ => by go_simp; exact r_wrap _ (by omega) (by omega)⟩) hq0 ?_
          simp only [Act.put, List.setIfInBounds_toArray, List.set_cons_zero, List.set_cons_succ]
          refine takeL (i := 13) (v := (.int .i64 (max 0 (B.gi k 7 - i)))) rfl (by kernel_rfl) (by kernel_rfl) (by kernel_rfl) (fun _ _ _ h => h) (Or.inl ⟨rfl, fun W' _ => by go_simp; split <;> omega⟩) hq0 ?_
          simp only [Act.put, List.setIfInBounds_toArray, List.set_cons_zero, List.set_cons_succ]
          refine takeL (i := 14) (v := (.bool false)) rfl (by kernel_rfl) (by kernel_rfl) (by kernel_rfl) (fun _ _ _ h => h) (Or.inl ⟨rfl, fun W' _ => by go_simp⟩) hq0 ?_
          simp only [Act.put, List.setIfInBounds_toArray, List.set_cons_zero, List.set_cons_succ]
          refine takeL (i := 15) (v := (.bool false)) rfl (by kernel_rfl) (by kernel_rfl) (by kernel_rfl) (fun _ _ _ h => h) (Or.inl ⟨rfl, fun _ _ => rfl⟩) hq0 ?_
          simp only [Act.put, List.setIfInBounds_toArray, List.set_cons_zero, List.set_cons_succ]
          refine takeL (i := 16) (v := (.pointer (some ⟨fq, 6, none⟩))) rfl (by kernel_rfl) (by kernel_rfl) (by kernel_rfl) (fun _ _ _ h => h) (Or.inl ⟨rfl, fun _ _ => rfl⟩) hq0 ?_
          simp only [Act.put, List.setIfInBounds_toArray, List.set_cons_zero, List.set_cons_succ]
          refine takeL (i := 17) (v := (.pointer (some ⟨fq, 13, none⟩))) rfl (by kernel_rfl) (by kernel_rfl) (by kernel_rfl) (fun _ _ _ h => h) (Or.inl ⟨rfl, fun _ _ => rfl⟩) hq0 ?_
          simp only [Act.put, List.setIfInBounds_toArray, List.set_cons_zero, List.set_cons_succ]
          refine takeL (i := 18) (v := _) rfl (by kernel_rfl) (by kernel_rfl) (by kernel_rfl) (fun _ _ _ h => h) (yieldsIf_cell rfl 3 _ rfl ⟨fq, 13, none⟩ rfl (.int .i64 (max 0 (B.gi k 13 - i))) _ (fun W' hW' => (hW'.cell (p := ⟨fq, 13, none⟩) hltq).trans qq13) Try.underlying3 rfl) hq0 ?_
          simp only [Act.put, List.setIfInBounds_toArray, List.set_cons_zero, List.set_cons_succ]
          refine takeL (i := 19) (v := (.pointer (some ⟨bx, 17, none⟩))) rfl (by kernel_rfl) (by kernel_rfl) (by kernel_rfl) (fun _ _ _ h => h) (Or.inl ⟨rfl, fun _ _ => rfl⟩) hq0 ?_
          simp only [Act.put, List.setIfInBounds_toArray, List.set_cons_zero, List.set_cons_succ]
          refine takeL (i := 20) (v := _) rfl (by kernel_rfl) (by kernel_rfl) (by kernel_rfl) (fun _ _ _ h => h) (yieldsIf_cell rfl 29 _ rfl ⟨bx, 17, none⟩ rfl (.slice (some ⟨bb, off, none⟩) B.np k1) _ (fun W' hW' => (hW'.cell (p := ⟨bx, 17, none⟩) hbxw).trans b17) Try.underlying29 rfl) hq0 ?_
          simp only [Act.put, List.setIfInBounds_toArray, List.set_cons_zero, List.set_cons_succ]
          refine takeL (i := 21) (v := (.int .i64 (k : Int))) rfl (by kernel_rfl) (by kernel_rfl) (by kernel_rfl) (fun _ _ _ h => h) (Or.inl ⟨rfl, fun _ _ => rfl⟩) hq0 ?_
          simp only [Act.put, List.setIfInBounds_toArray, List.set_cons_zero, List.set_cons_succ]
          refine takeL (i := 22) (v := (.pointer (some ⟨bb, off + k * 89, none⟩))) rfl (by kernel_rfl) (by kernel_rfl) (by kernel_rfl) (fun _ _ _ h => h) (Or.inl ⟨rfl, fun W' _ => by go_simp⟩) hq0 ?_
          simp only [Act.put, List.setIfInBounds_toArray, List.set_cons_zero, List.set_cons_succ]
          refine takeL (i := 23) (v := (.pointer (some ⟨bb, off + k * 89 + 6, none⟩))) rfl (by kernel_rfl) (by kernel_rfl) (by kernel_rfl) (fun _ _ _ h => h) (Or.inl ⟨rfl, fun _ _ => rfl⟩) hq0 ?_
          simp only [Act.put, List.setIfInBounds_toArray, List.set_cons_zero, List.set_cons_succ]
          refine takeL (i := 24) (v := (.pointer (some ⟨bb, off + k * 89 + 13, none⟩))) rfl (by kernel_rfl) (by kernel_rfl) (by kernel_rfl) (fun _ _ _ h => h) (Or.inl ⟨rfl, fun _ _ => rfl⟩) hq0 ?_
          simp only [Act.put, List.setIfInBounds_toArray, List.set_cons_zero, List.set_cons_succ]
          refine takeL (i := 25) (v := _) rfl (by kernel_rfl) (by kernel_rfl) (by kernel_rfl) (fun _ _ _ h => h) (yieldsIf_cell rfl 3 _ rfl ⟨bb, off + k * 89 + 13, none⟩ rfl (.int .i64 (B.gi k 13)) _ (fun W' hW' => (hW'.cell (p := ⟨bb, off + k * 89 + 13, none⟩) hbbw).trans o13) Try.underlying3 rfl) hq0 ?_
          simp only [Act.put, List.setIfInBounds_toArray, List.set_cons_zero, List.set_cons_succ]
          refine takeL (i := 26) (v := (.int .u8 i)) rfl (by kernel_rfl) (by kernel_rfl) (by kernel_rfl) (fun _ _ _ h => h) (Or.inl ⟨rfl, fun _ _ => rfl⟩) hq0 ?_
          simp only [Act.put, List.setIfInBounds_toArray, List.set_cons_zero, List.set_cons_succ]
          refine takeL (i := 27) (v := (.int .i64 i)) rfl (by kernel_rfl) (by kernel_rfl) (by kernel_rfl) (fun _ _ _ h => h) (Or.inl ⟨rfl, fun W' _ => by go_simp; exact r_wrap _ (by omega) (by omega)⟩) hq0 ?_
          simp only [Act.put, List.setIfInBounds_toArray, List.set_cons_zero, List.set_cons_succ]
          refine takeL (i := 28) (v := (.int .i64 (B.gi k 13 - i))) rfl (by kernel_rfl) (by kernel_rfl) (by kernel_rfl) (fun _ _ _ h => h) (Or.inl ⟨rfl, fun W' _ => by go_simp; exact r_wrap _ (by omega) (by omega)⟩) hq0 ?_
          simp only [Act.put, List.setIfInBounds_toArray, List.set_cons_zero, List.set_cons_succ]
          refine takeL (i := 29) (v := (.int .i64 (max 0 (B.gi k 13 - i)))) rfl (by kernel_rfl) (by kernel_rfl) (by kernel_rfl) (fun _ _ _ h => h) (Or.inl ⟨rfl, fun W' _ => by go_simp; split <;> omega⟩) hq0 ?_
          simp only [Act.put, List.setIfInBounds_toArray, List.set_cons_zero, List.set_cons_succ]
          refine takeL (i := 30) (v := (.bool false)) rfl (by kernel_rfl) (by kernel_rfl) (by kernel_rfl) (fun _ _ _ h => h) (Or.inl ⟨rfl, fun W' _ => by go_simp⟩) hq0 ?_
          simp only [Act.put, List.setIfInBounds_toArray, List.set_cons_zero, List.set_cons_succ]
          refine takeL (i := 31) (v := (.bool false)) rfl (by kernel_rfl) (by kernel_rfl) (by kernel_rfl) (fun _ _ _ h => h) (Or.inl ⟨rfl, fun _ _ => rfl⟩) hq0 ?_
          simp only [Act.put, List.setIfInBounds_toArray, List.set_cons_zero, List.set_cons_succ]
          refine takeL (i := 32) (v := (.bool false)) rfl (by kernel_rfl) (by kernel_rfl) (by kernel_rfl) (fun _ _ _ h => h) (Or.inl ⟨rfl, fun _ _ => rfl⟩) hq0 ?_
          simp only [Act.put, List.setIfInBounds_toArray, List.set_cons_zero, List.set_cons_succ]
          refine takeL (i := 33) (v := (.pointer (some ⟨fq, 6, none⟩))) rfl (by kernel_rfl) (by kernel_rfl) (by kernel_rfl) (fun _ _ _ h => h) (Or.inl ⟨rfl, fun _ _ => rfl⟩) hq0 ?_
          simp only [Act.put, List.setIfInBounds_toArray, List.set_cons_zero, List.set_cons_succ]
          refine takeL (i := 34) (v := (.pointer (some ⟨fq, 14, none⟩))) rfl (by kernel_rfl) (by kernel_rfl) (by kernel_rfl) (fun _ _ _ h => h) (Or.inl ⟨rfl, fun _ _ => rfl⟩) hq0 ?_
          simp only [Act.put, List.setIfInBounds_toArray, List.set_cons_zero, List.set_cons_succ]
          refine takeL (i := 35) (v := _) rfl (by kernel_rfl) (by kernel_rfl) (by kernel_rfl) (fun _ _ _ h => h) (yieldsIf_cell rfl 3 _ rfl ⟨fq, 14, none⟩ rfl (.int .i64 (max 0 (B.gi k 14 - i))) _ (fun W' hW' => (hW'.cell (p := ⟨fq, 14, none⟩) hltq).trans qq14) Try.underlying3 rfl) hq0 ?_
          simp only [Act.put, List.setIfInBounds_toArray, List.set_cons_zero, List.set_cons_succ]
          refine takeL (i := 36) (v := (.pointer (some ⟨bx, 17, none⟩))) rfl (by kernel_rfl) (by kernel_rfl) (by kernel_rfl) (fun _ _ _ h => h) (Or.inl ⟨rfl, fun _ _ => rfl⟩) hq0 ?_
          simp only [Act.put, List.setIfInBounds_toArray, List.set_cons_zero, List.set_cons_succ]
          refine takeL (i := 37) (v := _) rfl (by kernel_rfl) (by kernel_rfl) (by kernel_rfl) (fun _ _ _ h => h) (yieldsIf_cell rfl 29 _ rfl ⟨bx, 17, none⟩ rfl (.slice (some ⟨bb, off, none⟩) B.np k1) _ (fun W' hW' => (hW'.cell (p := ⟨bx, 17, none⟩) hbxw).trans b17) Try.underlying29 rfl) hq0 ?_
          simp only [Act.put, List.setIfInBounds_toArray, List.set_cons_zero, List.set_cons_succ]
          refine takeL (i := 38) (v := (.int .i64 (k : Int))) rfl (by kernel_rfl) (by kernel_rfl) (by kernel_rfl) (fun _ _ _ h => h) (Or.inl ⟨rfl, fun _ _ => rfl⟩) hq0 ?_
          simp only [Act.put, List.setIfInBounds_toArray, List.set_cons_zero, List.set_cons_succ]
          refine takeL (i := 39) (v := (.pointer (some ⟨bb, off + k * 89, none⟩))) rfl (by kernel_rfl) (by kernel_rfl) (by kernel_rfl) (fun _ _ _ h => h) (Or.inl ⟨rfl, fun W' _ => by go_simp⟩) hq0 ?_
          simp only [Act.put, List.setIfInBounds_toArray, List.set_cons_zero, List.set_cons_succ]
          refine takeL (i := 40) (v := (.pointer (some ⟨bb, off + k * 89 + 6, none⟩))) rfl (by kernel_rfl) (by kernel_rfl) (by kernel_rfl) (fun _ _ _ h => h) (Or.inl ⟨rfl, fun _ _ => rfl⟩) hq0 ?_
          simp only [Act.put, List.setIfInBounds_toArray, List.set_cons_zero, List.set_cons_succ]
          refine takeL (i := 41) (v := (.pointer (some ⟨bb, off + k * 89 + 14, none⟩))) rfl (by kernel_rfl) (by kernel_rfl) (by kernel_rfl) (fun _ _ _ h => h) (Or.inl ⟨rfl, fun _ _ => rfl⟩) hq0 ?_
          simp only [Act.put, List.setIfInBounds_toArray, List.set_cons_zero, List.set_cons_succ]
          refine takeL (i := 42) (v := _) rfl (by kernel_rfl) (by kernel_rfl) (by kernel_rfl) (fun _ _ _ h => h) (yieldsIf_cell rfl 3 _ rfl ⟨bb, off + k * 89 + 14, none⟩ rfl (.int .i64 (B.gi k 14)) _ (fun W' hW' => (hW'.cell (p := ⟨bb, off + k * 89 + 14, none⟩) hbbw).trans o14) Try.underlying3 rfl) hq0 ?_
          simp only [Act.put, List.setIfInBounds_toArray, List.set_cons_zero, List.set_cons_succ]
          refine takeL (i := 43) (v := (.int .u8 i)) rfl (by kernel_rfl) (by kernel_rfl) (by kernel_rfl) (fun _ _ _ h => h) (Or.inl ⟨rfl, fun _ _ => rfl⟩) hq0 ?_
          simp only [Act.put, List.setIfInBounds_toArray, List.set_cons_zero, List.set_cons_succ]
          refine takeL (i := 44) (v := (.int .i64 i)) rfl (by kernel_rfl) (by kernel_rfl) (by kernel_rfl) (fun _ _ _ h => h) (Or.inl ⟨rfl, fun W' _ => by go_simp; exact r_wrap _ (by omega) (by omega)⟩) hq0 ?_
          simp only [Act.put, List.setIfInBounds_toArray, List.set_cons_zero, List.set_cons_succ]
          refine takeL (i := 45) (v := (.int .i64 (B.gi k 14 - i))) rfl (by kernel_rfl) (by kernel_rfl) (by kernel_rfl) (fun _ _ _ h => h) (Or.inl ⟨rfl, fun W' _ => by go_simp; exact r_wrap _ (by omega) (by omega)⟩) hq0 ?_
          simp only [Act.put, List.setIfInBounds_toArray, List.set_cons_zero, List.set_cons_succ]
          refine takeL (i := 46) (v := (.int .i64 (max 0 (B.gi k 14 - i)))) rfl (by kernel_rfl) (by kernel_rfl) (by kernel_rfl) (fun _ _ _ h => h) (Or.inl ⟨rfl, fun W' _ => by go_simp; split <;> omega⟩) hq0 ?_
          simp only [Act.put, List.setIfInBounds_toArray, List.set_cons_zero, List.set_cons_succ]
          refine takeL (i := 47) (v := (.bool false)) rfl (by kernel_rfl) (by kernel_rfl) (by kernel_rfl) (fun _ _ _ h => h) (Or.inl ⟨rfl, fun W' _ => by go_simp⟩) hq0 ?_
          simp only [Act.put, List.setIfInBounds_toArray, List.set_cons_zero, List.set_cons_succ]
          refine takeL (i := 48) (v := (.bool false)) rfl (by kernel_rfl) (by kernel_rfl) (by kernel_rfl) (fun _ _ _ h => h) (Or.inl ⟨rfl, fun _ _ => rfl⟩) hq0 ?_
          simp only [Act.put, List.setIfInBounds_toArray, List.set_cons_zero, List.set_cons_succ]
          refine wpAnyH_done (by kernel_rfl) ?_ _
          have E2 := Ext.trans E6 hq0
          have HF2 := Lib.hid ((hq0.block _ hltq).trans HFq.out)
          have HRP2 := Lib.hid (rangeAt_ext HRP.out hq0 hbbw)
          have b17 := (hq0.cell (p := ⟨bx, 17, none⟩) hbxw).trans b17
          generalize wd = wd2 at *
          have hnp9 : (port B.ps k).length = 89 := (port_typed ho hk).1
          obtain ⟨cl, hcl⟩ : ∃ cl, ((port B.ps k).drop 6).take 9 = cl := ⟨_, rfl⟩
          have hlc9 : cl.length = 9 := by rw [← hcl]; simp [hnp9]
          have HCR := Lib.hid (show wd2.rangeAt bb (off + k * 89 + 6) cl by rw [← hcl]; exact rangeAt_sub HRP2.out 6 9)
          have HCL := Lib.hid (show (Try.prog.info? 45).map (·.size) = some cl.length by rw [hlc9]; exact HCI.out)
          have HCL2 := Lib.hid (show (Try.prog.info? 45).map (·.size) = some cl.toArray.size by rw [List.size_toArray]; exact HCL.out)
          have HCO := Lib.hid (show cl.toArray.toList.all (·.oneCell') = true from by
            rw [List.all_eq_true]
            intro v hv
            have hv2 : v ∈ port B.ps k := by
              have h1 : v ∈ cl := by simpa using hv
              rw [← hcl] at h1
              exact List.mem_of_mem_drop (List.mem_of_mem_take h1)
            exact (port_typed ho hk).one v hv2)
          rw [hcl] at hbk
          have HNW := Lib.hid (r_back_row hbk hlc9)
          have HPL := Lib.hid (show pq.length = 89 from by
            have h := hjq.out
            rw [List.size_toArray] at h
            have h2 := size_port
            rw [h] at h2
            simpa using h2)
          have HBD := Lib.hid (show 6 + cl.toArray.size ≤ pq.toArray.size by rw [List.size_toArray, List.size_toArray, hlc9, HPL.out]; decide)
          clear hcl hbk o7 qq7 o13 qq13 o14 qq14
          go_wp2_with (first
            | fail
            | ((with_reducible refine at_load 45 ?_); refine wpList_load_mid rfl 45 _ rfl bb (off + k * 89 + 6) rfl cl _ HCR.out Try.underlying45 rfl HCL.out ?_)
            | ((with_reducible refine at_store 45 ?_); refine st_at rfl rfl 45 _ _ rfl fq 6 _ cl.toArray pq.toArray (port B.ps k).toArray _ rfl rfl rfl HF2.out HBD.out HCL2.out HCO.out HNW.out ?_
               intro wg hq hm
               have HG := Lib.hid hq
               have EG : Ext vq wg := Ext.mutE E2 hm (fun n hn h => by have h2 : n = fq := h; have := HFL.out; omega)
               have EG2 := EQ.trans EG
               have g17 := (EG2.cell (p := ⟨bx, 17, none⟩) HS0.out).trans HB17.out
               clear hq hm b17))
          have ht := Lib.hid (port_typed ho hk)
          have hz : Hid ((Try.prog.info? 53).map (·.size) = some (port B.ps k).length) := Lib.hid (by rw [ht.out.1]; exact size_port)
          have hp := Lib.hid (show wg.rangeAt fq 0 (port B.ps k) from row_range HG.out 0 (by rw [List.drop_zero]; simp))
          have hq := Lib.hid (rangeAt_ext (port_range HRG.out k) (HE0.out.trans EG2) HBL.out)
          refine wp_region_quiet_lit (by kernel_rfl) (by kernel_rfl) ?_
          refine wpQuiet_load_mid rfl 53 _ rfl fq 0 rfl (port B.ps k) _ (range_drewN hp.out) Try.underlying53 rfl hz.out ?_
          simp only [Act.put, List.setIfInBounds_toArray, List.set_cons_succ, List.set_cons_zero]
          iterate 4 (go_big_quiet_step (fail))
          refine wpQuiet_load_mid rfl 53 _ rfl bb (off + k * 89) rfl (port B.ps k) _ (range_drewN hq.out) Try.underlying53 rfl hz.out ?_
          simp only [Act.put, List.setIfInBounds_toArray, List.set_cons_succ, List.set_cons_zero]
          refine wpQuiet_neq rfl 53 _ _ rfl (port B.ps k) rfl rfl Try.underlying53 (by decide) lay_port ht.out guard_port ?_
          refine wpQuiet_nil ?_
          intro _ hw'
          obtain ⟨nq, hw''⟩ := hw'
          subst hw''
          go_wp2_with fail
          go_roundw
          case rel => exact ⟨k + 1, by omega, by go_num, EG.drewN _⟩
          case measure => simp [intOf]; omega
        · have b17 := (EL.cell (p := ⟨bx, 17, none⟩) hbxq).trans B17.out
          have hfX := HXr.out.frozenX 17
          have c17 := (EL.cell (p := ⟨X, 17, none⟩) hXlt).trans X17.out
          have hXlw := HXr.out.lt.1
          have EW := EQ.trans EL
          go_wp2_with fail
          generalize hwz : World.setCell wr _ _ = wz
          have hm := ((Mut.refl (fun n => Nx ≤ n ∧ n < X + 1) wr).setCell (p := ⟨X, 17, none⟩) (.inl HXr.out.F1) (.slice (some ⟨bb, off, none⟩) B.np k1))
          have EZ := Ext.mutE EW hm (fun n hn h1 => by have := h1.1; have := hsx.out; omega)
          obtain ⟨D, hD, hDb, hDz⟩ := HXr.out.swap2 okZ.hd.1 HHD.out HRS.out (R1.out.ext (HE0.out.trans EZ))
          rw [hwz] at EZ hD hDb
          have HD := Lib.hid hD
          have HDb := Lib.hid hDb
          have HDi := Lib.hid (show (Try.prog.info? 33).map (·.size) = some D.size by rw [hDz]; exact size_br)
          clear hwz hD hDb hDz hm hfX b17 c17
          have hbb := Lib.hid ((EZ.block _ HS0.out).trans HL0.out)
          have hbw := Lib.hid (HB0.out.ext EZ)
          refine beginL (S := fun W' => Ext wz W') (by kernel_rfl) ?_
          intro wd hq0
          refine takeL (i := 0) (v := (.bool true)) rfl (by kernel_rfl) (by kernel_rfl) (by kernel_rfl) (fun _ _ _ h => h) (Or.inl ⟨rfl, fun _ _ => rfl⟩) hq0 ?_
          simp only [Act.put, List.setIfInBounds_toArray, List.set_cons_zero, List.set_cons_succ]
          refine takeL (i := 1) (v := (.bool true)) rfl (by kernel_rfl) (by kernel_rfl) (by kernel_rfl) (fun _ _ _ h => h) (Or.inl ⟨rfl, fun _ _ => rfl⟩) hq0 ?_
          simp only [Act.put, List.setIfInBounds_toArray, List.set_cons_zero, List.set_cons_succ]
          refine takeL (i := 2) (v := _) rfl (by kernel_rfl) (by kernel_rfl) (by kernel_rfl) (fun _ _ _ h => h) (yieldsIf_load_row rfl 33 _ rfl X rfl D _ _ HD.out Try.underlying33 rfl HDi.out) hq0 ?_
          simp only [Act.put, List.setIfInBounds_toArray, List.set_cons_zero, List.set_cons_succ]
          refine takeL (i := 3) (v := _) rfl (by kernel_rfl) (by kernel_rfl) (by kernel_rfl) (fun _ _ _ h => h) (yieldsIf_load_row rfl 33 _ rfl bx rfl c _ _ hbb.out Try.underlying33 rfl hi20.out) hq0 ?_
          simp only [Act.put, List.setIfInBounds_toArray, List.set_cons_zero, List.set_cons_succ]
          refine runG (i := 4) rfl (by rfl) (by kernel_rfl) (fun K hK => ?_)
          go_simp
          refine (clone_any c B _ (hbw.out.ext hq0) ho HN.out).mono ?_
          rintro e y1 ⟨cy, rfl, hOy, hx⟩
          have hq1 := Ext.trans hq0 hx
          clear hx hq0
          have hyc := Lib.hid (OwnC.br hOy)
          clear hOy
          refine hK.out _ _ hq1 (fun hHeld => ?_)
          try simp only [Act.put, List.setIfInBounds_toArray, List.set_cons_zero, List.set_cons_succ]
          clear hK K hHeld
          refine runG (i := 5) rfl (by rfl) (by kernel_rfl) (fun K hK => ?_)
          go_simp
          refine (same_any D cy B _ (HDb.out.ext (hq1)) hyc.out ho).mono ?_
          rintro e y2 ⟨rfl, hx⟩
          have hq2 := Ext.trans hq1 hx
          clear hx hq1
          refine hK.out _ _ hq2 (fun hHeld => ?_)
          try simp only [Act.put, List.setIfInBounds_toArray, List.set_cons_zero, List.set_cons_succ]
          clear hK K hHeld
          refine takeL (i := 6) (v := (.bool true)) rfl (by kernel_rfl) (by kernel_rfl) (by kernel_rfl) (fun _ _ _ h => h) (Or.inl ⟨rfl, fun _ _ => rfl⟩) hq2 ?_
          simp only [Act.put, List.setIfInBounds_toArray, List.set_cons_zero, List.set_cons_succ]
          refine takeL (i := 7) (v := (.bool true)) rfl (by kernel_rfl) (by kernel_rfl) (by kernel_rfl) (fun _ _ _ h => h) (Or.inl ⟨rfl, fun _ _ => rfl⟩) hq2 ?_
          simp only [Act.put, List.setIfInBounds_toArray, List.set_cons_zero, List.set_cons_succ]
          refine wpAnyH_done (by kernel_rfl) ?_ _
          go_wp2_with fail
          all_goals
            go_ret
            exact ⟨rfl, HE0.out.trans (EZ.trans hq2)⟩

end Go.Proofs.Ytnblchilgaimhaa
