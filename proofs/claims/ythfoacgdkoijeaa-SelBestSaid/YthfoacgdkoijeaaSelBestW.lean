/- The walk of SelBest. No statement is proved here. -/
import Derived.Test.YthfoacgdkoijeaaSelS
import Derived.Test.YthfoacgdkoijeaaSelL
import Derived.Test.YthfoacgdkoijeaaInfI
import Derived.Test.YthfoacgdkoijeaaVecJ
namespace Go.Proofs.Ythfoacgdkoijeaa
open Go.RowKit Go.BigFrame Go.WideShapes Go.ChangeShapes Go.Deep
set_option linter.unusedVariables false
set_option linter.unusedSimpArgs false

set_option maxRecDepth 100000 in
set_option maxHeartbeats 4000000 in
theorem law_SelBest {w : World} (c : Array Value) (B : Br) (hb : BrC w c B) (ho : B.ok) :
    Calls Try.prog 11 #[.agg c] w fun e w' => e = .returned (.bool true) ∧ Ext w w' := by
  have hz0 : c.size = 20 := by
    obtain ⟨_, _, _, h, _⟩ := hb.facts ho.hd.1
    exact h
  have hi20 := Lib.hid (show (Try.prog.info? 33).map (·.size) = some c.size by rw [hz0]; exact size_br)
  have HCZ := Lib.hid hz0
  have hE00 : Ext w (w.alloc (.cells c 33)) := ((Ext.refl w).alloc _)
  have hL00 : (w.alloc (.cells c 33)).heap[w.heap.size]? = some (.cells c 33 (0, 0)) := heap_alloc_new _ _
  have hS00 : w.heap.size < (w.alloc (.cells c 33)).heap.size := heap_lt hL00
  have hB00 := hb.ext hE00
  clear hz0
  have HP := Lib.hid hb
  clear hb
  have HhE00 := Lib.hid hE00
  have HhL00 := Lib.hid hL00
  have HhS00 := Lib.hid hS00
  have HhB00 := Lib.hid hB00
  clear hE00 hL00 hS00 hB00
  go_enter Try.func11, Try.ntmps11
  go_wp2_with fail
  have hE00 := HhE00.out
  clear HhE00
  have hL00 := HhL00.out
  clear HhL00
  have hS00 := HhS00.out
  clear HhS00
  have hB00 := HhB00.out
  clear HhB00
  generalize (w.alloc (.cells c 33)) = W0 at *
  obtain ⟨bx, hq⟩ : ∃ n, w.heap.size = n := ⟨_, rfl⟩
  rw [hq] at hL00 hS00 ⊢
  have HE0 := Lib.hid hE00
  have HL0 := Lib.hid hL00
  have HB0 := Lib.hid hB00
  have HS0 := Lib.hid hS00
  have HWB := Lib.hid hq
  clear hE00 hL00 hB00 hS00 hq
  refine (sel_awake _).mono ?_
  rintro e v1 ⟨rfl, E1⟩
  go_wp2_with (first | fail | ((with_reducible refine at_load 33 ?_); refine wpList_load_row rfl 33 _ rfl bx rfl 33 c (0, 0) _ ((E1.block _ HS0.out).trans HL0.out) Try.underlying33 rfl hi20.out ?_))
  refine (few_any c B _ (HB0.out.ext E1) ho).mono ?_
  rintro e v2 ⟨f, rfl, hx2, hf⟩
  have E2 := Ext.trans E1 hx2
  clear E1 hx2
  cases f
  · go_wp2_with fail
    go_ret
    exact ⟨rfl, HE0.out.trans E2⟩
  have hfew := Lib.hid (hf.1 rfl)
  clear hf
  have hn1 := hfew.out.2.1
  have HN := Lib.hid (show B.np ≤ 1000 ∧ B.no ≤ 1000 ∧ B.nf ≤ 1000 by have := hfew.out; omega)
  have hn8 : B.np < 1000 := by have := hfew.out; omega
  obtain ⟨s1, s2, s3, hz0, hhd, c17b, c18b, c19b, r1, r2, r3⟩ := HP.out.facts ho.hd.1
  obtain ⟨a1, k1, rfl, m1, f1⟩ := r1.form
  obtain ⟨bb, off, rfl, hbl, hlc, hcm, hrg⟩ := f1 (by omega)
  have HB17 := Lib.hid (show W0.cell? ⟨bx, 17, none⟩ = some (.slice (some ⟨bb, off, none⟩) B.np k1) by rw [cell_of_row _ _ _ _ _ _ HL0.out]; exact c17b)
  have HRG := Lib.hid hrg
  have HBL := Lib.hid hbl
  clear hz0 hhd c18b c19b r2 r3 r1 hrg c17b f1 hbl
  have HR78 := Lib.hid (show ∀ k, k < B.np → 0 ≤ B.gi k 78 ∧ B.gi k 78 ≤ 65535 from fun k hk => ⟨(hfew.out.1.2 k hk).2.1.1, (hfew.out.1.2 k hk).2.1.2.1⟩)
  go_wp2_with (first
    | fail
    | ((with_reducible refine at_load 33 ?_); refine wpList_load_row rfl 33 _ rfl bx rfl 33 c (0, 0) _ ((E2.block _ HS0.out).trans HL0.out) Try.underlying33 rfl hi20.out ?_))
  refine (root_any c B _ (HB0.out.ext E2) ho hn8).mono ?_
  rintro e v3 ⟨rfl, hx⟩
  have E3 := Ext.trans E2 hx
  clear hx E2
  have hown := rootF_own B B.np
  have hoff := rootF_off B B.np
  have hrg : -1 ≤ (rootF B B.np).at_ ∧ (rootF B B.np).at_ < B.np := by
    rcases rootF_rg B B.np with h | ⟨k, hk, h⟩ <;> rw [h] <;> omega
  obtain ⟨V, hV⟩ : ∃ v, rootF B B.np = v := ⟨_, rfl⟩
  rw [hV] at hown hoff hrg ⊢
  clear hV
  obtain ⟨vr, vc, vb, vp, vx, va⟩ := V
  dsimp only at hown hrg
  dsimp only [R5.cells]
  have HOF := Lib.hid (show ∀ k, k < B.np → offers B k = true → c5 vr vc vb vp vx (B.gi k 68) (thr (B.gi k 69) (B.gi k 1)) (B.gi k 70) (B.gi k 71) (B.gi k 0) ≤ 0 from hoff)
  clear hoff
  obtain ⟨rg1, rg2⟩ := hrg
  have hz0 := Lib.hid HL0.out
  obtain ⟨q1, q2, q3, hcz, hhd, -, -, -, -, -, -⟩ := HP.out.facts ho.hd.1
  clear hz0
  have HBR := Lib.hid ((E3.block _ HS0.out).trans HL0.out)
  have b2 := (cell_of_row _ _ 2 _ _ _ HBR.out).trans ((hhd 2 (by decide)).trans (ho.hi 2 rfl))
  have b3 := (cell_of_row _ _ 3 _ _ _ HBR.out).trans ((hhd 3 (by decide)).trans (ho.hi 3 rfl))
  have b4 := (cell_of_row _ _ 4 _ _ _ HBR.out).trans ((hhd 4 (by decide)).trans (ho.hi 4 rfl))
  have b5 := (cell_of_row _ _ 5 _ _ _ HBR.out).trans ((hhd 5 (by decide)).trans (ho.hi 5 rfl))
  have RBT := Lib.hid (show v3.rangeAt bx 2 [.int .i64 (B.hi 2), .int .i64 (B.hi 3), .int .i64 (B.hi 4), .int .i64 (B.hi 5)] from rcons b2 (rcons b3 (rcons b4 (rcons b5 rnil))))
  clear b2 b3 b4 b5
  have B0c := Lib.hid ((cell_of_row _ _ 0 _ _ _ HBR.out).trans ((hhd 0 (by decide)).trans (ho.hi 0 rfl)))
  have hbxl := Nat.lt_of_lt_of_le HS0.out E3.size
  clear hhd hcz
  have B17 := Lib.hid ((E3.cell (p := ⟨bx, 17, none⟩) HS0.out).trans HB17.out)
  have HBV := Lib.hid (show bb < v3.heap.size from Nat.lt_of_lt_of_le HBL.out (HE0.out.trans E3).size)
  have hrb := Lib.hid (rangeAt_ext HRG.out (HE0.out.trans E3) HBL.out)
  have hzv := zero_vec
  go_wp2_with (first
    | fail
    | ((with_reducible refine at_alloc 28 ?_); refine al_zero rfl 28 rfl VZ zero_vec ?_
       intro N0 z1 hq hs hx
       have HN_z1 := Lib.hid hq
       have hE_z1 : Ext v3 z1 := hx
       have hN0 : v3.heap.size ≤ N0 := by omega
       clear hq hs hx)
    | ((with_reducible refine at_store 28 ?_); refine st_at rfl rfl 28 _ _ rfl N0 0 _ #[.int .u64 vr, .int .u32 vc, .int .u64 vb, .int .u16 vp, .int .u16 vx] _ #[.int .u64 vr, .int .u32 vc, .int .u64 vb, .int .u16 vp, .int .u16 vx] _ rfl rfl rfl HN_z1.out (by exact (by decide : 0 + 5 ≤ 5)) (by kernel_rfl) rfl rfl ?_
       intro z2 hq hm
       have HN_z2 := Lib.hid hq
       have hE_z2 : Ext v3 z2 := Ext.mutE hE_z1 hm (fun n hn h => by have h2 : n = N0 := h; omega)
       have b0 := (hE_z2.cell (p := ⟨bx, 0, none⟩) hbxl).trans B0c.out
       clear hq hm)
    | ((with_reducible refine at_load 28 ?_); refine wpList_load_row rfl 28 _ rfl N0 rfl 28 #[.int .u64 vr, .int .u32 vc, .int .u64 vb, .int .u16 vp, .int .u16 vx] (0, 0) _ HN_z2.out Try.underlying28 rfl (by exact size_vec) ?_))
  obtain ⟨z, hz⟩ : ∃ z, c5 vr vc vb vp vx (B.hi 0) 0 (B.hi 0) 0 0 = z := ⟨_, rfl⟩
  rw [hz] at hown
  refine (asi (ref_cmp vr vc vb vp vx (B.hi 0) 0 (B.hi 0) 0 0 _) hz).mono ?_
  rintro e v4 ⟨rfl, hx⟩
  have HNV := Lib.hid ((hx.block _ (heap_lt HN_z2.out)).trans HN_z2.out)
  have EV := Lib.hid (hE_z2.trans hx)
  clear hx hE_z2 hE_z1 HN_z2 HN_z1 hz b0
  have b17 := (EV.out.cell (p := ⟨bx, 17, none⟩) hbxl).trans B17.out
  go_wp2_with fail
  clear b17 hown
  have HNq := Lib.hid (show N0 < v4.heap.size from heap_lt HNV.out)
  go_loopw [7] (fun i wr => ∃ n : Nat, n ≤ B.np ∧ i = .int .i64 n ∧ Ext v4 wr) (fun i _ => B.np - (intOf i).toNat)
  case atStart => exact ⟨0, by omega, rfl, Ext.refl _⟩
  case round =>
    obtain ⟨k, hn, rfl, EL⟩ := hrel
    have b17 := ((EV.out.trans EL).cell (p := ⟨bx, 17, none⟩) hbxl).trans B17.out
    by_cases hk : k < B.np
    · have hkn8 : k < 1000 := by omega
      have hbbw := Nat.lt_of_lt_of_le HBV.out (EV.out.trans EL).size
      have hrq0 := rangeAt_ext (port_range hrb.out k) (EV.out.trans EL) HBV.out
      have cq0 : (port B.ps k)[0]? = some (.int .u16 (B.gi k 0)) := (port_at (B := B) (k := k) (j := 0) (by decide)).trans (ho.gi hk 0 rfl)
      have cq1 : (port B.ps k)[1]? = some (.int .u32 (B.gi k 1)) := (port_at (B := B) (k := k) (j := 1) (by decide)).trans (ho.gi hk 1 rfl)
      have cq68 : (port B.ps k)[68]? = some (.int .u64 (B.gi k 68)) := (port_at (B := B) (k := k) (j := 68) (by decide)).trans (ho.gi hk 68 rfl)
      have cq69 : (port B.ps k)[69]? = some (.int .u32 (B.gi k 69)) := (port_at (B := B) (k := k) (j := 69) (by decide)).trans (ho.gi hk 69 rfl)
      have cq70 : (port B.ps k)[70]? = some (.int .u64 (B.gi k 70)) := (port_at (B := B) (k := k) (j := 70) (by decide)).trans (ho.gi hk 70 rfl)
      have cq71 : (port B.ps k)[71]? = some (.int .u16 (B.gi k 71)) := (port_at (B := B) (k := k) (j := 71) (by decide)).trans (ho.gi hk 71 rfl)
      have cq72 : (port B.ps k)[72]? = some (.int .u16 (B.gi k 72)) := (port_at (B := B) (k := k) (j := 72) (by decide)).trans (ho.gi hk 72 rfl)
      have cq86 : (port B.ps k)[86]? = some (.int .i64 (B.gi k 86)) := (port_at (B := B) (k := k) (j := 86) (by decide)).trans (ho.gi hk 86 rfl)
      have hnq0 : (port B.ps k).length = 89 := (port_typed ho (i := k) hk).1
      have hoq := Lib.hid (all_oneCell_toArray (port_typed ho (i := k) hk).one)
      obtain ⟨pq, hpq⟩ : ∃ p, port B.ps k = p := ⟨_, rfl⟩
      rw [hpq] at hrq0 hnq0 hoq cq0 cq1 cq68 cq69 cq70 cq71 cq72 cq86
      clear hpq
      have hrq := Lib.hid hrq0
      clear hrq0
      have hiq := Lib.hid (show (Try.prog.info? 51).map (·.size) = some pq.length by rw [hnq0]; exact size_port)
      have hjq := Lib.hid (show (Try.prog.info? 51).map (·.size) = some pq.toArray.size by rw [List.size_toArray, hnq0]; exact size_port)
      have hsqz := Lib.hid (show PZ.size = pq.toArray.size by rw [List.size_toArray]; exact hnq0.symm)
      have hzq := zero_port
      clear hnq0
      go_wp2_with (first
        | fail
        | ((with_reducible refine at_load 51 ?_); refine wpList_load_mid rfl 51 _ rfl bb (off + k * 89) rfl pq _ hrq.out Try.underlying51 rfl hiq.out ?_)
        | ((with_reducible refine at_store 51 ?_); refine wpList_store_new3 rfl rfl 51 _ _ _ rfl PZ pq.toArray _ rfl ?_ rfl hjq.out hsqz.out (by rw [Array.all_toList]; exact hoq.out) ?_; · rfl
           intro wfq hwf
           have hE0 : Ext wr wfq := by rw [hwf]; exact (Ext.refl _).alloc _
           have E5 := EL.trans hE0
           have hbx := heap_alloc_new wr (.cells pq.toArray 51)
           rw [← hwf] at hbx
           obtain ⟨fq, hfb⟩ : ∃ n, wr.heap.size = n := ⟨_, rfl⟩
           rw [hfb] at hbx ⊢
           have HFq := Lib.hid hbx
           clear hwf hbx hfb hE0 EL hzq))
      clear b17
      have hEa := EV.out.trans E5
      have hbxv := Nat.lt_of_lt_of_le hbxl hEa.size
      have hN0v := Nat.lt_of_lt_of_le HNq.out E5.size
      have b0 := (hEa.cell (p := ⟨bx, 0, none⟩) hbxl).trans B0c.out
      have HNv := Lib.hid ((E5.block _ HNq.out).trans HNV.out)
      obtain ⟨t, ht⟩ : ∃ t, (B.gi k 86 == 3) = t := ⟨_, rfl⟩
      obtain ⟨sm, hsm⟩ : ∃ t, (IntKind.u64.wrap (B.gi k 70 * 65536) == IntKind.u64.wrap (B.hi 0 * 65536)) = t := ⟨_, rfl⟩
      have HOK := Lib.hid (show t = true → sm = false → offers B k = true from fun e1 e2 => by
        subst e1 e2
        unfold offers
        rw [ht]
        have hs : sameA (B.gi k 70) (B.hi 0) = false := wrap16 hsm
        rw [hs]
        rfl)
      cases t
      · have qq0 : wfq.cell? ⟨fq, 0, none⟩ = some (.int .u16 (B.gi k 0)) := by rw [cell_of_row _ _ _ _ _ _ HFq.out]; simpa using cq0
        have qq1 : wfq.cell? ⟨fq, 1, none⟩ = some (.int .u32 (B.gi k 1)) := by rw [cell_of_row _ _ _ _ _ _ HFq.out]; simpa using cq1
        have qq68 : wfq.cell? ⟨fq, 68, none⟩ = some (.int .u64 (B.gi k 68)) := by rw [cell_of_row _ _ _ _ _ _ HFq.out]; simpa using cq68
        have qq69 : wfq.cell? ⟨fq, 69, none⟩ = some (.int .u32 (B.gi k 69)) := by rw [cell_of_row _ _ _ _ _ _ HFq.out]; simpa using cq69
        have qq70 : wfq.cell? ⟨fq, 70, none⟩ = some (.int .u64 (B.gi k 70)) := by rw [cell_of_row _ _ _ _ _ _ HFq.out]; simpa using cq70
        have qq71 : wfq.cell? ⟨fq, 71, none⟩ = some (.int .u16 (B.gi k 71)) := by rw [cell_of_row _ _ _ _ _ _ HFq.out]; simpa using cq71
        have qq72 : wfq.cell? ⟨fq, 72, none⟩ = some (.int .u16 (B.gi k 72)) := by rw [cell_of_row _ _ _ _ _ _ HFq.out]; simpa using cq72
        have qq86 : wfq.cell? ⟨fq, 86, none⟩ = some (.int .i64 (B.gi k 86)) := by rw [cell_of_row _ _ _ _ _ _ HFq.out]; simpa using cq86
        have hltq : fq < wfq.heap.size := heap_lt HFq.out
        have RRq68 := Lib.hid (show wfq.rangeAt fq 68 [Value.int .u64 (B.gi k 68), Value.int .u32 (B.gi k 69), Value.int .u64 (B.gi k 70), Value.int .u16 (B.gi k 71), Value.int .u16 (B.gi k 72)] from (range_cons qq68 (range_cons qq69 (range_cons qq70 (range_cons qq71 (range_cons qq72 range_nil))))))
        refine beginL (S := fun W' => Ext wfq W') (by kernel_rfl) ?_
        intro wd hqx
        have hq0 : Ext wfq wd := hqx
        refine takeL (i := 0) (v := (.pointer (some ⟨fq, 86, none⟩))) rfl (by kernel_rfl) (by kernel_rfl) (by kernel_rfl) (fun _ _ _ h => h) (Or.inl ⟨rfl, fun _ _ => rfl⟩) hq0 ?_
        simp only [Act.put, List.setIfInBounds_toArray, List.set_cons_zero, List.set_cons_succ]
        refine takeL (i := 1) (v := _) rfl (by kernel_rfl) (by kernel_rfl) (by kernel_rfl) (fun _ _ _ h => h) (yieldsIf_cell rfl 3 _ rfl ⟨fq, 86, none⟩ rfl (.int .i64 (B.gi k 86)) _ (fun W' hW' => (hW'.cell (p := ⟨fq, 86, none⟩) hltq).trans qq86) Try.underlying3 rfl) hq0 ?_
        simp only [Act.put, List.setIfInBounds_toArray, List.set_cons_zero, List.set_cons_succ]
        refine takeL (i := 2) (v := (.bool false)) rfl (by kernel_rfl) (by kernel_rfl) (by kernel_rfl) (fun _ _ _ h => h) (Or.inl ⟨rfl, fun W' _ => by go_simp⟩) hq0 ?_
        simp only [Act.put, List.setIfInBounds_toArray, List.set_cons_zero, List.set_cons_succ]
        refine takeL (i := 3) (v := (.bool false)) rfl (by kernel_rfl) (by kernel_rfl) (by kernel_rfl) (fun _ _ _ h => h) (Or.inl ⟨rfl, fun _ _ => rfl⟩) hq0 ?_
        simp only [Act.put, List.setIfInBounds_toArray, List.set_cons_zero, List.set_cons_succ]
        refine takeL (i := 4) (v := undef) rfl (by kernel_rfl) (by kernel_rfl) (by kernel_rfl) (fun _ _ _ h => h) (Or.inr ⟨rfl, rfl⟩) hq0 ?_
        simp only [Act.put, List.setIfInBounds_toArray, List.set_cons_zero, List.set_cons_succ]
        refine takeL (i := 5) (v := undef) rfl (by kernel_rfl) (by kernel_rfl) (by kernel_rfl) (fun _ _ _ h => h) (Or.inr ⟨rfl, rfl⟩) hq0 ?_
        simp only [Act.put, List.setIfInBounds_toArray, List.set_cons_zero, List.set_cons_succ]
        refine takeL (i := 6) (v := undef) rfl (by kernel_rfl) (by kernel_rfl) (by kernel_rfl) (fun _ _ _ h => h) (Or.inr ⟨rfl, rfl⟩) hq0 ?_
        simp only [Act.put, List.setIfInBounds_toArray, List.set_cons_zero, List.set_cons_succ]
        refine takeL (i := 7) (v := undef) rfl (by kernel_rfl) (by kernel_rfl) (by kernel_rfl) (fun _ _ _ h => h) (Or.inr ⟨rfl, rfl⟩) hq0 ?_
        simp only [Act.put, List.setIfInBounds_toArray, List.set_cons_zero, List.set_cons_succ]
        refine takeL (i := 8) (v := undef) rfl (by kernel_rfl) (by kernel_rfl) (by kernel_rfl) (fun _ _ _ h => h) (Or.inr ⟨rfl, rfl⟩) hq0 ?_
        simp only [Act.put, List.setIfInBounds_toArray, List.set_cons_zero, List.set_cons_succ]
        refine takeL (i := 9) (v := undef) rfl (by kernel_rfl) (by kernel_rfl) (by kernel_rfl) (fun _ _ _ h => h) (Or.inr ⟨rfl, rfl⟩) hq0 ?_
        simp only [Act.put, List.setIfInBounds_toArray, List.set_cons_zero, List.set_cons_succ]
        refine takeL (i := 10) (v := undef) rfl (by kernel_rfl) (by kernel_rfl) (by kernel_rfl) (fun _ _ _ h => h) (Or.inr ⟨rfl, rfl⟩) hq0 ?_
        simp only [Act.put, List.setIfInBounds_toArray, List.set_cons_zero, List.set_cons_succ]
        refine takeL (i := 11) (v := undef) rfl (by kernel_rfl) (by kernel_rfl) (by kernel_rfl) (fun _ _ _ h => h) (Or.inr ⟨rfl, rfl⟩) hq0 ?_
        simp only [Act.put, List.setIfInBounds_toArray, List.set_cons_zero, List.set_cons_succ]
        refine takeL (i := 12) (v := (.bool false)) rfl (by kernel_rfl) (by kernel_rfl) (by kernel_rfl) (fun _ _ _ h => h) (Or.inl ⟨rfl, fun _ _ => rfl⟩) hq0 ?_
        simp only [Act.put, List.setIfInBounds_toArray, List.set_cons_zero, List.set_cons_succ]
        refine takeL (i := 13) (v := (.bool false)) rfl (by kernel_rfl) (by kernel_rfl) (by kernel_rfl) (fun _ _ _ h => h) (Or.inl ⟨rfl, fun _ _ => rfl⟩) hq0 ?_
        simp only [Act.put, List.setIfInBounds_toArray, List.set_cons_zero, List.set_cons_succ]
        refine takeL (i := 14) (v := undef) rfl (by kernel_rfl) (by kernel_rfl) (by kernel_rfl) (fun _ _ _ h => h) (Or.inr ⟨rfl, rfl⟩) hq0 ?_
        simp only [Act.put, List.setIfInBounds_toArray, List.set_cons_zero, List.set_cons_succ]
        refine takeL (i := 15) (v := undef) rfl (by kernel_rfl) (by kernel_rfl) (by kernel_rfl) (fun _ _ _ h => h) (Or.inr ⟨rfl, rfl⟩) hq0 ?_
        simp only [Act.put, List.setIfInBounds_toArray, List.set_cons_zero, List.set_cons_succ]
        refine takeL (i := 16) (v := undef) rfl (by kernel_rfl) (by kernel_rfl) (by kernel_rfl) (fun _ _ _ h => h) (Or.inr ⟨rfl, rfl⟩) hq0 ?_
        simp only [Act.put, List.setIfInBounds_toArray, List.set_cons_zero, List.set_cons_succ]
        refine takeL (i := 17) (v := undef) rfl (by kernel_rfl) (by kernel_rfl) (by kernel_rfl) (fun _ _ _ h => h) (Or.inr ⟨rfl, rfl⟩) hq0 ?_
        simp only [Act.put, List.setIfInBounds_toArray, List.set_cons_zero, List.set_cons_succ]
        refine takeL (i := 18) (v := undef) rfl (by kernel_rfl) (by kernel_rfl) (by kernel_rfl) (fun _ _ _ h => h) (Or.inr ⟨rfl, rfl⟩) hq0 ?_
        simp only [Act.put, List.setIfInBounds_toArray, List.set_cons_zero, List.set_cons_succ]
        refine takeL (i := 19) (v := undef) rfl (by kernel_rfl) (by kernel_rfl) (by kernel_rfl) (fun _ _ _ h => h) (Or.inr ⟨rfl, rfl⟩) hq0 ?_
        simp only [Act.put, List.setIfInBounds_toArray, List.set_cons_zero, List.set_cons_succ]
        refine takeL (i := 20) (v := undef) rfl (by kernel_rfl) (by kernel_rfl) (by kernel_rfl) (fun _ _ _ h => h) (Or.inr ⟨rfl, rfl⟩) hq0 ?_
        simp only [Act.put, List.setIfInBounds_toArray, List.set_cons_zero, List.set_cons_succ]
        refine takeL (i := 21) (v := undef) rfl (by kernel_rfl) (by kernel_rfl) (by kernel_rfl) (fun _ _ _ h => h) (Or.inr ⟨rfl, rfl⟩) hq0 ?_
        simp only [Act.put, List.setIfInBounds_toArray, List.set_cons_zero, List.set_cons_succ]
        refine takeL (i := 22) (v := undef) rfl (by kernel_rfl) (by kernel_rfl) (by kernel_rfl) (fun _ _ _ h => h) (Or.inr ⟨rfl, rfl⟩) hq0 ?_
        simp only [Act.put, List.setIfInBounds_toArray, List.set_cons_zero, List.set_cons_succ]
        refine takeL (i := 23) (v := undef) rfl (by kernel_rfl) (by kernel_rfl) (by kernel_rfl) (fun _ _ _ h => h) (Or.inr ⟨rfl, rfl⟩) hq0 ?_
        simp only [Act.put, List.setIfInBounds_toArray, List.set_cons_zero, List.set_cons_succ]
        refine takeL (i := 24) (v := (.bool false)) rfl (by kernel_rfl) (by kernel_rfl) (by kernel_rfl) (fun _ _ _ h => h) (Or.inl ⟨rfl, fun _ _ => rfl⟩) hq0 ?_
        simp only [Act.put, List.setIfInBounds_toArray, List.set_cons_zero, List.set_cons_succ]
        refine wpAnyH_done (by kernel_rfl) ?_ _
        have E6 := E5.trans hq0
        have HFq := Lib.hid ((hq0.block _ hltq).trans HFq.out)
        clear E5 RRq68 hltq qq0 qq1 qq68 qq69 qq70 qq71 qq72 qq86
        go_wp2_with fail
        go_roundw
        case rel => exact ⟨k + 1, by omega, by go_num, E6⟩
        case measure => simp [intOf]; omega
      · cases sm
        · have hsm2 : ¬ (IntKind.u64.wrap (B.gi k 70 * 65536) = IntKind.u64.wrap (B.hi 0 * 65536)) := by simpa using hsm
          have hle := HOF.out k hk (HOK.out rfl rfl)
          obtain ⟨z2, hz2⟩ : ∃ z, c5 vr vc vb vp vx (B.gi k 68) (thr (B.gi k 69) (B.gi k 1)) (B.gi k 70) (B.gi k 71) (B.gi k 0) = z := ⟨_, rfl⟩
          rw [hz2] at hle
          have qq0 : wfq.cell? ⟨fq, 0, none⟩ = some (.int .u16 (B.gi k 0)) := by rw [cell_of_row _ _ _ _ _ _ HFq.out]; simpa using cq0
          have qq1 : wfq.cell? ⟨fq, 1, none⟩ = some (.int .u32 (B.gi k 1)) := by rw [cell_of_row _ _ _ _ _ _ HFq.out]; simpa using cq1
          have qq68 : wfq.cell? ⟨fq, 68, none⟩ = some (.int .u64 (B.gi k 68)) := by rw [cell_of_row _ _ _ _ _ _ HFq.out]; simpa using cq68
          have qq69 : wfq.cell? ⟨fq, 69, none⟩ = some (.int .u32 (B.gi k 69)) := by rw [cell_of_row _ _ _ _ _ _ HFq.out]; simpa using cq69
          have qq70 : wfq.cell? ⟨fq, 70, none⟩ = some (.int .u64 (B.gi k 70)) := by rw [cell_of_row _ _ _ _ _ _ HFq.out]; simpa using cq70
          have qq71 : wfq.cell? ⟨fq, 71, none⟩ = some (.int .u16 (B.gi k 71)) := by rw [cell_of_row _ _ _ _ _ _ HFq.out]; simpa using cq71
          have qq72 : wfq.cell? ⟨fq, 72, none⟩ = some (.int .u16 (B.gi k 72)) := by rw [cell_of_row _ _ _ _ _ _ HFq.out]; simpa using cq72
          have qq86 : wfq.cell? ⟨fq, 86, none⟩ = some (.int .i64 (B.gi k 86)) := by rw [cell_of_row _ _ _ _ _ _ HFq.out]; simpa using cq86
          have hltq : fq < wfq.heap.size := heap_lt HFq.out
          have RRq68 := Lib.hid (show wfq.rangeAt fq 68 [Value.int .u64 (B.gi k 68), Value.int .u32 (B.gi k 69), Value.int .u64 (B.gi k 70), Value.int .u16 (B.gi k 71), Value.int .u16 (B.gi k 72)] from (range_cons qq68 (range_cons qq69 (range_cons qq70 (range_cons qq71 (range_cons qq72 range_nil))))))
          refine beginL (S := fun W' => Ext wfq W') (by kernel_rfl) ?_
          intro wd hqx
          have hq0 : Ext wfq wd := hqx
          refine takeL (i := 0) (v := (.pointer (some ⟨fq, 86, none⟩))) rfl (by kernel_rfl) (by kernel_rfl) (by kernel_rfl) (fun _ _ _ h => h) (Or.inl ⟨rfl, fun _ _ => rfl⟩) hq0 ?_
          simp only [Act.put, List.setIfInBounds_toArray, List.set_cons_zero, List.set_cons_succ]
          refine takeL (i := 1) (v := _) rfl (by kernel_rfl) (by kernel_rfl) (by kernel_rfl) (fun _ _ _ h => h) (yieldsIf_cell rfl 3 _ rfl ⟨fq, 86, none⟩ rfl (.int .i64 (B.gi k 86)) _ (fun W' hW' => (hW'.cell (p := ⟨fq, 86, none⟩) hltq).trans qq86) Try.underlying3 rfl) hq0 ?_
          simp only [Act.put, List.setIfInBounds_toArray, List.set_cons_zero, List.set_cons_succ]
          refine takeL (i := 2) (v := (.bool true)) rfl (by kernel_rfl) (by kernel_rfl) (by kernel_rfl) (fun _ _ _ h => h) (Or.inl ⟨rfl, fun W' _ => by go_simp⟩) hq0 ?_
          simp only [Act.put, List.setIfInBounds_toArray, List.set_cons_zero, List.set_cons_succ]
          refine takeL (i := 3) (v := (.bool true)) rfl (by kernel_rfl) (by kernel_rfl) (by kernel_rfl) (fun _ _ _ h => h) (Or.inl ⟨rfl, fun _ _ => rfl⟩) hq0 ?_
          simp only [Act.put, List.setIfInBounds_toArray, List.set_cons_zero, List.set_cons_succ]
          refine takeL (i := 4) (v := (.pointer (some ⟨fq, 68, none⟩))) rfl (by kernel_rfl) (by kernel_rfl) (by kernel_rfl) (fun _ _ _ h => h) (Or.inl ⟨rfl, fun _ _ => rfl⟩) hq0 ?_
          simp only [Act.put, List.setIfInBounds_toArray, List.set_cons_zero, List.set_cons_succ]
          refine takeL (i := 5) (v := (.pointer (some ⟨fq, 70, none⟩))) rfl (by kernel_rfl) (by kernel_rfl) (by kernel_rfl) (fun _ _ _ h => h) (Or.inl ⟨rfl, fun _ _ => rfl⟩) hq0 ?_
          simp only [Act.put, List.setIfInBounds_toArray, List.set_cons_zero, List.set_cons_succ]
          refine takeL (i := 6) (v := _) rfl (by kernel_rfl) (by kernel_rfl) (by kernel_rfl) (fun _ _ _ h => h) (yieldsIf_cell rfl 22 _ rfl ⟨fq, 70, none⟩ rfl (.int .u64 (B.gi k 70)) _ (fun W' hW' => (hW'.cell (p := ⟨fq, 70, none⟩) hltq).trans qq70) Try.underlying22 rfl) hq0 ?_
          simp only [Act.put, List.setIfInBounds_toArray, List.set_cons_zero, List.set_cons_succ]
          refine takeL (i := 7) (v := (.int .u64 (IntKind.u64.wrap (B.gi k 70 * 65536)))) rfl (by kernel_rfl) (by kernel_rfl) (by kernel_rfl) (fun _ _ _ h => h) (Or.inl ⟨rfl, fun W' _ => by go_simp⟩) hq0 ?_
          simp only [Act.put, List.setIfInBounds_toArray, List.set_cons_zero, List.set_cons_succ]
          refine takeL (i := 8) (v := (.pointer (some ⟨bx, 0, none⟩))) rfl (by kernel_rfl) (by kernel_rfl) (by kernel_rfl) (fun _ _ _ h => h) (Or.inl ⟨rfl, fun _ _ => rfl⟩) hq0 ?_
          simp only [Act.put, List.setIfInBounds_toArray, List.set_cons_zero, List.set_cons_succ]
          refine takeL (i := 9) (v := _) rfl (by kernel_rfl) (by kernel_rfl) (by kernel_rfl) (fun _ _ _ h => h) (yieldsIf_cell rfl 22 _ rfl ⟨bx, 0, none⟩ rfl (.int .u64 (B.hi 0)) _ (fun W' hW' => (hW'.cell (p := ⟨bx, 0, none⟩) hbxv).trans b0) Try.underlying22 rfl) hq0 ?_
          simp only [Act.put, List.setIfInBounds_toArray, List.set_cons_zero, List.set_cons_succ]
          refine takeL (i := 10) (v := (.int .u64 (IntKind.u64.wrap (B.hi 0 * 65536)))) rfl (by kernel_rfl) (by kernel_rfl) (by kernel_rfl) (fun _ _ _ h => h) (Or.inl ⟨rfl, fun W' _ => by go_simp⟩) hq0 ?_
          simp only [Act.put, List.setIfInBounds_toArray, List.set_cons_zero, List.set_cons_succ]
          refine takeL (i := 11) (v := (.bool true)) rfl (by kernel_rfl) (by kernel_rfl) (by kernel_rfl) (fun _ _ _ h => h) (Or.inl ⟨rfl, fun W' _ => by go_simp⟩) hq0 ?_
          simp only [Act.put, List.setIfInBounds_toArray, List.set_cons_zero, List.set_cons_succ]
          refine takeL (i := 12) (v := (.bool true)) rfl (by kernel_rfl) (by kernel_rfl) (by kernel_rfl) (fun _ _ _ h => h) (Or.inl ⟨rfl, fun _ _ => rfl⟩) hq0 ?_
          simp only [Act.put, List.setIfInBounds_toArray, List.set_cons_zero, List.set_cons_succ]
          refine takeL (i := 13) (v := (.bool true)) rfl (by kernel_rfl) (by kernel_rfl) (by kernel_rfl) (fun _ _ _ h => h) (Or.inl ⟨rfl, fun _ _ => rfl⟩) hq0 ?_
          simp only [Act.put, List.setIfInBounds_toArray, List.set_cons_zero, List.set_cons_succ]
          refine takeL (i := 14) (v := _) rfl (by kernel_rfl) (by kernel_rfl) (by kernel_rfl) (fun _ _ _ h => h) (yieldsIf_rowS rfl 28 _ rfl N0 rfl #[.int .u64 vr, .int .u32 vc, .int .u64 vb, .int .u16 vp, .int .u16 vx] _ _ (fun W' hW' => (hW'.block N0 hN0v).trans HNv.out) Try.underlying28 rfl (by exact size_vec)) hq0 ?_
          simp only [Act.put, List.setIfInBounds_toArray, List.set_cons_zero, List.set_cons_succ]
          refine takeL (i := 15) (v := (.pointer (some ⟨fq, 68, none⟩))) rfl (by kernel_rfl) (by kernel_rfl) (by kernel_rfl) (fun _ _ _ h => h) (Or.inl ⟨rfl, fun _ _ => rfl⟩) hq0 ?_
          simp only [Act.put, List.setIfInBounds_toArray, List.set_cons_zero, List.set_cons_succ]
          refine takeL (i := 16) (v := _) rfl (by kernel_rfl) (by kernel_rfl) (by kernel_rfl) (fun _ _ _ h => h) (yieldsIf_load_mid rfl 28 _ rfl fq (68) rfl ([Value.int .u64 (B.gi k 68), Value.int .u32 (B.gi k 69), Value.int .u64 (B.gi k 70), Value.int .u16 (B.gi k 71), Value.int .u16 (B.gi k 72)]) _ (fun W' hW' => rangeAt_ext RRq68.out hW' hltq) Try.underlying28 rfl (by exact size_vec)) hq0 ?_
          simp only [Act.put, List.setIfInBounds_toArray, List.set_cons_zero, List.set_cons_succ]
          refine takeL (i := 17) (v := (.pointer (some ⟨fq, 1, none⟩))) rfl (by kernel_rfl) (by kernel_rfl) (by kernel_rfl) (fun _ _ _ h => h) (Or.inl ⟨rfl, fun _ _ => rfl⟩) hq0 ?_
          simp only [Act.put, List.setIfInBounds_toArray, List.set_cons_zero, List.set_cons_succ]
          refine takeL (i := 18) (v := _) rfl (by kernel_rfl) (by kernel_rfl) (by kernel_rfl) (fun _ _ _ h => h) (yieldsIf_cell rfl 25 _ rfl ⟨fq, 1, none⟩ rfl (.int .u32 (B.gi k 1)) _ (fun W' hW' => (hW'.cell (p := ⟨fq, 1, none⟩) hltq).trans qq1) Try.underlying25 rfl) hq0 ?_
          simp only [Act.put, List.setIfInBounds_toArray, List.set_cons_zero, List.set_cons_succ]
          refine takeL (i := 19) (v := (.pointer (some ⟨fq, 0, none⟩))) rfl (by kernel_rfl) (by kernel_rfl) (by kernel_rfl) (fun _ _ _ h => h) (Or.inl ⟨rfl, fun _ _ => rfl⟩) hq0 ?_
          simp only [Act.put, List.setIfInBounds_toArray, List.set_cons_zero, List.set_cons_succ]
          refine takeL (i := 20) (v := _) rfl (by kernel_rfl) (by kernel_rfl) (by kernel_rfl) (fun _ _ _ h => h) (yieldsIf_cell rfl 26 _ rfl ⟨fq, 0, none⟩ rfl (.int .u16 (B.gi k 0)) _ (fun W' hW' => (hW'.cell (p := ⟨fq, 0, none⟩) hltq).trans qq0) Try.underlying26 rfl) hq0 ?_
          simp only [Act.put, List.setIfInBounds_toArray, List.set_cons_zero, List.set_cons_succ]
          refine runG (i := 21) rfl (by rfl) (by kernel_rfl) (fun K hK => ?_)
          go_simp
          refine (ref_through (B.gi k 68) (B.gi k 69) (B.gi k 70) (B.gi k 71) (B.gi k 72) (B.gi k 1) (B.gi k 0) _ (wf_u32 (ho.gw hk 69 rfl)) (wf_u32 (ho.gw hk 1 rfl))).mono ?_
          rintro e wc1 ⟨rfl, hx⟩
          have hq1 := hq0.trans hx
          refine hK.out _ _ hq1 (fun hHeld => ?_)
          try simp only [Act.put, List.setIfInBounds_toArray, List.set_cons_zero, List.set_cons_succ]
          clear hK K hHeld
          refine runG (i := 22) rfl (by rfl) (by kernel_rfl) (fun K hK => ?_)
          go_simp
          refine (asi (ref_cmp _ _ _ _ _ _ _ _ _ _ _) hz2).mono ?_
          rintro e wc2 ⟨rfl, hx⟩
          have hq2 := hq1.trans hx
          refine hK.out _ _ hq2 (fun hHeld => ?_)
          try simp only [Act.put, List.setIfInBounds_toArray, List.set_cons_zero, List.set_cons_succ]
          clear hK K hHeld
          refine takeL (i := 23) (v := (.bool false)) rfl (by kernel_rfl) (by kernel_rfl) (by kernel_rfl) (fun _ _ _ h => h) (Or.inl ⟨rfl, fun W' _ => by go_simp⟩) hq2 ?_
          simp only [Act.put, List.setIfInBounds_toArray, List.set_cons_zero, List.set_cons_succ]
          refine takeL (i := 24) (v := (.bool false)) rfl (by kernel_rfl) (by kernel_rfl) (by kernel_rfl) (fun _ _ _ h => h) (Or.inl ⟨rfl, fun _ _ => rfl⟩) hq2 ?_
          simp only [Act.put, List.setIfInBounds_toArray, List.set_cons_zero, List.set_cons_succ]
          refine wpAnyH_done (by kernel_rfl) ?_ _
          have E7 := E5.trans hq2
          have HFq := Lib.hid ((hq2.block _ hltq).trans HFq.out)
          clear E5 RRq68 hltq qq0 qq1 qq68 qq69 qq70 qq71 qq72 qq86
          go_wp2_with fail
          go_roundw
          case rel => exact ⟨k + 1, by omega, by go_num, E7⟩
          case measure => simp [intOf]; omega
        · have hsm2 : (IntKind.u64.wrap (B.gi k 70 * 65536) = IntKind.u64.wrap (B.hi 0 * 65536)) := by simpa using hsm
          have qq0 : wfq.cell? ⟨fq, 0, none⟩ = some (.int .u16 (B.gi k 0)) := by rw [cell_of_row _ _ _ _ _ _ HFq.out]; simpa using cq0
          have qq1 : wfq.cell? ⟨fq, 1, none⟩ = some (.int .u32 (B.gi k 1)) := by rw [cell_of_row _ _ _ _ _ _ HFq.out]; simpa using cq1
          have qq68 : wfq.cell? ⟨fq, 68, none⟩ = some (.int .u64 (B.gi k 68)) := by rw [cell_of_row _ _ _ _ _ _ HFq.out]; simpa using cq68
          have qq69 : wfq.cell? ⟨fq, 69, none⟩ = some (.int .u32 (B.gi k 69)) := by rw [cell_of_row _ _ _ _ _ _ HFq.out]; simpa using cq69
          have qq70 : wfq.cell? ⟨fq, 70, none⟩ = some (.int .u64 (B.gi k 70)) := by rw [cell_of_row _ _ _ _ _ _ HFq.out]; simpa using cq70
          have qq71 : wfq.cell? ⟨fq, 71, none⟩ = some (.int .u16 (B.gi k 71)) := by rw [cell_of_row _ _ _ _ _ _ HFq.out]; simpa using cq71
          have qq72 : wfq.cell? ⟨fq, 72, none⟩ = some (.int .u16 (B.gi k 72)) := by rw [cell_of_row _ _ _ _ _ _ HFq.out]; simpa using cq72
          have qq86 : wfq.cell? ⟨fq, 86, none⟩ = some (.int .i64 (B.gi k 86)) := by rw [cell_of_row _ _ _ _ _ _ HFq.out]; simpa using cq86
          have hltq : fq < wfq.heap.size := heap_lt HFq.out
          have RRq68 := Lib.hid (show wfq.rangeAt fq 68 [Value.int .u64 (B.gi k 68), Value.int .u32 (B.gi k 69), Value.int .u64 (B.gi k 70), Value.int .u16 (B.gi k 71), Value.int .u16 (B.gi k 72)] from (range_cons qq68 (range_cons qq69 (range_cons qq70 (range_cons qq71 (range_cons qq72 range_nil))))))
          refine beginL (S := fun W' => Ext wfq W') (by kernel_rfl) ?_
          intro wd hqx
          have hq0 : Ext wfq wd := hqx
          refine takeL (i := 0) (v := (.pointer (some ⟨fq, 86, none⟩))) rfl (by kernel_rfl) (by kernel_rfl) (by kernel_rfl) (fun _ _ _ h => h) (Or.inl ⟨rfl, fun _ _ => rfl⟩) hq0 ?_
          simp only [Act.put, List.setIfInBounds_toArray, List.set_cons_zero, List.set_cons_succ]
          refine takeL (i := 1) (v := _) rfl (by kernel_rfl) (by kernel_rfl) (by kernel_rfl) (fun _ _ _ h => h) (yieldsIf_cell rfl 3 _ rfl ⟨fq, 86, none⟩ rfl (.int .i64 (B.gi k 86)) _ (fun W' hW' => (hW'.cell (p := ⟨fq, 86, none⟩) hltq).trans qq86) Try.underlying3 rfl) hq0 ?_
          simp only [Act.put, List.setIfInBounds_toArray, List.set_cons_zero, List.set_cons_succ]
          refine takeL (i := 2) (v := (.bool true)) rfl (by kernel_rfl) (by kernel_rfl) (by kernel_rfl) (fun _ _ _ h => h) (Or.inl ⟨rfl, fun W' _ => by go_simp⟩) hq0 ?_
          simp only [Act.put, List.setIfInBounds_toArray, List.set_cons_zero, List.set_cons_succ]
          refine takeL (i := 3) (v := (.bool true)) rfl (by kernel_rfl) (by kernel_rfl) (by kernel_rfl) (fun _ _ _ h => h) (Or.inl ⟨rfl, fun _ _ => rfl⟩) hq0 ?_
          simp only [Act.put, List.setIfInBounds_toArray, List.set_cons_zero, List.set_cons_succ]
          refine takeL (i := 4) (v := (.pointer (some ⟨fq, 68, none⟩))) rfl (by kernel_rfl) (by kernel_rfl) (by kernel_rfl) (fun _ _ _ h => h) (Or.inl ⟨rfl, fun _ _ => rfl⟩) hq0 ?_
          simp only [Act.put, List.setIfInBounds_toArray, List.set_cons_zero, List.set_cons_succ]
          refine takeL (i := 5) (v := (.pointer (some ⟨fq, 70, none⟩))) rfl (by kernel_rfl) (by kernel_rfl) (by kernel_rfl) (fun _ _ _ h => h) (Or.inl ⟨rfl, fun _ _ => rfl⟩) hq0 ?_
          simp only [Act.put, List.setIfInBounds_toArray, List.set_cons_zero, List.set_cons_succ]
          refine takeL (i := 6) (v := _) rfl (by kernel_rfl) (by kernel_rfl) (by kernel_rfl) (fun _ _ _ h => h) (yieldsIf_cell rfl 22 _ rfl ⟨fq, 70, none⟩ rfl (.int .u64 (B.gi k 70)) _ (fun W' hW' => (hW'.cell (p := ⟨fq, 70, none⟩) hltq).trans qq70) Try.underlying22 rfl) hq0 ?_
          simp only [Act.put, List.setIfInBounds_toArray, List.set_cons_zero, List.set_cons_succ]
          refine takeL (i := 7) (v := (.int .u64 (IntKind.u64.wrap (B.gi k 70 * 65536)))) rfl (by kernel_rfl) (by kernel_rfl) (by kernel_rfl) (fun _ _ _ h => h) (Or.inl ⟨rfl, fun W' _ => by go_simp⟩) hq0 ?_
          simp only [Act.put, List.setIfInBounds_toArray, List.set_cons_zero, List.set_cons_succ]
          refine takeL (i := 8) (v := (.pointer (some ⟨bx, 0, none⟩))) rfl (by kernel_rfl) (by kernel_rfl) (by kernel_rfl) (fun _ _ _ h => h) (Or.inl ⟨rfl, fun _ _ => rfl⟩) hq0 ?_
          simp only [Act.put, List.setIfInBounds_toArray, List.set_cons_zero, List.set_cons_succ]
          refine takeL (i := 9) (v := _) rfl (by kernel_rfl) (by kernel_rfl) (by kernel_rfl) (fun _ _ _ h => h) (yieldsIf_cell rfl 22 _ rfl ⟨bx, 0, none⟩ rfl (.int .u64 (B.hi 0)) _ (fun W' hW' => (hW'.cell (p := ⟨bx, 0, none⟩) hbxv).trans b0) Try.underlying22 rfl) hq0 ?_
          simp only [Act.put, List.setIfInBounds_toArray, List.set_cons_zero, List.set_cons_succ]
          refine takeL (i := 10) (v := (.int .u64 (IntKind.u64.wrap (B.hi 0 * 65536)))) rfl (by kernel_rfl) (by kernel_rfl) (by kernel_rfl) (fun _ _ _ h => h) (Or.inl ⟨rfl, fun W' _ => by go_simp⟩) hq0 ?_
          simp only [Act.put, List.setIfInBounds_toArray, List.set_cons_zero, List.set_cons_succ]
          refine takeL (i := 11) (v := (.bool false)) rfl (by kernel_rfl) (by kernel_rfl) (by kernel_rfl) (fun _ _ _ h => h) (Or.inl ⟨rfl, fun W' _ => by go_simp⟩) hq0 ?_
          simp only [Act.put, List.setIfInBounds_toArray, List.set_cons_zero, List.set_cons_succ]
          refine takeL (i := 12) (v := (.bool false)) rfl (by kernel_rfl) (by kernel_rfl) (by kernel_rfl) (fun _ _ _ h => h) (Or.inl ⟨rfl, fun _ _ => rfl⟩) hq0 ?_
          simp only [Act.put, List.setIfInBounds_toArray, List.set_cons_zero, List.set_cons_succ]
          refine takeL (i := 13) (v := (.bool false)) rfl (by kernel_rfl) (by kernel_rfl) (by kernel_rfl) (fun _ _ _ h => h) (Or.inl ⟨rfl, fun _ _ => rfl⟩) hq0 ?_
          simp only [Act.put, List.setIfInBounds_toArray, List.set_cons_zero, List.set_cons_succ]
          refine takeL (i := 14) (v := undef) rfl (by kernel_rfl) (by kernel_rfl) (by kernel_rfl) (fun _ _ _ h => h) (Or.inr ⟨rfl, rfl⟩) hq0 ?_
          simp only [Act.put, List.setIfInBounds_toArray, List.set_cons_zero, List.set_cons_succ]
          refine takeL (i := 15) (v := undef) rfl (by kernel_rfl) (by kernel_rfl) (by kernel_rfl) (fun _ _ _ h => h) (Or.inr ⟨rfl, rfl⟩) hq0 ?_
          simp only [Act.put, List.setIfInBounds_toArray, List.set_cons_zero, List.set_cons_succ]
          refine takeL (i := 16) (v := undef) rfl (by kernel_rfl) (by kernel_rfl) (by kernel_rfl) (fun _ _ _ h => h) (Or.inr ⟨rfl, rfl⟩) hq0 ?_
          simp only [Act.put, List.setIfInBounds_toArray, List.set_cons_zero, List.set_cons_succ]
          refine takeL (i := 17) (v := undef) rfl (by kernel_rfl) (by kernel_rfl) (by kernel_rfl) (fun _ _ _ h => h) (Or.inr ⟨rfl, rfl⟩) hq0 ?_
          simp only [Act.put, List.setIfInBounds_toArray, List.set_cons_zero, List.set_cons_succ]
          refine takeL (i := 18) (v := undef) rfl (by kernel_rfl) (by kernel_rfl) (by kernel_rfl) (fun _ _ _ h => h) (Or.inr ⟨rfl, rfl⟩) hq0 ?_
          simp only [Act.put, List.setIfInBounds_toArray, List.set_cons_zero, List.set_cons_succ]
          refine takeL (i := 19) (v := undef) rfl (by kernel_rfl) (by kernel_rfl) (by kernel_rfl) (fun _ _ _ h => h) (Or.inr ⟨rfl, rfl⟩) hq0 ?_
          simp only [Act.put, List.setIfInBounds_toArray, List.set_cons_zero, List.set_cons_succ]
          refine takeL (i := 20) (v := undef) rfl (by kernel_rfl) (by kernel_rfl) (by kernel_rfl) (fun _ _ _ h => h) (Or.inr ⟨rfl, rfl⟩) hq0 ?_
          simp only [Act.put, List.setIfInBounds_toArray, List.set_cons_zero, List.set_cons_succ]
          refine takeL (i := 21) (v := undef) rfl (by kernel_rfl) (by kernel_rfl) (by kernel_rfl) (fun _ _ _ h => h) (Or.inr ⟨rfl, rfl⟩) hq0 ?_
          simp only [Act.put, List.setIfInBounds_toArray, List.set_cons_zero, List.set_cons_succ]
          refine takeL (i := 22) (v := undef) rfl (by kernel_rfl) (by kernel_rfl) (by kernel_rfl) (fun _ _ _ h => h) (Or.inr ⟨rfl, rfl⟩) hq0 ?_
          simp only [Act.put, List.setIfInBounds_toArray, List.set_cons_zero, List.set_cons_succ]
          refine takeL (i := 23) (v := undef) rfl (by kernel_rfl) (by kernel_rfl) (by kernel_rfl) (fun _ _ _ h => h) (Or.inr ⟨rfl, rfl⟩) hq0 ?_
          simp only [Act.put, List.setIfInBounds_toArray, List.set_cons_zero, List.set_cons_succ]
          refine takeL (i := 24) (v := (.bool false)) rfl (by kernel_rfl) (by kernel_rfl) (by kernel_rfl) (fun _ _ _ h => h) (Or.inl ⟨rfl, fun _ _ => rfl⟩) hq0 ?_
          simp only [Act.put, List.setIfInBounds_toArray, List.set_cons_zero, List.set_cons_succ]
          refine wpAnyH_done (by kernel_rfl) ?_ _
          have E8 := E5.trans hq0
          have HFq := Lib.hid ((hq0.block _ hltq).trans HFq.out)
          clear E5 RRq68 hltq qq0 qq1 qq68 qq69 qq70 qq71 qq72 qq86
          go_wp2_with fail
          go_roundw
          case rel => exact ⟨k + 1, by omega, by go_num, E8⟩
          case measure => simp [intOf]; omega
    · obtain rfl : k = B.np := by omega
      have E9 := (E3.trans EV.out).trans EL
      clear EL
      go_wp2_with (first
        | fail
        | ((with_reducible refine at_load 33 ?_); refine wpList_load_row rfl 33 _ rfl bx rfl 33 c (0, 0) _ ((E9.block _ HS0.out).trans HL0.out) Try.underlying33 rfl hi20.out ?_))
      refine (clone_any c B _ (HB0.out.ext E9) ho HN.out).mono ?_
      rintro e u10 ⟨cx, rfl, hO, hx⟩
      have Eu := Ext.trans E9 hx
      have hcxz := Lib.hid (size_z20.trans (hO.size ho).symm)
      have hcxo := Lib.hid (hO.one ho)
      have hcxi := Lib.hid (show (Try.prog.info? 33).map (·.size) = some cx.size by rw [hO.size ho]; exact size_br)
      obtain ⟨gx, hM⟩ := hO.made hx.size hn1
      obtain ⟨Nx, hN0, hsz⟩ := nameLe hx.size
      have hNE : W0.heap.size ≤ Nx := by
        rw [← hN0]
        exact E9.size
      rw [hN0] at hM
      have HMK := Lib.hid (show ∀ wx : World, wx = u10.alloc (.cells cx 33) → BrG wx (fun n => Nx ≤ n ∧ n < u10.heap.size + 1) u10.heap.size gx B ∧ Ext W0 wx from by
        rintro _ rfl
        exact ⟨hM, Eu.alloc _⟩)
      clear hM hO hx Eu hN0 E9
      obtain ⟨X, hX0⟩ : ∃ n, u10.heap.size = n := ⟨_, rfl⟩
      have HX0 := Lib.hid hX0
      rw [hX0] at HMK hsz
      have hsx := Lib.hid (show Nx ≤ X ∧ W0.heap.size ≤ Nx from ⟨hsz, hNE⟩)
      clear hsz hNE hX0
      go_wp2_with (first
        | fail
        | ((with_reducible refine at_store 33 ?_); refine wpList_store_new3 rfl rfl 33 _ _ _ rfl _ cx _ rfl ?_ rfl hcxi.out hcxz.out hcxo.out ?_; · rfl
           intro wx hwx
           have hmk := HMK.out wx hwx
           obtain ⟨hBx, E11⟩ := hmk
           have H11x := Lib.hid hBx
           rw [HX0.out]
           clear hwx hBx HMK HX0 hcxz hcxo hcxi
           obtain ⟨hXl, hgl, hne⟩ := H11x.out.lt
           obtain ⟨cap, c17, hca, hcb⟩ := H11x.out.cell17 ho
           have hfr := H11x.out.frozen
           have p43 := (H11x.out.cellg (i := 0 * 89 + 43) (lt89 (N := (B).np) hn1 (by decide))).trans (Br.ok.gb ho (k := 0) hn1 43 rfl)
           rw [Nat.zero_mul, Nat.zero_add] at p43))
      have HZ12 := Lib.hid (show BrG _ (fun n => Nx ≤ n ∧ n < X + 1) X gx (B.setp 0 43 (.bool true)) from (H11x.out.setp (k := 0) (j := 43) hn1 (by decide) (.bool true)))
      have okz12 : Br.ok (B.setp 0 43 (.bool true)) := (ho.setB (k := 0) hn1 43 true rfl)
      have hmz := ((Mut.refl (fun n => Nx ≤ n ∧ n < X + 1) wx).setCell (p := ⟨gx, 0 * 89 + 43, none⟩) (.inl H11x.out.F2) (.bool true))
      have EZ12 := Ext.mutE E11 hmz (fun n hn h1 => by have := h1.1; have := hsx.out; omega)
      clear E11
      have HMZ := Lib.hid hmz
      clear hmz
      clear c17 hfr p43
      go_loopw [10] (fun i wr => ∃ n : Nat, n ≤ B.np ∧ i = .int .i64 n ∧ BrG wr (fun n => Nx ≤ n ∧ n < X + 1) X gx (be3 (B.setp 0 43 (.bool true)) n) ∧ Ext W0 wr) (fun i _ => B.np - (intOf i).toNat)
      case atStart => exact ⟨0, by omega, rfl, HZ12.out, EZ12⟩
      case round =>
        clear EZ12 HZ12
        obtain ⟨n, hn, rfl, hB, E13⟩ := hrel
        have H13 := Lib.hid hB
        clear hB
        have okn : Br.ok (be3 (B.setp 0 43 (.bool true)) n) := be3_ok okz12 n hn
        have hnp : ((be3 (B.setp 0 43 (.bool true)) n)).np = B.np := be3_np _ n
        by_cases hlt : n < B.np
        · have hkn : n < ((be3 (B.setp 0 43 (.bool true)) n)).np := by rw [hnp]; exact hlt
          obtain ⟨hXl, hgl, hne⟩ := H13.out.lt
          obtain ⟨cap, c17, hca, hcb⟩ := H13.out.cell17 okn
          rw [show ((be3 (B.setp 0 43 (.bool true)) n)).np = B.np from hnp] at c17 hca
          have hfr := H13.out.frozen
          have p86 := (H13.out.cellg (i := n * 89 + 86) (lt89 (N := ((be3 (B.setp 0 43 (.bool true)) n)).np) hkn (by decide))).trans (Br.ok.gi okn (k := n) hkn 86 rfl)
          go_wp2_with fail
          go_region
          go_wp2_with fail
          go_roundw
          case rel =>
            refine ⟨n + 1, by omega, by go_num, H13.out.setp (k := n) (j := 86) hkn (by decide) _, ?_⟩
            exact Ext.mutE E13 ((Mut.refl (fun n => Nx ≤ n ∧ n < X + 1) wr).setCell (p := ⟨gx, n * 89 + 86, none⟩) (.inl H13.out.F2) _) (fun n hn h1 => by have := h1.1; have := hsx.out; omega)
          case measure => simp [intOf]; omega
        · obtain rfl : n = B.np := by omega
          obtain ⟨Z, hZ⟩ : ∃ Z, (be3 (B.setp 0 43 (.bool true)) B.np) = Z := ⟨_, rfl⟩
          rw [hZ] at H13 okn hnp
          obtain ⟨hXlt, hglt, hnet⟩ := H13.out.lt
          obtain ⟨capt, c17t, hcat, hcbt⟩ := H13.out.cell17 okn
          rw [show (Z).np = B.np from hnp] at c17t hcat
          have hfrt := H13.out.frozen
          go_wp2_with fail
          have h43 : Z.gb 0 43 = true := by
            rw [← hZ, be3_gb]
            exact gb_setp_same _ _ _ _ (by have := len89 ho hn1; omega)
          have hA : anyR Z (Br.np Z) = true := anyR_of (k := 0) h43 _ (by rw [hnp]; exact hn1)
          have hR0 : ∀ k, k < Br.np Z → 0 ≤ Br.gi Z k 78 ∧ Br.gi Z k 78 ≤ 65535 := fun n hn => by
            rw [← hZ, be3_gi _ (by decide) (by decide) (by decide)]
            have h := HR78.out n (by rw [← hnp]; exact hn)
            by_cases e : n = 0
            · subst e
              rw [gi_setp_ne _ _ _ _ _ (by decide)]
              exact h
            · rw [gi_setp_port _ _ (Ne.symm e) (by decide) (by decide)]
              exact h
          have hN8 : Br.np Z < 1000 := (by rw [hnp]; exact hn8)
          have hN1 : 1 ≤ Br.np Z := (by rw [hnp]; exact hn1)
          have SO := sel_out (B := Z) okn hN8 hR0
          have HD := Lib.hid (sel_does hA)
          obtain ⟨Y, hY⟩ : ∃ q, psel (selB2 (noR Z (Br.np Z))) (Br.np Z) = q := ⟨_, rfl⟩
          rw [hY] at SO HD
          clear hY hA
          have HSO := Lib.hid SO
          clear SO
          refine (sel_step _ (fun n => Nx ≤ n ∧ n < X + 1) X gx Z H13.out okn hN8 hN1 hR0).mono ?_
          rw [HD.out]
          rintro e v14 ⟨he, hB, hm⟩
          obtain rfl : e = .returned (.bool true) := he
          have E14 := Ext.mutE E13 hm (fun n hn h1 => by have := h1.1; have := hsx.out; omega)
          clear E13
          have H14x := Lib.hid (show BrG _ (fun n => Nx ≤ n ∧ n < X + 1) X gx Y from hB)
          clear hB hm hR0 hN8 hN1
          have hrol := Lib.hid (fun n hn => best_role okn HSO.out (n := n) (fun k hk => by
            rw [← hZ, be3_lt okz12 B.np (Nat.le_refl _) k (by rw [← hnp]; exact hk)]
            exact be3V_rg _) hn)
          obtain ⟨rp1, rp2⟩ := best_rg HSO.out
          rw [hnp] at rp2
          have hnY : Y.np = B.np := HSO.out.np.trans hnp
          clear h43
          go_wp2_with fail
          have HX := Lib.hid H14x.out
          obtain ⟨rp, hrp⟩ : ∃ z, Y.hi 12 = z := ⟨_, rfl⟩
          rw [hrp] at rp1 rp2 hrol
          go_loopw [12, 11] (fun i r wr => ∃ n : Nat, n ≤ B.np ∧ i = .int .i64 n ∧ r = .int .i64 (rootsN rp n) ∧ Ext v14 wr) (fun i _ _ => B.np - (intOf i).toNat)
          case atStart => exact ⟨0, by omega, rfl, by unfold rootsN; rw [if_neg (by omega)], Ext.refl _⟩
          case round =>
            obtain ⟨k, hn, rfl, rfl, EL⟩ := hrel
            have HXr := Lib.hid (HX.out.ext EL)
            by_cases hk : k < B.np
            · have hkY : k < Y.np := by rw [hnY]; exact hk
              have hro := hrol.out k (by rw [hnp]; exact hk)
              obtain ⟨hXl, hgl, hne⟩ := HXr.out.lt
              obtain ⟨cap, c17, hca, hcb⟩ := HXr.out.cell17 HSO.out.ok
              rw [show (Y).np = B.np from hnY] at c17 hca
              have hfr := HXr.out.frozen
              have hd12 := (HXr.out.cellX HSO.out.ok (i := 12) (by omega)).trans (HSO.out.ok.hi 12 rfl)
              have p88 := (HXr.out.cellg (i := k * 89 + 88) (lt89 (N := (Y).np) hkY (by decide))).trans (Br.ok.gi HSO.out.ok (k := k) hkY 88 rfl)
              rw [hrp] at hd12
              by_cases e : (k : Int) = rp
              · obtain ⟨s1, s2⟩ := rootsN_step e
                rw [hro.2 e] at p88
                subst e
                rw [s2]
                go_wp2_with fail
                go_roundw
                case rel => exact ⟨k + 1, by omega, by go_num, by rw [s1], EL⟩
                case measure => simp [intOf]; omega
              · have hb : (Y.gi k 88 == 3) = false := by simpa using fun h => e (hro.1 h)
                go_wp2_with fail
                go_roundw
                case rel => exact ⟨k + 1, by omega, by go_num, by rw [rootsN_same e], EL⟩
                case measure => simp [intOf]; omega
            · obtain rfl : k = B.np := by omega
              rw [rootsN_end rp2]
              obtain ⟨hXl, hgl, hne⟩ := HXr.out.lt
              obtain ⟨cap, c17, hca, hcb⟩ := HXr.out.cell17 HSO.out.ok
              rw [show (Y).np = B.np from hnY] at c17 hca
              have hfr := HXr.out.frozen
              have hd12 := (HXr.out.cellX HSO.out.ok (i := 12) (by omega)).trans (HSO.out.ok.hi 12 rfl)
              rw [hrp] at hd12
              by_cases e : 0 ≤ rp
              · rw [if_pos e]
                go_wp2_with fail
                all_goals
                  go_ret
                  exact ⟨rfl, HE0.out.trans (E14.trans EL)⟩
              · rw [if_neg e]
                go_wp2_with fail
                all_goals
                  go_ret
                  exact ⟨rfl, HE0.out.trans (E14.trans EL)⟩

end Go.Proofs.Ythfoacgdkoijeaa
