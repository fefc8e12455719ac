/- Which role a port is to have: what is offered, by the document. No statement is proved here. -/
import Derived.Test.YthfoacgdkoijeaaSelE
import Derived.Test.YthfoacgdkoijeaaVecJ
namespace Go.Proofs.Ythfoacgdkoijeaa
open Go.RowKit Go.BigFrame Go.WideShapes Go.ChangeShapes Go.Deep
set_option linter.unusedVariables false
set_option linter.unusedSimpArgs false

theorem ref_addrE (x : Int) (w : World) (h : 0 ≤ x ∧ x < 18446744073709551616) : Calls Try.prog 47 #[.int .u64 x] w fun e w' => e = .returned (.int .u64 (x % 281474976710656)) ∧ Ext w w' :=
  (ref_addr x w h.1 h.2).mono (fun e w' q => ⟨q.1, q.2 ▸ Ext.refl _⟩)
set_option maxRecDepth 100000 in
set_option maxHeartbeats 2000000 in
theorem doffer_is3 (c : Array Value) (B : Br) (w : World) (hb : BrC w c B) (ho : B.ok) (n : Nat) (hn : n < B.np) (hn8 : B.np < 1000) (hs : (B.gi n 86 != 3) = true) : Calls Try.prog 52 #[.agg c, .int .i64 n] w fun e w' => e = .returned (.tuple #[.agg VZ, .bool false]) ∧ Ext w w' := by
  obtain ⟨s1, s2, s3, hz, hhd, c17, c18, c19, r1, -, -⟩ := hb.facts ho.hd.1
  obtain ⟨a1, k1, rfl, m1, f1⟩ := r1.form
  obtain ⟨bb, off, rfl, hbl, hlc, hcm, hrg⟩ := f1 (by omega)
  have hk8 : n < 1000 := by omega
  have c0 := (hhd 0 (by decide)).trans (ho.hi 0 rfl)
  have gid := wf_u64 (ho.hw 0 (K := .u64) rfl)
  have g70 := wf_u64 (ho.gw hn 70 (K := .u64) rfl)
  have g69 := wf_u32 (ho.gw hn 69 (K := .u32) rfl)
  have g1 := wf_u32 (ho.gw hn 1 (K := .u32) rfl)
  have d0 : (port B.ps n)[0]? = some (.int .u16 (B.gi n 0)) := (port_at (by decide)).trans (ho.gi hn 0 rfl)
  have d1 : (port B.ps n)[1]? = some (.int .u32 (B.gi n 1)) := (port_at (by decide)).trans (ho.gi hn 1 rfl)
  have d68 : (port B.ps n)[68]? = some (.int .u64 (B.gi n 68)) := (port_at (by decide)).trans (ho.gi hn 68 rfl)
  have d69 : (port B.ps n)[69]? = some (.int .u32 (B.gi n 69)) := (port_at (by decide)).trans (ho.gi hn 69 rfl)
  have d70 : (port B.ps n)[70]? = some (.int .u64 (B.gi n 70)) := (port_at (by decide)).trans (ho.gi hn 70 rfl)
  have d71 : (port B.ps n)[71]? = some (.int .u16 (B.gi n 71)) := (port_at (by decide)).trans (ho.gi hn 71 rfl)
  have d72 : (port B.ps n)[72]? = some (.int .u16 (B.gi n 72)) := (port_at (by decide)).trans (ho.gi hn 72 rfl)
  have d86 : (port B.ps n)[86]? = some (.int .i64 (B.gi n 86)) := (port_at (by decide)).trans (ho.gi hn 86 rfl)
  have HLR := Lib.hid (port_range hrg n)
  have HBL := Lib.hid hbl
  have hT := br_typed ho hn
  obtain ⟨L, hL⟩ : ∃ L, port B.ps n = L := ⟨_, rfl⟩
  rw [hL] at HLR hT d0 d1 d68 d69 d70 d71 d72 d86
  clear hL
  have HLEN := Lib.hid (tpL hT)
  have hpz := Lib.hid (show (Try.prog.info? 51).map (·.size) = some L.length by rw [tpL hT]; exact size_port)
  have hps := Lib.hid (show (Try.prog.info? 51).map (·.size) = some L.toArray.size by rw [List.size_toArray]; exact hpz.out)
  have hpl := Lib.hid (show PZ.size = L.toArray.size by rw [size_PZ, List.size_toArray]; exact (tpL hT).symm)
  have hpo := Lib.hid (all_oneCell_toArray hT.one)
  have hzp := zero_port
  have hzv := zero_vec
  have C17 := Lib.hid c17
  clear hz hhd c17 c18 c19 r1 f1 hb hrg hT
  go_enter Try.func52, Try.ntmps52
  go_wp2_with (first
    | fail
    | ((with_reducible refine at_box 33 ?_); refine bx_row rfl 33 _ rfl c rfl ?_
       intro X0 z1 hq hs hx
       have HX1 := Lib.hid hq
       have HE1 := Lib.hid hx
       clear hq hs hx)
    | ((with_reducible refine at_alloc 28 ?_); refine al_zero rfl 28 rfl VZ zero_vec ?_
       intro R0 z2 hq hs hx
       have HR2 := Lib.hid hq
       have hX2 := (hx.block _ (heap_lt HX1.out)).trans HX1.out
       have HX2 := Lib.hid hX2
       have HE2 := Lib.hid (HE1.out.trans hx)
       have HRw := Lib.hid (show w.heap.size ≤ R0 by have := HE1.out.size; omega)
       have x17 : z2.cell? ⟨X0, 17, none⟩ = some (.slice (some ⟨bb, off, none⟩) B.np k1) := (cell_of_row _ _ _ _ _ _ hX2).trans C17.out
       have HLR2 := Lib.hid (rangeAt_ext HLR.out (HE1.out.trans hx) HBL.out)
       clear hq hs hx hX2 HE1 HX1)
    | ((with_reducible refine at_load 51 ?_); refine wpList_load_mid rfl 51 _ rfl bb (off + n * 89) rfl L _ HLR2.out Try.underlying51 rfl hpz.out ?_)
    | ((with_reducible refine at_store 51 ?_); refine wpList_store_new3 rfl rfl 51 _ _ _ rfl PZ L.toArray _ rfl ?_ rfl hps.out hpl.out (by rw [Array.all_toList]; exact hpo.out) ?_; · rfl
       intro z3 hz3
       have hx : Ext z2 z3 := by rw [hz3]; exact (Ext.refl _).alloc _
       have hq := heap_alloc_new z2 (.cells L.toArray 51)
       rw [← hz3] at hq
       obtain ⟨P0, hP0⟩ : ∃ n, z2.heap.size = n := ⟨_, rfl⟩
       have hnR : R0 ≠ P0 := by have := heap_lt HR2.out; omega
       have hPw := Lib.hid (show w.heap.size ≤ P0 by have := HE2.out.size; omega)
       rw [hP0] at hq ⊢
       have hP3 : Pv z3 P0 0 L := Pv.box hq HLEN.out
       have HR3 := Lib.hid ((hx.block _ (heap_lt HR2.out)).trans HR2.out)
       have hX3 := (hx.block _ (heap_lt HX2.out)).trans HX2.out
       have hXl : X0 < z3.heap.size := heap_lt hX3
       have hid0 : z3.cell? ⟨X0, 0, none⟩ = some (.int .u64 (B.hi 0)) := (cell_of_row _ _ _ _ _ _ hX3).trans c0
       have HE3 := Lib.hid (HE2.out.trans hx)
       clear hz3 hx hq hP0 x17 HX2 HR2 HE2 hX3))
  refine beginL (S := fun W' => Ext z3 W') (by kernel_rfl) ?_
  intro wd hqx
  have hq0 : Ext z3 wd := hqx
  refine tLp 0 ((.pointer (some ⟨P0, 86, none⟩))) rfl hq0 ?_
  simp only [ps]
  refine tL 1 (_) rfl (yieldsIf_cell rfl 3 _ rfl ⟨P0, 86, none⟩ rfl (.int .i64 (B.gi n 86)) _ (fun W' hW' => ((hP3.ext hW').cell (j := 86) (by decide)).trans d86) Try.underlying3 rfl) hq0 ?_
  simp only [ps]
  refine tL 2 ((.bool true)) rfl (Or.inl ⟨rfl, fun W' _ => by go_simp⟩) hq0 ?_
  simp only [ps]
  refine tLp 3 ((.bool true)) rfl hq0 ?_
  simp only [ps]
  refine tL 4 (undef) rfl (Or.inr ⟨rfl, rfl⟩) hq0 ?_
  simp only [ps]
  refine tL 5 (undef) rfl (Or.inr ⟨rfl, rfl⟩) hq0 ?_
  simp only [ps]
  refine tL 6 (undef) rfl (Or.inr ⟨rfl, rfl⟩) hq0 ?_
  simp only [ps]
  refine tL 8 (undef) rfl (Or.inr ⟨rfl, rfl⟩) hq0 ?_
  simp only [ps]
  refine tL 9 (undef) rfl (Or.inr ⟨rfl, rfl⟩) hq0 ?_
  simp only [ps]
  refine tL 7 (undef) rfl (Or.inr ⟨rfl, rfl⟩) hq0 ?_
  simp only [ps]
  refine tL 10 (undef) rfl (Or.inr ⟨rfl, rfl⟩) hq0 ?_
  simp only [ps]
  refine tL 11 (undef) rfl (Or.inr ⟨rfl, rfl⟩) hq0 ?_
  simp only [ps]
  refine tLp 12 ((.bool true)) rfl hq0 ?_
  simp only [ps]
  refine wpAnyH_done (by kernel_rfl) ?_ _
  have HR4 := Lib.hid ((hq0.block _ (heap_lt HR3.out)).trans HR3.out)
  have hP4 := hP3.ext hq0
  have HE4 := Lib.hid (HE3.out.trans hq0)
  generalize wd = z4 at *
  go_wp2_with (first
    | fail
    | ((with_reducible refine at_store 28 ?_); refine st_at rfl rfl 28 _ _ rfl R0 0 _ VZ _ VZ _ rfl rfl rfl HR4.out (by exact (by decide : 0 + 5 ≤ 5)) (by kernel_rfl) rfl rfl ?_
       intro z5 hq hm
       have HR9 := Lib.hid hq
       have HE9 := Lib.hid (Ext.mutE HE4.out hm (fun n hn h => by have h2 : n = R0 := h; have := HRw.out; omega))
       clear hq hm))
  refine bodyPost_ret (results_crt rfl _ _ _ _ _ (0, 0) _ rfl HR9.out Try.underlying28 rfl (by kernel_rfl)) rfl ?_
  exact ⟨rfl, HE9.out⟩
set_option maxRecDepth 100000 in
set_option maxHeartbeats 2000000 in
theorem doffer_own (c : Array Value) (B : Br) (w : World) (hb : BrC w c B) (ho : B.ok) (n : Nat) (hn : n < B.np) (hn8 : B.np < 1000) (h3 : B.gi n 86 = 3) (hs : (B.gi n 70 % 281474976710656 == B.hi 0 % 281474976710656) = true) : Calls Try.prog 52 #[.agg c, .int .i64 n] w fun e w' => e = .returned (.tuple #[.agg VZ, .bool false]) ∧ Ext w w' := by
  obtain ⟨s1, s2, s3, hz, hhd, c17, c18, c19, r1, -, -⟩ := hb.facts ho.hd.1
  obtain ⟨a1, k1, rfl, m1, f1⟩ := r1.form
  obtain ⟨bb, off, rfl, hbl, hlc, hcm, hrg⟩ := f1 (by omega)
  have hk8 : n < 1000 := by omega
  have c0 := (hhd 0 (by decide)).trans (ho.hi 0 rfl)
  have gid := wf_u64 (ho.hw 0 (K := .u64) rfl)
  have g70 := wf_u64 (ho.gw hn 70 (K := .u64) rfl)
  have g69 := wf_u32 (ho.gw hn 69 (K := .u32) rfl)
  have g1 := wf_u32 (ho.gw hn 1 (K := .u32) rfl)
  have d0 : (port B.ps n)[0]? = some (.int .u16 (B.gi n 0)) := (port_at (by decide)).trans (ho.gi hn 0 rfl)
  have d1 : (port B.ps n)[1]? = some (.int .u32 (B.gi n 1)) := (port_at (by decide)).trans (ho.gi hn 1 rfl)
  have d68 : (port B.ps n)[68]? = some (.int .u64 (B.gi n 68)) := (port_at (by decide)).trans (ho.gi hn 68 rfl)
  have d69 : (port B.ps n)[69]? = some (.int .u32 (B.gi n 69)) := (port_at (by decide)).trans (ho.gi hn 69 rfl)
  have d70 : (port B.ps n)[70]? = some (.int .u64 (B.gi n 70)) := (port_at (by decide)).trans (ho.gi hn 70 rfl)
  have d71 : (port B.ps n)[71]? = some (.int .u16 (B.gi n 71)) := (port_at (by decide)).trans (ho.gi hn 71 rfl)
  have d72 : (port B.ps n)[72]? = some (.int .u16 (B.gi n 72)) := (port_at (by decide)).trans (ho.gi hn 72 rfl)
  have d86 : (port B.ps n)[86]? = some (.int .i64 (B.gi n 86)) := (port_at (by decide)).trans (ho.gi hn 86 rfl)
  have HLR := Lib.hid (port_range hrg n)
  have HBL := Lib.hid hbl
  have hT := br_typed ho hn
  obtain ⟨L, hL⟩ : ∃ L, port B.ps n = L := ⟨_, rfl⟩
  rw [hL] at HLR hT d0 d1 d68 d69 d70 d71 d72 d86
  clear hL
  have HLEN := Lib.hid (tpL hT)
  have hpz := Lib.hid (show (Try.prog.info? 51).map (·.size) = some L.length by rw [tpL hT]; exact size_port)
  have hps := Lib.hid (show (Try.prog.info? 51).map (·.size) = some L.toArray.size by rw [List.size_toArray]; exact hpz.out)
  have hpl := Lib.hid (show PZ.size = L.toArray.size by rw [size_PZ, List.size_toArray]; exact (tpL hT).symm)
  have hpo := Lib.hid (all_oneCell_toArray hT.one)
  have hzp := zero_port
  have hzv := zero_vec
  have C17 := Lib.hid c17
  clear hz hhd c17 c18 c19 r1 f1 hb hrg hT
  rw [h3] at d86
  go_enter Try.func52, Try.ntmps52
  go_wp2_with (first
    | fail
    | ((with_reducible refine at_box 33 ?_); refine bx_row rfl 33 _ rfl c rfl ?_
       intro X0 z1 hq hs hx
       have HX1 := Lib.hid hq
       have HE1 := Lib.hid hx
       clear hq hs hx)
    | ((with_reducible refine at_alloc 28 ?_); refine al_zero rfl 28 rfl VZ zero_vec ?_
       intro R0 z2 hq hs hx
       have HR2 := Lib.hid hq
       have hX2 := (hx.block _ (heap_lt HX1.out)).trans HX1.out
       have HX2 := Lib.hid hX2
       have HE2 := Lib.hid (HE1.out.trans hx)
       have HRw := Lib.hid (show w.heap.size ≤ R0 by have := HE1.out.size; omega)
       have x17 : z2.cell? ⟨X0, 17, none⟩ = some (.slice (some ⟨bb, off, none⟩) B.np k1) := (cell_of_row _ _ _ _ _ _ hX2).trans C17.out
       have HLR2 := Lib.hid (rangeAt_ext HLR.out (HE1.out.trans hx) HBL.out)
       clear hq hs hx hX2 HE1 HX1)
    | ((with_reducible refine at_load 51 ?_); refine wpList_load_mid rfl 51 _ rfl bb (off + n * 89) rfl L _ HLR2.out Try.underlying51 rfl hpz.out ?_)
    | ((with_reducible refine at_store 51 ?_); refine wpList_store_new3 rfl rfl 51 _ _ _ rfl PZ L.toArray _ rfl ?_ rfl hps.out hpl.out (by rw [Array.all_toList]; exact hpo.out) ?_; · rfl
       intro z3 hz3
       have hx : Ext z2 z3 := by rw [hz3]; exact (Ext.refl _).alloc _
       have hq := heap_alloc_new z2 (.cells L.toArray 51)
       rw [← hz3] at hq
       obtain ⟨P0, hP0⟩ : ∃ n, z2.heap.size = n := ⟨_, rfl⟩
       have hnR : R0 ≠ P0 := by have := heap_lt HR2.out; omega
       have hPw := Lib.hid (show w.heap.size ≤ P0 by have := HE2.out.size; omega)
       rw [hP0] at hq ⊢
       have hP3 : Pv z3 P0 0 L := Pv.box hq HLEN.out
       have HR3 := Lib.hid ((hx.block _ (heap_lt HR2.out)).trans HR2.out)
       have hX3 := (hx.block _ (heap_lt HX2.out)).trans HX2.out
       have hXl : X0 < z3.heap.size := heap_lt hX3
       have hid0 : z3.cell? ⟨X0, 0, none⟩ = some (.int .u64 (B.hi 0)) := (cell_of_row _ _ _ _ _ _ hX3).trans c0
       have HE3 := Lib.hid (HE2.out.trans hx)
       clear hz3 hx hq hP0 x17 HX2 HR2 HE2 hX3))
  refine beginL (S := fun W' => Ext z3 W') (by kernel_rfl) ?_
  intro wd hqx
  have hq0 : Ext z3 wd := hqx
  refine tLp 0 ((.pointer (some ⟨P0, 86, none⟩))) rfl hq0 ?_
  simp only [ps]
  refine tL 1 (_) rfl (yieldsIf_cell rfl 3 _ rfl ⟨P0, 86, none⟩ rfl (.int .i64 3) _ (fun W' hW' => ((hP3.ext hW').cell (j := 86) (by decide)).trans d86) Try.underlying3 rfl) hq0 ?_
  simp only [ps]
  refine tL 2 ((.bool false)) rfl (Or.inl ⟨rfl, fun W' _ => by go_simp⟩) hq0 ?_
  simp only [ps]
  refine tLp 3 ((.bool false)) rfl hq0 ?_
  simp only [ps]
  refine tLp 4 ((.pointer (some ⟨P0, 68, none⟩))) rfl hq0 ?_
  simp only [ps]
  refine tLp 5 ((.pointer (some ⟨P0, 70, none⟩))) rfl hq0 ?_
  simp only [ps]
  refine tL 6 (_) rfl (yieldsIf_cell rfl 22 _ rfl ⟨P0, 70, none⟩ rfl (.int .u64 (B.gi n 70)) _ (fun W' hW' => ((hP3.ext hW').cell (j := 70) (by decide)).trans d70) Try.underlying22 rfl) hq0 ?_
  simp only [ps]
  refine tLp 8 ((.pointer (some ⟨X0, 0, none⟩))) rfl hq0 ?_
  simp only [ps]
  refine tL 9 (_) rfl (yieldsIf_cell rfl 22 _ rfl ⟨X0, 0, none⟩ rfl (.int .u64 (B.hi 0)) _ (fun W' hW' => (hW'.cell (p := ⟨X0, 0, none⟩) hXl).trans hid0) Try.underlying22 rfl) hq0 ?_
  simp only [ps]
  refine runG (i := 7) rfl (by rfl) (by kernel_rfl) (fun K hK => ?_)
  go_simp
  refine (ref_addrE _ _ g70).mono ?_
  rintro e wc1 ⟨rfl, hx⟩
  have hq1 := hq0.trans hx
  refine hK.out _ _ hq1 (fun hHeld => ?_)
  try simp only [ps]
  clear hK K hHeld
  refine runG (i := 10) rfl (by rfl) (by kernel_rfl) (fun K hK => ?_)
  go_simp
  refine (ref_addrE _ _ gid).mono ?_
  rintro e wc2 ⟨rfl, hx⟩
  have hq2 := hq1.trans hx
  refine hK.out _ _ hq2 (fun hHeld => ?_)
  try simp only [ps]
  clear hK K hHeld
  refine tL 11 ((.bool true)) rfl (Or.inl ⟨rfl, fun W' _ => by go_simp⟩) hq2 ?_
  simp only [ps]
  refine tLp 12 ((.bool true)) rfl hq2 ?_
  simp only [ps]
  refine wpAnyH_done (by kernel_rfl) ?_ _
  have HR4 := Lib.hid ((hq2.block _ (heap_lt HR3.out)).trans HR3.out)
  have hP4 := hP3.ext hq2
  have HE4 := Lib.hid (HE3.out.trans hq2)
  generalize wc2 = z4 at *
  go_wp2_with (first
    | fail
    | ((with_reducible refine at_store 28 ?_); refine st_at rfl rfl 28 _ _ rfl R0 0 _ VZ _ VZ _ rfl rfl rfl HR4.out (by exact (by decide : 0 + 5 ≤ 5)) (by kernel_rfl) rfl rfl ?_
       intro z5 hq hm
       have HR9 := Lib.hid hq
       have HE9 := Lib.hid (Ext.mutE HE4.out hm (fun n hn h => by have h2 : n = R0 := h; have := HRw.out; omega))
       clear hq hm))
  refine bodyPost_ret (results_crt rfl _ _ _ _ _ (0, 0) _ rfl HR9.out Try.underlying28 rfl (by kernel_rfl)) rfl ?_
  exact ⟨rfl, HE9.out⟩
set_option maxRecDepth 100000 in
set_option maxHeartbeats 2000000 in
theorem doffer_yes (c : Array Value) (B : Br) (w : World) (hb : BrC w c B) (ho : B.ok) (n : Nat) (hn : n < B.np) (hn8 : B.np < 1000) (h3 : B.gi n 86 = 3) (hs : (B.gi n 70 % 281474976710656 == B.hi 0 % 281474976710656) = false) : Calls Try.prog 52 #[.agg c, .int .i64 n] w fun e w' => e = .returned (.tuple #[.agg #[.int .u64 (B.gi n 68), .int .u32 (thr (B.gi n 69) (B.gi n 1)), .int .u64 (B.gi n 70), .int .u16 (B.gi n 71), .int .u16 (B.gi n 0)], .bool true]) ∧ Ext w w' := by
  obtain ⟨s1, s2, s3, hz, hhd, c17, c18, c19, r1, -, -⟩ := hb.facts ho.hd.1
  obtain ⟨a1, k1, rfl, m1, f1⟩ := r1.form
  obtain ⟨bb, off, rfl, hbl, hlc, hcm, hrg⟩ := f1 (by omega)
  have hk8 : n < 1000 := by omega
  have c0 := (hhd 0 (by decide)).trans (ho.hi 0 rfl)
  have gid := wf_u64 (ho.hw 0 (K := .u64) rfl)
  have g70 := wf_u64 (ho.gw hn 70 (K := .u64) rfl)
  have g69 := wf_u32 (ho.gw hn 69 (K := .u32) rfl)
  have g1 := wf_u32 (ho.gw hn 1 (K := .u32) rfl)
  have d0 : (port B.ps n)[0]? = some (.int .u16 (B.gi n 0)) := (port_at (by decide)).trans (ho.gi hn 0 rfl)
  have d1 : (port B.ps n)[1]? = some (.int .u32 (B.gi n 1)) := (port_at (by decide)).trans (ho.gi hn 1 rfl)
  have d68 : (port B.ps n)[68]? = some (.int .u64 (B.gi n 68)) := (port_at (by decide)).trans (ho.gi hn 68 rfl)
  have d69 : (port B.ps n)[69]? = some (.int .u32 (B.gi n 69)) := (port_at (by decide)).trans (ho.gi hn 69 rfl)
  have d70 : (port B.ps n)[70]? = some (.int .u64 (B.gi n 70)) := (port_at (by decide)).trans (ho.gi hn 70 rfl)
  have d71 : (port B.ps n)[71]? = some (.int .u16 (B.gi n 71)) := (port_at (by decide)).trans (ho.gi hn 71 rfl)
  have d72 : (port B.ps n)[72]? = some (.int .u16 (B.gi n 72)) := (port_at (by decide)).trans (ho.gi hn 72 rfl)
  have d86 : (port B.ps n)[86]? = some (.int .i64 (B.gi n 86)) := (port_at (by decide)).trans (ho.gi hn 86 rfl)
  have HLR := Lib.hid (port_range hrg n)
  have HBL := Lib.hid hbl
  have hT := br_typed ho hn
  obtain ⟨L, hL⟩ : ∃ L, port B.ps n = L := ⟨_, rfl⟩
  rw [hL] at HLR hT d0 d1 d68 d69 d70 d71 d72 d86
  clear hL
  have HLEN := Lib.hid (tpL hT)
  have hpz := Lib.hid (show (Try.prog.info? 51).map (·.size) = some L.length by rw [tpL hT]; exact size_port)
  have hps := Lib.hid (show (Try.prog.info? 51).map (·.size) = some L.toArray.size by rw [List.size_toArray]; exact hpz.out)
  have hpl := Lib.hid (show PZ.size = L.toArray.size by rw [size_PZ, List.size_toArray]; exact (tpL hT).symm)
  have hpo := Lib.hid (all_oneCell_toArray hT.one)
  have hzp := zero_port
  have hzv := zero_vec
  have C17 := Lib.hid c17
  clear hz hhd c17 c18 c19 r1 f1 hb hrg hT
  rw [h3] at d86
  go_enter Try.func52, Try.ntmps52
  go_wp2_with (first
    | fail
    | ((with_reducible refine at_box 33 ?_); refine bx_row rfl 33 _ rfl c rfl ?_
       intro X0 z1 hq hs hx
       have HX1 := Lib.hid hq
       have HE1 := Lib.hid hx
       clear hq hs hx)
    | ((with_reducible refine at_alloc 28 ?_); refine al_zero rfl 28 rfl VZ zero_vec ?_
       intro R0 z2 hq hs hx
       have HR2 := Lib.hid hq
       have hX2 := (hx.block _ (heap_lt HX1.out)).trans HX1.out
       have HX2 := Lib.hid hX2
       have HE2 := Lib.hid (HE1.out.trans hx)
       have HRw := Lib.hid (show w.heap.size ≤ R0 by have := HE1.out.size; omega)
       have x17 : z2.cell? ⟨X0, 17, none⟩ = some (.slice (some ⟨bb, off, none⟩) B.np k1) := (cell_of_row _ _ _ _ _ _ hX2).trans C17.out
       have HLR2 := Lib.hid (rangeAt_ext HLR.out (HE1.out.trans hx) HBL.out)
       clear hq hs hx hX2 HE1 HX1)
    | ((with_reducible refine at_load 51 ?_); refine wpList_load_mid rfl 51 _ rfl bb (off + n * 89) rfl L _ HLR2.out Try.underlying51 rfl hpz.out ?_)
    | ((with_reducible refine at_store 51 ?_); refine wpList_store_new3 rfl rfl 51 _ _ _ rfl PZ L.toArray _ rfl ?_ rfl hps.out hpl.out (by rw [Array.all_toList]; exact hpo.out) ?_; · rfl
       intro z3 hz3
       have hx : Ext z2 z3 := by rw [hz3]; exact (Ext.refl _).alloc _
       have hq := heap_alloc_new z2 (.cells L.toArray 51)
       rw [← hz3] at hq
       obtain ⟨P0, hP0⟩ : ∃ n, z2.heap.size = n := ⟨_, rfl⟩
       have hnR : R0 ≠ P0 := by have := heap_lt HR2.out; omega
       have hPw := Lib.hid (show w.heap.size ≤ P0 by have := HE2.out.size; omega)
       rw [hP0] at hq ⊢
       have hP3 : Pv z3 P0 0 L := Pv.box hq HLEN.out
       have HR3 := Lib.hid ((hx.block _ (heap_lt HR2.out)).trans HR2.out)
       have hX3 := (hx.block _ (heap_lt HX2.out)).trans HX2.out
       have hXl : X0 < z3.heap.size := heap_lt hX3
       have hid0 : z3.cell? ⟨X0, 0, none⟩ = some (.int .u64 (B.hi 0)) := (cell_of_row _ _ _ _ _ _ hX3).trans c0
       have HE3 := Lib.hid (HE2.out.trans hx)
       clear hz3 hx hq hP0 x17 HX2 HR2 HE2 hX3))
  refine beginL (S := fun W' => Ext z3 W') (by kernel_rfl) ?_
  intro wd hqx
  have hq0 : Ext z3 wd := hqx
  refine tLp 0 ((.pointer (some ⟨P0, 86, none⟩))) rfl hq0 ?_
  simp only [ps]
  refine tL 1 (_) rfl (yieldsIf_cell rfl 3 _ rfl ⟨P0, 86, none⟩ rfl (.int .i64 3) _ (fun W' hW' => ((hP3.ext hW').cell (j := 86) (by decide)).trans d86) Try.underlying3 rfl) hq0 ?_
  simp only [ps]
  refine tL 2 ((.bool false)) rfl (Or.inl ⟨rfl, fun W' _ => by go_simp⟩) hq0 ?_
  simp only [ps]
  refine tLp 3 ((.bool false)) rfl hq0 ?_
  simp only [ps]
  refine tLp 4 ((.pointer (some ⟨P0, 68, none⟩))) rfl hq0 ?_
  simp only [ps]
  refine tLp 5 ((.pointer (some ⟨P0, 70, none⟩))) rfl hq0 ?_
  simp only [ps]
  refine tL 6 (_) rfl (yieldsIf_cell rfl 22 _ rfl ⟨P0, 70, none⟩ rfl (.int .u64 (B.gi n 70)) _ (fun W' hW' => ((hP3.ext hW').cell (j := 70) (by decide)).trans d70) Try.underlying22 rfl) hq0 ?_
  simp only [ps]
  refine tLp 8 ((.pointer (some ⟨X0, 0, none⟩))) rfl hq0 ?_
  simp only [ps]
  refine tL 9 (_) rfl (yieldsIf_cell rfl 22 _ rfl ⟨X0, 0, none⟩ rfl (.int .u64 (B.hi 0)) _ (fun W' hW' => (hW'.cell (p := ⟨X0, 0, none⟩) hXl).trans hid0) Try.underlying22 rfl) hq0 ?_
  simp only [ps]
  refine runG (i := 7) rfl (by rfl) (by kernel_rfl) (fun K hK => ?_)
  go_simp
  refine (ref_addrE _ _ g70).mono ?_
  rintro e wc1 ⟨rfl, hx⟩
  have hq1 := hq0.trans hx
  refine hK.out _ _ hq1 (fun hHeld => ?_)
  try simp only [ps]
  clear hK K hHeld
  refine runG (i := 10) rfl (by rfl) (by kernel_rfl) (fun K hK => ?_)
  go_simp
  refine (ref_addrE _ _ gid).mono ?_
  rintro e wc2 ⟨rfl, hx⟩
  have hq2 := hq1.trans hx
  refine hK.out _ _ hq2 (fun hHeld => ?_)
  try simp only [ps]
  clear hK K hHeld
  refine tL 11 ((.bool false)) rfl (Or.inl ⟨rfl, fun W' _ => by go_simp⟩) hq2 ?_
  simp only [ps]
  refine tLp 12 ((.bool false)) rfl hq2 ?_
  simp only [ps]
  refine wpAnyH_done (by kernel_rfl) ?_ _
  have HR4 := Lib.hid ((hq2.block _ (heap_lt HR3.out)).trans HR3.out)
  have hP4 := hP3.ext hq2
  have HE4 := Lib.hid (HE3.out.trans hq2)
  generalize wc2 = z4 at *
  have hs68 := Lib.hid (seg_of (L := L) (j := 68) (l := [.int .u64 (B.gi n 68), .int .u32 (B.gi n 69), .int .u64 (B.gi n 70), .int .u16 (B.gi n 71), .int .u16 (B.gi n 72)]) (by rw [HLEN.out]; exact (by decide : 68 + 5 ≤ 89)) (fun i hi => by
    match i, hi with
    | 0, _ => exact d68
    | 1, _ => exact d69
    | 2, _ => exact d70
    | 3, _ => exact d71
    | 4, _ => exact d72
    | i + 5, hi => simp at hi; omega))
  have p0 : z4.cell? ⟨P0, 0, none⟩ = some (.int .u16 (B.gi n 0)) := (hP4.cell (j := 0) (by decide)).trans d0
  have p1 : z4.cell? ⟨P0, 1, none⟩ = some (.int .u32 (B.gi n 1)) := (hP4.cell (j := 1) (by decide)).trans d1
  go_wp2_with (first
    | fail
    | ((with_reducible refine at_load 28 ?_); refine wpList_load_mid rfl 28 _ rfl P0 68 rfl [.int .u64 (B.gi n 68), .int .u32 (B.gi n 69), .int .u64 (B.gi n 70), .int .u16 (B.gi n 71), .int .u16 (B.gi n 72)] _ (hP4.range (j := 68) (n := 5) hs68.out (by decide)) Try.underlying28 rfl (by kernel_rfl) ?_))
  refine (ref_through _ _ _ _ _ _ _ _ g69 g1).mono ?_
  rintro e z6 ⟨rfl, hx⟩
  have HR6 := Lib.hid ((hx.block _ (heap_lt HR4.out)).trans HR4.out)
  have HE6 := Lib.hid (HE4.out.trans hx)
  clear hx p0 p1
  go_wp2_with (first
    | fail
    | ((with_reducible refine at_store 28 ?_); refine st_at rfl rfl 28 _ _ rfl R0 0 _ #[.int .u64 (B.gi n 68), .int .u32 (thr (B.gi n 69) (B.gi n 1)), .int .u64 (B.gi n 70), .int .u16 (B.gi n 71), .int .u16 (B.gi n 0)] _ #[.int .u64 (B.gi n 68), .int .u32 (thr (B.gi n 69) (B.gi n 1)), .int .u64 (B.gi n 70), .int .u16 (B.gi n 71), .int .u16 (B.gi n 0)] _ rfl rfl rfl HR6.out (by exact (by decide : 0 + 5 ≤ 5)) (by kernel_rfl) rfl rfl ?_
       intro z7 hq hm
       have HR9 := Lib.hid hq
       have HE9 := Lib.hid (Ext.mutE HE6.out hm (fun n hn h => by have h2 : n = R0 := h; have := HRw.out; omega))
       clear hq hm))
  refine bodyPost_ret (results_crt rfl _ _ _ _ _ (0, 0) _ rfl HR9.out Try.underlying28 rfl (by kernel_rfl)) rfl ?_
  exact ⟨rfl, HE9.out⟩
theorem doffer_B (c : Array Value) (B : Br) (w : World) (hb : BrC w c B) (ho : B.ok) (n : Nat) (hn : n < B.np) (hn8 : B.np < 1000) : Calls Try.prog 52 #[.agg c, .int .i64 n] w fun e w' => e = .returned (.tuple #[.agg (offV B n), .bool (offers B n)]) ∧ Ext w w' := by
  unfold offV
  by_cases e3 : B.gi n 86 = 3
  · cases hs : (B.gi n 70 % 281474976710656 == B.hi 0 % 281474976710656)
    · have ht : offers B n = true := by simp only [offers, e3, sameA, hs]; rfl
      rw [ht, if_pos rfl]
      exact doffer_yes c B w hb ho n hn hn8 e3 hs
    · have ht : offers B n = false := by simp only [offers, e3, sameA, hs]; rfl
      rw [ht, if_neg (by simp)]
      exact doffer_own c B w hb ho n hn hn8 e3 hs
  · have ht : offers B n = false := by
      unfold offers
      rw [ne_b e3]
      rfl
    rw [ht, if_neg (by simp)]
    exact doffer_is3 c B w hb ho n hn hn8 (by simpa using e3)

end Go.Proofs.Ythfoacgdkoijeaa
