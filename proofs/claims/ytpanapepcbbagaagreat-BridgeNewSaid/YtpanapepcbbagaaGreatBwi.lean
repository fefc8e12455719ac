/- Part 9 of what BridgeNew stands on. No statement is proved here. -/
import Derived.Test.YtpanapepcbbagaaGreatBwh
namespace Go.Proofs.YtpanapepcbbagaaGreat
open Go.RowKit Go.BigFrame Go.WideShapes Go.ChangeShapes Go.Deep
set_option linter.unusedVariables false
set_option linter.unusedSimpArgs false
def iupd2 (v23 v47 : Bool) (v t : List Value) (L : List Value) : List Value :=
  ((((setL (setL ((((L.set 34 (.bool false)).set 33 (.bool false)).set 23 (.bool v23)).set 47 (.bool v47)) 68 v) 78 t).set 50 (.bool false)).set 86 (.int .i64 2)).set 31 (.bool true)).set 18 (.int .i64 2)
def iupd (g23 g47 : Bool) (is : Int) (less : Bool) (v t : List Value) (L : List Value) : List Value := iupd2 (g23 && (is == 2) && !less) (g47 && (g23 && (is == 2) && !less)) v t L
set_option maxRecDepth 100000 in
set_option maxHeartbeats 1000000 in
theorem inf_update {w : World} (G o : Nat) (L : List Value) (hP_w : Pv w G o L) (hl : L.length = 89) (rst : Bool) (x23 : Bool) (h23 : L[23]? = some (.bool x23)) (x47 : Bool) (h47 : L[47]? = some (.bool x47)) (x68 : Int) (h68 : L[68]? = some (.int .u64 x68)) (x69 : Int) (h69 : L[69]? = some (.int .u32 x69)) (x70 : Int) (h70 : L[70]? = some (.int .u64 x70)) (x71 : Int) (h71 : L[71]? = some (.int .u16 x71)) (x72 : Int) (h72 : L[72]? = some (.int .u16 x72)) (x73 : Int) (h73 : L[73]? = some (.int .u64 x73)) (x74 : Int) (h74 : L[74]? = some (.int .u32 x74)) (x75 : Int) (h75 : L[75]? = some (.int .u64 x75)) (x76 : Int) (h76 : L[76]? = some (.int .u16 x76)) (x77 : Int) (h77 : L[77]? = some (.int .u16 x77)) (x82 : Int) (h82 : L[82]? = some (.int .i64 x82)) (x83 : Int) (h83 : L[83]? = some (.int .i64 x83)) (x84 : Int) (h84 : L[84]? = some (.int .i64 x84)) (x85 : Int) (h85 : L[85]? = some (.int .i64 x85)) (x86 : Int) (h86 : L[86]? = some (.int .i64 x86)) : Calls Tryz.prog 80 #[.agg #[.pointer (some ⟨G, o, none⟩), .bool rst]] w fun e w' => e = .returned (.tuple #[]) ∧ Pv w' G o (iupd x23 x47 x86 (decide ((c4 x68 x69 x70 x71 x73 x74 x75 x76) < 0)) [.int .u64 x73, .int .u32 x74, .int .u64 x75, .int .u16 x76, .int .u16 x77] [.int .i64 x82, .int .i64 x83, .int .i64 x84, .int .i64 x85] L) ∧ Pm G o w w' := by
  cases x23
  · cases x47
    · refine res_pv (L1 := iupd2 false false [.int .u64 x73, .int .u32 x74, .int .u64 x75, .int .u16 x76, .int .u16 x77] [.int .i64 x82, .int .i64 x83, .int .i64 x84, .int .i64 x85] L) ?_ (by unfold iupd; rfl)
      unfold iupd2
      have hG := hP_w.lt
      have HLEN := Lib.hid hl
      have HL_23 := Lib.hid h23
      have HL_47 := Lib.hid h47
      have HL_68 := Lib.hid h68
      have HL_69 := Lib.hid h69
      have HL_70 := Lib.hid h70
      have HL_71 := Lib.hid h71
      have HL_72 := Lib.hid h72
      have HL_73 := Lib.hid h73
      have HL_74 := Lib.hid h74
      have HL_75 := Lib.hid h75
      have HL_76 := Lib.hid h76
      have HL_77 := Lib.hid h77
      have HL_82 := Lib.hid h82
      have HL_83 := Lib.hid h83
      have HL_84 := Lib.hid h84
      have HL_85 := Lib.hid h85
      have HL_86 := Lib.hid h86
      have HS_68 := Lib.hid (seg_of (L := L) (j := 68) (l := [.int .u64 x68, .int .u32 x69, .int .u64 x70, .int .u16 x71, .int .u16 x72]) (by rw [hl]; exact (by decide : 68 + 5 ≤ 89)) (fun i hi => by
        match i, hi with
        | 0, _ => exact HL_68.out
        | 1, _ => exact HL_69.out
        | 2, _ => exact HL_70.out
        | 3, _ => exact HL_71.out
        | 4, _ => exact HL_72.out
        | i + 5, hi => simp at hi; omega))
      have HS_73 := Lib.hid (seg_of (L := L) (j := 73) (l := [.int .u64 x73, .int .u32 x74, .int .u64 x75, .int .u16 x76, .int .u16 x77]) (by rw [hl]; exact (by decide : 73 + 5 ≤ 89)) (fun i hi => by
        match i, hi with
        | 0, _ => exact HL_73.out
        | 1, _ => exact HL_74.out
        | 2, _ => exact HL_75.out
        | 3, _ => exact HL_76.out
        | 4, _ => exact HL_77.out
        | i + 5, hi => simp at hi; omega))
      have HS_82 := Lib.hid (seg_of (L := L) (j := 82) (l := [.int .i64 x82, .int .i64 x83, .int .i64 x84, .int .i64 x85]) (by rw [hl]; exact (by decide : 82 + 4 ≤ 89)) (fun i hi => by
        match i, hi with
        | 0, _ => exact HL_82.out
        | 1, _ => exact HL_83.out
        | 2, _ => exact HL_84.out
        | 3, _ => exact HL_85.out
        | i + 4, hi => simp at hi; omega))
      clear hl h23 h47 h68 h69 h70 h71 h72 h73 h74 h75 h76 h77 h82 h83 h84 h85 h86
      go_enter Tryz.func80, Tryz.ntmps80
      go_wp2_with (first
        | fail
        | ((with_reducible refine at_box 110 ?_); refine bx_row rfl 110 _ rfl #[.pointer (some ⟨G, o, none⟩), .bool rst] rfl ?_
           intro H0 z1 hq hs hx
           have E_z1 : Pm G o w z1 := Ext.pm hx G o
           have hP_z1 : Pv z1 G o L := hP_w.ext hx
           have hH_z1 : z1.heap[H0]? = some (.cells #[.pointer (some ⟨G, o, none⟩), .bool rst] 110 (0, 0)) := hq
           have hb_H0 : w.heap.size ≤ H0 := by omega
           have hn_H0G : H0 ≠ G := by omega
           have rH0_z1 : z1.cell? ⟨H0, 0, none⟩ = some (.pointer (some ⟨G, o, none⟩)) := (cell_of_row _ _ _ _ _ _ hH_z1).trans rfl
           have rH1_z1 : z1.cell? ⟨H0, 1, none⟩ = some (.bool rst) := (cell_of_row _ _ _ _ _ _ hH_z1).trans rfl
           clear hP_w
           clear hq hs hx)
        | ((with_reducible refine at_store 4 ?_); refine st_pv rfl rfl 4 _ _ rfl G o 34 _ hP_z1 _ #[.bool false] rfl rfl rfl (by exact (by decide : 34 + 1 ≤ 89)) (by kernel_rfl) rfl ?_
           intro z2 hp hm
           replace hp := pv_one hp HLEN.out (by decide)
           have hP_z2 := hp
           have hH_z2 := hm.row hH_z1 (show H0 ≠ G by omega)
           have E_z2 : Pm G o w z2 := E_z1.trans hm
           have rH0_z2 : z2.cell? ⟨H0, 0, none⟩ = some (.pointer (some ⟨G, o, none⟩)) := (cell_of_row _ _ _ _ _ _ hH_z2).trans rfl
           have rH1_z2 : z2.cell? ⟨H0, 1, none⟩ = some (.bool rst) := (cell_of_row _ _ _ _ _ _ hH_z2).trans rfl
           clear hH_z1 hP_z1 E_z1 rH0_z1 rH1_z1
           clear hp hm)
        | ((with_reducible refine at_store 4 ?_); refine st_pv rfl rfl 4 _ _ rfl G o 33 _ hP_z2 _ #[.bool false] rfl rfl rfl (by exact (by decide : 33 + 1 ≤ 89)) (by kernel_rfl) rfl ?_
           intro z3 hp hm
           replace hp := pv_one hp (len_set' HLEN.out) (by decide)
           have hP_z3 := hp
           have hH_z3 := hm.row hH_z2 (show H0 ≠ G by omega)
           have E_z3 : Pm G o w z3 := E_z2.trans hm
           have rH0_z3 : z3.cell? ⟨H0, 0, none⟩ = some (.pointer (some ⟨G, o, none⟩)) := (cell_of_row _ _ _ _ _ _ hH_z3).trans rfl
           have rH1_z3 : z3.cell? ⟨H0, 1, none⟩ = some (.bool rst) := (cell_of_row _ _ _ _ _ _ hH_z3).trans rfl
           clear hH_z2 hP_z2 E_z2 rH0_z2 rH1_z2
           clear hp hm))
      refine beginW (S := fun W' => Ext z3 W') (S2 := fun W' => Pm G o z3 W') 29 (by kernel_rfl) ?_
      intro wd hqx
      have hq0 : Ext z3 wd := hqx
      refine tWp 0 29 ((.pointer (some ⟨G, o + 22, none⟩))) rfl rfl hq0 ?_
      simp only [ps]
      refine tWp 1 29 ((.pointer (some ⟨G, o + 22, none⟩))) rfl rfl hq0 ?_
      simp only [ps]
      refine tWp 2 29 ((.pointer (some ⟨G, o + 22, none⟩))) rfl rfl hq0 ?_
      simp only [ps]
      refine tWp 3 29 ((.pointer (some ⟨G, o + 23, none⟩))) rfl rfl hq0 ?_
      simp only [ps]
      refine tW 4 29 (_) rfl rfl (yieldsIf_cell rfl 4 _ rfl ⟨G, o + 23, none⟩ rfl (.bool false) _ (fun W' hW' => ((hP_z3.ext hW').cell (j := 23) (by decide)).trans ((get_ne (by decide)).trans ((get_ne (by decide)).trans HL_23.out))) Tryz.underlying4 rfl) hq0 ?_
      simp only [ps]
      refine tWp 5 29 ((.bool false)) rfl rfl hq0 ?_
      simp only [ps]
      refine tW 6 29 (undef) rfl rfl (Or.inr ⟨rfl, rfl⟩) hq0 ?_
      simp only [ps]
      refine tW 7 29 (undef) rfl rfl (Or.inr ⟨rfl, rfl⟩) hq0 ?_
      simp only [ps]
      refine tW 8 29 (undef) rfl rfl (Or.inr ⟨rfl, rfl⟩) hq0 ?_
      simp only [ps]
      refine tW 9 29 (undef) rfl rfl (Or.inr ⟨rfl, rfl⟩) hq0 ?_
      simp only [ps]
      refine tW 10 29 (undef) rfl rfl (Or.inr ⟨rfl, rfl⟩) hq0 ?_
      simp only [ps]
      refine tW 11 29 (undef) rfl rfl (Or.inr ⟨rfl, rfl⟩) hq0 ?_
      simp only [ps]
      refine tWp 12 29 ((.bool false)) rfl rfl hq0 ?_
      simp only [ps]
      refine tWp 13 29 ((.bool false)) rfl rfl hq0 ?_
      simp only [ps]
      refine tW 14 29 (undef) rfl rfl (Or.inr ⟨rfl, rfl⟩) hq0 ?_
      simp only [ps]
      refine tW 15 29 (undef) rfl rfl (Or.inr ⟨rfl, rfl⟩) hq0 ?_
      simp only [ps]
      refine tW 16 29 (undef) rfl rfl (Or.inr ⟨rfl, rfl⟩) hq0 ?_
      simp only [ps]
      refine tW 17 29 (undef) rfl rfl (Or.inr ⟨rfl, rfl⟩) hq0 ?_
      simp only [ps]
      refine tW 18 29 (undef) rfl rfl (Or.inr ⟨rfl, rfl⟩) hq0 ?_
      simp only [ps]
      refine tW 19 29 (undef) rfl rfl (Or.inr ⟨rfl, rfl⟩) hq0 ?_
      simp only [ps]
      refine tW 20 29 (undef) rfl rfl (Or.inr ⟨rfl, rfl⟩) hq0 ?_
      simp only [ps]
      refine tW 21 29 (undef) rfl rfl (Or.inr ⟨rfl, rfl⟩) hq0 ?_
      simp only [ps]
      refine tW 22 29 (undef) rfl rfl (Or.inr ⟨rfl, rfl⟩) hq0 ?_
      simp only [ps]
      refine tW 23 29 (undef) rfl rfl (Or.inr ⟨rfl, rfl⟩) hq0 ?_
      simp only [ps]
      refine tW 24 29 (undef) rfl rfl (Or.inr ⟨rfl, rfl⟩) hq0 ?_
      simp only [ps]
      refine tW 25 29 (undef) rfl rfl (Or.inr ⟨rfl, rfl⟩) hq0 ?_
      simp only [ps]
      refine tWp 26 29 ((.bool false)) rfl rfl hq0 ?_
      simp only [ps]
      refine tVp 27 29 ((.pointer (some ⟨G, o + 22, none⟩))) rfl hq0 ?_
      simp only [ps]
      refine tWp 28 29 ((.pointer (some ⟨G, o + 23, none⟩))) rfl rfl hq0 ?_
      simp only [ps]
      refine runWl (z := 29) rfl rfl (by kernel_rfl) (fun K hK => ?_)
      refine wp_st_pv rfl 4 _ _ rfl G o 23 _ (hP_z3.ext hq0) _ #[.bool false] rfl rfl rfl (by exact (by decide : 23 + 1 ≤ 89)) (by kernel_rfl) rfl (fun ws29 hp29 hm29 => ?_)
      replace hp29 := pv_one hp29 (len_set' (len_set' HLEN.out)) (by decide)
      have hr29 : Pm G o z3 ws29 := (Ext.pm hq0 G o).trans hm29
      refine hK.out _ _ hr29 (fun _ => ?_)
      try simp only [ps]
      clear hK K
      refine wpAnyH_done (by kernel_rfl) ?_ _
      generalize ws29 = z4 at *
      have hP_z4 : Pv z4 G o (((L.set 34 (.bool false)).set 33 (.bool false)).set 23 (.bool false)) := hp29
      have hH_z4 : z4.heap[H0]? = some (.cells #[.pointer (some ⟨G, o, none⟩), .bool rst] 110 (0, 0)) := (hm29.row ((hq0.block _ (heap_lt hH_z3)).trans hH_z3) (show H0 ≠ G by omega))
      have E_z4 : Pm G o w z4 := (E_z3.ext hq0).trans hm29
      have rH0_z4 : z4.cell? ⟨H0, 0, none⟩ = some (.pointer (some ⟨G, o, none⟩)) := (cell_of_row _ _ _ _ _ _ hH_z4).trans rfl
      have rH1_z4 : z4.cell? ⟨H0, 1, none⟩ = some (.bool rst) := (cell_of_row _ _ _ _ _ _ hH_z4).trans rfl
      have p23_z4 : z4.cell? ⟨G, o + 23, none⟩ = some (.bool false) := (hP_z4.cell (j := 23) (by decide)).trans (get_same (len_set' (len_set' HLEN.out)) (by decide))
      have p47_z4 : z4.cell? ⟨G, o + 47, none⟩ = some (.bool false) := (hP_z4.cell (j := 47) (by decide)).trans ((get_ne (by decide)).trans ((get_ne (by decide)).trans ((get_ne (by decide)).trans HL_47.out)))
      clear hH_z3 hP_z3 E_z3 rH0_z3 rH1_z3
      clear hq0 hqx hm29 hp29 hr29
      go_wp2_with (first
        | fail
        | ((with_reducible refine at_store 4 ?_); refine st_pv rfl rfl 4 _ _ rfl G o 47 _ hP_z4 _ #[.bool false] rfl rfl rfl (by exact (by decide : 47 + 1 ≤ 89)) (by kernel_rfl) rfl ?_
           intro z5 hp hm
           replace hp := pv_one hp (len_set' (len_set' (len_set' HLEN.out))) (by decide)
           have hP_z5 := hp
           have hH_z5 := hm.row hH_z4 (show H0 ≠ G by omega)
           have E_z5 : Pm G o w z5 := E_z4.trans hm
           have rH0_z5 : z5.cell? ⟨H0, 0, none⟩ = some (.pointer (some ⟨G, o, none⟩)) := (cell_of_row _ _ _ _ _ _ hH_z5).trans rfl
           have rH1_z5 : z5.cell? ⟨H0, 1, none⟩ = some (.bool rst) := (cell_of_row _ _ _ _ _ _ hH_z5).trans rfl
           clear hH_z4 hP_z4 E_z4 rH0_z4 rH1_z4 p23_z4 p47_z4
           clear hp hm))
      refine beginW (S := fun W' => Ext z5 W') (S2 := fun W' => Pm G o z5 W') 16 (by kernel_rfl) ?_
      intro wd hqx
      have hq0 : Ext z5 wd := hqx
      refine tWp 0 16 ((.pointer (some ⟨H0, 0, none⟩))) rfl rfl hq0 ?_
      simp only [ps]
      refine tW 1 16 (_) rfl rfl (yieldsIf_cell rfl 79 _ rfl ⟨H0, 0, none⟩ rfl (.pointer (some ⟨G, o, none⟩)) _ (fun W' hW' => (cell_of_row _ _ _ _ _ _ ((hW'.block _ (heap_lt hH_z5)).trans hH_z5)).trans rfl) Tryz.underlying79 rfl) hq0 ?_
      simp only [ps]
      refine tVp 2 16 ((.pointer (some ⟨H0, 0, none⟩))) rfl hq0 ?_
      simp only [ps]
      refine tV 3 16 (_) rfl (yieldsIf_cell rfl 79 _ rfl ⟨H0, 0, none⟩ rfl (.pointer (some ⟨G, o, none⟩)) _ (fun W' hW' => (cell_of_row _ _ _ _ _ _ (Pm.row hW' hH_z5 (show H0 ≠ G by omega))).trans rfl) Tryz.underlying79 rfl) hq0 ?_
      simp only [ps]
      refine tWp 4 16 ((.pointer (some ⟨H0, 0, none⟩))) rfl rfl hq0 ?_
      simp only [ps]
      refine tW 5 16 (_) rfl rfl (yieldsIf_cell rfl 79 _ rfl ⟨H0, 0, none⟩ rfl (.pointer (some ⟨G, o, none⟩)) _ (fun W' hW' => (cell_of_row _ _ _ _ _ _ ((hW'.block _ (heap_lt hH_z5)).trans hH_z5)).trans rfl) Tryz.underlying79 rfl) hq0 ?_
      simp only [ps]
      refine tWp 6 16 ((.pointer (some ⟨G, o, none⟩))) rfl rfl hq0 ?_
      simp only [ps]
      refine tWp 7 16 ((.pointer (some ⟨G, o + 73, none⟩))) rfl rfl hq0 ?_
      simp only [ps]
      refine tW 8 16 (_) rfl rfl (yieldsIf_load_mid rfl 30 _ rfl G (o + 73) rfl ([.int .u64 x73, .int .u32 x74, .int .u64 x75, .int .u16 x76, .int .u16 x77]) _ (fun W' hW' => (hP_z5.ext hW').range (j := 73) (n := 5) ((seg_ne (by decide)).trans ((seg_ne (by decide)).trans ((seg_ne (by decide)).trans ((seg_ne (by decide)).trans HS_73.out)))) (by decide)) Tryz.underlying30 rfl (by kernel_rfl)) hq0 ?_
      simp only [ps]
      refine tVp 9 16 ((.pointer (some ⟨H0, 0, none⟩))) rfl hq0 ?_
      simp only [ps]
      refine tV 10 16 (_) rfl (yieldsIf_cell rfl 79 _ rfl ⟨H0, 0, none⟩ rfl (.pointer (some ⟨G, o, none⟩)) _ (fun W' hW' => (cell_of_row _ _ _ _ _ _ (Pm.row hW' hH_z5 (show H0 ≠ G by omega))).trans rfl) Tryz.underlying79 rfl) hq0 ?_
      simp only [ps]
      refine tVp 11 16 ((.pointer (some ⟨G, o, none⟩))) rfl hq0 ?_
      simp only [ps]
      refine tVp 12 16 ((.pointer (some ⟨G, o + 82, none⟩))) rfl hq0 ?_
      simp only [ps]
      refine tW 13 16 (_) rfl rfl (yieldsIf_load_mid rfl 24 _ rfl G (o + 82) rfl ([.int .i64 x82, .int .i64 x83, .int .i64 x84, .int .i64 x85]) _ (fun W' hW' => (hP_z5.ext hW').range (j := 82) (n := 4) ((seg_ne (by decide)).trans ((seg_ne (by decide)).trans ((seg_ne (by decide)).trans ((seg_ne (by decide)).trans HS_82.out)))) (by decide)) Tryz.underlying24 rfl (by kernel_rfl)) hq0 ?_
      simp only [ps]
      refine tVp 14 16 ((.pointer (some ⟨G, o, none⟩))) rfl hq0 ?_
      simp only [ps]
      refine tWp 15 16 ((.pointer (some ⟨G, o + 68, none⟩))) rfl rfl hq0 ?_
      simp only [ps]
      refine runWl (z := 16) rfl rfl (by kernel_rfl) (fun K hK => ?_)
      refine wp_st_pv rfl 30 _ _ rfl G o 68 _ (hP_z5.ext hq0) _ #[.int .u64 x73, .int .u32 x74, .int .u64 x75, .int .u16 x76, .int .u16 x77] rfl rfl rfl (by exact (by decide : 68 + 5 ≤ 89)) (by kernel_rfl) rfl (fun ws16 hp16 hm16 => ?_)
      have hr16 : Pm G o z5 ws16 := (Ext.pm hq0 G o).trans hm16
      refine hK.out _ _ hr16 (fun _ => ?_)
      try simp only [ps]
      clear hK K
      refine tLp 17 ((.pointer (some ⟨G, o, none⟩))) rfl hr16 ?_
      simp only [ps]
      refine tLp 18 ((.pointer (some ⟨G, o + 78, none⟩))) rfl hr16 ?_
      simp only [ps]
      refine runL (i := 19) rfl rfl (by kernel_rfl) (fun K hK => ?_)
      refine wp_st_pv rfl 24 _ _ rfl G o 78 _ hp16 _ #[.int .i64 x82, .int .i64 x83, .int .i64 x84, .int .i64 x85] rfl rfl rfl (by exact (by decide : 78 + 4 ≤ 89)) (by kernel_rfl) rfl (fun ws19 hp19 hm19 => ?_)
      have hr19 : Pm G o z5 ws19 := hr16.trans hm19
      refine hK.out _ _ hr19 (fun _ => ?_)
      try simp only [ps]
      clear hK K
      refine wpAnyH_done (by kernel_rfl) ?_ _
      generalize ws19 = z6 at *
      have hP_z6 : Pv z6 G o (setL (setL ((((L.set 34 (.bool false)).set 33 (.bool false)).set 23 (.bool false)).set 47 (.bool false)) 68 [.int .u64 x73, .int .u32 x74, .int .u64 x75, .int .u16 x76, .int .u16 x77]) 78 [.int .i64 x82, .int .i64 x83, .int .i64 x84, .int .i64 x85]) := hp19
      have hH_z6 : z6.heap[H0]? = some (.cells #[.pointer (some ⟨G, o, none⟩), .bool rst] 110 (0, 0)) := (hm19.row (hm16.row ((hq0.block _ (heap_lt hH_z5)).trans hH_z5) (show H0 ≠ G by omega)) (show H0 ≠ G by omega))
      have E_z6 : Pm G o w z6 := ((E_z5.ext hq0).trans hm16).trans hm19
      have rH0_z6 : z6.cell? ⟨H0, 0, none⟩ = some (.pointer (some ⟨G, o, none⟩)) := (cell_of_row _ _ _ _ _ _ hH_z6).trans rfl
      have rH1_z6 : z6.cell? ⟨H0, 1, none⟩ = some (.bool rst) := (cell_of_row _ _ _ _ _ _ hH_z6).trans rfl
      clear hH_z5 hP_z5 E_z5 rH0_z5 rH1_z5
      clear hq0 hqx hm16 hm19 hp16 hp19 hr16 hr19
      go_wp2_with (first
        | fail
        | ((with_reducible refine at_store 4 ?_); refine st_pv rfl rfl 4 _ _ rfl G o 50 _ hP_z6 _ #[.bool false] rfl rfl rfl (by exact (by decide : 50 + 1 ≤ 89)) (by kernel_rfl) rfl ?_
           intro z7 hp hm
           replace hp := pv_one hp (len_setL (len_setL (len_set' (len_set' (len_set' (len_set' HLEN.out)))) (by exact (by decide : 68 + 5 ≤ 89))) (by exact (by decide : 78 + 4 ≤ 89))) (by decide)
           have hP_z7 := hp
           have hH_z7 := hm.row hH_z6 (show H0 ≠ G by omega)
           have E_z7 : Pm G o w z7 := E_z6.trans hm
           have rH0_z7 : z7.cell? ⟨H0, 0, none⟩ = some (.pointer (some ⟨G, o, none⟩)) := (cell_of_row _ _ _ _ _ _ hH_z7).trans rfl
           have rH1_z7 : z7.cell? ⟨H0, 1, none⟩ = some (.bool rst) := (cell_of_row _ _ _ _ _ _ hH_z7).trans rfl
           clear hH_z6 hP_z6 E_z6 rH0_z6 rH1_z6
           clear hp hm)
        | ((with_reducible refine at_store 3 ?_); refine st_pv rfl rfl 3 _ _ rfl G o 86 _ hP_z7 _ #[.int .i64 2] rfl rfl rfl (by exact (by decide : 86 + 1 ≤ 89)) (by kernel_rfl) rfl ?_
           intro z8 hp hm
           replace hp := pv_one hp (len_set' (len_setL (len_setL (len_set' (len_set' (len_set' (len_set' HLEN.out)))) (by exact (by decide : 68 + 5 ≤ 89))) (by exact (by decide : 78 + 4 ≤ 89)))) (by decide)
           have hP_z8 := hp
           have hH_z8 := hm.row hH_z7 (show H0 ≠ G by omega)
           have E_z8 : Pm G o w z8 := E_z7.trans hm
           have rH0_z8 : z8.cell? ⟨H0, 0, none⟩ = some (.pointer (some ⟨G, o, none⟩)) := (cell_of_row _ _ _ _ _ _ hH_z8).trans rfl
           have rH1_z8 : z8.cell? ⟨H0, 1, none⟩ = some (.bool rst) := (cell_of_row _ _ _ _ _ _ hH_z8).trans rfl
           clear hH_z7 hP_z7 E_z7 rH0_z7 rH1_z7
           clear hp hm)
        | ((with_reducible refine at_store 4 ?_); refine st_pv rfl rfl 4 _ _ rfl G o 31 _ hP_z8 _ #[.bool true] rfl rfl rfl (by exact (by decide : 31 + 1 ≤ 89)) (by kernel_rfl) rfl ?_
           intro z9 hp hm
           replace hp := pv_one hp (len_set' (len_set' (len_setL (len_setL (len_set' (len_set' (len_set' (len_set' HLEN.out)))) (by exact (by decide : 68 + 5 ≤ 89))) (by exact (by decide : 78 + 4 ≤ 89))))) (by decide)
           have hP_z9 := hp
           have hH_z9 := hm.row hH_z8 (show H0 ≠ G by omega)
           have E_z9 : Pm G o w z9 := E_z8.trans hm
           have rH0_z9 : z9.cell? ⟨H0, 0, none⟩ = some (.pointer (some ⟨G, o, none⟩)) := (cell_of_row _ _ _ _ _ _ hH_z9).trans rfl
           have rH1_z9 : z9.cell? ⟨H0, 1, none⟩ = some (.bool rst) := (cell_of_row _ _ _ _ _ _ hH_z9).trans rfl
           clear hH_z8 hP_z8 E_z8 rH0_z8 rH1_z8
           clear hp hm)
        | ((with_reducible refine at_store 3 ?_); refine st_pv rfl rfl 3 _ _ rfl G o 18 _ hP_z9 _ #[.int .i64 2] rfl rfl rfl (by exact (by decide : 18 + 1 ≤ 89)) (by kernel_rfl) rfl ?_
           intro z10 hp hm
           replace hp := pv_one hp (len_set' (len_set' (len_set' (len_setL (len_setL (len_set' (len_set' (len_set' (len_set' HLEN.out)))) (by exact (by decide : 68 + 5 ≤ 89))) (by exact (by decide : 78 + 4 ≤ 89)))))) (by decide)
           have hP_z10 := hp
           have hH_z10 := hm.row hH_z9 (show H0 ≠ G by omega)
           have E_z10 : Pm G o w z10 := E_z9.trans hm
           have rH0_z10 : z10.cell? ⟨H0, 0, none⟩ = some (.pointer (some ⟨G, o, none⟩)) := (cell_of_row _ _ _ _ _ _ hH_z10).trans rfl
           have rH1_z10 : z10.cell? ⟨H0, 1, none⟩ = some (.bool rst) := (cell_of_row _ _ _ _ _ _ hH_z10).trans rfl
           clear hH_z9 hP_z9 E_z9 rH0_z9 rH1_z9
           clear hp hm))
      go_end0
      exact ⟨rfl, hP_z10, E_z10⟩
    · refine res_pv (L1 := iupd2 false false [.int .u64 x73, .int .u32 x74, .int .u64 x75, .int .u16 x76, .int .u16 x77] [.int .i64 x82, .int .i64 x83, .int .i64 x84, .int .i64 x85] L) ?_ (by unfold iupd; rfl)
      unfold iupd2
      have hG := hP_w.lt
      have HLEN := Lib.hid hl
      have HL_23 := Lib.hid h23
      have HL_47 := Lib.hid h47
      have HL_68 := Lib.hid h68
      have HL_69 := Lib.hid h69
      have HL_70 := Lib.hid h70
      have HL_71 := Lib.hid h71
      have HL_72 := Lib.hid h72
      have HL_73 := Lib.hid h73
      have HL_74 := Lib.hid h74
      have HL_75 := Lib.hid h75
      have HL_76 := Lib.hid h76
      have HL_77 := Lib.hid h77
      have HL_82 := Lib.hid h82
      have HL_83 := Lib.hid h83
      have HL_84 := Lib.hid h84
      have HL_85 := Lib.hid h85
      have HL_86 := Lib.hid h86
      have HS_68 := Lib.hid (seg_of (L := L) (j := 68) (l := [.int .u64 x68, .int .u32 x69, .int .u64 x70, .int .u16 x71, .int .u16 x72]) (by rw [hl]; exact (by decide : 68 + 5 ≤ 89)) (fun i hi => by
        match i, hi with
        | 0, _ => exact HL_68.out
        | 1, _ => exact HL_69.out
        | 2, _ => exact HL_70.out
        | 3, _ => exact HL_71.out
        | 4, _ => exact HL_72.out
        | i + 5, hi => simp at hi; omega))
      have HS_73 := Lib.hid (seg_of (L := L) (j := 73) (l := [.int .u64 x73, .int .u32 x74, .int .u64 x75, .int .u16 x76, .int .u16 x77]) (by rw [hl]; exact (by decide : 73 + 5 ≤ 89)) (fun i hi => by
        match i, hi with
        | 0, _ => exact HL_73.out
        | 1, _ => exact HL_74.out
        | 2, _ => exact HL_75.out
        | 3, _ => exact HL_76.out
        | 4, _ => exact HL_77.out
        | i + 5, hi => simp at hi; omega))
      have HS_82 := Lib.hid (seg_of (L := L) (j := 82) (l := [.int .i64 x82, .int .i64 x83, .int .i64 x84, .int .i64 x85]) (by rw [hl]; exact (by decide : 82 + 4 ≤ 89)) (fun i hi => by
        match i, hi with
        | 0, _ => exact HL_82.out
        | 1, _ => exact HL_83.out
        | 2, _ => exact HL_84.out
        | 3, _ => exact HL_85.out
        | i + 4, hi => simp at hi; omega))
      clear hl h23 h47 h68 h69 h70 h71 h72 h73 h74 h75 h76 h77 h82 h83 h84 h85 h86
      go_enter Tryz.func80, Tryz.ntmps80
      go_wp2_with (first
        | fail
        | ((with_reducible refine at_box 110 ?_); refine bx_row rfl 110 _ rfl #[.pointer (some ⟨G, o, none⟩), .bool rst] rfl ?_
           intro H0 z1 hq hs hx
           have E_z1 : Pm G o w z1 := Ext.pm hx G o
           have hP_z1 : Pv z1 G o L := hP_w.ext hx
           have hH_z1 : z1.heap[H0]? = some (.cells #[.pointer (some ⟨G, o, none⟩), .bool rst] 110 (0, 0)) := hq
           have hb_H0 : w.heap.size ≤ H0 := by omega
           have hn_H0G : H0 ≠ G := by omega
           have rH0_z1 : z1.cell? ⟨H0, 0, none⟩ = some (.pointer (some ⟨G, o, none⟩)) := (cell_of_row _ _ _ _ _ _ hH_z1).trans rfl
           have rH1_z1 : z1.cell? ⟨H0, 1, none⟩ = some (.bool rst) := (cell_of_row _ _ _ _ _ _ hH_z1).trans rfl
           clear hP_w
           clear hq hs hx)
        | ((with_reducible refine at_store 4 ?_); refine st_pv rfl rfl 4 _ _ rfl G o 34 _ hP_z1 _ #[.bool false] rfl rfl rfl (by exact (by decide : 34 + 1 ≤ 89)) (by kernel_rfl) rfl ?_
           intro z2 hp hm
           replace hp := pv_one hp HLEN.out (by decide)
           have hP_z2 := hp
           have hH_z2 := hm.row hH_z1 (show H0 ≠ G by omega)
           have E_z2 : Pm G o w z2 := E_z1.trans hm
           have rH0_z2 : z2.cell? ⟨H0, 0, none⟩ = some (.pointer (some ⟨G, o, none⟩)) := (cell_of_row _ _ _ _ _ _ hH_z2).trans rfl
           have rH1_z2 : z2.cell? ⟨H0, 1, none⟩ = some (.bool rst) := (cell_of_row _ _ _ _ _ _ hH_z2).trans rfl
           clear hH_z1 hP_z1 E_z1 rH0_z1 rH1_z1
           clear hp hm)
        | ((with_reducible refine at_store 4 ?_); refine st_pv rfl rfl 4 _ _ rfl G o 33 _ hP_z2 _ #[.bool false] rfl rfl rfl (by exact (by decide : 33 + 1 ≤ 89)) (by kernel_rfl) rfl ?_
           intro z3 hp hm
           replace hp := pv_one hp (len_set' HLEN.out) (by decide)
           have hP_z3 := hp
           have hH_z3 := hm.row hH_z2 (show H0 ≠ G by omega)
           have E_z3 : Pm G o w z3 := E_z2.trans hm
           have rH0_z3 : z3.cell? ⟨H0, 0, none⟩ = some (.pointer (some ⟨G, o, none⟩)) := (cell_of_row _ _ _ _ _ _ hH_z3).trans rfl
           have rH1_z3 : z3.cell? ⟨H0, 1, none⟩ = some (.bool rst) := (cell_of_row _ _ _ _ _ _ hH_z3).trans rfl
           clear hH_z2 hP_z2 E_z2 rH0_z2 rH1_z2
           clear hp hm))
      refine beginW (S := fun W' => Ext z3 W') (S2 := fun W' => Pm G o z3 W') 29 (by kernel_rfl) ?_
      intro wd hqx
      have hq0 : Ext z3 wd := hqx
      refine tWp 0 29 ((.pointer (some ⟨G, o + 22, none⟩))) rfl rfl hq0 ?_
      simp only [ps]
      refine tWp 1 29 ((.pointer (some ⟨G, o + 22, none⟩))) rfl rfl hq0 ?_
      simp only [ps]
      refine tWp 2 29 ((.pointer (some ⟨G, o + 22, none⟩))) rfl rfl hq0 ?_
      simp only [ps]
      refine tWp 3 29 ((.pointer (some ⟨G, o + 23, none⟩))) rfl rfl hq0 ?_
      simp only [ps]
      refine tW 4 29 (_) rfl rfl (yieldsIf_cell rfl 4 _ rfl ⟨G, o + 23, none⟩ rfl (.bool false) _ (fun W' hW' => ((hP_z3.ext hW').cell (j := 23) (by decide)).trans ((get_ne (by decide)).trans ((get_ne (by decide)).trans HL_23.out))) Tryz.underlying4 rfl) hq0 ?_
      simp only [ps]
      refine tWp 5 29 ((.bool false)) rfl rfl hq0 ?_
      simp only [ps]
      refine tW 6 29 (undef) rfl rfl (Or.inr ⟨rfl, rfl⟩) hq0 ?_
      simp only [ps]
      refine tW 7 29 (undef) rfl rfl (Or.inr ⟨rfl, rfl⟩) hq0 ?_
      simp only [ps]
      refine tW 8 29 (undef) rfl rfl (Or.inr ⟨rfl, rfl⟩) hq0 ?_
      simp only [ps]
      refine tW 9 29 (undef) rfl rfl (Or.inr ⟨rfl, rfl⟩) hq0 ?_
      simp only [ps]
      refine tW 10 29 (undef) rfl rfl (Or.inr ⟨rfl, rfl⟩) hq0 ?_
      simp only [ps]
      refine tW 11 29 (undef) rfl rfl (Or.inr ⟨rfl, rfl⟩) hq0 ?_
      simp only [ps]
      refine tWp 12 29 ((.bool false)) rfl rfl hq0 ?_
      simp only [ps]
      refine tWp 13 29 ((.bool false)) rfl rfl hq0 ?_
      simp only [ps]
      refine tW 14 29 (undef) rfl rfl (Or.inr ⟨rfl, rfl⟩) hq0 ?_
      simp only [ps]
      refine tW 15 29 (undef) rfl rfl (Or.inr ⟨rfl, rfl⟩) hq0 ?_
      simp only [ps]
      refine tW 16 29 (undef) rfl rfl (Or.inr ⟨rfl, rfl⟩) hq0 ?_
      simp only [ps]
      refine tW 17 29 (undef) rfl rfl (Or.inr ⟨rfl, rfl⟩) hq0 ?_
      simp only [ps]
      refine tW 18 29 (undef) rfl rfl (Or.inr ⟨rfl, rfl⟩) hq0 ?_
      simp only [ps]
      refine tW 19 29 (undef) rfl rfl (Or.inr ⟨rfl, rfl⟩) hq0 ?_
      simp only [ps]
      refine tW 20 29 (undef) rfl rfl (Or.inr ⟨rfl, rfl⟩) hq0 ?_
      simp only [ps]
      refine tW 21 29 (undef) rfl rfl (Or.inr ⟨rfl, rfl⟩) hq0 ?_
      simp only [ps]
      refine tW 22 29 (undef) rfl rfl (Or.inr ⟨rfl, rfl⟩) hq0 ?_
      simp only [ps]
      refine tW 23 29 (undef) rfl rfl (Or.inr ⟨rfl, rfl⟩) hq0 ?_
      simp only [ps]
      refine tW 24 29 (undef) rfl rfl (Or.inr ⟨rfl, rfl⟩) hq0 ?_
      simp only [ps]
      refine tW 25 29 (undef) rfl rfl (Or.inr ⟨rfl, rfl⟩) hq0 ?_
      simp only [ps]
      refine tWp 26 29 ((.bool false)) rfl rfl hq0 ?_
      simp only [ps]
      refine tVp 27 29 ((.pointer (some ⟨G, o + 22, none⟩))) rfl hq0 ?_
      simp only [ps]
      refine tWp 28 29 ((.pointer (some ⟨G, o + 23, none⟩))) rfl rfl hq0 ?_
      simp only [ps]
      refine runWl (z := 29) rfl rfl (by kernel_rfl) (fun K hK => ?_)
      refine wp_st_pv rfl 4 _ _ rfl G o 23 _ (hP_z3.ext hq0) _ #[.bool false] rfl rfl rfl (by exact (by decide : 23 + 1 ≤ 89)) (by kernel_rfl) rfl (fun ws29 hp29 hm29 => ?_)
      replace hp29 := pv_one hp29 (len_set' (len_set' HLEN.out)) (by decide)
      have hr29 : Pm G o z3 ws29 := (Ext.pm hq0 G o).trans hm29
      refine hK.out _ _ hr29 (fun _ => ?_)
      try simp only [ps]
      clear hK K
      refine wpAnyH_done (by kernel_rfl) ?_ _
      generalize ws29 = z4 at *
      have hP_z4 : Pv z4 G o (((L.set 34 (.bool false)).set 33 (.bool false)).set 23 (.bool false)) := hp29
      have hH_z4 : z4.heap[H0]? = some (.cells #[.pointer (some ⟨G, o, none⟩), .bool rst] 110 (0, 0)) := (hm29.row ((hq0.block _ (heap_lt hH_z3)).trans hH_z3) (show H0 ≠ G by omega))
      have E_z4 : Pm G o w z4 := (E_z3.ext hq0).trans hm29
      have rH0_z4 : z4.cell? ⟨H0, 0, none⟩ = some (.pointer (some ⟨G, o, none⟩)) := (cell_of_row _ _ _ _ _ _ hH_z4).trans rfl
      have rH1_z4 : z4.cell? ⟨H0, 1, none⟩ = some (.bool rst) := (cell_of_row _ _ _ _ _ _ hH_z4).trans rfl
      have p23_z4 : z4.cell? ⟨G, o + 23, none⟩ = some (.bool false) := (hP_z4.cell (j := 23) (by decide)).trans (get_same (len_set' (len_set' HLEN.out)) (by decide))
      have p47_z4 : z4.cell? ⟨G, o + 47, none⟩ = some (.bool true) := (hP_z4.cell (j := 47) (by decide)).trans ((get_ne (by decide)).trans ((get_ne (by decide)).trans ((get_ne (by decide)).trans HL_47.out)))
      clear hH_z3 hP_z3 E_z3 rH0_z3 rH1_z3
      clear hq0 hqx hm29 hp29 hr29
      go_wp2_with (first
        | fail
        | ((with_reducible refine at_store 4 ?_); refine st_pv rfl rfl 4 _ _ rfl G o 47 _ hP_z4 _ #[.bool false] rfl rfl rfl (by exact (by decide : 47 + 1 ≤ 89)) (by kernel_rfl) rfl ?_
           intro z5 hp hm
           replace hp := pv_one hp (len_set' (len_set' (len_set' HLEN.out))) (by decide)
           have hP_z5 := hp
           have hH_z5 := hm.row hH_z4 (show H0 ≠ G by omega)
           have E_z5 : Pm G o w z5 := E_z4.trans hm
           have rH0_z5 : z5.cell? ⟨H0, 0, none⟩ = some (.pointer (some ⟨G, o, none⟩)) := (cell_of_row _ _ _ _ _ _ hH_z5).trans rfl
           have rH1_z5 : z5.cell? ⟨H0, 1, none⟩ = some (.bool rst) := (cell_of_row _ _ _ _ _ _ hH_z5).trans rfl
           clear hH_z4 hP_z4 E_z4 rH0_z4 rH1_z4 p23_z4 p47_z4
           clear hp hm))
      refine beginW (S := fun W' => Ext z5 W') (S2 := fun W' => Pm G o z5 W') 16 (by kernel_rfl) ?_
      intro wd hqx
      have hq0 : Ext z5 wd := hqx
      refine tWp 0 16 ((.pointer (some ⟨H0, 0, none⟩))) rfl rfl hq0 ?_
      simp only [ps]
      refine tW 1 16 (_) rfl rfl (yieldsIf_cell rfl 79 _ rfl ⟨H0, 0, none⟩ rfl (.pointer (some ⟨G, o, none⟩)) _ (fun W' hW' => (cell_of_row _ _ _ _ _ _ ((hW'.block _ (heap_lt hH_z5)).trans hH_z5)).trans rfl) Tryz.underlying79 rfl) hq0 ?_
      simp only [ps]
      refine tVp 2 16 ((.pointer (some ⟨H0, 0, none⟩))) rfl hq0 ?_
      simp only [ps]
      refine tV 3 16 (_) rfl (yieldsIf_cell rfl 79 _ rfl ⟨H0, 0, none⟩ rfl (.pointer (some ⟨G, o, none⟩)) _ (fun W' hW' => (cell_of_row _ _ _ _ _ _ (Pm.row hW' hH_z5 (show H0 ≠ G by omega))).trans rfl) Tryz.underlying79 rfl) hq0 ?_
      simp only [ps]
      refine tWp 4 16 ((.pointer (some ⟨H0, 0, none⟩))) rfl rfl hq0 ?_
      simp only [ps]
      refine tW 5 16 (_) rfl rfl (yieldsIf_cell rfl 79 _ rfl ⟨H0, 0, none⟩ rfl (.pointer (some ⟨G, o, none⟩)) _ (fun W' hW' => (cell_of_row _ _ _ _ _ _ ((hW'.block _ (heap_lt hH_z5)).trans hH_z5)).trans rfl) Tryz.underlying79 rfl) hq0 ?_
      simp only [ps]
      refine tWp 6 16 ((.pointer (some ⟨G, o, none⟩))) rfl rfl hq0 ?_
      simp only [ps]
      refine tWp 7 16 ((.pointer (some ⟨G, o + 73, none⟩))) rfl rfl hq0 ?_
      simp only [ps]
      refine tW 8 16 (_) rfl rfl (yieldsIf_load_mid rfl 30 _ rfl G (o + 73) rfl ([.int .u64 x73, .int .u32 x74, .int .u64 x75, .int .u16 x76, .int .u16 x77]) _ (fun W' hW' => (hP_z5.ext hW').range (j := 73) (n := 5) ((seg_ne (by decide)).trans ((seg_ne (by decide)).trans ((seg_ne (by decide)).trans ((seg_ne (by decide)).trans HS_73.out)))) (by decide)) Tryz.underlying30 rfl (by kernel_rfl)) hq0 ?_
      simp only [ps]
      refine tVp 9 16 ((.pointer (some ⟨H0, 0, none⟩))) rfl hq0 ?_
      simp only [ps]
      refine tV 10 16 (_) rfl (yieldsIf_cell rfl 79 _ rfl ⟨H0, 0, none⟩ rfl (.pointer (some ⟨G, o, none⟩)) _ (fun W' hW' => (cell_of_row _ _ _ _ _ _ (Pm.row hW' hH_z5 (show H0 ≠ G by omega))).trans rfl) Tryz.underlying79 rfl) hq0 ?_
      simp only [ps]
      refine tVp 11 16 ((.pointer (some ⟨G, o, none⟩))) rfl hq0 ?_
      simp only [ps]
      refine tVp 12 16 ((.pointer (some ⟨G, o + 82, none⟩))) rfl hq0 ?_
      simp only [ps]
      refine tW 13 16 (_) rfl rfl (yieldsIf_load_mid rfl 24 _ rfl G (o + 82) rfl ([.int .i64 x82, .int .i64 x83, .int .i64 x84, .int .i64 x85]) _ (fun W' hW' => (hP_z5.ext hW').range (j := 82) (n := 4) ((seg_ne (by decide)).trans ((seg_ne (by decide)).trans ((seg_ne (by decide)).trans ((seg_ne (by decide)).trans HS_82.out)))) (by decide)) Tryz.underlying24 rfl (by kernel_rfl)) hq0 ?_
      simp only [ps]
      refine tVp 14 16 ((.pointer (some ⟨G, o, none⟩))) rfl hq0 ?_
      simp only [ps]
      refine tWp 15 16 ((.pointer (some ⟨G, o + 68, none⟩))) rfl rfl hq0 ?_
      simp only [ps]
      refine runWl (z := 16) rfl rfl (by kernel_rfl) (fun K hK => ?_)
      refine wp_st_pv rfl 30 _ _ rfl G o 68 _ (hP_z5.ext hq0) _ #[.int .u64 x73, .int .u32 x74, .int .u64 x75, .int .u16 x76, .int .u16 x77] rfl rfl rfl (by exact (by decide : 68 + 5 ≤ 89)) (by kernel_rfl) rfl (fun ws16 hp16 hm16 => ?_)
      have hr16 : Pm G o z5 ws16 := (Ext.pm hq0 G o).trans hm16
      refine hK.out _ _ hr16 (fun _ => ?_)
      try simp only [ps]
      clear hK K
      refine tLp 17 ((.pointer (some ⟨G, o, none⟩))) rfl hr16 ?_
      simp only [ps]
      refine tLp 18 ((.pointer (some ⟨G, o + 78, none⟩))) rfl hr16 ?_
      simp only [ps]
      refine runL (i := 19) rfl rfl (by kernel_rfl) (fun K hK => ?_)
      refine wp_st_pv rfl 24 _ _ rfl G o 78 _ hp16 _ #[.int .i64 x82, .int .i64 x83, .int .i64 x84, .int .i64 x85] rfl rfl rfl (by exact (by decide : 78 + 4 ≤ 89)) (by kernel_rfl) rfl (fun ws19 hp19 hm19 => ?_)
      have hr19 : Pm G o z5 ws19 := hr16.trans hm19
      refine hK.out _ _ hr19 (fun _ => ?_)
      try simp only [ps]
      clear hK K
      refine wpAnyH_done (by kernel_rfl) ?_ _
      generalize ws19 = z6 at *
      have hP_z6 : Pv z6 G o (setL (setL ((((L.set 34 (.bool false)).set 33 (.bool false)).set 23 (.bool false)).set 47 (.bool false)) 68 [.int .u64 x73, .int .u32 x74, .int .u64 x75, .int .u16 x76, .int .u16 x77]) 78 [.int .i64 x82, .int .i64 x83, .int .i64 x84, .int .i64 x85]) := hp19
      have hH_z6 : z6.heap[H0]? = some (.cells #[.pointer (some ⟨G, o, none⟩), .bool rst] 110 (0, 0)) := (hm19.row (hm16.row ((hq0.block _ (heap_lt hH_z5)).trans hH_z5) (show H0 ≠ G by omega)) (show H0 ≠ G by omega))
      have E_z6 : Pm G o w z6 := ((E_z5.ext hq0).trans hm16).trans hm19
      have rH0_z6 : z6.cell? ⟨H0, 0, none⟩ = some (.pointer (some ⟨G, o, none⟩)) := (cell_of_row _ _ _ _ _ _ hH_z6).trans rfl
      have rH1_z6 : z6.cell? ⟨H0, 1, none⟩ = some (.bool rst) := (cell_of_row _ _ _ _ _ _ hH_z6).trans rfl
      clear hH_z5 hP_z5 E_z5 rH0_z5 rH1_z5
      clear hq0 hqx hm16 hm19 hp16 hp19 hr16 hr19
      go_wp2_with (first
        | fail
        | ((with_reducible refine at_store 4 ?_); refine st_pv rfl rfl 4 _ _ rfl G o 50 _ hP_z6 _ #[.bool false] rfl rfl rfl (by exact (by decide : 50 + 1 ≤ 89)) (by kernel_rfl) rfl ?_
           intro z7 hp hm
           replace hp := pv_one hp (len_setL (len_setL (len_set' (len_set' (len_set' (len_set' HLEN.out)))) (by exact (by decide : 68 + 5 ≤ 89))) (by exact (by decide : 78 + 4 ≤ 89))) (by decide)
           have hP_z7 := hp
           have hH_z7 := hm.row hH_z6 (show H0 ≠ G by omega)
           have E_z7 : Pm G o w z7 := E_z6.trans hm
           have rH0_z7 : z7.cell? ⟨H0, 0, none⟩ = some (.pointer (some ⟨G, o, none⟩)) := (cell_of_row _ _ _ _ _ _ hH_z7).trans rfl
           have rH1_z7 : z7.cell? ⟨H0, 1, none⟩ = some (.bool rst) := (cell_of_row _ _ _ _ _ _ hH_z7).trans rfl
           clear hH_z6 hP_z6 E_z6 rH0_z6 rH1_z6
           clear hp hm)
        | ((with_reducible refine at_store 3 ?_); refine st_pv rfl rfl 3 _ _ rfl G o 86 _ hP_z7 _ #[.int .i64 2] rfl rfl rfl (by exact (by decide : 86 + 1 ≤ 89)) (by kernel_rfl) rfl ?_
           intro z8 hp hm
           replace hp := pv_one hp (len_set' (len_setL (len_setL (len_set' (len_set' (len_set' (len_set' HLEN.out)))) (by exact (by decide : 68 + 5 ≤ 89))) (by exact (by decide : 78 + 4 ≤ 89)))) (by decide)
           have hP_z8 := hp
           have hH_z8 := hm.row hH_z7 (show H0 ≠ G by omega)
           have E_z8 : Pm G o w z8 := E_z7.trans hm
           have rH0_z8 : z8.cell? ⟨H0, 0, none⟩ = some (.pointer (some ⟨G, o, none⟩)) := (cell_of_row _ _ _ _ _ _ hH_z8).trans rfl
           have rH1_z8 : z8.cell? ⟨H0, 1, none⟩ = some (.bool rst) := (cell_of_row _ _ _ _ _ _ hH_z8).trans rfl
           clear hH_z7 hP_z7 E_z7 rH0_z7 rH1_z7
           clear hp hm)
        | ((with_reducible refine at_store 4 ?_); refine st_pv rfl rfl 4 _ _ rfl G o 31 _ hP_z8 _ #[.bool true] rfl rfl rfl (by exact (by decide : 31 + 1 ≤ 89)) (by kernel_rfl) rfl ?_
           intro z9 hp hm
           replace hp := pv_one hp (len_set' (len_set' (len_setL (len_setL (len_set' (len_set' (len_set' (len_set' HLEN.out)))) (by exact (by decide : 68 + 5 ≤ 89))) (by exact (by decide : 78 + 4 ≤ 89))))) (by decide)
           have hP_z9 := hp
           have hH_z9 := hm.row hH_z8 (show H0 ≠ G by omega)
           have E_z9 : Pm G o w z9 := E_z8.trans hm
           have rH0_z9 : z9.cell? ⟨H0, 0, none⟩ = some (.pointer (some ⟨G, o, none⟩)) := (cell_of_row _ _ _ _ _ _ hH_z9).trans rfl
           have rH1_z9 : z9.cell? ⟨H0, 1, none⟩ = some (.bool rst) := (cell_of_row _ _ _ _ _ _ hH_z9).trans rfl
           clear hH_z8 hP_z8 E_z8 rH0_z8 rH1_z8
           clear hp hm)
        | ((with_reducible refine at_store 3 ?_); refine st_pv rfl rfl 3 _ _ rfl G o 18 _ hP_z9 _ #[.int .i64 2] rfl rfl rfl (by exact (by decide : 18 + 1 ≤ 89)) (by kernel_rfl) rfl ?_
           intro z10 hp hm
           replace hp := pv_one hp (len_set' (len_set' (len_set' (len_setL (len_setL (len_set' (len_set' (len_set' (len_set' HLEN.out)))) (by exact (by decide : 68 + 5 ≤ 89))) (by exact (by decide : 78 + 4 ≤ 89)))))) (by decide)
           have hP_z10 := hp
           have hH_z10 := hm.row hH_z9 (show H0 ≠ G by omega)
           have E_z10 : Pm G o w z10 := E_z9.trans hm
           have rH0_z10 : z10.cell? ⟨H0, 0, none⟩ = some (.pointer (some ⟨G, o, none⟩)) := (cell_of_row _ _ _ _ _ _ hH_z10).trans rfl
           have rH1_z10 : z10.cell? ⟨H0, 1, none⟩ = some (.bool rst) := (cell_of_row _ _ _ _ _ _ hH_z10).trans rfl
           clear hH_z9 hP_z9 E_z9 rH0_z9 rH1_z9
           clear hp hm))
      go_end0
      exact ⟨rfl, hP_z10, E_z10⟩
  · by_cases e86 : x86 = 2
    · subst e86
      cases x47
      · refine res_pv (L1 := iupd2 (!(decide ((c4 x68 x69 x70 x71 x73 x74 x75 x76) < 0))) false [.int .u64 x73, .int .u32 x74, .int .u64 x75, .int .u16 x76, .int .u16 x77] [.int .i64 x82, .int .i64 x83, .int .i64 x84, .int .i64 x85] L) ?_ (by unfold iupd; rfl)
        unfold iupd2
        have hG := hP_w.lt
        have HLEN := Lib.hid hl
        have HL_23 := Lib.hid h23
        have HL_47 := Lib.hid h47
        have HL_68 := Lib.hid h68
        have HL_69 := Lib.hid h69
        have HL_70 := Lib.hid h70
        have HL_71 := Lib.hid h71
        have HL_72 := Lib.hid h72
        have HL_73 := Lib.hid h73
        have HL_74 := Lib.hid h74
        have HL_75 := Lib.hid h75
        have HL_76 := Lib.hid h76
        have HL_77 := Lib.hid h77
        have HL_82 := Lib.hid h82
        have HL_83 := Lib.hid h83
        have HL_84 := Lib.hid h84
        have HL_85 := Lib.hid h85
        have HL_86 := Lib.hid h86
        have HS_68 := Lib.hid (seg_of (L := L) (j := 68) (l := [.int .u64 x68, .int .u32 x69, .int .u64 x70, .int .u16 x71, .int .u16 x72]) (by rw [hl]; exact (by decide : 68 + 5 ≤ 89)) (fun i hi => by
          match i, hi with
          | 0, _ => exact HL_68.out
          | 1, _ => exact HL_69.out
          | 2, _ => exact HL_70.out
          | 3, _ => exact HL_71.out
          | 4, _ => exact HL_72.out
          | i + 5, hi => simp at hi; omega))
        have HS_73 := Lib.hid (seg_of (L := L) (j := 73) (l := [.int .u64 x73, .int .u32 x74, .int .u64 x75, .int .u16 x76, .int .u16 x77]) (by rw [hl]; exact (by decide : 73 + 5 ≤ 89)) (fun i hi => by
          match i, hi with
          | 0, _ => exact HL_73.out
          | 1, _ => exact HL_74.out
          | 2, _ => exact HL_75.out
          | 3, _ => exact HL_76.out
          | 4, _ => exact HL_77.out
          | i + 5, hi => simp at hi; omega))
        have HS_82 := Lib.hid (seg_of (L := L) (j := 82) (l := [.int .i64 x82, .int .i64 x83, .int .i64 x84, .int .i64 x85]) (by rw [hl]; exact (by decide : 82 + 4 ≤ 89)) (fun i hi => by
          match i, hi with
          | 0, _ => exact HL_82.out
          | 1, _ => exact HL_83.out
          | 2, _ => exact HL_84.out
          | 3, _ => exact HL_85.out
          | i + 4, hi => simp at hi; omega))
        clear hl h23 h47 h68 h69 h70 h71 h72 h73 h74 h75 h76 h77 h82 h83 h84 h85 h86
        go_enter Tryz.func80, Tryz.ntmps80
        go_wp2_with (first
          | fail
          | ((with_reducible refine at_box 110 ?_); refine bx_row rfl 110 _ rfl #[.pointer (some ⟨G, o, none⟩), .bool rst] rfl ?_
             intro H0 z1 hq hs hx
             have E_z1 : Pm G o w z1 := Ext.pm hx G o
             have hP_z1 : Pv z1 G o L := hP_w.ext hx
             have hH_z1 : z1.heap[H0]? = some (.cells #[.pointer (some ⟨G, o, none⟩), .bool rst] 110 (0, 0)) := hq
             have hb_H0 : w.heap.size ≤ H0 := by omega
             have hn_H0G : H0 ≠ G := by omega
             have rH0_z1 : z1.cell? ⟨H0, 0, none⟩ = some (.pointer (some ⟨G, o, none⟩)) := (cell_of_row _ _ _ _ _ _ hH_z1).trans rfl
             have rH1_z1 : z1.cell? ⟨H0, 1, none⟩ = some (.bool rst) := (cell_of_row _ _ _ _ _ _ hH_z1).trans rfl
             clear hP_w
             clear hq hs hx)
          | ((with_reducible refine at_store 4 ?_); refine st_pv rfl rfl 4 _ _ rfl G o 34 _ hP_z1 _ #[.bool false] rfl rfl rfl (by exact (by decide : 34 + 1 ≤ 89)) (by kernel_rfl) rfl ?_
             intro z2 hp hm
             replace hp := pv_one hp HLEN.out (by decide)
             have hP_z2 := hp
             have hH_z2 := hm.row hH_z1 (show H0 ≠ G by omega)
             have E_z2 : Pm G o w z2 := E_z1.trans hm
             have rH0_z2 : z2.cell? ⟨H0, 0, none⟩ = some (.pointer (some ⟨G, o, none⟩)) := (cell_of_row _ _ _ _ _ _ hH_z2).trans rfl
             have rH1_z2 : z2.cell? ⟨H0, 1, none⟩ = some (.bool rst) := (cell_of_row _ _ _ _ _ _ hH_z2).trans rfl
             clear hH_z1 hP_z1 E_z1 rH0_z1 rH1_z1
             clear hp hm)
          | ((with_reducible refine at_store 4 ?_); refine st_pv rfl rfl 4 _ _ rfl G o 33 _ hP_z2 _ #[.bool false] rfl rfl rfl (by exact (by decide : 33 + 1 ≤ 89)) (by kernel_rfl) rfl ?_
             intro z3 hp hm
             replace hp := pv_one hp (len_set' HLEN.out) (by decide)
             have hP_z3 := hp
             have hH_z3 := hm.row hH_z2 (show H0 ≠ G by omega)
             have E_z3 : Pm G o w z3 := E_z2.trans hm
             have rH0_z3 : z3.cell? ⟨H0, 0, none⟩ = some (.pointer (some ⟨G, o, none⟩)) := (cell_of_row _ _ _ _ _ _ hH_z3).trans rfl
             have rH1_z3 : z3.cell? ⟨H0, 1, none⟩ = some (.bool rst) := (cell_of_row _ _ _ _ _ _ hH_z3).trans rfl
             clear hH_z2 hP_z2 E_z2 rH0_z2 rH1_z2
             clear hp hm))
        refine beginW (S := fun W' => Ext z3 W') (S2 := fun W' => Pm G o z3 W') 29 (by kernel_rfl) ?_
        intro wd hqx
        have hq0 : Ext z3 wd := hqx
        refine tWp 0 29 ((.pointer (some ⟨G, o + 22, none⟩))) rfl rfl hq0 ?_
        simp only [ps]
        refine tWp 1 29 ((.pointer (some ⟨G, o + 22, none⟩))) rfl rfl hq0 ?_
        simp only [ps]
        refine tWp 2 29 ((.pointer (some ⟨G, o + 22, none⟩))) rfl rfl hq0 ?_
        simp only [ps]
        refine tWp 3 29 ((.pointer (some ⟨G, o + 23, none⟩))) rfl rfl hq0 ?_
        simp only [ps]
        refine tW 4 29 (_) rfl rfl (yieldsIf_cell rfl 4 _ rfl ⟨G, o + 23, none⟩ rfl (.bool true) _ (fun W' hW' => ((hP_z3.ext hW').cell (j := 23) (by decide)).trans ((get_ne (by decide)).trans ((get_ne (by decide)).trans HL_23.out))) Tryz.underlying4 rfl) hq0 ?_
        simp only [ps]
        refine tWp 5 29 ((.bool true)) rfl rfl hq0 ?_
        simp only [ps]
        refine tWp 6 29 ((.pointer (some ⟨H0, 0, none⟩))) rfl rfl hq0 ?_
        simp only [ps]
        refine tW 7 29 (_) rfl rfl (yieldsIf_cell rfl 79 _ rfl ⟨H0, 0, none⟩ rfl (.pointer (some ⟨G, o, none⟩)) _ (fun W' hW' => (cell_of_row _ _ _ _ _ _ ((hW'.block _ (heap_lt hH_z3)).trans hH_z3)).trans rfl) Tryz.underlying79 rfl) hq0 ?_
        simp only [ps]
        refine tWp 8 29 ((.pointer (some ⟨G, o, none⟩))) rfl rfl hq0 ?_
        simp only [ps]
        refine tWp 9 29 ((.pointer (some ⟨G, o + 86, none⟩))) rfl rfl hq0 ?_
        simp only [ps]
        refine tW 10 29 (_) rfl rfl (yieldsIf_cell rfl 3 _ rfl ⟨G, o + 86, none⟩ rfl (.int .i64 2) _ (fun W' hW' => ((hP_z3.ext hW').cell (j := 86) (by decide)).trans ((get_ne (by decide)).trans ((get_ne (by decide)).trans HL_86.out))) Tryz.underlying3 rfl) hq0 ?_
        simp only [ps]
        refine tW 11 29 ((.bool true)) rfl rfl (Or.inl ⟨rfl, fun W' _ => by go_simp⟩) hq0 ?_
        simp only [ps]
        refine tWp 12 29 ((.bool true)) rfl rfl hq0 ?_
        simp only [ps]
        refine tWp 13 29 ((.bool true)) rfl rfl hq0 ?_
        simp only [ps]
        refine tWp 14 29 ((.pointer (some ⟨H0, 0, none⟩))) rfl rfl hq0 ?_
        simp only [ps]
        refine tW 15 29 (_) rfl rfl (yieldsIf_cell rfl 79 _ rfl ⟨H0, 0, none⟩ rfl (.pointer (some ⟨G, o, none⟩)) _ (fun W' hW' => (cell_of_row _ _ _ _ _ _ ((hW'.block _ (heap_lt hH_z3)).trans hH_z3)).trans rfl) Tryz.underlying79 rfl) hq0 ?_
        simp only [ps]
        refine tWp 16 29 ((.pointer (some ⟨G, o, none⟩))) rfl rfl hq0 ?_
        simp only [ps]
        refine tWp 17 29 ((.pointer (some ⟨G, o + 68, none⟩))) rfl rfl hq0 ?_
        simp only [ps]
        refine tW 18 29 (_) rfl rfl (yieldsIf_load_mid rfl 30 _ rfl G (o + 68) rfl ([.int .u64 x68, .int .u32 x69, .int .u64 x70, .int .u16 x71, .int .u16 x72]) _ (fun W' hW' => (hP_z3.ext hW').range (j := 68) (n := 5) ((seg_ne (by decide)).trans ((seg_ne (by decide)).trans HS_68.out)) (by decide)) Tryz.underlying30 rfl (by kernel_rfl)) hq0 ?_
        simp only [ps]
        refine tWp 19 29 ((.pointer (some ⟨H0, 0, none⟩))) rfl rfl hq0 ?_
        simp only [ps]
        refine tW 20 29 (_) rfl rfl (yieldsIf_cell rfl 79 _ rfl ⟨H0, 0, none⟩ rfl (.pointer (some ⟨G, o, none⟩)) _ (fun W' hW' => (cell_of_row _ _ _ _ _ _ ((hW'.block _ (heap_lt hH_z3)).trans hH_z3)).trans rfl) Tryz.underlying79 rfl) hq0 ?_
        simp only [ps]
        refine tWp 21 29 ((.pointer (some ⟨G, o, none⟩))) rfl rfl hq0 ?_
        simp only [ps]
        refine tWp 22 29 ((.pointer (some ⟨G, o + 73, none⟩))) rfl rfl hq0 ?_
        simp only [ps]
        refine tW 23 29 (_) rfl rfl (yieldsIf_load_mid rfl 30 _ rfl G (o + 73) rfl ([.int .u64 x73, .int .u32 x74, .int .u64 x75, .int .u16 x76, .int .u16 x77]) _ (fun W' hW' => (hP_z3.ext hW').range (j := 73) (n := 5) ((seg_ne (by decide)).trans ((seg_ne (by decide)).trans HS_73.out)) (by decide)) Tryz.underlying30 rfl (by kernel_rfl)) hq0 ?_
        simp only [ps]
        refine runWG (i := 24) rfl (by rfl) (by kernel_rfl) (fun _ h => Ext.pm h G o) (fun K hK => ?_)
        go_simp
        refine (better_any _ _ _ _ _ _ _ _ _ _ _).mono ?_
        rintro e wc1 ⟨rfl, hx⟩
        have hq1 := hq0.trans hx
        clear hx
        refine hK.out _ _ hq1 (fun hHeld => ?_)
        try simp only [ps]
        clear hK K hHeld
        refine tW 25 29 ((.bool (!(decide ((c4 x68 x69 x70 x71 x73 x74 x75 x76) < 0))))) rfl rfl (Or.inl ⟨rfl, fun W' _ => by go_simp⟩) hq1 ?_
        simp only [ps]
        refine tWp 26 29 ((.bool (!(decide ((c4 x68 x69 x70 x71 x73 x74 x75 x76) < 0))))) rfl rfl hq1 ?_
        simp only [ps]
        refine tVp 27 29 ((.pointer (some ⟨G, o + 22, none⟩))) rfl hq1 ?_
        simp only [ps]
        refine tWp 28 29 ((.pointer (some ⟨G, o + 23, none⟩))) rfl rfl hq1 ?_
        simp only [ps]
        refine runWl (z := 29) rfl rfl (by kernel_rfl) (fun K hK => ?_)
        refine wp_st_pv rfl 4 _ _ rfl G o 23 _ (hP_z3.ext hq1) _ #[.bool (!(decide ((c4 x68 x69 x70 x71 x73 x74 x75 x76) < 0)))] rfl rfl rfl (by exact (by decide : 23 + 1 ≤ 89)) (by kernel_rfl) rfl (fun ws29 hp29 hm29 => ?_)
        replace hp29 := pv_one hp29 (len_set' (len_set' HLEN.out)) (by decide)
        have hr29 : Pm G o z3 ws29 := (Ext.pm hq1 G o).trans hm29
        refine hK.out _ _ hr29 (fun _ => ?_)
        try simp only [ps]
        clear hK K
        refine wpAnyH_done (by kernel_rfl) ?_ _
        generalize ws29 = z4 at *
        have hP_z4 : Pv z4 G o (((L.set 34 (.bool false)).set 33 (.bool false)).set 23 (.bool (!(decide ((c4 x68 x69 x70 x71 x73 x74 x75 x76) < 0))))) := hp29
        have hH_z4 : z4.heap[H0]? = some (.cells #[.pointer (some ⟨G, o, none⟩), .bool rst] 110 (0, 0)) := (hm29.row ((hq1.block _ (heap_lt hH_z3)).trans hH_z3) (show H0 ≠ G by omega))
        have E_z4 : Pm G o w z4 := (E_z3.ext hq1).trans hm29
        have rH0_z4 : z4.cell? ⟨H0, 0, none⟩ = some (.pointer (some ⟨G, o, none⟩)) := (cell_of_row _ _ _ _ _ _ hH_z4).trans rfl
        have rH1_z4 : z4.cell? ⟨H0, 1, none⟩ = some (.bool rst) := (cell_of_row _ _ _ _ _ _ hH_z4).trans rfl
        have p23_z4 : z4.cell? ⟨G, o + 23, none⟩ = some (.bool (!(decide ((c4 x68 x69 x70 x71 x73 x74 x75 x76) < 0)))) := (hP_z4.cell (j := 23) (by decide)).trans (get_same (len_set' (len_set' HLEN.out)) (by decide))
        have p47_z4 : z4.cell? ⟨G, o + 47, none⟩ = some (.bool false) := (hP_z4.cell (j := 47) (by decide)).trans ((get_ne (by decide)).trans ((get_ne (by decide)).trans ((get_ne (by decide)).trans HL_47.out)))
        clear hH_z3 hP_z3 E_z3 rH0_z3 rH1_z3
        clear hq0 hq1 hqx hm29 hp29 hr29
        go_wp2_with (first
          | fail
          | ((with_reducible refine at_store 4 ?_); refine st_pv rfl rfl 4 _ _ rfl G o 47 _ hP_z4 _ #[.bool false] rfl rfl rfl (by exact (by decide : 47 + 1 ≤ 89)) (by kernel_rfl) rfl ?_
             intro z5 hp hm
             replace hp := pv_one hp (len_set' (len_set' (len_set' HLEN.out))) (by decide)
             have hP_z5 := hp
             have hH_z5 := hm.row hH_z4 (show H0 ≠ G by omega)
             have E_z5 : Pm G o w z5 := E_z4.trans hm
             have rH0_z5 : z5.cell? ⟨H0, 0, none⟩ = some (.pointer (some ⟨G, o, none⟩)) := (cell_of_row _ _ _ _ _ _ hH_z5).trans rfl
             have rH1_z5 : z5.cell? ⟨H0, 1, none⟩ = some (.bool rst) := (cell_of_row _ _ _ _ _ _ hH_z5).trans rfl
             clear hH_z4 hP_z4 E_z4 rH0_z4 rH1_z4 p23_z4 p47_z4
             clear hp hm))
        refine beginW (S := fun W' => Ext z5 W') (S2 := fun W' => Pm G o z5 W') 16 (by kernel_rfl) ?_
        intro wd hqx
        have hq0 : Ext z5 wd := hqx
        refine tWp 0 16 ((.pointer (some ⟨H0, 0, none⟩))) rfl rfl hq0 ?_
        simp only [ps]
        refine tW 1 16 (_) rfl rfl (yieldsIf_cell rfl 79 _ rfl ⟨H0, 0, none⟩ rfl (.pointer (some ⟨G, o, none⟩)) _ (fun W' hW' => (cell_of_row _ _ _ _ _ _ ((hW'.block _ (heap_lt hH_z5)).trans hH_z5)).trans rfl) Tryz.underlying79 rfl) hq0 ?_
        simp only [ps]
        refine tVp 2 16 ((.pointer (some ⟨H0, 0, none⟩))) rfl hq0 ?_
        simp only [ps]
        refine tV 3 16 (_) rfl (yieldsIf_cell rfl 79 _ rfl ⟨H0, 0, none⟩ rfl (.pointer (some ⟨G, o, none⟩)) _ (fun W' hW' => (cell_of_row _ _ _ _ _ _ (Pm.row hW' hH_z5 (show H0 ≠ G by omega))).trans rfl) Tryz.underlying79 rfl) hq0 ?_
        simp only [ps]
        refine tWp 4 16 ((.pointer (some ⟨H0, 0, none⟩))) rfl rfl hq0 ?_
        simp only [ps]
        refine tW 5 16 (_) rfl rfl (yieldsIf_cell rfl 79 _ rfl ⟨H0, 0, none⟩ rfl (.pointer (some ⟨G, o, none⟩)) _ (fun W' hW' => (cell_of_row _ _ _ _ _ _ ((hW'.block _ (heap_lt hH_z5)).trans hH_z5)).trans rfl) Tryz.underlying79 rfl) hq0 ?_
        simp only [ps]
        refine tWp 6 16 ((.pointer (some ⟨G, o, none⟩))) rfl rfl hq0 ?_
        simp only [ps]
        refine tWp 7 16 ((.pointer (some ⟨G, o + 73, none⟩))) rfl rfl hq0 ?_
        simp only [ps]
        refine tW 8 16 (_) rfl rfl (yieldsIf_load_mid rfl 30 _ rfl G (o + 73) rfl ([.int .u64 x73, .int .u32 x74, .int .u64 x75, .int .u16 x76, .int .u16 x77]) _ (fun W' hW' => (hP_z5.ext hW').range (j := 73) (n := 5) ((seg_ne (by decide)).trans ((seg_ne (by decide)).trans ((seg_ne (by decide)).trans ((seg_ne (by decide)).trans HS_73.out)))) (by decide)) Tryz.underlying30 rfl (by kernel_rfl)) hq0 ?_
        simp only [ps]
        refine tVp 9 16 ((.pointer (some ⟨H0, 0, none⟩))) rfl hq0 ?_
        simp only [ps]
        refine tV 10 16 (_) rfl (yieldsIf_cell rfl 79 _ rfl ⟨H0, 0, none⟩ rfl (.pointer (some ⟨G, o, none⟩)) _ (fun W' hW' => (cell_of_row _ _ _ _ _ _ (Pm.row hW' hH_z5 (show H0 ≠ G by omega))).trans rfl) Tryz.underlying79 rfl) hq0 ?_
        simp only [ps]
        refine tVp 11 16 ((.pointer (some ⟨G, o, none⟩))) rfl hq0 ?_
        simp only [ps]
        refine tVp 12 16 ((.pointer (some ⟨G, o + 82, none⟩))) rfl hq0 ?_
        simp only [ps]
        refine tW 13 16 (_) rfl rfl (yieldsIf_load_mid rfl 24 _ rfl G (o + 82) rfl ([.int .i64 x82, .int .i64 x83, .int .i64 x84, .int .i64 x85]) _ (fun W' hW' => (hP_z5.ext hW').range (j := 82) (n := 4) ((seg_ne (by decide)).trans ((seg_ne (by decide)).trans ((seg_ne (by decide)).trans ((seg_ne (by decide)).trans HS_82.out)))) (by decide)) Tryz.underlying24 rfl (by kernel_rfl)) hq0 ?_
        simp only [ps]
        refine tVp 14 16 ((.pointer (some ⟨G, o, none⟩))) rfl hq0 ?_
        simp only [ps]
        refine tWp 15 16 ((.pointer (some ⟨G, o + 68, none⟩))) rfl rfl hq0 ?_
        simp only [ps]
        refine runWl (z := 16) rfl rfl (by kernel_rfl) (fun K hK => ?_)
        refine wp_st_pv rfl 30 _ _ rfl G o 68 _ (hP_z5.ext hq0) _ #[.int .u64 x73, .int .u32 x74, .int .u64 x75, .int .u16 x76, .int .u16 x77] rfl rfl rfl (by exact (by decide : 68 + 5 ≤ 89)) (by kernel_rfl) rfl (fun ws16 hp16 hm16 => ?_)
        have hr16 : Pm G o z5 ws16 := (Ext.pm hq0 G o).trans hm16
        refine hK.out _ _ hr16 (fun _ => ?_)
        try simp only [ps]
        clear hK K
        refine tLp 17 ((.pointer (some ⟨G, o, none⟩))) rfl hr16 ?_
        simp only [ps]
        refine tLp 18 ((.pointer (some ⟨G, o + 78, none⟩))) rfl hr16 ?_
        simp only [ps]
        refine runL (i := 19) rfl rfl (by kernel_rfl) (fun K hK => ?_)
        refine wp_st_pv rfl 24 _ _ rfl G o 78 _ hp16 _ #[.int .i64 x82, .int .i64 x83, .int .i64 x84, .int .i64 x85] rfl rfl rfl (by exact (by decide : 78 + 4 ≤ 89)) (by kernel_rfl) rfl (fun ws19 hp19 hm19 => ?_)
        have hr19 : Pm G o z5 ws19 := hr16.trans hm19
        refine hK.out _ _ hr19 (fun _ => ?_)
        try simp only [ps]
        clear hK K
        refine wpAnyH_done (by kernel_rfl) ?_ _
        generalize ws19 = z6 at *
        have hP_z6 : Pv z6 G o (setL (setL ((((L.set 34 (.bool false)).set 33 (.bool false)).set 23 (.bool (!(decide ((c4 x68 x69 x70 x71 x73 x74 x75 x76) < 0))))).set 47 (.bool false)) 68 [.int .u64 x73, .int .u32 x74, .int .u64 x75, .int .u16 x76, .int .u16 x77]) 78 [.int .i64 x82, .int .i64 x83, .int .i64 x84, .int .i64 x85]) := hp19
        have hH_z6 : z6.heap[H0]? = some (.cells #[.pointer (some ⟨G, o, none⟩), .bool rst] 110 (0, 0)) := (hm19.row (hm16.row ((hq0.block _ (heap_lt hH_z5)).trans hH_z5) (show H0 ≠ G by omega)) (show H0 ≠ G by omega))
        have E_z6 : Pm G o w z6 := ((E_z5.ext hq0).trans hm16).trans hm19
        have rH0_z6 : z6.cell? ⟨H0, 0, none⟩ = some (.pointer (some ⟨G, o, none⟩)) := (cell_of_row _ _ _ _ _ _ hH_z6).trans rfl
        have rH1_z6 : z6.cell? ⟨H0, 1, none⟩ = some (.bool rst) := (cell_of_row _ _ _ _ _ _ hH_z6).trans rfl
        clear hH_z5 hP_z5 E_z5 rH0_z5 rH1_z5
        clear hq0 hqx hm16 hm19 hp16 hp19 hr16 hr19
        go_wp2_with (first
          | fail
          | ((with_reducible refine at_store 4 ?_); refine st_pv rfl rfl 4 _ _ rfl G o 50 _ hP_z6 _ #[.bool false] rfl rfl rfl (by exact (by decide : 50 + 1 ≤ 89)) (by kernel_rfl) rfl ?_
             intro z7 hp hm
             replace hp := pv_one hp (len_setL (len_setL (len_set' (len_set' (len_set' (len_set' HLEN.out)))) (by exact (by decide : 68 + 5 ≤ 89))) (by exact (by decide : 78 + 4 ≤ 89))) (by decide)
             have hP_z7 := hp
             have hH_z7 := hm.row hH_z6 (show H0 ≠ G by omega)
             have E_z7 : Pm G o w z7 := E_z6.trans hm
             have rH0_z7 : z7.cell? ⟨H0, 0, none⟩ = some (.pointer (some ⟨G, o, none⟩)) := (cell_of_row _ _ _ _ _ _ hH_z7).trans rfl
             have rH1_z7 : z7.cell? ⟨H0, 1, none⟩ = some (.bool rst) := (cell_of_row _ _ _ _ _ _ hH_z7).trans rfl
             clear hH_z6 hP_z6 E_z6 rH0_z6 rH1_z6
             clear hp hm)
          | ((with_reducible refine at_store 3 ?_); refine st_pv rfl rfl 3 _ _ rfl G o 86 _ hP_z7 _ #[.int .i64 2] rfl rfl rfl (by exact (by decide : 86 + 1 ≤ 89)) (by kernel_rfl) rfl ?_
             intro z8 hp hm
             replace hp := pv_one hp (len_set' (len_setL (len_setL (len_set' (len_set' (len_set' (len_set' HLEN.out)))) (by exact (by decide : 68 + 5 ≤ 89))) (by exact (by decide : 78 + 4 ≤ 89)))) (by decide)
             have hP_z8 := hp
             have hH_z8 := hm.row hH_z7 (show H0 ≠ G by omega)
             have E_z8 : Pm G o w z8 := E_z7.trans hm
             have rH0_z8 : z8.cell? ⟨H0, 0, none⟩ = some (.pointer (some ⟨G, o, none⟩)) := (cell_of_row _ _ _ _ _ _ hH_z8).trans rfl
             have rH1_z8 : z8.cell? ⟨H0, 1, none⟩ = some (.bool rst) := (cell_of_row _ _ _ _ _ _ hH_z8).trans rfl
             clear hH_z7 hP_z7 E_z7 rH0_z7 rH1_z7
             clear hp hm)
          | ((with_reducible refine at_store 4 ?_); refine st_pv rfl rfl 4 _ _ rfl G o 31 _ hP_z8 _ #[.bool true] rfl rfl rfl (by exact (by decide : 31 + 1 ≤ 89)) (by kernel_rfl) rfl ?_
             intro z9 hp hm
             replace hp := pv_one hp (len_set' (len_set' (len_setL (len_setL (len_set' (len_set' (len_set' (len_set' HLEN.out)))) (by exact (by decide : 68 + 5 ≤ 89))) (by exact (by decide : 78 + 4 ≤ 89))))) (by decide)
             have hP_z9 := hp
             have hH_z9 := hm.row hH_z8 (show H0 ≠ G by omega)
             have E_z9 : Pm G o w z9 := E_z8.trans hm
             have rH0_z9 : z9.cell? ⟨H0, 0, none⟩ = some (.pointer (some ⟨G, o, none⟩)) := (cell_of_row _ _ _ _ _ _ hH_z9).trans rfl
             have rH1_z9 : z9.cell? ⟨H0, 1, none⟩ = some (.bool rst) := (cell_of_row _ _ _ _ _ _ hH_z9).trans rfl
             clear hH_z8 hP_z8 E_z8 rH0_z8 rH1_z8
             clear hp hm)
          | ((with_reducible refine at_store 3 ?_); refine st_pv rfl rfl 3 _ _ rfl G o 18 _ hP_z9 _ #[.int .i64 2] rfl rfl rfl (by exact (by decide : 18 + 1 ≤ 89)) (by kernel_rfl) rfl ?_
             intro z10 hp hm
             replace hp := pv_one hp (len_set' (len_set' (len_set' (len_setL (len_setL (len_set' (len_set' (len_set' (len_set' HLEN.out)))) (by exact (by decide : 68 + 5 ≤ 89))) (by exact (by decide : 78 + 4 ≤ 89)))))) (by decide)
             have hP_z10 := hp
             have hH_z10 := hm.row hH_z9 (show H0 ≠ G by omega)
             have E_z10 : Pm G o w z10 := E_z9.trans hm
             have rH0_z10 : z10.cell? ⟨H0, 0, none⟩ = some (.pointer (some ⟨G, o, none⟩)) := (cell_of_row _ _ _ _ _ _ hH_z10).trans rfl
             have rH1_z10 : z10.cell? ⟨H0, 1, none⟩ = some (.bool rst) := (cell_of_row _ _ _ _ _ _ hH_z10).trans rfl
             clear hH_z9 hP_z9 E_z9 rH0_z9 rH1_z9
             clear hp hm))
        go_end0
        exact ⟨rfl, hP_z10, E_z10⟩
      · refine res_pv (L1 := iupd2 (!(decide ((c4 x68 x69 x70 x71 x73 x74 x75 x76) < 0))) (!(decide ((c4 x68 x69 x70 x71 x73 x74 x75 x76) < 0))) [.int .u64 x73, .int .u32 x74, .int .u64 x75, .int .u16 x76, .int .u16 x77] [.int .i64 x82, .int .i64 x83, .int .i64 x84, .int .i64 x85] L) ?_ (by unfold iupd; rfl)
        unfold iupd2
        have hG := hP_w.lt
        have HLEN := Lib.hid hl
        have HL_23 := Lib.hid h23
        have HL_47 := Lib.hid h47
        have HL_68 := Lib.hid h68
        have HL_69 := Lib.hid h69
        have HL_70 := Lib.hid h70
        have HL_71 := Lib.hid h71
        have HL_72 := Lib.hid h72
        have HL_73 := Lib.hid h73
        have HL_74 := Lib.hid h74
        have HL_75 := Lib.hid h75
        have HL_76 := Lib.hid h76
        have HL_77 := Lib.hid h77
        have HL_82 := Lib.hid h82
        have HL_83 := Lib.hid h83
        have HL_84 := Lib.hid h84
        have HL_85 := Lib.hid h85
        have HL_86 := Lib.hid h86
        have HS_68 := Lib.hid (seg_of (L := L) (j := 68) (l := [.int .u64 x68, .int .u32 x69, .int .u64 x70, .int .u16 x71, .int .u16 x72]) (by rw [hl]; exact (by decide : 68 + 5 ≤ 89)) (fun i hi => by
          match i, hi with
          | 0, _ => exact HL_68.out
          | 1, _ => exact HL_69.out
          | 2, _ => exact HL_70.out
          | 3, _ => exact HL_71.out
          | 4, _ => exact HL_72.out
          | i + 5, hi => simp at hi; omega))
        have HS_73 := Lib.hid (seg_of (L := L) (j := 73) (l := [.int .u64 x73, .int .u32 x74, .int .u64 x75, .int .u16 x76, .int .u16 x77]) (by rw [hl]; exact (by decide : 73 + 5 ≤ 89)) (fun i hi => by
          match i, hi with
          | 0, _ => exact HL_73.out
          | 1, _ => exact HL_74.out
          | 2, _ => exact HL_75.out
          | 3, _ => exact HL_76.out
          | 4, _ => exact HL_77.out
          | i + 5, hi => simp at hi; omega))
        have HS_82 := Lib.hid (seg_of (L := L) (j := 82) (l := [.int .i64 x82, .int .i64 x83, .int .i64 x84, .int .i64 x85]) (by rw [hl]; exact (by decide : 82 + 4 ≤ 89)) (fun i hi => by
          match i, hi with
          | 0, _ => exact HL_82.out
          | 1, _ => exact HL_83.out
          | 2, _ => exact HL_84.out
          | 3, _ => exact HL_85.out
          | i + 4, hi => simp at hi; omega))
        clear hl h23 h47 h68 h69 h70 h71 h72 h73 h74 h75 h76 h77 h82 h83 h84 h85 h86
        go_enter Tryz.func80, Tryz.ntmps80
        go_wp2_with (first
          | fail
          | ((with_reducible refine at_box 110 ?_); refine bx_row rfl 110 _ rfl #[.pointer (some ⟨G, o, none⟩), .bool rst] rfl ?_
             intro H0 z1 hq hs hx
             have E_z1 : Pm G o w z1 := Ext.pm hx G o
             have hP_z1 : Pv z1 G o L := hP_w.ext hx
             have hH_z1 : z1.heap[H0]? = some (.cells #[.pointer (some ⟨G, o, none⟩), .bool rst] 110 (0, 0)) := hq
             have hb_H0 : w.heap.size ≤ H0 := by omega
             have hn_H0G : H0 ≠ G := by omega
             have rH0_z1 : z1.cell? ⟨H0, 0, none⟩ = some (.pointer (some ⟨G, o, none⟩)) := (cell_of_row _ _ _ _ _ _ hH_z1).trans rfl
             have rH1_z1 : z1.cell? ⟨H0, 1, none⟩ = some (.bool rst) := (cell_of_row _ _ _ _ _ _ hH_z1).trans rfl
             clear hP_w
             clear hq hs hx)
          | ((with_reducible refine at_store 4 ?_); refine st_pv rfl rfl 4 _ _ rfl G o 34 _ hP_z1 _ #[.bool false] rfl rfl rfl (by exact (by decide : 34 + 1 ≤ 89)) (by kernel_rfl) rfl ?_
             intro z2 hp hm
             replace hp := pv_one hp HLEN.out (by decide)
             have hP_z2 := hp
             have hH_z2 := hm.row hH_z1 (show H0 ≠ G by omega)
             have E_z2 : Pm G o w z2 := E_z1.trans hm
             have rH0_z2 : z2.cell? ⟨H0, 0, none⟩ = some (.pointer (some ⟨G, o, none⟩)) := (cell_of_row _ _ _ _ _ _ hH_z2).trans rfl
             have rH1_z2 : z2.cell? ⟨H0, 1, none⟩ = some (.bool rst) := (cell_of_row _ _ _ _ _ _ hH_z2).trans rfl
             clear hH_z1 hP_z1 E_z1 rH0_z1 rH1_z1
             clear hp hm)
          | ((with_reducible refine at_store 4 ?_); refine st_pv rfl rfl 4 _ _ rfl G o 33 _ hP_z2 _ #[.bool false] rfl rfl rfl (by exact (by decide : 33 + 1 ≤ 89)) (by kernel_rfl) rfl ?_
             intro z3 hp hm
             replace hp := pv_one hp (len_set' HLEN.out) (by decide)
             have hP_z3 := hp
             have hH_z3 := hm.row hH_z2 (show H0 ≠ G by omega)
             have E_z3 : Pm G o w z3 := E_z2.trans hm
             have rH0_z3 : z3.cell? ⟨H0, 0, none⟩ = some (.pointer (some ⟨G, o, none⟩)) := (cell_of_row _ _ _ _ _ _ hH_z3).trans rfl
             have rH1_z3 : z3.cell? ⟨H0, 1, none⟩ = some (.bool rst) := (cell_of_row _ _ _ _ _ _ hH_z3).trans rfl
             clear hH_z2 hP_z2 E_z2 rH0_z2 rH1_z2
             clear hp hm))
        refine beginW (S := fun W' => Ext z3 W') (S2 := fun W' => Pm G o z3 W') 29 (by kernel_rfl) ?_
        intro wd hqx
        have hq0 : Ext z3 wd := hqx
        refine tWp 0 29 ((.pointer (some ⟨G, o + 22, none⟩))) rfl rfl hq0 ?_
        simp only [ps]
        refine tWp 1 29 ((.pointer (some ⟨G, o + 22, none⟩))) rfl rfl hq0 ?_
        simp only [ps]
        refine tWp 2 29 ((.pointer (some ⟨G, o + 22, none⟩))) rfl rfl hq0 ?_
        simp only [ps]
        refine tWp 3 29 ((.pointer (some ⟨G, o + 23, none⟩))) rfl rfl hq0 ?_
        simp only [ps]
        refine tW 4 29 (_) rfl rfl (yieldsIf_cell rfl 4 _ rfl ⟨G, o + 23, none⟩ rfl (.bool true) _ (fun W' hW' => ((hP_z3.ext hW').cell (j := 23) (by decide)).trans ((get_ne (by decide)).trans ((get_ne (by decide)).trans HL_23.out))) Tryz.underlying4 rfl) hq0 ?_
        simp only [ps]
        refine tWp 5 29 ((.bool true)) rfl rfl hq0 ?_
        simp only [ps]
        refine tWp 6 29 ((.pointer (some ⟨H0, 0, none⟩))) rfl rfl hq0 ?_
        simp only [ps]
        refine tW 7 29 (_) rfl rfl (yieldsIf_cell rfl 79 _ rfl ⟨H0, 0, none⟩ rfl (.pointer (some ⟨G, o, none⟩)) _ (fun W' hW' => (cell_of_row _ _ _ _ _ _ ((hW'.block _ (heap_lt hH_z3)).trans hH_z3)).trans rfl) Tryz.underlying79 rfl) hq0 ?_
        simp only [ps]
        refine tWp 8 29 ((.pointer (some ⟨G, o, none⟩))) rfl rfl hq0 ?_
        simp only [ps]
        refine tWp 9 29 ((.pointer (some ⟨G, o + 86, none⟩))) rfl rfl hq0 ?_
        simp only [ps]
        refine tW 10 29 (_) rfl rfl (yieldsIf_cell rfl 3 _ rfl ⟨G, o + 86, none⟩ rfl (.int .i64 2) _ (fun W' hW' => ((hP_z3.ext hW').cell (j := 86) (by decide)).trans ((get_ne (by decide)).trans ((get_ne (by decide)).trans HL_86.out))) Tryz.underlying3 rfl) hq0 ?_
        simp only [ps]
        refine tW 11 29 ((.bool true)) rfl rfl (Or.inl ⟨rfl, fun W' _ => by go_simp⟩) hq0 ?_
        simp only [ps]
        refine tWp 12 29 ((.bool true)) rfl rfl hq0 ?_
        simp only [ps]
        refine tWp 13 29 ((.bool true)) rfl rfl hq0 ?_
        simp only [ps]
        refine tWp 14 29 ((.pointer (some ⟨H0, 0, none⟩))) rfl rfl hq0 ?_
        simp only [ps]
        refine tW 15 29 (_) rfl rfl (yieldsIf_cell rfl 79 _ rfl ⟨H0, 0, none⟩ rfl (.pointer (some ⟨G, o, none⟩)) _ (fun W' hW' => (cell_of_row _ _ _ _ _ _ ((hW'.block _ (heap_lt hH_z3)).trans hH_z3)).trans rfl) Tryz.underlying79 rfl) hq0 ?_
        simp only [ps]
        refine tWp 16 29 ((.pointer (some ⟨G, o, none⟩))) rfl rfl hq0 ?_
        simp only [ps]
        refine tWp 17 29 ((.pointer (some ⟨G, o + 68, none⟩))) rfl rfl hq0 ?_
        simp only [ps]
        refine tW 18 29 (_) rfl rfl (yieldsIf_load_mid rfl 30 _ rfl G (o + 68) rfl ([.int .u64 x68, .int .u32 x69, .int .u64 x70, .int .u16 x71, .int .u16 x72]) _ (fun W' hW' => (hP_z3.ext hW').range (j := 68) (n := 5) ((seg_ne (by decide)).trans ((seg_ne (by decide)).trans HS_68.out)) (by decide)) Tryz.underlying30 rfl (by kernel_rfl)) hq0 ?_
        simp only [ps]
        refine tWp 19 29 ((.pointer (some ⟨H0, 0, none⟩))) rfl rfl hq0 ?_
        simp only [ps]
        refine tW 20 29 (_) rfl rfl (yieldsIf_cell rfl 79 _ rfl ⟨H0, 0, none⟩ rfl (.pointer (some ⟨G, o, none⟩)) _ (fun W' hW' => (cell_of_row _ _ _ _ _ _ ((hW'.block _ (heap_lt hH_z3)).trans hH_z3)).trans rfl) Tryz.underlying79 rfl) hq0 ?_
        simp only [ps]
        refine tWp 21 29 ((.pointer (some ⟨G, o, none⟩))) rfl rfl hq0 ?_
        simp only [ps]
        refine tWp 22 29 ((.pointer (some ⟨G, o + 73, none⟩))) rfl rfl hq0 ?_
        simp only [ps]
        refine tW 23 29 (_) rfl rfl (yieldsIf_load_mid rfl 30 _ rfl G (o + 73) rfl ([.int .u64 x73, .int .u32 x74, .int .u64 x75, .int .u16 x76, .int .u16 x77]) _ (fun W' hW' => (hP_z3.ext hW').range (j := 73) (n := 5) ((seg_ne (by decide)).trans ((seg_ne (by decide)).trans HS_73.out)) (by decide)) Tryz.underlying30 rfl (by kernel_rfl)) hq0 ?_
        simp only [ps]
        refine runWG (i := 24) rfl (by rfl) (by kernel_rfl) (fun _ h => Ext.pm h G o) (fun K hK => ?_)
        go_simp
        refine (better_any _ _ _ _ _ _ _ _ _ _ _).mono ?_
        rintro e wc1 ⟨rfl, hx⟩
        have hq1 := hq0.trans hx
        clear hx
        refine hK.out _ _ hq1 (fun hHeld => ?_)
        try simp only [ps]
        clear hK K hHeld
        refine tW 25 29 ((.bool (!(decide ((c4 x68 x69 x70 x71 x73 x74 x75 x76) < 0))))) rfl rfl (Or.inl ⟨rfl, fun W' _ => by go_simp⟩) hq1 ?_
        simp only [ps]
        refine tWp 26 29 ((.bool (!(decide ((c4 x68 x69 x70 x71 x73 x74 x75 x76) < 0))))) rfl rfl hq1 ?_
        simp only [ps]
        refine tVp 27 29 ((.pointer (some ⟨G, o + 22, none⟩))) rfl hq1 ?_
        simp only [ps]
        refine tWp 28 29 ((.pointer (some ⟨G, o + 23, none⟩))) rfl rfl hq1 ?_
        simp only [ps]
        refine runWl (z := 29) rfl rfl (by kernel_rfl) (fun K hK => ?_)
        refine wp_st_pv rfl 4 _ _ rfl G o 23 _ (hP_z3.ext hq1) _ #[.bool (!(decide ((c4 x68 x69 x70 x71 x73 x74 x75 x76) < 0)))] rfl rfl rfl (by exact (by decide : 23 + 1 ≤ 89)) (by kernel_rfl) rfl (fun ws29 hp29 hm29 => ?_)
        replace hp29 := pv_one hp29 (len_set' (len_set' HLEN.out)) (by decide)
        have hr29 : Pm G o z3 ws29 := (Ext.pm hq1 G o).trans hm29
        refine hK.out _ _ hr29 (fun _ => ?_)
        try simp only [ps]
        clear hK K
        refine wpAnyH_done (by kernel_rfl) ?_ _
        generalize ws29 = z4 at *
        have hP_z4 : Pv z4 G o (((L.set 34 (.bool false)).set 33 (.bool false)).set 23 (.bool (!(decide ((c4 x68 x69 x70 x71 x73 x74 x75 x76) < 0))))) := hp29
        have hH_z4 : z4.heap[H0]? = some (.cells #[.pointer (some ⟨G, o, none⟩), .bool rst] 110 (0, 0)) := (hm29.row ((hq1.block _ (heap_lt hH_z3)).trans hH_z3) (show H0 ≠ G by omega))
        have E_z4 : Pm G o w z4 := (E_z3.ext hq1).trans hm29
        have rH0_z4 : z4.cell? ⟨H0, 0, none⟩ = some (.pointer (some ⟨G, o, none⟩)) := (cell_of_row _ _ _ _ _ _ hH_z4).trans rfl
        have rH1_z4 : z4.cell? ⟨H0, 1, none⟩ = some (.bool rst) := (cell_of_row _ _ _ _ _ _ hH_z4).trans rfl
        have p23_z4 : z4.cell? ⟨G, o + 23, none⟩ = some (.bool (!(decide ((c4 x68 x69 x70 x71 x73 x74 x75 x76) < 0)))) := (hP_z4.cell (j := 23) (by decide)).trans (get_same (len_set' (len_set' HLEN.out)) (by decide))
        have p47_z4 : z4.cell? ⟨G, o + 47, none⟩ = some (.bool true) := (hP_z4.cell (j := 47) (by decide)).trans ((get_ne (by decide)).trans ((get_ne (by decide)).trans ((get_ne (by decide)).trans HL_47.out)))
        clear hH_z3 hP_z3 E_z3 rH0_z3 rH1_z3
        clear hq0 hq1 hqx hm29 hp29 hr29
        go_wp2_with (first
          | fail
          | ((with_reducible refine at_store 4 ?_); refine st_pv rfl rfl 4 _ _ rfl G o 47 _ hP_z4 _ #[.bool (!(decide ((c4 x68 x69 x70 x71 x73 x74 x75 x76) < 0)))] rfl rfl rfl (by exact (by decide : 47 + 1 ≤ 89)) (by kernel_rfl) rfl ?_
             intro z5 hp hm
             replace hp := pv_one hp (len_set' (len_set' (len_set' HLEN.out))) (by decide)
             have hP_z5 := hp
             have hH_z5 := hm.row hH_z4 (show H0 ≠ G by omega)
             have E_z5 : Pm G o w z5 := E_z4.trans hm
             have rH0_z5 : z5.cell? ⟨H0, 0, none⟩ = some (.pointer (some ⟨G, o, none⟩)) := (cell_of_row _ _ _ _ _ _ hH_z5).trans rfl
             have rH1_z5 : z5.cell? ⟨H0, 1, none⟩ = some (.bool rst) := (cell_of_row _ _ _ _ _ _ hH_z5).trans rfl
             clear hH_z4 hP_z4 E_z4 rH0_z4 rH1_z4 p23_z4 p47_z4
             clear hp hm))
        refine beginW (S := fun W' => Ext z5 W') (S2 := fun W' => Pm G o z5 W') 16 (by kernel_rfl) ?_
        intro wd hqx
        have hq0 : Ext z5 wd := hqx
        refine tWp 0 16 ((.pointer (some ⟨H0, 0, none⟩))) rfl rfl hq0 ?_
        simp only [ps]
        refine tW 1 16 (_) rfl rfl (yieldsIf_cell rfl 79 _ rfl ⟨H0, 0, none⟩ rfl (.pointer (some ⟨G, o, none⟩)) _ (fun W' hW' => (cell_of_row _ _ _ _ _ _ ((hW'.block _ (heap_lt hH_z5)).trans hH_z5)).trans rfl) Tryz.underlying79 rfl) hq0 ?_
        simp only [ps]
        refine tVp 2 16 ((.pointer (some ⟨H0, 0, none⟩))) rfl hq0 ?_
        simp only [ps]
        refine tV 3 16 (_) rfl (yieldsIf_cell rfl 79 _ rfl ⟨H0, 0, none⟩ rfl (.pointer (some ⟨G, o, none⟩)) _ (fun W' hW' => (cell_of_row _ _ _ _ _ _ (Pm.row hW' hH_z5 (show H0 ≠ G by omega))).trans rfl) Tryz.underlying79 rfl) hq0 ?_
        simp only [ps]
        refine tWp 4 16 ((.pointer (some ⟨H0, 0, none⟩))) rfl rfl hq0 ?_
        simp only [ps]
        refine tW 5 16 (_) rfl rfl (yieldsIf_cell rfl 79 _ rfl ⟨H0, 0, none⟩ rfl (.pointer (some ⟨G, o, none⟩)) _ (fun W' hW' => (cell_of_row _ _ _ _ _ _ ((hW'.block _ (heap_lt hH_z5)).trans hH_z5)).trans rfl) Tryz.underlying79 rfl) hq0 ?_
        simp only [ps]
        refine tWp 6 16 ((.pointer (some ⟨G, o, none⟩))) rfl rfl hq0 ?_
        simp only [ps]
        refine tWp 7 16 ((.pointer (some ⟨G, o + 73, none⟩))) rfl rfl hq0 ?_
        simp only [ps]
        refine tW 8 16 (_) rfl rfl (yieldsIf_load_mid rfl 30 _ rfl G (o + 73) rfl ([.int .u64 x73, .int .u32 x74, .int .u64 x75, .int .u16 x76, .int .u16 x77]) _ (fun W' hW' => (hP_z5.ext hW').range (j := 73) (n := 5) ((seg_ne (by decide)).trans ((seg_ne (by decide)).trans ((seg_ne (by decide)).trans ((seg_ne (by decide)).trans HS_73.out)))) (by decide)) Tryz.underlying30 rfl (by kernel_rfl)) hq0 ?_
        simp only [ps]
        refine tVp 9 16 ((.pointer (some ⟨H0, 0, none⟩))) rfl hq0 ?_
        simp only [ps]
        refine tV 10 16 (_) rfl (yieldsIf_cell rfl 79 _ rfl ⟨H0, 0, none⟩ rfl (.pointer (some ⟨G, o, none⟩)) _ (fun W' hW' => (cell_of_row _ _ _ _ _ _ (Pm.row hW' hH_z5 (show H0 ≠ G by omega))).trans rfl) Tryz.underlying79 rfl) hq0 ?_
        simp only [ps]
        refine tVp 11 16 ((.pointer (some ⟨G, o, none⟩))) rfl hq0 ?_
        simp only [ps]
        refine tVp 12 16 ((.pointer (some ⟨G, o + 82, none⟩))) rfl hq0 ?_
        simp only [ps]
        refine tW 13 16 (_) rfl rfl (yieldsIf_load_mid rfl 24 _ rfl G (o + 82) rfl ([.int .i64 x82, .int .i64 x83, .int .i64 x84, .int .i64 x85]) _ (fun W' hW' => (hP_z5.ext hW').range (j := 82) (n := 4) ((seg_ne (by decide)).trans ((seg_ne (by decide)).trans ((seg_ne (by decide)).trans ((seg_ne (by decide)).trans HS_82.out)))) (by decide)) Tryz.underlying24 rfl (by kernel_rfl)) hq0 ?_
        simp only [ps]
        refine tVp 14 16 ((.pointer (some ⟨G, o, none⟩))) rfl hq0 ?_
        simp only [ps]
        refine tWp 15 16 ((.pointer (some ⟨G, o + 68, none⟩))) rfl rfl hq0 ?_
        simp only [ps]
        refine runWl (z := 16) rfl rfl (by kernel_rfl) (fun K hK => ?_)
        refine wp_st_pv rfl 30 _ _ rfl G o 68 _ (hP_z5.ext hq0) _ #[.int .u64 x73, .int .u32 x74, .int .u64 x75, .int .u16 x76, .int .u16 x77] rfl rfl rfl (by exact (by decide : 68 + 5 ≤ 89)) (by kernel_rfl) rfl (fun ws16 hp16 hm16 => ?_)
        have hr16 : Pm G o z5 ws16 := (Ext.pm hq0 G o).trans hm16
        refine hK.out _ _ hr16 (fun _ => ?_)
        try simp only [ps]
        clear hK K
        refine tLp 17 ((.pointer (some ⟨G, o, none⟩))) rfl hr16 ?_
        simp only [ps]
        refine tLp 18 ((.pointer (some ⟨G, o + 78, none⟩))) rfl hr16 ?_
        simp only [ps]
        refine runL (i := 19) rfl rfl (by kernel_rfl) (fun K hK => ?_)
        refine wp_st_pv rfl 24 _ _ rfl G o 78 _ hp16 _ #[.int .i64 x82, .int .i64 x83, .int .i64 x84, .int .i64 x85] rfl rfl rfl (by exact (by decide : 78 + 4 ≤ 89)) (by kernel_rfl) rfl (fun ws19 hp19 hm19 => ?_)
        have hr19 : Pm G o z5 ws19 := hr16.trans hm19
        refine hK.out _ _ hr19 (fun _ => ?_)
        try simp only [ps]
        clear hK K
        refine wpAnyH_done (by kernel_rfl) ?_ _
        generalize ws19 = z6 at *
        have hP_z6 : Pv z6 G o (setL (setL ((((L.set 34 (.bool false)).set 33 (.bool false)).set 23 (.bool (!(decide ((c4 x68 x69 x70 x71 x73 x74 x75 x76) < 0))))).set 47 (.bool (!(decide ((c4 x68 x69 x70 x71 x73 x74 x75 x76) < 0))))) 68 [.int .u64 x73, .int .u32 x74, .int .u64 x75, .int .u16 x76, .int .u16 x77]) 78 [.int .i64 x82, .int .i64 x83, .int .i64 x84, .int .i64 x85]) := hp19
        have hH_z6 : z6.heap[H0]? = some (.cells #[.pointer (some ⟨G, o, none⟩), .bool rst] 110 (0, 0)) := (hm19.row (hm16.row ((hq0.block _ (heap_lt hH_z5)).trans hH_z5) (show H0 ≠ G by omega)) (show H0 ≠ G by omega))
        have E_z6 : Pm G o w z6 := ((E_z5.ext hq0).trans hm16).trans hm19
        have rH0_z6 : z6.cell? ⟨H0, 0, none⟩ = some (.pointer (some ⟨G, o, none⟩)) := (cell_of_row _ _ _ _ _ _ hH_z6).trans rfl
        have rH1_z6 : z6.cell? ⟨H0, 1, none⟩ = some (.bool rst) := (cell_of_row _ _ _ _ _ _ hH_z6).trans rfl
        clear hH_z5 hP_z5 E_z5 rH0_z5 rH1_z5
        clear hq0 hqx hm16 hm19 hp16 hp19 hr16 hr19
        go_wp2_with (first
          | fail
          | ((with_reducible refine at_store 4 ?_); refine st_pv rfl rfl 4 _ _ rfl G o 50 _ hP_z6 _ #[.bool false] rfl rfl rfl (by exact (by decide : 50 + 1 ≤ 89)) (by kernel_rfl) rfl ?_
             intro z7 hp hm
             replace hp := pv_one hp (len_setL (len_setL (len_set' (len_set' (len_set' (len_set' HLEN.out)))) (by exact (by decide : 68 + 5 ≤ 89))) (by exact (by decide : 78 + 4 ≤ 89))) (by decide)
             have hP_z7 := hp
             have hH_z7 := hm.row hH_z6 (show H0 ≠ G by omega)
             have E_z7 : Pm G o w z7 := E_z6.trans hm
             have rH0_z7 : z7.cell? ⟨H0, 0, none⟩ = some (.pointer (some ⟨G, o, none⟩)) := (cell_of_row _ _ _ _ _ _ hH_z7).trans rfl
             have rH1_z7 : z7.cell? ⟨H0, 1, none⟩ = some (.bool rst) := (cell_of_row _ _ _ _ _ _ hH_z7).trans rfl
             clear hH_z6 hP_z6 E_z6 rH0_z6 rH1_z6
             clear hp hm)
          | ((with_reducible refine at_store 3 ?_); refine st_pv rfl rfl 3 _ _ rfl G o 86 _ hP_z7 _ #[.int .i64 2] rfl rfl rfl (by exact (by decide : 86 + 1 ≤ 89)) (by kernel_rfl) rfl ?_
             intro z8 hp hm
             replace hp := pv_one hp (len_set' (len_setL (len_setL (len_set' (len_set' (len_set' (len_set' HLEN.out)))) (by exact (by decide : 68 + 5 ≤ 89))) (by exact (by decide : 78 + 4 ≤ 89)))) (by decide)
             have hP_z8 := hp
             have hH_z8 := hm.row hH_z7 (show H0 ≠ G by omega)
             have E_z8 : Pm G o w z8 := E_z7.trans hm
             have rH0_z8 : z8.cell? ⟨H0, 0, none⟩ = some (.pointer (some ⟨G, o, none⟩)) := (cell_of_row _ _ _ _ _ _ hH_z8).trans rfl
             have rH1_z8 : z8.cell? ⟨H0, 1, none⟩ = some (.bool rst) := (cell_of_row _ _ _ _ _ _ hH_z8).trans rfl
             clear hH_z7 hP_z7 E_z7 rH0_z7 rH1_z7
             clear hp hm)
          | ((with_reducible refine at_store 4 ?_); refine st_pv rfl rfl 4 _ _ rfl G o 31 _ hP_z8 _ #[.bool true] rfl rfl rfl (by exact (by decide : 31 + 1 ≤ 89)) (by kernel_rfl) rfl ?_
             intro z9 hp hm
             replace hp := pv_one hp (len_set' (len_set' (len_setL (len_setL (len_set' (len_set' (len_set' (len_set' HLEN.out)))) (by exact (by decide : 68 + 5 ≤ 89))) (by exact (by decide : 78 + 4 ≤ 89))))) (by decide)
             have hP_z9 := hp
             have hH_z9 := hm.row hH_z8 (show H0 ≠ G by omega)
             have E_z9 : Pm G o w z9 := E_z8.trans hm
             have rH0_z9 : z9.cell? ⟨H0, 0, none⟩ = some (.pointer (some ⟨G, o, none⟩)) := (cell_of_row _ _ _ _ _ _ hH_z9).trans rfl
             have rH1_z9 : z9.cell? ⟨H0, 1, none⟩ = some (.bool rst) := (cell_of_row _ _ _ _ _ _ hH_z9).trans rfl
             clear hH_z8 hP_z8 E_z8 rH0_z8 rH1_z8
             clear hp hm)
          | ((with_reducible refine at_store 3 ?_); refine st_pv rfl rfl 3 _ _ rfl G o 18 _ hP_z9 _ #[.int .i64 2] rfl rfl rfl (by exact (by decide : 18 + 1 ≤ 89)) (by kernel_rfl) rfl ?_
             intro z10 hp hm
             replace hp := pv_one hp (len_set' (len_set' (len_set' (len_setL (len_setL (len_set' (len_set' (len_set' (len_set' HLEN.out)))) (by exact (by decide : 68 + 5 ≤ 89))) (by exact (by decide : 78 + 4 ≤ 89)))))) (by decide)
             have hP_z10 := hp
             have hH_z10 := hm.row hH_z9 (show H0 ≠ G by omega)
             have E_z10 : Pm G o w z10 := E_z9.trans hm
             have rH0_z10 : z10.cell? ⟨H0, 0, none⟩ = some (.pointer (some ⟨G, o, none⟩)) := (cell_of_row _ _ _ _ _ _ hH_z10).trans rfl
             have rH1_z10 : z10.cell? ⟨H0, 1, none⟩ = some (.bool rst) := (cell_of_row _ _ _ _ _ _ hH_z10).trans rfl
             clear hH_z9 hP_z9 E_z9 rH0_z9 rH1_z9
             clear hp hm))
        go_end0
        exact ⟨rfl, hP_z10, E_z10⟩
    · cases x47
      · refine res_pv (L1 := iupd2 false false [.int .u64 x73, .int .u32 x74, .int .u64 x75, .int .u16 x76, .int .u16 x77] [.int .i64 x82, .int .i64 x83, .int .i64 x84, .int .i64 x85] L) ?_ (by unfold iupd; rw [ne_b e86]; rfl)
        unfold iupd2
        have c3 : (x86 == 2) = false := by simpa using e86
        clear e86
        have hG := hP_w.lt
        have HLEN := Lib.hid hl
        have HL_23 := Lib.hid h23
        have HL_47 := Lib.hid h47
        have HL_68 := Lib.hid h68
        have HL_69 := Lib.hid h69
        have HL_70 := Lib.hid h70
        have HL_71 := Lib.hid h71
        have HL_72 := Lib.hid h72
        have HL_73 := Lib.hid h73
        have HL_74 := Lib.hid h74
        have HL_75 := Lib.hid h75
        have HL_76 := Lib.hid h76
        have HL_77 := Lib.hid h77
        have HL_82 := Lib.hid h82
        have HL_83 := Lib.hid h83
        have HL_84 := Lib.hid h84
        have HL_85 := Lib.hid h85
        have HL_86 := Lib.hid h86
        have HS_68 := Lib.hid (seg_of (L := L) (j := 68) (l := [.int .u64 x68, .int .u32 x69, .int .u64 x70, .int .u16 x71, .int .u16 x72]) (by rw [hl]; exact (by decide : 68 + 5 ≤ 89)) (fun i hi => by
          match i, hi with
          | 0, _ => exact HL_68.out
          | 1, _ => exact HL_69.out
          | 2, _ => exact HL_70.out
          | 3, _ => exact HL_71.out
          | 4, _ => exact HL_72.out
          | i + 5, hi => simp at hi; omega))
        have HS_73 := Lib.hid (seg_of (L := L) (j := 73) (l := [.int .u64 x73, .int .u32 x74, .int .u64 x75, .int .u16 x76, .int .u16 x77]) (by rw [hl]; exact (by decide : 73 + 5 ≤ 89)) (fun i hi => by
          match i, hi with
          | 0, _ => exact HL_73.out
          | 1, _ => exact HL_74.out
          | 2, _ => exact HL_75.out
          | 3, _ => exact HL_76.out
          | 4, _ => exact HL_77.out
          | i + 5, hi => simp at hi; omega))
        have HS_82 := Lib.hid (seg_of (L := L) (j := 82) (l := [.int .i64 x82, .int .i64 x83, .int .i64 x84, .int .i64 x85]) (by rw [hl]; exact (by decide : 82 + 4 ≤ 89)) (fun i hi => by
          match i, hi with
          | 0, _ => exact HL_82.out
          | 1, _ => exact HL_83.out
          | 2, _ => exact HL_84.out
          | 3, _ => exact HL_85.out
          | i + 4, hi => simp at hi; omega))
        clear hl h23 h47 h68 h69 h70 h71 h72 h73 h74 h75 h76 h77 h82 h83 h84 h85 h86
        go_enter Tryz.func80, Tryz.ntmps80
        go_wp2_with (first
          | fail
          | ((with_reducible refine at_box 110 ?_); refine bx_row rfl 110 _ rfl #[.pointer (some ⟨G, o, none⟩), .bool rst] rfl ?_
             intro H0 z1 hq hs hx
             have E_z1 : Pm G o w z1 := Ext.pm hx G o
             have hP_z1 : Pv z1 G o L := hP_w.ext hx
             have hH_z1 : z1.heap[H0]? = some (.cells #[.pointer (some ⟨G, o, none⟩), .bool rst] 110 (0, 0)) := hq
             have hb_H0 : w.heap.size ≤ H0 := by omega
             have hn_H0G : H0 ≠ G := by omega
             have rH0_z1 : z1.cell? ⟨H0, 0, none⟩ = some (.pointer (some ⟨G, o, none⟩)) := (cell_of_row _ _ _ _ _ _ hH_z1).trans rfl
             have rH1_z1 : z1.cell? ⟨H0, 1, none⟩ = some (.bool rst) := (cell_of_row _ _ _ _ _ _ hH_z1).trans rfl
             clear hP_w
             clear hq hs hx)
          | ((with_reducible refine at_store 4 ?_); refine st_pv rfl rfl 4 _ _ rfl G o 34 _ hP_z1 _ #[.bool false] rfl rfl rfl (by exact (by decide : 34 + 1 ≤ 89)) (by kernel_rfl) rfl ?_
             intro z2 hp hm
             replace hp := pv_one hp HLEN.out (by decide)
             have hP_z2 := hp
             have hH_z2 := hm.row hH_z1 (show H0 ≠ G by omega)
             have E_z2 : Pm G o w z2 := E_z1.trans hm
             have rH0_z2 : z2.cell? ⟨H0, 0, none⟩ = some (.pointer (some ⟨G, o, none⟩)) := (cell_of_row _ _ _ _ _ _ hH_z2).trans rfl
             have rH1_z2 : z2.cell? ⟨H0, 1, none⟩ = some (.bool rst) := (cell_of_row _ _ _ _ _ _ hH_z2).trans rfl
             clear hH_z1 hP_z1 E_z1 rH0_z1 rH1_z1
             clear hp hm)
          | ((with_reducible refine at_store 4 ?_); refine st_pv rfl rfl 4 _ _ rfl G o 33 _ hP_z2 _ #[.bool false] rfl rfl rfl (by exact (by decide : 33 + 1 ≤ 89)) (by kernel_rfl) rfl ?_
             intro z3 hp hm
             replace hp := pv_one hp (len_set' HLEN.out) (by decide)
             have hP_z3 := hp
             have hH_z3 := hm.row hH_z2 (show H0 ≠ G by omega)
             have E_z3 : Pm G o w z3 := E_z2.trans hm
             have rH0_z3 : z3.cell? ⟨H0, 0, none⟩ = some (.pointer (some ⟨G, o, none⟩)) := (cell_of_row _ _ _ _ _ _ hH_z3).trans rfl
             have rH1_z3 : z3.cell? ⟨H0, 1, none⟩ = some (.bool rst) := (cell_of_row _ _ _ _ _ _ hH_z3).trans rfl
             clear hH_z2 hP_z2 E_z2 rH0_z2 rH1_z2
             clear hp hm))
        refine beginW (S := fun W' => Ext z3 W') (S2 := fun W' => Pm G o z3 W') 29 (by kernel_rfl) ?_
        intro wd hqx
        have hq0 : Ext z3 wd := hqx
        refine tWp 0 29 ((.pointer (some ⟨G, o + 22, none⟩))) rfl rfl hq0 ?_
        simp only [ps]
        refine tWp 1 29 ((.pointer (some ⟨G, o + 22, none⟩))) rfl rfl hq0 ?_
        simp only [ps]
        refine tWp 2 29 ((.pointer (some ⟨G, o + 22, none⟩))) rfl rfl hq0 ?_
        simp only [ps]
        refine tWp 3 29 ((.pointer (some ⟨G, o + 23, none⟩))) rfl rfl hq0 ?_
        simp only [ps]
        refine tW 4 29 (_) rfl rfl (yieldsIf_cell rfl 4 _ rfl ⟨G, o + 23, none⟩ rfl (.bool true) _ (fun W' hW' => ((hP_z3.ext hW').cell (j := 23) (by decide)).trans ((get_ne (by decide)).trans ((get_ne (by decide)).trans HL_23.out))) Tryz.underlying4 rfl) hq0 ?_
        simp only [ps]
        refine tWp 5 29 ((.bool true)) rfl rfl hq0 ?_
        simp only [ps]
        refine tWp 6 29 ((.pointer (some ⟨H0, 0, none⟩))) rfl rfl hq0 ?_
        simp only [ps]
        refine tW 7 29 (_) rfl rfl (yieldsIf_cell rfl 79 _ rfl ⟨H0, 0, none⟩ rfl (.pointer (some ⟨G, o, none⟩)) _ (fun W' hW' => (cell_of_row _ _ _ _ _ _ ((hW'.block _ (heap_lt hH_z3)).trans hH_z3)).trans rfl) Tryz.underlying79 rfl) hq0 ?_
        simp only [ps]
        refine tWp 8 29 ((.pointer (some ⟨G, o, none⟩))) rfl rfl hq0 ?_
        simp only [ps]
        refine tWp 9 29 ((.pointer (some ⟨G, o + 86, none⟩))) rfl rfl hq0 ?_
        simp only [ps]
        refine tW 10 29 (_) rfl rfl (yieldsIf_cell rfl 3 _ rfl ⟨G, o + 86, none⟩ rfl (.int .i64 x86) _ (fun W' hW' => ((hP_z3.ext hW').cell (j := 86) (by decide)).trans ((get_ne (by decide)).trans ((get_ne (by decide)).trans HL_86.out))) Tryz.underlying3 rfl) hq0 ?_
        simp only [ps]
        refine tW 11 29 ((.bool false)) rfl rfl (Or.inl ⟨rfl, fun W' _ => by go_simp⟩) hq0 ?_
        simp only [ps]
        refine tWp 12 29 ((.bool false)) rfl rfl hq0 ?_
        simp only [ps]
        refine tWp 13 29 ((.bool false)) rfl rfl hq0 ?_
        simp only [ps]
        refine tW 14 29 (undef) rfl rfl (Or.inr ⟨rfl, rfl⟩) hq0 ?_
        simp only [ps]
        refine tW 15 29 (undef) rfl rfl (Or.inr ⟨rfl, rfl⟩) hq0 ?_
        simp only [ps]
        refine tW 16 29 (undef) rfl rfl (Or.inr ⟨rfl, rfl⟩) hq0 ?_
        simp only [ps]
        refine tW 17 29 (undef) rfl rfl (Or.inr ⟨rfl, rfl⟩) hq0 ?_
        simp only [ps]
        refine tW 18 29 (undef) rfl rfl (Or.inr ⟨rfl, rfl⟩) hq0 ?_
        simp only [ps]
        refine tW 19 29 (undef) rfl rfl (Or.inr ⟨rfl, rfl⟩) hq0 ?_
        simp only [ps]
        refine tW 20 29 (undef) rfl rfl (Or.inr ⟨rfl, rfl⟩) hq0 ?_
        simp only [ps]
        refine tW 21 29 (undef) rfl rfl (Or.inr ⟨rfl, rfl⟩) hq0 ?_
        simp only [ps]
        refine tW 22 29 (undef) rfl rfl (Or.inr ⟨rfl, rfl⟩) hq0 ?_
        simp only [ps]
        refine tW 23 29 (undef) rfl rfl (Or.inr ⟨rfl, rfl⟩) hq0 ?_
        simp only [ps]
        refine tW 24 29 (undef) rfl rfl (Or.inr ⟨rfl, rfl⟩) hq0 ?_
        simp only [ps]
        refine tW 25 29 (undef) rfl rfl (Or.inr ⟨rfl, rfl⟩) hq0 ?_
        simp only [ps]
        refine tWp 26 29 ((.bool false)) rfl rfl hq0 ?_
        simp only [ps]
        refine tVp 27 29 ((.pointer (some ⟨G, o + 22, none⟩))) rfl hq0 ?_
        simp only [ps]
        refine tWp 28 29 ((.pointer (some ⟨G, o + 23, none⟩))) rfl rfl hq0 ?_
        simp only [ps]
        refine runWl (z := 29) rfl rfl (by kernel_rfl) (fun K hK => ?_)
        refine wp_st_pv rfl 4 _ _ rfl G o 23 _ (hP_z3.ext hq0) _ #[.bool false] rfl rfl rfl (by exact (by decide : 23 + 1 ≤ 89)) (by kernel_rfl) rfl (fun ws29 hp29 hm29 => ?_)
        replace hp29 := pv_one hp29 (len_set' (len_set' HLEN.out)) (by decide)
        have hr29 : Pm G o z3 ws29 := (Ext.pm hq0 G o).trans hm29
        refine hK.out _ _ hr29 (fun _ => ?_)
        try simp only [ps]
        clear hK K
        refine wpAnyH_done (by kernel_rfl) ?_ _
        generalize ws29 = z4 at *
        have hP_z4 : Pv z4 G o (((L.set 34 (.bool false)).set 33 (.bool false)).set 23 (.bool false)) := hp29
        have hH_z4 : z4.heap[H0]? = some (.cells #[.pointer (some ⟨G, o, none⟩), .bool rst] 110 (0, 0)) := (hm29.row ((hq0.block _ (heap_lt hH_z3)).trans hH_z3) (show H0 ≠ G by omega))
        have E_z4 : Pm G o w z4 := (E_z3.ext hq0).trans hm29
        have rH0_z4 : z4.cell? ⟨H0, 0, none⟩ = some (.pointer (some ⟨G, o, none⟩)) := (cell_of_row _ _ _ _ _ _ hH_z4).trans rfl
        have rH1_z4 : z4.cell? ⟨H0, 1, none⟩ = some (.bool rst) := (cell_of_row _ _ _ _ _ _ hH_z4).trans rfl
        have p23_z4 : z4.cell? ⟨G, o + 23, none⟩ = some (.bool false) := (hP_z4.cell (j := 23) (by decide)).trans (get_same (len_set' (len_set' HLEN.out)) (by decide))
        have p47_z4 : z4.cell? ⟨G, o + 47, none⟩ = some (.bool false) := (hP_z4.cell (j := 47) (by decide)).trans ((get_ne (by decide)).trans ((get_ne (by decide)).trans ((get_ne (by decide)).trans HL_47.out)))
        clear hH_z3 hP_z3 E_z3 rH0_z3 rH1_z3
        clear hq0 hqx hm29 hp29 hr29
        go_wp2_with (first
          | fail
          | ((with_reducible refine at_store 4 ?_); refine st_pv rfl rfl 4 _ _ rfl G o 47 _ hP_z4 _ #[.bool false] rfl rfl rfl (by exact (by decide : 47 + 1 ≤ 89)) (by kernel_rfl) rfl ?_
             intro z5 hp hm
             replace hp := pv_one hp (len_set' (len_set' (len_set' HLEN.out))) (by decide)
             have hP_z5 := hp
             have hH_z5 := hm.row hH_z4 (show H0 ≠ G by omega)
             have E_z5 : Pm G o w z5 := E_z4.trans hm
             have rH0_z5 : z5.cell? ⟨H0, 0, none⟩ = some (.pointer (some ⟨G, o, none⟩)) := (cell_of_row _ _ _ _ _ _ hH_z5).trans rfl
             have rH1_z5 : z5.cell? ⟨H0, 1, none⟩ = some (.bool rst) := (cell_of_row _ _ _ _ _ _ hH_z5).trans rfl
             clear hH_z4 hP_z4 E_z4 rH0_z4 rH1_z4 p23_z4 p47_z4
             clear hp hm))
        refine beginW (S := fun W' => Ext z5 W') (S2 := fun W' => Pm G o z5 W') 16 (by kernel_rfl) ?_
        intro wd hqx
        have hq0 : Ext z5 wd := hqx
        refine tWp 0 16 ((.pointer (some ⟨H0, 0, none⟩))) rfl rfl hq0 ?_
        simp only [ps]
        refine tW 1 16 (_) rfl rfl (yieldsIf_cell rfl 79 _ rfl ⟨H0, 0, none⟩ rfl (.pointer (some ⟨G, o, none⟩)) _ (fun W' hW' => (cell_of_row _ _ _ _ _ _ ((hW'.block _ (heap_lt hH_z5)).trans hH_z5)).trans rfl) Tryz.underlying79 rfl) hq0 ?_
        simp only [ps]
        refine tVp 2 16 ((.pointer (some ⟨H0, 0, none⟩))) rfl hq0 ?_
        simp only [ps]
        refine tV 3 16 (_) rfl (yieldsIf_cell rfl 79 _ rfl ⟨H0, 0, none⟩ rfl (.pointer (some ⟨G, o, none⟩)) _ (fun W' hW' => (cell_of_row _ _ _ _ _ _ (Pm.row hW' hH_z5 (show H0 ≠ G by omega))).trans rfl) Tryz.underlying79 rfl) hq0 ?_
        simp only [ps]
        refine tWp 4 16 ((.pointer (some ⟨H0, 0, none⟩))) rfl rfl hq0 ?_
        simp only [ps]
        refine tW 5 16 (_) rfl rfl (yieldsIf_cell rfl 79 _ rfl ⟨H0, 0, none⟩ rfl (.pointer (some ⟨G, o, none⟩)) _ (fun W' hW' => (cell_of_row _ _ _ _ _ _ ((hW'.block _ (heap_lt hH_z5)).trans hH_z5)).trans rfl) Tryz.underlying79 rfl) hq0 ?_
        simp only [ps]
        refine tWp 6 16 ((.pointer (some ⟨G, o, none⟩))) rfl rfl hq0 ?_
        simp only [ps]
        refine tWp 7 16 ((.pointer (some ⟨G, o + 73, none⟩))) rfl rfl hq0 ?_
        simp only [ps]
        refine tW 8 16 (_) rfl rfl (yieldsIf_load_mid rfl 30 _ rfl G (o + 73) rfl ([.int .u64 x73, .int .u32 x74, .int .u64 x75, .int .u16 x76, .int .u16 x77]) _ (fun W' hW' => (hP_z5.ext hW').range (j := 73) (n := 5) ((seg_ne (by decide)).trans ((seg_ne (by decide)).trans ((seg_ne (by decide)).trans ((seg_ne (by decide)).trans HS_73.out)))) (by decide)) Tryz.underlying30 rfl (by kernel_rfl)) hq0 ?_
        simp only [ps]
        refine tVp 9 16 ((.pointer (some ⟨H0, 0, none⟩))) rfl hq0 ?_
        simp only [ps]
        refine tV 10 16 (_) rfl (yieldsIf_cell rfl 79 _ rfl ⟨H0, 0, none⟩ rfl (.pointer (some ⟨G, o, none⟩)) _ (fun W' hW' => (cell_of_row _ _ _ _ _ _ (Pm.row hW' hH_z5 (show H0 ≠ G by omega))).trans rfl) Tryz.underlying79 rfl) hq0 ?_
        simp only [ps]
        refine tVp 11 16 ((.pointer (some ⟨G, o, none⟩))) rfl hq0 ?_
        simp only [ps]
        refine tVp 12 16 ((.pointer (some ⟨G, o + 82, none⟩))) rfl hq0 ?_
        simp only [ps]
        refine tW 13 16 (_) rfl rfl (yieldsIf_load_mid rfl 24 _ rfl G (o + 82) rfl ([.int .i64 x82, .int .i64 x83, .int .i64 x84, .int .i64 x85]) _ (fun W' hW' => (hP_z5.ext hW').range (j := 82) (n := 4) ((seg_ne (by decide)).trans ((seg_ne (by decide)).trans ((seg_ne (by decide)).trans ((seg_ne (by decide)).trans HS_82.out)))) (by decide)) Tryz.underlying24 rfl (by kernel_rfl)) hq0 ?_
        simp only [ps]
        refine tVp 14 16 ((.pointer (some ⟨G, o, none⟩))) rfl hq0 ?_
        simp only [ps]
        refine tWp 15 16 ((.pointer (some ⟨G, o + 68, none⟩))) rfl rfl hq0 ?_
        simp only [ps]
        refine runWl (z := 16) rfl rfl (by kernel_rfl) (fun K hK => ?_)
        refine wp_st_pv rfl 30 _ _ rfl G o 68 _ (hP_z5.ext hq0) _ #[.int .u64 x73, .int .u32 x74, .int .u64 x75, .int .u16 x76, .int .u16 x77] rfl rfl rfl (by exact (by decide : 68 + 5 ≤ 89)) (by kernel_rfl) rfl (fun ws16 hp16 hm16 => ?_)
        have hr16 : Pm G o z5 ws16 := (Ext.pm hq0 G o).trans hm16
        refine hK.out _ _ hr16 (fun _ => ?_)
        try simp only [ps]
        clear hK K
        refine tLp 17 ((.pointer (some ⟨G, o, none⟩))) rfl hr16 ?_
        simp only [ps]
        refine tLp 18 ((.pointer (some ⟨G, o + 78, none⟩))) rfl hr16 ?_
        simp only [ps]
        refine runL (i := 19) rfl rfl (by kernel_rfl) (fun K hK => ?_)
        refine wp_st_pv rfl 24 _ _ rfl G o 78 _ hp16 _ #[.int .i64 x82, .int .i64 x83, .int .i64 x84, .int .i64 x85] rfl rfl rfl (by exact (by decide : 78 + 4 ≤ 89)) (by kernel_rfl) rfl (fun ws19 hp19 hm19 => ?_)
        have hr19 : Pm G o z5 ws19 := hr16.trans hm19
        refine hK.out _ _ hr19 (fun _ => ?_)
        try simp only [ps]
        clear hK K
        refine wpAnyH_done (by kernel_rfl) ?_ _
        generalize ws19 = z6 at *
        have hP_z6 : Pv z6 G o (setL (setL ((((L.set 34 (.bool false)).set 33 (.bool false)).set 23 (.bool false)).set 47 (.bool false)) 68 [.int .u64 x73, .int .u32 x74, .int .u64 x75, .int .u16 x76, .int .u16 x77]) 78 [.int .i64 x82, .int .i64 x83, .int .i64 x84, .int .i64 x85]) := hp19
        have hH_z6 : z6.heap[H0]? = some (.cells #[.pointer (some ⟨G, o, none⟩), .bool rst] 110 (0, 0)) := (hm19.row (hm16.row ((hq0.block _ (heap_lt hH_z5)).trans hH_z5) (show H0 ≠ G by omega)) (show H0 ≠ G by omega))
        have E_z6 : Pm G o w z6 := ((E_z5.ext hq0).trans hm16).trans hm19
        have rH0_z6 : z6.cell? ⟨H0, 0, none⟩ = some (.pointer (some ⟨G, o, none⟩)) := (cell_of_row _ _ _ _ _ _ hH_z6).trans rfl
        have rH1_z6 : z6.cell? ⟨H0, 1, none⟩ = some (.bool rst) := (cell_of_row _ _ _ _ _ _ hH_z6).trans rfl
        clear hH_z5 hP_z5 E_z5 rH0_z5 rH1_z5
        clear hq0 hqx hm16 hm19 hp16 hp19 hr16 hr19
        go_wp2_with (first
          | fail
          | ((with_reducible refine at_store 4 ?_); refine st_pv rfl rfl 4 _ _ rfl G o 50 _ hP_z6 _ #[.bool false] rfl rfl rfl (by exact (by decide : 50 + 1 ≤ 89)) (by kernel_rfl) rfl ?_
             intro z7 hp hm
             replace hp := pv_one hp (len_setL (len_setL (len_set' (len_set' (len_set' (len_set' HLEN.out)))) (by exact (by decide : 68 + 5 ≤ 89))) (by exact (by decide : 78 + 4 ≤ 89))) (by decide)
             have hP_z7 := hp
             have hH_z7 := hm.row hH_z6 (show H0 ≠ G by omega)
             have E_z7 : Pm G o w z7 := E_z6.trans hm
             have rH0_z7 : z7.cell? ⟨H0, 0, none⟩ = some (.pointer (some ⟨G, o, none⟩)) := (cell_of_row _ _ _ _ _ _ hH_z7).trans rfl
             have rH1_z7 : z7.cell? ⟨H0, 1, none⟩ = some (.bool rst) := (cell_of_row _ _ _ _ _ _ hH_z7).trans rfl
             clear hH_z6 hP_z6 E_z6 rH0_z6 rH1_z6
             clear hp hm)
          | ((with_reducible refine at_store 3 ?_); refine st_pv rfl rfl 3 _ _ rfl G o 86 _ hP_z7 _ #[.int .i64 2] rfl rfl rfl (by exact (by decide : 86 + 1 ≤ 89)) (by kernel_rfl) rfl ?_
             intro z8 hp hm
             replace hp := pv_one hp (len_set' (len_setL (len_setL (len_set' (len_set' (len_set' (len_set' HLEN.out)))) (by exact (by decide : 68 + 5 ≤ 89))) (by exact (by decide : 78 + 4 ≤ 89)))) (by decide)
             have hP_z8 := hp
             have hH_z8 := hm.row hH_z7 (show H0 ≠ G by omega)
             have E_z8 : Pm G o w z8 := E_z7.trans hm
             have rH0_z8 : z8.cell? ⟨H0, 0, none⟩ = some (.pointer (some ⟨G, o, none⟩)) := (cell_of_row _ _ _ _ _ _ hH_z8).trans rfl
             have rH1_z8 : z8.cell? ⟨H0, 1, none⟩ = some (.bool rst) := (cell_of_row _ _ _ _ _ _ hH_z8).trans rfl
             clear hH_z7 hP_z7 E_z7 rH0_z7 rH1_z7
             clear hp hm)
          | ((with_reducible refine at_store 4 ?_); refine st_pv rfl rfl 4 _ _ rfl G o 31 _ hP_z8 _ #[.bool true] rfl rfl rfl (by exact (by decide : 31 + 1 ≤ 89)) (by kernel_rfl) rfl ?_
             intro z9 hp hm
             replace hp := pv_one hp (len_set' (len_set' (len_setL (len_setL (len_set' (len_set' (len_set' (len_set' HLEN.out)))) (by exact (by decide : 68 + 5 ≤ 89))) (by exact (by decide : 78 + 4 ≤ 89))))) (by decide)
             have hP_z9 := hp
             have hH_z9 := hm.row hH_z8 (show H0 ≠ G by omega)
             have E_z9 : Pm G o w z9 := E_z8.trans hm
             have rH0_z9 : z9.cell? ⟨H0, 0, none⟩ = some (.pointer (some ⟨G, o, none⟩)) := (cell_of_row _ _ _ _ _ _ hH_z9).trans rfl
             have rH1_z9 : z9.cell? ⟨H0, 1, none⟩ = some (.bool rst) := (cell_of_row _ _ _ _ _ _ hH_z9).trans rfl
             clear hH_z8 hP_z8 E_z8 rH0_z8 rH1_z8
             clear hp hm)
          | ((with_reducible refine at_store 3 ?_); refine st_pv rfl rfl 3 _ _ rfl G o 18 _ hP_z9 _ #[.int .i64 2] rfl rfl rfl (by exact (by decide : 18 + 1 ≤ 89)) (by kernel_rfl) rfl ?_
             intro z10 hp hm
             replace hp := pv_one hp (len_set' (len_set' (len_set' (len_setL (len_setL (len_set' (len_set' (len_set' (len_set' HLEN.out)))) (by exact (by decide : 68 + 5 ≤ 89))) (by exact (by decide : 78 + 4 ≤ 89)))))) (by decide)
             have hP_z10 := hp
             have hH_z10 := hm.row hH_z9 (show H0 ≠ G by omega)
             have E_z10 : Pm G o w z10 := E_z9.trans hm
             have rH0_z10 : z10.cell? ⟨H0, 0, none⟩ = some (.pointer (some ⟨G, o, none⟩)) := (cell_of_row _ _ _ _ _ _ hH_z10).trans rfl
             have rH1_z10 : z10.cell? ⟨H0, 1, none⟩ = some (.bool rst) := (cell_of_row _ _ _ _ _ _ hH_z10).trans rfl
             clear hH_z9 hP_z9 E_z9 rH0_z9 rH1_z9
             clear hp hm))
        go_end0
        exact ⟨rfl, hP_z10, E_z10⟩
      · refine res_pv (L1 := iupd2 false false [.int .u64 x73, .int .u32 x74, .int .u64 x75, .int .u16 x76, .int .u16 x77] [.int .i64 x82, .int .i64 x83, .int .i64 x84, .int .i64 x85] L) ?_ (by unfold iupd; rw [ne_b e86]; rfl)
        unfold iupd2
        have c3 : (x86 == 2) = false := by simpa using e86
        clear e86
        have hG := hP_w.lt
        have HLEN := Lib.hid hl
        have HL_23 := Lib.hid h23
        have HL_47 := Lib.hid h47
        have HL_68 := Lib.hid h68
        have HL_69 := Lib.hid h69
        have HL_70 := Lib.hid h70
        have HL_71 := Lib.hid h71
        have HL_72 := Lib.hid h72
        have HL_73 := Lib.hid h73
        have HL_74 := Lib.hid h74
        have HL_75 := Lib.hid h75
        have HL_76 := Lib.hid h76
        have HL_77 := Lib.hid h77
        have HL_82 := Lib.hid h82
        have HL_83 := Lib.hid h83
        have HL_84 := Lib.hid h84
        have HL_85 := Lib.hid h85
        have HL_86 := Lib.hid h86
        have HS_68 := Lib.hid (seg_of (L := L) (j := 68) (l := [.int .u64 x68, .int .u32 x69, .int .u64 x70, .int .u16 x71, .int .u16 x72]) (by rw [hl]; exact (by decide : 68 + 5 ≤ 89)) (fun i hi => by
          match i, hi with
          | 0, _ => exact HL_68.out
          | 1, _ => exact HL_69.out
          | 2, _ => exact HL_70.out
          | 3, _ => exact HL_71.out
          | 4, _ => exact HL_72.out
          | i + 5, hi => simp at hi; omega))
        have HS_73 := Lib.hid (seg_of (L := L) (j := 73) (l := [.int .u64 x73, .int .u32 x74, .int .u64 x75, .int .u16 x76, .int .u16 x77]) (by rw [hl]; exact (by decide : 73 + 5 ≤ 89)) (fun i hi => by
          match i, hi with
          | 0, _ => exact HL_73.out
          | 1, _ => exact HL_74.out
          | 2, _ => exact HL_75.out
          | 3, _ => exact HL_76.out
          | 4, _ => exact HL_77.out
          | i + 5, hi => simp at hi; omega))
        have HS_82 := Lib.hid (seg_of (L := L) (j := 82) (l := [.int .i64 x82, .int .i64 x83, .int .i64 x84, .int .i64 x85]) (by rw [hl]; exact (by decide : 82 + 4 ≤ 89)) (fun i hi => by
          match i, hi with
          | 0, _ => exact HL_82.out
          | 1, _ => exact HL_83.out
          | 2, _ => exact HL_84.out
          | 3, _ => exact HL_85.out
          | i + 4, hi => simp at hi; omega))
        clear hl h23 h47 h68 h69 h70 h71 h72 h73 h74 h75 h76 h77 h82 h83 h84 h85 h86
        go_enter Tryz.func80, Tryz.ntmps80
        go_wp2_with (first
          | fail
          | ((with_reducible refine at_box 110 ?_); refine bx_row rfl 110 _ rfl #[.pointer (some ⟨G, o, none⟩), .bool rst] rfl ?_
             intro H0 z1 hq hs hx
             have E_z1 : Pm G o w z1 := Ext.pm hx G o
             have hP_z1 : Pv z1 G o L := hP_w.ext hx
             have hH_z1 : z1.heap[H0]? = some (.cells #[.pointer (some ⟨G, o, none⟩), .bool rst] 110 (0, 0)) := hq
             have hb_H0 : w.heap.size ≤ H0 := by omega
             have hn_H0G : H0 ≠ G := by omega
             have rH0_z1 : z1.cell? ⟨H0, 0, none⟩ = some (.pointer (some ⟨G, o, none⟩)) := (cell_of_row _ _ _ _ _ _ hH_z1).trans rfl
             have rH1_z1 : z1.cell? ⟨H0, 1, none⟩ = some (.bool rst) := (cell_of_row _ _ _ _ _ _ hH_z1).trans rfl
             clear hP_w
             clear hq hs hx)
          | ((with_reducible refine at_store 4 ?_); refine st_pv rfl rfl 4 _ _ rfl G o 34 _ hP_z1 _ #[.bool false] rfl rfl rfl (by exact (by decide : 34 + 1 ≤ 89)) (by kernel_rfl) rfl ?_
             intro z2 hp hm
             replace hp := pv_one hp HLEN.out (by decide)
             have hP_z2 := hp
             have hH_z2 := hm.row hH_z1 (show H0 ≠ G by omega)
             have E_z2 : Pm G o w z2 := E_z1.trans hm
             have rH0_z2 : z2.cell? ⟨H0, 0, none⟩ = some (.pointer (some ⟨G, o, none⟩)) := (cell_of_row _ _ _ _ _ _ hH_z2).trans rfl
             have rH1_z2 : z2.cell? ⟨H0, 1, none⟩ = some (.bool rst) := (cell_of_row _ _ _ _ _ _ hH_z2).trans rfl
             clear hH_z1 hP_z1 E_z1 rH0_z1 rH1_z1
             clear hp hm)
          | ((with_reducible refine at_store 4 ?_); refine st_pv rfl rfl 4 _ _ rfl G o 33 _ hP_z2 _ #[.bool false] rfl rfl rfl (by exact (by decide : 33 + 1 ≤ 89)) (by kernel_rfl) rfl ?_
             intro z3 hp hm
             replace hp := pv_one hp (len_set' HLEN.out) (by decide)
             have hP_z3 := hp
             have hH_z3 := hm.row hH_z2 (show H0 ≠ G by omega)
             have E_z3 : Pm G o w z3 := E_z2.trans hm
             have rH0_z3 : z3.cell? ⟨H0, 0, none⟩ = some (.pointer (some ⟨G, o, none⟩)) := (cell_of_row _ _ _ _ _ _ hH_z3).trans rfl
             have rH1_z3 : z3.cell? ⟨H0, 1, none⟩ = some (.bool rst) := (cell_of_row _ _ _ _ _ _ hH_z3).trans rfl
             clear hH_z2 hP_z2 E_z2 rH0_z2 rH1_z2
             clear hp hm))
        refine beginW (S := fun W' => Ext z3 W') (S2 := fun W' => Pm G o z3 W') 29 (by kernel_rfl) ?_
        intro wd hqx
        have hq0 : Ext z3 wd := hqx
        refine tWp 0 29 ((.pointer (some ⟨G, o + 22, none⟩))) rfl rfl hq0 ?_
        simp only [ps]
        refine tWp 1 29 ((.pointer (some ⟨G, o + 22, none⟩))) rfl rfl hq0 ?_
        simp only [ps]
        refine tWp 2 29 ((.pointer (some ⟨G, o + 22, none⟩))) rfl rfl hq0 ?_
        simp only [ps]
        refine tWp 3 29 ((.pointer (some ⟨G, o + 23, none⟩))) rfl rfl hq0 ?_
        simp only [ps]
        refine tW 4 29 (_) rfl rfl (yieldsIf_cell rfl 4 _ rfl ⟨G, o + 23, none⟩ rfl (.bool true) _ (fun W' hW' => ((hP_z3.ext hW').cell (j := 23) (by decide)).trans ((get_ne (by decide)).trans ((get_ne (by decide)).trans HL_23.out))) Tryz.underlying4 rfl) hq0 ?_
        simp only [ps]
        refine tWp 5 29 ((.bool true)) rfl rfl hq0 ?_
        simp only [ps]
        refine tWp 6 29 ((.pointer (some ⟨H0, 0, none⟩))) rfl rfl hq0 ?_
        simp only [ps]
        refine tW 7 29 (_) rfl rfl (yieldsIf_cell rfl 79 _ rfl ⟨H0, 0, none⟩ rfl (.pointer (some ⟨G, o, none⟩)) _ (fun W' hW' => (cell_of_row _ _ _ _ _ _ ((hW'.block _ (heap_lt hH_z3)).trans hH_z3)).trans rfl) Tryz.underlying79 rfl) hq0 ?_
        simp only [ps]
        refine tWp 8 29 ((.pointer (some ⟨G, o, none⟩))) rfl rfl hq0 ?_
        simp only [ps]
        refine tWp 9 29 ((.pointer (some ⟨G, o + 86, none⟩))) rfl rfl hq0 ?_
        simp only [ps]
        refine tW 10 29 (_) rfl rfl (yieldsIf_cell rfl 3 _ rfl ⟨G, o + 86, none⟩ rfl (.int .i64 x86) _ (fun W' hW' => ((hP_z3.ext hW').cell (j := 86) (by decide)).trans ((get_ne (by decide)).trans ((get_ne (by decide)).trans HL_86.out))) Tryz.underlying3 rfl) hq0 ?_
        simp only [ps]
        refine tW 11 29 ((.bool false)) rfl rfl (Or.inl ⟨rfl, fun W' _ => by go_simp⟩) hq0 ?_
        simp only [ps]
        refine tWp 12 29 ((.bool false)) rfl rfl hq0 ?_
        simp only [ps]
        refine tWp 13 29 ((.bool false)) rfl rfl hq0 ?_
        simp only [ps]
        refine tW 14 29 (undef) rfl rfl (Or.inr ⟨rfl, rfl⟩) hq0 ?_
        simp only [ps]
        refine tW 15 29 (undef) rfl rfl (Or.inr ⟨rfl, rfl⟩) hq0 ?_
        simp only [ps]
        refine tW 16 29 (undef) rfl rfl (Or.inr ⟨rfl, rfl⟩) hq0 ?_
        simp only [ps]
        refine tW 17 29 (undef) rfl rfl (Or.inr ⟨rfl, rfl⟩) hq0 ?_
        simp only [ps]
        refine tW 18 29 (undef) rfl rfl (Or.inr ⟨rfl, rfl⟩) hq0 ?_
        simp only [ps]
        refine tW 19 29 (undef) rfl rfl (Or.inr ⟨rfl, rfl⟩) hq0 ?_
        simp only [ps]
        refine tW 20 29 (undef) rfl rfl (Or.inr ⟨rfl, rfl⟩) hq0 ?_
        simp only [ps]
        refine tW 21 29 (undef) rfl rfl (Or.inr ⟨rfl, rfl⟩) hq0 ?_
        simp only [ps]
        refine tW 22 29 (undef) rfl rfl (Or.inr ⟨rfl, rfl⟩) hq0 ?_
        simp only [ps]
        refine tW 23 29 (undef) rfl rfl (Or.inr ⟨rfl, rfl⟩) hq0 ?_
        simp only [ps]
        refine tW 24 29 (undef) rfl rfl (Or.inr ⟨rfl, rfl⟩) hq0 ?_
        simp only [ps]
        refine tW 25 29 (undef) rfl rfl (Or.inr ⟨rfl, rfl⟩) hq0 ?_
        simp only [ps]
        refine tWp 26 29 ((.bool false)) rfl rfl hq0 ?_
        simp only [ps]
        refine tVp 27 29 ((.pointer (some ⟨G, o + 22, none⟩))) rfl hq0 ?_
        simp only [ps]
        refine tWp 28 29 ((.pointer (some ⟨G, o + 23, none⟩))) rfl rfl hq0 ?_
        simp only [ps]
        refine runWl (z := 29) rfl rfl (by kernel_rfl) (fun K hK => ?_)
        refine wp_st_pv rfl 4 _ _ rfl G o 23 _ (hP_z3.ext hq0) _ #[.bool false] rfl rfl rfl (by exact (by decide : 23 + 1 ≤ 89)) (by kernel_rfl) rfl (fun ws29 hp29 hm29 => ?_)
        replace hp29 := pv_one hp29 (len_set' (len_set' HLEN.out)) (by decide)
        have hr29 : Pm G o z3 ws29 := (Ext.pm hq0 G o).trans hm29
        refine hK.out _ _ hr29 (fun _ => ?_)
        try simp only [ps]
        clear hK K
        refine wpAnyH_done (by kernel_rfl) ?_ _
        generalize ws29 = z4 at *
        have hP_z4 : Pv z4 G o (((L.set 34 (.bool false)).set 33 (.bool false)).set 23 (.bool false)) := hp29
        have hH_z4 : z4.heap[H0]? = some (.cells #[.pointer (some ⟨G, o, none⟩), .bool rst] 110 (0, 0)) := (hm29.row ((hq0.block _ (heap_lt hH_z3)).trans hH_z3) (show H0 ≠ G by omega))
        have E_z4 : Pm G o w z4 := (E_z3.ext hq0).trans hm29
        have rH0_z4 : z4.cell? ⟨H0, 0, none⟩ = some (.pointer (some ⟨G, o, none⟩)) := (cell_of_row _ _ _ _ _ _ hH_z4).trans rfl
        have rH1_z4 : z4.cell? ⟨H0, 1, none⟩ = some (.bool rst) := (cell_of_row _ _ _ _ _ _ hH_z4).trans rfl
        have p23_z4 : z4.cell? ⟨G, o + 23, none⟩ = some (.bool false) := (hP_z4.cell (j := 23) (by decide)).trans (get_same (len_set' (len_set' HLEN.out)) (by decide))
        have p47_z4 : z4.cell? ⟨G, o + 47, none⟩ = some (.bool true) := (hP_z4.cell (j := 47) (by decide)).trans ((get_ne (by decide)).trans ((get_ne (by decide)).trans ((get_ne (by decide)).trans HL_47.out)))
        clear hH_z3 hP_z3 E_z3 rH0_z3 rH1_z3
        clear hq0 hqx hm29 hp29 hr29
        go_wp2_with (first
          | fail
          | ((with_reducible refine at_store 4 ?_); refine st_pv rfl rfl 4 _ _ rfl G o 47 _ hP_z4 _ #[.bool false] rfl rfl rfl (by exact (by decide : 47 + 1 ≤ 89)) (by kernel_rfl) rfl ?_
             intro z5 hp hm
             replace hp := pv_one hp (len_set' (len_set' (len_set' HLEN.out))) (by decide)
             have hP_z5 := hp
             have hH_z5 := hm.row hH_z4 (show H0 ≠ G by omega)
             have E_z5 : Pm G o w z5 := E_z4.trans hm
             have rH0_z5 : z5.cell? ⟨H0, 0, none⟩ = some (.pointer (some ⟨G, o, none⟩)) := (cell_of_row _ _ _ _ _ _ hH_z5).trans rfl
             have rH1_z5 : z5.cell? ⟨H0, 1, none⟩ = some (.bool rst) := (cell_of_row _ _ _ _ _ _ hH_z5).trans rfl
             clear hH_z4 hP_z4 E_z4 rH0_z4 rH1_z4 p23_z4 p47_z4
             clear hp hm))
        refine beginW (S := fun W' => Ext z5 W') (S2 := fun W' => Pm G o z5 W') 16 (by kernel_rfl) ?_
        intro wd hqx
        have hq0 : Ext z5 wd := hqx
        refine tWp 0 16 ((.pointer (some ⟨H0, 0, none⟩))) rfl rfl hq0 ?_
        simp only [ps]
        refine tW 1 16 (_) rfl rfl (yieldsIf_cell rfl 79 _ rfl ⟨H0, 0, none⟩ rfl (.pointer (some ⟨G, o, none⟩)) _ (fun W' hW' => (cell_of_row _ _ _ _ _ _ ((hW'.block _ (heap_lt hH_z5)).trans hH_z5)).trans rfl) Tryz.underlying79 rfl) hq0 ?_
        simp only [ps]
        refine tVp 2 16 ((.pointer (some ⟨H0, 0, none⟩))) rfl hq0 ?_
        simp only [ps]
        refine tV 3 16 (_) rfl (yieldsIf_cell rfl 79 _ rfl ⟨H0, 0, none⟩ rfl (.pointer (some ⟨G, o, none⟩)) _ (fun W' hW' => (cell_of_row _ _ _ _ _ _ (Pm.row hW' hH_z5 (show H0 ≠ G by omega))).trans rfl) Tryz.underlying79 rfl) hq0 ?_
        simp only [ps]
        refine tWp 4 16 ((.pointer (some ⟨H0, 0, none⟩))) rfl rfl hq0 ?_
        simp only [ps]
        refine tW 5 16 (_) rfl rfl (yieldsIf_cell rfl 79 _ rfl ⟨H0, 0, none⟩ rfl (.pointer (some ⟨G, o, none⟩)) _ (fun W' hW' => (cell_of_row _ _ _ _ _ _ ((hW'.block _ (heap_lt hH_z5)).trans hH_z5)).trans rfl) Tryz.underlying79 rfl) hq0 ?_
        simp only [ps]
        refine tWp 6 16 ((.pointer (some ⟨G, o, none⟩))) rfl rfl hq0 ?_
        simp only [ps]
        refine tWp 7 16 ((.pointer (some ⟨G, o + 73, none⟩))) rfl rfl hq0 ?_
        simp only [ps]
        refine tW 8 16 (_) rfl rfl (yieldsIf_load_mid rfl 30 _ rfl G (o + 73) rfl ([.int .u64 x73, .int .u32 x74, .int .u64 x75, .int .u16 x76, .int .u16 x77]) _ (fun W' hW' => (hP_z5.ext hW').range (j := 73) (n := 5) ((seg_ne (by decide)).trans ((seg_ne (by decide)).trans ((seg_ne (by decide)).trans ((seg_ne (by decide)).trans HS_73.out)))) (by decide)) Tryz.underlying30 rfl (by kernel_rfl)) hq0 ?_
        simp only [ps]
        refine tVp 9 16 ((.pointer (some ⟨H0, 0, none⟩))) rfl hq0 ?_
        simp only [ps]
        refine tV 10 16 (_) rfl (yieldsIf_cell rfl 79 _ rfl ⟨H0, 0, none⟩ rfl (.pointer (some ⟨G, o, none⟩)) _ (fun W' hW' => (cell_of_row _ _ _ _ _ _ (Pm.row hW' hH_z5 (show H0 ≠ G by omega))).trans rfl) Tryz.underlying79 rfl) hq0 ?_
        simp only [ps]
        refine tVp 11 16 ((.pointer (some ⟨G, o, none⟩))) rfl hq0 ?_
        simp only [ps]
        refine tVp 12 16 ((.pointer (some ⟨G, o + 82, none⟩))) rfl hq0 ?_
        simp only [ps]
        refine tW 13 16 (_) rfl rfl (yieldsIf_load_mid rfl 24 _ rfl G (o + 82) rfl ([.int .i64 x82, .int .i64 x83, .int .i64 x84, .int .i64 x85]) _ (fun W' hW' => (hP_z5.ext hW').range (j := 82) (n := 4) ((seg_ne (by decide)).trans ((seg_ne (by decide)).trans ((seg_ne (by decide)).trans ((seg_ne (by decide)).trans HS_82.out)))) (by decide)) Tryz.underlying24 rfl (by kernel_rfl)) hq0 ?_
        simp only [ps]
        refine tVp 14 16 ((.pointer (some ⟨G, o, none⟩))) rfl hq0 ?_
        simp only [ps]
        refine tWp 15 16 ((.pointer (some ⟨G, o + 68, none⟩))) rfl rfl hq0 ?_
        simp only [ps]
        refine runWl (z := 16) rfl rfl (by kernel_rfl) (fun K hK => ?_)
        refine wp_st_pv rfl 30 _ _ rfl G o 68 _ (hP_z5.ext hq0) _ #[.int .u64 x73, .int .u32 x74, .int .u64 x75, .int .u16 x76, .int .u16 x77] rfl rfl rfl (by exact (by decide : 68 + 5 ≤ 89)) (by kernel_rfl) rfl (fun ws16 hp16 hm16 => ?_)
        have hr16 : Pm G o z5 ws16 := (Ext.pm hq0 G o).trans hm16
        refine hK.out _ _ hr16 (fun _ => ?_)
        try simp only [ps]
        clear hK K
        refine tLp 17 ((.pointer (some ⟨G, o, none⟩))) rfl hr16 ?_
        simp only [ps]
        refine tLp 18 ((.pointer (some ⟨G, o + 78, none⟩))) rfl hr16 ?_
        simp only [ps]
        refine runL (i := 19) rfl rfl (by kernel_rfl) (fun K hK => ?_)
        refine wp_st_pv rfl 24 _ _ rfl G o 78 _ hp16 _ #[.int .i64 x82, .int .i64 x83, .int .i64 x84, .int .i64 x85] rfl rfl rfl (by exact (by decide : 78 + 4 ≤ 89)) (by kernel_rfl) rfl (fun ws19 hp19 hm19 => ?_)
        have hr19 : Pm G o z5 ws19 := hr16.trans hm19
        refine hK.out _ _ hr19 (fun _ => ?_)
        try simp only [ps]
        clear hK K
        refine wpAnyH_done (by kernel_rfl) ?_ _
        generalize ws19 = z6 at *
        have hP_z6 : Pv z6 G o (setL (setL ((((L.set 34 (.bool false)).set 33 (.bool false)).set 23 (.bool false)).set 47 (.bool false)) 68 [.int .u64 x73, .int .u32 x74, .int .u64 x75, .int .u16 x76, .int .u16 x77]) 78 [.int .i64 x82, .int .i64 x83, .int .i64 x84, .int .i64 x85]) := hp19
        have hH_z6 : z6.heap[H0]? = some (.cells #[.pointer (some ⟨G, o, none⟩), .bool rst] 110 (0, 0)) := (hm19.row (hm16.row ((hq0.block _ (heap_lt hH_z5)).trans hH_z5) (show H0 ≠ G by omega)) (show H0 ≠ G by omega))
        have E_z6 : Pm G o w z6 := ((E_z5.ext hq0).trans hm16).trans hm19
        have rH0_z6 : z6.cell? ⟨H0, 0, none⟩ = some (.pointer (some ⟨G, o, none⟩)) := (cell_of_row _ _ _ _ _ _ hH_z6).trans rfl
        have rH1_z6 : z6.cell? ⟨H0, 1, none⟩ = some (.bool rst) := (cell_of_row _ _ _ _ _ _ hH_z6).trans rfl
        clear hH_z5 hP_z5 E_z5 rH0_z5 rH1_z5
        clear hq0 hqx hm16 hm19 hp16 hp19 hr16 hr19
        go_wp2_with (first
          | fail
          | ((with_reducible refine at_store 4 ?_); refine st_pv rfl rfl 4 _ _ rfl G o 50 _ hP_z6 _ #[.bool false] rfl rfl rfl (by exact (by decide : 50 + 1 ≤ 89)) (by kernel_rfl) rfl ?_
             intro z7 hp hm
             replace hp := pv_one hp (len_setL (len_setL (len_set' (len_set' (len_set' (len_set' HLEN.out)))) (by exact (by decide : 68 + 5 ≤ 89))) (by exact (by decide : 78 + 4 ≤ 89))) (by decide)
             have hP_z7 := hp
             have hH_z7 := hm.row hH_z6 (show H0 ≠ G by omega)
             have E_z7 : Pm G o w z7 := E_z6.trans hm
             have rH0_z7 : z7.cell? ⟨H0, 0, none⟩ = some (.pointer (some ⟨G, o, none⟩)) := (cell_of_row _ _ _ _ _ _ hH_z7).trans rfl
             have rH1_z7 : z7.cell? ⟨H0, 1, none⟩ = some (.bool rst) := (cell_of_row _ _ _ _ _ _ hH_z7).trans rfl
             clear hH_z6 hP_z6 E_z6 rH0_z6 rH1_z6
             clear hp hm)
          | ((with_reducible refine at_store 3 ?_); refine st_pv rfl rfl 3 _ _ rfl G o 86 _ hP_z7 _ #[.int .i64 2] rfl rfl rfl (by exact (by decide : 86 + 1 ≤ 89)) (by kernel_rfl) rfl ?_
             intro z8 hp hm
             replace hp := pv_one hp (len_set' (len_setL (len_setL (len_set' (len_set' (len_set' (len_set' HLEN.out)))) (by exact (by decide : 68 + 5 ≤ 89))) (by exact (by decide : 78 + 4 ≤ 89)))) (by decide)
             have hP_z8 := hp
             have hH_z8 := hm.row hH_z7 (show H0 ≠ G by omega)
             have E_z8 : Pm G o w z8 := E_z7.trans hm
             have rH0_z8 : z8.cell? ⟨H0, 0, none⟩ = some (.pointer (some ⟨G, o, none⟩)) := (cell_of_row _ _ _ _ _ _ hH_z8).trans rfl
             have rH1_z8 : z8.cell? ⟨H0, 1, none⟩ = some (.bool rst) := (cell_of_row _ _ _ _ _ _ hH_z8).trans rfl
             clear hH_z7 hP_z7 E_z7 rH0_z7 rH1_z7
             clear hp hm)
          | ((with_reducible refine at_store 4 ?_); refine st_pv rfl rfl 4 _ _ rfl G o 31 _ hP_z8 _ #[.bool true] rfl rfl rfl (by exact (by decide : 31 + 1 ≤ 89)) (by kernel_rfl) rfl ?_
             intro z9 hp hm
             replace hp := pv_one hp (len_set' (len_set' (len_setL (len_setL (len_set' (len_set' (len_set' (len_set' HLEN.out)))) (by exact (by decide : 68 + 5 ≤ 89))) (by exact (by decide : 78 + 4 ≤ 89))))) (by decide)
             have hP_z9 := hp
             have hH_z9 := hm.row hH_z8 (show H0 ≠ G by omega)
             have E_z9 : Pm G o w z9 := E_z8.trans hm
             have rH0_z9 : z9.cell? ⟨H0, 0, none⟩ = some (.pointer (some ⟨G, o, none⟩)) := (cell_of_row _ _ _ _ _ _ hH_z9).trans rfl
             have rH1_z9 : z9.cell? ⟨H0, 1, none⟩ = some (.bool rst) := (cell_of_row _ _ _ _ _ _ hH_z9).trans rfl
             clear hH_z8 hP_z8 E_z8 rH0_z8 rH1_z8
             clear hp hm)
          | ((with_reducible refine at_store 3 ?_); refine st_pv rfl rfl 3 _ _ rfl G o 18 _ hP_z9 _ #[.int .i64 2] rfl rfl rfl (by exact (by decide : 18 + 1 ≤ 89)) (by kernel_rfl) rfl ?_
             intro z10 hp hm
             replace hp := pv_one hp (len_set' (len_set' (len_set' (len_setL (len_setL (len_set' (len_set' (len_set' (len_set' HLEN.out)))) (by exact (by decide : 68 + 5 ≤ 89))) (by exact (by decide : 78 + 4 ≤ 89)))))) (by decide)
             have hP_z10 := hp
             have hH_z10 := hm.row hH_z9 (show H0 ≠ G by omega)
             have E_z10 : Pm G o w z10 := E_z9.trans hm
             have rH0_z10 : z10.cell? ⟨H0, 0, none⟩ = some (.pointer (some ⟨G, o, none⟩)) := (cell_of_row _ _ _ _ _ _ hH_z10).trans rfl
             have rH1_z10 : z10.cell? ⟨H0, 1, none⟩ = some (.bool rst) := (cell_of_row _ _ _ _ _ _ hH_z10).trans rfl
             clear hH_z9 hP_z9 E_z9 rH0_z9 rH1_z9
             clear hp hm))
        go_end0
        exact ⟨rfl, hP_z10, E_z10⟩
end Go.Proofs.YtpanapepcbbagaaGreat
