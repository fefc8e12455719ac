/- Part 10 of what BridgeNew stands on. No statement is proved here. -/
import Derived.Maps.Own
import Derived.Maps.Views
import Derived.Deep.RegionHeld3
import Derived.Deep.QuietTactic
import Derived.Test.YtpanapepcbbagaaGreatBwi
namespace Go.Proofs.YtpanapepcbbagaaGreat
open Go.RowKit Go.BigFrame Go.WideShapes Go.ChangeShapes Go.Deep
set_option linter.unusedVariables false
set_option linter.unusedSimpArgs false
def irowB (en is0 st0 rcv st1 st2 sel upd is3 clk0 : Bool) : Nat :=
  if ((!en && !is0) || (st0 && rcv)) = true then 1 else if (st0 && en) = true then 2 else if ((st1 || st2) && sel && upd) = true then 3 else if (st2 && is3 && clk0 && !upd && !rcv) = true then 2 else if (st2 && rcv && !upd) = true then 4 else 0
def rowFun (n : Nat) (m : Value) : Value := match n with | 0 => Value.nilFunc | 1 => .func (.func 78) #[m] #[] | 2 => .func (.func 79) #[m] #[] | 3 => .func (.func 80) #[m] #[] | _ => .func (.func 81) #[m] #[]
set_option maxRecDepth 100000 in
set_option maxHeartbeats 4000000 in
theorem inf_row {w : World} (G o : Nat) (L : List Value) (hP_w : Pv w G o L) (hl : L.length = 89) (rst : Bool) (x2 : Bool) (h2 : L[2]? = some (.bool x2)) (x11 : Int) (h11 : L[11]? = some (.int .i64 x11)) (x18 : Int) (h18 : L[18]? = some (.int .i64 x18)) (x22 : Bool) (h22 : L[22]? = some (.bool x22)) (x23 : Bool) (h23 : L[23]? = some (.bool x23)) (x24 : Bool) (h24 : L[24]? = some (.bool x24)) (x25 : Bool) (h25 : L[25]? = some (.bool x25)) (x26 : Bool) (h26 : L[26]? = some (.bool x26)) (x27 : Bool) (h27 : L[27]? = some (.bool x27)) (x28 : Bool) (h28 : L[28]? = some (.bool x28)) (x29 : Bool) (h29 : L[29]? = some (.bool x29)) (x30 : Bool) (h30 : L[30]? = some (.bool x30)) (x31 : Bool) (h31 : L[31]? = some (.bool x31)) (x32 : Bool) (h32 : L[32]? = some (.bool x32)) (x33 : Bool) (h33 : L[33]? = some (.bool x33)) (x34 : Bool) (h34 : L[34]? = some (.bool x34)) (x35 : Bool) (h35 : L[35]? = some (.bool x35)) (x36 : Bool) (h36 : L[36]? = some (.bool x36)) (x37 : Bool) (h37 : L[37]? = some (.bool x37)) (x38 : Bool) (h38 : L[38]? = some (.bool x38)) (x39 : Bool) (h39 : L[39]? = some (.bool x39)) (x40 : Bool) (h40 : L[40]? = some (.bool x40)) (x41 : Bool) (h41 : L[41]? = some (.bool x41)) (x42 : Bool) (h42 : L[42]? = some (.bool x42)) (x43 : Bool) (h43 : L[43]? = some (.bool x43)) (x44 : Bool) (h44 : L[44]? = some (.bool x44)) (x45 : Bool) (h45 : L[45]? = some (.bool x45)) (x46 : Bool) (h46 : L[46]? = some (.bool x46)) (x47 : Bool) (h47 : L[47]? = some (.bool x47)) (x48 : Bool) (h48 : L[48]? = some (.bool x48)) (x49 : Bool) (h49 : L[49]? = some (.bool x49)) (x50 : Bool) (h50 : L[50]? = some (.bool x50)) (x86 : Int) (h86 : L[86]? = some (.int .i64 x86)) : Calls Tryz.prog 54 #[.agg #[.pointer (some ⟨G, o, none⟩), .bool rst]] w fun e w' => e = .returned (rowFun (irowB x2 (x86 == 0) (x18 == 0) x36 (x18 == 1) (x18 == 2) x44 x50 (x86 == 3) (x11 == 0)) (.agg #[.pointer (some ⟨G, o, none⟩), .bool rst])) ∧ Pv w' G o L ∧ Pm G o w w' := by
  have hG := hP_w.lt
  have HLEN := Lib.hid hl
  have HL_2 := Lib.hid h2
  have HL_11 := Lib.hid h11
  have HL_18 := Lib.hid h18
  have HL_22 := Lib.hid h22
  have HL_23 := Lib.hid h23
  have HL_24 := Lib.hid h24
  have HL_25 := Lib.hid h25
  have HL_26 := Lib.hid h26
  have HL_27 := Lib.hid h27
  have HL_28 := Lib.hid h28
  have HL_29 := Lib.hid h29
  have HL_30 := Lib.hid h30
  have HL_31 := Lib.hid h31
  have HL_32 := Lib.hid h32
  have HL_33 := Lib.hid h33
  have HL_34 := Lib.hid h34
  have HL_35 := Lib.hid h35
  have HL_36 := Lib.hid h36
  have HL_37 := Lib.hid h37
  have HL_38 := Lib.hid h38
  have HL_39 := Lib.hid h39
  have HL_40 := Lib.hid h40
  have HL_41 := Lib.hid h41
  have HL_42 := Lib.hid h42
  have HL_43 := Lib.hid h43
  have HL_44 := Lib.hid h44
  have HL_45 := Lib.hid h45
  have HL_46 := Lib.hid h46
  have HL_47 := Lib.hid h47
  have HL_48 := Lib.hid h48
  have HL_49 := Lib.hid h49
  have HL_50 := Lib.hid h50
  have HL_86 := Lib.hid h86
  have HS_22 := Lib.hid (seg_of (L := L) (j := 22) (l := [.bool x22, .bool x23, .bool x24, .bool x25, .bool x26, .bool x27, .bool x28, .bool x29, .bool x30, .bool x31, .bool x32, .bool x33, .bool x34, .bool x35, .bool x36, .bool x37, .bool x38, .bool x39, .bool x40, .bool x41, .bool x42, .bool x43, .bool x44, .bool x45, .bool x46, .bool x47, .bool x48, .bool x49, .bool x50]) (by rw [hl]; exact (by decide : 22 + 29 ≤ 89)) (fun i hi => by
    match i, hi with
    | 0, _ => exact HL_22.out
    | 1, _ => exact HL_23.out
    | 2, _ => exact HL_24.out
    | 3, _ => exact HL_25.out
    | 4, _ => exact HL_26.out
    | 5, _ => exact HL_27.out
    | 6, _ => exact HL_28.out
    | 7, _ => exact HL_29.out
    | 8, _ => exact HL_30.out
    | 9, _ => exact HL_31.out
    | 10, _ => exact HL_32.out
    | 11, _ => exact HL_33.out
    | 12, _ => exact HL_34.out
    | 13, _ => exact HL_35.out
    | 14, _ => exact HL_36.out
    | 15, _ => exact HL_37.out
    | 16, _ => exact HL_38.out
    | 17, _ => exact HL_39.out
    | 18, _ => exact HL_40.out
    | 19, _ => exact HL_41.out
    | 20, _ => exact HL_42.out
    | 21, _ => exact HL_43.out
    | 22, _ => exact HL_44.out
    | 23, _ => exact HL_45.out
    | 24, _ => exact HL_46.out
    | 25, _ => exact HL_47.out
    | 26, _ => exact HL_48.out
    | 27, _ => exact HL_49.out
    | 28, _ => exact HL_50.out
    | i + 29, hi => simp at hi; omega))
  clear hl h2 h11 h18 h22 h23 h24 h25 h26 h27 h28 h29 h30 h31 h32 h33 h34 h35 h36 h37 h38 h39 h40 h41 h42 h43 h44 h45 h46 h47 h48 h49 h50 h86
  obtain ⟨nn, hnn⟩ : ∃ n, (irowB x2 (x86 == 0) (x18 == 0) x36 (x18 == 1) (x18 == 2) x44 x50 (x86 == 3) (x11 == 0)) = n := ⟨_, rfl⟩
  rw [hnn]
  have HNN := Lib.hid hnn
  clear hnn
  go_enter Tryz.func54, Tryz.ntmps54
  go_wp2_with (first
    | fail
    | ((with_reducible refine at_box 110 ?_); refine bx_row rfl 110 _ rfl #[.pointer (some ⟨G, o, none⟩), .bool rst] rfl ?_
       intro H0 z1 hq hs hx
       have E_z1 : Pm G o w z1 := Ext.pm hx G o
       have hP_z1 : Pv z1 G o L := hP_w.ext hx
       have hH_z1 : z1.heap[H0]? = some (.cells #[.pointer (some ⟨G, o, none⟩), .bool rst] 110 (0, 0)) := hq
       have hb_H0 : w.heap.size ≤ H0 := by omega
       have hn_H0G : H0 ≠ G := by omega
       have rH0_z1 : z1.cell? ⟨H0, 0, none⟩ = some (.pointer (some ⟨G, o, none⟩)) := (cell_of_row _ _ _ _ _ _ hH_z1).trans rfl
       have rH1_z1 : z1.cell? ⟨H0, 1, none⟩ = some (.bool rst) := (cell_of_row _ _ _ _ _ _ hH_z1).trans rfl
       clear hP_w
       clear hq hs hx))
  refine beginL (S := fun W' => Ext z1 W') (by kernel_rfl) ?_
  intro wd hqx
  have hq0 : Ext z1 wd := hqx
  refine tLp 0 ((.pointer (some ⟨H0, 0, none⟩))) rfl hq0 ?_
  simp only [ps]
  refine tL 1 (_) rfl (yieldsIf_cell rfl 79 _ rfl ⟨H0, 0, none⟩ rfl (.pointer (some ⟨G, o, none⟩)) _ (fun W' hW' => (cell_of_row _ _ _ _ _ _ ((hW'.block _ (heap_lt hH_z1)).trans hH_z1)).trans rfl) Tryz.underlying79 rfl) hq0 ?_
  simp only [ps]
  refine tLp 2 ((.pointer (some ⟨G, o, none⟩))) rfl hq0 ?_
  simp only [ps]
  refine tLp 3 ((.pointer (some ⟨G, o + 22, none⟩))) rfl hq0 ?_
  simp only [ps]
  refine tL 4 (_) rfl (yieldsIf_load_mid rfl 58 _ rfl G (o + 22) rfl ([.bool x22, .bool x23, .bool x24, .bool x25, .bool x26, .bool x27, .bool x28, .bool x29, .bool x30, .bool x31, .bool x32, .bool x33, .bool x34, .bool x35, .bool x36, .bool x37, .bool x38, .bool x39, .bool x40, .bool x41, .bool x42, .bool x43, .bool x44, .bool x45, .bool x46, .bool x47, .bool x48, .bool x49, .bool x50]) _ (fun W' hW' => (hP_z1.ext hW').range (j := 22) (n := 29) HS_22.out (by decide)) Tryz.underlying58 rfl (by kernel_rfl)) hq0 ?_
  simp only [ps]
  refine tLp 5 ((.pointer (some ⟨H0, 0, none⟩))) rfl hq0 ?_
  simp only [ps]
  refine tL 6 (_) rfl (yieldsIf_cell rfl 79 _ rfl ⟨H0, 0, none⟩ rfl (.pointer (some ⟨G, o, none⟩)) _ (fun W' hW' => (cell_of_row _ _ _ _ _ _ ((hW'.block _ (heap_lt hH_z1)).trans hH_z1)).trans rfl) Tryz.underlying79 rfl) hq0 ?_
  simp only [ps]
  refine tLp 7 ((.pointer (some ⟨G, o, none⟩))) rfl hq0 ?_
  simp only [ps]
  refine tLp 8 ((.pointer (some ⟨G, o + 15, none⟩))) rfl hq0 ?_
  simp only [ps]
  refine tLp 9 ((.pointer (some ⟨G, o + 18, none⟩))) rfl hq0 ?_
  simp only [ps]
  refine tL 10 (_) rfl (yieldsIf_cell rfl 3 _ rfl ⟨G, o + 18, none⟩ rfl (.int .i64 x18) _ (fun W' hW' => ((hP_z1.ext hW').cell (j := 18) (by decide)).trans HL_18.out) Tryz.underlying3 rfl) hq0 ?_
  simp only [ps]
  refine runL (i := 11) rfl rfl (by kernel_rfl) (fun K hK => ?_)
  refine wp_al_zero 58 rfl FZ zero_flags (fun F0 wa11 hrow11 hsz11 hx => ?_)
  have hq1 := hq0.trans hx
  have hlo11 : z1.heap.size ≤ F0 := by have := hq0.size; omega
  clear hx
  refine hK.out _ _ hq1 (fun hHeld => ?_)
  try simp only [ps]
  clear hK K hHeld
  refine runL (i := 12) rfl rfl (by kernel_rfl) (fun K hK => ?_)
  refine wp_st_at rfl 58 _ _ rfl F0 0 _ #[.bool x22, .bool x23, .bool x24, .bool x25, .bool x26, .bool x27, .bool x28, .bool x29, .bool x30, .bool x31, .bool x32, .bool x33, .bool x34, .bool x35, .bool x36, .bool x37, .bool x38, .bool x39, .bool x40, .bool x41, .bool x42, .bool x43, .bool x44, .bool x45, .bool x46, .bool x47, .bool x48, .bool x49, .bool x50] _ #[.bool x22, .bool x23, .bool x24, .bool x25, .bool x26, .bool x27, .bool x28, .bool x29, .bool x30, .bool x31, .bool x32, .bool x33, .bool x34, .bool x35, .bool x36, .bool x37, .bool x38, .bool x39, .bool x40, .bool x41, .bool x42, .bool x43, .bool x44, .bool x45, .bool x46, .bool x47, .bool x48, .bool x49, .bool x50] _ rfl rfl rfl hrow11 (by exact (by decide : 0 + 29 ≤ 29)) (by kernel_rfl) rfl rfl (fun ws12 hrow12 hm => ?_)
  have hq2 : Ext z1 ws12 := Ext.mutE hq1 hm (fun n hn h => by have h2 : n = F0 := h; omega)
  clear hm
  refine hK.out _ _ hq2 (fun hHeld => ?_)
  try simp only [ps]
  clear hK K hHeld
  refine tLp 13 ((.int .i64 x18)) rfl hq2 ?_
  simp only [ps]
  refine wpAnyH_done (by kernel_rfl) ?_ _
  generalize ws12 = z2 at *
  have hH_z2 : z2.heap[H0]? = some (.cells #[.pointer (some ⟨G, o, none⟩), .bool rst] 110 (0, 0)) := (hq2.block _ (heap_lt hH_z1)).trans hH_z1
  have hP_z2 : Pv z2 G o L := hP_z1.ext hq2
  have E_z2 : Pm G o w z2 := E_z1.ext hq2
  have hFl_z2 : z2.heap[F0]? = some (.cells #[.bool x22, .bool x23, .bool x24, .bool x25, .bool x26, .bool x27, .bool x28, .bool x29, .bool x30, .bool x31, .bool x32, .bool x33, .bool x34, .bool x35, .bool x36, .bool x37, .bool x38, .bool x39, .bool x40, .bool x41, .bool x42, .bool x43, .bool x44, .bool x45, .bool x46, .bool x47, .bool x48, .bool x49, .bool x50] 58 (0, 0)) := hrow12
  have rH0_z2 : z2.cell? ⟨H0, 0, none⟩ = some (.pointer (some ⟨G, o, none⟩)) := (cell_of_row _ _ _ _ _ _ hH_z2).trans rfl
  have rH1_z2 : z2.cell? ⟨H0, 1, none⟩ = some (.bool rst) := (cell_of_row _ _ _ _ _ _ hH_z2).trans rfl
  have rFl14_z2 : z2.cell? ⟨F0, 14, none⟩ = some (.bool x36) := (cell_of_row _ _ _ _ _ _ hFl_z2).trans rfl
  have rFl22_z2 : z2.cell? ⟨F0, 22, none⟩ = some (.bool x44) := (cell_of_row _ _ _ _ _ _ hFl_z2).trans rfl
  have rFl28_z2 : z2.cell? ⟨F0, 28, none⟩ = some (.bool x50) := (cell_of_row _ _ _ _ _ _ hFl_z2).trans rfl
  have p2_z2 : z2.cell? ⟨G, o + 2, none⟩ = some (.bool x2) := (hP_z2.cell (j := 2) (by decide)).trans HL_2.out
  have p11_z2 : z2.cell? ⟨G, o + 11, none⟩ = some (.int .i64 x11) := (hP_z2.cell (j := 11) (by decide)).trans HL_11.out
  have p86_z2 : z2.cell? ⟨G, o + 86, none⟩ = some (.int .i64 x86) := (hP_z2.cell (j := 86) (by decide)).trans HL_86.out
  clear hH_z1 hP_z1 E_z1 rH0_z1 rH1_z1
  clear hq0 hq1 hq2 hqx hrow11 HL_2 HL_11 HL_18 HL_22 HL_23 HL_24 HL_25 HL_26 HL_27 HL_28 HL_29 HL_30 HL_31 HL_32 HL_33 HL_34 HL_35 HL_36 HL_37 HL_38 HL_39 HL_40 HL_41 HL_42 HL_43 HL_44 HL_45 HL_46 HL_47 HL_48 HL_49 HL_50 HL_86 HS_22
  cases x2
  · by_cases ex86_0 : x86 = 0
    · subst ex86_0
      by_cases ex18_0 : x18 = 0
      · subst ex18_0
        cases x36
        · go_wp2_with (first
            | fail
            | ((with_reducible refine at_load 110 ?_); refine wpList_load_row rfl 110 _ rfl H0 rfl 110 #[.pointer (some ⟨G, o, none⟩), .bool rst] (0, 0) _ hH_z2 Tryz.underlying110 rfl (by kernel_rfl) ?_))
          all_goals
            have hnn : nn = 0 := by
              rw [← HNN.out]
              simp [irowB]
            subst hnn
            go_ret
            exact ⟨rfl, hP_z2, E_z2⟩
        · go_wp2_with (first
            | fail
            | ((with_reducible refine at_load 110 ?_); refine wpList_load_row rfl 110 _ rfl H0 rfl 110 #[.pointer (some ⟨G, o, none⟩), .bool rst] (0, 0) _ hH_z2 Tryz.underlying110 rfl (by kernel_rfl) ?_))
          all_goals
            have hnn : nn = 1 := by
              rw [← HNN.out]
              simp [irowB]
            subst hnn
            go_ret
            exact ⟨rfl, hP_z2, E_z2⟩
      · by_cases ex18_1 : x18 = 1
        · subst ex18_1
          cases x44
          · go_wp2_with (first
              | fail
              | ((with_reducible refine at_load 110 ?_); refine wpList_load_row rfl 110 _ rfl H0 rfl 110 #[.pointer (some ⟨G, o, none⟩), .bool rst] (0, 0) _ hH_z2 Tryz.underlying110 rfl (by kernel_rfl) ?_))
            all_goals
              have hnn : nn = 0 := by
                rw [← HNN.out]
                simp [irowB]
              subst hnn
              go_ret
              exact ⟨rfl, hP_z2, E_z2⟩
          · cases x50
            · go_wp2_with (first
                | fail
                | ((with_reducible refine at_load 110 ?_); refine wpList_load_row rfl 110 _ rfl H0 rfl 110 #[.pointer (some ⟨G, o, none⟩), .bool rst] (0, 0) _ hH_z2 Tryz.underlying110 rfl (by kernel_rfl) ?_))
              all_goals
                have hnn : nn = 0 := by
                  rw [← HNN.out]
                  simp [irowB]
                subst hnn
                go_ret
                exact ⟨rfl, hP_z2, E_z2⟩
            · go_wp2_with (first
                | fail
                | ((with_reducible refine at_load 110 ?_); refine wpList_load_row rfl 110 _ rfl H0 rfl 110 #[.pointer (some ⟨G, o, none⟩), .bool rst] (0, 0) _ hH_z2 Tryz.underlying110 rfl (by kernel_rfl) ?_))
              all_goals
                have hnn : nn = 3 := by
                  rw [← HNN.out]
                  simp [irowB]
                subst hnn
                go_ret
                exact ⟨rfl, hP_z2, E_z2⟩
        · by_cases ex18_2 : x18 = 2
          · subst ex18_2
            cases x44
            · cases x50
              · cases x36
                · go_wp2_with (first
                    | fail
                    | ((with_reducible refine at_load 110 ?_); refine wpList_load_row rfl 110 _ rfl H0 rfl 110 #[.pointer (some ⟨G, o, none⟩), .bool rst] (0, 0) _ hH_z2 Tryz.underlying110 rfl (by kernel_rfl) ?_))
                  all_goals
                    have hnn : nn = 0 := by
                      rw [← HNN.out]
                      simp [irowB]
                    subst hnn
                    go_ret
                    exact ⟨rfl, hP_z2, E_z2⟩
                · go_wp2_with (first
                    | fail
                    | ((with_reducible refine at_load 110 ?_); refine wpList_load_row rfl 110 _ rfl H0 rfl 110 #[.pointer (some ⟨G, o, none⟩), .bool rst] (0, 0) _ hH_z2 Tryz.underlying110 rfl (by kernel_rfl) ?_))
                  all_goals
                    have hnn : nn = 4 := by
                      rw [← HNN.out]
                      simp [irowB]
                    subst hnn
                    go_ret
                    exact ⟨rfl, hP_z2, E_z2⟩
              · go_wp2_with (first
                  | fail
                  | ((with_reducible refine at_load 110 ?_); refine wpList_load_row rfl 110 _ rfl H0 rfl 110 #[.pointer (some ⟨G, o, none⟩), .bool rst] (0, 0) _ hH_z2 Tryz.underlying110 rfl (by kernel_rfl) ?_))
                all_goals
                  have hnn : nn = 0 := by
                    rw [← HNN.out]
                    simp [irowB]
                  subst hnn
                  go_ret
                  exact ⟨rfl, hP_z2, E_z2⟩
            · cases x50
              · cases x36
                · go_wp2_with (first
                    | fail
                    | ((with_reducible refine at_load 110 ?_); refine wpList_load_row rfl 110 _ rfl H0 rfl 110 #[.pointer (some ⟨G, o, none⟩), .bool rst] (0, 0) _ hH_z2 Tryz.underlying110 rfl (by kernel_rfl) ?_))
                  all_goals
                    have hnn : nn = 0 := by
                      rw [← HNN.out]
                      simp [irowB]
                    subst hnn
                    go_ret
                    exact ⟨rfl, hP_z2, E_z2⟩
                · go_wp2_with (first
                    | fail
                    | ((with_reducible refine at_load 110 ?_); refine wpList_load_row rfl 110 _ rfl H0 rfl 110 #[.pointer (some ⟨G, o, none⟩), .bool rst] (0, 0) _ hH_z2 Tryz.underlying110 rfl (by kernel_rfl) ?_))
                  all_goals
                    have hnn : nn = 4 := by
                      rw [← HNN.out]
                      simp [irowB]
                    subst hnn
                    go_ret
                    exact ⟨rfl, hP_z2, E_z2⟩
              · go_wp2_with (first
                  | fail
                  | ((with_reducible refine at_load 110 ?_); refine wpList_load_row rfl 110 _ rfl H0 rfl 110 #[.pointer (some ⟨G, o, none⟩), .bool rst] (0, 0) _ hH_z2 Tryz.underlying110 rfl (by kernel_rfl) ?_))
                all_goals
                  have hnn : nn = 3 := by
                    rw [← HNN.out]
                    simp [irowB]
                  subst hnn
                  go_ret
                  exact ⟨rfl, hP_z2, E_z2⟩
          · have bx18_0 : (x18 == 0) = false := ne_b ex18_0
            have bx18_1 : (x18 == 1) = false := ne_b ex18_1
            have bx18_2 : (x18 == 2) = false := ne_b ex18_2
            have cx18_0 : (x18 != 0) = true := by simpa using ex18_0
            have cx18_1 : (x18 != 1) = true := by simpa using ex18_1
            have cx18_2 : (x18 != 2) = true := by simpa using ex18_2
            clear ex18_0 ex18_1 ex18_2
            go_wp2_with (first
              | fail
              | ((with_reducible refine at_load 110 ?_); refine wpList_load_row rfl 110 _ rfl H0 rfl 110 #[.pointer (some ⟨G, o, none⟩), .bool rst] (0, 0) _ hH_z2 Tryz.underlying110 rfl (by kernel_rfl) ?_))
            all_goals
              have hnn : nn = 0 := by
                rw [← HNN.out]
                rw [bx18_0]; rw [bx18_1]; rw [bx18_2]; simp [irowB]
              subst hnn
              go_ret
              exact ⟨rfl, hP_z2, E_z2⟩
    · have bx86_0 : (x86 == 0) = false := ne_b ex86_0
      have cx86_0 : (x86 != 0) = true := by simpa using ex86_0
      clear ex86_0
      go_wp2_with (first
        | fail
        | ((with_reducible refine at_load 110 ?_); refine wpList_load_row rfl 110 _ rfl H0 rfl 110 #[.pointer (some ⟨G, o, none⟩), .bool rst] (0, 0) _ hH_z2 Tryz.underlying110 rfl (by kernel_rfl) ?_))
      all_goals
        have hnn : nn = 1 := by
          rw [← HNN.out]
          rw [bx86_0]; simp [irowB]
        subst hnn
        go_ret
        exact ⟨rfl, hP_z2, E_z2⟩
  · by_cases ex18_0 : x18 = 0
    · subst ex18_0
      cases x36
      · go_wp2_with (first
          | fail
          | ((with_reducible refine at_load 110 ?_); refine wpList_load_row rfl 110 _ rfl H0 rfl 110 #[.pointer (some ⟨G, o, none⟩), .bool rst] (0, 0) _ hH_z2 Tryz.underlying110 rfl (by kernel_rfl) ?_))
        all_goals
          have hnn : nn = 2 := by
            rw [← HNN.out]
            simp [irowB]
          subst hnn
          go_ret
          exact ⟨rfl, hP_z2, E_z2⟩
      · go_wp2_with (first
          | fail
          | ((with_reducible refine at_load 110 ?_); refine wpList_load_row rfl 110 _ rfl H0 rfl 110 #[.pointer (some ⟨G, o, none⟩), .bool rst] (0, 0) _ hH_z2 Tryz.underlying110 rfl (by kernel_rfl) ?_))
        all_goals
          have hnn : nn = 1 := by
            rw [← HNN.out]
            simp [irowB]
          subst hnn
          go_ret
          exact ⟨rfl, hP_z2, E_z2⟩
    · by_cases ex18_1 : x18 = 1
      · subst ex18_1
        cases x44
        · go_wp2_with (first
            | fail
            | ((with_reducible refine at_load 110 ?_); refine wpList_load_row rfl 110 _ rfl H0 rfl 110 #[.pointer (some ⟨G, o, none⟩), .bool rst] (0, 0) _ hH_z2 Tryz.underlying110 rfl (by kernel_rfl) ?_))
          all_goals
            have hnn : nn = 0 := by
              rw [← HNN.out]
              simp [irowB]
            subst hnn
            go_ret
            exact ⟨rfl, hP_z2, E_z2⟩
        · cases x50
          · go_wp2_with (first
              | fail
              | ((with_reducible refine at_load 110 ?_); refine wpList_load_row rfl 110 _ rfl H0 rfl 110 #[.pointer (some ⟨G, o, none⟩), .bool rst] (0, 0) _ hH_z2 Tryz.underlying110 rfl (by kernel_rfl) ?_))
            all_goals
              have hnn : nn = 0 := by
                rw [← HNN.out]
                simp [irowB]
              subst hnn
              go_ret
              exact ⟨rfl, hP_z2, E_z2⟩
          · go_wp2_with (first
              | fail
              | ((with_reducible refine at_load 110 ?_); refine wpList_load_row rfl 110 _ rfl H0 rfl 110 #[.pointer (some ⟨G, o, none⟩), .bool rst] (0, 0) _ hH_z2 Tryz.underlying110 rfl (by kernel_rfl) ?_))
            all_goals
              have hnn : nn = 3 := by
                rw [← HNN.out]
                simp [irowB]
              subst hnn
              go_ret
              exact ⟨rfl, hP_z2, E_z2⟩
      · by_cases ex18_2 : x18 = 2
        · subst ex18_2
          cases x44
          · cases x50
            · cases x36
              · by_cases ex86_3 : x86 = 3
                · subst ex86_3
                  by_cases ex11_0 : x11 = 0
                  · subst ex11_0
                    go_wp2_with (first
                      | fail
                      | ((with_reducible refine at_load 110 ?_); refine wpList_load_row rfl 110 _ rfl H0 rfl 110 #[.pointer (some ⟨G, o, none⟩), .bool rst] (0, 0) _ hH_z2 Tryz.underlying110 rfl (by kernel_rfl) ?_))
                    all_goals
                      have hnn : nn = 2 := by
                        rw [← HNN.out]
                        simp [irowB]
                      subst hnn
                      go_ret
                      exact ⟨rfl, hP_z2, E_z2⟩
                  · have bx11_0 : (x11 == 0) = false := ne_b ex11_0
                    have cx11_0 : (x11 != 0) = true := by simpa using ex11_0
                    clear ex11_0
                    go_wp2_with (first
                      | fail
                      | ((with_reducible refine at_load 110 ?_); refine wpList_load_row rfl 110 _ rfl H0 rfl 110 #[.pointer (some ⟨G, o, none⟩), .bool rst] (0, 0) _ hH_z2 Tryz.underlying110 rfl (by kernel_rfl) ?_))
                    all_goals
                      have hnn : nn = 0 := by
                        rw [← HNN.out]
                        rw [bx11_0]; simp [irowB]
                      subst hnn
                      go_ret
                      exact ⟨rfl, hP_z2, E_z2⟩
                · have bx86_3 : (x86 == 3) = false := ne_b ex86_3
                  have cx86_3 : (x86 != 3) = true := by simpa using ex86_3
                  clear ex86_3
                  go_wp2_with (first
                    | fail
                    | ((with_reducible refine at_load 110 ?_); refine wpList_load_row rfl 110 _ rfl H0 rfl 110 #[.pointer (some ⟨G, o, none⟩), .bool rst] (0, 0) _ hH_z2 Tryz.underlying110 rfl (by kernel_rfl) ?_))
                  all_goals
                    have hnn : nn = 0 := by
                      rw [← HNN.out]
                      rw [bx86_3]; simp [irowB]
                    subst hnn
                    go_ret
                    exact ⟨rfl, hP_z2, E_z2⟩
              · go_wp2_with (first
                  | fail
                  | ((with_reducible refine at_load 110 ?_); refine wpList_load_row rfl 110 _ rfl H0 rfl 110 #[.pointer (some ⟨G, o, none⟩), .bool rst] (0, 0) _ hH_z2 Tryz.underlying110 rfl (by kernel_rfl) ?_))
                all_goals
                  have hnn : nn = 4 := by
                    rw [← HNN.out]
                    simp [irowB]
                  subst hnn
                  go_ret
                  exact ⟨rfl, hP_z2, E_z2⟩
            · go_wp2_with (first
                | fail
                | ((with_reducible refine at_load 110 ?_); refine wpList_load_row rfl 110 _ rfl H0 rfl 110 #[.pointer (some ⟨G, o, none⟩), .bool rst] (0, 0) _ hH_z2 Tryz.underlying110 rfl (by kernel_rfl) ?_))
              all_goals
                have hnn : nn = 0 := by
                  rw [← HNN.out]
                  simp [irowB]
                subst hnn
                go_ret
                exact ⟨rfl, hP_z2, E_z2⟩
          · cases x50
            · cases x36
              · by_cases ex86_3 : x86 = 3
                · subst ex86_3
                  by_cases ex11_0 : x11 = 0
                  · subst ex11_0
                    go_wp2_with (first
                      | fail
                      | ((with_reducible refine at_load 110 ?_); refine wpList_load_row rfl 110 _ rfl H0 rfl 110 #[.pointer (some ⟨G, o, none⟩), .bool rst] (0, 0) _ hH_z2 Tryz.underlying110 rfl (by kernel_rfl) ?_))
                    all_goals
                      have hnn : nn = 2 := by
                        rw [← HNN.out]
                        simp [irowB]
                      subst hnn
                      go_ret
                      exact ⟨rfl, hP_z2, E_z2⟩
                  · have bx11_0 : (x11 == 0) = false := ne_b ex11_0
                    have cx11_0 : (x11 != 0) = true := by simpa using ex11_0
                    clear ex11_0
                    go_wp2_with (first
                      | fail
                      | ((with_reducible refine at_load 110 ?_); refine wpList_load_row rfl 110 _ rfl H0 rfl 110 #[.pointer (some ⟨G, o, none⟩), .bool rst] (0, 0) _ hH_z2 Tryz.underlying110 rfl (by kernel_rfl) ?_))
                    all_goals
                      have hnn : nn = 0 := by
                        rw [← HNN.out]
                        rw [bx11_0]; simp [irowB]
                      subst hnn
                      go_ret
                      exact ⟨rfl, hP_z2, E_z2⟩
                · have bx86_3 : (x86 == 3) = false := ne_b ex86_3
                  have cx86_3 : (x86 != 3) = true := by simpa using ex86_3
                  clear ex86_3
                  go_wp2_with (first
                    | fail
                    | ((with_reducible refine at_load 110 ?_); refine wpList_load_row rfl 110 _ rfl H0 rfl 110 #[.pointer (some ⟨G, o, none⟩), .bool rst] (0, 0) _ hH_z2 Tryz.underlying110 rfl (by kernel_rfl) ?_))
                  all_goals
                    have hnn : nn = 0 := by
                      rw [← HNN.out]
                      rw [bx86_3]; simp [irowB]
                    subst hnn
                    go_ret
                    exact ⟨rfl, hP_z2, E_z2⟩
              · go_wp2_with (first
                  | fail
                  | ((with_reducible refine at_load 110 ?_); refine wpList_load_row rfl 110 _ rfl H0 rfl 110 #[.pointer (some ⟨G, o, none⟩), .bool rst] (0, 0) _ hH_z2 Tryz.underlying110 rfl (by kernel_rfl) ?_))
                all_goals
                  have hnn : nn = 4 := by
                    rw [← HNN.out]
                    simp [irowB]
                  subst hnn
                  go_ret
                  exact ⟨rfl, hP_z2, E_z2⟩
            · go_wp2_with (first
                | fail
                | ((with_reducible refine at_load 110 ?_); refine wpList_load_row rfl 110 _ rfl H0 rfl 110 #[.pointer (some ⟨G, o, none⟩), .bool rst] (0, 0) _ hH_z2 Tryz.underlying110 rfl (by kernel_rfl) ?_))
              all_goals
                have hnn : nn = 3 := by
                  rw [← HNN.out]
                  simp [irowB]
                subst hnn
                go_ret
                exact ⟨rfl, hP_z2, E_z2⟩
        · have bx18_0 : (x18 == 0) = false := ne_b ex18_0
          have bx18_1 : (x18 == 1) = false := ne_b ex18_1
          have bx18_2 : (x18 == 2) = false := ne_b ex18_2
          have cx18_0 : (x18 != 0) = true := by simpa using ex18_0
          have cx18_1 : (x18 != 1) = true := by simpa using ex18_1
          have cx18_2 : (x18 != 2) = true := by simpa using ex18_2
          clear ex18_0 ex18_1 ex18_2
          go_wp2_with (first
            | fail
            | ((with_reducible refine at_load 110 ?_); refine wpList_load_row rfl 110 _ rfl H0 rfl 110 #[.pointer (some ⟨G, o, none⟩), .bool rst] (0, 0) _ hH_z2 Tryz.underlying110 rfl (by kernel_rfl) ?_))
          all_goals
            have hnn : nn = 0 := by
              rw [← HNN.out]
              rw [bx18_0]; rw [bx18_1]; rw [bx18_2]; simp [irowB]
            subst hnn
            go_ret
            exact ⟨rfl, hP_z2, E_z2⟩
end Go.Proofs.YtpanapepcbbagaaGreat
namespace Go.Proofs.YtpanapepcbbagaaGreat
open Go.RowKit Go.BigFrame Go.WideShapes Go.ChangeShapes Go.Deep
set_option linter.unusedVariables false
set_option linter.unusedSimpArgs false
def iupdL (L : List Value) : List Value := (iupd (pB L 23) (pB L 47) (pI L 86) (decide ((c4 (pI L 68) (pI L 69) (pI L 70) (pI L 71) (pI L 73) (pI L 74) (pI L 75) (pI L 76)) < 0)) [.int .u64 (pI L 73), .int .u32 (pI L 74), .int .u64 (pI L 75), .int .u16 (pI L 76), .int .u16 (pI L 77)] [.int .i64 (pI L 82), .int .i64 (pI L 83), .int .i64 (pI L 84), .int .i64 (pI L 85)] L)
def irowL (L : List Value) : Nat := (irowB (pB L 2) ((pI L 86) == 0) ((pI L 18) == 0) (pB L 36) ((pI L 18) == 1) ((pI L 18) == 2) (pB L 44) (pB L 50) ((pI L 86) == 3) ((pI L 11) == 0))
theorem inf_updL {w : World} (G o : Nat) (L : List Value) (hP_w : Pv w G o L) (hT : Typed PL L) (rst : Bool) : Calls Tryz.prog 80 #[.agg #[.pointer (some ⟨G, o, none⟩), .bool rst]] w fun e w' => e = .returned (.tuple #[]) ∧ Pv w' G o (iupdL L) ∧ Pm G o w w' :=
  inf_update G o L hP_w (tpL hT) rst _ (tpB hT 23 rfl) _ (tpB hT 47 rfl) _ (tpI hT 68 rfl) _ (tpI hT 69 rfl) _ (tpI hT 70 rfl) _ (tpI hT 71 rfl) _ (tpI hT 72 rfl) _ (tpI hT 73 rfl) _ (tpI hT 74 rfl) _ (tpI hT 75 rfl) _ (tpI hT 76 rfl) _ (tpI hT 77 rfl) _ (tpI hT 82 rfl) _ (tpI hT 83 rfl) _ (tpI hT 84 rfl) _ (tpI hT 85 rfl) _ (tpI hT 86 rfl)
theorem inf_rowL {w : World} (G o : Nat) (L : List Value) (hP_w : Pv w G o L) (hT : Typed PL L) (rst : Bool) : Calls Tryz.prog 54 #[.agg #[.pointer (some ⟨G, o, none⟩), .bool rst]] w fun e w' => e = .returned (rowFun (irowL L) (.agg #[.pointer (some ⟨G, o, none⟩), .bool rst])) ∧ Pv w' G o L ∧ Pm G o w w' :=
  inf_row G o L hP_w (tpL hT) rst _ (tpB hT 2 rfl) _ (tpI hT 11 rfl) _ (tpI hT 18 rfl) _ (tpB hT 22 rfl) _ (tpB hT 23 rfl) _ (tpB hT 24 rfl) _ (tpB hT 25 rfl) _ (tpB hT 26 rfl) _ (tpB hT 27 rfl) _ (tpB hT 28 rfl) _ (tpB hT 29 rfl) _ (tpB hT 30 rfl) _ (tpB hT 31 rfl) _ (tpB hT 32 rfl) _ (tpB hT 33 rfl) _ (tpB hT 34 rfl) _ (tpB hT 35 rfl) _ (tpB hT 36 rfl) _ (tpB hT 37 rfl) _ (tpB hT 38 rfl) _ (tpB hT 39 rfl) _ (tpB hT 40 rfl) _ (tpB hT 41 rfl) _ (tpB hT 42 rfl) _ (tpB hT 43 rfl) _ (tpB hT 44 rfl) _ (tpB hT 45 rfl) _ (tpB hT 46 rfl) _ (tpB hT 47 rfl) _ (tpB hT 48 rfl) _ (tpB hT 49 rfl) _ (tpB hT 50 rfl) _ (tpI hT 86 rfl)
theorem inf_rowN {w : World} (G o : Nat) (L : List Value) (hP_w : Pv w G o L) (hT : Typed PL L) (rst : Bool) (n : Nat) (hn : irowL L = n) (v : Value) (hv : rowFun n (.agg #[.pointer (some ⟨G, o, none⟩), .bool rst]) = v) : Calls Tryz.prog 54 #[.agg #[.pointer (some ⟨G, o, none⟩), .bool rst]] w fun e w' => e = .returned v ∧ Pv w' G o L ∧ Pm G o w w' := by
  have := inf_rowL G o L hP_w hT rst
  rw [hn, hv] at this
  exact this
theorem inffn_eq (f : FuncId) (cs : Array Value) (w : World) : (binOp BinOp.eql 1 (Value.func (Fn.func f) cs #[]) Value.nilFunc).run Tryz.prog w = .ok (.bool false) w := by kernel_rfl
theorem inffn_eq0 (w : World) : (binOp BinOp.eql 1 Value.nilFunc Value.nilFunc).run Tryz.prog w = .ok (.bool true) w := by kernel_rfl
set_option maxRecDepth 100000 in
set_option maxHeartbeats 1000000 in
theorem inf_step0 (w : World) (F : Nat → Prop) (X g k : Nat) (B : Br) (h : BrG w F X g B) (ho : B.ok) (hk : k < B.np) (hn : B.np < 1000) (hr : irowL (port B.ps k) = 0) : Calls Tryz.prog 40 #[.pointer (some ⟨X, 0, none⟩), .int .i64 k] w (Stepped w F X g (false, B)) := by
  obtain ⟨hX, hg, hne⟩ := h.lt
  obtain ⟨cap, c17, hc1, hc2⟩ := h.cell17 ho
  have cr0 := (h.cellX ho (i := 1) (by decide)).trans (ho.hb 1 rfl)
  obtain ⟨rs, hrs⟩ : ∃ r, B.hb 1 = r := ⟨_, rfl⟩
  have cr : w.cell? ⟨X, 1, none⟩ = some (.bool rs) := by rw [← hrs]; exact cr0
  have HRS := Lib.hid hrs
  have HPV := Lib.hid (h.pv hk)
  have HTY := Lib.hid (br_typed ho hk)
  have H := Lib.hid h
  have HR := Lib.hid hr
  have HO := Lib.hid (setPort_self (len89 ho hk))
  have hk8 : k < 1000 := by omega
  clear h ho hr hrs cr0
  go_enter Tryz.func40, Tryz.ntmps40
  go_wp2_with fail
  refine beginL (S := fun W' => Pm g (k * 89) w W') (by kernel_rfl) ?_
  intro wd hqx
  have hq0 : Pm g (k * 89) w wd := hqx.pm g (k * 89)
  have hpd : Pv wd g (k * 89) (port B.ps k) := HPV.out.ext hqx
  refine tLp 0 ((.pointer (some ⟨X, 0, none⟩))) rfl hq0 ?_
  simp only [ps]
  refine tLp 1 ((.pointer (some ⟨X, 0, none⟩))) rfl hq0 ?_
  simp only [ps]
  refine tLp 2 ((.pointer (some ⟨X, 17, none⟩))) rfl hq0 ?_
  simp only [ps]
  refine tL 3 (_) rfl (yieldsIf_cell rfl 31 _ rfl ⟨X, 17, none⟩ rfl (.slice (some ⟨g, 0, none⟩) B.np cap) _ (fun W' hW' => (hW'.1.cell (p := ⟨X, 17, none⟩) hX hne).trans c17) Tryz.underlying31 rfl) hq0 ?_
  simp only [ps]
  refine tLp 4 ((.int .i64 (k : Int))) rfl hq0 ?_
  simp only [ps]
  refine tL 5 ((.pointer (some ⟨g, k * 89, none⟩))) rfl (Or.inl ⟨rfl, fun W' _ => by go_simp⟩) hq0 ?_
  simp only [ps]
  refine tLp 6 ((.pointer (some ⟨X, 0, none⟩))) rfl hq0 ?_
  simp only [ps]
  refine tLp 7 ((.pointer (some ⟨X, 0, none⟩))) rfl hq0 ?_
  simp only [ps]
  refine tLp 8 ((.pointer (some ⟨X, 1, none⟩))) rfl hq0 ?_
  simp only [ps]
  refine tL 9 (_) rfl (yieldsIf_cell rfl 4 _ rfl ⟨X, 1, none⟩ rfl (.bool rs) _ (fun W' hW' => (hW'.1.cell (p := ⟨X, 1, none⟩) hX hne).trans cr) Tryz.underlying4 rfl) hq0 ?_
  simp only [ps]
  refine tL 10 ((.agg #[.pointer (some ⟨g, k * 89, none⟩), .bool rs])) rfl (yieldsIf_build rfl 110 _ rfl [(0, .pointer (some ⟨g, k * 89, none⟩)), (1, .bool rs)] rfl #[.pointer (some ⟨g, k * 89, none⟩), .bool rs] (by kernel_rfl)) hq0 ?_
  simp only [ps]
  refine runL (i := 11) rfl rfl (by kernel_rfl) (fun K hK => ?_)
  go_simp
  refine (inf_rowN g (k * 89) (port B.ps k) hpd HTY.out rs 0 HR.out _ rfl).mono ?_
  rintro e wc1 ⟨rfl, hpv, hx⟩
  have hq1 := hq0.trans hx
  refine hK.out _ _ hq1 (fun hHeld => ?_)
  try simp only [ps]
  clear hK K hHeld
  refine tLp 12 (Value.nilFunc) rfl hq1 ?_
  simp only [ps]
  refine wpAnyH_done (by kernel_rfl) ?_ _
  have hBr := H.out.pm hk hq1 hpv
  rw [HO.out] at hBr
  have HB := Lib.hid hBr
  have HM := Lib.hid hq1
  generalize wc1 = wy at *
  clear hqx hq0 hq1 hpd hBr c17 cr
  have q0 := inffn_eq0
  go_wp2_with fail
  go_ret
  exact ⟨rfl, HB.out, HM.out.mutF H.out.F2⟩
set_option maxRecDepth 100000 in
set_option maxHeartbeats 1000000 in
theorem inf_step2 (w : World) (F : Nat → Prop) (X g k : Nat) (B : Br) (h : BrG w F X g B) (ho : B.ok) (hk : k < B.np) (hn : B.np < 1000) (hr : irowL (port B.ps k) = 2) : Calls Tryz.prog 40 #[.pointer (some ⟨X, 0, none⟩), .int .i64 k] w (Stepped w F X g (true, B.setPort k (iage (port B.ps k)))) := by
  obtain ⟨hX, hg, hne⟩ := h.lt
  obtain ⟨cap, c17, hc1, hc2⟩ := h.cell17 ho
  have cr0 := (h.cellX ho (i := 1) (by decide)).trans (ho.hb 1 rfl)
  obtain ⟨rs, hrs⟩ : ∃ r, B.hb 1 = r := ⟨_, rfl⟩
  have cr : w.cell? ⟨X, 1, none⟩ = some (.bool rs) := by rw [← hrs]; exact cr0
  have HRS := Lib.hid hrs
  have HPV := Lib.hid (h.pv hk)
  have HTY := Lib.hid (br_typed ho hk)
  have H := Lib.hid h
  have HR := Lib.hid hr
  have HO := Lib.hid (setPort_self (len89 ho hk))
  have hk8 : k < 1000 := by omega
  clear h ho hr hrs cr0
  go_enter Tryz.func40, Tryz.ntmps40
  go_wp2_with fail
  refine beginL (S := fun W' => Pm g (k * 89) w W') (by kernel_rfl) ?_
  intro wd hqx
  have hq0 : Pm g (k * 89) w wd := hqx.pm g (k * 89)
  have hpd : Pv wd g (k * 89) (port B.ps k) := HPV.out.ext hqx
  refine tLp 0 ((.pointer (some ⟨X, 0, none⟩))) rfl hq0 ?_
  simp only [ps]
  refine tLp 1 ((.pointer (some ⟨X, 0, none⟩))) rfl hq0 ?_
  simp only [ps]
  refine tLp 2 ((.pointer (some ⟨X, 17, none⟩))) rfl hq0 ?_
  simp only [ps]
  refine tL 3 (_) rfl (yieldsIf_cell rfl 31 _ rfl ⟨X, 17, none⟩ rfl (.slice (some ⟨g, 0, none⟩) B.np cap) _ (fun W' hW' => (hW'.1.cell (p := ⟨X, 17, none⟩) hX hne).trans c17) Tryz.underlying31 rfl) hq0 ?_
  simp only [ps]
  refine tLp 4 ((.int .i64 (k : Int))) rfl hq0 ?_
  simp only [ps]
  refine tL 5 ((.pointer (some ⟨g, k * 89, none⟩))) rfl (Or.inl ⟨rfl, fun W' _ => by go_simp⟩) hq0 ?_
  simp only [ps]
  refine tLp 6 ((.pointer (some ⟨X, 0, none⟩))) rfl hq0 ?_
  simp only [ps]
  refine tLp 7 ((.pointer (some ⟨X, 0, none⟩))) rfl hq0 ?_
  simp only [ps]
  refine tLp 8 ((.pointer (some ⟨X, 1, none⟩))) rfl hq0 ?_
  simp only [ps]
  refine tL 9 (_) rfl (yieldsIf_cell rfl 4 _ rfl ⟨X, 1, none⟩ rfl (.bool rs) _ (fun W' hW' => (hW'.1.cell (p := ⟨X, 1, none⟩) hX hne).trans cr) Tryz.underlying4 rfl) hq0 ?_
  simp only [ps]
  refine tL 10 ((.agg #[.pointer (some ⟨g, k * 89, none⟩), .bool rs])) rfl (yieldsIf_build rfl 110 _ rfl [(0, .pointer (some ⟨g, k * 89, none⟩)), (1, .bool rs)] rfl #[.pointer (some ⟨g, k * 89, none⟩), .bool rs] (by kernel_rfl)) hq0 ?_
  simp only [ps]
  refine runL (i := 11) rfl rfl (by kernel_rfl) (fun K hK => ?_)
  go_simp
  refine (inf_rowN g (k * 89) (port B.ps k) hpd HTY.out rs 2 HR.out _ rfl).mono ?_
  rintro e wc1 ⟨rfl, hpv, hx⟩
  have hq1 := hq0.trans hx
  refine hK.out _ _ hq1 (fun hHeld => ?_)
  try simp only [ps]
  clear hK K hHeld
  refine tLp 12 ((.func (.func 79) #[.agg #[.pointer (some ⟨g, k * 89, none⟩), .bool rs]] #[])) rfl hq1 ?_
  simp only [ps]
  refine wpAnyH_done (by kernel_rfl) ?_ _
  have hBr := H.out.pm hk hq1 hpv
  rw [HO.out] at hBr
  have HB := Lib.hid hBr
  have HM := Lib.hid hq1
  generalize wc1 = wy at *
  clear hqx hq0 hq1 hpd hBr c17 cr
  have q0 := inffn_eq0
  have q1 := inffn_eq 79
  go_wp2_with fail
  refine (inf_age g (k * 89) (port B.ps k) hpv (tpL HTY.out) rs).mono ?_
  rintro e wz ⟨rfl, hp, hm⟩
  have hB2 := HB.out.pm hk hm hp
  have HB2 := Lib.hid hB2
  have HM2 := Lib.hid ((HM.out.trans hm).mutF H.out.F2)
  clear hB2 hm hp
  go_wp2_with fail
  go_ret
  refine ⟨rfl, ?_, HM2.out⟩
  exact HB2.out
set_option maxRecDepth 100000 in
set_option maxHeartbeats 1000000 in
theorem inf_step3 (w : World) (F : Nat → Prop) (X g k : Nat) (B : Br) (h : BrG w F X g B) (ho : B.ok) (hk : k < B.np) (hn : B.np < 1000) (hr : irowL (port B.ps k) = 3) : Calls Tryz.prog 40 #[.pointer (some ⟨X, 0, none⟩), .int .i64 k] w (Stepped w F X g (true, B.setPort k (iupdL (port B.ps k)))) := by
  obtain ⟨hX, hg, hne⟩ := h.lt
  obtain ⟨cap, c17, hc1, hc2⟩ := h.cell17 ho
  have cr0 := (h.cellX ho (i := 1) (by decide)).trans (ho.hb 1 rfl)
  obtain ⟨rs, hrs⟩ : ∃ r, B.hb 1 = r := ⟨_, rfl⟩
  have cr : w.cell? ⟨X, 1, none⟩ = some (.bool rs) := by rw [← hrs]; exact cr0
  have HRS := Lib.hid hrs
  have HPV := Lib.hid (h.pv hk)
  have HTY := Lib.hid (br_typed ho hk)
  have H := Lib.hid h
  have HR := Lib.hid hr
  have HO := Lib.hid (setPort_self (len89 ho hk))
  have hk8 : k < 1000 := by omega
  clear h ho hr hrs cr0
  go_enter Tryz.func40, Tryz.ntmps40
  go_wp2_with fail
  refine beginL (S := fun W' => Pm g (k * 89) w W') (by kernel_rfl) ?_
  intro wd hqx
  have hq0 : Pm g (k * 89) w wd := hqx.pm g (k * 89)
  have hpd : Pv wd g (k * 89) (port B.ps k) := HPV.out.ext hqx
  refine tLp 0 ((.pointer (some ⟨X, 0, none⟩))) rfl hq0 ?_
  simp only [ps]
  refine tLp 1 ((.pointer (some ⟨X, 0, none⟩))) rfl hq0 ?_
  simp only [ps]
  refine tLp 2 ((.pointer (some ⟨X, 17, none⟩))) rfl hq0 ?_
  simp only [ps]
  refine tL 3 (_) rfl (yieldsIf_cell rfl 31 _ rfl ⟨X, 17, none⟩ rfl (.slice (some ⟨g, 0, none⟩) B.np cap) _ (fun W' hW' => (hW'.1.cell (p := ⟨X, 17, none⟩) hX hne).trans c17) Tryz.underlying31 rfl) hq0 ?_
  simp only [ps]
  refine tLp 4 ((.int .i64 (k : Int))) rfl hq0 ?_
  simp only [ps]
  refine tL 5 ((.pointer (some ⟨g, k * 89, none⟩))) rfl (Or.inl ⟨rfl, fun W' _ => by go_simp⟩) hq0 ?_
  simp only [ps]
  refine tLp 6 ((.pointer (some ⟨X, 0, none⟩))) rfl hq0 ?_
  simp only [ps]
  refine tLp 7 ((.pointer (some ⟨X, 0, none⟩))) rfl hq0 ?_
  simp only [ps]
  refine tLp 8 ((.pointer (some ⟨X, 1, none⟩))) rfl hq0 ?_
  simp only [ps]
  refine tL 9 (_) rfl (yieldsIf_cell rfl 4 _ rfl ⟨X, 1, none⟩ rfl (.bool rs) _ (fun W' hW' => (hW'.1.cell (p := ⟨X, 1, none⟩) hX hne).trans cr) Tryz.underlying4 rfl) hq0 ?_
  simp only [ps]
  refine tL 10 ((.agg #[.pointer (some ⟨g, k * 89, none⟩), .bool rs])) rfl (yieldsIf_build rfl 110 _ rfl [(0, .pointer (some ⟨g, k * 89, none⟩)), (1, .bool rs)] rfl #[.pointer (some ⟨g, k * 89, none⟩), .bool rs] (by kernel_rfl)) hq0 ?_
  simp only [ps]
  refine runL (i := 11) rfl rfl (by kernel_rfl) (fun K hK => ?_)
  go_simp
  refine (inf_rowN g (k * 89) (port B.ps k) hpd HTY.out rs 3 HR.out _ rfl).mono ?_
  rintro e wc1 ⟨rfl, hpv, hx⟩
  have hq1 := hq0.trans hx
  refine hK.out _ _ hq1 (fun hHeld => ?_)
  try simp only [ps]
  clear hK K hHeld
  refine tLp 12 ((.func (.func 80) #[.agg #[.pointer (some ⟨g, k * 89, none⟩), .bool rs]] #[])) rfl hq1 ?_
  simp only [ps]
  refine wpAnyH_done (by kernel_rfl) ?_ _
  have hBr := H.out.pm hk hq1 hpv
  rw [HO.out] at hBr
  have HB := Lib.hid hBr
  have HM := Lib.hid hq1
  generalize wc1 = wy at *
  clear hqx hq0 hq1 hpd hBr c17 cr
  have q0 := inffn_eq0
  have q1 := inffn_eq 80
  go_wp2_with fail
  refine (inf_updL g (k * 89) (port B.ps k) hpv HTY.out rs).mono ?_
  rintro e wz ⟨rfl, hp, hm⟩
  have hB2 := HB.out.pm hk hm hp
  have HB2 := Lib.hid hB2
  have HM2 := Lib.hid ((HM.out.trans hm).mutF H.out.F2)
  clear hB2 hm hp
  go_wp2_with fail
  go_ret
  refine ⟨rfl, ?_, HM2.out⟩
  exact HB2.out
end Go.Proofs.YtpanapepcbbagaaGreat
namespace Go.Proofs.YtpanapepcbbagaaGreat
open Go.RowKit Go.BigFrame Go.WideShapes Go.ChangeShapes Go.Deep
set_option linter.unusedVariables false
set_option linter.unusedSimpArgs false
set_option maxRecDepth 100000
theorem twithin_any (n l m : Int) (w : World) :
    Calls Tryz.prog 46 #[.int .i64 n, .int .i64 l, .int .i64 m] w fun e w' => e = .returned (.bool (decide (l ≤ n) && decide (n ≤ m))) ∧ w = w' := by
  by_cases h1 : l ≤ n
  · have e1 : decide (l ≤ n) = true := by simpa using h1
    go_enter Tryz.func46, Tryz.ntmps46
    go_wp2
    go_ret
    exact ⟨retB (by rw [e1]; rfl), rfl⟩
  · have e1 : decide (l ≤ n) = false := by simpa using h1
    go_enter Tryz.func46, Tryz.ntmps46
    go_wp2
    go_ret
    exact ⟨rfl, rfl⟩
theorem eq_checks (w : World) (b0 b1 b2 b3 b4 b5 : Bool) : (binOp .eql 91 (.agg #[.bool b0, .bool b1, .bool b2, .bool b3, .bool b4, .bool b5]) (.agg #[.bool true, .bool true, .bool true, .bool true, .bool true, .bool true])).run Tryz.prog w =
    .ok (.bool (b0 && b1 && b2 && b3 && b4 && b5)) w := by
  have k1 : Tryz.prog.stoodInHeld 91 = false := by kernel_rfl
  simp [go_sem, k1, Tryz.underlying91]
  cases b0 <;> simp <;> cases b1 <;> simp <;> cases b2 <;> simp <;> cases b3 <;> simp <;> cases b4 <;> simp <;> cases b5 <;> simp
theorem guard_checks : Tryz.prog.eqGuardType Tryz.prog.depth 91 = false := by kernel_rfl
/-- Whether times may be. -/
def rightB (a m h d : Int) : Bool := decide (0 ≤ a ∧ a ≤ 255 ∧ 6 ≤ m ∧ m ≤ 40 ∧ 1 ≤ h ∧ h ≤ 10 ∧ 4 ≤ d ∧ d ≤ 30 ∧ m ≤ 2 * (d - 1) ∧ 2 * (h + 1) ≤ m)
theorem tmright_any (a m h d : Int) (w : World) :
    Calls Tryz.prog 32 #[.agg #[.int .i64 a, .int .i64 m, .int .i64 h, .int .i64 d]] w fun e w' => e = .returned (.bool (rightB a m h d)) ∧ Ext w w' := by
  have he := eq_checks
  have hg := guard_checks
  go_enter Tryz.func32, Tryz.ntmps32
  go_wp2
  go_quiet ((first
    | (go_at_call 46; exact quietL (twithin_any _ _ _ _))
    | (go_at_call 46; exact quietA (twithin_any _ _ _ _))))
  go_wp2
  go_ret
  refine ⟨retB ?_, ((Ext.refl w).alloc _).drewN _⟩
  unfold rightB
  rw [Bool.eq_iff_iff]
  simp only [Bool.and_eq_true, decide_eq_true_eq]
  by_cases hr : (1 ≤ h ∧ h ≤ 10) ∧ (4 ≤ d ∧ d ≤ 30)
  · rw [w64 (d - 1) (by omega) (by omega), w64 (2 * (d - 1)) (by omega) (by omega), w64 (h + 1) (by omega) (by omega), w64 (2 * (h + 1)) (by omega) (by omega)]
    omega
  · omega
theorem rightB_iff (a m h d : Int) : rightB a m h d = true ↔ TR a m h d := by unfold rightB TR; simp
theorem cwithin_any (n l m : Int) (w : World) :
    Calls Tryz.prog 33 #[.int .i64 n, .int .i64 l, .int .i64 m] w fun e w' => e = .returned (.bool (decide (l ≤ n) && decide (n ≤ m))) ∧ w = w' := by
  by_cases h1 : l ≤ n
  · have e1 : decide (l ≤ n) = true := by simpa using h1
    go_enter Tryz.func33, Tryz.ntmps33
    go_wp2
    go_ret
    exact ⟨retB (by rw [e1]; rfl), rfl⟩
  · have e1 : decide (l ≤ n) = false := by simpa using h1
    go_enter Tryz.func33, Tryz.ntmps33
    go_wp2
    go_ret
    exact ⟨rfl, rfl⟩
def pick4 (a m h d : Int) : Nat → Int
  | 0 => a | 1 => m | 2 => h | _ => d
theorem told_ix (a m h d : Int) (k : Nat) (hk : k < 4) (w : World) : (Instr.index 92 (.agg #[.int .i64 a, .int .i64 m, .int .i64 h, .int .i64 d]) (.int .i64 (k : Int))).run Tryz.prog w = .ok (.int .i64 (pick4 a m h d k)) w := by
  rcases (by omega : k = 0 ∨ k = 1 ∨ k = 2 ∨ k = 3) with rfl | rfl | rfl | rfl
  all_goals kernel_rfl
theorem told_any (a m h d : Int) (w : World) : Calls Tryz.prog 34 #[.agg #[.int .i64 a, .int .i64 m, .int .i64 h, .int .i64 d]] w (Tells w (TF a m h d)) := by
  go_enter Tryz.func34, Tryz.ntmps34
  go_wp2_with fail
  go_loop [14] (fun i => ∃ k : Nat, k ≤ 4 ∧ i = .int .i64 k ∧ Hid (∀ n, n < k → 0 ≤ pick4 a m h d n ∧ pick4 a m h d n ≤ 65535)) (fun i => 4 - (intOf i).toNat)
  case atStart => exact ⟨0, by omega, rfl, Lib.hid (fun n hn => by omega)⟩
  case round =>
    obtain ⟨k, hk, rfl, hn⟩ := hrel
    by_cases hlt : k < 4
    · have hix := told_ix a m h d k hlt
      obtain ⟨z, hz⟩ : ∃ z, pick4 a m h d k = z := ⟨_, rfl⟩
      rw [hz] at hix
      have HZ := Lib.hid hz
      clear hz
      by_cases hb : 0 ≤ z ∧ z ≤ 65535
      · go_wp2_with (go_at_call 33; refine (asb (cwithin_any _ _ _ _) (y := true) (by simp; omega)).mono ?_; rintro e w' ⟨rfl, rfl⟩)
        go_round
        case rel =>
          refine ⟨k + 1, by omega, by go_num, Lib.hid (fun n hn' => ?_)⟩
          by_cases e : n = k
          · subst e; rw [HZ.out]; exact hb
          · exact hn.out n (by omega)
        case measure => simp [intOf]; omega
      · go_wp2_with (go_at_call 33; refine (asb (cwithin_any _ _ _ _) (y := false) (by simp; omega)).mono ?_; rintro e w' ⟨rfl, rfl⟩)
        go_ret
        refine ⟨false, rfl, (Ext.refl w).alloc _, ⟨(fun h => by cases h), (fun h => ?_)⟩⟩
        exfalso
        apply hb
        rw [← HZ.out]
        unfold TF at h
        match k, hlt with
        | 0, _ => exact ⟨h.1, h.2.1⟩
        | 1, _ => exact ⟨h.2.2.1, h.2.2.2.1⟩
        | 2, _ => exact ⟨h.2.2.2.2.1, h.2.2.2.2.2.1⟩
        | 3, _ => exact ⟨h.2.2.2.2.2.2.1, h.2.2.2.2.2.2.2⟩
    · obtain rfl : k = 4 := by omega
      go_wp2_with fail
      go_ret
      have h0 := hn.out 0 (by omega)
      have h1 := hn.out 1 (by omega)
      have h2 := hn.out 2 (by omega)
      have h3 := hn.out 3 (by omega)
      exact ⟨true, rfl, (Ext.refl w).alloc _, ⟨fun _ => ⟨h0.1, h0.2, h1.1, h1.2, h2.1, h2.2, h3.1, h3.2⟩, fun _ => rfl⟩⟩
/-- The places of a port's clocks. -/
def ptrs9 (g o : Nat) : Array Value := #[.pointer (some ⟨g, o, none⟩), .pointer (some ⟨g, o + 1, none⟩), .pointer (some ⟨g, o + 2, none⟩), .pointer (some ⟨g, o + 3, none⟩), .pointer (some ⟨g, o + 4, none⟩), .pointer (some ⟨g, o + 5, none⟩), .pointer (some ⟨g, o + 6, none⟩), .pointer (some ⟨g, o + 7, none⟩), .pointer (some ⟨g, o + 8, none⟩)]
theorem size_ptrs : (Tryz.prog.info? 87).map (·.size) = some 9 := by kernel_rfl
theorem ptrs_ix (g o k : Nat) (hk : k < 9) (w : World) : (Instr.index 87 (.agg (ptrs9 g o)) (.int .i64 (k : Int))).run Tryz.prog w = .ok (.pointer (some ⟨g, o + k, none⟩)) w := by
  rcases (by omega : k = 0 ∨ k = 1 ∨ k = 2 ∨ k = 3 ∨ k = 4 ∨ k = 5 ∨ k = 6 ∨ k = 7 ∨ k = 8) with rfl | rfl | rfl | rfl | rfl | rfl | rfl | rfl | rfl
  all_goals kernel_rfl
set_option maxRecDepth 100000 in
set_option maxHeartbeats 1000000 in
theorem all_any (g o : Nat) (w : World) : Calls Tryz.prog 45 #[.pointer (some ⟨g, o, none⟩)] w fun e w' => e = .returned (.agg (ptrs9 g o)) ∧ Ext w w' := by
  have hi := Lib.hid (show (Tryz.prog.info? 87).map (·.size) = some (ptrs9 g o).size from size_ptrs)
  go_enter Tryz.func45, Tryz.ntmps45
  go_wp2_with fail
  refine wp_region_tail 28 (by kernel_rfl) (by kernel_rfl) ?_
  intro u hu
  have hx : Ext w u := by
    rw [hu]
    exact ((Ext.refl w).alloc _).drew
  obtain ⟨old, hb2, hsz⟩ : ∃ old : Array Value, u.heap[w.heap.size]? = some (.cells old 87 (0, 0)) ∧ old.size = 9 := by
    rw [hu]
    exact ⟨_, heap_alloc_new _ _, rfl⟩
  clear hu
  simp only [List.take_succ_cons, List.take_zero, List.drop_succ_cons, List.drop_zero]
  iterate 28 still_step
  refine wpStill_nil ?_
  have hgoal : ∀ u' : World, u'.heap[w.heap.size]? = some (.cells (ptrs9 g o) 87 (0, 0)) → Ext w u' → True := fun _ _ _ => trivial
  refine wpList_store_row rfl 87 _ _ rfl w.heap.size (ptrs9 g o) rfl rfl 87 old hb2 hi.out hsz (by rw [← Array.all_toList]; rfl) ?_
  have hy := setRow_heap _ _ _ (ptrs9 g o) _ _ hb2
  have hx2 := ext_setRow hx (Nat.le_refl _) (ptrs9 g o)
  clear hb2 hx hgoal
  go_wp2_with fail
  exact bodyPost_ret (results_cell_row rfl _ _ _ _ (ptrs9 g o) (0, 0) _ rfl hy Tryz.underlying87 rfl hi.out) rfl ⟨rfl, hx2⟩
end Go.Proofs.YtpanapepcbbagaaGreat
namespace Go.Proofs.YtpanapepcbbagaaGreat
open Go.RowKit Go.BigFrame Go.WideShapes Go.ChangeShapes Go.Deep
set_option linter.unusedVariables false
set_option linter.unusedSimpArgs false
theorem list4 {l : List Value} {n : Nat} {a b c d : Value} (h0 : l[n]? = some a) (h1 : l[n + 1]? = some b) (h2 : l[n + 2]? = some c) (h3 : l[n + 3]? = some d) : (l.drop n).take 4 = [a, b, c, d] := by
  apply List.ext_getElem?
  intro j
  rw [List.getElem?_take]
  by_cases hj : j < 4
  · rw [if_pos hj, List.getElem?_drop]
    rcases (by omega : j = 0 ∨ j = 1 ∨ j = 2 ∨ j = 3) with rfl | rfl | rfl | rfl
    · simpa using h0
    · simpa using h1
    · simpa using h2
    · simpa using h3
  · rw [if_neg hj, List.getElem?_eq_none (by simp; omega)]
theorem rangeAt_sub {w : World} {b o : Nat} {xs : List Value} (h : w.rangeAt b o xs) (n m : Nat) : w.rangeAt b (o + n) ((xs.drop n).take m) := fun j v hv => by
  rw [List.getElem?_take] at hv
  split at hv
  · rw [List.getElem?_drop] at hv
    have := h _ _ hv
    rwa [← Nat.add_assoc] at this
  · cases hv
theorem size_times : (Tryz.prog.info? 24).map (·.size) = some 4 := by kernel_rfl
set_option maxRecDepth 100000 in
set_option maxHeartbeats 1000000 in
theorem rport_any (g o : Nat) (cl : Nat → Int) (t0 t1 t2 t3 d0 d1 d2 d3 m0 m1 m2 m3 : Int) (w : World) (hg : g < w.heap.size) (hc : ∀ n, n < 9 → w.cell? ⟨g, o + 6 + n, none⟩ = some (.int .i64 (cl n)))
    (r78 : w.rangeAt g (o + 78) [.int .i64 t0, .int .i64 t1, .int .i64 t2, .int .i64 t3]) (r82 : w.rangeAt g (o + 82) [.int .i64 d0, .int .i64 d1, .int .i64 d2, .int .i64 d3]) (r64 : w.rangeAt g (o + 64) [.int .i64 m0, .int .i64 m1, .int .i64 m2, .int .i64 m3]) :
    Calls Tryz.prog 35 #[.pointer (some ⟨g, o, none⟩)] w (Tells w ((∀ n, n < 9 → 0 ≤ cl n ∧ cl n ≤ 1000) ∧ TF t0 t1 t2 t3 ∧ TF d0 d1 d2 d3 ∧ TF m0 m1 m2 m3)) := by
  have HC := Lib.hid hc
  have R78 := Lib.hid r78
  have R82 := Lib.hid r82
  have R64 := Lib.hid r64
  clear hc r78 r82 r64
  go_enter Tryz.func35, Tryz.ntmps35
  go_wp2_with fail
  refine (all_any g (o + 6) w).mono ?_
  rintro e w1 ⟨rfl, hx1⟩
  have HX1 := Lib.hid hx1
  clear hx1
  go_wp2_with fail
  go_loop [9] (fun i => ∃ k : Nat, k ≤ 9 ∧ i = .int .i64 k ∧ Hid (∀ n, n < k → 0 ≤ cl n ∧ cl n ≤ 1000)) (fun i => 9 - (intOf i).toNat)
  case atStart => exact ⟨0, by omega, rfl, Lib.hid (fun n hn => by omega)⟩
  case round =>
    obtain ⟨k, hk, rfl, hn⟩ := hrel
    by_cases hlt : k < 9
    · have hix := ptrs_ix g (o + 6) k hlt
      have hcell := (HX1.out.cell (p := ⟨g, o + 6 + k, none⟩) hg).trans (HC.out k hlt)
      obtain ⟨z, hz⟩ : ∃ z, cl k = z := ⟨_, rfl⟩
      rw [hz] at hcell
      have HZ := Lib.hid hz
      clear hz
      by_cases hb : 0 ≤ z ∧ z ≤ 1000
      · go_wp2_with (go_at_call 33; refine (asb (cwithin_any _ _ _ _) (y := true) (by simp; omega)).mono ?_; rintro e w' ⟨rfl, rfl⟩)
        go_round
        case rel =>
          refine ⟨k + 1, by omega, by go_num, Lib.hid (fun n hn' => ?_)⟩
          by_cases e : n = k
          · subst e; rw [HZ.out]; exact hb
          · exact hn.out n (by omega)
        case measure => simp [intOf]; omega
      · go_wp2_with (go_at_call 33; refine (asb (cwithin_any _ _ _ _) (y := false) (by simp; omega)).mono ?_; rintro e w' ⟨rfl, rfl⟩)
        go_ret
        refine ⟨false, rfl, HX1.out, ⟨(fun h => by cases h), (fun h => ?_)⟩⟩
        exfalso
        apply hb
        rw [← HZ.out]
        exact h.1 k hlt
    · have hall := Lib.hid (show ∀ n, n < 9 → 0 ≤ cl n ∧ cl n ≤ 1000 from fun n hn' => hn.out n (by omega))
      clear hn
      go_wp2_with (first | fail | ((with_reducible refine at_load 24 ?_); refine wpList_load_mid rfl 24 _ rfl g (o + 78) rfl [.int .i64 t0, .int .i64 t1, .int .i64 t2, .int .i64 t3] _ (rangeAt_ext R78.out HX1.out hg) Tryz.underlying24 rfl size_times ?_))
      refine (told_any t0 t1 t2 t3 w1).mono ?_
      rintro e w2 ⟨f2, rfl, hx2, hf2⟩
      have HX2 := Lib.hid (HX1.out.trans hx2)
      have HF2 := Lib.hid hf2
      clear hx2 hf2 HX1
      cases f2
      · go_wp2_with fail
        go_ret
        exact ⟨false, rfl, HX2.out, ⟨(fun h => by cases h), (fun h => absurd (HF2.out.2 h.2.1) (by simp))⟩⟩
      go_wp2_with (first | fail | ((with_reducible refine at_loadG 24 ?_); refine wpList_load_midG rfl 24 _ rfl g (o + 82) rfl [.int .i64 d0, .int .i64 d1, .int .i64 d2, .int .i64 d3] _ (rangeAt_ext R82.out HX2.out hg) Tryz.underlying24 rfl size_times ?_))
      refine (told_any d0 d1 d2 d3 w2).mono ?_
      rintro e w3 ⟨f3, rfl, hx3, hf3⟩
      have HX3 := Lib.hid (HX2.out.trans hx3)
      have HF3 := Lib.hid hf3
      clear hx3 hf3 HX2
      cases f3
      · go_wp2_with fail
        go_ret
        exact ⟨false, rfl, HX3.out, ⟨(fun h => by cases h), (fun h => absurd (HF3.out.2 h.2.2.1) (by simp))⟩⟩
      go_wp2_with (first | fail | ((with_reducible refine at_loadG 24 ?_); refine wpList_load_midG rfl 24 _ rfl g (o + 64) rfl [.int .i64 m0, .int .i64 m1, .int .i64 m2, .int .i64 m3] _ (rangeAt_ext R64.out HX3.out hg) Tryz.underlying24 rfl size_times ?_))
      refine (told_any m0 m1 m2 m3 w3).mono ?_
      rintro e w4 ⟨f4, rfl, hx4, hf4⟩
      have HX4 := Lib.hid (HX3.out.trans hx4)
      have HF4 := Lib.hid hf4
      clear hx4 hf4 HX3
      go_wp2_with fail
      go_ret
      exact ⟨f4, rfl, HX4.out, ⟨fun h => ⟨hall.out, HF2.out.1 trivial, HF3.out.1 trivial, HF4.out.1 h⟩, fun h => HF4.out.2 h.2.2.2⟩⟩
end Go.Proofs.YtpanapepcbbagaaGreat
namespace Go.Proofs.YtpanapepcbbagaaGreat
open Go.RowKit Go.BigFrame Go.WideShapes Go.ChangeShapes Go.Deep
set_option linter.unusedVariables false
set_option linter.unusedSimpArgs false
theorem four_range {w : World} {b o : Nat} {p : List Value} (h : w.rangeAt b o p) (n : Nat) {x0 x1 x2 x3 : Value} (he : (p.drop n).take 4 = [x0, x1, x2, x3]) : w.rangeAt b (o + n) [x0, x1, x2, x3] := he ▸ rangeAt_sub h n 4
set_option maxRecDepth 100000 in
set_option maxHeartbeats 2000000 in
theorem cright_any (c : Array Value) (B : Br) (w : World) (hb : BrC w c B) (ho : B.ok) : Calls Tryz.prog 24 #[.agg c] w (Tells w (RightP B)) := by
  obtain ⟨s1, s2, s3, hz, hhd, c17, c18, c19, r1, -, -⟩ := hb.facts ho.hd.1
  obtain ⟨a1, k1, rfl, m1, hrow⟩ := r1.form
  have HR := Lib.hid hrow
  have h2 := (hhd 2 (by decide)).trans (ho.hi 2 rfl)
  have h3 := (hhd 3 (by decide)).trans (ho.hi 3 rfl)
  have h4 := (hhd 4 (by decide)).trans (ho.hi 4 rfl)
  have h5 := (hhd 5 (by decide)).trans (ho.hi 5 rfl)
  have h6 := (hhd 6 (by decide)).trans (ho.hi 6 rfl)
  have h12 := (hhd 12 (by decide)).trans (ho.hi 12 rfl)
  have h13 := (hhd 13 (by decide)).trans (ho.hi 13 rfl)
  have h14 := (hhd 14 (by decide)).trans (ho.hi 14 rfl)
  have h15 := (hhd 15 (by decide)).trans (ho.hi 15 rfl)
  have h16 := (hhd 16 (by decide)).trans (ho.hi 16 rfl)
  clear hz hhd hb r1 hrow c18 c19
  go_enter Tryz.func24, Tryz.ntmps24
  by_cases hn : 32 < B.np
  · go_wp2_with fail
    go_ret
    exact ⟨false, rfl, (Ext.refl w).alloc _, ⟨(fun h => by cases h), (fun h => by have := h.1.2.2.2.2.2.1; omega)⟩⟩
  have hn' : ¬ (32 < B.np) := hn
  have hn2 : B.np ≤ 32 := by omega
  clear hn
  go_wp2_with fail
  refine (tmright_any _ _ _ _ _).mono ?_
  rintro e w1 ⟨rfl, hx1⟩
  have hbx1 := box_cell hx1
  have HX1 := Lib.hid hx1
  clear hx1
  obtain ⟨f1, hf1⟩ : ∃ f, rightB (B.hi 2) (B.hi 3) (B.hi 4) (B.hi 5) = f := ⟨_, rfl⟩
  rw [hf1]
  have HF1 := Lib.hid (show f1 = true ↔ TR (B.hi 2) (B.hi 3) (B.hi 4) (B.hi 5) from by rw [← hf1]; exact rightB_iff _ _ _ _)
  clear hf1
  have no : ∀ w' : World, Ext (w.alloc (.cells c 35)) w' → ¬ RightP B → Tells w (RightP B) (.returned (.bool false)) w' := fun w' hx hne => ⟨false, rfl, ((Ext.refl w).alloc _).trans hx, ⟨(fun h => by cases h), (fun h => absurd h hne)⟩⟩
  have NO := Lib.hid no
  clear no
  cases f1
  · go_wp2_with fail
    go_ret
    exact NO.out _ HX1.out (fun h => absurd (HF1.out.2 h.1.1) (by simp))
  by_cases h20 : B.hi 2 = 0
  case neg =>
    have h20b : (B.hi 2 != 0) = true := by simpa using h20
    go_wp2_with fail
    all_goals
      go_ret
      exact NO.out _ HX1.out (fun h => h20 h.1.2.2.1)
  have hT := HF1.out.1 (by simp)
  unfold TR at hT
  rw [h20] at h2
  have H20 := Lib.hid h20
  clear h20
  have HT := Lib.hid hT
  clear hT
  by_cases h6b : 1 ≤ B.hi 6 ∧ B.hi 6 ≤ 10
  case neg =>
    go_wp2_with (go_at_call 33; refine (asb (cwithin_any _ _ _ _) (y := false) (by simp; omega)).mono ?_; rintro e w' ⟨rfl, rfl⟩)
    all_goals
      go_ret
      exact NO.out _ HX1.out (fun h => h6b ⟨h.1.2.2.2.1, h.1.2.2.2.2.1⟩)
  by_cases h12b : -1 ≤ B.hi 12 ∧ B.hi 12 ≤ (B.np : Int) - 1
  case neg =>
    go_wp2_with fail
    refine (asb (cwithin_any _ _ _ _) (y := true) (by simp; omega)).mono ?_
    rintro e w' ⟨rfl, rfl⟩
    go_wp2_with fail
    refine (asb (cwithin_any _ _ _ _) (y := false) (by simp; omega)).mono ?_
    rintro e w' ⟨rfl, rfl⟩
    go_wp2_with fail
    all_goals
      go_ret
      exact NO.out _ HX1.out (fun h => h12b ⟨h.1.2.2.2.2.2.2.1, by have := h.1.2.2.2.2.2.2.2; omega⟩)
  go_wp2_with fail
  refine (asb (cwithin_any _ _ _ _) (y := true) (by simp; omega)).mono ?_
  rintro e w' ⟨rfl, rfl⟩
  go_wp2_with fail
  refine (asb (cwithin_any _ _ _ _) (y := true) (by simp; omega)).mono ?_
  rintro e w' ⟨rfl, rfl⟩
  go_wp2_with fail
  refine (told_any _ _ _ _ _).mono ?_
  rintro e w2 ⟨f2, rfl, hx2, hf2⟩
  have HX2 := Lib.hid (HX1.out.trans hx2)
  have HF2 := Lib.hid hf2
  have hbx2 := box_cell HX2.out
  clear hx2 hf2 HX1 hbx1
  cases f2
  · go_wp2_with fail
    go_ret
    exact NO.out _ HX2.out (fun h => absurd (HF2.out.2 h.1.2.1) (by simp))
  have HH := Lib.hid (show HdR B from ⟨HF1.out.1 (by simp), HF2.out.1 (by simp), H20.out, h6b.1, h6b.2, hn2, h12b.1, by omega⟩)
  clear HF1 HF2 h2 h3 h4 h5 h6 h12 h13 h14 h15 h16 HT H20 h6b h12b
  go_wp2_with fail
  go_loopw [43] (fun i wr => ∃ j : Nat, j ≤ B.np ∧ i = .int .i64 j ∧ Ext (w.alloc (.cells c 35)) wr ∧ Hid (∀ k, k < j → PortR B k)) (fun i _ => B.np - (intOf i).toNat)
  case atStart => exact ⟨0, by omega, rfl, HX2.out, Lib.hid (fun k hk => by omega)⟩
  case round =>
    clear HX2 hbx2
    obtain ⟨j, hj, rfl, hxr, hall⟩ := hrel
    have hbx := box_cell hxr
    by_cases hlt : j < B.np
    · obtain ⟨b, off, rfl, hb, hlc, hcm, hc⟩ := HR.out (by omega)
      have hrw := rangeAt_ext (rangeAt_ext hc ((Ext.refl w).alloc (.cells c 35)) hb) hxr (by simp; omega)
      have hpr := port_range hrw j
      have hcl := Lib.hid (show ∀ n, n < 9 → wr.cell? ⟨b, off + j * 89 + 6 + n, none⟩ = some (.int .i64 (B.gi j (6 + n))) from fun n hn' => by
        rw [show off + j * 89 + 6 + n = off + j * 89 + (6 + n) by omega]
        refine hpr (6 + n) _ ((port_at (B := B) (k := j) (j := 6 + n) (by omega)).trans (ho.gi hlt (6 + n) ?_))
        rcases (by omega : n = 0 ∨ n = 1 ∨ n = 2 ∨ n = 3 ∨ n = 4 ∨ n = 5 ∨ n = 6 ∨ n = 7 ∨ n = 8) with rfl | rfl | rfl | rfl | rfl | rfl | rfl | rfl | rfl <;> rfl)
      have r78 := Lib.hid (four_range hpr 78 (list4 ((port_at (B := B) (k := j) (j := 78) (by decide)).trans (ho.gi hlt 78 rfl)) ((port_at (B := B) (k := j) (j := 79) (by decide)).trans (ho.gi hlt 79 rfl)) ((port_at (B := B) (k := j) (j := 80) (by decide)).trans (ho.gi hlt 80 rfl)) ((port_at (B := B) (k := j) (j := 81) (by decide)).trans (ho.gi hlt 81 rfl))))
      have r82 := Lib.hid (four_range hpr 82 (list4 ((port_at (B := B) (k := j) (j := 82) (by decide)).trans (ho.gi hlt 82 rfl)) ((port_at (B := B) (k := j) (j := 83) (by decide)).trans (ho.gi hlt 83 rfl)) ((port_at (B := B) (k := j) (j := 84) (by decide)).trans (ho.gi hlt 84 rfl)) ((port_at (B := B) (k := j) (j := 85) (by decide)).trans (ho.gi hlt 85 rfl))))
      have r64 := Lib.hid (four_range hpr 64 (list4 ((port_at (B := B) (k := j) (j := 64) (by decide)).trans (ho.gi hlt 64 rfl)) ((port_at (B := B) (k := j) (j := 65) (by decide)).trans (ho.gi hlt 65 rfl)) ((port_at (B := B) (k := j) (j := 66) (by decide)).trans (ho.gi hlt 66 rfl)) ((port_at (B := B) (k := j) (j := 67) (by decide)).trans (ho.gi hlt 67 rfl))))
      have HXR := Lib.hid hxr
      have hbr := Lib.hid (show b < wr.heap.size from Nat.lt_of_lt_of_le (by simp; omega) hxr.size)
      clear hrw hpr hxr hc
      go_wp2_with fail
      refine (rport_any b (off + j * 89) (fun n => B.gi j (6 + n)) _ _ _ _ _ _ _ _ _ _ _ _ wr hbr.out hcl.out r78.out r82.out r64.out).mono ?_
      rintro e w3 ⟨f3, rfl, hx3, hf3⟩
      have HX3 := Lib.hid (HXR.out.trans hx3)
      have HF3 := Lib.hid hf3
      clear hx3 hf3
      cases f3
      · go_wp2_with fail
        go_ret
        exact NO.out _ HX3.out (fun h => absurd (HF3.out.2 ⟨(h.2 j hlt).1, (h.2 j hlt).2.1, (h.2 j hlt).2.2.1, (h.2 j hlt).2.2.2⟩) (by simp))
      · go_wp2_with fail
        go_roundw
        case rel =>
          refine ⟨j + 1, by omega, by go_num, HX3.out, Lib.hid (fun n hn' => ?_)⟩
          by_cases e : n = j
          · subst e
            exact HF3.out.1 trivial
          · exact hall.out n (by omega)
        case measure => simp [intOf]; omega
    · go_wp2_with fail
      go_ret
      exact ⟨true, rfl, ((Ext.refl w).alloc _).trans hxr, ⟨fun _ => ⟨HH.out, fun k hk => hall.out k (by omega)⟩, fun _ => rfl⟩⟩
end Go.Proofs.YtpanapepcbbagaaGreat
namespace Go.Proofs.YtpanapepcbbagaaGreat
open Go.RowKit Go.BigFrame Go.WideShapes Go.ChangeShapes Go.Deep
set_option linter.unusedVariables false
set_option linter.unusedSimpArgs false
theorem cfwd_t (c : Array Value) (B : Br) (k : Nat) (w : World) (hb : BrC w c B) (ho : B.ok) (hk : k < B.np) (hf : B.gb k 45 = true) : Calls Tryz.prog 176 #[.agg c, .int .i64 k] w fun e w' => e = .returned (.int .i64 (B.hi 4)) ∧ Ext w w' := by
  obtain ⟨s1, s2, s3, hz, hhd, c17, c18, c19, r1, -, -⟩ := hb.facts ho.hd.1
  obtain ⟨a1, k1, rfl, m1, hrow⟩ := r1.form
  have HR := Lib.hid hrow
  have h3 := (hhd 3 (by decide)).trans (ho.hi 3 rfl)
  have h4 := (hhd 4 (by decide)).trans (ho.hi 4 rfl)
  have h5 := (hhd 5 (by decide)).trans (ho.hi 5 rfl)
  clear hz hhd hb r1 hrow c18 c19
  obtain ⟨b, off, rfl, hb, hlc, hcm, hc⟩ := HR.out (by omega)
  have p := port_range hc k 45 _ ((port_at (B := B) (k := k) (j := 45) (by decide)).trans (ho.gb hk 45 rfl))
  rw [hf] at p
  clear hc HR hf
  go_enter Tryz.func176, Tryz.ntmps176
  go_wp2_with fail
  go_ret
  exact ⟨rfl, (Ext.refl w).alloc _⟩
theorem cfwd_f (c : Array Value) (B : Br) (k : Nat) (w : World) (hb : BrC w c B) (ho : B.ok) (hk : k < B.np) (hf : B.gb k 45 = false) : Calls Tryz.prog 176 #[.agg c, .int .i64 k] w fun e w' => e = .returned (.int .i64 (B.hi 5)) ∧ Ext w w' := by
  obtain ⟨s1, s2, s3, hz, hhd, c17, c18, c19, r1, -, -⟩ := hb.facts ho.hd.1
  obtain ⟨a1, k1, rfl, m1, hrow⟩ := r1.form
  have HR := Lib.hid hrow
  have h3 := (hhd 3 (by decide)).trans (ho.hi 3 rfl)
  have h4 := (hhd 4 (by decide)).trans (ho.hi 4 rfl)
  have h5 := (hhd 5 (by decide)).trans (ho.hi 5 rfl)
  clear hz hhd hb r1 hrow c18 c19
  obtain ⟨b, off, rfl, hb, hlc, hcm, hc⟩ := HR.out (by omega)
  have p := port_range hc k 45 _ ((port_at (B := B) (k := k) (j := 45) (by decide)).trans (ho.gb hk 45 rfl))
  rw [hf] at p
  clear hc HR hf
  go_enter Tryz.func176, Tryz.ntmps176
  go_wp2_with fail
  go_ret
  exact ⟨rfl, (Ext.refl w).alloc _⟩
theorem cfwd_any (c : Array Value) (B : Br) (k : Nat) (w : World) (hb : BrC w c B) (ho : B.ok) (hk : k < B.np) : Calls Tryz.prog 176 #[.agg c, .int .i64 k] w fun e w' => e = .returned (.int .i64 (if B.gb k 45 = true then (B.hi 4) else (B.hi 5))) ∧ Ext w w' := by
  cases hf : B.gb k 45
  · exact asi (cfwd_f c B k w hb ho hk hf) (by simp)
  · exact asi (cfwd_t c B k w hb ho hk hf) (by simp)
end Go.Proofs.YtpanapepcbbagaaGreat
