/- The machine of information: which row holds; its step, by the program. No statement is proved here. -/
import Derived.Test.YthfoacgdkoijeaaInfE
namespace Go.Proofs.Ythfoacgdkoijeaa
open Go.RowKit Go.BigFrame Go.WideShapes Go.ChangeShapes Go.Deep
set_option linter.unusedVariables false
set_option linter.unusedSimpArgs false

def irowB (en is0 st0 rcv st1 st2 sel upd is3 clk0 : Bool) : Nat :=
  if ((!en && !is0) || (st0 && rcv)) = true then 1 else if (st0 && en) = true then 2 else if ((st1 || st2) && sel && upd) = true then 3 else if (st2 && is3 && clk0 && !upd && !rcv) = true then 2 else if (st2 && rcv && !upd) = true then 4 else 0
def rowFun (n : Nat) (m : Value) : Value := match n with | 0 => Value.nilFunc | 1 => .func (.func 57) #[m] #[] | 2 => .func (.func 58) #[m] #[] | 3 => .func (.func 59) #[m] #[] | _ => .func (.func 60) #[m] #[]
theorem res_row {P : Program} {f : FuncId} {args : Array Value} {w : World} {G o : Nat} {L : List Value} {n1 n2 : Nat} {m : Value} (h : Calls P f args w fun e w' => e = .returned (rowFun n1 m) ∧ Pv w' G o L ∧ Pm G o w w') (e : n1 = n2) : Calls P f args w fun e w' => e = .returned (rowFun n2 m) ∧ Pv w' G o L ∧ Pm G o w w' := e ▸ h
set_option maxRecDepth 100000 in
set_option maxHeartbeats 4000000 in
theorem inf_row {w : World} (G o : Nat) (L : List Value) (hP_w : Pv w G o L) (hl : L.length = 89) (rst : Bool) (x2 : Bool) (h2 : L[2]? = some (.bool x2)) (x11 : Int) (h11 : L[11]? = some (.int .i64 x11)) (x18 : Int) (h18 : L[18]? = some (.int .i64 x18)) (x22 : Bool) (h22 : L[22]? = some (.bool x22)) (x23 : Bool) (h23 : L[23]? = some (.bool x23)) (x24 : Bool) (h24 : L[24]? = some (.bool x24)) (x25 : Bool) (h25 : L[25]? = some (.bool x25)) (x26 : Bool) (h26 : L[26]? = some (.bool x26)) (x27 : Bool) (h27 : L[27]? = some (.bool x27)) (x28 : Bool) (h28 : L[28]? = some (.bool x28)) (x29 : Bool) (h29 : L[29]? = some (.bool x29)) (x30 : Bool) (h30 : L[30]? = some (.bool x30)) (x31 : Bool) (h31 : L[31]? = some (.bool x31)) (x32 : Bool) (h32 : L[32]? = some (.bool x32)) (x33 : Bool) (h33 : L[33]? = some (.bool x33)) (x34 : Bool) (h34 : L[34]? = some (.bool x34)) (x35 : Bool) (h35 : L[35]? = some (.bool x35)) (x36 : Bool) (h36 : L[36]? = some (.bool x36)) (x37 : Bool) (h37 : L[37]? = some (.bool x37)) (x38 : Bool) (h38 : L[38]? = some (.bool x38)) (x39 : Bool) (h39 : L[39]? = some (.bool x39)) (x40 : Bool) (h40 : L[40]? = some (.bool x40)) (x41 : Bool) (h41 : L[41]? = some (.bool x41)) (x42 : Bool) (h42 : L[42]? = some (.bool x42)) (x43 : Bool) (h43 : L[43]? = some (.bool x43)) (x44 : Bool) (h44 : L[44]? = some (.bool x44)) (x45 : Bool) (h45 : L[45]? = some (.bool x45)) (x46 : Bool) (h46 : L[46]? = some (.bool x46)) (x47 : Bool) (h47 : L[47]? = some (.bool x47)) (x48 : Bool) (h48 : L[48]? = some (.bool x48)) (x49 : Bool) (h49 : L[49]? = some (.bool x49)) (x50 : Bool) (h50 : L[50]? = some (.bool x50)) (x86 : Int) (h86 : L[86]? = some (.int .i64 x86)) : Calls Try.prog 36 #[.agg #[.pointer (some ⟨G, o, none⟩), .bool rst]] w fun e w' => e = .returned (rowFun (irowB x2 (x86 == 0) (x18 == 0) x36 (x18 == 1) (x18 == 2) x44 x50 (x86 == 3) (x11 == 0)) (.agg #[.pointer (some ⟨G, o, none⟩), .bool rst])) ∧ Pv w' G o L ∧ Pm G o w w' := by
  have hG := hP_w.lt
  have HLEN := Lib.hid hl
  have HL_2 := Lib.hid h2
  have HL_11 := Lib.hid h11
  have HL_18 := Lib.hid h18
  have HL_22 := Lib.hid h22
  have HL_23 := Lib.hid h23
  have HL_24 := Lib.hid h24
  have HL_25 := Lib.hid h25
  have HL_26 := Lib.hid h26
  have HL_27 := Lib.hid h27
  have HL_28 := Lib.hid h28
  have HL_29 := Lib.hid h29
  have HL_30 := Lib.hid h30
  have HL_31 := Lib.hid h31
  have HL_32 := Lib.hid h32
  have HL_33 := Lib.hid h33
  have HL_34 := Lib.hid h34
  have HL_35 := Lib.hid h35
  have HL_36 := Lib.hid h36
  have HL_37 := Lib.hid h37
  have HL_38 := Lib.hid h38
  have HL_39 := Lib.hid h39
  have HL_40 := Lib.hid h40
  have HL_41 := Lib.hid h41
  have HL_42 := Lib.hid h42
  have HL_43 := Lib.hid h43
  have HL_44 := Lib.hid h44
  have HL_45 := Lib.hid h45
  have HL_46 := Lib.hid h46
  have HL_47 := Lib.hid h47
  have HL_48 := Lib.hid h48
  have HL_49 := Lib.hid h49
  have HL_50 := Lib.hid h50
  have HL_86 := Lib.hid h86
  have HS_22 := Lib.hid (seg_of (L := L) (j := 22) (l := [.bool x22, .bool x23, .bool x24, .bool x25, .bool x26, .bool x27, .bool x28, .bool x29, .bool x30, .bool x31, .bool x32, .bool x33, .bool x34, .bool x35, .bool x36, .bool x37, .bool x38, .bool x39, .bool x40, .bool x41, .bool x42, .bool x43, .bool x44, .bool x45, .bool x46, .bool x47, .bool x48, .bool x49, .bool x50]) (by rw [hl]; exact (by decide : 22 + 29 ≤ 89)) (fun i hi => by
    match i, hi with
    | 0, _ => exact HL_22.out
    | 1, _ => exact HL_23.out
    | 2, _ => exact HL_24.out
    | 3, _ => exact HL_25.out
    | 4, _ => exact HL_26.out
    | 5, _ => exact HL_27.out
    | 6, _ => exact HL_28.out
    | 7, _ => exact HL_29.out
    | 8, _ => exact HL_30.out
    | 9, _ => exact HL_31.out
    | 10, _ => exact HL_32.out
    | 11, _ => exact HL_33.out
    | 12, _ => exact HL_34.out
    | 13, _ => exact HL_35.out
    | 14, _ => exact HL_36.out
    | 15, _ => exact HL_37.out
    | 16, _ => exact HL_38.out
    | 17, _ => exact HL_39.out
    | 18, _ => exact HL_40.out
    | 19, _ => exact HL_41.out
    | 20, _ => exact HL_42.out
    | 21, _ => exact HL_43.out
    | 22, _ => exact HL_44.out
    | 23, _ => exact HL_45.out
    | 24, _ => exact HL_46.out
    | 25, _ => exact HL_47.out
    | 26, _ => exact HL_48.out
    | 27, _ => exact HL_49.out
    | 28, _ => exact HL_50.out
    | i + 29, hi => simp at hi; omega))
  clear hl h2 h11 h18 h22 h23 h24 h25 h26 h27 h28 h29 h30 h31 h32 h33 h34 h35 h36 h37 h38 h39 h40 h41 h42 h43 h44 h45 h46 h47 h48 h49 h50 h86
  obtain ⟨nn, hnn⟩ : ∃ n, (irowB x2 (x86 == 0) (x18 == 0) x36 (x18 == 1) (x18 == 2) x44 x50 (x86 == 3) (x11 == 0)) = n := ⟨_, rfl⟩
  rw [hnn]
  have HNN := Lib.hid hnn
  clear hnn
  go_enter Try.func36, Try.ntmps36
  go_wp2_with (first
    | fail
    | ((with_reducible refine at_box 66 ?_); refine bx_row rfl 66 _ rfl #[.pointer (some ⟨G, o, none⟩), .bool rst] rfl ?_
       intro H0 z1 hq hs hx
       have E_z1 : Pm G o w z1 := Ext.pm hx G o
       have hP_z1 : Pv z1 G o L := hP_w.ext hx
       have hH_z1 : z1.heap[H0]? = some (.cells #[.pointer (some ⟨G, o, none⟩), .bool rst] 66 (0, 0)) := hq
       have hb_H0 : w.heap.size ≤ H0 := by omega
       have hn_H0G : H0 ≠ G := by omega
       have rH0_z1 : z1.cell? ⟨H0, 0, none⟩ = some (.pointer (some ⟨G, o, none⟩)) := (cell_of_row _ _ _ _ _ _ hH_z1).trans rfl
       have rH1_z1 : z1.cell? ⟨H0, 1, none⟩ = some (.bool rst) := (cell_of_row _ _ _ _ _ _ hH_z1).trans rfl
       clear hP_w
       clear hq hs hx))
  refine beginL (S := fun W' => Ext z1 W') (by kernel_rfl) ?_
  intro wd hqx
  have hq0 : Ext z1 wd := hqx
  refine tLp 0 ((.pointer (some ⟨H0, 0, none⟩))) rfl hq0 ?_
  simp only [ps]
  refine tL 1 (_) rfl (yieldsIf_cell rfl 55 _ rfl ⟨H0, 0, none⟩ rfl (.pointer (some ⟨G, o, none⟩)) _ (fun W' hW' => (cell_of_row _ _ _ _ _ _ ((hW'.block _ (heap_lt hH_z1)).trans hH_z1)).trans rfl) Try.underlying55 rfl) hq0 ?_
  simp only [ps]
  refine tLp 2 ((.pointer (some ⟨G, o, none⟩))) rfl hq0 ?_
  simp only [ps]
  refine tLp 3 ((.pointer (some ⟨G, o + 22, none⟩))) rfl hq0 ?_
  simp only [ps]
  refine tL 4 (_) rfl (yieldsIf_load_mid rfl 47 _ rfl G (o + 22) rfl ([.bool x22, .bool x23, .bool x24, .bool x25, .bool x26, .bool x27, .bool x28, .bool x29, .bool x30, .bool x31, .bool x32, .bool x33, .bool x34, .bool x35, .bool x36, .bool x37, .bool x38, .bool x39, .bool x40, .bool x41, .bool x42, .bool x43, .bool x44, .bool x45, .bool x46, .bool x47, .bool x48, .bool x49, .bool x50]) _ (fun W' hW' => (hP_z1.ext hW').range (j := 22) (n := 29) HS_22.out (by decide)) Try.underlying47 rfl (by kernel_rfl)) hq0 ?_
  simp only [ps]
  refine tLp 5 ((.pointer (some ⟨H0, 0, none⟩))) rfl hq0 ?_
  simp only [ps]
  refine tL 6 (_) rfl (yieldsIf_cell rfl 55 _ rfl ⟨H0, 0, none⟩ rfl (.pointer (some ⟨G, o, none⟩)) _ (fun W' hW' => (cell_of_row _ _ _ _ _ _ ((hW'.block _ (heap_lt hH_z1)).trans hH_z1)).trans rfl) Try.underlying55 rfl) hq0 ?_
  simp only [ps]
  refine tLp 7 ((.pointer (some ⟨G, o, none⟩))) rfl hq0 ?_
  simp only [ps]
  refine tLp 8 ((.pointer (some ⟨G, o + 15, none⟩))) rfl hq0 ?_
  simp only [ps]
  refine tLp 9 ((.pointer (some ⟨G, o + 18, none⟩))) rfl hq0 ?_
  simp only [ps]
  refine tL 10 (_) rfl (yieldsIf_cell rfl 3 _ rfl ⟨G, o + 18, none⟩ rfl (.int .i64 x18) _ (fun W' hW' => ((hP_z1.ext hW').cell (j := 18) (by decide)).trans HL_18.out) Try.underlying3 rfl) hq0 ?_
  simp only [ps]
  refine runL (i := 11) rfl rfl (by kernel_rfl) (fun K hK => ?_)
  refine wp_al_zero 47 rfl FZ zero_flags (fun F0 wa11 hrow11 hsz11 hx => ?_)
  have hq1 := hq0.trans hx
  have hlo11 : z1.heap.size ≤ F0 := by have := hq0.size; omega
  clear hx
  refine hK.out _ _ hq1 (fun hHeld => ?_)
  try simp only [ps]
  clear hK K hHeld
  refine runL (i := 12) rfl rfl (by kernel_rfl) (fun K hK => ?_)
  refine wp_st_at rfl 47 _ _ rfl F0 0 _ #[.bool x22, .bool x23, .bool x24, .bool x25, .bool x26, .bool x27, .bool x28, .bool x29, .bool x30, .bool x31, .bool x32, .bool x33, .bool x34, .bool x35, .bool x36, .bool x37, .bool x38, .bool x39, .bool x40, .bool x41, .bool x42, .bool x43, .bool x44, .bool x45, .bool x46, .bool x47, .bool x48, .bool x49, .bool x50] _ #[.bool x22, .bool x23, .bool x24, .bool x25, .bool x26, .bool x27, .bool x28, .bool x29, .bool x30, .bool x31, .bool x32, .bool x33, .bool x34, .bool x35, .bool x36, .bool x37, .bool x38, .bool x39, .bool x40, .bool x41, .bool x42, .bool x43, .bool x44, .bool x45, .bool x46, .bool x47, .bool x48, .bool x49, .bool x50] _ rfl rfl rfl hrow11 (by exact (by decide : 0 + 29 ≤ 29)) (by kernel_rfl) rfl rfl (fun ws12 hrow12 hm => ?_)
  have hq2 : Ext z1 ws12 := Ext.mutE hq1 hm (fun n hn h => by have h2 : n = F0 := h; omega)
  clear hm
  refine hK.out _ _ hq2 (fun hHeld => ?_)
  try simp only [ps]
  clear hK K hHeld
  refine tLp 13 ((.int .i64 x18)) rfl hq2 ?_
  simp only [ps]
  refine wpAnyH_done (by kernel_rfl) ?_ _
  generalize ws12 = z2 at *
  have hH_z2 : z2.heap[H0]? = some (.cells #[.pointer (some ⟨G, o, none⟩), .bool rst] 66 (0, 0)) := (hq2.block _ (heap_lt hH_z1)).trans hH_z1
  have hP_z2 : Pv z2 G o L := hP_z1.ext hq2
  have E_z2 : Pm G o w z2 := E_z1.ext hq2
  have hFl_z2 : z2.heap[F0]? = some (.cells #[.bool x22, .bool x23, .bool x24, .bool x25, .bool x26, .bool x27, .bool x28, .bool x29, .bool x30, .bool x31, .bool x32, .bool x33, .bool x34, .bool x35, .bool x36, .bool x37, .bool x38, .bool x39, .bool x40, .bool x41, .bool x42, .bool x43, .bool x44, .bool x45, .bool x46, .bool x47, .bool x48, .bool x49, .bool x50] 47 (0, 0)) := hrow12
  have rH0_z2 : z2.cell? ⟨H0, 0, none⟩ = some (.pointer (some ⟨G, o, none⟩)) := (cell_of_row _ _ _ _ _ _ hH_z2).trans rfl
  have rH1_z2 : z2.cell? ⟨H0, 1, none⟩ = some (.bool rst) := (cell_of_row _ _ _ _ _ _ hH_z2).trans rfl
  have rFl14_z2 : z2.cell? ⟨F0, 14, none⟩ = some (.bool x36) := (cell_of_row _ _ _ _ _ _ hFl_z2).trans rfl
  have rFl22_z2 : z2.cell? ⟨F0, 22, none⟩ = some (.bool x44) := (cell_of_row _ _ _ _ _ _ hFl_z2).trans rfl
  have rFl28_z2 : z2.cell? ⟨F0, 28, none⟩ = some (.bool x50) := (cell_of_row _ _ _ _ _ _ hFl_z2).trans rfl
  have p2_z2 : z2.cell? ⟨G, o + 2, none⟩ = some (.bool x2) := (hP_z2.cell (j := 2) (by decide)).trans HL_2.out
  have p11_z2 : z2.cell? ⟨G, o + 11, none⟩ = some (.int .i64 x11) := (hP_z2.cell (j := 11) (by decide)).trans HL_11.out
  have p86_z2 : z2.cell? ⟨G, o + 86, none⟩ = some (.int .i64 x86) := (hP_z2.cell (j := 86) (by decide)).trans HL_86.out
  clear hH_z1 hP_z1 E_z1 rH0_z1 rH1_z1
  clear hq0 hq1 hq2 hqx hrow11 HL_2 HL_11 HL_18 HL_22 HL_23 HL_24 HL_25 HL_26 HL_27 HL_28 HL_29 HL_30 HL_31 HL_32 HL_33 HL_34 HL_35 HL_36 HL_37 HL_38 HL_39 HL_40 HL_41 HL_42 HL_43 HL_44 HL_45 HL_46 HL_47 HL_48 HL_49 HL_50 HL_86 HS_22
  cases x2
  · by_cases ex86_0 : x86 = 0
    · subst ex86_0
      by_cases ex18_0 : x18 = 0
      · subst ex18_0
        cases x36
        · go_wp2_with (first
            | fail
            | ((with_reducible refine at_load 66 ?_); refine wpList_load_row rfl 66 _ rfl H0 rfl 66 #[.pointer (some ⟨G, o, none⟩), .bool rst] (0, 0) _ hH_z2 Try.underlying66 rfl (by kernel_rfl) ?_))
          all_goals
            have hnn : nn = 0 := by
              rw [← HNN.out]
              simp [irowB]
            subst hnn
            go_ret
            exact ⟨rfl, hP_z2, E_z2⟩
        · go_wp2_with (first
            | fail
            | ((with_reducible refine at_load 66 ?_); refine wpList_load_row rfl 66 _ rfl H0 rfl 66 #[.pointer (some ⟨G, o, none⟩), .bool rst] (0, 0) _ hH_z2 Try.underlying66 rfl (by kernel_rfl) ?_))
          all_goals
            have hnn : nn = 1 := by
              rw [← HNN.out]
              simp [irowB]
            subst hnn
            go_ret
            exact ⟨rfl, hP_z2, E_z2⟩
      · by_cases ex18_1 : x18 = 1
        · subst ex18_1
          cases x44
          · go_wp2_with (first
              | fail
              | ((with_reducible refine at_load 66 ?_); refine wpList_load_row rfl 66 _ rfl H0 rfl 66 #[.pointer (some ⟨G, o, none⟩), .bool rst] (0, 0) _ hH_z2 Try.underlying66 rfl (by kernel_rfl) ?_))
            all_goals
              have hnn : nn = 0 := by
                rw [← HNN.out]
                simp [irowB]
              subst hnn
              go_ret
              exact ⟨rfl, hP_z2, E_z2⟩
          · cases x50
            · go_wp2_with (first
                | fail
                | ((with_reducible refine at_load 66 ?_); refine wpList_load_row rfl 66 _ rfl H0 rfl 66 #[.pointer (some ⟨G, o, none⟩), .bool rst] (0, 0) _ hH_z2 Try.underlying66 rfl (by kernel_rfl) ?_))
              all_goals
                have hnn : nn = 0 := by
                  rw [← HNN.out]
                  simp [irowB]
                subst hnn
                go_ret
                exact ⟨rfl, hP_z2, E_z2⟩
            · go_wp2_with (first
                | fail
                | ((with_reducible refine at_load 66 ?_); refine wpList_load_row rfl 66 _ rfl H0 rfl 66 #[.pointer (some ⟨G, o, none⟩), .bool rst] (0, 0) _ hH_z2 Try.underlying66 rfl (by kernel_rfl) ?_))
              all_goals
                have hnn : nn = 3 := by
                  rw [← HNN.out]
                  simp [irowB]
                subst hnn
                go_ret
                exact ⟨rfl, hP_z2, E_z2⟩
        · by_cases ex18_2 : x18 = 2
          · subst ex18_2
            cases x44
            · cases x50
              · cases x36
                · go_wp2_with (first
                    | fail
                    | ((with_reducible refine at_load 66 ?_); refine wpList_load_row rfl 66 _ rfl H0 rfl 66 #[.pointer (some ⟨G, o, none⟩), .bool rst] (0, 0) _ hH_z2 Try.underlying66 rfl (by kernel_rfl) ?_))
                  all_goals
                    have hnn : nn = 0 := by
                      rw [← HNN.out]
                      simp [irowB]
                    subst hnn
                    go_ret
                    exact ⟨rfl, hP_z2, E_z2⟩
                · go_wp2_with (first
                    | fail
                    | ((with_reducible refine at_load 66 ?_); refine wpList_load_row rfl 66 _ rfl H0 rfl 66 #[.pointer (some ⟨G, o, none⟩), .bool rst] (0, 0) _ hH_z2 Try.underlying66 rfl (by kernel_rfl) ?_))
                  all_goals
                    have hnn : nn = 4 := by
                      rw [← HNN.out]
                      simp [irowB]
                    subst hnn
                    go_ret
                    exact ⟨rfl, hP_z2, E_z2⟩
              · go_wp2_with (first
                  | fail
                  | ((with_reducible refine at_load 66 ?_); refine wpList_load_row rfl 66 _ rfl H0 rfl 66 #[.pointer (some ⟨G, o, none⟩), .bool rst] (0, 0) _ hH_z2 Try.underlying66 rfl (by kernel_rfl) ?_))
                all_goals
                  have hnn : nn = 0 := by
                    rw [← HNN.out]
                    simp [irowB]
                  subst hnn
                  go_ret
                  exact ⟨rfl, hP_z2, E_z2⟩
            · cases x50
              · cases x36
                · go_wp2_with (first
                    | fail
                    | ((with_reducible refine at_load 66 ?_); refine wpList_load_row rfl 66 _ rfl H0 rfl 66 #[.pointer (some ⟨G, o, none⟩), .bool rst] (0, 0) _ hH_z2 Try.underlying66 rfl (by kernel_rfl) ?_))
                  all_goals
                    have hnn : nn = 0 := by
                      rw [← HNN.out]
                      simp [irowB]
                    subst hnn
                    go_ret
                    exact ⟨rfl, hP_z2, E_z2⟩
                · go_wp2_with (first
                    | fail
                    | ((with_reducible refine at_load 66 ?_); refine wpList_load_row rfl 66 _ rfl H0 rfl 66 #[.pointer (some ⟨G, o, none⟩), .bool rst] (0, 0) _ hH_z2 Try.underlying66 rfl (by kernel_rfl) ?_))
                  all_goals
                    have hnn : nn = 4 := by
                      rw [← HNN.out]
                      simp [irowB]
                    subst hnn
                    go_ret
                    exact ⟨rfl, hP_z2, E_z2⟩
              · go_wp2_with (first
                  | fail
                  | ((with_reducible refine at_load 66 ?_); refine wpList_load_row rfl 66 _ rfl H0 rfl 66 #[.pointer (some ⟨G, o, none⟩), .bool rst] (0, 0) _ hH_z2 Try.underlying66 rfl (by kernel_rfl) ?_))
                all_goals
                  have hnn : nn = 3 := by
                    rw [← HNN.out]
                    simp [irowB]
                  subst hnn
                  go_ret
                  exact ⟨rfl, hP_z2, E_z2⟩
          · have bx18_0 : (x18 == 0) = false := ne_b ex18_0
            have bx18_1 : (x18 == 1) = false := ne_b ex18_1
            have bx18_2 : (x18 == 2) = false := ne_b ex18_2
            have cx18_0 : (x18 != 0) = true := by simpa using ex18_0
            have cx18_1 : (x18 != 1) = true := by simpa using ex18_1
            have cx18_2 : (x18 != 2) = true := by simpa using ex18_2
            clear ex18_0 ex18_1 ex18_2
            go_wp2_with (first
              | fail
              | ((with_reducible refine at_load 66 ?_); refine wpList_load_row rfl 66 _ rfl H0 rfl 66 #[.pointer (some ⟨G, o, none⟩), .bool rst] (0, 0) _ hH_z2 Try.underlying66 rfl (by kernel_rfl) ?_))
            all_goals
              have hnn : nn = 0 := by
                rw [← HNN.out]
                rw [bx18_0]; rw [bx18_1]; rw [bx18_2]; simp [irowB]
              subst hnn
              go_ret
              exact ⟨rfl, hP_z2, E_z2⟩
    · have bx86_0 : (x86 == 0) = false := ne_b ex86_0
      have cx86_0 : (x86 != 0) = true := by simpa using ex86_0
      clear ex86_0
      go_wp2_with (first
        | fail
        | ((with_reducible refine at_load 66 ?_); refine wpList_load_row rfl 66 _ rfl H0 rfl 66 #[.pointer (some ⟨G, o, none⟩), .bool rst] (0, 0) _ hH_z2 Try.underlying66 rfl (by kernel_rfl) ?_))
      all_goals
        have hnn : nn = 1 := by
          rw [← HNN.out]
          rw [bx86_0]; simp [irowB]
        subst hnn
        go_ret
        exact ⟨rfl, hP_z2, E_z2⟩
  · by_cases ex18_0 : x18 = 0
    · subst ex18_0
      cases x36
      · go_wp2_with (first
          | fail
          | ((with_reducible refine at_load 66 ?_); refine wpList_load_row rfl 66 _ rfl H0 rfl 66 #[.pointer (some ⟨G, o, none⟩), .bool rst] (0, 0) _ hH_z2 Try.underlying66 rfl (by kernel_rfl) ?_))
        all_goals
          have hnn : nn = 2 := by
            rw [← HNN.out]
            simp [irowB]
          subst hnn
          go_ret
          exact ⟨rfl, hP_z2, E_z2⟩
      · go_wp2_with (first
          | fail
          | ((with_reducible refine at_load 66 ?_); refine wpList_load_row rfl 66 _ rfl H0 rfl 66 #[.pointer (some ⟨G, o, none⟩), .bool rst] (0, 0) _ hH_z2 Try.underlying66 rfl (by kernel_rfl) ?_))
        all_goals
          have hnn : nn = 1 := by
            rw [← HNN.out]
            simp [irowB]
          subst hnn
          go_ret
          exact ⟨rfl, hP_z2, E_z2⟩
    · by_cases ex18_1 : x18 = 1
      · subst ex18_1
        cases x44
        · go_wp2_with (first
            | fail
            | ((with_reducible refine at_load 66 ?_); refine wpList_load_row rfl 66 _ rfl H0 rfl 66 #[.pointer (some ⟨G, o, none⟩), .bool rst] (0, 0) _ hH_z2 Try.underlying66 rfl (by kernel_rfl) ?_))
          all_goals
            have hnn : nn = 0 := by
              rw [← HNN.out]
              simp [irowB]
            subst hnn
            go_ret
            exact ⟨rfl, hP_z2, E_z2⟩
        · cases x50
          · go_wp2_with (first
              | fail
              | ((with_reducible refine at_load 66 ?_); refine wpList_load_row rfl 66 _ rfl H0 rfl 66 #[.pointer (some ⟨G, o, none⟩), .bool rst] (0, 0) _ hH_z2 Try.underlying66 rfl (by kernel_rfl) ?_))
            all_goals
              have hnn : nn = 0 := by
                rw [← HNN.out]
                simp [irowB]
              subst hnn
              go_ret
              exact ⟨rfl, hP_z2, E_z2⟩
          · go_wp2_with (first
              | fail
              | ((with_reducible refine at_load 66 ?_); refine wpList_load_row rfl 66 _ rfl H0 rfl 66 #[.pointer (some ⟨G, o, none⟩), .bool rst] (0, 0) _ hH_z2 Try.underlying66 rfl (by kernel_rfl) ?_))
            all_goals
              have hnn : nn = 3 := by
                rw [← HNN.out]
                simp [irowB]
              subst hnn
              go_ret
              exact ⟨rfl, hP_z2, E_z2⟩
      · by_cases ex18_2 : x18 = 2
        · subst ex18_2
          cases x44
          · cases x50
            · cases x36
              · by_cases ex86_3 : x86 = 3
                · subst ex86_3
                  by_cases ex11_0 : x11 = 0
                  · subst ex11_0
                    go_wp2_with (first
                      | fail
                      | ((with_reducible refine at_load 66 ?_); refine wpList_load_row rfl 66 _ rfl H0 rfl 66 #[.pointer (some ⟨G, o, none⟩), .bool rst] (0, 0) _ hH_z2 Try.underlying66 rfl (by kernel_rfl) ?_))
                    all_goals
                      have hnn : nn = 2 := by
                        rw [← HNN.out]
                        simp [irowB]
                      subst hnn
                      go_ret
                      exact ⟨rfl, hP_z2, E_z2⟩
                  · have bx11_0 : (x11 == 0) = false := ne_b ex11_0
                    have cx11_0 : (x11 != 0) = true := by simpa using ex11_0
                    clear ex11_0
                    go_wp2_with (first
                      | fail
                      | ((with_reducible refine at_load 66 ?_); refine wpList_load_row rfl 66 _ rfl H0 rfl 66 #[.pointer (some ⟨G, o, none⟩), .bool rst] (0, 0) _ hH_z2 Try.underlying66 rfl (by kernel_rfl) ?_))
                    all_goals
                      have hnn : nn = 0 := by
                        rw [← HNN.out]
                        rw [bx11_0]; simp [irowB]
                      subst hnn
                      go_ret
                      exact ⟨rfl, hP_z2, E_z2⟩
                · have bx86_3 : (x86 == 3) = false := ne_b ex86_3
                  have cx86_3 : (x86 != 3) = true := by simpa using ex86_3
                  clear ex86_3
                  go_wp2_with (first
                    | fail
                    | ((with_reducible refine at_load 66 ?_); refine wpList_load_row rfl 66 _ rfl H0 rfl 66 #[.pointer (some ⟨G, o, none⟩), .bool rst] (0, 0) _ hH_z2 Try.underlying66 rfl (by kernel_rfl) ?_))
                  all_goals
                    have hnn : nn = 0 := by
                      rw [← HNN.out]
                      rw [bx86_3]; simp [irowB]
                    subst hnn
                    go_ret
                    exact ⟨rfl, hP_z2, E_z2⟩
              · go_wp2_with (first
                  | fail
                  | ((with_reducible refine at_load 66 ?_); refine wpList_load_row rfl 66 _ rfl H0 rfl 66 #[.pointer (some ⟨G, o, none⟩), .bool rst] (0, 0) _ hH_z2 Try.underlying66 rfl (by kernel_rfl) ?_))
                all_goals
                  have hnn : nn = 4 := by
                    rw [← HNN.out]
                    simp [irowB]
                  subst hnn
                  go_ret
                  exact ⟨rfl, hP_z2, E_z2⟩
            · go_wp2_with (first
                | fail
                | ((with_reducible refine at_load 66 ?_); refine wpList_load_row rfl 66 _ rfl H0 rfl 66 #[.pointer (some ⟨G, o, none⟩), .bool rst] (0, 0) _ hH_z2 Try.underlying66 rfl (by kernel_rfl) ?_))
              all_goals
                have hnn : nn = 0 := by
                  rw [← HNN.out]
                  simp [irowB]
                subst hnn
                go_ret
                exact ⟨rfl, hP_z2, E_z2⟩
          · cases x50
            · cases x36
              · by_cases ex86_3 : x86 = 3
                · subst ex86_3
                  by_cases ex11_0 : x11 = 0
                  · subst ex11_0
                    go_wp2_with (first
                      | fail
                      | ((with_reducible refine at_load 66 ?_); refine wpList_load_row rfl 66 _ rfl H0 rfl 66 #[.pointer (some ⟨G, o, none⟩), .bool rst] (0, 0) _ hH_z2 Try.underlying66 rfl (by kernel_rfl) ?_))
                    all_goals
                      have hnn : nn = 2 := by
                        rw [← HNN.out]
                        simp [irowB]
                      subst hnn
                      go_ret
                      exact ⟨rfl, hP_z2, E_z2⟩
                  · have bx11_0 : (x11 == 0) = false := ne_b ex11_0
                    have cx11_0 : (x11 != 0) = true := by simpa using ex11_0
                    clear ex11_0
                    go_wp2_with (first
                      | fail
                      | ((with_reducible refine at_load 66 ?_); refine wpList_load_row rfl 66 _ rfl H0 rfl 66 #[.pointer (some ⟨G, o, none⟩), .bool rst] (0, 0) _ hH_z2 Try.underlying66 rfl (by kernel_rfl) ?_))
                    all_goals
                      have hnn : nn = 0 := by
                        rw [← HNN.out]
                        rw [bx11_0]; simp [irowB]
                      subst hnn
                      go_ret
                      exact ⟨rfl, hP_z2, E_z2⟩
                · have bx86_3 : (x86 == 3) = false := ne_b ex86_3
                  have cx86_3 : (x86 != 3) = true := by simpa using ex86_3
                  clear ex86_3
                  go_wp2_with (first
                    | fail
                    | ((with_reducible refine at_load 66 ?_); refine wpList_load_row rfl 66 _ rfl H0 rfl 66 #[.pointer (some ⟨G, o, none⟩), .bool rst] (0, 0) _ hH_z2 Try.underlying66 rfl (by kernel_rfl) ?_))
                  all_goals
                    have hnn : nn = 0 := by
                      rw [← HNN.out]
                      rw [bx86_3]; simp [irowB]
                    subst hnn
                    go_ret
                    exact ⟨rfl, hP_z2, E_z2⟩
              · go_wp2_with (first
                  | fail
                  | ((with_reducible refine at_load 66 ?_); refine wpList_load_row rfl 66 _ rfl H0 rfl 66 #[.pointer (some ⟨G, o, none⟩), .bool rst] (0, 0) _ hH_z2 Try.underlying66 rfl (by kernel_rfl) ?_))
                all_goals
                  have hnn : nn = 4 := by
                    rw [← HNN.out]
                    simp [irowB]
                  subst hnn
                  go_ret
                  exact ⟨rfl, hP_z2, E_z2⟩
            · go_wp2_with (first
                | fail
                | ((with_reducible refine at_load 66 ?_); refine wpList_load_row rfl 66 _ rfl H0 rfl 66 #[.pointer (some ⟨G, o, none⟩), .bool rst] (0, 0) _ hH_z2 Try.underlying66 rfl (by kernel_rfl) ?_))
              all_goals
                have hnn : nn = 3 := by
                  rw [← HNN.out]
                  simp [irowB]
                subst hnn
                go_ret
                exact ⟨rfl, hP_z2, E_z2⟩
        · have bx18_0 : (x18 == 0) = false := ne_b ex18_0
          have bx18_1 : (x18 == 1) = false := ne_b ex18_1
          have bx18_2 : (x18 == 2) = false := ne_b ex18_2
          have cx18_0 : (x18 != 0) = true := by simpa using ex18_0
          have cx18_1 : (x18 != 1) = true := by simpa using ex18_1
          have cx18_2 : (x18 != 2) = true := by simpa using ex18_2
          clear ex18_0 ex18_1 ex18_2
          go_wp2_with (first
            | fail
            | ((with_reducible refine at_load 66 ?_); refine wpList_load_row rfl 66 _ rfl H0 rfl 66 #[.pointer (some ⟨G, o, none⟩), .bool rst] (0, 0) _ hH_z2 Try.underlying66 rfl (by kernel_rfl) ?_))
          all_goals
            have hnn : nn = 0 := by
              rw [← HNN.out]
              rw [bx18_0]; rw [bx18_1]; rw [bx18_2]; simp [irowB]
            subst hnn
            go_ret
            exact ⟨rfl, hP_z2, E_z2⟩

end Go.Proofs.Ythfoacgdkoijeaa
