/- The machine of information: its actions, by the document. No statement is proved here. -/
import Derived.Test.YthfoacgdkoijeaaInfM
import Derived.Test.YthfoacgdkoijeaaInfC
namespace Go.Proofs.Ythfoacgdkoijeaa
open Go.RowKit Go.BigFrame Go.WideShapes Go.ChangeShapes Go.Deep
set_option linter.unusedVariables false
set_option linter.unusedSimpArgs false

theorem set_id {L : List Value} {j : Nat} {v : Value} (h : L[j]? = some v) : L.set j v = L := by
  apply List.ext_getElem?
  intro i
  rw [List.getElem?_set]
  split
  · rename_i e
    subst e
    rw [h, if_pos (List.getElem?_eq_some_iff.1 h).1]
  · rfl
theorem seg_same {L vs : List Value} {j : Nat} (h : L.length = 89) (hj : j + vs.length ≤ 89) : ((setL L j vs).drop j).take vs.length = vs := by
  unfold setL
  have hz : (L.take j).length = j := by rw [List.length_take]; omega
  rw [List.append_assoc, List.drop_append_of_le_length (by omega), List.drop_of_length_le (by omega), List.nil_append, List.take_append_of_le_length (by omega), List.take_length]
theorem age_comm (A : List Value) (a b c d : Value) : (((A.set 86 a).set 18 b).set 43 c).set 44 d = (((A.set 86 a).set 43 c).set 44 d).set 18 b := by
  rw [List.set_comm _ _ (show (18 : Nat) ≠ 43 by decide), List.set_comm _ _ (show (18 : Nat) ≠ 44 by decide)]
def dage (is st : Int) (L : List Value) : List Value := (((L.set 86 (.int .i64 is)).set 18 (.int .i64 st)).set 43 (.bool true)).set 44 (.bool false)
theorem dage_eq (is st : Int) (L : List Value) : dage is st L = (iask (L.set 86 (.int .i64 is))).set 18 (.int .i64 st) := age_comm _ _ _ _ _
set_option maxRecDepth 100000 in
set_option maxHeartbeats 1000000 in
theorem daged  (is st : Int){w : World} (G o : Nat) (L : List Value) (hP_w : Pv w G o L) (hl : L.length = 89) : Calls Try.prog 37 #[.pointer (some ⟨G, o, none⟩), .int .i64 is, .int .i64 st] w fun e w' => e = .returned (.tuple #[]) ∧ Pv w' G o (dage is st L) ∧ Pm G o w w' := by
  have hG := hP_w.lt
  have HLEN := Lib.hid hl
  clear hl
  go_enter Try.func37, Try.ntmps37
  go_wp2_with (first
    | fail
    | ((with_reducible refine at_store 3 ?_); refine st_pv rfl rfl 3 _ _ rfl G o 86 _ hP_w _ #[.int .i64 is] rfl rfl rfl (by exact (by decide : 86 + 1 ≤ 89)) (by kernel_rfl) rfl ?_
       intro z1 hp hm
       replace hp := pv_one hp HLEN.out (by decide)
       have hP_z1 := hp
       have E_z1 : Pm G o w z1 := hm
       clear hP_w
       clear hp hm)
    | ((with_reducible refine at_store 3 ?_); refine st_pv rfl rfl 3 _ _ rfl G o 18 _ hP_z1 _ #[.int .i64 st] rfl rfl rfl (by exact (by decide : 18 + 1 ≤ 89)) (by kernel_rfl) rfl ?_
       intro z2 hp hm
       replace hp := pv_one hp (len_set' HLEN.out) (by decide)
       have hP_z2 := hp
       have E_z2 : Pm G o w z2 := E_z1.trans hm
       clear hP_z1 E_z1
       clear hp hm)
    | ((with_reducible refine at_store 4 ?_); refine st_pv rfl rfl 4 _ _ rfl G o 43 _ hP_z2 _ #[.bool true] rfl rfl rfl (by exact (by decide : 43 + 1 ≤ 89)) (by kernel_rfl) rfl ?_
       intro z3 hp hm
       replace hp := pv_one hp (len_set' (len_set' HLEN.out)) (by decide)
       have hP_z3 := hp
       have E_z3 : Pm G o w z3 := E_z2.trans hm
       clear hP_z2 E_z2
       clear hp hm)
    | ((with_reducible refine at_store 4 ?_); refine st_pv rfl rfl 4 _ _ rfl G o 44 _ hP_z3 _ #[.bool false] rfl rfl rfl (by exact (by decide : 44 + 1 ≤ 89)) (by kernel_rfl) rfl ?_
       intro z4 hp hm
       replace hp := pv_one hp (len_set' (len_set' (len_set' HLEN.out))) (by decide)
       have hP_z4 := hp
       have E_z4 : Pm G o w z4 := E_z3.trans hm
       clear hP_z3 E_z3
       clear hp hm))
  first
    | go_end0
    | (simp only [Exit.inBlock, Exit.then]; refine bodyPost_ret (results_none rfl _ _ _) rfl ?_)
    | refine bodyPost_ret (results_none rfl _ _ _) rfl ?_
  exact ⟨rfl, hP_z4, E_z4⟩
set_option maxRecDepth 100000 in
set_option maxHeartbeats 1000000 in
theorem dagreement (X : Nat) (rst : Bool) {w : World} (G o : Nat) (L : List Value) (hP_w : Pv w G o L) (hl : L.length = 89) (x3 : Bool) (h3 : L[3]? = some (.bool x3)) (x51 : Int) (h51 : L[51]? = some (.int .i64 x51)) (x55 : Bool) (h55 : L[55]? = some (.bool x55)) (hc : w.cell? ⟨X, 1, none⟩ = some (.bool rst)) : Calls Try.prog 62 #[.pointer (some ⟨X, 0, none⟩), .pointer (some ⟨G, o, none⟩)] w fun e w' => e = .returned (.tuple #[]) ∧ Pv w' G o (iagr (rst && !x3 && (x51 == 2) && x55) L) ∧ Pm G o w w' := by
  cases rst
  · refine res_pv (L1 := L.set 23 (.bool false)) ?_ rfl
    have hG := hP_w.lt
    have HLEN := Lib.hid hl
    have HL_3 := Lib.hid h3
    have HL_51 := Lib.hid h51
    have HL_55 := Lib.hid h55
    clear hl h3 h51 h55
    go_enter Try.func62, Try.ntmps62
    have p3_w : w.cell? ⟨G, o + 3, none⟩ = some (.bool x3) := (hP_w.cell (j := 3) (by decide)).trans HL_3.out
    have p51_w : w.cell? ⟨G, o + 51, none⟩ = some (.int .i64 x51) := (hP_w.cell (j := 51) (by decide)).trans HL_51.out
    have p55_w : w.cell? ⟨G, o + 55, none⟩ = some (.bool x55) := (hP_w.cell (j := 55) (by decide)).trans HL_55.out
    go_wp2_with (first
      | fail
      | ((with_reducible refine at_store 4 ?_); refine st_pv rfl rfl 4 _ _ rfl G o 23 _ hP_w _ #[.bool false] rfl rfl rfl (by exact (by decide : 23 + 1 ≤ 89)) (by kernel_rfl) rfl ?_
         intro z1 hp hm
         replace hp := pv_one hp HLEN.out (by decide)
         have hP_z1 := hp
         have E_z1 : Pm G o w z1 := hm
         clear hP_w p3_w p51_w p55_w
         clear hp hm))
    first
      | go_end0
      | (simp only [Exit.inBlock, Exit.then]; refine bodyPost_ret (results_none rfl _ _ _) rfl ?_)
      | refine bodyPost_ret (results_none rfl _ _ _) rfl ?_
    exact ⟨rfl, hP_z1, E_z1⟩
  cases x3
  · by_cases e51 : x51 = 2
    · subst e51
      cases x55
      · refine res_pv (L1 := L.set 23 (.bool false)) ?_ rfl
        have hG := hP_w.lt
        have HLEN := Lib.hid hl
        have HL_3 := Lib.hid h3
        have HL_51 := Lib.hid h51
        have HL_55 := Lib.hid h55
        clear hl h3 h51 h55
        go_enter Try.func62, Try.ntmps62
        have p3_w : w.cell? ⟨G, o + 3, none⟩ = some (.bool false) := (hP_w.cell (j := 3) (by decide)).trans HL_3.out
        have p51_w : w.cell? ⟨G, o + 51, none⟩ = some (.int .i64 2) := (hP_w.cell (j := 51) (by decide)).trans HL_51.out
        have p55_w : w.cell? ⟨G, o + 55, none⟩ = some (.bool false) := (hP_w.cell (j := 55) (by decide)).trans HL_55.out
        go_wp2_with (first
          | fail
          | ((with_reducible refine at_store 4 ?_); refine st_pv rfl rfl 4 _ _ rfl G o 23 _ hP_w _ #[.bool false] rfl rfl rfl (by exact (by decide : 23 + 1 ≤ 89)) (by kernel_rfl) rfl ?_
             intro z1 hp hm
             replace hp := pv_one hp HLEN.out (by decide)
             have hP_z1 := hp
             have E_z1 : Pm G o w z1 := hm
             clear hP_w p3_w p51_w p55_w
             clear hp hm))
        first
          | go_end0
          | (simp only [Exit.inBlock, Exit.then]; refine bodyPost_ret (results_none rfl _ _ _) rfl ?_)
          | refine bodyPost_ret (results_none rfl _ _ _) rfl ?_
        exact ⟨rfl, hP_z1, E_z1⟩
      · refine res_pv (L1 := (L.set 23 (.bool true)).set 34 (.bool false)) ?_ rfl
        have hG := hP_w.lt
        have HLEN := Lib.hid hl
        have HL_3 := Lib.hid h3
        have HL_51 := Lib.hid h51
        have HL_55 := Lib.hid h55
        clear hl h3 h51 h55
        go_enter Try.func62, Try.ntmps62
        have p3_w : w.cell? ⟨G, o + 3, none⟩ = some (.bool false) := (hP_w.cell (j := 3) (by decide)).trans HL_3.out
        have p51_w : w.cell? ⟨G, o + 51, none⟩ = some (.int .i64 2) := (hP_w.cell (j := 51) (by decide)).trans HL_51.out
        have p55_w : w.cell? ⟨G, o + 55, none⟩ = some (.bool true) := (hP_w.cell (j := 55) (by decide)).trans HL_55.out
        go_wp2_with (first
          | fail
          | ((with_reducible refine at_store 4 ?_); refine st_pv rfl rfl 4 _ _ rfl G o 23 _ hP_w _ #[.bool true] rfl rfl rfl (by exact (by decide : 23 + 1 ≤ 89)) (by kernel_rfl) rfl ?_
             intro z1 hp hm
             replace hp := pv_one hp HLEN.out (by decide)
             have hP_z1 := hp
             have E_z1 : Pm G o w z1 := hm
             clear hP_w p3_w p51_w p55_w
             clear hp hm)
          | ((with_reducible refine at_store 4 ?_); refine st_pv rfl rfl 4 _ _ rfl G o 34 _ hP_z1 _ #[.bool false] rfl rfl rfl (by exact (by decide : 34 + 1 ≤ 89)) (by kernel_rfl) rfl ?_
             intro z2 hp hm
             replace hp := pv_one hp (len_set' HLEN.out) (by decide)
             have hP_z2 := hp
             have E_z2 : Pm G o w z2 := E_z1.trans hm
             clear hP_z1 E_z1
             clear hp hm))
        first
          | go_end0
          | (simp only [Exit.inBlock, Exit.then]; refine bodyPost_ret (results_none rfl _ _ _) rfl ?_)
          | refine bodyPost_ret (results_none rfl _ _ _) rfl ?_
        exact ⟨rfl, hP_z2, E_z2⟩
    · refine res_pv (L1 := L.set 23 (.bool false)) ?_ (by rw [ne_b e51]; cases x55 <;> rfl)
      have c2 : (x51 == 2) = false := by simpa using e51
      clear e51
      have hG := hP_w.lt
      have HLEN := Lib.hid hl
      have HL_3 := Lib.hid h3
      have HL_51 := Lib.hid h51
      have HL_55 := Lib.hid h55
      clear hl h3 h51 h55
      go_enter Try.func62, Try.ntmps62
      have p3_w : w.cell? ⟨G, o + 3, none⟩ = some (.bool false) := (hP_w.cell (j := 3) (by decide)).trans HL_3.out
      have p51_w : w.cell? ⟨G, o + 51, none⟩ = some (.int .i64 x51) := (hP_w.cell (j := 51) (by decide)).trans HL_51.out
      have p55_w : w.cell? ⟨G, o + 55, none⟩ = some (.bool x55) := (hP_w.cell (j := 55) (by decide)).trans HL_55.out
      go_wp2_with (first
        | fail
        | ((with_reducible refine at_store 4 ?_); refine st_pv rfl rfl 4 _ _ rfl G o 23 _ hP_w _ #[.bool false] rfl rfl rfl (by exact (by decide : 23 + 1 ≤ 89)) (by kernel_rfl) rfl ?_
           intro z1 hp hm
           replace hp := pv_one hp HLEN.out (by decide)
           have hP_z1 := hp
           have E_z1 : Pm G o w z1 := hm
           clear hP_w p3_w p51_w p55_w
           clear hp hm))
      first
        | go_end0
        | (simp only [Exit.inBlock, Exit.then]; refine bodyPost_ret (results_none rfl _ _ _) rfl ?_)
        | refine bodyPost_ret (results_none rfl _ _ _) rfl ?_
      exact ⟨rfl, hP_z1, E_z1⟩
  · refine res_pv (L1 := L.set 23 (.bool false)) ?_ rfl
    have hG := hP_w.lt
    have HLEN := Lib.hid hl
    have HL_3 := Lib.hid h3
    have HL_51 := Lib.hid h51
    have HL_55 := Lib.hid h55
    clear hl h3 h51 h55
    go_enter Try.func62, Try.ntmps62
    have p3_w : w.cell? ⟨G, o + 3, none⟩ = some (.bool true) := (hP_w.cell (j := 3) (by decide)).trans HL_3.out
    have p51_w : w.cell? ⟨G, o + 51, none⟩ = some (.int .i64 x51) := (hP_w.cell (j := 51) (by decide)).trans HL_51.out
    have p55_w : w.cell? ⟨G, o + 55, none⟩ = some (.bool x55) := (hP_w.cell (j := 55) (by decide)).trans HL_55.out
    go_wp2_with (first
      | fail
      | ((with_reducible refine at_store 4 ?_); refine st_pv rfl rfl 4 _ _ rfl G o 23 _ hP_w _ #[.bool false] rfl rfl rfl (by exact (by decide : 23 + 1 ≤ 89)) (by kernel_rfl) rfl ?_
         intro z1 hp hm
         replace hp := pv_one hp HLEN.out (by decide)
         have hP_z1 := hp
         have E_z1 : Pm G o w z1 := hm
         clear hP_w p3_w p51_w p55_w
         clear hp hm))
    first
      | go_end0
      | (simp only [Exit.inBlock, Exit.then]; refine bodyPost_ret (results_none rfl _ _ _) rfl ?_)
      | refine bodyPost_ret (results_none rfl _ _ _) rfl ?_
    exact ⟨rfl, hP_z1, E_z1⟩
set_option maxRecDepth 100000 in
set_option maxHeartbeats 1000000 in
theorem dchanges {w : World} (G o : Nat) (L : List Value) (hP_w : Pv w G o L) (hl : L.length = 89) (x39 : Bool) (h39 : L[39]? = some (.bool x39)) (x40 : Bool) (h40 : L[40]? = some (.bool x40)) (x52 : Bool) (h52 : L[52]? = some (.bool x52)) (x53 : Bool) (h53 : L[53]? = some (.bool x53)) : Calls Try.prog 63 #[.pointer (some ⟨G, o, none⟩)] w fun e w' => e = .returned (.tuple #[]) ∧ Pv w' G o (ichg (x39 || x52) (x40 || x53) L) ∧ Pm G o w w' := by
  unfold ichg
  cases x52
  · cases x53
    · simp only [Bool.or_false]
      have hG := hP_w.lt
      have HLEN := Lib.hid hl
      have HL_39 := Lib.hid h39
      have HL_40 := Lib.hid h40
      have HL_52 := Lib.hid h52
      have HL_53 := Lib.hid h53
      clear hl h39 h40 h52 h53
      go_enter Try.func63, Try.ntmps63
      have p52_w : w.cell? ⟨G, o + 52, none⟩ = some (.bool false) := (hP_w.cell (j := 52) (by decide)).trans HL_52.out
      have p53_w : w.cell? ⟨G, o + 53, none⟩ = some (.bool false) := (hP_w.cell (j := 53) (by decide)).trans HL_53.out
      replace hP_w : Pv w G o (L.set 39 (.bool x39)) := by
        rw [set_id HL_39.out]
        exact hP_w
      go_wp2_with fail
      replace hP_w : Pv w G o ((L.set 39 (.bool x39)).set 40 (.bool x40)) := by
        rw [set_id ((get_ne (by decide)).trans HL_40.out)]
        exact hP_w
      first
        | go_end0
        | (simp only [Exit.inBlock, Exit.then]; refine bodyPost_ret (results_none rfl _ _ _) rfl ?_)
        | refine bodyPost_ret (results_none rfl _ _ _) rfl ?_
      exact ⟨rfl, hP_w, Pm.refl _ _ _⟩
    · simp only [Bool.or_false, Bool.or_true]
      have hG := hP_w.lt
      have HLEN := Lib.hid hl
      have HL_39 := Lib.hid h39
      have HL_40 := Lib.hid h40
      have HL_52 := Lib.hid h52
      have HL_53 := Lib.hid h53
      clear hl h39 h40 h52 h53
      go_enter Try.func63, Try.ntmps63
      have p52_w : w.cell? ⟨G, o + 52, none⟩ = some (.bool false) := (hP_w.cell (j := 52) (by decide)).trans HL_52.out
      have p53_w : w.cell? ⟨G, o + 53, none⟩ = some (.bool true) := (hP_w.cell (j := 53) (by decide)).trans HL_53.out
      replace hP_w : Pv w G o (L.set 39 (.bool x39)) := by
        rw [set_id HL_39.out]
        exact hP_w
      go_wp2_with (first
        | fail
        | ((with_reducible refine at_store 4 ?_); refine st_pv rfl rfl 4 _ _ rfl G o 40 _ hP_w _ #[.bool true] rfl rfl rfl (by exact (by decide : 40 + 1 ≤ 89)) (by kernel_rfl) rfl ?_
           intro z1 hp hm
           replace hp := pv_one hp (len_set' HLEN.out) (by decide)
           have hP_z1 := hp
           have E_z1 : Pm G o w z1 := hm
           clear hP_w p52_w p53_w
           clear hp hm))
      first
        | go_end0
        | (simp only [Exit.inBlock, Exit.then]; refine bodyPost_ret (results_none rfl _ _ _) rfl ?_)
        | refine bodyPost_ret (results_none rfl _ _ _) rfl ?_
      exact ⟨rfl, hP_z1, E_z1⟩
  · cases x53
    · simp only [Bool.or_false, Bool.or_true]
      have hG := hP_w.lt
      have HLEN := Lib.hid hl
      have HL_39 := Lib.hid h39
      have HL_40 := Lib.hid h40
      have HL_52 := Lib.hid h52
      have HL_53 := Lib.hid h53
      clear hl h39 h40 h52 h53
      go_enter Try.func63, Try.ntmps63
      have p52_w : w.cell? ⟨G, o + 52, none⟩ = some (.bool true) := (hP_w.cell (j := 52) (by decide)).trans HL_52.out
      have p53_w : w.cell? ⟨G, o + 53, none⟩ = some (.bool false) := (hP_w.cell (j := 53) (by decide)).trans HL_53.out
      go_wp2_with (first
        | fail
        | ((with_reducible refine at_store 4 ?_); refine st_pv rfl rfl 4 _ _ rfl G o 39 _ hP_w _ #[.bool true] rfl rfl rfl (by exact (by decide : 39 + 1 ≤ 89)) (by kernel_rfl) rfl ?_
           intro z1 hp hm
           replace hp := pv_one hp HLEN.out (by decide)
           have hP_z1 := hp
           have E_z1 : Pm G o w z1 := hm
           have p53_z1 : z1.cell? ⟨G, o + 53, none⟩ = some (.bool false) := (hP_z1.cell (j := 53) (by decide)).trans ((get_ne (by decide)).trans HL_53.out)
           clear hP_w p52_w p53_w
           clear hp hm))
      replace hP_z1 : Pv z1 G o ((L.set 39 (.bool true)).set 40 (.bool x40)) := by
        rw [set_id ((get_ne (by decide)).trans HL_40.out)]
        exact hP_z1
      first
        | go_end0
        | (simp only [Exit.inBlock, Exit.then]; refine bodyPost_ret (results_none rfl _ _ _) rfl ?_)
        | refine bodyPost_ret (results_none rfl _ _ _) rfl ?_
      exact ⟨rfl, hP_z1, E_z1⟩
    · simp only [Bool.or_true]
      have hG := hP_w.lt
      have HLEN := Lib.hid hl
      have HL_39 := Lib.hid h39
      have HL_40 := Lib.hid h40
      have HL_52 := Lib.hid h52
      have HL_53 := Lib.hid h53
      clear hl h39 h40 h52 h53
      go_enter Try.func63, Try.ntmps63
      have p52_w : w.cell? ⟨G, o + 52, none⟩ = some (.bool true) := (hP_w.cell (j := 52) (by decide)).trans HL_52.out
      have p53_w : w.cell? ⟨G, o + 53, none⟩ = some (.bool true) := (hP_w.cell (j := 53) (by decide)).trans HL_53.out
      go_wp2_with (first
        | fail
        | ((with_reducible refine at_store 4 ?_); refine st_pv rfl rfl 4 _ _ rfl G o 39 _ hP_w _ #[.bool true] rfl rfl rfl (by exact (by decide : 39 + 1 ≤ 89)) (by kernel_rfl) rfl ?_
           intro z1 hp hm
           replace hp := pv_one hp HLEN.out (by decide)
           have hP_z1 := hp
           have E_z1 : Pm G o w z1 := hm
           have p53_z1 : z1.cell? ⟨G, o + 53, none⟩ = some (.bool true) := (hP_z1.cell (j := 53) (by decide)).trans ((get_ne (by decide)).trans HL_53.out)
           clear hP_w p52_w p53_w
           clear hp hm)
        | ((with_reducible refine at_store 4 ?_); refine st_pv rfl rfl 4 _ _ rfl G o 40 _ hP_z1 _ #[.bool true] rfl rfl rfl (by exact (by decide : 40 + 1 ≤ 89)) (by kernel_rfl) rfl ?_
           intro z2 hp hm
           replace hp := pv_one hp (len_set' HLEN.out) (by decide)
           have hP_z2 := hp
           have E_z2 : Pm G o w z2 := E_z1.trans hm
           clear hP_z1 E_z1 p53_z1
           clear hp hm))
      first
        | go_end0
        | (simp only [Exit.inBlock, Exit.then]; refine bodyPost_ret (results_none rfl _ _ _) rfl ?_)
        | refine bodyPost_ret (results_none rfl _ _ _) rfl ?_
      exact ⟨rfl, hP_z2, E_z2⟩
set_option maxRecDepth 100000 in
set_option maxHeartbeats 1000000 in
theorem dnoted {w : World} (G o : Nat) (L : List Value) (hP_w : Pv w G o L) (hl : L.length = 89) (x39 : Bool) (h39 : L[39]? = some (.bool x39)) (x40 : Bool) (h40 : L[40]? = some (.bool x40)) (x51 : Int) (h51 : L[51]? = some (.int .i64 x51)) (x52 : Bool) (h52 : L[52]? = some (.bool x52)) (x53 : Bool) (h53 : L[53]? = some (.bool x53)) (x54 : Bool) (h54 : L[54]? = some (.bool x54)) (x58 : Int) (h58 : L[58]? = some (.int .i64 x58)) : Calls Try.prog 61 #[.pointer (some ⟨G, o, none⟩)] w fun e w' => e = .returned (.tuple #[]) ∧ Pv w' G o (ichg (x39 || x52) (x40 || x53) (iprop ((x51 == 2) && (x58 == 4) && x54) L)) ∧ Pm G o w w' := by
  by_cases e51 : x51 = 2
  · subst e51
    by_cases e58 : x58 = 4
    · subst e58
      cases x54
      · refine res_pv (L1 := ichg (x39 || x52) (x40 || x53) L) ?_ rfl
        have hG := hP_w.lt
        have HLEN := Lib.hid hl
        have HL_39 := Lib.hid h39
        have HL_40 := Lib.hid h40
        have HL_51 := Lib.hid h51
        have HL_52 := Lib.hid h52
        have HL_53 := Lib.hid h53
        have HL_54 := Lib.hid h54
        have HL_58 := Lib.hid h58
        clear hl h39 h40 h51 h52 h53 h54 h58
        go_enter Try.func61, Try.ntmps61
        have p51_w : w.cell? ⟨G, o + 51, none⟩ = some (.int .i64 2) := (hP_w.cell (j := 51) (by decide)).trans HL_51.out
        have p54_w : w.cell? ⟨G, o + 54, none⟩ = some (.bool false) := (hP_w.cell (j := 54) (by decide)).trans HL_54.out
        have p58_w : w.cell? ⟨G, o + 58, none⟩ = some (.int .i64 4) := (hP_w.cell (j := 58) (by decide)).trans HL_58.out
        go_wp2_with fail
        refine (dchanges G o _ hP_w HLEN.out _ HL_39.out _ HL_40.out _ HL_52.out _ HL_53.out).mono ?_
        rintro e z1 ⟨rfl, hp, hm⟩
        have hP_z1 : Pv z1 G o ((L.set 39 (.bool (x39 || x52))).set 40 (.bool (x40 || x53))) := hp
        have E_z1 : Pm G o w z1 := hm
        clear hP_w p51_w p54_w p58_w
        clear hp hm
        go_wp2_with fail
        first
          | go_end0
          | (simp only [Exit.inBlock, Exit.then]; refine bodyPost_ret (results_none rfl _ _ _) rfl ?_)
          | refine bodyPost_ret (results_none rfl _ _ _) rfl ?_
        exact ⟨rfl, hP_z1, E_z1⟩
      · refine res_pv (L1 := ichg (x39 || x52) (x40 || x53) (L.set 33 (.bool true))) ?_ rfl
        have hG := hP_w.lt
        have HLEN := Lib.hid hl
        have HL_39 := Lib.hid h39
        have HL_40 := Lib.hid h40
        have HL_51 := Lib.hid h51
        have HL_52 := Lib.hid h52
        have HL_53 := Lib.hid h53
        have HL_54 := Lib.hid h54
        have HL_58 := Lib.hid h58
        clear hl h39 h40 h51 h52 h53 h54 h58
        go_enter Try.func61, Try.ntmps61
        have p51_w : w.cell? ⟨G, o + 51, none⟩ = some (.int .i64 2) := (hP_w.cell (j := 51) (by decide)).trans HL_51.out
        have p54_w : w.cell? ⟨G, o + 54, none⟩ = some (.bool true) := (hP_w.cell (j := 54) (by decide)).trans HL_54.out
        have p58_w : w.cell? ⟨G, o + 58, none⟩ = some (.int .i64 4) := (hP_w.cell (j := 58) (by decide)).trans HL_58.out
        go_wp2_with (first
          | fail
          | ((with_reducible refine at_store 4 ?_); refine st_pv rfl rfl 4 _ _ rfl G o 33 _ hP_w _ #[.bool true] rfl rfl rfl (by exact (by decide : 33 + 1 ≤ 89)) (by kernel_rfl) rfl ?_
             intro z1 hp hm
             replace hp := pv_one hp HLEN.out (by decide)
             have hP_z1 := hp
             have E_z1 : Pm G o w z1 := hm
             clear hP_w p51_w p54_w p58_w
             clear hp hm))
        refine (dchanges G o _ hP_z1 (len_set' HLEN.out) _ ((get_ne (by decide)).trans HL_39.out) _ ((get_ne (by decide)).trans HL_40.out) _ ((get_ne (by decide)).trans HL_52.out) _ ((get_ne (by decide)).trans HL_53.out)).mono ?_
        rintro e z2 ⟨rfl, hp, hm⟩
        have hP_z2 : Pv z2 G o (((L.set 33 (.bool true)).set 39 (.bool (x39 || x52))).set 40 (.bool (x40 || x53))) := hp
        have E_z2 : Pm G o w z2 := E_z1.trans hm
        clear hP_z1 E_z1
        clear hp hm
        go_wp2_with fail
        first
          | go_end0
          | (simp only [Exit.inBlock, Exit.then]; refine bodyPost_ret (results_none rfl _ _ _) rfl ?_)
          | refine bodyPost_ret (results_none rfl _ _ _) rfl ?_
        exact ⟨rfl, hP_z2, E_z2⟩
    · refine res_pv (L1 := ichg (x39 || x52) (x40 || x53) L) ?_ (by rw [ne_b e58]; cases x54 <;> rfl)
      have c4 : (x58 == 4) = false := by simpa using e58
      clear e58
      have hG := hP_w.lt
      have HLEN := Lib.hid hl
      have HL_39 := Lib.hid h39
      have HL_40 := Lib.hid h40
      have HL_51 := Lib.hid h51
      have HL_52 := Lib.hid h52
      have HL_53 := Lib.hid h53
      have HL_54 := Lib.hid h54
      have HL_58 := Lib.hid h58
      clear hl h39 h40 h51 h52 h53 h54 h58
      go_enter Try.func61, Try.ntmps61
      have p51_w : w.cell? ⟨G, o + 51, none⟩ = some (.int .i64 2) := (hP_w.cell (j := 51) (by decide)).trans HL_51.out
      have p54_w : w.cell? ⟨G, o + 54, none⟩ = some (.bool x54) := (hP_w.cell (j := 54) (by decide)).trans HL_54.out
      have p58_w : w.cell? ⟨G, o + 58, none⟩ = some (.int .i64 x58) := (hP_w.cell (j := 58) (by decide)).trans HL_58.out
      go_wp2_with fail
      refine (dchanges G o _ hP_w HLEN.out _ HL_39.out _ HL_40.out _ HL_52.out _ HL_53.out).mono ?_
      rintro e z1 ⟨rfl, hp, hm⟩
      have hP_z1 : Pv z1 G o ((L.set 39 (.bool (x39 || x52))).set 40 (.bool (x40 || x53))) := hp
      have E_z1 : Pm G o w z1 := hm
      clear hP_w p51_w p54_w p58_w
      clear hp hm
      go_wp2_with fail
      first
        | go_end0
        | (simp only [Exit.inBlock, Exit.then]; refine bodyPost_ret (results_none rfl _ _ _) rfl ?_)
        | refine bodyPost_ret (results_none rfl _ _ _) rfl ?_
      exact ⟨rfl, hP_z1, E_z1⟩
  · refine res_pv (L1 := ichg (x39 || x52) (x40 || x53) L) ?_ (by rw [ne_b e51]; rfl)
    have c2 : (x51 == 2) = false := by simpa using e51
    clear e51
    have hG := hP_w.lt
    have HLEN := Lib.hid hl
    have HL_39 := Lib.hid h39
    have HL_40 := Lib.hid h40
    have HL_51 := Lib.hid h51
    have HL_52 := Lib.hid h52
    have HL_53 := Lib.hid h53
    have HL_54 := Lib.hid h54
    have HL_58 := Lib.hid h58
    clear hl h39 h40 h51 h52 h53 h54 h58
    go_enter Try.func61, Try.ntmps61
    have p51_w : w.cell? ⟨G, o + 51, none⟩ = some (.int .i64 x51) := (hP_w.cell (j := 51) (by decide)).trans HL_51.out
    have p54_w : w.cell? ⟨G, o + 54, none⟩ = some (.bool x54) := (hP_w.cell (j := 54) (by decide)).trans HL_54.out
    have p58_w : w.cell? ⟨G, o + 58, none⟩ = some (.int .i64 x58) := (hP_w.cell (j := 58) (by decide)).trans HL_58.out
    go_wp2_with fail
    refine (dchanges G o _ hP_w HLEN.out _ HL_39.out _ HL_40.out _ HL_52.out _ HL_53.out).mono ?_
    rintro e z1 ⟨rfl, hp, hm⟩
    have hP_z1 : Pv z1 G o ((L.set 39 (.bool (x39 || x52))).set 40 (.bool (x40 || x53))) := hp
    have E_z1 : Pm G o w z1 := hm
    clear hP_w p51_w p54_w p58_w
    clear hp hm
    go_wp2_with fail
    first
      | go_end0
      | (simp only [Exit.inBlock, Exit.then]; refine bodyPost_ret (results_none rfl _ _ _) rfl ?_)
      | refine bodyPost_ret (results_none rfl _ _ _) rfl ?_
    exact ⟨rfl, hP_z1, E_z1⟩
set_option maxRecDepth 100000 in
set_option maxHeartbeats 1000000 in
theorem dupdate {w : World} (G o : Nat) (L : List Value) (hP_w : Pv w G o L) (hl : L.length = 89) (x23 : Bool) (h23 : L[23]? = some (.bool x23)) (x47 : Bool) (h47 : L[47]? = some (.bool x47)) (x68 : Int) (h68 : L[68]? = some (.int .u64 x68)) (x69 : Int) (h69 : L[69]? = some (.int .u32 x69)) (x70 : Int) (h70 : L[70]? = some (.int .u64 x70)) (x71 : Int) (h71 : L[71]? = some (.int .u16 x71)) (x72 : Int) (h72 : L[72]? = some (.int .u16 x72)) (x73 : Int) (h73 : L[73]? = some (.int .u64 x73)) (x74 : Int) (h74 : L[74]? = some (.int .u32 x74)) (x75 : Int) (h75 : L[75]? = some (.int .u64 x75)) (x76 : Int) (h76 : L[76]? = some (.int .u16 x76)) (x77 : Int) (h77 : L[77]? = some (.int .u16 x77)) (x82 : Int) (h82 : L[82]? = some (.int .i64 x82)) (x83 : Int) (h83 : L[83]? = some (.int .i64 x83)) (x84 : Int) (h84 : L[84]? = some (.int .i64 x84)) (x85 : Int) (h85 : L[85]? = some (.int .i64 x85)) (x86 : Int) (h86 : L[86]? = some (.int .i64 x86)) : Calls Try.prog 38 #[.pointer (some ⟨G, o, none⟩)] w fun e w' => e = .returned (.tuple #[]) ∧ Pv w' G o (iupd x23 x47 x86 (decide ((c4 x68 x69 x70 x71 x73 x74 x75 x76) < 0)) [.int .u64 x73, .int .u32 x74, .int .u64 x75, .int .u16 x76, .int .u16 x77] [.int .i64 x82, .int .i64 x83, .int .i64 x84, .int .i64 x85] L) ∧ Pm G o w w' := by
  obtain ⟨lu, hlu⟩ : ∃ b, (decide ((c4 x68 x69 x70 x71 x73 x74 x75 x76) < 0)) = b := ⟨_, rfl⟩
  rw [hlu]
  have HLU := Lib.hid hlu
  clear hlu
  by_cases e86 : x86 = 2
  · subst e86
    cases lu
    · cases x23
      · refine res_pv (L1 := iupd2 false false [.int .u64 x73, .int .u32 x74, .int .u64 x75, .int .u16 x76, .int .u16 x77] [.int .i64 x82, .int .i64 x83, .int .i64 x84, .int .i64 x85] L) ?_ (by unfold iupd; simp)
        unfold iupd2
        have hG := hP_w.lt
        have HLEN := Lib.hid hl
        have HL_23 := Lib.hid h23
        have HL_47 := Lib.hid h47
        have HL_68 := Lib.hid h68
        have HL_69 := Lib.hid h69
        have HL_70 := Lib.hid h70
        have HL_71 := Lib.hid h71
        have HL_72 := Lib.hid h72
        have HL_73 := Lib.hid h73
        have HL_74 := Lib.hid h74
        have HL_75 := Lib.hid h75
        have HL_76 := Lib.hid h76
        have HL_77 := Lib.hid h77
        have HL_82 := Lib.hid h82
        have HL_83 := Lib.hid h83
        have HL_84 := Lib.hid h84
        have HL_85 := Lib.hid h85
        have HL_86 := Lib.hid h86
        have HS_68 := Lib.hid (seg_of (L := L) (j := 68) (l := [.int .u64 x68, .int .u32 x69, .int .u64 x70, .int .u16 x71, .int .u16 x72]) (by rw [hl]; exact (by decide : 68 + 5 ≤ 89)) (fun i hi => by
          match i, hi with
          | 0, _ => exact HL_68.out
          | 1, _ => exact HL_69.out
          | 2, _ => exact HL_70.out
          | 3, _ => exact HL_71.out
          | 4, _ => exact HL_72.out
          | i + 5, hi => simp at hi; omega))
        have HS_73 := Lib.hid (seg_of (L := L) (j := 73) (l := [.int .u64 x73, .int .u32 x74, .int .u64 x75, .int .u16 x76, .int .u16 x77]) (by rw [hl]; exact (by decide : 73 + 5 ≤ 89)) (fun i hi => by
          match i, hi with
          | 0, _ => exact HL_73.out
          | 1, _ => exact HL_74.out
          | 2, _ => exact HL_75.out
          | 3, _ => exact HL_76.out
          | 4, _ => exact HL_77.out
          | i + 5, hi => simp at hi; omega))
        have HS_82 := Lib.hid (seg_of (L := L) (j := 82) (l := [.int .i64 x82, .int .i64 x83, .int .i64 x84, .int .i64 x85]) (by rw [hl]; exact (by decide : 82 + 4 ≤ 89)) (fun i hi => by
          match i, hi with
          | 0, _ => exact HL_82.out
          | 1, _ => exact HL_83.out
          | 2, _ => exact HL_84.out
          | 3, _ => exact HL_85.out
          | i + 4, hi => simp at hi; omega))
        clear hl h23 h47 h68 h69 h70 h71 h72 h73 h74 h75 h76 h77 h82 h83 h84 h85 h86
        go_enter Try.func38, Try.ntmps38
        go_wp2_with (first
          | fail
          | ((with_reducible refine at_store 4 ?_); refine st_pv rfl rfl 4 _ _ rfl G o 34 _ hP_w _ #[.bool false] rfl rfl rfl (by exact (by decide : 34 + 1 ≤ 89)) (by kernel_rfl) rfl ?_
             intro z1 hp hm
             replace hp := pv_one hp HLEN.out (by decide)
             have hP_z1 := hp
             have E_z1 : Pm G o w z1 := hm
             clear hP_w
             clear hp hm)
          | ((with_reducible refine at_store 4 ?_); refine st_pv rfl rfl 4 _ _ rfl G o 33 _ hP_z1 _ #[.bool false] rfl rfl rfl (by exact (by decide : 33 + 1 ≤ 89)) (by kernel_rfl) rfl ?_
             intro z2 hp hm
             replace hp := pv_one hp (len_set' HLEN.out) (by decide)
             have hP_z2 := hp
             have E_z2 : Pm G o w z2 := E_z1.trans hm
             clear hP_z1 E_z1
             clear hp hm))
        refine beginL (S := fun W' => Ext z2 W') (by kernel_rfl) ?_
        intro wd hqx
        have hq0 : Ext z2 wd := hqx
        refine tLp 0 ((.pointer (some ⟨G, o, none⟩))) rfl hq0 ?_
        simp only [ps]
        refine tLp 1 ((.pointer (some ⟨G, o, none⟩))) rfl hq0 ?_
        simp only [ps]
        refine tLp 2 ((.pointer (some ⟨G, o + 68, none⟩))) rfl hq0 ?_
        simp only [ps]
        refine tL 3 (_) rfl (yieldsIf_load_mid rfl 28 _ rfl G (o + 68) rfl ([.int .u64 x68, .int .u32 x69, .int .u64 x70, .int .u16 x71, .int .u16 x72]) _ (fun W' hW' => (hP_z2.ext hW').range (j := 68) (n := 5) ((seg_ne (by decide)).trans ((seg_ne (by decide)).trans HS_68.out)) (by decide)) Try.underlying28 rfl (by kernel_rfl)) hq0 ?_
        simp only [ps]
        refine tLp 4 ((.pointer (some ⟨G, o, none⟩))) rfl hq0 ?_
        simp only [ps]
        refine tLp 5 ((.pointer (some ⟨G, o, none⟩))) rfl hq0 ?_
        simp only [ps]
        refine tLp 6 ((.pointer (some ⟨G, o + 73, none⟩))) rfl hq0 ?_
        simp only [ps]
        refine tL 7 (_) rfl (yieldsIf_load_mid rfl 28 _ rfl G (o + 73) rfl ([.int .u64 x73, .int .u32 x74, .int .u64 x75, .int .u16 x76, .int .u16 x77]) _ (fun W' hW' => (hP_z2.ext hW').range (j := 73) (n := 5) ((seg_ne (by decide)).trans ((seg_ne (by decide)).trans HS_73.out)) (by decide)) Try.underlying28 rfl (by kernel_rfl)) hq0 ?_
        simp only [ps]
        refine runL (i := 8) rfl rfl (by kernel_rfl) (fun K hK => ?_)
        go_simp
        refine (asb (ref_less _ _ _ _ _ _ _ _ _ _ _) HLU.out).mono ?_
        rintro e wc1 ⟨rfl, hx⟩
        have hq1 := hq0.trans hx
        refine hK.out _ _ hq1 (fun hHeld => ?_)
        try simp only [ps]
        clear hK K hHeld
        refine tLp 9 ((.bool false)) rfl hq1 ?_
        simp only [ps]
        refine wpAnyH_done (by kernel_rfl) ?_ _
        generalize wc1 = z3 at *
        have hP_z3 : Pv z3 G o ((L.set 34 (.bool false)).set 33 (.bool false)) := hP_z2.ext hq1
        have E_z3 : Pm G o w z3 := E_z2.ext hq1
        have p86_z3 : z3.cell? ⟨G, o + 86, none⟩ = some (.int .i64 2) := (hP_z3.cell (j := 86) (by decide)).trans ((get_ne (by decide)).trans ((get_ne (by decide)).trans HL_86.out))
        have p23_z3 : z3.cell? ⟨G, o + 23, none⟩ = some (.bool false) := (hP_z3.cell (j := 23) (by decide)).trans ((get_ne (by decide)).trans ((get_ne (by decide)).trans HL_23.out))
        clear hP_z2 E_z2
        clear hq0 hq1
        replace hP_z3 : Pv z3 G o (((L.set 34 (.bool false)).set 33 (.bool false)).set 23 (.bool false)) := by
          rw [set_id ((get_ne (by decide)).trans ((get_ne (by decide)).trans HL_23.out))]
          exact hP_z3
        go_wp2_with (first
          | fail
          | ((with_reducible refine at_store 4 ?_); refine st_pv rfl rfl 4 _ _ rfl G o 47 _ hP_z3 _ #[.bool false] rfl rfl rfl (by exact (by decide : 47 + 1 ≤ 89)) (by kernel_rfl) rfl ?_
             intro z4 hp hm
             replace hp := pv_one hp (len_set' (len_set' (len_set' HLEN.out))) (by decide)
             have hP_z4 := hp
             have E_z4 : Pm G o w z4 := E_z3.trans hm
             clear hP_z3 E_z3 p86_z3 p23_z3
             clear hp hm)
          | ((with_reducible refine at_load 28 ?_); refine wpList_load_mid rfl 28 _ rfl G (o + 73) rfl [.int .u64 x73, .int .u32 x74, .int .u64 x75, .int .u16 x76, .int .u16 x77] _ (hP_z4.range (j := 73) (n := 5) ((seg_ne (by decide)).trans ((seg_ne (by decide)).trans ((seg_ne (by decide)).trans ((seg_ne (by decide)).trans HS_73.out)))) (by decide)) Try.underlying28 rfl (by kernel_rfl) ?_)
          | ((with_reducible refine at_store 28 ?_); refine st_pv rfl rfl 28 _ _ rfl G o 68 _ hP_z4 _ #[.int .u64 x73, .int .u32 x74, .int .u64 x75, .int .u16 x76, .int .u16 x77] rfl rfl rfl (by exact (by decide : 68 + 5 ≤ 89)) (by kernel_rfl) rfl ?_
             intro z5 hp hm
             have hP_z5 : Pv z5 G o (setL ((((L.set 34 (.bool false)).set 33 (.bool false)).set 23 (.bool false)).set 47 (.bool false)) 68 [.int .u64 x73, .int .u32 x74, .int .u64 x75, .int .u16 x76, .int .u16 x77]) := hp
             have E_z5 : Pm G o w z5 := E_z4.trans hm
             clear hP_z4 E_z4
             clear hp hm)
          | ((with_reducible refine at_load 24 ?_); refine wpList_load_mid rfl 24 _ rfl G (o + 82) rfl [.int .i64 x82, .int .i64 x83, .int .i64 x84, .int .i64 x85] _ (hP_z5.range (j := 82) (n := 4) ((seg_out (len_set' (len_set' (len_set' (len_set' HLEN.out)))) (by exact (by decide : 68 + 5 ≤ 89)) (by exact (by decide : 68 + 5 ≤ 82 ∨ 82 + 4 ≤ 68))).trans ((seg_ne (by decide)).trans ((seg_ne (by decide)).trans ((seg_ne (by decide)).trans ((seg_ne (by decide)).trans HS_82.out))))) (by decide)) Try.underlying24 rfl (by kernel_rfl) ?_)
          | ((with_reducible refine at_store 24 ?_); refine st_pv rfl rfl 24 _ _ rfl G o 78 _ hP_z5 _ #[.int .i64 x82, .int .i64 x83, .int .i64 x84, .int .i64 x85] rfl rfl rfl (by exact (by decide : 78 + 4 ≤ 89)) (by kernel_rfl) rfl ?_
             intro z6 hp hm
             have hP_z6 : Pv z6 G o (setL (setL ((((L.set 34 (.bool false)).set 33 (.bool false)).set 23 (.bool false)).set 47 (.bool false)) 68 [.int .u64 x73, .int .u32 x74, .int .u64 x75, .int .u16 x76, .int .u16 x77]) 78 [.int .i64 x82, .int .i64 x83, .int .i64 x84, .int .i64 x85]) := hp
             have E_z6 : Pm G o w z6 := E_z5.trans hm
             clear hP_z5 E_z5
             clear hp hm)
          | ((with_reducible refine at_store 4 ?_); refine st_pv rfl rfl 4 _ _ rfl G o 50 _ hP_z6 _ #[.bool false] rfl rfl rfl (by exact (by decide : 50 + 1 ≤ 89)) (by kernel_rfl) rfl ?_
             intro z7 hp hm
             replace hp := pv_one hp (len_setL (len_setL (len_set' (len_set' (len_set' (len_set' HLEN.out)))) (by exact (by decide : 68 + 5 ≤ 89))) (by exact (by decide : 78 + 4 ≤ 89))) (by decide)
             have hP_z7 := hp
             have E_z7 : Pm G o w z7 := E_z6.trans hm
             clear hP_z6 E_z6
             clear hp hm)
          | ((with_reducible refine at_store 3 ?_); refine st_pv rfl rfl 3 _ _ rfl G o 86 _ hP_z7 _ #[.int .i64 2] rfl rfl rfl (by exact (by decide : 86 + 1 ≤ 89)) (by kernel_rfl) rfl ?_
             intro z8 hp hm
             replace hp := pv_one hp (len_set' (len_setL (len_setL (len_set' (len_set' (len_set' (len_set' HLEN.out)))) (by exact (by decide : 68 + 5 ≤ 89))) (by exact (by decide : 78 + 4 ≤ 89)))) (by decide)
             have hP_z8 := hp
             have E_z8 : Pm G o w z8 := E_z7.trans hm
             clear hP_z7 E_z7
             clear hp hm)
          | ((with_reducible refine at_store 4 ?_); refine st_pv rfl rfl 4 _ _ rfl G o 31 _ hP_z8 _ #[.bool true] rfl rfl rfl (by exact (by decide : 31 + 1 ≤ 89)) (by kernel_rfl) rfl ?_
             intro z9 hp hm
             replace hp := pv_one hp (len_set' (len_set' (len_setL (len_setL (len_set' (len_set' (len_set' (len_set' HLEN.out)))) (by exact (by decide : 68 + 5 ≤ 89))) (by exact (by decide : 78 + 4 ≤ 89))))) (by decide)
             have hP_z9 := hp
             have E_z9 : Pm G o w z9 := E_z8.trans hm
             clear hP_z8 E_z8
             clear hp hm)
          | ((with_reducible refine at_store 3 ?_); refine st_pv rfl rfl 3 _ _ rfl G o 18 _ hP_z9 _ #[.int .i64 2] rfl rfl rfl (by exact (by decide : 18 + 1 ≤ 89)) (by kernel_rfl) rfl ?_
             intro z10 hp hm
             replace hp := pv_one hp (len_set' (len_set' (len_set' (len_setL (len_setL (len_set' (len_set' (len_set' (len_set' HLEN.out)))) (by exact (by decide : 68 + 5 ≤ 89))) (by exact (by decide : 78 + 4 ≤ 89)))))) (by decide)
             have hP_z10 := hp
             have E_z10 : Pm G o w z10 := E_z9.trans hm
             clear hP_z9 E_z9
             clear hp hm))
        first
          | go_end0
          | (simp only [Exit.inBlock, Exit.then]; refine bodyPost_ret (results_none rfl _ _ _) rfl ?_)
          | refine bodyPost_ret (results_none rfl _ _ _) rfl ?_
        exact ⟨rfl, hP_z10, E_z10⟩
      · refine res_pv (L1 := iupd2 true x47 [.int .u64 x73, .int .u32 x74, .int .u64 x75, .int .u16 x76, .int .u16 x77] [.int .i64 x82, .int .i64 x83, .int .i64 x84, .int .i64 x85] L) ?_ (by unfold iupd; simp)
        unfold iupd2
        have hG := hP_w.lt
        have HLEN := Lib.hid hl
        have HL_23 := Lib.hid h23
        have HL_47 := Lib.hid h47
        have HL_68 := Lib.hid h68
        have HL_69 := Lib.hid h69
        have HL_70 := Lib.hid h70
        have HL_71 := Lib.hid h71
        have HL_72 := Lib.hid h72
        have HL_73 := Lib.hid h73
        have HL_74 := Lib.hid h74
        have HL_75 := Lib.hid h75
        have HL_76 := Lib.hid h76
        have HL_77 := Lib.hid h77
        have HL_82 := Lib.hid h82
        have HL_83 := Lib.hid h83
        have HL_84 := Lib.hid h84
        have HL_85 := Lib.hid h85
        have HL_86 := Lib.hid h86
        have HS_68 := Lib.hid (seg_of (L := L) (j := 68) (l := [.int .u64 x68, .int .u32 x69, .int .u64 x70, .int .u16 x71, .int .u16 x72]) (by rw [hl]; exact (by decide : 68 + 5 ≤ 89)) (fun i hi => by
          match i, hi with
          | 0, _ => exact HL_68.out
          | 1, _ => exact HL_69.out
          | 2, _ => exact HL_70.out
          | 3, _ => exact HL_71.out
          | 4, _ => exact HL_72.out
          | i + 5, hi => simp at hi; omega))
        have HS_73 := Lib.hid (seg_of (L := L) (j := 73) (l := [.int .u64 x73, .int .u32 x74, .int .u64 x75, .int .u16 x76, .int .u16 x77]) (by rw [hl]; exact (by decide : 73 + 5 ≤ 89)) (fun i hi => by
          match i, hi with
          | 0, _ => exact HL_73.out
          | 1, _ => exact HL_74.out
          | 2, _ => exact HL_75.out
          | 3, _ => exact HL_76.out
          | 4, _ => exact HL_77.out
          | i + 5, hi => simp at hi; omega))
        have HS_82 := Lib.hid (seg_of (L := L) (j := 82) (l := [.int .i64 x82, .int .i64 x83, .int .i64 x84, .int .i64 x85]) (by rw [hl]; exact (by decide : 82 + 4 ≤ 89)) (fun i hi => by
          match i, hi with
          | 0, _ => exact HL_82.out
          | 1, _ => exact HL_83.out
          | 2, _ => exact HL_84.out
          | 3, _ => exact HL_85.out
          | i + 4, hi => simp at hi; omega))
        clear hl h23 h47 h68 h69 h70 h71 h72 h73 h74 h75 h76 h77 h82 h83 h84 h85 h86
        go_enter Try.func38, Try.ntmps38
        go_wp2_with (first
          | fail
          | ((with_reducible refine at_store 4 ?_); refine st_pv rfl rfl 4 _ _ rfl G o 34 _ hP_w _ #[.bool false] rfl rfl rfl (by exact (by decide : 34 + 1 ≤ 89)) (by kernel_rfl) rfl ?_
             intro z1 hp hm
             replace hp := pv_one hp HLEN.out (by decide)
             have hP_z1 := hp
             have E_z1 : Pm G o w z1 := hm
             clear hP_w
             clear hp hm)
          | ((with_reducible refine at_store 4 ?_); refine st_pv rfl rfl 4 _ _ rfl G o 33 _ hP_z1 _ #[.bool false] rfl rfl rfl (by exact (by decide : 33 + 1 ≤ 89)) (by kernel_rfl) rfl ?_
             intro z2 hp hm
             replace hp := pv_one hp (len_set' HLEN.out) (by decide)
             have hP_z2 := hp
             have E_z2 : Pm G o w z2 := E_z1.trans hm
             clear hP_z1 E_z1
             clear hp hm))
        refine beginL (S := fun W' => Ext z2 W') (by kernel_rfl) ?_
        intro wd hqx
        have hq0 : Ext z2 wd := hqx
        refine tLp 0 ((.pointer (some ⟨G, o, none⟩))) rfl hq0 ?_
        simp only [ps]
        refine tLp 1 ((.pointer (some ⟨G, o, none⟩))) rfl hq0 ?_
        simp only [ps]
        refine tLp 2 ((.pointer (some ⟨G, o + 68, none⟩))) rfl hq0 ?_
        simp only [ps]
        refine tL 3 (_) rfl (yieldsIf_load_mid rfl 28 _ rfl G (o + 68) rfl ([.int .u64 x68, .int .u32 x69, .int .u64 x70, .int .u16 x71, .int .u16 x72]) _ (fun W' hW' => (hP_z2.ext hW').range (j := 68) (n := 5) ((seg_ne (by decide)).trans ((seg_ne (by decide)).trans HS_68.out)) (by decide)) Try.underlying28 rfl (by kernel_rfl)) hq0 ?_
        simp only [ps]
        refine tLp 4 ((.pointer (some ⟨G, o, none⟩))) rfl hq0 ?_
        simp only [ps]
        refine tLp 5 ((.pointer (some ⟨G, o, none⟩))) rfl hq0 ?_
        simp only [ps]
        refine tLp 6 ((.pointer (some ⟨G, o + 73, none⟩))) rfl hq0 ?_
        simp only [ps]
        refine tL 7 (_) rfl (yieldsIf_load_mid rfl 28 _ rfl G (o + 73) rfl ([.int .u64 x73, .int .u32 x74, .int .u64 x75, .int .u16 x76, .int .u16 x77]) _ (fun W' hW' => (hP_z2.ext hW').range (j := 73) (n := 5) ((seg_ne (by decide)).trans ((seg_ne (by decide)).trans HS_73.out)) (by decide)) Try.underlying28 rfl (by kernel_rfl)) hq0 ?_
        simp only [ps]
        refine runL (i := 8) rfl rfl (by kernel_rfl) (fun K hK => ?_)
        go_simp
        refine (asb (ref_less _ _ _ _ _ _ _ _ _ _ _) HLU.out).mono ?_
        rintro e wc1 ⟨rfl, hx⟩
        have hq1 := hq0.trans hx
        refine hK.out _ _ hq1 (fun hHeld => ?_)
        try simp only [ps]
        clear hK K hHeld
        refine tLp 9 ((.bool false)) rfl hq1 ?_
        simp only [ps]
        refine wpAnyH_done (by kernel_rfl) ?_ _
        generalize wc1 = z3 at *
        have hP_z3 : Pv z3 G o ((L.set 34 (.bool false)).set 33 (.bool false)) := hP_z2.ext hq1
        have E_z3 : Pm G o w z3 := E_z2.ext hq1
        have p86_z3 : z3.cell? ⟨G, o + 86, none⟩ = some (.int .i64 2) := (hP_z3.cell (j := 86) (by decide)).trans ((get_ne (by decide)).trans ((get_ne (by decide)).trans HL_86.out))
        have p23_z3 : z3.cell? ⟨G, o + 23, none⟩ = some (.bool true) := (hP_z3.cell (j := 23) (by decide)).trans ((get_ne (by decide)).trans ((get_ne (by decide)).trans HL_23.out))
        clear hP_z2 E_z2
        clear hq0 hq1
        replace hP_z3 : Pv z3 G o (((L.set 34 (.bool false)).set 33 (.bool false)).set 23 (.bool true)) := by
          rw [set_id ((get_ne (by decide)).trans ((get_ne (by decide)).trans HL_23.out))]
          exact hP_z3
        replace hP_z3 : Pv z3 G o ((((L.set 34 (.bool false)).set 33 (.bool false)).set 23 (.bool true)).set 47 (.bool x47)) := by
          rw [set_id ((get_ne (by decide)).trans ((get_ne (by decide)).trans ((get_ne (by decide)).trans HL_47.out)))]
          exact hP_z3
        go_wp2_with (first
          | fail
          | ((with_reducible refine at_load 28 ?_); refine wpList_load_mid rfl 28 _ rfl G (o + 73) rfl [.int .u64 x73, .int .u32 x74, .int .u64 x75, .int .u16 x76, .int .u16 x77] _ (hP_z3.range (j := 73) (n := 5) ((seg_ne (by decide)).trans ((seg_ne (by decide)).trans ((seg_ne (by decide)).trans ((seg_ne (by decide)).trans HS_73.out)))) (by decide)) Try.underlying28 rfl (by kernel_rfl) ?_)
          | ((with_reducible refine at_store 28 ?_); refine st_pv rfl rfl 28 _ _ rfl G o 68 _ hP_z3 _ #[.int .u64 x73, .int .u32 x74, .int .u64 x75, .int .u16 x76, .int .u16 x77] rfl rfl rfl (by exact (by decide : 68 + 5 ≤ 89)) (by kernel_rfl) rfl ?_
             intro z4 hp hm
             have hP_z4 : Pv z4 G o (setL ((((L.set 34 (.bool false)).set 33 (.bool false)).set 23 (.bool true)).set 47 (.bool x47)) 68 [.int .u64 x73, .int .u32 x74, .int .u64 x75, .int .u16 x76, .int .u16 x77]) := hp
             have E_z4 : Pm G o w z4 := E_z3.trans hm
             clear hP_z3 E_z3 p86_z3 p23_z3
             clear hp hm)
          | ((with_reducible refine at_load 24 ?_); refine wpList_load_mid rfl 24 _ rfl G (o + 82) rfl [.int .i64 x82, .int .i64 x83, .int .i64 x84, .int .i64 x85] _ (hP_z4.range (j := 82) (n := 4) ((seg_out (len_set' (len_set' (len_set' (len_set' HLEN.out)))) (by exact (by decide : 68 + 5 ≤ 89)) (by exact (by decide : 68 + 5 ≤ 82 ∨ 82 + 4 ≤ 68))).trans ((seg_ne (by decide)).trans ((seg_ne (by decide)).trans ((seg_ne (by decide)).trans ((seg_ne (by decide)).trans HS_82.out))))) (by decide)) Try.underlying24 rfl (by kernel_rfl) ?_)
          | ((with_reducible refine at_store 24 ?_); refine st_pv rfl rfl 24 _ _ rfl G o 78 _ hP_z4 _ #[.int .i64 x82, .int .i64 x83, .int .i64 x84, .int .i64 x85] rfl rfl rfl (by exact (by decide : 78 + 4 ≤ 89)) (by kernel_rfl) rfl ?_
             intro z5 hp hm
             have hP_z5 : Pv z5 G o (setL (setL ((((L.set 34 (.bool false)).set 33 (.bool false)).set 23 (.bool true)).set 47 (.bool x47)) 68 [.int .u64 x73, .int .u32 x74, .int .u64 x75, .int .u16 x76, .int .u16 x77]) 78 [.int .i64 x82, .int .i64 x83, .int .i64 x84, .int .i64 x85]) := hp
             have E_z5 : Pm G o w z5 := E_z4.trans hm
             clear hP_z4 E_z4
             clear hp hm)
          | ((with_reducible refine at_store 4 ?_); refine st_pv rfl rfl 4 _ _ rfl G o 50 _ hP_z5 _ #[.bool false] rfl rfl rfl (by exact (by decide : 50 + 1 ≤ 89)) (by kernel_rfl) rfl ?_
             intro z6 hp hm
             replace hp := pv_one hp (len_setL (len_setL (len_set' (len_set' (len_set' (len_set' HLEN.out)))) (by exact (by decide : 68 + 5 ≤ 89))) (by exact (by decide : 78 + 4 ≤ 89))) (by decide)
             have hP_z6 := hp
             have E_z6 : Pm G o w z6 := E_z5.trans hm
             clear hP_z5 E_z5
             clear hp hm)
          | ((with_reducible refine at_store 3 ?_); refine st_pv rfl rfl 3 _ _ rfl G o 86 _ hP_z6 _ #[.int .i64 2] rfl rfl rfl (by exact (by decide : 86 + 1 ≤ 89)) (by kernel_rfl) rfl ?_
             intro z7 hp hm
             replace hp := pv_one hp (len_set' (len_setL (len_setL (len_set' (len_set' (len_set' (len_set' HLEN.out)))) (by exact (by decide : 68 + 5 ≤ 89))) (by exact (by decide : 78 + 4 ≤ 89)))) (by decide)
             have hP_z7 := hp
             have E_z7 : Pm G o w z7 := E_z6.trans hm
             clear hP_z6 E_z6
             clear hp hm)
          | ((with_reducible refine at_store 4 ?_); refine st_pv rfl rfl 4 _ _ rfl G o 31 _ hP_z7 _ #[.bool true] rfl rfl rfl (by exact (by decide : 31 + 1 ≤ 89)) (by kernel_rfl) rfl ?_
             intro z8 hp hm
             replace hp := pv_one hp (len_set' (len_set' (len_setL (len_setL (len_set' (len_set' (len_set' (len_set' HLEN.out)))) (by exact (by decide : 68 + 5 ≤ 89))) (by exact (by decide : 78 + 4 ≤ 89))))) (by decide)
             have hP_z8 := hp
             have E_z8 : Pm G o w z8 := E_z7.trans hm
             clear hP_z7 E_z7
             clear hp hm)
          | ((with_reducible refine at_store 3 ?_); refine st_pv rfl rfl 3 _ _ rfl G o 18 _ hP_z8 _ #[.int .i64 2] rfl rfl rfl (by exact (by decide : 18 + 1 ≤ 89)) (by kernel_rfl) rfl ?_
             intro z9 hp hm
             replace hp := pv_one hp (len_set' (len_set' (len_set' (len_setL (len_setL (len_set' (len_set' (len_set' (len_set' HLEN.out)))) (by exact (by decide : 68 + 5 ≤ 89))) (by exact (by decide : 78 + 4 ≤ 89)))))) (by decide)
             have hP_z9 := hp
             have E_z9 : Pm G o w z9 := E_z8.trans hm
             clear hP_z8 E_z8
             clear hp hm))
        first
          | go_end0
          | (simp only [Exit.inBlock, Exit.then]; refine bodyPost_ret (results_none rfl _ _ _) rfl ?_)
          | refine bodyPost_ret (results_none rfl _ _ _) rfl ?_
        exact ⟨rfl, hP_z9, E_z9⟩
    · refine res_pv (L1 := iupd2 false false [.int .u64 x73, .int .u32 x74, .int .u64 x75, .int .u16 x76, .int .u16 x77] [.int .i64 x82, .int .i64 x83, .int .i64 x84, .int .i64 x85] L) ?_ (by unfold iupd; simp)
      unfold iupd2
      have hG := hP_w.lt
      have HLEN := Lib.hid hl
      have HL_23 := Lib.hid h23
      have HL_47 := Lib.hid h47
      have HL_68 := Lib.hid h68
      have HL_69 := Lib.hid h69
      have HL_70 := Lib.hid h70
      have HL_71 := Lib.hid h71
      have HL_72 := Lib.hid h72
      have HL_73 := Lib.hid h73
      have HL_74 := Lib.hid h74
      have HL_75 := Lib.hid h75
      have HL_76 := Lib.hid h76
      have HL_77 := Lib.hid h77
      have HL_82 := Lib.hid h82
      have HL_83 := Lib.hid h83
      have HL_84 := Lib.hid h84
      have HL_85 := Lib.hid h85
      have HL_86 := Lib.hid h86
      have HS_68 := Lib.hid (seg_of (L := L) (j := 68) (l := [.int .u64 x68, .int .u32 x69, .int .u64 x70, .int .u16 x71, .int .u16 x72]) (by rw [hl]; exact (by decide : 68 + 5 ≤ 89)) (fun i hi => by
        match i, hi with
        | 0, _ => exact HL_68.out
        | 1, _ => exact HL_69.out
        | 2, _ => exact HL_70.out
        | 3, _ => exact HL_71.out
        | 4, _ => exact HL_72.out
        | i + 5, hi => simp at hi; omega))
      have HS_73 := Lib.hid (seg_of (L := L) (j := 73) (l := [.int .u64 x73, .int .u32 x74, .int .u64 x75, .int .u16 x76, .int .u16 x77]) (by rw [hl]; exact (by decide : 73 + 5 ≤ 89)) (fun i hi => by
        match i, hi with
        | 0, _ => exact HL_73.out
        | 1, _ => exact HL_74.out
        | 2, _ => exact HL_75.out
        | 3, _ => exact HL_76.out
        | 4, _ => exact HL_77.out
        | i + 5, hi => simp at hi; omega))
      have HS_82 := Lib.hid (seg_of (L := L) (j := 82) (l := [.int .i64 x82, .int .i64 x83, .int .i64 x84, .int .i64 x85]) (by rw [hl]; exact (by decide : 82 + 4 ≤ 89)) (fun i hi => by
        match i, hi with
        | 0, _ => exact HL_82.out
        | 1, _ => exact HL_83.out
        | 2, _ => exact HL_84.out
        | 3, _ => exact HL_85.out
        | i + 4, hi => simp at hi; omega))
      clear hl h23 h47 h68 h69 h70 h71 h72 h73 h74 h75 h76 h77 h82 h83 h84 h85 h86
      go_enter Try.func38, Try.ntmps38
      go_wp2_with (first
        | fail
        | ((with_reducible refine at_store 4 ?_); refine st_pv rfl rfl 4 _ _ rfl G o 34 _ hP_w _ #[.bool false] rfl rfl rfl (by exact (by decide : 34 + 1 ≤ 89)) (by kernel_rfl) rfl ?_
           intro z1 hp hm
           replace hp := pv_one hp HLEN.out (by decide)
           have hP_z1 := hp
           have E_z1 : Pm G o w z1 := hm
           clear hP_w
           clear hp hm)
        | ((with_reducible refine at_store 4 ?_); refine st_pv rfl rfl 4 _ _ rfl G o 33 _ hP_z1 _ #[.bool false] rfl rfl rfl (by exact (by decide : 33 + 1 ≤ 89)) (by kernel_rfl) rfl ?_
           intro z2 hp hm
           replace hp := pv_one hp (len_set' HLEN.out) (by decide)
           have hP_z2 := hp
           have E_z2 : Pm G o w z2 := E_z1.trans hm
           clear hP_z1 E_z1
           clear hp hm))
      refine beginL (S := fun W' => Ext z2 W') (by kernel_rfl) ?_
      intro wd hqx
      have hq0 : Ext z2 wd := hqx
      refine tLp 0 ((.pointer (some ⟨G, o, none⟩))) rfl hq0 ?_
      simp only [ps]
      refine tLp 1 ((.pointer (some ⟨G, o, none⟩))) rfl hq0 ?_
      simp only [ps]
      refine tLp 2 ((.pointer (some ⟨G, o + 68, none⟩))) rfl hq0 ?_
      simp only [ps]
      refine tL 3 (_) rfl (yieldsIf_load_mid rfl 28 _ rfl G (o + 68) rfl ([.int .u64 x68, .int .u32 x69, .int .u64 x70, .int .u16 x71, .int .u16 x72]) _ (fun W' hW' => (hP_z2.ext hW').range (j := 68) (n := 5) ((seg_ne (by decide)).trans ((seg_ne (by decide)).trans HS_68.out)) (by decide)) Try.underlying28 rfl (by kernel_rfl)) hq0 ?_
      simp only [ps]
      refine tLp 4 ((.pointer (some ⟨G, o, none⟩))) rfl hq0 ?_
      simp only [ps]
      refine tLp 5 ((.pointer (some ⟨G, o, none⟩))) rfl hq0 ?_
      simp only [ps]
      refine tLp 6 ((.pointer (some ⟨G, o + 73, none⟩))) rfl hq0 ?_
      simp only [ps]
      refine tL 7 (_) rfl (yieldsIf_load_mid rfl 28 _ rfl G (o + 73) rfl ([.int .u64 x73, .int .u32 x74, .int .u64 x75, .int .u16 x76, .int .u16 x77]) _ (fun W' hW' => (hP_z2.ext hW').range (j := 73) (n := 5) ((seg_ne (by decide)).trans ((seg_ne (by decide)).trans HS_73.out)) (by decide)) Try.underlying28 rfl (by kernel_rfl)) hq0 ?_
      simp only [ps]
      refine runL (i := 8) rfl rfl (by kernel_rfl) (fun K hK => ?_)
      go_simp
      refine (asb (ref_less _ _ _ _ _ _ _ _ _ _ _) HLU.out).mono ?_
      rintro e wc1 ⟨rfl, hx⟩
      have hq1 := hq0.trans hx
      refine hK.out _ _ hq1 (fun hHeld => ?_)
      try simp only [ps]
      clear hK K hHeld
      refine tLp 9 ((.bool true)) rfl hq1 ?_
      simp only [ps]
      refine wpAnyH_done (by kernel_rfl) ?_ _
      generalize wc1 = z3 at *
      have hP_z3 : Pv z3 G o ((L.set 34 (.bool false)).set 33 (.bool false)) := hP_z2.ext hq1
      have E_z3 : Pm G o w z3 := E_z2.ext hq1
      have p86_z3 : z3.cell? ⟨G, o + 86, none⟩ = some (.int .i64 2) := (hP_z3.cell (j := 86) (by decide)).trans ((get_ne (by decide)).trans ((get_ne (by decide)).trans HL_86.out))
      clear hP_z2 E_z2
      clear hq0 hq1
      go_wp2_with (first
        | fail
        | ((with_reducible refine at_store 4 ?_); refine st_pv rfl rfl 4 _ _ rfl G o 23 _ hP_z3 _ #[.bool false] rfl rfl rfl (by exact (by decide : 23 + 1 ≤ 89)) (by kernel_rfl) rfl ?_
           intro z4 hp hm
           replace hp := pv_one hp (len_set' (len_set' HLEN.out)) (by decide)
           have hP_z4 := hp
           have E_z4 : Pm G o w z4 := E_z3.trans hm
           have p23_z4 : z4.cell? ⟨G, o + 23, none⟩ = some (.bool false) := (hP_z4.cell (j := 23) (by decide)).trans (get_same (len_set' (len_set' HLEN.out)) (by decide))
           clear hP_z3 E_z3 p86_z3
           clear hp hm)
        | ((with_reducible refine at_store 4 ?_); refine st_pv rfl rfl 4 _ _ rfl G o 47 _ hP_z4 _ #[.bool false] rfl rfl rfl (by exact (by decide : 47 + 1 ≤ 89)) (by kernel_rfl) rfl ?_
           intro z5 hp hm
           replace hp := pv_one hp (len_set' (len_set' (len_set' HLEN.out))) (by decide)
           have hP_z5 := hp
           have E_z5 : Pm G o w z5 := E_z4.trans hm
           clear hP_z4 E_z4 p23_z4
           clear hp hm)
        | ((with_reducible refine at_load 28 ?_); refine wpList_load_mid rfl 28 _ rfl G (o + 73) rfl [.int .u64 x73, .int .u32 x74, .int .u64 x75, .int .u16 x76, .int .u16 x77] _ (hP_z5.range (j := 73) (n := 5) ((seg_ne (by decide)).trans ((seg_ne (by decide)).trans ((seg_ne (by decide)).trans ((seg_ne (by decide)).trans HS_73.out)))) (by decide)) Try.underlying28 rfl (by kernel_rfl) ?_)
        | ((with_reducible refine at_store 28 ?_); refine st_pv rfl rfl 28 _ _ rfl G o 68 _ hP_z5 _ #[.int .u64 x73, .int .u32 x74, .int .u64 x75, .int .u16 x76, .int .u16 x77] rfl rfl rfl (by exact (by decide : 68 + 5 ≤ 89)) (by kernel_rfl) rfl ?_
           intro z6 hp hm
           have hP_z6 : Pv z6 G o (setL ((((L.set 34 (.bool false)).set 33 (.bool false)).set 23 (.bool false)).set 47 (.bool false)) 68 [.int .u64 x73, .int .u32 x74, .int .u64 x75, .int .u16 x76, .int .u16 x77]) := hp
           have E_z6 : Pm G o w z6 := E_z5.trans hm
           clear hP_z5 E_z5
           clear hp hm)
        | ((with_reducible refine at_load 24 ?_); refine wpList_load_mid rfl 24 _ rfl G (o + 82) rfl [.int .i64 x82, .int .i64 x83, .int .i64 x84, .int .i64 x85] _ (hP_z6.range (j := 82) (n := 4) ((seg_out (len_set' (len_set' (len_set' (len_set' HLEN.out)))) (by exact (by decide : 68 + 5 ≤ 89)) (by exact (by decide : 68 + 5 ≤ 82 ∨ 82 + 4 ≤ 68))).trans ((seg_ne (by decide)).trans ((seg_ne (by decide)).trans ((seg_ne (by decide)).trans ((seg_ne (by decide)).trans HS_82.out))))) (by decide)) Try.underlying24 rfl (by kernel_rfl) ?_)
        | ((with_reducible refine at_store 24 ?_); refine st_pv rfl rfl 24 _ _ rfl G o 78 _ hP_z6 _ #[.int .i64 x82, .int .i64 x83, .int .i64 x84, .int .i64 x85] rfl rfl rfl (by exact (by decide : 78 + 4 ≤ 89)) (by kernel_rfl) rfl ?_
           intro z7 hp hm
           have hP_z7 : Pv z7 G o (setL (setL ((((L.set 34 (.bool false)).set 33 (.bool false)).set 23 (.bool false)).set 47 (.bool false)) 68 [.int .u64 x73, .int .u32 x74, .int .u64 x75, .int .u16 x76, .int .u16 x77]) 78 [.int .i64 x82, .int .i64 x83, .int .i64 x84, .int .i64 x85]) := hp
           have E_z7 : Pm G o w z7 := E_z6.trans hm
           clear hP_z6 E_z6
           clear hp hm)
        | ((with_reducible refine at_store 4 ?_); refine st_pv rfl rfl 4 _ _ rfl G o 50 _ hP_z7 _ #[.bool false] rfl rfl rfl (by exact (by decide : 50 + 1 ≤ 89)) (by kernel_rfl) rfl ?_
           intro z8 hp hm
           replace hp := pv_one hp (len_setL (len_setL (len_set' (len_set' (len_set' (len_set' HLEN.out)))) (by exact (by decide : 68 + 5 ≤ 89))) (by exact (by decide : 78 + 4 ≤ 89))) (by decide)
           have hP_z8 := hp
           have E_z8 : Pm G o w z8 := E_z7.trans hm
           clear hP_z7 E_z7
           clear hp hm)
        | ((with_reducible refine at_store 3 ?_); refine st_pv rfl rfl 3 _ _ rfl G o 86 _ hP_z8 _ #[.int .i64 2] rfl rfl rfl (by exact (by decide : 86 + 1 ≤ 89)) (by kernel_rfl) rfl ?_
           intro z9 hp hm
           replace hp := pv_one hp (len_set' (len_setL (len_setL (len_set' (len_set' (len_set' (len_set' HLEN.out)))) (by exact (by decide : 68 + 5 ≤ 89))) (by exact (by decide : 78 + 4 ≤ 89)))) (by decide)
           have hP_z9 := hp
           have E_z9 : Pm G o w z9 := E_z8.trans hm
           clear hP_z8 E_z8
           clear hp hm)
        | ((with_reducible refine at_store 4 ?_); refine st_pv rfl rfl 4 _ _ rfl G o 31 _ hP_z9 _ #[.bool true] rfl rfl rfl (by exact (by decide : 31 + 1 ≤ 89)) (by kernel_rfl) rfl ?_
           intro z10 hp hm
           replace hp := pv_one hp (len_set' (len_set' (len_setL (len_setL (len_set' (len_set' (len_set' (len_set' HLEN.out)))) (by exact (by decide : 68 + 5 ≤ 89))) (by exact (by decide : 78 + 4 ≤ 89))))) (by decide)
           have hP_z10 := hp
           have E_z10 : Pm G o w z10 := E_z9.trans hm
           clear hP_z9 E_z9
           clear hp hm)
        | ((with_reducible refine at_store 3 ?_); refine st_pv rfl rfl 3 _ _ rfl G o 18 _ hP_z10 _ #[.int .i64 2] rfl rfl rfl (by exact (by decide : 18 + 1 ≤ 89)) (by kernel_rfl) rfl ?_
           intro z11 hp hm
           replace hp := pv_one hp (len_set' (len_set' (len_set' (len_setL (len_setL (len_set' (len_set' (len_set' (len_set' HLEN.out)))) (by exact (by decide : 68 + 5 ≤ 89))) (by exact (by decide : 78 + 4 ≤ 89)))))) (by decide)
           have hP_z11 := hp
           have E_z11 : Pm G o w z11 := E_z10.trans hm
           clear hP_z10 E_z10
           clear hp hm))
      first
        | go_end0
        | (simp only [Exit.inBlock, Exit.then]; refine bodyPost_ret (results_none rfl _ _ _) rfl ?_)
        | refine bodyPost_ret (results_none rfl _ _ _) rfl ?_
      exact ⟨rfl, hP_z11, E_z11⟩
  · refine res_pv (L1 := iupd2 false false [.int .u64 x73, .int .u32 x74, .int .u64 x75, .int .u16 x76, .int .u16 x77] [.int .i64 x82, .int .i64 x83, .int .i64 x84, .int .i64 x85] L) ?_ (by unfold iupd; rw [ne_b e86]; simp)
    unfold iupd2
    have c3 : (x86 != 2) = true := by simpa using e86
    clear e86
    have hG := hP_w.lt
    have HLEN := Lib.hid hl
    have HL_23 := Lib.hid h23
    have HL_47 := Lib.hid h47
    have HL_68 := Lib.hid h68
    have HL_69 := Lib.hid h69
    have HL_70 := Lib.hid h70
    have HL_71 := Lib.hid h71
    have HL_72 := Lib.hid h72
    have HL_73 := Lib.hid h73
    have HL_74 := Lib.hid h74
    have HL_75 := Lib.hid h75
    have HL_76 := Lib.hid h76
    have HL_77 := Lib.hid h77
    have HL_82 := Lib.hid h82
    have HL_83 := Lib.hid h83
    have HL_84 := Lib.hid h84
    have HL_85 := Lib.hid h85
    have HL_86 := Lib.hid h86
    have HS_68 := Lib.hid (seg_of (L := L) (j := 68) (l := [.int .u64 x68, .int .u32 x69, .int .u64 x70, .int .u16 x71, .int .u16 x72]) (by rw [hl]; exact (by decide : 68 + 5 ≤ 89)) (fun i hi => by
      match i, hi with
      | 0, _ => exact HL_68.out
      | 1, _ => exact HL_69.out
      | 2, _ => exact HL_70.out
      | 3, _ => exact HL_71.out
      | 4, _ => exact HL_72.out
      | i + 5, hi => simp at hi; omega))
    have HS_73 := Lib.hid (seg_of (L := L) (j := 73) (l := [.int .u64 x73, .int .u32 x74, .int .u64 x75, .int .u16 x76, .int .u16 x77]) (by rw [hl]; exact (by decide : 73 + 5 ≤ 89)) (fun i hi => by
      match i, hi with
      | 0, _ => exact HL_73.out
      | 1, _ => exact HL_74.out
      | 2, _ => exact HL_75.out
      | 3, _ => exact HL_76.out
      | 4, _ => exact HL_77.out
      | i + 5, hi => simp at hi; omega))
    have HS_82 := Lib.hid (seg_of (L := L) (j := 82) (l := [.int .i64 x82, .int .i64 x83, .int .i64 x84, .int .i64 x85]) (by rw [hl]; exact (by decide : 82 + 4 ≤ 89)) (fun i hi => by
      match i, hi with
      | 0, _ => exact HL_82.out
      | 1, _ => exact HL_83.out
      | 2, _ => exact HL_84.out
      | 3, _ => exact HL_85.out
      | i + 4, hi => simp at hi; omega))
    clear hl h23 h47 h68 h69 h70 h71 h72 h73 h74 h75 h76 h77 h82 h83 h84 h85 h86
    go_enter Try.func38, Try.ntmps38
    go_wp2_with (first
      | fail
      | ((with_reducible refine at_store 4 ?_); refine st_pv rfl rfl 4 _ _ rfl G o 34 _ hP_w _ #[.bool false] rfl rfl rfl (by exact (by decide : 34 + 1 ≤ 89)) (by kernel_rfl) rfl ?_
         intro z1 hp hm
         replace hp := pv_one hp HLEN.out (by decide)
         have hP_z1 := hp
         have E_z1 : Pm G o w z1 := hm
         clear hP_w
         clear hp hm)
      | ((with_reducible refine at_store 4 ?_); refine st_pv rfl rfl 4 _ _ rfl G o 33 _ hP_z1 _ #[.bool false] rfl rfl rfl (by exact (by decide : 33 + 1 ≤ 89)) (by kernel_rfl) rfl ?_
         intro z2 hp hm
         replace hp := pv_one hp (len_set' HLEN.out) (by decide)
         have hP_z2 := hp
         have E_z2 : Pm G o w z2 := E_z1.trans hm
         clear hP_z1 E_z1
         clear hp hm))
    refine beginL (S := fun W' => Ext z2 W') (by kernel_rfl) ?_
    intro wd hqx
    have hq0 : Ext z2 wd := hqx
    refine tLp 0 ((.pointer (some ⟨G, o, none⟩))) rfl hq0 ?_
    simp only [ps]
    refine tLp 1 ((.pointer (some ⟨G, o, none⟩))) rfl hq0 ?_
    simp only [ps]
    refine tLp 2 ((.pointer (some ⟨G, o + 68, none⟩))) rfl hq0 ?_
    simp only [ps]
    refine tL 3 (_) rfl (yieldsIf_load_mid rfl 28 _ rfl G (o + 68) rfl ([.int .u64 x68, .int .u32 x69, .int .u64 x70, .int .u16 x71, .int .u16 x72]) _ (fun W' hW' => (hP_z2.ext hW').range (j := 68) (n := 5) ((seg_ne (by decide)).trans ((seg_ne (by decide)).trans HS_68.out)) (by decide)) Try.underlying28 rfl (by kernel_rfl)) hq0 ?_
    simp only [ps]
    refine tLp 4 ((.pointer (some ⟨G, o, none⟩))) rfl hq0 ?_
    simp only [ps]
    refine tLp 5 ((.pointer (some ⟨G, o, none⟩))) rfl hq0 ?_
    simp only [ps]
    refine tLp 6 ((.pointer (some ⟨G, o + 73, none⟩))) rfl hq0 ?_
    simp only [ps]
    refine tL 7 (_) rfl (yieldsIf_load_mid rfl 28 _ rfl G (o + 73) rfl ([.int .u64 x73, .int .u32 x74, .int .u64 x75, .int .u16 x76, .int .u16 x77]) _ (fun W' hW' => (hP_z2.ext hW').range (j := 73) (n := 5) ((seg_ne (by decide)).trans ((seg_ne (by decide)).trans HS_73.out)) (by decide)) Try.underlying28 rfl (by kernel_rfl)) hq0 ?_
    simp only [ps]
    refine runL (i := 8) rfl rfl (by kernel_rfl) (fun K hK => ?_)
    go_simp
    refine (asb (ref_less _ _ _ _ _ _ _ _ _ _ _) HLU.out).mono ?_
    rintro e wc1 ⟨rfl, hx⟩
    have hq1 := hq0.trans hx
    refine hK.out _ _ hq1 (fun hHeld => ?_)
    try simp only [ps]
    clear hK K hHeld
    refine tLp 9 ((.bool lu)) rfl hq1 ?_
    simp only [ps]
    refine wpAnyH_done (by kernel_rfl) ?_ _
    generalize wc1 = z3 at *
    have hP_z3 : Pv z3 G o ((L.set 34 (.bool false)).set 33 (.bool false)) := hP_z2.ext hq1
    have E_z3 : Pm G o w z3 := E_z2.ext hq1
    have p86_z3 : z3.cell? ⟨G, o + 86, none⟩ = some (.int .i64 x86) := (hP_z3.cell (j := 86) (by decide)).trans ((get_ne (by decide)).trans ((get_ne (by decide)).trans HL_86.out))
    clear hP_z2 E_z2
    clear hq0 hq1
    go_wp2_with (first
      | fail
      | ((with_reducible refine at_store 4 ?_); refine st_pv rfl rfl 4 _ _ rfl G o 23 _ hP_z3 _ #[.bool false] rfl rfl rfl (by exact (by decide : 23 + 1 ≤ 89)) (by kernel_rfl) rfl ?_
         intro z4 hp hm
         replace hp := pv_one hp (len_set' (len_set' HLEN.out)) (by decide)
         have hP_z4 := hp
         have E_z4 : Pm G o w z4 := E_z3.trans hm
         have p23_z4 : z4.cell? ⟨G, o + 23, none⟩ = some (.bool false) := (hP_z4.cell (j := 23) (by decide)).trans (get_same (len_set' (len_set' HLEN.out)) (by decide))
         clear hP_z3 E_z3 p86_z3
         clear hp hm)
      | ((with_reducible refine at_store 4 ?_); refine st_pv rfl rfl 4 _ _ rfl G o 47 _ hP_z4 _ #[.bool false] rfl rfl rfl (by exact (by decide : 47 + 1 ≤ 89)) (by kernel_rfl) rfl ?_
         intro z5 hp hm
         replace hp := pv_one hp (len_set' (len_set' (len_set' HLEN.out))) (by decide)
         have hP_z5 := hp
         have E_z5 : Pm G o w z5 := E_z4.trans hm
         clear hP_z4 E_z4 p23_z4
         clear hp hm)
      | ((with_reducible refine at_load 28 ?_); refine wpList_load_mid rfl 28 _ rfl G (o + 73) rfl [.int .u64 x73, .int .u32 x74, .int .u64 x75, .int .u16 x76, .int .u16 x77] _ (hP_z5.range (j := 73) (n := 5) ((seg_ne (by decide)).trans ((seg_ne (by decide)).trans ((seg_ne (by decide)).trans ((seg_ne (by decide)).trans HS_73.out)))) (by decide)) Try.underlying28 rfl (by kernel_rfl) ?_)
      | ((with_reducible refine at_store 28 ?_); refine st_pv rfl rfl 28 _ _ rfl G o 68 _ hP_z5 _ #[.int .u64 x73, .int .u32 x74, .int .u64 x75, .int .u16 x76, .int .u16 x77] rfl rfl rfl (by exact (by decide : 68 + 5 ≤ 89)) (by kernel_rfl) rfl ?_
         intro z6 hp hm
         have hP_z6 : Pv z6 G o (setL ((((L.set 34 (.bool false)).set 33 (.bool false)).set 23 (.bool false)).set 47 (.bool false)) 68 [.int .u64 x73, .int .u32 x74, .int .u64 x75, .int .u16 x76, .int .u16 x77]) := hp
         have E_z6 : Pm G o w z6 := E_z5.trans hm
         clear hP_z5 E_z5
         clear hp hm)
      | ((with_reducible refine at_load 24 ?_); refine wpList_load_mid rfl 24 _ rfl G (o + 82) rfl [.int .i64 x82, .int .i64 x83, .int .i64 x84, .int .i64 x85] _ (hP_z6.range (j := 82) (n := 4) ((seg_out (len_set' (len_set' (len_set' (len_set' HLEN.out)))) (by exact (by decide : 68 + 5 ≤ 89)) (by exact (by decide : 68 + 5 ≤ 82 ∨ 82 + 4 ≤ 68))).trans ((seg_ne (by decide)).trans ((seg_ne (by decide)).trans ((seg_ne (by decide)).trans ((seg_ne (by decide)).trans HS_82.out))))) (by decide)) Try.underlying24 rfl (by kernel_rfl) ?_)
      | ((with_reducible refine at_store 24 ?_); refine st_pv rfl rfl 24 _ _ rfl G o 78 _ hP_z6 _ #[.int .i64 x82, .int .i64 x83, .int .i64 x84, .int .i64 x85] rfl rfl rfl (by exact (by decide : 78 + 4 ≤ 89)) (by kernel_rfl) rfl ?_
         intro z7 hp hm
         have hP_z7 : Pv z7 G o (setL (setL ((((L.set 34 (.bool false)).set 33 (.bool false)).set 23 (.bool false)).set 47 (.bool false)) 68 [.int .u64 x73, .int .u32 x74, .int .u64 x75, .int .u16 x76, .int .u16 x77]) 78 [.int .i64 x82, .int .i64 x83, .int .i64 x84, .int .i64 x85]) := hp
         have E_z7 : Pm G o w z7 := E_z6.trans hm
         clear hP_z6 E_z6
         clear hp hm)
      | ((with_reducible refine at_store 4 ?_); refine st_pv rfl rfl 4 _ _ rfl G o 50 _ hP_z7 _ #[.bool false] rfl rfl rfl (by exact (by decide : 50 + 1 ≤ 89)) (by kernel_rfl) rfl ?_
         intro z8 hp hm
         replace hp := pv_one hp (len_setL (len_setL (len_set' (len_set' (len_set' (len_set' HLEN.out)))) (by exact (by decide : 68 + 5 ≤ 89))) (by exact (by decide : 78 + 4 ≤ 89))) (by decide)
         have hP_z8 := hp
         have E_z8 : Pm G o w z8 := E_z7.trans hm
         clear hP_z7 E_z7
         clear hp hm)
      | ((with_reducible refine at_store 3 ?_); refine st_pv rfl rfl 3 _ _ rfl G o 86 _ hP_z8 _ #[.int .i64 2] rfl rfl rfl (by exact (by decide : 86 + 1 ≤ 89)) (by kernel_rfl) rfl ?_
         intro z9 hp hm
         replace hp := pv_one hp (len_set' (len_setL (len_setL (len_set' (len_set' (len_set' (len_set' HLEN.out)))) (by exact (by decide : 68 + 5 ≤ 89))) (by exact (by decide : 78 + 4 ≤ 89)))) (by decide)
         have hP_z9 := hp
         have E_z9 : Pm G o w z9 := E_z8.trans hm
         clear hP_z8 E_z8
         clear hp hm)
      | ((with_reducible refine at_store 4 ?_); refine st_pv rfl rfl 4 _ _ rfl G o 31 _ hP_z9 _ #[.bool true] rfl rfl rfl (by exact (by decide : 31 + 1 ≤ 89)) (by kernel_rfl) rfl ?_
         intro z10 hp hm
         replace hp := pv_one hp (len_set' (len_set' (len_setL (len_setL (len_set' (len_set' (len_set' (len_set' HLEN.out)))) (by exact (by decide : 68 + 5 ≤ 89))) (by exact (by decide : 78 + 4 ≤ 89))))) (by decide)
         have hP_z10 := hp
         have E_z10 : Pm G o w z10 := E_z9.trans hm
         clear hP_z9 E_z9
         clear hp hm)
      | ((with_reducible refine at_store 3 ?_); refine st_pv rfl rfl 3 _ _ rfl G o 18 _ hP_z10 _ #[.int .i64 2] rfl rfl rfl (by exact (by decide : 18 + 1 ≤ 89)) (by kernel_rfl) rfl ?_
         intro z11 hp hm
         replace hp := pv_one hp (len_set' (len_set' (len_set' (len_setL (len_setL (len_set' (len_set' (len_set' (len_set' HLEN.out)))) (by exact (by decide : 68 + 5 ≤ 89))) (by exact (by decide : 78 + 4 ≤ 89)))))) (by decide)
         have hP_z11 := hp
         have E_z11 : Pm G o w z11 := E_z10.trans hm
         clear hP_z10 E_z10
         clear hp hm))
    first
      | go_end0
      | (simp only [Exit.inBlock, Exit.then]; refine bodyPost_ret (results_none rfl _ _ _) rfl ?_)
      | refine bodyPost_ret (results_none rfl _ _ _) rfl ?_
    exact ⟨rfl, hP_z11, E_z11⟩
/-- What is behind an act: nothing in hand; the state as it was. -/
def dfin (L : List Value) : List Value := (L.set 36 (.bool false)).set 18 (.int .i64 2)

end Go.Proofs.Ythfoacgdkoijeaa
