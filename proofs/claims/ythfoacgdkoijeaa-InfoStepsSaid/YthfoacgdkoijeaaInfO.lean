/- The machine of information: what is done with a message, by the document. No statement is proved here. -/
import Derived.Test.YthfoacgdkoijeaaInfN
import Derived.Test.YthfoacgdkoijeaaInfG
namespace Go.Proofs.Ythfoacgdkoijeaa
open Go.RowKit Go.BigFrame Go.WideShapes Go.ChangeShapes Go.Deep
set_option linter.unusedVariables false
set_option linter.unusedSimpArgs false

theorem fin_comm (A : List Value) (a b c d e : Value) : (((((A.set 86 a).set 43 c).set 44 d).set 18 b).set 36 e) = ((((A.set 86 a).set 43 c).set 44 d).set 36 e).set 18 b := by
  rw [List.set_comm _ _ (show (18 : Nat) ≠ 36 by decide)]
theorem rclass_L (w : World) {L : List Value} (hT : Typed PL L) : Calls Try.prog 23 #[.agg L.toArray] w fun e w' => e = .returned (.int .i64 (clsL L : Nat)) ∧ Ext w w' :=
  asi (rclass_any (w := w) L (tpL hT) _ (tpI hT 51 rfl) _ (tpB hT 52 rfl) _ (tpB hT 53 rfl) _ (tpB hT 54 rfl) _ (tpB hT 55 rfl) _ (tpB hT 56 rfl) _ (tpB hT 57 rfl) _ (tpI hT 58 rfl) _ (tpI hT 59 rfl) _ (tpI hT 60 rfl) _ (tpI hT 61 rfl) _ (tpI hT 62 rfl) _ (tpI hT 63 rfl) _ (tpI hT 64 rfl) _ (tpI hT 65 rfl) _ (tpI hT 66 rfl) _ (tpI hT 67 rfl) _ (tpI hT 68 rfl) _ (tpI hT 69 rfl) _ (tpI hT 70 rfl) _ (tpI hT 71 rfl) _ (tpI hT 72 rfl) _ (tpI hT 78 rfl) _ (tpI hT 79 rfl) _ (tpI hT 80 rfl) _ (tpI hT 81 rfl) (wf_u64 (tpW hT 61 rfl)) (wf_u64 (tpW hT 70 rfl)) (wf_u16 (tpW hT 62 rfl)) (wf_u16 (tpW hT 71 rfl))) (classF_nat _ _ _ _ _)
set_option maxRecDepth 100000 in
set_option maxHeartbeats 1000000 in
theorem dhear4 (X : Nat) (rst : Bool) {w : World} (G o : Nat) (L : List Value) (hP_w : Pv w G o L) (hl : L.length = 89) (x51 : Int) (h51 : L[51]? = some (.int .i64 x51)) (hT : Typed PL L) (hc : w.cell? ⟨X, 1, none⟩ = some (.bool rst)) (hXl : X < w.heap.size) (hXG : X ≠ G) (h18 : L[18]? = some (.int .i64 2)) (hcls : clsL L = 4) : Calls Try.prog 39 #[.pointer (some ⟨X, 0, none⟩), .pointer (some ⟨G, o, none⟩)] w fun e w' => e = .returned (.tuple #[]) ∧ Pv w' G o (dfin (ioth (x51 == 1) L)) ∧ Pm G o w w' := by
  by_cases e51 : x51 = 1
  · subst e51
    refine res_pv (L1 := dfin (L.set 41 (.bool true))) ?_ rfl
    unfold dfin
    have HT := Lib.hid hT
    have HC := Lib.hid hcls
    have HR := Lib.hid hc
    clear hT hcls hc
    have HL_18 := Lib.hid h18
    clear h18
    have hG := hP_w.lt
    have HLEN := Lib.hid hl
    have HL_51 := Lib.hid h51
    clear hl h51
    have HRS := Lib.hid (show (Try.prog.info? 51).map (·.size) = some L.length by rw [HLEN.out]; exact size_port)
    have HRL := Lib.hid (show w.rangeAt G o L from hP_w.range (j := 0) (n := 89) (by rw [List.drop_zero, List.take_of_length_le (by rw [HLEN.out]; exact Nat.le_refl 89)]) (by decide))
    go_enter Try.func39, Try.ntmps39
    go_wp2_with (first
      | fail
      | ((with_reducible refine at_load 51 ?_); refine wpList_load_mid rfl 51 _ rfl G o rfl L _ HRL.out Try.underlying51 rfl HRS.out ?_))
    refine (asi (rclass_L _ HT.out) (show ((clsL L : Nat) : Int) = 4 by rw [HC.out]; rfl)).mono ?_
    rintro e z1 ⟨rfl, hx⟩
    have E_z1 : Pm G o w z1 := Ext.pm hx G o
    have hP_z1 : Pv z1 G o L := hP_w.ext hx
    clear hP_w
    clear hx
    have p51_z1 : z1.cell? ⟨G, o + 51, none⟩ = some (.int .i64 1) := (hP_z1.cell (j := 51) (by decide)).trans HL_51.out
    go_wp2_with (first
      | fail
      | ((with_reducible refine at_store 4 ?_); refine st_pv rfl rfl 4 _ _ rfl G o 41 _ hP_z1 _ #[.bool true] rfl rfl rfl (by exact (by decide : 41 + 1 ≤ 89)) (by kernel_rfl) rfl ?_
         intro z2 hp hm
         replace hp := pv_one hp HLEN.out (by decide)
         have hP_z2 := hp
         have E_z2 : Pm G o w z2 := E_z1.trans hm
         clear hP_z1 E_z1 p51_z1
         clear hp hm)
      | ((with_reducible refine at_store 4 ?_); refine st_pv rfl rfl 4 _ _ rfl G o 36 _ hP_z2 _ #[.bool false] rfl rfl rfl (by exact (by decide : 36 + 1 ≤ 89)) (by kernel_rfl) rfl ?_
         intro z3 hp hm
         replace hp := pv_one hp (len_set' HLEN.out) (by decide)
         have hP_z3 := hp
         have E_z3 : Pm G o w z3 := E_z2.trans hm
         clear hP_z2 E_z2
         clear hp hm))
    replace hP_z3 : Pv z3 G o (((L.set 41 (.bool true)).set 36 (.bool false)).set 18 (.int .i64 2)) := by
      rw [set_id ((get_ne (by decide)).trans ((get_ne (by decide)).trans HL_18.out))]
      exact hP_z3
    first
      | go_end0
      | (simp only [Exit.inBlock, Exit.then]; refine bodyPost_ret (results_none rfl _ _ _) rfl ?_)
      | refine bodyPost_ret (results_none rfl _ _ _) rfl ?_
    exact ⟨rfl, hP_z3, E_z3⟩
  · refine res_pv (L1 := dfin L) ?_ (by rw [ne_b e51]; rfl)
    unfold dfin
    have HT := Lib.hid hT
    have HC := Lib.hid hcls
    have HR := Lib.hid hc
    clear hT hcls hc
    have HL_18 := Lib.hid h18
    clear h18
    have c2 : (x51 == 1) = false := by simpa using e51
    clear e51
    have hG := hP_w.lt
    have HLEN := Lib.hid hl
    have HL_51 := Lib.hid h51
    clear hl h51
    have HRS := Lib.hid (show (Try.prog.info? 51).map (·.size) = some L.length by rw [HLEN.out]; exact size_port)
    have HRL := Lib.hid (show w.rangeAt G o L from hP_w.range (j := 0) (n := 89) (by rw [List.drop_zero, List.take_of_length_le (by rw [HLEN.out]; exact Nat.le_refl 89)]) (by decide))
    go_enter Try.func39, Try.ntmps39
    go_wp2_with (first
      | fail
      | ((with_reducible refine at_load 51 ?_); refine wpList_load_mid rfl 51 _ rfl G o rfl L _ HRL.out Try.underlying51 rfl HRS.out ?_))
    refine (asi (rclass_L _ HT.out) (show ((clsL L : Nat) : Int) = 4 by rw [HC.out]; rfl)).mono ?_
    rintro e z1 ⟨rfl, hx⟩
    have E_z1 : Pm G o w z1 := Ext.pm hx G o
    have hP_z1 : Pv z1 G o L := hP_w.ext hx
    clear hP_w
    clear hx
    have p51_z1 : z1.cell? ⟨G, o + 51, none⟩ = some (.int .i64 x51) := (hP_z1.cell (j := 51) (by decide)).trans HL_51.out
    go_wp2_with (first
      | fail
      | ((with_reducible refine at_store 4 ?_); refine st_pv rfl rfl 4 _ _ rfl G o 36 _ hP_z1 _ #[.bool false] rfl rfl rfl (by exact (by decide : 36 + 1 ≤ 89)) (by kernel_rfl) rfl ?_
         intro z2 hp hm
         replace hp := pv_one hp HLEN.out (by decide)
         have hP_z2 := hp
         have E_z2 : Pm G o w z2 := E_z1.trans hm
         clear hP_z1 E_z1 p51_z1
         clear hp hm))
    replace hP_z2 : Pv z2 G o ((L.set 36 (.bool false)).set 18 (.int .i64 2)) := by
      rw [set_id ((get_ne (by decide)).trans HL_18.out)]
      exact hP_z2
    first
      | go_end0
      | (simp only [Exit.inBlock, Exit.then]; refine bodyPost_ret (results_none rfl _ _ _) rfl ?_)
      | refine bodyPost_ret (results_none rfl _ _ _) rfl ?_
    exact ⟨rfl, hP_z2, E_z2⟩
set_option maxRecDepth 100000 in
set_option maxHeartbeats 1000000 in
theorem dhear3 (X : Nat) (rst : Bool) {w : World} (G o : Nat) (L : List Value) (hP_w : Pv w G o L) (hl : L.length = 89) (x3 : Bool) (h3 : L[3]? = some (.bool x3)) (x39 : Bool) (h39 : L[39]? = some (.bool x39)) (x40 : Bool) (h40 : L[40]? = some (.bool x40)) (x51 : Int) (h51 : L[51]? = some (.int .i64 x51)) (x52 : Bool) (h52 : L[52]? = some (.bool x52)) (x53 : Bool) (h53 : L[53]? = some (.bool x53)) (x55 : Bool) (h55 : L[55]? = some (.bool x55)) (hT : Typed PL L) (hc : w.cell? ⟨X, 1, none⟩ = some (.bool rst)) (hXl : X < w.heap.size) (hXG : X ≠ G) (h18 : L[18]? = some (.int .i64 2)) (hcls : clsL L = 3) : Calls Try.prog 39 #[.pointer (some ⟨X, 0, none⟩), .pointer (some ⟨G, o, none⟩)] w fun e w' => e = .returned (.tuple #[]) ∧ Pv w' G o (dfin (ichg (x39 || x52) (x40 || x53) (iagr (rst && !x3 && (x51 == 2) && x55) L))) ∧ Pm G o w w' := by
  unfold dfin
  have HT := Lib.hid hT
  have HC := Lib.hid hcls
  have HR := Lib.hid hc
  clear hT hcls hc
  have HL_18 := Lib.hid h18
  clear h18
  have hG := hP_w.lt
  have HLEN := Lib.hid hl
  have HL_3 := Lib.hid h3
  have HL_39 := Lib.hid h39
  have HL_40 := Lib.hid h40
  have HL_51 := Lib.hid h51
  have HL_52 := Lib.hid h52
  have HL_53 := Lib.hid h53
  have HL_55 := Lib.hid h55
  clear hl h3 h39 h40 h51 h52 h53 h55
  have HRS := Lib.hid (show (Try.prog.info? 51).map (·.size) = some L.length by rw [HLEN.out]; exact size_port)
  have HRL := Lib.hid (show w.rangeAt G o L from hP_w.range (j := 0) (n := 89) (by rw [List.drop_zero, List.take_of_length_le (by rw [HLEN.out]; exact Nat.le_refl 89)]) (by decide))
  go_enter Try.func39, Try.ntmps39
  go_wp2_with (first
    | fail
    | ((with_reducible refine at_load 51 ?_); refine wpList_load_mid rfl 51 _ rfl G o rfl L _ HRL.out Try.underlying51 rfl HRS.out ?_))
  refine (asi (rclass_L _ HT.out) (show ((clsL L : Nat) : Int) = 3 by rw [HC.out]; rfl)).mono ?_
  rintro e z1 ⟨rfl, hx⟩
  have E_z1 : Pm G o w z1 := Ext.pm hx G o
  have hP_z1 : Pv z1 G o L := hP_w.ext hx
  clear hP_w
  clear hx
  go_wp2_with fail
  refine (dagreement X rst G o _ hP_z1 HLEN.out _ HL_3.out _ HL_51.out _ HL_55.out ((E_z1.1.cell (p := ⟨X, 1, none⟩) hXl hXG).trans HR.out)).mono ?_
  rintro e z2 ⟨rfl, hp, hm⟩
  have hP_z2 : Pv z2 G o (iagr (rst && !x3 && (x51 == 2) && x55) L) := hp
  have E_z2 : Pm G o w z2 := E_z1.trans hm
  clear hP_z1 E_z1
  clear hp hm
  go_wp2_with fail
  refine (dchanges G o _ hP_z2 (iagr_len HLEN.out) _ ((iagr_ne (by decide) (by decide)).trans HL_39.out) _ ((iagr_ne (by decide) (by decide)).trans HL_40.out) _ ((iagr_ne (by decide) (by decide)).trans HL_52.out) _ ((iagr_ne (by decide) (by decide)).trans HL_53.out)).mono ?_
  rintro e z3 ⟨rfl, hp, hm⟩
  have hP_z3 : Pv z3 G o (((iagr (rst && !x3 && (x51 == 2) && x55) L).set 39 (.bool (x39 || x52))).set 40 (.bool (x40 || x53))) := hp
  have E_z3 : Pm G o w z3 := E_z2.trans hm
  clear hP_z2 E_z2
  clear hp hm
  go_wp2_with (first
    | fail
    | ((with_reducible refine at_store 4 ?_); refine st_pv rfl rfl 4 _ _ rfl G o 36 _ hP_z3 _ #[.bool false] rfl rfl rfl (by exact (by decide : 36 + 1 ≤ 89)) (by kernel_rfl) rfl ?_
       intro z4 hp hm
       replace hp := pv_one hp (len_set' (len_set' (iagr_len HLEN.out))) (by decide)
       have hP_z4 := hp
       have E_z4 : Pm G o w z4 := E_z3.trans hm
       clear hP_z3 E_z3
       clear hp hm))
  replace hP_z4 : Pv z4 G o (((((iagr (rst && !x3 && (x51 == 2) && x55) L).set 39 (.bool (x39 || x52))).set 40 (.bool (x40 || x53))).set 36 (.bool false)).set 18 (.int .i64 2)) := by
    rw [set_id ((get_ne (by decide)).trans ((get_ne (by decide)).trans ((get_ne (by decide)).trans ((iagr_ne (by decide) (by decide)).trans HL_18.out))))]
    exact hP_z4
  first
    | go_end0
    | (simp only [Exit.inBlock, Exit.then]; refine bodyPost_ret (results_none rfl _ _ _) rfl ?_)
    | refine bodyPost_ret (results_none rfl _ _ _) rfl ?_
  exact ⟨rfl, hP_z4, E_z4⟩
set_option maxRecDepth 100000 in
set_option maxHeartbeats 1000000 in
theorem dhear2 (X : Nat) (rst : Bool) {w : World} (G o : Nat) (L : List Value) (hP_w : Pv w G o L) (hl : L.length = 89) (x51 : Int) (h51 : L[51]? = some (.int .i64 x51)) (x56 : Bool) (h56 : L[56]? = some (.bool x56)) (hT : Typed PL L) (hc : w.cell? ⟨X, 1, none⟩ = some (.bool rst)) (hXl : X < w.heap.size) (hXG : X ≠ G) (h18 : L[18]? = some (.int .i64 2)) (hcls : clsL L = 2) : Calls Try.prog 39 #[.pointer (some ⟨X, 0, none⟩), .pointer (some ⟨G, o, none⟩)] w fun e w' => e = .returned (.tuple #[]) ∧ Pv w' G o (dfin (iinf ((x51 == 2) && x56) L)) ∧ Pm G o w w' := by
  by_cases e51 : x51 = 2
  · subst e51
    cases x56
    · refine res_pv (L1 := dfin L) ?_ rfl
      unfold dfin
      have HT := Lib.hid hT
      have HC := Lib.hid hcls
      have HR := Lib.hid hc
      clear hT hcls hc
      have HL_18 := Lib.hid h18
      clear h18
      have hG := hP_w.lt
      have HLEN := Lib.hid hl
      have HL_51 := Lib.hid h51
      have HL_56 := Lib.hid h56
      clear hl h51 h56
      have HRS := Lib.hid (show (Try.prog.info? 51).map (·.size) = some L.length by rw [HLEN.out]; exact size_port)
      have HRL := Lib.hid (show w.rangeAt G o L from hP_w.range (j := 0) (n := 89) (by rw [List.drop_zero, List.take_of_length_le (by rw [HLEN.out]; exact Nat.le_refl 89)]) (by decide))
      go_enter Try.func39, Try.ntmps39
      go_wp2_with (first
        | fail
        | ((with_reducible refine at_load 51 ?_); refine wpList_load_mid rfl 51 _ rfl G o rfl L _ HRL.out Try.underlying51 rfl HRS.out ?_))
      refine (asi (rclass_L _ HT.out) (show ((clsL L : Nat) : Int) = 2 by rw [HC.out]; rfl)).mono ?_
      rintro e z1 ⟨rfl, hx⟩
      have E_z1 : Pm G o w z1 := Ext.pm hx G o
      have hP_z1 : Pv z1 G o L := hP_w.ext hx
      clear hP_w
      clear hx
      have p51_z1 : z1.cell? ⟨G, o + 51, none⟩ = some (.int .i64 2) := (hP_z1.cell (j := 51) (by decide)).trans HL_51.out
      have p56_z1 : z1.cell? ⟨G, o + 56, none⟩ = some (.bool false) := (hP_z1.cell (j := 56) (by decide)).trans HL_56.out
      go_wp2_with (first
        | fail
        | ((with_reducible refine at_store 4 ?_); refine st_pv rfl rfl 4 _ _ rfl G o 36 _ hP_z1 _ #[.bool false] rfl rfl rfl (by exact (by decide : 36 + 1 ≤ 89)) (by kernel_rfl) rfl ?_
           intro z2 hp hm
           replace hp := pv_one hp HLEN.out (by decide)
           have hP_z2 := hp
           have E_z2 : Pm G o w z2 := E_z1.trans hm
           clear hP_z1 E_z1 p51_z1 p56_z1
           clear hp hm))
      replace hP_z2 : Pv z2 G o ((L.set 36 (.bool false)).set 18 (.int .i64 2)) := by
        rw [set_id ((get_ne (by decide)).trans HL_18.out)]
        exact hP_z2
      first
        | go_end0
        | (simp only [Exit.inBlock, Exit.then]; refine bodyPost_ret (results_none rfl _ _ _) rfl ?_)
        | refine bodyPost_ret (results_none rfl _ _ _) rfl ?_
      exact ⟨rfl, hP_z2, E_z2⟩
    · refine res_pv (L1 := dfin ((L.set 24 (.bool true)).set 23 (.bool false))) ?_ rfl
      unfold dfin
      have HT := Lib.hid hT
      have HC := Lib.hid hcls
      have HR := Lib.hid hc
      clear hT hcls hc
      have HL_18 := Lib.hid h18
      clear h18
      have hG := hP_w.lt
      have HLEN := Lib.hid hl
      have HL_51 := Lib.hid h51
      have HL_56 := Lib.hid h56
      clear hl h51 h56
      have HRS := Lib.hid (show (Try.prog.info? 51).map (·.size) = some L.length by rw [HLEN.out]; exact size_port)
      have HRL := Lib.hid (show w.rangeAt G o L from hP_w.range (j := 0) (n := 89) (by rw [List.drop_zero, List.take_of_length_le (by rw [HLEN.out]; exact Nat.le_refl 89)]) (by decide))
      go_enter Try.func39, Try.ntmps39
      go_wp2_with (first
        | fail
        | ((with_reducible refine at_load 51 ?_); refine wpList_load_mid rfl 51 _ rfl G o rfl L _ HRL.out Try.underlying51 rfl HRS.out ?_))
      refine (asi (rclass_L _ HT.out) (show ((clsL L : Nat) : Int) = 2 by rw [HC.out]; rfl)).mono ?_
      rintro e z1 ⟨rfl, hx⟩
      have E_z1 : Pm G o w z1 := Ext.pm hx G o
      have hP_z1 : Pv z1 G o L := hP_w.ext hx
      clear hP_w
      clear hx
      have p51_z1 : z1.cell? ⟨G, o + 51, none⟩ = some (.int .i64 2) := (hP_z1.cell (j := 51) (by decide)).trans HL_51.out
      have p56_z1 : z1.cell? ⟨G, o + 56, none⟩ = some (.bool true) := (hP_z1.cell (j := 56) (by decide)).trans HL_56.out
      go_wp2_with (first
        | fail
        | ((with_reducible refine at_store 4 ?_); refine st_pv rfl rfl 4 _ _ rfl G o 24 _ hP_z1 _ #[.bool true] rfl rfl rfl (by exact (by decide : 24 + 1 ≤ 89)) (by kernel_rfl) rfl ?_
           intro z2 hp hm
           replace hp := pv_one hp HLEN.out (by decide)
           have hP_z2 := hp
           have E_z2 : Pm G o w z2 := E_z1.trans hm
           clear hP_z1 E_z1 p51_z1 p56_z1
           clear hp hm)
        | ((with_reducible refine at_store 4 ?_); refine st_pv rfl rfl 4 _ _ rfl G o 23 _ hP_z2 _ #[.bool false] rfl rfl rfl (by exact (by decide : 23 + 1 ≤ 89)) (by kernel_rfl) rfl ?_
           intro z3 hp hm
           replace hp := pv_one hp (len_set' HLEN.out) (by decide)
           have hP_z3 := hp
           have E_z3 : Pm G o w z3 := E_z2.trans hm
           clear hP_z2 E_z2
           clear hp hm)
        | ((with_reducible refine at_store 4 ?_); refine st_pv rfl rfl 4 _ _ rfl G o 36 _ hP_z3 _ #[.bool false] rfl rfl rfl (by exact (by decide : 36 + 1 ≤ 89)) (by kernel_rfl) rfl ?_
           intro z4 hp hm
           replace hp := pv_one hp (len_set' (len_set' HLEN.out)) (by decide)
           have hP_z4 := hp
           have E_z4 : Pm G o w z4 := E_z3.trans hm
           clear hP_z3 E_z3
           clear hp hm))
      replace hP_z4 : Pv z4 G o ((((L.set 24 (.bool true)).set 23 (.bool false)).set 36 (.bool false)).set 18 (.int .i64 2)) := by
        rw [set_id ((get_ne (by decide)).trans ((get_ne (by decide)).trans ((get_ne (by decide)).trans HL_18.out)))]
        exact hP_z4
      first
        | go_end0
        | (simp only [Exit.inBlock, Exit.then]; refine bodyPost_ret (results_none rfl _ _ _) rfl ?_)
        | refine bodyPost_ret (results_none rfl _ _ _) rfl ?_
      exact ⟨rfl, hP_z4, E_z4⟩
  · refine res_pv (L1 := dfin L) ?_ (by rw [ne_b e51]; rfl)
    unfold dfin
    have HT := Lib.hid hT
    have HC := Lib.hid hcls
    have HR := Lib.hid hc
    clear hT hcls hc
    have HL_18 := Lib.hid h18
    clear h18
    have c2 : (x51 == 2) = false := by simpa using e51
    clear e51
    have hG := hP_w.lt
    have HLEN := Lib.hid hl
    have HL_51 := Lib.hid h51
    have HL_56 := Lib.hid h56
    clear hl h51 h56
    have HRS := Lib.hid (show (Try.prog.info? 51).map (·.size) = some L.length by rw [HLEN.out]; exact size_port)
    have HRL := Lib.hid (show w.rangeAt G o L from hP_w.range (j := 0) (n := 89) (by rw [List.drop_zero, List.take_of_length_le (by rw [HLEN.out]; exact Nat.le_refl 89)]) (by decide))
    go_enter Try.func39, Try.ntmps39
    go_wp2_with (first
      | fail
      | ((with_reducible refine at_load 51 ?_); refine wpList_load_mid rfl 51 _ rfl G o rfl L _ HRL.out Try.underlying51 rfl HRS.out ?_))
    refine (asi (rclass_L _ HT.out) (show ((clsL L : Nat) : Int) = 2 by rw [HC.out]; rfl)).mono ?_
    rintro e z1 ⟨rfl, hx⟩
    have E_z1 : Pm G o w z1 := Ext.pm hx G o
    have hP_z1 : Pv z1 G o L := hP_w.ext hx
    clear hP_w
    clear hx
    have p51_z1 : z1.cell? ⟨G, o + 51, none⟩ = some (.int .i64 x51) := (hP_z1.cell (j := 51) (by decide)).trans HL_51.out
    have p56_z1 : z1.cell? ⟨G, o + 56, none⟩ = some (.bool x56) := (hP_z1.cell (j := 56) (by decide)).trans HL_56.out
    go_wp2_with (first
      | fail
      | ((with_reducible refine at_store 4 ?_); refine st_pv rfl rfl 4 _ _ rfl G o 36 _ hP_z1 _ #[.bool false] rfl rfl rfl (by exact (by decide : 36 + 1 ≤ 89)) (by kernel_rfl) rfl ?_
         intro z2 hp hm
         replace hp := pv_one hp HLEN.out (by decide)
         have hP_z2 := hp
         have E_z2 : Pm G o w z2 := E_z1.trans hm
         clear hP_z1 E_z1 p51_z1 p56_z1
         clear hp hm))
    replace hP_z2 : Pv z2 G o ((L.set 36 (.bool false)).set 18 (.int .i64 2)) := by
      rw [set_id ((get_ne (by decide)).trans HL_18.out)]
      exact hP_z2
    first
      | go_end0
      | (simp only [Exit.inBlock, Exit.then]; refine bodyPost_ret (results_none rfl _ _ _) rfl ?_)
      | refine bodyPost_ret (results_none rfl _ _ _) rfl ?_
    exact ⟨rfl, hP_z2, E_z2⟩
set_option maxRecDepth 100000 in
set_option maxHeartbeats 1000000 in
theorem dhear1 (X : Nat) (rst : Bool) {w : World} (G o : Nat) (L : List Value) (hP_w : Pv w G o L) (hl : L.length = 89) (x3 : Bool) (h3 : L[3]? = some (.bool x3)) (x39 : Bool) (h39 : L[39]? = some (.bool x39)) (x40 : Bool) (h40 : L[40]? = some (.bool x40)) (x51 : Int) (h51 : L[51]? = some (.int .i64 x51)) (x52 : Bool) (h52 : L[52]? = some (.bool x52)) (x53 : Bool) (h53 : L[53]? = some (.bool x53)) (x54 : Bool) (h54 : L[54]? = some (.bool x54)) (x55 : Bool) (h55 : L[55]? = some (.bool x55)) (x56 : Bool) (h56 : L[56]? = some (.bool x56)) (x57 : Bool) (h57 : L[57]? = some (.bool x57)) (x58 : Int) (h58 : L[58]? = some (.int .i64 x58)) (x59 : Int) (h59 : L[59]? = some (.int .u64 x59)) (x60 : Int) (h60 : L[60]? = some (.int .u32 x60)) (x61 : Int) (h61 : L[61]? = some (.int .u64 x61)) (x62 : Int) (h62 : L[62]? = some (.int .u16 x62)) (x63 : Int) (h63 : L[63]? = some (.int .u16 x63)) (x64 : Int) (h64 : L[64]? = some (.int .i64 x64)) (x65 : Int) (h65 : L[65]? = some (.int .i64 x65)) (x66 : Int) (h66 : L[66]? = some (.int .i64 x66)) (x67 : Int) (h67 : L[67]? = some (.int .i64 x67)) (hT : Typed PL L) (hc : w.cell? ⟨X, 1, none⟩ = some (.bool rst)) (hXl : X < w.heap.size) (hXG : X ≠ G) (h18 : L[18]? = some (.int .i64 2)) (r1 : 0 ≤ x64) (r2 : x64 ≤ 65535) (r3 : 0 ≤ x65) (r4 : x65 ≤ 65535) (r5 : 0 ≤ x66) (r6 : x66 ≤ 65535) (hcls : clsL L = 1) : Calls Try.prog 39 #[.pointer (some ⟨X, 0, none⟩), .pointer (some ⟨G, o, none⟩)] w fun e w' => e = .returned (.tuple #[]) ∧ Pv w' G o (dfin ((iagr (rst && !x3 && (x51 == 2) && x55) (ichg (x39 || x52) (x40 || x53) (iprop ((x51 == 2) && (x58 == 4) && x54) L))).set 11 (.int .i64 (waitsV x64 x65 x66)))) ∧ Pm G o w w' := by
  unfold dfin
  have HT := Lib.hid hT
  have HC := Lib.hid hcls
  have HR := Lib.hid hc
  clear hT hcls hc
  have HL_18 := Lib.hid h18
  clear h18
  have hG := hP_w.lt
  have HLEN := Lib.hid hl
  have HL_3 := Lib.hid h3
  have HL_39 := Lib.hid h39
  have HL_40 := Lib.hid h40
  have HL_51 := Lib.hid h51
  have HL_52 := Lib.hid h52
  have HL_53 := Lib.hid h53
  have HL_54 := Lib.hid h54
  have HL_55 := Lib.hid h55
  have HL_56 := Lib.hid h56
  have HL_57 := Lib.hid h57
  have HL_58 := Lib.hid h58
  have HL_59 := Lib.hid h59
  have HL_60 := Lib.hid h60
  have HL_61 := Lib.hid h61
  have HL_62 := Lib.hid h62
  have HL_63 := Lib.hid h63
  have HL_64 := Lib.hid h64
  have HL_65 := Lib.hid h65
  have HL_66 := Lib.hid h66
  have HL_67 := Lib.hid h67
  have HS_64 := Lib.hid (seg_of (L := L) (j := 64) (l := [.int .i64 x64, .int .i64 x65, .int .i64 x66, .int .i64 x67]) (by rw [hl]; exact (by decide : 64 + 4 ≤ 89)) (fun i hi => by
    match i, hi with
    | 0, _ => exact HL_64.out
    | 1, _ => exact HL_65.out
    | 2, _ => exact HL_66.out
    | 3, _ => exact HL_67.out
    | i + 4, hi => simp at hi; omega))
  clear hl h3 h39 h40 h51 h52 h53 h54 h55 h56 h57 h58 h59 h60 h61 h62 h63 h64 h65 h66 h67
  have HRS := Lib.hid (show (Try.prog.info? 51).map (·.size) = some L.length by rw [HLEN.out]; exact size_port)
  have HRL := Lib.hid (show w.rangeAt G o L from hP_w.range (j := 0) (n := 89) (by rw [List.drop_zero, List.take_of_length_le (by rw [HLEN.out]; exact Nat.le_refl 89)]) (by decide))
  go_enter Try.func39, Try.ntmps39
  go_wp2_with (first
    | fail
    | ((with_reducible refine at_load 51 ?_); refine wpList_load_mid rfl 51 _ rfl G o rfl L _ HRL.out Try.underlying51 rfl HRS.out ?_))
  refine (asi (rclass_L _ HT.out) (show ((clsL L : Nat) : Int) = 1 by rw [HC.out]; rfl)).mono ?_
  rintro e z1 ⟨rfl, hx⟩
  have E_z1 : Pm G o w z1 := Ext.pm hx G o
  have hP_z1 : Pv z1 G o L := hP_w.ext hx
  clear hP_w
  clear hx
  go_wp2_with fail
  refine (dnoted G o _ hP_z1 HLEN.out _ HL_39.out _ HL_40.out _ HL_51.out _ HL_52.out _ HL_53.out _ HL_54.out _ HL_58.out).mono ?_
  rintro e z2 ⟨rfl, hp, hm⟩
  have hP_z2 : Pv z2 G o (((iprop ((x51 == 2) && (x58 == 4) && x54) L).set 39 (.bool (x39 || x52))).set 40 (.bool (x40 || x53))) := hp
  have E_z2 : Pm G o w z2 := E_z1.trans hm
  clear hP_z1 E_z1
  clear hp hm
  go_wp2_with fail
  refine (dagreement X rst G o _ hP_z2 (len_set' (len_set' (iprop_len HLEN.out))) _ ((get_ne (by decide)).trans ((get_ne (by decide)).trans ((iprop_ne (by decide)).trans HL_3.out))) _ ((get_ne (by decide)).trans ((get_ne (by decide)).trans ((iprop_ne (by decide)).trans HL_51.out))) _ ((get_ne (by decide)).trans ((get_ne (by decide)).trans ((iprop_ne (by decide)).trans HL_55.out))) ((E_z2.1.cell (p := ⟨X, 1, none⟩) hXl hXG).trans HR.out)).mono ?_
  rintro e z3 ⟨rfl, hp, hm⟩
  have hP_z3 : Pv z3 G o (iagr (rst && !x3 && (x51 == 2) && x55) (((iprop ((x51 == 2) && (x58 == 4) && x54) L).set 39 (.bool (x39 || x52))).set 40 (.bool (x40 || x53)))) := hp
  have E_z3 : Pm G o w z3 := E_z2.trans hm
  clear hP_z2 E_z2
  clear hp hm
  go_wp2_with (first
    | fail
    | ((with_reducible refine at_load 24 ?_); refine wpList_load_mid rfl 24 _ rfl G (o + 64) rfl [.int .i64 x64, .int .i64 x65, .int .i64 x66, .int .i64 x67] _ (hP_z3.range (j := 64) (n := 4) ((seg_fn (fun i h1 h2 => iagr_ne (by omega) (by omega))).trans ((seg_ne (by decide)).trans ((seg_ne (by decide)).trans ((seg_fn (fun i h1 h2 => iprop_ne (by omega))).trans HS_64.out)))) (by decide)) Try.underlying24 rfl (by kernel_rfl) ?_))
  refine (ref_waits _ _ _ _ _ r1 r2 r3 r4 r5 r6).mono ?_
  rintro e z4 ⟨rfl, hx⟩
  have E_z4 : Pm G o w z4 := E_z3.ext hx
  have hP_z4 : Pv z4 G o (iagr (rst && !x3 && (x51 == 2) && x55) (((iprop ((x51 == 2) && (x58 == 4) && x54) L).set 39 (.bool (x39 || x52))).set 40 (.bool (x40 || x53)))) := hP_z3.ext hx
  clear hP_z3 E_z3
  clear hx
  go_wp2_with (first
    | fail
    | ((with_reducible refine at_store 3 ?_); refine st_pv rfl rfl 3 _ _ rfl G o 11 _ hP_z4 _ #[.int .i64 (waitsV x64 x65 x66)] rfl rfl rfl (by exact (by decide : 11 + 1 ≤ 89)) (by kernel_rfl) rfl ?_
       intro z5 hp hm
       replace hp := pv_one hp (iagr_len (len_set' (len_set' (iprop_len HLEN.out)))) (by decide)
       have hP_z5 := hp
       have E_z5 : Pm G o w z5 := E_z4.trans hm
       clear hP_z4 E_z4
       clear hp hm)
    | ((with_reducible refine at_store 4 ?_); refine st_pv rfl rfl 4 _ _ rfl G o 36 _ hP_z5 _ #[.bool false] rfl rfl rfl (by exact (by decide : 36 + 1 ≤ 89)) (by kernel_rfl) rfl ?_
       intro z6 hp hm
       replace hp := pv_one hp (len_set' (iagr_len (len_set' (len_set' (iprop_len HLEN.out))))) (by decide)
       have hP_z6 := hp
       have E_z6 : Pm G o w z6 := E_z5.trans hm
       clear hP_z5 E_z5
       clear hp hm))
  replace hP_z6 : Pv z6 G o ((((iagr (rst && !x3 && (x51 == 2) && x55) (((iprop ((x51 == 2) && (x58 == 4) && x54) L).set 39 (.bool (x39 || x52))).set 40 (.bool (x40 || x53)))).set 11 (.int .i64 (waitsV x64 x65 x66))).set 36 (.bool false)).set 18 (.int .i64 2)) := by
    rw [set_id ((get_ne (by decide)).trans ((get_ne (by decide)).trans ((iagr_ne (by decide) (by decide)).trans ((get_ne (by decide)).trans ((get_ne (by decide)).trans ((iprop_ne (by decide)).trans HL_18.out))))))]
    exact hP_z6
  first
    | go_end0
    | (simp only [Exit.inBlock, Exit.then]; refine bodyPost_ret (results_none rfl _ _ _) rfl ?_)
    | refine bodyPost_ret (results_none rfl _ _ _) rfl ?_
  exact ⟨rfl, hP_z6, E_z6⟩
set_option maxRecDepth 100000 in
set_option maxHeartbeats 1000000 in
theorem dhear0 (X : Nat) (rst : Bool) {w : World} (G o : Nat) (L : List Value) (hP_w : Pv w G o L) (hl : L.length = 89) (x3 : Bool) (h3 : L[3]? = some (.bool x3)) (x22 : Bool) (h22 : L[22]? = some (.bool x22)) (x39 : Bool) (h39 : L[39]? = some (.bool x39)) (x40 : Bool) (h40 : L[40]? = some (.bool x40)) (x47 : Bool) (h47 : L[47]? = some (.bool x47)) (x51 : Int) (h51 : L[51]? = some (.int .i64 x51)) (x52 : Bool) (h52 : L[52]? = some (.bool x52)) (x53 : Bool) (h53 : L[53]? = some (.bool x53)) (x54 : Bool) (h54 : L[54]? = some (.bool x54)) (x55 : Bool) (h55 : L[55]? = some (.bool x55)) (x56 : Bool) (h56 : L[56]? = some (.bool x56)) (x57 : Bool) (h57 : L[57]? = some (.bool x57)) (x58 : Int) (h58 : L[58]? = some (.int .i64 x58)) (x59 : Int) (h59 : L[59]? = some (.int .u64 x59)) (x60 : Int) (h60 : L[60]? = some (.int .u32 x60)) (x61 : Int) (h61 : L[61]? = some (.int .u64 x61)) (x62 : Int) (h62 : L[62]? = some (.int .u16 x62)) (x63 : Int) (h63 : L[63]? = some (.int .u16 x63)) (x64 : Int) (h64 : L[64]? = some (.int .i64 x64)) (x65 : Int) (h65 : L[65]? = some (.int .i64 x65)) (x66 : Int) (h66 : L[66]? = some (.int .i64 x66)) (x67 : Int) (h67 : L[67]? = some (.int .i64 x67)) (x68 : Int) (h68 : L[68]? = some (.int .u64 x68)) (x69 : Int) (h69 : L[69]? = some (.int .u32 x69)) (x70 : Int) (h70 : L[70]? = some (.int .u64 x70)) (x71 : Int) (h71 : L[71]? = some (.int .u16 x71)) (x72 : Int) (h72 : L[72]? = some (.int .u16 x72)) (x86 : Int) (h86 : L[86]? = some (.int .i64 x86)) (hT : Typed PL L) (hc : w.cell? ⟨X, 1, none⟩ = some (.bool rst)) (hXl : X < w.heap.size) (hXG : X ≠ G) (h18 : L[18]? = some (.int .i64 2)) (r1 : 0 ≤ x64) (r2 : x64 ≤ 65535) (r3 : 0 ≤ x65) (r4 : x65 ≤ 65535) (r5 : 0 ≤ x66) (r6 : x66 ≤ 65535) (hcls : clsL L = 0) : Calls Try.prog 39 #[.pointer (some ⟨X, 0, none⟩), .pointer (some ⟨G, o, none⟩)] w fun e w' => e = .returned (.tuple #[]) ∧ Pv w' G o (dfin (isup x22 x47 x86 ((x51 == 2) && (x58 == 4) && x54) (rst && !x3 && (x51 == 2) && x55) (x39 || x52) (x40 || x53) (decide ((c4 x68 x69 x70 x71 x59 x60 x61 x62) < 0)) [.int .u64 x59, .int .u32 x60, .int .u64 x61, .int .u16 x62, .int .u16 x63] [.int .i64 x64, .int .i64 x65, .int .i64 x66, .int .i64 x67] (waitsV x64 x65 x66) L)) ∧ Pm G o w w' := by
  obtain ⟨ls, hls⟩ : ∃ b, (decide ((c4 x68 x69 x70 x71 x59 x60 x61 x62) < 0)) = b := ⟨_, rfl⟩
  rw [hls]
  have HLS := Lib.hid hls
  clear hls
  obtain ⟨ag, hag⟩ : ∃ b, (rst && !x3 && (x51 == 2) && x55) = b := ⟨_, rfl⟩
  rw [hag]
  have HAG := Lib.hid hag
  clear hag
  cases ag
  · by_cases e86 : x86 = 3
    · subst e86
      cases ls
      · refine res_pv (L1 := dfin (isup2 x22 false ((x51 == 2) && (x58 == 4) && x54) false (x39 || x52) (x40 || x53) [.int .u64 x59, .int .u32 x60, .int .u64 x61, .int .u16 x62, .int .u16 x63] [.int .i64 x64, .int .i64 x65, .int .i64 x66, .int .i64 x67] (waitsV x64 x65 x66) L)) ?_ (by unfold isup isup2; simp)
        have HT := Lib.hid hT
        have HC := Lib.hid hcls
        have HR := Lib.hid hc
        clear hT hcls hc
        have HL_18 := Lib.hid h18
        clear h18
        have hG := hP_w.lt
        have HLEN := Lib.hid hl
        have HL_3 := Lib.hid h3
        have HL_22 := Lib.hid h22
        have HL_39 := Lib.hid h39
        have HL_40 := Lib.hid h40
        have HL_47 := Lib.hid h47
        have HL_51 := Lib.hid h51
        have HL_52 := Lib.hid h52
        have HL_53 := Lib.hid h53
        have HL_54 := Lib.hid h54
        have HL_55 := Lib.hid h55
        have HL_56 := Lib.hid h56
        have HL_57 := Lib.hid h57
        have HL_58 := Lib.hid h58
        have HL_59 := Lib.hid h59
        have HL_60 := Lib.hid h60
        have HL_61 := Lib.hid h61
        have HL_62 := Lib.hid h62
        have HL_63 := Lib.hid h63
        have HL_64 := Lib.hid h64
        have HL_65 := Lib.hid h65
        have HL_66 := Lib.hid h66
        have HL_67 := Lib.hid h67
        have HL_68 := Lib.hid h68
        have HL_69 := Lib.hid h69
        have HL_70 := Lib.hid h70
        have HL_71 := Lib.hid h71
        have HL_72 := Lib.hid h72
        have HL_86 := Lib.hid h86
        have HS_59 := Lib.hid (seg_of (L := L) (j := 59) (l := [.int .u64 x59, .int .u32 x60, .int .u64 x61, .int .u16 x62, .int .u16 x63]) (by rw [hl]; exact (by decide : 59 + 5 ≤ 89)) (fun i hi => by
          match i, hi with
          | 0, _ => exact HL_59.out
          | 1, _ => exact HL_60.out
          | 2, _ => exact HL_61.out
          | 3, _ => exact HL_62.out
          | 4, _ => exact HL_63.out
          | i + 5, hi => simp at hi; omega))
        have HS_64 := Lib.hid (seg_of (L := L) (j := 64) (l := [.int .i64 x64, .int .i64 x65, .int .i64 x66, .int .i64 x67]) (by rw [hl]; exact (by decide : 64 + 4 ≤ 89)) (fun i hi => by
          match i, hi with
          | 0, _ => exact HL_64.out
          | 1, _ => exact HL_65.out
          | 2, _ => exact HL_66.out
          | 3, _ => exact HL_67.out
          | i + 4, hi => simp at hi; omega))
        have HS_68 := Lib.hid (seg_of (L := L) (j := 68) (l := [.int .u64 x68, .int .u32 x69, .int .u64 x70, .int .u16 x71, .int .u16 x72]) (by rw [hl]; exact (by decide : 68 + 5 ≤ 89)) (fun i hi => by
          match i, hi with
          | 0, _ => exact HL_68.out
          | 1, _ => exact HL_69.out
          | 2, _ => exact HL_70.out
          | 3, _ => exact HL_71.out
          | 4, _ => exact HL_72.out
          | i + 5, hi => simp at hi; omega))
        clear hl h3 h22 h39 h40 h47 h51 h52 h53 h54 h55 h56 h57 h58 h59 h60 h61 h62 h63 h64 h65 h66 h67 h68 h69 h70 h71 h72 h86
        have HRS := Lib.hid (show (Try.prog.info? 51).map (·.size) = some L.length by rw [HLEN.out]; exact size_port)
        have HRL := Lib.hid (show w.rangeAt G o L from hP_w.range (j := 0) (n := 89) (by rw [List.drop_zero, List.take_of_length_le (by rw [HLEN.out]; exact Nat.le_refl 89)]) (by decide))
        go_enter Try.func39, Try.ntmps39
        go_wp2_with (first
          | fail
          | ((with_reducible refine at_load 51 ?_); refine wpList_load_mid rfl 51 _ rfl G o rfl L _ HRL.out Try.underlying51 rfl HRS.out ?_))
        refine (asi (rclass_L _ HT.out) (show ((clsL L : Nat) : Int) = 0 by rw [HC.out]; rfl)).mono ?_
        rintro e z1 ⟨rfl, hx⟩
        have E_z1 : Pm G o w z1 := Ext.pm hx G o
        have hP_z1 : Pv z1 G o L := hP_w.ext hx
        clear hP_w
        clear hx
        go_wp2_with (first
          | fail
          | ((with_reducible refine at_store 4 ?_); refine st_pv rfl rfl 4 _ _ rfl G o 23 _ hP_z1 _ #[.bool false] rfl rfl rfl (by exact (by decide : 23 + 1 ≤ 89)) (by kernel_rfl) rfl ?_
             intro z2 hp hm
             replace hp := pv_one hp HLEN.out (by decide)
             have hP_z2 := hp
             have E_z2 : Pm G o w z2 := E_z1.trans hm
             clear hP_z1 E_z1
             clear hp hm)
          | ((with_reducible refine at_store 4 ?_); refine st_pv rfl rfl 4 _ _ rfl G o 34 _ hP_z2 _ #[.bool false] rfl rfl rfl (by exact (by decide : 34 + 1 ≤ 89)) (by kernel_rfl) rfl ?_
             intro z3 hp hm
             replace hp := pv_one hp (len_set' HLEN.out) (by decide)
             have hP_z3 := hp
             have E_z3 : Pm G o w z3 := E_z2.trans hm
             clear hP_z2 E_z2
             clear hp hm))
        refine (dnoted G o _ hP_z3 (len_set' (len_set' HLEN.out)) _ ((get_ne (by decide)).trans ((get_ne (by decide)).trans HL_39.out)) _ ((get_ne (by decide)).trans ((get_ne (by decide)).trans HL_40.out)) _ ((get_ne (by decide)).trans ((get_ne (by decide)).trans HL_51.out)) _ ((get_ne (by decide)).trans ((get_ne (by decide)).trans HL_52.out)) _ ((get_ne (by decide)).trans ((get_ne (by decide)).trans HL_53.out)) _ ((get_ne (by decide)).trans ((get_ne (by decide)).trans HL_54.out)) _ ((get_ne (by decide)).trans ((get_ne (by decide)).trans HL_58.out))).mono ?_
        rintro e z4 ⟨rfl, hp, hm⟩
        have hP_z4 : Pv z4 G o (((iprop ((x51 == 2) && (x58 == 4) && x54) ((L.set 23 (.bool false)).set 34 (.bool false))).set 39 (.bool (x39 || x52))).set 40 (.bool (x40 || x53))) := hp
        have E_z4 : Pm G o w z4 := E_z3.trans hm
        clear hP_z3 E_z3
        clear hp hm
        go_wp2_with fail
        refine beginL (S := fun W' => Ext z4 W') (by kernel_rfl) ?_
        intro wd hqx
        have hq0 : Ext z4 wd := hqx
        refine tLp 0 ((.pointer (some ⟨G, o, none⟩))) rfl hq0 ?_
        simp only [ps]
        refine tLp 1 ((.pointer (some ⟨G, o, none⟩))) rfl hq0 ?_
        simp only [ps]
        refine tLp 2 ((.pointer (some ⟨G, o + 68, none⟩))) rfl hq0 ?_
        simp only [ps]
        refine tL 3 (_) rfl (yieldsIf_load_mid rfl 28 _ rfl G (o + 68) rfl ([.int .u64 x68, .int .u32 x69, .int .u64 x70, .int .u16 x71, .int .u16 x72]) _ (fun W' hW' => (hP_z4.ext hW').range (j := 68) (n := 5) ((seg_ne (by decide)).trans ((seg_ne (by decide)).trans ((seg_fn (fun i h1 h2 => iprop_ne (by omega))).trans ((seg_ne (by decide)).trans ((seg_ne (by decide)).trans HS_68.out))))) (by decide)) Try.underlying28 rfl (by kernel_rfl)) hq0 ?_
        simp only [ps]
        refine tLp 4 ((.pointer (some ⟨G, o, none⟩))) rfl hq0 ?_
        simp only [ps]
        refine tLp 5 ((.pointer (some ⟨G, o, none⟩))) rfl hq0 ?_
        simp only [ps]
        refine tLp 6 ((.pointer (some ⟨G, o + 51, none⟩))) rfl hq0 ?_
        simp only [ps]
        refine tLp 7 ((.pointer (some ⟨G, o + 59, none⟩))) rfl hq0 ?_
        simp only [ps]
        refine tL 8 (_) rfl (yieldsIf_load_mid rfl 28 _ rfl G (o + 59) rfl ([.int .u64 x59, .int .u32 x60, .int .u64 x61, .int .u16 x62, .int .u16 x63]) _ (fun W' hW' => (hP_z4.ext hW').range (j := 59) (n := 5) ((seg_ne (by decide)).trans ((seg_ne (by decide)).trans ((seg_fn (fun i h1 h2 => iprop_ne (by omega))).trans ((seg_ne (by decide)).trans ((seg_ne (by decide)).trans HS_59.out))))) (by decide)) Try.underlying28 rfl (by kernel_rfl)) hq0 ?_
        simp only [ps]
        refine runL (i := 9) rfl rfl (by kernel_rfl) (fun K hK => ?_)
        go_simp
        refine (asb (ref_less _ _ _ _ _ _ _ _ _ _ _) HLS.out).mono ?_
        rintro e wc1 ⟨rfl, hx⟩
        have hq1 := hq0.trans hx
        refine hK.out _ _ hq1 (fun hHeld => ?_)
        try simp only [ps]
        clear hK K hHeld
        refine tLp 10 ((.bool false)) rfl hq1 ?_
        simp only [ps]
        refine wpAnyH_done (by kernel_rfl) ?_ _
        generalize wc1 = z5 at *
        have hP_z5 : Pv z5 G o (((iprop ((x51 == 2) && (x58 == 4) && x54) ((L.set 23 (.bool false)).set 34 (.bool false))).set 39 (.bool (x39 || x52))).set 40 (.bool (x40 || x53))) := hP_z4.ext hq1
        have E_z5 : Pm G o w z5 := E_z4.ext hq1
        have p86_z5 : z5.cell? ⟨G, o + 86, none⟩ = some (.int .i64 3) := (hP_z5.cell (j := 86) (by decide)).trans ((get_ne (by decide)).trans ((get_ne (by decide)).trans ((iprop_ne (by decide)).trans ((get_ne (by decide)).trans ((get_ne (by decide)).trans HL_86.out)))))
        clear hP_z4 E_z4
        clear hq0 hq1
        go_wp2_with fail
        replace hP_z5 : Pv z5 G o ((((iprop ((x51 == 2) && (x58 == 4) && x54) ((L.set 23 (.bool false)).set 34 (.bool false))).set 39 (.bool (x39 || x52))).set 40 (.bool (x40 || x53))).set 22 (.bool x22)) := by
          rw [set_id ((get_ne (by decide)).trans ((get_ne (by decide)).trans ((iprop_ne (by decide)).trans ((get_ne (by decide)).trans ((get_ne (by decide)).trans HL_22.out)))))]
          exact hP_z5
        refine ((res_pv (dagreement X rst G o _ hP_z5 (len_set' (len_set' (len_set' (iprop_len (len_set' (len_set' HLEN.out)))))) _ ((get_ne (by decide)).trans ((get_ne (by decide)).trans ((get_ne (by decide)).trans ((iprop_ne (by decide)).trans ((get_ne (by decide)).trans ((get_ne (by decide)).trans HL_3.out)))))) _ ((get_ne (by decide)).trans ((get_ne (by decide)).trans ((get_ne (by decide)).trans ((iprop_ne (by decide)).trans ((get_ne (by decide)).trans ((get_ne (by decide)).trans HL_51.out)))))) _ ((get_ne (by decide)).trans ((get_ne (by decide)).trans ((get_ne (by decide)).trans ((iprop_ne (by decide)).trans ((get_ne (by decide)).trans ((get_ne (by decide)).trans HL_55.out)))))) ((E_z5.1.cell (p := ⟨X, 1, none⟩) hXl hXG).trans HR.out)) (by rw [HAG.out]))).mono ?_
        rintro e z6 ⟨rfl, hp, hm⟩
        have hP_z6 : Pv z6 G o (iagr false ((((iprop ((x51 == 2) && (x58 == 4) && x54) ((L.set 23 (.bool false)).set 34 (.bool false))).set 39 (.bool (x39 || x52))).set 40 (.bool (x40 || x53))).set 22 (.bool x22))) := hp
        have E_z6 : Pm G o w z6 := E_z5.trans hm
        clear hP_z5 E_z5 p86_z5
        clear hp hm
        have p23_z6 : z6.cell? ⟨G, o + 23, none⟩ = some (.bool false) := (hP_z6.cell (j := 23) (by decide)).trans (iagr_23 (len_set' (len_set' (len_set' (iprop_len (len_set' (len_set' HLEN.out)))))))
        go_wp2_with (first
          | fail
          | ((with_reducible refine at_store 4 ?_); refine st_pv rfl rfl 4 _ _ rfl G o 47 _ hP_z6 _ #[.bool false] rfl rfl rfl (by exact (by decide : 47 + 1 ≤ 89)) (by kernel_rfl) rfl ?_
             intro z7 hp hm
             replace hp := pv_one hp (iagr_len (len_set' (len_set' (len_set' (iprop_len (len_set' (len_set' HLEN.out))))))) (by decide)
             have hP_z7 := hp
             have E_z7 : Pm G o w z7 := E_z6.trans hm
             clear hP_z6 E_z6 p23_z6
             clear hp hm)
          | ((with_reducible refine at_load 28 ?_); refine wpList_load_mid rfl 28 _ rfl G (o + 59) rfl [.int .u64 x59, .int .u32 x60, .int .u64 x61, .int .u16 x62, .int .u16 x63] _ (hP_z7.range (j := 59) (n := 5) ((seg_ne (by decide)).trans ((seg_fn (fun i h1 h2 => iagr_ne (by omega) (by omega))).trans ((seg_ne (by decide)).trans ((seg_ne (by decide)).trans ((seg_ne (by decide)).trans ((seg_fn (fun i h1 h2 => iprop_ne (by omega))).trans ((seg_ne (by decide)).trans ((seg_ne (by decide)).trans HS_59.out)))))))) (by decide)) Try.underlying28 rfl (by kernel_rfl) ?_)
          | ((with_reducible refine at_store 28 ?_); refine st_pv rfl rfl 28 _ _ rfl G o 68 _ hP_z7 _ #[.int .u64 x59, .int .u32 x60, .int .u64 x61, .int .u16 x62, .int .u16 x63] rfl rfl rfl (by exact (by decide : 68 + 5 ≤ 89)) (by kernel_rfl) rfl ?_
             intro z8 hp hm
             have hP_z8 : Pv z8 G o (setL ((iagr false ((((iprop ((x51 == 2) && (x58 == 4) && x54) ((L.set 23 (.bool false)).set 34 (.bool false))).set 39 (.bool (x39 || x52))).set 40 (.bool (x40 || x53))).set 22 (.bool x22))).set 47 (.bool false)) 68 [.int .u64 x59, .int .u32 x60, .int .u64 x61, .int .u16 x62, .int .u16 x63]) := hp
             have E_z8 : Pm G o w z8 := E_z7.trans hm
             clear hP_z7 E_z7
             clear hp hm)
          | ((with_reducible refine at_load 24 ?_); refine wpList_load_mid rfl 24 _ rfl G (o + 64) rfl [.int .i64 x64, .int .i64 x65, .int .i64 x66, .int .i64 x67] _ (hP_z8.range (j := 64) (n := 4) ((seg_out (len_set' (iagr_len (len_set' (len_set' (len_set' (iprop_len (len_set' (len_set' HLEN.out)))))))) (by exact (by decide : 68 + 5 ≤ 89)) (by exact (by decide : 68 + 5 ≤ 64 ∨ 64 + 4 ≤ 68))).trans ((seg_ne (by decide)).trans ((seg_fn (fun i h1 h2 => iagr_ne (by omega) (by omega))).trans ((seg_ne (by decide)).trans ((seg_ne (by decide)).trans ((seg_ne (by decide)).trans ((seg_fn (fun i h1 h2 => iprop_ne (by omega))).trans ((seg_ne (by decide)).trans ((seg_ne (by decide)).trans HS_64.out))))))))) (by decide)) Try.underlying24 rfl (by kernel_rfl) ?_)
          | ((with_reducible refine at_store 24 ?_); refine st_pv rfl rfl 24 _ _ rfl G o 78 _ hP_z8 _ #[.int .i64 x64, .int .i64 x65, .int .i64 x66, .int .i64 x67] rfl rfl rfl (by exact (by decide : 78 + 4 ≤ 89)) (by kernel_rfl) rfl ?_
             intro z9 hp hm
             have hP_z9 : Pv z9 G o (setL (setL ((iagr false ((((iprop ((x51 == 2) && (x58 == 4) && x54) ((L.set 23 (.bool false)).set 34 (.bool false))).set 39 (.bool (x39 || x52))).set 40 (.bool (x40 || x53))).set 22 (.bool x22))).set 47 (.bool false)) 68 [.int .u64 x59, .int .u32 x60, .int .u64 x61, .int .u16 x62, .int .u16 x63]) 78 [.int .i64 x64, .int .i64 x65, .int .i64 x66, .int .i64 x67]) := hp
             have E_z9 : Pm G o w z9 := E_z8.trans hm
             clear hP_z8 E_z8
             clear hp hm)
          | ((with_reducible refine at_load 24 ?_); refine wpList_load_mid rfl 24 _ rfl G (o + 78) rfl [.int .i64 x64, .int .i64 x65, .int .i64 x66, .int .i64 x67] _ (hP_z9.range (j := 78) (n := 4) (seg_same (vs := [.int .i64 x64, .int .i64 x65, .int .i64 x66, .int .i64 x67]) (len_setL (len_set' (iagr_len (len_set' (len_set' (len_set' (iprop_len (len_set' (len_set' HLEN.out)))))))) (by exact (by decide : 68 + 5 ≤ 89))) (by exact (by decide : 78 + 4 ≤ 89))) (by decide)) Try.underlying24 rfl (by kernel_rfl) ?_))
        refine (ref_waits _ _ _ _ _ r1 r2 r3 r4 r5 r6).mono ?_
        rintro e z10 ⟨rfl, hx⟩
        have E_z10 : Pm G o w z10 := E_z9.ext hx
        have hP_z10 : Pv z10 G o (setL (setL ((iagr false ((((iprop ((x51 == 2) && (x58 == 4) && x54) ((L.set 23 (.bool false)).set 34 (.bool false))).set 39 (.bool (x39 || x52))).set 40 (.bool (x40 || x53))).set 22 (.bool x22))).set 47 (.bool false)) 68 [.int .u64 x59, .int .u32 x60, .int .u64 x61, .int .u16 x62, .int .u16 x63]) 78 [.int .i64 x64, .int .i64 x65, .int .i64 x66, .int .i64 x67]) := hP_z9.ext hx
        clear hP_z9 E_z9
        clear hx
        go_wp2_with (first
          | fail
          | ((with_reducible refine at_store 3 ?_); refine st_pv rfl rfl 3 _ _ rfl G o 11 _ hP_z10 _ #[.int .i64 (waitsV x64 x65 x66)] rfl rfl rfl (by exact (by decide : 11 + 1 ≤ 89)) (by kernel_rfl) rfl ?_
             intro z11 hp hm
             replace hp := pv_one hp (len_setL (len_setL (len_set' (iagr_len (len_set' (len_set' (len_set' (iprop_len (len_set' (len_set' HLEN.out)))))))) (by exact (by decide : 68 + 5 ≤ 89))) (by exact (by decide : 78 + 4 ≤ 89))) (by decide)
             have hP_z11 := hp
             have E_z11 : Pm G o w z11 := E_z10.trans hm
             clear hP_z10 E_z10
             clear hp hm))
        refine ((res_pv (daged 3 2 G o _ hP_z11 (len_set' (len_setL (len_setL (len_set' (iagr_len (len_set' (len_set' (len_set' (iprop_len (len_set' (len_set' HLEN.out)))))))) (by exact (by decide : 68 + 5 ≤ 89))) (by exact (by decide : 78 + 4 ≤ 89))))) (dage_eq 3 2 _))).mono ?_
        rintro e z12 ⟨rfl, hp, hm⟩
        have hP_z12 : Pv z12 G o ((((((setL (setL ((iagr false ((((iprop ((x51 == 2) && (x58 == 4) && x54) ((L.set 23 (.bool false)).set 34 (.bool false))).set 39 (.bool (x39 || x52))).set 40 (.bool (x40 || x53))).set 22 (.bool x22))).set 47 (.bool false)) 68 [.int .u64 x59, .int .u32 x60, .int .u64 x61, .int .u16 x62, .int .u16 x63]) 78 [.int .i64 x64, .int .i64 x65, .int .i64 x66, .int .i64 x67]).set 11 (.int .i64 (waitsV x64 x65 x66))).set 86 (.int .i64 3)).set 43 (.bool true)).set 44 (.bool false)).set 18 (.int .i64 2)) := hp
        have E_z12 : Pm G o w z12 := E_z11.trans hm
        clear hP_z11 E_z11
        clear hp hm
        go_wp2_with (first
          | fail
          | ((with_reducible refine at_store 4 ?_); refine st_pv rfl rfl 4 _ _ rfl G o 36 _ hP_z12 _ #[.bool false] rfl rfl rfl (by exact (by decide : 36 + 1 ≤ 89)) (by kernel_rfl) rfl ?_
             intro z13 hp hm
             replace hp := pv_one hp (len_set' (len_set' (len_set' (len_set' (len_set' (len_setL (len_setL (len_set' (iagr_len (len_set' (len_set' (len_set' (iprop_len (len_set' (len_set' HLEN.out)))))))) (by exact (by decide : 68 + 5 ≤ 89))) (by exact (by decide : 78 + 4 ≤ 89)))))))) (by decide)
             have hP_z13 := hp
             have E_z13 : Pm G o w z13 := E_z12.trans hm
             clear hP_z12 E_z12
             clear hp hm))
        have hfin : (((((((setL (setL ((iagr false ((((iprop ((x51 == 2) && (x58 == 4) && x54) ((L.set 23 (.bool false)).set 34 (.bool false))).set 39 (.bool (x39 || x52))).set 40 (.bool (x40 || x53))).set 22 (.bool x22))).set 47 (.bool false)) 68 [.int .u64 x59, .int .u32 x60, .int .u64 x61, .int .u16 x62, .int .u16 x63]) 78 [.int .i64 x64, .int .i64 x65, .int .i64 x66, .int .i64 x67]).set 11 (.int .i64 (waitsV x64 x65 x66))).set 86 (.int .i64 3)).set 43 (.bool true)).set 44 (.bool false)).set 18 (.int .i64 2)).set 36 (.bool false)) = dfin (isup2 x22 false ((x51 == 2) && (x58 == 4) && x54) false (x39 || x52) (x40 || x53) [.int .u64 x59, .int .u32 x60, .int .u64 x61, .int .u16 x62, .int .u16 x63] [.int .i64 x64, .int .i64 x65, .int .i64 x66, .int .i64 x67] (waitsV x64 x65 x66) L) := by
          unfold dfin isup2 iask ichg
          exact fin_comm _ _ _ _ _ _
        go_end0
        exact ⟨rfl, hfin ▸ hP_z13, E_z13⟩
      · refine res_pv (L1 := dfin (isup2 false false ((x51 == 2) && (x58 == 4) && x54) false (x39 || x52) (x40 || x53) [.int .u64 x59, .int .u32 x60, .int .u64 x61, .int .u16 x62, .int .u16 x63] [.int .i64 x64, .int .i64 x65, .int .i64 x66, .int .i64 x67] (waitsV x64 x65 x66) L)) ?_ (by unfold isup isup2; simp)
        have HT := Lib.hid hT
        have HC := Lib.hid hcls
        have HR := Lib.hid hc
        clear hT hcls hc
        have HL_18 := Lib.hid h18
        clear h18
        have hG := hP_w.lt
        have HLEN := Lib.hid hl
        have HL_3 := Lib.hid h3
        have HL_22 := Lib.hid h22
        have HL_39 := Lib.hid h39
        have HL_40 := Lib.hid h40
        have HL_47 := Lib.hid h47
        have HL_51 := Lib.hid h51
        have HL_52 := Lib.hid h52
        have HL_53 := Lib.hid h53
        have HL_54 := Lib.hid h54
        have HL_55 := Lib.hid h55
        have HL_56 := Lib.hid h56
        have HL_57 := Lib.hid h57
        have HL_58 := Lib.hid h58
        have HL_59 := Lib.hid h59
        have HL_60 := Lib.hid h60
        have HL_61 := Lib.hid h61
        have HL_62 := Lib.hid h62
        have HL_63 := Lib.hid h63
        have HL_64 := Lib.hid h64
        have HL_65 := Lib.hid h65
        have HL_66 := Lib.hid h66
        have HL_67 := Lib.hid h67
        have HL_68 := Lib.hid h68
        have HL_69 := Lib.hid h69
        have HL_70 := Lib.hid h70
        have HL_71 := Lib.hid h71
        have HL_72 := Lib.hid h72
        have HL_86 := Lib.hid h86
        have HS_59 := Lib.hid (seg_of (L := L) (j := 59) (l := [.int .u64 x59, .int .u32 x60, .int .u64 x61, .int .u16 x62, .int .u16 x63]) (by rw [hl]; exact (by decide : 59 + 5 ≤ 89)) (fun i hi => by
          match i, hi with
          | 0, _ => exact HL_59.out
          | 1, _ => exact HL_60.out
          | 2, _ => exact HL_61.out
          | 3, _ => exact HL_62.out
          | 4, _ => exact HL_63.out
          | i + 5, hi => simp at hi; omega))
        have HS_64 := Lib.hid (seg_of (L := L) (j := 64) (l := [.int .i64 x64, .int .i64 x65, .int .i64 x66, .int .i64 x67]) (by rw [hl]; exact (by decide : 64 + 4 ≤ 89)) (fun i hi => by
          match i, hi with
          | 0, _ => exact HL_64.out
          | 1, _ => exact HL_65.out
          | 2, _ => exact HL_66.out
          | 3, _ => exact HL_67.out
          | i + 4, hi => simp at hi; omega))
        have HS_68 := Lib.hid (seg_of (L := L) (j := 68) (l := [.int .u64 x68, .int .u32 x69, .int .u64 x70, .int .u16 x71, .int .u16 x72]) (by rw [hl]; exact (by decide : 68 + 5 ≤ 89)) (fun i hi => by
          match i, hi with
          | 0, _ => exact HL_68.out
          | 1, _ => exact HL_69.out
          | 2, _ => exact HL_70.out
          | 3, _ => exact HL_71.out
          | 4, _ => exact HL_72.out
          | i + 5, hi => simp at hi; omega))
        clear hl h3 h22 h39 h40 h47 h51 h52 h53 h54 h55 h56 h57 h58 h59 h60 h61 h62 h63 h64 h65 h66 h67 h68 h69 h70 h71 h72 h86
        have HRS := Lib.hid (show (Try.prog.info? 51).map (·.size) = some L.length by rw [HLEN.out]; exact size_port)
        have HRL := Lib.hid (show w.rangeAt G o L from hP_w.range (j := 0) (n := 89) (by rw [List.drop_zero, List.take_of_length_le (by rw [HLEN.out]; exact Nat.le_refl 89)]) (by decide))
        go_enter Try.func39, Try.ntmps39
        go_wp2_with (first
          | fail
          | ((with_reducible refine at_load 51 ?_); refine wpList_load_mid rfl 51 _ rfl G o rfl L _ HRL.out Try.underlying51 rfl HRS.out ?_))
        refine (asi (rclass_L _ HT.out) (show ((clsL L : Nat) : Int) = 0 by rw [HC.out]; rfl)).mono ?_
        rintro e z1 ⟨rfl, hx⟩
        have E_z1 : Pm G o w z1 := Ext.pm hx G o
        have hP_z1 : Pv z1 G o L := hP_w.ext hx
        clear hP_w
        clear hx
        go_wp2_with (first
          | fail
          | ((with_reducible refine at_store 4 ?_); refine st_pv rfl rfl 4 _ _ rfl G o 23 _ hP_z1 _ #[.bool false] rfl rfl rfl (by exact (by decide : 23 + 1 ≤ 89)) (by kernel_rfl) rfl ?_
             intro z2 hp hm
             replace hp := pv_one hp HLEN.out (by decide)
             have hP_z2 := hp
             have E_z2 : Pm G o w z2 := E_z1.trans hm
             clear hP_z1 E_z1
             clear hp hm)
          | ((with_reducible refine at_store 4 ?_); refine st_pv rfl rfl 4 _ _ rfl G o 34 _ hP_z2 _ #[.bool false] rfl rfl rfl (by exact (by decide : 34 + 1 ≤ 89)) (by kernel_rfl) rfl ?_
             intro z3 hp hm
             replace hp := pv_one hp (len_set' HLEN.out) (by decide)
             have hP_z3 := hp
             have E_z3 : Pm G o w z3 := E_z2.trans hm
             clear hP_z2 E_z2
             clear hp hm))
        refine (dnoted G o _ hP_z3 (len_set' (len_set' HLEN.out)) _ ((get_ne (by decide)).trans ((get_ne (by decide)).trans HL_39.out)) _ ((get_ne (by decide)).trans ((get_ne (by decide)).trans HL_40.out)) _ ((get_ne (by decide)).trans ((get_ne (by decide)).trans HL_51.out)) _ ((get_ne (by decide)).trans ((get_ne (by decide)).trans HL_52.out)) _ ((get_ne (by decide)).trans ((get_ne (by decide)).trans HL_53.out)) _ ((get_ne (by decide)).trans ((get_ne (by decide)).trans HL_54.out)) _ ((get_ne (by decide)).trans ((get_ne (by decide)).trans HL_58.out))).mono ?_
        rintro e z4 ⟨rfl, hp, hm⟩
        have hP_z4 : Pv z4 G o (((iprop ((x51 == 2) && (x58 == 4) && x54) ((L.set 23 (.bool false)).set 34 (.bool false))).set 39 (.bool (x39 || x52))).set 40 (.bool (x40 || x53))) := hp
        have E_z4 : Pm G o w z4 := E_z3.trans hm
        clear hP_z3 E_z3
        clear hp hm
        go_wp2_with fail
        refine beginL (S := fun W' => Ext z4 W') (by kernel_rfl) ?_
        intro wd hqx
        have hq0 : Ext z4 wd := hqx
        refine tLp 0 ((.pointer (some ⟨G, o, none⟩))) rfl hq0 ?_
        simp only [ps]
        refine tLp 1 ((.pointer (some ⟨G, o, none⟩))) rfl hq0 ?_
        simp only [ps]
        refine tLp 2 ((.pointer (some ⟨G, o + 68, none⟩))) rfl hq0 ?_
        simp only [ps]
        refine tL 3 (_) rfl (yieldsIf_load_mid rfl 28 _ rfl G (o + 68) rfl ([.int .u64 x68, .int .u32 x69, .int .u64 x70, .int .u16 x71, .int .u16 x72]) _ (fun W' hW' => (hP_z4.ext hW').range (j := 68) (n := 5) ((seg_ne (by decide)).trans ((seg_ne (by decide)).trans ((seg_fn (fun i h1 h2 => iprop_ne (by omega))).trans ((seg_ne (by decide)).trans ((seg_ne (by decide)).trans HS_68.out))))) (by decide)) Try.underlying28 rfl (by kernel_rfl)) hq0 ?_
        simp only [ps]
        refine tLp 4 ((.pointer (some ⟨G, o, none⟩))) rfl hq0 ?_
        simp only [ps]
        refine tLp 5 ((.pointer (some ⟨G, o, none⟩))) rfl hq0 ?_
        simp only [ps]
        refine tLp 6 ((.pointer (some ⟨G, o + 51, none⟩))) rfl hq0 ?_
        simp only [ps]
        refine tLp 7 ((.pointer (some ⟨G, o + 59, none⟩))) rfl hq0 ?_
        simp only [ps]
        refine tL 8 (_) rfl (yieldsIf_load_mid rfl 28 _ rfl G (o + 59) rfl ([.int .u64 x59, .int .u32 x60, .int .u64 x61, .int .u16 x62, .int .u16 x63]) _ (fun W' hW' => (hP_z4.ext hW').range (j := 59) (n := 5) ((seg_ne (by decide)).trans ((seg_ne (by decide)).trans ((seg_fn (fun i h1 h2 => iprop_ne (by omega))).trans ((seg_ne (by decide)).trans ((seg_ne (by decide)).trans HS_59.out))))) (by decide)) Try.underlying28 rfl (by kernel_rfl)) hq0 ?_
        simp only [ps]
        refine runL (i := 9) rfl rfl (by kernel_rfl) (fun K hK => ?_)
        go_simp
        refine (asb (ref_less _ _ _ _ _ _ _ _ _ _ _) HLS.out).mono ?_
        rintro e wc1 ⟨rfl, hx⟩
        have hq1 := hq0.trans hx
        refine hK.out _ _ hq1 (fun hHeld => ?_)
        try simp only [ps]
        clear hK K hHeld
        refine tLp 10 ((.bool true)) rfl hq1 ?_
        simp only [ps]
        refine wpAnyH_done (by kernel_rfl) ?_ _
        generalize wc1 = z5 at *
        have hP_z5 : Pv z5 G o (((iprop ((x51 == 2) && (x58 == 4) && x54) ((L.set 23 (.bool false)).set 34 (.bool false))).set 39 (.bool (x39 || x52))).set 40 (.bool (x40 || x53))) := hP_z4.ext hq1
        have E_z5 : Pm G o w z5 := E_z4.ext hq1
        have p86_z5 : z5.cell? ⟨G, o + 86, none⟩ = some (.int .i64 3) := (hP_z5.cell (j := 86) (by decide)).trans ((get_ne (by decide)).trans ((get_ne (by decide)).trans ((iprop_ne (by decide)).trans ((get_ne (by decide)).trans ((get_ne (by decide)).trans HL_86.out)))))
        clear hP_z4 E_z4
        clear hq0 hq1
        go_wp2_with (first
          | fail
          | ((with_reducible refine at_store 4 ?_); refine st_pv rfl rfl 4 _ _ rfl G o 22 _ hP_z5 _ #[.bool false] rfl rfl rfl (by exact (by decide : 22 + 1 ≤ 89)) (by kernel_rfl) rfl ?_
             intro z6 hp hm
             replace hp := pv_one hp (len_set' (len_set' (iprop_len (len_set' (len_set' HLEN.out))))) (by decide)
             have hP_z6 := hp
             have E_z6 : Pm G o w z6 := E_z5.trans hm
             clear hP_z5 E_z5 p86_z5
             clear hp hm))
        refine ((res_pv (dagreement X rst G o _ hP_z6 (len_set' (len_set' (len_set' (iprop_len (len_set' (len_set' HLEN.out)))))) _ ((get_ne (by decide)).trans ((get_ne (by decide)).trans ((get_ne (by decide)).trans ((iprop_ne (by decide)).trans ((get_ne (by decide)).trans ((get_ne (by decide)).trans HL_3.out)))))) _ ((get_ne (by decide)).trans ((get_ne (by decide)).trans ((get_ne (by decide)).trans ((iprop_ne (by decide)).trans ((get_ne (by decide)).trans ((get_ne (by decide)).trans HL_51.out)))))) _ ((get_ne (by decide)).trans ((get_ne (by decide)).trans ((get_ne (by decide)).trans ((iprop_ne (by decide)).trans ((get_ne (by decide)).trans ((get_ne (by decide)).trans HL_55.out)))))) ((E_z6.1.cell (p := ⟨X, 1, none⟩) hXl hXG).trans HR.out)) (by rw [HAG.out]))).mono ?_
        rintro e z7 ⟨rfl, hp, hm⟩
        have hP_z7 : Pv z7 G o (iagr false ((((iprop ((x51 == 2) && (x58 == 4) && x54) ((L.set 23 (.bool false)).set 34 (.bool false))).set 39 (.bool (x39 || x52))).set 40 (.bool (x40 || x53))).set 22 (.bool false))) := hp
        have E_z7 : Pm G o w z7 := E_z6.trans hm
        clear hP_z6 E_z6
        clear hp hm
        have p23_z7 : z7.cell? ⟨G, o + 23, none⟩ = some (.bool false) := (hP_z7.cell (j := 23) (by decide)).trans (iagr_23 (len_set' (len_set' (len_set' (iprop_len (len_set' (len_set' HLEN.out)))))))
        go_wp2_with (first
          | fail
          | ((with_reducible refine at_store 4 ?_); refine st_pv rfl rfl 4 _ _ rfl G o 47 _ hP_z7 _ #[.bool false] rfl rfl rfl (by exact (by decide : 47 + 1 ≤ 89)) (by kernel_rfl) rfl ?_
             intro z8 hp hm
             replace hp := pv_one hp (iagr_len (len_set' (len_set' (len_set' (iprop_len (len_set' (len_set' HLEN.out))))))) (by decide)
             have hP_z8 := hp
             have E_z8 : Pm G o w z8 := E_z7.trans hm
             clear hP_z7 E_z7 p23_z7
             clear hp hm)
          | ((with_reducible refine at_load 28 ?_); refine wpList_load_mid rfl 28 _ rfl G (o + 59) rfl [.int .u64 x59, .int .u32 x60, .int .u64 x61, .int .u16 x62, .int .u16 x63] _ (hP_z8.range (j := 59) (n := 5) ((seg_ne (by decide)).trans ((seg_fn (fun i h1 h2 => iagr_ne (by omega) (by omega))).trans ((seg_ne (by decide)).trans ((seg_ne (by decide)).trans ((seg_ne (by decide)).trans ((seg_fn (fun i h1 h2 => iprop_ne (by omega))).trans ((seg_ne (by decide)).trans ((seg_ne (by decide)).trans HS_59.out)))))))) (by decide)) Try.underlying28 rfl (by kernel_rfl) ?_)
          | ((with_reducible refine at_store 28 ?_); refine st_pv rfl rfl 28 _ _ rfl G o 68 _ hP_z8 _ #[.int .u64 x59, .int .u32 x60, .int .u64 x61, .int .u16 x62, .int .u16 x63] rfl rfl rfl (by exact (by decide : 68 + 5 ≤ 89)) (by kernel_rfl) rfl ?_
             intro z9 hp hm
             have hP_z9 : Pv z9 G o (setL ((iagr false ((((iprop ((x51 == 2) && (x58 == 4) && x54) ((L.set 23 (.bool false)).set 34 (.bool false))).set 39 (.bool (x39 || x52))).set 40 (.bool (x40 || x53))).set 22 (.bool false))).set 47 (.bool false)) 68 [.int .u64 x59, .int .u32 x60, .int .u64 x61, .int .u16 x62, .int .u16 x63]) := hp
             have E_z9 : Pm G o w z9 := E_z8.trans hm
             clear hP_z8 E_z8
             clear hp hm)
          | ((with_reducible refine at_load 24 ?_); refine wpList_load_mid rfl 24 _ rfl G (o + 64) rfl [.int .i64 x64, .int .i64 x65, .int .i64 x66, .int .i64 x67] _ (hP_z9.range (j := 64) (n := 4) ((seg_out (len_set' (iagr_len (len_set' (len_set' (len_set' (iprop_len (len_set' (len_set' HLEN.out)))))))) (by exact (by decide : 68 + 5 ≤ 89)) (by exact (by decide : 68 + 5 ≤ 64 ∨ 64 + 4 ≤ 68))).trans ((seg_ne (by decide)).trans ((seg_fn (fun i h1 h2 => iagr_ne (by omega) (by omega))).trans ((seg_ne (by decide)).trans ((seg_ne (by decide)).trans ((seg_ne (by decide)).trans ((seg_fn (fun i h1 h2 => iprop_ne (by omega))).trans ((seg_ne (by decide)).trans ((seg_ne (by decide)).trans HS_64.out))))))))) (by decide)) Try.underlying24 rfl (by kernel_rfl) ?_)
          | ((with_reducible refine at_store 24 ?_); refine st_pv rfl rfl 24 _ _ rfl G o 78 _ hP_z9 _ #[.int .i64 x64, .int .i64 x65, .int .i64 x66, .int .i64 x67] rfl rfl rfl (by exact (by decide : 78 + 4 ≤ 89)) (by kernel_rfl) rfl ?_
             intro z10 hp hm
             have hP_z10 : Pv z10 G o (setL (setL ((iagr false ((((iprop ((x51 == 2) && (x58 == 4) && x54) ((L.set 23 (.bool false)).set 34 (.bool false))).set 39 (.bool (x39 || x52))).set 40 (.bool (x40 || x53))).set 22 (.bool false))).set 47 (.bool false)) 68 [.int .u64 x59, .int .u32 x60, .int .u64 x61, .int .u16 x62, .int .u16 x63]) 78 [.int .i64 x64, .int .i64 x65, .int .i64 x66, .int .i64 x67]) := hp
             have E_z10 : Pm G o w z10 := E_z9.trans hm
             clear hP_z9 E_z9
             clear hp hm)
          | ((with_reducible refine at_load 24 ?_); refine wpList_load_mid rfl 24 _ rfl G (o + 78) rfl [.int .i64 x64, .int .i64 x65, .int .i64 x66, .int .i64 x67] _ (hP_z10.range (j := 78) (n := 4) (seg_same (vs := [.int .i64 x64, .int .i64 x65, .int .i64 x66, .int .i64 x67]) (len_setL (len_set' (iagr_len (len_set' (len_set' (len_set' (iprop_len (len_set' (len_set' HLEN.out)))))))) (by exact (by decide : 68 + 5 ≤ 89))) (by exact (by decide : 78 + 4 ≤ 89))) (by decide)) Try.underlying24 rfl (by kernel_rfl) ?_))
        refine (ref_waits _ _ _ _ _ r1 r2 r3 r4 r5 r6).mono ?_
        rintro e z11 ⟨rfl, hx⟩
        have E_z11 : Pm G o w z11 := E_z10.ext hx
        have hP_z11 : Pv z11 G o (setL (setL ((iagr false ((((iprop ((x51 == 2) && (x58 == 4) && x54) ((L.set 23 (.bool false)).set 34 (.bool false))).set 39 (.bool (x39 || x52))).set 40 (.bool (x40 || x53))).set 22 (.bool false))).set 47 (.bool false)) 68 [.int .u64 x59, .int .u32 x60, .int .u64 x61, .int .u16 x62, .int .u16 x63]) 78 [.int .i64 x64, .int .i64 x65, .int .i64 x66, .int .i64 x67]) := hP_z10.ext hx
        clear hP_z10 E_z10
        clear hx
        go_wp2_with (first
          | fail
          | ((with_reducible refine at_store 3 ?_); refine st_pv rfl rfl 3 _ _ rfl G o 11 _ hP_z11 _ #[.int .i64 (waitsV x64 x65 x66)] rfl rfl rfl (by exact (by decide : 11 + 1 ≤ 89)) (by kernel_rfl) rfl ?_
             intro z12 hp hm
             replace hp := pv_one hp (len_setL (len_setL (len_set' (iagr_len (len_set' (len_set' (len_set' (iprop_len (len_set' (len_set' HLEN.out)))))))) (by exact (by decide : 68 + 5 ≤ 89))) (by exact (by decide : 78 + 4 ≤ 89))) (by decide)
             have hP_z12 := hp
             have E_z12 : Pm G o w z12 := E_z11.trans hm
             clear hP_z11 E_z11
             clear hp hm))
        refine ((res_pv (daged 3 2 G o _ hP_z12 (len_set' (len_setL (len_setL (len_set' (iagr_len (len_set' (len_set' (len_set' (iprop_len (len_set' (len_set' HLEN.out)))))))) (by exact (by decide : 68 + 5 ≤ 89))) (by exact (by decide : 78 + 4 ≤ 89))))) (dage_eq 3 2 _))).mono ?_
        rintro e z13 ⟨rfl, hp, hm⟩
        have hP_z13 : Pv z13 G o ((((((setL (setL ((iagr false ((((iprop ((x51 == 2) && (x58 == 4) && x54) ((L.set 23 (.bool false)).set 34 (.bool false))).set 39 (.bool (x39 || x52))).set 40 (.bool (x40 || x53))).set 22 (.bool false))).set 47 (.bool false)) 68 [.int .u64 x59, .int .u32 x60, .int .u64 x61, .int .u16 x62, .int .u16 x63]) 78 [.int .i64 x64, .int .i64 x65, .int .i64 x66, .int .i64 x67]).set 11 (.int .i64 (waitsV x64 x65 x66))).set 86 (.int .i64 3)).set 43 (.bool true)).set 44 (.bool false)).set 18 (.int .i64 2)) := hp
        have E_z13 : Pm G o w z13 := E_z12.trans hm
        clear hP_z12 E_z12
        clear hp hm
        go_wp2_with (first
          | fail
          | ((with_reducible refine at_store 4 ?_); refine st_pv rfl rfl 4 _ _ rfl G o 36 _ hP_z13 _ #[.bool false] rfl rfl rfl (by exact (by decide : 36 + 1 ≤ 89)) (by kernel_rfl) rfl ?_
             intro z14 hp hm
             replace hp := pv_one hp (len_set' (len_set' (len_set' (len_set' (len_set' (len_setL (len_setL (len_set' (iagr_len (len_set' (len_set' (len_set' (iprop_len (len_set' (len_set' HLEN.out)))))))) (by exact (by decide : 68 + 5 ≤ 89))) (by exact (by decide : 78 + 4 ≤ 89)))))))) (by decide)
             have hP_z14 := hp
             have E_z14 : Pm G o w z14 := E_z13.trans hm
             clear hP_z13 E_z13
             clear hp hm))
        have hfin : (((((((setL (setL ((iagr false ((((iprop ((x51 == 2) && (x58 == 4) && x54) ((L.set 23 (.bool false)).set 34 (.bool false))).set 39 (.bool (x39 || x52))).set 40 (.bool (x40 || x53))).set 22 (.bool false))).set 47 (.bool false)) 68 [.int .u64 x59, .int .u32 x60, .int .u64 x61, .int .u16 x62, .int .u16 x63]) 78 [.int .i64 x64, .int .i64 x65, .int .i64 x66, .int .i64 x67]).set 11 (.int .i64 (waitsV x64 x65 x66))).set 86 (.int .i64 3)).set 43 (.bool true)).set 44 (.bool false)).set 18 (.int .i64 2)).set 36 (.bool false)) = dfin (isup2 false false ((x51 == 2) && (x58 == 4) && x54) false (x39 || x52) (x40 || x53) [.int .u64 x59, .int .u32 x60, .int .u64 x61, .int .u16 x62, .int .u16 x63] [.int .i64 x64, .int .i64 x65, .int .i64 x66, .int .i64 x67] (waitsV x64 x65 x66) L) := by
          unfold dfin isup2 iask ichg
          exact fin_comm _ _ _ _ _ _
        go_end0
        exact ⟨rfl, hfin ▸ hP_z14, E_z14⟩
    · refine res_pv (L1 := dfin (isup2 false false ((x51 == 2) && (x58 == 4) && x54) false (x39 || x52) (x40 || x53) [.int .u64 x59, .int .u32 x60, .int .u64 x61, .int .u16 x62, .int .u16 x63] [.int .i64 x64, .int .i64 x65, .int .i64 x66, .int .i64 x67] (waitsV x64 x65 x66) L)) ?_ (by unfold isup isup2; rw [ne_b e86]; simp)
      have HT := Lib.hid hT
      have HC := Lib.hid hcls
      have HR := Lib.hid hc
      clear hT hcls hc
      have HL_18 := Lib.hid h18
      clear h18
      have c3 : (x86 != 3) = true := by simpa using e86
      clear e86
      have hG := hP_w.lt
      have HLEN := Lib.hid hl
      have HL_3 := Lib.hid h3
      have HL_22 := Lib.hid h22
      have HL_39 := Lib.hid h39
      have HL_40 := Lib.hid h40
      have HL_47 := Lib.hid h47
      have HL_51 := Lib.hid h51
      have HL_52 := Lib.hid h52
      have HL_53 := Lib.hid h53
      have HL_54 := Lib.hid h54
      have HL_55 := Lib.hid h55
      have HL_56 := Lib.hid h56
      have HL_57 := Lib.hid h57
      have HL_58 := Lib.hid h58
      have HL_59 := Lib.hid h59
      have HL_60 := Lib.hid h60
      have HL_61 := Lib.hid h61
      have HL_62 := Lib.hid h62
      have HL_63 := Lib.hid h63
      have HL_64 := Lib.hid h64
      have HL_65 := Lib.hid h65
      have HL_66 := Lib.hid h66
      have HL_67 := Lib.hid h67
      have HL_68 := Lib.hid h68
      have HL_69 := Lib.hid h69
      have HL_70 := Lib.hid h70
      have HL_71 := Lib.hid h71
      have HL_72 := Lib.hid h72
      have HL_86 := Lib.hid h86
      have HS_59 := Lib.hid (seg_of (L := L) (j := 59) (l := [.int .u64 x59, .int .u32 x60, .int .u64 x61, .int .u16 x62, .int .u16 x63]) (by rw [hl]; exact (by decide : 59 + 5 ≤ 89)) (fun i hi => by
        match i, hi with
        | 0, _ => exact HL_59.out
        | 1, _ => exact HL_60.out
        | 2, _ => exact HL_61.out
        | 3, _ => exact HL_62.out
        | 4, _ => exact HL_63.out
        | i + 5, hi => simp at hi; omega))
      have HS_64 := Lib.hid (seg_of (L := L) (j := 64) (l := [.int .i64 x64, .int .i64 x65, .int .i64 x66, .int .i64 x67]) (by rw [hl]; exact (by decide : 64 + 4 ≤ 89)) (fun i hi => by
        match i, hi with
        | 0, _ => exact HL_64.out
        | 1, _ => exact HL_65.out
        | 2, _ => exact HL_66.out
        | 3, _ => exact HL_67.out
        | i + 4, hi => simp at hi; omega))
      have HS_68 := Lib.hid (seg_of (L := L) (j := 68) (l := [.int .u64 x68, .int .u32 x69, .int .u64 x70, .int .u16 x71, .int .u16 x72]) (by rw [hl]; exact (by decide : 68 + 5 ≤ 89)) (fun i hi => by
        match i, hi with
        | 0, _ => exact HL_68.out
        | 1, _ => exact HL_69.out
        | 2, _ => exact HL_70.out
        | 3, _ => exact HL_71.out
        | 4, _ => exact HL_72.out
        | i + 5, hi => simp at hi; omega))
      clear hl h3 h22 h39 h40 h47 h51 h52 h53 h54 h55 h56 h57 h58 h59 h60 h61 h62 h63 h64 h65 h66 h67 h68 h69 h70 h71 h72 h86
      have HRS := Lib.hid (show (Try.prog.info? 51).map (·.size) = some L.length by rw [HLEN.out]; exact size_port)
      have HRL := Lib.hid (show w.rangeAt G o L from hP_w.range (j := 0) (n := 89) (by rw [List.drop_zero, List.take_of_length_le (by rw [HLEN.out]; exact Nat.le_refl 89)]) (by decide))
      go_enter Try.func39, Try.ntmps39
      go_wp2_with (first
        | fail
        | ((with_reducible refine at_load 51 ?_); refine wpList_load_mid rfl 51 _ rfl G o rfl L _ HRL.out Try.underlying51 rfl HRS.out ?_))
      refine (asi (rclass_L _ HT.out) (show ((clsL L : Nat) : Int) = 0 by rw [HC.out]; rfl)).mono ?_
      rintro e z1 ⟨rfl, hx⟩
      have E_z1 : Pm G o w z1 := Ext.pm hx G o
      have hP_z1 : Pv z1 G o L := hP_w.ext hx
      clear hP_w
      clear hx
      go_wp2_with (first
        | fail
        | ((with_reducible refine at_store 4 ?_); refine st_pv rfl rfl 4 _ _ rfl G o 23 _ hP_z1 _ #[.bool false] rfl rfl rfl (by exact (by decide : 23 + 1 ≤ 89)) (by kernel_rfl) rfl ?_
           intro z2 hp hm
           replace hp := pv_one hp HLEN.out (by decide)
           have hP_z2 := hp
           have E_z2 : Pm G o w z2 := E_z1.trans hm
           clear hP_z1 E_z1
           clear hp hm)
        | ((with_reducible refine at_store 4 ?_); refine st_pv rfl rfl 4 _ _ rfl G o 34 _ hP_z2 _ #[.bool false] rfl rfl rfl (by exact (by decide : 34 + 1 ≤ 89)) (by kernel_rfl) rfl ?_
           intro z3 hp hm
           replace hp := pv_one hp (len_set' HLEN.out) (by decide)
           have hP_z3 := hp
           have E_z3 : Pm G o w z3 := E_z2.trans hm
           clear hP_z2 E_z2
           clear hp hm))
      refine (dnoted G o _ hP_z3 (len_set' (len_set' HLEN.out)) _ ((get_ne (by decide)).trans ((get_ne (by decide)).trans HL_39.out)) _ ((get_ne (by decide)).trans ((get_ne (by decide)).trans HL_40.out)) _ ((get_ne (by decide)).trans ((get_ne (by decide)).trans HL_51.out)) _ ((get_ne (by decide)).trans ((get_ne (by decide)).trans HL_52.out)) _ ((get_ne (by decide)).trans ((get_ne (by decide)).trans HL_53.out)) _ ((get_ne (by decide)).trans ((get_ne (by decide)).trans HL_54.out)) _ ((get_ne (by decide)).trans ((get_ne (by decide)).trans HL_58.out))).mono ?_
      rintro e z4 ⟨rfl, hp, hm⟩
      have hP_z4 : Pv z4 G o (((iprop ((x51 == 2) && (x58 == 4) && x54) ((L.set 23 (.bool false)).set 34 (.bool false))).set 39 (.bool (x39 || x52))).set 40 (.bool (x40 || x53))) := hp
      have E_z4 : Pm G o w z4 := E_z3.trans hm
      clear hP_z3 E_z3
      clear hp hm
      go_wp2_with fail
      refine beginL (S := fun W' => Ext z4 W') (by kernel_rfl) ?_
      intro wd hqx
      have hq0 : Ext z4 wd := hqx
      refine tLp 0 ((.pointer (some ⟨G, o, none⟩))) rfl hq0 ?_
      simp only [ps]
      refine tLp 1 ((.pointer (some ⟨G, o, none⟩))) rfl hq0 ?_
      simp only [ps]
      refine tLp 2 ((.pointer (some ⟨G, o + 68, none⟩))) rfl hq0 ?_
      simp only [ps]
      refine tL 3 (_) rfl (yieldsIf_load_mid rfl 28 _ rfl G (o + 68) rfl ([.int .u64 x68, .int .u32 x69, .int .u64 x70, .int .u16 x71, .int .u16 x72]) _ (fun W' hW' => (hP_z4.ext hW').range (j := 68) (n := 5) ((seg_ne (by decide)).trans ((seg_ne (by decide)).trans ((seg_fn (fun i h1 h2 => iprop_ne (by omega))).trans ((seg_ne (by decide)).trans ((seg_ne (by decide)).trans HS_68.out))))) (by decide)) Try.underlying28 rfl (by kernel_rfl)) hq0 ?_
      simp only [ps]
      refine tLp 4 ((.pointer (some ⟨G, o, none⟩))) rfl hq0 ?_
      simp only [ps]
      refine tLp 5 ((.pointer (some ⟨G, o, none⟩))) rfl hq0 ?_
      simp only [ps]
      refine tLp 6 ((.pointer (some ⟨G, o + 51, none⟩))) rfl hq0 ?_
      simp only [ps]
      refine tLp 7 ((.pointer (some ⟨G, o + 59, none⟩))) rfl hq0 ?_
      simp only [ps]
      refine tL 8 (_) rfl (yieldsIf_load_mid rfl 28 _ rfl G (o + 59) rfl ([.int .u64 x59, .int .u32 x60, .int .u64 x61, .int .u16 x62, .int .u16 x63]) _ (fun W' hW' => (hP_z4.ext hW').range (j := 59) (n := 5) ((seg_ne (by decide)).trans ((seg_ne (by decide)).trans ((seg_fn (fun i h1 h2 => iprop_ne (by omega))).trans ((seg_ne (by decide)).trans ((seg_ne (by decide)).trans HS_59.out))))) (by decide)) Try.underlying28 rfl (by kernel_rfl)) hq0 ?_
      simp only [ps]
      refine runL (i := 9) rfl rfl (by kernel_rfl) (fun K hK => ?_)
      go_simp
      refine (asb (ref_less _ _ _ _ _ _ _ _ _ _ _) HLS.out).mono ?_
      rintro e wc1 ⟨rfl, hx⟩
      have hq1 := hq0.trans hx
      refine hK.out _ _ hq1 (fun hHeld => ?_)
      try simp only [ps]
      clear hK K hHeld
      refine tLp 10 ((.bool ls)) rfl hq1 ?_
      simp only [ps]
      refine wpAnyH_done (by kernel_rfl) ?_ _
      generalize wc1 = z5 at *
      have hP_z5 : Pv z5 G o (((iprop ((x51 == 2) && (x58 == 4) && x54) ((L.set 23 (.bool false)).set 34 (.bool false))).set 39 (.bool (x39 || x52))).set 40 (.bool (x40 || x53))) := hP_z4.ext hq1
      have E_z5 : Pm G o w z5 := E_z4.ext hq1
      have p86_z5 : z5.cell? ⟨G, o + 86, none⟩ = some (.int .i64 x86) := (hP_z5.cell (j := 86) (by decide)).trans ((get_ne (by decide)).trans ((get_ne (by decide)).trans ((iprop_ne (by decide)).trans ((get_ne (by decide)).trans ((get_ne (by decide)).trans HL_86.out)))))
      clear hP_z4 E_z4
      clear hq0 hq1
      go_wp2_with (first
        | fail
        | ((with_reducible refine at_store 4 ?_); refine st_pv rfl rfl 4 _ _ rfl G o 22 _ hP_z5 _ #[.bool false] rfl rfl rfl (by exact (by decide : 22 + 1 ≤ 89)) (by kernel_rfl) rfl ?_
           intro z6 hp hm
           replace hp := pv_one hp (len_set' (len_set' (iprop_len (len_set' (len_set' HLEN.out))))) (by decide)
           have hP_z6 := hp
           have E_z6 : Pm G o w z6 := E_z5.trans hm
           clear hP_z5 E_z5 p86_z5
           clear hp hm))
      refine ((res_pv (dagreement X rst G o _ hP_z6 (len_set' (len_set' (len_set' (iprop_len (len_set' (len_set' HLEN.out)))))) _ ((get_ne (by decide)).trans ((get_ne (by decide)).trans ((get_ne (by decide)).trans ((iprop_ne (by decide)).trans ((get_ne (by decide)).trans ((get_ne (by decide)).trans HL_3.out)))))) _ ((get_ne (by decide)).trans ((get_ne (by decide)).trans ((get_ne (by decide)).trans ((iprop_ne (by decide)).trans ((get_ne (by decide)).trans ((get_ne (by decide)).trans HL_51.out)))))) _ ((get_ne (by decide)).trans ((get_ne (by decide)).trans ((get_ne (by decide)).trans ((iprop_ne (by decide)).trans ((get_ne (by decide)).trans ((get_ne (by decide)).trans HL_55.out)))))) ((E_z6.1.cell (p := ⟨X, 1, none⟩) hXl hXG).trans HR.out)) (by rw [HAG.out]))).mono ?_
      rintro e z7 ⟨rfl, hp, hm⟩
      have hP_z7 : Pv z7 G o (iagr false ((((iprop ((x51 == 2) && (x58 == 4) && x54) ((L.set 23 (.bool false)).set 34 (.bool false))).set 39 (.bool (x39 || x52))).set 40 (.bool (x40 || x53))).set 22 (.bool false))) := hp
      have E_z7 : Pm G o w z7 := E_z6.trans hm
      clear hP_z6 E_z6
      clear hp hm
      have p23_z7 : z7.cell? ⟨G, o + 23, none⟩ = some (.bool false) := (hP_z7.cell (j := 23) (by decide)).trans (iagr_23 (len_set' (len_set' (len_set' (iprop_len (len_set' (len_set' HLEN.out)))))))
      go_wp2_with (first
        | fail
        | ((with_reducible refine at_store 4 ?_); refine st_pv rfl rfl 4 _ _ rfl G o 47 _ hP_z7 _ #[.bool false] rfl rfl rfl (by exact (by decide : 47 + 1 ≤ 89)) (by kernel_rfl) rfl ?_
           intro z8 hp hm
           replace hp := pv_one hp (iagr_len (len_set' (len_set' (len_set' (iprop_len (len_set' (len_set' HLEN.out))))))) (by decide)
           have hP_z8 := hp
           have E_z8 : Pm G o w z8 := E_z7.trans hm
           clear hP_z7 E_z7 p23_z7
           clear hp hm)
        | ((with_reducible refine at_load 28 ?_); refine wpList_load_mid rfl 28 _ rfl G (o + 59) rfl [.int .u64 x59, .int .u32 x60, .int .u64 x61, .int .u16 x62, .int .u16 x63] _ (hP_z8.range (j := 59) (n := 5) ((seg_ne (by decide)).trans ((seg_fn (fun i h1 h2 => iagr_ne (by omega) (by omega))).trans ((seg_ne (by decide)).trans ((seg_ne (by decide)).trans ((seg_ne (by decide)).trans ((seg_fn (fun i h1 h2 => iprop_ne (by omega))).trans ((seg_ne (by decide)).trans ((seg_ne (by decide)).trans HS_59.out)))))))) (by decide)) Try.underlying28 rfl (by kernel_rfl) ?_)
        | ((with_reducible refine at_store 28 ?_); refine st_pv rfl rfl 28 _ _ rfl G o 68 _ hP_z8 _ #[.int .u64 x59, .int .u32 x60, .int .u64 x61, .int .u16 x62, .int .u16 x63] rfl rfl rfl (by exact (by decide : 68 + 5 ≤ 89)) (by kernel_rfl) rfl ?_
           intro z9 hp hm
           have hP_z9 : Pv z9 G o (setL ((iagr false ((((iprop ((x51 == 2) && (x58 == 4) && x54) ((L.set 23 (.bool false)).set 34 (.bool false))).set 39 (.bool (x39 || x52))).set 40 (.bool (x40 || x53))).set 22 (.bool false))).set 47 (.bool false)) 68 [.int .u64 x59, .int .u32 x60, .int .u64 x61, .int .u16 x62, .int .u16 x63]) := hp
           have E_z9 : Pm G o w z9 := E_z8.trans hm
           clear hP_z8 E_z8
           clear hp hm)
        | ((with_reducible refine at_load 24 ?_); refine wpList_load_mid rfl 24 _ rfl G (o + 64) rfl [.int .i64 x64, .int .i64 x65, .int .i64 x66, .int .i64 x67] _ (hP_z9.range (j := 64) (n := 4) ((seg_out (len_set' (iagr_len (len_set' (len_set' (len_set' (iprop_len (len_set' (len_set' HLEN.out)))))))) (by exact (by decide : 68 + 5 ≤ 89)) (by exact (by decide : 68 + 5 ≤ 64 ∨ 64 + 4 ≤ 68))).trans ((seg_ne (by decide)).trans ((seg_fn (fun i h1 h2 => iagr_ne (by omega) (by omega))).trans ((seg_ne (by decide)).trans ((seg_ne (by decide)).trans ((seg_ne (by decide)).trans ((seg_fn (fun i h1 h2 => iprop_ne (by omega))).trans ((seg_ne (by decide)).trans ((seg_ne (by decide)).trans HS_64.out))))))))) (by decide)) Try.underlying24 rfl (by kernel_rfl) ?_)
        | ((with_reducible refine at_store 24 ?_); refine st_pv rfl rfl 24 _ _ rfl G o 78 _ hP_z9 _ #[.int .i64 x64, .int .i64 x65, .int .i64 x66, .int .i64 x67] rfl rfl rfl (by exact (by decide : 78 + 4 ≤ 89)) (by kernel_rfl) rfl ?_
           intro z10 hp hm
           have hP_z10 : Pv z10 G o (setL (setL ((iagr false ((((iprop ((x51 == 2) && (x58 == 4) && x54) ((L.set 23 (.bool false)).set 34 (.bool false))).set 39 (.bool (x39 || x52))).set 40 (.bool (x40 || x53))).set 22 (.bool false))).set 47 (.bool false)) 68 [.int .u64 x59, .int .u32 x60, .int .u64 x61, .int .u16 x62, .int .u16 x63]) 78 [.int .i64 x64, .int .i64 x65, .int .i64 x66, .int .i64 x67]) := hp
           have E_z10 : Pm G o w z10 := E_z9.trans hm
           clear hP_z9 E_z9
           clear hp hm)
        | ((with_reducible refine at_load 24 ?_); refine wpList_load_mid rfl 24 _ rfl G (o + 78) rfl [.int .i64 x64, .int .i64 x65, .int .i64 x66, .int .i64 x67] _ (hP_z10.range (j := 78) (n := 4) (seg_same (vs := [.int .i64 x64, .int .i64 x65, .int .i64 x66, .int .i64 x67]) (len_setL (len_set' (iagr_len (len_set' (len_set' (len_set' (iprop_len (len_set' (len_set' HLEN.out)))))))) (by exact (by decide : 68 + 5 ≤ 89))) (by exact (by decide : 78 + 4 ≤ 89))) (by decide)) Try.underlying24 rfl (by kernel_rfl) ?_))
      refine (ref_waits _ _ _ _ _ r1 r2 r3 r4 r5 r6).mono ?_
      rintro e z11 ⟨rfl, hx⟩
      have E_z11 : Pm G o w z11 := E_z10.ext hx
      have hP_z11 : Pv z11 G o (setL (setL ((iagr false ((((iprop ((x51 == 2) && (x58 == 4) && x54) ((L.set 23 (.bool false)).set 34 (.bool false))).set 39 (.bool (x39 || x52))).set 40 (.bool (x40 || x53))).set 22 (.bool false))).set 47 (.bool false)) 68 [.int .u64 x59, .int .u32 x60, .int .u64 x61, .int .u16 x62, .int .u16 x63]) 78 [.int .i64 x64, .int .i64 x65, .int .i64 x66, .int .i64 x67]) := hP_z10.ext hx
      clear hP_z10 E_z10
      clear hx
      go_wp2_with (first
        | fail
        | ((with_reducible refine at_store 3 ?_); refine st_pv rfl rfl 3 _ _ rfl G o 11 _ hP_z11 _ #[.int .i64 (waitsV x64 x65 x66)] rfl rfl rfl (by exact (by decide : 11 + 1 ≤ 89)) (by kernel_rfl) rfl ?_
           intro z12 hp hm
           replace hp := pv_one hp (len_setL (len_setL (len_set' (iagr_len (len_set' (len_set' (len_set' (iprop_len (len_set' (len_set' HLEN.out)))))))) (by exact (by decide : 68 + 5 ≤ 89))) (by exact (by decide : 78 + 4 ≤ 89))) (by decide)
           have hP_z12 := hp
           have E_z12 : Pm G o w z12 := E_z11.trans hm
           clear hP_z11 E_z11
           clear hp hm))
      refine ((res_pv (daged 3 2 G o _ hP_z12 (len_set' (len_setL (len_setL (len_set' (iagr_len (len_set' (len_set' (len_set' (iprop_len (len_set' (len_set' HLEN.out)))))))) (by exact (by decide : 68 + 5 ≤ 89))) (by exact (by decide : 78 + 4 ≤ 89))))) (dage_eq 3 2 _))).mono ?_
      rintro e z13 ⟨rfl, hp, hm⟩
      have hP_z13 : Pv z13 G o ((((((setL (setL ((iagr false ((((iprop ((x51 == 2) && (x58 == 4) && x54) ((L.set 23 (.bool false)).set 34 (.bool false))).set 39 (.bool (x39 || x52))).set 40 (.bool (x40 || x53))).set 22 (.bool false))).set 47 (.bool false)) 68 [.int .u64 x59, .int .u32 x60, .int .u64 x61, .int .u16 x62, .int .u16 x63]) 78 [.int .i64 x64, .int .i64 x65, .int .i64 x66, .int .i64 x67]).set 11 (.int .i64 (waitsV x64 x65 x66))).set 86 (.int .i64 3)).set 43 (.bool true)).set 44 (.bool false)).set 18 (.int .i64 2)) := hp
      have E_z13 : Pm G o w z13 := E_z12.trans hm
      clear hP_z12 E_z12
      clear hp hm
      go_wp2_with (first
        | fail
        | ((with_reducible refine at_store 4 ?_); refine st_pv rfl rfl 4 _ _ rfl G o 36 _ hP_z13 _ #[.bool false] rfl rfl rfl (by exact (by decide : 36 + 1 ≤ 89)) (by kernel_rfl) rfl ?_
           intro z14 hp hm
           replace hp := pv_one hp (len_set' (len_set' (len_set' (len_set' (len_set' (len_setL (len_setL (len_set' (iagr_len (len_set' (len_set' (len_set' (iprop_len (len_set' (len_set' HLEN.out)))))))) (by exact (by decide : 68 + 5 ≤ 89))) (by exact (by decide : 78 + 4 ≤ 89)))))))) (by decide)
           have hP_z14 := hp
           have E_z14 : Pm G o w z14 := E_z13.trans hm
           clear hP_z13 E_z13
           clear hp hm))
      have hfin : (((((((setL (setL ((iagr false ((((iprop ((x51 == 2) && (x58 == 4) && x54) ((L.set 23 (.bool false)).set 34 (.bool false))).set 39 (.bool (x39 || x52))).set 40 (.bool (x40 || x53))).set 22 (.bool false))).set 47 (.bool false)) 68 [.int .u64 x59, .int .u32 x60, .int .u64 x61, .int .u16 x62, .int .u16 x63]) 78 [.int .i64 x64, .int .i64 x65, .int .i64 x66, .int .i64 x67]).set 11 (.int .i64 (waitsV x64 x65 x66))).set 86 (.int .i64 3)).set 43 (.bool true)).set 44 (.bool false)).set 18 (.int .i64 2)).set 36 (.bool false)) = dfin (isup2 false false ((x51 == 2) && (x58 == 4) && x54) false (x39 || x52) (x40 || x53) [.int .u64 x59, .int .u32 x60, .int .u64 x61, .int .u16 x62, .int .u16 x63] [.int .i64 x64, .int .i64 x65, .int .i64 x66, .int .i64 x67] (waitsV x64 x65 x66) L) := by
        unfold dfin isup2 iask ichg
        exact fin_comm _ _ _ _ _ _
      go_end0
      exact ⟨rfl, hfin ▸ hP_z14, E_z14⟩
  · by_cases e86 : x86 = 3
    · subst e86
      cases ls
      · refine res_pv (L1 := dfin (isup2 x22 x47 ((x51 == 2) && (x58 == 4) && x54) true (x39 || x52) (x40 || x53) [.int .u64 x59, .int .u32 x60, .int .u64 x61, .int .u16 x62, .int .u16 x63] [.int .i64 x64, .int .i64 x65, .int .i64 x66, .int .i64 x67] (waitsV x64 x65 x66) L)) ?_ (by unfold isup isup2; simp)
        have HT := Lib.hid hT
        have HC := Lib.hid hcls
        have HR := Lib.hid hc
        clear hT hcls hc
        have HL_18 := Lib.hid h18
        clear h18
        have hG := hP_w.lt
        have HLEN := Lib.hid hl
        have HL_3 := Lib.hid h3
        have HL_22 := Lib.hid h22
        have HL_39 := Lib.hid h39
        have HL_40 := Lib.hid h40
        have HL_47 := Lib.hid h47
        have HL_51 := Lib.hid h51
        have HL_52 := Lib.hid h52
        have HL_53 := Lib.hid h53
        have HL_54 := Lib.hid h54
        have HL_55 := Lib.hid h55
        have HL_56 := Lib.hid h56
        have HL_57 := Lib.hid h57
        have HL_58 := Lib.hid h58
        have HL_59 := Lib.hid h59
        have HL_60 := Lib.hid h60
        have HL_61 := Lib.hid h61
        have HL_62 := Lib.hid h62
        have HL_63 := Lib.hid h63
        have HL_64 := Lib.hid h64
        have HL_65 := Lib.hid h65
        have HL_66 := Lib.hid h66
        have HL_67 := Lib.hid h67
        have HL_68 := Lib.hid h68
        have HL_69 := Lib.hid h69
        have HL_70 := Lib.hid h70
        have HL_71 := Lib.hid h71
        have HL_72 := Lib.hid h72
        have HL_86 := Lib.hid h86
        have HS_59 := Lib.hid (seg_of (L := L) (j := 59) (l := [.int .u64 x59, .int .u32 x60, .int .u64 x61, .int .u16 x62, .int .u16 x63]) (by rw [hl]; exact (by decide : 59 + 5 ≤ 89)) (fun i hi => by
          match i, hi with
          | 0, _ => exact HL_59.out
          | 1, _ => exact HL_60.out
          | 2, _ => exact HL_61.out
          | 3, _ => exact HL_62.out
          | 4, _ => exact HL_63.out
          | i + 5, hi => simp at hi; omega))
        have HS_64 := Lib.hid (seg_of (L := L) (j := 64) (l := [.int .i64 x64, .int .i64 x65, .int .i64 x66, .int .i64 x67]) (by rw [hl]; exact (by decide : 64 + 4 ≤ 89)) (fun i hi => by
          match i, hi with
          | 0, _ => exact HL_64.out
          | 1, _ => exact HL_65.out
          | 2, _ => exact HL_66.out
          | 3, _ => exact HL_67.out
          | i + 4, hi => simp at hi; omega))
        have HS_68 := Lib.hid (seg_of (L := L) (j := 68) (l := [.int .u64 x68, .int .u32 x69, .int .u64 x70, .int .u16 x71, .int .u16 x72]) (by rw [hl]; exact (by decide : 68 + 5 ≤ 89)) (fun i hi => by
          match i, hi with
          | 0, _ => exact HL_68.out
          | 1, _ => exact HL_69.out
          | 2, _ => exact HL_70.out
          | 3, _ => exact HL_71.out
          | 4, _ => exact HL_72.out
          | i + 5, hi => simp at hi; omega))
        clear hl h3 h22 h39 h40 h47 h51 h52 h53 h54 h55 h56 h57 h58 h59 h60 h61 h62 h63 h64 h65 h66 h67 h68 h69 h70 h71 h72 h86
        have HRS := Lib.hid (show (Try.prog.info? 51).map (·.size) = some L.length by rw [HLEN.out]; exact size_port)
        have HRL := Lib.hid (show w.rangeAt G o L from hP_w.range (j := 0) (n := 89) (by rw [List.drop_zero, List.take_of_length_le (by rw [HLEN.out]; exact Nat.le_refl 89)]) (by decide))
        go_enter Try.func39, Try.ntmps39
        go_wp2_with (first
          | fail
          | ((with_reducible refine at_load 51 ?_); refine wpList_load_mid rfl 51 _ rfl G o rfl L _ HRL.out Try.underlying51 rfl HRS.out ?_))
        refine (asi (rclass_L _ HT.out) (show ((clsL L : Nat) : Int) = 0 by rw [HC.out]; rfl)).mono ?_
        rintro e z1 ⟨rfl, hx⟩
        have E_z1 : Pm G o w z1 := Ext.pm hx G o
        have hP_z1 : Pv z1 G o L := hP_w.ext hx
        clear hP_w
        clear hx
        go_wp2_with (first
          | fail
          | ((with_reducible refine at_store 4 ?_); refine st_pv rfl rfl 4 _ _ rfl G o 23 _ hP_z1 _ #[.bool false] rfl rfl rfl (by exact (by decide : 23 + 1 ≤ 89)) (by kernel_rfl) rfl ?_
             intro z2 hp hm
             replace hp := pv_one hp HLEN.out (by decide)
             have hP_z2 := hp
             have E_z2 : Pm G o w z2 := E_z1.trans hm
             clear hP_z1 E_z1
             clear hp hm)
          | ((with_reducible refine at_store 4 ?_); refine st_pv rfl rfl 4 _ _ rfl G o 34 _ hP_z2 _ #[.bool false] rfl rfl rfl (by exact (by decide : 34 + 1 ≤ 89)) (by kernel_rfl) rfl ?_
             intro z3 hp hm
             replace hp := pv_one hp (len_set' HLEN.out) (by decide)
             have hP_z3 := hp
             have E_z3 : Pm G o w z3 := E_z2.trans hm
             clear hP_z2 E_z2
             clear hp hm))
        refine (dnoted G o _ hP_z3 (len_set' (len_set' HLEN.out)) _ ((get_ne (by decide)).trans ((get_ne (by decide)).trans HL_39.out)) _ ((get_ne (by decide)).trans ((get_ne (by decide)).trans HL_40.out)) _ ((get_ne (by decide)).trans ((get_ne (by decide)).trans HL_51.out)) _ ((get_ne (by decide)).trans ((get_ne (by decide)).trans HL_52.out)) _ ((get_ne (by decide)).trans ((get_ne (by decide)).trans HL_53.out)) _ ((get_ne (by decide)).trans ((get_ne (by decide)).trans HL_54.out)) _ ((get_ne (by decide)).trans ((get_ne (by decide)).trans HL_58.out))).mono ?_
        rintro e z4 ⟨rfl, hp, hm⟩
        have hP_z4 : Pv z4 G o (((iprop ((x51 == 2) && (x58 == 4) && x54) ((L.set 23 (.bool false)).set 34 (.bool false))).set 39 (.bool (x39 || x52))).set 40 (.bool (x40 || x53))) := hp
        have E_z4 : Pm G o w z4 := E_z3.trans hm
        clear hP_z3 E_z3
        clear hp hm
        go_wp2_with fail
        refine beginL (S := fun W' => Ext z4 W') (by kernel_rfl) ?_
        intro wd hqx
        have hq0 : Ext z4 wd := hqx
        refine tLp 0 ((.pointer (some ⟨G, o, none⟩))) rfl hq0 ?_
        simp only [ps]
        refine tLp 1 ((.pointer (some ⟨G, o, none⟩))) rfl hq0 ?_
        simp only [ps]
        refine tLp 2 ((.pointer (some ⟨G, o + 68, none⟩))) rfl hq0 ?_
        simp only [ps]
        refine tL 3 (_) rfl (yieldsIf_load_mid rfl 28 _ rfl G (o + 68) rfl ([.int .u64 x68, .int .u32 x69, .int .u64 x70, .int .u16 x71, .int .u16 x72]) _ (fun W' hW' => (hP_z4.ext hW').range (j := 68) (n := 5) ((seg_ne (by decide)).trans ((seg_ne (by decide)).trans ((seg_fn (fun i h1 h2 => iprop_ne (by omega))).trans ((seg_ne (by decide)).trans ((seg_ne (by decide)).trans HS_68.out))))) (by decide)) Try.underlying28 rfl (by kernel_rfl)) hq0 ?_
        simp only [ps]
        refine tLp 4 ((.pointer (some ⟨G, o, none⟩))) rfl hq0 ?_
        simp only [ps]
        refine tLp 5 ((.pointer (some ⟨G, o, none⟩))) rfl hq0 ?_
        simp only [ps]
        refine tLp 6 ((.pointer (some ⟨G, o + 51, none⟩))) rfl hq0 ?_
        simp only [ps]
        refine tLp 7 ((.pointer (some ⟨G, o + 59, none⟩))) rfl hq0 ?_
        simp only [ps]
        refine tL 8 (_) rfl (yieldsIf_load_mid rfl 28 _ rfl G (o + 59) rfl ([.int .u64 x59, .int .u32 x60, .int .u64 x61, .int .u16 x62, .int .u16 x63]) _ (fun W' hW' => (hP_z4.ext hW').range (j := 59) (n := 5) ((seg_ne (by decide)).trans ((seg_ne (by decide)).trans ((seg_fn (fun i h1 h2 => iprop_ne (by omega))).trans ((seg_ne (by decide)).trans ((seg_ne (by decide)).trans HS_59.out))))) (by decide)) Try.underlying28 rfl (by kernel_rfl)) hq0 ?_
        simp only [ps]
        refine runL (i := 9) rfl rfl (by kernel_rfl) (fun K hK => ?_)
        go_simp
        refine (asb (ref_less _ _ _ _ _ _ _ _ _ _ _) HLS.out).mono ?_
        rintro e wc1 ⟨rfl, hx⟩
        have hq1 := hq0.trans hx
        refine hK.out _ _ hq1 (fun hHeld => ?_)
        try simp only [ps]
        clear hK K hHeld
        refine tLp 10 ((.bool false)) rfl hq1 ?_
        simp only [ps]
        refine wpAnyH_done (by kernel_rfl) ?_ _
        generalize wc1 = z5 at *
        have hP_z5 : Pv z5 G o (((iprop ((x51 == 2) && (x58 == 4) && x54) ((L.set 23 (.bool false)).set 34 (.bool false))).set 39 (.bool (x39 || x52))).set 40 (.bool (x40 || x53))) := hP_z4.ext hq1
        have E_z5 : Pm G o w z5 := E_z4.ext hq1
        have p86_z5 : z5.cell? ⟨G, o + 86, none⟩ = some (.int .i64 3) := (hP_z5.cell (j := 86) (by decide)).trans ((get_ne (by decide)).trans ((get_ne (by decide)).trans ((iprop_ne (by decide)).trans ((get_ne (by decide)).trans ((get_ne (by decide)).trans HL_86.out)))))
        clear hP_z4 E_z4
        clear hq0 hq1
        go_wp2_with fail
        replace hP_z5 : Pv z5 G o ((((iprop ((x51 == 2) && (x58 == 4) && x54) ((L.set 23 (.bool false)).set 34 (.bool false))).set 39 (.bool (x39 || x52))).set 40 (.bool (x40 || x53))).set 22 (.bool x22)) := by
          rw [set_id ((get_ne (by decide)).trans ((get_ne (by decide)).trans ((iprop_ne (by decide)).trans ((get_ne (by decide)).trans ((get_ne (by decide)).trans HL_22.out)))))]
          exact hP_z5
        refine ((res_pv (dagreement X rst G o _ hP_z5 (len_set' (len_set' (len_set' (iprop_len (len_set' (len_set' HLEN.out)))))) _ ((get_ne (by decide)).trans ((get_ne (by decide)).trans ((get_ne (by decide)).trans ((iprop_ne (by decide)).trans ((get_ne (by decide)).trans ((get_ne (by decide)).trans HL_3.out)))))) _ ((get_ne (by decide)).trans ((get_ne (by decide)).trans ((get_ne (by decide)).trans ((iprop_ne (by decide)).trans ((get_ne (by decide)).trans ((get_ne (by decide)).trans HL_51.out)))))) _ ((get_ne (by decide)).trans ((get_ne (by decide)).trans ((get_ne (by decide)).trans ((iprop_ne (by decide)).trans ((get_ne (by decide)).trans ((get_ne (by decide)).trans HL_55.out)))))) ((E_z5.1.cell (p := ⟨X, 1, none⟩) hXl hXG).trans HR.out)) (by rw [HAG.out]))).mono ?_
        rintro e z6 ⟨rfl, hp, hm⟩
        have hP_z6 : Pv z6 G o (iagr true ((((iprop ((x51 == 2) && (x58 == 4) && x54) ((L.set 23 (.bool false)).set 34 (.bool false))).set 39 (.bool (x39 || x52))).set 40 (.bool (x40 || x53))).set 22 (.bool x22))) := hp
        have E_z6 : Pm G o w z6 := E_z5.trans hm
        clear hP_z5 E_z5 p86_z5
        clear hp hm
        have p23_z6 : z6.cell? ⟨G, o + 23, none⟩ = some (.bool true) := (hP_z6.cell (j := 23) (by decide)).trans (iagr_23 (len_set' (len_set' (len_set' (iprop_len (len_set' (len_set' HLEN.out)))))))
        replace hP_z6 : Pv z6 G o ((iagr true ((((iprop ((x51 == 2) && (x58 == 4) && x54) ((L.set 23 (.bool false)).set 34 (.bool false))).set 39 (.bool (x39 || x52))).set 40 (.bool (x40 || x53))).set 22 (.bool x22))).set 47 (.bool x47)) := by
          rw [set_id ((iagr_ne (by decide) (by decide)).trans ((get_ne (by decide)).trans ((get_ne (by decide)).trans ((get_ne (by decide)).trans ((iprop_ne (by decide)).trans ((get_ne (by decide)).trans ((get_ne (by decide)).trans HL_47.out)))))))]
          exact hP_z6
        go_wp2_with (first
          | fail
          | ((with_reducible refine at_load 28 ?_); refine wpList_load_mid rfl 28 _ rfl G (o + 59) rfl [.int .u64 x59, .int .u32 x60, .int .u64 x61, .int .u16 x62, .int .u16 x63] _ (hP_z6.range (j := 59) (n := 5) ((seg_ne (by decide)).trans ((seg_fn (fun i h1 h2 => iagr_ne (by omega) (by omega))).trans ((seg_ne (by decide)).trans ((seg_ne (by decide)).trans ((seg_ne (by decide)).trans ((seg_fn (fun i h1 h2 => iprop_ne (by omega))).trans ((seg_ne (by decide)).trans ((seg_ne (by decide)).trans HS_59.out)))))))) (by decide)) Try.underlying28 rfl (by kernel_rfl) ?_)
          | ((with_reducible refine at_store 28 ?_); refine st_pv rfl rfl 28 _ _ rfl G o 68 _ hP_z6 _ #[.int .u64 x59, .int .u32 x60, .int .u64 x61, .int .u16 x62, .int .u16 x63] rfl rfl rfl (by exact (by decide : 68 + 5 ≤ 89)) (by kernel_rfl) rfl ?_
             intro z7 hp hm
             have hP_z7 : Pv z7 G o (setL ((iagr true ((((iprop ((x51 == 2) && (x58 == 4) && x54) ((L.set 23 (.bool false)).set 34 (.bool false))).set 39 (.bool (x39 || x52))).set 40 (.bool (x40 || x53))).set 22 (.bool x22))).set 47 (.bool x47)) 68 [.int .u64 x59, .int .u32 x60, .int .u64 x61, .int .u16 x62, .int .u16 x63]) := hp
             have E_z7 : Pm G o w z7 := E_z6.trans hm
             clear hP_z6 E_z6 p23_z6
             clear hp hm)
          | ((with_reducible refine at_load 24 ?_); refine wpList_load_mid rfl 24 _ rfl G (o + 64) rfl [.int .i64 x64, .int .i64 x65, .int .i64 x66, .int .i64 x67] _ (hP_z7.range (j := 64) (n := 4) ((seg_out (len_set' (iagr_len (len_set' (len_set' (len_set' (iprop_len (len_set' (len_set' HLEN.out)))))))) (by exact (by decide : 68 + 5 ≤ 89)) (by exact (by decide : 68 + 5 ≤ 64 ∨ 64 + 4 ≤ 68))).trans ((seg_ne (by decide)).trans ((seg_fn (fun i h1 h2 => iagr_ne (by omega) (by omega))).trans ((seg_ne (by decide)).trans ((seg_ne (by decide)).trans ((seg_ne (by decide)).trans ((seg_fn (fun i h1 h2 => iprop_ne (by omega))).trans ((seg_ne (by decide)).trans ((seg_ne (by decide)).trans HS_64.out))))))))) (by decide)) Try.underlying24 rfl (by kernel_rfl) ?_)
          | ((with_reducible refine at_store 24 ?_); refine st_pv rfl rfl 24 _ _ rfl G o 78 _ hP_z7 _ #[.int .i64 x64, .int .i64 x65, .int .i64 x66, .int .i64 x67] rfl rfl rfl (by exact (by decide : 78 + 4 ≤ 89)) (by kernel_rfl) rfl ?_
             intro z8 hp hm
             have hP_z8 : Pv z8 G o (setL (setL ((iagr true ((((iprop ((x51 == 2) && (x58 == 4) && x54) ((L.set 23 (.bool false)).set 34 (.bool false))).set 39 (.bool (x39 || x52))).set 40 (.bool (x40 || x53))).set 22 (.bool x22))).set 47 (.bool x47)) 68 [.int .u64 x59, .int .u32 x60, .int .u64 x61, .int .u16 x62, .int .u16 x63]) 78 [.int .i64 x64, .int .i64 x65, .int .i64 x66, .int .i64 x67]) := hp
             have E_z8 : Pm G o w z8 := E_z7.trans hm
             clear hP_z7 E_z7
             clear hp hm)
          | ((with_reducible refine at_load 24 ?_); refine wpList_load_mid rfl 24 _ rfl G (o + 78) rfl [.int .i64 x64, .int .i64 x65, .int .i64 x66, .int .i64 x67] _ (hP_z8.range (j := 78) (n := 4) (seg_same (vs := [.int .i64 x64, .int .i64 x65, .int .i64 x66, .int .i64 x67]) (len_setL (len_set' (iagr_len (len_set' (len_set' (len_set' (iprop_len (len_set' (len_set' HLEN.out)))))))) (by exact (by decide : 68 + 5 ≤ 89))) (by exact (by decide : 78 + 4 ≤ 89))) (by decide)) Try.underlying24 rfl (by kernel_rfl) ?_))
        refine (ref_waits _ _ _ _ _ r1 r2 r3 r4 r5 r6).mono ?_
        rintro e z9 ⟨rfl, hx⟩
        have E_z9 : Pm G o w z9 := E_z8.ext hx
        have hP_z9 : Pv z9 G o (setL (setL ((iagr true ((((iprop ((x51 == 2) && (x58 == 4) && x54) ((L.set 23 (.bool false)).set 34 (.bool false))).set 39 (.bool (x39 || x52))).set 40 (.bool (x40 || x53))).set 22 (.bool x22))).set 47 (.bool x47)) 68 [.int .u64 x59, .int .u32 x60, .int .u64 x61, .int .u16 x62, .int .u16 x63]) 78 [.int .i64 x64, .int .i64 x65, .int .i64 x66, .int .i64 x67]) := hP_z8.ext hx
        clear hP_z8 E_z8
        clear hx
        go_wp2_with (first
          | fail
          | ((with_reducible refine at_store 3 ?_); refine st_pv rfl rfl 3 _ _ rfl G o 11 _ hP_z9 _ #[.int .i64 (waitsV x64 x65 x66)] rfl rfl rfl (by exact (by decide : 11 + 1 ≤ 89)) (by kernel_rfl) rfl ?_
             intro z10 hp hm
             replace hp := pv_one hp (len_setL (len_setL (len_set' (iagr_len (len_set' (len_set' (len_set' (iprop_len (len_set' (len_set' HLEN.out)))))))) (by exact (by decide : 68 + 5 ≤ 89))) (by exact (by decide : 78 + 4 ≤ 89))) (by decide)
             have hP_z10 := hp
             have E_z10 : Pm G o w z10 := E_z9.trans hm
             clear hP_z9 E_z9
             clear hp hm))
        refine ((res_pv (daged 3 2 G o _ hP_z10 (len_set' (len_setL (len_setL (len_set' (iagr_len (len_set' (len_set' (len_set' (iprop_len (len_set' (len_set' HLEN.out)))))))) (by exact (by decide : 68 + 5 ≤ 89))) (by exact (by decide : 78 + 4 ≤ 89))))) (dage_eq 3 2 _))).mono ?_
        rintro e z11 ⟨rfl, hp, hm⟩
        have hP_z11 : Pv z11 G o ((((((setL (setL ((iagr true ((((iprop ((x51 == 2) && (x58 == 4) && x54) ((L.set 23 (.bool false)).set 34 (.bool false))).set 39 (.bool (x39 || x52))).set 40 (.bool (x40 || x53))).set 22 (.bool x22))).set 47 (.bool x47)) 68 [.int .u64 x59, .int .u32 x60, .int .u64 x61, .int .u16 x62, .int .u16 x63]) 78 [.int .i64 x64, .int .i64 x65, .int .i64 x66, .int .i64 x67]).set 11 (.int .i64 (waitsV x64 x65 x66))).set 86 (.int .i64 3)).set 43 (.bool true)).set 44 (.bool false)).set 18 (.int .i64 2)) := hp
        have E_z11 : Pm G o w z11 := E_z10.trans hm
        clear hP_z10 E_z10
        clear hp hm
        go_wp2_with (first
          | fail
          | ((with_reducible refine at_store 4 ?_); refine st_pv rfl rfl 4 _ _ rfl G o 36 _ hP_z11 _ #[.bool false] rfl rfl rfl (by exact (by decide : 36 + 1 ≤ 89)) (by kernel_rfl) rfl ?_
             intro z12 hp hm
             replace hp := pv_one hp (len_set' (len_set' (len_set' (len_set' (len_set' (len_setL (len_setL (len_set' (iagr_len (len_set' (len_set' (len_set' (iprop_len (len_set' (len_set' HLEN.out)))))))) (by exact (by decide : 68 + 5 ≤ 89))) (by exact (by decide : 78 + 4 ≤ 89)))))))) (by decide)
             have hP_z12 := hp
             have E_z12 : Pm G o w z12 := E_z11.trans hm
             clear hP_z11 E_z11
             clear hp hm))
        have hfin : (((((((setL (setL ((iagr true ((((iprop ((x51 == 2) && (x58 == 4) && x54) ((L.set 23 (.bool false)).set 34 (.bool false))).set 39 (.bool (x39 || x52))).set 40 (.bool (x40 || x53))).set 22 (.bool x22))).set 47 (.bool x47)) 68 [.int .u64 x59, .int .u32 x60, .int .u64 x61, .int .u16 x62, .int .u16 x63]) 78 [.int .i64 x64, .int .i64 x65, .int .i64 x66, .int .i64 x67]).set 11 (.int .i64 (waitsV x64 x65 x66))).set 86 (.int .i64 3)).set 43 (.bool true)).set 44 (.bool false)).set 18 (.int .i64 2)).set 36 (.bool false)) = dfin (isup2 x22 x47 ((x51 == 2) && (x58 == 4) && x54) true (x39 || x52) (x40 || x53) [.int .u64 x59, .int .u32 x60, .int .u64 x61, .int .u16 x62, .int .u16 x63] [.int .i64 x64, .int .i64 x65, .int .i64 x66, .int .i64 x67] (waitsV x64 x65 x66) L) := by
          unfold dfin isup2 iask ichg
          exact fin_comm _ _ _ _ _ _
        go_end0
        exact ⟨rfl, hfin ▸ hP_z12, E_z12⟩
      · refine res_pv (L1 := dfin (isup2 false x47 ((x51 == 2) && (x58 == 4) && x54) true (x39 || x52) (x40 || x53) [.int .u64 x59, .int .u32 x60, .int .u64 x61, .int .u16 x62, .int .u16 x63] [.int .i64 x64, .int .i64 x65, .int .i64 x66, .int .i64 x67] (waitsV x64 x65 x66) L)) ?_ (by unfold isup isup2; simp)
        have HT := Lib.hid hT
        have HC := Lib.hid hcls
        have HR := Lib.hid hc
        clear hT hcls hc
        have HL_18 := Lib.hid h18
        clear h18
        have hG := hP_w.lt
        have HLEN := Lib.hid hl
        have HL_3 := Lib.hid h3
        have HL_22 := Lib.hid h22
        have HL_39 := Lib.hid h39
        have HL_40 := Lib.hid h40
        have HL_47 := Lib.hid h47
        have HL_51 := Lib.hid h51
        have HL_52 := Lib.hid h52
        have HL_53 := Lib.hid h53
        have HL_54 := Lib.hid h54
        have HL_55 := Lib.hid h55
        have HL_56 := Lib.hid h56
        have HL_57 := Lib.hid h57
        have HL_58 := Lib.hid h58
        have HL_59 := Lib.hid h59
        have HL_60 := Lib.hid h60
        have HL_61 := Lib.hid h61
        have HL_62 := Lib.hid h62
        have HL_63 := Lib.hid h63
        have HL_64 := Lib.hid h64
        have HL_65 := Lib.hid h65
        have HL_66 := Lib.hid h66
        have HL_67 := Lib.hid h67
        have HL_68 := Lib.hid h68
        have HL_69 := Lib.hid h69
        have HL_70 := Lib.hid h70
        have HL_71 := Lib.hid h71
        have HL_72 := Lib.hid h72
        have HL_86 := Lib.hid h86
        have HS_59 := Lib.hid (seg_of (L := L) (j := 59) (l := [.int .u64 x59, .int .u32 x60, .int .u64 x61, .int .u16 x62, .int .u16 x63]) (by rw [hl]; exact (by decide : 59 + 5 ≤ 89)) (fun i hi => by
          match i, hi with
          | 0, _ => exact HL_59.out
          | 1, _ => exact HL_60.out
          | 2, _ => exact HL_61.out
          | 3, _ => exact HL_62.out
          | 4, _ => exact HL_63.out
          | i + 5, hi => simp at hi; omega))
        have HS_64 := Lib.hid (seg_of (L := L) (j := 64) (l := [.int .i64 x64, .int .i64 x65, .int .i64 x66, .int .i64 x67]) (by rw [hl]; exact (by decide : 64 + 4 ≤ 89)) (fun i hi => by
          match i, hi with
          | 0, _ => exact HL_64.out
          | 1, _ => exact HL_65.out
          | 2, _ => exact HL_66.out
          | 3, _ => exact HL_67.out
          | i + 4, hi => simp at hi; omega))
        have HS_68 := Lib.hid (seg_of (L := L) (j := 68) (l := [.int .u64 x68, .int .u32 x69, .int .u64 x70, .int .u16 x71, .int .u16 x72]) (by rw [hl]; exact (by decide : 68 + 5 ≤ 89)) (fun i hi => by
          match i, hi with
          | 0, _ => exact HL_68.out
          | 1, _ => exact HL_69.out
          | 2, _ => exact HL_70.out
          | 3, _ => exact HL_71.out
          | 4, _ => exact HL_72.out
          | i + 5, hi => simp at hi; omega))
        clear hl h3 h22 h39 h40 h47 h51 h52 h53 h54 h55 h56 h57 h58 h59 h60 h61 h62 h63 h64 h65 h66 h67 h68 h69 h70 h71 h72 h86
        have HRS := Lib.hid (show (Try.prog.info? 51).map (·.size) = some L.length by rw [HLEN.out]; exact size_port)
        have HRL := Lib.hid (show w.rangeAt G o L from hP_w.range (j := 0) (n := 89) (by rw [List.drop_zero, List.take_of_length_le (by rw [HLEN.out]; exact Nat.le_refl 89)]) (by decide))
        go_enter Try.func39, Try.ntmps39
        go_wp2_with (first
          | fail
          | ((with_reducible refine at_load 51 ?_); refine wpList_load_mid rfl 51 _ rfl G o rfl L _ HRL.out Try.underlying51 rfl HRS.out ?_))
        refine (asi (rclass_L _ HT.out) (show ((clsL L : Nat) : Int) = 0 by rw [HC.out]; rfl)).mono ?_
        rintro e z1 ⟨rfl, hx⟩
        have E_z1 : Pm G o w z1 := Ext.pm hx G o
        have hP_z1 : Pv z1 G o L := hP_w.ext hx
        clear hP_w
        clear hx
        go_wp2_with (first
          | fail
          | ((with_reducible refine at_store 4 ?_); refine st_pv rfl rfl 4 _ _ rfl G o 23 _ hP_z1 _ #[.bool false] rfl rfl rfl (by exact (by decide : 23 + 1 ≤ 89)) (by kernel_rfl) rfl ?_
             intro z2 hp hm
             replace hp := pv_one hp HLEN.out (by decide)
             have hP_z2 := hp
             have E_z2 : Pm G o w z2 := E_z1.trans hm
             clear hP_z1 E_z1
             clear hp hm)
          | ((with_reducible refine at_store 4 ?_); refine st_pv rfl rfl 4 _ _ rfl G o 34 _ hP_z2 _ #[.bool false] rfl rfl rfl (by exact (by decide : 34 + 1 ≤ 89)) (by kernel_rfl) rfl ?_
             intro z3 hp hm
             replace hp := pv_one hp (len_set' HLEN.out) (by decide)
             have hP_z3 := hp
             have E_z3 : Pm G o w z3 := E_z2.trans hm
             clear hP_z2 E_z2
             clear hp hm))
        refine (dnoted G o _ hP_z3 (len_set' (len_set' HLEN.out)) _ ((get_ne (by decide)).trans ((get_ne (by decide)).trans HL_39.out)) _ ((get_ne (by decide)).trans ((get_ne (by decide)).trans HL_40.out)) _ ((get_ne (by decide)).trans ((get_ne (by decide)).trans HL_51.out)) _ ((get_ne (by decide)).trans ((get_ne (by decide)).trans HL_52.out)) _ ((get_ne (by decide)).trans ((get_ne (by decide)).trans HL_53.out)) _ ((get_ne (by decide)).trans ((get_ne (by decide)).trans HL_54.out)) _ ((get_ne (by decide)).trans ((get_ne (by decide)).trans HL_58.out))).mono ?_
        rintro e z4 ⟨rfl, hp, hm⟩
        have hP_z4 : Pv z4 G o (((iprop ((x51 == 2) && (x58 == 4) && x54) ((L.set 23 (.bool false)).set 34 (.bool false))).set 39 (.bool (x39 || x52))).set 40 (.bool (x40 || x53))) := hp
        have E_z4 : Pm G o w z4 := E_z3.trans hm
        clear hP_z3 E_z3
        clear hp hm
        go_wp2_with fail
        refine beginL (S := fun W' => Ext z4 W') (by kernel_rfl) ?_
        intro wd hqx
        have hq0 : Ext z4 wd := hqx
        refine tLp 0 ((.pointer (some ⟨G, o, none⟩))) rfl hq0 ?_
        simp only [ps]
        refine tLp 1 ((.pointer (some ⟨G, o, none⟩))) rfl hq0 ?_
        simp only [ps]
        refine tLp 2 ((.pointer (some ⟨G, o + 68, none⟩))) rfl hq0 ?_
        simp only [ps]
        refine tL 3 (_) rfl (yieldsIf_load_mid rfl 28 _ rfl G (o + 68) rfl ([.int .u64 x68, .int .u32 x69, .int .u64 x70, .int .u16 x71, .int .u16 x72]) _ (fun W' hW' => (hP_z4.ext hW').range (j := 68) (n := 5) ((seg_ne (by decide)).trans ((seg_ne (by decide)).trans ((seg_fn (fun i h1 h2 => iprop_ne (by omega))).trans ((seg_ne (by decide)).trans ((seg_ne (by decide)).trans HS_68.out))))) (by decide)) Try.underlying28 rfl (by kernel_rfl)) hq0 ?_
        simp only [ps]
        refine tLp 4 ((.pointer (some ⟨G, o, none⟩))) rfl hq0 ?_
        simp only [ps]
        refine tLp 5 ((.pointer (some ⟨G, o, none⟩))) rfl hq0 ?_
        simp only [ps]
        refine tLp 6 ((.pointer (some ⟨G, o + 51, none⟩))) rfl hq0 ?_
        simp only [ps]
        refine tLp 7 ((.pointer (some ⟨G, o + 59, none⟩))) rfl hq0 ?_
        simp only [ps]
        refine tL 8 (_) rfl (yieldsIf_load_mid rfl 28 _ rfl G (o + 59) rfl ([.int .u64 x59, .int .u32 x60, .int .u64 x61, .int .u16 x62, .int .u16 x63]) _ (fun W' hW' => (hP_z4.ext hW').range (j := 59) (n := 5) ((seg_ne (by decide)).trans ((seg_ne (by decide)).trans ((seg_fn (fun i h1 h2 => iprop_ne (by omega))).trans ((seg_ne (by decide)).trans ((seg_ne (by decide)).trans HS_59.out))))) (by decide)) Try.underlying28 rfl (by kernel_rfl)) hq0 ?_
        simp only [ps]
        refine runL (i := 9) rfl rfl (by kernel_rfl) (fun K hK => ?_)
        go_simp
        refine (asb (ref_less _ _ _ _ _ _ _ _ _ _ _) HLS.out).mono ?_
        rintro e wc1 ⟨rfl, hx⟩
        have hq1 := hq0.trans hx
        refine hK.out _ _ hq1 (fun hHeld => ?_)
        try simp only [ps]
        clear hK K hHeld
        refine tLp 10 ((.bool true)) rfl hq1 ?_
        simp only [ps]
        refine wpAnyH_done (by kernel_rfl) ?_ _
        generalize wc1 = z5 at *
        have hP_z5 : Pv z5 G o (((iprop ((x51 == 2) && (x58 == 4) && x54) ((L.set 23 (.bool false)).set 34 (.bool false))).set 39 (.bool (x39 || x52))).set 40 (.bool (x40 || x53))) := hP_z4.ext hq1
        have E_z5 : Pm G o w z5 := E_z4.ext hq1
        have p86_z5 : z5.cell? ⟨G, o + 86, none⟩ = some (.int .i64 3) := (hP_z5.cell (j := 86) (by decide)).trans ((get_ne (by decide)).trans ((get_ne (by decide)).trans ((iprop_ne (by decide)).trans ((get_ne (by decide)).trans ((get_ne (by decide)).trans HL_86.out)))))
        clear hP_z4 E_z4
        clear hq0 hq1
        go_wp2_with (first
          | fail
          | ((with_reducible refine at_store 4 ?_); refine st_pv rfl rfl 4 _ _ rfl G o 22 _ hP_z5 _ #[.bool false] rfl rfl rfl (by exact (by decide : 22 + 1 ≤ 89)) (by kernel_rfl) rfl ?_
             intro z6 hp hm
             replace hp := pv_one hp (len_set' (len_set' (iprop_len (len_set' (len_set' HLEN.out))))) (by decide)
             have hP_z6 := hp
             have E_z6 : Pm G o w z6 := E_z5.trans hm
             clear hP_z5 E_z5 p86_z5
             clear hp hm))
        refine ((res_pv (dagreement X rst G o _ hP_z6 (len_set' (len_set' (len_set' (iprop_len (len_set' (len_set' HLEN.out)))))) _ ((get_ne (by decide)).trans ((get_ne (by decide)).trans ((get_ne (by decide)).trans ((iprop_ne (by decide)).trans ((get_ne (by decide)).trans ((get_ne (by decide)).trans HL_3.out)))))) _ ((get_ne (by decide)).trans ((get_ne (by decide)).trans ((get_ne (by decide)).trans ((iprop_ne (by decide)).trans ((get_ne (by decide)).trans ((get_ne (by decide)).trans HL_51.out)))))) _ ((get_ne (by decide)).trans ((get_ne (by decide)).trans ((get_ne (by decide)).trans ((iprop_ne (by decide)).trans ((get_ne (by decide)).trans ((get_ne (by decide)).trans HL_55.out)))))) ((E_z6.1.cell (p := ⟨X, 1, none⟩) hXl hXG).trans HR.out)) (by rw [HAG.out]))).mono ?_
        rintro e z7 ⟨rfl, hp, hm⟩
        have hP_z7 : Pv z7 G o (iagr true ((((iprop ((x51 == 2) && (x58 == 4) && x54) ((L.set 23 (.bool false)).set 34 (.bool false))).set 39 (.bool (x39 || x52))).set 40 (.bool (x40 || x53))).set 22 (.bool false))) := hp
        have E_z7 : Pm G o w z7 := E_z6.trans hm
        clear hP_z6 E_z6
        clear hp hm
        have p23_z7 : z7.cell? ⟨G, o + 23, none⟩ = some (.bool true) := (hP_z7.cell (j := 23) (by decide)).trans (iagr_23 (len_set' (len_set' (len_set' (iprop_len (len_set' (len_set' HLEN.out)))))))
        replace hP_z7 : Pv z7 G o ((iagr true ((((iprop ((x51 == 2) && (x58 == 4) && x54) ((L.set 23 (.bool false)).set 34 (.bool false))).set 39 (.bool (x39 || x52))).set 40 (.bool (x40 || x53))).set 22 (.bool false))).set 47 (.bool x47)) := by
          rw [set_id ((iagr_ne (by decide) (by decide)).trans ((get_ne (by decide)).trans ((get_ne (by decide)).trans ((get_ne (by decide)).trans ((iprop_ne (by decide)).trans ((get_ne (by decide)).trans ((get_ne (by decide)).trans HL_47.out)))))))]
          exact hP_z7
        go_wp2_with (first
          | fail
          | ((with_reducible refine at_load 28 ?_); refine wpList_load_mid rfl 28 _ rfl G (o + 59) rfl [.int .u64 x59, .int .u32 x60, .int .u64 x61, .int .u16 x62, .int .u16 x63] _ (hP_z7.range (j := 59) (n := 5) ((seg_ne (by decide)).trans ((seg_fn (fun i h1 h2 => iagr_ne (by omega) (by omega))).trans ((seg_ne (by decide)).trans ((seg_ne (by decide)).trans ((seg_ne (by decide)).trans ((seg_fn (fun i h1 h2 => iprop_ne (by omega))).trans ((seg_ne (by decide)).trans ((seg_ne (by decide)).trans HS_59.out)))))))) (by decide)) Try.underlying28 rfl (by kernel_rfl) ?_)
          | ((with_reducible refine at_store 28 ?_); refine st_pv rfl rfl 28 _ _ rfl G o 68 _ hP_z7 _ #[.int .u64 x59, .int .u32 x60, .int .u64 x61, .int .u16 x62, .int .u16 x63] rfl rfl rfl (by exact (by decide : 68 + 5 ≤ 89)) (by kernel_rfl) rfl ?_
             intro z8 hp hm
             have hP_z8 : Pv z8 G o (setL ((iagr true ((((iprop ((x51 == 2) && (x58 == 4) && x54) ((L.set 23 (.bool false)).set 34 (.bool false))).set 39 (.bool (x39 || x52))).set 40 (.bool (x40 || x53))).set 22 (.bool false))).set 47 (.bool x47)) 68 [.int .u64 x59, .int .u32 x60, .int .u64 x61, .int .u16 x62, .int .u16 x63]) := hp
             have E_z8 : Pm G o w z8 := E_z7.trans hm
             clear hP_z7 E_z7 p23_z7
             clear hp hm)
          | ((with_reducible refine at_load 24 ?_); refine wpList_load_mid rfl 24 _ rfl G (o + 64) rfl [.int .i64 x64, .int .i64 x65, .int .i64 x66, .int .i64 x67] _ (hP_z8.range (j := 64) (n := 4) ((seg_out (len_set' (iagr_len (len_set' (len_set' (len_set' (iprop_len (len_set' (len_set' HLEN.out)))))))) (by exact (by decide : 68 + 5 ≤ 89)) (by exact (by decide : 68 + 5 ≤ 64 ∨ 64 + 4 ≤ 68))).trans ((seg_ne (by decide)).trans ((seg_fn (fun i h1 h2 => iagr_ne (by omega) (by omega))).trans ((seg_ne (by decide)).trans ((seg_ne (by decide)).trans ((seg_ne (by decide)).trans ((seg_fn (fun i h1 h2 => iprop_ne (by omega))).trans ((seg_ne (by decide)).trans ((seg_ne (by decide)).trans HS_64.out))))))))) (by decide)) Try.underlying24 rfl (by kernel_rfl) ?_)
          | ((with_reducible refine at_store 24 ?_); refine st_pv rfl rfl 24 _ _ rfl G o 78 _ hP_z8 _ #[.int .i64 x64, .int .i64 x65, .int .i64 x66, .int .i64 x67] rfl rfl rfl (by exact (by decide : 78 + 4 ≤ 89)) (by kernel_rfl) rfl ?_
             intro z9 hp hm
             have hP_z9 : Pv z9 G o (setL (setL ((iagr true ((((iprop ((x51 == 2) && (x58 == 4) && x54) ((L.set 23 (.bool false)).set 34 (.bool false))).set 39 (.bool (x39 || x52))).set 40 (.bool (x40 || x53))).set 22 (.bool false))).set 47 (.bool x47)) 68 [.int .u64 x59, .int .u32 x60, .int .u64 x61, .int .u16 x62, .int .u16 x63]) 78 [.int .i64 x64, .int .i64 x65, .int .i64 x66, .int .i64 x67]) := hp
             have E_z9 : Pm G o w z9 := E_z8.trans hm
             clear hP_z8 E_z8
             clear hp hm)
          | ((with_reducible refine at_load 24 ?_); refine wpList_load_mid rfl 24 _ rfl G (o + 78) rfl [.int .i64 x64, .int .i64 x65, .int .i64 x66, .int .i64 x67] _ (hP_z9.range (j := 78) (n := 4) (seg_same (vs := [.int .i64 x64, .int .i64 x65, .int .i64 x66, .int .i64 x67]) (len_setL (len_set' (iagr_len (len_set' (len_set' (len_set' (iprop_len (len_set' (len_set' HLEN.out)))))))) (by exact (by decide : 68 + 5 ≤ 89))) (by exact (by decide : 78 + 4 ≤ 89))) (by decide)) Try.underlying24 rfl (by kernel_rfl) ?_))
        refine (ref_waits _ _ _ _ _ r1 r2 r3 r4 r5 r6).mono ?_
        rintro e z10 ⟨rfl, hx⟩
        have E_z10 : Pm G o w z10 := E_z9.ext hx
        have hP_z10 : Pv z10 G o (setL (setL ((iagr true ((((iprop ((x51 == 2) && (x58 == 4) && x54) ((L.set 23 (.bool false)).set 34 (.bool false))).set 39 (.bool (x39 || x52))).set 40 (.bool (x40 || x53))).set 22 (.bool false))).set 47 (.bool x47)) 68 [.int .u64 x59, .int .u32 x60, .int .u64 x61, .int .u16 x62, .int .u16 x63]) 78 [.int .i64 x64, .int .i64 x65, .int .i64 x66, .int .i64 x67]) := hP_z9.ext hx
        clear hP_z9 E_z9
        clear hx
        go_wp2_with (first
          | fail
          | ((with_reducible refine at_store 3 ?_); refine st_pv rfl rfl 3 _ _ rfl G o 11 _ hP_z10 _ #[.int .i64 (waitsV x64 x65 x66)] rfl rfl rfl (by exact (by decide : 11 + 1 ≤ 89)) (by kernel_rfl) rfl ?_
             intro z11 hp hm
             replace hp := pv_one hp (len_setL (len_setL (len_set' (iagr_len (len_set' (len_set' (len_set' (iprop_len (len_set' (len_set' HLEN.out)))))))) (by exact (by decide : 68 + 5 ≤ 89))) (by exact (by decide : 78 + 4 ≤ 89))) (by decide)
             have hP_z11 := hp
             have E_z11 : Pm G o w z11 := E_z10.trans hm
             clear hP_z10 E_z10
             clear hp hm))
        refine ((res_pv (daged 3 2 G o _ hP_z11 (len_set' (len_setL (len_setL (len_set' (iagr_len (len_set' (len_set' (len_set' (iprop_len (len_set' (len_set' HLEN.out)))))))) (by exact (by decide : 68 + 5 ≤ 89))) (by exact (by decide : 78 + 4 ≤ 89))))) (dage_eq 3 2 _))).mono ?_
        rintro e z12 ⟨rfl, hp, hm⟩
        have hP_z12 : Pv z12 G o ((((((setL (setL ((iagr true ((((iprop ((x51 == 2) && (x58 == 4) && x54) ((L.set 23 (.bool false)).set 34 (.bool false))).set 39 (.bool (x39 || x52))).set 40 (.bool (x40 || x53))).set 22 (.bool false))).set 47 (.bool x47)) 68 [.int .u64 x59, .int .u32 x60, .int .u64 x61, .int .u16 x62, .int .u16 x63]) 78 [.int .i64 x64, .int .i64 x65, .int .i64 x66, .int .i64 x67]).set 11 (.int .i64 (waitsV x64 x65 x66))).set 86 (.int .i64 3)).set 43 (.bool true)).set 44 (.bool false)).set 18 (.int .i64 2)) := hp
        have E_z12 : Pm G o w z12 := E_z11.trans hm
        clear hP_z11 E_z11
        clear hp hm
        go_wp2_with (first
          | fail
          | ((with_reducible refine at_store 4 ?_); refine st_pv rfl rfl 4 _ _ rfl G o 36 _ hP_z12 _ #[.bool false] rfl rfl rfl (by exact (by decide : 36 + 1 ≤ 89)) (by kernel_rfl) rfl ?_
             intro z13 hp hm
             replace hp := pv_one hp (len_set' (len_set' (len_set' (len_set' (len_set' (len_setL (len_setL (len_set' (iagr_len (len_set' (len_set' (len_set' (iprop_len (len_set' (len_set' HLEN.out)))))))) (by exact (by decide : 68 + 5 ≤ 89))) (by exact (by decide : 78 + 4 ≤ 89)))))))) (by decide)
             have hP_z13 := hp
             have E_z13 : Pm G o w z13 := E_z12.trans hm
             clear hP_z12 E_z12
             clear hp hm))
        have hfin : (((((((setL (setL ((iagr true ((((iprop ((x51 == 2) && (x58 == 4) && x54) ((L.set 23 (.bool false)).set 34 (.bool false))).set 39 (.bool (x39 || x52))).set 40 (.bool (x40 || x53))).set 22 (.bool false))).set 47 (.bool x47)) 68 [.int .u64 x59, .int .u32 x60, .int .u64 x61, .int .u16 x62, .int .u16 x63]) 78 [.int .i64 x64, .int .i64 x65, .int .i64 x66, .int .i64 x67]).set 11 (.int .i64 (waitsV x64 x65 x66))).set 86 (.int .i64 3)).set 43 (.bool true)).set 44 (.bool false)).set 18 (.int .i64 2)).set 36 (.bool false)) = dfin (isup2 false x47 ((x51 == 2) && (x58 == 4) && x54) true (x39 || x52) (x40 || x53) [.int .u64 x59, .int .u32 x60, .int .u64 x61, .int .u16 x62, .int .u16 x63] [.int .i64 x64, .int .i64 x65, .int .i64 x66, .int .i64 x67] (waitsV x64 x65 x66) L) := by
          unfold dfin isup2 iask ichg
          exact fin_comm _ _ _ _ _ _
        go_end0
        exact ⟨rfl, hfin ▸ hP_z13, E_z13⟩
    · refine res_pv (L1 := dfin (isup2 false x47 ((x51 == 2) && (x58 == 4) && x54) true (x39 || x52) (x40 || x53) [.int .u64 x59, .int .u32 x60, .int .u64 x61, .int .u16 x62, .int .u16 x63] [.int .i64 x64, .int .i64 x65, .int .i64 x66, .int .i64 x67] (waitsV x64 x65 x66) L)) ?_ (by unfold isup isup2; rw [ne_b e86]; simp)
      have HT := Lib.hid hT
      have HC := Lib.hid hcls
      have HR := Lib.hid hc
      clear hT hcls hc
      have HL_18 := Lib.hid h18
      clear h18
      have c3 : (x86 != 3) = true := by simpa using e86
      clear e86
      have hG := hP_w.lt
      have HLEN := Lib.hid hl
      have HL_3 := Lib.hid h3
      have HL_22 := Lib.hid h22
      have HL_39 := Lib.hid h39
      have HL_40 := Lib.hid h40
      have HL_47 := Lib.hid h47
      have HL_51 := Lib.hid h51
      have HL_52 := Lib.hid h52
      have HL_53 := Lib.hid h53
      have HL_54 := Lib.hid h54
      have HL_55 := Lib.hid h55
      have HL_56 := Lib.hid h56
      have HL_57 := Lib.hid h57
      have HL_58 := Lib.hid h58
      have HL_59 := Lib.hid h59
      have HL_60 := Lib.hid h60
      have HL_61 := Lib.hid h61
      have HL_62 := Lib.hid h62
      have HL_63 := Lib.hid h63
      have HL_64 := Lib.hid h64
      have HL_65 := Lib.hid h65
      have HL_66 := Lib.hid h66
      have HL_67 := Lib.hid h67
      have HL_68 := Lib.hid h68
      have HL_69 := Lib.hid h69
      have HL_70 := Lib.hid h70
      have HL_71 := Lib.hid h71
      have HL_72 := Lib.hid h72
      have HL_86 := Lib.hid h86
      have HS_59 := Lib.hid (seg_of (L := L) (j := 59) (l := [.int .u64 x59, .int .u32 x60, .int .u64 x61, .int .u16 x62, .int .u16 x63]) (by rw [hl]; exact (by decide : 59 + 5 ≤ 89)) (fun i hi => by
        match i, hi with
        | 0, _ => exact HL_59.out
        | 1, _ => exact HL_60.out
        | 2, _ => exact HL_61.out
        | 3, _ => exact HL_62.out
        | 4, _ => exact HL_63.out
        | i + 5, hi => simp at hi; omega))
      have HS_64 := Lib.hid (seg_of (L := L) (j := 64) (l := [.int .i64 x64, .int .i64 x65, .int .i64 x66, .int .i64 x67]) (by rw [hl]; exact (by decide : 64 + 4 ≤ 89)) (fun i hi => by
        match i, hi with
        | 0, _ => exact HL_64.out
        | 1, _ => exact HL_65.out
        | 2, _ => exact HL_66.out
        | 3, _ => exact HL_67.out
        | i + 4, hi => simp at hi; omega))
      have HS_68 := Lib.hid (seg_of (L := L) (j := 68) (l := [.int .u64 x68, .int .u32 x69, .int .u64 x70, .int .u16 x71, .int .u16 x72]) (by rw [hl]; exact (by decide : 68 + 5 ≤ 89)) (fun i hi => by
        match i, hi with
        | 0, _ => exact HL_68.out
        | 1, _ => exact HL_69.out
        | 2, _ => exact HL_70.out
        | 3, _ => exact HL_71.out
        | 4, _ => exact HL_72.out
        | i + 5, hi => simp at hi; omega))
      clear hl h3 h22 h39 h40 h47 h51 h52 h53 h54 h55 h56 h57 h58 h59 h60 h61 h62 h63 h64 h65 h66 h67 h68 h69 h70 h71 h72 h86
      have HRS := Lib.hid (show (Try.prog.info? 51).map (·.size) = some L.length by rw [HLEN.out]; exact size_port)
      have HRL := Lib.hid (show w.rangeAt G o L from hP_w.range (j := 0) (n := 89) (by rw [List.drop_zero, List.take_of_length_le (by rw [HLEN.out]; exact Nat.le_refl 89)]) (by decide))
      go_enter Try.func39, Try.ntmps39
      go_wp2_with (first
        | fail
        | ((with_reducible refine at_load 51 ?_); refine wpList_load_mid rfl 51 _ rfl G o rfl L _ HRL.out Try.underlying51 rfl HRS.out ?_))
      refine (asi (rclass_L _ HT.out) (show ((clsL L : Nat) : Int) = 0 by rw [HC.out]; rfl)).mono ?_
      rintro e z1 ⟨rfl, hx⟩
      have E_z1 : Pm G o w z1 := Ext.pm hx G o
      have hP_z1 : Pv z1 G o L := hP_w.ext hx
      clear hP_w
      clear hx
      go_wp2_with (first
        | fail
        | ((with_reducible refine at_store 4 ?_); refine st_pv rfl rfl 4 _ _ rfl G o 23 _ hP_z1 _ #[.bool false] rfl rfl rfl (by exact (by decide : 23 + 1 ≤ 89)) (by kernel_rfl) rfl ?_
           intro z2 hp hm
           replace hp := pv_one hp HLEN.out (by decide)
           have hP_z2 := hp
           have E_z2 : Pm G o w z2 := E_z1.trans hm
           clear hP_z1 E_z1
           clear hp hm)
        | ((with_reducible refine at_store 4 ?_); refine st_pv rfl rfl 4 _ _ rfl G o 34 _ hP_z2 _ #[.bool false] rfl rfl rfl (by exact (by decide : 34 + 1 ≤ 89)) (by kernel_rfl) rfl ?_
           intro z3 hp hm
           replace hp := pv_one hp (len_set' HLEN.out) (by decide)
           have hP_z3 := hp
           have E_z3 : Pm G o w z3 := E_z2.trans hm
           clear hP_z2 E_z2
           clear hp hm))
      refine (dnoted G o _ hP_z3 (len_set' (len_set' HLEN.out)) _ ((get_ne (by decide)).trans ((get_ne (by decide)).trans HL_39.out)) _ ((get_ne (by decide)).trans ((get_ne (by decide)).trans HL_40.out)) _ ((get_ne (by decide)).trans ((get_ne (by decide)).trans HL_51.out)) _ ((get_ne (by decide)).trans ((get_ne (by decide)).trans HL_52.out)) _ ((get_ne (by decide)).trans ((get_ne (by decide)).trans HL_53.out)) _ ((get_ne (by decide)).trans ((get_ne (by decide)).trans HL_54.out)) _ ((get_ne (by decide)).trans ((get_ne (by decide)).trans HL_58.out))).mono ?_
      rintro e z4 ⟨rfl, hp, hm⟩
      have hP_z4 : Pv z4 G o (((iprop ((x51 == 2) && (x58 == 4) && x54) ((L.set 23 (.bool false)).set 34 (.bool false))).set 39 (.bool (x39 || x52))).set 40 (.bool (x40 || x53))) := hp
      have E_z4 : Pm G o w z4 := E_z3.trans hm
      clear hP_z3 E_z3
      clear hp hm
      go_wp2_with fail
      refine beginL (S := fun W' => Ext z4 W') (by kernel_rfl) ?_
      intro wd hqx
      have hq0 : Ext z4 wd := hqx
      refine tLp 0 ((.pointer (some ⟨G, o, none⟩))) rfl hq0 ?_
      simp only [ps]
      refine tLp 1 ((.pointer (some ⟨G, o, none⟩))) rfl hq0 ?_
      simp only [ps]
      refine tLp 2 ((.pointer (some ⟨G, o + 68, none⟩))) rfl hq0 ?_
      simp only [ps]
      refine tL 3 (_) rfl (yieldsIf_load_mid rfl 28 _ rfl G (o + 68) rfl ([.int .u64 x68, .int .u32 x69, .int .u64 x70, .int .u16 x71, .int .u16 x72]) _ (fun W' hW' => (hP_z4.ext hW').range (j := 68) (n := 5) ((seg_ne (by decide)).trans ((seg_ne (by decide)).trans ((seg_fn (fun i h1 h2 => iprop_ne (by omega))).trans ((seg_ne (by decide)).trans ((seg_ne (by decide)).trans HS_68.out))))) (by decide)) Try.underlying28 rfl (by kernel_rfl)) hq0 ?_
      simp only [ps]
      refine tLp 4 ((.pointer (some ⟨G, o, none⟩))) rfl hq0 ?_
      simp only [ps]
      refine tLp 5 ((.pointer (some ⟨G, o, none⟩))) rfl hq0 ?_
      simp only [ps]
      refine tLp 6 ((.pointer (some ⟨G, o + 51, none⟩))) rfl hq0 ?_
      simp only [ps]
      refine tLp 7 ((.pointer (some ⟨G, o + 59, none⟩))) rfl hq0 ?_
      simp only [ps]
      refine tL 8 (_) rfl (yieldsIf_load_mid rfl 28 _ rfl G (o + 59) rfl ([.int .u64 x59, .int .u32 x60, .int .u64 x61, .int .u16 x62, .int .u16 x63]) _ (fun W' hW' => (hP_z4.ext hW').range (j := 59) (n := 5) ((seg_ne (by decide)).trans ((seg_ne (by decide)).trans ((seg_fn (fun i h1 h2 => iprop_ne (by omega))).trans ((seg_ne (by decide)).trans ((seg_ne (by decide)).trans HS_59.out))))) (by decide)) Try.underlying28 rfl (by kernel_rfl)) hq0 ?_
      simp only [ps]
      refine runL (i := 9) rfl rfl (by kernel_rfl) (fun K hK => ?_)
      go_simp
      refine (asb (ref_less _ _ _ _ _ _ _ _ _ _ _) HLS.out).mono ?_
      rintro e wc1 ⟨rfl, hx⟩
      have hq1 := hq0.trans hx
      refine hK.out _ _ hq1 (fun hHeld => ?_)
      try simp only [ps]
      clear hK K hHeld
      refine tLp 10 ((.bool ls)) rfl hq1 ?_
      simp only [ps]
      refine wpAnyH_done (by kernel_rfl) ?_ _
      generalize wc1 = z5 at *
      have hP_z5 : Pv z5 G o (((iprop ((x51 == 2) && (x58 == 4) && x54) ((L.set 23 (.bool false)).set 34 (.bool false))).set 39 (.bool (x39 || x52))).set 40 (.bool (x40 || x53))) := hP_z4.ext hq1
      have E_z5 : Pm G o w z5 := E_z4.ext hq1
      have p86_z5 : z5.cell? ⟨G, o + 86, none⟩ = some (.int .i64 x86) := (hP_z5.cell (j := 86) (by decide)).trans ((get_ne (by decide)).trans ((get_ne (by decide)).trans ((iprop_ne (by decide)).trans ((get_ne (by decide)).trans ((get_ne (by decide)).trans HL_86.out)))))
      clear hP_z4 E_z4
      clear hq0 hq1
      go_wp2_with (first
        | fail
        | ((with_reducible refine at_store 4 ?_); refine st_pv rfl rfl 4 _ _ rfl G o 22 _ hP_z5 _ #[.bool false] rfl rfl rfl (by exact (by decide : 22 + 1 ≤ 89)) (by kernel_rfl) rfl ?_
           intro z6 hp hm
           replace hp := pv_one hp (len_set' (len_set' (iprop_len (len_set' (len_set' HLEN.out))))) (by decide)
           have hP_z6 := hp
           have E_z6 : Pm G o w z6 := E_z5.trans hm
           clear hP_z5 E_z5 p86_z5
           clear hp hm))
      refine ((res_pv (dagreement X rst G o _ hP_z6 (len_set' (len_set' (len_set' (iprop_len (len_set' (len_set' HLEN.out)))))) _ ((get_ne (by decide)).trans ((get_ne (by decide)).trans ((get_ne (by decide)).trans ((iprop_ne (by decide)).trans ((get_ne (by decide)).trans ((get_ne (by decide)).trans HL_3.out)))))) _ ((get_ne (by decide)).trans ((get_ne (by decide)).trans ((get_ne (by decide)).trans ((iprop_ne (by decide)).trans ((get_ne (by decide)).trans ((get_ne (by decide)).trans HL_51.out)))))) _ ((get_ne (by decide)).trans ((get_ne (by decide)).trans ((get_ne (by decide)).trans ((iprop_ne (by decide)).trans ((get_ne (by decide)).trans ((get_ne (by decide)).trans HL_55.out)))))) ((E_z6.1.cell (p := ⟨X, 1, none⟩) hXl hXG).trans HR.out)) (by rw [HAG.out]))).mono ?_
      rintro e z7 ⟨rfl, hp, hm⟩
      have hP_z7 : Pv z7 G o (iagr true ((((iprop ((x51 == 2) && (x58 == 4) && x54) ((L.set 23 (.bool false)).set 34 (.bool false))).set 39 (.bool (x39 || x52))).set 40 (.bool (x40 || x53))).set 22 (.bool false))) := hp
      have E_z7 : Pm G o w z7 := E_z6.trans hm
      clear hP_z6 E_z6
      clear hp hm
      have p23_z7 : z7.cell? ⟨G, o + 23, none⟩ = some (.bool true) := (hP_z7.cell (j := 23) (by decide)).trans (iagr_23 (len_set' (len_set' (len_set' (iprop_len (len_set' (len_set' HLEN.out)))))))
      replace hP_z7 : Pv z7 G o ((iagr true ((((iprop ((x51 == 2) && (x58 == 4) && x54) ((L.set 23 (.bool false)).set 34 (.bool false))).set 39 (.bool (x39 || x52))).set 40 (.bool (x40 || x53))).set 22 (.bool false))).set 47 (.bool x47)) := by
        rw [set_id ((iagr_ne (by decide) (by decide)).trans ((get_ne (by decide)).trans ((get_ne (by decide)).trans ((get_ne (by decide)).trans ((iprop_ne (by decide)).trans ((get_ne (by decide)).trans ((get_ne (by decide)).trans HL_47.out)))))))]
        exact hP_z7
      go_wp2_with (first
        | fail
        | ((with_reducible refine at_load 28 ?_); refine wpList_load_mid rfl 28 _ rfl G (o + 59) rfl [.int .u64 x59, .int .u32 x60, .int .u64 x61, .int .u16 x62, .int .u16 x63] _ (hP_z7.range (j := 59) (n := 5) ((seg_ne (by decide)).trans ((seg_fn (fun i h1 h2 => iagr_ne (by omega) (by omega))).trans ((seg_ne (by decide)).trans ((seg_ne (by decide)).trans ((seg_ne (by decide)).trans ((seg_fn (fun i h1 h2 => iprop_ne (by omega))).trans ((seg_ne (by decide)).trans ((seg_ne (by decide)).trans HS_59.out)))))))) (by decide)) Try.underlying28 rfl (by kernel_rfl) ?_)
        | ((with_reducible refine at_store 28 ?_); refine st_pv rfl rfl 28 _ _ rfl G o 68 _ hP_z7 _ #[.int .u64 x59, .int .u32 x60, .int .u64 x61, .int .u16 x62, .int .u16 x63] rfl rfl rfl (by exact (by decide : 68 + 5 ≤ 89)) (by kernel_rfl) rfl ?_
           intro z8 hp hm
           have hP_z8 : Pv z8 G o (setL ((iagr true ((((iprop ((x51 == 2) && (x58 == 4) && x54) ((L.set 23 (.bool false)).set 34 (.bool false))).set 39 (.bool (x39 || x52))).set 40 (.bool (x40 || x53))).set 22 (.bool false))).set 47 (.bool x47)) 68 [.int .u64 x59, .int .u32 x60, .int .u64 x61, .int .u16 x62, .int .u16 x63]) := hp
           have E_z8 : Pm G o w z8 := E_z7.trans hm
           clear hP_z7 E_z7 p23_z7
           clear hp hm)
        | ((with_reducible refine at_load 24 ?_); refine wpList_load_mid rfl 24 _ rfl G (o + 64) rfl [.int .i64 x64, .int .i64 x65, .int .i64 x66, .int .i64 x67] _ (hP_z8.range (j := 64) (n := 4) ((seg_out (len_set' (iagr_len (len_set' (len_set' (len_set' (iprop_len (len_set' (len_set' HLEN.out)))))))) (by exact (by decide : 68 + 5 ≤ 89)) (by exact (by decide : 68 + 5 ≤ 64 ∨ 64 + 4 ≤ 68))).trans ((seg_ne (by decide)).trans ((seg_fn (fun i h1 h2 => iagr_ne (by omega) (by omega))).trans ((seg_ne (by decide)).trans ((seg_ne (by decide)).trans ((seg_ne (by decide)).trans ((seg_fn (fun i h1 h2 => iprop_ne (by omega))).trans ((seg_ne (by decide)).trans ((seg_ne (by decide)).trans HS_64.out))))))))) (by decide)) Try.underlying24 rfl (by kernel_rfl) ?_)
        | ((with_reducible refine at_store 24 ?_); refine st_pv rfl rfl 24 _ _ rfl G o 78 _ hP_z8 _ #[.int .i64 x64, .int .i64 x65, .int .i64 x66, .int .i64 x67] rfl rfl rfl (by exact (by decide : 78 + 4 ≤ 89)) (by kernel_rfl) rfl ?_
           intro z9 hp hm
           have hP_z9 : Pv z9 G o (setL (setL ((iagr true ((((iprop ((x51 == 2) && (x58 == 4) && x54) ((L.set 23 (.bool false)).set 34 (.bool false))).set 39 (.bool (x39 || x52))).set 40 (.bool (x40 || x53))).set 22 (.bool false))).set 47 (.bool x47)) 68 [.int .u64 x59, .int .u32 x60, .int .u64 x61, .int .u16 x62, .int .u16 x63]) 78 [.int .i64 x64, .int .i64 x65, .int .i64 x66, .int .i64 x67]) := hp
           have E_z9 : Pm G o w z9 := E_z8.trans hm
           clear hP_z8 E_z8
           clear hp hm)
        | ((with_reducible refine at_load 24 ?_); refine wpList_load_mid rfl 24 _ rfl G (o + 78) rfl [.int .i64 x64, .int .i64 x65, .int .i64 x66, .int .i64 x67] _ (hP_z9.range (j := 78) (n := 4) (seg_same (vs := [.int .i64 x64, .int .i64 x65, .int .i64 x66, .int .i64 x67]) (len_setL (len_set' (iagr_len (len_set' (len_set' (len_set' (iprop_len (len_set' (len_set' HLEN.out)))))))) (by exact (by decide : 68 + 5 ≤ 89))) (by exact (by decide : 78 + 4 ≤ 89))) (by decide)) Try.underlying24 rfl (by kernel_rfl) ?_))
      refine (ref_waits _ _ _ _ _ r1 r2 r3 r4 r5 r6).mono ?_
      rintro e z10 ⟨rfl, hx⟩
      have E_z10 : Pm G o w z10 := E_z9.ext hx
      have hP_z10 : Pv z10 G o (setL (setL ((iagr true ((((iprop ((x51 == 2) && (x58 == 4) && x54) ((L.set 23 (.bool false)).set 34 (.bool false))).set 39 (.bool (x39 || x52))).set 40 (.bool (x40 || x53))).set 22 (.bool false))).set 47 (.bool x47)) 68 [.int .u64 x59, .int .u32 x60, .int .u64 x61, .int .u16 x62, .int .u16 x63]) 78 [.int .i64 x64, .int .i64 x65, .int .i64 x66, .int .i64 x67]) := hP_z9.ext hx
      clear hP_z9 E_z9
      clear hx
      go_wp2_with (first
        | fail
        | ((with_reducible refine at_store 3 ?_); refine st_pv rfl rfl 3 _ _ rfl G o 11 _ hP_z10 _ #[.int .i64 (waitsV x64 x65 x66)] rfl rfl rfl (by exact (by decide : 11 + 1 ≤ 89)) (by kernel_rfl) rfl ?_
           intro z11 hp hm
           replace hp := pv_one hp (len_setL (len_setL (len_set' (iagr_len (len_set' (len_set' (len_set' (iprop_len (len_set' (len_set' HLEN.out)))))))) (by exact (by decide : 68 + 5 ≤ 89))) (by exact (by decide : 78 + 4 ≤ 89))) (by decide)
           have hP_z11 := hp
           have E_z11 : Pm G o w z11 := E_z10.trans hm
           clear hP_z10 E_z10
           clear hp hm))
      refine ((res_pv (daged 3 2 G o _ hP_z11 (len_set' (len_setL (len_setL (len_set' (iagr_len (len_set' (len_set' (len_set' (iprop_len (len_set' (len_set' HLEN.out)))))))) (by exact (by decide : 68 + 5 ≤ 89))) (by exact (by decide : 78 + 4 ≤ 89))))) (dage_eq 3 2 _))).mono ?_
      rintro e z12 ⟨rfl, hp, hm⟩
      have hP_z12 : Pv z12 G o ((((((setL (setL ((iagr true ((((iprop ((x51 == 2) && (x58 == 4) && x54) ((L.set 23 (.bool false)).set 34 (.bool false))).set 39 (.bool (x39 || x52))).set 40 (.bool (x40 || x53))).set 22 (.bool false))).set 47 (.bool x47)) 68 [.int .u64 x59, .int .u32 x60, .int .u64 x61, .int .u16 x62, .int .u16 x63]) 78 [.int .i64 x64, .int .i64 x65, .int .i64 x66, .int .i64 x67]).set 11 (.int .i64 (waitsV x64 x65 x66))).set 86 (.int .i64 3)).set 43 (.bool true)).set 44 (.bool false)).set 18 (.int .i64 2)) := hp
      have E_z12 : Pm G o w z12 := E_z11.trans hm
      clear hP_z11 E_z11
      clear hp hm
      go_wp2_with (first
        | fail
        | ((with_reducible refine at_store 4 ?_); refine st_pv rfl rfl 4 _ _ rfl G o 36 _ hP_z12 _ #[.bool false] rfl rfl rfl (by exact (by decide : 36 + 1 ≤ 89)) (by kernel_rfl) rfl ?_
           intro z13 hp hm
           replace hp := pv_one hp (len_set' (len_set' (len_set' (len_set' (len_set' (len_setL (len_setL (len_set' (iagr_len (len_set' (len_set' (len_set' (iprop_len (len_set' (len_set' HLEN.out)))))))) (by exact (by decide : 68 + 5 ≤ 89))) (by exact (by decide : 78 + 4 ≤ 89)))))))) (by decide)
           have hP_z13 := hp
           have E_z13 : Pm G o w z13 := E_z12.trans hm
           clear hP_z12 E_z12
           clear hp hm))
      have hfin : (((((((setL (setL ((iagr true ((((iprop ((x51 == 2) && (x58 == 4) && x54) ((L.set 23 (.bool false)).set 34 (.bool false))).set 39 (.bool (x39 || x52))).set 40 (.bool (x40 || x53))).set 22 (.bool false))).set 47 (.bool x47)) 68 [.int .u64 x59, .int .u32 x60, .int .u64 x61, .int .u16 x62, .int .u16 x63]) 78 [.int .i64 x64, .int .i64 x65, .int .i64 x66, .int .i64 x67]).set 11 (.int .i64 (waitsV x64 x65 x66))).set 86 (.int .i64 3)).set 43 (.bool true)).set 44 (.bool false)).set 18 (.int .i64 2)).set 36 (.bool false)) = dfin (isup2 false x47 ((x51 == 2) && (x58 == 4) && x54) true (x39 || x52) (x40 || x53) [.int .u64 x59, .int .u32 x60, .int .u64 x61, .int .u16 x62, .int .u16 x63] [.int .i64 x64, .int .i64 x65, .int .i64 x66, .int .i64 x67] (waitsV x64 x65 x66) L) := by
        unfold dfin isup2 iask ichg
        exact fin_comm _ _ _ _ _ _
      go_end0
      exact ⟨rfl, hfin ▸ hP_z13, E_z13⟩

end Go.Proofs.Ythfoacgdkoijeaa
