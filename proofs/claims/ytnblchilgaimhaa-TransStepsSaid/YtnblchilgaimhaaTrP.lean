/- Role transitions by the document: roots. No statement is proved here. -/
import Derived.Test.YtnblchilgaimhaaTrO
namespace Go.Proofs.Ytnblchilgaimhaa
open Go.RowKit Go.BigFrame Go.WideShapes Go.ChangeShapes Go.Deep
set_option linter.unusedVariables false
set_option linter.unusedSimpArgs false

set_option maxRecDepth 100000 in
set_option maxHeartbeats 4000000 in
theorem td_root (w : World) (F : Nat → Prop) (X g k : Nat) (B : Br) (h : BrG w F X g B) (ho : B.ok) (hk : k < B.np) (hn : B.np < 1000) (h4 : 0 ≤ B.hi 4 ∧ B.hi 4 ≤ 1000) (hrg : ∀ k, k < B.np → 0 ≤ B.gi k 12 ∧ B.gi k 12 ≤ 1000) : Calls Try.prog 47 #[.pointer (some ⟨X, 0, none⟩), .int .i64 k, .pointer (some ⟨g, k * 89, none⟩), .int .i64 (trWait B k)] w (Stepped w F X g (trRow B k (trR2 B k))) := by
  obtain ⟨RS, hRS⟩ : ∃ RS, trRow B k (trR2 B k) = RS := ⟨_, rfl⟩
  rw [hRS]
  have HRS := Lib.hid hRS
  clear hRS
  obtain ⟨hX, hg, hne⟩ := h.lt
  obtain ⟨c11, hc11⟩ : ∃ b, trHB B k 11 = b := ⟨_, rfl⟩
  have HC11 := Lib.hid hc11
  clear hc11
  obtain ⟨c12, hc12⟩ : ∃ b, trHB B k 12 = b := ⟨_, rfl⟩
  have HC12 := Lib.hid hc12
  clear hc12
  obtain ⟨c13, hc13⟩ : ∃ b, trHB B k 13 = b := ⟨_, rfl⟩
  have HC13 := Lib.hid hc13
  clear hc13
  obtain ⟨c14, hc14⟩ : ∃ b, trHB B k 14 = b := ⟨_, rfl⟩
  have HC14 := Lib.hid hc14
  clear hc14
  obtain ⟨c16, hc16⟩ : ∃ b, trHB B k 16 = b := ⟨_, rfl⟩
  have HC16 := Lib.hid hc16
  clear hc16
  obtain ⟨c17, hc17⟩ : ∃ b, trHB B k 17 = b := ⟨_, rfl⟩
  have HC17 := Lib.hid hc17
  clear hc17
  obtain ⟨x33, e33⟩ : ∃ b, B.gb k 33 = b := ⟨_, rfl⟩
  have HE33 := Lib.hid e33
  clear e33
  obtain ⟨x22, e22⟩ : ∃ b, B.gb k 22 = b := ⟨_, rfl⟩
  have HE22 := Lib.hid e22
  clear e22
  obtain ⟨x26, e26⟩ : ∃ b, B.gb k 26 = b := ⟨_, rfl⟩
  have HE26 := Lib.hid e26
  clear e26
  obtain ⟨x42, e42⟩ : ∃ b, B.gb k 42 = b := ⟨_, rfl⟩
  have HE42 := Lib.hid e42
  clear e42
  obtain ⟨x28, e28⟩ : ∃ b, B.gb k 28 = b := ⟨_, rfl⟩
  have HE28 := Lib.hid e28
  clear e28
  obtain ⟨x7, e7⟩ : ∃ b, B.gi k 7 = b := ⟨_, rfl⟩
  have HE7 := Lib.hid e7
  clear e7
  obtain ⟨x12, e12⟩ : ∃ b, B.gi k 12 = b := ⟨_, rfl⟩
  have HE12 := Lib.hid e12
  clear e12
  obtain ⟨x10, e10⟩ : ∃ b, B.gi k 10 = b := ⟨_, rfl⟩
  have HE10 := Lib.hid e10
  clear e10
  obtain ⟨m, hall⟩ : ∃ m, trAll B = m := ⟨_, rfl⟩
  have HALL := Lib.hid hall
  clear hall
  obtain ⟨al, hal⟩ : ∃ m, trRer B k = m := ⟨_, rfl⟩
  have HAL := Lib.hid hal
  clear hal
  obtain ⟨o, ho1⟩ : ∃ m, trMay B k = m := ⟨_, rfl⟩
  have HO := Lib.hid ho1
  clear ho1
  obtain ⟨y1, hy1⟩ : ∃ m, B.hb 1 = m := ⟨_, rfl⟩
  have HH1 := Lib.hid hy1
  clear hy1
  obtain ⟨d15, hd15⟩ : ∃ m, (trMay B k && !B.gb k 26) = m := ⟨_, rfl⟩
  have HD15 := Lib.hid hd15
  clear hd15
  obtain ⟨C, hC, hCb, hCz⟩ := h.br (by omega)
  have HC := Lib.hid hC
  have HCb := Lib.hid hCb
  have HCi := Lib.hid (show (Try.prog.info? 33).map (·.size) = some C.size by rw [hCz, ho.hd.1]; exact size_br)
  clear hC hCb hCz
  have H := Lib.hid h
  have HRG := Lib.hid hrg
  clear h hrg
  go_enter Try.func47, Try.ntmps47
  go_wp2_with (first | fail | ((with_reducible refine at_load 33 ?_); refine wpList_load_row rfl 33 _ rfl X rfl 33 C (0, 0) _ HC.out Try.underlying33 rfl HCi.out ?_))
  refine (td_alls C B _ HCb.out ho).mono ?_
  rintro e w1 ⟨he, hx⟩
  rw [HALL.out] at he
  obtain rfl : e = .returned (.bool m) := he
  have HX1 := Lib.hid hx
  have HC1 := Lib.hid ((hx.block _ (heap_lt HC.out)).trans HC.out)
  clear hx
  go_wp2_with (first | fail | ((with_reducible refine at_load 33 ?_); refine wpList_load_row rfl 33 _ rfl X rfl 33 C (0, 0) _ HC1.out Try.underlying33 rfl HCi.out ?_))
  refine (td_rer C B k _ (HCb.out.ext HX1.out) ho (by omega) HRG.out).mono ?_
  rintro e w2 ⟨he, hx⟩
  rw [HAL.out] at he
  obtain rfl : e = .returned (.bool al) := he
  have HB2 := Lib.hid (H.out.ext (HX1.out.trans hx))
  have HM2 := Lib.hid ((HX1.out.trans hx).mut F)
  clear hx
  have p33 := (HB2.out.cellg (i := k * 89 + 33) (lt89 hk (by decide))).trans (ho.gb hk 33 rfl)
  rw [HE33.out] at p33
  have p22 := (HB2.out.cellg (i := k * 89 + 22) (lt89 hk (by decide))).trans (ho.gb hk 22 rfl)
  rw [HE22.out] at p22
  have p26 := (HB2.out.cellg (i := k * 89 + 26) (lt89 hk (by decide))).trans (ho.gb hk 26 rfl)
  rw [HE26.out] at p26
  have p42 := (HB2.out.cellg (i := k * 89 + 42) (lt89 hk (by decide))).trans (ho.gb hk 42 rfl)
  rw [HE42.out] at p42
  have p28 := (HB2.out.cellg (i := k * 89 + 28) (lt89 hk (by decide))).trans (ho.gb hk 28 rfl)
  rw [HE28.out] at p28
  have p7 := (HB2.out.cellg (i := k * 89 + 7) (lt89 hk (by decide))).trans (ho.gi hk 7 rfl)
  rw [HE7.out] at p7
  have p12 := (HB2.out.cellg (i := k * 89 + 12) (lt89 hk (by decide))).trans (ho.gi hk 12 rfl)
  rw [HE12.out] at p12
  have p10 := (HB2.out.cellg (i := k * 89 + 10) (lt89 hk (by decide))).trans (ho.gi hk 10 rfl)
  rw [HE10.out] at p10
  have hfr := HB2.out.frozen
  have p1 := (HB2.out.cellX ho (i := 1) (by decide)).trans (ho.hb 1 rfl)
  rw [HH1.out] at p1
  go_upto_region 3 with fail
  go_cut [11] (fun s wx => s = .bool o ∧ wx = w2)
  case first =>
    as_aux_lemma =>
      cases hb : (x7 == 0)
      · cases y1
        · go_wp2_with fail
          go_meet
          exact ⟨congrArg Value.bool (by rw [← HO.out]; simp [trMay, HE7.out, HE10.out, HH1.out, HAL.out, hb]), rfl⟩
        · cases al
          · go_wp2_with fail
            go_meet
            exact ⟨congrArg Value.bool (by rw [← HO.out]; simp [trMay, HE7.out, HE10.out, HH1.out, HAL.out, hb]), rfl⟩
          · go_wp2_with fail
            go_meet
            exact ⟨congrArg Value.bool (by rw [← HO.out]; simp [trMay, HE7.out, HE10.out, HH1.out, HAL.out, hb]), rfl⟩
      · go_wp2_with fail
        go_meet
        exact ⟨congrArg Value.bool (by rw [← HO.out]; simp [trMay, HE7.out, HE10.out, HH1.out, HAL.out, hb]), rfl⟩
  case rest =>
    obtain ⟨rfl, hwx⟩ := hcut
    replace hwx := hwx.symm
    subst hwx
    go_upto_region 5 with fail
    go_cut [45] (fun s wx => s = .bool c11 ∧ wx = w2)
    case first =>
      as_aux_lemma =>
        cases x33
        · go_wp2_with fail
          go_meet
          exact ⟨congrArg Value.bool (by rw [← HC11.out]; simp [trHB, HE33.out, HE22.out]), rfl⟩
        · go_wp2_with fail
          go_meet
          exact ⟨congrArg Value.bool (by rw [← HC11.out]; simp [trHB, HE33.out, HE22.out]), rfl⟩
    case rest =>
      obtain ⟨rfl, hwx⟩ := hcut
      replace hwx := hwx.symm
      subst hwx
      cases c11
      · go_upto_region 8 with fail
        go_cut [65] (fun s wx => s = .bool c12 ∧ wx = w2)
        case first =>
          as_aux_lemma =>
            cases m
            · cases x33
              · go_wp2_with fail
                go_meet
                exact ⟨congrArg Value.bool (by rw [← HC12.out]; simp [trHB, trAgs, HALL.out, HE33.out, HE22.out]), rfl⟩
              · go_wp2_with fail
                go_meet
                exact ⟨congrArg Value.bool (by rw [← HC12.out]; simp [trHB, trAgs, HALL.out, HE33.out, HE22.out]), rfl⟩
            · cases x22
              · go_wp2_with fail
                go_meet
                exact ⟨congrArg Value.bool (by rw [← HC12.out]; simp [trHB, trAgs, HALL.out, HE33.out, HE22.out]), rfl⟩
              · cases x33
                · go_wp2_with fail
                  go_meet
                  exact ⟨congrArg Value.bool (by rw [← HC12.out]; simp [trHB, trAgs, HALL.out, HE33.out, HE22.out]), rfl⟩
                · go_wp2_with fail
                  go_meet
                  exact ⟨congrArg Value.bool (by rw [← HC12.out]; simp [trHB, trAgs, HALL.out, HE33.out, HE22.out]), rfl⟩
        case rest =>
          obtain ⟨rfl, hwx⟩ := hcut
          replace hwx := hwx.symm
          subst hwx
          cases c12
          · go_upto_region 13 with fail
            go_cut [105] (fun s wx => s = .bool c13 ∧ wx = w2)
            case first =>
              as_aux_lemma =>
                cases x26
                · go_wp2_with fail
                  go_meet
                  exact ⟨congrArg Value.bool (by rw [← HC13.out]; simp [trHB, HE26.out, HE42.out]), rfl⟩
                · go_wp2_with fail
                  go_meet
                  exact ⟨congrArg Value.bool (by rw [← HC13.out]; simp [trHB, HE26.out, HE42.out]), rfl⟩
            case rest =>
              obtain ⟨rfl, hwx⟩ := hcut
              replace hwx := hwx.symm
              subst hwx
              cases c13
              · go_upto_region 18 with fail
                go_cut [137] (fun s wx => s = .bool c14 ∧ wx = w2)
                case first =>
                  as_aux_lemma =>
                    cases o
                    · go_wp2_with fail
                      go_meet
                      exact ⟨congrArg Value.bool (by rw [← HC14.out]; simp [trHB, HO.out, HE28.out]), rfl⟩
                    · go_wp2_with fail
                      go_meet
                      exact ⟨congrArg Value.bool (by rw [← HC14.out]; simp [trHB, HO.out, HE28.out]), rfl⟩
                case rest =>
                  obtain ⟨rfl, hwx⟩ := hcut
                  replace hwx := hwx.symm
                  subst hwx
                  cases c14
                  · go_upto_region 21 with fail
                    go_cut [156] (fun s wx => s = .bool d15 ∧ wx = w2)
                    case first =>
                      as_aux_lemma =>
                        cases o
                        · go_wp2_with fail
                          go_meet
                          exact ⟨congrArg Value.bool (by rw [← HD15.out]; simp [HO.out, HE26.out]), rfl⟩
                        · go_wp2_with fail
                          go_meet
                          exact ⟨congrArg Value.bool (by rw [← HD15.out]; simp [HO.out, HE26.out]), rfl⟩
                    case rest =>
                      obtain ⟨rfl, hwx⟩ := hcut
                      replace hwx := hwx.symm
                      subst hwx
                      cases d15
                      · have HC15 := Lib.hid (show trHB B k 15 = false from by
                          have h1 := HC14.out
                          have h2 := HD15.out
                          revert h1 h2
                          simp only [trHB]
                          cases trMay B k <;> cases B.gb k 28 <;> cases B.gb k 26 <;> simp)
                        go_upto_region 24 with fail
                        go_cut [174] (fun s wx => s = .bool c16 ∧ wx = w2)
                        case first =>
                          as_aux_lemma =>
                            cases x42
                            · go_wp2_with fail
                              go_meet
                              exact ⟨congrArg Value.bool (by rw [← HC16.out]; simp [trHB, HE42.out, HE26.out]), rfl⟩
                            · go_wp2_with fail
                              go_meet
                              exact ⟨congrArg Value.bool (by rw [← HC16.out]; simp [trHB, HE42.out, HE26.out]), rfl⟩
                        case rest =>
                          obtain ⟨rfl, hwx⟩ := hcut
                          replace hwx := hwx.symm
                          subst hwx
                          cases c16
                          · have q5 := (HB2.out.cellX ho (i := 5) (by decide)).trans (ho.hi 5 rfl)
                            have hg2 := HB2.out.lt.2.1
                            have hX2 := HB2.out.lt.1
                            go_upto_region 26 with fail
                            go_cut [191] (fun s wx => s = .bool c17 ∧ Ext w2 wx)
                            case first =>
                              refine beginL (S := fun W' => Ext w2 W') (by kernel_rfl) ?_
                              intro wd hqx
                              have hq0 : Ext w2 wd := hqx
                              refine takeL (i := 0) (v := (.pointer (some ⟨g, k * 89, none⟩))) rfl (by kernel_rfl) (by kernel_rfl) (by kernel_rfl) (fun _ _ _ h => h) (Or.inl ⟨rfl, fun _ _ => rfl⟩) hq0 ?_
                              simp only [Act.put, List.setIfInBounds_toArray, List.set_cons_zero, List.set_cons_succ]
                              refine takeL (i := 1) (v := (.pointer (some ⟨g, k * 89, none⟩))) rfl (by kernel_rfl) (by kernel_rfl) (by kernel_rfl) (fun _ _ _ h => h) (Or.inl ⟨rfl, fun _ _ => rfl⟩) hq0 ?_
                              simp only [Act.put, List.setIfInBounds_toArray, List.set_cons_zero, List.set_cons_succ]
                              refine takeL (i := 2) (v := (.pointer (some ⟨g, k * 89 + 6, none⟩))) rfl (by kernel_rfl) (by kernel_rfl) (by kernel_rfl) (fun _ _ _ h => h) (Or.inl ⟨rfl, fun _ _ => rfl⟩) hq0 ?_
                              simp only [Act.put, List.setIfInBounds_toArray, List.set_cons_zero, List.set_cons_succ]
                              refine takeL (i := 3) (v := (.pointer (some ⟨g, k * 89 + 12, none⟩))) rfl (by kernel_rfl) (by kernel_rfl) (by kernel_rfl) (fun _ _ _ h => h) (Or.inl ⟨rfl, fun _ _ => rfl⟩) hq0 ?_
                              simp only [Act.put, List.setIfInBounds_toArray, List.set_cons_zero, List.set_cons_succ]
                              refine takeL (i := 4) (v := _) rfl (by kernel_rfl) (by kernel_rfl) (by kernel_rfl) (fun _ _ _ h => h) (yieldsIf_cell rfl 3 _ rfl ⟨g, k * 89 + 12, none⟩ rfl (.int .i64 x12) _ (fun W' hW' => (hW'.cell (p := ⟨g, k * 89 + 12, none⟩) hg2).trans p12) Try.underlying3 rfl) hq0 ?_
                              simp only [Act.put, List.setIfInBounds_toArray, List.set_cons_zero, List.set_cons_succ]
                              refine takeL (i := 5) (v := (.pointer (some ⟨X, 0, none⟩))) rfl (by kernel_rfl) (by kernel_rfl) (by kernel_rfl) (fun _ _ _ h => h) (Or.inl ⟨rfl, fun _ _ => rfl⟩) hq0 ?_
                              simp only [Act.put, List.setIfInBounds_toArray, List.set_cons_zero, List.set_cons_succ]
                              refine takeL (i := 6) (v := (.pointer (some ⟨X, 0, none⟩))) rfl (by kernel_rfl) (by kernel_rfl) (by kernel_rfl) (fun _ _ _ h => h) (Or.inl ⟨rfl, fun _ _ => rfl⟩) hq0 ?_
                              simp only [Act.put, List.setIfInBounds_toArray, List.set_cons_zero, List.set_cons_succ]
                              refine takeL (i := 7) (v := (.pointer (some ⟨X, 2, none⟩))) rfl (by kernel_rfl) (by kernel_rfl) (by kernel_rfl) (fun _ _ _ h => h) (Or.inl ⟨rfl, fun _ _ => rfl⟩) hq0 ?_
                              simp only [Act.put, List.setIfInBounds_toArray, List.set_cons_zero, List.set_cons_succ]
                              refine takeL (i := 8) (v := (.pointer (some ⟨X, 5, none⟩))) rfl (by kernel_rfl) (by kernel_rfl) (by kernel_rfl) (fun _ _ _ h => h) (Or.inl ⟨rfl, fun _ _ => rfl⟩) hq0 ?_
                              simp only [Act.put, List.setIfInBounds_toArray, List.set_cons_zero, List.set_cons_succ]
                              refine takeL (i := 9) (v := _) rfl (by kernel_rfl) (by kernel_rfl) (by kernel_rfl) (fun _ _ _ h => h) (yieldsIf_cell rfl 3 _ rfl ⟨X, 5, none⟩ rfl (.int .i64 (B.hi 5)) _ (fun W' hW' => (hW'.cell (p := ⟨X, 5, none⟩) hX2).trans q5) Try.underlying3 rfl) hq0 ?_
                              simp only [Act.put, List.setIfInBounds_toArray, List.set_cons_zero, List.set_cons_succ]
                              refine takeL (i := 10) (v := (.bool (x12 != B.hi 5))) rfl (by kernel_rfl) (by kernel_rfl) (by kernel_rfl) (fun _ _ _ h => h) (Or.inl ⟨rfl, fun W' _ => by go_simp⟩) hq0 ?_
                              simp only [Act.put, List.setIfInBounds_toArray, List.set_cons_zero, List.set_cons_succ]
                              refine takeL (i := 11) (v := (.bool (x12 != B.hi 5))) rfl (by kernel_rfl) (by kernel_rfl) (by kernel_rfl) (fun _ _ _ h => h) (Or.inl ⟨rfl, fun _ _ => rfl⟩) hq0 ?_
                              simp only [Act.put, List.setIfInBounds_toArray, List.set_cons_zero, List.set_cons_succ]
                              refine wpAnyH_done (by kernel_rfl) ?_ _
                              go_wp2_with fail
                              go_meet
                              exact ⟨congrArg Value.bool (by rw [← HC17.out]; simp only [trHB]; rw [HE12.out]), hq0⟩
                            case rest =>
                              obtain ⟨rfl, hx3⟩ := hcut
                              have HB3 := Lib.hid (HB2.out.ext hx3)
                              have HM3 := Lib.hid (HM2.out.trans (hx3.mut F))
                              clear hx3 q5 p33 p22 p26 p42 p28 p7 p12 p10 hfr
                              have p12 := (HB3.out.cellg (i := k * 89 + 12) (lt89 hk (by decide))).trans (ho.gi hk 12 rfl)
                              have q5 := (HB3.out.cellX ho (i := 5) (by decide)).trans (ho.hi 5 rfl)
                              have hfr := HB3.out.frozen
                              cases c17
                              · go_wp2_with fail
                                go_ret
                                have hR : trR2 B k = 24 := by unfold trR2; simp [HC11.out, HC12.out, HC13.out, HC14.out, HC15.out, HC16.out, HC17.out]
                                have e2 : RS = (false, B) := by rw [← HRS.out, hR]; rfl
                                rw [e2]
                                exact ⟨rfl, HB3.out, HM3.out⟩
                              · go_wp2_with fail
                                go_ret
                                have hR : trR2 B k = 17 := by unfold trR2; simp [HC11.out, HC12.out, HC13.out, HC14.out, HC15.out, HC16.out, HC17.out]
                                have e2 : RS = (true, (B.setp k 12 (.int .i64 (B.hi 5)))) := by
                                  rw [← HRS.out, hR]
                                  rfl
                                rw [e2]
                                exact ⟨rfl, (HB3.out.setp (k := k) (j := 12) hk (by decide) (.int .i64 (B.hi 5))), (HM3.out.setCell (p := ⟨g, k * 89 + 12, none⟩) (.inl HB3.out.F2) (.int .i64 (B.hi 5)))⟩
                          · go_wp2_with fail
                            go_ret
                            have hR : trR2 B k = 16 := by unfold trR2; simp [HC11.out, HC12.out, HC13.out, HC14.out, HC15.out, HC16.out]
                            have e2 : RS = (true, (B.setp k 42 (.bool false))) := by
                              rw [← HRS.out, hR]
                              rfl
                            rw [e2]
                            exact ⟨rfl, (HB2.out.setp (k := k) (j := 42) hk (by decide) (.bool false)), (HM2.out.setCell (p := ⟨g, k * 89 + 42, none⟩) (.inl HB2.out.F2) (.bool false))⟩
                      · have HC15 := Lib.hid (show trHB B k 15 = true from by
                          have h1 := HC14.out
                          have h2 := HD15.out
                          revert h1 h2
                          simp only [trHB]
                          cases trMay B k <;> cases B.gb k 28 <;> cases B.gb k 26 <;> simp)
                        go_wp2_with fail
                        go_ret
                        have hR : trR2 B k = 15 := by unfold trR2; simp [HC11.out, HC12.out, HC13.out, HC14.out, HC15.out]
                        have e2 : RS = (true, ((B.setp k 7 (.int .i64 0)).setp k 26 (.bool true))) := by
                          rw [← HRS.out, hR]
                          show (true, _) = (true, _)
                          congr 1
                          simp (disch := decide) only [trAB, trFwd, setp_sort]
                        rw [e2]
                        exact ⟨rfl, ((HB2.out.setp (k := k) (j := 7) hk (by decide) (.int .i64 0)).setp (k := k) (j := 26) hk (by decide) (.bool true)), ((HM2.out.setCell (p := ⟨g, k * 89 + 7, none⟩) (.inl HB2.out.F2) (.int .i64 0)).setCell (p := ⟨g, k * 89 + 26, none⟩) (.inl HB2.out.F2) (.bool true))⟩
                  · go_wp2_with fail
                    go_ret
                    have hR : trR2 B k = 14 := by unfold trR2; simp [HC11.out, HC12.out, HC13.out, HC14.out]
                    have e2 : RS = (true, ((B.setp k 7 (.int .i64 (trWait B k))).setp k 28 (.bool true))) := by
                      rw [← HRS.out, hR]
                      show (true, _) = (true, _)
                      congr 1
                      simp (disch := decide) only [trAB, trLearn, setp_sort]
                    rw [e2]
                    exact ⟨rfl, ((HB2.out.setp (k := k) (j := 7) hk (by decide) (.int .i64 (trWait B k))).setp (k := k) (j := 28) hk (by decide) (.bool true)), ((HM2.out.setCell (p := ⟨g, k * 89 + 7, none⟩) (.inl HB2.out.F2) (.int .i64 (trWait B k))).setCell (p := ⟨g, k * 89 + 28, none⟩) (.inl HB2.out.F2) (.bool true))⟩
              · clear p33 p22 p26 p42 p28 p7 p12 p10 hfr
                obtain ⟨cap, c17, hc1, hc2⟩ := HB2.out.cell17 ho
                go_wp2_with fail
                go_loopw [12] (fun v wr => ∃ n : Nat, n ≤ B.np ∧ v = .int .i64 n ∧ BrG wr F X g (B.upd 42 (fun _ => .bool true) n) ∧ Mut F w wr) (fun v _ => B.np - (intOf v).toNat)
                case atStart => exact ⟨0, by omega, rfl, HB2.out, HM2.out⟩
                case round =>
                  clear c17
                  obtain ⟨n, hn2, rfl, hB, hm⟩ := hrel
                  have HB := Lib.hid hB
                  have HM := Lib.hid hm
                  clear hB hm
                  have okn : Br.ok (B.upd 42 (fun _ => .bool true) n) := upd_ok ho (by decide) (fun i c hc => by cases hc; exact ⟨_, rfl⟩) n hn2
                  have hnp : Br.np (B.upd 42 (fun _ => .bool true) n) = B.np := upd_np _ _ _ _
                  obtain ⟨cap2, c17, hc3, hc4⟩ := HB.out.cell17 okn
                  rw [hnp] at c17 hc3
                  by_cases hlt : n < B.np
                  · have hkn : n < Br.np (B.upd 42 (fun _ => .bool true) n) := by rw [hnp]; exact hlt
                    have p42 := (HB.out.cellg (i := n * 89 + 42) (lt89 hkn (by decide))).trans (okn.gb hkn 42 rfl)
                    have hfr := HB.out.frozen
                    go_wp2_with fail
                    go_roundw
                    case rel => exact ⟨n + 1, by omega, by go_num, HB.out.setp (k := n) (j := 42) hkn (by decide) _, HM.out.setCell (.inl HB.out.F2) _⟩
                    case measure => simp [intOf]; omega
                  · obtain rfl : n = B.np := by omega
                    go_wp2_with fail
                    go_ret
                    have hR : trR2 B k = 13 := by unfold trR2; simp [HC11.out, HC12.out, HC13.out]
                    have e2 : RS = (true, trReAll B) := by rw [← HRS.out, hR]; rfl
                    rw [e2]
                    exact ⟨rfl, HB.out, HM.out⟩
          · have p31 := (HB2.out.cellg (i := k * 89 + 31) (lt89 hk (by decide))).trans (ho.gb hk 31 rfl)
            have p46 := (HB2.out.cellg (i := k * 89 + 46) (lt89 hk (by decide))).trans (ho.gb hk 46 rfl)
            go_wp2_with fail
            go_ret
            have hR : trR2 B k = 12 := by unfold trR2; simp [HC11.out, HC12.out]
            have e2 : RS = (true, ((((B.setp k 33 (.bool false)).setp k 46 (.bool false)).setp k 22 (.bool true)).setp k 31 (.bool true))) := by
              rw [← HRS.out, hR]
              show (true, _) = (true, _)
              congr 1
              simp (disch := decide) only [trAB, trAgree, setp_sort]
            rw [e2]
            exact ⟨rfl, ((((HB2.out.setp (k := k) (j := 33) hk (by decide) (.bool false)).setp (k := k) (j := 46) hk (by decide) (.bool false)).setp (k := k) (j := 22) hk (by decide) (.bool true)).setp (k := k) (j := 31) hk (by decide) (.bool true)), ((((HM2.out.setCell (p := ⟨g, k * 89 + 33, none⟩) (.inl HB2.out.F2) (.bool false)).setCell (p := ⟨g, k * 89 + 46, none⟩) (.inl HB2.out.F2) (.bool false)).setCell (p := ⟨g, k * 89 + 22, none⟩) (.inl HB2.out.F2) (.bool true)).setCell (p := ⟨g, k * 89 + 31, none⟩) (.inl HB2.out.F2) (.bool true))⟩
      · go_wp2_with fail
        refine (td_sync _ F X g B HB2.out ho hn).mono ?_
        rintro e w3 ⟨rfl, hB, hm⟩
        have HB3 := Lib.hid hB
        have HM3 := Lib.hid (HM2.out.trans hm)
        have okn : Br.ok (B.upd 46 (fun _ => .bool true) B.np) := upd_flag_ok ho 46 (by decide) rfl B.np (Nat.le_refl _)
        have hkn : k < Br.np (B.upd 46 (fun _ => .bool true) B.np) := by rw [upd_np]; exact hk
        clear hB hm p33 p22 p26 p42 p28 p7 p12 p10 hfr
        have p33 := (HB3.out.cellg (i := k * 89 + 33) (lt89 hkn (by decide))).trans (okn.gb hkn 33 rfl)
        have hfr := HB3.out.frozen
        go_wp2_with fail
        go_ret
        have hR : trR2 B k = 11 := by unfold trR2; simp [HC11.out]
        have e2 : RS = (true, trAskAll B k) := by rw [← HRS.out, hR]; rfl
        rw [e2]
        exact ⟨rfl, HB3.out.setp (k := k) (j := 33) hkn (by decide) _, HM3.out.setCell (.inl HB3.out.F2) _⟩

end Go.Proofs.Ytnblchilgaimhaa
