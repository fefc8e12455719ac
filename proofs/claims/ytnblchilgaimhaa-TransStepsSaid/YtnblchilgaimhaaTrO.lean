/- Role transitions by the document: alternates and roots. No statement is proved here. -/
import Derived.Test.YtnblchilgaimhaaTrN
import Derived.Deep.DeepCutAuto
namespace Go.Proofs.Ytnblchilgaimhaa
open Go.RowKit Go.BigFrame Go.WideShapes Go.ChangeShapes Go.Deep
set_option linter.unusedVariables false
set_option linter.unusedSimpArgs false

theorem td_alls (c : Array Value) (B : Br) (w : World) (hb : BrC w c B) (ho : B.ok) : Calls Try.prog 29 #[.agg c] w fun e w' => e = .returned (.bool (trAll B)) ∧ Ext w w' :=
  (dallsynced_any c B w hb ho).mono fun e w' ⟨f, he, hx, hf⟩ => ⟨by rw [he, show f = trAll B from Bool.eq_iff_iff.2 (hf.trans (trAll_iff B).symm)], hx⟩
theorem td_rer (c : Array Value) (B : Br) (k : Nat) (w : World) (hb : BrC w c B) (ho : B.ok) (hn : B.np ≤ 1000) (hrg : ∀ k, k < B.np → 0 ≤ B.gi k 12 ∧ B.gi k 12 ≤ 1000) : Calls Try.prog 31 #[.agg c, .int .i64 k] w fun e w' => e = .returned (.bool (trRer B k)) ∧ Ext w w' :=
  (drerooted_any c B k w hb ho hn hrg).mono fun e w' ⟨f, he, hx, hf⟩ => ⟨by rw [he, show f = trRer B k from Bool.eq_iff_iff.2 (hf.trans (trRer_iff B k).symm)], hx⟩

def trR5 (B : Br) (k : Nat) : Nat := if trHB B k 7 = true then 7 else if trHB B k 8 = true then 8 else if trHB B k 9 = true then 9 else if trHB B k 10 = true then 10 else 24
def trR2 (B : Br) (k : Nat) : Nat := if trHB B k 11 = true then 11 else if trHB B k 12 = true then 12 else if trHB B k 13 = true then 13 else if trHB B k 14 = true then 14 else if trHB B k 15 = true then 15 else if trHB B k 16 = true then 16 else if trHB B k 17 = true then 17 else 24
def trR3 (B : Br) (k : Nat) : Nat := if trHB B k 18 = true then 18 else if trHB B k 19 = true then 19 else if trHB B k 20 = true then 20 else if trHB B k 21 = true then 21 else if trHB B k 22 = true then 22 else if trHB B k 23 = true then 23 else 24

set_option maxRecDepth 100000 in
set_option maxHeartbeats 4000000 in
theorem td_rests (w : World) (F : Nat → Prop) (X g k : Nat) (B : Br) (h : BrG w F X g B) (ho : B.ok) (hk : k < B.np) (fd st : Int) : Calls Try.prog 45 #[.pointer (some ⟨g, k * 89, none⟩), .int .i64 fd, .int .i64 st] w fun e w' => e = .returned (.tuple #[]) ∧ BrG w' F X g ((trSettle B k fd).setp k 19 (.int .i64 st)) ∧ Mut F w w' := by
  have e7 := (h.cellg (i := k * 89 + 7) (lt89 hk (by decide))).trans (Br.ok.gi ho (k := k) hk 7 rfl)
  have e12 := (h.cellg (i := k * 89 + 12) (lt89 hk (by decide))).trans (Br.ok.gi ho (k := k) hk 12 rfl)
  have e47 := (h.cellg (i := k * 89 + 47) (lt89 hk (by decide))).trans (Br.ok.gb ho (k := k) hk 47 rfl)
  have e46 := (h.cellg (i := k * 89 + 46) (lt89 hk (by decide))).trans (Br.ok.gb ho (k := k) hk 46 rfl)
  have e42 := (h.cellg (i := k * 89 + 42) (lt89 hk (by decide))).trans (Br.ok.gb ho (k := k) hk 42 rfl)
  have e19 := (h.cellg (i := k * 89 + 19) (lt89 hk (by decide))).trans (Br.ok.gi ho (k := k) hk 19 rfl)
  have efr := h.frozen
  have H := Lib.hid h
  clear h
  go_enter Try.func45, Try.ntmps45
  go_wp2_with fail
  go_end0
  exact ⟨rfl, ((((((H.out.setp (k := k) (j := 7) hk (by decide) (.int .i64 fd)).setp (k := k) (j := 12) hk (by decide) (.int .i64 0)).setp (k := k) (j := 47) hk (by decide) (.bool true)).setp (k := k) (j := 46) hk (by decide) (.bool false)).setp (k := k) (j := 42) hk (by decide) (.bool false)).setp (k := k) (j := 19) hk (by decide) (.int .i64 st)), (((((((Mut.refl F w).setCell (p := ⟨g, k * 89 + 7, none⟩) (.inl H.out.F2) (.int .i64 fd)).setCell (p := ⟨g, k * 89 + 12, none⟩) (.inl H.out.F2) (.int .i64 0)).setCell (p := ⟨g, k * 89 + 47, none⟩) (.inl H.out.F2) (.bool true)).setCell (p := ⟨g, k * 89 + 46, none⟩) (.inl H.out.F2) (.bool false)).setCell (p := ⟨g, k * 89 + 42, none⟩) (.inl H.out.F2) (.bool false)).setCell (p := ⟨g, k * 89 + 19, none⟩) (.inl H.out.F2) (.int .i64 st))⟩

set_option maxRecDepth 100000 in
set_option maxHeartbeats 4000000 in
theorem td_sync (w : World) (F : Nat → Prop) (X g : Nat) (B : Br) (h : BrG w F X g B) (ho : B.ok) (hn : B.np < 1000) : Calls Try.prog 89 #[.pointer (some ⟨X, 0, none⟩)] w fun e w' => e = .returned (.tuple #[]) ∧ BrG w' F X g (B.upd 46 (fun _ => .bool true) B.np) ∧ Mut F w w' := by
  obtain ⟨cap, c17, hc1, hc2⟩ := h.cell17 ho
  have H := Lib.hid h
  clear h
  go_enter Try.func89, Try.ntmps89
  go_wp2_with fail
  go_loopw [2] (fun v wr => ∃ n : Nat, n ≤ B.np ∧ v = .int .i64 n ∧ BrG wr F X g (B.upd 46 (fun _ => .bool true) n) ∧ Mut F w wr) (fun v _ => B.np - (intOf v).toNat)
  case atStart => exact ⟨0, by omega, rfl, H.out, Mut.refl F w⟩
  case round =>
    clear c17
    obtain ⟨n, hn2, rfl, hB, hm⟩ := hrel
    have HB := Lib.hid hB
    have HM := Lib.hid hm
    clear hB hm
    have okn : Br.ok (B.upd 46 (fun _ => .bool true) n) := upd_ok ho (by decide) (fun i c hc => by cases hc; exact ⟨_, rfl⟩) n hn2
    have hnp : Br.np (B.upd 46 (fun _ => .bool true) n) = B.np := upd_np _ _ _ _
    obtain ⟨cap2, c17, hc3, hc4⟩ := HB.out.cell17 okn
    rw [hnp] at c17 hc3
    by_cases hlt : n < B.np
    · have hkn : n < Br.np (B.upd 46 (fun _ => .bool true) n) := by rw [hnp]; exact hlt
      have p46 := (HB.out.cellg (i := n * 89 + 46) (lt89 hkn (by decide))).trans (okn.gb hkn 46 rfl)
      have hfr := HB.out.frozen
      go_wp2_with fail
      go_roundw
      case rel => exact ⟨n + 1, by omega, by go_num, HB.out.setp (k := n) (j := 46) hkn (by decide) _, HM.out.setCell (.inl HB.out.F2) _⟩
      case measure => simp [intOf]; omega
    · obtain rfl : n = B.np := by omega
      go_wp2_with fail
      go_end0
      exact ⟨rfl, HB.out, HM.out⟩

set_option maxRecDepth 100000 in
set_option maxHeartbeats 4000000 in
theorem td_alternate (w : World) (F : Nat → Prop) (X g k : Nat) (B : Br) (h : BrG w F X g B) (ho : B.ok) (hk : k < B.np) (hn : B.np < 1000) (h4 : 0 ≤ B.hi 4 ∧ B.hi 4 ≤ 1000) : Calls Try.prog 46 #[.pointer (some ⟨X, 0, none⟩), .pointer (some ⟨g, k * 89, none⟩), .int .i64 (trWait B k)] w (Stepped w F X g (trRow B k (trR5 B k))) := by
  obtain ⟨RS, hRS⟩ : ∃ RS, trRow B k (trR5 B k) = RS := ⟨_, rfl⟩
  rw [hRS]
  have HRS := Lib.hid hRS
  clear hRS
  obtain ⟨hX, hg, hne⟩ := h.lt
  obtain ⟨c7, hc7⟩ : ∃ b, trHB B k 7 = b := ⟨_, rfl⟩
  have HC7 := Lib.hid hc7
  clear hc7
  obtain ⟨c8, hc8⟩ : ∃ b, trHB B k 8 = b := ⟨_, rfl⟩
  have HC8 := Lib.hid hc8
  clear hc8
  obtain ⟨c9, hc9⟩ : ∃ b, trHB B k 9 = b := ⟨_, rfl⟩
  have HC9 := Lib.hid hc9
  clear hc9
  obtain ⟨c10, hc10⟩ : ∃ b, trHB B k 10 = b := ⟨_, rfl⟩
  have HC10 := Lib.hid hc10
  clear hc10
  obtain ⟨x33, e33⟩ : ∃ b, B.gb k 33 = b := ⟨_, rfl⟩
  have HE33 := Lib.hid e33
  clear e33
  obtain ⟨x22, e22⟩ : ∃ b, B.gb k 22 = b := ⟨_, rfl⟩
  have HE22 := Lib.hid e22
  clear e22
  obtain ⟨x46, e46⟩ : ∃ b, B.gb k 46 = b := ⟨_, rfl⟩
  have HE46 := Lib.hid e46
  clear e46
  obtain ⟨x42, e42⟩ : ∃ b, B.gb k 42 = b := ⟨_, rfl⟩
  have HE42 := Lib.hid e42
  clear e42
  obtain ⟨x47, e47⟩ : ∃ b, B.gb k 47 = b := ⟨_, rfl⟩
  have HE47 := Lib.hid e47
  clear e47
  obtain ⟨x7, e7⟩ : ∃ b, B.gi k 7 = b := ⟨_, rfl⟩
  have HE7 := Lib.hid e7
  clear e7
  obtain ⟨m, hall⟩ : ∃ m, trAll B = m := ⟨_, rfl⟩
  have HALL := Lib.hid hall
  clear hall
  obtain ⟨C, hC, hCb, hCz⟩ := h.br (by omega)
  have HC := Lib.hid hC
  have HCb := Lib.hid hCb
  have HCi := Lib.hid (show (Try.prog.info? 33).map (·.size) = some C.size by rw [hCz, ho.hd.1]; exact size_br)
  clear hC hCb hCz
  have H := Lib.hid h
  clear h
  go_enter Try.func46, Try.ntmps46
  go_wp2_with (first | fail | ((with_reducible refine at_load 33 ?_); refine wpList_load_row rfl 33 _ rfl X rfl 33 C (0, 0) _ HC.out Try.underlying33 rfl HCi.out ?_))
  refine (td_alls C B _ HCb.out ho).mono ?_
  rintro e w2 ⟨he, hx⟩
  rw [HALL.out] at he
  obtain rfl : e = .returned (.bool m) := he
  have HB2 := Lib.hid (H.out.ext hx)
  have HM2 := Lib.hid (hx.mut F)
  clear hx
  have p33 := (HB2.out.cellg (i := k * 89 + 33) (lt89 hk (by decide))).trans (ho.gb hk 33 rfl)
  rw [HE33.out] at p33
  have p22 := (HB2.out.cellg (i := k * 89 + 22) (lt89 hk (by decide))).trans (ho.gb hk 22 rfl)
  rw [HE22.out] at p22
  have p46 := (HB2.out.cellg (i := k * 89 + 46) (lt89 hk (by decide))).trans (ho.gb hk 46 rfl)
  rw [HE46.out] at p46
  have p42 := (HB2.out.cellg (i := k * 89 + 42) (lt89 hk (by decide))).trans (ho.gb hk 42 rfl)
  rw [HE42.out] at p42
  have p47 := (HB2.out.cellg (i := k * 89 + 47) (lt89 hk (by decide))).trans (ho.gb hk 47 rfl)
  rw [HE47.out] at p47
  have p7 := (HB2.out.cellg (i := k * 89 + 7) (lt89 hk (by decide))).trans (ho.gi hk 7 rfl)
  rw [HE7.out] at p7
  have hfr := HB2.out.frozen
  go_upto_region 3 with fail
  go_cut [12] (fun s wx => s = .bool c7 ∧ wx = w2)
  case first =>
    cases x33
    · go_wp2_with fail
      go_meet
      exact ⟨congrArg Value.bool (by rw [← HC7.out]; simp [trHB, HE33.out, HE22.out]), rfl⟩
    · go_wp2_with fail
      go_meet
      exact ⟨congrArg Value.bool (by rw [← HC7.out]; simp [trHB, HE33.out, HE22.out]), rfl⟩
  case rest =>
    obtain ⟨rfl, hwx⟩ := hcut
    replace hwx := hwx.symm
    subst hwx
    cases c7
    · go_upto_region 6 with fail
      go_cut [32] (fun s wx => s = .bool c8 ∧ wx = w2)
      case first =>
        cases m
        · cases x33
          · go_wp2_with fail
            go_meet
            exact ⟨congrArg Value.bool (by rw [← HC8.out]; simp [trHB, trAgs, HALL.out, HE33.out, HE22.out]), rfl⟩
          · go_wp2_with fail
            go_meet
            exact ⟨congrArg Value.bool (by rw [← HC8.out]; simp [trHB, trAgs, HALL.out, HE33.out, HE22.out]), rfl⟩
        · cases x22
          · go_wp2_with fail
            go_meet
            exact ⟨congrArg Value.bool (by rw [← HC8.out]; simp [trHB, trAgs, HALL.out, HE33.out, HE22.out]), rfl⟩
          · cases x33
            · go_wp2_with fail
              go_meet
              exact ⟨congrArg Value.bool (by rw [← HC8.out]; simp [trHB, trAgs, HALL.out, HE33.out, HE22.out]), rfl⟩
            · go_wp2_with fail
              go_meet
              exact ⟨congrArg Value.bool (by rw [← HC8.out]; simp [trHB, trAgs, HALL.out, HE33.out, HE22.out]), rfl⟩
      case rest =>
        obtain ⟨rfl, hwx⟩ := hcut
        replace hwx := hwx.symm
        subst hwx
        cases c8
        · have p87 := (HB2.out.cellg (i := k * 89 + 87) (lt89 hk (by decide))).trans (ho.gi hk 87 rfl)
          have p10 := (HB2.out.cellg (i := k * 89 + 10) (lt89 hk (by decide))).trans (ho.gi hk 10 rfl)
          have q4 := (HB2.out.cellX ho (i := 4) (by decide)).trans (ho.hi 4 rfl)
          have hg2 := HB2.out.lt.2.1
          have hX2 := HB2.out.lt.1
          have hwr : IntKind.i64.wrap (B.hi 4 + B.hi 4) = 2 * B.hi 4 := by rw [IntKind.wrap_i64]; omega
          go_upto_region 10 with fail
          go_cut [68] (fun s wx => s = .bool c9 ∧ Ext w2 wx)
          case first =>
            cases hb : (B.gi k 87 == 2)
            · have hb1 : (B.gi k 87 == 2) = false := hb
              refine beginL (S := fun W' => Ext w2 W') (by kernel_rfl) ?_
              intro wd hqx
              have hq0 : Ext w2 wd := hqx
              refine takeL (i := 0) (v := (.pointer (some ⟨g, k * 89, none⟩))) rfl (by kernel_rfl) (by kernel_rfl) (by kernel_rfl) (fun _ _ _ h => h) (Or.inl ⟨rfl, fun _ _ => rfl⟩) hq0 ?_
              simp only [Act.put, List.setIfInBounds_toArray, List.set_cons_zero, List.set_cons_succ]
              refine takeL (i := 1) (v := (.pointer (some ⟨g, k * 89, none⟩))) rfl (by kernel_rfl) (by kernel_rfl) (by kernel_rfl) (fun _ _ _ h => h) (Or.inl ⟨rfl, fun _ _ => rfl⟩) hq0 ?_
              simp only [Act.put, List.setIfInBounds_toArray, List.set_cons_zero, List.set_cons_succ]
              refine takeL (i := 2) (v := (.pointer (some ⟨g, k * 89 + 87, none⟩))) rfl (by kernel_rfl) (by kernel_rfl) (by kernel_rfl) (fun _ _ _ h => h) (Or.inl ⟨rfl, fun _ _ => rfl⟩) hq0 ?_
              simp only [Act.put, List.setIfInBounds_toArray, List.set_cons_zero, List.set_cons_succ]
              refine takeL (i := 3) (v := _) rfl (by kernel_rfl) (by kernel_rfl) (by kernel_rfl) (fun _ _ _ h => h) (yieldsIf_cell rfl 3 _ rfl ⟨g, k * 89 + 87, none⟩ rfl (.int .i64 (B.gi k 87)) _ (fun W' hW' => (hW'.cell (p := ⟨g, k * 89 + 87, none⟩) hg2).trans p87) Try.underlying3 rfl) hq0 ?_
              simp only [Act.put, List.setIfInBounds_toArray, List.set_cons_zero, List.set_cons_succ]
              refine takeL (i := 4) (v := (.bool false)) rfl (by kernel_rfl) (by kernel_rfl) (by kernel_rfl) (fun _ _ _ h => h) (Or.inl ⟨rfl, fun W' _ => by go_simp⟩) hq0 ?_
              simp only [Act.put, List.setIfInBounds_toArray, List.set_cons_zero, List.set_cons_succ]
              refine takeL (i := 5) (v := (.bool false)) rfl (by kernel_rfl) (by kernel_rfl) (by kernel_rfl) (fun _ _ _ h => h) (Or.inl ⟨rfl, fun _ _ => rfl⟩) hq0 ?_
              simp only [Act.put, List.setIfInBounds_toArray, List.set_cons_zero, List.set_cons_succ]
              refine takeL (i := 6) (v := undef) rfl (by kernel_rfl) (by kernel_rfl) (by kernel_rfl) (fun _ _ _ h => h) (Or.inr ⟨rfl, rfl⟩) hq0 ?_
              simp only [Act.put, List.setIfInBounds_toArray, List.set_cons_zero, List.set_cons_succ]
              refine takeL (i := 7) (v := undef) rfl (by kernel_rfl) (by kernel_rfl) (by kernel_rfl) (fun _ _ _ h => h) (Or.inr ⟨rfl, rfl⟩) hq0 ?_
              simp only [Act.put, List.setIfInBounds_toArray, List.set_cons_zero, List.set_cons_succ]
              refine takeL (i := 8) (v := undef) rfl (by kernel_rfl) (by kernel_rfl) (by kernel_rfl) (fun _ _ _ h => h) (Or.inr ⟨rfl, rfl⟩) hq0 ?_
              simp only [Act.put, List.setIfInBounds_toArray, List.set_cons_zero, List.set_cons_succ]
              refine takeL (i := 9) (v := undef) rfl (by kernel_rfl) (by kernel_rfl) (by kernel_rfl) (fun _ _ _ h => h) (Or.inr ⟨rfl, rfl⟩) hq0 ?_
              simp only [Act.put, List.setIfInBounds_toArray, List.set_cons_zero, List.set_cons_succ]
              refine takeL (i := 10) (v := undef) rfl (by kernel_rfl) (by kernel_rfl) (by kernel_rfl) (fun _ _ _ h => h) (Or.inr ⟨rfl, rfl⟩) hq0 ?_
              simp only [Act.put, List.setIfInBounds_toArray, List.set_cons_zero, List.set_cons_succ]
              refine takeL (i := 11) (v := undef) rfl (by kernel_rfl) (by kernel_rfl) (by kernel_rfl) (fun _ _ _ h => h) (Or.inr ⟨rfl, rfl⟩) hq0 ?_
              simp only [Act.put, List.setIfInBounds_toArray, List.set_cons_zero, List.set_cons_succ]
              refine takeL (i := 12) (v := undef) rfl (by kernel_rfl) (by kernel_rfl) (by kernel_rfl) (fun _ _ _ h => h) (Or.inr ⟨rfl, rfl⟩) hq0 ?_
              simp only [Act.put, List.setIfInBounds_toArray, List.set_cons_zero, List.set_cons_succ]
              refine takeL (i := 13) (v := undef) rfl (by kernel_rfl) (by kernel_rfl) (by kernel_rfl) (fun _ _ _ h => h) (Or.inr ⟨rfl, rfl⟩) hq0 ?_
              simp only [Act.put, List.setIfInBounds_toArray, List.set_cons_zero, List.set_cons_succ]
              refine takeL (i := 14) (v := undef) rfl (by kernel_rfl) (by kernel_rfl) (by kernel_rfl) (fun _ _ _ h => h) (Or.inr ⟨rfl, rfl⟩) hq0 ?_
              simp only [Act.put, List.setIfInBounds_toArray, List.set_cons_zero, List.set_cons_succ]
              refine takeL (i := 15) (v := undef) rfl (by kernel_rfl) (by kernel_rfl) (by kernel_rfl) (fun _ _ _ h => h) (Or.inr ⟨rfl, rfl⟩) hq0 ?_
              simp only [Act.put, List.setIfInBounds_toArray, List.set_cons_zero, List.set_cons_succ]
              refine takeL (i := 16) (v := undef) rfl (by kernel_rfl) (by kernel_rfl) (by kernel_rfl) (fun _ _ _ h => h) (Or.inr ⟨rfl, rfl⟩) hq0 ?_
              simp only [Act.put, List.setIfInBounds_toArray, List.set_cons_zero, List.set_cons_succ]
              refine takeL (i := 17) (v := undef) rfl (by kernel_rfl) (by kernel_rfl) (by kernel_rfl) (fun _ _ _ h => h) (Or.inr ⟨rfl, rfl⟩) hq0 ?_
              simp only [Act.put, List.setIfInBounds_toArray, List.set_cons_zero, List.set_cons_succ]
              refine takeL (i := 18) (v := undef) rfl (by kernel_rfl) (by kernel_rfl) (by kernel_rfl) (fun _ _ _ h => h) (Or.inr ⟨rfl, rfl⟩) hq0 ?_
              simp only [Act.put, List.setIfInBounds_toArray, List.set_cons_zero, List.set_cons_succ]
              refine takeL (i := 19) (v := undef) rfl (by kernel_rfl) (by kernel_rfl) (by kernel_rfl) (fun _ _ _ h => h) (Or.inr ⟨rfl, rfl⟩) hq0 ?_
              simp only [Act.put, List.setIfInBounds_toArray, List.set_cons_zero, List.set_cons_succ]
              refine takeL (i := 20) (v := undef) rfl (by kernel_rfl) (by kernel_rfl) (by kernel_rfl) (fun _ _ _ h => h) (Or.inr ⟨rfl, rfl⟩) hq0 ?_
              simp only [Act.put, List.setIfInBounds_toArray, List.set_cons_zero, List.set_cons_succ]
              refine takeL (i := 21) (v := undef) rfl (by kernel_rfl) (by kernel_rfl) (by kernel_rfl) (fun _ _ _ h => h) (Or.inr ⟨rfl, rfl⟩) hq0 ?_
              simp only [Act.put, List.setIfInBounds_toArray, List.set_cons_zero, List.set_cons_succ]
              refine takeL (i := 22) (v := undef) rfl (by kernel_rfl) (by kernel_rfl) (by kernel_rfl) (fun _ _ _ h => h) (Or.inr ⟨rfl, rfl⟩) hq0 ?_
              simp only [Act.put, List.setIfInBounds_toArray, List.set_cons_zero, List.set_cons_succ]
              refine takeL (i := 23) (v := (.bool false)) rfl (by kernel_rfl) (by kernel_rfl) (by kernel_rfl) (fun _ _ _ h => h) (Or.inl ⟨rfl, fun _ _ => rfl⟩) hq0 ?_
              simp only [Act.put, List.setIfInBounds_toArray, List.set_cons_zero, List.set_cons_succ]
              refine takeL (i := 24) (v := (.bool false)) rfl (by kernel_rfl) (by kernel_rfl) (by kernel_rfl) (fun _ _ _ h => h) (Or.inl ⟨rfl, fun _ _ => rfl⟩) hq0 ?_
              simp only [Act.put, List.setIfInBounds_toArray, List.set_cons_zero, List.set_cons_succ]
              refine wpAnyH_done (by kernel_rfl) ?_ _
              go_wp2_with fail
              go_meet
              exact ⟨congrArg Value.bool (by rw [← HC9.out]; simp only [trHB]; rw [hb]; first | rfl | simp), hq0⟩
            · have hb1 : (B.gi k 87 == 2) = true := hb
              refine beginL (S := fun W' => Ext w2 W') (by kernel_rfl) ?_
              intro wd hqx
              have hq0 : Ext w2 wd := hqx
              refine takeL (i := 0) (v := (.pointer (some ⟨g, k * 89, none⟩))) rfl (by kernel_rfl) (by kernel_rfl) (by kernel_rfl) (fun _ _ _ h => h) (Or.inl ⟨rfl, fun _ _ => rfl⟩) hq0 ?_
              simp only [Act.put, List.setIfInBounds_toArray, List.set_cons_zero, List.set_cons_succ]
              refine takeL (i := 1) (v := (.pointer (some ⟨g, k * 89, none⟩))) rfl (by kernel_rfl) (by kernel_rfl) (by kernel_rfl) (fun _ _ _ h => h) (Or.inl ⟨rfl, fun _ _ => rfl⟩) hq0 ?_
              simp only [Act.put, List.setIfInBounds_toArray, List.set_cons_zero, List.set_cons_succ]
              refine takeL (i := 2) (v := (.pointer (some ⟨g, k * 89 + 87, none⟩))) rfl (by kernel_rfl) (by kernel_rfl) (by kernel_rfl) (fun _ _ _ h => h) (Or.inl ⟨rfl, fun _ _ => rfl⟩) hq0 ?_
              simp only [Act.put, List.setIfInBounds_toArray, List.set_cons_zero, List.set_cons_succ]
              refine takeL (i := 3) (v := _) rfl (by kernel_rfl) (by kernel_rfl) (by kernel_rfl) (fun _ _ _ h => h) (yieldsIf_cell rfl 3 _ rfl ⟨g, k * 89 + 87, none⟩ rfl (.int .i64 (B.gi k 87)) _ (fun W' hW' => (hW'.cell (p := ⟨g, k * 89 + 87, none⟩) hg2).trans p87) Try.underlying3 rfl) hq0 ?_
              simp only [Act.put, List.setIfInBounds_toArray, List.set_cons_zero, List.set_cons_succ]
              refine takeL (i := 4) (v := (.bool true)) rfl (by kernel_rfl) (by kernel_rfl) (by kernel_rfl) (fun _ _ _ h => h) (Or.inl ⟨rfl, fun W' _ => by go_simp⟩) hq0 ?_
              simp only [Act.put, List.setIfInBounds_toArray, List.set_cons_zero, List.set_cons_succ]
              refine takeL (i := 5) (v := (.bool true)) rfl (by kernel_rfl) (by kernel_rfl) (by kernel_rfl) (fun _ _ _ h => h) (Or.inl ⟨rfl, fun _ _ => rfl⟩) hq0 ?_
              simp only [Act.put, List.setIfInBounds_toArray, List.set_cons_zero, List.set_cons_succ]
              refine takeL (i := 6) (v := (.pointer (some ⟨g, k * 89, none⟩))) rfl (by kernel_rfl) (by kernel_rfl) (by kernel_rfl) (fun _ _ _ h => h) (Or.inl ⟨rfl, fun _ _ => rfl⟩) hq0 ?_
              simp only [Act.put, List.setIfInBounds_toArray, List.set_cons_zero, List.set_cons_succ]
              refine takeL (i := 7) (v := (.pointer (some ⟨g, k * 89, none⟩))) rfl (by kernel_rfl) (by kernel_rfl) (by kernel_rfl) (fun _ _ _ h => h) (Or.inl ⟨rfl, fun _ _ => rfl⟩) hq0 ?_
              simp only [Act.put, List.setIfInBounds_toArray, List.set_cons_zero, List.set_cons_succ]
              refine takeL (i := 8) (v := (.pointer (some ⟨g, k * 89 + 6, none⟩))) rfl (by kernel_rfl) (by kernel_rfl) (by kernel_rfl) (fun _ _ _ h => h) (Or.inl ⟨rfl, fun _ _ => rfl⟩) hq0 ?_
              simp only [Act.put, List.setIfInBounds_toArray, List.set_cons_zero, List.set_cons_succ]
              refine takeL (i := 9) (v := (.pointer (some ⟨g, k * 89 + 10, none⟩))) rfl (by kernel_rfl) (by kernel_rfl) (by kernel_rfl) (fun _ _ _ h => h) (Or.inl ⟨rfl, fun _ _ => rfl⟩) hq0 ?_
              simp only [Act.put, List.setIfInBounds_toArray, List.set_cons_zero, List.set_cons_succ]
              refine takeL (i := 10) (v := _) rfl (by kernel_rfl) (by kernel_rfl) (by kernel_rfl) (fun _ _ _ h => h) (yieldsIf_cell rfl 3 _ rfl ⟨g, k * 89 + 10, none⟩ rfl (.int .i64 (B.gi k 10)) _ (fun W' hW' => (hW'.cell (p := ⟨g, k * 89 + 10, none⟩) hg2).trans p10) Try.underlying3 rfl) hq0 ?_
              simp only [Act.put, List.setIfInBounds_toArray, List.set_cons_zero, List.set_cons_succ]
              refine takeL (i := 11) (v := (.pointer (some ⟨X, 0, none⟩))) rfl (by kernel_rfl) (by kernel_rfl) (by kernel_rfl) (fun _ _ _ h => h) (Or.inl ⟨rfl, fun _ _ => rfl⟩) hq0 ?_
              simp only [Act.put, List.setIfInBounds_toArray, List.set_cons_zero, List.set_cons_succ]
              refine takeL (i := 12) (v := (.pointer (some ⟨X, 0, none⟩))) rfl (by kernel_rfl) (by kernel_rfl) (by kernel_rfl) (fun _ _ _ h => h) (Or.inl ⟨rfl, fun _ _ => rfl⟩) hq0 ?_
              simp only [Act.put, List.setIfInBounds_toArray, List.set_cons_zero, List.set_cons_succ]
              refine takeL (i := 13) (v := (.pointer (some ⟨X, 2, none⟩))) rfl (by kernel_rfl) (by kernel_rfl) (by kernel_rfl) (fun _ _ _ h => h) (Or.inl ⟨rfl, fun _ _ => rfl⟩) hq0 ?_
              simp only [Act.put, List.setIfInBounds_toArray, List.set_cons_zero, List.set_cons_succ]
              refine takeL (i := 14) (v := (.pointer (some ⟨X, 4, none⟩))) rfl (by kernel_rfl) (by kernel_rfl) (by kernel_rfl) (fun _ _ _ h => h) (Or.inl ⟨rfl, fun _ _ => rfl⟩) hq0 ?_
              simp only [Act.put, List.setIfInBounds_toArray, List.set_cons_zero, List.set_cons_succ]
              refine takeL (i := 15) (v := _) rfl (by kernel_rfl) (by kernel_rfl) (by kernel_rfl) (fun _ _ _ h => h) (yieldsIf_cell rfl 3 _ rfl ⟨X, 4, none⟩ rfl (.int .i64 (B.hi 4)) _ (fun W' hW' => (hW'.cell (p := ⟨X, 4, none⟩) hX2).trans q4) Try.underlying3 rfl) hq0 ?_
              simp only [Act.put, List.setIfInBounds_toArray, List.set_cons_zero, List.set_cons_succ]
              refine takeL (i := 16) (v := (.pointer (some ⟨X, 0, none⟩))) rfl (by kernel_rfl) (by kernel_rfl) (by kernel_rfl) (fun _ _ _ h => h) (Or.inl ⟨rfl, fun _ _ => rfl⟩) hq0 ?_
              simp only [Act.put, List.setIfInBounds_toArray, List.set_cons_zero, List.set_cons_succ]
              refine takeL (i := 17) (v := (.pointer (some ⟨X, 0, none⟩))) rfl (by kernel_rfl) (by kernel_rfl) (by kernel_rfl) (fun _ _ _ h => h) (Or.inl ⟨rfl, fun _ _ => rfl⟩) hq0 ?_
              simp only [Act.put, List.setIfInBounds_toArray, List.set_cons_zero, List.set_cons_succ]
              refine takeL (i := 18) (v := (.pointer (some ⟨X, 2, none⟩))) rfl (by kernel_rfl) (by kernel_rfl) (by kernel_rfl) (fun _ _ _ h => h) (Or.inl ⟨rfl, fun _ _ => rfl⟩) hq0 ?_
              simp only [Act.put, List.setIfInBounds_toArray, List.set_cons_zero, List.set_cons_succ]
              refine takeL (i := 19) (v := (.pointer (some ⟨X, 4, none⟩))) rfl (by kernel_rfl) (by kernel_rfl) (by kernel_rfl) (fun _ _ _ h => h) (Or.inl ⟨rfl, fun _ _ => rfl⟩) hq0 ?_
              simp only [Act.put, List.setIfInBounds_toArray, List.set_cons_zero, List.set_cons_succ]
              refine takeL (i := 20) (v := _) rfl (by kernel_rfl) (by kernel_rfl) (by kernel_rfl) (fun _ _ _ h => h) (yieldsIf_cell rfl 3 _ rfl ⟨X, 4, none⟩ rfl (.int .i64 (B.hi 4)) _ (fun W' hW' => (hW'.cell (p := ⟨X, 4, none⟩) hX2).trans q4) Try.underlying3 rfl) hq0 ?_
              simp only [Act.put, List.setIfInBounds_toArray, List.set_cons_zero, List.set_cons_succ]
              refine takeL (i := 21) (v := (.int .i64 (2 * B.hi 4))) rfl (by kernel_rfl) (by kernel_rfl) (by kernel_rfl) (fun _ _ _ h => h) (Or.inl ⟨rfl, fun W' _ => by go_simp⟩) hq0 ?_
              simp only [Act.put, List.setIfInBounds_toArray, List.set_cons_zero, List.set_cons_succ]
              refine takeL (i := 22) (v := (.bool (B.gi k 10 != 2 * B.hi 4))) rfl (by kernel_rfl) (by kernel_rfl) (by kernel_rfl) (fun _ _ _ h => h) (Or.inl ⟨rfl, fun W' _ => by go_simp⟩) hq0 ?_
              simp only [Act.put, List.setIfInBounds_toArray, List.set_cons_zero, List.set_cons_succ]
              refine takeL (i := 23) (v := (.bool (B.gi k 10 != 2 * B.hi 4))) rfl (by kernel_rfl) (by kernel_rfl) (by kernel_rfl) (fun _ _ _ h => h) (Or.inl ⟨rfl, fun _ _ => rfl⟩) hq0 ?_
              simp only [Act.put, List.setIfInBounds_toArray, List.set_cons_zero, List.set_cons_succ]
              refine takeL (i := 24) (v := (.bool (B.gi k 10 != 2 * B.hi 4))) rfl (by kernel_rfl) (by kernel_rfl) (by kernel_rfl) (fun _ _ _ h => h) (Or.inl ⟨rfl, fun _ _ => rfl⟩) hq0 ?_
              simp only [Act.put, List.setIfInBounds_toArray, List.set_cons_zero, List.set_cons_succ]
              refine wpAnyH_done (by kernel_rfl) ?_ _
              go_wp2_with fail
              go_meet
              exact ⟨congrArg Value.bool (by rw [← HC9.out]; simp only [trHB]; rw [hb]; first | rfl | simp), hq0⟩
          case rest =>
            obtain ⟨rfl, hx3⟩ := hcut
            have HB3 := Lib.hid (HB2.out.ext hx3)
            have HM3 := Lib.hid (HM2.out.trans (hx3.mut F))
            clear hx3 p87 p10 q4 p33 p22 p46 p42 p47 p7 hfr
            have p33 := (HB3.out.cellg (i := k * 89 + 33) (lt89 hk (by decide))).trans (ho.gb hk 33 rfl)
            rw [HE33.out] at p33
            have p22 := (HB3.out.cellg (i := k * 89 + 22) (lt89 hk (by decide))).trans (ho.gb hk 22 rfl)
            rw [HE22.out] at p22
            have p46 := (HB3.out.cellg (i := k * 89 + 46) (lt89 hk (by decide))).trans (ho.gb hk 46 rfl)
            rw [HE46.out] at p46
            have p42 := (HB3.out.cellg (i := k * 89 + 42) (lt89 hk (by decide))).trans (ho.gb hk 42 rfl)
            rw [HE42.out] at p42
            have p47 := (HB3.out.cellg (i := k * 89 + 47) (lt89 hk (by decide))).trans (ho.gb hk 47 rfl)
            rw [HE47.out] at p47
            have p7 := (HB3.out.cellg (i := k * 89 + 7) (lt89 hk (by decide))).trans (ho.gi hk 7 rfl)
            rw [HE7.out] at p7
            have hfr := HB3.out.frozen
            cases c9
            · skip
              go_upto_region 12 with fail
              go_cut [108] (fun s wx => s = .bool c10 ∧ wx = wc)
              case first =>
                cases hb : (x7 != trWait B k)
                · cases x46
                  · cases x42
                    · go_wp2_with fail
                      go_meet
                      exact ⟨congrArg Value.bool (by rw [← HC10.out]; simp [trHB, trUns, HE7.out, HE46.out, HE42.out, HE47.out, hb]), rfl⟩
                    · go_wp2_with fail
                      go_meet
                      exact ⟨congrArg Value.bool (by rw [← HC10.out]; simp [trHB, trUns, HE7.out, HE46.out, HE42.out, HE47.out, hb]), rfl⟩
                  · go_wp2_with fail
                    go_meet
                    exact ⟨congrArg Value.bool (by rw [← HC10.out]; simp [trHB, trUns, HE7.out, HE46.out, HE42.out, HE47.out, hb]), rfl⟩
                · go_wp2_with fail
                  go_meet
                  exact ⟨congrArg Value.bool (by rw [← HC10.out]; simp [trHB, trUns, HE7.out, HE46.out, HE42.out, HE47.out, hb]), rfl⟩
              case rest =>
                obtain ⟨rfl, hwx⟩ := hcut
                replace hwx := hwx.symm
                subst hwx
                cases c10
                · go_wp2_with fail
                  go_ret
                  have hR : trR5 B k = 24 := by unfold trR5; simp [HC7.out, HC8.out, HC9.out, HC10.out]
                  have e2 : RS = (false, B) := by rw [← HRS.out, hR]; rfl
                  rw [e2]
                  exact ⟨rfl, HB3.out, HM3.out⟩
                · go_wp2_with fail
                  refine (td_rests _ F X g k B HB3.out ho hk (trWait B k) 5).mono ?_
                  rintro e w4 ⟨rfl, hB, hm⟩
                  go_wp2_with fail
                  go_ret
                  have hR : trR5 B k = 10 := by unfold trR5; simp [HC7.out, HC8.out, HC9.out, HC10.out]
                  have e2 : RS = (true, (trSettle B k (trWait B k)).setp k 19 (.int .i64 5)) := by rw [← HRS.out, hR]; rfl
                  rw [e2]
                  exact ⟨rfl, hB, HM3.out.trans hm⟩
            · go_wp2_with fail
              have q4 := (HB3.out.cellX ho (i := 4) (by decide)).trans (ho.hi 4 rfl)
              have hX3 := HB3.out.lt.1
              refine beginL (S := fun W' => Mut (fun n => n = g) wc W') (by kernel_rfl) ?_
              intro wd hqx
              have hq0 : Mut (fun n => n = g) wc wd := hqx.mut _
              have HBd := Lib.hid (HB3.out.ext hqx)
              have e10 := (HBd.out.cellg (i := k * 89 + 10) (lt89 hk (by decide))).trans (Br.ok.gi ho (k := k) hk 10 rfl)
              have efr := HBd.out.frozen
              refine takeL (i := 0) (v := (.pointer (some ⟨g, k * 89, none⟩))) rfl (by kernel_rfl) (by kernel_rfl) (by kernel_rfl) (fun _ _ _ h => h) (Or.inl ⟨rfl, fun _ _ => rfl⟩) hq0 ?_
              simp only [Act.put, List.setIfInBounds_toArray, List.set_cons_zero, List.set_cons_succ]
              refine takeL (i := 1) (v := (.pointer (some ⟨X, 0, none⟩))) rfl (by kernel_rfl) (by kernel_rfl) (by kernel_rfl) (fun _ _ _ h => h) (Or.inl ⟨rfl, fun _ _ => rfl⟩) hq0 ?_
              simp only [Act.put, List.setIfInBounds_toArray, List.set_cons_zero, List.set_cons_succ]
              refine takeL (i := 2) (v := (.pointer (some ⟨X, 0, none⟩))) rfl (by kernel_rfl) (by kernel_rfl) (by kernel_rfl) (fun _ _ _ h => h) (Or.inl ⟨rfl, fun _ _ => rfl⟩) hq0 ?_
              simp only [Act.put, List.setIfInBounds_toArray, List.set_cons_zero, List.set_cons_succ]
              refine takeL (i := 3) (v := (.pointer (some ⟨X, 2, none⟩))) rfl (by kernel_rfl) (by kernel_rfl) (by kernel_rfl) (fun _ _ _ h => h) (Or.inl ⟨rfl, fun _ _ => rfl⟩) hq0 ?_
              simp only [Act.put, List.setIfInBounds_toArray, List.set_cons_zero, List.set_cons_succ]
              refine takeL (i := 4) (v := (.pointer (some ⟨X, 4, none⟩))) rfl (by kernel_rfl) (by kernel_rfl) (by kernel_rfl) (fun _ _ _ h => h) (Or.inl ⟨rfl, fun _ _ => rfl⟩) hq0 ?_
              simp only [Act.put, List.setIfInBounds_toArray, List.set_cons_zero, List.set_cons_succ]
              refine takeL (i := 5) (v := _) rfl (by kernel_rfl) (by kernel_rfl) (by kernel_rfl) (fun _ _ _ h => h) (yieldsIf_cell rfl 3 _ rfl ⟨X, 4, none⟩ rfl (.int .i64 (B.hi 4)) _ (fun W' hW' => (hW'.cell (p := ⟨X, 4, none⟩) hX3 (show ¬ X = g from hne)).trans q4) Try.underlying3 rfl) hq0 ?_
              simp only [Act.put, List.setIfInBounds_toArray, List.set_cons_zero, List.set_cons_succ]
              refine takeL (i := 6) (v := (.pointer (some ⟨X, 0, none⟩))) rfl (by kernel_rfl) (by kernel_rfl) (by kernel_rfl) (fun _ _ _ h => h) (Or.inl ⟨rfl, fun _ _ => rfl⟩) hq0 ?_
              simp only [Act.put, List.setIfInBounds_toArray, List.set_cons_zero, List.set_cons_succ]
              refine takeL (i := 7) (v := (.pointer (some ⟨X, 0, none⟩))) rfl (by kernel_rfl) (by kernel_rfl) (by kernel_rfl) (fun _ _ _ h => h) (Or.inl ⟨rfl, fun _ _ => rfl⟩) hq0 ?_
              simp only [Act.put, List.setIfInBounds_toArray, List.set_cons_zero, List.set_cons_succ]
              refine takeL (i := 8) (v := (.pointer (some ⟨X, 2, none⟩))) rfl (by kernel_rfl) (by kernel_rfl) (by kernel_rfl) (fun _ _ _ h => h) (Or.inl ⟨rfl, fun _ _ => rfl⟩) hq0 ?_
              simp only [Act.put, List.setIfInBounds_toArray, List.set_cons_zero, List.set_cons_succ]
              refine takeL (i := 9) (v := (.pointer (some ⟨X, 4, none⟩))) rfl (by kernel_rfl) (by kernel_rfl) (by kernel_rfl) (fun _ _ _ h => h) (Or.inl ⟨rfl, fun _ _ => rfl⟩) hq0 ?_
              simp only [Act.put, List.setIfInBounds_toArray, List.set_cons_zero, List.set_cons_succ]
              refine takeL (i := 10) (v := _) rfl (by kernel_rfl) (by kernel_rfl) (by kernel_rfl) (fun _ _ _ h => h) (yieldsIf_cell rfl 3 _ rfl ⟨X, 4, none⟩ rfl (.int .i64 (B.hi 4)) _ (fun W' hW' => (hW'.cell (p := ⟨X, 4, none⟩) hX3 (show ¬ X = g from hne)).trans q4) Try.underlying3 rfl) hq0 ?_
              simp only [Act.put, List.setIfInBounds_toArray, List.set_cons_zero, List.set_cons_succ]
              refine takeL (i := 11) (v := (.int .i64 (2 * B.hi 4))) rfl (by kernel_rfl) (by kernel_rfl) (by kernel_rfl) (fun _ _ _ h => h) (Or.inl ⟨rfl, fun W' _ => by go_simp⟩) hq0 ?_
              simp only [Act.put, List.setIfInBounds_toArray, List.set_cons_zero, List.set_cons_succ]
              refine takeL (i := 12) (v := (.pointer (some ⟨g, k * 89, none⟩))) rfl (by kernel_rfl) (by kernel_rfl) (by kernel_rfl) (fun _ _ _ h => h) (Or.inl ⟨rfl, fun _ _ => rfl⟩) hq0 ?_
              simp only [Act.put, List.setIfInBounds_toArray, List.set_cons_zero, List.set_cons_succ]
              refine takeL (i := 13) (v := (.pointer (some ⟨g, k * 89 + 6, none⟩))) rfl (by kernel_rfl) (by kernel_rfl) (by kernel_rfl) (fun _ _ _ h => h) (Or.inl ⟨rfl, fun _ _ => rfl⟩) hq0 ?_
              simp only [Act.put, List.setIfInBounds_toArray, List.set_cons_zero, List.set_cons_succ]
              refine takeL (i := 14) (v := (.pointer (some ⟨g, k * 89 + 10, none⟩))) rfl (by kernel_rfl) (by kernel_rfl) (by kernel_rfl) (fun _ _ _ h => h) (Or.inl ⟨rfl, fun _ _ => rfl⟩) hq0 ?_
              simp only [Act.put, List.setIfInBounds_toArray, List.set_cons_zero, List.set_cons_succ]
              refine runL (i := 15) rfl rfl (by kernel_rfl) (fun K hK => ?_)
              go_simp
              have hq1 := hq0.setCell (p := ⟨g, k * 89 + 10, none⟩) (.inl rfl) (.int .i64 (2 * B.hi 4))
              refine hK.out _ _ hq1 (fun hHeld => ?_)
              try simp only [Act.put, List.setIfInBounds_toArray, List.set_cons_zero, List.set_cons_succ]
              clear hK K hHeld
              refine wpAnyH_done (by kernel_rfl) ?_ _
              go_wp2_with fail
              go_ret
              have hR : trR5 B k = 9 := by unfold trR5; simp [HC7.out, HC8.out, HC9.out]
              have e2 : RS = (true, (B.setp k 10 (.int .i64 (2 * B.hi 4)))) := by rw [← HRS.out, hR]; rfl
              rw [e2]
              exact ⟨rfl, (HBd.out.setp (k := k) (j := 10) hk (by decide) (.int .i64 (2 * B.hi 4))), HM3.out.trans (hq1.toF HB3.out.F2)⟩
        · have p31 := (HB2.out.cellg (i := k * 89 + 31) (lt89 hk (by decide))).trans (ho.gb hk 31 rfl)
          go_wp2_with fail
          go_ret
          have hR : trR5 B k = 8 := by unfold trR5; simp [HC7.out, HC8.out]
          have e2 : RS = (true, (((B.setp k 33 (.bool false)).setp k 22 (.bool true)).setp k 31 (.bool true))) := by
            rw [← HRS.out, hR]
            rfl
          rw [e2]
          exact ⟨rfl, (((HB2.out.setp (k := k) (j := 33) hk (by decide) (.bool false)).setp (k := k) (j := 22) hk (by decide) (.bool true)).setp (k := k) (j := 31) hk (by decide) (.bool true)), (((HM2.out.setCell (p := ⟨g, k * 89 + 33, none⟩) (.inl HB2.out.F2) (.bool false)).setCell (p := ⟨g, k * 89 + 22, none⟩) (.inl HB2.out.F2) (.bool true)).setCell (p := ⟨g, k * 89 + 31, none⟩) (.inl HB2.out.F2) (.bool true))⟩
    · go_wp2_with fail
      refine (td_sync _ F X g B HB2.out ho hn).mono ?_
      rintro e w3 ⟨rfl, hB, hm⟩
      have HB3 := Lib.hid hB
      have HM3 := Lib.hid (HM2.out.trans hm)
      have okn : Br.ok (B.upd 46 (fun _ => .bool true) B.np) := upd_flag_ok ho 46 (by decide) rfl B.np (Nat.le_refl _)
      have hkn : k < Br.np (B.upd 46 (fun _ => .bool true) B.np) := by rw [upd_np]; exact hk
      clear hB hm p33 p22 p46 p42 p47 p7 hfr
      have p33 := (HB3.out.cellg (i := k * 89 + 33) (lt89 hkn (by decide))).trans (okn.gb hkn 33 rfl)
      have hfr := HB3.out.frozen
      go_wp2_with fail
      go_ret
      have hR : trR5 B k = 7 := by unfold trR5; simp [HC7.out]
      have e2 : RS = (true, trAskAll B k) := by rw [← HRS.out, hR]; rfl
      rw [e2]
      exact ⟨rfl, HB3.out.setp (k := k) (j := 33) hkn (by decide) _, HM3.out.setCell (.inl HB3.out.F2) _⟩

end Go.Proofs.Ytnblchilgaimhaa
