/- The machine of changes by the document: its step. No statement is proved here. -/
import Derived.Test.YtpieamfpgfabgaaTopP
import Derived.Deep.DeepCutAuto
import Derived.Maps.AppendAt
import Derived.Laws.AppendOwnNone
namespace Go.Proofs.Ytpieamfpgfabgaa
open Go.RowKit Go.BigFrame Go.WideShapes Go.ChangeShapes Go.Deep
set_option linter.unusedVariables false
set_option linter.unusedSimpArgs false

/-- The program's step, whatever blocks the bridge lies in. -/
theorem top_stepF (w : World) (F : Nat → Prop) (X g k : Nat) (B : Br) (h : BrG w F X g B) (ho : B.ok) (hk : k < B.np) (hn : B.np < 1000) (hT : TR (B.hi 2) (B.hi 3) (B.hi 4) (B.hi 5)) (hF : ∀ n, F n → n < w.heap.size) (hnf : B.nf ≤ 100000) :
    Calls Try.prog 21 #[.pointer (some ⟨X, 0, none⟩), .int .i64 k] w fun e w' => e = .returned (.bool (topF B k).1) ∧ BrG w' (fun n => F n ∨ (w.heap.size ≤ n ∧ n < w'.heap.size)) X g (topF B k).2 ∧ Mut F w w' := by
  unfold topF
  cases h25 : B.gb k 25
  · rw [if_neg (by simp)]
    refine (top_stepN w F X g k B h ho hk hn hT hF h25).mono ?_
    rintro e w' ⟨he, hB, hm⟩
    exact ⟨he, hB.mono (fun n hn' => .inl hn'), hm⟩
  · rw [if_pos rfl]
    exact top_flush w F X g k B h ho hk hn hT hF h25 hnf

set_option maxRecDepth 100000 in
set_option maxHeartbeats 16000000 in
theorem tod_step (w : World) (F : Nat → Prop) (X g k : Nat) (B : Br) (h : BrG w F X g B) (ho : B.ok) (hk : k < B.np) (hn : B.np < 1000) (hT : TR (B.hi 2) (B.hi 3) (B.hi 4) (B.hi 5)) (hnf : B.nf ≤ 100000) :
    Calls Try.prog 22 #[.pointer (some ⟨X, 0, none⟩), .int .i64 k] w fun e w' => e = .returned (.bool (topF B k).1) ∧ BrG w' (fun n => F n ∨ (w.heap.size ≤ n ∧ n < w'.heap.size)) X g (topF B k).2 ∧ Mut F w w' := by
  obtain ⟨RS, hRS⟩ : ∃ RS, topF B k = RS := ⟨_, rfl⟩
  rw [hRS]
  have HRS := Lib.hid hRS
  clear hRS
  obtain ⟨hX, hg, hne⟩ := h.lt
  obtain ⟨cap, c17, hc1, hc2⟩ := h.cell17 ho
  obtain ⟨x25, e25⟩ : ∃ b, B.gb k 25 = b := ⟨_, rfl⟩
  have HE25 := Lib.hid e25
  clear e25
  obtain ⟨x26, e26⟩ : ∃ b, B.gb k 26 = b := ⟨_, rfl⟩
  have HE26 := Lib.hid e26
  clear e26
  obtain ⟨x28, e28⟩ : ∃ b, B.gb k 28 = b := ⟨_, rfl⟩
  have HE28 := Lib.hid e28
  clear e28
  obtain ⟨x29, e29⟩ : ∃ b, B.gb k 29 = b := ⟨_, rfl⟩
  have HE29 := Lib.hid e29
  clear e29
  obtain ⟨x31, e31⟩ : ∃ b, B.gb k 31 = b := ⟨_, rfl⟩
  have HE31 := Lib.hid e31
  clear e31
  obtain ⟨x32, e32⟩ : ∃ b, B.gb k 32 = b := ⟨_, rfl⟩
  have HE32 := Lib.hid e32
  clear e32
  obtain ⟨x39, e39⟩ : ∃ b, B.gb k 39 = b := ⟨_, rfl⟩
  have HE39 := Lib.hid e39
  clear e39
  obtain ⟨x40, e40⟩ : ∃ b, B.gb k 40 = b := ⟨_, rfl⟩
  have HE40 := Lib.hid e40
  clear e40
  obtain ⟨x41, e41⟩ : ∃ b, B.gb k 41 = b := ⟨_, rfl⟩
  have HE41 := Lib.hid e41
  clear e41
  obtain ⟨x48, e48⟩ : ∃ b, B.gb k 48 = b := ⟨_, rfl⟩
  have HE48 := Lib.hid e48
  clear e48
  obtain ⟨x49, e49⟩ : ∃ b, B.gb k 49 = b := ⟨_, rfl⟩
  have HE49 := Lib.hid e49
  clear e49
  obtain ⟨x13, e13⟩ : ∃ b, B.gi k 13 = b := ⟨_, rfl⟩
  have HE13 := Lib.hid e13
  clear e13
  obtain ⟨x21, e21⟩ : ∃ b, B.gi k 21 = b := ⟨_, rfl⟩
  have HE21 := Lib.hid e21
  clear e21
  obtain ⟨x87, e87⟩ : ∃ b, B.gi k 87 = b := ⟨_, rfl⟩
  have HE87 := Lib.hid e87
  clear e87
  have p25 := (h.cellg (i := k * 89 + 25) (lt89 hk (by decide))).trans (ho.gb hk 25 rfl)
  rw [HE25.out] at p25
  have p26 := (h.cellg (i := k * 89 + 26) (lt89 hk (by decide))).trans (ho.gb hk 26 rfl)
  rw [HE26.out] at p26
  have p28 := (h.cellg (i := k * 89 + 28) (lt89 hk (by decide))).trans (ho.gb hk 28 rfl)
  rw [HE28.out] at p28
  have p29 := (h.cellg (i := k * 89 + 29) (lt89 hk (by decide))).trans (ho.gb hk 29 rfl)
  rw [HE29.out] at p29
  have p31 := (h.cellg (i := k * 89 + 31) (lt89 hk (by decide))).trans (ho.gb hk 31 rfl)
  rw [HE31.out] at p31
  have p32 := (h.cellg (i := k * 89 + 32) (lt89 hk (by decide))).trans (ho.gb hk 32 rfl)
  rw [HE32.out] at p32
  have p39 := (h.cellg (i := k * 89 + 39) (lt89 hk (by decide))).trans (ho.gb hk 39 rfl)
  rw [HE39.out] at p39
  have p40 := (h.cellg (i := k * 89 + 40) (lt89 hk (by decide))).trans (ho.gb hk 40 rfl)
  rw [HE40.out] at p40
  have p41 := (h.cellg (i := k * 89 + 41) (lt89 hk (by decide))).trans (ho.gb hk 41 rfl)
  rw [HE41.out] at p41
  have p48 := (h.cellg (i := k * 89 + 48) (lt89 hk (by decide))).trans (ho.gb hk 48 rfl)
  rw [HE48.out] at p48
  have p49 := (h.cellg (i := k * 89 + 49) (lt89 hk (by decide))).trans (ho.gb hk 49 rfl)
  rw [HE49.out] at p49
  have p13 := (h.cellg (i := k * 89 + 13) (lt89 hk (by decide))).trans (ho.gi hk 13 rfl)
  rw [HE13.out] at p13
  have p21 := (h.cellg (i := k * 89 + 21) (lt89 hk (by decide))).trans (ho.gi hk 21 rfl)
  rw [HE21.out] at p21
  have p87 := (h.cellg (i := k * 89 + 87) (lt89 hk (by decide))).trans (ho.gi hk 87 rfl)
  rw [HE87.out] at p87
  have hfr := h.frozen
  obtain ⟨cn, hcn⟩ : ∃ b, ((x87 == 3) || (x87 == 4)) = b := ⟨_, rfl⟩
  have HCN := Lib.hid hcn
  obtain ⟨fo, hfo⟩ : ∃ b, (x39 || x41 || x40 || x49) = b := ⟨_, rfl⟩
  have HFO := Lib.hid hfo
  have HA1 := Lib.hid (show act1 B k = learnSel cn x26 x32 x28 x29 fo by unfold act1 toldB; rw [HE87.out, HE26.out, HE32.out, HE28.out, HE29.out, HE39.out, HE41.out, HE40.out, HE49.out, hcn, hfo])
  have HA2 := Lib.hid (show act2 B k = actSel cn x32 x41 x39 x49 x40 by unfold act2; rw [HE87.out, HE32.out, HE41.out, HE39.out, HE49.out, HE40.out, hcn])
  clear hcn hfo
  have HH := Lib.hid h
  have HT := Lib.hid hT
  have hk8 : k < 1000 := by omega
  have HHD := Lib.hid (show B.hd.length = 17 from ho.hd.1)
  obtain ⟨-, -, cap3, cur, s2, s3, aX, bg, -, -, -, -, -, q3, -, -⟩ := h
  have c19 : w.cell? ⟨X, 19, none⟩ = some s3 := by
    rw [cell_of_row _ _ _ _ _ _ aX]
    simp [ho.hd.1, HL]
  have hcells : ∃ ao cp, s3 = .slice ao B.nf cp ∧ B.nf ≤ cp ∧ cp ≤ 9223372036854775807 ∧ (ao = none → B.nf = 0 ∧ cp = 0) ∧ (∀ b, ao = some b → b.block < w.heap.size ∧ ∀ j u, B.fl[j]? = some u → w.cell? (b.add j) = some u) := by
    obtain ⟨hl, ⟨rfl, hz⟩ | ⟨g3, cp, cu, rfl, -, hg3, h1, h2, h3, h4⟩⟩ := q3
    · exact ⟨none, 0, by rw [hz], by omega, by omega, fun _ => ⟨hz, rfl⟩, fun b hb => by cases hb⟩
    · unfold maxLen at h2
      refine ⟨some ⟨g3, 0, none⟩, cp, rfl, h1, by omega, (fun hh => by cases hh), fun b hb => ?_⟩
      cases hb
      refine ⟨heap_lt hg3, fun j u hu => ?_⟩
      rw [Addr.add_lit, Nat.zero_add, cell_of_row _ _ _ _ _ _ hg3]
      rw [← h4, List.getElem?_take] at hu
      split at hu
      · simpa using hu
      · cases hu
  obtain ⟨ao, cp, rfl, hcp, hcm, h0, hcl⟩ := hcells
  obtain ⟨i3, hi3, hz3, hs3, hb3⟩ := info_of info_int
  have hlen : B.fl.length = B.nf * 1 := by
    have := ho.fl.1
    simpa using this
  have hone : ∀ u ∈ B.fl, u.oneCell' = true := RowTyped.one ho.fl
  have HONE := Lib.hid hone
  have HFL := Lib.hid (fun (hz : B.nf = 0) => show B.fl = [] from List.eq_nil_of_length_eq_zero (by rw [hlen, hz]))
  have HCL := Lib.hid hcl
  have H0 := Lib.hid h0
  have HI := Lib.hid (And.intro hi3 (And.intro hz3 (And.intro hs3 hb3)))
  have HLEN := Lib.hid hlen
  have HAX := Lib.hid aX
  clear aX bg q3 hcl h0 hi3 hz3 hs3 hb3 hlen hone hT
  go_enter Try.func22, Try.ntmps22
  go_upto_region 2 with fail
  go_cut [6] (fun s wx => s = .bool cn ∧ wx = w)
  case first =>
    as_aux_lemma =>
      cases hb : (x87 == 3)
      · cases hc : (x87 == 4)
        · go_wp2_with fail
          go_meet
          exact ⟨congrArg Value.bool (by rw [← HCN.out, hb, hc]; rfl), rfl⟩
        · go_wp2_with fail
          go_meet
          exact ⟨congrArg Value.bool (by rw [← HCN.out, hb, hc]; rfl), rfl⟩
      · go_wp2_with fail
        go_meet
        exact ⟨congrArg Value.bool (by rw [← HCN.out, hb]; rfl), rfl⟩
  case rest =>
  obtain ⟨rfl, hwx⟩ := hcut
  replace hwx := hwx.symm
  subst hwx
  go_upto_region 3 with fail
  go_cut [7] (fun s wx => s = .bool fo ∧ wx = w)
  case first =>
    as_aux_lemma =>
      cases x39
      · cases x41
        · cases x40
          · go_wp2_with fail
            go_meet
            exact ⟨congrArg Value.bool (by rw [← HFO.out]; simp), rfl⟩
          · go_wp2_with fail
            go_meet
            exact ⟨congrArg Value.bool (by rw [← HFO.out]; simp), rfl⟩
        · go_wp2_with fail
          go_meet
          exact ⟨congrArg Value.bool (by rw [← HFO.out]; simp), rfl⟩
      · go_wp2_with fail
        go_meet
        exact ⟨congrArg Value.bool (by rw [← HFO.out]; simp), rfl⟩
  case rest =>
  obtain ⟨rfl, hwx⟩ := hcut
  replace hwx := hwx.symm
  subst hwx
  cases x25
  · by_cases s0 : x21 = 0
    · subst s0
      cases x28
      · as_aux_lemma =>
          go_wp2_with fail
          go_ret
          have e2 : RS = (false, B) := HRS.out.symm.trans (by unfold topF; rw [if_neg (by rw [HE25.out]; decide)]; unfold topN; rw [if_pos HE21.out, if_neg (by rw [HE28.out]; decide)])
          rw [e2]
          exact ⟨rfl, HH.out.mono (fun n hn => .inl hn), Mut.refl F _⟩
      · as_aux_lemma =>
          clear HFO HCN
          go_wp2_with fail
          refine (tod_clears _ F X g k B HH.out ho hk hn).mono ?_
          rintro e w2 ⟨rfl, hB, hm⟩
          have HB := Lib.hid hB
          have HM := Lib.hid hm
          clear hB hm c17 hfr p25 p26 p28 p29 p31 p32 p39 p40 p41 p48 p49 p13 p21 p87
          have okZ := tclr_ok ho hk
          have z21 := (HB.out.cellg (i := k * 89 + 21) (lt89 hk (by decide))).trans (okZ.gi (k := k) hk 21 rfl)
          have zfr := HB.out.frozen
          go_wp2_with fail
          go_ret
          have e2 : RS = (true, tforget B k) := HRS.out.symm.trans (by unfold topF; rw [if_neg (by rw [HE25.out]; decide)]; unfold topN; rw [if_pos HE21.out, if_pos HE28.out])
          rw [e2]
          exact ⟨rfl, (HB.out.setp (k := k) (j := 21) hk (by decide) _).mono (fun n hn => .inl hn), HM.out.setCell (.inl HB.out.F2) _⟩
    · by_cases s1 : x21 = 1
      · subst s1
        cases cn
        · cases x28
          · cases x29
            · cases fo
              · as_aux_lemma =>
                  clear HFO HCN
                  go_wp2_with fail
                  go_ret
                  have e2 : RS = (true, tleave B k) := HRS.out.symm.trans (by unfold topF; rw [if_neg (by rw [HE25.out]; decide)]; unfold topN; rw [if_neg (by rw [HE21.out]; decide), if_pos HE21.out, show act1 B k = 2 from HA1.out]; rfl)
                  rw [e2]
                  rw [tleave_order]
                  exact ⟨rfl, (((((HH.out.setp (k := k) (j := 25) hk (by decide) (.bool true)).setp (k := k) (j := 13) hk (by decide) (.int .i64 0)).setp (k := k) (j := 48) hk (by decide) (.bool false)).setp (k := k) (j := 21) hk (by decide) (.int .i64 0))).mono (fun n hn => .inl hn), (((((Mut.refl F _).setCell (p := ⟨g, k * 89 + 25, none⟩) (.inl HH.out.F2) (.bool true)).setCell (p := ⟨g, k * 89 + 13, none⟩) (.inl HH.out.F2) (.int .i64 0)).setCell (p := ⟨g, k * 89 + 48, none⟩) (.inl HH.out.F2) (.bool false)).setCell (p := ⟨g, k * 89 + 21, none⟩) (.inl HH.out.F2) (.int .i64 0))⟩
              · as_aux_lemma =>
                  clear HFO HCN
                  go_wp2_with fail
                  refine (tod_clears _ F X g k B HH.out ho hk hn).mono ?_
                  rintro e w2 ⟨rfl, hB, hm⟩
                  have HB := Lib.hid hB
                  have HM := Lib.hid hm
                  clear hB hm c17 hfr p25 p26 p28 p29 p31 p32 p39 p40 p41 p48 p49 p13 p21 p87
                  go_wp2_with fail
                  go_ret
                  have e2 : RS = (true, tforget B k) := HRS.out.symm.trans (by unfold topF; rw [if_neg (by rw [HE25.out]; decide)]; unfold topN; rw [if_neg (by rw [HE21.out]; decide), if_pos HE21.out, show act1 B k = 3 from HA1.out]; rfl)
                  rw [e2]
                  have e3 : tforget B k = tclr B k := tclr_self (by have := ho.gi hk 21 rfl; rw [HE21.out] at this; exact this)
                  rw [e3]
                  exact ⟨rfl, HB.out.mono (fun n hn => .inl hn), HM.out⟩
            · cases fo
              · as_aux_lemma =>
                  go_wp2_with fail
                  go_ret
                  have e2 : RS = (false, B) := HRS.out.symm.trans (by unfold topF; rw [if_neg (by rw [HE25.out]; decide)]; unfold topN; rw [if_neg (by rw [HE21.out]; decide), if_pos HE21.out, show act1 B k = 0 from HA1.out]; rfl)
                  rw [e2]
                  exact ⟨rfl, HH.out.mono (fun n hn => .inl hn), Mut.refl F _⟩
              · as_aux_lemma =>
                  clear HFO HCN
                  go_wp2_with fail
                  refine (tod_clears _ F X g k B HH.out ho hk hn).mono ?_
                  rintro e w2 ⟨rfl, hB, hm⟩
                  have HB := Lib.hid hB
                  have HM := Lib.hid hm
                  clear hB hm c17 hfr p25 p26 p28 p29 p31 p32 p39 p40 p41 p48 p49 p13 p21 p87
                  go_wp2_with fail
                  go_ret
                  have e2 : RS = (true, tforget B k) := HRS.out.symm.trans (by unfold topF; rw [if_neg (by rw [HE25.out]; decide)]; unfold topN; rw [if_neg (by rw [HE21.out]; decide), if_pos HE21.out, show act1 B k = 3 from HA1.out]; rfl)
                  rw [e2]
                  have e3 : tforget B k = tclr B k := tclr_self (by have := ho.gi hk 21 rfl; rw [HE21.out] at this; exact this)
                  rw [e3]
                  exact ⟨rfl, HB.out.mono (fun n hn => .inl hn), HM.out⟩
          · cases fo
            · as_aux_lemma =>
                go_wp2_with fail
                go_ret
                have e2 : RS = (false, B) := HRS.out.symm.trans (by unfold topF; rw [if_neg (by rw [HE25.out]; decide)]; unfold topN; rw [if_neg (by rw [HE21.out]; decide), if_pos HE21.out, show act1 B k = 0 from HA1.out]; rfl)
                rw [e2]
                exact ⟨rfl, HH.out.mono (fun n hn => .inl hn), Mut.refl F _⟩
            · as_aux_lemma =>
                clear HFO HCN
                go_wp2_with fail
                refine (tod_clears _ F X g k B HH.out ho hk hn).mono ?_
                rintro e w2 ⟨rfl, hB, hm⟩
                have HB := Lib.hid hB
                have HM := Lib.hid hm
                clear hB hm c17 hfr p25 p26 p28 p29 p31 p32 p39 p40 p41 p48 p49 p13 p21 p87
                go_wp2_with fail
                go_ret
                have e2 : RS = (true, tforget B k) := HRS.out.symm.trans (by unfold topF; rw [if_neg (by rw [HE25.out]; decide)]; unfold topN; rw [if_neg (by rw [HE21.out]; decide), if_pos HE21.out, show act1 B k = 3 from HA1.out]; rfl)
                rw [e2]
                have e3 : tforget B k = tclr B k := tclr_self (by have := ho.gi hk 21 rfl; rw [HE21.out] at this; exact this)
                rw [e3]
                exact ⟨rfl, HB.out.mono (fun n hn => .inl hn), HM.out⟩
        · cases x26
          · cases fo
            · as_aux_lemma =>
                go_wp2_with fail
                go_ret
                have e2 : RS = (false, B) := HRS.out.symm.trans (by unfold topF; rw [if_neg (by rw [HE25.out]; decide)]; unfold topN; rw [if_neg (by rw [HE21.out]; decide), if_pos HE21.out, show act1 B k = 0 from HA1.out]; rfl)
                rw [e2]
                exact ⟨rfl, HH.out.mono (fun n hn => .inl hn), Mut.refl F _⟩
            · as_aux_lemma =>
                clear HFO HCN
                go_wp2_with fail
                refine (tod_clears _ F X g k B HH.out ho hk hn).mono ?_
                rintro e w2 ⟨rfl, hB, hm⟩
                have HB := Lib.hid hB
                have HM := Lib.hid hm
                clear hB hm c17 hfr p25 p26 p28 p29 p31 p32 p39 p40 p41 p48 p49 p13 p21 p87
                go_wp2_with fail
                go_ret
                have e2 : RS = (true, tforget B k) := HRS.out.symm.trans (by unfold topF; rw [if_neg (by rw [HE25.out]; decide)]; unfold topN; rw [if_neg (by rw [HE21.out]; decide), if_pos HE21.out, show act1 B k = 3 from HA1.out]; rfl)
                rw [e2]
                have e3 : tforget B k = tclr B k := tclr_self (by have := ho.gi hk 21 rfl; rw [HE21.out] at this; exact this)
                rw [e3]
                exact ⟨rfl, HB.out.mono (fun n hn => .inl hn), HM.out⟩
          · cases x32
            · as_aux_lemma =>
                clear HFO HCN
                go_wp2_with fail
                refine (tod_begins _ F X g k B HH.out ho hk hn HT.out).mono ?_
                rintro e w2 ⟨rfl, hB, hm⟩
                have HB := Lib.hid hB
                have HM := Lib.hid hm
                have okb := tbegin_ok ho hk HT.out
                have hkb : k < (tbegin B k).np := by rw [tbegin_np]; exact hk
                have hnb : (tbegin B k).np < 1000 := by rw [tbegin_np]; exact hn
                clear hB hm c17 hfr p25 p26 p28 p29 p31 p32 p39 p40 p41 p48 p49 p13 p21 p87
                go_wp2_with fail
                refine (tod_others _ F X g k (tbegin B k) HB.out okb hkb hnb).mono ?_
                rw [tbegin_np]
                rintro e w3 ⟨rfl, hB, hm⟩
                have HB3 := Lib.hid hB
                have HM3 := Lib.hid (HM.out.trans hm)
                have okc := tcp_ok okb k B.np (by rw [tbegin_np]; exact Nat.le_refl _)
                have hkc : k < (tcp (tbegin B k) k B.np).np := by rw [tcp_np, tbegin_np]; exact hk
                clear hB hm
                have z31 := (HB3.out.cellg (i := k * 89 + 31) (lt89 hkc (by decide))).trans (okc.gb (k := k) hkc 31 rfl)
                have z21 := (HB3.out.cellg (i := k * 89 + 21) (lt89 hkc (by decide))).trans (okc.gi (k := k) hkc 21 rfl)
                have zfr := HB3.out.frozen
                go_wp2_with fail
                go_ret
                have e2 : RS = (true, tactiv B k) := HRS.out.symm.trans (by unfold topF; rw [if_neg (by rw [HE25.out]; decide)]; unfold topN; rw [if_neg (by rw [HE21.out]; decide), if_pos HE21.out, show act1 B k = 1 from HA1.out]; rfl)
                rw [e2]
                exact ⟨rfl, ((HB3.out.setp (k := k) (j := 31) hkc (by decide) _).setp (k := k) (j := 21) hkc (by decide) _).mono (fun n hn => .inl hn), (HM3.out.setCell (p := ⟨g, k * 89 + 31, none⟩) (.inl HB3.out.F2) _).setCell (.inl HB3.out.F2) _⟩
            · cases fo
              · as_aux_lemma =>
                  go_wp2_with fail
                  go_ret
                  have e2 : RS = (false, B) := HRS.out.symm.trans (by unfold topF; rw [if_neg (by rw [HE25.out]; decide)]; unfold topN; rw [if_neg (by rw [HE21.out]; decide), if_pos HE21.out, show act1 B k = 0 from HA1.out]; rfl)
                  rw [e2]
                  exact ⟨rfl, HH.out.mono (fun n hn => .inl hn), Mut.refl F _⟩
              · as_aux_lemma =>
                  clear HFO HCN
                  go_wp2_with fail
                  refine (tod_clears _ F X g k B HH.out ho hk hn).mono ?_
                  rintro e w2 ⟨rfl, hB, hm⟩
                  have HB := Lib.hid hB
                  have HM := Lib.hid hm
                  clear hB hm c17 hfr p25 p26 p28 p29 p31 p32 p39 p40 p41 p48 p49 p13 p21 p87
                  go_wp2_with fail
                  go_ret
                  have e2 : RS = (true, tforget B k) := HRS.out.symm.trans (by unfold topF; rw [if_neg (by rw [HE25.out]; decide)]; unfold topN; rw [if_neg (by rw [HE21.out]; decide), if_pos HE21.out, show act1 B k = 3 from HA1.out]; rfl)
                  rw [e2]
                  have e3 : tforget B k = tclr B k := tclr_self (by have := ho.gi hk 21 rfl; rw [HE21.out] at this; exact this)
                  rw [e3]
                  exact ⟨rfl, HB.out.mono (fun n hn => .inl hn), HM.out⟩
      · by_cases s2 : x21 = 2
        · subst s2
          cases cn
          · as_aux_lemma =>
              clear HFO HCN
              go_wp2_with fail
              refine (tod_clears _ F X g k B HH.out ho hk hn).mono ?_
              rintro e w2 ⟨rfl, hB, hm⟩
              have HB := Lib.hid hB
              have HM := Lib.hid hm
              clear hB hm c17 hfr p25 p26 p28 p29 p31 p32 p39 p40 p41 p48 p49 p13 p21 p87
              have okZ := tclr_ok ho hk
              have z21 := (HB.out.cellg (i := k * 89 + 21) (lt89 hk (by decide))).trans (okZ.gi (k := k) hk 21 rfl)
              have zfr := HB.out.frozen
              go_wp2_with fail
              go_ret
              have e2 : RS = (true, tforget B k) := HRS.out.symm.trans (by unfold topF; rw [if_neg (by rw [HE25.out]; decide)]; unfold topN; rw [if_neg (by rw [HE21.out]; decide), if_neg (by rw [HE21.out]; decide), if_pos HE21.out, show act2 B k = 1 from HA2.out]; rfl)
              rw [e2]
              exact ⟨rfl, (HB.out.setp (k := k) (j := 21) hk (by decide) _).mono (fun n hn => .inl hn), HM.out.setCell (.inl HB.out.F2) _⟩
          · cases x32
            · cases x41
              · cases x39
                · cases x49
                  · cases x40
                    · as_aux_lemma =>
                        go_wp2_with fail
                        go_ret
                        have e2 : RS = (false, B) := HRS.out.symm.trans (by unfold topF; rw [if_neg (by rw [HE25.out]; decide)]; unfold topN; rw [if_neg (by rw [HE21.out]; decide), if_neg (by rw [HE21.out]; decide), if_pos HE21.out, show act2 B k = 0 from HA2.out]; rfl)
                        rw [e2]
                        exact ⟨rfl, HH.out.mono (fun n hn => .inl hn), Mut.refl F _⟩
                    · as_aux_lemma =>
                        clear HFO HCN
                        go_wp2_with fail
                        go_ret
                        have e2 : RS = (true, tack B k) := HRS.out.symm.trans (by unfold topF; rw [if_neg (by rw [HE25.out]; decide)]; unfold topN; rw [if_neg (by rw [HE21.out]; decide), if_neg (by rw [HE21.out]; decide), if_pos HE21.out, show act2 B k = 5 from HA2.out]; rfl)
                        rw [e2]
                        exact ⟨rfl, (((HH.out.setp (k := k) (j := 13) hk (by decide) (.int .i64 0)).setp (k := k) (j := 40) hk (by decide) (.bool false))).mono (fun n hn => .inl hn), (((Mut.refl F _).setCell (p := ⟨g, k * 89 + 13, none⟩) (.inl HH.out.F2) (.int .i64 0)).setCell (p := ⟨g, k * 89 + 40, none⟩) (.inl HH.out.F2) (.bool false))⟩
                  · as_aux_lemma =>
                      clear HFO HCN
                      go_wp2_with fail
                      refine (tod_begins _ F X g k B HH.out ho hk hn HT.out).mono ?_
                      rintro e w2 ⟨rfl, hB, hm⟩
                      have HB := Lib.hid hB
                      have HM := Lib.hid hm
                      have okb := tbegin_ok ho hk HT.out
                      have hkb : k < (tbegin B k).np := by rw [tbegin_np]; exact hk
                      have hnb : (tbegin B k).np < 1000 := by rw [tbegin_np]; exact hn
                      clear hB hm c17 hfr p25 p26 p28 p29 p31 p32 p39 p40 p41 p48 p49 p13 p21 p87
                      have e25 := (HB.out.cellg (i := k * 89 + 25) (lt89 hkb (by decide))).trans (Br.ok.gb okb (k := k) hkb 25 rfl)
                      have e49 := (HB.out.cellg (i := k * 89 + 49) (lt89 hkb (by decide))).trans (Br.ok.gb okb (k := k) hkb 49 rfl)
                      have efr := HB.out.frozen
                      go_wp2_with fail
                      go_ret
                      have e2 : RS = (true, tspread B k) := HRS.out.symm.trans (by unfold topF; rw [if_neg (by rw [HE25.out]; decide)]; unfold topN; rw [if_neg (by rw [HE21.out]; decide), if_neg (by rw [HE21.out]; decide), if_pos HE21.out, show act2 B k = 4 from HA2.out]; rfl)
                      rw [e2]
                      exact ⟨rfl, (((HB.out.setp (k := k) (j := 25) hkb (by decide) (.bool true)).setp (k := k) (j := 49) hkb (by decide) (.bool false))).mono (fun n hn => .inl hn), ((HM.out.setCell (p := ⟨g, k * 89 + 25, none⟩) (.inl HB.out.F2) (.bool true)).setCell (p := ⟨g, k * 89 + 49, none⟩) (.inl HB.out.F2) (.bool false))⟩
                · cases hd : (x87 == 4)
                  · as_aux_lemma =>
                      clear HFO HCN
                      have h87 := HE87.out
                      go_wp2_with fail
                      clear c17 hfr p25 p26 p28 p29 p31 p32 p39 p40 p41 p48 p49 p13 p21 p87
                      have HZ := Lib.hid (((HH.out.setp (k := k) (j := 39) hk (by decide) (.bool false)).setp (k := k) (j := 41) hk (by decide) (.bool false)))
                      have HN := Lib.hid ((((Mut.refl F w).setCell (p := ⟨g, k * 89 + 39, none⟩) (.inl HH.out.F2) (.bool false)).setCell (p := ⟨g, k * 89 + 41, none⟩) (.inl HH.out.F2) (.bool false)))
                      have okz : Br.ok ((B.setp k 39 (.bool false)).setp k 41 (.bool false)) := ((ho.setB (k := k) hk 39 false rfl).setB (k := k) hk 41 false rfl)
                      refine (tod_others _ F X g k _ HZ.out okz hk hn).mono ?_
                      rintro e w9 ⟨rfl, hB, hm⟩
                      have HB9 := Lib.hid hB
                      have HM9 := Lib.hid (HN.out.trans hm)
                      clear hB hm
                      go_wp2_with fail
                      go_ret
                      have e2 : RS = (true, tpass B k) := HRS.out.symm.trans (by unfold topF; rw [if_neg (by rw [HE25.out]; decide)]; unfold topN; rw [if_neg (by rw [HE21.out]; decide), if_neg (by rw [HE21.out]; decide), if_pos HE21.out, show act2 B k = 3 from HA2.out]; rfl)
                      rw [e2]
                      have e3 : tpass B k = tcp ((B.setp k 39 (.bool false)).setp k 41 (.bool false)) k (B).np := by
                        show tcp (tpass0 B k) k _ = _
                        rw [tpass0_no ho hk (by rw [h87]; exact hd)]
                      rw [e3]
                      exact ⟨rfl, HB9.out.mono (fun n hn => .inl hn), HM9.out⟩
                  · as_aux_lemma =>
                      clear HFO HCN
                      have h87 := HE87.out
                      go_wp2_with fail
                      clear c17 hfr p25 p26 p28 p29 p31 p32 p39 p40 p41 p48 p49 p13 p21 p87
                      have HZ := Lib.hid ((((HH.out.setp (k := k) (j := 39) hk (by decide) (.bool false)).setp (k := k) (j := 41) hk (by decide) (.bool false)).setp (k := k) (j := 48) hk (by decide) (.bool true)))
                      have HN := Lib.hid (((((Mut.refl F w).setCell (p := ⟨g, k * 89 + 39, none⟩) (.inl HH.out.F2) (.bool false)).setCell (p := ⟨g, k * 89 + 41, none⟩) (.inl HH.out.F2) (.bool false)).setCell (p := ⟨g, k * 89 + 48, none⟩) (.inl HH.out.F2) (.bool true)))
                      have okz : Br.ok (((B.setp k 39 (.bool false)).setp k 41 (.bool false)).setp k 48 (.bool true)) := (((ho.setB (k := k) hk 39 false rfl).setB (k := k) hk 41 false rfl).setB (k := k) hk 48 true rfl)
                      refine (tod_others _ F X g k _ HZ.out okz hk hn).mono ?_
                      rintro e w9 ⟨rfl, hB, hm⟩
                      have HB9 := Lib.hid hB
                      have HM9 := Lib.hid (HN.out.trans hm)
                      clear hB hm
                      go_wp2_with fail
                      go_ret
                      have e2 : RS = (true, tpass B k) := HRS.out.symm.trans (by unfold topF; rw [if_neg (by rw [HE25.out]; decide)]; unfold topN; rw [if_neg (by rw [HE21.out]; decide), if_neg (by rw [HE21.out]; decide), if_pos HE21.out, show act2 B k = 3 from HA2.out]; rfl)
                      rw [e2]
                      have e3 : tpass B k = tcp (((B.setp k 39 (.bool false)).setp k 41 (.bool false)).setp k 48 (.bool true)) k (B).np := by
                        show tcp (tpass0 B k) k _ = _
                        rw [tpass0_yes (by rw [h87]; exact hd)]
                      rw [e3]
                      exact ⟨rfl, HB9.out.mono (fun n hn => .inl hn), HM9.out⟩
              · cases hd : (x87 == 4)
                · as_aux_lemma =>
                    clear HFO HCN
                    go_wp2_with fail
                    refine (tod_begins _ F X g k B HH.out ho hk hn HT.out).mono ?_
                    rintro e w2 ⟨rfl, hB, hm⟩
                    have HB := Lib.hid hB
                    have HM := Lib.hid hm
                    have okb := tbegin_ok ho hk HT.out
                    have hkb : k < (tbegin B k).np := by rw [tbegin_np]; exact hk
                    have hnb : (tbegin B k).np < 1000 := by rw [tbegin_np]; exact hn
                    clear hB hm c17 hfr p25 p26 p28 p29 p31 p32 p39 p40 p41 p48 p49 p13 p21 p87
                    have h87 : (tbegin B k).gi k 87 = x87 := (tbegin_gi2 B k 87 (by decide) (by decide)).trans HE87.out
                    have e39 := (HB.out.cellg (i := k * 89 + 39) (lt89 hkb (by decide))).trans (Br.ok.gb okb (k := k) hkb 39 rfl)
                    have e41 := (HB.out.cellg (i := k * 89 + 41) (lt89 hkb (by decide))).trans (Br.ok.gb okb (k := k) hkb 41 rfl)
                    have e48 := (HB.out.cellg (i := k * 89 + 48) (lt89 hkb (by decide))).trans (Br.ok.gb okb (k := k) hkb 48 rfl)
                    have efr := HB.out.frozen
                    have z87 := (HB.out.cellg (i := k * 89 + 87) (lt89 hkb (by decide))).trans (Br.ok.gi okb (k := k) hkb 87 rfl)
                    rw [h87] at z87
                    go_wp2_with fail
                    have HZ := Lib.hid (((HB.out.setp (k := k) (j := 39) hkb (by decide) (.bool false)).setp (k := k) (j := 41) hkb (by decide) (.bool false)))
                    have HN := Lib.hid (((HM.out.setCell (p := ⟨g, k * 89 + 39, none⟩) (.inl HB.out.F2) (.bool false)).setCell (p := ⟨g, k * 89 + 41, none⟩) (.inl HB.out.F2) (.bool false)))
                    have okz : Br.ok (((tbegin B k).setp k 39 (.bool false)).setp k 41 (.bool false)) := ((okb.setB (k := k) hkb 39 false rfl).setB (k := k) hkb 41 false rfl)
                    refine (tod_others _ F X g k _ HZ.out okz hkb hnb).mono ?_
                    rintro e w9 ⟨rfl, hB, hm⟩
                    have HB9 := Lib.hid hB
                    have HM9 := Lib.hid (HN.out.trans hm)
                    clear hB hm
                    go_wp2_with fail
                    go_ret
                    have e2 : RS = (true, tpass (tbegin B k) k) := HRS.out.symm.trans (by unfold topF; rw [if_neg (by rw [HE25.out]; decide)]; unfold topN; rw [if_neg (by rw [HE21.out]; decide), if_neg (by rw [HE21.out]; decide), if_pos HE21.out, show act2 B k = 2 from HA2.out]; rfl)
                    rw [e2]
                    have e3 : tpass (tbegin B k) k = tcp (((tbegin B k).setp k 39 (.bool false)).setp k 41 (.bool false)) k ((tbegin B k)).np := by
                      show tcp (tpass0 (tbegin B k) k) k _ = _
                      rw [tpass0_no okb hkb (by rw [h87]; exact hd)]
                    rw [e3]
                    exact ⟨rfl, HB9.out.mono (fun n hn => .inl hn), HM9.out⟩
                · as_aux_lemma =>
                    clear HFO HCN
                    go_wp2_with fail
                    refine (tod_begins _ F X g k B HH.out ho hk hn HT.out).mono ?_
                    rintro e w2 ⟨rfl, hB, hm⟩
                    have HB := Lib.hid hB
                    have HM := Lib.hid hm
                    have okb := tbegin_ok ho hk HT.out
                    have hkb : k < (tbegin B k).np := by rw [tbegin_np]; exact hk
                    have hnb : (tbegin B k).np < 1000 := by rw [tbegin_np]; exact hn
                    clear hB hm c17 hfr p25 p26 p28 p29 p31 p32 p39 p40 p41 p48 p49 p13 p21 p87
                    have h87 : (tbegin B k).gi k 87 = x87 := (tbegin_gi2 B k 87 (by decide) (by decide)).trans HE87.out
                    have e39 := (HB.out.cellg (i := k * 89 + 39) (lt89 hkb (by decide))).trans (Br.ok.gb okb (k := k) hkb 39 rfl)
                    have e41 := (HB.out.cellg (i := k * 89 + 41) (lt89 hkb (by decide))).trans (Br.ok.gb okb (k := k) hkb 41 rfl)
                    have e48 := (HB.out.cellg (i := k * 89 + 48) (lt89 hkb (by decide))).trans (Br.ok.gb okb (k := k) hkb 48 rfl)
                    have efr := HB.out.frozen
                    have z87 := (HB.out.cellg (i := k * 89 + 87) (lt89 hkb (by decide))).trans (Br.ok.gi okb (k := k) hkb 87 rfl)
                    rw [h87] at z87
                    go_wp2_with fail
                    have HZ := Lib.hid ((((HB.out.setp (k := k) (j := 39) hkb (by decide) (.bool false)).setp (k := k) (j := 41) hkb (by decide) (.bool false)).setp (k := k) (j := 48) hkb (by decide) (.bool true)))
                    have HN := Lib.hid ((((HM.out.setCell (p := ⟨g, k * 89 + 39, none⟩) (.inl HB.out.F2) (.bool false)).setCell (p := ⟨g, k * 89 + 41, none⟩) (.inl HB.out.F2) (.bool false)).setCell (p := ⟨g, k * 89 + 48, none⟩) (.inl HB.out.F2) (.bool true)))
                    have okz : Br.ok ((((tbegin B k).setp k 39 (.bool false)).setp k 41 (.bool false)).setp k 48 (.bool true)) := (((okb.setB (k := k) hkb 39 false rfl).setB (k := k) hkb 41 false rfl).setB (k := k) hkb 48 true rfl)
                    refine (tod_others _ F X g k _ HZ.out okz hkb hnb).mono ?_
                    rintro e w9 ⟨rfl, hB, hm⟩
                    have HB9 := Lib.hid hB
                    have HM9 := Lib.hid (HN.out.trans hm)
                    clear hB hm
                    go_wp2_with fail
                    go_ret
                    have e2 : RS = (true, tpass (tbegin B k) k) := HRS.out.symm.trans (by unfold topF; rw [if_neg (by rw [HE25.out]; decide)]; unfold topN; rw [if_neg (by rw [HE21.out]; decide), if_neg (by rw [HE21.out]; decide), if_pos HE21.out, show act2 B k = 2 from HA2.out]; rfl)
                    rw [e2]
                    have e3 : tpass (tbegin B k) k = tcp ((((tbegin B k).setp k 39 (.bool false)).setp k 41 (.bool false)).setp k 48 (.bool true)) k ((tbegin B k)).np := by
                      show tcp (tpass0 (tbegin B k) k) k _ = _
                      rw [tpass0_yes (by rw [h87]; exact hd)]
                    rw [e3]
                    exact ⟨rfl, HB9.out.mono (fun n hn => .inl hn), HM9.out⟩
            · as_aux_lemma =>
                clear HFO HCN
                go_wp2_with fail
                refine (tod_clears _ F X g k B HH.out ho hk hn).mono ?_
                rintro e w2 ⟨rfl, hB, hm⟩
                have HB := Lib.hid hB
                have HM := Lib.hid hm
                clear hB hm c17 hfr p25 p26 p28 p29 p31 p32 p39 p40 p41 p48 p49 p13 p21 p87
                have okZ := tclr_ok ho hk
                have z21 := (HB.out.cellg (i := k * 89 + 21) (lt89 hk (by decide))).trans (okZ.gi (k := k) hk 21 rfl)
                have zfr := HB.out.frozen
                go_wp2_with fail
                go_ret
                have e2 : RS = (true, tforget B k) := HRS.out.symm.trans (by unfold topF; rw [if_neg (by rw [HE25.out]; decide)]; unfold topN; rw [if_neg (by rw [HE21.out]; decide), if_neg (by rw [HE21.out]; decide), if_pos HE21.out, show act2 B k = 1 from HA2.out]; rfl)
                rw [e2]
                exact ⟨rfl, (HB.out.setp (k := k) (j := 21) hk (by decide) _).mono (fun n hn => .inl hn), HM.out.setCell (.inl HB.out.F2) _⟩
        · have b0 : (x21 == 0) = false := by simpa using s0
          have b1 : (x21 == 1) = false := by simpa using s1
          have b2 : (x21 == 2) = false := by simpa using s2
          have HS := Lib.hid (And.intro s0 (And.intro s1 s2))
          clear s0 s1 s2
          as_aux_lemma =>
            go_wp2_with fail
            go_ret
            have e2 : RS = (false, B) := HRS.out.symm.trans (by unfold topF; rw [if_neg (by rw [HE25.out]; decide)]; unfold topN; rw [if_neg (by rw [HE21.out]; exact HS.out.1), if_neg (by rw [HE21.out]; exact HS.out.2.1), if_neg (by rw [HE21.out]; exact HS.out.2.2)])
            rw [e2]
            exact ⟨rfl, HH.out.mono (fun n hn => .inl hn), Mut.refl F _⟩
  · cases ao with
    | none =>
      have HNF := Lib.hid (H0.out rfl)
      obtain rfl : cp = 0 := HNF.out.2
      rw [HNF.out.1] at c19
      as_aux_lemma =>
        clear HFO HCN
        go_wp2_with (first
          | fail
          | (at_builtin; refine wpList_append_own_none rfl _ _ 31 rfl w.heap.size 3 i3 1 Try.underlying31 HI.out.1 (.slice (some ⟨w.heap.size, 0, none⟩) 0 0) 0 [] rfl ⟨rfl, .inr ⟨w.heap.size, 0, #[], rfl, Nat.le_refl _, heap_alloc_new _ _, Nat.le_refl _, by decide, rfl, rfl⟩⟩ rfl ?_
             have HX1 := Lib.hid (show Ext w (w.alloc (.cells #[] 3)) from (Ext.refl w).alloc _)
             have HO1 := Lib.hid (show (w.alloc (.cells #[] 3)).ownsRow w.heap.size 3 1 (.slice (some ⟨w.heap.size, 0, none⟩) 0 0) B.nf B.fl from by rw [HNF.out.1, HFL.out HNF.out.1]; exact ⟨rfl, .inr ⟨w.heap.size, 0, #[], rfl, Nat.le_refl _, heap_alloc_new _ _, Nat.le_refl _, by decide, rfl, rfl⟩⟩)
             generalize w.alloc (.cells #[] 3) = w2 at *)
          | (at_builtin; refine wpList_append_own_at _ rfl _ _ 31 rfl w.heap.size 3 i3 (.int .i64 0) 1 8 Try.underlying31 HI.out.1 HI.out.2.1 HI.out.2.2.1 HI.out.2.2.2 rfl (by decide) (.slice (some ⟨w.heap.size, 0, none⟩) 0 0) B.nf B.fl rfl (HO1.out.alloc _) ⟨w2.heap.size, 0, none⟩ 1 1 [.int .i64 k] rfl rfl (fun j u hu => World.news_of_block (heap_alloc_new w2 _) j u (by simpa using hu)) (by simp; rfl) (by unfold maxLen; omega) (by omega) (by have := HX1.out.size; simp; omega) ?_
             intro v2 w3 hown2 hgr2 _ _
             obtain ⟨a2, c2, rfl⟩ := own_form hown2
             have hx2 : Ext w w3 := Below.grown (HX1.out.alloc _) hgr2 (by have := HX1.out.size; simp; omega) (fun g hg => (HO1.out.lt g hg).1)
             have HBf := Lib.hid (HH.out.flushed (k := k) HHD.out hx2.size (fun n hn' => hx2.block n hn') hown2)
             have HMU := Lib.hid ((hx2.mut F).setCell (p := ⟨X, 19, none⟩) (.inl HH.out.F1) (.slice a2 (B.nf + 1) c2))
             have d19 := (hx2.cell (p := ⟨X, 19, none⟩) hX).trans c19
             have f19 : w3.frozen? ⟨X, 19, none⟩ = false := frozen_of_row _ _ _ _ _ ((hx2.block X hX).trans HAX.out)
             have q25 := (HBf.out.cellg (i := k * 89 + 25) (lt89 hk (by decide))).trans (ho.gb hk 25 rfl)
             have qf := HBf.out.frozen
             have HSZ := Lib.hid hx2.size
             clear hown2 hgr2 hx2 c17 c19 hfr p25 p26 p28 p29 p31 p32 p39 p40 p41 p48 p49 p13 p21 p87))
        go_ret
        have e2 : RS = (true, (B.flush k).setp k 25 (.bool false)) := HRS.out.symm.trans (by unfold topF; rw [if_pos HE25.out])
        rw [e2]
        have hfin := HBf.out.setp (k := k) (j := 25) hk (by decide) (.bool false)
        exact ⟨rfl, hfin.mono (fun n hn => hn.imp id (fun h2 => ⟨h2.1, by simp only [World.size_setCell] at h2 ⊢; exact h2.2⟩)), HMU.out.setCell (.inl HH.out.F2) _⟩
    | some b0 =>
      have HNW := Lib.hid (fun j u hu => ((Ext.refl w).alloc (.cells #[] 3)).cell (p := b0.add j) (by rw [show (b0.add j).block = b0.block by unfold Addr.add; split <;> rfl]; exact (HCL.out b0 rfl).1) |>.trans ((HCL.out b0 rfl).2 j u hu))
      as_aux_lemma =>
        clear HFO HCN
        go_wp2_with (first
          | fail
          | (at_builtin; refine wpList_append_own_at _ rfl _ _ 31 rfl w.heap.size 3 i3 (.int .i64 0) 1 8 Try.underlying31 HI.out.1 HI.out.2.1 HI.out.2.2.1 HI.out.2.2.2 rfl (by decide) (.slice (some ⟨w.heap.size, 0, none⟩) 0 0) 0 [] rfl ⟨rfl, .inr ⟨w.heap.size, 0, #[], rfl, Nat.le_refl _, heap_alloc_new _ _, Nat.le_refl _, by decide, rfl, rfl⟩⟩ b0 B.nf cp B.fl rfl HLEN.out HNW.out HONE.out (by unfold maxLen; omega) (by omega) (by simp) ?_
             intro v1 w2 hown1 hgr1 _ _
             obtain ⟨a1, c1, rfl⟩ := own_form hown1
             have hx1 : Ext w w2 := Below.grown ((Ext.refl w).alloc _) hgr1 (by simp) (fun g hg => by
               have : w.heap.size = g := by simpa [Value.ownBlock] using hg
               omega)
             rw [List.nil_append, Nat.zero_add] at hown1
             have HO1 := Lib.hid hown1
             have HX1 := Lib.hid hx1
             clear hown1 hgr1 hx1)
          | (at_builtin; refine wpList_append_own_at _ rfl _ _ 31 rfl w.heap.size 3 i3 (.int .i64 0) 1 8 Try.underlying31 HI.out.1 HI.out.2.1 HI.out.2.2.1 HI.out.2.2.2 rfl (by decide) (.slice a1 B.nf c1) B.nf B.fl rfl (HO1.out.alloc _) ⟨w2.heap.size, 0, none⟩ 1 1 [.int .i64 k] rfl rfl (fun j u hu => World.news_of_block (heap_alloc_new w2 _) j u (by simpa using hu)) (by simp; rfl) (by unfold maxLen; omega) (by omega) (by have := HX1.out.size; simp; omega) ?_
             intro v2 w3 hown2 hgr2 _ _
             obtain ⟨a2, c2, rfl⟩ := own_form hown2
             have hx2 : Ext w w3 := Below.grown (HX1.out.alloc _) hgr2 (by have := HX1.out.size; simp; omega) (fun g hg => (HO1.out.lt g hg).1)
             have HBf := Lib.hid (HH.out.flushed (k := k) HHD.out hx2.size (fun n hn' => hx2.block n hn') hown2)
             have HMU := Lib.hid ((hx2.mut F).setCell (p := ⟨X, 19, none⟩) (.inl HH.out.F1) (.slice a2 (B.nf + 1) c2))
             have d19 := (hx2.cell (p := ⟨X, 19, none⟩) hX).trans c19
             have f19 : w3.frozen? ⟨X, 19, none⟩ = false := frozen_of_row _ _ _ _ _ ((hx2.block X hX).trans HAX.out)
             have q25 := (HBf.out.cellg (i := k * 89 + 25) (lt89 hk (by decide))).trans (ho.gb hk 25 rfl)
             have qf := HBf.out.frozen
             have HSZ := Lib.hid hx2.size
             clear hown2 hgr2 hx2 c17 c19 hfr p25 p26 p28 p29 p31 p32 p39 p40 p41 p48 p49 p13 p21 p87))
        go_ret
        have e2 : RS = (true, (B.flush k).setp k 25 (.bool false)) := HRS.out.symm.trans (by unfold topF; rw [if_pos HE25.out])
        rw [e2]
        have hfin := HBf.out.setp (k := k) (j := 25) hk (by decide) (.bool false)
        exact ⟨rfl, hfin.mono (fun n hn => hn.imp id (fun h2 => ⟨h2.1, by simp only [World.size_setCell] at h2 ⊢; exact h2.2⟩)), HMU.out.setCell (.inl HH.out.F2) _⟩

end Go.Proofs.Ytpieamfpgfabgaa
