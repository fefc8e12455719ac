/- Role transitions by the document: designated ports. No statement is proved here. -/
import Derived.Test.YtnblchilgaimhaaTrO
namespace Go.Proofs.Ytnblchilgaimhaa
open Go.RowKit Go.BigFrame Go.WideShapes Go.ChangeShapes Go.Deep
set_option linter.unusedVariables false
set_option linter.unusedSimpArgs false

set_option maxRecDepth 100000 in
set_option maxHeartbeats 40000000 in
theorem td_designated (w : World) (F : Nat → Prop) (X g k : Nat) (B : Br) (h : BrG w F X g B) (ho : B.ok) (hk : k < B.np) (hn : B.np < 1000) (h4 : 0 ≤ B.hi 4 ∧ B.hi 4 ≤ 1000) : Calls Try.prog 48 #[.pointer (some ⟨X, 0, none⟩), .int .i64 k, .pointer (some ⟨g, k * 89, none⟩), .int .i64 (trWait B k)] w (Stepped w F X g (trRow B k (trR3 B k))) := by
  obtain ⟨RS, hRS⟩ : ∃ RS, trRow B k (trR3 B k) = RS := ⟨_, rfl⟩
  rw [hRS]
  have HRS := Lib.hid hRS
  clear hRS
  obtain ⟨hX, hg, hne⟩ := h.lt
  obtain ⟨c18, hc18⟩ : ∃ b, trHB B k 18 = b := ⟨_, rfl⟩
  have HC18 := Lib.hid hc18
  clear hc18
  obtain ⟨c19, hc19⟩ : ∃ b, trHB B k 19 = b := ⟨_, rfl⟩
  have HC19 := Lib.hid hc19
  clear hc19
  obtain ⟨c20, hc20⟩ : ∃ b, trHB B k 20 = b := ⟨_, rfl⟩
  have HC20 := Lib.hid hc20
  clear hc20
  obtain ⟨c21, hc21⟩ : ∃ b, trHB B k 21 = b := ⟨_, rfl⟩
  have HC21 := Lib.hid hc21
  clear hc21
  obtain ⟨c22, hc22⟩ : ∃ b, trHB B k 22 = b := ⟨_, rfl⟩
  have HC22 := Lib.hid hc22
  clear hc22
  obtain ⟨x23, e23⟩ : ∃ b, B.gb k 23 = b := ⟨_, rfl⟩
  have HE23 := Lib.hid e23
  clear e23
  obtain ⟨x24, e24⟩ : ∃ b, B.gb k 24 = b := ⟨_, rfl⟩
  have HE24 := Lib.hid e24
  clear e24
  obtain ⟨x26, e26⟩ : ∃ b, B.gb k 26 = b := ⟨_, rfl⟩
  have HE26 := Lib.hid e26
  clear e26
  obtain ⟨x27, e27⟩ : ∃ b, B.gb k 27 = b := ⟨_, rfl⟩
  have HE27 := Lib.hid e27
  clear e27
  obtain ⟨x28, e28⟩ : ∃ b, B.gb k 28 = b := ⟨_, rfl⟩
  have HE28 := Lib.hid e28
  clear e28
  obtain ⟨x29, e29⟩ : ∃ b, B.gb k 29 = b := ⟨_, rfl⟩
  have HE29 := Lib.hid e29
  clear e29
  obtain ⟨x32, e32⟩ : ∃ b, B.gb k 32 = b := ⟨_, rfl⟩
  have HE32 := Lib.hid e32
  clear e32
  obtain ⟨x34, e34⟩ : ∃ b, B.gb k 34 = b := ⟨_, rfl⟩
  have HE34 := Lib.hid e34
  clear e34
  obtain ⟨x42, e42⟩ : ∃ b, B.gb k 42 = b := ⟨_, rfl⟩
  have HE42 := Lib.hid e42
  clear e42
  obtain ⟨x45, e45⟩ : ∃ b, B.gb k 45 = b := ⟨_, rfl⟩
  have HE45 := Lib.hid e45
  clear e45
  obtain ⟨x46, e46⟩ : ∃ b, B.gb k 46 = b := ⟨_, rfl⟩
  have HE46 := Lib.hid e46
  clear e46
  obtain ⟨x47, e47⟩ : ∃ b, B.gb k 47 = b := ⟨_, rfl⟩
  have HE47 := Lib.hid e47
  clear e47
  obtain ⟨x7, e7⟩ : ∃ b, B.gi k 7 = b := ⟨_, rfl⟩
  have HE7 := Lib.hid e7
  clear e7
  obtain ⟨x12, e12⟩ : ∃ b, B.gi k 12 = b := ⟨_, rfl⟩
  have HE12 := Lib.hid e12
  clear e12
  obtain ⟨o, ho1⟩ : ∃ m, trDes B k = m := ⟨_, rfl⟩
  have HO := Lib.hid ho1
  clear ho1
  obtain ⟨d23, hd23⟩ : ∃ m, (trDes B k && !B.gb k 26) = m := ⟨_, rfl⟩
  have HD23 := Lib.hid hd23
  clear hd23
  have hflr := Lib.hid (h.flags hk)
  have hfn := flagsOf_len ho hk
  have f23 : (flagsOf B.ps k)[1]? = some (.bool x23) := by rw [flagsOf_at (by decide)]; exact (ho.gb hk 23 rfl).trans (by rw [HE23.out])
  have f24 : (flagsOf B.ps k)[2]? = some (.bool x24) := by rw [flagsOf_at (by decide)]; exact (ho.gb hk 24 rfl).trans (by rw [HE24.out])
  have f26 : (flagsOf B.ps k)[4]? = some (.bool x26) := by rw [flagsOf_at (by decide)]; exact (ho.gb hk 26 rfl).trans (by rw [HE26.out])
  have f27 : (flagsOf B.ps k)[5]? = some (.bool x27) := by rw [flagsOf_at (by decide)]; exact (ho.gb hk 27 rfl).trans (by rw [HE27.out])
  have f28 : (flagsOf B.ps k)[6]? = some (.bool x28) := by rw [flagsOf_at (by decide)]; exact (ho.gb hk 28 rfl).trans (by rw [HE28.out])
  have f29 : (flagsOf B.ps k)[7]? = some (.bool x29) := by rw [flagsOf_at (by decide)]; exact (ho.gb hk 29 rfl).trans (by rw [HE29.out])
  have f32 : (flagsOf B.ps k)[10]? = some (.bool x32) := by rw [flagsOf_at (by decide)]; exact (ho.gb hk 32 rfl).trans (by rw [HE32.out])
  have f34 : (flagsOf B.ps k)[12]? = some (.bool x34) := by rw [flagsOf_at (by decide)]; exact (ho.gb hk 34 rfl).trans (by rw [HE34.out])
  have f42 : (flagsOf B.ps k)[20]? = some (.bool x42) := by rw [flagsOf_at (by decide)]; exact (ho.gb hk 42 rfl).trans (by rw [HE42.out])
  have f45 : (flagsOf B.ps k)[23]? = some (.bool x45) := by rw [flagsOf_at (by decide)]; exact (ho.gb hk 45 rfl).trans (by rw [HE45.out])
  have f46 : (flagsOf B.ps k)[24]? = some (.bool x46) := by rw [flagsOf_at (by decide)]; exact (ho.gb hk 46 rfl).trans (by rw [HE46.out])
  have f47 : (flagsOf B.ps k)[25]? = some (.bool x47) := by rw [flagsOf_at (by decide)]; exact (ho.gb hk 47 rfl).trans (by rw [HE47.out])
  have hflo := Lib.hid (all_oneCell_toArray (flagsOf_one ho k))
  obtain ⟨fl, hfl⟩ : ∃ fl, flagsOf B.ps k = fl := ⟨_, rfl⟩
  rw [hfl] at hflr hfn hflo f23 f24 f26 f27 f28 f29 f32 f34 f42 f45 f46 f47
  have hfli := Lib.hid (show (Try.prog.info? 49).map (·.size) = some fl.length by rw [hfn]; exact size_flags)
  have hfli2 := Lib.hid (show (Try.prog.info? 49).map (·.size) = some fl.toArray.size by rw [List.size_toArray, hfn]; exact size_flags)
  have hfls := Lib.hid (show FZ.size = fl.toArray.size by rw [List.size_toArray]; exact hfn.symm)
  have HB2' := Lib.hid (h.alloc (.cells fl.toArray 49))
  have HM2' := Lib.hid ((Mut.refl F w).alloc (.cells fl.toArray 49))
  have hbx := heap_alloc_new w (.cells fl.toArray 49)
  have HBX := Lib.hid hbx
  clear hfl hfn h hbx
  have hzf := zero_flags
  go_enter Try.func48, Try.ntmps48
  go_upto_region 2 with (first | fail | ((with_reducible refine at_load 49 ?_); refine wpList_load_mid rfl 49 _ rfl g (k * 89 + 22) rfl fl _ hflr.out Try.underlying49 rfl hfli.out ?_) | ((with_reducible refine at_store 49 ?_); refine wpList_store_new2 rfl rfl 49 _ _ _ rfl FZ fl.toArray _ rfl ?_ rfl hfli2.out hfls.out (by rw [Array.all_toList]; exact hflo.out) ?_; · rfl))
  generalize hw2 : w.alloc (.cells fl.toArray 49) = w2 at *
  clear hw2
  obtain ⟨fb, hfb⟩ : ∃ b, w.heap.size = b := ⟨_, rfl⟩
  rw [hfb] at HBX ⊢
  clear hfb
  have HB2 := HB2'
  have HM2 := HM2'
  clear HB2' HM2' hzf
  have p23 : w2.cell? ⟨fb, 1, none⟩ = some (.bool x23) := by rw [cell_of_row _ _ _ _ _ _ HBX.out]; simpa using f23
  have p24 : w2.cell? ⟨fb, 2, none⟩ = some (.bool x24) := by rw [cell_of_row _ _ _ _ _ _ HBX.out]; simpa using f24
  have p26 : w2.cell? ⟨fb, 4, none⟩ = some (.bool x26) := by rw [cell_of_row _ _ _ _ _ _ HBX.out]; simpa using f26
  have p27 : w2.cell? ⟨fb, 5, none⟩ = some (.bool x27) := by rw [cell_of_row _ _ _ _ _ _ HBX.out]; simpa using f27
  have p28 : w2.cell? ⟨fb, 6, none⟩ = some (.bool x28) := by rw [cell_of_row _ _ _ _ _ _ HBX.out]; simpa using f28
  have p29 : w2.cell? ⟨fb, 7, none⟩ = some (.bool x29) := by rw [cell_of_row _ _ _ _ _ _ HBX.out]; simpa using f29
  have p32 : w2.cell? ⟨fb, 10, none⟩ = some (.bool x32) := by rw [cell_of_row _ _ _ _ _ _ HBX.out]; simpa using f32
  have p34 : w2.cell? ⟨fb, 12, none⟩ = some (.bool x34) := by rw [cell_of_row _ _ _ _ _ _ HBX.out]; simpa using f34
  have p42 : w2.cell? ⟨fb, 20, none⟩ = some (.bool x42) := by rw [cell_of_row _ _ _ _ _ _ HBX.out]; simpa using f42
  have p45 : w2.cell? ⟨fb, 23, none⟩ = some (.bool x45) := by rw [cell_of_row _ _ _ _ _ _ HBX.out]; simpa using f45
  have p46 : w2.cell? ⟨fb, 24, none⟩ = some (.bool x46) := by rw [cell_of_row _ _ _ _ _ _ HBX.out]; simpa using f46
  have p47 : w2.cell? ⟨fb, 25, none⟩ = some (.bool x47) := by rw [cell_of_row _ _ _ _ _ _ HBX.out]; simpa using f47
  clear f23 f24 f26 f27 f28 f29 f32 f34 f42 f45 f46 f47 hX hg
  have p7 := (HB2.out.cellg (i := k * 89 + 7) (lt89 hk (by decide))).trans (ho.gi hk 7 rfl)
  rw [HE7.out] at p7
  have p12 := (HB2.out.cellg (i := k * 89 + 12) (lt89 hk (by decide))).trans (ho.gi hk 12 rfl)
  rw [HE12.out] at p12
  have hfr := HB2.out.frozen
  go_upto_region 2 with fail
  go_cut [10] (fun s wx => s = .bool o ∧ wx = w2)
  case first =>
    clear p24 p26 p27 p28 p29 p34 p45 p47
    cases hb : (x7 == 0)
    · cases x23
      · cases x32
        · as_aux_lemma =>
            go_wp2_with fail
            go_meet
            exact ⟨congrArg Value.bool (by rw [← HO.out]; first | (simp [trDes, HE7.out, HE12.out, HE42.out, HE46.out, HE23.out, HE32.out, hb]; done) | (simp [trDes, HE7.out, HE12.out, HE42.out, HE46.out, HE23.out, HE32.out, hb, hz]; done)), rfl⟩
        · cases hz : (x12 == 0)
          · cases x42
            · as_aux_lemma =>
                go_wp2_with fail
                go_meet
                exact ⟨congrArg Value.bool (by rw [← HO.out]; first | (simp [trDes, HE7.out, HE12.out, HE42.out, HE46.out, HE23.out, HE32.out, hb]; done) | (simp [trDes, HE7.out, HE12.out, HE42.out, HE46.out, HE23.out, HE32.out, hb, hz]; done)), rfl⟩
            · as_aux_lemma =>
                go_wp2_with fail
                go_meet
                exact ⟨congrArg Value.bool (by rw [← HO.out]; first | (simp [trDes, HE7.out, HE12.out, HE42.out, HE46.out, HE23.out, HE32.out, hb]; done) | (simp [trDes, HE7.out, HE12.out, HE42.out, HE46.out, HE23.out, HE32.out, hb, hz]; done)), rfl⟩
          · as_aux_lemma =>
              go_wp2_with fail
              go_meet
              exact ⟨congrArg Value.bool (by rw [← HO.out]; first | (simp [trDes, HE7.out, HE12.out, HE42.out, HE46.out, HE23.out, HE32.out, hb]; done) | (simp [trDes, HE7.out, HE12.out, HE42.out, HE46.out, HE23.out, HE32.out, hb, hz]; done)), rfl⟩
      · cases hz : (x12 == 0)
        · cases x42
          · as_aux_lemma =>
              go_wp2_with fail
              go_meet
              exact ⟨congrArg Value.bool (by rw [← HO.out]; first | (simp [trDes, HE7.out, HE12.out, HE42.out, HE46.out, HE23.out, HE32.out, hb]; done) | (simp [trDes, HE7.out, HE12.out, HE42.out, HE46.out, HE23.out, HE32.out, hb, hz]; done)), rfl⟩
          · as_aux_lemma =>
              go_wp2_with fail
              go_meet
              exact ⟨congrArg Value.bool (by rw [← HO.out]; first | (simp [trDes, HE7.out, HE12.out, HE42.out, HE46.out, HE23.out, HE32.out, hb]; done) | (simp [trDes, HE7.out, HE12.out, HE42.out, HE46.out, HE23.out, HE32.out, hb, hz]; done)), rfl⟩
        · as_aux_lemma =>
            go_wp2_with fail
            go_meet
            exact ⟨congrArg Value.bool (by rw [← HO.out]; first | (simp [trDes, HE7.out, HE12.out, HE42.out, HE46.out, HE23.out, HE32.out, hb]; done) | (simp [trDes, HE7.out, HE12.out, HE42.out, HE46.out, HE23.out, HE32.out, hb, hz]; done)), rfl⟩
    · cases hz : (x12 == 0)
      · cases x42
        · as_aux_lemma =>
            go_wp2_with fail
            go_meet
            exact ⟨congrArg Value.bool (by rw [← HO.out]; first | (simp [trDes, HE7.out, HE12.out, HE42.out, HE46.out, HE23.out, HE32.out, hb]; done) | (simp [trDes, HE7.out, HE12.out, HE42.out, HE46.out, HE23.out, HE32.out, hb, hz]; done)), rfl⟩
        · as_aux_lemma =>
            go_wp2_with fail
            go_meet
            exact ⟨congrArg Value.bool (by rw [← HO.out]; first | (simp [trDes, HE7.out, HE12.out, HE42.out, HE46.out, HE23.out, HE32.out, hb]; done) | (simp [trDes, HE7.out, HE12.out, HE42.out, HE46.out, HE23.out, HE32.out, hb, hz]; done)), rfl⟩
      · as_aux_lemma =>
          go_wp2_with fail
          go_meet
          exact ⟨congrArg Value.bool (by rw [← HO.out]; first | (simp [trDes, HE7.out, HE12.out, HE42.out, HE46.out, HE23.out, HE32.out, hb]; done) | (simp [trDes, HE7.out, HE12.out, HE42.out, HE46.out, HE23.out, HE32.out, hb, hz]; done)), rfl⟩
  case rest =>
    obtain ⟨rfl, hwx⟩ := hcut
    replace hwx := hwx.symm
    subst hwx
    go_upto_region 4 with fail
    go_cut [47] (fun s wx => s = .bool c18 ∧ wx = w2)
    case first =>
      clear p24 p27 p28 p29 p42 p45 p46 p47 p7 p12
      cases x26
      · cases x23
        · cases x34
          · as_aux_lemma =>
              go_wp2_with fail
              go_meet
              exact ⟨congrArg Value.bool (by rw [← HC18.out]; simp [trHB, HE26.out, HE23.out, HE34.out, HE32.out]), rfl⟩
          · as_aux_lemma =>
              go_wp2_with fail
              go_meet
              exact ⟨congrArg Value.bool (by rw [← HC18.out]; simp [trHB, HE26.out, HE23.out, HE34.out, HE32.out]), rfl⟩
        · as_aux_lemma =>
            go_wp2_with fail
            go_meet
            exact ⟨congrArg Value.bool (by rw [← HC18.out]; simp [trHB, HE26.out, HE23.out, HE34.out, HE32.out]), rfl⟩
      · as_aux_lemma =>
          go_wp2_with fail
          go_meet
          exact ⟨congrArg Value.bool (by rw [← HC18.out]; simp [trHB, HE26.out, HE23.out, HE34.out, HE32.out]), rfl⟩
    case rest =>
      obtain ⟨rfl, hwx⟩ := hcut
      replace hwx := hwx.symm
      subst hwx
      cases c18
      · go_upto_region 8 with fail
        go_cut [83] (fun s wx => s = .bool c19 ∧ wx = w2)
        case first =>
          clear p24 p26 p28 p34 p42 p45 p7 p12
          cases x47
          · cases x29
            · cases x27
              · as_aux_lemma =>
                  go_wp2_with fail
                  go_meet
                  exact ⟨congrArg Value.bool (by rw [← HC19.out]; simp [trHB, HE47.out, HE46.out, HE29.out, HE27.out, HE23.out, HE32.out]), rfl⟩
              · cases x23
                · cases x32
                  · cases x46
                    · as_aux_lemma =>
                        go_wp2_with fail
                        go_meet
                        exact ⟨congrArg Value.bool (by rw [← HC19.out]; simp [trHB, HE47.out, HE46.out, HE29.out, HE27.out, HE23.out, HE32.out]), rfl⟩
                    · as_aux_lemma =>
                        go_wp2_with fail
                        go_meet
                        exact ⟨congrArg Value.bool (by rw [← HC19.out]; simp [trHB, HE47.out, HE46.out, HE29.out, HE27.out, HE23.out, HE32.out]), rfl⟩
                  · as_aux_lemma =>
                      go_wp2_with fail
                      go_meet
                      exact ⟨congrArg Value.bool (by rw [← HC19.out]; simp [trHB, HE47.out, HE46.out, HE29.out, HE27.out, HE23.out, HE32.out]), rfl⟩
                · as_aux_lemma =>
                    go_wp2_with fail
                    go_meet
                    exact ⟨congrArg Value.bool (by rw [← HC19.out]; simp [trHB, HE47.out, HE46.out, HE29.out, HE27.out, HE23.out, HE32.out]), rfl⟩
            · cases x23
              · cases x32
                · cases x46
                  · as_aux_lemma =>
                      go_wp2_with fail
                      go_meet
                      exact ⟨congrArg Value.bool (by rw [← HC19.out]; simp [trHB, HE47.out, HE46.out, HE29.out, HE27.out, HE23.out, HE32.out]), rfl⟩
                  · as_aux_lemma =>
                      go_wp2_with fail
                      go_meet
                      exact ⟨congrArg Value.bool (by rw [← HC19.out]; simp [trHB, HE47.out, HE46.out, HE29.out, HE27.out, HE23.out, HE32.out]), rfl⟩
                · as_aux_lemma =>
                    go_wp2_with fail
                    go_meet
                    exact ⟨congrArg Value.bool (by rw [← HC19.out]; simp [trHB, HE47.out, HE46.out, HE29.out, HE27.out, HE23.out, HE32.out]), rfl⟩
              · as_aux_lemma =>
                  go_wp2_with fail
                  go_meet
                  exact ⟨congrArg Value.bool (by rw [← HC19.out]; simp [trHB, HE47.out, HE46.out, HE29.out, HE27.out, HE23.out, HE32.out]), rfl⟩
          · cases x46
            · as_aux_lemma =>
                go_wp2_with fail
                go_meet
                exact ⟨congrArg Value.bool (by rw [← HC19.out]; simp [trHB, HE47.out, HE46.out, HE29.out, HE27.out, HE23.out, HE32.out]), rfl⟩
            · as_aux_lemma =>
                go_wp2_with fail
                go_meet
                exact ⟨congrArg Value.bool (by rw [← HC19.out]; simp [trHB, HE47.out, HE46.out, HE29.out, HE27.out, HE23.out, HE32.out]), rfl⟩
        case rest =>
          obtain ⟨rfl, hwx⟩ := hcut
          replace hwx := hwx.symm
          subst hwx
          cases c19
          · go_upto_region 12 with fail
            go_cut [125] (fun s wx => s = .bool c20 ∧ wx = w2)
            case first =>
              clear p23 p24 p26 p27 p28 p29 p32 p34 p45 p46 p47 p7
              cases hb : (x12 == 0)
              · as_aux_lemma =>
                  go_wp2_with fail
                  go_meet
                  exact ⟨congrArg Value.bool (by rw [← HC20.out]; simp [trHB, HE12.out, HE42.out, hb]), rfl⟩
              · as_aux_lemma =>
                  go_wp2_with fail
                  go_meet
                  exact ⟨congrArg Value.bool (by rw [← HC20.out]; simp [trHB, HE12.out, HE42.out, hb]), rfl⟩
            case rest =>
              obtain ⟨rfl, hwx⟩ := hcut
              replace hwx := hwx.symm
              subst hwx
              cases c20
              · go_upto_region 14 with fail
                go_cut [140] (fun s wx => s = .bool c21 ∧ wx = w2)
                case first =>
                  clear p23 p27 p29 p34 p45 p7
                  cases x46
                  · cases x42
                    · cases x24
                      · as_aux_lemma =>
                          go_wp2_with fail
                          go_meet
                          exact ⟨congrArg Value.bool (by rw [← HC21.out]; first | (simp [trHB, HE46.out, HE47.out, HE42.out, HE12.out, HE24.out, HE32.out, HE28.out, HE26.out]; done) | (simp [trHB, HE46.out, HE47.out, HE42.out, HE12.out, HE24.out, HE32.out, HE28.out, HE26.out, hb]; done)), rfl⟩
                      · cases x32
                        · cases x28
                          · as_aux_lemma =>
                              go_wp2_with fail
                              go_meet
                              exact ⟨congrArg Value.bool (by rw [← HC21.out]; first | (simp [trHB, HE46.out, HE47.out, HE42.out, HE12.out, HE24.out, HE32.out, HE28.out, HE26.out]; done) | (simp [trHB, HE46.out, HE47.out, HE42.out, HE12.out, HE24.out, HE32.out, HE28.out, HE26.out, hb]; done)), rfl⟩
                          · as_aux_lemma =>
                              go_wp2_with fail
                              go_meet
                              exact ⟨congrArg Value.bool (by rw [← HC21.out]; first | (simp [trHB, HE46.out, HE47.out, HE42.out, HE12.out, HE24.out, HE32.out, HE28.out, HE26.out]; done) | (simp [trHB, HE46.out, HE47.out, HE42.out, HE12.out, HE24.out, HE32.out, HE28.out, HE26.out, hb]; done)), rfl⟩
                        · as_aux_lemma =>
                            go_wp2_with fail
                            go_meet
                            exact ⟨congrArg Value.bool (by rw [← HC21.out]; first | (simp [trHB, HE46.out, HE47.out, HE42.out, HE12.out, HE24.out, HE32.out, HE28.out, HE26.out]; done) | (simp [trHB, HE46.out, HE47.out, HE42.out, HE12.out, HE24.out, HE32.out, HE28.out, HE26.out, hb]; done)), rfl⟩
                    · cases hb : (x12 != 0)
                      · cases x24
                        · as_aux_lemma =>
                            go_wp2_with fail
                            go_meet
                            exact ⟨congrArg Value.bool (by rw [← HC21.out]; first | (simp [trHB, HE46.out, HE47.out, HE42.out, HE12.out, HE24.out, HE32.out, HE28.out, HE26.out]; done) | (simp [trHB, HE46.out, HE47.out, HE42.out, HE12.out, HE24.out, HE32.out, HE28.out, HE26.out, hb]; done)), rfl⟩
                        · cases x32
                          · cases x28
                            · as_aux_lemma =>
                                go_wp2_with fail
                                go_meet
                                exact ⟨congrArg Value.bool (by rw [← HC21.out]; first | (simp [trHB, HE46.out, HE47.out, HE42.out, HE12.out, HE24.out, HE32.out, HE28.out, HE26.out]; done) | (simp [trHB, HE46.out, HE47.out, HE42.out, HE12.out, HE24.out, HE32.out, HE28.out, HE26.out, hb]; done)), rfl⟩
                            · as_aux_lemma =>
                                go_wp2_with fail
                                go_meet
                                exact ⟨congrArg Value.bool (by rw [← HC21.out]; first | (simp [trHB, HE46.out, HE47.out, HE42.out, HE12.out, HE24.out, HE32.out, HE28.out, HE26.out]; done) | (simp [trHB, HE46.out, HE47.out, HE42.out, HE12.out, HE24.out, HE32.out, HE28.out, HE26.out, hb]; done)), rfl⟩
                          · as_aux_lemma =>
                              go_wp2_with fail
                              go_meet
                              exact ⟨congrArg Value.bool (by rw [← HC21.out]; first | (simp [trHB, HE46.out, HE47.out, HE42.out, HE12.out, HE24.out, HE32.out, HE28.out, HE26.out]; done) | (simp [trHB, HE46.out, HE47.out, HE42.out, HE12.out, HE24.out, HE32.out, HE28.out, HE26.out, hb]; done)), rfl⟩
                      · cases x32
                        · cases x28
                          · as_aux_lemma =>
                              go_wp2_with fail
                              go_meet
                              exact ⟨congrArg Value.bool (by rw [← HC21.out]; first | (simp [trHB, HE46.out, HE47.out, HE42.out, HE12.out, HE24.out, HE32.out, HE28.out, HE26.out]; done) | (simp [trHB, HE46.out, HE47.out, HE42.out, HE12.out, HE24.out, HE32.out, HE28.out, HE26.out, hb]; done)), rfl⟩
                          · as_aux_lemma =>
                              go_wp2_with fail
                              go_meet
                              exact ⟨congrArg Value.bool (by rw [← HC21.out]; first | (simp [trHB, HE46.out, HE47.out, HE42.out, HE12.out, HE24.out, HE32.out, HE28.out, HE26.out]; done) | (simp [trHB, HE46.out, HE47.out, HE42.out, HE12.out, HE24.out, HE32.out, HE28.out, HE26.out, hb]; done)), rfl⟩
                        · as_aux_lemma =>
                            go_wp2_with fail
                            go_meet
                            exact ⟨congrArg Value.bool (by rw [← HC21.out]; first | (simp [trHB, HE46.out, HE47.out, HE42.out, HE12.out, HE24.out, HE32.out, HE28.out, HE26.out]; done) | (simp [trHB, HE46.out, HE47.out, HE42.out, HE12.out, HE24.out, HE32.out, HE28.out, HE26.out, hb]; done)), rfl⟩
                  · cases x47
                    · cases x32
                      · cases x28
                        · as_aux_lemma =>
                            go_wp2_with fail
                            go_meet
                            exact ⟨congrArg Value.bool (by rw [← HC21.out]; first | (simp [trHB, HE46.out, HE47.out, HE42.out, HE12.out, HE24.out, HE32.out, HE28.out, HE26.out]; done) | (simp [trHB, HE46.out, HE47.out, HE42.out, HE12.out, HE24.out, HE32.out, HE28.out, HE26.out, hb]; done)), rfl⟩
                        · as_aux_lemma =>
                            go_wp2_with fail
                            go_meet
                            exact ⟨congrArg Value.bool (by rw [← HC21.out]; first | (simp [trHB, HE46.out, HE47.out, HE42.out, HE12.out, HE24.out, HE32.out, HE28.out, HE26.out]; done) | (simp [trHB, HE46.out, HE47.out, HE42.out, HE12.out, HE24.out, HE32.out, HE28.out, HE26.out, hb]; done)), rfl⟩
                      · as_aux_lemma =>
                          go_wp2_with fail
                          go_meet
                          exact ⟨congrArg Value.bool (by rw [← HC21.out]; first | (simp [trHB, HE46.out, HE47.out, HE42.out, HE12.out, HE24.out, HE32.out, HE28.out, HE26.out]; done) | (simp [trHB, HE46.out, HE47.out, HE42.out, HE12.out, HE24.out, HE32.out, HE28.out, HE26.out, hb]; done)), rfl⟩
                    · cases x42
                      · cases x24
                        · as_aux_lemma =>
                            go_wp2_with fail
                            go_meet
                            exact ⟨congrArg Value.bool (by rw [← HC21.out]; first | (simp [trHB, HE46.out, HE47.out, HE42.out, HE12.out, HE24.out, HE32.out, HE28.out, HE26.out]; done) | (simp [trHB, HE46.out, HE47.out, HE42.out, HE12.out, HE24.out, HE32.out, HE28.out, HE26.out, hb]; done)), rfl⟩
                        · cases x32
                          · cases x28
                            · as_aux_lemma =>
                                go_wp2_with fail
                                go_meet
                                exact ⟨congrArg Value.bool (by rw [← HC21.out]; first | (simp [trHB, HE46.out, HE47.out, HE42.out, HE12.out, HE24.out, HE32.out, HE28.out, HE26.out]; done) | (simp [trHB, HE46.out, HE47.out, HE42.out, HE12.out, HE24.out, HE32.out, HE28.out, HE26.out, hb]; done)), rfl⟩
                            · as_aux_lemma =>
                                go_wp2_with fail
                                go_meet
                                exact ⟨congrArg Value.bool (by rw [← HC21.out]; first | (simp [trHB, HE46.out, HE47.out, HE42.out, HE12.out, HE24.out, HE32.out, HE28.out, HE26.out]; done) | (simp [trHB, HE46.out, HE47.out, HE42.out, HE12.out, HE24.out, HE32.out, HE28.out, HE26.out, hb]; done)), rfl⟩
                          · as_aux_lemma =>
                              go_wp2_with fail
                              go_meet
                              exact ⟨congrArg Value.bool (by rw [← HC21.out]; first | (simp [trHB, HE46.out, HE47.out, HE42.out, HE12.out, HE24.out, HE32.out, HE28.out, HE26.out]; done) | (simp [trHB, HE46.out, HE47.out, HE42.out, HE12.out, HE24.out, HE32.out, HE28.out, HE26.out, hb]; done)), rfl⟩
                      · cases hb : (x12 != 0)
                        · cases x24
                          · as_aux_lemma =>
                              go_wp2_with fail
                              go_meet
                              exact ⟨congrArg Value.bool (by rw [← HC21.out]; first | (simp [trHB, HE46.out, HE47.out, HE42.out, HE12.out, HE24.out, HE32.out, HE28.out, HE26.out]; done) | (simp [trHB, HE46.out, HE47.out, HE42.out, HE12.out, HE24.out, HE32.out, HE28.out, HE26.out, hb]; done)), rfl⟩
                          · cases x32
                            · cases x28
                              · as_aux_lemma =>
                                  go_wp2_with fail
                                  go_meet
                                  exact ⟨congrArg Value.bool (by rw [← HC21.out]; first | (simp [trHB, HE46.out, HE47.out, HE42.out, HE12.out, HE24.out, HE32.out, HE28.out, HE26.out]; done) | (simp [trHB, HE46.out, HE47.out, HE42.out, HE12.out, HE24.out, HE32.out, HE28.out, HE26.out, hb]; done)), rfl⟩
                              · as_aux_lemma =>
                                  go_wp2_with fail
                                  go_meet
                                  exact ⟨congrArg Value.bool (by rw [← HC21.out]; first | (simp [trHB, HE46.out, HE47.out, HE42.out, HE12.out, HE24.out, HE32.out, HE28.out, HE26.out]; done) | (simp [trHB, HE46.out, HE47.out, HE42.out, HE12.out, HE24.out, HE32.out, HE28.out, HE26.out, hb]; done)), rfl⟩
                            · as_aux_lemma =>
                                go_wp2_with fail
                                go_meet
                                exact ⟨congrArg Value.bool (by rw [← HC21.out]; first | (simp [trHB, HE46.out, HE47.out, HE42.out, HE12.out, HE24.out, HE32.out, HE28.out, HE26.out]; done) | (simp [trHB, HE46.out, HE47.out, HE42.out, HE12.out, HE24.out, HE32.out, HE28.out, HE26.out, hb]; done)), rfl⟩
                        · cases x32
                          · cases x28
                            · as_aux_lemma =>
                                go_wp2_with fail
                                go_meet
                                exact ⟨congrArg Value.bool (by rw [← HC21.out]; first | (simp [trHB, HE46.out, HE47.out, HE42.out, HE12.out, HE24.out, HE32.out, HE28.out, HE26.out]; done) | (simp [trHB, HE46.out, HE47.out, HE42.out, HE12.out, HE24.out, HE32.out, HE28.out, HE26.out, hb]; done)), rfl⟩
                            · as_aux_lemma =>
                                go_wp2_with fail
                                go_meet
                                exact ⟨congrArg Value.bool (by rw [← HC21.out]; first | (simp [trHB, HE46.out, HE47.out, HE42.out, HE12.out, HE24.out, HE32.out, HE28.out, HE26.out]; done) | (simp [trHB, HE46.out, HE47.out, HE42.out, HE12.out, HE24.out, HE32.out, HE28.out, HE26.out, hb]; done)), rfl⟩
                          · as_aux_lemma =>
                              go_wp2_with fail
                              go_meet
                              exact ⟨congrArg Value.bool (by rw [← HC21.out]; first | (simp [trHB, HE46.out, HE47.out, HE42.out, HE12.out, HE24.out, HE32.out, HE28.out, HE26.out]; done) | (simp [trHB, HE46.out, HE47.out, HE42.out, HE12.out, HE24.out, HE32.out, HE28.out, HE26.out, hb]; done)), rfl⟩
                case rest =>
                  obtain ⟨rfl, hwx⟩ := hcut
                  replace hwx := hwx.symm
                  subst hwx
                  cases c21
                  · go_upto_region 19 with fail
                    go_cut [194] (fun s wx => s = .bool c22 ∧ wx = w2)
                    case first =>
                      clear p23 p24 p26 p27 p29 p32 p34 p42 p45 p46 p47 p7 p12
                      cases o
                      · as_aux_lemma =>
                          go_wp2_with fail
                          go_meet
                          exact ⟨congrArg Value.bool (by rw [← HC22.out]; simp [trHB, HO.out, HE28.out]), rfl⟩
                      · as_aux_lemma =>
                          go_wp2_with fail
                          go_meet
                          exact ⟨congrArg Value.bool (by rw [← HC22.out]; simp [trHB, HO.out, HE28.out]), rfl⟩
                    case rest =>
                      obtain ⟨rfl, hwx⟩ := hcut
                      replace hwx := hwx.symm
                      subst hwx
                      cases c22
                      · go_upto_region 22 with fail
                        go_cut [210] (fun s wx => s = .bool d23 ∧ wx = w2)
                        case first =>
                          clear p23 p24 p27 p28 p29 p32 p34 p42 p45 p46 p47 p7 p12
                          cases o
                          · as_aux_lemma =>
                              go_wp2_with fail
                              go_meet
                              exact ⟨congrArg Value.bool (by rw [← HD23.out]; simp [HO.out, HE26.out]), rfl⟩
                          · as_aux_lemma =>
                              go_wp2_with fail
                              go_meet
                              exact ⟨congrArg Value.bool (by rw [← HD23.out]; simp [HO.out, HE26.out]), rfl⟩
                        case rest =>
                          obtain ⟨rfl, hwx⟩ := hcut
                          replace hwx := hwx.symm
                          subst hwx
                          cases d23
                          · have HC23 := Lib.hid (show trHB B k 23 = false from by
                              have h1 := HC22.out
                              have h2 := HD23.out
                              revert h1 h2
                              simp only [trHB]
                              cases trDes B k <;> cases B.gb k 28 <;> cases B.gb k 26 <;> simp)
                            go_wp2_with fail
                            go_ret
                            have hR : trR3 B k = 24 := by unfold trR3; simp [HC18.out, HC19.out, HC20.out, HC21.out, HC22.out, HC23.out]
                            have e2 : RS = (false, B) := by rw [← HRS.out, hR]; rfl
                            rw [e2]
                            exact ⟨rfl, HB2.out, HM2.out⟩
                          · have HC23 := Lib.hid (show trHB B k 23 = true from by
                              have h1 := HC22.out
                              have h2 := HD23.out
                              revert h1 h2
                              simp only [trHB]
                              cases trDes B k <;> cases B.gb k 28 <;> cases B.gb k 26 <;> simp)
                            have p26 := (HB2.out.cellg (i := k * 89 + 26) (lt89 hk (by decide))).trans (ho.gb hk 26 rfl)
                            have p23 := (HB2.out.cellg (i := k * 89 + 23) (lt89 hk (by decide))).trans (ho.gb hk 23 rfl)
                            go_wp2_with fail
                            go_ret
                            have hx45 : x45 = B.gb k 45 := HE45.out.symm
                            have hR : trR3 B k = 23 := by unfold trR3; simp [HC18.out, HC19.out, HC20.out, HC21.out, HC22.out, HC23.out]
                            have e2 : RS = (true, (((B.setp k 26 (.bool true)).setp k 7 (.int .i64 0)).setp k 23 (.bool x45))) := by
                              rw [← HRS.out, hR, hx45]
                              rfl
                            rw [e2]
                            exact ⟨rfl, (((HB2.out.setp (k := k) (j := 26) hk (by decide) (.bool true)).setp (k := k) (j := 7) hk (by decide) (.int .i64 0)).setp (k := k) (j := 23) hk (by decide) (.bool x45)), (((HM2.out.setCell (p := ⟨g, k * 89 + 26, none⟩) (.inl HB2.out.F2) (.bool true)).setCell (p := ⟨g, k * 89 + 7, none⟩) (.inl HB2.out.F2) (.int .i64 0)).setCell (p := ⟨g, k * 89 + 23, none⟩) (.inl HB2.out.F2) (.bool x45))⟩
                      · have p28 := (HB2.out.cellg (i := k * 89 + 28) (lt89 hk (by decide))).trans (ho.gb hk 28 rfl)
                        go_wp2_with fail
                        go_ret
                        have hR : trR3 B k = 22 := by unfold trR3; simp [HC18.out, HC19.out, HC20.out, HC21.out, HC22.out]
                        have e2 : RS = (true, ((B.setp k 28 (.bool true)).setp k 7 (.int .i64 (trWait B k)))) := by
                          rw [← HRS.out, hR]
                          rfl
                        rw [e2]
                        exact ⟨rfl, ((HB2.out.setp (k := k) (j := 28) hk (by decide) (.bool true)).setp (k := k) (j := 7) hk (by decide) (.int .i64 (trWait B k))), ((HM2.out.setCell (p := ⟨g, k * 89 + 28, none⟩) (.inl HB2.out.F2) (.bool true)).setCell (p := ⟨g, k * 89 + 7, none⟩) (.inl HB2.out.F2) (.int .i64 (trWait B k)))⟩
                  · have p28 := (HB2.out.cellg (i := k * 89 + 28) (lt89 hk (by decide))).trans (ho.gb hk 28 rfl)
                    have p26 := (HB2.out.cellg (i := k * 89 + 26) (lt89 hk (by decide))).trans (ho.gb hk 26 rfl)
                    have p24 := (HB2.out.cellg (i := k * 89 + 24) (lt89 hk (by decide))).trans (ho.gb hk 24 rfl)
                    go_wp2_with fail
                    go_ret
                    have hR : trR3 B k = 21 := by unfold trR3; simp [HC18.out, HC19.out, HC20.out, HC21.out]
                    have e2 : RS = (true, ((((B.setp k 28 (.bool false)).setp k 26 (.bool false)).setp k 24 (.bool false)).setp k 7 (.int .i64 (trWait B k)))) := by
                      rw [← HRS.out, hR]
                      rfl
                    rw [e2]
                    exact ⟨rfl, ((((HB2.out.setp (k := k) (j := 28) hk (by decide) (.bool false)).setp (k := k) (j := 26) hk (by decide) (.bool false)).setp (k := k) (j := 24) hk (by decide) (.bool false)).setp (k := k) (j := 7) hk (by decide) (.int .i64 (trWait B k))), ((((HM2.out.setCell (p := ⟨g, k * 89 + 28, none⟩) (.inl HB2.out.F2) (.bool false)).setCell (p := ⟨g, k * 89 + 26, none⟩) (.inl HB2.out.F2) (.bool false)).setCell (p := ⟨g, k * 89 + 24, none⟩) (.inl HB2.out.F2) (.bool false)).setCell (p := ⟨g, k * 89 + 7, none⟩) (.inl HB2.out.F2) (.int .i64 (trWait B k)))⟩
              · have p42 := (HB2.out.cellg (i := k * 89 + 42) (lt89 hk (by decide))).trans (ho.gb hk 42 rfl)
                go_wp2_with fail
                go_ret
                have hR : trR3 B k = 20 := by unfold trR3; simp [HC18.out, HC19.out, HC20.out]
                have e2 : RS = (true, (B.setp k 42 (.bool false))) := by
                  rw [← HRS.out, hR]
                  rfl
                rw [e2]
                exact ⟨rfl, (HB2.out.setp (k := k) (j := 42) hk (by decide) (.bool false)), (HM2.out.setCell (p := ⟨g, k * 89 + 42, none⟩) (.inl HB2.out.F2) (.bool false))⟩
          · have p47 := (HB2.out.cellg (i := k * 89 + 47) (lt89 hk (by decide))).trans (ho.gb hk 47 rfl)
            have p46 := (HB2.out.cellg (i := k * 89 + 46) (lt89 hk (by decide))).trans (ho.gb hk 46 rfl)
            go_wp2_with fail
            go_ret
            have hR : trR3 B k = 19 := by unfold trR3; simp [HC18.out, HC19.out]
            have e2 : RS = (true, (((B.setp k 12 (.int .i64 0)).setp k 47 (.bool true)).setp k 46 (.bool false))) := by
              rw [← HRS.out, hR]
              rfl
            rw [e2]
            exact ⟨rfl, (((HB2.out.setp (k := k) (j := 12) hk (by decide) (.int .i64 0)).setp (k := k) (j := 47) hk (by decide) (.bool true)).setp (k := k) (j := 46) hk (by decide) (.bool false)), (((HM2.out.setCell (p := ⟨g, k * 89 + 12, none⟩) (.inl HB2.out.F2) (.int .i64 0)).setCell (p := ⟨g, k * 89 + 47, none⟩) (.inl HB2.out.F2) (.bool true)).setCell (p := ⟨g, k * 89 + 46, none⟩) (.inl HB2.out.F2) (.bool false))⟩
      · have p34 := (HB2.out.cellg (i := k * 89 + 34) (lt89 hk (by decide))).trans (ho.gb hk 34 rfl)
        have p31 := (HB2.out.cellg (i := k * 89 + 31) (lt89 hk (by decide))).trans (ho.gb hk 31 rfl)
        have ok3 : Br.ok ((B.setp k 34 (.bool true)).setp k 31 (.bool true)) := (ho.setB (k := k) hk 34 true rfl).setB (k := k) hk 31 true rfl
        have HB3 := Lib.hid ((HB2.out.setp (k := k) (j := 34) hk (by decide) (.bool true)).setp (k := k) (j := 31) hk (by decide) (.bool true))
        have HM3 := Lib.hid ((HM2.out.setCell (p := ⟨g, k * 89 + 34, none⟩) (.inl HB2.out.F2) (.bool true)).setCell (p := ⟨g, k * 89 + 31, none⟩) (.inl HB2.out.F2) (.bool true))
        obtain ⟨C, hC, hCb, hCz⟩ := HB3.out.br (show 0 < Br.np ((B.setp k 34 (.bool true)).setp k 31 (.bool true)) by show 0 < B.np; omega)
        have HC := Lib.hid hC
        have HCb := Lib.hid hCb
        have HCi := Lib.hid (show (Try.prog.info? 33).map (·.size) = some C.size by rw [hCz, ok3.hd.1]; exact size_br)
        clear hC hCb hCz
        go_wp2_with (first | fail | ((with_reducible refine at_load 33 ?_); refine wpList_load_row rfl 33 _ rfl X rfl 33 C (0, 0) _ HC.out Try.underlying33 rfl HCi.out ?_))
        refine (dedel_any C _ k _ HCb.out ok3 hk).mono ?_
        rw [gb_setp_ne _ _ _ _ _ (by decide), gb_setp_ne _ _ _ _ _ (by decide)]
        rintro e w4 ⟨he, hx⟩
        obtain rfl : e = .returned (.int .i64 (trEd B k)) := he
        have HB4 := Lib.hid (HB3.out.ext hx)
        have HM4 := Lib.hid (HM3.out.trans (hx.mut F))
        have p6 := (HB4.out.cellg (i := k * 89 + 6) (lt89 hk (by decide))).trans (Br.ok.gi ok3 (k := k) hk 6 rfl)
        have hfr4 := HB4.out.frozen
        clear hx p34 p31
        go_wp2_with fail
        go_ret
        have hR : trR3 B k = 18 := by unfold trR3; simp [HC18.out]
        have e2 : RS = (true, (((B.setp k 34 (.bool true)).setp k 31 (.bool true)).setp k 6 (.int .i64 (trEd B k)))) := by rw [← HRS.out, hR]; rfl
        rw [e2]
        exact ⟨rfl, HB4.out.setp (k := k) (j := 6) hk (by decide) _, HM4.out.setCell (.inl HB4.out.F2) _⟩

end Go.Proofs.Ytnblchilgaimhaa
