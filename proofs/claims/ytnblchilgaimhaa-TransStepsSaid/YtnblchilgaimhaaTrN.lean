/- Role transitions: the step. No statement is proved here. -/
import Derived.Test.YtnblchilgaimhaaTrM
import Derived.Test.YtnblchilgaimhaaTrL
import Derived.Test.YtnblchilgaimhaaTrK
namespace Go.Proofs.Ytnblchilgaimhaa
open Go.RowKit Go.BigFrame Go.WideShapes Go.ChangeShapes Go.Deep
set_option linter.unusedVariables false
set_option linter.unusedSimpArgs false

theorem tr_agreeAsRoot (w : World) (F : Nat → Prop) (X g k : Nat) (B : Br) (h : BrG w F X g B) (ho : B.ok) (hk : k < B.np) (hF : ∀ n, F n → n < w.heap.size) : Calls Try.prog 68 #[placeV g k X] w fun e w' => e = .returned (.tuple #[]) ∧ BrG w' F X g ((trAgree B k).setp k 46 (.bool false)) ∧ Mut F w w' := by
  obtain ⟨hX, hg, hne⟩ := h.lt
  have H := Lib.hid h
  have hnb : ¬ F w.heap.size := fun hh => by have := hF _ hh; omega
  have okz : Br.ok (trAgree B k) := ((ho.setB hk 33 false rfl).setB (k := k) hk 22 true rfl).setB (k := k) hk 31 true rfl
  clear h hF
  unfold placeV
  go_enter Try.func68, Try.ntmps68
  go_wp2_with fail
  refine (tr_agree _ F X g k _ (H.out.alloc _) ho hk).mono ?_
  rintro e w1 ⟨rfl, hb, hm⟩
  have hb : BrG w1 F X g (trAgree B k) := hb
  have hP := (hm.heap (by simp) hnb).trans (heap_alloc_new w _)
  have c0 : w1.cell? ⟨w.heap.size, 0, none⟩ = some (.pointer (some ⟨g, k * 89, none⟩)) := (cell_of_row _ _ _ _ _ _ hP).trans rfl
  have e46 := (hb.cellg (i := k * 89 + 46) (lt89 hk (by decide))).trans (Br.ok.gb okz (k := k) hk 46 rfl)
  have efr := hb.frozen
  have HM := Lib.hid (((Mut.refl F w).alloc _).trans hm)
  have HB1 := Lib.hid hb
  clear hm hb hP
  go_wp2_with fail
  go_end0
  exact ⟨rfl, HB1.out.setp (k := k) (j := 46) hk (by decide) _, HM.out.setCell (.inl HB1.out.F2) _⟩
theorem tr_forwardDesignated (w : World) (F : Nat → Prop) (X g k : Nat) (B : Br) (h : BrG w F X g B) (ho : B.ok) (hk : k < B.np) (hF : ∀ n, F n → n < w.heap.size) : Calls Try.prog 88 #[placeV g k X] w fun e w' => e = .returned (.tuple #[]) ∧ BrG w' F X g ((trFwd B k).setp k 23 (.bool (B.gb k 45))) ∧ Mut F w w' := by
  obtain ⟨hX, hg, hne⟩ := h.lt
  have H := Lib.hid h
  have hnb : ¬ F w.heap.size := fun hh => by have := hF _ hh; omega
  have okz : Br.ok (trFwd B k) := (ho.setB hk 26 true rfl).setI (k := k) hk 7 .i64 0 rfl (by decide)
  have he45 : (trFwd B k).gb k 45 = B.gb k 45 := by unfold trFwd; rw [gb_setp_ne _ _ _ _ _ (by decide), gb_setp_ne _ _ _ _ _ (by decide)]
  have HE := Lib.hid he45
  clear h hF he45
  unfold placeV
  go_enter Try.func88, Try.ntmps88
  go_wp2_with fail
  refine (tr_forward _ F X g k _ (H.out.alloc _) ho hk).mono ?_
  rintro e w1 ⟨rfl, hb, hm⟩
  have hb : BrG w1 F X g (trFwd B k) := hb
  have HP := Lib.hid ((hm.heap (by simp) hnb).trans (heap_alloc_new w _))
  have HM1 := Lib.hid (((Mut.refl F w).alloc _).trans hm)
  have HB1 := Lib.hid hb
  clear hm hb
  go_wp2_with fail
  refine wp_region_tail 9 (by kernel_rfl) (by kernel_rfl) ?_
  intro y hy
  have hyx : Ext w1 y := by
    rw [hy]
    exact (Ext.refl _).drew
  clear hy
  have HY := Lib.hid (HB1.out.ext hyx)
  have HM := Lib.hid (HM1.out.trans (hyx.mut F))
  have e0 : y.cell? ⟨w.heap.size, 0, none⟩ = some (.pointer (some ⟨g, k * 89, none⟩)) := (cell_of_row _ _ _ _ _ _ ((hyx.block _ (heap_lt HP.out)).trans HP.out)).trans rfl
  have e45 := (HY.out.cellg (i := k * 89 + 45) (lt89 hk (by decide))).trans (Br.ok.gb okz (k := k) hk 45 rfl)
  rw [HE.out] at e45
  have e23 := (HY.out.cellg (i := k * 89 + 23) (lt89 hk (by decide))).trans (Br.ok.gb okz (k := k) hk 23 rfl)
  have efr := HY.out.frozen
  clear hyx
  simp only [List.take_succ_cons, List.take_zero, List.drop_succ_cons, List.drop_zero]
  repeat still_step
  refine wpStill_nil ?_
  go_wp2_with fail
  go_end0
  exact ⟨rfl, HY.out.setp (k := k) (j := 23) hk (by decide) _, HM.out.setCell (.inl HY.out.F2) _⟩
set_option maxHeartbeats 1000000 in
theorem tr_askAll (w : World) (F : Nat → Prop) (X g k : Nat) (B : Br) (h : BrG w F X g B) (ho : B.ok) (hk : k < B.np) (hn : B.np < 1000) : Calls Try.prog 62 #[placeV g k X] w fun e w' => e = .returned (.tuple #[]) ∧ BrG w' F X g (trAskAll B k) ∧ Mut (fun n => n = g) w w' := by
  obtain ⟨cap, c17, hc1, hc2⟩ := h.cell17 ho
  obtain ⟨hX, hg, hne⟩ := h.lt
  have hbg : ¬ w.heap.size = g := by omega
  have hbX : ¬ w.heap.size = X := by omega
  have hXg : ¬ X = g := hne
  have hFg := h.F2
  have HMz := Lib.hid ((Mut.refl (fun n => n = g) w).alloc (.cells #[.pointer (some ⟨g, k * 89, none⟩), .pointer (some ⟨X, 0, none⟩), .int .i64 k] 68))
  have HBz := Lib.hid (BrG.alloc h (.cells #[.pointer (some ⟨g, k * 89, none⟩), .pointer (some ⟨X, 0, none⟩), .int .i64 k] 68))
  have HPz := Lib.hid (heap_alloc_new w (.cells #[.pointer (some ⟨g, k * 89, none⟩), .pointer (some ⟨X, 0, none⟩), .int .i64 k] 68))
  have HZ0 := Lib.hid (show w.heap.size < (w.alloc (.cells #[.pointer (some ⟨g, k * 89, none⟩), .pointer (some ⟨X, 0, none⟩), .int .i64 k] 68)).heap.size by simp)
  have okz : Br.ok B := ho
  have HC17 := Lib.hid (show ∀ w', Ext w w' → w'.cell? ⟨X, 17, none⟩ = some (.slice (some ⟨g, 0, none⟩) B.np cap) from fun w' hx => (hx.cell hX).trans c17)
  clear h
  unfold placeV
  go_enter Try.func62, Try.ntmps62
  have hB17 := HC17.out (w.alloc (.cells #[.pointer (some ⟨g, k * 89, none⟩), .pointer (some ⟨X, 0, none⟩), .int .i64 k] 68)) ((Ext.refl w).alloc _)
  go_wp2_with fail
  generalize hwz : w.alloc (.cells #[.pointer (some ⟨g, k * 89, none⟩), .pointer (some ⟨X, 0, none⟩), .int .i64 k] 68) = wz at *
  clear hwz
  obtain ⟨b0, hb00⟩ : ∃ b, w.heap.size = b := ⟨_, rfl⟩
  rw [hb00] at HZ0 HPz hbg hbX ⊢
  clear hb00 hB17 HC17 c17
  have hb0 := HZ0.out
  have c0 : wz.cell? ⟨b0, 0, none⟩ = some (.pointer (some ⟨g, k * 89, none⟩)) := (cell_of_row _ _ _ _ _ _ HPz.out).trans rfl
  have c1 : wz.cell? ⟨b0, 1, none⟩ = some (.pointer (some ⟨X, 0, none⟩)) := (cell_of_row _ _ _ _ _ _ HPz.out).trans rfl
  have c2 : wz.cell? ⟨b0, 2, none⟩ = some (.int .i64 k) := (cell_of_row _ _ _ _ _ _ HPz.out).trans rfl
  have hgz : g < wz.heap.size := HBz.out.lt.2.1
  have hXz : X < wz.heap.size := HBz.out.lt.1
  have HC0 := Lib.hid c0
  have HC1 := Lib.hid c1
  clear c0 c1 c2
  go_loopw [9] (fun v wr => ∃ n : Nat, n ≤ B.np ∧ v = .int .i64 n ∧ BrG wr F X g (B.upd 46 (fun _ => .bool true) n) ∧ Mut (fun n => n = g) wz wr) (fun v _ => B.np - (intOf v).toNat)
  case atStart => exact ⟨0, by omega, rfl, HBz.out, Mut.refl _ _⟩
  case round =>
    obtain ⟨n, hn2, rfl, hB, hm⟩ := hrel
    have c0 := (hm.cell (p := ⟨b0, 0, none⟩) hb0 hbg).trans HC0.out
    have c1 := (hm.cell (p := ⟨b0, 1, none⟩) hb0 hbg).trans HC1.out
    have HB := Lib.hid hB
    have HM := Lib.hid hm
    clear hB hm
    have okn : Br.ok (B.upd 46 (fun _ => .bool true) n) := upd_ok ho (by decide) (fun i c hc => by cases hc; exact ⟨_, rfl⟩) n hn2
    have hnp : Br.np (B.upd 46 (fun _ => .bool true) n) = B.np := upd_np _ _ _ _
    obtain ⟨cap2, c17, hc3, hc4⟩ := HB.out.cell17 okn
    rw [hnp] at c17 hc3
    by_cases hlt : n < B.np
    · have hkn : n < Br.np (B.upd 46 (fun _ => .bool true) n) := by rw [hnp]; exact hlt
      have p46 := (HB.out.cellg (i := n * 89 + 46) (lt89 hkn (by decide))).trans (okn.gb hkn 46 rfl)
      have hfr := HB.out.frozen
      clear hc3 hc4 hc1 hc2
      go_wp2_with fail
      go_roundw
      case rel => exact ⟨n + 1, by omega, by go_num, HB.out.setp (k := n) (j := 46) hkn (by decide) _, HM.out.setCell (.inl rfl) _⟩
      case measure => simp [intOf]; omega
    · obtain rfl : n = B.np := by omega
      have hkn : k < Br.np (B.upd 46 (fun _ => .bool true) B.np) := by rw [hnp]; exact hk
      have p33 := (HB.out.cellg (i := k * 89 + 33) (lt89 hkn (by decide))).trans (okn.gb hkn 33 rfl)
      have hfr := HB.out.frozen
      clear hc3 hc4 hc1 hc2 c17
      go_wp2_with fail
      go_end0
      exact ⟨rfl, HB.out.setp (k := k) (j := 33) hkn (by decide) _, (HMz.out.trans HM.out).setCell (.inl rfl) _⟩

set_option maxHeartbeats 1000000 in
theorem tr_rerootAll (w : World) (F : Nat → Prop) (X g k : Nat) (B : Br) (h : BrG w F X g B) (ho : B.ok) (hk : k < B.np) (hn : B.np < 1000) : Calls Try.prog 70 #[placeV g k X] w fun e w' => e = .returned (.tuple #[]) ∧ BrG w' F X g (trReAll B) ∧ Mut (fun n => n = g) w w' := by
  obtain ⟨cap, c17, hc1, hc2⟩ := h.cell17 ho
  obtain ⟨hX, hg, hne⟩ := h.lt
  have hbg : ¬ w.heap.size = g := by omega
  have hbX : ¬ w.heap.size = X := by omega
  have hXg : ¬ X = g := hne
  have hFg := h.F2
  have HMz := Lib.hid ((Mut.refl (fun n => n = g) w).alloc (.cells #[.pointer (some ⟨g, k * 89, none⟩), .pointer (some ⟨X, 0, none⟩), .int .i64 k] 68))
  have HBz := Lib.hid (BrG.alloc h (.cells #[.pointer (some ⟨g, k * 89, none⟩), .pointer (some ⟨X, 0, none⟩), .int .i64 k] 68))
  have HPz := Lib.hid (heap_alloc_new w (.cells #[.pointer (some ⟨g, k * 89, none⟩), .pointer (some ⟨X, 0, none⟩), .int .i64 k] 68))
  have HZ0 := Lib.hid (show w.heap.size < (w.alloc (.cells #[.pointer (some ⟨g, k * 89, none⟩), .pointer (some ⟨X, 0, none⟩), .int .i64 k] 68)).heap.size by simp)
  have okz : Br.ok B := ho
  have HC17 := Lib.hid (show ∀ w', Ext w w' → w'.cell? ⟨X, 17, none⟩ = some (.slice (some ⟨g, 0, none⟩) B.np cap) from fun w' hx => (hx.cell hX).trans c17)
  clear h
  unfold placeV
  go_enter Try.func70, Try.ntmps70
  have hB17 := HC17.out (w.alloc (.cells #[.pointer (some ⟨g, k * 89, none⟩), .pointer (some ⟨X, 0, none⟩), .int .i64 k] 68)) ((Ext.refl w).alloc _)
  go_wp2_with fail
  generalize hwz : w.alloc (.cells #[.pointer (some ⟨g, k * 89, none⟩), .pointer (some ⟨X, 0, none⟩), .int .i64 k] 68) = wz at *
  clear hwz
  obtain ⟨b0, hb00⟩ : ∃ b, w.heap.size = b := ⟨_, rfl⟩
  rw [hb00] at HZ0 HPz hbg hbX ⊢
  clear hb00 hB17 HC17 c17
  have hb0 := HZ0.out
  have c0 : wz.cell? ⟨b0, 0, none⟩ = some (.pointer (some ⟨g, k * 89, none⟩)) := (cell_of_row _ _ _ _ _ _ HPz.out).trans rfl
  have c1 : wz.cell? ⟨b0, 1, none⟩ = some (.pointer (some ⟨X, 0, none⟩)) := (cell_of_row _ _ _ _ _ _ HPz.out).trans rfl
  have c2 : wz.cell? ⟨b0, 2, none⟩ = some (.int .i64 k) := (cell_of_row _ _ _ _ _ _ HPz.out).trans rfl
  have hgz : g < wz.heap.size := HBz.out.lt.2.1
  have hXz : X < wz.heap.size := HBz.out.lt.1
  have HC0 := Lib.hid c0
  have HC1 := Lib.hid c1
  clear c0 c1 c2
  go_loopw [9] (fun v wr => ∃ n : Nat, n ≤ B.np ∧ v = .int .i64 n ∧ BrG wr F X g (B.upd 42 (fun _ => .bool true) n) ∧ Mut (fun n => n = g) wz wr) (fun v _ => B.np - (intOf v).toNat)
  case atStart => exact ⟨0, by omega, rfl, HBz.out, Mut.refl _ _⟩
  case round =>
    obtain ⟨n, hn2, rfl, hB, hm⟩ := hrel
    have c0 := (hm.cell (p := ⟨b0, 0, none⟩) hb0 hbg).trans HC0.out
    have c1 := (hm.cell (p := ⟨b0, 1, none⟩) hb0 hbg).trans HC1.out
    have HB := Lib.hid hB
    have HM := Lib.hid hm
    clear hB hm
    have okn : Br.ok (B.upd 42 (fun _ => .bool true) n) := upd_ok ho (by decide) (fun i c hc => by cases hc; exact ⟨_, rfl⟩) n hn2
    have hnp : Br.np (B.upd 42 (fun _ => .bool true) n) = B.np := upd_np _ _ _ _
    obtain ⟨cap2, c17, hc3, hc4⟩ := HB.out.cell17 okn
    rw [hnp] at c17 hc3
    by_cases hlt : n < B.np
    · have hkn : n < Br.np (B.upd 42 (fun _ => .bool true) n) := by rw [hnp]; exact hlt
      have p42 := (HB.out.cellg (i := n * 89 + 42) (lt89 hkn (by decide))).trans (okn.gb hkn 42 rfl)
      have hfr := HB.out.frozen
      clear hc3 hc4 hc1 hc2
      go_wp2_with fail
      go_roundw
      case rel => exact ⟨n + 1, by omega, by go_num, HB.out.setp (k := n) (j := 42) hkn (by decide) _, HM.out.setCell (.inl rfl) _⟩
      case measure => simp [intOf]; omega
    · obtain rfl : n = B.np := by omega
      go_wp2_with fail
      go_end0
      exact ⟨rfl, HB.out, HMz.out.trans HM.out⟩

/-- What a row does keeps bridges well-formed. -/
theorem wait_wf {B : Br} (ho : B.ok) (k : Nat) : (Lit.int .i64 (trWait B k)).wf = true := by
  unfold trWait
  split
  · exact ho.hw 4 rfl
  · exact ho.hw 5 rfl
theorem ed_wf {B : Br} (ho : B.ok) (k : Nat) : (Lit.int .i64 (trEd B k)).wf = true := by
  unfold trEd
  split
  · exact ho.hw 3 rfl
  · decide
theorem settle_ok {B : Br} (ho : B.ok) {k : Nat} (hk : k < B.np) {fd : Int} (hf : (Lit.int .i64 fd).wf = true) : (trSettle B k fd).ok :=
  ((((ho.setI hk 7 .i64 fd rfl hf).setI (k := k) hk 12 .i64 0 rfl (by decide)).setB (k := k) hk 47 true rfl).setB (k := k) hk 46 false rfl).setB (k := k) hk 42 false rfl
theorem upd_flag_ok {B : Br} (ho : B.ok) (j : Nat) (hj : j < 89) (hj2 : PL[j]? = some none) (n : Nat) (hn : n ≤ B.np) : (B.upd j (fun _ => .bool true) n).ok := upd_ok ho hj (fun i c hc => by rw [hj2] at hc; cases hc; exact ⟨_, rfl⟩) n hn
theorem upd_np' (B : Br) (j : Nat) (v : Nat → Value) (n : Nat) : (B.upd j v n).np = B.np := upd_np B j v n
theorem trAB_ok {B : Br} (ho : B.ok) {k : Nat} (hk : k < B.np) (h4 : 0 ≤ B.hi 4 ∧ B.hi 4 ≤ 1000) {r : Nat} (hr : r < 24) : (trAB B k r).ok ∧ (trAB B k r).np = B.np := by
  have w88 := ho.gw hk 88 rfl
  have w5 := ho.hw 5 rfl
  have w3 := ho.hw 3 rfl
  have ww := wait_wf ho k
  have we := ed_wf ho k
  have stop : (trStop B k).ok := ((ho.setB hk 28 false rfl).setB (k := k) hk 26 false rfl).setI (k := k) hk 87 .i64 _ rfl w88
  have agree : (trAgree B k).ok := ((ho.setB hk 33 false rfl).setB (k := k) hk 22 true rfl).setB (k := k) hk 31 true rfl
  have learn : (trLearn B k).ok := (ho.setB hk 28 true rfl).setI (k := k) hk 7 .i64 _ rfl ww
  have fwd : (trFwd B k).ok := (ho.setB hk 26 true rfl).setI (k := k) hk 7 .i64 0 rfl (by decide)
  have ask : (trAskAll B k).ok := (upd_flag_ok ho 46 (by decide) rfl B.np (Nat.le_refl _)).setB (k := k) (by rw [upd_np]; exact hk) 33 false rfl
  have re : (trReAll B).ok := upd_flag_ok ho 42 (by decide) rfl B.np (Nat.le_refl _)
  have w24 : (Lit.int .i64 (2 * B.hi 4)).wf = true := by simp [Lit.wf, IntKind.min, IntKind.max, IntKind.signed, IntKind.bits]; omega
  rcases (by omega : r = 0 ∨ r = 1 ∨ r = 2 ∨ r = 3 ∨ r = 4 ∨ r = 5 ∨ r = 6 ∨ r = 7 ∨ r = 8 ∨ r = 9 ∨ r = 10 ∨ r = 11 ∨ r = 12 ∨ r = 13 ∨ r = 14 ∨ r = 15 ∨ r = 16 ∨ r = 17 ∨ r = 18 ∨ r = 19 ∨ r = 20 ∨ r = 21 ∨ r = 22 ∨ r = 23) with rfl | rfl | rfl | rfl | rfl | rfl | rfl | rfl | rfl | rfl | rfl | rfl | rfl | rfl | rfl | rfl | rfl | rfl | rfl | rfl | rfl | rfl | rfl | rfl
  · exact ⟨stop, rfl⟩
  · exact ⟨(ho.setI hk 87 .i64 _ rfl w88).setI (k := k) hk 12 .i64 _ rfl w5, rfl⟩
  · exact ⟨ho.setI hk 87 .i64 _ rfl w88, rfl⟩
  · exact ⟨stop, rfl⟩
  · exact ⟨settle_ok ho hk w3, rfl⟩
  · exact ⟨settle_ok ho hk w3, rfl⟩
  · exact ⟨settle_ok ho hk ww, rfl⟩
  · exact ⟨ask, upd_np _ _ _ _⟩
  · exact ⟨agree, rfl⟩
  · exact ⟨ho.setI hk 10 .i64 _ rfl w24, rfl⟩
  · exact ⟨settle_ok ho hk ww, rfl⟩
  · exact ⟨ask, upd_np _ _ _ _⟩
  · exact ⟨agree.setB (k := k) hk 46 false rfl, rfl⟩
  · exact ⟨re, upd_np _ _ _ _⟩
  · exact ⟨learn, rfl⟩
  · exact ⟨fwd, rfl⟩
  · exact ⟨ho.setB hk 42 false rfl, rfl⟩
  · exact ⟨ho.setI hk 12 .i64 _ rfl w5, rfl⟩
  · exact ⟨((ho.setB hk 34 true rfl).setB (k := k) hk 31 true rfl).setI (k := k) hk 6 .i64 _ rfl we, rfl⟩
  · exact ⟨((ho.setI hk 12 .i64 0 rfl (by decide)).setB (k := k) hk 47 true rfl).setB (k := k) hk 46 false rfl, rfl⟩
  · exact ⟨ho.setB hk 42 false rfl, rfl⟩
  · exact ⟨(((ho.setB hk 28 false rfl).setB (k := k) hk 26 false rfl).setB (k := k) hk 24 false rfl).setI (k := k) hk 7 .i64 _ rfl ww, rfl⟩
  · exact ⟨learn, rfl⟩
  · exact ⟨fwd.setB (k := k) hk 23 _ rfl, rfl⟩
theorem trRow_ok {B : Br} (ho : B.ok) {k : Nat} (hk : k < B.np) (h4 : 0 ≤ B.hi 4 ∧ B.hi 4 ≤ 1000) {r : Nat} (hr : r ≤ 24) : (trRow B k r).2.ok ∧ (trRow B k r).2.np = B.np := by
  unfold trRow
  split
  · exact ⟨ho, rfl⟩
  · have h := trAB_ok ho hk h4 (r := r) (by omega)
    split
    · exact h
    · refine ⟨h.1.setI (k := k) (by rw [h.2]; exact hk) 19 .i64 _ rfl ?_, h.2⟩
      have : r < 24 := by omega
      rcases (by omega : r = 0 ∨ r = 1 ∨ r = 2 ∨ r = 3 ∨ r = 4 ∨ r = 5 ∨ r = 6 ∨ r = 7 ∨ r = 8 ∨ r = 9 ∨ r = 10 ∨ r = 11 ∨ r = 12 ∨ r = 13 ∨ r = 14 ∨ r = 15 ∨ r = 16 ∨ r = 17 ∨ r = 18 ∨ r = 19 ∨ r = 20 ∨ r = 21 ∨ r = 22 ∨ r = 23) with rfl | rfl | rfl | rfl | rfl | rfl | rfl | rfl | rfl | rfl | rfl | rfl | rfl | rfl | rfl | rfl | rfl | rfl | rfl | rfl | rfl | rfl | rfl | rfl <;> decide
theorem trF_ok {B : Br} (ho : B.ok) {k : Nat} (hk : k < B.np) (h4 : 0 ≤ B.hi 4 ∧ B.hi 4 ≤ 1000) : (trF B k).2.ok := by
  unfold trF
  split
  · exact (trRow_ok ho hk h4 trR_le).1
  · exact ho
theorem trF_np {B : Br} (ho : B.ok) {k : Nat} (hk : k < B.np) (h4 : 0 ≤ B.hi 4 ∧ B.hi 4 ≤ 1000) : (trF B k).2.np = B.np := by
  unfold trF
  split
  · exact (trRow_ok ho hk h4 trR_le).2
  · rfl
theorem trAB_hd (B : Br) (k r : Nat) : (trAB B k r).hd = B.hd := by
  unfold trAB
  split <;> first | rfl | exact upd_hd _ _ _ _
theorem trF_hd (B : Br) (k : Nat) : (trF B k).2.hd = B.hd := by
  unfold trF
  split
  · unfold trRow
    split
    · rfl
    · split
      · exact trAB_hd B k _
      · exact trAB_hd B k _
  · rfl
theorem trF_hi (B : Br) (k j : Nat) : (trF B k).2.hi j = B.hi j := by unfold Br.hi; rw [trF_hd]

set_option maxRecDepth 100000 in
set_option maxHeartbeats 1000000 in
/-- Who isn't selected, or has something to update, waits. -/
theorem tr_idle (w : World) (F : Nat → Prop) (X g k : Nat) (B : Br) (h : BrG w F X g B) (ho : B.ok) (hk : k < B.np) (hk2 : k < 1000) (hi : ¬ (B.gb k 44 = true ∧ B.gb k 50 = false)) :
    Calls Try.prog 33 #[.pointer (some ⟨X, 0, none⟩), .int .i64 k] w (Stepped w F X g (false, B)) := by
  obtain ⟨hX, hg, hne⟩ := h.lt
  obtain ⟨cap, c17, hc1, hc2⟩ := h.cell17 ho
  have p44 := (h.cellg (i := k * 89 + 44) (lt89 hk (by decide))).trans (ho.gb hk 44 rfl)
  have p50 := (h.cellg (i := k * 89 + 50) (lt89 hk (by decide))).trans (ho.gb hk 50 rfl)
  have H := Lib.hid h
  clear h
  have hpl := fun W' : World => place_build (.pointer (some ⟨g, k * 89, none⟩)) (.pointer (some ⟨X, 0, none⟩)) k W' ⟨_, rfl⟩ ⟨_, rfl⟩
  cases h44 : B.gb k 44
  · rw [h44] at p44
    clear hi h44
    go_enter Try.func33, Try.ntmps33
    go_wp2_with fail
    refine scopeJ 0 (fun _ _ => False) (fun _ _ => 0) rfl (fun _ _ h => h.elim) (fun _ => ?_)
    go_wp2_with fail
    try rw [Exit.noGoto_ret]
    go_ret
    exact ⟨rfl, H.out.alloc _, (Mut.refl F w).alloc _⟩
  · cases h50 : B.gb k 50
    · exact absurd ⟨h44, h50⟩ hi
    · rw [h44] at p44
      rw [h50] at p50
      clear hi h44 h50
      go_enter Try.func33, Try.ntmps33
      go_wp2_with fail
      refine scopeJ 0 (fun _ _ => False) (fun _ _ => 0) rfl (fun _ _ h => h.elim) (fun _ => ?_)
      go_wp2_with fail
      try rw [Exit.noGoto_ret]
      go_ret
      exact ⟨rfl, H.out.alloc _, (Mut.refl F w).alloc _⟩

/-- The program's step. -/
theorem trans_step (w : World) (F : Nat → Prop) (X g k : Nat) (B : Br) (h : BrG w F X g B) (ho : B.ok) (hk : k < B.np) (hn : B.np < 1000) (hF : ∀ n, F n → n < w.heap.size) (h4 : 0 ≤ B.hi 4 ∧ B.hi 4 ≤ 1000) :
    Calls Try.prog 33 #[.pointer (some ⟨X, 0, none⟩), .int .i64 k] w (Stepped w F X g (trF B k)) := by
  by_cases hg : B.gb k 44 = true ∧ B.gb k 50 = false
  · rw [show trF B k = trRow B k (trR B k) from if_pos hg]
    refine tr_run w F X g k B h ho hk (by omega) hF (trHB B k) (trAB B k) (fun j hj => trAB_ok ho hk h4 hj) ?_ ?_ (trR B k) trR_le trR_no trR_yes _ rfl hg.1 hg.2
    · intro j hj w1 hx
      have hb := h.ext hx
      rcases (by omega : j = 0 ∨ j = 1 ∨ j = 2 ∨ j = 3 ∨ j = 4 ∨ j = 5 ∨ j = 6 ∨ j = 7 ∨ j = 8 ∨ j = 9 ∨ j = 10 ∨ j = 11 ∨ j = 12 ∨ j = 13 ∨ j = 14 ∨ j = 15 ∨ j = 16 ∨ j = 17 ∨ j = 18 ∨ j = 19 ∨ j = 20 ∨ j = 21 ∨ j = 22 ∨ j = 23) with rfl | rfl | rfl | rfl | rfl | rfl | rfl | rfl | rfl | rfl | rfl | rfl | rfl | rfl | rfl | rfl | rfl | rfl | rfl | rfl | rfl | rfl | rfl | rfl
      · exact tr_toDisabled w1 F X g k B hb ho hk
      · exact tr_toRoot w1 F X g k B hb ho hk
      · exact tr_toDesignated w1 F X g k B hb ho hk
      · exact tr_toBlocked w1 F X g k B hb ho hk
      · exact tr_still w1 F X g k B hb ho hk
      · exact tr_undisabled w1 F X g k B hb ho hk
      · exact tr_still w1 F X g k B hb ho hk
      · exact tr_asked w1 F X g k B hb ho hk
      · exact tr_agrees w1 F X g k B hb ho hk
      · exact tr_backsUp w1 F X g k B hb ho hk h4
      · exact tr_unblocked w1 F X g k B hb ho hk
      · exact tr_asked w1 F X g k B hb ho hk
      · exact tr_agrees w1 F X g k B hb ho hk
      · exact tr_rerootsAll w1 F X g k B hb ho hk
      · exact tr_rootLearns w1 F X g k B hb ho hk
      · exact tr_rootForwards w1 F X g k B hb ho hk
      · exact tr_isRerooted w1 F X g k B hb ho hk
      · exact tr_rootForgotten w1 F X g k B hb ho hk
      · exact tr_proposes w1 F X g k B hb ho hk
      · exact tr_syncs w1 F X g k B hb ho hk
      · exact tr_waited w1 F X g k B hb ho hk
      · exact tr_retires w1 F X g k B hb ho hk
      · exact tr_designatedLearns w1 F X g k B hb ho hk
      · exact tr_designatedForwards w1 F X g k B hb ho hk
    · intro j hj ht w1 hx
      have hb := h.ext hx
      have hF1 : ∀ n, F n → n < w1.heap.size := fun n hn => Nat.lt_of_lt_of_le (hF n hn) hx.size
      rcases (by omega : j = 0 ∨ j = 1 ∨ j = 2 ∨ j = 3 ∨ j = 4 ∨ j = 5 ∨ j = 6 ∨ j = 7 ∨ j = 8 ∨ j = 9 ∨ j = 10 ∨ j = 11 ∨ j = 12 ∨ j = 13 ∨ j = 14 ∨ j = 15 ∨ j = 16 ∨ j = 17 ∨ j = 18 ∨ j = 19 ∨ j = 20 ∨ j = 21 ∨ j = 22 ∨ j = 23) with rfl | rfl | rfl | rfl | rfl | rfl | rfl | rfl | rfl | rfl | rfl | rfl | rfl | rfl | rfl | rfl | rfl | rfl | rfl | rfl | rfl | rfl | rfl | rfl
      · exact tr_stop w1 F X g k B hb ho hk hF1
      · exact tr_takeRoot w1 F X g k B hb ho hk hF1 (ho.gw hk 88 rfl)
      · exact tr_take w1 F X g k B hb ho hk
      · exact tr_stop w1 F X g k B hb ho hk hF1
      · exact (tr_disable w1 F X g k B hb ho hk).mono fun e w2 ⟨he, hB, hm⟩ => ⟨he, hB, hm.toF h.F2⟩
      · exact (tr_disable w1 F X g k B hb ho hk).mono fun e w2 ⟨he, hB, hm⟩ => ⟨he, hB, hm.toF h.F2⟩
      · exact (tr_block w1 F X g k B hb ho hk).mono fun e w2 ⟨he, hB, hm⟩ => ⟨he, hB, hm.toF h.F2⟩
      · exact (tr_askAll w1 F X g k B hb ho hk hn).mono fun e w2 ⟨he, hB, hm⟩ => ⟨he, hB, hm.toF h.F2⟩
      · exact tr_agree w1 F X g k B hb ho hk
      · exact (tr_backUp w1 F X g k B hb ho hk h4).mono fun e w2 ⟨he, hB, hm⟩ => ⟨he, hB, hm.toF h.F2⟩
      · exact (tr_block w1 F X g k B hb ho hk).mono fun e w2 ⟨he, hB, hm⟩ => ⟨he, hB, hm.toF h.F2⟩
      · exact (tr_askAll w1 F X g k B hb ho hk hn).mono fun e w2 ⟨he, hB, hm⟩ => ⟨he, hB, hm.toF h.F2⟩
      · exact tr_agreeAsRoot w1 F X g k B hb ho hk hF1
      · exact (tr_rerootAll w1 F X g k B hb ho hk hn).mono fun e w2 ⟨he, hB, hm⟩ => ⟨he, hB, hm.toF h.F2⟩
      · exact (tr_learn w1 F X g k B hb ho hk).mono fun e w2 ⟨he, hB, hm⟩ => ⟨he, hB, hm.toF h.F2⟩
      · exact tr_forward w1 F X g k B hb ho hk
      · exact tr_rerooted w1 F X g k B hb ho hk
      · exact tr_rememberRoot w1 F X g k B hb ho hk
      · exact (tr_propose w1 F X g k B hb ho hk).mono fun e w2 ⟨he, hB, hm⟩ => ⟨he, hB, hm.toF h.F2⟩
      · exact (tr_sync w1 F X g k B hb ho hk).mono fun e w2 ⟨he, hB, hm⟩ => ⟨he, hB, hm.toF h.F2⟩
      · exact tr_rerooted w1 F X g k B hb ho hk
      · exact (tr_retire w1 F X g k B hb ho hk).mono fun e w2 ⟨he, hB, hm⟩ => ⟨he, hB, hm.toF h.F2⟩
      · exact (tr_learn w1 F X g k B hb ho hk).mono fun e w2 ⟨he, hB, hm⟩ => ⟨he, hB, hm.toF h.F2⟩
      · exact tr_forwardDesignated w1 F X g k B hb ho hk hF1
  · rw [show trF B k = (false, B) from if_neg hg]
    exact tr_idle w F X g k B h ho hk (by omega) hg

end Go.Proofs.Ytnblchilgaimhaa
