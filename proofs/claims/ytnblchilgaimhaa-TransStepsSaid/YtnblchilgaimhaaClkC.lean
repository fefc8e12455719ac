/- The clock's contracts on bridges by value. No statement is proved here. -/
import Derived.Test.YtnblchilgaimhaaClkB
namespace Go.Proofs.Ytnblchilgaimhaa
open Go.RowKit Go.BigFrame Go.WideShapes Go.ChangeShapes Go.Deep
set_option linter.unusedVariables false
set_option linter.unusedSimpArgs false

theorem four_range {w : World} {b o : Nat} {p : List Value} (h : w.rangeAt b o p) (n : Nat) {x0 x1 x2 x3 : Value} (he : (p.drop n).take 4 = [x0, x1, x2, x3]) : w.rangeAt b (o + n) [x0, x1, x2, x3] := he ▸ rangeAt_sub h n 4

set_option maxRecDepth 100000 in
set_option maxHeartbeats 2000000 in
theorem cright_any (c : Array Value) (B : Br) (w : World) (hb : BrC w c B) (ho : B.ok) : Calls Try.prog 16 #[.agg c] w (Tells w (RightP B)) := by
  obtain ⟨s1, s2, s3, hz, hhd, c17, c18, c19, r1, -, -⟩ := hb.facts ho.hd.1
  obtain ⟨a1, k1, rfl, m1, hrow⟩ := r1.form
  have HR := Lib.hid hrow
  have h2 := (hhd 2 (by decide)).trans (ho.hi 2 rfl)
  have h3 := (hhd 3 (by decide)).trans (ho.hi 3 rfl)
  have h4 := (hhd 4 (by decide)).trans (ho.hi 4 rfl)
  have h5 := (hhd 5 (by decide)).trans (ho.hi 5 rfl)
  have h6 := (hhd 6 (by decide)).trans (ho.hi 6 rfl)
  have h12 := (hhd 12 (by decide)).trans (ho.hi 12 rfl)
  have h13 := (hhd 13 (by decide)).trans (ho.hi 13 rfl)
  have h14 := (hhd 14 (by decide)).trans (ho.hi 14 rfl)
  have h15 := (hhd 15 (by decide)).trans (ho.hi 15 rfl)
  have h16 := (hhd 16 (by decide)).trans (ho.hi 16 rfl)
  clear hz hhd hb r1 hrow c18 c19
  go_enter Try.func16, Try.ntmps16
  by_cases hn : 32 < B.np
  · go_wp2_with fail
    go_ret
    exact ⟨false, rfl, (Ext.refl w).alloc _, ⟨(fun h => by cases h), (fun h => by have := h.1.2.2.2.2.2.1; omega)⟩⟩
  have hn' : ¬ (32 < B.np) := hn
  have hn2 : B.np ≤ 32 := by omega
  clear hn
  go_wp2_with fail
  refine (tmright_any _ _ _ _ _).mono ?_
  rintro e w1 ⟨rfl, hx1⟩
  have hbx1 := box_cell hx1
  have HX1 := Lib.hid hx1
  clear hx1
  obtain ⟨f1, hf1⟩ : ∃ f, rightB (B.hi 2) (B.hi 3) (B.hi 4) (B.hi 5) = f := ⟨_, rfl⟩
  rw [hf1]
  have HF1 := Lib.hid (show f1 = true ↔ TR (B.hi 2) (B.hi 3) (B.hi 4) (B.hi 5) from by rw [← hf1]; exact rightB_iff _ _ _ _)
  clear hf1
  have no : ∀ w' : World, Ext (w.alloc (.cells c 33)) w' → ¬ RightP B → Tells w (RightP B) (.returned (.bool false)) w' := fun w' hx hne => ⟨false, rfl, ((Ext.refl w).alloc _).trans hx, ⟨(fun h => by cases h), (fun h => absurd h hne)⟩⟩
  have NO := Lib.hid no
  clear no
  cases f1
  · go_wp2_with fail
    go_ret
    exact NO.out _ HX1.out (fun h => absurd (HF1.out.2 h.1.1) (by simp))
  by_cases h20 : B.hi 2 = 0
  case neg =>
    have h20b : (B.hi 2 != 0) = true := by simpa using h20
    go_wp2_with fail
    all_goals
      go_ret
      exact NO.out _ HX1.out (fun h => h20 h.1.2.2.1)
  have hT := HF1.out.1 (by simp)
  unfold TR at hT
  rw [h20] at h2
  have H20 := Lib.hid h20
  clear h20
  have HT := Lib.hid hT
  clear hT
  by_cases h6b : 1 ≤ B.hi 6 ∧ B.hi 6 ≤ 10
  case neg =>
    go_wp2_with (go_at_call 36; refine (asb (cwithin_any _ _ _ _) (y := false) (by simp; omega)).mono ?_; rintro e w' ⟨rfl, rfl⟩)
    all_goals
      go_ret
      exact NO.out _ HX1.out (fun h => h6b ⟨h.1.2.2.2.1, h.1.2.2.2.2.1⟩)
  by_cases h12b : -1 ≤ B.hi 12 ∧ B.hi 12 ≤ (B.np : Int) - 1
  case neg =>
    go_wp2_with fail
    refine (asb (cwithin_any _ _ _ _) (y := true) (by simp; omega)).mono ?_
    rintro e w' ⟨rfl, rfl⟩
    go_wp2_with fail
    refine (asb (cwithin_any _ _ _ _) (y := false) (by simp; omega)).mono ?_
    rintro e w' ⟨rfl, rfl⟩
    go_wp2_with fail
    all_goals
      go_ret
      exact NO.out _ HX1.out (fun h => h12b ⟨h.1.2.2.2.2.2.2.1, by have := h.1.2.2.2.2.2.2.2; omega⟩)
  go_wp2_with fail
  refine (asb (cwithin_any _ _ _ _) (y := true) (by simp; omega)).mono ?_
  rintro e w' ⟨rfl, rfl⟩
  go_wp2_with fail
  refine (asb (cwithin_any _ _ _ _) (y := true) (by simp; omega)).mono ?_
  rintro e w' ⟨rfl, rfl⟩
  go_wp2_with fail
  refine (told_any _ _ _ _ _).mono ?_
  rintro e w2 ⟨f2, rfl, hx2, hf2⟩
  have HX2 := Lib.hid (HX1.out.trans hx2)
  have HF2 := Lib.hid hf2
  have hbx2 := box_cell HX2.out
  clear hx2 hf2 HX1 hbx1
  cases f2
  · go_wp2_with fail
    go_ret
    exact NO.out _ HX2.out (fun h => absurd (HF2.out.2 h.1.2.1) (by simp))
  have HH := Lib.hid (show HdR B from ⟨HF1.out.1 (by simp), HF2.out.1 (by simp), H20.out, h6b.1, h6b.2, hn2, h12b.1, by omega⟩)
  clear HF1 HF2 h2 h3 h4 h5 h6 h12 h13 h14 h15 h16 HT H20 h6b h12b
  go_wp2_with fail
  go_loopw [43] (fun i wr => ∃ j : Nat, j ≤ B.np ∧ i = .int .i64 j ∧ Ext (w.alloc (.cells c 33)) wr ∧ Hid (∀ k, k < j → PortR B k)) (fun i _ => B.np - (intOf i).toNat)
  case atStart => exact ⟨0, by omega, rfl, HX2.out, Lib.hid (fun k hk => by omega)⟩
  case round =>
    clear HX2 hbx2
    obtain ⟨j, hj, rfl, hxr, hall⟩ := hrel
    have hbx := box_cell hxr
    by_cases hlt : j < B.np
    · obtain ⟨b, off, rfl, hb, hlc, hcm, hc⟩ := HR.out (by omega)
      have hrw := rangeAt_ext (rangeAt_ext hc ((Ext.refl w).alloc (.cells c 33)) hb) hxr (by simp; omega)
      have hpr := port_range hrw j
      have hcl := Lib.hid (show ∀ n, n < 9 → wr.cell? ⟨b, off + j * 89 + 6 + n, none⟩ = some (.int .i64 (B.gi j (6 + n))) from fun n hn' => by
        rw [show off + j * 89 + 6 + n = off + j * 89 + (6 + n) by omega]
        refine hpr (6 + n) _ ((port_at (B := B) (k := j) (j := 6 + n) (by omega)).trans (ho.gi hlt (6 + n) ?_))
        rcases (by omega : n = 0 ∨ n = 1 ∨ n = 2 ∨ n = 3 ∨ n = 4 ∨ n = 5 ∨ n = 6 ∨ n = 7 ∨ n = 8) with rfl | rfl | rfl | rfl | rfl | rfl | rfl | rfl | rfl <;> rfl)
      have r78 := Lib.hid (four_range hpr 78 (list4 ((port_at (B := B) (k := j) (j := 78) (by decide)).trans (ho.gi hlt 78 rfl)) ((port_at (B := B) (k := j) (j := 79) (by decide)).trans (ho.gi hlt 79 rfl)) ((port_at (B := B) (k := j) (j := 80) (by decide)).trans (ho.gi hlt 80 rfl)) ((port_at (B := B) (k := j) (j := 81) (by decide)).trans (ho.gi hlt 81 rfl))))
      have r82 := Lib.hid (four_range hpr 82 (list4 ((port_at (B := B) (k := j) (j := 82) (by decide)).trans (ho.gi hlt 82 rfl)) ((port_at (B := B) (k := j) (j := 83) (by decide)).trans (ho.gi hlt 83 rfl)) ((port_at (B := B) (k := j) (j := 84) (by decide)).trans (ho.gi hlt 84 rfl)) ((port_at (B := B) (k := j) (j := 85) (by decide)).trans (ho.gi hlt 85 rfl))))
      have r64 := Lib.hid (four_range hpr 64 (list4 ((port_at (B := B) (k := j) (j := 64) (by decide)).trans (ho.gi hlt 64 rfl)) ((port_at (B := B) (k := j) (j := 65) (by decide)).trans (ho.gi hlt 65 rfl)) ((port_at (B := B) (k := j) (j := 66) (by decide)).trans (ho.gi hlt 66 rfl)) ((port_at (B := B) (k := j) (j := 67) (by decide)).trans (ho.gi hlt 67 rfl))))
      have HXR := Lib.hid hxr
      have hbr := Lib.hid (show b < wr.heap.size from Nat.lt_of_lt_of_le (by simp; omega) hxr.size)
      clear hrw hpr hxr hc
      go_wp2_with fail
      refine (rport_any b (off + j * 89) (fun n => B.gi j (6 + n)) _ _ _ _ _ _ _ _ _ _ _ _ wr hbr.out hcl.out r78.out r82.out r64.out).mono ?_
      rintro e w3 ⟨f3, rfl, hx3, hf3⟩
      have HX3 := Lib.hid (HXR.out.trans hx3)
      have HF3 := Lib.hid hf3
      clear hx3 hf3
      cases f3
      · go_wp2_with fail
        go_ret
        exact NO.out _ HX3.out (fun h => absurd (HF3.out.2 ⟨(h.2 j hlt).1, (h.2 j hlt).2.1, (h.2 j hlt).2.2.1, (h.2 j hlt).2.2.2⟩) (by simp))
      · go_wp2_with fail
        go_roundw
        case rel =>
          refine ⟨j + 1, by omega, by go_num, HX3.out, Lib.hid (fun n hn' => ?_)⟩
          by_cases e : n = j
          · subst e
            exact HF3.out.1 trivial
          · exact hall.out n (by omega)
        case measure => simp [intOf]; omega
    · go_wp2_with fail
      go_ret
      exact ⟨true, rfl, ((Ext.refl w).alloc _).trans hxr, ⟨fun _ => ⟨HH.out, fun k hk => hall.out k (by omega)⟩, fun _ => rfl⟩⟩

def syncP (B : Br) (k : Nat) : Bool := syncB (B.gb k 44) (B.gi k 87) (B.gi k 88) (B.gb k 47)
def AllSyn (B : Br) : Prop := ∀ k, k < B.np → syncP B k = true
def ReR (B : Br) (i : Int) : Prop := ∀ k : Nat, k < B.np → (k : Int) ≠ i → B.gi k 12 = 0

set_option maxRecDepth 100000 in
set_option maxHeartbeats 1000000 in
theorem allsynced_any (c : Array Value) (B : Br) (w : World) (hb : BrC w c B) (ho : B.ok) : Calls Try.prog 28 #[.agg c] w (Tells w (AllSyn B)) := by
  obtain ⟨s1, s2, s3, hz, hhd, c17, c18, c19, r1, -, -⟩ := hb.facts ho.hd.1
  obtain ⟨a1, k1, rfl, m1, hrow⟩ := r1.form
  have HR := Lib.hid hrow
  clear hz hhd hb r1 hrow c18 c19
  go_enter Try.func28, Try.ntmps28
  go_wp2_with fail
  go_loopw [7] (fun i wr => ∃ j : Nat, j ≤ B.np ∧ i = .int .i64 j ∧ Ext (w.alloc (.cells c 33)) wr ∧ Hid (∀ k, k < j → syncP B k = true)) (fun i _ => B.np - (intOf i).toNat)
  case atStart => exact ⟨0, by omega, rfl, Ext.refl _, Lib.hid (fun k hk => by omega)⟩
  case round =>
    obtain ⟨j, hj, rfl, hxr, hall⟩ := hrel
    have hbx := box_cell hxr
    by_cases hlt : j < B.np
    · obtain ⟨b, off, rfl, hb, hlc, hcm, hc⟩ := HR.out (by omega)
      have hrw := rangeAt_ext (rangeAt_ext hc ((Ext.refl w).alloc (.cells c 33)) hb) hxr (by simp; omega)
      have p44 := (port_range hrw j 44 _ ((port_at (B := B) (k := j) (j := 44) (by decide)).trans (ho.gb hlt 44 rfl)))
      have p87 := (port_range hrw j 87 _ ((port_at (B := B) (k := j) (j := 87) (by decide)).trans (ho.gi hlt 87 rfl)))
      have p88 := (port_range hrw j 88 _ ((port_at (B := B) (k := j) (j := 88) (by decide)).trans (ho.gi hlt 88 rfl)))
      have p47 := (port_range hrw j 47 _ ((port_at (B := B) (k := j) (j := 47) (by decide)).trans (ho.gb hlt 47 rfl)))
      have HS := Lib.hid (synced_any b (off + j * 89) _ _ _ _ wr p44 p87 p88 p47)
      have HXR := Lib.hid hxr
      clear hrw hxr hc p44 p87 p88 p47
      go_wp2_with fail
      refine HS.out.mono ?_
      rintro e w3 ⟨rfl, hx3⟩
      have HX3 := Lib.hid (HXR.out.trans hx3)
      clear hx3 HS HXR
      obtain ⟨f, hf⟩ : ∃ f, syncB (B.gb j 44) (B.gi j 87) (B.gi j 88) (B.gb j 47) = f := ⟨_, rfl⟩
      rw [hf]
      have HF := Lib.hid hf
      clear hf
      cases f
      · go_wp2_with fail
        go_ret
        exact ⟨false, rfl, ((Ext.refl w).alloc _).trans HX3.out, ⟨(fun h => by cases h), (fun h => absurd ((h j hlt).symm.trans HF.out) (by simp))⟩⟩
      · go_wp2_with fail
        go_roundw
        case rel =>
          refine ⟨j + 1, by omega, by go_num, HX3.out, Lib.hid (fun n hn' => ?_)⟩
          by_cases e : n = j
          · subst e
            exact HF.out
          · exact hall.out n (by omega)
        case measure => simp [intOf]; omega
    · go_wp2_with fail
      go_ret
      exact ⟨true, rfl, ((Ext.refl w).alloc _).trans hxr, ⟨fun _ => fun k hk => hall.out k (by omega), fun _ => rfl⟩⟩

set_option maxRecDepth 100000 in
set_option maxHeartbeats 1000000 in
theorem rerooted_any (c : Array Value) (B : Br) (i : Int) (w : World) (hb : BrC w c B) (ho : B.ok) : Calls Try.prog 30 #[.agg c, .int .i64 i] w (Tells w (ReR B i)) := by
  obtain ⟨s1, s2, s3, hz, hhd, c17, c18, c19, r1, -, -⟩ := hb.facts ho.hd.1
  obtain ⟨a1, k1, rfl, m1, hrow⟩ := r1.form
  have HR := Lib.hid hrow
  clear hz hhd hb r1 hrow c18 c19
  go_enter Try.func30, Try.ntmps30
  go_wp2_with fail
  go_loopw [9] (fun v wr => ∃ j : Nat, j ≤ B.np ∧ v = .int .i64 j ∧ Ext (w.alloc (.cells c 33)) wr ∧ Hid (∀ k : Nat, k < j → (k : Int) ≠ i → B.gi k 12 = 0)) (fun v _ => B.np - (intOf v).toNat)
  case atStart => exact ⟨0, by omega, rfl, Ext.refl _, Lib.hid (fun k hk => by omega)⟩
  case round =>
    obtain ⟨j, hj, rfl, hxr, hall⟩ := hrel
    have hbx := box_cell hxr
    by_cases hlt : j < B.np
    · obtain ⟨b, off, rfl, hb, hlc, hcm, hc⟩ := HR.out (by omega)
      have hrw := rangeAt_ext (rangeAt_ext hc ((Ext.refl w).alloc (.cells c 33)) hb) hxr (by simp; omega)
      have p12 := (port_range hrw j 12 _ ((port_at (B := B) (k := j) (j := 12) (by decide)).trans (ho.gi hlt 12 rfl)))
      have HXR := Lib.hid hxr
      clear hrw hxr hc
      have step : Hid ((j : Int) ≠ i → B.gi j 12 = 0) → Hid (∀ k : Nat, k < j + 1 → (k : Int) ≠ i → B.gi k 12 = 0) := fun h => Lib.hid (fun k hk hne => by
        by_cases e : k = j
        · subst e; exact h.out hne
        · exact hall.out k (by omega) hne)
      have STEP := Lib.hid step
      clear step
      by_cases hji : (j : Int) = i
      · have hb1 : ((j : Int) != i) = false := by simpa using hji
        have HJ := Lib.hid hji
        clear hji
        go_wp2_with fail
        go_roundw
        case rel => exact ⟨j + 1, by omega, by go_num, HXR.out, STEP.out (Lib.hid (fun h => absurd HJ.out h))⟩
        case measure => simp [intOf]; omega
      · have hb1 : ((j : Int) != i) = true := by simpa using hji
        have HJ := Lib.hid hji
        clear hji
        by_cases h12 : B.gi j 12 = 0
        · rw [h12] at p12
          have H12 := Lib.hid h12
          clear h12
          go_wp2_with fail
          go_roundw
          case rel => exact ⟨j + 1, by omega, by go_num, HXR.out, STEP.out (Lib.hid (fun h => H12.out))⟩
          case measure => simp [intOf]; omega
        · have hb2 : (B.gi j 12 != 0) = true := by simpa using h12
          have H12 := Lib.hid h12
          clear h12
          go_wp2_with fail
          go_ret
          exact ⟨false, rfl, ((Ext.refl w).alloc _).trans HXR.out, ⟨(fun h => by cases h), (fun h => absurd (h j hlt HJ.out) H12.out)⟩⟩
    · go_wp2_with fail
      go_ret
      exact ⟨true, rfl, ((Ext.refl w).alloc _).trans hxr, ⟨fun _ => fun k hk hne => hall.out k (by omega) hne, fun _ => rfl⟩⟩

end Go.Proofs.Ytnblchilgaimhaa
