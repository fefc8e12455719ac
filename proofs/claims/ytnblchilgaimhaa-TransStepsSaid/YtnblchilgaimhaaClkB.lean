/- The clock's contracts: a port, a bridge that may be; what hangs on all ports. No statement is proved here. -/
import Derived.Test.YtnblchilgaimhaaClkA
namespace Go.Proofs.Ytnblchilgaimhaa
open Go.RowKit Go.BigFrame Go.WideShapes Go.ChangeShapes Go.Deep
set_option linter.unusedVariables false
set_option linter.unusedSimpArgs false

theorem list4 {l : List Value} {n : Nat} {a b c d : Value} (h0 : l[n]? = some a) (h1 : l[n + 1]? = some b) (h2 : l[n + 2]? = some c) (h3 : l[n + 3]? = some d) : (l.drop n).take 4 = [a, b, c, d] := by
  apply List.ext_getElem?
  intro j
  rw [List.getElem?_take]
  by_cases hj : j < 4
  · rw [if_pos hj, List.getElem?_drop]
    rcases (by omega : j = 0 ∨ j = 1 ∨ j = 2 ∨ j = 3) with rfl | rfl | rfl | rfl
    · simpa using h0
    · simpa using h1
    · simpa using h2
    · simpa using h3
  · rw [if_neg hj, List.getElem?_eq_none (by simp; omega)]
theorem rangeAt_sub {w : World} {b o : Nat} {xs : List Value} (h : w.rangeAt b o xs) (n m : Nat) : w.rangeAt b (o + n) ((xs.drop n).take m) := fun j v hv => by
  rw [List.getElem?_take] at hv
  split at hv
  · rw [List.getElem?_drop] at hv
    have := h _ _ hv
    rwa [← Nat.add_assoc] at this
  · cases hv
theorem size_times : (Try.prog.info? 24).map (·.size) = some 4 := by kernel_rfl

set_option maxRecDepth 100000 in
set_option maxHeartbeats 1000000 in
theorem rport_any (g o : Nat) (cl : Nat → Int) (t0 t1 t2 t3 d0 d1 d2 d3 m0 m1 m2 m3 : Int) (w : World) (hg : g < w.heap.size) (hc : ∀ n, n < 9 → w.cell? ⟨g, o + 6 + n, none⟩ = some (.int .i64 (cl n)))
    (r78 : w.rangeAt g (o + 78) [.int .i64 t0, .int .i64 t1, .int .i64 t2, .int .i64 t3]) (r82 : w.rangeAt g (o + 82) [.int .i64 d0, .int .i64 d1, .int .i64 d2, .int .i64 d3]) (r64 : w.rangeAt g (o + 64) [.int .i64 m0, .int .i64 m1, .int .i64 m2, .int .i64 m3]) :
    Calls Try.prog 38 #[.pointer (some ⟨g, o, none⟩)] w (Tells w ((∀ n, n < 9 → 0 ≤ cl n ∧ cl n ≤ 1000) ∧ TF t0 t1 t2 t3 ∧ TF d0 d1 d2 d3 ∧ TF m0 m1 m2 m3)) := by
  have HC := Lib.hid hc
  have R78 := Lib.hid r78
  have R82 := Lib.hid r82
  have R64 := Lib.hid r64
  clear hc r78 r82 r64
  go_enter Try.func38, Try.ntmps38
  go_wp2_with fail
  refine (all_any g (o + 6) w).mono ?_
  rintro e w1 ⟨rfl, hx1⟩
  have HX1 := Lib.hid hx1
  clear hx1
  go_wp2_with fail
  go_loop [9] (fun i => ∃ k : Nat, k ≤ 9 ∧ i = .int .i64 k ∧ Hid (∀ n, n < k → 0 ≤ cl n ∧ cl n ≤ 1000)) (fun i => 9 - (intOf i).toNat)
  case atStart => exact ⟨0, by omega, rfl, Lib.hid (fun n hn => by omega)⟩
  case round =>
    obtain ⟨k, hk, rfl, hn⟩ := hrel
    by_cases hlt : k < 9
    · have hix := ptrs_ix g (o + 6) k hlt
      have hcell := (HX1.out.cell (p := ⟨g, o + 6 + k, none⟩) hg).trans (HC.out k hlt)
      obtain ⟨z, hz⟩ : ∃ z, cl k = z := ⟨_, rfl⟩
      rw [hz] at hcell
      have HZ := Lib.hid hz
      clear hz
      by_cases hb : 0 ≤ z ∧ z ≤ 1000
      · go_wp2_with (go_at_call 36; refine (asb (cwithin_any _ _ _ _) (y := true) (by simp; omega)).mono ?_; rintro e w' ⟨rfl, rfl⟩)
        go_round
        case rel =>
          refine ⟨k + 1, by omega, by go_num, Lib.hid (fun n hn' => ?_)⟩
          by_cases e : n = k
          · subst e; rw [HZ.out]; exact hb
          · exact hn.out n (by omega)
        case measure => simp [intOf]; omega
      · go_wp2_with (go_at_call 36; refine (asb (cwithin_any _ _ _ _) (y := false) (by simp; omega)).mono ?_; rintro e w' ⟨rfl, rfl⟩)
        go_ret
        refine ⟨false, rfl, HX1.out, ⟨(fun h => by cases h), (fun h => ?_)⟩⟩
        exfalso
        apply hb
        rw [← HZ.out]
        exact h.1 k hlt
    · have hall := Lib.hid (show ∀ n, n < 9 → 0 ≤ cl n ∧ cl n ≤ 1000 from fun n hn' => hn.out n (by omega))
      clear hn
      go_wp2_with (first | fail | ((with_reducible refine at_load 24 ?_); refine wpList_load_mid rfl 24 _ rfl g (o + 78) rfl [.int .i64 t0, .int .i64 t1, .int .i64 t2, .int .i64 t3] _ (rangeAt_ext R78.out HX1.out hg) Try.underlying24 rfl size_times ?_))
      refine (told_any t0 t1 t2 t3 w1).mono ?_
      rintro e w2 ⟨f2, rfl, hx2, hf2⟩
      have HX2 := Lib.hid (HX1.out.trans hx2)
      have HF2 := Lib.hid hf2
      clear hx2 hf2 HX1
      cases f2
      · go_wp2_with fail
        go_ret
        exact ⟨false, rfl, HX2.out, ⟨(fun h => by cases h), (fun h => absurd (HF2.out.2 h.2.1) (by simp))⟩⟩
      go_wp2_with (first | fail | ((with_reducible refine at_loadG 24 ?_); refine wpList_load_midG rfl 24 _ rfl g (o + 82) rfl [.int .i64 d0, .int .i64 d1, .int .i64 d2, .int .i64 d3] _ (rangeAt_ext R82.out HX2.out hg) Try.underlying24 rfl size_times ?_))
      refine (told_any d0 d1 d2 d3 w2).mono ?_
      rintro e w3 ⟨f3, rfl, hx3, hf3⟩
      have HX3 := Lib.hid (HX2.out.trans hx3)
      have HF3 := Lib.hid hf3
      clear hx3 hf3 HX2
      cases f3
      · go_wp2_with fail
        go_ret
        exact ⟨false, rfl, HX3.out, ⟨(fun h => by cases h), (fun h => absurd (HF3.out.2 h.2.2.1) (by simp))⟩⟩
      go_wp2_with (first | fail | ((with_reducible refine at_loadG 24 ?_); refine wpList_load_midG rfl 24 _ rfl g (o + 64) rfl [.int .i64 m0, .int .i64 m1, .int .i64 m2, .int .i64 m3] _ (rangeAt_ext R64.out HX3.out hg) Try.underlying24 rfl size_times ?_))
      refine (told_any m0 m1 m2 m3 w3).mono ?_
      rintro e w4 ⟨f4, rfl, hx4, hf4⟩
      have HX4 := Lib.hid (HX3.out.trans hx4)
      have HF4 := Lib.hid hf4
      clear hx4 hf4 HX3
      go_wp2_with fail
      go_ret
      exact ⟨f4, rfl, HX4.out, ⟨fun h => ⟨hall.out, HF2.out.1 trivial, HF3.out.1 trivial, HF4.out.1 h⟩, fun h => HF4.out.2 h.2.2.2⟩⟩

/-- Whether a port is in step. -/
def syncB (s : Bool) (r q : Int) (y : Bool) : Bool := s && (r == q) && ((r == 3) || y)
theorem synced_any (g o : Nat) (s y : Bool) (r q : Int) (w : World) (h44 : w.cell? ⟨g, o + 44, none⟩ = some (.bool s)) (h87 : w.cell? ⟨g, o + 87, none⟩ = some (.int .i64 r)) (h88 : w.cell? ⟨g, o + 88, none⟩ = some (.int .i64 q)) (h47 : w.cell? ⟨g, o + 47, none⟩ = some (.bool y)) :
    Calls Try.prog 43 #[.pointer (some ⟨g, o, none⟩)] w fun e w' => e = .returned (.bool (syncB s r q y)) ∧ Ext w w' := by
  cases s
  · go_enter Try.func43, Try.ntmps43
    go_wp2
    go_quiet (fail)
    go_wp2
    go_ret
    exact ⟨rfl, (Ext.refl w).drewN _⟩
  · by_cases hrq : r = q
    · subst hrq
      cases h3 : (r == 3)
      · have h3' : decide (r = 3) = false := by simpa using h3
        go_enter Try.func43, Try.ntmps43
        go_wp2
        go_quiet (fail)
        go_wp2
        go_ret
        exact ⟨retB (by simp [syncB, h3]), (Ext.refl w).drewN _⟩
      · obtain rfl : r = 3 := by simpa using h3
        go_enter Try.func43, Try.ntmps43
        go_wp2
        go_quiet (fail)
        go_wp2
        go_ret
        exact ⟨retB (by simp [syncB]), (Ext.refl w).drewN _⟩
    · have hb : (r == q) = false := by simpa using hrq
      go_enter Try.func43, Try.ntmps43
      go_wp2
      go_quiet (fail)
      go_wp2
      go_ret
      exact ⟨retB (by simp [syncB, hb]), (Ext.refl w).drewN _⟩

end Go.Proofs.Ytnblchilgaimhaa
