/- The clock's contracts: whether a bridge may be, by the program. No statement is proved here. -/
import Derived.Test.YtnblchilgaimhaaRg
import Derived.Deep.RegionHeld3
import Derived.Deep.QuietTactic
namespace Go.Proofs.Ytnblchilgaimhaa
open Go.RowKit Go.BigFrame Go.WideShapes Go.ChangeShapes Go.Deep
set_option linter.unusedVariables false
set_option linter.unusedSimpArgs false

theorem twithin_any (n l m : Int) (w : World) :
    Calls Try.prog 49 #[.int .i64 n, .int .i64 l, .int .i64 m] w fun e w' => e = .returned (.bool (decide (l ≤ n) && decide (n ≤ m))) ∧ w = w' := by
  by_cases h1 : l ≤ n
  · have e1 : decide (l ≤ n) = true := by simpa using h1
    go_enter Try.func49, Try.ntmps49
    go_wp2
    go_ret
    exact ⟨retB (by rw [e1]; rfl), rfl⟩
  · have e1 : decide (l ≤ n) = false := by simpa using h1
    go_enter Try.func49, Try.ntmps49
    go_wp2
    go_ret
    exact ⟨rfl, rfl⟩

theorem eq_checks (w : World) (b0 b1 b2 b3 b4 b5 : Bool) : (binOp .eql 80 (.agg #[.bool b0, .bool b1, .bool b2, .bool b3, .bool b4, .bool b5]) (.agg #[.bool true, .bool true, .bool true, .bool true, .bool true, .bool true])).run Try.prog w =
    .ok (.bool (b0 && b1 && b2 && b3 && b4 && b5)) w := by
  have k1 : Try.prog.stoodInHeld 80 = false := by kernel_rfl
  simp [go_sem, k1, Try.underlying80]
  cases b0 <;> simp <;> cases b1 <;> simp <;> cases b2 <;> simp <;> cases b3 <;> simp <;> cases b4 <;> simp <;> cases b5 <;> simp
theorem guard_checks : Try.prog.eqGuardType Try.prog.depth 80 = false := by kernel_rfl
theorem w64 (n : Int) (h0 : -9223372036854775808 ≤ n) (h1 : n ≤ 9223372036854775807) : wrap64 n = n := by unfold wrap64; omega

/-- Whether times may be. -/
def rightB (a m h d : Int) : Bool := decide (0 ≤ a ∧ a ≤ 255 ∧ 6 ≤ m ∧ m ≤ 40 ∧ 1 ≤ h ∧ h ≤ 10 ∧ 4 ≤ d ∧ d ≤ 30 ∧ m ≤ 2 * (d - 1) ∧ 2 * (h + 1) ≤ m)

theorem tmright_any (a m h d : Int) (w : World) :
    Calls Try.prog 35 #[.agg #[.int .i64 a, .int .i64 m, .int .i64 h, .int .i64 d]] w fun e w' => e = .returned (.bool (rightB a m h d)) ∧ Ext w w' := by
  have he := eq_checks
  have hg := guard_checks
  go_enter Try.func35, Try.ntmps35
  go_wp2
  go_quiet ((first
    | (go_at_call 49; exact quietL (twithin_any _ _ _ _))
    | (go_at_call 49; exact quietA (twithin_any _ _ _ _))))
  go_wp2
  go_ret
  refine ⟨retB ?_, ((Ext.refl w).alloc _).drewN _⟩
  unfold rightB
  rw [Bool.eq_iff_iff]
  simp only [Bool.and_eq_true, decide_eq_true_eq]
  by_cases hr : (1 ≤ h ∧ h ≤ 10) ∧ (4 ≤ d ∧ d ≤ 30)
  · rw [w64 (d - 1) (by omega) (by omega), w64 (2 * (d - 1)) (by omega) (by omega), w64 (h + 1) (by omega) (by omega), w64 (2 * (h + 1)) (by omega) (by omega)]
    omega
  · omega


theorem rightB_iff (a m h d : Int) : rightB a m h d = true ↔ TR a m h d := by unfold rightB TR; simp
theorem cwithin_any (n l m : Int) (w : World) :
    Calls Try.prog 36 #[.int .i64 n, .int .i64 l, .int .i64 m] w fun e w' => e = .returned (.bool (decide (l ≤ n) && decide (n ≤ m))) ∧ w = w' := by
  by_cases h1 : l ≤ n
  · have e1 : decide (l ≤ n) = true := by simpa using h1
    go_enter Try.func36, Try.ntmps36
    go_wp2
    go_ret
    exact ⟨retB (by rw [e1]; rfl), rfl⟩
  · have e1 : decide (l ≤ n) = false := by simpa using h1
    go_enter Try.func36, Try.ntmps36
    go_wp2
    go_ret
    exact ⟨rfl, rfl⟩


def pick4 (a m h d : Int) : Nat → Int
  | 0 => a | 1 => m | 2 => h | _ => d
theorem told_ix (a m h d : Int) (k : Nat) (hk : k < 4) (w : World) : (Instr.index 81 (.agg #[.int .i64 a, .int .i64 m, .int .i64 h, .int .i64 d]) (.int .i64 (k : Int))).run Try.prog w = .ok (.int .i64 (pick4 a m h d k)) w := by
  rcases (by omega : k = 0 ∨ k = 1 ∨ k = 2 ∨ k = 3) with rfl | rfl | rfl | rfl
  all_goals kernel_rfl
theorem told_any (a m h d : Int) (w : World) : Calls Try.prog 37 #[.agg #[.int .i64 a, .int .i64 m, .int .i64 h, .int .i64 d]] w (Tells w (TF a m h d)) := by
  go_enter Try.func37, Try.ntmps37
  go_wp2_with fail
  go_loop [14] (fun i => ∃ k : Nat, k ≤ 4 ∧ i = .int .i64 k ∧ Hid (∀ n, n < k → 0 ≤ pick4 a m h d n ∧ pick4 a m h d n ≤ 65535)) (fun i => 4 - (intOf i).toNat)
  case atStart => exact ⟨0, by omega, rfl, Lib.hid (fun n hn => by omega)⟩
  case round =>
    obtain ⟨k, hk, rfl, hn⟩ := hrel
    by_cases hlt : k < 4
    · have hix := told_ix a m h d k hlt
      obtain ⟨z, hz⟩ : ∃ z, pick4 a m h d k = z := ⟨_, rfl⟩
      rw [hz] at hix
      have HZ := Lib.hid hz
      clear hz
      by_cases hb : 0 ≤ z ∧ z ≤ 65535
      · go_wp2_with (go_at_call 36; refine (asb (cwithin_any _ _ _ _) (y := true) (by simp; omega)).mono ?_; rintro e w' ⟨rfl, rfl⟩)
        go_round
        case rel =>
          refine ⟨k + 1, by omega, by go_num, Lib.hid (fun n hn' => ?_)⟩
          by_cases e : n = k
          · subst e; rw [HZ.out]; exact hb
          · exact hn.out n (by omega)
        case measure => simp [intOf]; omega
      · go_wp2_with (go_at_call 36; refine (asb (cwithin_any _ _ _ _) (y := false) (by simp; omega)).mono ?_; rintro e w' ⟨rfl, rfl⟩)
        go_ret
        refine ⟨false, rfl, (Ext.refl w).alloc _, ⟨(fun h => by cases h), (fun h => ?_)⟩⟩
        exfalso
        apply hb
        rw [← HZ.out]
        unfold TF at h
        match k, hlt with
        | 0, _ => exact ⟨h.1, h.2.1⟩
        | 1, _ => exact ⟨h.2.2.1, h.2.2.2.1⟩
        | 2, _ => exact ⟨h.2.2.2.2.1, h.2.2.2.2.2.1⟩
        | 3, _ => exact ⟨h.2.2.2.2.2.2.1, h.2.2.2.2.2.2.2⟩
    · obtain rfl : k = 4 := by omega
      go_wp2_with fail
      go_ret
      have h0 := hn.out 0 (by omega)
      have h1 := hn.out 1 (by omega)
      have h2 := hn.out 2 (by omega)
      have h3 := hn.out 3 (by omega)
      exact ⟨true, rfl, (Ext.refl w).alloc _, ⟨fun _ => ⟨h0.1, h0.2, h1.1, h1.2, h2.1, h2.2, h3.1, h3.2⟩, fun _ => rfl⟩⟩

/-- The places of a port's clocks. -/
def ptrs9 (g o : Nat) : Array Value := #[.pointer (some ⟨g, o, none⟩), .pointer (some ⟨g, o + 1, none⟩), .pointer (some ⟨g, o + 2, none⟩), .pointer (some ⟨g, o + 3, none⟩), .pointer (some ⟨g, o + 4, none⟩), .pointer (some ⟨g, o + 5, none⟩), .pointer (some ⟨g, o + 6, none⟩), .pointer (some ⟨g, o + 7, none⟩), .pointer (some ⟨g, o + 8, none⟩)]
theorem size_ptrs : (Try.prog.info? 61).map (·.size) = some 9 := by kernel_rfl
theorem ptrs_ix (g o k : Nat) (hk : k < 9) (w : World) : (Instr.index 61 (.agg (ptrs9 g o)) (.int .i64 (k : Int))).run Try.prog w = .ok (.pointer (some ⟨g, o + k, none⟩)) w := by
  rcases (by omega : k = 0 ∨ k = 1 ∨ k = 2 ∨ k = 3 ∨ k = 4 ∨ k = 5 ∨ k = 6 ∨ k = 7 ∨ k = 8) with rfl | rfl | rfl | rfl | rfl | rfl | rfl | rfl | rfl
  all_goals kernel_rfl
set_option maxRecDepth 100000 in
set_option maxHeartbeats 1000000 in
theorem all_any (g o : Nat) (w : World) : Calls Try.prog 41 #[.pointer (some ⟨g, o, none⟩)] w fun e w' => e = .returned (.agg (ptrs9 g o)) ∧ Ext w w' := by
  have hi := Lib.hid (show (Try.prog.info? 61).map (·.size) = some (ptrs9 g o).size from size_ptrs)
  go_enter Try.func41, Try.ntmps41
  go_wp2_with fail
  refine wp_region_tail 28 (by kernel_rfl) (by kernel_rfl) ?_
  intro u hu
  have hx : Ext w u := by
    rw [hu]
    exact ((Ext.refl w).alloc _).drew
  obtain ⟨old, hb2, hsz⟩ : ∃ old : Array Value, u.heap[w.heap.size]? = some (.cells old 61 (0, 0)) ∧ old.size = 9 := by
    rw [hu]
    exact ⟨_, heap_alloc_new _ _, rfl⟩
  clear hu
  simp only [List.take_succ_cons, List.take_zero, List.drop_succ_cons, List.drop_zero]
  iterate 28 still_step
  refine wpStill_nil ?_
  have hgoal : ∀ u' : World, u'.heap[w.heap.size]? = some (.cells (ptrs9 g o) 61 (0, 0)) → Ext w u' → True := fun _ _ _ => trivial
  refine wpList_store_row rfl 61 _ _ rfl w.heap.size (ptrs9 g o) rfl rfl 61 old hb2 hi.out hsz (by rw [← Array.all_toList]; rfl) ?_
  have hy := setRow_heap _ _ _ (ptrs9 g o) _ _ hb2
  have hx2 := ext_setRow hx (Nat.le_refl _) (ptrs9 g o)
  clear hb2 hx hgoal
  go_wp2_with fail
  exact bodyPost_ret (results_cell_row rfl _ _ _ _ (ptrs9 g o) (0, 0) _ rfl hy Try.underlying61 rfl hi.out) rfl ⟨rfl, hx2⟩

end Go.Proofs.Ytnblchilgaimhaa
