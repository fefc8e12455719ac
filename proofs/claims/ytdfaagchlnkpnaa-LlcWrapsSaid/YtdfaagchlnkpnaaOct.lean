/- Contracts of package octet and of the document's answer: putting. No statement is proved here. -/
import Derived.Test.YtdfaagchlnkpnaaInts
import Derived.Laws.AppendOwn
import Derived.Laws.MakeOwn
import Derived.Laws.BytesArg
import Derived.OwnWalk
namespace Go.Proofs.Ytdfaagchlnkpnaa
open Go.RowKit
set_option linter.unusedVariables false
set_option linter.unusedSimpArgs false

/-- The lowest k bytes of a number, the highest one first. -/
def bts (n : Nat) : Nat → List Int
  | 0 => []
  | k + 1 => bts (n / 256) k ++ [((n % 256 : Nat) : Int)]

theorem bts_len (k : Nat) : ∀ n, (bts n k).length = k := by
  induction k with
  | zero => intro n; rfl
  | succ k ih => intro n; simp [bts, ih]
theorem bts_rg (k : Nat) : ∀ n, ∀ x ∈ bts n k, 0 ≤ x ∧ x < 256 := by
  induction k with
  | zero => intro n x hx; simp [bts] at hx
  | succ k ih =>
    intro n x hx
    rcases List.mem_append.1 hx with h | h
    · exact ih _ _ h
    · simp at h
      omega

theorem fits_yes (k : Int) (w : World) (h0 : 1 ≤ k) (h1 : k ≤ 8) : Calls Try.prog 55 #[.int .i64 k] w fun e w' => e = .returned (.bool true) ∧ w = w' := by
  go_enter Try.func55, Try.ntmps55
  go_wp2
  go_ret
  exact ⟨retB (by simp), rfl⟩

theorem fits_no (k : Int) (w : World) (h : k < 1 ∨ 8 < k) : Calls Try.prog 55 #[.int .i64 k] w fun e w' => e = .returned (.bool false) ∧ w = w' := by
  rcases h with h | h
  · go_enter Try.func55, Try.ntmps55
    go_wp2
    go_ret
    exact ⟨rfl, rfl⟩
  · have h1 : 1 ≤ k := by omega
    have h2 : decide (k ≤ 8) = false := by simp; omega
    go_enter Try.func55, Try.ntmps55
    go_wp2
    go_ret
    exact ⟨rfl, rfl⟩

theorem put_no (n k : Int) (w : World) (h : k < 1 ∨ 8 < k) : Calls Try.prog 36 #[.int .u64 n, .int .i64 k] w fun e w' => e = .returned (.slice none 0 0) ∧ w = w' := by
  go_enter Try.func36, Try.ntmps36
  go_wp2_with fail
  refine (fits_no _ _ h).mono ?_
  rintro e w1 ⟨rfl, rfl⟩
  go_wp2
  go_ret
  exact ⟨rfl, rfl⟩

theorem bts_1 (n : Nat) (hn : n < 18446744073709551616) : bts n 1 = [((n : Int) % 256)] := by
  show [((n % 256 : Nat) : Int)] = _
  simp only [List.cons.injEq, and_true]
  omega
theorem put_1 (n : Nat) (w : World) (hn : n < 18446744073709551616) : Calls Try.prog 36 #[.int .u64 n, .int .i64 1] w fun e w' => e = .returned (.slice (some ⟨w.heap.size, 0, none⟩) 1 1) ∧ w' = w.alloc (.cells ((bts n 1).map (Value.int .u8)).toArray 5) := by
  have hmk : ∀ w : World, (Instr.makeSlice 33 (.int .i64 1) (.int .i64 1)).run Try.prog w = .ok (.slice (some ⟨w.heap.size, 0, none⟩) 1 1) (w.alloc (.cells #[.int .u8 0] 5)) := fun _ => by kernel_rfl
  have hb := Lib.hid (bts_1 n hn)
  go_enter Try.func36, Try.ntmps36
  go_wp2_with fail
  refine (fits_yes _ _ (by decide) (by decide)).mono ?_
  rintro e w1 ⟨rfl, rfl⟩
  go_wp2
  refine wp_loop_rounds 2 ?_
  rw [rounds_succ]
  go_wp2
  rw [rounds_succ]
  go_wp2
  go_ret
  refine ⟨rfl, congrArg (fun c => World.alloc _ (.cells c _)) ?_⟩
  rw [hb.out]
  rfl

theorem bts_2 (n : Nat) (hn : n < 18446744073709551616) : bts n 2 = [((n : Int) / 256 % 256), ((n : Int) % 256)] := by
  show [((n / 256 % 256 : Nat) : Int), ((n % 256 : Nat) : Int)] = _
  simp only [List.cons.injEq, and_true]
  omega
theorem put_2 (n : Nat) (w : World) (hn : n < 18446744073709551616) : Calls Try.prog 36 #[.int .u64 n, .int .i64 2] w fun e w' => e = .returned (.slice (some ⟨w.heap.size, 0, none⟩) 2 2) ∧ w' = w.alloc (.cells ((bts n 2).map (Value.int .u8)).toArray 5) := by
  have hmk : ∀ w : World, (Instr.makeSlice 33 (.int .i64 2) (.int .i64 2)).run Try.prog w = .ok (.slice (some ⟨w.heap.size, 0, none⟩) 2 2) (w.alloc (.cells #[.int .u8 0, .int .u8 0] 5)) := fun _ => by kernel_rfl
  have hb := Lib.hid (bts_2 n hn)
  go_enter Try.func36, Try.ntmps36
  go_wp2_with fail
  refine (fits_yes _ _ (by decide) (by decide)).mono ?_
  rintro e w1 ⟨rfl, rfl⟩
  go_wp2
  refine wp_loop_rounds 3 ?_
  rw [rounds_succ]
  go_wp2
  rw [rounds_succ]
  go_wp2
  rw [rounds_succ]
  go_wp2
  go_ret
  refine ⟨rfl, congrArg (fun c => World.alloc _ (.cells c _)) ?_⟩
  rw [hb.out]
  rfl

theorem bts_3 (n : Nat) (hn : n < 18446744073709551616) : bts n 3 = [((n : Int) / 65536 % 256), ((n : Int) / 256 % 256), ((n : Int) % 256)] := by
  show [((n / 256 / 256 % 256 : Nat) : Int), ((n / 256 % 256 : Nat) : Int), ((n % 256 : Nat) : Int)] = _
  simp only [List.cons.injEq, and_true]
  omega
theorem put_3 (n : Nat) (w : World) (hn : n < 18446744073709551616) : Calls Try.prog 36 #[.int .u64 n, .int .i64 3] w fun e w' => e = .returned (.slice (some ⟨w.heap.size, 0, none⟩) 3 3) ∧ w' = w.alloc (.cells ((bts n 3).map (Value.int .u8)).toArray 5) := by
  have hmk : ∀ w : World, (Instr.makeSlice 33 (.int .i64 3) (.int .i64 3)).run Try.prog w = .ok (.slice (some ⟨w.heap.size, 0, none⟩) 3 3) (w.alloc (.cells #[.int .u8 0, .int .u8 0, .int .u8 0] 5)) := fun _ => by kernel_rfl
  have hb := Lib.hid (bts_3 n hn)
  go_enter Try.func36, Try.ntmps36
  go_wp2_with fail
  refine (fits_yes _ _ (by decide) (by decide)).mono ?_
  rintro e w1 ⟨rfl, rfl⟩
  go_wp2
  refine wp_loop_rounds 4 ?_
  rw [rounds_succ]
  go_wp2
  rw [rounds_succ]
  go_wp2
  rw [rounds_succ]
  go_wp2
  rw [rounds_succ]
  go_wp2
  go_ret
  refine ⟨rfl, congrArg (fun c => World.alloc _ (.cells c _)) ?_⟩
  rw [hb.out]
  rfl

theorem bts_4 (n : Nat) (hn : n < 18446744073709551616) : bts n 4 = [((n : Int) / 16777216 % 256), ((n : Int) / 65536 % 256), ((n : Int) / 256 % 256), ((n : Int) % 256)] := by
  show [((n / 256 / 256 / 256 % 256 : Nat) : Int), ((n / 256 / 256 % 256 : Nat) : Int), ((n / 256 % 256 : Nat) : Int), ((n % 256 : Nat) : Int)] = _
  simp only [List.cons.injEq, and_true]
  omega
theorem put_4 (n : Nat) (w : World) (hn : n < 18446744073709551616) : Calls Try.prog 36 #[.int .u64 n, .int .i64 4] w fun e w' => e = .returned (.slice (some ⟨w.heap.size, 0, none⟩) 4 4) ∧ w' = w.alloc (.cells ((bts n 4).map (Value.int .u8)).toArray 5) := by
  have hmk : ∀ w : World, (Instr.makeSlice 33 (.int .i64 4) (.int .i64 4)).run Try.prog w = .ok (.slice (some ⟨w.heap.size, 0, none⟩) 4 4) (w.alloc (.cells #[.int .u8 0, .int .u8 0, .int .u8 0, .int .u8 0] 5)) := fun _ => by kernel_rfl
  have hb := Lib.hid (bts_4 n hn)
  go_enter Try.func36, Try.ntmps36
  go_wp2_with fail
  refine (fits_yes _ _ (by decide) (by decide)).mono ?_
  rintro e w1 ⟨rfl, rfl⟩
  go_wp2
  refine wp_loop_rounds 5 ?_
  rw [rounds_succ]
  go_wp2
  rw [rounds_succ]
  go_wp2
  rw [rounds_succ]
  go_wp2
  rw [rounds_succ]
  go_wp2
  rw [rounds_succ]
  go_wp2
  go_ret
  refine ⟨rfl, congrArg (fun c => World.alloc _ (.cells c _)) ?_⟩
  rw [hb.out]
  rfl

theorem bts_5 (n : Nat) (hn : n < 18446744073709551616) : bts n 5 = [((n : Int) / 4294967296 % 256), ((n : Int) / 16777216 % 256), ((n : Int) / 65536 % 256), ((n : Int) / 256 % 256), ((n : Int) % 256)] := by
  show [((n / 256 / 256 / 256 / 256 % 256 : Nat) : Int), ((n / 256 / 256 / 256 % 256 : Nat) : Int), ((n / 256 / 256 % 256 : Nat) : Int), ((n / 256 % 256 : Nat) : Int), ((n % 256 : Nat) : Int)] = _
  simp only [List.cons.injEq, and_true]
  omega
theorem put_5 (n : Nat) (w : World) (hn : n < 18446744073709551616) : Calls Try.prog 36 #[.int .u64 n, .int .i64 5] w fun e w' => e = .returned (.slice (some ⟨w.heap.size, 0, none⟩) 5 5) ∧ w' = w.alloc (.cells ((bts n 5).map (Value.int .u8)).toArray 5) := by
  have hmk : ∀ w : World, (Instr.makeSlice 33 (.int .i64 5) (.int .i64 5)).run Try.prog w = .ok (.slice (some ⟨w.heap.size, 0, none⟩) 5 5) (w.alloc (.cells #[.int .u8 0, .int .u8 0, .int .u8 0, .int .u8 0, .int .u8 0] 5)) := fun _ => by kernel_rfl
  have hb := Lib.hid (bts_5 n hn)
  go_enter Try.func36, Try.ntmps36
  go_wp2_with fail
  refine (fits_yes _ _ (by decide) (by decide)).mono ?_
  rintro e w1 ⟨rfl, rfl⟩
  go_wp2
  refine wp_loop_rounds 6 ?_
  rw [rounds_succ]
  go_wp2
  rw [rounds_succ]
  go_wp2
  rw [rounds_succ]
  go_wp2
  rw [rounds_succ]
  go_wp2
  rw [rounds_succ]
  go_wp2
  rw [rounds_succ]
  go_wp2
  go_ret
  refine ⟨rfl, congrArg (fun c => World.alloc _ (.cells c _)) ?_⟩
  rw [hb.out]
  rfl

theorem bts_6 (n : Nat) (hn : n < 18446744073709551616) : bts n 6 = [((n : Int) / 1099511627776 % 256), ((n : Int) / 4294967296 % 256), ((n : Int) / 16777216 % 256), ((n : Int) / 65536 % 256), ((n : Int) / 256 % 256), ((n : Int) % 256)] := by
  show [((n / 256 / 256 / 256 / 256 / 256 % 256 : Nat) : Int), ((n / 256 / 256 / 256 / 256 % 256 : Nat) : Int), ((n / 256 / 256 / 256 % 256 : Nat) : Int), ((n / 256 / 256 % 256 : Nat) : Int), ((n / 256 % 256 : Nat) : Int), ((n % 256 : Nat) : Int)] = _
  simp only [List.cons.injEq, and_true]
  omega
theorem put_6 (n : Nat) (w : World) (hn : n < 18446744073709551616) : Calls Try.prog 36 #[.int .u64 n, .int .i64 6] w fun e w' => e = .returned (.slice (some ⟨w.heap.size, 0, none⟩) 6 6) ∧ w' = w.alloc (.cells ((bts n 6).map (Value.int .u8)).toArray 5) := by
  have hmk : ∀ w : World, (Instr.makeSlice 33 (.int .i64 6) (.int .i64 6)).run Try.prog w = .ok (.slice (some ⟨w.heap.size, 0, none⟩) 6 6) (w.alloc (.cells #[.int .u8 0, .int .u8 0, .int .u8 0, .int .u8 0, .int .u8 0, .int .u8 0] 5)) := fun _ => by kernel_rfl
  have hb := Lib.hid (bts_6 n hn)
  go_enter Try.func36, Try.ntmps36
  go_wp2_with fail
  refine (fits_yes _ _ (by decide) (by decide)).mono ?_
  rintro e w1 ⟨rfl, rfl⟩
  go_wp2
  refine wp_loop_rounds 7 ?_
  rw [rounds_succ]
  go_wp2
  rw [rounds_succ]
  go_wp2
  rw [rounds_succ]
  go_wp2
  rw [rounds_succ]
  go_wp2
  rw [rounds_succ]
  go_wp2
  rw [rounds_succ]
  go_wp2
  rw [rounds_succ]
  go_wp2
  go_ret
  refine ⟨rfl, congrArg (fun c => World.alloc _ (.cells c _)) ?_⟩
  rw [hb.out]
  rfl

theorem bts_7 (n : Nat) (hn : n < 18446744073709551616) : bts n 7 = [((n : Int) / 281474976710656 % 256), ((n : Int) / 1099511627776 % 256), ((n : Int) / 4294967296 % 256), ((n : Int) / 16777216 % 256), ((n : Int) / 65536 % 256), ((n : Int) / 256 % 256), ((n : Int) % 256)] := by
  show [((n / 256 / 256 / 256 / 256 / 256 / 256 % 256 : Nat) : Int), ((n / 256 / 256 / 256 / 256 / 256 % 256 : Nat) : Int), ((n / 256 / 256 / 256 / 256 % 256 : Nat) : Int), ((n / 256 / 256 / 256 % 256 : Nat) : Int), ((n / 256 / 256 % 256 : Nat) : Int), ((n / 256 % 256 : Nat) : Int), ((n % 256 : Nat) : Int)] = _
  simp only [List.cons.injEq, and_true]
  omega
theorem put_7 (n : Nat) (w : World) (hn : n < 18446744073709551616) : Calls Try.prog 36 #[.int .u64 n, .int .i64 7] w fun e w' => e = .returned (.slice (some ⟨w.heap.size, 0, none⟩) 7 7) ∧ w' = w.alloc (.cells ((bts n 7).map (Value.int .u8)).toArray 5) := by
  have hmk : ∀ w : World, (Instr.makeSlice 33 (.int .i64 7) (.int .i64 7)).run Try.prog w = .ok (.slice (some ⟨w.heap.size, 0, none⟩) 7 7) (w.alloc (.cells #[.int .u8 0, .int .u8 0, .int .u8 0, .int .u8 0, .int .u8 0, .int .u8 0, .int .u8 0] 5)) := fun _ => by kernel_rfl
  have hb := Lib.hid (bts_7 n hn)
  go_enter Try.func36, Try.ntmps36
  go_wp2_with fail
  refine (fits_yes _ _ (by decide) (by decide)).mono ?_
  rintro e w1 ⟨rfl, rfl⟩
  go_wp2
  refine wp_loop_rounds 8 ?_
  rw [rounds_succ]
  go_wp2
  rw [rounds_succ]
  go_wp2
  rw [rounds_succ]
  go_wp2
  rw [rounds_succ]
  go_wp2
  rw [rounds_succ]
  go_wp2
  rw [rounds_succ]
  go_wp2
  rw [rounds_succ]
  go_wp2
  rw [rounds_succ]
  go_wp2
  go_ret
  refine ⟨rfl, congrArg (fun c => World.alloc _ (.cells c _)) ?_⟩
  rw [hb.out]
  rfl

theorem bts_8 (n : Nat) (hn : n < 18446744073709551616) : bts n 8 = [((n : Int) / 72057594037927936), ((n : Int) / 281474976710656 % 256), ((n : Int) / 1099511627776 % 256), ((n : Int) / 4294967296 % 256), ((n : Int) / 16777216 % 256), ((n : Int) / 65536 % 256), ((n : Int) / 256 % 256), ((n : Int) % 256)] := by
  show [((n / 256 / 256 / 256 / 256 / 256 / 256 / 256 % 256 : Nat) : Int), ((n / 256 / 256 / 256 / 256 / 256 / 256 % 256 : Nat) : Int), ((n / 256 / 256 / 256 / 256 / 256 % 256 : Nat) : Int), ((n / 256 / 256 / 256 / 256 % 256 : Nat) : Int), ((n / 256 / 256 / 256 % 256 : Nat) : Int), ((n / 256 / 256 % 256 : Nat) : Int), ((n / 256 % 256 : Nat) : Int), ((n % 256 : Nat) : Int)] = _
  simp only [List.cons.injEq, and_true]
  omega
theorem put_8 (n : Nat) (w : World) (hn : n < 18446744073709551616) : Calls Try.prog 36 #[.int .u64 n, .int .i64 8] w fun e w' => e = .returned (.slice (some ⟨w.heap.size, 0, none⟩) 8 8) ∧ w' = w.alloc (.cells ((bts n 8).map (Value.int .u8)).toArray 5) := by
  have hmk : ∀ w : World, (Instr.makeSlice 33 (.int .i64 8) (.int .i64 8)).run Try.prog w = .ok (.slice (some ⟨w.heap.size, 0, none⟩) 8 8) (w.alloc (.cells #[.int .u8 0, .int .u8 0, .int .u8 0, .int .u8 0, .int .u8 0, .int .u8 0, .int .u8 0, .int .u8 0] 5)) := fun _ => by kernel_rfl
  have hb := Lib.hid (bts_8 n hn)
  go_enter Try.func36, Try.ntmps36
  go_wp2_with fail
  refine (fits_yes _ _ (by decide) (by decide)).mono ?_
  rintro e w1 ⟨rfl, rfl⟩
  go_wp2
  refine wp_loop_rounds 9 ?_
  rw [rounds_succ]
  go_wp2
  rw [rounds_succ]
  go_wp2
  rw [rounds_succ]
  go_wp2
  rw [rounds_succ]
  go_wp2
  rw [rounds_succ]
  go_wp2
  rw [rounds_succ]
  go_wp2
  rw [rounds_succ]
  go_wp2
  rw [rounds_succ]
  go_wp2
  rw [rounds_succ]
  go_wp2
  go_ret
  refine ⟨rfl, congrArg (fun c => World.alloc _ (.cells c _)) ?_⟩
  rw [hb.out]
  rfl

theorem put_any (n k : Nat) (w : World) (hn : n < 18446744073709551616) (h0 : 1 ≤ k) (h1 : k ≤ 8) : Calls Try.prog 36 #[.int .u64 n, .int .i64 k] w fun e w' => e = .returned (.slice (some ⟨w.heap.size, 0, none⟩) k k) ∧ w' = w.alloc (.cells ((bts n k).map (Value.int .u8)).toArray 5) := by
  match k, h0, h1 with
  | 1, _, _ => exact put_1 n w hn
  | 2, _, _ => exact put_2 n w hn
  | 3, _, _ => exact put_3 n w hn
  | 4, _, _ => exact put_4 n w hn
  | 5, _, _ => exact put_5 n w hn
  | 6, _, _ => exact put_6 n w hn
  | 7, _, _ => exact put_7 n w hn
  | 8, _, _ => exact put_8 n w hn

theorem isBytes_alloc (w : World) (xs : List Int) (cap : Nat) (t : TypeId) (h0 : 0 < xs.length) (hl : xs.length ≤ cap) (hm : cap ≤ maxLen) : IsInts (w.alloc (.cells (xs.map (Value.int .u8)).toArray t)) .u8 (.slice (some ⟨w.heap.size, 0, none⟩) xs.length cap) xs := by
  refine .inr ⟨_, _, _, rfl, h0, hl, hm, by simp, fun i hi => (World.cell?_alloc_at _ _ _ _ rfl).trans ?_⟩
  simp [List.getD, hi]

theorem isBytes_own {w : World} {base : Nat} {t : TypeId} {v : Value} {xs : List Int} (h : w.ownsRow base t 1 v xs.length (xs.map (Value.int .u8))) : IsInts w .u8 v xs := by
  rcases h.2 with ⟨rfl, h0⟩ | ⟨g, cap, cur, rfl, hb, hg, hn, hm, hs, ht⟩
  · exact .inl ⟨List.eq_nil_of_length_eq_zero h0, .inl rfl⟩
  · by_cases h0 : xs.length = 0
    · have hx := List.eq_nil_of_length_eq_zero h0
      subst hx
      exact .inl ⟨rfl, .inr ⟨_, _, rfl⟩⟩
    · refine .inr ⟨g, 0, cap, rfl, by omega, hn, hm, ?_, fun i hi => ?_⟩
      · exact (Array.getElem?_eq_some_iff.1 hg).1
      · have := h.cells (g := g) rfl i (.int .u8 (xs.getD i 0)) (by simp [List.getD, hi])
        have hp : (⟨g, 0, none⟩ : Addr).add i = ⟨g, 0 + i, none⟩ := by unfold Addr.add; split <;> simp_all
        rwa [hp] at this

/-- What 'string' makes of a value that reads as bytes. -/
theorem conv_bytes {w : World} {v : Value} {xs : List Int} (h : IsInts w .u8 v xs) : (convert 33 9 v).run Try.prog w = .ok (.string (strOfNums xs)) w := by
  rcases h with ⟨rfl, rfl | ⟨a, cap, rfl⟩⟩ | ⟨b, off, cap, rfl, _, _, _, _, hc⟩
  · rw [run_convert_bytes_string w 33 9 5 none 0 0 Try.underlying33 Try.underlying5 Try.underlying9]
    rfl
  · rw [run_convert_bytes_string w 33 9 5 (some a) 0 cap Try.underlying33 Try.underlying5 Try.underlying9,
      run_bytesToString w a 0 cap [] (by simpa using run_loadCells_list (P := Try.prog) w a [] (fun j v hj => by simp at hj))]
    rfl
  · exact run_convert_bytes_arg w 33 5 Try.underlying33 Try.underlying5 b off xs.length cap xs rfl hc 9 Try.underlying9

/-- Two values that read as the same bytes are the same. -/
theorem same_yes {w : World} {v v' : Value} {xs : List Int} (h : IsInts w .u8 v xs) (h' : IsInts w .u8 v' xs) : Calls Try.prog 16 #[v, v'] w fun e w' => e = .returned (.bool true) ∧ w = w' := by
  have c1 := conv_bytes h
  have c2 := conv_bytes h'
  go_enter Try.func16, Try.ntmps16
  go_wp2
  go_ret
  exact ⟨retB (by simp), rfl⟩

/-- A new row of bytes is handed back. -/
def Owned (w : World) (xs : List Int) (e : Ending) (w' : World) : Prop := ∃ v, e = .returned v ∧ w'.ownsRow w.heap.size 5 1 v xs.length (xs.map (Value.int .u8)) ∧ Ext w w'

theorem info_u8 : (Try.prog.info? 5).map (fun i => (i.zero, i.size, i.bytes)) = some (some (.int .u8 0), 1, 1) := by kernel_rfl

theorem refput_no (n k : Int) (w : World) (h : k < 1 ∨ 8 < k) : Calls Try.prog 40 #[.int .u64 n, .int .i64 k] w fun e w' => e = .returned (.slice none 0 0) ∧ w = w' := by
  rcases h with h | h
  · go_enter Try.func40, Try.ntmps40
    go_wp2
    go_ret
    exact ⟨rfl, rfl⟩
  · have h1 : ¬ k < 1 := by omega
    go_enter Try.func40, Try.ntmps40
    go_wp2
    go_ret
    exact ⟨rfl, rfl⟩

set_option maxHeartbeats 1600000 in
set_option maxRecDepth 100000 in
theorem refput_any (k : Nat) : ∀ (n : Nat) (w : World), n < 18446744073709551616 → 1 ≤ k → k ≤ 8 → Calls Try.prog 40 #[.int .u64 n, .int .i64 k] w (Owned w (bts n k)) := by
  induction k with
  | zero => intro n w hn h0; omega
  | succ k ih =>
    intro n w hn h0 h1
    obtain ⟨i0, hi, hz0, hz1, hz2⟩ := info_parts info_u8
    by_cases hk : k = 0
    · subst hk
      have hu : IntKind.u8.wrap ((n : Int) % 256) = ((n % 256 : Nat) : Int) := by rw [IntKind.wrap_u8]; omega
      go_enter Try.func40, Try.ntmps40
      go_wp2
      go_ret
      refine ⟨_, rfl, ⟨by simp [bts], .inr ⟨w.heap.size, 1, _, rfl, Nat.le_refl _, heap_alloc_new w _, by simp [bts], by decide, rfl, ?_⟩⟩, (Ext.refl w).alloc _⟩
      simp [bts]
    · have IH := Lib.hid ih
      clear ih
      have hne : ((k : Int) + 1 == 1) = false := by simp; omega
      have hd : ((n : Int) / 256) = ((n / 256 : Nat) : Int) := by omega
      have HD := Lib.hid hd
      have hm : Hid ([Value.int .u8 ((n : Int) % 256)] = ([((n % 256 : Nat) : Int)]).map (Value.int .u8)) := Lib.hid (by simp)
      clear hd
      go_enter Try.func40, Try.ntmps40
      go_wp2_with fail
      rw [HD.out]
      refine (IH.out (n / 256) _ (by omega) (by omega) (by omega)).mono ?_
      rintro e w1 ⟨v, rfl, hown, hx⟩
      have hsz := hx.size
      rw [bts_len] at hown
      go_wp2_with (at_builtin; refine wpList_append_own _ rfl _ _ 33 rfl w.heap.size 5 i0 (.int .u8 0) 1 1 Try.underlying33 hi hz0 hz1 hz2 rfl (by decide) _ _ _ rfl (hown.alloc _) ⟨w1.heap.size, 0, none⟩ 1 1 [.int .u8 ((n : Int) % 256)] rfl rfl ?c1 ?c2 ?c3 ?c4 ?c5 ?_)
      case c1 =>
        intro q u hq
        match q, hq with
        | 0, hq =>
          simp at hq
          subst hq
          simp [Addr.add]
      case c2 =>
        intro u hu
        simp at hu
        subst hu
        rfl
      case c3 =>
        unfold maxLen
        omega
      case c4 => omega
      case c5 =>
        simp
        omega
      intro v' w2 hown' hgrow _
      go_wp2
      go_ret
      refine ⟨v', rfl, ?_, Below.grown (hx.alloc _) hgrow (by simp; omega) (fun g hg => (hown.lt g hg).1)⟩
      rw [hm.out] at hown'
      rw [bts_len]
      simpa [bts] using hown'

end Go.Proofs.Ytdfaagchlnkpnaa
