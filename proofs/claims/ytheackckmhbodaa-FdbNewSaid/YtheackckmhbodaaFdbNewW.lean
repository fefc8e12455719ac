/- The walk of FdbNew. No statement is proved here. -/
import Derived.Test.YtheackckmhbodaaFdZ
namespace Go.Proofs.Ytheackckmhbodaa
open Go.RowKit Go.BigFrame Go.WideShapes Go.ChangeShapes Go.Deep
set_option linter.unusedVariables false
set_option linter.unusedSimpArgs false

theorem lnew {age : Int} {size : Int} (hs : 1 ≤ size) {L : List En} (h : LearnedP size age 7 3 [] L) : L = [(7, 3, age)] := by
  rcases h with ⟨_, rfl⟩ | ⟨_, h, _⟩
  · rfl
  · simp at h; omega
set_option maxRecDepth 100000 in
set_option maxHeartbeats 4000000 in
theorem law_FdbNew (size : Int) (hs : -9223372036854775808 ≤ size ∧ size ≤ 9223372036854775807) (age : Int) (ha : -9223372036854775808 ≤ age ∧ age ≤ 9223372036854775807) (w : World) :
    Calls Try.prog 4 #[.int .i64 size, .int .i64 age] w fun e w' => e = .returned (.bool true) ∧ Ext w w' := by
  clear hs ha
  go_enter Try.func4, Try.ntmps4
  go_wp2_with fail
  refine (awake07 _).mono ?_
  rintro e w1 ⟨rfl, h1⟩
  have E1 := Lib.hid h1
  clear h1
  by_cases hg : (1 ≤ size ∧ size ≤ 4096) ∧ 1 ≤ age ∧ age ≤ 1000000
  · have d0 : decide (size < 1) = false := decide_eq_false (by omega)
    have d1 : decide (4096 < size) = false := decide_eq_false (by omega)
    have d2 : decide (age < 1) = false := decide_eq_false (by omega)
    have d3 : decide (1000000 < age) = false := decide_eq_false (by omega)
    have HG := Lib.hid hg
    clear hg
    go_wp2_with fail
    refine (new_x w1 size age HG.out w E1.out).mono ?_
    rintro e w2 ⟨f, rfl, h2⟩
    have H2 := Lib.hid h2
    clear h2
    go_wp2_with fail
    refine (all_x w w2 f [] size age H2.out (nil_ok age) (by decide)).mono ?_
    rintro e w3 ⟨a, cap, rfl, _, _, h3⟩
    have H3 := Lib.hid h3
    clear h3
    go_wp2_with fail
    refine (learn_x w w3 f [] size age H3.out (nil_ok age) HG.out.2 (by have := HG.out; simp; omega) 7 3 7 (by decide) rfl (by decide) (by decide) (by decide)).mono ?_
    rintro e w4 ⟨rfl, L, hl, h4⟩
    obtain rfl := lnew HG.out.1.1 hl
    have H4 := Lib.hid h4
    clear h4 hl
    go_wp2_with fail
    refine (all_x w w4 f [(7, 3, age)] size age H4.out ⟨by simp, fun e he => by have := HG.out; simp at he; subst he; simp; omega⟩ (by simp)).mono ?_
    rintro e w5 ⟨a5, cap5, rfl, ho5, _, h5⟩
    have H5 := Lib.hid h5
    obtain ⟨g5, c5, hv5⟩ := ownsRow_succ (k := 0) ho5
    simp only [Value.slice.injEq] at hv5
    obtain ⟨rfl, -, rfl⟩ := hv5
    have hr0 := ent_range ho5 rfl 0 (by simp)
    have hr : w5.rangeAt g5 0 [.int .u64 7, .int .i64 3, .int .i64 age] := hr0
    have HR := Lib.hid hr
    clear h5 ho5 hr hr0
    go_wp2_with (first | fail | ((with_reducible refine at_loadG 43 ?_); refine wpList_load_midG rfl 43 _ rfl g5 0 rfl [.int .u64 7, .int .i64 3, .int .i64 age] _ HR.out Try.underlying43 rfl size_ent ?_))
    go_ret
    exact ⟨by simp, H5.out.ext⟩
  · refine ?_
    have hb : size < 1 ∨ 4096 < size ∨ age < 1 ∨ 1000000 < age := by omega
    have HB := Lib.hid hb
    clear hg hb
    go_wp2_with fail
    refine (new_bad w1 size age HB.out).mono ?_
    rintro e w2 ⟨rfl, rfl⟩
    have E2 := E1
    by_cases h0 : size < 1
    · have d0 : decide (size < 1) = true := decide_eq_true h0
      clear h0
      go_wp2_with fail
      go_ret
      exact ⟨rfl, E2.out⟩
    have d0 : decide (size < 1) = false := decide_eq_false h0
    have H0 := Lib.hid h0
    clear h0
    by_cases h1 : 4096 < size
    · have d1 : decide (4096 < size) = true := decide_eq_true h1
      clear h1
      go_wp2_with fail
      go_ret
      exact ⟨rfl, E2.out⟩
    have d1 : decide (4096 < size) = false := decide_eq_false h1
    have H1 := Lib.hid h1
    clear h1
    by_cases h2 : age < 1
    · have d2 : decide (age < 1) = true := decide_eq_true h2
      clear h2
      go_wp2_with fail
      go_ret
      exact ⟨rfl, E2.out⟩
    have d2 : decide (age < 1) = false := decide_eq_false h2
    have d3 : decide (1000000 < age) = true := decide_eq_true (by have := HB.out; have := H0.out; have := H1.out; omega)
    clear h2
    go_wp2_with fail
    go_ret
    exact ⟨rfl, E2.out⟩

end Go.Proofs.Ytheackckmhbodaa
