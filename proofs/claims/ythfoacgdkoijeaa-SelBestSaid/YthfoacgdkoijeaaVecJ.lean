/- The document on vectors: how two stand to each other; a vector through a port. No statement is proved here. -/
import Derived.Test.YthfoacgdkoijeaaVecI
namespace Go.Proofs.Ythfoacgdkoijeaa
open Go.RowKit Go.BigFrame Go.WideShapes Go.ChangeShapes Go.Deep
set_option linter.unusedVariables false
set_option linter.unusedSimpArgs false

set_option maxHeartbeats 1600000 in
theorem ref_cmp (r c b p x r' c' b' p' x' : Int) (w : World) :
    Calls Try.prog 33 #[.agg #[.int .u64 r, .int .u32 c, .int .u64 b, .int .u16 p, .int .u16 x], .agg #[.int .u64 r', .int .u32 c', .int .u64 b', .int .u16 p', .int .u16 x']] w fun e w' => e = .returned (.int .i64 (c5 r c b p x r' c' b' p' x')) ∧ Ext w w' := by
  have hS := Lib.hid (fun w' (hx : Ext ((w.alloc (.cells #[.int .u64 r, .int .u32 c, .int .u64 b, .int .u16 p, .int .u16 x] 28)).alloc (.cells #[.int .u64 r', .int .u32 c', .int .u64 b', .int .u16 p', .int .u16 x'] 28)) w') => two_held r c b p x r' c' b' p' x' hx)
  have g4 := c4_rg r c b p r' c' b' p'
  have g5 := c5_rg r c b p x r' c' b' p' x'
  obtain ⟨z, hz⟩ : ∃ z : Int, c5 r c b p x r' c' b' p' x' = z := ⟨_, rfl⟩
  rw [hz] at g5 ⊢
  clear hz
  obtain ⟨e1, f1⟩ : ∃ e1 : Bool, decide (c4 r c b p r' c' b' p' < 0) = e1 := ⟨_, rfl⟩
  obtain ⟨e2, f2⟩ : ∃ e2 : Bool, (c4 r c b p r' c' b' p' == 0) = e2 := ⟨_, rfl⟩
  obtain ⟨e3, f3⟩ : ∃ e3 : Bool, decide (x < x') = e3 := ⟨_, rfl⟩
  obtain ⟨e4, f4⟩ : ∃ e4 : Bool, (x == x') = e4 := ⟨_, rfl⟩
  have hz : z = if (e1 || e2 && e3) = true then -1 else if (e2 && e4) = true then 0 else 1 := by
    subst f1 f2 f3 f4
    simp only [Bool.or_eq_true, Bool.and_eq_true, decide_eq_true_eq, beq_iff_eq]
    split
    · omega
    · split <;> omega
  have F1 := Lib.hid f1
  have F2 := Lib.hid f2
  have HZ := Lib.hid hz
  clear g4 g5 f1 f2 hz
  cases e1 <;> cases e2 <;> cases e3 <;> cases e4
  all_goals
    go_enter Try.func33, Try.ntmps33
    go_wp2_with fail
    refine (asb (ref_less _ _ _ _ _ _ _ _ _ _ _) F1.out).mono ?_
    rintro e w1 ⟨rfl, h1⟩
    have K := hS.out _ h1
    go_wp2_with fail
    refine (asb (ref_same _ _ _ _ _ _ _ _ _ _ _) F2.out).mono ?_
    rintro e w2 ⟨rfl, h2⟩
    clear K
    have K := hS.out _ (h1.trans h2)
    go_wp2
    go_ret
    exact ⟨retI (by rw [HZ.out]; rfl), (((Ext.refl w).alloc _).alloc _).trans (h1.trans h2)⟩

theorem ref_through (r c b p x q z : Int) (w : World) (hc : 0 ≤ c ∧ c < 4294967296) (hq : 0 ≤ q ∧ q < 4294967296) :
    Calls Try.prog 34 #[.agg #[.int .u64 r, .int .u32 c, .int .u64 b, .int .u16 p, .int .u16 x], .int .u32 q, .int .u16 z] w fun e w' => e = .returned (.agg #[.int .u64 r, .int .u32 (thr c q), .int .u64 b, .int .u16 p, .int .u16 z]) ∧ Ext w w' := by
  obtain ⟨hc0, hc1⟩ := hc
  obtain ⟨hq0, hq1⟩ := hq
  by_cases h : c + q ≤ 4294967295
  · refine asv (v := .agg #[.int .u64 r, .int .u32 (c + q), .int .u64 b, .int .u16 p, .int .u16 z]) ?_ (by simp [thr, h])
    go_enter Try.func34, Try.ntmps34
    go_wp2
    exact bodyPost_ret (v := .agg #[.int .u64 r, .int .u32 (c + q), .int .u64 b, .int .u16 p, .int .u16 z]) (by simp [results, Try.results34, go_sem]) rfl ⟨rfl, ((Ext.refl w).alloc _).alloc _⟩
  · refine asv (v := .agg #[.int .u64 r, .int .u32 4294967295, .int .u64 b, .int .u16 p, .int .u16 z]) ?_ (by simp [thr, h])
    go_enter Try.func34, Try.ntmps34
    go_wp2
    exact bodyPost_ret (v := .agg #[.int .u64 r, .int .u32 4294967295, .int .u64 b, .int .u16 p, .int .u16 z]) (by simp [results, Try.results34, go_sem]) rfl ⟨rfl, ((Ext.refl w).alloc _).alloc _⟩

end Go.Proofs.Ythfoacgdkoijeaa
