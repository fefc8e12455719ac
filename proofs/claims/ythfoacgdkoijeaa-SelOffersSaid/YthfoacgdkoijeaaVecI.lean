/- The document on vectors. No statement is proved here. -/
import Derived.Test.YthfoacgdkoijeaaVecB
import Derived.Laws.BitsAllLaws
namespace Go.Proofs.Ythfoacgdkoijeaa
open Go.RowKit Go.BigFrame Go.WideShapes Go.ChangeShapes Go.Deep
set_option linter.unusedVariables false
set_option linter.unusedSimpArgs false

theorem ref_addr (x : Int) (w : World) (h2 : 0 ≤ x) (h3 : x < 18446744073709551616) :
    Calls Try.prog 47 #[.int .u64 x] w fun e w' => e = .returned (.int .u64 (x % 281474976710656)) ∧ w = w' := by
  go_enter Try.func47, Try.ntmps47
  go_wp2
  go_ret
  exact ⟨retI (by omega), rfl⟩
theorem ref_num (x : Int) (w : World) (h2 : 0 ≤ x) (h3 : x < 65536) :
    Calls Try.prog 48 #[.int .u16 x] w fun e w' => e = .returned (.int .u16 (x % 4096)) ∧ w = w' := by
  go_enter Try.func48, Try.ntmps48
  go_wp2
  go_ret
  exact ⟨retI (by omega), rfl⟩
theorem ref_same (r c b p x r' c' b' p' x' : Int) (w : World) :
    Calls Try.prog 45 #[.agg #[.int .u64 r, .int .u32 c, .int .u64 b, .int .u16 p, .int .u16 x], .agg #[.int .u64 r', .int .u32 c', .int .u64 b', .int .u16 p', .int .u16 x']] w fun e w' => e = .returned (.bool (c4 r c b p r' c' b' p' == 0)) ∧ Ext w w' := by
  have g4 := c4_rg r c b p r' c' b' p'
  cases f1 : (r == r') <;> cases f2 : (c == c') <;> cases f3 : (b == b')
  all_goals
    refine asb (x := (r == r') && (c == c') && (b == b') && (p == p')) ?_ (by rw [Bool.eq_iff_iff]; simp only [Bool.and_eq_true, beq_iff_eq]; omega)
    rw [f1, f2, f3]
    clear g4
    go_enter Try.func45, Try.ntmps45
    go_wp2
    go_ret
    exact ⟨retB (by simp), ((Ext.refl w).alloc _).alloc _⟩
theorem ref_less (r c b p x r' c' b' p' x' : Int) (w : World) :
    Calls Try.prog 25 #[.agg #[.int .u64 r, .int .u32 c, .int .u64 b, .int .u16 p, .int .u16 x], .agg #[.int .u64 r', .int .u32 c', .int .u64 b', .int .u16 p', .int .u16 x']] w fun e w' => e = .returned (.bool (decide (c4 r c b p r' c' b' p' < 0))) ∧ Ext w w' := by
  have g4 := c4_rg r c b p r' c' b' p'
  by_cases h1 : r = r'
  · subst h1
    by_cases h2 : c = c'
    · subst h2
      by_cases h3 : b = b'
      · subst h3
        refine asb (x := decide (p < p')) ?_ (by rw [decide_eq_decide]; omega)
        clear g4
        go_enter Try.func25, Try.ntmps25
        go_wp2
        go_ret
        exact ⟨rfl, ((Ext.refl w).alloc _).alloc _⟩
      · refine asb (x := decide (b < b')) ?_ (by rw [decide_eq_decide]; omega)
        have hn : (b != b') = true := by simpa using h3
        clear g4
        go_enter Try.func25, Try.ntmps25
        go_wp2
        go_ret
        exact ⟨rfl, ((Ext.refl w).alloc _).alloc _⟩
    · refine asb (x := decide (c < c')) ?_ (by rw [decide_eq_decide]; omega)
      have hn : (c != c') = true := by simpa using h2
      clear g4
      go_enter Try.func25, Try.ntmps25
      go_wp2
      go_ret
      exact ⟨rfl, ((Ext.refl w).alloc _).alloc _⟩
  · refine asb (x := decide (r < r')) ?_ (by rw [decide_eq_decide]; omega)
    have hn : (r != r') = true := by simpa using h1
    clear g4
    go_enter Try.func25, Try.ntmps25
    go_wp2
    go_ret
    exact ⟨rfl, ((Ext.refl w).alloc _).alloc _⟩
set_option maxHeartbeats 1600000 in
theorem ref_superior (r c b p x r' c' b' p' x' : Int) (w : World) (hb : 0 ≤ b ∧ b < 18446744073709551616) (hb' : 0 ≤ b' ∧ b' < 18446744073709551616) (hp : 0 ≤ p ∧ p < 65536) (hp' : 0 ≤ p' ∧ p' < 65536) :
    Calls Try.prog 27 #[.agg #[.int .u64 r, .int .u32 c, .int .u64 b, .int .u16 p, .int .u16 x], .agg #[.int .u64 r', .int .u32 c', .int .u64 b', .int .u16 p', .int .u16 x']] w fun e w' => e = .returned (.bool (decide (c4 r c b p r' c' b' p' < 0) || tell b p b' p')) ∧ Ext w w' := by
  obtain ⟨hb0, hb1⟩ := hb
  obtain ⟨hc0, hc1⟩ := hb'
  obtain ⟨hp0, hp1⟩ := hp
  obtain ⟨hq0, hq1⟩ := hp'
  cases he : (b % 281474976710656 == b' % 281474976710656) <;> cases hf : (p % 4096 == p' % 4096)
  all_goals
    first
    | (refine asb (x := true) ?_ (by simp [tell, he, hf]; done)
       go_enter Try.func27, Try.ntmps27
       go_wp2
       go_quiet ((first | (go_at_call 47; first | exact quietL (ref_addr _ _ (by omega) (by omega)) | exact quietA (ref_addr _ _ (by omega) (by omega))) | (go_at_call 48; first | exact quietL (ref_num _ _ (by omega) (by omega)) | exact quietA (ref_num _ _ (by omega) (by omega)))))
       go_wp2
       go_ret
       exact ⟨rfl, (((Ext.refl w).alloc _).alloc _).drewN _⟩)
    | (refine asb (x := decide (c4 r c b p r' c' b' p' < 0)) ?_ (by simp [tell, he, hf]; done)
       go_enter Try.func27, Try.ntmps27
       go_wp2
       go_quiet ((first | (go_at_call 47; first | exact quietL (ref_addr _ _ (by omega) (by omega)) | exact quietA (ref_addr _ _ (by omega) (by omega))) | (go_at_call 48; first | exact quietL (ref_num _ _ (by omega) (by omega)) | exact quietA (ref_num _ _ (by omega) (by omega)))))
       go_wp2_with fail
       refine (ref_less _ _ _ _ _ _ _ _ _ _ _).mono ?_
       rintro e w1 ⟨rfl, h1⟩
       go_wp2
       go_ret
       exact ⟨rfl, ((((Ext.refl w).alloc _).alloc _).drewN _).trans h1⟩)

end Go.Proofs.Ythfoacgdkoijeaa
