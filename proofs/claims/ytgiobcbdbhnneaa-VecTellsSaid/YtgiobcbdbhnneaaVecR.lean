/- The document's answers on vectors, and the walk of the law VecTells. -/
import Derived.Test.YtgiobcbdbhnneaaVecW
import Derived.Test.YtgiobcbdbhnneaaIdent
namespace Go.Proofs.Ytgiobcbdbhnneaa
open Go.RowKit
set_option linter.unusedVariables false

theorem ref_same (r c b p x r' c' b' p' x' : Int) (w : World) :
    Calls Try.prog 42 #[.agg #[.int .u64 r, .int .u32 c, .int .u64 b, .int .u16 p, .int .u16 x], .agg #[.int .u64 r', .int .u32 c', .int .u64 b', .int .u16 p', .int .u16 x']] w fun e w' => e = .returned (.bool (c4 r c b p r' c' b' p' == 0)) ∧ Ext w w' := by
  have g4 := c4_rg r c b p r' c' b' p'
  cases f1 : (r == r') <;> cases f2 : (c == c') <;> cases f3 : (b == b')
  all_goals
    refine asb (x := (r == r') && (c == c') && (b == b') && (p == p')) ?_ (by rw [Bool.eq_iff_iff]; simp only [Bool.and_eq_true, beq_iff_eq]; omega)
    rw [f1, f2, f3]
    clear g4
    go_enter Try.func42, Try.ntmps42
    go_wp2
    go_ret
    exact ⟨retB (by simp), ((Ext.refl w).alloc _).alloc _⟩

theorem ref_less (r c b p x r' c' b' p' x' : Int) (w : World) :
    Calls Try.prog 51 #[.agg #[.int .u64 r, .int .u32 c, .int .u64 b, .int .u16 p, .int .u16 x], .agg #[.int .u64 r', .int .u32 c', .int .u64 b', .int .u16 p', .int .u16 x']] w fun e w' => e = .returned (.bool (decide (c4 r c b p r' c' b' p' < 0))) ∧ Ext w w' := by
  have g4 := c4_rg r c b p r' c' b' p'
  by_cases h1 : r = r'
  · subst h1
    by_cases h2 : c = c'
    · subst h2
      by_cases h3 : b = b'
      · subst h3
        refine asb (x := decide (p < p')) ?_ (by rw [decide_eq_decide]; omega)
        clear g4
        go_enter Try.func51, Try.ntmps51
        go_wp2
        go_ret
        exact ⟨rfl, ((Ext.refl w).alloc _).alloc _⟩
      · refine asb (x := decide (b < b')) ?_ (by rw [decide_eq_decide]; omega)
        have hn : (b != b') = true := by simpa using h3
        clear g4
        go_enter Try.func51, Try.ntmps51
        go_wp2
        go_ret
        exact ⟨rfl, ((Ext.refl w).alloc _).alloc _⟩
    · refine asb (x := decide (c < c')) ?_ (by rw [decide_eq_decide]; omega)
      have hn : (c != c') = true := by simpa using h2
      clear g4
      go_enter Try.func51, Try.ntmps51
      go_wp2
      go_ret
      exact ⟨rfl, ((Ext.refl w).alloc _).alloc _⟩
  · refine asb (x := decide (r < r')) ?_ (by rw [decide_eq_decide]; omega)
    have hn : (r != r') = true := by simpa using h1
    clear g4
    go_enter Try.func51, Try.ntmps51
    go_wp2
    go_ret
    exact ⟨rfl, ((Ext.refl w).alloc _).alloc _⟩

set_option maxHeartbeats 1600000 in
theorem ref_cmp (r c b p x r' c' b' p' x' : Int) (w : World) :
    Calls Try.prog 38 #[.agg #[.int .u64 r, .int .u32 c, .int .u64 b, .int .u16 p, .int .u16 x], .agg #[.int .u64 r', .int .u32 c', .int .u64 b', .int .u16 p', .int .u16 x']] w fun e w' => e = .returned (.int .i64 (c5 r c b p x r' c' b' p' x')) ∧ Ext w w' := by
  have hS := Lib.hid (fun w' (hx : Ext ((w.alloc (.cells #[.int .u64 r, .int .u32 c, .int .u64 b, .int .u16 p, .int .u16 x] 56)).alloc (.cells #[.int .u64 r', .int .u32 c', .int .u64 b', .int .u16 p', .int .u16 x'] 56)) w') => two_held r c b p x r' c' b' p' x' hx)
  have g4 := c4_rg r c b p r' c' b' p'
  have g5 := c5_rg r c b p x r' c' b' p' x'
  obtain ⟨z, hz⟩ : ∃ z : Int, c5 r c b p x r' c' b' p' x' = z := ⟨_, rfl⟩
  rw [hz] at g5 ⊢
  clear hz
  obtain ⟨e1, f1⟩ : ∃ e1 : Bool, decide (c4 r c b p r' c' b' p' < 0) = e1 := ⟨_, rfl⟩
  obtain ⟨e2, f2⟩ : ∃ e2 : Bool, (c4 r c b p r' c' b' p' == 0) = e2 := ⟨_, rfl⟩
  obtain ⟨e3, f3⟩ : ∃ e3 : Bool, decide (x < x') = e3 := ⟨_, rfl⟩
  obtain ⟨e4, f4⟩ : ∃ e4 : Bool, (x == x') = e4 := ⟨_, rfl⟩
  have hz : z = if (e1 || e2 && e3) = true then -1 else if (e2 && e4) = true then 0 else 1 := by
    subst f1 f2 f3 f4
    simp only [Bool.or_eq_true, Bool.and_eq_true, decide_eq_true_eq, beq_iff_eq]
    split
    · omega
    · split <;> omega
  have F1 := Lib.hid f1
  have F2 := Lib.hid f2
  have HZ := Lib.hid hz
  clear g4 g5 f1 f2 hz
  cases e1 <;> cases e2 <;> cases e3 <;> cases e4
  all_goals
    go_enter Try.func38, Try.ntmps38
    go_wp2_with fail
    refine (asb (ref_less _ _ _ _ _ _ _ _ _ _ _) F1.out).mono ?_
    rintro e w1 ⟨rfl, h1⟩
    have K := hS.out _ h1
    go_wp2_with fail
    refine (asb (ref_same _ _ _ _ _ _ _ _ _ _ _) F2.out).mono ?_
    rintro e w2 ⟨rfl, h2⟩
    clear K
    have K := hS.out _ (h1.trans h2)
    go_wp2
    go_ret
    exact ⟨retI (by rw [HZ.out]; rfl), (((Ext.refl w).alloc _).alloc _).trans (h1.trans h2)⟩

set_option maxHeartbeats 1600000 in
theorem ref_superior (r c b p x r' c' b' p' x' : Int) (w : World) (hb : 0 ≤ b ∧ b < 18446744073709551616) (hb' : 0 ≤ b' ∧ b' < 18446744073709551616) (hp : 0 ≤ p ∧ p < 65536) (hp' : 0 ≤ p' ∧ p' < 65536) :
    Calls Try.prog 44 #[.agg #[.int .u64 r, .int .u32 c, .int .u64 b, .int .u16 p, .int .u16 x], .agg #[.int .u64 r', .int .u32 c', .int .u64 b', .int .u16 p', .int .u16 x']] w fun e w' => e = .returned (.bool (decide (c4 r c b p r' c' b' p' < 0) || tell b p b' p')) ∧ Ext w w' := by
  obtain ⟨hb0, hb1⟩ := hb
  obtain ⟨hc0, hc1⟩ := hb'
  obtain ⟨hp0, hp1⟩ := hp
  obtain ⟨hq0, hq1⟩ := hp'
  cases he : (b % 281474976710656 == b' % 281474976710656) <;> cases hf : (p % 4096 == p' % 4096)
  all_goals
    first
    | (refine asb (x := true) ?_ (by simp [tell, he, hf]; done)
       go_enter Try.func44, Try.ntmps44
       go_wp2
       go_quiet ((first | (go_at_call 30; first | exact quietL (ref_addr _ _ (by omega) (by omega)) | exact quietA (ref_addr _ _ (by omega) (by omega))) | (go_at_call 34; first | exact quietL (ref_num _ _ (by omega) (by omega)) | exact quietA (ref_num _ _ (by omega) (by omega)))))
       go_wp2
       go_ret
       exact ⟨rfl, (((Ext.refl w).alloc _).alloc _).drewN _⟩)
    | (refine asb (x := decide (c4 r c b p r' c' b' p' < 0)) ?_ (by simp [tell, he, hf]; done)
       go_enter Try.func44, Try.ntmps44
       go_wp2
       go_quiet ((first | (go_at_call 30; first | exact quietL (ref_addr _ _ (by omega) (by omega)) | exact quietA (ref_addr _ _ (by omega) (by omega))) | (go_at_call 34; first | exact quietL (ref_num _ _ (by omega) (by omega)) | exact quietA (ref_num _ _ (by omega) (by omega)))))
       go_wp2_with fail
       refine (ref_less _ _ _ _ _ _ _ _ _ _ _).mono ?_
       rintro e w1 ⟨rfl, h1⟩
       go_wp2
       go_ret
       exact ⟨rfl, ((((Ext.refl w).alloc _).alloc _).drewN _).trans h1⟩)

theorem ref_through (r c b p x q z : Int) (w : World) (hc : 0 ≤ c ∧ c < 4294967296) (hq : 0 ≤ q ∧ q < 4294967296) :
    Calls Try.prog 46 #[.agg #[.int .u64 r, .int .u32 c, .int .u64 b, .int .u16 p, .int .u16 x], .int .u32 q, .int .u16 z] w fun e w' => e = .returned (.agg #[.int .u64 r, .int .u32 (thr c q), .int .u64 b, .int .u16 p, .int .u16 z]) ∧ Ext w w' := by
  obtain ⟨hc0, hc1⟩ := hc
  obtain ⟨hq0, hq1⟩ := hq
  by_cases h : c + q ≤ 4294967295
  · refine asv (v := .agg #[.int .u64 r, .int .u32 (c + q), .int .u64 b, .int .u16 p, .int .u16 z]) ?_ (by simp [thr, h])
    go_enter Try.func46, Try.ntmps46
    go_wp2
    exact bodyPost_ret (v := .agg #[.int .u64 r, .int .u32 (c + q), .int .u64 b, .int .u16 p, .int .u16 z]) (by simp [results, Try.results46, go_sem]) rfl ⟨rfl, ((Ext.refl w).alloc _).alloc _⟩
  · refine asv (v := .agg #[.int .u64 r, .int .u32 4294967295, .int .u64 b, .int .u16 p, .int .u16 z]) ?_ (by simp [thr, h])
    go_enter Try.func46, Try.ntmps46
    go_wp2
    exact bodyPost_ret (v := .agg #[.int .u64 r, .int .u32 4294967295, .int .u64 b, .int .u16 p, .int .u16 z]) (by simp [results, Try.results46, go_sem]) rfl ⟨rfl, ((Ext.refl w).alloc _).alloc _⟩

end Go.Proofs.Ytgiobcbdbhnneaa
