/- Contracts of package vec, and of the chapter's example. No statement is proved here. -/
import Derived.Test.YthfoacgdkoijeaaVec
namespace Go.Proofs.Ythfoacgdkoijeaa
open Go.RowKit
set_option linter.unusedVariables false
set_option linter.unusedSimpArgs false

def c4 (r c b p r' c' b' p' : Int) : Int := firstNZ [cmpV r r', cmpV c c', cmpV b b', cmpV p p']
def c5 (r c b p x r' c' b' p' x' : Int) : Int := firstNZ [cmpV r r', cmpV c c', cmpV b b', cmpV p p', cmpV x x']

theorem cmpV_rg (x y : Int) : -1 ≤ cmpV x y ∧ cmpV x y ≤ 1 ∧ (cmpV x y < 0 ↔ x < y) ∧ (cmpV x y = 0 ↔ x = y) ∧ (0 < cmpV x y ↔ y < x) := by unfold cmpV; (repeat' split) <;> omega

theorem c4_rg (r c b p r' c' b' p' : Int) : -1 ≤ c4 r c b p r' c' b' p' ∧ c4 r c b p r' c' b' p' ≤ 1 ∧ (c4 r c b p r' c' b' p' < 0 ↔ r < r' ∨ r = r' ∧ (c < c' ∨ c = c' ∧ (b < b' ∨ b = b' ∧ p < p'))) ∧ (c4 r c b p r' c' b' p' = 0 ↔ r = r' ∧ c = c' ∧ b = b' ∧ p = p') := by
  have h1 := cmpV_rg r r'
  have h2 := cmpV_rg c c'
  have h3 := cmpV_rg b b'
  have h4 := cmpV_rg p p'
  unfold c4
  simp only [firstNZ]
  generalize cmpV r r' = q1 at *
  generalize cmpV c c' = q2 at *
  generalize cmpV b b' = q3 at *
  generalize cmpV p p' = q4 at *
  (repeat' split) <;> omega

theorem c5_c4 (r c b p x r' c' b' p' x' : Int) : c5 r c b p x r' c' b' p' x' = if c4 r c b p r' c' b' p' = 0 then cmpV x x' else c4 r c b p r' c' b' p' := by
  unfold c5 c4
  simp only [firstNZ]
  (repeat' split) <;> simp_all

theorem c5_rg (r c b p x r' c' b' p' x' : Int) : -1 ≤ c5 r c b p x r' c' b' p' x' ∧ c5 r c b p x r' c' b' p' x' ≤ 1 ∧ (c5 r c b p x r' c' b' p' x' < 0 ↔ r < r' ∨ r = r' ∧ (c < c' ∨ c = c' ∧ (b < b' ∨ b = b' ∧ (p < p' ∨ p = p' ∧ x < x')))) ∧ (c5 r c b p x r' c' b' p' x' = 0 ↔ r = r' ∧ c = c' ∧ b = b' ∧ p = p' ∧ x = x') := by
  have h1 := c4_rg r c b p r' c' b' p'
  have h2 := cmpV_rg x x'
  rw [c5_c4]
  generalize c4 r c b p r' c' b' p' = q1 at *
  generalize cmpV x x' = q2 at *
  split <;> omega

theorem vbetter_any (r c b p x r' c' b' p' x' : Int) (w : World) : Calls Try.prog 51 #[.agg #[.int .u64 r, .int .u32 c, .int .u64 b, .int .u16 p, .int .u16 x], .agg #[.int .u64 r', .int .u32 c', .int .u64 b', .int .u16 p', .int .u16 x']] w fun e w' => e = .returned (.bool (decide (c5 r c b p x r' c' b' p' x' < 0))) ∧ Ext w w' := by
  go_enter Try.func51, Try.ntmps51
  go_wp2_with fail
  refine (asi (vcmp_any r c b p x r' c' b' p' x' _) (show _ = c5 r c b p x r' c' b' p' x' from rfl)).mono ?_
  rintro e w1 ⟨rfl, h1⟩
  go_wp2
  go_ret
  exact ⟨rfl, (((Ext.refl w).alloc _).alloc _).trans h1⟩

theorem vsame_any (r c b p x r' c' b' p' x' : Int) (w : World) : Calls Try.prog 41 #[.agg #[.int .u64 r, .int .u32 c, .int .u64 b, .int .u16 p, .int .u16 x], .agg #[.int .u64 r', .int .u32 c', .int .u64 b', .int .u16 p', .int .u16 x']] w fun e w' => e = .returned (.bool (c4 r c b p r' c' b' p' == 0)) ∧ Ext w w' := by
  go_enter Try.func41, Try.ntmps41
  go_wp2_with fail
  refine (asi (vfour_any r c b p x r' c' b' p' x' _) (show _ = c4 r c b p r' c' b' p' from rfl)).mono ?_
  rintro e w1 ⟨rfl, h1⟩
  go_wp2
  go_ret
  exact ⟨rfl, (((Ext.refl w).alloc _).alloc _).trans h1⟩

def tell (b p b' p' : Int) : Bool := (b % 281474976710656 == b' % 281474976710656) && (p % 4096 == p' % 4096)

set_option maxHeartbeats 1600000 in
theorem vteller_any (r c b p x r' c' b' p' x' : Int) (w : World) (hb : 0 ≤ b ∧ b < 18446744073709551616) (hb' : 0 ≤ b' ∧ b' < 18446744073709551616) (hp : 0 ≤ p ∧ p < 65536) (hp' : 0 ≤ p' ∧ p' < 65536) :
    Calls Try.prog 65 #[.agg #[.int .u64 r, .int .u32 c, .int .u64 b, .int .u16 p, .int .u16 x], .agg #[.int .u64 r', .int .u32 c', .int .u64 b', .int .u16 p', .int .u16 x']] w fun e w' => e = .returned (.bool (tell b p b' p')) ∧ Ext w w' := by
  obtain ⟨hb0, hb1⟩ := hb
  obtain ⟨hc0, hc1⟩ := hb'
  obtain ⟨hp0, hp1⟩ := hp
  obtain ⟨hq0, hq1⟩ := hp'
  cases he : (b % 281474976710656 == b' % 281474976710656)
  · refine asb (x := false) ?_ (by simp [tell, he])
    go_enter Try.func65, Try.ntmps65
    go_wp2
    go_quiet ((first | (go_at_call 83; first | exact quietL (addr_any _ _ (by omega) (by omega)) | exact quietA (addr_any _ _ (by omega) (by omega))) | (go_at_call 84; first | exact quietL (num_any _ _ (by omega) (by omega)) | exact quietA (num_any _ _ (by omega) (by omega)))))
    go_wp2
    go_ret
    exact ⟨rfl, (((Ext.refl w).alloc _).alloc _).drewN _⟩
  · refine asb (x := (p % 4096 == p' % 4096)) ?_ (by simp [tell, he])
    go_enter Try.func65, Try.ntmps65
    go_wp2
    go_quiet ((first | (go_at_call 83; first | exact quietL (addr_any _ _ (by omega) (by omega)) | exact quietA (addr_any _ _ (by omega) (by omega))) | (go_at_call 84; first | exact quietL (num_any _ _ (by omega) (by omega)) | exact quietA (num_any _ _ (by omega) (by omega)))))
    go_wp2
    go_ret
    exact ⟨rfl, (((Ext.refl w).alloc _).alloc _).drewN _⟩

set_option maxHeartbeats 1600000 in
theorem vsuperior_any (r c b p x r' c' b' p' x' : Int) (w : World) (hb : 0 ≤ b ∧ b < 18446744073709551616) (hb' : 0 ≤ b' ∧ b' < 18446744073709551616) (hp : 0 ≤ p ∧ p < 65536) (hp' : 0 ≤ p' ∧ p' < 65536) :
    Calls Try.prog 42 #[.agg #[.int .u64 r, .int .u32 c, .int .u64 b, .int .u16 p, .int .u16 x], .agg #[.int .u64 r', .int .u32 c', .int .u64 b', .int .u16 p', .int .u16 x']] w fun e w' => e = .returned (.bool (decide (c4 r c b p r' c' b' p' < 0) || tell b p b' p')) ∧ Ext w w' := by
  have hS := Lib.hid (fun w' => @two_held r c b p x r' c' b' p' x' w 28 w')
  cases he : decide (c4 r c b p r' c' b' p' < 0)
  · refine asb (x := tell b p b' p') ?_ (by simp)
    go_enter Try.func42, Try.ntmps42
    go_wp2_with fail
    refine (asi (vfour_any r c b p x r' c' b' p' x' _) (show _ = c4 r c b p r' c' b' p' from rfl)).mono ?_
    rintro e w1 ⟨rfl, h1⟩
    have K := hS.out _ h1
    go_wp2_with fail
    refine (vteller_any r c b p x r' c' b' p' x' _ hb hb' hp hp').mono ?_
    rintro e w2 ⟨rfl, h2⟩
    go_wp2
    go_ret
    exact ⟨rfl, (((Ext.refl w).alloc _).alloc _).trans (h1.trans h2)⟩
  · refine asb (x := true) ?_ (by simp)
    go_enter Try.func42, Try.ntmps42
    go_wp2_with fail
    refine (asi (vfour_any r c b p x r' c' b' p' x' _) (show _ = c4 r c b p r' c' b' p' from rfl)).mono ?_
    rintro e w1 ⟨rfl, h1⟩
    go_wp2
    go_ret
    exact ⟨rfl, (((Ext.refl w).alloc _).alloc _).trans h1⟩

def thr (c q : Int) : Int := if c + q ≤ 4294967295 then c + q else 4294967295

theorem vthrough_any (r c b p x q z : Int) (w : World) (hc : 0 ≤ c ∧ c < 4294967296) (hq : 0 ≤ q ∧ q < 4294967296) :
    Calls Try.prog 67 #[.agg #[.int .u64 r, .int .u32 c, .int .u64 b, .int .u16 p, .int .u16 x], .int .u32 q, .int .u16 z] w fun e w' => e = .returned (.agg #[.int .u64 r, .int .u32 (thr c q), .int .u64 b, .int .u16 p, .int .u16 z]) ∧ Ext w w' := by
  obtain ⟨hc0, hc1⟩ := hc
  obtain ⟨hq0, hq1⟩ := hq
  by_cases h : c + q ≤ 4294967295
  · refine asv (v := .agg #[.int .u64 r, .int .u32 (c + q), .int .u64 b, .int .u16 p, .int .u16 z]) ?_ (by simp [thr, h])
    go_enter Try.func67, Try.ntmps67
    go_wp2
    exact bodyPost_ret (v := .agg #[.int .u64 r, .int .u32 (c + q), .int .u64 b, .int .u16 p, .int .u16 z]) (by simp [results, Try.results67, go_sem]) rfl ⟨rfl, ((Ext.refl w).alloc _).alloc _⟩
  · refine asv (v := .agg #[.int .u64 r, .int .u32 4294967295, .int .u64 b, .int .u16 p, .int .u16 z]) ?_ (by simp [thr, h])
    go_enter Try.func67, Try.ntmps67
    go_wp2
    exact bodyPost_ret (v := .agg #[.int .u64 r, .int .u32 4294967295, .int .u64 b, .int .u16 p, .int .u16 z]) (by simp [results, Try.results67, go_sem]) rfl ⟨rfl, ((Ext.refl w).alloc _).alloc _⟩

theorem vown_any (r : Int) (w : World) :
    Calls Try.prog 49 #[.int .u64 r] w fun e w' => e = .returned (.agg #[.int .u64 r, .int .u32 0, .int .u64 r, .int .u16 0, .int .u16 0]) ∧ Ext w w' := by
  go_enter Try.func49, Try.ntmps49
  go_wp2
  exact bodyPost_ret (v := .agg #[.int .u64 r, .int .u32 0, .int .u64 r, .int .u16 0, .int .u16 0]) (by simp [results, Try.results49, go_sem]) rfl ⟨rfl, (Ext.refl w).alloc _⟩

theorem eq_vec (w : World) (r c b p x r' c' b' p' x' : Int) : (binOp .eql 28 (.agg #[.int .u64 r, .int .u32 c, .int .u64 b, .int .u16 p, .int .u16 x]) (.agg #[.int .u64 r', .int .u32 c', .int .u64 b', .int .u16 p', .int .u16 x'])).run Try.prog w = .ok (.bool (r == r' && c == c' && b == b' && p == p' && x == x')) w := by
  have k1 : Try.prog.stoodInHeld 28 = false := by kernel_rfl
  simp [go_sem, k1, Try.underlying28]
  split
  · split
    · split
      · split
        · split <;> simp_all
        · simp_all
      · simp_all
    · simp_all
  · simp_all
theorem guard_vec : Try.prog.eqGuardType Try.prog.depth 28 = false := by kernel_rfl

end Go.Proofs.Ythfoacgdkoijeaa
