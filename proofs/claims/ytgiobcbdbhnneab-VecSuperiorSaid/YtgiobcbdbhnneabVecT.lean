/- The walks of the laws VecSuperior and VecThrough. -/
import Derived.Test.YtgiobcbdbhnneabVecS
namespace Go.Proofs.Ytgiobcbdbhnneab
open Go.RowKit
set_option linter.unusedVariables false

theorem tell_refl (b p : Int) : tell b p b p = true := by simp [tell]

set_option maxHeartbeats 6400000 in
theorem law_VecSuperior (r : Int) (hr : 0 ≤ r ∧ r < 18446744073709551616) (c : Int) (hc : 0 ≤ c ∧ c < 4294967296) (b : Int) (hb : 0 ≤ b ∧ b < 18446744073709551616) (p : Int) (hp : 0 ≤ p ∧ p < 65536) (x : Int) (hx : 0 ≤ x ∧ x < 65536) (r' : Int) (hr' : 0 ≤ r' ∧ r' < 18446744073709551616) (c' : Int) (hc' : 0 ≤ c' ∧ c' < 4294967296) (b' : Int) (hb' : 0 ≤ b' ∧ b' < 18446744073709551616) (p' : Int) (hp' : 0 ≤ p' ∧ p' < 65536) (x' : Int) (hx' : 0 ≤ x' ∧ x' < 65536) (w : World) :
    Calls Try.prog 4 #[.agg #[.int .u64 r, .int .u32 c, .int .u64 b, .int .u16 p, .int .u16 x], .agg #[.int .u64 r', .int .u32 c', .int .u64 b', .int .u16 p', .int .u16 x']] w fun e w' => e = .returned (.bool true) ∧ Ext w w' := by
  clear hr hc hx hr' hc' hx'
  have hS := Lib.hid (fun w' (hx : Ext ((w.alloc (.cells #[.int .u64 r, .int .u32 c, .int .u64 b, .int .u16 p, .int .u16 x] 26)).alloc (.cells #[.int .u64 r', .int .u32 c', .int .u64 b', .int .u16 p', .int .u16 x'] 26)) w') => And.intro hx (two_held r c b p x r' c' b' p' x' hx))
  have g5 := c5_rg r c b p x r' c' b' p' x'
  have g4 := c4_rg r c b p r' c' b' p'
  obtain ⟨e5, f5⟩ : ∃ e5 : Bool, decide (c5 r c b p x r' c' b' p' x' < 0) = e5 := ⟨_, rfl⟩
  obtain ⟨e4, f4⟩ : ∃ e4 : Bool, (c4 r c b p r' c' b' p' == 0) = e4 := ⟨_, rfl⟩
  obtain ⟨ad, fa⟩ : ∃ ad : Bool, (IntKind.u64.wrap (b * 65536) != IntKind.u64.wrap (b' * 65536)) = ad := ⟨_, rfl⟩
  have ft : ad = true → tell b p b' p' = false := by
    intro h
    rw [← fa, bne_iff_ne, IntKind.wrap_u64, IntKind.wrap_u64] at h
    unfold tell
    rw [Bool.and_eq_false_iff]
    left
    rw [beq_eq_false_iff_ne]
    omega
  have fs : (decide (c4 r c b p r' c' b' p' < 0)) = (e5 && !e4) := by
    rw [← f5, ← f4, Bool.eq_iff_iff]
    simp only [Bool.and_eq_true, decide_eq_true_eq, Bool.not_eq_true', beq_eq_false_iff_ne]
    omega
  have F4 := Lib.hid f4
  have FT := Lib.hid ft
  have FS := Lib.hid fs
  clear g4 g5 f4 ft fs
  cases ad <;> cases e5 <;> cases e4
  all_goals
    go_enter Try.func4, Try.ntmps4
    go_wp2_with fail
    generalize hB : (w.alloc (Obj.cells #[Value.int IntKind.u64 r, Value.int IntKind.u32 c, Value.int IntKind.u64 b, Value.int IntKind.u16 p, Value.int IntKind.u16 x] 26)).alloc (Obj.cells #[Value.int IntKind.u64 r', Value.int IntKind.u32 c', Value.int IntKind.u64 b', Value.int IntKind.u16 p', Value.int IntKind.u16 x'] 26) = B at hS ⊢
    have hwB : Ext w B := by rw [← hB]; exact ((Ext.refl w).alloc _).alloc _
    have hBs : w.heap.size + 1 < B.heap.size := by rw [← hB]; simp
    clear hB
    refine (awake3 _).mono ?_
    rintro e w1 ⟨rfl, h1⟩
    have K := hS.out _ h1
    have hz : w.heap.size + 1 < w1.heap.size := Nat.lt_of_lt_of_le hBs h1.size
    go_wp2_with fail
    refine (asb (vsuperior_any _ _ _ _ _ _ _ _ _ _ _ hb' hb' hp' hp') (show _ = true by rw [tell_refl, Bool.or_true])).mono ?_
    rintro e w2 ⟨rfl, h2⟩
    have hx2 : Ext B w2 := h1.trans (((Ext.refl w1).alloc _).trans h2)
    clear K
    have K := hS.out _ hx2
    go_wp2_with fail
    refine (asi (vcmp_any _ _ _ _ _ _ _ _ _ _ _) (show _ = c5 r c b p x r' c' b' p' x' from rfl)).mono ?_
    rintro e w3 ⟨rfl, h3⟩
    have hx3 : Ext B w3 := hx2.trans h3
    clear K
    have K := hS.out _ hx3
    go_wp2_with (first | (go_at_call 15; refine (asb (vsame_any _ _ _ _ _ _ _ _ _ _ _) F4.out).mono ?_; rintro e w4 ⟨rfl, h4⟩; have hx4 := hx3.trans h4; clear K; have K := hS.out _ hx4) | fail)
  · go_wp2_with fail
    refine (asb (vsuperior_any r' c' b' p' x' r' c' b' p' x' _ hb' hb' hp' hp') (show _ = true by rw [tell_refl, Bool.or_true])).mono ?_
    rintro e u0 ⟨rfl, hu0⟩
    have xu0 : Ext B u0 := hx3.trans hu0
    clear K
    have K := hS.out _ xu0
    go_wp2
    go_ret
    exact ⟨rfl, hwB.trans xu0⟩
  · go_wp2_with fail
    refine (asb (vsuperior_any r' c' b' p' x' r' c' b' p' x' _ hb' hb' hp' hp') (show _ = true by rw [tell_refl, Bool.or_true])).mono ?_
    rintro e u0 ⟨rfl, hu0⟩
    have xu0 : Ext B u0 := hx3.trans hu0
    clear K
    have K := hS.out _ xu0
    go_wp2
    go_ret
    exact ⟨rfl, hwB.trans xu0⟩
  · go_wp2_with fail
    refine (asb (vsuperior_any r c b p x r' c' b' p' x' _ hb hb' hp hp') (show _ = true by rw [FS.out]; simp)).mono ?_
    rintro e u0 ⟨rfl, hu0⟩
    have xu0 : Ext B u0 := hx4.trans hu0
    clear K
    have K := hS.out _ xu0
    go_wp2_with fail
    refine (asb (vsuperior_any r' c' b' p' x' r' c' b' p' x' _ hb' hb' hp' hp') (show _ = true by rw [tell_refl, Bool.or_true])).mono ?_
    rintro e u1 ⟨rfl, hu1⟩
    have xu1 : Ext B u1 := xu0.trans hu1
    clear K
    have K := hS.out _ xu1
    go_wp2
    go_ret
    exact ⟨rfl, hwB.trans xu1⟩
  · go_wp2_with fail
    refine (asb (vsuperior_any r' c' b' p' x' r' c' b' p' x' _ hb' hb' hp' hp') (show _ = true by rw [tell_refl, Bool.or_true])).mono ?_
    rintro e u0 ⟨rfl, hu0⟩
    have xu0 : Ext B u0 := hx4.trans hu0
    clear K
    have K := hS.out _ xu0
    go_wp2
    go_ret
    exact ⟨rfl, hwB.trans xu0⟩
  · go_wp2_with fail
    refine (asb (vsuperior_any r c b p x r' c' b' p' x' _ hb hb' hp hp') (show _ = false by rw [FS.out, FT.out (by first | rfl | trivial)]; rfl)).mono ?_
    rintro e u0 ⟨rfl, hu0⟩
    have xu0 : Ext B u0 := hx3.trans hu0
    clear K
    have K := hS.out _ xu0
    go_wp2_with fail
    refine (asb (vsuperior_any r' c' b' p' x' r' c' b' p' x' _ hb' hb' hp' hp') (show _ = true by rw [tell_refl, Bool.or_true])).mono ?_
    rintro e u1 ⟨rfl, hu1⟩
    have xu1 : Ext B u1 := xu0.trans hu1
    clear K
    have K := hS.out _ xu1
    go_wp2
    go_ret
    exact ⟨rfl, hwB.trans xu1⟩
  · go_wp2_with fail
    refine (asb (vsuperior_any r c b p x r' c' b' p' x' _ hb hb' hp hp') (show _ = false by rw [FS.out, FT.out (by first | rfl | trivial)]; rfl)).mono ?_
    rintro e u0 ⟨rfl, hu0⟩
    have xu0 : Ext B u0 := hx3.trans hu0
    clear K
    have K := hS.out _ xu0
    go_wp2_with fail
    refine (asb (vsuperior_any r' c' b' p' x' r' c' b' p' x' _ hb' hb' hp' hp') (show _ = true by rw [tell_refl, Bool.or_true])).mono ?_
    rintro e u1 ⟨rfl, hu1⟩
    have xu1 : Ext B u1 := xu0.trans hu1
    clear K
    have K := hS.out _ xu1
    go_wp2
    go_ret
    exact ⟨rfl, hwB.trans xu1⟩
  · go_wp2_with fail
    refine (asb (vsuperior_any r c b p x r' c' b' p' x' _ hb hb' hp hp') (show _ = true by rw [FS.out]; simp)).mono ?_
    rintro e u0 ⟨rfl, hu0⟩
    have xu0 : Ext B u0 := hx4.trans hu0
    clear K
    have K := hS.out _ xu0
    go_wp2_with fail
    refine (asb (vsuperior_any r c b p x r' c' b' p' x' _ hb hb' hp hp') (show _ = true by rw [FS.out]; simp)).mono ?_
    rintro e u1 ⟨rfl, hu1⟩
    have xu1 : Ext B u1 := xu0.trans hu1
    clear K
    have K := hS.out _ xu1
    go_wp2_with fail
    refine (asb (vsuperior_any r' c' b' p' x' r' c' b' p' x' _ hb' hb' hp' hp') (show _ = true by rw [tell_refl, Bool.or_true])).mono ?_
    rintro e u2 ⟨rfl, hu2⟩
    have xu2 : Ext B u2 := xu1.trans hu2
    clear K
    have K := hS.out _ xu2
    go_wp2
    go_ret
    exact ⟨rfl, hwB.trans xu2⟩
  · go_wp2_with fail
    refine (asb (vsuperior_any r c b p x r' c' b' p' x' _ hb hb' hp hp') (show _ = false by rw [FS.out, FT.out (by first | rfl | trivial)]; rfl)).mono ?_
    rintro e u0 ⟨rfl, hu0⟩
    have xu0 : Ext B u0 := hx4.trans hu0
    clear K
    have K := hS.out _ xu0
    go_wp2_with fail
    refine (asb (vsuperior_any r' c' b' p' x' r' c' b' p' x' _ hb' hb' hp' hp') (show _ = true by rw [tell_refl, Bool.or_true])).mono ?_
    rintro e u1 ⟨rfl, hu1⟩
    have xu1 : Ext B u1 := xu0.trans hu1
    clear K
    have K := hS.out _ xu1
    go_wp2
    go_ret
    exact ⟨rfl, hwB.trans xu1⟩

end Go.Proofs.Ytgiobcbdbhnneab
