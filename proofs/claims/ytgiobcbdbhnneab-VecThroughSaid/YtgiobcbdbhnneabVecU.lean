/- The walk of the law VecThrough. -/
import Derived.Test.YtgiobcbdbhnneabVecW
namespace Go.Proofs.Ytgiobcbdbhnneab
open Go.RowKit
set_option linter.unusedVariables false

/-- A vector that is laid reads as it was laid. -/
theorem vec_held (w : World) {t : TypeId} {r c b p x : Int} {w' : World} (hx : Ext (w.alloc (.cells #[.int .u64 r, .int .u32 c, .int .u64 b, .int .u16 p, .int .u16 x] t)) w') : w'.cell? ⟨w.heap.size, 0, none⟩ = some (.int .u64 r) ∧ w'.cell? ⟨w.heap.size, 1, none⟩ = some (.int .u32 c) ∧ w'.cell? ⟨w.heap.size, 2, none⟩ = some (.int .u64 b) ∧ w'.cell? ⟨w.heap.size, 3, none⟩ = some (.int .u16 p) ∧ w'.cell? ⟨w.heap.size, 4, none⟩ = some (.int .u16 x) := by
  have n : ∀ j, w'.cell? ⟨w.heap.size, j, none⟩ = #[.int .u64 r, .int .u32 c, .int .u64 b, .int .u16 p, .int .u16 x][j]? := fun j => (hx.cell (by simp)).trans (World.cell?_alloc_at _ _ _ _ rfl)
  exact ⟨n 0, n 1, n 2, n 3, n 4⟩

theorem thr_rg {c q : Int} (hc : 0 ≤ c ∧ c < 4294967296) (hq : 0 ≤ q ∧ q < 4294967296) : 0 ≤ thr c q ∧ thr c q < 4294967296 := by
  unfold thr
  split <;> omega
theorem thr_turn {c q q' : Int} (hc : 0 ≤ c ∧ c < 4294967296) (hq : 0 ≤ q ∧ q < 4294967296) (hq' : 0 ≤ q' ∧ q' < 4294967296) : thr (thr c q') q = thr (thr c q) q' := by
  unfold thr
  (repeat' split) <;> omega

set_option maxHeartbeats 12800000 in
theorem law_VecThrough (r : Int) (hr : 0 ≤ r ∧ r < 18446744073709551616) (c : Int) (hc : 0 ≤ c ∧ c < 4294967296) (b : Int) (hb : 0 ≤ b ∧ b < 18446744073709551616) (p : Int) (hp : 0 ≤ p ∧ p < 65536) (x : Int) (hx : 0 ≤ x ∧ x < 65536) (r' : Int) (hr' : 0 ≤ r' ∧ r' < 18446744073709551616) (c' : Int) (hc' : 0 ≤ c' ∧ c' < 4294967296) (b' : Int) (hb' : 0 ≤ b' ∧ b' < 18446744073709551616) (p' : Int) (hp' : 0 ≤ p' ∧ p' < 65536) (x' : Int) (hx' : 0 ≤ x' ∧ x' < 65536) (q : Int) (hq : 0 ≤ q ∧ q < 4294967296) (q' : Int) (hq' : 0 ≤ q' ∧ q' < 4294967296) (z : Int) (hz : 0 ≤ z ∧ z < 65536) (w : World) :
    Calls Try.prog 3 #[.agg #[.int .u64 r, .int .u32 c, .int .u64 b, .int .u16 p, .int .u16 x], .agg #[.int .u64 r', .int .u32 c', .int .u64 b', .int .u16 p', .int .u16 x'], .int .u32 q, .int .u32 q', .int .u16 z] w fun e w' => e = .returned (.bool true) ∧ Ext w w' := by
  clear hr hb hp hx hr' hb' hp' hx' hz
  have HA := Lib.hid (fun w' (hx : Ext ((w.alloc (.cells #[.int .u64 r, .int .u32 c, .int .u64 b, .int .u16 p, .int .u16 x] 26)).alloc (.cells #[.int .u64 r', .int .u32 c', .int .u64 b', .int .u16 p', .int .u16 x'] 26)) w') => two_held r c b p x r' c' b' p' x' hx)
  have TC := Lib.hid (thr_turn hc hq hq')
  obtain ⟨X8, hX8⟩ : ∃ X8 : Int, c5 r c b p x r' c' b' p' x' = X8 := ⟨_, rfl⟩
  obtain ⟨X9, hX9⟩ : ∃ X9 : Int, c5 r (thr c q) b p x r c b p x = X9 := ⟨_, rfl⟩
  have g9 : 0 ≤ X9 := by
    have h1 := c5_rg r (thr c q) b p x r c b p x
    rw [hX9] at h1
    have h2 : c ≤ thr c q := by unfold thr; split <;> omega
    omega
  obtain ⟨er, fr⟩ : ∃ er : Bool, (r == r') = er := ⟨_, rfl⟩
  obtain ⟨ec, fc⟩ : ∃ ec : Bool, (c != c') = ec := ⟨_, rfl⟩
  obtain ⟨e1, f1⟩ : ∃ e1 : Bool, decide (X8 < 0) = e1 := ⟨_, rfl⟩
  obtain ⟨e5, f5⟩ : ∃ e5 : Bool, decide (thr c' q < thr c q) = e5 := ⟨_, rfl⟩
  have fn : (r != r') = !er := by rw [← fr]; rfl
  have hcon : (e1 && er && e5) = false := by
    refine b_false ?_
    rw [← f1, ← fr, ← f5, ← hX8]
    simp only [Bool.and_eq_true, decide_eq_true_eq, beq_iff_eq]
    rintro ⟨⟨u1, u2⟩, u3⟩
    have h1 := c5_rg r c b p x r' c' b' p' x'
    have h2 : c ≤ c' := by omega
    have h3 : thr c q ≤ thr c' q := by unfold thr; (repeat' split) <;> omega
    omega
  have E8 := Lib.hid hX8
  have E9 := Lib.hid hX9
  have F1 := Lib.hid f1
  have F5 := Lib.hid f5
  have FN := Lib.hid fn
  have FC := Lib.hid fc
  have FR := Lib.hid fr
  have HC := Lib.hid hcon
  clear hX8 hX9 f1 f5 fn fc fr hcon
  have he := eq_vec
  have hg := guard_vec
  go_enter Try.func3, Try.ntmps3
  go_wp2_with fail
  generalize hB : (w.alloc (Obj.cells #[Value.int IntKind.u64 r, Value.int IntKind.u32 c, Value.int IntKind.u64 b, Value.int IntKind.u16 p, Value.int IntKind.u16 x] 26)).alloc (Obj.cells #[Value.int IntKind.u64 r', Value.int IntKind.u32 c', Value.int IntKind.u64 b', Value.int IntKind.u16 p', Value.int IntKind.u16 x'] 26) = B at HA ⊢
  have hwB : Ext w B := by rw [← hB]; exact ((Ext.refl w).alloc _).alloc _
  have hBs : w.heap.size + 1 < B.heap.size := by rw [← hB]; simp
  clear hB
  refine (awake3 _).mono ?_
  rintro e w1 ⟨rfl, h1⟩
  have K := HA.out _ h1
  go_wp2_with fail
  refine (vthrough_any _ _ _ _ _ _ _ _ hc hq).mono ?_
  rintro e w2 ⟨rfl, h2⟩
  have xAw2 := (h1).trans h2
  clear K
  have K := HA.out _ xAw2
  have sw2 : w.heap.size + 1 < w2.heap.size := Nat.lt_of_lt_of_le hBs xAw2.size
  have yw2 : w.heap.size < w2.heap.size := Nat.lt_of_succ_lt sw2
  have HX := Lib.hid (fun W (hx : Ext (w2.alloc (.cells #[.int .u64 r, .int .u32 (thr c q), .int .u64 b, .int .u16 p, .int .u16 x] 26)) W) => vec_held w2 hx)
  go_wp2_with fail
  refine (vthrough_any _ _ _ _ _ _ _ _ hc hq).mono ?_
  rintro e w3 ⟨rfl, h3⟩
  have xAw3 := ((xAw2).alloc (Obj.cells #[.int .u64 r, .int .u32 (thr c q), .int .u64 b, .int .u16 p, .int .u16 x] 26)).trans h3
  have xXw3 := (Ext.refl (w2.alloc (Obj.cells #[.int .u64 r, .int .u32 (thr c q), .int .u64 b, .int .u16 p, .int .u16 x] 26))).trans h3
  clear K
  have K := And.intro (HA.out _ xAw3) (HX.out _ xXw3)
  have sw3 : w.heap.size + 1 < w3.heap.size := Nat.lt_of_lt_of_le hBs xAw3.size
  have yw3 : w.heap.size < w3.heap.size := Nat.lt_of_succ_lt sw3
  go_wp2_with fail
  refine (vthrough_any _ _ _ _ _ _ _ _ (thr_rg hc hq) hq').mono ?_
  rintro e w4 ⟨rfl, h4⟩
  have xAw4 := (xAw3).trans h4
  have xXw4 := (xXw3).trans h4
  clear K
  have K := And.intro (HA.out _ xAw4) (HX.out _ xXw4)
  have sw4 : w.heap.size + 1 < w4.heap.size := Nat.lt_of_lt_of_le hBs xAw4.size
  have yw4 : w.heap.size < w4.heap.size := Nat.lt_of_succ_lt sw4
  have HY := Lib.hid (fun W (hx : Ext (w4.alloc (.cells #[.int .u64 r, .int .u32 (thr (thr c q) q'), .int .u64 b, .int .u16 p, .int .u16 z] 26)) W) => vec_held w4 hx)
  go_wp2_with fail
  refine (vthrough_any _ _ _ _ _ _ _ _ hc hq').mono ?_
  rintro e w5 ⟨rfl, h5⟩
  have xAw5 := ((xAw4).alloc (Obj.cells #[.int .u64 r, .int .u32 (thr (thr c q) q'), .int .u64 b, .int .u16 p, .int .u16 z] 26)).trans h5
  have xXw5 := ((xXw4).alloc (Obj.cells #[.int .u64 r, .int .u32 (thr (thr c q) q'), .int .u64 b, .int .u16 p, .int .u16 z] 26)).trans h5
  have xYw5 := (Ext.refl (w4.alloc (Obj.cells #[.int .u64 r, .int .u32 (thr (thr c q) q'), .int .u64 b, .int .u16 p, .int .u16 z] 26))).trans h5
  clear K
  have K := And.intro (HA.out _ xAw5) (And.intro (HX.out _ xXw5) (HY.out _ xYw5))
  have sw5 : w.heap.size + 1 < w5.heap.size := Nat.lt_of_lt_of_le hBs xAw5.size
  have yw5 : w.heap.size < w5.heap.size := Nat.lt_of_succ_lt sw5
  go_wp2_with fail
  refine (asv (vthrough_any _ _ _ _ _ _ _ _ (thr_rg hc hq') hq) (show _ = Value.agg #[.int .u64 r, .int .u32 (thr (thr c q) q'), .int .u64 b, .int .u16 p, .int .u16 z] by rw [TC.out])).mono ?_
  rintro e w6 ⟨rfl, h6⟩
  have xAw6 := (xAw5).trans h6
  have xXw6 := (xXw5).trans h6
  have xYw6 := (xYw5).trans h6
  clear K
  have K := And.intro (HA.out _ xAw6) (And.intro (HX.out _ xXw6) (HY.out _ xYw6))
  have sw6 : w.heap.size + 1 < w6.heap.size := Nat.lt_of_lt_of_le hBs xAw6.size
  have yw6 : w.heap.size < w6.heap.size := Nat.lt_of_succ_lt sw6
  have HZ := Lib.hid (fun W (hx : Ext (w6.alloc (.cells #[.int .u64 r, .int .u32 (thr (thr c q) q'), .int .u64 b, .int .u16 p, .int .u16 z] 26)) W) => vec_held w6 hx)
  go_wp2_with fail
  refine (vthrough_any _ _ _ _ _ _ _ _ hc hq).mono ?_
  rintro e w7 ⟨rfl, h7⟩
  have xAw7 := ((xAw6).alloc (Obj.cells #[.int .u64 r, .int .u32 (thr (thr c q) q'), .int .u64 b, .int .u16 p, .int .u16 z] 26)).trans h7
  have xXw7 := ((xXw6).alloc (Obj.cells #[.int .u64 r, .int .u32 (thr (thr c q) q'), .int .u64 b, .int .u16 p, .int .u16 z] 26)).trans h7
  have xYw7 := ((xYw6).alloc (Obj.cells #[.int .u64 r, .int .u32 (thr (thr c q) q'), .int .u64 b, .int .u16 p, .int .u16 z] 26)).trans h7
  have xZw7 := (Ext.refl (w6.alloc (Obj.cells #[.int .u64 r, .int .u32 (thr (thr c q) q'), .int .u64 b, .int .u16 p, .int .u16 z] 26))).trans h7
  clear K
  have K := And.intro (HA.out _ xAw7) (And.intro (HX.out _ xXw7) (And.intro (HY.out _ xYw7) (HZ.out _ xZw7)))
  have sw7 : w.heap.size + 1 < w7.heap.size := Nat.lt_of_lt_of_le hBs xAw7.size
  have yw7 : w.heap.size < w7.heap.size := Nat.lt_of_succ_lt sw7
  have HM := Lib.hid (fun W (hx : Ext (w7.alloc (.cells #[.int .u64 r, .int .u32 (thr c q), .int .u64 b, .int .u16 p, .int .u16 z] 26)) W) => vec_held w7 hx)
  go_wp2_with fail
  refine (vthrough_any _ _ _ _ _ _ _ _ hc' hq).mono ?_
  rintro e w8 ⟨rfl, h8⟩
  have xAw8 := ((xAw7).alloc (Obj.cells #[.int .u64 r, .int .u32 (thr c q), .int .u64 b, .int .u16 p, .int .u16 z] 26)).trans h8
  have xXw8 := ((xXw7).alloc (Obj.cells #[.int .u64 r, .int .u32 (thr c q), .int .u64 b, .int .u16 p, .int .u16 z] 26)).trans h8
  have xYw8 := ((xYw7).alloc (Obj.cells #[.int .u64 r, .int .u32 (thr c q), .int .u64 b, .int .u16 p, .int .u16 z] 26)).trans h8
  have xZw8 := ((xZw7).alloc (Obj.cells #[.int .u64 r, .int .u32 (thr c q), .int .u64 b, .int .u16 p, .int .u16 z] 26)).trans h8
  have xMw8 := (Ext.refl (w7.alloc (Obj.cells #[.int .u64 r, .int .u32 (thr c q), .int .u64 b, .int .u16 p, .int .u16 z] 26))).trans h8
  clear K
  have K := And.intro (HA.out _ xAw8) (And.intro (HX.out _ xXw8) (And.intro (HY.out _ xYw8) (And.intro (HZ.out _ xZw8) (HM.out _ xMw8))))
  have sw8 : w.heap.size + 1 < w8.heap.size := Nat.lt_of_lt_of_le hBs xAw8.size
  have yw8 : w.heap.size < w8.heap.size := Nat.lt_of_succ_lt sw8
  have HN := Lib.hid (fun W (hx : Ext (w8.alloc (.cells #[.int .u64 r', .int .u32 (thr c' q), .int .u64 b', .int .u16 p', .int .u16 z] 26)) W) => vec_held w8 hx)
  go_wp2_with fail
  refine (asi (vcmp_any _ _ _ _ _ _ _ _ _ _ _) (show _ = X8 from E8.out)).mono ?_
  rintro e w9 ⟨rfl, h9⟩
  have xAw9 := ((xAw8).alloc (Obj.cells #[.int .u64 r', .int .u32 (thr c' q), .int .u64 b', .int .u16 p', .int .u16 z] 26)).trans h9
  have xXw9 := ((xXw8).alloc (Obj.cells #[.int .u64 r', .int .u32 (thr c' q), .int .u64 b', .int .u16 p', .int .u16 z] 26)).trans h9
  have xYw9 := ((xYw8).alloc (Obj.cells #[.int .u64 r', .int .u32 (thr c' q), .int .u64 b', .int .u16 p', .int .u16 z] 26)).trans h9
  have xZw9 := ((xZw8).alloc (Obj.cells #[.int .u64 r', .int .u32 (thr c' q), .int .u64 b', .int .u16 p', .int .u16 z] 26)).trans h9
  have xMw9 := ((xMw8).alloc (Obj.cells #[.int .u64 r', .int .u32 (thr c' q), .int .u64 b', .int .u16 p', .int .u16 z] 26)).trans h9
  have xNw9 := (Ext.refl (w8.alloc (Obj.cells #[.int .u64 r', .int .u32 (thr c' q), .int .u64 b', .int .u16 p', .int .u16 z] 26))).trans h9
  clear K
  have K := And.intro (HA.out _ xAw9) (And.intro (HX.out _ xXw9) (And.intro (HY.out _ xYw9) (And.intro (HZ.out _ xZw9) (And.intro (HM.out _ xMw9) (HN.out _ xNw9)))))
  have sw9 : w.heap.size + 1 < w9.heap.size := Nat.lt_of_lt_of_le hBs xAw9.size
  have yw9 : w.heap.size < w9.heap.size := Nat.lt_of_succ_lt sw9
  cases er <;> cases ec <;> cases e1 <;> cases e5
  all_goals
    first
    | (exfalso; exact absurd HC.out (by decide))
    | (have f1 := F1.out
       have f5 := F5.out
       have fn := FN.out
       have fc := FC.out
       have fr := FR.out
       simp only [Bool.not_true, Bool.not_false] at fn
       go_wp2_with fail
       refine (asi (vcmp_any _ _ _ _ _ _ _ _ _ _ _) (show _ = X9 from E9.out)).mono ?_
       rintro e w10 ⟨rfl, h10⟩
       have xAw10 := (xAw9).trans h10
       have xXw10 := (xXw9).trans h10
       have xYw10 := (xYw9).trans h10
       have xZw10 := (xZw9).trans h10
       have xMw10 := (xMw9).trans h10
       have xNw10 := (xNw9).trans h10
       clear K
       have K := And.intro (HA.out _ xAw10) (And.intro (HX.out _ xXw10) (And.intro (HY.out _ xYw10) (And.intro (HZ.out _ xZw10) (And.intro (HM.out _ xMw10) (HN.out _ xNw10)))))
       have sw10 : w.heap.size + 1 < w10.heap.size := Nat.lt_of_lt_of_le hBs xAw10.size
       have yw10 : w.heap.size < w10.heap.size := Nat.lt_of_succ_lt sw10
       go_wp2
       go_ret
       exact ⟨retB (by simp), hwB.trans xAw10⟩)

end Go.Proofs.Ytgiobcbdbhnneab
