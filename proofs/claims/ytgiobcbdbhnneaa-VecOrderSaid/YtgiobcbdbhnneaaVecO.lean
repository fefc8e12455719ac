/- The walk of the law VecOrder. -/
import Derived.Test.YtgiobcbdbhnneaaVecW
namespace Go.Proofs.Ytgiobcbdbhnneaa
open Go.RowKit
set_option linter.unusedVariables false

theorem three_held {r c b p x r' c' b' p' x' r'' c'' b'' p'' x'' : Int} {w : World} {t : TypeId} {w' : World} (hx : Ext (((w.alloc (.cells #[.int .u64 r, .int .u32 c, .int .u64 b, .int .u16 p, .int .u16 x] t)).alloc (.cells #[.int .u64 r', .int .u32 c', .int .u64 b', .int .u16 p', .int .u16 x'] t)).alloc (.cells #[.int .u64 r'', .int .u32 c'', .int .u64 b'', .int .u16 p'', .int .u16 x''] t)) w') :
    (w'.cell? ⟨w.heap.size, 0, none⟩ = some (.int .u64 r) ∧ w'.cell? ⟨w.heap.size, 1, none⟩ = some (.int .u32 c) ∧ w'.cell? ⟨w.heap.size, 2, none⟩ = some (.int .u64 b) ∧ w'.cell? ⟨w.heap.size, 3, none⟩ = some (.int .u16 p) ∧ w'.cell? ⟨w.heap.size, 4, none⟩ = some (.int .u16 x)) ∧ (w'.cell? ⟨w.heap.size + 1, 0, none⟩ = some (.int .u64 r') ∧ w'.cell? ⟨w.heap.size + 1, 1, none⟩ = some (.int .u32 c') ∧ w'.cell? ⟨w.heap.size + 1, 2, none⟩ = some (.int .u64 b') ∧ w'.cell? ⟨w.heap.size + 1, 3, none⟩ = some (.int .u16 p') ∧ w'.cell? ⟨w.heap.size + 1, 4, none⟩ = some (.int .u16 x')) ∧ (w'.cell? ⟨w.heap.size + 1 + 1, 0, none⟩ = some (.int .u64 r'') ∧ w'.cell? ⟨w.heap.size + 1 + 1, 1, none⟩ = some (.int .u32 c'') ∧ w'.cell? ⟨w.heap.size + 1 + 1, 2, none⟩ = some (.int .u64 b'') ∧ w'.cell? ⟨w.heap.size + 1 + 1, 3, none⟩ = some (.int .u16 p'') ∧ w'.cell? ⟨w.heap.size + 1 + 1, 4, none⟩ = some (.int .u16 x'')) := by
  have o : ∀ j, w'.cell? ⟨w.heap.size, j, none⟩ = #[.int .u64 r, .int .u32 c, .int .u64 b, .int .u16 p, .int .u16 x][j]? := fun j => (hx.cell (by simp; omega)).trans ((World.cell?_alloc_past _ _ _ (by simp; omega)).trans ((World.cell?_alloc_past _ _ _ (by simp)).trans (World.cell?_alloc_at _ _ _ _ rfl)))
  have n : ∀ j, w'.cell? ⟨w.heap.size + 1, j, none⟩ = #[.int .u64 r', .int .u32 c', .int .u64 b', .int .u16 p', .int .u16 x'][j]? := fun j => (hx.cell (by simp)).trans ((World.cell?_alloc_past _ _ _ (by simp)).trans (World.cell?_alloc_at _ _ _ _ (by simp)))
  have m : ∀ j, w'.cell? ⟨w.heap.size + 1 + 1, j, none⟩ = #[.int .u64 r'', .int .u32 c'', .int .u64 b'', .int .u16 p'', .int .u16 x''][j]? := fun j => (hx.cell (by simp)).trans (World.cell?_alloc_at _ _ _ _ (by simp))
  exact ⟨⟨o 0, o 1, o 2, o 3, o 4⟩, ⟨n 0, n 1, n 2, n 3, n 4⟩, m 0, m 1, m 2, m 3, m 4⟩

theorem c5_turn (r c b p x r' c' b' p' x' : Int) : c5 r' c' b' p' x' r c b p x = -(c5 r c b p x r' c' b' p' x') := by
  have h1 := c5_rg r c b p x r' c' b' p' x'
  have h2 := c5_rg r' c' b' p' x' r c b p x
  omega

theorem c5_le (r c b p x r' c' b' p' x' : Int) : c5 r c b p x r' c' b' p' x' ≤ 0 ↔ (r < r' ∨ r = r' ∧ (c < c' ∨ c = c' ∧ (b < b' ∨ b = b' ∧ (p < p' ∨ p = p' ∧ x ≤ x')))) := by
  have h1 := c5_rg r c b p x r' c' b' p' x'
  omega

theorem c5_trans1 (r c b p x r' c' b' p' x' r'' c'' b'' p'' x'' : Int) : c5 r c b p x r' c' b' p' x' ≤ 0 → c5 r' c' b' p' x' r'' c'' b'' p'' x'' ≤ 0 → c5 r c b p x r'' c'' b'' p'' x'' ≤ 0 := by
  rw [c5_le, c5_le, c5_le]
  rintro (h | ⟨rfl, h | ⟨rfl, h | ⟨rfl, h | ⟨rfl, h⟩⟩⟩⟩) (k | ⟨rfl, k | ⟨rfl, k | ⟨rfl, k | ⟨rfl, k⟩⟩⟩⟩) <;> omega

theorem c5_trans (r c b p x r' c' b' p' x' r'' c'' b'' p'' x'' : Int) : (c5 r c b p x r' c' b' p' x' ≤ 0 → c5 r' c' b' p' x' r'' c'' b'' p'' x'' ≤ 0 → c5 r c b p x r'' c'' b'' p'' x'' ≤ 0) ∧ (0 ≤ c5 r c b p x r' c' b' p' x' → 0 ≤ c5 r' c' b' p' x' r'' c'' b'' p'' x'' → 0 ≤ c5 r c b p x r'' c'' b'' p'' x'') := by
  refine ⟨c5_trans1 _ _ _ _ _ _ _ _ _ _ _ _ _ _ _, fun h1 h2 => ?_⟩
  have h4 := c5_turn r c b p x r' c' b' p' x'
  have h5 := c5_turn r' c' b' p' x' r'' c'' b'' p'' x''
  have h6 := c5_turn r c b p x r'' c'' b'' p'' x''
  have h7 := c5_trans1 r'' c'' b'' p'' x'' r' c' b' p' x' r c b p x (by omega) (by omega)
  omega

set_option maxHeartbeats 12800000 in
theorem law_VecOrder (r : Int) (hr : 0 ≤ r ∧ r < 18446744073709551616) (c : Int) (hc : 0 ≤ c ∧ c < 4294967296) (b : Int) (hb : 0 ≤ b ∧ b < 18446744073709551616) (p : Int) (hp : 0 ≤ p ∧ p < 65536) (x : Int) (hx : 0 ≤ x ∧ x < 65536) (r' : Int) (hr' : 0 ≤ r' ∧ r' < 18446744073709551616) (c' : Int) (hc' : 0 ≤ c' ∧ c' < 4294967296) (b' : Int) (hb' : 0 ≤ b' ∧ b' < 18446744073709551616) (p' : Int) (hp' : 0 ≤ p' ∧ p' < 65536) (x' : Int) (hx' : 0 ≤ x' ∧ x' < 65536) (r'' : Int) (hr'' : 0 ≤ r'' ∧ r'' < 18446744073709551616) (c'' : Int) (hc'' : 0 ≤ c'' ∧ c'' < 4294967296) (b'' : Int) (hb'' : 0 ≤ b'' ∧ b'' < 18446744073709551616) (p'' : Int) (hp'' : 0 ≤ p'' ∧ p'' < 65536) (x'' : Int) (hx'' : 0 ≤ x'' ∧ x'' < 65536) (w : World) :
    Calls Try.prog 14 #[.agg #[.int .u64 r, .int .u32 c, .int .u64 b, .int .u16 p, .int .u16 x], .agg #[.int .u64 r', .int .u32 c', .int .u64 b', .int .u16 p', .int .u16 x'], .agg #[.int .u64 r'', .int .u32 c'', .int .u64 b'', .int .u16 p'', .int .u16 x'']] w fun e w' => e = .returned (.bool true) ∧ Ext w w' := by
  clear hr hc hb hp hx hr' hc' hb' hp' hx' hr'' hc'' hb'' hp'' hx''
  have hS := Lib.hid (fun w' (hx : Ext (((w.alloc (.cells #[.int .u64 r, .int .u32 c, .int .u64 b, .int .u16 p, .int .u16 x] 56)).alloc (.cells #[.int .u64 r', .int .u32 c', .int .u64 b', .int .u16 p', .int .u16 x'] 56)).alloc (.cells #[.int .u64 r'', .int .u32 c'', .int .u64 b'', .int .u16 p'', .int .u16 x''] 56)) w') => three_held hx)
  obtain ⟨X, hX⟩ : ∃ X : Int, c5 r c b p x r' c' b' p' x' = X := ⟨_, rfl⟩
  obtain ⟨Y, hY⟩ : ∃ Y : Int, c5 r' c' b' p' x' r'' c'' b'' p'' x'' = Y := ⟨_, rfl⟩
  obtain ⟨Z, hZ⟩ : ∃ Z : Int, c5 r c b p x r'' c'' b'' p'' x'' = Z := ⟨_, rfl⟩
  have gx := c5_rg r c b p x r' c' b' p' x'
  have gt := c5_trans r c b p x r' c' b' p' x' r'' c'' b'' p'' x''
  have gn := c5_turn r c b p x r' c' b' p' x'
  rw [hX] at gx gt gn
  rw [hY, hZ] at gt
  have gq : (X == 0) = (r == r' && c == c' && b == b' && p == p' && x == x') := by
    rw [Bool.eq_iff_iff]
    simp only [Bool.and_eq_true, beq_iff_eq]
    omega
  have HX := Lib.hid hX
  have HY := Lib.hid hY
  have HZ := Lib.hid hZ
  have HN := Lib.hid gn
  have GQ := Lib.hid gq
  obtain ⟨gx0, gx1, _, _⟩ := gx
  have GT := Lib.hid gt
  clear hX hY hZ gn gq gt
  have he := eq_vec
  have hg := guard_vec
  go_enter Try.func14, Try.ntmps14
  go_wp2_with fail
  generalize hB : ((w.alloc (Obj.cells #[Value.int IntKind.u64 r, Value.int IntKind.u32 c, Value.int IntKind.u64 b, Value.int IntKind.u16 p, Value.int IntKind.u16 x] 56)).alloc (Obj.cells #[Value.int IntKind.u64 r', Value.int IntKind.u32 c', Value.int IntKind.u64 b', Value.int IntKind.u16 p', Value.int IntKind.u16 x'] 56)).alloc (Obj.cells #[Value.int IntKind.u64 r'', Value.int IntKind.u32 c'', Value.int IntKind.u64 b'', Value.int IntKind.u16 p'', Value.int IntKind.u16 x''] 56) = B at hS ⊢
  have hwB : Ext w B := by rw [← hB]; exact (((Ext.refl w).alloc _).alloc _).alloc _
  clear hB
  refine (awake3 _).mono ?_
  rintro e w1 ⟨rfl, h1⟩
  have K := hS.out _ h1
  go_wp2_with fail
  refine (asi (vcmp_any _ _ _ _ _ _ _ _ _ _ _) (show _ = X from HX.out)).mono ?_
  rintro e w2 ⟨rfl, h2⟩
  have hx2 := h1.trans h2
  clear K
  have K := hS.out _ hx2
  go_wp2_with fail
  refine (asi (vcmp_any _ _ _ _ _ _ _ _ _ _ _) (show _ = Y from HY.out)).mono ?_
  rintro e w3 ⟨rfl, h3⟩
  have hx3 := hx2.trans h3
  clear K
  have K := hS.out _ hx3
  go_wp2_with fail
  refine (asi (vcmp_any _ _ _ _ _ _ _ _ _ _ _) (show _ = Z from HZ.out)).mono ?_
  rintro e w4 ⟨rfl, h4⟩
  have hx4 := hx3.trans h4
  clear K
  have K := hS.out _ hx4
  rcases (show X < 0 ∨ (X ≤ 0 ∧ 0 ≤ X) ∨ 0 < X by omega) with s1 | ⟨s1, s1'⟩ | s1 <;> rcases (show Y < 0 ∨ (Y ≤ 0 ∧ 0 ≤ Y) ∨ 0 < Y by omega) with s2 | ⟨s2, s2'⟩ | s2 <;> rcases (show Z < 0 ∨ (Z ≤ 0 ∧ 0 ≤ Z) ∨ 0 < Z by omega) with s3 | ⟨s3, s3'⟩ | s3
  all_goals
    first
    | (exfalso; have := GT.out; omega)
    | (have o1 : X ≤ 1 := gx1
       have o0 : -1 ≤ X := gx0
       have d1 : decide (X ≤ 0) = decide (X ≤ 0) := rfl
       clear d1
       go_wp2_with fail
       refine (asi (vcmp_any _ _ _ _ _ _ _ _ _ _ _) HN.out).mono ?_
       rintro e w5 ⟨rfl, h5⟩
       have hx5 := hx4.trans h5
       clear K
       have K := hS.out _ hx5
       go_wp2
       go_ret
       exact ⟨retB (by rw [← GQ.out]; simp), hwB.trans hx5⟩)
  all_goals trace_state
  all_goals sorry

end Go.Proofs.Ytgiobcbdbhnneaa
