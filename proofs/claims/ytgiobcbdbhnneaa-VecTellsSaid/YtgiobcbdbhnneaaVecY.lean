/- The walk of the law VecTells. -/
import Derived.Test.YtgiobcbdbhnneaaVecR
namespace Go.Proofs.Ytgiobcbdbhnneaa
open Go.RowKit
set_option linter.unusedVariables false

/-- A vector that is laid reads as it was laid. -/
theorem vec_held (w : World) {t : TypeId} {r c b p x : Int} {w' : World} (hx : Ext (w.alloc (.cells #[.int .u64 r, .int .u32 c, .int .u64 b, .int .u16 p, .int .u16 x] t)) w') : w'.cell? ⟨w.heap.size, 0, none⟩ = some (.int .u64 r) ∧ w'.cell? ⟨w.heap.size, 1, none⟩ = some (.int .u32 c) ∧ w'.cell? ⟨w.heap.size, 2, none⟩ = some (.int .u64 b) ∧ w'.cell? ⟨w.heap.size, 3, none⟩ = some (.int .u16 p) ∧ w'.cell? ⟨w.heap.size, 4, none⟩ = some (.int .u16 x) := by
  have n : ∀ j, w'.cell? ⟨w.heap.size, j, none⟩ = #[.int .u64 r, .int .u32 c, .int .u64 b, .int .u16 p, .int .u16 x][j]? := fun j => (hx.cell (by simp)).trans (World.cell?_alloc_at _ _ _ _ rfl)
  exact ⟨n 0, n 1, n 2, n 3, n 4⟩

set_option maxHeartbeats 12800000 in
theorem law_VecTells (r : Int) (hr : 0 ≤ r ∧ r < 18446744073709551616) (c : Int) (hc : 0 ≤ c ∧ c < 4294967296) (b : Int) (hb : 0 ≤ b ∧ b < 18446744073709551616) (p : Int) (hp : 0 ≤ p ∧ p < 65536) (x : Int) (hx : 0 ≤ x ∧ x < 65536) (r' : Int) (hr' : 0 ≤ r' ∧ r' < 18446744073709551616) (c' : Int) (hc' : 0 ≤ c' ∧ c' < 4294967296) (b' : Int) (hb' : 0 ≤ b' ∧ b' < 18446744073709551616) (p' : Int) (hp' : 0 ≤ p' ∧ p' < 65536) (x' : Int) (hx' : 0 ≤ x' ∧ x' < 65536) (q : Int) (hq : 0 ≤ q ∧ q < 4294967296) (z : Int) (hz : 0 ≤ z ∧ z < 65536) (w : World) :
    Calls Try.prog 13 #[.agg #[.int .u64 r, .int .u32 c, .int .u64 b, .int .u16 p, .int .u16 x], .agg #[.int .u64 r', .int .u32 c', .int .u64 b', .int .u16 p', .int .u16 x'], .int .u32 q, .int .u16 z] w fun e w' => e = .returned (.bool true) ∧ Ext w w' := by
  clear hr hx hr' hc' hx' hz
  have hS := Lib.hid (fun w' (hx : Ext ((w.alloc (.cells #[.int .u64 r, .int .u32 c, .int .u64 b, .int .u16 p, .int .u16 x] 56)).alloc (.cells #[.int .u64 r', .int .u32 c', .int .u64 b', .int .u16 p', .int .u16 x'] 56)) w') => And.intro hx (two_held r c b p x r' c' b' p' x' hx))
  go_enter Try.func13, Try.ntmps13
  go_wp2_with fail
  generalize hB : (w.alloc (Obj.cells #[Value.int IntKind.u64 r, Value.int IntKind.u32 c, Value.int IntKind.u64 b, Value.int IntKind.u16 p, Value.int IntKind.u16 x] 56)).alloc (Obj.cells #[Value.int IntKind.u64 r', Value.int IntKind.u32 c', Value.int IntKind.u64 b', Value.int IntKind.u16 p', Value.int IntKind.u16 x'] 56) = B at hS ⊢
  have hwB : Ext w B := by rw [← hB]; exact ((Ext.refl w).alloc _).alloc _
  have hBz : w.heap.size + 1 < B.heap.size := by rw [← hB]; simp
  clear hB
  refine (awake3 _).mono ?_
  rintro e w1 ⟨rfl, h1⟩
  have K := hS.out _ h1
  go_wp2_with fail
  refine (ref_cmp _ _ _ _ _ _ _ _ _ _ _).mono ?_
  rintro e w2 ⟨rfl, h2⟩
  have hx2 : Ext B w2 := h1.trans h2
  have hBs : w.heap.size + 1 < w2.heap.size := by
    have := hx2.size
    omega
  clear K
  have K := hS.out _ hx2
  have hT := Lib.hid (fun W (hx : Ext (w2.alloc (.cells #[.int .u64 r, .int .u32 0, .int .u64 r, .int .u16 0, .int .u16 0] 56)) W) => And.intro hx (And.intro (And.left (And.right (hS.out _ (hx2.trans (((Ext.refl w2).alloc _).trans hx))))) (And.intro (And.right (And.right (hS.out _ (hx2.trans (((Ext.refl w2).alloc _).trans hx))))) (vec_held w2 hx))))
  go_wp2
  clear K
  generalize hC : w2.alloc (Obj.cells #[Value.int IntKind.u64 r, Value.int IntKind.u32 0, Value.int IntKind.u64 r, Value.int IntKind.u16 0, Value.int IntKind.u16 0] 56) = C at hT ⊢
  have hwC : Ext w C := by rw [← hC]; exact (hwB.trans hx2).alloc _
  clear hC
  have he := eq_vec
  have hg := guard_vec
  go_region_held3 (fun w' => Ext C w' ∧ (w'.cell? ⟨w.heap.size, 0, none⟩ = some (.int .u64 r) ∧ w'.cell? ⟨w.heap.size, 1, none⟩ = some (.int .u32 c) ∧ w'.cell? ⟨w.heap.size, 2, none⟩ = some (.int .u64 b) ∧ w'.cell? ⟨w.heap.size, 3, none⟩ = some (.int .u16 p) ∧ w'.cell? ⟨w.heap.size, 4, none⟩ = some (.int .u16 x)) ∧ (w'.cell? ⟨w.heap.size + 1, 0, none⟩ = some (.int .u64 r') ∧ w'.cell? ⟨w.heap.size + 1, 1, none⟩ = some (.int .u32 c') ∧ w'.cell? ⟨w.heap.size + 1, 2, none⟩ = some (.int .u64 b') ∧ w'.cell? ⟨w.heap.size + 1, 3, none⟩ = some (.int .u16 p') ∧ w'.cell? ⟨w.heap.size + 1, 4, none⟩ = some (.int .u16 x')) ∧ (w'.cell? ⟨w2.heap.size, 0, none⟩ = some (.int .u64 r) ∧ w'.cell? ⟨w2.heap.size, 1, none⟩ = some (.int .u32 0) ∧ w'.cell? ⟨w2.heap.size, 2, none⟩ = some (.int .u64 r) ∧ w'.cell? ⟨w2.heap.size, 3, none⟩ = some (.int .u16 0) ∧ w'.cell? ⟨w2.heap.size, 4, none⟩ = some (.int .u16 0)))
    ((first | exact hT.out _ (by assumption) | exact hT.out _ (Ext.refl _) | exact hT.out _ (Ext.drew (by assumption)) | exact hT.out _ (Ext.drew (Ext.refl _)) | exact hT.out _ (Ext.drew (And.left (by assumption))) | exact hT.out _ (Ext.trans (And.left (by assumption)) (by assumption))))
    (first | (go_at_call 39; refine (asi (vcmp_any _ _ _ _ _ _ _ _ _ _ _) (show _ = c5 r c b p x r' c' b' p' x' from rfl)).mono ?_; rintro e u1 ⟨rfl, g1⟩) | (go_at_call 40; refine (vbetter_any _ _ _ _ _ _ _ _ _ _ _).mono ?_; rintro e u2 ⟨rfl, g2⟩) | (go_at_call 41; refine (vsame_any _ _ _ _ _ _ _ _ _ _ _).mono ?_; rintro e u3 ⟨rfl, g3⟩) | (go_at_call 42; refine (ref_same _ _ _ _ _ _ _ _ _ _ _).mono ?_; rintro e u4 ⟨rfl, g4⟩) | (go_at_call 43; refine (vsuperior_any _ _ _ _ _ _ _ _ _ _ _ hb hb' hp hp').mono ?_; rintro e u5 ⟨rfl, g5⟩) | (go_at_call 44; refine (ref_superior _ _ _ _ _ _ _ _ _ _ _ hb hb' hp hp').mono ?_; rintro e u6 ⟨rfl, g6⟩) | (go_at_call 45; refine (vthrough_any _ _ _ _ _ _ _ _ hc hq).mono ?_; rintro e u7 ⟨rfl, g7⟩) | (go_at_call 46; refine (ref_through _ _ _ _ _ _ _ _ hc hq).mono ?_; rintro e u8 ⟨rfl, g8⟩) | (go_at_call 47; refine (vown_any _ _).mono ?_; rintro e u9 ⟨rfl, g9⟩))
  have hE : Ext C u9 := And.left (by assumption)
  go_wp2
  go_ret
  exact ⟨rfl, hwC.trans hE⟩

end Go.Proofs.Ytgiobcbdbhnneaa
