/- Messages and bytes that came in. No statement is proved here. -/
import Derived.Test.YtdfaagchlnkpnaaBpG
namespace Go.Proofs.Ytdfaagchlnkpnaa
open Go.RowKit Go.BigFrame Go.WideShapes Go.ChangeShapes Go.Deep
set_option linter.unusedVariables false
set_option linter.unusedSimpArgs false

theorem open_mg {m : List Value} (hm : Typed ML m) : ∃ q : Mg, q.ok ∧ m.toArray = #[.int .i64 q.kd, .bool q.ch, .bool q.ak, .bool q.pr, .bool q.ag, .bool q.ln, .bool q.fw, .int .i64 q.ro, .int .u64 q.r, .int .u32 q.c, .int .u64 q.b, .int .u16 q.p, .int .u16 q.x, .int .i64 q.a, .int .i64 q.m, .int .i64 q.h, .int .i64 q.d] := by
  obtain ⟨a0, x0, w0⟩ := hm.int 0 .i64 rfl
  obtain ⟨a1, x1⟩ := hm.bool 1 rfl
  obtain ⟨a2, x2⟩ := hm.bool 2 rfl
  obtain ⟨a3, x3⟩ := hm.bool 3 rfl
  obtain ⟨a4, x4⟩ := hm.bool 4 rfl
  obtain ⟨a5, x5⟩ := hm.bool 5 rfl
  obtain ⟨a6, x6⟩ := hm.bool 6 rfl
  obtain ⟨a7, x7, w7⟩ := hm.int 7 .i64 rfl
  obtain ⟨a8, x8, w8⟩ := hm.int 8 .u64 rfl
  obtain ⟨a9, x9, w9⟩ := hm.int 9 .u32 rfl
  obtain ⟨a10, x10, w10⟩ := hm.int 10 .u64 rfl
  obtain ⟨a11, x11, w11⟩ := hm.int 11 .u16 rfl
  obtain ⟨a12, x12, w12⟩ := hm.int 12 .u16 rfl
  obtain ⟨a13, x13, w13⟩ := hm.int 13 .i64 rfl
  obtain ⟨a14, x14, w14⟩ := hm.int 14 .i64 rfl
  obtain ⟨a15, x15, w15⟩ := hm.int 15 .i64 rfl
  obtain ⟨a16, x16, w16⟩ := hm.int 16 .i64 rfl
  refine ⟨⟨a0, a1, a2, a3, a4, a5, a6, a7, a8, a9, a10, a11, a12, a13, a14, a15, a16⟩, ⟨wf_i64 w0, wf_i64 w7, wf_u64 w8, wf_u32 w9, wf_u64 w10, wf_u16 w11, wf_u16 w12, wf_i64 w13, wf_i64 w14, wf_i64 w15, wf_i64 w16⟩, ?_⟩
  refine flat_eq [.int .i64 a0, .bool a1, .bool a2, .bool a3, .bool a4, .bool a5, .bool a6, .int .i64 a7, .int .u64 a8, .int .u32 a9, .int .u64 a10, .int .u16 a11, .int .u16 a12, .int .i64 a13, .int .i64 a14, .int .i64 a15, .int .i64 a16] m.toArray (by rw [List.size_toArray]; exact hm.1.trans rfl) (by
    intro j hj
    match j, hj with
    | 0, _ => simpa using x0
    | 1, _ => simpa using x1
    | 2, _ => simpa using x2
    | 3, _ => simpa using x3
    | 4, _ => simpa using x4
    | 5, _ => simpa using x5
    | 6, _ => simpa using x6
    | 7, _ => simpa using x7
    | 8, _ => simpa using x8
    | 9, _ => simpa using x9
    | 10, _ => simpa using x10
    | 11, _ => simpa using x11
    | 12, _ => simpa using x12
    | 13, _ => simpa using x13
    | 14, _ => simpa using x14
    | 15, _ => simpa using x15
    | 16, _ => simpa using x16
    | j + 17, hj => simp at hj; omega)
theorem ints_take2 {w : World} {a : Option Addr} {n cap j : Nat} {xs : List Int} (h : IsInts w .u8 (.slice a n cap) xs) (hj : j < n) : IsInts w .u8 (.slice a j cap) (xs.take j) := by
  rcases h with ⟨_, h | ⟨_, _, h⟩⟩ | ⟨b, off, c, h1, g0, g1, g2, h2, h3⟩
  · simp at h; omega
  · simp at h; omega
  · simp only [Value.slice.injEq] at h1
    obtain ⟨rfl, rfl, rfl⟩ := h1
    by_cases h0 : j = 0
    · subst h0
      exact .inl ⟨by simp, .inr ⟨_, _, rfl⟩⟩
    · refine .inr ⟨b, off, cap, by rw [List.length_take, Nat.min_eq_left (by omega)], by rw [List.length_take]; omega, by rw [List.length_take]; omega, g2, h2, fun i hi => ?_⟩
      rw [List.length_take] at hi
      rw [h3 i (by omega)]
      simp [List.getD, List.getElem?_take, show i < j by omega]
theorem own0 (w : World) : (w.alloc (.cells #[] 5)).ownsRow w.heap.size 5 1 (.slice (some ⟨w.heap.size, 0, none⟩) 0 0) ([] : List Int).length (([] : List Int).map (Value.int .u8)) :=
  ⟨rfl, .inr ⟨w.heap.size, 0, #[], rfl, Nat.le_refl _, heap_alloc_new _ _, Nat.le_refl _, by decide, rfl, rfl⟩⟩
theorem eq_mz (w : World) : (binOp .eql 30 (.agg #[.int .i64 0, .bool false, .bool false, .bool false, .bool false, .bool false, .bool false, .int .i64 0, .int .u64 0, .int .u32 0, .int .u64 0, .int .u16 0, .int .u16 0, .int .i64 0, .int .i64 0, .int .i64 0, .int .i64 0]) (.agg MZ)).run Try.prog w = .ok (.bool true) w := by kernel_rfl
theorem eq_tcn (w : World) : (binOp .eql 30 (.agg #[.int .i64 1, .bool false, .bool false, .bool false, .bool false, .bool false, .bool false, .int .i64 0, .int .u64 0, .int .u32 0, .int .u64 0, .int .u16 0, .int .u16 0, .int .i64 0, .int .i64 0, .int .i64 0, .int .i64 0]) (.agg (MZ.setIfInBounds 0 (.int .i64 1)))).run Try.prog w = .ok (.bool true) w := by kernel_rfl
theorem len_mz : Mg.zero.ok := by constructor <;> decide
theorem zs_rg {xs : List Int} (h : ∀ z ∈ xs, (Lit.int .u8 z).wf = true) : ∀ x ∈ xs, 0 ≤ x ∧ x < 256 := fun x hx => wf_u8 (h x hx)

end Go.Proofs.Ytdfaagchlnkpnaa
