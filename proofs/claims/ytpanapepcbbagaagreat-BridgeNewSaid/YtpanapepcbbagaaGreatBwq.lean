/- Part 17 of what BridgeNew stands on. No statement is proved here. -/
import Derived.Test.YtpanapepcbbagaaGreatBwp
namespace Go.Proofs.YtpanapepcbbagaaGreat
open Go.RowKit Go.BigFrame Go.WideShapes Go.ChangeShapes Go.Deep
set_option linter.unusedVariables false
set_option linter.unusedSimpArgs false
set_option maxRecDepth 100000
def okv (k : Option IntKind) (v : Value) : Bool := match k, v with
  | none, .bool _ => true
  | some q, .int p z => (p == q) && (Lit.int q z).wf
  | _, _ => false
def okl : List (Option IntKind) → List Value → Bool
  | [], [] => true
  | k :: l, v :: cs => okv k v && okl l cs
  | _, _ => false
theorem okv_ok {k : Option IntKind} {v : Value} (h : okv k v = true) : cellOk k v := by
  unfold okv at h
  split at h
  · exact ⟨_, rfl⟩
  · simp only [Bool.and_eq_true, beq_iff_eq] at h
    obtain ⟨rfl, h2⟩ := h
    exact ⟨_, rfl, h2⟩
  · exact absurd h (by simp)
theorem okl_ok : ∀ {l : List (Option IntKind)} {cs : List Value}, okl l cs = true → AllOk l cs
  | [], [], _ => trivial
  | k :: l, v :: cs, h => by
    simp only [okl, Bool.and_eq_true] at h
    exact ⟨okv_ok h.1, okl_ok h.2⟩
  | [], _ :: _, h => by simp [okl] at h
  | _ :: _, [], h => by simp [okl] at h
theorem row1 {l : List (Option IntKind)} {cs : List Value} (h : okl l cs = true) : RowTyped l 1 cs := by
  have ht := typed_all (okl_ok h)
  refine ⟨by rw [ht.1]; simp, fun i hi => ?_⟩
  obtain rfl : i = 0 := by omega
  rw [Nat.zero_mul, List.drop_zero, List.take_of_length_le (by rw [ht.1]; exact Nat.le_refl _)]
  exact ht
theorem row0 {l : List (Option IntKind)} : RowTyped l 0 [] := ⟨by simp, fun i hi => absurd hi (by omega)⟩
def z0 : Br := ⟨[.int .u64 7, .bool true, .int .i64 0, .int .i64 20, .int .i64 2, .int .i64 15, .int .i64 6, .int .u64 7, .int .u32 0, .int .u64 7, .int .u16 0, .int .u16 0, .int .i64 (-1), .int .i64 0, .int .i64 20, .int .i64 2, .int .i64 15], 1, [.int .u16 1, .int .u32 5, .bool true, .bool false, .bool true, .bool false, .int .i64 3, .int .i64 20, .int .i64 2, .int .i64 3, .int .i64 0, .int .i64 0, .int .i64 15, .int .i64 0, .int .i64 0, .int .i64 0, .int .i64 0, .int .i64 0, .int .i64 0, .int .i64 0, .int .i64 0, .int .i64 0, .bool false, .bool false, .bool false, .bool true, .bool false, .bool false, .bool false, .bool false, .bool false, .bool true, .bool true, .bool false, .bool false, .bool false, .bool false, .bool false, .bool false, .bool false, .bool false, .bool false, .bool true, .bool true, .bool false, .bool true, .bool true, .bool false, .bool false, .bool false, .bool false, .int .i64 0, .bool false, .bool false, .bool false, .bool false, .bool false, .bool false, .int .i64 0, .int .u64 0, .int .u32 0, .int .u64 0, .int .u16 0, .int .u16 0, .int .i64 0, .int .i64 0, .int .i64 0, .int .i64 0, .int .u64 0, .int .u32 0, .int .u64 0, .int .u16 0, .int .u16 0, .int .u64 0, .int .u32 0, .int .u64 0, .int .u16 0, .int .u16 0, .int .i64 0, .int .i64 0, .int .i64 0, .int .i64 0, .int .i64 0, .int .i64 0, .int .i64 0, .int .i64 0, .int .i64 0, .int .i64 0, .int .i64 0], 0, [], 0, []⟩
def z1 : Br := ⟨[.int .u64 7, .bool true, .int .i64 0, .int .i64 20, .int .i64 2, .int .i64 15, .int .i64 6, .int .u64 7, .int .u32 0, .int .u64 7, .int .u16 0, .int .u16 0, .int .i64 (-1), .int .i64 0, .int .i64 20, .int .i64 2, .int .i64 15], 1, [.int .u16 1, .int .u32 5, .bool true, .bool false, .bool true, .bool false, .int .i64 3, .int .i64 20, .int .i64 2, .int .i64 3, .int .i64 0, .int .i64 0, .int .i64 15, .int .i64 0, .int .i64 0, .int .i64 0, .int .i64 0, .int .i64 0, .int .i64 0, .int .i64 0, .int .i64 0, .int .i64 0, .bool false, .bool false, .bool false, .bool true, .bool false, .bool false, .bool false, .bool false, .bool false, .bool true, .bool true, .bool false, .bool false, .bool false, .bool false, .bool false, .bool false, .bool false, .bool false, .bool false, .bool true, .bool false, .bool true, .bool true, .bool true, .bool false, .bool false, .bool false, .bool false, .int .i64 0, .bool false, .bool false, .bool false, .bool false, .bool false, .bool false, .int .i64 0, .int .u64 0, .int .u32 0, .int .u64 0, .int .u16 0, .int .u16 0, .int .i64 0, .int .i64 0, .int .i64 0, .int .i64 0, .int .u64 0, .int .u32 0, .int .u64 0, .int .u16 0, .int .u16 0, .int .u64 7, .int .u32 0, .int .u64 7, .int .u16 1, .int .u16 0, .int .i64 0, .int .i64 0, .int .i64 0, .int .i64 0, .int .i64 0, .int .i64 20, .int .i64 2, .int .i64 15, .int .i64 0, .int .i64 0, .int .i64 0], 0, [], 0, []⟩
def z2 : Br := ⟨[.int .u64 7, .bool true, .int .i64 0, .int .i64 20, .int .i64 2, .int .i64 15, .int .i64 6, .int .u64 7, .int .u32 0, .int .u64 7, .int .u16 0, .int .u16 0, .int .i64 (-1), .int .i64 0, .int .i64 20, .int .i64 2, .int .i64 15], 1, [.int .u16 1, .int .u32 5, .bool true, .bool false, .bool true, .bool false, .int .i64 3, .int .i64 20, .int .i64 2, .int .i64 3, .int .i64 0, .int .i64 0, .int .i64 15, .int .i64 0, .int .i64 0, .int .i64 0, .int .i64 0, .int .i64 0, .int .i64 1, .int .i64 0, .int .i64 0, .int .i64 0, .bool false, .bool false, .bool false, .bool true, .bool false, .bool false, .bool false, .bool false, .bool false, .bool true, .bool true, .bool false, .bool false, .bool false, .bool false, .bool false, .bool false, .bool false, .bool false, .bool false, .bool true, .bool true, .bool false, .bool true, .bool true, .bool false, .bool false, .bool false, .bool false, .int .i64 0, .bool false, .bool false, .bool false, .bool false, .bool false, .bool false, .int .i64 0, .int .u64 0, .int .u32 0, .int .u64 0, .int .u16 0, .int .u16 0, .int .i64 0, .int .i64 0, .int .i64 0, .int .i64 0, .int .u64 0, .int .u32 0, .int .u64 0, .int .u16 0, .int .u16 0, .int .u64 7, .int .u32 0, .int .u64 7, .int .u16 1, .int .u16 0, .int .i64 0, .int .i64 0, .int .i64 0, .int .i64 0, .int .i64 0, .int .i64 20, .int .i64 2, .int .i64 15, .int .i64 1, .int .i64 0, .int .i64 0], 0, [], 0, []⟩
def z3 : Br := ⟨[.int .u64 7, .bool true, .int .i64 0, .int .i64 20, .int .i64 2, .int .i64 15, .int .i64 6, .int .u64 7, .int .u32 0, .int .u64 7, .int .u16 0, .int .u16 0, .int .i64 (-1), .int .i64 0, .int .i64 20, .int .i64 2, .int .i64 15], 1, [.int .u16 1, .int .u32 5, .bool true, .bool false, .bool true, .bool false, .int .i64 3, .int .i64 20, .int .i64 2, .int .i64 3, .int .i64 0, .int .i64 0, .int .i64 15, .int .i64 0, .int .i64 0, .int .i64 0, .int .i64 0, .int .i64 0, .int .i64 1, .int .i64 0, .int .i64 0, .int .i64 0, .bool false, .bool false, .bool false, .bool false, .bool false, .bool false, .bool false, .bool false, .bool false, .bool true, .bool true, .bool false, .bool false, .bool false, .bool false, .bool false, .bool false, .bool false, .bool false, .bool false, .bool true, .bool true, .bool false, .bool true, .bool true, .bool false, .bool false, .bool false, .bool false, .int .i64 0, .bool false, .bool false, .bool false, .bool false, .bool false, .bool false, .int .i64 0, .int .u64 0, .int .u32 0, .int .u64 0, .int .u16 0, .int .u16 0, .int .i64 0, .int .i64 0, .int .i64 0, .int .i64 0, .int .u64 0, .int .u32 0, .int .u64 0, .int .u16 0, .int .u16 0, .int .u64 7, .int .u32 0, .int .u64 7, .int .u16 1, .int .u16 0, .int .i64 0, .int .i64 0, .int .i64 0, .int .i64 0, .int .i64 0, .int .i64 20, .int .i64 2, .int .i64 15, .int .i64 1, .int .i64 0, .int .i64 0], 0, [], 1, [.int .i64 0]⟩
def z4 : Br := ⟨[.int .u64 7, .bool true, .int .i64 0, .int .i64 20, .int .i64 2, .int .i64 15, .int .i64 6, .int .u64 7, .int .u32 0, .int .u64 7, .int .u16 0, .int .u16 0, .int .i64 (-1), .int .i64 0, .int .i64 20, .int .i64 2, .int .i64 15], 1, [.int .u16 1, .int .u32 5, .bool true, .bool false, .bool true, .bool false, .int .i64 3, .int .i64 20, .int .i64 2, .int .i64 3, .int .i64 0, .int .i64 0, .int .i64 15, .int .i64 0, .int .i64 0, .int .i64 0, .int .i64 0, .int .i64 0, .int .i64 1, .int .i64 0, .int .i64 0, .int .i64 0, .bool false, .bool false, .bool false, .bool false, .bool false, .bool false, .bool false, .bool false, .bool false, .bool true, .bool true, .bool false, .bool false, .bool false, .bool false, .bool false, .bool false, .bool false, .bool false, .bool false, .bool true, .bool false, .bool true, .bool true, .bool true, .bool false, .bool false, .bool false, .bool true, .int .i64 0, .bool false, .bool false, .bool false, .bool false, .bool false, .bool false, .int .i64 0, .int .u64 0, .int .u32 0, .int .u64 0, .int .u16 0, .int .u16 0, .int .i64 0, .int .i64 0, .int .i64 0, .int .i64 0, .int .u64 0, .int .u32 0, .int .u64 0, .int .u16 0, .int .u16 0, .int .u64 7, .int .u32 0, .int .u64 7, .int .u16 1, .int .u16 0, .int .i64 0, .int .i64 0, .int .i64 0, .int .i64 0, .int .i64 0, .int .i64 20, .int .i64 2, .int .i64 15, .int .i64 1, .int .i64 0, .int .i64 4], 0, [], 1, [.int .i64 0]⟩
def z5 : Br := ⟨[.int .u64 7, .bool true, .int .i64 0, .int .i64 20, .int .i64 2, .int .i64 15, .int .i64 6, .int .u64 7, .int .u32 0, .int .u64 7, .int .u16 0, .int .u16 0, .int .i64 (-1), .int .i64 0, .int .i64 20, .int .i64 2, .int .i64 15], 1, [.int .u16 1, .int .u32 5, .bool true, .bool false, .bool true, .bool false, .int .i64 3, .int .i64 20, .int .i64 2, .int .i64 3, .int .i64 0, .int .i64 0, .int .i64 15, .int .i64 0, .int .i64 0, .int .i64 0, .int .i64 0, .int .i64 0, .int .i64 2, .int .i64 0, .int .i64 0, .int .i64 0, .bool false, .bool false, .bool false, .bool false, .bool false, .bool false, .bool false, .bool false, .bool false, .bool true, .bool true, .bool false, .bool false, .bool false, .bool false, .bool false, .bool false, .bool false, .bool false, .bool false, .bool true, .bool false, .bool true, .bool true, .bool true, .bool false, .bool false, .bool false, .bool false, .int .i64 0, .bool false, .bool false, .bool false, .bool false, .bool false, .bool false, .int .i64 0, .int .u64 0, .int .u32 0, .int .u64 0, .int .u16 0, .int .u16 0, .int .i64 0, .int .i64 0, .int .i64 0, .int .i64 0, .int .u64 7, .int .u32 0, .int .u64 7, .int .u16 1, .int .u16 0, .int .u64 7, .int .u32 0, .int .u64 7, .int .u16 1, .int .u16 0, .int .i64 0, .int .i64 20, .int .i64 2, .int .i64 15, .int .i64 0, .int .i64 20, .int .i64 2, .int .i64 15, .int .i64 2, .int .i64 0, .int .i64 4], 0, [], 1, [.int .i64 0]⟩
def z6 : Br := ⟨[.int .u64 7, .bool true, .int .i64 0, .int .i64 20, .int .i64 2, .int .i64 15, .int .i64 6, .int .u64 7, .int .u32 0, .int .u64 7, .int .u16 0, .int .u16 0, .int .i64 (-1), .int .i64 0, .int .i64 20, .int .i64 2, .int .i64 15], 1, [.int .u16 1, .int .u32 5, .bool true, .bool false, .bool true, .bool false, .int .i64 3, .int .i64 20, .int .i64 2, .int .i64 3, .int .i64 0, .int .i64 0, .int .i64 15, .int .i64 0, .int .i64 0, .int .i64 0, .int .i64 0, .int .i64 0, .int .i64 2, .int .i64 3, .int .i64 0, .int .i64 0, .bool false, .bool false, .bool false, .bool false, .bool false, .bool false, .bool false, .bool false, .bool false, .bool true, .bool true, .bool false, .bool false, .bool false, .bool false, .bool false, .bool false, .bool false, .bool false, .bool false, .bool true, .bool false, .bool true, .bool true, .bool true, .bool false, .bool false, .bool false, .bool false, .int .i64 0, .bool false, .bool false, .bool false, .bool false, .bool false, .bool false, .int .i64 0, .int .u64 0, .int .u32 0, .int .u64 0, .int .u16 0, .int .u16 0, .int .i64 0, .int .i64 0, .int .i64 0, .int .i64 0, .int .u64 7, .int .u32 0, .int .u64 7, .int .u16 1, .int .u16 0, .int .u64 7, .int .u32 0, .int .u64 7, .int .u16 1, .int .u16 0, .int .i64 0, .int .i64 20, .int .i64 2, .int .i64 15, .int .i64 0, .int .i64 20, .int .i64 2, .int .i64 15, .int .i64 2, .int .i64 4, .int .i64 4], 0, [], 1, [.int .i64 0]⟩
def z7 : Br := ⟨[.int .u64 7, .bool true, .int .i64 0, .int .i64 20, .int .i64 2, .int .i64 15, .int .i64 6, .int .u64 7, .int .u32 0, .int .u64 7, .int .u16 0, .int .u16 0, .int .i64 (-1), .int .i64 0, .int .i64 20, .int .i64 2, .int .i64 15], 1, [.int .u16 1, .int .u32 5, .bool true, .bool false, .bool true, .bool false, .int .i64 3, .int .i64 20, .int .i64 2, .int .i64 3, .int .i64 0, .int .i64 0, .int .i64 15, .int .i64 0, .int .i64 1, .int .i64 0, .int .i64 0, .int .i64 0, .int .i64 2, .int .i64 3, .int .i64 0, .int .i64 0, .bool false, .bool false, .bool false, .bool false, .bool false, .bool false, .bool false, .bool false, .bool false, .bool false, .bool true, .bool false, .bool false, .bool false, .bool false, .bool false, .bool false, .bool false, .bool false, .bool false, .bool true, .bool false, .bool true, .bool true, .bool true, .bool false, .bool false, .bool false, .bool false, .int .i64 0, .bool false, .bool false, .bool false, .bool false, .bool false, .bool false, .int .i64 0, .int .u64 0, .int .u32 0, .int .u64 0, .int .u16 0, .int .u16 0, .int .i64 0, .int .i64 0, .int .i64 0, .int .i64 0, .int .u64 7, .int .u32 0, .int .u64 7, .int .u16 1, .int .u16 0, .int .u64 7, .int .u32 0, .int .u64 7, .int .u16 1, .int .u16 0, .int .i64 0, .int .i64 20, .int .i64 2, .int .i64 15, .int .i64 0, .int .i64 20, .int .i64 2, .int .i64 15, .int .i64 2, .int .i64 4, .int .i64 4], 1, [.int .i64 0, .int .i64 2, .bool false, .bool false, .bool false, .bool false, .bool false, .bool false, .int .i64 4, .int .u64 7, .int .u32 0, .int .u64 7, .int .u16 1, .int .u16 0, .int .i64 0, .int .i64 20, .int .i64 2, .int .i64 15], 1, [.int .i64 0]⟩
def z8 : Br := ⟨[.int .u64 7, .bool true, .int .i64 0, .int .i64 20, .int .i64 2, .int .i64 15, .int .i64 6, .int .u64 7, .int .u32 0, .int .u64 7, .int .u16 0, .int .u16 0, .int .i64 (-1), .int .i64 0, .int .i64 20, .int .i64 2, .int .i64 15], 1, [.int .u16 1, .int .u32 5, .bool true, .bool false, .bool true, .bool false, .int .i64 3, .int .i64 20, .int .i64 2, .int .i64 3, .int .i64 0, .int .i64 0, .int .i64 0, .int .i64 0, .int .i64 1, .int .i64 0, .int .i64 0, .int .i64 0, .int .i64 2, .int .i64 3, .int .i64 0, .int .i64 0, .bool false, .bool false, .bool false, .bool false, .bool false, .bool false, .bool false, .bool false, .bool false, .bool false, .bool true, .bool false, .bool false, .bool false, .bool false, .bool false, .bool false, .bool false, .bool false, .bool false, .bool true, .bool false, .bool true, .bool true, .bool false, .bool true, .bool false, .bool false, .bool false, .int .i64 0, .bool false, .bool false, .bool false, .bool false, .bool false, .bool false, .int .i64 0, .int .u64 0, .int .u32 0, .int .u64 0, .int .u16 0, .int .u16 0, .int .i64 0, .int .i64 0, .int .i64 0, .int .i64 0, .int .u64 7, .int .u32 0, .int .u64 7, .int .u16 1, .int .u16 0, .int .u64 7, .int .u32 0, .int .u64 7, .int .u16 1, .int .u16 0, .int .i64 0, .int .i64 20, .int .i64 2, .int .i64 15, .int .i64 0, .int .i64 20, .int .i64 2, .int .i64 15, .int .i64 2, .int .i64 4, .int .i64 4], 1, [.int .i64 0, .int .i64 2, .bool false, .bool false, .bool false, .bool false, .bool false, .bool false, .int .i64 4, .int .u64 7, .int .u32 0, .int .u64 7, .int .u16 1, .int .u16 0, .int .i64 0, .int .i64 20, .int .i64 2, .int .i64 15], 1, [.int .i64 0]⟩
def z9 : Br := ⟨[.int .u64 7, .bool true, .int .i64 0, .int .i64 20, .int .i64 2, .int .i64 15, .int .i64 6, .int .u64 7, .int .u32 0, .int .u64 7, .int .u16 0, .int .u16 0, .int .i64 (-1), .int .i64 0, .int .i64 20, .int .i64 2, .int .i64 15], 1, [.int .u16 1, .int .u32 5, .bool true, .bool false, .bool true, .bool false, .int .i64 3, .int .i64 20, .int .i64 2, .int .i64 3, .int .i64 0, .int .i64 0, .int .i64 0, .int .i64 0, .int .i64 1, .int .i64 0, .int .i64 0, .int .i64 0, .int .i64 2, .int .i64 3, .int .i64 0, .int .i64 0, .bool false, .bool false, .bool false, .bool false, .bool false, .bool false, .bool false, .bool false, .bool false, .bool false, .bool true, .bool false, .bool false, .bool false, .bool false, .bool false, .bool false, .bool false, .bool false, .bool false, .bool false, .bool false, .bool true, .bool true, .bool false, .bool true, .bool false, .bool false, .bool false, .int .i64 0, .bool false, .bool false, .bool false, .bool false, .bool false, .bool false, .int .i64 0, .int .u64 0, .int .u32 0, .int .u64 0, .int .u16 0, .int .u16 0, .int .i64 0, .int .i64 0, .int .i64 0, .int .i64 0, .int .u64 7, .int .u32 0, .int .u64 7, .int .u16 1, .int .u16 0, .int .u64 7, .int .u32 0, .int .u64 7, .int .u16 1, .int .u16 0, .int .i64 0, .int .i64 20, .int .i64 2, .int .i64 15, .int .i64 0, .int .i64 20, .int .i64 2, .int .i64 15, .int .i64 2, .int .i64 4, .int .i64 4], 1, [.int .i64 0, .int .i64 2, .bool false, .bool false, .bool false, .bool false, .bool false, .bool false, .int .i64 4, .int .u64 7, .int .u32 0, .int .u64 7, .int .u16 1, .int .u16 0, .int .i64 0, .int .i64 20, .int .i64 2, .int .i64 15], 1, [.int .i64 0]⟩
def z10 : Br := ⟨[.int .u64 7, .bool true, .int .i64 0, .int .i64 20, .int .i64 2, .int .i64 15, .int .i64 6, .int .u64 7, .int .u32 0, .int .u64 7, .int .u16 0, .int .u16 0, .int .i64 (-1), .int .i64 0, .int .i64 20, .int .i64 2, .int .i64 15], 1, [.int .u16 1, .int .u32 5, .bool true, .bool false, .bool true, .bool false, .int .i64 3, .int .i64 2, .int .i64 2, .int .i64 3, .int .i64 0, .int .i64 0, .int .i64 0, .int .i64 0, .int .i64 1, .int .i64 0, .int .i64 0, .int .i64 0, .int .i64 2, .int .i64 3, .int .i64 0, .int .i64 0, .bool false, .bool false, .bool false, .bool false, .bool false, .bool false, .bool true, .bool false, .bool false, .bool false, .bool true, .bool false, .bool false, .bool false, .bool false, .bool false, .bool false, .bool false, .bool false, .bool false, .bool false, .bool false, .bool true, .bool true, .bool false, .bool true, .bool false, .bool false, .bool false, .int .i64 0, .bool false, .bool false, .bool false, .bool false, .bool false, .bool false, .int .i64 0, .int .u64 0, .int .u32 0, .int .u64 0, .int .u16 0, .int .u16 0, .int .i64 0, .int .i64 0, .int .i64 0, .int .i64 0, .int .u64 7, .int .u32 0, .int .u64 7, .int .u16 1, .int .u16 0, .int .u64 7, .int .u32 0, .int .u64 7, .int .u16 1, .int .u16 0, .int .i64 0, .int .i64 20, .int .i64 2, .int .i64 15, .int .i64 0, .int .i64 20, .int .i64 2, .int .i64 15, .int .i64 2, .int .i64 4, .int .i64 4], 1, [.int .i64 0, .int .i64 2, .bool false, .bool false, .bool false, .bool false, .bool false, .bool false, .int .i64 4, .int .u64 7, .int .u32 0, .int .u64 7, .int .u16 1, .int .u16 0, .int .i64 0, .int .i64 20, .int .i64 2, .int .i64 15], 1, [.int .i64 0]⟩
def z11 : Br := ⟨[.int .u64 7, .bool true, .int .i64 0, .int .i64 20, .int .i64 2, .int .i64 15, .int .i64 6, .int .u64 7, .int .u32 0, .int .u64 7, .int .u16 0, .int .u16 0, .int .i64 (-1), .int .i64 0, .int .i64 20, .int .i64 2, .int .i64 15], 1, [.int .u16 1, .int .u32 5, .bool true, .bool false, .bool true, .bool false, .int .i64 3, .int .i64 2, .int .i64 2, .int .i64 3, .int .i64 0, .int .i64 0, .int .i64 0, .int .i64 0, .int .i64 1, .int .i64 0, .int .i64 0, .int .i64 0, .int .i64 2, .int .i64 3, .int .i64 1, .int .i64 0, .bool false, .bool false, .bool false, .bool false, .bool false, .bool false, .bool true, .bool true, .bool false, .bool false, .bool true, .bool false, .bool false, .bool false, .bool false, .bool false, .bool false, .bool false, .bool false, .bool false, .bool false, .bool false, .bool true, .bool true, .bool false, .bool true, .bool false, .bool false, .bool false, .int .i64 0, .bool false, .bool false, .bool false, .bool false, .bool false, .bool false, .int .i64 0, .int .u64 0, .int .u32 0, .int .u64 0, .int .u16 0, .int .u16 0, .int .i64 0, .int .i64 0, .int .i64 0, .int .i64 0, .int .u64 7, .int .u32 0, .int .u64 7, .int .u16 1, .int .u16 0, .int .u64 7, .int .u32 0, .int .u64 7, .int .u16 1, .int .u16 0, .int .i64 0, .int .i64 20, .int .i64 2, .int .i64 15, .int .i64 0, .int .i64 20, .int .i64 2, .int .i64 15, .int .i64 2, .int .i64 4, .int .i64 4], 1, [.int .i64 0, .int .i64 2, .bool false, .bool false, .bool false, .bool false, .bool false, .bool false, .int .i64 4, .int .u64 7, .int .u32 0, .int .u64 7, .int .u16 1, .int .u16 0, .int .i64 0, .int .i64 20, .int .i64 2, .int .i64 15], 1, [.int .i64 0]⟩
def z12 : Br := ⟨[.int .u64 7, .bool true, .int .i64 0, .int .i64 20, .int .i64 2, .int .i64 15, .int .i64 6, .int .u64 7, .int .u32 0, .int .u64 7, .int .u16 0, .int .u16 0, .int .i64 (-1), .int .i64 0, .int .i64 20, .int .i64 2, .int .i64 15], 1, [.int .u16 1, .int .u32 5, .bool true, .bool false, .bool true, .bool false, .int .i64 3, .int .i64 2, .int .i64 2, .int .i64 3, .int .i64 0, .int .i64 0, .int .i64 0, .int .i64 0, .int .i64 1, .int .i64 0, .int .i64 0, .int .i64 0, .int .i64 2, .int .i64 3, .int .i64 1, .int .i64 1, .bool false, .bool false, .bool false, .bool false, .bool false, .bool false, .bool true, .bool true, .bool false, .bool false, .bool true, .bool false, .bool false, .bool false, .bool false, .bool false, .bool false, .bool false, .bool false, .bool false, .bool false, .bool false, .bool true, .bool true, .bool false, .bool true, .bool false, .bool false, .bool false, .int .i64 0, .bool false, .bool false, .bool false, .bool false, .bool false, .bool false, .int .i64 0, .int .u64 0, .int .u32 0, .int .u64 0, .int .u16 0, .int .u16 0, .int .i64 0, .int .i64 0, .int .i64 0, .int .i64 0, .int .u64 7, .int .u32 0, .int .u64 7, .int .u16 1, .int .u16 0, .int .u64 7, .int .u32 0, .int .u64 7, .int .u16 1, .int .u16 0, .int .i64 0, .int .i64 20, .int .i64 2, .int .i64 15, .int .i64 0, .int .i64 20, .int .i64 2, .int .i64 15, .int .i64 2, .int .i64 4, .int .i64 4], 1, [.int .i64 0, .int .i64 2, .bool false, .bool false, .bool false, .bool false, .bool false, .bool false, .int .i64 4, .int .u64 7, .int .u32 0, .int .u64 7, .int .u16 1, .int .u16 0, .int .i64 0, .int .i64 20, .int .i64 2, .int .i64 15], 1, [.int .i64 0]⟩
def z13 : Br := ⟨[.int .u64 7, .bool true, .int .i64 0, .int .i64 20, .int .i64 2, .int .i64 15, .int .i64 6, .int .u64 7, .int .u32 0, .int .u64 7, .int .u16 0, .int .u16 0, .int .i64 (-1), .int .i64 0, .int .i64 20, .int .i64 2, .int .i64 15], 1, [.int .u16 1, .int .u32 5, .bool true, .bool false, .bool true, .bool false, .int .i64 3, .int .i64 0, .int .i64 2, .int .i64 3, .int .i64 0, .int .i64 0, .int .i64 0, .int .i64 0, .int .i64 1, .int .i64 0, .int .i64 0, .int .i64 0, .int .i64 2, .int .i64 3, .int .i64 1, .int .i64 1, .bool false, .bool true, .bool false, .bool false, .bool true, .bool false, .bool true, .bool true, .bool false, .bool false, .bool true, .bool false, .bool false, .bool false, .bool false, .bool false, .bool false, .bool false, .bool false, .bool false, .bool false, .bool false, .bool true, .bool true, .bool false, .bool true, .bool false, .bool false, .bool false, .int .i64 0, .bool false, .bool false, .bool false, .bool false, .bool false, .bool false, .int .i64 0, .int .u64 0, .int .u32 0, .int .u64 0, .int .u16 0, .int .u16 0, .int .i64 0, .int .i64 0, .int .i64 0, .int .i64 0, .int .u64 7, .int .u32 0, .int .u64 7, .int .u16 1, .int .u16 0, .int .u64 7, .int .u32 0, .int .u64 7, .int .u16 1, .int .u16 0, .int .i64 0, .int .i64 20, .int .i64 2, .int .i64 15, .int .i64 0, .int .i64 20, .int .i64 2, .int .i64 15, .int .i64 2, .int .i64 4, .int .i64 4], 1, [.int .i64 0, .int .i64 2, .bool false, .bool false, .bool false, .bool false, .bool false, .bool false, .int .i64 4, .int .u64 7, .int .u32 0, .int .u64 7, .int .u16 1, .int .u16 0, .int .i64 0, .int .i64 20, .int .i64 2, .int .i64 15], 1, [.int .i64 0]⟩
def z14 : Br := ⟨[.int .u64 7, .bool true, .int .i64 0, .int .i64 20, .int .i64 2, .int .i64 15, .int .i64 6, .int .u64 7, .int .u32 0, .int .u64 7, .int .u16 0, .int .u16 0, .int .i64 (-1), .int .i64 0, .int .i64 20, .int .i64 2, .int .i64 15], 1, [.int .u16 1, .int .u32 5, .bool true, .bool false, .bool true, .bool false, .int .i64 3, .int .i64 0, .int .i64 2, .int .i64 3, .int .i64 0, .int .i64 0, .int .i64 0, .int .i64 0, .int .i64 1, .int .i64 0, .int .i64 0, .int .i64 0, .int .i64 2, .int .i64 3, .int .i64 2, .int .i64 1, .bool false, .bool true, .bool false, .bool false, .bool true, .bool true, .bool true, .bool true, .bool false, .bool false, .bool true, .bool false, .bool false, .bool false, .bool false, .bool false, .bool false, .bool false, .bool false, .bool false, .bool false, .bool false, .bool true, .bool true, .bool false, .bool true, .bool false, .bool false, .bool false, .int .i64 0, .bool false, .bool false, .bool false, .bool false, .bool false, .bool false, .int .i64 0, .int .u64 0, .int .u32 0, .int .u64 0, .int .u16 0, .int .u16 0, .int .i64 0, .int .i64 0, .int .i64 0, .int .i64 0, .int .u64 7, .int .u32 0, .int .u64 7, .int .u16 1, .int .u16 0, .int .u64 7, .int .u32 0, .int .u64 7, .int .u16 1, .int .u16 0, .int .i64 0, .int .i64 20, .int .i64 2, .int .i64 15, .int .i64 0, .int .i64 20, .int .i64 2, .int .i64 15, .int .i64 2, .int .i64 4, .int .i64 4], 1, [.int .i64 0, .int .i64 2, .bool false, .bool false, .bool false, .bool false, .bool false, .bool false, .int .i64 4, .int .u64 7, .int .u32 0, .int .u64 7, .int .u16 1, .int .u16 0, .int .i64 0, .int .i64 20, .int .i64 2, .int .i64 15], 1, [.int .i64 0]⟩
theorem z0_ok : z0.ok := ⟨typed_all (okl_ok (by kernel_rfl)), row1 (by kernel_rfl), row0, row0⟩
theorem z1_ok : z1.ok := ⟨typed_all (okl_ok (by kernel_rfl)), row1 (by kernel_rfl), row0, row0⟩
theorem z2_ok : z2.ok := ⟨typed_all (okl_ok (by kernel_rfl)), row1 (by kernel_rfl), row0, row0⟩
theorem z3_ok : z3.ok := ⟨typed_all (okl_ok (by kernel_rfl)), row1 (by kernel_rfl), row0, row1 (by kernel_rfl)⟩
theorem z4_ok : z4.ok := ⟨typed_all (okl_ok (by kernel_rfl)), row1 (by kernel_rfl), row0, row1 (by kernel_rfl)⟩
theorem z5_ok : z5.ok := ⟨typed_all (okl_ok (by kernel_rfl)), row1 (by kernel_rfl), row0, row1 (by kernel_rfl)⟩
theorem z6_ok : z6.ok := ⟨typed_all (okl_ok (by kernel_rfl)), row1 (by kernel_rfl), row0, row1 (by kernel_rfl)⟩
theorem z7_ok : z7.ok := ⟨typed_all (okl_ok (by kernel_rfl)), row1 (by kernel_rfl), row1 (by kernel_rfl), row1 (by kernel_rfl)⟩
theorem z8_ok : z8.ok := ⟨typed_all (okl_ok (by kernel_rfl)), row1 (by kernel_rfl), row1 (by kernel_rfl), row1 (by kernel_rfl)⟩
theorem z9_ok : z9.ok := ⟨typed_all (okl_ok (by kernel_rfl)), row1 (by kernel_rfl), row1 (by kernel_rfl), row1 (by kernel_rfl)⟩
theorem z10_ok : z10.ok := ⟨typed_all (okl_ok (by kernel_rfl)), row1 (by kernel_rfl), row1 (by kernel_rfl), row1 (by kernel_rfl)⟩
theorem z11_ok : z11.ok := ⟨typed_all (okl_ok (by kernel_rfl)), row1 (by kernel_rfl), row1 (by kernel_rfl), row1 (by kernel_rfl)⟩
theorem z12_ok : z12.ok := ⟨typed_all (okl_ok (by kernel_rfl)), row1 (by kernel_rfl), row1 (by kernel_rfl), row1 (by kernel_rfl)⟩
theorem z13_ok : z13.ok := ⟨typed_all (okl_ok (by kernel_rfl)), row1 (by kernel_rfl), row1 (by kernel_rfl), row1 (by kernel_rfl)⟩
theorem z14_ok : z14.ok := ⟨typed_all (okl_ok (by kernel_rfl)), row1 (by kernel_rfl), row1 (by kernel_rfl), row1 (by kernel_rfl)⟩
def WB (N X g : Nat) (B : Br) (w : World) : Prop := BrG w (fun n => N ≤ n ∧ n < w.heap.size) X g B
def St (N X g : Nat) (w : World) (d : Bool) (B : Br) (e : Ending) (w' : World) : Prop := e = .returned (.bool d) ∧ WB N X g B w' ∧ Mut (fun n => N ≤ n) w w'
theorem St.of {N X g : Nat} {w : World} {d : Bool} {B : Br} {e : Ending} {w' : World} (h : Stepped w (fun n => N ≤ n ∧ n < w.heap.size) X g (d, B) e w') : St N X g w d B e w' :=
  ⟨h.1, h.2.1.mono (fun n hn => ⟨hn.1, Nat.lt_of_lt_of_le hn.2 h.2.2.size⟩), h.2.2.mono (fun n _ hn => hn.1)⟩
theorem St.eq {N X g : Nat} {w : World} {d : Bool} {B C : Br} {e : Ending} {w' : World} (h : St N X g w d B e w') (hc : B = C) : St N X g w d C e w' := hc ▸ h
theorem top_w {N X g : Nat} {w : World} {B : Br} {f : FuncId} {args : Array Value} (hX : N ≤ X ∧ X < w.heap.size) (h : Calls Tryz.prog f args w fun e w' => e = .returned (.bool true) ∧ BrG w' (fun n => (N ≤ n ∧ n < w.heap.size) ∨ (w.heap.size ≤ n ∧ n < w'.heap.size)) X g B ∧ Mut (fun n => N ≤ n ∧ n < w.heap.size) w w') : Calls Tryz.prog f args w (St N X g w true B) := by
  refine h.mono ?_
  rintro e w' ⟨he, hB, hm⟩
  refine ⟨he, hB.mono (fun n hn' => ?_), hm.mono (fun n _ hn' => hn'.1)⟩
  have := hm.size
  rcases hn' with hn' | hn'
  · exact ⟨hn'.1, by omega⟩
  · have h1 := hX.1
    have h2 := hX.2
    exact ⟨by omega, hn'.2⟩
theorem tr20 : TR 0 20 2 15 := by unfold TR; omega
/-- The rows of the role transitions that a designated port comes to. -/
def HB3 (B : Br) : Nat → Bool
  | 0 => B.gi 0 88 == 0 && B.gi 0 87 != 0
  | 1 => B.gi 0 88 == 3 && B.gi 0 87 != 3
  | 2 => B.gi 0 88 == 4 && B.gi 0 87 != 4
  | 3 => (B.gi 0 88 == 1 && B.gi 0 87 != 1) || (B.gi 0 88 == 2 && B.gi 0 87 != 2)
  | 18 => !B.gb 0 26 && !B.gb 0 23 && !B.gb 0 34 && !B.gb 0 32
  | 19 => if B.gb 0 47 = true then B.gb 0 46 else (!B.gb 0 29 && !B.gb 0 27) || B.gb 0 23 || B.gb 0 32
  | 20 => B.gb 0 42 && B.gi 0 12 == 0
  | 21 => (B.gb 0 28 || B.gb 0 26) && !B.gb 0 32 && ((B.gb 0 46 && !B.gb 0 47) || (B.gb 0 42 && B.gi 0 12 != 0) || B.gb 0 24)
  | 22 => trDes B 0 && !B.gb 0 28
  | 23 => trDes B 0 && B.gb 0 28 && !B.gb 0 26
  | _ => false
theorem rows3 : ∀ j, j < 24 → (trS j = -1 ∨ trS j = 3) → j = 0 ∨ j = 1 ∨ j = 2 ∨ j = 3 ∨ j = 18 ∨ j = 19 ∨ j = 20 ∨ j = 21 ∨ j = 22 ∨ j = 23 := by decide
theorem no_rows (B : Br) (r : Nat) (h : (List.range r).all (fun i => !((trS i == -1 || trS i == B.gi 0 19) && HB3 B i)) = true) : ∀ i, i < r → ¬ ((trS i = -1 ∨ trS i = B.gi 0 19) ∧ HB3 B i = true) := by
  intro i hi hc
  have h2 := List.all_eq_true.1 h i (List.mem_range.2 hi)
  rw [hc.2] at h2
  rcases hc.1 with h3 | h3 <;> simp [h3] at h2
theorem tr_w {N X g : Nat} {w : World} (B C : Br) (h : WB N X g B w) (ho : B.ok) (hn : B.np = 1) (r : Nat) (hr : r ≤ 24) (hs : B.gi 0 19 = 3 ∨ r ≤ 2) (h44 : B.gb 0 44 = true) (h50 : B.gb 0 50 = false)
    (hno : (List.range r).all (fun i => !((trS i == -1 || trS i == B.gi 0 19) && HB3 B i)) = true) (hyes : r < 24 → (trS r = -1 ∨ trS r = B.gi 0 19) ∧ HB3 B r = true)
    (hC : r < 24 → C.ok ∧ C.np = B.np)
    (hD : r < 24 → ∀ w1, w.heap.size ≤ w1.heap.size → BrG w1 (fun n => N ≤ n ∧ n < w.heap.size) X g B → Calls Tryz.prog (trD r) #[placeV g 0 X] w1 fun e w2 => e = .returned (.tuple #[]) ∧ BrG w2 (fun n => N ≤ n ∧ n < w.heap.size) X g C ∧ Mut (fun n => N ≤ n ∧ n < w.heap.size) w1 w2)
    (d : Bool) (D : Br) (hRS : (if r = 24 then (false, B) else if trN r = -2 then (true, C) else (true, C.setp 0 19 (.int .i64 (trN r)))) = (d, D)) : Calls Tryz.prog 41 #[.pointer (some ⟨X, 0, none⟩), .int .i64 ((0 : Nat) : Int)] w (St N X g w d D) := by
  have hk : 0 < B.np := by omega
  refine (tr_run w (fun n => N ≤ n ∧ n < w.heap.size) X g 0 B h ho hk (by decide) (fun n hn' => hn'.2) (HB3 B) (fun _ => C) r hr hC ?_ (fun hr' w1 hx => hD hr' w1 hx.size (BrG.ext h hx)) (no_rows B r hno) hyes (d, D) hRS h44 h50).mono (fun e w' hS => St.of hS)
  intro j hjr hj hs2 w1 hx
  have hB := BrG.ext h hx
  have hj2 : j = 0 ∨ j = 1 ∨ j = 2 ∨ j = 3 ∨ j = 18 ∨ j = 19 ∨ j = 20 ∨ j = 21 ∨ j = 22 ∨ j = 23 := by
    rcases hs with hs | hs
    · rw [hs] at hs2; exact rows3 j hj hs2
    · omega
  rcases hj2 with rfl | rfl | rfl | rfl | rfl | rfl | rfl | rfl | rfl | rfl
  · exact tr_toDisabled w1 _ X g 0 B hB ho hk
  · exact tr_toRoot w1 _ X g 0 B hB ho hk
  · exact tr_toDesignated w1 _ X g 0 B hB ho hk
  · exact tr_toBlocked w1 _ X g 0 B hB ho hk
  · exact tr_proposes w1 _ X g 0 B hB ho hk
  · exact tr_syncs w1 _ X g 0 B hB ho hk
  · exact tr_waited w1 _ X g 0 B hB ho hk
  · exact tr_retires w1 _ X g 0 B hB ho hk
  · exact tr_designatedLearns w1 _ X g 0 B hB ho hk
  · exact tr_designatedForwards w1 _ X g 0 B hB ho hk
theorem c_sel_0 {N X g : Nat} {w : World} (h : WB N X g z0 w) : Calls Tryz.prog 36 #[.pointer (some ⟨X, 0, none⟩)] w (St N X g w true z1) := by
  refine (sel_step w _ X g z0 h z0_ok (by decide) (by decide) (fun k hk => by obtain rfl : k = 0 := (by have h1 : z0.np = 1 := rfl; omega); exact (by decide +kernel))).mono (fun e w' hS => ?_)
  have he : selF z0 = (true, z1) := by kernel_rfl
  rw [he] at hS
  exact St.of hS
theorem c_rx_1 {N X g : Nat} {w : World} (h : WB N X g z1 w) : Calls Tryz.prog 37 #[.pointer (some ⟨X, 0, none⟩), .int .i64 ((0 : Nat) : Int)] w (St N X g w false z1) := (rx_step0 w _ X g 0 z1 h z1_ok (by decide) (by decide) (by kernel_rfl)).mono (fun _ _ hS => St.of hS)
theorem c_mig_1 {N X g : Nat} {w : World} (h : WB N X g z1 w) : Calls Tryz.prog 38 #[.pointer (some ⟨X, 0, none⟩), .int .i64 ((0 : Nat) : Int)] w (St N X g w false z1) := (mig_s0c w _ X g 0 z1 h z1_ok (by decide) (by decide) (by kernel_rfl) (by kernel_rfl) (by kernel_rfl)).mono (fun _ _ hS => St.of hS)
theorem c_edge_1 {N X g : Nat} {w : World} (h : WB N X g z1 w) : Calls Tryz.prog 39 #[.pointer (some ⟨X, 0, none⟩), .int .i64 ((0 : Nat) : Int)] w (St N X g w false z1) := (edge_s0b w _ X g 0 z1 h z1_ok (by decide) (by decide) (by kernel_rfl) (by kernel_rfl)).mono (fun _ _ hS => St.of hS)
theorem c_info_1 {N X g : Nat} {w : World} (h : WB N X g z1 w) : Calls Tryz.prog 40 #[.pointer (some ⟨X, 0, none⟩), .int .i64 ((0 : Nat) : Int)] w (St N X g w true z2) := (inf_step2 w _ X g 0 z1 h z1_ok (by decide) (by decide) (by kernel_rfl)).mono (fun _ _ hS => (St.of hS).eq (by kernel_rfl))
theorem c_trans_2 {N X g : Nat} {w : World} (h : WB N X g z2 w) : Calls Tryz.prog 41 #[.pointer (some ⟨X, 0, none⟩), .int .i64 ((0 : Nat) : Int)] w (St N X g w false z2) := (tr_idle w _ X g 0 z2 h z2_ok (by decide) (by decide) (by decide +kernel)).mono (fun _ _ hS => St.of hS)
theorem c_passage_2 {N X g : Nat} {w : World} (h : WB N X g z2 w) : Calls Tryz.prog 42 #[.pointer (some ⟨X, 0, none⟩), .int .i64 ((0 : Nat) : Int)] w (St N X g w false z2) := (pas_s0b w _ X g 0 z2 h z2_ok (by decide) (by decide) (by kernel_rfl) (by kernel_rfl)).mono (fun _ _ hS => (St.of hS))
theorem c_topo_2 {N X g : Nat} {w : World} (h : WB N X g z2 w) : Calls Tryz.prog 43 #[.pointer (some ⟨X, 0, none⟩), .int .i64 ((0 : Nat) : Int)] w (St N X g w true z3) := (top_w h.F1 (top_flush w _ X g 0 z2 h z2_ok (by decide) (by decide) (show TR (z2.hi 2) (z2.hi 3) (z2.hi 4) (z2.hi 5) from tr20) (fun n hn => hn.2) (by kernel_rfl) (by decide))).mono (fun _ _ hS => hS.eq (by kernel_rfl))
theorem c_tx_3 {N X g : Nat} {w : World} (h : WB N X g z3 w) : Calls Tryz.prog 44 #[.pointer (some ⟨X, 0, none⟩), .int .i64 ((0 : Nat) : Int)] w (St N X g w false z3) := tx_s0 w N X g 0 z3 h z3_ok (by decide) (by decide) (by kernel_rfl)
theorem c_sel_3 {N X g : Nat} {w : World} (h : WB N X g z3 w) : Calls Tryz.prog 36 #[.pointer (some ⟨X, 0, none⟩)] w (St N X g w true z4) := by
  refine (sel_step w _ X g z3 h z3_ok (by decide) (by decide) (fun k hk => by obtain rfl : k = 0 := (by have h1 : z3.np = 1 := rfl; omega); exact (by decide +kernel))).mono (fun e w' hS => ?_)
  have he : selF z3 = (true, z4) := by kernel_rfl
  rw [he] at hS
  exact St.of hS
theorem c_rx_4 {N X g : Nat} {w : World} (h : WB N X g z4 w) : Calls Tryz.prog 37 #[.pointer (some ⟨X, 0, none⟩), .int .i64 ((0 : Nat) : Int)] w (St N X g w false z4) := (rx_step0 w _ X g 0 z4 h z4_ok (by decide) (by decide) (by kernel_rfl)).mono (fun _ _ hS => St.of hS)
theorem c_mig_4 {N X g : Nat} {w : World} (h : WB N X g z4 w) : Calls Tryz.prog 38 #[.pointer (some ⟨X, 0, none⟩), .int .i64 ((0 : Nat) : Int)] w (St N X g w false z4) := (mig_s0c w _ X g 0 z4 h z4_ok (by decide) (by decide) (by kernel_rfl) (by kernel_rfl) (by kernel_rfl)).mono (fun _ _ hS => St.of hS)
theorem c_edge_4 {N X g : Nat} {w : World} (h : WB N X g z4 w) : Calls Tryz.prog 39 #[.pointer (some ⟨X, 0, none⟩), .int .i64 ((0 : Nat) : Int)] w (St N X g w false z4) := (edge_s0b w _ X g 0 z4 h z4_ok (by decide) (by decide) (by kernel_rfl) (by kernel_rfl)).mono (fun _ _ hS => St.of hS)
theorem c_info_4 {N X g : Nat} {w : World} (h : WB N X g z4 w) : Calls Tryz.prog 40 #[.pointer (some ⟨X, 0, none⟩), .int .i64 ((0 : Nat) : Int)] w (St N X g w true z5) := (inf_step3 w _ X g 0 z4 h z4_ok (by decide) (by decide) (by kernel_rfl)).mono (fun _ _ hS => (St.of hS).eq (by kernel_rfl))
def z6c : Br := z5.setp 0 87 (.int .i64 4)
theorem z6c_ok : z6c.ok := (show z6c.ok from z5_ok.setI (k := 0) (by decide) 87 .i64 4 rfl (by decide))
theorem c_trans_5 {N X g : Nat} {w : World} (h : WB N X g z5 w) : Calls Tryz.prog 41 #[.pointer (some ⟨X, 0, none⟩), .int .i64 ((0 : Nat) : Int)] w (St N X g w true z6) := by
  have hc : (z5.setp 0 87 (.int .i64 (z5.gi 0 88))) = z6c := by kernel_rfl
  refine tr_w z5 z6c h z5_ok rfl 2 (by decide) (.inr (by decide)) (by kernel_rfl) (by kernel_rfl) (by kernel_rfl) (fun _ => ⟨(.inl rfl), by kernel_rfl⟩) (fun _ => ⟨z6c_ok, rfl⟩) (fun _ w1 hsz h1 => ?_) true z6 (by kernel_rfl)
  rw [← hc]
  exact tr_take w1 _ X g 0 z5 h1 z5_ok (by decide)
theorem c_passage_6 {N X g : Nat} {w : World} (h : WB N X g z6 w) : Calls Tryz.prog 42 #[.pointer (some ⟨X, 0, none⟩), .int .i64 ((0 : Nat) : Int)] w (St N X g w false z6) := (pas_s0b w _ X g 0 z6 h z6_ok (by decide) (by decide) (by kernel_rfl) (by kernel_rfl)).mono (fun _ _ hS => (St.of hS))
theorem c_topo_6 {N X g : Nat} {w : World} (h : WB N X g z6 w) : Calls Tryz.prog 43 #[.pointer (some ⟨X, 0, none⟩), .int .i64 ((0 : Nat) : Int)] w (St N X g w false z6) := (top_step0b w _ X g 0 z6 h z6_ok (by decide) (by decide) (show TR (z6.hi 2) (z6.hi 3) (z6.hi 4) (z6.hi 5) from tr20) (fun n hn => hn.2) (by kernel_rfl) (by kernel_rfl) (by kernel_rfl)).mono (fun _ _ hS => St.of hS)
theorem c_tx_6 {N X g : Nat} {w : World} (h : WB N X g z6 w) : Calls Tryz.prog 44 #[.pointer (some ⟨X, 0, none⟩), .int .i64 ((0 : Nat) : Int)] w (St N X g w true z7) := (tx_news w N X g 0 z6 h z6_ok (by decide) (by decide) (by kernel_rfl) (by kernel_rfl) (by kernel_rfl) (by kernel_rfl) (by kernel_rfl) (by decide +kernel) (by decide +kernel) (by decide)).mono (fun _ _ hS => ⟨hS.1, (show txNews z6 0 = z7 from by kernel_rfl) ▸ hS.2.1, hS.2.2⟩)
theorem c_sel_7 {N X g : Nat} {w : World} (h : WB N X g z7 w) : Calls Tryz.prog 36 #[.pointer (some ⟨X, 0, none⟩)] w (St N X g w false z7) := by
  refine (sel_step w _ X g z7 h z7_ok (by decide) (by decide) (fun k hk => by obtain rfl : k = 0 := (by have h1 : z7.np = 1 := rfl; omega); exact (by decide +kernel))).mono (fun e w' hS => ?_)
  have he : selF z7 = (false, z7) := by kernel_rfl
  rw [he] at hS
  exact St.of hS
theorem c_rx_7 {N X g : Nat} {w : World} (h : WB N X g z7 w) : Calls Tryz.prog 37 #[.pointer (some ⟨X, 0, none⟩), .int .i64 ((0 : Nat) : Int)] w (St N X g w false z7) := (rx_step0 w _ X g 0 z7 h z7_ok (by decide) (by decide) (by kernel_rfl)).mono (fun _ _ hS => St.of hS)
theorem c_mig_7 {N X g : Nat} {w : World} (h : WB N X g z7 w) : Calls Tryz.prog 38 #[.pointer (some ⟨X, 0, none⟩), .int .i64 ((0 : Nat) : Int)] w (St N X g w false z7) := (mig_s0c w _ X g 0 z7 h z7_ok (by decide) (by decide) (by kernel_rfl) (by kernel_rfl) (by kernel_rfl)).mono (fun _ _ hS => St.of hS)
theorem c_edge_7 {N X g : Nat} {w : World} (h : WB N X g z7 w) : Calls Tryz.prog 39 #[.pointer (some ⟨X, 0, none⟩), .int .i64 ((0 : Nat) : Int)] w (St N X g w false z7) := (edge_s0b w _ X g 0 z7 h z7_ok (by decide) (by decide) (by kernel_rfl) (by kernel_rfl)).mono (fun _ _ hS => St.of hS)
theorem c_info_7 {N X g : Nat} {w : World} (h : WB N X g z7 w) : Calls Tryz.prog 40 #[.pointer (some ⟨X, 0, none⟩), .int .i64 ((0 : Nat) : Int)] w (St N X g w false z7) := (inf_step0 w _ X g 0 z7 h z7_ok (by decide) (by decide) (by kernel_rfl)).mono (fun _ _ hS => St.of hS)
theorem c_trans_7 {N X g : Nat} {w : World} (h : WB N X g z7 w) : Calls Tryz.prog 41 #[.pointer (some ⟨X, 0, none⟩), .int .i64 ((0 : Nat) : Int)] w (St N X g w true z8) := by
  have hc : (((z7.setp 0 12 (.int .i64 0)).setp 0 47 (.bool true)).setp 0 46 (.bool false)) = z8 := by kernel_rfl
  refine tr_w z7 z8 h z7_ok rfl 19 (by decide) (.inl (by kernel_rfl)) (by kernel_rfl) (by kernel_rfl) (by kernel_rfl) (fun _ => ⟨(.inr rfl), by kernel_rfl⟩) (fun _ => ⟨z8_ok, rfl⟩) (fun _ w1 hsz h1 => ?_) true z8 (by kernel_rfl)
  rw [← hc]
  exact (tr_sync w1 _ X g 0 z7 h1 z7_ok (by decide)).mono (fun _ _ q => ⟨q.1, q.2.1, q.2.2.mono (fun n _ e => by rw [show n = g from e]; exact h1.F2)⟩)
theorem c_passage_8 {N X g : Nat} {w : World} (h : WB N X g z8 w) : Calls Tryz.prog 42 #[.pointer (some ⟨X, 0, none⟩), .int .i64 ((0 : Nat) : Int)] w (St N X g w false z8) := (pas_s0b w _ X g 0 z8 h z8_ok (by decide) (by decide) (by kernel_rfl) (by kernel_rfl)).mono (fun _ _ hS => (St.of hS))
theorem c_topo_8 {N X g : Nat} {w : World} (h : WB N X g z8 w) : Calls Tryz.prog 43 #[.pointer (some ⟨X, 0, none⟩), .int .i64 ((0 : Nat) : Int)] w (St N X g w false z8) := (top_step0b w _ X g 0 z8 h z8_ok (by decide) (by decide) (show TR (z8.hi 2) (z8.hi 3) (z8.hi 4) (z8.hi 5) from tr20) (fun n hn => hn.2) (by kernel_rfl) (by kernel_rfl) (by kernel_rfl)).mono (fun _ _ hS => St.of hS)
theorem c_tx_8 {N X g : Nat} {w : World} (h : WB N X g z8 w) : Calls Tryz.prog 44 #[.pointer (some ⟨X, 0, none⟩), .int .i64 ((0 : Nat) : Int)] w (St N X g w false z8) := tx_n2 w N X g 0 z8 h z8_ok (by decide) (by decide) (by kernel_rfl) (by kernel_rfl) (by kernel_rfl) (by kernel_rfl) (by kernel_rfl)
theorem c_sel_8 {N X g : Nat} {w : World} (h : WB N X g z8 w) : Calls Tryz.prog 36 #[.pointer (some ⟨X, 0, none⟩)] w (St N X g w false z8) := by
  refine (sel_step w _ X g z8 h z8_ok (by decide) (by decide) (fun k hk => by obtain rfl : k = 0 := (by have h1 : z8.np = 1 := rfl; omega); exact (by decide +kernel))).mono (fun e w' hS => ?_)
  have he : selF z8 = (false, z8) := by kernel_rfl
  rw [he] at hS
  exact St.of hS
theorem c_rx_8 {N X g : Nat} {w : World} (h : WB N X g z8 w) : Calls Tryz.prog 37 #[.pointer (some ⟨X, 0, none⟩), .int .i64 ((0 : Nat) : Int)] w (St N X g w false z8) := (rx_step0 w _ X g 0 z8 h z8_ok (by decide) (by decide) (by kernel_rfl)).mono (fun _ _ hS => St.of hS)
theorem c_mig_8 {N X g : Nat} {w : World} (h : WB N X g z8 w) : Calls Tryz.prog 38 #[.pointer (some ⟨X, 0, none⟩), .int .i64 ((0 : Nat) : Int)] w (St N X g w false z8) := (mig_s0c w _ X g 0 z8 h z8_ok (by decide) (by decide) (by kernel_rfl) (by kernel_rfl) (by kernel_rfl)).mono (fun _ _ hS => St.of hS)
theorem c_edge_8 {N X g : Nat} {w : World} (h : WB N X g z8 w) : Calls Tryz.prog 39 #[.pointer (some ⟨X, 0, none⟩), .int .i64 ((0 : Nat) : Int)] w (St N X g w false z8) := (edge_s0b w _ X g 0 z8 h z8_ok (by decide) (by decide) (by kernel_rfl) (by kernel_rfl)).mono (fun _ _ hS => St.of hS)
theorem c_info_8 {N X g : Nat} {w : World} (h : WB N X g z8 w) : Calls Tryz.prog 40 #[.pointer (some ⟨X, 0, none⟩), .int .i64 ((0 : Nat) : Int)] w (St N X g w false z8) := (inf_step0 w _ X g 0 z8 h z8_ok (by decide) (by decide) (by kernel_rfl)).mono (fun _ _ hS => St.of hS)
theorem c_trans_8 {N X g : Nat} {w : World} (h : WB N X g z8 w) : Calls Tryz.prog 41 #[.pointer (some ⟨X, 0, none⟩), .int .i64 ((0 : Nat) : Int)] w (St N X g w true z9) := by
  have hc : (z8.setp 0 42 (.bool false)) = z9 := by kernel_rfl
  refine tr_w z8 z9 h z8_ok rfl 20 (by decide) (.inl (by kernel_rfl)) (by kernel_rfl) (by kernel_rfl) (by kernel_rfl) (fun _ => ⟨(.inr rfl), by kernel_rfl⟩) (fun _ => ⟨z9_ok, rfl⟩) (fun _ w1 hsz h1 => ?_) true z9 (by kernel_rfl)
  rw [← hc]
  exact tr_rerooted w1 _ X g 0 z8 h1 z8_ok (by decide)
theorem c_passage_9 {N X g : Nat} {w : World} (h : WB N X g z9 w) : Calls Tryz.prog 42 #[.pointer (some ⟨X, 0, none⟩), .int .i64 ((0 : Nat) : Int)] w (St N X g w false z9) := (pas_s0b w _ X g 0 z9 h z9_ok (by decide) (by decide) (by kernel_rfl) (by kernel_rfl)).mono (fun _ _ hS => (St.of hS))
theorem c_topo_9 {N X g : Nat} {w : World} (h : WB N X g z9 w) : Calls Tryz.prog 43 #[.pointer (some ⟨X, 0, none⟩), .int .i64 ((0 : Nat) : Int)] w (St N X g w false z9) := (top_step0b w _ X g 0 z9 h z9_ok (by decide) (by decide) (show TR (z9.hi 2) (z9.hi 3) (z9.hi 4) (z9.hi 5) from tr20) (fun n hn => hn.2) (by kernel_rfl) (by kernel_rfl) (by kernel_rfl)).mono (fun _ _ hS => St.of hS)
theorem c_tx_9 {N X g : Nat} {w : World} (h : WB N X g z9 w) : Calls Tryz.prog 44 #[.pointer (some ⟨X, 0, none⟩), .int .i64 ((0 : Nat) : Int)] w (St N X g w false z9) := tx_n2 w N X g 0 z9 h z9_ok (by decide) (by decide) (by kernel_rfl) (by kernel_rfl) (by kernel_rfl) (by kernel_rfl) (by kernel_rfl)
theorem c_sel_9 {N X g : Nat} {w : World} (h : WB N X g z9 w) : Calls Tryz.prog 36 #[.pointer (some ⟨X, 0, none⟩)] w (St N X g w false z9) := by
  refine (sel_step w _ X g z9 h z9_ok (by decide) (by decide) (fun k hk => by obtain rfl : k = 0 := (by have h1 : z9.np = 1 := rfl; omega); exact (by decide +kernel))).mono (fun e w' hS => ?_)
  have he : selF z9 = (false, z9) := by kernel_rfl
  rw [he] at hS
  exact St.of hS
theorem c_rx_9 {N X g : Nat} {w : World} (h : WB N X g z9 w) : Calls Tryz.prog 37 #[.pointer (some ⟨X, 0, none⟩), .int .i64 ((0 : Nat) : Int)] w (St N X g w false z9) := (rx_step0 w _ X g 0 z9 h z9_ok (by decide) (by decide) (by kernel_rfl)).mono (fun _ _ hS => St.of hS)
theorem c_mig_9 {N X g : Nat} {w : World} (h : WB N X g z9 w) : Calls Tryz.prog 38 #[.pointer (some ⟨X, 0, none⟩), .int .i64 ((0 : Nat) : Int)] w (St N X g w false z9) := (mig_s0c w _ X g 0 z9 h z9_ok (by decide) (by decide) (by kernel_rfl) (by kernel_rfl) (by kernel_rfl)).mono (fun _ _ hS => St.of hS)
theorem c_edge_9 {N X g : Nat} {w : World} (h : WB N X g z9 w) : Calls Tryz.prog 39 #[.pointer (some ⟨X, 0, none⟩), .int .i64 ((0 : Nat) : Int)] w (St N X g w false z9) := (edge_s0b w _ X g 0 z9 h z9_ok (by decide) (by decide) (by kernel_rfl) (by kernel_rfl)).mono (fun _ _ hS => St.of hS)
theorem c_info_9 {N X g : Nat} {w : World} (h : WB N X g z9 w) : Calls Tryz.prog 40 #[.pointer (some ⟨X, 0, none⟩), .int .i64 ((0 : Nat) : Int)] w (St N X g w false z9) := (inf_step0 w _ X g 0 z9 h z9_ok (by decide) (by decide) (by kernel_rfl)).mono (fun _ _ hS => St.of hS)
theorem c_trans_9 {N X g : Nat} {w : World} (h : WB N X g z9 w) : Calls Tryz.prog 41 #[.pointer (some ⟨X, 0, none⟩), .int .i64 ((0 : Nat) : Int)] w (St N X g w true z10) := by
  have hc : (trLearn z9 0) = z10 := by kernel_rfl
  refine tr_w z9 z10 h z9_ok rfl 22 (by decide) (.inl (by kernel_rfl)) (by kernel_rfl) (by kernel_rfl) (by kernel_rfl) (fun _ => ⟨(.inr rfl), by kernel_rfl⟩) (fun _ => ⟨z10_ok, rfl⟩) (fun _ w1 hsz h1 => ?_) true z10 (by kernel_rfl)
  rw [← hc]
  exact (tr_learn w1 _ X g 0 z9 h1 z9_ok (by decide)).mono (fun _ _ q => ⟨q.1, q.2.1, q.2.2.mono (fun n _ e => by rw [show n = g from e]; exact h1.F2)⟩)
theorem c_passage_10 {N X g : Nat} {w : World} (h : WB N X g z10 w) : Calls Tryz.prog 42 #[.pointer (some ⟨X, 0, none⟩), .int .i64 ((0 : Nat) : Int)] w (St N X g w true z11) := (pas_s0a w _ X g 0 z10 h z10_ok (by decide) (by decide) (by kernel_rfl) (by kernel_rfl)).mono (fun _ _ hS => (St.of hS).eq (by kernel_rfl))
theorem c_topo_11 {N X g : Nat} {w : World} (h : WB N X g z11 w) : Calls Tryz.prog 43 #[.pointer (some ⟨X, 0, none⟩), .int .i64 ((0 : Nat) : Int)] w (St N X g w true z12) := (top_step0a w _ X g 0 z11 h z11_ok (by decide) (by decide) (show TR (z11.hi 2) (z11.hi 3) (z11.hi 4) (z11.hi 5) from tr20) (fun n hn => hn.2) (by kernel_rfl) (by kernel_rfl) (by kernel_rfl)).mono (fun _ _ hS => (St.of hS).eq (by kernel_rfl))
theorem c_tx_12 {N X g : Nat} {w : World} (h : WB N X g z12 w) : Calls Tryz.prog 44 #[.pointer (some ⟨X, 0, none⟩), .int .i64 ((0 : Nat) : Int)] w (St N X g w false z12) := tx_n2 w N X g 0 z12 h z12_ok (by decide) (by decide) (by kernel_rfl) (by kernel_rfl) (by kernel_rfl) (by kernel_rfl) (by kernel_rfl)
theorem c_sel_12 {N X g : Nat} {w : World} (h : WB N X g z12 w) : Calls Tryz.prog 36 #[.pointer (some ⟨X, 0, none⟩)] w (St N X g w false z12) := by
  refine (sel_step w _ X g z12 h z12_ok (by decide) (by decide) (fun k hk => by obtain rfl : k = 0 := (by have h1 : z12.np = 1 := rfl; omega); exact (by decide +kernel))).mono (fun e w' hS => ?_)
  have he : selF z12 = (false, z12) := by kernel_rfl
  rw [he] at hS
  exact St.of hS
theorem c_rx_12 {N X g : Nat} {w : World} (h : WB N X g z12 w) : Calls Tryz.prog 37 #[.pointer (some ⟨X, 0, none⟩), .int .i64 ((0 : Nat) : Int)] w (St N X g w false z12) := (rx_step0 w _ X g 0 z12 h z12_ok (by decide) (by decide) (by kernel_rfl)).mono (fun _ _ hS => St.of hS)
theorem c_mig_12 {N X g : Nat} {w : World} (h : WB N X g z12 w) : Calls Tryz.prog 38 #[.pointer (some ⟨X, 0, none⟩), .int .i64 ((0 : Nat) : Int)] w (St N X g w false z12) := (mig_s0c w _ X g 0 z12 h z12_ok (by decide) (by decide) (by kernel_rfl) (by kernel_rfl) (by kernel_rfl)).mono (fun _ _ hS => St.of hS)
theorem c_edge_12 {N X g : Nat} {w : World} (h : WB N X g z12 w) : Calls Tryz.prog 39 #[.pointer (some ⟨X, 0, none⟩), .int .i64 ((0 : Nat) : Int)] w (St N X g w false z12) := (edge_s0b w _ X g 0 z12 h z12_ok (by decide) (by decide) (by kernel_rfl) (by kernel_rfl)).mono (fun _ _ hS => St.of hS)
theorem c_info_12 {N X g : Nat} {w : World} (h : WB N X g z12 w) : Calls Tryz.prog 40 #[.pointer (some ⟨X, 0, none⟩), .int .i64 ((0 : Nat) : Int)] w (St N X g w false z12) := (inf_step0 w _ X g 0 z12 h z12_ok (by decide) (by decide) (by kernel_rfl)).mono (fun _ _ hS => St.of hS)
theorem c_trans_12 {N X g : Nat} {w : World} (h : WB N X g z12 w) : Calls Tryz.prog 41 #[.pointer (some ⟨X, 0, none⟩), .int .i64 ((0 : Nat) : Int)] w (St N X g w true z13) := by
  have hc : ((trFwd z12 0).setp 0 23 (.bool (z12.gb 0 45))) = z13 := by kernel_rfl
  refine tr_w z12 z13 h z12_ok rfl 23 (by decide) (.inl (by kernel_rfl)) (by kernel_rfl) (by kernel_rfl) (by kernel_rfl) (fun _ => ⟨(.inr rfl), by kernel_rfl⟩) (fun _ => ⟨z13_ok, rfl⟩) (fun _ w1 hsz h1 => ?_) true z13 (by kernel_rfl)
  rw [← hc]
  exact tr_forwardDesignated w1 _ X g 0 z12 h1 z12_ok (by decide) (fun n hn => Nat.lt_of_lt_of_le hn.2 hsz)
theorem c_passage_13 {N X g : Nat} {w : World} (h : WB N X g z13 w) : Calls Tryz.prog 42 #[.pointer (some ⟨X, 0, none⟩), .int .i64 ((0 : Nat) : Int)] w (St N X g w true z14) := (pas_s1b w _ X g 0 z13 h z13_ok (by decide) (by decide) (by kernel_rfl) (by kernel_rfl) (by kernel_rfl)).mono (fun _ _ hS => (St.of hS).eq (by kernel_rfl))
theorem c_topo_14 {N X g : Nat} {w : World} (h : WB N X g z14 w) : Calls Tryz.prog 43 #[.pointer (some ⟨X, 0, none⟩), .int .i64 ((0 : Nat) : Int)] w (St N X g w false z14) := (top_step1_0 w _ X g 0 z14 h z14_ok (by decide) (by decide) (show TR (z14.hi 2) (z14.hi 3) (z14.hi 4) (z14.hi 5) from tr20) (fun n hn => hn.2) (by kernel_rfl) (by kernel_rfl) (by kernel_rfl)).mono (fun _ _ hS => St.of hS)
theorem c_tx_14 {N X g : Nat} {w : World} (h : WB N X g z14 w) : Calls Tryz.prog 44 #[.pointer (some ⟨X, 0, none⟩), .int .i64 ((0 : Nat) : Int)] w (St N X g w false z14) := tx_n2 w N X g 0 z14 h z14_ok (by decide) (by decide) (by kernel_rfl) (by kernel_rfl) (by kernel_rfl) (by kernel_rfl) (by kernel_rfl)
theorem c_sel_14 {N X g : Nat} {w : World} (h : WB N X g z14 w) : Calls Tryz.prog 36 #[.pointer (some ⟨X, 0, none⟩)] w (St N X g w false z14) := by
  refine (sel_step w _ X g z14 h z14_ok (by decide) (by decide) (fun k hk => by obtain rfl : k = 0 := (by have h1 : z14.np = 1 := rfl; omega); exact (by decide +kernel))).mono (fun e w' hS => ?_)
  have he : selF z14 = (false, z14) := by kernel_rfl
  rw [he] at hS
  exact St.of hS
theorem c_rx_14 {N X g : Nat} {w : World} (h : WB N X g z14 w) : Calls Tryz.prog 37 #[.pointer (some ⟨X, 0, none⟩), .int .i64 ((0 : Nat) : Int)] w (St N X g w false z14) := (rx_step0 w _ X g 0 z14 h z14_ok (by decide) (by decide) (by kernel_rfl)).mono (fun _ _ hS => St.of hS)
theorem c_mig_14 {N X g : Nat} {w : World} (h : WB N X g z14 w) : Calls Tryz.prog 38 #[.pointer (some ⟨X, 0, none⟩), .int .i64 ((0 : Nat) : Int)] w (St N X g w false z14) := (mig_s0c w _ X g 0 z14 h z14_ok (by decide) (by decide) (by kernel_rfl) (by kernel_rfl) (by kernel_rfl)).mono (fun _ _ hS => St.of hS)
theorem c_edge_14 {N X g : Nat} {w : World} (h : WB N X g z14 w) : Calls Tryz.prog 39 #[.pointer (some ⟨X, 0, none⟩), .int .i64 ((0 : Nat) : Int)] w (St N X g w false z14) := (edge_s0b w _ X g 0 z14 h z14_ok (by decide) (by decide) (by kernel_rfl) (by kernel_rfl)).mono (fun _ _ hS => St.of hS)
theorem c_info_14 {N X g : Nat} {w : World} (h : WB N X g z14 w) : Calls Tryz.prog 40 #[.pointer (some ⟨X, 0, none⟩), .int .i64 ((0 : Nat) : Int)] w (St N X g w false z14) := (inf_step0 w _ X g 0 z14 h z14_ok (by decide) (by decide) (by kernel_rfl)).mono (fun _ _ hS => St.of hS)
theorem c_trans_14 {N X g : Nat} {w : World} (h : WB N X g z14 w) : Calls Tryz.prog 41 #[.pointer (some ⟨X, 0, none⟩), .int .i64 ((0 : Nat) : Int)] w (St N X g w false z14) := tr_w z14 z14 h z14_ok rfl 24 (by decide) (.inl (by kernel_rfl)) (by kernel_rfl) (by kernel_rfl) (by kernel_rfl) (fun hh => absurd hh (by decide)) (fun hh => absurd hh (by decide)) (fun hh => absurd hh (by decide)) false z14 rfl
theorem c_passage_14 {N X g : Nat} {w : World} (h : WB N X g z14 w) : Calls Tryz.prog 42 #[.pointer (some ⟨X, 0, none⟩), .int .i64 ((0 : Nat) : Int)] w (St N X g w false z14) := (pas_s2b w _ X g 0 z14 h z14_ok (by decide) (by decide) (by kernel_rfl) (by kernel_rfl)).mono (fun _ _ hS => (St.of hS))
end Go.Proofs.YtpanapepcbbagaaGreat
namespace Go.Proofs.YtpanapepcbbagaaGreat
open Go.RowKit Go.BigFrame Go.WideShapes Go.ChangeShapes Go.Deep
set_option linter.unusedVariables false
set_option linter.unusedSimpArgs false
set_option maxRecDepth 100000
theorem none_asked (w : World) (X : Nat) {a17 : Option Addr} {c17 : Nat} (h17 : w.cell? ⟨X, 17, none⟩ = some (.slice a17 0 c17)) : Calls Tryz.prog 47 #[.pointer (some ⟨X, 0, none⟩)] w fun e w' => e = .returned (.bool false) ∧ w = w' := by
  go_enter Tryz.func47, Tryz.ntmps47
  go_wp2_with fail
  refine wp_loop_rounds 1 ?_
  rw [rounds_succ]
  go_wp2_with fail
  go_ret
  exact ⟨rfl, rfl⟩
theorem none_step (w : World) (X : Nat) {a17 : Option Addr} {c17 : Nat} (h17 : w.cell? ⟨X, 17, none⟩ = some (.slice a17 0 c17)) : Calls Tryz.prog 36 #[.pointer (some ⟨X, 0, none⟩)] w fun e w' => e = .returned (.bool false) ∧ w = w' := by
  go_enter Tryz.func36, Tryz.ntmps36
  go_wp2_with fail
  refine (none_asked w X h17).mono ?_
  rintro e w' ⟨rfl, rfl⟩
  go_wp2_with fail
  go_ret
  exact ⟨rfl, rfl⟩
theorem none_round (w : World) (X : Nat) {a17 : Option Addr} {c17 : Nat} (h17 : w.cell? ⟨X, 17, none⟩ = some (.slice a17 0 c17)) : Calls Tryz.prog 26 #[.pointer (some ⟨X, 0, none⟩)] w fun e w' => e = .returned (.int .i64 0) ∧ w = w' := by
  go_enter Tryz.func26, Tryz.ntmps26
  go_wp2_with fail
  refine (none_step w X h17).mono ?_
  rintro e w' ⟨rfl, rfl⟩
  go_wp2_with fail
  refine wp_loop_rounds 1 ?_
  rw [rounds_succ]
  go_wp2_with fail
  go_ret
  exact ⟨rfl, rfl⟩
theorem none_run (w : World) (X : Nat) {a17 : Option Addr} {c17 : Nat} (h17 : w.cell? ⟨X, 17, none⟩ = some (.slice a17 0 c17)) : Calls Tryz.prog 17 #[.pointer (some ⟨X, 0, none⟩)] w fun e w' => e = .returned (.tuple #[.int .i64 0, .bool true]) ∧ w = w' := by
  go_enter Tryz.func17, Tryz.ntmps17
  go_wp2_with fail
  refine wp_loop_rounds 1 ?_
  rw [rounds_succ]
  go_wp2_with fail
  refine (none_round w X h17).mono ?_
  rintro e w' ⟨rfl, rfl⟩
  go_wp2_with fail
  go_ret2
  exact ⟨rfl, rfl⟩
def stF : Nat → FuncId
  | 0 => 37
  | 1 => 38
  | 2 => 39
  | 3 => 40
  | 4 => 41
  | 5 => 42
  | 6 => 43
  | _ => 44
def stTab : Array Value := #[.func (.func 37) #[] #[], .func (.func 38) #[] #[], .func (.func 39) #[] #[], .func (.func 40) #[] #[], .func (.func 41) #[] #[], .func (.func 42) #[] #[], .func (.func 43) #[] #[], .func (.func 44) #[] #[]]
theorem st_ix (j : Nat) (hj : j < 8) (w : World) : (Instr.index 85 (.agg stTab) (.int .i64 (j : Int))).run Tryz.prog w = .ok (.func (.func (stF j)) #[] #[]) w := by
  rcases (by omega : j = 0 ∨ j = 1 ∨ j = 2 ∨ j = 3 ∨ j = 4 ∨ j = 5 ∨ j = 6 ∨ j = 7) with rfl | rfl | rfl | rfl | rfl | rfl | rfl | rfl <;> kernel_rfl
theorem st_call (j : Nat) (hj : j < 8) (v u : Value) (w : World) : (callFunc (stF j) #[v, u]).run Tryz.prog w = .ok (Next.enter (stF j) #[v, u]) w := by
  rcases (by omega : j = 0 ∨ j = 1 ∨ j = 2 ∨ j = 3 ∨ j = 4 ∨ j = 5 ∨ j = 6 ∨ j = 7) with rfl | rfl | rfl | rfl | rfl | rfl | rfl | rfl <;> kernel_rfl
theorem st_built : Tryz.prog.built 85 [(0, .func (.func 37) #[] #[]), (1, .func (.func 38) #[] #[]), (2, .func (.func 39) #[] #[]), (3, .func (.func 40) #[] #[]), (4, .func (.func 41) #[] #[]), (5, .func (.func 42) #[] #[]), (6, .func (.func 43) #[] #[]), (7, .func (.func 44) #[] #[])] = some stTab := by kernel_rfl
/-- How many of the first ones are so. -/
def cnt (ds : Nat → Bool) : Nat → Nat
  | 0 => 0
  | n + 1 => cnt ds n + (ds n).toNat
theorem cnt_le (ds : Nat → Bool) : ∀ n, cnt ds n ≤ n
  | 0 => Nat.le_refl _
  | n + 1 => by
    have := cnt_le ds n
    have h2 : (ds n).toNat ≤ 1 := by cases ds n <;> decide
    show cnt ds n + (ds n).toNat ≤ n + 1
    omega
set_option maxHeartbeats 4000000 in
theorem round_any {N X g : Nat} (Bs : Nat → Br) (ds : Nat → Bool) (w : World) (h : WB N X g (Bs 0) w) (hok : (Bs 1).ok) (hnp : (Bs 1).np = 1)
    (hsel : ∀ w, WB N X g (Bs 0) w → Calls Tryz.prog 36 #[.pointer (some ⟨X, 0, none⟩)] w (St N X g w (ds 0) (Bs 1)))
    (hst : ∀ j, j < 8 → ∀ w, WB N X g (Bs (j + 1)) w → Calls Tryz.prog (stF j) #[.pointer (some ⟨X, 0, none⟩), .int .i64 ((0 : Nat) : Int)] w (St N X g w (ds (j + 1)) (Bs (j + 2)))) :
    Calls Tryz.prog 26 #[.pointer (some ⟨X, 0, none⟩)] w fun e w' => e = .returned (.int .i64 (cnt ds 9 : Nat)) ∧ WB N X g (Bs 9) w' ∧ Mut (fun n => N ≤ n) w w' := by
  have HST := Lib.hid hst
  clear hst
  go_enter Tryz.func26, Tryz.ntmps26
  go_wp2_with fail
  refine (hsel w h).mono ?_
  rintro e w1 ⟨rfl, hB, hm⟩
  have HB := Lib.hid hB
  have HM := Lib.hid hm
  obtain ⟨cap, c17, hc1, hc2⟩ := BrG.cell17 hB hok
  rw [hnp] at c17 hc1
  clear h hsel hB hm
  have hc9 : cnt ds 1 ≤ 1 := cnt_le ds 1
  have hc0 : cnt ds 1 = 0 + (ds 0).toNat := rfl
  obtain ⟨d0, hd0⟩ : ∃ d, ds 0 = d := ⟨_, rfl⟩
  rw [hd0] at hc0 ⊢
  obtain ⟨c1, hcc⟩ : ∃ c : Int, c = ((cnt ds 1 : Nat) : Int) := ⟨_, rfl⟩
  have HC1 := Lib.hid hcc
  have hcv : c1 = (if d0 = true then 1 else 0) := by rw [hcc, hc0]; cases d0 <;> rfl
  clear hc0 hd0 hc9 hcc
  cases d0
  all_goals
    simp only [if_true, Bool.false_eq_true, if_false] at hcv
    go_wp2_with fail
    go_loopw [16, 3] (fun v a wr => ∃ n : Nat, n ≤ 1 ∧ v = .int .i64 n ∧ a = .int .i64 (cnt ds (if n = 0 then 1 else 9) : Nat) ∧ WB N X g (Bs (if n = 0 then 1 else 9)) wr ∧ Mut (fun n => N ≤ n) w wr) (fun v _ _ => 1 - (intOf v).toNat)
    case atStart => exact ⟨0, by omega, rfl, by rw [← hcv]; exact congrArg _ HC1.out, HB.out, HM.out⟩
    case round =>
      clear c17 HC1 hcv HB HM
      obtain ⟨n, hn, rfl, rfl, hB, hm⟩ := hrel
      have h2 : n = 0 ∨ n = 1 := by omega
      rcases h2 with rfl | rfl
      · rw [if_pos rfl] at hB ⊢
        have HB := Lib.hid hB
        have HM := Lib.hid hm
        clear hB hm
        go_wp2_with (first
          | fail
          | ((with_reducible refine at_build 85 ?_); refine wpList_build2 rfl 85 _ rfl _ rfl _ st_built ?_))
        go_loopw [20, 3] (fun v a wr => ∃ j : Nat, j ≤ 8 ∧ v = .int .i64 j ∧ a = .int .i64 (cnt ds (j + 1) : Nat) ∧ WB N X g (Bs (j + 1)) wr ∧ Mut (fun n => N ≤ n) w wr) (fun v _ _ => 8 - (intOf v).toNat)
        case atStart => exact ⟨0, by omega, rfl, rfl, HB.out, HM.out⟩
        case round =>
          clear HB HM
          obtain ⟨j, hj, rfl, rfl, hB, hm⟩ := hrel
          have HB := Lib.hid hB
          have HM := Lib.hid hm
          clear hB hm
          by_cases hlt : j < 8
          · have dlt : decide ((j : Int) < 8) = true := by simp; omega
            have hix := st_ix j hlt
            have hcf := st_call j hlt
            have hcl := cnt_le ds (j + 1)
            have hc2 : cnt ds (j + 2) = cnt ds (j + 1) + (ds (j + 1)).toNat := rfl
            obtain ⟨c, hc⟩ : ∃ c : Nat, cnt ds (j + 1) = c := ⟨_, rfl⟩
            rw [hc] at hcl hc2 ⊢
            obtain ⟨c', hc'⟩ : ∃ c : Nat, cnt ds (j + 2) = c := ⟨_, rfl⟩
            rw [hc'] at hc2
            have HC := Lib.hid hc'
            clear hc hc'
            go_wp2_with fail
            refine (HST.out j hlt _ HB.out).mono ?_
            rintro e w2 ⟨rfl, hB2, hm2⟩
            have HB2 := Lib.hid hB2
            have HM2 := Lib.hid (HM.out.trans hm2)
            clear hB2 hm2 hix hcf
            obtain ⟨d, hd⟩ : ∃ d, ds (j + 1) = d := ⟨_, rfl⟩
            rw [hd] at hc2 ⊢
            clear hd
            have hup : IntKind.i64.wrap ((c : Int) + 1) = ((c + 1 : Nat) : Int) := by rw [IntKind.wrap_i64]; omega
            cases d
            · obtain rfl : c' = c := hc2
              go_wp2_with fail
              go_roundw
              case rel => exact ⟨j + 1, by omega, by go_num, by rw [HC.out], HB2.out, HM2.out⟩
              case measure => simp [intOf]; omega
            · obtain rfl : c' = c + 1 := hc2
              go_wp2_with fail
              go_roundw
              case rel => exact ⟨j + 1, by omega, by go_num, by rw [HC.out]; exact congrArg (Value.int .i64) (by omega), HB2.out, HM2.out⟩
              case measure => simp [intOf]; omega
          · obtain rfl : j = 8 := by omega
            go_wp2_with fail
            go_roundw
            case rel => exact ⟨1, by omega, rfl, rfl, HB.out, HM.out⟩
            case measure => simp [intOf]
      · rw [if_neg (by decide)] at hB ⊢
        go_wp2_with fail
        go_ret
        exact ⟨rfl, hB, hm⟩
set_option maxHeartbeats 4000000 in
theorem run_any {N X g : Nat} (Zs : Nat → Br) (ns : Nat → Nat) (m : Nat) (hm9 : m < 900) (w : World) (h : WB N X g (Zs 0) w) (hns : ∀ r, ns r ≤ 100)
    (hr : ∀ r, r ≤ m → ∀ w, WB N X g (Zs r) w → Calls Tryz.prog 26 #[.pointer (some ⟨X, 0, none⟩)] w fun e w' => e = .returned (.int .i64 (ns r : Nat)) ∧ WB N X g (Zs (r + 1)) w' ∧ Mut (fun n => N ≤ n) w w')
    (hpos : ∀ r, r < m → ns r ≠ 0) (hend : ns m = 0) :
    Calls Tryz.prog 17 #[.pointer (some ⟨X, 0, none⟩)] w fun e w' => ∃ k : Nat, e = .returned (.tuple #[.int .i64 (k : Int), .bool true]) ∧ WB N X g (Zs (m + 1)) w' ∧ Mut (fun n => N ≤ n) w w' := by
  have HR := Lib.hid hr
  have HP := Lib.hid hpos
  have HE := Lib.hid hend
  have HN := Lib.hid hns
  have H := Lib.hid h
  clear hr hpos hend hns h
  go_enter Tryz.func17, Tryz.ntmps17
  go_wp2_with fail
  go_loopw [5, 2] (fun v a wr => ∃ r k : Nat, r ≤ m ∧ k ≤ r * 100 ∧ v = .int .i64 r ∧ a = .int .i64 k ∧ WB N X g (Zs r) wr ∧ Mut (fun n => N ≤ n) w wr) (fun v _ _ => m - (intOf v).toNat)
  case atStart => exact ⟨0, 0, by omega, by omega, rfl, rfl, H.out, Mut.refl _ w⟩
  case round =>
    clear H
    obtain ⟨r, k, hrm, hk, rfl, rfl, hB, hm⟩ := hrel
    have HB := Lib.hid hB
    have HM := Lib.hid hm
    clear hB hm
    have dlt : decide ((r : Int) < 1000) = true := by simp; omega
    have hn1 := HN.out r
    go_wp2_with fail
    refine (HR.out r hrm _ HB.out).mono ?_
    rintro e w2 ⟨rfl, hB2, hm2⟩
    have HB2 := Lib.hid hB2
    have HM2 := Lib.hid (HM.out.trans hm2)
    clear hB2 hm2
    obtain ⟨q, hq⟩ : ∃ q, ns r = q := ⟨_, rfl⟩
    rw [hq] at hn1 ⊢
    have HQ := Lib.hid hq
    clear hq
    by_cases h0 : q = 0
    · obtain rfl : r = m := by
        by_cases hlt : r < m
        · exact absurd (HQ.out.trans h0) (HP.out r hlt)
        · omega
      subst h0
      go_wp2_with fail
      go_ret2
      exact ⟨k, rfl, HB2.out, HM2.out⟩
    · have hlt : r < m := by
        by_cases hlt : r < m
        · exact hlt
        · obtain rfl : r = m := by omega
          exact absurd (HQ.out.symm.trans HE.out) h0
      have dq : ((q : Int) == 0) = false := by simpa using h0
      have hup : IntKind.i64.wrap ((k : Int) + (q : Int)) = ((k + q : Nat) : Int) := by rw [IntKind.wrap_i64]; omega
      go_wp2_with fail
      go_roundw
      case rel => exact ⟨r + 1, k + q, by omega, by omega, by go_num, congrArg (Value.int .i64) (by omega), HB2.out, HM2.out⟩
      case measure => simp [intOf]; omega
end Go.Proofs.YtpanapepcbbagaaGreat
namespace Go.Proofs.YtpanapepcbbagaaGreat
open Go.RowKit Go.BigFrame Go.WideShapes Go.ChangeShapes Go.Deep
set_option linter.unusedVariables false
set_option linter.unusedSimpArgs false
set_option maxRecDepth 100000
def hdA (id : Int) (rst : Bool) (ta mx hl dl hold : Int) : List Value := [.int .u64 id, .bool rst, .int .i64 ta, .int .i64 mx, .int .i64 hl, .int .i64 dl, .int .i64 hold, .int .u64 id, .int .u32 0, .int .u64 id, .int .u16 0, .int .u16 0, .int .i64 (-1), .int .i64 ta, .int .i64 mx, .int .i64 hl, .int .i64 dl]
theorem hdA_ok {id ta mx hl dl hold : Int} {rst : Bool} (hi : (Lit.int .u64 id).wf = true) (ha : (Lit.int .i64 ta).wf = true) (hm : (Lit.int .i64 mx).wf = true) (hh : (Lit.int .i64 hl).wf = true) (hd : (Lit.int .i64 dl).wf = true) (ho : (Lit.int .i64 hold).wf = true) : Typed HL (hdA id rst ta mx hl dl hold) := by
  rw [HL_lit]
  exact typed_all ⟨⟨_, rfl, hi⟩, ⟨_, rfl⟩, ⟨_, rfl, ha⟩, ⟨_, rfl, hm⟩, ⟨_, rfl, hh⟩, ⟨_, rfl, hd⟩, ⟨_, rfl, ho⟩, ⟨_, rfl, hi⟩, ⟨_, rfl, rfl⟩, ⟨_, rfl, hi⟩, ⟨_, rfl, rfl⟩, ⟨_, rfl, rfl⟩, ⟨_, rfl, rfl⟩, ⟨_, rfl, ha⟩, ⟨_, rfl, hm⟩, ⟨_, rfl, hh⟩, ⟨_, rfl, hd⟩, trivial⟩
def newA (id : Int) (rst : Bool) (ta mx hl dl hold : Int) (P : List Pt) : Br := ⟨hdA id rst ta mx hl dl hold, P.length, P.flatMap (pL rst mx hl dl), 0, [], 0, []⟩
theorem newA_cell {id ta mx hl dl hold : Int} {rst : Bool} {P : List Pt} {k j : Nat} {x : Value} (hk : k < P.length) (hx : (pL rst mx hl dl (P.getD k default))[j]? = some x) : (newA id rst ta mx hl dl hold P).ps[k * 89 + j]? = some x :=
  flat_at (pL rst mx hl dl) 89 (pL_len rst mx hl dl) default P k j x hk hx
theorem newA_ok {id ta mx hl dl hold : Int} {rst : Bool} {P : List Pt} (hi : (Lit.int .u64 id).wf = true) (ha : (Lit.int .i64 ta).wf = true) (hm : (Lit.int .i64 mx).wf = true) (hh : (Lit.int .i64 hl).wf = true) (hd : (Lit.int .i64 dl).wf = true) (ho : (Lit.int .i64 hold).wf = true) (hP : ∀ p ∈ P, PtR p) : (newA id rst ta mx hl dl hold P).ok := by
  refine ⟨hdA_ok hi ha hm hh hd ho, rowTyped_iff.2 ⟨?_, fun i hi j c hc => ?_⟩, ⟨rfl, fun i hi => by exact absurd hi (Nat.not_lt_zero _)⟩, ⟨rfl, fun i hi => by exact absurd hi (Nat.not_lt_zero _)⟩⟩
  · show (P.flatMap (pL rst mx hl dl)).length = P.length * PL.length
    rw [List.length_flatMap, show PL.length = 89 from rfl]
    have : P.map (fun p => (pL rst mx hl dl p).length) = List.replicate P.length 89 := by
      rw [List.eq_replicate_iff]
      exact ⟨by simp, fun b hb => by obtain ⟨p, _, rfl⟩ := List.mem_map.1 hb; rfl⟩
    rw [this, List.sum_replicate_nat]
  · have hk : i < P.length := hi
    have hp := hP (P.getD i default) (by rw [List.getD_eq_getElem?_getD, List.getElem?_eq_getElem hk]; exact List.getElem_mem hk)
    have ht : Typed PL (pL rst mx hl dl (P.getD i default)) := portL_ok (wfu16 hp.1) (wfu32 hp.2) hm hh hd (by split <;> rfl)
    obtain ⟨v, hv, hcv⟩ := ht.2 j c hc
    exact ⟨v, newA_cell hk hv, hcv⟩
def BrZ : Array Value := #[.int .u64 0, .bool false, .int .i64 0, .int .i64 0, .int .i64 0, .int .i64 0, .int .i64 0, .int .u64 0, .int .u32 0, .int .u64 0, .int .u16 0, .int .u16 0, .int .i64 0, .int .i64 0, .int .i64 0, .int .i64 0, .int .i64 0, .slice none 0 0, .slice none 0 0, .slice none 0 0]
/-- What New answers: the bridge, with ports of its own, or zero. -/
def NewIs (w w' : World) (c : Array Value) (ok : Bool) (B : Br) : Prop := (ok = true ∧ ∃ u, c = (B.hd ++ [u, .slice none 0 0, .slice none 0 0]).toArray ∧ w'.ownsRow w.heap.size 60 89 u B.np B.ps) ∨ (ok = false ∧ c = BrZ)
theorem own_base {w : World} {a b : Nat} {e : TypeId} {m n : Nat} {v : Value} {xs : List Value} (h : w.ownsRow b e m v n xs) (hab : a ≤ b) : w.ownsRow a e m v n xs := by
  refine ⟨h.1, ?_⟩
  rcases h.2 with hn | ⟨g, cap, cur, rfl, hb, rest⟩
  · exact .inl hn
  · exact .inr ⟨g, cap, cur, rfl, Nat.le_trans hab hb, rest⟩
end Go.Proofs.YtpanapepcbbagaaGreat
