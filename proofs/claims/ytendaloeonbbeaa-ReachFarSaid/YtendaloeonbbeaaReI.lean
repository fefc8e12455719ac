/- How far it is: the chapter's example, by the program; the document's lengths. No statement is proved here. -/
import Derived.Test.YtendaloeonbbeaaReH
namespace Go.Proofs.Ytendaloeonbbeaa
open Go.RowKit Go.BigFrame Go.WideShapes Go.ChangeShapes Go.Deep
set_option linter.unusedVariables false
set_option linter.unusedSimpArgs false

/-- The search, point by point. -/
def itR (n : Nat) (L : List Hp) (s : Nat) : Nat → Option (List Way × List Bool × Int)
  | 0 => Option.some ((List.replicate n Option.none).set s (Option.some (0, 0)), List.replicate n false, (s : Int))
  | t + 1 => match itR n L s t with
    | Option.none => Option.none
    | Option.some (D, dn, z) => if 0 ≤ z then Option.some (relA z.toNat D (leaveF n L z.toNat), dn.set z.toNat true, nearF (relA z.toNat D (leaveF n L z.toNat)) (dn.set z.toNat true) n) else Option.none
theorem Rch.it {n : Nat} {L : List Hp} {s t : Nat} {D : List Way} {dn : List Bool} {z : Int} (h : Rch n L s t D dn z) : itR n L s t = Option.some (D, dn, z) := by
  induction h with
  | zero => rfl
  | step hr hk ih =>
    unfold itR
    rw [ih]
    dsimp only
    rw [if_pos (by omega), Int.toNat_natCast]
def LA : List Hp := [⟨0, 1, 5⟩, ⟨1, 2, 5⟩, ⟨0, 2, 10⟩]
def DA : List Way := [Option.some (0, 0), Option.some (5, 1), Option.some (10, 1), Option.none]
theorem LA_wf : ∀ h ∈ LA, h.wf := by
  intro h hh
  simp only [LA, List.mem_cons, List.not_mem_nil, or_false] at hh
  rcases hh with rfl | rfl | rfl <;> (unfold Hp.wf; decide)
theorem awake_far {t : Nat} {D : List Way} {dn : List Bool} (h : Rch 4 LA 0 t D dn (-1)) : D = DA := by
  have hb := h.bound (by decide) LA_wf
  have hi := h.it
  have h0 : (itR 4 LA 0 0).map (fun x => x.2.2) = Option.some 0 := by decide
  have h1 : (itR 4 LA 0 1).map (fun x => x.2.2) = Option.some 1 := by decide
  have h2 : (itR 4 LA 0 2).map (fun x => x.2.2) = Option.some 2 := by decide
  have h3 : (itR 4 LA 0 3).map (fun x => x.1) = Option.some DA := by decide
  have h4 : itR 4 LA 0 4 = Option.none := by decide
  match t, hb with
  | 0, _ => rw [hi] at h0; simp at h0
  | 1, _ => rw [hi] at h1; simp at h1
  | 2, _ => rw [hi] at h2; simp at h2
  | 3, _ => rw [hi] at h3; simpa using h3
  | 4, _ => rw [hi] at h4; cases h4
  | t + 5, h => omega
theorem v51 : cvW (Option.some (5, 1)) = .complex .f64 4617315517961601024 4607182418800017408 := by
  show Value.complex .f64 (fl 5) (fl 1) = _
  rw [show fl 5 = 4617315517961601024 by decide, fl_one]
theorem v101 : cvW (Option.some (10, 1)) = .complex .f64 4621819117588971520 4607182418800017408 := by
  show Value.complex .f64 (fl 10) (fl 1) = _
  rw [show fl 10 = 4621819117588971520 by decide, fl_one]
theorem v102 : cvW (Option.some (10, 2)) = .complex .f64 4621819117588971520 4611686018427387904 := by
  show Value.complex .f64 (fl 10) (fl 2) = _
  rw [show fl 10 = 4621819117588971520 by decide, show fl 2 = 4611686018427387904 by decide]
theorem q00 (w : World) : (binOp .eql 30 (.complex .f64 0 0) (.complex .f64 0 0)).run Try.prog w = .ok (.bool true) w := by kernel_rfl
theorem q51 (w : World) : (binOp .eql 30 (.complex .f64 4617315517961601024 4607182418800017408) (.complex .f64 4617315517961601024 4607182418800017408)).run Try.prog w = .ok (.bool true) w := by kernel_rfl
theorem q101 (w : World) : (binOp .eql 30 (.complex .f64 4621819117588971520 4607182418800017408) (.complex .f64 4621819117588971520 4607182418800017408)).run Try.prog w = .ok (.bool true) w := by kernel_rfl
theorem q102 (w : World) : (binOp .eql 30 (.complex .f64 4621819117588971520 4611686018427387904) (.complex .f64 4621819117588971520 4611686018427387904)).run Try.prog w = .ok (.bool true) w := by kernel_rfl
/-- A way's length is like itself. -/
theorem eql_way (a b : Nat) (ha : a < 2 ^ 53) (hb : b < 2 ^ 53) (w : World) : (binOp .eql 30 (cvW (Option.some (a, b))) (cvW (Option.some (a, b)))).run Try.prog w = .ok (.bool true) w := by
  have h1 := f_ord ha ha
  have h2 := f_ord hb hb
  have e1 : compare a a = .eq := by simp
  have e2 : compare b b = .eq := by simp
  rw [e1] at h1
  rw [e2] at h2
  unfold cvW
  simp [binOp, Op.complexOp, Op.Complex.cmp, Op.floatCmp, asBool, h1, h2]
theorem hop_b3 : Instr.fill (fun i => some (i * 3, 3)) ((Array.range (3 * 3)).map (HZ[· % HZ.size]!)) [(0, .agg #[.int .i64 0, .int .i64 1, .int .u32 5]), (1, .agg #[.int .i64 1, .int .i64 2, .int .u32 5]), (2, .agg #[.int .i64 0, .int .i64 2, .int .u32 10])] = some (flatH LA).toArray := by kernel_rfl
theorem row_whole {w : World} {g : Nat} {t : TypeId} {l : List Value} (h : w.heap[g]? = some (.cells l.toArray t (0, 0))) : w.rangeAt g 0 l := fun j v hv => by
  rw [Nat.zero_add, cell_of_row _ _ _ _ _ _ h]
  simpa using hv

end Go.Proofs.Ytendaloeonbbeaa
