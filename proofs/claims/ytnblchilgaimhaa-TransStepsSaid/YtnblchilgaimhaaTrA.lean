/- The table of role transitions. No statement is proved here. -/
import Derived.Test.YtnblchilgaimhaaClkN
import Derived.WalkMore
import Derived.ScopeJumps
namespace Go.Proofs.Ytnblchilgaimhaa
open Go.RowKit Go.BigFrame Go.WideShapes Go.ChangeShapes Go.Deep
set_option linter.unusedVariables false
set_option linter.unusedSimpArgs false

def trTab : Array Value := #[.int .i64 (-1), .func (.func 50) #[] #[], .func (.func 51) #[] #[], .int .i64 0, .int .i64 (-1), .func (.func 52) #[] #[], .func (.func 53) #[] #[], .int .i64 2, .int .i64 (-1), .func (.func 54) #[] #[], .func (.func 55) #[] #[], .int .i64 3, .int .i64 (-1), .func (.func 56) #[] #[], .func (.func 51) #[] #[], .int .i64 4, .int .i64 0, .func (.func 57) #[] #[], .func (.func 58) #[] #[], .int .i64 1, .int .i64 1, .func (.func 59) #[] #[], .func (.func 58) #[] #[], .int .i64 1, .int .i64 4, .func (.func 57) #[] #[], .func (.func 60) #[] #[], .int .i64 5, .int .i64 5, .func (.func 61) #[] #[], .func (.func 62) #[] #[], .int .i64 (-2), .int .i64 5, .func (.func 63) #[] #[], .func (.func 64) #[] #[], .int .i64 (-2), .int .i64 5, .func (.func 65) #[] #[], .func (.func 66) #[] #[], .int .i64 (-2), .int .i64 5, .func (.func 67) #[] #[], .func (.func 60) #[] #[], .int .i64 5, .int .i64 2, .func (.func 61) #[] #[], .func (.func 62) #[] #[], .int .i64 (-2), .int .i64 2, .func (.func 63) #[] #[], .func (.func 68) #[] #[], .int .i64 (-2), .int .i64 2, .func (.func 69) #[] #[], .func (.func 70) #[] #[], .int .i64 (-2), .int .i64 2, .func (.func 71) #[] #[], .func (.func 72) #[] #[], .int .i64 (-2), .int .i64 2, .func (.func 73) #[] #[], .func (.func 74) #[] #[], .int .i64 (-2), .int .i64 2, .func (.func 75) #[] #[], .func (.func 76) #[] #[], .int .i64 (-2), .int .i64 2, .func (.func 77) #[] #[], .func (.func 78) #[] #[], .int .i64 (-2), .int .i64 3, .func (.func 79) #[] #[], .func (.func 80) #[] #[], .int .i64 (-2), .int .i64 3, .func (.func 81) #[] #[], .func (.func 82) #[] #[], .int .i64 (-2), .int .i64 3, .func (.func 83) #[] #[], .func (.func 76) #[] #[], .int .i64 (-2), .int .i64 3, .func (.func 84) #[] #[], .func (.func 85) #[] #[], .int .i64 (-2), .int .i64 3, .func (.func 86) #[] #[], .func (.func 72) #[] #[], .int .i64 (-2), .int .i64 3, .func (.func 87) #[] #[], .func (.func 88) #[] #[], .int .i64 (-2)]
theorem size_tr : (Try.prog.info? 73).map (·.size) = some trTab.size := by kernel_rfl
theorem tr_built : Try.prog.built 73 [(0, .agg #[.int .i64 (-1), .func (.func 50) #[] #[], .func (.func 51) #[] #[], .int .i64 0]), (1, .agg #[.int .i64 (-1), .func (.func 52) #[] #[], .func (.func 53) #[] #[], .int .i64 2]), (2, .agg #[.int .i64 (-1), .func (.func 54) #[] #[], .func (.func 55) #[] #[], .int .i64 3]), (3, .agg #[.int .i64 (-1), .func (.func 56) #[] #[], .func (.func 51) #[] #[], .int .i64 4]), (4, .agg #[.int .i64 0, .func (.func 57) #[] #[], .func (.func 58) #[] #[], .int .i64 1]), (5, .agg #[.int .i64 1, .func (.func 59) #[] #[], .func (.func 58) #[] #[], .int .i64 1]), (6, .agg #[.int .i64 4, .func (.func 57) #[] #[], .func (.func 60) #[] #[], .int .i64 5]), (7, .agg #[.int .i64 5, .func (.func 61) #[] #[], .func (.func 62) #[] #[], .int .i64 (-2)]), (8, .agg #[.int .i64 5, .func (.func 63) #[] #[], .func (.func 64) #[] #[], .int .i64 (-2)]), (9, .agg #[.int .i64 5, .func (.func 65) #[] #[], .func (.func 66) #[] #[], .int .i64 (-2)]), (10, .agg #[.int .i64 5, .func (.func 67) #[] #[], .func (.func 60) #[] #[], .int .i64 5]), (11, .agg #[.int .i64 2, .func (.func 61) #[] #[], .func (.func 62) #[] #[], .int .i64 (-2)]), (12, .agg #[.int .i64 2, .func (.func 63) #[] #[], .func (.func 68) #[] #[], .int .i64 (-2)]), (13, .agg #[.int .i64 2, .func (.func 69) #[] #[], .func (.func 70) #[] #[], .int .i64 (-2)]), (14, .agg #[.int .i64 2, .func (.func 71) #[] #[], .func (.func 72) #[] #[], .int .i64 (-2)]), (15, .agg #[.int .i64 2, .func (.func 73) #[] #[], .func (.func 74) #[] #[], .int .i64 (-2)]), (16, .agg #[.int .i64 2, .func (.func 75) #[] #[], .func (.func 76) #[] #[], .int .i64 (-2)]), (17, .agg #[.int .i64 2, .func (.func 77) #[] #[], .func (.func 78) #[] #[], .int .i64 (-2)]), (18, .agg #[.int .i64 3, .func (.func 79) #[] #[], .func (.func 80) #[] #[], .int .i64 (-2)]), (19, .agg #[.int .i64 3, .func (.func 81) #[] #[], .func (.func 82) #[] #[], .int .i64 (-2)]), (20, .agg #[.int .i64 3, .func (.func 83) #[] #[], .func (.func 76) #[] #[], .int .i64 (-2)]), (21, .agg #[.int .i64 3, .func (.func 84) #[] #[], .func (.func 85) #[] #[], .int .i64 (-2)]), (22, .agg #[.int .i64 3, .func (.func 86) #[] #[], .func (.func 72) #[] #[], .int .i64 (-2)]), (23, .agg #[.int .i64 3, .func (.func 87) #[] #[], .func (.func 88) #[] #[], .int .i64 (-2)])] = some trTab := by kernel_rfl
set_option maxRecDepth 100000 in
set_option maxHeartbeats 1000000 in
theorem tr_rows (w : World) : Calls Try.prog 44 #[] w fun e w' => e = .returned (.agg trTab) ∧ Ext w w' := by
  have hi := Lib.hid size_tr
  go_enter Try.func44, Try.ntmps44
  go_wp2_with (first | fail | ((with_reducible refine at_build 73 ?_); refine wpList_build2 rfl 73 _ rfl [(0, .agg #[.int .i64 (-1), .func (.func 50) #[] #[], .func (.func 51) #[] #[], .int .i64 0]), (1, .agg #[.int .i64 (-1), .func (.func 52) #[] #[], .func (.func 53) #[] #[], .int .i64 2]), (2, .agg #[.int .i64 (-1), .func (.func 54) #[] #[], .func (.func 55) #[] #[], .int .i64 3]), (3, .agg #[.int .i64 (-1), .func (.func 56) #[] #[], .func (.func 51) #[] #[], .int .i64 4]), (4, .agg #[.int .i64 0, .func (.func 57) #[] #[], .func (.func 58) #[] #[], .int .i64 1]), (5, .agg #[.int .i64 1, .func (.func 59) #[] #[], .func (.func 58) #[] #[], .int .i64 1]), (6, .agg #[.int .i64 4, .func (.func 57) #[] #[], .func (.func 60) #[] #[], .int .i64 5]), (7, .agg #[.int .i64 5, .func (.func 61) #[] #[], .func (.func 62) #[] #[], .int .i64 (-2)]), (8, .agg #[.int .i64 5, .func (.func 63) #[] #[], .func (.func 64) #[] #[], .int .i64 (-2)]), (9, .agg #[.int .i64 5, .func (.func 65) #[] #[], .func (.func 66) #[] #[], .int .i64 (-2)]), (10, .agg #[.int .i64 5, .func (.func 67) #[] #[], .func (.func 60) #[] #[], .int .i64 5]), (11, .agg #[.int .i64 2, .func (.func 61) #[] #[], .func (.func 62) #[] #[], .int .i64 (-2)]), (12, .agg #[.int .i64 2, .func (.func 63) #[] #[], .func (.func 68) #[] #[], .int .i64 (-2)]), (13, .agg #[.int .i64 2, .func (.func 69) #[] #[], .func (.func 70) #[] #[], .int .i64 (-2)]), (14, .agg #[.int .i64 2, .func (.func 71) #[] #[], .func (.func 72) #[] #[], .int .i64 (-2)]), (15, .agg #[.int .i64 2, .func (.func 73) #[] #[], .func (.func 74) #[] #[], .int .i64 (-2)]), (16, .agg #[.int .i64 2, .func (.func 75) #[] #[], .func (.func 76) #[] #[], .int .i64 (-2)]), (17, .agg #[.int .i64 2, .func (.func 77) #[] #[], .func (.func 78) #[] #[], .int .i64 (-2)]), (18, .agg #[.int .i64 3, .func (.func 79) #[] #[], .func (.func 80) #[] #[], .int .i64 (-2)]), (19, .agg #[.int .i64 3, .func (.func 81) #[] #[], .func (.func 82) #[] #[], .int .i64 (-2)]), (20, .agg #[.int .i64 3, .func (.func 83) #[] #[], .func (.func 76) #[] #[], .int .i64 (-2)]), (21, .agg #[.int .i64 3, .func (.func 84) #[] #[], .func (.func 85) #[] #[], .int .i64 (-2)]), (22, .agg #[.int .i64 3, .func (.func 86) #[] #[], .func (.func 72) #[] #[], .int .i64 (-2)]), (23, .agg #[.int .i64 3, .func (.func 87) #[] #[], .func (.func 88) #[] #[], .int .i64 (-2)])] rfl _ tr_built ?_) | ((with_reducible refine at_store 73 ?_); refine wpList_store_new2 rfl rfl 73 _ _ _ rfl _ trTab _ rfl ?_ rfl hi.out rfl rfl ?_; · rfl))
  exact bodyPost_ret (results_cell_row rfl _ _ _ _ trTab (0, 0) _ rfl (heap_alloc_new _ _) Try.underlying73 rfl hi.out) rfl ⟨rfl, (Ext.refl w).alloc _⟩

def trS : Nat → Int
  | 0 => (-1)
  | 1 => (-1)
  | 2 => (-1)
  | 3 => (-1)
  | 4 => 0
  | 5 => 1
  | 6 => 4
  | 7 => 5
  | 8 => 5
  | 9 => 5
  | 10 => 5
  | 11 => 2
  | 12 => 2
  | 13 => 2
  | 14 => 2
  | 15 => 2
  | 16 => 2
  | 17 => 2
  | 18 => 3
  | 19 => 3
  | 20 => 3
  | 21 => 3
  | 22 => 3
  | _ => 3
def trH : Nat → FuncId
  | 0 => 50
  | 1 => 52
  | 2 => 54
  | 3 => 56
  | 4 => 57
  | 5 => 59
  | 6 => 57
  | 7 => 61
  | 8 => 63
  | 9 => 65
  | 10 => 67
  | 11 => 61
  | 12 => 63
  | 13 => 69
  | 14 => 71
  | 15 => 73
  | 16 => 75
  | 17 => 77
  | 18 => 79
  | 19 => 81
  | 20 => 83
  | 21 => 84
  | 22 => 86
  | _ => 87
def trD : Nat → FuncId
  | 0 => 51
  | 1 => 53
  | 2 => 55
  | 3 => 51
  | 4 => 58
  | 5 => 58
  | 6 => 60
  | 7 => 62
  | 8 => 64
  | 9 => 66
  | 10 => 60
  | 11 => 62
  | 12 => 68
  | 13 => 70
  | 14 => 72
  | 15 => 74
  | 16 => 76
  | 17 => 78
  | 18 => 80
  | 19 => 82
  | 20 => 76
  | 21 => 85
  | 22 => 72
  | _ => 88
def trN : Nat → Int
  | 0 => 0
  | 1 => 2
  | 2 => 3
  | 3 => 4
  | 4 => 1
  | 5 => 1
  | 6 => 5
  | 7 => (-2)
  | 8 => (-2)
  | 9 => (-2)
  | 10 => 5
  | 11 => (-2)
  | 12 => (-2)
  | 13 => (-2)
  | 14 => (-2)
  | 15 => (-2)
  | 16 => (-2)
  | 17 => (-2)
  | 18 => (-2)
  | 19 => (-2)
  | 20 => (-2)
  | 21 => (-2)
  | 22 => (-2)
  | _ => (-2)
theorem tr_cells (j : Nat) (hj : j < 24) : trTab[j * 4]? = some (.int .i64 (trS j)) ∧ trTab[j * 4 + 1]? = some (.func (.func (trH j)) #[] #[]) ∧ trTab[j * 4 + 2]? = some (.func (.func (trD j)) #[] #[]) ∧ trTab[j * 4 + 3]? = some (.int .i64 (trN j)) := by
  rcases (by omega : j = 0 ∨ j = 1 ∨ j = 2 ∨ j = 3 ∨ j = 4 ∨ j = 5 ∨ j = 6 ∨ j = 7 ∨ j = 8 ∨ j = 9 ∨ j = 10 ∨ j = 11 ∨ j = 12 ∨ j = 13 ∨ j = 14 ∨ j = 15 ∨ j = 16 ∨ j = 17 ∨ j = 18 ∨ j = 19 ∨ j = 20 ∨ j = 21 ∨ j = 22 ∨ j = 23) with rfl | rfl | rfl | rfl | rfl | rfl | rfl | rfl | rfl | rfl | rfl | rfl | rfl | rfl | rfl | rfl | rfl | rfl | rfl | rfl | rfl | rfl | rfl | rfl <;> exact ⟨rfl, rfl, rfl, rfl⟩

end Go.Proofs.Ytnblchilgaimhaa
