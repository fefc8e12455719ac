/- The machine that sends: the example; what was sent, read out of the box. No statement is proved here. -/
import Derived.Test.YthlapkddgnpaeaaTxE
namespace Go.Proofs.Ythlapkddgnpaeaa
open Go.RowKit Go.BigFrame Go.WideShapes Go.ChangeShapes Go.Deep
set_option linter.unusedVariables false
set_option linter.unusedSimpArgs false

theorem BrG.widen {w : World} {N X g : Nat} {B : Br} (h : BrG w (fun n => N ≤ n ∧ n < X + 1) X g B) : BrG w (fun n => N ≤ n ∧ n < w.heap.size) X g B :=
  h.mono (fun n hn => ⟨hn.1, by have h1 := h.lt.1; have h2 := hn.2; omega⟩)
/-- What was sent, read out of the box. -/
theorem BrG.cell18 {w : World} {F : Nat → Prop} {X g : Nat} {B : Br} (h : BrG w F X g B) (hd : B.hd.length = 17) (hp : 0 < B.no) : ∃ g3 cp, w.cell? ⟨X, 18, none⟩ = some (.slice (some ⟨g3, 0, none⟩) B.no cp) ∧ B.no ≤ cp ∧ cp ≤ 9223372036854775807 ∧ ∀ j v, B.os[j]? = some v → w.cell? ⟨g3, j, none⟩ = some v := by
  obtain ⟨-, -, cap3, cur, s2, s3, aX, -, -, -, -, -, q2, -, -, -⟩ := h
  obtain ⟨hl, ⟨rfl, hz⟩ | ⟨g3, cp, cu, rfl, -, hg3, h1, h2, h3, h4⟩⟩ := q2
  · omega
  · unfold maxLen at h2
    refine ⟨g3, cp, ?_, h1, by omega, fun j v hv => ?_⟩
    · rw [cell_of_row _ _ _ _ _ _ aX]
      simp [hd]
    · rw [cell_of_row _ _ _ _ _ _ hg3]
      rw [← h4, List.getElem?_take] at hv
      split at hv
      · simpa using hv
      · cases hv
/-- How much was sent, read out of the box. -/
theorem BrG.len18 {w : World} {F : Nat → Prop} {X g : Nat} {B : Br} (h : BrG w F X g B) (hd : B.hd.length = 17) : ∃ a cp, w.cell? ⟨X, 18, none⟩ = some (.slice a B.no cp) := by
  obtain ⟨-, -, cap3, cur, s2, s3, aX, -, -, -, -, -, q2, -, -, -⟩ := h
  obtain ⟨a, cp, rfl⟩ := own_form q2
  refine ⟨a, cp, ?_⟩
  rw [cell_of_row _ _ _ _ _ _ aX]
  simp [hd]
theorem one_portI {w : World} {hd : List Value} {p : List Value} (hp : p.length = 89) {C : Array Value} (hC : C = (hd ++ [Value.slice (some ⟨w.heap.size, 0, none⟩) 1 1, Value.slice none 0 0, Value.slice none 0 0]).toArray) :
    BrG ((w.alloc (.cells p.toArray 53)).alloc (.cells C 33)) (fun k => w.heap.size ≤ k ∧ k < ((w.alloc (.cells p.toArray 53)).alloc (.cells C 33)).heap.size) (w.heap.size + 1) w.heap.size ⟨hd, 1, p, 0, [], 0, []⟩ := by
  have h := one_port hp hC
  obtain ⟨h1, h2, cap, cur, s2, s3, a, b, c, d, e, f, p0, q0, r, s⟩ := h
  have hs3 : s2 = .slice none 0 0 ∧ s3 = .slice none 0 0 := by
    have a' := heap_alloc2_new w (.cells p.toArray 53) (.cells C 33)
    rw [a'] at a
    have := (Option.some.inj a)
    rw [hC] at this
    simp at this
    exact ⟨this.2.1.symm, this.2.2.symm⟩
  obtain ⟨rfl, rfl⟩ := hs3
  exact ⟨⟨by omega, by rw [World.size_alloc, World.size_alloc]; omega⟩, ⟨by omega, by rw [World.size_alloc, World.size_alloc]; omega⟩, cap, cur, _, _, a, b, c, d, e, f, p0, q0, (fun h hh => by cases hh), (fun h hh => by cases hh)⟩
def txwP : List Value := (((((pz.set 87 (.int .i64 4)).set 8 (.int .i64 2)).set 44 (.bool true)).set 45 (.bool true)).set 31 (.bool true))
def txwH : List Value := ((((hz.set 3 (.int .i64 20)).set 4 (.int .i64 2)).set 5 (.int .i64 15)).set 6 (.int .i64 6))
def txwB : Br := ⟨txwH, 1, txwP, 0, [], 0, []⟩
theorem txwB_ok : txwB.ok := one_ok ((((hz_ok.set 3 _ (fun k hk => by cases hk; first | exact ⟨_, rfl⟩ | exact ⟨_, rfl, by decide⟩)).set 4 _ (fun k hk => by cases hk; first | exact ⟨_, rfl⟩ | exact ⟨_, rfl, by decide⟩)).set 5 _ (fun k hk => by cases hk; first | exact ⟨_, rfl⟩ | exact ⟨_, rfl, by decide⟩)).set 6 _ (fun k hk => by cases hk; first | exact ⟨_, rfl⟩ | exact ⟨_, rfl, by decide⟩)) (((((pz_ok.set 87 _ (fun k hk => by cases hk; first | exact ⟨_, rfl⟩ | exact ⟨_, rfl, by decide⟩)).set 8 _ (fun k hk => by cases hk; first | exact ⟨_, rfl⟩ | exact ⟨_, rfl, by decide⟩)).set 44 _ (fun k hk => by cases hk; first | exact ⟨_, rfl⟩ | exact ⟨_, rfl, by decide⟩)).set 45 _ (fun k hk => by cases hk; first | exact ⟨_, rfl⟩ | exact ⟨_, rfl, by decide⟩)).set 31 _ (fun k hk => by cases hk; first | exact ⟨_, rfl⟩ | exact ⟨_, rfl, by decide⟩))
theorem txw_len : txwP.length = 89 := by kernel_rfl
def txwC : Value := .agg #[.int .i64 0, .int .i64 0, .int .i64 2, .int .i64 0, .int .i64 0, .int .i64 0, .int .i64 0, .int .i64 0, .int .i64 0]
def txwF : Value := .agg (((((List.replicate 29 (Value.bool false)).set 22 (.bool true)).set 23 (.bool true)).set 9 (.bool true)).toArray)
def txwT : Value := .agg #[.int .i64 0, .int .i64 20, .int .i64 2, .int .i64 15]
theorem txw_bt (w : World) : (Instr.build 24 #[(1, .int .i64 20), (2, .int .i64 2), (3, .int .i64 15)]).run Try.prog w = .ok txwT w := by kernel_rfl
theorem txw_bc (w : World) : (Instr.build 49 #[(2, .int .i64 2)]).run Try.prog w = .ok txwC w := by kernel_rfl
theorem txw_bf : Try.prog.built 47 [(22, .bool true), (23, .bool true), (9, .bool true)] = some ((((List.replicate 29 (Value.bool false)).set 22 (.bool true)).set 23 (.bool true)).set 9 (.bool true)).toArray := by kernel_rfl
theorem txw_b1 : Try.prog.built 53 [(15, .int .i64 4), (6, txwC), (8, txwF)] = some txwP.toArray := by kernel_rfl
theorem txw_b2 : Instr.fill (fun i => some (i * 89, 89)) ((Array.range (1 * 89)).map (PZ[· % PZ.size]!)) [(0, .agg txwP.toArray)] = some txwP.toArray := by kernel_rfl
theorem txw_b3 (b : Nat) : Try.prog.built 33 [(3, .int .i64 6), (2, txwT), (7, Value.slice (some ⟨b, 0, none⟩) 1 1)] = some (txwH ++ [Value.slice (some ⟨b, 0, none⟩) 1 1, Value.slice none 0 0, Value.slice none 0 0]).toArray := by kernel_rfl
theorem txw_r : txF txwB 0 = (true, txNews txwB 0) := by kernel_rfl
theorem txw_o1 : (txNews txwB 0).os[1]? = some (.int .i64 2) := by kernel_rfl
theorem txw_o8 : (txNews txwB 0).os[8]? = some (.int .i64 4) := by kernel_rfl
theorem txw_g14 : (txNews txwB 0).gi 0 14 = 1 := by kernel_rfl
theorem txw_g31 : (txNews txwB 0).gb 0 31 = false := by kernel_rfl


set_option maxRecDepth 100000 in
set_option maxHeartbeats 2000000 in
theorem txw_awake (w : World) : Calls Try.prog 14 #[] w fun e w' => e = .returned (.bool true) ∧ Ext w w' := by
  have hmz := txw_b3 w.heap.size
  obtain ⟨C, hC⟩ : ∃ C, (txwH ++ [Value.slice (some ⟨w.heap.size, 0, none⟩) 1 1, Value.slice none 0 0, Value.slice none 0 0]).toArray = C := ⟨_, rfl⟩
  rw [hC] at hmz
  have HM := Lib.hid hmz
  have hCz : C.size = 20 := by rw [← hC]; rfl
  have hCo : C.toList.all (·.oneCell') = true := by rw [← hC]; rfl
  have hCi := Lib.hid (show (Try.prog.info? 33).map (·.size) = some C.size by rw [hCz]; exact size_br)
  have HCz := Lib.hid (size_z20.trans hCz.symm)
  have HCo := Lib.hid hCo
  have HC := Lib.hid hC
  clear hC hCz hCo hmz
  have hbt := txw_bt
  have hbc := txw_bc
  go_enter Try.func14, Try.ntmps14
  go_wp2_with (first
    | fail
    | ((with_reducible refine at_build 47 ?_); refine wpList_build2 rfl 47 _ rfl [(22, .bool true), (23, .bool true), (9, .bool true)] rfl _ txw_bf ?_)
    | ((with_reducible refine at_build 53 ?_); refine wpList_build2 rfl 53 _ rfl [(15, .int .i64 4), (6, txwC), (8, txwF)] rfl _ txw_b1 ?_)
    | ((with_reducible refine at_slice 29 ?_); refine wpList_slice1 rfl _ rfl [(0, .agg txwP.toArray)] rfl _ txw_b2 ?_)
    | ((with_reducible refine at_build 33 ?_); refine wpList_build2 rfl 33 _ rfl [(3, .int .i64 6), (2, txwT), (7, Value.slice (some ⟨w.heap.size, 0, none⟩) 1 1)] rfl C HM.out ?_)
    | ((with_reducible refine at_store 33 ?_); refine wpList_store_new2 rfl rfl 33 _ _ _ rfl _ C _ rfl ?_ rfl hCi.out HCz.out HCo.out ?_; · simp))
  refine (tx_stepW _ w.heap.size (w.heap.size + 1) w.heap.size 0 txwB (one_portI txw_len HC.out.symm) txwB_ok (by decide) (by decide) (by decide +kernel) (by decide)).mono ?_
  rw [txw_r]
  rintro e w0 ⟨he, hB0, hm0⟩
  obtain rfl : e = .returned (.bool true) := he
  have hE0 := (((Ext.refl w).alloc (.cells txwP.toArray 53)).alloc (.cells C 33)).mutE hm0 (fun n hn h1 => by have h2 : w.heap.size ≤ n := h1; omega)
  have hB0 : BrG w0 _ _ _ (txNews txwB 0) := hB0
  have ok0 : Br.ok (txNews txwB 0) := (txSend_ok txwB_ok (by decide) (by decide) _ (by decide +kernel)).setI (k := 0) (by decide +kernel) 8 .i64 _ rfl (by decide +kernel)
  obtain ⟨cap, c17, hc1, hc2⟩ := hB0.cell17 ok0
  rw [show (txNews txwB 0).np = 1 from rfl] at c17 hc1
  obtain ⟨g3, cp, c18, hcp, hcm, hos⟩ := hB0.cell18 ok0.hd.1 (by decide +kernel)
  rw [show (txNews txwB 0).no = 1 from rfl] at c18 hcp
  have o1 := hos 1 _ txw_o1
  have o8 := hos 8 _ txw_o8
  have p14 := (hB0.cellg (i := 0 * 89 + 14) (by decide)).trans (ok0.gi (k := 0) (by decide) 14 rfl)
  have p31 := (hB0.cellg (i := 0 * 89 + 31) (by decide)).trans (ok0.gb (k := 0) (by decide) 31 rfl)
  rw [txw_g14, Nat.zero_mul, Nat.zero_add] at p14
  rw [txw_g31, Nat.zero_mul, Nat.zero_add] at p31
  clear hos hB0 hm0
  go_wp2_with fail
  go_ret
  exact ⟨rfl, hE0⟩

end Go.Proofs.Ythlapkddgnpaeaa
