/- The clock: the example. No statement is proved here. -/
import Derived.Test.YtnblchilgaimhaaClkU
import Derived.Test.YtnblchilgaimhaaClkV
import Derived.Test.YtnblchilgaimhaaClkD
namespace Go.Proofs.Ytnblchilgaimhaa
open Go.RowKit Go.BigFrame Go.WideShapes Go.ChangeShapes Go.Deep
set_option linter.unusedVariables false
set_option linter.unusedSimpArgs false

theorem runG {P : Program} {md : Region.Mode} {Q : Exit → Act → World → Prop} {S : World → Prop} {l rest : List Oper} {i : Nat} {oi : Oper} {fuel : Nat} {listed : Array Bool} {a : Act} {w : World} (hi : l.drop i = oi :: rest)
    (hw : Region.wanted oi (yielded l.toArray a.tmps) = true) (hr : Region.ready md l.toArray listed = [i])
    (h : ∀ K' : Act → World → Prop, Shut (∀ a w, S w → (S w → wpAnyH P md l.toArray Q S fuel (listed.setIfInBounds i true) a w) → K' a w) → Oper.wp P oi a w K' Q) : wpAnyH P md l.toArray Q S (fuel + 1) listed a w := by
  refine wpAnyH_ready hr (by simp) (AllReadyH.cons (o := oi) ?_ (fun K hK => ?_) AllReadyH.nil)
  · have e : (l.drop i)[0]? = some oi := by rw [hi]; rfl
    rw [List.getElem?_drop, Nat.add_zero] at e
    simpa using e
  · rw [if_pos hw]
    exact h K hK

def ckwP : List Value := (pz.set 7 (.int .i64 3))
def ckwH : List Value := (((((hz.set 3 (.int .i64 20)).set 4 (.int .i64 2)).set 5 (.int .i64 15)).set 6 (.int .i64 6)).set 12 (.int .i64 (-1)))
def ckwB : Br := ⟨ckwH, 1, ckwP, 0, [], 0, []⟩
theorem ckwB_ok : ckwB.ok := one_ok (((((hz_ok.set 3 _ (fun k hk => by cases hk; first | exact ⟨_, rfl⟩ | exact ⟨_, rfl, by decide⟩)).set 4 _ (fun k hk => by cases hk; first | exact ⟨_, rfl⟩ | exact ⟨_, rfl, by decide⟩)).set 5 _ (fun k hk => by cases hk; first | exact ⟨_, rfl⟩ | exact ⟨_, rfl, by decide⟩)).set 6 _ (fun k hk => by cases hk; first | exact ⟨_, rfl⟩ | exact ⟨_, rfl, by decide⟩)).set 12 _ (fun k hk => by cases hk; first | exact ⟨_, rfl⟩ | exact ⟨_, rfl, by decide⟩)) (pz_ok.set 7 _ (fun k hk => by cases hk; first | exact ⟨_, rfl⟩ | exact ⟨_, rfl, by decide⟩))
theorem ckw_len : ckwP.length = 89 := by kernel_rfl
def ckwC : Value := .agg #[.int .i64 0, .int .i64 3, .int .i64 0, .int .i64 0, .int .i64 0, .int .i64 0, .int .i64 0, .int .i64 0, .int .i64 0]
def ckwT : Value := .agg #[.int .i64 0, .int .i64 20, .int .i64 2, .int .i64 15]
theorem ckw_b1 : Try.prog.built 53 [(6, ckwC)] = some ckwP.toArray := by kernel_rfl
theorem ckw_b2 : Instr.fill (fun i => some (i * 89, 89)) ((Array.range (1 * 89)).map (PZ[· % PZ.size]!)) [(0, .agg ckwP.toArray)] = some ckwP.toArray := by kernel_rfl
theorem ckw_b3 (b : Nat) : Try.prog.built 33 [(2, ckwT), (3, .int .i64 6), (5, .int .i64 (-1)), (7, Value.slice (some ⟨b, 0, none⟩) 1 1)] = some (ckwH ++ [Value.slice (some ⟨b, 0, none⟩) 1 1, Value.slice none 0 0, Value.slice none 0 0]).toArray := by kernel_rfl

def ckwB2 : Br := ⟨ckwH, 1, ckwP.set 7 (.int .i64 2), 0, [], 0, []⟩
theorem ckw_tick : tickB ckwB = ckwB2 := by kernel_rfl
theorem ckw_right : RightP ckwB := by
  refine ⟨by unfold HdR TR TF; decide +kernel, fun k hk => ?_⟩
  obtain rfl : k = 0 := by have : k < 1 := hk; omega
  refine ⟨fun j hj => ?_, by unfold TF; decide +kernel, by unfold TF; decide +kernel, by unfold TF; decide +kernel⟩
  rcases (by omega : j = 0 ∨ j = 1 ∨ j = 2 ∨ j = 3 ∨ j = 4 ∨ j = 5 ∨ j = 6 ∨ j = 7 ∨ j = 8) with rfl | rfl | rfl | rfl | rfl | rfl | rfl | rfl | rfl <;> decide +kernel
theorem ckw_t0 : ckwB2.gi 0 6 = 0 := by kernel_rfl
theorem ckw_t1 : ckwB2.gi 0 7 = 2 := by kernel_rfl
theorem ckw_t2 : ckwB2.gi 0 8 = 0 := by kernel_rfl
theorem ckw_t3 : ckwB2.gi 0 9 = 0 := by kernel_rfl
theorem ckw_t4 : ckwB2.gi 0 10 = 0 := by kernel_rfl
theorem ckw_t5 : ckwB2.gi 0 11 = 0 := by kernel_rfl
theorem ckw_t6 : ckwB2.gi 0 12 = 0 := by kernel_rfl
theorem ckw_t7 : ckwB2.gi 0 13 = 0 := by kernel_rfl
theorem ckw_t8 : ckwB2.gi 0 14 = 0 := by kernel_rfl
theorem ckw_bd (w : World) : (Instr.build 45 #[(1, .int .i64 2)]).run Try.prog w = .ok (.agg #[.int .i64 0, .int .i64 2, .int .i64 0, .int .i64 0, .int .i64 0, .int .i64 0, .int .i64 0, .int .i64 0, .int .i64 0]) w := by kernel_rfl
theorem ckw_eq (w : World) : (binOp BinOp.eql 45 (.agg #[.int .i64 0, .int .i64 2, .int .i64 0, .int .i64 0, .int .i64 0, .int .i64 0, .int .i64 0, .int .i64 0, .int .i64 0]) (.agg #[.int .i64 0, .int .i64 2, .int .i64 0, .int .i64 0, .int .i64 0, .int .i64 0, .int .i64 0, .int .i64 0, .int .i64 0])).run Try.prog w = .ok (.bool true) w := by kernel_rfl
theorem ckw_tb (w : World) : (Instr.build 24 #[(1, .int .i64 20), (2, .int .i64 2), (3, .int .i64 15)]).run Try.prog w = .ok ckwT w := by kernel_rfl
theorem ckw_cb (w : World) : (Instr.build 45 #[(1, .int .i64 3)]).run Try.prog w = .ok ckwC w := by kernel_rfl
set_option maxRecDepth 100000 in
set_option maxHeartbeats 2000000 in
theorem ckw_awake (w : World) : Calls Try.prog 15 #[] w fun e w' => e = .returned (.bool true) ∧ Ext w w' := by
  have hmz := ckw_b3 w.heap.size
  obtain ⟨C, hC⟩ : ∃ C, (ckwH ++ [Value.slice (some ⟨w.heap.size, 0, none⟩) 1 1, Value.slice none 0 0, Value.slice none 0 0]).toArray = C := ⟨_, rfl⟩
  rw [hC] at hmz
  have HM := Lib.hid hmz
  have hCz : C.size = 20 := by rw [← hC]; rfl
  have hCo : C.toList.all (·.oneCell') = true := by rw [← hC]; rfl
  have hCi := Lib.hid (show (Try.prog.info? 33).map (·.size) = some C.size by rw [hCz]; exact size_br)
  have HCz := Lib.hid (size_z20.trans hCz.symm)
  have HCo := Lib.hid hCo
  have HC := Lib.hid hC
  clear hC hCz hCo hmz
  go_enter Try.func15, Try.ntmps15
  have HG := Lib.hid (one_port (w := w) ckw_len HC.out.symm)
  have he0 := ((Ext.refl w).alloc (.cells ckwP.toArray 53)).alloc (.cells C 33)
  have HE0 := Lib.hid he0
  clear he0
  obtain ⟨D, hD, hDb, hDz⟩ := HG.out.br (by decide)
  have hDi := Lib.hid (show (Try.prog.info? 33).map (·.size) = some D.size by rw [hDz]; exact size_br)
  have HD := Lib.hid hD
  have HDb := Lib.hid hDb
  clear hD hDb hDz
  have htb := ckw_tb
  have hcb := ckw_cb
  go_wp2_with (first
    | fail
    | ((with_reducible refine at_load 33 ?_); refine wpList_load_row rfl 33 _ rfl (w.heap.size + 1) rfl 33 D (0, 0) _ HD.out Try.underlying33 rfl hDi.out ?_)
    | ((with_reducible refine at_build 53 ?_); refine wpList_build2 rfl 53 _ rfl [(6, ckwC)] rfl _ ckw_b1 ?_)
    | ((with_reducible refine at_slice 29 ?_); refine wpList_slice1 rfl _ rfl [(0, .agg ckwP.toArray)] rfl _ ckw_b2 ?_)
    | ((with_reducible refine at_build 33 ?_); refine wpList_build2 rfl 33 _ rfl [(2, ckwT), (3, .int .i64 6), (5, .int .i64 (-1)), (7, Value.slice (some ⟨w.heap.size, 0, none⟩) 1 1)] rfl C HM.out ?_)
    | ((with_reducible refine at_store 33 ?_); refine wpList_store_new2 rfl rfl 33 _ _ _ rfl _ C _ rfl ?_ rfl hCi.out HCz.out HCo.out ?_; · simp))
  refine (cright_any D ckwB _ HDb.out ckwB_ok).mono ?_
  rintro e w1 ⟨f, rfl, hx1, hf⟩
  obtain rfl := hf.2 ckw_right
  clear hf
  have HG1 := Lib.hid (HG.out.ext hx1)
  have HE1 := Lib.hid (HE0.out.trans hx1)
  clear hx1 HG HE0 HD HDb hDi
  go_wp2_with fail
  refine (tick_any w1 _ _ _ ckwB HG1.out ckwB_ok (by decide)).mono ?_
  rintro e w2 ⟨rfl, hB2, hm2⟩
  have HE2 := Lib.hid (HE1.out.mutE hm2 (fun n hn h1 => by omega))
  have ok2 := tickB_ok ckwB_ok
  have HG2 := Lib.hid hB2
  clear hB2 hm2 HG1 HE1
  rw [ckw_tick] at HG2 ok2
  obtain ⟨cap, c17, hc1, hc2⟩ := HG2.out.cell17 ok2
  rw [show ckwB2.np = 1 from rfl] at c17 hc1
  have hr9 := Lib.hid (clk_range HG2.out ok2 (k := 0) (by decide))
  rw [ckw_t0, ckw_t1, ckw_t2, ckw_t3, ckw_t4, ckw_t5, ckw_t6, ckw_t7, ckw_t8] at hr9
  obtain ⟨D, hD, hDb, hDz⟩ := HG2.out.br (by decide)
  have hDi := Lib.hid (show (Try.prog.info? 33).map (·.size) = some D.size by rw [hDz]; exact size_br)
  have HD := Lib.hid hD
  have HDb := Lib.hid hDb
  clear hD hDb hDz
  have hbd := ckw_bd
  have heq := ckw_eq
  go_wp2_with (first
    | fail
    | ((with_reducible refine at_loadG 45 ?_); refine wpList_load_midG rfl 45 _ rfl w.heap.size (0 * 89 + 6) rfl [.int .i64 0, .int .i64 2, .int .i64 0, .int .i64 0, .int .i64 0, .int .i64 0, .int .i64 0, .int .i64 0, .int .i64 0] _ hr9.out Try.underlying45 rfl size_clk ?_)
    | ((with_reducible refine at_loadG 33 ?_); refine wpList_load_rowG rfl 33 _ rfl (w.heap.size + 1) rfl 33 D (0, 0) _ HD.out Try.underlying33 rfl hDi.out ?_))
  refine (asi (cedel_any D ckwB2 0 w2 HDb.out ok2 (by decide)) (y := 3) (by kernel_rfl)).mono ?_
  rintro e w3 ⟨rfl, hx3⟩
  have HD3 := Lib.hid ((hx3.block _ (heap_lt HD.out)).trans HD.out)
  have HDb3 := Lib.hid (HDb.out.ext hx3)
  have HE3 := Lib.hid (Ext.trans (show Ext w w2 from HE2.out) hx3)
  clear hx3 HD HDb HE2 c17
  go_wp2_with (first | fail | ((with_reducible refine at_loadG 33 ?_); refine wpList_load_rowG rfl 33 _ rfl (w.heap.size + 1) rfl 33 D (0, 0) _ HD3.out Try.underlying33 rfl hDi.out ?_))
  refine (asi (cfwd_any D ckwB2 0 w3 HDb3.out ok2 (by decide)) (y := 15) (by kernel_rfl)).mono ?_
  rintro e w4 ⟨rfl, hx4⟩
  have HD4 := Lib.hid ((hx4.block _ (heap_lt HD3.out)).trans HD3.out)
  have HDb4 := Lib.hid (HDb3.out.ext hx4)
  have HE4 := Lib.hid (HE3.out.trans hx4)
  clear hx4 HD3 HDb3 HE3
  go_wp2_with (first | fail | ((with_reducible refine at_loadG 33 ?_); refine wpList_load_rowG rfl 33 _ rfl (w.heap.size + 1) rfl 33 D (0, 0) _ HD4.out Try.underlying33 rfl hDi.out ?_))
  refine (rerooted_any D ckwB2 0 w4 HDb4.out ok2).mono ?_
  rintro e w5 ⟨f, rfl, hx5, hf⟩
  obtain rfl := hf.2 (fun k hk hne => by
    have : k < 1 := hk
    exact absurd (by omega) hne)
  clear hf
  have HE5 := Lib.hid (HE4.out.trans hx5)
  clear hx5 HE4
  go_wp2_with fail
  go_ret
  exact ⟨rfl, HE5.out⟩

end Go.Proofs.Ytnblchilgaimhaa
