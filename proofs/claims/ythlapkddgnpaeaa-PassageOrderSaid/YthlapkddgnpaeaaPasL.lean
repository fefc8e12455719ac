/- The machine of passage: the example. No statement is proved here. -/
import Derived.Test.YthlapkddgnpaeaaPasR
import Derived.Test.YthlapkddgnpaeaaBrW
import Derived.Test.YthlapkddgnpaeaaBrO
namespace Go.Proofs.Ythlapkddgnpaeaa
open Go.RowKit Go.WideShapes Go.ChangeShapes Go.Deep
set_option linter.unusedVariables false

theorem pasF_only (B : Br) (k : Nat) : OnlyP k B (pasF B k).2 := by
  have h1 : OnlyP k B (pasLearn B k) := ((OnlyP.refl k B).setp (by decide) _).setp (by decide) _
  have h2 : OnlyP k B (pasStop B k) := (((OnlyP.refl k B).setp (by decide) _).setp (by decide) _).setp (by decide) _
  have h3 : OnlyP k B (pasForward B k) := ((OnlyP.refl k B).setp (by decide) _).setp (by decide) _
  unfold pasF
  split <;> (try split) <;> (try split) <;> (try split) <;> first | exact OnlyP.refl k B | exact h1 | exact h2 | exact h3

def pasP : List Value := ((pz.set 28 (.bool true)).set 26 (.bool true))
def pasH : List Value := hz
def pasB : Br := ⟨pasH, 1, pasP, 0, [], 0, []⟩
theorem pasB_ok : pasB.ok := one_ok hz_ok ((pz_ok.set 28 _ (fun k hk => by cases hk; first | exact ⟨_, rfl⟩ | exact ⟨_, rfl, by decide⟩)).set 26 _ (fun k hk => by cases hk; first | exact ⟨_, rfl⟩ | exact ⟨_, rfl, by decide⟩))
theorem pas_len : pasP.length = 89 := by kernel_rfl
def pwF : Value := .agg (((List.replicate 29 (Value.bool false)).set 6 (.bool true)).set 4 (.bool true)).toArray
theorem pas_b1 : Try.prog.built 53 [(8, pwF)] = some pasP.toArray := by kernel_rfl
theorem pas_b2 : Instr.fill (fun i => some (i * 89, 89)) ((Array.range (1 * 89)).map (PZ[· % PZ.size]!)) [(0, .agg pasP.toArray)] = some pasP.toArray := by kernel_rfl
theorem pas_b3 (b : Nat) : Try.prog.built 33 [(7, Value.slice (some ⟨b, 0, none⟩) 1 1)] = some (pasH ++ [Value.slice (some ⟨b, 0, none⟩) 1 1, Value.slice none 0 0, Value.slice none 0 0]).toArray := by kernel_rfl
theorem pas_r0 : pasF pasB 0 = (true, pasLearn pasB 0) := by kernel_rfl
theorem pas_r1 : pasF (pasLearn pasB 0) 0 = (true, pasForward (pasLearn pasB 0) 0) := by kernel_rfl
theorem pas_r2 : pasF (pasForward (pasLearn pasB 0) 0) 0 = (false, pasForward (pasLearn pasB 0) 0) := by kernel_rfl
theorem pas_g27 : (pasForward (pasLearn pasB 0) 0).gb 0 27 = true := by kernel_rfl
theorem pas_g20 : (pasForward (pasLearn pasB 0) 0).gi 0 20 = 2 := by kernel_rfl

set_option maxRecDepth 100000 in
set_option maxHeartbeats 2000000 in
theorem pas_awake (w : World) : Calls Try.prog 23 #[] w fun e w' => e = .returned (.bool true) ∧ Ext w w' := by
  have hmz := pas_b3 w.heap.size
  obtain ⟨C, hC⟩ : ∃ C, (pasH ++ [Value.slice (some ⟨w.heap.size, 0, none⟩) 1 1, Value.slice none 0 0, Value.slice none 0 0]).toArray = C := ⟨_, rfl⟩
  rw [hC] at hmz
  have HM := Lib.hid hmz
  have hCz : C.size = 20 := by rw [← hC]; rfl
  have hCo : C.toList.all (·.oneCell') = true := by rw [← hC]; rfl
  have hCi := Lib.hid (show (Try.prog.info? 33).map (·.size) = some C.size by rw [hCz]; exact size_br)
  have HCz := Lib.hid (size_z20.trans hCz.symm)
  have HCo := Lib.hid hCo
  have HC := Lib.hid hC
  clear hC hCz hCo hmz
  go_enter Try.func23, Try.ntmps23
  go_wp2_with (first
    | fail
    | ((with_reducible refine at_build 53 ?_); refine wpList_build2 rfl 53 _ rfl [(8, pwF)] rfl _ pas_b1 ?_)
    | ((with_reducible refine at_slice 29 ?_); refine wpList_slice1 rfl _ rfl [(0, .agg pasP.toArray)] rfl _ pas_b2 ?_)
    | ((with_reducible refine at_build 33 ?_); refine wpList_build2 rfl 33 _ rfl [(7, Value.slice (some ⟨w.heap.size, 0, none⟩) 1 1)] rfl C HM.out ?_)
    | ((with_reducible refine at_store 33 ?_); refine wpList_store_new2 rfl rfl 33 _ _ _ rfl _ C _ rfl ?_ rfl hCi.out HCz.out HCo.out ?_; · simp))
  refine (pas_step _ (fun k => w.heap.size ≤ k) (w.heap.size + 1) w.heap.size 0 pasB (one_port pas_len HC.out.symm) pasB_ok (by decide) (by decide)).mono ?_
  rw [pas_r0]
  rintro e w0 ⟨he, hB0, hm0⟩
  obtain rfl : e = .returned (.bool true) := he
  have hE0 := (((Ext.refl w).alloc (.cells pasP.toArray 53)).alloc (.cells C 33)).mutE hm0 (fun n hn h1 => by omega)
  have ok0 : Br.ok (pasLearn pasB 0) := by
    have := pasF_ok (k := 0) pasB_ok (by decide)
    rw [pas_r0] at this
    exact this
  have H0 := Lib.hid hB0
  clear hB0 hm0
  go_wp2_with fail
  refine (pas_step _ (fun k => w.heap.size ≤ k) (w.heap.size + 1) w.heap.size 0 (pasLearn pasB 0) H0.out ok0 (by decide) (by decide)).mono ?_
  rw [pas_r1]
  rintro e w1 ⟨he, hB1, hm1⟩
  obtain rfl : e = .returned (.bool true) := he
  have hE1 := (show Ext w _ from hE0).mutE hm1 (fun n hn h1 => by omega)
  have ok1 : Br.ok (pasForward (pasLearn pasB 0) 0) := by
    have := pasF_ok (k := 0) ok0 (by decide)
    rw [pas_r1] at this
    exact this
  have H1 := Lib.hid hB1
  clear hB1 hm1 hE0
  go_wp2_with fail
  refine (pas_step _ (fun k => w.heap.size ≤ k) (w.heap.size + 1) w.heap.size 0 (pasForward (pasLearn pasB 0) 0) H1.out ok1 (by decide) (by decide)).mono ?_
  rw [pas_r2]
  rintro e w2 ⟨he, hB2, hm2⟩
  obtain rfl : e = .returned (.bool false) := he
  have hE2 := (show Ext w _ from hE1).mutE hm2 (fun n hn h1 => by omega)
  have ok2 : Br.ok (pasForward (pasLearn pasB 0) 0) := by
    have := pasF_ok (k := 0) ok1 (by decide)
    rw [pas_r2] at this
    exact this
  have H2 := Lib.hid hB2
  clear hB2 hm2 hE1
  obtain ⟨cap, c17, hc1, hc2⟩ := H2.out.cell17 ok2
  have hnp : (pasForward (pasLearn pasB 0) 0).np = 1 := rfl
  rw [hnp] at c17 hc1
  clear hnp
  have p27 := (H2.out.cellg (i := 0 * 89 + 27) (lt89 (k := 0) (N := 1) (by decide) (by decide))).trans (ok2.gb (k := 0) (by decide) 27 rfl)
  rw [pas_g27, Nat.zero_mul, Nat.zero_add] at p27
  have p20 := (H2.out.cellg (i := 0 * 89 + 20) (lt89 (k := 0) (N := 1) (by decide) (by decide))).trans (ok2.gi (k := 0) (by decide) 20 rfl)
  rw [pas_g20, Nat.zero_mul, Nat.zero_add] at p20
  go_wp2_with fail
  go_ret
  exact ⟨rfl, hE2⟩

end Go.Proofs.Ythlapkddgnpaeaa
