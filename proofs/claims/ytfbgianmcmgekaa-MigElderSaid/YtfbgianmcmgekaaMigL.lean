/- The migration machine's laws: what they share. No statement is proved here. -/
import Derived.Test.YtfbgianmcmgekaaMigR
import Derived.Test.YtfbgianmcmgekaaBrW
namespace Go.Proofs.Ytfbgianmcmgekaa
open Go.RowKit Go.WideShapes Go.ChangeShapes Go.Deep
set_option linter.unusedVariables false

theorem migF_np (B : Br) (k : Nat) : (migF B k).2.np = B.np := by
  unfold migF migListen migBegin migYield
  split <;> (try split) <;> (try split) <;> (try split) <;> rfl
theorem migF_ok {B : Br} {k : Nat} (ho : B.ok) (hk : k < B.np) : (migF B k).2.ok := by
  have hL : (migListen B k).ok := ((ho.setB hk 37 _ rfl).setB hk 38 _ rfl).setI hk 16 .i64 _ rfl (by decide)
  have hB : (migBegin B k).ok := (((ho.setB hk 30 _ rfl).setB hk 45 _ rfl).setI hk 9 .i64 _ rfl (by decide)).setI hk 16 .i64 _ rfl (by decide)
  have hY : (migYield B k).ok := ((ho.setB hk 45 _ rfl).setI hk 9 .i64 _ rfl (by decide)).setI hk 16 .i64 _ rfl (by decide)
  unfold migF
  split <;> (try split) <;> (try split) <;> (try split) <;> first | exact ho | exact hL | exact hB | exact hY

def mwP : List Value := (((pz.set 2 (.bool true)).set 16 (.int .i64 2)).set 45 (.bool true)).set 38 (.bool true)
def mwH : List Value := hz.set 1 (.bool true)
def mwB : Br := ⟨mwH, 1, mwP, 0, [], 0, []⟩
theorem mwB_ok : mwB.ok := one_ok (hz_ok.set _ _ (fun k hk => by cases hk; exact ⟨_, rfl⟩)) ((((pz_ok.set _ _ (fun k hk => by cases hk; exact ⟨_, rfl⟩)).set _ _ (fun k hk => by cases hk; exact ⟨_, rfl, by decide⟩)).set _ _ (fun k hk => by cases hk; exact ⟨_, rfl⟩)).set _ _ (fun k hk => by cases hk; exact ⟨_, rfl⟩))
def mwQ : List Value := ((mwP.set 45 (.bool false)).set 9 (.int .i64 3)).set 16 (.int .i64 1)
theorem mw_q : port (migYield mwB 0).ps 0 = mwQ := by kernel_rfl
theorem mw_r : migF mwB 0 = (true, migYield mwB 0) := by kernel_rfl
theorem mw_qo : mwQ.all (·.oneCell') = true := by kernel_rfl
theorem mw_len : mwP.length = 89 := by kernel_rfl
def mwS : Value := .agg #[.int .i64 0, .int .i64 2, .int .i64 0, .int .i64 0, .int .i64 0, .int .i64 0, .int .i64 0]
def mwF : Value := .agg (((List.replicate 29 (Value.bool false)).set 23 (.bool true)).set 16 (.bool true)).toArray
theorem mw_b1 : Try.prog.built 52 [(2, .bool true), (7, mwS), (8, mwF)] = some mwP.toArray := by kernel_rfl
theorem mw_b2 : Instr.fill (fun i => some (i * 89, 89)) ((Array.range (1 * 89)).map (PZ[· % PZ.size]!)) [(0, .agg mwP.toArray)] = some mwP.toArray := by kernel_rfl
theorem mw_b3 (b : Nat) : Try.prog.built 33 [(1, .bool true), (7, .slice (some ⟨b, 0, none⟩) 1 1)] = some (mwH ++ [Value.slice (some ⟨b, 0, none⟩) 1 1, Value.slice none 0 0, Value.slice none 0 0]).toArray := by kernel_rfl

set_option maxRecDepth 100000 in
set_option maxHeartbeats 2000000 in
theorem mig_awake (w : World) : Calls Try.prog 13 #[] w fun e w' => e = .returned (.bool true) ∧ Ext w w' := by
  have hmz := mw_b3 w.heap.size
  obtain ⟨C, hC⟩ : ∃ C, (mwH ++ [Value.slice (some ⟨w.heap.size, 0, none⟩) 1 1, Value.slice none 0 0, Value.slice none 0 0]).toArray = C := ⟨_, rfl⟩
  rw [hC] at hmz
  have HM := Lib.hid hmz
  have hCz : C.size = 20 := by rw [← hC]; rfl
  have hCo : C.toList.all (·.oneCell') = true := by rw [← hC]; rfl
  have hCi := Lib.hid (show (Try.prog.info? 33).map (·.size) = some C.size by rw [hCz]; exact size_br)
  have HCz := Lib.hid (size_z20.trans hCz.symm)
  have HCo := Lib.hid hCo
  have HC := Lib.hid hC
  clear hC hCz hCo hmz
  go_enter Try.func13, Try.ntmps13
  go_wp2_with (first
    | fail
    | ((with_reducible refine at_build 52 ?_); refine wpList_build2 rfl 52 _ rfl [(2, .bool true), (7, mwS), (8, mwF)] rfl _ mw_b1 ?_)
    | ((with_reducible refine at_slice 29 ?_); refine wpList_slice1 rfl _ rfl [(0, .agg mwP.toArray)] rfl _ mw_b2 ?_)
    | ((with_reducible refine at_build 33 ?_); refine wpList_build2 rfl 33 _ rfl [(1, .bool true), (7, .slice (some ⟨w.heap.size, 0, none⟩) 1 1)] rfl C HM.out ?_)
    | ((with_reducible refine at_store 33 ?_); refine wpList_store_new2 rfl rfl 33 _ _ _ rfl _ C _ rfl ?_ rfl hCi.out HCz.out HCo.out ?_; · simp))
  refine (mig_step _ (fun k => w.heap.size ≤ k) (w.heap.size + 1) w.heap.size 0 mwB (one_port mw_len HC.out.symm) mwB_ok (by decide) (by decide)).mono ?_
  rw [mw_r]
  rintro e w1 ⟨rfl, hB1, hm1⟩
  have hE1 := ((((Ext.refl w).alloc (.cells mwP.toArray 52)).alloc (.cells C 33)).mutE hm1 (fun n hn h1 => by omega))
  have hok : (migYield mwB 0).ok := by
    have := migF_ok (k := 0) mwB_ok (by decide)
    rw [mw_r] at this
    exact this
  obtain ⟨cap, c17, hc1, hc2⟩ := hB1.cell17 hok
  have hnp : (migYield mwB 0).np = 1 := rfl
  rw [hnp] at c17 hc1
  have hpr := hB1.range (k := 0) (by decide)
  rw [mw_q, Nat.zero_mul] at hpr
  have hpz := Lib.hid (show (Try.prog.info? 52).map (·.size) = some mwQ.length by kernel_rfl)
  have hps := Lib.hid (show (Try.prog.info? 52).map (·.size) = some mwQ.toArray.size by kernel_rfl)
  have hpl := Lib.hid (show PZ.size = mwQ.toArray.size by kernel_rfl)
  have hpo := Lib.hid (all_oneCell_toArray (List.all_eq_true.1 mw_qo))
  have HR := Lib.hid hpr
  have hzp := zero_port
  have r45 : mwQ[45]? = some (.bool false) := rfl
  have r9 : mwQ[9]? = some (.int .i64 3) := rfl
  have r16 : mwQ[16]? = some (.int .i64 1) := rfl
  clear hpr hm1 hB1 hnp
  go_wp2_with (first
    | fail
    | ((with_reducible refine at_load 52 ?_); refine wpList_load_mid rfl 52 _ rfl w.heap.size 0 rfl mwQ _ HR.out Try.underlying52 rfl hpz.out ?_)
    | ((with_reducible refine at_store 52 ?_); refine wpList_store_new rfl 52 _ _ rfl PZ mwQ.toArray rfl rfl hps.out hpl.out hpo.out ?_))
  go_ret
  exact ⟨rfl, hE1.alloc _⟩

end Go.Proofs.Ytfbgianmcmgekaa
