/- The receive machine: the example; by itself. No statement is proved here. -/
import Derived.Test.YtpieamfpgfabgaaRxC
namespace Go.Proofs.Ytpieamfpgfabgaa
open Go.RowKit Go.BigFrame Go.WideShapes Go.ChangeShapes Go.Deep
set_option linter.unusedVariables false

def rxMsg : List Value := (ML.map zc).set 0 (.int .i64 2)
theorem rxMsg_typed : Typed ML rxMsg := (typed_zero ML (by decide)).set 0 _ (fun k hk => by cases hk; exact ⟨_, rfl, by decide⟩)
theorem rxw_bm : Try.prog.built 35 [(0, .int .i64 2)] = some rxMsg.toArray := by kernel_rfl
def takeF0 (B : Br) (k : Nat) : Bool × Br := takeF B k rxMsg
theorem takeF0_ok {B : Br} {k : Nat} (ho : B.ok) (hk : k < B.np) : (takeF0 B k).2.ok := takeF_ok ho _ rxMsg_typed
theorem rxt_take0 (w : World) (F : Nat → Prop) (X g k : Nat) (B : Br) (h : BrG w F X g B) (ho : B.ok) (hk : k < B.np) (hk2 : B.np < 1000) :
    Calls Try.prog 15 #[.pointer (some ⟨X, 0, none⟩), .int .i64 k, .agg rxMsg.toArray] w (Stepped w F X g (takeF0 B k)) := rxt_take w F X g B h ho rxMsg rxMsg_typed hk2 k

def rxwP : List Value := ((pz.set 2 (.bool true)).set 6 (.int .i64 3))
def rxwH : List Value := (hz.set 1 (.bool true))
def rxwB : Br := ⟨rxwH, 1, rxwP, 0, [], 0, []⟩
theorem rxwB_ok : rxwB.ok := one_ok (hz_ok.set 1 _ (fun k hk => by cases hk; first | exact ⟨_, rfl⟩ | exact ⟨_, rfl, by decide⟩)) ((pz_ok.set 2 _ (fun k hk => by cases hk; first | exact ⟨_, rfl⟩ | exact ⟨_, rfl, by decide⟩)).set 6 _ (fun k hk => by cases hk; first | exact ⟨_, rfl⟩ | exact ⟨_, rfl, by decide⟩))
theorem rxw_len : rxwP.length = 89 := by kernel_rfl
def rxwC : Value := .agg #[.int .i64 3, .int .i64 0, .int .i64 0, .int .i64 0, .int .i64 0, .int .i64 0, .int .i64 0, .int .i64 0, .int .i64 0]
theorem rxw_b1 : Try.prog.built 52 [(2, .bool true), (6, rxwC)] = some rxwP.toArray := by kernel_rfl
theorem rxw_b2 : Instr.fill (fun i => some (i * 89, 89)) ((Array.range (1 * 89)).map (PZ[· % PZ.size]!)) [(0, .agg rxwP.toArray)] = some rxwP.toArray := by kernel_rfl
theorem rxw_b3 (b : Nat) : Try.prog.built 33 [(1, .bool true), (7, Value.slice (some ⟨b, 0, none⟩) 1 1)] = some (rxwH ++ [Value.slice (some ⟨b, 0, none⟩) 1 1, Value.slice none 0 0, Value.slice none 0 0]).toArray := by kernel_rfl
theorem rxw_r0 : takeF0 rxwB 0 = (true, (rxTook rxwB 0 rxMsg)) := by kernel_rfl
theorem rxw_r1 : rxF (rxTook rxwB 0 rxMsg) 0 = (true, (rxRcvR (rxTook rxwB 0 rxMsg) 0)) := by kernel_rfl
theorem rxw_r2 : rxF (rxRcvR (rxTook rxwB 0 rxMsg) 0) 0 = (false, (rxRcvR (rxTook rxwB 0 rxMsg) 0)) := by kernel_rfl
theorem rxw_g15 : ((rxRcvR (rxTook rxwB 0 rxMsg) 0)).gi 0 15 = 1 := by kernel_rfl

set_option maxRecDepth 100000 in
set_option maxHeartbeats 2000000 in
theorem rxw_awake (w : World) : Calls Try.prog 12 #[] w fun e w' => e = .returned (.bool true) ∧ Ext w w' := by
  have hmz := rxw_b3 w.heap.size
  obtain ⟨C, hC⟩ : ∃ C, (rxwH ++ [Value.slice (some ⟨w.heap.size, 0, none⟩) 1 1, Value.slice none 0 0, Value.slice none 0 0]).toArray = C := ⟨_, rfl⟩
  rw [hC] at hmz
  have HM := Lib.hid hmz
  have hCz : C.size = 20 := by rw [← hC]; rfl
  have hCo : C.toList.all (·.oneCell') = true := by rw [← hC]; rfl
  have hCi := Lib.hid (show (Try.prog.info? 33).map (·.size) = some C.size by rw [hCz]; exact size_br)
  have HCz := Lib.hid (size_z20.trans hCz.symm)
  have HCo := Lib.hid hCo
  have HC := Lib.hid hC
  clear hC hCz hCo hmz
  go_enter Try.func12, Try.ntmps12
  go_wp2_with (first
    | fail
    | ((with_reducible refine at_build 52 ?_); refine wpList_build2 rfl 52 _ rfl [(2, .bool true), (6, rxwC)] rfl _ rxw_b1 ?_)
    | ((with_reducible refine at_build 35 ?_); refine wpList_build2 rfl 35 _ rfl [(0, .int .i64 2)] rfl _ rxw_bm ?_)
    | ((with_reducible refine at_slice 29 ?_); refine wpList_slice1 rfl _ rfl [(0, .agg rxwP.toArray)] rfl _ rxw_b2 ?_)
    | ((with_reducible refine at_build 33 ?_); refine wpList_build2 rfl 33 _ rfl [(1, .bool true), (7, Value.slice (some ⟨w.heap.size, 0, none⟩) 1 1)] rfl C HM.out ?_)
    | ((with_reducible refine at_store 33 ?_); refine wpList_store_new2 rfl rfl 33 _ _ _ rfl _ C _ rfl ?_ rfl hCi.out HCz.out HCo.out ?_; · simp))
  refine (rxt_take0 _ (fun k => w.heap.size ≤ k) (w.heap.size + 1) w.heap.size 0 rxwB (one_port rxw_len HC.out.symm) rxwB_ok (by decide) (by decide)).mono ?_
  rw [rxw_r0]
  rintro e w0 ⟨he, hB0, hm0⟩
  obtain rfl : e = .returned (.bool true) := he
  have hE0 := (((Ext.refl w).alloc (.cells rxwP.toArray 52)).alloc (.cells C 33)).mutE hm0 (fun n hn h1 => by omega)
  have ok0 : Br.ok (rxTook rxwB 0 rxMsg) := by
    have := takeF0_ok (k := 0) rxwB_ok (by decide)
    rw [rxw_r0] at this
    exact this
  have H0 := Lib.hid hB0
  clear hB0 hm0
  go_wp2_with fail
  refine (rx_step _ (fun k => w.heap.size ≤ k) (w.heap.size + 1) w.heap.size 0 (rxTook rxwB 0 rxMsg) H0.out ok0 (by decide) (by decide)).mono ?_
  rw [rxw_r1]
  rintro e w1 ⟨he, hB1, hm1⟩
  obtain rfl : e = .returned (.bool true) := he
  have hE1 := (show Ext w _ from hE0).mutE hm1 (fun n hn h1 => by omega)
  have ok1 : Br.ok (rxRcvR (rxTook rxwB 0 rxMsg) 0) := by
    have := rxF_ok (k := 0) ok0 (by decide)
    rw [rxw_r1] at this
    exact this
  have H1 := Lib.hid hB1
  clear hB1 hm1 hE0
  go_wp2_with fail
  refine (rx_step _ (fun k => w.heap.size ≤ k) (w.heap.size + 1) w.heap.size 0 (rxRcvR (rxTook rxwB 0 rxMsg) 0) H1.out ok1 (by decide) (by decide)).mono ?_
  rw [rxw_r2]
  rintro e w2 ⟨he, hB2, hm2⟩
  obtain rfl : e = .returned (.bool false) := he
  have hE2 := (show Ext w _ from hE1).mutE hm2 (fun n hn h1 => by omega)
  have ok2 : Br.ok (rxRcvR (rxTook rxwB 0 rxMsg) 0) := by
    have := rxF_ok (k := 0) ok1 (by decide)
    rw [rxw_r2] at this
    exact this
  have H2 := Lib.hid hB2
  clear hB2 hm2 hE1
  obtain ⟨cap, c17, hc1, hc2⟩ := H2.out.cell17 ok2
  have hnp : ((rxRcvR (rxTook rxwB 0 rxMsg) 0)).np = 1 := rfl
  rw [hnp] at c17 hc1
  clear hnp
  have p15 := (H2.out.cellg (i := 0 * 89 + 15) (lt89 (k := 0) (N := 1) (by decide) (by decide))).trans (ok2.gi (k := 0) (by decide) 15 rfl)
  rw [rxw_g15, Nat.zero_mul, Nat.zero_add] at p15
  have hflr := Lib.hid (H2.out.flags (k := 0) (by decide))
  have hfn : (flagsOf (rxRcvR (rxTook rxwB 0 rxMsg) 0).ps 0).length = 29 := by kernel_rfl
  have f13 : (flagsOf (rxRcvR (rxTook rxwB 0 rxMsg) 0).ps 0)[13]? = some (.bool false) := by kernel_rfl
  have f14 : (flagsOf (rxRcvR (rxTook rxwB 0 rxMsg) 0).ps 0)[14]? = some (.bool true) := by kernel_rfl
  have f15 : (flagsOf (rxRcvR (rxTook rxwB 0 rxMsg) 0).ps 0)[15]? = some (.bool true) := by kernel_rfl
  obtain ⟨fl, hfl⟩ : ∃ fl, flagsOf (rxRcvR (rxTook rxwB 0 rxMsg) 0).ps 0 = fl := ⟨_, rfl⟩
  have hflo := Lib.hid (all_oneCell_toArray (flagsOf_one ok2 0))
  rw [hfl] at hflr hfn f13 f14 f15 hflo
  have hfli := Lib.hid (show (Try.prog.info? 50).map (·.size) = some fl.length by rw [hfn]; exact size_flags)
  have hfli2 := Lib.hid (show (Try.prog.info? 50).map (·.size) = some fl.toArray.size by rw [List.size_toArray, hfn]; exact size_flags)
  have hfls := Lib.hid (show FZ.size = fl.toArray.size by rw [List.size_toArray]; exact hfn.symm)
  clear hfl hfn
  have hzf := zero_flags
  obtain ⟨hXl, hgl, -⟩ := H2.out.lt
  go_wp2_with (first | fail | ((with_reducible refine at_load 50 ?_); refine wpList_load_mid rfl 50 _ rfl w.heap.size (0 * 89 + 22) rfl fl _ hflr.out Try.underlying50 rfl hfli.out ?_) | ((with_reducible refine at_store 50 ?_); refine wpList_store_new rfl 50 _ _ rfl FZ fl.toArray rfl rfl hfli2.out hfls.out hflo.out ?_))
  go_ret
  exact ⟨rfl, (show Ext w _ from hE2).alloc _⟩

section
variable (B : Br) (k : Nat)
/-- Who has one in hand, and has received, takes none. -/
theorem rxF_waits (h2 : B.gb k 2 = true) (h15 : B.gi k 15 = 1) (h36 : B.gb k 36 = true) : rxF B k = (false, B) := by
  cases h35 : B.gb k 35 <;> simp [rxF, rxS, rxSel, h2, h15, h36, h35]
def rw0 : Br := ((B.setp k 2 (.bool true)).setp k 15 (.int .i64 1)).setp k 36 (.bool true)
theorem rw0_f (h : k * 89 + 89 ≤ B.ps.length) : rxF (rw0 B k) k = (false, rw0 B k) := by
  refine rxF_waits _ _ ?_ ?_ ?_
  · unfold rw0; rw [gb_setp_ne _ _ _ _ _ (by decide), gb_setp_ne _ _ _ _ _ (by decide), gb_setp_same _ _ _ _ (by omega)]
  · unfold rw0; rw [gi_setp_ne _ _ _ _ _ (by decide), gi_setp_same _ _ _ _ _ (by simp only [len_setp]; omega)]
  · unfold rw0; rw [gb_setp_same _ _ _ _ (by simp only [len_setp]; omega)]
end

end Go.Proofs.Ytpieamfpgfabgaa
