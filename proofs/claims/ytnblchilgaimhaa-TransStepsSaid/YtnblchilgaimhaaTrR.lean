/- Role transitions: the example; behind ten steps there is none. No statement is proved here. -/
import Derived.Test.YtnblchilgaimhaaTrN
namespace Go.Proofs.Ytnblchilgaimhaa
open Go.RowKit Go.BigFrame Go.WideShapes Go.ChangeShapes Go.Deep
set_option linter.unusedVariables false
set_option linter.unusedSimpArgs false

theorem one_portB {w : World} {hd p : List Value} (hp : p.length = 89) {C : Array Value} (hC : C = (hd ++ [Value.slice (some ⟨w.heap.size, 0, none⟩) 1 1, Value.slice none 0 0, Value.slice none 0 0]).toArray) :
    BrG ((w.alloc (.cells p.toArray 53)).alloc (.cells C 33)) (fun k => w.heap.size ≤ k ∧ k < w.heap.size + 2) (w.heap.size + 1) w.heap.size ⟨hd, 1, p, 0, [], 0, []⟩ := by
  refine ⟨by omega, by omega, 1, p.toArray, .slice none 0 0, .slice none 0 0, ?_, (heap_alloc_old _ _ (by simp)).trans (heap_alloc_new _ _), by simpa using hp, Nat.le_refl _, by decide, by simp [List.take_of_length_le, hp],
    ⟨rfl, .inl ⟨rfl, rfl⟩⟩, ⟨rfl, .inl ⟨rfl, rfl⟩⟩, (fun h hh => by cases hh), (fun h hh => by cases hh)⟩
  subst hC
  exact heap_alloc2_new _ _ _

def trwP : List Value := ((((((pz.set 87 (.int .i64 3)).set 88 (.int .i64 1)).set 19 (.int .i64 2)).set 44 (.bool true)).set 28 (.bool true)).set 26 (.bool true))
def trwH : List Value := (((hz.set 3 (.int .i64 20)).set 4 (.int .i64 2)).set 5 (.int .i64 15))
def trwB : Br := ⟨trwH, 1, trwP, 0, [], 0, []⟩
theorem trwB_ok : trwB.ok := one_ok (((hz_ok.set 3 _ (fun k hk => by cases hk; first | exact ⟨_, rfl⟩ | exact ⟨_, rfl, by decide⟩)).set 4 _ (fun k hk => by cases hk; first | exact ⟨_, rfl⟩ | exact ⟨_, rfl, by decide⟩)).set 5 _ (fun k hk => by cases hk; first | exact ⟨_, rfl⟩ | exact ⟨_, rfl, by decide⟩)) ((((((pz_ok.set 87 _ (fun k hk => by cases hk; first | exact ⟨_, rfl⟩ | exact ⟨_, rfl, by decide⟩)).set 88 _ (fun k hk => by cases hk; first | exact ⟨_, rfl⟩ | exact ⟨_, rfl, by decide⟩)).set 19 _ (fun k hk => by cases hk; first | exact ⟨_, rfl⟩ | exact ⟨_, rfl, by decide⟩)).set 44 _ (fun k hk => by cases hk; first | exact ⟨_, rfl⟩ | exact ⟨_, rfl, by decide⟩)).set 28 _ (fun k hk => by cases hk; first | exact ⟨_, rfl⟩ | exact ⟨_, rfl, by decide⟩)).set 26 _ (fun k hk => by cases hk; first | exact ⟨_, rfl⟩ | exact ⟨_, rfl, by decide⟩))
theorem trw_len : trwP.length = 89 := by kernel_rfl
def trwS : Value := .agg #[.int .i64 0, .int .i64 0, .int .i64 0, .int .i64 0, .int .i64 2, .int .i64 0, .int .i64 0]
def trwFl : Array Value := ((((List.replicate 29 (Value.bool false)).set 22 (.bool true)).set 6 (.bool true)).set 4 (.bool true)).toArray
def trwT : Value := .agg #[.int .i64 0, .int .i64 20, .int .i64 2, .int .i64 15]
theorem trw_bt (w : World) : (Instr.build 24 #[(1, .int .i64 20), (2, .int .i64 2), (3, .int .i64 15)]).run Try.prog w = .ok trwT w := by kernel_rfl
theorem trw_bs (w : World) : (Instr.build 47 #[(4, .int .i64 2)]).run Try.prog w = .ok trwS w := by kernel_rfl
theorem trw_bf : Try.prog.built 49 [(22, .bool true), (6, .bool true), (4, .bool true)] = some trwFl := by kernel_rfl
theorem trw_b1 : Try.prog.built 53 [(15, .int .i64 3), (16, .int .i64 1), (7, trwS), (8, .agg trwFl)] = some trwP.toArray := by kernel_rfl
theorem trw_b2 : Instr.fill (fun i => some (i * 89, 89)) ((Array.range (1 * 89)).map (PZ[· % PZ.size]!)) [(0, .agg trwP.toArray)] = some trwP.toArray := by kernel_rfl
theorem trw_b3 (b : Nat) : Try.prog.built 33 [(2, trwT), (7, Value.slice (some ⟨b, 0, none⟩) 1 1)] = some (trwH ++ [Value.slice (some ⟨b, 0, none⟩) 1 1, Value.slice none 0 0, Value.slice none 0 0]).toArray := by kernel_rfl
def trwZ : Br := (trStop trwB 0).setp 0 19 (.int .i64 4)
theorem trw_r : trF trwB 0 = (true, trwZ) := by kernel_rfl
theorem trw_87 : (port trwZ.ps 0)[87]? = some (.int .i64 1) := by kernel_rfl
theorem trw_19 : (port trwZ.ps 0)[19]? = some (.int .i64 4) := by kernel_rfl
theorem trw_28 : (port trwZ.ps 0)[28]? = some (.bool false) := by kernel_rfl
theorem trw_26 : (port trwZ.ps 0)[26]? = some (.bool false) := by kernel_rfl

set_option maxRecDepth 100000 in
set_option maxHeartbeats 2000000 in
theorem trw_awake (w : World) : Calls Try.prog 32 #[] w fun e w' => e = .returned (.bool true) ∧ Ext w w' := by
  have hmz := trw_b3 w.heap.size
  obtain ⟨C, hC⟩ : ∃ C, (trwH ++ [Value.slice (some ⟨w.heap.size, 0, none⟩) 1 1, Value.slice none 0 0, Value.slice none 0 0]).toArray = C := ⟨_, rfl⟩
  rw [hC] at hmz
  have HM := Lib.hid hmz
  have hCz : C.size = 20 := by rw [← hC]; rfl
  have hCo : C.toList.all (·.oneCell') = true := by rw [← hC]; rfl
  have hCi := Lib.hid (show (Try.prog.info? 33).map (·.size) = some C.size by rw [hCz]; exact size_br)
  have HCz := Lib.hid (size_z20.trans hCz.symm)
  have HCo := Lib.hid hCo
  have HC := Lib.hid hC
  clear hC hCz hCo hmz
  have hbt := trw_bt
  have hbs := trw_bs
  go_enter Try.func32, Try.ntmps32
  go_wp2_with (first
    | fail
    | ((with_reducible refine at_build 49 ?_); refine wpList_build2 rfl 49 _ rfl [(22, .bool true), (6, .bool true), (4, .bool true)] rfl _ trw_bf ?_)
    | ((with_reducible refine at_build 53 ?_); refine wpList_build2 rfl 53 _ rfl [(15, .int .i64 3), (16, .int .i64 1), (7, trwS), (8, .agg trwFl)] rfl _ trw_b1 ?_)
    | ((with_reducible refine at_slice 29 ?_); refine wpList_slice1 rfl _ rfl [(0, .agg trwP.toArray)] rfl _ trw_b2 ?_)
    | ((with_reducible refine at_build 33 ?_); refine wpList_build2 rfl 33 _ rfl [(2, trwT), (7, Value.slice (some ⟨w.heap.size, 0, none⟩) 1 1)] rfl C HM.out ?_)
    | ((with_reducible refine at_store 33 ?_); refine wpList_store_new2 rfl rfl 33 _ _ _ rfl _ C _ rfl ?_ rfl hCi.out HCz.out HCo.out ?_; · simp))
  refine (trans_step _ _ (w.heap.size + 1) w.heap.size 0 trwB (one_portB trw_len HC.out.symm) trwB_ok (by decide) (by decide) (fun n hn => by simp; have := hn.2; omega) (by decide +kernel)).mono ?_
  rw [trw_r]
  rintro e w0 ⟨he, hB0, hm0⟩
  obtain rfl : e = .returned (.bool true) := he
  have hE0 := (((Ext.refl w).alloc (.cells trwP.toArray 53)).alloc (.cells C 33)).mutE hm0 (fun n hn h1 => by have := h1.1; omega)
  have ok0 : Br.ok trwZ := by
    have := trF_ok (k := 0) trwB_ok (by decide) (by decide +kernel)
    rw [trw_r] at this
    exact this
  have H0 := Lib.hid (show BrG w0 _ _ _ trwZ from hB0)
  clear hB0 hm0
  obtain ⟨cap, c17, hc1, hc2⟩ := H0.out.cell17 ok0
  rw [show trwZ.np = 1 from rfl] at c17 hc1
  have hqr0 := H0.out.range (k := 0) (by decide)
  rw [Nat.zero_mul] at hqr0
  have hqt := port_typed ok0 (i := 0) (by decide)
  have c87 := trw_87
  have c19 := trw_19
  have c28 := trw_28
  have c26 := trw_26
  obtain ⟨p, hp⟩ : ∃ p, port trwZ.ps 0 = p := ⟨_, rfl⟩
  rw [hp] at hqr0 hqt c87 c19 c28 c26
  clear hp
  have hqr := Lib.hid hqr0
  have hqi := Lib.hid (show (Try.prog.info? 53).map (·.size) = some p.length by rw [hqt.1]; exact size_port)
  have hqi2 := Lib.hid (show (Try.prog.info? 53).map (·.size) = some p.toArray.size by rw [List.size_toArray]; exact hqi.out)
  have hqs := Lib.hid (show PZ.size = p.toArray.size by rw [size_PZ, List.size_toArray]; exact hqt.1.symm)
  have hqo := Lib.hid (all_oneCell_toArray hqt.one)
  have hzp := zero_port
  clear hqr0 hqt
  go_wp2_with (first | fail | ((with_reducible refine at_load 53 ?_); refine wpList_load_mid rfl 53 _ rfl w.heap.size 0 rfl p _ hqr.out Try.underlying53 rfl hqi.out ?_) | ((with_reducible refine at_store 53 ?_); refine wpList_store_new2 rfl rfl 53 _ _ _ rfl PZ p.toArray _ rfl ?_ rfl hqi2.out hqs.out (by rw [Array.all_toList]; exact hqo.out) ?_; · rfl))
  go_ret
  exact ⟨rfl, hE0.alloc _⟩

/-- A step of a box in a law's walk. -/
theorem tr_stepL (w : World) (N X g k : Nat) (B : Br) (h : BrG w (fun n => N ≤ n ∧ n < X + 1) X g B) (ho : B.ok) (hk : k < B.np) (hn : B.np < 1000) (h4 : 0 ≤ B.hi 4 ∧ B.hi 4 ≤ 1000) :
    Calls Try.prog 33 #[.pointer (some ⟨X, 0, none⟩), .int .i64 k] w (Stepped w (fun n => N ≤ n ∧ n < X + 1) X g (trF B k)) :=
  trans_step w _ X g k B h ho hk hn (fun n hn => by have h1 := h.lt.1; have h2 := hn.2; omega) h4
theorem few_hi4 {B : Br} (h : RightP B) : 0 ≤ B.hi 4 ∧ B.hi 4 ≤ 1000 := by
  have h1 := h.1.1
  unfold TR at h1
  omega

theorem trIt_inv {B : Br} (ho : B.ok) {k : Nat} (hk : k < B.np) (h4 : 0 ≤ B.hi 4 ∧ B.hi 4 ≤ 1000) : ∀ n, (trIt B k n).ok ∧ (trIt B k n).np = B.np ∧ 0 ≤ (trIt B k n).hi 4 ∧ (trIt B k n).hi 4 ≤ 1000
  | 0 => ⟨ho, rfl, h4.1, h4.2⟩
  | n + 1 => by
    obtain ⟨i1, i2, i3⟩ := trIt_inv ho hk h4 n
    have hk' : k < (trIt B k n).np := by rw [i2]; exact hk
    refine ⟨trF_ok i1 hk' i3, (trF_np i1 hk' i3).trans i2, ?_⟩
    show 0 ≤ (trF (trIt B k n) k).2.hi 4 ∧ (trF (trIt B k n) k).2.hi 4 ≤ 1000
    rw [trF_hi]
    exact i3
theorem trIt_mu {B : Br} (ho : B.ok) {k : Nat} (hk : k < B.np) (h4 : 0 ≤ B.hi 4 ∧ B.hi 4 ≤ 1000) : ∀ n, (trF (trIt B k n) k).1 = true → trMu (trIt B k n) k + n ≤ 9
  | 0, _ => trMu_le B k
  | n + 1, h => by
    obtain ⟨i1, i2, i3⟩ := trIt_inv ho hk h4 n
    have hk' : k < (trIt B k n).np := by rw [i2]; exact hk
    by_cases hp : (trF (trIt B k n) k).1 = true
    · have h1 := trIt_mu ho hk h4 n hp
      have h2 := trMu_step i1 hk' hp
      show trMu (trF (trIt B k n) k).2 k + (n + 1) ≤ 9
      omega
    · have hf : (trF (trIt B k n) k).1 = false := by simpa using hp
      have e : trIt B k (n + 1) = trIt B k n := by
        show (trF (trIt B k n) k).2 = _
        rw [trF_none hf]
      rw [e, hf] at h
      cases h
/-- Behind ten steps there is none. -/
theorem trIt_ends {B : Br} (ho : B.ok) {k : Nat} (hk : k < B.np) (h4 : 0 ≤ B.hi 4 ∧ B.hi 4 ≤ 1000) : trF (trIt B k 10) k = (false, trIt B k 10) := by
  refine trF_none ?_
  cases h : (trF (trIt B k 10) k).1
  · rfl
  · have := trIt_mu ho hk h4 10 h
    omega

end Go.Proofs.Ytnblchilgaimhaa
