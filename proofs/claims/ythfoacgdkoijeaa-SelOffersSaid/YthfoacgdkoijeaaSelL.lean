/- The selection: the example. No statement is proved here. -/
import Derived.Test.YthfoacgdkoijeaaSelK
import Derived.Test.YthfoacgdkoijeaaBrW
namespace Go.Proofs.Ythfoacgdkoijeaa
open Go.RowKit Go.BigFrame Go.WideShapes Go.ChangeShapes Go.Deep
set_option linter.unusedVariables false
set_option linter.unusedSimpArgs false

theorem wpList_slice2 {ops : Array Oper} {rest : List Oper} {o : Oper} {a : Act} {w : World} {Q : Exit → Act → World → Prop} (hg : o.guard = none) (parts : Array (Nat × Operand)) (ho : o.op = .buildSlice 29 2 parts)
    (vals : List (Nat × Value)) (hv : parts.toList.map (fun x => (x.1, a.eval x.2)) = vals) (cells : Array Value) (hf : Instr.fill (fun i => some (i * 89, 89)) ((Array.range (2 * 89)).map (PZ[· % PZ.size]!)) vals = some cells)
    (h : wpList Try.prog ops Q rest (a.put o.dst (.slice (some ⟨w.heap.size, 0, none⟩) 2 2)) (w.alloc (.cells cells 51))) : wpList Try.prog ops Q (o :: rest) a w := by
  have e : (parts.map fun (i, x) => (i, a.eval x)).toList = vals := by rw [Array.toList_map]; exact hv
  obtain ⟨i1, hi1, hz1, hs1, hb1⟩ := info_of info_port
  exact wpList_buildSlice hg 29 51 2 parts ho cells i1 (.agg PZ) Try.underlying29 hi1 hz1 (by rw [hs1]; decide) (by rw [hs1]; decide) (by rw [e, hs1]; exact hf) h
theorem two_ports {w : World} {hd ps : List Value} (hp : ps.length = 178) {C : Array Value} (hC : C = (hd ++ [Value.slice (some ⟨w.heap.size, 0, none⟩) 2 2, Value.slice none 0 0, Value.slice none 0 0]).toArray) :
    BrG ((w.alloc (.cells ps.toArray 51)).alloc (.cells C 33)) (fun k => w.heap.size ≤ k ∧ k < w.heap.size + 2) (w.heap.size + 1) w.heap.size ⟨hd, 2, ps, 0, [], 0, []⟩ := by
  refine ⟨by omega, by omega, 2, ps.toArray, .slice none 0 0, .slice none 0 0, ?_, (heap_alloc_old _ _ (by simp)).trans (heap_alloc_new _ _), by simpa using hp, Nat.le_refl _, by decide, by simp [List.take_of_length_le, hp],
    ⟨rfl, .inl ⟨rfl, rfl⟩⟩, ⟨rfl, .inl ⟨rfl, rfl⟩⟩, (fun h hh => by cases hh), (fun h hh => by cases hh)⟩
  subst hC
  exact heap_alloc2_new _ _ _
theorem two_ok {hd p q : List Value} (h1 : Typed HL hd) (h2 : Typed PL p) (h3 : Typed PL q) : Br.ok ⟨hd, 2, p ++ q, 0, [], 0, []⟩ := by
  have lp : p.length = 89 := h2.1
  have lq : q.length = 89 := h3.1
  refine ⟨h1, ⟨by simp [lp, lq]; rfl, fun i hi => ?_⟩, ⟨rfl, fun i hi => absurd hi (Nat.not_lt_zero i)⟩, ⟨rfl, fun i hi => absurd hi (Nat.not_lt_zero i)⟩⟩
  have hl : PL.length = 89 := rfl
  rw [hl]
  rcases (by have : i < 2 := hi; omega : i = 0 ∨ i = 1) with rfl | rfl
  · rw [Nat.zero_mul, List.drop_zero, List.take_append_of_le_length (by omega), List.take_of_length_le (by omega)]
    exact h2
  · rw [Nat.one_mul, List.drop_append_of_le_length (by omega), List.drop_of_length_le (by omega), List.nil_append, List.take_of_length_le (by omega)]
    exact h3


def swA : List Value := (((pz.set 0 (.int .u16 1)).set 86 (.int .i64 1)).set 43 (.bool true))
def swC : List Value := ((((((pz.set 0 (.int .u16 2)).set 1 (.int .u32 10)).set 86 (.int .i64 3)).set 68 (.int .u64 3)).set 69 (.int .u32 20)).set 70 (.int .u64 4))
def swH : List Value := ((((hz.set 0 (.int .u64 5)).set 3 (.int .i64 20)).set 4 (.int .i64 2)).set 5 (.int .i64 15))
def swB : Br := ⟨swH, 2, swA ++ swC, 0, [], 0, []⟩
theorem swB_ok : swB.ok := two_ok ((((hz_ok.set 0 _ (fun k hk => by cases hk; first | exact ⟨_, rfl⟩ | exact ⟨_, rfl, by decide⟩)).set 3 _ (fun k hk => by cases hk; first | exact ⟨_, rfl⟩ | exact ⟨_, rfl, by decide⟩)).set 4 _ (fun k hk => by cases hk; first | exact ⟨_, rfl⟩ | exact ⟨_, rfl, by decide⟩)).set 5 _ (fun k hk => by cases hk; first | exact ⟨_, rfl⟩ | exact ⟨_, rfl, by decide⟩)) (((pz_ok.set 0 _ (fun k hk => by cases hk; first | exact ⟨_, rfl⟩ | exact ⟨_, rfl, by decide⟩)).set 86 _ (fun k hk => by cases hk; first | exact ⟨_, rfl⟩ | exact ⟨_, rfl, by decide⟩)).set 43 _ (fun k hk => by cases hk; first | exact ⟨_, rfl⟩ | exact ⟨_, rfl, by decide⟩)) ((((((pz_ok.set 0 _ (fun k hk => by cases hk; first | exact ⟨_, rfl⟩ | exact ⟨_, rfl, by decide⟩)).set 1 _ (fun k hk => by cases hk; first | exact ⟨_, rfl⟩ | exact ⟨_, rfl, by decide⟩)).set 86 _ (fun k hk => by cases hk; first | exact ⟨_, rfl⟩ | exact ⟨_, rfl, by decide⟩)).set 68 _ (fun k hk => by cases hk; first | exact ⟨_, rfl⟩ | exact ⟨_, rfl, by decide⟩)).set 69 _ (fun k hk => by cases hk; first | exact ⟨_, rfl⟩ | exact ⟨_, rfl, by decide⟩)).set 70 _ (fun k hk => by cases hk; first | exact ⟨_, rfl⟩ | exact ⟨_, rfl, by decide⟩))
theorem sw_len : (swA ++ swC).length = 178 := by kernel_rfl
def swF : Value := .agg ((List.replicate 29 (Value.bool false)).set 21 (.bool true)).toArray
def swV : Value := .agg #[.int .u64 3, .int .u32 20, .int .u64 4, .int .u16 0, .int .u16 0]
def swT : Value := .agg #[.int .i64 0, .int .i64 20, .int .i64 2, .int .i64 15]
theorem sw_bt (w : World) : (Instr.build 24 #[(1, .int .i64 20), (2, .int .i64 2), (3, .int .i64 15)]).run Try.prog w = .ok swT w := by kernel_rfl
theorem sw_bv (w : World) : (Instr.build 28 #[(0, .int .u64 3), (1, .int .u32 20), (2, .int .u64 4)]).run Try.prog w = .ok swV w := by kernel_rfl
theorem sw_bf : Try.prog.built 47 [(21, .bool true)] = some ((List.replicate 29 (Value.bool false)).set 21 (.bool true)).toArray := by kernel_rfl
theorem sw_b0 : Try.prog.built 51 [(0, .int .u16 1), (14, .int .i64 1), (8, swF)] = some swA.toArray := by kernel_rfl
theorem sw_b1 : Try.prog.built 51 [(0, .int .u16 2), (1, .int .u32 10), (14, .int .i64 3), (10, swV)] = some swC.toArray := by kernel_rfl
theorem sw_b2 : Instr.fill (fun i => some (i * 89, 89)) ((Array.range (2 * 89)).map (PZ[· % PZ.size]!)) [(0, .agg swA.toArray), (1, .agg swC.toArray)] = some (swA ++ swC).toArray := by kernel_rfl
theorem sw_b3 (b : Nat) : Try.prog.built 33 [(0, .int .u64 5), (2, swT), (7, Value.slice (some ⟨b, 0, none⟩) 2 2)] = some (swH ++ [Value.slice (some ⟨b, 0, none⟩) 2 2, Value.slice none 0 0, Value.slice none 0 0]).toArray := by kernel_rfl
theorem sw_root : (rootF swB swB.np).cells = #[.int .u64 3, .int .u32 30, .int .u64 4, .int .u16 0, .int .u16 2] ∧ (rootF swB swB.np).at_ = 1 := ⟨by kernel_rfl, by kernel_rfl⟩
def swZ : Br := (selF swB).2
theorem sw_sel : selF swB = (true, swZ) := by kernel_rfl
theorem sw_np : swZ.np = 2 := by kernel_rfl
theorem sw_c17 : swZ.hd.length = 17 := by kernel_rfl
theorem sw_88 : swZ.ps[88]? = some (.int .i64 4) := by kernel_rfl
theorem sw_177 : swZ.ps[177]? = some (.int .i64 3) := by kernel_rfl
theorem sw_50 : swZ.ps[50]? = some (.bool true) := by kernel_rfl
theorem sw_12 : swZ.hd[12]? = some (.int .i64 1) := by kernel_rfl
theorem sw_age : ∀ k, k < swB.np → 0 ≤ swB.gi k 78 ∧ swB.gi k 78 ≤ 65535 := fun k hk => by
  rcases (show k = 0 ∨ k = 1 by have : k < 2 := hk; omega) with rfl | rfl <;> decide +kernel

set_option maxRecDepth 100000 in
set_option maxHeartbeats 2000000 in
theorem sel_awake (w : World) : Calls Try.prog 28 #[] w fun e w' => e = .returned (.bool true) ∧ Ext w w' := by
  have hmz := sw_b3 w.heap.size
  obtain ⟨C, hC⟩ : ∃ C, (swH ++ [Value.slice (some ⟨w.heap.size, 0, none⟩) 2 2, Value.slice none 0 0, Value.slice none 0 0]).toArray = C := ⟨_, rfl⟩
  rw [hC] at hmz
  have HM := Lib.hid hmz
  have hCz : C.size = 20 := by rw [← hC]; rfl
  have hCo : C.toList.all (·.oneCell') = true := by rw [← hC]; rfl
  have hCi := Lib.hid (show (Try.prog.info? 33).map (·.size) = some C.size by rw [hCz]; exact size_br)
  have HCz := Lib.hid (size_z20.trans hCz.symm)
  have HCo := Lib.hid hCo
  have HC := Lib.hid hC
  clear hC hCz hCo hmz
  have hbt := sw_bt
  have hbv := sw_bv
  have hzv := zero_vec
  have hB0 := two_ports (w := w) sw_len HC.out.symm
  obtain ⟨Cr, hCr, hCb, hCrz⟩ := hB0.br (show 0 < 2 by decide)
  have HCi2 := Lib.hid (show (Try.prog.info? 33).map (·.size) = some Cr.size by rw [hCrz]; exact size_br)
  have HCr := Lib.hid hCr
  have HCb := Lib.hid (show BrC _ Cr swB from hCb)
  have HG := Lib.hid (show BrG _ _ _ _ swB from hB0)
  have HE := Lib.hid (show Ext w ((w.alloc (.cells (swA ++ swC).toArray 51)).alloc (.cells C 33)) from ((Ext.refl w).alloc _).alloc _)
  have HSZ := Lib.hid (show ((w.alloc (.cells (swA ++ swC).toArray 51)).alloc (.cells C 33)).heap.size = w.heap.size + 2 by simp)
  clear hB0 hCr hCb hCrz
  go_enter Try.func28, Try.ntmps28
  go_wp2_with (first
    | fail
    | ((with_reducible refine at_build 47 ?_); refine wpList_build2 rfl 47 _ rfl [(21, .bool true)] rfl _ sw_bf ?_)
    | ((with_reducible refine at_build 51 ?_); refine wpList_build2 rfl 51 _ rfl [(0, .int .u16 1), (14, .int .i64 1), (8, swF)] rfl _ sw_b0 ?_)
    | ((with_reducible refine at_build 51 ?_); refine wpList_build2 rfl 51 _ rfl [(0, .int .u16 2), (1, .int .u32 10), (14, .int .i64 3), (10, swV)] rfl _ sw_b1 ?_)
    | ((with_reducible refine at_slice 29 ?_); refine wpList_slice2 rfl _ rfl [(0, .agg swA.toArray), (1, .agg swC.toArray)] rfl _ sw_b2 ?_)
    | ((with_reducible refine at_build 33 ?_); refine wpList_build2 rfl 33 _ rfl [(0, .int .u64 5), (2, swT), (7, Value.slice (some ⟨w.heap.size, 0, none⟩) 2 2)] rfl C HM.out ?_)
    | ((with_reducible refine at_store 33 ?_); refine wpList_store_new2 rfl rfl 33 _ _ _ rfl _ C _ rfl ?_ rfl hCi.out HCz.out HCo.out ?_; · simp)
    | ((with_reducible refine at_load 33 ?_); refine wpList_load_row rfl 33 _ rfl (w.heap.size + 1) rfl 33 Cr (0, 0) _ HCr.out Try.underlying33 rfl HCi2.out ?_))
  generalize (w.alloc (.cells (swA ++ swC).toArray 51)).alloc (.cells C 33) = z0 at *
  refine (root_any Cr swB _ HCb.out swB_ok (by decide)).mono ?_
  rintro e z1 ⟨rfl, hx⟩
  rw [sw_root.1, sw_root.2]
  have HG1 := Lib.hid (HG.out.ext hx)
  have HE1 := Lib.hid (HE.out.trans hx)
  have HS1 := Lib.hid (show w.heap.size + 2 ≤ z1.heap.size by rw [← HSZ.out]; exact hx.size)
  clear hx
  go_wp2_with (first
    | fail
    | ((with_reducible refine at_alloc 28 ?_); refine al_zero rfl 28 rfl VZ zero_vec ?_
       intro V0 z2 hq hs hx
       have HV2 := Lib.hid hq
       have HG2 := Lib.hid (HG1.out.ext hx)
       have HE2 := Lib.hid (HE1.out.trans hx)
       have hV0 : w.heap.size + 2 ≤ V0 := by have := HS1.out; omega
       clear hq hs hx)
    | ((with_reducible refine at_store 28 ?_); refine st_at rfl rfl 28 _ _ rfl V0 0 _ #[.int .u64 3, .int .u32 30, .int .u64 4, .int .u16 0, .int .u16 2] _ #[.int .u64 3, .int .u32 30, .int .u64 4, .int .u16 0, .int .u16 2] _ rfl rfl rfl HV2.out (by exact (by decide : 0 + 5 ≤ 5)) (by kernel_rfl) rfl rfl ?_
       intro z3 hq hm
       have HV3 := Lib.hid hq
       have HG3 := Lib.hid (HG2.out.apart hm (fun n hn h1 h2 => by have h3 : n = V0 := h2; have := h1.2; omega))
       have HE3 := Lib.hid (Ext.mutE HE2.out hm (fun n hn h => by have h2 : n = V0 := h; omega))
       clear hq hm))
  refine (sel_step _ _ (w.heap.size + 1) w.heap.size swB HG3.out swB_ok (by decide) (by decide) sw_age).mono ?_
  rw [sw_sel]
  rintro e z4 ⟨he, hB, hm⟩
  obtain rfl : e = .returned (.bool true) := he
  have hE4 := HE3.out.mutE hm (fun n hn h1 => by have := h1.1; omega)
  have hV4 := (hm.heap (heap_lt HV3.out) (fun h1 => by have := h1.2; omega)).trans HV3.out
  have v0 : z4.cell? ⟨V0, 0, none⟩ = some (.int .u64 3) := (cell_of_row _ _ _ _ _ _ hV4).trans rfl
  have v1 : z4.cell? ⟨V0, 1, none⟩ = some (.int .u32 30) := (cell_of_row _ _ _ _ _ _ hV4).trans rfl
  have hB2 : BrG z4 _ (w.heap.size + 1) w.heap.size swZ := hB
  have hlt := hB2.lt
  obtain ⟨h1, h2, cap, cur, s2, s3, aX, ag, r1, r2, r3, r4, -⟩ := hB2
  have d17 : z4.cell? ⟨w.heap.size + 1, 17, none⟩ = some (.slice (some ⟨w.heap.size, 0, none⟩) 2 cap) := by
    rw [cell_of_row _ _ _ _ _ _ aX]
    simp [sw_c17, sw_np]
  have d12 : z4.cell? ⟨w.heap.size + 1, 12, none⟩ = some (.int .i64 1) := by
    rw [cell_of_row _ _ _ _ _ _ aX]
    have := sw_12
    simp only [List.getElem?_toArray]
    rw [List.getElem?_append_left (by rw [sw_c17]; decide)]
    exact this
  have cg : ∀ j v, j < 178 → swZ.ps[j]? = some v → z4.cell? ⟨w.heap.size, j, none⟩ = some v := fun j v hj hv => by
    rw [cell_of_row _ _ _ _ _ _ ag]
    rw [← r4, List.getElem?_take] at hv
    split at hv
    · simpa using hv
    · cases hv
  have p88 := cg 88 _ (by decide) sw_88
  have p177 := cg 177 _ (by decide) sw_177
  have p50 := cg 50 _ (by decide) sw_50
  rw [sw_np] at r2
  clear hB hm h1 h2 aX ag r1 r3 r4 cg hV4
  go_wp2_with fail
  go_ret
  exact ⟨rfl, hE4⟩

end Go.Proofs.Ythfoacgdkoijeaa
