/- What bytes are as a frame, by the program. No statement is proved here. -/
import Derived.Test.YtdfaagchlnkpnaaLlC
import Derived.Test.YtdfaagchlnkpnaaHeldZ
namespace Go.Proofs.Ytdfaagchlnkpnaa
open Go.RowKit Go.BigFrame Go.WideShapes Go.ChangeShapes Go.Deep
set_option linter.unusedVariables false
set_option linter.unusedSimpArgs false

/-- What bytes are as a frame: who sent it, the message, what is wrong. -/
def openF (xs : List Int) : Int × Mg × Int :=
  if xs.length < 17 then (0, Mg.zero, 2)
  else if num (xs.take 6) ≠ 1652522221568 ∨ num ((xs.drop 14).take 3) ≠ 4342275 ∨ 14 + num ((xs.drop 12).take 2) < 17 ∨ (xs.length : Int) < 14 + num ((xs.drop 12).take 2) then (0, Mg.zero, 3)
  else if (decF ((xs.drop 17).take (num ((xs.drop 12).take 2) - 3).toNat)).2 ≠ 0 then (0, Mg.zero, (decF ((xs.drop 17).take (num ((xs.drop 12).take 2) - 3).toNat)).2)
  else (num ((xs.drop 6).take 6), (decF ((xs.drop 17).take (num ((xs.drop 12).take 2) - 3).toNat)).1, 0)
theorem results_tct {P : Program} {fn : Func} {a p u : Tmp} {ty : TypeId} (h : fn.results = #[.tmp a, .cell p ty, .tmp u]) (tmps : Array Value) (w : World) (g : Nat) (t : TypeId) (cs : Array Value) (fr : Nat × Nat) (d : TypeDesc)
    (hp : tmps.getD p undef = .pointer (some ⟨g, 0, none⟩)) (hg : w.heap[g]? = some (.cells cs t fr))
    (hu : P.underlying ty = some d) (hd : (match d with | .struct _ | .array _ _ => true | _ => false) = true) (hi : (P.info? ty).map (·.size) = some cs.size) :
    (results fn tmps).run P w = .ok (.tuple #[tmps.getD a undef, .agg cs, tmps.getD u undef]) w := by
  have hp' : tmps[p]?.getD undef = .pointer (some ⟨g, 0, none⟩) := by simpa using hp
  simp only [results, h]
  simp [Sem.run_bind, Result.andThen, hp', asAddr, run_loadVar_row w g t ty cs fr d hg hu hd hi]
/-- A piece of a row of integers. -/
theorem sub_ints {w : World} {b off n cap : Nat} {xs : List Int} (h : IsInts w .u8 (.slice (some ⟨b, off, none⟩) n cap) xs) (hn : xs.length = n) (h17 : 0 < n) (lo k : Nat) (h1 : 0 < k) (h2 : lo + k ≤ n) :
    IsInts w .u8 (.slice (some ⟨b, off + lo, none⟩) k k) ((xs.drop lo).take k) := by
  rcases h with ⟨rfl, _⟩ | ⟨b', off', cap', he, g0, g1, g2, g3, g4⟩
  · simp at hn; omega
  · injection he with e1 e2 e3
    injection e1 with e1
    injection e1 with e1 e4 e5
    subst e1 e4 e3
    have hl : ((xs.drop lo).take k).length = k := by simp; omega
    refine .inr ⟨b, off + lo, k, by rw [hl], by omega, by omega, by unfold maxLen at *; omega, g3, fun i hi => ?_⟩
    rw [hl] at hi
    rw [show off + lo + i = off + (lo + i) by omega, g4 (lo + i) (by omega)]
    simp [List.getD, List.getElem?_take, hi]
theorem sub_ints0 {w : World} {b off n cap : Nat} {xs : List Int} (h : IsInts w .u8 (.slice (some ⟨b, off, none⟩) n cap) xs) (hn : xs.length = n) (h17 : 0 < n) (k : Nat) (h1 : 0 < k) (h2 : k ≤ n) :
    IsInts w .u8 (.slice (some ⟨b, off, none⟩) k k) (xs.take k) := by
  have := sub_ints h hn h17 0 k h1 (by omega)
  simpa using this
set_option maxRecDepth 100000 in
set_option maxHeartbeats 2000000 in
theorem open_short (v : Value) (xs : List Int) (w : World) (h : IsInts w .u8 v xs) (h4 : xs.length < 17) : Calls Try.prog 25 #[v] w fun e w' => e = .returned (.tuple #[.int .u64 0, .agg #[.int .i64 Mg.zero.kd, .bool Mg.zero.ch, .bool Mg.zero.ak, .bool Mg.zero.pr, .bool Mg.zero.ag, .bool Mg.zero.ln, .bool Mg.zero.fw, .int .i64 Mg.zero.ro, .int .u64 Mg.zero.r, .int .u32 Mg.zero.c, .int .u64 Mg.zero.b, .int .u16 Mg.zero.p, .int .u16 Mg.zero.x, .int .i64 Mg.zero.a, .int .i64 Mg.zero.m, .int .i64 Mg.zero.h, .int .i64 Mg.zero.d], .int .i64 2]) ∧ Ext w w' := by
  obtain ⟨av, cv, hv, -, -⟩ := h.form
  obtain ⟨n, hn⟩ : ∃ n, xs.length = n := ⟨_, rfl⟩
  rw [hn] at hv h4
  subst hv
  clear hn
  have hz := zero_msg
  have hbz := zero_msg
  go_enter Try.func25, Try.ntmps25
  go_wp2_with (first
    | fail
    | ((with_reducible refine at_alloc 30 ?_); refine al_zero rfl 30 rfl MZ zero_msg ?_
       intro R0 z1 hq hs hx
       have E_z1 : Ext w z1 := hx
       have hR_z1 : z1.heap[R0]? = some (.cells #[.int .i64 0, .bool false, .bool false, .bool false, .bool false, .bool false, .bool false, .int .i64 0, .int .u64 0, .int .u32 0, .int .u64 0, .int .u16 0, .int .u16 0, .int .i64 0, .int .i64 0, .int .i64 0, .int .i64 0] 30 (0, 0)) := hq
       have hb_R0 : w.heap.size ≤ R0 := by omega
       clear hq hs hx)
    | ((with_reducible refine at_store 30 ?_); refine st_at rfl rfl 30 _ _ rfl R0 0 _ #[.int .i64 0, .bool false, .bool false, .bool false, .bool false, .bool false, .bool false, .int .i64 0, .int .u64 0, .int .u32 0, .int .u64 0, .int .u16 0, .int .u16 0, .int .i64 0, .int .i64 0, .int .i64 0, .int .i64 0] _ #[.int .i64 0, .bool false, .bool false, .bool false, .bool false, .bool false, .bool false, .int .i64 0, .int .u64 0, .int .u32 0, .int .u64 0, .int .u16 0, .int .u16 0, .int .i64 0, .int .i64 0, .int .i64 0, .int .i64 0] _ rfl rfl rfl hR_z1 (by exact (by decide : 0 + 17 ≤ 17)) (by kernel_rfl) rfl rfl ?_
       intro z2 hq hm
       have hR_z2 : z2.heap[R0]? = some (.cells #[.int .i64 0, .bool false, .bool false, .bool false, .bool false, .bool false, .bool false, .int .i64 0, .int .u64 0, .int .u32 0, .int .u64 0, .int .u16 0, .int .u16 0, .int .i64 0, .int .i64 0, .int .i64 0, .int .i64 0] 30 (0, 0)) := hq
       have E_z2 : Ext w z2 := Ext.mutE E_z1 hm (fun n hn h => by have h2 : n = R0 := h; omega)
       clear hR_z1 E_z1
       clear hq hm))
  refine bodyPost_ret (results_tct rfl _ _ _ _ _ (0, 0) _ rfl hR_z2 Try.underlying30 rfl (by kernel_rfl)) rfl ?_
  refine ⟨?_, E_z2⟩
  rfl
set_option maxRecDepth 100000 in
set_option maxHeartbeats 2000000 in
theorem open_form1 (B o n cap : Nat) (xs : List Int) (w : World) (h : IsInts w .u8 (.slice (some ⟨B, o, none⟩) n cap) xs) (hx : ∀ x ∈ xs, 0 ≤ x ∧ x < 256) (hn0 : xs.length = n) (h4 : 17 ≤ n) (hl : n ≤ 100000) (hc : n ≤ cap) (hm : cap ≤ 9223372036854775807) (g l m : Int) (hg0 : num (xs.take 6) = g) (hl0 : num ((xs.drop 14).take 3) = l) (hm0 : num ((xs.drop 12).take 2) = m) (hm1 : 0 ≤ m ∧ m < 65536) (h1 : (g != 1652522221568) = true) : Calls Try.prog 25 #[.slice (some ⟨B, o, none⟩) n cap] w fun e w' => e = .returned (.tuple #[.int .u64 0, .agg #[.int .i64 Mg.zero.kd, .bool Mg.zero.ch, .bool Mg.zero.ak, .bool Mg.zero.pr, .bool Mg.zero.ag, .bool Mg.zero.ln, .bool Mg.zero.fw, .int .i64 Mg.zero.ro, .int .u64 Mg.zero.r, .int .u32 Mg.zero.c, .int .u64 Mg.zero.b, .int .u16 Mg.zero.p, .int .u16 Mg.zero.x, .int .i64 Mg.zero.a, .int .i64 Mg.zero.m, .int .i64 Mg.zero.h, .int .i64 Mg.zero.d], .int .i64 3]) ∧ Ext w w' := by
  have HN := Lib.hid hn0
  have HG := Lib.hid hg0
  have HL := Lib.hid hl0
  have HM := Lib.hid hm0
  clear hn0 hg0 hl0 hm0
  have hz := zero_msg
  have hbz := zero_msg
  have hm65 := hm1.2
  have hm00 := hm1.1
  go_enter Try.func25, Try.ntmps25
  go_wp2_with (first
    | fail
    | ((with_reducible refine at_alloc 30 ?_); refine al_zero rfl 30 rfl MZ zero_msg ?_
       intro R0 z1 hq hs hx
       have E_z1 : Ext w z1 := hx
       have hR_z1 : z1.heap[R0]? = some (.cells #[.int .i64 0, .bool false, .bool false, .bool false, .bool false, .bool false, .bool false, .int .i64 0, .int .u64 0, .int .u32 0, .int .u64 0, .int .u16 0, .int .u16 0, .int .i64 0, .int .i64 0, .int .i64 0, .int .i64 0] 30 (0, 0)) := hq
       have hb_R0 : w.heap.size ≤ R0 := by omega
       clear hq hs hx))
  refine (num_any _ ((xs.drop 12).take 2) _ (((sub_ints h HN.out (by omega) 12 2 (by omega) (by omega))).ext E_z1) (fun x hx2 => hx x (List.mem_of_mem_drop (List.mem_of_mem_take hx2))) (by have := HN.out; simp; omega) (by have := HN.out; simp; omega)).mono ?_
  rintro e z2 ⟨rfl, hx⟩
  have E_z2 : Ext w z2 := E_z1.trans hx
  have hR_z2 : z2.heap[R0]? = some (.cells #[.int .i64 0, .bool false, .bool false, .bool false, .bool false, .bool false, .bool false, .int .i64 0, .int .u64 0, .int .u32 0, .int .u64 0, .int .u16 0, .int .u16 0, .int .i64 0, .int .i64 0, .int .i64 0, .int .i64 0] 30 (0, 0)) := (hx.block _ (heap_lt hR_z1)).trans hR_z1
  clear hR_z1 E_z1
  clear hx
  rw [HM.out]
  go_wp2_with fail
  refine (num_any _ (xs.take 6) _ (((sub_ints0 h HN.out (by omega) 6 (by omega) (by omega))).ext E_z2) (fun x hx2 => hx x (List.mem_of_mem_take hx2)) (by have := HN.out; simp; omega) (by have := HN.out; simp; omega)).mono ?_
  rintro e z3 ⟨rfl, hx⟩
  have E_z3 : Ext w z3 := E_z2.trans hx
  have hR_z3 : z3.heap[R0]? = some (.cells #[.int .i64 0, .bool false, .bool false, .bool false, .bool false, .bool false, .bool false, .int .i64 0, .int .u64 0, .int .u32 0, .int .u64 0, .int .u16 0, .int .u16 0, .int .i64 0, .int .i64 0, .int .i64 0, .int .i64 0] 30 (0, 0)) := (hx.block _ (heap_lt hR_z2)).trans hR_z2
  clear hR_z2 E_z2
  clear hx
  rw [HG.out]
  go_wp2_with (first
    | fail
    | ((with_reducible refine at_store 30 ?_); refine st_at rfl rfl 30 _ _ rfl R0 0 _ #[.int .i64 0, .bool false, .bool false, .bool false, .bool false, .bool false, .bool false, .int .i64 0, .int .u64 0, .int .u32 0, .int .u64 0, .int .u16 0, .int .u16 0, .int .i64 0, .int .i64 0, .int .i64 0, .int .i64 0] _ #[.int .i64 0, .bool false, .bool false, .bool false, .bool false, .bool false, .bool false, .int .i64 0, .int .u64 0, .int .u32 0, .int .u64 0, .int .u16 0, .int .u16 0, .int .i64 0, .int .i64 0, .int .i64 0, .int .i64 0] _ rfl rfl rfl hR_z3 (by exact (by decide : 0 + 17 ≤ 17)) (by kernel_rfl) rfl rfl ?_
       intro z4 hq hm
       have hR_z4 : z4.heap[R0]? = some (.cells #[.int .i64 0, .bool false, .bool false, .bool false, .bool false, .bool false, .bool false, .int .i64 0, .int .u64 0, .int .u32 0, .int .u64 0, .int .u16 0, .int .u16 0, .int .i64 0, .int .i64 0, .int .i64 0, .int .i64 0] 30 (0, 0)) := hq
       have E_z4 : Ext w z4 := Ext.mutE E_z3 hm (fun n hn h => by have h2 : n = R0 := h; omega)
       clear hR_z3 E_z3
       clear hq hm))
  refine bodyPost_ret (results_tct rfl _ _ _ _ _ (0, 0) _ rfl hR_z4 Try.underlying30 rfl (by kernel_rfl)) rfl ?_
  refine ⟨?_, E_z4⟩
  rfl
set_option maxRecDepth 100000 in
set_option maxHeartbeats 2000000 in
theorem open_form2 (B o n cap : Nat) (xs : List Int) (w : World) (h : IsInts w .u8 (.slice (some ⟨B, o, none⟩) n cap) xs) (hx : ∀ x ∈ xs, 0 ≤ x ∧ x < 256) (hn0 : xs.length = n) (h4 : 17 ≤ n) (hl : n ≤ 100000) (hc : n ≤ cap) (hm : cap ≤ 9223372036854775807) (g l m : Int) (hg0 : num (xs.take 6) = g) (hl0 : num ((xs.drop 14).take 3) = l) (hm0 : num ((xs.drop 12).take 2) = m) (hm1 : 0 ≤ m ∧ m < 65536) (h1 : (g != 1652522221568) = false) (h2 : (l != 4342275) = true) : Calls Try.prog 25 #[.slice (some ⟨B, o, none⟩) n cap] w fun e w' => e = .returned (.tuple #[.int .u64 0, .agg #[.int .i64 Mg.zero.kd, .bool Mg.zero.ch, .bool Mg.zero.ak, .bool Mg.zero.pr, .bool Mg.zero.ag, .bool Mg.zero.ln, .bool Mg.zero.fw, .int .i64 Mg.zero.ro, .int .u64 Mg.zero.r, .int .u32 Mg.zero.c, .int .u64 Mg.zero.b, .int .u16 Mg.zero.p, .int .u16 Mg.zero.x, .int .i64 Mg.zero.a, .int .i64 Mg.zero.m, .int .i64 Mg.zero.h, .int .i64 Mg.zero.d], .int .i64 3]) ∧ Ext w w' := by
  have HN := Lib.hid hn0
  have HG := Lib.hid hg0
  have HL := Lib.hid hl0
  have HM := Lib.hid hm0
  clear hn0 hg0 hl0 hm0
  have hz := zero_msg
  have hbz := zero_msg
  have hm65 := hm1.2
  have hm00 := hm1.1
  go_enter Try.func25, Try.ntmps25
  go_wp2_with (first
    | fail
    | ((with_reducible refine at_alloc 30 ?_); refine al_zero rfl 30 rfl MZ zero_msg ?_
       intro R0 z1 hq hs hx
       have E_z1 : Ext w z1 := hx
       have hR_z1 : z1.heap[R0]? = some (.cells #[.int .i64 0, .bool false, .bool false, .bool false, .bool false, .bool false, .bool false, .int .i64 0, .int .u64 0, .int .u32 0, .int .u64 0, .int .u16 0, .int .u16 0, .int .i64 0, .int .i64 0, .int .i64 0, .int .i64 0] 30 (0, 0)) := hq
       have hb_R0 : w.heap.size ≤ R0 := by omega
       clear hq hs hx))
  refine (num_any _ ((xs.drop 12).take 2) _ (((sub_ints h HN.out (by omega) 12 2 (by omega) (by omega))).ext E_z1) (fun x hx2 => hx x (List.mem_of_mem_drop (List.mem_of_mem_take hx2))) (by have := HN.out; simp; omega) (by have := HN.out; simp; omega)).mono ?_
  rintro e z2 ⟨rfl, hx⟩
  have E_z2 : Ext w z2 := E_z1.trans hx
  have hR_z2 : z2.heap[R0]? = some (.cells #[.int .i64 0, .bool false, .bool false, .bool false, .bool false, .bool false, .bool false, .int .i64 0, .int .u64 0, .int .u32 0, .int .u64 0, .int .u16 0, .int .u16 0, .int .i64 0, .int .i64 0, .int .i64 0, .int .i64 0] 30 (0, 0)) := (hx.block _ (heap_lt hR_z1)).trans hR_z1
  clear hR_z1 E_z1
  clear hx
  rw [HM.out]
  go_wp2_with fail
  refine (num_any _ (xs.take 6) _ (((sub_ints0 h HN.out (by omega) 6 (by omega) (by omega))).ext E_z2) (fun x hx2 => hx x (List.mem_of_mem_take hx2)) (by have := HN.out; simp; omega) (by have := HN.out; simp; omega)).mono ?_
  rintro e z3 ⟨rfl, hx⟩
  have E_z3 : Ext w z3 := E_z2.trans hx
  have hR_z3 : z3.heap[R0]? = some (.cells #[.int .i64 0, .bool false, .bool false, .bool false, .bool false, .bool false, .bool false, .int .i64 0, .int .u64 0, .int .u32 0, .int .u64 0, .int .u16 0, .int .u16 0, .int .i64 0, .int .i64 0, .int .i64 0, .int .i64 0] 30 (0, 0)) := (hx.block _ (heap_lt hR_z2)).trans hR_z2
  clear hR_z2 E_z2
  clear hx
  rw [HG.out]
  go_wp2_with fail
  refine (num_any _ ((xs.drop 14).take 3) _ (((sub_ints h HN.out (by omega) 14 3 (by omega) (by omega))).ext E_z3) (fun x hx2 => hx x (List.mem_of_mem_drop (List.mem_of_mem_take hx2))) (by have := HN.out; simp; omega) (by have := HN.out; simp; omega)).mono ?_
  rintro e z4 ⟨rfl, hx⟩
  have E_z4 : Ext w z4 := E_z3.trans hx
  have hR_z4 : z4.heap[R0]? = some (.cells #[.int .i64 0, .bool false, .bool false, .bool false, .bool false, .bool false, .bool false, .int .i64 0, .int .u64 0, .int .u32 0, .int .u64 0, .int .u16 0, .int .u16 0, .int .i64 0, .int .i64 0, .int .i64 0, .int .i64 0] 30 (0, 0)) := (hx.block _ (heap_lt hR_z3)).trans hR_z3
  clear hR_z3 E_z3
  clear hx
  rw [HL.out]
  go_wp2_with (first
    | fail
    | ((with_reducible refine at_store 30 ?_); refine st_at rfl rfl 30 _ _ rfl R0 0 _ #[.int .i64 0, .bool false, .bool false, .bool false, .bool false, .bool false, .bool false, .int .i64 0, .int .u64 0, .int .u32 0, .int .u64 0, .int .u16 0, .int .u16 0, .int .i64 0, .int .i64 0, .int .i64 0, .int .i64 0] _ #[.int .i64 0, .bool false, .bool false, .bool false, .bool false, .bool false, .bool false, .int .i64 0, .int .u64 0, .int .u32 0, .int .u64 0, .int .u16 0, .int .u16 0, .int .i64 0, .int .i64 0, .int .i64 0, .int .i64 0] _ rfl rfl rfl hR_z4 (by exact (by decide : 0 + 17 ≤ 17)) (by kernel_rfl) rfl rfl ?_
       intro z5 hq hm
       have hR_z5 : z5.heap[R0]? = some (.cells #[.int .i64 0, .bool false, .bool false, .bool false, .bool false, .bool false, .bool false, .int .i64 0, .int .u64 0, .int .u32 0, .int .u64 0, .int .u16 0, .int .u16 0, .int .i64 0, .int .i64 0, .int .i64 0, .int .i64 0] 30 (0, 0)) := hq
       have E_z5 : Ext w z5 := Ext.mutE E_z4 hm (fun n hn h => by have h2 : n = R0 := h; omega)
       clear hR_z4 E_z4
       clear hq hm))
  refine bodyPost_ret (results_tct rfl _ _ _ _ _ (0, 0) _ rfl hR_z5 Try.underlying30 rfl (by kernel_rfl)) rfl ?_
  refine ⟨?_, E_z5⟩
  rfl
set_option maxRecDepth 100000 in
set_option maxHeartbeats 2000000 in
theorem open_form3 (B o n cap : Nat) (xs : List Int) (w : World) (h : IsInts w .u8 (.slice (some ⟨B, o, none⟩) n cap) xs) (hx : ∀ x ∈ xs, 0 ≤ x ∧ x < 256) (hn0 : xs.length = n) (h4 : 17 ≤ n) (hl : n ≤ 100000) (hc : n ≤ cap) (hm : cap ≤ 9223372036854775807) (g l m : Int) (hg0 : num (xs.take 6) = g) (hl0 : num ((xs.drop 14).take 3) = l) (hm0 : num ((xs.drop 12).take 2) = m) (hm1 : 0 ≤ m ∧ m < 65536) (h1 : (g != 1652522221568) = false) (h2 : (l != 4342275) = false) (h3 : decide (14 + m < 17) = true) : Calls Try.prog 25 #[.slice (some ⟨B, o, none⟩) n cap] w fun e w' => e = .returned (.tuple #[.int .u64 0, .agg #[.int .i64 Mg.zero.kd, .bool Mg.zero.ch, .bool Mg.zero.ak, .bool Mg.zero.pr, .bool Mg.zero.ag, .bool Mg.zero.ln, .bool Mg.zero.fw, .int .i64 Mg.zero.ro, .int .u64 Mg.zero.r, .int .u32 Mg.zero.c, .int .u64 Mg.zero.b, .int .u16 Mg.zero.p, .int .u16 Mg.zero.x, .int .i64 Mg.zero.a, .int .i64 Mg.zero.m, .int .i64 Mg.zero.h, .int .i64 Mg.zero.d], .int .i64 3]) ∧ Ext w w' := by
  have HN := Lib.hid hn0
  have HG := Lib.hid hg0
  have HL := Lib.hid hl0
  have HM := Lib.hid hm0
  clear hn0 hg0 hl0 hm0
  have hz := zero_msg
  have hbz := zero_msg
  have hm65 := hm1.2
  have hm00 := hm1.1
  go_enter Try.func25, Try.ntmps25
  go_wp2_with (first
    | fail
    | ((with_reducible refine at_alloc 30 ?_); refine al_zero rfl 30 rfl MZ zero_msg ?_
       intro R0 z1 hq hs hx
       have E_z1 : Ext w z1 := hx
       have hR_z1 : z1.heap[R0]? = some (.cells #[.int .i64 0, .bool false, .bool false, .bool false, .bool false, .bool false, .bool false, .int .i64 0, .int .u64 0, .int .u32 0, .int .u64 0, .int .u16 0, .int .u16 0, .int .i64 0, .int .i64 0, .int .i64 0, .int .i64 0] 30 (0, 0)) := hq
       have hb_R0 : w.heap.size ≤ R0 := by omega
       clear hq hs hx))
  refine (num_any _ ((xs.drop 12).take 2) _ (((sub_ints h HN.out (by omega) 12 2 (by omega) (by omega))).ext E_z1) (fun x hx2 => hx x (List.mem_of_mem_drop (List.mem_of_mem_take hx2))) (by have := HN.out; simp; omega) (by have := HN.out; simp; omega)).mono ?_
  rintro e z2 ⟨rfl, hx⟩
  have E_z2 : Ext w z2 := E_z1.trans hx
  have hR_z2 : z2.heap[R0]? = some (.cells #[.int .i64 0, .bool false, .bool false, .bool false, .bool false, .bool false, .bool false, .int .i64 0, .int .u64 0, .int .u32 0, .int .u64 0, .int .u16 0, .int .u16 0, .int .i64 0, .int .i64 0, .int .i64 0, .int .i64 0] 30 (0, 0)) := (hx.block _ (heap_lt hR_z1)).trans hR_z1
  clear hR_z1 E_z1
  clear hx
  rw [HM.out]
  go_wp2_with fail
  refine (num_any _ (xs.take 6) _ (((sub_ints0 h HN.out (by omega) 6 (by omega) (by omega))).ext E_z2) (fun x hx2 => hx x (List.mem_of_mem_take hx2)) (by have := HN.out; simp; omega) (by have := HN.out; simp; omega)).mono ?_
  rintro e z3 ⟨rfl, hx⟩
  have E_z3 : Ext w z3 := E_z2.trans hx
  have hR_z3 : z3.heap[R0]? = some (.cells #[.int .i64 0, .bool false, .bool false, .bool false, .bool false, .bool false, .bool false, .int .i64 0, .int .u64 0, .int .u32 0, .int .u64 0, .int .u16 0, .int .u16 0, .int .i64 0, .int .i64 0, .int .i64 0, .int .i64 0] 30 (0, 0)) := (hx.block _ (heap_lt hR_z2)).trans hR_z2
  clear hR_z2 E_z2
  clear hx
  rw [HG.out]
  go_wp2_with fail
  refine (num_any _ ((xs.drop 14).take 3) _ (((sub_ints h HN.out (by omega) 14 3 (by omega) (by omega))).ext E_z3) (fun x hx2 => hx x (List.mem_of_mem_drop (List.mem_of_mem_take hx2))) (by have := HN.out; simp; omega) (by have := HN.out; simp; omega)).mono ?_
  rintro e z4 ⟨rfl, hx⟩
  have E_z4 : Ext w z4 := E_z3.trans hx
  have hR_z4 : z4.heap[R0]? = some (.cells #[.int .i64 0, .bool false, .bool false, .bool false, .bool false, .bool false, .bool false, .int .i64 0, .int .u64 0, .int .u32 0, .int .u64 0, .int .u16 0, .int .u16 0, .int .i64 0, .int .i64 0, .int .i64 0, .int .i64 0] 30 (0, 0)) := (hx.block _ (heap_lt hR_z3)).trans hR_z3
  clear hR_z3 E_z3
  clear hx
  rw [HL.out]
  go_wp2_with (first
    | fail
    | ((with_reducible refine at_store 30 ?_); refine st_at rfl rfl 30 _ _ rfl R0 0 _ #[.int .i64 0, .bool false, .bool false, .bool false, .bool false, .bool false, .bool false, .int .i64 0, .int .u64 0, .int .u32 0, .int .u64 0, .int .u16 0, .int .u16 0, .int .i64 0, .int .i64 0, .int .i64 0, .int .i64 0] _ #[.int .i64 0, .bool false, .bool false, .bool false, .bool false, .bool false, .bool false, .int .i64 0, .int .u64 0, .int .u32 0, .int .u64 0, .int .u16 0, .int .u16 0, .int .i64 0, .int .i64 0, .int .i64 0, .int .i64 0] _ rfl rfl rfl hR_z4 (by exact (by decide : 0 + 17 ≤ 17)) (by kernel_rfl) rfl rfl ?_
       intro z5 hq hm
       have hR_z5 : z5.heap[R0]? = some (.cells #[.int .i64 0, .bool false, .bool false, .bool false, .bool false, .bool false, .bool false, .int .i64 0, .int .u64 0, .int .u32 0, .int .u64 0, .int .u16 0, .int .u16 0, .int .i64 0, .int .i64 0, .int .i64 0, .int .i64 0] 30 (0, 0)) := hq
       have E_z5 : Ext w z5 := Ext.mutE E_z4 hm (fun n hn h => by have h2 : n = R0 := h; omega)
       clear hR_z4 E_z4
       clear hq hm))
  refine bodyPost_ret (results_tct rfl _ _ _ _ _ (0, 0) _ rfl hR_z5 Try.underlying30 rfl (by kernel_rfl)) rfl ?_
  refine ⟨?_, E_z5⟩
  rfl
set_option maxRecDepth 100000 in
set_option maxHeartbeats 2000000 in
theorem open_form4 (B o n cap : Nat) (xs : List Int) (w : World) (h : IsInts w .u8 (.slice (some ⟨B, o, none⟩) n cap) xs) (hx : ∀ x ∈ xs, 0 ≤ x ∧ x < 256) (hn0 : xs.length = n) (h4 : 17 ≤ n) (hl : n ≤ 100000) (hc : n ≤ cap) (hm : cap ≤ 9223372036854775807) (g l m : Int) (hg0 : num (xs.take 6) = g) (hl0 : num ((xs.drop 14).take 3) = l) (hm0 : num ((xs.drop 12).take 2) = m) (hm1 : 0 ≤ m ∧ m < 65536) (h1 : (g != 1652522221568) = false) (h2 : (l != 4342275) = false) (h3 : decide (14 + m < 17) = false) (h5 : decide (14 + m > (n : Int)) = true) : Calls Try.prog 25 #[.slice (some ⟨B, o, none⟩) n cap] w fun e w' => e = .returned (.tuple #[.int .u64 0, .agg #[.int .i64 Mg.zero.kd, .bool Mg.zero.ch, .bool Mg.zero.ak, .bool Mg.zero.pr, .bool Mg.zero.ag, .bool Mg.zero.ln, .bool Mg.zero.fw, .int .i64 Mg.zero.ro, .int .u64 Mg.zero.r, .int .u32 Mg.zero.c, .int .u64 Mg.zero.b, .int .u16 Mg.zero.p, .int .u16 Mg.zero.x, .int .i64 Mg.zero.a, .int .i64 Mg.zero.m, .int .i64 Mg.zero.h, .int .i64 Mg.zero.d], .int .i64 3]) ∧ Ext w w' := by
  have HN := Lib.hid hn0
  have HG := Lib.hid hg0
  have HL := Lib.hid hl0
  have HM := Lib.hid hm0
  clear hn0 hg0 hl0 hm0
  have hz := zero_msg
  have hbz := zero_msg
  have hm65 := hm1.2
  have hm00 := hm1.1
  go_enter Try.func25, Try.ntmps25
  go_wp2_with (first
    | fail
    | ((with_reducible refine at_alloc 30 ?_); refine al_zero rfl 30 rfl MZ zero_msg ?_
       intro R0 z1 hq hs hx
       have E_z1 : Ext w z1 := hx
       have hR_z1 : z1.heap[R0]? = some (.cells #[.int .i64 0, .bool false, .bool false, .bool false, .bool false, .bool false, .bool false, .int .i64 0, .int .u64 0, .int .u32 0, .int .u64 0, .int .u16 0, .int .u16 0, .int .i64 0, .int .i64 0, .int .i64 0, .int .i64 0] 30 (0, 0)) := hq
       have hb_R0 : w.heap.size ≤ R0 := by omega
       clear hq hs hx))
  refine (num_any _ ((xs.drop 12).take 2) _ (((sub_ints h HN.out (by omega) 12 2 (by omega) (by omega))).ext E_z1) (fun x hx2 => hx x (List.mem_of_mem_drop (List.mem_of_mem_take hx2))) (by have := HN.out; simp; omega) (by have := HN.out; simp; omega)).mono ?_
  rintro e z2 ⟨rfl, hx⟩
  have E_z2 : Ext w z2 := E_z1.trans hx
  have hR_z2 : z2.heap[R0]? = some (.cells #[.int .i64 0, .bool false, .bool false, .bool false, .bool false, .bool false, .bool false, .int .i64 0, .int .u64 0, .int .u32 0, .int .u64 0, .int .u16 0, .int .u16 0, .int .i64 0, .int .i64 0, .int .i64 0, .int .i64 0] 30 (0, 0)) := (hx.block _ (heap_lt hR_z1)).trans hR_z1
  clear hR_z1 E_z1
  clear hx
  rw [HM.out]
  go_wp2_with fail
  refine (num_any _ (xs.take 6) _ (((sub_ints0 h HN.out (by omega) 6 (by omega) (by omega))).ext E_z2) (fun x hx2 => hx x (List.mem_of_mem_take hx2)) (by have := HN.out; simp; omega) (by have := HN.out; simp; omega)).mono ?_
  rintro e z3 ⟨rfl, hx⟩
  have E_z3 : Ext w z3 := E_z2.trans hx
  have hR_z3 : z3.heap[R0]? = some (.cells #[.int .i64 0, .bool false, .bool false, .bool false, .bool false, .bool false, .bool false, .int .i64 0, .int .u64 0, .int .u32 0, .int .u64 0, .int .u16 0, .int .u16 0, .int .i64 0, .int .i64 0, .int .i64 0, .int .i64 0] 30 (0, 0)) := (hx.block _ (heap_lt hR_z2)).trans hR_z2
  clear hR_z2 E_z2
  clear hx
  rw [HG.out]
  go_wp2_with fail
  refine (num_any _ ((xs.drop 14).take 3) _ (((sub_ints h HN.out (by omega) 14 3 (by omega) (by omega))).ext E_z3) (fun x hx2 => hx x (List.mem_of_mem_drop (List.mem_of_mem_take hx2))) (by have := HN.out; simp; omega) (by have := HN.out; simp; omega)).mono ?_
  rintro e z4 ⟨rfl, hx⟩
  have E_z4 : Ext w z4 := E_z3.trans hx
  have hR_z4 : z4.heap[R0]? = some (.cells #[.int .i64 0, .bool false, .bool false, .bool false, .bool false, .bool false, .bool false, .int .i64 0, .int .u64 0, .int .u32 0, .int .u64 0, .int .u16 0, .int .u16 0, .int .i64 0, .int .i64 0, .int .i64 0, .int .i64 0] 30 (0, 0)) := (hx.block _ (heap_lt hR_z3)).trans hR_z3
  clear hR_z3 E_z3
  clear hx
  rw [HL.out]
  go_wp2_with (first
    | fail
    | ((with_reducible refine at_store 30 ?_); refine st_at rfl rfl 30 _ _ rfl R0 0 _ #[.int .i64 0, .bool false, .bool false, .bool false, .bool false, .bool false, .bool false, .int .i64 0, .int .u64 0, .int .u32 0, .int .u64 0, .int .u16 0, .int .u16 0, .int .i64 0, .int .i64 0, .int .i64 0, .int .i64 0] _ #[.int .i64 0, .bool false, .bool false, .bool false, .bool false, .bool false, .bool false, .int .i64 0, .int .u64 0, .int .u32 0, .int .u64 0, .int .u16 0, .int .u16 0, .int .i64 0, .int .i64 0, .int .i64 0, .int .i64 0] _ rfl rfl rfl hR_z4 (by exact (by decide : 0 + 17 ≤ 17)) (by kernel_rfl) rfl rfl ?_
       intro z5 hq hm
       have hR_z5 : z5.heap[R0]? = some (.cells #[.int .i64 0, .bool false, .bool false, .bool false, .bool false, .bool false, .bool false, .int .i64 0, .int .u64 0, .int .u32 0, .int .u64 0, .int .u16 0, .int .u16 0, .int .i64 0, .int .i64 0, .int .i64 0, .int .i64 0] 30 (0, 0)) := hq
       have E_z5 : Ext w z5 := Ext.mutE E_z4 hm (fun n hn h => by have h2 : n = R0 := h; omega)
       clear hR_z4 E_z4
       clear hq hm))
  refine bodyPost_ret (results_tct rfl _ _ _ _ _ (0, 0) _ rfl hR_z5 Try.underlying30 rfl (by kernel_rfl)) rfl ?_
  refine ⟨?_, E_z5⟩
  rfl
set_option maxRecDepth 100000 in
set_option maxHeartbeats 2000000 in
theorem open_none (B o n cap : Nat) (xs : List Int) (w : World) (h : IsInts w .u8 (.slice (some ⟨B, o, none⟩) n cap) xs) (hx : ∀ x ∈ xs, 0 ≤ x ∧ x < 256) (hn0 : xs.length = n) (h4 : 17 ≤ n) (hl : n ≤ 100000) (hc : n ≤ cap) (hm : cap ≤ 9223372036854775807) (g l m : Int) (hg0 : num (xs.take 6) = g) (hl0 : num ((xs.drop 14).take 3) = l) (hm0 : num ((xs.drop 12).take 2) = m) (hm1 : 0 ≤ m ∧ m < 65536) (h1 : (g != 1652522221568) = false) (h2 : (l != 4342275) = false) (h3 : decide (14 + m < 17) = false) (h5 : decide (14 + m > (n : Int)) = false) (q : Mg) (ee : Int) (hd0 : decF [] = (q, ee)) (h6 : (14 + m).toNat = 17) (h7 : (ee != 0) = true) : Calls Try.prog 25 #[.slice (some ⟨B, o, none⟩) n cap] w fun e w' => e = .returned (.tuple #[.int .u64 0, .agg #[.int .i64 Mg.zero.kd, .bool Mg.zero.ch, .bool Mg.zero.ak, .bool Mg.zero.pr, .bool Mg.zero.ag, .bool Mg.zero.ln, .bool Mg.zero.fw, .int .i64 Mg.zero.ro, .int .u64 Mg.zero.r, .int .u32 Mg.zero.c, .int .u64 Mg.zero.b, .int .u16 Mg.zero.p, .int .u16 Mg.zero.x, .int .i64 Mg.zero.a, .int .i64 Mg.zero.m, .int .i64 Mg.zero.h, .int .i64 Mg.zero.d], .int .i64 ee]) ∧ Ext w w' := by
  have HN := Lib.hid hn0
  have HG := Lib.hid hg0
  have HL := Lib.hid hl0
  have HM := Lib.hid hm0
  clear hn0 hg0 hl0 hm0
  have hz := zero_msg
  have hbz := zero_msg
  have hm65 := hm1.2
  have hm00 := hm1.1
  go_enter Try.func25, Try.ntmps25
  go_wp2_with (first
    | fail
    | ((with_reducible refine at_alloc 30 ?_); refine al_zero rfl 30 rfl MZ zero_msg ?_
       intro R0 z1 hq hs hx
       have E_z1 : Ext w z1 := hx
       have hR_z1 : z1.heap[R0]? = some (.cells #[.int .i64 0, .bool false, .bool false, .bool false, .bool false, .bool false, .bool false, .int .i64 0, .int .u64 0, .int .u32 0, .int .u64 0, .int .u16 0, .int .u16 0, .int .i64 0, .int .i64 0, .int .i64 0, .int .i64 0] 30 (0, 0)) := hq
       have hb_R0 : w.heap.size ≤ R0 := by omega
       clear hq hs hx))
  refine (num_any _ ((xs.drop 12).take 2) _ (((sub_ints h HN.out (by omega) 12 2 (by omega) (by omega))).ext E_z1) (fun x hx2 => hx x (List.mem_of_mem_drop (List.mem_of_mem_take hx2))) (by have := HN.out; simp; omega) (by have := HN.out; simp; omega)).mono ?_
  rintro e z2 ⟨rfl, hx⟩
  have E_z2 : Ext w z2 := E_z1.trans hx
  have hR_z2 : z2.heap[R0]? = some (.cells #[.int .i64 0, .bool false, .bool false, .bool false, .bool false, .bool false, .bool false, .int .i64 0, .int .u64 0, .int .u32 0, .int .u64 0, .int .u16 0, .int .u16 0, .int .i64 0, .int .i64 0, .int .i64 0, .int .i64 0] 30 (0, 0)) := (hx.block _ (heap_lt hR_z1)).trans hR_z1
  clear hR_z1 E_z1
  clear hx
  rw [HM.out]
  go_wp2_with fail
  refine (num_any _ (xs.take 6) _ (((sub_ints0 h HN.out (by omega) 6 (by omega) (by omega))).ext E_z2) (fun x hx2 => hx x (List.mem_of_mem_take hx2)) (by have := HN.out; simp; omega) (by have := HN.out; simp; omega)).mono ?_
  rintro e z3 ⟨rfl, hx⟩
  have E_z3 : Ext w z3 := E_z2.trans hx
  have hR_z3 : z3.heap[R0]? = some (.cells #[.int .i64 0, .bool false, .bool false, .bool false, .bool false, .bool false, .bool false, .int .i64 0, .int .u64 0, .int .u32 0, .int .u64 0, .int .u16 0, .int .u16 0, .int .i64 0, .int .i64 0, .int .i64 0, .int .i64 0] 30 (0, 0)) := (hx.block _ (heap_lt hR_z2)).trans hR_z2
  clear hR_z2 E_z2
  clear hx
  rw [HG.out]
  go_wp2_with fail
  refine (num_any _ ((xs.drop 14).take 3) _ (((sub_ints h HN.out (by omega) 14 3 (by omega) (by omega))).ext E_z3) (fun x hx2 => hx x (List.mem_of_mem_drop (List.mem_of_mem_take hx2))) (by have := HN.out; simp; omega) (by have := HN.out; simp; omega)).mono ?_
  rintro e z4 ⟨rfl, hx⟩
  have E_z4 : Ext w z4 := E_z3.trans hx
  have hR_z4 : z4.heap[R0]? = some (.cells #[.int .i64 0, .bool false, .bool false, .bool false, .bool false, .bool false, .bool false, .int .i64 0, .int .u64 0, .int .u32 0, .int .u64 0, .int .u16 0, .int .u16 0, .int .i64 0, .int .i64 0, .int .i64 0, .int .i64 0] 30 (0, 0)) := (hx.block _ (heap_lt hR_z3)).trans hR_z3
  clear hR_z3 E_z3
  clear hx
  rw [HL.out]
  have HD := Lib.hid hd0
  clear hd0
  have q1 : 17 ≤ 14 + m := by simpa using h3
  have q2 : 14 + m ≤ n := by simpa using h5
  have q3 : 14 + m ≤ cap := by omega
  have q4 : 17 ≤ (14 + m).toNat := by omega
  have q5 : (14 + m).toNat ≤ cap := by omega
  have q6 : 0 ≤ 14 + m := by omega
  have hdec : ∀ z, IsInts z .u8 (.slice (some ⟨B, o, none⟩) 0 0) [] → Calls Try.prog 21 #[.slice (some ⟨B, o, none⟩) 0 0] z (fun e w' => e = .returned (.tuple #[.agg #[.int .i64 q.kd, .bool q.ch, .bool q.ak, .bool q.pr, .bool q.ag, .bool q.ln, .bool q.fw, .int .i64 q.ro, .int .u64 q.r, .int .u32 q.c, .int .u64 q.b, .int .u16 q.p, .int .u16 q.x, .int .i64 q.a, .int .i64 q.m, .int .i64 q.h, .int .i64 q.d], .int .i64 ee]) ∧ Ext z w') := fun z hz => by
    have hl2 := HN.out
    have := dec_any _ _ z hz (by simp) (by simp <;> omega)
    rw [HD.out] at this
    exact this
  go_wp2_with fail
  refine (hdec _ (.inl ⟨rfl, .inr ⟨_, _, rfl⟩⟩)).mono ?_
  rintro e z5 ⟨rfl, hx⟩
  have E_z5 : Ext w z5 := E_z4.trans hx
  have hR_z5 : z5.heap[R0]? = some (.cells #[.int .i64 0, .bool false, .bool false, .bool false, .bool false, .bool false, .bool false, .int .i64 0, .int .u64 0, .int .u32 0, .int .u64 0, .int .u16 0, .int .u16 0, .int .i64 0, .int .i64 0, .int .i64 0, .int .i64 0] 30 (0, 0)) := (hx.block _ (heap_lt hR_z4)).trans hR_z4
  clear hR_z4 E_z4
  clear hx
  clear hdec
  go_wp2_with (first
    | fail
    | ((with_reducible refine at_store 30 ?_); refine st_at rfl rfl 30 _ _ rfl R0 0 _ #[.int .i64 q.kd, .bool q.ch, .bool q.ak, .bool q.pr, .bool q.ag, .bool q.ln, .bool q.fw, .int .i64 q.ro, .int .u64 q.r, .int .u32 q.c, .int .u64 q.b, .int .u16 q.p, .int .u16 q.x, .int .i64 q.a, .int .i64 q.m, .int .i64 q.h, .int .i64 q.d] _ #[.int .i64 q.kd, .bool q.ch, .bool q.ak, .bool q.pr, .bool q.ag, .bool q.ln, .bool q.fw, .int .i64 q.ro, .int .u64 q.r, .int .u32 q.c, .int .u64 q.b, .int .u16 q.p, .int .u16 q.x, .int .i64 q.a, .int .i64 q.m, .int .i64 q.h, .int .i64 q.d] _ rfl rfl rfl hR_z5 (by exact (by decide : 0 + 17 ≤ 17)) (by kernel_rfl) rfl rfl ?_
       intro z6 hq hm
       have hR_z6 : z6.heap[R0]? = some (.cells #[.int .i64 q.kd, .bool q.ch, .bool q.ak, .bool q.pr, .bool q.ag, .bool q.ln, .bool q.fw, .int .i64 q.ro, .int .u64 q.r, .int .u32 q.c, .int .u64 q.b, .int .u16 q.p, .int .u16 q.x, .int .i64 q.a, .int .i64 q.m, .int .i64 q.h, .int .i64 q.d] 30 (0, 0)) := hq
       have E_z6 : Ext w z6 := Ext.mutE E_z5 hm (fun n hn h => by have h2 : n = R0 := h; omega)
       clear hR_z5 E_z5
       clear hq hm)
    | ((with_reducible refine at_store 30 ?_); refine st_at rfl rfl 30 _ _ rfl R0 0 _ #[.int .i64 0, .bool false, .bool false, .bool false, .bool false, .bool false, .bool false, .int .i64 0, .int .u64 0, .int .u32 0, .int .u64 0, .int .u16 0, .int .u16 0, .int .i64 0, .int .i64 0, .int .i64 0, .int .i64 0] _ #[.int .i64 0, .bool false, .bool false, .bool false, .bool false, .bool false, .bool false, .int .i64 0, .int .u64 0, .int .u32 0, .int .u64 0, .int .u16 0, .int .u16 0, .int .i64 0, .int .i64 0, .int .i64 0, .int .i64 0] _ rfl rfl rfl hR_z6 (by exact (by decide : 0 + 17 ≤ 17)) (by kernel_rfl) rfl rfl ?_
       intro z7 hq hm
       have hR_z7 : z7.heap[R0]? = some (.cells #[.int .i64 0, .bool false, .bool false, .bool false, .bool false, .bool false, .bool false, .int .i64 0, .int .u64 0, .int .u32 0, .int .u64 0, .int .u16 0, .int .u16 0, .int .i64 0, .int .i64 0, .int .i64 0, .int .i64 0] 30 (0, 0)) := hq
       have E_z7 : Ext w z7 := Ext.mutE E_z6 hm (fun n hn h => by have h2 : n = R0 := h; omega)
       clear hR_z6 E_z6
       clear hq hm))
  refine bodyPost_ret (results_tct rfl _ _ _ _ _ (0, 0) _ rfl hR_z7 Try.underlying30 rfl (by kernel_rfl)) rfl ?_
  refine ⟨?_, E_z7⟩
  rfl
set_option maxRecDepth 100000 in
set_option maxHeartbeats 2000000 in
theorem open_err (B o n cap : Nat) (xs : List Int) (w : World) (h : IsInts w .u8 (.slice (some ⟨B, o, none⟩) n cap) xs) (hx : ∀ x ∈ xs, 0 ≤ x ∧ x < 256) (hn0 : xs.length = n) (h4 : 17 ≤ n) (hl : n ≤ 100000) (hc : n ≤ cap) (hm : cap ≤ 9223372036854775807) (g l m : Int) (hg0 : num (xs.take 6) = g) (hl0 : num ((xs.drop 14).take 3) = l) (hm0 : num ((xs.drop 12).take 2) = m) (hm1 : 0 ≤ m ∧ m < 65536) (h1 : (g != 1652522221568) = false) (h2 : (l != 4342275) = false) (h3 : decide (14 + m < 17) = false) (h5 : decide (14 + m > (n : Int)) = false) (q : Mg) (ee : Int) (hd0 : decF ((xs.drop 17).take ((14 + m).toNat - 17)) = (q, ee)) (h6 : ¬ (14 + m).toNat = 17) (h7 : (ee != 0) = true) : Calls Try.prog 25 #[.slice (some ⟨B, o, none⟩) n cap] w fun e w' => e = .returned (.tuple #[.int .u64 0, .agg #[.int .i64 Mg.zero.kd, .bool Mg.zero.ch, .bool Mg.zero.ak, .bool Mg.zero.pr, .bool Mg.zero.ag, .bool Mg.zero.ln, .bool Mg.zero.fw, .int .i64 Mg.zero.ro, .int .u64 Mg.zero.r, .int .u32 Mg.zero.c, .int .u64 Mg.zero.b, .int .u16 Mg.zero.p, .int .u16 Mg.zero.x, .int .i64 Mg.zero.a, .int .i64 Mg.zero.m, .int .i64 Mg.zero.h, .int .i64 Mg.zero.d], .int .i64 ee]) ∧ Ext w w' := by
  have HN := Lib.hid hn0
  have HG := Lib.hid hg0
  have HL := Lib.hid hl0
  have HM := Lib.hid hm0
  clear hn0 hg0 hl0 hm0
  have hz := zero_msg
  have hbz := zero_msg
  have hm65 := hm1.2
  have hm00 := hm1.1
  go_enter Try.func25, Try.ntmps25
  go_wp2_with (first
    | fail
    | ((with_reducible refine at_alloc 30 ?_); refine al_zero rfl 30 rfl MZ zero_msg ?_
       intro R0 z1 hq hs hx
       have E_z1 : Ext w z1 := hx
       have hR_z1 : z1.heap[R0]? = some (.cells #[.int .i64 0, .bool false, .bool false, .bool false, .bool false, .bool false, .bool false, .int .i64 0, .int .u64 0, .int .u32 0, .int .u64 0, .int .u16 0, .int .u16 0, .int .i64 0, .int .i64 0, .int .i64 0, .int .i64 0] 30 (0, 0)) := hq
       have hb_R0 : w.heap.size ≤ R0 := by omega
       clear hq hs hx))
  refine (num_any _ ((xs.drop 12).take 2) _ (((sub_ints h HN.out (by omega) 12 2 (by omega) (by omega))).ext E_z1) (fun x hx2 => hx x (List.mem_of_mem_drop (List.mem_of_mem_take hx2))) (by have := HN.out; simp; omega) (by have := HN.out; simp; omega)).mono ?_
  rintro e z2 ⟨rfl, hx⟩
  have E_z2 : Ext w z2 := E_z1.trans hx
  have hR_z2 : z2.heap[R0]? = some (.cells #[.int .i64 0, .bool false, .bool false, .bool false, .bool false, .bool false, .bool false, .int .i64 0, .int .u64 0, .int .u32 0, .int .u64 0, .int .u16 0, .int .u16 0, .int .i64 0, .int .i64 0, .int .i64 0, .int .i64 0] 30 (0, 0)) := (hx.block _ (heap_lt hR_z1)).trans hR_z1
  clear hR_z1 E_z1
  clear hx
  rw [HM.out]
  go_wp2_with fail
  refine (num_any _ (xs.take 6) _ (((sub_ints0 h HN.out (by omega) 6 (by omega) (by omega))).ext E_z2) (fun x hx2 => hx x (List.mem_of_mem_take hx2)) (by have := HN.out; simp; omega) (by have := HN.out; simp; omega)).mono ?_
  rintro e z3 ⟨rfl, hx⟩
  have E_z3 : Ext w z3 := E_z2.trans hx
  have hR_z3 : z3.heap[R0]? = some (.cells #[.int .i64 0, .bool false, .bool false, .bool false, .bool false, .bool false, .bool false, .int .i64 0, .int .u64 0, .int .u32 0, .int .u64 0, .int .u16 0, .int .u16 0, .int .i64 0, .int .i64 0, .int .i64 0, .int .i64 0] 30 (0, 0)) := (hx.block _ (heap_lt hR_z2)).trans hR_z2
  clear hR_z2 E_z2
  clear hx
  rw [HG.out]
  go_wp2_with fail
  refine (num_any _ ((xs.drop 14).take 3) _ (((sub_ints h HN.out (by omega) 14 3 (by omega) (by omega))).ext E_z3) (fun x hx2 => hx x (List.mem_of_mem_drop (List.mem_of_mem_take hx2))) (by have := HN.out; simp; omega) (by have := HN.out; simp; omega)).mono ?_
  rintro e z4 ⟨rfl, hx⟩
  have E_z4 : Ext w z4 := E_z3.trans hx
  have hR_z4 : z4.heap[R0]? = some (.cells #[.int .i64 0, .bool false, .bool false, .bool false, .bool false, .bool false, .bool false, .int .i64 0, .int .u64 0, .int .u32 0, .int .u64 0, .int .u16 0, .int .u16 0, .int .i64 0, .int .i64 0, .int .i64 0, .int .i64 0] 30 (0, 0)) := (hx.block _ (heap_lt hR_z3)).trans hR_z3
  clear hR_z3 E_z3
  clear hx
  rw [HL.out]
  have HD := Lib.hid hd0
  clear hd0
  have q1 : 17 ≤ 14 + m := by simpa using h3
  have q2 : 14 + m ≤ n := by simpa using h5
  have q3 : 14 + m ≤ cap := by omega
  have q4 : 17 ≤ (14 + m).toNat := by omega
  have q5 : (14 + m).toNat ≤ cap := by omega
  have q6 : 0 ≤ 14 + m := by omega
  have hdec : ∀ z, IsInts z .u8 (.slice (some ⟨B, o + 17, none⟩) ((14 + m).toNat - 17) ((14 + m).toNat - 17)) ((xs.drop 17).take ((14 + m).toNat - 17)) → Calls Try.prog 21 #[.slice (some ⟨B, o + 17, none⟩) ((14 + m).toNat - 17) ((14 + m).toNat - 17)] z (fun e w' => e = .returned (.tuple #[.agg #[.int .i64 q.kd, .bool q.ch, .bool q.ak, .bool q.pr, .bool q.ag, .bool q.ln, .bool q.fw, .int .i64 q.ro, .int .u64 q.r, .int .u32 q.c, .int .u64 q.b, .int .u16 q.p, .int .u16 q.x, .int .i64 q.a, .int .i64 q.m, .int .i64 q.h, .int .i64 q.d], .int .i64 ee]) ∧ Ext z w') := fun z hz => by
    have hl2 := HN.out
    have := dec_any _ _ z hz (fun x hx2 => hx x (List.mem_of_mem_drop (List.mem_of_mem_take hx2))) (by simp <;> omega)
    rw [HD.out] at this
    exact this
  go_wp2_with fail
  refine (hdec _ ((sub_ints h HN.out (by omega) 17 ((14 + m).toNat - 17) (by omega) (by omega)).ext E_z4)).mono ?_
  rintro e z5 ⟨rfl, hx⟩
  have E_z5 : Ext w z5 := E_z4.trans hx
  have hR_z5 : z5.heap[R0]? = some (.cells #[.int .i64 0, .bool false, .bool false, .bool false, .bool false, .bool false, .bool false, .int .i64 0, .int .u64 0, .int .u32 0, .int .u64 0, .int .u16 0, .int .u16 0, .int .i64 0, .int .i64 0, .int .i64 0, .int .i64 0] 30 (0, 0)) := (hx.block _ (heap_lt hR_z4)).trans hR_z4
  clear hR_z4 E_z4
  clear hx
  clear hdec
  go_wp2_with (first
    | fail
    | ((with_reducible refine at_store 30 ?_); refine st_at rfl rfl 30 _ _ rfl R0 0 _ #[.int .i64 q.kd, .bool q.ch, .bool q.ak, .bool q.pr, .bool q.ag, .bool q.ln, .bool q.fw, .int .i64 q.ro, .int .u64 q.r, .int .u32 q.c, .int .u64 q.b, .int .u16 q.p, .int .u16 q.x, .int .i64 q.a, .int .i64 q.m, .int .i64 q.h, .int .i64 q.d] _ #[.int .i64 q.kd, .bool q.ch, .bool q.ak, .bool q.pr, .bool q.ag, .bool q.ln, .bool q.fw, .int .i64 q.ro, .int .u64 q.r, .int .u32 q.c, .int .u64 q.b, .int .u16 q.p, .int .u16 q.x, .int .i64 q.a, .int .i64 q.m, .int .i64 q.h, .int .i64 q.d] _ rfl rfl rfl hR_z5 (by exact (by decide : 0 + 17 ≤ 17)) (by kernel_rfl) rfl rfl ?_
       intro z6 hq hm
       have hR_z6 : z6.heap[R0]? = some (.cells #[.int .i64 q.kd, .bool q.ch, .bool q.ak, .bool q.pr, .bool q.ag, .bool q.ln, .bool q.fw, .int .i64 q.ro, .int .u64 q.r, .int .u32 q.c, .int .u64 q.b, .int .u16 q.p, .int .u16 q.x, .int .i64 q.a, .int .i64 q.m, .int .i64 q.h, .int .i64 q.d] 30 (0, 0)) := hq
       have E_z6 : Ext w z6 := Ext.mutE E_z5 hm (fun n hn h => by have h2 : n = R0 := h; omega)
       clear hR_z5 E_z5
       clear hq hm)
    | ((with_reducible refine at_store 30 ?_); refine st_at rfl rfl 30 _ _ rfl R0 0 _ #[.int .i64 0, .bool false, .bool false, .bool false, .bool false, .bool false, .bool false, .int .i64 0, .int .u64 0, .int .u32 0, .int .u64 0, .int .u16 0, .int .u16 0, .int .i64 0, .int .i64 0, .int .i64 0, .int .i64 0] _ #[.int .i64 0, .bool false, .bool false, .bool false, .bool false, .bool false, .bool false, .int .i64 0, .int .u64 0, .int .u32 0, .int .u64 0, .int .u16 0, .int .u16 0, .int .i64 0, .int .i64 0, .int .i64 0, .int .i64 0] _ rfl rfl rfl hR_z6 (by exact (by decide : 0 + 17 ≤ 17)) (by kernel_rfl) rfl rfl ?_
       intro z7 hq hm
       have hR_z7 : z7.heap[R0]? = some (.cells #[.int .i64 0, .bool false, .bool false, .bool false, .bool false, .bool false, .bool false, .int .i64 0, .int .u64 0, .int .u32 0, .int .u64 0, .int .u16 0, .int .u16 0, .int .i64 0, .int .i64 0, .int .i64 0, .int .i64 0] 30 (0, 0)) := hq
       have E_z7 : Ext w z7 := Ext.mutE E_z6 hm (fun n hn h => by have h2 : n = R0 := h; omega)
       clear hR_z6 E_z6
       clear hq hm))
  refine bodyPost_ret (results_tct rfl _ _ _ _ _ (0, 0) _ rfl hR_z7 Try.underlying30 rfl (by kernel_rfl)) rfl ?_
  refine ⟨?_, E_z7⟩
  rfl
set_option maxRecDepth 100000 in
set_option maxHeartbeats 2000000 in
theorem open_ok (B o n cap : Nat) (xs : List Int) (w : World) (h : IsInts w .u8 (.slice (some ⟨B, o, none⟩) n cap) xs) (hx : ∀ x ∈ xs, 0 ≤ x ∧ x < 256) (hn0 : xs.length = n) (h4 : 17 ≤ n) (hl : n ≤ 100000) (hc : n ≤ cap) (hm : cap ≤ 9223372036854775807) (g l m : Int) (hg0 : num (xs.take 6) = g) (hl0 : num ((xs.drop 14).take 3) = l) (hm0 : num ((xs.drop 12).take 2) = m) (hm1 : 0 ≤ m ∧ m < 65536) (h1 : (g != 1652522221568) = false) (h2 : (l != 4342275) = false) (h3 : decide (14 + m < 17) = false) (h5 : decide (14 + m > (n : Int)) = false) (q : Mg) (ee : Int) (hd0 : decF ((xs.drop 17).take ((14 + m).toNat - 17)) = (q, ee)) (h6 : ¬ (14 + m).toNat = 17) (h7 : (ee != 0) = false) (s : Int) (hs0 : num ((xs.drop 6).take 6) = s) : Calls Try.prog 25 #[.slice (some ⟨B, o, none⟩) n cap] w fun e w' => e = .returned (.tuple #[.int .u64 s, .agg #[.int .i64 q.kd, .bool q.ch, .bool q.ak, .bool q.pr, .bool q.ag, .bool q.ln, .bool q.fw, .int .i64 q.ro, .int .u64 q.r, .int .u32 q.c, .int .u64 q.b, .int .u16 q.p, .int .u16 q.x, .int .i64 q.a, .int .i64 q.m, .int .i64 q.h, .int .i64 q.d], .int .i64 0]) ∧ Ext w w' := by
  have HN := Lib.hid hn0
  have HG := Lib.hid hg0
  have HL := Lib.hid hl0
  have HM := Lib.hid hm0
  clear hn0 hg0 hl0 hm0
  have hz := zero_msg
  have hbz := zero_msg
  have hm65 := hm1.2
  have hm00 := hm1.1
  go_enter Try.func25, Try.ntmps25
  go_wp2_with (first
    | fail
    | ((with_reducible refine at_alloc 30 ?_); refine al_zero rfl 30 rfl MZ zero_msg ?_
       intro R0 z1 hq hs hx
       have E_z1 : Ext w z1 := hx
       have hR_z1 : z1.heap[R0]? = some (.cells #[.int .i64 0, .bool false, .bool false, .bool false, .bool false, .bool false, .bool false, .int .i64 0, .int .u64 0, .int .u32 0, .int .u64 0, .int .u16 0, .int .u16 0, .int .i64 0, .int .i64 0, .int .i64 0, .int .i64 0] 30 (0, 0)) := hq
       have hb_R0 : w.heap.size ≤ R0 := by omega
       clear hq hs hx))
  refine (num_any _ ((xs.drop 12).take 2) _ (((sub_ints h HN.out (by omega) 12 2 (by omega) (by omega))).ext E_z1) (fun x hx2 => hx x (List.mem_of_mem_drop (List.mem_of_mem_take hx2))) (by have := HN.out; simp; omega) (by have := HN.out; simp; omega)).mono ?_
  rintro e z2 ⟨rfl, hx⟩
  have E_z2 : Ext w z2 := E_z1.trans hx
  have hR_z2 : z2.heap[R0]? = some (.cells #[.int .i64 0, .bool false, .bool false, .bool false, .bool false, .bool false, .bool false, .int .i64 0, .int .u64 0, .int .u32 0, .int .u64 0, .int .u16 0, .int .u16 0, .int .i64 0, .int .i64 0, .int .i64 0, .int .i64 0] 30 (0, 0)) := (hx.block _ (heap_lt hR_z1)).trans hR_z1
  clear hR_z1 E_z1
  clear hx
  rw [HM.out]
  go_wp2_with fail
  refine (num_any _ (xs.take 6) _ (((sub_ints0 h HN.out (by omega) 6 (by omega) (by omega))).ext E_z2) (fun x hx2 => hx x (List.mem_of_mem_take hx2)) (by have := HN.out; simp; omega) (by have := HN.out; simp; omega)).mono ?_
  rintro e z3 ⟨rfl, hx⟩
  have E_z3 : Ext w z3 := E_z2.trans hx
  have hR_z3 : z3.heap[R0]? = some (.cells #[.int .i64 0, .bool false, .bool false, .bool false, .bool false, .bool false, .bool false, .int .i64 0, .int .u64 0, .int .u32 0, .int .u64 0, .int .u16 0, .int .u16 0, .int .i64 0, .int .i64 0, .int .i64 0, .int .i64 0] 30 (0, 0)) := (hx.block _ (heap_lt hR_z2)).trans hR_z2
  clear hR_z2 E_z2
  clear hx
  rw [HG.out]
  go_wp2_with fail
  refine (num_any _ ((xs.drop 14).take 3) _ (((sub_ints h HN.out (by omega) 14 3 (by omega) (by omega))).ext E_z3) (fun x hx2 => hx x (List.mem_of_mem_drop (List.mem_of_mem_take hx2))) (by have := HN.out; simp; omega) (by have := HN.out; simp; omega)).mono ?_
  rintro e z4 ⟨rfl, hx⟩
  have E_z4 : Ext w z4 := E_z3.trans hx
  have hR_z4 : z4.heap[R0]? = some (.cells #[.int .i64 0, .bool false, .bool false, .bool false, .bool false, .bool false, .bool false, .int .i64 0, .int .u64 0, .int .u32 0, .int .u64 0, .int .u16 0, .int .u16 0, .int .i64 0, .int .i64 0, .int .i64 0, .int .i64 0] 30 (0, 0)) := (hx.block _ (heap_lt hR_z3)).trans hR_z3
  clear hR_z3 E_z3
  clear hx
  rw [HL.out]
  have HD := Lib.hid hd0
  clear hd0
  have HS := Lib.hid hs0
  clear hs0
  have q1 : 17 ≤ 14 + m := by simpa using h3
  have q2 : 14 + m ≤ n := by simpa using h5
  have q3 : 14 + m ≤ cap := by omega
  have q4 : 17 ≤ (14 + m).toNat := by omega
  have q5 : (14 + m).toNat ≤ cap := by omega
  have q6 : 0 ≤ 14 + m := by omega
  have hdec : ∀ z, IsInts z .u8 (.slice (some ⟨B, o + 17, none⟩) ((14 + m).toNat - 17) ((14 + m).toNat - 17)) ((xs.drop 17).take ((14 + m).toNat - 17)) → Calls Try.prog 21 #[.slice (some ⟨B, o + 17, none⟩) ((14 + m).toNat - 17) ((14 + m).toNat - 17)] z (fun e w' => e = .returned (.tuple #[.agg #[.int .i64 q.kd, .bool q.ch, .bool q.ak, .bool q.pr, .bool q.ag, .bool q.ln, .bool q.fw, .int .i64 q.ro, .int .u64 q.r, .int .u32 q.c, .int .u64 q.b, .int .u16 q.p, .int .u16 q.x, .int .i64 q.a, .int .i64 q.m, .int .i64 q.h, .int .i64 q.d], .int .i64 ee]) ∧ Ext z w') := fun z hz => by
    have hl2 := HN.out
    have := dec_any _ _ z hz (fun x hx2 => hx x (List.mem_of_mem_drop (List.mem_of_mem_take hx2))) (by simp <;> omega)
    rw [HD.out] at this
    exact this
  go_wp2_with fail
  refine (hdec _ ((sub_ints h HN.out (by omega) 17 ((14 + m).toNat - 17) (by omega) (by omega)).ext E_z4)).mono ?_
  rintro e z5 ⟨rfl, hx⟩
  have E_z5 : Ext w z5 := E_z4.trans hx
  have hR_z5 : z5.heap[R0]? = some (.cells #[.int .i64 0, .bool false, .bool false, .bool false, .bool false, .bool false, .bool false, .int .i64 0, .int .u64 0, .int .u32 0, .int .u64 0, .int .u16 0, .int .u16 0, .int .i64 0, .int .i64 0, .int .i64 0, .int .i64 0] 30 (0, 0)) := (hx.block _ (heap_lt hR_z4)).trans hR_z4
  clear hR_z4 E_z4
  clear hx
  clear hdec
  go_wp2_with (first
    | fail
    | ((with_reducible refine at_store 30 ?_); refine st_at rfl rfl 30 _ _ rfl R0 0 _ #[.int .i64 q.kd, .bool q.ch, .bool q.ak, .bool q.pr, .bool q.ag, .bool q.ln, .bool q.fw, .int .i64 q.ro, .int .u64 q.r, .int .u32 q.c, .int .u64 q.b, .int .u16 q.p, .int .u16 q.x, .int .i64 q.a, .int .i64 q.m, .int .i64 q.h, .int .i64 q.d] _ #[.int .i64 q.kd, .bool q.ch, .bool q.ak, .bool q.pr, .bool q.ag, .bool q.ln, .bool q.fw, .int .i64 q.ro, .int .u64 q.r, .int .u32 q.c, .int .u64 q.b, .int .u16 q.p, .int .u16 q.x, .int .i64 q.a, .int .i64 q.m, .int .i64 q.h, .int .i64 q.d] _ rfl rfl rfl hR_z5 (by exact (by decide : 0 + 17 ≤ 17)) (by kernel_rfl) rfl rfl ?_
       intro z6 hq hm
       have hR_z6 : z6.heap[R0]? = some (.cells #[.int .i64 q.kd, .bool q.ch, .bool q.ak, .bool q.pr, .bool q.ag, .bool q.ln, .bool q.fw, .int .i64 q.ro, .int .u64 q.r, .int .u32 q.c, .int .u64 q.b, .int .u16 q.p, .int .u16 q.x, .int .i64 q.a, .int .i64 q.m, .int .i64 q.h, .int .i64 q.d] 30 (0, 0)) := hq
       have E_z6 : Ext w z6 := Ext.mutE E_z5 hm (fun n hn h => by have h2 : n = R0 := h; omega)
       clear hR_z5 E_z5
       clear hq hm))
  have hsd : ∀ z, IsInts z .u8 (.slice (some ⟨B, o + 6, none⟩) 6 6) ((xs.drop 6).take 6) → Calls Try.prog 50 #[.slice (some ⟨B, o + 6, none⟩) 6 6] z (fun e w' => e = .returned (.int .u64 s) ∧ Ext z w') := fun z hz => by
    have hl2 := HN.out
    have := num_any _ _ z hz (fun x hx2 => hx x (List.mem_of_mem_drop (List.mem_of_mem_take hx2))) (by simp <;> omega) (by simp <;> omega)
    rw [HS.out] at this
    exact this
  refine beginZ (S := fun W' => Ext z6 W') 5 (by kernel_rfl) ?_
  intro wd hqx
  have hq0 : Ext z6 wd := hqx
  have hxr := (hqx.block _ (heap_lt hR_z6)).trans hR_z6
  refine takeZ (i := 0) (z := 5) (v := (.slice (some ⟨B, o, none⟩) n cap)) rfl rfl (by kernel_rfl) (by kernel_rfl) (by kernel_rfl) (by kernel_rfl) (by kernel_rfl) (by kernel_rfl) (fun _ _ _ h => h) (Or.inl ⟨rfl, fun _ _ => rfl⟩) hq0 ?_
  simp only [Act.put, List.setIfInBounds_toArray, List.set_cons_zero, List.set_cons_succ]
  refine takeZ (i := 1) (z := 5) (v := (.slice (some ⟨B, o + 6, none⟩) 6 6)) rfl rfl (by kernel_rfl) (by kernel_rfl) (by kernel_rfl) (by kernel_rfl) (by kernel_rfl) (by kernel_rfl) (fun _ _ _ h => h) (Or.inl ⟨rfl, fun W' _ => by go_simp; intro hlt; exfalso; omega⟩) hq0 ?_
  simp only [Act.put, List.setIfInBounds_toArray, List.set_cons_zero, List.set_cons_succ]
  refine takeZ (i := 3) (z := 5) (v := _) rfl rfl (by kernel_rfl) (by kernel_rfl) (by kernel_rfl) (by kernel_rfl) (by kernel_rfl) (by kernel_rfl) (fun _ _ _ h => h) (yieldsIf_rowS rfl 30 _ rfl R0 rfl #[.int .i64 q.kd, .bool q.ch, .bool q.ak, .bool q.pr, .bool q.ag, .bool q.ln, .bool q.fw, .int .i64 q.ro, .int .u64 q.r, .int .u32 q.c, .int .u64 q.b, .int .u16 q.p, .int .u16 q.x, .int .i64 q.a, .int .i64 q.m, .int .i64 q.h, .int .i64 q.d] _ _ (fun W' hW' => ((hW'.block _ (heap_lt hR_z6)).trans hR_z6)) Try.underlying30 rfl (by kernel_rfl)) hq0 ?_
  simp only [Act.put, List.setIfInBounds_toArray, List.set_cons_zero, List.set_cons_succ]
  refine runZ (i := 2) rfl rfl (by kernel_rfl) (fun K hK => ?_)
  go_simp
  refine (hsd _ ((sub_ints h HN.out (by omega) 6 6 (by omega) (by omega)).ext (E_z6.trans hq0))).mono ?_
  rintro e wc1 ⟨rfl, hx⟩
  have hq1 := hq0.trans hx
  have hxr := (hx.block _ (heap_lt hxr)).trans hxr
  refine hK.out _ _ hq1 (fun hHeld => ?_)
  try simp only [Act.put, List.setIfInBounds_toArray, List.set_cons_zero, List.set_cons_succ]
  clear hK K hHeld
  refine takeZ (i := 4) (z := 5) (v := (.int .u64 s)) rfl rfl (by kernel_rfl) (by kernel_rfl) (by kernel_rfl) (by kernel_rfl) (by kernel_rfl) (by kernel_rfl) (fun _ _ _ h => h) (Or.inl ⟨rfl, fun _ _ => rfl⟩) hq1 ?_
  simp only [Act.put, List.setIfInBounds_toArray, List.set_cons_zero, List.set_cons_succ]
  refine runZl (z := 5) rfl rfl (by kernel_rfl) (fun K hK => ?_)
  refine wp_st_at rfl 30 _ _ rfl R0 0 _ #[.int .i64 q.kd, .bool q.ch, .bool q.ak, .bool q.pr, .bool q.ag, .bool q.ln, .bool q.fw, .int .i64 q.ro, .int .u64 q.r, .int .u32 q.c, .int .u64 q.b, .int .u16 q.p, .int .u16 q.x, .int .i64 q.a, .int .i64 q.m, .int .i64 q.h, .int .i64 q.d] _ #[.int .i64 q.kd, .bool q.ch, .bool q.ak, .bool q.pr, .bool q.ag, .bool q.ln, .bool q.fw, .int .i64 q.ro, .int .u64 q.r, .int .u32 q.c, .int .u64 q.b, .int .u16 q.p, .int .u16 q.x, .int .i64 q.a, .int .i64 q.m, .int .i64 q.h, .int .i64 q.d] _ rfl rfl rfl hxr (by exact (by decide : 0 + 17 ≤ 17)) (by kernel_rfl) rfl rfl (fun ws5 hrow5 hm5 => ?_)
  refine hK.out _ _ ?_
  try simp only [Act.put, List.setIfInBounds_toArray, List.set_cons_zero, List.set_cons_succ]
  clear hK K
  refine takeL (i := 6) (v := (.int .i64 0)) rfl (by kernel_rfl) (by kernel_rfl) (by kernel_rfl) (fun _ _ _ h => h) (Or.inl ⟨rfl, fun _ _ => rfl⟩) trivial ?_
  simp only [Act.put, List.setIfInBounds_toArray, List.set_cons_zero, List.set_cons_succ]
  refine wpAnyH_done (by kernel_rfl) ?_ _
  generalize ws5 = z7 at *
  have tq0 := (hq1.block _ (heap_lt hR_z6)).trans hR_z6
  have eq0 : Ext w _ := E_z6.trans hq1
  have eq1 : Ext w _ := Ext.mutE eq0 hm5 (fun n hn h => by have h2 : n = R0 := h; omega)
  have E_z7 : Ext w z7 := eq1
  have hR_z7 : z7.heap[R0]? = some (.cells #[.int .i64 q.kd, .bool q.ch, .bool q.ak, .bool q.pr, .bool q.ag, .bool q.ln, .bool q.fw, .int .i64 q.ro, .int .u64 q.r, .int .u32 q.c, .int .u64 q.b, .int .u16 q.p, .int .u16 q.x, .int .i64 q.a, .int .i64 q.m, .int .i64 q.h, .int .i64 q.d] 30 (0, 0)) := hrow5
  clear hR_z6 E_z6
  clear hq0 hq1 hm5 tq0 eq0 eq1
  go_wp2_with fail
  refine bodyPost_ret (results_tct rfl _ _ _ _ _ (0, 0) _ rfl hR_z7 Try.underlying30 rfl (by kernel_rfl)) rfl ?_
  refine ⟨?_, E_z7⟩
  rfl
theorem open_any (v : Value) (xs : List Int) (w : World) (h : IsInts w .u8 v xs) (hx : ∀ x ∈ xs, 0 ≤ x ∧ x < 256) (hl : xs.length ≤ 100000) : Calls Try.prog 25 #[v] w (fun e w' => e = .returned (.tuple #[.int .u64 (openF xs).1, .agg #[.int .i64 (openF xs).2.1.kd, .bool (openF xs).2.1.ch, .bool (openF xs).2.1.ak, .bool (openF xs).2.1.pr, .bool (openF xs).2.1.ag, .bool (openF xs).2.1.ln, .bool (openF xs).2.1.fw, .int .i64 (openF xs).2.1.ro, .int .u64 (openF xs).2.1.r, .int .u32 (openF xs).2.1.c, .int .u64 (openF xs).2.1.b, .int .u16 (openF xs).2.1.p, .int .u16 (openF xs).2.1.x, .int .i64 (openF xs).2.1.a, .int .i64 (openF xs).2.1.m, .int .i64 (openF xs).2.1.h, .int .i64 (openF xs).2.1.d], .int .i64 (openF xs).2.2]) ∧ Ext w w') := by
  have fin : ∀ (a : Int) (q : Mg) (n : Int), openF xs = (a, q, n) → (Calls Try.prog 25 #[v] w (fun e w' => e = .returned (.tuple #[.int .u64 a, .agg #[.int .i64 q.kd, .bool q.ch, .bool q.ak, .bool q.pr, .bool q.ag, .bool q.ln, .bool q.fw, .int .i64 q.ro, .int .u64 q.r, .int .u32 q.c, .int .u64 q.b, .int .u16 q.p, .int .u16 q.x, .int .i64 q.a, .int .i64 q.m, .int .i64 q.h, .int .i64 q.d], .int .i64 n]) ∧ Ext w w')) → Calls Try.prog 25 #[v] w (fun e w' => e = .returned (.tuple #[.int .u64 (openF xs).1, .agg #[.int .i64 (openF xs).2.1.kd, .bool (openF xs).2.1.ch, .bool (openF xs).2.1.ak, .bool (openF xs).2.1.pr, .bool (openF xs).2.1.ag, .bool (openF xs).2.1.ln, .bool (openF xs).2.1.fw, .int .i64 (openF xs).2.1.ro, .int .u64 (openF xs).2.1.r, .int .u32 (openF xs).2.1.c, .int .u64 (openF xs).2.1.b, .int .u16 (openF xs).2.1.p, .int .u16 (openF xs).2.1.x, .int .i64 (openF xs).2.1.a, .int .i64 (openF xs).2.1.m, .int .i64 (openF xs).2.1.h, .int .i64 (openF xs).2.1.d], .int .i64 (openF xs).2.2]) ∧ Ext w w') := fun a q n hd hc => by rw [hd]; exact hc
  by_cases h4 : xs.length < 17
  · exact fin _ _ _ (by unfold openF; rw [if_pos h4]) (open_short v xs w h h4)
  have h4' : 17 ≤ xs.length := by omega
  have hs := h
  rcases hs with ⟨rfl, _⟩ | ⟨b, off, cap, rfl, g0, g1, g2, g3, g4⟩
  · simp at h4
  have hm2 : ((xs.drop 12).take 2).length = 2 := by simp; omega
  have hmr := num_rg ((xs.drop 12).take 2) (fun x hx2 => hx x (List.mem_of_mem_drop (List.mem_of_mem_take hx2)))
  rw [hm2] at hmr
  have hcm : cap ≤ 9223372036854775807 := by unfold maxLen at g2; omega
  obtain ⟨g, hg⟩ : ∃ g, num (xs.take 6) = g := ⟨_, rfl⟩
  obtain ⟨l, hlk⟩ : ∃ l, num ((xs.drop 14).take 3) = l := ⟨_, rfl⟩
  obtain ⟨m, hm⟩ : ∃ m, num ((xs.drop 12).take 2) = m := ⟨_, rfl⟩
  rw [hm] at hmr
  have hmr2 : 0 ≤ m ∧ m < 65536 := ⟨hmr.1, by have := hmr.2; omega⟩
  by_cases c1 : g = 1652522221568
  · by_cases c2 : l = 4342275
    · by_cases c3 : 14 + m < 17
      · exact fin _ _ _ (by unfold openF; rw [if_neg h4, if_pos (by rw [hm]; exact .inr (.inr (.inl c3)))]) (open_form3 b off _ cap xs w h hx rfl h4' hl g1 hcm g l m hg hlk hm hmr2 (by simpa using c1) (by simpa using c2) (by simpa using c3))
      · by_cases c4 : (xs.length : Int) < 14 + m
        · exact fin _ _ _ (by unfold openF; rw [if_neg h4, if_pos (by rw [hm]; exact .inr (.inr (.inr c4)))]) (open_form4 b off _ cap xs w h hx rfl h4' hl g1 hcm g l m hg hlk hm hmr2 (by simpa using c1) (by simpa using c2) (by simpa using c3) (by simpa using c4))
        · have hno : ¬ (num (xs.take 6) ≠ 1652522221568 ∨ num ((xs.drop 14).take 3) ≠ 4342275 ∨ 14 + num ((xs.drop 12).take 2) < 17 ∨ (xs.length : Int) < 14 + num ((xs.drop 12).take 2)) := by
            rw [hg, hlk, hm]; rintro (k | k | k | k) <;> contradiction
          have ek : (m - 3).toNat = (14 + m).toNat - 17 := by omega
          obtain ⟨⟨q, ee⟩, hd⟩ : ∃ d, decF ((xs.drop 17).take ((14 + m).toNat - 17)) = d := ⟨_, rfl⟩
          by_cases c5 : ee = 0
          · have c6 : ¬ (14 + m).toNat = 17 := fun e => by
              rw [e] at hd
              have e2 : decF [] = (q, ee) := by simpa using hd
              have e3 : (decF []).2 = 2 := by rfl
              rw [e2] at e3
              have e4 : ee = 2 := e3
              omega
            exact fin _ _ _ (by unfold openF; rw [if_neg h4, if_neg hno, hm, ek, hd, if_neg (by simpa using c5)]) (open_ok b off _ cap xs w h hx rfl h4' hl g1 hcm g l m hg hlk hm hmr2 (by simpa using c1) (by simpa using c2) (by simpa using c3) (by simpa using c4) q ee hd c6 (by simpa using c5) _ rfl)
          · have eo : openF xs = (0, Mg.zero, ee) := by unfold openF; rw [if_neg h4, if_neg hno, hm, ek, hd, if_pos (by simpa using c5)]
            by_cases c6 : (14 + m).toNat = 17
            · exact fin _ _ _ eo (open_none b off _ cap xs w h hx rfl h4' hl g1 hcm g l m hg hlk hm hmr2 (by simpa using c1) (by simpa using c2) (by simpa using c3) (by simpa using c4) q ee (by rw [c6] at hd; simpa using hd) c6 (by simpa using c5))
            · exact fin _ _ _ eo (open_err b off _ cap xs w h hx rfl h4' hl g1 hcm g l m hg hlk hm hmr2 (by simpa using c1) (by simpa using c2) (by simpa using c3) (by simpa using c4) q ee hd c6 (by simpa using c5))
    · exact fin _ _ _ (by unfold openF; rw [if_neg h4, if_pos (by rw [hlk]; exact .inr (.inl c2))]) (open_form2 b off _ cap xs w h hx rfl h4' hl g1 hcm g l m hg hlk hm hmr2 (by simpa using c1) (by simpa using c2))
  · exact fin _ _ _ (by unfold openF; rw [if_neg h4, if_pos (by rw [hg]; exact .inl c1)]) (open_form1 b off _ cap xs w h hx rfl h4' hl g1 hcm g l m hg hlk hm hmr2 (by simpa using c1))

end Go.Proofs.Ytdfaagchlnkpnaa
