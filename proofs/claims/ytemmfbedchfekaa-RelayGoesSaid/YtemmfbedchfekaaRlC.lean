/- Relay: bridges whose ports all forward; the example. No statement is proved here. -/
import Derived.Test.YtemmfbedchfekaaRlB
import Derived.Deep.Cut
namespace Go.Proofs.Ytemmfbedchfekaa
open Go.RowKit Go.BigFrame Go.WideShapes Go.ChangeShapes Go.Deep
set_option linter.unusedVariables false
set_option linter.unusedSimpArgs false
set_option maxRecDepth 100000

theorem at_build (T : TypeId) {P : Program} {ops : Array Oper} {rest : List Oper} {a : Act} {w : World} {Q : Exit → Act → World → Prop} {d : Option Tmp} {x : Array (Nat × Operand)} {ty : TypeId} {pos : String} {af : Array Edge}
    (h : wpList P ops Q ({ dst := d, op := .build T x, type := ty, pos := pos, after := af, guard := none } :: rest) a w) : wpList P ops Q ({ dst := d, op := .build T x, type := ty, pos := pos, after := af, guard := none } :: rest) a w := h
theorem wpList_build2 {P : Program} {ops : Array Oper} {rest : List Oper} {o : Oper} {a : Act} {w : World} {Q : Exit → Act → World → Prop} (hg : o.guard = none) (t : TypeId) (parts : Array (Nat × Operand)) (ho : o.op = .build t parts)
    (vals : List (Nat × Value)) (hv : parts.toList.map (fun x => (x.1, a.eval x.2)) = vals) (cells : Array Value) (hb : P.built t vals = some cells)
    (h : wpList P ops Q rest (a.put o.dst (.agg cells)) w) : wpList P ops Q (o :: rest) a w := by
  have e : (parts.map fun (i, x) => (i, a.eval x)).toList = vals := by rw [Array.toList_map]; exact hv
  exact wpList_build hg t parts ho (by rw [e, hb]; rfl) (by rw [e, hb]; exact h)
def hdO : List Value := [.int .u64 0, .bool true, .int .i64 0, .int .i64 20, .int .i64 2, .int .i64 15, .int .i64 6, .int .u64 0, .int .u32 0, .int .u64 0, .int .u16 0, .int .u16 0, .int .i64 (-1), .int .i64 0, .int .i64 0, .int .i64 0, .int .i64 0]
def rowO (v : Value) : Array Value := (hdO ++ [v, .slice none 0 0, .slice none 0 0]).toArray
def BZ : Array Value := (HL.map zc ++ [Value.slice none 0 0, Value.slice none 0 0, Value.slice none 0 0]).toArray
theorem zero_br : ∀ w, (zeroValue 33).run Try.prog w = .ok (.agg BZ) w := (zero_of_info (P := Try.prog) (t := 33) (v := .agg BZ) (n := 20) (by kernel_rfl)).1
def FLO : Array Value := (((List.replicate 29 (Value.bool false)).set 5 (.bool true)).set 7 (.bool true)).toArray
def portO (z : Int) : List Value := ((((PL.map zc).set 0 (.int .u16 z)).set 2 (.bool true)).set 27 (.bool true)).set 29 (.bool true)
theorem b_times : Try.prog.built 24 [(1, .int .i64 20), (2, .int .i64 2), (3, .int .i64 15)] = some #[.int .i64 0, .int .i64 20, .int .i64 2, .int .i64 15] := by kernel_rfl
theorem b_br : Try.prog.built 33 [(1, .bool true), (2, .agg #[.int .i64 0, .int .i64 20, .int .i64 2, .int .i64 15]), (3, .int .i64 6), (5, .int .i64 (-1))] = some (rowO (.slice none 0 0)) := by kernel_rfl
theorem b_fl : Try.prog.built 65 [(7, .bool true), (5, .bool true)] = some FLO := by kernel_rfl
theorem b_port (z : Int) : Try.prog.built 69 [(0, .int .u16 z), (2, .bool true), (8, .agg FLO)] = some (portO z).toArray := by kernel_rfl
theorem f_port (z : Int) : Instr.fill (fun i => some (i * 89, 89)) ((Array.range (1 * 89)).map (PZ[· % PZ.size]!)) [(0, .agg (portO z).toArray)] = some (portO z).toArray := by kernel_rfl
def portsO (n : Nat) : List Value := (List.range n).flatMap (fun i : Nat => portO ((i : Int) + 1))
theorem portsO_succ (n : Nat) : portsO (n + 1) = portsO n ++ portO ((n : Int) + 1) := by
  unfold portsO
  rw [List.range_succ, List.flatMap_append]
  congr 1
theorem portO_len (z : Int) : (portO z).length = 89 := by simp [portO]; rfl
theorem portsO_len : ∀ n, (portsO n).length = n * 89
  | 0 => rfl
  | n + 1 => by rw [portsO_succ, List.length_append, portsO_len n, portO_len]; omega
theorem portsO_at (n : Nat) : ∀ i, i < n → ∀ j, j < 89 → (portsO n)[i * 89 + j]? = (portO ((i : Int) + 1))[j]? := by
  induction n with
  | zero => intro i hi; omega
  | succ n ih =>
    intro i hi j hj
    rw [portsO_succ]
    by_cases h : i < n
    · rw [List.getElem?_append_left (by rw [portsO_len]; omega), ih i h j hj]
    · obtain rfl : i = n := by omega
      rw [List.getElem?_append_right (by rw [portsO_len]; omega), portsO_len, show i * 89 + j - i * 89 = j by omega]
def openBr (n : Nat) : Br := { hd := hdO, np := n, ps := portsO n, no := 0, os := [], nf := 0, fl := [] }
theorem typed_zc : Typed PL (PL.map zc) := ⟨by rw [List.length_map], fun j k hk => ⟨zc k, by rw [List.getElem?_map, hk]; rfl, by cases k with
  | none => exact ⟨false, rfl⟩
  | some k => exact ⟨0, rfl, by cases k <;> rfl⟩⟩⟩
theorem portO_typed (z : Int) (hz : 0 ≤ z ∧ z < 65536) : Typed PL (portO z) := by
  unfold portO
  refine (((typed_zc.set 0 _ (fun k hk => ?_)).set 2 _ (fun k hk => ?_)).set 27 _ (fun k hk => ?_)).set 29 _ (fun k hk => ?_)
  · obtain rfl : some IntKind.u16 = k := by simpa [PL] using hk
    exact ⟨z, rfl, by simp [Lit.wf, IntKind.min, IntKind.max, IntKind.signed, IntKind.bits]; omega⟩
  · obtain rfl : none = k := by simpa [PL] using hk
    exact ⟨true, rfl⟩
  · obtain rfl : none = k := by simpa [PL] using hk
    exact ⟨true, rfl⟩
  · obtain rfl : none = k := by simpa [PL] using hk
    exact ⟨true, rfl⟩
theorem hdO_typed : Typed HL hdO := ⟨rfl, fun j k hk => by
  have hj : j < 17 := (List.getElem?_eq_some_iff.1 hk).1
  rcases j with _ | _ | _ | _ | _ | _ | _ | _ | _ | _ | _ | _ | _ | _ | _ | _ | _ | j
  all_goals first
    | omega
    | (obtain rfl := Option.some.inj hk
       first
         | exact ⟨_, rfl, _, rfl, rfl⟩
         | exact ⟨_, rfl, _, rfl⟩)⟩
theorem openBr_ok (n : Nat) (hn : n ≤ 1000) : (openBr n).ok := by
  refine ⟨hdO_typed, ⟨by show (portsO n).length = n * PL.length; rw [portsO_len]; rfl, fun i hi => ?_⟩, ⟨rfl, fun i hi => absurd hi (Nat.not_lt_zero i)⟩, ⟨rfl, fun i hi => absurd hi (Nat.not_lt_zero i)⟩⟩
  have e : ((portsO n).drop (i * PL.length)).take PL.length = portO ((i : Int) + 1) := by
    apply List.ext_getElem?
    intro j
    show ((List.drop (i * 89) (portsO n)).take 89)[j]? = _
    by_cases hj : j < 89
    · rw [List.getElem?_take_of_lt hj, List.getElem?_drop, portsO_at n i hi j hj]
    · rw [List.getElem?_eq_none (by rw [List.length_take]; omega), List.getElem?_eq_none (by rw [portO_len]; omega)]
  show Typed PL (((portsO n).drop (i * PL.length)).take PL.length)
  rw [e]
  exact portO_typed _ (by have : i < n := hi; omega)
theorem openBr_gb (n i : Nat) (hi : i < n) : (openBr n).gb i 2 = true ∧ (openBr n).gb i 27 = true ∧ (openBr n).gb i 29 = true := by
  refine ⟨?_, ?_, ?_⟩
  · unfold Br.gb
    rw [show (openBr n).ps[i * 89 + 2]? = some (.bool true) from (portsO_at n i hi 2 (by omega)).trans rfl]
  · unfold Br.gb
    rw [show (openBr n).ps[i * 89 + 27]? = some (.bool true) from (portsO_at n i hi 27 (by omega)).trans rfl]
  · unfold Br.gb
    rw [show (openBr n).ps[i * 89 + 29]? = some (.bool true) from (portsO_at n i hi 29 (by omega)).trans rfl]
set_option maxRecDepth 100000 in
set_option maxHeartbeats 8000000 in
theorem open_any (n : Nat) (hn : n ≤ 20) (w : World) : Calls Try.prog 21 #[.int .i64 n] w (Cloned w (openBr n)) := by
  obtain ⟨i1, hi1, hz1, hs1, hb1⟩ := info_of info_port
  have I1 := Lib.hid (And.intro hi1 (And.intro hz1 (And.intro hs1 hb1)))
  clear hi1 hz1 hs1 hb1
  go_enter Try.func21, Try.ntmps21
  go_upto_region 1 with (first
    | fail
    | ((with_reducible refine at_alloc 33 ?_); refine al_zero rfl 33 rfl BZ zero_br ?_
       intro X w1 hq hs hx
       have HQ := Lib.hid hq
       have HS := Lib.hid hs
       have HX := Lib.hid hx
       clear hq hs hx))
  go_wp2_with (first
    | fail
    | ((with_reducible refine at_build 24 ?_); refine wpList_build2 rfl 24 _ rfl [(1, .int .i64 20), (2, .int .i64 2), (3, .int .i64 15)] rfl #[.int .i64 0, .int .i64 20, .int .i64 2, .int .i64 15] b_times ?_)
    | ((with_reducible refine at_build 33 ?_); refine wpList_build2 rfl 33 _ rfl [(1, .bool true), (2, .agg #[.int .i64 0, .int .i64 20, .int .i64 2, .int .i64 15]), (3, .int .i64 6), (5, .int .i64 (-1))] rfl (rowO (.slice none 0 0)) b_br ?_)
    | ((with_reducible refine at_alloc 33 ?_); refine al_zero rfl 33 rfl BZ zero_br ?_
       intro Y w2 hq2 hs2 hx2)
    | ((with_reducible refine at_store 33 ?_); refine st_at rfl rfl 33 _ _ rfl Y 0 _ (rowO (.slice none 0 0)) BZ (rowO (.slice none 0 0)) 33 rfl rfl rfl hq2 (by exact (by decide : 0 + 20 ≤ 20)) (by kernel_rfl) rfl rfl ?_
       intro w3 hq3 hm3
       have hYw : w.heap.size ≤ Y := by have := HX.out.size; omega
       have hXY : X ≠ Y := by have := heap_lt HQ.out; omega
       have HQ3 := Lib.hid hq3
       have HX3 := Lib.hid ((HX.out.trans hx2).mutE hm3 (fun n hn h => by have h2 : n = Y := h; have := HX.out.size; omega))
       have HB3 := Lib.hid ((hm3.heap (heap_lt ((hx2.block X (heap_lt HQ.out)).trans HQ.out)) hXY).trans ((hx2.block X (heap_lt HQ.out)).trans HQ.out))
       clear hq2 hs2 hx2 hq3 hm3))
  obtain ⟨D, hD⟩ : ∃ D, w3.heap.size = D := ⟨_, rfl⟩
  have hXw : w.heap.size ≤ X := by have := HS.out; omega
  have hYD : Y < D ∧ X < D := ⟨hD ▸ heap_lt HQ3.out, hD ▸ heap_lt HB3.out⟩
  go_loopw [4] (fun s wr => ∃ (i : Nat) (v : Value), i ≤ n ∧ s = .int .i64 i ∧ Ext w wr ∧ D ≤ wr.heap.size ∧ wr.heap[X]? = some (.cells BZ 33 (0, 0)) ∧ wr.heap[Y]? = some (.cells (rowO v) 33 (0, 0)) ∧ wr.ownsRow D 69 89 v i (portsO i)) (fun s _ => n - (intOf s).toNat)
  case atStart => exact ⟨0, _, by omega, rfl, HX3.out, by omega, HB3.out, HQ3.out, ⟨rfl, .inl ⟨rfl, rfl⟩⟩⟩
  case round =>
    obtain ⟨i, v, hi, rfl, hx, hDr, hqX, hqY, hown⟩ := hrel
    rename World => wr
    have HXr := Lib.hid hx
    have HQX := Lib.hid hqX
    have HQY := Lib.hid hqY
    have HO := Lib.hid hown
    clear hx hqX hqY hown HQ3 HX3 HB3 hD HQ HS HX
    by_cases hlt : i < n
    · have dlt : decide (i < n) = true := by simpa using hlt
      have dlt2 : decide ((i : Int) < (n : Int)) = true := by simpa using hlt
      have hw1 : IntKind.i64.wrap ((i : Int) + 1) = (i : Int) + 1 := by rw [IntKind.wrap_i64]; omega
      have hw2 : IntKind.u16.wrap ((i : Int) + 1) = (i : Int) + 1 := by simp [IntKind.wrap, IntKind.signed, IntKind.bits, IntKind.min, IntKind.max]; omega
      have c17 : wr.cell? ⟨Y, 17, none⟩ = some v := by rw [cell_of_row _ _ _ _ _ _ HQY.out]; rfl
      go_wp2_with (first
        | fail
        | ((with_reducible refine at_build 65 ?_); refine wpList_build2 rfl 65 _ rfl [(7, .bool true), (5, .bool true)] rfl FLO b_fl ?_)
        | ((with_reducible refine at_build 69 ?_); refine wpList_build2 rfl 69 _ rfl [(0, .int .u16 ((i : Int) + 1)), (2, .bool true), (8, .agg FLO)] rfl (portO ((i : Int) + 1)).toArray (b_port _) ?_)
        | ((with_reducible refine at_bs 29 ?_); refine wpList_buildSlice rfl 29 69 1 _ rfl (portO ((i : Int) + 1)).toArray i1 (.agg PZ) Try.underlying29 I1.out.1 I1.out.2.1 (by rw [I1.out.2.2.1]; decide) (by rw [I1.out.2.2.1]; decide) (by rw [I1.out.2.2.1, Array.toList_map]; exact f_port _) ?_
           have hq4 := heap_alloc_new wr (.cells (portO ((i : Int) + 1)).toArray 69)
           have hx4 : Ext wr (wr.alloc (.cells (portO ((i : Int) + 1)).toArray 69)) := (Ext.refl _).alloc _
           obtain ⟨Z, hZ⟩ : ∃ Z, wr.heap.size = Z := ⟨_, rfl⟩
           rw [hZ] at hq4 ⊢
           generalize wr.alloc (.cells (portO ((i : Int) + 1)).toArray 69) = w4 at *)
        | (at_builtin; refine wpList_append_own _ rfl _ _ 29 rfl D 69 i1 (.agg PZ) 89 416 Try.underlying29 I1.out.1 I1.out.2.1 I1.out.2.2.1 I1.out.2.2.2 rfl (by decide) v i (portsO i) rfl (owns_ext HO.out hx4) ⟨Z, 0, none⟩ 1 1 (portO ((i : Int) + 1)) rfl (by rw [portO_len]) (fun j u hu => by
             rw [show (⟨Z, 0, none⟩ : Addr).add j = ⟨Z, j, none⟩ by unfold Addr.add; split <;> simp_all, cell_row hq4]
             simpa using hu) (fun u hu => (portO_typed _ (by omega)).one u hu) (by unfold maxLen; omega) (by omega) (Nat.le_trans hDr hx4.size) ?_
           intro v' w5 ho5 hg5 _
           have hnb : ∀ k, k < D → v.ownBlock ≠ some k := fun k hk he => by have := owns_lt' HO.out k he; omega
           have hqY5 := (hg5.block Y (by have := hx4.size; omega) (fun e => hnb Y hYD.1 e.symm)).trans ((hx4.block Y (heap_lt HQY.out)).trans HQY.out)
           have hqX5 := (hg5.block X (by have := hx4.size; omega) (fun e => hnb X hYD.2 e.symm)).trans ((hx4.block X (heap_lt HQX.out)).trans HQX.out)
           have HX5 := Lib.hid (show Ext w w5 from Below.grown (HXr.out.trans hx4) hg5 (HXr.out.trans hx4).size (fun q hq => by have := owns_lt' HO.out q hq; have := hYD.2; omega))
           have HD5 := Lib.hid (Nat.le_trans (Nat.le_trans hDr hx4.size) hg5.size)
           have HO5 := Lib.hid ho5
           have HQX5 := Lib.hid hqX5
           obtain ⟨a', cap', rfl⟩ := own_form ho5
           clear ho5 hg5 hq4 hx4 hZ hqX5 hnb)
        | ((with_reducible refine at_store 29 ?_); refine st_at rfl rfl 29 _ _ rfl Y 17 _ #[.slice a' (i + 1) cap'] (rowO v) (rowO (.slice a' (i + 1) cap')) 33 rfl rfl rfl hqY5 (by exact (by decide : 17 + 1 ≤ 20)) (by kernel_rfl) rfl rfl ?_
           intro w6 hq6 hm6
           have HQ6 := Lib.hid hq6
           have HM6 := Lib.hid hm6
           clear hqY5 hq6 hm6))
      go_roundw
      case rel =>
        have hown6 : w6.ownsRow D 69 89 (.slice a' (i + 1) cap') (i + 1) (portsO (i + 1)) := by
          rw [portsO_succ]
          refine owns_keep HO5.out (fun g hg hl => HM6.out.heap hl (fun hc => ?_))
          have h2 : g = Y := hc
          have := owns_lt' HO5.out g hg
          omega
        exact ⟨i + 1, _, by omega, by go_num, HX5.out.mutE HM6.out (fun n hn h => by have h2 : n = Y := h; omega), Nat.le_trans HD5.out HM6.out.size, (HM6.out.heap (heap_lt HQX5.out) (fun hc => by have h2 : X = Y := hc; omega)).trans HQX5.out, HQ6.out, hown6⟩
      case measure => simp [intOf] <;> omega
    · obtain rfl : i = n := by omega
      have dlt2 : decide ((i : Int) < (i : Int)) = false := by simp
      obtain ⟨a', cap', rfl⟩ := own_form HO.out
      go_wp2_with (first
        | fail
        | ((with_reducible refine at_load 33 ?_); refine wpList_load_row rfl 33 _ rfl Y rfl 33 (rowO (.slice a' i cap')) (0, 0) _ HQY.out Try.underlying33 rfl (by kernel_rfl) ?_)
        | ((with_reducible refine at_store 33 ?_); refine st_at rfl rfl 33 _ _ rfl X 0 _ (rowO (.slice a' i cap')) BZ (rowO (.slice a' i cap')) 33 rfl rfl rfl HQX.out (by exact (by decide : 0 + 20 ≤ 20)) (by kernel_rfl) rfl rfl ?_
           intro w6 hq6 hm6
           have HQ6 := Lib.hid hq6
           have HM6 := Lib.hid hm6
           clear hq6 hm6))
      refine bodyPost_ret (results_cell_row rfl _ _ _ _ (rowO (.slice a' i cap')) (0, 0) _ rfl HQ6.out Try.underlying33 rfl (by kernel_rfl)) rfl ?_
      refine ⟨rowO (.slice a' i cap'), rfl, ⟨_, _, _, rfl, owns_base (owns_keep HO.out (fun g hg hl => HM6.out.heap hl (fun hc => ?_))) (by omega), ⟨rfl, .inl ⟨rfl, rfl⟩⟩, ⟨rfl, .inl ⟨rfl, rfl⟩⟩⟩, HXr.out.mutE HM6.out (fun n hn h => by have h2 : n = X := h; omega)⟩
      have h2 : g = X := hc
      have := owns_lt' HO.out g hg
      omega

end Go.Proofs.Ytemmfbedchfekaa
