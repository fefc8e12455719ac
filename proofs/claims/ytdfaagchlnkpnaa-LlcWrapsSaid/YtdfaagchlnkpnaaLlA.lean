/- Zeros put behind a row of bytes of one's own. No statement is proved here. -/
import Derived.Test.YtdfaagchlnkpnaaBpI
namespace Go.Proofs.Ytdfaagchlnkpnaa
open Go.RowKit Go.BigFrame Go.WideShapes Go.ChangeShapes Go.Deep
set_option linter.unusedVariables false
set_option linter.unusedSimpArgs false

def zrs (m : Nat) : List Int := List.replicate m 0
theorem zc_eq (m : Nat) : (Builtin.zeroCells #[Value.int .u8 0] m).toList = (zrs m).map (Value.int .u8) := by
  apply List.ext_getElem?
  intro j
  by_cases hj : j < m
  · simp [Builtin.zeroCells, zrs, hj, Nat.mod_one]
  · rw [List.getElem?_eq_none (by simp [Builtin.zeroCells]; omega), List.getElem?_eq_none (by simp [zrs]; omega)]
theorem run_append_z (w : World) (base m n : Nat) (v : Value) (xs : List Int) (i : TypeInfo) (ty : TypeId) (hi : Try.prog.info? 5 = some i) (hz : i.zero = some (.int .u8 0)) (hs : i.size = 1) (hb : i.bytes = 1)
    (hown : w.ownsRow base 5 1 v n (xs.map (Value.int .u8))) (hm : 0 < m) (hl : n + m ≤ 100000) (hbase : base ≤ w.heap.size) :
    ∃ v' w', (Builtin.append_ #[33, 3] ty #[v, .int .i64 m]).run Try.prog w = .ok v' w' ∧ w'.ownsRow base 5 1 v' (n + m) ((xs ++ zrs m).map (Value.int .u8)) ∧ w.grownBy w' v.ownBlock := by
  have hxl : (xs.map (Value.int .u8)).length = n := by have := hown.1; omega
  have hw : IntKind.i64.wrap (m : Int) = m := by rw [IntKind.wrap_i64]; omega
  have hneg : ¬ ((m : Int) < 0) := by omega
  have h48i : ¬ (281474976710656 < (m : Int)) := by omega
  have hm0 : m ≠ 0 := by omega
  have hlen : ((xs ++ zrs m).map (Value.int .u8)).length = (n + m) * 1 := by simp [zrs] at hxl ⊢; omega
  rcases hown.2 with ⟨rfl, rfl⟩ | ⟨g, cap, cur, rfl, hbg, hg, hnc, hcm, hcs, htake⟩
  · have hx : xs = [] := by
      cases xs with
      | nil => rfl
      | cons a l => simp at hxl
    subst hx
    have h48' : ¬ (281474976710656 < Builtin.nextslicecap m 0) := by rw [nextslicecap_zero hm]; omega
    have h63' : ¬ (9223372036854775807 < (m : Int)) := by omega
    have hr : (Builtin.append_ #[33, 3] ty #[.slice none 0 0, .int .i64 m]).run Try.prog w = .ok (.slice (some ⟨w.heap.size, 0, none⟩) m (grownCap w m 0 5)) (w.drew.alloc (.cells (Builtin.zeroCells #[.int .u8 0] m ++ Builtin.zeroCells #[.int .u8 0] (grownCap w m 0 5 - m)) 5)) := by
      simp [Builtin.append_, run_underlying Try.underlying33, run_underlying Try.underlying3, sizeOf, typeInfo, zeroValue, hi, hz, hs, hb, asInt, asIntOf, hw, hneg, h48i, hm0, h48', h63', Question.forced, run_firstCells_none, newRow, grownCap, Value.cells]
    refine ⟨_, _, hr, ⟨by simpa using hlen, .inr ⟨w.heap.size, _, _, by rw [Nat.zero_add], hbase, heap_alloc_new w.drew _, by simpa using grownCap_ge w m 0 _, grownCap_le_maxLen w m 0 _ (by unfold maxLen; omega), ?_, ?_⟩⟩, ⟨rfl, rfl, rfl, by simp, fun k hk _ => (by show (w.heap.push _)[k]? = w.heap[k]?; rw [Array.getElem?_push, if_neg (by omega)])⟩⟩
    · have := grownCap_ge w m 0 5
      simp [size_zeroCells]; omega
    · rw [Array.toList_append, zc_eq, List.take_append_of_le_length (by simp [zrs]), List.take_of_length_le (by simp [zrs])]
      simp
  · by_cases hroom : n + m ≤ cap
    · have hfit : n + ((zrs m).map (Value.int .u8)).length ≤ cur.size := by simp [zrs]; omega
      have hst := run_storeCells_at Try.prog g n 5 ((zrs m).map (Value.int .u8)) 0 cur w hg (by simpa using hfit) (fun v hv => by simp at hv; obtain ⟨_, _, rfl⟩ := hv; rfl)
      rw [← zc_eq] at hst
      simp only [Nat.add_zero] at hst
      have hr : (Builtin.append_ #[33, 3] ty #[.slice (some ⟨g, 0, none⟩) n cap, .int .i64 m]).run Try.prog w = .ok (.slice (some ⟨g, 0, none⟩) (n + m) cap) (w.setRow g (cur.toList.take n ++ (Builtin.zeroCells #[Value.int .u8 0] m).toList ++ cur.toList.drop (n + (Builtin.zeroCells #[Value.int .u8 0] m).toList.length)).toArray) := by
        simp [Builtin.append_, run_underlying Try.underlying33, run_underlying Try.underlying3, sizeOf, typeInfo, zeroValue, hi, hz, hs, hb, asInt, asIntOf, hw, hneg, h48i, hm0, hroom, Addr.add_lit, Value.cells]
        simp at hst
        rw [hst]
        simp
      refine ⟨_, _, hr, ⟨hlen, .inr ⟨g, cap, _, rfl, hbg, setRow_heap w g cur _ _ _ hg, hroom, hcm, ?_, ?_⟩⟩, ⟨rfl, rfl, rfl, by simp, fun k _ hk => setRow_other w g k _ (fun e => hk (by simp [Value.ownBlock, e]))⟩⟩
      · rw [zc_eq] at *
        simp only [List.size_toArray, List.length_append, List.length_take, List.length_drop, Array.length_toList]
        simp [zrs] at hfit ⊢
        omega
      · rw [zc_eq, Nat.mul_one] at *
        rw [htake, ← List.map_append, List.take_append_of_le_length (by omega), List.take_of_length_le (by omega)]
    · have hn : ¬ (n + m ≤ cap) := hroom
      have holds : ∀ j u, (xs.map (Value.int .u8))[j]? = some u → w.cell? ((⟨g, 0, none⟩ : Addr).add j) = some u := hown.cells (g := g) rfl
      have hfo := run_firstCells_some (P := Try.prog) w.drew 1 n ⟨g, 0, none⟩ n cap (xs.map (Value.int .u8)) (by omega) (by simpa using holds)
      have h63' : ¬ (9223372036854775807 < ((n : Int) + (m : Int))) := by omega
      have h48' : ¬ (281474976710656 < Builtin.nextslicecap (n + m) cap) := by
        have := growslice_fits (need := n + m) (bytes := 1) (show cap < n + m by omega) (by omega)
        omega
      have hr : (Builtin.append_ #[33, 3] ty #[.slice (some ⟨g, 0, none⟩) n cap, .int .i64 m]).run Try.prog w = .ok (.slice (some ⟨w.heap.size, 0, none⟩) (n + m) (grownCap w (n + m) cap 5)) (w.drew.alloc (.cells ((xs.map (Value.int .u8)).toArray ++ Builtin.zeroCells #[.int .u8 0] m ++ Builtin.zeroCells #[.int .u8 0] (grownCap w (n + m) cap 5 - (n + m))) 5)) := by
        simp [Builtin.append_, run_underlying Try.underlying33, run_underlying Try.underlying3, sizeOf, typeInfo, zeroValue, hi, hz, hs, hb, asInt, asIntOf, hw, hneg, h48i, hm0, hn, h48', h63', Question.forced, hfo, newRow, grownCap, Value.cells]
      have hge := grownCap_ge w (n + m) cap 5
      refine ⟨_, _, hr, ⟨hlen, .inr ⟨w.heap.size, _, _, rfl, hbase, heap_alloc_new w.drew _, hge, grownCap_le_maxLen w (n + m) cap _ (by unfold maxLen; omega), ?_, ?_⟩⟩, ⟨rfl, rfl, rfl, by simp, fun k hk _ => (by show (w.heap.push _)[k]? = w.heap[k]?; rw [Array.getElem?_push, if_neg (by omega)])⟩⟩
      · simp only [Array.size_append, List.size_toArray, size_zeroCells, hxl]
        simp; omega
      · rw [Array.toList_append, Array.toList_append, zc_eq]
        simp only [List.append_assoc]
        rw [← List.append_assoc, ← List.map_append, ← hlen]
        exact List.take_left
/-- Zeros put behind a row of one's own. -/
theorem wpList_appz {ops : Array Oper} {rest : List Oper} {o : Oper} {a : Act} {Q : Exit → Act → World → Prop} {w : World} (hgd : o.guard = none) (s x : Operand)
    (ho : o.op = .call { callee := .builtin .append, args := #[s, x], argTypes := #[33, 3] }) (W0 : World) (hW : Ext W0 w) (v : Value) (m n : Nat) (xs : List Int) (hs : a.eval s = v) (hx : a.eval x = .int .i64 m)
    (hown : w.ownsRow W0.heap.size 5 1 v n (xs.map (Value.int .u8))) (hm : 0 < m) (hl : n + m ≤ 100000)
    (h : ∀ v' w', w'.ownsRow W0.heap.size 5 1 v' (n + m) ((xs ++ zrs m).map (Value.int .u8)) → Ext W0 w' → wpList Try.prog ops Q rest (a.put o.dst v') w') : wpList Try.prog ops Q (o :: rest) a w := by
  obtain ⟨i0, hi, hz0, hz1, hz2⟩ := info_parts info_u8
  obtain ⟨v', w', hr, h2, hg⟩ := run_append_z w W0.heap.size m n v xs i0 o.type hi hz0 hz1 hz2 hown hm hl hW.size
  refine wpList_plain hgd fun K hK => ?_
  unfold Oper.wp
  simp [execOp, ho, resolve, invoke, builtin, hs, hx, hr, Result.andThen]
  exact hK _ _ (h v' w' h2 (Below.grown hW hg hW.size (fun g hg => (hown.lt g hg).1)))

end Go.Proofs.Ytdfaagchlnkpnaa
