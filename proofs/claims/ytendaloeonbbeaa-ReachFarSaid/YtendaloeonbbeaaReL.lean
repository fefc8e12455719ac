/- How far it is: appends of costs; the document's ways. No statement is proved here. -/
import Derived.Test.YtendaloeonbbeaaReJ
import Derived.Laws.AppendOwnNone
import Derived.Test.YtendaloeonbbeaaReK
namespace Go.Proofs.Ytendaloeonbbeaa
open Go.RowKit Go.BigFrame Go.WideShapes Go.ChangeShapes Go.Deep
set_option linter.unusedVariables false
set_option linter.unusedSimpArgs false

theorem info_u32 : (Try.prog.info? 38).map (fun i => (i.zero, i.size, i.bytes)) = some (some (.int .u32 0), 1, 4) := by kernel_rfl
def WZ : Array Value := #[.int .u64 0, .int .u64 0, .bool false]
theorem zero_way : ∀ w, (zeroValue 34).run Try.prog w = .ok (.agg WZ) w := (zero_of_info (P := Try.prog) (t := 34) (v := .agg WZ) (n := 3) (by kernel_rfl)).1
theorem isU_own {w : World} {base : Nat} {t : TypeId} {v : Value} {xs : List Int} (h : w.ownsRow base t 1 v xs.length (xs.map (Value.int .u32))) : IsInts w .u32 v xs := by
  rcases h.2 with ⟨rfl, h0⟩ | ⟨g, cap, cur, rfl, hb, hg, hn, hm, hs, ht⟩
  · exact .inl ⟨List.eq_nil_of_length_eq_zero h0, .inl rfl⟩
  · by_cases h0 : xs.length = 0
    · have hx := List.eq_nil_of_length_eq_zero h0
      subst hx
      exact .inl ⟨rfl, .inr ⟨_, _, rfl⟩⟩
    · refine .inr ⟨g, 0, cap, rfl, by omega, hn, hm, ?_, fun i hi => ?_⟩
      · exact (Array.getElem?_eq_some_iff.1 hg).1
      · have := h.cells (g := g) rfl i (.int .u32 (xs.getD i 0)) (by simp [List.getD, hi])
        have hp : (⟨g, 0, none⟩ : Addr).add i = ⟨g, 0 + i, none⟩ := by unfold Addr.add; split <;> simp_all
        rwa [hp] at this
theorem wpList_app4 {ops : Array Oper} {rest : List Oper} {o : Oper} {a : Act} {Q : Exit → Act → World → Prop} {w : World} (hgd : o.guard = none) (s x : Operand)
    (ho : o.op = .call { callee := .builtin .append, args := #[s, x], argTypes := #[37, 37] }) (W0 : World) (hW : Ext W0 w) (v u : Value) (xs ys : List Int) (hs : a.eval s = v) (hx : a.eval x = u)
    (hown : w.ownsRow W0.heap.size 38 1 v xs.length (xs.map (Value.int .u32))) (hu : IsInts w .u32 u ys) (hl : xs.length + ys.length ≤ 100000)
    (h : ∀ v' w', w'.ownsRow W0.heap.size 38 1 v' (xs ++ ys).length ((xs ++ ys).map (Value.int .u32)) → Ext W0 w' → w.grownBy w' v.ownBlock → wpList Try.prog ops Q rest (a.put o.dst v') w') : wpList Try.prog ops Q (o :: rest) a w := by
  obtain ⟨i0, hi, hz0, hz1, hz2⟩ := info_parts info_u32
  rcases hu with ⟨rfl, rfl | ⟨ad, cap, rfl⟩⟩ | ⟨b, off, cap, rfl, h0, hlc, hm, hb, hc⟩
  · exact wpList_append_own_none hgd s x 37 ho W0.heap.size 38 i0 1 Try.underlying37 hi v _ _ hs hown hx (h v w (by simpa using hown) hW ⟨rfl, rfl, rfl, Nat.le_refl _, fun _ _ _ => rfl⟩)
  · refine wpList_append_own w hgd s x 37 ho W0.heap.size 38 i0 (.int .u32 0) 1 4 Try.underlying37 hi hz0 hz1 hz2 rfl (by decide) v _ _ hs hown ad 0 cap [] hx rfl (fun j u hj => by simp at hj) (fun u hu => by simp at hu) (by unfold maxLen; simp at hl; omega) (by simp at hl; omega) hW.size ?_
    intro v' w1 hown' hgrow _
    exact h v' w1 (by simpa using hown') (Below.grown hW hgrow hW.size (fun g hg => (hown.lt g hg).1)) hgrow
  · refine wpList_append_own w hgd s x 37 ho W0.heap.size 38 i0 (.int .u32 0) 1 4 Try.underlying37 hi hz0 hz1 hz2 rfl (by decide) v _ _ hs hown ⟨b, off, none⟩ ys.length cap (ys.map (Value.int .u32)) hx (by simp) ?_ (fun u hu => by
      simp at hu
      obtain ⟨x, _, rfl⟩ := hu
      rfl) (by unfold maxLen; omega) (by omega) hW.size ?_
    · intro j u hj
      have hjl : j < ys.length := by
        rcases Nat.lt_or_ge j ys.length with h | h
        · exact h
        · simp [List.getElem?_eq_none h] at hj
      have hp : (⟨b, off, none⟩ : Addr).add j = ⟨b, off + j, none⟩ := by unfold Addr.add; split <;> simp_all
      rw [hp, hc j hjl]
      simp [List.getElem?_eq_getElem hjl] at hj
      subst hj
      simp [List.getD, hjl]
    · intro v' w1 hown' hgrow _
      exact h v' w1 (by simpa using hown') (Below.grown hW hgrow hW.size (fun g hg => (hown.lt g hg).1)) hgrow
theorem own04 (w : World) : (w.alloc (.cells #[] 38)).ownsRow w.heap.size 38 1 (.slice (some ⟨w.heap.size, 0, none⟩) 0 0) ([] : List Int).length (([] : List Int).map (Value.int .u32)) :=
  ⟨rfl, .inr ⟨w.heap.size, 0, #[], rfl, Nat.le_refl _, heap_alloc_new _ _, Nat.le_refl _, by decide, rfl, rfl⟩⟩
theorem sumC_app (xs ys : List Int) : sumC (xs ++ ys) = sumC xs + sumC ys := by simp [sumC, List.map_append, List.sum_append]
theorem u_wrap (n : Int) (h0 : 0 ≤ n) (h1 : n < 18446744073709551616) : IntKind.u64.wrap n = n := by
  simp [IntKind.wrap, IntKind.bits, IntKind.signed]
  omega
theorem eqg_add (t : TypeId) (a b : Value) (x y : Operand) (w : World) : (eqGuard .add t x y a b).run Try.prog w = .ok () w := by
  simp [eqGuard]
theorem eqg_way (q : Way) (x y : Operand) (w : World) : (eqGuard .eql 30 x y (cvW q) (cvW q)).run Try.prog w = .ok () w := by
  cases q <;> rfl
theorem way_b (n : Int) : Try.prog.built 34 [(1, .int .u64 n), (2, .bool true)] = some #[.int .u64 0, .int .u64 n, .bool true] := by kernel_rfl

end Go.Proofs.Ytendaloeonbbeaa
