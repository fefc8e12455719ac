/- The document's database: a list in a box. No statement is proved here. -/
import Derived.Test.YtemmfbedchfekaaBrF
import Derived.Test.YtemmfbedchfekaaFdYq
import Derived.Test.YtemmfbedchfekaaFdZq
import Derived.Test.YtemmfbedchfekaaBoxOq
namespace Go.Proofs.Ytemmfbedchfekaa
open Go.RowKit Go.BigFrame Go.WideShapes Go.ChangeShapes Go.Deep
set_option linter.unusedVariables false
set_option linter.unusedSimpArgs false
set_option maxRecDepth 100000

/-- The document's database in box wb holds L; what lies there is none of F. -/
def Dw (w : World) (F : Nat → Prop) (wb : Nat) (L : List En) (most age : Int) : Prop :=
  ∃ a cap, w.heap[wb]? = some (.cells #[.int .i64 most, .int .i64 age, .slice a L.length cap] 42 (0, 0)) ∧ L.length ≤ 10000 ∧ ¬ F wb ∧
    (0 < L.length → ∃ b off, a = some ⟨b, off, none⟩ ∧ b < w.heap.size ∧ b ≠ wb ∧ ¬ F b ∧ L.length ≤ cap ∧ cap ≤ 9223372036854775807 ∧ w.rangeAt b off (evs L))
theorem Dw.keep {w w' : World} {F F' : Nat → Prop} {wb : Nat} {L : List En} {most age : Int} (h : Dw w F wb L most age) (hk : ∀ k, k < w.heap.size → ¬ F k → w'.heap[k]? = w.heap[k]?) (hs : w.heap.size ≤ w'.heap.size) (hF : ∀ k, k < w.heap.size → F' k → F k) : Dw w' F' wb L most age := by
  obtain ⟨a, cap, h1, h2, h3, h4⟩ := h
  have hl := heap_lt h1
  refine ⟨a, cap, (hk wb hl h3).trans h1, h2, fun hc => h3 (hF wb hl hc), fun h0 => ?_⟩
  obtain ⟨b, off, e, hb, hne, hFb, hc1, hc2, hr⟩ := h4 h0
  exact ⟨b, off, e, by omega, hne, fun hc => hFb (hF b hb hc), hc1, hc2, fun j v hv => by
    have := hr j v hv
    unfold World.cell? at this ⊢
    dsimp only at this ⊢
    rw [hk b hb hFb]; exact this⟩
theorem Dw.ext {w w' : World} {F : Nat → Prop} {wb : Nat} {L : List En} {most age : Int} (h : Dw w F wb L most age) (hx : Ext w w') : Dw w' F wb L most age := h.keep (fun k hk _ => hx.block k hk) hx.size (fun _ _ h => h)
/-- What a function reads of it. -/
theorem Dw.reads {w : World} {F : Nat → Prop} {wb : Nat} {L : List En} {most age : Int} (h : Dw w F wb L most age) : ∃ a cap, wb < w.heap.size ∧ L.length ≤ 10000 ∧ (∀ w', Ext w w' → w'.cell? ⟨wb, 0, none⟩ = some (.int .i64 most) ∧ w'.cell? ⟨wb, 1, none⟩ = some (.int .i64 age) ∧ w'.cell? ⟨wb, 2, none⟩ = some (.slice a L.length cap) ∧ w'.heap[wb]? = some (.cells #[.int .i64 most, .int .i64 age, .slice a L.length cap] 42 (0, 0))) ∧
    (0 < L.length → ∃ b off, a = some ⟨b, off, none⟩ ∧ L.length ≤ cap ∧ cap ≤ 9223372036854775807 ∧ ∀ w', Ext w w' → ∀ i (hi : i < L.length), w'.rangeAt b (off + i * 3) (ev (L[i]'hi))) := by
  obtain ⟨a, cap, h1, h2, h3, h4⟩ := h
  have hl := heap_lt h1
  refine ⟨a, cap, hl, h2, fun w' hx => ?_, fun h0 => ?_⟩
  · have := (hx.block wb hl).trans h1
    refine ⟨?_, ?_, ?_, this⟩ <;> rw [cell_row this] <;> rfl
  · obtain ⟨b, off, e, hb, hne, hFb, hc1, hc2, hr⟩ := h4 h0
    refine ⟨b, off, e, hc1, hc2, fun w' hx i hi j v hv => ?_⟩
    have hj : j < 3 := by
      have := (List.getElem?_eq_some_iff.1 hv).1
      simpa [ev] using this
    have := (rangeAt_ext hr hx hb) (i * 3 + j) v (by rw [evs_at L i hi j hj]; exact hv)
    rw [show off + i * 3 + j = off + (i * 3 + j) by omega]
    exact this
/-- A new list laid into the box. -/
theorem Dw.put {w wr w' : World} {F : Nat → Prop} {wb base : Nat} {L L' : List En} {most age : Int} (h : Dw w F wb L most age) (hF : ∀ k, F k → k < w.heap.size) (hx : Ext w wr) {v : Value} (ho : wr.ownsRow base 58 3 v L'.length (evs L')) (hb : w.heap.size ≤ base) (hl : L'.length ≤ 10000)
    (hrow : w'.heap[wb]? = some (.cells #[.int .i64 most, .int .i64 age, v] 42 (0, 0))) (hm : Mut (fun n => n = wb) wr w') : Dw w' F wb L' most age ∧ Mut (fun n => n = wb) w w' := by
  obtain ⟨a, cap, h1, h2, h3, h4⟩ := h
  have hwl := heap_lt h1
  obtain ⟨a', cap', rfl⟩ := own_form ho
  refine ⟨⟨a', cap', hrow, hl, h3, fun h0 => ?_⟩, (hx.mut _).trans hm⟩
  rcases ho.2 with ⟨e0, _⟩ | ⟨g, cap2, cur, hv', hb2, hg, hn1, hn2, hs, ht⟩
  · exfalso
    injection e0 with _ e1 _
    omega
  · injection hv' with e1 _ e2
    subst e1 e2
    have hgl := heap_lt hg
    refine ⟨g, 0, rfl, Nat.lt_of_lt_of_le hgl hm.size, by omega, fun hc => by have := hF g hc; omega, hn1, by unfold maxLen at hn2; omega, fun j u hu => ?_⟩
    have hgw : w'.heap[g]? = some (.cells cur 58 (0, 0)) := (hm.heap hgl (by omega)).trans hg
    rw [Nat.zero_add, cell_row hgw]
    rw [← ht, List.getElem?_take] at hu
    split at hu
    · simpa using hu
    · cases hu
theorem ref_addr (x : Int) (w : World) (h2 : 0 ≤ x) (h3 : x < 18446744073709551616) :
    Calls Try.prog 28 #[.int .u64 x] w fun e w' => e = .returned (.int .u64 (x % 281474976710656)) ∧ w = w' := by
  obtain ⟨x, rfl⟩ := Int.eq_ofNat_of_zero_le h2
  go_enter Try.func28, Try.ntmps28
  go_wp2_with fail
  go_ret
  exact ⟨by simp, rfl⟩
theorem ref_group (x : Int) (w : World) (h2 : 0 ≤ x) (h3 : x < 18446744073709551616) :
    Calls Try.prog 35 #[.int .u64 x] w fun e w' => e = .returned (.bool (x / 1099511627776 % 2 == 1)) ∧ w = w' := by
  obtain ⟨x, rfl⟩ := Int.eq_ofNat_of_zero_le h2
  go_enter Try.func35, Try.ntmps35
  go_wp2_with fail
  go_ret
  exact ⟨by simp, rfl⟩
/-! ### New slices of one entry, laid behind a row of one's own -/
theorem at_bs (T : TypeId) {P : Program} {ops : Array Oper} {rest : List Oper} {a : Act} {w : World} {Q : Exit → Act → World → Prop} {d : Option Tmp} {n : Nat} {xs : Array (Nat × Operand)} {ty : TypeId} {pos : String} {af : Array Edge}
    (h : wpList P ops Q ({ dst := d, op := .buildSlice T n xs, type := ty, pos := pos, after := af, guard := none } :: rest) a w) : wpList P ops Q ({ dst := d, op := .buildSlice T n xs, type := ty, pos := pos, after := af, guard := none } :: rest) a w := h
theorem info_dent : (Try.prog.info? 58).map (fun i => (i.zero, i.size, i.bytes)) = some (some (.agg EZ), 3, 24) := by kernel_rfl
theorem bdent (x p s : Int) : Try.prog.built 58 [(0, .int .u64 x), (1, .int .i64 p), (2, .int .i64 s)] = some #[.int .u64 x, .int .i64 p, .int .i64 s] := by kernel_rfl
theorem size_dent : (Try.prog.info? 58).map (·.size) = some 3 := by kernel_rfl
theorem zero_dent : ∀ w, (zeroValue 58).run Try.prog w = .ok (.agg EZ) w := (zero_of_info (P := Try.prog) (t := 58) (v := .agg EZ) (n := 3) (by kernel_rfl)).1
theorem wpList_one {ops : Array Oper} {rest : List Oper} {o : Oper} {a : Act} {w : World} {Q : Exit → Act → World → Prop} (hg : o.guard = none) (x : Operand) (ho : o.op = .buildSlice 40 1 #[(0, x)])
    (e : En) (hx : a.eval x = .agg (ev e).toArray) (h : ∀ (X : Nat) (w' : World), w'.heap[X]? = some (.cells (ev e).toArray 58 (0, 0)) → w.heap.size = X → Ext w w' → wpList Try.prog ops Q rest (a.put o.dst (.slice (some ⟨X, 0, none⟩) 1 1)) w') : wpList Try.prog ops Q (o :: rest) a w := by
  obtain ⟨i1, hi1, hz1, hs1, hb1⟩ := info_parts info_dent
  refine wpList_buildSlice hg 40 58 1 _ ho (ev e).toArray i1 (.agg EZ) Try.underlying40 hi1 hz1 (by rw [hs1]; decide) (by rw [hs1]; decide) ?_ (h _ _ (heap_alloc_new _ _) rfl ((Ext.refl w).alloc _))
  rw [hs1, Array.toList_map]
  show Instr.fill _ _ [(0, a.eval x)] = _
  rw [hx]
  exact fent e.1 e.2.1 e.2.2
theorem wpList_snoc {ops : Array Oper} {rest : List Oper} {o : Oper} {a : Act} {w : World} {Q : Exit → Act → World → Prop} (hgd : o.guard = none) (s x : Operand) (ho : o.op = .call { callee := .builtin .append, args := #[s, x], argTypes := #[40, 40] })
    (W0 : World) (hW : Ext W0 w) (v : Value) (L : List En) (hs : a.eval s = v) (hown : w.ownsRow W0.heap.size 58 3 v L.length (evs L)) (X : Nat) (e : En) (hx : a.eval x = .slice (some ⟨X, 0, none⟩) 1 1) (hX : w.heap[X]? = some (.cells (ev e).toArray 58 (0, 0))) (hl : L.length ≤ 10000)
    (h : ∀ v' w', w'.ownsRow W0.heap.size 58 3 v' (L ++ [e]).length (evs (L ++ [e])) → Ext W0 w' → wpList Try.prog ops Q rest (a.put o.dst v') w') : wpList Try.prog ops Q (o :: rest) a w := by
  obtain ⟨i1, hi1, hz1, hs1, hb1⟩ := info_parts info_dent
  refine wpList_append_own w hgd s x 40 ho W0.heap.size 58 i1 (.agg EZ) 3 24 Try.underlying40 hi1 hz1 hs1 hb1 rfl (by decide) v L.length (evs L) hs hown ⟨X, 0, none⟩ 1 1 (ev e) hx rfl (fun j u hu => ?_) (fun u hu => evs_one [e] u (by simpa [evs] using hu)) (by unfold maxLen; omega) (by omega) hW.size fun v' w' ho' hg _ => ?_
  · rw [show (⟨X, 0, none⟩ : Addr).add j = ⟨X, j, none⟩ by unfold Addr.add; split <;> simp_all, cell_row hX]
    simpa using hu
  · refine h v' w' ?_ (Below.grown hW hg hW.size (fun q hq => owns_lt' hown q hq))
    rw [evs_snoc, List.length_append]
    exact ho'

/-- Where an address's entry is. -/
def PosP (m : Int) (L : List En) (k : Int) : Prop := (k = -1 ∧ m ∉ L.map Prod.fst) ∨ ∃ i : Nat, ∃ hi : i < L.length, k = i ∧ (L[i]'hi).1 = m
set_option maxRecDepth 100000 in
set_option maxHeartbeats 4000000 in
theorem d_at (w : World) (F : Nat → Prop) (wb : Nat) (L : List En) (most age : Int) (h : Dw w F wb L most age) (x : Int) (hx0 : 0 ≤ x ∧ x < 18446744073709551616) :
    Calls Try.prog 45 #[.pointer (some ⟨wb, 0, none⟩), .int .u64 x] w fun e w' => (∃ k, e = .returned (.int .i64 k) ∧ PosP (x % 281474976710656) L k) ∧ Ext w w' := by
  obtain ⟨a, cap, hwl, hl, hcells, hrows⟩ := h.reads
  have HC := Lib.hid hcells
  have HR := Lib.hid hrows
  have HD := Lib.hid h
  clear hcells hrows h
  go_enter Try.func45, Try.ntmps45
  go_wp2_with fail
  go_loopw [5] (fun s wr => ∃ i : Nat, i ≤ L.length ∧ s = .int .i64 i ∧ Ext w wr ∧ ∀ j (hj : j < L.length), j < i → (L[j]'hj).1 ≠ x % 281474976710656) (fun s _ => L.length - (intOf s).toNat)
  case atStart => exact ⟨0, by omega, rfl, Ext.refl _, fun j _ hj => by omega⟩
  case round =>
    obtain ⟨i, hi, rfl, hx, hne⟩ := hrel
    rename World => wr
    have HX := Lib.hid hx
    have HN := Lib.hid hne
    obtain ⟨-, -, c2, -⟩ := HC.out wr hx
    clear hx hne
    by_cases hlt : i < L.length
    · have dlt : decide ((i : Int) < (L.length : Int)) = true := by simp; omega
      obtain ⟨b, off, rfl, hlc, hcm, hrg⟩ := HR.out (by omega)
      obtain ⟨y, q, t, he⟩ : ∃ y q t, L[i] = (y, q, t) := ⟨_, _, _, rfl⟩
      have hr := hrg wr HX.out i hlt
      rw [he] at hr
      have d0 : wr.cell? ⟨b, off + i * 3, none⟩ = some (.int .u64 y) := hr 0 _ rfl
      by_cases hy : y = x % 281474976710656
      · have dy : (y == x % 281474976710656) = true := by simpa using hy
        have HY := Lib.hid hy
        clear hy hr hrg
        go_wp2_with fail
        go_quiet ((go_at_call 28; exact quietL (ref_addr _ _ (by omega) (by omega))))
        go_wp2_with fail
        go_ret
        exact ⟨⟨_, rfl, .inr ⟨i, hlt, rfl, by rw [he]; exact HY.out⟩⟩, HX.out.drewN _⟩
      · have dy : (y == x % 281474976710656) = false := by simpa using hy
        have HY := Lib.hid hy
        have hup : IntKind.i64.wrap ((i : Int) + 1) = ((i + 1 : Nat) : Int) := by rw [IntKind.wrap_i64]; omega
        clear hy hr hrg
        go_wp2_with fail
        go_quiet ((go_at_call 28; exact quietL (ref_addr _ _ (by omega) (by omega))))
        go_wp2_with fail
        go_roundw
        case rel =>
          refine ⟨i + 1, by omega, by go_num, HX.out.drewN _, fun j hj hji => ?_⟩
          by_cases hji2 : j = i
          · subst hji2
            rw [he]; exact HY.out
          · exact HN.out j hj (by omega)
        case measure => simp [intOf] <;> omega
    · obtain rfl : i = L.length := by omega
      have dlt : decide ((L.length : Int) < (L.length : Int)) = false := by simp
      go_wp2_with fail
      go_ret
      refine ⟨⟨_, rfl, .inl ⟨rfl, fun hm => ?_⟩⟩, HX.out⟩
      obtain ⟨e, he, hk⟩ := List.mem_map.1 hm
      obtain ⟨j, hj, rfl⟩ := List.getElem_of_mem he
      exact HN.out j hj hj hk
set_option maxRecDepth 100000 in
set_option maxHeartbeats 4000000 in
theorem d_find (w : World) (F : Nat → Prop) (wb : Nat) (L : List En) (most age : Int) (h : Dw w F wb L most age) (x : Int) (hx0 : 0 ≤ x ∧ x < 18446744073709551616) :
    Calls Try.prog 34 #[.pointer (some ⟨wb, 0, none⟩), .int .u64 x] w fun e w' => ((∃ e0 ∈ L, e0.1 = x % 281474976710656 ∧ e = .returned (.tuple #[.int .i64 e0.2.1, .bool true])) ∨ (x % 281474976710656 ∉ L.map Prod.fst ∧ e = .returned (.tuple #[.int .i64 (-1), .bool false]))) ∧ Ext w w' := by
  obtain ⟨a, cap, hwl, hl, hcells, hrows⟩ := h.reads
  have HC := Lib.hid hcells
  have HR := Lib.hid hrows
  have HD := Lib.hid h
  clear hcells hrows h
  go_enter Try.func34, Try.ntmps34
  go_wp2_with fail
  refine (d_at w F wb L most age HD.out x hx0).mono ?_
  rintro e wr ⟨⟨k, rfl, hp⟩, hx⟩
  have HX := Lib.hid hx
  clear hx
  rcases hp with ⟨rfl, hn⟩ | ⟨i, hlt, rfl, hk⟩
  · go_wp2_with fail
    go_ret2
    exact ⟨.inr ⟨hn, rfl⟩, HX.out⟩
  · have dlt : decide ((i : Int) < 0) = false := by simp
    obtain ⟨-, -, c2, -⟩ := HC.out wr HX.out
    obtain ⟨b, off, rfl, hlc, hcm, hrg⟩ := HR.out (by omega)
    obtain ⟨y, q, t, he⟩ : ∃ y q t, L[i] = (y, q, t) := ⟨_, _, _, rfl⟩
    have hr := hrg wr HX.out i hlt
    rw [he] at hr
    have d1 : wr.cell? ⟨b, off + i * 3 + 1, none⟩ = some (.int .i64 q) := hr 1 _ rfl
    clear hr hrg
    go_wp2_with fail
    go_ret2
    exact ⟨.inl ⟨(y, q, t), he ▸ List.getElem_mem hlt, by rw [he] at hk; exact hk, rfl⟩, HX.out⟩

end Go.Proofs.Ytemmfbedchfekaa
