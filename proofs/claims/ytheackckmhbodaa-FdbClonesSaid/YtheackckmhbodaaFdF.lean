/- The database: made, and asked. No statement is proved here. -/
import Derived.Test.YtheackckmhbodaaFdD
import Derived.Test.YtheackckmhbodaaFdE
import Derived.Test.YtheackckmhbodaaRegO
import Derived.Test.YtheackckmhbodaaHeld
namespace Go.Proofs.Ytheackckmhbodaa
open Go.RowKit Go.BigFrame Go.WideShapes Go.ChangeShapes Go.Deep
set_option linter.unusedVariables false
set_option linter.unusedSimpArgs false

theorem bx_row {P : Program} {ops : Array Oper} {rest : List Oper} {op : Oper} {a : Act} {w : World} {Q : Exit → Act → World → Prop} (hgd : op.guard = none) (t : TypeId) (x : Operand) (ho : op.op = .box t x) (cells : Array Value) (hx : (a.eval x).cells = cells)
    (h : ∀ (X : Nat) (w' : World), w'.heap[X]? = some (.cells cells t (0, 0)) → w.heap.size = X → Ext w w' → wpList P ops Q rest (a.put op.dst (.pointer (some ⟨X, 0, none⟩))) w') : wpList P ops Q (op :: rest) a w := by
  subst hx
  refine wpList_plain hgd fun K hK => ?_
  unfold Oper.wp execOp
  simp only [ho, Sem.run_bind, Instr.box, newVar, newRow, run_newObj_alloc, Sem.run_pure, Result.andThen_ok]
  exact hK _ _ (h _ _ (heap_alloc_new _ _) rfl ((Ext.refl w).alloc _))

/-- The database f holds L; all that is its own is in F. -/
def Fb (w : World) (F : Nat → Prop) (f : Nat) (L : List En) (most age : Int) : Prop :=
  ∃ b D gb, FbC w F f b D L gb most age ∧ w.ownsMap Try.prog 30 pE b L.length D ∧ ∀ k, F k → k < w.heap.size
theorem owns_tight {w : World} {b n : Nat} {D : DU} (h : w.ownsMap Try.prog 30 pE b n D) : w.ownsMap Try.prog 30 pE b (Maps.size D) D := by
  obtain ⟨es, clock, hb, F, hs, rfl⟩ := h
  exact ⟨es, clock, hb, F, by simp [Maps.size, length_sorted], rfl⟩
theorem DoneP.fb {w w' : World} {F : Nat → Prop} {f b n : Nat} {L : List En} {gb : Int → Nat} {most age : Int} (h : DoneP F w F f b n L gb most age w') (hL : Ok age L) (hF : ∀ k, F k → k < w.heap.size) : Fb w' F f L most age ∧ Mut F w w' := by
  obtain ⟨D, h1, h2, h3⟩ := h
  refine ⟨⟨b, D, gb, h1, ?_, fun k hk => Nat.lt_of_lt_of_le (hF k hk) h3.size⟩, h3⟩
  have := owns_tight h2
  rwa [h1.size hL h2] at this
theorem owns_ext' {w w' : World} {b n : Nat} {D : DU} (h : w.ownsMap Try.prog 30 pE b n D) (hx : Ext w w') : w'.ownsMap Try.prog 30 pE b n D := by
  have hlt := h.lt
  obtain ⟨es, clock, hb, F, hs, hD⟩ := h
  exact ⟨es, clock, (hx.block b hlt).trans hb, F, hs, hD⟩
theorem Fb.ext {w w' : World} {F : Nat → Prop} {f : Nat} {L : List En} {most age : Int} (h : Fb w F f L most age) (hx : Ext w w') : Fb w' F f L most age := by
  obtain ⟨b, D, gb, h1, h2, h3⟩ := h
  exact ⟨b, D, gb, h1.ext (fun k hk _ _ => hx.block k hk), owns_ext' h2 hx, fun k hk => Nat.lt_of_lt_of_le (h3 k hk) hx.size⟩
/-- Another one's changes. -/
theorem Fb.apart {w w' : World} {F G : Nat → Prop} {f : Nat} {L : List En} {most age : Int} (h : Fb w F f L most age) (hm : Mut G w w') (hd : ∀ k, F k → ¬ G k) : Fb w' F f L most age := by
  obtain ⟨b, D, gb, h1, h2, h3⟩ := h
  refine ⟨b, D, gb, h1.ext (fun k hk _ hF => hm.heap hk (hd k hF)), ?_, fun k hk => Nat.lt_of_lt_of_le (h3 k hk) hm.size⟩
  have hlt := h2.lt
  obtain ⟨es, clock, hb, F', hs, hD⟩ := h2
  exact ⟨es, clock, (hm.heap hlt (hd b h1.fF.2)).trans hb, F', hs, hD⟩
/-- What a look-up gives. -/
theorem look_run {w : World} {F : Nat → Prop} {f b n : Nat} {D : DU} {L : List En} {gb : Int → Nat} {most age : Int} (h : FbC w F f b D L gb most age) (hm : w.ownsMap Try.prog 30 pE b n D) (x : Int) (hx : (Lit.int .u64 x).wf = true) :
    ∀ W', Ext w W' → (Instr.lookup 52 (.map (some b)) (.int .u64 x) false).run Try.prog W' = .ok (.pointer (if x ∈ L.map Prod.fst then some ⟨gb x, 0, none⟩ else none)) W' := by
  intro W' hx'
  obtain ⟨v, ps, hrun, hv⟩ := (owns_ext' hm hx').lookup KK Try.underlying52 (z := .pointer none) (zd := .lit (.int .i64 (-1))) (zp := []) (by rfl) rfl (Maps.keyOf_int_mk Try.underlying30 hx)
  rw [hrun]
  rw [h.at_] at hv
  rcases pE_inv hv with ⟨rfl, hy⟩ | ⟨g, rfl, hy⟩
  · by_cases hm : x ∈ L.map Prod.fst
    · rw [if_pos hm] at hy; simp at hy
    · rw [if_neg hm]
  · by_cases hm : x ∈ L.map Prod.fst
    · rw [if_pos hm] at hy
      simp at hy
      rw [if_pos hm, show gb x = g by omega]
    · rw [if_neg hm] at hy; simp at hy

set_option maxRecDepth 100000 in
set_option maxHeartbeats 4000000 in
theorem new_bad (w : World) (size age : Int) (h : size < 1 ∨ 4096 < size ∨ age < 1 ∨ 1000000 < age) : Calls Try.prog 11 #[.int .i64 size, .int .i64 age] w fun e w' => e = .returned (.pointer none) ∧ w' = w := by
  go_enter Try.func11, Try.ntmps11
  have HH := Lib.hid h
  clear h
  by_cases h0 : size < 1
  · have d0 : decide (size < 1) = true := decide_eq_true h0
    go_wp2_with fail
    go_ret
    exact ⟨rfl, rfl⟩
  have d0 : decide (size < 1) = false := decide_eq_false h0
  have H0 := Lib.hid h0
  clear h0
  by_cases h1 : 4096 < size
  · have d1 : decide (4096 < size) = true := decide_eq_true h1
    go_wp2_with fail
    go_ret
    exact ⟨rfl, rfl⟩
  have d1 : decide (4096 < size) = false := decide_eq_false h1
  have H1 := Lib.hid h1
  clear h1
  by_cases h2 : age < 1
  · have d2 : decide (age < 1) = true := decide_eq_true h2
    go_wp2_with fail
    go_ret
    exact ⟨rfl, rfl⟩
  have d2 : decide (age < 1) = false := decide_eq_false h2
  have d3 : decide (1000000 < age) = true := decide_eq_true (by have := HH.out; have := H0.out; have := H1.out; omega)
  go_wp2_with fail
  go_ret
  exact ⟨rfl, rfl⟩
set_option maxRecDepth 100000 in
set_option maxHeartbeats 4000000 in
theorem new_good (w : World) (size age : Int) (h : (1 ≤ size ∧ size ≤ 4096) ∧ 1 ≤ age ∧ age ≤ 1000000) : Calls Try.prog 11 #[.int .i64 size, .int .i64 age] w fun e w' => ∃ f, e = .returned (.pointer (some ⟨f, 0, none⟩)) ∧ Ext w w' ∧ w.heap.size ≤ f ∧ Fb w' (fun k => w.heap.size ≤ k ∧ k < w'.heap.size) f [] size age := by
  go_enter Try.func11, Try.ntmps11
  have d0 : decide (size < 1) = false := decide_eq_false (by omega)
  have d1 : decide (4096 < size) = false := decide_eq_false (by omega)
  have d2 : decide (age < 1) = false := decide_eq_false (by omega)
  have d3 : decide (1000000 < age) = false := decide_eq_false (by omega)
  clear h
  have hmk : (Instr.makeMap 52 none).run Try.prog w = .ok (.map (some w.heap.size)) (w.alloc (.map #[] 0)) := by rfl
  go_wp2_with fail
  go_ret
  have e0 := (Ext.refl w).alloc (.map #[] 0)
  have hsz : (w.alloc (.map #[] 0)).heap.size = w.heap.size + 1 := by simp
  have hX := heap_alloc_new (w.alloc (.map #[] 0)) (.cells #[.map (some w.heap.size), .int .i64 size, .int .i64 age] 54)
  have hx1 := (Ext.refl (w.alloc (.map #[] 0))).alloc (.cells #[.map (some w.heap.size), .int .i64 size, .int .i64 age] 54)
  have hm := owns_ext' (World.ownsMap_made w Try.prog 30 pE) hx1
  rw [hsz] at hX
  have hlt := row_lt hX
  refine ⟨w.heap.size + 1, rfl, e0.trans hx1, by omega, w.heap.size, .map [], fun _ => 0, ⟨hX, ?_, ?_, ?_, ?_, ?_, by omega, ⟨by omega, hlt⟩, ⟨Nat.le_refl _, by omega⟩⟩, hm, fun k hk => hk.2⟩
  · intro x z; simp [DataW.atKey]
  · intro x; simp [Maps.has]
  · intro e he; cases he
  · intro e he; cases he
  · intro e he; cases he

theorem addr_ext (x : Int) (w : World) (h2 : 0 ≤ x) (h3 : x < 18446744073709551616) :
    Calls Try.prog 24 #[.int .u64 x] w fun e w' => e = .returned (.int .u64 (x % 281474976710656)) ∧ Ext w w' := (addr_any x w h2 h3).mono fun e w' ⟨h, h2⟩ => ⟨h, h2 ▸ Ext.refl w⟩
theorem wfx {x : Int} (h : 0 ≤ x ∧ x < 18446744073709551616) : (Lit.int .u64 x).wf = true := by
  simp [Lit.wf, IntKind.min, IntKind.max, IntKind.signed, IntKind.bits]
  omega
def FoundP (w : World) (L : List En) (x : Int) (e : Ending) (w' : World) : Prop :=
  ((∃ e0 ∈ L, e0.1 = x % 281474976710656 ∧ e = .returned (.tuple #[.int .i64 e0.2.1, .bool true])) ∨ (x % 281474976710656 ∉ L.map Prod.fst ∧ e = .returned (.tuple #[.int .i64 (-1), .bool false]))) ∧ Ext w w'
set_option maxRecDepth 100000 in
set_option maxHeartbeats 4000000 in
theorem find_any (w : World) (F : Nat → Prop) (f : Nat) (L : List En) (most age : Int) (h : Fb w F f L most age) (x : Int) (hx0 : 0 ≤ x ∧ x < 18446744073709551616) :
    Calls Try.prog 14 #[.pointer (some ⟨f, 0, none⟩), .int .u64 x] w (FoundP w L x) := by
  obtain ⟨b, D, gb, h1, h2, h3⟩ := h
  have cf : w.cell? ⟨f, 0, none⟩ = some (.map (some b)) := by rw [cell_row h1.hf]; rfl
  have hfl := row_lt h1.hf
  have LK0 := look_run h1 h2 (x % 281474976710656) (wfx (by omega))
  by_cases hk : x % 281474976710656 ∈ L.map Prod.fst
  · obtain ⟨e0, he0, hx⟩ := List.mem_map.1 hk
    rw [if_pos hk] at LK0
    have LK := Lib.hid LK0
    have HC := Lib.hid (show ∀ W', Ext w W' → W'.cell? ⟨gb (x % 281474976710656), 0, none⟩ = some (.int .i64 e0.2.1) from fun W' hW' => by
      have := h1.cells e0 he0
      rw [hx] at this
      rw [cell_row ((hW'.block _ (row_lt this)).trans this)]; rfl)
    have HR := Lib.hid (And.intro he0 hx)
    clear LK0 h1 h2 h3 he0 hx hk
    obtain ⟨G, hG⟩ : ∃ G, gb (x % 281474976710656) = G := ⟨_, rfl⟩
    rw [hG] at LK HC
    clear hG
    go_enter Try.func14, Try.ntmps14
    go_wp2_with fail
    refine beginL (S := fun W' => Ext w W') (by kernel_rfl) ?_
    intro wd hqx
    have hq0 : Ext w wd := hqx
    refine takeL (i := 0) (v := (.pointer (some ⟨f, 0, none⟩))) rfl (by kernel_rfl) (by kernel_rfl) (by kernel_rfl) (fun _ _ _ h => h) (Or.inl ⟨rfl, fun _ _ => rfl⟩) hq0 ?_
    simp only [Act.put, List.setIfInBounds_toArray, List.set_cons_zero, List.set_cons_succ]
    refine takeL (i := 1) (v := (.pointer (some ⟨f, 0, none⟩))) rfl (by kernel_rfl) (by kernel_rfl) (by kernel_rfl) (fun _ _ _ h => h) (Or.inl ⟨rfl, fun _ _ => rfl⟩) hq0 ?_
    simp only [Act.put, List.setIfInBounds_toArray, List.set_cons_zero, List.set_cons_succ]
    refine takeL (i := 2) (v := (.pointer (some ⟨f, 0, none⟩))) rfl (by kernel_rfl) (by kernel_rfl) (by kernel_rfl) (fun _ _ _ h => h) (Or.inl ⟨rfl, fun _ _ => rfl⟩) hq0 ?_
    simp only [Act.put, List.setIfInBounds_toArray, List.set_cons_zero, List.set_cons_succ]
    refine takeL (i := 3) (v := _) rfl (by kernel_rfl) (by kernel_rfl) (by kernel_rfl) (fun _ _ _ h => h) (yieldsIf_cell rfl 52 _ rfl ⟨f, 0, none⟩ rfl (.map (some b)) _ (fun W' hW' => (hW'.cell (p := ⟨f, 0, none⟩) hfl).trans cf) Try.underlying52 rfl) hq0 ?_
    simp only [Act.put, List.setIfInBounds_toArray, List.set_cons_zero, List.set_cons_succ]
    refine takeL (i := 4) (v := (.int .u64 x)) rfl (by kernel_rfl) (by kernel_rfl) (by kernel_rfl) (fun _ _ _ h => h) (Or.inl ⟨rfl, fun _ _ => rfl⟩) hq0 ?_
    simp only [Act.put, List.setIfInBounds_toArray, List.set_cons_zero, List.set_cons_succ]
    refine runL (i := 5) rfl rfl (by kernel_rfl) (fun K hK => ?_)
    go_simp
    refine (addr_ext x _ hx0.1 hx0.2).mono ?_
    rintro e wc1 ⟨rfl, hx⟩
    have hq1 := hq0.trans hx
    refine hK.out _ _ hq1 (fun hHeld => ?_)
    try simp only [Act.put, List.setIfInBounds_toArray, List.set_cons_zero, List.set_cons_succ]
    clear hK K hHeld
    refine takeL (i := 6) (v := (.pointer (some ⟨G, 0, none⟩))) rfl (by kernel_rfl) (by kernel_rfl) (by kernel_rfl) (fun _ _ _ h => h) (Or.inl ⟨rfl, fun W' hW' => by have hrun := LK.out W' hW'; go_simp⟩) hq1 ?_
    simp only [Act.put, List.setIfInBounds_toArray, List.set_cons_zero, List.set_cons_succ]
    refine takeL (i := 7) (v := (.pointer (some ⟨G, 0, none⟩))) rfl (by kernel_rfl) (by kernel_rfl) (by kernel_rfl) (fun _ _ _ h => h) (Or.inl ⟨rfl, fun _ _ => rfl⟩) hq1 ?_
    simp only [Act.put, List.setIfInBounds_toArray, List.set_cons_zero, List.set_cons_succ]
    refine wpAnyH_done (by kernel_rfl) ?_ _
    have c0 := HC.out _ hq1
    have HQ := Lib.hid hq1
    clear hq0 hqx
    go_wp2_with fail
    go_ret2
    exact ⟨.inl ⟨e0, HR.out.1, HR.out.2, rfl⟩, HQ.out⟩
  · rw [if_neg hk] at LK0
    have LK := Lib.hid LK0
    have HK := Lib.hid hk
    clear LK0 h1 h2 h3 hk
    go_enter Try.func14, Try.ntmps14
    go_wp2_with fail
    refine beginL (S := fun W' => Ext w W') (by kernel_rfl) ?_
    intro wd hqx
    have hq0 : Ext w wd := hqx
    refine takeL (i := 0) (v := (.pointer (some ⟨f, 0, none⟩))) rfl (by kernel_rfl) (by kernel_rfl) (by kernel_rfl) (fun _ _ _ h => h) (Or.inl ⟨rfl, fun _ _ => rfl⟩) hq0 ?_
    simp only [Act.put, List.setIfInBounds_toArray, List.set_cons_zero, List.set_cons_succ]
    refine takeL (i := 1) (v := (.pointer (some ⟨f, 0, none⟩))) rfl (by kernel_rfl) (by kernel_rfl) (by kernel_rfl) (fun _ _ _ h => h) (Or.inl ⟨rfl, fun _ _ => rfl⟩) hq0 ?_
    simp only [Act.put, List.setIfInBounds_toArray, List.set_cons_zero, List.set_cons_succ]
    refine takeL (i := 2) (v := (.pointer (some ⟨f, 0, none⟩))) rfl (by kernel_rfl) (by kernel_rfl) (by kernel_rfl) (fun _ _ _ h => h) (Or.inl ⟨rfl, fun _ _ => rfl⟩) hq0 ?_
    simp only [Act.put, List.setIfInBounds_toArray, List.set_cons_zero, List.set_cons_succ]
    refine takeL (i := 3) (v := _) rfl (by kernel_rfl) (by kernel_rfl) (by kernel_rfl) (fun _ _ _ h => h) (yieldsIf_cell rfl 52 _ rfl ⟨f, 0, none⟩ rfl (.map (some b)) _ (fun W' hW' => (hW'.cell (p := ⟨f, 0, none⟩) hfl).trans cf) Try.underlying52 rfl) hq0 ?_
    simp only [Act.put, List.setIfInBounds_toArray, List.set_cons_zero, List.set_cons_succ]
    refine takeL (i := 4) (v := (.int .u64 x)) rfl (by kernel_rfl) (by kernel_rfl) (by kernel_rfl) (fun _ _ _ h => h) (Or.inl ⟨rfl, fun _ _ => rfl⟩) hq0 ?_
    simp only [Act.put, List.setIfInBounds_toArray, List.set_cons_zero, List.set_cons_succ]
    refine runL (i := 5) rfl rfl (by kernel_rfl) (fun K hK => ?_)
    go_simp
    refine (addr_ext x _ hx0.1 hx0.2).mono ?_
    rintro e wc1 ⟨rfl, hx⟩
    have hq1 := hq0.trans hx
    refine hK.out _ _ hq1 (fun hHeld => ?_)
    try simp only [Act.put, List.setIfInBounds_toArray, List.set_cons_zero, List.set_cons_succ]
    clear hK K hHeld
    refine takeL (i := 6) (v := (.pointer none)) rfl (by kernel_rfl) (by kernel_rfl) (by kernel_rfl) (fun _ _ _ h => h) (Or.inl ⟨rfl, fun W' hW' => by have hrun := LK.out W' hW'; go_simp⟩) hq1 ?_
    simp only [Act.put, List.setIfInBounds_toArray, List.set_cons_zero, List.set_cons_succ]
    refine takeL (i := 7) (v := (.pointer none)) rfl (by kernel_rfl) (by kernel_rfl) (by kernel_rfl) (fun _ _ _ h => h) (Or.inl ⟨rfl, fun _ _ => rfl⟩) hq1 ?_
    simp only [Act.put, List.setIfInBounds_toArray, List.set_cons_zero, List.set_cons_succ]
    refine wpAnyH_done (by kernel_rfl) ?_ _
    have HQ := Lib.hid hq1
    clear hq0 hqx
    go_wp2_with fail
    go_ret2
    exact ⟨.inr ⟨HK.out, rfl⟩, HQ.out⟩

end Go.Proofs.Ytheackckmhbodaa
