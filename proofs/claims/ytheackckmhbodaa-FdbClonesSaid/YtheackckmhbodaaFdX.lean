/- The database: all entries. No statement is proved here. -/
import Derived.Test.YtheackckmhbodaaFdW
import Derived.Test.YtheackckmhbodaaFdG
import Derived.Great.BuildSlice
import Derived.OwnWalk
namespace Go.Proofs.Ytheackckmhbodaa
open Go.RowKit Go.BigFrame Go.WideShapes Go.ChangeShapes Go.Deep
set_option linter.unusedVariables false
set_option linter.unusedSimpArgs false

theorem oper_append_own_at {P : Program} {o : Oper} {a : Act} {w : World} {K : Act → World → Prop} {Q : Exit → Act → World → Prop} (s x : Operand) (t : TypeId)
    (ho : o.op = .call { callee := .builtin .append, args := #[s, x], argTypes := #[t, t] })
    (base : Nat) (e : TypeId) (i : TypeInfo) (z : Value) (size bytes : Nat) (ht : P.underlying t = some (.slice e)) (hi : P.info? e = some i) (hz : i.zero = some z)
    (hsize : i.size = size) (hby : i.bytes = bytes) (hzs : z.cells.size = size) (hsz : 0 < size)
    (v : Value) (n : Nat) (xs : List Value) (hs : a.eval s = v) (hown : w.ownsRow base e size v n xs)
    (ad : Addr) (m c : Nat) (news : List Value) (hx : a.eval x = .slice (some ad) m c) (hl : news.length = m * size) (hnews : ∀ j u, news[j]? = some u → w.cell? (ad.add j) = some u) (h1 : ∀ u ∈ news, u.oneCell' = true)
    (h63 : n + m ≤ maxLen) (hbytes : (n + m) * bytes ≤ 140737488355328) (hbase : base ≤ w.heap.size)
    (h : ∀ v' w', w'.ownsRow base e size v' (n + m) (xs ++ news) → w.grownBy w' v.ownBlock → K (a.put o.dst v') w') : Oper.wp P o a w K Q := by
  obtain ⟨v', w', hr, h2, h3, h4, h5⟩ := run_append_own_at (P := P) w base t o.type e i z size bytes ht hi hz hsize hby hzs hsz v n xs hown ad m c news hl hnews h1 h63 hbytes hbase
  unfold Oper.wp execOp
  simp only [ho, resolve, invoke, builtin, Sem.run_bind, Sem.run_pure, Result.andThen_ok, List.map_toArray, List.map_cons, List.map_nil, hs, hx, hr]
  exact h v' w' h2 h3
theorem news_alloc (wd : World) (l : List Value) (e : TypeId) : ∀ j u, l[j]? = some u → (wd.alloc (.cells l.toArray e)).cell? ((⟨wd.heap.size, 0, none⟩ : Addr).add j) = some u := by
  intro j u hu
  have hb : (wd.alloc (.cells l.toArray e)).heap[wd.heap.size]? = some (.cells l.toArray e) := heap_alloc_new _ _
  have he : (⟨wd.heap.size, 0, none⟩ : Addr).add j = ⟨wd.heap.size, j, none⟩ := by
    by_cases h0 : j = 0
    · subst h0; rfl
    · simp [Addr.add, h0]
  rw [he]
  unfold World.cell?
  rw [hb]
  simp [hu]

theorem owns_ext {w w' : World} {base m n : Nat} {e : TypeId} {v : Value} {xs : List Value} (h : w.ownsRow base e m v n xs) (hx : Ext w w') : w'.ownsRow base e m v n xs := by
  refine ⟨h.1, ?_⟩
  rcases h.2 with hn | ⟨g, cap, cur, rfl, hb, hg, rest⟩
  · exact .inl hn
  · exact .inr ⟨g, cap, cur, rfl, hb, (hx.block g (Array.getElem?_eq_some_iff.1 hg).1).trans hg, rest⟩
theorem owns_base {w : World} {a b m n : Nat} {e : TypeId} {v : Value} {xs : List Value} (h : w.ownsRow a e m v n xs) (hb : b ≤ a) : w.ownsRow b e m v n xs := by
  obtain ⟨h1, h2 | ⟨g, cap, cur, h3, h4, h5⟩⟩ := h
  · exact ⟨h1, .inl h2⟩
  · exact ⟨h1, .inr ⟨g, cap, cur, h3, Nat.le_trans hb h4, h5⟩⟩
theorem owns_lt' {w : World} {a m n : Nat} {e : TypeId} {v : Value} {xs : List Value} (h : w.ownsRow a e m v n xs) : ∀ g, v.ownBlock = some g → a ≤ g := by
  intro g hg
  rcases h.2 with ⟨rfl, _⟩ | ⟨g', cap, cur, rfl, hb, _⟩
  · simp [Value.ownBlock] at hg
  · have : g' = g := by simpa [Value.ownBlock] using hg
    omega
def ev (e : En) : List Value := [.int .u64 e.1, .int .i64 e.2.1, .int .i64 e.2.2]
def evs (L : List En) : List Value := L.flatMap ev
theorem evs_snoc (L : List En) (e : En) : evs (L ++ [e]) = evs L ++ ev e := by simp [evs]
theorem evs_len : ∀ L : List En, (evs L).length = L.length * 3
  | [] => rfl
  | a :: r => by
    have := evs_len r
    show (ev a ++ evs r).length = _
    rw [List.length_append, this]
    simp [ev]; omega
theorem evs_one (L : List En) : ∀ u ∈ evs L, u.oneCell' = true := by
  intro u hu
  obtain ⟨e, _, h⟩ := List.mem_flatMap.1 hu
  simp only [ev, List.mem_cons, List.not_mem_nil, or_false] at h
  rcases h with rfl | rfl | rfl <;> rfl
theorem enters_mine {P : Program} {f : FuncId} {fn : Func} {c : Code} (hf : P.funcs[f]? = some fn) (hname : (fn.name == "runtime.NumGoroutine") = false) (hb : fn.body = some c) : ∀ args w, (callFunc f args).run P w = .ok (.enter f args) w := by
  intro args w
  have h1 : fn.name ≠ "runtime.NumGoroutine" := by simpa using hname
  simp [callFunc, hf, h1, hb, mark]
def AllP (w : World) (L : List En) (e : Ending) (w' : World) : Prop := ∃ v, e = .returned v ∧ Ext w w' ∧ w'.ownsRow w.heap.size 43 3 v L.length (evs L)
def EZ : Array Value := #[.int .u64 0, .int .i64 0, .int .i64 0]
theorem info_ent : (Try.prog.info? 43).map (fun i => (i.zero, i.size, i.bytes)) = some (some (.agg EZ), 3, 24) := by kernel_rfl
theorem bent (x p s : Int) : Try.prog.built 43 [(0, .int .u64 x), (1, .int .i64 p), (2, .int .i64 s)] = some #[.int .u64 x, .int .i64 p, .int .i64 s] := by kernel_rfl
theorem fent (x p s : Int) : Instr.fill (fun i => some (i * 3, 3)) ((Array.range (1 * 3)).map (EZ[· % EZ.size]!)) [(0, .agg #[.int .u64 x, .int .i64 p, .int .i64 s])] = some #[.int .u64 x, .int .i64 p, .int .i64 s] := by kernel_rfl

set_option maxRecDepth 100000 in
set_option maxHeartbeats 4000000 in
theorem all_any (w : World) (F : Nat → Prop) (f : Nat) (L : List En) (most age : Int) (h : Fb w F f L most age) (hL : Ok age L) (h12 : L.length ≤ 12) :
    Calls Try.prog 22 #[.pointer (some ⟨f, 0, none⟩)] w (AllP w L) := by
  obtain ⟨b, D, gb, h1, h2, h3⟩ := h
  obtain ⟨i1, hi1, hz1, hs1, hb1⟩ := info_parts info_ent
  have I1 := Lib.hid (And.intro hi1 (And.intro hz1 (And.intro hs1 hb1)))
  have cf : w.cell? ⟨f, 0, none⟩ = some (.map (some b)) := by rw [cell_row h1.hf]; rfl
  have hsD := h1.size hL h2
  have eg : ∀ args w, (callFunc 37 args).run Try.prog w = .ok (.enter 37 args) w := by
    exact enters_mine Try.func37 (by kernel_rfl) rfl
  have HL := Lib.hid hL
  have H12 := Lib.hid h12
  have HC := Lib.hid h1
  have HM := Lib.hid h2
  have HSD := Lib.hid hsD
  have HE := Lib.hid eg
  clear h1 h2 h3 hL h12 hsD eg hi1 hz1 hs1 hb1
  go_enter Try.func22, Try.ntmps22
  go_wp2_with fail
  refine (callsIn_wide.1 (keys_any 1 (some b) _)).mono ?_
  rintro e w1 ⟨rfl, hw1⟩
  have E1 : Ext w w1 := by rw [hw1]; exact (Ext.refl w).alloc _
  have hbox : w1.heap[w.heap.size]? = some (.cells #[.map (some b)] 52 (0, 0)) := by rw [hw1]; exact heap_alloc_new _ _
  have HS := Lib.hid (sorted_any 37 #[.pointer (some ⟨w.heap.size, 0, none⟩)] HE.out age L HL.out H12.out (Maps.size D) (by rw [HSD.out]; have := H12.out; omega) w1
    (keys_stops 4 w.heap.size b L.length (by decide) D L HC.out.has_ w1 (row_lt hbox) (by rw [cell_row hbox]; rfl) (owns_ext' HM.out E1)))
  have HE1 := Lib.hid E1
  clear hw1 E1 hbox cf
  go_wp2_with fail
  refine HS.out.mono ?_
  rintro e w2 ⟨v, rfl, E2, hv⟩
  have HE2 := Lib.hid (Ext.trans HE1.out E2)
  clear E2 HS
  rcases hv with ⟨hn, rfl⟩ | ⟨g, cap, rfl, hg, hnu⟩
  · go_wp2_with fail
    go_loopw [14, 3] (fun k l wr => k = .int .i64 0 ∧ l = .slice none 0 0 ∧ wr = w2) (fun _ _ _ => 0)
    case atStart => exact ⟨rfl, rfl, rfl⟩
    case round =>
      obtain ⟨rfl, rfl, rfl⟩ := hrel
      go_wp2_with fail
      go_ret
      exact ⟨_, rfl, HE2.out, by rw [hn]; exact ⟨rfl, .inl ⟨rfl, rfl⟩⟩⟩
  · obtain ⟨n, hnn⟩ : ∃ n, L.length = n := ⟨_, rfl⟩
    rw [hnn]
    have HNN := Lib.hid hnn
    have hn12 : n ≤ 12 := by have := H12.out; omega
    have HNU := Lib.hid hnu
    clear hnn hnu
    go_wp2_with fail
    go_loopw [14, 3] (fun s l wr => ∃ (k : Nat) (u : Value) (wo : World), wo = wr ∧ u = l ∧ k ≤ n ∧ s = .int .i64 k ∧ wo.ownsRow w2.heap.size 43 3 u k (evs (L.take k)) ∧ Ext w2 wo) (fun s _ _ => n - (intOf s).toNat)
    case atStart => exact ⟨0, _, _, rfl, rfl, by omega, rfl, ⟨by simp [evs], .inl ⟨rfl, rfl⟩⟩, Ext.refl _⟩
    case round =>
      obtain ⟨k, v, wo, rfl, rfl, hk, rfl, hown, hx⟩ := hrel
      rename World => wr
      have HO := Lib.hid hown
      have HX := Lib.hid hx
      clear hown hx
      by_cases hlt : k < n
      · have dlt : decide ((k : Int) < (n : Int)) = true := by simp; omega
        have hkL : k < L.length := by have := HNN.out; omega
        obtain ⟨x, p, s, he⟩ : ∃ x p s, L[k] = (x, p, s) := ⟨_, _, _, rfl⟩
        have hmem : (x, p, s) ∈ L := he ▸ List.getElem_mem hkL
        have hka : at0 (L.map Prod.fst) k = x := by simp [at0, List.getD, hkL, he]
        have hnu2 := HNU.out.ext HX.out
        have hck : wr.cell? ⟨g, k, none⟩ = some (.int .u64 x) := by rw [hnu2.cell (by simpa using hkL), hka]
        have hE := HE2.out.trans HX.out
        have hfc : FbC wr F f b D L gb most age := HC.out.ext (fun k hk _ _ => hE.block k hk)
        have cfr : wr.cell? ⟨f, 0, none⟩ = some (.map (some b)) := by rw [cell_row hfc.hf]; rfl
        have LK0 := look_run HC.out HM.out x (wfk HL.out hmem) wr hE
        rw [if_pos (List.mem_map.2 ⟨_, hmem, rfl⟩)] at LK0
        have hf2 : FbC w2 F f b D L gb most age := HC.out.ext (fun k hk _ _ => HE2.out.block k hk)
        have hst := hf2.cells _ hmem
        obtain ⟨G, hG⟩ : ∃ G, gb x = G := ⟨_, rfl⟩
        dsimp only at hst
        rw [hG] at LK0 hst
        have c0 : w2.cell? ⟨G, 0, none⟩ = some (.int .i64 p) := by rw [cell_row hst]; rfl
        have c1 : w2.cell? ⟨G, 1, none⟩ = some (.int .i64 s) := by rw [cell_row hst]; rfl
        have hGl := row_lt hst
        have HTK := Lib.hid (show L.take (k + 1) = L.take k ++ [(x, p, s)] by rw [List.take_add_one, List.getElem?_eq_getElem hkL, he]; rfl)
        have hup : IntKind.i64.wrap ((k : Int) + 1) = ((k + 1 : Nat) : Int) := by rw [IntKind.wrap_i64]; omega
        clear hnu2 hka he hmem hfc hf2 hG hst hE
        go_wp2_with fail
        refine beginL (S := fun W' => Ext w2 W') (by kernel_rfl) ?_
        intro wd hqx
        have hq0 : Ext w2 wd := HX.out.trans hqx
        refine takeL (i := 0) (v := v) rfl (by kernel_rfl) (by kernel_rfl) (by kernel_rfl) (fun _ _ _ h => h) (Or.inl ⟨rfl, fun _ _ => rfl⟩) hq0 ?_
        simp only [Act.put, List.setIfInBounds_toArray, List.set_cons_zero, List.set_cons_succ]
        refine takeL (i := 1) (v := (.int .u64 x)) rfl (by kernel_rfl) (by kernel_rfl) (by kernel_rfl) (fun _ _ _ h => h) (Or.inl ⟨rfl, fun _ _ => rfl⟩) hq0 ?_
        simp only [Act.put, List.setIfInBounds_toArray, List.set_cons_zero, List.set_cons_succ]
        refine takeL (i := 2) (v := (.pointer (some ⟨G, 0, none⟩))) rfl (by kernel_rfl) (by kernel_rfl) (by kernel_rfl) (fun _ _ _ h => h) (Or.inl ⟨rfl, fun _ _ => rfl⟩) hq0 ?_
        simp only [Act.put, List.setIfInBounds_toArray, List.set_cons_zero, List.set_cons_succ]
        refine takeL (i := 3) (v := (.pointer (some ⟨G, 0, none⟩))) rfl (by kernel_rfl) (by kernel_rfl) (by kernel_rfl) (fun _ _ _ h => h) (Or.inl ⟨rfl, fun _ _ => rfl⟩) hq0 ?_
        simp only [Act.put, List.setIfInBounds_toArray, List.set_cons_zero, List.set_cons_succ]
        refine takeL (i := 4) (v := (.pointer (some ⟨G, 0, none⟩))) rfl (by kernel_rfl) (by kernel_rfl) (by kernel_rfl) (fun _ _ _ h => h) (Or.inl ⟨rfl, fun _ _ => rfl⟩) hq0 ?_
        simp only [Act.put, List.setIfInBounds_toArray, List.set_cons_zero, List.set_cons_succ]
        refine takeL (i := 5) (v := _) rfl (by kernel_rfl) (by kernel_rfl) (by kernel_rfl) (fun _ _ _ h => h) (yieldsIf_cell rfl 3 _ rfl ⟨G, 0, none⟩ rfl (.int .i64 p) _ (fun W' hW' => (hW'.cell (p := ⟨G, 0, none⟩) hGl).trans c0) Try.underlying3 rfl) hq0 ?_
        simp only [Act.put, List.setIfInBounds_toArray, List.set_cons_zero, List.set_cons_succ]
        refine takeL (i := 6) (v := (.pointer (some ⟨G, 0, none⟩))) rfl (by kernel_rfl) (by kernel_rfl) (by kernel_rfl) (fun _ _ _ h => h) (Or.inl ⟨rfl, fun _ _ => rfl⟩) hq0 ?_
        simp only [Act.put, List.setIfInBounds_toArray, List.set_cons_zero, List.set_cons_succ]
        refine takeL (i := 7) (v := (.pointer (some ⟨G, 0, none⟩))) rfl (by kernel_rfl) (by kernel_rfl) (by kernel_rfl) (fun _ _ _ h => h) (Or.inl ⟨rfl, fun _ _ => rfl⟩) hq0 ?_
        simp only [Act.put, List.setIfInBounds_toArray, List.set_cons_zero, List.set_cons_succ]
        refine takeL (i := 8) (v := (.pointer (some ⟨G, 1, none⟩))) rfl (by kernel_rfl) (by kernel_rfl) (by kernel_rfl) (fun _ _ _ h => h) (Or.inl ⟨rfl, fun _ _ => rfl⟩) hq0 ?_
        simp only [Act.put, List.setIfInBounds_toArray, List.set_cons_zero, List.set_cons_succ]
        refine takeL (i := 9) (v := _) rfl (by kernel_rfl) (by kernel_rfl) (by kernel_rfl) (fun _ _ _ h => h) (yieldsIf_cell rfl 3 _ rfl ⟨G, 1, none⟩ rfl (.int .i64 s) _ (fun W' hW' => (hW'.cell (p := ⟨G, 1, none⟩) hGl).trans c1) Try.underlying3 rfl) hq0 ?_
        simp only [Act.put, List.setIfInBounds_toArray, List.set_cons_zero, List.set_cons_succ]
        refine takeL (i := 10) (v := (.agg #[.int .u64 x, .int .i64 p, .int .i64 s])) rfl (by kernel_rfl) (by kernel_rfl) (by kernel_rfl) (fun _ _ _ h => h) (yieldsIf_build rfl 43 _ rfl [(0, .int .u64 x), (1, .int .i64 p), (2, .int .i64 s)] rfl #[.int .u64 x, .int .i64 p, .int .i64 s] (bent x p s)) hq0 ?_
        simp only [Act.put, List.setIfInBounds_toArray, List.set_cons_zero, List.set_cons_succ]
        refine runL (i := 11) rfl rfl (by kernel_rfl) (fun K hK => ?_)
        refine wp_buildSlice 39 43 1 _ rfl #[.int .u64 x, .int .i64 p, .int .i64 s] i1 (.agg EZ) Try.underlying39 I1.out.1 I1.out.2.1 (by rw [I1.out.2.2.1]; decide) (by rw [I1.out.2.2.1]; decide) (by rw [I1.out.2.2.1, Array.toList_map]; exact fent x p s) ?_
        have hq1 : Ext w2 (wd.alloc (.cells #[.int .u64 x, .int .i64 p, .int .i64 s] 43)) := hq0.alloc _
        have hxa : Ext wr (wd.alloc (.cells #[.int .u64 x, .int .i64 p, .int .i64 s] 43)) := hqx.alloc _
        refine hK.out _ _ hq1 (fun _ => ?_)
        try simp only [Act.put, List.setIfInBounds_toArray, List.set_cons_zero, List.set_cons_succ]
        clear hK K
        refine runL (i := 12) rfl rfl (by kernel_rfl) (fun K hK => ?_)
        refine oper_append_own_at _ _ 39 rfl w2.heap.size 43 i1 (.agg EZ) 3 24 Try.underlying39 I1.out.1 I1.out.2.1 I1.out.2.2.1 I1.out.2.2.2 rfl (by decide) v k (evs (L.take k)) rfl (owns_ext HO.out hxa) ⟨wd.heap.size, 0, none⟩ 1 1 (ev (x, p, s)) rfl rfl (news_alloc wd _ _) (fun u hu => evs_one [(x, p, s)] u (by simpa [evs] using hu)) (by unfold maxLen; omega) (by omega) hq1.size ?hfin
        case hfin =>
          intro v' w6 ho6 hgb
          have hq6 : Ext w2 w6 := Below.grown hq1 hgb hq1.size (fun q hq => owns_lt' HO.out q hq)
          refine hK.out _ _ hq6 (fun _ => ?_)
          try simp only [Act.put, List.setIfInBounds_toArray, List.set_cons_zero, List.set_cons_succ]
          clear hK K
          refine takeL (i := 13) (v := v') rfl (by kernel_rfl) (by kernel_rfl) (by kernel_rfl) (fun _ _ _ h => h) (Or.inl ⟨rfl, fun _ _ => rfl⟩) hq6 ?_
          simp only [Act.put, List.setIfInBounds_toArray, List.set_cons_zero, List.set_cons_succ]
          refine wpAnyH_done (by kernel_rfl) ?_ _
          have HO6 := Lib.hid (show w6.ownsRow w2.heap.size 43 3 v' (k + 1) (evs (L.take (k + 1))) by rw [HTK.out, evs_snoc]; exact ho6)
          have HQ6 := Lib.hid hq6
          clear ho6 hgb hq6 hq1 hxa hq0 hqx hck cfr LK0 c0 c1
          go_wp2_with fail
          go_roundw
          case rel => exact ⟨k + 1, _, _, rfl, rfl, by omega, by go_num, HO6.out, HQ6.out⟩
          case measure => simp [intOf] <;> omega
      · obtain rfl : k = n := by omega
        have dlt : decide ((k : Int) < (k : Int)) = false := by simp
        go_wp2_with fail
        go_ret
        have ho := HO.out
        have hnn := HNN.out
        rw [List.take_of_length_le (by omega)] at ho
        exact ⟨_, rfl, HE2.out.trans HX.out, by rw [hnn]; exact owns_base ho HE2.out.size⟩

end Go.Proofs.Ytheackckmhbodaa
