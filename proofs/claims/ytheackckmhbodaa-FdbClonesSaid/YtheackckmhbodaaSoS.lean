/- All entries, up to sixty. No statement is proved here. -/
import Derived.Test.YtheackckmhbodaaSoR
import Derived.Test.YtheackckmhbodaaFdTwo
namespace Go.Proofs.Ytheackckmhbodaa
open Go.RowKit Go.BigFrame Go.WideShapes Go.ChangeShapes Go.Deep
set_option linter.unusedVariables false
set_option linter.unusedSimpArgs false
set_option maxRecDepth 100000

set_option maxRecDepth 100000 in
set_option maxHeartbeats 4000000 in
theorem sorted60_any (g : FuncId) (lb : Array Value) (eg : ∀ args w, (callFunc g args).run Try.prog w = .ok (.enter g args) w) (age : Int) (L : List En) (hL : Ok age L) (h12 : L.length ≤ 60) (N : Nat) (hN : N ≤ 100000) (w : World)
    (hseq : SeqStops Fence.wide 4 Try.prog g lb (Value.int .u64) (AllKeys L) (fun _ => True) N w) : Calls Try.prog 32 #[.func (.func g) #[] lb] w (SortedP w L) := by
  have HA := Lib.hid (collect_any g lb eg (AllKeys L) N hN w hseq)
  have HL := Lib.hid hL
  clear hseq eg hL
  go_enter Try.func32, Try.ntmps32
  go_wp2_with fail
  refine HA.out.mono ?_
  rintro e w1 ⟨v, ss, rfl, h1, h2, h3, h4⟩
  have hlen := h1.len HL.out
  cases ss with
  | nil =>
    obtain rfl := h3.2 rfl
    have hLe : L = [] := List.eq_nil_of_length_eq_zero (by simpa using hlen.symm)
    have H4 := Lib.hid (show Ext w w1 from h4)
    clear h2 h3 h4 h1 hlen
    go_wp2_with fail
    refine (sort_nil _ none 0).mono ?_
    rintro e w2 ⟨rfl, rfl⟩
    go_wp2_with fail
    go_ret
    exact ⟨_, rfl, H4.out, .inl ⟨hLe, rfl⟩⟩
  | cons s0 sr =>
    obtain ⟨ls, hls⟩ : ∃ ls, s0 :: sr = ls := ⟨_, rfl⟩
    have hpos : 0 < ls.length := by rw [← hls]; simp
    rw [hls] at h1 h2 h3 hlen
    clear hls
    obtain ⟨gb, cap, rfl⟩ : ∃ gb cap, v = .slice (some ⟨gb, 0, none⟩) ls.length cap := by
      obtain ⟨q, hq⟩ : ∃ q, ls.length = q + 1 := ⟨ls.length - 1, by omega⟩
      rw [hq] at h2 ⊢
      exact ownsRow_succ h2
    obtain ⟨hnu, hbase⟩ := nums_of_own h2 rfl
    have hdist : ∀ a b, a < ls.length → b < ls.length → at0 ls a = at0 ls b → a = b := fun a b ha hb hab => by
      have e1 : at0 ls a = ls[a] := by simp [at0, List.getD, ha]
      have e2 : at0 ls b = ls[b] := by simp [at0, List.getD, hb]
      rw [e1, e2] at hab
      have hp := List.pairwise_iff_getElem.1 h1.1
      rcases Nat.lt_trichotomy a b with h | h | h
      · exact absurd hab (hp a b ha hb h)
      · exact h
      · exact absurd hab.symm (hp b a hb ha h)
    have HS := Lib.hid (sortx_any w1 gb ls.length cap ls (by omega) hnu rfl hdist)
    have H4 := Lib.hid (show Ext w w1 from h4)
    have H1 := Lib.hid h1
    have HLEN := Lib.hid hlen
    clear h2 h3 h4 hnu hdist h1 hlen
    go_wp2_with fail
    refine HS.out.mono ?_
    rintro e w2 ⟨rfl, hout⟩
    have HO := Lib.hid hout
    clear hout
    go_wp2_with fail
    go_ret
    have hlen := HLEN.out
    obtain ⟨l, q1, q2, q3, q4⟩ := HO.out
    have hln : l.length = ls.length := q2.1
    have hk : (L.map Prod.fst).Pairwise (· < ·) := List.pairwise_map.2 HL.out.1
    have hkl : (L.map Prod.fst).length = l.length := by simp; omega
    have hlk : Like l.length (L.map Prod.fst) l := ⟨rfl, by rw [hln]; exact q2.2.1, fun x => by
      rw [hln, q2.2.2 x, ← mem_at, H1.out.2 x, mem_at, hkl, hln]⟩
    have heq := rise_uniq (by rw [hln]; exact q3) hlk hk hkl
    rw [heq] at q1
    refine ⟨_, rfl, ext_mut H4.out q4 (fun n hn h => by cases h; omega), .inr ⟨gb, cap, ?_, hbase, q1⟩⟩
    rw [← hlen]
    rfl

set_option maxRecDepth 100000 in
set_option maxHeartbeats 4000000 in
theorem all60_any (w : World) (F : Nat → Prop) (f : Nat) (L : List En) (most age : Int) (h : Fb w F f L most age) (hL : Ok age L) (h12 : L.length ≤ 60) :
    Calls Try.prog 22 #[.pointer (some ⟨f, 0, none⟩)] w (AllP w L) := by
  obtain ⟨b, D, gb, h1, h2, h3⟩ := h
  obtain ⟨i1, hi1, hz1, hs1, hb1⟩ := info_parts info_ent
  have I1 := Lib.hid (And.intro hi1 (And.intro hz1 (And.intro hs1 hb1)))
  have cf : w.cell? ⟨f, 0, none⟩ = some (.map (some b)) := by rw [cell_row h1.hf]; rfl
  have hsD := h1.size hL h2
  have eg : ∀ args w, (callFunc 37 args).run Try.prog w = .ok (.enter 37 args) w := by
    exact enters_mine Try.func37 (by kernel_rfl) rfl
  have HL := Lib.hid hL
  have H12 := Lib.hid h12
  have HC := Lib.hid h1
  have HM := Lib.hid h2
  have HSD := Lib.hid hsD
  have HE := Lib.hid eg
  clear h1 h2 h3 hL h12 hsD eg hi1 hz1 hs1 hb1
  go_enter Try.func22, Try.ntmps22
  go_wp2_with fail
  refine (callsIn_wide.1 (keys_any 1 (some b) _)).mono ?_
  rintro e w1 ⟨rfl, hw1⟩
  have E1 : Ext w w1 := by rw [hw1]; exact (Ext.refl w).alloc _
  have hbox : w1.heap[w.heap.size]? = some (.cells #[.map (some b)] 52 (0, 0)) := by rw [hw1]; exact heap_alloc_new _ _
  have HS := Lib.hid (sorted60_any 37 #[.pointer (some ⟨w.heap.size, 0, none⟩)] HE.out age L HL.out H12.out (Maps.size D) (by rw [HSD.out]; have := H12.out; omega) w1
    (keys_stops 4 w.heap.size b L.length (by decide) D L HC.out.has_ w1 (row_lt hbox) (by rw [cell_row hbox]; rfl) (owns_ext' HM.out E1)))
  have HE1 := Lib.hid E1
  clear hw1 E1 hbox cf
  go_wp2_with fail
  refine HS.out.mono ?_
  rintro e w2 ⟨v, rfl, E2, hv⟩
  have HE2 := Lib.hid (Ext.trans HE1.out E2)
  clear E2 HS
  rcases hv with ⟨hn, rfl⟩ | ⟨g, cap, rfl, hg, hnu⟩
  · go_wp2_with fail
    go_loopw [14, 3] (fun k l wr => k = .int .i64 0 ∧ l = .slice none 0 0 ∧ wr = w2) (fun _ _ _ => 0)
    case atStart => exact ⟨rfl, rfl, rfl⟩
    case round =>
      obtain ⟨rfl, rfl, rfl⟩ := hrel
      go_wp2_with fail
      go_ret
      exact ⟨_, rfl, HE2.out, by rw [hn]; exact ⟨rfl, .inl ⟨rfl, rfl⟩⟩⟩
  · obtain ⟨n, hnn⟩ : ∃ n, L.length = n := ⟨_, rfl⟩
    rw [hnn]
    have HNN := Lib.hid hnn
    have hn12 : n ≤ 60 := by have := H12.out; omega
    have HNU := Lib.hid hnu
    clear hnn hnu
    go_wp2_with fail
    go_loopw [14, 3] (fun s l wr => ∃ (k : Nat) (u : Value) (wo : World), wo = wr ∧ u = l ∧ k ≤ n ∧ s = .int .i64 k ∧ wo.ownsRow w2.heap.size 43 3 u k (evs (L.take k)) ∧ Ext w2 wo) (fun s _ _ => n - (intOf s).toNat)
    case atStart => exact ⟨0, _, _, rfl, rfl, by omega, rfl, ⟨by simp [evs], .inl ⟨rfl, rfl⟩⟩, Ext.refl _⟩
    case round =>
      obtain ⟨k, v, wo, rfl, rfl, hk, rfl, hown, hx⟩ := hrel
      rename World => wr
      have HO := Lib.hid hown
      have HX := Lib.hid hx
      clear hown hx
      by_cases hlt : k < n
      · have dlt : decide ((k : Int) < (n : Int)) = true := by simp; omega
        have hkL : k < L.length := by have := HNN.out; omega
        obtain ⟨x, p, s, he⟩ : ∃ x p s, L[k] = (x, p, s) := ⟨_, _, _, rfl⟩
        have hmem : (x, p, s) ∈ L := he ▸ List.getElem_mem hkL
        have hka : at0 (L.map Prod.fst) k = x := by simp [at0, List.getD, hkL, he]
        have hnu2 := HNU.out.ext HX.out
        have hck : wr.cell? ⟨g, k, none⟩ = some (.int .u64 x) := by rw [hnu2.cell (by simpa using hkL), hka]
        have hE := HE2.out.trans HX.out
        have hfc : FbC wr F f b D L gb most age := HC.out.ext (fun k hk _ _ => hE.block k hk)
        have cfr : wr.cell? ⟨f, 0, none⟩ = some (.map (some b)) := by rw [cell_row hfc.hf]; rfl
        have LK0 := look_run HC.out HM.out x (wfk HL.out hmem) wr hE
        rw [if_pos (List.mem_map.2 ⟨_, hmem, rfl⟩)] at LK0
        have hf2 : FbC w2 F f b D L gb most age := HC.out.ext (fun k hk _ _ => HE2.out.block k hk)
        have hst := hf2.cells _ hmem
        obtain ⟨G, hG⟩ : ∃ G, gb x = G := ⟨_, rfl⟩
        dsimp only at hst
        rw [hG] at LK0 hst
        have c0 : w2.cell? ⟨G, 0, none⟩ = some (.int .i64 p) := by rw [cell_row hst]; rfl
        have c1 : w2.cell? ⟨G, 1, none⟩ = some (.int .i64 s) := by rw [cell_row hst]; rfl
        have hGl := row_lt hst
        have HTK := Lib.hid (show L.take (k + 1) = L.take k ++ [(x, p, s)] by rw [List.take_add_one, List.getElem?_eq_getElem hkL, he]; rfl)
        have hup : IntKind.i64.wrap ((k : Int) + 1) = ((k + 1 : Nat) : Int) := by rw [IntKind.wrap_i64]; omega
        clear hnu2 hka he hmem hfc hf2 hG hst hE
        go_wp2_with fail
        refine beginL (S := fun W' => Ext w2 W') (by kernel_rfl) ?_
        intro wd hqx
        have hq0 : Ext w2 wd := HX.out.trans hqx
        refine takeL (i := 0) (v := v) rfl (by kernel_rfl) (by kernel_rfl) (by kernel_rfl) (fun _ _ _ h => h) (Or.inl ⟨rfl, fun _ _ => rfl⟩) hq0 ?_
        simp only [Act.put, List.setIfInBounds_toArray, List.set_cons_zero, List.set_cons_succ]
        refine takeL (i := 1) (v := (.int .u64 x)) rfl (by kernel_rfl) (by kernel_rfl) (by kernel_rfl) (fun _ _ _ h => h) (Or.inl ⟨rfl, fun _ _ => rfl⟩) hq0 ?_
        simp only [Act.put, List.setIfInBounds_toArray, List.set_cons_zero, List.set_cons_succ]
        refine takeL (i := 2) (v := (.pointer (some ⟨G, 0, none⟩))) rfl (by kernel_rfl) (by kernel_rfl) (by kernel_rfl) (fun _ _ _ h => h) (Or.inl ⟨rfl, fun _ _ => rfl⟩) hq0 ?_
        simp only [Act.put, List.setIfInBounds_toArray, List.set_cons_zero, List.set_cons_succ]
        refine takeL (i := 3) (v := (.pointer (some ⟨G, 0, none⟩))) rfl (by kernel_rfl) (by kernel_rfl) (by kernel_rfl) (fun _ _ _ h => h) (Or.inl ⟨rfl, fun _ _ => rfl⟩) hq0 ?_
        simp only [Act.put, List.setIfInBounds_toArray, List.set_cons_zero, List.set_cons_succ]
        refine takeL (i := 4) (v := (.pointer (some ⟨G, 0, none⟩))) rfl (by kernel_rfl) (by kernel_rfl) (by kernel_rfl) (fun _ _ _ h => h) (Or.inl ⟨rfl, fun _ _ => rfl⟩) hq0 ?_
        simp only [Act.put, List.setIfInBounds_toArray, List.set_cons_zero, List.set_cons_succ]
        refine takeL (i := 5) (v := _) rfl (by kernel_rfl) (by kernel_rfl) (by kernel_rfl) (fun _ _ _ h => h) (yieldsIf_cell rfl 3 _ rfl ⟨G, 0, none⟩ rfl (.int .i64 p) _ (fun W' hW' => (hW'.cell (p := ⟨G, 0, none⟩) hGl).trans c0) Try.underlying3 rfl) hq0 ?_
        simp only [Act.put, List.setIfInBounds_toArray, List.set_cons_zero, List.set_cons_succ]
        refine takeL (i := 6) (v := (.pointer (some ⟨G, 0, none⟩))) rfl (by kernel_rfl) (by kernel_rfl) (by kernel_rfl) (fun _ _ _ h => h) (Or.inl ⟨rfl, fun _ _ => rfl⟩) hq0 ?_
        simp only [Act.put, List.setIfInBounds_toArray, List.set_cons_zero, List.set_cons_succ]
        refine takeL (i := 7) (v := (.pointer (some ⟨G, 0, none⟩))) rfl (by kernel_rfl) (by kernel_rfl) (by kernel_rfl) (fun _ _ _ h => h) (Or.inl ⟨rfl, fun _ _ => rfl⟩) hq0 ?_
        simp only [Act.put, List.setIfInBounds_toArray, List.set_cons_zero, List.set_cons_succ]
        refine takeL (i := 8) (v := (.pointer (some ⟨G, 1, none⟩))) rfl (by kernel_rfl) (by kernel_rfl) (by kernel_rfl) (fun _ _ _ h => h) (Or.inl ⟨rfl, fun _ _ => rfl⟩) hq0 ?_
        simp only [Act.put, List.setIfInBounds_toArray, List.set_cons_zero, List.set_cons_succ]
        refine takeL (i := 9) (v := _) rfl (by kernel_rfl) (by kernel_rfl) (by kernel_rfl) (fun _ _ _ h => h) (yieldsIf_cell rfl 3 _ rfl ⟨G, 1, none⟩ rfl (.int .i64 s) _ (fun W' hW' => (hW'.cell (p := ⟨G, 1, none⟩) hGl).trans c1) Try.underlying3 rfl) hq0 ?_
        simp only [Act.put, List.setIfInBounds_toArray, List.set_cons_zero, List.set_cons_succ]
        refine takeL (i := 10) (v := (.agg #[.int .u64 x, .int .i64 p, .int .i64 s])) rfl (by kernel_rfl) (by kernel_rfl) (by kernel_rfl) (fun _ _ _ h => h) (yieldsIf_build rfl 43 _ rfl [(0, .int .u64 x), (1, .int .i64 p), (2, .int .i64 s)] rfl #[.int .u64 x, .int .i64 p, .int .i64 s] (bent x p s)) hq0 ?_
        simp only [Act.put, List.setIfInBounds_toArray, List.set_cons_zero, List.set_cons_succ]
        refine runL (i := 11) rfl rfl (by kernel_rfl) (fun K hK => ?_)
        refine wp_buildSlice 39 43 1 _ rfl #[.int .u64 x, .int .i64 p, .int .i64 s] i1 (.agg EZ) Try.underlying39 I1.out.1 I1.out.2.1 (by rw [I1.out.2.2.1]; decide) (by rw [I1.out.2.2.1]; decide) (by rw [I1.out.2.2.1, Array.toList_map]; exact fent x p s) ?_
        have hq1 : Ext w2 (wd.alloc (.cells #[.int .u64 x, .int .i64 p, .int .i64 s] 43)) := hq0.alloc _
        have hxa : Ext wr (wd.alloc (.cells #[.int .u64 x, .int .i64 p, .int .i64 s] 43)) := hqx.alloc _
        refine hK.out _ _ hq1 (fun _ => ?_)
        try simp only [Act.put, List.setIfInBounds_toArray, List.set_cons_zero, List.set_cons_succ]
        clear hK K
        refine runL (i := 12) rfl rfl (by kernel_rfl) (fun K hK => ?_)
        refine oper_append_own_at _ _ 39 rfl w2.heap.size 43 i1 (.agg EZ) 3 24 Try.underlying39 I1.out.1 I1.out.2.1 I1.out.2.2.1 I1.out.2.2.2 rfl (by decide) v k (evs (L.take k)) rfl (owns_ext HO.out hxa) ⟨wd.heap.size, 0, none⟩ 1 1 (ev (x, p, s)) rfl rfl (news_alloc wd _ _) (fun u hu => evs_one [(x, p, s)] u (by simpa [evs] using hu)) (by unfold maxLen; omega) (by omega) hq1.size ?hfin
        case hfin =>
          intro v' w6 ho6 hgb
          have hq6 : Ext w2 w6 := Below.grown hq1 hgb hq1.size (fun q hq => owns_lt' HO.out q hq)
          refine hK.out _ _ hq6 (fun _ => ?_)
          try simp only [Act.put, List.setIfInBounds_toArray, List.set_cons_zero, List.set_cons_succ]
          clear hK K
          refine takeL (i := 13) (v := v') rfl (by kernel_rfl) (by kernel_rfl) (by kernel_rfl) (fun _ _ _ h => h) (Or.inl ⟨rfl, fun _ _ => rfl⟩) hq6 ?_
          simp only [Act.put, List.setIfInBounds_toArray, List.set_cons_zero, List.set_cons_succ]
          refine wpAnyH_done (by kernel_rfl) ?_ _
          have HO6 := Lib.hid (show w6.ownsRow w2.heap.size 43 3 v' (k + 1) (evs (L.take (k + 1))) by rw [HTK.out, evs_snoc]; exact ho6)
          have HQ6 := Lib.hid hq6
          clear ho6 hgb hq6 hq1 hxa hq0 hqx hck cfr LK0 c0 c1
          go_wp2_with fail
          go_roundw
          case rel => exact ⟨k + 1, _, _, rfl, rfl, by omega, by go_num, HO6.out, HQ6.out⟩
          case measure => simp [intOf] <;> omega
      · obtain rfl : k = n := by omega
        have dlt : decide ((k : Int) < (k : Int)) = false := by simp
        go_wp2_with fail
        go_ret
        have ho := HO.out
        have hnn := HNN.out
        rw [List.take_of_length_le (by omega)] at ho
        exact ⟨_, rfl, HE2.out.trans HX.out, by rw [hnn]; exact owns_base ho HE2.out.size⟩

theorem all60_x (w0 w : World) (f : Nat) (L : List En) (most age : Int) (h : Fx w0 w f L most age) (hL : Ok age L) (h12 : L.length ≤ 60) : Calls Try.prog 22 #[.pointer (some ⟨f, 0, none⟩)] w fun e w' => ∃ a cap, e = .returned (.slice a L.length cap) ∧ w'.ownsRow w.heap.size 43 3 (.slice a L.length cap) L.length (evs L) ∧ Ext w w' ∧ Fx w0 w' f L most age := by
  have hh := h
  obtain ⟨⟨F, hb, hF⟩, hx⟩ := h
  refine (all60_any w F f L most age hb hL h12).mono ?_
  rintro e w' ⟨v, he, hxx, hown⟩
  obtain ⟨a, cap, rfl⟩ := own_form hown
  exact ⟨a, cap, he, hown, hxx, hh.grow hxx⟩

theorem all60_2 (w0 w : World) (f g : Nat) (L M : List En) (most age : Int) (h : Fx2 w0 w f g L M most age) (hL : Ok age L) (h12 : L.length ≤ 60) : Calls Try.prog 22 #[.pointer (some ⟨f, 0, none⟩)] w fun e w' => ∃ a cap, e = .returned (.slice a L.length cap) ∧ Fx2 w0 w' f g L M most age := by
  have hh := h
  obtain ⟨⟨F, G, b1, _⟩, _⟩ := h
  refine (all60_any w F f L most age b1 hL h12).mono ?_
  rintro e w' ⟨v, he, hxx, hown⟩
  obtain ⟨a, cap, rfl⟩ := own_form hown
  exact ⟨a, cap, he, hh.grow hxx⟩

end Go.Proofs.Ytheackckmhbodaa
