/- What an iterator of keys gives, collected and sorted. No statement is proved here. -/
import Derived.Test.YtheackckmhbodaaFdV
import Derived.RangeFuncFrom
import Derived.RangeFuncKeeps
namespace Go.Proofs.Ytheackckmhbodaa
open Go.RowKit Go.BigFrame Go.WideShapes Go.ChangeShapes Go.Deep
set_option linter.unusedVariables false
set_option linter.unusedSimpArgs false

abbrev uv (ss : List Int) : List Value := ss.map (Value.int .u64)
theorem uv_one (ss : List Int) : ∀ u ∈ uv ss, u.oneCell' = true := fun u hu => by
  obtain ⟨x, _, rfl⟩ := List.mem_map.1 hu; rfl
/-- What has come lies in the box's slice. -/
def Coll (w : World) (B : Nat) (ss : List Int) (W : World) : Prop := (∃ v, Boxed W B 47 v ∧ W.ownsRow w.heap.size 30 1 v ss.length (uv ss) ∧ (v = .slice none 0 0 ↔ ss = [])) ∧ Below w.heap.size w W
theorem info_u64 : ∃ i, Try.prog.info? 30 = some i ∧ i.zero = some (Value.int .u64 0) ∧ i.size = 1 ∧ i.bytes = 8 := by
  refine ⟨_, rfl, ?_, ?_, ?_⟩ <;> kernel_rfl
theorem one_u64 (w : World) (x : Int) : ∀ j u, [Value.int .u64 x][j]? = some u → (w.alloc (.cells #[.int .u64 x] 30)).cell? ((⟨w.heap.size, 0, none⟩ : Addr).add j) = some u := cell_one_new w _ _

set_option maxRecDepth 100000 in
set_option maxHeartbeats 4000000 in
theorem appendseq_in (n : Nat) (hn : 2 ≤ n) (g : FuncId) (lb : Array Value) (eg : ∀ args w, (callFunc g args).run Try.prog w = .ok (.enter g args) w) (S : List Int → Prop) (N : Nat) (hN : N ≤ 100000) (w : World)
    (hseq : SeqStops Fence.wide (n - 1) Try.prog g lb (Value.int .u64) S (fun _ => True) N w) :
    CallsIn Fence.wide n Try.prog 38 #[.slice none 0 0, .func (.func g) #[] lb] w fun e w' => ∃ (v : Value) (ss : List Int), e = .returned v ∧ S ss ∧ w'.ownsRow w.heap.size 30 1 v ss.length (uv ss) ∧ (v = .slice none 0 0 ↔ ss = []) ∧ Below w.heap.size w w' := by
  refine callsIn_of_wp_marks (F := Fence.wide) Try.func38 rfl trivial ?_
  simp only [Try.ntmps38, List.size_toArray, List.length_cons, List.length_nil, Nat.reduceAdd, Nat.reduceSub, Array.replicate_succ, Array.replicate_zero, List.push_toArray, List.append_toArray, List.nil_append, List.cons_append]
  gi_wp2
  obtain ⟨W0, hW0⟩ : ∃ W0, w.alloc (.cells #[.slice none 0 0] 47) = W0 := ⟨_, rfl⟩
  have hv0 : Boxed W0 w.heap.size 47 (.slice none 0 0) := by rw [← hW0]; exact Boxed.new w _ _
  have hb0 : Below w.heap.size w W0 := by rw [← hW0]; exact (Below.refl _ w).alloc (Nat.le_refl _) _
  rw [hW0]
  clear hW0
  refine wpIn_rangeFunc_ownF (F := Fence.wide) (encs := fun x => #[Value.int .u64 x]) (Kp := KeepsWalks) (S := S) (Sp := fun _ => True) (N := N) (w0 := w) rfl (by omega) (gf := g) (lb := lb) rfl trivial eg hseq (fun h k => h.trans k)
    (fun W l o o' _ h _ hw => KeepsWalks.putObj o' h hw) hb0 (fun x => rfl) (Coll w w.heap.size) (fun _ _ _ => False)
    (((holdsRow_own w.heap.size w.heap.size 47 30 1 (fun ss : List Int => ss.length) uv (fun ss v => v = .slice none 0 0 ↔ ss = [])).from _).and (ownFrom_below (Nat.le_refl _) hb0.size)) (fun _ _ _ _ _ h _ _ => h)
    ⟨⟨_, hv0, ⟨rfl, .inl ⟨rfl, rfl⟩⟩, by simp⟩, hb0⟩
    (fun x => { tmps := #[.slice none 0 0, .func (.func g) #[] lb, .pointer (some ⟨w.heap.size, 0, none⟩), undef, .slice none 0 0, .int .u64 x, .func (.func g) #[] lb, .int .u64 x, undef, undef, undef, undef, undef], defers := [] }) ?_ ?_ ?_ ?_
  · intro l x W K hK
    gi_wp2_with (rw [Oper.semAt_eq _ _ _ (fun c h => by cases h)]; go_simp; try go_bits)
    exact hK
  · rintro l pre x W ⟨⟨v, hv, hrow, hnil⟩, hb⟩ hlen
    obtain ⟨i0, hi, hz0, hz1, hz2⟩ := info_u64
    have hc := hv.cell
    have hf := hv.frozen
    have hsz := hb.size
    have HROW := Lib.hid hrow
    have HV := Lib.hid hv
    have HB := Lib.hid hb
    clear hrow hv hb hnil hv0 hb0 hseq
    gi_wp2_with (first
      | (gi_at_builtin; refine wpListIn_append_own _ rfl _ _ 47 rfl w.heap.size 30 i0 (.int .u64 0) 1 8 Try.underlying47 hi hz0 hz1 hz2 rfl (by decide) _ _ _ rfl (HROW.out.alloc _) ⟨W.heap.size, 0, none⟩ 1 1 [.int .u64 x] rfl rfl (one_u64 W x) (fun u hu => by simp at hu; subst hu; rfl) (by unfold maxLen; omega) (by omega) (by simp; omega) ?_
         intro v' w3 hown' hg3 hnil3
         obtain ⟨p1, p2, p3, p4, p5⟩ := Boxed.appended HV.out (by decide) HROW.out hsz (Nat.le_refl _) hown' hg3
         obtain ⟨g', cap', rfl⟩ := ownsRow_succ hown'
         have hc3 := p1.cell
         have hf3 := p1.frozen
         go_frame)
      | (rw [Oper.semAt_eq _ _ _ (fun c h => by cases h)]; go_simp; try go_bits))
    refine ⟨p4, p4.walks, ⟨_, p2, ?_, by simp⟩, HB.out.trans p5⟩
    have : uv (pre ++ [x]) = uv pre ++ [.int .u64 x] := by simp [uv]
    rw [this, List.length_append]
    exact p3
  · rintro D xs W hD hS ⟨⟨v, hv, hrow, hnil⟩, hb⟩ hK
    have hc := hv.cell
    have hf := hv.frozen
    have hs0 := hb0.size
    clear hv0 hb0 hseq
    gi_wp2
    refine ⟨by simp, .inl ⟨_, _, rfl, run_takeDeferred hK, ?_⟩⟩
    refine ⟨_, results_tmp rfl _ _ _, v, xs, rfl, hS, ownsRow_putObj hrow _ hK rfl, hnil, hb.grown (grownBy_putObj' _ _ _) hb.size (fun k e => by cases e; omega)⟩
  · rintro D c pre W _ _ h
    exact h.elim
set_option maxRecDepth 100000 in
set_option maxHeartbeats 4000000 in
theorem collect_any (g : FuncId) (lb : Array Value) (eg : ∀ args w, (callFunc g args).run Try.prog w = .ok (.enter g args) w) (S : List Int → Prop) (N : Nat) (hN : N ≤ 100000) (w : World)
    (hseq : SeqStops Fence.wide 4 Try.prog g lb (Value.int .u64) S (fun _ => True) N w) :
    Calls Try.prog 35 #[.func (.func g) #[] lb] w fun e w' => ∃ (v : Value) (ss : List Int), e = .returned v ∧ S ss ∧ w'.ownsRow w.heap.size 30 1 v ss.length (uv ss) ∧ (v = .slice none 0 0 ↔ ss = []) ∧ Below w.heap.size w w' := by
  have HA := Lib.hid (callsIn_wide.1 (appendseq_in 5 (by decide) g lb eg S N hN w hseq))
  clear hseq eg
  go_enter Try.func35, Try.ntmps35
  go_wp2_with fail
  refine HA.out.mono ?_
  rintro e w1 ⟨v, ss, rfl, h1, h2, h3, h4⟩
  have H2 := Lib.hid h2
  have H3 := Lib.hid h3
  have H4 := Lib.hid h4
  clear h2 h3 h4
  go_wp2_with fail
  go_ret
  exact ⟨v, ss, rfl, h1, H2.out, H3.out, H4.out⟩
theorem AllKeys.len {age : Int} {L : List En} {ss : List Int} (h : AllKeys L ss) (hL : Ok age L) : ss.length = L.length := by
  have n2 : (L.map Prod.fst).Nodup := List.pairwise_map.2 (hL.1.imp (fun {a b} h => by omega))
  have := ((List.perm_ext_iff_of_nodup h.1 n2).2 h.2).length_eq
  simpa using this
theorem nums_of_own {w : World} {base g cap : Nat} {ss : List Int} {n : Nat} (h : w.ownsRow base 30 1 (.slice (some ⟨g, 0, none⟩) n cap) n (uv ss)) (hn : n = ss.length) : Nums w g ss ∧ base ≤ g := by
  rcases h.2 with ⟨h0, _⟩ | ⟨g', cap', cur, hv, hb, hg, h1, h2, h3, h4⟩
  · cases h0
  · cases hv
    refine ⟨⟨cur, hg, fun i hi => ?_⟩, hb⟩
    have : (cur.toList.take (n * 1))[i]? = (uv ss)[i]? := by rw [h4]
    rw [Nat.mul_one, List.getElem?_take_of_lt (by omega), Array.getElem?_toList] at this
    rw [this]
    simp [uv, hi, at0, List.getD]
theorem ext_mut {a b c : World} {F : Nat → Prop} (h : Ext a b) (m : Mut F b c) (hF : ∀ n, n < a.heap.size → ¬ F n) : Ext a c := ((h.mut F).trans m).ext (fun k hk => hF k hk)
def SortedP (w : World) (L : List En) (e : Ending) (w' : World) : Prop :=
  ∃ v, e = .returned v ∧ Ext w w' ∧ ((L = [] ∧ v = .slice none 0 0) ∨ ∃ g cap, v = .slice (some ⟨g, 0, none⟩) L.length cap ∧ w.heap.size ≤ g ∧ Nums w' g (L.map Prod.fst))
set_option maxRecDepth 100000 in
set_option maxHeartbeats 4000000 in
theorem sorted_any (g : FuncId) (lb : Array Value) (eg : ∀ args w, (callFunc g args).run Try.prog w = .ok (.enter g args) w) (age : Int) (L : List En) (hL : Ok age L) (h12 : L.length ≤ 12) (N : Nat) (hN : N ≤ 100000) (w : World)
    (hseq : SeqStops Fence.wide 4 Try.prog g lb (Value.int .u64) (AllKeys L) (fun _ => True) N w) : Calls Try.prog 32 #[.func (.func g) #[] lb] w (SortedP w L) := by
  have HA := Lib.hid (collect_any g lb eg (AllKeys L) N hN w hseq)
  have HL := Lib.hid hL
  clear hseq eg hL
  go_enter Try.func32, Try.ntmps32
  go_wp2_with fail
  refine HA.out.mono ?_
  rintro e w1 ⟨v, ss, rfl, h1, h2, h3, h4⟩
  have hlen := h1.len HL.out
  cases ss with
  | nil =>
    obtain rfl := h3.2 rfl
    have hLe : L = [] := List.eq_nil_of_length_eq_zero (by simpa using hlen.symm)
    have H4 := Lib.hid (show Ext w w1 from h4)
    clear h2 h3 h4 h1 hlen
    go_wp2_with fail
    refine (sort_nil _ none 0).mono ?_
    rintro e w2 ⟨rfl, rfl⟩
    go_wp2_with fail
    go_ret
    exact ⟨_, rfl, H4.out, .inl ⟨hLe, rfl⟩⟩
  | cons s0 sr =>
    obtain ⟨ls, hls⟩ : ∃ ls, s0 :: sr = ls := ⟨_, rfl⟩
    have hpos : 0 < ls.length := by rw [← hls]; simp
    rw [hls] at h1 h2 h3 hlen
    clear hls
    obtain ⟨gb, cap, rfl⟩ : ∃ gb cap, v = .slice (some ⟨gb, 0, none⟩) ls.length cap := by
      obtain ⟨q, hq⟩ : ∃ q, ls.length = q + 1 := ⟨ls.length - 1, by omega⟩
      rw [hq] at h2 ⊢
      exact ownsRow_succ h2
    obtain ⟨hnu, hbase⟩ := nums_of_own h2 rfl
    have hdist : ∀ a b, a < ls.length → b < ls.length → at0 ls a = at0 ls b → a = b := fun a b ha hb hab => by
      have e1 : at0 ls a = ls[a] := by simp [at0, List.getD, ha]
      have e2 : at0 ls b = ls[b] := by simp [at0, List.getD, hb]
      rw [e1, e2] at hab
      have hp := List.pairwise_iff_getElem.1 h1.1
      rcases Nat.lt_trichotomy a b with h | h | h
      · exact absurd hab (hp a b ha hb h)
      · exact h
      · exact absurd hab.symm (hp b a hb ha h)
    have HS := Lib.hid (sort_any w1 gb ls.length cap ls (by omega) hnu rfl hdist)
    have H4 := Lib.hid (show Ext w w1 from h4)
    have H1 := Lib.hid h1
    have HLEN := Lib.hid hlen
    clear h2 h3 h4 hnu hdist h1 hlen
    go_wp2_with fail
    refine HS.out.mono ?_
    rintro e w2 ⟨rfl, hout⟩
    have HO := Lib.hid hout
    clear hout
    go_wp2_with fail
    go_ret
    have hlen := HLEN.out
    obtain ⟨l, q1, q2, q3, q4⟩ := HO.out
    have hln : l.length = ls.length := q2.1
    have hk : (L.map Prod.fst).Pairwise (· < ·) := List.pairwise_map.2 HL.out.1
    have hkl : (L.map Prod.fst).length = l.length := by simp; omega
    have hlk : Like l.length (L.map Prod.fst) l := ⟨rfl, by rw [hln]; exact q2.2.1, fun x => by
      rw [hln, q2.2.2 x, ← mem_at, H1.out.2 x, mem_at, hkl, hln]⟩
    have heq := rise_uniq (by rw [hln]; exact q3) hlk hk hkl
    rw [heq] at q1
    refine ⟨_, rfl, ext_mut H4.out q4 (fun n hn h => by cases h; omega), .inr ⟨gb, cap, ?_, hbase, q1⟩⟩
    rw [← hlen]
    rfl

end Go.Proofs.Ytheackckmhbodaa
