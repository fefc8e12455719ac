/- A clone of a database. No statement is proved here. -/
import Derived.Test.YtheackckmhbodaaFdN
namespace Go.Proofs.Ytheackckmhbodaa
open Go.RowKit Go.BigFrame Go.WideShapes Go.ChangeShapes Go.Deep
set_option linter.unusedVariables false
set_option linter.unusedSimpArgs false
set_option maxRecDepth 100000

theorem asc_eq {A B : List En} (hA : A.Pairwise (fun a b => a.1 < b.1)) (hB : B.Pairwise (fun a b => a.1 < b.1)) (h : ∀ x, x ∈ A ↔ x ∈ B) : A = B := by
  have n1 : A.Nodup := hA.imp (fun {a b} h he => by rw [he] at h; omega)
  have n2 : B.Nodup := hB.imp (fun {a b} h he => by rw [he] at h; omega)
  exact List.Perm.eq_of_pairwise (le := fun a b => a.1 < b.1) (fun a b _ _ h1 h2 => by omega) hA hB ((List.perm_ext_iff_of_nodup n1 n2).2 h)
/-- Those that the range has come to. -/
def past (left : Lit → Bool) (L : List En) : List En := L.filter (fun e => !left (ku e.1))
theorem past_asc {left : Lit → Bool} {L : List En} (h : L.Pairwise (fun a b => a.1 < b.1)) : (past left L).Pairwise (fun a b => a.1 < b.1) := h.filter _
theorem past_len (left : Lit → Bool) (L : List En) : (past left L).length ≤ L.length := List.length_filter_le _ _
theorem past_ok {age : Int} {left : Lit → Bool} {L : List En} (h : Ok age L) : Ok age (past left L) := ⟨past_asc h.1, fun e he => h.2 e (List.mem_filter.1 he).1⟩
theorem past_none {left : Lit → Bool} {L : List En} (h : ∀ e ∈ L, left (ku e.1) = true) : past left L = [] := by
  unfold past
  rw [List.filter_eq_nil_iff]
  intro e he
  rw [h e he]
  decide
theorem past_all {left : Lit → Bool} {L : List En} (h : ∀ kl, left kl = false) : past left L = L := by
  unfold past
  rw [List.filter_eq_self]
  intro e _
  rw [h]
  rfl
theorem past_next {age : Int} {left : Lit → Bool} {L : List En} (hL : Ok age L) {e0 : En} (he : e0 ∈ L) (hl : left (ku e0.1) = true) : ins e0 (past left L) = past (fun z => left z && !z.sameKey (ku e0.1)) L := by
  refine asc_eq (ins_rises (past_asc hL.1)) (past_asc hL.1) fun x => ?_
  rw [ins_mem (past_asc hL.1)]
  unfold past
  rw [List.mem_filter, List.mem_filter]
  constructor
  · rintro (rfl | ⟨⟨h1, h2⟩, h3⟩)
    · exact ⟨he, by simp [ku_same]⟩
    · refine ⟨h1, ?_⟩
      have : left (ku x.1) = false := by simpa using h2
      show (!(left (ku x.1) && !(ku x.1).sameKey (ku e0.1))) = true
      rw [this]
      rfl
  · rintro ⟨h1, h2⟩
    by_cases hx : x.1 = e0.1
    · exact .inl (hL.uni h1 he hx)
    · refine .inr ⟨⟨h1, ?_⟩, hx⟩
      have h3 : (!(left (ku x.1) && !(ku x.1).sameKey (ku e0.1))) = true := h2
      rw [ku_ne hx] at h3
      simpa using h3
theorem FbC.mono {w : World} {F G : Nat → Prop} {f b : Nat} {D : DU} {L : List En} {gb : Int → Nat} {most age : Int} (h : FbC w F f b D L gb most age) (hFG : ∀ k, F k → G k) : FbC w G f b D L gb most age :=
  ⟨h.hf, h.at_, h.has_, h.cells, fun e he => ⟨hFG _ (h.own e he).1, (h.own e he).2⟩, h.inj, h.ne, hFG _ h.fF.1, hFG _ h.fF.2⟩
theorem oper_makeMap {P : Program} {o : Oper} {a : Act} {w : World} {K : Act → World → Prop} {Q : Exit → Act → World → Prop} (t : TypeId) (ho : o.op = .makeMap t none) (hmk : (Instr.makeMap t none).run P w = .ok (.map (some w.heap.size)) (w.alloc (.map #[] 0)))
    (h : K (a.put o.dst (.map (some w.heap.size))) (w.alloc (.map #[] 0))) : Oper.wp P o a w K Q := by
  unfold Oper.wp execOp
  simp only [ho, Option.map, Sem.run_bind, hmk, Result.andThen_ok]
  exact h
theorem grown_of_ext {w w' : World} (h : Ext w w') (row : Option Nat) : w.grownBy w' row := ⟨h.os, h.tape, h.output, h.size, fun k hk _ => h.block k hk⟩
/-- The clone so far: it lies in what is new but the range's own block R, in block X, its map in b2. -/
def ClP (w : World) (R X b2 : Nat) (M : List En) (most age : Int) (wr : World) : Prop :=
  ∃ D2 gb2, FbC wr (fun k => (w.heap.size ≤ k ∧ k < wr.heap.size) ∧ k ≠ R) X b2 D2 M gb2 most age ∧ wr.ownsMap Try.prog 30 pE b2 M.length D2
theorem owns_blk {w w' : World} {b n : Nat} {D : DU} (h : w.ownsMap Try.prog 30 pE b n D) (hx : w'.heap[b]? = w.heap[b]?) : w'.ownsMap Try.prog 30 pE b n D := by
  obtain ⟨es, clock, hb, F, hs, hD⟩ := h
  exact ⟨es, clock, hx.trans hb, F, hs, hD⟩
theorem ClP.grown {w wr w' : World} {R X b2 : Nat} {M : List En} {most age : Int} {row : Option Nat} (h : ClP w R X b2 M most age wr) (hg : wr.grownBy w' row) (hr : row = none ∨ row = some R) : ClP w R X b2 M most age w' := by
  obtain ⟨D2, gb2, h1, h2⟩ := h
  have hk : ∀ k, k < wr.heap.size → k ≠ R → w'.heap[k]? = wr.heap[k]? := fun k hk hne => hg.block k hk (fun e => by rcases hr with rfl | rfl; cases e; cases e; exact hne rfl)
  exact ⟨D2, gb2, (h1.ext (fun k hk1 _ hF => hk k hk1 hF.2)).mono (fun k hk => ⟨⟨hk.1.1, Nat.lt_of_lt_of_le hk.1.2 hg.size⟩, hk.2⟩), owns_blk h2 (hk b2 h1.fF.2.1.2 h1.fF.2.2)⟩
theorem ClP.put {w wr wb w6 : World} {R X b2 G n : Nat} {D2 : DU} {gb2 : Int → Nat} {M : List En} {most age : Int} {e : En} (h1 : FbC wr (fun k => (w.heap.size ≤ k ∧ k < wr.heap.size) ∧ k ≠ R) X b2 D2 M gb2 most age) (hM : Ok age (ins e M)) (hMa : M.Pairwise (fun a b => a.1 < b.1)) (hmp : Maps.IsMap D2)
    (hx : Ext wr wb) (hG : wb.heap[G]? = some (.cells #[.int .i64 e.2.1, .int .i64 e.2.2] 60 (0, 0))) (hGn : wr.heap.size ≤ G) (hwr : w.heap.size ≤ wr.heap.size) (hR : R < wr.heap.size)
    (hu : w6.ownsMap Try.prog 30 pE b2 n (D2.put (ku e.1) (.lit (.int .i64 G)))) (ht : wb.mapTurned w6 b2) : ClP w R X b2 (ins e M) most age w6 := by
  have hg := ht.grown
  have hGl := row_lt hG
  have hb2 := h1.fF.2.1.2
  have hGb : G ≠ b2 := by omega
  have hG6 : w6.heap[G]? = some (.cells #[.int .i64 e.2.1, .int .i64 e.2.2] 60 (0, 0)) := (hg.block G hGl (fun e => hGb (by cases e; rfl))).trans hG
  have hsz : wb.heap.size ≤ w6.heap.size := hg.size
  have hsz2 := hx.size
  have he : e ∈ ins e M := (ins_mem hMa).2 (.inl rfl)
  have key : WideAt.IsKeyLit (ku e.1) := KK.key (Maps.keyOf_int_mk Try.underlying30 (wfx (by have := hM.2 e he; omega)))
  have hput := FbC.put (w' := w6) (F' := fun k => (w.heap.size ≤ k ∧ k < w6.heap.size) ∧ k ≠ R) h1 hMa hmp e hG6 hGn
    (fun k hk hkb => (hg.block k (Nat.lt_of_lt_of_le hk hx.size) (fun e => hkb (by cases e; rfl))).trans (hx.block k hk)) (fun k hk => ⟨⟨hk.1.1, by omega⟩, hk.2⟩) ⟨⟨by omega, by omega⟩, by omega⟩ key hb2
  refine ⟨_, _, hput, ?_⟩
  have := owns_tight hu
  rwa [hput.size hM hu] at this
def SZ : Array Value := #[.int .i64 0, .int .i64 0]
theorem zero_st : ∀ w, (zeroValue 60).run Try.prog w = .ok (.agg SZ) w := (zero_of_info (P := Try.prog) (t := 60) (v := .agg SZ) (n := 2) (by kernel_rfl)).1
theorem size_st : (Try.prog.info? 60).map (·.size) = some 2 := by kernel_rfl
set_option maxRecDepth 100000 in
set_option maxHeartbeats 4000000 in
theorem clone_x (w0 w : World) (f : Nat) (L : List En) (most age : Int) (h : Fx w0 w f L most age) (hL : Ok age L) (hlen : L.length ≤ 4096) :
    Calls Try.prog 23 #[.pointer (some ⟨f, 0, none⟩)] w fun e w' => ∃ g, e = .returned (.pointer (some ⟨g, 0, none⟩)) ∧ Fx w w' g L most age := by
  obtain ⟨⟨F, ⟨b, D, gb, g1, g2, g3⟩, hF0⟩, hE0⟩ := h
  have HC := Lib.hid g1
  have HM := Lib.hid g2
  have HF := Lib.hid g3
  have HL := Lib.hid hL
  have hfl := row_lt g1.hf
  have cf1 : w.cell? ⟨f, 1, none⟩ = some (.int .i64 most) := by rw [cell_row g1.hf]; rfl
  have cf2 : w.cell? ⟨f, 2, none⟩ = some (.int .i64 age) := by rw [cell_row g1.hf]; rfl
  clear g1 g2 g3 hL hF0 hE0
  go_enter Try.func23, Try.ntmps23
  go_wp2_with fail
  refine beginL (S := fun W' => Ext w W') (by kernel_rfl) ?_
  intro wd hqx
  have hq0 : Ext w wd := hqx
  refine takeL (i := 1) (v := (.pointer (some ⟨f, 0, none⟩))) rfl (by kernel_rfl) (by kernel_rfl) (by kernel_rfl) (fun _ _ _ h => h) (Or.inl ⟨rfl, fun _ _ => rfl⟩) hq0 ?_
  simp only [Act.put, List.setIfInBounds_toArray, List.set_cons_zero, List.set_cons_succ]
  refine takeL (i := 2) (v := (.pointer (some ⟨f, 0, none⟩))) rfl (by kernel_rfl) (by kernel_rfl) (by kernel_rfl) (fun _ _ _ h => h) (Or.inl ⟨rfl, fun _ _ => rfl⟩) hq0 ?_
  simp only [Act.put, List.setIfInBounds_toArray, List.set_cons_zero, List.set_cons_succ]
  refine takeL (i := 3) (v := (.pointer (some ⟨f, 1, none⟩))) rfl (by kernel_rfl) (by kernel_rfl) (by kernel_rfl) (fun _ _ _ h => h) (Or.inl ⟨rfl, fun _ _ => rfl⟩) hq0 ?_
  simp only [Act.put, List.setIfInBounds_toArray, List.set_cons_zero, List.set_cons_succ]
  refine takeL (i := 4) (v := _) rfl (by kernel_rfl) (by kernel_rfl) (by kernel_rfl) (fun _ _ _ h => h) (yieldsIf_cell rfl 3 _ rfl ⟨f, 1, none⟩ rfl (.int .i64 most) _ (fun W' hW' => (hW'.cell (p := ⟨f, 1, none⟩) hfl).trans cf1) Try.underlying3 rfl) hq0 ?_
  simp only [Act.put, List.setIfInBounds_toArray, List.set_cons_zero, List.set_cons_succ]
  refine takeL (i := 5) (v := (.pointer (some ⟨f, 0, none⟩))) rfl (by kernel_rfl) (by kernel_rfl) (by kernel_rfl) (fun _ _ _ h => h) (Or.inl ⟨rfl, fun _ _ => rfl⟩) hq0 ?_
  simp only [Act.put, List.setIfInBounds_toArray, List.set_cons_zero, List.set_cons_succ]
  refine takeL (i := 6) (v := (.pointer (some ⟨f, 0, none⟩))) rfl (by kernel_rfl) (by kernel_rfl) (by kernel_rfl) (fun _ _ _ h => h) (Or.inl ⟨rfl, fun _ _ => rfl⟩) hq0 ?_
  simp only [Act.put, List.setIfInBounds_toArray, List.set_cons_zero, List.set_cons_succ]
  refine takeL (i := 7) (v := (.pointer (some ⟨f, 2, none⟩))) rfl (by kernel_rfl) (by kernel_rfl) (by kernel_rfl) (fun _ _ _ h => h) (Or.inl ⟨rfl, fun _ _ => rfl⟩) hq0 ?_
  simp only [Act.put, List.setIfInBounds_toArray, List.set_cons_zero, List.set_cons_succ]
  refine takeL (i := 8) (v := _) rfl (by kernel_rfl) (by kernel_rfl) (by kernel_rfl) (fun _ _ _ h => h) (yieldsIf_cell rfl 3 _ rfl ⟨f, 2, none⟩ rfl (.int .i64 age) _ (fun W' hW' => (hW'.cell (p := ⟨f, 2, none⟩) hfl).trans cf2) Try.underlying3 rfl) hq0 ?_
  simp only [Act.put, List.setIfInBounds_toArray, List.set_cons_zero, List.set_cons_succ]
  refine runL (i := 0) rfl rfl (by kernel_rfl) (fun K hK => ?_)
  refine oper_makeMap 52 rfl rfl ?_
  have hmm := World.ownsMap_made wd Try.prog 30 pE
  have hx1 := (Ext.refl wd).alloc (.map #[] 0)
  obtain ⟨wm, hwm⟩ : ∃ wm, wd.alloc (.map #[] 0) = wm := ⟨_, rfl⟩
  obtain ⟨b2, hb2⟩ : ∃ b2, wd.heap.size = b2 := ⟨_, rfl⟩
  have hsz1 : wm.heap.size = b2 + 1 := by rw [← hwm, ← hb2]; simp
  rw [hwm] at hmm hx1 ⊢
  rw [hb2] at hmm ⊢
  have hwb2 : w.heap.size ≤ b2 := by have := hq0.size; omega
  have hq1 := hq0.trans hx1
  refine hK.out _ _ hq1 (fun _ => ?_)
  try simp only [Act.put, List.setIfInBounds_toArray, List.set_cons_zero, List.set_cons_succ]
  clear hK K hwm hb2
  refine takeL (i := 9) (v := (.agg #[.map (some b2), .int .i64 most, .int .i64 age])) rfl (by kernel_rfl) (by kernel_rfl) (by kernel_rfl) (fun _ _ _ h => h) (Or.inl ⟨rfl, fun W' _ => by go_simp⟩) hq1 ?_
  simp only [Act.put, List.setIfInBounds_toArray, List.set_cons_zero, List.set_cons_succ]
  refine runL (i := 10) rfl rfl (by kernel_rfl) (fun K hK => ?_)
  refine oper_box 54 _ rfl #[.map (some b2), .int .i64 most, .int .i64 age] rfl (fun X wb hX hsz hxb hsz2 => ?_)
  have hq2 := hq1.trans hxb
  refine hK.out _ _ hq2 (fun _ => ?_)
  try simp only [Act.put, List.setIfInBounds_toArray, List.set_cons_zero, List.set_cons_succ]
  clear hK K
  refine takeL (i := 11) (v := (.pointer (some ⟨X, 0, none⟩))) rfl (by kernel_rfl) (by kernel_rfl) (by kernel_rfl) (fun _ _ _ h => h) (Or.inl ⟨rfl, fun _ _ => rfl⟩) hq2 ?_
  simp only [Act.put, List.setIfInBounds_toArray, List.set_cons_zero, List.set_cons_succ]
  refine wpAnyH_done (by kernel_rfl) ?_ _
  have hXb : X ≠ b2 := by omega
  have HQ2 := Lib.hid hq2
  have HB2 := Lib.hid (show w.heap.size ≤ b2 ∧ b2 < X ∧ X < wb.heap.size from ⟨hwb2, by omega, row_lt hX⟩)
  have HCL := Lib.hid (show ClP w wb.heap.size X b2 [] most age wb from ⟨.map [], fun _ => 0, ⟨hX, (fun x z => by simp [DataW.atKey]), (fun x => by simp [Maps.has]), (fun e he => by cases he), (fun e he => by cases he), (fun e he => by cases he), hXb, ⟨⟨by omega, row_lt hX⟩, by have := row_lt hX; omega⟩, ⟨⟨hwb2, by have := row_lt hX; omega⟩, by have := row_lt hX; omega⟩⟩, owns_ext' hmm hxb⟩)
  have HC2 := Lib.hid (HC.out.ext (fun k hk _ _ => hq2.block k hk))
  have HM2 := Lib.hid (owns_ext' HM.out hq2)
  have HF2 := Lib.hid (fun k (hk : F k) => Nat.lt_of_lt_of_le (HF.out k hk) hq2.size)
  have cf0 : wb.cell? ⟨f, 0, none⟩ = some (.map (some b)) := by rw [cell_row HC2.out.hf]; rfl
  have hbw : b < w.heap.size := HF.out b HC.out.fF.2
  have HFW := Lib.hid HF.out
  clear hq0 hq1 hq2 hqx hxb hX hmm hx1 hsz hsz2 hsz1 hwb2 hXb cf1 cf2 hfl HM HF HC
  go_wp2_with (first
    | fail
    | (at_range; refine wpList_range_own _ rfl _ 52 rfl 30 57 KK Try.underlying52 pE b L.length D rfl HM2.out ?_
       intro w1 hrg0 hg0 hs0
       have HRG0 := Lib.hid hrg0
       have HG0 := Lib.hid (show Ext wb w1 from Mut.ext (Mut.grown (F := fun _ => False) hg0 (by simp)) (fun _ _ h => h))
       have hs1 := hs0
       clear hrg0 hg0 hs0 cf0))
  go_frame
  obtain ⟨R, hR⟩ : ∃ R, wb.heap.size = R := ⟨_, rfl⟩
  rw [hR] at HRG0 hs1 HCL ⊢
  have HR := Lib.hid hR
  clear hR
  have HST := Lib.hid (show ∃ left cnt, w1.ranges Try.prog 30 pE b R L.length D left cnt ∧ ClP w R X b2 (past left L) most age w1 ∧ Mut (fun k => k = b2) wb w1 from ⟨_, _, HRG0.out, by
    rw [past_none (fun e he => by rw [HC2.out.has_]; exact decide_eq_true (List.mem_map.2 ⟨e, he, rfl⟩))]
    exact HCL.out.grown (grown_of_ext HG0.out none) (.inl rfl), HG0.out.mut _⟩)
  clear HRG0 hs1 HCL
  go_loopw [4] (fun _ wr => ∃ left cnt, wr.ranges Try.prog 30 pE b R L.length D left cnt ∧ ClP w R X b2 (past left L) most age wr ∧ Mut (fun k => k = b2) wb wr) (fun _ wr => wr.rangeLeft b R)
  case atStart =>
    obtain ⟨left, cnt, q1, q2, q3⟩ := HST.out
    exact ⟨left, cnt, q1, q2, q3⟩
  case round =>
    clear HST
    obtain ⟨left, cnt, hrg, hcl, hew⟩ := hrel
    rename World => wl
    have hleq := hrg.left_eq
    have HR1 := Lib.hid hrg
    have HCL := Lib.hid hcl
    have HEW := Lib.hid hew
    have HLE := Lib.hid hleq
    clear hrg hcl hew hleq
    go_wp2_with (first
      | fail
      | (at_next; refine wpList_next_ranges _ rfl _ rfl 30 KK pE id id (fun key _ _ => ⟨key, rfl⟩) (fun v _ _ => ⟨v, rfl⟩) b R L.length _ _ _ rfl HR1.out ?_ ?_))
    · intro hc0 hl0
      have HFIN := Lib.hid (show ClP w R X b2 L most age wl from by
        have := HCL.out
        rwa [past_all hl0] at this)
      go_wp2_with fail
      go_ret
      obtain ⟨D2, gb2, q1, q2⟩ := HFIN.out
      exact ⟨X, rfl, ⟨fun k => w.heap.size ≤ k ∧ k < wl.heap.size, ⟨b2, D2, gb2, q1.mono (fun k hk => hk.1), q2, fun k hk => hk.2⟩, fun k hk => hk.1⟩, HQ2.out.mutE HEW.out (fun k hk hF => by have h2 : k = b2 := hF; have := HB2.out; omega)⟩
    · intro key v kl yd yp w2 cnt2 hkey hlk hv hat hrg2 hlt hg2 hs2 hen
      obtain ⟨e0, he0, hk1, hk2, hv1, -⟩ := at_entry (left := left) (st := some) some_keeps (show FbC wb F f b D (part left some L) gb most age by rw [part_some]; exact HC2.out) hkey hlk hv hat
      subst hk1 hk2 hv1
      obtain ⟨x0, p0, s0⟩ := e0
      have hw : (Lit.int .u64 x0).wf = true := wfk HL.out he0
      have hRl := HR1.out.lt
      have hgF : F (gb x0) := (HC2.out.own (x0, p0, s0) he0).1
      have hglt : gb x0 < wb.heap.size := HF2.out _ hgF
      have hgw : gb x0 < w.heap.size := HFW.out _ hgF
      have hrow : w2.heap[gb x0]? = some (.cells #[.int .i64 p0, .int .i64 s0] 60 (0, 0)) :=
        (hg2.block _ (Nat.lt_of_lt_of_le hglt HEW.out.size) (fun e => by have := HR.out; cases e; omega)).trans ((HEW.out.heap hglt (fun hc => by have h2 : gb x0 = b2 := hc; have := HB2.out; omega)).trans (HC2.out.cells (x0, p0, s0) he0))
      have c0 : w2.cell? ⟨gb x0, 0, none⟩ = some (.int .i64 p0) := by rw [cell_row hrow]; rfl
      have c1 : w2.cell? ⟨gb x0, 0 + 1, none⟩ = some (.int .i64 s0) := by rw [cell_row hrow]; rfl
      have RS := Lib.hid (range_cons c0 (range_cons c1 range_nil))
      have HCL2 := Lib.hid (HCL.out.grown hg2 (.inr rfl))
      have HRG2 := Lib.hid hrg2
      have HM9 := Lib.hid (HEW.out.thenGrown hg2 (fun j hj => .inr (by cases hj; have := HR.out; omega)))
      have HLT := Lib.hid hlt
      have HE0 := Lib.hid he0
      have HLK := Lib.hid hlk
      have HKEY := Lib.hid (show keyOf Try.prog 30 (.int .u64 x0) = some (ku x0) from Maps.keyOf_int_mk Try.underlying30 hw)
      have hs29 : R < w2.heap.size ∧ w.heap.size ≤ w2.heap.size := ⟨Nat.lt_of_lt_of_le hRl hg2.size, by have := HQ2.out.size; have := HEW.out.size; have := hg2.size; omega⟩
      have HS2 := Lib.hid hs29
      clear hrow hrg2 hlt he0 hlk hg2 hs2 hat hv hkey HCL HR1 HEW c0 c1 hglt hgF hw hRl hs29 hgw
      go_wp2_with (first
        | fail
        | ((with_reducible refine at_load 60 ?_); refine wpList_load_mid rfl 60 _ rfl (gb x0) 0 rfl [.int .i64 p0, .int .i64 s0] _ RS.out Try.underlying60 rfl size_st ?_)
        | ((with_reducible refine at_alloc 60 ?_); refine al_zero rfl 60 rfl SZ zero_st ?_
           intro G w4 hq4 hsz4 hx4)
        | ((with_reducible refine at_store 60 ?_); refine st_at rfl rfl 60 _ _ rfl G 0 _ #[.int .i64 p0, .int .i64 s0] SZ #[.int .i64 p0, .int .i64 s0] 60 rfl rfl rfl hq4 (by exact (by decide : 0 + 2 ≤ 2)) (by kernel_rfl) rfl rfl ?_
           intro w5 hq5 hm5
           have E25 : Ext w2 w5 := hx4.mutE hm5 (fun n hn h => by have h2 : n = G := h; omega)
           have HG5 := Lib.hid hq5
           have HGN := Lib.hid (show w2.heap.size ≤ G by omega)
           have HE25 := Lib.hid E25
           obtain ⟨D2, gb2, q1, q2⟩ := HCL2.out
           have cX : w5.cell? ⟨X, 0, none⟩ = some (.map (some b2)) := by rw [cell_row ((E25.block X (row_lt q1.hf)).trans q1.hf)]; rfl
           have HQ1 := Lib.hid q1
           have HO5 := Lib.hid (owns_ext' q2 E25)
           have HIS := Lib.hid q2.isMap
           clear hq4 hsz4 hx4 hq5 hm5 E25 q1 q2 w4)
        | (at_mapUpdate; go_loud (refine wpList_mapUpdate_in _ rfl _ _ _ 52 rfl 30 57 KK Try.underlying52 pE b2 (past left L).length D2 rfl HO5.out (by unfold maxLen; have := past_len left L; omega) _ _ (ku x0) rfl rfl HKEY.out (.lit (.int .i64 G)) [] rfl ?_)
           intro w6 hm6 ht6
           have HM6 := Lib.hid hm6
           have HT6 := Lib.hid ht6
           clear hm6 ht6))
      have hpn := past_next HL.out HE0.out HLK.out
      have hcl6 : ClP w R X b2 (past (fun z => left z && !z.sameKey (ku x0)) L) most age w6 := by
        rw [← hpn]
        exact ClP.put HQ1.out (by rw [hpn]; exact past_ok HL.out) (past_asc HL.out.1) HIS.out HE25.out HG5.out HGN.out HS2.out.2 HS2.out.1 HM6.out HT6.out
      have hbb : b ≠ b2 := by have := HB2.out; omega
      have hRb : R ≠ b2 := by have := HB2.out; have := HR.out; omega
      have hrg6 := (HRG2.out.kept (grown_of_ext HE25.out none) (by simp) (by simp)).kept HT6.out.grown (fun e => hbb (by cases e; rfl)) (fun e => hRb (by cases e; rfl))
      have hmu6 := (HM9.out.trans (HE25.out.mut _)).thenGrown HT6.out.grown (fun j hj => .inl (by cases hj; rfl))
      have HF6 := Lib.hid (And.intro hrg6 (And.intro hcl6 hmu6))
      clear hpn hcl6 hbb hRb hrg6 hmu6
      go_wp2_with fail
      go_roundw
      case rel => exact ⟨_, ⟨_, HF6.out.1⟩, HF6.out.2.1, HF6.out.2.2⟩
      case measure =>
        have h1 := HLT.out
        have h2 := HLE.out
        show w6.rangeLeft b R < _
        rw [HF6.out.1.left_eq]
        omega

end Go.Proofs.Ytheackckmhbodaa
