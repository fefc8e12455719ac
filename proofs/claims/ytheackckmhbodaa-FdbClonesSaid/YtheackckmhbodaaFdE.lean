/- The database: who lives shortest. No statement is proved here. -/
import Derived.Test.YtheackckmhbodaaFdC
namespace Go.Proofs.Ytheackckmhbodaa
open Go.RowKit Go.BigFrame Go.WideShapes Go.ChangeShapes Go.Deep
set_option linter.unusedVariables false
set_option linter.unusedSimpArgs false

/-- Who lives shortest of those that are done; of like ones the least. -/
def BestP (age : Int) (L : List En) (left : Lit → Bool) (l s : Int) : Prop :=
  ((∀ e ∈ L, left (ku e.1) = true) ∧ l = 0 ∧ s = age + 1) ∨ ∃ e ∈ L, left (ku e.1) = false ∧ l = e.1 ∧ s = e.2.2 ∧ ∀ e' ∈ L, left (ku e'.1) = false → e.2.2 < e'.2.2 ∨ (e.2.2 = e'.2.2 ∧ e.1 ≤ e'.1)
theorem BestP.rg {age : Int} {L : List En} {left : Lit → Bool} {l s : Int} (hL : Ok age L) (ha : 0 ≤ age ∧ age ≤ 1000000) (h : BestP age L left l s) : 0 ≤ s ∧ s ≤ 1000001 := by
  rcases h with ⟨_, _, rfl⟩ | ⟨e, he, _, _, rfl, _⟩
  · omega
  · have := hL.2 e he; omega
theorem ku_ne {e e0 : En} (h : e.1 ≠ e0.1) : (ku e.1).sameKey (ku e0.1) = false := by rw [ku_same]; exact decide_eq_false h
theorem left_new {left : Lit → Bool} {e e0 : En} (h : (left (ku e.1) && !(ku e.1).sameKey (ku e0.1)) = false) : left (ku e.1) = false ∨ e.1 = e0.1 := by
  by_cases hx : e.1 = e0.1
  · exact .inr hx
  · rw [ku_ne hx] at h
    simp at h
    exact .inl h
/-- A better one, or the first one. -/
theorem BestP.take {age : Int} {L : List En} {left : Lit → Bool} {l s : Int} (hL : Ok age L) (h : BestP age L left l s) {e0 : En} (he : e0 ∈ L) (hb : e0.2.2 < s ∨ (e0.2.2 = s ∧ e0.1 < l)) : BestP age L (fun z => left z && !z.sameKey (ku e0.1)) e0.1 e0.2.2 := by
  refine .inr ⟨e0, he, by simp [ku_same], rfl, rfl, fun e' he' hl' => ?_⟩
  rcases left_new hl' with hl' | hx
  · rcases h with ⟨ha, _, _⟩ | ⟨e, he1, _, rfl, rfl, hall⟩
    · rw [ha e' he'] at hl'; cases hl'
    · have := hall e' he' hl'
      omega
  · rw [hL.uni he' he hx]
    right; omega
theorem BestP.keep {age : Int} {L : List En} {left : Lit → Bool} {l s : Int} (hL : Ok age L) (h : BestP age L left l s) {e0 : En} (he : e0 ∈ L) (hl : left (ku e0.1) = true) (hb : ¬ (e0.2.2 < s ∨ (e0.2.2 = s ∧ e0.1 < l))) : BestP age L (fun z => left z && !z.sameKey (ku e0.1)) l s := by
  rcases h with ⟨_, _, rfl⟩ | ⟨e, he1, hle, rfl, rfl, hall⟩
  · have := hL.2 e0 he; omega
  · refine .inr ⟨e, he1, by simp [hle], rfl, rfl, fun e' he' hl' => ?_⟩
    rcases left_new hl' with hl' | hx
    · exact hall e' he' hl'
    · rw [hL.uni he' he hx]
      omega
theorem BestP.last {age : Int} {L : List En} {left : Lit → Bool} {l s : Int} (h : BestP age L left l s) (hl : ∀ kl, left kl = false) (hn : L ≠ []) : ∃ e ∈ L, l = e.1 ∧ ∀ e' ∈ L, e.2.2 < e'.2.2 ∨ (e.2.2 = e'.2.2 ∧ e.1 ≤ e'.1) := by
  rcases h with ⟨ha, _⟩ | ⟨e, he, _, h1, _, hall⟩
  · obtain ⟨a, r, rfl⟩ := List.exists_cons_of_ne_nil hn
    have := ha a (by simp)
    rw [hl] at this; cases this
  · exact ⟨e, he, h1, fun e' he' => hall e' he' (hl _)⟩
theorem ranges_drewN {P : Program} {k : TypeId} {w : World} {b r n : Nat} {D : DU} {left : Lit → Bool} {cnt : Nat} (h : w.ranges P k pE b r n D left cnt) (q : Nat) : (w.drewN q).ranges P k pE b r n D left cnt := h
theorem some_keeps : Keeps some := fun e e' h => by cases h; rfl
theorem part_some (left : Lit → Bool) (L : List En) : part left some L = L := by
  unfold part
  rw [fm_congr (g := some) (fun e _ => by simp)]
  exact List.filterMap_some

set_option maxRecDepth 100000 in
set_option maxHeartbeats 4000000 in
theorem shortest_any (w : World) (F : Nat → Prop) (f b n : Nat) (D : DU) (L : List En) (gb : Int → Nat) (most age : Int) (h : FbC w F f b D L gb most age) (hL : Ok age L) (ha : 0 ≤ age ∧ age ≤ 1000000) (hm : w.ownsMap Try.prog 30 pE b n D) (hF : ∀ k, F k → k < w.heap.size) (hne : L ≠ []) :
    Calls Try.prog 26 #[.pointer (some ⟨f, 0, none⟩)] w fun e w' => ∃ e0 ∈ L, (∀ e' ∈ L, e0.2.2 < e'.2.2 ∨ (e0.2.2 = e'.2.2 ∧ e0.1 ≤ e'.1)) ∧ e = .returned (.int .u64 e0.1) ∧ DoneP (fun _ => False) w F f b n L gb most age w' := by
  have cf : w.cell? ⟨f, 0, none⟩ = some (.map (some b)) := by rw [cell_row h.hf]; rfl
  have HL := Lib.hid hL
  have HF := Lib.hid hF
  have HH := Lib.hid h
  have HM := Lib.hid hm
  have cf2 : w.cell? ⟨f, 2, none⟩ = some (.int .i64 age) := by rw [cell_row h.hf]; rfl
  have HB0 := Lib.hid (show BestP age L (Maps.has D) 0 (age + 1) from .inl ⟨fun e he => by rw [h.has_]; exact decide_eq_true (List.mem_map.2 ⟨e, he, rfl⟩), rfl, rfl⟩)
  have hup : IntKind.i64.wrap (age + 1) = age + 1 := by rw [IntKind.wrap_i64]; omega
  have HNE := Lib.hid hne
  have HA := Lib.hid ha
  clear hL hF h hm hne ha
  go_enter Try.func26, Try.ntmps26
  go_wp2_with fail
  go_quiet (fail)
  have HX := Lib.hid (show Mut (fun _ => False) w (w.drewN nq) from (Mut.refl _ w).drewN nq)
  have hh2 : FbC (w.drewN nq) F f b D L gb most age := HH.out.ext (fun _ _ _ _ => rfl)
  have hm2 : (w.drewN nq).ownsMap Try.prog 30 pE b n D := HM.out
  have hf2 : ∀ k, F k → k < (w.drewN nq).heap.size := HF.out
  have cf' : (w.drewN nq).cell? ⟨f, 0, none⟩ = some (.map (some b)) := cf
  clear HF HH HM cf cf2 hup
  obtain ⟨wq, hq⟩ : ∃ wq, w.drewN nq = wq := ⟨_, rfl⟩
  rw [hq] at HX hh2 hm2 hf2 cf' ⊢
  clear hq
  have HF := Lib.hid hf2
  have HH := Lib.hid hh2
  have HM := Lib.hid hm2
  clear hf2 hh2 hm2
  go_wp2_with (first
    | fail
    | (at_range; refine wpList_range_own _ rfl _ 52 rfl 30 57 KK Try.underlying52 pE b n D rfl HM.out ?_
       intro w0 hrg0 hg0 hs0
       have HLP := Lib.hid (LoopP.start (M := (fun _ => False)) (st := some) HH.out hrg0 hg0 hs0)
       clear hrg0 hg0 hs0 cf'))
  go_frame
  obtain ⟨R, hR⟩ : ∃ R, wq.heap.size = R := ⟨_, rfl⟩
  rw [hR] at HLP ⊢
  have HR := Lib.hid hR
  clear hR
  go_loopw [3, 4] (fun sl ss wr => ∃ (left : Lit → Bool) (cnt : Nat), LoopP (fun _ => False) wq F f b R n some L gb most age left cnt wr ∧ ∃ l s : Int, sl = .int .u64 l ∧ ss = .int .i64 s ∧ BestP age L left l s) (fun _ _ wr => wr.rangeLeft b R)
  case atStart => exact ⟨_, _, HLP.out, _, _, rfl, rfl, HB0.out⟩
  case round =>
    clear HLP HB0
    obtain ⟨left, cnt, hlp, l, s, rfl, rfl, hbp⟩ := hrel
    have HBP := Lib.hid hbp
    clear hbp
    have hleq := hlp.left_eq
    have HE := Lib.hid (fun hl => LoopP.stop hlp hl)
    obtain ⟨D1, hr1, hc1, hm1, hR1⟩ := hlp
    have HR1 := Lib.hid hr1
    have HC1 := Lib.hid hc1
    have HM1 := Lib.hid hm1
    have HLE := Lib.hid hleq
    clear hr1 hc1 hm1 hleq
    go_wp2_with (first
      | fail
      | (at_next; refine wpList_next_ranges _ rfl _ rfl 30 KK pE id id (fun key _ _ => ⟨key, rfl⟩) (fun v _ _ => ⟨v, rfl⟩) b R n _ _ _ rfl HR1.out ?_ ?_))
    · intro hc0 hl0
      go_wp2_with fail
      go_ret
      obtain ⟨e, he, rfl, hall⟩ := HBP.out.last hl0 HNE.out
      have := HE.out hl0
      rw [List.filterMap_some] at this
      obtain ⟨D9, y1, y2, y3⟩ := this
      exact ⟨e, he, hall, rfl, D9, y1, y2, HX.out.trans y3⟩
    · intro key v kl yd yp w2 cnt2 hkey hlk hv hat hrg2 hlt hg2 hs2 hen
      obtain ⟨e0, he0, hk1, hk2, hv1, hp0⟩ := at_entry (st := some) some_keeps HC1.out hkey hlk hv hat
      subst hk1 hk2 hv1
      have hw := wfk HL.out he0
      have hb0 := HL.out.2 e0 he0
      have hc2 : FbC w2 F f b D1 (part left some L) gb most age := HC1.out.ext (fun k hk hkb hFk => hg2.block k hk (fun e => by have := HF.out k hFk; have := HR.out; cases e; omega))
      have hun : ∀ e ∈ part left some L, e.1 = e0.1 → e = e0 := fun e he hk => rises_uni (fm_rises (part_keeps some_keeps) HL.out.1) he hp0 hk
      have c0 : w2.cell? ⟨gb e0.1, 0, none⟩ = some (.int .i64 e0.2.1) := by rw [cell_row (hc2.cells _ hp0)]; rfl
      have c1 : w2.cell? ⟨gb e0.1, 1, none⟩ = some (.int .i64 e0.2.2) := by rw [cell_row (hc2.cells _ hp0)]; rfl
      have HC2 := Lib.hid hc2
      have HRG2 := Lib.hid hrg2
      have HUN := Lib.hid hun
      have HM2 := Lib.hid (show Mut (fun _ => False) wq w2 from HM1.out.thenGrown hg2 (fun j hj => .inr (by cases hj; have := HR.out; omega)))
      have HLT := Lib.hid hlt
      have HP0 := Lib.hid hp0
      have HE0 := Lib.hid he0
      have HW := Lib.hid hw
      have HLK := Lib.hid hlk
      have HBB := Lib.hid hb0
      have HS2 := Lib.hid hs2
      clear hc2 hrg2 hun hlt hp0 he0 hw hlk hb0 hg2 hs2 hat hv hkey HE HC1 HR1
      by_cases h1 : e0.2.2 < s
      · have d1 : decide (e0.2.2 < s) = true := decide_eq_true h1
        have HQ := Lib.hid h1
        clear h1
        go_wp2_with fail
        go_quiet (fail)
        go_wp2_with fail
        go_roundw
        case rel =>
          have q1 := HC2.out
          rw [part_some] at q1
          exact ⟨_, cnt2, ⟨D1, ranges_drewN HRG2.out _, by rw [part_some]; exact q1.ext (fun _ _ _ _ => rfl), HM2.out.drewN _, by have := HS2.out; show R < w2.heap.size; omega⟩, _, _, rfl, rfl, HBP.out.take HL.out HE0.out (by have := HQ.out; omega)⟩
        case measure =>
          have h1 := HLT.out
          have h2 := HLE.out
          show w2.rangeLeft b R < _
          rw [HRG2.out.left_eq]
          omega
      · have d1 : decide (e0.2.2 < s) = false := decide_eq_false h1
        by_cases h2 : e0.2.2 = s
        · have d2 : (e0.2.2 == s) = true := by simpa using h2
          by_cases h3 : e0.1 < l
          · have d3 : decide (e0.1 < l) = true := decide_eq_true h3
            have HQ := Lib.hid (And.intro h2 h3)
            clear h1 h2 h3
            go_wp2_with fail
            go_quiet (fail)
            go_wp2_with fail
            go_roundw
            case rel =>
              have q1 := HC2.out
              rw [part_some] at q1
              exact ⟨_, cnt2, ⟨D1, ranges_drewN HRG2.out _, by rw [part_some]; exact q1.ext (fun _ _ _ _ => rfl), HM2.out.drewN _, by have := HS2.out; show R < w2.heap.size; omega⟩, _, _, rfl, rfl, HBP.out.take HL.out HE0.out (by have := HQ.out; omega)⟩
            case measure =>
              have h1 := HLT.out
              have h2 := HLE.out
              show w2.rangeLeft b R < _
              rw [HRG2.out.left_eq]
              omega
          · have d3 : decide (e0.1 < l) = false := decide_eq_false h3
            have HQ := Lib.hid (And.intro h1 h3)
            clear h1 h2 h3
            go_wp2_with fail
            go_roundw
            case rel =>
              have q1 := HC2.out
              rw [part_some] at q1
              exact ⟨_, cnt2, ⟨D1, HRG2.out, by rw [part_some]; exact q1, HM2.out, by have := HS2.out; show R < w2.heap.size; omega⟩, _, _, rfl, rfl, HBP.out.keep HL.out HE0.out HLK.out (by have := HQ.out; omega)⟩
            case measure =>
              have h1 := HLT.out
              have h2 := HLE.out
              show w2.rangeLeft b R < _
              rw [HRG2.out.left_eq]
              omega
        · have d2 : (e0.2.2 == s) = false := by simpa using h2
          have HQ := Lib.hid (And.intro h1 h2)
          clear h1 h2
          go_wp2_with fail
          go_roundw
          case rel =>
            have q1 := HC2.out
            rw [part_some] at q1
            exact ⟨_, cnt2, ⟨D1, HRG2.out, by rw [part_some]; exact q1, HM2.out, by have := HS2.out; show R < w2.heap.size; omega⟩, _, _, rfl, rfl, HBP.out.keep HL.out HE0.out HLK.out (by have := HQ.out; omega)⟩
          case measure =>
            have h1 := HLT.out
            have h2 := HLE.out
            show w2.rangeLeft b R < _
            rw [HRG2.out.left_eq]
            omega

end Go.Proofs.Ytheackckmhbodaa
