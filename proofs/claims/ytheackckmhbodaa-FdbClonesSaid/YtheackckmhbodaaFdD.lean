/- The database: less time for a port's; who lives shortest. No statement is proved here. -/
import Derived.Test.YtheackckmhbodaaFdC
namespace Go.Proofs.Ytheackckmhbodaa
open Go.RowKit Go.BigFrame Go.WideShapes Go.ChangeShapes Go.Deep
set_option linter.unusedVariables false
set_option linter.unusedSimpArgs false

/-- How many of a port's are done. -/
def cntP (port : Int) (left : Lit → Bool) : List En → Nat
  | [] => 0
  | a :: r => cntP port left r + (if a.2.1 = port ∧ left (ku a.1) = false then 1 else 0)
theorem cntP_le (port : Int) (left : Lit → Bool) : ∀ L, cntP port left L ≤ L.length
  | [] => Nat.le_refl _
  | a :: r => by
    have := cntP_le port left r
    unfold cntP
    rw [List.length_cons]
    split <;> omega
theorem cntP_all (port : Int) (left : Lit → Bool) : ∀ L : List En, (∀ e ∈ L, left (ku e.1) = true) → cntP port left L = 0
  | [], _ => rfl
  | a :: r, h => by
    unfold cntP
    rw [cntP_all port left r (fun e he => h e (List.mem_cons_of_mem _ he)), if_neg (fun hc => by rw [h a (by simp)] at hc; cases hc.2)]
theorem cntP_congr (port : Int) {left left' : Lit → Bool} : ∀ L : List En, (∀ e ∈ L, left (ku e.1) = left' (ku e.1)) → cntP port left L = cntP port left' L
  | [], _ => rfl
  | a :: r, h => by
    unfold cntP
    rw [cntP_congr port r (fun e he => h e (List.mem_cons_of_mem _ he)), h a (by simp)]
theorem cntP_step (port : Int) {left : Lit → Bool} {e0 : En} (hl : left (ku e0.1) = true) : ∀ {L : List En}, L.Pairwise (fun a b => a.1 < b.1) → e0 ∈ L → cntP port (fun z => left z && !z.sameKey (ku e0.1)) L = cntP port left L + (if e0.2.1 = port then 1 else 0)
  | [], _, h => by cases h
  | a :: r, hp, h => by
    obtain ⟨h1, h2⟩ := List.pairwise_cons.1 hp
    unfold cntP
    rcases List.mem_cons.1 h with q | q
    · subst q
      rw [cntP_congr port (left' := left) r (fun e he => by have := h1 e he; simp [ku_same]; intro; omega)]
      simp [ku_same, hl]
    · rw [cntP_step port hl h2 q]
      have := h1 _ q
      have hne : ¬ a.1 = e0.1 := by omega
      simp [ku_same, hne]
      omega
def shorts (port sec : Int) (L : List En) : List En := L.filterMap (shortE port sec)
theorem i64_up {m : Nat} (h : m ≤ 5000) : IntKind.i64.wrap ((m : Int) + 1) = (m : Int) + 1 := by rw [IntKind.wrap_i64]; omega

set_option maxRecDepth 100000 in
set_option maxHeartbeats 4000000 in
theorem short_any (w : World) (F : Nat → Prop) (f b n : Nat) (D : DU) (L : List En) (gb : Int → Nat) (most age : Int) (h : FbC w F f b D L gb most age) (hL : Ok age L) (ha : 0 ≤ age ∧ age ≤ 1000000) (hm : w.ownsMap Try.prog 30 pE b n D) (hF : ∀ k, F k → k < w.heap.size) (port sec : Int) (hlen : L.length ≤ 4096) :
    Calls Try.prog 20 #[.pointer (some ⟨f, 0, none⟩), .int .i64 port, .int .i64 sec] w fun e w' => e = .returned (.int .i64 (cntP port (fun _ => false) L)) ∧ DoneP F w F f b n (shorts port sec L) gb most age w' := by
  have cf : w.cell? ⟨f, 0, none⟩ = some (.map (some b)) := by rw [cell_row h.hf]; rfl
  have HL := Lib.hid hL
  have HF := Lib.hid hF
  have HH := Lib.hid h
  have HM := Lib.hid hm
  have HZ := Lib.hid (cntP_all port (Maps.has D) L (fun e he => by rw [h.has_]; exact decide_eq_true (List.mem_map.2 ⟨e, he, rfl⟩)))
  clear hL hF h hm
  go_enter Try.func20, Try.ntmps20
  go_wp2_with (first
    | fail
    | (at_range; refine wpList_range_own _ rfl _ 52 rfl 30 57 KK Try.underlying52 pE b n D rfl HM.out ?_
       intro w0 hrg0 hg0 hs0
       have HLP := Lib.hid (LoopP.start (M := F) (st := shortE port sec) HH.out hrg0 hg0 hs0)
       clear hrg0 hg0 hs0 cf))
  go_frame
  obtain ⟨R, hR⟩ : ∃ R, w.heap.size = R := ⟨_, rfl⟩
  rw [hR] at HLP ⊢
  have HR := Lib.hid hR
  clear hR
  go_loopw [7] (fun s wr => ∃ (left : Lit → Bool) (cnt : Nat), LoopP F w F f b R n (shortE port sec) L gb most age left cnt wr ∧ s = .int .i64 (cntP port left L)) (fun _ wr => wr.rangeLeft b R)
  case atStart => exact ⟨_, _, HLP.out, by rw [HZ.out]; rfl⟩
  case round =>
    clear HLP HZ
    obtain ⟨left, cnt, hlp, rfl⟩ := hrel
    have hcl := cntP_le port left L
    obtain ⟨m, hm⟩ : ∃ m, cntP port left L = m := ⟨_, rfl⟩
    rw [hm] at hcl ⊢
    have HMM := Lib.hid hm
    clear hm
    have hleq := hlp.left_eq
    have HE := Lib.hid (fun hl => LoopP.stop hlp hl)
    obtain ⟨D1, hr1, hc1, hm1, hR1⟩ := hlp
    have HR1 := Lib.hid hr1
    have HC1 := Lib.hid hc1
    have HM1 := Lib.hid hm1
    have HLE := Lib.hid hleq
    clear hr1 hc1 hm1 hleq
    go_wp2_with (first
      | fail
      | (at_next; refine wpList_next_ranges _ rfl _ rfl 30 KK pE id id (fun key _ _ => ⟨key, rfl⟩) (fun v _ _ => ⟨v, rfl⟩) b R n _ _ _ rfl HR1.out ?_ ?_))
    · intro hc0 hl0
      go_wp2_with fail
      go_ret
      refine ⟨?_, HE.out hl0⟩
      rw [← HMM.out, cntP_congr port (left' := fun _ => false) L (fun e _ => hl0 _)]
      rfl
    · intro key v kl yd yp w2 cnt2 hkey hlk hv hat hrg2 hlt hg2 hs2 hen
      obtain ⟨e0, he0, hk1, hk2, hv1, hp0⟩ := at_entry (st := (shortE port sec)) (shortE_keeps port sec) HC1.out hkey hlk hv hat
      subst hk1 hk2 hv1
      have hw := wfk HL.out he0
      have hb0 := HL.out.2 e0 he0
      have hc2 : FbC w2 F f b D1 (part left (shortE port sec) L) gb most age := HC1.out.ext (fun k hk hkb hFk => hg2.block k hk (fun e => by have := HF.out k hFk; have := HR.out; cases e; omega))
      have hun : ∀ e ∈ part left (shortE port sec) L, e.1 = e0.1 → e = e0 := fun e he hk => rises_uni (fm_rises (part_keeps (shortE_keeps port sec)) HL.out.1) he hp0 hk
      have c0 : w2.cell? ⟨gb e0.1, 0, none⟩ = some (.int .i64 e0.2.1) := by rw [cell_row (hc2.cells _ hp0)]; rfl
      have c1 : w2.cell? ⟨gb e0.1, 1, none⟩ = some (.int .i64 e0.2.2) := by rw [cell_row (hc2.cells _ hp0)]; rfl
      have HC2 := Lib.hid hc2
      have HRG2 := Lib.hid hrg2
      have HUN := Lib.hid hun
      have HM2 := Lib.hid (show Mut F w w2 from HM1.out.thenGrown hg2 (fun j hj => .inr (by cases hj; have := HR.out; omega)))
      have HLT := Lib.hid hlt
      have HP0 := Lib.hid hp0
      have HE0 := Lib.hid he0
      have HW := Lib.hid hw
      have HLK := Lib.hid hlk
      have HBB := Lib.hid hb0
      have HS2 := Lib.hid hs2
      clear hc2 hrg2 hun hlt hp0 he0 hw hlk hb0 hg2 hs2 hat hv hkey HE HC1 HR1
      have hup := i64_up (m := m) (by omega)
      by_cases hpp : e0.2.1 = port
      · have hd : (e0.2.1 == port) = true := by simpa using hpp
        have HPP := Lib.hid hpp
        clear hpp
        by_cases hle : e0.2.2 ≤ sec
        · have HMN := Lib.hid (show min e0.2.2 sec = e0.2.2 by omega)
          go_wp2_with fail
          refine (shorten_any w2 F f b R n D1 _ cnt2 (part left (shortE port sec) L) gb most age HC2.out HRG2.out e0 HP0.out HUN.out HW.out (by simp [ku_same]) e0.2.2).mono ?_
          rintro e w3 ⟨rfl, hsh⟩
          have HSH := Lib.hid hsh
          clear hsh
          go_wp2_with fail
          go_roundw
          case rel =>
            obtain ⟨D3, cnt3, q1, q2, q3, q4⟩ := HSH.out
            rw [part_step (shortE_keeps port sec) HL.out HE0.out HLK.out (by unfold shortE; rw [if_pos HPP.out, HMN.out])] at q1
            refine ⟨_, cnt3, ⟨D3, q2, q1, HM2.out.trans q4, by have := q4.size; have := HS2.out; omega⟩, ?_⟩
            rw [cntP_step port HLK.out HL.out.1 HE0.out, if_pos HPP.out, HMM.out]
            rfl
          case measure =>
            obtain ⟨D3, cnt3, q1, q2, q3, q4⟩ := HSH.out
            have h1 := HLT.out
            have h2 := HLE.out
            rw [q2.left_eq]
            omega
        · replace hle := Int.not_le.1 hle
          have HMN := Lib.hid (show min e0.2.2 sec = sec by omega)
          go_wp2_with fail
          refine (shorten_any w2 F f b R n D1 _ cnt2 (part left (shortE port sec) L) gb most age HC2.out HRG2.out e0 HP0.out HUN.out HW.out (by simp [ku_same]) sec).mono ?_
          rintro e w3 ⟨rfl, hsh⟩
          have HSH := Lib.hid hsh
          clear hsh
          go_wp2_with fail
          go_roundw
          case rel =>
            obtain ⟨D3, cnt3, q1, q2, q3, q4⟩ := HSH.out
            rw [part_step (shortE_keeps port sec) HL.out HE0.out HLK.out (by unfold shortE; rw [if_pos HPP.out, HMN.out])] at q1
            refine ⟨_, cnt3, ⟨D3, q2, q1, HM2.out.trans q4, by have := q4.size; have := HS2.out; omega⟩, ?_⟩
            rw [cntP_step port HLK.out HL.out.1 HE0.out, if_pos HPP.out, HMM.out]
            rfl
          case measure =>
            obtain ⟨D3, cnt3, q1, q2, q3, q4⟩ := HSH.out
            have h1 := HLT.out
            have h2 := HLE.out
            rw [q2.left_eq]
            omega
      · have hd : (e0.2.1 == port) = false := by simpa using hpp
        have HPP := Lib.hid hpp
        clear hpp
        go_wp2_with fail
        go_roundw
        case rel =>
          have q1 := HC2.out
          rw [part_same HL.out HE0.out HLK.out (by unfold shortE; rw [if_neg HPP.out])] at q1
          refine ⟨_, cnt2, ⟨D1, HRG2.out, q1, HM2.out, by have := HS2.out; omega⟩, ?_⟩
          rw [cntP_step port HLK.out HL.out.1 HE0.out, if_neg HPP.out, HMM.out]
          rfl
        case measure =>
          have h1 := HLT.out
          have h2 := HLE.out
          rw [HRG2.out.left_eq]
          omega

set_option maxRecDepth 100000 in
set_option maxHeartbeats 4000000 in
theorem flush_any (w : World) (F : Nat → Prop) (f b n : Nat) (D : DU) (L : List En) (gb : Int → Nat) (most age : Int) (h : FbC w F f b D L gb most age) (hL : Ok age L) (ha : 0 ≤ age ∧ age ≤ 1000000) (hm : w.ownsMap Try.prog 30 pE b n D) (hF : ∀ k, F k → k < w.heap.size) (port : Int) (hlen : L.length ≤ 4096) :
    Calls Try.prog 18 #[.pointer (some ⟨f, 0, none⟩), .int .i64 port] w fun e w' => e = .returned (.int .i64 (cntP port (fun _ => false) L)) ∧ DoneP F w F f b n (shorts port 0 L) gb most age w' := by
  go_enter Try.func18, Try.ntmps18
  go_wp2_with fail
  refine (short_any w F f b n D L gb most age h hL ha hm hF port 0 hlen).mono ?_
  rintro e w1 ⟨rfl, hd⟩
  go_wp2_with fail
  go_ret
  exact ⟨rfl, hd⟩


end Go.Proofs.Ytheackckmhbodaa
