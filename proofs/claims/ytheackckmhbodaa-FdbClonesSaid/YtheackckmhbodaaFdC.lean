/- The database: its seconds, and less time for a port's. No statement is proved here. -/
import Derived.Test.YtheackckmhbodaaFdB
namespace Go.Proofs.Ytheackckmhbodaa
open Go.RowKit Go.BigFrame Go.WideShapes Go.ChangeShapes Go.Deep
set_option linter.unusedVariables false
set_option linter.unusedSimpArgs false

def tickE (e : En) : Option En := setSec e.1 (e.2.2 - 1) e
theorem tickE_keeps : Keeps tickE := fun e e' h => setSec_keeps _ _ e e' h
def shortE (port sec : Int) (e : En) : Option En := if e.2.1 = port then setSec e.1 (min e.2.2 sec) e else some e
theorem shortE_keeps (port sec : Int) : Keeps (shortE port sec) := fun e e' h => by
  unfold shortE at h
  split at h
  · exact setSec_keeps _ _ e e' h
  · cases h; rfl
theorem wfk {age : Int} {L : List En} (h : Ok age L) {e : En} (he : e ∈ L) : (Lit.int .u64 e.1).wf = true := by
  have := (h.2 e he).1
  simp [Lit.wf, IntKind.min, IntKind.max, IntKind.signed, IntKind.bits]
  omega
theorem Mut.thenGrown {F : Nat → Prop} {a b c : World} {row : Option Nat} (h : Mut F a b) (hg : b.grownBy c row) (hr : ∀ j, row = some j → F j ∨ a.heap.size ≤ j) : Mut F a c :=
  ⟨hg.os.trans h.1, hg.tape.trans h.2.1, hg.output.trans h.2.2.1, Nat.le_trans h.2.2.2.1 hg.size, fun k hk hf => (hg.block k (Nat.lt_of_lt_of_le hk h.2.2.2.1) (fun e => by rcases hr k e.symm with h1 | h1; exact hf h1; omega)).trans (h.2.2.2.2 k hk hf)⟩
/-- The entry at which the range stands. -/
theorem at_entry {w : World} {F : Nat → Prop} {f b : Nat} {D : DU} {L : List En} {st : En → Option En} {left : Lit → Bool} {gb : Int → Nat} {most age : Int} (hs : Keeps st) (h : FbC w F f b D (part left st L) gb most age)
    {key v : Value} {kl : Lit} {y : DU × List MemPlace} (hkey : keyOf Try.prog 30 key = some kl) (hl : left kl = true) (hv : pE v = some y) (hat : ∀ zd, D.atKey kl zd = y.1) :
    ∃ e ∈ L, key = .int .u64 e.1 ∧ kl = ku e.1 ∧ v = .pointer (some ⟨gb e.1, 0, none⟩) ∧ e ∈ part left st L := by
  obtain ⟨x, rfl, rfl, _⟩ := Maps.keyOf_int_inv Try.underlying30 hkey
  have hh := Maps.has_true_of_atKey hat
  rw [h.has_] at hh
  have hm := of_decide_eq_true hh
  obtain ⟨e, he, rfl⟩ := List.mem_map.1 (fm_keys (part_keeps hs) hm)
  have ha := hat (.lit (.bool true))
  rw [h.at_, if_pos hm] at ha
  refine ⟨e, he, rfl, rfl, ?_, part_mem he hl⟩
  rcases pE_inv hv with ⟨rfl, rfl⟩ | ⟨g, rfl, rfl⟩
  · simp at ha
  · simp at ha; rw [show gb e.1 = g by omega]
def LoopP (M : Nat → Prop) (w : World) (F : Nat → Prop) (f b R n : Nat) (st : En → Option En) (L : List En) (gb : Int → Nat) (most age : Int) (left : Lit → Bool) (cnt : Nat) (wr : World) : Prop :=
  ∃ D, wr.ranges Try.prog 30 pE b R n D left cnt ∧ FbC wr F f b D (part left st L) gb most age ∧ Mut M w wr ∧ R < wr.heap.size
theorem LoopP.left_eq {M : Nat → Prop} {w : World} {F : Nat → Prop} {f b R n : Nat} {st : En → Option En} {L : List En} {gb : Int → Nat} {most age : Int} {left : Lit → Bool} {cnt : Nat} {wr : World} (h : LoopP M w F f b R n st L gb most age left cnt wr) : wr.rangeLeft b R = cnt := by
  obtain ⟨D, h, _⟩ := h; exact h.left_eq
def DoneP (M : Nat → Prop) (w : World) (F : Nat → Prop) (f b n : Nat) (L : List En) (gb : Int → Nat) (most age : Int) (w' : World) : Prop :=
  ∃ D, FbC w' F f b D L gb most age ∧ w'.ownsMap Try.prog 30 pE b n D ∧ Mut M w w'
/-- The loop begins. -/
theorem LoopP.start {M : Nat → Prop} {w w1 : World} {F : Nat → Prop} {f b n : Nat} {st : En → Option En} {D : DU} {L : List En} {gb : Int → Nat} {most age : Int} (h : FbC w F f b D L gb most age) (hr : w1.ranges Try.prog 30 pE b w.heap.size n D (Maps.has D) (Maps.size D)) (hg : w.grownBy w1 none) (hsz : w1.heap.size = w.heap.size + 1) :
    LoopP M w F f b w.heap.size n st L gb most age (Maps.has D) (Maps.size D) w1 := by
  refine ⟨D, hr, ?_, Mut.grown hg (by simp), by omega⟩
  rw [part_all (fun e he => by rw [h.has_]; exact decide_eq_true (List.mem_map.2 ⟨e, he, rfl⟩))]
  exact h.ext (fun k hk _ _ => hg.block k hk (by simp))
/-- The loop ends. -/
theorem LoopP.stop {M : Nat → Prop} {w wr : World} {F : Nat → Prop} {f b R n : Nat} {st : En → Option En} {L : List En} {gb : Int → Nat} {most age : Int} {left : Lit → Bool} {cnt : Nat} (h : LoopP M w F f b R n st L gb most age left cnt wr) (hl : ∀ kl, left kl = false) : DoneP M w F f b n (L.filterMap st) gb most age wr := by
  obtain ⟨D, h1, h2, h3, _⟩ := h
  rw [part_none hl] at h2
  exact ⟨D, h2, h1.owns, h3⟩

set_option maxRecDepth 100000 in
set_option maxHeartbeats 4000000 in
theorem tick_any (w : World) (F : Nat → Prop) (f b n : Nat) (D : DU) (L : List En) (gb : Int → Nat) (most age : Int) (h : FbC w F f b D L gb most age) (hL : Ok age L) (ha : age ≤ 1000000) (hm : w.ownsMap Try.prog 30 pE b n D) (hF : ∀ k, F k → k < w.heap.size) :
    Calls Try.prog 16 #[.pointer (some ⟨f, 0, none⟩)] w fun e w' => e = .returned (.tuple #[]) ∧ DoneP F w F f b n (L.filterMap tickE) gb most age w' := by
  have cf : w.cell? ⟨f, 0, none⟩ = some (.map (some b)) := by rw [cell_row h.hf]; rfl
  have HL := Lib.hid hL
  have HF := Lib.hid hF
  have HH := Lib.hid h
  have HM := Lib.hid hm
  clear hL hF h hm
  go_enter Try.func16, Try.ntmps16
  go_wp2_with (first
    | fail
    | (at_range; refine wpList_range_own _ rfl _ 52 rfl 30 57 KK Try.underlying52 pE b n D rfl HM.out ?_
       intro w0 hrg0 hg0 hs0
       have HLP := Lib.hid (LoopP.start (M := F) (st := tickE) HH.out hrg0 hg0 hs0)
       clear hrg0 hg0 hs0 cf))
  go_frame
  obtain ⟨R, hR⟩ : ∃ R, w.heap.size = R := ⟨_, rfl⟩
  rw [hR] at HLP ⊢
  have HR := Lib.hid hR
  clear hR
  go_loopw [9] (fun _ wr => ∃ (left : Lit → Bool) (cnt : Nat), LoopP F w F f b R n tickE L gb most age left cnt wr) (fun _ wr => wr.rangeLeft b R)
  case atStart => exact ⟨_, _, HLP.out⟩
  case round =>
    clear HLP
    obtain ⟨left, cnt, hlp⟩ := hrel
    have hleq := hlp.left_eq
    have HE := Lib.hid (fun hl => LoopP.stop hlp hl)
    obtain ⟨D1, hr1, hc1, hm1, hR1⟩ := hlp
    have HR1 := Lib.hid hr1
    have HC1 := Lib.hid hc1
    have HM1 := Lib.hid hm1
    have HLE := Lib.hid hleq
    clear hr1 hc1 hm1 hleq
    go_wp2_with (first
      | fail
      | (at_next; refine wpList_next_ranges _ rfl _ rfl 30 KK pE id id (fun key _ _ => ⟨key, rfl⟩) (fun v _ _ => ⟨v, rfl⟩) b R n _ _ _ rfl HR1.out ?_ ?_))
    · intro hc0 hl0
      go_wp2_with fail
      go_end0
      exact ⟨rfl, HE.out hl0⟩
    · intro key v kl yd yp w2 cnt2 hkey hlk hv hat hrg2 hlt hg2 hs2 hen
      obtain ⟨e0, he0, hk1, hk2, hv1, hp0⟩ := at_entry tickE_keeps HC1.out hkey hlk hv hat
      subst hk1 hk2 hv1
      have hw := wfk HL.out he0
      have hb0 := HL.out.2 e0 he0
      have hc2 : FbC w2 F f b D1 (part left tickE L) gb most age := HC1.out.ext (fun k hk hkb hFk => hg2.block k hk (fun e => by have := HF.out k hFk; have := HR.out; cases e; omega))
      have hun : ∀ e ∈ part left tickE L, e.1 = e0.1 → e = e0 := fun e he hk => rises_uni (fm_rises (part_keeps tickE_keeps) HL.out.1) he hp0 hk
      have c1 : w2.cell? ⟨gb e0.1, 1, none⟩ = some (.int .i64 e0.2.2) := by rw [cell_row (hc2.cells _ hp0)]; rfl
      have HC2 := Lib.hid hc2
      have HRG2 := Lib.hid hrg2
      have HUN := Lib.hid hun
      have HM2 := Lib.hid (show Mut F w w2 from HM1.out.thenGrown hg2 (fun j hj => .inr (by cases hj; have := HR.out; omega)))
      have HLT := Lib.hid hlt
      have HP0 := Lib.hid hp0
      have HE0 := Lib.hid he0
      have HW := Lib.hid hw
      have HLK := Lib.hid hlk
      have HBB := Lib.hid hb0
      have HS2 := Lib.hid hs2
      have hsub : IntKind.i64.wrap (e0.2.2 - 1) = e0.2.2 - 1 := by rw [IntKind.wrap_i64]; have := HBB.out; omega
      clear hc2 hrg2 hun hlt hp0 he0 hw hlk hb0 hg2 hs2 hat hv hkey HE HC1 HR1
      go_wp2_with fail
      refine (shorten_any w2 F f b R n D1 _ cnt2 (part left tickE L) gb most age HC2.out HRG2.out e0 HP0.out HUN.out HW.out (by simp [ku_same]) (e0.2.2 - 1)).mono ?_
      rintro e w3 ⟨rfl, hsh⟩
      have HSH := Lib.hid hsh
      clear hsh
      go_wp2_with fail
      go_roundw
      case rel =>
        obtain ⟨D3, cnt3, q1, q2, q3, q4⟩ := HSH.out
        rw [part_step tickE_keeps HL.out HE0.out HLK.out rfl] at q1
        exact ⟨_, cnt3, D3, q2, q1, HM2.out.trans q4, by have := q4.size; have := HS2.out; omega⟩
      case measure =>
        obtain ⟨D3, cnt3, q1, q2, q3, q4⟩ := HSH.out
        have h1 := HLT.out
        have h2 := HLE.out
        rw [q2.left_eq]
        omega

end Go.Proofs.Ytheackckmhbodaa
