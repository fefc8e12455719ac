/- The database: its seconds, and less time for a port's. No statement is proved here. -/
import Derived.Test.YtemmfbedchfekaaBrF
import Derived.Test.YtemmfbedchfekaaFdBq
namespace Go.Proofs.Ytemmfbedchfekaa
open Go.RowKit Go.BigFrame Go.WideShapes Go.ChangeShapes Go.Deep
set_option linter.unusedVariables false
set_option linter.unusedSimpArgs false
set_option maxRecDepth 100000

def tickE (e : En) : Option En := setSec e.1 (e.2.2 - 1) e
theorem tickE_keeps : Keeps tickE := fun e e' h => setSec_keeps _ _ e e' h
def shortE (port sec : Int) (e : En) : Option En := if e.2.1 = port then setSec e.1 (min e.2.2 sec) e else some e
theorem shortE_keeps (port sec : Int) : Keeps (shortE port sec) := fun e e' h => by
  unfold shortE at h
  split at h
  · exact setSec_keeps _ _ e e' h
  · cases h; rfl
theorem wfk {age : Int} {L : List En} (h : Ok age L) {e : En} (he : e ∈ L) : (Lit.int .u64 e.1).wf = true := by
  have := (h.2 e he).1
  simp [Lit.wf, IntKind.min, IntKind.max, IntKind.signed, IntKind.bits]
  omega
theorem Mut.thenGrown {F : Nat → Prop} {a b c : World} {row : Option Nat} (h : Mut F a b) (hg : b.grownBy c row) (hr : ∀ j, row = some j → F j ∨ a.heap.size ≤ j) : Mut F a c :=
  ⟨hg.os.trans h.1, hg.tape.trans h.2.1, hg.output.trans h.2.2.1, Nat.le_trans h.2.2.2.1 hg.size, fun k hk hf => (hg.block k (Nat.lt_of_lt_of_le hk h.2.2.2.1) (fun e => by rcases hr k e.symm with h1 | h1; exact hf h1; omega)).trans (h.2.2.2.2 k hk hf)⟩
/-- The entry at which the range stands. -/
theorem at_entry {w : World} {F : Nat → Prop} {f b : Nat} {D : DU} {L : List En} {st : En → Option En} {left : Lit → Bool} {gb : Int → Nat} {most age : Int} (hs : Keeps st) (h : FbC w F f b D (part left st L) gb most age)
    {key v : Value} {kl : Lit} {y : DU × List MemPlace} (hkey : keyOf Try.prog 22 key = some kl) (hl : left kl = true) (hv : pE v = some y) (hat : ∀ zd, D.atKey kl zd = y.1) :
    ∃ e ∈ L, key = .int .u64 e.1 ∧ kl = ku e.1 ∧ v = .pointer (some ⟨gb e.1, 0, none⟩) ∧ e ∈ part left st L := by
  obtain ⟨x, rfl, rfl, _⟩ := Maps.keyOf_int_inv Try.underlying22 hkey
  have hh := Maps.has_true_of_atKey hat
  rw [h.has_] at hh
  have hm := of_decide_eq_true hh
  obtain ⟨e, he, rfl⟩ := List.mem_map.1 (fm_keys (part_keeps hs) hm)
  have ha := hat (.lit (.bool true))
  rw [h.at_, if_pos hm] at ha
  refine ⟨e, he, rfl, rfl, ?_, part_mem he hl⟩
  rcases pE_inv hv with ⟨rfl, rfl⟩ | ⟨g, rfl, rfl⟩
  · simp at ha
  · simp at ha; rw [show gb e.1 = g by omega]
def LoopP (M : Nat → Prop) (w : World) (F : Nat → Prop) (f b R n : Nat) (st : En → Option En) (L : List En) (gb : Int → Nat) (most age : Int) (left : Lit → Bool) (cnt : Nat) (wr : World) : Prop :=
  ∃ D, wr.ranges Try.prog 22 pE b R n D left cnt ∧ FbC wr F f b D (part left st L) gb most age ∧ Mut M w wr ∧ R < wr.heap.size
theorem LoopP.left_eq {M : Nat → Prop} {w : World} {F : Nat → Prop} {f b R n : Nat} {st : En → Option En} {L : List En} {gb : Int → Nat} {most age : Int} {left : Lit → Bool} {cnt : Nat} {wr : World} (h : LoopP M w F f b R n st L gb most age left cnt wr) : wr.rangeLeft b R = cnt := by
  obtain ⟨D, h, _⟩ := h; exact h.left_eq
def DoneP (M : Nat → Prop) (w : World) (F : Nat → Prop) (f b n : Nat) (L : List En) (gb : Int → Nat) (most age : Int) (w' : World) : Prop :=
  ∃ D, FbC w' F f b D L gb most age ∧ w'.ownsMap Try.prog 22 pE b n D ∧ Mut M w w'
/-- The loop begins. -/
theorem LoopP.start {M : Nat → Prop} {w w1 : World} {F : Nat → Prop} {f b n : Nat} {st : En → Option En} {D : DU} {L : List En} {gb : Int → Nat} {most age : Int} (h : FbC w F f b D L gb most age) (hr : w1.ranges Try.prog 22 pE b w.heap.size n D (Maps.has D) (Maps.size D)) (hg : w.grownBy w1 none) (hsz : w1.heap.size = w.heap.size + 1) :
    LoopP M w F f b w.heap.size n st L gb most age (Maps.has D) (Maps.size D) w1 := by
  refine ⟨D, hr, ?_, Mut.grown hg (by simp), by omega⟩
  rw [part_all (fun e he => by rw [h.has_]; exact decide_eq_true (List.mem_map.2 ⟨e, he, rfl⟩))]
  exact h.ext (fun k hk _ _ => hg.block k hk (by simp))
/-- The loop ends. -/
theorem LoopP.stop {M : Nat → Prop} {w wr : World} {F : Nat → Prop} {f b R n : Nat} {st : En → Option En} {L : List En} {gb : Int → Nat} {most age : Int} {left : Lit → Bool} {cnt : Nat} (h : LoopP M w F f b R n st L gb most age left cnt wr) (hl : ∀ kl, left kl = false) : DoneP M w F f b n (L.filterMap st) gb most age wr := by
  obtain ⟨D, h1, h2, h3, _⟩ := h
  rw [part_none hl] at h2
  exact ⟨D, h2, h1.owns, h3⟩

end Go.Proofs.Ytemmfbedchfekaa
