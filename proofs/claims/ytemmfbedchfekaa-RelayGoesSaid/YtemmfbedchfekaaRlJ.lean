/- Relay: both sides, side by side. No statement is proved here. -/
import Derived.Test.YtemmfbedchfekaaRlI
namespace Go.Proofs.Ytemmfbedchfekaa
open Go.RowKit Go.BigFrame Go.WideShapes Go.ChangeShapes Go.Deep
set_option linter.unusedVariables false
set_option linter.unusedSimpArgs false
set_option maxRecDepth 100000

def KQ (F : Nat → Prop) (wb Zx Zy : Nat) : Nat → Prop := fun k => F k ∨ k = wb ∨ k = Zx ∨ k = Zy
def GQ (F : Nat → Prop) (Zx Zy : Nat) : Nat → Prop := fun k => F k ∨ k = Zx ∨ k = Zy
/-- The two databases, and the two bridges. -/
structure RlF (w0 w : World) (F : Nat → Prop) (f wb Zx Zy : Nat) (L M : List En) (n : Int) (cx cy : Array Value) (Bx By : Br) : Prop where
  fb : Fb w F f L n 300
  dw : Dw w (GQ F Zx Zy) wb M n 300
  kx : BrK w (KQ F wb Zx Zy) cx Bx
  ky : BrK w (KQ F wb Zx Zy) cy By
  rx : w.heap[Zx]? = some (.cells cx 33 (0, 0))
  ry : w.heap[Zy]? = some (.cells cy 33 (0, 0))
  nx : ¬ F Zx
  ny : ¬ F Zy
  nw : ¬ F wb
  ne : Zx ≠ Zy ∧ Zx ≠ wb ∧ Zy ≠ wb
  lo : (∀ k, F k → w0.heap.size ≤ k) ∧ w0.heap.size ≤ wb ∧ w0.heap.size ≤ Zx ∧ w0.heap.size ≤ Zy
  ext : Ext w0 w
  sx : cx.size = 20
  sy : cy.size = 20
theorem RlF.lw {w0 w : World} {F : Nat → Prop} {f wb Zx Zy : Nat} {L M : List En} {n : Int} {cx cy : Array Value} {Bx By : Br} (h : RlF w0 w F f wb Zx Zy L M n cx cy Bx By) : wb < w.heap.size := by
  obtain ⟨_, _, h1, _⟩ := h.dw.reads
  exact h1
theorem RlF.kl {w0 w : World} {F : Nat → Prop} {f wb Zx Zy : Nat} {L M : List En} {n : Int} {cx cy : Array Value} {Bx By : Br} (h : RlF w0 w F f wb Zx Zy L M n cx cy Bx By) : ∀ k, KQ F wb Zx Zy k → k < w.heap.size := by
  intro k hk
  rcases hk with hk | rfl | rfl | rfl
  · exact h.fb.lt k hk
  · exact h.lw
  · exact heap_lt h.rx
  · exact heap_lt h.ry
theorem RlF.grow {w0 w w' : World} {F : Nat → Prop} {f wb Zx Zy : Nat} {L M : List En} {n : Int} {cx cy : Array Value} {Bx By : Br} (h : RlF w0 w F f wb Zx Zy L M n cx cy Bx By) (hx : Ext w w') : RlF w0 w' F f wb Zx Zy L M n cx cy Bx By where
  fb := h.fb.ext hx
  dw := h.dw.ext hx
  kx := h.kx.step hx.size (fun k hk _ => hx.block k hk) (fun _ _ h => h)
  ky := h.ky.step hx.size (fun k hk _ => hx.block k hk) (fun _ _ h => h)
  rx := (hx.block Zx (heap_lt h.rx)).trans h.rx
  ry := (hx.block Zy (heap_lt h.ry)).trans h.ry
  nx := h.nx
  ny := h.ny
  nw := h.nw
  ne := h.ne
  lo := h.lo
  ext := h.ext.trans hx
  sx := h.sx
  sy := h.sy
/-- The program's side goes on. -/
theorem RlF.pstep {w0 w w' : World} {F F1 : Nat → Prop} {f wb Zx Zy : Nat} {L M L1 : List En} {n : Int} {cx cy : Array Value} {Bx By : Br} (h : RlF w0 w F f wb Zx Zy L M n cx cy Bx By) (hb : Fb w' F1 f L1 n 300) (hF : ∀ k, F1 k → F k ∨ w.heap.size ≤ k) (hm : Mut F w w') : RlF w0 w' F1 f wb Zx Zy L1 M n cx cy Bx By where
  fb := hb
  dw := h.dw.keep (fun k hk hn => hm.heap hk (fun hc => hn (.inl hc))) hm.size (fun k hk h1 => by
    rcases h1 with h1 | h1
    · rcases hF k h1 with h2 | h2
      · exact .inl h2
      · omega
    · exact .inr h1)
  kx := h.kx.step hm.size (fun k hk hn => hm.heap hk (fun hc => hn (.inl hc))) (fun k hk h1 => by
    rcases h1 with h1 | h1
    · rcases hF k h1 with h2 | h2
      · exact .inl h2
      · omega
    · exact .inr h1)
  ky := h.ky.step hm.size (fun k hk hn => hm.heap hk (fun hc => hn (.inl hc))) (fun k hk h1 => by
    rcases h1 with h1 | h1
    · rcases hF k h1 with h2 | h2
      · exact .inl h2
      · omega
    · exact .inr h1)
  rx := (hm.heap (heap_lt h.rx) h.nx).trans h.rx
  ry := (hm.heap (heap_lt h.ry) h.ny).trans h.ry
  nx := fun hc => by
    rcases hF _ hc with h2 | h2
    · exact h.nx h2
    · have := heap_lt h.rx; omega
  ny := fun hc => by
    rcases hF _ hc with h2 | h2
    · exact h.ny h2
    · have := heap_lt h.ry; omega
  nw := fun hc => by
    rcases hF _ hc with h2 | h2
    · exact h.nw h2
    · have := h.lw; omega
  ne := h.ne
  lo := ⟨fun k hk => by
    rcases hF k hk with h2 | h2
    · exact h.lo.1 k h2
    · have := h.ext.size; omega, h.lo.2⟩
  ext := ext_mut h.ext hm (fun k hk hc => by have := h.lo.1 k hc; omega)
  sx := h.sx
  sy := h.sy
/-- The document's side goes on. -/
theorem RlF.qstep {w0 w w' : World} {F : Nat → Prop} {f wb Zx Zy : Nat} {L M M1 : List En} {n : Int} {cx cy : Array Value} {Bx By : Br} (h : RlF w0 w F f wb Zx Zy L M n cx cy Bx By) (hd : Dw w' (GQ F Zx Zy) wb M1 n 300) (hm : Mut (fun k => k = wb) w w') : RlF w0 w' F f wb Zx Zy L M1 n cx cy Bx By where
  fb := h.fb.apart hm (fun k hk hc => h.nw ((show k = wb from hc) ▸ hk))
  dw := hd
  kx := h.kx.step hm.size (fun k hk hn => hm.heap hk (fun hc => hn (.inr (.inl hc)))) (fun _ _ h => h)
  ky := h.ky.step hm.size (fun k hk hn => hm.heap hk (fun hc => hn (.inr (.inl hc)))) (fun _ _ h => h)
  rx := (hm.heap (heap_lt h.rx) h.ne.2.1).trans h.rx
  ry := (hm.heap (heap_lt h.ry) h.ne.2.2).trans h.ry
  nx := h.nx
  ny := h.ny
  nw := h.nw
  ne := h.ne
  lo := h.lo
  ext := ext_mut h.ext hm (fun k hk hc => by have h2 : k = wb := hc; have := h.lo.2.1; omega)
  sx := h.sx
  sy := h.sy
/-- The program's bridge turned. -/
theorem RlF.xstep {w0 w w' : World} {F : Nat → Prop} {f wb Zx Zy : Nat} {L M : List En} {n : Int} {cx cy c' : Array Value} {Bx By B' : Br} (h : RlF w0 w F f wb Zx Zy L M n cx cy Bx By) (hk : BrK w' (KQ F wb Zx Zy) c' B') (hm : Mut (fun k => k = Zx) w w') (hr : w'.heap[Zx]? = some (.cells c' 33 (0, 0))) (hs : c'.size = 20) : RlF w0 w' F f wb Zx Zy L M n c' cy B' By where
  fb := h.fb.apart hm (fun k hk hc => h.nx ((show k = Zx from hc) ▸ hk))
  dw := h.dw.keep (fun k hk hn => hm.heap hk (fun hc => hn (.inr (.inl hc)))) hm.size (fun _ _ h => h)
  kx := hk
  ky := h.ky.step hm.size (fun k hk hn => hm.heap hk (fun hc => hn (.inr (.inr (.inl hc))))) (fun _ _ h => h)
  rx := hr
  ry := (hm.heap (heap_lt h.ry) (fun hc => h.ne.1 (show Zy = Zx from hc).symm)).trans h.ry
  nx := h.nx
  ny := h.ny
  nw := h.nw
  ne := h.ne
  lo := h.lo
  ext := ext_mut h.ext hm (fun k hk hc => by have h2 : k = Zx := hc; have := h.lo.2.2.1; omega)
  sx := hs
  sy := h.sy
theorem RlF.ystep {w0 w w' : World} {F : Nat → Prop} {f wb Zx Zy : Nat} {L M : List En} {n : Int} {cx cy c' : Array Value} {Bx By B' : Br} (h : RlF w0 w F f wb Zx Zy L M n cx cy Bx By) (hk : BrK w' (KQ F wb Zx Zy) c' B') (hm : Mut (fun k => k = Zy) w w') (hr : w'.heap[Zy]? = some (.cells c' 33 (0, 0))) (hs : c'.size = 20) : RlF w0 w' F f wb Zx Zy L M n cx c' Bx B' where
  fb := h.fb.apart hm (fun k hk hc => h.ny ((show k = Zy from hc) ▸ hk))
  dw := h.dw.keep (fun k hk hn => hm.heap hk (fun hc => hn (.inr (.inr hc)))) hm.size (fun _ _ h => h)
  kx := h.kx.step hm.size (fun k hk hn => hm.heap hk (fun hc => hn (.inr (.inr (.inr hc))))) (fun _ _ h => h)
  ky := hk
  rx := (hm.heap (heap_lt h.rx) (fun hc => h.ne.1 (show Zx = Zy from hc))).trans h.rx
  ry := hr
  nx := h.nx
  ny := h.ny
  nw := h.nw
  ne := h.ne
  lo := h.lo
  ext := ext_mut h.ext hm (fun k hk hc => by have h2 : k = Zy := hc; have := h.lo.2.2.2; omega)
  sx := h.sx
  sy := hs
/-- A bridge with other places to forget. -/
def Br.setf (B : Br) (l : List Value) : Br := { B with nf := l.length, fl := l }
theorem setf_none {B : Br} (ho : B.ok) : (B.setf []).ok := ⟨ho.hd, ho.ps, ho.os, ⟨rfl, fun i hi => absurd hi (by simp [Br.setf])⟩⟩
theorem setf_self {B : Br} (ho : B.ok) : B.setf B.fl = B := by
  have h := ho.fl.1
  have e : ([some .i64] : List (Option IntKind)).length = 1 := rfl
  rw [e, Nat.mul_one] at h
  unfold Br.setf
  rw [h]
theorem setf_two (B : Br) (l m : List Value) : (B.setf l).setf m = B.setf m := rfl
theorem brc_setf {w : World} {c : Array Value} {B : Br} {v : Value} {l : List Value} (h : BrC w c B) (hh : B.hd.length = 17) (hr : IsRow w 1 v l.length l) : BrC w (c.setIfInBounds 19 v) (B.setf l) := by
  obtain ⟨s1, s2, s3, rfl, h1, h2, h3⟩ := h
  refine ⟨s1, s2, v, ?_, h1, h2, hr⟩
  apply Array.toList_inj.1
  simp only [Array.toList_setIfInBounds, Br.setf]
  rw [List.set_append_right _ _ (by omega), hh]
  rfl
theorem brk_setf {w w1 w2 : World} {K : Nat → Prop} {c : Array Value} {B : Br} {v : Value} {l : List Value} {X : Nat} (h : BrK w K c B) (hh : B.hd.length = 17) (hK : ∀ k, K k → k < w.heap.size) (hx : Ext w w1) (ho : w1.ownsRow w.heap.size 3 1 v l.length l) (hm : Mut (fun k => k = X) w1 w2) (hX : K X) : BrK w2 K (c.setIfInBounds 19 v) (B.setf l) := fun w' hs hk => by
  have h1 := h w' (Nat.le_trans hx.size (Nat.le_trans hm.size hs)) (fun k hk1 hn => by
    rw [hk k (Nat.lt_of_lt_of_le hk1 (Nat.le_trans hx.size hm.size)) hn, hm.heap (Nat.lt_of_lt_of_le hk1 hx.size) (fun hc => hn ((show k = X from hc) ▸ hX)), hx.block k hk1])
  refine brc_setf h1 hh (own_row (owns_keep ho fun g hg hl => ?_))
  have hgl : ¬ K g := fun hc => by have := hK g hc; have := owns_lt' ho g hg; omega
  rw [hk g (Nat.lt_of_lt_of_le hl hm.size) hgl, hm.heap hl (fun hc => hgl ((show g = X from hc) ▸ hX))]

end Go.Proofs.Ytemmfbedchfekaa
