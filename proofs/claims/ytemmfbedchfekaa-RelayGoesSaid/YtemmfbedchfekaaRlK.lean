/- Relay: contracts over both sides. No statement is proved here. -/
import Derived.Test.YtemmfbedchfekaaRlJ
namespace Go.Proofs.Ytemmfbedchfekaa
open Go.RowKit Go.BigFrame Go.WideShapes Go.ChangeShapes Go.Deep
set_option linter.unusedVariables false
set_option linter.unusedSimpArgs false
set_option maxRecDepth 100000

theorem brk_clr {w w' : World} {K K' : Nat → Prop} {c : Array Value} {B : Br} (h : BrK w K c B) (hh : B.hd.length = 17) (hm : Mut K' w w') (hK : ∀ k, K' k → K k) : BrK w' K (clr c) (B.setf []) := fun w'' hs hk => by
  have h1 := h w'' (Nat.le_trans hm.size hs) (fun k hk1 hn => by
    rw [hk k (Nat.lt_of_lt_of_le hk1 hm.size) hn, hm.heap hk1 (fun hc => hn (hK k hc))])
  exact brc_setf h1 hh ⟨rfl, .inl ⟨rfl, .inl rfl⟩⟩
theorem clr_size (c : Array Value) : (clr c).size = c.size := by unfold clr; simp
theorem BrK.less {w : World} {K F : Nat → Prop} {c : Array Value} {B : Br} (h : BrK w K c B) (hF : ∀ k, F k → K k) : BrK w F c B := h.step (Nat.le_refl _) (fun _ _ _ => rfl) (fun k _ hk => hF k hk)
theorem RlF.pf {w0 w : World} {F : Nat → Prop} {f wb Zx Zy : Nat} {L M : List En} {n : Int} {cx cy : Array Value} {Bx By : Br} {w' : World} {L1 : List En} {c' : Array Value} {B' : Br} (h : RlF w0 w F f wb Zx Zy L M n cx cy Bx By) (hb : Fb w' F f L1 n 300) (hm : Mut (fun k => F k ∨ k = Zx) w w') (hk : BrK w' (KQ F wb Zx Zy) c' B') (hr : w'.heap[Zx]? = some (.cells c' 33 (0, 0))) (hs : c'.size = 20) : RlF w0 w' F f wb Zx Zy L1 M n c' cy B' By where
  fb := hb
  dw := h.dw.keep (fun k hk hn => hm.heap hk (fun hc => hn (by rcases hc with hc | hc; exact .inl hc; exact .inr (.inl hc)))) hm.size (fun _ _ h => h)
  kx := hk
  ky := h.ky.step hm.size (fun k hk hn => hm.heap hk (fun hc => hn (by rcases hc with hc | hc; exact .inl hc; exact .inr (.inr (.inl hc))))) (fun _ _ h => h)
  rx := hr
  ry := (hm.heap (heap_lt h.ry) (fun hc => by rcases hc with hc | hc; exact h.ny hc; exact h.ne.1 hc.symm)).trans h.ry
  nx := h.nx
  ny := h.ny
  nw := h.nw
  ne := h.ne
  lo := h.lo
  ext := ext_mut h.ext hm (fun k hk hc => by
    rcases hc with hc | hc
    · have := h.lo.1 k hc; omega
    · have := h.lo.2.2.1; omega)
  sx := hs
  sy := h.sy
theorem RlF.qf {w0 w : World} {F : Nat → Prop} {f wb Zx Zy : Nat} {L M : List En} {n : Int} {cx cy : Array Value} {Bx By : Br} {w' : World} {M1 : List En} {c' : Array Value} {B' : Br} (h : RlF w0 w F f wb Zx Zy L M n cx cy Bx By) (hd : Dw w' (GQ F Zx Zy) wb M1 n 300) (hm : Mut (fun k => k = wb ∨ k = Zy) w w') (hk : BrK w' (KQ F wb Zx Zy) c' B') (hr : w'.heap[Zy]? = some (.cells c' 33 (0, 0))) (hs : c'.size = 20) : RlF w0 w' F f wb Zx Zy L M1 n cx c' Bx B' where
  fb := h.fb.apart hm (fun k hk2 hc => by rcases hc with hc | hc; exact h.nw (hc ▸ hk2); exact h.ny (hc ▸ hk2))
  dw := hd
  kx := h.kx.step hm.size (fun k hk hn => hm.heap hk (fun hc => hn (by rcases hc with hc | hc; exact .inr (.inl hc); exact .inr (.inr (.inr hc))))) (fun _ _ h => h)
  ky := hk
  rx := (hm.heap (heap_lt h.rx) (fun hc => by rcases hc with hc | hc; exact h.ne.2.1 hc; exact h.ne.1 hc)).trans h.rx
  ry := hr
  nx := h.nx
  ny := h.ny
  nw := h.nw
  ne := h.ne
  lo := h.lo
  ext := ext_mut h.ext hm (fun k hk hc => by
    rcases hc with hc | hc
    · have := h.lo.2.1; omega
    · have := h.lo.2.2.2; omega)
  sx := h.sx
  sy := hs
/-- .. with the frame's box beside. -/
def RY (w0 w : World) (f wb Zx Zy Y : Nat) (yr : Obj) (L M : List En) (n : Int) (cx cy : Array Value) (Bx By : Br) : Prop := ∃ F, RlF w0 w F f wb Zx Zy L M n cx cy Bx By ∧ w.heap[Y]? = some yr ∧ ¬ F Y ∧ Y ≠ wb ∧ Y ≠ Zx ∧ Y ≠ Zy
def R0 (w0 w : World) (f wb Zx Zy : Nat) (L M : List En) (n : Int) (cx cy : Array Value) (Bx By : Br) : Prop := ∃ F, RlF w0 w F f wb Zx Zy L M n cx cy Bx By
theorem RY.r0 {w0 w : World} {f wb Zx Zy Y : Nat} {yr : Obj} {L M : List En} {n : Int} {cx cy : Array Value} {Bx By : Br} (h : RY w0 w f wb Zx Zy Y yr L M n cx cy Bx By) : R0 w0 w f wb Zx Zy L M n cx cy Bx By := by
  obtain ⟨F, hr, _⟩ := h
  exact ⟨F, hr⟩
theorem RY.row {w0 w : World} {f wb Zx Zy Y : Nat} {yr : Obj} {L M : List En} {n : Int} {cx cy : Array Value} {Bx By : Br} (h : RY w0 w f wb Zx Zy Y yr L M n cx cy Bx By) : w.heap[Zx]? = some (.cells cx 33 (0, 0)) ∧ w.heap[Zy]? = some (.cells cy 33 (0, 0)) ∧ w.heap[Y]? = some yr := by
  obtain ⟨F, hr, hy, _⟩ := h
  exact ⟨hr.rx, hr.ry, hy⟩
theorem RY.ext {w0 w : World} {f wb Zx Zy Y : Nat} {yr : Obj} {L M : List En} {n : Int} {cx cy : Array Value} {Bx By : Br} (h : RY w0 w f wb Zx Zy Y yr L M n cx cy Bx By) : Ext w0 w := by
  obtain ⟨F, hr, _⟩ := h
  exact hr.ext
theorem R0.ext {w0 w : World} {f wb Zx Zy : Nat} {L M : List En} {n : Int} {cx cy : Array Value} {Bx By : Br} (h : R0 w0 w f wb Zx Zy L M n cx cy Bx By) : Ext w0 w := by
  obtain ⟨F, hr⟩ := h
  exact hr.ext
theorem RY.size {w0 w : World} {f wb Zx Zy Y : Nat} {yr : Obj} {L M : List En} {n : Int} {cx cy : Array Value} {Bx By : Br} (h : RY w0 w f wb Zx Zy Y yr L M n cx cy Bx By) : cx.size = 20 ∧ cy.size = 20 := by
  obtain ⟨F, hr, _⟩ := h
  exact ⟨hr.sx, hr.sy⟩
theorem RY.grow {w0 w : World} {f wb Zx Zy Y : Nat} {yr : Obj} {L M : List En} {n : Int} {cx cy : Array Value} {Bx By : Br} (h : RY w0 w f wb Zx Zy Y yr L M n cx cy Bx By) {w' : World} (hx : Ext w w') : RY w0 w' f wb Zx Zy Y yr L M n cx cy Bx By := by
  obtain ⟨F, hr, hy, h1⟩ := h
  exact ⟨F, hr.grow hx, (hx.block Y (heap_lt hy)).trans hy, h1⟩
theorem R0.grow {w0 w w' : World} {f wb Zx Zy : Nat} {L M : List En} {n : Int} {cx cy : Array Value} {Bx By : Br} (h : R0 w0 w f wb Zx Zy L M n cx cy Bx By) (hx : Ext w w') : R0 w0 w' f wb Zx Zy L M n cx cy Bx By := by
  obtain ⟨F, hr⟩ := h
  exact ⟨F, hr.grow hx⟩
theorem R0.box {w0 w w' : World} {f wb Zx Zy : Nat} {L M : List En} {n : Int} {cx cy : Array Value} {Bx By : Br} (h : R0 w0 w f wb Zx Zy L M n cx cy Bx By) (hx : Ext w w') {Y : Nat} {yr : Obj} (hy : w'.heap[Y]? = some yr) (hY : w.heap.size ≤ Y) : RY w0 w' f wb Zx Zy Y yr L M n cx cy Bx By := by
  obtain ⟨F, hr⟩ := h
  have h1 := hr.lw
  have h2 := heap_lt hr.rx
  have h3 := heap_lt hr.ry
  exact ⟨F, hr.grow hx, hy, fun hc => (by have := hr.fb.lt Y hc; omega), by omega, by omega, by omega⟩
theorem y_setx {w0 w : World} {f wb Zx Zy Y : Nat} {yr : Obj} {L M : List En} {n : Int} {cx cy : Array Value} {Bx By : Br} (h : RY w0 w f wb Zx Zy Y yr L M n cx cy Bx By) (hh : Bx.hd.length = 17) {w1 w2 : World} {v : Value} {l : List Value} (hx : Ext w w1) (ho : w1.ownsRow w.heap.size 3 1 v l.length l) (hm : Mut (fun k => k = Zx) w1 w2) (hr : w2.heap[Zx]? = some (.cells (cx.setIfInBounds 19 v) 33 (0, 0))) : RY w0 w2 f wb Zx Zy Y yr L M n (cx.setIfInBounds 19 v) cy (Bx.setf l) By := by
  obtain ⟨F, h0, hy, h1, h2, h3, h4⟩ := h
  have hk := brk_setf h0.kx hh h0.kl hx ho hm (.inr (.inr (.inl rfl)))
  exact ⟨F, (h0.grow hx).xstep hk hm hr (by rw [Array.size_setIfInBounds]; exact h0.sx), (hm.heap (Nat.lt_of_lt_of_le (heap_lt hy) hx.size) h3).trans ((hx.block Y (heap_lt hy)).trans hy), h1, h2, h3, h4⟩
theorem y_sety {w0 w : World} {f wb Zx Zy Y : Nat} {yr : Obj} {L M : List En} {n : Int} {cx cy : Array Value} {Bx By : Br} (h : RY w0 w f wb Zx Zy Y yr L M n cx cy Bx By) (hh : By.hd.length = 17) {w1 w2 : World} {v : Value} {l : List Value} (hx : Ext w w1) (ho : w1.ownsRow w.heap.size 3 1 v l.length l) (hm : Mut (fun k => k = Zy) w1 w2) (hr : w2.heap[Zy]? = some (.cells (cy.setIfInBounds 19 v) 33 (0, 0))) : RY w0 w2 f wb Zx Zy Y yr L M n cx (cy.setIfInBounds 19 v) Bx (By.setf l) := by
  obtain ⟨F, h0, hy, h1, h2, h3, h4⟩ := h
  have hk := brk_setf h0.ky hh h0.kl hx ho hm (.inr (.inr (.inr rfl)))
  exact ⟨F, (h0.grow hx).ystep hk hm hr (by rw [Array.size_setIfInBounds]; exact h0.sy), (hm.heap (Nat.lt_of_lt_of_le (heap_lt hy) hx.size) h4).trans ((hx.block Y (heap_lt hy)).trans hy), h1, h2, h3, h4⟩
theorem y_flush {w0 w : World} {f wb Zx Zy Y : Nat} {yr : Obj} {L M : List En} {n : Int} {cx cy : Array Value} {Bx By : Br} (h : RY w0 w f wb Zx Zy Y yr L M n cx cy Bx By) (hL : Ok 300 L) (hln : L.length ≤ 4096) (ho : Bx.ok) (hnf : Bx.nf ≤ 1000) (zs : List Int) (hzs : Bx.fl = iv zs) : Calls Try.prog 12 #[.pointer (some ⟨Zx, 0, none⟩), .pointer (some ⟨f, 0, none⟩)] w fun e w' => e = .returned (.tuple #[]) ∧ RY w0 w' f wb Zx Zy Y yr (flushL Bx zs L) M n (clr cx) cy (Bx.setf []) By := by
  obtain ⟨F, h0, hy, h1, h2, h3, h4⟩ := h
  refine (p_flushall w F f L n 300 h0.fb hL (by decide) hln Zx cx Bx h0.rx h0.nx (h0.kx.less fun k hk => .inl hk) ho hnf h0.sx zs hzs).mono ?_
  rintro e w' ⟨rfl, hb, hm, hr⟩
  exact ⟨rfl, F, h0.pf hb hm (brk_clr h0.kx ho.hd.1 hm (fun k hk => by rcases hk with hk | hk; exact .inl hk; exact .inr (.inr (.inl hk)))) hr (by rw [clr_size]; exact h0.sx), (hm.heap (heap_lt hy) (fun hc => by rcases hc with hc | hc; exact h1 hc; exact h3 hc)).trans hy, h1, h2, h3, h4⟩
theorem y_qflush {w0 w : World} {f wb Zx Zy Y : Nat} {yr : Obj} {L M : List En} {n : Int} {cx cy : Array Value} {Bx By : Br} (h : RY w0 w f wb Zx Zy Y yr L M n cx cy Bx By) (hM : Ok 300 M) (ho : By.ok) (hnf : By.nf ≤ 1000) (hsec : 0 ≤ secB By ∧ secB By < 1000) (zs : List Int) (hzs : By.fl = iv zs) : Calls Try.prog 13 #[.pointer (some ⟨Zy, 0, none⟩), .pointer (some ⟨wb, 0, none⟩)] w fun e w' => e = .returned (.tuple #[]) ∧ RY w0 w' f wb Zx Zy Y yr L (flushL By zs M) n cx (clr cy) Bx (By.setf []) := by
  obtain ⟨F, h0, hy, h1, h2, h3, h4⟩ := h
  refine (q_flushall w (GQ F Zx Zy) wb M n 300 h0.dw (fun k hk => h0.kl k (by rcases hk with hk | hk; exact .inl hk; exact .inr (.inr hk))) hM Zy cy By h0.ry h0.ne.2.2 (.inr (.inr rfl)) (h0.ky.less fun k hk => .inr (.inl hk)) ho hnf h0.sy hsec zs hzs).mono ?_
  rintro e w' ⟨rfl, hb, hm, hr⟩
  exact ⟨rfl, F, h0.qf hb hm (brk_clr h0.ky ho.hd.1 hm (fun k hk => by rcases hk with hk | hk; exact .inr (.inl hk); exact .inr (.inr (.inr hk)))) hr (by rw [clr_size]; exact h0.sy), (hm.heap (heap_lt hy) (fun hc => by rcases hc with hc | hc; exact h2 hc; exact h4 hc)).trans hy, h1, h2, h3, h4⟩
theorem y_res {w0 w : World} {f wb Zx Zy Y : Nat} {yr : Obj} {L M : List En} {n : Int} {cx cy : Array Value} {Bx By : Br} (h : RY w0 w f wb Zx Zy Y yr L M n cx cy Bx By) (x : Int) (hx : 0 ≤ x ∧ x < 18446744073709551616) (rb : Bool) (hr : resB x = rb) : Calls Try.prog 14 #[.int .u64 x] w fun e w' => e = .returned (.bool rb) ∧ RY w0 w' f wb Zx Zy Y yr L M n cx cy Bx By ∧ w'.heap[Zx]? = some (.cells cx 33 (0, 0)) ∧ w'.heap[Zy]? = some (.cells cy 33 (0, 0)) ∧ w'.heap[Y]? = some yr := by
  subst hr
  refine (res_any x w hx).mono ?_
  rintro e _ ⟨rfl, rfl⟩
  exact ⟨rfl, h, h.row⟩
theorem y_rres {w0 w : World} {f wb Zx Zy Y : Nat} {yr : Obj} {L M : List En} {n : Int} {cx cy : Array Value} {Bx By : Br} (h : RY w0 w f wb Zx Zy Y yr L M n cx cy Bx By) (x : Int) (hx : 0 ≤ x ∧ x < 18446744073709551616) (rb : Bool) (hr : resB x = rb) : Calls Try.prog 15 #[.int .u64 x] w fun e w' => e = .returned (.bool rb) ∧ RY w0 w' f wb Zx Zy Y yr L M n cx cy Bx By ∧ w'.heap[Zx]? = some (.cells cx 33 (0, 0)) ∧ w'.heap[Zy]? = some (.cells cy 33 (0, 0)) ∧ w'.heap[Y]? = some yr := by
  subst hr
  refine (ref_res x w hx).mono ?_
  rintro e _ ⟨rfl, rfl⟩
  exact ⟨rfl, h, h.row⟩
def OwnI (w : World) (wb : Nat) (v : Value) (xs : List Int) : Prop := ∃ base, wb < base ∧ w.ownsRow base 3 1 v xs.length (iv xs)
theorem y_out {w0 w : World} {f wb Zx Zy Y : Nat} {yr : Obj} {L M : List En} {n : Int} {cx cy : Array Value} {Bx By : Br} (h : RY w0 w f wb Zx Zy Y yr L M n cx cy Bx By) (hL : Ok 300 L) (hn : 1 ≤ n ∧ n ≤ 8 ∧ (L.length : Int) ≤ n) (ho : Bx.ok) (hnp : 0 < Bx.np ∧ Bx.np ≤ 1000) (inn src dst : Int) (hin : -9223372036854775808 ≤ inn ∧ inn < 9223372036854775808) (hsrc : 0 ≤ src ∧ src < 18446744073709551616) (hdst : 0 ≤ dst ∧ dst < 18446744073709551616) :
    Calls Try.prog 17 #[.agg cx, .pointer (some ⟨f, 0, none⟩), .int .i64 inn, .int .u64 src, .int .u64 dst] w fun e w' => ∃ v L' xs, e = .returned v ∧ GoesP Bx n 300 L inn src dst L' xs ∧ OwnI w' wb v xs ∧ RY w0 w' f wb Zx Zy Y yr L' M n cx cy Bx By ∧ w'.heap[Zx]? = some (.cells cx 33 (0, 0)) ∧ w'.heap[Zy]? = some (.cells cy 33 (0, 0)) ∧ w'.heap[Y]? = some yr := by
  obtain ⟨F, h0, hy, h1, h2, h3, h4⟩ := h
  refine (out_any w F f L n 300 h0.fb hL (by decide) ⟨hn.1, by omega, hn.2.2⟩ cx Bx (h0.kx.less fun k hk => .inl hk) ho hnp inn src dst hin hsrc hdst).mono ?_
  rintro e w' ⟨L', xs, hg, v, F1, base, rfl, hown, hbs, -, hb, hFs, hm⟩
  have hR : RY w0 w' f wb Zx Zy Y yr L' M n cx cy Bx By := ⟨F1, h0.pstep hb hFs hm, (hm.heap (heap_lt hy) h1).trans hy, fun hc => by
    rcases hFs Y hc with h5 | h5
    · exact h1 h5
    · have := heap_lt hy; omega, h2, h3, h4⟩
  exact ⟨v, L', xs, rfl, hg, ⟨base, by have := h0.lw; omega, hown⟩, hR, hR.row⟩
theorem y_qout {w0 w : World} {f wb Zx Zy Y : Nat} {yr : Obj} {L M : List En} {n : Int} {cx cy : Array Value} {Bx By : Br} (h : RY w0 w f wb Zx Zy Y yr L M n cx cy Bx By) (hM : Ok 300 M) (hn : 1 ≤ n ∧ n ≤ 8 ∧ (M.length : Int) ≤ n) (ho : By.ok) (hnp : 0 < By.np ∧ By.np ≤ 1000) (inn src dst : Int) (hin : -9223372036854775808 ≤ inn ∧ inn < 9223372036854775808) (hsrc : 0 ≤ src ∧ src < 18446744073709551616) (hdst : 0 ≤ dst ∧ dst < 18446744073709551616) (v0 : Value) (xs0 : List Int) (h00 : OwnI w wb v0 xs0) :
    Calls Try.prog 18 #[.agg cy, .pointer (some ⟨wb, 0, none⟩), .int .i64 inn, .int .u64 src, .int .u64 dst] w fun e w' => ∃ v M' ys, e = .returned v ∧ GoesP By n 300 M inn src dst M' ys ∧ IntsA w' v0 xs0 ∧ IntsA w' v ys ∧ RY w0 w' f wb Zx Zy Y yr L M' n cx cy Bx By ∧ w'.heap[Zx]? = some (.cells cx 33 (0, 0)) ∧ w'.heap[Zy]? = some (.cells cy 33 (0, 0)) ∧ w'.heap[Y]? = some yr := by
  obtain ⟨F, h0, hy, h1, h2, h3, h4⟩ := h
  obtain ⟨base, hb0, hown0⟩ := h00
  refine (q_out_any w (GQ F Zx Zy) wb M n 300 h0.dw (fun k hk => h0.kl k (by rcases hk with hk | hk; exact .inl hk; exact .inr (.inr hk))) hM ⟨hn.1, hn.2.2, by omega⟩ cy By (h0.ky.less fun k hk => .inr (.inl hk)) ho hnp inn src dst hin hsrc hdst).mono ?_
  rintro e w' ⟨M', ys, hg, v, rfl, hown, hd, hm⟩
  have hR : RY w0 w' f wb Zx Zy Y yr L M' n cx cy Bx By := ⟨F, h0.qstep hd hm, (hm.heap (heap_lt hy) h2).trans hy, h1, h2, h3, h4⟩
  exact ⟨v, M', ys, rfl, hg, ints_own (own_mut hown0 hm (fun k hk => by have h9 : k = wb := hk; omega)), ints_own hown, hR, hR.row⟩
theorem y_ints {w0 w : World} {f wb Zx Zy Y : Nat} {yr : Obj} {L M : List En} {n : Int} {cx cy : Array Value} {Bx By : Br} (h : RY w0 w f wb Zx Zy Y yr L M n cx cy Bx By) (v u : Value) (xs : List Int) (hv : IntsA w v xs) (hu : IntsA w u xs) (hl : xs.length ≤ 10000) : Calls Try.prog 16 #[v, u] w fun e w' => e = .returned (.bool true) ∧ RY w0 w' f wb Zx Zy Y yr L M n cx cy Bx By ∧ w'.heap[Zx]? = some (.cells cx 33 (0, 0)) ∧ w'.heap[Zy]? = some (.cells cy 33 (0, 0)) ∧ w'.heap[Y]? = some yr := by
  refine (ints_any w v u xs hv hu hl).mono ?_
  rintro e w' ⟨rfl, hx⟩
  exact ⟨rfl, h.grow hx, (h.grow hx).row⟩
theorem y_all {w0 w : World} {f wb Zx Zy Y : Nat} {yr : Obj} {L M : List En} {n : Int} {cx cy : Array Value} {Bx By : Br} (h : RY w0 w f wb Zx Zy Y yr L M n cx cy Bx By) (hL : Ok 300 L) (hl : L.length ≤ 12) : Calls Try.prog 19 #[.pointer (some ⟨f, 0, none⟩)] w fun e w' => ∃ v, e = .returned v ∧ EntsAt w' v L ∧ RY w0 w' f wb Zx Zy Y yr L M n cx cy Bx By := by
  obtain ⟨F, h0, hr⟩ := id h
  refine (all_any w F f L n 300 h0.fb hL hl).mono ?_
  rintro e w' ⟨v, rfl, hx, hown⟩
  exact ⟨v, rfl, ents_own hown, h.grow hx⟩
theorem RY.ents {w0 w : World} {f wb Zx Zy Y : Nat} {yr : Obj} {L M : List En} {n : Int} {cx cy : Array Value} {Bx By : Br} (h : RY w0 w f wb Zx Zy Y yr L M n cx cy Bx By) : ∃ v, EntsAt w v M ∧ wb < w.heap.size ∧ ∀ w', Ext w w' → w'.cell? ⟨wb, 2, none⟩ = some v := by
  obtain ⟨F, h0, hr⟩ := h
  exact h0.dw.ents
theorem RY.brs {w0 w : World} {f wb Zx Zy Y : Nat} {yr : Obj} {L M : List En} {n : Int} {cx cy : Array Value} {Bx By : Br} (h : RY w0 w f wb Zx Zy Y yr L M n cx cy Bx By) : BrC w cx Bx ∧ BrC w cy By := by
  obtain ⟨F, h0, hr⟩ := h
  exact ⟨h0.kx.br, h0.ky.br⟩

end Go.Proofs.Ytemmfbedchfekaa
