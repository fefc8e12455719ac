/- The machine of changes: what is flushed; the whole step. No statement is proved here. -/
import Derived.Test.YtpieamfpgfabgaaTopI
import Derived.ArgAppend
namespace Go.Proofs.Ytpieamfpgfabgaa
open Go.RowKit Go.BigFrame Go.WideShapes Go.ChangeShapes Go.Deep
set_option linter.unusedVariables false
set_option linter.unusedSimpArgs false

theorem top_clip (ao : Option Addr) (n cap : Nat) (hc : n ≤ cap) (hm : cap ≤ 9223372036854775807) (h0 : ao = none → n = 0 ∧ cap = 0) (w : World) : Calls Try.prog 25 #[.slice ao n cap] w fun e w' => e = .returned (.slice ao n n) ∧ w = w' := by
  cases ao with
  | none =>
    obtain ⟨rfl, rfl⟩ := h0 rfl
    go_enter Try.func25, Try.ntmps25
    go_wp2
    go_ret
    simp
  | some a =>
    clear h0
    go_enter Try.func25, Try.ntmps25
    go_wp2
    go_ret
    simp

/-- A place is added to what is to be flushed. -/
def Br.flush (B : Br) (k : Nat) : Br := { B with nf := B.nf + 1, fl := B.fl ++ [.int .i64 k] }
theorem flush_ok {B : Br} (ho : B.ok) {k : Nat} (hk : k < 1000) : (B.flush k).ok := by
  refine ⟨ho.hd, ho.ps, ho.os, ?_⟩
  obtain ⟨h1, h2⟩ := rowTyped_iff.1 ho.fl
  simp only [List.length_singleton, Nat.mul_one] at h1 h2
  refine rowTyped_iff.2 ⟨?_, ?_⟩
  · show (B.fl ++ [Value.int IntKind.i64 k]).length = (B.nf + 1) * 1
    simp [h1]
  · intro i hi j c hj
    have hj0 : j = 0 := by
      have := (List.getElem?_eq_some_iff.1 hj).1
      simpa using this
    subst hj0
    obtain rfl : some IntKind.i64 = c := by simpa using hj
    show ∃ v, (B.fl ++ [Value.int IntKind.i64 k])[i * 1 + 0]? = some v ∧ cellOk (some IntKind.i64) v
    have hi' : i < B.nf + 1 := hi
    by_cases e : i < B.nf
    · obtain ⟨v, hv, hc⟩ := h2 i e 0 (some IntKind.i64) rfl
      refine ⟨v, ?_, hc⟩
      rw [Nat.mul_one, Nat.add_zero, List.getElem?_append_left (by rw [h1]; exact e)]
      simpa using hv
    · have : i = B.nf := by omega
      subst this
      refine ⟨.int .i64 k, by simp [h1], _, rfl, ?_⟩
      simp [Lit.wf, IntKind.min, IntKind.max, IntKind.signed, IntKind.bits]
      omega
/-- The bridge's box with a longer row of places. -/
theorem BrG.flushed {w w2 : World} {F : Nat → Prop} {X g k : Nat} {B : Br} (h : BrG w F X g B) (hd : B.hd.length = 17) (hs : w.heap.size ≤ w2.heap.size) (hb : ∀ n, n < w.heap.size → w2.heap[n]? = w.heap[n]?) {v' : Value} (hr : w2.ownsRow w.heap.size 3 1 v' (B.nf + 1) (B.fl ++ [.int .i64 k])) :
    BrG (w2.setCell ⟨X, 19, none⟩ v') (fun n => F n ∨ (w.heap.size ≤ n ∧ n < w2.heap.size)) X g (B.flush k) := by
  obtain ⟨h1, h2, cap, cur, s2, s3, a, b, c, d, e, f, p, q, r, s⟩ := h
  have lX := heap_lt a
  have lg := heap_lt b
  have hXg : X ≠ g := by
    intro e0
    subst e0
    rw [a] at b
    cases b
  have aX := (hb X lX).trans a
  have bg := (hb g lg).trans b
  have own2 : (w2.setCell ⟨X, 19, none⟩ v').ownsRow 0 58 18 s2 B.no B.os := own_set (owns_keep p (fun q1 _ hq => hb q1 hq)) aX (by decide) v'
  have own3 : (w2.setCell ⟨X, 19, none⟩ v').ownsRow 0 3 1 v' (B.nf + 1) (B.fl ++ [.int .i64 k]) := by
    obtain ⟨z1, z2⟩ := own_set hr aX (by decide) v'
    refine ⟨z1, ?_⟩
    rcases z2 with z2 | ⟨g3, c3, cu3, e1, e2, e3⟩
    · exact .inl z2
    · exact .inr ⟨g3, c3, cu3, e1, Nat.zero_le _, e3⟩
  refine ⟨.inl h1, .inl h2, cap, cur, s2, v', ?_, (heap_setCell_other _ _ _ _ (Ne.symm hXg)).trans bg, c, d, e, f, own2, own3, (fun m hm => .inl (r m hm)), fun m hm => ?_⟩
  · rw [heap_setCell_same _ _ _ _ _ _ aX]
    congr 2
    apply Array.ext'
    simp [Br.flush, List.set_append, hd]
  · have := hr.lt m hm
    exact .inr this

set_option maxRecDepth 100000 in
set_option maxHeartbeats 2000000 in
theorem top_flush (w : World) (F : Nat → Prop) (X g k : Nat) (B : Br) (h : BrG w F X g B) (ho : B.ok) (hk : k < B.np) (hn : B.np < 1000) (hT : TR (B.hi 2) (B.hi 3) (B.hi 4) (B.hi 5)) (hF : ∀ n, F n → n < w.heap.size) (h25 : B.gb k 25 = true) (hnf : B.nf ≤ 100000) : Calls Try.prog 21 #[.pointer (some ⟨X, 0, none⟩), .int .i64 k] w fun e w' => e = .returned (.bool true) ∧ BrG w' (fun n => F n ∨ (w.heap.size ≤ n ∧ n < w'.heap.size)) X g ((B.flush k).setp k 25 (.bool false)) ∧ Mut F w w' := by
  obtain ⟨hX, hg, hne⟩ := h.lt
  obtain ⟨cap, c17, hc1, hc2⟩ := h.cell17 ho
  have p25 := (h.cellg (i := k * 89 + 25) (lt89 hk (by decide))).trans (ho.gb hk 25 rfl)
  rw [h25] at p25
  have H := Lib.hid h
  have hF1 := h.F1
  have hF2 := h.F2
  obtain ⟨-, -, cap3, cur, s2, s3, aX, bg, -, -, -, -, -, q3, -, -⟩ := h
  have c19 : w.cell? ⟨X, 19, none⟩ = some s3 := by
    rw [cell_of_row _ _ _ _ _ _ aX]
    simp [ho.hd.1, HL]
  have hfX : w.frozen? ⟨X, 19, none⟩ = false := frozen_of_row _ _ _ _ _ aX
  have hcells : ∃ ao cp, s3 = .slice ao B.nf cp ∧ B.nf ≤ cp ∧ cp ≤ 9223372036854775807 ∧ (ao = none → B.nf = 0 ∧ cp = 0) ∧ (∀ b, ao = some b → b.block < w.heap.size ∧ ∀ j u, B.fl[j]? = some u → w.cell? (b.add j) = some u) := by
    obtain ⟨hl, ⟨rfl, hz⟩ | ⟨g3, cp, cu, rfl, -, hg3, h1, h2, h3, h4⟩⟩ := q3
    · exact ⟨none, 0, by rw [hz], by omega, by omega, fun _ => ⟨hz, rfl⟩, fun b hb => by cases hb⟩
    · unfold maxLen at h2
      refine ⟨some ⟨g3, 0, none⟩, cp, rfl, h1, by omega, (fun hh => by cases hh), fun b hb => ?_⟩
      cases hb
      refine ⟨heap_lt hg3, fun j u hu => ?_⟩
      rw [Addr.add_lit, Nat.zero_add, cell_of_row _ _ _ _ _ _ hg3]
      rw [← h4, List.getElem?_take] at hu
      split at hu
      · simpa using hu
      · cases hu
  obtain ⟨ao, cp, rfl, hcp, hcm, h0, hcl⟩ := hcells
  obtain ⟨i3, hi3, hz3, hs3, hb3⟩ := info_of info_int
  have hlen : B.fl.length = B.nf * 1 := by
    have := ho.fl.1
    simpa using this
  have hk8 : k < 1000 := by omega
  have HCL := Lib.hid hcl
  have H0 := Lib.hid h0
  have HI := Lib.hid (And.intro hi3 (And.intro hz3 (And.intro hs3 hb3)))
  have HLEN := Lib.hid hlen
  have HHD := Lib.hid (show B.hd.length = 17 from ho.hd.1)
  have P25 := Lib.hid p25
  have HAX := Lib.hid aX
  clear aX bg q3 hcl h0 hi3 hz3 hs3 hb3 hlen hF hT
  go_enter Try.func21, Try.ntmps21
  go_wp2_with fail
  refine (top_clip ao B.nf cp hcp hcm H0.out _).mono ?_
  rintro e w' ⟨rfl, rfl⟩
  go_wp2_with (at_builtin; refine wpList_append_grows _ rfl _ _ 31 rfl 3 i3 (.int .i64 0) 1 8 Try.underlying31 HI.out.1 HI.out.2.1 HI.out.2.2.1 HI.out.2.2.2 rfl (by decide) ao B.nf B.nf B.fl rfl (fun hh => ⟨(H0.out hh).1, (H0.out hh).1⟩) HLEN.out ?olds ⟨w.heap.size, 0, none⟩ 1 1 [.int .i64 k] rfl rfl ?news (by simp; rfl) (by omega) (by unfold maxLen; omega) (by omega) ?fin)
  case olds =>
    intro b hb j u hu
    obtain ⟨l1, l2⟩ := HCL.out b hb
    have := l2 j u hu
    have hbk : (b.add j).block = b.block := by unfold Addr.add; split <;> rfl
    rw [(((Ext.refl w).alloc _).cell (p := b.add j) (by rw [hbk]; exact l1))]
    exact this
  case news =>
    intro j u hu
    exact World.news_of_block (heap_alloc_new w _) j u (by simpa using hu)
  case fin =>
    intro v' w2 hr hgb
    obtain ⟨av, cv, rfl⟩ := own_form hr
    have hsz : w.heap.size + 1 ≤ w2.heap.size := by
      have := hgb.size
      simpa using this
    have hbl : ∀ n, n < w.heap.size → w2.heap[n]? = w.heap[n]? := fun n hn' => (hgb.block n (by simp; omega) (by simp)).trans (heap_alloc_old _ _ hn')
    have hr0 : w2.ownsRow w.heap.size 3 1 (.slice av (B.nf + 1) cv) (B.nf + 1) (B.fl ++ [.int .i64 k]) := by
      obtain ⟨z1, z2⟩ := hr
      refine ⟨z1, ?_⟩
      rcases z2 with z2 | ⟨g3, c3, cu3, e1, e2, e3⟩
      · exact .inl z2
      · exact .inr ⟨g3, c3, cu3, e1, (by first | omega | (rw [World.size_alloc] at e2; omega)), e3⟩
    have HBf := Lib.hid (H.out.flushed HHD.out (by omega) hbl hr0)
    have hmut : Mut F w w2 := ⟨hgb.os, hgb.tape, hgb.output, by omega, fun n hn' _ => hbl n hn'⟩
    have HMU := Lib.hid (hmut.setCell (p := ⟨X, 19, none⟩) (.inl hF1) (.slice av (B.nf + 1) cv))
    have c19' : w2.cell? ⟨X, 19, none⟩ = some (.slice ao B.nf cp) := (World.cell?_of_block (hbl X hX)).trans c19
    have f19' : w2.frozen? ⟨X, 19, none⟩ = false := frozen_of_row _ _ _ _ _ ((hbl X hX).trans HAX.out)
    have q25 := (HBf.out.cellg (i := k * 89 + 25) (lt89 hk (by decide))).trans ((ho.gb hk 25 rfl))
    have qf := HBf.out.frozen
    clear hr hr0 hmut c17 c19 hfX
    go_wp2_with fail
    go_ret
    have hfin := HBf.out.setp (k := k) (j := 25) hk (by decide) (.bool false)
    exact ⟨rfl, hfin.mono (fun n hn => hn.imp id (fun h2 => ⟨h2.1, by simp only [World.size_setCell]; exact h2.2⟩)), HMU.out.setCell (.inl hF2) _⟩

end Go.Proofs.Ytpieamfpgfabgaa
