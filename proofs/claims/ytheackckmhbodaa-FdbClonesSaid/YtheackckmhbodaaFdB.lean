/- The database: what is done to it, over its map. No statement is proved here. -/
import Derived.Test.YtheackckmhbodaaFdA
namespace Go.Proofs.Ytheackckmhbodaa
open Go.RowKit Go.BigFrame Go.WideShapes Go.ChangeShapes Go.Deep
set_option linter.unusedVariables false
set_option linter.unusedSimpArgs false

theorem rises_uni {L : List En} (h : L.Pairwise (fun a b => a.1 < b.1)) {e e' : En} (he : e ∈ L) (he' : e' ∈ L) (hk : e.1 = e'.1) : e = e' := by
  induction L with
  | nil => cases he
  | cons a r ih =>
    obtain ⟨h1, h2⟩ := List.pairwise_cons.1 h
    rcases List.mem_cons.1 he with q1 | q1
    · rcases List.mem_cons.1 he' with q2 | q2
      · exact q1.trans q2.symm
      · have := h1 _ q2; rw [q1] at hk; omega
    · rcases List.mem_cons.1 he' with q2 | q2
      · have := h1 _ q1; rw [q2] at hk; omega
      · exact ih h2 q1 q2
theorem row_lt {w : World} {k : Nat} {ob : Obj} (h : w.heap[k]? = some ob) : k < w.heap.size := (Array.getElem?_eq_some_iff.1 h).1
theorem cell_row {w : World} {g : Nat} {cs : Array Value} {e : TypeId} {fr : Nat × Nat} (h : w.heap[g]? = some (.cells cs e fr)) (i : Nat) : w.cell? ⟨g, i, none⟩ = cs[i]? := by simp [World.cell?, h]
theorem froz_row {w : World} {g : Nat} {cs : Array Value} {e : TypeId} (h : w.heap[g]? = some (.cells cs e (0, 0))) (i : Nat) : w.frozen? ⟨g, i, none⟩ = false := by simp [World.frozen?, h]
theorem set_other (w : World) (p : Addr) (v : Value) {k : Nat} (h : k ≠ p.block) : (w.setCell p v).heap[k]? = w.heap[k]? := Below.heap_setCell _ _ _ _ (fun e => h e)
theorem set_two {w : World} {g : Nat} {a c : Value} {e : TypeId} {fr : Nat × Nat} (h : w.heap[g]? = some (.cells #[a, c] e fr)) (v : Value) : (w.setCell ⟨g, 1, none⟩ v).heap[g]? = some (.cells #[a, v] e fr) := by
  have hg : g < w.heap.size := row_lt h
  have h' : w.heap[g] = .cells #[a, c] e fr := (Array.getElem?_eq_some_iff.1 h).2
  simp [World.setCell, Array.getElem_modify, h', hg]
theorem grown_set (w : World) (g i : Nat) (v : Value) : w.grownBy (w.setCell ⟨g, i, none⟩ v) (some g) :=
  ⟨rfl, rfl, rfl, by simp, fun k _ hk => set_other w _ v (fun e => hk (by rw [e]))⟩
theorem Mut.grown {F : Nat → Prop} {a b : World} {row : Option Nat} (h : a.grownBy b row) (hr : ∀ j, row = some j → F j ∨ a.heap.size ≤ j) : Mut F a b :=
  ⟨h.os, h.tape, h.output, h.size, fun k hk hf => h.block k hk (fun e => by rcases hr k e.symm with h1 | h1; exact hf h1; omega)⟩

/-- A map under way keeps out of cells. -/
theorem ranges_ne {P : Program} {k : TypeId} {w : World} {b r n : Nat} {D : DU} {left : Lit → Bool} {cnt g : Nat} {cs : Array Value} {e : TypeId} {fr : Nat × Nat} (h : w.ranges P k pE b r n D left cnt) (hg : w.heap[g]? = some (.cells cs e fr)) : g ≠ b ∧ g ≠ r := by
  obtain ⟨es, clock, since, seen, c0, hb, _, _, _, hr, _⟩ := h
  refine ⟨?_, ?_⟩
  · rintro rfl
    rw [hb] at hg; cases hg
  · rintro rfl
    rw [hr] at hg; cases hg
theorem strike_none {left : Lit → Bool} {kl : Lit} (h : left kl = false) : (fun z : Lit => left z && !z.sameKey kl) = left := by
  funext z
  by_cases hz : z.sameKey kl = true
  · have := WideAt.sameKey_eq hz
    subst this
    simp [h]
  · simp [hz]

def ShP (w : World) (F : Nat → Prop) (f b r n : Nat) (left : Lit → Bool) (cnt : Nat) (L : List En) (gb : Int → Nat) (most age : Int) (w' : World) : Prop :=
  ∃ D' cnt', FbC w' F f b D' L gb most age ∧ w'.ranges Try.prog 30 pE b r n D' left cnt' ∧ cnt' ≤ cnt ∧ Mut F w w'
set_option maxRecDepth 100000 in
set_option maxHeartbeats 4000000 in
theorem shorten_any (w : World) (F : Nat → Prop) (f b r n : Nat) (D : DU) (left : Lit → Bool) (cnt : Nat) (L : List En) (gb : Int → Nat) (most age : Int) (h : FbC w F f b D L gb most age) (hr : w.ranges Try.prog 30 pE b r n D left cnt)
    (e0 : En) (he : e0 ∈ L) (hu : ∀ e ∈ L, e.1 = e0.1 → e = e0) (hx : (Lit.int .u64 e0.1).wf = true) (hl : left (ku e0.1) = false) (sec : Int) :
    Calls Try.prog 31 #[.pointer (some ⟨f, 0, none⟩), .int .u64 e0.1, .pointer (some ⟨gb e0.1, 0, none⟩), .int .i64 sec] w fun e w' => e = .returned (.tuple #[]) ∧ ShP w F f b r n left cnt (upd e0.1 sec L) gb most age w' := by
  obtain ⟨x, p, s⟩ := e0
  have hg := h.cells _ he
  obtain ⟨hFg, hgf, hgb⟩ := h.own _ he
  dsimp only at hg hFg hgf hgb hx hl ⊢
  have hkey : keyOf Try.prog 30 (.int .u64 x) = some (ku x) := Maps.keyOf_int_mk Try.underlying30 hx
  obtain ⟨hgb', hgr⟩ := ranges_ne hr hg
  have hr1 : (w.setCell ⟨gb x, 1, none⟩ (.int .i64 sec)).ranges Try.prog 30 pE b r n D left cnt := hr.kept (grown_set w _ 1 _) (by simpa using fun e => hgb' e.symm) (by simpa using fun e => hgr e.symm)
  have h1 : Mut F w (w.setCell ⟨gb x, 1, none⟩ (.int .i64 sec)) := (Mut.refl F w).setCell (p := ⟨gb x, 1, none⟩) (.inl hFg) _
  have hg1 := set_two hg (.int .i64 sec)
  have cf : (w.setCell ⟨gb x, 1, none⟩ (.int .i64 sec)).cell? ⟨f, 0, none⟩ = some (.map (some b)) := by
    rw [cell_row ((set_other w ⟨gb x, 1, none⟩ _ (fun e => hgf e.symm)).trans h.hf)]; rfl
  have c1 : w.cell? ⟨gb x, 1, none⟩ = some (.int .i64 s) := by rw [cell_row hg]; rfl
  have hfr := froz_row hg 1
  have HB := Lib.hid h.fF.2
  have HS := Lib.hid (show ∀ (D' : DU) (w' : World), (if sec ≤ 0 then D' = D.del (ku x) else D' = D) → w'.heap[gb x]? = some (.cells #[.int .i64 p, .int .i64 sec] 60 (0, 0)) → (∀ k, k < w.heap.size → k ≠ gb x → k ≠ b → w'.heap[k]? = w.heap[k]?) → FbC w' F f b D' (upd x sec L) gb most age from
    fun D' w' hD hg ho => FbC.set_sec h he hu hD (fun _ => hg) ho)
  have HG := Lib.hid (show gb x ≠ b from hgb)
  have HO := Lib.hid (show ∀ k, k ≠ gb x → (w.setCell ⟨gb x, 1, none⟩ (.int .i64 sec)).heap[k]? = w.heap[k]? from fun k hk => set_other w _ _ hk)
  have HG1 := Lib.hid hg1
  have H1 := Lib.hid h1
  have HR1 := Lib.hid hr1
  have HL := Lib.hid (strike_none hl)
  have HK := Lib.hid hkey
  clear hg1 h1 h hu he hgb hgb' hgr hgf hFg hr hr1 hl hx hg
  obtain ⟨G, hG⟩ : ∃ G, gb x = G := ⟨_, rfl⟩
  rw [hG] at hfr c1 cf HG HO HG1 H1 HR1 HS ⊢
  clear hG
  go_enter Try.func31, Try.ntmps31
  by_cases hs : sec ≤ 0
  · have hd : decide (sec ≤ 0) = true := decide_eq_true hs
    have HSS := Lib.hid hs
    clear hs
    go_wp2_with (first
      | fail
      | (at_delete; refine wpList_delete_ranges _ rfl _ _ 52 30 rfl 57 KK Try.underlying52 pE b r n D left cnt rfl HR1.out _ (ku x) rfl HK.out ?_
         intro w2 cnt2 hr2 hc2 ht2
         rw [HL.out] at hr2
         have HR2 := Lib.hid hr2
         have HT2 := Lib.hid ht2.grown
         clear hr2 ht2))
    go_end0
    refine ⟨rfl, _, cnt2, HS.out _ _ (by rw [if_pos HSS.out]) ?_ ?_, HR2.out, hc2, H1.out.trans (Mut.grown HT2.out (fun j hj => .inl (by cases hj; exact HB.out)))⟩
    · exact (HT2.out.block _ (row_lt HG1.out) (fun e => HG.out (by cases e; rfl))).trans HG1.out
    · intro k hk hkg hkb
      exact (HT2.out.block k (by simpa using hk) (fun e => hkb (by cases e; rfl))).trans (HO.out k hkg)
  · have hd : decide (sec ≤ 0) = false := decide_eq_false hs
    have HSS := Lib.hid hs
    clear hs
    go_wp2_with fail
    go_end0
    exact ⟨rfl, _, cnt, HS.out _ _ (by rw [if_neg (Int.not_le.2 HSS.out)]) HG1.out (fun k _ hkg _ => HO.out k hkg), HR1.out, Nat.le_refl _, H1.out⟩

end Go.Proofs.Ytheackckmhbodaa
