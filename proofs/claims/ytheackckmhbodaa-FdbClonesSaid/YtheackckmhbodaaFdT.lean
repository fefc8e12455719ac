/- Sorting by insertion, by the library. No statement is proved here. -/
import Derived.Test.YtheackckmhbodaaFdS
import Derived.Test.YtheackckmhbodaaFdA
namespace Go.Proofs.Ytheackckmhbodaa
open Go.RowKit Go.BigFrame Go.WideShapes Go.ChangeShapes Go.Deep
set_option linter.unusedVariables false
set_option linter.unusedSimpArgs false

theorem nan_any (x : Int) (w : World) : Calls Try.prog 57 #[.int .u64 x] w fun e w' => e = .returned (.bool false) ∧ w' = w := by
  go_enter Try.func57, Try.ntmps57
  go_wp2
  go_ret
  exact ⟨by simp, rfl⟩
theorem less_any (x y : Int) (w : World) : Calls Try.prog 47 #[.int .u64 x, .int .u64 y] w fun e w' => e = .returned (.bool (decide (x < y))) ∧ w' = w := by
  go_enter Try.func47, Try.ntmps47
  go_wp2_with fail
  refine (nan_any x _).mono ?_
  rintro e w1 ⟨rfl, rfl⟩
  go_wp2_with fail
  go_ret
  exact ⟨by simp, rfl⟩
theorem less_ext (x y : Int) (w : World) : Calls Try.prog 47 #[.int .u64 x, .int .u64 y] w fun e w' => e = .returned (.bool (decide (x < y))) ∧ Ext w w' := (less_any x y w).mono fun e w' ⟨h, h2⟩ => ⟨h, h2 ▸ Ext.refl w⟩
/-- Block g holds the numbers l. -/
def Nums (w : World) (g : Nat) (l : List Int) : Prop := ∃ cur, w.heap[g]? = some (.cells cur 30 (0, 0)) ∧ ∀ i, i < l.length → cur[i]? = some (.int .u64 (at0 l i))
theorem Nums.cell {w : World} {g : Nat} {l : List Int} (h : Nums w g l) {i : Nat} (hi : i < l.length) : w.cell? ⟨g, i, none⟩ = some (.int .u64 (at0 l i)) := by
  obtain ⟨cur, h1, h2⟩ := h
  simp [World.cell?, h1, h2 i hi]
theorem Nums.froz {w : World} {g : Nat} {l : List Int} (h : Nums w g l) (i : Nat) : w.frozen? ⟨g, i, none⟩ = false := by
  obtain ⟨cur, h1, h2⟩ := h
  simp [World.frozen?, h1]
theorem Nums.lt {w : World} {g : Nat} {l : List Int} (h : Nums w g l) : g < w.heap.size := by
  obtain ⟨cur, h1, h2⟩ := h
  exact (Array.getElem?_eq_some_iff.1 h1).1
theorem Nums.set {w : World} {g : Nat} {l : List Int} (h : Nums w g l) {p : Nat} (hp : p < l.length) (v : Int) : Nums (w.setCell ⟨g, p, none⟩ (.int .u64 v)) g (l.set p v) := by
  obtain ⟨cur, h1, h2⟩ := h
  have hg : g < w.heap.size := (Array.getElem?_eq_some_iff.1 h1).1
  have hg' : w.heap[g] = .cells cur 30 (0, 0) := (Array.getElem?_eq_some_iff.1 h1).2
  refine ⟨cur.setIfInBounds p (.int .u64 v), ?_, fun i hi => ?_⟩
  · simp [World.setCell, Array.getElem_modify, hg', hg]
  · have hi' : i < l.length := by simpa using hi
    have hc := h2 i hi'
    have hil : i < cur.size := (Array.getElem?_eq_some_iff.1 hc).1
    rw [at_set _ _ _ _ hp]
    by_cases hip : i = p
    · subst hip
      rw [if_pos rfl]
      simp [Array.getElem?_setIfInBounds, hil]
    · rw [if_neg hip, Array.getElem?_setIfInBounds, if_neg (fun e => hip e.symm)]
      exact hc
theorem Nums.ext {w w' : World} {g : Nat} {l : List Int} (h : Nums w g l) (hx : Ext w w') : Nums w' g l := by
  have hl := h.lt
  obtain ⟨cur, h1, h2⟩ := h
  exact ⟨cur, (hx.block g hl).trans h1, h2⟩
theorem w64n {n : Nat} (h : n < 1000) : IntKind.i64.wrap ((n : Int) + 1) = ((n + 1 : Nat) : Int) := by rw [IntKind.wrap_i64]; omega
theorem w64m {q : Nat} (h : q < 1000) : IntKind.i64.wrap (((q + 1 : Nat) : Int) - 1) = (q : Int) := by rw [IntKind.wrap_i64]; omega
def InP (w : World) (g n i j : Nat) (l0 : List Int) (w' : World) : Prop := ∃ l, Nums w' g l ∧ Like n l0 l ∧ InsI l i j ∧ Mut (fun k => k = g) w w'
def OutP (w : World) (g n i : Nat) (l0 : List Int) (w' : World) : Prop := ∃ l, Nums w' g l ∧ Like n l0 l ∧ Rise l i ∧ Mut (fun k => k = g) w w'

set_option maxRecDepth 100000 in
set_option maxHeartbeats 4000000 in
theorem insort_any (w : World) (g n cap : Nat) (l0 : List Int) (hn : n ≤ 12) (h : Nums w g l0) (hl : l0.length = n) (hd : ∀ a b, a < n → b < n → at0 l0 a = at0 l0 b → a = b) :
    Calls Try.prog 41 #[(.slice (some ⟨g, 0, none⟩) n cap), .int .i64 0, .int .i64 n] w fun e w' => e = .returned (.tuple #[]) ∧ OutP w g n n l0 w' := by
  have H0 := Lib.hid (show OutP w g n 1 l0 w from ⟨l0, h, ⟨hl, hd, fun x => Iff.rfl⟩, fun a b h1 h2 => by omega, Mut.refl _ w⟩)
  clear h hl hd
  go_enter Try.func41, Try.ntmps41
  go_wp2_with fail
  go_loopw [6] (fun s wr => ∃ i : Nat, 1 ≤ i ∧ i ≤ n + 1 ∧ s = .int .i64 i ∧ OutP w g n i l0 wr) (fun s _ => n + 1 - (intOf s).toNat)
  case atStart => exact ⟨1, by omega, by omega, rfl, H0.out⟩
  case round =>
    clear H0
    obtain ⟨i, hi1, hi2, rfl, hout⟩ := hrel
    have HO := Lib.hid hout
    clear hout
    by_cases hlt : i < n
    · have dlt : decide ((i : Int) < (n : Int)) = true := by simp; omega
      go_wp2_with fail
      go_loopw [7] (fun s w2 => ∃ j : Nat, j ≤ i ∧ s = .int .i64 j ∧ InP w g n i j l0 w2) (fun s _ => (intOf s).toNat)
      case atStart =>
        obtain ⟨l, q1, q2, q3, q4⟩ := HO.out
        exact ⟨i, by omega, rfl, l, q1, q2, InsI.start q3, q4⟩
      case round =>
        clear HO dlt
        obtain ⟨j, hj, rfl, hin⟩ := hrel
        rename World => wl
        obtain ⟨l, hnu, hlk, hii, hmu⟩ := hin
        have NU := Lib.hid hnu
        have LK := Lib.hid hlk
        have II := Lib.hid hii
        have MU := Lib.hid hmu
        have hln : l.length = n := hlk.1
        clear hnu hlk hii hmu
        cases j with
        | zero =>
          go_wp2_with fail
          refine beginL (S := fun W' => Ext wl W') (by kernel_rfl) ?_
          intro wd hqx
          have hq0 : Ext wl wd := hqx
          refine takeL (i := 0) (v := (.int .i64 0)) rfl (by kernel_rfl) (by kernel_rfl) (by kernel_rfl) (fun _ _ _ h => h) (Or.inl ⟨rfl, fun _ _ => rfl⟩) hq0 ?_
          simp only [Act.put, List.setIfInBounds_toArray, List.set_cons_zero, List.set_cons_succ]
          refine takeL (i := 1) (v := (.int .i64 0)) rfl (by kernel_rfl) (by kernel_rfl) (by kernel_rfl) (fun _ _ _ h => h) (Or.inl ⟨rfl, fun _ _ => rfl⟩) hq0 ?_
          simp only [Act.put, List.setIfInBounds_toArray, List.set_cons_zero, List.set_cons_succ]
          refine takeL (i := 2) (v := (.bool false)) rfl (by kernel_rfl) (by kernel_rfl) (by kernel_rfl) (fun _ _ _ h => h) (Or.inl ⟨rfl, fun W' _ => by go_simp⟩) hq0 ?_
          simp only [Act.put, List.setIfInBounds_toArray, List.set_cons_zero, List.set_cons_succ]
          refine takeL (i := 3) (v := (.bool false)) rfl (by kernel_rfl) (by kernel_rfl) (by kernel_rfl) (fun _ _ _ h => h) (Or.inl ⟨rfl, fun _ _ => rfl⟩) hq0 ?_
          simp only [Act.put, List.setIfInBounds_toArray, List.set_cons_zero, List.set_cons_succ]
          refine takeL (i := 4) (v := undef) rfl (by kernel_rfl) (by kernel_rfl) (by kernel_rfl) (fun _ _ _ h => h) (Or.inr ⟨rfl, rfl⟩) hq0 ?_
          simp only [Act.put, List.setIfInBounds_toArray, List.set_cons_zero, List.set_cons_succ]
          refine takeL (i := 5) (v := undef) rfl (by kernel_rfl) (by kernel_rfl) (by kernel_rfl) (fun _ _ _ h => h) (Or.inr ⟨rfl, rfl⟩) hq0 ?_
          simp only [Act.put, List.setIfInBounds_toArray, List.set_cons_zero, List.set_cons_succ]
          refine takeL (i := 6) (v := undef) rfl (by kernel_rfl) (by kernel_rfl) (by kernel_rfl) (fun _ _ _ h => h) (Or.inr ⟨rfl, rfl⟩) hq0 ?_
          simp only [Act.put, List.setIfInBounds_toArray, List.set_cons_zero, List.set_cons_succ]
          refine takeL (i := 7) (v := undef) rfl (by kernel_rfl) (by kernel_rfl) (by kernel_rfl) (fun _ _ _ h => h) (Or.inr ⟨rfl, rfl⟩) hq0 ?_
          simp only [Act.put, List.setIfInBounds_toArray, List.set_cons_zero, List.set_cons_succ]
          refine takeL (i := 8) (v := undef) rfl (by kernel_rfl) (by kernel_rfl) (by kernel_rfl) (fun _ _ _ h => h) (Or.inr ⟨rfl, rfl⟩) hq0 ?_
          simp only [Act.put, List.setIfInBounds_toArray, List.set_cons_zero, List.set_cons_succ]
          refine takeL (i := 9) (v := undef) rfl (by kernel_rfl) (by kernel_rfl) (by kernel_rfl) (fun _ _ _ h => h) (Or.inr ⟨rfl, rfl⟩) hq0 ?_
          simp only [Act.put, List.setIfInBounds_toArray, List.set_cons_zero, List.set_cons_succ]
          refine takeL (i := 10) (v := undef) rfl (by kernel_rfl) (by kernel_rfl) (by kernel_rfl) (fun _ _ _ h => h) (Or.inr ⟨rfl, rfl⟩) hq0 ?_
          simp only [Act.put, List.setIfInBounds_toArray, List.set_cons_zero, List.set_cons_succ]
          refine takeL (i := 11) (v := undef) rfl (by kernel_rfl) (by kernel_rfl) (by kernel_rfl) (fun _ _ _ h => h) (Or.inr ⟨rfl, rfl⟩) hq0 ?_
          simp only [Act.put, List.setIfInBounds_toArray, List.set_cons_zero, List.set_cons_succ]
          refine takeL (i := 12) (v := undef) rfl (by kernel_rfl) (by kernel_rfl) (by kernel_rfl) (fun _ _ _ h => h) (Or.inr ⟨rfl, rfl⟩) hq0 ?_
          simp only [Act.put, List.setIfInBounds_toArray, List.set_cons_zero, List.set_cons_succ]
          refine takeL (i := 13) (v := undef) rfl (by kernel_rfl) (by kernel_rfl) (by kernel_rfl) (fun _ _ _ h => h) (Or.inr ⟨rfl, rfl⟩) hq0 ?_
          simp only [Act.put, List.setIfInBounds_toArray, List.set_cons_zero, List.set_cons_succ]
          refine takeL (i := 14) (v := (.bool false)) rfl (by kernel_rfl) (by kernel_rfl) (by kernel_rfl) (fun _ _ _ h => h) (Or.inl ⟨rfl, fun _ _ => rfl⟩) hq0 ?_
          simp only [Act.put, List.setIfInBounds_toArray, List.set_cons_zero, List.set_cons_succ]
          refine wpAnyH_done (by kernel_rfl) ?_ _
          have hnu := NU.out.ext hq0
          have hmu := MU.out.trans (hq0.mut (fun k => k = g))
          have HEND := Lib.hid (show OutP w g n (i + 1) l0 wd from ⟨l, hnu, LK.out, II.out.stop0, hmu⟩)
          clear hq0 hqx hnu hmu
          go_wp2_with fail
          go_roundw
          case rel => exact ⟨i + 1, by omega, by omega, by go_num, HEND.out⟩
          case measure => simp [intOf] <;> omega
        | succ q =>
          obtain ⟨x, hvx⟩ : ∃ x, at0 l (q + 1) = x := ⟨_, rfl⟩
          obtain ⟨y, hvy⟩ : ∃ y, at0 l q = y := ⟨_, rfl⟩
          go_wp2_with fail
          refine beginL (S := fun W' => Ext wl W') (by kernel_rfl) ?_
          intro wd hqx
          have hq0 : Ext wl wd := hqx
          refine takeL (i := 0) (v := (.int .i64 ((q + 1 : Nat) : Int))) rfl (by kernel_rfl) (by kernel_rfl) (by kernel_rfl) (fun _ _ _ h => h) (Or.inl ⟨rfl, fun _ _ => rfl⟩) hq0 ?_
          simp only [Act.put, List.setIfInBounds_toArray, List.set_cons_zero, List.set_cons_succ]
          refine takeL (i := 1) (v := (.int .i64 0)) rfl (by kernel_rfl) (by kernel_rfl) (by kernel_rfl) (fun _ _ _ h => h) (Or.inl ⟨rfl, fun _ _ => rfl⟩) hq0 ?_
          simp only [Act.put, List.setIfInBounds_toArray, List.set_cons_zero, List.set_cons_succ]
          refine takeL (i := 2) (v := (.bool true)) rfl (by kernel_rfl) (by kernel_rfl) (by kernel_rfl) (fun _ _ _ h => h) (Or.inl ⟨rfl, fun W' _ => by go_simp⟩) hq0 ?_
          simp only [Act.put, List.setIfInBounds_toArray, List.set_cons_zero, List.set_cons_succ]
          refine takeL (i := 3) (v := (.bool true)) rfl (by kernel_rfl) (by kernel_rfl) (by kernel_rfl) (fun _ _ _ h => h) (Or.inl ⟨rfl, fun _ _ => rfl⟩) hq0 ?_
          simp only [Act.put, List.setIfInBounds_toArray, List.set_cons_zero, List.set_cons_succ]
          refine takeL (i := 4) (v := (.slice (some ⟨g, 0, none⟩) n cap)) rfl (by kernel_rfl) (by kernel_rfl) (by kernel_rfl) (fun _ _ _ h => h) (Or.inl ⟨rfl, fun _ _ => rfl⟩) hq0 ?_
          simp only [Act.put, List.setIfInBounds_toArray, List.set_cons_zero, List.set_cons_succ]
          refine takeL (i := 5) (v := (.int .i64 ((q + 1 : Nat) : Int))) rfl (by kernel_rfl) (by kernel_rfl) (by kernel_rfl) (fun _ _ _ h => h) (Or.inl ⟨rfl, fun _ _ => rfl⟩) hq0 ?_
          simp only [Act.put, List.setIfInBounds_toArray, List.set_cons_zero, List.set_cons_succ]
          refine takeL (i := 6) (v := (.pointer (some ⟨g, q + 1, none⟩))) rfl (by kernel_rfl) (by kernel_rfl) (by kernel_rfl) (fun _ _ _ h => h) (Or.inl ⟨rfl, fun W' _ => by go_simp <;> (intro h; omega)⟩) hq0 ?_
          simp only [Act.put, List.setIfInBounds_toArray, List.set_cons_zero, List.set_cons_succ]
          refine takeL (i := 7) (v := _) rfl (by kernel_rfl) (by kernel_rfl) (by kernel_rfl) (fun _ _ _ h => h) (yieldsIf_cell rfl 30 _ rfl ⟨g, q + 1, none⟩ rfl (.int .u64 x) _ (fun W' hW' => (show W'.cell? ⟨g, q + 1, none⟩ = _ from (NU.out.ext hW').cell (by omega)).trans (by rw [hvx])) Try.underlying30 rfl) hq0 ?_
          simp only [Act.put, List.setIfInBounds_toArray, List.set_cons_zero, List.set_cons_succ]
          refine takeL (i := 8) (v := (.slice (some ⟨g, 0, none⟩) n cap)) rfl (by kernel_rfl) (by kernel_rfl) (by kernel_rfl) (fun _ _ _ h => h) (Or.inl ⟨rfl, fun _ _ => rfl⟩) hq0 ?_
          simp only [Act.put, List.setIfInBounds_toArray, List.set_cons_zero, List.set_cons_succ]
          refine takeL (i := 9) (v := (.int .i64 ((q + 1 : Nat) : Int))) rfl (by kernel_rfl) (by kernel_rfl) (by kernel_rfl) (fun _ _ _ h => h) (Or.inl ⟨rfl, fun _ _ => rfl⟩) hq0 ?_
          simp only [Act.put, List.setIfInBounds_toArray, List.set_cons_zero, List.set_cons_succ]
          refine takeL (i := 10) (v := (.int .i64 (q : Int))) rfl (by kernel_rfl) (by kernel_rfl) (by kernel_rfl) (fun _ _ _ h => h) (Or.inl ⟨rfl, fun W' _ => by go_simp <;> (rw [IntKind.wrap_i64]; omega)⟩) hq0 ?_
          simp only [Act.put, List.setIfInBounds_toArray, List.set_cons_zero, List.set_cons_succ]
          refine takeL (i := 11) (v := (.pointer (some ⟨g, q, none⟩))) rfl (by kernel_rfl) (by kernel_rfl) (by kernel_rfl) (fun _ _ _ h => h) (Or.inl ⟨rfl, fun W' _ => by go_simp <;> (intro h; omega)⟩) hq0 ?_
          simp only [Act.put, List.setIfInBounds_toArray, List.set_cons_zero, List.set_cons_succ]
          refine takeL (i := 12) (v := _) rfl (by kernel_rfl) (by kernel_rfl) (by kernel_rfl) (fun _ _ _ h => h) (yieldsIf_cell rfl 30 _ rfl ⟨g, q, none⟩ rfl (.int .u64 y) _ (fun W' hW' => (show W'.cell? ⟨g, q, none⟩ = _ from (NU.out.ext hW').cell (by omega)).trans (by rw [hvy])) Try.underlying30 rfl) hq0 ?_
          simp only [Act.put, List.setIfInBounds_toArray, List.set_cons_zero, List.set_cons_succ]
          refine runG (i := 13) rfl (by rfl) (by kernel_rfl) (fun K hK => ?_)
          go_simp
          refine (less_ext x y _).mono ?_
          rintro e wc1 ⟨rfl, hx⟩
          have hq1 := hq0.trans hx
          refine hK.out _ _ hq1 (fun hHeld => ?_)
          try simp only [Act.put, List.setIfInBounds_toArray, List.set_cons_zero, List.set_cons_succ]
          clear hK K hHeld
          refine takeL (i := 14) (v := (.bool (decide (x < y)))) rfl (by kernel_rfl) (by kernel_rfl) (by kernel_rfl) (fun _ _ _ h => h) (Or.inl ⟨rfl, fun _ _ => rfl⟩) hq1 ?_
          simp only [Act.put, List.setIfInBounds_toArray, List.set_cons_zero, List.set_cons_succ]
          refine wpAnyH_done (by kernel_rfl) ?_ _
          have NU2 := Lib.hid (NU.out.ext hq1)
          have MU2 := Lib.hid (MU.out.trans (hq1.mut (fun k => k = g)))
          clear NU MU hq0 hq1 hqx hx
          by_cases hxy : x < y
          · have dxy : decide (x < y) = true := decide_eq_true hxy
            go_wp2_with fail
            refine beginZ (S := fun W' => Ext wc1 W') 15 (by kernel_rfl) ?_
            intro wd hqx
            have hq0 : Ext wc1 wd := hqx
            refine takeZ (i := 0) (z := 15) (v := (.slice (some ⟨g, 0, none⟩) n cap)) rfl rfl (by kernel_rfl) (by kernel_rfl) (by kernel_rfl) (by kernel_rfl) (by kernel_rfl) (by kernel_rfl) (fun _ _ _ h => h) (Or.inl ⟨rfl, fun _ _ => rfl⟩) hq0 ?_
            simp only [Act.put, List.setIfInBounds_toArray, List.set_cons_zero, List.set_cons_succ]
            refine takeZ (i := 1) (z := 15) (v := (.int .i64 ((q + 1 : Nat) : Int))) rfl rfl (by kernel_rfl) (by kernel_rfl) (by kernel_rfl) (by kernel_rfl) (by kernel_rfl) (by kernel_rfl) (fun _ _ _ h => h) (Or.inl ⟨rfl, fun _ _ => rfl⟩) hq0 ?_
            simp only [Act.put, List.setIfInBounds_toArray, List.set_cons_zero, List.set_cons_succ]
            refine takeY (i := 2) (z := 15) (v := (.slice (some ⟨g, 0, none⟩) n cap)) rfl (by kernel_rfl) (by kernel_rfl) (by kernel_rfl) (by kernel_rfl) (fun _ _ _ h => h) (Or.inl ⟨rfl, fun _ _ => rfl⟩) hq0 ?_
            simp only [Act.put, List.setIfInBounds_toArray, List.set_cons_zero, List.set_cons_succ]
            refine takeY (i := 3) (z := 15) (v := (.int .i64 ((q + 1 : Nat) : Int))) rfl (by kernel_rfl) (by kernel_rfl) (by kernel_rfl) (by kernel_rfl) (fun _ _ _ h => h) (Or.inl ⟨rfl, fun _ _ => rfl⟩) hq0 ?_
            simp only [Act.put, List.setIfInBounds_toArray, List.set_cons_zero, List.set_cons_succ]
            refine takeY (i := 4) (z := 15) (v := (.int .i64 (q : Int))) rfl (by kernel_rfl) (by kernel_rfl) (by kernel_rfl) (by kernel_rfl) (fun _ _ _ h => h) (Or.inl ⟨rfl, fun W' _ => by go_simp <;> (rw [IntKind.wrap_i64]; omega)⟩) hq0 ?_
            simp only [Act.put, List.setIfInBounds_toArray, List.set_cons_zero, List.set_cons_succ]
            refine takeZ (i := 5) (z := 15) (v := (.slice (some ⟨g, 0, none⟩) n cap)) rfl rfl (by kernel_rfl) (by kernel_rfl) (by kernel_rfl) (by kernel_rfl) (by kernel_rfl) (by kernel_rfl) (fun _ _ _ h => h) (Or.inl ⟨rfl, fun _ _ => rfl⟩) hq0 ?_
            simp only [Act.put, List.setIfInBounds_toArray, List.set_cons_zero, List.set_cons_succ]
            refine takeZ (i := 6) (z := 15) (v := (.int .i64 ((q + 1 : Nat) : Int))) rfl rfl (by kernel_rfl) (by kernel_rfl) (by kernel_rfl) (by kernel_rfl) (by kernel_rfl) (by kernel_rfl) (fun _ _ _ h => h) (Or.inl ⟨rfl, fun _ _ => rfl⟩) hq0 ?_
            simp only [Act.put, List.setIfInBounds_toArray, List.set_cons_zero, List.set_cons_succ]
            refine takeZ (i := 7) (z := 15) (v := (.int .i64 (q : Int))) rfl rfl (by kernel_rfl) (by kernel_rfl) (by kernel_rfl) (by kernel_rfl) (by kernel_rfl) (by kernel_rfl) (fun _ _ _ h => h) (Or.inl ⟨rfl, fun W' _ => by go_simp <;> (rw [IntKind.wrap_i64]; omega)⟩) hq0 ?_
            simp only [Act.put, List.setIfInBounds_toArray, List.set_cons_zero, List.set_cons_succ]
            refine takeZ (i := 8) (z := 15) (v := (.pointer (some ⟨g, q, none⟩))) rfl rfl (by kernel_rfl) (by kernel_rfl) (by kernel_rfl) (by kernel_rfl) (by kernel_rfl) (by kernel_rfl) (fun _ _ _ h => h) (Or.inl ⟨rfl, fun W' _ => by go_simp <;> (intro h; omega)⟩) hq0 ?_
            simp only [Act.put, List.setIfInBounds_toArray, List.set_cons_zero, List.set_cons_succ]
            refine takeZ (i := 9) (z := 15) (v := _) rfl rfl (by kernel_rfl) (by kernel_rfl) (by kernel_rfl) (by kernel_rfl) (by kernel_rfl) (by kernel_rfl) (fun _ _ _ h => h) (yieldsIf_cell rfl 30 _ rfl ⟨g, q, none⟩ rfl (.int .u64 y) _ (fun W' hW' => (show W'.cell? ⟨g, q, none⟩ = _ from (NU2.out.ext hW').cell (by omega)).trans (by rw [hvy])) Try.underlying30 rfl) hq0 ?_
            simp only [Act.put, List.setIfInBounds_toArray, List.set_cons_zero, List.set_cons_succ]
            refine takeY (i := 10) (z := 15) (v := (.slice (some ⟨g, 0, none⟩) n cap)) rfl (by kernel_rfl) (by kernel_rfl) (by kernel_rfl) (by kernel_rfl) (fun _ _ _ h => h) (Or.inl ⟨rfl, fun _ _ => rfl⟩) hq0 ?_
            simp only [Act.put, List.setIfInBounds_toArray, List.set_cons_zero, List.set_cons_succ]
            refine takeY (i := 11) (z := 15) (v := (.int .i64 ((q + 1 : Nat) : Int))) rfl (by kernel_rfl) (by kernel_rfl) (by kernel_rfl) (by kernel_rfl) (fun _ _ _ h => h) (Or.inl ⟨rfl, fun _ _ => rfl⟩) hq0 ?_
            simp only [Act.put, List.setIfInBounds_toArray, List.set_cons_zero, List.set_cons_succ]
            refine takeY (i := 12) (z := 15) (v := (.pointer (some ⟨g, q + 1, none⟩))) rfl (by kernel_rfl) (by kernel_rfl) (by kernel_rfl) (by kernel_rfl) (fun _ _ _ h => h) (Or.inl ⟨rfl, fun W' _ => by go_simp <;> (intro h; omega)⟩) hq0 ?_
            simp only [Act.put, List.setIfInBounds_toArray, List.set_cons_zero, List.set_cons_succ]
            refine takeZ (i := 13) (z := 15) (v := _) rfl rfl (by kernel_rfl) (by kernel_rfl) (by kernel_rfl) (by kernel_rfl) (by kernel_rfl) (by kernel_rfl) (fun _ _ _ h => h) (yieldsIf_cell rfl 30 _ rfl ⟨g, q + 1, none⟩ rfl (.int .u64 x) _ (fun W' hW' => (show W'.cell? ⟨g, q + 1, none⟩ = _ from (NU2.out.ext hW').cell (by omega)).trans (by rw [hvx])) Try.underlying30 rfl) hq0 ?_
            simp only [Act.put, List.setIfInBounds_toArray, List.set_cons_zero, List.set_cons_succ]
            refine takeZ (i := 14) (z := 15) (v := (.pointer (some ⟨g, q + 1, none⟩))) rfl rfl (by kernel_rfl) (by kernel_rfl) (by kernel_rfl) (by kernel_rfl) (by kernel_rfl) (by kernel_rfl) (fun _ _ _ h => h) (Or.inl ⟨rfl, fun W' _ => by go_simp <;> (intro h; omega)⟩) hq0 ?_
            simp only [Act.put, List.setIfInBounds_toArray, List.set_cons_zero, List.set_cons_succ]
            refine runZl (z := 15) rfl rfl (by kernel_rfl) (fun K hK => ?_)
            have hce := (NU2.out.ext hq0)
            have hc1 : wd.cell? ⟨g, q + 1, none⟩ = some (.int .u64 (at0 l (q + 1))) := hce.cell (by omega)
            have hf1 := hce.froz (q + 1)
            go_simp
            refine hK.out _ _ ?_
            try simp only [Act.put, List.setIfInBounds_toArray, List.set_cons_zero, List.set_cons_succ]
            clear hK K hc1 hf1
            have hce2 := hce.set (p := q + 1) (by omega) (at0 l q)
            rw [hvy] at hce2
            have hq9 := (hq0.mut (fun k => k = g)).setCell (p := ⟨g, q + 1, none⟩) (.inl rfl) (.int .u64 y)
            refine takeL (i := 16) (v := (.pointer (some ⟨g, q, none⟩))) rfl (by kernel_rfl) (by kernel_rfl) (by kernel_rfl) (fun _ _ _ h => h) (Or.inl ⟨rfl, fun W' _ => by go_simp <;> (intro h; omega)⟩) trivial ?_
            simp only [Act.put, List.setIfInBounds_toArray, List.set_cons_zero, List.set_cons_succ]
            refine runL (i := 17) rfl rfl (by kernel_rfl) (fun K hK => ?_)
            have hc2 : (wd.setCell ⟨g, q + 1, none⟩ (.int .u64 y)).cell? ⟨g, q, none⟩ = some (.int .u64 (at0 (l.set (q + 1) y) q)) := hce2.cell (by simp; omega)
            have hf2 := hce2.froz q
            go_simp
            refine hK.out _ _ trivial (fun _ => ?_)
            try simp only [Act.put, List.setIfInBounds_toArray, List.set_cons_zero, List.set_cons_succ]
            clear hK K hc2 hf2
            refine wpAnyH_done (by kernel_rfl) ?_ _
            have hce3 := hce2.set (p := q) (by simp; omega) (at0 l (q + 1))
            rw [hvx] at hce3
            have hq8 := hq9.setCell (p := ⟨g, q, none⟩) (.inl rfl) (.int .u64 x)
            have NU3 := Lib.hid (show Nums _ g (swp l q) from by unfold swp; rw [hvx, hvy]; exact hce3)
            have MU3 := Lib.hid (MU2.out.trans hq8)
            clear hce hce2 hce3 hq8 hq9 hq0 hqx
            generalize (wd.setCell ⟨g, q + 1, none⟩ (.int .u64 y)).setCell ⟨g, q, none⟩ (.int .u64 x) = wm at *
            have HEND := Lib.hid (show InP w g n i q l0 wm from ⟨swp l q, NU3.out, LK.out.swp (by omega), II.out.step (by omega) (by rw [hvx, hvy]; exact hxy) hj, MU3.out⟩)
            go_wp2_with fail
            go_roundw
            case rel => exact ⟨q, by omega, by go_num, HEND.out⟩
            case measure => simp [intOf] <;> omega
          · have dxy : decide (x < y) = false := decide_eq_false hxy
            have HEND := Lib.hid (show OutP w g n (i + 1) l0 wc1 from ⟨l, NU2.out, LK.out, II.out.stop (by rw [hvx, hvy]; omega) hj, MU2.out⟩)
            go_wp2_with fail
            go_roundw
            case rel => exact ⟨i + 1, by omega, by omega, by go_num, HEND.out⟩
            case measure => simp [intOf] <;> omega
    · have dlt : decide ((i : Int) < (n : Int)) = false := by simp; omega
      go_wp2_with fail
      go_end0
      obtain ⟨l, q1, q2, q3, q4⟩ := HO.out
      exact ⟨rfl, l, q1, q2, fun a b h1 h2 => q3 a b h1 (by omega), q4⟩

end Go.Proofs.Ytheackckmhbodaa
