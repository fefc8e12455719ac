/- The selection: what it leaves, all together. No statement is proved here. -/
import Derived.Test.YthfoacgdkoijeaaSelN
namespace Go.Proofs.Ythfoacgdkoijeaa
open Go.RowKit Go.BigFrame Go.WideShapes Go.ChangeShapes Go.Deep
set_option linter.unusedVariables false
set_option linter.unusedSimpArgs false

theorem noR_hi (B : Br) (n j : Nat) : (noR B n).hi j = B.hi j := by unfold Br.hi; rw [show (noR B n).hd = B.hd from upd_hd B 43 _ n]
/-- A selection, if one asks. -/
theorem sel_does {B : Br} (hA : anyR B B.np = true) : selF B = (true, psel (selB2 (noR B B.np)) B.np) := by unfold selF; rw [if_pos hA]
theorem anyR_of {B : Br} {k : Nat} (h : B.gb k 43 = true) : ∀ n, k < n → anyR B n = true
  | 0, hn => absurd hn (by omega)
  | n + 1, hn => by
    unfold anyR
    by_cases e : k = n
    · subst e; rw [h, Bool.or_true]
    · rw [anyR_of h n (by omega)]; rfl
structure SelOut (B Z : Br) : Prop where
  ok : Z.ok
  np : Z.np = B.np
  lo : ∀ j, j < 7 → Z.hi j = B.hi j
  root : Z.hi 7 = (rootF B B.np).r ∧ Z.hi 8 = (rootF B B.np).c ∧ Z.hi 9 = (rootF B B.np).b ∧ Z.hi 10 = (rootF B B.np).p ∧ Z.hi 11 = (rootF B B.np).x
  at_ : Z.hi 12 = (rootF B B.np).at_
  times : (Z.hi 12 = -1 ∧ Z.hi 13 = B.hi 2 ∧ Z.hi 14 = B.hi 3 ∧ Z.hi 15 = B.hi 4 ∧ Z.hi 16 = B.hi 5) ∨ ∃ k : Nat, k < B.np ∧ Z.hi 12 = k ∧ Z.hi 13 = B.gi k 78 + 1 ∧ Z.hi 14 = B.gi k 79 ∧ Z.hi 15 = B.gi k 80 ∧ Z.hi 16 = B.gi k 81
  port : ∀ n, n < B.np → port Z.ps n = stL Z n (port (noR B B.np).ps n)
theorem tellL_congr {D Z : Br} (h : ∀ j, Z.hi j = D.hi j) (L : List Value) : tellL Z L = tellL D L := by unfold tellL; simp only [h]
theorem sel_out {B : Br} (ho : B.ok) (hn : B.np < 1000) (hR : ∀ k, k < B.np → 0 ≤ B.gi k 78 ∧ B.gi k 78 ≤ 65535) : SelOut B (psel (selB2 (noR B B.np)) B.np) := by
  have okC := noR_ok ho (Nat.le_refl B.np)
  have npC : (noR B B.np).np = B.np := upd_np B 43 _ _
  have hV : selV (noR B B.np) = rootF B B.np := by
    unfold selV
    rw [npC, rootF_noR ho]
  have ok1 := selB1_ok okC (by rw [npC]; exact hn)
  have hrg : (selV (noR B B.np)).at_ = -1 ∨ ∃ k : Nat, k < (selB1 (noR B B.np)).np ∧ (selV (noR B B.np)).at_ = k := rootF_rg _ _
  have hR1 : ∀ k, k < (selB1 (noR B B.np)).np → 0 ≤ (selB1 (noR B B.np)).gi k 78 ∧ (selB1 (noR B B.np)).gi k 78 ≤ 65535 := fun k hk => by
    rw [selB1_gi, noR_gi ho (by decide) (by decide)]
    exact hR k (by
      have : (selB1 (noR B B.np)).np = B.np := npC
      omega)
  obtain ⟨ht2, hz2⟩ := rtL_typed ok1 hrg hR1
  have ok2 : (selB2 (noR B B.np)).ok := sethr_ok ok1 (j := 13) (m := 4) (by decide) hz2 ht2
  have np2 : (selB2 (noR B B.np)).np = B.np := npC
  have hh : ∀ j, (psel (selB2 (noR B B.np)) B.np).hi j = (selB2 (noR B B.np)).hi j := fun j => psel_hi _ _ _
  refine ⟨psel_ok ok2 _ (by omega), (psel_np _ _).trans np2, fun j hj => ?_, ?_, ?_, ?_, fun n hlt => ?_⟩
  · rw [hh, selB2_lo okC hj, noR_hi]
  · obtain ⟨a, b, c, d, e⟩ := selB2_root okC
    rw [hh, hh, hh, hh, hh, a, b, c, d, e, hV]
    exact ⟨rfl, rfl, rfl, rfl, rfl⟩
  · rw [hh, selB2_at okC, hV]
  · have t : ∀ i, i < 4 → (psel (selB2 (noR B B.np)) B.np).hi (13 + i) = pI (rtL (selB1 (noR B B.np)) (selV (noR B B.np)).at_) i := fun i hi => by rw [hh, selB2_times okC hi]
    have t0 := t 0 (by decide)
    have t1 := t 1 (by decide)
    have t2 := t 2 (by decide)
    have t3 := t 3 (by decide)
    have h12 := (hh 12).trans (selB2_at okC)
    rcases hrg with e | ⟨k, hk, e⟩
    · left
      rw [e] at t0 t1 t2 t3 h12
      unfold rtL at t0 t1 t2 t3
      rw [if_pos (by decide)] at t0 t1 t2 t3
      have l : ∀ j, j < 7 → (selB1 (noR B B.np)).hi j = B.hi j := fun j hj => (selB1_lo okC hj).trans (noR_hi B _ j)
      exact ⟨h12, t0.trans (l 2 (by decide)), t1.trans (l 3 (by decide)), t2.trans (l 4 (by decide)), t3.trans (l 5 (by decide))⟩
    · right
      rw [e] at t0 t1 t2 t3 h12
      unfold rtL at t0 t1 t2 t3
      rw [if_neg (by omega), Int.toNat_natCast] at t0 t1 t2 t3
      have q : ∀ j, j < 89 → j ≠ 43 → (selB1 (noR B B.np)).gi k j = B.gi k j := fun j h1 h2 => (selB1_gi _ _ _).trans (noR_gi ho h1 h2)
      refine ⟨k, by have : (selB1 (noR B B.np)).np = B.np := npC; omega, h12, t0.trans ?_, t1.trans (q 79 (by decide) (by decide)), t2.trans (q 80 (by decide) (by decide)), t3.trans (q 81 (by decide) (by decide))⟩
      show (selB1 (noR B B.np)).gi k 78 + 1 = _
      rw [q 78 (by decide) (by decide)]
  · rw [psel_port ok2 B.np (by omega) n (by omega), if_pos hlt]
    unfold stL
    rw [tellL_congr hh, hh, hh]
    rfl

end Go.Proofs.Ythfoacgdkoijeaa
