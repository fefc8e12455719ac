/- The machine of edges, by itself. No statement is proved here. -/
import Derived.Test.YtfbgianmcmgekaaEdgeL
namespace Go.Proofs.Ytfbgianmcmgekaa
open Go.RowKit Go.WideShapes Go.ChangeShapes Go.Deep
set_option linter.unusedVariables false

section
variable (B : Br) (k : Nat) (h : k * 89 + 89 ≤ B.ps.length)
include h
theorem eo_17 : (edgeOff B k).gi k 17 = 1 := by (unfold edgeOff; rw [gi_setp_same _ _ _ _ _ (by simp only [len_setp]; omega)])
theorem eo_32 : (edgeOff B k).gb k 32 = false := by (unfold edgeOff; rw [gb_setp_ne _ _ _ _ _ (by decide), gb_setp_same _ _ _ _ (by omega)])
theorem en_17 : (edgeOn B k).gi k 17 = 0 := by (unfold edgeOn; rw [gi_setp_same _ _ _ _ _ (by simp only [len_setp]; omega)])
theorem en_32 : (edgeOn B k).gb k 32 = true := by (unfold edgeOn; rw [gb_setp_ne _ _ _ _ _ (by decide), gb_setp_same _ _ _ _ (by omega)])
end
theorem eo_b (B : Br) (k j : Nat) (h1 : 32 ≠ j) (h2 : 17 ≠ j) : (edgeOff B k).gb k j = B.gb k j := by unfold edgeOff; rw [gb_setp_ne _ _ _ _ _ h2, gb_setp_ne _ _ _ _ _ h1]
theorem en_b (B : Br) (k j : Nat) (h1 : 32 ≠ j) (h2 : 17 ≠ j) : (edgeOn B k).gb k j = B.gb k j := by unfold edgeOn; rw [gb_setp_ne _ _ _ _ _ h2, gb_setp_ne _ _ _ _ _ h1]
theorem eo_6 (B : Br) (k : Nat) : (edgeOff B k).gi k 6 = B.gi k 6 := by unfold edgeOff; rw [gi_setp_ne _ _ _ _ _ (by decide), gi_setp_ne _ _ _ _ _ (by decide)]
theorem en_6 (B : Br) (k : Nat) : (edgeOn B k).gi k 6 = B.gi k 6 := by unfold edgeOn; rw [gi_setp_ne _ _ _ _ _ (by decide), gi_setp_ne _ _ _ _ _ (by decide)]
theorem eo_el1 (B : Br) (k : Nat) : el1 (edgeOff B k) k = el1 B k := by
  unfold el1
  rw [eo_b _ _ 2 (by decide) (by decide), eo_b _ _ 4 (by decide) (by decide), eo_b _ _ 5 (by decide) (by decide), eo_b _ _ 45 (by decide) (by decide), eo_b _ _ 34 (by decide) (by decide), eo_6]
theorem en_el0 (B : Br) (k : Nat) (h : k * 89 + 89 ≤ B.ps.length) : el0 (edgeOn B k) k = (!B.gb k 2 && !B.gb k 4) := by
  unfold el0
  rw [en_32 _ _ h, en_b _ _ 2 (by decide) (by decide), en_b _ _ 4 (by decide) (by decide)]
  simp
theorem edgeOff_len (B : Br) (k : Nat) : (edgeOff B k).ps.length = B.ps.length := by simp [edgeOff]
theorem edgeOn_len (B : Br) (k : Nat) : (edgeOn B k).ps.length = B.ps.length := by simp [edgeOn]

/-- Behind a step that is none, none is. -/
theorem edge_stuck {B : Br} {k : Nat} (h : (edgeF B k).1 = false) : edgeF B k = (false, B) := by
  revert h
  unfold edgeF
  split <;> (try split) <;> (try split) <;> simp

/-- Who isn't without both (Enabled, Admin) comes to rest in two steps. -/
theorem edge_ends (E : Br) (k : Nat) (h : k * 89 + 89 ≤ E.ps.length) (hn : (!E.gb k 2 && !E.gb k 4) = false) (hs : E.gi k 17 = 0 ∨ (E.gi k 17 = 1 ∧ E.gb k 32 = false)) :
    (edgeF (edgeF (edgeF E k).2 k).2 k).1 = false ∧ (edgeF (edgeF (edgeF E k).2 k).2 k).2.gb k 32 = decide ((edgeF (edgeF (edgeF E k).2 k).2 k).2.gi k 17 = 0) := by
  have on (A : Br) (hA : k * 89 + 89 ≤ A.ps.length) (hAn : (!A.gb k 2 && !A.gb k 4) = false) : edgeF (edgeOn A k) k = (false, edgeOn A k) := by
    simp [edgeF, en_17 _ _ hA, en_el0 _ _ hA, hAn]
  have one (A : Br) (hA : k * 89 + 89 ≤ A.ps.length) (hAn : (!A.gb k 2 && !A.gb k 4) = false) (h17 : A.gi k 17 = 1) (h32 : A.gb k 32 = false) :
      (edgeF (edgeF A k).2 k).1 = false ∧ (edgeF (edgeF A k).2 k).2.gb k 32 = decide ((edgeF (edgeF A k).2 k).2.gi k 17 = 0) ∧ (edgeF (edgeF (edgeF A k).2 k).2 k) = (false, (edgeF A k).2) := by
    cases hv : el1 A k
    · have e : edgeF A k = (false, A) := by simp [edgeF, h17, hv]
      rw [e]
      simp only [e]
      refine ⟨trivial, ?_, trivial⟩
      rw [h32, h17]
      rfl
    · have e : edgeF A k = (true, edgeOn A k) := by simp [edgeF, h17, hv]
      rw [e]
      simp only [on A hA hAn]
      refine ⟨trivial, ?_, trivial⟩
      rw [en_32 _ _ hA, en_17 _ _ hA]
      rfl
  rcases hs with h0 | ⟨h1, h2⟩
  · cases h32 : E.gb k 32
    · have e : edgeF E k = (true, edgeOff E k) := by simp [edgeF, h0, el0, h32]
      rw [e]
      obtain ⟨a, b, -⟩ := one (edgeOff E k) (by rw [edgeOff_len]; exact h) (by rw [eo_b _ _ 2 (by decide) (by decide), eo_b _ _ 4 (by decide) (by decide)]; exact hn) (eo_17 _ _ h) (eo_32 _ _ h)
      exact ⟨a, b⟩
    · have hv : el0 E k = false := by
        unfold el0
        rw [h32, hn]
        rfl
      have e : edgeF E k = (false, E) := by simp [edgeF, h0, hv]
      rw [e]
      simp only [e]
      refine ⟨trivial, ?_⟩
      rw [h32, h0]
      rfl
  · obtain ⟨a, b, c⟩ := one E h hn h1 h2
    rw [c]
    refine ⟨rfl, ?_⟩
    have : edgeF (edgeF E k).2 k = (false, (edgeF E k).2) := by
      rcases hq : edgeF (edgeF E k).2 k with ⟨d, Q⟩
      rw [hq] at a c
      have hd : d = false := a
      subst hd
      have : Q = (edgeF E k).2 := by
        have := edge_stuck (B := (edgeF E k).2) (k := k) (by rw [hq])
        rw [hq] at this
        cases this
        rfl
      rw [this]
    rw [this] at b
    exact b

/-! ### EdgeHeard -/
def eh0 (B : Br) (k : Nat) (m s : Int) : Br := (((B.setp k 2 (.bool true)).setp k 32 (.bool false)).setp k 6 (.int .i64 m)).setp k 17 (.int .i64 s)
section
variable (B : Br) (k : Nat) (h : k * 89 + 89 ≤ B.ps.length)
include h
theorem eh0_0 (m : Int) : edgeF (eh0 B k m 0) k = (true, edgeOff (eh0 B k m 0) k) := by
  have e17 : (eh0 B k m 0).gi k 17 = 0 := by (unfold eh0; rw [gi_setp_same _ _ _ _ _ (by simp only [len_setp]; omega)])
  have e32 : (eh0 B k m 0).gb k 32 = false := by (unfold eh0; rw [gb_setp_ne _ _ _ _ _ (by decide), gb_setp_ne _ _ _ _ _ (by decide), gb_setp_same _ _ _ _ (by simp only [len_setp]; omega)])
  simp [edgeF, e17, el0, e32]
theorem eh0_1 (m : Int) (hm : m ≠ 0) : edgeF (eh0 B k m 1) k = (false, eh0 B k m 1) := by
  have e17 : (eh0 B k m 1).gi k 17 = 1 := by (unfold eh0; rw [gi_setp_same _ _ _ _ _ (by simp only [len_setp]; omega)])
  have e2 : (eh0 B k m 1).gb k 2 = true := by (unfold eh0; rw [gb_setp_ne _ _ _ _ _ (by decide), gb_setp_ne _ _ _ _ _ (by decide), gb_setp_ne _ _ _ _ _ (by decide), gb_setp_same _ _ _ _ (by omega)])
  have e6 : (eh0 B k m 1).gi k 6 = m := by (unfold eh0; rw [gi_setp_ne _ _ _ _ _ (by decide), gi_setp_same _ _ _ _ _ (by simp only [len_setp]; omega)])
  simp [edgeF, e17, el1, e2, e6, hm]
theorem eh1 (m : Int) (hm : m ≠ 0) : edgeF (edgeOff (eh0 B k m 0) k) k = (false, edgeOff (eh0 B k m 0) k) := by
  have e17 : (edgeOff (eh0 B k m 0) k).gi k 17 = 1 := by (unfold edgeOff eh0; rw [gi_setp_same _ _ _ _ _ (by simp only [len_setp]; omega)])
  have e2 : (edgeOff (eh0 B k m 0) k).gb k 2 = true := by (unfold edgeOff eh0; rw [gb_setp_ne _ _ _ _ _ (by decide), gb_setp_ne _ _ _ _ _ (by decide), gb_setp_ne _ _ _ _ _ (by decide), gb_setp_ne _ _ _ _ _ (by decide), gb_setp_ne _ _ _ _ _ (by decide), gb_setp_same _ _ _ _ (by omega)])
  have e6 : (edgeOff (eh0 B k m 0) k).gi k 6 = m := by (unfold edgeOff eh0; rw [gi_setp_ne _ _ _ _ _ (by decide), gi_setp_ne _ _ _ _ _ (by decide), gi_setp_ne _ _ _ _ _ (by decide), gi_setp_same _ _ _ _ _ (by simp only [len_setp]; omega)])
  simp [edgeF, e17, el1, e2, e6, hm]
theorem eh0_c32 (m s : Int) : (eh0 B k m s).gb k 32 = false := by (unfold eh0; rw [gb_setp_ne _ _ _ _ _ (by decide), gb_setp_ne _ _ _ _ _ (by decide), gb_setp_same _ _ _ _ (by simp only [len_setp]; omega)])
theorem eh0_c17 (m s : Int) : (eh0 B k m s).gi k 17 = s := by (unfold eh0; rw [gi_setp_same _ _ _ _ _ (by simp only [len_setp]; omega)])
theorem eh1_c32 (m s : Int) : (edgeOff (eh0 B k m s) k).gb k 32 = false := by (unfold edgeOff eh0; rw [gb_setp_ne _ _ _ _ _ (by decide), gb_setp_same _ _ _ _ (by simp only [len_setp]; omega)])
theorem eh1_c17 (m s : Int) : (edgeOff (eh0 B k m s) k).gi k 17 = 1 := by (unfold edgeOff eh0; rw [gi_setp_same _ _ _ _ _ (by simp only [len_setp]; omega)])
end

/-! ### EdgeHand -/
def ek0 (B : Br) (k : Nat) (s : Int) : Br := ((B.setp k 2 (.bool false)).setp k 5 (.bool false)).setp k 17 (.int .i64 s)
theorem ek_000_0 (B : Br) (k : Nat) (h : k * 89 + 89 ≤ B.ps.length) (ha : B.gb k 4 = false) (hv : B.gb k 32 = false) : edgeF (ek0 B k 0) k = (true, (edgeOff (ek0 B k 0) k)) := by
  have e17 : (ek0 B k 0).gi k 17 = 0 := by (unfold ek0; rw [gi_setp_same _ _ _ _ _ (by simp only [len_setp]; omega)])
  have e2 : (ek0 B k 0).gb k 2 = false := by (unfold ek0; rw [gb_setp_ne _ _ _ _ _ (by decide), gb_setp_ne _ _ _ _ _ (by decide), gb_setp_same _ _ _ _ (by omega)])
  have e5 : (ek0 B k 0).gb k 5 = false := by (unfold ek0; rw [gb_setp_ne _ _ _ _ _ (by decide), gb_setp_same _ _ _ _ (by simp only [len_setp]; omega)])
  have e4 : (ek0 B k 0).gb k 4 = false := by (unfold ek0; rw [gb_setp_ne _ _ _ _ _ (by decide), gb_setp_ne _ _ _ _ _ (by decide), gb_setp_ne _ _ _ _ _ (by decide)]; assumption)
  have e32 : (ek0 B k 0).gb k 32 = false := by (unfold ek0; rw [gb_setp_ne _ _ _ _ _ (by decide), gb_setp_ne _ _ _ _ _ (by decide), gb_setp_ne _ _ _ _ _ (by decide)]; assumption)
  simp [edgeF, el0, el1, e17, e2, e5, e4, e32]
theorem ek_000_1 (B : Br) (k : Nat) (h : k * 89 + 89 ≤ B.ps.length) (ha : B.gb k 4 = false) (hv : B.gb k 32 = false) : edgeF (edgeOff (ek0 B k 0) k) k = (false, (edgeOff (ek0 B k 0) k)) := by
  have e17 : (edgeOff (ek0 B k 0) k).gi k 17 = 1 := by (unfold edgeOff ek0; rw [gi_setp_same _ _ _ _ _ (by simp only [len_setp]; omega)])
  have e2 : (edgeOff (ek0 B k 0) k).gb k 2 = false := by (unfold edgeOff ek0; rw [gb_setp_ne _ _ _ _ _ (by decide), gb_setp_ne _ _ _ _ _ (by decide), gb_setp_ne _ _ _ _ _ (by decide), gb_setp_ne _ _ _ _ _ (by decide), gb_setp_same _ _ _ _ (by omega)])
  have e5 : (edgeOff (ek0 B k 0) k).gb k 5 = false := by (unfold edgeOff ek0; rw [gb_setp_ne _ _ _ _ _ (by decide), gb_setp_ne _ _ _ _ _ (by decide), gb_setp_ne _ _ _ _ _ (by decide), gb_setp_same _ _ _ _ (by simp only [len_setp]; omega)])
  have e4 : (edgeOff (ek0 B k 0) k).gb k 4 = false := by (unfold edgeOff ek0; rw [gb_setp_ne _ _ _ _ _ (by decide), gb_setp_ne _ _ _ _ _ (by decide), gb_setp_ne _ _ _ _ _ (by decide), gb_setp_ne _ _ _ _ _ (by decide), gb_setp_ne _ _ _ _ _ (by decide)]; assumption)
  have e32 : (edgeOff (ek0 B k 0) k).gb k 32 = false := by (unfold edgeOff ek0; rw [gb_setp_ne _ _ _ _ _ (by decide), gb_setp_same _ _ _ _ (by simp only [len_setp]; omega)])
  simp [edgeF, el0, el1, e17, e2, e5, e4, e32]
theorem ek_000_c17 (B : Br) (k : Nat) (h : k * 89 + 89 ≤ B.ps.length) (ha : B.gb k 4 = false) (hv : B.gb k 32 = false) : (edgeOff (ek0 B k 0) k).gi k 17 = 1 := by (unfold edgeOff ek0; rw [gi_setp_same _ _ _ _ _ (by simp only [len_setp]; omega)])
theorem ek_000_c4 (B : Br) (k : Nat) (h : k * 89 + 89 ≤ B.ps.length) (ha : B.gb k 4 = false) (hv : B.gb k 32 = false) : (edgeOff (ek0 B k 0) k).gb k 4 = false := by (unfold edgeOff ek0; rw [gb_setp_ne _ _ _ _ _ (by decide), gb_setp_ne _ _ _ _ _ (by decide), gb_setp_ne _ _ _ _ _ (by decide), gb_setp_ne _ _ _ _ _ (by decide), gb_setp_ne _ _ _ _ _ (by decide)]; assumption)
theorem ek_000_c32 (B : Br) (k : Nat) (h : k * 89 + 89 ≤ B.ps.length) (ha : B.gb k 4 = false) (hv : B.gb k 32 = false) : (edgeOff (ek0 B k 0) k).gb k 32 = false := by (unfold edgeOff ek0; rw [gb_setp_ne _ _ _ _ _ (by decide), gb_setp_same _ _ _ _ (by simp only [len_setp]; omega)])
theorem ek_001_0 (B : Br) (k : Nat) (h : k * 89 + 89 ≤ B.ps.length) (ha : B.gb k 4 = false) (hv : B.gb k 32 = true) : edgeF (ek0 B k 0) k = (true, (edgeOff (ek0 B k 0) k)) := by
  have e17 : (ek0 B k 0).gi k 17 = 0 := by (unfold ek0; rw [gi_setp_same _ _ _ _ _ (by simp only [len_setp]; omega)])
  have e2 : (ek0 B k 0).gb k 2 = false := by (unfold ek0; rw [gb_setp_ne _ _ _ _ _ (by decide), gb_setp_ne _ _ _ _ _ (by decide), gb_setp_same _ _ _ _ (by omega)])
  have e5 : (ek0 B k 0).gb k 5 = false := by (unfold ek0; rw [gb_setp_ne _ _ _ _ _ (by decide), gb_setp_same _ _ _ _ (by simp only [len_setp]; omega)])
  have e4 : (ek0 B k 0).gb k 4 = false := by (unfold ek0; rw [gb_setp_ne _ _ _ _ _ (by decide), gb_setp_ne _ _ _ _ _ (by decide), gb_setp_ne _ _ _ _ _ (by decide)]; assumption)
  have e32 : (ek0 B k 0).gb k 32 = true := by (unfold ek0; rw [gb_setp_ne _ _ _ _ _ (by decide), gb_setp_ne _ _ _ _ _ (by decide), gb_setp_ne _ _ _ _ _ (by decide)]; assumption)
  simp [edgeF, el0, el1, e17, e2, e5, e4, e32]
theorem ek_001_1 (B : Br) (k : Nat) (h : k * 89 + 89 ≤ B.ps.length) (ha : B.gb k 4 = false) (hv : B.gb k 32 = true) : edgeF (edgeOff (ek0 B k 0) k) k = (false, (edgeOff (ek0 B k 0) k)) := by
  have e17 : (edgeOff (ek0 B k 0) k).gi k 17 = 1 := by (unfold edgeOff ek0; rw [gi_setp_same _ _ _ _ _ (by simp only [len_setp]; omega)])
  have e2 : (edgeOff (ek0 B k 0) k).gb k 2 = false := by (unfold edgeOff ek0; rw [gb_setp_ne _ _ _ _ _ (by decide), gb_setp_ne _ _ _ _ _ (by decide), gb_setp_ne _ _ _ _ _ (by decide), gb_setp_ne _ _ _ _ _ (by decide), gb_setp_same _ _ _ _ (by omega)])
  have e5 : (edgeOff (ek0 B k 0) k).gb k 5 = false := by (unfold edgeOff ek0; rw [gb_setp_ne _ _ _ _ _ (by decide), gb_setp_ne _ _ _ _ _ (by decide), gb_setp_ne _ _ _ _ _ (by decide), gb_setp_same _ _ _ _ (by simp only [len_setp]; omega)])
  have e4 : (edgeOff (ek0 B k 0) k).gb k 4 = false := by (unfold edgeOff ek0; rw [gb_setp_ne _ _ _ _ _ (by decide), gb_setp_ne _ _ _ _ _ (by decide), gb_setp_ne _ _ _ _ _ (by decide), gb_setp_ne _ _ _ _ _ (by decide), gb_setp_ne _ _ _ _ _ (by decide)]; assumption)
  have e32 : (edgeOff (ek0 B k 0) k).gb k 32 = false := by (unfold edgeOff ek0; rw [gb_setp_ne _ _ _ _ _ (by decide), gb_setp_same _ _ _ _ (by simp only [len_setp]; omega)])
  simp [edgeF, el0, el1, e17, e2, e5, e4, e32]
theorem ek_001_c17 (B : Br) (k : Nat) (h : k * 89 + 89 ≤ B.ps.length) (ha : B.gb k 4 = false) (hv : B.gb k 32 = true) : (edgeOff (ek0 B k 0) k).gi k 17 = 1 := by (unfold edgeOff ek0; rw [gi_setp_same _ _ _ _ _ (by simp only [len_setp]; omega)])
theorem ek_001_c4 (B : Br) (k : Nat) (h : k * 89 + 89 ≤ B.ps.length) (ha : B.gb k 4 = false) (hv : B.gb k 32 = true) : (edgeOff (ek0 B k 0) k).gb k 4 = false := by (unfold edgeOff ek0; rw [gb_setp_ne _ _ _ _ _ (by decide), gb_setp_ne _ _ _ _ _ (by decide), gb_setp_ne _ _ _ _ _ (by decide), gb_setp_ne _ _ _ _ _ (by decide), gb_setp_ne _ _ _ _ _ (by decide)]; assumption)
theorem ek_001_c32 (B : Br) (k : Nat) (h : k * 89 + 89 ≤ B.ps.length) (ha : B.gb k 4 = false) (hv : B.gb k 32 = true) : (edgeOff (ek0 B k 0) k).gb k 32 = false := by (unfold edgeOff ek0; rw [gb_setp_ne _ _ _ _ _ (by decide), gb_setp_same _ _ _ _ (by simp only [len_setp]; omega)])
theorem ek_010_0 (B : Br) (k : Nat) (h : k * 89 + 89 ≤ B.ps.length) (ha : B.gb k 4 = true) (hv : B.gb k 32 = false) : edgeF (ek0 B k 0) k = (true, (edgeOff (ek0 B k 0) k)) := by
  have e17 : (ek0 B k 0).gi k 17 = 0 := by (unfold ek0; rw [gi_setp_same _ _ _ _ _ (by simp only [len_setp]; omega)])
  have e2 : (ek0 B k 0).gb k 2 = false := by (unfold ek0; rw [gb_setp_ne _ _ _ _ _ (by decide), gb_setp_ne _ _ _ _ _ (by decide), gb_setp_same _ _ _ _ (by omega)])
  have e5 : (ek0 B k 0).gb k 5 = false := by (unfold ek0; rw [gb_setp_ne _ _ _ _ _ (by decide), gb_setp_same _ _ _ _ (by simp only [len_setp]; omega)])
  have e4 : (ek0 B k 0).gb k 4 = true := by (unfold ek0; rw [gb_setp_ne _ _ _ _ _ (by decide), gb_setp_ne _ _ _ _ _ (by decide), gb_setp_ne _ _ _ _ _ (by decide)]; assumption)
  have e32 : (ek0 B k 0).gb k 32 = false := by (unfold ek0; rw [gb_setp_ne _ _ _ _ _ (by decide), gb_setp_ne _ _ _ _ _ (by decide), gb_setp_ne _ _ _ _ _ (by decide)]; assumption)
  simp [edgeF, el0, el1, e17, e2, e5, e4, e32]
theorem ek_010_1 (B : Br) (k : Nat) (h : k * 89 + 89 ≤ B.ps.length) (ha : B.gb k 4 = true) (hv : B.gb k 32 = false) : edgeF (edgeOff (ek0 B k 0) k) k = (true, (edgeOn (edgeOff (ek0 B k 0) k) k)) := by
  have e17 : (edgeOff (ek0 B k 0) k).gi k 17 = 1 := by (unfold edgeOff ek0; rw [gi_setp_same _ _ _ _ _ (by simp only [len_setp]; omega)])
  have e2 : (edgeOff (ek0 B k 0) k).gb k 2 = false := by (unfold edgeOff ek0; rw [gb_setp_ne _ _ _ _ _ (by decide), gb_setp_ne _ _ _ _ _ (by decide), gb_setp_ne _ _ _ _ _ (by decide), gb_setp_ne _ _ _ _ _ (by decide), gb_setp_same _ _ _ _ (by omega)])
  have e5 : (edgeOff (ek0 B k 0) k).gb k 5 = false := by (unfold edgeOff ek0; rw [gb_setp_ne _ _ _ _ _ (by decide), gb_setp_ne _ _ _ _ _ (by decide), gb_setp_ne _ _ _ _ _ (by decide), gb_setp_same _ _ _ _ (by simp only [len_setp]; omega)])
  have e4 : (edgeOff (ek0 B k 0) k).gb k 4 = true := by (unfold edgeOff ek0; rw [gb_setp_ne _ _ _ _ _ (by decide), gb_setp_ne _ _ _ _ _ (by decide), gb_setp_ne _ _ _ _ _ (by decide), gb_setp_ne _ _ _ _ _ (by decide), gb_setp_ne _ _ _ _ _ (by decide)]; assumption)
  have e32 : (edgeOff (ek0 B k 0) k).gb k 32 = false := by (unfold edgeOff ek0; rw [gb_setp_ne _ _ _ _ _ (by decide), gb_setp_same _ _ _ _ (by simp only [len_setp]; omega)])
  simp [edgeF, el0, el1, e17, e2, e5, e4, e32]
theorem ek_010_c17 (B : Br) (k : Nat) (h : k * 89 + 89 ≤ B.ps.length) (ha : B.gb k 4 = true) (hv : B.gb k 32 = false) : (edgeOn (edgeOff (ek0 B k 0) k) k).gi k 17 = 0 := by (unfold edgeOn edgeOff ek0; rw [gi_setp_same _ _ _ _ _ (by simp only [len_setp]; omega)])
theorem ek_010_c4 (B : Br) (k : Nat) (h : k * 89 + 89 ≤ B.ps.length) (ha : B.gb k 4 = true) (hv : B.gb k 32 = false) : (edgeOn (edgeOff (ek0 B k 0) k) k).gb k 4 = true := by (unfold edgeOn edgeOff ek0; rw [gb_setp_ne _ _ _ _ _ (by decide), gb_setp_ne _ _ _ _ _ (by decide), gb_setp_ne _ _ _ _ _ (by decide), gb_setp_ne _ _ _ _ _ (by decide), gb_setp_ne _ _ _ _ _ (by decide), gb_setp_ne _ _ _ _ _ (by decide), gb_setp_ne _ _ _ _ _ (by decide)]; assumption)
theorem ek_010_c32 (B : Br) (k : Nat) (h : k * 89 + 89 ≤ B.ps.length) (ha : B.gb k 4 = true) (hv : B.gb k 32 = false) : (edgeOn (edgeOff (ek0 B k 0) k) k).gb k 32 = true := by (unfold edgeOn edgeOff ek0; rw [gb_setp_ne _ _ _ _ _ (by decide), gb_setp_same _ _ _ _ (by simp only [len_setp]; omega)])
theorem ek_011_0 (B : Br) (k : Nat) (h : k * 89 + 89 ≤ B.ps.length) (ha : B.gb k 4 = true) (hv : B.gb k 32 = true) : edgeF (ek0 B k 0) k = (false, (ek0 B k 0)) := by
  have e17 : (ek0 B k 0).gi k 17 = 0 := by (unfold ek0; rw [gi_setp_same _ _ _ _ _ (by simp only [len_setp]; omega)])
  have e2 : (ek0 B k 0).gb k 2 = false := by (unfold ek0; rw [gb_setp_ne _ _ _ _ _ (by decide), gb_setp_ne _ _ _ _ _ (by decide), gb_setp_same _ _ _ _ (by omega)])
  have e5 : (ek0 B k 0).gb k 5 = false := by (unfold ek0; rw [gb_setp_ne _ _ _ _ _ (by decide), gb_setp_same _ _ _ _ (by simp only [len_setp]; omega)])
  have e4 : (ek0 B k 0).gb k 4 = true := by (unfold ek0; rw [gb_setp_ne _ _ _ _ _ (by decide), gb_setp_ne _ _ _ _ _ (by decide), gb_setp_ne _ _ _ _ _ (by decide)]; assumption)
  have e32 : (ek0 B k 0).gb k 32 = true := by (unfold ek0; rw [gb_setp_ne _ _ _ _ _ (by decide), gb_setp_ne _ _ _ _ _ (by decide), gb_setp_ne _ _ _ _ _ (by decide)]; assumption)
  simp [edgeF, el0, el1, e17, e2, e5, e4, e32]
theorem ek_011_1 (B : Br) (k : Nat) (h : k * 89 + 89 ≤ B.ps.length) (ha : B.gb k 4 = true) (hv : B.gb k 32 = true) : edgeF (ek0 B k 0) k = (false, (ek0 B k 0)) := by
  have e17 : (ek0 B k 0).gi k 17 = 0 := by (unfold ek0; rw [gi_setp_same _ _ _ _ _ (by simp only [len_setp]; omega)])
  have e2 : (ek0 B k 0).gb k 2 = false := by (unfold ek0; rw [gb_setp_ne _ _ _ _ _ (by decide), gb_setp_ne _ _ _ _ _ (by decide), gb_setp_same _ _ _ _ (by omega)])
  have e5 : (ek0 B k 0).gb k 5 = false := by (unfold ek0; rw [gb_setp_ne _ _ _ _ _ (by decide), gb_setp_same _ _ _ _ (by simp only [len_setp]; omega)])
  have e4 : (ek0 B k 0).gb k 4 = true := by (unfold ek0; rw [gb_setp_ne _ _ _ _ _ (by decide), gb_setp_ne _ _ _ _ _ (by decide), gb_setp_ne _ _ _ _ _ (by decide)]; assumption)
  have e32 : (ek0 B k 0).gb k 32 = true := by (unfold ek0; rw [gb_setp_ne _ _ _ _ _ (by decide), gb_setp_ne _ _ _ _ _ (by decide), gb_setp_ne _ _ _ _ _ (by decide)]; assumption)
  simp [edgeF, el0, el1, e17, e2, e5, e4, e32]
theorem ek_011_c17 (B : Br) (k : Nat) (h : k * 89 + 89 ≤ B.ps.length) (ha : B.gb k 4 = true) (hv : B.gb k 32 = true) : (ek0 B k 0).gi k 17 = 0 := by (unfold ek0; rw [gi_setp_same _ _ _ _ _ (by simp only [len_setp]; omega)])
theorem ek_011_c4 (B : Br) (k : Nat) (h : k * 89 + 89 ≤ B.ps.length) (ha : B.gb k 4 = true) (hv : B.gb k 32 = true) : (ek0 B k 0).gb k 4 = true := by (unfold ek0; rw [gb_setp_ne _ _ _ _ _ (by decide), gb_setp_ne _ _ _ _ _ (by decide), gb_setp_ne _ _ _ _ _ (by decide)]; assumption)
theorem ek_011_c32 (B : Br) (k : Nat) (h : k * 89 + 89 ≤ B.ps.length) (ha : B.gb k 4 = true) (hv : B.gb k 32 = true) : (ek0 B k 0).gb k 32 = true := by (unfold ek0; rw [gb_setp_ne _ _ _ _ _ (by decide), gb_setp_ne _ _ _ _ _ (by decide), gb_setp_ne _ _ _ _ _ (by decide)]; assumption)
theorem ek_100_0 (B : Br) (k : Nat) (h : k * 89 + 89 ≤ B.ps.length) (ha : B.gb k 4 = false) (hv : B.gb k 32 = false) : edgeF (ek0 B k 1) k = (false, (ek0 B k 1)) := by
  have e17 : (ek0 B k 1).gi k 17 = 1 := by (unfold ek0; rw [gi_setp_same _ _ _ _ _ (by simp only [len_setp]; omega)])
  have e2 : (ek0 B k 1).gb k 2 = false := by (unfold ek0; rw [gb_setp_ne _ _ _ _ _ (by decide), gb_setp_ne _ _ _ _ _ (by decide), gb_setp_same _ _ _ _ (by omega)])
  have e5 : (ek0 B k 1).gb k 5 = false := by (unfold ek0; rw [gb_setp_ne _ _ _ _ _ (by decide), gb_setp_same _ _ _ _ (by simp only [len_setp]; omega)])
  have e4 : (ek0 B k 1).gb k 4 = false := by (unfold ek0; rw [gb_setp_ne _ _ _ _ _ (by decide), gb_setp_ne _ _ _ _ _ (by decide), gb_setp_ne _ _ _ _ _ (by decide)]; assumption)
  have e32 : (ek0 B k 1).gb k 32 = false := by (unfold ek0; rw [gb_setp_ne _ _ _ _ _ (by decide), gb_setp_ne _ _ _ _ _ (by decide), gb_setp_ne _ _ _ _ _ (by decide)]; assumption)
  simp [edgeF, el0, el1, e17, e2, e5, e4, e32]
theorem ek_100_1 (B : Br) (k : Nat) (h : k * 89 + 89 ≤ B.ps.length) (ha : B.gb k 4 = false) (hv : B.gb k 32 = false) : edgeF (ek0 B k 1) k = (false, (ek0 B k 1)) := by
  have e17 : (ek0 B k 1).gi k 17 = 1 := by (unfold ek0; rw [gi_setp_same _ _ _ _ _ (by simp only [len_setp]; omega)])
  have e2 : (ek0 B k 1).gb k 2 = false := by (unfold ek0; rw [gb_setp_ne _ _ _ _ _ (by decide), gb_setp_ne _ _ _ _ _ (by decide), gb_setp_same _ _ _ _ (by omega)])
  have e5 : (ek0 B k 1).gb k 5 = false := by (unfold ek0; rw [gb_setp_ne _ _ _ _ _ (by decide), gb_setp_same _ _ _ _ (by simp only [len_setp]; omega)])
  have e4 : (ek0 B k 1).gb k 4 = false := by (unfold ek0; rw [gb_setp_ne _ _ _ _ _ (by decide), gb_setp_ne _ _ _ _ _ (by decide), gb_setp_ne _ _ _ _ _ (by decide)]; assumption)
  have e32 : (ek0 B k 1).gb k 32 = false := by (unfold ek0; rw [gb_setp_ne _ _ _ _ _ (by decide), gb_setp_ne _ _ _ _ _ (by decide), gb_setp_ne _ _ _ _ _ (by decide)]; assumption)
  simp [edgeF, el0, el1, e17, e2, e5, e4, e32]
theorem ek_100_c17 (B : Br) (k : Nat) (h : k * 89 + 89 ≤ B.ps.length) (ha : B.gb k 4 = false) (hv : B.gb k 32 = false) : (ek0 B k 1).gi k 17 = 1 := by (unfold ek0; rw [gi_setp_same _ _ _ _ _ (by simp only [len_setp]; omega)])
theorem ek_100_c4 (B : Br) (k : Nat) (h : k * 89 + 89 ≤ B.ps.length) (ha : B.gb k 4 = false) (hv : B.gb k 32 = false) : (ek0 B k 1).gb k 4 = false := by (unfold ek0; rw [gb_setp_ne _ _ _ _ _ (by decide), gb_setp_ne _ _ _ _ _ (by decide), gb_setp_ne _ _ _ _ _ (by decide)]; assumption)
theorem ek_100_c32 (B : Br) (k : Nat) (h : k * 89 + 89 ≤ B.ps.length) (ha : B.gb k 4 = false) (hv : B.gb k 32 = false) : (ek0 B k 1).gb k 32 = false := by (unfold ek0; rw [gb_setp_ne _ _ _ _ _ (by decide), gb_setp_ne _ _ _ _ _ (by decide), gb_setp_ne _ _ _ _ _ (by decide)]; assumption)
theorem ek_101_0 (B : Br) (k : Nat) (h : k * 89 + 89 ≤ B.ps.length) (ha : B.gb k 4 = false) (hv : B.gb k 32 = true) : edgeF (ek0 B k 1) k = (false, (ek0 B k 1)) := by
  have e17 : (ek0 B k 1).gi k 17 = 1 := by (unfold ek0; rw [gi_setp_same _ _ _ _ _ (by simp only [len_setp]; omega)])
  have e2 : (ek0 B k 1).gb k 2 = false := by (unfold ek0; rw [gb_setp_ne _ _ _ _ _ (by decide), gb_setp_ne _ _ _ _ _ (by decide), gb_setp_same _ _ _ _ (by omega)])
  have e5 : (ek0 B k 1).gb k 5 = false := by (unfold ek0; rw [gb_setp_ne _ _ _ _ _ (by decide), gb_setp_same _ _ _ _ (by simp only [len_setp]; omega)])
  have e4 : (ek0 B k 1).gb k 4 = false := by (unfold ek0; rw [gb_setp_ne _ _ _ _ _ (by decide), gb_setp_ne _ _ _ _ _ (by decide), gb_setp_ne _ _ _ _ _ (by decide)]; assumption)
  have e32 : (ek0 B k 1).gb k 32 = true := by (unfold ek0; rw [gb_setp_ne _ _ _ _ _ (by decide), gb_setp_ne _ _ _ _ _ (by decide), gb_setp_ne _ _ _ _ _ (by decide)]; assumption)
  simp [edgeF, el0, el1, e17, e2, e5, e4, e32]
theorem ek_101_1 (B : Br) (k : Nat) (h : k * 89 + 89 ≤ B.ps.length) (ha : B.gb k 4 = false) (hv : B.gb k 32 = true) : edgeF (ek0 B k 1) k = (false, (ek0 B k 1)) := by
  have e17 : (ek0 B k 1).gi k 17 = 1 := by (unfold ek0; rw [gi_setp_same _ _ _ _ _ (by simp only [len_setp]; omega)])
  have e2 : (ek0 B k 1).gb k 2 = false := by (unfold ek0; rw [gb_setp_ne _ _ _ _ _ (by decide), gb_setp_ne _ _ _ _ _ (by decide), gb_setp_same _ _ _ _ (by omega)])
  have e5 : (ek0 B k 1).gb k 5 = false := by (unfold ek0; rw [gb_setp_ne _ _ _ _ _ (by decide), gb_setp_same _ _ _ _ (by simp only [len_setp]; omega)])
  have e4 : (ek0 B k 1).gb k 4 = false := by (unfold ek0; rw [gb_setp_ne _ _ _ _ _ (by decide), gb_setp_ne _ _ _ _ _ (by decide), gb_setp_ne _ _ _ _ _ (by decide)]; assumption)
  have e32 : (ek0 B k 1).gb k 32 = true := by (unfold ek0; rw [gb_setp_ne _ _ _ _ _ (by decide), gb_setp_ne _ _ _ _ _ (by decide), gb_setp_ne _ _ _ _ _ (by decide)]; assumption)
  simp [edgeF, el0, el1, e17, e2, e5, e4, e32]
theorem ek_101_c17 (B : Br) (k : Nat) (h : k * 89 + 89 ≤ B.ps.length) (ha : B.gb k 4 = false) (hv : B.gb k 32 = true) : (ek0 B k 1).gi k 17 = 1 := by (unfold ek0; rw [gi_setp_same _ _ _ _ _ (by simp only [len_setp]; omega)])
theorem ek_101_c4 (B : Br) (k : Nat) (h : k * 89 + 89 ≤ B.ps.length) (ha : B.gb k 4 = false) (hv : B.gb k 32 = true) : (ek0 B k 1).gb k 4 = false := by (unfold ek0; rw [gb_setp_ne _ _ _ _ _ (by decide), gb_setp_ne _ _ _ _ _ (by decide), gb_setp_ne _ _ _ _ _ (by decide)]; assumption)
theorem ek_101_c32 (B : Br) (k : Nat) (h : k * 89 + 89 ≤ B.ps.length) (ha : B.gb k 4 = false) (hv : B.gb k 32 = true) : (ek0 B k 1).gb k 32 = true := by (unfold ek0; rw [gb_setp_ne _ _ _ _ _ (by decide), gb_setp_ne _ _ _ _ _ (by decide), gb_setp_ne _ _ _ _ _ (by decide)]; assumption)
theorem ek_110_0 (B : Br) (k : Nat) (h : k * 89 + 89 ≤ B.ps.length) (ha : B.gb k 4 = true) (hv : B.gb k 32 = false) : edgeF (ek0 B k 1) k = (true, (edgeOn (ek0 B k 1) k)) := by
  have e17 : (ek0 B k 1).gi k 17 = 1 := by (unfold ek0; rw [gi_setp_same _ _ _ _ _ (by simp only [len_setp]; omega)])
  have e2 : (ek0 B k 1).gb k 2 = false := by (unfold ek0; rw [gb_setp_ne _ _ _ _ _ (by decide), gb_setp_ne _ _ _ _ _ (by decide), gb_setp_same _ _ _ _ (by omega)])
  have e5 : (ek0 B k 1).gb k 5 = false := by (unfold ek0; rw [gb_setp_ne _ _ _ _ _ (by decide), gb_setp_same _ _ _ _ (by simp only [len_setp]; omega)])
  have e4 : (ek0 B k 1).gb k 4 = true := by (unfold ek0; rw [gb_setp_ne _ _ _ _ _ (by decide), gb_setp_ne _ _ _ _ _ (by decide), gb_setp_ne _ _ _ _ _ (by decide)]; assumption)
  have e32 : (ek0 B k 1).gb k 32 = false := by (unfold ek0; rw [gb_setp_ne _ _ _ _ _ (by decide), gb_setp_ne _ _ _ _ _ (by decide), gb_setp_ne _ _ _ _ _ (by decide)]; assumption)
  simp [edgeF, el0, el1, e17, e2, e5, e4, e32]
theorem ek_110_1 (B : Br) (k : Nat) (h : k * 89 + 89 ≤ B.ps.length) (ha : B.gb k 4 = true) (hv : B.gb k 32 = false) : edgeF (edgeOn (ek0 B k 1) k) k = (false, (edgeOn (ek0 B k 1) k)) := by
  have e17 : (edgeOn (ek0 B k 1) k).gi k 17 = 0 := by (unfold edgeOn ek0; rw [gi_setp_same _ _ _ _ _ (by simp only [len_setp]; omega)])
  have e2 : (edgeOn (ek0 B k 1) k).gb k 2 = false := by (unfold edgeOn ek0; rw [gb_setp_ne _ _ _ _ _ (by decide), gb_setp_ne _ _ _ _ _ (by decide), gb_setp_ne _ _ _ _ _ (by decide), gb_setp_ne _ _ _ _ _ (by decide), gb_setp_same _ _ _ _ (by omega)])
  have e5 : (edgeOn (ek0 B k 1) k).gb k 5 = false := by (unfold edgeOn ek0; rw [gb_setp_ne _ _ _ _ _ (by decide), gb_setp_ne _ _ _ _ _ (by decide), gb_setp_ne _ _ _ _ _ (by decide), gb_setp_same _ _ _ _ (by simp only [len_setp]; omega)])
  have e4 : (edgeOn (ek0 B k 1) k).gb k 4 = true := by (unfold edgeOn ek0; rw [gb_setp_ne _ _ _ _ _ (by decide), gb_setp_ne _ _ _ _ _ (by decide), gb_setp_ne _ _ _ _ _ (by decide), gb_setp_ne _ _ _ _ _ (by decide), gb_setp_ne _ _ _ _ _ (by decide)]; assumption)
  have e32 : (edgeOn (ek0 B k 1) k).gb k 32 = true := by (unfold edgeOn ek0; rw [gb_setp_ne _ _ _ _ _ (by decide), gb_setp_same _ _ _ _ (by simp only [len_setp]; omega)])
  simp [edgeF, el0, el1, e17, e2, e5, e4, e32]
theorem ek_110_c17 (B : Br) (k : Nat) (h : k * 89 + 89 ≤ B.ps.length) (ha : B.gb k 4 = true) (hv : B.gb k 32 = false) : (edgeOn (ek0 B k 1) k).gi k 17 = 0 := by (unfold edgeOn ek0; rw [gi_setp_same _ _ _ _ _ (by simp only [len_setp]; omega)])
theorem ek_110_c4 (B : Br) (k : Nat) (h : k * 89 + 89 ≤ B.ps.length) (ha : B.gb k 4 = true) (hv : B.gb k 32 = false) : (edgeOn (ek0 B k 1) k).gb k 4 = true := by (unfold edgeOn ek0; rw [gb_setp_ne _ _ _ _ _ (by decide), gb_setp_ne _ _ _ _ _ (by decide), gb_setp_ne _ _ _ _ _ (by decide), gb_setp_ne _ _ _ _ _ (by decide), gb_setp_ne _ _ _ _ _ (by decide)]; assumption)
theorem ek_110_c32 (B : Br) (k : Nat) (h : k * 89 + 89 ≤ B.ps.length) (ha : B.gb k 4 = true) (hv : B.gb k 32 = false) : (edgeOn (ek0 B k 1) k).gb k 32 = true := by (unfold edgeOn ek0; rw [gb_setp_ne _ _ _ _ _ (by decide), gb_setp_same _ _ _ _ (by simp only [len_setp]; omega)])
theorem ek_111_0 (B : Br) (k : Nat) (h : k * 89 + 89 ≤ B.ps.length) (ha : B.gb k 4 = true) (hv : B.gb k 32 = true) : edgeF (ek0 B k 1) k = (true, (edgeOn (ek0 B k 1) k)) := by
  have e17 : (ek0 B k 1).gi k 17 = 1 := by (unfold ek0; rw [gi_setp_same _ _ _ _ _ (by simp only [len_setp]; omega)])
  have e2 : (ek0 B k 1).gb k 2 = false := by (unfold ek0; rw [gb_setp_ne _ _ _ _ _ (by decide), gb_setp_ne _ _ _ _ _ (by decide), gb_setp_same _ _ _ _ (by omega)])
  have e5 : (ek0 B k 1).gb k 5 = false := by (unfold ek0; rw [gb_setp_ne _ _ _ _ _ (by decide), gb_setp_same _ _ _ _ (by simp only [len_setp]; omega)])
  have e4 : (ek0 B k 1).gb k 4 = true := by (unfold ek0; rw [gb_setp_ne _ _ _ _ _ (by decide), gb_setp_ne _ _ _ _ _ (by decide), gb_setp_ne _ _ _ _ _ (by decide)]; assumption)
  have e32 : (ek0 B k 1).gb k 32 = true := by (unfold ek0; rw [gb_setp_ne _ _ _ _ _ (by decide), gb_setp_ne _ _ _ _ _ (by decide), gb_setp_ne _ _ _ _ _ (by decide)]; assumption)
  simp [edgeF, el0, el1, e17, e2, e5, e4, e32]
theorem ek_111_1 (B : Br) (k : Nat) (h : k * 89 + 89 ≤ B.ps.length) (ha : B.gb k 4 = true) (hv : B.gb k 32 = true) : edgeF (edgeOn (ek0 B k 1) k) k = (false, (edgeOn (ek0 B k 1) k)) := by
  have e17 : (edgeOn (ek0 B k 1) k).gi k 17 = 0 := by (unfold edgeOn ek0; rw [gi_setp_same _ _ _ _ _ (by simp only [len_setp]; omega)])
  have e2 : (edgeOn (ek0 B k 1) k).gb k 2 = false := by (unfold edgeOn ek0; rw [gb_setp_ne _ _ _ _ _ (by decide), gb_setp_ne _ _ _ _ _ (by decide), gb_setp_ne _ _ _ _ _ (by decide), gb_setp_ne _ _ _ _ _ (by decide), gb_setp_same _ _ _ _ (by omega)])
  have e5 : (edgeOn (ek0 B k 1) k).gb k 5 = false := by (unfold edgeOn ek0; rw [gb_setp_ne _ _ _ _ _ (by decide), gb_setp_ne _ _ _ _ _ (by decide), gb_setp_ne _ _ _ _ _ (by decide), gb_setp_same _ _ _ _ (by simp only [len_setp]; omega)])
  have e4 : (edgeOn (ek0 B k 1) k).gb k 4 = true := by (unfold edgeOn ek0; rw [gb_setp_ne _ _ _ _ _ (by decide), gb_setp_ne _ _ _ _ _ (by decide), gb_setp_ne _ _ _ _ _ (by decide), gb_setp_ne _ _ _ _ _ (by decide), gb_setp_ne _ _ _ _ _ (by decide)]; assumption)
  have e32 : (edgeOn (ek0 B k 1) k).gb k 32 = true := by (unfold edgeOn ek0; rw [gb_setp_ne _ _ _ _ _ (by decide), gb_setp_same _ _ _ _ (by simp only [len_setp]; omega)])
  simp [edgeF, el0, el1, e17, e2, e5, e4, e32]
theorem ek_111_c17 (B : Br) (k : Nat) (h : k * 89 + 89 ≤ B.ps.length) (ha : B.gb k 4 = true) (hv : B.gb k 32 = true) : (edgeOn (ek0 B k 1) k).gi k 17 = 0 := by (unfold edgeOn ek0; rw [gi_setp_same _ _ _ _ _ (by simp only [len_setp]; omega)])
theorem ek_111_c4 (B : Br) (k : Nat) (h : k * 89 + 89 ≤ B.ps.length) (ha : B.gb k 4 = true) (hv : B.gb k 32 = true) : (edgeOn (ek0 B k 1) k).gb k 4 = true := by (unfold edgeOn ek0; rw [gb_setp_ne _ _ _ _ _ (by decide), gb_setp_ne _ _ _ _ _ (by decide), gb_setp_ne _ _ _ _ _ (by decide), gb_setp_ne _ _ _ _ _ (by decide), gb_setp_ne _ _ _ _ _ (by decide)]; assumption)
theorem ek_111_c32 (B : Br) (k : Nat) (h : k * 89 + 89 ≤ B.ps.length) (ha : B.gb k 4 = true) (hv : B.gb k 32 = true) : (edgeOn (ek0 B k 1) k).gb k 32 = true := by (unfold edgeOn ek0; rw [gb_setp_ne _ _ _ _ _ (by decide), gb_setp_same _ _ _ _ (by simp only [len_setp]; omega)])

theorem edge_back (B : Br) (k : Nat) (ho : B.ok) (hk : k < B.np) : ((edgeF B k).2.setp k 32 (.bool (B.gb k 32))).setp k 17 (.int .i64 (B.gi k 17)) = B := by
  have h89 := len89 ho hk
  have c17 := ho.gi hk 17 rfl
  have c32 := ho.gb hk 32 rfl
  have key : ∀ C : Br, C.hd = B.hd → C.np = B.np → C.no = B.no → C.os = B.os → C.nf = B.nf → C.fl = B.fl → C.ps.length = B.ps.length → (∀ i, i ≠ k * 89 + 17 → i ≠ k * 89 + 32 → C.ps[i]? = B.ps[i]?) →
      (C.setp k 32 (.bool (B.gb k 32))).setp k 17 (.int .i64 (B.gi k 17)) = B := by
    intro C h1 h2 h3 h4 h5 h6 hl hc
    refine Br.ext_ps h1 h2 (fun i => ?_) h3 h4 h5 h6
    show ((C.ps.set _ _).set _ _)[i]? = _
    by_cases e17 : i = k * 89 + 17
    · subst e17
      rw [c17, List.getElem?_set_self (by simp; omega)]
    · rw [List.getElem?_set_ne (by omega)]
      by_cases e32 : i = k * 89 + 32
      · subst e32
        rw [c32, List.getElem?_set_self (by omega)]
      · rw [List.getElem?_set_ne (by omega)]
        exact hc i e17 e32
  have st : ∀ (C : Br) (j : Nat) (v : Value), (j = 17 ∨ j = 32) → (∀ i, i ≠ k * 89 + 17 → i ≠ k * 89 + 32 → C.ps[i]? = B.ps[i]?) → (∀ i, i ≠ k * 89 + 17 → i ≠ k * 89 + 32 → (C.setp k j v).ps[i]? = B.ps[i]?) := by
    intro C j v hj hc i a b
    show (C.ps.set _ _)[i]? = _
    rw [List.getElem?_set_ne (by omega)]
    exact hc i a b
  have b0 : ∀ i, i ≠ k * 89 + 17 → i ≠ k * 89 + 32 → B.ps[i]? = B.ps[i]? := fun _ _ _ => rfl
  unfold edgeF
  split <;> (try split) <;> (try split)
  all_goals first
    | exact key B rfl rfl rfl rfl rfl rfl rfl b0
    | exact key (edgeOff B k) rfl rfl rfl rfl rfl rfl (by simp [edgeOff]) (st _ _ _ (by simp) (st _ _ _ (by simp) b0))
    | exact key (edgeOn B k) rfl rfl rfl rfl rfl rfl (by simp [edgeOn]) (st _ _ _ (by simp) (st _ _ _ (by simp) b0))

end Go.Proofs.Ytfbgianmcmgekaa
