/- What TopoQuiet sets, and what its steps keep. No statement is proved here. -/
import Derived.Test.YtpieamfpgfabgaaTopM
namespace Go.Proofs.Ytpieamfpgfabgaa
open Go.RowKit Go.BigFrame Go.WideShapes Go.ChangeShapes Go.Deep
set_option linter.unusedVariables false
set_option linter.unusedSimpArgs false

def tqs (B : Br) (k : Nat) (s : Int) : Br := ((B.setp k 21 (.int .i64 s)).setp k 32 (.bool true)).setp k 13 (.int .i64 0)
def tqv (k : Nat) (n : Nat) : Value := .bool ((fun n => decide ((n : Int) = (k : Int))) n)
def tqu (B : Br) (k : Nat) (s : Int) (n : Nat) : Br := (tqs B k s).upd 49 (tqv k) n
theorem tqs_np (B : Br) (k : Nat) (s : Int) : (tqs B k s).np = B.np := by unfold tqs; simp only [np_setp]
theorem tqs_hd (B : Br) (k : Nat) (s : Int) : (tqs B k s).hd = B.hd := by unfold tqs; simp only [hd_setp]
theorem tqs_nf (B : Br) (k : Nat) (s : Int) : (tqs B k s).nf = B.nf := by unfold tqs Br.setp; rfl
theorem tqs_len (B : Br) (k : Nat) (s : Int) : (tqs B k s).ps.length = B.ps.length := by unfold tqs; simp only [len_setp]
theorem tqu_np (B : Br) (k : Nat) (s : Int) (n : Nat) : (tqu B k s n).np = B.np := (upd_np _ _ _ n).trans (tqs_np B k s)
theorem tqu_hd (B : Br) (k : Nat) (s : Int) (n : Nat) : (tqu B k s n).hd = B.hd := (upd_hd _ _ _ n).trans (tqs_hd B k s)
theorem tqu_nf (B : Br) (k : Nat) (s : Int) (n : Nat) : (tqu B k s n).nf = B.nf := (upd_rest _ _ _ n).2.2.1.trans (tqs_nf B k s)
theorem tqu_ok {B : Br} {k : Nat} {s : Int} (ho : (tqs B k s).ok) {n : Nat} (hn : n ≤ B.np) : (tqu B k s n).ok :=
  upd_ok ho (by decide) (fun i c hc => by cases hc; exact ⟨_, rfl⟩) n (by rw [tqs_np]; exact hn)
theorem tqs_ok {B : Br} (ho : B.ok) {k : Nat} (hk : k < B.np) (s : Int) : (tqs B k (s % 3)).ok :=
  (((ho.setI (k := k) hk 21 .i64 (s % 3) rfl (by simp [Lit.wf, IntKind.min, IntKind.max, IntKind.signed, IntKind.bits]; omega)).setB (k := k) hk 32 true rfl).setI (k := k) hk 13 .i64 0 rfl (by decide))
structure TQ (B : Br) (k : Nat) : Prop where
  c32 : B.gb k 32 = true
  c13 : B.gi k 13 = 0
  oth : ∀ n, n < B.np → n ≠ k → B.gb n 49 = false
theorem TQ.setp {B : Br} {k : Nat} (h : TQ B k) (j : Nat) (v : Value) (hj : j < 89) (h1 : j ≠ 32) (h2 : j ≠ 13) : TQ (B.setp k j v) k :=
  ⟨(gb_setp_ne _ _ _ _ _ h1).trans h.c32, (gi_setp_ne _ _ _ _ _ h2).trans h.c13, fun n hn hne => (gb_setp_port _ _ (Ne.symm hne) hj (by decide)).trans (h.oth n hn hne)⟩
theorem TQ.set13 {B : Br} {k : Nat} (h : TQ B k) (hl : k * 89 + 89 ≤ B.ps.length) : TQ (B.setp k 13 (.int .i64 0)) k :=
  ⟨(gb_setp_ne _ _ _ _ _ (by decide)).trans h.c32, gi_setp_same _ _ _ _ _ (by omega), fun n hn hne => (gb_setp_port _ _ (Ne.symm hne) (by decide) (by decide)).trans (h.oth n hn hne)⟩
theorem TQ.flush {B : Br} {k : Nat} (h : TQ B k) : TQ (B.flush k) k := ⟨h.c32, h.c13, h.oth⟩
theorem tqu_TQ {B : Br} (k : Nat) (s : Int) (hs : (tqs B k s).ok) (hk : k < B.np) : TQ (tqu B k s B.np) k := by
  have hl : B.np * 89 ≤ (tqs B k s).ps.length := by rw [hs.len, tqs_np]; exact Nat.le_refl _
  have h89 : k * 89 + 89 ≤ B.ps.length := by rw [← tqs_len B k s]; omega
  unfold tqu
  refine ⟨?_, ?_, fun n hn hne => ?_⟩
  · rw [upd_gb_ne _ (by decide) _ hl (by decide) (by decide)]
    unfold tqs
    rw [gb_setp_ne _ _ _ _ _ (by decide), gb_setp_same _ _ _ _ (by simp only [len_setp]; omega)]
  · rw [upd_gi_ne _ (by decide) _ hl (by decide) (by decide)]
    unfold tqs
    rw [gi_setp_same _ _ _ _ _ (by simp only [len_setp]; omega)]
  · rw [upd_np, tqs_np] at hn
    refine (upd_gb (tqs B k s) (j := 49) (by decide) (fun n => decide ((n : Int) = (k : Int))) hl hn).trans ?_
    simp
    omega
theorem TQ.act1 {B : Br} {k : Nat} (h : TQ B k) : act1 B k ≠ 1 := by
  unfold Go.Proofs.Ytpieamfpgfabgaa.act1 learnSel
  rw [h.c32]
  simp
  split
  · simp
  · split <;> simp
theorem TQ.act2 {B : Br} {k : Nat} (h : TQ B k) : act2 B k = 1 := by
  unfold Go.Proofs.Ytpieamfpgfabgaa.act2 actSel
  rw [h.c32]
  simp
theorem TQ.forget {B : Br} {k : Nat} (h : TQ B k) : TQ (tforget B k) k :=
  ((((h.setp 39 (.bool false) (by decide) (by decide) (by decide)).setp 41 (.bool false) (by decide) (by decide) (by decide)).setp 40 (.bool false) (by decide) (by decide) (by decide)).setp 49 (.bool false) (by decide) (by decide) (by decide)).setp 21 (.int .i64 1) (by decide) (by decide) (by decide)
theorem TQ.leave {B : Br} {k : Nat} (h : TQ B k) (hl : k * 89 + 89 ≤ B.ps.length) : TQ (tleave B k) k :=
  (((h.setp 25 (.bool true) (by decide) (by decide) (by decide)).setp 48 (.bool false) (by decide) (by decide) (by decide)).set13 (by simp only [len_setp]; exact hl)).setp 21 (.int .i64 0) (by decide) (by decide) (by decide)
theorem TQ.step {B : Br} {k : Nat} (h : TQ B k) (hl : k * 89 + 89 ≤ B.ps.length) : TQ (topF B k).2 k := by
  unfold topF
  split
  · exact h.flush.setp 25 (.bool false) (by decide) (by decide) (by decide)
  · unfold topN
    by_cases h0 : B.gi k 21 = 0
    · rw [if_pos h0]
      cases B.gb k 28
      · exact h
      · exact h.forget
    rw [if_neg h0]
    by_cases h1 : B.gi k 21 = 1
    · rw [if_pos h1]
      rcases act1_cases B k with ha | ha | ha | ha
      · rw [ha]; exact h
      · exact absurd ha h.act1
      · rw [ha]; exact h.leave hl
      · rw [ha]; exact h.forget
    rw [if_neg h1]
    by_cases h2 : B.gi k 21 = 2
    · rw [if_pos h2, h.act2]
      exact h.forget
    rw [if_neg h2]
    exact h
theorem TQ.it {B : Br} (ho : B.ok) {k : Nat} (hk : k < B.np) (hn : B.np < 1000) (hT : TR (B.hi 2) (B.hi 3) (B.hi 4) (B.hi 5)) (h : TQ B k) : ∀ n, TQ (topIt B k n) k
  | 0 => h
  | n + 1 => by
    obtain ⟨i1, i2, i3, i4⟩ := topIt_inv ho hk hn hT n
    exact (TQ.it ho hk hn hT h n).step (len89 i1 (by rw [i2]; exact hk))
end Go.Proofs.Ytpieamfpgfabgaa
