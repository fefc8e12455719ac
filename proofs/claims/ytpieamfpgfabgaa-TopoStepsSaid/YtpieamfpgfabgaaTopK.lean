/- The machine of changes as one function; it ends. No statement is proved here. -/
import Derived.Test.YtpieamfpgfabgaaTopJ
namespace Go.Proofs.Ytpieamfpgfabgaa
open Go.RowKit Go.BigFrame Go.WideShapes Go.ChangeShapes Go.Deep
set_option linter.unusedVariables false
set_option linter.unusedSimpArgs false

def topF (B : Br) (k : Nat) : Bool × Br := if B.gb k 25 = true then (true, (B.flush k).setp k 25 (.bool false)) else topN B k
theorem top_stepW (w : World) (N X g k : Nat) (B : Br) (h : BrG w (fun n => N ≤ n ∧ n < w.heap.size) X g B) (ho : B.ok) (hk : k < B.np) (hn : B.np < 1000) (hT : TR (B.hi 2) (B.hi 3) (B.hi 4) (B.hi 5)) (hnf : B.nf ≤ 100000) :
    Calls Try.prog 21 #[.pointer (some ⟨X, 0, none⟩), .int .i64 k] w fun e w' => e = .returned (.bool (topF B k).1) ∧ BrG w' (fun n => N ≤ n ∧ n < w'.heap.size) X g (topF B k).2 ∧ Mut (fun n => N ≤ n) w w' := by
  have hX := h.F1
  unfold topF
  cases h25 : B.gb k 25
  · rw [if_neg (by simp)]
    refine (top_stepN w _ X g k B h ho hk hn hT (fun n hn' => hn'.2) h25).mono ?_
    rintro e w' ⟨he, hB, hm⟩
    exact ⟨he, hB.mono (fun n hn' => ⟨hn'.1, Nat.lt_of_lt_of_le hn'.2 hm.size⟩), hm.mono (fun n _ hn' => hn'.1)⟩
  · rw [if_pos rfl]
    refine (top_flush w _ X g k B h ho hk hn hT (fun n hn' => hn'.2) h25 hnf).mono ?_
    rintro e w' ⟨he, hB, hm⟩
    refine ⟨he, hB.mono (fun n hn' => ?_), hm.mono (fun n _ hn' => hn'.1)⟩
    have := hm.size
    rcases hn' with hn' | hn'
    · exact ⟨hn'.1, by omega⟩
    · have h1 := hX.1
      have h2 := hX.2
      exact ⟨by omega, hn'.2⟩

theorem tleave_ok {B : Br} (ho : B.ok) {k : Nat} (hk : k < B.np) : (tleave B k).ok := (((ho.setB hk 25 true rfl).setB (k := k) hk 48 false rfl).setI (k := k) hk 13 .i64 0 rfl (by decide)).setI (k := k) hk 21 .i64 0 rfl (by decide)
theorem tactiv_ok {B : Br} (ho : B.ok) {k : Nat} (hk : k < B.np) (hT : TR (B.hi 2) (B.hi 3) (B.hi 4) (B.hi 5)) : (tactiv B k).ok := by
  have h1 : (tcp (tbegin B k) k B.np).ok := tcp_ok (tbegin_ok ho hk hT) k B.np (by rw [tbegin_np]; exact Nat.le_refl _)
  have h2 : k < (tcp (tbegin B k) k B.np).np := by rw [tcp_np, tbegin_np]; exact hk
  exact (h1.setB h2 31 true rfl).setI (k := k) h2 21 .i64 2 rfl (by decide)
theorem tbegin_nf (B : Br) (k : Nat) : (tbegin B k).nf = B.nf := by
  unfold tbegin
  split
  · split <;> rfl
  · rfl
theorem tcp_nf (B : Br) (k n : Nat) : (tcp B k n).nf = B.nf := (tcp_rest B k n).2.2.1
/-- What a step keeps. -/
theorem topN_keeps {B : Br} (ho : B.ok) {k : Nat} (hk : k < B.np) (hT : TR (B.hi 2) (B.hi 3) (B.hi 4) (B.hi 5)) : (topN B k).2.ok ∧ (topN B k).2.np = B.np ∧ (topN B k).2.hd = B.hd ∧ (topN B k).2.nf = B.nf := by
  have f : (tforget B k).ok ∧ (tforget B k).np = B.np ∧ (tforget B k).hd = B.hd ∧ (tforget B k).nf = B.nf := ⟨tforget_ok ho hk, rfl, rfl, rfl⟩
  have b0 : B.ok ∧ B.np = B.np ∧ B.hd = B.hd ∧ B.nf = B.nf := ⟨ho, rfl, rfl, rfl⟩
  have l : (tleave B k).ok ∧ (tleave B k).np = B.np ∧ (tleave B k).hd = B.hd ∧ (tleave B k).nf = B.nf := ⟨tleave_ok ho hk, rfl, rfl, rfl⟩
  have a : (tactiv B k).ok ∧ (tactiv B k).np = B.np ∧ (tactiv B k).hd = B.hd ∧ (tactiv B k).nf = B.nf :=
    ⟨tactiv_ok ho hk hT, (tcp_np _ _ _).trans (tbegin_np B k), (tcp_hd _ _ _).trans (tbegin_hd B k), (tcp_nf _ _ _).trans (tbegin_nf B k)⟩
  have p : (tpass B k).ok ∧ (tpass B k).np = B.np ∧ (tpass B k).hd = B.hd ∧ (tpass B k).nf = B.nf := ⟨tpass_ok ho hk, tpass_np B k, tcp_hd _ _ _, tcp_nf _ _ _⟩
  have okb := tbegin_ok ho hk hT
  have hkb : k < (tbegin B k).np := by rw [tbegin_np]; exact hk
  have q : (tpass (tbegin B k) k).ok ∧ (tpass (tbegin B k) k).np = B.np ∧ (tpass (tbegin B k) k).hd = B.hd ∧ (tpass (tbegin B k) k).nf = B.nf :=
    ⟨tpass_ok okb hkb, (tpass_np _ _).trans (tbegin_np B k), (tcp_hd _ _ _).trans (tbegin_hd B k), (tcp_nf _ _ _).trans (tbegin_nf B k)⟩
  have s : (tspread B k).ok ∧ (tspread B k).np = B.np ∧ (tspread B k).hd = B.hd ∧ (tspread B k).nf = B.nf := ⟨tspread_ok ho hk hT, tbegin_np B k, tbegin_hd B k, tbegin_nf B k⟩
  have c : (tack B k).ok ∧ (tack B k).np = B.np ∧ (tack B k).hd = B.hd ∧ (tack B k).nf = B.nf := ⟨tack_ok ho hk, rfl, rfl, rfl⟩
  unfold topN
  by_cases h0 : B.gi k 21 = 0
  · rw [if_pos h0]
    cases B.gb k 28
    · exact b0
    · exact f
  rw [if_neg h0]
  by_cases h1 : B.gi k 21 = 1
  · rw [if_pos h1]
    rcases act1_cases B k with ha | ha | ha | ha <;> rw [ha]
    · exact b0
    · exact a
    · exact l
    · exact f
  rw [if_neg h1]
  by_cases h2 : B.gi k 21 = 2
  · rw [if_pos h2]
    rcases act2_cases B k with ha | ha | ha | ha | ha | ha <;> rw [ha]
    · exact b0
    · exact f
    · exact q
    · exact p
    · exact s
    · exact c
  rw [if_neg h2]
  exact b0
theorem topF_keeps {B : Br} (ho : B.ok) {k : Nat} (hk : k < B.np) (hn : B.np < 1000) (hT : TR (B.hi 2) (B.hi 3) (B.hi 4) (B.hi 5)) : (topF B k).2.ok ∧ (topF B k).2.np = B.np ∧ (topF B k).2.hd = B.hd ∧ (topF B k).2.nf ≤ B.nf + 1 := by
  unfold topF
  split
  · exact ⟨(flush_ok ho (by omega)).setB (k := k) hk 25 false rfl, rfl, rfl, Nat.le_refl _⟩
  · obtain ⟨a, b, c, d⟩ := topN_keeps ho hk hT
    exact ⟨a, b, c, by omega⟩

/-! ### It ends -/
def tm1 (cnt edge fwd lrn lrng tld : Bool) (m2 : Nat) : Nat := if (cnt && fwd && !edge) = true then 1 + m2 else tld.toNat + (if (!cnt && !lrn && !lrng) = true then 2 else 0)
def tm2 (cnt edge lrn lrng tc tcn ack prop : Bool) : Nat := if (!cnt || edge) = true then 1 + (if (!cnt && !lrn && !lrng) = true then 2 else 0) else (tcn || tc).toNat + (if prop = true then 2 else 0) + ack.toNat
def tcnt (B : Br) (k : Nat) : Bool := (B.gi k 87 == 3) || (B.gi k 87 == 4)
/-- How many steps there may be yet. -/
def topMu (B : Br) (k : Nat) : Nat :=
  (B.gb k 25).toNat + (if B.gi k 21 = 0 then (if B.gb k 28 = true then 1 + (tcnt B k && B.gb k 26 && !B.gb k 32).toNat else 0)
    else if B.gi k 21 = 1 then tm1 (tcnt B k) (B.gb k 32) (B.gb k 26) (B.gb k 28) (B.gb k 29) (toldB B k) (tm2 (tcnt B k) (B.gb k 32) (B.gb k 28) (B.gb k 29) (B.gb k 39) (B.gb k 41) (B.gb k 40) (B.gb k 49))
    else if B.gi k 21 = 2 then tm2 (tcnt B k) (B.gb k 32) (B.gb k 28) (B.gb k 29) (B.gb k 39) (B.gb k 41) (B.gb k 40) (B.gb k 49) else 0)
theorem tm2_le : ∀ c e l g t n a p, tm2 c e l g t n a p ≤ 4 := by decide
theorem tm1_le (c e f l g t : Bool) (m : Nat) (hm : m ≤ 4) : tm1 c e f l g t m ≤ 5 := by
  unfold tm1
  cases c <;> cases e <;> cases f <;> cases l <;> cases g <;> cases t <;> simp <;> omega
theorem topMu_le (B : Br) (k : Nat) : topMu B k ≤ 6 := by
  have h2 := tm2_le (tcnt B k) (B.gb k 32) (B.gb k 28) (B.gb k 29) (B.gb k 39) (B.gb k 41) (B.gb k 40) (B.gb k 49)
  have h1 := tm1_le (tcnt B k) (B.gb k 32) (B.gb k 26) (B.gb k 28) (B.gb k 29) (toldB B k) _ h2
  have h3 := Bool.toNat_le (B.gb k 25)
  have h4 := Bool.toNat_le (tcnt B k && B.gb k 26 && !B.gb k 32)
  unfold topMu
  repeat' split
  all_goals omega
/-- The cells of a port that the measure reads. -/
structure TC (B C : Br) (k : Nat) : Prop where
  c87 : C.gi k 87 = B.gi k 87
  c32 : C.gb k 32 = B.gb k 32
  c26 : C.gb k 26 = B.gb k 26
  c28 : C.gb k 28 = B.gb k 28
  c29 : C.gb k 29 = B.gb k 29
theorem TC.cnt {B C : Br} {k : Nat} (h : TC B C k) : tcnt C k = tcnt B k := by unfold tcnt; rw [h.c87]
theorem gb_at {B : Br} {k : Nat} (j j' : Nat) (z : Bool) (h : k * 89 + 89 ≤ B.ps.length) (hj : j < 89) : (B.setp k j (.bool z)).gb k j' = if j = j' then z else B.gb k j' := by
  split
  · rename_i e; subst e; exact gb_setp_same _ _ _ _ (by omega)
  · rename_i e; exact gb_setp_ne _ _ _ _ _ e
theorem gi_at {B : Br} {k : Nat} (j j' : Nat) (z : Int) (h : k * 89 + 89 ≤ B.ps.length) (hj : j < 89) : (B.setp k j (.int .i64 z)).gi k j' = if j = j' then z else B.gi k j' := by
  split
  · rename_i e; subst e; exact gi_setp_same _ _ _ _ _ (by omega)
  · rename_i e; exact gi_setp_ne _ _ _ _ _ e
theorem tcp_gb_k (B : Br) (k : Nat) {n : Nat} (h : n * 89 ≤ B.ps.length) {j : Nat} (hj : j < 89) : (tcp B k n).gb k j = B.gb k j := by
  unfold Br.gb
  rw [tcp_cell B k n h k j hj, if_neg (by omega)]
theorem tcp_gi_k (B : Br) (k : Nat) {n : Nat} (h : n * 89 ≤ B.ps.length) {j : Nat} (hj : j < 89) : (tcp B k n).gi k j = B.gi k j := by
  unfold Br.gi
  rw [tcp_cell B k n h k j hj, if_neg (by omega)]
theorem tbegin_gi2 (B : Br) (k j : Nat) (hj : j ≠ 31) (hj2 : j ≠ 13) : (tbegin B k).gi k j = B.gi k j := by
  unfold tbegin
  split
  · split
    · rw [gi_setp_ne _ _ _ _ _ (by omega), gi_setp_ne _ _ _ _ _ (by omega)]
    · rw [gi_setp_ne _ _ _ _ _ (by omega)]
  · rfl
theorem tbegin_len (B : Br) (k : Nat) : (tbegin B k).ps.length = B.ps.length := by
  unfold tbegin
  split
  · split <;> simp only [len_setp]
  · rfl
section
variable {B : Br} {k : Nat}
theorem mu_forget (h89 : k * 89 + 89 ≤ B.ps.length) : topMu (tforget B k) k = (B.gb k 25).toNat + tm1 (tcnt B k) (B.gb k 32) (B.gb k 26) (B.gb k 28) (B.gb k 29) false (tm2 (tcnt B k) (B.gb k 32) (B.gb k 28) (B.gb k 29) false false false false) := by
  have e : tcnt (tforget B k) k = tcnt B k := by unfold tcnt tforget; simp [gb_at, gi_at, gi_setp_ne, gb_setp_ne, len_setp, h89]
  unfold topMu toldB
  rw [e]
  unfold tforget
  simp [gb_at, gi_at, gi_setp_ne, gb_setp_ne, len_setp, h89]
theorem mu_leave (h89 : k * 89 + 89 ≤ B.ps.length) (hl : B.gb k 28 = false) : topMu (tleave B k) k = 1 := by
  unfold topMu tleave
  simp [gb_at, gi_at, gi_setp_ne, gb_setp_ne, len_setp, h89, hl]
theorem mu_activ (h89 : k * 89 + 89 ≤ B.ps.length) (hn : B.np * 89 ≤ B.ps.length) : topMu (tactiv B k) k = (B.gb k 25).toNat + tm2 (tcnt B k) (B.gb k 32) (B.gb k 28) (B.gb k 29) (B.gb k 39) (B.gb k 41) (B.gb k 40) (B.gb k 49) := by
  have hl : B.np * 89 ≤ (tbegin B k).ps.length := by rw [tbegin_len]; exact hn
  have h9 : k * 89 + 89 ≤ (tcp (tbegin B k) k B.np).ps.length := by rw [tcp_len, tbegin_len]; exact h89
  have gb : ∀ j, j < 89 → j ≠ 31 → j ≠ 13 → (tcp (tbegin B k) k B.np).gb k j = B.gb k j := fun j a b c => by rw [tcp_gb_k _ _ hl a, tbegin_gb k j b c]
  have gi : ∀ j, j < 89 → j ≠ 31 → j ≠ 13 → (tcp (tbegin B k) k B.np).gi k j = B.gi k j := fun j a b c => by rw [tcp_gi_k _ _ hl a, tbegin_gi2 B k j b c]
  unfold tactiv
  generalize tcp (tbegin B k) k B.np = C at *
  have e : tcnt ((C.setp k 31 (.bool true)).setp k 21 (.int .i64 2)) k = tcnt B k := by unfold tcnt; simp [gb_at, gi_at, gi_setp_ne, gb_setp_ne, len_setp, h9, gi]
  unfold topMu
  rw [e]
  simp [gb_at, gi_at, gi_setp_ne, gb_setp_ne, len_setp, h9, gb, gi]
theorem mu_ack (h89 : k * 89 + 89 ≤ B.ps.length) (hs : B.gi k 21 = 2) : topMu (tack B k) k = (B.gb k 25).toNat + tm2 (tcnt B k) (B.gb k 32) (B.gb k 28) (B.gb k 29) (B.gb k 39) (B.gb k 41) false (B.gb k 49) := by
  have e : tcnt (tack B k) k = tcnt B k := by unfold tcnt tack; simp [gb_at, gi_at, gi_setp_ne, gb_setp_ne, len_setp, h89]
  unfold topMu
  rw [e]
  unfold tack
  simp [gb_at, gi_at, gi_setp_ne, gb_setp_ne, len_setp, h89, hs]
theorem mu_spread (h89 : k * 89 + 89 ≤ B.ps.length) (hs : B.gi k 21 = 2) : topMu (tspread B k) k = 1 + tm2 (tcnt B k) (B.gb k 32) (B.gb k 28) (B.gb k 29) (B.gb k 39) (B.gb k 41) (B.gb k 40) false := by
  have h9 : k * 89 + 89 ≤ (tbegin B k).ps.length := by rw [tbegin_len]; exact h89
  have gb : ∀ j, j ≠ 31 → j ≠ 13 → (tbegin B k).gb k j = B.gb k j := fun j b c => tbegin_gb k j b c
  have gi : ∀ j, j ≠ 31 → j ≠ 13 → (tbegin B k).gi k j = B.gi k j := fun j b c => tbegin_gi2 B k j b c
  unfold tspread
  generalize tbegin B k = C at *
  have e : tcnt ((C.setp k 25 (.bool true)).setp k 49 (.bool false)) k = tcnt B k := by unfold tcnt; simp [gb_at, gi_at, gi_setp_ne, gb_setp_ne, len_setp, h9, gi]
  unfold topMu
  rw [e]
  simp [gb_at, gi_at, gi_setp_ne, gb_setp_ne, len_setp, h9, gb, gi, hs]
theorem mu_pass (h89 : k * 89 + 89 ≤ B.ps.length) (hn : B.np * 89 ≤ B.ps.length) (hs : B.gi k 21 = 2) : topMu (tpass B k) k = (B.gb k 25).toNat + tm2 (tcnt B k) (B.gb k 32) (B.gb k 28) (B.gb k 29) false false (B.gb k 40) (B.gb k 49) := by
  have hl : B.np * 89 ≤ (tpass0 B k).ps.length := by simp [tpass0]; exact hn
  have gb : ∀ j, j < 89 → (tcp (tpass0 B k) k B.np).gb k j = (tpass0 B k).gb k j := fun j a => tcp_gb_k _ _ hl a
  have gi : ∀ j, j < 89 → (tcp (tpass0 B k) k B.np).gi k j = (tpass0 B k).gi k j := fun j a => tcp_gi_k _ _ hl a
  have e : tcnt (tpass B k) k = tcnt B k := by unfold tcnt tpass; rw [gi 87 (by decide)]; unfold tpass0; simp [gb_at, gi_at, gi_setp_ne, gb_setp_ne, len_setp, h89]
  unfold topMu
  rw [e]
  unfold tpass
  rw [gb 25 (by decide), gb 28 (by decide), gb 26 (by decide), gb 32 (by decide), gb 29 (by decide), gb 39 (by decide), gb 41 (by decide), gb 40 (by decide), gb 49 (by decide), gi 21 (by decide)]
  unfold tpass0
  simp [gb_at, gi_at, gi_setp_ne, gb_setp_ne, len_setp, h89, hs]
theorem mu_flush (h89 : k * 89 + 89 ≤ B.ps.length) (h25 : B.gb k 25 = true) : topMu ((B.flush k).setp k 25 (.bool false)) k < topMu B k := by
  have h9 : k * 89 + 89 ≤ (B.flush k).ps.length := h89
  have gb : ∀ j, (B.flush k).gb k j = B.gb k j := fun _ => rfl
  have gi : ∀ j, (B.flush k).gi k j = B.gi k j := fun _ => rfl
  have e : tcnt ((B.flush k).setp k 25 (.bool false)) k = tcnt B k := by unfold tcnt; simp [gb_at, gi_at, gi_setp_ne, gb_setp_ne, len_setp, h9, gi]
  unfold topMu toldB
  rw [e]
  simp [gb_at, gi_at, gi_setp_ne, gb_setp_ne, len_setp, h9, gb, gi, h25]
end
end Go.Proofs.Ytpieamfpgfabgaa
