/- Role transitions by themselves: they end. No statement is proved here. -/
import Derived.Test.YtnblchilgaimhaaTrH
namespace Go.Proofs.Ytnblchilgaimhaa
open Go.RowKit Go.BigFrame Go.WideShapes Go.ChangeShapes Go.Deep
set_option linter.unusedVariables false
set_option linter.unusedSimpArgs false

theorem gb_at {B : Br} {k : Nat} (j j' : Nat) (z : Bool) (h : k * 89 + 89 ≤ B.ps.length) (hj : j < 89) : (B.setp k j (.bool z)).gb k j' = if j = j' then z else B.gb k j' := by
  split
  · rename_i e; subst e; exact gb_setp_same _ _ _ _ (by omega)
  · rename_i e; exact gb_setp_ne _ _ _ _ _ e
theorem gi_at {B : Br} {k : Nat} (j j' : Nat) (z : Int) (h : k * 89 + 89 ≤ B.ps.length) (hj : j < 89) : (B.setp k j (.int .i64 z)).gi k j' = if j = j' then z else B.gi k j' := by
  split
  · rename_i e; subst e; exact gi_setp_same _ _ _ _ _ (by omega)
  · rename_i e; exact gi_setp_ne _ _ _ _ _ e
theorem hi_upd (B : Br) (j : Nat) (v : Nat → Value) (n i : Nat) : (B.upd j v n).hi i = B.hi i := by unfold Br.hi; rw [upd_hd]
theorem hb_upd (B : Br) (j : Nat) (v : Nat → Value) (n i : Nat) : (B.upd j v n).hb i = B.hb i := by unfold Br.hb; rw [upd_hd]
/-- All ports' flag set, read at port k. -/
theorem gb_all {B : Br} (ho : B.ok) {k : Nat} (hk : k < B.np) (j j' : Nat) (z : Bool) (hj : j < 89) (hj' : j' < 89) : (B.upd j (fun _ => .bool z) B.np).gb k j' = if j = j' then z else B.gb k j' := by
  have hl : B.np * 89 ≤ B.ps.length := by rw [ho.len]; exact Nat.le_refl _
  split
  · rename_i e; subst e; exact upd_gb B hj (fun _ => z) hl hk
  · rename_i e; exact upd_gb_ne B hj _ hl hj' (fun h => e h.symm)
theorem gi_all {B : Br} (ho : B.ok) {k : Nat} (j j' : Nat) (z : Bool) (hj : j < 89) (hj' : j' < 89) (hne : j' ≠ j) : (B.upd j (fun _ => .bool z) B.np).gi k j' = B.gi k j' :=
  upd_gi_ne B hj _ (by rw [ho.len]; exact Nat.le_refl _) hj' hne

def mu2 (p a f r l d : Bool) : Nat := (p && !a).toNat + (p || !a).toNat + (!f && !r).toNat + (!l).toNat + (!f).toNat + (r || !f).toNat + d.toNat
def mu3 (p sd sy r z d l f : Bool) : Nat := (!p).toNat + (!sd || sy).toNat + r.toNat + (if (d || (((sy && !sd) || (r && !z)) && (l || f))) = true then 3 else 0) + (!l).toNat + (!f).toNat
def mu5 (p a b u : Bool) : Nat := (p && !a).toNat + (p || !a).toNat + b.toNat + (u || (p && !a)).toNat
theorem mu2_le : ∀ p a f r l d, mu2 p a f r l d ≤ 7 := by decide
theorem mu3_le : ∀ p sd sy r z d l f, mu3 p sd sy r z d l f ≤ 8 := by decide
theorem mu5_le : ∀ p a b u, mu5 p a b u ≤ 4 := by decide
theorem mu2_11 : ∀ p a f r l d, (p && !a) = true → mu2 false a f r l d < mu2 p a f r l d := by decide
theorem mu2_12 : ∀ p a f r l d, (p || !a) = true → mu2 false true f r l d < mu2 p a f r l d := by decide
theorem mu2_13 : ∀ p a f r l d, (!f && !r) = true → mu2 p a f true l d < mu2 p a f r l d := by decide
theorem mu2_14 : ∀ p a f r l d, l = false → mu2 p a f r true d < mu2 p a f r l d := by decide
theorem mu2_15 : ∀ p a f r l d, f = false → mu2 p a true r l d < mu2 p a f r l d := by decide
theorem mu2_16 : ∀ p a f r l d, (r && f) = true → mu2 p a f false l d < mu2 p a f r l d := by decide
theorem mu2_17 : ∀ p a f r l d, d = true → mu2 p a f r l false < mu2 p a f r l d := by decide
theorem mu3_18 : ∀ p sd sy r z d l f, p = false → mu3 true sd sy r z d l f < mu3 p sd sy r z d l f := by decide
theorem mu3_19 : ∀ p sd sy r z d l f, (!sd || sy) = true → mu3 p true false r true d l f < mu3 p sd sy r z d l f := by decide
theorem mu3_20 : ∀ p sd sy r z d l f, r = true → mu3 p sd sy false z d l f < mu3 p sd sy r z d l f := by decide
theorem mu3_21 : ∀ p sd sy r z d l f, (l || f) = true → ((sy && !sd) || (r && !z) || d) = true → mu3 p sd sy r z false false false < mu3 p sd sy r z d l f := by decide
theorem mu3_22 : ∀ p sd sy r z d l f, l = false → ((!r || z) && !sy) = true → mu3 p sd sy r z d true f < mu3 p sd sy r z d l f := by decide
theorem mu3_23 : ∀ p sd sy r z d l f, f = false → ((!r || z) && !sy) = true → mu3 p sd sy r z d l true < mu3 p sd sy r z d l f := by decide
theorem mu5_7 : ∀ p a b u u', (p && !a) = true → mu5 false a b u' < mu5 p a b u := by decide
theorem mu5_8 : ∀ p a b u, (p && !a) = false → (p || !a) = true → mu5 false true b u < mu5 p a b u := by decide
theorem mu5_9 : ∀ p a b u, b = true → mu5 p a false u < mu5 p a b u := by decide
theorem mu5_10 : ∀ p a b u, (p && !a) = false → u = true → mu5 p a b false < mu5 p a b u := by decide
theorem ags_or : ∀ q p a : Bool, ((q && !a) || (p && a)) = true → (p || !a) = true := by decide
theorem des_or : ∀ q r z s : Bool, (q && (!r || z) && !s) = true → ((!r || z) && !s) = true := by decide

def trRole (B : Br) (k : Nat) : Bool := trHB B k 0 || trHB B k 1 || trHB B k 2 || trHB B k 3
def trM2 (B : Br) (k : Nat) : Nat := mu2 (B.gb k 33) (B.gb k 22) (B.gb k 26) (B.gb k 42) (B.gb k 28) (B.gi k 12 != B.hi 5)
def trM3 (B : Br) (k : Nat) : Nat := mu3 (B.gb k 34) (B.gb k 47) (B.gb k 46) (B.gb k 42) (B.gi k 12 == 0) (B.gb k 24) (B.gb k 28) (B.gb k 26)
def trM5 (B : Br) (k : Nat) : Nat := mu5 (B.gb k 33) (B.gb k 22) (B.gi k 87 == 2 && B.gi k 10 != 2 * B.hi 4) (trUns B k (trWait B k))
/-- How many steps there may be yet. -/
def trMu (B : Br) (k : Nat) : Nat :=
  if trRole B k = true then 9 else if B.gi k 19 = 0 then 1 else if B.gi k 19 = 1 then (trUns B k (B.hi 3)).toNat else if B.gi k 19 = 4 then 5 else if B.gi k 19 = 5 then trM5 B k else if B.gi k 19 = 2 then trM2 B k else if B.gi k 19 = 3 then trM3 B k else 0
theorem trMu_le (B : Br) (k : Nat) : trMu B k ≤ 9 := by
  have h2 : trM2 B k ≤ 7 := mu2_le _ _ _ _ _ _
  have h3 : trM3 B k ≤ 8 := mu3_le _ _ _ _ _ _ _ _
  have h5 : trM5 B k ≤ 4 := mu5_le _ _ _ _
  have h1 : (trUns B k (B.hi 3)).toNat ≤ 1 := Bool.toNat_le _
  unfold trMu
  repeat' split
  all_goals omega
theorem trRole_of {B : Br} {k : Nat} (h : B.gi k 87 = B.gi k 88) : trRole B k = false := by
  unfold trRole trHB
  rw [h]
  by_cases h0 : B.gi k 88 = 0 <;> by_cases h1 : B.gi k 88 = 1 <;> by_cases h2 : B.gi k 88 = 2 <;> by_cases h3 : B.gi k 88 = 3 <;> by_cases h4 : B.gi k 88 = 4 <;> simp_all
/-- A bridge whose port k has the same role rows, and that is in another state: its measure. -/
theorem trMu_st {B : Br} {k : Nat} (h : trRole B k = false) : trMu B k = if B.gi k 19 = 0 then 1 else if B.gi k 19 = 1 then (trUns B k (B.hi 3)).toNat else if B.gi k 19 = 4 then 5 else if B.gi k 19 = 5 then trM5 B k else if B.gi k 19 = 2 then trM2 B k else if B.gi k 19 = 3 then trM3 B k else 0 := by
  unfold trMu
  rw [h]
  rfl
theorem trRole_same {B C : Br} {k : Nat} (h8 : C.gi k 88 = B.gi k 88) (h7 : C.gi k 87 = B.gi k 87) : trRole C k = trRole B k := by
  simp only [trRole, trHB, h8, h7]

/-- The cells of port k behind a row: read off. -/
theorem len_upd (B : Br) (j : Nat) (v : Nat → Value) (n : Nat) : (B.upd j v n).ps.length = B.ps.length := upd_len B j v n
section
variable {B : Br} {k : Nat}
theorem muR_4 (ho : B.ok) (hk : k < B.np) (hs : B.gi k 19 = 0) (hr : trRole B k = false) (ht : trHB B k 4 = true) : trMu (trRow B k 4).2 k < trMu B k := by
  have h89 := len89 ho hk
  have hr2 : trRole (trRow B k 4).2 k = false := (trRole_same (B := B) (by simp [trRow, trN, trAB, trStop, trSettle, trAskAll, trReAll, trAgree, trLearn, trFwd, gb_at, gi_at, gi_setp_ne, gb_setp_ne, len_setp, upd_len, h89, hi_setp, hb_setp, hi_upd, hb_upd, gb_all ho hk, gi_all ho]) (by simp [trRow, trN, trAB, trStop, trSettle, trAskAll, trReAll, trAgree, trLearn, trFwd, gb_at, gi_at, gi_setp_ne, gb_setp_ne, len_setp, upd_len, h89, hi_setp, hb_setp, hi_upd, hb_upd, gb_all ho hk, gi_all ho])).trans hr
  have hs2 : (trRow B k 4).2.gi k 19 = 1 := by simp [trRow, trN, trAB, trStop, trSettle, trAskAll, trReAll, trAgree, trLearn, trFwd, gb_at, gi_at, gi_setp_ne, gb_setp_ne, len_setp, upd_len, h89, hi_setp, hb_setp, hi_upd, hb_upd, gb_all ho hk, gi_all ho, hs]
  rw [trMu_st hr2, trMu_st hr, hs2, hs]
  simp [trRow, trN, trAB, trStop, trSettle, trAskAll, trReAll, trAgree, trLearn, trFwd, gb_at, gi_at, gi_setp_ne, gb_setp_ne, len_setp, upd_len, h89, hi_setp, hb_setp, hi_upd, hb_upd, trUns, hi_setp]

theorem muR_5 (ho : B.ok) (hk : k < B.np) (hs : B.gi k 19 = 1) (hr : trRole B k = false) (ht : trHB B k 5 = true) : trMu (trRow B k 5).2 k < trMu B k := by
  have h89 := len89 ho hk
  have hr2 : trRole (trRow B k 5).2 k = false := (trRole_same (B := B) (by simp [trRow, trN, trAB, trStop, trSettle, trAskAll, trReAll, trAgree, trLearn, trFwd, gb_at, gi_at, gi_setp_ne, gb_setp_ne, len_setp, upd_len, h89, hi_setp, hb_setp, hi_upd, hb_upd, gb_all ho hk, gi_all ho]) (by simp [trRow, trN, trAB, trStop, trSettle, trAskAll, trReAll, trAgree, trLearn, trFwd, gb_at, gi_at, gi_setp_ne, gb_setp_ne, len_setp, upd_len, h89, hi_setp, hb_setp, hi_upd, hb_upd, gb_all ho hk, gi_all ho])).trans hr
  have hs2 : (trRow B k 5).2.gi k 19 = 1 := by simp [trRow, trN, trAB, trStop, trSettle, trAskAll, trReAll, trAgree, trLearn, trFwd, gb_at, gi_at, gi_setp_ne, gb_setp_ne, len_setp, upd_len, h89, hi_setp, hb_setp, hi_upd, hb_upd, gb_all ho hk, gi_all ho, hs]
  rw [trMu_st hr2, trMu_st hr, hs2, hs]
  have ht : trUns B k (B.hi 3) = true := ht
  simp [ht]
  simp [trRow, trN, trAB, trStop, trSettle, trAskAll, trReAll, trAgree, trLearn, trFwd, gb_at, gi_at, gi_setp_ne, gb_setp_ne, len_setp, upd_len, h89, hi_setp, hb_setp, hi_upd, hb_upd, trUns]

theorem muR_6 (ho : B.ok) (hk : k < B.np) (hs : B.gi k 19 = 4) (hr : trRole B k = false) (ht : trHB B k 6 = true) : trMu (trRow B k 6).2 k < trMu B k := by
  have h89 := len89 ho hk
  have hr2 : trRole (trRow B k 6).2 k = false := (trRole_same (B := B) (by simp [trRow, trN, trAB, trStop, trSettle, trAskAll, trReAll, trAgree, trLearn, trFwd, gb_at, gi_at, gi_setp_ne, gb_setp_ne, len_setp, upd_len, h89, hi_setp, hb_setp, hi_upd, hb_upd, gb_all ho hk, gi_all ho]) (by simp [trRow, trN, trAB, trStop, trSettle, trAskAll, trReAll, trAgree, trLearn, trFwd, gb_at, gi_at, gi_setp_ne, gb_setp_ne, len_setp, upd_len, h89, hi_setp, hb_setp, hi_upd, hb_upd, gb_all ho hk, gi_all ho])).trans hr
  have hs2 : (trRow B k 6).2.gi k 19 = 5 := by simp [trRow, trN, trAB, trStop, trSettle, trAskAll, trReAll, trAgree, trLearn, trFwd, gb_at, gi_at, gi_setp_ne, gb_setp_ne, len_setp, upd_len, h89, hi_setp, hb_setp, hi_upd, hb_upd, gb_all ho hk, gi_all ho, hs]
  rw [trMu_st hr2, trMu_st hr, hs2, hs]
  have h5 : trM5 (trRow B k 6).2 k ≤ 4 := mu5_le _ _ _ _
  simp only [Nat.reduceEqDiff, if_true, if_false, reduceIte]
  simp
  omega

theorem muR_7 (ho : B.ok) (hk : k < B.np) (hs : B.gi k 19 = 5) (hr : trRole B k = false) (ht : trHB B k 7 = true) : trMu (trRow B k 7).2 k < trMu B k := by
  have h89 := len89 ho hk
  have hr2 : trRole (trRow B k 7).2 k = false := (trRole_same (B := B) (by simp [trRow, trN, trAB, trStop, trSettle, trAskAll, trReAll, trAgree, trLearn, trFwd, gb_at, gi_at, gi_setp_ne, gb_setp_ne, len_setp, upd_len, h89, hi_setp, hb_setp, hi_upd, hb_upd, gb_all ho hk, gi_all ho]) (by simp [trRow, trN, trAB, trStop, trSettle, trAskAll, trReAll, trAgree, trLearn, trFwd, gb_at, gi_at, gi_setp_ne, gb_setp_ne, len_setp, upd_len, h89, hi_setp, hb_setp, hi_upd, hb_upd, gb_all ho hk, gi_all ho])).trans hr
  have hs2 : (trRow B k 7).2.gi k 19 = 5 := by simp [trRow, trN, trAB, trStop, trSettle, trAskAll, trReAll, trAgree, trLearn, trFwd, gb_at, gi_at, gi_setp_ne, gb_setp_ne, len_setp, upd_len, h89, hi_setp, hb_setp, hi_upd, hb_upd, gb_all ho hk, gi_all ho, hs]
  rw [trMu_st hr2, trMu_st hr, hs2, hs]
  show trM5 (trRow B k 7).2 k < trM5 B k
  unfold trM5
  simp only [trHB, trAgs] at ht
  have e1 : (trRow B k 7).2.gb k 33 = false := by simp [trRow, trN, trAB, trStop, trSettle, trAskAll, trReAll, trAgree, trLearn, trFwd, gb_at, gi_at, gi_setp_ne, gb_setp_ne, len_setp, upd_len, h89, hi_setp, hb_setp, hi_upd, hb_upd, gb_all ho hk, gi_all ho]
  have e2 : (trRow B k 7).2.gb k 22 = B.gb k 22 := by simp [trRow, trN, trAB, trStop, trSettle, trAskAll, trReAll, trAgree, trLearn, trFwd, gb_at, gi_at, gi_setp_ne, gb_setp_ne, len_setp, upd_len, h89, hi_setp, hb_setp, hi_upd, hb_upd, gb_all ho hk, gi_all ho]
  have e3 : (trRow B k 7).2.gi k 87 = B.gi k 87 := by simp [trRow, trN, trAB, trStop, trSettle, trAskAll, trReAll, trAgree, trLearn, trFwd, gb_at, gi_at, gi_setp_ne, gb_setp_ne, len_setp, upd_len, h89, hi_setp, hb_setp, hi_upd, hb_upd, gb_all ho hk, gi_all ho]
  have e4 : (trRow B k 7).2.gi k 10 = B.gi k 10 := by simp [trRow, trN, trAB, trStop, trSettle, trAskAll, trReAll, trAgree, trLearn, trFwd, gb_at, gi_at, gi_setp_ne, gb_setp_ne, len_setp, upd_len, h89, hi_setp, hb_setp, hi_upd, hb_upd, gb_all ho hk, gi_all ho]
  have e5 : (trRow B k 7).2.hi 4 = B.hi 4 := by simp [trRow, trN, trAB, trStop, trSettle, trAskAll, trReAll, trAgree, trLearn, trFwd, gb_at, gi_at, gi_setp_ne, gb_setp_ne, len_setp, upd_len, h89, hi_setp, hb_setp, hi_upd, hb_upd]
  rw [e1, e2, e3, e4, e5]
  exact mu5_7 _ _ _ _ _ ht

theorem muR_8 (ho : B.ok) (hk : k < B.np) (hs : B.gi k 19 = 5) (hr : trRole B k = false) (ht : trHB B k 8 = true) (hn7 : (B.gb k 33 && !B.gb k 22) = false) : trMu (trRow B k 8).2 k < trMu B k := by
  have h89 := len89 ho hk
  have hr2 : trRole (trRow B k 8).2 k = false := (trRole_same (B := B) (by simp [trRow, trN, trAB, trStop, trSettle, trAskAll, trReAll, trAgree, trLearn, trFwd, gb_at, gi_at, gi_setp_ne, gb_setp_ne, len_setp, upd_len, h89, hi_setp, hb_setp, hi_upd, hb_upd, gb_all ho hk, gi_all ho]) (by simp [trRow, trN, trAB, trStop, trSettle, trAskAll, trReAll, trAgree, trLearn, trFwd, gb_at, gi_at, gi_setp_ne, gb_setp_ne, len_setp, upd_len, h89, hi_setp, hb_setp, hi_upd, hb_upd, gb_all ho hk, gi_all ho])).trans hr
  have hs2 : (trRow B k 8).2.gi k 19 = 5 := by simp [trRow, trN, trAB, trStop, trSettle, trAskAll, trReAll, trAgree, trLearn, trFwd, gb_at, gi_at, gi_setp_ne, gb_setp_ne, len_setp, upd_len, h89, hi_setp, hb_setp, hi_upd, hb_upd, gb_all ho hk, gi_all ho, hs]
  rw [trMu_st hr2, trMu_st hr, hs2, hs]
  show trM5 (trRow B k 8).2 k < trM5 B k
  unfold trM5
  simp only [trHB, trAgs] at ht
  unfold trUns trWait
  simp only [trRow, trN, trAB, trStop, trSettle, trAskAll, trReAll, trAgree, trLearn, trFwd, gb_at, gi_at, gi_setp_ne, gb_setp_ne, len_setp, upd_len, h89, hi_setp, hb_setp, hi_upd, hb_upd, reduceIte, Int.reduceNeg, reduceCtorEq, Int.reduceEq, Nat.reduceEqDiff, Nat.reduceLT, ne_eq, not_false_eq_true, Nat.reduceMul, bne_self_eq_false, Bool.and_false, Bool.or_false, Bool.false_or, Bool.not_true, not_true_eq_false, if_true, if_false, Nat.le_refl]
  exact mu5_8 _ _ _ _ hn7 (ags_or _ _ _ ht)

theorem muR_9 (ho : B.ok) (hk : k < B.np) (hs : B.gi k 19 = 5) (hr : trRole B k = false) (ht : trHB B k 9 = true) : trMu (trRow B k 9).2 k < trMu B k := by
  have h89 := len89 ho hk
  have hr2 : trRole (trRow B k 9).2 k = false := (trRole_same (B := B) (by simp [trRow, trN, trAB, trStop, trSettle, trAskAll, trReAll, trAgree, trLearn, trFwd, gb_at, gi_at, gi_setp_ne, gb_setp_ne, len_setp, upd_len, h89, hi_setp, hb_setp, hi_upd, hb_upd, gb_all ho hk, gi_all ho]) (by simp [trRow, trN, trAB, trStop, trSettle, trAskAll, trReAll, trAgree, trLearn, trFwd, gb_at, gi_at, gi_setp_ne, gb_setp_ne, len_setp, upd_len, h89, hi_setp, hb_setp, hi_upd, hb_upd, gb_all ho hk, gi_all ho])).trans hr
  have hs2 : (trRow B k 9).2.gi k 19 = 5 := by simp [trRow, trN, trAB, trStop, trSettle, trAskAll, trReAll, trAgree, trLearn, trFwd, gb_at, gi_at, gi_setp_ne, gb_setp_ne, len_setp, upd_len, h89, hi_setp, hb_setp, hi_upd, hb_upd, gb_all ho hk, gi_all ho, hs]
  rw [trMu_st hr2, trMu_st hr, hs2, hs]
  show trM5 (trRow B k 9).2 k < trM5 B k
  unfold trM5
  simp only [trHB, trAgs] at ht
  unfold trUns trWait
  simp only [trRow, trN, trAB, trStop, trSettle, trAskAll, trReAll, trAgree, trLearn, trFwd, gb_at, gi_at, gi_setp_ne, gb_setp_ne, len_setp, upd_len, h89, hi_setp, hb_setp, hi_upd, hb_upd, reduceIte, Int.reduceNeg, reduceCtorEq, Int.reduceEq, Nat.reduceEqDiff, Nat.reduceLT, ne_eq, not_false_eq_true, Nat.reduceMul, bne_self_eq_false, Bool.and_false, Bool.or_false, Bool.false_or, Bool.not_true, not_true_eq_false, if_true, if_false, Nat.le_refl]
  exact mu5_9 _ _ _ _ ht

theorem muR_10 (ho : B.ok) (hk : k < B.np) (hs : B.gi k 19 = 5) (hr : trRole B k = false) (ht : trHB B k 10 = true) (hn7 : (B.gb k 33 && !B.gb k 22) = false) : trMu (trRow B k 10).2 k < trMu B k := by
  have h89 := len89 ho hk
  have hr2 : trRole (trRow B k 10).2 k = false := (trRole_same (B := B) (by simp [trRow, trN, trAB, trStop, trSettle, trAskAll, trReAll, trAgree, trLearn, trFwd, gb_at, gi_at, gi_setp_ne, gb_setp_ne, len_setp, upd_len, h89, hi_setp, hb_setp, hi_upd, hb_upd, gb_all ho hk, gi_all ho]) (by simp [trRow, trN, trAB, trStop, trSettle, trAskAll, trReAll, trAgree, trLearn, trFwd, gb_at, gi_at, gi_setp_ne, gb_setp_ne, len_setp, upd_len, h89, hi_setp, hb_setp, hi_upd, hb_upd, gb_all ho hk, gi_all ho])).trans hr
  have hs2 : (trRow B k 10).2.gi k 19 = 5 := by simp [trRow, trN, trAB, trStop, trSettle, trAskAll, trReAll, trAgree, trLearn, trFwd, gb_at, gi_at, gi_setp_ne, gb_setp_ne, len_setp, upd_len, h89, hi_setp, hb_setp, hi_upd, hb_upd, gb_all ho hk, gi_all ho, hs]
  rw [trMu_st hr2, trMu_st hr, hs2, hs]
  show trM5 (trRow B k 10).2 k < trM5 B k
  unfold trM5
  simp only [trHB, trAgs] at ht
  have e1 : trUns (trRow B k 10).2 k (trWait (trRow B k 10).2 k) = false := by simp [trRow, trN, trAB, trStop, trSettle, trAskAll, trReAll, trAgree, trLearn, trFwd, gb_at, gi_at, gi_setp_ne, gb_setp_ne, len_setp, upd_len, h89, hi_setp, hb_setp, hi_upd, hb_upd, trUns, trWait]
  have e2 : (trRow B k 10).2.gb k 33 = B.gb k 33 := by simp [trRow, trN, trAB, trStop, trSettle, trAskAll, trReAll, trAgree, trLearn, trFwd, gb_at, gi_at, gi_setp_ne, gb_setp_ne, len_setp, upd_len, h89, hi_setp, hb_setp, hi_upd, hb_upd]
  have e3 : (trRow B k 10).2.gb k 22 = B.gb k 22 := by simp [trRow, trN, trAB, trStop, trSettle, trAskAll, trReAll, trAgree, trLearn, trFwd, gb_at, gi_at, gi_setp_ne, gb_setp_ne, len_setp, upd_len, h89, hi_setp, hb_setp, hi_upd, hb_upd]
  have e4 : (trRow B k 10).2.gi k 87 = B.gi k 87 := by simp [trRow, trN, trAB, trStop, trSettle, trAskAll, trReAll, trAgree, trLearn, trFwd, gb_at, gi_at, gi_setp_ne, gb_setp_ne, len_setp, upd_len, h89, hi_setp, hb_setp, hi_upd, hb_upd]
  have e5 : (trRow B k 10).2.gi k 10 = B.gi k 10 := by simp [trRow, trN, trAB, trStop, trSettle, trAskAll, trReAll, trAgree, trLearn, trFwd, gb_at, gi_at, gi_setp_ne, gb_setp_ne, len_setp, upd_len, h89, hi_setp, hb_setp, hi_upd, hb_upd]
  have e6 : (trRow B k 10).2.hi 4 = B.hi 4 := by simp [trRow, trN, trAB, trStop, trSettle, trAskAll, trReAll, trAgree, trLearn, trFwd, gb_at, gi_at, gi_setp_ne, gb_setp_ne, len_setp, upd_len, h89, hi_setp, hb_setp, hi_upd, hb_upd]
  rw [e1, e2, e3, e4, e5, e6]
  exact mu5_10 _ _ _ _ hn7 ht

theorem muR_11 (ho : B.ok) (hk : k < B.np) (hs : B.gi k 19 = 2) (hr : trRole B k = false) (ht : trHB B k 11 = true) : trMu (trRow B k 11).2 k < trMu B k := by
  have h89 := len89 ho hk
  have hr2 : trRole (trRow B k 11).2 k = false := (trRole_same (B := B) (by simp [trRow, trN, trAB, trStop, trSettle, trAskAll, trReAll, trAgree, trLearn, trFwd, gb_at, gi_at, gi_setp_ne, gb_setp_ne, len_setp, upd_len, h89, hi_setp, hb_setp, hi_upd, hb_upd, gb_all ho hk, gi_all ho]) (by simp [trRow, trN, trAB, trStop, trSettle, trAskAll, trReAll, trAgree, trLearn, trFwd, gb_at, gi_at, gi_setp_ne, gb_setp_ne, len_setp, upd_len, h89, hi_setp, hb_setp, hi_upd, hb_upd, gb_all ho hk, gi_all ho])).trans hr
  have hs2 : (trRow B k 11).2.gi k 19 = 2 := by simp [trRow, trN, trAB, trStop, trSettle, trAskAll, trReAll, trAgree, trLearn, trFwd, gb_at, gi_at, gi_setp_ne, gb_setp_ne, len_setp, upd_len, h89, hi_setp, hb_setp, hi_upd, hb_upd, gb_all ho hk, gi_all ho, hs]
  rw [trMu_st hr2, trMu_st hr, hs2, hs]
  show trM2 (trRow B k 11).2 k < trM2 B k
  unfold trM2
  simp only [trHB, trAgs] at ht
  simp only [trRow, trN, trAB, trStop, trSettle, trAskAll, trReAll, trAgree, trLearn, trFwd, gb_at, gi_at, gi_setp_ne, gb_setp_ne, len_setp, upd_len, h89, hi_setp, hb_setp, hi_upd, hb_upd, reduceIte, Int.reduceNeg, reduceCtorEq, Int.reduceEq, Nat.reduceEqDiff, Nat.reduceLT, ne_eq, not_false_eq_true, if_true, if_false, gb_all ho hk, gi_all ho]
  exact mu2_11 _ _ _ _ _ _ ht

theorem muR_12 (ho : B.ok) (hk : k < B.np) (hs : B.gi k 19 = 2) (hr : trRole B k = false) (ht : trHB B k 12 = true) : trMu (trRow B k 12).2 k < trMu B k := by
  have h89 := len89 ho hk
  have hr2 : trRole (trRow B k 12).2 k = false := (trRole_same (B := B) (by simp [trRow, trN, trAB, trStop, trSettle, trAskAll, trReAll, trAgree, trLearn, trFwd, gb_at, gi_at, gi_setp_ne, gb_setp_ne, len_setp, upd_len, h89, hi_setp, hb_setp, hi_upd, hb_upd, gb_all ho hk, gi_all ho]) (by simp [trRow, trN, trAB, trStop, trSettle, trAskAll, trReAll, trAgree, trLearn, trFwd, gb_at, gi_at, gi_setp_ne, gb_setp_ne, len_setp, upd_len, h89, hi_setp, hb_setp, hi_upd, hb_upd, gb_all ho hk, gi_all ho])).trans hr
  have hs2 : (trRow B k 12).2.gi k 19 = 2 := by simp [trRow, trN, trAB, trStop, trSettle, trAskAll, trReAll, trAgree, trLearn, trFwd, gb_at, gi_at, gi_setp_ne, gb_setp_ne, len_setp, upd_len, h89, hi_setp, hb_setp, hi_upd, hb_upd, gb_all ho hk, gi_all ho, hs]
  rw [trMu_st hr2, trMu_st hr, hs2, hs]
  show trM2 (trRow B k 12).2 k < trM2 B k
  unfold trM2
  simp only [trHB, trAgs] at ht
  simp only [trRow, trN, trAB, trStop, trSettle, trAskAll, trReAll, trAgree, trLearn, trFwd, gb_at, gi_at, gi_setp_ne, gb_setp_ne, len_setp, upd_len, h89, hi_setp, hb_setp, hi_upd, hb_upd, reduceIte, Int.reduceNeg, reduceCtorEq, Int.reduceEq, Nat.reduceEqDiff, Nat.reduceLT, ne_eq, not_false_eq_true, if_true, if_false, gb_all ho hk, gi_all ho]
  exact mu2_12 _ _ _ _ _ _ (ags_or _ _ _ ht)

theorem muR_13 (ho : B.ok) (hk : k < B.np) (hs : B.gi k 19 = 2) (hr : trRole B k = false) (ht : trHB B k 13 = true) : trMu (trRow B k 13).2 k < trMu B k := by
  have h89 := len89 ho hk
  have hr2 : trRole (trRow B k 13).2 k = false := (trRole_same (B := B) (by simp [trRow, trN, trAB, trStop, trSettle, trAskAll, trReAll, trAgree, trLearn, trFwd, gb_at, gi_at, gi_setp_ne, gb_setp_ne, len_setp, upd_len, h89, hi_setp, hb_setp, hi_upd, hb_upd, gb_all ho hk, gi_all ho]) (by simp [trRow, trN, trAB, trStop, trSettle, trAskAll, trReAll, trAgree, trLearn, trFwd, gb_at, gi_at, gi_setp_ne, gb_setp_ne, len_setp, upd_len, h89, hi_setp, hb_setp, hi_upd, hb_upd, gb_all ho hk, gi_all ho])).trans hr
  have hs2 : (trRow B k 13).2.gi k 19 = 2 := by simp [trRow, trN, trAB, trStop, trSettle, trAskAll, trReAll, trAgree, trLearn, trFwd, gb_at, gi_at, gi_setp_ne, gb_setp_ne, len_setp, upd_len, h89, hi_setp, hb_setp, hi_upd, hb_upd, gb_all ho hk, gi_all ho, hs]
  rw [trMu_st hr2, trMu_st hr, hs2, hs]
  show trM2 (trRow B k 13).2 k < trM2 B k
  unfold trM2
  simp only [trHB, trAgs] at ht
  simp only [trRow, trN, trAB, trStop, trSettle, trAskAll, trReAll, trAgree, trLearn, trFwd, gb_at, gi_at, gi_setp_ne, gb_setp_ne, len_setp, upd_len, h89, hi_setp, hb_setp, hi_upd, hb_upd, reduceIte, Int.reduceNeg, reduceCtorEq, Int.reduceEq, Nat.reduceEqDiff, Nat.reduceLT, ne_eq, not_false_eq_true, if_true, if_false, gb_all ho hk, gi_all ho]
  exact mu2_13 _ _ _ _ _ _ ht

theorem muR_14 (ho : B.ok) (hk : k < B.np) (hs : B.gi k 19 = 2) (hr : trRole B k = false) (ht : trHB B k 14 = true) : trMu (trRow B k 14).2 k < trMu B k := by
  have h89 := len89 ho hk
  have hr2 : trRole (trRow B k 14).2 k = false := (trRole_same (B := B) (by simp [trRow, trN, trAB, trStop, trSettle, trAskAll, trReAll, trAgree, trLearn, trFwd, gb_at, gi_at, gi_setp_ne, gb_setp_ne, len_setp, upd_len, h89, hi_setp, hb_setp, hi_upd, hb_upd, gb_all ho hk, gi_all ho]) (by simp [trRow, trN, trAB, trStop, trSettle, trAskAll, trReAll, trAgree, trLearn, trFwd, gb_at, gi_at, gi_setp_ne, gb_setp_ne, len_setp, upd_len, h89, hi_setp, hb_setp, hi_upd, hb_upd, gb_all ho hk, gi_all ho])).trans hr
  have hs2 : (trRow B k 14).2.gi k 19 = 2 := by simp [trRow, trN, trAB, trStop, trSettle, trAskAll, trReAll, trAgree, trLearn, trFwd, gb_at, gi_at, gi_setp_ne, gb_setp_ne, len_setp, upd_len, h89, hi_setp, hb_setp, hi_upd, hb_upd, gb_all ho hk, gi_all ho, hs]
  rw [trMu_st hr2, trMu_st hr, hs2, hs]
  show trM2 (trRow B k 14).2 k < trM2 B k
  unfold trM2
  simp only [trHB, trAgs] at ht
  simp only [trRow, trN, trAB, trStop, trSettle, trAskAll, trReAll, trAgree, trLearn, trFwd, gb_at, gi_at, gi_setp_ne, gb_setp_ne, len_setp, upd_len, h89, hi_setp, hb_setp, hi_upd, hb_upd, reduceIte, Int.reduceNeg, reduceCtorEq, Int.reduceEq, Nat.reduceEqDiff, Nat.reduceLT, ne_eq, not_false_eq_true, if_true, if_false, gb_all ho hk, gi_all ho]
  exact mu2_14 _ _ _ _ _ _ (by simp at ht; exact ht.2)

theorem muR_15 (ho : B.ok) (hk : k < B.np) (hs : B.gi k 19 = 2) (hr : trRole B k = false) (ht : trHB B k 15 = true) : trMu (trRow B k 15).2 k < trMu B k := by
  have h89 := len89 ho hk
  have hr2 : trRole (trRow B k 15).2 k = false := (trRole_same (B := B) (by simp [trRow, trN, trAB, trStop, trSettle, trAskAll, trReAll, trAgree, trLearn, trFwd, gb_at, gi_at, gi_setp_ne, gb_setp_ne, len_setp, upd_len, h89, hi_setp, hb_setp, hi_upd, hb_upd, gb_all ho hk, gi_all ho]) (by simp [trRow, trN, trAB, trStop, trSettle, trAskAll, trReAll, trAgree, trLearn, trFwd, gb_at, gi_at, gi_setp_ne, gb_setp_ne, len_setp, upd_len, h89, hi_setp, hb_setp, hi_upd, hb_upd, gb_all ho hk, gi_all ho])).trans hr
  have hs2 : (trRow B k 15).2.gi k 19 = 2 := by simp [trRow, trN, trAB, trStop, trSettle, trAskAll, trReAll, trAgree, trLearn, trFwd, gb_at, gi_at, gi_setp_ne, gb_setp_ne, len_setp, upd_len, h89, hi_setp, hb_setp, hi_upd, hb_upd, gb_all ho hk, gi_all ho, hs]
  rw [trMu_st hr2, trMu_st hr, hs2, hs]
  show trM2 (trRow B k 15).2 k < trM2 B k
  unfold trM2
  simp only [trHB, trAgs] at ht
  simp only [trRow, trN, trAB, trStop, trSettle, trAskAll, trReAll, trAgree, trLearn, trFwd, gb_at, gi_at, gi_setp_ne, gb_setp_ne, len_setp, upd_len, h89, hi_setp, hb_setp, hi_upd, hb_upd, reduceIte, Int.reduceNeg, reduceCtorEq, Int.reduceEq, Nat.reduceEqDiff, Nat.reduceLT, ne_eq, not_false_eq_true, if_true, if_false, gb_all ho hk, gi_all ho]
  exact mu2_15 _ _ _ _ _ _ (by simp at ht; exact ht.2)

theorem muR_16 (ho : B.ok) (hk : k < B.np) (hs : B.gi k 19 = 2) (hr : trRole B k = false) (ht : trHB B k 16 = true) : trMu (trRow B k 16).2 k < trMu B k := by
  have h89 := len89 ho hk
  have hr2 : trRole (trRow B k 16).2 k = false := (trRole_same (B := B) (by simp [trRow, trN, trAB, trStop, trSettle, trAskAll, trReAll, trAgree, trLearn, trFwd, gb_at, gi_at, gi_setp_ne, gb_setp_ne, len_setp, upd_len, h89, hi_setp, hb_setp, hi_upd, hb_upd, gb_all ho hk, gi_all ho]) (by simp [trRow, trN, trAB, trStop, trSettle, trAskAll, trReAll, trAgree, trLearn, trFwd, gb_at, gi_at, gi_setp_ne, gb_setp_ne, len_setp, upd_len, h89, hi_setp, hb_setp, hi_upd, hb_upd, gb_all ho hk, gi_all ho])).trans hr
  have hs2 : (trRow B k 16).2.gi k 19 = 2 := by simp [trRow, trN, trAB, trStop, trSettle, trAskAll, trReAll, trAgree, trLearn, trFwd, gb_at, gi_at, gi_setp_ne, gb_setp_ne, len_setp, upd_len, h89, hi_setp, hb_setp, hi_upd, hb_upd, gb_all ho hk, gi_all ho, hs]
  rw [trMu_st hr2, trMu_st hr, hs2, hs]
  show trM2 (trRow B k 16).2 k < trM2 B k
  unfold trM2
  simp only [trHB, trAgs] at ht
  simp only [trRow, trN, trAB, trStop, trSettle, trAskAll, trReAll, trAgree, trLearn, trFwd, gb_at, gi_at, gi_setp_ne, gb_setp_ne, len_setp, upd_len, h89, hi_setp, hb_setp, hi_upd, hb_upd, reduceIte, Int.reduceNeg, reduceCtorEq, Int.reduceEq, Nat.reduceEqDiff, Nat.reduceLT, ne_eq, not_false_eq_true, if_true, if_false, gb_all ho hk, gi_all ho]
  exact mu2_16 _ _ _ _ _ _ ht

theorem muR_17 (ho : B.ok) (hk : k < B.np) (hs : B.gi k 19 = 2) (hr : trRole B k = false) (ht : trHB B k 17 = true) : trMu (trRow B k 17).2 k < trMu B k := by
  have h89 := len89 ho hk
  have hr2 : trRole (trRow B k 17).2 k = false := (trRole_same (B := B) (by simp [trRow, trN, trAB, trStop, trSettle, trAskAll, trReAll, trAgree, trLearn, trFwd, gb_at, gi_at, gi_setp_ne, gb_setp_ne, len_setp, upd_len, h89, hi_setp, hb_setp, hi_upd, hb_upd, gb_all ho hk, gi_all ho]) (by simp [trRow, trN, trAB, trStop, trSettle, trAskAll, trReAll, trAgree, trLearn, trFwd, gb_at, gi_at, gi_setp_ne, gb_setp_ne, len_setp, upd_len, h89, hi_setp, hb_setp, hi_upd, hb_upd, gb_all ho hk, gi_all ho])).trans hr
  have hs2 : (trRow B k 17).2.gi k 19 = 2 := by simp [trRow, trN, trAB, trStop, trSettle, trAskAll, trReAll, trAgree, trLearn, trFwd, gb_at, gi_at, gi_setp_ne, gb_setp_ne, len_setp, upd_len, h89, hi_setp, hb_setp, hi_upd, hb_upd, gb_all ho hk, gi_all ho, hs]
  rw [trMu_st hr2, trMu_st hr, hs2, hs]
  show trM2 (trRow B k 17).2 k < trM2 B k
  unfold trM2
  simp only [trHB, trAgs] at ht
  simp only [trRow, trN, trAB, trStop, trSettle, trAskAll, trReAll, trAgree, trLearn, trFwd, gb_at, gi_at, gi_setp_ne, gb_setp_ne, len_setp, upd_len, h89, hi_setp, hb_setp, hi_upd, hb_upd, reduceIte, Int.reduceNeg, reduceCtorEq, Int.reduceEq, Nat.reduceEqDiff, Nat.reduceLT, ne_eq, not_false_eq_true, if_true, if_false, gb_all ho hk, gi_all ho]
  exact (by rw [bne_self_eq_false]; exact mu2_17 _ _ _ _ _ _ ht)

theorem muR_18 (ho : B.ok) (hk : k < B.np) (hs : B.gi k 19 = 3) (hr : trRole B k = false) (ht : trHB B k 18 = true) : trMu (trRow B k 18).2 k < trMu B k := by
  have h89 := len89 ho hk
  have hr2 : trRole (trRow B k 18).2 k = false := (trRole_same (B := B) (by simp [trRow, trN, trAB, trStop, trSettle, trAskAll, trReAll, trAgree, trLearn, trFwd, gb_at, gi_at, gi_setp_ne, gb_setp_ne, len_setp, upd_len, h89, hi_setp, hb_setp, hi_upd, hb_upd, gb_all ho hk, gi_all ho]) (by simp [trRow, trN, trAB, trStop, trSettle, trAskAll, trReAll, trAgree, trLearn, trFwd, gb_at, gi_at, gi_setp_ne, gb_setp_ne, len_setp, upd_len, h89, hi_setp, hb_setp, hi_upd, hb_upd, gb_all ho hk, gi_all ho])).trans hr
  have hs2 : (trRow B k 18).2.gi k 19 = 3 := by simp [trRow, trN, trAB, trStop, trSettle, trAskAll, trReAll, trAgree, trLearn, trFwd, gb_at, gi_at, gi_setp_ne, gb_setp_ne, len_setp, upd_len, h89, hi_setp, hb_setp, hi_upd, hb_upd, gb_all ho hk, gi_all ho, hs]
  rw [trMu_st hr2, trMu_st hr, hs2, hs]
  show trM3 (trRow B k 18).2 k < trM3 B k
  unfold trM3
  simp only [trHB, trAgs] at ht
  simp only [trRow, trN, trAB, trStop, trSettle, trAskAll, trReAll, trAgree, trLearn, trFwd, gb_at, gi_at, gi_setp_ne, gb_setp_ne, len_setp, upd_len, h89, hi_setp, hb_setp, hi_upd, hb_upd, reduceIte, Int.reduceNeg, reduceCtorEq, Int.reduceEq, Nat.reduceEqDiff, Nat.reduceLT, ne_eq, not_false_eq_true, if_true, if_false, gb_all ho hk, gi_all ho]
  exact mu3_18 _ _ _ _ _ _ _ _ (by simp at ht; exact ht.1.2)

theorem muR_19 (ho : B.ok) (hk : k < B.np) (hs : B.gi k 19 = 3) (hr : trRole B k = false) (ht : trHB B k 19 = true) : trMu (trRow B k 19).2 k < trMu B k := by
  have h89 := len89 ho hk
  have hr2 : trRole (trRow B k 19).2 k = false := (trRole_same (B := B) (by simp [trRow, trN, trAB, trStop, trSettle, trAskAll, trReAll, trAgree, trLearn, trFwd, gb_at, gi_at, gi_setp_ne, gb_setp_ne, len_setp, upd_len, h89, hi_setp, hb_setp, hi_upd, hb_upd, gb_all ho hk, gi_all ho]) (by simp [trRow, trN, trAB, trStop, trSettle, trAskAll, trReAll, trAgree, trLearn, trFwd, gb_at, gi_at, gi_setp_ne, gb_setp_ne, len_setp, upd_len, h89, hi_setp, hb_setp, hi_upd, hb_upd, gb_all ho hk, gi_all ho])).trans hr
  have hs2 : (trRow B k 19).2.gi k 19 = 3 := by simp [trRow, trN, trAB, trStop, trSettle, trAskAll, trReAll, trAgree, trLearn, trFwd, gb_at, gi_at, gi_setp_ne, gb_setp_ne, len_setp, upd_len, h89, hi_setp, hb_setp, hi_upd, hb_upd, gb_all ho hk, gi_all ho, hs]
  rw [trMu_st hr2, trMu_st hr, hs2, hs]
  show trM3 (trRow B k 19).2 k < trM3 B k
  unfold trM3
  simp only [trHB, trAgs] at ht
  simp only [trRow, trN, trAB, trStop, trSettle, trAskAll, trReAll, trAgree, trLearn, trFwd, gb_at, gi_at, gi_setp_ne, gb_setp_ne, len_setp, upd_len, h89, hi_setp, hb_setp, hi_upd, hb_upd, reduceIte, Int.reduceNeg, reduceCtorEq, Int.reduceEq, Nat.reduceEqDiff, Nat.reduceLT, ne_eq, not_false_eq_true, if_true, if_false, gb_all ho hk, gi_all ho]
  exact mu3_19 _ _ _ _ _ _ _ _ (by split at ht <;> simp_all)

theorem muR_20 (ho : B.ok) (hk : k < B.np) (hs : B.gi k 19 = 3) (hr : trRole B k = false) (ht : trHB B k 20 = true) : trMu (trRow B k 20).2 k < trMu B k := by
  have h89 := len89 ho hk
  have hr2 : trRole (trRow B k 20).2 k = false := (trRole_same (B := B) (by simp [trRow, trN, trAB, trStop, trSettle, trAskAll, trReAll, trAgree, trLearn, trFwd, gb_at, gi_at, gi_setp_ne, gb_setp_ne, len_setp, upd_len, h89, hi_setp, hb_setp, hi_upd, hb_upd, gb_all ho hk, gi_all ho]) (by simp [trRow, trN, trAB, trStop, trSettle, trAskAll, trReAll, trAgree, trLearn, trFwd, gb_at, gi_at, gi_setp_ne, gb_setp_ne, len_setp, upd_len, h89, hi_setp, hb_setp, hi_upd, hb_upd, gb_all ho hk, gi_all ho])).trans hr
  have hs2 : (trRow B k 20).2.gi k 19 = 3 := by simp [trRow, trN, trAB, trStop, trSettle, trAskAll, trReAll, trAgree, trLearn, trFwd, gb_at, gi_at, gi_setp_ne, gb_setp_ne, len_setp, upd_len, h89, hi_setp, hb_setp, hi_upd, hb_upd, gb_all ho hk, gi_all ho, hs]
  rw [trMu_st hr2, trMu_st hr, hs2, hs]
  show trM3 (trRow B k 20).2 k < trM3 B k
  unfold trM3
  simp only [trHB, trAgs] at ht
  simp only [trRow, trN, trAB, trStop, trSettle, trAskAll, trReAll, trAgree, trLearn, trFwd, gb_at, gi_at, gi_setp_ne, gb_setp_ne, len_setp, upd_len, h89, hi_setp, hb_setp, hi_upd, hb_upd, reduceIte, Int.reduceNeg, reduceCtorEq, Int.reduceEq, Nat.reduceEqDiff, Nat.reduceLT, ne_eq, not_false_eq_true, if_true, if_false, gb_all ho hk, gi_all ho]
  exact mu3_20 _ _ _ _ _ _ _ _ (by simp at ht; exact ht.1)

theorem muR_21 (ho : B.ok) (hk : k < B.np) (hs : B.gi k 19 = 3) (hr : trRole B k = false) (ht : trHB B k 21 = true) : trMu (trRow B k 21).2 k < trMu B k := by
  have h89 := len89 ho hk
  have hr2 : trRole (trRow B k 21).2 k = false := (trRole_same (B := B) (by simp [trRow, trN, trAB, trStop, trSettle, trAskAll, trReAll, trAgree, trLearn, trFwd, gb_at, gi_at, gi_setp_ne, gb_setp_ne, len_setp, upd_len, h89, hi_setp, hb_setp, hi_upd, hb_upd, gb_all ho hk, gi_all ho]) (by simp [trRow, trN, trAB, trStop, trSettle, trAskAll, trReAll, trAgree, trLearn, trFwd, gb_at, gi_at, gi_setp_ne, gb_setp_ne, len_setp, upd_len, h89, hi_setp, hb_setp, hi_upd, hb_upd, gb_all ho hk, gi_all ho])).trans hr
  have hs2 : (trRow B k 21).2.gi k 19 = 3 := by simp [trRow, trN, trAB, trStop, trSettle, trAskAll, trReAll, trAgree, trLearn, trFwd, gb_at, gi_at, gi_setp_ne, gb_setp_ne, len_setp, upd_len, h89, hi_setp, hb_setp, hi_upd, hb_upd, gb_all ho hk, gi_all ho, hs]
  rw [trMu_st hr2, trMu_st hr, hs2, hs]
  show trM3 (trRow B k 21).2 k < trM3 B k
  unfold trM3
  simp only [trHB, trAgs] at ht
  simp only [trRow, trN, trAB, trStop, trSettle, trAskAll, trReAll, trAgree, trLearn, trFwd, gb_at, gi_at, gi_setp_ne, gb_setp_ne, len_setp, upd_len, h89, hi_setp, hb_setp, hi_upd, hb_upd, reduceIte, Int.reduceNeg, reduceCtorEq, Int.reduceEq, Nat.reduceEqDiff, Nat.reduceLT, ne_eq, not_false_eq_true, if_true, if_false, gb_all ho hk, gi_all ho]
  exact mu3_21 _ _ _ _ _ _ _ _ (Bool.and_eq_true_iff.mp (Bool.and_eq_true_iff.mp ht).1).1 (Bool.and_eq_true_iff.mp ht).2

theorem muR_22 (ho : B.ok) (hk : k < B.np) (hs : B.gi k 19 = 3) (hr : trRole B k = false) (ht : trHB B k 22 = true) : trMu (trRow B k 22).2 k < trMu B k := by
  have h89 := len89 ho hk
  have hr2 : trRole (trRow B k 22).2 k = false := (trRole_same (B := B) (by simp [trRow, trN, trAB, trStop, trSettle, trAskAll, trReAll, trAgree, trLearn, trFwd, gb_at, gi_at, gi_setp_ne, gb_setp_ne, len_setp, upd_len, h89, hi_setp, hb_setp, hi_upd, hb_upd, gb_all ho hk, gi_all ho]) (by simp [trRow, trN, trAB, trStop, trSettle, trAskAll, trReAll, trAgree, trLearn, trFwd, gb_at, gi_at, gi_setp_ne, gb_setp_ne, len_setp, upd_len, h89, hi_setp, hb_setp, hi_upd, hb_upd, gb_all ho hk, gi_all ho])).trans hr
  have hs2 : (trRow B k 22).2.gi k 19 = 3 := by simp [trRow, trN, trAB, trStop, trSettle, trAskAll, trReAll, trAgree, trLearn, trFwd, gb_at, gi_at, gi_setp_ne, gb_setp_ne, len_setp, upd_len, h89, hi_setp, hb_setp, hi_upd, hb_upd, gb_all ho hk, gi_all ho, hs]
  rw [trMu_st hr2, trMu_st hr, hs2, hs]
  show trM3 (trRow B k 22).2 k < trM3 B k
  unfold trM3
  simp only [trHB, trAgs] at ht
  simp only [trRow, trN, trAB, trStop, trSettle, trAskAll, trReAll, trAgree, trLearn, trFwd, gb_at, gi_at, gi_setp_ne, gb_setp_ne, len_setp, upd_len, h89, hi_setp, hb_setp, hi_upd, hb_upd, reduceIte, Int.reduceNeg, reduceCtorEq, Int.reduceEq, Nat.reduceEqDiff, Nat.reduceLT, ne_eq, not_false_eq_true, if_true, if_false, gb_all ho hk, gi_all ho]
  exact mu3_22 _ _ _ _ _ _ _ _ (by have := (Bool.and_eq_true_iff.mp ht).2; simpa using this) (des_or _ _ _ _ (Bool.and_eq_true_iff.mp ht).1)

theorem muR_23 (ho : B.ok) (hk : k < B.np) (hs : B.gi k 19 = 3) (hr : trRole B k = false) (ht : trHB B k 23 = true) : trMu (trRow B k 23).2 k < trMu B k := by
  have h89 := len89 ho hk
  have hr2 : trRole (trRow B k 23).2 k = false := (trRole_same (B := B) (by simp [trRow, trN, trAB, trStop, trSettle, trAskAll, trReAll, trAgree, trLearn, trFwd, gb_at, gi_at, gi_setp_ne, gb_setp_ne, len_setp, upd_len, h89, hi_setp, hb_setp, hi_upd, hb_upd, gb_all ho hk, gi_all ho]) (by simp [trRow, trN, trAB, trStop, trSettle, trAskAll, trReAll, trAgree, trLearn, trFwd, gb_at, gi_at, gi_setp_ne, gb_setp_ne, len_setp, upd_len, h89, hi_setp, hb_setp, hi_upd, hb_upd, gb_all ho hk, gi_all ho])).trans hr
  have hs2 : (trRow B k 23).2.gi k 19 = 3 := by simp [trRow, trN, trAB, trStop, trSettle, trAskAll, trReAll, trAgree, trLearn, trFwd, gb_at, gi_at, gi_setp_ne, gb_setp_ne, len_setp, upd_len, h89, hi_setp, hb_setp, hi_upd, hb_upd, gb_all ho hk, gi_all ho, hs]
  rw [trMu_st hr2, trMu_st hr, hs2, hs]
  show trM3 (trRow B k 23).2 k < trM3 B k
  unfold trM3
  simp only [trHB, trAgs] at ht
  simp only [trRow, trN, trAB, trStop, trSettle, trAskAll, trReAll, trAgree, trLearn, trFwd, gb_at, gi_at, gi_setp_ne, gb_setp_ne, len_setp, upd_len, h89, hi_setp, hb_setp, hi_upd, hb_upd, reduceIte, Int.reduceNeg, reduceCtorEq, Int.reduceEq, Nat.reduceEqDiff, Nat.reduceLT, ne_eq, not_false_eq_true, if_true, if_false, gb_all ho hk, gi_all ho]
  exact mu3_23 _ _ _ _ _ _ _ _ (by have := (Bool.and_eq_true_iff.mp ht).2; simpa using this) (des_or _ _ _ _ (Bool.and_eq_true_iff.mp (Bool.and_eq_true_iff.mp ht).1).1)

theorem muR_role (ho : B.ok) (hk : k < B.np) (hr : trRole B k = true) {r : Nat} (hr4 : r < 4) (ht : trHB B k r = true) : trMu (trRow B k r).2 k < trMu B k := by
  have h89 := len89 ho hk
  have h9 : trMu B k = 9 := by unfold trMu; rw [if_pos hr]
  have hr2 : trRole (trRow B k r).2 k = false := trRole_of (by
    rcases (by omega : r = 0 ∨ r = 1 ∨ r = 2 ∨ r = 3) with rfl | rfl | rfl | rfl <;> simp [trRow, trN, trAB, trStop, trSettle, trAskAll, trReAll, trAgree, trLearn, trFwd, gb_at, gi_at, gi_setp_ne, gb_setp_ne, len_setp, upd_len, h89, hi_setp, hb_setp, hi_upd, hb_upd])
  rw [h9, trMu_st hr2]
  have h2 : trM2 (trRow B k r).2 k ≤ 7 := mu2_le _ _ _ _ _ _
  have h3 : trM3 (trRow B k r).2 k ≤ 8 := mu3_le _ _ _ _ _ _ _ _
  have h5 : trM5 (trRow B k r).2 k ≤ 4 := mu5_le _ _ _ _
  have h1 : (trUns (trRow B k r).2 k ((trRow B k r).2.hi 3)).toNat ≤ 1 := Bool.toNat_le _
  repeat' split
  all_goals omega
theorem trR_state {r : Nat} (hr : trR B k = r) (h4 : 4 ≤ r) (h24 : r < 24) : B.gi k 19 = trS r ∧ trHB B k r = true ∧ trRole B k = false := by
  have hy := trR_yes (B := B) (k := k) (by omega)
  have hn := trR_no (B := B) (k := k)
  rw [hr] at hy hn
  refine ⟨?_, hy.2, ?_⟩
  · rcases hy.1 with h | h
    · exfalso
      rcases (by omega : r = 4 ∨ r = 5 ∨ r = 6 ∨ r = 7 ∨ r = 8 ∨ r = 9 ∨ r = 10 ∨ r = 11 ∨ r = 12 ∨ r = 13 ∨ r = 14 ∨ r = 15 ∨ r = 16 ∨ r = 17 ∨ r = 18 ∨ r = 19 ∨ r = 20 ∨ r = 21 ∨ r = 22 ∨ r = 23) with rfl | rfl | rfl | rfl | rfl | rfl | rfl | rfl | rfl | rfl | rfl | rfl | rfl | rfl | rfl | rfl | rfl | rfl | rfl | rfl <;> exact absurd h (by decide)
    · exact h.symm
  · have n0 := hn 0 (by omega)
    have n1 := hn 1 (by omega)
    have n2 := hn 2 (by omega)
    have n3 := hn 3 (by omega)
    simp only [trS, true_or, true_and, Bool.not_eq_true] at n0 n1 n2 n3
    unfold trRole
    rw [n0, n1, n2, n3]
    rfl
theorem trMu_step (ho : B.ok) (hk : k < B.np) (h : (trF B k).1 = true) : trMu (trF B k).2 k < trMu B k := by
  unfold trF at h ⊢
  split
  · rename_i hg
    rw [if_pos hg] at h
    obtain ⟨r, hr⟩ : ∃ r, trR B k = r := ⟨_, rfl⟩
    have hle := trR_le (B := B) (k := k)
    rw [hr] at h hle ⊢
    have hlt : r < 24 := by
      rcases Nat.lt_or_ge r 24 with h1 | h1
      · exact h1
      · have : r = 24 := by omega
        rw [this] at h
        exact absurd h (by simp [trRow])
    have hn := trR_no (B := B) (k := k)
    have hy := trR_yes (B := B) (k := k) (by omega)
    rw [hr] at hn hy
    by_cases h4 : r < 4
    · refine muR_role ho hk ?_ h4 hy.2
      have ht := hy.2
      unfold trRole
      rcases (by omega : r = 0 ∨ r = 1 ∨ r = 2 ∨ r = 3) with rfl | rfl | rfl | rfl <;> rw [ht] <;> simp
    · obtain ⟨hs, ht, hro⟩ := trR_state hr (by omega) hlt
      have n7 : 7 < r → B.gi k 19 = 5 → (B.gb k 33 && !B.gb k 22) = false := fun h7 h5 => by
        have := hn 7 h7
        rw [h5] at this
        simp only [trS, or_true, true_and, Bool.not_eq_true] at this
        exact this
      rcases (by omega : r = 4 ∨ r = 5 ∨ r = 6 ∨ r = 7 ∨ r = 8 ∨ r = 9 ∨ r = 10 ∨ r = 11 ∨ r = 12 ∨ r = 13 ∨ r = 14 ∨ r = 15 ∨ r = 16 ∨ r = 17 ∨ r = 18 ∨ r = 19 ∨ r = 20 ∨ r = 21 ∨ r = 22 ∨ r = 23) with rfl | rfl | rfl | rfl | rfl | rfl | rfl | rfl | rfl | rfl | rfl | rfl | rfl | rfl | rfl | rfl | rfl | rfl | rfl | rfl
      · exact muR_4 ho hk hs hro ht
      · exact muR_5 ho hk hs hro ht
      · exact muR_6 ho hk hs hro ht
      · exact muR_7 ho hk hs hro ht
      · exact muR_8 ho hk hs hro ht (n7 (by omega) hs)
      · exact muR_9 ho hk hs hro ht
      · exact muR_10 ho hk hs hro ht (n7 (by omega) hs)
      · exact muR_11 ho hk hs hro ht
      · exact muR_12 ho hk hs hro ht
      · exact muR_13 ho hk hs hro ht
      · exact muR_14 ho hk hs hro ht
      · exact muR_15 ho hk hs hro ht
      · exact muR_16 ho hk hs hro ht
      · exact muR_17 ho hk hs hro ht
      · exact muR_18 ho hk hs hro ht
      · exact muR_19 ho hk hs hro ht
      · exact muR_20 ho hk hs hro ht
      · exact muR_21 ho hk hs hro ht
      · exact muR_22 ho hk hs hro ht
      · exact muR_23 ho hk hs hro ht
  · rename_i hg
    rw [if_neg hg] at h
    exact absurd h (by simp)
end


theorem trF_none {B : Br} {k : Nat} (h : (trF B k).1 = false) : trF B k = (false, B) := by
  unfold trF at h ⊢
  split
  · rename_i hg
    rw [if_pos hg] at h
    unfold trRow at h ⊢
    split
    · rfl
    · rename_i h2
      rw [if_neg h2] at h
      split at h <;> exact absurd h (by simp)
  · rfl
/-- Behind n steps. -/
def trIt (B : Br) (k : Nat) : Nat → Br
  | 0 => B
  | n + 1 => (trF (trIt B k n) k).2
end Go.Proofs.Ytnblchilgaimhaa
