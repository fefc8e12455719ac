/- Messages as plain data: their bytes; what bytes tell. No statement is proved here. -/
import Derived.Test.YtdfaagchlnkpnaaOctNs
import Derived.Test.YtdfaagchlnkpnaaTimC
namespace Go.Proofs.Ytdfaagchlnkpnaa
open Go.RowKit
set_option linter.unusedVariables false
set_option linter.unusedSimpArgs false

/-- A message, by its fields. -/
structure Mg where
  kd : Int
  ch : Bool
  ak : Bool
  pr : Bool
  ag : Bool
  ln : Bool
  fw : Bool
  ro : Int
  r : Int
  c : Int
  b : Int
  p : Int
  x : Int
  a : Int
  m : Int
  h : Int
  d : Int
deriving DecidableEq
def Mg.zero : Mg := ⟨0, false, false, false, false, false, false, 0, 0, 0, 0, 0, 0, 0, 0, 0, 0⟩
def Mg.tcn : Mg := ⟨1, false, false, false, false, false, false, 0, 0, 0, 0, 0, 0, 0, 0, 0, 0⟩
structure Mg.ok (q : Mg) : Prop where
  kd : -9223372036854775808 ≤ q.kd ∧ q.kd ≤ 9223372036854775807
  ro : -9223372036854775808 ≤ q.ro ∧ q.ro ≤ 9223372036854775807
  r : 0 ≤ q.r ∧ q.r < 18446744073709551616
  c : 0 ≤ q.c ∧ q.c < 4294967296
  b : 0 ≤ q.b ∧ q.b < 18446744073709551616
  p : 0 ≤ q.p ∧ q.p < 65536
  x : 0 ≤ q.x ∧ q.x < 65536
  a : -9223372036854775808 ≤ q.a ∧ q.a ≤ 9223372036854775807
  m : -9223372036854775808 ≤ q.m ∧ q.m ≤ 9223372036854775807
  h : -9223372036854775808 ≤ q.h ∧ q.h ≤ 9223372036854775807
  d : -9223372036854775808 ≤ q.d ∧ q.d ≤ 9223372036854775807

def bitV (s : Bool) (n : Int) : Int := if s then n else 0
def roN (ro : Int) : Int := if ro = 1 ∨ ro = 2 then 1 else if ro = 3 then 2 else if ro = 4 then 3 else 0
def roB (n : Int) : Int := if n = 1 then 1 else if n = 2 then 3 else if n = 3 then 4 else 0
/-- The byte of flags. -/
def fl2 (ch ak : Bool) : Int := bits .or .u64 (bitV ch 1) (bitV ak 128)
def fl6 (ch ak pr ag ln fw : Bool) (rn : Int) : Int := bits .or .u64 (fl2 ch ak) (bits .or .u64 (bits .or .u64 (bits .or .u64 (bits .or .u64 (bitV pr 2) (rn * 4)) (bitV ln 16)) (bitV fw 32)) (bitV ag 64))
def flagsN (q : Mg) : Int := if q.kd = 2 then fl6 q.ch q.ak q.pr q.ag q.ln q.fw (roN q.ro) else fl2 q.ch q.ak
def isB (n k : Int) : Bool := bits .and .u64 n k != 0
/-- What a byte of flags says. -/
def flagged (kd n : Int) : Mg := if kd = 2 then { Mg.zero with kd := kd, ch := isB n 1, ak := isB n 128, pr := isB n 2, ag := isB n 64, ln := isB n 16, fw := isB n 32, ro := roB (bits .and .u64 (n / 4) 3) } else { Mg.zero with kd := kd, ch := isB n 1, ak := isB n 128, ro := 4 }

theorem roN_rg (ro : Int) : roN ro = 0 ∨ roN ro = 1 ∨ roN ro = 2 ∨ roN ro = 3 := by unfold roN; split <;> (try split) <;> (try split) <;> simp
theorem fl2_sum : ∀ ch ak : Bool, fl2 ch ak = bitV ch 1 + bitV ak 128 := by decide +kernel
theorem fl6_sum0 : ∀ ch ak pr ag ln fw : Bool, ∀ rn : Fin 4, fl6 ch ak pr ag ln fw ((rn.val : Nat) : Int) = bitV ch 1 + bitV ak 128 + bitV pr 2 + bitV ln 16 + bitV fw 32 + bitV ag 64 + ((rn.val : Nat) : Int) * 4 := by decide +kernel
theorem fl2_back : ∀ ch ak : Bool, isB (fl2 ch ak) 1 = ch ∧ isB (fl2 ch ak) 128 = ak := by decide +kernel
theorem fl6_back0 : ∀ ch ak pr ag ln fw : Bool, ∀ rn : Fin 4, isB (fl6 ch ak pr ag ln fw ((rn.val : Nat) : Int)) 1 = ch ∧ isB (fl6 ch ak pr ag ln fw ((rn.val : Nat) : Int)) 128 = ak ∧ isB (fl6 ch ak pr ag ln fw ((rn.val : Nat) : Int)) 2 = pr ∧ isB (fl6 ch ak pr ag ln fw ((rn.val : Nat) : Int)) 64 = ag ∧ isB (fl6 ch ak pr ag ln fw ((rn.val : Nat) : Int)) 16 = ln ∧ isB (fl6 ch ak pr ag ln fw ((rn.val : Nat) : Int)) 32 = fw ∧ bits .and .u64 (fl6 ch ak pr ag ln fw ((rn.val : Nat) : Int) / 4) 3 = ((rn.val : Nat) : Int) := by decide +kernel
theorem roN_fin (ro : Int) : ∃ rn : Fin 4, roN ro = ((rn.val : Nat) : Int) := by
  rcases roN_rg ro with h | h | h | h
  · exact ⟨0, h⟩
  · exact ⟨1, h⟩
  · exact ⟨2, h⟩
  · exact ⟨3, h⟩
theorem fl6_sum (ch ak pr ag ln fw : Bool) (ro : Int) : fl6 ch ak pr ag ln fw (roN ro) = bitV ch 1 + bitV ak 128 + bitV pr 2 + bitV ln 16 + bitV fw 32 + bitV ag 64 + roN ro * 4 := by
  obtain ⟨rn, h⟩ := roN_fin ro
  rw [h]; exact fl6_sum0 ch ak pr ag ln fw rn
theorem bitV_rg (s : Bool) (n : Int) (h : 0 ≤ n) : 0 ≤ bitV s n ∧ bitV s n ≤ n := by unfold bitV; split <;> omega
theorem flagsN_rg (q : Mg) : 0 ≤ flagsN q ∧ flagsN q < 256 := by
  unfold flagsN
  have h1 := bitV_rg q.ch 1 (by decide)
  have h2 := bitV_rg q.ak 128 (by decide)
  split
  · have h3 := bitV_rg q.pr 2 (by decide)
    have h4 := bitV_rg q.ln 16 (by decide)
    have h5 := bitV_rg q.fw 32 (by decide)
    have h6 := bitV_rg q.ag 64 (by decide)
    have h7 := roN_rg q.ro
    rw [fl6_sum]; omega
  · rw [fl2_sum]; omega
theorem roB_roN (ro : Int) : roB (roN ro) = if ro = 1 ∨ ro = 2 then 1 else if ro = 3 then 3 else if ro = 4 then 4 else 0 := by
  unfold roN
  split
  · rfl
  · split
    · rfl
    · split <;> rfl
/-- What is plain of a message. -/
def fromV (x : Int) : Int := (x + 128) / 256
def told (s : Int) : Int := fromV (toV s)
def plainM (q : Mg) : Mg :=
  if q.kd = 1 then Mg.tcn else if q.kd = 0 ∨ q.kd = 2 then { flagged q.kd (flagsN q) with r := q.r, c := q.c, b := q.b, p := q.p, x := 0, a := told q.a, m := told q.m, h := told q.h, d := told q.d } else Mg.zero

theorem flagged_flags (q : Mg) : flagged q.kd (flagsN q) = if q.kd = 2 then { Mg.zero with kd := q.kd, ch := q.ch, ak := q.ak, pr := q.pr, ag := q.ag, ln := q.ln, fw := q.fw, ro := roB (roN q.ro) } else { Mg.zero with kd := q.kd, ch := q.ch, ak := q.ak, ro := 4 } := by
  unfold flagged flagsN
  split
  · obtain ⟨rn, h⟩ := roN_fin q.ro
    obtain ⟨a, b, c, d, e, f, g⟩ := fl6_back0 q.ch q.ak q.pr q.ag q.ln q.fw rn
    rw [h, a, b, c, d, e, f, g]
  · obtain ⟨a, b⟩ := fl2_back q.ch q.ak
    rw [a, b]

/-- A message's bytes. -/
def headL (kd : Int) : List Int := if kd = 0 then [0, 0, 0, 0] else if kd = 1 then [0, 0, 0, 128] else if kd = 2 then [0, 0, 2, 2] else []
def e1 (q : Mg) : List Int := headL q.kd ++ bts (flagsN q).toNat 1
def e2 (q : Mg) : List Int := e1 q ++ bts q.r.toNat 8
def e3 (q : Mg) : List Int := e2 q ++ bts q.c.toNat 4
def e4 (q : Mg) : List Int := e3 q ++ bts q.b.toNat 8
def e5 (q : Mg) : List Int := e4 q ++ bts q.p.toNat 2
def tm (q : Mg) (n : Nat) : Int := if n = 0 then q.a else if n = 1 then q.m else if n = 2 then q.h else q.d
def e6 (q : Mg) : Nat → List Int
  | 0 => e5 q
  | n + 1 => e6 q n ++ bts (toV (tm q n)).toNat 2
def encL (q : Mg) : List Int := if q.kd = 0 then e6 q 4 else if q.kd = 2 then e6 q 4 ++ [0] else headL q.kd
theorem headL_len (kd : Int) : (headL kd).length = if kd = 0 ∨ kd = 1 ∨ kd = 2 then 4 else 0 := by
  unfold headL
  by_cases h0 : kd = 0
  · rw [if_pos h0, if_pos (.inl h0)]; rfl
  · rw [if_neg h0]
    by_cases h1 : kd = 1
    · rw [if_pos h1, if_pos (.inr (.inl h1))]; rfl
    · rw [if_neg h1]
      by_cases h2 : kd = 2
      · rw [if_pos h2, if_pos (.inr (.inr h2))]; rfl
      · rw [if_neg h2, if_neg (by simp [h0, h1, h2])]; rfl
theorem e6_len (q : Mg) (h : q.kd = 0 ∨ q.kd = 2) : (e5 q).length = 27 ∧ (e6 q 4).length = 35 := by
  have h4 : (headL q.kd).length = 4 := by rw [headL_len, if_pos (by omega)]
  refine ⟨?_, ?_⟩
  · simp [e5, e4, e3, e2, e1, bts_len, h4]
  · simp [e6, e5, e4, e3, e2, e1, bts_len, h4]
theorem encL_len (q : Mg) : (encL q).length = if q.kd = 0 then 35 else if q.kd = 1 then 4 else if q.kd = 2 then 36 else 0 := by
  unfold encL
  by_cases h0 : q.kd = 0
  · rw [if_pos h0, if_pos h0]; exact (e6_len q (.inl h0)).2
  · rw [if_neg h0, if_neg h0]
    by_cases h2 : q.kd = 2
    · rw [if_pos h2, if_neg (by omega), if_pos h2]; simp [(e6_len q (.inr h2)).2]
    · rw [if_neg h2, headL_len]
      by_cases h1 : q.kd = 1
      · rw [if_pos h1, if_pos (by omega)]
      · rw [if_neg h1, if_neg (by omega), if_neg h2]

/-- The number in some bytes. -/
def nu (xs : List Int) (i k : Nat) : Int := num ((xs.drop i).take k)
def decB (kd : Int) (n : Nat) (xs : List Int) : Mg × Int :=
  if xs.length < n then (Mg.zero, 2) else if kd = 0 ∧ ¬ nu xs 27 2 < nu xs 29 2 then (Mg.zero, 5) else
  ({ flagged kd (nu xs 4 1) with r := nu xs 5 8, c := nu xs 13 4, b := nu xs 17 8, p := nu xs 25 2, x := 0, a := fromV (nu xs 27 2), m := fromV (nu xs 29 2), h := fromV (nu xs 31 2), d := fromV (nu xs 33 2) }, 0)
/-- What bytes tell. -/
def decF (xs : List Int) : Mg × Int :=
  if xs.length < 4 then (Mg.zero, 2) else if nu xs 0 2 ≠ 0 then (Mg.zero, 3) else if nu xs 3 1 = 128 then (Mg.tcn, 0) else
  if nu xs 3 1 = 2 ∧ 2 ≤ nu xs 2 1 then decB 2 36 xs else if nu xs 3 1 ≠ 0 then (Mg.zero, 4) else decB 0 35 xs

theorem num_bts (k : Nat) : ∀ n, n < 256 ^ k → num (bts n k) = n := by
  induction k with
  | zero => intro n h; simp at h; subst h; rfl
  | succ k ih =>
    intro n h
    show num (bts (n / 256) k ++ [((n % 256 : Nat) : Int)]) = n
    rw [num_snoc, ih (n / 256) (by rw [Nat.pow_succ] at h; omega)]
    omega
theorem nu_mid (l r : List Int) (n k i : Nat) (hi : l.length = i) (hn : n < 256 ^ k) : nu (l ++ (bts n k ++ r)) i k = n := by
  unfold nu
  rw [← hi, List.drop_left, List.take_append_of_le_length (by rw [bts_len]; exact Nat.le_refl _), List.take_of_length_le (by rw [bts_len]; exact Nat.le_refl _)]
  exact num_bts k n hn
theorem nu_midI (l r : List Int) (n : Int) (k i : Nat) (hi : l.length = i) (h0 : 0 ≤ n) (hn : n < ((256 ^ k : Nat) : Int)) : nu (l ++ (bts n.toNat k ++ r)) i k = n := by
  rw [nu_mid l r n.toNat k i hi (by omega)]; omega
theorem nu_snd (l r : List Int) (i k : Nat) : nu (l ++ r) (l.length + i) k = nu r i k := by unfold nu; rw [List.drop_append, List.drop_eq_nil_of_le (by omega)]; simp

theorem toV_rg (s : Int) : 0 ≤ toV s ∧ toV s ≤ 65280 ∧ toV s % 256 = 0 := by unfold toV; split <;> (try split) <;> omega
theorem told_rg (s : Int) : 0 ≤ told s ∧ told s ≤ 255 ∧ toV s = told s * 256 := by have := toV_rg s; unfold told fromV; omega
theorem toV_small (s : Int) (h0 : 0 ≤ s) (h1 : s ≤ 255) : toV s = s * 256 := by unfold toV; rw [if_neg (by omega), if_neg (by omega)]
theorem told_told (s : Int) : told (told s) = told s := by have h := told_rg s; have := toV_small (told s) h.1 h.2.1; unfold told fromV at *; omega

theorem dec_e6 (q : Mg) (hq : q.ok) (hk : q.kd = 0 ∨ q.kd = 2) (t : List Int) (ht : q.kd = 2 → 1 ≤ t.length) :
    decF (e6 q 4 ++ t) = if q.kd = 0 ∧ ¬ toV q.a < toV q.m then (Mg.zero, 5) else (plainM q, 0) := by
  have hfl := flagsN_rg q
  have hv := fun s => toV_rg s
  have h4 : (headL q.kd).length = 4 := by rw [headL_len, if_pos (by omega)]
  have n4 : nu (e6 q 4 ++ t) 4 1 = (flagsN q) := by
    obtain ⟨rest, hr⟩ : ∃ rest, e6 q 4 ++ t = headL q.kd ++ (bts (flagsN q).toNat 1 ++ rest) := ⟨_, by simp only [e6, e5, e4, e3, e2, e1, List.append_assoc]; rfl⟩
    rw [hr]
    exact nu_midI _ _ _ _ _ (by simp [e6, e5, e4, e3, e2, e1, bts_len, h4]) hfl.1 (by have := hfl.2; simpa using this)
  have n5 : nu (e6 q 4 ++ t) 5 8 = q.r := by
    obtain ⟨rest, hr⟩ : ∃ rest, e6 q 4 ++ t = e1 q ++ (bts q.r.toNat 8 ++ rest) := ⟨_, by simp only [e6, e5, e4, e3, e2, List.append_assoc]; rfl⟩
    rw [hr]
    exact nu_midI _ _ _ _ _ (by simp [e6, e5, e4, e3, e2, e1, bts_len, h4]) hq.r.1 (by have := hq.r.2; simpa using this)
  have n13 : nu (e6 q 4 ++ t) 13 4 = q.c := by
    obtain ⟨rest, hr⟩ : ∃ rest, e6 q 4 ++ t = e2 q ++ (bts q.c.toNat 4 ++ rest) := ⟨_, by simp only [e6, e5, e4, e3, List.append_assoc]; rfl⟩
    rw [hr]
    exact nu_midI _ _ _ _ _ (by simp [e6, e5, e4, e3, e2, e1, bts_len, h4]) hq.c.1 (by have := hq.c.2; simpa using this)
  have n17 : nu (e6 q 4 ++ t) 17 8 = q.b := by
    obtain ⟨rest, hr⟩ : ∃ rest, e6 q 4 ++ t = e3 q ++ (bts q.b.toNat 8 ++ rest) := ⟨_, by simp only [e6, e5, e4, List.append_assoc]; rfl⟩
    rw [hr]
    exact nu_midI _ _ _ _ _ (by simp [e6, e5, e4, e3, e2, e1, bts_len, h4]) hq.b.1 (by have := hq.b.2; simpa using this)
  have n25 : nu (e6 q 4 ++ t) 25 2 = q.p := by
    obtain ⟨rest, hr⟩ : ∃ rest, e6 q 4 ++ t = e4 q ++ (bts q.p.toNat 2 ++ rest) := ⟨_, by simp only [e6, e5, List.append_assoc]; rfl⟩
    rw [hr]
    exact nu_midI _ _ _ _ _ (by simp [e6, e5, e4, e3, e2, e1, bts_len, h4]) hq.p.1 (by have := hq.p.2; simpa using this)
  have n27 : nu (e6 q 4 ++ t) 27 2 = (toV (tm q 0)) := by
    obtain ⟨rest, hr⟩ : ∃ rest, e6 q 4 ++ t = e5 q ++ (bts (toV (tm q 0)).toNat 2 ++ rest) := ⟨_, by simp only [e6, List.append_assoc]; rfl⟩
    rw [hr]
    exact nu_midI _ _ _ _ _ (by simp [e6, e5, e4, e3, e2, e1, bts_len, h4]) (hv _).1 (by have := (hv (tm q 0)).2.1; omega)
  have n29 : nu (e6 q 4 ++ t) 29 2 = (toV (tm q 1)) := by
    obtain ⟨rest, hr⟩ : ∃ rest, e6 q 4 ++ t = e6 q 1 ++ (bts (toV (tm q 1)).toNat 2 ++ rest) := ⟨_, by rw [show e6 q 4 = e6 q 3 ++ bts (toV (tm q 3)).toNat 2 from rfl, show e6 q 3 = e6 q 2 ++ bts (toV (tm q 2)).toNat 2 from rfl, show e6 q 2 = e6 q 1 ++ bts (toV (tm q 1)).toNat 2 from rfl]; simp only [List.append_assoc]; rfl⟩
    rw [hr]
    exact nu_midI _ _ _ _ _ (by simp [e6, e5, e4, e3, e2, e1, bts_len, h4]) (hv _).1 (by have := (hv (tm q 1)).2.1; omega)
  have n31 : nu (e6 q 4 ++ t) 31 2 = (toV (tm q 2)) := by
    obtain ⟨rest, hr⟩ : ∃ rest, e6 q 4 ++ t = e6 q 2 ++ (bts (toV (tm q 2)).toNat 2 ++ rest) := ⟨_, by rw [show e6 q 4 = e6 q 3 ++ bts (toV (tm q 3)).toNat 2 from rfl, show e6 q 3 = e6 q 2 ++ bts (toV (tm q 2)).toNat 2 from rfl]; simp only [List.append_assoc]; rfl⟩
    rw [hr]
    exact nu_midI _ _ _ _ _ (by simp [e6, e5, e4, e3, e2, e1, bts_len, h4]) (hv _).1 (by have := (hv (tm q 2)).2.1; omega)
  have n33 : nu (e6 q 4 ++ t) 33 2 = (toV (tm q 3)) := by
    obtain ⟨rest, hr⟩ : ∃ rest, e6 q 4 ++ t = e6 q 3 ++ (bts (toV (tm q 3)).toNat 2 ++ rest) := ⟨_, by rw [show e6 q 4 = e6 q 3 ++ bts (toV (tm q 3)).toNat 2 from rfl]; simp only [List.append_assoc]; rfl⟩
    rw [hr]
    exact nu_midI _ _ _ _ _ (by simp [e6, e5, e4, e3, e2, e1, bts_len, h4]) (hv _).1 (by have := (hv (tm q 3)).2.1; omega)
  have hlen : (e6 q 4 ++ t).length = 35 + t.length := by rw [List.length_append, (e6_len q hk).2]
  obtain ⟨rest, hr⟩ : ∃ rest, e6 q 4 ++ t = headL q.kd ++ rest := ⟨_, by simp only [e6, e5, e4, e3, e2, e1, List.append_assoc]; rfl⟩
  have hfin : plainM q = { flagged q.kd (flagsN q) with r := q.r, c := q.c, b := q.b, p := q.p, x := 0, a := fromV (toV (tm q 0)), m := fromV (toV (tm q 1)), h := fromV (toV (tm q 2)), d := fromV (toV (tm q 3)) } := by
    unfold plainM
    rw [if_neg (by omega), if_pos hk]
    rfl
  rcases hk with hk | hk
  · have m0 : nu (e6 q 4 ++ t) 0 2 = 0 := by rw [hr, hk]; rfl
    have m3 : nu (e6 q 4 ++ t) 3 1 = 0 := by rw [hr, hk]; rfl
    unfold decF decB
    rw [if_neg (by omega), m0, if_neg (by decide), m3, if_neg (by decide), if_neg (by omega), if_neg (by decide), if_neg (by omega), n27, n29, n4, n5, n13, n17, n25, n31, n33, hfin, hk]
    rfl
  · have ht1 := ht hk
    have m0 : nu (e6 q 4 ++ t) 0 2 = 0 := by rw [hr, hk]; rfl
    have m3 : nu (e6 q 4 ++ t) 3 1 = 2 := by rw [hr, hk]; rfl
    have m2 : nu (e6 q 4 ++ t) 2 1 = 2 := by rw [hr, hk]; rfl
    unfold decF decB
    rw [if_neg (by omega), m0, if_neg (by decide), m3, if_neg (by decide), m2, if_pos ⟨rfl, by decide⟩, if_neg (by omega), if_neg (by omega), n27, n29, n4, n5, n13, n17, n25, n31, n33, hfin, if_neg (by omega), hk]
theorem dec_enc (q : Mg) (hq : q.ok) (hk : q.kd = 0 ∨ q.kd = 1 ∨ q.kd = 2) (t : List Int) : decF (encL q ++ t) = if q.kd = 0 ∧ ¬ toV q.a < toV q.m then (Mg.zero, 5) else (plainM q, 0) := by
  unfold encL
  rcases hk with hk | hk | hk
  · rw [if_pos hk]
    exact dec_e6 q hq (.inl hk) t (by omega)
  · rw [if_neg (by omega), if_neg (by omega), if_neg (by omega)]
    unfold plainM
    rw [if_pos hk, hk]
    unfold decF
    rw [if_neg (by simp [headL])]
    rfl
  · rw [if_neg (by omega), if_pos hk, List.append_assoc]
    exact dec_e6 q hq (.inr hk) _ (by simp)
/-- Cut off. -/
theorem nu_take (xs : List Int) (j i k : Nat) (h : i + k ≤ j) : nu (xs.take j) i k = nu xs i k := by
  unfold nu
  rw [List.drop_take, List.take_take, Nat.min_eq_left (by omega)]
theorem dec_cut (q : Mg) (hk : q.kd = 0 ∨ q.kd = 1 ∨ q.kd = 2) (j : Nat) (hj : j < (encL q).length) : decF ((encL q).take j) = (Mg.zero, 2) := by
  have hlt : ((encL q).take j).length = j := by rw [List.length_take]; omega
  unfold decF
  by_cases h4 : j < 4
  · rw [if_pos (by omega)]
  have hle := encL_len q
  rcases hk with hk | hk | hk
  · rw [hk] at hle
    obtain ⟨rest, hr⟩ : ∃ rest, encL q = headL 0 ++ rest := ⟨_, by unfold encL; rw [if_pos hk]; simp only [e6, e5, e4, e3, e2, e1, List.append_assoc, hk]; rfl⟩
    have m0 : nu (encL q) 0 2 = 0 := by rw [hr]; rfl
    have m3 : nu (encL q) 3 1 = 0 := by rw [hr]; rfl
    rw [if_neg (by omega), nu_take _ _ _ _ (by omega), m0, if_neg (by decide), nu_take _ _ _ _ (by omega), m3, if_neg (by decide), if_neg (by omega), if_neg (by decide)]
    unfold decB
    rw [if_pos (by simp at hle; omega)]
  · rw [hk] at hle
    simp at hle
    omega
  · rw [hk] at hle
    obtain ⟨rest, hr⟩ : ∃ rest, encL q = headL 2 ++ rest := ⟨_, by unfold encL; rw [if_neg (by omega), if_pos hk]; simp only [e6, e5, e4, e3, e2, e1, List.append_assoc, hk]; rfl⟩
    have m0 : nu (encL q) 0 2 = 0 := by rw [hr]; rfl
    have m3 : nu (encL q) 3 1 = 2 := by rw [hr]; rfl
    have m2 : nu (encL q) 2 1 = 2 := by rw [hr]; rfl
    rw [if_neg (by omega), nu_take _ _ _ _ (by omega), m0, if_neg (by decide), nu_take _ _ _ _ (by omega), m3, if_neg (by decide), nu_take _ _ _ _ (by omega), m2, if_pos ⟨rfl, by decide⟩]
    unfold decB
    rw [if_pos (by simp at hle; omega)]
/-- Plain twice. -/
theorem plain_kd (q : Mg) (hk : q.kd = 0 ∨ q.kd = 1 ∨ q.kd = 2) : (plainM q).kd = q.kd := by
  unfold plainM
  rcases hk with hk | hk | hk
  · rw [if_neg (by omega), if_pos (.inl hk)]; unfold flagged; split <;> rfl
  · rw [if_pos hk, hk]; rfl
  · rw [if_neg (by omega), if_pos (.inr hk)]; unfold flagged; split <;> rfl
theorem roB_twice (ro : Int) : roB (roN (roB (roN ro))) = roB (roN ro) := by
  rw [roB_roN, roB_roN]
  split
  · rfl
  · split
    · rfl
    · split <;> rfl
theorem plain_plain (q : Mg) (hk : q.kd = 0 ∨ q.kd = 1 ∨ q.kd = 2) : plainM (plainM q) = plainM q := by
  rcases hk with hk | hk | hk
  · have e : plainM q = { Mg.zero with kd := 0, ch := q.ch, ak := q.ak, ro := 4, r := q.r, c := q.c, b := q.b, p := q.p, a := told q.a, m := told q.m, h := told q.h, d := told q.d } := by
      unfold plainM
      rw [if_neg (by omega), if_pos (.inl hk), flagged_flags, if_neg (by omega), hk]
      rfl
    rw [e]
    unfold plainM
    rw [if_neg (show ¬ (0 : Int) = 1 by decide), if_pos (.inl rfl), flagged_flags, if_neg (show ¬ (0 : Int) = 2 by decide)]
    simp only [told_told]
    rfl
  · unfold plainM
    rw [if_pos hk]
    exact if_pos rfl
  · have e : plainM q = { Mg.zero with kd := 2, ch := q.ch, ak := q.ak, pr := q.pr, ag := q.ag, ln := q.ln, fw := q.fw, ro := roB (roN q.ro), r := q.r, c := q.c, b := q.b, p := q.p, a := told q.a, m := told q.m, h := told q.h, d := told q.d } := by
      unfold plainM
      rw [if_neg (by omega), if_pos (.inr hk), flagged_flags, if_pos hk, hk]
      rfl
    rw [e]
    unfold plainM
    rw [if_neg (show ¬ (2 : Int) = 1 by decide), if_pos (.inr rfl), flagged_flags, if_pos rfl]
    simp only [told_told, roB_twice]
    rfl

end Go.Proofs.Ytdfaagchlnkpnaa
