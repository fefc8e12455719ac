/- What is wrapped is opened. No statement is proved here. -/
import Derived.Test.YtdfaagchlnkpnaaLlE
namespace Go.Proofs.Ytdfaagchlnkpnaa
open Go.RowKit Go.BigFrame Go.WideShapes Go.ChangeShapes Go.Deep
set_option linter.unusedVariables false
set_option linter.unusedSimpArgs false

theorem num_bts48 (k : Nat) : ∀ n, num (bts n k) = ((n % 256 ^ k : Nat) : Int) := by
  induction k with
  | zero => intro n; simp [bts, num, Nat.mod_one]
  | succ k ih =>
    intro n
    rw [bts, num_snoc, ih, Nat.pow_succ, Nat.mul_comm, Nat.mod_mul]
    omega
/-- The sender, as the frame says it. -/
def low48 (s : Int) : Int := ((s.toNat % 256 ^ 6 : Nat) : Int)
theorem enc_pos (q : Mg) (hk : q.kd = 0 ∨ q.kd = 1 ∨ q.kd = 2) : (encL q).length ≠ 0 := by
  rw [encL_len]
  rcases hk with hk | hk | hk <;> simp [hk]
theorem wrap_parts (s : Int) (q : Mg) (hk : q.kd = 0 ∨ q.kd = 1 ∨ q.kd = 2) (t : List Int) :
    wrapL s q ++ t = [1, 128, 194, 0, 0, 0] ++ (bts s.toNat 6 ++ ([0, ((3 + (encL q).length : Nat) : Int)] ++ ([66, 66, 3] ++ (encL q ++ (zrs (60 - (17 + (encL q).length)) ++ t))))) := by
  unfold wrapL
  rw [if_neg (enc_pos q hk)]
  simp only [f3, f2, f1, List.append_assoc]
theorem open_wrap (s : Int) (q : Mg) (hq : q.ok) (hk : q.kd = 0 ∨ q.kd = 1 ∨ q.kd = 2) (t : List Int) :
    openF (wrapL s q ++ t) = if q.kd = 0 ∧ ¬ toV q.a < toV q.m then (0, Mg.zero, 5) else (low48 s, plainM q, 0) := by
  have hd := dec_enc q hq hk []
  rw [List.append_nil] at hd
  have hn := encL_le q
  rw [wrap_parts s q hk t]
  generalize zrs (60 - (17 + (encL q).length)) ++ t = T
  obtain ⟨E, hE⟩ : ∃ E, encL q = E := ⟨_, rfl⟩
  rw [hE] at hd hn ⊢
  obtain ⟨S, hS⟩ : ∃ S, bts s.toNat 6 = S := ⟨_, rfl⟩
  have hSl : S.length = 6 := by rw [← hS, bts_len]
  have hSn : num S = low48 s := by rw [← hS, num_bts48]; rfl
  rw [hS]
  obtain ⟨xs, hx⟩ : ∃ xs, [1, 128, 194, 0, 0, 0] ++ (S ++ ([0, ((3 + E.length : Nat) : Int)] ++ ([66, 66, 3] ++ (E ++ T)))) = xs := ⟨_, rfl⟩
  have hlen : xs.length = 17 + E.length + T.length := by rw [← hx]; simp; omega
  have t6 : xs.take 6 = [1, 128, 194, 0, 0, 0] := by rw [← hx]; exact List.take_left' rfl
  have d6 : xs.drop 6 = S ++ ([0, ((3 + E.length : Nat) : Int)] ++ ([66, 66, 3] ++ (E ++ T))) := by rw [← hx]; exact List.drop_left' rfl
  have d12 : xs.drop 12 = [0, ((3 + E.length : Nat) : Int)] ++ ([66, 66, 3] ++ (E ++ T)) := by rw [show 12 = 6 + 6 from rfl, ← List.drop_drop, d6]; exact List.drop_left' hSl
  have d14 : xs.drop 14 = [66, 66, 3] ++ (E ++ T) := by rw [show 14 = 12 + 2 from rfl, ← List.drop_drop, d12]; exact List.drop_left' rfl
  have d17 : xs.drop 17 = E ++ T := by rw [show 17 = 14 + 3 from rfl, ← List.drop_drop, d14]; exact List.drop_left' rfl
  rw [hx]
  have m12 : num ((xs.drop 12).take 2) = ((3 + E.length : Nat) : Int) := by
    rw [d12, show List.take 2 ([0, ((3 + E.length : Nat) : Int)] ++ ([66, 66, 3] ++ (E ++ T))) = [0, ((3 + E.length : Nat) : Int)] from rfl]
    simp [num]
  have hno : ¬ (num (xs.take 6) ≠ 1652522221568 ∨ num ((xs.drop 14).take 3) ≠ 4342275 ∨ 14 + num ((xs.drop 12).take 2) < 17 ∨ (xs.length : Int) < 14 + num ((xs.drop 12).take 2)) := by
    rw [m12, t6, d14, show List.take 3 ([66, 66, 3] ++ (E ++ T)) = [66, 66, 3] from rfl]
    have n1 : num [1, 128, 194, 0, 0, 0] = 1652522221568 := by decide +kernel
    have n2 : num [66, 66, 3] = 4342275 := by decide +kernel
    rw [n1, n2]
    omega
  have e1 : (xs.drop 17).take (num ((xs.drop 12).take 2) - 3).toNat = E := by
    rw [m12, d17]
    exact List.take_left' (by omega)
  unfold openF
  rw [if_neg (by omega), if_neg hno, e1, hd, show (xs.drop 6).take 6 = S by rw [d6]; exact List.take_left' hSl, hSn]
  split
  · rw [if_pos (by decide)]
  · rw [if_neg (by simp)]

end Go.Proofs.Ytdfaagchlnkpnaa
