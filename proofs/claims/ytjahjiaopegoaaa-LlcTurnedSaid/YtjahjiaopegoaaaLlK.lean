/- Frames that are none. No statement is proved here. -/
import Derived.Test.YtjahjiaopegoaaaLlJ
namespace Go.Proofs.Ytjahjiaopegoaaa
open Go.RowKit Go.BigFrame Go.WideShapes Go.ChangeShapes Go.Deep
set_option linter.unusedVariables false
set_option linter.unusedSimpArgs false

theorem open_no (A S N K R : List Int) (hA : A.length = 6) (hS : S.length = 6) (hN : N.length = 2) (hK : K.length = 3) (h : num A ≠ 1652522221568 ∨ num K ≠ 4342275 ∨ 14 + num N < 17 ∨ (17 + R.length : Int) < 14 + num N) :
    openF (A ++ (S ++ (N ++ (K ++ R)))) = (0, Mg.zero, 3) := by
  obtain ⟨xs, hx⟩ : ∃ xs, A ++ (S ++ (N ++ (K ++ R))) = xs := ⟨_, rfl⟩
  have hlen : xs.length = 17 + R.length := by rw [← hx]; simp; omega
  have t6 : xs.take 6 = A := by rw [← hx]; exact List.take_left' hA
  have d6 : xs.drop 6 = S ++ (N ++ (K ++ R)) := by rw [← hx]; exact List.drop_left' hA
  have d12 : xs.drop 12 = N ++ (K ++ R) := by rw [show 12 = 6 + 6 from rfl, ← List.drop_drop, d6]; exact List.drop_left' hS
  have d14 : xs.drop 14 = K ++ R := by rw [show 14 = 12 + 2 from rfl, ← List.drop_drop, d12]; exact List.drop_left' hN
  have t12 : (xs.drop 12).take 2 = N := by rw [d12]; exact List.take_left' hN
  have t14 : (xs.drop 14).take 3 = K := by rw [d14]; exact List.take_left' hK
  rw [hx]
  unfold openF
  rw [if_neg (by omega), t6, t12, t14, hlen, if_pos (by rcases h with h | h | h | h; exact .inl h; exact .inr (.inl h); exact .inr (.inr (.inl h)); exact .inr (.inr (.inr (by omega))))]
theorem open_turned (s : Int) (q : Mg) (hk : q.kd = 0 ∨ q.kd = 1 ∨ q.kd = 2) (k : Nat) (h : k < 6 ∨ (14 ≤ k ∧ k < 17)) (v : Int) (hne : v ≠ (wrapL s q).getD k 0) : openF ((wrapL s q).set k v) = (0, Mg.zero, 3) := by
  have hw := wrap_parts s q hk []
  rw [List.append_nil, List.append_nil] at hw
  rw [hw] at hne ⊢
  have hS := bts_len 6 s.toNat
  generalize bts s.toNat 6 = S at *
  generalize encL q ++ zrs (60 - (17 + (encL q).length)) = R at *
  generalize ((3 + (encL q).length : Nat) : Int) = m at *
  clear hw
  match S, hS with
  | [s0, s1, s2, s3, s4, s5], _ =>
    have fin : ∀ A K : List Int, A.length = 6 → K.length = 3 → (num A ≠ 1652522221568 ∨ num K ≠ 4342275) → openF (A ++ ([s0, s1, s2, s3, s4, s5] ++ ([0, m] ++ (K ++ R)))) = (0, Mg.zero, 3) := fun A K hA hK h => open_no A _ _ K R hA rfl rfl hK (h.elim .inl (fun h => .inr (.inl h)))
    have hkk : k = 0 ∨ k = 1 ∨ k = 2 ∨ k = 3 ∨ k = 4 ∨ k = 5 ∨ k = 14 ∨ k = 15 ∨ k = 16 := by omega
    rcases hkk with rfl | rfl | rfl | rfl | rfl | rfl | rfl | rfl | rfl
    · exact fin [v, 128, 194, 0, 0, 0] [66, 66, 3] rfl rfl (.inl (by have : v ≠ 1 := hne; simp [num]; omega))
    · exact fin [1, v, 194, 0, 0, 0] [66, 66, 3] rfl rfl (.inl (by have : v ≠ 128 := hne; simp [num]; omega))
    · exact fin [1, 128, v, 0, 0, 0] [66, 66, 3] rfl rfl (.inl (by have : v ≠ 194 := hne; simp [num]; omega))
    · exact fin [1, 128, 194, v, 0, 0] [66, 66, 3] rfl rfl (.inl (by have : v ≠ 0 := hne; simp [num]; omega))
    · exact fin [1, 128, 194, 0, v, 0] [66, 66, 3] rfl rfl (.inl (by have : v ≠ 0 := hne; simp [num]; omega))
    · exact fin [1, 128, 194, 0, 0, v] [66, 66, 3] rfl rfl (.inl (by have : v ≠ 0 := hne; simp [num]; omega))
    · exact fin [1, 128, 194, 0, 0, 0] [v, 66, 3] rfl rfl (.inr (by have : v ≠ 66 := hne; simp [num]; omega))
    · exact fin [1, 128, 194, 0, 0, 0] [66, v, 3] rfl rfl (.inr (by have : v ≠ 66 := hne; simp [num]; omega))
    · exact fin [1, 128, 194, 0, 0, 0] [66, 66, v] rfl rfl (.inr (by have : v ≠ 3 := hne; simp [num]; omega))
theorem open_cut (s : Int) (q : Mg) (hk : q.kd = 0 ∨ q.kd = 1 ∨ q.kd = 2) (j : Nat) (hj : j < 17 + (encL q).length) : openF ((wrapL s q).take j) = (0, Mg.zero, if j < 17 then 2 else 3) := by
  have hl := wrapL_len s q hk
  have hn := encL_le q
  by_cases h : j < 17
  · rw [if_pos h]
    unfold openF
    rw [if_pos (by rw [List.length_take]; omega)]
  · rw [if_neg h]
    have hw := wrap_parts s q hk []
    rw [List.append_nil, List.append_nil] at hw
    rw [hw]
    have hS := bts_len 6 s.toNat
    obtain ⟨j, rfl⟩ := Nat.exists_eq_add_of_le (show 17 ≤ j by omega)
    generalize bts s.toNat 6 = S at *
    match S, hS with
    | [s0, s1, s2, s3, s4, s5], _ =>
      have e : ([1, 128, 194, 0, 0, 0] ++ ([s0, s1, s2, s3, s4, s5] ++ ([0, ((3 + (encL q).length : Nat) : Int)] ++ ([66, 66, 3] ++ (encL q ++ zrs (60 - (17 + (encL q).length))))))).take (17 + j) = [1, 128, 194, 0, 0, 0] ++ ([s0, s1, s2, s3, s4, s5] ++ ([0, ((3 + (encL q).length : Nat) : Int)] ++ ([66, 66, 3] ++ (encL q ++ zrs (60 - (17 + (encL q).length))).take j))) := by
        rw [Nat.add_comm]; rfl
      rw [e]
      refine open_no _ _ _ _ _ rfl rfl rfl rfl (.inr (.inr (.inr ?_)))
      have hm : num [0, ((3 + (encL q).length : Nat) : Int)] = ((3 + (encL q).length : Nat) : Int) := by simp [num]
      rw [hm, List.length_take]
      omega

end Go.Proofs.Ytjahjiaopegoaaa
