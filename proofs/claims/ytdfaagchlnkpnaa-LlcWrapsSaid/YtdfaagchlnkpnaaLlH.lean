/- A frame whose number of bytes is another one. No statement is proved here. -/
import Derived.Test.YtdfaagchlnkpnaaLlG
namespace Go.Proofs.Ytdfaagchlnkpnaa
open Go.RowKit Go.BigFrame Go.WideShapes Go.ChangeShapes Go.Deep
set_option linter.unusedVariables false
set_option linter.unusedSimpArgs false

theorem set13 (s : Int) (q : Mg) (hk : q.kd = 0 ∨ q.kd = 1 ∨ q.kd = 2) (v : Int) :
    (wrapL s q).set 13 v = [1, 128, 194, 0, 0, 0] ++ (bts s.toNat 6 ++ ([0, v] ++ ([66, 66, 3] ++ (encL q ++ zrs (60 - (17 + (encL q).length)))))) := by
  have h := wrap_parts s q hk []
  rw [List.append_nil, List.append_nil] at h
  rw [h, List.set_append_right _ _ (by simp), List.set_append_right _ _ (by simp [bts_len])]
  simp [bts_len]
theorem open_set13 (s : Int) (q : Mg) (hq : q.ok) (hk : q.kd = 2) (v : Int) (hv : 0 ≤ v ∧ v < 256) :
    openF ((wrapL s q).set 13 v) = if v < 3 ∨ 46 < v then (0, Mg.zero, 3) else if v < 39 then (0, Mg.zero, 2) else (low48 s, plainM q, 0) := by
  have hk3 : q.kd = 0 ∨ q.kd = 1 ∨ q.kd = 2 := .inr (.inr hk)
  have hd := dec_enc q hq hk3
  have hc := dec_cut q hk3
  have hn : (encL q).length = 36 := by rw [encL_len]; simp [hk]
  rw [set13 s q hk3 v, hn]
  obtain ⟨E, hE⟩ : ∃ E, encL q = E := ⟨_, rfl⟩
  rw [hE] at hc hn ⊢
  simp only [hE] at hd
  have hd2 : ∀ t, decF (E ++ t) = (plainM q, 0) := fun t => by rw [hd t, if_neg (by rintro ⟨h, _⟩; omega)]
  obtain ⟨S, hS⟩ : ∃ S, bts s.toNat 6 = S := ⟨_, rfl⟩
  have hSl : S.length = 6 := by rw [← hS, bts_len]
  have hSn : num S = low48 s := by rw [← hS, num_bts48]; rfl
  rw [hS]
  obtain ⟨T, hT⟩ : ∃ T, zrs (60 - (17 + 36)) = T := ⟨_, rfl⟩
  have hTl : T.length = 7 := by rw [← hT]; simp [zrs]
  rw [hT]
  obtain ⟨xs, hx⟩ : ∃ xs, [1, 128, 194, 0, 0, 0] ++ (S ++ ([0, v] ++ ([66, 66, 3] ++ (E ++ T)))) = xs := ⟨_, rfl⟩
  have hlen : xs.length = 60 := by rw [← hx]; simp; omega
  have t6 : xs.take 6 = [1, 128, 194, 0, 0, 0] := by rw [← hx]; exact List.take_left' rfl
  have d6 : xs.drop 6 = S ++ ([0, v] ++ ([66, 66, 3] ++ (E ++ T))) := by rw [← hx]; exact List.drop_left' rfl
  have d12 : xs.drop 12 = [0, v] ++ ([66, 66, 3] ++ (E ++ T)) := by rw [show 12 = 6 + 6 from rfl, ← List.drop_drop, d6]; exact List.drop_left' hSl
  have d14 : xs.drop 14 = [66, 66, 3] ++ (E ++ T) := by rw [show 14 = 12 + 2 from rfl, ← List.drop_drop, d12]; exact List.drop_left' rfl
  have d17 : xs.drop 17 = E ++ T := by rw [show 17 = 14 + 3 from rfl, ← List.drop_drop, d14]; exact List.drop_left' rfl
  rw [hx]
  have m12 : num ((xs.drop 12).take 2) = v := by
    rw [d12, show List.take 2 ([0, v] ++ ([66, 66, 3] ++ (E ++ T))) = [0, v] from rfl]
    simp [num]
  have n1 : num [1, 128, 194, 0, 0, 0] = 1652522221568 := by decide +kernel
  have n2 : num [66, 66, 3] = 4342275 := by decide +kernel
  have t14 : num ((xs.drop 14).take 3) = 4342275 := by rw [d14, show List.take 3 ([66, 66, 3] ++ (E ++ T)) = [66, 66, 3] from rfl, n2]
  unfold openF
  rw [if_neg (by omega), m12, t6, n1, t14, hlen]
  by_cases h1 : v < 3 ∨ 46 < v
  · rw [if_pos (by omega), if_pos h1]
  rw [if_neg (by omega), if_neg h1, d17]
  by_cases h2 : v < 39
  · have e1 : (E ++ T).take (v - 3).toNat = E.take (v - 3).toNat := List.take_append_of_le_length (by omega)
    rw [e1, hc _ (by omega), if_pos h2, if_pos (by decide)]
  · have e1 : (E ++ T).take (v - 3).toNat = E ++ T.take ((v - 3).toNat - 36) := by rw [List.take_append, List.take_of_length_le (by omega), hn]
    rw [e1, hd2, if_neg h2, if_neg (by simp), show (xs.drop 6).take 6 = S by rw [d6]; exact List.take_left' hSl, hSn]

end Go.Proofs.Ytdfaagchlnkpnaa
