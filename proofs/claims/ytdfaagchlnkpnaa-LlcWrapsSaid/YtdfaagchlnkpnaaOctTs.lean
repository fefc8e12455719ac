/- Contracts of package octet's reader and of the document's. No statement is proved here. -/
import Derived.Test.YtdfaagchlnkpnaaOct
namespace Go.Proofs.Ytdfaagchlnkpnaa
open Go.RowKit
set_option linter.unusedVariables false
set_option linter.unusedSimpArgs false

/-- The number that bytes tell. -/
def num (xs : List Int) : Int := xs.foldl (fun a x => a * 256 + x) 0
theorem num_snoc (xs : List Int) (x : Int) : num (xs ++ [x]) = num xs * 256 + x := by simp [num]
theorem num_aux : ∀ (xs : List Int) (a : Int) (m : Nat), 0 ≤ a → a < 256 ^ m → (∀ x ∈ xs, 0 ≤ x ∧ x < 256) → 0 ≤ xs.foldl (fun a x => a * 256 + x) a ∧ xs.foldl (fun a x => a * 256 + x) a < 256 ^ (m + xs.length)
  | [], a, m, h0, h1, _ => ⟨h0, h1⟩
  | x :: xs, a, m, h0, h1, h => by
    have hx := h x (by simp)
    have := num_aux xs (a * 256 + x) (m + 1) (by omega) (by rw [Int.pow_succ]; omega) (fun y hy => h y (by simp [hy]))
    rw [List.length_cons, show m + (xs.length + 1) = m + 1 + xs.length by omega]
    exact this
theorem num_rg (xs : List Int) (h : ∀ x ∈ xs, 0 ≤ x ∧ x < 256) : 0 ≤ num xs ∧ num xs < 256 ^ xs.length := by
  have := num_aux xs 0 0 (by omega) (by decide) h
  rwa [Nat.zero_add] at this

theorem take_snoc (xs : List Int) (k : Nat) (h : k < xs.length) : xs.take (k + 1) = xs.take k ++ [xs.getD k 0] := by
  rw [List.take_succ_eq_append_getElem h]
  simp [List.getD, h]

theorem or_byte (n x : Int) (h0 : 0 ≤ n) (h1 : n < 72057594037927936) (h2 : 0 ≤ x) (h3 : x < 256) : bits .or .u64 (n * 256) x = n * 256 + x := by
  obtain ⟨n, rfl⟩ := Int.eq_ofNat_of_zero_le h0
  obtain ⟨x, rfl⟩ := Int.eq_ofNat_of_zero_le h2
  have e : (n : Int) * 256 = ((n * 256 : Nat) : Int) := by omega
  rw [e, u64_or_nat _ _ (by omega) (by omega), nat_join 8 (n * 256) x (by omega) (by omega)]
  omega

theorem pow_le (k : Nat) (h : k ≤ 7) : (256 : Int) ^ k ≤ 72057594037927936 := by
  match k, h with
  | 0, _ => decide
  | 1, _ => decide
  | 2, _ => decide
  | 3, _ => decide
  | 4, _ => decide
  | 5, _ => decide
  | 6, _ => decide
  | 7, _ => decide

set_option maxHeartbeats 1600000 in
theorem take_yes (R b off cap k : Nat) (xs : List Int) (w : World) (c0 : w.cell? ⟨R, 0, none⟩ = some (.slice (some ⟨b, off, none⟩) xs.length cap)) (c1 : w.cell? ⟨R, 1, none⟩ = some (.bool false)) (hf : w.frozen? ⟨R, 0, none⟩ = false)
    (hc : ∀ i, i < xs.length → w.cell? ⟨b, off + i, none⟩ = some (.int .u8 (xs.getD i 0))) (hx : ∀ x ∈ xs, 0 ≤ x ∧ x < 256) (h0 : 1 ≤ k) (h1 : k ≤ 8) (hkl : k ≤ xs.length) (hlc : xs.length ≤ cap) (hm : cap ≤ maxLen) (hne : k < cap) :
    Calls Try.prog 46 #[.pointer (some ⟨R, 0, none⟩), .int .i64 k] w fun e w' => e = .returned (.int .u64 (num (xs.take k))) ∧ w' = w.setCell ⟨R, 0, none⟩ (.slice (some ⟨b, off + k, none⟩) (xs.length - k) (cap - k)) := by
  unfold maxLen at hm
  have HC := Lib.hid hc
  clear hc
  go_enter Try.func46, Try.ntmps46
  go_wp2_with fail
  refine (fits_yes _ _ (by omega) (by omega)).mono ?_
  rintro e w1 ⟨rfl, rfl⟩
  go_wp2
  go_loop [5, 30] (fun n i => ∃ j : Nat, j ≤ k ∧ i = .int .i64 j ∧ n = .int .u64 (num (xs.take j))) (fun _ i => k - (intOf i).toNat)
  case atStart => exact ⟨0, by omega, rfl, rfl⟩
  case round =>
    obtain ⟨j, hj, rfl, rfl⟩ := hrel
    by_cases hlt : j < k
    · obtain ⟨x, hxj⟩ : ∃ x : Int, xs.getD j 0 = x := ⟨_, rfl⟩
      have hcj := HC.out j (by omega)
      have hr := hx (xs.getD j 0) (by simp [List.getD, show j < xs.length by omega])
      rw [hxj] at hcj hr
      have hn := num_rg (xs.take j) (fun y hy => hx y (List.mem_of_mem_take hy))
      rw [List.length_take_of_le (by omega)] at hn
      have hp := pow_le j (by omega)
      have hs := take_snoc xs j (by omega)
      rw [hxj] at hs
      have HS := Lib.hid hs
      have ho := Lib.hid (or_byte (num (xs.take j)) x hn.1 (by omega) hr.1 hr.2)
      obtain ⟨hr0, hr1⟩ := hr
      obtain ⟨hn0, hn1⟩ := hn
      have hn2 : num (xs.take j) < 72057594037927936 := by omega
      clear hn1 hp hs hxj
      go_wp2
      go_round
      case rel => exact ⟨j + 1, by omega, by go_num, by rw [HS.out, num_snoc]; first | (rw [← ho.out]; done) | (congr 1; omega)⟩
      case measure => simp [intOf]; omega
    · have hjk : Hid (j = k) := Lib.hid (by omega)
      go_wp2
      go_ret
      exact ⟨retI (by rw [hjk.out]), rfl⟩

set_option maxHeartbeats 1600000 in
theorem take_all (R b off k : Nat) (xs : List Int) (w : World) (c0 : w.cell? ⟨R, 0, none⟩ = some (.slice (some ⟨b, off, none⟩) k k)) (c1 : w.cell? ⟨R, 1, none⟩ = some (.bool false)) (hf : w.frozen? ⟨R, 0, none⟩ = false)
    (hc : ∀ i, i < xs.length → w.cell? ⟨b, off + i, none⟩ = some (.int .u8 (xs.getD i 0))) (hx : ∀ x ∈ xs, 0 ≤ x ∧ x < 256) (h0 : 1 ≤ k) (h1 : k ≤ 8) (hkl : k ≤ xs.length) (hlc : xs.length ≤ k) (hm : k ≤ maxLen) :
    Calls Try.prog 46 #[.pointer (some ⟨R, 0, none⟩), .int .i64 k] w fun e w' => e = .returned (.int .u64 (num (xs.take k))) ∧ w' = w.setCell ⟨R, 0, none⟩ (.slice (some ⟨b, off, none⟩) 0 0) := by
  unfold maxLen at hm
  have HC := Lib.hid hc
  clear hc
  go_enter Try.func46, Try.ntmps46
  go_wp2_with fail
  refine (fits_yes _ _ (by omega) (by omega)).mono ?_
  rintro e w1 ⟨rfl, rfl⟩
  go_wp2
  go_loop [5, 30] (fun n i => ∃ j : Nat, j ≤ k ∧ i = .int .i64 j ∧ n = .int .u64 (num (xs.take j))) (fun _ i => k - (intOf i).toNat)
  case atStart => exact ⟨0, by omega, rfl, rfl⟩
  case round =>
    obtain ⟨j, hj, rfl, rfl⟩ := hrel
    by_cases hlt : j < k
    · obtain ⟨x, hxj⟩ : ∃ x : Int, xs.getD j 0 = x := ⟨_, rfl⟩
      have hcj := HC.out j (by omega)
      have hr := hx (xs.getD j 0) (by simp [List.getD, show j < xs.length by omega])
      rw [hxj] at hcj hr
      have hn := num_rg (xs.take j) (fun y hy => hx y (List.mem_of_mem_take hy))
      rw [List.length_take_of_le (by omega)] at hn
      have hp := pow_le j (by omega)
      have hs := take_snoc xs j (by omega)
      rw [hxj] at hs
      have HS := Lib.hid hs
      have ho := Lib.hid (or_byte (num (xs.take j)) x hn.1 (by omega) hr.1 hr.2)
      obtain ⟨hr0, hr1⟩ := hr
      obtain ⟨hn0, hn1⟩ := hn
      have hn2 : num (xs.take j) < 72057594037927936 := by omega
      clear hn1 hp hs hxj
      go_wp2
      go_round
      case rel => exact ⟨j + 1, by omega, by go_num, by rw [HS.out, num_snoc]; first | (rw [← ho.out]; done) | (congr 1; omega)⟩
      case measure => simp [intOf]; omega
    · have hjk : Hid (j = k) := Lib.hid (by omega)
      go_wp2
      go_ret
      exact ⟨retI (by rw [hjk.out]), rfl⟩

end Go.Proofs.Ytdfaagchlnkpnaa
