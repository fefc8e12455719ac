/- The walk of FdbFull. No statement is proved here. -/
import Derived.Test.YtheackckmhbodaaFdZ
namespace Go.Proofs.Ytheackckmhbodaa
open Go.RowKit Go.BigFrame Go.WideShapes Go.ChangeShapes Go.Deep
set_option linter.unusedVariables false
set_option linter.unusedSimpArgs false

instance (age : Int) (L : List En) : Decidable (Ok age L) := by unfold Ok; infer_instance
def lst (i : Nat) : List En := (List.range i).map (fun (j : Nat) => (((j : Int) + 1, 4, 100 - ((i : Int) - (j : Int))) : En))
def fL1 (n k : Nat) : List En := ins ((k : Int) + 1, 5, 100) (lst n)
def gone (k : Nat) : Nat := if k = 0 then 1 else 0
def fL2 (n k : Nat) : List En := ins (1000, 6, 100) (upd ((gone k : Int) + 1) 0 (fL1 n k))
set_option maxRecDepth 100000 in
theorem ff1 : ∀ i ∈ List.range 10, (ins ((i : Int) + 1, 4, 100) (lst i)).filterMap tickE = lst (i + 1) ∧ Ok 100 (lst i) ∧ (lst i).length = i ∧ Ok 100 (ins ((i : Int) + 1, 4, 100) (lst i)) := by decide +kernel
set_option maxRecDepth 100000 in
theorem ff2 : ∀ n ∈ List.range 10, ∀ k ∈ List.range n, 2 ≤ n → Ok 100 (fL1 n k) ∧ (fL1 n k).length = n ∧ ((k : Int) + 1) ∈ (lst n).map Prod.fst ∧ (1000 : Int) ∉ (fL1 n k).map Prod.fst := by decide +kernel
set_option maxRecDepth 100000 in
theorem ff3 : ∀ n ∈ List.range 10, ∀ k ∈ List.range n, 2 ≤ n → ∀ e0 ∈ fL1 n k, (∀ e' ∈ fL1 n k, e0.2.2 < e'.2.2 ∨ (e0.2.2 = e'.2.2 ∧ e0.1 ≤ e'.1)) → e0.1 = (gone k : Int) + 1 := by decide +kernel
set_option maxRecDepth 100000 in
theorem ff4 : ∀ n ∈ List.range 10, ∀ k ∈ List.range n, 2 ≤ n → Ok 100 (fL2 n k) ∧ (fL2 n k).length = n ∧ (∀ i ∈ List.range n, (((i : Int) + 1) ∈ (fL2 n k).map Prod.fst ↔ i ≠ gone k)) ∧ (1000 : Int) ∈ (fL2 n k).map Prod.fst ∧ ∀ e0 ∈ fL2 n k, e0.1 = 1000 → e0.2.1 = 6 := by decide +kernel
set_option maxRecDepth 100000 in
set_option maxHeartbeats 4000000 in
theorem law_FdbFull (a : Int) (ha : 0 ≤ a ∧ a < 256) (b : Int) (hb : 0 ≤ b ∧ b < 256) (w : World) :
    Calls Try.prog 9 #[.int .u8 a, .int .u8 b] w fun e w' => e = .returned (.bool true) ∧ Ext w w' := by
  obtain ⟨n, hn⟩ : ∃ n : Nat, 2 + a % 8 = (n : Int) := ⟨(2 + a % 8).toNat, by omega⟩
  have hn2 : 2 ≤ n ∧ n ≤ 9 := by omega
  obtain ⟨k, hk⟩ : ∃ k : Nat, b % (n : Int) = (k : Int) := ⟨(b % n).toNat, by have := Int.emod_nonneg b (b := (n : Int)) (by omega); omega⟩
  have hkn : k < n := by have := Int.emod_lt_of_pos b (b := (n : Int)) (by omega); omega
  have HN := Lib.hid hn
  have HK := Lib.hid hk
  have hr10 : n ∈ List.range 10 := by simp; omega
  have hkr : k ∈ List.range n := by simpa using hkn
  have F2 := Lib.hid (ff2 n hr10 k hkr hn2.1)
  have F3 := Lib.hid (ff3 n hr10 k hkr hn2.1)
  have F4 := Lib.hid (ff4 n hr10 k hkr hn2.1)
  have H10 := Lib.hid hr10
  have hb0 := hb.1
  have ha0 := ha.1
  clear hr10 hkr hk
  go_enter Try.func9, Try.ntmps9
  go_wp2_with fail
  refine (awake07 _).mono ?_
  rintro e w1 ⟨rfl, h1⟩
  have E1 := Lib.hid h1
  clear h1
  go_wp2_with fail
  refine (new_x w1 n 100 (by omega) w E1.out).mono ?_
  rintro e w2 ⟨f, rfl, h2⟩
  have H2 := Lib.hid h2
  clear h2 hn
  go_wp2_with fail
  go_loopw [8] (fun s wr => ∃ i : Nat, i ≤ n ∧ s = .int .i64 i ∧ Fx w wr f (lst i) n 100) (fun s _ => n - (intOf s).toNat)
  case atStart => exact ⟨0, by omega, rfl, H2.out⟩
  case round =>
    clear H2
    obtain ⟨i, hi, rfl, hfx⟩ := hrel
    have HX := Lib.hid hfx
    clear hfx
    by_cases hlt : i < n
    · have dlt : decide ((i : Int) < (n : Int)) = true := by simp; omega
      have F1 := Lib.hid (ff1 i (by simp; omega))
      have hu1 : IntKind.i64.wrap ((i : Int) + 1) = ((i + 1 : Nat) : Int) := by rw [IntKind.wrap_i64]; omega
      have hu2 : IntKind.u64.wrap ((i + 1 : Nat) : Int) = ((i + 1 : Nat) : Int) := by rw [IntKind.wrap_u64]; omega
      go_wp2_with fail
      refine (learn_x w wr f (lst i) n 100 HX.out F1.out.2.1 (by decide) ⟨by omega, by omega, by rw [F1.out.2.2.1]; omega⟩ ((i : Int) + 1) 4 ((i : Int) + 1) (by omega) (by omega) (by decide) (by omega) (by omega)).mono ?_
      rintro e w3 ⟨rfl, L', hl, h3⟩
      obtain rfl : L' = ins ((i : Int) + 1, 4, 100) (lst i) := by
        rcases hl with ⟨_, hl⟩ | ⟨_, hc, _⟩
        · exact hl
        · rw [F1.out.2.2.1] at hc; omega
      have H3 := Lib.hid h3
      clear h3 hl
      go_wp2_with fail
      refine (tick_x w w3 f _ n 100 H3.out F1.out.2.2.2 (by decide)).mono ?_
      rintro e w4 ⟨rfl, h4⟩
      rw [F1.out.1] at h4
      have H4 := Lib.hid h4
      clear h4
      go_wp2_with fail
      go_roundw
      case rel => exact ⟨i + 1, by omega, by go_num, H4.out⟩
      case measure => simp [intOf] <;> omega
    · obtain rfl : i = n := by omega
      have dlt : decide ((i : Int) < (i : Int)) = false := by simp
      have hk := HK.out
      have hu1 : IntKind.i64.wrap ((k : Int) + 1) = (k : Int) + 1 := by rw [IntKind.wrap_i64]; omega
      have hu2 : IntKind.u64.wrap ((k : Int) + 1) = (k : Int) + 1 := by rw [IntKind.wrap_u64]; omega
      have hnz : ((i : Int) == 0) = false := by simp; omega
      have htm : b.tmod (i : Int) = (k : Int) := by rw [Int.tmod_eq_emod_of_nonneg hb0]; exact hk
      have F1 := Lib.hid (ff1 i (by simp; omega))
      go_wp2_with fail
      refine (learn_x w wr f (lst i) i 100 HX.out F1.out.2.1 (by decide) ⟨by omega, by omega, by rw [F1.out.2.2.1]; omega⟩ ((k : Int) + 1) 5 ((k : Int) + 1) (by omega) (by omega) (by decide) (by omega) (by omega)).mono ?_
      rintro e w3 ⟨rfl, L', hl, h3⟩
      obtain rfl : L' = fL1 i k := by
        rcases hl with ⟨_, hl⟩ | ⟨hc, _, _⟩
        · exact hl
        · exact absurd F2.out.2.2.1 hc
      have H3 := Lib.hid h3
      have hlen1 := F2.out.2.1
      clear h3 hl hk htm HX
      go_wp2_with fail
      refine (all_x w w3 f (fL1 i k) i 100 H3.out F2.out.1 (by omega)).mono ?_
      rintro e w4 ⟨aa, ca, rfl, _, _, h4⟩
      have H4 := Lib.hid h4
      clear h4
      go_wp2_with fail
      refine (learn_x w w4 f (fL1 i k) i 100 H4.out F2.out.1 (by decide) ⟨by omega, by omega, by omega⟩ 1000 6 1000 (by decide) rfl (by decide) (by decide) (by decide)).mono ?_
      rintro e w5 ⟨rfl, L', hl, h5⟩
      obtain rfl : L' = fL2 i k := by
        rcases hl with ⟨hc, _⟩ | ⟨_, _, e0, he0, hbest, hl⟩
        · exfalso
          rcases hc with hc | hc
          · exact F2.out.2.2.2 hc
          · omega
        · rw [F3.out e0 he0 hbest] at hl
          exact hl
      have H5 := Lib.hid h5
      have hlen2 := F4.out.2.1
      have H12 := Lib.hid (show (fL2 i k).length ≤ 12 by omega)
      clear h5 hl
      by_cases hk0 : k = 0
      · have dk : ((k : Int) == 0) = true := by simp; omega
        have hgo : gone k = 1 := by unfold gone; rw [if_pos hk0]
        have FG := Lib.hid (show ∀ i' ∈ List.range i, (((i' : Int) + 1) ∈ (fL2 i k).map Prod.fst ↔ i' ≠ 1) by rw [← hgo]; exact F4.out.2.2.1)
        clear hgo hk0
        go_wp2_with fail
        go_loopw [14] (fun s wr => ∃ j : Nat, j ≤ i ∧ s = .int .i64 j ∧ Fx w wr f (fL2 i k) i 100) (fun s _ => i - (intOf s).toNat)
        case atStart => exact ⟨0, by omega, rfl, H5.out⟩
        case round =>
          clear H5
          obtain ⟨j, hj, rfl, hfx⟩ := hrel
          rename World => wl
          have HY := Lib.hid hfx
          clear hfx
          by_cases hlt : j < i
          · have dlt2 : decide ((j : Int) < (i : Int)) = true := by simp; omega
            have hu3 : IntKind.i64.wrap ((j : Int) + 1) = (j : Int) + 1 := by rw [IntKind.wrap_i64]; omega
            have hu4 : IntKind.u64.wrap ((j : Int) + 1) = (j : Int) + 1 := by rw [IntKind.wrap_u64]; omega
            have HIF := Lib.hid (FG.out j (by simpa using hlt))
            go_wp2_with fail
            refine (find_x w wl f (fL2 i k) i 100 HY.out ((j : Int) + 1) (by omega)).mono ?_
            rintro e w6 ⟨hf, h6⟩
            have H6 := Lib.hid h6
            clear h6
            have hmod : ((j : Int) + 1) % 281474976710656 = (j : Int) + 1 := by omega
            rw [hmod] at hf
            rcases hf with ⟨e0, he0, hx, rfl⟩ | ⟨hx, rfl⟩
            · have hne : j ≠ 1 := HIF.out.1 (List.mem_map.2 ⟨e0, he0, hx⟩)
              have dj : ((j : Int) == 1) = false := by simp; omega
              obtain ⟨pp, hpp⟩ : ∃ pp, e0.2.1 = pp := ⟨_, rfl⟩
              rw [hpp]
              clear he0 hx hpp
              go_wp2_with fail
              go_roundw
              case rel => exact ⟨j + 1, by omega, by go_num, H6.out⟩
              case measure => simp [intOf] <;> omega
            · have hne : j = 1 := by
                by_cases h : j = 1
                · exact h
                · exact absurd (HIF.out.2 h) hx
              have dj : ((j : Int) == 1) = true := by simp; omega
              clear hx
              go_wp2_with fail
              go_roundw
              case rel => exact ⟨j + 1, by omega, by go_num, H6.out⟩
              case measure => simp [intOf] <;> omega
          · obtain rfl : j = i := by omega
            have dlt2 : decide ((j : Int) < (j : Int)) = false := by simp
            go_wp2_with fail
            refine (find_x w wl f (fL2 j k) j 100 HY.out 1000 (by decide)).mono ?_
            rintro e w6 ⟨hf, h6⟩
            obtain rfl : e = .returned (.tuple #[.int .i64 6, .bool true]) := by
              rcases hf with ⟨e0, he0, hx, h⟩ | ⟨hx, _⟩
              · rw [h, F4.out.2.2.2.2 e0 he0 hx]
              · exact absurd F4.out.2.2.2.1 hx
            have H6 := Lib.hid h6
            clear h6 hf
            go_wp2_with fail
            refine (all_x w w6 f (fL2 j k) j 100 H6.out F4.out.1 H12.out).mono ?_
            rintro e w7 ⟨a7, c7, rfl, _, _, h7⟩
            have H7 := Lib.hid h7
            clear h7
            go_wp2_with fail
            go_ret
            exact ⟨by simp, H7.out.ext⟩
      · have dk : ((k : Int) == 0) = false := by simp; omega
        have hgo : gone k = 0 := by unfold gone; rw [if_neg hk0]
        have FG := Lib.hid (show ∀ i' ∈ List.range i, (((i' : Int) + 1) ∈ (fL2 i k).map Prod.fst ↔ i' ≠ 0) by rw [← hgo]; exact F4.out.2.2.1)
        clear hgo hk0
        go_wp2_with fail
        go_loopw [14] (fun s wr => ∃ j : Nat, j ≤ i ∧ s = .int .i64 j ∧ Fx w wr f (fL2 i k) i 100) (fun s _ => i - (intOf s).toNat)
        case atStart => exact ⟨0, by omega, rfl, H5.out⟩
        case round =>
          clear H5
          obtain ⟨j, hj, rfl, hfx⟩ := hrel
          rename World => wl
          have HY := Lib.hid hfx
          clear hfx
          by_cases hlt : j < i
          · have dlt2 : decide ((j : Int) < (i : Int)) = true := by simp; omega
            have hu3 : IntKind.i64.wrap ((j : Int) + 1) = (j : Int) + 1 := by rw [IntKind.wrap_i64]; omega
            have hu4 : IntKind.u64.wrap ((j : Int) + 1) = (j : Int) + 1 := by rw [IntKind.wrap_u64]; omega
            have HIF := Lib.hid (FG.out j (by simpa using hlt))
            go_wp2_with fail
            refine (find_x w wl f (fL2 i k) i 100 HY.out ((j : Int) + 1) (by omega)).mono ?_
            rintro e w6 ⟨hf, h6⟩
            have H6 := Lib.hid h6
            clear h6
            have hmod : ((j : Int) + 1) % 281474976710656 = (j : Int) + 1 := by omega
            rw [hmod] at hf
            rcases hf with ⟨e0, he0, hx, rfl⟩ | ⟨hx, rfl⟩
            · have hne : j ≠ 0 := HIF.out.1 (List.mem_map.2 ⟨e0, he0, hx⟩)
              have dj : ((j : Int) == 0) = false := by simp; omega
              obtain ⟨pp, hpp⟩ : ∃ pp, e0.2.1 = pp := ⟨_, rfl⟩
              rw [hpp]
              clear he0 hx hpp
              go_wp2_with fail
              go_roundw
              case rel => exact ⟨j + 1, by omega, by go_num, H6.out⟩
              case measure => simp [intOf] <;> omega
            · have hne : j = 0 := by
                by_cases h : j = 0
                · exact h
                · exact absurd (HIF.out.2 h) hx
              have dj : ((j : Int) == 0) = true := by simp; omega
              clear hx
              go_wp2_with fail
              go_roundw
              case rel => exact ⟨j + 1, by omega, by go_num, H6.out⟩
              case measure => simp [intOf] <;> omega
          · obtain rfl : j = i := by omega
            have dlt2 : decide ((j : Int) < (j : Int)) = false := by simp
            go_wp2_with fail
            refine (find_x w wl f (fL2 j k) j 100 HY.out 1000 (by decide)).mono ?_
            rintro e w6 ⟨hf, h6⟩
            obtain rfl : e = .returned (.tuple #[.int .i64 6, .bool true]) := by
              rcases hf with ⟨e0, he0, hx, h⟩ | ⟨hx, _⟩
              · rw [h, F4.out.2.2.2.2 e0 he0 hx]
              · exact absurd F4.out.2.2.2.1 hx
            have H6 := Lib.hid h6
            clear h6 hf
            go_wp2_with fail
            refine (all_x w w6 f (fL2 j k) j 100 H6.out F4.out.1 H12.out).mono ?_
            rintro e w7 ⟨a7, c7, rfl, _, _, h7⟩
            have H7 := Lib.hid h7
            clear h7
            go_wp2_with fail
            go_ret
            exact ⟨by simp, H7.out.ext⟩

end Go.Proofs.Ytheackckmhbodaa
