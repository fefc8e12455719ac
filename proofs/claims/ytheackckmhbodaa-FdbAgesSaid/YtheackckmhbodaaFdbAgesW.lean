/- The walk of FdbAges. No statement is proved here. -/
import Derived.Test.YtheackckmhbodaaFdTwo
namespace Go.Proofs.Ytheackckmhbodaa
open Go.RowKit Go.BigFrame Go.WideShapes Go.ChangeShapes Go.Deep
set_option linter.unusedVariables false
set_option linter.unusedSimpArgs false

theorem lfirst {age m p : Int} (ha : 1 ≤ age) {L : List En} (h : LearnedP 4 age m p [] L) : L = ln m p age := by
  rcases h with ⟨_, rfl⟩ | ⟨_, h, _⟩
  · unfold ln; rw [if_pos (by omega)]; rfl
  · simp at h
theorem ln_cnt {m p s : Int} (hs : 0 < s) : cntP p (fun _ => false) (ln m p s) = 1 := by
  unfold ln; rw [if_pos hs]; simp [cntP]
set_option maxRecDepth 100000 in
set_option maxHeartbeats 4000000 in
theorem law_FdbAges (a : Int) (ha : 0 ≤ a ∧ a < 256) (x : Int) (hx : 0 ≤ x ∧ x < 18446744073709551616) (p : Int) (hp : 0 ≤ p ∧ p < 256) (q : Int) (hq : 0 ≤ q ∧ q < 256) (w : World) :
    Calls Try.prog 6 #[.int .u8 a, .int .u64 x, .int .u8 p, .int .u8 q] w fun e w' => e = .returned (.bool true) ∧ Ext w w' := by
  obtain ⟨n, hn⟩ : ∃ n : Nat, 1 + a % 64 = (n : Int) := ⟨(1 + a % 64).toNat, by omega⟩
  have hn2 : 1 ≤ n ∧ n ≤ 64 := by omega
  have ha0 := ha.1
  have hp0 := hp.1
  have hq0 := hq.1
  have hwp : IntKind.i64.wrap p = p := by rw [IntKind.wrap_i64]; omega
  have hwq : IntKind.i64.wrap q = q := by rw [IntKind.wrap_i64]; omega
  have HN := Lib.hid hn
  go_enter Try.func6, Try.ntmps6
  go_wp2_with fail
  refine (awake07 _).mono ?_
  rintro e w1 ⟨rfl, h1⟩
  have E1 := Lib.hid h1
  clear h1
  go_wp2_with fail
  refine (new_x w1 4 n (by omega) w E1.out).mono ?_
  rintro e w2 ⟨f, rfl, h2⟩
  have H2 := Lib.hid h2
  clear h2 hn
  go_wp2_with fail
  refine (new_2 w w2 f 4 n [] H2.out (by omega)).mono ?_
  rintro e w3 ⟨g, rfl, h3⟩
  have H3 := Lib.hid h3
  clear h3
  go_wp2_with fail
  obtain ⟨m, hm⟩ : ∃ m, x % 281474976710656 = m := ⟨_, rfl⟩
  by_cases hb : m = 0 ∨ m / 1099511627776 % 2 = 1
  · have HB := Lib.hid (show x % 281474976710656 = 0 ∨ x % 281474976710656 / 1099511627776 % 2 = 1 ∨ p < 0 by rw [hm]; omega)
    clear hb hm
    refine (learn_bad w3 (fun _ => False) f [] 4 n x p hx HB.out).mono ?_
    rintro e w4 ⟨rfl, rfl⟩
    go_wp2_with fail
    refine (learn_bad w3 (fun _ => False) g [] 4 n x p hx HB.out).mono ?_
    rintro e w4 ⟨rfl, rfl⟩
    go_wp2_with fail
    refine (all_2 w w3 f g [] [] 4 n H3.out (nil_ok n) (by decide)).mono ?_
    rintro e w4 ⟨a4, c4, rfl, h4⟩
    have H4 := Lib.hid h4
    clear h4
    go_wp2_with fail
    go_ret
    exact ⟨by simp, H4.out.ext⟩
  · have HM := Lib.hid (show 0 < m ∧ m < 281474976710656 by omega)
    have HG := Lib.hid (show m ≠ 0 ∧ ¬ m / 1099511627776 % 2 = 1 by omega)
    have HMX := Lib.hid hm
    have HP := Lib.hid (show 0 ≤ p ∧ p < 9223372036854775808 by omega)
    clear hb hm
    refine (learn_2 w w3 f g [] [] 4 n H3.out (nil_ok n) (by omega) (by simp) x p m hx HMX.out HP.out HG.out.1 HG.out.2).mono ?_
    rintro e w4 ⟨rfl, L', hl, h4⟩
    obtain rfl := lfirst (by omega) hl
    have H4 := Lib.hid h4.swap
    clear h4 hl
    go_wp2_with fail
    refine (learn_2 w w4 g f [] _ 4 n H4.out (nil_ok n) (by omega) (by simp) x p m hx HMX.out HP.out HG.out.1 HG.out.2).mono ?_
    rintro e w5 ⟨rfl, L', hl, h5⟩
    obtain rfl := lfirst (by omega) hl
    have H5 := Lib.hid h5
    clear h5 hl
    go_wp2_with fail
    refine (short_2 w w5 g f (ln m p n) (ln m p n) 4 n H5.out (ln_ok HM.out HP.out (Int.le_refl _)) (by omega) (by have := ln_len m p n; omega) p q).mono ?_
    rintro e w6 ⟨rfl, h6⟩
    rw [ln_cnt (by omega)]
    obtain ⟨S, hS⟩ : ∃ S, min (n : Int) q = S := ⟨_, rfl⟩
    rw [ln_short, hS] at h6
    have H6 := Lib.hid h6.swap
    have HS := Lib.hid (show S = min (n : Int) q from hS.symm)
    clear h6 hS
    go_wp2_with fail
    go_loopw [16] (fun s wr => ∃ k : Nat, 1 ≤ k ∧ k ≤ n + 1 ∧ s = .int .i64 k ∧ Fx2 w wr f g (ln m p ((n : Int) - ((k : Int) - 1))) (ln m p (S - ((k : Int) - 1))) 4 n) (fun s _ => n + 1 - (intOf s).toNat)
    case atStart => exact ⟨1, by omega, by omega, rfl, by have := H6.out; simpa using this⟩
    case round =>
      clear H6
      obtain ⟨k, hk1, hk2, rfl, hfx⟩ := hrel
      rename World => wl
      have HY := Lib.hid hfx
      clear hfx
      by_cases hlt : k ≤ n
      · have dlt : decide ((k : Int) ≤ (n : Int)) = true := by simp; omega
        have hwk : IntKind.i64.wrap ((k : Int) - 1) = (k : Int) - 1 := by rw [IntKind.wrap_i64]; omega
        have hwk2 : IntKind.i64.wrap ((k : Int) + 1) = (k : Int) + 1 := by rw [IntKind.wrap_i64]; omega
        go_wp2_with fail
        refine (find_2 w wl f g _ _ 4 n HY.out x hx).mono ?_
        rintro e w4 ⟨hf, h4⟩
        obtain rfl := ln_find HMX.out hf
        rw [decide_eq_true (show 0 < (n : Int) - ((k : Int) - 1) by omega)]
        obtain ⟨pv, hpv⟩ : ∃ pv, (if 0 < (n : Int) - ((k : Int) - 1) then p else -1) = pv := ⟨_, rfl⟩
        rw [hpv]
        have H4 := Lib.hid h4.swap
        clear h4 hf hpv
        go_wp2_with fail
        refine (find_2 w w4 g f _ _ 4 n H4.out x hx).mono ?_
        rintro e w5 ⟨hf, h5⟩
        obtain rfl := ln_find HMX.out hf
        obtain ⟨pu, hpu⟩ : ∃ pu, (if 0 < S - ((k : Int) - 1) then p else -1) = pu := ⟨_, rfl⟩
        rw [hpu]
        have H5 := Lib.hid h5.swap
        clear h5 hf hpu
        have hss := HS.out
        by_cases hle : (n : Int) ≤ q
        · have hsn : S = (n : Int) := by omega
          have HSN := Lib.hid hsn
          clear hss
          by_cases hpo : 0 < S - ((k : Int) - 1)
          · rw [decide_eq_true hpo]
            have dm : decide ((k : Int) - 1 < (n : Int)) = true := by simp; omega
            clear hpo hsn
            go_wp2_with fail
            refine (tick_2 w w5 f g _ _ 4 n H5.out (ln_ok HM.out HP.out (by omega)) (by omega)).mono ?_
            rintro e w6 ⟨rfl, h6⟩
            rw [ln_tick] at h6
            have H6 := Lib.hid h6.swap
            clear h6
            go_wp2_with fail
            refine (tick_2 w w6 g f _ _ 4 n H6.out (ln_ok HM.out HP.out (by have := HS.out; omega)) (by omega)).mono ?_
            rintro e w7 ⟨rfl, h7⟩
            rw [ln_tick] at h7
            have H7 := Lib.hid h7.swap
            clear h7
            go_wp2_with fail
            go_roundw
            case rel => exact ⟨k + 1, by omega, by omega, by go_num, by have := H7.out; rw [show (n : Int) - ((k : Int) - 1) - 1 = (n : Int) - (((k + 1 : Nat) : Int) - 1) by omega, show S - ((k : Int) - 1) - 1 = S - (((k + 1 : Nat) : Int) - 1) by omega] at this; exact this⟩
            case measure => simp [intOf] <;> omega
          · rw [decide_eq_false hpo]
            have dm : decide ((k : Int) - 1 < (n : Int)) = false := by simp; omega
            clear hpo hsn
            go_wp2_with fail
            refine (tick_2 w w5 f g _ _ 4 n H5.out (ln_ok HM.out HP.out (by omega)) (by omega)).mono ?_
            rintro e w6 ⟨rfl, h6⟩
            rw [ln_tick] at h6
            have H6 := Lib.hid h6.swap
            clear h6
            go_wp2_with fail
            refine (tick_2 w w6 g f _ _ 4 n H6.out (ln_ok HM.out HP.out (by have := HS.out; omega)) (by omega)).mono ?_
            rintro e w7 ⟨rfl, h7⟩
            rw [ln_tick] at h7
            have H7 := Lib.hid h7.swap
            clear h7
            go_wp2_with fail
            go_roundw
            case rel => exact ⟨k + 1, by omega, by omega, by go_num, by have := H7.out; rw [show (n : Int) - ((k : Int) - 1) - 1 = (n : Int) - (((k + 1 : Nat) : Int) - 1) by omega, show S - ((k : Int) - 1) - 1 = S - (((k + 1 : Nat) : Int) - 1) by omega] at this; exact this⟩
            case measure => simp [intOf] <;> omega
        · have hsn : S = q := by omega
          replace hle := Int.not_le.1 hle
          have HSN := Lib.hid hsn
          clear hss
          by_cases hpo : 0 < S - ((k : Int) - 1)
          · rw [decide_eq_true hpo]
            have dm : decide ((k : Int) - 1 < q) = true := by simp; omega
            clear hpo hsn
            go_wp2_with fail
            refine (tick_2 w w5 f g _ _ 4 n H5.out (ln_ok HM.out HP.out (by omega)) (by omega)).mono ?_
            rintro e w6 ⟨rfl, h6⟩
            rw [ln_tick] at h6
            have H6 := Lib.hid h6.swap
            clear h6
            go_wp2_with fail
            refine (tick_2 w w6 g f _ _ 4 n H6.out (ln_ok HM.out HP.out (by have := HS.out; omega)) (by omega)).mono ?_
            rintro e w7 ⟨rfl, h7⟩
            rw [ln_tick] at h7
            have H7 := Lib.hid h7.swap
            clear h7
            go_wp2_with fail
            go_roundw
            case rel => exact ⟨k + 1, by omega, by omega, by go_num, by have := H7.out; rw [show (n : Int) - ((k : Int) - 1) - 1 = (n : Int) - (((k + 1 : Nat) : Int) - 1) by omega, show S - ((k : Int) - 1) - 1 = S - (((k + 1 : Nat) : Int) - 1) by omega] at this; exact this⟩
            case measure => simp [intOf] <;> omega
          · rw [decide_eq_false hpo]
            have dm : decide ((k : Int) - 1 < q) = false := by simp; omega
            clear hpo hsn
            go_wp2_with fail
            refine (tick_2 w w5 f g _ _ 4 n H5.out (ln_ok HM.out HP.out (by omega)) (by omega)).mono ?_
            rintro e w6 ⟨rfl, h6⟩
            rw [ln_tick] at h6
            have H6 := Lib.hid h6.swap
            clear h6
            go_wp2_with fail
            refine (tick_2 w w6 g f _ _ 4 n H6.out (ln_ok HM.out HP.out (by have := HS.out; omega)) (by omega)).mono ?_
            rintro e w7 ⟨rfl, h7⟩
            rw [ln_tick] at h7
            have H7 := Lib.hid h7.swap
            clear h7
            go_wp2_with fail
            go_roundw
            case rel => exact ⟨k + 1, by omega, by omega, by go_num, by have := H7.out; rw [show (n : Int) - ((k : Int) - 1) - 1 = (n : Int) - (((k + 1 : Nat) : Int) - 1) by omega, show S - ((k : Int) - 1) - 1 = S - (((k + 1 : Nat) : Int) - 1) by omega] at this; exact this⟩
            case measure => simp [intOf] <;> omega
      · have dlt : decide ((k : Int) ≤ (n : Int)) = false := by simp; omega
        go_wp2_with fail
        refine (find_2 w wl f g _ _ 4 n HY.out x hx).mono ?_
        rintro e w4 ⟨hf, h4⟩
        obtain rfl := ln_find HMX.out hf
        rw [decide_eq_false (show ¬ 0 < (n : Int) - ((k : Int) - 1) by omega)]
        obtain ⟨pv, hpv⟩ : ∃ pv, (if 0 < (n : Int) - ((k : Int) - 1) then p else -1) = pv := ⟨_, rfl⟩
        rw [hpv]
        have H4 := Lib.hid h4
        clear h4 hf hpv
        go_wp2_with fail
        go_ret
        exact ⟨by simp, H4.out.ext⟩

end Go.Proofs.Ytheackckmhbodaa
