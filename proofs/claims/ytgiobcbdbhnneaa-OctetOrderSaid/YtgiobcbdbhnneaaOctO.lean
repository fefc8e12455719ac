/- The walk of the law OctetOrder. -/
import Derived.Test.YtgiobcbdbhnneaaOctN
import Derived.Test.YtgiobcbdbhnneaaHeld
import Derived.Deep.RegionWith
namespace Go.Proofs.Ytgiobcbdbhnneaa
open Go.RowKit
set_option linter.unusedVariables false

def u8s (xs : List Int) : List UInt8 := xs.map fun n => UInt8.ofNat n.toNat
theorem str_list (xs : List Int) : (strOfNums xs).toList = u8s xs := by rw [ByteArray.toList_eq, strOfNums_data]; rfl

theorem less_snoc : ∀ (l l' : List UInt8) (a b : UInt8), l.length = l'.length → Op.bytesLess (l ++ [a]) (l' ++ [b]) = (Op.bytesLess l l' || (l == l' && decide (a < b)))
  | [], [], a, b, _ => by
    simp [Op.bytesLess]
  | [], _ :: _, _, _, h => by simp at h
  | _ :: _, [], _, _, h => by simp at h
  | x :: l, y :: l', a, b, h => by
    have ih := less_snoc l l' a b (by simpa using h)
    have e : (x :: l == y :: l') = (x == y && l == l') := rfl
    simp only [List.cons_append, Op.bytesLess, ih, e]
    generalize decide (x < y) = p
    generalize (x == y) = q
    generalize Op.bytesLess l l' = r
    generalize (l == l') = s
    generalize decide (a < b) = t
    cases p <;> cases q <;> cases r <;> cases s <;> cases t <;> rfl

theorem eq_snoc : ∀ (l l' : List UInt8) (a b : UInt8), l.length = l'.length → (l ++ [a] == l' ++ [b]) = (l == l' && a == b)
  | [], [], a, b, _ => by simp
  | [], _ :: _, _, _, h => by simp at h
  | _ :: _, [], _, _, h => by simp at h
  | x :: l, y :: l', a, b, h => by
    have ih := eq_snoc l l' a b (by simpa using h)
    have e : (x :: l == y :: l') = (x == y && l == l') := rfl
    have e2 : (x :: l ++ [a] == y :: l' ++ [b]) = (x == y && (l ++ [a] == l' ++ [b])) := rfl
    rw [e2, ih, e, Bool.and_assoc]

theorem u8s_snoc (n k : Nat) : u8s (bts n (k + 1)) = u8s (bts (n / 256) k) ++ [UInt8.ofNat (n % 256)] := by
  simp only [bts, u8s, List.map_append, List.map_cons, List.map_nil, Int.toNat_natCast]
theorem u8s_len (n k : Nat) : (u8s (bts n k)).length = k := by simp [u8s, bts_len]
theorem u8_lt (a b : Nat) (ha : a < 256) (hb : b < 256) : decide (UInt8.ofNat a < UInt8.ofNat b) = decide (a < b) := by
  rw [decide_eq_decide, UInt8.lt_iff_toNat_lt, UInt8.toNat_ofNat', UInt8.toNat_ofNat']
  simp only [Nat.reducePow]
  omega
theorem u8_eq (a b : Nat) (ha : a < 256) (hb : b < 256) : (UInt8.ofNat a == UInt8.ofNat b) = decide (a = b) := by
  rw [Bool.eq_iff_iff, beq_iff_eq, decide_eq_true_eq, ← UInt8.toNat_inj, UInt8.toNat_ofNat', UInt8.toNat_ofNat']
  simp only [Nat.reducePow]
  omega

theorem bts_eq (k : Nat) : ∀ x y, x < 256 ^ k → y < 256 ^ k → (u8s (bts x k) == u8s (bts y k)) = decide (x = y) := by
  induction k with
  | zero =>
    intro x y hx hy
    have : x = y := by simp at hx hy; omega
    subst this
    simp [bts, u8s]
  | succ k ih =>
    intro x y hx hy
    rw [Nat.pow_succ] at hx hy
    rw [u8s_snoc, u8s_snoc, eq_snoc _ _ _ _ (by rw [u8s_len, u8s_len]), ih _ _ (by omega) (by omega), u8_eq _ _ (by omega) (by omega), Bool.eq_iff_iff]
    simp only [Bool.and_eq_true, decide_eq_true_eq]
    omega
theorem bts_less (k : Nat) : ∀ x y, x < 256 ^ k → y < 256 ^ k → Op.bytesLess (u8s (bts x k)) (u8s (bts y k)) = decide (x < y) := by
  induction k with
  | zero =>
    intro x y hx hy
    have : ¬ x < y := by simp at hx hy; omega
    simp [bts, u8s, Op.bytesLess, this]
  | succ k ih =>
    intro x y hx hy
    rw [Nat.pow_succ] at hx hy
    rw [u8s_snoc, u8s_snoc, less_snoc _ _ _ _ (by rw [u8s_len, u8s_len]), ih _ _ (by omega) (by omega), bts_eq k _ _ (by omega) (by omega), u8_lt _ _ (by omega) (by omega), Bool.eq_iff_iff]
    simp only [Bool.or_eq_true, Bool.and_eq_true, decide_eq_true_eq]
    omega

theorem str_less (k x y : Nat) (hx : x < 256 ^ k) (hy : y < 256 ^ k) : Op.bytesLess (strOfNums (bts x k)).toList (strOfNums (bts y k)).toList = decide (x < y) := by
  rw [str_list, str_list, bts_less k x y hx hy]

theorem ints_drew {w : World} {k : IntKind} {v : Value} {xs : List Int} (h : IsInts w k v xs) : IsInts w.drew k v xs := h

set_option maxHeartbeats 1600000 in
theorem order_1 (a b : Nat) (ha : a < 18446744073709551616) (hb : b < 18446744073709551616) (m : Int) (hm : 0 ≤ m ∧ m < 256) (hk : m % 8 = 0) (w : World) :
    Calls Try.prog 6 #[.int .u64 a, .int .u64 b, .int .u8 m] w fun e w' => e = .returned (.bool true) ∧ Ext w w' := by
  obtain ⟨hm0, hm1⟩ := hm
  obtain ⟨X, hX⟩ : ∃ X : Nat, X = a % 256 := ⟨_, rfl⟩
  obtain ⟨Y, hY⟩ : ∃ Y : Nat, Y = b % 256 := ⟨_, rfl⟩
  have hXl : X < 256 := by omega
  have hYl : Y < 256 := by omega
  have fX : IntKind.u64.wrap ((a : Int) * 72057594037927936) / 72057594037927936 = ((X : Nat) : Int) := by rw [IntKind.wrap_u64]; omega
  have fY : IntKind.u64.wrap ((b : Int) * 72057594037927936) / 72057594037927936 = ((Y : Nat) : Int) := by rw [IntKind.wrap_u64]; omega
  have hl := Lib.hid (str_less 1 X Y (by simpa using hXl) (by simpa using hYl))
  have hk3 := hk
  clear hX hY
  go_enter Try.func6, Try.ntmps6
  go_wp2_with fail
  refine (awake1 _).mono ?_
  rintro e w1 ⟨rfl, h1⟩
  go_wp2
  have HX := Lib.hid hXl
  have HY := Lib.hid hYl
  clear hXl hYl ha hb hm0 hm1 hk hk3 fX fY
  have hl' := hl.out
  go_region_held3 (fun W' => Ext w W') ((first | assumption | exact h1.drew | exact ⟨t2, Ext.refl _⟩ | exact ⟨⟨t3, hx3⟩, Ext.refl _⟩ | exact ⟨⟨t4, s4⟩, hx4⟩)) (first | (go_at_call_of 17 (Value.int IntKind.u64 (X : Int)); refine (put_r X 1 _ (Nat.lt_of_lt_of_le HX.out (by decide)) (by decide) (by decide)).mono ?_; rintro e w4 ⟨g4, rfl, hi4, hx4⟩; have t4 : Ext w w4 := t3.trans hx4; have s4 : Ext w2 w4 := hx3.trans hx4) | (go_at_call_of 17 (Value.int IntKind.u64 (X : Int)); refine (put_r X 1 _ (Nat.lt_of_lt_of_le HX.out (by decide)) (by decide) (by decide)).mono ?_; rintro e w2 ⟨g2, rfl, hi2, hx2⟩; have t2 : Ext w w2 := h1.drew.trans hx2; have c2 := fun W' (hW : Ext w2 W') => conv_bytes (hi2.ext hW); have heq := shut_change (S2 := fun W' => Ext w W' ∧ Ext w2 W') (by assumption) (fun W' h => h.1); simp only [heq] at *) | (go_at_call_of 17 (Value.int IntKind.u64 (Y : Int)); refine (put_r Y 1 _ (Nat.lt_of_lt_of_le HY.out (by decide)) (by decide) (by decide)).mono ?_; rintro e w3 ⟨g3, rfl, hi3, hx3⟩; have t3 : Ext w w3 := t2.trans hx3; have c3 := fun W' (hW : Ext w3 W') => conv_bytes (hi3.ext hW); have heq := shut_change (S2 := fun W' => (Ext w W' ∧ Ext w2 W') ∧ Ext w3 W') (by assumption) (fun W' h => h.1); simp only [heq] at *))
  all_goals
    go_wp2
    go_ret
    exact ⟨rfl, t4⟩

set_option maxHeartbeats 1600000 in
theorem order_2 (a b : Nat) (ha : a < 18446744073709551616) (hb : b < 18446744073709551616) (m : Int) (hm : 0 ≤ m ∧ m < 256) (hk : m % 8 = 1) (w : World) :
    Calls Try.prog 6 #[.int .u64 a, .int .u64 b, .int .u8 m] w fun e w' => e = .returned (.bool true) ∧ Ext w w' := by
  obtain ⟨hm0, hm1⟩ := hm
  obtain ⟨X, hX⟩ : ∃ X : Nat, X = a % 65536 := ⟨_, rfl⟩
  obtain ⟨Y, hY⟩ : ∃ Y : Nat, Y = b % 65536 := ⟨_, rfl⟩
  have hXl : X < 65536 := by omega
  have hYl : Y < 65536 := by omega
  have fX : IntKind.u64.wrap ((a : Int) * 281474976710656) / 281474976710656 = ((X : Nat) : Int) := by rw [IntKind.wrap_u64]; omega
  have fY : IntKind.u64.wrap ((b : Int) * 281474976710656) / 281474976710656 = ((Y : Nat) : Int) := by rw [IntKind.wrap_u64]; omega
  have hl := Lib.hid (str_less 2 X Y (by simpa using hXl) (by simpa using hYl))
  have hk3 := hk
  clear hX hY
  go_enter Try.func6, Try.ntmps6
  go_wp2_with fail
  refine (awake1 _).mono ?_
  rintro e w1 ⟨rfl, h1⟩
  go_wp2
  have HX := Lib.hid hXl
  have HY := Lib.hid hYl
  clear hXl hYl ha hb hm0 hm1 hk hk3 fX fY
  have hl' := hl.out
  go_region_held3 (fun W' => Ext w W') ((first | assumption | exact h1.drew | exact ⟨t2, Ext.refl _⟩ | exact ⟨⟨t3, hx3⟩, Ext.refl _⟩ | exact ⟨⟨t4, s4⟩, hx4⟩)) (first | (go_at_call_of 17 (Value.int IntKind.u64 (X : Int)); refine (put_r X 2 _ (Nat.lt_of_lt_of_le HX.out (by decide)) (by decide) (by decide)).mono ?_; rintro e w4 ⟨g4, rfl, hi4, hx4⟩; have t4 : Ext w w4 := t3.trans hx4; have s4 : Ext w2 w4 := hx3.trans hx4) | (go_at_call_of 17 (Value.int IntKind.u64 (X : Int)); refine (put_r X 2 _ (Nat.lt_of_lt_of_le HX.out (by decide)) (by decide) (by decide)).mono ?_; rintro e w2 ⟨g2, rfl, hi2, hx2⟩; have t2 : Ext w w2 := h1.drew.trans hx2; have c2 := fun W' (hW : Ext w2 W') => conv_bytes (hi2.ext hW); have heq := shut_change (S2 := fun W' => Ext w W' ∧ Ext w2 W') (by assumption) (fun W' h => h.1); simp only [heq] at *) | (go_at_call_of 17 (Value.int IntKind.u64 (Y : Int)); refine (put_r Y 2 _ (Nat.lt_of_lt_of_le HY.out (by decide)) (by decide) (by decide)).mono ?_; rintro e w3 ⟨g3, rfl, hi3, hx3⟩; have t3 : Ext w w3 := t2.trans hx3; have c3 := fun W' (hW : Ext w3 W') => conv_bytes (hi3.ext hW); have heq := shut_change (S2 := fun W' => (Ext w W' ∧ Ext w2 W') ∧ Ext w3 W') (by assumption) (fun W' h => h.1); simp only [heq] at *))
  all_goals
    go_wp2
    go_ret
    exact ⟨rfl, t4⟩

set_option maxHeartbeats 1600000 in
theorem order_3 (a b : Nat) (ha : a < 18446744073709551616) (hb : b < 18446744073709551616) (m : Int) (hm : 0 ≤ m ∧ m < 256) (hk : m % 8 = 2) (w : World) :
    Calls Try.prog 6 #[.int .u64 a, .int .u64 b, .int .u8 m] w fun e w' => e = .returned (.bool true) ∧ Ext w w' := by
  obtain ⟨hm0, hm1⟩ := hm
  obtain ⟨X, hX⟩ : ∃ X : Nat, X = a % 16777216 := ⟨_, rfl⟩
  obtain ⟨Y, hY⟩ : ∃ Y : Nat, Y = b % 16777216 := ⟨_, rfl⟩
  have hXl : X < 16777216 := by omega
  have hYl : Y < 16777216 := by omega
  have fX : IntKind.u64.wrap ((a : Int) * 1099511627776) / 1099511627776 = ((X : Nat) : Int) := by rw [IntKind.wrap_u64]; omega
  have fY : IntKind.u64.wrap ((b : Int) * 1099511627776) / 1099511627776 = ((Y : Nat) : Int) := by rw [IntKind.wrap_u64]; omega
  have hl := Lib.hid (str_less 3 X Y (by simpa using hXl) (by simpa using hYl))
  have hk3 := hk
  clear hX hY
  go_enter Try.func6, Try.ntmps6
  go_wp2_with fail
  refine (awake1 _).mono ?_
  rintro e w1 ⟨rfl, h1⟩
  go_wp2
  have HX := Lib.hid hXl
  have HY := Lib.hid hYl
  clear hXl hYl ha hb hm0 hm1 hk hk3 fX fY
  have hl' := hl.out
  go_region_held3 (fun W' => Ext w W') ((first | assumption | exact h1.drew | exact ⟨t2, Ext.refl _⟩ | exact ⟨⟨t3, hx3⟩, Ext.refl _⟩ | exact ⟨⟨t4, s4⟩, hx4⟩)) (first | (go_at_call_of 17 (Value.int IntKind.u64 (X : Int)); refine (put_r X 3 _ (Nat.lt_of_lt_of_le HX.out (by decide)) (by decide) (by decide)).mono ?_; rintro e w4 ⟨g4, rfl, hi4, hx4⟩; have t4 : Ext w w4 := t3.trans hx4; have s4 : Ext w2 w4 := hx3.trans hx4) | (go_at_call_of 17 (Value.int IntKind.u64 (X : Int)); refine (put_r X 3 _ (Nat.lt_of_lt_of_le HX.out (by decide)) (by decide) (by decide)).mono ?_; rintro e w2 ⟨g2, rfl, hi2, hx2⟩; have t2 : Ext w w2 := h1.drew.trans hx2; have c2 := fun W' (hW : Ext w2 W') => conv_bytes (hi2.ext hW); have heq := shut_change (S2 := fun W' => Ext w W' ∧ Ext w2 W') (by assumption) (fun W' h => h.1); simp only [heq] at *) | (go_at_call_of 17 (Value.int IntKind.u64 (Y : Int)); refine (put_r Y 3 _ (Nat.lt_of_lt_of_le HY.out (by decide)) (by decide) (by decide)).mono ?_; rintro e w3 ⟨g3, rfl, hi3, hx3⟩; have t3 : Ext w w3 := t2.trans hx3; have c3 := fun W' (hW : Ext w3 W') => conv_bytes (hi3.ext hW); have heq := shut_change (S2 := fun W' => (Ext w W' ∧ Ext w2 W') ∧ Ext w3 W') (by assumption) (fun W' h => h.1); simp only [heq] at *))
  all_goals
    go_wp2
    go_ret
    exact ⟨rfl, t4⟩

set_option maxHeartbeats 1600000 in
theorem order_4 (a b : Nat) (ha : a < 18446744073709551616) (hb : b < 18446744073709551616) (m : Int) (hm : 0 ≤ m ∧ m < 256) (hk : m % 8 = 3) (w : World) :
    Calls Try.prog 6 #[.int .u64 a, .int .u64 b, .int .u8 m] w fun e w' => e = .returned (.bool true) ∧ Ext w w' := by
  obtain ⟨hm0, hm1⟩ := hm
  obtain ⟨X, hX⟩ : ∃ X : Nat, X = a % 4294967296 := ⟨_, rfl⟩
  obtain ⟨Y, hY⟩ : ∃ Y : Nat, Y = b % 4294967296 := ⟨_, rfl⟩
  have hXl : X < 4294967296 := by omega
  have hYl : Y < 4294967296 := by omega
  have fX : IntKind.u64.wrap ((a : Int) * 4294967296) / 4294967296 = ((X : Nat) : Int) := by rw [IntKind.wrap_u64]; omega
  have fY : IntKind.u64.wrap ((b : Int) * 4294967296) / 4294967296 = ((Y : Nat) : Int) := by rw [IntKind.wrap_u64]; omega
  have hl := Lib.hid (str_less 4 X Y (by simpa using hXl) (by simpa using hYl))
  have hk3 := hk
  clear hX hY
  go_enter Try.func6, Try.ntmps6
  go_wp2_with fail
  refine (awake1 _).mono ?_
  rintro e w1 ⟨rfl, h1⟩
  go_wp2
  have HX := Lib.hid hXl
  have HY := Lib.hid hYl
  clear hXl hYl ha hb hm0 hm1 hk hk3 fX fY
  have hl' := hl.out
  go_region_held3 (fun W' => Ext w W') ((first | assumption | exact h1.drew | exact ⟨t2, Ext.refl _⟩ | exact ⟨⟨t3, hx3⟩, Ext.refl _⟩ | exact ⟨⟨t4, s4⟩, hx4⟩)) (first | (go_at_call_of 17 (Value.int IntKind.u64 (X : Int)); refine (put_r X 4 _ (Nat.lt_of_lt_of_le HX.out (by decide)) (by decide) (by decide)).mono ?_; rintro e w4 ⟨g4, rfl, hi4, hx4⟩; have t4 : Ext w w4 := t3.trans hx4; have s4 : Ext w2 w4 := hx3.trans hx4) | (go_at_call_of 17 (Value.int IntKind.u64 (X : Int)); refine (put_r X 4 _ (Nat.lt_of_lt_of_le HX.out (by decide)) (by decide) (by decide)).mono ?_; rintro e w2 ⟨g2, rfl, hi2, hx2⟩; have t2 : Ext w w2 := h1.drew.trans hx2; have c2 := fun W' (hW : Ext w2 W') => conv_bytes (hi2.ext hW); have heq := shut_change (S2 := fun W' => Ext w W' ∧ Ext w2 W') (by assumption) (fun W' h => h.1); simp only [heq] at *) | (go_at_call_of 17 (Value.int IntKind.u64 (Y : Int)); refine (put_r Y 4 _ (Nat.lt_of_lt_of_le HY.out (by decide)) (by decide) (by decide)).mono ?_; rintro e w3 ⟨g3, rfl, hi3, hx3⟩; have t3 : Ext w w3 := t2.trans hx3; have c3 := fun W' (hW : Ext w3 W') => conv_bytes (hi3.ext hW); have heq := shut_change (S2 := fun W' => (Ext w W' ∧ Ext w2 W') ∧ Ext w3 W') (by assumption) (fun W' h => h.1); simp only [heq] at *))
  all_goals
    go_wp2
    go_ret
    exact ⟨rfl, t4⟩

set_option maxHeartbeats 1600000 in
theorem order_5 (a b : Nat) (ha : a < 18446744073709551616) (hb : b < 18446744073709551616) (m : Int) (hm : 0 ≤ m ∧ m < 256) (hk : m % 8 = 4) (w : World) :
    Calls Try.prog 6 #[.int .u64 a, .int .u64 b, .int .u8 m] w fun e w' => e = .returned (.bool true) ∧ Ext w w' := by
  obtain ⟨hm0, hm1⟩ := hm
  obtain ⟨X, hX⟩ : ∃ X : Nat, X = a % 1099511627776 := ⟨_, rfl⟩
  obtain ⟨Y, hY⟩ : ∃ Y : Nat, Y = b % 1099511627776 := ⟨_, rfl⟩
  have hXl : X < 1099511627776 := by omega
  have hYl : Y < 1099511627776 := by omega
  have fX : IntKind.u64.wrap ((a : Int) * 16777216) / 16777216 = ((X : Nat) : Int) := by rw [IntKind.wrap_u64]; omega
  have fY : IntKind.u64.wrap ((b : Int) * 16777216) / 16777216 = ((Y : Nat) : Int) := by rw [IntKind.wrap_u64]; omega
  have hl := Lib.hid (str_less 5 X Y (by simpa using hXl) (by simpa using hYl))
  have hk3 := hk
  clear hX hY
  go_enter Try.func6, Try.ntmps6
  go_wp2_with fail
  refine (awake1 _).mono ?_
  rintro e w1 ⟨rfl, h1⟩
  go_wp2
  have HX := Lib.hid hXl
  have HY := Lib.hid hYl
  clear hXl hYl ha hb hm0 hm1 hk hk3 fX fY
  have hl' := hl.out
  go_region_held3 (fun W' => Ext w W') ((first | assumption | exact h1.drew | exact ⟨t2, Ext.refl _⟩ | exact ⟨⟨t3, hx3⟩, Ext.refl _⟩ | exact ⟨⟨t4, s4⟩, hx4⟩)) (first | (go_at_call_of 17 (Value.int IntKind.u64 (X : Int)); refine (put_r X 5 _ (Nat.lt_of_lt_of_le HX.out (by decide)) (by decide) (by decide)).mono ?_; rintro e w4 ⟨g4, rfl, hi4, hx4⟩; have t4 : Ext w w4 := t3.trans hx4; have s4 : Ext w2 w4 := hx3.trans hx4) | (go_at_call_of 17 (Value.int IntKind.u64 (X : Int)); refine (put_r X 5 _ (Nat.lt_of_lt_of_le HX.out (by decide)) (by decide) (by decide)).mono ?_; rintro e w2 ⟨g2, rfl, hi2, hx2⟩; have t2 : Ext w w2 := h1.drew.trans hx2; have c2 := fun W' (hW : Ext w2 W') => conv_bytes (hi2.ext hW); have heq := shut_change (S2 := fun W' => Ext w W' ∧ Ext w2 W') (by assumption) (fun W' h => h.1); simp only [heq] at *) | (go_at_call_of 17 (Value.int IntKind.u64 (Y : Int)); refine (put_r Y 5 _ (Nat.lt_of_lt_of_le HY.out (by decide)) (by decide) (by decide)).mono ?_; rintro e w3 ⟨g3, rfl, hi3, hx3⟩; have t3 : Ext w w3 := t2.trans hx3; have c3 := fun W' (hW : Ext w3 W') => conv_bytes (hi3.ext hW); have heq := shut_change (S2 := fun W' => (Ext w W' ∧ Ext w2 W') ∧ Ext w3 W') (by assumption) (fun W' h => h.1); simp only [heq] at *))
  all_goals
    go_wp2
    go_ret
    exact ⟨rfl, t4⟩

set_option maxHeartbeats 1600000 in
theorem order_6 (a b : Nat) (ha : a < 18446744073709551616) (hb : b < 18446744073709551616) (m : Int) (hm : 0 ≤ m ∧ m < 256) (hk : m % 8 = 5) (w : World) :
    Calls Try.prog 6 #[.int .u64 a, .int .u64 b, .int .u8 m] w fun e w' => e = .returned (.bool true) ∧ Ext w w' := by
  obtain ⟨hm0, hm1⟩ := hm
  obtain ⟨X, hX⟩ : ∃ X : Nat, X = a % 281474976710656 := ⟨_, rfl⟩
  obtain ⟨Y, hY⟩ : ∃ Y : Nat, Y = b % 281474976710656 := ⟨_, rfl⟩
  have hXl : X < 281474976710656 := by omega
  have hYl : Y < 281474976710656 := by omega
  have fX : IntKind.u64.wrap ((a : Int) * 65536) / 65536 = ((X : Nat) : Int) := by rw [IntKind.wrap_u64]; omega
  have fY : IntKind.u64.wrap ((b : Int) * 65536) / 65536 = ((Y : Nat) : Int) := by rw [IntKind.wrap_u64]; omega
  have hl := Lib.hid (str_less 6 X Y (by simpa using hXl) (by simpa using hYl))
  have hk3 := hk
  clear hX hY
  go_enter Try.func6, Try.ntmps6
  go_wp2_with fail
  refine (awake1 _).mono ?_
  rintro e w1 ⟨rfl, h1⟩
  go_wp2
  have HX := Lib.hid hXl
  have HY := Lib.hid hYl
  clear hXl hYl ha hb hm0 hm1 hk hk3 fX fY
  have hl' := hl.out
  go_region_held3 (fun W' => Ext w W') ((first | assumption | exact h1.drew | exact ⟨t2, Ext.refl _⟩ | exact ⟨⟨t3, hx3⟩, Ext.refl _⟩ | exact ⟨⟨t4, s4⟩, hx4⟩)) (first | (go_at_call_of 17 (Value.int IntKind.u64 (X : Int)); refine (put_r X 6 _ (Nat.lt_of_lt_of_le HX.out (by decide)) (by decide) (by decide)).mono ?_; rintro e w4 ⟨g4, rfl, hi4, hx4⟩; have t4 : Ext w w4 := t3.trans hx4; have s4 : Ext w2 w4 := hx3.trans hx4) | (go_at_call_of 17 (Value.int IntKind.u64 (X : Int)); refine (put_r X 6 _ (Nat.lt_of_lt_of_le HX.out (by decide)) (by decide) (by decide)).mono ?_; rintro e w2 ⟨g2, rfl, hi2, hx2⟩; have t2 : Ext w w2 := h1.drew.trans hx2; have c2 := fun W' (hW : Ext w2 W') => conv_bytes (hi2.ext hW); have heq := shut_change (S2 := fun W' => Ext w W' ∧ Ext w2 W') (by assumption) (fun W' h => h.1); simp only [heq] at *) | (go_at_call_of 17 (Value.int IntKind.u64 (Y : Int)); refine (put_r Y 6 _ (Nat.lt_of_lt_of_le HY.out (by decide)) (by decide) (by decide)).mono ?_; rintro e w3 ⟨g3, rfl, hi3, hx3⟩; have t3 : Ext w w3 := t2.trans hx3; have c3 := fun W' (hW : Ext w3 W') => conv_bytes (hi3.ext hW); have heq := shut_change (S2 := fun W' => (Ext w W' ∧ Ext w2 W') ∧ Ext w3 W') (by assumption) (fun W' h => h.1); simp only [heq] at *))
  all_goals
    go_wp2
    go_ret
    exact ⟨rfl, t4⟩

set_option maxHeartbeats 1600000 in
theorem order_7 (a b : Nat) (ha : a < 18446744073709551616) (hb : b < 18446744073709551616) (m : Int) (hm : 0 ≤ m ∧ m < 256) (hk : m % 8 = 6) (w : World) :
    Calls Try.prog 6 #[.int .u64 a, .int .u64 b, .int .u8 m] w fun e w' => e = .returned (.bool true) ∧ Ext w w' := by
  obtain ⟨hm0, hm1⟩ := hm
  obtain ⟨X, hX⟩ : ∃ X : Nat, X = a % 72057594037927936 := ⟨_, rfl⟩
  obtain ⟨Y, hY⟩ : ∃ Y : Nat, Y = b % 72057594037927936 := ⟨_, rfl⟩
  have hXl : X < 72057594037927936 := by omega
  have hYl : Y < 72057594037927936 := by omega
  have fX : IntKind.u64.wrap ((a : Int) * 256) / 256 = ((X : Nat) : Int) := by rw [IntKind.wrap_u64]; omega
  have fY : IntKind.u64.wrap ((b : Int) * 256) / 256 = ((Y : Nat) : Int) := by rw [IntKind.wrap_u64]; omega
  have hl := Lib.hid (str_less 7 X Y (by simpa using hXl) (by simpa using hYl))
  have hk3 := hk
  clear hX hY
  go_enter Try.func6, Try.ntmps6
  go_wp2_with fail
  refine (awake1 _).mono ?_
  rintro e w1 ⟨rfl, h1⟩
  go_wp2
  have HX := Lib.hid hXl
  have HY := Lib.hid hYl
  clear hXl hYl ha hb hm0 hm1 hk hk3 fX fY
  have hl' := hl.out
  go_region_held3 (fun W' => Ext w W') ((first | assumption | exact h1.drew | exact ⟨t2, Ext.refl _⟩ | exact ⟨⟨t3, hx3⟩, Ext.refl _⟩ | exact ⟨⟨t4, s4⟩, hx4⟩)) (first | (go_at_call_of 17 (Value.int IntKind.u64 (X : Int)); refine (put_r X 7 _ (Nat.lt_of_lt_of_le HX.out (by decide)) (by decide) (by decide)).mono ?_; rintro e w4 ⟨g4, rfl, hi4, hx4⟩; have t4 : Ext w w4 := t3.trans hx4; have s4 : Ext w2 w4 := hx3.trans hx4) | (go_at_call_of 17 (Value.int IntKind.u64 (X : Int)); refine (put_r X 7 _ (Nat.lt_of_lt_of_le HX.out (by decide)) (by decide) (by decide)).mono ?_; rintro e w2 ⟨g2, rfl, hi2, hx2⟩; have t2 : Ext w w2 := h1.drew.trans hx2; have c2 := fun W' (hW : Ext w2 W') => conv_bytes (hi2.ext hW); have heq := shut_change (S2 := fun W' => Ext w W' ∧ Ext w2 W') (by assumption) (fun W' h => h.1); simp only [heq] at *) | (go_at_call_of 17 (Value.int IntKind.u64 (Y : Int)); refine (put_r Y 7 _ (Nat.lt_of_lt_of_le HY.out (by decide)) (by decide) (by decide)).mono ?_; rintro e w3 ⟨g3, rfl, hi3, hx3⟩; have t3 : Ext w w3 := t2.trans hx3; have c3 := fun W' (hW : Ext w3 W') => conv_bytes (hi3.ext hW); have heq := shut_change (S2 := fun W' => (Ext w W' ∧ Ext w2 W') ∧ Ext w3 W') (by assumption) (fun W' h => h.1); simp only [heq] at *))
  all_goals
    go_wp2
    go_ret
    exact ⟨rfl, t4⟩

set_option maxHeartbeats 1600000 in
theorem order_8 (a b : Nat) (ha : a < 18446744073709551616) (hb : b < 18446744073709551616) (m : Int) (hm : 0 ≤ m ∧ m < 256) (hk : m % 8 = 7) (w : World) :
    Calls Try.prog 6 #[.int .u64 a, .int .u64 b, .int .u8 m] w fun e w' => e = .returned (.bool true) ∧ Ext w w' := by
  obtain ⟨hm0, hm1⟩ := hm
  obtain ⟨X, hX⟩ : ∃ X : Nat, X = a := ⟨_, rfl⟩
  obtain ⟨Y, hY⟩ : ∃ Y : Nat, Y = b := ⟨_, rfl⟩
  have hXl : X < 18446744073709551616 := by omega
  have hYl : Y < 18446744073709551616 := by omega
  have hl := Lib.hid (str_less 8 X Y (by simpa using hXl) (by simpa using hYl))
  have hk3 := hk
  subst hX
  subst hY
  go_enter Try.func6, Try.ntmps6
  go_wp2_with fail
  refine (awake1 _).mono ?_
  rintro e w1 ⟨rfl, h1⟩
  go_wp2
  have HX := Lib.hid hXl
  have HY := Lib.hid hYl
  clear hXl hYl ha hb hm0 hm1 hk hk3
  have hl' := hl.out
  go_region_held3 (fun W' => Ext w W') ((first | assumption | exact h1.drew | exact ⟨t2, Ext.refl _⟩ | exact ⟨⟨t3, hx3⟩, Ext.refl _⟩ | exact ⟨⟨t4, s4⟩, hx4⟩)) (first | (go_at_call_of 17 (Value.int IntKind.u64 (X : Int)); refine (put_r X 8 _ (Nat.lt_of_lt_of_le HX.out (by decide)) (by decide) (by decide)).mono ?_; rintro e w4 ⟨g4, rfl, hi4, hx4⟩; have t4 : Ext w w4 := t3.trans hx4; have s4 : Ext w2 w4 := hx3.trans hx4) | (go_at_call_of 17 (Value.int IntKind.u64 (X : Int)); refine (put_r X 8 _ (Nat.lt_of_lt_of_le HX.out (by decide)) (by decide) (by decide)).mono ?_; rintro e w2 ⟨g2, rfl, hi2, hx2⟩; have t2 : Ext w w2 := h1.drew.trans hx2; have c2 := fun W' (hW : Ext w2 W') => conv_bytes (hi2.ext hW); have heq := shut_change (S2 := fun W' => Ext w W' ∧ Ext w2 W') (by assumption) (fun W' h => h.1); simp only [heq] at *) | (go_at_call_of 17 (Value.int IntKind.u64 (Y : Int)); refine (put_r Y 8 _ (Nat.lt_of_lt_of_le HY.out (by decide)) (by decide) (by decide)).mono ?_; rintro e w3 ⟨g3, rfl, hi3, hx3⟩; have t3 : Ext w w3 := t2.trans hx3; have c3 := fun W' (hW : Ext w3 W') => conv_bytes (hi3.ext hW); have heq := shut_change (S2 := fun W' => (Ext w W' ∧ Ext w2 W') ∧ Ext w3 W') (by assumption) (fun W' h => h.1); simp only [heq] at *))
  all_goals
    go_wp2
    go_ret
    exact ⟨rfl, t4⟩

theorem law_OctetOrder (a : Int) (ha : 0 ≤ a ∧ a < 18446744073709551616) (b : Int) (hb : 0 ≤ b ∧ b < 18446744073709551616) (m : Int) (hm : 0 ≤ m ∧ m < 256) (w : World) :
    Calls Try.prog 6 #[.int .u64 a, .int .u64 b, .int .u8 m] w fun e w' => e = .returned (.bool true) ∧ Ext w w' := by
  obtain ⟨a, rfl⟩ := Int.eq_ofNat_of_zero_le ha.1
  obtain ⟨b, rfl⟩ := Int.eq_ofNat_of_zero_le hb.1
  have h1 : a < 18446744073709551616 := by omega
  have h2 : b < 18446744073709551616 := by omega
  rcases (show m % 8 = 0 ∨ m % 8 = 1 ∨ m % 8 = 2 ∨ m % 8 = 3 ∨ m % 8 = 4 ∨ m % 8 = 5 ∨ m % 8 = 6 ∨ m % 8 = 7 by omega) with h | h | h | h | h | h | h | h
  · exact order_1 a b h1 h2 m hm h w
  · exact order_2 a b h1 h2 m hm h w
  · exact order_3 a b h1 h2 m hm h w
  · exact order_4 a b h1 h2 m hm h w
  · exact order_5 a b h1 h2 m hm h w
  · exact order_6 a b h1 h2 m hm h w
  · exact order_7 a b h1 h2 m hm h w
  · exact order_8 a b h1 h2 m hm h w

end Go.Proofs.Ytgiobcbdbhnneaa
