/- Contracts of the functions of package ident. No statement is proved here. -/
import Derived.Test.YtgiobcbdbhnneaaIdentA
namespace Go.Proofs.Ytgiobcbdbhnneaa
open Go.RowKit
set_option linter.unusedVariables false

/-- What two parts make. -/
theorem join_val (n0 b0 n1 b1 : Nat) (hb : b0 + b1 ≤ 64) :
    bits .or .u64 (IntKind.u64.wrap (bits .or .u64 0 ((n0 : Int) % 2 ^ b0) * 2 ^ b1)) ((n1 : Int) % 2 ^ b1) = ((n0 % 2 ^ b0 * 2 ^ b1 + n1 % 2 ^ b1 : Nat) : Int) := by
  have p0 : 0 < (2 : Nat) ^ b0 := Nat.two_pow_pos b0
  have p1 : 0 < (2 : Nat) ^ b1 := Nat.two_pow_pos b1
  have m0 : n0 % 2 ^ b0 < 2 ^ b0 := Nat.mod_lt _ p0
  have m1 : n1 % 2 ^ b1 < 2 ^ b1 := Nat.mod_lt _ p1
  have hp : (2 : Nat) ^ b0 * 2 ^ b1 ≤ 18446744073709551616 := by
    rw [← Nat.pow_add]
    exact Nat.le_trans (Nat.pow_le_pow_right (by decide) hb) (by decide)
  have l0 : (2 : Nat) ^ b0 ≤ 18446744073709551616 := Nat.le_trans (Nat.le_mul_of_pos_right _ p1) hp
  have l1 : (2 : Nat) ^ b1 ≤ 18446744073709551616 := Nat.le_trans (Nat.le_mul_of_pos_left _ p0) hp
  have hx : n0 % 2 ^ b0 * 2 ^ b1 < 18446744073709551616 := Nat.lt_of_lt_of_le ((Nat.mul_lt_mul_right p1).2 m0) hp
  have e0 : ((n0 : Int) % 2 ^ b0) = ((n0 % 2 ^ b0 : Nat) : Int) := by push_cast; rfl
  have e1 : ((n1 : Int) % 2 ^ b1) = ((n1 % 2 ^ b1 : Nat) : Int) := by push_cast; rfl
  have ez : (0 : Int) = ((0 : Nat) : Int) := rfl
  rw [e0, e1, ez, u64_or_nat 0 _ (by decide) (by omega), Nat.zero_or]
  have e2 : ((n0 % 2 ^ b0 : Nat) : Int) * 2 ^ b1 = ((n0 % 2 ^ b0 * 2 ^ b1 : Nat) : Int) := by push_cast; rfl
  rw [e2]
  generalize hX : n0 % 2 ^ b0 * 2 ^ b1 = X at hx ⊢
  have e3 : IntKind.u64.wrap ((X : Nat) : Int) = ((X : Nat) : Int) := by rw [IntKind.wrap_u64]; omega
  rw [e3, u64_or_nat X _ hx (by omega), nat_join b1 X _ (by rw [← hX]; exact Nat.mul_mod_left _ _) m1]

set_option maxHeartbeats 400000 in
/-- Two parts, one behind the other. -/
theorem join_two (B c n0 b0 n1 b1 : Nat) (w : World) (hB : B < w.heap.size) (hn0 : n0 < 18446744073709551616) (hb0 : b0 < 64) (hn1 : n1 < 18446744073709551616) (hb1 : b1 < 64) (hbb : b0 + b1 ≤ 64)
    (c0 : w.cell? ⟨B, 0, none⟩ = some (.int .u64 n0)) (c1 : w.cell? ⟨B, 1, none⟩ = some (.int .u64 b0)) (c2 : w.cell? ⟨B, 2, none⟩ = some (.int .u64 n1)) (c3 : w.cell? ⟨B, 3, none⟩ = some (.int .u64 b1)) :
    Calls Try.prog 49 #[.slice (some ⟨B, 0, none⟩) 2 c] w fun e w' => e = .returned (.int .u64 ((n0 % 2 ^ b0 * 2 ^ b1 + n1 % 2 ^ b1 : Nat) : Int)) ∧ Ext w w' := by
  have hv := Lib.hid (join_val n0 b0 n1 b1 hbb)
  go_enter Try.func49, Try.ntmps49
  go_wp2
  refine wp_loop_rounds 3 ?_
  rw [rounds_succ]
  go_wp2
  go_quiet ((go_at_call 50; exact quietL (low_nat n0 b0 _ hn0 hb0)))
  go_wp2
  rw [rounds_succ]
  go_wp2
  go_quiet ((go_at_call 50; exact quietL (low_nat n1 b1 _ hn1 hb1)))
  go_wp2
  rw [rounds_succ]
  go_wp2
  go_ret
  exact ⟨congrArg (fun x => Ending.returned (.int .u64 x)) hv.out, ((((Ext.refl w).alloc _).drewN _).alloc _).drewN _⟩

theorem bridge_val (p x : Nat) (h : p < 65536) : ((p % 2 ^ 16 * 2 ^ 48 + x % 2 ^ 48 : Nat) : Int) = (p : Int) * 281474976710656 + (x : Int) % 281474976710656 := by omega

set_option maxHeartbeats 400000 in
theorem bridge_any (p x : Int) (w : World) (h0 : 0 ≤ p) (h1 : p < 65536) (h2 : 0 ≤ x) (h3 : x < 18446744073709551616) :
    Calls Try.prog 25 #[.int .u16 p, .int .u64 x] w fun e w' => e = .returned (.int .u64 (p * 281474976710656 + x % 281474976710656)) ∧ Ext w w' := by
  obtain ⟨p, rfl⟩ := Int.eq_ofNat_of_zero_le h0
  obtain ⟨x, rfl⟩ := Int.eq_ofNat_of_zero_le h2
  have hp : p < 65536 := by omega
  have hx : x < 18446744073709551616 := by omega
  go_enter Try.func25, Try.ntmps25
  go_wp2_with fail
  refine (asi (join_two _ _ p 16 x 48 _ ?_ (by omega) (by decide) hx (by decide) (by decide) ?_ ?_ ?_ ?_) (bridge_val p x hp)).mono ?_
  · simp
  · exact (World.cell?_alloc_at _ _ _ _ rfl).trans rfl
  · exact (World.cell?_alloc_at _ _ _ _ rfl).trans rfl
  · exact (World.cell?_alloc_at _ _ _ _ rfl).trans rfl
  · exact (World.cell?_alloc_at _ _ _ _ rfl).trans rfl
  rintro e w1 ⟨rfl, hb⟩
  go_wp2
  go_ret
  exact ⟨rfl, ((Ext.refl w).alloc _).trans hb⟩

set_option maxHeartbeats 400000 in
theorem port_any (p x : Int) (w : World) (h0 : 0 ≤ p) (h1 : p < 256) (h2 : 0 ≤ x) (h3 : x < 65536) :
    Calls Try.prog 31 #[.int .u8 p, .int .u16 x] w fun e w' => e = .returned (.int .u16 (p / 16 * 4096 + x % 4096)) ∧ Ext w w' := by
  obtain ⟨p, rfl⟩ := Int.eq_ofNat_of_zero_le h0
  obtain ⟨x, rfl⟩ := Int.eq_ofNat_of_zero_le h2
  have hp : p < 256 := by omega
  have hx : x < 65536 := by omega
  go_enter Try.func31, Try.ntmps31
  go_wp2_with fail
  refine ((join_two _ _ (p / 16) 4 x 12 _ ?_ (by omega) (by decide) (by omega) (by decide) (by decide) ?_ ?_ ?_ ?_)).mono ?_
  · simp
  · exact (World.cell?_alloc_at _ _ _ _ rfl).trans rfl
  · exact (World.cell?_alloc_at _ _ _ _ rfl).trans rfl
  · exact (World.cell?_alloc_at _ _ _ _ rfl).trans rfl
  · exact (World.cell?_alloc_at _ _ _ _ rfl).trans rfl
  rintro e w1 ⟨rfl, hb⟩
  go_wp2
  go_ret
  exact ⟨retI (by omega), ((Ext.refl w).alloc _).trans hb⟩

theorem prio_any (x : Int) (w : World) (h2 : 0 ≤ x) (h3 : x < 18446744073709551616) :
    Calls Try.prog 27 #[.int .u64 x] w fun e w' => e = .returned (.int .u16 (x / 281474976710656)) ∧ w = w' := by
  go_enter Try.func27, Try.ntmps27
  go_wp2
  go_ret
  exact ⟨retI (by omega), rfl⟩

theorem bit_one (x : Int) (h0 : 0 ≤ x) (h1 : x < 18446744073709551616) : bits .and .u64 x 1 = x % 2 := by
  rw [u64_and x 1 h0 h1 (by decide) (by decide)]
  have := nat_mask1 x.toNat
  rw [show (1 : Int).toNat = 1 from rfl, this]
  omega

theorem group_any (x : Int) (w : World) (h2 : 0 ≤ x) (h3 : x < 18446744073709551616) :
    Calls Try.prog 35 #[.int .u64 x] w fun e w' => e = .returned (.bool (x / 1099511627776 % 2 == 1)) ∧ w = w' := by
  have hb := Lib.hid (bit_one (x / 1099511627776) (by omega) (by omega))
  go_enter Try.func35, Try.ntmps35
  go_wp2
  go_ret
  exact ⟨retB (by rw [hb.out]), rfl⟩

/-! The document's own answers. -/
theorem ref_bridge (p x : Int) (w : World) (h0 : 0 ≤ p) (h1 : p < 65536) (h2 : 0 ≤ x) (h3 : x < 18446744073709551616) :
    Calls Try.prog 26 #[.int .u16 p, .int .u64 x] w fun e w' => e = .returned (.int .u64 (p * 281474976710656 + x % 281474976710656)) ∧ w = w' := by
  go_enter Try.func26, Try.ntmps26
  go_wp2
  go_ret
  exact ⟨retI (by omega), rfl⟩

theorem ref_prio (x : Int) (w : World) (h2 : 0 ≤ x) (h3 : x < 18446744073709551616) :
    Calls Try.prog 28 #[.int .u64 x] w fun e w' => e = .returned (.int .u16 (x / 281474976710656)) ∧ w = w' := by
  go_enter Try.func28, Try.ntmps28
  go_wp2
  go_ret
  exact ⟨retI (by omega), rfl⟩

theorem ref_addr (x : Int) (w : World) (h2 : 0 ≤ x) (h3 : x < 18446744073709551616) :
    Calls Try.prog 30 #[.int .u64 x] w fun e w' => e = .returned (.int .u64 (x % 281474976710656)) ∧ w = w' := by
  go_enter Try.func30, Try.ntmps30
  go_wp2
  go_ret
  exact ⟨retI (by omega), rfl⟩

theorem ref_port (p x : Int) (w : World) (h0 : 0 ≤ p) (h1 : p < 256) (h2 : 0 ≤ x) (h3 : x < 65536) :
    Calls Try.prog 32 #[.int .u8 p, .int .u16 x] w fun e w' => e = .returned (.int .u16 (p / 16 * 4096 + x % 4096)) ∧ w = w' := by
  go_enter Try.func32, Try.ntmps32
  go_wp2
  go_ret
  exact ⟨retI (by omega), rfl⟩

theorem ref_num (x : Int) (w : World) (h2 : 0 ≤ x) (h3 : x < 65536) :
    Calls Try.prog 34 #[.int .u16 x] w fun e w' => e = .returned (.int .u16 (x % 4096)) ∧ w = w' := by
  go_enter Try.func34, Try.ntmps34
  go_wp2
  go_ret
  exact ⟨retI (by omega), rfl⟩

theorem ref_group (x : Int) (w : World) (h2 : 0 ≤ x) (h3 : x < 18446744073709551616) :
    Calls Try.prog 36 #[.int .u64 x] w fun e w' => e = .returned (.bool (x / 1099511627776 % 2 == 1)) ∧ w = w' := by
  go_enter Try.func36, Try.ntmps36
  go_wp2
  go_ret
  exact ⟨rfl, rfl⟩

/-! The chapter's examples. -/
set_option maxHeartbeats 800000 in
theorem awake2 (w : World) : Calls Try.prog 24 #[] w fun e w' => e = .returned (.bool true) ∧ Ext w w' := by
  go_enter Try.func24, Try.ntmps24
  go_wp2_with fail
  refine (bridge_any _ _ _ (by decide) (by decide) (by decide) (by decide)).mono ?_
  rintro e w1 ⟨rfl, h1⟩
  go_wp2_with fail
  refine (port_any _ _ _ (by decide) (by decide) (by decide) (by decide)).mono ?_
  rintro e w2 ⟨rfl, h2⟩
  go_wp2_with fail
  refine (addr_any _ _ (by decide) (by decide)).mono ?_
  rintro e w3 ⟨rfl, rfl⟩
  go_wp2_with fail
  refine (num_any _ _ (by decide) (by decide)).mono ?_
  rintro e w3 ⟨rfl, rfl⟩
  go_wp2_with fail
  refine (group_any _ _ (by decide) (by decide)).mono ?_
  rintro e w3 ⟨rfl, rfl⟩
  go_wp2
  go_ret
  exact ⟨rfl, h1.trans h2⟩

theorem mask12 (q : Int) (h0 : 0 ≤ q) (h1 : q < 65536) : bits .and .u16 q 4095 = q % 4096 := by
  rw [u16_and q 4095 h0 h1 (by decide) (by decide), show (4095 : Int).toNat = 4095 from rfl, nat_mask12]
  omega

/-! The laws' walks. -/
set_option maxHeartbeats 1600000 in
theorem law_IdentBack (id : Int) (hid : 0 ≤ id ∧ id < 18446744073709551616) (p : Int) (hp : 0 ≤ p ∧ p < 65536) (x : Int) (hx : 0 ≤ x ∧ x < 18446744073709551616) (q : Int) (hq : 0 ≤ q ∧ q < 65536) (w : World) :
    Calls Try.prog 9 #[.int .u64 id, .int .u16 p, .int .u64 x, .int .u16 q] w fun e w' => e = .returned (.bool true) ∧ Ext w w' := by
  obtain ⟨hid0, hid1⟩ := hid
  obtain ⟨hp0, hp1⟩ := hp
  obtain ⟨hx0, hx1⟩ := hx
  obtain ⟨hq0, hq1⟩ := hq
  go_enter Try.func9, Try.ntmps9
  go_wp2_with fail
  refine (awake2 _).mono ?_
  rintro e w1 ⟨rfl, h1⟩
  go_wp2_with fail
  refine (bridge_any _ _ _ (by omega) (by omega) (by omega) (by omega)).mono ?_
  rintro e w2 ⟨rfl, h2⟩
  go_wp2_with fail
  refine (asi (port_any _ _ _ (by omega) (by omega) (by omega) (by omega)) (show _ = q by omega)).mono ?_
  rintro e w3 ⟨rfl, h3⟩
  go_wp2_with fail
  refine (prio_any _ _ (by omega) (by omega)).mono ?_
  rintro e w4 ⟨rfl, rfl⟩
  go_wp2_with fail
  refine (addr_any _ _ (by omega) (by omega)).mono ?_
  rintro e w4 ⟨rfl, rfl⟩
  go_wp2_with fail
  refine (asi (bridge_any _ _ _ (by omega) (by omega) (by omega) (by omega)) (show _ = id by omega)).mono ?_
  rintro e w4 ⟨rfl, h4⟩
  go_wp2_with fail
  refine (asi (prio_any _ _ (by omega) (by omega)) (show _ = p by omega)).mono ?_
  rintro e w5 ⟨rfl, rfl⟩
  go_wp2_with fail
  refine (asi (addr_any _ _ (by omega) (by omega)) (show _ = IntKind.u64.wrap (x * 65536) / 65536 by rw [IntKind.wrap_u64]; omega)).mono ?_
  rintro e w5 ⟨rfl, rfl⟩
  go_wp2_with fail
  refine (asi (num_any _ _ (by omega) (by omega)) (show _ = bits .and .u16 q 4095 by rw [mask12 q hq0 hq1])).mono ?_
  rintro e w5 ⟨rfl, rfl⟩
  go_wp2
  go_ret
  exact ⟨rfl, ((h1.trans h2).trans h3).trans h4⟩

set_option maxHeartbeats 1600000 in
theorem law_IdentTells (p : Int) (hp : 0 ≤ p ∧ p < 65536) (x : Int) (hx : 0 ≤ x ∧ x < 18446744073709551616) (s : Int) (hs : 0 ≤ s ∧ s < 256) (q : Int) (hq : 0 ≤ q ∧ q < 65536) (w : World) :
    Calls Try.prog 8 #[.int .u16 p, .int .u64 x, .int .u8 s, .int .u16 q] w fun e w' => e = .returned (.bool true) ∧ Ext w w' := by
  obtain ⟨hs0, hs1⟩ := hs
  obtain ⟨hp0, hp1⟩ := hp
  obtain ⟨hx0, hx1⟩ := hx
  obtain ⟨hq0, hq1⟩ := hq
  go_enter Try.func8, Try.ntmps8
  go_wp2_with fail
  refine (awake2 _).mono ?_
  rintro e w1 ⟨rfl, h1⟩
  go_wp2_with fail
  refine (bridge_any _ _ _ (by omega) (by omega) (by omega) (by omega)).mono ?_
  rintro e w2 ⟨rfl, h2⟩
  go_wp2_with fail
  refine (ref_bridge _ _ _ (by omega) (by omega) (by omega) (by omega)).mono ?_
  rintro e w3 ⟨rfl, rfl⟩
  go_wp2_with fail
  refine (prio_any _ _ (by omega) (by omega)).mono ?_
  rintro e w3 ⟨rfl, rfl⟩
  go_wp2_with fail
  refine (ref_prio _ _ (by omega) (by omega)).mono ?_
  rintro e w3 ⟨rfl, rfl⟩
  go_wp2_with fail
  refine (addr_any _ _ (by omega) (by omega)).mono ?_
  rintro e w3 ⟨rfl, rfl⟩
  go_wp2_with fail
  refine (ref_addr _ _ (by omega) (by omega)).mono ?_
  rintro e w3 ⟨rfl, rfl⟩
  go_wp2_with fail
  refine (port_any _ _ _ (by omega) (by omega) (by omega) (by omega)).mono ?_
  rintro e w3 ⟨rfl, h3⟩
  go_wp2_with fail
  refine (ref_port _ _ _ (by omega) (by omega) (by omega) (by omega)).mono ?_
  rintro e w4 ⟨rfl, rfl⟩
  go_wp2_with fail
  refine (num_any _ _ (by omega) (by omega)).mono ?_
  rintro e w4 ⟨rfl, rfl⟩
  go_wp2_with fail
  refine (ref_num _ _ (by omega) (by omega)).mono ?_
  rintro e w4 ⟨rfl, rfl⟩
  go_wp2_with fail
  refine (group_any _ _ (by omega) (by omega)).mono ?_
  rintro e w4 ⟨rfl, rfl⟩
  go_wp2_with fail
  refine (ref_group _ _ (by omega) (by omega)).mono ?_
  rintro e w4 ⟨rfl, rfl⟩
  go_wp2
  go_ret
  exact ⟨rfl, (h1.trans h2).trans h3⟩

theorem lt_iff_bool {a b c d : Int} (h : a < b ↔ c < d) : (decide (a < b) == decide (c < d)) = true := by
  rw [beq_iff_eq]
  exact decide_eq_decide.2 h

set_option maxHeartbeats 1600000 in
theorem law_IdentOrder (a : Int) (ha : 0 ≤ a ∧ a < 65536) (b : Int) (hb : 0 ≤ b ∧ b < 65536) (x : Int) (hx : 0 ≤ x ∧ x < 18446744073709551616) (y : Int) (hy : 0 ≤ y ∧ y < 18446744073709551616) (w : World) :
    Calls Try.prog 10 #[.int .u16 a, .int .u16 b, .int .u64 x, .int .u64 y] w fun e w' => e = .returned (.bool true) ∧ Ext w w' := by
  obtain ⟨ha0, ha1⟩ := ha
  obtain ⟨hb0, hb1⟩ := hb
  obtain ⟨hx0, hx1⟩ := hx
  obtain ⟨hy0, hy1⟩ := hy
  by_cases hab : a = b
  · subst hab
    have hv := lt_iff_bool (show a * 281474976710656 + x % 281474976710656 < a * 281474976710656 + y % 281474976710656 ↔ IntKind.u64.wrap (x * 65536) < IntKind.u64.wrap (y * 65536) by rw [IntKind.wrap_u64, IntKind.wrap_u64]; omega)
    go_enter Try.func10, Try.ntmps10
    go_wp2_with fail
    refine (awake2 _).mono ?_
    rintro e w1 ⟨rfl, h1⟩
    go_wp2_with fail
    refine (bridge_any _ _ _ (by omega) (by omega) (by omega) (by omega)).mono ?_
    rintro e w2 ⟨rfl, h2⟩
    go_wp2_with fail
    refine (bridge_any _ _ _ (by omega) (by omega) (by omega) (by omega)).mono ?_
    rintro e w3 ⟨rfl, h3⟩
    go_wp2
    go_ret
    exact ⟨retB (by simpa using hv), (h1.trans h2).trans h3⟩
  · have hv := lt_iff_bool (show a * 281474976710656 + x % 281474976710656 < b * 281474976710656 + y % 281474976710656 ↔ a < b by omega)
    have hn : (a != b) = true := by rw [bne_iff_ne]; exact hab
    go_enter Try.func10, Try.ntmps10
    go_wp2_with fail
    refine (awake2 _).mono ?_
    rintro e w1 ⟨rfl, h1⟩
    go_wp2_with fail
    refine (bridge_any _ _ _ (by omega) (by omega) (by omega) (by omega)).mono ?_
    rintro e w2 ⟨rfl, h2⟩
    go_wp2_with fail
    refine (bridge_any _ _ _ (by omega) (by omega) (by omega) (by omega)).mono ?_
    rintro e w3 ⟨rfl, h3⟩
    go_wp2
    go_ret
    exact ⟨retB (by simp), (h1.trans h2).trans h3⟩

theorem or_low (p l : Int) (h0 : 0 ≤ p) (h1 : p < 256) (h2 : 0 ≤ l) (h3 : l < 256) : bits .or .u8 (bits .and .u8 p 240) (l % 16) = p / 16 * 16 + l % 16 := by
  obtain ⟨p, rfl⟩ := Int.eq_ofNat_of_zero_le h0
  obtain ⟨l, rfl⟩ := Int.eq_ofNat_of_zero_le h2
  have e1 : bits .and .u8 (p : Int) 240 = ((p / 16 * 16 : Nat) : Int) := by
    have h : bits .and .u8 (p : Int) ((240 : Nat) : Int) = _ := u8_and_nat p 240 (by omega) (by decide)
    refine h.trans ?_
    have : ∀ p : Fin 256, p.val &&& 240 = p.val / 16 * 16 := by decide +kernel
    rw [this ⟨p, by omega⟩]
  have e2 : (l : Int) % 16 = ((l % 16 : Nat) : Int) := by omega
  rw [e1, e2, u8_or_nat _ _ (by omega) (by omega), nat_join 4 (p / 16 * 16) (l % 16) (by omega) (by omega)]
  omega

set_option maxHeartbeats 1600000 in
theorem law_IdentPorts (p : Int) (hp : 0 ≤ p ∧ p < 256) (a : Int) (ha : 0 ≤ a ∧ a < 65536) (b : Int) (hb : 0 ≤ b ∧ b < 65536) (l : Int) (hl : 0 ≤ l ∧ l < 256) (w : World) :
    Calls Try.prog 11 #[.int .u8 p, .int .u16 a, .int .u16 b, .int .u8 l] w fun e w' => e = .returned (.bool true) ∧ Ext w w' := by
  obtain ⟨ha0, ha1⟩ := ha
  obtain ⟨hb0, hb1⟩ := hb
  obtain ⟨hp0, hp1⟩ := hp
  obtain ⟨hl0, hl1⟩ := hl
  have hv := lt_iff_bool (show a % 4096 < b % 4096 ↔ bits .and .u16 a 4095 < bits .and .u16 b 4095 by rw [mask12 a ha0 ha1, mask12 b hb0 hb1])
  have ho := or_low p l hp0 hp1 hl0 hl1
  have hd : ((p / 16 * 4096 + a % 4096) / 4096 == p / 16) = true := by rw [beq_iff_eq]; omega
  go_enter Try.func11, Try.ntmps11
  go_wp2_with fail
  refine (awake2 _).mono ?_
  rintro e w1 ⟨rfl, h1⟩
  go_wp2_with fail
  refine (port_any _ _ _ (by omega) (by omega) (by omega) (by omega)).mono ?_
  rintro e w2 ⟨rfl, h2⟩
  go_wp2_with fail
  refine (port_any _ _ _ (by omega) (by omega) (by omega) (by omega)).mono ?_
  rintro e w3 ⟨rfl, h3⟩
  go_wp2_with fail
  refine (asi (port_any _ _ _ (by omega) (by omega) (by omega) (by omega)) (show _ = p / 16 * 4096 + a % 4096 by omega)).mono ?_
  rintro e w4 ⟨rfl, h4⟩
  go_wp2
  go_ret
  exact ⟨retB (by simp), ((h1.trans h2).trans h3).trans h4⟩

theorem bq {a b : Int} {c : Bool} (h : a = b ↔ c = true) : (a == b) = c := by
  cases c
  · simpa using h
  · simpa using h

set_option maxHeartbeats 4000000 in
theorem law_IdentUnlike (a : Int) (ha : 0 ≤ a ∧ a < 65536) (b : Int) (hb : 0 ≤ b ∧ b < 65536) (x : Int) (hx : 0 ≤ x ∧ x < 18446744073709551616) (y : Int) (hy : 0 ≤ y ∧ y < 18446744073709551616)
    (p : Int) (hp : 0 ≤ p ∧ p < 256) (q : Int) (hq : 0 ≤ q ∧ q < 256) (m : Int) (hm : 0 ≤ m ∧ m < 65536) (n : Int) (hn : 0 ≤ n ∧ n < 65536) (w : World) :
    Calls Try.prog 12 #[.int .u16 a, .int .u16 b, .int .u64 x, .int .u64 y, .int .u8 p, .int .u8 q, .int .u16 m, .int .u16 n] w fun e w' => e = .returned (.bool true) ∧ Ext w w' := by
  obtain ⟨ha0, ha1⟩ := ha
  obtain ⟨hb0, hb1⟩ := hb
  obtain ⟨hx0, hx1⟩ := hx
  obtain ⟨hy0, hy1⟩ := hy
  obtain ⟨hp0, hp1⟩ := hp
  obtain ⟨hq0, hq1⟩ := hq
  obtain ⟨hm0, hm1⟩ := hm
  obtain ⟨hn0, hn1⟩ := hn
  obtain ⟨e1, he1⟩ : ∃ e1 : Bool, (a = b ↔ e1 = true) := ⟨decide (a = b), by simp⟩
  obtain ⟨e2, he2⟩ : ∃ e2 : Bool, (x % 281474976710656 = y % 281474976710656 ↔ e2 = true) := ⟨decide (x % 281474976710656 = y % 281474976710656), by simp⟩
  obtain ⟨e3, he3⟩ : ∃ e3 : Bool, (p / 16 = q / 16 ↔ e3 = true) := ⟨decide (p / 16 = q / 16), by simp⟩
  obtain ⟨e4, he4⟩ : ∃ e4 : Bool, (m % 4096 = n % 4096 ↔ e4 = true) := ⟨decide (m % 4096 = n % 4096), by simp⟩
  have f1 : (a == b) = e1 := bq he1
  have f2 : (IntKind.u64.wrap (x * 65536) == IntKind.u64.wrap (y * 65536)) = e2 := bq (by rw [← he2, IntKind.wrap_u64, IntKind.wrap_u64]; omega)
  have f3 : (a * 281474976710656 + x % 281474976710656 == b * 281474976710656 + y % 281474976710656) = (e1 && e2) := bq (by rw [Bool.and_eq_true, ← he1, ← he2]; omega)
  have g1 : (p / 16 == q / 16) = e3 := bq he3
  have g2 : (bits .and .u16 m 4095 == bits .and .u16 n 4095) = e4 := bq (by rw [← he4, mask12 m hm0 hm1, mask12 n hn0 hn1])
  have g3 : (p / 16 * 4096 + m % 4096 == q / 16 * 4096 + n % 4096) = (e3 && e4) := bq (by rw [Bool.and_eq_true, ← he3, ← he4]; omega)
  clear he1 he2 he3 he4
  cases e1 <;> cases e2 <;> cases e3 <;> cases e4 <;> simp only [Bool.and_true, Bool.and_false] at f3 g3
  all_goals
    go_enter Try.func12, Try.ntmps12
    go_wp2_with fail
    refine (awake2 _).mono ?_
    rintro e w1 ⟨rfl, h1⟩
    go_wp2_with fail
    refine (bridge_any _ _ _ (by omega) (by omega) (by omega) (by omega)).mono ?_
    rintro e w2 ⟨rfl, h2⟩
    go_wp2_with fail
    refine (bridge_any _ _ _ (by omega) (by omega) (by omega) (by omega)).mono ?_
    rintro e w3 ⟨rfl, h3⟩
    go_wp2_with fail
    refine (port_any _ _ _ (by omega) (by omega) (by omega) (by omega)).mono ?_
    rintro e w4 ⟨rfl, h4⟩
    go_wp2_with fail
    refine (port_any _ _ _ (by omega) (by omega) (by omega) (by omega)).mono ?_
    rintro e w5 ⟨rfl, h5⟩
    go_wp2
    go_ret
    exact ⟨rfl, (((h1.trans h2).trans h3).trans h4).trans h5⟩

end Go.Proofs.Ytgiobcbdbhnneaa
