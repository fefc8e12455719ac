/- Which role a port is to have: the selection as a function on a bridge. No statement is proved here. -/
import Derived.Test.YthfoacgdkoijeaaSelF
import Derived.Test.YthfoacgdkoijeaaSelI
namespace Go.Proofs.Ythfoacgdkoijeaa
open Go.RowKit Go.BigFrame Go.WideShapes Go.ChangeShapes Go.Deep
set_option linter.unusedVariables false
set_option linter.unusedSimpArgs false

theorem sy_nil : Typed [] [] := ⟨rfl, fun j k h => by cases h⟩
theorem sy_cons {l : List (Option IntKind)} {L : List Value} {K : IntKind} {z : Int} (h : Typed l L) (hz : (Lit.int K z).wf = true) : Typed (some K :: l) (.int K z :: L) := ⟨by simp [h.1], fun j k hj => by
  cases j with
  | zero =>
    obtain rfl : some K = k := by simpa using hj
    exact ⟨.int K z, rfl, z, rfl, hz⟩
  | succ n => exact h.2 n k hj⟩
theorem sy_set {L vs : List Value} (h : Typed PL L) (j m : Nat) (hj : (decide (j + m ≤ 89)) = true) (hz : vs.length = m) (hv : Typed ((PL.drop j).take m) vs) : Typed PL (setL L j vs) :=
  Typed.setL h (j := j) (by rw [hz]; exact (show j + m ≤ 89 by simpa using hj)) (by rw [hz]; exact hv)
theorem s_port_setPort {B : Br} {k : Nat} {l : List Value} (hl : l.length = 89) (hk : k * 89 + 89 ≤ B.ps.length) : port (B.setPort k l).ps k = l := by
  apply List.ext_getElem?
  intro i
  by_cases hi : i < 89
  · rw [port_at hi, setPort_at hl hk, if_pos (by omega)]
    congr 1; omega
  · rw [List.getElem?_eq_none (by simp [port]; omega), List.getElem?_eq_none (by omega)]
theorem s_len_setPort {B : Br} {k : Nat} {l : List Value} (hl : l.length = 89) (hk : k * 89 + 89 ≤ B.ps.length) : (B.setPort k l).ps.length = B.ps.length := by
  simp [Br.setPort, hl]; omega
theorem s_setPort_ok {B : Br} (ho : B.ok) {k : Nat} (hk : k < B.np) {l : List Value} (hl : Typed PL l) : (B.setPort k l).ok := by
  have h89 := len89 ho hk
  obtain ⟨a, b, c, d⟩ := ho
  refine ⟨a, ?_, c, d⟩
  refine (rowTyped_iff (l := PL)).2 ⟨?_, fun i hi j cc hj => ?_⟩
  · rw [s_len_setPort (tpL hl) h89]
    exact b.1
  · have hj89 : j < 89 := (List.getElem?_eq_some_iff.1 hj).1
    have hb := ((rowTyped_iff (l := PL)).1 b).2 i hi j cc hj
    rw [show PL.length = 89 from rfl] at hb ⊢
    rw [setPort_at (tpL hl) h89]
    by_cases e : i = k
    · subst e
      rw [if_pos (by omega)]
      obtain ⟨v, hv, hc⟩ := hl.2 j cc hj
      exact ⟨v, by rw [← hv]; congr 1; omega, hc⟩
    · rw [if_neg (by omega)]
      exact hb
theorem chL_typed {k : Nat} {rp id : Int} {L : List Value} (hT : Typed PL L) : Typed PL (chL k rp id L) := by
  have d : ∀ (a b : Bool) (M : List Value), Typed PL M → Typed PL (dsL a b M) := fun a b M h => by
    cases a <;> cases b
    · exact tset_b (tset_i h 88 .i64 4 rfl (by decide)) 50 _ rfl
    · exact tset_b (tset_i h 88 .i64 4 rfl (by decide)) 50 _ rfl
    · exact tset_b (tset_i h 88 .i64 4 rfl (by decide)) 50 _ rfl
    · exact tset_i h 88 .i64 4 rfl (by decide)
  have hr : (Lit.int .i64 (roleF k rp (pI L 70) id)).wf = true := by
    unfold roleF
    split
    · decide
    · split <;> decide
  unfold chL
  split
  · exact tset_i hT 88 .i64 0 rfl (by decide)
  · split
    · split
      · exact tset_b (tset_i hT 88 .i64 _ rfl hr) 50 _ rfl
      · exact d _ _ _ (tset_b hT 50 _ rfl)
    · split
      · exact d _ _ _ (tset_b hT 50 _ rfl)
      · split
        · exact d _ _ _ hT
        · exact hT
/-- What a port tells from now on. -/
def tellL (B : Br) (L : List Value) : List Value := (setL (setL L 73 [.int .u64 (B.hi 7), .int .u32 (B.hi 8), .int .u64 (B.hi 0), .int .u16 (pI L 0), .int .u16 0]) 82 [.int .i64 (B.hi 13), .int .i64 (B.hi 14), .int .i64 (B.hi 15), .int .i64 (B.hi 16)]).set 84 (.int .i64 (B.hi 4))
theorem tellL_typed {B : Br} (ho : B.ok) {L : List Value} (hT : Typed PL L) : Typed PL (tellL B L) :=
  tset_i (sy_set (sy_set hT 73 5 (by decide) rfl (sy_cons (sy_cons (sy_cons (sy_cons (sy_cons sy_nil (by decide)) (tpW hT 0 rfl)) (ho.hw 0 rfl)) (ho.hw 8 rfl)) (ho.hw 7 rfl))) 82 4 (by decide) rfl (sy_cons (sy_cons (sy_cons (sy_cons sy_nil (ho.hw 16 rfl)) (ho.hw 15 rfl)) (ho.hw 14 rfl)) (ho.hw 13 rfl))) 84 .i64 _ rfl (ho.hw 4 rfl)
def stL (B : Br) (k : Nat) (L : List Value) : List Value := (chL k (B.hi 12) (B.hi 0) (tellL B L)).set 44 (.bool true)
theorem stL_typed {B : Br} (ho : B.ok) {k : Nat} {L : List Value} (hT : Typed PL L) : Typed PL (stL B k L) := tset_b (chL_typed (tellL_typed ho hT)) 44 _ rfl
def psel (B : Br) : Nat → Br | 0 => B | n + 1 => (psel B n).setPort n (stL B n (port (psel B n).ps n))
theorem psel_np (B : Br) : ∀ n, (psel B n).np = B.np | 0 => rfl | n + 1 => psel_np B n
theorem psel_hd (B : Br) : ∀ n, (psel B n).hd = B.hd | 0 => rfl | n + 1 => psel_hd B n
theorem psel_ok {B : Br} (ho : B.ok) : ∀ n, n ≤ B.np → (psel B n).ok
  | 0, _ => ho
  | n + 1, h => s_setPort_ok (psel_ok ho n (by omega)) (by rw [psel_np]; omega) (stL_typed ho (br_typed (psel_ok ho n (by omega)) (by rw [psel_np]; omega)))
theorem psel_hi (B : Br) (n j : Nat) : (psel B n).hi j = B.hi j := by unfold Br.hi; rw [psel_hd]
/-! ### The head -/
theorem rootF_rg (B : Br) : ∀ n, (rootF B n).at_ = -1 ∨ ∃ k : Nat, k < n ∧ (rootF B n).at_ = k
  | 0 => .inl rfl
  | n + 1 => by
    unfold rootF
    split
    · exact .inr ⟨n, by omega, rfl⟩
    · rcases rootF_rg B n with h | ⟨k, hk, h⟩
      · exact .inl h
      · exact .inr ⟨k, by omega, h⟩
theorem sethr_ok {B : Br} (ho : B.ok) {j m : Nat} {vs : List Value} (hj : (decide (j + m ≤ 17)) = true) (hz : vs.length = m) (hv : Typed ((HL.drop j).take m) vs) : (B.sethr j vs).ok := by
  obtain ⟨a, b, c, d⟩ := ho
  exact ⟨Typed.setL a (j := j) (by rw [hz]; exact (show j + m ≤ 17 by simpa using hj)) (by rw [hz]; exact hv), b, c, d⟩
theorem sethr_np (B : Br) (j : Nat) (vs : List Value) : (B.sethr j vs).np = B.np := rfl
theorem hi_sethr_out {B : Br} (hl : B.hd.length = 17) {j i : Nat} {vs : List Value} (hj : j + vs.length ≤ 17) (h : i < j ∨ j + vs.length ≤ i) : (B.sethr j vs).hi i = B.hi i := by
  unfold Br.hi Br.sethr
  show (match (setL B.hd j vs)[i]? with | some (.int _ z) => z | _ => 0) = _
  rw [setL_at (by omega), if_neg (by omega)]
  rfl
theorem hi_sethr_in {B : Br} (hl : B.hd.length = 17) {j i : Nat} {vs : List Value} (hj : j + vs.length ≤ 17) (h1 : j ≤ i) (h2 : i < j + vs.length) : (B.sethr j vs).hi i = pI vs (i - j) := by
  unfold Br.hi Br.sethr pI
  show (match (setL B.hd j vs)[i]? with | some (.int _ z) => z | _ => 0) = _
  rw [setL_at (by omega), if_pos ⟨h1, h2⟩]
  rfl
def rtL (B : Br) (a : Int) : List Value := if a < 0 then [.int .i64 (B.hi 2), .int .i64 (B.hi 3), .int .i64 (B.hi 4), .int .i64 (B.hi 5)] else [.int .i64 (B.gi a.toNat 78 + 1), .int .i64 (B.gi a.toNat 79), .int .i64 (B.gi a.toNat 80), .int .i64 (B.gi a.toNat 81)]
/-- The head behind the choice of the root. -/
def selV (C : Br) : R5 := rootF C C.np
def selB1 (C : Br) : Br := (C.sethr 7 (selV C).cells.toList).sethr 12 [.int .i64 (selV C).at_]
def selB2 (C : Br) : Br := (selB1 C).sethr 13 (rtL (selB1 C) (selV C).at_)
def R5.wf (v : R5) : Prop := (Lit.int .u64 v.r).wf = true ∧ (Lit.int .u32 v.c).wf = true ∧ (Lit.int .u64 v.b).wf = true ∧ (Lit.int .u16 v.p).wf = true ∧ (Lit.int .u16 v.x).wf = true
theorem thr_wf {c q : Int} (hc : 0 ≤ c ∧ c < 4294967296) (hq : 0 ≤ q ∧ q < 4294967296) : (Lit.int .u32 (thr c q)).wf = true := by
  have : 0 ≤ thr c q ∧ thr c q ≤ 4294967295 := by
    unfold thr
    split <;> omega
  simp [Lit.wf, IntKind.min, IntKind.max, IntKind.signed, IntKind.bits]
  omega
theorem rootF_wf {B : Br} (ho : B.ok) : ∀ n, n ≤ B.np → (rootF B n).wf
  | 0, _ => ⟨ho.hw 0 rfl, (show (Lit.int .u32 0).wf = true by decide), ho.hw 0 rfl, (show (Lit.int .u16 0).wf = true by decide), (show (Lit.int .u16 0).wf = true by decide)⟩
  | n + 1, h => by
    unfold rootF
    split
    · exact ⟨ho.gw (by omega) 68 rfl, thr_wf (wf_u32 (ho.gw (by omega) 69 rfl)) (wf_u32 (ho.gw (by omega) 1 rfl)), ho.gw (by omega) 70 rfl, ho.gw (by omega) 71 rfl, ho.gw (by omega) 0 rfl⟩
    · exact rootF_wf ho n (by omega)
theorem selB1_ok {C : Br} (ho : C.ok) (hn : C.np < 1000) : (selB1 C).ok := by
  obtain ⟨a, b, c, d, e⟩ := rootF_wf ho C.np (Nat.le_refl _)
  have hw : (Lit.int .i64 (selV C).at_).wf = true := by
    rcases rootF_rg C C.np with h | ⟨k, hk, h⟩
    · rw [show (selV C).at_ = -1 from h]; decide
    · rw [show (selV C).at_ = k from h]
      simp [Lit.wf, IntKind.min, IntKind.max, IntKind.signed, IntKind.bits]
      omega
  exact sethr_ok (sethr_ok ho (j := 7) (m := 5) (by decide) rfl (sy_cons (sy_cons (sy_cons (sy_cons (sy_cons sy_nil e) d) c) b) a)) (j := 12) (m := 1) (by decide) rfl (sy_cons sy_nil hw)
theorem selB1_12 {C : Br} (ho : C.ok) : (selB1 C).hi 12 = (selV C).at_ := by
  have hl : (C.sethr 7 (selV C).cells.toList).hd.length = 17 := by
    show (setL C.hd 7 _).length = 17
    have := ho.hd.1
    rw [setL_len (by rw [show (selV C).cells.toList.length = 5 from rfl, this]; decide), this]
    rfl
  unfold selB1
  rw [hi_sethr_in hl (by exact (by decide : 12 + 1 ≤ 17)) (by decide) (by exact (by decide : 12 < 12 + 1))]
  rfl
theorem rtL_typed {B : Br} (ho : B.ok) {a : Int} (ha : a = -1 ∨ ∃ k : Nat, k < B.np ∧ a = k) (hR : ∀ k, k < B.np → 0 ≤ B.gi k 78 ∧ B.gi k 78 ≤ 65535) : Typed ((HL.drop 13).take 4) (rtL B a) ∧ (rtL B a).length = 4 := by
  unfold rtL
  rcases ha with rfl | ⟨k, hk, rfl⟩
  · rw [if_pos (by decide)]
    exact ⟨sy_cons (sy_cons (sy_cons (sy_cons sy_nil (ho.hw 5 rfl)) (ho.hw 4 rfl)) (ho.hw 3 rfl)) (ho.hw 2 rfl), rfl⟩
  · rw [if_neg (by omega), Int.toNat_natCast]
    have h1 := hR k hk
    have hw : (Lit.int .i64 (B.gi k 78 + 1)).wf = true := by
      simp [Lit.wf, IntKind.min, IntKind.max, IntKind.signed, IntKind.bits]
      omega
    exact ⟨sy_cons (sy_cons (sy_cons (sy_cons sy_nil (ho.gw hk 81 rfl)) (ho.gw hk 80 rfl)) (ho.gw hk 79 rfl)) hw, rfl⟩
theorem rtimes_any (w : World) (F : Nat → Prop) (X g : Nat) (B : Br) (h : BrG w F X g B) (ho : B.ok) (hn : B.np < 1000) (ha : B.hi 12 = -1 ∨ ∃ k : Nat, k < B.np ∧ B.hi 12 = k) (hR : ∀ k, k < B.np → 0 ≤ B.gi k 78 ∧ B.gi k 78 ≤ 65535) :
    Calls Try.prog 54 #[.pointer (some ⟨X, 0, none⟩)] w fun e w' => e = .returned (.agg (rtL B (B.hi 12)).toArray) ∧ Ext w w' := by
  unfold rtL
  rcases ha with e | ⟨k, hk, e⟩
  · rw [if_pos (by omega)]
    exact rtimes_own w F X g B h ho (by omega)
  · rw [e, if_neg (by omega), Int.toNat_natCast]
    exact rtimes_at w F X g B h ho k e hk hn (hR k hk)
theorem noR_gi {B : Br} (ho : B.ok) {k j : Nat} (hj : j < 89) (hne : j ≠ 43) : (noR B B.np).gi k j = B.gi k j := upd_gi_ne B (by decide) _ (by rw [ho.len]; exact Nat.le_refl _) hj hne
def selF (B : Br) : Bool × Br := if anyR B B.np = true then (true, psel (selB2 (noR B B.np)) B.np) else (false, noR B B.np)

end Go.Proofs.Ythfoacgdkoijeaa
