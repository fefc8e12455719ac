/- Which role a port is to have: who asks; the times of the root; the best that is offered. No statement is proved here. -/
import Derived.Test.YthfoacgdkoijeaaSelA
namespace Go.Proofs.Ythfoacgdkoijeaa
open Go.RowKit Go.BigFrame Go.WideShapes Go.ChangeShapes Go.Deep
set_option linter.unusedVariables false
set_option linter.unusedSimpArgs false

/-- One of the first n ports asks. -/
def anyR (B : Br) : Nat → Bool | 0 => false | n + 1 => anyR B n || B.gb n 43
def noR (B : Br) (n : Nat) : Br := B.upd 43 (fun _ => .bool false) n
theorem noR_ok {B : Br} (ho : B.ok) {n : Nat} (h : n ≤ B.np) : (noR B n).ok := upd_ok ho (by decide) (fun i c hc => by
  obtain rfl : c = none := by
    have : PL[43]? = some none := rfl
    rw [this] at hc
    cases hc
    rfl
  exact ⟨false, rfl⟩) n h
theorem noR_43 {B : Br} (ho : B.ok) {n : Nat} (h : n < B.np) : (noR B n).ps[n * 89 + 43]? = some (.bool (B.gb n 43)) := by
  unfold noR
  rw [upd_cell B (by decide) _ (by rw [ho.len]; exact Nat.mul_le_mul_right _ (by omega)) (by decide), if_neg (by omega)]
  exact ho.gb h 43 rfl
set_option maxRecDepth 100000 in
set_option maxHeartbeats 1000000 in
theorem asked_any (w : World) (F : Nat → Prop) (X g : Nat) (B : Br) (h : BrG w F X g B) (ho : B.ok) (hn : B.np < 1000) :
    Calls Try.prog 53 #[.pointer (some ⟨X, 0, none⟩)] w fun e w' => e = .returned (.bool (anyR B B.np)) ∧ BrG w' F X g (noR B B.np) ∧ Mut F w w' := by
  obtain ⟨hX, hg, hne⟩ := h.lt
  obtain ⟨cap, c17, hc1, hc2⟩ := h.cell17 ho
  have H := Lib.hid h
  clear h
  go_enter Try.func53, Try.ntmps53
  go_wp2_with fail
  go_loopw [11, 3] (fun v a wr => ∃ n : Nat, n ≤ B.np ∧ v = .int .i64 n ∧ a = .bool (anyR B n) ∧ BrG wr F X g (noR B n) ∧ Mut F w wr) (fun v _ _ => B.np - (intOf v).toNat)
  case atStart => exact ⟨0, by omega, rfl, rfl, H.out, Mut.refl F w⟩
  case round =>
    clear c17
    obtain ⟨n, hn2, rfl, rfl, hB, hm⟩ := hrel
    have HB := Lib.hid hB
    have HM := Lib.hid hm
    clear hB hm
    have okn := noR_ok ho hn2
    have hnp : (noR B n).np = B.np := upd_np B 43 _ n
    obtain ⟨cap2, c17, hc3, hc4⟩ := HB.out.cell17 okn
    rw [hnp] at c17 hc3
    by_cases hlt : n < B.np
    · have hkn : n < (noR B n).np := by rw [hnp]; exact hlt
      have p43 := (HB.out.cellg (i := n * 89 + 43) (lt89 hkn (by decide))).trans (noR_43 ho hlt)
      have hfr := HB.out.frozen
      have hA : anyR B (n + 1) = (anyR B n || B.gb n 43) := rfl
      obtain ⟨x, hx⟩ : ∃ x, anyR B n = x := ⟨_, rfl⟩
      rw [hx] at hA ⊢
      have HA := Lib.hid hA
      clear hA hx
      cases x
      · go_wp2_with fail
        go_roundw
        case rel => exact ⟨n + 1, by omega, by go_num, by rw [HA.out]; rfl, HB.out.setp (k := n) (j := 43) hkn (by decide) _, HM.out.setCell (.inl HB.out.F2) _⟩
        case measure => simp [intOf]; omega
      · go_wp2_with fail
        go_roundw
        case rel => exact ⟨n + 1, by omega, by go_num, by rw [HA.out]; rfl, HB.out.setp (k := n) (j := 43) hkn (by decide) _, HM.out.setCell (.inl HB.out.F2) _⟩
        case measure => simp [intOf]; omega
    · obtain rfl : n = B.np := by omega
      go_wp2_with fail
      go_ret
      exact ⟨rfl, HB.out, HM.out⟩

/-! ### The best -/
structure R5 where
  r : Int
  c : Int
  b : Int
  p : Int
  x : Int
  at_ : Int
def offers (B : Br) (i : Nat) : Bool := (B.gi i 86 == 3) && !sameA (B.gi i 70) (B.hi 0)
def R5.lt (v : R5) (r c b p x : Int) : Bool := decide (c5 r c b p x v.r v.c v.b v.p v.x < 0)
def rootF (B : Br) : Nat → R5
  | 0 => ⟨B.hi 0, 0, B.hi 0, 0, 0, -1⟩
  | n + 1 => if (offers B n && (rootF B n).lt (B.gi n 68) (thr (B.gi n 69) (B.gi n 1)) (B.gi n 70) (B.gi n 71) (B.gi n 0)) = true then ⟨B.gi n 68, thr (B.gi n 69) (B.gi n 1), B.gi n 70, B.gi n 71, B.gi n 0, n⟩ else rootF B n
def R5.cells (v : R5) : Array Value := #[.int .u64 v.r, .int .u32 v.c, .int .u64 v.b, .int .u16 v.p, .int .u16 v.x]

end Go.Proofs.Ythfoacgdkoijeaa
