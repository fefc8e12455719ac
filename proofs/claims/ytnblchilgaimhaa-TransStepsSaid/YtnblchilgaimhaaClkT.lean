/- A second: by the program and by the document. No statement is proved here. -/
import Derived.Test.YtnblchilgaimhaaClkC
import Derived.StillTailTactics
namespace Go.Proofs.Ytnblchilgaimhaa
open Go.RowKit Go.BigFrame Go.WideShapes Go.ChangeShapes Go.Deep
set_option linter.unusedVariables false
set_option linter.unusedSimpArgs false

def dwn (n : Int) : Int := if 0 < n then n - 1 else n
/-- One clock one less. -/
def clk1 (B : Br) (k j : Nat) : Br := if 0 < B.gi k (6 + j) then B.setp k (6 + j) (.int .i64 (B.gi k (6 + j) - 1)) else B
def tickP (B : Br) (k : Nat) : Nat → Br
  | 0 => B
  | j + 1 => clk1 (tickP B k j) k j
def tickN (B : Br) : Nat → Br
  | 0 => B
  | n + 1 => tickP (tickN B n) n 9
def tickB (B : Br) : Br := tickN B B.np

theorem clk1_np (B : Br) (k j : Nat) : (clk1 B k j).np = B.np := by unfold clk1; split <;> rfl
theorem clk1_hd (B : Br) (k j : Nat) : (clk1 B k j).hd = B.hd := by unfold clk1; split <;> rfl
theorem clk1_len (B : Br) (k j : Nat) : (clk1 B k j).ps.length = B.ps.length := by unfold clk1; split <;> simp
theorem clkc (j : Nat) (hj : j < 9) : PL[6 + j]? = some (some .i64) := by
  rcases (by omega : j = 0 ∨ j = 1 ∨ j = 2 ∨ j = 3 ∨ j = 4 ∨ j = 5 ∨ j = 6 ∨ j = 7 ∨ j = 8) with rfl | rfl | rfl | rfl | rfl | rfl | rfl | rfl | rfl <;> rfl
theorem wf_dec {n : Int} (h : (Lit.int .i64 n).wf = true) (h0 : 0 < n) : (Lit.int .i64 (n - 1)).wf = true := by
  simp [Lit.wf, IntKind.min, IntKind.max, IntKind.signed, IntKind.bits] at h ⊢
  omega
theorem clk1_ok {B : Br} (ho : B.ok) {k j : Nat} (hk : k < B.np) (hj : j < 9) : (clk1 B k j).ok := by
  unfold clk1
  split
  · rename_i h
    exact ho.setI hk (6 + j) .i64 _ (clkc j hj) (wf_dec (ho.gw hk (6 + j) (clkc j hj)) h)
  · exact ho
theorem tickP_np (B : Br) (k : Nat) : ∀ j, (tickP B k j).np = B.np
  | 0 => rfl
  | j + 1 => (clk1_np _ _ _).trans (tickP_np B k j)
theorem tickP_hd (B : Br) (k : Nat) : ∀ j, (tickP B k j).hd = B.hd
  | 0 => rfl
  | j + 1 => (clk1_hd _ _ _).trans (tickP_hd B k j)
theorem tickP_len (B : Br) (k : Nat) : ∀ j, (tickP B k j).ps.length = B.ps.length
  | 0 => rfl
  | j + 1 => (clk1_len _ _ _).trans (tickP_len B k j)
theorem tickP_ok {B : Br} (ho : B.ok) {k : Nat} (hk : k < B.np) : ∀ j, j ≤ 9 → (tickP B k j).ok
  | 0, _ => ho
  | j + 1, h => clk1_ok (tickP_ok ho hk j (by omega)) (by rw [tickP_np]; exact hk) (by omega)
theorem tickN_np (B : Br) : ∀ n, (tickN B n).np = B.np
  | 0 => rfl
  | n + 1 => (tickP_np _ _ _).trans (tickN_np B n)
theorem tickN_hd (B : Br) : ∀ n, (tickN B n).hd = B.hd
  | 0 => rfl
  | n + 1 => (tickP_hd _ _ _).trans (tickN_hd B n)
theorem tickN_len (B : Br) : ∀ n, (tickN B n).ps.length = B.ps.length
  | 0 => rfl
  | n + 1 => (tickP_len _ _ _).trans (tickN_len B n)
theorem tickN_ok {B : Br} (ho : B.ok) : ∀ n, n ≤ B.np → (tickN B n).ok
  | 0, _ => ho
  | n + 1, h => tickP_ok (tickN_ok ho n (by omega)) (by rw [tickN_np]; omega) 9 (Nat.le_refl _)
theorem tickB_np (B : Br) : (tickB B).np = B.np := tickN_np B _
theorem tickB_ok {B : Br} (ho : B.ok) : (tickB B).ok := tickN_ok ho _ (Nat.le_refl _)

theorem clk1_rest (B : Br) (k j : Nat) : (clk1 B k j).no = B.no ∧ (clk1 B k j).os = B.os ∧ (clk1 B k j).nf = B.nf ∧ (clk1 B k j).fl = B.fl := by
  unfold clk1
  split <;> exact ⟨rfl, rfl, rfl, rfl⟩
theorem tickP_rest (B : Br) (k : Nat) : ∀ j, (tickP B k j).no = B.no ∧ (tickP B k j).os = B.os ∧ (tickP B k j).nf = B.nf ∧ (tickP B k j).fl = B.fl
  | 0 => ⟨rfl, rfl, rfl, rfl⟩
  | j + 1 => by
    obtain ⟨a, b, c, d⟩ := clk1_rest (tickP B k j) k j
    obtain ⟨a', b', c', d'⟩ := tickP_rest B k j
    exact ⟨a.trans a', b.trans b', c.trans c', d.trans d'⟩
/-- The cells of the port whose clocks ran. -/
theorem clk1_at (B : Br) (k j i : Nat) (h : k * 89 + 89 ≤ B.ps.length) (hj : j < 9) (hc : B.ps[k * 89 + (6 + j)]? = some (.int .i64 (B.gi k (6 + j)))) : (clk1 B k j).ps[i]? = if i = k * 89 + (6 + j) then some (.int .i64 (dwn (B.gi k (6 + j)))) else B.ps[i]? := by
  unfold clk1 dwn
  by_cases h0 : 0 < B.gi k (6 + j)
  · rw [if_pos h0, if_pos h0]
    show (B.ps.set _ _)[i]? = _
    by_cases e : i = k * 89 + (6 + j)
    · rw [if_pos e, e, List.getElem?_set_self (by omega)]
    · rw [if_neg e, List.getElem?_set_ne (by omega)]
  · rw [if_neg h0, if_neg h0]
    by_cases e : i = k * 89 + (6 + j)
    · rw [if_pos e, e, hc]
    · rw [if_neg e]
theorem tickP_at {B : Br} (ho : B.ok) {k : Nat} (hk : k < B.np) : ∀ j, j ≤ 9 → ∀ i, (tickP B k j).ps[i]? = if k * 89 + 6 ≤ i ∧ i < k * 89 + 6 + j then some (.int .i64 (dwn (B.gi k (i - k * 89)))) else B.ps[i]?
  | 0, _, i => by rw [if_neg (by omega)]; rfl
  | j + 1, hj, i => by
    have ih := tickP_at ho hk j (by omega)
    have okj := tickP_ok ho hk j (by omega)
    have hkj : k < (tickP B k j).np := by rw [tickP_np]; exact hk
    show (clk1 (tickP B k j) k j).ps[i]? = _
    rw [clk1_at _ _ _ _ (by rw [tickP_len]; exact len89 ho hk) (by omega) (okj.gi hkj (6 + j) (clkc j (by omega)))]
    have hg : (tickP B k j).gi k (6 + j) = B.gi k (6 + j) := by
      unfold Br.gi
      rw [ih, if_neg (by omega)]
    rw [hg, ih]
    by_cases e : i = k * 89 + (6 + j)
    · rw [if_pos e, if_pos (by omega), show i - k * 89 = 6 + j by omega]
    · rw [if_neg e]
      by_cases a : k * 89 + 6 ≤ i ∧ i < k * 89 + 6 + j
      · rw [if_pos a, if_pos (by omega)]
      · rw [if_neg a, if_neg (by omega)]

set_option maxRecDepth 100000 in
set_option maxHeartbeats 2000000 in
theorem tick_any (w : World) (F : Nat → Prop) (X g : Nat) (B : Br) (h : BrG w F X g B) (ho : B.ok) (hn : B.np < 1000) :
    Calls Try.prog 21 #[.pointer (some ⟨X, 0, none⟩)] w fun e w' => e = .returned (.tuple #[]) ∧ BrG w' F X g (tickB B) ∧ Mut F w w' := by
  obtain ⟨hX, hg, hne⟩ := h.lt
  obtain ⟨cap, c17, hc1, hc2⟩ := h.cell17 ho
  have H := Lib.hid h
  clear h
  go_enter Try.func21, Try.ntmps21
  go_wp2_with fail
  go_loopw [10] (fun v wr => ∃ n : Nat, n ≤ B.np ∧ v = .int .i64 n ∧ BrG wr F X g (tickN B n) ∧ Mut F w wr) (fun v _ => B.np - (intOf v).toNat)
  case atStart => exact ⟨0, by omega, rfl, H.out, Mut.refl F w⟩
  case round =>
    clear c17
    obtain ⟨n, hn2, rfl, hB, hm⟩ := hrel
    have HB := Lib.hid hB
    have HM := Lib.hid hm
    clear hB hm
    by_cases hlt : n < B.np
    · have okn := tickN_ok ho n hn2
      obtain ⟨cap2, c17, hc3, hc4⟩ := HB.out.cell17 okn
      rw [tickN_np] at c17 hc3
      obtain ⟨hX2, hg2, hne2⟩ := HB.out.lt
      have hkn : n < (tickN B n).np := by rw [tickN_np]; exact hlt
      go_wp2_with fail
      refine (all_any g (n * 89 + 6) _).mono ?_
      rintro e w2 ⟨rfl, hx2⟩
      have HB2 := Lib.hid (HB.out.ext hx2)
      have HM2 := Lib.hid (HM.out.trans (hx2.mut F))
      clear hx2 HB HM c17
      go_wp2_with fail
      go_loopw [21] (fun v wr => ∃ j : Nat, j ≤ 9 ∧ v = .int .i64 j ∧ BrG wr F X g (tickP (tickN B n) n j) ∧ Mut F w wr) (fun v _ => 9 - (intOf v).toNat)
      case atStart => exact ⟨0, by omega, rfl, HB2.out, HM2.out⟩
      case round =>
        clear HB2 HM2
        obtain ⟨j, hj, rfl, hB, hm⟩ := hrel
        have HB := Lib.hid hB
        have HM := Lib.hid hm
        clear hB hm
        by_cases hjt : j < 9
        · have okj := tickP_ok okn hkn j (by omega)
          have hkj : n < (tickP (tickN B n) n j).np := by rw [tickP_np]; exact hkn
          have hix := ptrs_ix g (n * 89 + 6) j hjt
          have pc := (HB.out.cellg (i := n * 89 + (6 + j)) (lt89 hkj (by omega))).trans (okj.gi hkj (6 + j) (clkc j hjt))
          rw [show n * 89 + (6 + j) = n * 89 + 6 + j by omega] at pc
          have hfr := HB.out.frozen
          have hwf := wf_i64 (okj.gw hkj (6 + j) (clkc j hjt))
          have HE := Lib.hid (show tickP (tickN B n) n (j + 1) = clk1 (tickP (tickN B n) n j) n j from rfl)
          have HS := Lib.hid (fun v => HB.out.setp (k := n) (j := 6 + j) hkj (by omega) v)
          by_cases hpos : 0 < (tickP (tickN B n) n j).gi n (6 + j)
          · have HP := Lib.hid hpos
            obtain ⟨z, hz⟩ : ∃ z, (tickP (tickN B n) n j).gi n (6 + j) = z := ⟨_, rfl⟩
            rw [hz] at pc hwf hpos
            have HZ := Lib.hid hz
            clear hz
            go_wp2_with fail
            go_roundw
            case rel =>
              refine ⟨j + 1, by omega, by go_num, ?_, HM.out.setCell (.inl HB.out.F2) _⟩
              rw [HE.out]
              unfold clk1
              rw [if_pos HP.out, HZ.out]
              have := HS.out (.int .i64 (z - 1))
              rw [show n * 89 + (6 + j) = n * 89 + 6 + j by omega] at this
              exact this
            case measure => simp [intOf]; omega
          · have hneg : decide (0 < (tickP (tickN B n) n j).gi n (6 + j)) = false := by simpa using hpos
            have HP := Lib.hid hpos
            obtain ⟨z, hz⟩ : ∃ z, (tickP (tickN B n) n j).gi n (6 + j) = z := ⟨_, rfl⟩
            rw [hz] at pc hwf hpos hneg
            clear hz
            go_wp2_with fail
            go_roundw
            case rel =>
              refine ⟨j + 1, by omega, by go_num, ?_, HM.out⟩
              rw [HE.out]
              unfold clk1
              rw [if_neg HP.out]
              exact HB.out
            case measure => simp [intOf]; omega
        · obtain rfl : j = 9 := by omega
          go_wp2_with fail
          go_roundw
          case rel => exact ⟨n + 1, by omega, by go_num, HB.out, HM.out⟩
          case measure => simp [intOf]; omega
    · obtain rfl : n = B.np := by omega
      go_wp2_with fail
      go_end0
      exact ⟨rfl, HB.out, HM.out⟩

end Go.Proofs.Ytnblchilgaimhaa
