/- The walk of the law TimesAges. -/
import Derived.Test.YtgiobcbdbhnneabTimesLaws
namespace Go.Proofs.Ytgiobcbdbhnneab
open Go.RowKit
set_option linter.unusedVariables false

theorem waitsV_bd (a m h : Int) (h0 : 0 ≤ h) : 0 ≤ waitsV a m h := by unfold waitsV; split <;> omega

set_option maxHeartbeats 3200000 in
theorem law_TimesAges (a : Int) (ha : 0 ≤ a ∧ a < 256) (m : Int) (hm : 0 ≤ m ∧ m < 256) (h : Int) (hh : 0 ≤ h ∧ h < 256) (b : Int) (hb : 0 ≤ b ∧ b < 256) (w : World) :
    Calls Try.prog 9 #[.int .u8 a, .int .u8 m, .int .u8 h, .int .u8 b] w fun e w' => e = .returned (.bool true) ∧ Ext w w' := by
  obtain ⟨ha0, ha1⟩ := ha
  obtain ⟨hm0, hm1⟩ := hm
  obtain ⟨hh0, hh1⟩ := hh
  obtain ⟨hb0, hb1⟩ := hb
  go_enter Try.func9, Try.ntmps9
  go_wp2_with fail
  refine (awake4 _).mono ?_
  rintro e w1 ⟨rfl, h1⟩
  have hS := Lib.hid (fun w' => @box_held w1 34 a m h 15 w')
  go_wp2_with fail
  refine (waits_any _ _ _ _ _ (by omega) (by omega) (by omega) (by omega) (by omega) (by omega)).mono ?_
  rintro e w2 ⟨rfl, h2⟩
  obtain ⟨_, k0, k1, k2, k3⟩ := hS.out _ h2
  have hw2 : Ext w w2 := (h1.alloc _).trans h2
  have hs2 : w1.heap.size < w2.heap.size := by have := h2.size; simp at this; omega
  have f2 : ∀ o, w2.frozen? ⟨w1.heap.size, o, none⟩ = false := fun o => (Below.frozen h2 (by simp)).trans (by simp)
  clear hS h2
  go_wp2
  go_loopw [12] (fun i wr => ∃ k : Nat, (k : Int) ≤ b ∧ i = .int .i64 k ∧ Ext w wr ∧ w1.heap.size < wr.heap.size ∧ wr.cell? ⟨w1.heap.size, 0, none⟩ = some (.int .i64 (a + k)) ∧ wr.cell? ⟨w1.heap.size, 1, none⟩ = some (.int .i64 m) ∧
      wr.cell? ⟨w1.heap.size, 2, none⟩ = some (.int .i64 h) ∧ wr.cell? ⟨w1.heap.size, 3, none⟩ = some (.int .i64 15) ∧ (∀ o, wr.frozen? ⟨w1.heap.size, o, none⟩ = false)) (fun i _ => (b - intOf i).toNat)
  case atStart => exact ⟨0, by omega, rfl, hw2, hs2, by simpa using k0, k1, k2, k3, f2⟩
  case round =>
    clear k0 k1 k2 k3
    obtain ⟨k, hk, rfl, hx, hsz, k0, k1, k2, k3, hf⟩ := hrel
    by_cases hlt : (k : Int) < b
    · go_wp2_with fail
      refine (older_any _ _ _ _ _ (by omega) (by omega)).mono ?_
      rintro e w3 ⟨rfl, h3⟩
      obtain ⟨cc, cf⟩ := bcell h3
      have hsz3 := h3.size
      go_wp2
      have hbb : w.heap.size ≤ w1.heap.size := h1.size
      have e3 : w1.heap.size < w3.heap.size := by omega
      have hsz' : ∀ (W : World) (p : Addr) (v : Value), (W.setCell p v).heap.size = W.heap.size := fun W p v => by simp [World.setCell]
      refine ⟨⟨k + 1, by omega, by go_num, ((((hx.trans h3).setCell hbb _).setCell hbb _).setCell hbb _).setCell hbb _, by rw [hsz', hsz', hsz', hsz']; exact e3, ?_, ?_, ?_, ?_, fun o => ?_⟩, by simp [intOf]; omega⟩
      · go_simp
        omega
      · go_simp
      · go_simp
      · go_simp
      · go_simp
    · have hkb : (k : Int) = b := by omega
      obtain ⟨e1, f1⟩ : ∃ e1 : Bool, (waitsV (a + b) m h == waitsV a m h) = e1 := ⟨_, rfl⟩
      obtain ⟨e2, f2⟩ : ∃ e2 : Bool, (waitsV (a + b) m h == 0) = e2 := ⟨_, rfl⟩
      obtain ⟨e3, f3⟩ : ∃ e3 : Bool, decide (0 < waitsV (a + b) m h) = e3 := ⟨_, rfl⟩
      obtain ⟨e4, f4⟩ : ∃ e4 : Bool, decide (0 < h) = e4 := ⟨_, rfl⟩
      obtain ⟨e5, f5⟩ : ∃ e5 : Bool, decide (a + b < m) = e5 := ⟨_, rfl⟩
      have g1 : (e1 || e2) = true := by
        rw [← f1, ← f2, Bool.or_eq_true, beq_iff_eq, beq_iff_eq]
        unfold waitsV
        repeat' split
        all_goals omega
      have g2 : e3 = (e4 && e5) := by
        rw [← f3, ← f4, ← f5, Bool.eq_iff_iff, Bool.and_eq_true, decide_eq_true_eq, decide_eq_true_eq, decide_eq_true_eq]
        unfold waitsV
        split
        all_goals omega
      subst g2
      have hwk := Lib.hid hkb
      have hxx := Lib.hid hx
      have h12 := Lib.hid h1
      clear hkb hx h1 hw2
      cases e1 <;> cases e2 <;> first | (exfalso; exact absurd g1 (by decide)) | (clear g1; cases e4 <;> cases e5)
      all_goals
        simp only [Bool.and_true, Bool.and_false] at f3
        go_wp2_with fail
        refine (asi (waits_any _ _ _ _ _ (by omega) (by omega) (by omega) (by omega) (by omega) (by omega)) (show _ = waitsV (a + b) m h by rw [hwk.out])).mono ?_
        rintro e w3 ⟨rfl, h3⟩
        obtain ⟨cc, cf⟩ := bcell h3
        have hak : (a + (k : Int) == a + b) = true := by rw [beq_iff_eq, hwk.out]
        go_wp2
        go_ret
        exact ⟨rfl, hxx.out.trans h3⟩

end Go.Proofs.Ytgiobcbdbhnneab
