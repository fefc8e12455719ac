/- The machine of changes: all others are told. No statement is proved here. -/
import Derived.Test.YtpieamfpgfabgaaUpd
namespace Go.Proofs.Ytpieamfpgfabgaa
open Go.RowKit Go.BigFrame Go.WideShapes Go.ChangeShapes Go.Deep
set_option linter.unusedVariables false
set_option linter.unusedSimpArgs false

/-- All of the first n ports but k are told. -/
def tcp (B : Br) (k : Nat) : Nat → Br
  | 0 => B
  | n + 1 => if n = k then tcp B k n else (tcp B k n).setp n 49 (.bool true)
theorem tcp_np (B : Br) (k : Nat) : ∀ n, (tcp B k n).np = B.np
  | 0 => rfl
  | n + 1 => by
    unfold tcp
    split
    · exact tcp_np B k n
    · exact tcp_np B k n
theorem tcp_hd (B : Br) (k : Nat) : ∀ n, (tcp B k n).hd = B.hd
  | 0 => rfl
  | n + 1 => by
    unfold tcp
    split
    · exact tcp_hd B k n
    · exact tcp_hd B k n
theorem tcp_rest (B : Br) (k : Nat) : ∀ n, (tcp B k n).no = B.no ∧ (tcp B k n).os = B.os ∧ (tcp B k n).nf = B.nf ∧ (tcp B k n).fl = B.fl
  | 0 => ⟨rfl, rfl, rfl, rfl⟩
  | n + 1 => by
    unfold tcp
    split
    · exact tcp_rest B k n
    · exact tcp_rest B k n
theorem tcp_len (B : Br) (k : Nat) : ∀ n, (tcp B k n).ps.length = B.ps.length
  | 0 => rfl
  | n + 1 => by
    unfold tcp
    split
    · exact tcp_len B k n
    · rw [len_setp]
      exact tcp_len B k n
theorem tcp_ok {B : Br} (ho : B.ok) (k : Nat) : ∀ n, n ≤ B.np → (tcp B k n).ok
  | 0, _ => ho
  | n + 1, h => by
    unfold tcp
    split
    · exact tcp_ok ho k n (by omega)
    · exact (tcp_ok ho k n (by omega)).setB (by rw [tcp_np]; omega) 49 true rfl
theorem tcp_cell (B : Br) (k : Nat) : ∀ n, n * 89 ≤ B.ps.length → ∀ i j, j < 89 → (tcp B k n).ps[i * 89 + j]? = if j = 49 ∧ i < n ∧ i ≠ k then some (.bool true) else B.ps[i * 89 + j]?
  | 0, _, i, j, hj => by rw [if_neg (by omega)]; rfl
  | n + 1, h, i, j, hj => by
    have ih := tcp_cell B k n (by omega) i j hj
    unfold tcp
    by_cases e : n = k
    · rw [if_pos e, ih]
      by_cases a : j = 49 ∧ i < n ∧ i ≠ k
      · rw [if_pos a, if_pos (by omega)]
      · rw [if_neg a, if_neg (by omega)]
    · rw [if_neg e]
      by_cases a : i = n ∧ j = 49
      · obtain ⟨rfl, rfl⟩ := a
        rw [cell_setp_same _ _ _ _ (by rw [tcp_len]; omega), if_pos (by omega)]
      · have : ((tcp B k n).setp n 49 (.bool true)).ps[i * 89 + j]? = (tcp B k n).ps[i * 89 + j]? := by
          show ((tcp B k n).ps.set _ _)[_]? = _
          rw [List.getElem?_set_ne (by omega)]
        rw [this, ih]
        by_cases b : j = 49 ∧ i < n ∧ i ≠ k
        · rw [if_pos b, if_pos (by omega)]
        · rw [if_neg b, if_neg (by omega)]
theorem tcp_gi (B : Br) (k : Nat) {n : Nat} (h : n * 89 ≤ B.ps.length) {i j : Nat} (hj : j < 89) (hne : j ≠ 49) : (tcp B k n).gi i j = B.gi i j := by
  unfold Br.gi
  rw [tcp_cell B k n h i j hj, if_neg (by omega)]
theorem tcp_gb (B : Br) (k : Nat) {n : Nat} (h : n * 89 ≤ B.ps.length) {i j : Nat} (hj : j < 89) (hne : j ≠ 49) : (tcp B k n).gb i j = B.gb i j := by
  unfold Br.gb
  rw [tcp_cell B k n h i j hj, if_neg (by omega)]
theorem tcp_49 (B : Br) (k : Nat) {n : Nat} (h : n * 89 ≤ B.ps.length) {i : Nat} (hi : i < n) : (tcp B k n).gb i 49 = if i = k then B.gb i 49 else true := by
  unfold Br.gb
  rw [tcp_cell B k n h i 49 (by decide)]
  by_cases e : i = k
  · rw [if_neg (by omega), if_pos e]
  · rw [if_pos ⟨rfl, hi, e⟩, if_neg e]

set_option maxRecDepth 100000 in
set_option maxHeartbeats 1000000 in
theorem top_tell (w : World) (F : Nat → Prop) (X g k : Nat) (B : Br) (h : BrG w F X g B) (ho : B.ok) (hn : B.np < 1000) (hk : k < 1000) (b1 b2 : Nat) (h1 : w.cell? ⟨b1, 0, none⟩ = some (.pointer (some ⟨X, 0, none⟩))) (h2 : w.cell? ⟨b2, 0, none⟩ = some (.int .i64 k)) (f1 : ¬ F b1) (f2 : ¬ F b2) :
    Calls Try.prog 35 #[.pointer (some ⟨b1, 0, none⟩), .pointer (some ⟨b2, 0, none⟩)] w fun e w' => e = .returned (.tuple #[]) ∧ BrG w' F X g (tcp B k B.np) ∧ Mut F w w' := by
  obtain ⟨hX, hg, hne⟩ := h.lt
  obtain ⟨cap, c17, hc1, hc2⟩ := h.cell17 ho
  have H := Lib.hid h
  clear h
  have C1 := Lib.hid h1
  have C2 := Lib.hid h2
  have F1 := Lib.hid f1
  have F2 := Lib.hid f2
  have L1 := Lib.hid (World.block_lt_of_cell? w _ h1)
  have L2 := Lib.hid (World.block_lt_of_cell? w _ h2)
  clear f1 f2
  go_enter Try.func35, Try.ntmps35
  go_wp2_with fail
  go_loopw [8] (fun v wr => ∃ n : Nat, n ≤ B.np ∧ v = .int .i64 n ∧ BrG wr F X g (tcp B k n) ∧ Mut F w wr) (fun v _ => B.np - (intOf v).toNat)
  case atStart => exact ⟨0, by omega, rfl, H.out, Mut.refl F w⟩
  case round =>
    clear c17 h1 h2
    obtain ⟨n, hn2, rfl, hB, hm⟩ := hrel
    have HB := Lib.hid hB
    have HM := Lib.hid hm
    clear hB hm
    have okn := tcp_ok ho k n hn2
    obtain ⟨cap2, c17, hc3, hc4⟩ := HB.out.cell17 okn
    rw [tcp_np] at c17 hc3
    have d1 := (HM.out.cell (p := ⟨b1, 0, none⟩) L1.out F1.out).trans C1.out
    have d2 := (HM.out.cell (p := ⟨b2, 0, none⟩) L2.out F2.out).trans C2.out
    by_cases hlt : n < B.np
    · have hkn : n < (tcp B k n).np := by rw [tcp_np]; exact hlt
      have p49 := (HB.out.cellg (i := n * 89 + 49) (lt89 hkn (by decide))).trans (okn.gb hkn 49 rfl)
      have hfr := HB.out.frozen
      have HE := Lib.hid (show tcp B k (n + 1) = if n = k then tcp B k n else (tcp B k n).setp n 49 (.bool true) from rfl)
      by_cases hnk : n = k
      · have hb : ((n : Int) != (k : Int)) = false := by rw [hnk]; simp
        have HK := Lib.hid hnk
        clear hnk
        go_wp2_with fail
        go_roundw
        case rel =>
          refine ⟨n + 1, by omega, by go_num, ?_, HM.out⟩
          rw [HE.out, if_pos HK.out]
          exact HB.out
        case measure => simp [intOf]; omega
      · have hb : ((n : Int) != (k : Int)) = true := by
          have : (n : Int) ≠ (k : Int) := by omega
          simpa using this
        have HK := Lib.hid hnk
        clear hnk
        go_wp2_with fail
        go_roundw
        case rel =>
          refine ⟨n + 1, by omega, by go_num, ?_, HM.out.setCell (.inl HB.out.F2) _⟩
          rw [HE.out, if_neg HK.out]
          exact HB.out.setp (k := n) (j := 49) hkn (by decide) _
        case measure => simp [intOf]; omega
    · obtain rfl : n = B.np := by omega
      go_wp2_with fail
      go_end0
      exact ⟨rfl, HB.out, HM.out⟩

set_option maxRecDepth 100000 in
set_option maxHeartbeats 1000000 in
theorem top_others (w : World) (F : Nat → Prop) (X g k : Nat) (B : Br) (h : BrG w F X g B) (ho : B.ok) (hn : B.np < 1000) (hk : k < 1000) :
    Calls Try.prog 30 #[.pointer (some ⟨X, 0, none⟩), .int .i64 k] w fun e w' => e = .returned (.tuple #[]) ∧ BrG w' F X g (tcp B k B.np) ∧ Mut F w w' := by
  obtain ⟨hX, hg, hne⟩ := h.lt
  obtain ⟨cap, c17, hc1, hc2⟩ := h.cell17 ho
  have H := Lib.hid h
  clear h
  go_enter Try.func30, Try.ntmps30
  go_wp2_with fail
  go_loopw [4] (fun v wr => ∃ n : Nat, n ≤ B.np ∧ v = .int .i64 n ∧ BrG wr F X g (tcp B k n) ∧ Mut F w wr) (fun v _ => B.np - (intOf v).toNat)
  case atStart => exact ⟨0, by omega, rfl, H.out, Mut.refl F w⟩
  case round =>
    clear c17
    obtain ⟨n, hn2, rfl, hB, hm⟩ := hrel
    have HB := Lib.hid hB
    have HM := Lib.hid hm
    clear hB hm
    have okn := tcp_ok ho k n hn2
    obtain ⟨cap2, c17, hc3, hc4⟩ := HB.out.cell17 okn
    rw [tcp_np] at c17 hc3
    by_cases hlt : n < B.np
    · have hkn : n < (tcp B k n).np := by rw [tcp_np]; exact hlt
      have p49 := (HB.out.cellg (i := n * 89 + 49) (lt89 hkn (by decide))).trans (okn.gb hkn 49 rfl)
      have hfr := HB.out.frozen
      have HE := Lib.hid (show tcp B k (n + 1) = if n = k then tcp B k n else (tcp B k n).setp n 49 (.bool true) from rfl)
      by_cases hnk : n = k
      · have hb : ((n : Int) != (k : Int)) = false := by rw [hnk]; simp
        have HK := Lib.hid hnk
        clear hnk
        go_wp2_with fail
        go_roundw
        case rel =>
          refine ⟨n + 1, by omega, by go_num, ?_, HM.out⟩
          rw [HE.out, if_pos HK.out]
          exact HB.out
        case measure => simp [intOf]; omega
      · have hb : ((n : Int) != (k : Int)) = true := by
          have : (n : Int) ≠ (k : Int) := by omega
          simpa using this
        have HK := Lib.hid hnk
        clear hnk
        go_wp2_with fail
        go_roundw
        case rel =>
          refine ⟨n + 1, by omega, by go_num, ?_, HM.out.setCell (.inl HB.out.F2) _⟩
          rw [HE.out, if_neg HK.out]
          exact HB.out.setp (k := n) (j := 49) hkn (by decide) _
        case measure => simp [intOf]; omega
    · obtain rfl : n = B.np := by omega
      go_wp2_with fail
      go_end0
      exact ⟨rfl, HB.out, HM.out⟩

end Go.Proofs.Ytpieamfpgfabgaa
