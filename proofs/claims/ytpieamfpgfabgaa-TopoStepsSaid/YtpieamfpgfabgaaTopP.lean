/- The machine of changes by the document: what its rows do. No statement is proved here. -/
import Derived.Test.YtpieamfpgfabgaaTopK
namespace Go.Proofs.Ytpieamfpgfabgaa
open Go.RowKit Go.BigFrame Go.WideShapes Go.ChangeShapes Go.Deep
set_option linter.unusedVariables false
set_option linter.unusedSimpArgs false

theorem setp_comm (B : Br) (k : Nat) {i j : Nat} (u v : Value) (h : i ≠ j) : (B.setp k j v).setp k i u = (B.setp k i u).setp k j v := by
  unfold Br.setp
  dsimp only
  rw [List.set_comm _ _ (by omega)]
theorem setp_over (B : Br) (k j : Nat) (u v : Value) : (B.setp k j v).setp k j u = B.setp k j u := by
  unfold Br.setp
  dsimp only
  rw [List.set_set]
theorem setp_self (B : Br) (k j : Nat) (v : Value) (h : B.ps[k * 89 + j]? = some v) : B.setp k j v = B := by
  have : B.ps.set (k * 89 + j) v = B.ps := by
    apply List.ext_getElem?
    intro i
    rw [List.getElem?_set]
    by_cases e : k * 89 + j = i
    · subst e
      rw [if_pos rfl, h]
      have := (List.getElem?_eq_some_iff.1 h).1
      rw [if_pos this]
    · rw [if_neg e]
  unfold Br.setp
  rw [this]
theorem setp_lift (B : Br) (k : Nat) {i j : Nat} (u v : Value) (h : i < j) : (B.setp k j v).setp k i u = (B.setp k i u).setp k j v := setp_comm B k u v (by omega)
theorem tod_wrap (n : Int) (h0 : -9223372036854775808 ≤ n) (h1 : n < 9223372036854775808) : IntKind.i64.wrap n = n := by
  simp [IntKind.wrap, IntKind.bits, IntKind.signed]
  omega
def tclr (B : Br) (k : Nat) : Br := (((B.setp k 39 (.bool false)).setp k 41 (.bool false)).setp k 40 (.bool false)).setp k 49 (.bool false)
theorem tforget_clr (B : Br) (k : Nat) : tforget B k = (tclr B k).setp k 21 (.int .i64 1) := rfl
theorem tclr_self {B : Br} {k : Nat} (h : B.ps[k * 89 + 21]? = some (.int .i64 1)) : tforget B k = tclr B k := by
  rw [tforget_clr]
  unfold tclr
  simp (disch := decide) only [setp_lift]
  rw [setp_self B k 21 _ h]
theorem tclr_ok {B : Br} (ho : B.ok) {k : Nat} (hk : k < B.np) : (tclr B k).ok := (((ho.setB hk 39 false rfl).setB (k := k) hk 41 false rfl).setB (k := k) hk 40 false rfl).setB (k := k) hk 49 false rfl
/-- Who is no designated port owes nothing. -/
theorem tpass0_no {B : Br} (ho : B.ok) {k : Nat} (hk : k < B.np) (h : (B.gi k 87 == 4) = false) : tpass0 B k = (B.setp k 39 (.bool false)).setp k 41 (.bool false) := by
  unfold tpass0
  rw [h, Bool.or_false, setp_comm _ _ _ _ (by decide), setp_comm B _ _ _ (by decide), setp_self B k 48 _ (ho.gb hk 48 rfl)]
theorem tpass0_yes {B : Br} {k : Nat} (h : (B.gi k 87 == 4) = true) : tpass0 B k = ((B.setp k 39 (.bool false)).setp k 41 (.bool false)).setp k 48 (.bool true) := by
  unfold tpass0
  rw [h, Bool.or_true]
theorem tleave_order (B : Br) (k : Nat) : tleave B k = (((B.setp k 25 (.bool true)).setp k 13 (.int .i64 0)).setp k 48 (.bool false)).setp k 21 (.int .i64 0) := by
  unfold tleave
  rw [setp_comm (B.setp k 25 (.bool true)) _ _ _ (by decide)]

set_option maxRecDepth 100000 in
set_option maxHeartbeats 4000000 in
theorem tod_clears (w : World) (F : Nat → Prop) (X g k : Nat) (B : Br) (h : BrG w F X g B) (ho : B.ok) (hk : k < B.np) (hn : B.np < 1000) : Calls Try.prog 28 #[.pointer (some ⟨g, k * 89, none⟩)] w fun e w' => e = .returned (.tuple #[]) ∧ BrG w' F X g (tclr B k) ∧ Mut F w w' := by
  have e39 := (h.cellg (i := k * 89 + 39) (lt89 hk (by decide))).trans (Br.ok.gb ho (k := k) hk 39 rfl)
  have e41 := (h.cellg (i := k * 89 + 41) (lt89 hk (by decide))).trans (Br.ok.gb ho (k := k) hk 41 rfl)
  have e40 := (h.cellg (i := k * 89 + 40) (lt89 hk (by decide))).trans (Br.ok.gb ho (k := k) hk 40 rfl)
  have e49 := (h.cellg (i := k * 89 + 49) (lt89 hk (by decide))).trans (Br.ok.gb ho (k := k) hk 49 rfl)
  have efr := h.frozen
  have H := Lib.hid h
  clear h
  go_enter Try.func28, Try.ntmps28
  go_wp2_with fail
  go_end0
  exact ⟨rfl, ((((H.out.setp (k := k) (j := 39) hk (by decide) (.bool false)).setp (k := k) (j := 41) hk (by decide) (.bool false)).setp (k := k) (j := 40) hk (by decide) (.bool false)).setp (k := k) (j := 49) hk (by decide) (.bool false)), (((((Mut.refl F w).setCell (p := ⟨g, k * 89 + 39, none⟩) (.inl H.out.F2) (.bool false)).setCell (p := ⟨g, k * 89 + 41, none⟩) (.inl H.out.F2) (.bool false)).setCell (p := ⟨g, k * 89 + 40, none⟩) (.inl H.out.F2) (.bool false)).setCell (p := ⟨g, k * 89 + 49, none⟩) (.inl H.out.F2) (.bool false))⟩

set_option maxRecDepth 100000 in
set_option maxHeartbeats 4000000 in
theorem tod_begins (w : World) (F : Nat → Prop) (X g k : Nat) (B : Br) (h : BrG w F X g B) (ho : B.ok) (hk : k < B.np) (hn : B.np < 1000) (hT : TR (B.hi 2) (B.hi 3) (B.hi 4) (B.hi 5)) : Calls Try.prog 29 #[.pointer (some ⟨X, 0, none⟩), .pointer (some ⟨g, k * 89, none⟩)] w fun e w' => e = .returned (.tuple #[]) ∧ BrG w' F X g (tbegin B k) ∧ Mut F w w' := by
  obtain ⟨hX, hg, hne⟩ := h.lt
  have hTr := hT
  unfold TR at hTr
  have p13 := (h.cellg (i := k * 89 + 13) (lt89 hk (by decide))).trans (ho.gi hk 13 rfl)
  have p45 := (h.cellg (i := k * 89 + 45) (lt89 hk (by decide))).trans (ho.gb hk 45 rfl)
  have p31 := (h.cellg (i := k * 89 + 31) (lt89 hk (by decide))).trans (ho.gb hk 31 rfl)
  have q3 := (h.cellX ho (i := 3) (by decide)).trans (ho.hi 3 rfl)
  have q4 := (h.cellX ho (i := 4) (by decide)).trans (ho.hi 4 rfl)
  have q5 := (h.cellX ho (i := 5) (by decide)).trans (ho.hi 5 rfl)
  have hfr := h.frozen
  have H := Lib.hid h
  clear h hT
  by_cases h13 : B.gi k 13 = 0
  rotate_left
  · have hb : (B.gi k 13 != 0) = true := by simpa using h13
    have e2 : tbegin B k = B := by unfold tbegin; rw [if_neg h13]
    rw [e2]
    clear e2 h13
    go_enter Try.func29, Try.ntmps29
    go_wp2_with fail
    (try simp only [Exit.inBlock, Exit.then])
    refine bodyPost_ret (results_none rfl _ _ _) rfl ?_
    exact ⟨rfl, H.out, Mut.refl F w⟩
  cases h45 : B.gb k 45
  · have e2 : tbegin B k = B.setp k 13 (.int .i64 (B.hi 3 + B.hi 5)) := by unfold tbegin; rw [if_pos h13, if_neg (by rw [h45]; decide)]
    rw [e2]
    rw [h13] at p13
    rw [h45] at p45
    clear e2 h13 h45
    go_enter Try.func29, Try.ntmps29
    go_upto_region 4 with fail
    refine beginL (S := fun W' => Mut (fun n => n = g) w W') (by kernel_rfl) ?_
    intro wd hqx
    have hq0 : Mut (fun n => n = g) w wd := hqx.mut _
    have HBd := Lib.hid (H.out.ext hqx)
    have z13 := (HBd.out.cellg (i := k * 89 + 13) (lt89 hk (by decide))).trans (ho.gi hk 13 rfl)
    have zfr := HBd.out.frozen
    refine takeL (i := 0) (v := (.pointer (some ⟨g, k * 89, none⟩))) rfl (by kernel_rfl) (by kernel_rfl) (by kernel_rfl) (fun _ _ _ h => h) (Or.inl ⟨rfl, fun _ _ => rfl⟩) hq0 ?_
    simp only [Act.put, List.setIfInBounds_toArray, List.set_cons_zero, List.set_cons_succ]
    refine takeL (i := 1) (v := (.pointer (some ⟨X, 0, none⟩))) rfl (by kernel_rfl) (by kernel_rfl) (by kernel_rfl) (fun _ _ _ h => h) (Or.inl ⟨rfl, fun _ _ => rfl⟩) hq0 ?_
    simp only [Act.put, List.setIfInBounds_toArray, List.set_cons_zero, List.set_cons_succ]
    refine takeL (i := 2) (v := (.pointer (some ⟨X, 0, none⟩))) rfl (by kernel_rfl) (by kernel_rfl) (by kernel_rfl) (fun _ _ _ h => h) (Or.inl ⟨rfl, fun _ _ => rfl⟩) hq0 ?_
    simp only [Act.put, List.setIfInBounds_toArray, List.set_cons_zero, List.set_cons_succ]
    refine takeL (i := 3) (v := (.pointer (some ⟨X, 2, none⟩))) rfl (by kernel_rfl) (by kernel_rfl) (by kernel_rfl) (fun _ _ _ h => h) (Or.inl ⟨rfl, fun _ _ => rfl⟩) hq0 ?_
    simp only [Act.put, List.setIfInBounds_toArray, List.set_cons_zero, List.set_cons_succ]
    refine takeL (i := 4) (v := (.pointer (some ⟨X, 3, none⟩))) rfl (by kernel_rfl) (by kernel_rfl) (by kernel_rfl) (fun _ _ _ h => h) (Or.inl ⟨rfl, fun _ _ => rfl⟩) hq0 ?_
    simp only [Act.put, List.setIfInBounds_toArray, List.set_cons_zero, List.set_cons_succ]
    refine takeL (i := 5) (v := _) rfl (by kernel_rfl) (by kernel_rfl) (by kernel_rfl) (fun _ _ _ h => h) (yieldsIf_cell rfl 3 _ rfl ⟨X, 3, none⟩ rfl (.int .i64 (B.hi 3)) _ (fun W' hW' => (hW'.cell (p := ⟨X, 3, none⟩) hX (show ¬ X = g from hne)).trans q3) Try.underlying3 rfl) hq0 ?_
    simp only [Act.put, List.setIfInBounds_toArray, List.set_cons_zero, List.set_cons_succ]
    refine takeL (i := 6) (v := (.pointer (some ⟨X, 0, none⟩))) rfl (by kernel_rfl) (by kernel_rfl) (by kernel_rfl) (fun _ _ _ h => h) (Or.inl ⟨rfl, fun _ _ => rfl⟩) hq0 ?_
    simp only [Act.put, List.setIfInBounds_toArray, List.set_cons_zero, List.set_cons_succ]
    refine takeL (i := 7) (v := (.pointer (some ⟨X, 0, none⟩))) rfl (by kernel_rfl) (by kernel_rfl) (by kernel_rfl) (fun _ _ _ h => h) (Or.inl ⟨rfl, fun _ _ => rfl⟩) hq0 ?_
    simp only [Act.put, List.setIfInBounds_toArray, List.set_cons_zero, List.set_cons_succ]
    refine takeL (i := 8) (v := (.pointer (some ⟨X, 2, none⟩))) rfl (by kernel_rfl) (by kernel_rfl) (by kernel_rfl) (fun _ _ _ h => h) (Or.inl ⟨rfl, fun _ _ => rfl⟩) hq0 ?_
    simp only [Act.put, List.setIfInBounds_toArray, List.set_cons_zero, List.set_cons_succ]
    refine takeL (i := 9) (v := (.pointer (some ⟨X, 5, none⟩))) rfl (by kernel_rfl) (by kernel_rfl) (by kernel_rfl) (fun _ _ _ h => h) (Or.inl ⟨rfl, fun _ _ => rfl⟩) hq0 ?_
    simp only [Act.put, List.setIfInBounds_toArray, List.set_cons_zero, List.set_cons_succ]
    refine takeL (i := 10) (v := _) rfl (by kernel_rfl) (by kernel_rfl) (by kernel_rfl) (fun _ _ _ h => h) (yieldsIf_cell rfl 3 _ rfl ⟨X, 5, none⟩ rfl (.int .i64 (B.hi 5)) _ (fun W' hW' => (hW'.cell (p := ⟨X, 5, none⟩) hX (show ¬ X = g from hne)).trans q5) Try.underlying3 rfl) hq0 ?_
    simp only [Act.put, List.setIfInBounds_toArray, List.set_cons_zero, List.set_cons_succ]
    refine takeL (i := 11) (v := (.int .i64 (B.hi 3 + B.hi 5))) rfl (by kernel_rfl) (by kernel_rfl) (by kernel_rfl) (fun _ _ _ h => h) (Or.inl ⟨rfl, fun W' _ => by go_simp; exact tod_wrap _ (by omega) (by omega)⟩) hq0 ?_
    simp only [Act.put, List.setIfInBounds_toArray, List.set_cons_zero, List.set_cons_succ]
    refine takeL (i := 12) (v := (.pointer (some ⟨g, k * 89, none⟩))) rfl (by kernel_rfl) (by kernel_rfl) (by kernel_rfl) (fun _ _ _ h => h) (Or.inl ⟨rfl, fun _ _ => rfl⟩) hq0 ?_
    simp only [Act.put, List.setIfInBounds_toArray, List.set_cons_zero, List.set_cons_succ]
    refine takeL (i := 13) (v := (.pointer (some ⟨g, k * 89 + 6, none⟩))) rfl (by kernel_rfl) (by kernel_rfl) (by kernel_rfl) (fun _ _ _ h => h) (Or.inl ⟨rfl, fun _ _ => rfl⟩) hq0 ?_
    simp only [Act.put, List.setIfInBounds_toArray, List.set_cons_zero, List.set_cons_succ]
    refine takeL (i := 14) (v := (.pointer (some ⟨g, k * 89 + 13, none⟩))) rfl (by kernel_rfl) (by kernel_rfl) (by kernel_rfl) (fun _ _ _ h => h) (Or.inl ⟨rfl, fun _ _ => rfl⟩) hq0 ?_
    simp only [Act.put, List.setIfInBounds_toArray, List.set_cons_zero, List.set_cons_succ]
    refine runL (i := 15) rfl rfl (by kernel_rfl) (fun K hK => ?_)
    go_simp
    have hq1 := hq0.setCell (p := ⟨g, k * 89 + 13, none⟩) (.inl rfl) (.int .i64 (B.hi 3 + B.hi 5))
    refine hK.out _ _ hq1 (fun hHeld => ?_)
    try simp only [Act.put, List.setIfInBounds_toArray, List.set_cons_zero, List.set_cons_succ]
    clear hK K hHeld
    refine wpAnyH_done (by kernel_rfl) ?_ _
    have HQ : Mut F w _ := hq1.mono (fun n _ e => by have e2 : n = g := e; rw [e2]; exact H.out.F2)
    go_wp2_with fail
    go_end0
    exact ⟨rfl, HBd.out.setp (k := k) (j := 13) hk (by decide) _, HQ⟩
  · have e2 : tbegin B k = (B.setp k 13 (.int .i64 (B.hi 4 + 1))).setp k 31 (.bool true) := by unfold tbegin; rw [if_pos h13, if_pos h45]
    rw [e2]
    rw [h13] at p13
    rw [h45] at p45
    clear e2 h13 h45
    go_enter Try.func29, Try.ntmps29
    go_wp2_with fail
    (try simp only [Exit.inBlock, Exit.then])
    refine bodyPost_ret (results_none rfl _ _ _) rfl ?_
    exact ⟨rfl, ((H.out.setp (k := k) (j := 13) hk (by decide) (.int .i64 (B.hi 4 + 1))).setp (k := k) (j := 31) hk (by decide) (.bool true)), (((Mut.refl F w).setCell (p := ⟨g, k * 89 + 13, none⟩) (.inl H.out.F2) (.int .i64 (B.hi 4 + 1))).setCell (p := ⟨g, k * 89 + 31, none⟩) (.inl H.out.F2) (.bool true))⟩

set_option maxRecDepth 100000 in
set_option maxHeartbeats 4000000 in
theorem tod_others (w : World) (F : Nat → Prop) (X g k : Nat) (B : Br) (h : BrG w F X g B) (ho : B.ok) (hk : k < B.np) (hn : B.np < 1000) : Calls Try.prog 30 #[.pointer (some ⟨X, 0, none⟩), .int .i64 k] w fun e w' => e = .returned (.tuple #[]) ∧ BrG w' F X g (tcp B k B.np) ∧ Mut F w w' := by
  obtain ⟨cap, c17, hc1, hc2⟩ := h.cell17 ho
  have H := Lib.hid h
  clear h
  go_enter Try.func30, Try.ntmps30
  go_wp2_with fail
  go_loopw [4] (fun v wr => ∃ n : Nat, n ≤ B.np ∧ v = .int .i64 n ∧ BrG wr F X g (tcp B k n) ∧ Mut F w wr) (fun v _ => B.np - (intOf v).toNat)
  case atStart => exact ⟨0, by omega, rfl, H.out, Mut.refl F w⟩
  case round =>
    clear c17
    obtain ⟨n, hn2, rfl, hB, hm⟩ := hrel
    have HB := Lib.hid hB
    have HM := Lib.hid hm
    clear hB hm
    have okn : Br.ok (tcp B k n) := tcp_ok ho k n hn2
    have hnp : Br.np (tcp B k n) = B.np := tcp_np _ _ _
    obtain ⟨cap2, c17, hc3, hc4⟩ := HB.out.cell17 okn
    rw [hnp] at c17 hc3
    by_cases hlt : n < B.np
    · have hkn : n < Br.np (tcp B k n) := by rw [hnp]; exact hlt
      have p49 := (HB.out.cellg (i := n * 89 + 49) (lt89 hkn (by decide))).trans (okn.gb hkn 49 rfl)
      have hfr := HB.out.frozen
      have hk8 : k < 1000 := by omega
      by_cases e : n = k
      · have hb : ((n : Int) != (k : Int)) = false := by simp [e]
        have ES := Lib.hid (show tcp B k (n + 1) = tcp B k n by show (if n = k then _ else _) = _; rw [if_pos e])
        clear e
        go_wp2_with fail
        go_roundw
        case rel => exact ⟨n + 1, by omega, by go_num, by rw [ES.out]; exact HB.out, HM.out⟩
        case measure => simp [intOf]; omega
      · have hb : ((n : Int) != (k : Int)) = true := by simp; omega
        have ES := Lib.hid (show tcp B k (n + 1) = (tcp B k n).setp n 49 (.bool true) by show (if n = k then _ else _) = _; rw [if_neg e])
        clear e
        go_wp2_with fail
        go_roundw
        case rel => exact ⟨n + 1, by omega, by go_num, by rw [ES.out]; exact HB.out.setp (k := n) (j := 49) hkn (by decide) _, HM.out.setCell (.inl HB.out.F2) _⟩
        case measure => simp [intOf]; omega
    · obtain rfl : n = B.np := by omega
      go_wp2_with fail
      go_end0
      exact ⟨rfl, HB.out, HM.out⟩

end Go.Proofs.Ytpieamfpgfabgaa
