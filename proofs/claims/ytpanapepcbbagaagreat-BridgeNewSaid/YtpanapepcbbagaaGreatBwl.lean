/- Part 12 of what BridgeNew stands on. No statement is proved here. -/
import Derived.StillTailTactics
import Derived.Deep.Light
import Derived.Test.YtpanapepcbbagaaGreatBwk
namespace Go.Proofs.YtpanapepcbbagaaGreat
open Go.RowKit Go.BigFrame Go.WideShapes Go.ChangeShapes Go.Deep
set_option linter.unusedVariables false
set_option linter.unusedSimpArgs false
set_option maxRecDepth 100000
theorem tr_syncs (w : World) (F : Nat → Prop) (X g k : Nat) (B : Br) (h : BrG w F X g B) (ho : B.ok) (hk : k < B.np) : Calls Tryz.prog 113 #[placeV g k X] w fun e w' => e = .returned (.bool (if B.gb k 47 = true then B.gb k 46 else (!B.gb k 29 && !B.gb k 27) || B.gb k 23 || B.gb k 32)) ∧ Ext w w' := by
  obtain ⟨m, hm⟩ : ∃ m, (!B.gb k 29 && !B.gb k 27) = m := ⟨_, rfl⟩
  rw [hm]
  have HM := Lib.hid hm
  clear hm
  obtain ⟨x23, e23⟩ : ∃ b, B.gb k 23 = b := ⟨_, rfl⟩
  rw [e23]
  have HE23 := Lib.hid e23
  clear e23
  obtain ⟨x32, e32⟩ : ∃ b, B.gb k 32 = b := ⟨_, rfl⟩
  rw [e32]
  have HE32 := Lib.hid e32
  clear e32
  obtain ⟨hX, hg, hne⟩ := h.lt
  have p47 := (h.cellg (i := k * 89 + 47) (lt89 hk (by decide))).trans (ho.gb hk 47 rfl)
  have p46 := (h.cellg (i := k * 89 + 46) (lt89 hk (by decide))).trans (ho.gb hk 46 rfl)
  have H := Lib.hid h
  have hs : w.heap.size ≠ g := by omega
  clear h
  unfold placeV
  go_enter Tryz.func113, Tryz.ntmps113
  cases h47 : B.gb k 47
  · rw [h47] at p47
    go_wp2_with fail
    refine (tr_still _ F X g k B (H.out.ext ((Ext.refl w).alloc _)) ho hk).mono ?_
    rintro e w1 ⟨he, hx⟩
    rw [HM.out] at he
    obtain rfl : e = .returned (.bool m) := he
    have hB1 := H.out.ext (((Ext.refl w).alloc _).trans hx)
    have p23 := (hB1.cellg (i := k * 89 + 23) (lt89 hk (by decide))).trans (ho.gb hk 23 rfl)
    have p32 := (hB1.cellg (i := k * 89 + 32) (lt89 hk (by decide))).trans (ho.gb hk 32 rfl)
    rw [HE23.out] at p23
    rw [HE32.out] at p32
    have HX := Lib.hid hx
    clear hx hB1 p46 p47 h47
    cases m <;> cases x23
    all_goals
      go_wp2_with fail
      go_ret
      exact ⟨by simp, ((Ext.refl w).alloc _).trans HX.out⟩
  · rw [h47] at p47
    go_wp2_with fail
    go_ret
    exact ⟨by simp, (Ext.refl w).alloc _⟩
set_option maxHeartbeats 4000000 in
theorem tr_retires (w : World) (F : Nat → Prop) (X g k : Nat) (B : Br) (h : BrG w F X g B) (ho : B.ok) (hk : k < B.np) : Calls Tryz.prog 116 #[placeV g k X] w fun e w' => e = .returned (.bool ((B.gb k 28 || B.gb k 26) && !B.gb k 32 && ((B.gb k 46 && !B.gb k 47) || (B.gb k 42 && B.gi k 12 != 0) || B.gb k 24))) ∧ Ext w w' := by
  obtain ⟨hX, hg, hne⟩ := h.lt
  have p46 := (h.cellg (i := k * 89 + 46) (lt89 hk (by decide))).trans (ho.gb hk 46 rfl)
  have p47 := (h.cellg (i := k * 89 + 47) (lt89 hk (by decide))).trans (ho.gb hk 47 rfl)
  have p42 := (h.cellg (i := k * 89 + 42) (lt89 hk (by decide))).trans (ho.gb hk 42 rfl)
  have p24 := (h.cellg (i := k * 89 + 24) (lt89 hk (by decide))).trans (ho.gb hk 24 rfl)
  have p28 := (h.cellg (i := k * 89 + 28) (lt89 hk (by decide))).trans (ho.gb hk 28 rfl)
  have p26 := (h.cellg (i := k * 89 + 26) (lt89 hk (by decide))).trans (ho.gb hk 26 rfl)
  have p32 := (h.cellg (i := k * 89 + 32) (lt89 hk (by decide))).trans (ho.gb hk 32 rfl)
  have p12 := (h.cellg (i := k * 89 + 12) (lt89 hk (by decide))).trans (ho.gi hk 12 rfl)
  have hs : w.heap.size ≠ g := by omega
  clear h
  obtain ⟨x46, e46⟩ : ∃ b, B.gb k 46 = b := ⟨_, rfl⟩
  rw [e46] at p46 ⊢
  obtain ⟨x47, e47⟩ : ∃ b, B.gb k 47 = b := ⟨_, rfl⟩
  rw [e47] at p47 ⊢
  obtain ⟨x42, e42⟩ : ∃ b, B.gb k 42 = b := ⟨_, rfl⟩
  rw [e42] at p42 ⊢
  obtain ⟨x24, e24⟩ : ∃ b, B.gb k 24 = b := ⟨_, rfl⟩
  rw [e24] at p24 ⊢
  obtain ⟨x28, e28⟩ : ∃ b, B.gb k 28 = b := ⟨_, rfl⟩
  rw [e28] at p28 ⊢
  obtain ⟨x26, e26⟩ : ∃ b, B.gb k 26 = b := ⟨_, rfl⟩
  rw [e26] at p26 ⊢
  obtain ⟨x32, e32⟩ : ∃ b, B.gb k 32 = b := ⟨_, rfl⟩
  rw [e32] at p32 ⊢
  obtain ⟨x12, e12⟩ : ∃ b, B.gi k 12 = b := ⟨_, rfl⟩
  rw [e12] at p12 ⊢
  clear e46 e47 e42 e24 e28 e26 e32 e12
  unfold placeV
  go_enter Tryz.func116, Tryz.ntmps116
  cases x46
  · cases x42
    · cases x28
      · cases x26
        · go_wp2_with fail
          go_ret
          exact ⟨by first | (simp; done) | simp [hz], (Ext.refl w).alloc _⟩
        · cases x32
          · go_wp2_with fail
            go_ret
            exact ⟨by first | (simp; done) | simp [hz], (Ext.refl w).alloc _⟩
          · go_wp2_with fail
            go_ret
            exact ⟨by first | (simp; done) | simp [hz], (Ext.refl w).alloc _⟩
      · cases x32
        · go_wp2_with fail
          go_ret
          exact ⟨by first | (simp; done) | simp [hz], (Ext.refl w).alloc _⟩
        · go_wp2_with fail
          go_ret
          exact ⟨by first | (simp; done) | simp [hz], (Ext.refl w).alloc _⟩
    · cases hz : (x12 != 0)
      · cases x28
        · cases x26
          · go_wp2_with fail
            go_ret
            exact ⟨by first | (simp; done) | simp [hz], (Ext.refl w).alloc _⟩
          · cases x32
            · go_wp2_with fail
              go_ret
              exact ⟨by first | (simp; done) | simp [hz], (Ext.refl w).alloc _⟩
            · go_wp2_with fail
              go_ret
              exact ⟨by first | (simp; done) | simp [hz], (Ext.refl w).alloc _⟩
        · cases x32
          · go_wp2_with fail
            go_ret
            exact ⟨by first | (simp; done) | simp [hz], (Ext.refl w).alloc _⟩
          · go_wp2_with fail
            go_ret
            exact ⟨by first | (simp; done) | simp [hz], (Ext.refl w).alloc _⟩
      · cases x28
        · cases x26
          · go_wp2_with fail
            go_ret
            exact ⟨by first | (simp; done) | simp [hz], (Ext.refl w).alloc _⟩
          · cases x32
            · go_wp2_with fail
              go_ret
              exact ⟨by first | (simp; done) | simp [hz], (Ext.refl w).alloc _⟩
            · go_wp2_with fail
              go_ret
              exact ⟨by first | (simp; done) | simp [hz], (Ext.refl w).alloc _⟩
        · cases x32
          · go_wp2_with fail
            go_ret
            exact ⟨by first | (simp; done) | simp [hz], (Ext.refl w).alloc _⟩
          · go_wp2_with fail
            go_ret
            exact ⟨by first | (simp; done) | simp [hz], (Ext.refl w).alloc _⟩
  · cases x47
    · cases x28
      · cases x26
        · go_wp2_with fail
          go_ret
          exact ⟨by first | (simp; done) | simp [hz], (Ext.refl w).alloc _⟩
        · cases x32
          · go_wp2_with fail
            go_ret
            exact ⟨by first | (simp; done) | simp [hz], (Ext.refl w).alloc _⟩
          · go_wp2_with fail
            go_ret
            exact ⟨by first | (simp; done) | simp [hz], (Ext.refl w).alloc _⟩
      · cases x32
        · go_wp2_with fail
          go_ret
          exact ⟨by first | (simp; done) | simp [hz], (Ext.refl w).alloc _⟩
        · go_wp2_with fail
          go_ret
          exact ⟨by first | (simp; done) | simp [hz], (Ext.refl w).alloc _⟩
    · cases x42
      · cases x28
        · cases x26
          · go_wp2_with fail
            go_ret
            exact ⟨by first | (simp; done) | simp [hz], (Ext.refl w).alloc _⟩
          · cases x32
            · go_wp2_with fail
              go_ret
              exact ⟨by first | (simp; done) | simp [hz], (Ext.refl w).alloc _⟩
            · go_wp2_with fail
              go_ret
              exact ⟨by first | (simp; done) | simp [hz], (Ext.refl w).alloc _⟩
        · cases x32
          · go_wp2_with fail
            go_ret
            exact ⟨by first | (simp; done) | simp [hz], (Ext.refl w).alloc _⟩
          · go_wp2_with fail
            go_ret
            exact ⟨by first | (simp; done) | simp [hz], (Ext.refl w).alloc _⟩
      · cases hz : (x12 != 0)
        · cases x28
          · cases x26
            · go_wp2_with fail
              go_ret
              exact ⟨by first | (simp; done) | simp [hz], (Ext.refl w).alloc _⟩
            · cases x32
              · go_wp2_with fail
                go_ret
                exact ⟨by first | (simp; done) | simp [hz], (Ext.refl w).alloc _⟩
              · go_wp2_with fail
                go_ret
                exact ⟨by first | (simp; done) | simp [hz], (Ext.refl w).alloc _⟩
          · cases x32
            · go_wp2_with fail
              go_ret
              exact ⟨by first | (simp; done) | simp [hz], (Ext.refl w).alloc _⟩
            · go_wp2_with fail
              go_ret
              exact ⟨by first | (simp; done) | simp [hz], (Ext.refl w).alloc _⟩
        · cases x28
          · cases x26
            · go_wp2_with fail
              go_ret
              exact ⟨by first | (simp; done) | simp [hz], (Ext.refl w).alloc _⟩
            · cases x32
              · go_wp2_with fail
                go_ret
                exact ⟨by first | (simp; done) | simp [hz], (Ext.refl w).alloc _⟩
              · go_wp2_with fail
                go_ret
                exact ⟨by first | (simp; done) | simp [hz], (Ext.refl w).alloc _⟩
          · cases x32
            · go_wp2_with fail
              go_ret
              exact ⟨by first | (simp; done) | simp [hz], (Ext.refl w).alloc _⟩
            · go_wp2_with fail
              go_ret
              exact ⟨by first | (simp; done) | simp [hz], (Ext.refl w).alloc _⟩
end Go.Proofs.YtpanapepcbbagaaGreat
namespace Go.Proofs.YtpanapepcbbagaaGreat
open Go.RowKit Go.BigFrame Go.WideShapes Go.ChangeShapes Go.Deep
set_option linter.unusedVariables false
set_option linter.unusedSimpArgs false
set_option maxRecDepth 100000
theorem trWait_set {B : Br} {k j : Nat} {v : Value} (h : j ≠ 45) : trWait (B.setp k j v) k = trWait B k := by
  unfold trWait
  rw [gb_setp_ne _ _ _ _ _ h]
  rfl
theorem tr_learn (w : World) (F : Nat → Prop) (X g k : Nat) (B : Br) (h : BrG w F X g B) (ho : B.ok) (hk : k < B.np) : Calls Tryz.prog 104 #[placeV g k X] w fun e w' => e = .returned (.tuple #[]) ∧ BrG w' F X g (trLearn B k) ∧ Mut (fun n => n = g) w w' := by
  obtain ⟨hX, hg, hne⟩ := h.lt
  have hbg : ¬ w.heap.size = g := by omega
  have hbX : ¬ w.heap.size = X := by omega
  have hXg : ¬ X = g := hne
  have hFg := h.F2
  have e28 := (h.cellg (i := k * 89 + 28) (lt89 hk (by decide))).trans (Br.ok.gb ho (k := k) hk 28 rfl)
  have efr := h.frozen
  have HMz := Lib.hid (((Mut.refl (fun n => n = g) w).setCell (p := ⟨g, k * 89 + 28, none⟩) (.inl rfl) (.bool true)).alloc (.cells #[.pointer (some ⟨g, k * 89, none⟩), .pointer (some ⟨X, 0, none⟩), .int .i64 k] 112))
  have HBz := Lib.hid (BrG.alloc (h.setp (k := k) (j := 28) hk (by decide) (.bool true)) (.cells #[.pointer (some ⟨g, k * 89, none⟩), .pointer (some ⟨X, 0, none⟩), .int .i64 k] 112))
  have HPz := Lib.hid (heap_alloc_new (w.setCell ⟨g, k * 89 + 28, none⟩ (.bool true)) (.cells #[.pointer (some ⟨g, k * 89, none⟩), .pointer (some ⟨X, 0, none⟩), .int .i64 k] 112))
  have HZ0 := Lib.hid (show w.heap.size < ((w.setCell ⟨g, k * 89 + 28, none⟩ (.bool true)).alloc (.cells #[.pointer (some ⟨g, k * 89, none⟩), .pointer (some ⟨X, 0, none⟩), .int .i64 k] 112)).heap.size by simp)
  have okz : Br.ok (B.setp k 28 (.bool true)) := (ho.setB (k := k) hk 28 true rfl)
  clear h
  unfold placeV
  go_enter Tryz.func104, Tryz.ntmps104
  go_wp2_with fail
  clear e28 efr
  have HZ1 := Lib.hid (show (w.setCell ⟨g, k * 89 + 28, none⟩ (.bool true)).heap.size = w.heap.size by simp)
  generalize hwz : ((w.setCell ⟨g, k * 89 + 28, none⟩ (.bool true)).alloc (.cells #[.pointer (some ⟨g, k * 89, none⟩), .pointer (some ⟨X, 0, none⟩), .int .i64 k] 112)) = wz at *
  clear hwz
  obtain ⟨b0, hb00⟩ : ∃ b, w.heap.size = b := ⟨_, rfl⟩
  have hPz := HPz.out
  rw [HZ1.out, hb00] at hPz
  have HPz := Lib.hid hPz
  clear hPz HZ1
  rw [hb00] at HZ0 hbg hbX ⊢
  clear hb00
  have hb0 := HZ0.out
  have c0 : wz.cell? ⟨b0, 0, none⟩ = some (.pointer (some ⟨g, k * 89, none⟩)) := (cell_of_row _ _ _ _ _ _ HPz.out).trans rfl
  have c1 : wz.cell? ⟨b0, 1, none⟩ = some (.pointer (some ⟨X, 0, none⟩)) := (cell_of_row _ _ _ _ _ _ HPz.out).trans rfl
  have c2 : wz.cell? ⟨b0, 2, none⟩ = some (.int .i64 k) := (cell_of_row _ _ _ _ _ _ HPz.out).trans rfl
  have hgz : g < wz.heap.size := HBz.out.lt.2.1
  have hXz : X < wz.heap.size := HBz.out.lt.1
  refine beginL (S := fun W' => Mut (fun n => n = g) wz W') (by kernel_rfl) ?_
  intro wd hqx
  have hq0 : Mut (fun n => n = g) wz wd := hqx.mut _
  refine tLp 0 ((.pointer (some ⟨b0, 0, none⟩))) rfl hq0 ?_
  simp only [ps]
  refine tL 1 (_) rfl (yieldsIf_cell rfl 79 _ rfl ⟨b0, 0, none⟩ rfl (.pointer (some ⟨g, k * 89, none⟩)) _ (fun W' hW' => (hW'.cell (p := ⟨b0, 0, none⟩) hb0 hbg).trans c0) Tryz.underlying79 rfl) hq0 ?_
  simp only [ps]
  refine tL 2 (_) rfl (yieldsIf_rowS rfl 112 _ rfl b0 rfl #[.pointer (some ⟨g, k * 89, none⟩), .pointer (some ⟨X, 0, none⟩), .int .i64 k] _ _ (fun W' hW' => (hW'.heap hb0 hbg).trans HPz.out) Tryz.underlying112 rfl size_place) hq0 ?_
  simp only [ps]
  refine runL (i := 3) rfl rfl (by kernel_rfl) (fun K hK => ?_)
  go_simp
  refine (tr_forwardDelay wd F X g k (B.setp k 28 (.bool true)) (HBz.out.ext hqx) okz hk).mono ?_
  rintro e wc1 ⟨he, hx⟩
  rw [trWait_set (by decide)] at he
  obtain rfl : e = .returned (.int .i64 (trWait B k)) := he
  have hq1 := hq0.trans (hx.mut _)
  have HBd := Lib.hid (HBz.out.ext (hqx.trans hx))
  have e7 := (HBd.out.cellg (i := k * 89 + 7) (lt89 hk (by decide))).trans (Br.ok.gi okz (k := k) hk 7 rfl)
  have efr := HBd.out.frozen
  refine hK.out _ _ hq1 (fun hHeld => ?_)
  try simp only [ps]
  clear hK K hHeld
  refine tLp 4 ((.pointer (some ⟨g, k * 89, none⟩))) rfl hq1 ?_
  simp only [ps]
  refine tLp 5 ((.pointer (some ⟨g, k * 89 + 6, none⟩))) rfl hq1 ?_
  simp only [ps]
  refine tLp 6 ((.pointer (some ⟨g, k * 89 + 7, none⟩))) rfl hq1 ?_
  simp only [ps]
  refine runL (i := 7) rfl rfl (by kernel_rfl) (fun K hK => ?_)
  go_simp
  have hq2 := hq1.setCell (p := ⟨g, k * 89 + 7, none⟩) (.inl rfl) (.int .i64 (trWait B k))
  refine hK.out _ _ hq2 (fun hHeld => ?_)
  try simp only [ps]
  clear hK K hHeld
  refine wpAnyH_done (by kernel_rfl) ?_ _
  go_wp2_with fail
  go_end0
  exact ⟨rfl, (HBd.out.setp (k := k) (j := 7) hk (by decide) (.int .i64 (trWait B k))), HMz.out.trans hq2⟩
theorem tr_sync (w : World) (F : Nat → Prop) (X g k : Nat) (B : Br) (h : BrG w F X g B) (ho : B.ok) (hk : k < B.np) : Calls Tryz.prog 114 #[placeV g k X] w fun e w' => e = .returned (.tuple #[]) ∧ BrG w' F X g ((((B.setp k 12 (.int .i64 0)).setp k 47 (.bool true)).setp k 46 (.bool false))) ∧ Mut (fun n => n = g) w w' := by
  obtain ⟨hX, hg, hne⟩ := h.lt
  have hbg : ¬ w.heap.size = g := by omega
  have hbX : ¬ w.heap.size = X := by omega
  have hXg : ¬ X = g := hne
  have hFg := h.F2
  have e12 := (h.cellg (i := k * 89 + 12) (lt89 hk (by decide))).trans (Br.ok.gi ho (k := k) hk 12 rfl)
  have efr := h.frozen
  have HMz := Lib.hid (((Mut.refl (fun n => n = g) w).setCell (p := ⟨g, k * 89 + 12, none⟩) (.inl rfl) (.int .i64 0)).alloc (.cells #[.pointer (some ⟨g, k * 89, none⟩), .pointer (some ⟨X, 0, none⟩), .int .i64 k] 112))
  have HBz := Lib.hid (BrG.alloc (h.setp (k := k) (j := 12) hk (by decide) (.int .i64 0)) (.cells #[.pointer (some ⟨g, k * 89, none⟩), .pointer (some ⟨X, 0, none⟩), .int .i64 k] 112))
  have HPz := Lib.hid (heap_alloc_new (w.setCell ⟨g, k * 89 + 12, none⟩ (.int .i64 0)) (.cells #[.pointer (some ⟨g, k * 89, none⟩), .pointer (some ⟨X, 0, none⟩), .int .i64 k] 112))
  have HZ0 := Lib.hid (show w.heap.size < ((w.setCell ⟨g, k * 89 + 12, none⟩ (.int .i64 0)).alloc (.cells #[.pointer (some ⟨g, k * 89, none⟩), .pointer (some ⟨X, 0, none⟩), .int .i64 k] 112)).heap.size by simp)
  have okz : Br.ok (B.setp k 12 (.int .i64 0)) := (ho.setI (k := k) hk 12 .i64 0 rfl (by decide))
  clear h
  unfold placeV
  go_enter Tryz.func114, Tryz.ntmps114
  go_wp2_with fail
  clear e12 efr
  have HZ1 := Lib.hid (show (w.setCell ⟨g, k * 89 + 12, none⟩ (.int .i64 0)).heap.size = w.heap.size by simp)
  generalize hwz : ((w.setCell ⟨g, k * 89 + 12, none⟩ (.int .i64 0)).alloc (.cells #[.pointer (some ⟨g, k * 89, none⟩), .pointer (some ⟨X, 0, none⟩), .int .i64 k] 112)) = wz at *
  clear hwz
  obtain ⟨b0, hb00⟩ : ∃ b, w.heap.size = b := ⟨_, rfl⟩
  have hPz := HPz.out
  rw [HZ1.out, hb00] at hPz
  have HPz := Lib.hid hPz
  clear hPz HZ1
  rw [hb00] at HZ0 hbg hbX ⊢
  clear hb00
  have hb0 := HZ0.out
  have c0 : wz.cell? ⟨b0, 0, none⟩ = some (.pointer (some ⟨g, k * 89, none⟩)) := (cell_of_row _ _ _ _ _ _ HPz.out).trans rfl
  have c1 : wz.cell? ⟨b0, 1, none⟩ = some (.pointer (some ⟨X, 0, none⟩)) := (cell_of_row _ _ _ _ _ _ HPz.out).trans rfl
  have c2 : wz.cell? ⟨b0, 2, none⟩ = some (.int .i64 k) := (cell_of_row _ _ _ _ _ _ HPz.out).trans rfl
  have hgz : g < wz.heap.size := HBz.out.lt.2.1
  have hXz : X < wz.heap.size := HBz.out.lt.1
  refine beginL (S := fun W' => Mut (fun n => n = g) wz W') (by kernel_rfl) ?_
  intro wd hqx
  have hq0 : Mut (fun n => n = g) wz wd := hqx.mut _
  have HBd := Lib.hid (HBz.out.ext hqx)
  have e47 := (HBd.out.cellg (i := k * 89 + 47) (lt89 hk (by decide))).trans (Br.ok.gb okz (k := k) hk 47 rfl)
  have e46 := (HBd.out.cellg (i := k * 89 + 46) (lt89 hk (by decide))).trans (Br.ok.gb okz (k := k) hk 46 rfl)
  have efr := HBd.out.frozen
  refine tLp 0 ((.pointer (some ⟨b0, 0, none⟩))) rfl hq0 ?_
  simp only [ps]
  refine tL 1 (_) rfl (yieldsIf_cell rfl 79 _ rfl ⟨b0, 0, none⟩ rfl (.pointer (some ⟨g, k * 89, none⟩)) _ (fun W' hW' => (hW'.cell (p := ⟨b0, 0, none⟩) hb0 hbg).trans c0) Tryz.underlying79 rfl) hq0 ?_
  simp only [ps]
  refine tLp 2 ((.pointer (some ⟨b0, 0, none⟩))) rfl hq0 ?_
  simp only [ps]
  refine tL 3 (_) rfl (yieldsIf_cell rfl 79 _ rfl ⟨b0, 0, none⟩ rfl (.pointer (some ⟨g, k * 89, none⟩)) _ (fun W' hW' => (hW'.cell (p := ⟨b0, 0, none⟩) hb0 hbg).trans c0) Tryz.underlying79 rfl) hq0 ?_
  simp only [ps]
  refine tLp 4 ((.pointer (some ⟨g, k * 89, none⟩))) rfl hq0 ?_
  simp only [ps]
  refine tLp 5 ((.pointer (some ⟨g, k * 89 + 22, none⟩))) rfl hq0 ?_
  simp only [ps]
  refine tLp 6 ((.pointer (some ⟨g, k * 89 + 47, none⟩))) rfl hq0 ?_
  simp only [ps]
  refine runL (i := 7) rfl rfl (by kernel_rfl) (fun K hK => ?_)
  go_simp
  have hq1 := hq0.setCell (p := ⟨g, k * 89 + 47, none⟩) (.inl rfl) (.bool true)
  refine hK.out _ _ hq1 (fun hHeld => ?_)
  try simp only [ps]
  clear hK K hHeld
  refine tLp 8 ((.pointer (some ⟨g, k * 89, none⟩))) rfl hq1 ?_
  simp only [ps]
  refine tLp 9 ((.pointer (some ⟨g, k * 89 + 22, none⟩))) rfl hq1 ?_
  simp only [ps]
  refine tLp 10 ((.pointer (some ⟨g, k * 89 + 46, none⟩))) rfl hq1 ?_
  simp only [ps]
  refine runL (i := 11) rfl rfl (by kernel_rfl) (fun K hK => ?_)
  go_simp
  have hq2 := hq1.setCell (p := ⟨g, k * 89 + 46, none⟩) (.inl rfl) (.bool false)
  refine hK.out _ _ hq2 (fun hHeld => ?_)
  try simp only [ps]
  clear hK K hHeld
  refine wpAnyH_done (by kernel_rfl) ?_ _
  go_wp2_with fail
  go_end0
  exact ⟨rfl, ((HBd.out.setp (k := k) (j := 47) hk (by decide) (.bool true)).setp (k := k) (j := 46) hk (by decide) (.bool false)), HMz.out.trans hq2⟩
end Go.Proofs.YtpanapepcbbagaaGreat
namespace Go.Proofs.YtpanapepcbbagaaGreat
open Go.RowKit Go.BigFrame Go.WideShapes Go.ChangeShapes Go.Deep
set_option linter.unusedVariables false
set_option linter.unusedSimpArgs false
set_option maxRecDepth 100000
set_option maxHeartbeats 2000000 in
theorem tr_designatedMay (w : World) (F : Nat → Prop) (X g k : Nat) (B : Br) (h : BrG w F X g B) (ho : B.ok) (hk : k < B.np) : Calls Tryz.prog 153 #[placeV g k X] w fun e w' => e = .returned (.bool (trDes B k)) ∧ Ext w w' := by
  unfold trDes
  obtain ⟨x23, e23⟩ : ∃ b, B.gb k 23 = b := ⟨_, rfl⟩
  rw [e23]
  have HE23 := Lib.hid e23
  clear e23
  obtain ⟨x32, e32⟩ : ∃ b, B.gb k 32 = b := ⟨_, rfl⟩
  rw [e32]
  have HE32 := Lib.hid e32
  clear e32
  obtain ⟨x42, e42⟩ : ∃ b, B.gb k 42 = b := ⟨_, rfl⟩
  rw [e42]
  have HE42 := Lib.hid e42
  clear e42
  obtain ⟨x46, e46⟩ : ∃ b, B.gb k 46 = b := ⟨_, rfl⟩
  rw [e46]
  have HE46 := Lib.hid e46
  clear e46
  obtain ⟨x7, e7⟩ : ∃ b, B.gi k 7 = b := ⟨_, rfl⟩
  obtain ⟨x12, e12⟩ : ∃ b, B.gi k 12 = b := ⟨_, rfl⟩
  rw [e7, e12]
  have HE7 := Lib.hid e7
  have HE12 := Lib.hid e12
  clear e7 e12
  obtain ⟨hX, hg, hne⟩ := h.lt
  have hEz := (Ext.refl w).alloc (.cells #[.pointer (some ⟨g, k * 89, none⟩), .pointer (some ⟨X, 0, none⟩), .int .i64 k] 112)
  have hBz := h.alloc (.cells #[.pointer (some ⟨g, k * 89, none⟩), .pointer (some ⟨X, 0, none⟩), .int .i64 k] 112)
  have hPz := heap_alloc_new w (.cells #[.pointer (some ⟨g, k * 89, none⟩), .pointer (some ⟨X, 0, none⟩), .int .i64 k] 112)
  have hb0 : w.heap.size < (w.alloc (.cells #[.pointer (some ⟨g, k * 89, none⟩), .pointer (some ⟨X, 0, none⟩), .int .i64 k] 112)).heap.size := by simp
  have hbg : w.heap.size ≠ g := by omega
  have hbX : w.heap.size ≠ X := by omega
  have HEz := Lib.hid hEz
  have HBz := Lib.hid hBz
  have HPz := Lib.hid hPz
  have HZ0 := Lib.hid hb0
  clear hEz hBz hPz hb0 h
  unfold placeV
  go_enter Tryz.func153, Tryz.ntmps153
  go_wp2_with fail
  generalize w.alloc (.cells #[.pointer (some ⟨g, k * 89, none⟩), .pointer (some ⟨X, 0, none⟩), .int .i64 k] 112) = wz at *
  obtain ⟨b0, hb00⟩ : ∃ b, w.heap.size = b := ⟨_, rfl⟩
  rw [hb00] at HPz HZ0 hbg hbX ⊢
  clear hb00
  have hb0 := HZ0.out
  have hBz := HBz.out
  have c0 : wz.cell? ⟨b0, 0, none⟩ = some (.pointer (some ⟨g, k * 89, none⟩)) := (cell_of_row _ _ _ _ _ _ HPz.out).trans rfl
  have c1 : wz.cell? ⟨b0, 1, none⟩ = some (.pointer (some ⟨X, 0, none⟩)) := (cell_of_row _ _ _ _ _ _ HPz.out).trans rfl
  have c2 : wz.cell? ⟨b0, 2, none⟩ = some (.int .i64 k) := (cell_of_row _ _ _ _ _ _ HPz.out).trans rfl
  have hgz : g < wz.heap.size := hBz.lt.2.1
  have hXz : X < wz.heap.size := hBz.lt.1
  refine beginL (S := fun W' => Ext wz W') (by kernel_rfl) ?_
  intro wd hqx
  have hq0 : Ext wz wd := hqx
  refine tLp 0 ((.pointer (some ⟨b0, 0, none⟩))) rfl hq0 ?_
  simp only [ps]
  refine tL 1 (_) rfl (yieldsIf_cell rfl 79 _ rfl ⟨b0, 0, none⟩ rfl (.pointer (some ⟨g, k * 89, none⟩)) _ (fun W' hW' => (hW'.cell (p := ⟨b0, 0, none⟩) hb0).trans c0) Tryz.underlying79 rfl) hq0 ?_
  simp only [ps]
  refine tLp 2 ((.pointer (some ⟨g, k * 89, none⟩))) rfl hq0 ?_
  simp only [ps]
  refine tLp 3 ((.pointer (some ⟨g, k * 89 + 22, none⟩))) rfl hq0 ?_
  simp only [ps]
  refine tLp 4 ((.pointer (some ⟨b0, 0, none⟩))) rfl hq0 ?_
  simp only [ps]
  refine tL 5 (_) rfl (yieldsIf_cell rfl 79 _ rfl ⟨b0, 0, none⟩ rfl (.pointer (some ⟨g, k * 89, none⟩)) _ (fun W' hW' => (hW'.cell (p := ⟨b0, 0, none⟩) hb0).trans c0) Tryz.underlying79 rfl) hq0 ?_
  simp only [ps]
  refine tLp 6 ((.pointer (some ⟨g, k * 89, none⟩))) rfl hq0 ?_
  simp only [ps]
  refine tLp 7 ((.pointer (some ⟨g, k * 89 + 6, none⟩))) rfl hq0 ?_
  simp only [ps]
  refine tLp 8 ((.pointer (some ⟨g, k * 89 + 22, none⟩))) rfl hq0 ?_
  simp only [ps]
  refine tLp 9 ((.pointer (some ⟨g, k * 89 + 6, none⟩))) rfl hq0 ?_
  simp only [ps]
  refine wpAnyH_done (by kernel_rfl) ?_ _
  have hBd := hBz.ext hq0
  have p23 := (hBd.cellg (i := k * 89 + 23) (lt89 hk (by decide))).trans (ho.gb hk 23 rfl)
  have p32 := (hBd.cellg (i := k * 89 + 32) (lt89 hk (by decide))).trans (ho.gb hk 32 rfl)
  have p42 := (hBd.cellg (i := k * 89 + 42) (lt89 hk (by decide))).trans (ho.gb hk 42 rfl)
  have p46 := (hBd.cellg (i := k * 89 + 46) (lt89 hk (by decide))).trans (ho.gb hk 46 rfl)
  have p7 := (hBd.cellg (i := k * 89 + 7) (lt89 hk (by decide))).trans (ho.gi hk 7 rfl)
  have p12 := (hBd.cellg (i := k * 89 + 12) (lt89 hk (by decide))).trans (ho.gi hk 12 rfl)
  rw [HE23.out] at p23
  rw [HE32.out] at p32
  rw [HE42.out] at p42
  rw [HE46.out] at p46
  rw [HE7.out] at p7
  rw [HE12.out] at p12
  have HQ := Lib.hid hq0
  clear hBd hBz hq0 hqx c0 c1 c2 hgz hXz hb0
  cases h7 : (x7 == 0)
  · cases x23
    · cases x32
      · go_wp2_with fail
        go_ret
        exact ⟨by first | (simp; done) | (simp [hz]; done) | (simp [h7]; done) | (simp [h7, hz]; done), HEz.out.trans HQ.out⟩
      · cases x42
        · go_wp2_with fail
          go_ret
          exact ⟨by first | (simp; done) | (simp [hz]; done) | (simp [h7]; done) | (simp [h7, hz]; done), HEz.out.trans HQ.out⟩
        · cases hz : (x12 == 0)
          · go_wp2_with fail
            go_ret
            exact ⟨by first | (simp; done) | (simp [hz]; done) | (simp [h7]; done) | (simp [h7, hz]; done), HEz.out.trans HQ.out⟩
          · go_wp2_with fail
            go_ret
            exact ⟨by first | (simp; done) | (simp [hz]; done) | (simp [h7]; done) | (simp [h7, hz]; done), HEz.out.trans HQ.out⟩
    · cases x42
      · go_wp2_with fail
        go_ret
        exact ⟨by first | (simp; done) | (simp [hz]; done) | (simp [h7]; done) | (simp [h7, hz]; done), HEz.out.trans HQ.out⟩
      · cases hz : (x12 == 0)
        · go_wp2_with fail
          go_ret
          exact ⟨by first | (simp; done) | (simp [hz]; done) | (simp [h7]; done) | (simp [h7, hz]; done), HEz.out.trans HQ.out⟩
        · go_wp2_with fail
          go_ret
          exact ⟨by first | (simp; done) | (simp [hz]; done) | (simp [h7]; done) | (simp [h7, hz]; done), HEz.out.trans HQ.out⟩
  · cases x42
    · go_wp2_with fail
      go_ret
      exact ⟨by first | (simp; done) | (simp [hz]; done) | (simp [h7]; done) | (simp [h7, hz]; done), HEz.out.trans HQ.out⟩
    · cases hz : (x12 == 0)
      · go_wp2_with fail
        go_ret
        exact ⟨by first | (simp; done) | (simp [hz]; done) | (simp [h7]; done) | (simp [h7, hz]; done), HEz.out.trans HQ.out⟩
      · go_wp2_with fail
        go_ret
        exact ⟨by first | (simp; done) | (simp [hz]; done) | (simp [h7]; done) | (simp [h7, hz]; done), HEz.out.trans HQ.out⟩
theorem tr_designatedLearns (w : World) (F : Nat → Prop) (X g k : Nat) (B : Br) (h : BrG w F X g B) (ho : B.ok) (hk : k < B.np) : Calls Tryz.prog 118 #[placeV g k X] w fun e w' => e = .returned (.bool (trDes B k && !B.gb k 28)) ∧ Ext w w' := by
  obtain ⟨hX, hg, hne⟩ := h.lt
  have H := Lib.hid h
  obtain ⟨m, hm⟩ : ∃ m, trDes B k = m := ⟨_, rfl⟩
  rw [hm]
  have HM := Lib.hid hm
  clear hm
  obtain ⟨x28, e28⟩ : ∃ b, B.gb k 28 = b := ⟨_, rfl⟩
  rw [e28]
  have HE28 := Lib.hid e28
  clear e28
  unfold placeV
  go_enter Tryz.func118, Tryz.ntmps118
  go_wp2_with fail
  refine (tr_designatedMay _ F X g k B (H.out.ext ((Ext.refl w).alloc _)) ho hk).mono ?_
  rintro e w1 ⟨he, hx⟩
  rw [HM.out] at he
  obtain rfl : e = .returned (.bool m) := he
  have hP := (hx.block _ (by simp)).trans (heap_alloc_new w _)
  have c0 : w1.cell? ⟨w.heap.size, 0, none⟩ = some (.pointer (some ⟨g, k * 89, none⟩)) := (cell_of_row _ _ _ _ _ _ hP).trans rfl
  have hB1 := H.out.ext (((Ext.refl w).alloc _).trans hx)
  have HX := Lib.hid hx
  have p28 := (hB1.cellg (i := k * 89 + 28) (lt89 hk (by decide))).trans (ho.gb hk 28 rfl)
  rw [HE28.out] at p28
  clear h hX hg hne hx hP hB1
  cases m
  all_goals
    go_wp2_with fail
    go_ret
    exact ⟨by simp, ((Ext.refl w).alloc _).trans HX.out⟩
theorem tr_designatedForwards (w : World) (F : Nat → Prop) (X g k : Nat) (B : Br) (h : BrG w F X g B) (ho : B.ok) (hk : k < B.np) : Calls Tryz.prog 119 #[placeV g k X] w fun e w' => e = .returned (.bool (trDes B k && B.gb k 28 && !B.gb k 26)) ∧ Ext w w' := by
  obtain ⟨hX, hg, hne⟩ := h.lt
  have H := Lib.hid h
  obtain ⟨m, hm⟩ : ∃ m, trDes B k = m := ⟨_, rfl⟩
  rw [hm]
  have HM := Lib.hid hm
  clear hm
  obtain ⟨x28, e28⟩ : ∃ b, B.gb k 28 = b := ⟨_, rfl⟩
  rw [e28]
  have HE28 := Lib.hid e28
  clear e28
  obtain ⟨x26, e26⟩ : ∃ b, B.gb k 26 = b := ⟨_, rfl⟩
  rw [e26]
  have HE26 := Lib.hid e26
  clear e26
  unfold placeV
  go_enter Tryz.func119, Tryz.ntmps119
  go_wp2_with fail
  refine (tr_designatedMay _ F X g k B (H.out.ext ((Ext.refl w).alloc _)) ho hk).mono ?_
  rintro e w1 ⟨he, hx⟩
  rw [HM.out] at he
  obtain rfl : e = .returned (.bool m) := he
  have hP := (hx.block _ (by simp)).trans (heap_alloc_new w _)
  have c0 : w1.cell? ⟨w.heap.size, 0, none⟩ = some (.pointer (some ⟨g, k * 89, none⟩)) := (cell_of_row _ _ _ _ _ _ hP).trans rfl
  have hB1 := H.out.ext (((Ext.refl w).alloc _).trans hx)
  have HX := Lib.hid hx
  have p28 := (hB1.cellg (i := k * 89 + 28) (lt89 hk (by decide))).trans (ho.gb hk 28 rfl)
  rw [HE28.out] at p28
  have p26 := (hB1.cellg (i := k * 89 + 26) (lt89 hk (by decide))).trans (ho.gb hk 26 rfl)
  rw [HE26.out] at p26
  clear h hX hg hne hx hP hB1
  cases m <;> cases x28
  all_goals
    go_wp2_with fail
    go_ret
    exact ⟨by simp, ((Ext.refl w).alloc _).trans HX.out⟩
end Go.Proofs.YtpanapepcbbagaaGreat
namespace Go.Proofs.YtpanapepcbbagaaGreat
open Go.RowKit Go.BigFrame Go.WideShapes Go.ChangeShapes Go.Deep
set_option linter.unusedVariables false
set_option linter.unusedSimpArgs false
set_option maxRecDepth 100000
theorem tr_forwardDesignated (w : World) (F : Nat → Prop) (X g k : Nat) (B : Br) (h : BrG w F X g B) (ho : B.ok) (hk : k < B.np) (hF : ∀ n, F n → n < w.heap.size) : Calls Tryz.prog 120 #[placeV g k X] w fun e w' => e = .returned (.tuple #[]) ∧ BrG w' F X g ((trFwd B k).setp k 23 (.bool (B.gb k 45))) ∧ Mut F w w' := by
  obtain ⟨hX, hg, hne⟩ := h.lt
  have H := Lib.hid h
  have hnb : ¬ F w.heap.size := fun hh => by have := hF _ hh; omega
  have okz : Br.ok (trFwd B k) := (ho.setB hk 26 true rfl).setI (k := k) hk 7 .i64 0 rfl (by decide)
  have he45 : (trFwd B k).gb k 45 = B.gb k 45 := by unfold trFwd; rw [gb_setp_ne _ _ _ _ _ (by decide), gb_setp_ne _ _ _ _ _ (by decide)]
  have HE := Lib.hid he45
  clear h hF he45
  unfold placeV
  go_enter Tryz.func120, Tryz.ntmps120
  go_wp2_with fail
  refine (tr_forward _ F X g k _ (H.out.alloc _) ho hk).mono ?_
  rintro e w1 ⟨rfl, hb, hm⟩
  have hb : BrG w1 F X g (trFwd B k) := hb
  have HP := Lib.hid ((hm.heap (by simp) hnb).trans (heap_alloc_new w _))
  have HM1 := Lib.hid (((Mut.refl F w).alloc _).trans hm)
  have HB1 := Lib.hid hb
  clear hm hb
  go_wp2_with fail
  refine wp_region_tail 9 (by kernel_rfl) (by kernel_rfl) ?_
  intro y hy
  have hyx : Ext w1 y := by
    rw [hy]
    exact (Ext.refl _).drew
  clear hy
  have HY := Lib.hid (HB1.out.ext hyx)
  have HM := Lib.hid (HM1.out.trans (hyx.mut F))
  have e0 : y.cell? ⟨w.heap.size, 0, none⟩ = some (.pointer (some ⟨g, k * 89, none⟩)) := (cell_of_row _ _ _ _ _ _ ((hyx.block _ (heap_lt HP.out)).trans HP.out)).trans rfl
  have e45 := (HY.out.cellg (i := k * 89 + 45) (lt89 hk (by decide))).trans (Br.ok.gb okz (k := k) hk 45 rfl)
  rw [HE.out] at e45
  have e23 := (HY.out.cellg (i := k * 89 + 23) (lt89 hk (by decide))).trans (Br.ok.gb okz (k := k) hk 23 rfl)
  have efr := HY.out.frozen
  clear hyx
  simp only [List.take_succ_cons, List.take_zero, List.drop_succ_cons, List.drop_zero]
  repeat still_step
  refine wpStill_nil ?_
  go_wp2_with fail
  go_end0
  exact ⟨rfl, HY.out.setp (k := k) (j := 23) hk (by decide) _, HM.out.setCell (.inl HY.out.F2) _⟩
set_option maxRecDepth 100000 in
set_option maxHeartbeats 1000000 in
/-- Who isn't selected, or has something to update, waits. -/
theorem tr_idle (w : World) (F : Nat → Prop) (X g k : Nat) (B : Br) (h : BrG w F X g B) (ho : B.ok) (hk : k < B.np) (hk2 : k < 1000) (hi : ¬ (B.gb k 44 = true ∧ B.gb k 50 = false)) :
    Calls Tryz.prog 41 #[.pointer (some ⟨X, 0, none⟩), .int .i64 k] w (Stepped w F X g (false, B)) := by
  obtain ⟨hX, hg, hne⟩ := h.lt
  obtain ⟨cap, c17, hc1, hc2⟩ := h.cell17 ho
  have p44 := (h.cellg (i := k * 89 + 44) (lt89 hk (by decide))).trans (ho.gb hk 44 rfl)
  have p50 := (h.cellg (i := k * 89 + 50) (lt89 hk (by decide))).trans (ho.gb hk 50 rfl)
  have H := Lib.hid h
  clear h
  have hpl := fun W' : World => place_build (.pointer (some ⟨g, k * 89, none⟩)) (.pointer (some ⟨X, 0, none⟩)) k W' ⟨_, rfl⟩ ⟨_, rfl⟩
  cases h44 : B.gb k 44
  · rw [h44] at p44
    clear hi h44
    go_enter Tryz.func41, Tryz.ntmps41
    go_wp2_with fail
    refine scopeJ 0 (fun _ _ => False) (fun _ _ => 0) rfl (fun _ _ h => h.elim) (fun _ => ?_)
    go_wp2_with fail
    try rw [Exit.noGoto_ret]
    go_ret
    exact ⟨rfl, H.out.alloc _, (Mut.refl F w).alloc _⟩
  · cases h50 : B.gb k 50
    · exact absurd ⟨h44, h50⟩ hi
    · rw [h44] at p44
      rw [h50] at p50
      clear hi h44 h50
      go_enter Tryz.func41, Tryz.ntmps41
      go_wp2_with fail
      refine scopeJ 0 (fun _ _ => False) (fun _ _ => 0) rfl (fun _ _ h => h.elim) (fun _ => ?_)
      go_wp2_with fail
      try rw [Exit.noGoto_ret]
      go_ret
      exact ⟨rfl, H.out.alloc _, (Mut.refl F w).alloc _⟩
end Go.Proofs.YtpanapepcbbagaaGreat
namespace Go.Proofs.YtpanapepcbbagaaGreat
open Go.RowKit Go.BigFrame Go.WideShapes Go.ChangeShapes Go.Deep
set_option linter.unusedVariables false
set_option linter.unusedSimpArgs false
theorem pas_h1 (fl : List Value) (b : Bool) (w : World) (h : fl[6]? = some (.bool b)) : Calls Tryz.prog 121 #[.agg fl.toArray] w fun e w' => e = .returned (.bool b) ∧ Ext w w' := by
  go_enter Tryz.func121, Tryz.ntmps121
  go_wp2
  go_ret
  exact ⟨rfl, (Ext.refl w).alloc _⟩
theorem pas_h2 (fl : List Value) (b : Bool) (w : World) (h : fl[6]? = some (.bool b)) : Calls Tryz.prog 123 #[.agg fl.toArray] w fun e w' => e = .returned (.bool (!b)) ∧ Ext w w' := by
  go_enter Tryz.func123, Tryz.ntmps123
  go_wp2
  go_ret
  exact ⟨rfl, (Ext.refl w).alloc _⟩
theorem pas_h3 (fl : List Value) (b : Bool) (w : World) (h : fl[4]? = some (.bool b)) : Calls Tryz.prog 125 #[.agg fl.toArray] w fun e w' => e = .returned (.bool b) ∧ Ext w w' := by
  go_enter Tryz.func125, Tryz.ntmps125
  go_wp2
  go_ret
  exact ⟨rfl, (Ext.refl w).alloc _⟩
theorem pas_h4 (fl : List Value) (b : Bool) (w : World) (h : fl[4]? = some (.bool b)) : Calls Tryz.prog 127 #[.agg fl.toArray] w fun e w' => e = .returned (.bool (!b)) ∧ Ext w w' := by
  go_enter Tryz.func127, Tryz.ntmps127
  go_wp2
  go_ret
  exact ⟨rfl, (Ext.refl w).alloc _⟩
theorem pas_learn (g o : Nat) (u : Value) (w : World) (h7 : w.cell? ⟨g, o + 7, none⟩ = some u) (hf : ∀ j, w.frozen? ⟨g, j, none⟩ = false) :
    Calls Tryz.prog 122 #[.pointer (some ⟨g, o, none⟩)] w fun e w' => e = .returned (.tuple #[]) ∧ w' = w.setCell ⟨g, o + 7, none⟩ (.bool true) := by
  go_enter Tryz.func122, Tryz.ntmps122
  go_wp2
  go_end0
  exact ⟨rfl, rfl⟩
theorem pas_forward (g o : Nat) (u : Value) (w : World) (h5 : w.cell? ⟨g, o + 5, none⟩ = some u) (hf : ∀ j, w.frozen? ⟨g, j, none⟩ = false) :
    Calls Tryz.prog 126 #[.pointer (some ⟨g, o, none⟩)] w fun e w' => e = .returned (.tuple #[]) ∧ w' = w.setCell ⟨g, o + 5, none⟩ (.bool true) := by
  go_enter Tryz.func126, Tryz.ntmps126
  go_wp2
  go_end0
  exact ⟨rfl, rfl⟩
def pasRows : Array Value := #[.int .i64 0, .func (.func 121) #[] #[], .func (.func 122) #[] #[], .int .i64 1, .int .i64 1, .func (.func 123) #[] #[], .func (.func 124) #[] #[], .int .i64 0, .int .i64 1, .func (.func 125) #[] #[], .func (.func 126) #[] #[], .int .i64 2, .int .i64 2, .func (.func 127) #[] #[], .func (.func 124) #[] #[], .int .i64 0]
theorem size_prows : (Tryz.prog.info? 124).map (·.size) = some pasRows.size := by kernel_rfl
theorem size_prow : (Tryz.prog.info? 123).map (·.size) = some 4 := by kernel_rfl
theorem pas_rows (w : World) : Calls Tryz.prog 56 #[] w fun e w' => e = .returned (.agg pasRows) ∧ Ext w w' := by
  have hi := Lib.hid size_prows
  go_enter Tryz.func56, Tryz.ntmps56
  go_wp2_with (first | fail | ((with_reducible refine at_store 124 ?_); refine wpList_store_new2 rfl rfl 124 _ _ _ rfl _ pasRows _ rfl ?_ rfl hi.out rfl rfl ?_; · rfl))
  exact bodyPost_ret (results_cell_row rfl _ _ _ _ pasRows (0, 0) _ rfl (heap_alloc_new _ _) Tryz.underlying124 rfl hi.out) rfl ⟨rfl, (Ext.refl w).alloc _⟩
theorem pas_ix0 (w : World) : (Instr.index 124 (.agg pasRows) (.int .i64 0)).run Tryz.prog w = .ok (.agg #[.int .i64 0, .func (.func 121) #[] #[], .func (.func 122) #[] #[], .int .i64 1]) w := by kernel_rfl
theorem pas_ix1 (w : World) : (Instr.index 124 (.agg pasRows) (.int .i64 1)).run Tryz.prog w = .ok (.agg #[.int .i64 1, .func (.func 123) #[] #[], .func (.func 124) #[] #[], .int .i64 0]) w := by kernel_rfl
theorem pas_ix2 (w : World) : (Instr.index 124 (.agg pasRows) (.int .i64 2)).run Tryz.prog w = .ok (.agg #[.int .i64 1, .func (.func 125) #[] #[], .func (.func 126) #[] #[], .int .i64 2]) w := by kernel_rfl
theorem pas_ix3 (w : World) : (Instr.index 124 (.agg pasRows) (.int .i64 3)).run Tryz.prog w = .ok (.agg #[.int .i64 2, .func (.func 127) #[] #[], .func (.func 124) #[] #[], .int .i64 0]) w := by kernel_rfl
/-- A part of a row read where the world stands still, behind a guard. -/
theorem wpStill_load_midG {P : Program} {ops : Array Oper} {w : World} {Q : Act → Prop} {a : Act} {o : Oper} {rest : List Oper} (hw : Region.wanted o (yielded ops a.tmps) = true) (ty : TypeId) (x : Operand) (ho : o.op = .load ty x) (b off : Nat) (hx : a.eval x = .pointer (some ⟨b, off, none⟩))
    (cs : List Value) (d : TypeDesc) (hc : w.rangeAt b off cs) (hu : P.underlying ty = some d) (hd : d.isRow = true) (hi : (P.info? ty).map (·.size) = some cs.length)
    (h : wpStill P ops w Q rest (a.put o.dst (.agg cs.toArray))) : wpStill P ops w Q (o :: rest) a :=
  wpStill_step fun K hK => by
    rw [if_pos hw]
    unfold Oper.still execOp
    simp only [ho, hx, Instr.loadAt, Instr.sureAddr, Sem.run_bind, Sem.run_pure, Result.andThen_ok, run_loadVar_mid w b off ty cs d hc hu hd hi]
    exact ⟨rfl, hK _ h⟩
/-- A port's flags. -/
def flags (ps : List Value) (k : Nat) : List Value := (ps.drop (k * 89 + 22)).take 29
theorem flags_at {B : Br} {k j : Nat} (hj : j < 29) : (flags B.ps k)[j]? = B.ps[k * 89 + (22 + j)]? := by
  unfold flags
  rw [List.getElem?_take, if_pos hj, List.getElem?_drop, Nat.add_assoc]
theorem flags_range {w : World} {F : Nat → Prop} {X g : Nat} {B : Br} (h : BrG w F X g B) {k : Nat} (hk : k < B.np) : w.rangeAt g (k * 89 + 22) (flags B.ps k) := fun j v hv => by
  have hj : j < 29 := by
    have := (List.getElem?_eq_some_iff.1 hv).1
    simp [flags] at this; omega
  rw [Nat.add_assoc, h.cellg (lt89 hk (by omega)), ← flags_at hj]
  exact hv
theorem flags_len {B : Br} (ho : B.ok) {k : Nat} (hk : k < B.np) : (flags B.ps k).length = 29 := by
  have := len89 ho hk
  simp [flags]; omega
def pasLearn (B : Br) (k : Nat) : Br := (B.setp k 29 (.bool true)).setp k 20 (.int .i64 1)
def pasForward (B : Br) (k : Nat) : Br := (B.setp k 27 (.bool true)).setp k 20 (.int .i64 2)
end Go.Proofs.YtpanapepcbbagaaGreat
namespace Go.Proofs.YtpanapepcbbagaaGreat
open Go.RowKit Go.BigFrame Go.WideShapes Go.ChangeShapes Go.Deep
set_option linter.unusedVariables false
set_option linter.unusedSimpArgs false
set_option maxRecDepth 100000
set_option maxHeartbeats 1000000 in
theorem pas_s0a (w : World) (F : Nat → Prop) (X g k : Nat) (B : Br) (h : BrG w F X g B) (ho : B.ok) (hk : k < B.np) (hk2 : k < 1000) (s0 : B.gi k 20 = 0) (v0 : B.gb k 28 = true) :
    Calls Tryz.prog 42 #[.pointer (some ⟨X, 0, none⟩), .int .i64 k] w (Stepped w F X g (true, pasLearn B k)) := by
  obtain ⟨hX, hg, hne⟩ := h.lt
  obtain ⟨cap, c17, hc1, hc2⟩ := h.cell17 ho
  have P20 := Lib.hid ((h.cellg (i := k * 89 + 20) (lt89 hk (by decide))).trans (ho.gi hk 20 rfl))
  have P27 := Lib.hid ((h.cellg (i := k * 89 + 27) (lt89 hk (by decide))).trans (ho.gb hk 27 rfl))
  have P29 := Lib.hid ((h.cellg (i := k * 89 + 29) (lt89 hk (by decide))).trans (ho.gb hk 29 rfl))
  have f6 := Lib.hid ((flags_at (B := B) (k := k) (j := 6) (by decide)).trans (ho.gb hk 28 rfl))
  have f4 := Lib.hid ((flags_at (B := B) (k := k) (j := 4) (by decide)).trans (ho.gb hk 26 rfl))
  have hfi := Lib.hid (show (Tryz.prog.info? 58).map (·.size) = some (flags B.ps k).length by rw [flags_len ho hk]; exact size_flags)
  have H := Lib.hid h
  have V0 := Lib.hid v0
  clear h v0
  have S20 := Lib.hid s0
  clear s0
  have hi := Lib.hid size_prow
  have i0 := pas_ix0
  have i1 := pas_ix1
  have i2 := pas_ix2
  have i3 := pas_ix3
  go_enter Tryz.func42, Tryz.ntmps42
  go_wp2_with fail
  refine (pas_rows _).mono ?_
  rintro e w0 ⟨rfl, hx0⟩
  have hg0 := Nat.lt_of_lt_of_le hg hx0.size
  have hX0 := Nat.lt_of_lt_of_le hX hx0.size
  clear c17
  go_wp2_with fail
  refine wp_loop_rounds 5 ?_
  rw [rounds_succ]
  go_wp2_with (first | fail | ((with_reducible refine at_store 123 ?_); refine wpList_store_new2 rfl rfl 123 _ _ _ rfl _ #[.int .i64 0, .func (.func 121) #[] #[], .func (.func 122) #[] #[], .int .i64 1] _ rfl ?_ rfl hi.out rfl rfl ?_; · simp))
  refine wp_region_tail 15 (by kernel_rfl) (by kernel_rfl) ?_
  intro u1 hu1
  have hy1 : Ext w u1 := by
    rw [hu1]
    exact (hx0.alloc _).drew
  have b0_1 : u1.cell? ⟨w0.heap.size, 0, none⟩ = some (.int .i64 0) := by
    rw [hu1, World.cell?_drew]
    exact World.cell?_alloc_at _ _ _ _ rfl
  have b1_1 : u1.cell? ⟨w0.heap.size, 1, none⟩ = some (.func (.func 121) #[] #[]) := by
    rw [hu1, World.cell?_drew]
    exact World.cell?_alloc_at _ _ _ _ rfl
  have b2_1 : u1.cell? ⟨w0.heap.size, 2, none⟩ = some (.func (.func 122) #[] #[]) := by
    rw [hu1, World.cell?_drew]
    exact World.cell?_alloc_at _ _ _ _ rfl
  have b3_1 : u1.cell? ⟨w0.heap.size, 3, none⟩ = some (.int .i64 1) := by
    rw [hu1, World.cell?_drew]
    exact World.cell?_alloc_at _ _ _ _ rfl
  have hz1 : w0.heap.size < u1.heap.size := by rw [hu1]; simp
  have hgn1 : g ≠ w0.heap.size := Nat.ne_of_lt hg0
  clear hu1
  have q20 := (hy1.cell (p := ⟨g, k * 89 + 20, none⟩) hg).trans P20.out
  rw [S20.out] at q20
  have hr1 := Lib.hid (flags_range (H.out.ext hy1) hk)
  simp only [List.take_succ_cons, List.take_zero, List.drop_succ_cons, List.drop_zero]
  iterate 14 still_step
  refine wpStill_load_midG rfl 58 _ rfl g (k * 89 + 22) rfl (flags B.ps k) _ hr1.out Tryz.underlying58 rfl hfi.out ?_
  simp only [Act.put, List.setIfInBounds_toArray, List.set_cons_succ, List.set_cons_zero]
  refine wpStill_nil ?_
  go_wp2_with fail
  refine (pas_h1 _ _ _ f6.out).mono ?_
  rw [V0.out]
  rintro e w1 ⟨rfl, hxx1⟩
  have hx1 := hy1.trans hxx1
  have d2 := (hxx1.cell (p := ⟨w0.heap.size, 2, none⟩) hz1).trans b2_1
  have d3 := (hxx1.cell (p := ⟨w0.heap.size, 3, none⟩) hz1).trans b3_1
  clear b0_1 b1_1 q20 hxx1 b2_1 b3_1
  have hg1 := Nat.lt_of_lt_of_le hg hx1.size
  have hX1 := Nat.lt_of_lt_of_le hX hx1.size
  go_wp2_with fail
  refine wp_region_tail 5 (by kernel_rfl) (by kernel_rfl) ?_
  intro w9 hw9
  have hx9 : Ext w w9 := by
    rw [hw9]
    exact hx1.drew
  have e2 : w9.cell? ⟨w0.heap.size, 2, none⟩ = some _ := (show w9.cell? _ = w1.cell? _ by rw [hw9, World.cell?_drew]).trans d2
  have e3 : w9.cell? ⟨w0.heap.size, 3, none⟩ = some _ := (show w9.cell? _ = w1.cell? _ by rw [hw9, World.cell?_drew]).trans d3
  clear hw9 d2 d3
  have p20 := (hx9.cell (p := ⟨g, k * 89 + 20, none⟩) hg).trans P20.out
  have p27 := (hx9.cell (p := ⟨g, k * 89 + 27, none⟩) hg).trans P27.out
  have p29 := (hx9.cell (p := ⟨g, k * 89 + 29, none⟩) hg).trans P29.out
  have hf9 : ∀ j, w9.frozen? ⟨g, j, none⟩ = false := fun j => (H.out.ext hx9).frozen j
  simp only [List.take_succ_cons, List.take_zero, List.drop_succ_cons, List.drop_zero]
  repeat still_step
  refine wpStill_nil ?_
  go_wp2_with fail
  refine (pas_learn g (k * 89 + 22) _ w9 p29 hf9).mono ?_
  rintro e w3 ⟨rfl, rfl⟩
  go_wp2_with fail
  go_ret
  exact ⟨rfl, (((H.out.ext hx9).setp (j := 29) hk (by decide) _).setp (j := 20) hk (by decide) _), (((hx9.mut F).setCell (.inl H.out.F2) _).setCell (.inl H.out.F2) _)⟩
set_option maxHeartbeats 1000000 in
theorem pas_s0b (w : World) (F : Nat → Prop) (X g k : Nat) (B : Br) (h : BrG w F X g B) (ho : B.ok) (hk : k < B.np) (hk2 : k < 1000) (s0 : B.gi k 20 = 0) (v0 : B.gb k 28 = false) :
    Calls Tryz.prog 42 #[.pointer (some ⟨X, 0, none⟩), .int .i64 k] w (Stepped w F X g (false, B)) := by
  obtain ⟨hX, hg, hne⟩ := h.lt
  obtain ⟨cap, c17, hc1, hc2⟩ := h.cell17 ho
  have P20 := Lib.hid ((h.cellg (i := k * 89 + 20) (lt89 hk (by decide))).trans (ho.gi hk 20 rfl))
  have P27 := Lib.hid ((h.cellg (i := k * 89 + 27) (lt89 hk (by decide))).trans (ho.gb hk 27 rfl))
  have P29 := Lib.hid ((h.cellg (i := k * 89 + 29) (lt89 hk (by decide))).trans (ho.gb hk 29 rfl))
  have f6 := Lib.hid ((flags_at (B := B) (k := k) (j := 6) (by decide)).trans (ho.gb hk 28 rfl))
  have f4 := Lib.hid ((flags_at (B := B) (k := k) (j := 4) (by decide)).trans (ho.gb hk 26 rfl))
  have hfi := Lib.hid (show (Tryz.prog.info? 58).map (·.size) = some (flags B.ps k).length by rw [flags_len ho hk]; exact size_flags)
  have H := Lib.hid h
  have V0 := Lib.hid v0
  clear h v0
  have S20 := Lib.hid s0
  clear s0
  have hi := Lib.hid size_prow
  have i0 := pas_ix0
  have i1 := pas_ix1
  have i2 := pas_ix2
  have i3 := pas_ix3
  go_enter Tryz.func42, Tryz.ntmps42
  go_wp2_with fail
  refine (pas_rows _).mono ?_
  rintro e w0 ⟨rfl, hx0⟩
  have hg0 := Nat.lt_of_lt_of_le hg hx0.size
  have hX0 := Nat.lt_of_lt_of_le hX hx0.size
  clear c17
  go_wp2_with fail
  refine wp_loop_rounds 5 ?_
  rw [rounds_succ]
  go_wp2_with (first | fail | ((with_reducible refine at_store 123 ?_); refine wpList_store_new2 rfl rfl 123 _ _ _ rfl _ #[.int .i64 0, .func (.func 121) #[] #[], .func (.func 122) #[] #[], .int .i64 1] _ rfl ?_ rfl hi.out rfl rfl ?_; · simp))
  refine wp_region_tail 15 (by kernel_rfl) (by kernel_rfl) ?_
  intro u1 hu1
  have hy1 : Ext w u1 := by
    rw [hu1]
    exact (hx0.alloc _).drew
  have b0_1 : u1.cell? ⟨w0.heap.size, 0, none⟩ = some (.int .i64 0) := by
    rw [hu1, World.cell?_drew]
    exact World.cell?_alloc_at _ _ _ _ rfl
  have b1_1 : u1.cell? ⟨w0.heap.size, 1, none⟩ = some (.func (.func 121) #[] #[]) := by
    rw [hu1, World.cell?_drew]
    exact World.cell?_alloc_at _ _ _ _ rfl
  have hz1 : w0.heap.size < u1.heap.size := by rw [hu1]; simp
  have hgn1 : g ≠ w0.heap.size := Nat.ne_of_lt hg0
  clear hu1
  have q20 := (hy1.cell (p := ⟨g, k * 89 + 20, none⟩) hg).trans P20.out
  rw [S20.out] at q20
  have hr1 := Lib.hid (flags_range (H.out.ext hy1) hk)
  simp only [List.take_succ_cons, List.take_zero, List.drop_succ_cons, List.drop_zero]
  iterate 14 still_step
  refine wpStill_load_midG rfl 58 _ rfl g (k * 89 + 22) rfl (flags B.ps k) _ hr1.out Tryz.underlying58 rfl hfi.out ?_
  simp only [Act.put, List.setIfInBounds_toArray, List.set_cons_succ, List.set_cons_zero]
  refine wpStill_nil ?_
  go_wp2_with fail
  refine (pas_h1 _ _ _ f6.out).mono ?_
  rw [V0.out]
  rintro e w1 ⟨rfl, hxx1⟩
  have hx1 := hy1.trans hxx1
  clear b0_1 b1_1 q20 hxx1 
  have hg1 := Nat.lt_of_lt_of_le hg hx1.size
  have hX1 := Nat.lt_of_lt_of_le hX hx1.size
  go_wp2_with fail
  rw [rounds_succ]
  go_wp2_with (first | fail | ((with_reducible refine at_store 123 ?_); refine wpList_store_new2 rfl rfl 123 _ _ _ rfl _ #[.int .i64 1, .func (.func 123) #[] #[], .func (.func 124) #[] #[], .int .i64 0] _ rfl ?_ rfl hi.out rfl rfl ?_; · simp))
  have q20 := (hx1.cell (p := ⟨g, k * 89 + 20, none⟩) hg).trans P20.out
  rw [S20.out] at q20
  go_quiet (fail)
  have hy : Ext w (World.drewN (w1.alloc (.cells #[.int .i64 1, .func (.func 123) #[] #[], .func (.func 124) #[] #[], .int .i64 0] 123)) nq) := (hx1.alloc _).drewN _
  go_wp2_with fail
  generalize World.drewN _ nq = w2 at hy ⊢
  have hx2 := hy
  clear q20 hg1 hX1 hy
  have hg2 := Nat.lt_of_lt_of_le hg hx2.size
  have hX2 := Nat.lt_of_lt_of_le hX hx2.size
  rw [rounds_succ]
  go_wp2_with (first | fail | ((with_reducible refine at_store 123 ?_); refine wpList_store_new2 rfl rfl 123 _ _ _ rfl _ #[.int .i64 1, .func (.func 125) #[] #[], .func (.func 126) #[] #[], .int .i64 2] _ rfl ?_ rfl hi.out rfl rfl ?_; · simp))
  have q20 := (hx2.cell (p := ⟨g, k * 89 + 20, none⟩) hg).trans P20.out
  rw [S20.out] at q20
  go_quiet (fail)
  have hy : Ext w (World.drewN (w2.alloc (.cells #[.int .i64 1, .func (.func 125) #[] #[], .func (.func 126) #[] #[], .int .i64 2] 123)) nq) := (hx2.alloc _).drewN _
  go_wp2_with fail
  generalize World.drewN _ nq = w3 at hy ⊢
  have hx3 := hy
  clear q20 hg2 hX2 hy
  have hg3 := Nat.lt_of_lt_of_le hg hx3.size
  have hX3 := Nat.lt_of_lt_of_le hX hx3.size
  rw [rounds_succ]
  go_wp2_with (first | fail | ((with_reducible refine at_store 123 ?_); refine wpList_store_new2 rfl rfl 123 _ _ _ rfl _ #[.int .i64 2, .func (.func 127) #[] #[], .func (.func 124) #[] #[], .int .i64 0] _ rfl ?_ rfl hi.out rfl rfl ?_; · simp))
  have q20 := (hx3.cell (p := ⟨g, k * 89 + 20, none⟩) hg).trans P20.out
  rw [S20.out] at q20
  go_quiet (fail)
  have hy : Ext w (World.drewN (w3.alloc (.cells #[.int .i64 2, .func (.func 127) #[] #[], .func (.func 124) #[] #[], .int .i64 0] 123)) nq) := (hx3.alloc _).drewN _
  go_wp2_with fail
  generalize World.drewN _ nq = w4 at hy ⊢
  have hx4 := hy
  clear q20 hg3 hX3 hy
  have hg4 := Nat.lt_of_lt_of_le hg hx4.size
  have hX4 := Nat.lt_of_lt_of_le hX hx4.size
  rw [rounds_succ]
  go_wp2_with fail
  go_ret
  exact ⟨rfl, H.out.ext hx4, hx4.mut F⟩
set_option maxHeartbeats 1000000 in
theorem pas_s1b (w : World) (F : Nat → Prop) (X g k : Nat) (B : Br) (h : BrG w F X g B) (ho : B.ok) (hk : k < B.np) (hk2 : k < 1000) (s0 : B.gi k 20 = 1) (v0 : B.gb k 28 = true) (v1 : B.gb k 26 = true) :
    Calls Tryz.prog 42 #[.pointer (some ⟨X, 0, none⟩), .int .i64 k] w (Stepped w F X g (true, pasForward B k)) := by
  obtain ⟨hX, hg, hne⟩ := h.lt
  obtain ⟨cap, c17, hc1, hc2⟩ := h.cell17 ho
  have P20 := Lib.hid ((h.cellg (i := k * 89 + 20) (lt89 hk (by decide))).trans (ho.gi hk 20 rfl))
  have P27 := Lib.hid ((h.cellg (i := k * 89 + 27) (lt89 hk (by decide))).trans (ho.gb hk 27 rfl))
  have P29 := Lib.hid ((h.cellg (i := k * 89 + 29) (lt89 hk (by decide))).trans (ho.gb hk 29 rfl))
  have f6 := Lib.hid ((flags_at (B := B) (k := k) (j := 6) (by decide)).trans (ho.gb hk 28 rfl))
  have f4 := Lib.hid ((flags_at (B := B) (k := k) (j := 4) (by decide)).trans (ho.gb hk 26 rfl))
  have hfi := Lib.hid (show (Tryz.prog.info? 58).map (·.size) = some (flags B.ps k).length by rw [flags_len ho hk]; exact size_flags)
  have H := Lib.hid h
  have V0 := Lib.hid v0
  have V1 := Lib.hid v1
  clear h v0 v1
  have S20 := Lib.hid s0
  clear s0
  have hi := Lib.hid size_prow
  have i0 := pas_ix0
  have i1 := pas_ix1
  have i2 := pas_ix2
  have i3 := pas_ix3
  go_enter Tryz.func42, Tryz.ntmps42
  go_wp2_with fail
  refine (pas_rows _).mono ?_
  rintro e w0 ⟨rfl, hx0⟩
  have hg0 := Nat.lt_of_lt_of_le hg hx0.size
  have hX0 := Nat.lt_of_lt_of_le hX hx0.size
  clear c17
  go_wp2_with fail
  refine wp_loop_rounds 5 ?_
  rw [rounds_succ]
  go_wp2_with (first | fail | ((with_reducible refine at_store 123 ?_); refine wpList_store_new2 rfl rfl 123 _ _ _ rfl _ #[.int .i64 0, .func (.func 121) #[] #[], .func (.func 122) #[] #[], .int .i64 1] _ rfl ?_ rfl hi.out rfl rfl ?_; · simp))
  have q20 := (hx0.cell (p := ⟨g, k * 89 + 20, none⟩) hg).trans P20.out
  rw [S20.out] at q20
  go_quiet (fail)
  have hy : Ext w (World.drewN (w0.alloc (.cells #[.int .i64 0, .func (.func 121) #[] #[], .func (.func 122) #[] #[], .int .i64 1] 123)) nq) := (hx0.alloc _).drewN _
  go_wp2_with fail
  generalize World.drewN _ nq = w1 at hy ⊢
  have hx1 := hy
  clear q20 hg0 hX0 hy
  have hg1 := Nat.lt_of_lt_of_le hg hx1.size
  have hX1 := Nat.lt_of_lt_of_le hX hx1.size
  rw [rounds_succ]
  go_wp2_with (first | fail | ((with_reducible refine at_store 123 ?_); refine wpList_store_new2 rfl rfl 123 _ _ _ rfl _ #[.int .i64 1, .func (.func 123) #[] #[], .func (.func 124) #[] #[], .int .i64 0] _ rfl ?_ rfl hi.out rfl rfl ?_; · simp))
  refine wp_region_tail 15 (by kernel_rfl) (by kernel_rfl) ?_
  intro u2 hu2
  have hy2 : Ext w u2 := by
    rw [hu2]
    exact (hx1.alloc _).drew
  have b0_2 : u2.cell? ⟨w1.heap.size, 0, none⟩ = some (.int .i64 1) := by
    rw [hu2, World.cell?_drew]
    exact World.cell?_alloc_at _ _ _ _ rfl
  have b1_2 : u2.cell? ⟨w1.heap.size, 1, none⟩ = some (.func (.func 123) #[] #[]) := by
    rw [hu2, World.cell?_drew]
    exact World.cell?_alloc_at _ _ _ _ rfl
  have hz2 : w1.heap.size < u2.heap.size := by rw [hu2]; simp
  have hgn2 : g ≠ w1.heap.size := Nat.ne_of_lt hg1
  clear hu2
  have q20 := (hy2.cell (p := ⟨g, k * 89 + 20, none⟩) hg).trans P20.out
  rw [S20.out] at q20
  have hr2 := Lib.hid (flags_range (H.out.ext hy2) hk)
  simp only [List.take_succ_cons, List.take_zero, List.drop_succ_cons, List.drop_zero]
  iterate 14 still_step
  refine wpStill_load_midG rfl 58 _ rfl g (k * 89 + 22) rfl (flags B.ps k) _ hr2.out Tryz.underlying58 rfl hfi.out ?_
  simp only [Act.put, List.setIfInBounds_toArray, List.set_cons_succ, List.set_cons_zero]
  refine wpStill_nil ?_
  go_wp2_with fail
  refine (pas_h2 _ _ _ f6.out).mono ?_
  rw [V0.out]
  rintro e w2 ⟨rfl, hxx2⟩
  have hx2 := hy2.trans hxx2
  clear b0_2 b1_2 q20 hxx2 
  have hg2 := Nat.lt_of_lt_of_le hg hx2.size
  have hX2 := Nat.lt_of_lt_of_le hX hx2.size
  go_wp2_with fail
  rw [rounds_succ]
  go_wp2_with (first | fail | ((with_reducible refine at_store 123 ?_); refine wpList_store_new2 rfl rfl 123 _ _ _ rfl _ #[.int .i64 1, .func (.func 125) #[] #[], .func (.func 126) #[] #[], .int .i64 2] _ rfl ?_ rfl hi.out rfl rfl ?_; · simp))
  refine wp_region_tail 15 (by kernel_rfl) (by kernel_rfl) ?_
  intro u3 hu3
  have hy3 : Ext w u3 := by
    rw [hu3]
    exact (hx2.alloc _).drew
  have b0_3 : u3.cell? ⟨w2.heap.size, 0, none⟩ = some (.int .i64 1) := by
    rw [hu3, World.cell?_drew]
    exact World.cell?_alloc_at _ _ _ _ rfl
  have b1_3 : u3.cell? ⟨w2.heap.size, 1, none⟩ = some (.func (.func 125) #[] #[]) := by
    rw [hu3, World.cell?_drew]
    exact World.cell?_alloc_at _ _ _ _ rfl
  have b2_3 : u3.cell? ⟨w2.heap.size, 2, none⟩ = some (.func (.func 126) #[] #[]) := by
    rw [hu3, World.cell?_drew]
    exact World.cell?_alloc_at _ _ _ _ rfl
  have b3_3 : u3.cell? ⟨w2.heap.size, 3, none⟩ = some (.int .i64 2) := by
    rw [hu3, World.cell?_drew]
    exact World.cell?_alloc_at _ _ _ _ rfl
  have hz3 : w2.heap.size < u3.heap.size := by rw [hu3]; simp
  have hgn3 : g ≠ w2.heap.size := Nat.ne_of_lt hg2
  clear hu3
  have q20 := (hy3.cell (p := ⟨g, k * 89 + 20, none⟩) hg).trans P20.out
  rw [S20.out] at q20
  have hr3 := Lib.hid (flags_range (H.out.ext hy3) hk)
  simp only [List.take_succ_cons, List.take_zero, List.drop_succ_cons, List.drop_zero]
  iterate 14 still_step
  refine wpStill_load_midG rfl 58 _ rfl g (k * 89 + 22) rfl (flags B.ps k) _ hr3.out Tryz.underlying58 rfl hfi.out ?_
  simp only [Act.put, List.setIfInBounds_toArray, List.set_cons_succ, List.set_cons_zero]
  refine wpStill_nil ?_
  go_wp2_with fail
  refine (pas_h3 _ _ _ f4.out).mono ?_
  rw [V1.out]
  rintro e w3 ⟨rfl, hxx3⟩
  have hx3 := hy3.trans hxx3
  have d2 := (hxx3.cell (p := ⟨w2.heap.size, 2, none⟩) hz3).trans b2_3
  have d3 := (hxx3.cell (p := ⟨w2.heap.size, 3, none⟩) hz3).trans b3_3
  clear b0_3 b1_3 q20 hxx3 b2_3 b3_3
  have hg3 := Nat.lt_of_lt_of_le hg hx3.size
  have hX3 := Nat.lt_of_lt_of_le hX hx3.size
  go_wp2_with fail
  refine wp_region_tail 5 (by kernel_rfl) (by kernel_rfl) ?_
  intro w9 hw9
  have hx9 : Ext w w9 := by
    rw [hw9]
    exact hx3.drew
  have e2 : w9.cell? ⟨w2.heap.size, 2, none⟩ = some _ := (show w9.cell? _ = w3.cell? _ by rw [hw9, World.cell?_drew]).trans d2
  have e3 : w9.cell? ⟨w2.heap.size, 3, none⟩ = some _ := (show w9.cell? _ = w3.cell? _ by rw [hw9, World.cell?_drew]).trans d3
  clear hw9 d2 d3
  have p20 := (hx9.cell (p := ⟨g, k * 89 + 20, none⟩) hg).trans P20.out
  have p27 := (hx9.cell (p := ⟨g, k * 89 + 27, none⟩) hg).trans P27.out
  have p29 := (hx9.cell (p := ⟨g, k * 89 + 29, none⟩) hg).trans P29.out
  have hf9 : ∀ j, w9.frozen? ⟨g, j, none⟩ = false := fun j => (H.out.ext hx9).frozen j
  simp only [List.take_succ_cons, List.take_zero, List.drop_succ_cons, List.drop_zero]
  repeat still_step
  refine wpStill_nil ?_
  go_wp2_with fail
  refine (pas_forward g (k * 89 + 22) _ w9 p27 hf9).mono ?_
  rintro e w3 ⟨rfl, rfl⟩
  go_wp2_with fail
  go_ret
  exact ⟨rfl, (((H.out.ext hx9).setp (j := 27) hk (by decide) _).setp (j := 20) hk (by decide) _), (((hx9.mut F).setCell (.inl H.out.F2) _).setCell (.inl H.out.F2) _)⟩
set_option maxHeartbeats 1000000 in
theorem pas_s2b (w : World) (F : Nat → Prop) (X g k : Nat) (B : Br) (h : BrG w F X g B) (ho : B.ok) (hk : k < B.np) (hk2 : k < 1000) (s0 : B.gi k 20 = 2) (v0 : B.gb k 26 = true) :
    Calls Tryz.prog 42 #[.pointer (some ⟨X, 0, none⟩), .int .i64 k] w (Stepped w F X g (false, B)) := by
  obtain ⟨hX, hg, hne⟩ := h.lt
  obtain ⟨cap, c17, hc1, hc2⟩ := h.cell17 ho
  have P20 := Lib.hid ((h.cellg (i := k * 89 + 20) (lt89 hk (by decide))).trans (ho.gi hk 20 rfl))
  have P27 := Lib.hid ((h.cellg (i := k * 89 + 27) (lt89 hk (by decide))).trans (ho.gb hk 27 rfl))
  have P29 := Lib.hid ((h.cellg (i := k * 89 + 29) (lt89 hk (by decide))).trans (ho.gb hk 29 rfl))
  have f6 := Lib.hid ((flags_at (B := B) (k := k) (j := 6) (by decide)).trans (ho.gb hk 28 rfl))
  have f4 := Lib.hid ((flags_at (B := B) (k := k) (j := 4) (by decide)).trans (ho.gb hk 26 rfl))
  have hfi := Lib.hid (show (Tryz.prog.info? 58).map (·.size) = some (flags B.ps k).length by rw [flags_len ho hk]; exact size_flags)
  have H := Lib.hid h
  have V0 := Lib.hid v0
  clear h v0
  have S20 := Lib.hid s0
  clear s0
  have hi := Lib.hid size_prow
  have i0 := pas_ix0
  have i1 := pas_ix1
  have i2 := pas_ix2
  have i3 := pas_ix3
  go_enter Tryz.func42, Tryz.ntmps42
  go_wp2_with fail
  refine (pas_rows _).mono ?_
  rintro e w0 ⟨rfl, hx0⟩
  have hg0 := Nat.lt_of_lt_of_le hg hx0.size
  have hX0 := Nat.lt_of_lt_of_le hX hx0.size
  clear c17
  go_wp2_with fail
  refine wp_loop_rounds 5 ?_
  rw [rounds_succ]
  go_wp2_with (first | fail | ((with_reducible refine at_store 123 ?_); refine wpList_store_new2 rfl rfl 123 _ _ _ rfl _ #[.int .i64 0, .func (.func 121) #[] #[], .func (.func 122) #[] #[], .int .i64 1] _ rfl ?_ rfl hi.out rfl rfl ?_; · simp))
  have q20 := (hx0.cell (p := ⟨g, k * 89 + 20, none⟩) hg).trans P20.out
  rw [S20.out] at q20
  go_quiet (fail)
  have hy : Ext w (World.drewN (w0.alloc (.cells #[.int .i64 0, .func (.func 121) #[] #[], .func (.func 122) #[] #[], .int .i64 1] 123)) nq) := (hx0.alloc _).drewN _
  go_wp2_with fail
  generalize World.drewN _ nq = w1 at hy ⊢
  have hx1 := hy
  clear q20 hg0 hX0 hy
  have hg1 := Nat.lt_of_lt_of_le hg hx1.size
  have hX1 := Nat.lt_of_lt_of_le hX hx1.size
  rw [rounds_succ]
  go_wp2_with (first | fail | ((with_reducible refine at_store 123 ?_); refine wpList_store_new2 rfl rfl 123 _ _ _ rfl _ #[.int .i64 1, .func (.func 123) #[] #[], .func (.func 124) #[] #[], .int .i64 0] _ rfl ?_ rfl hi.out rfl rfl ?_; · simp))
  have q20 := (hx1.cell (p := ⟨g, k * 89 + 20, none⟩) hg).trans P20.out
  rw [S20.out] at q20
  go_quiet (fail)
  have hy : Ext w (World.drewN (w1.alloc (.cells #[.int .i64 1, .func (.func 123) #[] #[], .func (.func 124) #[] #[], .int .i64 0] 123)) nq) := (hx1.alloc _).drewN _
  go_wp2_with fail
  generalize World.drewN _ nq = w2 at hy ⊢
  have hx2 := hy
  clear q20 hg1 hX1 hy
  have hg2 := Nat.lt_of_lt_of_le hg hx2.size
  have hX2 := Nat.lt_of_lt_of_le hX hx2.size
  rw [rounds_succ]
  go_wp2_with (first | fail | ((with_reducible refine at_store 123 ?_); refine wpList_store_new2 rfl rfl 123 _ _ _ rfl _ #[.int .i64 1, .func (.func 125) #[] #[], .func (.func 126) #[] #[], .int .i64 2] _ rfl ?_ rfl hi.out rfl rfl ?_; · simp))
  have q20 := (hx2.cell (p := ⟨g, k * 89 + 20, none⟩) hg).trans P20.out
  rw [S20.out] at q20
  go_quiet (fail)
  have hy : Ext w (World.drewN (w2.alloc (.cells #[.int .i64 1, .func (.func 125) #[] #[], .func (.func 126) #[] #[], .int .i64 2] 123)) nq) := (hx2.alloc _).drewN _
  go_wp2_with fail
  generalize World.drewN _ nq = w3 at hy ⊢
  have hx3 := hy
  clear q20 hg2 hX2 hy
  have hg3 := Nat.lt_of_lt_of_le hg hx3.size
  have hX3 := Nat.lt_of_lt_of_le hX hx3.size
  rw [rounds_succ]
  go_wp2_with (first | fail | ((with_reducible refine at_store 123 ?_); refine wpList_store_new2 rfl rfl 123 _ _ _ rfl _ #[.int .i64 2, .func (.func 127) #[] #[], .func (.func 124) #[] #[], .int .i64 0] _ rfl ?_ rfl hi.out rfl rfl ?_; · simp))
  refine wp_region_tail 15 (by kernel_rfl) (by kernel_rfl) ?_
  intro u4 hu4
  have hy4 : Ext w u4 := by
    rw [hu4]
    exact (hx3.alloc _).drew
  have b0_4 : u4.cell? ⟨w3.heap.size, 0, none⟩ = some (.int .i64 2) := by
    rw [hu4, World.cell?_drew]
    exact World.cell?_alloc_at _ _ _ _ rfl
  have b1_4 : u4.cell? ⟨w3.heap.size, 1, none⟩ = some (.func (.func 127) #[] #[]) := by
    rw [hu4, World.cell?_drew]
    exact World.cell?_alloc_at _ _ _ _ rfl
  have hz4 : w3.heap.size < u4.heap.size := by rw [hu4]; simp
  have hgn4 : g ≠ w3.heap.size := Nat.ne_of_lt hg3
  clear hu4
  have q20 := (hy4.cell (p := ⟨g, k * 89 + 20, none⟩) hg).trans P20.out
  rw [S20.out] at q20
  have hr4 := Lib.hid (flags_range (H.out.ext hy4) hk)
  simp only [List.take_succ_cons, List.take_zero, List.drop_succ_cons, List.drop_zero]
  iterate 14 still_step
  refine wpStill_load_midG rfl 58 _ rfl g (k * 89 + 22) rfl (flags B.ps k) _ hr4.out Tryz.underlying58 rfl hfi.out ?_
  simp only [Act.put, List.setIfInBounds_toArray, List.set_cons_succ, List.set_cons_zero]
  refine wpStill_nil ?_
  go_wp2_with fail
  refine (pas_h4 _ _ _ f4.out).mono ?_
  rw [V0.out]
  rintro e w4 ⟨rfl, hxx4⟩
  have hx4 := hy4.trans hxx4
  clear b0_4 b1_4 q20 hxx4 
  have hg4 := Nat.lt_of_lt_of_le hg hx4.size
  have hX4 := Nat.lt_of_lt_of_le hX hx4.size
  go_wp2_with fail
  rw [rounds_succ]
  go_wp2_with fail
  go_ret
  exact ⟨rfl, H.out.ext hx4, hx4.mut F⟩
end Go.Proofs.YtpanapepcbbagaaGreat
namespace Go.Proofs.YtpanapepcbbagaaGreat
open Go.RowKit Go.BigFrame Go.WideShapes Go.ChangeShapes Go.Deep
set_option linter.unusedVariables false
set_option linter.unusedSimpArgs false
theorem top_counts (g o : Nat) (ta tm th td : Int) (b1 b2 : Nat) (r : Int) (w : World) (hg : g < w.heap.size) (h87 : w.cell? ⟨g, o + 87, none⟩ = some (.int .i64 r)) :
    Calls Tryz.prog 154 #[.agg #[.pointer (some ⟨g, o, none⟩), .int .i64 ta, .int .i64 tm, .int .i64 th, .int .i64 td, .func (.func 128) #[] #[.pointer (some ⟨b1, 0, none⟩), .pointer (some ⟨b2, 0, none⟩)]]] w fun e w' => e = .returned (.bool ((r == 3) || (r == 4))) ∧ Ext w w' := by
  by_cases h3 : r = 3
  · subst h3
    go_enter Tryz.func154, Tryz.ntmps154
    go_wp2
    go_ret
    exact ⟨rfl, (Ext.refl w).alloc _⟩
  · have hb : (r == 3) = false := by simpa using h3
    go_enter Tryz.func154, Tryz.ntmps154
    go_wp2
    go_ret
    exact ⟨retB (by rw [hb]; rfl), (Ext.refl w).alloc _⟩
end Go.Proofs.YtpanapepcbbagaaGreat
namespace Go.Proofs.YtpanapepcbbagaaGreat
open Go.RowKit Go.BigFrame Go.WideShapes Go.ChangeShapes Go.Deep
set_option linter.unusedVariables false
set_option linter.unusedSimpArgs false
def tforget (B : Br) (k : Nat) : Br := (((((B.setp k 39 (.bool false)).setp k 41 (.bool false)).setp k 40 (.bool false)).setp k 49 (.bool false)).setp k 21 (.int .i64 1))
set_option maxRecDepth 100000 in
set_option maxHeartbeats 1000000 in
theorem top_forget (w : World) (F : Nat → Prop) (X g k : Nat) (B : Br) (h : BrG w F X g B) (ho : B.ok) (hk : k < B.np) (hn : B.np < 1000) (hT : TR (B.hi 2) (B.hi 3) (B.hi 4) (B.hi 5)) (hF : ∀ n, F n → n < w.heap.size) (b1 b2 : Nat) : Calls Tryz.prog 129 #[.agg #[.pointer (some ⟨g, k * 89, none⟩), .int .i64 (B.hi 2), .int .i64 (B.hi 3), .int .i64 (B.hi 4), .int .i64 (B.hi 5), .func (.func 128) #[] #[.pointer (some ⟨b1, 0, none⟩), .pointer (some ⟨b2, 0, none⟩)]]] w fun e w' => e = .returned (.tuple #[]) ∧ BrG w' F X g (tforget B k) ∧ Mut F w w' := by
  obtain ⟨hX, hg, hne⟩ := h.lt
  unfold TR at hT
  have p39 := (h.cellg (i := k * 89 + 39) (lt89 hk (by decide))).trans (ho.gb hk 39 rfl)
  have p41 := (h.cellg (i := k * 89 + 41) (lt89 hk (by decide))).trans (ho.gb hk 41 rfl)
  have p40 := (h.cellg (i := k * 89 + 40) (lt89 hk (by decide))).trans (ho.gb hk 40 rfl)
  have p49 := (h.cellg (i := k * 89 + 49) (lt89 hk (by decide))).trans (ho.gb hk 49 rfl)
  have p21 := (h.cellg (i := k * 89 + 21) (lt89 hk (by decide))).trans (ho.gi hk 21 rfl)
  have hf := h.frozen
  have H := Lib.hid h
  have HF := Lib.hid hF
  clear h hF
  go_enter Tryz.func129, Tryz.ntmps129
  go_wp2
  go_end0
  exact ⟨rfl, (((((H.out.setp (k := k) (j := 39) hk (by decide) (.bool false)).setp (k := k) (j := 41) hk (by decide) (.bool false)).setp (k := k) (j := 40) hk (by decide) (.bool false)).setp (k := k) (j := 49) hk (by decide) (.bool false)).setp (k := k) (j := 21) hk (by decide) (.int .i64 1)).alloc _, ((((((Mut.refl F w).setCell (p := ⟨g, k * 89 + 39, none⟩) (.inl H.out.F2) (.bool false)).setCell (p := ⟨g, k * 89 + 41, none⟩) (.inl H.out.F2) (.bool false)).setCell (p := ⟨g, k * 89 + 40, none⟩) (.inl H.out.F2) (.bool false)).setCell (p := ⟨g, k * 89 + 49, none⟩) (.inl H.out.F2) (.bool false)).setCell (p := ⟨g, k * 89 + 21, none⟩) (.inl H.out.F2) (.int .i64 1)).alloc _⟩
end Go.Proofs.YtpanapepcbbagaaGreat
namespace Go.Proofs.YtpanapepcbbagaaGreat
open Go.RowKit Go.BigFrame Go.WideShapes Go.ChangeShapes Go.Deep
set_option linter.unusedVariables false
set_option linter.unusedSimpArgs false
def Teller (w : World) (X k : Nat) (e : Ending) (w' : World) : Prop := ∃ b1 b2 : Nat, e = .returned (.func (.func 128) #[] #[.pointer (some ⟨b1, 0, none⟩), .pointer (some ⟨b2, 0, none⟩)]) ∧ Ext w w' ∧ w.heap.size ≤ b1 ∧ w.heap.size ≤ b2 ∧
  w'.cell? ⟨b1, 0, none⟩ = some (.pointer (some ⟨X, 0, none⟩)) ∧ w'.cell? ⟨b2, 0, none⟩ = some (.int .i64 k)
theorem top_teller (w : World) (X k : Nat) : Calls Tryz.prog 58 #[.pointer (some ⟨X, 0, none⟩), .int .i64 k] w (Teller w X k) := by
  go_enter Tryz.func58, Tryz.ntmps58
  go_wp2
  go_ret
  exact ⟨w.heap.size, w.heap.size + 1, rfl, ((Ext.refl w).alloc _).alloc _, Nat.le_refl _, Nat.le_succ _, (World.cell?_alloc_past _ _ _ (by simp)).trans ((World.cell?_alloc_at _ _ _ _ rfl).trans rfl), (World.cell?_alloc_at _ _ _ _ (by simp)).trans rfl⟩
theorem mem_build (p f : Value) (a m h d : Int) (w : World) (hp : ∃ q, p = .pointer q) (hf : ∃ x y z, f = .func x y z) : (Instr.build 130 #[(0, p), (1, .agg #[.int .i64 a, .int .i64 m, .int .i64 h, .int .i64 d]), (2, f)]).run Tryz.prog w = .ok (.agg #[p, .int .i64 a, .int .i64 m, .int .i64 h, .int .i64 d, f]) w := by
  obtain ⟨q, rfl⟩ := hp
  obtain ⟨x, y, z, rfl⟩ := hf
  kernel_rfl
theorem topfn_eq (f : FuncId) (cs : Array Value) (w : World) : (binOp BinOp.eql 1 (Value.func (Fn.func f) cs #[]) Value.nilFunc).run Tryz.prog w = .ok (.bool false) w := by kernel_rfl
theorem topfn_eq0 (w : World) : (binOp BinOp.eql 1 Value.nilFunc Value.nilFunc).run Tryz.prog w = .ok (.bool true) w := by kernel_rfl
theorem times_range {w : World} {F : Nat → Prop} {X g : Nat} {B : Br} (h : BrG w F X g B) (ho : B.ok) : w.rangeAt X 2 [.int .i64 (B.hi 2), .int .i64 (B.hi 3), .int .i64 (B.hi 4), .int .i64 (B.hi 5)] := fun j v hv => by
  have hj : j < 4 := by simpa using (List.getElem?_eq_some_iff.1 hv).1
  rcases (by omega : j = 0 ∨ j = 1 ∨ j = 2 ∨ j = 3) with rfl | rfl | rfl | rfl
  · exact ((h.cellX ho (i := 2) (by omega)).trans (ho.hi 2 rfl)).trans hv
  · exact ((h.cellX ho (i := 3) (by omega)).trans (ho.hi 3 rfl)).trans hv
  · exact ((h.cellX ho (i := 4) (by omega)).trans (ho.hi 4 rfl)).trans hv
  · exact ((h.cellX ho (i := 5) (by omega)).trans (ho.hi 5 rfl)).trans hv
theorem top_size_times : (Tryz.prog.info? 24).map (·.size) = some 4 := by kernel_rfl
end Go.Proofs.YtpanapepcbbagaaGreat
