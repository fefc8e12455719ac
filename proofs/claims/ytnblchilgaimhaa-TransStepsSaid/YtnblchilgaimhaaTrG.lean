/- Role transitions: actions that draw no order. No statement is proved here. -/
import Derived.Test.YtnblchilgaimhaaTrE
namespace Go.Proofs.Ytnblchilgaimhaa
open Go.RowKit Go.BigFrame Go.WideShapes Go.ChangeShapes Go.Deep
set_option linter.unusedVariables false
set_option linter.unusedSimpArgs false

theorem tr_forward (w : World) (F : Nat → Prop) (X g k : Nat) (B : Br) (h : BrG w F X g B) (ho : B.ok) (hk : k < B.np) : Calls Try.prog 74 #[placeV g k X] w fun e w' => e = .returned (.tuple #[]) ∧ BrG w' F X g ((B.setp k 26 (.bool true)).setp k 7 (.int .i64 0)) ∧ Mut F w w' := by
  obtain ⟨hX, hg, hne⟩ := h.lt
  have H := Lib.hid h
  have e26 := (h.cellg (i := k * 89 + 26) (lt89 hk (by decide))).trans (ho.gb hk 26 rfl)
  have e7 := (h.cellg (i := k * 89 + 7) (lt89 hk (by decide))).trans (ho.gi hk 7 rfl)
  have efr := h.frozen
  have hs : w.heap.size ≠ g := by omega
  clear h
  unfold placeV
  go_enter Try.func74, Try.ntmps74
  go_wp2_with fail
  go_end0
  exact ⟨rfl, ((H.out.setp (k := k) (j := 26) hk (by decide) (.bool true)).setp (k := k) (j := 7) hk (by decide) (.int .i64 0)).alloc _, (((Mut.refl F w).setCell (p := ⟨g, k * 89 + 26, none⟩) (.inl H.out.F2) (.bool true)).setCell (p := ⟨g, k * 89 + 7, none⟩) (.inl H.out.F2) (.int .i64 0)).alloc _⟩

theorem tr_agree (w : World) (F : Nat → Prop) (X g k : Nat) (B : Br) (h : BrG w F X g B) (ho : B.ok) (hk : k < B.np) : Calls Try.prog 64 #[placeV g k X] w fun e w' => e = .returned (.tuple #[]) ∧ BrG w' F X g (((B.setp k 33 (.bool false)).setp k 22 (.bool true)).setp k 31 (.bool true)) ∧ Mut F w w' := by
  obtain ⟨hX, hg, hne⟩ := h.lt
  have H := Lib.hid h
  have e33 := (h.cellg (i := k * 89 + 33) (lt89 hk (by decide))).trans (ho.gb hk 33 rfl)
  have e22 := (h.cellg (i := k * 89 + 22) (lt89 hk (by decide))).trans (ho.gb hk 22 rfl)
  have e31 := (h.cellg (i := k * 89 + 31) (lt89 hk (by decide))).trans (ho.gb hk 31 rfl)
  have efr := h.frozen
  have hs : w.heap.size ≠ g := by omega
  clear h
  unfold placeV
  go_enter Try.func64, Try.ntmps64
  go_wp2_with fail
  go_end0
  exact ⟨rfl, (((H.out.setp (k := k) (j := 33) hk (by decide) (.bool false)).setp (k := k) (j := 22) hk (by decide) (.bool true)).setp (k := k) (j := 31) hk (by decide) (.bool true)).alloc _, ((((Mut.refl F w).setCell (p := ⟨g, k * 89 + 33, none⟩) (.inl H.out.F2) (.bool false)).setCell (p := ⟨g, k * 89 + 22, none⟩) (.inl H.out.F2) (.bool true)).setCell (p := ⟨g, k * 89 + 31, none⟩) (.inl H.out.F2) (.bool true)).alloc _⟩

theorem tr_waited (w : World) (F : Nat → Prop) (X g k : Nat) (B : Br) (h : BrG w F X g B) (ho : B.ok) (hk : k < B.np) : Calls Try.prog 83 #[placeV g k X] w fun e w' => e = .returned (.bool (B.gb k 42 && B.gi k 12 == 0)) ∧ Ext w w' := by
  obtain ⟨hX, hg, hne⟩ := h.lt
  have p42 := (h.cellg (i := k * 89 + 42) (lt89 hk (by decide))).trans (ho.gb hk 42 rfl)
  have p12 := (h.cellg (i := k * 89 + 12) (lt89 hk (by decide))).trans (ho.gi hk 12 rfl)
  clear h
  obtain ⟨x42, e42⟩ : ∃ b, B.gb k 42 = b := ⟨_, rfl⟩
  obtain ⟨x12, e12⟩ : ∃ b, B.gi k 12 = b := ⟨_, rfl⟩
  rw [e42] at p42 ⊢
  rw [e12] at p12 ⊢
  have hs : w.heap.size ≠ g := by omega
  unfold placeV
  go_enter Try.func83, Try.ntmps83
  cases x42
  all_goals
    go_wp2_with fail
    go_ret
    exact ⟨by simp, (Ext.refl w).alloc _⟩

end Go.Proofs.Ytnblchilgaimhaa
