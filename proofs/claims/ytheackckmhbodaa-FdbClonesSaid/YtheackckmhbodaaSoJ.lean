/- The library's sort: xorshift. No statement is proved here. -/
import Derived.Test.YtheackckmhbodaaSoL
namespace Go.Proofs.Ytheackckmhbodaa
open Go.RowKit Go.BigFrame Go.WideShapes Go.ChangeShapes Go.Deep
set_option linter.unusedVariables false
set_option linter.unusedSimpArgs false
set_option maxRecDepth 100000

theorem one_set {w : World} {q : Nat} {v0 : Value} {T : TypeId} (v : Value) (h : w.heap[q]? = some (.cells #[v0] T (0, 0))) : ((w.setCell ⟨q, 0, none⟩ v).drew).heap[q]? = some (.cells #[v] T (0, 0)) := by
  have hg : q < w.heap.size := (Array.getElem?_eq_some_iff.1 h).1
  have hg' : w.heap[q] = .cells #[v0] T (0, 0) := (Array.getElem?_eq_some_iff.1 h).2
  show (w.setCell ⟨q, 0, none⟩ v).heap[q]? = _
  simp [World.setCell, Array.getElem_modify, hg', hg]
theorem one_mut (w : World) (q : Nat) (v : Value) : Mut (fun k => k = q) w ((w.setCell ⟨q, 0, none⟩ v).drew) := (Mut.setCell (Mut.refl (fun k => k = q) w) (p := ⟨q, 0, none⟩) (.inl rfl) v).trans (Ext.mut (Ext.refl _).drew _)
theorem one_cell {w : World} {q : Nat} {v0 : Value} {T : TypeId} (h : w.heap[q]? = some (.cells #[v0] T (0, 0))) : w.cell? ⟨q, 0, none⟩ = some v0 := by rw [cell_row h]; rfl
theorem one_froz {w : World} {q : Nat} {v0 : Value} {T : TypeId} (h : w.heap[q]? = some (.cells #[v0] T (0, 0))) : w.frozen? ⟨q, 0, none⟩ = false := by
  simp [World.frozen?, h]
set_option maxRecDepth 100000 in
set_option maxHeartbeats 2000000 in
theorem next_any (w : World) (q X : Nat) (hX : X < 18446744073709551616) (hq : w.heap[q]? = some (.cells #[.int .u64 X] 84 (0, 0))) :
    Calls Try.prog 54 #[.pointer (some ⟨q, 0, none⟩)] w fun e w' => e = .returned (.int .u64 ((Go.Sort.xorNextN X : Nat) : Int)) ∧ w'.heap[q]? = some (.cells #[.int .u64 ((Go.Sort.xorNextN X : Nat) : Int)] 84 (0, 0)) ∧ Mut (fun k => k = q) w w' := by
  obtain ⟨A, hA⟩ : ∃ A : Nat, A = X ^^^ (X * 8192 % 18446744073709551616) := ⟨_, rfl⟩
  obtain ⟨B, hB⟩ : ∃ B : Nat, B = A ^^^ (A / 128) := ⟨_, rfl⟩
  obtain ⟨C, hC⟩ : ∃ C : Nat, C = B ^^^ (B * 131072 % 18446744073709551616) := ⟨_, rfl⟩
  have lA : A < 18446744073709551616 := by rw [hA]; exact Nat.xor_lt_two_pow (n := 64) (by omega) (by omega)
  have lB : B < 18446744073709551616 := by rw [hB]; exact Nat.xor_lt_two_pow (n := 64) (by omega) (by omega)
  have e1 : bits .xor .u64 (X : Int) (IntKind.u64.wrap ((X : Int) * 8192)) = (A : Int) := by
    rw [IntKind.wrap_u64, show ((X : Int) * 8192 % 18446744073709551616) = ((X * 8192 % 18446744073709551616 : Nat) : Int) by omega, bits_xor_u64_nat _ _ hX (by omega), hA]
  have e2 : bits .xor .u64 (A : Int) ((A : Int) / 128) = (B : Int) := by
    rw [show ((A : Int) / 128) = ((A / 128 : Nat) : Int) by omega, bits_xor_u64_nat _ _ lA (by omega), hB]
  have e3 : bits .xor .u64 (B : Int) (IntKind.u64.wrap ((B : Int) * 131072)) = (C : Int) := by
    rw [IntKind.wrap_u64, show ((B : Int) * 131072 % 18446744073709551616) = ((B * 131072 % 18446744073709551616 : Nat) : Int) by omega, bits_xor_u64_nat _ _ lB (by omega), hC]
  have hv : Go.Sort.xorNextN X = C := by unfold Go.Sort.xorNextN; dsimp only; rw [← hA, ← hB, ← hC]
  have HV := Lib.hid hv
  have HQ := Lib.hid hq
  have cq := one_cell hq
  have hf := one_froz hq
  clear hA hB hC hv hq
  go_enter Try.func54, Try.ntmps54
  go_wp2
  go_region
  have HR1 := Lib.hid (one_set (.int .u64 (A : Int)) HQ.out)
  have HM1 := Lib.hid (one_mut w q (.int .u64 (A : Int)))
  clear cq hf
  generalize (w.setCell ⟨q, 0, none⟩ (.int .u64 (A : Int))).drew = w1 at *
  have HQ1 := HR1
  have cq := one_cell HQ1.out
  have hf := one_froz HQ1.out
  go_wp2
  go_region
  have HR2 := Lib.hid (one_set (.int .u64 (B : Int)) HQ1.out)
  have HM2 := Lib.hid (one_mut w1 q (.int .u64 (B : Int)))
  clear cq hf
  generalize (w1.setCell ⟨q, 0, none⟩ (.int .u64 (B : Int))).drew = w2 at *
  have HQ2 := HR2
  have cq := one_cell HQ2.out
  have hf := one_froz HQ2.out
  go_wp2
  go_region
  have HR3 := Lib.hid (one_set (.int .u64 (C : Int)) HQ2.out)
  have HM3 := Lib.hid (one_mut w2 q (.int .u64 (C : Int)))
  clear cq hf
  generalize (w2.setCell ⟨q, 0, none⟩ (.int .u64 (C : Int))).drew = w3 at *
  have HQ3 := HR3
  have cq := one_cell HQ3.out
  have hf := one_froz HQ3.out
  go_wp2
  go_ret
  exact ⟨by rw [HV.out]; rfl, by rw [HV.out]; exact HQ3.out, HM1.out.trans (HM2.out.trans HM3.out)⟩

end Go.Proofs.Ytheackckmhbodaa
