/- How long a port waits, by the program and by the document. No statement is proved here. -/
import Derived.Test.YtnblchilgaimhaaClkC
namespace Go.Proofs.Ytnblchilgaimhaa
open Go.RowKit Go.BigFrame Go.WideShapes Go.ChangeShapes Go.Deep
set_option linter.unusedVariables false
set_option linter.unusedSimpArgs false

theorem cfwd_t (c : Array Value) (B : Br) (k : Nat) (w : World) (hb : BrC w c B) (ho : B.ok) (hk : k < B.np) (hf : B.gb k 45 = true) : Calls Try.prog 26 #[.agg c, .int .i64 k] w fun e w' => e = .returned (.int .i64 (B.hi 4)) ∧ Ext w w' := by
  obtain ⟨s1, s2, s3, hz, hhd, c17, c18, c19, r1, -, -⟩ := hb.facts ho.hd.1
  obtain ⟨a1, k1, rfl, m1, hrow⟩ := r1.form
  have HR := Lib.hid hrow
  have h3 := (hhd 3 (by decide)).trans (ho.hi 3 rfl)
  have h4 := (hhd 4 (by decide)).trans (ho.hi 4 rfl)
  have h5 := (hhd 5 (by decide)).trans (ho.hi 5 rfl)
  clear hz hhd hb r1 hrow c18 c19
  obtain ⟨b, off, rfl, hb, hlc, hcm, hc⟩ := HR.out (by omega)
  have p := port_range hc k 45 _ ((port_at (B := B) (k := k) (j := 45) (by decide)).trans (ho.gb hk 45 rfl))
  rw [hf] at p
  clear hc HR hf
  go_enter Try.func26, Try.ntmps26
  go_wp2_with fail
  go_ret
  exact ⟨rfl, (Ext.refl w).alloc _⟩
theorem cfwd_f (c : Array Value) (B : Br) (k : Nat) (w : World) (hb : BrC w c B) (ho : B.ok) (hk : k < B.np) (hf : B.gb k 45 = false) : Calls Try.prog 26 #[.agg c, .int .i64 k] w fun e w' => e = .returned (.int .i64 (B.hi 5)) ∧ Ext w w' := by
  obtain ⟨s1, s2, s3, hz, hhd, c17, c18, c19, r1, -, -⟩ := hb.facts ho.hd.1
  obtain ⟨a1, k1, rfl, m1, hrow⟩ := r1.form
  have HR := Lib.hid hrow
  have h3 := (hhd 3 (by decide)).trans (ho.hi 3 rfl)
  have h4 := (hhd 4 (by decide)).trans (ho.hi 4 rfl)
  have h5 := (hhd 5 (by decide)).trans (ho.hi 5 rfl)
  clear hz hhd hb r1 hrow c18 c19
  obtain ⟨b, off, rfl, hb, hlc, hcm, hc⟩ := HR.out (by omega)
  have p := port_range hc k 45 _ ((port_at (B := B) (k := k) (j := 45) (by decide)).trans (ho.gb hk 45 rfl))
  rw [hf] at p
  clear hc HR hf
  go_enter Try.func26, Try.ntmps26
  go_wp2_with fail
  go_ret
  exact ⟨rfl, (Ext.refl w).alloc _⟩
theorem cfwd_any (c : Array Value) (B : Br) (k : Nat) (w : World) (hb : BrC w c B) (ho : B.ok) (hk : k < B.np) : Calls Try.prog 26 #[.agg c, .int .i64 k] w fun e w' => e = .returned (.int .i64 (if B.gb k 45 = true then (B.hi 4) else (B.hi 5))) ∧ Ext w w' := by
  cases hf : B.gb k 45
  · exact asi (cfwd_f c B k w hb ho hk hf) (by simp)
  · exact asi (cfwd_t c B k w hb ho hk hf) (by simp)

theorem dfwd_t (c : Array Value) (B : Br) (k : Nat) (w : World) (hb : BrC w c B) (ho : B.ok) (hk : k < B.np) (hf : B.gb k 45 = true) : Calls Try.prog 27 #[.agg c, .int .i64 k] w fun e w' => e = .returned (.int .i64 (B.hi 4)) ∧ Ext w w' := by
  obtain ⟨s1, s2, s3, hz, hhd, c17, c18, c19, r1, -, -⟩ := hb.facts ho.hd.1
  obtain ⟨a1, k1, rfl, m1, hrow⟩ := r1.form
  have HR := Lib.hid hrow
  have h3 := (hhd 3 (by decide)).trans (ho.hi 3 rfl)
  have h4 := (hhd 4 (by decide)).trans (ho.hi 4 rfl)
  have h5 := (hhd 5 (by decide)).trans (ho.hi 5 rfl)
  clear hz hhd hb r1 hrow c18 c19
  obtain ⟨b, off, rfl, hb, hlc, hcm, hc⟩ := HR.out (by omega)
  have p := port_range hc k 45 _ ((port_at (B := B) (k := k) (j := 45) (by decide)).trans (ho.gb hk 45 rfl))
  rw [hf] at p
  clear hc HR hf
  go_enter Try.func27, Try.ntmps27
  go_wp2_with fail
  go_ret
  exact ⟨rfl, (Ext.refl w).alloc _⟩
theorem dfwd_f (c : Array Value) (B : Br) (k : Nat) (w : World) (hb : BrC w c B) (ho : B.ok) (hk : k < B.np) (hf : B.gb k 45 = false) : Calls Try.prog 27 #[.agg c, .int .i64 k] w fun e w' => e = .returned (.int .i64 (B.hi 5)) ∧ Ext w w' := by
  obtain ⟨s1, s2, s3, hz, hhd, c17, c18, c19, r1, -, -⟩ := hb.facts ho.hd.1
  obtain ⟨a1, k1, rfl, m1, hrow⟩ := r1.form
  have HR := Lib.hid hrow
  have h3 := (hhd 3 (by decide)).trans (ho.hi 3 rfl)
  have h4 := (hhd 4 (by decide)).trans (ho.hi 4 rfl)
  have h5 := (hhd 5 (by decide)).trans (ho.hi 5 rfl)
  clear hz hhd hb r1 hrow c18 c19
  obtain ⟨b, off, rfl, hb, hlc, hcm, hc⟩ := HR.out (by omega)
  have p := port_range hc k 45 _ ((port_at (B := B) (k := k) (j := 45) (by decide)).trans (ho.gb hk 45 rfl))
  rw [hf] at p
  clear hc HR hf
  go_enter Try.func27, Try.ntmps27
  go_wp2_with fail
  go_ret
  exact ⟨rfl, (Ext.refl w).alloc _⟩
theorem dfwd_any (c : Array Value) (B : Br) (k : Nat) (w : World) (hb : BrC w c B) (ho : B.ok) (hk : k < B.np) : Calls Try.prog 27 #[.agg c, .int .i64 k] w fun e w' => e = .returned (.int .i64 (if B.gb k 45 = true then (B.hi 4) else (B.hi 5))) ∧ Ext w w' := by
  cases hf : B.gb k 45
  · exact asi (dfwd_f c B k w hb ho hk hf) (by simp)
  · exact asi (dfwd_t c B k w hb ho hk hf) (by simp)

theorem cedel_t (c : Array Value) (B : Br) (k : Nat) (w : World) (hb : BrC w c B) (ho : B.ok) (hk : k < B.np) (hf : B.gb k 3 = true) : Calls Try.prog 24 #[.agg c, .int .i64 k] w fun e w' => e = .returned (.int .i64 (B.hi 3)) ∧ Ext w w' := by
  obtain ⟨s1, s2, s3, hz, hhd, c17, c18, c19, r1, -, -⟩ := hb.facts ho.hd.1
  obtain ⟨a1, k1, rfl, m1, hrow⟩ := r1.form
  have HR := Lib.hid hrow
  have h3 := (hhd 3 (by decide)).trans (ho.hi 3 rfl)
  have h4 := (hhd 4 (by decide)).trans (ho.hi 4 rfl)
  have h5 := (hhd 5 (by decide)).trans (ho.hi 5 rfl)
  clear hz hhd hb r1 hrow c18 c19
  obtain ⟨b, off, rfl, hb, hlc, hcm, hc⟩ := HR.out (by omega)
  have p := port_range hc k 3 _ ((port_at (B := B) (k := k) (j := 3) (by decide)).trans (ho.gb hk 3 rfl))
  rw [hf] at p
  clear hc HR hf
  go_enter Try.func24, Try.ntmps24
  go_wp2_with fail
  go_ret
  exact ⟨rfl, (Ext.refl w).alloc _⟩
theorem cedel_f (c : Array Value) (B : Br) (k : Nat) (w : World) (hb : BrC w c B) (ho : B.ok) (hk : k < B.np) (hf : B.gb k 3 = false) : Calls Try.prog 24 #[.agg c, .int .i64 k] w fun e w' => e = .returned (.int .i64 3) ∧ Ext w w' := by
  obtain ⟨s1, s2, s3, hz, hhd, c17, c18, c19, r1, -, -⟩ := hb.facts ho.hd.1
  obtain ⟨a1, k1, rfl, m1, hrow⟩ := r1.form
  have HR := Lib.hid hrow
  have h3 := (hhd 3 (by decide)).trans (ho.hi 3 rfl)
  have h4 := (hhd 4 (by decide)).trans (ho.hi 4 rfl)
  have h5 := (hhd 5 (by decide)).trans (ho.hi 5 rfl)
  clear hz hhd hb r1 hrow c18 c19
  obtain ⟨b, off, rfl, hb, hlc, hcm, hc⟩ := HR.out (by omega)
  have p := port_range hc k 3 _ ((port_at (B := B) (k := k) (j := 3) (by decide)).trans (ho.gb hk 3 rfl))
  rw [hf] at p
  clear hc HR hf
  go_enter Try.func24, Try.ntmps24
  go_wp2_with fail
  go_ret
  exact ⟨rfl, (Ext.refl w).alloc _⟩
theorem cedel_any (c : Array Value) (B : Br) (k : Nat) (w : World) (hb : BrC w c B) (ho : B.ok) (hk : k < B.np) : Calls Try.prog 24 #[.agg c, .int .i64 k] w fun e w' => e = .returned (.int .i64 (if B.gb k 3 = true then (B.hi 3) else 3)) ∧ Ext w w' := by
  cases hf : B.gb k 3
  · exact asi (cedel_f c B k w hb ho hk hf) (by simp)
  · exact asi (cedel_t c B k w hb ho hk hf) (by simp)

theorem dedel_t (c : Array Value) (B : Br) (k : Nat) (w : World) (hb : BrC w c B) (ho : B.ok) (hk : k < B.np) (hf : B.gb k 3 = true) : Calls Try.prog 25 #[.agg c, .int .i64 k] w fun e w' => e = .returned (.int .i64 (B.hi 3)) ∧ Ext w w' := by
  obtain ⟨s1, s2, s3, hz, hhd, c17, c18, c19, r1, -, -⟩ := hb.facts ho.hd.1
  obtain ⟨a1, k1, rfl, m1, hrow⟩ := r1.form
  have HR := Lib.hid hrow
  have h3 := (hhd 3 (by decide)).trans (ho.hi 3 rfl)
  have h4 := (hhd 4 (by decide)).trans (ho.hi 4 rfl)
  have h5 := (hhd 5 (by decide)).trans (ho.hi 5 rfl)
  clear hz hhd hb r1 hrow c18 c19
  obtain ⟨b, off, rfl, hb, hlc, hcm, hc⟩ := HR.out (by omega)
  have p := port_range hc k 3 _ ((port_at (B := B) (k := k) (j := 3) (by decide)).trans (ho.gb hk 3 rfl))
  rw [hf] at p
  clear hc HR hf
  go_enter Try.func25, Try.ntmps25
  go_wp2_with fail
  go_ret
  exact ⟨rfl, (Ext.refl w).alloc _⟩
theorem dedel_f (c : Array Value) (B : Br) (k : Nat) (w : World) (hb : BrC w c B) (ho : B.ok) (hk : k < B.np) (hf : B.gb k 3 = false) : Calls Try.prog 25 #[.agg c, .int .i64 k] w fun e w' => e = .returned (.int .i64 3) ∧ Ext w w' := by
  obtain ⟨s1, s2, s3, hz, hhd, c17, c18, c19, r1, -, -⟩ := hb.facts ho.hd.1
  obtain ⟨a1, k1, rfl, m1, hrow⟩ := r1.form
  have HR := Lib.hid hrow
  have h3 := (hhd 3 (by decide)).trans (ho.hi 3 rfl)
  have h4 := (hhd 4 (by decide)).trans (ho.hi 4 rfl)
  have h5 := (hhd 5 (by decide)).trans (ho.hi 5 rfl)
  clear hz hhd hb r1 hrow c18 c19
  obtain ⟨b, off, rfl, hb, hlc, hcm, hc⟩ := HR.out (by omega)
  have p := port_range hc k 3 _ ((port_at (B := B) (k := k) (j := 3) (by decide)).trans (ho.gb hk 3 rfl))
  rw [hf] at p
  clear hc HR hf
  go_enter Try.func25, Try.ntmps25
  go_wp2_with fail
  go_ret
  exact ⟨rfl, (Ext.refl w).alloc _⟩
theorem dedel_any (c : Array Value) (B : Br) (k : Nat) (w : World) (hb : BrC w c B) (ho : B.ok) (hk : k < B.np) : Calls Try.prog 25 #[.agg c, .int .i64 k] w fun e w' => e = .returned (.int .i64 (if B.gb k 3 = true then (B.hi 3) else 3)) ∧ Ext w w' := by
  cases hf : B.gb k 3
  · exact asi (dedel_f c B k w hb ho hk hf) (by simp)
  · exact asi (dedel_t c B k w hb ho hk hf) (by simp)

end Go.Proofs.Ytnblchilgaimhaa
