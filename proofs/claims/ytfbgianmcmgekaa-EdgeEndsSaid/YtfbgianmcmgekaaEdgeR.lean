/- The step of the machine of edges. No statement is proved here. -/
import Derived.Test.YtfbgianmcmgekaaEdgeA
namespace Go.Proofs.Ytfbgianmcmgekaa
open Go.RowKit Go.BigFrame Go.WideShapes Go.ChangeShapes Go.Deep
set_option linter.unusedVariables false

set_option maxRecDepth 100000 in
set_option maxHeartbeats 1000000 in
theorem edge_s0a (w : World) (F : Nat → Prop) (X g k : Nat) (B : Br) (h : BrG w F X g B) (ho : B.ok) (hk : k < B.np) (hk2 : k < 1000) (s0 : B.gi k 17 = 0) (v : el0 B k = true) :
    Calls Try.prog 21 #[.pointer (some ⟨X, 0, none⟩), .int .i64 k] w (Stepped w F X g (true, edgeOff B k)) := by
  obtain ⟨hX, hg, hne⟩ := h.lt
  obtain ⟨cap, c17, hc1, hc2⟩ := h.cell17 ho
  have hpr := Lib.hid (h.range hk)
  have hpt := Lib.hid (port_typed ho hk)
  have r2 := Lib.hid ((port_at (B := B) (k := k) (j := 2) (by decide)).trans (ho.gb hk 2 rfl))
  have r4 := Lib.hid ((port_at (B := B) (k := k) (j := 4) (by decide)).trans (ho.gb hk 4 rfl))
  have r5 := Lib.hid ((port_at (B := B) (k := k) (j := 5) (by decide)).trans (ho.gb hk 5 rfl))
  have r6 := Lib.hid ((port_at (B := B) (k := k) (j := 6) (by decide)).trans (ho.gi hk 6 rfl))
  have r32 := Lib.hid ((port_at (B := B) (k := k) (j := 32) (by decide)).trans (ho.gb hk 32 rfl))
  have r34 := Lib.hid ((port_at (B := B) (k := k) (j := 34) (by decide)).trans (ho.gb hk 34 rfl))
  have r45 := Lib.hid ((port_at (B := B) (k := k) (j := 45) (by decide)).trans (ho.gb hk 45 rfl))
  have p17 := (h.cellg (i := k * 89 + 17) (lt89 hk (by decide))).trans (ho.gi hk 17 rfl)
  have p32 := (h.cellg (i := k * 89 + 32) (lt89 hk (by decide))).trans (ho.gb hk 32 rfl)
  have hf := h.frozen
  have H := Lib.hid h
  clear h
  rw [s0] at p17
  clear s0
  have V := Lib.hid v
  clear v
  have hpz := Lib.hid (show (Try.prog.info? 52).map (·.size) = some (port B.ps k).length by rw [hpt.out.1]; exact size_port)
  go_enter Try.func21, Try.ntmps21
  go_wp2_with (first | fail | ((with_reducible refine at_loadG 52 ?_); refine wpList_load_midG rfl 52 _ rfl g (k * 89) rfl (port B.ps k) _ hpr.out Try.underlying52 rfl hpz.out ?_))
  refine (asv (v' := .agg #[.bool true, .bool (el1 B k)]) (edge_leaves (port B.ps k) _ _ _ _ _ _ _ w r2.out r4.out r5.out r6.out r32.out r34.out r45.out) (by rw [← V.out]; rfl)).mono ?_
  rintro e w1 ⟨rfl, hx1⟩
  have i0 := edge_ix0
  have i1 := edge_ix1
  have j0 := edge_iy0
  have j1 := edge_iy1
  have q17 := (hx1.cell (p := ⟨g, k * 89 + 17, none⟩) hg).trans p17
  have q32 := (hx1.cell (p := ⟨g, k * 89 + 32, none⟩) hg).trans p32
  have hf1 : ∀ j, w1.frozen? ⟨g, j, none⟩ = false := (H.out.ext hx1).frozen
  clear p17 p32 hf c17
  go_wp2_with fail
  go_ret
  exact ⟨rfl, ((H.out.ext hx1).setp (j := 32) hk (by decide) _).setp (j := 17) hk (by decide) _, ((hx1.mut F).setCell (.inl H.out.F2) _).setCell (.inl H.out.F2) _⟩

set_option maxRecDepth 100000 in
set_option maxHeartbeats 1000000 in
theorem edge_s0b (w : World) (F : Nat → Prop) (X g k : Nat) (B : Br) (h : BrG w F X g B) (ho : B.ok) (hk : k < B.np) (hk2 : k < 1000) (s0 : B.gi k 17 = 0) (v : el0 B k = false) :
    Calls Try.prog 21 #[.pointer (some ⟨X, 0, none⟩), .int .i64 k] w (Stepped w F X g (false, B)) := by
  obtain ⟨hX, hg, hne⟩ := h.lt
  obtain ⟨cap, c17, hc1, hc2⟩ := h.cell17 ho
  have hpr := Lib.hid (h.range hk)
  have hpt := Lib.hid (port_typed ho hk)
  have r2 := Lib.hid ((port_at (B := B) (k := k) (j := 2) (by decide)).trans (ho.gb hk 2 rfl))
  have r4 := Lib.hid ((port_at (B := B) (k := k) (j := 4) (by decide)).trans (ho.gb hk 4 rfl))
  have r5 := Lib.hid ((port_at (B := B) (k := k) (j := 5) (by decide)).trans (ho.gb hk 5 rfl))
  have r6 := Lib.hid ((port_at (B := B) (k := k) (j := 6) (by decide)).trans (ho.gi hk 6 rfl))
  have r32 := Lib.hid ((port_at (B := B) (k := k) (j := 32) (by decide)).trans (ho.gb hk 32 rfl))
  have r34 := Lib.hid ((port_at (B := B) (k := k) (j := 34) (by decide)).trans (ho.gb hk 34 rfl))
  have r45 := Lib.hid ((port_at (B := B) (k := k) (j := 45) (by decide)).trans (ho.gb hk 45 rfl))
  have p17 := (h.cellg (i := k * 89 + 17) (lt89 hk (by decide))).trans (ho.gi hk 17 rfl)
  have p32 := (h.cellg (i := k * 89 + 32) (lt89 hk (by decide))).trans (ho.gb hk 32 rfl)
  have hf := h.frozen
  have H := Lib.hid h
  clear h
  rw [s0] at p17
  clear s0
  have V := Lib.hid v
  clear v
  have hpz := Lib.hid (show (Try.prog.info? 52).map (·.size) = some (port B.ps k).length by rw [hpt.out.1]; exact size_port)
  go_enter Try.func21, Try.ntmps21
  go_wp2_with (first | fail | ((with_reducible refine at_loadG 52 ?_); refine wpList_load_midG rfl 52 _ rfl g (k * 89) rfl (port B.ps k) _ hpr.out Try.underlying52 rfl hpz.out ?_))
  refine (asv (v' := .agg #[.bool false, .bool (el1 B k)]) (edge_leaves (port B.ps k) _ _ _ _ _ _ _ w r2.out r4.out r5.out r6.out r32.out r34.out r45.out) (by rw [← V.out]; rfl)).mono ?_
  rintro e w1 ⟨rfl, hx1⟩
  have i0 := edge_ix0
  have i1 := edge_ix1
  have j0 := edge_iy0
  have j1 := edge_iy1
  have q17 := (hx1.cell (p := ⟨g, k * 89 + 17, none⟩) hg).trans p17
  have q32 := (hx1.cell (p := ⟨g, k * 89 + 32, none⟩) hg).trans p32
  have hf1 : ∀ j, w1.frozen? ⟨g, j, none⟩ = false := (H.out.ext hx1).frozen
  clear p17 p32 hf c17
  go_wp2_with fail
  go_ret
  exact ⟨rfl, H.out.ext hx1, hx1.mut F⟩

set_option maxRecDepth 100000 in
set_option maxHeartbeats 1000000 in
theorem edge_s1a (w : World) (F : Nat → Prop) (X g k : Nat) (B : Br) (h : BrG w F X g B) (ho : B.ok) (hk : k < B.np) (hk2 : k < 1000) (s0 : B.gi k 17 = 1) (v : el1 B k = true) :
    Calls Try.prog 21 #[.pointer (some ⟨X, 0, none⟩), .int .i64 k] w (Stepped w F X g (true, edgeOn B k)) := by
  obtain ⟨hX, hg, hne⟩ := h.lt
  obtain ⟨cap, c17, hc1, hc2⟩ := h.cell17 ho
  have hpr := Lib.hid (h.range hk)
  have hpt := Lib.hid (port_typed ho hk)
  have r2 := Lib.hid ((port_at (B := B) (k := k) (j := 2) (by decide)).trans (ho.gb hk 2 rfl))
  have r4 := Lib.hid ((port_at (B := B) (k := k) (j := 4) (by decide)).trans (ho.gb hk 4 rfl))
  have r5 := Lib.hid ((port_at (B := B) (k := k) (j := 5) (by decide)).trans (ho.gb hk 5 rfl))
  have r6 := Lib.hid ((port_at (B := B) (k := k) (j := 6) (by decide)).trans (ho.gi hk 6 rfl))
  have r32 := Lib.hid ((port_at (B := B) (k := k) (j := 32) (by decide)).trans (ho.gb hk 32 rfl))
  have r34 := Lib.hid ((port_at (B := B) (k := k) (j := 34) (by decide)).trans (ho.gb hk 34 rfl))
  have r45 := Lib.hid ((port_at (B := B) (k := k) (j := 45) (by decide)).trans (ho.gb hk 45 rfl))
  have p17 := (h.cellg (i := k * 89 + 17) (lt89 hk (by decide))).trans (ho.gi hk 17 rfl)
  have p32 := (h.cellg (i := k * 89 + 32) (lt89 hk (by decide))).trans (ho.gb hk 32 rfl)
  have hf := h.frozen
  have H := Lib.hid h
  clear h
  rw [s0] at p17
  clear s0
  have V := Lib.hid v
  clear v
  have hpz := Lib.hid (show (Try.prog.info? 52).map (·.size) = some (port B.ps k).length by rw [hpt.out.1]; exact size_port)
  go_enter Try.func21, Try.ntmps21
  go_wp2_with (first | fail | ((with_reducible refine at_loadG 52 ?_); refine wpList_load_midG rfl 52 _ rfl g (k * 89) rfl (port B.ps k) _ hpr.out Try.underlying52 rfl hpz.out ?_))
  refine (asv (v' := .agg #[.bool (el0 B k), .bool true]) (edge_leaves (port B.ps k) _ _ _ _ _ _ _ w r2.out r4.out r5.out r6.out r32.out r34.out r45.out) (by rw [← V.out]; rfl)).mono ?_
  rintro e w1 ⟨rfl, hx1⟩
  have i0 := edge_ix0
  have i1 := edge_ix1
  have j0 := edge_iy0
  have j1 := edge_iy1
  have q17 := (hx1.cell (p := ⟨g, k * 89 + 17, none⟩) hg).trans p17
  have q32 := (hx1.cell (p := ⟨g, k * 89 + 32, none⟩) hg).trans p32
  have hf1 : ∀ j, w1.frozen? ⟨g, j, none⟩ = false := (H.out.ext hx1).frozen
  clear p17 p32 hf c17
  go_wp2_with fail
  go_ret
  exact ⟨rfl, ((H.out.ext hx1).setp (j := 32) hk (by decide) _).setp (j := 17) hk (by decide) _, ((hx1.mut F).setCell (.inl H.out.F2) _).setCell (.inl H.out.F2) _⟩

set_option maxRecDepth 100000 in
set_option maxHeartbeats 1000000 in
theorem edge_s1b (w : World) (F : Nat → Prop) (X g k : Nat) (B : Br) (h : BrG w F X g B) (ho : B.ok) (hk : k < B.np) (hk2 : k < 1000) (s0 : B.gi k 17 = 1) (v : el1 B k = false) :
    Calls Try.prog 21 #[.pointer (some ⟨X, 0, none⟩), .int .i64 k] w (Stepped w F X g (false, B)) := by
  obtain ⟨hX, hg, hne⟩ := h.lt
  obtain ⟨cap, c17, hc1, hc2⟩ := h.cell17 ho
  have hpr := Lib.hid (h.range hk)
  have hpt := Lib.hid (port_typed ho hk)
  have r2 := Lib.hid ((port_at (B := B) (k := k) (j := 2) (by decide)).trans (ho.gb hk 2 rfl))
  have r4 := Lib.hid ((port_at (B := B) (k := k) (j := 4) (by decide)).trans (ho.gb hk 4 rfl))
  have r5 := Lib.hid ((port_at (B := B) (k := k) (j := 5) (by decide)).trans (ho.gb hk 5 rfl))
  have r6 := Lib.hid ((port_at (B := B) (k := k) (j := 6) (by decide)).trans (ho.gi hk 6 rfl))
  have r32 := Lib.hid ((port_at (B := B) (k := k) (j := 32) (by decide)).trans (ho.gb hk 32 rfl))
  have r34 := Lib.hid ((port_at (B := B) (k := k) (j := 34) (by decide)).trans (ho.gb hk 34 rfl))
  have r45 := Lib.hid ((port_at (B := B) (k := k) (j := 45) (by decide)).trans (ho.gb hk 45 rfl))
  have p17 := (h.cellg (i := k * 89 + 17) (lt89 hk (by decide))).trans (ho.gi hk 17 rfl)
  have p32 := (h.cellg (i := k * 89 + 32) (lt89 hk (by decide))).trans (ho.gb hk 32 rfl)
  have hf := h.frozen
  have H := Lib.hid h
  clear h
  rw [s0] at p17
  clear s0
  have V := Lib.hid v
  clear v
  have hpz := Lib.hid (show (Try.prog.info? 52).map (·.size) = some (port B.ps k).length by rw [hpt.out.1]; exact size_port)
  go_enter Try.func21, Try.ntmps21
  go_wp2_with (first | fail | ((with_reducible refine at_loadG 52 ?_); refine wpList_load_midG rfl 52 _ rfl g (k * 89) rfl (port B.ps k) _ hpr.out Try.underlying52 rfl hpz.out ?_))
  refine (asv (v' := .agg #[.bool (el0 B k), .bool false]) (edge_leaves (port B.ps k) _ _ _ _ _ _ _ w r2.out r4.out r5.out r6.out r32.out r34.out r45.out) (by rw [← V.out]; rfl)).mono ?_
  rintro e w1 ⟨rfl, hx1⟩
  have i0 := edge_ix0
  have i1 := edge_ix1
  have j0 := edge_iy0
  have j1 := edge_iy1
  have q17 := (hx1.cell (p := ⟨g, k * 89 + 17, none⟩) hg).trans p17
  have q32 := (hx1.cell (p := ⟨g, k * 89 + 32, none⟩) hg).trans p32
  have hf1 : ∀ j, w1.frozen? ⟨g, j, none⟩ = false := (H.out.ext hx1).frozen
  clear p17 p32 hf c17
  go_wp2_with fail
  go_ret
  exact ⟨rfl, H.out.ext hx1, hx1.mut F⟩

set_option maxRecDepth 100000 in
set_option maxHeartbeats 1000000 in
theorem edge_slo (w : World) (F : Nat → Prop) (X g k : Nat) (B : Br) (h : BrG w F X g B) (ho : B.ok) (hk : k < B.np) (hk2 : k < 1000) (s0 : B.gi k 17 < 0) :
    Calls Try.prog 21 #[.pointer (some ⟨X, 0, none⟩), .int .i64 k] w (Stepped w F X g (false, B)) := by
  obtain ⟨hX, hg, hne⟩ := h.lt
  obtain ⟨cap, c17, hc1, hc2⟩ := h.cell17 ho
  have hpr := Lib.hid (h.range hk)
  have hpt := Lib.hid (port_typed ho hk)
  have r2 := Lib.hid ((port_at (B := B) (k := k) (j := 2) (by decide)).trans (ho.gb hk 2 rfl))
  have r4 := Lib.hid ((port_at (B := B) (k := k) (j := 4) (by decide)).trans (ho.gb hk 4 rfl))
  have r5 := Lib.hid ((port_at (B := B) (k := k) (j := 5) (by decide)).trans (ho.gb hk 5 rfl))
  have r6 := Lib.hid ((port_at (B := B) (k := k) (j := 6) (by decide)).trans (ho.gi hk 6 rfl))
  have r32 := Lib.hid ((port_at (B := B) (k := k) (j := 32) (by decide)).trans (ho.gb hk 32 rfl))
  have r34 := Lib.hid ((port_at (B := B) (k := k) (j := 34) (by decide)).trans (ho.gb hk 34 rfl))
  have r45 := Lib.hid ((port_at (B := B) (k := k) (j := 45) (by decide)).trans (ho.gb hk 45 rfl))
  have p17 := (h.cellg (i := k * 89 + 17) (lt89 hk (by decide))).trans (ho.gi hk 17 rfl)
  have p32 := (h.cellg (i := k * 89 + 32) (lt89 hk (by decide))).trans (ho.gb hk 32 rfl)
  have hf := h.frozen
  have H := Lib.hid h
  clear h
  have hpz := Lib.hid (show (Try.prog.info? 52).map (·.size) = some (port B.ps k).length by rw [hpt.out.1]; exact size_port)
  go_enter Try.func21, Try.ntmps21
  go_wp2_with fail
  go_ret
  exact ⟨rfl, H.out, Mut.refl F w⟩

set_option maxRecDepth 100000 in
set_option maxHeartbeats 1000000 in
theorem edge_shi (w : World) (F : Nat → Prop) (X g k : Nat) (B : Br) (h : BrG w F X g B) (ho : B.ok) (hk : k < B.np) (hk2 : k < 1000) (s0 : 1 < B.gi k 17) :
    Calls Try.prog 21 #[.pointer (some ⟨X, 0, none⟩), .int .i64 k] w (Stepped w F X g (false, B)) := by
  obtain ⟨hX, hg, hne⟩ := h.lt
  obtain ⟨cap, c17, hc1, hc2⟩ := h.cell17 ho
  have hpr := Lib.hid (h.range hk)
  have hpt := Lib.hid (port_typed ho hk)
  have r2 := Lib.hid ((port_at (B := B) (k := k) (j := 2) (by decide)).trans (ho.gb hk 2 rfl))
  have r4 := Lib.hid ((port_at (B := B) (k := k) (j := 4) (by decide)).trans (ho.gb hk 4 rfl))
  have r5 := Lib.hid ((port_at (B := B) (k := k) (j := 5) (by decide)).trans (ho.gb hk 5 rfl))
  have r6 := Lib.hid ((port_at (B := B) (k := k) (j := 6) (by decide)).trans (ho.gi hk 6 rfl))
  have r32 := Lib.hid ((port_at (B := B) (k := k) (j := 32) (by decide)).trans (ho.gb hk 32 rfl))
  have r34 := Lib.hid ((port_at (B := B) (k := k) (j := 34) (by decide)).trans (ho.gb hk 34 rfl))
  have r45 := Lib.hid ((port_at (B := B) (k := k) (j := 45) (by decide)).trans (ho.gb hk 45 rfl))
  have p17 := (h.cellg (i := k * 89 + 17) (lt89 hk (by decide))).trans (ho.gi hk 17 rfl)
  have p32 := (h.cellg (i := k * 89 + 32) (lt89 hk (by decide))).trans (ho.gb hk 32 rfl)
  have hf := h.frozen
  have H := Lib.hid h
  clear h
  have hpz := Lib.hid (show (Try.prog.info? 52).map (·.size) = some (port B.ps k).length by rw [hpt.out.1]; exact size_port)
  go_enter Try.func21, Try.ntmps21
  go_wp2_with fail
  go_ret
  exact ⟨rfl, H.out, Mut.refl F w⟩

theorem edge_step (w : World) (F : Nat → Prop) (X g k : Nat) (B : Br) (h : BrG w F X g B) (ho : B.ok) (hk : k < B.np) (hk2 : k < 1000) :
    Calls Try.prog 21 #[.pointer (some ⟨X, 0, none⟩), .int .i64 k] w (Stepped w F X g (edgeF B k)) := by
  by_cases s0 : B.gi k 17 = 0
  · cases v : el0 B k
    · have e : edgeF B k = (false, B) := by simp [edgeF, s0, v]
      rw [e]
      exact edge_s0b w F X g k B h ho hk hk2 s0 v
    · have e : edgeF B k = (true, edgeOff B k) := by simp [edgeF, s0, v]
      rw [e]
      exact edge_s0a w F X g k B h ho hk hk2 s0 v
  · by_cases s1 : B.gi k 17 = 1
    · cases v : el1 B k
      · have e : edgeF B k = (false, B) := by simp [edgeF, s1, v]
        rw [e]
        exact edge_s1b w F X g k B h ho hk hk2 s1 v
      · have e : edgeF B k = (true, edgeOn B k) := by simp [edgeF, s1, v]
        rw [e]
        exact edge_s1a w F X g k B h ho hk hk2 s1 v
    · have e : edgeF B k = (false, B) := by simp [edgeF, s0, s1]
      rw [e]
      by_cases s2 : B.gi k 17 < 0
      · exact edge_slo w F X g k B h ho hk hk2 s2
      · exact edge_shi w F X g k B h ho hk hk2 (by omega)

end Go.Proofs.Ytfbgianmcmgekaa
