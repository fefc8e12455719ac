/- The walk of InfoKeeps. No statement is proved here. -/
import Derived.Test.YthfoacgdkoijeaaInfI
namespace Go.Proofs.Ythfoacgdkoijeaa
open Go.RowKit Go.BigFrame Go.WideShapes Go.ChangeShapes Go.Deep
set_option linter.unusedVariables false
set_option linter.unusedSimpArgs false

set_option maxRecDepth 100000 in
set_option maxHeartbeats 4000000 in
theorem law_InfoKeeps {w : World} (c : Array Value) (B : Br) (hb : BrC w c B) (ho : B.ok) (i : Int) (hi : 0 ≤ i ∧ i < 256) :
    Calls Try.prog 9 #[.agg c, .int .u8 i] w fun e w' => e = .returned (.bool true) ∧ Ext w w' := by
  have hz0 : c.size = 20 := by
    obtain ⟨_, _, _, h, _⟩ := hb.facts ho.hd.1
    exact h
  have hi20 := Lib.hid (show (Try.prog.info? 33).map (·.size) = some c.size by rw [hz0]; exact size_br)
  have HCZ := Lib.hid hz0
  have hE00 : Ext w (w.alloc (.cells c 33)) := ((Ext.refl w).alloc _)
  have hL00 : (w.alloc (.cells c 33)).heap[w.heap.size]? = some (.cells c 33 (0, 0)) := heap_alloc_new _ _
  have hS00 : w.heap.size < (w.alloc (.cells c 33)).heap.size := heap_lt hL00
  have hB00 := hb.ext hE00
  clear hz0
  have HP := Lib.hid hb
  clear hb
  have HhE00 := Lib.hid hE00
  have HhL00 := Lib.hid hL00
  have HhS00 := Lib.hid hS00
  have HhB00 := Lib.hid hB00
  clear hE00 hL00 hS00 hB00
  go_enter Try.func9, Try.ntmps9
  go_wp2_with fail
  have hE00 := HhE00.out
  clear HhE00
  have hL00 := HhL00.out
  clear HhL00
  have hS00 := HhS00.out
  clear HhS00
  have hB00 := HhB00.out
  clear HhB00
  generalize (w.alloc (.cells c 33)) = W0 at *
  obtain ⟨bx, hq⟩ : ∃ n, w.heap.size = n := ⟨_, rfl⟩
  rw [hq] at hL00 hS00 ⊢
  have HE0 := Lib.hid hE00
  have HL0 := Lib.hid hL00
  have HB0 := Lib.hid hB00
  have HS0 := Lib.hid hS00
  have HWB := Lib.hid hq
  clear hE00 hL00 hB00 hS00 hq
  refine (infw_awake _).mono ?_
  rintro e v1 ⟨rfl, E1⟩
  go_wp2_with (first | fail | ((with_reducible refine at_load 33 ?_); refine wpList_load_row rfl 33 _ rfl bx rfl 33 c (0, 0) _ ((E1.block _ HS0.out).trans HL0.out) Try.underlying33 rfl hi20.out ?_))
  refine (few_any c B _ (HB0.out.ext E1) ho).mono ?_
  rintro e v2 ⟨f, rfl, hx2, hf⟩
  have E2 := Ext.trans E1 hx2
  clear E1 hx2
  cases f
  · go_wp2_with fail
    go_ret
    exact ⟨rfl, HE0.out.trans E2⟩
  have hfew := Lib.hid (hf.1 rfl)
  clear hf
  have hn1 := hfew.out.2.1
  have HN := Lib.hid (show B.np ≤ 1000 ∧ B.no ≤ 1000 ∧ B.nf ≤ 1000 by have := hfew.out; omega)
  have hn8 : B.np < 1000 := by have := hfew.out; omega
  go_wp2_with (first
    | fail
    | ((with_reducible refine at_load 33 ?_); refine wpList_load_row rfl 33 _ rfl bx rfl 33 c (0, 0) _ ((E2.block _ HS0.out).trans HL0.out) Try.underlying33 rfl hi20.out ?_))
  refine (at_any c B i _ (HB0.out.ext E2) ho hi hn1).mono ?_
  rintro e v3 ⟨rfl, hx⟩
  have E3 := Ext.trans E2 hx
  clear E2 hx
  obtain ⟨k, hk0⟩ : ∃ k, i.toNat % B.np = k := ⟨_, rfl⟩
  have hk : k < B.np := by rw [← hk0]; exact Nat.mod_lt _ hn1
  have hk8 : k < 1000 := by omega
  rw [hk0]
  clear hk0
  have h89 := Lib.hid (len89 ho hk)
  have HTM := Lib.hid (tim_of hfew.out.1 hk)
  have HTF := Lib.hid (hfew.out.1.2 k hk).2.1
  go_wp2_with (first
    | fail
    | ((with_reducible refine at_load 33 ?_); refine wpList_load_row rfl 33 _ rfl bx rfl 33 c (0, 0) _ ((E3.block _ HS0.out).trans HL0.out) Try.underlying33 rfl hi20.out ?_))
  refine (clone_any c B _ (HB0.out.ext E3) ho HN.out).mono ?_
  rintro e u4 ⟨cx, rfl, hO, hx⟩
  have Eu := Ext.trans E3 hx
  have hcxz := Lib.hid (size_z20.trans (hO.size ho).symm)
  have hcxo := Lib.hid (hO.one ho)
  have hcxi := Lib.hid (show (Try.prog.info? 33).map (·.size) = some cx.size by rw [hO.size ho]; exact size_br)
  obtain ⟨gx, hM⟩ := hO.made hx.size hn1
  obtain ⟨Nx, hN0, hsz⟩ := nameLe hx.size
  have hNE : W0.heap.size ≤ Nx := by
    rw [← hN0]
    exact E3.size
  rw [hN0] at hM
  have HMK := Lib.hid (show ∀ wx : World, wx = u4.alloc (.cells cx 33) → BrG wx (fun n => Nx ≤ n ∧ n < u4.heap.size + 1) u4.heap.size gx B ∧ Ext W0 wx from by
    rintro _ rfl
    exact ⟨hM, Eu.alloc _⟩)
  clear hM hO hx Eu hN0 E3
  obtain ⟨X, hX0⟩ : ∃ n, u4.heap.size = n := ⟨_, rfl⟩
  have HX0 := Lib.hid hX0
  rw [hX0] at HMK hsz
  have hsx := Lib.hid (show Nx ≤ X ∧ W0.heap.size ≤ Nx from ⟨hsz, hNE⟩)
  clear hsz hNE hX0
  go_wp2_with (first
    | fail
    | ((with_reducible refine at_store 33 ?_); refine wpList_store_new3 rfl rfl 33 _ _ _ rfl _ cx _ rfl ?_ rfl hcxi.out hcxz.out hcxo.out ?_; · rfl
       intro wx hwx
       have hmk := HMK.out wx hwx
       obtain ⟨hBx, E5⟩ := hmk
       have H5x := Lib.hid hBx
       rw [HX0.out]
       clear hwx hBx HMK HX0 hcxz hcxo hcxi
       obtain ⟨hXl, hgl, hne⟩ := H5x.out.lt
       obtain ⟨cap, c17, hca, hcb⟩ := H5x.out.cell17 ho
       have hfr := H5x.out.frozen
       have p2 := (H5x.out.cellg (i := k * 89 + 2) (lt89 (N := (B).np) hk (by decide))).trans (Br.ok.gb ho (k := k) hk 2 rfl)
       have p18 := (H5x.out.cellg (i := k * 89 + 18) (lt89 (N := (B).np) hk (by decide))).trans (Br.ok.gi ho (k := k) hk 18 rfl)
       have p86 := (H5x.out.cellg (i := k * 89 + 86) (lt89 (N := (B).np) hk (by decide))).trans (Br.ok.gi ho (k := k) hk 86 rfl)
       have p50 := (H5x.out.cellg (i := k * 89 + 50) (lt89 (N := (B).np) hk (by decide))).trans (Br.ok.gb ho (k := k) hk 50 rfl)
       have p36 := (H5x.out.cellg (i := k * 89 + 36) (lt89 (N := (B).np) hk (by decide))).trans (Br.ok.gb ho (k := k) hk 36 rfl)))
  have HZ6 := Lib.hid (show BrG _ (fun n => Nx ≤ n ∧ n < X + 1) X gx (kp0 B k) from (((((H5x.out.setp (k := k) (j := 2) hk (by decide) (.bool true)).setp (k := k) (j := 18) hk (by decide) (.int .i64 2)).setp (k := k) (j := 86) hk (by decide) (.int .i64 3)).setp (k := k) (j := 50) hk (by decide) (.bool false)).setp (k := k) (j := 36) hk (by decide) (.bool true)))
  have okz6 : Br.ok (kp0 B k) := (kp0_ok ho hk)
  have hmz := ((((((Mut.refl (fun n => Nx ≤ n ∧ n < X + 1) wx).setCell (p := ⟨gx, k * 89 + 2, none⟩) (.inl H5x.out.F2) (.bool true)).setCell (p := ⟨gx, k * 89 + 18, none⟩) (.inl H5x.out.F2) (.int .i64 2)).setCell (p := ⟨gx, k * 89 + 86, none⟩) (.inl H5x.out.F2) (.int .i64 3)).setCell (p := ⟨gx, k * 89 + 50, none⟩) (.inl H5x.out.F2) (.bool false)).setCell (p := ⟨gx, k * 89 + 36, none⟩) (.inl H5x.out.F2) (.bool true))
  have EZ6 := Ext.mutE E5 hmz (fun n hn h1 => by have := h1.1; have := hsx.out; omega)
  clear E5
  have HMZ := Lib.hid hmz
  clear hmz
  clear c17 hfr p2 p18 p86 p50 p36
  generalize (World.setCell (World.setCell (World.setCell (World.setCell (World.setCell wx _ _) _ _) _ _) _ _) _ _) = wk at *
  have hPz := HZ6.out.pv (k := k) (show k < Br.np (kp0 B k) by rw [kp0_np]; exact hk)
  rw [show port (Br.ps (kp0 B k)) k = (kp0P B k) from kp0_port h89.out] at hPz
  have HLEN := Lib.hid (show ((kp0P B k)).length = 89 from kp0_plen h89.out)
  have HL_68 := Lib.hid (show ((kp0P B k))[68]? = some (.int .u64 (B.gi k 68)) from by unfold kp0P; simp only [List.getElem?_set_ne (show (2 : Nat) ≠ 68 by decide), List.getElem?_set_ne (show (18 : Nat) ≠ 68 by decide), List.getElem?_set_ne (show (86 : Nat) ≠ 68 by decide), List.getElem?_set_ne (show (50 : Nat) ≠ 68 by decide), List.getElem?_set_ne (show (36 : Nat) ≠ 68 by decide)]; exact (port_at (by decide)).trans (ho.gi hk 68 rfl))
  have HL_69 := Lib.hid (show ((kp0P B k))[69]? = some (.int .u32 (B.gi k 69)) from by unfold kp0P; simp only [List.getElem?_set_ne (show (2 : Nat) ≠ 69 by decide), List.getElem?_set_ne (show (18 : Nat) ≠ 69 by decide), List.getElem?_set_ne (show (86 : Nat) ≠ 69 by decide), List.getElem?_set_ne (show (50 : Nat) ≠ 69 by decide), List.getElem?_set_ne (show (36 : Nat) ≠ 69 by decide)]; exact (port_at (by decide)).trans (ho.gi hk 69 rfl))
  have HL_70 := Lib.hid (show ((kp0P B k))[70]? = some (.int .u64 (B.gi k 70)) from by unfold kp0P; simp only [List.getElem?_set_ne (show (2 : Nat) ≠ 70 by decide), List.getElem?_set_ne (show (18 : Nat) ≠ 70 by decide), List.getElem?_set_ne (show (86 : Nat) ≠ 70 by decide), List.getElem?_set_ne (show (50 : Nat) ≠ 70 by decide), List.getElem?_set_ne (show (36 : Nat) ≠ 70 by decide)]; exact (port_at (by decide)).trans (ho.gi hk 70 rfl))
  have HL_71 := Lib.hid (show ((kp0P B k))[71]? = some (.int .u16 (B.gi k 71)) from by unfold kp0P; simp only [List.getElem?_set_ne (show (2 : Nat) ≠ 71 by decide), List.getElem?_set_ne (show (18 : Nat) ≠ 71 by decide), List.getElem?_set_ne (show (86 : Nat) ≠ 71 by decide), List.getElem?_set_ne (show (50 : Nat) ≠ 71 by decide), List.getElem?_set_ne (show (36 : Nat) ≠ 71 by decide)]; exact (port_at (by decide)).trans (ho.gi hk 71 rfl))
  have HL_72 := Lib.hid (show ((kp0P B k))[72]? = some (.int .u16 (B.gi k 72)) from by unfold kp0P; simp only [List.getElem?_set_ne (show (2 : Nat) ≠ 72 by decide), List.getElem?_set_ne (show (18 : Nat) ≠ 72 by decide), List.getElem?_set_ne (show (86 : Nat) ≠ 72 by decide), List.getElem?_set_ne (show (50 : Nat) ≠ 72 by decide), List.getElem?_set_ne (show (36 : Nat) ≠ 72 by decide)]; exact (port_at (by decide)).trans (ho.gi hk 72 rfl))
  have HL_78 := Lib.hid (show ((kp0P B k))[78]? = some (.int .i64 (B.gi k 78)) from by unfold kp0P; simp only [List.getElem?_set_ne (show (2 : Nat) ≠ 78 by decide), List.getElem?_set_ne (show (18 : Nat) ≠ 78 by decide), List.getElem?_set_ne (show (86 : Nat) ≠ 78 by decide), List.getElem?_set_ne (show (50 : Nat) ≠ 78 by decide), List.getElem?_set_ne (show (36 : Nat) ≠ 78 by decide)]; exact (port_at (by decide)).trans (ho.gi hk 78 rfl))
  have HL_79 := Lib.hid (show ((kp0P B k))[79]? = some (.int .i64 (B.gi k 79)) from by unfold kp0P; simp only [List.getElem?_set_ne (show (2 : Nat) ≠ 79 by decide), List.getElem?_set_ne (show (18 : Nat) ≠ 79 by decide), List.getElem?_set_ne (show (86 : Nat) ≠ 79 by decide), List.getElem?_set_ne (show (50 : Nat) ≠ 79 by decide), List.getElem?_set_ne (show (36 : Nat) ≠ 79 by decide)]; exact (port_at (by decide)).trans (ho.gi hk 79 rfl))
  have HL_80 := Lib.hid (show ((kp0P B k))[80]? = some (.int .i64 (B.gi k 80)) from by unfold kp0P; simp only [List.getElem?_set_ne (show (2 : Nat) ≠ 80 by decide), List.getElem?_set_ne (show (18 : Nat) ≠ 80 by decide), List.getElem?_set_ne (show (86 : Nat) ≠ 80 by decide), List.getElem?_set_ne (show (50 : Nat) ≠ 80 by decide), List.getElem?_set_ne (show (36 : Nat) ≠ 80 by decide)]; exact (port_at (by decide)).trans (ho.gi hk 80 rfl))
  have HL_81 := Lib.hid (show ((kp0P B k))[81]? = some (.int .i64 (B.gi k 81)) from by unfold kp0P; simp only [List.getElem?_set_ne (show (2 : Nat) ≠ 81 by decide), List.getElem?_set_ne (show (18 : Nat) ≠ 81 by decide), List.getElem?_set_ne (show (86 : Nat) ≠ 81 by decide), List.getElem?_set_ne (show (50 : Nat) ≠ 81 by decide), List.getElem?_set_ne (show (36 : Nat) ≠ 81 by decide)]; exact (port_at (by decide)).trans (ho.gi hk 81 rfl))
  have hEQ := (show Br.setPort (kp0 B k) k (setL (kp0P B k) 51 [.int .i64 0, .bool false, .bool false, .bool false, .bool false, .bool false, .bool false, .int .i64 0, .int .u64 (B.gi k 68), .int .u32 (B.gi k 69), .int .u64 (B.gi k 70), .int .u16 (B.gi k 71), .int .u16 (B.gi k 72), .int .i64 (B.gi k 78), .int .i64 (B.gi k 79), .int .i64 (B.gi k 80), .int .i64 (B.gi k 81)]) = kp1 B k from (kp1_eq h89.out).symm)
  obtain ⟨L, hL⟩ : ∃ L, (kp0P B k) = L := ⟨_, rfl⟩
  rw [hL] at hPz HLEN hEQ HL_68 HL_69 HL_70 HL_71 HL_72 HL_78 HL_79 HL_80 HL_81
  clear hL
  have HS_68 := Lib.hid (seg_of (L := L) (j := 68) (l := [.int .u64 (B.gi k 68), .int .u32 (B.gi k 69), .int .u64 (B.gi k 70), .int .u16 (B.gi k 71), .int .u16 (B.gi k 72)]) (by rw [HLEN.out]; exact (by decide : 68 + 5 ≤ 89)) (fun i hi => by
    match i, hi with
    | 0, _ => exact HL_68.out
    | 1, _ => exact HL_69.out
    | 2, _ => exact HL_70.out
    | 3, _ => exact HL_71.out
    | 4, _ => exact HL_72.out
    | i + 5, hi => simp at hi; omega))
  have HS_78 := Lib.hid (seg_of (L := L) (j := 78) (l := [.int .i64 (B.gi k 78), .int .i64 (B.gi k 79), .int .i64 (B.gi k 80), .int .i64 (B.gi k 81)]) (by rw [HLEN.out]; exact (by decide : 78 + 4 ≤ 89)) (fun i hi => by
    match i, hi with
    | 0, _ => exact HL_78.out
    | 1, _ => exact HL_79.out
    | 2, _ => exact HL_80.out
    | 3, _ => exact HL_81.out
    | i + 4, hi => simp at hi; omega))
  have hP_wk : Pv wk gx (k * 89) L := hPz
  clear hPz
  refine beginW (S := fun W' => Ext wk W') (S2 := fun W' => Pm gx (k * 89) wk W') 12 (by kernel_rfl) ?_
  intro wd hqx
  have hq0 : Ext wk wd := hqx
  refine takeW (i := 0) (z := 12) (v := (.pointer (some ⟨gx, (k * 89), none⟩))) rfl rfl (by kernel_rfl) (by kernel_rfl) (by kernel_rfl) (by kernel_rfl) (by kernel_rfl) (by kernel_rfl) (fun _ _ _ h => h) (Or.inl ⟨rfl, fun _ _ => rfl⟩) hq0 (Ext.pm hq0 gx (k * 89)) ?_
  simp only [Act.put, List.setIfInBounds_toArray, List.set_cons_zero, List.set_cons_succ]
  refine takeW (i := 1) (z := 12) (v := (.pointer (some ⟨gx, (k * 89), none⟩))) rfl rfl (by kernel_rfl) (by kernel_rfl) (by kernel_rfl) (by kernel_rfl) (by kernel_rfl) (by kernel_rfl) (fun _ _ _ h => h) (Or.inl ⟨rfl, fun _ _ => rfl⟩) hq0 (Ext.pm hq0 gx (k * 89)) ?_
  simp only [Act.put, List.setIfInBounds_toArray, List.set_cons_zero, List.set_cons_succ]
  refine takeW (i := 2) (z := 12) (v := (.pointer (some ⟨gx, (k * 89), none⟩))) rfl rfl (by kernel_rfl) (by kernel_rfl) (by kernel_rfl) (by kernel_rfl) (by kernel_rfl) (by kernel_rfl) (fun _ _ _ h => h) (Or.inl ⟨rfl, fun _ _ => rfl⟩) hq0 (Ext.pm hq0 gx (k * 89)) ?_
  simp only [Act.put, List.setIfInBounds_toArray, List.set_cons_zero, List.set_cons_succ]
  refine takeW (i := 3) (z := 12) (v := (.pointer (some ⟨gx, (k * 89) + 68, none⟩))) rfl rfl (by kernel_rfl) (by kernel_rfl) (by kernel_rfl) (by kernel_rfl) (by kernel_rfl) (by kernel_rfl) (fun _ _ _ h => h) (Or.inl ⟨rfl, fun _ _ => rfl⟩) hq0 (Ext.pm hq0 gx (k * 89)) ?_
  simp only [Act.put, List.setIfInBounds_toArray, List.set_cons_zero, List.set_cons_succ]
  refine takeW (i := 4) (z := 12) (v := _) rfl rfl (by kernel_rfl) (by kernel_rfl) (by kernel_rfl) (by kernel_rfl) (by kernel_rfl) (by kernel_rfl) (fun _ _ _ h => h) (yieldsIf_load_mid rfl 28 _ rfl gx ((k * 89) + 68) rfl ([.int .u64 (B.gi k 68), .int .u32 (B.gi k 69), .int .u64 (B.gi k 70), .int .u16 (B.gi k 71), .int .u16 (B.gi k 72)]) _ (fun W' hW' => (hP_wk.ext hW').range (j := 68) (n := 5) HS_68.out (by decide)) Try.underlying28 rfl (by kernel_rfl)) hq0 (Ext.pm hq0 gx (k * 89)) ?_
  simp only [Act.put, List.setIfInBounds_toArray, List.set_cons_zero, List.set_cons_succ]
  refine takeW (i := 5) (z := 12) (v := (.pointer (some ⟨gx, (k * 89), none⟩))) rfl rfl (by kernel_rfl) (by kernel_rfl) (by kernel_rfl) (by kernel_rfl) (by kernel_rfl) (by kernel_rfl) (fun _ _ _ h => h) (Or.inl ⟨rfl, fun _ _ => rfl⟩) hq0 (Ext.pm hq0 gx (k * 89)) ?_
  simp only [Act.put, List.setIfInBounds_toArray, List.set_cons_zero, List.set_cons_succ]
  refine takeW (i := 6) (z := 12) (v := (.pointer (some ⟨gx, (k * 89), none⟩))) rfl rfl (by kernel_rfl) (by kernel_rfl) (by kernel_rfl) (by kernel_rfl) (by kernel_rfl) (by kernel_rfl) (fun _ _ _ h => h) (Or.inl ⟨rfl, fun _ _ => rfl⟩) hq0 (Ext.pm hq0 gx (k * 89)) ?_
  simp only [Act.put, List.setIfInBounds_toArray, List.set_cons_zero, List.set_cons_succ]
  refine takeW (i := 7) (z := 12) (v := (.pointer (some ⟨gx, (k * 89) + 78, none⟩))) rfl rfl (by kernel_rfl) (by kernel_rfl) (by kernel_rfl) (by kernel_rfl) (by kernel_rfl) (by kernel_rfl) (fun _ _ _ h => h) (Or.inl ⟨rfl, fun _ _ => rfl⟩) hq0 (Ext.pm hq0 gx (k * 89)) ?_
  simp only [Act.put, List.setIfInBounds_toArray, List.set_cons_zero, List.set_cons_succ]
  refine takeW (i := 8) (z := 12) (v := _) rfl rfl (by kernel_rfl) (by kernel_rfl) (by kernel_rfl) (by kernel_rfl) (by kernel_rfl) (by kernel_rfl) (fun _ _ _ h => h) (yieldsIf_load_mid rfl 24 _ rfl gx ((k * 89) + 78) rfl ([.int .i64 (B.gi k 78), .int .i64 (B.gi k 79), .int .i64 (B.gi k 80), .int .i64 (B.gi k 81)]) _ (fun W' hW' => (hP_wk.ext hW').range (j := 78) (n := 4) HS_78.out (by decide)) Try.underlying24 rfl (by kernel_rfl)) hq0 (Ext.pm hq0 gx (k * 89)) ?_
  simp only [Act.put, List.setIfInBounds_toArray, List.set_cons_zero, List.set_cons_succ]
  refine takeW (i := 9) (z := 12) (v := (.agg #[.int .i64 0, .bool false, .bool false, .bool false, .bool false, .bool false, .bool false, .int .i64 0, .int .u64 (B.gi k 68), .int .u32 (B.gi k 69), .int .u64 (B.gi k 70), .int .u16 (B.gi k 71), .int .u16 (B.gi k 72), .int .i64 (B.gi k 78), .int .i64 (B.gi k 79), .int .i64 (B.gi k 80), .int .i64 (B.gi k 81)])) rfl rfl (by kernel_rfl) (by kernel_rfl) (by kernel_rfl) (by kernel_rfl) (by kernel_rfl) (by kernel_rfl) (fun _ _ _ h => h) (yieldsIf_build rfl 49 _ rfl [(8, .agg #[.int .u64 (B.gi k 68), .int .u32 (B.gi k 69), .int .u64 (B.gi k 70), .int .u16 (B.gi k 71), .int .u16 (B.gi k 72)]), (9, .agg #[.int .i64 (B.gi k 78), .int .i64 (B.gi k 79), .int .i64 (B.gi k 80), .int .i64 (B.gi k 81)])] rfl #[.int .i64 0, .bool false, .bool false, .bool false, .bool false, .bool false, .bool false, .int .i64 0, .int .u64 (B.gi k 68), .int .u32 (B.gi k 69), .int .u64 (B.gi k 70), .int .u16 (B.gi k 71), .int .u16 (B.gi k 72), .int .i64 (B.gi k 78), .int .i64 (B.gi k 79), .int .i64 (B.gi k 80), .int .i64 (B.gi k 81)] (by kernel_rfl)) hq0 (Ext.pm hq0 gx (k * 89)) ?_
  simp only [Act.put, List.setIfInBounds_toArray, List.set_cons_zero, List.set_cons_succ]
  refine takeWb (i := 10) (z := 12) (v := (.pointer (some ⟨gx, (k * 89), none⟩))) rfl (by kernel_rfl) (by kernel_rfl) (by kernel_rfl) (by kernel_rfl) (fun _ _ _ h => h) (Or.inl ⟨rfl, fun _ _ => rfl⟩) hq0 (Ext.pm hq0 gx (k * 89)) ?_
  simp only [Act.put, List.setIfInBounds_toArray, List.set_cons_zero, List.set_cons_succ]
  refine takeW (i := 11) (z := 12) (v := (.pointer (some ⟨gx, (k * 89) + 51, none⟩))) rfl rfl (by kernel_rfl) (by kernel_rfl) (by kernel_rfl) (by kernel_rfl) (by kernel_rfl) (by kernel_rfl) (fun _ _ _ h => h) (Or.inl ⟨rfl, fun _ _ => rfl⟩) hq0 (Ext.pm hq0 gx (k * 89)) ?_
  simp only [Act.put, List.setIfInBounds_toArray, List.set_cons_zero, List.set_cons_succ]
  refine runWl (z := 12) rfl rfl (by kernel_rfl) (fun K hK => ?_)
  refine wp_st_pv rfl 49 _ _ rfl gx (k * 89) 51 _ (hP_wk.ext hq0) _ #[.int .i64 0, .bool false, .bool false, .bool false, .bool false, .bool false, .bool false, .int .i64 0, .int .u64 (B.gi k 68), .int .u32 (B.gi k 69), .int .u64 (B.gi k 70), .int .u16 (B.gi k 71), .int .u16 (B.gi k 72), .int .i64 (B.gi k 78), .int .i64 (B.gi k 79), .int .i64 (B.gi k 80), .int .i64 (B.gi k 81)] rfl rfl rfl (by exact (by decide : 51 + 17 ≤ 89)) (by kernel_rfl) rfl (fun ws12 hp12 hm12 => ?_)
  have hr12 : Pm gx (k * 89) wk ws12 := (Ext.pm hq0 gx (k * 89)).trans hm12
  refine hK.out _ _ hr12 (fun _ => ?_)
  try simp only [Act.put, List.setIfInBounds_toArray, List.set_cons_zero, List.set_cons_succ]
  clear hK K
  refine wpAnyH_done (by kernel_rfl) ?_ _
  generalize ws12 = z1 at *
  have hP_z1 : Pv z1 gx (k * 89) (setL L 51 [.int .i64 0, .bool false, .bool false, .bool false, .bool false, .bool false, .bool false, .int .i64 0, .int .u64 (B.gi k 68), .int .u32 (B.gi k 69), .int .u64 (B.gi k 70), .int .u16 (B.gi k 71), .int .u16 (B.gi k 72), .int .i64 (B.gi k 78), .int .i64 (B.gi k 79), .int .i64 (B.gi k 80), .int .i64 (B.gi k 81)]) := hp12
  have E_z1 : Pm gx (k * 89) wk z1 := (Ext.pm hq0 gx (k * 89)).trans hm12
  clear hP_wk
  clear hq0 hqx hm12 hp12 hr12
  have hB := HZ6.out.pm (k := k) (show k < Br.np (kp0 B k) by rw [kp0_np]; exact hk) E_z1 hP_z1
  rw [hEQ] at hB
  have hm := E_z1.mutF (F := (fun n => Nx ≤ n ∧ n < X + 1)) HZ6.out.F2
  have E7 := Ext.mutE EZ6 hm (fun n hn h1 => by have := h1.1; have := hsx.out; omega)
  clear EZ6
  have H7x := Lib.hid (show BrG _ (fun n => Nx ≤ n ∧ n < X + 1) X gx (kp1 B k) from hB)
  clear hB hm hEQ HLEN HL_68 HL_69 HL_70 HL_71 HL_72 HL_78 HL_79 HL_80 HL_81 HS_68 HS_78 hP_z1
  obtain ⟨hXl, hgl, hne⟩ := H7x.out.lt
  obtain ⟨cap, c17, hca, hcb⟩ := H7x.out.cell17 (kp1_ok ho hk)
  rw [show ((kp1 B k)).np = B.np from kp1_np] at c17 hca
  have hfr := H7x.out.frozen
  have hkk : k < (kp1 B k).np := (show k < Br.np (kp1 B k) by rw [kp1_np]; exact hk)
  have hcw : clsL (port (Br.ps (kp1 B k)) k) = 1 := by rw [kp1_port h89.out]; exact kp_cls h89.out
  have htw : Typed PL (port (Br.ps (kp1 B k)) k) := br_typed (kp1_ok ho hk) hkk
  have hkc : k < Br.np (kp1 B k) := (show k < Br.np (kp1 B k) by rw [kp1_np]; exact hk)
  have hrw0 := H7x.out.range (k := k) hkc
  have cw68 : (port (Br.ps (kp1 B k)) k)[68]? = some (.int .u64 (B.gi k 68)) := (port_at (B := (kp1 B k)) (k := k) (j := 68) (by decide)).trans ((Br.ok.gi (kp1_ok ho hk) (k := k) hkc 68 rfl).trans (by rw [kp1_68 h89.out]))
  have cw69 : (port (Br.ps (kp1 B k)) k)[69]? = some (.int .u32 (B.gi k 69)) := (port_at (B := (kp1 B k)) (k := k) (j := 69) (by decide)).trans ((Br.ok.gi (kp1_ok ho hk) (k := k) hkc 69 rfl).trans (by rw [kp1_69 h89.out]))
  have cw70 : (port (Br.ps (kp1 B k)) k)[70]? = some (.int .u64 (B.gi k 70)) := (port_at (B := (kp1 B k)) (k := k) (j := 70) (by decide)).trans ((Br.ok.gi (kp1_ok ho hk) (k := k) hkc 70 rfl).trans (by rw [kp1_70 h89.out]))
  have cw71 : (port (Br.ps (kp1 B k)) k)[71]? = some (.int .u16 (B.gi k 71)) := (port_at (B := (kp1 B k)) (k := k) (j := 71) (by decide)).trans ((Br.ok.gi (kp1_ok ho hk) (k := k) hkc 71 rfl).trans (by rw [kp1_71 h89.out]))
  have cw72 : (port (Br.ps (kp1 B k)) k)[72]? = some (.int .u16 (B.gi k 72)) := (port_at (B := (kp1 B k)) (k := k) (j := 72) (by decide)).trans ((Br.ok.gi (kp1_ok ho hk) (k := k) hkc 72 rfl).trans (by rw [kp1_72 h89.out]))
  have cw78 : (port (Br.ps (kp1 B k)) k)[78]? = some (.int .i64 (B.gi k 78)) := (port_at (B := (kp1 B k)) (k := k) (j := 78) (by decide)).trans ((Br.ok.gi (kp1_ok ho hk) (k := k) hkc 78 rfl).trans (by rw [kp1_78 h89.out]))
  have cw79 : (port (Br.ps (kp1 B k)) k)[79]? = some (.int .i64 (B.gi k 79)) := (port_at (B := (kp1 B k)) (k := k) (j := 79) (by decide)).trans ((Br.ok.gi (kp1_ok ho hk) (k := k) hkc 79 rfl).trans (by rw [kp1_79 h89.out]))
  have cw80 : (port (Br.ps (kp1 B k)) k)[80]? = some (.int .i64 (B.gi k 80)) := (port_at (B := (kp1 B k)) (k := k) (j := 80) (by decide)).trans ((Br.ok.gi (kp1_ok ho hk) (k := k) hkc 80 rfl).trans (by rw [kp1_80 h89.out]))
  have cw81 : (port (Br.ps (kp1 B k)) k)[81]? = some (.int .i64 (B.gi k 81)) := (port_at (B := (kp1 B k)) (k := k) (j := 81) (by decide)).trans ((Br.ok.gi (kp1_ok ho hk) (k := k) hkc 81 rfl).trans (by rw [kp1_81 h89.out]))
  have cw86 : (port (Br.ps (kp1 B k)) k)[86]? = some (.int .i64 3) := (port_at (B := (kp1 B k)) (k := k) (j := 86) (by decide)).trans ((Br.ok.gi (kp1_ok ho hk) (k := k) hkc 86 rfl).trans (by rw [kp1_86 h89.out]))
  have cw43 : (port (Br.ps (kp1 B k)) k)[43]? = some (.bool (B.gb k 43)) := (port_at (B := (kp1 B k)) (k := k) (j := 43) (by decide)).trans ((Br.ok.gb (kp1_ok ho hk) (k := k) hkc 43 rfl).trans (by rw [kp1_43 h89.out]))
  have cw44 : (port (Br.ps (kp1 B k)) k)[44]? = some (.bool (B.gb k 44)) := (port_at (B := (kp1 B k)) (k := k) (j := 44) (by decide)).trans ((Br.ok.gb (kp1_ok ho hk) (k := k) hkc 44 rfl).trans (by rw [kp1_44 h89.out]))
  have hnw0 : (port (Br.ps (kp1 B k)) k).length = 89 := (port_typed (kp1_ok ho hk) (i := k) hkc).1
  have how := Lib.hid (all_oneCell_toArray (port_typed (kp1_ok ho hk) (i := k) hkc).one)
  obtain ⟨pw, hpw⟩ : ∃ p, port (Br.ps (kp1 B k)) k = p := ⟨_, rfl⟩
  rw [hpw] at hrw0 hnw0 how cw68 cw69 cw70 cw71 cw72 cw78 cw79 cw80 cw81 cw86 cw43 cw44 hcw htw
  clear hpw
  have hrw := Lib.hid hrw0
  clear hrw0
  have hiw := Lib.hid (show (Try.prog.info? 51).map (·.size) = some pw.length by rw [hnw0]; exact size_port)
  have hjw := Lib.hid (show (Try.prog.info? 51).map (·.size) = some pw.toArray.size by rw [List.size_toArray, hnw0]; exact size_port)
  have hswz := Lib.hid (show PZ.size = pw.toArray.size by rw [List.size_toArray]; exact hnw0.symm)
  have hzw := zero_port
  clear hnw0
  clear hkc
  have HCW := Lib.hid hcw
  have HTW := Lib.hid htw
  clear hcw htw hkk
  go_wp2_with (first
    | fail
    | ((with_reducible refine at_load 51 ?_); refine wpList_load_mid rfl 51 _ rfl gx (k * 89) rfl pw _ hrw.out Try.underlying51 rfl hiw.out ?_)
    | ((with_reducible refine at_store 51 ?_); refine wpList_store_new3 rfl rfl 51 _ _ _ rfl PZ pw.toArray _ rfl ?_ rfl hjw.out hswz.out (by rw [Array.all_toList]; exact how.out) ?_; · rfl
       intro wfw hwf
       have hY := H7x.out.alloc (.cells pw.toArray 51)
       rw [← hwf] at hY
       have hE0 : Ext z1 wfw := by rw [hwf]; exact (Ext.refl _).alloc _
       have E8 := E7.trans hE0
       have hbx := heap_alloc_new z1 (.cells pw.toArray 51)
       rw [← hwf] at hbx
       have hxb := Lib.hid H7x.out.lt.1
       obtain ⟨fw, hfb⟩ : ∃ n, z1.heap.size = n := ⟨_, rfl⟩
       rw [hfb] at hbx hxb ⊢
       have HFw := Lib.hid hbx
       have HGw := hxb
       have H8x := Lib.hid hY
       clear hwf hY hbx hxb hfb hE0 E7 hzw))
  refine (inf_step _ (fun n => Nx ≤ n ∧ n < X + 1) X gx k (kp1 B k) H8x.out (kp1_ok ho hk) (show k < Br.np (kp1 B k) by rw [kp1_np]; exact hk) (show Br.np (kp1 B k) < 1000 by have := hn8; simpa only [kp1_np] using this) (kp1_tim h89.out HTF.out)).mono ?_
  rw [kp2_step h89.out]
  rintro e v9 ⟨he, hB, hm⟩
  obtain rfl : e = .returned (.bool true) := he
  have HFw := Lib.hid ((hm.heap (heap_lt HFw.out) (fun hh => by have h1 := hh.2; have h2 := HGw.out; omega)).trans HFw.out)
  have ok9 : Br.ok (kp2 B k) := by
    have := infF_ok (B := (kp1 B k)) (k := k) (kp1_ok ho hk) (show k < Br.np (kp1 B k) by rw [kp1_np]; exact hk) (kp1_tim h89.out HTF.out)
    rw [kp2_step h89.out] at this
    exact this
  have E9 := Ext.mutE E8 hm (fun n hn h1 => by have := h1.1; have := hsx.out; omega)
  clear E8
  have H9x := Lib.hid (show BrG _ (fun n => Nx ≤ n ∧ n < X + 1) X gx (kp2 B k) from hB)
  clear hB hm
  obtain ⟨hXl, hgl, hne⟩ := H9x.out.lt
  obtain ⟨cap, c17, hca, hcb⟩ := H9x.out.cell17 ok9
  rw [show ((kp2 B k)).np = B.np from kp2_np] at c17 hca
  have hfr := H9x.out.frozen
  have hkc : k < Br.np (kp2 B k) := (show k < Br.np (kp2 B k) by rw [kp2_np]; exact hk)
  have hrq0 := H9x.out.range (k := k) hkc
  have cq68 : (port (Br.ps (kp2 B k)) k)[68]? = some (.int .u64 (B.gi k 68)) := (port_at (B := (kp2 B k)) (k := k) (j := 68) (by decide)).trans ((Br.ok.gi ok9 (k := k) hkc 68 rfl).trans (by rw [kp2_68 h89.out]))
  have cq69 : (port (Br.ps (kp2 B k)) k)[69]? = some (.int .u32 (B.gi k 69)) := (port_at (B := (kp2 B k)) (k := k) (j := 69) (by decide)).trans ((Br.ok.gi ok9 (k := k) hkc 69 rfl).trans (by rw [kp2_69 h89.out]))
  have cq70 : (port (Br.ps (kp2 B k)) k)[70]? = some (.int .u64 (B.gi k 70)) := (port_at (B := (kp2 B k)) (k := k) (j := 70) (by decide)).trans ((Br.ok.gi ok9 (k := k) hkc 70 rfl).trans (by rw [kp2_70 h89.out]))
  have cq71 : (port (Br.ps (kp2 B k)) k)[71]? = some (.int .u16 (B.gi k 71)) := (port_at (B := (kp2 B k)) (k := k) (j := 71) (by decide)).trans ((Br.ok.gi ok9 (k := k) hkc 71 rfl).trans (by rw [kp2_71 h89.out]))
  have cq72 : (port (Br.ps (kp2 B k)) k)[72]? = some (.int .u16 (B.gi k 72)) := (port_at (B := (kp2 B k)) (k := k) (j := 72) (by decide)).trans ((Br.ok.gi ok9 (k := k) hkc 72 rfl).trans (by rw [kp2_72 h89.out]))
  have cq78 : (port (Br.ps (kp2 B k)) k)[78]? = some (.int .i64 (B.gi k 78)) := (port_at (B := (kp2 B k)) (k := k) (j := 78) (by decide)).trans ((Br.ok.gi ok9 (k := k) hkc 78 rfl).trans (by rw [kp2_78 h89.out]))
  have cq79 : (port (Br.ps (kp2 B k)) k)[79]? = some (.int .i64 (B.gi k 79)) := (port_at (B := (kp2 B k)) (k := k) (j := 79) (by decide)).trans ((Br.ok.gi ok9 (k := k) hkc 79 rfl).trans (by rw [kp2_79 h89.out]))
  have cq80 : (port (Br.ps (kp2 B k)) k)[80]? = some (.int .i64 (B.gi k 80)) := (port_at (B := (kp2 B k)) (k := k) (j := 80) (by decide)).trans ((Br.ok.gi ok9 (k := k) hkc 80 rfl).trans (by rw [kp2_80 h89.out]))
  have cq81 : (port (Br.ps (kp2 B k)) k)[81]? = some (.int .i64 (B.gi k 81)) := (port_at (B := (kp2 B k)) (k := k) (j := 81) (by decide)).trans ((Br.ok.gi ok9 (k := k) hkc 81 rfl).trans (by rw [kp2_81 h89.out]))
  have cq86 : (port (Br.ps (kp2 B k)) k)[86]? = some (.int .i64 3) := (port_at (B := (kp2 B k)) (k := k) (j := 86) (by decide)).trans ((Br.ok.gi ok9 (k := k) hkc 86 rfl).trans (by rw [kp2_86 h89.out]))
  have cq43 : (port (Br.ps (kp2 B k)) k)[43]? = some (.bool (B.gb k 43)) := (port_at (B := (kp2 B k)) (k := k) (j := 43) (by decide)).trans ((Br.ok.gb ok9 (k := k) hkc 43 rfl).trans (by rw [kp2_43 h89.out]))
  have cq44 : (port (Br.ps (kp2 B k)) k)[44]? = some (.bool (B.gb k 44)) := (port_at (B := (kp2 B k)) (k := k) (j := 44) (by decide)).trans ((Br.ok.gb ok9 (k := k) hkc 44 rfl).trans (by rw [kp2_44 h89.out]))
  have cq36 : (port (Br.ps (kp2 B k)) k)[36]? = some (.bool false) := (port_at (B := (kp2 B k)) (k := k) (j := 36) (by decide)).trans ((Br.ok.gb ok9 (k := k) hkc 36 rfl).trans (by rw [kp2_36 h89.out]))
  have cq11 : (port (Br.ps (kp2 B k)) k)[11]? = some (.int .i64 (waitsV (B.gi k 78) (B.gi k 79) (B.gi k 80))) := (port_at (B := (kp2 B k)) (k := k) (j := 11) (by decide)).trans ((Br.ok.gi ok9 (k := k) hkc 11 rfl).trans (by rw [kp2_11 h89.out]))
  have hnq0 : (port (Br.ps (kp2 B k)) k).length = 89 := (port_typed ok9 (i := k) hkc).1
  have hoq := Lib.hid (all_oneCell_toArray (port_typed ok9 (i := k) hkc).one)
  obtain ⟨pq, hpq⟩ : ∃ p, port (Br.ps (kp2 B k)) k = p := ⟨_, rfl⟩
  rw [hpq] at hrq0 hnq0 hoq cq68 cq69 cq70 cq71 cq72 cq78 cq79 cq80 cq81 cq86 cq43 cq44 cq36 cq11
  clear hpq
  have hrq := Lib.hid hrq0
  clear hrq0
  have hiq := Lib.hid (show (Try.prog.info? 51).map (·.size) = some pq.length by rw [hnq0]; exact size_port)
  have hjq := Lib.hid (show (Try.prog.info? 51).map (·.size) = some pq.toArray.size by rw [List.size_toArray, hnq0]; exact size_port)
  have hsqz := Lib.hid (show PZ.size = pq.toArray.size by rw [List.size_toArray]; exact hnq0.symm)
  have hzq := zero_port
  clear hnq0
  clear hkc
  go_wp2_with (first
    | fail
    | ((with_reducible refine at_load 51 ?_); refine wpList_load_mid rfl 51 _ rfl gx (k * 89) rfl pq _ hrq.out Try.underlying51 rfl hiq.out ?_)
    | ((with_reducible refine at_store 51 ?_); refine wpList_store_new3 rfl rfl 51 _ _ _ rfl PZ pq.toArray _ rfl ?_ rfl hjq.out hsqz.out (by rw [Array.all_toList]; exact hoq.out) ?_; · rfl
       intro wfq hwf
       have HFw := Lib.hid (show wfq.heap[fw]? = some (.cells pw.toArray 51 (0, 0)) from by rw [hwf]; exact (heap_alloc_old _ _ (heap_lt HFw.out)).trans HFw.out)
       have hY := H9x.out.alloc (.cells pq.toArray 51)
       rw [← hwf] at hY
       have hE0 : Ext v9 wfq := by rw [hwf]; exact (Ext.refl _).alloc _
       have E10 := E9.trans hE0
       have hbx := heap_alloc_new v9 (.cells pq.toArray 51)
       rw [← hwf] at hbx
       have hxb := Lib.hid H9x.out.lt.1
       obtain ⟨fq, hfb⟩ : ∃ n, v9.heap.size = n := ⟨_, rfl⟩
       rw [hfb] at hbx hxb ⊢
       have HFq := Lib.hid hbx
       have HGq := hxb
       have H10x := Lib.hid hY
       clear hwf hY hbx hxb hfb hE0 E9 hzq))
  obtain ⟨r1, r2, r3, r4, r5, r6, -, -⟩ := HTF.out
  have qw68 : wfq.cell? ⟨fw, 68, none⟩ = some (.int .u64 (B.gi k 68)) := by rw [cell_of_row _ _ _ _ _ _ HFw.out]; simpa using cw68
  have qw69 : wfq.cell? ⟨fw, 69, none⟩ = some (.int .u32 (B.gi k 69)) := by rw [cell_of_row _ _ _ _ _ _ HFw.out]; simpa using cw69
  have qw70 : wfq.cell? ⟨fw, 70, none⟩ = some (.int .u64 (B.gi k 70)) := by rw [cell_of_row _ _ _ _ _ _ HFw.out]; simpa using cw70
  have qw71 : wfq.cell? ⟨fw, 71, none⟩ = some (.int .u16 (B.gi k 71)) := by rw [cell_of_row _ _ _ _ _ _ HFw.out]; simpa using cw71
  have qw72 : wfq.cell? ⟨fw, 72, none⟩ = some (.int .u16 (B.gi k 72)) := by rw [cell_of_row _ _ _ _ _ _ HFw.out]; simpa using cw72
  have qw78 : wfq.cell? ⟨fw, 78, none⟩ = some (.int .i64 (B.gi k 78)) := by rw [cell_of_row _ _ _ _ _ _ HFw.out]; simpa using cw78
  have qw79 : wfq.cell? ⟨fw, 79, none⟩ = some (.int .i64 (B.gi k 79)) := by rw [cell_of_row _ _ _ _ _ _ HFw.out]; simpa using cw79
  have qw80 : wfq.cell? ⟨fw, 80, none⟩ = some (.int .i64 (B.gi k 80)) := by rw [cell_of_row _ _ _ _ _ _ HFw.out]; simpa using cw80
  have qw81 : wfq.cell? ⟨fw, 81, none⟩ = some (.int .i64 (B.gi k 81)) := by rw [cell_of_row _ _ _ _ _ _ HFw.out]; simpa using cw81
  have qw86 : wfq.cell? ⟨fw, 86, none⟩ = some (.int .i64 3) := by rw [cell_of_row _ _ _ _ _ _ HFw.out]; simpa using cw86
  have qw43 : wfq.cell? ⟨fw, 43, none⟩ = some (.bool (B.gb k 43)) := by rw [cell_of_row _ _ _ _ _ _ HFw.out]; simpa using cw43
  have qw44 : wfq.cell? ⟨fw, 44, none⟩ = some (.bool (B.gb k 44)) := by rw [cell_of_row _ _ _ _ _ _ HFw.out]; simpa using cw44
  have qq68 : wfq.cell? ⟨fq, 68, none⟩ = some (.int .u64 (B.gi k 68)) := by rw [cell_of_row _ _ _ _ _ _ HFq.out]; simpa using cq68
  have qq69 : wfq.cell? ⟨fq, 69, none⟩ = some (.int .u32 (B.gi k 69)) := by rw [cell_of_row _ _ _ _ _ _ HFq.out]; simpa using cq69
  have qq70 : wfq.cell? ⟨fq, 70, none⟩ = some (.int .u64 (B.gi k 70)) := by rw [cell_of_row _ _ _ _ _ _ HFq.out]; simpa using cq70
  have qq71 : wfq.cell? ⟨fq, 71, none⟩ = some (.int .u16 (B.gi k 71)) := by rw [cell_of_row _ _ _ _ _ _ HFq.out]; simpa using cq71
  have qq72 : wfq.cell? ⟨fq, 72, none⟩ = some (.int .u16 (B.gi k 72)) := by rw [cell_of_row _ _ _ _ _ _ HFq.out]; simpa using cq72
  have qq78 : wfq.cell? ⟨fq, 78, none⟩ = some (.int .i64 (B.gi k 78)) := by rw [cell_of_row _ _ _ _ _ _ HFq.out]; simpa using cq78
  have qq79 : wfq.cell? ⟨fq, 79, none⟩ = some (.int .i64 (B.gi k 79)) := by rw [cell_of_row _ _ _ _ _ _ HFq.out]; simpa using cq79
  have qq80 : wfq.cell? ⟨fq, 80, none⟩ = some (.int .i64 (B.gi k 80)) := by rw [cell_of_row _ _ _ _ _ _ HFq.out]; simpa using cq80
  have qq81 : wfq.cell? ⟨fq, 81, none⟩ = some (.int .i64 (B.gi k 81)) := by rw [cell_of_row _ _ _ _ _ _ HFq.out]; simpa using cq81
  have qq86 : wfq.cell? ⟨fq, 86, none⟩ = some (.int .i64 3) := by rw [cell_of_row _ _ _ _ _ _ HFq.out]; simpa using cq86
  have qq43 : wfq.cell? ⟨fq, 43, none⟩ = some (.bool (B.gb k 43)) := by rw [cell_of_row _ _ _ _ _ _ HFq.out]; simpa using cq43
  have qq44 : wfq.cell? ⟨fq, 44, none⟩ = some (.bool (B.gb k 44)) := by rw [cell_of_row _ _ _ _ _ _ HFq.out]; simpa using cq44
  have qq36 : wfq.cell? ⟨fq, 36, none⟩ = some (.bool false) := by rw [cell_of_row _ _ _ _ _ _ HFq.out]; simpa using cq36
  have qq11 : wfq.cell? ⟨fq, 11, none⟩ = some (.int .i64 (waitsV (B.gi k 78) (B.gi k 79) (B.gi k 80))) := by rw [cell_of_row _ _ _ _ _ _ HFq.out]; simpa using cq11
  have hltw : fw < wfq.heap.size := heap_lt HFw.out
  have hltq : fq < wfq.heap.size := heap_lt HFq.out
  have RRq68 := Lib.hid (show wfq.rangeAt fq 68 [Value.int .u64 (B.gi k 68), Value.int .u32 (B.gi k 69), Value.int .u64 (B.gi k 70), Value.int .u16 (B.gi k 71), Value.int .u16 (B.gi k 72)] from (range_cons qq68 (range_cons qq69 (range_cons qq70 (range_cons qq71 (range_cons qq72 range_nil))))))
  have RRw68 := Lib.hid (show wfq.rangeAt fw 68 [Value.int .u64 (B.gi k 68), Value.int .u32 (B.gi k 69), Value.int .u64 (B.gi k 70), Value.int .u16 (B.gi k 71), Value.int .u16 (B.gi k 72)] from (range_cons qw68 (range_cons qw69 (range_cons qw70 (range_cons qw71 (range_cons qw72 range_nil))))))
  have RRq78 := Lib.hid (show wfq.rangeAt fq 78 [Value.int .i64 (B.gi k 78), Value.int .i64 (B.gi k 79), Value.int .i64 (B.gi k 80), Value.int .i64 (B.gi k 81)] from (range_cons qq78 (range_cons qq79 (range_cons qq80 (range_cons qq81 range_nil)))))
  have RRw78 := Lib.hid (show wfq.rangeAt fw 78 [Value.int .i64 (B.gi k 78), Value.int .i64 (B.gi k 79), Value.int .i64 (B.gi k 80), Value.int .i64 (B.gi k 81)] from (range_cons qw78 (range_cons qw79 (range_cons qw80 (range_cons qw81 range_nil)))))
  refine beginL (S := fun W' => Ext wfq W') (by kernel_rfl) ?_
  intro wd hqx
  have hq0 : Ext wfq wd := hqx
  refine takeL (i := 0) (v := (.bool true)) rfl (by kernel_rfl) (by kernel_rfl) (by kernel_rfl) (fun _ _ _ h => h) (Or.inl ⟨rfl, fun _ _ => rfl⟩) hq0 ?_
  simp only [Act.put, List.setIfInBounds_toArray, List.set_cons_zero, List.set_cons_succ]
  refine takeL (i := 1) (v := (.bool true)) rfl (by kernel_rfl) (by kernel_rfl) (by kernel_rfl) (fun _ _ _ h => h) (Or.inl ⟨rfl, fun _ _ => rfl⟩) hq0 ?_
  simp only [Act.put, List.setIfInBounds_toArray, List.set_cons_zero, List.set_cons_succ]
  refine takeL (i := 2) (v := (.bool true)) rfl (by kernel_rfl) (by kernel_rfl) (by kernel_rfl) (fun _ _ _ h => h) (Or.inl ⟨rfl, fun _ _ => rfl⟩) hq0 ?_
  simp only [Act.put, List.setIfInBounds_toArray, List.set_cons_zero, List.set_cons_succ]
  refine takeL (i := 3) (v := (.bool true)) rfl (by kernel_rfl) (by kernel_rfl) (by kernel_rfl) (fun _ _ _ h => h) (Or.inl ⟨rfl, fun _ _ => rfl⟩) hq0 ?_
  simp only [Act.put, List.setIfInBounds_toArray, List.set_cons_zero, List.set_cons_succ]
  refine takeL (i := 4) (v := (.bool true)) rfl (by kernel_rfl) (by kernel_rfl) (by kernel_rfl) (fun _ _ _ h => h) (Or.inl ⟨rfl, fun _ _ => rfl⟩) hq0 ?_
  simp only [Act.put, List.setIfInBounds_toArray, List.set_cons_zero, List.set_cons_succ]
  refine takeL (i := 5) (v := _) rfl (by kernel_rfl) (by kernel_rfl) (by kernel_rfl) (fun _ _ _ h => h) (yieldsIf_rowS rfl 51 _ rfl fw rfl pw.toArray _ _ (fun W' hW' => (hW'.block fw hltw).trans HFw.out) Try.underlying51 rfl hjw.out) hq0 ?_
  simp only [Act.put, List.setIfInBounds_toArray, List.set_cons_zero, List.set_cons_succ]
  refine runG (i := 6) rfl (by rfl) (by kernel_rfl) (fun K hK => ?_)
  go_simp
  refine (asi (class_L _ HTW.out) (show ((clsL pw : Nat) : Int) = 1 by rw [HCW.out]; rfl)).mono ?_
  rintro e wc1 ⟨rfl, hx⟩
  have hq1 := hq0.trans hx
  refine hK.out _ _ hq1 (fun hHeld => ?_)
  try simp only [Act.put, List.setIfInBounds_toArray, List.set_cons_zero, List.set_cons_succ]
  clear hK K hHeld
  refine takeL (i := 7) (v := (.bool true)) rfl (by kernel_rfl) (by kernel_rfl) (by kernel_rfl) (fun _ _ _ h => h) (Or.inl ⟨rfl, fun W' _ => by go_simp⟩) hq1 ?_
  simp only [Act.put, List.setIfInBounds_toArray, List.set_cons_zero, List.set_cons_succ]
  refine takeL (i := 8) (v := (.bool true)) rfl (by kernel_rfl) (by kernel_rfl) (by kernel_rfl) (fun _ _ _ h => h) (Or.inl ⟨rfl, fun _ _ => rfl⟩) hq1 ?_
  simp only [Act.put, List.setIfInBounds_toArray, List.set_cons_zero, List.set_cons_succ]
  refine takeL (i := 9) (v := (.bool true)) rfl (by kernel_rfl) (by kernel_rfl) (by kernel_rfl) (fun _ _ _ h => h) (Or.inl ⟨rfl, fun _ _ => rfl⟩) hq1 ?_
  simp only [Act.put, List.setIfInBounds_toArray, List.set_cons_zero, List.set_cons_succ]
  refine takeL (i := 10) (v := (.pointer (some ⟨fq, 68, none⟩))) rfl (by kernel_rfl) (by kernel_rfl) (by kernel_rfl) (fun _ _ _ h => h) (Or.inl ⟨rfl, fun _ _ => rfl⟩) hq1 ?_
  simp only [Act.put, List.setIfInBounds_toArray, List.set_cons_zero, List.set_cons_succ]
  refine takeL (i := 11) (v := _) rfl (by kernel_rfl) (by kernel_rfl) (by kernel_rfl) (fun _ _ _ h => h) (yieldsIf_load_mid rfl 28 _ rfl fq (68) rfl ([Value.int .u64 (B.gi k 68), Value.int .u32 (B.gi k 69), Value.int .u64 (B.gi k 70), Value.int .u16 (B.gi k 71), Value.int .u16 (B.gi k 72)]) _ (fun W' hW' => rangeAt_ext RRq68.out hW' hltq) Try.underlying28 rfl (by exact size_vec)) hq1 ?_
  simp only [Act.put, List.setIfInBounds_toArray, List.set_cons_zero, List.set_cons_succ]
  refine takeL (i := 12) (v := (.pointer (some ⟨fw, 68, none⟩))) rfl (by kernel_rfl) (by kernel_rfl) (by kernel_rfl) (fun _ _ _ h => h) (Or.inl ⟨rfl, fun _ _ => rfl⟩) hq1 ?_
  simp only [Act.put, List.setIfInBounds_toArray, List.set_cons_zero, List.set_cons_succ]
  refine takeL (i := 13) (v := _) rfl (by kernel_rfl) (by kernel_rfl) (by kernel_rfl) (fun _ _ _ h => h) (yieldsIf_load_mid rfl 28 _ rfl fw (68) rfl ([Value.int .u64 (B.gi k 68), Value.int .u32 (B.gi k 69), Value.int .u64 (B.gi k 70), Value.int .u16 (B.gi k 71), Value.int .u16 (B.gi k 72)]) _ (fun W' hW' => rangeAt_ext RRw68.out hW' hltw) Try.underlying28 rfl (by exact size_vec)) hq1 ?_
  simp only [Act.put, List.setIfInBounds_toArray, List.set_cons_zero, List.set_cons_succ]
  refine takeL (i := 14) (v := (.bool true)) rfl (by kernel_rfl) (by kernel_rfl) (by kernel_rfl) (fun _ _ _ h => h) (Or.inl ⟨rfl, fun W' _ => by go_simp⟩) hq1 ?_
  simp only [Act.put, List.setIfInBounds_toArray, List.set_cons_zero, List.set_cons_succ]
  refine takeL (i := 15) (v := (.bool true)) rfl (by kernel_rfl) (by kernel_rfl) (by kernel_rfl) (fun _ _ _ h => h) (Or.inl ⟨rfl, fun _ _ => rfl⟩) hq1 ?_
  simp only [Act.put, List.setIfInBounds_toArray, List.set_cons_zero, List.set_cons_succ]
  refine takeL (i := 16) (v := (.bool true)) rfl (by kernel_rfl) (by kernel_rfl) (by kernel_rfl) (fun _ _ _ h => h) (Or.inl ⟨rfl, fun _ _ => rfl⟩) hq1 ?_
  simp only [Act.put, List.setIfInBounds_toArray, List.set_cons_zero, List.set_cons_succ]
  refine takeL (i := 17) (v := (.pointer (some ⟨fq, 78, none⟩))) rfl (by kernel_rfl) (by kernel_rfl) (by kernel_rfl) (fun _ _ _ h => h) (Or.inl ⟨rfl, fun _ _ => rfl⟩) hq1 ?_
  simp only [Act.put, List.setIfInBounds_toArray, List.set_cons_zero, List.set_cons_succ]
  refine takeL (i := 18) (v := _) rfl (by kernel_rfl) (by kernel_rfl) (by kernel_rfl) (fun _ _ _ h => h) (yieldsIf_load_mid rfl 24 _ rfl fq (78) rfl ([Value.int .i64 (B.gi k 78), Value.int .i64 (B.gi k 79), Value.int .i64 (B.gi k 80), Value.int .i64 (B.gi k 81)]) _ (fun W' hW' => rangeAt_ext RRq78.out hW' hltq) Try.underlying24 rfl (by exact size_times)) hq1 ?_
  simp only [Act.put, List.setIfInBounds_toArray, List.set_cons_zero, List.set_cons_succ]
  refine takeL (i := 19) (v := (.pointer (some ⟨fw, 78, none⟩))) rfl (by kernel_rfl) (by kernel_rfl) (by kernel_rfl) (fun _ _ _ h => h) (Or.inl ⟨rfl, fun _ _ => rfl⟩) hq1 ?_
  simp only [Act.put, List.setIfInBounds_toArray, List.set_cons_zero, List.set_cons_succ]
  refine takeL (i := 20) (v := _) rfl (by kernel_rfl) (by kernel_rfl) (by kernel_rfl) (fun _ _ _ h => h) (yieldsIf_load_mid rfl 24 _ rfl fw (78) rfl ([Value.int .i64 (B.gi k 78), Value.int .i64 (B.gi k 79), Value.int .i64 (B.gi k 80), Value.int .i64 (B.gi k 81)]) _ (fun W' hW' => rangeAt_ext RRw78.out hW' hltw) Try.underlying24 rfl (by exact size_times)) hq1 ?_
  simp only [Act.put, List.setIfInBounds_toArray, List.set_cons_zero, List.set_cons_succ]
  refine takeL (i := 21) (v := (.bool true)) rfl (by kernel_rfl) (by kernel_rfl) (by kernel_rfl) (fun _ _ _ h => h) (Or.inl ⟨rfl, fun W' _ => by go_simp⟩) hq1 ?_
  simp only [Act.put, List.setIfInBounds_toArray, List.set_cons_zero, List.set_cons_succ]
  refine takeL (i := 22) (v := (.bool true)) rfl (by kernel_rfl) (by kernel_rfl) (by kernel_rfl) (fun _ _ _ h => h) (Or.inl ⟨rfl, fun _ _ => rfl⟩) hq1 ?_
  simp only [Act.put, List.setIfInBounds_toArray, List.set_cons_zero, List.set_cons_succ]
  refine takeL (i := 23) (v := (.bool true)) rfl (by kernel_rfl) (by kernel_rfl) (by kernel_rfl) (fun _ _ _ h => h) (Or.inl ⟨rfl, fun _ _ => rfl⟩) hq1 ?_
  simp only [Act.put, List.setIfInBounds_toArray, List.set_cons_zero, List.set_cons_succ]
  refine takeL (i := 24) (v := (.pointer (some ⟨fq, 86, none⟩))) rfl (by kernel_rfl) (by kernel_rfl) (by kernel_rfl) (fun _ _ _ h => h) (Or.inl ⟨rfl, fun _ _ => rfl⟩) hq1 ?_
  simp only [Act.put, List.setIfInBounds_toArray, List.set_cons_zero, List.set_cons_succ]
  refine takeL (i := 25) (v := _) rfl (by kernel_rfl) (by kernel_rfl) (by kernel_rfl) (fun _ _ _ h => h) (yieldsIf_cell rfl 3 _ rfl ⟨fq, 86, none⟩ rfl (.int .i64 3) _ (fun W' hW' => (hW'.cell (p := ⟨fq, 86, none⟩) hltq).trans qq86) Try.underlying3 rfl) hq1 ?_
  simp only [Act.put, List.setIfInBounds_toArray, List.set_cons_zero, List.set_cons_succ]
  refine takeL (i := 26) (v := (.pointer (some ⟨fw, 86, none⟩))) rfl (by kernel_rfl) (by kernel_rfl) (by kernel_rfl) (fun _ _ _ h => h) (Or.inl ⟨rfl, fun _ _ => rfl⟩) hq1 ?_
  simp only [Act.put, List.setIfInBounds_toArray, List.set_cons_zero, List.set_cons_succ]
  refine takeL (i := 27) (v := _) rfl (by kernel_rfl) (by kernel_rfl) (by kernel_rfl) (fun _ _ _ h => h) (yieldsIf_cell rfl 3 _ rfl ⟨fw, 86, none⟩ rfl (.int .i64 3) _ (fun W' hW' => (hW'.cell (p := ⟨fw, 86, none⟩) hltw).trans qw86) Try.underlying3 rfl) hq1 ?_
  simp only [Act.put, List.setIfInBounds_toArray, List.set_cons_zero, List.set_cons_succ]
  refine takeL (i := 28) (v := (.bool true)) rfl (by kernel_rfl) (by kernel_rfl) (by kernel_rfl) (fun _ _ _ h => h) (Or.inl ⟨rfl, fun W' _ => by go_simp⟩) hq1 ?_
  simp only [Act.put, List.setIfInBounds_toArray, List.set_cons_zero, List.set_cons_succ]
  refine takeL (i := 29) (v := (.bool true)) rfl (by kernel_rfl) (by kernel_rfl) (by kernel_rfl) (fun _ _ _ h => h) (Or.inl ⟨rfl, fun _ _ => rfl⟩) hq1 ?_
  simp only [Act.put, List.setIfInBounds_toArray, List.set_cons_zero, List.set_cons_succ]
  refine takeL (i := 30) (v := (.bool true)) rfl (by kernel_rfl) (by kernel_rfl) (by kernel_rfl) (fun _ _ _ h => h) (Or.inl ⟨rfl, fun _ _ => rfl⟩) hq1 ?_
  simp only [Act.put, List.setIfInBounds_toArray, List.set_cons_zero, List.set_cons_succ]
  refine takeL (i := 31) (v := (.pointer (some ⟨fq, 6, none⟩))) rfl (by kernel_rfl) (by kernel_rfl) (by kernel_rfl) (fun _ _ _ h => h) (Or.inl ⟨rfl, fun _ _ => rfl⟩) hq1 ?_
  simp only [Act.put, List.setIfInBounds_toArray, List.set_cons_zero, List.set_cons_succ]
  refine takeL (i := 32) (v := (.pointer (some ⟨fq, 11, none⟩))) rfl (by kernel_rfl) (by kernel_rfl) (by kernel_rfl) (fun _ _ _ h => h) (Or.inl ⟨rfl, fun _ _ => rfl⟩) hq1 ?_
  simp only [Act.put, List.setIfInBounds_toArray, List.set_cons_zero, List.set_cons_succ]
  refine takeL (i := 33) (v := _) rfl (by kernel_rfl) (by kernel_rfl) (by kernel_rfl) (fun _ _ _ h => h) (yieldsIf_cell rfl 3 _ rfl ⟨fq, 11, none⟩ rfl (.int .i64 (waitsV (B.gi k 78) (B.gi k 79) (B.gi k 80))) _ (fun W' hW' => (hW'.cell (p := ⟨fq, 11, none⟩) hltq).trans qq11) Try.underlying3 rfl) hq1 ?_
  simp only [Act.put, List.setIfInBounds_toArray, List.set_cons_zero, List.set_cons_succ]
  refine takeL (i := 34) (v := (.pointer (some ⟨fw, 78, none⟩))) rfl (by kernel_rfl) (by kernel_rfl) (by kernel_rfl) (fun _ _ _ h => h) (Or.inl ⟨rfl, fun _ _ => rfl⟩) hq1 ?_
  simp only [Act.put, List.setIfInBounds_toArray, List.set_cons_zero, List.set_cons_succ]
  refine takeL (i := 35) (v := _) rfl (by kernel_rfl) (by kernel_rfl) (by kernel_rfl) (fun _ _ _ h => h) (yieldsIf_load_mid rfl 24 _ rfl fw (78) rfl ([Value.int .i64 (B.gi k 78), Value.int .i64 (B.gi k 79), Value.int .i64 (B.gi k 80), Value.int .i64 (B.gi k 81)]) _ (fun W' hW' => rangeAt_ext RRw78.out hW' hltw) Try.underlying24 rfl (by exact size_times)) hq1 ?_
  simp only [Act.put, List.setIfInBounds_toArray, List.set_cons_zero, List.set_cons_succ]
  refine runG (i := 36) rfl (by rfl) (by kernel_rfl) (fun K hK => ?_)
  go_simp
  refine (ref_waits _ _ _ _ _ r1 r2 r3 r4 r5 r6).mono ?_
  rintro e wc2 ⟨rfl, hx⟩
  have hq2 := hq1.trans hx
  refine hK.out _ _ hq2 (fun hHeld => ?_)
  try simp only [Act.put, List.setIfInBounds_toArray, List.set_cons_zero, List.set_cons_succ]
  clear hK K hHeld
  refine takeL (i := 37) (v := (.bool true)) rfl (by kernel_rfl) (by kernel_rfl) (by kernel_rfl) (fun _ _ _ h => h) (Or.inl ⟨rfl, fun W' _ => by go_simp⟩) hq2 ?_
  simp only [Act.put, List.setIfInBounds_toArray, List.set_cons_zero, List.set_cons_succ]
  refine takeL (i := 38) (v := (.bool true)) rfl (by kernel_rfl) (by kernel_rfl) (by kernel_rfl) (fun _ _ _ h => h) (Or.inl ⟨rfl, fun _ _ => rfl⟩) hq2 ?_
  simp only [Act.put, List.setIfInBounds_toArray, List.set_cons_zero, List.set_cons_succ]
  refine takeL (i := 39) (v := (.bool true)) rfl (by kernel_rfl) (by kernel_rfl) (by kernel_rfl) (fun _ _ _ h => h) (Or.inl ⟨rfl, fun _ _ => rfl⟩) hq2 ?_
  simp only [Act.put, List.setIfInBounds_toArray, List.set_cons_zero, List.set_cons_succ]
  refine takeL (i := 40) (v := (.pointer (some ⟨fq, 22, none⟩))) rfl (by kernel_rfl) (by kernel_rfl) (by kernel_rfl) (fun _ _ _ h => h) (Or.inl ⟨rfl, fun _ _ => rfl⟩) hq2 ?_
  simp only [Act.put, List.setIfInBounds_toArray, List.set_cons_zero, List.set_cons_succ]
  refine takeL (i := 41) (v := (.pointer (some ⟨fq, 44, none⟩))) rfl (by kernel_rfl) (by kernel_rfl) (by kernel_rfl) (fun _ _ _ h => h) (Or.inl ⟨rfl, fun _ _ => rfl⟩) hq2 ?_
  simp only [Act.put, List.setIfInBounds_toArray, List.set_cons_zero, List.set_cons_succ]
  refine takeL (i := 42) (v := _) rfl (by kernel_rfl) (by kernel_rfl) (by kernel_rfl) (fun _ _ _ h => h) (yieldsIf_cell rfl 4 _ rfl ⟨fq, 44, none⟩ rfl (.bool (B.gb k 44)) _ (fun W' hW' => (hW'.cell (p := ⟨fq, 44, none⟩) hltq).trans qq44) Try.underlying4 rfl) hq2 ?_
  simp only [Act.put, List.setIfInBounds_toArray, List.set_cons_zero, List.set_cons_succ]
  refine takeL (i := 43) (v := (.pointer (some ⟨fw, 22, none⟩))) rfl (by kernel_rfl) (by kernel_rfl) (by kernel_rfl) (fun _ _ _ h => h) (Or.inl ⟨rfl, fun _ _ => rfl⟩) hq2 ?_
  simp only [Act.put, List.setIfInBounds_toArray, List.set_cons_zero, List.set_cons_succ]
  refine takeL (i := 44) (v := (.pointer (some ⟨fw, 44, none⟩))) rfl (by kernel_rfl) (by kernel_rfl) (by kernel_rfl) (fun _ _ _ h => h) (Or.inl ⟨rfl, fun _ _ => rfl⟩) hq2 ?_
  simp only [Act.put, List.setIfInBounds_toArray, List.set_cons_zero, List.set_cons_succ]
  refine takeL (i := 45) (v := _) rfl (by kernel_rfl) (by kernel_rfl) (by kernel_rfl) (fun _ _ _ h => h) (yieldsIf_cell rfl 4 _ rfl ⟨fw, 44, none⟩ rfl (.bool (B.gb k 44)) _ (fun W' hW' => (hW'.cell (p := ⟨fw, 44, none⟩) hltw).trans qw44) Try.underlying4 rfl) hq2 ?_
  simp only [Act.put, List.setIfInBounds_toArray, List.set_cons_zero, List.set_cons_succ]
  refine takeL (i := 46) (v := (.bool true)) rfl (by kernel_rfl) (by kernel_rfl) (by kernel_rfl) (fun _ _ _ h => h) (Or.inl ⟨rfl, fun W' _ => by go_simp⟩) hq2 ?_
  simp only [Act.put, List.setIfInBounds_toArray, List.set_cons_zero, List.set_cons_succ]
  refine takeL (i := 47) (v := (.bool true)) rfl (by kernel_rfl) (by kernel_rfl) (by kernel_rfl) (fun _ _ _ h => h) (Or.inl ⟨rfl, fun _ _ => rfl⟩) hq2 ?_
  simp only [Act.put, List.setIfInBounds_toArray, List.set_cons_zero, List.set_cons_succ]
  refine takeL (i := 48) (v := (.bool true)) rfl (by kernel_rfl) (by kernel_rfl) (by kernel_rfl) (fun _ _ _ h => h) (Or.inl ⟨rfl, fun _ _ => rfl⟩) hq2 ?_
  simp only [Act.put, List.setIfInBounds_toArray, List.set_cons_zero, List.set_cons_succ]
  refine takeL (i := 49) (v := (.pointer (some ⟨fq, 22, none⟩))) rfl (by kernel_rfl) (by kernel_rfl) (by kernel_rfl) (fun _ _ _ h => h) (Or.inl ⟨rfl, fun _ _ => rfl⟩) hq2 ?_
  simp only [Act.put, List.setIfInBounds_toArray, List.set_cons_zero, List.set_cons_succ]
  refine takeL (i := 50) (v := (.pointer (some ⟨fq, 43, none⟩))) rfl (by kernel_rfl) (by kernel_rfl) (by kernel_rfl) (fun _ _ _ h => h) (Or.inl ⟨rfl, fun _ _ => rfl⟩) hq2 ?_
  simp only [Act.put, List.setIfInBounds_toArray, List.set_cons_zero, List.set_cons_succ]
  refine takeL (i := 51) (v := _) rfl (by kernel_rfl) (by kernel_rfl) (by kernel_rfl) (fun _ _ _ h => h) (yieldsIf_cell rfl 4 _ rfl ⟨fq, 43, none⟩ rfl (.bool (B.gb k 43)) _ (fun W' hW' => (hW'.cell (p := ⟨fq, 43, none⟩) hltq).trans qq43) Try.underlying4 rfl) hq2 ?_
  simp only [Act.put, List.setIfInBounds_toArray, List.set_cons_zero, List.set_cons_succ]
  refine takeL (i := 52) (v := (.pointer (some ⟨fw, 22, none⟩))) rfl (by kernel_rfl) (by kernel_rfl) (by kernel_rfl) (fun _ _ _ h => h) (Or.inl ⟨rfl, fun _ _ => rfl⟩) hq2 ?_
  simp only [Act.put, List.setIfInBounds_toArray, List.set_cons_zero, List.set_cons_succ]
  refine takeL (i := 53) (v := (.pointer (some ⟨fw, 43, none⟩))) rfl (by kernel_rfl) (by kernel_rfl) (by kernel_rfl) (fun _ _ _ h => h) (Or.inl ⟨rfl, fun _ _ => rfl⟩) hq2 ?_
  simp only [Act.put, List.setIfInBounds_toArray, List.set_cons_zero, List.set_cons_succ]
  refine takeL (i := 54) (v := _) rfl (by kernel_rfl) (by kernel_rfl) (by kernel_rfl) (fun _ _ _ h => h) (yieldsIf_cell rfl 4 _ rfl ⟨fw, 43, none⟩ rfl (.bool (B.gb k 43)) _ (fun W' hW' => (hW'.cell (p := ⟨fw, 43, none⟩) hltw).trans qw43) Try.underlying4 rfl) hq2 ?_
  simp only [Act.put, List.setIfInBounds_toArray, List.set_cons_zero, List.set_cons_succ]
  refine takeL (i := 55) (v := (.bool true)) rfl (by kernel_rfl) (by kernel_rfl) (by kernel_rfl) (fun _ _ _ h => h) (Or.inl ⟨rfl, fun W' _ => by go_simp⟩) hq2 ?_
  simp only [Act.put, List.setIfInBounds_toArray, List.set_cons_zero, List.set_cons_succ]
  refine takeL (i := 56) (v := (.bool true)) rfl (by kernel_rfl) (by kernel_rfl) (by kernel_rfl) (fun _ _ _ h => h) (Or.inl ⟨rfl, fun _ _ => rfl⟩) hq2 ?_
  simp only [Act.put, List.setIfInBounds_toArray, List.set_cons_zero, List.set_cons_succ]
  refine takeL (i := 57) (v := (.bool true)) rfl (by kernel_rfl) (by kernel_rfl) (by kernel_rfl) (fun _ _ _ h => h) (Or.inl ⟨rfl, fun _ _ => rfl⟩) hq2 ?_
  simp only [Act.put, List.setIfInBounds_toArray, List.set_cons_zero, List.set_cons_succ]
  refine takeL (i := 58) (v := (.pointer (some ⟨fq, 22, none⟩))) rfl (by kernel_rfl) (by kernel_rfl) (by kernel_rfl) (fun _ _ _ h => h) (Or.inl ⟨rfl, fun _ _ => rfl⟩) hq2 ?_
  simp only [Act.put, List.setIfInBounds_toArray, List.set_cons_zero, List.set_cons_succ]
  refine takeL (i := 59) (v := (.pointer (some ⟨fq, 36, none⟩))) rfl (by kernel_rfl) (by kernel_rfl) (by kernel_rfl) (fun _ _ _ h => h) (Or.inl ⟨rfl, fun _ _ => rfl⟩) hq2 ?_
  simp only [Act.put, List.setIfInBounds_toArray, List.set_cons_zero, List.set_cons_succ]
  refine takeL (i := 60) (v := _) rfl (by kernel_rfl) (by kernel_rfl) (by kernel_rfl) (fun _ _ _ h => h) (yieldsIf_cell rfl 4 _ rfl ⟨fq, 36, none⟩ rfl (.bool false) _ (fun W' hW' => (hW'.cell (p := ⟨fq, 36, none⟩) hltq).trans qq36) Try.underlying4 rfl) hq2 ?_
  simp only [Act.put, List.setIfInBounds_toArray, List.set_cons_zero, List.set_cons_succ]
  refine takeL (i := 61) (v := (.bool true)) rfl (by kernel_rfl) (by kernel_rfl) (by kernel_rfl) (fun _ _ _ h => h) (Or.inl ⟨rfl, fun _ _ => rfl⟩) hq2 ?_
  simp only [Act.put, List.setIfInBounds_toArray, List.set_cons_zero, List.set_cons_succ]
  refine takeL (i := 62) (v := (.bool true)) rfl (by kernel_rfl) (by kernel_rfl) (by kernel_rfl) (fun _ _ _ h => h) (Or.inl ⟨rfl, fun _ _ => rfl⟩) hq2 ?_
  simp only [Act.put, List.setIfInBounds_toArray, List.set_cons_zero, List.set_cons_succ]
  refine takeL (i := 63) (v := (.bool true)) rfl (by kernel_rfl) (by kernel_rfl) (by kernel_rfl) (fun _ _ _ h => h) (Or.inl ⟨rfl, fun _ _ => rfl⟩) hq2 ?_
  simp only [Act.put, List.setIfInBounds_toArray, List.set_cons_zero, List.set_cons_succ]
  refine wpAnyH_done (by kernel_rfl) ?_ _
  go_wp2_with fail
  all_goals
    go_ret
    exact ⟨rfl, HE0.out.trans (E10.trans hq2)⟩

end Go.Proofs.Ythfoacgdkoijeaa
