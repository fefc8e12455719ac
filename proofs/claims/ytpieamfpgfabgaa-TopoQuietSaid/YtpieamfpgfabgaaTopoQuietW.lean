/- The walk of TopoQuiet. No statement is proved here. -/
import Derived.Test.YtpieamfpgfabgaaTopN
namespace Go.Proofs.Ytpieamfpgfabgaa
open Go.RowKit Go.BigFrame Go.WideShapes Go.ChangeShapes Go.Deep
set_option linter.unusedVariables false
set_option linter.unusedSimpArgs false

set_option maxRecDepth 100000 in
set_option maxHeartbeats 2000000 in
theorem law_TopoQuiet {w : World} (c : Array Value) (B : Br) (hb : BrC w c B) (ho : B.ok) (i : Int) (hi : 0 ≤ i ∧ i < 256) (s : Int) (hs : 0 ≤ s ∧ s < 256) :
    Calls Try.prog 10 #[.agg c, .int .u8 i, .int .u8 s] w fun e w' => e = .returned (.bool true) ∧ Ext w w' := by
  have hz0 : c.size = 20 := by
    obtain ⟨_, _, _, h, _⟩ := hb.facts ho.hd.1
    exact h
  have hi20 := Lib.hid (show (Try.prog.info? 33).map (·.size) = some c.size by rw [hz0]; exact size_br)
  have HCZ := Lib.hid hz0
  have hE00 : Ext w (w.alloc (.cells c 33)) := ((Ext.refl w).alloc _)
  have hL00 : (w.alloc (.cells c 33)).heap[w.heap.size]? = some (.cells c 33 (0, 0)) := heap_alloc_new _ _
  have hS00 : w.heap.size < (w.alloc (.cells c 33)).heap.size := heap_lt hL00
  have hB00 := hb.ext hE00
  clear hz0
  have HP := Lib.hid hb
  clear hb
  have HhE00 := Lib.hid hE00
  have HhL00 := Lib.hid hL00
  have HhS00 := Lib.hid hS00
  have HhB00 := Lib.hid hB00
  clear hE00 hL00 hS00 hB00
  go_enter Try.func10, Try.ntmps10
  go_wp2_with fail
  have hE00 := HhE00.out
  clear HhE00
  have hL00 := HhL00.out
  clear HhL00
  have hS00 := HhS00.out
  clear HhS00
  have hB00 := HhB00.out
  clear HhB00
  generalize (w.alloc (.cells c 33)) = W0 at *
  obtain ⟨bx, hq⟩ : ∃ n, w.heap.size = n := ⟨_, rfl⟩
  rw [hq] at hL00 hS00 ⊢
  have HE0 := Lib.hid hE00
  have HL0 := Lib.hid hL00
  have HB0 := Lib.hid hB00
  have HS0 := Lib.hid hS00
  have HWB := Lib.hid hq
  clear hE00 hL00 hB00 hS00 hq
  refine (top_awake _).mono ?_
  rintro e v1 ⟨rfl, E1⟩
  go_wp2_with (first | fail | ((with_reducible refine at_load 33 ?_); refine wpList_load_row rfl 33 _ rfl bx rfl 33 c (0, 0) _ ((E1.block _ HS0.out).trans HL0.out) Try.underlying33 rfl hi20.out ?_))
  refine (few_any c B _ (HB0.out.ext E1) ho).mono ?_
  rintro e v2 ⟨f, rfl, hx2, hf⟩
  have E2 := Ext.trans E1 hx2
  clear E1 hx2
  cases f
  · go_wp2_with fail
    go_ret
    exact ⟨rfl, HE0.out.trans E2⟩
  have hfew := Lib.hid (hf.1 rfl)
  clear hf
  have hn1 := hfew.out.2.1
  have HN := Lib.hid (show B.np ≤ 1000 ∧ B.no ≤ 1000 ∧ B.nf ≤ 1000 by have := hfew.out; omega)
  have hn8 : B.np < 1000 := by have := hfew.out; omega
  go_wp2_with (first
    | fail
    | ((with_reducible refine at_load 33 ?_); refine wpList_load_row rfl 33 _ rfl bx rfl 33 c (0, 0) _ ((E2.block _ HS0.out).trans HL0.out) Try.underlying33 rfl hi20.out ?_))
  refine (at_any c B i _ (HB0.out.ext E2) ho hi hn1).mono ?_
  rintro e v3 ⟨rfl, hx⟩
  have E3 := Ext.trans E2 hx
  clear E2 hx
  obtain ⟨k, hk0⟩ : ∃ k, i.toNat % B.np = k := ⟨_, rfl⟩
  have hk : k < B.np := by rw [← hk0]; exact Nat.mod_lt _ hn1
  have hk8 : k < 1000 := by omega
  rw [hk0]
  clear hk0
  have h89 := Lib.hid (len89 ho hk)
  go_wp2_with (first
    | fail
    | ((with_reducible refine at_load 33 ?_); refine wpList_load_row rfl 33 _ rfl bx rfl 33 c (0, 0) _ ((E3.block _ HS0.out).trans HL0.out) Try.underlying33 rfl hi20.out ?_))
  refine (clone_any c B _ (HB0.out.ext E3) ho HN.out).mono ?_
  rintro e u4 ⟨cx, rfl, hO, hx⟩
  have Eu := Ext.trans E3 hx
  have hcxz := Lib.hid (size_z20.trans (hO.size ho).symm)
  have hcxo := Lib.hid (hO.one ho)
  have hcxi := Lib.hid (show (Try.prog.info? 33).map (·.size) = some cx.size by rw [hO.size ho]; exact size_br)
  obtain ⟨gx, hM⟩ := hO.made hx.size hn1
  obtain ⟨Nx, hN0, hsz⟩ := nameLe hx.size
  have hNE : W0.heap.size ≤ Nx := by
    rw [← hN0]
    exact E3.size
  rw [hN0] at hM
  have HMK := Lib.hid (show ∀ wx : World, wx = u4.alloc (.cells cx 33) → BrG wx (fun n => Nx ≤ n ∧ n < u4.heap.size + 1) u4.heap.size gx B ∧ Ext W0 wx from by
    rintro _ rfl
    exact ⟨hM, Eu.alloc _⟩)
  clear hM hO hx Eu hN0 E3
  obtain ⟨X, hX0⟩ : ∃ n, u4.heap.size = n := ⟨_, rfl⟩
  have HX0 := Lib.hid hX0
  rw [hX0] at HMK hsz
  have hsx := Lib.hid (show Nx ≤ X ∧ W0.heap.size ≤ Nx from ⟨hsz, hNE⟩)
  clear hsz hNE hX0
  go_wp2_with (first
    | fail
    | ((with_reducible refine at_store 33 ?_); refine wpList_store_new3 rfl rfl 33 _ _ _ rfl _ cx _ rfl ?_ rfl hcxi.out hcxz.out hcxo.out ?_; · rfl
       intro wx hwx
       have hmk := HMK.out wx hwx
       obtain ⟨hBx, E5⟩ := hmk
       have H5x := Lib.hid hBx
       rw [HX0.out]
       clear hwx hBx HMK HX0 hcxz hcxo hcxi
       obtain ⟨hXl, hgl, hne⟩ := H5x.out.lt
       obtain ⟨cap, c17, hca, hcb⟩ := H5x.out.cell17 ho
       have hfr := H5x.out.frozen
       have p21 := (H5x.out.cellg (i := k * 89 + 21) (lt89 (N := (B).np) hk (by decide))).trans (Br.ok.gi ho (k := k) hk 21 rfl)
       have p32 := (H5x.out.cellg (i := k * 89 + 32) (lt89 (N := (B).np) hk (by decide))).trans (Br.ok.gb ho (k := k) hk 32 rfl)
       have p13 := (H5x.out.cellg (i := k * 89 + 13) (lt89 (N := (B).np) hk (by decide))).trans (Br.ok.gi ho (k := k) hk 13 rfl)))
  have HZ6 := Lib.hid (show BrG _ (fun n => Nx ≤ n ∧ n < X + 1) X gx (tqs B k (s % 3)) from (((H5x.out.setp (k := k) (j := 21) hk (by decide) (.int .i64 (s % 3))).setp (k := k) (j := 32) hk (by decide) (.bool true)).setp (k := k) (j := 13) hk (by decide) (.int .i64 0)))
  have okz6 : Br.ok (tqs B k (s % 3)) := tqs_ok ho hk s
  have hmz := ((((Mut.refl (fun n => Nx ≤ n ∧ n < X + 1) wx).setCell (p := ⟨gx, k * 89 + 21, none⟩) (.inl H5x.out.F2) (.int .i64 (s % 3))).setCell (p := ⟨gx, k * 89 + 32, none⟩) (.inl H5x.out.F2) (.bool true)).setCell (p := ⟨gx, k * 89 + 13, none⟩) (.inl H5x.out.F2) (.int .i64 0))
  have EZ6 := Ext.mutE E5 hmz (fun n hn h1 => by have := h1.1; have := hsx.out; omega)
  clear E5
  have HMZ := Lib.hid hmz
  clear hmz
  clear c17 hfr p21 p32 p13
  go_loopw [12] (fun i wr => ∃ n : Nat, n ≤ B.np ∧ i = .int .i64 n ∧ BrG wr (fun n => Nx ≤ n ∧ n < X + 1) X gx (tqu B k (s % 3) n) ∧ Ext W0 wr) (fun i _ => B.np - (intOf i).toNat)
  case atStart => exact ⟨0, by omega, rfl, HZ6.out, EZ6⟩
  case round =>
    clear EZ6 HZ6
    obtain ⟨n, hn, rfl, hB, E7⟩ := hrel
    have H7 := Lib.hid hB
    clear hB
    have okn : Br.ok (tqu B k (s % 3) n) := tqu_ok okz6 hn
    have hnp : ((tqu B k (s % 3) n)).np = B.np := tqu_np B k (s % 3) n
    by_cases hlt : n < B.np
    · have hkn : n < ((tqu B k (s % 3) n)).np := by rw [hnp]; exact hlt
      obtain ⟨hXl, hgl, hne⟩ := H7.out.lt
      obtain ⟨cap, c17, hca, hcb⟩ := H7.out.cell17 okn
      rw [show ((tqu B k (s % 3) n)).np = B.np from hnp] at c17 hca
      have hfr := H7.out.frozen
      have p49 := (H7.out.cellg (i := n * 89 + 49) (lt89 (N := ((tqu B k (s % 3) n)).np) hkn (by decide))).trans (Br.ok.gb okn (k := n) hkn 49 rfl)
      go_wp2_with fail
      go_roundw
      case rel =>
        refine ⟨n + 1, by omega, by go_num, H7.out.setp (k := n) (j := 49) hkn (by decide) _, ?_⟩
        exact Ext.mutE E7 ((Mut.refl (fun n => Nx ≤ n ∧ n < X + 1) wr).setCell (p := ⟨gx, n * 89 + 49, none⟩) (.inl H7.out.F2) _) (fun n hn h1 => by have := h1.1; have := hsx.out; omega)
      case measure => simp [intOf]; omega
    · obtain rfl : n = B.np := by omega
      obtain ⟨Z, hZ⟩ : ∃ Z, (tqu B k (s % 3) B.np) = Z := ⟨_, rfl⟩
      rw [hZ] at H7 okn hnp
      obtain ⟨hXlt, hglt, hnet⟩ := H7.out.lt
      obtain ⟨capt, c17t, hcat, hcbt⟩ := H7.out.cell17 okn
      rw [show (Z).np = B.np from hnp] at c17t hcat
      have hfrt := H7.out.frozen
      have HTQ := Lib.hid (show TQ Z k from by rw [← hZ]; exact tqu_TQ k (s % 3) okz6 hk)
      have hnf0 : Z.nf ≤ 20 := by rw [← hZ, tqu_nf]; exact hfew.out.2.2.2.2
      have HTR := Lib.hid (show TR (Z.hi 2) (Z.hi 3) (Z.hi 4) (Z.hi 5) from by unfold Br.hi; rw [← hZ, tqu_hd]; exact few_TR hfew.out.1)
      clear hZ
      have hkx : k < Z.np := by rw [hnp]; exact hk
      have hnx : Z.np < 1000 := by rw [hnp]; exact hn8
      have HW0 := Lib.hid (BrG.widen H7.out)
      clear H7
      go_wp2_with fail
      go_loopw [13] (fun i wr => ∃ n : Nat, n ≤ 6 ∧ i = .int .i64 n ∧ BrG wr (fun n => Nx ≤ n ∧ n < wr.heap.size) X gx (topIt Z k n) ∧ Ext W0 wr) (fun i _ => 6 - (intOf i).toNat)
      case atStart => exact ⟨0, by omega, rfl, HW0.out, E7⟩
      case round =>
        clear E7 HW0
        obtain ⟨n, hn, rfl, hB, En⟩ := hrel
        have HB := Lib.hid hB
        clear hB
        obtain ⟨i1, i2, i3, i4⟩ := topIt_inv okn hkx hnx HTR.out n
        have hT := topIt_TR okn hkx hnx HTR.out n
        have hkn : k < (topIt Z k n).np := by rw [i2]; exact hkx
        by_cases hlt : n < 6
        · go_wp2_with fail
          refine (top_stepW _ Nx X gx k (topIt Z k n) HB.out i1 hkn (by rw [i2]; exact hnx) hT (by omega)).mono ?_
          rintro e v1 ⟨he, hB, hm⟩
          obtain rfl : e = .returned (.bool (topF (topIt Z k n) k).1) := he
          have E1 := Ext.mutE En hm (fun n hn h1 => by have := hsx.out; have h2 : Nx ≤ n := h1; omega)
          have HB2 := Lib.hid hB
          clear hB hm
          go_wp2_with fail
          go_roundw
          case rel => exact ⟨n + 1, by omega, by go_num, HB2.out, E1⟩
          case measure => simp [intOf]; omega
        · obtain rfl : n = 6 := by omega
          have hQ := TQ.it okn hkx hnx HTR.out HTQ.out 6
          obtain ⟨Y, hY⟩ : ∃ Y, topIt Z k 6 = Y := ⟨_, rfl⟩
          rw [hY] at HB i1 i2 i3 i4 hT hkn hQ
          clear hY
          have HQ := Lib.hid hQ
          clear hQ
          have hnpy : Y.np = B.np := i2.trans hnp
          obtain ⟨hXl, hgl, hne⟩ := HB.out.lt
          obtain ⟨cap, c17, hca, hcb⟩ := HB.out.cell17 i1
          rw [hnpy] at c17 hca
          have p13 := (HB.out.cellg (i := k * 89 + 13) (lt89 hkn (by decide))).trans (i1.gi hkn 13 rfl)
          rw [HQ.out.c13] at p13
          go_wp2_with fail
          go_loop [14] (fun v => ∃ n : Nat, n ≤ B.np ∧ v = .int .i64 n) (fun v => B.np - (intOf v).toNat)
          case atStart => exact ⟨0, by omega, rfl⟩
          case round =>
            obtain ⟨n, hn, rfl⟩ := hrel
            by_cases hlt : n < B.np
            · have hnx : n < (Y).np := by rw [show (Y).np = B.np from hnpy]; exact hlt
              have pn := (HB.out.cellg (i := n * 89 + 49) (lt89 hnx (by decide))).trans (Br.ok.gb i1 (k := n) hnx 49 rfl)
              by_cases hnk : n = k
              · subst hnk
                go_wp2_with fail
                go_round
                case rel => exact ⟨n + 1, by omega, by go_num⟩
                case measure => simp [intOf]; omega
              · have hnk2 : decide ((n : Int) = (k : Int)) = false := by simp; omega
                rw [HQ.out.oth n (by rw [hnpy]; exact hlt) hnk] at pn
                go_wp2_with fail
                go_round
                case rel => exact ⟨n + 1, by omega, by go_num⟩
                case measure => simp [intOf]; omega
            · obtain rfl : n = B.np := by omega
              go_wp2_with fail
              all_goals
                go_ret
                exact ⟨rfl, HE0.out.trans En⟩

end Go.Proofs.Ytpieamfpgfabgaa
