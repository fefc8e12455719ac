/- The walk of TopoTells. No statement is proved here. -/
import Derived.Test.YtpieamfpgfabgaaTopF
namespace Go.Proofs.Ytpieamfpgfabgaa
open Go.RowKit Go.BigFrame Go.WideShapes Go.ChangeShapes Go.Deep
set_option linter.unusedVariables false

set_option maxRecDepth 100000 in
set_option maxHeartbeats 2000000 in
theorem law_TopoTells {w : World} (c : Array Value) (B : Br) (hb : BrC w c B) (ho : B.ok) (i : Int) (hi : 0 ≤ i ∧ i < 256) (root : Bool) :
    Calls Try.prog 8 #[.agg c, .int .u8 i, .bool root] w fun e w' => e = .returned (.bool true) ∧ Ext w w' := by
  have hz0 : c.size = 20 := by
    obtain ⟨_, _, _, h, _⟩ := hb.facts ho.hd.1
    exact h
  have hi20 := Lib.hid (show (Try.prog.info? 33).map (·.size) = some c.size by rw [hz0]; exact size_br)
  have HCZ := Lib.hid hz0
  have hE00 : Ext w (w.alloc (.cells c 33)) := ((Ext.refl w).alloc _)
  have hL00 : (w.alloc (.cells c 33)).heap[w.heap.size]? = some (.cells c 33 (0, 0)) := heap_alloc_new _ _
  have hS00 : w.heap.size < (w.alloc (.cells c 33)).heap.size := heap_lt hL00
  have hB00 := hb.ext hE00
  clear hz0
  have HP := Lib.hid hb
  clear hb
  have HhE00 := Lib.hid hE00
  have HhL00 := Lib.hid hL00
  have HhS00 := Lib.hid hS00
  have HhB00 := Lib.hid hB00
  clear hE00 hL00 hS00 hB00
  go_enter Try.func8, Try.ntmps8
  go_wp2_with fail
  have hE00 := HhE00.out
  clear HhE00
  have hL00 := HhL00.out
  clear HhL00
  have hS00 := HhS00.out
  clear HhS00
  have hB00 := HhB00.out
  clear HhB00
  generalize (w.alloc (.cells c 33)) = W0 at *
  obtain ⟨bx, hq⟩ : ∃ n, w.heap.size = n := ⟨_, rfl⟩
  rw [hq] at hL00 hS00 ⊢
  have HE0 := Lib.hid hE00
  have HL0 := Lib.hid hL00
  have HB0 := Lib.hid hB00
  have HS0 := Lib.hid hS00
  have HWB := Lib.hid hq
  clear hE00 hL00 hB00 hS00 hq
  refine (top_awake _).mono ?_
  rintro e v1 ⟨rfl, E1⟩
  go_wp2_with (first | fail | ((with_reducible refine at_load 33 ?_); refine wpList_load_row rfl 33 _ rfl bx rfl 33 c (0, 0) _ ((E1.block _ HS0.out).trans HL0.out) Try.underlying33 rfl hi20.out ?_))
  refine (few_any c B _ (HB0.out.ext E1) ho).mono ?_
  rintro e v2 ⟨f, rfl, hx2, hf⟩
  have E2 := Ext.trans E1 hx2
  clear E1 hx2
  cases f
  · go_wp2_with fail
    go_ret
    exact ⟨rfl, HE0.out.trans E2⟩
  have hfew := Lib.hid (hf.1 rfl)
  clear hf
  have hn1 := hfew.out.2.1
  have HN := Lib.hid (show B.np ≤ 1000 ∧ B.no ≤ 1000 ∧ B.nf ≤ 1000 by have := hfew.out; omega)
  have hn8 : B.np < 1000 := by have := hfew.out; omega
  go_wp2_with (first
    | fail
    | ((with_reducible refine at_load 33 ?_); refine wpList_load_row rfl 33 _ rfl bx rfl 33 c (0, 0) _ ((E2.block _ HS0.out).trans HL0.out) Try.underlying33 rfl hi20.out ?_))
  refine (at_any c B i _ (HB0.out.ext E2) ho hi hn1).mono ?_
  rintro e v3 ⟨rfl, hx⟩
  have E3 := Ext.trans E2 hx
  clear E2 hx
  obtain ⟨k, hk0⟩ : ∃ k, i.toNat % B.np = k := ⟨_, rfl⟩
  have hk : k < B.np := by rw [← hk0]; exact Nat.mod_lt _ hn1
  have hk8 : k < 1000 := by omega
  rw [hk0]
  clear hk0
  have h89 := Lib.hid (len89 ho hk)
  go_wp2_with (first
    | fail
    | ((with_reducible refine at_load 33 ?_); refine wpList_load_row rfl 33 _ rfl bx rfl 33 c (0, 0) _ ((E3.block _ HS0.out).trans HL0.out) Try.underlying33 rfl hi20.out ?_))
  refine (clone_any c B _ (HB0.out.ext E3) ho HN.out).mono ?_
  rintro e u4 ⟨cx, rfl, hO, hx⟩
  have Eu := Ext.trans E3 hx
  have hcxz := Lib.hid (size_z20.trans (hO.size ho).symm)
  have hcxo := Lib.hid (hO.one ho)
  have hcxi := Lib.hid (show (Try.prog.info? 33).map (·.size) = some cx.size by rw [hO.size ho]; exact size_br)
  obtain ⟨gx, hM⟩ := hO.made hx.size hn1
  obtain ⟨Nx, hN0, hsz⟩ := nameLe hx.size
  have hNE : W0.heap.size ≤ Nx := by
    rw [← hN0]
    exact E3.size
  rw [hN0] at hM
  have HMK := Lib.hid (show ∀ wx : World, wx = u4.alloc (.cells cx 33) → BrG wx (fun n => Nx ≤ n ∧ n < u4.heap.size + 1) u4.heap.size gx B ∧ Ext W0 wx from by
    rintro _ rfl
    exact ⟨hM, Eu.alloc _⟩)
  clear hM hO hx Eu hN0 E3
  obtain ⟨X, hX0⟩ : ∃ n, u4.heap.size = n := ⟨_, rfl⟩
  have HX0 := Lib.hid hX0
  rw [hX0] at HMK hsz
  have hsx := Lib.hid (show Nx ≤ X ∧ W0.heap.size ≤ Nx from ⟨hsz, hNE⟩)
  clear hsz hNE hX0
  go_wp2_with (first
    | fail
    | ((with_reducible refine at_store 33 ?_); refine wpList_store_new3 rfl rfl 33 _ _ _ rfl _ cx _ rfl ?_ rfl hcxi.out hcxz.out hcxo.out ?_; · rfl
       intro wx hwx
       have hmk := HMK.out wx hwx
       obtain ⟨hBx, E5⟩ := hmk
       have H5x := Lib.hid hBx
       rw [HX0.out]
       clear hwx hBx HMK HX0 hcxz hcxo hcxi))
  go_loopw [11] (fun i wr => ∃ n : Nat, n ≤ B.np ∧ i = .int .i64 n ∧ BrG wr (fun n => Nx ≤ n ∧ n < X + 1) X gx (tq0 B n) ∧ Ext W0 wr) (fun i _ => B.np - (intOf i).toNat)
  case atStart => exact ⟨0, by omega, rfl, H5x.out, E5⟩
  case round =>
    clear E5 H5x
    obtain ⟨n, hn, rfl, hB, E6⟩ := hrel
    have H6 := Lib.hid hB
    clear hB
    have okn : Br.ok (tq0 B n) := tq0_ok ho n hn
    have hnp : ((tq0 B n)).np = B.np := tq0_np B n
    by_cases hlt : n < B.np
    · have hkn : n < ((tq0 B n)).np := by rw [hnp]; exact hlt
      obtain ⟨hXl, hgl, hne⟩ := H6.out.lt
      obtain ⟨cap, c17, hca, hcb⟩ := H6.out.cell17 okn
      rw [show ((tq0 B n)).np = B.np from hnp] at c17 hca
      have hfr := H6.out.frozen
      have p49 := (H6.out.cellg (i := n * 89 + 49) (lt89 (N := ((tq0 B n)).np) hkn (by decide))).trans (Br.ok.gb okn (k := n) hkn 49 rfl)
      go_wp2_with fail
      go_roundw
      case rel =>
        refine ⟨n + 1, by omega, by go_num, H6.out.setp (k := n) (j := 49) hkn (by decide) _, ?_⟩
        exact Ext.mutE E6 ((Mut.refl (fun n => Nx ≤ n ∧ n < X + 1) wr).setCell (p := ⟨gx, n * 89 + 49, none⟩) (.inl H6.out.F2) _) (fun n hn h1 => by have := h1.1; have := hsx.out; omega)
      case measure => simp [intOf]; omega
    · obtain rfl : n = B.np := by omega
      obtain ⟨Z, hZ⟩ : ∃ Z, (tq0 B B.np) = Z := ⟨_, rfl⟩
      rw [hZ] at H6 okn hnp
      obtain ⟨hXlt, hglt, hnet⟩ := H6.out.lt
      obtain ⟨capt, c17t, hcat, hcbt⟩ := H6.out.cell17 okn
      rw [show (Z).np = B.np from hnp] at c17t hcat
      have hfrt := H6.out.frozen
      have HZ := Lib.hid (show ∀ k, k < Z.np → Z.gb k 49 = false from fun k hk => by rw [← hZ]; exact tq0_49 ho (by rw [← hnp]; exact hk))
      have HTZ := Lib.hid (show TR (Z.hi 2) (Z.hi 3) (Z.hi 4) (Z.hi 5) from by rw [← hZ]; simp only [tq0_hi]; exact hfew.out.1.1.1)
      clear hZ
      have hkx : k < Z.np := by rw [hnp]; exact hk
      have hnx : Z.np < 1000 := by rw [hnp]; exact hn8
      have h89Z := Lib.hid (len89 okn hkx)
      obtain ⟨hXl, hgl, hne⟩ := H6.out.lt
      obtain ⟨cap, c17, hca, hcb⟩ := H6.out.cell17 okn
      rw [show (Z).np = B.np from hnp] at c17 hca
      have hfr := H6.out.frozen
      have p21 := (H6.out.cellg (i := k * 89 + 21) (lt89 (N := (Z).np) hkx (by decide))).trans (Br.ok.gi okn (k := k) hkx 21 rfl)
      have p87 := (H6.out.cellg (i := k * 89 + 87) (lt89 (N := (Z).np) hkx (by decide))).trans (Br.ok.gi okn (k := k) hkx 87 rfl)
      have p32 := (H6.out.cellg (i := k * 89 + 32) (lt89 (N := (Z).np) hkx (by decide))).trans (Br.ok.gb okn (k := k) hkx 32 rfl)
      have p25 := (H6.out.cellg (i := k * 89 + 25) (lt89 (N := (Z).np) hkx (by decide))).trans (Br.ok.gb okn (k := k) hkx 25 rfl)
      have p48 := (H6.out.cellg (i := k * 89 + 48) (lt89 (N := (Z).np) hkx (by decide))).trans (Br.ok.gb okn (k := k) hkx 48 rfl)
      have p39 := (H6.out.cellg (i := k * 89 + 39) (lt89 (N := (Z).np) hkx (by decide))).trans (Br.ok.gb okn (k := k) hkx 39 rfl)
      cases root
      · go_wp2_with fail
        have HZ7 := Lib.hid (show BrG _ (fun n => Nx ≤ n ∧ n < X + 1) X gx (tkD Z k) from ((((((H6.out.setp (k := k) (j := 21) hkx (by decide) (.int .i64 2)).setp (k := k) (j := 87) hkx (by decide) (.int .i64 4)).setp (k := k) (j := 32) hkx (by decide) (.bool false)).setp (k := k) (j := 25) hkx (by decide) (.bool false)).setp (k := k) (j := 48) hkx (by decide) (.bool false)).setp (k := k) (j := 39) hkx (by decide) (.bool true)))
        have okz7 : Br.ok (tkD Z k) := ((((((okn.setI (k := k) hkx 21 .i64 2 rfl (by decide)).setI (k := k) hkx 87 .i64 4 rfl (by decide)).setB (k := k) hkx 32 false rfl).setB (k := k) hkx 25 false rfl).setB (k := k) hkx 48 false rfl).setB (k := k) hkx 39 true rfl)
        have hmz := (((((((Mut.refl (fun n => Nx ≤ n ∧ n < X + 1) wr).setCell (p := ⟨gx, k * 89 + 21, none⟩) (.inl H6.out.F2) (.int .i64 2)).setCell (p := ⟨gx, k * 89 + 87, none⟩) (.inl H6.out.F2) (.int .i64 4)).setCell (p := ⟨gx, k * 89 + 32, none⟩) (.inl H6.out.F2) (.bool false)).setCell (p := ⟨gx, k * 89 + 25, none⟩) (.inl H6.out.F2) (.bool false)).setCell (p := ⟨gx, k * 89 + 48, none⟩) (.inl H6.out.F2) (.bool false)).setCell (p := ⟨gx, k * 89 + 39, none⟩) (.inl H6.out.F2) (.bool true))
        have EZ7 := Ext.mutE E6 hmz (fun n hn h1 => by have := h1.1; have := hsx.out; omega)
        clear E6
        have HMZ := Lib.hid hmz
        clear hmz
        have h49 := HZ.out k hkx
        have HTL := Lib.hid (tkD_tells Z k okn okz7 hkx h49 HTZ.out)
        have hact := tkD_act Z k h89Z.out
        cases h41 : Z.gb k 41
        · rw [h41] at hact
          obtain ⟨okr, hnr, hr49, hr48, hr39⟩ := HTL.out (tpass (tkD Z k) k) (.inl rfl)
          refine (top_step2_3 _ (fun n => Nx ≤ n ∧ n < X + 1) X gx k (tkD Z k) HZ7.out okz7 hkx hnx HTZ.out (fun n hn => by have := hn.2; have := HZ7.out.lt.1; omega) (tkD_25 Z k h89Z.out) (tkD_21 Z k h89Z.out) hact).mono ?_
          rintro e v8 ⟨he, hB, hm⟩
          obtain rfl : e = .returned (.bool true) := he
          have ok8 : Br.ok (tpass (tkD Z k) k) := okr
          have E8 := Ext.mutE EZ7 hm (fun n hn h1 => by have := h1.1; have := hsx.out; omega)
          clear EZ7
          have H8x := Lib.hid (show BrG _ (fun n => Nx ≤ n ∧ n < X + 1) X gx (tpass (tkD Z k) k) from hB)
          clear hB hm
          have hkr : k < ((tpass (tkD Z k) k)).np := by rw [hnr]; exact hkx
          clear c17 hfr p21 p87 p32 p25 p48 p39
          have HQ := Lib.hid hr49
          clear hact h41 hr49 h49 HTL
          obtain ⟨hXlz, hglz, hnez⟩ := H8x.out.lt
          obtain ⟨capz, c17z, hcaz, hcbz⟩ := H8x.out.cell17 ok8
          rw [show ((tpass (tkD Z k) k)).np = B.np from (hnr.trans hnp)] at c17z hcaz
          have hfrz := H8x.out.frozen
          have p48z := (H8x.out.cellg (i := k * 89 + 48) (lt89 (N := ((tpass (tkD Z k) k)).np) hkr (by decide))).trans (Br.ok.gb ok8 (k := k) hkr 48 rfl)
          rw [hr48] at p48z
          have p39z := (H8x.out.cellg (i := k * 89 + 39) (lt89 (N := ((tpass (tkD Z k) k)).np) hkr (by decide))).trans (Br.ok.gb ok8 (k := k) hkr 39 rfl)
          rw [hr39] at p39z
          clear hr48 hr39
          go_wp2_with fail
          go_loop [14] (fun v => ∃ n : Nat, n ≤ B.np ∧ v = .int .i64 n) (fun v => B.np - (intOf v).toNat)
          case atStart => exact ⟨0, by omega, rfl⟩
          case round =>
            obtain ⟨n, hn, rfl⟩ := hrel
            by_cases hlt : n < B.np
            · have hnx : n < ((tpass (tkD Z k) k)).np := by rw [show ((tpass (tkD Z k) k)).np = B.np from (hnr.trans hnp)]; exact hlt
              have pn := (H8x.out.cellg (i := n * 89 + 49) (lt89 hnx (by decide))).trans (Br.ok.gb ok8 (k := n) hnx 49 rfl)
              rw [HQ.out n (by rw [hnp]; exact hlt)] at pn
              by_cases hnk : n = k
              · have hb : ((n : Int) != (k : Int)) = false := by rw [hnk]; simp
                rw [show decide (n ≠ k) = false by simpa using hnk] at pn
                clear hnk
                go_wp2_with fail
                go_round
                case rel => exact ⟨n + 1, by omega, by go_num⟩
                case measure => simp [intOf]; omega
              · have hb : ((n : Int) != (k : Int)) = true := by
                  have : (n : Int) ≠ (k : Int) := by omega
                  simpa using this
                rw [show decide (n ≠ k) = true by simpa using hnk] at pn
                clear hnk
                go_wp2_with fail
                go_round
                case rel => exact ⟨n + 1, by omega, by go_num⟩
                case measure => simp [intOf]; omega
            · obtain rfl : n = B.np := by omega
              go_wp2_with fail
              all_goals
                go_ret
                exact ⟨rfl, HE0.out.trans E8⟩
        · rw [h41] at hact
          obtain ⟨okr, hnr, hr49, hr48, hr39⟩ := HTL.out (tpass (tbegin (tkD Z k) k) k) (.inr rfl)
          refine (top_step2_2 _ (fun n => Nx ≤ n ∧ n < X + 1) X gx k (tkD Z k) HZ7.out okz7 hkx hnx HTZ.out (fun n hn => by have := hn.2; have := HZ7.out.lt.1; omega) (tkD_25 Z k h89Z.out) (tkD_21 Z k h89Z.out) hact).mono ?_
          rintro e v9 ⟨he, hB, hm⟩
          obtain rfl : e = .returned (.bool true) := he
          have ok9 : Br.ok (tpass (tbegin (tkD Z k) k) k) := okr
          have E9 := Ext.mutE EZ7 hm (fun n hn h1 => by have := h1.1; have := hsx.out; omega)
          clear EZ7
          have H9x := Lib.hid (show BrG _ (fun n => Nx ≤ n ∧ n < X + 1) X gx (tpass (tbegin (tkD Z k) k) k) from hB)
          clear hB hm
          have hkr : k < ((tpass (tbegin (tkD Z k) k) k)).np := by rw [hnr]; exact hkx
          clear c17 hfr p21 p87 p32 p25 p48 p39
          have HQ := Lib.hid hr49
          clear hact h41 hr49 h49 HTL
          obtain ⟨hXlz, hglz, hnez⟩ := H9x.out.lt
          obtain ⟨capz, c17z, hcaz, hcbz⟩ := H9x.out.cell17 ok9
          rw [show ((tpass (tbegin (tkD Z k) k) k)).np = B.np from (hnr.trans hnp)] at c17z hcaz
          have hfrz := H9x.out.frozen
          have p48z := (H9x.out.cellg (i := k * 89 + 48) (lt89 (N := ((tpass (tbegin (tkD Z k) k) k)).np) hkr (by decide))).trans (Br.ok.gb ok9 (k := k) hkr 48 rfl)
          rw [hr48] at p48z
          have p39z := (H9x.out.cellg (i := k * 89 + 39) (lt89 (N := ((tpass (tbegin (tkD Z k) k) k)).np) hkr (by decide))).trans (Br.ok.gb ok9 (k := k) hkr 39 rfl)
          rw [hr39] at p39z
          clear hr48 hr39
          go_wp2_with fail
          go_loop [14] (fun v => ∃ n : Nat, n ≤ B.np ∧ v = .int .i64 n) (fun v => B.np - (intOf v).toNat)
          case atStart => exact ⟨0, by omega, rfl⟩
          case round =>
            obtain ⟨n, hn, rfl⟩ := hrel
            by_cases hlt : n < B.np
            · have hnx : n < ((tpass (tbegin (tkD Z k) k) k)).np := by rw [show ((tpass (tbegin (tkD Z k) k) k)).np = B.np from (hnr.trans hnp)]; exact hlt
              have pn := (H9x.out.cellg (i := n * 89 + 49) (lt89 hnx (by decide))).trans (Br.ok.gb ok9 (k := n) hnx 49 rfl)
              rw [HQ.out n (by rw [hnp]; exact hlt)] at pn
              by_cases hnk : n = k
              · have hb : ((n : Int) != (k : Int)) = false := by rw [hnk]; simp
                rw [show decide (n ≠ k) = false by simpa using hnk] at pn
                clear hnk
                go_wp2_with fail
                go_round
                case rel => exact ⟨n + 1, by omega, by go_num⟩
                case measure => simp [intOf]; omega
              · have hb : ((n : Int) != (k : Int)) = true := by
                  have : (n : Int) ≠ (k : Int) := by omega
                  simpa using this
                rw [show decide (n ≠ k) = true by simpa using hnk] at pn
                clear hnk
                go_wp2_with fail
                go_round
                case rel => exact ⟨n + 1, by omega, by go_num⟩
                case measure => simp [intOf]; omega
            · obtain rfl : n = B.np := by omega
              go_wp2_with fail
              all_goals
                go_ret
                exact ⟨rfl, HE0.out.trans E9⟩
      · go_wp2_with fail
        have HZ10 := Lib.hid (show BrG _ (fun n => Nx ≤ n ∧ n < X + 1) X gx (tkR Z k) from (((((((H6.out.setp (k := k) (j := 21) hkx (by decide) (.int .i64 2)).setp (k := k) (j := 87) hkx (by decide) (.int .i64 4)).setp (k := k) (j := 87) hkx (by decide) (.int .i64 3)).setp (k := k) (j := 32) hkx (by decide) (.bool false)).setp (k := k) (j := 25) hkx (by decide) (.bool false)).setp (k := k) (j := 48) hkx (by decide) (.bool false)).setp (k := k) (j := 39) hkx (by decide) (.bool true)))
        have okz10 : Br.ok (tkR Z k) := (((((((okn.setI (k := k) hkx 21 .i64 2 rfl (by decide)).setI (k := k) hkx 87 .i64 4 rfl (by decide)).setI (k := k) hkx 87 .i64 3 rfl (by decide)).setB (k := k) hkx 32 false rfl).setB (k := k) hkx 25 false rfl).setB (k := k) hkx 48 false rfl).setB (k := k) hkx 39 true rfl)
        have hmz := ((((((((Mut.refl (fun n => Nx ≤ n ∧ n < X + 1) wr).setCell (p := ⟨gx, k * 89 + 21, none⟩) (.inl H6.out.F2) (.int .i64 2)).setCell (p := ⟨gx, k * 89 + 87, none⟩) (.inl H6.out.F2) (.int .i64 4)).setCell (p := ⟨gx, k * 89 + 87, none⟩) (.inl H6.out.F2) (.int .i64 3)).setCell (p := ⟨gx, k * 89 + 32, none⟩) (.inl H6.out.F2) (.bool false)).setCell (p := ⟨gx, k * 89 + 25, none⟩) (.inl H6.out.F2) (.bool false)).setCell (p := ⟨gx, k * 89 + 48, none⟩) (.inl H6.out.F2) (.bool false)).setCell (p := ⟨gx, k * 89 + 39, none⟩) (.inl H6.out.F2) (.bool true))
        have EZ10 := Ext.mutE E6 hmz (fun n hn h1 => by have := h1.1; have := hsx.out; omega)
        clear E6
        have HMZ := Lib.hid hmz
        clear hmz
        have h49 := HZ.out k hkx
        have HTL := Lib.hid (tkR_tells Z k okn okz10 hkx h49 HTZ.out)
        have hact := tkR_act Z k h89Z.out
        cases h41 : Z.gb k 41
        · rw [h41] at hact
          obtain ⟨okr, hnr, hr49, hr48, hr39⟩ := HTL.out (tpass (tkR Z k) k) (.inl rfl)
          refine (top_step2_3 _ (fun n => Nx ≤ n ∧ n < X + 1) X gx k (tkR Z k) HZ10.out okz10 hkx hnx HTZ.out (fun n hn => by have := hn.2; have := HZ10.out.lt.1; omega) (tkR_25 Z k h89Z.out) (tkR_21 Z k h89Z.out) hact).mono ?_
          rintro e v11 ⟨he, hB, hm⟩
          obtain rfl : e = .returned (.bool true) := he
          have ok11 : Br.ok (tpass (tkR Z k) k) := okr
          have E11 := Ext.mutE EZ10 hm (fun n hn h1 => by have := h1.1; have := hsx.out; omega)
          clear EZ10
          have H11x := Lib.hid (show BrG _ (fun n => Nx ≤ n ∧ n < X + 1) X gx (tpass (tkR Z k) k) from hB)
          clear hB hm
          have hkr : k < ((tpass (tkR Z k) k)).np := by rw [hnr]; exact hkx
          clear c17 hfr p21 p87 p32 p25 p48 p39
          have HQ := Lib.hid hr49
          clear hact h41 hr49 h49 HTL
          obtain ⟨hXlz, hglz, hnez⟩ := H11x.out.lt
          obtain ⟨capz, c17z, hcaz, hcbz⟩ := H11x.out.cell17 ok11
          rw [show ((tpass (tkR Z k) k)).np = B.np from (hnr.trans hnp)] at c17z hcaz
          have hfrz := H11x.out.frozen
          have p48z := (H11x.out.cellg (i := k * 89 + 48) (lt89 (N := ((tpass (tkR Z k) k)).np) hkr (by decide))).trans (Br.ok.gb ok11 (k := k) hkr 48 rfl)
          rw [hr48] at p48z
          have p39z := (H11x.out.cellg (i := k * 89 + 39) (lt89 (N := ((tpass (tkR Z k) k)).np) hkr (by decide))).trans (Br.ok.gb ok11 (k := k) hkr 39 rfl)
          rw [hr39] at p39z
          clear hr48 hr39
          go_wp2_with fail
          go_loop [14] (fun v => ∃ n : Nat, n ≤ B.np ∧ v = .int .i64 n) (fun v => B.np - (intOf v).toNat)
          case atStart => exact ⟨0, by omega, rfl⟩
          case round =>
            obtain ⟨n, hn, rfl⟩ := hrel
            by_cases hlt : n < B.np
            · have hnx : n < ((tpass (tkR Z k) k)).np := by rw [show ((tpass (tkR Z k) k)).np = B.np from (hnr.trans hnp)]; exact hlt
              have pn := (H11x.out.cellg (i := n * 89 + 49) (lt89 hnx (by decide))).trans (Br.ok.gb ok11 (k := n) hnx 49 rfl)
              rw [HQ.out n (by rw [hnp]; exact hlt)] at pn
              by_cases hnk : n = k
              · have hb : ((n : Int) != (k : Int)) = false := by rw [hnk]; simp
                rw [show decide (n ≠ k) = false by simpa using hnk] at pn
                clear hnk
                go_wp2_with fail
                go_round
                case rel => exact ⟨n + 1, by omega, by go_num⟩
                case measure => simp [intOf]; omega
              · have hb : ((n : Int) != (k : Int)) = true := by
                  have : (n : Int) ≠ (k : Int) := by omega
                  simpa using this
                rw [show decide (n ≠ k) = true by simpa using hnk] at pn
                clear hnk
                go_wp2_with fail
                go_round
                case rel => exact ⟨n + 1, by omega, by go_num⟩
                case measure => simp [intOf]; omega
            · obtain rfl : n = B.np := by omega
              go_wp2_with fail
              all_goals
                go_ret
                exact ⟨rfl, HE0.out.trans E11⟩
        · rw [h41] at hact
          obtain ⟨okr, hnr, hr49, hr48, hr39⟩ := HTL.out (tpass (tbegin (tkR Z k) k) k) (.inr rfl)
          refine (top_step2_2 _ (fun n => Nx ≤ n ∧ n < X + 1) X gx k (tkR Z k) HZ10.out okz10 hkx hnx HTZ.out (fun n hn => by have := hn.2; have := HZ10.out.lt.1; omega) (tkR_25 Z k h89Z.out) (tkR_21 Z k h89Z.out) hact).mono ?_
          rintro e v12 ⟨he, hB, hm⟩
          obtain rfl : e = .returned (.bool true) := he
          have ok12 : Br.ok (tpass (tbegin (tkR Z k) k) k) := okr
          have E12 := Ext.mutE EZ10 hm (fun n hn h1 => by have := h1.1; have := hsx.out; omega)
          clear EZ10
          have H12x := Lib.hid (show BrG _ (fun n => Nx ≤ n ∧ n < X + 1) X gx (tpass (tbegin (tkR Z k) k) k) from hB)
          clear hB hm
          have hkr : k < ((tpass (tbegin (tkR Z k) k) k)).np := by rw [hnr]; exact hkx
          clear c17 hfr p21 p87 p32 p25 p48 p39
          have HQ := Lib.hid hr49
          clear hact h41 hr49 h49 HTL
          obtain ⟨hXlz, hglz, hnez⟩ := H12x.out.lt
          obtain ⟨capz, c17z, hcaz, hcbz⟩ := H12x.out.cell17 ok12
          rw [show ((tpass (tbegin (tkR Z k) k) k)).np = B.np from (hnr.trans hnp)] at c17z hcaz
          have hfrz := H12x.out.frozen
          have p48z := (H12x.out.cellg (i := k * 89 + 48) (lt89 (N := ((tpass (tbegin (tkR Z k) k) k)).np) hkr (by decide))).trans (Br.ok.gb ok12 (k := k) hkr 48 rfl)
          rw [hr48] at p48z
          have p39z := (H12x.out.cellg (i := k * 89 + 39) (lt89 (N := ((tpass (tbegin (tkR Z k) k) k)).np) hkr (by decide))).trans (Br.ok.gb ok12 (k := k) hkr 39 rfl)
          rw [hr39] at p39z
          clear hr48 hr39
          go_wp2_with fail
          go_loop [14] (fun v => ∃ n : Nat, n ≤ B.np ∧ v = .int .i64 n) (fun v => B.np - (intOf v).toNat)
          case atStart => exact ⟨0, by omega, rfl⟩
          case round =>
            obtain ⟨n, hn, rfl⟩ := hrel
            by_cases hlt : n < B.np
            · have hnx : n < ((tpass (tbegin (tkR Z k) k) k)).np := by rw [show ((tpass (tbegin (tkR Z k) k) k)).np = B.np from (hnr.trans hnp)]; exact hlt
              have pn := (H12x.out.cellg (i := n * 89 + 49) (lt89 hnx (by decide))).trans (Br.ok.gb ok12 (k := n) hnx 49 rfl)
              rw [HQ.out n (by rw [hnp]; exact hlt)] at pn
              by_cases hnk : n = k
              · have hb : ((n : Int) != (k : Int)) = false := by rw [hnk]; simp
                rw [show decide (n ≠ k) = false by simpa using hnk] at pn
                clear hnk
                go_wp2_with fail
                go_round
                case rel => exact ⟨n + 1, by omega, by go_num⟩
                case measure => simp [intOf]; omega
              · have hb : ((n : Int) != (k : Int)) = true := by
                  have : (n : Int) ≠ (k : Int) := by omega
                  simpa using this
                rw [show decide (n ≠ k) = true by simpa using hnk] at pn
                clear hnk
                go_wp2_with fail
                go_round
                case rel => exact ⟨n + 1, by omega, by go_num⟩
                case measure => simp [intOf]; omega
            · obtain rfl : n = B.np := by omega
              go_wp2_with fail
              all_goals
                go_ret
                exact ⟨rfl, HE0.out.trans E12⟩

end Go.Proofs.Ytpieamfpgfabgaa
