/- The walk of RelayGoes. No statement is proved here. -/
import Derived.Test.YtemmfbedchfekaaRlK
namespace Go.Proofs.Ytemmfbedchfekaa
open Go.RowKit Go.BigFrame Go.WideShapes Go.ChangeShapes Go.Deep
set_option linter.unusedVariables false
set_option linter.unusedSimpArgs false
set_option maxRecDepth 100000

theorem bfdb (a b : Int) : Try.prog.built 42 [(0, .int .i64 a), (1, .int .i64 b)] = some #[.int .i64 a, .int .i64 b, .slice none 0 0] := by kernel_rfl
theorem dw_new {w : World} {F : Nat → Prop} {wb : Nat} {most age : Int} (h : w.heap[wb]? = some (.cells #[.int .i64 most, .int .i64 age, .slice none 0 0] 42 (0, 0))) (hF : ¬ F wb) : Dw w F wb [] most age := ⟨none, 0, h, by simp, hF, fun h0 => by simp at h0⟩
theorem size_is (v : Value) : (Try.prog.info? 31).map (·.size) = some (#[v] : Array Value).size := by
  rw [show (#[v] : Array Value).size = 1 from rfl]
  kernel_rfl
theorem own_none (w : World) : (w.alloc (.cells #[] 3)).ownsRow w.heap.size 3 1 (.slice (some ⟨w.heap.size, 0, none⟩) 0 0) 0 [] := by
  have := World.ownsRow_made (base := w.heap.size) (e := 3) (size := 1) w #[] 0 (by simp) (by unfold maxLen; omega) (by simp)
  exact this
/-- Either way the bridge's own. -/
theorem two_ok {B B' : Br} (ho : B.ok) (h : B' = B ∨ B' = B.setf []) : B'.ok ∧ B'.np = B.np ∧ B'.hd = B.hd ∧ B'.setf B.fl = B := by
  rcases h with rfl | rfl
  · exact ⟨ho, rfl, rfl, setf_self ho⟩
  · exact ⟨setf_none ho, rfl, rfl, setf_self ho⟩
set_option maxRecDepth 100000 in
set_option maxHeartbeats 2000000 in
theorem law_RelayGoes {w : World} (c : Array Value) (B : Br) (hb : BrC w c B) (ho : B.ok) (a : Int) (ha : 0 ≤ a ∧ a < 256) (v : Value) (L : List Fr) (h : FrsAt w v L ∧ ∀ h ∈ L, h.wf) :
    Calls Try.prog 3 #[.agg c, .int .u8 a, v] w fun e w' => e = .returned (.bool true) ∧ Ext w w' := by
  obtain ⟨hfrs, hwf⟩ := h
  obtain ⟨av, lcap, rfl, hm, hf⟩ := hfrs
  have HF := Lib.hid hf
  have HWF := Lib.hid hwf
  obtain ⟨n, hn⟩ : ∃ n : Nat, 1 + a % 8 = (n : Int) := ⟨(1 + a % 8).toNat, by omega⟩
  have HN8 := Lib.hid (show 1 ≤ n ∧ n ≤ 8 by omega)
  have HBC := Lib.hid hb
  obtain ⟨_, _, s3, hcz, _, _, _, hc19, _, _, hr3⟩ := hb.facts ho.hd.1
  obtain ⟨fa, fk, rfl, _, _⟩ := hr3.form
  obtain ⟨zs, _, hzs, _⟩ := hb.fls ho
  have CF := Lib.hid hc19
  have RF0 := Lib.hid hr3
  have HZS := Lib.hid hzs
  have HD2 := Lib.hid ho.hd.1
  have HFL := Lib.hid (show B.fl.length = B.nf by have := ho.fl.1; simpa using this)
  have hci := Lib.hid (show (Try.prog.info? 33).map (·.size) = some c.size by rw [hcz]; exact size_br)
  obtain ⟨i3, hi3, hz3, hs3, hb3⟩ := info_i64
  have I3 := Lib.hid (And.intro hi3 (And.intro hz3 (And.intro hs3 hb3)))
  have ha0 := ha.1
  clear hf hwf hb hcz hc19 hr3 hzs hi3 hz3 hs3 hb3 ha
  go_enter Try.func3, Try.ntmps3
  go_wp2_with fail
  refine (awake19 _).mono ?_
  rintro e w1 ⟨rfl, hx1⟩
  have hxr : w1.heap[w.heap.size]? = some (.cells c 33 (0, 0)) := (hx1.block _ (by simp)).trans (heap_alloc_new _ _)
  obtain ⟨X, hX⟩ : ∃ X, w.heap.size = X := ⟨_, rfl⟩
  rw [hX] at hxr ⊢
  have HXR := Lib.hid hxr
  have HX1 := Lib.hid (((Ext.refl w).alloc _).trans hx1)
  clear hx1 hxr hX
  go_wp2_with (first
    | fail
    | ((with_reducible refine at_load 33 ?_); refine wpList_load_row rfl 33 _ rfl X rfl 33 c (0, 0) _ HXR.out Try.underlying33 rfl hci.out ?_))
  refine (few_any c B w1 (HBC.out.ext HX1.out) ho).mono ?_
  rintro e w2 ⟨fw, rfl, hx2, hfew⟩
  have HXR2 := Lib.hid ((hx2.block X (heap_lt HXR.out)).trans HXR.out)
  have HW2 := Lib.hid (HX1.out.trans hx2)
  clear hx2 HXR
  cases fw with
  | false =>
    clear hfew
    go_wp2_with fail
    go_ret
    exact ⟨rfl, HW2.out⟩
  | true =>
  obtain ⟨hright, hnp1, hnp8, hno, hnf⟩ := hfew.1 rfl
  have HNP := Lib.hid (show 1 ≤ B.np ∧ B.np ≤ 8 ∧ B.no ≤ 20 ∧ B.nf ≤ 20 from ⟨hnp1, hnp8, hno, hnf⟩)
  have HSEC := Lib.hid (show 0 ≤ secB B ∧ secB B < 1000 by
    obtain ⟨⟨h1, _⟩, _⟩ := hright
    unfold TR at h1
    unfold secB
    split <;> omega)
  have RF := Lib.hid (RF0.out.ext HW2.out)
  clear hfew hright hnp1 hnp8 hno hnf RF0
  by_cases hl : 40 < L.length
  · have d0 : decide (40 < (L.length : Int)) = true := by simp; omega
    go_wp2_with fail
    go_ret
    exact ⟨rfl, HW2.out⟩
  have d0 : decide (40 < (L.length : Int)) = false := by simp; omega
  go_wp2_with fail
  refine (new_good w2 n 300 (by have := HN8.out; omega)).mono ?_
  rintro e w3 ⟨f, rfl, hx3, -, hb3⟩
  obtain ⟨F, hF⟩ : ∃ F : Nat → Prop, F = fun k => w2.heap.size ≤ k ∧ k < w3.heap.size := ⟨_, rfl⟩
  rw [← hF] at hb3
  have HF0 := Lib.hid (show ∀ k, F k → w2.heap.size ≤ k ∧ k < w3.heap.size from fun k h => by rw [hF] at h; exact h)
  have HB3 := Lib.hid hb3
  have HX3 := Lib.hid hx3
  clear hb3 hF hx3
  have BF := bfdb n 300
  go_upto_region 7 with fail
  have hrw := heap_alloc_new w3 (.cells #[.int .i64 (n : Int), .int .i64 300, .slice none 0 0] 42)
  have hxw : Ext w3 (w3.alloc (.cells #[.int .i64 (n : Int), .int .i64 300, .slice none 0 0] 42)) := (Ext.refl w3).alloc _
  obtain ⟨wb, hwb⟩ : ∃ k, w3.heap.size = k := ⟨_, rfl⟩
  rw [hwb] at hrw ⊢
  generalize w3.alloc (.cells #[.int .i64 (n : Int), .int .i64 300, .slice none 0 0] 42) = w4 at *
  have HWB := Lib.hid hwb
  have HRW := Lib.hid hrw
  have HX4 := Lib.hid hxw
  have HX24 := Lib.hid (HX3.out.trans hxw)
  have hX4r := (HX24.out.block X (heap_lt HXR2.out)).trans HXR2.out
  have HXR4 := Lib.hid hX4r
  clear hwb hrw hxw hX4r BF
  go_wp2_with (first
    | fail
    | ((with_reducible refine at_load 33 ?_); refine wpList_load_row rfl 33 _ rfl X rfl 33 c (0, 0) _ HXR4.out Try.underlying33 rfl hci.out ?_))
  refine (clone_any c B w4 (HBC.out.ext (HW2.out.trans HX24.out)) ho (by have := HNP.out; omega)).mono ?_
  rintro e w5 ⟨cx, rfl, hocx, hx5⟩
  have HOX := Lib.hid hocx
  have HX5 := Lib.hid hx5
  have HXR5 := Lib.hid ((hx5.block X (heap_lt HXR4.out)).trans HXR4.out)
  have hcscx : cx.size = 20 := hocx.size ho
  have HLcx := Lib.hid (show 0 + cx.size ≤ BZ.size by rw [hcscx]; decide)
  have HIcx := Lib.hid (show (Try.prog.info? 33).map (·.size) = some cx.size by rw [hcscx]; exact size_br)
  have HOcx := Lib.hid (hocx.one ho)
  have HFcx := Lib.hid (full_row hcscx)
  have HScx := Lib.hid hcscx
  clear hocx hx5 hcscx
  go_wp2_with (first
    | fail
    | ((with_reducible refine at_alloc 33 ?_); refine al_zero rfl 33 rfl BZ zero_br ?_
       intro Zx wz hqz hsz hxz)
    | ((with_reducible refine at_store 33 ?_); refine st_at rfl rfl 33 _ _ rfl Zx 0 _ cx BZ cx 33 rfl rfl rfl hqz HLcx.out HIcx.out HOcx.out HFcx.out ?_
       intro wZx hq5 hm5
       have HEZx := Lib.hid (show Ext w5 wZx from hxz.mutE hm5 (fun n hn h => by have h2 : n = Zx := h; omega))
       have HZx := Lib.hid hq5
       have HNZx := Lib.hid (show w5.heap.size = Zx from hsz)
       clear hqz hsz hxz hq5 hm5)
    | ((with_reducible refine at_load 33 ?_); refine wpList_load_row rfl 33 _ rfl X rfl 33 c (0, 0) _ ((HEZx.out.block X (heap_lt HXR5.out)).trans HXR5.out) Try.underlying33 rfl hci.out ?_))
  refine (clone_any c B wZx (HBC.out.ext (HW2.out.trans (HX24.out.trans (HX5.out.trans HEZx.out)))) ho (by have := HNP.out; omega)).mono ?_
  rintro e w7 ⟨cy, rfl, hocy, hx7⟩
  have HOY := Lib.hid hocy
  have HX7 := Lib.hid hx7
  have hcscy : cy.size = 20 := hocy.size ho
  have HLcy := Lib.hid (show 0 + cy.size ≤ BZ.size by rw [hcscy]; decide)
  have HIcy := Lib.hid (show (Try.prog.info? 33).map (·.size) = some cy.size by rw [hcscy]; exact size_br)
  have HOcy := Lib.hid (hocy.one ho)
  have HFcy := Lib.hid (full_row hcscy)
  have HScy := Lib.hid hcscy
  clear hocy hx7 hcscy
  go_wp2_with (first
    | fail
    | ((with_reducible refine at_alloc 33 ?_); refine al_zero rfl 33 rfl BZ zero_br ?_
       intro Zy wz hqz hsz hxz)
    | ((with_reducible refine at_store 33 ?_); refine st_at rfl rfl 33 _ _ rfl Zy 0 _ cy BZ cy 33 rfl rfl rfl hqz HLcy.out HIcy.out HOcy.out HFcy.out ?_
       intro wZy hq5 hm5
       have HEZy := Lib.hid (show Ext w7 wZy from hxz.mutE hm5 (fun n hn h => by have h2 : n = Zy := h; omega))
       have HZy := Lib.hid hq5
       have HNZy := Lib.hid (show w7.heap.size = Zy from hsz)
       clear hqz hsz hxz hq5 hm5))
  have HS := Lib.hid (show R0 w2 wZy f wb Zx Zy [] [] n cx cy B B from by
    have s1 := HX24.out.size
    have s2 := HX5.out.size
    have s3 := HEZx.out.size
    have s4 := HX7.out.size
    have s5 := HEZy.out.size
    have s6 := HX3.out.size
    have s7 := HNZx.out
    have s8 := HNZy.out
    have s9 := HWB.out
    have t1 := heap_lt HRW.out
    have t2 := heap_lt HZx.out
    have e48 := HX5.out.trans (HEZx.out.trans (HX7.out.trans HEZy.out))
    refine ⟨F, (HB3.out.ext HX4.out).ext e48, dw_new ((e48.block wb t1).trans HRW.out) (fun hc => ?_), ?_, ?_, ((HX7.out.trans HEZy.out).block Zx t2).trans HZx.out, HZy.out, fun hc => ?_, fun hc => ?_, fun hc => ?_, ⟨by omega, by omega, by omega⟩, ⟨fun k hk => (HF0.out k hk).1, by omega, by omega, by omega⟩, HX24.out.trans e48, HScx.out, HScy.out⟩
    · rcases hc with hc | hc | hc
      · have := HF0.out wb hc; omega
      · omega
      · omega
    · have k5 : BrK w5 (fun k => F k ∨ k = wb) cx B := brk_own HOX.out (fun k hk => by
        rcases hk with hk | hk
        · have := HF0.out k hk; omega
        · omega)
      have e58 := HEZx.out.trans (HX7.out.trans HEZy.out)
      exact k5.step e58.size (fun k hk _ => e58.block k hk) (fun k hk h => by
        rcases h with h | h | h | h
        · exact .inl h
        · exact .inr h
        · omega
        · omega)
    · have k7 : BrK w7 (fun k => F k ∨ k = wb ∨ k = Zx) cy B := brk_own HOY.out (fun k hk => by
        rcases hk with hk | hk | hk
        · have := HF0.out k hk; omega
        · omega
        · omega)
      exact k7.step HEZy.out.size (fun k hk _ => HEZy.out.block k hk) (fun k hk h => by
        rcases h with h | h | h | h
        · exact .inl h
        · exact .inr (.inl h)
        · exact .inr (.inr h)
        · omega)
    · have := HF0.out Zx hc; omega
    · have := HF0.out Zy hc; omega
    · have := HF0.out wb hc; omega)
  clear HLcx HIcx HOcx HFcx HScx HLcy HIcy HOcy HFcy HScy HOX HOY HX5 HX7 HEZx HEZy HZx HZy HNZx HNZy HRW HX4 HWB HXR4 HXR5 HB3 HF0 HX3
  go_wp2_with fail
  go_loopw [13] (fun s wr => ∃ i : Nat, i ≤ L.length ∧ s = .int .i64 i ∧ ∃ M cx cy B', Ok 300 M ∧ (M.length : Int) ≤ n ∧ (B' = B ∨ B' = B.setf []) ∧ R0 w2 wr f wb Zx Zy M M n cx cy B' B') (fun s _ => L.length - (intOf s).toNat)
  case atStart => exact ⟨0, by omega, rfl, [], cx, cy, B, nil_ok 300, by simp, .inl rfl, HS.out⟩
  case round =>
    clear HS
    obtain ⟨i, hi, rfl, M, cx1, cy1, B1, hM, hMl, hB1, hr0⟩ := hrel
    rename World => wr
    have HM := Lib.hid hM
    have HML := Lib.hid hMl
    have HB1 := Lib.hid hB1
    have HR0 := Lib.hid hr0
    clear hM hMl hB1 hr0
    by_cases hlt : i < L.length
    · have dlt : decide ((i : Int) < (L.length : Int)) = true := by simp; omega
      obtain ⟨bb, off, rfl, hbl, hlc, hcm, hrg⟩ := HF.out (by omega)
      obtain ⟨x, hx⟩ : ∃ x, L[i] = x := ⟨_, rfl⟩
      have hxL : L[i]? = some x := by rw [List.getElem?_eq_getElem hlt, hx]
      have hxw := HWF.out x (hx ▸ List.getElem_mem hlt)
      have hr0 : w.rangeAt bb (off + i * 3) x.L := by
        have := flatF_at L i x hxL
        intro j u hu
        have hj : j < 3 := (List.getElem?_eq_some_iff.1 hu).1
        have := hrg (i * 3 + j) u (by rw [← this, List.getElem?_take_of_lt hj, List.getElem?_drop] at hu; exact hu)
        rw [show off + i * 3 + j = off + (i * 3 + j) by omega]
        exact this
      have hr1 := Lib.hid (rangeAt_ext hr0 (HW2.out.trans HR0.out.ext) hbl)
      clear hrg hr0
      obtain ⟨hxn, hxs, hxd⟩ := hxw
      have HXN := Lib.hid hxn
      have HXS := Lib.hid hxs
      have HXD := Lib.hid hxd
      clear hxn hxs hxd hx hxL

      by_cases hs0 : x.s = 0
      · have ds : (x.s == 0) = true := by simpa using hs0
        have HDB := Lib.hid (show B1.hd.length = 17 by rw [(two_ok ho HB1.out).2.2.1]; exact ho.hd.1)
        clear hs0
        go_upto_region 17 with (first
          | fail
          | ((with_reducible refine at_load 45 ?_); refine wpList_load_mid rfl 45 _ rfl bb (off + i * 3) rfl x.L _ hr1.out Try.underlying45 rfl size_fr ?_)
          | ((with_reducible refine at_alloc 45 ?_); refine al_zero rfl 45 rfl FZ zero_fr ?_
             intro Y wq hq hs hx)
          | ((with_reducible refine at_store 45 ?_); refine st_at rfl rfl 45 _ _ rfl Y 0 _ x.L.toArray FZ x.L.toArray 45 rfl rfl rfl hq (by exact (by decide : 0 + 3 ≤ 3)) (by kernel_rfl) rfl rfl ?_
             intro wf hq' hm'
             have EB : Ext wr wf := hx.mutE hm' (fun n hn h => by have h2 : n = Y := h; omega)
             have HR := Lib.hid (HR0.out.box EB hq' (by omega))
             have e1 : wf.cell? ⟨Y, 1, none⟩ = some (.int .u64 x.s) := by rw [cell_row hq']; rfl
             have cf : wf.cell? ⟨X, 19, none⟩ = some (.slice fa B.nf fk) := by rw [cell_of_row _ _ _ _ _ _ ((HR.out.ext.block X (heap_lt HXR2.out)).trans HXR2.out)]; exact CF.out
             have hXl : X < wf.heap.size := Nat.lt_of_lt_of_le (heap_lt HXR2.out) HR.out.ext.size
             clear hx hm' hq hs wq hq' EB)
          | (at_builtin; refine wpList_append_row rfl _ _ 31 rfl wf.heap.size 3 i3 (.int .i64 0) 1 8 Try.underlying31 I3.out.1 I3.out.2.1 I3.out.2.2.1 I3.out.2.2.2 rfl (by decide) _ rfl (own_none wf) (.slice fa B.nf fk) rfl B.nf B.fl (RF.out.ext (HR.out.ext.trans ((Ext.refl wf).alloc _))) ho.fl.one (by have := HNP.out; omega) (by have := HNP.out; unfold maxLen; omega) (by simp) ?_
             intro a1 k1 wa1 qa ga
             have ea : Ext wf wa1 := Below.grown ((Ext.refl wf).alloc _) ga ((Ext.refl wf).alloc (.cells #[] 3)).size (fun k hk => by have h9 : some wf.heap.size = some k := hk; injection h9 with h9; omega)
             have HEA1 := Lib.hid ea
             have HQA1 := Lib.hid qa
             have HRA1 := Lib.hid (HR.out.grow ea)
             have hzc1 := Lib.hid (show 19 + (#[Value.slice a1 B.nf k1] : Array Value).size ≤ cx1.size by rw [HRA1.out.size.1]; exact (by decide : 19 + 1 ≤ 20))
             have hrc1 := Lib.hid (row_setA HRA1.out.size.1 (.slice a1 B.nf k1))
             clear qa ga ea)
          | ((with_reducible refine at_store 31 ?_); refine st_at rfl rfl 31 _ _ rfl Zx 19 _ #[.slice a1 B.nf k1] cx1 (cx1.setIfInBounds 19 (.slice a1 B.nf k1)) 33 rfl rfl rfl HRA1.out.row.1 hzc1.out (size_is _) rfl hrc1.out ?_
             intro ws1 hqs hms
             have HR1 := Lib.hid (y_setx (l := B.fl) HR.out HDB.out HEA1.out (by rw [HFL.out]; exact HQA1.out) hms hqs)
             clear hqs hms))
        have cf : ws1.cell? ⟨X, 19, none⟩ = some (.slice fa B.nf fk) := by rw [cell_of_row _ _ _ _ _ _ ((HR1.out.ext.block X (heap_lt HXR2.out)).trans HXR2.out)]; exact CF.out
        have hXl1 : X < ws1.heap.size := Nat.lt_of_lt_of_le (heap_lt HXR2.out) HR1.out.ext.size
        go_wp2_with (first
          | fail
          | (at_builtin; refine wpList_append_row rfl _ _ 31 rfl ws1.heap.size 3 i3 (.int .i64 0) 1 8 Try.underlying31 I3.out.1 I3.out.2.1 I3.out.2.2.1 I3.out.2.2.2 rfl (by decide) _ rfl (own_none ws1) (.slice fa B.nf fk) rfl B.nf B.fl (RF.out.ext (HR1.out.ext.trans ((Ext.refl ws1).alloc _))) ho.fl.one (by have := HNP.out; omega) (by have := HNP.out; unfold maxLen; omega) (by simp) ?_
             intro a2 k2 wa2 qa ga
             have ea : Ext ws1 wa2 := Below.grown ((Ext.refl ws1).alloc _) ga ((Ext.refl ws1).alloc (.cells #[] 3)).size (fun k hk => by have h9 : some ws1.heap.size = some k := hk; injection h9 with h9; omega)
             have HEA2 := Lib.hid ea
             have HQA2 := Lib.hid qa
             have HRA2 := Lib.hid (HR1.out.grow ea)
             have hzc2 := Lib.hid (show 19 + (#[Value.slice a2 B.nf k2] : Array Value).size ≤ cy1.size by rw [HRA2.out.size.2]; exact (by decide : 19 + 1 ≤ 20))
             have hrc2 := Lib.hid (row_setA HRA2.out.size.2 (.slice a2 B.nf k2))
             clear qa ga ea)
          | ((with_reducible refine at_store 31 ?_); refine st_at rfl rfl 31 _ _ rfl Zy 19 _ #[.slice a2 B.nf k2] cy1 (cy1.setIfInBounds 19 (.slice a2 B.nf k2)) 33 rfl rfl rfl HRA2.out.row.2.1 hzc2.out (size_is _) rfl hrc2.out ?_
             intro ws2 hqs hms
             have HR2 := Lib.hid (y_sety (l := B.fl) HR1.out HDB.out HEA2.out (by rw [HFL.out]; exact HQA2.out) hms hqs)
             clear hqs hms))
        have hBB := (two_ok ho HB1.out).2.2.2
        have HR3 := HR2.out
        rw [hBB] at HR3
        have HR4 := Lib.hid HR3
        clear HR3 hBB
        refine (y_flush HR4.out HM.out (by have := HML.out; have := HN8.out; omega) ho (by have := HNP.out; omega) zs HZS.out).mono ?_
        rintro e w8 ⟨rfl, hr5⟩
        have HR5 := Lib.hid hr5
        clear hr5
        go_wp2_with fail
        refine (y_qflush HR5.out HM.out ho (by have := HNP.out; omega) HSEC.out zs HZS.out).mono ?_
        rintro e w9 ⟨rfl, hr6⟩
        have hok6 : Ok 300 (flushL B zs M) := flushL_ok zs HM.out
        have hln6 : ((flushL B zs M).length : Int) ≤ n := by have := flushL_len (B := B) zs M; have := HML.out; omega
        generalize flushL B zs M = M2 at hr6 hok6 hln6
        obtain ⟨B2, hB2⟩ : ∃ B2, B.setf [] = B2 := ⟨_, rfl⟩
        rw [hB2] at hr6
        have HB2 := Lib.hid (show B2 = B ∨ B2 = B.setf [] from .inr hB2.symm)
        have HM2 := Lib.hid hok6
        have HML2 := Lib.hid hln6
        obtain ⟨C1, hr6⟩ : ∃ C1, RY w2 w9 f wb Zx Zy Y (.cells x.L.toArray 45 (0, 0)) M2 M2 n C1 _ B2 B2 := ⟨_, hr6⟩
        obtain ⟨C2, hr6⟩ : ∃ C2, RY w2 w9 f wb Zx Zy Y (.cells x.L.toArray 45 (0, 0)) M2 M2 n C1 C2 B2 B2 := ⟨_, hr6⟩
        have HRR := Lib.hid hr6
        have HOK2 := Lib.hid (two_ok ho HB2.out)
        clear hr6 hok6 hln6 HR5 HR4 HR2 HR1 hB2
        obtain ⟨rb, hrb⟩ : ∃ rb, resB x.d = rb := ⟨_, rfl⟩
        have HRB := Lib.hid hrb
        clear hrb
        go_wp2_with fail
        have hci1 := Lib.hid (show (Try.prog.info? 33).map (·.size) = some C1.size by rw [HRR.out.size.1]; exact size_br)
        have hci2 := Lib.hid (show (Try.prog.info? 33).map (·.size) = some C2.size by rw [HRR.out.size.2]; exact size_br)
        refine beginL (S := fun W' => W'.heap[Zx]? = some (.cells C1 33 (0, 0)) ∧ W'.heap[Zy]? = some (.cells C2 33 (0, 0)) ∧ W'.heap[Y]? = some (.cells x.L.toArray 45 (0, 0))) (by kernel_rfl) ?_
        intro wd hqx
        have HRD := Lib.hid (HRR.out.grow hqx)
        have hq0 : wd.heap[Zx]? = some (.cells C1 33 (0, 0)) ∧ wd.heap[Zy]? = some (.cells C2 33 (0, 0)) ∧ wd.heap[Y]? = some (.cells x.L.toArray 45 (0, 0)) := HRD.out.row
        clear hqx
        refine takeL (i := 0) (v := (.pointer (some ⟨Y, 2, none⟩))) rfl (by kernel_rfl) (by kernel_rfl) (by kernel_rfl) (fun _ _ _ h => h) (Or.inl ⟨rfl, fun _ _ => rfl⟩) hq0 ?_
        simp only [Act.put, List.setIfInBounds_toArray, List.set_cons_zero, List.set_cons_succ]
        refine takeL (i := 1) (v := _) rfl (by kernel_rfl) (by kernel_rfl) (by kernel_rfl) (fun _ _ _ h => h) (yieldsIf_cell rfl 22 _ rfl ⟨Y, 2, none⟩ rfl (.int .u64 x.d) _ (fun W' hW' => (cell_of_row _ _ _ _ _ _ hW'.2.2).trans rfl) Try.underlying22 rfl) hq0 ?_
        simp only [Act.put, List.setIfInBounds_toArray, List.set_cons_zero, List.set_cons_succ]
        refine takeL (i := 3) (v := (.pointer (some ⟨Y, 2, none⟩))) rfl (by kernel_rfl) (by kernel_rfl) (by kernel_rfl) (fun _ _ _ h => h) (Or.inl ⟨rfl, fun _ _ => rfl⟩) hq0 ?_
        simp only [Act.put, List.setIfInBounds_toArray, List.set_cons_zero, List.set_cons_succ]
        refine takeL (i := 4) (v := _) rfl (by kernel_rfl) (by kernel_rfl) (by kernel_rfl) (fun _ _ _ h => h) (yieldsIf_cell rfl 22 _ rfl ⟨Y, 2, none⟩ rfl (.int .u64 x.d) _ (fun W' hW' => (cell_of_row _ _ _ _ _ _ hW'.2.2).trans rfl) Try.underlying22 rfl) hq0 ?_
        simp only [Act.put, List.setIfInBounds_toArray, List.set_cons_zero, List.set_cons_succ]
        refine runL (i := 2) rfl rfl (by kernel_rfl) (fun K hK => ?_)
        go_simp
        refine (y_res HRD.out x.d HXD.out rb HRB.out).mono ?_
        rintro e wc1 ⟨rfl, hr1, hw1⟩
        have hq1 := (fun (_ : _) => hw1) hq0
        have HP1 := Lib.hid hr1
        clear hr1
        refine hK.out _ _ hq1 (fun hHeld => ?_)
        try simp only [Act.put, List.setIfInBounds_toArray, List.set_cons_zero, List.set_cons_succ]
        clear hK K hHeld
        refine runL (i := 5) rfl rfl (by kernel_rfl) (fun K hK => ?_)
        go_simp
        refine (y_rres HP1.out x.d HXD.out rb HRB.out).mono ?_
        rintro e wc2 ⟨rfl, hr1, hw2⟩
        have hq2 := (fun (_ : _) => hw2) hq1
        have HP2 := Lib.hid hr1
        clear hr1
        refine hK.out _ _ hq2 (fun hHeld => ?_)
        try simp only [Act.put, List.setIfInBounds_toArray, List.set_cons_zero, List.set_cons_succ]
        clear hK K hHeld
        refine takeL (i := 6) (v := (.bool false)) rfl (by kernel_rfl) (by kernel_rfl) (by kernel_rfl) (fun _ _ _ h => h) (Or.inl ⟨rfl, fun W' _ => by go_simp⟩) hq2 ?_
        simp only [Act.put, List.setIfInBounds_toArray, List.set_cons_zero, List.set_cons_succ]
        refine takeL (i := 7) (v := (.bool false)) rfl (by kernel_rfl) (by kernel_rfl) (by kernel_rfl) (fun _ _ _ h => h) (Or.inl ⟨rfl, fun _ _ => rfl⟩) hq2 ?_
        simp only [Act.put, List.setIfInBounds_toArray, List.set_cons_zero, List.set_cons_succ]
        refine takeL (i := 8) (v := _) rfl (by kernel_rfl) (by kernel_rfl) (by kernel_rfl) (fun _ _ _ h => h) (yieldsIf_rowS rfl 33 _ rfl Zx rfl C1 _ _ (fun W' hW' => hW'.1) Try.underlying33 rfl hci1.out) hq2 ?_
        simp only [Act.put, List.setIfInBounds_toArray, List.set_cons_zero, List.set_cons_succ]
        refine takeL (i := 9) (v := (.pointer (some ⟨f, 0, none⟩))) rfl (by kernel_rfl) (by kernel_rfl) (by kernel_rfl) (fun _ _ _ h => h) (Or.inl ⟨rfl, fun _ _ => rfl⟩) hq2 ?_
        simp only [Act.put, List.setIfInBounds_toArray, List.set_cons_zero, List.set_cons_succ]
        refine takeL (i := 10) (v := (.pointer (some ⟨Y, 0, none⟩))) rfl (by kernel_rfl) (by kernel_rfl) (by kernel_rfl) (fun _ _ _ h => h) (Or.inl ⟨rfl, fun _ _ => rfl⟩) hq2 ?_
        simp only [Act.put, List.setIfInBounds_toArray, List.set_cons_zero, List.set_cons_succ]
        refine takeL (i := 11) (v := _) rfl (by kernel_rfl) (by kernel_rfl) (by kernel_rfl) (fun _ _ _ h => h) (yieldsIf_cell rfl 3 _ rfl ⟨Y, 0, none⟩ rfl (.int .i64 x.n) _ (fun W' hW' => (cell_of_row _ _ _ _ _ _ hW'.2.2).trans rfl) Try.underlying3 rfl) hq2 ?_
        simp only [Act.put, List.setIfInBounds_toArray, List.set_cons_zero, List.set_cons_succ]
        refine takeL (i := 12) (v := (.pointer (some ⟨Y, 1, none⟩))) rfl (by kernel_rfl) (by kernel_rfl) (by kernel_rfl) (fun _ _ _ h => h) (Or.inl ⟨rfl, fun _ _ => rfl⟩) hq2 ?_
        simp only [Act.put, List.setIfInBounds_toArray, List.set_cons_zero, List.set_cons_succ]
        refine takeL (i := 13) (v := _) rfl (by kernel_rfl) (by kernel_rfl) (by kernel_rfl) (fun _ _ _ h => h) (yieldsIf_cell rfl 22 _ rfl ⟨Y, 1, none⟩ rfl (.int .u64 x.s) _ (fun W' hW' => (cell_of_row _ _ _ _ _ _ hW'.2.2).trans rfl) Try.underlying22 rfl) hq2 ?_
        simp only [Act.put, List.setIfInBounds_toArray, List.set_cons_zero, List.set_cons_succ]
        refine takeL (i := 14) (v := (.pointer (some ⟨Y, 2, none⟩))) rfl (by kernel_rfl) (by kernel_rfl) (by kernel_rfl) (fun _ _ _ h => h) (Or.inl ⟨rfl, fun _ _ => rfl⟩) hq2 ?_
        simp only [Act.put, List.setIfInBounds_toArray, List.set_cons_zero, List.set_cons_succ]
        refine takeL (i := 15) (v := _) rfl (by kernel_rfl) (by kernel_rfl) (by kernel_rfl) (fun _ _ _ h => h) (yieldsIf_cell rfl 22 _ rfl ⟨Y, 2, none⟩ rfl (.int .u64 x.d) _ (fun W' hW' => (cell_of_row _ _ _ _ _ _ hW'.2.2).trans rfl) Try.underlying22 rfl) hq2 ?_
        simp only [Act.put, List.setIfInBounds_toArray, List.set_cons_zero, List.set_cons_succ]
        refine takeL (i := 17) (v := _) rfl (by kernel_rfl) (by kernel_rfl) (by kernel_rfl) (fun _ _ _ h => h) (yieldsIf_rowS rfl 33 _ rfl Zy rfl C2 _ _ (fun W' hW' => hW'.2.1) Try.underlying33 rfl hci2.out) hq2 ?_
        simp only [Act.put, List.setIfInBounds_toArray, List.set_cons_zero, List.set_cons_succ]
        refine takeL (i := 18) (v := (.pointer (some ⟨wb, 0, none⟩))) rfl (by kernel_rfl) (by kernel_rfl) (by kernel_rfl) (fun _ _ _ h => h) (Or.inl ⟨rfl, fun _ _ => rfl⟩) hq2 ?_
        simp only [Act.put, List.setIfInBounds_toArray, List.set_cons_zero, List.set_cons_succ]
        refine takeL (i := 19) (v := (.pointer (some ⟨Y, 0, none⟩))) rfl (by kernel_rfl) (by kernel_rfl) (by kernel_rfl) (fun _ _ _ h => h) (Or.inl ⟨rfl, fun _ _ => rfl⟩) hq2 ?_
        simp only [Act.put, List.setIfInBounds_toArray, List.set_cons_zero, List.set_cons_succ]
        refine takeL (i := 20) (v := _) rfl (by kernel_rfl) (by kernel_rfl) (by kernel_rfl) (fun _ _ _ h => h) (yieldsIf_cell rfl 3 _ rfl ⟨Y, 0, none⟩ rfl (.int .i64 x.n) _ (fun W' hW' => (cell_of_row _ _ _ _ _ _ hW'.2.2).trans rfl) Try.underlying3 rfl) hq2 ?_
        simp only [Act.put, List.setIfInBounds_toArray, List.set_cons_zero, List.set_cons_succ]
        refine takeL (i := 21) (v := (.pointer (some ⟨Y, 1, none⟩))) rfl (by kernel_rfl) (by kernel_rfl) (by kernel_rfl) (fun _ _ _ h => h) (Or.inl ⟨rfl, fun _ _ => rfl⟩) hq2 ?_
        simp only [Act.put, List.setIfInBounds_toArray, List.set_cons_zero, List.set_cons_succ]
        refine takeL (i := 22) (v := _) rfl (by kernel_rfl) (by kernel_rfl) (by kernel_rfl) (fun _ _ _ h => h) (yieldsIf_cell rfl 22 _ rfl ⟨Y, 1, none⟩ rfl (.int .u64 x.s) _ (fun W' hW' => (cell_of_row _ _ _ _ _ _ hW'.2.2).trans rfl) Try.underlying22 rfl) hq2 ?_
        simp only [Act.put, List.setIfInBounds_toArray, List.set_cons_zero, List.set_cons_succ]
        refine takeL (i := 23) (v := (.pointer (some ⟨Y, 2, none⟩))) rfl (by kernel_rfl) (by kernel_rfl) (by kernel_rfl) (fun _ _ _ h => h) (Or.inl ⟨rfl, fun _ _ => rfl⟩) hq2 ?_
        simp only [Act.put, List.setIfInBounds_toArray, List.set_cons_zero, List.set_cons_succ]
        refine takeL (i := 24) (v := _) rfl (by kernel_rfl) (by kernel_rfl) (by kernel_rfl) (fun _ _ _ h => h) (yieldsIf_cell rfl 22 _ rfl ⟨Y, 2, none⟩ rfl (.int .u64 x.d) _ (fun W' hW' => (cell_of_row _ _ _ _ _ _ hW'.2.2).trans rfl) Try.underlying22 rfl) hq2 ?_
        simp only [Act.put, List.setIfInBounds_toArray, List.set_cons_zero, List.set_cons_succ]
        refine runG (i := 16) rfl (by rfl) (by kernel_rfl) (fun K hK => ?_)
        go_simp
        refine (y_out HP2.out HM2.out ⟨by have := HN8.out; omega, by have := HN8.out; omega, HML2.out⟩ HOK2.out.1 ⟨by rw [HOK2.out.2.1]; have := HNP.out; omega, by rw [HOK2.out.2.1]; have := HNP.out; omega⟩ x.n x.s x.d HXN.out HXS.out HXD.out).mono ?_
        rintro e wc3 ⟨v1, L1, xs1, rfl, hg1, hown1, hr1, hw3⟩
        have hq3 := (fun (_ : _) => hw3) hq2
        have HP3 := Lib.hid hr1
        have HG1 := Lib.hid hg1
        have HW1 := Lib.hid hown1
        clear hr1 hg1 hown1
        refine hK.out _ _ hq3 (fun hHeld => ?_)
        try simp only [Act.put, List.setIfInBounds_toArray, List.set_cons_zero, List.set_cons_succ]
        clear hK K hHeld
        refine runG (i := 25) rfl (by rfl) (by kernel_rfl) (fun K hK => ?_)
        go_simp
        refine (y_qout HP3.out HM2.out ⟨by have := HN8.out; omega, by have := HN8.out; omega, HML2.out⟩ HOK2.out.1 ⟨by rw [HOK2.out.2.1]; have := HNP.out; omega, by rw [HOK2.out.2.1]; have := HNP.out; omega⟩ x.n x.s x.d HXN.out HXS.out HXD.out v1 xs1 HW1.out).mono ?_
        rintro e wc4 ⟨v2, L2, xs2, rfl, hg2, hi1, hi2, hr1, hw4⟩
        have hq4 := (fun (_ : _) => hw4) hq3
        have hok := goes_ok HG1.out HM2.out (by decide) (by have := HN8.out; omega) HML2.out (by have := HXN.out; omega) HXS.out.1
        obtain ⟨rfl, rfl⟩ := goes_uniq HM2.out hok.1 HG1.out hg2
        have HP4 := Lib.hid hr1
        have HI1 := Lib.hid hi1
        have HI2 := Lib.hid hi2
        have HOKL := Lib.hid hok
        have HLX := Lib.hid (goes_len hg2)
        clear hr1 hg2 hi1 hi2 hok
        refine hK.out _ _ hq4 (fun hHeld => ?_)
        try simp only [Act.put, List.setIfInBounds_toArray, List.set_cons_zero, List.set_cons_succ]
        clear hK K hHeld
        refine runG (i := 26) rfl (by rfl) (by kernel_rfl) (fun K hK => ?_)
        go_simp
        refine (y_ints HP4.out v1 v2 xs2 HI1.out HI2.out (by have := HLX.out; have := HOK2.out.2.1; have := HNP.out; omega)).mono ?_
        rintro e wc5 ⟨rfl, hr1, hw5⟩
        have hq5 := (fun (_ : _) => hw5) hq4
        have HP5 := Lib.hid hr1
        clear hr1
        refine hK.out _ _ hq5 (fun hHeld => ?_)
        try simp only [Act.put, List.setIfInBounds_toArray, List.set_cons_zero, List.set_cons_succ]
        clear hK K hHeld
        refine takeL (i := 27) (v := (.bool false)) rfl (by kernel_rfl) (by kernel_rfl) (by kernel_rfl) (fun _ _ _ h => h) (Or.inl ⟨rfl, fun _ _ => rfl⟩) hq5 ?_
        simp only [Act.put, List.setIfInBounds_toArray, List.set_cons_zero, List.set_cons_succ]
        refine takeL (i := 28) (v := (.bool false)) rfl (by kernel_rfl) (by kernel_rfl) (by kernel_rfl) (fun _ _ _ h => h) (Or.inl ⟨rfl, fun _ _ => rfl⟩) hq5 ?_
        simp only [Act.put, List.setIfInBounds_toArray, List.set_cons_zero, List.set_cons_succ]
        refine wpAnyH_done (by kernel_rfl) ?_ _
        clear hq0 hq1 hq2 hq3 hq4 hq5 hw1 hw2 hw3 hw4 hw5
        go_wp2_with fail
        refine (y_all HP5.out HOKL.out.1 (by have := HOKL.out.2; have := HN8.out; omega)).mono ?_
        rintro e wA ⟨va, rfl, hen, hrA⟩
        obtain ⟨aa, ac, rfl, hfa⟩ := hen
        obtain ⟨u, hu, -, hcu⟩ := hrA.ents
        obtain ⟨ua, uc, rfl, hfu⟩ := hu
        obtain ⟨m, hm⟩ : ∃ m, L2.length = m := ⟨_, rfl⟩
        rw [hm] at hcu ⊢
        have HMN := Lib.hid hm
        have HFA := Lib.hid hfa
        have HFU := Lib.hid hfu
        have HCU := Lib.hid hcu
        have HRA := Lib.hid hrA
        have hm8 : m ≤ 8 := by have := HOKL.out.2; have := HN8.out; omega
        have cu := hcu wA (Ext.refl _)
        clear hfa hfu hcu hrA hm
        go_wp2_with (first
          | fail
          | ((with_reducible refine at_loadG 33 ?_); refine wpList_load_rowG rfl 33 _ rfl Zx rfl 33 C1 (0, 0) _ HRA.out.row.1 Try.underlying33 rfl hci1.out ?_)
          | ((with_reducible refine at_loadG 33 ?_); refine wpList_load_rowG rfl 33 _ rfl Zy rfl 33 C2 (0, 0) _ HRA.out.row.2.1 Try.underlying33 rfl hci2.out ?_))
        refine (same_any C1 C2 B2 wA HRA.out.brs.1 HRA.out.brs.2 HOK2.out.1).mono ?_
        rintro e wB ⟨rfl, hxB⟩
        have HXB := Lib.hid hxB
        clear hxB cu
        go_wp2_with fail
        go_loopw [16] (fun s wr => ∃ k : Nat, k ≤ m ∧ s = .int .i64 k ∧ Ext wA wr) (fun s _ => m - (intOf s).toNat)
        case atStart => exact ⟨0, by omega, rfl, HXB.out⟩
        case round =>
          obtain ⟨k, hk, rfl, hxk⟩ := hrel
          rename World => wk
          have HX := Lib.hid hxk
          clear hxk
          by_cases hkt : k < m
          · have dkt : decide ((k : Int) < (m : Int)) = true := by simp; omega
            have hkL : k < L2.length := by rw [HMN.out]; exact hkt
            obtain ⟨b1, o1, rfl, hb1, hr1⟩ := HFA.out (by omega)
            obtain ⟨b2, o2, rfl, hb2, hr2⟩ := HFU.out (by omega)
            obtain ⟨y, q, t, he⟩ : ∃ y q t, L2[k] = (y, q, t) := ⟨_, _, _, rfl⟩
            have h1 := rangeAt_ext (hr1 k hkL) HX.out hb1
            have h2 := rangeAt_ext (hr2 k hkL) HX.out hb2
            rw [he] at h1 h2
            have c0 : wk.cell? ⟨b1, o1 + k * 3, none⟩ = some (.int .u64 y) := h1 0 _ rfl
            have c1 : wk.cell? ⟨b1, o1 + k * 3 + 1, none⟩ = some (.int .i64 q) := h1 1 _ rfl
            have c2 : wk.cell? ⟨b1, o1 + k * 3 + 2, none⟩ = some (.int .i64 t) := h1 2 _ rfl
            have d0 : wk.cell? ⟨b2, o2 + k * 3, none⟩ = some (.int .u64 y) := h2 0 _ rfl
            have d1 : wk.cell? ⟨b2, o2 + k * 3 + 1, none⟩ = some (.int .i64 q) := h2 1 _ rfl
            have d2 : wk.cell? ⟨b2, o2 + k * 3 + 2, none⟩ = some (.int .i64 t) := h2 2 _ rfl
            have cu := HCU.out wk HX.out
            have hup : IntKind.i64.wrap ((k : Int) + 1) = ((k + 1 : Nat) : Int) := by rw [IntKind.wrap_i64]; omega
            clear h1 h2 hr1 hr2 he
            go_wp2_with fail
            go_quiet (fail)
            go_wp2_with fail
            go_roundw
            case rel => exact ⟨k + 1, by omega, by go_num, HX.out.drewN _⟩
            case measure => simp [intOf] <;> omega
          · obtain rfl : k = m := by omega
            have dkt : decide ((k : Int) < (k : Int)) = false := by simp
            have hup : IntKind.i64.wrap ((i : Int) + 1) = ((i + 1 : Nat) : Int) := by rw [IntKind.wrap_i64]; omega
            go_wp2_with fail
            go_roundw
            case rel => exact ⟨i + 1, by omega, by go_num, L2, C1, C2, B2, HOKL.out.1, HOKL.out.2, HB2.out, HRA.out.r0.grow HX.out⟩
            case measure => simp [intOf] <;> omega
      · have ds : (x.s == 0) = false := by simpa using hs0
        clear hs0
        go_upto_region 15 with (first
          | fail
          | ((with_reducible refine at_load 45 ?_); refine wpList_load_mid rfl 45 _ rfl bb (off + i * 3) rfl x.L _ hr1.out Try.underlying45 rfl size_fr ?_)
          | ((with_reducible refine at_alloc 45 ?_); refine al_zero rfl 45 rfl FZ zero_fr ?_
             intro Y wq hq hs hx)
          | ((with_reducible refine at_store 45 ?_); refine st_at rfl rfl 45 _ _ rfl Y 0 _ x.L.toArray FZ x.L.toArray 45 rfl rfl rfl hq (by exact (by decide : 0 + 3 ≤ 3)) (by kernel_rfl) rfl rfl ?_
             intro wf hq' hm'
             have EB : Ext wr wf := hx.mutE hm' (fun n hn h => by have h2 : n = Y := h; omega)
             have HR := Lib.hid (HR0.out.box EB hq' (by omega))
             have e1 : wf.cell? ⟨Y, 1, none⟩ = some (.int .u64 x.s) := by rw [cell_row hq']; rfl
             have cf : wf.cell? ⟨X, 19, none⟩ = some (.slice fa B.nf fk) := by rw [cell_of_row _ _ _ _ _ _ ((HR.out.ext.block X (heap_lt HXR2.out)).trans HXR2.out)]; exact CF.out
             have hXl : X < wf.heap.size := Nat.lt_of_lt_of_le (heap_lt HXR2.out) HR.out.ext.size
             clear hx hm' hq hs wq hq' EB))
        have HRR := HR
        have HOK2 := Lib.hid (two_ok ho HB1.out)
        have HB2 := HB1
        have HM2 := HM
        have HML2 := HML
        obtain ⟨rb, hrb⟩ : ∃ rb, resB x.d = rb := ⟨_, rfl⟩
        have HRB := Lib.hid hrb
        clear hrb
        go_wp2_with fail
        have hci1 := Lib.hid (show (Try.prog.info? 33).map (·.size) = some cx1.size by rw [HRR.out.size.1]; exact size_br)
        have hci2 := Lib.hid (show (Try.prog.info? 33).map (·.size) = some cy1.size by rw [HRR.out.size.2]; exact size_br)
        refine beginL (S := fun W' => W'.heap[Zx]? = some (.cells cx1 33 (0, 0)) ∧ W'.heap[Zy]? = some (.cells cy1 33 (0, 0)) ∧ W'.heap[Y]? = some (.cells x.L.toArray 45 (0, 0))) (by kernel_rfl) ?_
        intro wd hqx
        have HRD := Lib.hid (HRR.out.grow hqx)
        have hq0 : wd.heap[Zx]? = some (.cells cx1 33 (0, 0)) ∧ wd.heap[Zy]? = some (.cells cy1 33 (0, 0)) ∧ wd.heap[Y]? = some (.cells x.L.toArray 45 (0, 0)) := HRD.out.row
        clear hqx
        refine takeL (i := 0) (v := (.pointer (some ⟨Y, 2, none⟩))) rfl (by kernel_rfl) (by kernel_rfl) (by kernel_rfl) (fun _ _ _ h => h) (Or.inl ⟨rfl, fun _ _ => rfl⟩) hq0 ?_
        simp only [Act.put, List.setIfInBounds_toArray, List.set_cons_zero, List.set_cons_succ]
        refine takeL (i := 1) (v := _) rfl (by kernel_rfl) (by kernel_rfl) (by kernel_rfl) (fun _ _ _ h => h) (yieldsIf_cell rfl 22 _ rfl ⟨Y, 2, none⟩ rfl (.int .u64 x.d) _ (fun W' hW' => (cell_of_row _ _ _ _ _ _ hW'.2.2).trans rfl) Try.underlying22 rfl) hq0 ?_
        simp only [Act.put, List.setIfInBounds_toArray, List.set_cons_zero, List.set_cons_succ]
        refine takeL (i := 3) (v := (.pointer (some ⟨Y, 2, none⟩))) rfl (by kernel_rfl) (by kernel_rfl) (by kernel_rfl) (fun _ _ _ h => h) (Or.inl ⟨rfl, fun _ _ => rfl⟩) hq0 ?_
        simp only [Act.put, List.setIfInBounds_toArray, List.set_cons_zero, List.set_cons_succ]
        refine takeL (i := 4) (v := _) rfl (by kernel_rfl) (by kernel_rfl) (by kernel_rfl) (fun _ _ _ h => h) (yieldsIf_cell rfl 22 _ rfl ⟨Y, 2, none⟩ rfl (.int .u64 x.d) _ (fun W' hW' => (cell_of_row _ _ _ _ _ _ hW'.2.2).trans rfl) Try.underlying22 rfl) hq0 ?_
        simp only [Act.put, List.setIfInBounds_toArray, List.set_cons_zero, List.set_cons_succ]
        refine runL (i := 2) rfl rfl (by kernel_rfl) (fun K hK => ?_)
        go_simp
        refine (y_res HRD.out x.d HXD.out rb HRB.out).mono ?_
        rintro e wc1 ⟨rfl, hr1, hw1⟩
        have hq1 := (fun (_ : _) => hw1) hq0
        have HP1 := Lib.hid hr1
        clear hr1
        refine hK.out _ _ hq1 (fun hHeld => ?_)
        try simp only [Act.put, List.setIfInBounds_toArray, List.set_cons_zero, List.set_cons_succ]
        clear hK K hHeld
        refine runL (i := 5) rfl rfl (by kernel_rfl) (fun K hK => ?_)
        go_simp
        refine (y_rres HP1.out x.d HXD.out rb HRB.out).mono ?_
        rintro e wc2 ⟨rfl, hr1, hw2⟩
        have hq2 := (fun (_ : _) => hw2) hq1
        have HP2 := Lib.hid hr1
        clear hr1
        refine hK.out _ _ hq2 (fun hHeld => ?_)
        try simp only [Act.put, List.setIfInBounds_toArray, List.set_cons_zero, List.set_cons_succ]
        clear hK K hHeld
        refine takeL (i := 6) (v := (.bool false)) rfl (by kernel_rfl) (by kernel_rfl) (by kernel_rfl) (fun _ _ _ h => h) (Or.inl ⟨rfl, fun W' _ => by go_simp⟩) hq2 ?_
        simp only [Act.put, List.setIfInBounds_toArray, List.set_cons_zero, List.set_cons_succ]
        refine takeL (i := 7) (v := (.bool false)) rfl (by kernel_rfl) (by kernel_rfl) (by kernel_rfl) (fun _ _ _ h => h) (Or.inl ⟨rfl, fun _ _ => rfl⟩) hq2 ?_
        simp only [Act.put, List.setIfInBounds_toArray, List.set_cons_zero, List.set_cons_succ]
        refine takeL (i := 8) (v := _) rfl (by kernel_rfl) (by kernel_rfl) (by kernel_rfl) (fun _ _ _ h => h) (yieldsIf_rowS rfl 33 _ rfl Zx rfl cx1 _ _ (fun W' hW' => hW'.1) Try.underlying33 rfl hci1.out) hq2 ?_
        simp only [Act.put, List.setIfInBounds_toArray, List.set_cons_zero, List.set_cons_succ]
        refine takeL (i := 9) (v := (.pointer (some ⟨f, 0, none⟩))) rfl (by kernel_rfl) (by kernel_rfl) (by kernel_rfl) (fun _ _ _ h => h) (Or.inl ⟨rfl, fun _ _ => rfl⟩) hq2 ?_
        simp only [Act.put, List.setIfInBounds_toArray, List.set_cons_zero, List.set_cons_succ]
        refine takeL (i := 10) (v := (.pointer (some ⟨Y, 0, none⟩))) rfl (by kernel_rfl) (by kernel_rfl) (by kernel_rfl) (fun _ _ _ h => h) (Or.inl ⟨rfl, fun _ _ => rfl⟩) hq2 ?_
        simp only [Act.put, List.setIfInBounds_toArray, List.set_cons_zero, List.set_cons_succ]
        refine takeL (i := 11) (v := _) rfl (by kernel_rfl) (by kernel_rfl) (by kernel_rfl) (fun _ _ _ h => h) (yieldsIf_cell rfl 3 _ rfl ⟨Y, 0, none⟩ rfl (.int .i64 x.n) _ (fun W' hW' => (cell_of_row _ _ _ _ _ _ hW'.2.2).trans rfl) Try.underlying3 rfl) hq2 ?_
        simp only [Act.put, List.setIfInBounds_toArray, List.set_cons_zero, List.set_cons_succ]
        refine takeL (i := 12) (v := (.pointer (some ⟨Y, 1, none⟩))) rfl (by kernel_rfl) (by kernel_rfl) (by kernel_rfl) (fun _ _ _ h => h) (Or.inl ⟨rfl, fun _ _ => rfl⟩) hq2 ?_
        simp only [Act.put, List.setIfInBounds_toArray, List.set_cons_zero, List.set_cons_succ]
        refine takeL (i := 13) (v := _) rfl (by kernel_rfl) (by kernel_rfl) (by kernel_rfl) (fun _ _ _ h => h) (yieldsIf_cell rfl 22 _ rfl ⟨Y, 1, none⟩ rfl (.int .u64 x.s) _ (fun W' hW' => (cell_of_row _ _ _ _ _ _ hW'.2.2).trans rfl) Try.underlying22 rfl) hq2 ?_
        simp only [Act.put, List.setIfInBounds_toArray, List.set_cons_zero, List.set_cons_succ]
        refine takeL (i := 14) (v := (.pointer (some ⟨Y, 2, none⟩))) rfl (by kernel_rfl) (by kernel_rfl) (by kernel_rfl) (fun _ _ _ h => h) (Or.inl ⟨rfl, fun _ _ => rfl⟩) hq2 ?_
        simp only [Act.put, List.setIfInBounds_toArray, List.set_cons_zero, List.set_cons_succ]
        refine takeL (i := 15) (v := _) rfl (by kernel_rfl) (by kernel_rfl) (by kernel_rfl) (fun _ _ _ h => h) (yieldsIf_cell rfl 22 _ rfl ⟨Y, 2, none⟩ rfl (.int .u64 x.d) _ (fun W' hW' => (cell_of_row _ _ _ _ _ _ hW'.2.2).trans rfl) Try.underlying22 rfl) hq2 ?_
        simp only [Act.put, List.setIfInBounds_toArray, List.set_cons_zero, List.set_cons_succ]
        refine takeL (i := 17) (v := _) rfl (by kernel_rfl) (by kernel_rfl) (by kernel_rfl) (fun _ _ _ h => h) (yieldsIf_rowS rfl 33 _ rfl Zy rfl cy1 _ _ (fun W' hW' => hW'.2.1) Try.underlying33 rfl hci2.out) hq2 ?_
        simp only [Act.put, List.setIfInBounds_toArray, List.set_cons_zero, List.set_cons_succ]
        refine takeL (i := 18) (v := (.pointer (some ⟨wb, 0, none⟩))) rfl (by kernel_rfl) (by kernel_rfl) (by kernel_rfl) (fun _ _ _ h => h) (Or.inl ⟨rfl, fun _ _ => rfl⟩) hq2 ?_
        simp only [Act.put, List.setIfInBounds_toArray, List.set_cons_zero, List.set_cons_succ]
        refine takeL (i := 19) (v := (.pointer (some ⟨Y, 0, none⟩))) rfl (by kernel_rfl) (by kernel_rfl) (by kernel_rfl) (fun _ _ _ h => h) (Or.inl ⟨rfl, fun _ _ => rfl⟩) hq2 ?_
        simp only [Act.put, List.setIfInBounds_toArray, List.set_cons_zero, List.set_cons_succ]
        refine takeL (i := 20) (v := _) rfl (by kernel_rfl) (by kernel_rfl) (by kernel_rfl) (fun _ _ _ h => h) (yieldsIf_cell rfl 3 _ rfl ⟨Y, 0, none⟩ rfl (.int .i64 x.n) _ (fun W' hW' => (cell_of_row _ _ _ _ _ _ hW'.2.2).trans rfl) Try.underlying3 rfl) hq2 ?_
        simp only [Act.put, List.setIfInBounds_toArray, List.set_cons_zero, List.set_cons_succ]
        refine takeL (i := 21) (v := (.pointer (some ⟨Y, 1, none⟩))) rfl (by kernel_rfl) (by kernel_rfl) (by kernel_rfl) (fun _ _ _ h => h) (Or.inl ⟨rfl, fun _ _ => rfl⟩) hq2 ?_
        simp only [Act.put, List.setIfInBounds_toArray, List.set_cons_zero, List.set_cons_succ]
        refine takeL (i := 22) (v := _) rfl (by kernel_rfl) (by kernel_rfl) (by kernel_rfl) (fun _ _ _ h => h) (yieldsIf_cell rfl 22 _ rfl ⟨Y, 1, none⟩ rfl (.int .u64 x.s) _ (fun W' hW' => (cell_of_row _ _ _ _ _ _ hW'.2.2).trans rfl) Try.underlying22 rfl) hq2 ?_
        simp only [Act.put, List.setIfInBounds_toArray, List.set_cons_zero, List.set_cons_succ]
        refine takeL (i := 23) (v := (.pointer (some ⟨Y, 2, none⟩))) rfl (by kernel_rfl) (by kernel_rfl) (by kernel_rfl) (fun _ _ _ h => h) (Or.inl ⟨rfl, fun _ _ => rfl⟩) hq2 ?_
        simp only [Act.put, List.setIfInBounds_toArray, List.set_cons_zero, List.set_cons_succ]
        refine takeL (i := 24) (v := _) rfl (by kernel_rfl) (by kernel_rfl) (by kernel_rfl) (fun _ _ _ h => h) (yieldsIf_cell rfl 22 _ rfl ⟨Y, 2, none⟩ rfl (.int .u64 x.d) _ (fun W' hW' => (cell_of_row _ _ _ _ _ _ hW'.2.2).trans rfl) Try.underlying22 rfl) hq2 ?_
        simp only [Act.put, List.setIfInBounds_toArray, List.set_cons_zero, List.set_cons_succ]
        refine runG (i := 16) rfl (by rfl) (by kernel_rfl) (fun K hK => ?_)
        go_simp
        refine (y_out HP2.out HM2.out ⟨by have := HN8.out; omega, by have := HN8.out; omega, HML2.out⟩ HOK2.out.1 ⟨by rw [HOK2.out.2.1]; have := HNP.out; omega, by rw [HOK2.out.2.1]; have := HNP.out; omega⟩ x.n x.s x.d HXN.out HXS.out HXD.out).mono ?_
        rintro e wc3 ⟨v1, L1, xs1, rfl, hg1, hown1, hr1, hw3⟩
        have hq3 := (fun (_ : _) => hw3) hq2
        have HP3 := Lib.hid hr1
        have HG1 := Lib.hid hg1
        have HW1 := Lib.hid hown1
        clear hr1 hg1 hown1
        refine hK.out _ _ hq3 (fun hHeld => ?_)
        try simp only [Act.put, List.setIfInBounds_toArray, List.set_cons_zero, List.set_cons_succ]
        clear hK K hHeld
        refine runG (i := 25) rfl (by rfl) (by kernel_rfl) (fun K hK => ?_)
        go_simp
        refine (y_qout HP3.out HM2.out ⟨by have := HN8.out; omega, by have := HN8.out; omega, HML2.out⟩ HOK2.out.1 ⟨by rw [HOK2.out.2.1]; have := HNP.out; omega, by rw [HOK2.out.2.1]; have := HNP.out; omega⟩ x.n x.s x.d HXN.out HXS.out HXD.out v1 xs1 HW1.out).mono ?_
        rintro e wc4 ⟨v2, L2, xs2, rfl, hg2, hi1, hi2, hr1, hw4⟩
        have hq4 := (fun (_ : _) => hw4) hq3
        have hok := goes_ok HG1.out HM2.out (by decide) (by have := HN8.out; omega) HML2.out (by have := HXN.out; omega) HXS.out.1
        obtain ⟨rfl, rfl⟩ := goes_uniq HM2.out hok.1 HG1.out hg2
        have HP4 := Lib.hid hr1
        have HI1 := Lib.hid hi1
        have HI2 := Lib.hid hi2
        have HOKL := Lib.hid hok
        have HLX := Lib.hid (goes_len hg2)
        clear hr1 hg2 hi1 hi2 hok
        refine hK.out _ _ hq4 (fun hHeld => ?_)
        try simp only [Act.put, List.setIfInBounds_toArray, List.set_cons_zero, List.set_cons_succ]
        clear hK K hHeld
        refine runG (i := 26) rfl (by rfl) (by kernel_rfl) (fun K hK => ?_)
        go_simp
        refine (y_ints HP4.out v1 v2 xs2 HI1.out HI2.out (by have := HLX.out; have := HOK2.out.2.1; have := HNP.out; omega)).mono ?_
        rintro e wc5 ⟨rfl, hr1, hw5⟩
        have hq5 := (fun (_ : _) => hw5) hq4
        have HP5 := Lib.hid hr1
        clear hr1
        refine hK.out _ _ hq5 (fun hHeld => ?_)
        try simp only [Act.put, List.setIfInBounds_toArray, List.set_cons_zero, List.set_cons_succ]
        clear hK K hHeld
        refine takeL (i := 27) (v := (.bool false)) rfl (by kernel_rfl) (by kernel_rfl) (by kernel_rfl) (fun _ _ _ h => h) (Or.inl ⟨rfl, fun _ _ => rfl⟩) hq5 ?_
        simp only [Act.put, List.setIfInBounds_toArray, List.set_cons_zero, List.set_cons_succ]
        refine takeL (i := 28) (v := (.bool false)) rfl (by kernel_rfl) (by kernel_rfl) (by kernel_rfl) (fun _ _ _ h => h) (Or.inl ⟨rfl, fun _ _ => rfl⟩) hq5 ?_
        simp only [Act.put, List.setIfInBounds_toArray, List.set_cons_zero, List.set_cons_succ]
        refine wpAnyH_done (by kernel_rfl) ?_ _
        clear hq0 hq1 hq2 hq3 hq4 hq5 hw1 hw2 hw3 hw4 hw5
        go_wp2_with fail
        refine (y_all HP5.out HOKL.out.1 (by have := HOKL.out.2; have := HN8.out; omega)).mono ?_
        rintro e wA ⟨va, rfl, hen, hrA⟩
        obtain ⟨aa, ac, rfl, hfa⟩ := hen
        obtain ⟨u, hu, -, hcu⟩ := hrA.ents
        obtain ⟨ua, uc, rfl, hfu⟩ := hu
        obtain ⟨m, hm⟩ : ∃ m, L2.length = m := ⟨_, rfl⟩
        rw [hm] at hcu ⊢
        have HMN := Lib.hid hm
        have HFA := Lib.hid hfa
        have HFU := Lib.hid hfu
        have HCU := Lib.hid hcu
        have HRA := Lib.hid hrA
        have hm8 : m ≤ 8 := by have := HOKL.out.2; have := HN8.out; omega
        have cu := hcu wA (Ext.refl _)
        clear hfa hfu hcu hrA hm
        go_wp2_with (first
          | fail
          | ((with_reducible refine at_loadG 33 ?_); refine wpList_load_rowG rfl 33 _ rfl Zx rfl 33 cx1 (0, 0) _ HRA.out.row.1 Try.underlying33 rfl hci1.out ?_)
          | ((with_reducible refine at_loadG 33 ?_); refine wpList_load_rowG rfl 33 _ rfl Zy rfl 33 cy1 (0, 0) _ HRA.out.row.2.1 Try.underlying33 rfl hci2.out ?_))
        refine (same_any cx1 cy1 B1 wA HRA.out.brs.1 HRA.out.brs.2 HOK2.out.1).mono ?_
        rintro e wB ⟨rfl, hxB⟩
        have HXB := Lib.hid hxB
        clear hxB cu
        go_wp2_with fail
        go_loopw [16] (fun s wr => ∃ k : Nat, k ≤ m ∧ s = .int .i64 k ∧ Ext wA wr) (fun s _ => m - (intOf s).toNat)
        case atStart => exact ⟨0, by omega, rfl, HXB.out⟩
        case round =>
          obtain ⟨k, hk, rfl, hxk⟩ := hrel
          rename World => wk
          have HX := Lib.hid hxk
          clear hxk
          by_cases hkt : k < m
          · have dkt : decide ((k : Int) < (m : Int)) = true := by simp; omega
            have hkL : k < L2.length := by rw [HMN.out]; exact hkt
            obtain ⟨b1, o1, rfl, hb1, hr1⟩ := HFA.out (by omega)
            obtain ⟨b2, o2, rfl, hb2, hr2⟩ := HFU.out (by omega)
            obtain ⟨y, q, t, he⟩ : ∃ y q t, L2[k] = (y, q, t) := ⟨_, _, _, rfl⟩
            have h1 := rangeAt_ext (hr1 k hkL) HX.out hb1
            have h2 := rangeAt_ext (hr2 k hkL) HX.out hb2
            rw [he] at h1 h2
            have c0 : wk.cell? ⟨b1, o1 + k * 3, none⟩ = some (.int .u64 y) := h1 0 _ rfl
            have c1 : wk.cell? ⟨b1, o1 + k * 3 + 1, none⟩ = some (.int .i64 q) := h1 1 _ rfl
            have c2 : wk.cell? ⟨b1, o1 + k * 3 + 2, none⟩ = some (.int .i64 t) := h1 2 _ rfl
            have d0 : wk.cell? ⟨b2, o2 + k * 3, none⟩ = some (.int .u64 y) := h2 0 _ rfl
            have d1 : wk.cell? ⟨b2, o2 + k * 3 + 1, none⟩ = some (.int .i64 q) := h2 1 _ rfl
            have d2 : wk.cell? ⟨b2, o2 + k * 3 + 2, none⟩ = some (.int .i64 t) := h2 2 _ rfl
            have cu := HCU.out wk HX.out
            have hup : IntKind.i64.wrap ((k : Int) + 1) = ((k + 1 : Nat) : Int) := by rw [IntKind.wrap_i64]; omega
            clear h1 h2 hr1 hr2 he
            go_wp2_with fail
            go_quiet (fail)
            go_wp2_with fail
            go_roundw
            case rel => exact ⟨k + 1, by omega, by go_num, HX.out.drewN _⟩
            case measure => simp [intOf] <;> omega
          · obtain rfl : k = m := by omega
            have dkt : decide ((k : Int) < (k : Int)) = false := by simp
            have hup : IntKind.i64.wrap ((i : Int) + 1) = ((i + 1 : Nat) : Int) := by rw [IntKind.wrap_i64]; omega
            go_wp2_with fail
            go_roundw
            case rel => exact ⟨i + 1, by omega, by go_num, L2, cx1, cy1, B1, HOKL.out.1, HOKL.out.2, HB2.out, HRA.out.r0.grow HX.out⟩
            case measure => simp [intOf] <;> omega
    · obtain rfl : i = L.length := by omega
      have dlt : decide ((L.length : Int) < (L.length : Int)) = false := by simp
      go_wp2_with fail
      go_ret
      exact ⟨rfl, HW2.out.trans HR0.out.ext⟩

end Go.Proofs.Ytemmfbedchfekaa
