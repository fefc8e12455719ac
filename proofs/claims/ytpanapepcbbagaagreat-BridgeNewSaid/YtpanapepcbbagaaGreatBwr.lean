/- Part 18 of what BridgeNew stands on. No statement is proved here. -/
import Derived.Test.YtpanapepcbbagaaGreatBwq
namespace Go.Proofs.YtpanapepcbbagaaGreat
open Go.RowKit Go.BigFrame Go.WideShapes Go.ChangeShapes Go.Deep
set_option linter.unusedVariables false
set_option linter.unusedSimpArgs false
set_option maxRecDepth 100000
def VecZ : Array Value := #[.int .u64 0, .int .u32 0, .int .u64 0, .int .u16 0, .int .u16 0]
theorem zero_ve : ∀ w, (zeroValue 30).run Tryz.prog w = .ok (.agg VecZ) w := (zero_of_info (P := Tryz.prog) (t := 30) (v := .agg VecZ) (n := 5) (by kernel_rfl)).1
theorem size_ve : (Tryz.prog.info? 30).map (·.size) = some 5 := by kernel_rfl
theorem bl_ve (id : Int) : Tryz.prog.built 30 [(0, .int .u64 id), (2, .int .u64 id)] = some #[.int .u64 id, .int .u32 0, .int .u64 id, .int .u16 0, .int .u16 0] := by kernel_rfl
theorem zero_br : ∀ w, (zeroValue 35).run Tryz.prog w = .ok (.agg BrZ) w := (zero_of_info (P := Tryz.prog) (t := 35) (v := .agg BrZ) (n := 20) (by kernel_rfl)).1
theorem size_brg : (Tryz.prog.info? 35).map (·.size) = some 20 := by kernel_rfl
theorem size_tm : (Tryz.prog.info? 24).map (·.size) = some 4 := by kernel_rfl
theorem size_bt : (Tryz.prog.info? 73).map (·.size) = some 5 := by kernel_rfl
theorem zero_bt : ∀ w, (zeroValue 73).run Tryz.prog w = .ok (.agg SUZ) w := (zero_of_info (P := Tryz.prog) (t := 73) (v := .agg SUZ) (n := 5) (by kernel_rfl)).1
theorem info_po : (Tryz.prog.info? 60).map (fun i => (i.zero, i.size, i.bytes)) = some (some (.agg PortZ), 89, 416) := by kernel_rfl
theorem bl_br (id ta mx hl dl hold : Int) (rst : Bool) : Tryz.prog.built 35 [(0, .int .u64 id), (1, .bool rst), (2, .agg #[.int .i64 ta, .int .i64 mx, .int .i64 hl, .int .i64 dl]), (3, .int .i64 hold), (4, .agg #[.int .u64 id, .int .u32 0, .int .u64 id, .int .u16 0, .int .u16 0]), (5, .int .i64 (-1)), (6, .agg #[.int .i64 ta, .int .i64 mx, .int .i64 hl, .int .i64 dl])] = some #[.int .u64 id, .bool rst, .int .i64 ta, .int .i64 mx, .int .i64 hl, .int .i64 dl, .int .i64 hold, .int .u64 id, .int .u32 0, .int .u64 id, .int .u16 0, .int .u16 0, .int .i64 (-1), .int .i64 ta, .int .i64 mx, .int .i64 hl, .int .i64 dl, .slice none 0 0, .slice none 0 0, .slice none 0 0] := by kernel_rfl
theorem bl_br0 : Tryz.prog.built 35 [] = some BrZ := by kernel_rfl
theorem b1_po (a b mx hl dl e : Int) (x y z r : Bool) : Instr.fill (fun i => some (i * 89, 89)) ((Array.range (1 * 89)).map (PortZ[· % PortZ.size]!)) [(0, .agg (portL a b x y z r mx hl dl e))] = some (portL a b x y z r mx hl dl e) := by kernel_rfl
set_option maxRecDepth 100000 in
set_option maxHeartbeats 4000000 in
theorem pL_one {rst : Bool} {mx hl dl e a b : Int} {x y z : Bool} (h : pL rst mx hl dl ⟨a, b, x, y, z⟩ = (portL a b x y z rst mx hl dl e).toList) : ∀ u ∈ (portL a b x y z rst mx hl dl e).toList, u.oneCell' = true := by
  have h2 : ((portL a b x y z rst mx hl dl e).toList.all (·.oneCell')) = true := rfl
  exact fun u hu => List.all_eq_true.1 h2 u hu
theorem own_any (id : Int) (w : World) : Calls Tryz.prog 22 #[.int .u64 id] w fun e w' => e = .returned (.agg #[.int .u64 id, .int .u32 0, .int .u64 id, .int .u16 0, .int .u16 0]) ∧ Ext w w' := by
  go_enter Tryz.func22, Tryz.ntmps22
  go_wp2_with (first
    | fail
    | ((with_reducible refine at_alloc 30 ?_); refine al_zero rfl 30 rfl VecZ zero_ve ?_
       intro RB w1 hq hsz hx)
    | ((with_reducible refine at_build 30 ?_); refine wpList_build2 rfl 30 _ rfl _ rfl _ (bl_ve id) ?_)
    | ((with_reducible refine at_store 30 ?_); refine st_at rfl rfl 30 _ _ rfl RB 0 _ #[.int .u64 id, .int .u32 0, .int .u64 id, .int .u16 0, .int .u16 0] VecZ #[.int .u64 id, .int .u32 0, .int .u64 id, .int .u16 0, .int .u16 0] 30 rfl rfl rfl hq (by exact (by decide : 0 + 5 ≤ 5)) (by kernel_rfl) rfl rfl ?_
       intro wz hqz hmz
       have HRZ := Lib.hid hqz
       have HXZ := Lib.hid (hx.mutE hmz (fun g h1 h2 => by have h3 : g = RB := h2; omega))
       clear hqz hmz))
  refine bodyPost_ret (results_cell_row rfl _ _ RB _ _ (0, 0) _ rfl HRZ.out Tryz.underlying30 rfl size_ve) rfl ?_
  exact ⟨rfl, HXZ.out⟩
set_option maxRecDepth 100000 in
set_option maxHeartbeats 8000000 in
theorem newbr_gen (id ta mx hl dl hold : Int) (rst : Bool) (pv : Value) (P : List Pt) (w : World) (hP : PtsAt w pv P) (hn : P.length ≤ 40) (hi : 0 ≤ id ∧ id < 18446744073709551616) (ho : -9223372036854775808 ≤ hold ∧ hold < 9223372036854775808) (hpr : ∀ p ∈ P, PtR p) (hta : (Lit.int .i64 ta).wf = true) (hmx : (Lit.int .i64 mx).wf = true) (hhl : (Lit.int .i64 hl).wf = true) (hdl : (Lit.int .i64 dl).wf = true) :
    Calls Tryz.prog 11 #[.int .u64 id, .bool rst, .agg #[.int .i64 ta, .int .i64 mx, .int .i64 hl, .int .i64 dl], .int .i64 hold, pv] w fun e w' => ∃ (c : Array Value) (ok : Bool), e = .returned (.tuple #[.agg c, .bool ok]) ∧ (ok = true ↔ RightP (newA id rst ta mx hl dl hold P)) ∧ NewIs w w' c ok (newA id rst ta mx hl dl hold P) ∧ Ext w w' := by
  have HI := Lib.hid hi
  have HHO := Lib.hid ho
  have HPR := Lib.hid hpr
  have HT := Lib.hid (And.intro hta (And.intro hmx (And.intro hhl hdl)))
  obtain ⟨pa, pcap, hpe, hpm, hpf⟩ := hP
  obtain ⟨n, hn0⟩ : ∃ m, P.length = m := ⟨_, rfl⟩
  rw [hn0] at hpe hpm hpf hn
  subst hpe
  have HPF := Lib.hid (show 0 < n → ∃ b off, pa = some ⟨b, off, none⟩ ∧ b < w.heap.size ∧ n ≤ pcap ∧ pcap ≤ 9223372036854775807 ∧ ∀ i, i < n → w.rangeAt b (off + i * 5) (P.getD i default).L from hpf)
  have HNN := Lib.hid hn0
  obtain ⟨i9, hi9, hz9, hs9, hb9⟩ := info_parts info_po
  have I9 := Lib.hid (And.intro hi9 (And.intro hz9 (And.intro hs9 hb9)))
  clear hi9 hz9 hs9 hb9 hta hmx hhl hdl hi ho hpr hpf hn0 hpm
  go_enter Tryz.func11, Tryz.ntmps11
  go_wp2_with (first
    | fail
    | ((with_reducible refine at_box 24 ?_); refine bx_row rfl 24 _ rfl #[.int .i64 ta, .int .i64 mx, .int .i64 hl, .int .i64 dl] rfl ?_
       intro Y wa hX hsz hx1
       have HYa := Lib.hid hX
       have HEa := Lib.hid hx1
       clear hX hsz hx1)
    | ((with_reducible refine at_alloc 35 ?_); have h0 := HEa.out; refine al_zero rfl 35 rfl BrZ zero_br ?_
       intro RB w1 hq hsz hx
       have HRB := Lib.hid hq
       have HE1 := Lib.hid (HEa.out.trans hx)
       have HRW := Lib.hid (show w.heap.size ≤ RB from by have := HEa.out.size; omega)
       have HY1 := Lib.hid ((hx.block Y (heap_lt HYa.out)).trans HYa.out)
       clear hq hsz hx h0 HEa HYa))
  go_cut [12] from 15 to 22 (fun s wx => ∃ BB, s = .pointer (some ⟨BB, 0, none⟩) ∧ wx.heap[BB]? = some (.cells #[.int .u64 id, .bool rst, .int .i64 ta, .int .i64 mx, .int .i64 hl, .int .i64 dl, .int .i64 hold, .int .u64 id, .int .u32 0, .int .u64 id, .int .u16 0, .int .u16 0, .int .i64 (-1), .int .i64 ta, .int .i64 mx, .int .i64 hl, .int .i64 dl, .slice none 0 0, .slice none 0 0, .slice none 0 0] 35 (0, 0)) ∧ Ext w1 wx ∧ w1.heap.size ≤ BB)
  case rest =>
    obtain ⟨BB, rfl, hbb, hx2, hbw⟩ := hcut
    rename World => w2
    have HBB := Lib.hid hbb
    have HX2 := Lib.hid hx2
    have HBW := Lib.hid hbw
    have HY2 := Lib.hid ((hx2.block Y (heap_lt HY1.out)).trans HY1.out)
    obtain ⟨B, hB⟩ : ∃ B, w2.heap.size = B := ⟨_, rfl⟩
    have HB0 := Lib.hid (Nat.le_of_eq hB.symm)
    have HB1 := Lib.hid (show w1.heap.size ≤ B from by rw [← hB]; exact hx2.size)
    have HBBB := Lib.hid (show BB < B from by rw [← hB]; exact heap_lt hbb)
    have HYB := Lib.hid (show Y < w1.heap.size from heap_lt HY1.out)
    clear hbb hx2 hbw hB
    go_wp2_with fail
    go_loopw [25] (fun s wr => ∃ (k : Nat) (u : Value) (wo : World), wo = wr ∧ s = .int .i64 k ∧ k ≤ n ∧ wo.heap[BB]? = some (.cells #[.int .u64 id, .bool rst, .int .i64 ta, .int .i64 mx, .int .i64 hl, .int .i64 dl, .int .i64 hold, .int .u64 id, .int .u32 0, .int .u64 id, .int .u16 0, .int .u16 0, .int .i64 (-1), .int .i64 ta, .int .i64 mx, .int .i64 hl, .int .i64 dl, u, .slice none 0 0, .slice none 0 0] 35 (0, 0)) ∧ wo.ownsRow B 60 89 u k ((P.take k).flatMap (pL rst mx hl dl)) ∧ Ext w1 wo ∧ B ≤ wo.heap.size) (fun s _ => n - (intOf s).toNat)
    case atStart => exact ⟨0, _, _, rfl, rfl, by omega, HBB.out, ⟨by simp, .inl ⟨rfl, rfl⟩⟩, HX2.out, HB0.out⟩
    case round =>
      clear HBB HX2
      obtain ⟨k, u, wo, rfl, rfl, hk, hbb, hown, hx, hbl⟩ := hrel
      rename World => wl
      obtain ⟨a3, c3, rfl⟩ := own_form2 hown
      have HBR := Lib.hid hbb
      have HO := Lib.hid hown
      have HXL := Lib.hid hx
      have HBL := Lib.hid hbl
      clear hbb hown hx hbl
      by_cases hlt : k < n
      · have dlt : decide ((k : Int) < (n : Int)) = true := by simp; omega
        have hup : IntKind.i64.wrap ((k : Int) + 1) = ((k + 1 : Nat) : Int) := by rw [IntKind.wrap_i64]; omega
        obtain ⟨pb, po, rfl, hpb, -, -, hp4⟩ := HPF.out (by omega)
        obtain ⟨p, hp⟩ : ∃ p, P.getD k default = p := ⟨_, rfl⟩
        have RS := Lib.hid (show wl.rangeAt pb (po + k * 5) p.L from by
          have h4 := rangeR_ext (hp4 k hlt) (HE1.out.trans HXL.out) hpb
          rw [hp] at h4
          exact h4)
        have HTK := Lib.hid (show (P.take (k + 1)).flatMap (pL rst mx hl dl) = (P.take k).flatMap (pL rst mx hl dl) ++ pL rst mx hl dl p from by
          rw [take_snoc P default (by rw [HNN.out]; exact hlt), hp, List.flatMap_append]
          simp)
        obtain ⟨p1, p2, p3, p4, p5⟩ := p
        have HTL := Lib.hid (show pL rst mx hl dl ⟨p1, p2, p3, p4, p5⟩ = (portL p1 p2 p3 p4 p5 rst mx hl dl (if p4 then 0 else 1)).toList from rfl)
        obtain ⟨e, he⟩ : ∃ e : Int, (if p4 then (0 : Int) else 1) = e := ⟨_, rfl⟩
        have HEE := Lib.hid he
        rw [he] at HTL
        clear hp4 hp hpb he
        go_wp2_with (first
          | fail
          | ((with_reducible refine at_load 73 ?_); refine wpList_load_mid rfl 73 _ rfl pb (po + k * 5) rfl [.int .u16 p1, .int .u32 p2, .bool p3, .bool p4, .bool p5] _ RS.out Tryz.underlying73 rfl size_bt ?_)
          | ((with_reducible refine at_alloc 73 ?_); refine al_zero rfl 73 rfl SUZ zero_bt ?_
             intro H wh hqh hszh hxh)
          | ((with_reducible refine at_store 73 ?_); refine st_at rfl rfl 73 _ _ rfl H 0 _ #[.int .u16 p1, .int .u32 p2, .bool p3, .bool p4, .bool p5] SUZ #[.int .u16 p1, .int .u32 p2, .bool p3, .bool p4, .bool p5] 73 rfl rfl rfl hqh (by exact (by decide : 0 + 5 ≤ 5)) (by kernel_rfl) rfl rfl ?_
             intro wk hqk hmk
             have E5 : Ext wl wk := hxh.mutE hmk (fun g hg h => by have h2 : g = H := h; omega)
             have HHK := Lib.hid hqk
             have HHW := Lib.hid (show wl.heap.size ≤ H from Nat.le_of_eq hszh)
             have HOK := Lib.hid (ownR_ext HO.out E5)
             have HBK := Lib.hid ((E5.block BB (heap_lt HBR.out)).trans HBR.out)
             have HXK := Lib.hid (HXL.out.trans E5)
             have HBLK := Lib.hid (Nat.le_trans HBL.out E5.size)
             have HNE := Lib.hid (show ∀ g, Value.ownBlock (.slice a3 k c3) = some g → g ≠ H from fun g h1 h2 => by have h3 := (own_lt2 HO.out h1).2; have h4 : wl.heap.size = H := hszh; omega)
             clear hqh hszh hxh hqk hmk E5 wh))
        refine beginZ (S := fun W' => Ext w1 W' ∧ W'.heap[BB]? = some (.cells #[.int .u64 id, .bool rst, .int .i64 ta, .int .i64 mx, .int .i64 hl, .int .i64 dl, .int .i64 hold, .int .u64 id, .int .u32 0, .int .u64 id, .int .u16 0, .int .u16 0, .int .i64 (-1), .int .i64 ta, .int .i64 mx, .int .i64 hl, .int .i64 dl, .slice a3 k c3, .slice none 0 0, .slice none 0 0] 35 (0, 0)) ∧ W'.heap[H]? = some (.cells #[.int .u16 p1, .int .u32 p2, .bool p3, .bool p4, .bool p5] 73 (0, 0))) 9 (by kernel_rfl) ?_
        intro wd hqx
        have hq0 : (fun W' => Ext w1 W' ∧ W'.heap[BB]? = some (.cells #[.int .u64 id, .bool rst, .int .i64 ta, .int .i64 mx, .int .i64 hl, .int .i64 dl, .int .i64 hold, .int .u64 id, .int .u32 0, .int .u64 id, .int .u16 0, .int .u16 0, .int .i64 (-1), .int .i64 ta, .int .i64 mx, .int .i64 hl, .int .i64 dl, .slice a3 k c3, .slice none 0 0, .slice none 0 0] 35 (0, 0)) ∧ W'.heap[H]? = some (.cells #[.int .u16 p1, .int .u32 p2, .bool p3, .bool p4, .bool p5] 73 (0, 0))) wd := ⟨HXK.out.trans hqx, (hqx.block BB (heap_lt (HBK.out))).trans (HBK.out), (hqx.block H (heap_lt (HHK.out))).trans (HHK.out)⟩
        refine takeZ (i := 0) (z := 9) (v := (.pointer (some ⟨BB, 17, none⟩))) rfl rfl (by kernel_rfl) (by kernel_rfl) (by kernel_rfl) (by kernel_rfl) (by kernel_rfl) (by kernel_rfl) (fun _ _ _ h => h) (Or.inl ⟨rfl, fun _ _ => rfl⟩) hq0 ?_
        simp only [ps]
        refine takeZ (i := 1) (z := 9) (v := _) rfl rfl (by kernel_rfl) (by kernel_rfl) (by kernel_rfl) (by kernel_rfl) (by kernel_rfl) (by kernel_rfl) (fun _ _ _ h => h) (yieldsIf_cell rfl 31 _ rfl ⟨BB, 17, none⟩ rfl (.slice a3 k c3) _ (fun W' hW' => (show W'.cell? ⟨BB, 17, none⟩ = _ by rw [cell_row hW'.2.1]; rfl)) Tryz.underlying31 rfl) hq0 ?_
        simp only [ps]
        refine takeZ (i := 2) (z := 9) (v := _) rfl rfl (by kernel_rfl) (by kernel_rfl) (by kernel_rfl) (by kernel_rfl) (by kernel_rfl) (by kernel_rfl) (fun _ _ _ h => h) (yieldsIf_rowS rfl 73 _ rfl H rfl #[.int .u16 p1, .int .u32 p2, .bool p3, .bool p4, .bool p5] _ _ (fun W' hW' => hW'.2.2) Tryz.underlying73 rfl size_bt) hq0 ?_
        simp only [ps]
        refine takeZ (i := 3) (z := 9) (v := (.bool rst)) rfl rfl (by kernel_rfl) (by kernel_rfl) (by kernel_rfl) (by kernel_rfl) (by kernel_rfl) (by kernel_rfl) (fun _ _ _ h => h) (Or.inl ⟨rfl, fun _ _ => rfl⟩) hq0 ?_
        simp only [ps]
        refine takeZ (i := 4) (z := 9) (v := _) rfl rfl (by kernel_rfl) (by kernel_rfl) (by kernel_rfl) (by kernel_rfl) (by kernel_rfl) (by kernel_rfl) (fun _ _ _ h => h) (yieldsIf_rowS rfl 24 _ rfl Y rfl #[.int .i64 ta, .int .i64 mx, .int .i64 hl, .int .i64 dl] _ _ (fun W' hW' => (hW'.1.block Y HYB.out).trans HY1.out) Tryz.underlying24 rfl size_tm) hq0 ?_
        simp only [ps]
        refine runZ (i := 5) rfl rfl (by kernel_rfl) (fun K hK => ?_)
        go_simp
        refine (newport_any p1 p2 mx hl dl p3 p4 p5 rst wd).mono ?_
        rintro e' wc ⟨rfl, hwc⟩
        rw [HEE.out]
        have hqc : (fun W' => Ext w1 W' ∧ W'.heap[BB]? = some (.cells #[.int .u64 id, .bool rst, .int .i64 ta, .int .i64 mx, .int .i64 hl, .int .i64 dl, .int .i64 hold, .int .u64 id, .int .u32 0, .int .u64 id, .int .u16 0, .int .u16 0, .int .i64 (-1), .int .i64 ta, .int .i64 mx, .int .i64 hl, .int .i64 dl, .slice a3 k c3, .slice none 0 0, .slice none 0 0] 35 (0, 0)) ∧ W'.heap[H]? = some (.cells #[.int .u16 p1, .int .u32 p2, .bool p3, .bool p4, .bool p5] 73 (0, 0))) wc := ⟨hq0.1.trans hwc, (hwc.block BB (heap_lt hq0.2.1)).trans hq0.2.1, (hwc.block H (heap_lt hq0.2.2)).trans hq0.2.2⟩
        refine hK.out _ _ hqc (fun _ => ?_)
        try simp only [ps]
        clear hK K
        refine runZ (i := 6) rfl rfl (by kernel_rfl) (fun K hK => ?_)
        refine wp_buildSlice 31 60 1 _ rfl (portL p1 p2 p3 p4 p5 rst mx hl dl e) i9 (.agg PortZ) Tryz.underlying31 I9.out.1 I9.out.2.1 (by rw [I9.out.2.2.1]; decide) (by rw [I9.out.2.2.1]; decide) (by rw [I9.out.2.2.1, Array.toList_map]; exact b1_po _ _ _ _ _ _ _ _ _ _) ?_
        have hy : Ext wc (wc.alloc (.cells (portL p1 p2 p3 p4 p5 rst mx hl dl e) 60)) := (Ext.refl _).alloc _
        have hnw := heap_alloc_new wc (.cells (portL p1 p2 p3 p4 p5 rst mx hl dl e) 60)
        obtain ⟨wn, hwa⟩ : ∃ W, wc.alloc (.cells (portL p1 p2 p3 p4 p5 rst mx hl dl e) 60) = W := ⟨_, rfl⟩
        obtain ⟨bn, hnb⟩ : ∃ m, wc.heap.size = m := ⟨_, rfl⟩
        rw [hwa] at hnw hy ⊢
        rw [hnb] at hnw ⊢
        clear hwa hnb
        have hq1 : (fun W' => Ext w1 W' ∧ W'.heap[BB]? = some (.cells #[.int .u64 id, .bool rst, .int .i64 ta, .int .i64 mx, .int .i64 hl, .int .i64 dl, .int .i64 hold, .int .u64 id, .int .u32 0, .int .u64 id, .int .u16 0, .int .u16 0, .int .i64 (-1), .int .i64 ta, .int .i64 mx, .int .i64 hl, .int .i64 dl, .slice a3 k c3, .slice none 0 0, .slice none 0 0] 35 (0, 0)) ∧ W'.heap[H]? = some (.cells #[.int .u16 p1, .int .u32 p2, .bool p3, .bool p4, .bool p5] 73 (0, 0))) wn := ⟨hqc.1.trans hy, (hy.block BB (heap_lt hqc.2.1)).trans hqc.2.1, (hy.block H (heap_lt hqc.2.2)).trans hqc.2.2⟩
        have hxn : Ext wk wn := (hqx.trans hwc).trans hy
        have hO2 := ownR_ext HOK.out hxn
        have hbw : B ≤ wn.heap.size := Nat.le_trans HBLK.out hxn.size
        refine hK.out _ _ hq1 (fun _ => ?_)
        try simp only [ps]
        clear hK K
        refine runZ (i := 7) rfl rfl (by kernel_rfl) (fun K hK => ?_)
        refine oper_append_own_at _ _ 31 rfl B 60 i9 (.agg PortZ) 89 416 Tryz.underlying31 I9.out.1 I9.out.2.1 I9.out.2.2.1 I9.out.2.2.2 rfl (by decide) (.slice a3 k c3) k ((P.take k).flatMap (pL rst mx hl dl)) rfl hO2 ⟨bn, 0, none⟩ 1 1 ((portL p1 p2 p3 p4 p5 rst mx hl dl e)).toList rfl rfl ?hnews (fun u hu => pL_one HTL.out u hu) (by unfold maxLen; omega) (by omega) hbw ?hfin
        case hnews => exact fun j u hu => World.news_of_block hnw j u (by simpa using hu)
        case hfin =>
        intro v6 wa ho6 hg6 hloc
        have hrw0 : wa.heap[BB]? = some (.cells #[.int .u64 id, .bool rst, .int .i64 ta, .int .i64 mx, .int .i64 hl, .int .i64 dl, .int .i64 hold, .int .u64 id, .int .u32 0, .int .u64 id, .int .u16 0, .int .u16 0, .int .i64 (-1), .int .i64 ta, .int .i64 mx, .int .i64 hl, .int .i64 dl, .slice a3 k c3, .slice none 0 0, .slice none 0 0] 35 (0, 0)) := (hg6.block BB (heap_lt hq1.2.1) (fun e => by have h1 := (own_lt2 hO2 e.symm).1; have h2 := HBBB.out; omega)).trans hq1.2.1
        have hrw1 : wa.heap[H]? = some (.cells #[.int .u16 p1, .int .u32 p2, .bool p3, .bool p4, .bool p5] 73 (0, 0)) := (hg6.block H (heap_lt hq1.2.2) (fun e => (HNE.out) _ e.symm rfl)).trans hq1.2.2
        have hq6 : (fun W' => Ext w1 W' ∧ W'.heap[BB]? = some (.cells #[.int .u64 id, .bool rst, .int .i64 ta, .int .i64 mx, .int .i64 hl, .int .i64 dl, .int .i64 hold, .int .u64 id, .int .u32 0, .int .u64 id, .int .u16 0, .int .u16 0, .int .i64 (-1), .int .i64 ta, .int .i64 mx, .int .i64 hl, .int .i64 dl, .slice a3 k c3, .slice none 0 0, .slice none 0 0] 35 (0, 0)) ∧ W'.heap[H]? = some (.cells #[.int .u16 p1, .int .u32 p2, .bool p3, .bool p4, .bool p5] 73 (0, 0))) wa := ⟨ext_grown hq1.1 hO2 HB1.out hg6, hrw0, hrw1⟩
        obtain ⟨a6, c6, rfl⟩ := own_form2 ho6
        refine hK.out _ _ hq6 (fun _ => ?_)
        try simp only [ps]
        clear hK K
        refine takeZ (i := 8) (z := 9) (v := (.pointer (some ⟨BB, 17, none⟩))) rfl rfl (by kernel_rfl) (by kernel_rfl) (by kernel_rfl) (by kernel_rfl) (by kernel_rfl) (by kernel_rfl) (fun _ _ _ h => h) (Or.inl ⟨rfl, fun _ _ => rfl⟩) hq6 ?_
        simp only [ps]
        refine runZl (z := 9) rfl rfl (by kernel_rfl) (fun K hK => ?_)
        refine wp_st_at rfl 31 _ _ rfl BB 17 _ #[.slice a6 (k + 1) c6] (#[.int .u64 id, .bool rst, .int .i64 ta, .int .i64 mx, .int .i64 hl, .int .i64 dl, .int .i64 hold, .int .u64 id, .int .u32 0, .int .u64 id, .int .u16 0, .int .u16 0, .int .i64 (-1), .int .i64 ta, .int .i64 mx, .int .i64 hl, .int .i64 dl, .slice a3 k c3, .slice none 0 0, .slice none 0 0]) (#[.int .u64 id, .bool rst, .int .i64 ta, .int .i64 mx, .int .i64 hl, .int .i64 dl, .int .i64 hold, .int .u64 id, .int .u32 0, .int .u64 id, .int .u16 0, .int .u16 0, .int .i64 (-1), .int .i64 ta, .int .i64 mx, .int .i64 hl, .int .i64 dl, .slice a6 (k + 1) c6, .slice none 0 0, .slice none 0 0]) 35 rfl rfl rfl hrw0 (by exact (by decide : 17 + 1 ≤ 20)) (by kernel_rfl) rfl rfl (fun ws hrow hm => ?_)
        have HFR := app_fr hxn hg6 hm
        have HROW := Lib.hid hrow
        have hown6 : ws.ownsRow B 60 89 (.slice a6 (k + 1) c6) (k + 1) ((P.take k).flatMap (pL rst mx hl dl) ++ ((portL p1 p2 p3 p4 p5 rst mx hl dl e)).toList) := own_mut ho6 hm (fun g h1 h2 => by have h3 := (own_lt2 ho6 h1).1; have h4 := HBBB.out; omega)
        have HSZ : wk.heap.size ≤ wn.heap.size := hxn.size
        refine hK.out _ _ ?_
        try simp only [ps]
        clear hK K
        have HOS := Lib.hid (show ws.ownsRow B 60 89 (.slice a6 (k + 1) c6) (k + 1) ((P.take (k + 1)).flatMap (pL rst mx hl dl)) from by rw [HTK.out, HTL.out]; exact hown6)
        have HXS := Lib.hid (HXK.out.app HBW.out HOK.out HB1.out HFR)
        have HBS := Lib.hid (Nat.le_trans HBLK.out HFR.size)
        clear HFR hown6 HSZ hloc hwc hqc
        clear hrow hm ho6 hg6 hq6 hq1 hq0 hqx hy hnw hO2 hbw hxn hrw0 hrw1
        refine wpAnyH_done (by kernel_rfl) ?_ _
        go_wp2_with fail
        go_roundw
        case rel => exact ⟨k + 1, _, _, rfl, by go_num, hlt, HROW.out, HOS.out, HXS.out, HBS.out⟩
        case measure => simp [intOf] <;> omega
      · have dlt : decide ((k : Int) < (n : Int)) = false := by simp; omega
        obtain rfl : n = k := by omega
        have htk : P.take n = P := List.take_of_length_le (by rw [HNN.out]; exact Nat.le_refl _)
        have hbr : BrC wl #[.int .u64 id, .bool rst, .int .i64 ta, .int .i64 mx, .int .i64 hl, .int .i64 dl, .int .i64 hold, .int .u64 id, .int .u32 0, .int .u64 id, .int .u16 0, .int .u16 0, .int .i64 (-1), .int .i64 ta, .int .i64 mx, .int .i64 hl, .int .i64 dl, .slice a3 n c3, .slice none 0 0, .slice none 0 0] (newA id rst ta mx hl dl hold P) := by
          have h1 := HO.out
          rw [htk] at h1
          exact ⟨.slice a3 n c3, .slice none 0 0, .slice none 0 0, rfl, by rw [show (newA id rst ta mx hl dl hold P).np = n from HNN.out]; exact own_row h1, ⟨rfl, .inl ⟨rfl, .inl rfl⟩⟩, ⟨rfl, .inl ⟨rfl, .inl rfl⟩⟩⟩
        have HBRC := Lib.hid hbr
        have HOKB := Lib.hid (newA_ok (rst := rst) (wfu64 HI.out) HT.out.1 HT.out.2.1 HT.out.2.2.1 HT.out.2.2.2 (wf64 HHO.out) HPR.out)
        have HRBL := Lib.hid ((HXL.out.block RB (heap_lt HRB.out)).trans HRB.out)
        clear htk hbr
        go_wp2_with (first
          | fail
          | ((with_reducible refine at_load 35 ?_); refine wpList_load_row rfl 35 _ rfl BB rfl 35 #[.int .u64 id, .bool rst, .int .i64 ta, .int .i64 mx, .int .i64 hl, .int .i64 dl, .int .i64 hold, .int .u64 id, .int .u32 0, .int .u64 id, .int .u16 0, .int .u16 0, .int .i64 (-1), .int .i64 ta, .int .i64 mx, .int .i64 hl, .int .i64 dl, .slice a3 n c3, .slice none 0 0, .slice none 0 0] (0, 0) _ HBR.out Tryz.underlying35 rfl size_brg ?_))
        refine (cright_any #[.int .u64 id, .bool rst, .int .i64 ta, .int .i64 mx, .int .i64 hl, .int .i64 dl, .int .i64 hold, .int .u64 id, .int .u32 0, .int .u64 id, .int .u16 0, .int .u16 0, .int .i64 (-1), .int .i64 ta, .int .i64 mx, .int .i64 hl, .int .i64 dl, .slice a3 n c3, .slice none 0 0, .slice none 0 0] (newA id rst ta mx hl dl hold P) wl HBRC.out HOKB.out).mono ?_
        rintro e w6 ⟨fb, rfl, hx6, hfb⟩
        have HFB := Lib.hid hfb
        have HOW := Lib.hid (show w6.ownsRow B 60 89 (.slice a3 n c3) n (P.flatMap (pL rst mx hl dl)) from by
          have h1 := ownR_ext HO.out hx6
          rw [List.take_of_length_le (by rw [HNN.out]; exact Nat.le_refl _)] at h1
          exact h1)
        have HB6 := Lib.hid ((hx6.block BB (heap_lt HBR.out)).trans HBR.out)
        have HR6 := Lib.hid ((hx6.block RB (heap_lt HRBL.out)).trans HRBL.out)
        have HX6 := Lib.hid (HXL.out.trans hx6)
        cases fb with
        | true =>
          clear hx6 hfb
          go_wp2_with (first
            | fail
            | ((with_reducible refine at_load 35 ?_); refine wpList_load_row rfl 35 _ rfl BB rfl 35 #[.int .u64 id, .bool rst, .int .i64 ta, .int .i64 mx, .int .i64 hl, .int .i64 dl, .int .i64 hold, .int .u64 id, .int .u32 0, .int .u64 id, .int .u16 0, .int .u16 0, .int .i64 (-1), .int .i64 ta, .int .i64 mx, .int .i64 hl, .int .i64 dl, .slice a3 n c3, .slice none 0 0, .slice none 0 0] (0, 0) _ HB6.out Tryz.underlying35 rfl size_brg ?_)
            | ((with_reducible refine at_store 35 ?_); refine st_at rfl rfl 35 _ _ rfl RB 0 _ #[.int .u64 id, .bool rst, .int .i64 ta, .int .i64 mx, .int .i64 hl, .int .i64 dl, .int .i64 hold, .int .u64 id, .int .u32 0, .int .u64 id, .int .u16 0, .int .u16 0, .int .i64 (-1), .int .i64 ta, .int .i64 mx, .int .i64 hl, .int .i64 dl, .slice a3 n c3, .slice none 0 0, .slice none 0 0] BrZ #[.int .u64 id, .bool rst, .int .i64 ta, .int .i64 mx, .int .i64 hl, .int .i64 dl, .int .i64 hold, .int .u64 id, .int .u32 0, .int .u64 id, .int .u16 0, .int .u16 0, .int .i64 (-1), .int .i64 ta, .int .i64 mx, .int .i64 hl, .int .i64 dl, .slice a3 n c3, .slice none 0 0, .slice none 0 0] 35 rfl rfl rfl HR6.out (by exact (by decide : 0 + 20 ≤ 20)) (by kernel_rfl) rfl rfl ?_
               intro wz hqz hmz
               have HRZ := Lib.hid hqz
               have HMZ := Lib.hid hmz
               clear hqz hmz))
          refine bodyPost_ret (results_crt rfl _ _ RB _ _ (0, 0) _ rfl HRZ.out Tryz.underlying35 rfl size_brg) rfl ?_
          have hsz : w.heap.size ≤ B := Nat.le_trans HE1.out.size HB1.out
          refine ⟨_, true, rfl, by simpa using HFB.out, .inl ⟨rfl, _, rfl, ?_⟩, (HE1.out.trans HX6.out).mutE HMZ.out (fun g h1 h2 => by have h3 : g = RB := h2; have h4 := HRW.out; omega)⟩
          have h5 := own_mut HOW.out HMZ.out (fun g h1 h2 => by have h3 : g = RB := h2; have h4 := (own_lt2 HOW.out h1).1; have h5 := heap_lt HRB.out; have h6 := HB1.out; omega)
          rw [show (newA id rst ta mx hl dl hold P).np = n from HNN.out]
          exact own_base h5 hsz
        | false =>
          clear hx6 hfb
          go_wp2_with (first
            | fail
            | ((with_reducible refine at_build 35 ?_); refine wpList_build2 rfl 35 _ rfl _ rfl _ bl_br0 ?_)
            | ((with_reducible refine at_store 35 ?_); refine st_at rfl rfl 35 _ _ rfl RB 0 _ BrZ BrZ BrZ 35 rfl rfl rfl HR6.out (by exact (by decide : 0 + 20 ≤ 20)) (by kernel_rfl) (by kernel_rfl) (by kernel_rfl) ?_
               intro wz hqz hmz
               have HRZ := Lib.hid hqz
               have HMZ := Lib.hid hmz
               clear hqz hmz))
          refine bodyPost_ret (results_crt rfl _ _ RB _ _ (0, 0) _ rfl HRZ.out Tryz.underlying35 rfl size_brg) rfl ?_
          exact ⟨_, false, rfl, HFB.out, .inr ⟨rfl, rfl⟩, (HE1.out.trans HX6.out).mutE HMZ.out (fun g h1 h2 => by have h3 : g = RB := h2; have h4 := HRW.out; omega)⟩
  refine beginL (S := fun W' => Ext w1 W') (by kernel_rfl) ?_
  intro wd hqx
  have hq0 : Ext w1 wd := hqx
  refine tLp 0 ((.int .u64 id)) rfl hq0 ?_
  simp only [ps]
  refine tLp 1 ((.bool rst)) rfl hq0 ?_
  simp only [ps]
  refine tL 2 (_) rfl (yieldsIf_rowS rfl 24 _ rfl Y rfl #[.int .i64 ta, .int .i64 mx, .int .i64 hl, .int .i64 dl] _ _ (fun W' hW' => (hW'.block Y (heap_lt HY1.out)).trans HY1.out) Tryz.underlying24 rfl size_tm) hq0 ?_
  simp only [ps]
  refine tLp 3 ((.int .i64 hold)) rfl hq0 ?_
  simp only [ps]
  refine tLp 4 ((.int .u64 id)) rfl hq0 ?_
  simp only [ps]
  refine tL 6 (_) rfl (yieldsIf_rowS rfl 24 _ rfl Y rfl #[.int .i64 ta, .int .i64 mx, .int .i64 hl, .int .i64 dl] _ _ (fun W' hW' => (hW'.block Y (heap_lt HY1.out)).trans HY1.out) Tryz.underlying24 rfl size_tm) hq0 ?_
  simp only [ps]
  refine runL2 (i := 5) (j := 8) rfl rfl rfl rfl (by kernel_rfl) (fun K hK => ?_) (fun K hK => ?_)
  · go_simp
    refine (own_any id wd).mono ?_
    rintro e wc ⟨rfl, hx⟩
    have hq1 : Ext w1 wc := hq0.trans hx
    clear hx
    refine hK.out _ _ hq1 (fun _ => ?_)
    try simp only [ps]
    clear hK K
    refine tL 7 ((.agg #[.int .u64 id, .bool rst, .int .i64 ta, .int .i64 mx, .int .i64 hl, .int .i64 dl, .int .i64 hold, .int .u64 id, .int .u32 0, .int .u64 id, .int .u16 0, .int .u16 0, .int .i64 (-1), .int .i64 ta, .int .i64 mx, .int .i64 hl, .int .i64 dl, .slice none 0 0, .slice none 0 0, .slice none 0 0])) rfl (yieldsIf_build rfl 35 _ rfl [(0, .int .u64 id), (1, .bool rst), (2, .agg #[.int .i64 ta, .int .i64 mx, .int .i64 hl, .int .i64 dl]), (3, .int .i64 hold), (4, .agg #[.int .u64 id, .int .u32 0, .int .u64 id, .int .u16 0, .int .u16 0]), (5, .int .i64 (-1)), (6, .agg #[.int .i64 ta, .int .i64 mx, .int .i64 hl, .int .i64 dl])] rfl #[.int .u64 id, .bool rst, .int .i64 ta, .int .i64 mx, .int .i64 hl, .int .i64 dl, .int .i64 hold, .int .u64 id, .int .u32 0, .int .u64 id, .int .u16 0, .int .u16 0, .int .i64 (-1), .int .i64 ta, .int .i64 mx, .int .i64 hl, .int .i64 dl, .slice none 0 0, .slice none 0 0, .slice none 0 0] (bl_br _ _ _ _ _ _ _)) hq1 ?_
    simp only [ps]
    refine runL (i := 8) rfl rfl (by kernel_rfl) (fun K hK => ?_)
    refine wp_al_zero 35 rfl BrZ zero_br (fun BB wv hvb hsz hx => ?_)
    have hq2 : Ext w1 wv := hq1.trans hx
    have hbw : w1.heap.size ≤ BB := by have := hq1.size; omega
    clear hsz
    clear hx
    refine hK.out _ _ hq2 (fun _ => ?_)
    try simp only [ps]
    clear hK K
    refine runL (i := 9) rfl rfl (by kernel_rfl) (fun K hK => ?_)
    refine wp_st_at rfl 35 _ _ rfl BB 0 _ #[.int .u64 id, .bool rst, .int .i64 ta, .int .i64 mx, .int .i64 hl, .int .i64 dl, .int .i64 hold, .int .u64 id, .int .u32 0, .int .u64 id, .int .u16 0, .int .u16 0, .int .i64 (-1), .int .i64 ta, .int .i64 mx, .int .i64 hl, .int .i64 dl, .slice none 0 0, .slice none 0 0, .slice none 0 0] BrZ #[.int .u64 id, .bool rst, .int .i64 ta, .int .i64 mx, .int .i64 hl, .int .i64 dl, .int .i64 hold, .int .u64 id, .int .u32 0, .int .u64 id, .int .u16 0, .int .u16 0, .int .i64 (-1), .int .i64 ta, .int .i64 mx, .int .i64 hl, .int .i64 dl, .slice none 0 0, .slice none 0 0, .slice none 0 0] 35 rfl rfl rfl hvb (by exact (by decide : 0 + 20 ≤ 20)) (by kernel_rfl) rfl rfl (fun wz hrow hm => ?_)
    have hxz : Ext w1 wz := Ext.mutE hq2 hm (fun j hj h => by have h2 : j = BB := h; omega)
    refine hK.out _ _ hxz (fun _ => ?_)
    try simp only [ps]
    clear hK K
    refine wpAnyH_done (by kernel_rfl) ?_ _
    go_wp2_with fail
    go_meet
    exact ⟨BB, rfl, hrow, hxz, hbw⟩
  · refine wp_al_zero 35 rfl BrZ zero_br (fun BB wv hvb hsz hx => ?_)
    have hq1 : Ext w1 wv := hq0.trans hx
    have hbw : w1.heap.size ≤ BB := by have := hq0.size; omega
    clear hsz
    clear hx
    refine hK.out _ _ hq1 (fun _ => ?_)
    try simp only [ps]
    clear hK K
    refine runL (i := 5) rfl rfl (by kernel_rfl) (fun K hK => ?_)
    go_simp
    refine (own_any id wv).mono ?_
    rintro e wc ⟨rfl, hx⟩
    have hq2 : Ext w1 wc := hq1.trans hx
    replace hvb := (hx.block BB (heap_lt hvb)).trans hvb
    clear hx
    refine hK.out _ _ hq2 (fun _ => ?_)
    try simp only [ps]
    clear hK K
    refine tL 7 ((.agg #[.int .u64 id, .bool rst, .int .i64 ta, .int .i64 mx, .int .i64 hl, .int .i64 dl, .int .i64 hold, .int .u64 id, .int .u32 0, .int .u64 id, .int .u16 0, .int .u16 0, .int .i64 (-1), .int .i64 ta, .int .i64 mx, .int .i64 hl, .int .i64 dl, .slice none 0 0, .slice none 0 0, .slice none 0 0])) rfl (yieldsIf_build rfl 35 _ rfl [(0, .int .u64 id), (1, .bool rst), (2, .agg #[.int .i64 ta, .int .i64 mx, .int .i64 hl, .int .i64 dl]), (3, .int .i64 hold), (4, .agg #[.int .u64 id, .int .u32 0, .int .u64 id, .int .u16 0, .int .u16 0]), (5, .int .i64 (-1)), (6, .agg #[.int .i64 ta, .int .i64 mx, .int .i64 hl, .int .i64 dl])] rfl #[.int .u64 id, .bool rst, .int .i64 ta, .int .i64 mx, .int .i64 hl, .int .i64 dl, .int .i64 hold, .int .u64 id, .int .u32 0, .int .u64 id, .int .u16 0, .int .u16 0, .int .i64 (-1), .int .i64 ta, .int .i64 mx, .int .i64 hl, .int .i64 dl, .slice none 0 0, .slice none 0 0, .slice none 0 0] (bl_br _ _ _ _ _ _ _)) hq2 ?_
    simp only [ps]
    refine runL (i := 9) rfl rfl (by kernel_rfl) (fun K hK => ?_)
    refine wp_st_at rfl 35 _ _ rfl BB 0 _ #[.int .u64 id, .bool rst, .int .i64 ta, .int .i64 mx, .int .i64 hl, .int .i64 dl, .int .i64 hold, .int .u64 id, .int .u32 0, .int .u64 id, .int .u16 0, .int .u16 0, .int .i64 (-1), .int .i64 ta, .int .i64 mx, .int .i64 hl, .int .i64 dl, .slice none 0 0, .slice none 0 0, .slice none 0 0] BrZ #[.int .u64 id, .bool rst, .int .i64 ta, .int .i64 mx, .int .i64 hl, .int .i64 dl, .int .i64 hold, .int .u64 id, .int .u32 0, .int .u64 id, .int .u16 0, .int .u16 0, .int .i64 (-1), .int .i64 ta, .int .i64 mx, .int .i64 hl, .int .i64 dl, .slice none 0 0, .slice none 0 0, .slice none 0 0] 35 rfl rfl rfl hvb (by exact (by decide : 0 + 20 ≤ 20)) (by kernel_rfl) rfl rfl (fun wz hrow hm => ?_)
    have hxz : Ext w1 wz := Ext.mutE hq2 hm (fun j hj h => by have h2 : j = BB := h; omega)
    refine hK.out _ _ hxz (fun _ => ?_)
    try simp only [ps]
    clear hK K
    refine wpAnyH_done (by kernel_rfl) ?_ _
    go_wp2_with fail
    go_meet
    exact ⟨BB, rfl, hrow, hxz, hbw⟩
end Go.Proofs.YtpanapepcbbagaaGreat
namespace Go.Proofs.YtpanapepcbbagaaGreat
open Go.RowKit Go.BigFrame Go.WideShapes Go.ChangeShapes Go.Deep
set_option linter.unusedVariables false
set_option linter.unusedSimpArgs false
set_option maxRecDepth 100000
theorem own_range {w : World} {base size n g cap : Nat} {e : TypeId} {xs : List Value} (h : w.ownsRow base e size (.slice (some ⟨g, 0, none⟩) n cap) n xs) : w.rangeAt g 0 xs := fun j v hv => by
  rcases h.2 with ⟨h0, -⟩ | ⟨g2, cap2, cur, e1, e2, e3, e4, e5, e6, e7⟩
  · cases h0
  · cases e1
    rw [Nat.zero_add, cell_of_row _ _ _ _ _ _ e3]
    rw [← e7, List.getElem?_take] at hv
    split at hv
    · simpa using hv
    · cases hv
theorem RowAt.ownG {w : World} {base n m : Nat} {e : TypeId} {v : Value} {xs : List Value} {f : Nat → List Value} (h : w.ownsRow base e m v n xs) (hn : n ≤ 1000) (hxs : ∀ i, i < n → ∀ j x, (f i)[j]? = some x → xs[i * m + j]? = some x) : RowAt w v n m f := by
  obtain ⟨a, cap, rfl⟩ := own_form2 h
  refine ⟨a, cap, rfl, by omega, fun h0 => ?_⟩
  rcases h.2 with ⟨e, e2⟩ | ⟨g, cap2, cur, e, hb, hg, hn2, hm, hs, ht⟩
  · omega
  · cases e
    refine ⟨g, 0, rfl, heap_lt hg, hn2, by unfold maxLen at hm; omega, fun i hi j v hv => ?_⟩
    have h2 := own_range h (i * m + j) v (hxs i hi j v hv)
    rw [Nat.zero_add] at h2 ⊢
    exact h2
def flatT (l : List Pt) : List Value := l.flatMap Pt.L
theorem PtsAt.own {w : World} {base : Nat} {e : TypeId} {v : Value} {L : List Pt} (h : w.ownsRow base e 5 v L.length (flatT L)) (hL : L.length ≤ 1000) : PtsAt w v L :=
  RowAt.ownG h hL (fun i hi j x hx => flat_at Pt.L 5 (fun _ => rfl) default L i j x hi hx)
theorem info_su : (Tryz.prog.info? 73).map (fun i => (i.zero, i.size, i.bytes)) = some (some (.agg SUZ), 5, 12) := by kernel_rfl
theorem bl_su (a b : Int) (x y z : Bool) : Tryz.prog.built 73 [(0, .int .u16 a), (1, .int .u32 b), (2, .bool x), (3, .bool y), (4, .bool z)] = some #[.int .u16 a, .int .u32 b, .bool x, .bool y, .bool z] := by kernel_rfl
theorem b1_su (a b : Int) (x y z : Bool) : Instr.fill (fun i => some (i * 5, 5)) ((Array.range (1 * 5)).map (SUZ[· % SUZ.size]!)) [(0, .agg #[.int .u16 a, .int .u32 b, .bool x, .bool y, .bool z])] = some #[.int .u16 a, .int .u32 b, .bool x, .bool y, .bool z] := by kernel_rfl
set_option maxHeartbeats 4000000 in
theorem setups_any (w : World) (pv : Value) (P : List Pt) (hP : PtsAt w pv P) (hn : P.length ≤ 40) : Calls Tryz.prog 12 #[pv] w fun e w' => ∃ v, e = .returned v ∧ PtsAt w' v P ∧ Ext w w' := by
  obtain ⟨pa, pcap, hpe, hpm, hpf⟩ := hP
  obtain ⟨n, hn0⟩ : ∃ m, P.length = m := ⟨_, rfl⟩
  rw [hn0] at hpe hpm hpf hn
  subst hpe
  have HPF := Lib.hid (show 0 < n → ∃ b off, pa = some ⟨b, off, none⟩ ∧ b < w.heap.size ∧ n ≤ pcap ∧ pcap ≤ 9223372036854775807 ∧ ∀ i, i < n → w.rangeAt b (off + i * 5) (P.getD i default).L from hpf)
  have HNN := Lib.hid hn0
  obtain ⟨i3, hi9, hz9, hs9, hb9⟩ := info_parts info_su
  have I3 := Lib.hid (And.intro hi9 (And.intro hz9 (And.intro hs9 hb9)))
  clear hi9 hz9 hs9 hb9 hpf hn0 hpm
  go_enter Tryz.func12, Tryz.ntmps12
  go_wp2_with fail
  go_loopw [4, 3] (fun s u wr => ∃ (k : Nat) (v : Value) (wo : World), wo = wr ∧ v = u ∧ s = .int .i64 k ∧ k ≤ n ∧ wo.ownsRow w.heap.size 73 5 v k ((P.take k).flatMap Pt.L) ∧ Ext w wo) (fun s _ _ => n - (intOf s).toNat)
  case atStart => exact ⟨0, _, _, rfl, rfl, rfl, by omega, ⟨by simp, .inl ⟨rfl, rfl⟩⟩, Ext.refl w⟩
  case round =>
    obtain ⟨k, u, wo, rfl, rfl, rfl, hk, hown, hx⟩ := hrel
    rename World => wl
    obtain ⟨a3, c3, rfl⟩ := own_form2 hown
    have HO := Lib.hid hown
    have HXL := Lib.hid hx
    have HBL := Lib.hid hx.size
    clear hown hx
    by_cases hlt : k < n
    · have dlt : decide ((k : Int) < (n : Int)) = true := by simp; omega
      have hup : IntKind.i64.wrap ((k : Int) + 1) = ((k + 1 : Nat) : Int) := by rw [IntKind.wrap_i64]; omega
      obtain ⟨pb, po, rfl, hpb, hcp1, hcp2, hp4⟩ := HPF.out (by omega)
      obtain ⟨p, hp⟩ : ∃ p, P.getD k default = p := ⟨_, rfl⟩
      have RS := Lib.hid (show wl.rangeAt pb (po + k * 5) p.L from by
        have h4 := rangeR_ext (hp4 k hlt) HXL.out hpb
        rw [hp] at h4
        exact h4)
      have HPB := Lib.hid (show pb < wl.heap.size from Nat.lt_of_lt_of_le hpb HBL.out)
      have HPW := Lib.hid hpb
      have HTK := Lib.hid (show (P.take (k + 1)).flatMap Pt.L = (P.take k).flatMap Pt.L ++ p.L from by
        rw [take_snoc P default (by rw [HNN.out]; exact hlt), hp, List.flatMap_append]
        simp)
      obtain ⟨p1, p2, p3, p4, p5⟩ := p
      clear hp4 hp hpb
      go_wp2_with fail
      have HCELL := Lib.hid (show ∀ W', Mut (fun g => Value.ownBlock (.slice a3 k c3) = some g) wl W' → ∀ p : Addr, p.block = pb → W'.cell? p = wl.cell? p from fun W' h p hp => h.cell (p := p) (by rw [hp]; exact HPB.out) (fun h2 => by rw [hp] at h2; have h3 := (own_lt2 HO.out h2).1; have h4 := HPW.out; omega))
      refine beginL (S := fun W' => Mut (fun g => Value.ownBlock (.slice a3 k c3) = some g) wl W') (by kernel_rfl) ?_
      intro wd hqx
      have hq0 : Mut (fun g => Value.ownBlock (.slice a3 k c3) = some g) wl wd := hqx.mut _
      refine tLp 0 ((.slice a3 k c3)) rfl hq0 ?_
      simp only [ps]
      refine tLp 1 ((.slice (some ⟨pb, po, none⟩) n pcap)) rfl hq0 ?_
      simp only [ps]
      refine tLp 2 ((.int .i64 (k : Int))) rfl hq0 ?_
      simp only [ps]
      refine tL 3 ((.pointer (some ⟨pb, po + k * 5, none⟩))) rfl (Or.inl ⟨rfl, fun W' _ => by go_simp <;> (intro h; omega)⟩) hq0 ?_
      simp only [ps]
      refine tLp 4 ((.pointer (some ⟨pb, po + k * 5, none⟩))) rfl hq0 ?_
      simp only [ps]
      refine tL 5 (_) rfl (yieldsIf_cell rfl 28 _ rfl ⟨pb, po + k * 5, none⟩ rfl (.int .u16 p1) _ (fun W' hW' => (show W'.cell? ⟨pb, po + k * 5 + 0, none⟩ = _ from (HCELL.out W' hW' ⟨pb, po + k * 5 + 0, none⟩ rfl).trans (RS.out 0 _ rfl))) Tryz.underlying28 rfl) hq0 ?_
      simp only [ps]
      refine tLp 6 ((.slice (some ⟨pb, po, none⟩) n pcap)) rfl hq0 ?_
      simp only [ps]
      refine tLp 7 ((.int .i64 (k : Int))) rfl hq0 ?_
      simp only [ps]
      refine tL 8 ((.pointer (some ⟨pb, po + k * 5, none⟩))) rfl (Or.inl ⟨rfl, fun W' _ => by go_simp <;> (intro h; omega)⟩) hq0 ?_
      simp only [ps]
      refine tLp 9 ((.pointer (some ⟨pb, po + k * 5 + 1, none⟩))) rfl hq0 ?_
      simp only [ps]
      refine tL 10 (_) rfl (yieldsIf_cell rfl 27 _ rfl ⟨pb, po + k * 5 + 1, none⟩ rfl (.int .u32 p2) _ (fun W' hW' => (show W'.cell? ⟨pb, po + k * 5 + 1, none⟩ = _ from (HCELL.out W' hW' ⟨pb, po + k * 5 + 1, none⟩ rfl).trans (RS.out 1 _ rfl))) Tryz.underlying27 rfl) hq0 ?_
      simp only [ps]
      refine tLp 11 ((.slice (some ⟨pb, po, none⟩) n pcap)) rfl hq0 ?_
      simp only [ps]
      refine tLp 12 ((.int .i64 (k : Int))) rfl hq0 ?_
      simp only [ps]
      refine tL 13 ((.pointer (some ⟨pb, po + k * 5, none⟩))) rfl (Or.inl ⟨rfl, fun W' _ => by go_simp <;> (intro h; omega)⟩) hq0 ?_
      simp only [ps]
      refine tLp 14 ((.pointer (some ⟨pb, po + k * 5 + 2, none⟩))) rfl hq0 ?_
      simp only [ps]
      refine tL 15 (_) rfl (yieldsIf_cell rfl 4 _ rfl ⟨pb, po + k * 5 + 2, none⟩ rfl (.bool p3) _ (fun W' hW' => (show W'.cell? ⟨pb, po + k * 5 + 2, none⟩ = _ from (HCELL.out W' hW' ⟨pb, po + k * 5 + 2, none⟩ rfl).trans (RS.out 2 _ rfl))) Tryz.underlying4 rfl) hq0 ?_
      simp only [ps]
      refine tLp 16 ((.slice (some ⟨pb, po, none⟩) n pcap)) rfl hq0 ?_
      simp only [ps]
      refine tLp 17 ((.int .i64 (k : Int))) rfl hq0 ?_
      simp only [ps]
      refine tL 18 ((.pointer (some ⟨pb, po + k * 5, none⟩))) rfl (Or.inl ⟨rfl, fun W' _ => by go_simp <;> (intro h; omega)⟩) hq0 ?_
      simp only [ps]
      refine tLp 19 ((.pointer (some ⟨pb, po + k * 5 + 3, none⟩))) rfl hq0 ?_
      simp only [ps]
      refine tL 20 (_) rfl (yieldsIf_cell rfl 4 _ rfl ⟨pb, po + k * 5 + 3, none⟩ rfl (.bool p4) _ (fun W' hW' => (show W'.cell? ⟨pb, po + k * 5 + 3, none⟩ = _ from (HCELL.out W' hW' ⟨pb, po + k * 5 + 3, none⟩ rfl).trans (RS.out 3 _ rfl))) Tryz.underlying4 rfl) hq0 ?_
      simp only [ps]
      refine tLp 21 ((.slice (some ⟨pb, po, none⟩) n pcap)) rfl hq0 ?_
      simp only [ps]
      refine tLp 22 ((.int .i64 (k : Int))) rfl hq0 ?_
      simp only [ps]
      refine tL 23 ((.pointer (some ⟨pb, po + k * 5, none⟩))) rfl (Or.inl ⟨rfl, fun W' _ => by go_simp <;> (intro h; omega)⟩) hq0 ?_
      simp only [ps]
      refine tLp 24 ((.pointer (some ⟨pb, po + k * 5 + 4, none⟩))) rfl hq0 ?_
      simp only [ps]
      refine tL 25 (_) rfl (yieldsIf_cell rfl 4 _ rfl ⟨pb, po + k * 5 + 4, none⟩ rfl (.bool p5) _ (fun W' hW' => (show W'.cell? ⟨pb, po + k * 5 + 4, none⟩ = _ from (HCELL.out W' hW' ⟨pb, po + k * 5 + 4, none⟩ rfl).trans (RS.out 4 _ rfl))) Tryz.underlying4 rfl) hq0 ?_
      simp only [ps]
      refine tL 26 ((.agg #[.int .u16 p1, .int .u32 p2, .bool p3, .bool p4, .bool p5])) rfl (yieldsIf_build rfl 73 _ rfl [(0, .int .u16 p1), (1, .int .u32 p2), (2, .bool p3), (3, .bool p4), (4, .bool p5)] rfl #[.int .u16 p1, .int .u32 p2, .bool p3, .bool p4, .bool p5] (bl_su _ _ _ _ _)) hq0 ?_
      simp only [ps]
      refine runL (i := 27) rfl rfl (by kernel_rfl) (fun K hK => ?_)
      refine wp_buildSlice 38 73 1 _ rfl #[.int .u16 p1, .int .u32 p2, .bool p3, .bool p4, .bool p5] i3 (.agg SUZ) Tryz.underlying38 I3.out.1 I3.out.2.1 (by rw [I3.out.2.2.1]; decide) (by rw [I3.out.2.2.1]; decide) (by rw [I3.out.2.2.1, Array.toList_map]; exact b1_su _ _ _ _ _) ?_
      have hy : Ext wd (wd.alloc (.cells #[.int .u16 p1, .int .u32 p2, .bool p3, .bool p4, .bool p5] 73)) := (Ext.refl _).alloc _
      have hnw := heap_alloc_new wd (.cells #[.int .u16 p1, .int .u32 p2, .bool p3, .bool p4, .bool p5] 73)
      obtain ⟨wn, hwa⟩ : ∃ W, wd.alloc (.cells #[.int .u16 p1, .int .u32 p2, .bool p3, .bool p4, .bool p5] 73) = W := ⟨_, rfl⟩
      obtain ⟨bn, hnb⟩ : ∃ m, wd.heap.size = m := ⟨_, rfl⟩
      rw [hwa] at hnw hy ⊢
      rw [hnb] at hnw ⊢
      clear hwa hnb
      have hxn : Ext wl wn := hqx.trans hy
      have hO2 := ownR_ext HO.out hxn
      have hbw : w.heap.size ≤ wn.heap.size := Nat.le_trans HBL.out hxn.size
      refine hK.out _ _ (hxn.mut _) (fun _ => ?_)
      try simp only [ps]
      clear hK K
      refine runL (i := 28) rfl rfl (by kernel_rfl) (fun K hK => ?_)
      refine oper_append_own_at _ _ 38 rfl w.heap.size 73 i3 (.agg SUZ) 5 12 Tryz.underlying38 I3.out.1 I3.out.2.1 I3.out.2.2.1 I3.out.2.2.2 rfl (by decide) (.slice a3 k c3) k ((P.take k).flatMap Pt.L) rfl hO2 ⟨bn, 0, none⟩ 1 1 [.int .u16 p1, .int .u32 p2, .bool p3, .bool p4, .bool p5] rfl rfl ?hnews (fun u hu => by
          have hu2 := hu
          simp only [List.mem_cons, List.not_mem_nil, or_false] at hu2
          rcases hu2 with rfl | rfl | rfl | rfl | rfl <;> rfl) (by unfold maxLen; omega) (by omega) hbw ?hfin
      case hnews => exact fun j u hu => World.news_of_block hnw j u (by simpa using hu)
      case hfin =>
      intro v6 wa ho6 hg6 hloc
      have hfr : Mut (fun g => Value.ownBlock (.slice a3 k c3) = some g) wl wa := (hxn.mut _).trans (grown_mut hg6)
      obtain ⟨a6, c6, rfl⟩ := own_form2 ho6
      have HO6 := Lib.hid (show wa.ownsRow w.heap.size 73 5 (.slice a6 (k + 1) c6) (k + 1) ((P.take (k + 1)).flatMap Pt.L) from by rw [HTK.out]; exact ho6)
      have HX6 := Lib.hid (show Ext w wa from HXL.out.mutE hfr (fun g h1 h2 => by have h3 := (own_lt2 HO.out h2).1; omega))
      refine hK.out _ _ hfr (fun _ => ?_)
      try simp only [ps]
      clear hK K
      refine tLp 29 ((.slice a6 (k + 1) c6)) rfl hfr ?_
      simp only [ps]
      clear hfr hloc ho6 hg6 hbw hO2 hxn hy hnw hq0 hqx
      refine wpAnyH_done (by kernel_rfl) ?_ _
      go_wp2_with fail
      go_roundw
      case rel => exact ⟨k + 1, _, _, rfl, rfl, by go_num, hlt, HO6.out, HX6.out⟩
      case measure => simp [intOf]; omega
    · have dlt : decide ((k : Int) < (n : Int)) = false := by simp; omega
      obtain rfl : n = k := by omega
      have hown := HO.out
      rw [List.take_of_length_le (by rw [HNN.out]; exact Nat.le_refl _)] at hown
      have HP := Lib.hid (show PtsAt wl (.slice a3 n c3) P from by
        have h2 := hown
        rw [← HNN.out] at h2 ⊢
        exact PtsAt.own h2 (by rw [HNN.out]; omega))
      clear hown
      go_wp2_with fail
      go_ret
      exact ⟨_, rfl, HP.out, HXL.out⟩
end Go.Proofs.YtpanapepcbbagaaGreat
namespace Go.Proofs.YtpanapepcbbagaaGreat
open Go.RowKit Go.BigFrame Go.WideShapes Go.ChangeShapes Go.Deep
set_option linter.unusedVariables false
set_option linter.unusedSimpArgs false
set_option maxRecDepth 100000
/-- A whole row is stored. -/
theorem wp_st_all {P : Program} {op : Oper} {a : Act} {w : World} {K : Act → World → Prop} {Q : Exit → Act → World → Prop} (hdst : op.dst = none) (ty : TypeId) (x y : Operand) (ho : op.op = .store ty x y)
    (g : Nat) (vs cs : Array Value) (t : TypeId) (hx : a.eval x = .pointer (some ⟨g, 0, none⟩)) (hy : a.eval y = .agg vs) (hX : w.heap[g]? = some (.cells cs t (0, 0))) (hn : vs.size = cs.size)
    (hi : (P.info? ty).map (·.size) = some cs.size) (h1 : vs.toList.all (·.oneCell') = true)
    (h : ∀ w', w'.heap[g]? = some (.cells vs t (0, 0)) → Mut (fun n => n = g) w w' → K a w') : op.wp P a w K Q :=
  wp_st_at hdst ty x y ho g 0 (.agg vs) vs cs vs t hx hy rfl hX (by omega) (by rw [hn]; exact hi) h1 (by
    rw [List.drop_eq_nil_of_le (by rw [Array.length_toList]; omega)]
    simp) h
theorem st_all {P : Program} {ops : Array Oper} {rest : List Oper} {op : Oper} {a : Act} {w : World} {Q : Exit → Act → World → Prop} (hgd : op.guard = none) (hdst : op.dst = none) (ty : TypeId) (x y : Operand) (ho : op.op = .store ty x y)
    (g : Nat) (vs cs : Array Value) (t : TypeId) (hx : a.eval x = .pointer (some ⟨g, 0, none⟩)) (hy : a.eval y = .agg vs) (hX : w.heap[g]? = some (.cells cs t (0, 0))) (hn : vs.size = cs.size)
    (hi : (P.info? ty).map (·.size) = some cs.size) (h1 : vs.toList.all (·.oneCell') = true)
    (h : ∀ w', w'.heap[g]? = some (.cells vs t (0, 0)) → Mut (fun n => n = g) w w' → wpList P ops Q rest a w') : wpList P ops Q (op :: rest) a w :=
  st_at hgd hdst ty x y ho g 0 (.agg vs) vs cs vs t hx hy rfl hX (by omega) (by rw [hn]; exact hi) h1 (by
    rw [List.drop_eq_nil_of_le (by rw [Array.length_toList]; omega)]
    simp) h
/-- No bridge. -/
def zB : Br := ⟨[.int .u64 0, .bool false, .int .i64 0, .int .i64 0, .int .i64 0, .int .i64 0, .int .i64 0, .int .u64 0, .int .u32 0, .int .u64 0, .int .u16 0, .int .u16 0, .int .i64 0, .int .i64 0, .int .i64 0, .int .i64 0, .int .i64 0], 0, [], 0, [], 0, []⟩
theorem zB_ok : zB.ok := ⟨typed_all (okl_ok (by kernel_rfl)), row0, row0, row0⟩
def pick (ok : Bool) (B : Br) : Br := if ok = true then B else zB
theorem pick_ok {ok : Bool} {B : Br} (h : B.ok) : (pick ok B).ok := by cases ok; exact zB_ok; exact h
theorem nil_row {w : World} {m : Nat} : IsRow w m (.slice none 0 0) 0 [] := ⟨by simp, .inl ⟨rfl, .inl rfl⟩⟩
theorem NewIs.br {w w' : World} {c : Array Value} {ok : Bool} {B : Br} (h : NewIs w w' c ok B) (h0 : B.no = 0 ∧ B.os = [] ∧ B.nf = 0 ∧ B.fl = []) : BrC w' c (pick ok B) := by
  obtain ⟨h1, h2, h3, h4⟩ := h0
  rcases h with ⟨rfl, u, rfl, hown⟩ | ⟨rfl, rfl⟩
  · exact ⟨u, .slice none 0 0, .slice none 0 0, rfl, own_row hown, by show IsRow w' 18 _ B.no B.os; rw [h1, h2]; exact nil_row, by show IsRow w' 1 _ B.nf B.fl; rw [h3, h4]; exact nil_row⟩
  · exact ⟨.slice none 0 0, .slice none 0 0, .slice none 0 0, rfl, nil_row, nil_row, nil_row⟩
theorem NewIs.sz {w w' : World} {c : Array Value} {ok rst : Bool} {id ta mx hl dl hold : Int} {P : List Pt} (h : NewIs w w' c ok (newA id rst ta mx hl dl hold P)) : c.size = 20 ∧ c.toList.all (·.oneCell') = true := by
  rcases h with ⟨rfl, u, rfl, hown⟩ | ⟨rfl, rfl⟩
  · obtain ⟨a, cp, rfl⟩ := own_form2 hown
    exact ⟨rfl, rfl⟩
  · exact ⟨rfl, rfl⟩
theorem NewIs.ext {w w' w'' : World} {c : Array Value} {ok : Bool} {B : Br} (h : NewIs w w' c ok B) (hx : Ext w' w'') : NewIs w w'' c ok B := by
  rcases h with ⟨h, u, h2, hown⟩ | h
  · exact .inl ⟨h, u, h2, ownR_ext hown hx⟩
  · exact .inr h
/-- A box is written, made ahead of New. -/
theorem NewIs.mut {w w' w'' : World} {c : Array Value} {ok : Bool} {B : Br} {X : Nat} (h : NewIs w w' c ok B) (hm : Mut (fun g => g = X) w' w'') (hX : X < w.heap.size) : NewIs w w'' c ok B := by
  rcases h with ⟨h, u, h2, hown⟩ | h
  · exact .inl ⟨h, u, h2, own_mut hown hm (fun g h1 h2 => by have h3 : g = X := h2; have h4 := (own_lt2 hown h1).1; omega)⟩
  · exact .inr h
end Go.Proofs.YtpanapepcbbagaaGreat
namespace Go.Proofs.YtpanapepcbbagaaGreat
open Go.RowKit Go.BigFrame Go.WideShapes Go.ChangeShapes Go.Deep
set_option linter.unusedVariables false
set_option linter.unusedSimpArgs false
set_option maxRecDepth 100000
def bs0 : Nat → Br
  | 0 => z0
  | 1 => z1
  | 2 => z1
  | 3 => z1
  | 4 => z1
  | 5 => z2
  | 6 => z2
  | 7 => z2
  | 8 => z3
  | _ => z3
def ds0 : Nat → Bool
  | 0 => true
  | 1 => false
  | 2 => false
  | 3 => false
  | 4 => true
  | 5 => false
  | 6 => false
  | 7 => true
  | _ => false
theorem round_0 {N X g : Nat} {w : World} (h : WB N X g z0 w) : Calls Tryz.prog 26 #[.pointer (some ⟨X, 0, none⟩)] w fun e w' => e = .returned (.int .i64 ((3 : Nat) : Int)) ∧ WB N X g z3 w' ∧ Mut (fun n => N ≤ n) w w' := by
  refine round_any bs0 ds0 w h z1_ok rfl (fun w h => c_sel_0 h) (fun j hj w h => ?_)
  rcases (by omega : j = 0 ∨ j = 1 ∨ j = 2 ∨ j = 3 ∨ j = 4 ∨ j = 5 ∨ j = 6 ∨ j = 7) with rfl | rfl | rfl | rfl | rfl | rfl | rfl | rfl
  · exact c_rx_1 h
  · exact c_mig_1 h
  · exact c_edge_1 h
  · exact c_info_1 h
  · exact c_trans_2 h
  · exact c_passage_2 h
  · exact c_topo_2 h
  · exact c_tx_3 h
def bs1 : Nat → Br
  | 0 => z3
  | 1 => z4
  | 2 => z4
  | 3 => z4
  | 4 => z4
  | 5 => z5
  | 6 => z6
  | 7 => z6
  | 8 => z6
  | _ => z7
def ds1 : Nat → Bool
  | 0 => true
  | 1 => false
  | 2 => false
  | 3 => false
  | 4 => true
  | 5 => true
  | 6 => false
  | 7 => false
  | _ => true
theorem round_1 {N X g : Nat} {w : World} (h : WB N X g z3 w) : Calls Tryz.prog 26 #[.pointer (some ⟨X, 0, none⟩)] w fun e w' => e = .returned (.int .i64 ((4 : Nat) : Int)) ∧ WB N X g z7 w' ∧ Mut (fun n => N ≤ n) w w' := by
  refine round_any bs1 ds1 w h z4_ok rfl (fun w h => c_sel_3 h) (fun j hj w h => ?_)
  rcases (by omega : j = 0 ∨ j = 1 ∨ j = 2 ∨ j = 3 ∨ j = 4 ∨ j = 5 ∨ j = 6 ∨ j = 7) with rfl | rfl | rfl | rfl | rfl | rfl | rfl | rfl
  · exact c_rx_4 h
  · exact c_mig_4 h
  · exact c_edge_4 h
  · exact c_info_4 h
  · exact c_trans_5 h
  · exact c_passage_6 h
  · exact c_topo_6 h
  · exact c_tx_6 h
def bs2 : Nat → Br
  | 0 => z7
  | 1 => z7
  | 2 => z7
  | 3 => z7
  | 4 => z7
  | 5 => z7
  | 6 => z8
  | 7 => z8
  | 8 => z8
  | _ => z8
def ds2 : Nat → Bool
  | 0 => false
  | 1 => false
  | 2 => false
  | 3 => false
  | 4 => false
  | 5 => true
  | 6 => false
  | 7 => false
  | _ => false
theorem round_2 {N X g : Nat} {w : World} (h : WB N X g z7 w) : Calls Tryz.prog 26 #[.pointer (some ⟨X, 0, none⟩)] w fun e w' => e = .returned (.int .i64 ((1 : Nat) : Int)) ∧ WB N X g z8 w' ∧ Mut (fun n => N ≤ n) w w' := by
  refine round_any bs2 ds2 w h z7_ok rfl (fun w h => c_sel_7 h) (fun j hj w h => ?_)
  rcases (by omega : j = 0 ∨ j = 1 ∨ j = 2 ∨ j = 3 ∨ j = 4 ∨ j = 5 ∨ j = 6 ∨ j = 7) with rfl | rfl | rfl | rfl | rfl | rfl | rfl | rfl
  · exact c_rx_7 h
  · exact c_mig_7 h
  · exact c_edge_7 h
  · exact c_info_7 h
  · exact c_trans_7 h
  · exact c_passage_8 h
  · exact c_topo_8 h
  · exact c_tx_8 h
def bs3 : Nat → Br
  | 0 => z8
  | 1 => z8
  | 2 => z8
  | 3 => z8
  | 4 => z8
  | 5 => z8
  | 6 => z9
  | 7 => z9
  | 8 => z9
  | _ => z9
def ds3 : Nat → Bool
  | 0 => false
  | 1 => false
  | 2 => false
  | 3 => false
  | 4 => false
  | 5 => true
  | 6 => false
  | 7 => false
  | _ => false
theorem round_3 {N X g : Nat} {w : World} (h : WB N X g z8 w) : Calls Tryz.prog 26 #[.pointer (some ⟨X, 0, none⟩)] w fun e w' => e = .returned (.int .i64 ((1 : Nat) : Int)) ∧ WB N X g z9 w' ∧ Mut (fun n => N ≤ n) w w' := by
  refine round_any bs3 ds3 w h z8_ok rfl (fun w h => c_sel_8 h) (fun j hj w h => ?_)
  rcases (by omega : j = 0 ∨ j = 1 ∨ j = 2 ∨ j = 3 ∨ j = 4 ∨ j = 5 ∨ j = 6 ∨ j = 7) with rfl | rfl | rfl | rfl | rfl | rfl | rfl | rfl
  · exact c_rx_8 h
  · exact c_mig_8 h
  · exact c_edge_8 h
  · exact c_info_8 h
  · exact c_trans_8 h
  · exact c_passage_9 h
  · exact c_topo_9 h
  · exact c_tx_9 h
def bs4 : Nat → Br
  | 0 => z9
  | 1 => z9
  | 2 => z9
  | 3 => z9
  | 4 => z9
  | 5 => z9
  | 6 => z10
  | 7 => z11
  | 8 => z12
  | _ => z12
def ds4 : Nat → Bool
  | 0 => false
  | 1 => false
  | 2 => false
  | 3 => false
  | 4 => false
  | 5 => true
  | 6 => true
  | 7 => true
  | _ => false
theorem round_4 {N X g : Nat} {w : World} (h : WB N X g z9 w) : Calls Tryz.prog 26 #[.pointer (some ⟨X, 0, none⟩)] w fun e w' => e = .returned (.int .i64 ((3 : Nat) : Int)) ∧ WB N X g z12 w' ∧ Mut (fun n => N ≤ n) w w' := by
  refine round_any bs4 ds4 w h z9_ok rfl (fun w h => c_sel_9 h) (fun j hj w h => ?_)
  rcases (by omega : j = 0 ∨ j = 1 ∨ j = 2 ∨ j = 3 ∨ j = 4 ∨ j = 5 ∨ j = 6 ∨ j = 7) with rfl | rfl | rfl | rfl | rfl | rfl | rfl | rfl
  · exact c_rx_9 h
  · exact c_mig_9 h
  · exact c_edge_9 h
  · exact c_info_9 h
  · exact c_trans_9 h
  · exact c_passage_10 h
  · exact c_topo_11 h
  · exact c_tx_12 h
def bs5 : Nat → Br
  | 0 => z12
  | 1 => z12
  | 2 => z12
  | 3 => z12
  | 4 => z12
  | 5 => z12
  | 6 => z13
  | 7 => z14
  | 8 => z14
  | _ => z14
def ds5 : Nat → Bool
  | 0 => false
  | 1 => false
  | 2 => false
  | 3 => false
  | 4 => false
  | 5 => true
  | 6 => true
  | 7 => false
  | _ => false
theorem round_5 {N X g : Nat} {w : World} (h : WB N X g z12 w) : Calls Tryz.prog 26 #[.pointer (some ⟨X, 0, none⟩)] w fun e w' => e = .returned (.int .i64 ((2 : Nat) : Int)) ∧ WB N X g z14 w' ∧ Mut (fun n => N ≤ n) w w' := by
  refine round_any bs5 ds5 w h z12_ok rfl (fun w h => c_sel_12 h) (fun j hj w h => ?_)
  rcases (by omega : j = 0 ∨ j = 1 ∨ j = 2 ∨ j = 3 ∨ j = 4 ∨ j = 5 ∨ j = 6 ∨ j = 7) with rfl | rfl | rfl | rfl | rfl | rfl | rfl | rfl
  · exact c_rx_12 h
  · exact c_mig_12 h
  · exact c_edge_12 h
  · exact c_info_12 h
  · exact c_trans_12 h
  · exact c_passage_13 h
  · exact c_topo_14 h
  · exact c_tx_14 h
def bs6 : Nat → Br
  | 0 => z14
  | 1 => z14
  | 2 => z14
  | 3 => z14
  | 4 => z14
  | 5 => z14
  | 6 => z14
  | 7 => z14
  | 8 => z14
  | _ => z14
def ds6 : Nat → Bool
  | 0 => false
  | 1 => false
  | 2 => false
  | 3 => false
  | 4 => false
  | 5 => false
  | 6 => false
  | 7 => false
  | _ => false
theorem round_6 {N X g : Nat} {w : World} (h : WB N X g z14 w) : Calls Tryz.prog 26 #[.pointer (some ⟨X, 0, none⟩)] w fun e w' => e = .returned (.int .i64 ((0 : Nat) : Int)) ∧ WB N X g z14 w' ∧ Mut (fun n => N ≤ n) w w' := by
  refine round_any bs6 ds6 w h z14_ok rfl (fun w h => c_sel_14 h) (fun j hj w h => ?_)
  rcases (by omega : j = 0 ∨ j = 1 ∨ j = 2 ∨ j = 3 ∨ j = 4 ∨ j = 5 ∨ j = 6 ∨ j = 7) with rfl | rfl | rfl | rfl | rfl | rfl | rfl | rfl
  · exact c_rx_14 h
  · exact c_mig_14 h
  · exact c_edge_14 h
  · exact c_info_14 h
  · exact c_trans_14 h
  · exact c_passage_14 h
  · exact c_topo_14 h
  · exact c_tx_14 h
def zs : Nat → Br
  | 0 => z0
  | 1 => z3
  | 2 => z7
  | 3 => z8
  | 4 => z9
  | 5 => z12
  | 6 => z14
  | _ => z14
def ns : Nat → Nat
  | 0 => 3
  | 1 => 4
  | 2 => 1
  | 3 => 1
  | 4 => 3
  | 5 => 2
  | _ => 0
theorem run_1 {N X g : Nat} {w : World} (h : WB N X g z0 w) : Calls Tryz.prog 17 #[.pointer (some ⟨X, 0, none⟩)] w fun e w' => ∃ k : Nat, e = .returned (.tuple #[.int .i64 (k : Int), .bool true]) ∧ WB N X g z14 w' ∧ Mut (fun n => N ≤ n) w w' := by
  refine run_any zs ns 6 (by decide) w h (fun r => by unfold ns; split <;> decide) (fun r hr w h => ?_) (fun r hr => ?_) rfl
  · rcases (by omega : r = 0 ∨ r = 1 ∨ r = 2 ∨ r = 3 ∨ r = 4 ∨ r = 5 ∨ r = 6) with rfl | rfl | rfl | rfl | rfl | rfl | rfl
    · exact round_0 h
    · exact round_1 h
    · exact round_2 h
    · exact round_3 h
    · exact round_4 h
    · exact round_5 h
    · exact round_6 h
  · rcases (by omega : r = 0 ∨ r = 1 ∨ r = 2 ∨ r = 3 ∨ r = 4 ∨ r = 5) with rfl | rfl | rfl | rfl | rfl | rfl <;> decide
theorem port_0 {N X g : Nat} {w : World} {B : Br} (h : WB N X g B w) (ho : B.ok) (hn : B.np = 1) : Calls Tryz.prog 27 #[.pointer (some ⟨X, 0, none⟩), .int .i64 0] w fun e w' => e = .returned (.pointer (some ⟨g, 0, none⟩)) ∧ w = w' := by
  obtain ⟨cap, c17, hc1, hc2⟩ := BrG.cell17 h ho
  rw [hn] at c17 hc1
  go_enter Tryz.func27, Tryz.ntmps27
  go_wp2_with fail
  go_ret
  exact ⟨rfl, rfl⟩
/-- The bridge ahead of that its port is raised. -/
def zd : Br := z0.setp 0 2 (.bool false)
theorem zd_ok : zd.ok := z0_ok.setp (k := 0) (j := 2) (by decide) (by decide) (fun c hc => by cases hc; exact ⟨_, rfl⟩)
theorem zd_up : zd.setp 0 2 (.bool true) = z0 := by kernel_rfl
theorem enable_1 {N X g : Nat} {w : World} (h : WB N X g zd w) : Calls Tryz.prog 18 #[.pointer (some ⟨X, 0, none⟩), .int .i64 0, .bool true] w (St N X g w true z0) := by
  have c2 : w.cell? ⟨g, 2, none⟩ = some (.bool false) := (BrG.cellg h (i := 2) (by decide)).trans rfl
  have f2 : w.frozen? ⟨g, 2, none⟩ = false := BrG.frozen h 2
  have HP := Lib.hid (port_0 h zd_ok rfl)
  have H := Lib.hid h
  clear h
  go_enter Tryz.func18, Tryz.ntmps18
  go_wp2_with fail
  refine HP.out.mono ?_
  rintro e w' ⟨rfl, rfl⟩
  clear HP
  go_wp2_with fail
  go_ret
  have h1 := BrG.setp H.out (k := 0) (j := 2) (by decide) (by decide) (.bool true)
  rw [zd_up] at h1
  exact ⟨rfl, h1.mono (fun n hn => by simpa using hn), (Mut.refl _ w).setCell (.inl (BrG.F2 H.out).1) _⟩
def TmW : Array Value := #[.int .i64 0, .int .i64 20, .int .i64 2, .int .i64 15]
def TmZ : Array Value := #[.int .i64 0, .int .i64 0, .int .i64 0, .int .i64 0]
theorem bl_tw : Tryz.prog.built 24 [(1, .int .i64 20), (2, .int .i64 2), (3, .int .i64 15)] = some TmW := by kernel_rfl
theorem zero_tw : ∀ w, (zeroValue 24).run Tryz.prog w = .ok (.agg TmZ) w := (zero_of_info (P := Tryz.prog) (t := 24) (v := .agg TmZ) (n := 4) (by kernel_rfl)).1
theorem bl_s1 : Tryz.prog.built 73 [(0, .int .u16 1), (1, .int .u32 5), (3, .bool true)] = some #[.int .u16 1, .int .u32 5, .bool false, .bool true, .bool false] := by kernel_rfl
theorem new_1 : newA 7 true 0 20 2 15 6 [⟨1, 5, false, true, false⟩] = zd := by kernel_rfl
theorem right_1 {P : List Pt} (h : P.length ≤ 32) : RightP (newA 7 true 0 20 2 15 6 P) := (newB_right (id := 7) (hold := 6) (rst := true) (P := P) h).2 (by omega)
theorem at_slc {P : Program} {ops : Array Oper} {rest : List Oper} {a : Act} {w : World} {Q : Exit → Act → World → Prop} (T : TypeId) {d : Option Tmp} {n : Nat} {x : Array (Nat × Operand)} {ty : TypeId} {pos : String} {af : Array Edge}
    (h : wpList P ops Q ({ dst := d, op := .buildSlice T n x, type := ty, pos := pos, after := af, guard := none } :: rest) a w) : wpList P ops Q ({ dst := d, op := .buildSlice T n x, type := ty, pos := pos, after := af, guard := none } :: rest) a w := h
/-- What New left, in a box: a bridge as the machines want it. -/
theorem wb_new {w : World} {N X base : Nat} {u : Value} {B : Br} (hX : w.heap[X]? = some (.cells (B.hd ++ [u, .slice none 0 0, .slice none 0 0]).toArray 35 (0, 0))) (ho : w.ownsRow base 60 89 u B.np B.ps) (hp : 0 < B.np) (hb : N ≤ base) (hNX : N ≤ X) (h0 : B.no = 0 ∧ B.os = [] ∧ B.nf = 0 ∧ B.fl = []) : ∃ g, WB N X g B w := by
  obtain ⟨h1, h2, h3, h4⟩ := h0
  rcases ho.2 with ⟨e, e2⟩ | ⟨g, cap, cur, rfl, hb2, hg, hn2, hm, hs, ht⟩
  · omega
  · refine ⟨g, ⟨hNX, heap_lt hX⟩, ⟨by omega, heap_lt hg⟩, cap, cur, _, _, hX, hg, hs, hn2, hm, ht, ?_, ?_, fun h hh => (by cases hh), fun h hh => (by cases hh)⟩
    · rw [h1, h2]; exact ⟨by simp, .inl ⟨rfl, rfl⟩⟩
    · rw [h3, h4]; exact ⟨by simp, .inl ⟨rfl, rfl⟩⟩
set_option maxHeartbeats 4000000 in
theorem awake_any (w : World) : Calls Tryz.prog 10 #[] w fun e w' => e = .returned (.bool true) ∧ Ext w w' := by
  obtain ⟨i3, hi9, hz9, hs9, hb9⟩ := info_parts info_su
  have I3 := Lib.hid (And.intro hi9 (And.intro hz9 (And.intro hs9 hb9)))
  clear hi9 hz9 hs9 hb9
  go_enter Tryz.func10, Tryz.ntmps10
  go_wp2_with (first
    | fail
    | ((with_reducible refine at_build 24 ?_); refine wpList_build2 rfl 24 _ rfl _ rfl _ bl_tw ?_)
    | ((with_reducible refine at_alloc 24 ?_); refine al_zero rfl 24 rfl TmZ zero_tw ?_
       intro Y w1 hq hsz hx)
    | ((with_reducible refine at_store 24 ?_); refine st_at rfl rfl 24 _ _ rfl Y 0 _ TmW TmZ TmW 24 rfl rfl rfl hq (by exact (by decide : 0 + 4 ≤ 4)) (by kernel_rfl) rfl rfl ?_
       intro w2 hq2 hm2
       have HY := Lib.hid hq2
       have HX := Lib.hid (show Ext w w2 from hx.mutE hm2 (fun g hg h => by have h2 : g = Y := h; omega))
       clear hq hsz hx hq2 hm2 w1)
    | ((with_reducible refine at_load 24 ?_); refine wpList_load_row rfl 24 _ rfl Y rfl 24 TmW (0, 0) _ HY.out Tryz.underlying24 rfl size_tm ?_))
  refine (newbr_gen 7 0 20 2 15 6 true (.slice none 0 0) [] w2 ⟨none, 0, rfl, by decide, fun h => absurd h (by decide)⟩ (by decide) (by decide) (by decide) (fun p hp => by cases hp) rfl rfl rfl rfl).mono ?_
  rintro e w3 ⟨c, ok, rfl, hok, hnew, hx3⟩
  obtain rfl : ok = true := hok.2 (right_1 (by decide))
  rcases hnew with ⟨-, u, rfl, hown⟩ | ⟨h, -⟩
  case inr => cases h
  obtain ⟨a, cp, rfl⟩ := own_form2 hown
  have HY3 := Lib.hid ((hx3.block Y (heap_lt HY.out)).trans HY.out)
  have HX3 := Lib.hid (HX.out.trans hx3)
  clear hok hown hx3 HX HY
  go_wp2_with (first
    | fail
    | ((with_reducible refine at_alloc 35 ?_); refine al_zero rfl 35 rfl BrZ zero_br ?_
       intro X w4 hq hsz hx)
    | ((with_reducible refine at_store 35 ?_); refine st_at rfl rfl 35 _ _ rfl X 0 _ #[.int .u64 7, .bool true, .int .i64 0, .int .i64 20, .int .i64 2, .int .i64 15, .int .i64 6, .int .u64 7, .int .u32 0, .int .u64 7, .int .u16 0, .int .u16 0, .int .i64 (-1), .int .i64 0, .int .i64 20, .int .i64 2, .int .i64 15, .slice a 0 cp, .slice none 0 0, .slice none 0 0] BrZ #[.int .u64 7, .bool true, .int .i64 0, .int .i64 20, .int .i64 2, .int .i64 15, .int .i64 6, .int .u64 7, .int .u32 0, .int .u64 7, .int .u16 0, .int .u16 0, .int .i64 (-1), .int .i64 0, .int .i64 20, .int .i64 2, .int .i64 15, .slice a 0 cp, .slice none 0 0, .slice none 0 0] 35 rfl rfl rfl hq (by exact (by decide : 0 + 20 ≤ 20)) (by kernel_rfl) rfl rfl ?_
       intro w5 hq5 hm5
       have c17 : w5.cell? ⟨X, 17, none⟩ = some (.slice a 0 cp) := by rw [cell_row hq5]; rfl
       have hx5 : Ext w3 w5 := hx.mutE hm5 (fun g hg h => by have h2 : g = X := h; omega)
       have HY5 := Lib.hid ((hx5.block Y (heap_lt HY3.out)).trans HY3.out)
       have HX5 := Lib.hid (HX3.out.trans hx5)
       clear hq hsz hx hq5 hm5 hx5 HY3 HX3 w4))
  refine (none_run w5 X c17).mono ?_
  rintro e w' ⟨rfl, rfl⟩
  clear c17
  go_wp2_with (first
    | fail
    | ((with_reducible refine at_load 24 ?_); refine wpList_load_row rfl 24 _ rfl Y rfl 24 TmW (0, 0) _ HY5.out Tryz.underlying24 rfl size_tm ?_)
    | ((with_reducible refine at_build 73 ?_); refine wpList_build2 rfl 73 _ rfl _ rfl _ bl_s1 ?_)
    | ((with_reducible refine at_slc 38 ?_); refine wpList_buildSlice rfl 38 73 1 _ rfl #[.int .u16 1, .int .u32 5, .bool false, .bool true, .bool false] i3 (.agg SUZ) Tryz.underlying38 I3.out.1 I3.out.2.1 (by rw [I3.out.2.2.1]; decide) (by rw [I3.out.2.2.1]; decide) (by rw [I3.out.2.2.1, Array.toList_map]; exact b1_su _ _ _ _ _) ?_
       have hq6 := heap_alloc_new w5 (.cells #[.int .u16 1, .int .u32 5, .bool false, .bool true, .bool false] 73)
       have hx6 : Ext w5 (w5.alloc (.cells #[.int .u16 1, .int .u32 5, .bool false, .bool true, .bool false] 73)) := (Ext.refl _).alloc _
       obtain ⟨V, hV⟩ : ∃ Z, w5.heap.size = Z := ⟨_, rfl⟩
       rw [hV] at hq6 ⊢
       obtain ⟨w6, hw6⟩ : ∃ W, w5.alloc (.cells #[.int .u16 1, .int .u32 5, .bool false, .bool true, .bool false] 73) = W := ⟨_, rfl⟩
       rw [hw6] at hq6 hx6 ⊢
       have HX6 := Lib.hid (HX5.out.trans hx6)
       have HQ6 := Lib.hid hq6
       clear hw6 hV hx6 hq6 HX5 HY5))
  refine (newbr_gen 7 0 20 2 15 6 true (.slice (some ⟨V, 0, none⟩) 1 1) [⟨1, 5, false, true, false⟩] w6 ⟨_, 1, rfl, by decide, fun _ => ⟨V, 0, rfl, heap_lt HQ6.out, by decide, by decide, fun i hi => ?hr⟩⟩ (by decide) (by decide) (by decide) (fun p hp => by
    obtain rfl : p = ⟨1, 5, false, true, false⟩ := by simpa using hp
    exact ⟨by decide, by decide, by decide⟩) rfl rfl rfl rfl).mono ?_
  case hr =>
    obtain rfl : i = 0 := by have h1 : i < 1 := hi; omega
    intro j v hv
    rw [show (0 + 0 * 5 + j) = j from by omega, cell_row HQ6.out, List.getElem?_toArray]
    exact hv
  rintro e w7 ⟨c, ok, rfl, hok, hnew, hx7⟩
  obtain rfl : ok = true := hok.2 (right_1 (by decide))
  have HSZ := Lib.hid hnew.sz
  rcases hnew with ⟨-, u, hc, hown⟩ | ⟨h, -⟩
  case inr => cases h
  rw [new_1] at hown hc
  have HC := Lib.hid hc
  have HO7 := Lib.hid hown
  have HX7 := Lib.hid hx7
  clear hok hown hx7 HQ6 hc
  go_wp2_with (first
    | fail
    | ((with_reducible refine at_alloc 35 ?_); refine al_zero rfl 35 rfl BrZ zero_br ?_
       intro X w8 hq hsz hx)
    | ((with_reducible refine at_store 35 ?_); refine st_all rfl rfl 35 _ _ rfl X c BrZ 35 rfl rfl hq HSZ.out.1 size_brg HSZ.out.2 ?_
       intro w9 hq9 hm9
       have HQ9 := Lib.hid hq9
       have HO9 := Lib.hid (own_mut (ownR_ext HO7.out hx) hm9 (fun g h1 h2 => by have h3 : g = X := h2; have h4 := (own_lt2 HO7.out h1).2; omega))
       have HX9 := Lib.hid (show Ext w6 w9 from HX7.out.trans (hx.mutE hm9 (fun g hg h => by have h2 : g = X := h; omega)))
       have HXN := Lib.hid (show w6.heap.size ≤ X from by have := HX7.out.size; omega)
       clear hq hsz hx hq9 hm9 HO7 HX7))
  obtain ⟨g, hB⟩ := wb_new (N := w6.heap.size) (B := zd) (HC.out ▸ HQ9.out) HO9.out (by decide) (Nat.le_refl _) HXN.out ⟨rfl, rfl, rfl, rfl⟩
  clear HQ9 HO9 HXN HC HSZ
  obtain ⟨N, hN⟩ : ∃ N, w6.heap.size = N := ⟨_, rfl⟩
  rw [hN] at hB
  refine (enable_1 hB).mono ?_
  rintro e w10 ⟨rfl, hB10, hm10⟩
  clear hB
  go_wp2_with fail
  refine (run_1 hB10).mono ?_
  rintro e w11 ⟨k, rfl, hB11, hm11⟩
  obtain ⟨cap, c17, hc1, hc2⟩ := BrG.cell17 hB11 z14_ok
  rw [show (z14).np = 1 from rfl] at c17 hc1
  have c87 : w11.cell? ⟨g, 87, none⟩ = some (.int .i64 4) := (BrG.cellg hB11 (i := 87) (by decide)).trans rfl
  have c27 : w11.cell? ⟨g, 27, none⟩ = some (.bool true) := (BrG.cellg hB11 (i := 27) (by decide)).trans rfl
  have HE := Lib.hid (show Ext w w11 from (HX6.out.trans HX9.out).mutE (hm10.trans hm11) (fun j hj h => by have h2 : N ≤ j := h; have h3 := HX6.out.size; omega))
  clear hB10 hB11 hm10 hm11
  go_wp2_with fail
  go_ret
  exact ⟨rfl, HE.out⟩
end Go.Proofs.YtpanapepcbbagaaGreat
