/- Part 19 of what BridgeNew stands on. No statement is proved here. -/
import Derived.BigQuiet
import Derived.ChangeSame
import Derived.Deep.Draws
import Derived.Deep.Fields
import Derived.Deep.MidRow
import Derived.Deep.Slices
import Derived.Laws.AppendOwn
import Derived.Laws.StructEq
import Derived.Lib.Hide
import Derived.LoopN
import Derived.OpenShut
import Derived.ProofKit
import Derived.WalkKit
import Derived.WideKeyArgs
import Derived.Test.YtpanapepcbbagaaGreatBwr
namespace Go.Proofs.YtpanapepcbbagaaGreat
open Go.RowKit Go.BigFrame Go.WideShapes Go.ChangeShapes Go.Deep
set_option linter.unusedVariables false
set_option linter.unusedSimpArgs false
set_option maxRecDepth 100000
/-- A store of one cell into a row. -/
theorem st_set {P : Program} {ops : Array Oper} {rest : List Oper} {op : Oper} {a : Act} {w : World} {Q : Exit → Act → World → Prop} (hgd : op.guard = none) (hdst : op.dst = none) (ty : TypeId) (x y : Operand) (ho : op.op = .store ty x y)
    (g o : Nat) (u : Value) (cs : Array Value) (t : TypeId) (hx : a.eval x = .pointer (some ⟨g, o, none⟩)) (hy : a.eval y = u) (hX : w.heap[g]? = some (.cells cs t (0, 0))) (hl : Nat.ble (o + 1) cs.size = true) (hv : u.cells = #[u])
    (hi : (P.info? ty).map (·.size) = some 1) (h1 : u.oneCell' = true) (h : ∀ w', w'.heap[g]? = some (.cells (cs.setIfInBounds o u) t (0, 0)) → Mut (fun n => n = g) w w' → wpList P ops Q rest a w') : wpList P ops Q (op :: rest) a w := by
  have hl2 : o + 1 ≤ cs.size := Nat.le_of_ble_eq_true hl
  refine st_at hgd hdst ty x y ho g o u #[u] cs (cs.setIfInBounds o u) t hx hy hv hX hl2 (by simpa using hi) (by simpa using h1) ?_ h
  apply Array.ext'
  simp only [Array.toList_setIfInBounds, List.size_toArray, List.length_cons, List.length_nil]
  rw [List.set_eq_take_append_cons_drop, if_pos (by rw [Array.length_toList]; exact hl2)]
  simp
theorem at_bs {P : Program} {ops : Array Oper} {rest : List Oper} {a : Act} {w : World} {Q : Exit → Act → World → Prop} (T : TypeId) {d : Option Tmp} {n : Nat} {x : Array (Nat × Operand)} {ty : TypeId} {pos : String} {af : Array Edge}
    (h : wpList P ops Q ({ dst := d, op := .buildSlice T n x, type := ty, pos := pos, after := af, guard := none } :: rest) a w) : wpList P ops Q ({ dst := d, op := .buildSlice T n x, type := ty, pos := pos, after := af, guard := none } :: rest) a w := h
theorem bl_p0 (a b : Int) (x y z : Bool) : Tryz.prog.built 60 [(0, .int .u16 a), (1, .int .u32 b), (3, .bool x), (4, .bool y), (5, .bool z)] = some (((((PortZ.setIfInBounds 0 (.int .u16 a)).setIfInBounds 1 (.int .u32 b)).setIfInBounds 3 (.bool x)).setIfInBounds 4 (.bool y)).setIfInBounds 5 (.bool z)) := by kernel_rfl
/-- The cells that it begins with. -/
def q0 (a b : Int) (x y z : Bool) : Array Value := ((((PortZ.setIfInBounds 0 (.int .u16 a)).setIfInBounds 1 (.int .u32 b)).setIfInBounds 3 (.bool x)).setIfInBounds 4 (.bool y)).setIfInBounds 5 (.bool z)
set_option maxHeartbeats 8000000 in
theorem docbr_any (id ta mx hl dl hold : Int) (rst : Bool) (pv : Value) (P : List Pt) (w : World) (hP : PtsAt w pv P) (hn : P.length ≤ 40) (hi : 0 ≤ id ∧ id < 18446744073709551616) (ho : -9223372036854775808 ≤ hold ∧ hold < 9223372036854775808) (hpr : ∀ p ∈ P, PtR p) (hta : (Lit.int .i64 ta).wf = true) (hmx : (Lit.int .i64 mx).wf = true) (hhl : (Lit.int .i64 hl).wf = true) (hdl : (Lit.int .i64 dl).wf = true) :
    Calls Tryz.prog 13 #[.int .u64 id, .bool rst, .agg #[.int .i64 ta, .int .i64 mx, .int .i64 hl, .int .i64 dl], .int .i64 hold, pv] w fun e w' => ∃ (c : Array Value) (ok : Bool), e = .returned (.tuple #[.agg c, .bool ok]) ∧ (ok = true ↔ RightP (newA id rst ta mx hl dl hold P)) ∧ NewIs w w' c ok (newA id rst ta mx hl dl hold P) ∧ Ext w w' := by
  have HI := Lib.hid hi
  have HHO := Lib.hid ho
  have HPR := Lib.hid hpr
  have HT := Lib.hid (And.intro hta (And.intro hmx (And.intro hhl hdl)))
  obtain ⟨pa, pcap, hpe, hpm, hpf⟩ := hP
  obtain ⟨n, hn0⟩ : ∃ m, P.length = m := ⟨_, rfl⟩
  rw [hn0] at hpe hpm hpf hn
  subst hpe
  have HPF := Lib.hid (show 0 < n → ∃ b off, pa = some ⟨b, off, none⟩ ∧ b < w.heap.size ∧ n ≤ pcap ∧ pcap ≤ 9223372036854775807 ∧ ∀ i, i < n → w.rangeAt b (off + i * 5) (P.getD i default).L from hpf)
  have HNN := Lib.hid hn0
  obtain ⟨i9, hi9, hz9, hs9, hb9⟩ := info_parts info_po
  have I9 := Lib.hid (And.intro hi9 (And.intro hz9 (And.intro hs9 hb9)))
  clear hi9 hz9 hs9 hb9 hta hmx hhl hdl hi ho hpr hpf hn0 hpm
  go_enter Tryz.func13, Tryz.ntmps13
  go_wp2_with (first
    | fail
    | ((with_reducible refine at_box 24 ?_); refine bx_row rfl 24 _ rfl #[.int .i64 ta, .int .i64 mx, .int .i64 hl, .int .i64 dl] rfl ?_
       intro Y wa hX hsz hx1
       have HYa := Lib.hid hX
       have HEa := Lib.hid hx1
       clear hX hsz hx1)
    | ((with_reducible refine at_alloc 35 ?_); have h0 := HEa.out; refine al_zero rfl 35 rfl BrZ zero_br ?_
       intro RB w1 hq hsz hx
       have HRB := Lib.hid hq
       have HE1 := Lib.hid (HEa.out.trans hx)
       have HRW := Lib.hid (show w.heap.size ≤ RB from by have := HEa.out.size; omega)
       have HY1 := Lib.hid ((hx.block Y (heap_lt HYa.out)).trans HYa.out)
       clear hq hsz hx h0 HEa HYa)
    | ((with_reducible refine at_load 24 ?_); refine wpList_load_row rfl 24 _ rfl Y rfl 24 #[.int .i64 ta, .int .i64 mx, .int .i64 hl, .int .i64 dl] (0, 0) _ HY1.out Tryz.underlying24 rfl size_tm ?_)
    | ((with_reducible refine at_build 30 ?_); refine wpList_build2 rfl 30 _ rfl _ rfl _ (bl_ve id) ?_)
    | ((with_reducible refine at_build 35 ?_); refine wpList_build2 rfl 35 _ rfl _ rfl _ (bl_br _ _ _ _ _ _ _) ?_)
    | ((with_reducible refine at_alloc 35 ?_); have h0 := HE1.out; refine al_zero rfl 35 rfl BrZ zero_br ?_
       intro BB wb hqb hszb hxb)
    | ((with_reducible refine at_store 35 ?_); refine st_at rfl rfl 35 _ _ rfl BB 0 _ #[.int .u64 id, .bool rst, .int .i64 ta, .int .i64 mx, .int .i64 hl, .int .i64 dl, .int .i64 hold, .int .u64 id, .int .u32 0, .int .u64 id, .int .u16 0, .int .u16 0, .int .i64 (-1), .int .i64 ta, .int .i64 mx, .int .i64 hl, .int .i64 dl, .slice none 0 0, .slice none 0 0, .slice none 0 0] BrZ #[.int .u64 id, .bool rst, .int .i64 ta, .int .i64 mx, .int .i64 hl, .int .i64 dl, .int .i64 hold, .int .u64 id, .int .u32 0, .int .u64 id, .int .u16 0, .int .u16 0, .int .i64 (-1), .int .i64 ta, .int .i64 mx, .int .i64 hl, .int .i64 dl, .slice none 0 0, .slice none 0 0, .slice none 0 0] 35 rfl rfl rfl hqb (by exact (by decide : 0 + 20 ≤ 20)) (by kernel_rfl) rfl rfl ?_
       intro w2 hbb hmb
       have HBB := Lib.hid hbb
       have HX2 := Lib.hid (show Ext w1 w2 from hxb.mutE hmb (fun g hg h => by have h2 : g = BB := h; omega))
       have HBW := Lib.hid (show w1.heap.size ≤ BB from Nat.le_of_eq hszb)
       clear hqb hszb hxb hmb hbb h0 wb))
  obtain ⟨B, hB⟩ : ∃ B, w2.heap.size = B := ⟨_, rfl⟩
  have HB0 := Lib.hid (Nat.le_of_eq hB.symm)
  have HB1 := Lib.hid (show w1.heap.size ≤ B from by rw [← hB]; exact HX2.out.size)
  have HBBB := Lib.hid (show BB < B from by rw [← hB]; exact heap_lt HBB.out)
  have HYB := Lib.hid (show Y < w1.heap.size from heap_lt HY1.out)
  clear hB
  go_loopw [13] (fun s wr => ∃ (k : Nat) (u : Value) (wo : World), wo = wr ∧ s = .int .i64 k ∧ k ≤ n ∧ wo.heap[BB]? = some (.cells #[.int .u64 id, .bool rst, .int .i64 ta, .int .i64 mx, .int .i64 hl, .int .i64 dl, .int .i64 hold, .int .u64 id, .int .u32 0, .int .u64 id, .int .u16 0, .int .u16 0, .int .i64 (-1), .int .i64 ta, .int .i64 mx, .int .i64 hl, .int .i64 dl, u, .slice none 0 0, .slice none 0 0] 35 (0, 0)) ∧ wo.ownsRow B 60 89 u k ((P.take k).flatMap (pL rst mx hl dl)) ∧ Ext w1 wo ∧ B ≤ wo.heap.size) (fun s _ => n - (intOf s).toNat)
  case atStart => exact ⟨0, _, _, rfl, rfl, by omega, HBB.out, ⟨by simp, .inl ⟨rfl, rfl⟩⟩, HX2.out, HB0.out⟩
  case round =>
    clear HBB HX2
    obtain ⟨k, u, wo, rfl, rfl, hk, hbb, hown, hx, hbl⟩ := hrel
    rename World => wl
    obtain ⟨a3, c3, rfl⟩ := own_form2 hown
    have HBR := Lib.hid hbb
    have HO := Lib.hid hown
    have HXL := Lib.hid hx
    have HBL := Lib.hid hbl
    clear hbb hown hx hbl
    by_cases hlt : k < n
    · have dlt : decide ((k : Int) < (n : Int)) = true := by simp; omega
      have hup : IntKind.i64.wrap ((k : Int) + 1) = ((k + 1 : Nat) : Int) := by rw [IntKind.wrap_i64]; omega
      obtain ⟨pb, po, rfl, hpb, hcp1, hcp2, hp4⟩ := HPF.out (by omega)
      obtain ⟨p, hp⟩ : ∃ p, P.getD k default = p := ⟨_, rfl⟩
      have RS := Lib.hid (show wl.rangeAt pb (po + k * 5) p.L from by
        have h4 := rangeR_ext (hp4 k hlt) (HE1.out.trans HXL.out) hpb
        rw [hp] at h4
        exact h4)
      have HPB := Lib.hid (show pb < wl.heap.size from Nat.lt_of_lt_of_le hpb (HE1.out.trans HXL.out).size)
      have HTK := Lib.hid (show (P.take (k + 1)).flatMap (pL rst mx hl dl) = (P.take k).flatMap (pL rst mx hl dl) ++ pL rst mx hl dl p from by
        rw [take_snoc P default (by rw [HNN.out]; exact hlt), hp, List.flatMap_append]
        simp)
      obtain ⟨p1, p2, p3, p4, p5⟩ := p
      clear hp4 hp hpb
      go_wp2_with fail
      refine beginL (S := fun W' => Ext wl W') (by kernel_rfl) ?_
      intro wd hqx
      have hq0 : Ext wl wd := hqx
      refine tLp 0 ((.slice (some ⟨pb, po, none⟩) n pcap)) rfl hq0 ?_
      simp only [ps]
      refine tLp 1 ((.int .i64 (k : Int))) rfl hq0 ?_
      simp only [ps]
      refine tL 2 ((.pointer (some ⟨pb, po + k * 5, none⟩))) rfl (Or.inl ⟨rfl, fun W' _ => by go_simp <;> (intro h; omega)⟩) hq0 ?_
      simp only [ps]
      refine tLp 3 ((.pointer (some ⟨pb, po + k * 5, none⟩))) rfl hq0 ?_
      simp only [ps]
      refine tL 4 (_) rfl (yieldsIf_cell rfl 28 _ rfl ⟨pb, po + k * 5, none⟩ rfl (.int .u16 p1) _ (fun W' hW' => (show W'.cell? ⟨pb, po + k * 5 + 0, none⟩ = _ from (hW'.cell (p := ⟨pb, po + k * 5 + 0, none⟩) HPB.out).trans (RS.out 0 _ rfl))) Tryz.underlying28 rfl) hq0 ?_
      simp only [ps]
      refine tLp 5 ((.slice (some ⟨pb, po, none⟩) n pcap)) rfl hq0 ?_
      simp only [ps]
      refine tLp 6 ((.int .i64 (k : Int))) rfl hq0 ?_
      simp only [ps]
      refine tL 7 ((.pointer (some ⟨pb, po + k * 5, none⟩))) rfl (Or.inl ⟨rfl, fun W' _ => by go_simp <;> (intro h; omega)⟩) hq0 ?_
      simp only [ps]
      refine tLp 8 ((.pointer (some ⟨pb, po + k * 5 + 1, none⟩))) rfl hq0 ?_
      simp only [ps]
      refine tL 9 (_) rfl (yieldsIf_cell rfl 27 _ rfl ⟨pb, po + k * 5 + 1, none⟩ rfl (.int .u32 p2) _ (fun W' hW' => (show W'.cell? ⟨pb, po + k * 5 + 1, none⟩ = _ from (hW'.cell (p := ⟨pb, po + k * 5 + 1, none⟩) HPB.out).trans (RS.out 1 _ rfl))) Tryz.underlying27 rfl) hq0 ?_
      simp only [ps]
      refine tLp 10 ((.slice (some ⟨pb, po, none⟩) n pcap)) rfl hq0 ?_
      simp only [ps]
      refine tLp 11 ((.int .i64 (k : Int))) rfl hq0 ?_
      simp only [ps]
      refine tL 12 ((.pointer (some ⟨pb, po + k * 5, none⟩))) rfl (Or.inl ⟨rfl, fun W' _ => by go_simp <;> (intro h; omega)⟩) hq0 ?_
      simp only [ps]
      refine tLp 13 ((.pointer (some ⟨pb, po + k * 5 + 2, none⟩))) rfl hq0 ?_
      simp only [ps]
      refine tL 14 (_) rfl (yieldsIf_cell rfl 4 _ rfl ⟨pb, po + k * 5 + 2, none⟩ rfl (.bool p3) _ (fun W' hW' => (show W'.cell? ⟨pb, po + k * 5 + 2, none⟩ = _ from (hW'.cell (p := ⟨pb, po + k * 5 + 2, none⟩) HPB.out).trans (RS.out 2 _ rfl))) Tryz.underlying4 rfl) hq0 ?_
      simp only [ps]
      refine tLp 15 ((.slice (some ⟨pb, po, none⟩) n pcap)) rfl hq0 ?_
      simp only [ps]
      refine tLp 16 ((.int .i64 (k : Int))) rfl hq0 ?_
      simp only [ps]
      refine tL 17 ((.pointer (some ⟨pb, po + k * 5, none⟩))) rfl (Or.inl ⟨rfl, fun W' _ => by go_simp <;> (intro h; omega)⟩) hq0 ?_
      simp only [ps]
      refine tLp 18 ((.pointer (some ⟨pb, po + k * 5 + 3, none⟩))) rfl hq0 ?_
      simp only [ps]
      refine tL 19 (_) rfl (yieldsIf_cell rfl 4 _ rfl ⟨pb, po + k * 5 + 3, none⟩ rfl (.bool p4) _ (fun W' hW' => (show W'.cell? ⟨pb, po + k * 5 + 3, none⟩ = _ from (hW'.cell (p := ⟨pb, po + k * 5 + 3, none⟩) HPB.out).trans (RS.out 3 _ rfl))) Tryz.underlying4 rfl) hq0 ?_
      simp only [ps]
      refine tLp 20 ((.slice (some ⟨pb, po, none⟩) n pcap)) rfl hq0 ?_
      simp only [ps]
      refine tLp 21 ((.int .i64 (k : Int))) rfl hq0 ?_
      simp only [ps]
      refine tL 22 ((.pointer (some ⟨pb, po + k * 5, none⟩))) rfl (Or.inl ⟨rfl, fun W' _ => by go_simp <;> (intro h; omega)⟩) hq0 ?_
      simp only [ps]
      refine tLp 23 ((.pointer (some ⟨pb, po + k * 5 + 4, none⟩))) rfl hq0 ?_
      simp only [ps]
      refine tL 24 (_) rfl (yieldsIf_cell rfl 4 _ rfl ⟨pb, po + k * 5 + 4, none⟩ rfl (.bool p5) _ (fun W' hW' => (show W'.cell? ⟨pb, po + k * 5 + 4, none⟩ = _ from (hW'.cell (p := ⟨pb, po + k * 5 + 4, none⟩) HPB.out).trans (RS.out 4 _ rfl))) Tryz.underlying4 rfl) hq0 ?_
      simp only [ps]
      refine tL 25 ((.agg (q0 p1 p2 p3 p4 p5))) rfl (yieldsIf_build rfl 60 _ rfl [(0, .int .u16 p1), (1, .int .u32 p2), (3, .bool p3), (4, .bool p4), (5, .bool p5)] rfl (q0 p1 p2 p3 p4 p5) (bl_p0 _ _ _ _ _)) hq0 ?_
      simp only [ps]
      refine runL (i := 26) rfl rfl (by kernel_rfl) (fun K hK => ?_)
      refine wp_al_zero 60 rfl PortZ zero_po (fun H wv hvb hsz hx => ?_)
      have hq1 : Ext wl wv := hq0.trans hx
      have hlo : wl.heap.size ≤ H := by have := hq0.size; omega
      clear hsz hx
      refine hK.out _ _ hq1 (fun _ => ?_)
      try simp only [ps]
      clear hK K
      refine runL (i := 27) rfl rfl (by kernel_rfl) (fun K hK => ?_)
      refine wp_st_at rfl 60 _ _ rfl H 0 _ (q0 p1 p2 p3 p4 p5) PortZ (q0 p1 p2 p3 p4 p5) 60 rfl rfl rfl hvb (by exact (by decide : 0 + 89 ≤ 89)) (by kernel_rfl) (by kernel_rfl) (by kernel_rfl) (fun wk hrow hm => ?_)
      have hxz : Ext wl wk := Ext.mutE hq1 hm (fun j hj h => by have h2 : j = H := h; omega)
      refine hK.out _ _ hxz (fun _ => ?_)
      try simp only [ps]
      clear hK K
      refine wpAnyH_done (by kernel_rfl) ?_ _
      have HG := Lib.hid hrow
      have HXK := Lib.hid hxz
      have HHW := Lib.hid hlo
      have HYK := Lib.hid (((HXL.out.trans hxz).block Y (heap_lt HY1.out)).trans HY1.out)
      have HYH := Lib.hid (show Y < wk.heap.size ∧ Y ≠ H from by have h1 := HYB.out; have h2 := (HXL.out.trans hxz).size; have h3 := HXL.out.size; omega)
      have HPK := Lib.hid (show pb < wk.heap.size ∧ pb ≠ H from by have h1 := HPB.out; have h2 := hxz.size; omega)
      have HRK := Lib.hid (show wk.cell? ⟨pb, po + k * 5 + 3, none⟩ = some (.bool p4) from (hxz.cell (p := ⟨pb, po + k * 5 + 3, none⟩) HPB.out).trans (RS.out 3 _ rfl))
      have HM := Lib.hid (Mut.refl (fun g => g = H) wk)
      clear hrow hxz hlo hvb hq1 hq0 hqx hm
      cases p4 with
      | false =>
        have HBKR := Lib.hid ((HXK.out.block BB (heap_lt HBR.out)).trans HBR.out)
        have HBK := Lib.hid (show BB < wk.heap.size ∧ BB ≠ H from by have h1 := HBBB.out; have h2 := HBL.out; have h3 := HXK.out.size; have h4 := HHW.out; omega)
        go_wp2_with (first
          | fail
          | ((with_reducible refine at_store 3 ?_); refine st_set rfl rfl 3 _ _ rfl H _ _ _ 60 rfl rfl HG.out (by kernel_rfl) rfl rfl rfl ?_
             intro ws hq hm
             have HG := Lib.hid hq
             have HM := Lib.hid (HM.out.trans hm)
             have hys : ws.heap[Y]? = some (.cells #[.int .i64 ta, .int .i64 mx, .int .i64 hl, .int .i64 dl] 24 (0, 0)) := (HM.out.heap HYH.out.1 HYH.out.2).trans HYK.out
             have y1 : ws.cell? ⟨Y, 1, none⟩ = some (.int .i64 mx) := by rw [cell_row hys]; rfl
             have y2 : ws.cell? ⟨Y, 2, none⟩ = some (.int .i64 hl) := by rw [cell_row hys]; rfl
             have y3 : ws.cell? ⟨Y, 3, none⟩ = some (.int .i64 dl) := by rw [cell_row hys]; rfl
             have ad : ws.cell? ⟨pb, po + k * 5 + 3, none⟩ = some (.bool false) := (HM.out.cell (p := ⟨pb, po + k * 5 + 3, none⟩) HPK.out.1 HPK.out.2).trans HRK.out
             have c17 : ws.cell? ⟨BB, 17, none⟩ = some (.slice a3 k c3) := by rw [cell_row ((HM.out.heap HBK.out.1 HBK.out.2).trans HBKR.out)]; rfl
             clear hq hm hys)
          | ((with_reducible refine at_store 4 ?_); refine st_set rfl rfl 4 _ _ rfl H _ _ _ 60 rfl rfl HG.out (by kernel_rfl) rfl rfl rfl ?_
             intro ws hq hm
             have HG := Lib.hid hq
             have HM := Lib.hid (HM.out.trans hm)
             have hys : ws.heap[Y]? = some (.cells #[.int .i64 ta, .int .i64 mx, .int .i64 hl, .int .i64 dl] 24 (0, 0)) := (HM.out.heap HYH.out.1 HYH.out.2).trans HYK.out
             have y1 : ws.cell? ⟨Y, 1, none⟩ = some (.int .i64 mx) := by rw [cell_row hys]; rfl
             have y2 : ws.cell? ⟨Y, 2, none⟩ = some (.int .i64 hl) := by rw [cell_row hys]; rfl
             have y3 : ws.cell? ⟨Y, 3, none⟩ = some (.int .i64 dl) := by rw [cell_row hys]; rfl
             have ad : ws.cell? ⟨pb, po + k * 5 + 3, none⟩ = some (.bool false) := (HM.out.cell (p := ⟨pb, po + k * 5 + 3, none⟩) HPK.out.1 HPK.out.2).trans HRK.out
             have c17 : ws.cell? ⟨BB, 17, none⟩ = some (.slice a3 k c3) := by rw [cell_row ((HM.out.heap HBK.out.1 HBK.out.2).trans HBKR.out)]; rfl
             clear hq hm hys)
          | ((with_reducible refine at_load 60 ?_)
             have HGL := Lib.hid (show ws.heap[H]? = some (.cells (portL p1 p2 p3 false p5 rst mx hl dl 1) 60 (0, 0)) from HG.out.trans (congrArg (fun c => some (Obj.cells c 60 (0, 0))) (show _ = (portL p1 p2 p3 false p5 rst mx hl dl 1) from by kernel_rfl)))
             refine wpList_load_row rfl 60 _ rfl H rfl 60 (portL p1 p2 p3 false p5 rst mx hl dl 1) (0, 0) _ HGL.out Tryz.underlying60 rfl size_po ?_)
          | ((with_reducible refine at_bs 31 ?_); refine wpList_buildSlice rfl 31 60 1 _ rfl (portL p1 p2 p3 false p5 rst mx hl dl 1) i9 (.agg PortZ) Tryz.underlying31 I9.out.1 I9.out.2.1 (by rw [I9.out.2.2.1]; decide) (by rw [I9.out.2.2.1]; decide) (by rw [I9.out.2.2.1, Array.toList_map]; exact b1_po _ _ _ _ _ _ _ _ _ _) ?_
             have hq4 := heap_alloc_new ws (.cells (portL p1 p2 p3 false p5 rst mx hl dl 1) 60)
             have hx4 : Ext ws (ws.alloc (.cells (portL p1 p2 p3 false p5 rst mx hl dl 1) 60)) := (Ext.refl _).alloc _
             obtain ⟨Z, hZ⟩ : ∃ Z, ws.heap.size = Z := ⟨_, rfl⟩
             rw [hZ] at hq4 ⊢
             obtain ⟨w4, hw4⟩ : ∃ W, ws.alloc (.cells (portL p1 p2 p3 false p5 rst mx hl dl 1) 60) = W := ⟨_, rfl⟩
             rw [hw4] at hq4 hx4 ⊢
             have HO4 := Lib.hid (show w4.ownsRow B 60 89 (.slice a3 k c3) k ((P.take k).flatMap (pL rst mx hl dl)) from ownR_ext (own_mut (ownR_ext HO.out HXK.out) HM.out (fun g h1 h2 => by have h3 : g = H := h2; have h4 := (own_lt2 HO.out h1).2; have h5 := HHW.out; omega)) hx4)
             have HX4 := Lib.hid (show Ext w1 w4 from ((HXL.out.trans HXK.out).mutE HM.out (fun g hg h => by have h2 : g = H := h; have h3 := HHW.out; have h4 := HXL.out.size; omega)).trans hx4)
             have HBZ := Lib.hid (show B ≤ w4.heap.size from by have h1 := HBL.out; have h2 := HXK.out.size; have h3 := HM.out.size; have h4 := hx4.size; omega)
             have HB4 := Lib.hid ((hx4.block BB (Nat.lt_of_lt_of_le HBK.out.1 HM.out.size)).trans ((HM.out.heap HBK.out.1 HBK.out.2).trans HBKR.out))
             clear hw4 hx4 hZ c17 y1 y2 y3 ad)
          | (at_builtin; refine wpList_append_own_at _ rfl _ _ 31 rfl B 60 i9 (.agg PortZ) 89 416 Tryz.underlying31 I9.out.1 I9.out.2.1 I9.out.2.2.1 I9.out.2.2.2 rfl (by decide) _ k ((P.take k).flatMap (pL rst mx hl dl)) rfl HO4.out ⟨Z, 0, none⟩ 1 1 (portL p1 p2 p3 false p5 rst mx hl dl 1).toList rfl rfl (fun j u hu => World.news_of_block hq4 j u (by simpa using hu)) (fun u hu => pL_one (show pL rst mx hl dl ⟨p1, p2, p3, false, p5⟩ = (portL p1 p2 p3 false p5 rst mx hl dl 1).toList from rfl) u hu) (by unfold maxLen; omega) (by omega) HBZ.out ?_
             intro v7 wa ho7 hg7 _ hb7
             obtain ⟨a7, c7, rfl⟩ := own_form2 ho7
             have hnb : ∀ g, Value.ownBlock (.slice a3 k c3) = some g → g ≠ BB := fun g h1 h2 => by have h3 := (own_lt2 HO.out h1).1; have h4 := HBBB.out; omega
             have hbw := (hg7.block BB (heap_lt HB4.out) (fun e => hnb BB e.symm rfl)).trans HB4.out
             have HO7 := Lib.hid ho7
             have HX7 := Lib.hid (show Ext w1 wa from ext_grown HX4.out HO4.out HB1.out hg7)
             have HS7 := Lib.hid (show B ≤ wa.heap.size from Nat.le_trans HBZ.out hg7.size)
             clear ho7 hg7 hnb hq4 hb7)
          | ((with_reducible refine at_store 31 ?_); refine st_at rfl rfl 31 _ _ rfl BB 17 _ #[.slice a7 (k + 1) c7] #[.int .u64 id, .bool rst, .int .i64 ta, .int .i64 mx, .int .i64 hl, .int .i64 dl, .int .i64 hold, .int .u64 id, .int .u32 0, .int .u64 id, .int .u16 0, .int .u16 0, .int .i64 (-1), .int .i64 ta, .int .i64 mx, .int .i64 hl, .int .i64 dl, .slice a3 k c3, .slice none 0 0, .slice none 0 0] #[.int .u64 id, .bool rst, .int .i64 ta, .int .i64 mx, .int .i64 hl, .int .i64 dl, .int .i64 hold, .int .u64 id, .int .u32 0, .int .u64 id, .int .u16 0, .int .u16 0, .int .i64 (-1), .int .i64 ta, .int .i64 mx, .int .i64 hl, .int .i64 dl, .slice a7 (k + 1) c7, .slice none 0 0, .slice none 0 0] 35 rfl rfl rfl hbw (by exact (by decide : 17 + 1 ≤ 20)) (by kernel_rfl) rfl rfl ?_
             intro wz hrow hm
             have HROW := Lib.hid hrow
             have HOS := Lib.hid (show wz.ownsRow B 60 89 (.slice a7 (k + 1) c7) (k + 1) ((P.take (k + 1)).flatMap (pL rst mx hl dl)) from by
               rw [HTK.out]
               exact own_mut HO7.out hm (fun g h1 h2 => by have h3 : g = BB := h2; have h4 := (own_lt2 HO7.out h1).1; have h5 := HBBB.out; omega))
             have HXS := Lib.hid (show Ext w1 wz from HX7.out.mutE hm (fun g hg h => by have h2 : g = BB := h; have h3 := HBW.out; omega))
             have HBS := Lib.hid (Nat.le_trans HS7.out hm.size)
             clear hrow hm hbw))
        go_roundw
        case rel => exact ⟨k + 1, _, _, rfl, by go_num, hlt, HROW.out, HOS.out, HXS.out, HBS.out⟩
        case measure => simp [intOf] <;> omega
      | true =>
        have HBKR := Lib.hid ((HXK.out.block BB (heap_lt HBR.out)).trans HBR.out)
        have HBK := Lib.hid (show BB < wk.heap.size ∧ BB ≠ H from by have h1 := HBBB.out; have h2 := HBL.out; have h3 := HXK.out.size; have h4 := HHW.out; omega)
        go_wp2_with (first
          | fail
          | ((with_reducible refine at_store 3 ?_); refine st_set rfl rfl 3 _ _ rfl H _ _ _ 60 rfl rfl HG.out (by kernel_rfl) rfl rfl rfl ?_
             intro ws hq hm
             have HG := Lib.hid hq
             have HM := Lib.hid (HM.out.trans hm)
             have hys : ws.heap[Y]? = some (.cells #[.int .i64 ta, .int .i64 mx, .int .i64 hl, .int .i64 dl] 24 (0, 0)) := (HM.out.heap HYH.out.1 HYH.out.2).trans HYK.out
             have y1 : ws.cell? ⟨Y, 1, none⟩ = some (.int .i64 mx) := by rw [cell_row hys]; rfl
             have y2 : ws.cell? ⟨Y, 2, none⟩ = some (.int .i64 hl) := by rw [cell_row hys]; rfl
             have y3 : ws.cell? ⟨Y, 3, none⟩ = some (.int .i64 dl) := by rw [cell_row hys]; rfl
             have ad : ws.cell? ⟨pb, po + k * 5 + 3, none⟩ = some (.bool true) := (HM.out.cell (p := ⟨pb, po + k * 5 + 3, none⟩) HPK.out.1 HPK.out.2).trans HRK.out
             have c17 : ws.cell? ⟨BB, 17, none⟩ = some (.slice a3 k c3) := by rw [cell_row ((HM.out.heap HBK.out.1 HBK.out.2).trans HBKR.out)]; rfl
             clear hq hm hys)
          | ((with_reducible refine at_store 4 ?_); refine st_set rfl rfl 4 _ _ rfl H _ _ _ 60 rfl rfl HG.out (by kernel_rfl) rfl rfl rfl ?_
             intro ws hq hm
             have HG := Lib.hid hq
             have HM := Lib.hid (HM.out.trans hm)
             have hys : ws.heap[Y]? = some (.cells #[.int .i64 ta, .int .i64 mx, .int .i64 hl, .int .i64 dl] 24 (0, 0)) := (HM.out.heap HYH.out.1 HYH.out.2).trans HYK.out
             have y1 : ws.cell? ⟨Y, 1, none⟩ = some (.int .i64 mx) := by rw [cell_row hys]; rfl
             have y2 : ws.cell? ⟨Y, 2, none⟩ = some (.int .i64 hl) := by rw [cell_row hys]; rfl
             have y3 : ws.cell? ⟨Y, 3, none⟩ = some (.int .i64 dl) := by rw [cell_row hys]; rfl
             have ad : ws.cell? ⟨pb, po + k * 5 + 3, none⟩ = some (.bool true) := (HM.out.cell (p := ⟨pb, po + k * 5 + 3, none⟩) HPK.out.1 HPK.out.2).trans HRK.out
             have c17 : ws.cell? ⟨BB, 17, none⟩ = some (.slice a3 k c3) := by rw [cell_row ((HM.out.heap HBK.out.1 HBK.out.2).trans HBKR.out)]; rfl
             clear hq hm hys)
          | ((with_reducible refine at_load 60 ?_)
             have HGL := Lib.hid (show ws.heap[H]? = some (.cells (portL p1 p2 p3 true p5 rst mx hl dl 0) 60 (0, 0)) from HG.out.trans (congrArg (fun c => some (Obj.cells c 60 (0, 0))) (show _ = (portL p1 p2 p3 true p5 rst mx hl dl 0) from by kernel_rfl)))
             refine wpList_load_row rfl 60 _ rfl H rfl 60 (portL p1 p2 p3 true p5 rst mx hl dl 0) (0, 0) _ HGL.out Tryz.underlying60 rfl size_po ?_)
          | ((with_reducible refine at_bs 31 ?_); refine wpList_buildSlice rfl 31 60 1 _ rfl (portL p1 p2 p3 true p5 rst mx hl dl 0) i9 (.agg PortZ) Tryz.underlying31 I9.out.1 I9.out.2.1 (by rw [I9.out.2.2.1]; decide) (by rw [I9.out.2.2.1]; decide) (by rw [I9.out.2.2.1, Array.toList_map]; exact b1_po _ _ _ _ _ _ _ _ _ _) ?_
             have hq4 := heap_alloc_new ws (.cells (portL p1 p2 p3 true p5 rst mx hl dl 0) 60)
             have hx4 : Ext ws (ws.alloc (.cells (portL p1 p2 p3 true p5 rst mx hl dl 0) 60)) := (Ext.refl _).alloc _
             obtain ⟨Z, hZ⟩ : ∃ Z, ws.heap.size = Z := ⟨_, rfl⟩
             rw [hZ] at hq4 ⊢
             obtain ⟨w4, hw4⟩ : ∃ W, ws.alloc (.cells (portL p1 p2 p3 true p5 rst mx hl dl 0) 60) = W := ⟨_, rfl⟩
             rw [hw4] at hq4 hx4 ⊢
             have HO4 := Lib.hid (show w4.ownsRow B 60 89 (.slice a3 k c3) k ((P.take k).flatMap (pL rst mx hl dl)) from ownR_ext (own_mut (ownR_ext HO.out HXK.out) HM.out (fun g h1 h2 => by have h3 : g = H := h2; have h4 := (own_lt2 HO.out h1).2; have h5 := HHW.out; omega)) hx4)
             have HX4 := Lib.hid (show Ext w1 w4 from ((HXL.out.trans HXK.out).mutE HM.out (fun g hg h => by have h2 : g = H := h; have h3 := HHW.out; have h4 := HXL.out.size; omega)).trans hx4)
             have HBZ := Lib.hid (show B ≤ w4.heap.size from by have h1 := HBL.out; have h2 := HXK.out.size; have h3 := HM.out.size; have h4 := hx4.size; omega)
             have HB4 := Lib.hid ((hx4.block BB (Nat.lt_of_lt_of_le HBK.out.1 HM.out.size)).trans ((HM.out.heap HBK.out.1 HBK.out.2).trans HBKR.out))
             clear hw4 hx4 hZ c17 y1 y2 y3 ad)
          | (at_builtin; refine wpList_append_own_at _ rfl _ _ 31 rfl B 60 i9 (.agg PortZ) 89 416 Tryz.underlying31 I9.out.1 I9.out.2.1 I9.out.2.2.1 I9.out.2.2.2 rfl (by decide) _ k ((P.take k).flatMap (pL rst mx hl dl)) rfl HO4.out ⟨Z, 0, none⟩ 1 1 (portL p1 p2 p3 true p5 rst mx hl dl 0).toList rfl rfl (fun j u hu => World.news_of_block hq4 j u (by simpa using hu)) (fun u hu => pL_one (show pL rst mx hl dl ⟨p1, p2, p3, true, p5⟩ = (portL p1 p2 p3 true p5 rst mx hl dl 0).toList from rfl) u hu) (by unfold maxLen; omega) (by omega) HBZ.out ?_
             intro v7 wa ho7 hg7 _ hb7
             obtain ⟨a7, c7, rfl⟩ := own_form2 ho7
             have hnb : ∀ g, Value.ownBlock (.slice a3 k c3) = some g → g ≠ BB := fun g h1 h2 => by have h3 := (own_lt2 HO.out h1).1; have h4 := HBBB.out; omega
             have hbw := (hg7.block BB (heap_lt HB4.out) (fun e => hnb BB e.symm rfl)).trans HB4.out
             have HO7 := Lib.hid ho7
             have HX7 := Lib.hid (show Ext w1 wa from ext_grown HX4.out HO4.out HB1.out hg7)
             have HS7 := Lib.hid (show B ≤ wa.heap.size from Nat.le_trans HBZ.out hg7.size)
             clear ho7 hg7 hnb hq4 hb7)
          | ((with_reducible refine at_store 31 ?_); refine st_at rfl rfl 31 _ _ rfl BB 17 _ #[.slice a7 (k + 1) c7] #[.int .u64 id, .bool rst, .int .i64 ta, .int .i64 mx, .int .i64 hl, .int .i64 dl, .int .i64 hold, .int .u64 id, .int .u32 0, .int .u64 id, .int .u16 0, .int .u16 0, .int .i64 (-1), .int .i64 ta, .int .i64 mx, .int .i64 hl, .int .i64 dl, .slice a3 k c3, .slice none 0 0, .slice none 0 0] #[.int .u64 id, .bool rst, .int .i64 ta, .int .i64 mx, .int .i64 hl, .int .i64 dl, .int .i64 hold, .int .u64 id, .int .u32 0, .int .u64 id, .int .u16 0, .int .u16 0, .int .i64 (-1), .int .i64 ta, .int .i64 mx, .int .i64 hl, .int .i64 dl, .slice a7 (k + 1) c7, .slice none 0 0, .slice none 0 0] 35 rfl rfl rfl hbw (by exact (by decide : 17 + 1 ≤ 20)) (by kernel_rfl) rfl rfl ?_
             intro wz hrow hm
             have HROW := Lib.hid hrow
             have HOS := Lib.hid (show wz.ownsRow B 60 89 (.slice a7 (k + 1) c7) (k + 1) ((P.take (k + 1)).flatMap (pL rst mx hl dl)) from by
               rw [HTK.out]
               exact own_mut HO7.out hm (fun g h1 h2 => by have h3 : g = BB := h2; have h4 := (own_lt2 HO7.out h1).1; have h5 := HBBB.out; omega))
             have HXS := Lib.hid (show Ext w1 wz from HX7.out.mutE hm (fun g hg h => by have h2 : g = BB := h; have h3 := HBW.out; omega))
             have HBS := Lib.hid (Nat.le_trans HS7.out hm.size)
             clear hrow hm hbw))
        go_roundw
        case rel => exact ⟨k + 1, _, _, rfl, by go_num, hlt, HROW.out, HOS.out, HXS.out, HBS.out⟩
        case measure => simp [intOf] <;> omega
    · have dlt : decide ((k : Int) < (n : Int)) = false := by simp; omega
      obtain rfl : n = k := by omega
      have htk : P.take n = P := List.take_of_length_le (by rw [HNN.out]; exact Nat.le_refl _)
      have hbr : BrC wl #[.int .u64 id, .bool rst, .int .i64 ta, .int .i64 mx, .int .i64 hl, .int .i64 dl, .int .i64 hold, .int .u64 id, .int .u32 0, .int .u64 id, .int .u16 0, .int .u16 0, .int .i64 (-1), .int .i64 ta, .int .i64 mx, .int .i64 hl, .int .i64 dl, .slice a3 n c3, .slice none 0 0, .slice none 0 0] (newA id rst ta mx hl dl hold P) := by
        have h1 := HO.out
        rw [htk] at h1
        exact ⟨.slice a3 n c3, .slice none 0 0, .slice none 0 0, rfl, by rw [show (newA id rst ta mx hl dl hold P).np = n from HNN.out]; exact own_row h1, ⟨rfl, .inl ⟨rfl, .inl rfl⟩⟩, ⟨rfl, .inl ⟨rfl, .inl rfl⟩⟩⟩
      have HBRC := Lib.hid hbr
      have HOKB := Lib.hid (newA_ok (rst := rst) (wfu64 HI.out) HT.out.1 HT.out.2.1 HT.out.2.2.1 HT.out.2.2.2 (wf64 HHO.out) HPR.out)
      have HRBL := Lib.hid ((HXL.out.block RB (heap_lt HRB.out)).trans HRB.out)
      clear htk hbr
      go_wp2_with (first
        | fail
        | ((with_reducible refine at_load 35 ?_); refine wpList_load_row rfl 35 _ rfl BB rfl 35 #[.int .u64 id, .bool rst, .int .i64 ta, .int .i64 mx, .int .i64 hl, .int .i64 dl, .int .i64 hold, .int .u64 id, .int .u32 0, .int .u64 id, .int .u16 0, .int .u16 0, .int .i64 (-1), .int .i64 ta, .int .i64 mx, .int .i64 hl, .int .i64 dl, .slice a3 n c3, .slice none 0 0, .slice none 0 0] (0, 0) _ HBR.out Tryz.underlying35 rfl size_brg ?_))
      refine (right_any #[.int .u64 id, .bool rst, .int .i64 ta, .int .i64 mx, .int .i64 hl, .int .i64 dl, .int .i64 hold, .int .u64 id, .int .u32 0, .int .u64 id, .int .u16 0, .int .u16 0, .int .i64 (-1), .int .i64 ta, .int .i64 mx, .int .i64 hl, .int .i64 dl, .slice a3 n c3, .slice none 0 0, .slice none 0 0] (newA id rst ta mx hl dl hold P) wl HBRC.out HOKB.out).mono ?_
      rintro e w6 ⟨fb, rfl, hx6, hfb⟩
      have HFB := Lib.hid hfb
      have HOW := Lib.hid (show w6.ownsRow B 60 89 (.slice a3 n c3) n (P.flatMap (pL rst mx hl dl)) from by
        have h1 := ownR_ext HO.out hx6
        rw [List.take_of_length_le (by rw [HNN.out]; exact Nat.le_refl _)] at h1
        exact h1)
      have HB6 := Lib.hid ((hx6.block BB (heap_lt HBR.out)).trans HBR.out)
      have HR6 := Lib.hid ((hx6.block RB (heap_lt HRBL.out)).trans HRBL.out)
      have HX6 := Lib.hid (HXL.out.trans hx6)
      cases fb with
      | true =>
        clear hx6 hfb
        go_wp2_with (first
          | fail
          | ((with_reducible refine at_load 35 ?_); refine wpList_load_row rfl 35 _ rfl BB rfl 35 #[.int .u64 id, .bool rst, .int .i64 ta, .int .i64 mx, .int .i64 hl, .int .i64 dl, .int .i64 hold, .int .u64 id, .int .u32 0, .int .u64 id, .int .u16 0, .int .u16 0, .int .i64 (-1), .int .i64 ta, .int .i64 mx, .int .i64 hl, .int .i64 dl, .slice a3 n c3, .slice none 0 0, .slice none 0 0] (0, 0) _ HB6.out Tryz.underlying35 rfl size_brg ?_)
          | ((with_reducible refine at_store 35 ?_); refine st_at rfl rfl 35 _ _ rfl RB 0 _ #[.int .u64 id, .bool rst, .int .i64 ta, .int .i64 mx, .int .i64 hl, .int .i64 dl, .int .i64 hold, .int .u64 id, .int .u32 0, .int .u64 id, .int .u16 0, .int .u16 0, .int .i64 (-1), .int .i64 ta, .int .i64 mx, .int .i64 hl, .int .i64 dl, .slice a3 n c3, .slice none 0 0, .slice none 0 0] BrZ #[.int .u64 id, .bool rst, .int .i64 ta, .int .i64 mx, .int .i64 hl, .int .i64 dl, .int .i64 hold, .int .u64 id, .int .u32 0, .int .u64 id, .int .u16 0, .int .u16 0, .int .i64 (-1), .int .i64 ta, .int .i64 mx, .int .i64 hl, .int .i64 dl, .slice a3 n c3, .slice none 0 0, .slice none 0 0] 35 rfl rfl rfl HR6.out (by exact (by decide : 0 + 20 ≤ 20)) (by kernel_rfl) rfl rfl ?_
             intro wz hqz hmz
             have HRZ := Lib.hid hqz
             have HMZ := Lib.hid hmz
             clear hqz hmz))
        refine bodyPost_ret (results_crt rfl _ _ RB _ _ (0, 0) _ rfl HRZ.out Tryz.underlying35 rfl size_brg) rfl ?_
        have hsz : w.heap.size ≤ B := Nat.le_trans HE1.out.size HB1.out
        refine ⟨_, true, rfl, by simpa using HFB.out, .inl ⟨rfl, _, rfl, ?_⟩, (HE1.out.trans HX6.out).mutE HMZ.out (fun g h1 h2 => by have h3 : g = RB := h2; have h4 := HRW.out; omega)⟩
        have h5 := own_mut HOW.out HMZ.out (fun g h1 h2 => by have h3 : g = RB := h2; have h4 := (own_lt2 HOW.out h1).1; have h5 := heap_lt HRB.out; have h6 := HB1.out; omega)
        rw [show (newA id rst ta mx hl dl hold P).np = n from HNN.out]
        exact own_base h5 hsz
      | false =>
        clear hx6 hfb
        go_wp2_with (first
          | fail
          | ((with_reducible refine at_build 35 ?_); refine wpList_build2 rfl 35 _ rfl _ rfl _ bl_br0 ?_)
          | ((with_reducible refine at_store 35 ?_); refine st_at rfl rfl 35 _ _ rfl RB 0 _ BrZ BrZ BrZ 35 rfl rfl rfl HR6.out (by exact (by decide : 0 + 20 ≤ 20)) (by kernel_rfl) (by kernel_rfl) (by kernel_rfl) ?_
             intro wz hqz hmz
             have HRZ := Lib.hid hqz
             have HMZ := Lib.hid hmz
             clear hqz hmz))
        refine bodyPost_ret (results_crt rfl _ _ RB _ _ (0, 0) _ rfl HRZ.out Tryz.underlying35 rfl size_brg) rfl ?_
        exact ⟨_, false, rfl, HFB.out, .inr ⟨rfl, rfl⟩, (HE1.out.trans HX6.out).mutE HMZ.out (fun g h1 h2 => by have h3 : g = RB := h2; have h4 := HRW.out; omega)⟩
end Go.Proofs.YtpanapepcbbagaaGreat
namespace Go.Proofs.YtpanapepcbbagaaGreat
open Go.RowKit Go.BigFrame Go.WideShapes Go.ChangeShapes Go.WideElems Go.ChangeAt Go.Deep
set_option linter.unusedVariables false
set_option linter.unusedSimpArgs false
theorem ownK : ownKnob Tryz.prog.godebug = none := by kernel_rfl
/-- The row's last step where only 'Below' is known of the world that the call leaves. -/
theorem closes {H : Type} {enc : TypeId × Value → H} {P : Program} {f : Func} {s : ChangeSpec} {apart fresh handsOn again : Bool} {W W' : World} {args : Array Value} {v : Value} {ds gs : List (DataW H)} {before pa pv : List MemPlace}
    (hW : DataW.Whole enc P f.params.toList s.vars apart W args.toList ds gs before)
    (hres : ∀ (b : Nat) (sp : Nat → Bool) (hd : Bool), DataW.TrodAll enc P W' b sp hd f.resultTypes.toList (v.resultList f.resultTypes.size) (s.fn H (ds ++ gs)).results [])
    (hargs : ∀ sp : Nat → Bool, (∀ p ∈ before, sp p.block = true) → DataW.TrodAll enc P W' 0 sp true f.params.toList args.toList (s.fn H (ds ++ gs)).args pa)
    (hvars : ∀ sp : Nat → Bool, (∀ p ∈ before, sp p.block = true) → DataW.TrodVars enc P W' sp s.vars (s.fn H (ds ++ gs)).vars pv)
    (hps : before = pa ++ pv) (hb : Below W.heap.size W W')
    (hok : ∀ (j : Nat) (t : TypeId) (r : Value), f.resultTypes[j]? = some t → (v.resultList f.resultTypes.size)[j]? = some r → Value.okWide P W' .any 0 t r) :
    s.post enc P f apart fresh handsOn again W args v W' := by
  have lt : ∀ p ∈ before, p.block < W.heap.size := fun p hp => hW.lt p hp
  have old : ∀ p ∈ before, (fun b => decide (b < W.heap.size)) p.block = true := fun p hp => decide_eq_true (lt p hp)
  have keep : W.keptBut W' fun p => p ∈ before ∧ (p ∈ ([] : List MemPlace) ∨ p ∈ pa ++ pv) :=
    World.keptBut_mono (fun p hp => ⟨hp, Or.inr (hps ▸ hp)⟩) (hb.frame (· ∈ before))
  refine ⟨ds, gs, before, [], pa, pv, hW, hres _ _ _, hargs _ old, hvars _ old, ?_, fun _ => ?_⟩
  · refine World.keptBut_mono (fun p hp => ⟨hp.1, ?_⟩) keep
    rcases List.mem_append.1 (hps ▸ hp.1) with h | h
    · exact Or.inr (Or.inl h)
    · exact Or.inr (Or.inr h)
  · obtain ⟨_, _, _, _, _, hz, hn⟩ := hW
    refine ⟨hok, _, _, ([] ++ pa) ++ pv, ⟨[] ++ pa, pv, trodAll_append (hargs _ (fun _ _ => rfl)) (hres _ _ _), hvars _ (fun _ _ => rfl), rfl, ?_, ?_⟩, ?_⟩
    · intro b off hp
      have hin : MemPlace.cell b off ∈ before := by rw [hps]; simpa using hp
      rw [hb.frozen (lt _ hin)]
      exact hz b off hin
    · intro ha
      have := hn ha
      rw [hps] at this
      simpa using this
    · intro p hp _
      rw [hps]
      simpa using hp
theorem wf_u16 {n : Int} (h : (Lit.int .u16 n).wf = true) : 0 ≤ n ∧ n < 65536 := by simp [Lit.wf, IntKind.min, IntKind.max, IntKind.signed, IntKind.bits] at h; omega
theorem wf_i64 {n : Int} (h : (Lit.int .i64 n).wf = true) : -9223372036854775808 ≤ n ∧ n ≤ 9223372036854775807 := by simp [Lit.wf, IntKind.min, IntKind.max, IntKind.signed, IntKind.bits] at h; omega
/-- All arguments read behind the call as they read before. -/
theorem carry_all {H : Type} {enc : TypeId × Value → H} {P : Program} (hl : laidOutB P = true) {W W' : World} (hb : Ext W W') (sp : Nat → Bool) :
    ∀ (ts : List TypeId) (vs : List Value) (ds : List (DataW H)) (ps : List MemPlace), (ts.all fun t => P.readableRec t && decide (t < P.types.size)) = true →
      DataW.TrodAll enc P W 0 (fun _ => true) true ts vs ds ps → (∀ p ∈ ps, p.block < W.heap.size) → (∀ p ∈ ps, sp p.block = true) → DataW.TrodAll enc P W' 0 sp true ts vs ds ps
  | [], vs, ds, ps, _, h, _, _ => by
    obtain ⟨rfl, rfl, rfl⟩ := trodAll_nil h
    exact trodAll_mk0
  | t :: ts, vs, ds, ps, hts, h, hlt, hsp => by
    simp only [List.all_cons, Bool.and_eq_true, decide_eq_true_eq] at hts
    obtain ⟨v, vs', d, ds', p, q, rfl, rfl, rfl, h0, r0⟩ := trodAll_cons h
    refine trodAll_cons_mk (Trod_stays hl hts.1.1 hts.1.2 h0 (fun x hx => Below.same hb (hlt x (by simp [hx]))) (fun x hx => hsp x (by simp [hx]))) ?_
    exact carry_all hl hb sp ts vs' ds' q (by simpa using hts.2) r0 (fun x hx => hlt x (by simp [hx])) (fun x hx => hsp x (by simp [hx]))
/-- A law's last step: the walk says 'true, and at most new memory'. -/
theorem ends {H : Type} {enc : TypeId × Value → H} {P : Program} {k : FuncId} {f : Func} {s : ChangeSpec} {tb : TypeId} (hl : laidOutB P = true)
    (hts : (f.params.toList.all fun t => P.readableRec t && decide (t < P.types.size)) = true) (hv : s.vars = []) (hres : f.resultTypes = #[tb]) (htb : P.underlying tb = some .bool)
    {W : World} {args : Array Value} {ds gs : List (DataW H)} {before : List MemPlace} (hW : DataW.Whole enc P f.params.toList s.vars false W args.toList ds gs before)
    (hspec : s.fn H (ds ++ gs) = { results := [.lit (.bool true)], args := ds }) (walk : Calls P k args W fun e w' => e = .returned (.bool true) ∧ Ext W w') :
    Calls P k args W fun e W' => ∃ v, e = .returned v ∧ s.post enc P f false true false false W args v W' := by
  refine walk.mono fun e W' ⟨he, hb⟩ => ⟨_, he, ?_⟩
  have hW' := hW
  obtain ⟨p, q, hA, hV, rfl, _, _⟩ := hW
  have hV' := hV
  rw [hv] at hV
  obtain ⟨rfl, rfl⟩ := trodVars_none hV
  refine closes (pa := p) (pv := []) hW' ?_ ?_ ?_ rfl hb (ok_one hres rfl (okWide_bool_mk htb _))
  · intro b sp hd
    rw [hspec, hres]
    exact trodAll_cons_mk (shut_bool htb _) trodAll_mk0
  · intro sp hsp
    rw [hspec]
    exact carry_all hl hb sp _ _ _ _ hts hA (fun x hx => hW'.lt x (by simp [hx])) (fun x hx => hsp x (by simp [hx]))
  · intro sp _
    rw [hspec, hv]
    rfl
/-- A struct by value whose fields have one cell each. -/
theorem open_flat {H : Type} {enc : TypeId × Value → H} {P : Program} {w : World} {base : Nat} {spare : Nat → Bool} {held : Bool} {r : Reach} {b0 : Nat} {t : TypeId} {fs : Array Field} {v : Value} {d : DataW H} {p : List MemPlace}
    (hs : P.underlying t = some (.struct fs)) (hone : oneCellFields P fs = true) (hC : P.cellsOf t = fs.size) (hv : Value.okWide P w r b0 t v) (h : DataW.Trod enc P w base spare held t v d p) :
    ∃ cs : Array Value, v = .agg cs ∧ cs.size = fs.size ∧ ∀ (i : Nat) (f : Field), fs[i]? = some f → ∃ (c : Value) (x : DataW H × List MemPlace) (n : Nat), cs[i]? = some c ∧ DataW.trod enc P w base spare held n f.type [c] = some x := by
  obtain ⟨cs, rfl, hsz⟩ := okWide_struct hs hv
  obtain ⟨fuel, hf⟩ := h
  obtain ⟨xs, n, _, hx, _, hlen, hg⟩ := DataW.trod_struct hs hf
  refine ⟨cs, rfl, hsz.trans hC, fun i f hi => ?_⟩
  obtain ⟨o, k⟩ := hone_of hone i f hi
  have hlt : i < fs.size := (Array.getElem?_eq_some_iff.1 hi).1
  have hlt' : i < cs.size := by rw [hsz, hC]; exact hlt
  have h1 := hg i f hi
  rw [o, k] at h1
  have h2 : ((Value.agg cs).cells.toList.drop i).take 1 = [cs[i]] := by
    show (cs.toList.drop i).take 1 = [cs[i]]
    rw [List.drop_eq_getElem_cons (by simpa using hlt')]
    simp
  rw [h2] at h1
  refine ⟨cs[i], xs[i]'(by omega), n, by simp [hlt'], ?_⟩
  rw [h1]
  exact List.getElem?_eq_getElem (by omega)
theorem flat_int {H : Type} {enc : TypeId × Value → H} {P : Program} {w : World} {base : Nat} {spare : Nat → Bool} {held : Bool} {n : Nat} {t : TypeId} {k : IntKind} {c : Value} {x : DataW H × List MemPlace}
    (ht : P.underlying t = some (.int k)) (h : DataW.trod enc P w base spare held n t [c] = some x) : ∃ z, c = .int k z ∧ (Lit.int k z).wf = true := by
  obtain ⟨z, hc, _, hw⟩ := DataW.trod_int ht h
  simp at hc
  exact ⟨z, hc, hw⟩
theorem flat_eq (l : List Value) (cs : Array Value) (hz : cs.size = l.length) (h : ∀ j, j < l.length → cs[j]? = l[j]?) : cs = l.toArray := by
  apply Array.ext'
  apply List.ext_getElem?
  intro j
  by_cases hj : j < l.length
  · simpa using h j hj
  · rw [List.getElem?_eq_none (by simp; omega), List.getElem?_eq_none (by simp; omega)]
theorem laidO : laidOutB Tryz.prog = true := by kernel_rfl
section
variable {P : Program}
variable {H : Type} {enc : TypeId × Value → H} {w : World} {base : Nat} {spare : Nat → Bool} {held : Bool}
theorem lay_cells {d : Nat} {t : TypeId} {l : List (Option IntKind)} (h : lay P d t = some l) : P.cellsOf t = l.length := by
  simp [Program.cellsOf, lay_size h]
theorem fs_typed {d n : Nat} {cs : List Value} (IH : ∀ (t : TypeId) (l : List (Option IntKind)) (cs : List Value) (x : DataW H × List MemPlace), lay P d t = some l → DataW.trod enc P w base spare held n t cs = some x → Typed l cs) :
    ∀ (fs : List Field) (off : Nat) (l : List (Option IntKind)), layFs (lay P d) fs off = some l → (∀ f ∈ fs, ∃ y, DataW.trod enc P w base spare held n f.type ((cs.drop f.offset).take (P.cellsOf f.type)) = some y) → Typed l ((cs.drop off).take l.length)
  | [], off, l, h, _ => by
    simp only [layFs] at h
    cases h
    exact ⟨by simp, fun j k hj => by simp at hj⟩
  | f :: fs, off, l, h, hy => by
    obtain ⟨_, ho, l1, l2, h1, h2, rfl⟩ := layFs_cons h
    obtain ⟨y, hy1⟩ := hy f (by simp)
    have t1 := IH f.type l1 _ y h1 hy1
    rw [lay_cells h1, ho] at t1
    have t2 := fs_typed IH fs (off + l1.length) l2 h2 (fun g hg => hy g (by simp [hg]))
    have := t1.append t2
    rw [List.length_append, List.take_add, List.drop_drop]
    exact this
theorem trod_typed : ∀ (d : Nat) (t : TypeId) (l : List (Option IntKind)) (n : Nat) (cs : List Value) (x : DataW H × List MemPlace), lay P d t = some l → DataW.trod enc P w base spare held n t cs = some x → Typed l cs
  | 0, _, _, _, _, _, h, _ => by simp [lay] at h
  | d + 1, t, l, n, cs, x, h, hx => by
    cases hu : P.underlying t with
    | none => simp [lay, hu] at h
    | some q =>
      have h' := h
      cases q <;> simp [lay, hu] at h
      case bool =>
        obtain ⟨_, rfl⟩ := h
        obtain ⟨b, rfl, _⟩ := DataW.trod_bool hu hx
        refine ⟨rfl, fun j k hj => ?_⟩
        match j, hj with
        | 0, hj => cases hj; exact ⟨_, rfl, b, rfl⟩
      case int k =>
        obtain ⟨_, rfl⟩ := h
        obtain ⟨z, rfl, _, hz⟩ := DataW.trod_int hu hx
        refine ⟨rfl, fun j k' hj => ?_⟩
        match j, hj with
        | 0, hj => cases hj; exact ⟨_, rfl, z, rfl, hz⟩
      case struct fs =>
        obtain ⟨h1, _, hz⟩ := lay_struct hu h'
        obtain ⟨xs, m, _, _, hl, hlen, hf⟩ := DataW.trod_struct hu hx
        have hl' : cs.length = l.length := by rw [hl]; exact lay_cells h'
        have := fs_typed (cs := cs) (fun t l cs x h hx => trod_typed d t l m cs x h hx) fs.toList 0 l h1 (fun f hf' => by
          obtain ⟨i, hi, rfl⟩ := List.getElem_of_mem hf'
          have hi' : i < fs.size := by simpa using hi
          have := hf i fs[i] (by simp [hi'])
          rw [List.getElem?_eq_getElem (by omega)] at this
          exact ⟨_, this⟩)
        rw [List.drop_zero, List.take_of_length_le (by omega)] at this
        exact this
end
section
variable {P : Program} {H : Type} {enc : TypeId × Value → H} {w : World}
/-- A slice of flat elements opened. -/
theorem open_row {d n : Nat} {t e : TypeId} {l : List (Option IntKind)} {c : Value} {x : DataW H × List MemPlace} (ht : P.underlying t = some (.slice e)) (he : lay P d e = some l) (hl : 0 < l.length)
    (h : DataW.trod enc P w 0 (fun _ => true) true n t [c] = some x) : ∃ m xs, IsRow w l.length c m xs ∧ RowTyped l m xs := by
  rcases DataW.trod_slice ht h with ⟨hc, _⟩ | ⟨a, len, cap, elems, rest, k, _, hc, _, _, hlc, hm, hlen, hel, _, _⟩
  · refine ⟨0, [], ⟨by simp, .inl ⟨rfl, .inl (by simpa using hc)⟩⟩, by simp, fun i hi => by omega⟩
  · have hc' : c = .slice (some a) len cap := by simpa using hc
    rw [lay_cells he] at hel
    by_cases h0 : len = 0
    · subst h0
      exact ⟨0, [], ⟨by simp, .inl ⟨rfl, .inr ⟨a, cap, hc'⟩⟩⟩, by simp, fun i hi => by omega⟩
    · have each : ∀ i, i < len → ∃ cs, (∀ j, j < l.length → w.cell? ((a.add (i * l.length)).add j) = cs[j]?) ∧ Typed l cs := by
        intro i hi
        have := hel i hi
        rw [List.getElem?_eq_getElem (by omega)] at this
        obtain ⟨cs, h1, h2⟩ := Option.bind_eq_some_iff.1 this
        obtain ⟨_, _, h3⟩ := World.cells?_some h1
        exact ⟨cs, h3, trod_typed d e l k cs _ he h2⟩
      obtain ⟨b, off, spot⟩ := a
      have hspot : spot = none := by
        obtain ⟨cs, h1, h2⟩ := each 0 (by omega)
        have := h1 0 hl
        obtain ⟨v, hv⟩ : ∃ v, cs[0]? = some v := ⟨cs[0]'(by rw [h2.1]; exact hl), by simp⟩
        rw [hv] at this
        simpa [Addr.add] using World.cell?_spot this
      subst hspot
      have cell : ∀ i, i < len → ∃ cs, (∀ j, j < l.length → w.cell? ⟨b, off + (i * l.length + j), none⟩ = cs[j]?) ∧ Typed l cs := by
        intro i hi
        obtain ⟨cs, h1, h2⟩ := each i hi
        refine ⟨cs, fun j hj => ?_, h2⟩
        have := h1 j hj
        rw [Addr.add_mid, Addr.add_mid, Nat.add_assoc] at this
        exact this
      have hb : b < w.heap.size := by
        obtain ⟨cs, h1, h2⟩ := cell 0 (by omega)
        have := h1 0 hl
        obtain ⟨v, hv⟩ : ∃ v, cs[0]? = some v := ⟨cs[0]'(by rw [h2.1]; exact hl), by simp⟩
        rw [hv] at this
        exact World.block_lt_of_cell? w _ this
      have part : ∀ i, i < len → Typed l ((((List.range (len * l.length)).map fun j => (w.cell? ⟨b, off + j, none⟩).getD undef).drop (i * l.length)).take l.length) ∧ ∀ j, j < l.length → ∃ v, w.cell? ⟨b, off + (i * l.length + j), none⟩ = some v := by
        intro i hi
        obtain ⟨cs, h1, h2⟩ := cell i hi
        have hle : (i + 1) * l.length ≤ len * l.length := Nat.mul_le_mul_right _ hi
        rw [Nat.add_mul, Nat.one_mul] at hle
        have e : (((List.range (len * l.length)).map fun j => (w.cell? ⟨b, off + j, none⟩).getD undef).drop (i * l.length)).take l.length = cs := by
          apply List.ext_getElem?
          intro j
          by_cases hj : j < l.length
          · have hr : i * l.length + j < len * l.length := by omega
            rw [List.getElem?_take, if_pos hj, List.getElem?_drop, List.getElem?_map, List.getElem?_range hr]
            simp only [Option.map_some]
            rw [h1 j hj, List.getElem?_eq_getElem (by rw [h2.1]; exact hj)]
            rfl
          · rw [List.getElem?_eq_none (by simp; omega), List.getElem?_eq_none (by rw [h2.1]; omega)]
        refine ⟨e ▸ h2, fun j hj => ⟨cs[j]'(by rw [h2.1]; exact hj), ?_⟩⟩
        rw [h1 j hj]
        simp
      refine ⟨len, (List.range (len * l.length)).map fun j => (w.cell? ⟨b, off + j, none⟩).getD undef, ⟨by simp, .inr ⟨b, off, cap, hc', by omega, hlc, hm, hb, fun j v hv => ?_⟩⟩, by simp, fun i hi => (part i hi).1⟩
      have hj : j < len * l.length := by simpa using (List.getElem?_eq_some_iff.1 hv).1
      have hi : j / l.length < len := Nat.div_lt_of_lt_mul (by rw [Nat.mul_comm]; exact hj)
      obtain ⟨u, hu⟩ := (part _ hi).2 (j % l.length) (Nat.mod_lt _ hl)
      have e : j / l.length * l.length + j % l.length = j := by rw [Nat.mul_comm]; exact Nat.div_add_mod j _
      rw [e] at hu
      simp [List.getElem?_map, List.getElem?_range hj, hu] at hv
      rw [hu, hv]
end
theorem flatT_cons (h : Pt) (l : List Pt) : flatT (h :: l) = h.L ++ flatT l := by simp [flatT]
/-- A slice of settings that came in. -/
def SusAt (w : World) (v : Value) (L : List Pt) : Prop := ∃ a cap, v = .slice a L.length cap ∧ L.length ≤ 9223372036854775807 ∧ (0 < L.length → ∃ b off, a = some ⟨b, off, none⟩ ∧ b < w.heap.size ∧ L.length ≤ cap ∧ cap ≤ 9223372036854775807 ∧ w.rangeAt b off (flatT L))
theorem SusAt.pts {w : World} {v : Value} {L : List Pt} (h : SusAt w v L) (hL : L.length ≤ 1000) : PtsAt w v L := by
  obtain ⟨a, cap, e, hm, hf⟩ := h
  refine ⟨a, cap, e, by omega, fun h0 => ?_⟩
  obtain ⟨b, off, e1, hb, h1, h2, h3⟩ := hf h0
  refine ⟨b, off, e1, hb, h1, h2, fun i hi j v hv => ?_⟩
  have h4 := h3 (i * 5 + j) v (flat_at Pt.L 5 (fun _ => rfl) default L i j v hi hv)
  rw [Nat.add_assoc]
  exact h4
theorem lay_su : lay Tryz.prog 6 76 = some [some .u16, some .u32, none, none, none] := by kernel_rfl
theorem sus_of : ∀ (m : Nat) (xs : List Value), RowTyped [some .u16, some .u32, none, none, none] m xs → ∃ L : List Pt, L.length = m ∧ flatT L = xs ∧ ∀ h ∈ L, PtR h
  | 0, xs, h => ⟨[], rfl, by
      have := h.1
      rw [Nat.zero_mul] at this
      rw [List.length_eq_zero_iff.1 this]
      rfl, fun h hh => by cases hh⟩
  | m + 1, xs, h => by
    obtain ⟨h1, h2⟩ := h
    have e3 : ([some .u16, some .u32, none, none, none] : List (Option IntKind)).length = 5 := rfl
    rw [e3] at h1 h2
    obtain ⟨L, l1, l2, l3⟩ := sus_of m (xs.drop 5) ⟨by rw [e3, List.length_drop]; omega, fun i hi => by
      rw [e3, List.drop_drop]
      have := h2 (i + 1) (by omega)
      rw [show 5 + i * 5 = (i + 1) * 5 by omega]
      exact this⟩
    have ht := h2 0 (by omega)
    rw [Nat.zero_mul, List.drop_zero] at ht
    obtain ⟨z0, c0, w0⟩ := ht.int 0 .u16 rfl
    obtain ⟨z1, c1, w1⟩ := ht.int 1 .u32 rfl
    obtain ⟨z2, c2⟩ := ht.bool 2 rfl
    obtain ⟨z3, c3⟩ := ht.bool 3 rfl
    obtain ⟨z4, c4⟩ := ht.bool 4 rfl
    refine ⟨⟨z0, z1, z2, z3, z4⟩ :: L, by simp [l1], ?_, fun h hh => ?_⟩
    · rw [flatT_cons, l2, ← List.take_append_drop 5 xs, List.drop_append, List.length_take, Nat.min_eq_left (by omega), Nat.sub_self, List.drop_zero, List.drop_eq_nil_of_le (by rw [List.length_take]; omega), List.nil_append]
      congr 1
      apply List.ext_getElem?
      intro j
      match j with
      | 0 => exact c0.symm
      | 1 => exact c1.symm
      | 2 => exact c2.symm
      | 3 => exact c3.symm
      | 4 => exact c4.symm
      | j + 5 => rw [List.getElem?_eq_none (by show 5 ≤ _; omega), List.getElem?_eq_none (by rw [List.length_take]; omega)]
    · rcases List.mem_cons.1 hh with rfl | hh
      · have h0 := wf_u16 w0
        have h1 := wf_u32 w1
        unfold PtR
        dsimp only
        omega
      · exact l3 h hh
set_option maxRecDepth 100000 in
theorem open_sus {H : Type} {enc : TypeId × Value → H} {w : World} {r : Reach} {b0 : Nat} {v : Value} {d : DataW H} {p : List MemPlace}
    (hv : Value.okWide Tryz.prog w r b0 25 v) (h : DataW.Trod enc Tryz.prog w 0 (fun _ => true) true 25 v d p) : ∃ L : List Pt, SusAt w v L ∧ ∀ h ∈ L, PtR h := by
  obtain ⟨fuel, hf⟩ := h
  obtain ⟨a0, l0, c0, rfl⟩ := okWide_slice Tryz.underlying25 hv
  obtain ⟨m, xs, hr, ht⟩ := open_row Tryz.underlying25 lay_su (by decide) hf
  obtain ⟨L, rfl, rfl, hw⟩ := sus_of m xs ht
  refine ⟨L, ?_, hw⟩
  rcases hr.2 with ⟨h0, h1 | ⟨a, cap, h1⟩⟩ | ⟨b, off, cap, h1, g0, g1, g2, h2, h3⟩
  · cases h1
    exact ⟨_, 0, by rw [h0], by omega, fun h => by omega⟩
  · cases h1
    exact ⟨_, c0, by rw [h0], by omega, fun h => by omega⟩
  · cases h1
    unfold maxLen at g2
    exact ⟨_, c0, rfl, by omega, fun _ => ⟨b, off, rfl, h2, g1, by omega, h3⟩⟩
end Go.Proofs.YtpanapepcbbagaaGreat
namespace Go.Proofs.YtpanapepcbbagaaGreat
open Go.RowKit Go.BigFrame Go.WideShapes Go.ChangeShapes Go.Deep
set_option linter.unusedVariables false
set_option linter.unusedSimpArgs false
set_option maxRecDepth 100000
theorem pts_ext {w w' : World} {v : Value} {P : List Pt} (h : PtsAt w v P) (hx : Ext w w') : PtsAt w' v P := RowAt.ext h hx
set_option maxHeartbeats 4000000 in
theorem law_BridgeNew {w : World} (id : Int) (hi : 0 ≤ id ∧ id < 18446744073709551616) (rst : Bool) (ta : Int) (hta : -9223372036854775808 ≤ ta ∧ ta ≤ 9223372036854775807) (mx : Int) (hmx : -9223372036854775808 ≤ mx ∧ mx ≤ 9223372036854775807) (hl : Int) (hhl : -9223372036854775808 ≤ hl ∧ hl ≤ 9223372036854775807) (dl : Int) (hdl : -9223372036854775808 ≤ dl ∧ dl ≤ 9223372036854775807) (hold : Int) (hho : -9223372036854775808 ≤ hold ∧ hold ≤ 9223372036854775807) (v : Value) (P : List Pt) (hP : SusAt w v P) (hpr : ∀ p ∈ P, PtR p) :
    Calls Tryz.prog 3 #[.int .u64 id, .bool rst, .agg #[.int .i64 ta, .int .i64 mx, .int .i64 hl, .int .i64 dl], .int .i64 hold, v] w fun e w' => e = .returned (.bool true) ∧ Ext w w' := by
  have HA := Lib.hid (wf64 (show -9223372036854775808 ≤ ta ∧ ta < 9223372036854775808 by omega))
  have HM := Lib.hid (wf64 (show -9223372036854775808 ≤ mx ∧ mx < 9223372036854775808 by omega))
  have HL := Lib.hid (wf64 (show -9223372036854775808 ≤ hl ∧ hl < 9223372036854775808 by omega))
  have HD := Lib.hid (wf64 (show -9223372036854775808 ≤ dl ∧ dl < 9223372036854775808 by omega))
  have HO := Lib.hid (show -9223372036854775808 ≤ hold ∧ hold < 9223372036854775808 by omega)
  have HI := Lib.hid hi
  have HP := Lib.hid hP
  have HR := Lib.hid hpr
  obtain ⟨pa, pcap, rfl, hpm, -⟩ := hP
  clear hta hmx hhl hdl hho hi hpr
  go_enter Tryz.func3, Tryz.ntmps3
  go_wp2_with (first
    | fail
    | ((with_reducible refine at_box 24 ?_); refine bx_row rfl 24 _ rfl #[.int .i64 ta, .int .i64 mx, .int .i64 hl, .int .i64 dl] rfl ?_
       intro Y w1 hX hsz hx1
       have HY := Lib.hid hX
       have HX := Lib.hid hx1
       clear hX hsz hx1))
  refine (awake_any w1).mono ?_
  rintro e w2 ⟨rfl, hx⟩
  have HY2 := Lib.hid ((hx.block Y (heap_lt HY.out)).trans HY.out)
  have HX2 := Lib.hid (HX.out.trans hx)
  clear hx HY HX
  by_cases hn : P.length ≤ 40
  case neg =>
    have dgt : decide ((P.length : Int) > 40) = true := by simp; omega
    go_wp2_with fail
    go_ret
    exact ⟨rfl, HX2.out⟩
  have dgt : decide ((P.length : Int) > 40) = false := by simp; omega
  have HPT := Lib.hid (pts_ext (HP.out.pts (by omega)) HX2.out)
  go_wp2_with fail
  go_cut [12, 13] from 21 to 30 (fun s t wx => ∃ (X : Nat) (c : Array Value) (ok : Bool), s = .pointer (some ⟨X, 0, none⟩) ∧ t = .bool ok ∧ wx.heap[X]? = some (.cells c 35 (0, 0)) ∧ c.size = 20 ∧ (ok = true ↔ RightP (newA id rst ta mx hl dl hold P)) ∧ BrC wx c (pick ok (newA id rst ta mx hl dl hold P)) ∧ Ext w2 wx)
  case rest =>
    obtain ⟨X, c, ok, rfl, rfl, hrow, hsz, hok, hbr, hx⟩ := hcut
    rename World => w3
    have HROW := Lib.hid hrow
    have HSZ := Lib.hid hsz
    have HOK := Lib.hid hok
    have HBR := Lib.hid hbr
    have HX3 := Lib.hid (HX2.out.trans hx)
    have HY3 := Lib.hid ((hx.block Y (heap_lt HY2.out)).trans HY2.out)
    have HPT3 := Lib.hid (pts_ext HPT.out hx)
    clear hrow hsz hok hbr hx HX2 HY2 HPT
    go_wp2_with (first
      | fail
      | ((with_reducible refine at_load 24 ?_); refine wpList_load_row rfl 24 _ rfl Y rfl 24 #[.int .i64 ta, .int .i64 mx, .int .i64 hl, .int .i64 dl] (0, 0) _ HY3.out Tryz.underlying24 rfl size_tm ?_))
    refine (docbr_any id ta mx hl dl hold rst _ P w3 HPT3.out hn HI.out HO.out HR.out HA.out HM.out HL.out HD.out).mono ?_
    rintro e w4 ⟨c', ok', rfl, hok', hnew, hx4⟩
    obtain rfl : ok' = ok := Bool.eq_iff_iff.2 (hok'.trans HOK.out.symm)
    have HSZ' := Lib.hid hnew.sz
    have HBR' := Lib.hid (hnew.br ⟨rfl, rfl, rfl, rfl⟩)
    have HX4 := Lib.hid hx4
    clear hok' hnew hx4
    go_wp2_with (first
      | fail
      | ((with_reducible refine at_alloc 35 ?_); refine al_zero rfl 35 rfl BrZ zero_br ?_
         intro X' w5 hq hsz hx)
      | ((with_reducible refine at_store 35 ?_); refine st_all rfl rfl 35 _ _ rfl X' c' BrZ 35 rfl rfl hq HSZ'.out.1 size_brg HSZ'.out.2 ?_
         intro w6 hq6 hm6
         have hx6 : Ext w4 w6 := hx.mutE hm6 (fun g hg h => by have h2 : g = X' := h; omega)
         have HQ6 := Lib.hid hq6
         have HB1 := Lib.hid (BrC.ext HBR.out (HX4.out.trans hx6))
         have HB2 := Lib.hid (BrC.ext HBR'.out hx6)
         have HR1 := Lib.hid (((HX4.out.trans hx6).block X (heap_lt HROW.out)).trans HROW.out)
         have HX6 := Lib.hid (HX3.out.trans (HX4.out.trans hx6))
         have HZ1 := Lib.hid (show (Tryz.prog.info? 35).map (·.size) = some c.size from by rw [HSZ.out]; exact size_brg)
         have HZ2 := Lib.hid (show (Tryz.prog.info? 35).map (·.size) = some c'.size from by rw [HSZ'.out.1]; exact size_brg)
         clear hq hsz hx hq6 hm6 hx6 HBR HBR' HROW HX3 HX4)
      | ((with_reducible refine at_loadG 35 ?_); refine wpList_load_rowG rfl 35 _ rfl X rfl 35 c (0, 0) _ HR1.out Tryz.underlying35 rfl HZ1.out ?_)
      | ((with_reducible refine at_loadG 35 ?_); refine wpList_load_rowG rfl 35 _ rfl X' rfl 35 c' (0, 0) _ HQ6.out Tryz.underlying35 rfl HZ2.out ?_))
    refine (same_any c c' (pick ok' (newA id rst ta mx hl dl hold P)) w6 HB1.out HB2.out (pick_ok (newA_ok (wfu64 HI.out) HA.out HM.out HL.out HD.out (wf64 HO.out) HR.out))).mono ?_
    rintro e w7 ⟨rfl, hx7⟩
    go_wp2_with fail
    go_ret
    exact ⟨rfl, HX6.out.trans hx7⟩
  refine beginL (S := fun W' => Ext w2 W') (by kernel_rfl) ?_
  intro wd hqx
  have hq0 : Ext w2 wd := hqx
  refine tLp 0 ((.int .u64 id)) rfl hq0 ?_
  simp only [ps]
  refine tLp 1 ((.bool rst)) rfl hq0 ?_
  simp only [ps]
  refine tL 2 (_) rfl (yieldsIf_rowS rfl 24 _ rfl Y rfl #[.int .i64 ta, .int .i64 mx, .int .i64 hl, .int .i64 dl] _ _ (fun W' hW' => (hW'.block Y (heap_lt HY2.out)).trans HY2.out) Tryz.underlying24 rfl size_tm) hq0 ?_
  simp only [ps]
  refine tLp 3 ((.int .i64 hold)) rfl hq0 ?_
  simp only [ps]
  refine tLp 4 ((.slice pa P.length pcap)) rfl hq0 ?_
  simp only [ps]
  refine runL2 (i := 5) (j := 10) rfl rfl rfl rfl (by kernel_rfl) (fun K hK => ?_) (fun K hK => ?_)
  · go_simp
    refine (setups_any wd _ P (pts_ext HPT.out hq0) hn).mono ?_
    rintro e wc ⟨v5, rfl, hp5, hxc⟩
    have hqc : Ext w2 wc := hq0.trans hxc
    refine hK.out _ _ hqc (fun _ => ?_)
    try simp only [ps]
    clear hK K
    refine runL2 (i := 6) (j := 10) rfl rfl rfl rfl (by kernel_rfl) (fun K hK => ?_) (fun K hK => ?_)
    · go_simp
      refine (newbr_gen id ta mx hl dl hold rst v5 P wc hp5 hn HI.out HO.out HR.out HA.out HM.out HL.out HD.out).mono ?_
      rintro e wn ⟨c, ok, rfl, hok, hnew, hxn⟩
      have hqn : Ext w2 wn := hqc.trans hxn
      refine hK.out _ _ hqn (fun _ => ?_)
      try simp only [ps]
      clear hK K
      refine tLp 7 ((.tuple #[.agg c, .bool ok])) rfl hqn ?_
      simp only [ps]
      refine tLp 8 ((.agg c)) rfl hqn ?_
      simp only [ps]
      refine tLp 9 ((.bool ok)) rfl hqn ?_
      simp only [ps]
      refine runL (i := 10) rfl rfl (by kernel_rfl) (fun K hK => ?_)
      refine wp_al_zero 35 rfl BrZ zero_br (fun X wv hvb hsz hxv => ?_)
      have hqv : Ext w2 wv := hqn.trans hxv
      have hlo : w2.heap.size ≤ X := by have := hqn.size; omega
      refine hK.out _ _ hqv (fun _ => ?_)
      try simp only [ps]
      clear hK K
      refine runL (i := 11) rfl rfl (by kernel_rfl) (fun K hK => ?_)
      refine wp_st_all rfl 35 _ _ rfl X c BrZ 35 rfl rfl hvb hnew.sz.1 size_brg hnew.sz.2 (fun wz hrow hm => ?_)
      have hxz : Ext w2 wz := Ext.mutE hqv hm (fun j hj h => by have h2 : j = X := h; omega)
      have hbz := NewIs.br (hnew.ext (hxv.mutE hm (fun g hg h => by have h2 : g = X := h; omega))) ⟨rfl, rfl, rfl, rfl⟩
      refine hK.out _ _ hxz (fun _ => ?_)
      try simp only [ps]
      clear hK K
      refine tLp 12 ((.bool ok)) rfl hxz ?_
      simp only [ps]
      refine wpAnyH_done (by kernel_rfl) ?_ _
      go_wp2_with fail
      go_meet
      exact ⟨X, c, ok, rfl, rfl, hrow, hnew.sz.1, hok, hbz, hxz⟩
    · refine wp_al_zero 35 rfl BrZ zero_br (fun X wv hvb hsz hxv => ?_)
      have hqv : Ext w2 wv := hqc.trans hxv
      have hXv : X < wv.heap.size := heap_lt hvb
      have hlo : w2.heap.size ≤ X := by have := hqc.size; omega
      refine hK.out _ _ hqv (fun _ => ?_)
      try simp only [ps]
      clear hK K
      refine runL (i := 6) rfl rfl (by kernel_rfl) (fun K hK => ?_)
      go_simp
      refine (newbr_gen id ta mx hl dl hold rst v5 P wv (pts_ext hp5 hxv) hn HI.out HO.out HR.out HA.out HM.out HL.out HD.out).mono ?_
      rintro e wn ⟨c, ok, rfl, hok, hnew, hxn⟩
      have hqn : Ext w2 wn := hqv.trans hxn
      refine hK.out _ _ hqn (fun _ => ?_)
      try simp only [ps]
      clear hK K
      refine tLp 7 ((.tuple #[.agg c, .bool ok])) rfl hqn ?_
      simp only [ps]
      refine tLp 8 ((.agg c)) rfl hqn ?_
      simp only [ps]
      refine tLp 9 ((.bool ok)) rfl hqn ?_
      simp only [ps]
      replace hvb := (hxn.block X (heap_lt hvb)).trans hvb
      refine runL (i := 11) rfl rfl (by kernel_rfl) (fun K hK => ?_)
      refine wp_st_all rfl 35 _ _ rfl X c BrZ 35 rfl rfl hvb hnew.sz.1 size_brg hnew.sz.2 (fun wz hrow hm => ?_)
      have hxz : Ext w2 wz := Ext.mutE hqn hm (fun j hj h => by have h2 : j = X := h; omega)
      have hbz := NewIs.br (hnew.mut hm hXv) ⟨rfl, rfl, rfl, rfl⟩
      refine hK.out _ _ hxz (fun _ => ?_)
      try simp only [ps]
      clear hK K
      refine tLp 12 ((.bool ok)) rfl hxz ?_
      simp only [ps]
      refine wpAnyH_done (by kernel_rfl) ?_ _
      go_wp2_with fail
      go_meet
      exact ⟨X, c, ok, rfl, rfl, hrow, hnew.sz.1, hok, hbz, hxz⟩
  · refine wp_al_zero 35 rfl BrZ zero_br (fun X wv hvb hsz hxv => ?_)
    have hqv : Ext w2 wv := hq0.trans hxv
    have hXv : X < wv.heap.size := heap_lt hvb
    have hlo : w2.heap.size ≤ X := by have := hq0.size; omega
    refine hK.out _ _ hqv (fun _ => ?_)
    try simp only [ps]
    clear hK K
    refine runL (i := 5) rfl rfl (by kernel_rfl) (fun K hK => ?_)
    go_simp
    refine (setups_any wv _ P (pts_ext HPT.out hqv) hn).mono ?_
    rintro e wc ⟨v5, rfl, hp5, hxc⟩
    have hqc : Ext w2 wc := hqv.trans hxc
    refine hK.out _ _ hqc (fun _ => ?_)
    try simp only [ps]
    clear hK K
    refine runL (i := 6) rfl rfl (by kernel_rfl) (fun K hK => ?_)
    go_simp
    refine (newbr_gen id ta mx hl dl hold rst v5 P wc hp5 hn HI.out HO.out HR.out HA.out HM.out HL.out HD.out).mono ?_
    rintro e wn ⟨c, ok, rfl, hok, hnew, hxn⟩
    have hqn : Ext w2 wn := hqc.trans hxn
    refine hK.out _ _ hqn (fun _ => ?_)
    try simp only [ps]
    clear hK K
    refine tLp 7 ((.tuple #[.agg c, .bool ok])) rfl hqn ?_
    simp only [ps]
    refine tLp 8 ((.agg c)) rfl hqn ?_
    simp only [ps]
    refine tLp 9 ((.bool ok)) rfl hqn ?_
    simp only [ps]
    replace hvb := ((hxc.trans hxn).block X (heap_lt hvb)).trans hvb
    refine runL (i := 11) rfl rfl (by kernel_rfl) (fun K hK => ?_)
    refine wp_st_all rfl 35 _ _ rfl X c BrZ 35 rfl rfl hvb hnew.sz.1 size_brg hnew.sz.2 (fun wz hrow hm => ?_)
    have hxz : Ext w2 wz := Ext.mutE hqn hm (fun j hj h => by have h2 : j = X := h; omega)
    have hbz := NewIs.br (hnew.mut hm (Nat.lt_of_lt_of_le hXv hxc.size)) ⟨rfl, rfl, rfl, rfl⟩
    refine hK.out _ _ hxz (fun _ => ?_)
    try simp only [ps]
    clear hK K
    refine tLp 12 ((.bool ok)) rfl hxz ?_
    simp only [ps]
    refine wpAnyH_done (by kernel_rfl) ?_ _
    go_wp2_with fail
    go_meet
    exact ⟨X, c, ok, rfl, rfl, hrow, hnew.sz.1, hok, hbz, hxz⟩
end Go.Proofs.YtpanapepcbbagaaGreat
