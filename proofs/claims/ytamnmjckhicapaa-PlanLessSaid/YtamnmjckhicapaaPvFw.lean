/- Part 23 of what PlanVersions stands on. No statement is proved here. -/
import Derived.Test.YtamnmjckhicapaaPvFv
namespace Go.Proofs.Ytamnmjckhicapaa
open Go.RowKit Go.BigFrame Go.WideShapes Go.ChangeShapes Go.Deep
set_option linter.unusedVariables false
set_option linter.unusedSimpArgs false
set_option maxRecDepth 100000
set_option maxRecDepth 100000 in
set_option maxHeartbeats 16000000 in
theorem law_PlanVersions {w : World} (v : Value) (t : Tn) (ht : TinyA w v t) (hr : TnR t) (u : Int) (hu : 0 ≤ u ∧ u < 256) (rst : Int) (hrs : 0 ≤ rst ∧ rst < 256) (edge : Int) (hed : 0 ≤ edge ∧ edge < 256) :
    Calls Try.prog 7 #[v, .int .u8 u, .int .u8 rst, .int .u8 edge] w fun e w' => e = .returned (.bool true) ∧ Ext w w' := by
  obtain ⟨a, b, hv, hab⟩ := id ht
  subst hv
  have ha1 : a.oneCell' = true := by obtain ⟨_, _, e, _⟩ := hab.1; rw [e]; rfl
  have hb1 : b.oneCell' = true := by obtain ⟨_, ⟨_, _, e, _⟩, _⟩ := hab.2.1; rw [e]; rfl
  have HO0 := Lib.hid (show (#[.int .u8 t.rst, a, b, .int .u8 t.edge] : Array Value).toList.all (·.oneCell') = true from by
    show (true && (a.oneCell' && (b.oneCell' && true))) = true
    rw [ha1, hb1]
    rfl)
  have HT := Lib.hid ht
  have HTW := Lib.hid (ht.with hrs hed)
  have HR := Lib.hid hr
  have HU := Lib.hid hu
  clear ht hr hu hab ha1 hb1
  go_enter Try.func7, Try.ntmps7
  go_wp2_with (first
    | fail
    | ((with_reducible refine at_box 25 ?_); refine bx_row rfl 25 _ rfl #[.int .u8 t.rst, a, b, .int .u8 t.edge] rfl ?_
       intro X wa hX hsz hx1
       have HXa := Lib.hid (show BoxAt wa X #[.int .u8 t.rst, a, b, .int .u8 t.edge] 25 from hX)
       have HEa := Lib.hid hx1
       clear hX hsz hx1))
  refine (awake_any wa).mono ?_
  rintro e w1 ⟨rfl, hx1⟩
  have HX1 := Lib.hid (HXa.out.ext hx1)
  have HE1 := Lib.hid (HEa.out.trans hx1)
  clear hx1
  go_wp2_with (first
    | fail
    | ((with_reducible refine at_load 25 ?_); refine wpList_load_row rfl 25 _ rfl X rfl 25 #[.int .u8 t.rst, a, b, .int .u8 t.edge] (0, 0) _ HX1.out Try.underlying25 rfl size_ti ?_))
  have htin := HT.out
  refine (tiny_any (.agg #[.int .u8 t.rst, a, b, .int .u8 t.edge]) t w1 (by obtain ⟨a', b', e1, h1, h2, h3⟩ := htin; exact ⟨a', b', e1, h1.ext HE1.out, h2.ext HE1.out, h3⟩)).mono ?_
  clear htin
  rintro e w2 ⟨nv, sv, rfl, h1, h2, h3, hx2⟩
  obtain ⟨ok, hok⟩ : ∃ ok, okT t = ok := ⟨_, rfl⟩
  rw [hok] at h3 ⊢
  have HOK := Lib.hid hok
  have H3 := Lib.hid h3
  have HX2 := Lib.hid (HX1.out.ext hx2)
  have HE2 := Lib.hid (HE1.out.trans hx2)
  have HON := Lib.hid (show (#[.int .i64 0, .int .i64 20, .int .i64 2, .int .i64 15, .int .i64 6, .int .i64 20, .int .i64 300, nv, sv] : Array Value).toList.all (·.oneCell') = true from by
    show (true && (true && (true && (true && (true && (true && (true && (nv.oneCell' && (sv.oneCell' && true))))))))) = true
    rw [h1, h2]
    rfl)
  clear h1 h2 h3 hx2 hok
  go_wp2_with (first
    | fail
    | ((with_reducible refine at_alloc 32 ?_); refine al_zero rfl 32 rfl NZ zero_rn ?_
       intro V w3 hq3 hsz3 hx3)
    | ((with_reducible refine at_store 32 ?_); refine st_at rfl rfl 32 _ _ rfl V 0 _ #[.int .i64 0, .int .i64 20, .int .i64 2, .int .i64 15, .int .i64 6, .int .i64 20, .int .i64 300, nv, sv] NZ #[.int .i64 0, .int .i64 20, .int .i64 2, .int .i64 15, .int .i64 6, .int .i64 20, .int .i64 300, nv, sv] 32 rfl rfl rfl hq3 (by exact (by decide : 0 + 9 ≤ 9)) (by kernel_rfl) HON.out rfl ?_
       intro w4 hq4 hm4
       have E4 : Ext w2 w4 := hx3.mutE hm4 (fun g hg h => by have h2 : g = V := h; omega)
       have HV4 := Lib.hid (show BoxAt w4 V #[.int .i64 0, .int .i64 20, .int .i64 2, .int .i64 15, .int .i64 6, .int .i64 20, .int .i64 300, nv, sv] 32 from hq4)
       have HX4 := Lib.hid (HX2.out.ext E4)
       have HE4 := Lib.hid E4
       clear hq3 hsz3 hx3 hq4 hm4 E4 w3)
    | ((with_reducible refine at_load 25 ?_); refine wpList_load_row rfl 25 _ rfl X rfl 25 #[.int .u8 t.rst, a, b, .int .u8 t.edge] (0, 0) _ HX4.out Try.underlying25 rfl size_ti ?_)
    | ((with_reducible refine at_alloc 25 ?_); refine al_zero rfl 25 rfl TiZ zero_ti ?_
       intro Y w5 hq5 hsz5 hx5)
    | ((with_reducible refine at_store 25 ?_); refine st_at rfl rfl 25 _ _ rfl Y 0 _ #[.int .u8 t.rst, a, b, .int .u8 t.edge] TiZ #[.int .u8 t.rst, a, b, .int .u8 t.edge] 25 rfl rfl rfl hq5 (by exact (by decide : 0 + 4 ≤ 4)) (by kernel_rfl) HO0.out rfl ?_
       intro w6 hq6 hm6
       have E6 : Ext w4 w6 := hx5.mutE hm6 (fun g hg h => by have h2 : g = Y := h; omega)
       have HY6 := Lib.hid hq6
       have HE6 := Lib.hid E6
       have HYW := Lib.hid (show w4.heap.size ≤ Y from Nat.le_of_eq hsz5)
       clear hq5 hsz5 hx5 hq6 hm6 E6 w5)
    | ((with_reducible refine at_store 5 ?_); refine st_at rfl rfl 5 _ _ rfl Y 3 _ #[.int .u8 edge] #[.int .u8 rst, a, b, .int .u8 t.edge] #[.int .u8 rst, a, b, .int .u8 edge] 25 rfl rfl rfl HY7.out (by exact (by decide : 3 + 1 ≤ 4)) (by kernel_rfl) rfl rfl ?_
       intro w8 hq8 hm8
       have HY8 := Lib.hid (show BoxAt w8 Y #[.int .u8 rst, a, b, .int .u8 edge] 25 from hq8)
       have HE8 := Lib.hid (HE7.out.mutE hm8 (fun g hg h => by have h2 : g = Y := h; have h3 := HYW.out; omega))
       clear hq8 hm8)
    | ((with_reducible refine at_store 5 ?_); refine st_at rfl rfl 5 _ _ rfl Y 0 _ #[.int .u8 rst] #[.int .u8 t.rst, a, b, .int .u8 t.edge] #[.int .u8 rst, a, b, .int .u8 t.edge] 25 rfl rfl rfl HY6.out (by exact (by decide : 0 + 1 ≤ 4)) (by kernel_rfl) rfl rfl ?_
       intro w7 hq7 hm7
       have HY7 := Lib.hid hq7
       have HE7 := Lib.hid (HE6.out.mutE hm7 (fun g hg h => by have h2 : g = Y := h; have h3 := HYW.out; omega))
       clear hq7 hm7)
    | ((with_reducible refine at_load 25 ?_); refine wpList_load_row rfl 25 _ rfl Y rfl 25 #[.int .u8 rst, a, b, .int .u8 edge] (0, 0) _ HY8.out Try.underlying25 rfl size_ti ?_))
  have HE9 := Lib.hid (HE2.out.trans (HE4.out.trans HE8.out))
  have htin := HTW.out
  refine (tiny_any (.agg #[.int .u8 rst, a, b, .int .u8 edge]) (t.with rst edge) w8 (by obtain ⟨a', b', e1, h1, h2, h3⟩ := htin; exact ⟨a', b', e1, h1.ext HE9.out, h2.ext HE9.out, h3⟩)).mono ?_
  clear htin
  rintro e w9 ⟨mv, tv, rfl, h1, h2, h3, hx9⟩
  rw [with_ok, HOK.out] at h3 ⊢
  have HM3 := Lib.hid h3
  have HV9 := Lib.hid (HV4.out.ext (HE8.out.trans hx9))
  have HX9 := Lib.hid (HE9.out.trans hx9)
  have HN9 := Lib.hid (show ok = true → NodesAt w9 nv (nodesT t) ∧ SegsAt w9 sv (segsT t) from fun h => by
    obtain ⟨q1, q2⟩ := H3.out h
    have hx := HE4.out.trans (HE8.out.trans hx9)
    exact ⟨q1.ext hx, q2.ext hx⟩)
  have HOM := Lib.hid (show (#[.int .i64 0, .int .i64 20, .int .i64 2, .int .i64 15, .int .i64 6, .int .i64 20, .int .i64 300, mv, tv] : Array Value).toList.all (·.oneCell') = true from by
    show (true && (true && (true && (true && (true && (true && (true && (mv.oneCell' && (tv.oneCell' && true))))))))) = true
    rw [h1, h2]
    rfl)
  clear h1 h2 h3 hx9 HE9
  cases ok with
  | false =>
    go_wp2_with (first
      | fail
      | ((with_reducible refine at_alloc 32 ?_); refine al_zero rfl 32 rfl NZ zero_rn ?_
         intro W w10 hq10 hsz10 hx10)
      | ((with_reducible refine at_store 32 ?_); refine st_at rfl rfl 32 _ _ rfl W 0 _ #[.int .i64 0, .int .i64 20, .int .i64 2, .int .i64 15, .int .i64 6, .int .i64 20, .int .i64 300, mv, tv] NZ #[.int .i64 0, .int .i64 20, .int .i64 2, .int .i64 15, .int .i64 6, .int .i64 20, .int .i64 300, mv, tv] 32 rfl rfl rfl hq10 (by exact (by decide : 0 + 9 ≤ 9)) (by kernel_rfl) HOM.out rfl ?_
         intro w11 hq11 hm11
         have HE11 := Lib.hid (HX9.out.trans (hx10.mutE hm11 (fun g hg h => by have h2 : g = W := h; omega)))
         clear hq10 hsz10 hx10 hq11 hm11))
    go_ret
    exact ⟨rfl, HE11.out⟩
  | true =>
    have hn9 := HN9.out rfl
    have hm9 := HM3.out rfl
    have HNT := Lib.hid hn9
    have HMT := Lib.hid hm9
    clear hn9 hm9 HN9 HM3
    go_wp2_with (first
      | fail
      | ((with_reducible refine at_alloc 32 ?_); refine al_zero rfl 32 rfl NZ zero_rn ?_
         intro W w10 hq10 hsz10 hx10)
      | ((with_reducible refine at_store 32 ?_); refine st_at rfl rfl 32 _ _ rfl W 0 _ #[.int .i64 0, .int .i64 20, .int .i64 2, .int .i64 15, .int .i64 6, .int .i64 20, .int .i64 300, mv, tv] NZ #[.int .i64 0, .int .i64 20, .int .i64 2, .int .i64 15, .int .i64 6, .int .i64 20, .int .i64 300, mv, tv] 32 rfl rfl rfl hq10 (by exact (by decide : 0 + 9 ≤ 9)) (by kernel_rfl) HOM.out rfl ?_
         intro w11 hq11 hm11
         have E11 : Ext w9 w11 := hx10.mutE hm11 (fun g hg h => by have h2 : g = W := h; omega)
         have HW11 := Lib.hid (show BoxAt w11 W #[.int .i64 0, .int .i64 20, .int .i64 2, .int .i64 15, .int .i64 6, .int .i64 20, .int .i64 300, mv, tv] 32 from hq11)
         have HV11 := Lib.hid (HV9.out.ext E11)
         have HE11 := Lib.hid E11
         clear hq10 hsz10 hx10 hq11 hm11 E11)
      | ((with_reducible refine at_load 32 ?_); refine wpList_load_row rfl 32 _ rfl V rfl 32 #[.int .i64 0, .int .i64 20, .int .i64 2, .int .i64 15, .int .i64 6, .int .i64 20, .int .i64 300, nv, sv] (0, 0) _ HV11.out Try.underlying32 rfl size_rn ?_))
    refine (mynet_any nv sv t w11 (HNT.out.1.ext HE11.out) (HNT.out.2.ext HE11.out) HR.out HOK.out).mono ?_
    rintro e w12 ⟨nv1, sv1, rfl, hnet, -, -, hx12⟩
    have HN12 := Lib.hid hnet
    have HE12 := Lib.hid (HE11.out.trans hx12)
    have HW12 := Lib.hid (HW11.out.ext hx12)
    have HV12 := Lib.hid (HV11.out.ext hx12)
    clear hnet hx12
    go_wp2_with fail
    refine (ups_any u w12 HU.out).mono ?_
    rintro e w13 ⟨uv, rfl, hub, hx13⟩
    go_wp2_with fail
    refine (plan_any nv1 sv1 uv _ _ _ w13 (HN12.out.ext hx13) hub).mono ?_
    rintro e w14 ⟨pv, rfl, hpl, hx14⟩
    have HE14 := Lib.hid (HE12.out.trans (hx13.trans hx14))
    have HW14 := Lib.hid (HW12.out.ext (hx13.trans hx14))
    have HV14 := Lib.hid (HV12.out.ext (hx13.trans hx14))
    obtain ⟨n, hn⟩ : ∃ n, t.ports.length = n := ⟨_, rfl⟩
    have hn1 : 1 ≤ n ∧ n ≤ 5 := by obtain ⟨q1, q2, _⟩ := okT_spec HOK.out; omega
    have HNN := Lib.hid hn
    obtain ⟨aa, ao, ca, ba, bo, cb, cc, da, dof, cd, ac, rfl, hcell⟩ := plan_open (n := n) hpl (by rw [planF_root_len, nodesT_len]; exact hn) (by rw [planF_cost_len, nodesT_len]; exact hn) (by rw [planF_roles_len, nodesT_len]; exact hn) hn1.1
    obtain ⟨q, hq⟩ : ∃ q, planF (nodesT t) (raisedL (upsL u) (segsT t)) = q := ⟨_, rfl⟩
    rw [hq] at hcell ⊢
    have HQ := Lib.hid hq
    have HC1 := Lib.hid hcell
    clear hub hx13 hpl hx14 hn hq hcell
    go_wp2_with (first
      | fail
      | ((with_reducible refine at_alloc 42 ?_); refine al_zero rfl 42 rfl PNZ zero_pn ?_
         intro A1 w15 hq15 hsz15 hx15)
      | ((with_reducible refine at_store 42 ?_); refine st_at rfl rfl 42 _ _ rfl A1 0 _ #[.slice (some ⟨aa, ao, none⟩) n ca, .slice (some ⟨ba, bo, none⟩) n cb, .slice ac q.by_.length cc, .slice (some ⟨da, dof, none⟩) n cd] PNZ #[.slice (some ⟨aa, ao, none⟩) n ca, .slice (some ⟨ba, bo, none⟩) n cb, .slice ac q.by_.length cc, .slice (some ⟨da, dof, none⟩) n cd] 42 rfl rfl rfl hq15 (by exact (by decide : 0 + 4 ≤ 4)) (by kernel_rfl) rfl rfl ?_
         intro w16 hq16 hm16
         have E16 : Ext w14 w16 := hx15.mutE hm16 (fun g hg h => by have h2 : g = A1 := h; omega)
         have HA16 := Lib.hid (show BoxAt w16 A1 #[.slice (some ⟨aa, ao, none⟩) n ca, .slice (some ⟨ba, bo, none⟩) n cb, .slice ac q.by_.length cc, .slice (some ⟨da, dof, none⟩) n cd] 42 from hq16)
         have HW16 := Lib.hid (HW14.out.ext E16)
         have HV16 := Lib.hid (HV14.out.ext E16)
         have HE16 := Lib.hid E16
         clear hq15 hsz15 hx15 hq16 hm16 E16)
      | ((with_reducible refine at_load 32 ?_); refine wpList_load_row rfl 32 _ rfl W rfl 32 #[.int .i64 0, .int .i64 20, .int .i64 2, .int .i64 15, .int .i64 6, .int .i64 20, .int .i64 300, mv, tv] (0, 0) _ HW16.out Try.underlying32 rfl size_rn ?_))
    have HE9a := Lib.hid (HE14.out.trans HE16.out)
    refine (mynet_any mv tv (t.with rst edge) w16 (HMT.out.1.ext HE9a.out) (HMT.out.2.ext HE9a.out) (with_r HR.out rst edge) (by rw [with_ok]; exact HOK.out)).mono ?_
    rintro e w17 ⟨nv2, sv2, rfl, hnet, -, -, hx17⟩
    have HN17 := Lib.hid hnet
    have HE17 := Lib.hid (HE16.out.trans hx17)
    have HA17 := Lib.hid (HA16.out.ext hx17)
    have HV17 := Lib.hid (HV16.out.ext hx17)
    clear hnet hx17
    go_wp2_with fail
    refine (ups_any u w17 HU.out).mono ?_
    rintro e w18 ⟨uv2, rfl, hub, hx18⟩
    go_wp2_with fail
    refine (plan_any nv2 sv2 uv2 _ _ _ w18 (HN17.out.ext hx18) hub).mono ?_
    rintro e w19 ⟨pv, rfl, hpl, hx19⟩
    rw [plan_with] at hpl
    have HE19 := Lib.hid (HE17.out.trans (hx18.trans hx19))
    have HA19 := Lib.hid (HA17.out.ext (hx18.trans hx19))
    have HV19 := Lib.hid (HV17.out.ext (hx18.trans hx19))
    obtain ⟨aa2, ao2, ca2, ba2, bo2, cb2, cc2, da2, dof2, cd2, ac2, rfl, hcell⟩ := plan_open (n := n) hpl (by rw [planF_root_len, nodesT_len]; exact HNN.out) (by rw [planF_cost_len, nodesT_len]; exact HNN.out) (by rw [planF_roles_len, nodesT_len]; exact HNN.out) hn1.1
    rw [HQ.out] at hcell ⊢
    have HC2 := Lib.hid hcell
    have hnf := HNT.out.1.form (by rw [nodesT_len, HNN.out]; exact hn1.1)
    obtain ⟨nb, no, ncap, hnve⟩ := hnf
    rw [nodesT_len, HNN.out] at hnve
    have HNV := Lib.hid hnve
    clear hub hx18 hpl hx19 hcell
    go_wp2_with (first
      | fail
      | ((with_reducible refine at_alloc 42 ?_); refine al_zero rfl 42 rfl PNZ zero_pn ?_
         intro A2 w20 hq20 hsz20 hx20)
      | ((with_reducible refine at_store 42 ?_); refine st_at rfl rfl 42 _ _ rfl A2 0 _ #[.slice (some ⟨aa2, ao2, none⟩) n ca2, .slice (some ⟨ba2, bo2, none⟩) n cb2, .slice ac2 q.by_.length cc2, .slice (some ⟨da2, dof2, none⟩) n cd2] PNZ #[.slice (some ⟨aa2, ao2, none⟩) n ca2, .slice (some ⟨ba2, bo2, none⟩) n cb2, .slice ac2 q.by_.length cc2, .slice (some ⟨da2, dof2, none⟩) n cd2] 42 rfl rfl rfl hq20 (by exact (by decide : 0 + 4 ≤ 4)) (by kernel_rfl) rfl rfl ?_
         intro w21 hq21 hm21
         have E21 : Ext w19 w21 := hx20.mutE hm21 (fun g hg h => by have h2 : g = A2 := h; omega)
         have HB21 := Lib.hid (show BoxAt w21 A2 #[.slice (some ⟨aa2, ao2, none⟩) n ca2, .slice (some ⟨ba2, bo2, none⟩) n cb2, .slice ac2 q.by_.length cc2, .slice (some ⟨da2, dof2, none⟩) n cd2] 42 from hq21)
         have HA21 := Lib.hid (HA19.out.ext E21)
         have HV21 := Lib.hid (HV19.out.ext E21)
         have HE21 := Lib.hid E21
         have p0 : w21.cell? ⟨A1, 0, none⟩ = some (.slice (some ⟨aa, ao, none⟩) n ca) := HA21.out.cell 0 rfl
         have p1 : w21.cell? ⟨A1, 1, none⟩ = some (.slice (some ⟨ba, bo, none⟩) n cb) := HA21.out.cell 1 rfl
         have p3 : w21.cell? ⟨A1, 3, none⟩ = some (.slice (some ⟨da, dof, none⟩) n cd) := HA21.out.cell 3 rfl
         have r0 : w21.cell? ⟨A2, 0, none⟩ = some (.slice (some ⟨aa2, ao2, none⟩) n ca2) := HB21.out.cell 0 rfl
         have r1 : w21.cell? ⟨A2, 1, none⟩ = some (.slice (some ⟨ba2, bo2, none⟩) n cb2) := HB21.out.cell 1 rfl
         have r3 : w21.cell? ⟨A2, 3, none⟩ = some (.slice (some ⟨da2, dof2, none⟩) n cd2) := HB21.out.cell 3 rfl
         have v7 : w21.cell? ⟨V, 7, none⟩ = some (.slice (some ⟨nb, no, none⟩) n ncap) := by rw [← hnve]; exact HV21.out.cell 7 rfl
         clear hq20 hsz20 hx20 hq21 hm21 E21))
    clear p0 p1 p3 r0 r1 r3 v7 hnve
    have HEL := Lib.hid (HE19.out.trans HE21.out)
    go_loopw [17] (fun s wr => ∃ (i : Nat) (wo : World), wo = wr ∧ s = .int .i64 i ∧ i ≤ n ∧ Ext w21 wo) (fun s _ => n - (intOf s).toNat)
    case atStart => exact ⟨0, _, rfl, rfl, by omega, Ext.refl _⟩
    case round =>
      obtain ⟨i, wo, rfl, rfl, hi, hx⟩ := hrel
      rename World => wl
      have HXL := Lib.hid hx
      have p3 : wl.cell? ⟨A1, 3, none⟩ = some (.slice (some ⟨da, dof, none⟩) n cd) := (HA21.out.ext hx).cell 3 rfl
      have hup : IntKind.i64.wrap ((i : Int) + 1) = ((i + 1 : Nat) : Int) := by rw [IntKind.wrap_i64]; omega
      clear hx
      by_cases hlt : i < n
      · have dlt : decide ((i : Int) < (n : Int)) = true := by simp; omega
        obtain ⟨hr1, hc1, rv1, hd1, hi1⟩ := HC1.out wl (HEL.out.trans HXL.out) i hlt
        obtain ⟨hr2, hc2, rv2, hd2, hi2⟩ := HC2.out wl (HE21.out.trans HXL.out) i hlt
        obtain ⟨RL, hRL⟩ : ∃ RL, q.roles.getD i [] = RL := ⟨_, rfl⟩
        have hrl : RL.length ≤ 10000 := by
          rw [← hRL, ← HQ.out, planF_role_len (by rw [nodesT_len, HNN.out]; exact hlt), nodesT_ports t (by rw [HNN.out]; exact hlt), ptsT_len]
          have := (okT_spec HOK.out).2.2 i (by rw [HNN.out]; exact hlt)
          omega
        rw [hRL] at hi1 hi2
        obtain ⟨xr, hxr⟩ : ∃ x, at0 q.root i = x := ⟨_, rfl⟩
        obtain ⟨xc, hxc⟩ : ∃ x, at0 q.cost i = x := ⟨_, rfl⟩
        rw [hxr] at hr1 hr2
        rw [hxc] at hc1 hc2
        have HI1 := Lib.hid hi1
        have HI2 := Lib.hid hi2
        have keep : ∀ {p : Addr} {u : Value}, wl.cell? p = some u → ∀ W', Ext wl W' → W'.cell? p = some u := fun h W' hx => (hx.cell (World.block_lt_of_cell? wl _ h)).trans h
        have K1 := Lib.hid (keep hr1)
        have K2 := Lib.hid (keep hr2)
        have K3 := Lib.hid (keep hc1)
        have K4 := Lib.hid (keep hc2)
        have K5 := Lib.hid (keep hd1)
        have K6 := Lib.hid (keep hd2)
        have HAL := Lib.hid (HA21.out.ext HXL.out)
        have HBL := Lib.hid (HB21.out.ext HXL.out)
        clear hr1 hr2 hc1 hc2 hd1 hd2 hi1 hi2 hRL hxr hxc keep
        go_wp2_with fail
        refine beginL (S := fun W' => Ext wl W') (by kernel_rfl) ?_
        intro wd hqx
        have hq0 : Ext wl wd := hqx
        refine tLp 0 ((.pointer (some ⟨A1, 3, none⟩))) rfl hq0 ?_
        simp only [ps]
        refine tL 1 (_) rfl (yieldsIf_cell rfl 40 _ rfl ⟨A1, 3, none⟩ rfl (.slice (some ⟨da, dof, none⟩) n cd) _ (fun W' hW' => (HAL.out.ext hW').cell 3 rfl) Try.underlying40 rfl) hq0 ?_
        simp only [ps]
        refine tLp 2 ((.int .i64 (i : Int))) rfl hq0 ?_
        simp only [ps]
        refine tL 3 ((.pointer (some ⟨da, dof + i, none⟩))) rfl (Or.inl ⟨rfl, fun W' _ => by go_simp <;> (intro h; omega)⟩) hq0 ?_
        simp only [ps]
        refine tL 4 (_) rfl (yieldsIf_cell rfl 56 _ rfl ⟨da, dof + i, none⟩ rfl rv1 _ (fun W' hW' => K5.out W' hW') Try.underlying56 rfl) hq0 ?_
        simp only [ps]
        refine tLp 5 ((.pointer (some ⟨A2, 3, none⟩))) rfl hq0 ?_
        simp only [ps]
        refine tL 6 (_) rfl (yieldsIf_cell rfl 40 _ rfl ⟨A2, 3, none⟩ rfl (.slice (some ⟨da2, dof2, none⟩) n cd2) _ (fun W' hW' => (HBL.out.ext hW').cell 3 rfl) Try.underlying40 rfl) hq0 ?_
        simp only [ps]
        refine tLp 7 ((.int .i64 (i : Int))) rfl hq0 ?_
        simp only [ps]
        refine tL 8 ((.pointer (some ⟨da2, dof2 + i, none⟩))) rfl (Or.inl ⟨rfl, fun W' _ => by go_simp <;> (intro h; omega)⟩) hq0 ?_
        simp only [ps]
        refine tL 9 (_) rfl (yieldsIf_cell rfl 56 _ rfl ⟨da2, dof2 + i, none⟩ rfl rv2 _ (fun W' hW' => K6.out W' hW') Try.underlying56 rfl) hq0 ?_
        simp only [ps]
        refine runL (i := 10) rfl rfl (by kernel_rfl) (fun K hK => ?_)
        go_simp
        refine (ints_any wd rv1 rv2 RL (HI1.out.ext hq0) (HI2.out.ext hq0) hrl).mono ?_
        rintro e wc1 ⟨rfl, hx⟩
        have hq1 := hq0.trans hx
        refine hK.out _ _ hq1 (fun hHeld => ?_)
        try simp only [ps]
        clear hK K hHeld
        refine tLp 11 ((.bool false)) rfl hq1 ?_
        simp only [ps]
        refine tLp 12 ((.bool false)) rfl hq1 ?_
        simp only [ps]
        refine tLp 13 ((.pointer (some ⟨A1, 0, none⟩))) rfl hq1 ?_
        simp only [ps]
        refine tL 14 (_) rfl (yieldsIf_cell rfl 37 _ rfl ⟨A1, 0, none⟩ rfl (.slice (some ⟨aa, ao, none⟩) n ca) _ (fun W' hW' => (HAL.out.ext hW').cell 0 rfl) Try.underlying37 rfl) hq1 ?_
        simp only [ps]
        refine tLp 15 ((.int .i64 (i : Int))) rfl hq1 ?_
        simp only [ps]
        refine tL 16 ((.pointer (some ⟨aa, ao + i, none⟩))) rfl (Or.inl ⟨rfl, fun W' _ => by go_simp <;> (intro h; omega)⟩) hq1 ?_
        simp only [ps]
        refine tL 17 (_) rfl (yieldsIf_cell rfl 53 _ rfl ⟨aa, ao + i, none⟩ rfl (.int .u64 xr) _ (fun W' hW' => K1.out W' hW') Try.underlying53 rfl) hq1 ?_
        simp only [ps]
        refine tLp 18 ((.pointer (some ⟨A2, 0, none⟩))) rfl hq1 ?_
        simp only [ps]
        refine tL 19 (_) rfl (yieldsIf_cell rfl 37 _ rfl ⟨A2, 0, none⟩ rfl (.slice (some ⟨aa2, ao2, none⟩) n ca2) _ (fun W' hW' => (HBL.out.ext hW').cell 0 rfl) Try.underlying37 rfl) hq1 ?_
        simp only [ps]
        refine tLp 20 ((.int .i64 (i : Int))) rfl hq1 ?_
        simp only [ps]
        refine tL 21 ((.pointer (some ⟨aa2, ao2 + i, none⟩))) rfl (Or.inl ⟨rfl, fun W' _ => by go_simp <;> (intro h; omega)⟩) hq1 ?_
        simp only [ps]
        refine tL 22 (_) rfl (yieldsIf_cell rfl 53 _ rfl ⟨aa2, ao2 + i, none⟩ rfl (.int .u64 xr) _ (fun W' hW' => K2.out W' hW') Try.underlying53 rfl) hq1 ?_
        simp only [ps]
        refine tL 23 ((.bool false)) rfl (Or.inl ⟨rfl, fun W' _ => by go_simp⟩) hq1 ?_
        simp only [ps]
        refine tLp 24 ((.bool false)) rfl hq1 ?_
        simp only [ps]
        refine tLp 25 ((.bool false)) rfl hq1 ?_
        simp only [ps]
        refine tLp 26 ((.pointer (some ⟨A1, 1, none⟩))) rfl hq1 ?_
        simp only [ps]
        refine tL 27 (_) rfl (yieldsIf_cell rfl 38 _ rfl ⟨A1, 1, none⟩ rfl (.slice (some ⟨ba, bo, none⟩) n cb) _ (fun W' hW' => (HAL.out.ext hW').cell 1 rfl) Try.underlying38 rfl) hq1 ?_
        simp only [ps]
        refine tLp 28 ((.int .i64 (i : Int))) rfl hq1 ?_
        simp only [ps]
        refine tL 29 ((.pointer (some ⟨ba, bo + i, none⟩))) rfl (Or.inl ⟨rfl, fun W' _ => by go_simp <;> (intro h; omega)⟩) hq1 ?_
        simp only [ps]
        refine tL 30 (_) rfl (yieldsIf_cell rfl 54 _ rfl ⟨ba, bo + i, none⟩ rfl (.int .u32 xc) _ (fun W' hW' => K3.out W' hW') Try.underlying54 rfl) hq1 ?_
        simp only [ps]
        refine tLp 31 ((.pointer (some ⟨A2, 1, none⟩))) rfl hq1 ?_
        simp only [ps]
        refine tL 32 (_) rfl (yieldsIf_cell rfl 38 _ rfl ⟨A2, 1, none⟩ rfl (.slice (some ⟨ba2, bo2, none⟩) n cb2) _ (fun W' hW' => (HBL.out.ext hW').cell 1 rfl) Try.underlying38 rfl) hq1 ?_
        simp only [ps]
        refine tLp 33 ((.int .i64 (i : Int))) rfl hq1 ?_
        simp only [ps]
        refine tL 34 ((.pointer (some ⟨ba2, bo2 + i, none⟩))) rfl (Or.inl ⟨rfl, fun W' _ => by go_simp <;> (intro h; omega)⟩) hq1 ?_
        simp only [ps]
        refine tL 35 (_) rfl (yieldsIf_cell rfl 54 _ rfl ⟨ba2, bo2 + i, none⟩ rfl (.int .u32 xc) _ (fun W' hW' => K4.out W' hW') Try.underlying54 rfl) hq1 ?_
        simp only [ps]
        refine tL 36 ((.bool false)) rfl (Or.inl ⟨rfl, fun W' _ => by go_simp⟩) hq1 ?_
        simp only [ps]
        refine tLp 37 ((.bool false)) rfl hq1 ?_
        simp only [ps]
        refine wpAnyH_done (by kernel_rfl) ?_ _
        go_wp2_with fail
        go_roundw
        case rel => exact ⟨i + 1, _, rfl, by go_num, hlt, HXL.out.trans hq1⟩
        case measure => simp [intOf] <;> omega
      · have dlt : decide ((i : Int) < (n : Int)) = false := by simp; omega
        obtain rfl : n = i := by omega
        have HVL := Lib.hid (HV21.out.ext HXL.out)
        have HWL := Lib.hid (HX9.out.trans (HE14.out.trans (HEL.out.trans HXL.out)))
        have HN9L := Lib.hid (HE14.out.trans (HEL.out.trans HXL.out))
        go_wp2_with (first
          | fail
          | ((with_reducible refine at_load 32 ?_); refine wpList_load_row rfl 32 _ rfl V rfl 32 #[.int .i64 0, .int .i64 20, .int .i64 2, .int .i64 15, .int .i64 6, .int .i64 20, .int .i64 300, nv, sv] (0, 0) _ HVL.out Try.underlying32 rfl size_rn ?_))
        refine (mynet_any nv sv t wl (HNT.out.1.ext HN9L.out) (HNT.out.2.ext HN9L.out) HR.out HOK.out).mono ?_
        rintro e w22 ⟨nv3, sv3, rfl, hnet, h1, h2, hx22⟩
        have HN22 := Lib.hid hnet
        have HE22 := Lib.hid (HWL.out.trans hx22)
        have HO3 := Lib.hid (show (#[.int .i64 0, .int .i64 20, .int .i64 2, .int .i64 15, .int .i64 6, .int .i64 20, .int .i64 300, nv3, sv3] : Array Value).toList.all (·.oneCell') = true from by
          show (true && (true && (true && (true && (true && (true && (true && (nv3.oneCell' && (sv3.oneCell' && true))))))))) = true
          rw [h1, h2]
          rfl)
        clear hnet hx22 h1 h2
        go_wp2_with (first
          | fail
          | ((with_reducible refine at_alloc 47 ?_); refine al_zero rfl 47 rfl NZ zero_ln ?_
             intro Z w23 hq23 hsz23 hx23)
          | ((with_reducible refine at_store 47 ?_); refine st_at rfl rfl 47 _ _ rfl Z 0 _ #[.int .i64 0, .int .i64 20, .int .i64 2, .int .i64 15, .int .i64 6, .int .i64 20, .int .i64 300, nv3, sv3] NZ #[.int .i64 0, .int .i64 20, .int .i64 2, .int .i64 15, .int .i64 6, .int .i64 20, .int .i64 300, nv3, sv3] 47 rfl rfl rfl hq23 (by exact (by decide : 0 + 9 ≤ 9)) (by kernel_rfl) HO3.out rfl ?_
             intro w24 hq24 hm24
             have HZ24 := Lib.hid (show BoxAt w24 Z #[.int .i64 0, .int .i64 20, .int .i64 2, .int .i64 15, .int .i64 6, .int .i64 20, .int .i64 300, nv3, sv3] 47 from hq24)
             have HE24 := Lib.hid (hx23.mutE hm24 (fun g hg h => by have h2 : g = Z := h; omega))
             have HZW := Lib.hid (show w22.heap.size ≤ Z from Nat.le_of_eq hsz23)
             clear hq23 hsz23 hx23 hq24 hm24 w23)
          | ((with_reducible refine at_store 3 ?_); refine st_at rfl rfl 3 _ _ rfl Z 4 _ #[.int .i64 0] #[.int .i64 0, .int .i64 20, .int .i64 2, .int .i64 15, .int .i64 6, .int .i64 20, .int .i64 300, nv3, sv3] #[.int .i64 0, .int .i64 20, .int .i64 2, .int .i64 15, .int .i64 0, .int .i64 20, .int .i64 300, nv3, sv3] 47 rfl rfl rfl HZ24.out (by exact (by decide : 4 + 1 ≤ 9)) (by kernel_rfl) rfl rfl ?_
             intro w25 hq25 hm25
             have HZ25 := Lib.hid (show BoxAt w25 Z #[.int .i64 0, .int .i64 20, .int .i64 2, .int .i64 15, .int .i64 0, .int .i64 20, .int .i64 300, nv3, sv3] 47 from hq25)
             have HE25 := Lib.hid (HE24.out.mutE hm25 (fun g hg h => by have h2 : g = Z := h; have h3 := HZW.out; omega))
             clear hq25 hm25))
        refine beginL (S := fun W' => Ext w25 W') (by kernel_rfl) ?_
        intro wd hqx
        have hq0 : Ext w25 wd := hqx
        refine tL 0 (_) rfl (yieldsIf_rowS rfl 47 _ rfl Z rfl #[.int .i64 0, .int .i64 20, .int .i64 2, .int .i64 15, .int .i64 0, .int .i64 20, .int .i64 300, nv3, sv3] _ _ (fun W' hW' => HZ25.out.ext hW') Try.underlying47 rfl size_net) hq0 ?_
        simp only [ps]
        refine tLp 1 ((.int .u8 u)) rfl hq0 ?_
        simp only [ps]
        refine runL2 (i := 2) (j := 4) rfl rfl rfl rfl (by kernel_rfl) (fun K hK => ?_) (fun K hK => ?_)
        · go_simp
          refine (ups_any u wd HU.out).mono ?_
          rintro e wc1 ⟨uv3, rfl, hub3, hx⟩
          have hq1 := hq0.trans hx
          refine hK.out _ _ hq1 (fun hHeld => ?_)
          try simp only [ps]
          clear hK K hHeld
          refine runL2 (i := 3) (j := 4) rfl rfl rfl rfl (by kernel_rfl) (fun K hK => ?_) (fun K hK => ?_)
          · go_simp
            refine (noplan_any nv3 sv3 uv3 _ _ wc1 (HN22.out.ext (HE25.out.trans (by assumption)))).mono ?_
            rintro e wc2 ⟨rfl, hx⟩
            have hq2 := hq1.trans hx
            refine hK.out _ _ hq2 (fun hHeld => ?_)
            try simp only [ps]
            clear hK K hHeld
            refine runL (i := 4) rfl rfl (by kernel_rfl) (fun K hK => ?_)
            refine wp_al_zero 42 rfl PNZ zero_pn (fun B wa4 hrow4 hsz4 hx => ?_)
            have hq3 := hq2.trans hx
            have hlo4 : w25.heap.size ≤ B := by have := hq2.size; omega
            clear hx
            refine hK.out _ _ hq3 (fun hHeld => ?_)
            try simp only [ps]
            clear hK K hHeld
            refine runL (i := 5) rfl rfl (by kernel_rfl) (fun K hK => ?_)
            refine wp_st_at rfl 42 _ _ rfl B 0 _ PNZ _ PNZ _ rfl rfl rfl hrow4 (by exact (by decide : 0 + 4 ≤ 4)) (by kernel_rfl) rfl rfl (fun ws5 hrow5 hm => ?_)
            have hq4 : Ext w25 ws5 := Ext.mutE hq3 hm (fun n hn h => by have h2 : n = B := h; omega)
            clear hm
            refine hK.out _ _ hq4 (fun hHeld => ?_)
            try simp only [ps]
            clear hK K hHeld
            refine wpAnyH_done (by kernel_rfl) ?_ _
            have HB5 := Lib.hid hrow5
            have HN26 := Lib.hid (HN22.out.ext (HE25.out.trans hq4))
            have HZ26 := Lib.hid (HZ25.out.ext hq4)
            have HE26 := Lib.hid (HE22.out.trans (HE25.out.trans hq4))
            clear hq0 hq1 hq2 hq3 hq4 hrow5 hqx
            try clear hrow4
            try clear hlo4
            go_wp2_with fail
            refine beginL (S := fun W' => Ext ws5 W') (by kernel_rfl) ?_
            intro wd hqx
            have hq0 : Ext ws5 wd := hqx
            refine tLp 0 ((.bool true)) rfl hq0 ?_
            simp only [ps]
            refine tLp 1 ((.bool true)) rfl hq0 ?_
            simp only [ps]
            refine tLp 2 ((.pointer (some ⟨B, 3, none⟩))) rfl hq0 ?_
            simp only [ps]
            refine tL 3 (_) rfl (yieldsIf_cell rfl 40 _ rfl ⟨B, 3, none⟩ rfl (.slice none 0 0) _ (fun W' hW' => (show W'.cell? ⟨B, 3, none⟩ = _ by rw [cell_row ((hW'.block _ (heap_lt HB5.out)).trans HB5.out)]; rfl)) Try.underlying40 rfl) hq0 ?_
            simp only [ps]
            refine tL 4 ((.int .i64 0)) rfl (Or.inl ⟨rfl, fun W' _ => by go_simp⟩) hq0 ?_
            simp only [ps]
            refine tLp 5 ((.pointer (some ⟨B, 2, none⟩))) rfl hq0 ?_
            simp only [ps]
            refine tL 6 (_) rfl (yieldsIf_cell rfl 39 _ rfl ⟨B, 2, none⟩ rfl (.slice none 0 0) _ (fun W' hW' => (show W'.cell? ⟨B, 2, none⟩ = _ by rw [cell_row ((hW'.block _ (heap_lt HB5.out)).trans HB5.out)]; rfl)) Try.underlying39 rfl) hq0 ?_
            simp only [ps]
            refine tL 7 ((.int .i64 0)) rfl (Or.inl ⟨rfl, fun W' _ => by go_simp⟩) hq0 ?_
            simp only [ps]
            refine tL 8 ((.int .i64 0)) rfl (Or.inl ⟨rfl, fun W' _ => by go_simp <;> decide⟩) hq0 ?_
            simp only [ps]
            refine tL 9 (_) rfl (yieldsIf_rowS rfl 47 _ rfl Z rfl #[.int .i64 0, .int .i64 20, .int .i64 2, .int .i64 15, .int .i64 0, .int .i64 20, .int .i64 300, nv3, sv3] _ _ (fun W' hW' => HZ26.out.ext hW') Try.underlying47 rfl size_net) hq0 ?_
            simp only [ps]
            refine tLp 10 ((.int .u8 u)) rfl hq0 ?_
            simp only [ps]
            refine runG (i := 11) rfl (by rfl) (by kernel_rfl) (fun K hK => ?_)
            go_simp
            refine (ups_any u wd HU.out).mono ?_
            rintro e wc1 ⟨uv4, rfl, hub4, hx⟩
            have hq1 := hq0.trans hx
            refine hK.out _ _ hq1 (fun hHeld => ?_)
            try simp only [ps]
            clear hK K hHeld
            refine runG (i := 12) rfl (by rfl) (by kernel_rfl) (fun K hK => ?_)
            go_simp
            refine (noparts_any nv3 sv3 uv4 _ _ wc1 (HN26.out.ext (by assumption))).mono ?_
            rintro e wc2 ⟨rfl, hx⟩
            have hq2 := hq1.trans hx
            refine hK.out _ _ hq2 (fun hHeld => ?_)
            try simp only [ps]
            clear hK K hHeld
            refine tL 13 ((.int .i64 0)) rfl (Or.inl ⟨rfl, fun W' _ => by go_simp⟩) hq2 ?_
            simp only [ps]
            refine tL 14 ((.int .i64 0)) rfl (Or.inl ⟨rfl, fun W' _ => by go_simp <;> decide⟩) hq2 ?_
            simp only [ps]
            refine tL 15 ((.bool true)) rfl (Or.inl ⟨rfl, fun W' _ => by go_simp⟩) hq2 ?_
            simp only [ps]
            refine tLp 16 ((.bool true)) rfl hq2 ?_
            simp only [ps]
            refine tLp 17 ((.bool true)) rfl hq2 ?_
            simp only [ps]
            refine wpAnyH_done (by kernel_rfl) ?_ _
            go_wp2_with fail
            go_ret
            exact ⟨rfl, HE26.out.trans (by assumption)⟩
          · refine wp_al_zero 42 rfl PNZ zero_pn (fun B wa4 hrow4 hsz4 hx => ?_)
            have hq2 := hq1.trans hx
            have hlo4 : w25.heap.size ≤ B := by have := hq1.size; omega
            clear hx
            refine hK.out _ _ hq2 (fun hHeld => ?_)
            try simp only [ps]
            clear hK K hHeld
            refine runL (i := 3) rfl rfl (by kernel_rfl) (fun K hK => ?_)
            go_simp
            refine (noplan_any nv3 sv3 uv3 _ _ wa4 (HN22.out.ext (HE25.out.trans (by assumption)))).mono ?_
            rintro e wc3 ⟨rfl, hx⟩
            have hq3 := hq2.trans hx
            have hrow4 := (hx.block _ (heap_lt hrow4)).trans hrow4
            refine hK.out _ _ hq3 (fun hHeld => ?_)
            try simp only [ps]
            clear hK K hHeld
            refine runL (i := 5) rfl rfl (by kernel_rfl) (fun K hK => ?_)
            refine wp_st_at rfl 42 _ _ rfl B 0 _ PNZ _ PNZ _ rfl rfl rfl hrow4 (by exact (by decide : 0 + 4 ≤ 4)) (by kernel_rfl) rfl rfl (fun ws5 hrow5 hm => ?_)
            have hq4 : Ext w25 ws5 := Ext.mutE hq3 hm (fun n hn h => by have h2 : n = B := h; omega)
            clear hm
            refine hK.out _ _ hq4 (fun hHeld => ?_)
            try simp only [ps]
            clear hK K hHeld
            refine wpAnyH_done (by kernel_rfl) ?_ _
            have HB5 := Lib.hid hrow5
            have HN26 := Lib.hid (HN22.out.ext (HE25.out.trans hq4))
            have HZ26 := Lib.hid (HZ25.out.ext hq4)
            have HE26 := Lib.hid (HE22.out.trans (HE25.out.trans hq4))
            clear hq0 hq1 hq2 hq3 hq4 hrow5 hqx
            try clear hrow4
            try clear hlo4
            go_wp2_with fail
            refine beginL (S := fun W' => Ext ws5 W') (by kernel_rfl) ?_
            intro wd hqx
            have hq0 : Ext ws5 wd := hqx
            refine tLp 0 ((.bool true)) rfl hq0 ?_
            simp only [ps]
            refine tLp 1 ((.bool true)) rfl hq0 ?_
            simp only [ps]
            refine tLp 2 ((.pointer (some ⟨B, 3, none⟩))) rfl hq0 ?_
            simp only [ps]
            refine tL 3 (_) rfl (yieldsIf_cell rfl 40 _ rfl ⟨B, 3, none⟩ rfl (.slice none 0 0) _ (fun W' hW' => (show W'.cell? ⟨B, 3, none⟩ = _ by rw [cell_row ((hW'.block _ (heap_lt HB5.out)).trans HB5.out)]; rfl)) Try.underlying40 rfl) hq0 ?_
            simp only [ps]
            refine tL 4 ((.int .i64 0)) rfl (Or.inl ⟨rfl, fun W' _ => by go_simp⟩) hq0 ?_
            simp only [ps]
            refine tLp 5 ((.pointer (some ⟨B, 2, none⟩))) rfl hq0 ?_
            simp only [ps]
            refine tL 6 (_) rfl (yieldsIf_cell rfl 39 _ rfl ⟨B, 2, none⟩ rfl (.slice none 0 0) _ (fun W' hW' => (show W'.cell? ⟨B, 2, none⟩ = _ by rw [cell_row ((hW'.block _ (heap_lt HB5.out)).trans HB5.out)]; rfl)) Try.underlying39 rfl) hq0 ?_
            simp only [ps]
            refine tL 7 ((.int .i64 0)) rfl (Or.inl ⟨rfl, fun W' _ => by go_simp⟩) hq0 ?_
            simp only [ps]
            refine tL 8 ((.int .i64 0)) rfl (Or.inl ⟨rfl, fun W' _ => by go_simp <;> decide⟩) hq0 ?_
            simp only [ps]
            refine tL 9 (_) rfl (yieldsIf_rowS rfl 47 _ rfl Z rfl #[.int .i64 0, .int .i64 20, .int .i64 2, .int .i64 15, .int .i64 0, .int .i64 20, .int .i64 300, nv3, sv3] _ _ (fun W' hW' => HZ26.out.ext hW') Try.underlying47 rfl size_net) hq0 ?_
            simp only [ps]
            refine tLp 10 ((.int .u8 u)) rfl hq0 ?_
            simp only [ps]
            refine runG (i := 11) rfl (by rfl) (by kernel_rfl) (fun K hK => ?_)
            go_simp
            refine (ups_any u wd HU.out).mono ?_
            rintro e wc1 ⟨uv4, rfl, hub4, hx⟩
            have hq1 := hq0.trans hx
            refine hK.out _ _ hq1 (fun hHeld => ?_)
            try simp only [ps]
            clear hK K hHeld
            refine runG (i := 12) rfl (by rfl) (by kernel_rfl) (fun K hK => ?_)
            go_simp
            refine (noparts_any nv3 sv3 uv4 _ _ wc1 (HN26.out.ext (by assumption))).mono ?_
            rintro e wc2 ⟨rfl, hx⟩
            have hq2 := hq1.trans hx
            refine hK.out _ _ hq2 (fun hHeld => ?_)
            try simp only [ps]
            clear hK K hHeld
            refine tL 13 ((.int .i64 0)) rfl (Or.inl ⟨rfl, fun W' _ => by go_simp⟩) hq2 ?_
            simp only [ps]
            refine tL 14 ((.int .i64 0)) rfl (Or.inl ⟨rfl, fun W' _ => by go_simp <;> decide⟩) hq2 ?_
            simp only [ps]
            refine tL 15 ((.bool true)) rfl (Or.inl ⟨rfl, fun W' _ => by go_simp⟩) hq2 ?_
            simp only [ps]
            refine tLp 16 ((.bool true)) rfl hq2 ?_
            simp only [ps]
            refine tLp 17 ((.bool true)) rfl hq2 ?_
            simp only [ps]
            refine wpAnyH_done (by kernel_rfl) ?_ _
            go_wp2_with fail
            go_ret
            exact ⟨rfl, HE26.out.trans (by assumption)⟩
        · refine wp_al_zero 42 rfl PNZ zero_pn (fun B wa4 hrow4 hsz4 hx => ?_)
          have hq1 := hq0.trans hx
          have hlo4 : w25.heap.size ≤ B := by have := hq0.size; omega
          clear hx
          refine hK.out _ _ hq1 (fun hHeld => ?_)
          try simp only [ps]
          clear hK K hHeld
          refine runL (i := 2) rfl rfl (by kernel_rfl) (fun K hK => ?_)
          go_simp
          refine (ups_any u wa4 HU.out).mono ?_
          rintro e wc2 ⟨uv3, rfl, hub3, hx⟩
          have hq2 := hq1.trans hx
          have hrow4 := (hx.block _ (heap_lt hrow4)).trans hrow4
          refine hK.out _ _ hq2 (fun hHeld => ?_)
          try simp only [ps]
          clear hK K hHeld
          refine runL (i := 3) rfl rfl (by kernel_rfl) (fun K hK => ?_)
          go_simp
          refine (noplan_any nv3 sv3 uv3 _ _ wc2 (HN22.out.ext (HE25.out.trans (by assumption)))).mono ?_
          rintro e wc3 ⟨rfl, hx⟩
          have hq3 := hq2.trans hx
          have hrow4 := (hx.block _ (heap_lt hrow4)).trans hrow4
          refine hK.out _ _ hq3 (fun hHeld => ?_)
          try simp only [ps]
          clear hK K hHeld
          refine runL (i := 5) rfl rfl (by kernel_rfl) (fun K hK => ?_)
          refine wp_st_at rfl 42 _ _ rfl B 0 _ PNZ _ PNZ _ rfl rfl rfl hrow4 (by exact (by decide : 0 + 4 ≤ 4)) (by kernel_rfl) rfl rfl (fun ws5 hrow5 hm => ?_)
          have hq4 : Ext w25 ws5 := Ext.mutE hq3 hm (fun n hn h => by have h2 : n = B := h; omega)
          clear hm
          refine hK.out _ _ hq4 (fun hHeld => ?_)
          try simp only [ps]
          clear hK K hHeld
          refine wpAnyH_done (by kernel_rfl) ?_ _
          have HB5 := Lib.hid hrow5
          have HN26 := Lib.hid (HN22.out.ext (HE25.out.trans hq4))
          have HZ26 := Lib.hid (HZ25.out.ext hq4)
          have HE26 := Lib.hid (HE22.out.trans (HE25.out.trans hq4))
          clear hq0 hq1 hq2 hq3 hq4 hrow5 hqx
          try clear hrow4
          try clear hlo4
          go_wp2_with fail
          refine beginL (S := fun W' => Ext ws5 W') (by kernel_rfl) ?_
          intro wd hqx
          have hq0 : Ext ws5 wd := hqx
          refine tLp 0 ((.bool true)) rfl hq0 ?_
          simp only [ps]
          refine tLp 1 ((.bool true)) rfl hq0 ?_
          simp only [ps]
          refine tLp 2 ((.pointer (some ⟨B, 3, none⟩))) rfl hq0 ?_
          simp only [ps]
          refine tL 3 (_) rfl (yieldsIf_cell rfl 40 _ rfl ⟨B, 3, none⟩ rfl (.slice none 0 0) _ (fun W' hW' => (show W'.cell? ⟨B, 3, none⟩ = _ by rw [cell_row ((hW'.block _ (heap_lt HB5.out)).trans HB5.out)]; rfl)) Try.underlying40 rfl) hq0 ?_
          simp only [ps]
          refine tL 4 ((.int .i64 0)) rfl (Or.inl ⟨rfl, fun W' _ => by go_simp⟩) hq0 ?_
          simp only [ps]
          refine tLp 5 ((.pointer (some ⟨B, 2, none⟩))) rfl hq0 ?_
          simp only [ps]
          refine tL 6 (_) rfl (yieldsIf_cell rfl 39 _ rfl ⟨B, 2, none⟩ rfl (.slice none 0 0) _ (fun W' hW' => (show W'.cell? ⟨B, 2, none⟩ = _ by rw [cell_row ((hW'.block _ (heap_lt HB5.out)).trans HB5.out)]; rfl)) Try.underlying39 rfl) hq0 ?_
          simp only [ps]
          refine tL 7 ((.int .i64 0)) rfl (Or.inl ⟨rfl, fun W' _ => by go_simp⟩) hq0 ?_
          simp only [ps]
          refine tL 8 ((.int .i64 0)) rfl (Or.inl ⟨rfl, fun W' _ => by go_simp <;> decide⟩) hq0 ?_
          simp only [ps]
          refine tL 9 (_) rfl (yieldsIf_rowS rfl 47 _ rfl Z rfl #[.int .i64 0, .int .i64 20, .int .i64 2, .int .i64 15, .int .i64 0, .int .i64 20, .int .i64 300, nv3, sv3] _ _ (fun W' hW' => HZ26.out.ext hW') Try.underlying47 rfl size_net) hq0 ?_
          simp only [ps]
          refine tLp 10 ((.int .u8 u)) rfl hq0 ?_
          simp only [ps]
          refine runG (i := 11) rfl (by rfl) (by kernel_rfl) (fun K hK => ?_)
          go_simp
          refine (ups_any u wd HU.out).mono ?_
          rintro e wc1 ⟨uv4, rfl, hub4, hx⟩
          have hq1 := hq0.trans hx
          refine hK.out _ _ hq1 (fun hHeld => ?_)
          try simp only [ps]
          clear hK K hHeld
          refine runG (i := 12) rfl (by rfl) (by kernel_rfl) (fun K hK => ?_)
          go_simp
          refine (noparts_any nv3 sv3 uv4 _ _ wc1 (HN26.out.ext (by assumption))).mono ?_
          rintro e wc2 ⟨rfl, hx⟩
          have hq2 := hq1.trans hx
          refine hK.out _ _ hq2 (fun hHeld => ?_)
          try simp only [ps]
          clear hK K hHeld
          refine tL 13 ((.int .i64 0)) rfl (Or.inl ⟨rfl, fun W' _ => by go_simp⟩) hq2 ?_
          simp only [ps]
          refine tL 14 ((.int .i64 0)) rfl (Or.inl ⟨rfl, fun W' _ => by go_simp <;> decide⟩) hq2 ?_
          simp only [ps]
          refine tL 15 ((.bool true)) rfl (Or.inl ⟨rfl, fun W' _ => by go_simp⟩) hq2 ?_
          simp only [ps]
          refine tLp 16 ((.bool true)) rfl hq2 ?_
          simp only [ps]
          refine tLp 17 ((.bool true)) rfl hq2 ?_
          simp only [ps]
          refine wpAnyH_done (by kernel_rfl) ?_ _
          go_wp2_with fail
          go_ret
          exact ⟨rfl, HE26.out.trans (by assumption)⟩
end Go.Proofs.Ytamnmjckhicapaa
