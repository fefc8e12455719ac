/- The machine of information: its step, by the document. No statement is proved here. -/
import Derived.Test.YthfoacgdkoijeaaInfO
import Derived.Test.YthfoacgdkoijeaaInfH
import Derived.Deep.Light
import Derived.StillTailTactics
namespace Go.Proofs.Ythfoacgdkoijeaa
open Go.RowKit Go.BigFrame Go.WideShapes Go.ChangeShapes Go.Deep
set_option linter.unusedVariables false
set_option linter.unusedSimpArgs false

theorem stp0 {B : Br} {k : Nat} {L : List Value} (hp : port B.ps k = L) (hk : k * 89 + 89 ≤ B.ps.length) (h : irowL L = 0) : infF B k = (false, B) := by
  unfold infF infL
  rw [hp, h]
  show (false, B.setPort k L) = _
  rw [← hp, setPort_self hk]
theorem stp1 {B : Br} {k : Nat} {L : List Value} (hp : port B.ps k = L) (h : irowL L = 1) : infF B k = (true, B.setPort k (idis L)) := by
  unfold infF infL
  rw [hp, h]
  rfl
theorem stp2 {B : Br} {k : Nat} {L : List Value} (hp : port B.ps k = L) (h : irowL L = 2) : infF B k = (true, B.setPort k (iage L)) := by
  unfold infF infL
  rw [hp, h]
  rfl
theorem stp3 {B : Br} {k : Nat} {L : List Value} (hp : port B.ps k = L) (h : irowL L = 3) : infF B k = (true, B.setPort k (iupdL L)) := by
  unfold infF infL
  rw [hp, h]
  rfl
theorem stp4 {B : Br} {k : Nat} {L : List Value} (hp : port B.ps k = L) (h : irowL L = 4) : infF B k = (true, B.setPort k (itakeL (B.hb 1) L)) := by
  unfold infF infL
  rw [hp, h]
  rfl
theorem irow4_18 {L : List Value} (h : irowL L = 4) : pI L 18 = 2 := by
  unfold irowL irowB at h
  by_cases e : pI L 18 = 2
  · exact e
  · rw [ne_b e] at h
    simp at h
    repeat' split at h
    all_goals cases h
theorem pv_row {a b : World} {P0 : Nat} {L0 L : List Value} {T : TypeId} (h0 : a.heap[P0]? = some (.cells L0.toArray T (0, 0))) (hl : L0.length = 89) (hm : Pm P0 0 a b) (hp : Pv b P0 0 L) : b.heap[P0]? = some (.cells L.toArray T (0, 0)) := by
  obtain ⟨C', h1, hz, -⟩ := hm.2 _ _ h0
  obtain ⟨C2, T2, h2, hl2, he⟩ := hp
  rw [h1] at h2
  cases h2
  rw [h1]
  have : C'.toList.length = 89 := by simpa [hl] using hz
  rw [List.drop_zero, List.take_of_length_le (Nat.le_of_eq this)] at he
  rw [← he]
theorem dupd_L {w : World} (G o : Nat) (L : List Value) (hP_w : Pv w G o L) (hT : Typed PL L) : Calls Try.prog 38 #[.pointer (some ⟨G, o, none⟩)] w fun e w' => e = .returned (.tuple #[]) ∧ Pv w' G o (iupdL L) ∧ Pm G o w w' :=
  dupdate G o L hP_w (tpL hT) _ (tpB hT 23 rfl) _ (tpB hT 47 rfl) _ (tpI hT 68 rfl) _ (tpI hT 69 rfl) _ (tpI hT 70 rfl) _ (tpI hT 71 rfl) _ (tpI hT 72 rfl) _ (tpI hT 73 rfl) _ (tpI hT 74 rfl) _ (tpI hT 75 rfl) _ (tpI hT 76 rfl) _ (tpI hT 77 rfl) _ (tpI hT 82 rfl) _ (tpI hT 83 rfl) _ (tpI hT 84 rfl) _ (tpI hT 85 rfl) _ (tpI hT 86 rfl)
theorem dhear_L {w : World} (X : Nat) (rst : Bool) (G o : Nat) (L : List Value) (hP_w : Pv w G o L) (hT : Typed PL L) (hR : TimR L) (hc : w.cell? ⟨X, 1, none⟩ = some (.bool rst)) (hXl : X < w.heap.size) (hXG : X ≠ G) (h18 : L[18]? = some (.int .i64 2)) : Calls Try.prog 39 #[.pointer (some ⟨X, 0, none⟩), .pointer (some ⟨G, o, none⟩)] w fun e w' => e = .returned (.tuple #[]) ∧ Pv w' G o (itakeL rst L) ∧ Pm G o w w' := by
  obtain ⟨r1, r2, r3, r4, r5, r6, -, -⟩ := hR
  unfold itakeL
  have hlt : clsL L < 5 := classN_lt _ _ _ _ _
  rcases (show clsL L = 0 ∨ clsL L = 1 ∨ clsL L = 2 ∨ clsL L = 3 ∨ clsL L = 4 by omega) with h | h | h | h | h
  · have hh := dhear0 X rst G o L hP_w (tpL hT) _ (tpB hT 3 rfl) _ (tpB hT 22 rfl) _ (tpB hT 39 rfl) _ (tpB hT 40 rfl) _ (tpB hT 47 rfl) _ (tpI hT 51 rfl) _ (tpB hT 52 rfl) _ (tpB hT 53 rfl) _ (tpB hT 54 rfl) _ (tpB hT 55 rfl) _ (tpB hT 56 rfl) _ (tpB hT 57 rfl) _ (tpI hT 58 rfl) _ (tpI hT 59 rfl) _ (tpI hT 60 rfl) _ (tpI hT 61 rfl) _ (tpI hT 62 rfl) _ (tpI hT 63 rfl) _ (tpI hT 64 rfl) _ (tpI hT 65 rfl) _ (tpI hT 66 rfl) _ (tpI hT 67 rfl) _ (tpI hT 68 rfl) _ (tpI hT 69 rfl) _ (tpI hT 70 rfl) _ (tpI hT 71 rfl) _ (tpI hT 72 rfl) _ (tpI hT 86 rfl) hT hc hXl hXG h18 r1 r2 r3 r4 r5 r6 h
    rw [h]
    exact hh
  · have hh := dhear1 X rst G o L hP_w (tpL hT) _ (tpB hT 3 rfl) _ (tpB hT 39 rfl) _ (tpB hT 40 rfl) _ (tpI hT 51 rfl) _ (tpB hT 52 rfl) _ (tpB hT 53 rfl) _ (tpB hT 54 rfl) _ (tpB hT 55 rfl) _ (tpB hT 56 rfl) _ (tpB hT 57 rfl) _ (tpI hT 58 rfl) _ (tpI hT 59 rfl) _ (tpI hT 60 rfl) _ (tpI hT 61 rfl) _ (tpI hT 62 rfl) _ (tpI hT 63 rfl) _ (tpI hT 64 rfl) _ (tpI hT 65 rfl) _ (tpI hT 66 rfl) _ (tpI hT 67 rfl) hT hc hXl hXG h18 r1 r2 r3 r4 r5 r6 h
    rw [h]
    exact hh
  · have hh := dhear2 X rst G o L hP_w (tpL hT) _ (tpI hT 51 rfl) _ (tpB hT 56 rfl) hT hc hXl hXG h18 h
    rw [h]
    exact hh
  · have hh := dhear3 X rst G o L hP_w (tpL hT) _ (tpB hT 3 rfl) _ (tpB hT 39 rfl) _ (tpB hT 40 rfl) _ (tpI hT 51 rfl) _ (tpB hT 52 rfl) _ (tpB hT 53 rfl) _ (tpB hT 55 rfl) hT hc hXl hXG h18 h
    rw [h]
    exact hh
  · have hh := dhear4 X rst G o L hP_w (tpL hT) _ (tpI hT 51 rfl) hT hc hXl hXG h18 h
    rw [h]
    exact hh
set_option maxRecDepth 100000 in
set_option maxHeartbeats 4000000 in
theorem dinf_step (w : World) (F : Nat → Prop) (X g k : Nat) (B : Br) (h : BrG w F X g B) (ho : B.ok) (hk : k < B.np) (hn : B.np < 1000) (hR : TimR (port B.ps k)) : Calls Try.prog 20 #[.pointer (some ⟨X, 0, none⟩), .int .i64 k] w (Stepped w F X g (infF B k)) := by
  obtain ⟨hX, hg, hne⟩ := h.lt
  obtain ⟨cap, c17, hc1, hc2⟩ := h.cell17 ho
  have cr0 := (h.cellX ho (i := 1) (by decide)).trans (ho.hb 1 rfl)
  obtain ⟨rs, hrs⟩ : ∃ r, B.hb 1 = r := ⟨_, rfl⟩
  have cr : w.cell? ⟨X, 1, none⟩ = some (.bool rs) := by rw [← hrs]; exact cr0
  have HRS := Lib.hid hrs
  have hT := br_typed ho hk
  have H := Lib.hid h
  have h89 := Lib.hid (len89 ho hk)
  have hpr0 := h.range hk
  have hpt := port_typed ho hk
  have hk8 : k < 1000 := by omega
  clear cr0 hrs h
  obtain ⟨L, hL⟩ : ∃ L, port B.ps k = L := ⟨_, rfl⟩
  rw [hL] at hT hR hpr0 hpt
  have HL := Lib.hid hL
  have HTM := Lib.hid hR
  have hpr := Lib.hid hpr0
  have hpz := Lib.hid (show (Try.prog.info? 51).map (·.size) = some L.length by rw [tpL hT]; exact size_port)
  have hps := Lib.hid (show (Try.prog.info? 51).map (·.size) = some L.toArray.size by rw [List.size_toArray]; exact hpz.out)
  have hpl := Lib.hid (show PZ.size = L.toArray.size by rw [size_PZ, List.size_toArray]; exact (tpL hT).symm)
  have hpo := Lib.hid (all_oneCell_toArray hpt.one)
  have hzp := zero_port
  clear hL hR hpr0 hpt
  have HLEN := Lib.hid (tpL hT)
  obtain ⟨x2, e2⟩ : ∃ b, pB L 2 = b := ⟨_, rfl⟩
  have HE2 := Lib.hid e2
  have HL_2 := Lib.hid ((tpB hT 2 rfl).trans (show _ = some (.bool x2) by rw [e2]))
  clear e2
  obtain ⟨x36, e36⟩ : ∃ b, pB L 36 = b := ⟨_, rfl⟩
  have HE36 := Lib.hid e36
  have HL_36 := Lib.hid ((tpB hT 36 rfl).trans (show _ = some (.bool x36) by rw [e36]))
  clear e36
  obtain ⟨x44, e44⟩ : ∃ b, pB L 44 = b := ⟨_, rfl⟩
  have HE44 := Lib.hid e44
  have HL_44 := Lib.hid ((tpB hT 44 rfl).trans (show _ = some (.bool x44) by rw [e44]))
  clear e44
  obtain ⟨x50, e50⟩ : ∃ b, pB L 50 = b := ⟨_, rfl⟩
  have HE50 := Lib.hid e50
  have HL_50 := Lib.hid ((tpB hT 50 rfl).trans (show _ = some (.bool x50) by rw [e50]))
  clear e50
  obtain ⟨x11, e11⟩ : ∃ b, pI L 11 = b := ⟨_, rfl⟩
  have HE11 := Lib.hid e11
  have HL_11 := Lib.hid ((tpI hT 11 rfl).trans (show _ = some (.int .i64 x11) by rw [e11]))
  clear e11
  obtain ⟨x18, e18⟩ : ∃ b, pI L 18 = b := ⟨_, rfl⟩
  have HE18 := Lib.hid e18
  have HL_18 := Lib.hid ((tpI hT 18 rfl).trans (show _ = some (.int .i64 x18) by rw [e18]))
  clear e18
  obtain ⟨x86, e86⟩ : ∃ b, pI L 86 = b := ⟨_, rfl⟩
  have HE86 := Lib.hid e86
  have HL_86 := Lib.hid ((tpI hT 86 rfl).trans (show _ = some (.int .i64 x86) by rw [e86]))
  clear e86
  have HT := Lib.hid hT
  clear hT
  go_enter Try.func20, Try.ntmps20
  go_upto_region 2 with (first
    | fail
    | ((with_reducible refine at_load 51 ?_); refine wpList_load_mid rfl 51 _ rfl g (k * 89) rfl L _ hpr.out Try.underlying51 rfl hpz.out ?_)
    | ((with_reducible refine at_store 51 ?_); refine wpList_store_new3 rfl rfl 51 _ _ _ rfl PZ L.toArray _ rfl ?_ rfl hps.out hpl.out (by rw [Array.all_toList]; exact hpo.out) ?_; · rfl
       intro z1 hz1
       have hx1 : Ext w z1 := by rw [hz1]; exact (Ext.refl _).alloc _
       have hq := heap_alloc_new w (.cells L.toArray 51)
       rw [← hz1] at hq
       obtain ⟨P0, hP0⟩ : ∃ n, w.heap.size = n := ⟨_, rfl⟩
       rw [hP0] at hq ⊢
       have hP_z1 : Pv z1 P0 0 L := Pv.box hq HLEN.out
       have HQ := Lib.hid hq
       have hXP : X ≠ P0 := by omega
       have hgP : g ≠ P0 := by omega
       have HW0 := Lib.hid hP0
       have hX1 : X < z1.heap.size := Nat.lt_of_lt_of_le hX hx1.size
       have crz := Lib.hid ((hx1.cell (p := ⟨X, 1, none⟩) hX).trans cr)
       have c17z := Lib.hid ((hx1.cell (p := ⟨X, 17, none⟩) hX).trans c17)
       have HX1 := Lib.hid hx1
       clear hz1 hq hP0 cr c17
       have p2_z1 : z1.cell? ⟨P0, 2, none⟩ = some (.bool x2) := (hP_z1.cell (j := 2) (by decide)).trans HL_2.out
       have p11_z1 : z1.cell? ⟨P0, 11, none⟩ = some (.int .i64 x11) := (hP_z1.cell (j := 11) (by decide)).trans HL_11.out
       have p18_z1 : z1.cell? ⟨P0, 18, none⟩ = some (.int .i64 x18) := (hP_z1.cell (j := 18) (by decide)).trans HL_18.out
       have p36_z1 : z1.cell? ⟨P0, 36, none⟩ = some (.bool x36) := (hP_z1.cell (j := 36) (by decide)).trans HL_36.out
       have p44_z1 : z1.cell? ⟨P0, 44, none⟩ = some (.bool x44) := (hP_z1.cell (j := 44) (by decide)).trans HL_44.out
       have p50_z1 : z1.cell? ⟨P0, 50, none⟩ = some (.bool x50) := (hP_z1.cell (j := 50) (by decide)).trans HL_50.out
       have p86_z1 : z1.cell? ⟨P0, 86, none⟩ = some (.int .i64 x86) := (hP_z1.cell (j := 86) (by decide)).trans HL_86.out))
  cases x2
  · by_cases ex86_0 : x86 = 0
    · subst ex86_0
      by_cases ex18_0 : x18 = 0
      · subst ex18_0
        cases x36
        · have hrow : irowL L = 0 := by
            unfold irowL irowB
            rw [HE2.out, HE86.out, HE18.out, HE36.out, HE44.out, HE50.out, HE11.out]
            simp
          go_wp2_with fail
          all_goals
            go_ret
            rw [stp0 HL.out h89.out hrow]
            exact ⟨rfl, H.out.ext HX1.out, HX1.out.mut F⟩
        · have hrow : irowL L = 1 := by
            unfold irowL irowB
            rw [HE2.out, HE86.out, HE18.out, HE36.out, HE44.out, HE50.out, HE11.out]
            simp
          go_wp2_with (first
            | fail
            | ((with_reducible refine at_store 4 ?_); refine st_pv rfl rfl 4 _ _ rfl P0 0 36 _ hP_z1 _ #[.bool false] rfl rfl rfl (by exact (by decide : 36 + 1 ≤ 89)) (by kernel_rfl) rfl ?_
               intro z2 hp hm
               replace hp := pv_one hp HLEN.out (by decide)
               have hP_z2 : Pv z2 P0 0 (L.set 36 (.bool false)) := hp
               have E_z2 : Pm P0 0 z1 z2 := hm
               clear hP_z1
               clear hp hm)
            | ((with_reducible refine at_store 4 ?_); refine st_pv rfl rfl 4 _ _ rfl P0 0 34 _ hP_z2 _ #[.bool false] rfl rfl rfl (by exact (by decide : 34 + 1 ≤ 89)) (by kernel_rfl) rfl ?_
               intro z3 hp hm
               replace hp := pv_one hp (len_set' HLEN.out) (by decide)
               have hP_z3 : Pv z3 P0 0 ((L.set 36 (.bool false)).set 34 (.bool false)) := hp
               have E_z3 : Pm P0 0 z1 z3 := E_z2.trans hm
               clear hP_z2 E_z2
               clear hp hm)
            | ((with_reducible refine at_store 4 ?_); refine st_pv rfl rfl 4 _ _ rfl P0 0 33 _ hP_z3 _ #[.bool false] rfl rfl rfl (by exact (by decide : 33 + 1 ≤ 89)) (by kernel_rfl) rfl ?_
               intro z4 hp hm
               replace hp := pv_one hp (len_set' (len_set' HLEN.out)) (by decide)
               have hP_z4 : Pv z4 P0 0 (((L.set 36 (.bool false)).set 34 (.bool false)).set 33 (.bool false)) := hp
               have E_z4 : Pm P0 0 z1 z4 := E_z3.trans hm
               clear hP_z3 E_z3
               clear hp hm)
            | ((with_reducible refine at_store 4 ?_); refine st_pv rfl rfl 4 _ _ rfl P0 0 22 _ hP_z4 _ #[.bool false] rfl rfl rfl (by exact (by decide : 22 + 1 ≤ 89)) (by kernel_rfl) rfl ?_
               intro z5 hp hm
               replace hp := pv_one hp (len_set' (len_set' (len_set' HLEN.out))) (by decide)
               have hP_z5 : Pv z5 P0 0 ((((L.set 36 (.bool false)).set 34 (.bool false)).set 33 (.bool false)).set 22 (.bool false)) := hp
               have E_z5 : Pm P0 0 z1 z5 := E_z4.trans hm
               clear hP_z4 E_z4
               clear hp hm)
            | ((with_reducible refine at_store 4 ?_); refine st_pv rfl rfl 4 _ _ rfl P0 0 23 _ hP_z5 _ #[.bool false] rfl rfl rfl (by exact (by decide : 23 + 1 ≤ 89)) (by kernel_rfl) rfl ?_
               intro z6 hp hm
               replace hp := pv_one hp (len_set' (len_set' (len_set' (len_set' HLEN.out)))) (by decide)
               have hP_z6 : Pv z6 P0 0 (((((L.set 36 (.bool false)).set 34 (.bool false)).set 33 (.bool false)).set 22 (.bool false)).set 23 (.bool false)) := hp
               have E_z6 : Pm P0 0 z1 z6 := E_z5.trans hm
               clear hP_z5 E_z5
               clear hp hm)
            | ((with_reducible refine at_store 3 ?_); refine st_pv rfl rfl 3 _ _ rfl P0 0 11 _ hP_z6 _ #[.int .i64 0] rfl rfl rfl (by exact (by decide : 11 + 1 ≤ 89)) (by kernel_rfl) rfl ?_
               intro z7 hp hm
               replace hp := pv_one hp (len_set' (len_set' (len_set' (len_set' (len_set' HLEN.out))))) (by decide)
               have hP_z7 : Pv z7 P0 0 ((((((L.set 36 (.bool false)).set 34 (.bool false)).set 33 (.bool false)).set 22 (.bool false)).set 23 (.bool false)).set 11 (.int .i64 0)) := hp
               have E_z7 : Pm P0 0 z1 z7 := E_z6.trans hm
               clear hP_z6 E_z6
               clear hp hm))
          refine (res_pv (daged 0 0 P0 0 _ hP_z7 (len_set' (len_set' (len_set' (len_set' (len_set' (len_set' HLEN.out))))))) (show dage 0 0 ((((((L.set 36 (.bool false)).set 34 (.bool false)).set 33 (.bool false)).set 22 (.bool false)).set 23 (.bool false)).set 11 (.int .i64 0)) = idis L from dage_eq 0 0 _)).mono ?_
          rintro e zz ⟨rfl, hPz, hmz⟩
          have hEz : Pm P0 0 z1 zz := E_z7.trans hmz
          go_wp2_with fail
          have hrw := pv_row HQ.out HLEN.out hEz hPz
          have hlen := Lib.hid hPz.len
          have hBz := H.out.keep (fun n _ hn => (hEz.1.heap (Nat.lt_of_lt_of_le hn HX1.out.size) (show ¬ n = P0 by have := HW0.out; omega)).trans (HX1.out.block n hn))
          have hMz : Mut F w zz := mut_new (HX1.out.mut F) hEz.1 (by have := HW0.out; omega)
          have c17y := (hEz.1.cell (p := ⟨X, 17, none⟩) hX1 hXP).trans c17z.out
          have hone := Lib.hid (show ∀ v ∈ ((idis L) : List Value), v.oneCell' = true from (show Typed PL _ from ty_dis HT.out).one)
          refine wp_region_tail 7 (by kernel_rfl) (by kernel_rfl) ?_
          intro w2 hw2
          have hx2 : Ext zz w2 := by
            rw [hw2]
            exact (Ext.refl _).drew
          have HB2 := Lib.hid ((hx2.block _ (heap_lt hrw)).trans hrw)
          have d17 := (hx2.cell (p := ⟨X, 17, none⟩) (Nat.lt_of_lt_of_le hX1 hEz.1.size)).trans c17y
          have hBy := Lib.hid (hBz.ext hx2)
          have hMy := Lib.hid (hMz.trans (hx2.mut F))
          have hth := Lib.hid (hBy.out.there hk)
          clear hw2 hrw c17y hBz hMz hx2
          simp only [List.take_succ_cons, List.take_zero, List.drop_succ_cons, List.drop_zero]
          iterate 5 still_step
          refine wpStill_load_row rfl 51 _ rfl P0 rfl _ _ _ HB2.out Try.underlying51 rfl (by rw [List.size_toArray, hlen.out]; exact size_port) ?_
          simp only [ps]
          iterate 1 still_step
          refine wpStill_nil ?_
          refine wpList_store_mid rfl 51 _ _ rfl g (k * 89) _ rfl rfl (by rw [List.size_toArray, hlen.out]; exact hth.out) (by rw [List.size_toArray, hlen.out]; exact size_port) (all_oneCell_toArray hone.out) ?_
          go_wp2_with fail
          go_ret
          rw [stp1 HL.out hrow]
          have hB := hBy.out.setPort hk (l := (idis L)) hlen.out
          exact ⟨rfl, hB, Mut.setCells (.inl hBy.out.F2) _ _ hMy.out⟩
      · by_cases ex18_1 : x18 = 1
        · subst ex18_1
          cases x44
          · have hrow : irowL L = 0 := by
              unfold irowL irowB
              rw [HE2.out, HE86.out, HE18.out, HE36.out, HE44.out, HE50.out, HE11.out]
              simp
            go_wp2_with fail
            all_goals
              go_ret
              rw [stp0 HL.out h89.out hrow]
              exact ⟨rfl, H.out.ext HX1.out, HX1.out.mut F⟩
          · cases x50
            · have hrow : irowL L = 0 := by
                unfold irowL irowB
                rw [HE2.out, HE86.out, HE18.out, HE36.out, HE44.out, HE50.out, HE11.out]
                simp
              go_wp2_with fail
              all_goals
                go_ret
                rw [stp0 HL.out h89.out hrow]
                exact ⟨rfl, H.out.ext HX1.out, HX1.out.mut F⟩
            · have hrow : irowL L = 3 := by
                unfold irowL irowB
                rw [HE2.out, HE86.out, HE18.out, HE36.out, HE44.out, HE50.out, HE11.out]
                simp
              go_wp2_with fail
              refine (res_pv (dupd_L P0 0 _ hP_z1 HT.out) (show iupdL L = iupdL L from rfl)).mono ?_
              rintro e zz ⟨rfl, hPz, hmz⟩
              have hEz : Pm P0 0 z1 zz := hmz
              go_wp2_with fail
              have hrw := pv_row HQ.out HLEN.out hEz hPz
              have hlen := Lib.hid hPz.len
              have hBz := H.out.keep (fun n _ hn => (hEz.1.heap (Nat.lt_of_lt_of_le hn HX1.out.size) (show ¬ n = P0 by have := HW0.out; omega)).trans (HX1.out.block n hn))
              have hMz : Mut F w zz := mut_new (HX1.out.mut F) hEz.1 (by have := HW0.out; omega)
              have c17y := (hEz.1.cell (p := ⟨X, 17, none⟩) hX1 hXP).trans c17z.out
              have hone := Lib.hid (show ∀ v ∈ ((iupdL L) : List Value), v.oneCell' = true from (show Typed PL _ from ty_upd HT.out).one)
              refine wp_region_tail 7 (by kernel_rfl) (by kernel_rfl) ?_
              intro w2 hw2
              have hx2 : Ext zz w2 := by
                rw [hw2]
                exact (Ext.refl _).drew
              have HB2 := Lib.hid ((hx2.block _ (heap_lt hrw)).trans hrw)
              have d17 := (hx2.cell (p := ⟨X, 17, none⟩) (Nat.lt_of_lt_of_le hX1 hEz.1.size)).trans c17y
              have hBy := Lib.hid (hBz.ext hx2)
              have hMy := Lib.hid (hMz.trans (hx2.mut F))
              have hth := Lib.hid (hBy.out.there hk)
              clear hw2 hrw c17y hBz hMz hx2
              simp only [List.take_succ_cons, List.take_zero, List.drop_succ_cons, List.drop_zero]
              iterate 5 still_step
              refine wpStill_load_row rfl 51 _ rfl P0 rfl _ _ _ HB2.out Try.underlying51 rfl (by rw [List.size_toArray, hlen.out]; exact size_port) ?_
              simp only [ps]
              iterate 1 still_step
              refine wpStill_nil ?_
              refine wpList_store_mid rfl 51 _ _ rfl g (k * 89) _ rfl rfl (by rw [List.size_toArray, hlen.out]; exact hth.out) (by rw [List.size_toArray, hlen.out]; exact size_port) (all_oneCell_toArray hone.out) ?_
              go_wp2_with fail
              go_ret
              rw [stp3 HL.out hrow]
              have hB := hBy.out.setPort hk (l := (iupdL L)) hlen.out
              exact ⟨rfl, hB, Mut.setCells (.inl hBy.out.F2) _ _ hMy.out⟩
        · by_cases ex18_2 : x18 = 2
          · subst ex18_2
            cases x44
            · cases x50
              · cases x36
                · have hrow : irowL L = 0 := by
                    unfold irowL irowB
                    rw [HE2.out, HE86.out, HE18.out, HE36.out, HE44.out, HE50.out, HE11.out]
                    simp
                  go_wp2_with fail
                  all_goals
                    go_ret
                    rw [stp0 HL.out h89.out hrow]
                    exact ⟨rfl, H.out.ext HX1.out, HX1.out.mut F⟩
                · have hrow : irowL L = 4 := by
                    unfold irowL irowB
                    rw [HE2.out, HE86.out, HE18.out, HE36.out, HE44.out, HE50.out, HE11.out]
                    simp
                  go_wp2_with fail
                  all_goals
                    refine (res_pv (dhear_L X rs P0 0 _ hP_z1 HT.out HTM.out crz.out hX1 hXP ((tpI HT.out 18 rfl).trans (by rw [irow4_18 hrow]))) (show itakeL rs L = itakeL (B.hb 1) L by rw [HRS.out])).mono ?_
                    rintro e zz ⟨rfl, hPz, hmz⟩
                    have hEz : Pm P0 0 z1 zz := hmz
                    go_wp2_with fail
                    have hrw := pv_row HQ.out HLEN.out hEz hPz
                    have hlen := Lib.hid hPz.len
                    have hBz := H.out.keep (fun n _ hn => (hEz.1.heap (Nat.lt_of_lt_of_le hn HX1.out.size) (show ¬ n = P0 by have := HW0.out; omega)).trans (HX1.out.block n hn))
                    have hMz : Mut F w zz := mut_new (HX1.out.mut F) hEz.1 (by have := HW0.out; omega)
                    have c17y := (hEz.1.cell (p := ⟨X, 17, none⟩) hX1 hXP).trans c17z.out
                    have hone := Lib.hid (show ∀ v ∈ ((itakeL (B.hb 1) L) : List Value), v.oneCell' = true from (show Typed PL _ from ty_take HT.out HTM.out _).one)
                    refine wp_region_tail 7 (by kernel_rfl) (by kernel_rfl) ?_
                    intro w2 hw2
                    have hx2 : Ext zz w2 := by
                      rw [hw2]
                      exact (Ext.refl _).drew
                    have HB2 := Lib.hid ((hx2.block _ (heap_lt hrw)).trans hrw)
                    have d17 := (hx2.cell (p := ⟨X, 17, none⟩) (Nat.lt_of_lt_of_le hX1 hEz.1.size)).trans c17y
                    have hBy := Lib.hid (hBz.ext hx2)
                    have hMy := Lib.hid (hMz.trans (hx2.mut F))
                    have hth := Lib.hid (hBy.out.there hk)
                    clear hw2 hrw c17y hBz hMz hx2
                    simp only [List.take_succ_cons, List.take_zero, List.drop_succ_cons, List.drop_zero]
                    iterate 5 still_step
                    refine wpStill_load_row rfl 51 _ rfl P0 rfl _ _ _ HB2.out Try.underlying51 rfl (by rw [List.size_toArray, hlen.out]; exact size_port) ?_
                    simp only [ps]
                    iterate 1 still_step
                    refine wpStill_nil ?_
                    refine wpList_store_mid rfl 51 _ _ rfl g (k * 89) _ rfl rfl (by rw [List.size_toArray, hlen.out]; exact hth.out) (by rw [List.size_toArray, hlen.out]; exact size_port) (all_oneCell_toArray hone.out) ?_
                    go_wp2_with fail
                    go_ret
                    rw [stp4 HL.out hrow]
                    have hB := hBy.out.setPort hk (l := (itakeL (B.hb 1) L)) hlen.out
                    exact ⟨rfl, hB, Mut.setCells (.inl hBy.out.F2) _ _ hMy.out⟩
              · have hrow : irowL L = 0 := by
                  unfold irowL irowB
                  rw [HE2.out, HE86.out, HE18.out, HE36.out, HE44.out, HE50.out, HE11.out]
                  simp
                go_wp2_with fail
                all_goals
                  go_ret
                  rw [stp0 HL.out h89.out hrow]
                  exact ⟨rfl, H.out.ext HX1.out, HX1.out.mut F⟩
            · cases x50
              · cases x36
                · have hrow : irowL L = 0 := by
                    unfold irowL irowB
                    rw [HE2.out, HE86.out, HE18.out, HE36.out, HE44.out, HE50.out, HE11.out]
                    simp
                  go_wp2_with fail
                  all_goals
                    go_ret
                    rw [stp0 HL.out h89.out hrow]
                    exact ⟨rfl, H.out.ext HX1.out, HX1.out.mut F⟩
                · have hrow : irowL L = 4 := by
                    unfold irowL irowB
                    rw [HE2.out, HE86.out, HE18.out, HE36.out, HE44.out, HE50.out, HE11.out]
                    simp
                  go_wp2_with fail
                  all_goals
                    refine (res_pv (dhear_L X rs P0 0 _ hP_z1 HT.out HTM.out crz.out hX1 hXP ((tpI HT.out 18 rfl).trans (by rw [irow4_18 hrow]))) (show itakeL rs L = itakeL (B.hb 1) L by rw [HRS.out])).mono ?_
                    rintro e zz ⟨rfl, hPz, hmz⟩
                    have hEz : Pm P0 0 z1 zz := hmz
                    go_wp2_with fail
                    have hrw := pv_row HQ.out HLEN.out hEz hPz
                    have hlen := Lib.hid hPz.len
                    have hBz := H.out.keep (fun n _ hn => (hEz.1.heap (Nat.lt_of_lt_of_le hn HX1.out.size) (show ¬ n = P0 by have := HW0.out; omega)).trans (HX1.out.block n hn))
                    have hMz : Mut F w zz := mut_new (HX1.out.mut F) hEz.1 (by have := HW0.out; omega)
                    have c17y := (hEz.1.cell (p := ⟨X, 17, none⟩) hX1 hXP).trans c17z.out
                    have hone := Lib.hid (show ∀ v ∈ ((itakeL (B.hb 1) L) : List Value), v.oneCell' = true from (show Typed PL _ from ty_take HT.out HTM.out _).one)
                    refine wp_region_tail 7 (by kernel_rfl) (by kernel_rfl) ?_
                    intro w2 hw2
                    have hx2 : Ext zz w2 := by
                      rw [hw2]
                      exact (Ext.refl _).drew
                    have HB2 := Lib.hid ((hx2.block _ (heap_lt hrw)).trans hrw)
                    have d17 := (hx2.cell (p := ⟨X, 17, none⟩) (Nat.lt_of_lt_of_le hX1 hEz.1.size)).trans c17y
                    have hBy := Lib.hid (hBz.ext hx2)
                    have hMy := Lib.hid (hMz.trans (hx2.mut F))
                    have hth := Lib.hid (hBy.out.there hk)
                    clear hw2 hrw c17y hBz hMz hx2
                    simp only [List.take_succ_cons, List.take_zero, List.drop_succ_cons, List.drop_zero]
                    iterate 5 still_step
                    refine wpStill_load_row rfl 51 _ rfl P0 rfl _ _ _ HB2.out Try.underlying51 rfl (by rw [List.size_toArray, hlen.out]; exact size_port) ?_
                    simp only [ps]
                    iterate 1 still_step
                    refine wpStill_nil ?_
                    refine wpList_store_mid rfl 51 _ _ rfl g (k * 89) _ rfl rfl (by rw [List.size_toArray, hlen.out]; exact hth.out) (by rw [List.size_toArray, hlen.out]; exact size_port) (all_oneCell_toArray hone.out) ?_
                    go_wp2_with fail
                    go_ret
                    rw [stp4 HL.out hrow]
                    have hB := hBy.out.setPort hk (l := (itakeL (B.hb 1) L)) hlen.out
                    exact ⟨rfl, hB, Mut.setCells (.inl hBy.out.F2) _ _ hMy.out⟩
              · have hrow : irowL L = 3 := by
                  unfold irowL irowB
                  rw [HE2.out, HE86.out, HE18.out, HE36.out, HE44.out, HE50.out, HE11.out]
                  simp
                go_wp2_with fail
                refine (res_pv (dupd_L P0 0 _ hP_z1 HT.out) (show iupdL L = iupdL L from rfl)).mono ?_
                rintro e zz ⟨rfl, hPz, hmz⟩
                have hEz : Pm P0 0 z1 zz := hmz
                go_wp2_with fail
                have hrw := pv_row HQ.out HLEN.out hEz hPz
                have hlen := Lib.hid hPz.len
                have hBz := H.out.keep (fun n _ hn => (hEz.1.heap (Nat.lt_of_lt_of_le hn HX1.out.size) (show ¬ n = P0 by have := HW0.out; omega)).trans (HX1.out.block n hn))
                have hMz : Mut F w zz := mut_new (HX1.out.mut F) hEz.1 (by have := HW0.out; omega)
                have c17y := (hEz.1.cell (p := ⟨X, 17, none⟩) hX1 hXP).trans c17z.out
                have hone := Lib.hid (show ∀ v ∈ ((iupdL L) : List Value), v.oneCell' = true from (show Typed PL _ from ty_upd HT.out).one)
                refine wp_region_tail 7 (by kernel_rfl) (by kernel_rfl) ?_
                intro w2 hw2
                have hx2 : Ext zz w2 := by
                  rw [hw2]
                  exact (Ext.refl _).drew
                have HB2 := Lib.hid ((hx2.block _ (heap_lt hrw)).trans hrw)
                have d17 := (hx2.cell (p := ⟨X, 17, none⟩) (Nat.lt_of_lt_of_le hX1 hEz.1.size)).trans c17y
                have hBy := Lib.hid (hBz.ext hx2)
                have hMy := Lib.hid (hMz.trans (hx2.mut F))
                have hth := Lib.hid (hBy.out.there hk)
                clear hw2 hrw c17y hBz hMz hx2
                simp only [List.take_succ_cons, List.take_zero, List.drop_succ_cons, List.drop_zero]
                iterate 5 still_step
                refine wpStill_load_row rfl 51 _ rfl P0 rfl _ _ _ HB2.out Try.underlying51 rfl (by rw [List.size_toArray, hlen.out]; exact size_port) ?_
                simp only [ps]
                iterate 1 still_step
                refine wpStill_nil ?_
                refine wpList_store_mid rfl 51 _ _ rfl g (k * 89) _ rfl rfl (by rw [List.size_toArray, hlen.out]; exact hth.out) (by rw [List.size_toArray, hlen.out]; exact size_port) (all_oneCell_toArray hone.out) ?_
                go_wp2_with fail
                go_ret
                rw [stp3 HL.out hrow]
                have hB := hBy.out.setPort hk (l := (iupdL L)) hlen.out
                exact ⟨rfl, hB, Mut.setCells (.inl hBy.out.F2) _ _ hMy.out⟩
          · have bx18_0 : (x18 == 0) = false := ne_b ex18_0
            have cx18_0 : (x18 != 0) = true := by simpa using ex18_0
            have bx18_1 : (x18 == 1) = false := ne_b ex18_1
            have cx18_1 : (x18 != 1) = true := by simpa using ex18_1
            have bx18_2 : (x18 == 2) = false := ne_b ex18_2
            have cx18_2 : (x18 != 2) = true := by simpa using ex18_2
            clear ex18_0 ex18_1 ex18_2
            have hrow : irowL L = 0 := by
              unfold irowL irowB
              rw [HE2.out, HE86.out, HE18.out, HE36.out, HE44.out, HE50.out, HE11.out]
              rw [bx18_0]; rw [bx18_1]; rw [bx18_2]; simp
            go_wp2_with fail
            all_goals
              go_ret
              rw [stp0 HL.out h89.out hrow]
              exact ⟨rfl, H.out.ext HX1.out, HX1.out.mut F⟩
    · have bx86_0 : (x86 == 0) = false := ne_b ex86_0
      have cx86_0 : (x86 != 0) = true := by simpa using ex86_0
      clear ex86_0
      have hrow : irowL L = 1 := by
        unfold irowL irowB
        rw [HE2.out, HE86.out, HE18.out, HE36.out, HE44.out, HE50.out, HE11.out]
        rw [bx86_0]; simp
      go_wp2_with (first
        | fail
        | ((with_reducible refine at_store 4 ?_); refine st_pv rfl rfl 4 _ _ rfl P0 0 36 _ hP_z1 _ #[.bool false] rfl rfl rfl (by exact (by decide : 36 + 1 ≤ 89)) (by kernel_rfl) rfl ?_
           intro z2 hp hm
           replace hp := pv_one hp HLEN.out (by decide)
           have hP_z2 : Pv z2 P0 0 (L.set 36 (.bool false)) := hp
           have E_z2 : Pm P0 0 z1 z2 := hm
           clear hP_z1
           clear hp hm)
        | ((with_reducible refine at_store 4 ?_); refine st_pv rfl rfl 4 _ _ rfl P0 0 34 _ hP_z2 _ #[.bool false] rfl rfl rfl (by exact (by decide : 34 + 1 ≤ 89)) (by kernel_rfl) rfl ?_
           intro z3 hp hm
           replace hp := pv_one hp (len_set' HLEN.out) (by decide)
           have hP_z3 : Pv z3 P0 0 ((L.set 36 (.bool false)).set 34 (.bool false)) := hp
           have E_z3 : Pm P0 0 z1 z3 := E_z2.trans hm
           clear hP_z2 E_z2
           clear hp hm)
        | ((with_reducible refine at_store 4 ?_); refine st_pv rfl rfl 4 _ _ rfl P0 0 33 _ hP_z3 _ #[.bool false] rfl rfl rfl (by exact (by decide : 33 + 1 ≤ 89)) (by kernel_rfl) rfl ?_
           intro z4 hp hm
           replace hp := pv_one hp (len_set' (len_set' HLEN.out)) (by decide)
           have hP_z4 : Pv z4 P0 0 (((L.set 36 (.bool false)).set 34 (.bool false)).set 33 (.bool false)) := hp
           have E_z4 : Pm P0 0 z1 z4 := E_z3.trans hm
           clear hP_z3 E_z3
           clear hp hm)
        | ((with_reducible refine at_store 4 ?_); refine st_pv rfl rfl 4 _ _ rfl P0 0 22 _ hP_z4 _ #[.bool false] rfl rfl rfl (by exact (by decide : 22 + 1 ≤ 89)) (by kernel_rfl) rfl ?_
           intro z5 hp hm
           replace hp := pv_one hp (len_set' (len_set' (len_set' HLEN.out))) (by decide)
           have hP_z5 : Pv z5 P0 0 ((((L.set 36 (.bool false)).set 34 (.bool false)).set 33 (.bool false)).set 22 (.bool false)) := hp
           have E_z5 : Pm P0 0 z1 z5 := E_z4.trans hm
           clear hP_z4 E_z4
           clear hp hm)
        | ((with_reducible refine at_store 4 ?_); refine st_pv rfl rfl 4 _ _ rfl P0 0 23 _ hP_z5 _ #[.bool false] rfl rfl rfl (by exact (by decide : 23 + 1 ≤ 89)) (by kernel_rfl) rfl ?_
           intro z6 hp hm
           replace hp := pv_one hp (len_set' (len_set' (len_set' (len_set' HLEN.out)))) (by decide)
           have hP_z6 : Pv z6 P0 0 (((((L.set 36 (.bool false)).set 34 (.bool false)).set 33 (.bool false)).set 22 (.bool false)).set 23 (.bool false)) := hp
           have E_z6 : Pm P0 0 z1 z6 := E_z5.trans hm
           clear hP_z5 E_z5
           clear hp hm)
        | ((with_reducible refine at_store 3 ?_); refine st_pv rfl rfl 3 _ _ rfl P0 0 11 _ hP_z6 _ #[.int .i64 0] rfl rfl rfl (by exact (by decide : 11 + 1 ≤ 89)) (by kernel_rfl) rfl ?_
           intro z7 hp hm
           replace hp := pv_one hp (len_set' (len_set' (len_set' (len_set' (len_set' HLEN.out))))) (by decide)
           have hP_z7 : Pv z7 P0 0 ((((((L.set 36 (.bool false)).set 34 (.bool false)).set 33 (.bool false)).set 22 (.bool false)).set 23 (.bool false)).set 11 (.int .i64 0)) := hp
           have E_z7 : Pm P0 0 z1 z7 := E_z6.trans hm
           clear hP_z6 E_z6
           clear hp hm))
      refine (res_pv (daged 0 0 P0 0 _ hP_z7 (len_set' (len_set' (len_set' (len_set' (len_set' (len_set' HLEN.out))))))) (show dage 0 0 ((((((L.set 36 (.bool false)).set 34 (.bool false)).set 33 (.bool false)).set 22 (.bool false)).set 23 (.bool false)).set 11 (.int .i64 0)) = idis L from dage_eq 0 0 _)).mono ?_
      rintro e zz ⟨rfl, hPz, hmz⟩
      have hEz : Pm P0 0 z1 zz := E_z7.trans hmz
      go_wp2_with fail
      have hrw := pv_row HQ.out HLEN.out hEz hPz
      have hlen := Lib.hid hPz.len
      have hBz := H.out.keep (fun n _ hn => (hEz.1.heap (Nat.lt_of_lt_of_le hn HX1.out.size) (show ¬ n = P0 by have := HW0.out; omega)).trans (HX1.out.block n hn))
      have hMz : Mut F w zz := mut_new (HX1.out.mut F) hEz.1 (by have := HW0.out; omega)
      have c17y := (hEz.1.cell (p := ⟨X, 17, none⟩) hX1 hXP).trans c17z.out
      have hone := Lib.hid (show ∀ v ∈ ((idis L) : List Value), v.oneCell' = true from (show Typed PL _ from ty_dis HT.out).one)
      refine wp_region_tail 7 (by kernel_rfl) (by kernel_rfl) ?_
      intro w2 hw2
      have hx2 : Ext zz w2 := by
        rw [hw2]
        exact (Ext.refl _).drew
      have HB2 := Lib.hid ((hx2.block _ (heap_lt hrw)).trans hrw)
      have d17 := (hx2.cell (p := ⟨X, 17, none⟩) (Nat.lt_of_lt_of_le hX1 hEz.1.size)).trans c17y
      have hBy := Lib.hid (hBz.ext hx2)
      have hMy := Lib.hid (hMz.trans (hx2.mut F))
      have hth := Lib.hid (hBy.out.there hk)
      clear hw2 hrw c17y hBz hMz hx2
      simp only [List.take_succ_cons, List.take_zero, List.drop_succ_cons, List.drop_zero]
      iterate 5 still_step
      refine wpStill_load_row rfl 51 _ rfl P0 rfl _ _ _ HB2.out Try.underlying51 rfl (by rw [List.size_toArray, hlen.out]; exact size_port) ?_
      simp only [ps]
      iterate 1 still_step
      refine wpStill_nil ?_
      refine wpList_store_mid rfl 51 _ _ rfl g (k * 89) _ rfl rfl (by rw [List.size_toArray, hlen.out]; exact hth.out) (by rw [List.size_toArray, hlen.out]; exact size_port) (all_oneCell_toArray hone.out) ?_
      go_wp2_with fail
      go_ret
      rw [stp1 HL.out hrow]
      have hB := hBy.out.setPort hk (l := (idis L)) hlen.out
      exact ⟨rfl, hB, Mut.setCells (.inl hBy.out.F2) _ _ hMy.out⟩
  · by_cases ex18_0 : x18 = 0
    · subst ex18_0
      cases x36
      · have hrow : irowL L = 2 := by
          unfold irowL irowB
          rw [HE2.out, HE86.out, HE18.out, HE36.out, HE44.out, HE50.out, HE11.out]
          simp
        go_wp2_with fail
        refine (res_pv (daged 1 1 P0 0 _ hP_z1 HLEN.out) (show dage 1 1 L = iage L from dage_eq 1 1 _)).mono ?_
        rintro e zz ⟨rfl, hPz, hmz⟩
        have hEz : Pm P0 0 z1 zz := hmz
        go_wp2_with fail
        have hrw := pv_row HQ.out HLEN.out hEz hPz
        have hlen := Lib.hid hPz.len
        have hBz := H.out.keep (fun n _ hn => (hEz.1.heap (Nat.lt_of_lt_of_le hn HX1.out.size) (show ¬ n = P0 by have := HW0.out; omega)).trans (HX1.out.block n hn))
        have hMz : Mut F w zz := mut_new (HX1.out.mut F) hEz.1 (by have := HW0.out; omega)
        have c17y := (hEz.1.cell (p := ⟨X, 17, none⟩) hX1 hXP).trans c17z.out
        have hone := Lib.hid (show ∀ v ∈ ((iage L) : List Value), v.oneCell' = true from (show Typed PL _ from ty_age HT.out).one)
        refine wp_region_tail 7 (by kernel_rfl) (by kernel_rfl) ?_
        intro w2 hw2
        have hx2 : Ext zz w2 := by
          rw [hw2]
          exact (Ext.refl _).drew
        have HB2 := Lib.hid ((hx2.block _ (heap_lt hrw)).trans hrw)
        have d17 := (hx2.cell (p := ⟨X, 17, none⟩) (Nat.lt_of_lt_of_le hX1 hEz.1.size)).trans c17y
        have hBy := Lib.hid (hBz.ext hx2)
        have hMy := Lib.hid (hMz.trans (hx2.mut F))
        have hth := Lib.hid (hBy.out.there hk)
        clear hw2 hrw c17y hBz hMz hx2
        simp only [List.take_succ_cons, List.take_zero, List.drop_succ_cons, List.drop_zero]
        iterate 5 still_step
        refine wpStill_load_row rfl 51 _ rfl P0 rfl _ _ _ HB2.out Try.underlying51 rfl (by rw [List.size_toArray, hlen.out]; exact size_port) ?_
        simp only [ps]
        iterate 1 still_step
        refine wpStill_nil ?_
        refine wpList_store_mid rfl 51 _ _ rfl g (k * 89) _ rfl rfl (by rw [List.size_toArray, hlen.out]; exact hth.out) (by rw [List.size_toArray, hlen.out]; exact size_port) (all_oneCell_toArray hone.out) ?_
        go_wp2_with fail
        go_ret
        rw [stp2 HL.out hrow]
        have hB := hBy.out.setPort hk (l := (iage L)) hlen.out
        exact ⟨rfl, hB, Mut.setCells (.inl hBy.out.F2) _ _ hMy.out⟩
      · have hrow : irowL L = 1 := by
          unfold irowL irowB
          rw [HE2.out, HE86.out, HE18.out, HE36.out, HE44.out, HE50.out, HE11.out]
          simp
        go_wp2_with (first
          | fail
          | ((with_reducible refine at_store 4 ?_); refine st_pv rfl rfl 4 _ _ rfl P0 0 36 _ hP_z1 _ #[.bool false] rfl rfl rfl (by exact (by decide : 36 + 1 ≤ 89)) (by kernel_rfl) rfl ?_
             intro z2 hp hm
             replace hp := pv_one hp HLEN.out (by decide)
             have hP_z2 : Pv z2 P0 0 (L.set 36 (.bool false)) := hp
             have E_z2 : Pm P0 0 z1 z2 := hm
             clear hP_z1
             clear hp hm)
          | ((with_reducible refine at_store 4 ?_); refine st_pv rfl rfl 4 _ _ rfl P0 0 34 _ hP_z2 _ #[.bool false] rfl rfl rfl (by exact (by decide : 34 + 1 ≤ 89)) (by kernel_rfl) rfl ?_
             intro z3 hp hm
             replace hp := pv_one hp (len_set' HLEN.out) (by decide)
             have hP_z3 : Pv z3 P0 0 ((L.set 36 (.bool false)).set 34 (.bool false)) := hp
             have E_z3 : Pm P0 0 z1 z3 := E_z2.trans hm
             clear hP_z2 E_z2
             clear hp hm)
          | ((with_reducible refine at_store 4 ?_); refine st_pv rfl rfl 4 _ _ rfl P0 0 33 _ hP_z3 _ #[.bool false] rfl rfl rfl (by exact (by decide : 33 + 1 ≤ 89)) (by kernel_rfl) rfl ?_
             intro z4 hp hm
             replace hp := pv_one hp (len_set' (len_set' HLEN.out)) (by decide)
             have hP_z4 : Pv z4 P0 0 (((L.set 36 (.bool false)).set 34 (.bool false)).set 33 (.bool false)) := hp
             have E_z4 : Pm P0 0 z1 z4 := E_z3.trans hm
             clear hP_z3 E_z3
             clear hp hm)
          | ((with_reducible refine at_store 4 ?_); refine st_pv rfl rfl 4 _ _ rfl P0 0 22 _ hP_z4 _ #[.bool false] rfl rfl rfl (by exact (by decide : 22 + 1 ≤ 89)) (by kernel_rfl) rfl ?_
             intro z5 hp hm
             replace hp := pv_one hp (len_set' (len_set' (len_set' HLEN.out))) (by decide)
             have hP_z5 : Pv z5 P0 0 ((((L.set 36 (.bool false)).set 34 (.bool false)).set 33 (.bool false)).set 22 (.bool false)) := hp
             have E_z5 : Pm P0 0 z1 z5 := E_z4.trans hm
             clear hP_z4 E_z4
             clear hp hm)
          | ((with_reducible refine at_store 4 ?_); refine st_pv rfl rfl 4 _ _ rfl P0 0 23 _ hP_z5 _ #[.bool false] rfl rfl rfl (by exact (by decide : 23 + 1 ≤ 89)) (by kernel_rfl) rfl ?_
             intro z6 hp hm
             replace hp := pv_one hp (len_set' (len_set' (len_set' (len_set' HLEN.out)))) (by decide)
             have hP_z6 : Pv z6 P0 0 (((((L.set 36 (.bool false)).set 34 (.bool false)).set 33 (.bool false)).set 22 (.bool false)).set 23 (.bool false)) := hp
             have E_z6 : Pm P0 0 z1 z6 := E_z5.trans hm
             clear hP_z5 E_z5
             clear hp hm)
          | ((with_reducible refine at_store 3 ?_); refine st_pv rfl rfl 3 _ _ rfl P0 0 11 _ hP_z6 _ #[.int .i64 0] rfl rfl rfl (by exact (by decide : 11 + 1 ≤ 89)) (by kernel_rfl) rfl ?_
             intro z7 hp hm
             replace hp := pv_one hp (len_set' (len_set' (len_set' (len_set' (len_set' HLEN.out))))) (by decide)
             have hP_z7 : Pv z7 P0 0 ((((((L.set 36 (.bool false)).set 34 (.bool false)).set 33 (.bool false)).set 22 (.bool false)).set 23 (.bool false)).set 11 (.int .i64 0)) := hp
             have E_z7 : Pm P0 0 z1 z7 := E_z6.trans hm
             clear hP_z6 E_z6
             clear hp hm))
        refine (res_pv (daged 0 0 P0 0 _ hP_z7 (len_set' (len_set' (len_set' (len_set' (len_set' (len_set' HLEN.out))))))) (show dage 0 0 ((((((L.set 36 (.bool false)).set 34 (.bool false)).set 33 (.bool false)).set 22 (.bool false)).set 23 (.bool false)).set 11 (.int .i64 0)) = idis L from dage_eq 0 0 _)).mono ?_
        rintro e zz ⟨rfl, hPz, hmz⟩
        have hEz : Pm P0 0 z1 zz := E_z7.trans hmz
        go_wp2_with fail
        have hrw := pv_row HQ.out HLEN.out hEz hPz
        have hlen := Lib.hid hPz.len
        have hBz := H.out.keep (fun n _ hn => (hEz.1.heap (Nat.lt_of_lt_of_le hn HX1.out.size) (show ¬ n = P0 by have := HW0.out; omega)).trans (HX1.out.block n hn))
        have hMz : Mut F w zz := mut_new (HX1.out.mut F) hEz.1 (by have := HW0.out; omega)
        have c17y := (hEz.1.cell (p := ⟨X, 17, none⟩) hX1 hXP).trans c17z.out
        have hone := Lib.hid (show ∀ v ∈ ((idis L) : List Value), v.oneCell' = true from (show Typed PL _ from ty_dis HT.out).one)
        refine wp_region_tail 7 (by kernel_rfl) (by kernel_rfl) ?_
        intro w2 hw2
        have hx2 : Ext zz w2 := by
          rw [hw2]
          exact (Ext.refl _).drew
        have HB2 := Lib.hid ((hx2.block _ (heap_lt hrw)).trans hrw)
        have d17 := (hx2.cell (p := ⟨X, 17, none⟩) (Nat.lt_of_lt_of_le hX1 hEz.1.size)).trans c17y
        have hBy := Lib.hid (hBz.ext hx2)
        have hMy := Lib.hid (hMz.trans (hx2.mut F))
        have hth := Lib.hid (hBy.out.there hk)
        clear hw2 hrw c17y hBz hMz hx2
        simp only [List.take_succ_cons, List.take_zero, List.drop_succ_cons, List.drop_zero]
        iterate 5 still_step
        refine wpStill_load_row rfl 51 _ rfl P0 rfl _ _ _ HB2.out Try.underlying51 rfl (by rw [List.size_toArray, hlen.out]; exact size_port) ?_
        simp only [ps]
        iterate 1 still_step
        refine wpStill_nil ?_
        refine wpList_store_mid rfl 51 _ _ rfl g (k * 89) _ rfl rfl (by rw [List.size_toArray, hlen.out]; exact hth.out) (by rw [List.size_toArray, hlen.out]; exact size_port) (all_oneCell_toArray hone.out) ?_
        go_wp2_with fail
        go_ret
        rw [stp1 HL.out hrow]
        have hB := hBy.out.setPort hk (l := (idis L)) hlen.out
        exact ⟨rfl, hB, Mut.setCells (.inl hBy.out.F2) _ _ hMy.out⟩
    · by_cases ex18_1 : x18 = 1
      · subst ex18_1
        cases x44
        · have hrow : irowL L = 0 := by
            unfold irowL irowB
            rw [HE2.out, HE86.out, HE18.out, HE36.out, HE44.out, HE50.out, HE11.out]
            simp
          go_wp2_with fail
          all_goals
            go_ret
            rw [stp0 HL.out h89.out hrow]
            exact ⟨rfl, H.out.ext HX1.out, HX1.out.mut F⟩
        · cases x50
          · have hrow : irowL L = 0 := by
              unfold irowL irowB
              rw [HE2.out, HE86.out, HE18.out, HE36.out, HE44.out, HE50.out, HE11.out]
              simp
            go_wp2_with fail
            all_goals
              go_ret
              rw [stp0 HL.out h89.out hrow]
              exact ⟨rfl, H.out.ext HX1.out, HX1.out.mut F⟩
          · have hrow : irowL L = 3 := by
              unfold irowL irowB
              rw [HE2.out, HE86.out, HE18.out, HE36.out, HE44.out, HE50.out, HE11.out]
              simp
            go_wp2_with fail
            refine (res_pv (dupd_L P0 0 _ hP_z1 HT.out) (show iupdL L = iupdL L from rfl)).mono ?_
            rintro e zz ⟨rfl, hPz, hmz⟩
            have hEz : Pm P0 0 z1 zz := hmz
            go_wp2_with fail
            have hrw := pv_row HQ.out HLEN.out hEz hPz
            have hlen := Lib.hid hPz.len
            have hBz := H.out.keep (fun n _ hn => (hEz.1.heap (Nat.lt_of_lt_of_le hn HX1.out.size) (show ¬ n = P0 by have := HW0.out; omega)).trans (HX1.out.block n hn))
            have hMz : Mut F w zz := mut_new (HX1.out.mut F) hEz.1 (by have := HW0.out; omega)
            have c17y := (hEz.1.cell (p := ⟨X, 17, none⟩) hX1 hXP).trans c17z.out
            have hone := Lib.hid (show ∀ v ∈ ((iupdL L) : List Value), v.oneCell' = true from (show Typed PL _ from ty_upd HT.out).one)
            refine wp_region_tail 7 (by kernel_rfl) (by kernel_rfl) ?_
            intro w2 hw2
            have hx2 : Ext zz w2 := by
              rw [hw2]
              exact (Ext.refl _).drew
            have HB2 := Lib.hid ((hx2.block _ (heap_lt hrw)).trans hrw)
            have d17 := (hx2.cell (p := ⟨X, 17, none⟩) (Nat.lt_of_lt_of_le hX1 hEz.1.size)).trans c17y
            have hBy := Lib.hid (hBz.ext hx2)
            have hMy := Lib.hid (hMz.trans (hx2.mut F))
            have hth := Lib.hid (hBy.out.there hk)
            clear hw2 hrw c17y hBz hMz hx2
            simp only [List.take_succ_cons, List.take_zero, List.drop_succ_cons, List.drop_zero]
            iterate 5 still_step
            refine wpStill_load_row rfl 51 _ rfl P0 rfl _ _ _ HB2.out Try.underlying51 rfl (by rw [List.size_toArray, hlen.out]; exact size_port) ?_
            simp only [ps]
            iterate 1 still_step
            refine wpStill_nil ?_
            refine wpList_store_mid rfl 51 _ _ rfl g (k * 89) _ rfl rfl (by rw [List.size_toArray, hlen.out]; exact hth.out) (by rw [List.size_toArray, hlen.out]; exact size_port) (all_oneCell_toArray hone.out) ?_
            go_wp2_with fail
            go_ret
            rw [stp3 HL.out hrow]
            have hB := hBy.out.setPort hk (l := (iupdL L)) hlen.out
            exact ⟨rfl, hB, Mut.setCells (.inl hBy.out.F2) _ _ hMy.out⟩
      · by_cases ex18_2 : x18 = 2
        · subst ex18_2
          cases x44
          · cases x50
            · cases x36
              · by_cases ex86_3 : x86 = 3
                · subst ex86_3
                  by_cases ex11_0 : x11 = 0
                  · subst ex11_0
                    have hrow : irowL L = 2 := by
                      unfold irowL irowB
                      rw [HE2.out, HE86.out, HE18.out, HE36.out, HE44.out, HE50.out, HE11.out]
                      simp
                    go_wp2_with fail
                    refine (res_pv (daged 1 1 P0 0 _ hP_z1 HLEN.out) (show dage 1 1 L = iage L from dage_eq 1 1 _)).mono ?_
                    rintro e zz ⟨rfl, hPz, hmz⟩
                    have hEz : Pm P0 0 z1 zz := hmz
                    go_wp2_with fail
                    have hrw := pv_row HQ.out HLEN.out hEz hPz
                    have hlen := Lib.hid hPz.len
                    have hBz := H.out.keep (fun n _ hn => (hEz.1.heap (Nat.lt_of_lt_of_le hn HX1.out.size) (show ¬ n = P0 by have := HW0.out; omega)).trans (HX1.out.block n hn))
                    have hMz : Mut F w zz := mut_new (HX1.out.mut F) hEz.1 (by have := HW0.out; omega)
                    have c17y := (hEz.1.cell (p := ⟨X, 17, none⟩) hX1 hXP).trans c17z.out
                    have hone := Lib.hid (show ∀ v ∈ ((iage L) : List Value), v.oneCell' = true from (show Typed PL _ from ty_age HT.out).one)
                    refine wp_region_tail 7 (by kernel_rfl) (by kernel_rfl) ?_
                    intro w2 hw2
                    have hx2 : Ext zz w2 := by
                      rw [hw2]
                      exact (Ext.refl _).drew
                    have HB2 := Lib.hid ((hx2.block _ (heap_lt hrw)).trans hrw)
                    have d17 := (hx2.cell (p := ⟨X, 17, none⟩) (Nat.lt_of_lt_of_le hX1 hEz.1.size)).trans c17y
                    have hBy := Lib.hid (hBz.ext hx2)
                    have hMy := Lib.hid (hMz.trans (hx2.mut F))
                    have hth := Lib.hid (hBy.out.there hk)
                    clear hw2 hrw c17y hBz hMz hx2
                    simp only [List.take_succ_cons, List.take_zero, List.drop_succ_cons, List.drop_zero]
                    iterate 5 still_step
                    refine wpStill_load_row rfl 51 _ rfl P0 rfl _ _ _ HB2.out Try.underlying51 rfl (by rw [List.size_toArray, hlen.out]; exact size_port) ?_
                    simp only [ps]
                    iterate 1 still_step
                    refine wpStill_nil ?_
                    refine wpList_store_mid rfl 51 _ _ rfl g (k * 89) _ rfl rfl (by rw [List.size_toArray, hlen.out]; exact hth.out) (by rw [List.size_toArray, hlen.out]; exact size_port) (all_oneCell_toArray hone.out) ?_
                    go_wp2_with fail
                    go_ret
                    rw [stp2 HL.out hrow]
                    have hB := hBy.out.setPort hk (l := (iage L)) hlen.out
                    exact ⟨rfl, hB, Mut.setCells (.inl hBy.out.F2) _ _ hMy.out⟩
                  · have bx11_0 : (x11 == 0) = false := ne_b ex11_0
                    have cx11_0 : (x11 != 0) = true := by simpa using ex11_0
                    clear ex11_0
                    have hrow : irowL L = 0 := by
                      unfold irowL irowB
                      rw [HE2.out, HE86.out, HE18.out, HE36.out, HE44.out, HE50.out, HE11.out]
                      rw [bx11_0]; simp
                    go_wp2_with fail
                    all_goals
                      go_ret
                      rw [stp0 HL.out h89.out hrow]
                      exact ⟨rfl, H.out.ext HX1.out, HX1.out.mut F⟩
                · have bx86_3 : (x86 == 3) = false := ne_b ex86_3
                  have cx86_3 : (x86 != 3) = true := by simpa using ex86_3
                  clear ex86_3
                  have hrow : irowL L = 0 := by
                    unfold irowL irowB
                    rw [HE2.out, HE86.out, HE18.out, HE36.out, HE44.out, HE50.out, HE11.out]
                    rw [bx86_3]; simp
                  go_wp2_with fail
                  all_goals
                    go_ret
                    rw [stp0 HL.out h89.out hrow]
                    exact ⟨rfl, H.out.ext HX1.out, HX1.out.mut F⟩
              · have hrow : irowL L = 4 := by
                  unfold irowL irowB
                  rw [HE2.out, HE86.out, HE18.out, HE36.out, HE44.out, HE50.out, HE11.out]
                  simp
                go_wp2_with fail
                all_goals
                  refine (res_pv (dhear_L X rs P0 0 _ hP_z1 HT.out HTM.out crz.out hX1 hXP ((tpI HT.out 18 rfl).trans (by rw [irow4_18 hrow]))) (show itakeL rs L = itakeL (B.hb 1) L by rw [HRS.out])).mono ?_
                  rintro e zz ⟨rfl, hPz, hmz⟩
                  have hEz : Pm P0 0 z1 zz := hmz
                  go_wp2_with fail
                  have hrw := pv_row HQ.out HLEN.out hEz hPz
                  have hlen := Lib.hid hPz.len
                  have hBz := H.out.keep (fun n _ hn => (hEz.1.heap (Nat.lt_of_lt_of_le hn HX1.out.size) (show ¬ n = P0 by have := HW0.out; omega)).trans (HX1.out.block n hn))
                  have hMz : Mut F w zz := mut_new (HX1.out.mut F) hEz.1 (by have := HW0.out; omega)
                  have c17y := (hEz.1.cell (p := ⟨X, 17, none⟩) hX1 hXP).trans c17z.out
                  have hone := Lib.hid (show ∀ v ∈ ((itakeL (B.hb 1) L) : List Value), v.oneCell' = true from (show Typed PL _ from ty_take HT.out HTM.out _).one)
                  refine wp_region_tail 7 (by kernel_rfl) (by kernel_rfl) ?_
                  intro w2 hw2
                  have hx2 : Ext zz w2 := by
                    rw [hw2]
                    exact (Ext.refl _).drew
                  have HB2 := Lib.hid ((hx2.block _ (heap_lt hrw)).trans hrw)
                  have d17 := (hx2.cell (p := ⟨X, 17, none⟩) (Nat.lt_of_lt_of_le hX1 hEz.1.size)).trans c17y
                  have hBy := Lib.hid (hBz.ext hx2)
                  have hMy := Lib.hid (hMz.trans (hx2.mut F))
                  have hth := Lib.hid (hBy.out.there hk)
                  clear hw2 hrw c17y hBz hMz hx2
                  simp only [List.take_succ_cons, List.take_zero, List.drop_succ_cons, List.drop_zero]
                  iterate 5 still_step
                  refine wpStill_load_row rfl 51 _ rfl P0 rfl _ _ _ HB2.out Try.underlying51 rfl (by rw [List.size_toArray, hlen.out]; exact size_port) ?_
                  simp only [ps]
                  iterate 1 still_step
                  refine wpStill_nil ?_
                  refine wpList_store_mid rfl 51 _ _ rfl g (k * 89) _ rfl rfl (by rw [List.size_toArray, hlen.out]; exact hth.out) (by rw [List.size_toArray, hlen.out]; exact size_port) (all_oneCell_toArray hone.out) ?_
                  go_wp2_with fail
                  go_ret
                  rw [stp4 HL.out hrow]
                  have hB := hBy.out.setPort hk (l := (itakeL (B.hb 1) L)) hlen.out
                  exact ⟨rfl, hB, Mut.setCells (.inl hBy.out.F2) _ _ hMy.out⟩
            · have hrow : irowL L = 0 := by
                unfold irowL irowB
                rw [HE2.out, HE86.out, HE18.out, HE36.out, HE44.out, HE50.out, HE11.out]
                simp
              go_wp2_with fail
              all_goals
                go_ret
                rw [stp0 HL.out h89.out hrow]
                exact ⟨rfl, H.out.ext HX1.out, HX1.out.mut F⟩
          · cases x50
            · cases x36
              · by_cases ex86_3 : x86 = 3
                · subst ex86_3
                  by_cases ex11_0 : x11 = 0
                  · subst ex11_0
                    have hrow : irowL L = 2 := by
                      unfold irowL irowB
                      rw [HE2.out, HE86.out, HE18.out, HE36.out, HE44.out, HE50.out, HE11.out]
                      simp
                    go_wp2_with fail
                    refine (res_pv (daged 1 1 P0 0 _ hP_z1 HLEN.out) (show dage 1 1 L = iage L from dage_eq 1 1 _)).mono ?_
                    rintro e zz ⟨rfl, hPz, hmz⟩
                    have hEz : Pm P0 0 z1 zz := hmz
                    go_wp2_with fail
                    have hrw := pv_row HQ.out HLEN.out hEz hPz
                    have hlen := Lib.hid hPz.len
                    have hBz := H.out.keep (fun n _ hn => (hEz.1.heap (Nat.lt_of_lt_of_le hn HX1.out.size) (show ¬ n = P0 by have := HW0.out; omega)).trans (HX1.out.block n hn))
                    have hMz : Mut F w zz := mut_new (HX1.out.mut F) hEz.1 (by have := HW0.out; omega)
                    have c17y := (hEz.1.cell (p := ⟨X, 17, none⟩) hX1 hXP).trans c17z.out
                    have hone := Lib.hid (show ∀ v ∈ ((iage L) : List Value), v.oneCell' = true from (show Typed PL _ from ty_age HT.out).one)
                    refine wp_region_tail 7 (by kernel_rfl) (by kernel_rfl) ?_
                    intro w2 hw2
                    have hx2 : Ext zz w2 := by
                      rw [hw2]
                      exact (Ext.refl _).drew
                    have HB2 := Lib.hid ((hx2.block _ (heap_lt hrw)).trans hrw)
                    have d17 := (hx2.cell (p := ⟨X, 17, none⟩) (Nat.lt_of_lt_of_le hX1 hEz.1.size)).trans c17y
                    have hBy := Lib.hid (hBz.ext hx2)
                    have hMy := Lib.hid (hMz.trans (hx2.mut F))
                    have hth := Lib.hid (hBy.out.there hk)
                    clear hw2 hrw c17y hBz hMz hx2
                    simp only [List.take_succ_cons, List.take_zero, List.drop_succ_cons, List.drop_zero]
                    iterate 5 still_step
                    refine wpStill_load_row rfl 51 _ rfl P0 rfl _ _ _ HB2.out Try.underlying51 rfl (by rw [List.size_toArray, hlen.out]; exact size_port) ?_
                    simp only [ps]
                    iterate 1 still_step
                    refine wpStill_nil ?_
                    refine wpList_store_mid rfl 51 _ _ rfl g (k * 89) _ rfl rfl (by rw [List.size_toArray, hlen.out]; exact hth.out) (by rw [List.size_toArray, hlen.out]; exact size_port) (all_oneCell_toArray hone.out) ?_
                    go_wp2_with fail
                    go_ret
                    rw [stp2 HL.out hrow]
                    have hB := hBy.out.setPort hk (l := (iage L)) hlen.out
                    exact ⟨rfl, hB, Mut.setCells (.inl hBy.out.F2) _ _ hMy.out⟩
                  · have bx11_0 : (x11 == 0) = false := ne_b ex11_0
                    have cx11_0 : (x11 != 0) = true := by simpa using ex11_0
                    clear ex11_0
                    have hrow : irowL L = 0 := by
                      unfold irowL irowB
                      rw [HE2.out, HE86.out, HE18.out, HE36.out, HE44.out, HE50.out, HE11.out]
                      rw [bx11_0]; simp
                    go_wp2_with fail
                    all_goals
                      go_ret
                      rw [stp0 HL.out h89.out hrow]
                      exact ⟨rfl, H.out.ext HX1.out, HX1.out.mut F⟩
                · have bx86_3 : (x86 == 3) = false := ne_b ex86_3
                  have cx86_3 : (x86 != 3) = true := by simpa using ex86_3
                  clear ex86_3
                  have hrow : irowL L = 0 := by
                    unfold irowL irowB
                    rw [HE2.out, HE86.out, HE18.out, HE36.out, HE44.out, HE50.out, HE11.out]
                    rw [bx86_3]; simp
                  go_wp2_with fail
                  all_goals
                    go_ret
                    rw [stp0 HL.out h89.out hrow]
                    exact ⟨rfl, H.out.ext HX1.out, HX1.out.mut F⟩
              · have hrow : irowL L = 4 := by
                  unfold irowL irowB
                  rw [HE2.out, HE86.out, HE18.out, HE36.out, HE44.out, HE50.out, HE11.out]
                  simp
                go_wp2_with fail
                all_goals
                  refine (res_pv (dhear_L X rs P0 0 _ hP_z1 HT.out HTM.out crz.out hX1 hXP ((tpI HT.out 18 rfl).trans (by rw [irow4_18 hrow]))) (show itakeL rs L = itakeL (B.hb 1) L by rw [HRS.out])).mono ?_
                  rintro e zz ⟨rfl, hPz, hmz⟩
                  have hEz : Pm P0 0 z1 zz := hmz
                  go_wp2_with fail
                  have hrw := pv_row HQ.out HLEN.out hEz hPz
                  have hlen := Lib.hid hPz.len
                  have hBz := H.out.keep (fun n _ hn => (hEz.1.heap (Nat.lt_of_lt_of_le hn HX1.out.size) (show ¬ n = P0 by have := HW0.out; omega)).trans (HX1.out.block n hn))
                  have hMz : Mut F w zz := mut_new (HX1.out.mut F) hEz.1 (by have := HW0.out; omega)
                  have c17y := (hEz.1.cell (p := ⟨X, 17, none⟩) hX1 hXP).trans c17z.out
                  have hone := Lib.hid (show ∀ v ∈ ((itakeL (B.hb 1) L) : List Value), v.oneCell' = true from (show Typed PL _ from ty_take HT.out HTM.out _).one)
                  refine wp_region_tail 7 (by kernel_rfl) (by kernel_rfl) ?_
                  intro w2 hw2
                  have hx2 : Ext zz w2 := by
                    rw [hw2]
                    exact (Ext.refl _).drew
                  have HB2 := Lib.hid ((hx2.block _ (heap_lt hrw)).trans hrw)
                  have d17 := (hx2.cell (p := ⟨X, 17, none⟩) (Nat.lt_of_lt_of_le hX1 hEz.1.size)).trans c17y
                  have hBy := Lib.hid (hBz.ext hx2)
                  have hMy := Lib.hid (hMz.trans (hx2.mut F))
                  have hth := Lib.hid (hBy.out.there hk)
                  clear hw2 hrw c17y hBz hMz hx2
                  simp only [List.take_succ_cons, List.take_zero, List.drop_succ_cons, List.drop_zero]
                  iterate 5 still_step
                  refine wpStill_load_row rfl 51 _ rfl P0 rfl _ _ _ HB2.out Try.underlying51 rfl (by rw [List.size_toArray, hlen.out]; exact size_port) ?_
                  simp only [ps]
                  iterate 1 still_step
                  refine wpStill_nil ?_
                  refine wpList_store_mid rfl 51 _ _ rfl g (k * 89) _ rfl rfl (by rw [List.size_toArray, hlen.out]; exact hth.out) (by rw [List.size_toArray, hlen.out]; exact size_port) (all_oneCell_toArray hone.out) ?_
                  go_wp2_with fail
                  go_ret
                  rw [stp4 HL.out hrow]
                  have hB := hBy.out.setPort hk (l := (itakeL (B.hb 1) L)) hlen.out
                  exact ⟨rfl, hB, Mut.setCells (.inl hBy.out.F2) _ _ hMy.out⟩
            · have hrow : irowL L = 3 := by
                unfold irowL irowB
                rw [HE2.out, HE86.out, HE18.out, HE36.out, HE44.out, HE50.out, HE11.out]
                simp
              go_wp2_with fail
              refine (res_pv (dupd_L P0 0 _ hP_z1 HT.out) (show iupdL L = iupdL L from rfl)).mono ?_
              rintro e zz ⟨rfl, hPz, hmz⟩
              have hEz : Pm P0 0 z1 zz := hmz
              go_wp2_with fail
              have hrw := pv_row HQ.out HLEN.out hEz hPz
              have hlen := Lib.hid hPz.len
              have hBz := H.out.keep (fun n _ hn => (hEz.1.heap (Nat.lt_of_lt_of_le hn HX1.out.size) (show ¬ n = P0 by have := HW0.out; omega)).trans (HX1.out.block n hn))
              have hMz : Mut F w zz := mut_new (HX1.out.mut F) hEz.1 (by have := HW0.out; omega)
              have c17y := (hEz.1.cell (p := ⟨X, 17, none⟩) hX1 hXP).trans c17z.out
              have hone := Lib.hid (show ∀ v ∈ ((iupdL L) : List Value), v.oneCell' = true from (show Typed PL _ from ty_upd HT.out).one)
              refine wp_region_tail 7 (by kernel_rfl) (by kernel_rfl) ?_
              intro w2 hw2
              have hx2 : Ext zz w2 := by
                rw [hw2]
                exact (Ext.refl _).drew
              have HB2 := Lib.hid ((hx2.block _ (heap_lt hrw)).trans hrw)
              have d17 := (hx2.cell (p := ⟨X, 17, none⟩) (Nat.lt_of_lt_of_le hX1 hEz.1.size)).trans c17y
              have hBy := Lib.hid (hBz.ext hx2)
              have hMy := Lib.hid (hMz.trans (hx2.mut F))
              have hth := Lib.hid (hBy.out.there hk)
              clear hw2 hrw c17y hBz hMz hx2
              simp only [List.take_succ_cons, List.take_zero, List.drop_succ_cons, List.drop_zero]
              iterate 5 still_step
              refine wpStill_load_row rfl 51 _ rfl P0 rfl _ _ _ HB2.out Try.underlying51 rfl (by rw [List.size_toArray, hlen.out]; exact size_port) ?_
              simp only [ps]
              iterate 1 still_step
              refine wpStill_nil ?_
              refine wpList_store_mid rfl 51 _ _ rfl g (k * 89) _ rfl rfl (by rw [List.size_toArray, hlen.out]; exact hth.out) (by rw [List.size_toArray, hlen.out]; exact size_port) (all_oneCell_toArray hone.out) ?_
              go_wp2_with fail
              go_ret
              rw [stp3 HL.out hrow]
              have hB := hBy.out.setPort hk (l := (iupdL L)) hlen.out
              exact ⟨rfl, hB, Mut.setCells (.inl hBy.out.F2) _ _ hMy.out⟩
        · have bx18_0 : (x18 == 0) = false := ne_b ex18_0
          have cx18_0 : (x18 != 0) = true := by simpa using ex18_0
          have bx18_1 : (x18 == 1) = false := ne_b ex18_1
          have cx18_1 : (x18 != 1) = true := by simpa using ex18_1
          have bx18_2 : (x18 == 2) = false := ne_b ex18_2
          have cx18_2 : (x18 != 2) = true := by simpa using ex18_2
          clear ex18_0 ex18_1 ex18_2
          have hrow : irowL L = 0 := by
            unfold irowL irowB
            rw [HE2.out, HE86.out, HE18.out, HE36.out, HE44.out, HE50.out, HE11.out]
            rw [bx18_0]; rw [bx18_1]; rw [bx18_2]; simp
          go_wp2_with fail
          all_goals
            go_ret
            rw [stp0 HL.out h89.out hrow]
            exact ⟨rfl, H.out.ext HX1.out, HX1.out.mut F⟩

end Go.Proofs.Ythfoacgdkoijeaa
