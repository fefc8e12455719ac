/- How far it is: the document's rounds by its program. No statement is proved here. -/
import Derived.Test.YtendaloeonbbeaaReU
import Derived.Maps.AppendAt
import Derived.OwnWalk
namespace Go.Proofs.Ytendaloeonbbeaa
open Go.RowKit Go.BigFrame Go.WideShapes Go.ChangeShapes Go.Deep
set_option linter.unusedVariables false
set_option linter.unusedSimpArgs false

set_option maxRecDepth 100000 in
set_option maxHeartbeats 8000000 in
theorem rdfar_any (n s : Nat) (v : Value) (L : List Hp) (w : World) (h : HopsAt w v L) (hn : 1 ≤ n) (hn2 : n ≤ 20) (hs : s < n) (hL : L.length ≤ 60) (hwf : ∀ h ∈ L, h.wf) :
    Calls Try.prog 16 #[.int .i64 n, v, .int .i64 s] w fun e w' => ∃ g cap, e = .returned (.slice (some ⟨g, 0, none⟩) n cap) ∧ WAt w' g n cap (rnds n L s n) ∧ Ext w w' := by
  obtain ⟨a, cap0, rfl, hm, hfo⟩ := h
  obtain ⟨i1, hi1, hz1, hs1, hb1⟩ := info_parts info_way
  have I1 := Lib.hid (And.intro hi1 (And.intro hz1 (And.intro hs1 hb1)))
  have HF := Lib.hid hfo
  have HW := Lib.hid hwf
  have HS0 := Lib.hid hs
  have HMK := Lib.hid (made_ways n)
  have hs8 : s < 20 := by omega
  clear hi1 hz1 hs1 hb1 hfo hwf
  go_enter Try.func16, Try.ntmps16
  go_upto_region 4 with (first
    | fail
    | (at_make; refine wpList_make_full _ rfl _ _ 28 rfl w.heap.size 34 i1 (.agg WZ) 3 Try.underlying28 I1.out.1 I1.out.2.1 I1.out.2.2.1 .i64 .i64 _ _ n rfl rfl rfl rfl (by rw [I1.out.2.2.2]; omega) (by unfold maxLen; omega) (Nat.le_refl _) ?_; intro w1 hown hgr))
  have hE1 : Ext w w1 := Below.grown (Ext.refl w) hgr (Nat.le_refl _) (fun g hg => by cases hg)
  rw [HMK.out] at hown
  obtain ⟨g0, cap1, e0, hb0, hA0⟩ := WAt.of_own (by omega) (by simp) hown
  cases e0
  obtain ⟨G, hG⟩ : ∃ m, w.heap.size = m := ⟨_, rfl⟩
  rw [hG] at hA0 ⊢
  have HG := Lib.hid hG
  obtain ⟨cur, hcur, hcz, hct⟩ := hA0.row
  have HA0 := Lib.hid hA0
  have HC := Lib.hid hcur
  have HE1 := Lib.hid hE1
  clear hG hA0 hcur hct hown hgr hE1
  go_wp2_with (first
    | fail
    | ((with_reducible refine at_store 4 ?_); refine st_at rfl rfl 4 _ _ rfl G (s * 3 + 2) _ #[.bool true] cur _ 34 rfl rfl rfl HC.out (by show s * 3 + 2 + 1 ≤ cur.size; omega) (by kernel_rfl) rfl rfl ?_
       intro w2 hq hm2
       have HA2 := Lib.hid (HA0.out.start HS0.out (by simp [List.getD, List.getElem?_replicate]; split <;> rfl) HC.out hq rfl)
       have HE2 := Lib.hid (Ext.mutE HE1.out hm2 (fun m h1 h2 => by have h3 : m = G := h2; have := HG.out; omega))
       clear hq hm2))
  go_loopw [8, 7] (fun i x wr => ∃ (k g cap : Nat) (wo : World), wo = wr ∧ k ≤ n ∧ i = .int .i64 k ∧ Value.slice (some ⟨g, 0, none⟩) n cap = x ∧ WAt wo g n cap (rnds n L s k) ∧ Ext w wo) (fun i _ _ => n - (intOf i).toNat)
  case atStart => exact ⟨0, G, n, _, rfl, by omega, rfl, rfl, HA2.out, HE2.out⟩
  case round =>
    clear HA2 HE2 HC HA0 HE1 hcz
    obtain ⟨k, g, cap, wo, rfl, hk, rfl, rfl, hA, hE⟩ := hrel
    have HA := Lib.hid hA
    have HE := Lib.hid hE
    have HBD := Lib.hid (rnds_wa HS0.out HW.out k)
    have HNX := Lib.hid (show rnds n L s (k + 1) = rndA n (rnds n L s k) (rnds n L s k) L from rfl)
    have HK := Lib.hid (show k = n → rnds n L s k = rnds n L s n from fun e => by rw [e])
    have hcg := Lib.hid hA.cap1
    clear hE hA
    obtain ⟨D, hD⟩ : ∃ D, rnds n L s k = D := ⟨_, rfl⟩
    rw [hD] at HA HBD HNX HK
    clear hD
    by_cases hlt : k < n
    · have hone := Lib.hid (flatW_one D)
      have hk8 : k < 20 := by omega
      have hgl := HA.out.lt
      have hcap2 : cap ≤ 9223372036854775807 := by have := HA.out.cap2; unfold maxLen at this; omega
      go_wp2_with (first
        | fail
        | (at_builtin; refine wpList_append_own_at _ rfl _ _ 28 rfl wo.heap.size 34 i1 (.agg WZ) 3 24 Try.underlying28 I1.out.1 I1.out.2.1 I1.out.2.2.1 I1.out.2.2.2 rfl (by decide) (.slice (some ⟨wo.heap.size, 0, none⟩) 0 0) 0 [] rfl ⟨rfl, .inr ⟨wo.heap.size, 0, #[], rfl, Nat.le_refl _, heap_alloc_new _ _, Nat.le_refl _, by decide, rfl, rfl⟩⟩ ⟨g, 0, none⟩ n cap (flatW D) rfl (by rw [flatW_len, HA.out.len]) (HA.out.ext ((Ext.refl wo).alloc _)).news hone.out (by unfold maxLen; omega) (by omega) (by simp) ?_
           intro v' w3 hown3 hgr3 _ _))
      have hE3 : Ext wo w3 := Below.grown ((Ext.refl wo).alloc _) hgr3 (by simp) (fun g hg => by
        have : wo.heap.size = g := by simpa [Value.ownBlock] using hg
        omega)
      rw [Nat.zero_add, List.nil_append] at hown3
      obtain ⟨g2, cap2, rfl, hb2, hA2⟩ := WAt.of_own (by omega) HA.out.len hown3
      have HB2 := Lib.hid hb2
      have HA2 := Lib.hid hA2
      have HE3 := Lib.hid hE3
      have hcg2 := Lib.hid hA2.cap1
      have hcap3 : cap2 ≤ 9223372036854775807 := by have := hA2.cap2; unfold maxLen at this; omega
      have hnc2 : n ≤ cap2 := hA2.cap1
      have hnc : n ≤ cap := HA.out.cap1
      clear hown3 hgr3 hb2 hA2 hE3 hone
      go_loopw [10] (fun i wq => ∃ j : Nat, j ≤ L.length ∧ i = .int .i64 j ∧ WAt wq g2 n cap2 (rndA n D D (L.take j)) ∧ Ext wo wq) (fun i _ => L.length - (intOf i).toNat)
      case atStart => exact ⟨0, by omega, rfl, HA2.out, HE3.out⟩
      case round =>
        clear HA2 HE3
        obtain ⟨j, hj, rfl, hA2, hX⟩ := hrel
        have HA2 := Lib.hid hA2
        have HX := Lib.hid hX
        clear hA2 hX
        by_cases hlt2 : j < L.length
        · obtain ⟨b, off, rfl, hb, hc1, hc2, hrg⟩ := HF.out (by omega)
          obtain ⟨h, hh⟩ : ∃ h, L[j]? = some h := ⟨_, List.getElem?_eq_getElem hlt2⟩
          have hw := HW.out h (List.mem_of_getElem? hh)
          have HH := Lib.hid hh
          have HRG := Lib.hid (show wr.rangeAt b (off + j * 3) [.int .i64 h.f, .int .i64 h.t, .int .u32 h.c] from by
            have hx : h.L = [.int .i64 h.f, .int .i64 h.t, .int .u32 h.c] := rfl
            rw [← hx, ← flatH_at L j h hh]
            have h2 := rangeR_ext hrg (HE.out.trans HX.out) hb
            intro i v hv
            rw [List.getElem?_take] at hv
            split at hv
            · rw [List.getElem?_drop] at hv
              rw [Nat.add_assoc]
              exact h2 _ _ hv
            · cases hv)
          have hj8 : j < 60 := by omega
          clear hrg hh
          have hzh := zero_fhp
          go_upto_region 13 with (first
            | fail
            | ((with_reducible refine at_load 45 ?_); refine wpList_load_mid rfl 45 _ rfl b (off + j * 3) rfl [.int .i64 h.f, .int .i64 h.t, .int .u32 h.c] _ HRG.out Try.underlying45 rfl (by kernel_rfl) ?_)
            | ((with_reducible refine at_store 45 ?_); refine wpList_store_new3 rfl rfl 45 _ _ _ rfl HZ #[.int .i64 h.f, .int .i64 h.t, .int .u32 h.c] _ rfl ?_ rfl (by kernel_rfl) rfl rfl ?_; · rfl
               intro z1 hz1
               have hx1 : Ext wr z1 := by rw [hz1]; exact (Ext.refl _).alloc _
               have hq := heap_alloc_new wr (.cells #[.int .i64 h.f, .int .i64 h.t, .int .u32 h.c] 45)
               rw [← hz1] at hq
               obtain ⟨H0, hH0⟩ : ∃ m, wr.heap.size = m := ⟨_, rfl⟩
               rw [hH0] at hq ⊢
               have HQ := Lib.hid hq
               have HX1 := Lib.hid (HX.out.trans hx1)
               have HA21 := Lib.hid (HA2.out.ext hx1)
               have HA1 := Lib.hid (HA.out.ext (HX.out.trans hx1))
               have c0 : z1.cell? ⟨H0, 0, none⟩ = some (.int .i64 h.f) := (cell_of_row _ _ _ _ _ _ hq).trans rfl
               have c1 : z1.cell? ⟨H0, 1, none⟩ = some (.int .i64 h.t) := (cell_of_row _ _ _ _ _ _ hq).trans rfl
               have c2 : z1.cell? ⟨H0, 2, none⟩ = some (.int .u32 h.c) := (cell_of_row _ _ _ _ _ _ hq).trans rfl
               clear hz1 hx1 hq hH0))
          clear hzh HX
          by_cases g1' : 0 ≤ h.f
          rotate_left
          · go_wp2_with fail
            go_roundw
            case rel => exact ⟨j + 1, by omega, by go_num, by rw [rndA_take HH.out]; unfold rnd1; rw [if_neg (by simp [Hp.ok, g1'])]; exact HA21.out, HX1.out⟩
            case measure => simp [intOf]; omega
          by_cases g2' : h.f < n
          rotate_left
          · go_wp2_with fail
            go_roundw
            case rel => exact ⟨j + 1, by omega, by go_num, by rw [rndA_take HH.out]; unfold rnd1; rw [if_neg (by simp [Hp.ok, g2'])]; exact HA21.out, HX1.out⟩
            case measure => simp [intOf]; omega
          by_cases g3' : 0 ≤ h.t
          rotate_left
          · go_wp2_with fail
            go_roundw
            case rel => exact ⟨j + 1, by omega, by go_num, by rw [rndA_take HH.out]; unfold rnd1; rw [if_neg (by simp [Hp.ok, g3'])]; exact HA21.out, HX1.out⟩
            case measure => simp [intOf]; omega
          by_cases g4' : h.t < n
          rotate_left
          · go_wp2_with fail
            go_roundw
            case rel => exact ⟨j + 1, by omega, by go_num, by rw [rndA_take HH.out]; unfold rnd1; rw [if_neg (by simp [Hp.ok, g4'])]; exact HA21.out, HX1.out⟩
            case measure => simp [intOf]; omega
          have hok : h.ok n = true := by simp [Hp.ok, g1', g2', g3', g4']
          obtain ⟨fn, hfn⟩ : ∃ m : Nat, h.f = m := ⟨h.f.toNat, by omega⟩
          obtain ⟨tn, htn⟩ : ∃ m : Nat, h.t = m := ⟨h.t.toNat, by omega⟩
          obtain ⟨cn, hcn⟩ : ∃ m : Nat, h.c = m := ⟨h.c.toNat, by have := hw.2.2.1; omega⟩
          have hfl : fn < n := by omega
          have htl : tn < n := by omega
          have hcl : cn < 4294967296 := by have := hw.2.2.2; omega
          obtain ⟨D2, hD2⟩ : ∃ D2, rndA n D D (L.take j) = D2 := ⟨_, rfl⟩
          have HR1 := Lib.hid (show rndA n D D (L.take (j + 1)) = match D.getD fn Option.none with | .none => D2 | .some q => if shW (q.1 + cn) (q.2 + 1) (D2.getD tn Option.none) = true then D2.set tn (Option.some (q.1 + cn, q.2 + 1)) else D2 by
            rw [rndA_take HH.out, hD2]
            unfold rnd1
            rw [if_pos hok, hfn, htn, Int.toNat_natCast, Int.toNat_natCast]
            cases D.getD fn Option.none with
            | none => rfl
            | some q => unfold hopW; rw [hcn, Int.toNat_natCast])
          rw [hD2] at HA21
          rw [hfn] at c0
          rw [htn] at c1
          rw [hcn] at c2
          have f8 : fn < 20 := by omega
          have t8 : tn < 20 := by omega
          clear hfn htn hcn hok g1' g2' g3' g4' hD2 hw
          have cA := HA1.out.cell (i := 0) hfl (by decide)
          have cB := HA1.out.cell (i := 1) hfl (by decide)
          have cI := HA1.out.cell (i := 2) hfl (by decide)
          have hbf := HBD.out fn
          obtain ⟨x, hx⟩ : ∃ x, D.getD fn Option.none = x := ⟨_, rfl⟩
          rw [hx] at cA cB cI HR1 hbf
          clear hx
          cases x with
          | none =>
            have cI2 : z1.cell? ⟨g, fn * 3 + 2, none⟩ = some (.bool false) := cI
            clear cA cB cI
            go_wp2_with fail
            go_roundw
            case rel => exact ⟨j + 1, by omega, by go_num, by rw [HR1.out]; exact HA21.out, HX1.out⟩
            case measure => simp [intOf]; omega
          | some q =>
            obtain ⟨qa, qb⟩ := q
            have cA2 : z1.cell? ⟨g, fn * 3, none⟩ = some (.int .u64 (qa : Int)) := cA
            have cB2 : z1.cell? ⟨g, fn * 3 + 1, none⟩ = some (.int .u64 (qb : Int)) := cB
            have cI2 : z1.cell? ⟨g, fn * 3 + 2, none⟩ = some (.bool true) := cI
            have hbq : qb ≤ k ∧ qa ≤ k * 4294967295 := hbf
            have hqb8 : qb < 20 := by omega
            have hqa8 : qa < 100000000000 := by have : k * 4294967295 ≤ 20 * 4294967295 := Nat.mul_le_mul_right _ (by omega); omega
            clear cA cB cI hbf hbq
            go_upto_region 15 with fail
            have hlg : g < z1.heap.size := HA1.out.lt
            have hlh : H0 < z1.heap.size := heap_lt HQ.out
            have hzw := zero_way
            refine beginL (S := fun W' => Ext z1 W') (by kernel_rfl) ?_
            intro wd hqx
            have hq0 : Ext z1 wd := hqx
            refine takeL (i := 0) (v := (.slice (some ⟨g, 0, none⟩) n cap)) rfl (by kernel_rfl) (by kernel_rfl) (by kernel_rfl) (fun _ _ _ h => h) (Or.inl ⟨rfl, fun _ _ => rfl⟩) hq0 ?_
            simp only [Act.put, List.setIfInBounds_toArray, List.set_cons_zero, List.set_cons_succ]
            refine takeL (i := 1) (v := (.pointer (some ⟨H0, 0, none⟩))) rfl (by kernel_rfl) (by kernel_rfl) (by kernel_rfl) (fun _ _ _ h => h) (Or.inl ⟨rfl, fun _ _ => rfl⟩) hq0 ?_
            simp only [Act.put, List.setIfInBounds_toArray, List.set_cons_zero, List.set_cons_succ]
            refine takeL (i := 2) (v := _) rfl (by kernel_rfl) (by kernel_rfl) (by kernel_rfl) (fun _ _ _ h => h) (yieldsIf_cell rfl 3 _ rfl ⟨H0, 0, none⟩ rfl (.int .i64 (fn : Int)) _ (fun W' hW' => (hW'.cell (p := ⟨H0, 0, none⟩) hlh).trans c0) Try.underlying3 rfl) hq0 ?_
            simp only [Act.put, List.setIfInBounds_toArray, List.set_cons_zero, List.set_cons_succ]
            refine takeL (i := 3) (v := (.pointer (some ⟨g, fn * 3, none⟩))) rfl (by kernel_rfl) (by kernel_rfl) (by kernel_rfl) (fun _ _ _ h => h) (Or.inl ⟨rfl, fun W' _ => by go_simp⟩) hq0 ?_
            simp only [Act.put, List.setIfInBounds_toArray, List.set_cons_zero, List.set_cons_succ]
            refine takeL (i := 4) (v := (.pointer (some ⟨g, fn * 3, none⟩))) rfl (by kernel_rfl) (by kernel_rfl) (by kernel_rfl) (fun _ _ _ h => h) (Or.inl ⟨rfl, fun _ _ => rfl⟩) hq0 ?_
            simp only [Act.put, List.setIfInBounds_toArray, List.set_cons_zero, List.set_cons_succ]
            refine takeL (i := 5) (v := _) rfl (by kernel_rfl) (by kernel_rfl) (by kernel_rfl) (fun _ _ _ h => h) (yieldsIf_cell rfl 32 _ rfl ⟨g, fn * 3, none⟩ rfl (.int .u64 (qa : Int)) _ (fun W' hW' => (hW'.cell (p := ⟨g, fn * 3, none⟩) hlg).trans cA2) Try.underlying32 rfl) hq0 ?_
            simp only [Act.put, List.setIfInBounds_toArray, List.set_cons_zero, List.set_cons_succ]
            refine takeL (i := 6) (v := (.pointer (some ⟨H0, 2, none⟩))) rfl (by kernel_rfl) (by kernel_rfl) (by kernel_rfl) (fun _ _ _ h => h) (Or.inl ⟨rfl, fun _ _ => rfl⟩) hq0 ?_
            simp only [Act.put, List.setIfInBounds_toArray, List.set_cons_zero, List.set_cons_succ]
            refine takeL (i := 7) (v := _) rfl (by kernel_rfl) (by kernel_rfl) (by kernel_rfl) (fun _ _ _ h => h) (yieldsIf_cell rfl 38 _ rfl ⟨H0, 2, none⟩ rfl (.int .u32 (cn : Int)) _ (fun W' hW' => (hW'.cell (p := ⟨H0, 2, none⟩) hlh).trans c2) Try.underlying38 rfl) hq0 ?_
            simp only [Act.put, List.setIfInBounds_toArray, List.set_cons_zero, List.set_cons_succ]
            refine takeL (i := 8) (v := (.int .u64 (cn : Int))) rfl (by kernel_rfl) (by kernel_rfl) (by kernel_rfl) (fun _ _ _ h => h) (Or.inl ⟨rfl, fun W' _ => by go_simp; exact u_wrap _ (by omega) (by omega)⟩) hq0 ?_
            simp only [Act.put, List.setIfInBounds_toArray, List.set_cons_zero, List.set_cons_succ]
            refine takeL (i := 9) (v := (.int .u64 ((qa : Int) + (cn : Int)))) rfl (by kernel_rfl) (by kernel_rfl) (by kernel_rfl) (fun _ _ _ h => h) (Or.inl ⟨rfl, fun W' _ => by go_simp; exact u_wrap _ (by omega) (by omega)⟩) hq0 ?_
            simp only [Act.put, List.setIfInBounds_toArray, List.set_cons_zero, List.set_cons_succ]
            refine takeL (i := 10) (v := (.slice (some ⟨g, 0, none⟩) n cap)) rfl (by kernel_rfl) (by kernel_rfl) (by kernel_rfl) (fun _ _ _ h => h) (Or.inl ⟨rfl, fun _ _ => rfl⟩) hq0 ?_
            simp only [Act.put, List.setIfInBounds_toArray, List.set_cons_zero, List.set_cons_succ]
            refine takeL (i := 11) (v := (.pointer (some ⟨H0, 0, none⟩))) rfl (by kernel_rfl) (by kernel_rfl) (by kernel_rfl) (fun _ _ _ h => h) (Or.inl ⟨rfl, fun _ _ => rfl⟩) hq0 ?_
            simp only [Act.put, List.setIfInBounds_toArray, List.set_cons_zero, List.set_cons_succ]
            refine takeL (i := 12) (v := _) rfl (by kernel_rfl) (by kernel_rfl) (by kernel_rfl) (fun _ _ _ h => h) (yieldsIf_cell rfl 3 _ rfl ⟨H0, 0, none⟩ rfl (.int .i64 (fn : Int)) _ (fun W' hW' => (hW'.cell (p := ⟨H0, 0, none⟩) hlh).trans c0) Try.underlying3 rfl) hq0 ?_
            simp only [Act.put, List.setIfInBounds_toArray, List.set_cons_zero, List.set_cons_succ]
            refine takeL (i := 13) (v := (.pointer (some ⟨g, fn * 3, none⟩))) rfl (by kernel_rfl) (by kernel_rfl) (by kernel_rfl) (fun _ _ _ h => h) (Or.inl ⟨rfl, fun W' _ => by go_simp⟩) hq0 ?_
            simp only [Act.put, List.setIfInBounds_toArray, List.set_cons_zero, List.set_cons_succ]
            refine takeL (i := 14) (v := (.pointer (some ⟨g, fn * 3 + 1, none⟩))) rfl (by kernel_rfl) (by kernel_rfl) (by kernel_rfl) (fun _ _ _ h => h) (Or.inl ⟨rfl, fun _ _ => rfl⟩) hq0 ?_
            simp only [Act.put, List.setIfInBounds_toArray, List.set_cons_zero, List.set_cons_succ]
            refine takeL (i := 15) (v := _) rfl (by kernel_rfl) (by kernel_rfl) (by kernel_rfl) (fun _ _ _ h => h) (yieldsIf_cell rfl 32 _ rfl ⟨g, fn * 3 + 1, none⟩ rfl (.int .u64 (qb : Int)) _ (fun W' hW' => (hW'.cell (p := ⟨g, fn * 3 + 1, none⟩) hlg).trans cB2) Try.underlying32 rfl) hq0 ?_
            simp only [Act.put, List.setIfInBounds_toArray, List.set_cons_zero, List.set_cons_succ]
            refine takeL (i := 16) (v := (.int .u64 ((qb : Int) + 1))) rfl (by kernel_rfl) (by kernel_rfl) (by kernel_rfl) (fun _ _ _ h => h) (Or.inl ⟨rfl, fun W' _ => by go_simp; exact u_wrap _ (by omega) (by omega)⟩) hq0 ?_
            simp only [Act.put, List.setIfInBounds_toArray, List.set_cons_zero, List.set_cons_succ]
            refine takeL (i := 17) (v := (.agg #[.int .u64 ((qa : Int) + (cn : Int)), .int .u64 ((qb : Int) + 1), .bool true])) rfl (by kernel_rfl) (by kernel_rfl) (by kernel_rfl) (fun _ _ _ h => h) (yieldsIf_build rfl 34 _ rfl [(0, .int .u64 ((qa : Int) + (cn : Int))), (1, .int .u64 ((qb : Int) + 1)), (2, .bool true)] rfl #[.int .u64 ((qa : Int) + (cn : Int)), .int .u64 ((qb : Int) + 1), .bool true] (way_bl _ _)) hq0 ?_
            simp only [Act.put, List.setIfInBounds_toArray, List.set_cons_zero, List.set_cons_succ]
            refine runL (i := 18) rfl rfl (by kernel_rfl) (fun K hK => ?_)
            refine wp_al_zero 34 rfl WZ zero_way (fun W0 wa18 hrow18 hsz18 hx => ?_)
            have hq1 := hq0.trans hx
            have hlo18 : z1.heap.size ≤ W0 := by have := hq0.size; omega
            clear hx
            refine hK.out _ _ hq1 (fun hHeld => ?_)
            try simp only [Act.put, List.setIfInBounds_toArray, List.set_cons_zero, List.set_cons_succ]
            clear hK K hHeld
            refine runL (i := 19) rfl rfl (by kernel_rfl) (fun K hK => ?_)
            refine wp_st_at rfl 34 _ _ rfl W0 0 _ #[.int .u64 ((qa : Int) + (cn : Int)), .int .u64 ((qb : Int) + 1), .bool true] _ #[.int .u64 ((qa : Int) + (cn : Int)), .int .u64 ((qb : Int) + 1), .bool true] _ rfl rfl rfl hrow18 (by exact (by decide : 0 + 3 ≤ 3)) (by kernel_rfl) rfl rfl (fun ws19 hrow19 hm => ?_)
            have hq2 : Ext z1 ws19 := Ext.mutE hq1 hm (fun n hn h => by have h2 : n = W0 := h; omega)
            clear hm
            refine hK.out _ _ hq2 (fun hHeld => ?_)
            try simp only [Act.put, List.setIfInBounds_toArray, List.set_cons_zero, List.set_cons_succ]
            clear hK K hHeld
            refine wpAnyH_done (by kernel_rfl) ?_ _
            have HQF := hq2
            have hrow : ws19.heap[W0]? = some (.cells #[.int .u64 ((qa : Int) + (cn : Int)), .int .u64 ((qb : Int) + 1), .bool true] 34 (0, 0)) := hrow19
            have HX2 := Lib.hid (HX1.out.trans HQF)
            have HA22 := Lib.hid (HA21.out.ext HQF)
            have c1b : ws19.cell? ⟨H0, 1, none⟩ = some (.int .i64 (tn : Int)) := (HQF.cell (p := ⟨H0, 1, none⟩) hlh).trans c1
            have hlh2 : H0 < ws19.heap.size := Nat.lt_of_lt_of_le hlh HQF.size
            clear cA2 cB2 cI2 c0 c1 c2 HA21 HX1
            go_upto_region 16 with fail
            have hrgT := HA22.out.range htl
            have cT2 := HA22.out.cell (i := 2) htl (by decide)
            obtain ⟨y, hy⟩ : ∃ y, D2.getD tn Option.none = y := ⟨_, rfl⟩
            rw [hy] at hrgT cT2
            have HSH := Lib.hid (show shW (qa + cn) (qb + 1) y = (!wi y || ltW (qa + cn) (qb + 1) (wa y) (wb y)) by cases y <;> rfl)
            have HLS := Lib.hid (fun w' : World => by have h := rdless_g (qa + cn) (qb + 1) (wa y) (wb y) true (wi y) w'; rw [Int.natCast_add, Int.natCast_add] at h; exact h)
            unfold WV at hrgT
            have cT3 : ws19.cell? ⟨g2, tn * 3 + 2, none⟩ = some (.bool (wi y)) := cT2
            obtain ⟨ya, hya⟩ : ∃ m, wa y = m := ⟨_, rfl⟩
            obtain ⟨yb, hyb⟩ : ∃ m, wb y = m := ⟨_, rfl⟩
            obtain ⟨yi, hyi⟩ : ∃ m, wi y = m := ⟨_, rfl⟩
            rw [hya, hyb, hyi] at HSH HLS hrgT
            rw [hyi] at cT3
            obtain ⟨lb, hlb⟩ : ∃ m, ltW (qa + cn) (qb + 1) ya yb = m := ⟨_, rfl⟩
            rw [hlb] at HSH HLS
            rw [← hy] at HSH
            have HR2 := Lib.hid (show rndA n D D (L.take (j + 1)) = if (!yi || lb) = true then D2.set tn (Option.some (qa + cn, qb + 1)) else D2 from HR1.out.trans (by
              show (if shW (qa + cn) (qb + 1) (D2.getD tn Option.none) = true then D2.set tn (Option.some (qa + cn, qb + 1)) else D2) = _
              rw [HSH.out]))
            have HRT := Lib.hid hrgT
            clear hrgT hya hyb hyi hlb HSH HR1 hy cT2
            have hlg2 : g2 < ws19.heap.size := HA22.out.lt
            have hlw : W0 < ws19.heap.size := heap_lt hrow
            refine beginL (S := fun W' => Ext ws19 W') (by kernel_rfl) ?_
            intro wd hqx
            have hq0 : Ext ws19 wd := hqx
            refine takeL (i := 0) (v := _) rfl (by kernel_rfl) (by kernel_rfl) (by kernel_rfl) (fun _ _ _ h => h) (yieldsIf_rowS rfl 34 _ rfl W0 rfl #[.int .u64 ((qa : Int) + (cn : Int)), .int .u64 ((qb : Int) + 1), .bool true] _ _ (fun W' hW' => (hW'.block _ hlw).trans hrow) Try.underlying34 rfl (by kernel_rfl)) hq0 ?_
            simp only [Act.put, List.setIfInBounds_toArray, List.set_cons_zero, List.set_cons_succ]
            refine takeL (i := 1) (v := (.slice (some ⟨g2, 0, none⟩) n cap2)) rfl (by kernel_rfl) (by kernel_rfl) (by kernel_rfl) (fun _ _ _ h => h) (Or.inl ⟨rfl, fun _ _ => rfl⟩) hq0 ?_
            simp only [Act.put, List.setIfInBounds_toArray, List.set_cons_zero, List.set_cons_succ]
            refine takeL (i := 2) (v := (.pointer (some ⟨H0, 1, none⟩))) rfl (by kernel_rfl) (by kernel_rfl) (by kernel_rfl) (fun _ _ _ h => h) (Or.inl ⟨rfl, fun _ _ => rfl⟩) hq0 ?_
            simp only [Act.put, List.setIfInBounds_toArray, List.set_cons_zero, List.set_cons_succ]
            refine takeL (i := 3) (v := _) rfl (by kernel_rfl) (by kernel_rfl) (by kernel_rfl) (fun _ _ _ h => h) (yieldsIf_cell rfl 3 _ rfl ⟨H0, 1, none⟩ rfl (.int .i64 (tn : Int)) _ (fun W' hW' => (hW'.cell (p := ⟨H0, 1, none⟩) hlh2).trans c1b) Try.underlying3 rfl) hq0 ?_
            simp only [Act.put, List.setIfInBounds_toArray, List.set_cons_zero, List.set_cons_succ]
            refine takeL (i := 4) (v := (.pointer (some ⟨g2, tn * 3, none⟩))) rfl (by kernel_rfl) (by kernel_rfl) (by kernel_rfl) (fun _ _ _ h => h) (Or.inl ⟨rfl, fun W' _ => by go_simp⟩) hq0 ?_
            simp only [Act.put, List.setIfInBounds_toArray, List.set_cons_zero, List.set_cons_succ]
            refine takeL (i := 5) (v := _) rfl (by kernel_rfl) (by kernel_rfl) (by kernel_rfl) (fun _ _ _ h => h) (yieldsIf_load_mid rfl 34 _ rfl g2 (tn * 3) rfl ([.int .u64 (ya : Int), .int .u64 (yb : Int), .bool yi]) _ (fun W' hW' => rangeR_ext HRT.out hW' hlg2) Try.underlying34 rfl (by kernel_rfl)) hq0 ?_
            simp only [Act.put, List.setIfInBounds_toArray, List.set_cons_zero, List.set_cons_succ]
            refine runL (i := 6) rfl rfl (by kernel_rfl) (fun K hK => ?_)
            go_simp
            refine (HLS.out _).mono ?_
            rintro e wc1 ⟨rfl, hx⟩
            have hq1 := hq0.trans hx
            refine hK.out _ _ hq1 (fun hHeld => ?_)
            try simp only [Act.put, List.setIfInBounds_toArray, List.set_cons_zero, List.set_cons_succ]
            clear hK K hHeld
            refine takeL (i := 7) (v := (.bool lb)) rfl (by kernel_rfl) (by kernel_rfl) (by kernel_rfl) (fun _ _ _ h => h) (Or.inl ⟨rfl, fun _ _ => rfl⟩) hq1 ?_
            simp only [Act.put, List.setIfInBounds_toArray, List.set_cons_zero, List.set_cons_succ]
            refine wpAnyH_done (by kernel_rfl) ?_ _
            have HQG := hq1
            have HX3 := Lib.hid (HX2.out.trans HQG)
            have HA23 := Lib.hid (HA22.out.ext HQG)
            have HROW := Lib.hid ((HQG.block _ hlw).trans hrow)
            have c1c := (HQG.cell (p := ⟨H0, 1, none⟩) hlh2).trans c1b
            have cT4 := (HQG.cell (p := ⟨g2, tn * 3 + 2, none⟩) hlg2).trans cT3
            clear hrow HX2 HA22 c1b HRT cT3
            obtain ⟨cur2, hcur2, hcz2, -⟩ := HA23.out.row
            have HC2 := Lib.hid hcur2
            have hcs2 : tn * 3 + 3 ≤ cur2.size := by omega
            clear hcur2
            cases yi
            · go_wp2_with (first
                | fail
                | ((with_reducible refine at_load 34 ?_); refine wpList_load_row rfl 34 _ rfl W0 rfl 34 #[.int .u64 ((qa : Int) + (cn : Int)), .int .u64 ((qb : Int) + 1), .bool true] (0, 0) _ HROW.out Try.underlying34 rfl (by kernel_rfl) ?_)
                | ((with_reducible refine at_store 34 ?_); refine st_at rfl rfl 34 _ _ rfl g2 (tn * 3) _ #[.int .u64 ((qa : Int) + (cn : Int)), .int .u64 ((qb : Int) + 1), .bool true] cur2 _ 34 rfl rfl rfl HC2.out (by show tn * 3 + 3 ≤ cur2.size; omega) (by kernel_rfl) rfl rfl ?_
                   intro w9 hq9 hm9
                   have HA9 := Lib.hid (HA23.out.put htl (Option.some (qa + cn, qb + 1)) HC2.out hq9 (by simp [WV, wa, wb, wi]))
                   have HX9 := Lib.hid (Ext.mutE HX3.out hm9 (fun m h1 h2 => by have h3 : m = g2 := h2; have := HB2.out; omega))
                   clear hq9 hm9))
              go_roundw
              case rel => exact ⟨j + 1, by omega, by go_num, by rw [HR2.out, if_pos (by simp)]; exact HA9.out, HX9.out⟩
              case measure => simp [intOf]; omega
            · cases lb
              · go_wp2_with fail
                go_roundw
                case rel => exact ⟨j + 1, by omega, by go_num, by rw [HR2.out, if_neg (by simp)]; exact HA23.out, HX3.out⟩
                case measure => simp [intOf]; omega
              · go_wp2_with (first
                | fail
                | ((with_reducible refine at_load 34 ?_); refine wpList_load_row rfl 34 _ rfl W0 rfl 34 #[.int .u64 ((qa : Int) + (cn : Int)), .int .u64 ((qb : Int) + 1), .bool true] (0, 0) _ HROW.out Try.underlying34 rfl (by kernel_rfl) ?_)
                | ((with_reducible refine at_store 34 ?_); refine st_at rfl rfl 34 _ _ rfl g2 (tn * 3) _ #[.int .u64 ((qa : Int) + (cn : Int)), .int .u64 ((qb : Int) + 1), .bool true] cur2 _ 34 rfl rfl rfl HC2.out (by show tn * 3 + 3 ≤ cur2.size; omega) (by kernel_rfl) rfl rfl ?_
                   intro w9 hq9 hm9
                   have HA9 := Lib.hid (HA23.out.put htl (Option.some (qa + cn, qb + 1)) HC2.out hq9 (by simp [WV, wa, wb, wi]))
                   have HX9 := Lib.hid (Ext.mutE HX3.out hm9 (fun m h1 h2 => by have h3 : m = g2 := h2; have := HB2.out; omega))
                   clear hq9 hm9))
                go_roundw
                case rel => exact ⟨j + 1, by omega, by go_num, by rw [HR2.out, if_pos (by simp)]; exact HA9.out, HX9.out⟩
                case measure => simp [intOf]; omega
        · obtain rfl : j = L.length := by omega
          have HA3 := Lib.hid (show WAt wr g2 n cap2 (rnds n L s (k + 1)) by rw [HNX.out]; have := HA2.out; rw [List.take_length] at this; exact this)
          go_wp2_with fail
          go_roundw
          case rel => exact ⟨k + 1, g2, cap2, _, rfl, by omega, by go_num, rfl, HA3.out, HE.out.trans HX.out⟩
          case measure => simp [intOf]; omega
    · have HA3 := Lib.hid (show WAt wo g n cap (rnds n L s n) by rw [← HK.out (by omega)]; exact HA.out)
      go_wp2_with fail
      go_ret
      exact ⟨g, cap, rfl, HA3.out, HE.out⟩

end Go.Proofs.Ytendaloeonbbeaa
