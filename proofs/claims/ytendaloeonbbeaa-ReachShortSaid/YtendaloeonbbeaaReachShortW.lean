/- The walk of ReachShort. No statement is proved here. -/
import Derived.Test.YtendaloeonbbeaaReR
namespace Go.Proofs.Ytendaloeonbbeaa
open Go.RowKit Go.BigFrame Go.WideShapes Go.ChangeShapes Go.Deep
set_option linter.unusedVariables false
set_option linter.unusedSimpArgs false

/-- Each point that a hop reaches exactly is marked. -/
def Marks (n : Nat) (D : List Way) (l : List Hp) (bs : List Bool) : Prop := ∀ h ∈ l, h.ok n = true → ∀ q, D.getD h.f.toNat Option.none = Option.some q → D.getD h.t.toNat Option.none = Option.some (hopW q h) → bs.getD h.t.toNat false = true
theorem Marks.snoc {n : Nat} {D : List Way} {l : List Hp} {bs : List Bool} {h : Hp} (m : Marks n D l bs) (hh : h.ok n = true → ∀ q, D.getD h.f.toNat Option.none = Option.some q → D.getD h.t.toNat Option.none = Option.some (hopW q h) → bs.getD h.t.toNat false = true) : Marks n D (l ++ [h]) bs := fun x hx => by
  rcases List.mem_append.1 hx with hx | hx
  · exact m x hx
  · rw [List.mem_singleton] at hx
    rw [hx]
    exact hh
theorem Marks.set {n : Nat} {D : List Way} {l : List Hp} {bs : List Bool} {k : Nat} (m : Marks n D l bs) (hk : k < bs.length) : Marks n D l (bs.set k true) := fun x hx h1 q h2 h3 => by
  rw [getD_setB hk]
  split
  · rfl
  · exact m x hx h1 q h2 h3
theorem eql_ways (a b c d : Nat) (ha : a < 2 ^ 53) (hb : b < 2 ^ 53) (hc : c < 2 ^ 53) (hd : d < 2 ^ 53) (w : World) : (binOp .eql 30 (cvW (Option.some (a, b))) (cvW (Option.some (c, d)))).run Try.prog w = .ok (.bool (a == c && b == d)) w := by
  have h1 : (FloatKind.f64.format.order (fl a) (fl c) == some Ordering.eq) = (a == c) := by rw [f_ord ha hc, cmp_eq]
  have h2 : (FloatKind.f64.format.order (fl b) (fl d) == some Ordering.eq) = (b == d) := by rw [f_ord hb hd, cmp_eq]
  unfold cvW
  simp only [binOp, Op.complexOp, Op.Complex.cmp, Op.floatCmp, h1, h2]
  simp [asBool]
theorem eqg_ways (p q : Way) (x y : Operand) (w : World) : (eqGuard .eql 30 x y (cvW p) (cvW q)).run Try.prog w = .ok () w := by
  cases p <;> cases q <;> rfl
theorem zero_fhop : ∀ w, (zeroValue 45).run Try.prog w = .ok (.agg HZ) w := (zero_of_info (P := Try.prog) (t := 45) (v := .agg HZ) (n := 3) (by kernel_rfl)).1
theorem u1_b (c : Int) : Instr.fill (fun i => some (i * 1, 1)) ((Array.range (1 * 1)).map ((Value.int .u32 0).cells[· % (Value.int .u32 0).cells.size]!)) [(0, .int .u32 c)] = some #[.int .u32 c] := by kernel_rfl
set_option maxRecDepth 100000 in
set_option maxHeartbeats 8000000 in
theorem law_ReachShort {w : World} (n : Int) (hn : 0 ≤ n ∧ n < 256) (v1 : Value) (L : List Hp) (h1 : HopsAt w v1 L ∧ ∀ h ∈ L, h.wf) (s : Int) (hs : 0 ≤ s ∧ s < 256) :
    Calls Try.prog 5 #[.int .u8 n, v1, .int .u8 s] w fun e w' => e = .returned (.bool true) ∧ Ext w w' := by
  have H1 := Lib.hid h1.1
  have HW := Lib.hid h1.2
  obtain ⟨⟨a, cap, rfl, hm, hfo⟩, -⟩ := h1
  have HF := Lib.hid hfo
  obtain ⟨nn, hN⟩ : ∃ K : Nat, (K : Int) = 1 + n % 20 := ⟨(1 + n % 20).toNat, by omega⟩
  obtain ⟨ss, hS⟩ : ∃ S : Nat, (S : Int) = s % nn := ⟨(s % nn).toNat, by have := Int.emod_nonneg s (show (nn : Int) ≠ 0 by omega); omega⟩
  have hNr : 1 ≤ nn ∧ nn ≤ 20 := by omega
  have hSr : ss < nn := by have := Int.emod_lt_of_pos s (show (0 : Int) < nn by omega); omega
  have HNN := Lib.hid hN
  have HSS := Lib.hid hS
  obtain ⟨i4, hi4, hz4, hs4, hb4⟩ := info_parts info_boo
  have I4 := Lib.hid (And.intro hi4 (And.intro hz4 (And.intro hs4 hb4)))
  clear hN hS hfo hi4 hz4 hs4 hb4
  go_enter Try.func5, Try.ntmps5
  go_wp2_with fail
  refine (awake22 _).mono ?_
  rintro e w1 ⟨rfl, hE1⟩
  by_cases hl : L.length ≤ 60
  rotate_left
  · have hd : decide (60 < (L.length : Int)) = true := by simp; omega
    go_wp2_with fail
    go_ret
    exact ⟨rfl, hE1⟩
  have hd : decide (60 < (L.length : Int)) = false := by simp; omega
  go_wp2_with fail
  rw [← HNN.out, ← HSS.out]
  refine (rhops_any _ L _ (H1.out.ext hE1) hl HW.out).mono ?_
  rintro e w2 ⟨u1, rfl, hO1, hx2⟩
  have hE2 := hE1.trans hx2
  have hH1 := HopsAt.own hO1 (by omega)
  clear hx2 hE1 hO1 hd
  go_wp2_with fail
  refine (rfar_any nn ss _ L w2 hH1 hNr.1 (by omega) hSr (by omega) HW.out).mono ?_
  rintro e w3 ⟨g1, t1, D, dn, rfl, hR, hq, -, hx3⟩
  have hE3 := hE2.trans hx3
  have HFA := Lib.hid (hR.fin hSr)
  have hbd := hR.bound hSr HW.out
  have HFS := Lib.hid (fun i x y (h : D.getD i Option.none = Option.some (x, y)) => show x < 1000000000000 ∧ y < 1000 from by have := (hR.facts hSr HW.out).1.small i x y h; omega)
  have HG1 := Lib.hid hq
  have HE3 := Lib.hid hE3
  clear hx3 hE2 hH1 hR hq hE3 hbd
  go_upto_region 10 with (first
    | fail
    | (at_make; refine wpList_make_row _ rfl _ _ 43 rfl 4 i4 (.bool false) Try.underlying43 I4.out.1 I4.out.2.1 I4.out.2.2.1 rfl .i64 .i64 nn rfl rfl (by rw [I4.out.2.2.2]; omega) (by omega) ?_))
  have hB0 := heap_alloc_new w3 (.cells (madeCells #[.bool false] nn) 4)
  have hx4 : Ext w3 (w3.alloc (.cells (madeCells #[.bool false] nn) 4)) := (Ext.refl _).alloc _
  have hmk : madeCells #[Value.bool false] nn = ((List.replicate nn false).map Value.bool).toArray := by rw [made_rep, List.map_replicate]
  generalize w3.alloc (.cells (madeCells #[.bool false] nn) 4) = w4 at *
  rw [hmk] at hB0
  obtain ⟨G, hG⟩ : ∃ m, w3.heap.size = m := ⟨_, rfl⟩
  rw [hG] at hB0 ⊢
  have hGl : (List.replicate nn false).length = nn := by simp
  obtain ⟨bs0, hbs0⟩ : ∃ b, List.replicate nn false = b := ⟨_, rfl⟩
  rw [hbs0] at hB0 hGl
  have HGG := Lib.hid hG
  have HB0 := Lib.hid hB0
  clear hbs0 hmk hG hB0
  go_wp2_with (first
    | fail
    | ((with_reducible refine at_store 4 ?_); refine st_at rfl rfl 4 _ _ rfl G ss _ #[.bool true] _ ((bs0.set ss true).map Value.bool).toArray _ rfl rfl rfl HB0.out (by show ss + 1 ≤ (bs0.map Value.bool).toArray.size; rw [List.size_toArray, List.length_map, hGl]; exact hSr) (by kernel_rfl) rfl (bool_row true (by rw [hGl]; exact hSr)) ?_
       intro w5 hq hm
       have HB1 := Lib.hid hq
       have HX5 := Lib.hid (Ext.mutE hx4 hm (fun m h1 h2 => by have h3 : m = G := h2; have := HGG.out; omega))
       clear hq hm))
  have HBL := Lib.hid (show (bs0.set ss true).length = nn ∧ (bs0.set ss true).getD ss false = true from ⟨by rw [List.length_set]; exact hGl, by rw [getD_setB (by rw [hGl]; exact hSr), if_pos rfl]⟩)
  clear hGl
  obtain ⟨bs1, hbs1⟩ : ∃ b, bs0.set ss true = b := ⟨_, rfl⟩
  rw [hbs1] at HB1 HBL
  clear hbs1 HB0 hx4
  have hg1l := Lib.hid (heap_lt HG1.out)
  have HGN := Lib.hid (show g1 ≠ G by have := hg1l.out; have := HGG.out; omega)
  go_loopw [12] (fun i wr => ∃ (k : Nat) (bs : List Bool), k ≤ L.length ∧ i = .int .i64 k ∧ bs.length = nn ∧ bs.getD ss false = true ∧ Marks nn D (L.take k) bs ∧ wr.heap[G]? = some (.cells (bs.map Value.bool).toArray 4 (0, 0)) ∧ Ext w3 wr) (fun i _ => L.length - (intOf i).toNat)
  case atStart => exact ⟨0, bs1, by omega, rfl, HBL.out.1, HBL.out.2, (by intro h hh; simp at hh), HB1.out, HX5.out⟩
  case round =>
    clear HB1 HX5 HBL
    obtain ⟨k, bs, hk, rfl, hbl, hbs, hmk, hbr, hX⟩ := hrel
    have HMK := Lib.hid hmk
    have HBR := Lib.hid hbr
    have HX := Lib.hid hX
    have HBS := Lib.hid hbs
    clear hmk hbr hX hbs
    by_cases hlt : k < L.length
    · obtain ⟨b, off, rfl, hb, hc1, hc2, hrg⟩ := HF.out (by omega)
      obtain ⟨h, hh⟩ : ∃ h, L[k]? = some h := ⟨_, List.getElem?_eq_getElem hlt⟩
      have hw := HW.out h (List.mem_of_getElem? hh)
      have hmem := Lib.hid (List.mem_of_getElem? hh)
      have HS := Lib.hid (show L.take (k + 1) = L.take k ++ [h] by rw [List.take_add_one, hh]; rfl)
      have HRG := Lib.hid (show wr.rangeAt b (off + k * 3) [.int .i64 h.f, .int .i64 h.t, .int .u32 h.c] from by
        have hx : h.L = [.int .i64 h.f, .int .i64 h.t, .int .u32 h.c] := rfl
        rw [← hx, ← flatH_at L k h hh]
        have h2 := rangeR_ext hrg (HE3.out.trans HX.out) hb
        intro j v hv
        rw [List.getElem?_take] at hv
        split at hv
        · rw [List.getElem?_drop] at hv
          rw [Nat.add_assoc]
          exact h2 _ _ hv
        · cases hv)
      have hk8 : k < 1000 := by omega
      clear hrg hh
      have hzh := zero_fhop
      go_upto_region 15 with (first
        | fail
        | ((with_reducible refine at_load 45 ?_); refine wpList_load_mid rfl 45 _ rfl b (off + k * 3) rfl [.int .i64 h.f, .int .i64 h.t, .int .u32 h.c] _ HRG.out Try.underlying45 rfl (by kernel_rfl) ?_)
        | ((with_reducible refine at_store 45 ?_); refine wpList_store_new3 rfl rfl 45 _ _ _ rfl HZ #[.int .i64 h.f, .int .i64 h.t, .int .u32 h.c] _ rfl ?_ rfl (by kernel_rfl) rfl rfl ?_; · rfl
           intro z1 hz1
           have hx1 : Ext wr z1 := by rw [hz1]; exact (Ext.refl _).alloc _
           have hq := heap_alloc_new wr (.cells #[.int .i64 h.f, .int .i64 h.t, .int .u32 h.c] 45)
           rw [← hz1] at hq
           obtain ⟨H0, hH0⟩ : ∃ m, wr.heap.size = m := ⟨_, rfl⟩
           rw [hH0] at hq ⊢
           have HQ := Lib.hid hq
           have HX1 := Lib.hid (HX.out.trans hx1)
           have HBR1 := Lib.hid ((hx1.block _ (heap_lt HBR.out)).trans HBR.out)
           have HG11 := Lib.hid (((HX.out.trans hx1).block _ (heap_lt HG1.out)).trans HG1.out)
           have hHG : H0 ≠ G := by have := heap_lt HBR.out; omega
           have c0 : z1.cell? ⟨H0, 0, none⟩ = some (.int .i64 h.f) := (cell_of_row _ _ _ _ _ _ hq).trans rfl
           have c1 : z1.cell? ⟨H0, 1, none⟩ = some (.int .i64 h.t) := (cell_of_row _ _ _ _ _ _ hq).trans rfl
           have c2 : z1.cell? ⟨H0, 2, none⟩ = some (.int .u32 h.c) := (cell_of_row _ _ _ _ _ _ hq).trans rfl
           clear hz1 hx1 hq hH0))
      clear hzh HBR HX
      by_cases g1' : 0 ≤ h.f
      rotate_left
      · go_wp2_with fail
        go_roundw
        case rel => exact ⟨k + 1, bs, by omega, by go_num, hbl, HBS.out, by rw [HS.out]; exact HMK.out.snoc (fun h5 => by simp [Hp.ok, g1'] at h5), HBR1.out, HX1.out⟩
        case measure => simp [intOf]; omega
      by_cases g2' : h.f < nn
      rotate_left
      · go_wp2_with fail
        go_roundw
        case rel => exact ⟨k + 1, bs, by omega, by go_num, hbl, HBS.out, by rw [HS.out]; exact HMK.out.snoc (fun h5 => by simp [Hp.ok, g2'] at h5), HBR1.out, HX1.out⟩
        case measure => simp [intOf]; omega
      by_cases g3' : 0 ≤ h.t
      rotate_left
      · go_wp2_with fail
        go_roundw
        case rel => exact ⟨k + 1, bs, by omega, by go_num, hbl, HBS.out, by rw [HS.out]; exact HMK.out.snoc (fun h5 => by simp [Hp.ok, g3'] at h5), HBR1.out, HX1.out⟩
        case measure => simp [intOf]; omega
      by_cases g4' : h.t < nn
      rotate_left
      · go_wp2_with fail
        go_roundw
        case rel => exact ⟨k + 1, bs, by omega, by go_num, hbl, HBS.out, by rw [HS.out]; exact HMK.out.snoc (fun h5 => by simp [Hp.ok, g4'] at h5), HBR1.out, HX1.out⟩
        case measure => simp [intOf]; omega
      have hok : h.ok nn = true := by simp [Hp.ok, g1', g2', g3', g4']
      obtain ⟨fn, hfn⟩ : ∃ m : Nat, h.f = m := ⟨h.f.toNat, by omega⟩
      obtain ⟨tn, htn⟩ : ∃ m : Nat, h.t = m := ⟨h.t.toNat, by omega⟩
      obtain ⟨cn, hcn⟩ : ∃ m : Nat, h.c = m := ⟨h.c.toNat, by have := hw.2.2.1; omega⟩
      have hfl : fn < nn := by omega
      have htl : tn < nn := by omega
      have hcl : cn < 4294967296 := by have := hw.2.2.2; omega
      have hlen := HFA.out.len
      have cF : z1.cell? ⟨g1, fn, none⟩ = some (cvW (D.getD fn Option.none)) := by
        rw [cell_of_row _ _ _ _ _ _ HG11.out]
        simp [List.getD, hlen, hfl]
      have cT : z1.cell? ⟨g1, tn, none⟩ = some (cvW (D.getD tn Option.none)) := by
        rw [cell_of_row _ _ _ _ _ _ HG11.out]
        simp [List.getD, hlen, htl]
      have HREL := Lib.hid (fun q hq => HFA.out.rel h hmem.out hok q hq)
      have HOK := Lib.hid hok
      rw [hfn, Int.toNat_natCast, htn, Int.toNat_natCast] at HREL
      rw [hfn] at c0
      rw [htn] at c1
      rw [hcn] at c2
      have HFN := Lib.hid hfn
      have HTN := Lib.hid htn
      have HCN := Lib.hid hcn
      have f8 : fn < 20 := by omega
      have t8 : tn < 20 := by omega
      clear hfn htn hcn hok g1' g2' g3' g4' hlen
      obtain ⟨x, hx⟩ : ∃ x, D.getD fn Option.none = x := ⟨_, rfl⟩
      rw [hx] at cF
      have HXX := Lib.hid hx
      clear hx
      cases x with
      | none =>
        have HN := Lib.hid (fun w : World => rnone_any Option.none w trivial)
        obtain ⟨xv, hxv⟩ : ∃ v, cvW Option.none = v := ⟨_, rfl⟩
        rw [hxv] at cF HN
        clear hxv
        go_wp2_with fail
        refine (HN.out _).mono ?_
        rintro e z2 ⟨rfl, rfl⟩
        go_wp2_with fail
        go_roundw
        case rel => exact ⟨k + 1, bs, by omega, by go_num, hbl, HBS.out, by rw [HS.out]; exact HMK.out.snoc (fun _ q hq => by rw [HFN.out, Int.toNat_natCast, HXX.out] at hq; cases hq), HBR1.out, HX1.out⟩
        case measure => simp [intOf]; omega
      | some q =>
        obtain ⟨qa, qb⟩ := q
        obtain ⟨⟨ya, yb⟩, hy, hle⟩ := HREL.out (qa, qb) HXX.out
        rw [hy] at cT
        have hsq := HFS.out fn qa qb HXX.out
        have hsy := HFS.out tn ya yb hy
        have HYY := Lib.hid hy
        have hlt2 : ltW (qa + cn) (qb + 1) ya yb = false := by
          cases hb : ltW (qa + cn) (qb + 1) ya yb
          · rfl
          · refine absurd ?_ (ltW_iff.1 hb)
            unfold hopW at hle
            rw [HCN.out, Int.toNat_natCast] at hle
            exact hle
        have HN1 := Lib.hid (fun w : World => rnone_any (Option.some (qa, qb)) w ⟨by omega, by omega⟩)
        have HN2 := Lib.hid (fun w : World => rnone_any (Option.some (ya, yb)) w ⟨by omega, by omega⟩)
        have HLS := Lib.hid (fun w : World => by have h := rless_any (qa + cn) (qb + 1) ya yb w (by omega) (by omega) (by omega) (by omega); rw [hlt2] at h; exact h)
        have HADD := Lib.hid (fun w : World => radd_run (P := Try.prog) w 30 qa qb cn 1 (by omega) (by omega))
        have hqe := eql_ways (qa + cn) (qb + 1) ya yb (by omega) (by omega) (by omega) (by omega)
        have hqg := eqg_ways (Option.some (qa + cn, qb + 1)) (Option.some (ya, yb))
        obtain ⟨be, hbe⟩ : ∃ b, (qa + cn == ya && qb + 1 == yb) = b := ⟨_, rfl⟩
        rw [hbe] at hqe
        have HBE := Lib.hid hbe
        obtain ⟨xv, hxv⟩ : ∃ v, cvW (Option.some (qa, qb)) = v := ⟨_, rfl⟩
        obtain ⟨yv, hyv⟩ : ∃ v, cvW (Option.some (ya, yb)) = v := ⟨_, rfl⟩
        obtain ⟨lv, hlv⟩ : ∃ v, cvW (Option.some (cn, 1)) = v := ⟨_, rfl⟩
        obtain ⟨sv, hsv⟩ : ∃ v, cvW (Option.some (qa + cn, qb + 1)) = v := ⟨_, rfl⟩
        rw [hxv] at cF HN1 HADD
        rw [hyv] at cT HN2 HLS hqe hqg
        rw [hlv] at HADD
        rw [hsv] at HADD HLS hqe hqg
        have HLV := Lib.hid hlv
        have HQE := Lib.hid hqe
        have HQG := Lib.hid hqg
        clear hxv hyv hlv hsv hbe hle hlt2 hy hsq hsy hqe hqg
        go_wp2_with fail
        refine (HN1.out _).mono ?_
        rintro e z2 ⟨rfl, rfl⟩
        go_upto_region 17 with fail
        have hlg := heap_lt HG11.out
        have hlh := heap_lt HQ.out
        refine beginL (S := fun W' => Ext z1 W') (by kernel_rfl) ?_
        intro wd hqx
        have hq0 : Ext z1 wd := hqx
        refine takeL (i := 0) (v := (.slice (some ⟨g1, 0, none⟩) nn nn)) rfl (by kernel_rfl) (by kernel_rfl) (by kernel_rfl) (fun _ _ _ h => h) (Or.inl ⟨rfl, fun _ _ => rfl⟩) hq0 ?_
        simp only [Act.put, List.setIfInBounds_toArray, List.set_cons_zero, List.set_cons_succ]
        refine takeL (i := 1) (v := (.pointer (some ⟨H0, 0, none⟩))) rfl (by kernel_rfl) (by kernel_rfl) (by kernel_rfl) (fun _ _ _ h => h) (Or.inl ⟨rfl, fun _ _ => rfl⟩) hq0 ?_
        simp only [Act.put, List.setIfInBounds_toArray, List.set_cons_zero, List.set_cons_succ]
        refine takeL (i := 2) (v := _) rfl (by kernel_rfl) (by kernel_rfl) (by kernel_rfl) (fun _ _ _ h => h) (yieldsIf_cell rfl 3 _ rfl ⟨H0, 0, none⟩ rfl (.int .i64 (fn : Int)) _ (fun W' hW' => (hW'.cell (p := ⟨H0, 0, none⟩) hlh).trans c0) Try.underlying3 rfl) hq0 ?_
        simp only [Act.put, List.setIfInBounds_toArray, List.set_cons_zero, List.set_cons_succ]
        refine takeL (i := 3) (v := (.pointer (some ⟨g1, fn, none⟩))) rfl (by kernel_rfl) (by kernel_rfl) (by kernel_rfl) (fun _ _ _ h => h) (Or.inl ⟨rfl, fun W' _ => by go_simp⟩) hq0 ?_
        simp only [Act.put, List.setIfInBounds_toArray, List.set_cons_zero, List.set_cons_succ]
        refine takeL (i := 4) (v := _) rfl (by kernel_rfl) (by kernel_rfl) (by kernel_rfl) (fun _ _ _ h => h) (yieldsIf_cell rfl 30 _ rfl ⟨g1, fn, none⟩ rfl xv _ (fun W' hW' => (hW'.cell (p := ⟨g1, fn, none⟩) hlg).trans cF) Try.underlying30 rfl) hq0 ?_
        simp only [Act.put, List.setIfInBounds_toArray, List.set_cons_zero, List.set_cons_succ]
        refine takeL (i := 5) (v := (.pointer (some ⟨H0, 2, none⟩))) rfl (by kernel_rfl) (by kernel_rfl) (by kernel_rfl) (fun _ _ _ h => h) (Or.inl ⟨rfl, fun _ _ => rfl⟩) hq0 ?_
        simp only [Act.put, List.setIfInBounds_toArray, List.set_cons_zero, List.set_cons_succ]
        refine takeL (i := 6) (v := _) rfl (by kernel_rfl) (by kernel_rfl) (by kernel_rfl) (fun _ _ _ h => h) (yieldsIf_cell rfl 38 _ rfl ⟨H0, 2, none⟩ rfl (.int .u32 (cn : Int)) _ (fun W' hW' => (hW'.cell (p := ⟨H0, 2, none⟩) hlh).trans c2) Try.underlying38 rfl) hq0 ?_
        simp only [Act.put, List.setIfInBounds_toArray, List.set_cons_zero, List.set_cons_succ]
        refine runL (i := 7) rfl rfl (by kernel_rfl) (fun K hK => ?_)
        obtain ⟨i5, hi5, hz5, hs5, hb5⟩ := info_parts info_u32
        refine wp_buildSlice 37 38 1 _ rfl #[.int .u32 (cn : Int)] i5 (.int .u32 0) Try.underlying37 hi5 hz5 (by rw [hs5]; decide) (by rw [hs5]; decide) (by rw [hs5, Array.toList_map]; exact u1_b _) ?_
        have hq1 := hq0.alloc (.cells #[.int .u32 (cn : Int)] 38)
        have hnw := heap_alloc_new wd (.cells #[.int .u32 (cn : Int)] 38)
        obtain ⟨wa, hwa⟩ : ∃ W, wd.alloc (.cells #[.int .u32 (cn : Int)] 38) = W := ⟨_, rfl⟩
        obtain ⟨nb, hnb⟩ : ∃ m, wd.heap.size = m := ⟨_, rfl⟩
        rw [hwa] at hq1 hnw ⊢
        rw [hnb] at hnw ⊢
        clear hwa hnb hi5 hz5 hs5 hb5
        refine hK.out _ _ hq1 (fun _ => ?_)
        try simp only [Act.put, List.setIfInBounds_toArray, List.set_cons_zero, List.set_cons_succ]
        clear hK K
        refine runL (i := 8) rfl rfl (by kernel_rfl) (fun K hK => ?_)
        go_simp
        refine (rlength_any (.slice (some ⟨nb, 0, none⟩) 1 1) [(cn : Int)] _ (.inr ⟨nb, 0, 1, rfl, by simp, by simp, by decide, heap_lt hnw, fun i hi => by
          rw [cell_of_row _ _ _ _ _ _ hnw]
          obtain rfl : i = 0 := by simp at hi; omega
          rfl⟩) (by intro z hz; rw [List.mem_singleton] at hz; omega) (by simp)).mono ?_
        rintro e z5 ⟨rfl, rfl⟩
        rw [show cvW (Option.some (sumC [(cn : Int)], [(cn : Int)].length)) = lv from by rw [← HLV.out]; simp [sumC]]
        refine hK.out _ _ hq1 (fun _ => ?_)
        try simp only [Act.put, List.setIfInBounds_toArray, List.set_cons_zero, List.set_cons_succ]
        clear hK K
        refine takeL (i := 9) (v := sv) rfl (by kernel_rfl) (by kernel_rfl) (by kernel_rfl) (fun _ _ _ h => h) (Or.inl ⟨rfl, fun W' _ => by go_simp; simp [eqg_add, HADD.out]⟩) hq1 ?_
        simp only [Act.put, List.setIfInBounds_toArray, List.set_cons_zero, List.set_cons_succ]
        refine takeL (i := 10) (v := sv) rfl (by kernel_rfl) (by kernel_rfl) (by kernel_rfl) (fun _ _ _ h => h) (Or.inl ⟨rfl, fun _ _ => rfl⟩) hq1 ?_
        simp only [Act.put, List.setIfInBounds_toArray, List.set_cons_zero, List.set_cons_succ]
        refine wpAnyH_done (by kernel_rfl) ?_ _
        have cT2 : wa.cell? ⟨g1, tn, none⟩ = some yv := (hq1.cell (p := ⟨g1, tn, none⟩) hlg).trans cT
        have c1b : wa.cell? ⟨H0, 1, none⟩ = some (.int .i64 (tn : Int)) := (hq1.cell (p := ⟨H0, 1, none⟩) hlh).trans c1
        have HBR2 := Lib.hid ((hq1.block _ (heap_lt HBR1.out)).trans HBR1.out)
        have HX2 := Lib.hid (HX1.out.trans hq1)
        clear cF cT c0 c1 c2 hnw hq1 hq0 hqx
        go_wp2_with fail
        refine (HN2.out _).mono ?_
        rintro e z6 ⟨rfl, rfl⟩
        go_wp2_with fail
        refine (HLS.out _).mono ?_
        rintro e z7 ⟨rfl, rfl⟩
        have hqe := HQE.out
        have hqg := HQG.out
        cases be
        · go_wp2_with fail
          go_roundw
          case rel => exact ⟨k + 1, bs, by omega, by go_num, hbl, HBS.out, by
            rw [HS.out]
            refine HMK.out.snoc (fun _ q hq hq2 => ?_)
            rw [HFN.out, Int.toNat_natCast, HXX.out] at hq
            cases hq
            rw [HTN.out, Int.toNat_natCast, HYY.out] at hq2
            have h5 := HBE.out
            unfold hopW at hq2
            rw [HCN.out, Int.toNat_natCast] at hq2
            simp only [Option.some.injEq, Prod.mk.injEq] at hq2
            rw [hq2.1, hq2.2] at h5
            simp at h5, HBR2.out, HX2.out⟩
          case measure => simp [intOf]; omega
        · go_wp2_with (first
            | fail
            | ((with_reducible refine at_store 4 ?_); refine st_at rfl rfl 4 _ _ rfl G tn _ #[.bool true] _ ((bs.set tn true).map Value.bool).toArray _ rfl rfl rfl HBR2.out (by show tn + 1 ≤ (bs.map Value.bool).toArray.size; rw [List.size_toArray, List.length_map, hbl]; exact htl) (by kernel_rfl) rfl (bool_row true (by rw [hbl]; exact htl)) ?_
               intro w5 hq hm
               have HBR5 := Lib.hid hq
               have HX5 := Lib.hid (Ext.mutE HX2.out hm (fun m h1 h2 => by have h3 : m = G := h2; have := HGG.out; omega))
               clear hq hm))
          go_roundw
          case rel => exact ⟨k + 1, bs.set tn true, by omega, by go_num, by rw [List.length_set]; exact hbl, by
            rw [getD_setB (by rw [hbl]; exact htl)]
            split
            · rfl
            · exact HBS.out, by
            rw [HS.out]
            refine (HMK.out.set (by rw [hbl]; exact htl)).snoc (fun _ q hq hq2 => ?_)
            rw [HTN.out, Int.toNat_natCast, getD_setB (by rw [hbl]; exact htl), if_pos rfl], HBR5.out, HX5.out⟩
          case measure => simp [intOf]; omega
    · obtain rfl : k = L.length := by omega
      have HALL := Lib.hid (show ∀ i, bs.getD i false = false → D.getD i Option.none = Option.none from fun i hi => by
        cases hq : D.getD i Option.none with
        | none => rfl
        | some q =>
          by_cases e : i = ss
          · rw [e, HBS.out] at hi
            cases hi
          · obtain ⟨g, h1, h2, h3, p, hp, e2⟩ := HFA.out.att i q e hq
            have := HMK.out g (by rw [List.take_length]; exact h1) h2 p hp (by rw [h3, hq, e2])
            rw [h3, hi] at this
            cases this)
      have HG1X := Lib.hid ((HX.out.block _ (heap_lt HG1.out)).trans HG1.out)
      go_wp2_with fail
      go_loopw [15] (fun i wq => ∃ k : Nat, k ≤ nn ∧ i = .int .i64 k ∧ wr = wq) (fun i _ => nn - (intOf i).toNat)
      case atStart => exact ⟨0, by omega, rfl, rfl⟩
      case round =>
        obtain ⟨k, hk, rfl, rfl⟩ := hrel
        have hlen := HFA.out.len
        by_cases hlt2 : k < nn
        · have cb : wr.cell? ⟨G, k, none⟩ = some (.bool (bs.getD k false)) := by
            rw [cell_of_row _ _ _ _ _ _ HBR.out]
            simp [List.getD, hbl, hlt2]
          have cd : wr.cell? ⟨g1, k, none⟩ = some (cvW (D.getD k Option.none)) := by
            rw [cell_of_row _ _ _ _ _ _ HG1X.out]
            simp [List.getD, hlen, hlt2]
          have hall := HALL.out k
          have hk8 : k < 20 := by omega
          obtain ⟨bv, hbv⟩ : ∃ b, bs.getD k false = b := ⟨_, rfl⟩
          rw [hbv] at cb hall
          clear hbv
          cases bv
          · rw [hall rfl] at cd
            have HN := Lib.hid (fun w : World => rnone_any Option.none w trivial)
            obtain ⟨xv, hxv⟩ : ∃ v, cvW Option.none = v := ⟨_, rfl⟩
            rw [hxv] at cd HN
            clear hxv hall
            go_wp2_with fail
            refine (HN.out _).mono ?_
            rintro e z2 ⟨rfl, rfl⟩
            go_wp2_with fail
            go_roundw
            case rel => exact ⟨k + 1, by omega, by go_num, by first | rfl | trivial⟩
            case measure => simp [intOf]; omega
          · clear cd hall
            go_wp2_with fail
            go_roundw
            case rel => exact ⟨k + 1, by omega, by go_num, by first | rfl | trivial⟩
            case measure => simp [intOf]; omega
        · obtain rfl : k = nn := by omega
          have cs : wr.cell? ⟨g1, ss, none⟩ = some (.complex .f64 0 0) := by
            rw [cell_of_row _ _ _ _ _ _ HG1X.out, ← cv00, ← HFA.out.src]
            simp [List.getD, hlen, hSr]
          have he0 := q00
          have hs8 : ss < 20 := by omega
          go_wp2_with fail
          go_ret
          exact ⟨rfl, HE3.out.trans HX.out⟩

end Go.Proofs.Ytendaloeonbbeaa
