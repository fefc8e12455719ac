/- The walk of RelayAlone. No statement is proved here. -/
import Derived.Test.YtemmfbedchfekaaRlE
namespace Go.Proofs.Ytemmfbedchfekaa
open Go.RowKit Go.BigFrame Go.WideShapes Go.ChangeShapes Go.Deep
set_option linter.unusedVariables false
set_option linter.unusedSimpArgs false
set_option maxRecDepth 100000

set_option maxRecDepth 100000 in
set_option maxHeartbeats 8000000 in
theorem law_RelayAlone (n0 : Int) (hn0 : 0 ≤ n0 ∧ n0 < 256) (i0 : Int) (hi0 : 0 ≤ i0 ∧ i0 < 256) (ln : Bool) (s0 : Int) (hs0 : 0 ≤ s0 ∧ s0 < 4294967296) (d0 : Int) (hd0 : 0 ≤ d0 ∧ d0 < 4294967296) (w : World) :
    Calls Try.prog 6 #[.int .u8 n0, .int .u8 i0, .bool ln, .int .u32 s0, .int .u32 d0] w fun e w' => e = .returned (.bool true) ∧ Ext w w' := by
  obtain ⟨N, hN⟩ : ∃ N : Nat, 2 + n0 % 7 = (N : Int) := ⟨(2 + n0 % 7).toNat, by omega⟩
  have hN2 : 2 ≤ N ∧ N ≤ 8 := by omega
  obtain ⟨i1, hi1⟩ : ∃ i1 : Nat, i0 = i1 := ⟨i0.toNat, by omega⟩
  subst hi1
  have hn00 := hn0.1
  go_enter Try.func6, Try.ntmps6
  go_wp2_with fail
  refine (awake19 _).mono ?_
  rintro e w1 ⟨rfl, hx1⟩
  have HX1 := Lib.hid hx1
  clear hx1
  go_wp2_with fail
  refine (open_any N (by omega) w1).mono ?_
  rintro e w2 ⟨c, rfl, hoc, hx2⟩
  have HOC := Lib.hid hoc
  have HX2 := Lib.hid (HX1.out.trans hx2)
  have HX12 := Lib.hid hx2
  have hcs : c.size = 20 := hoc.size (openBr_ok N (by omega))
  have hcl := Lib.hid (show 0 + c.size ≤ BZ.size by rw [hcs]; decide)
  have hci := Lib.hid (show (Try.prog.info? 33).map (·.size) = some c.size by rw [hcs]; exact size_br)
  have hc1 := Lib.hid (hoc.one (openBr_ok N (by omega)))
  have hcf := Lib.hid (full_row hcs)
  clear hoc hx2 hcs
  go_wp2_with (first
    | fail
    | ((with_reducible refine at_alloc 33 ?_); refine al_zero rfl 33 rfl BZ zero_br ?_
       intro X w3 hq3 hs3 hx3)
    | ((with_reducible refine at_store 33 ?_); refine st_at rfl rfl 33 _ _ rfl X 0 _ c BZ c 33 rfl rfl rfl hq3 hcl.out hci.out hc1.out hcf.out ?_
       intro w4 hq4 hm4
       have HX4 := Lib.hid ((HX2.out.trans hx3).mutE hm4 (fun n hn h => by have h2 : n = X := h; have := HX2.out.size; omega))
       have HE4 := Lib.hid (show Ext w2 w4 from hx3.mutE hm4 (fun n hn h => by have h2 : n = X := h; omega))
       have HS4 := Lib.hid hs3
       have HQ4 := Lib.hid hq4
       clear hq3 hs3 hx3 hq4 hm4))
  obtain ⟨g, hbg⟩ := brg_box HOC.out (by show 0 < N; omega) HE4.out HQ4.out (by have := HX12.out.size; have := HS4.out; omega)
  have HG := Lib.hid hbg
  clear hbg hcl hci hc1 hcf
  refine (new_good w4 20 300 (by decide)).mono ?_
  rintro e w5 ⟨f, rfl, hx5, hf, hb5⟩
  obtain ⟨F, hF⟩ : ∃ F : Nat → Prop, F = fun k => w4.heap.size ≤ k ∧ k < w5.heap.size := ⟨_, rfl⟩
  rw [← hF] at hb5
  have HF0 := Lib.hid (show ∀ k, F k → w4.heap.size ≤ k from fun k h => by rw [hF] at h; exact h.1)
  have HB5 := Lib.hid hb5
  have HX5 := Lib.hid hx5
  have HG5 := Lib.hid (HG.out.ext hx5)
  obtain ⟨cap, c17, hc1, hc2⟩ := HG5.out.cell17 (openBr_ok N (by omega))
  clear hb5 hx5 hF hf
  have c17' : w5.cell? ⟨X, 17, none⟩ = some (.slice (some ⟨g, 0, none⟩) N cap) := c17
  have hfz := HG5.out.frozen
  clear c17
  go_upto_region 7 with fail
  obtain ⟨a, ha⟩ : ∃ a, i1 % N = a := ⟨_, rfl⟩
  have haN : a < N := by rw [← ha]; exact Nat.mod_lt _ (by omega)
  have hai : ((i1 : Int) % (N : Int)) = (a : Int) := by rw [← ha]; rfl
  rw [hai]
  have HAI := Lib.hid (And.intro ha hai)
  clear ha hai
  have hge := openBr_gb N a haN
  have e29 : w5.cell? ⟨g, a * 89 + 29, none⟩ = some (.bool true) := by
    rw [HG5.out.cellg (lt89' haN (by omega)), ← hge.2.2]
    exact (openBr_ok N (by omega)).gb haN 29 rfl
  go_upto_region 8 with fail
  have HG6 := Lib.hid (show BrG (w5.setCell ⟨g, a * 89 + 22 + 7, none⟩ (.bool ln)) (fun k => w1.heap.size ≤ k ∧ k < w4.heap.size) X g ((openBr N).setp a 29 (.bool ln)) from HG5.out.setp (k := a) (j := 29) haN (by omega) _)
  have HM6 := Lib.hid (show Mut (fun n => n = g) w5 (w5.setCell ⟨g, a * 89 + 22 + 7, none⟩ (.bool ln)) from Mut.setCell (F := fun n => n = g) (Mut.refl _ w5) (.inl rfl) _)
  generalize w5.setCell ⟨g, a * 89 + 22 + 7, none⟩ (.bool ln) = w6 at *
  have hok6 := (openBr_ok N (by omega)).setB haN 29 ln rfl
  obtain ⟨cap6, c17, -, -⟩ := HG6.out.cell17 hok6
  have c17'' : w6.cell? ⟨X, 17, none⟩ = some (.slice (some ⟨g, 0, none⟩) N cap6) := c17
  have e27 : w6.cell? ⟨g, a * 89 + 27, none⟩ = some (.bool true) := by
    rw [HG6.out.cellg (lt89' haN (by omega)), cell_setp_ne _ _ _ _ _ (by omega), ← hge.2.1]
    exact (openBr_ok N (by omega)).gb haN 27 rfl
  have hfz6 := HG6.out.frozen
  clear c17 c17' e29 hfz
  go_upto_region 9 with fail
  have HG7 := Lib.hid (show BrG (w6.setCell ⟨g, a * 89 + 22 + 5, none⟩ (.bool false)) (fun k => w1.heap.size ≤ k ∧ k < w4.heap.size) X g (((openBr N).setp a 29 (.bool ln)).setp a 27 (.bool false)) from HG6.out.setp (k := a) (j := 27) haN (by omega) _)
  have HM7 := Lib.hid (show Mut (fun n => n = g) w6 (w6.setCell ⟨g, a * 89 + 22 + 5, none⟩ (.bool false)) from Mut.setCell (F := fun n => n = g) (Mut.refl _ w6) (.inl rfl) _)
  generalize w6.setCell ⟨g, a * 89 + 22 + 5, none⟩ (.bool false) = w7 at *
  have hok7 := hok6.setB haN 27 false rfl
  obtain ⟨B, hB⟩ : ∃ B, ((openBr N).setp a 29 (.bool ln)).setp a 27 (.bool false) = B := ⟨_, rfl⟩
  rw [hB] at HG7 hok7
  have hgl : g < w4.heap.size := HG.out.F2.2
  have hFG : ∀ k, F k → ¬ (w1.heap.size ≤ k ∧ k < w4.heap.size) := fun k hk hc => by have := HF0.out k hk; omega
  have hm57 := HM6.out.trans HM7.out
  have HB7 := Lib.hid (HB5.out.apart hm57 (fun k hk hc => by have h2 : k = g := hc; have := HF0.out k hk; omega))
  have hnp : B.np = N := by rw [← hB]; rfl
  obtain ⟨C, hCr, hBK, hCs⟩ := HG7.out.brk (F := F) (by omega) (fun k hk hc => hFG k hc hk)
  have HC := Lib.hid hCr
  have HBK := Lib.hid hBK
  have hci := Lib.hid (show (Try.prog.info? 33).map (·.size) = some C.size by rw [hCs, hok7.hd.1]; exact size_br)
  have hX17 := Lib.hid (show Ext w w7 from by
    have h1 := HX4.out.trans HX5.out
    refine h1.mutE hm57 (fun n hn h => ?_)
    have h2 : n = g := h
    have := HG.out.F2.1
    have := HX1.out.size
    omega)
  have hgb : B.gb a 2 = true ∧ B.gb a 27 = false ∧ B.gb a 29 = ln := by
    rw [← hB]
    have hl := (openBr_ok N (by omega)).len
    have hl2 := hok6.len
    have hlt := lt89' haN (show 27 < 89 by omega)
    have hlt2 := lt89' haN (show 29 < 89 by omega)
    refine ⟨?_, gb_setp_same _ _ _ _ (by rw [hl2]; exact hlt), ?_⟩
    · rw [gb_setp_ne _ _ _ _ _ (by omega), gb_setp_ne _ _ _ _ _ (by omega)]; exact hge.1
    · rw [gb_setp_ne _ _ _ _ _ (by omega)]
      exact gb_setp_same _ _ _ _ (by rw [hl]; exact hlt2)
  have hw1 : IntKind.u64.wrap (s0 + 1) = s0 + 1 := by simp [IntKind.wrap, IntKind.signed, IntKind.bits, IntKind.min, IntKind.max]; omega
  have hw2 : IntKind.u64.wrap (d0 + 1) = d0 + 1 := by simp [IntKind.wrap, IntKind.signed, IntKind.bits, IntKind.min, IntKind.max]; omega
  clear hB hCr hBK hCs hm57 c17'' e27 hfz6 hge hok6
  go_wp2_with (first
    | fail
    | ((with_reducible refine at_load 33 ?_); refine wpList_load_row rfl 33 _ rfl X rfl 33 C (0, 0) _ HC.out Try.underlying33 rfl hci.out ?_))
  refine (out_any w7 F f [] 20 300 HB7.out (nil_ok 300) (by decide) (by decide) C B HBK.out hok7 (by omega) a (s0 + 1) (d0 + 1) (by omega) (by omega) (by omega)).mono ?_
  rintro e w8 ⟨L', xs, hg, v, F', base, rfl, ho, hbs, hFb, hb8, hFs, hm⟩
  obtain ⟨rfl, hfnd⟩ : xs = [] ∧ ((ln = true ∧ (s0 + 1, (a : Int), (300 : Int)) ∈ L' ∧ L' = [(s0 + 1, (a : Int), (300 : Int))]) ∨ (ln = false ∧ L' = [])) := by
    rcases hg with ⟨h, rfl, rfl⟩ | ⟨_, h1, h2⟩
    · exfalso
      rw [Int.toNat_natCast, hgb.1] at h
      rcases h with h | h | h | h
      · omega
      · omega
      · cases h
      · unfold resB at h
        rw [Bool.and_eq_true, decide_eq_true_eq, decide_eq_true_eq] at h
        omega
    · rw [Int.toNat_natCast, hgb.2.1, hgb.2.2] at *
      refine ⟨?_, ?_⟩
      · rcases h2 with ⟨h, _⟩ | ⟨_, h⟩
        · cases h
        · exact h
      · have hom : okM (s0 + 1) := by unfold okM; omega
        rcases h1 with ⟨⟨h, _⟩, hl⟩ | ⟨h, rfl⟩
        · have e1 : (s0 + 1) % 281474976710656 = s0 + 1 := by omega
          rw [e1] at hl
          have : L' = [(s0 + 1, (a : Int), (300 : Int))] := by
            rcases hl with ⟨_, rfl⟩ | ⟨_, h, _⟩
            · rfl
            · simp at h
          exact .inl ⟨h, by rw [this]; simp, this⟩
        · refine .inr ⟨?_, rfl⟩
          cases hln : ln
          · rfl
          · exact absurd ⟨hln, hom⟩ h
  obtain ⟨av, ac, rfl⟩ := own_form ho
  have HB8 := Lib.hid hb8
  have HX8 := Lib.hid (ext_mut hX17.out hm (fun n hn hc => by have := HF0.out n hc; have := HX4.out.size; omega))
  have HFN := Lib.hid hfnd
  clear hg ho hbs hFb hb8 hFs hm hfnd hgb
  have hw3 := hw1
  go_wp2_with fail
  refine (find_any w8 F' f L' 20 300 HB8.out (s0 + 1) (by omega)).mono ?_
  rintro e w9 ⟨hf, hx9⟩
  have HX9 := Lib.hid (HX8.out.trans hx9)
  have e1 : (s0 + 1) % 281474976710656 = s0 + 1 := by omega
  have HE1 := Lib.hid e1
  clear hx9 e1
  rcases HFN.out with ⟨rfl, hmem, hL'⟩ | ⟨rfl, rfl⟩
  · obtain rfl : e = .returned (.tuple #[.int .i64 a, .bool true]) := by
      rcases hf with ⟨e0, he, hk, rfl⟩ | ⟨hn, _⟩
      · rw [hL', List.mem_singleton] at he
        rw [he]
      · exact absurd (List.mem_map.2 ⟨_, hmem, HE1.out.symm⟩) hn
    clear hf hL' hmem
    go_wp2_with fail
    go_ret
    exact ⟨rfl, HX9.out⟩
  · obtain rfl : e = .returned (.tuple #[.int .i64 (-1), .bool false]) := by
      rcases hf with ⟨e0, he, _⟩ | ⟨_, rfl⟩
      · cases he
      · rfl
    clear hf
    go_wp2_with fail
    go_ret
    exact ⟨rfl, HX9.out⟩

end Go.Proofs.Ytemmfbedchfekaa
