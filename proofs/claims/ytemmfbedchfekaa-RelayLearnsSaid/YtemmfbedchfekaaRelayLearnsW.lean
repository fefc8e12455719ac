/- The walk of RelayLearns. No statement is proved here. -/
import Derived.Test.YtemmfbedchfekaaRlE
namespace Go.Proofs.Ytemmfbedchfekaa
open Go.RowKit Go.BigFrame Go.WideShapes Go.ChangeShapes Go.Deep
set_option linter.unusedVariables false
set_option linter.unusedSimpArgs false
set_option maxRecDepth 100000

set_option maxRecDepth 100000 in
set_option maxHeartbeats 8000000 in
theorem law_RelayLearns (n0 : Int) (hn0 : 0 ≤ n0 ∧ n0 < 256) (i0 : Int) (hi0 : 0 ≤ i0 ∧ i0 < 256) (k0 : Int) (hk0 : 0 ≤ k0 ∧ k0 < 256) (src : Int) (hsrc : 0 ≤ src ∧ src < 18446744073709551616) (dst : Int) (hdst : 0 ≤ dst ∧ dst < 18446744073709551616) (w : World) :
    Calls Try.prog 5 #[.int .u8 n0, .int .u8 i0, .int .u8 k0, .int .u64 src, .int .u64 dst] w fun e w' => e = .returned (.bool true) ∧ Ext w w' := by
  obtain ⟨N, hN⟩ : ∃ N : Nat, 2 + n0 % 7 = (N : Int) := ⟨(2 + n0 % 7).toNat, by omega⟩
  have hN2 : 2 ≤ N ∧ N ≤ 8 := by omega
  obtain ⟨i1, hi1⟩ : ∃ i1 : Nat, i0 = i1 := ⟨i0.toNat, by omega⟩
  subst hi1
  obtain ⟨k1, hk1⟩ : ∃ k1 : Nat, k0 = k1 := ⟨k0.toNat, by omega⟩
  subst hk1
  have hn00 := hn0.1
  go_enter Try.func5, Try.ntmps5
  go_wp2_with fail
  refine (awake19 _).mono ?_
  rintro e w1 ⟨rfl, hx1⟩
  have HX1 := Lib.hid hx1
  clear hx1
  go_wp2_with fail
  refine (open_any N (by omega) w1).mono ?_
  rintro e w2 ⟨c, rfl, hoc, hx2⟩
  have HOC := Lib.hid hoc
  have HX2 := Lib.hid (HX1.out.trans hx2)
  have HX12 := Lib.hid hx2
  have hcs : c.size = 20 := hoc.size (openBr_ok N (by omega))
  have hcl := Lib.hid (show 0 + c.size ≤ BZ.size by rw [hcs]; decide)
  have hci := Lib.hid (show (Try.prog.info? 33).map (·.size) = some c.size by rw [hcs]; exact size_br)
  have hc1 := Lib.hid (hoc.one (openBr_ok N (by omega)))
  have hcf := Lib.hid (full_row hcs)
  clear hoc hx2 hcs
  go_wp2_with (first
    | fail
    | ((with_reducible refine at_alloc 33 ?_); refine al_zero rfl 33 rfl BZ zero_br ?_
       intro X w3 hq3 hs3 hx3)
    | ((with_reducible refine at_store 33 ?_); refine st_at rfl rfl 33 _ _ rfl X 0 _ c BZ c 33 rfl rfl rfl hq3 hcl.out hci.out hc1.out hcf.out ?_
       intro w4 hq4 hm4
       have HX4 := Lib.hid ((HX2.out.trans hx3).mutE hm4 (fun n hn h => by have h2 : n = X := h; have := HX2.out.size; omega))
       have HE4 := Lib.hid (show Ext w2 w4 from hx3.mutE hm4 (fun n hn h => by have h2 : n = X := h; omega))
       have HS4 := Lib.hid hs3
       have HQ4 := Lib.hid hq4
       clear hq3 hs3 hx3 hq4 hm4))
  obtain ⟨g, hbg⟩ := brg_box HOC.out (by show 0 < N; omega) HE4.out HQ4.out (by have := HX12.out.size; have := HS4.out; omega)
  have HG := Lib.hid hbg
  clear hbg hcl hci hc1 hcf
  refine (new_good w4 20 300 (by decide)).mono ?_
  rintro e w5 ⟨f, rfl, hx5, hf, hb5⟩
  obtain ⟨F, hF⟩ : ∃ F : Nat → Prop, F = fun k => w4.heap.size ≤ k ∧ k < w5.heap.size := ⟨_, rfl⟩
  rw [← hF] at hb5
  have HF0 := Lib.hid (show ∀ k, F k → w4.heap.size ≤ k from fun k h => by rw [hF] at h; exact h.1)
  have HB5 := Lib.hid hb5
  have HX5 := Lib.hid (HX4.out.trans hx5)
  have HX45 := Lib.hid hx5
  have HG5 := Lib.hid (HG.out.ext hx5)
  obtain ⟨cap, c17, hc1, hc2⟩ := HG5.out.cell17 (openBr_ok N (by omega))
  obtain ⟨C, hCr, hBK, hCs⟩ := HG5.out.brk (F := F) (by show 0 < N; omega) (fun k hk hc => by have := HF0.out k hc; omega)
  have HC := Lib.hid hCr
  have HBK := Lib.hid hBK
  have hci := Lib.hid (show (Try.prog.info? 33).map (·.size) = some C.size by rw [hCs]; exact size_br)
  have hgl : g < w4.heap.size := HG.out.F2.2
  have hXl : X < w4.heap.size := HG.out.F1.2
  have c17' : w5.cell? ⟨X, 17, none⟩ = some (.slice (some ⟨g, 0, none⟩) N cap) := c17
  clear c17 hx5 hF hf hb5 hBK hCr hCs
  go_wp2_with fail
  refine (res_any src _ hsrc).mono ?_
  rintro e _ ⟨rfl, rfl⟩
  obtain ⟨rs, hrs⟩ : ∃ rs, resB src = rs := ⟨_, rfl⟩
  rw [hrs]
  cases rs with
  | true =>
    go_wp2_with fail
    go_ret
    exact ⟨rfl, HX5.out⟩
  | false =>
    go_wp2_with fail
    refine (res_any dst _ hdst).mono ?_
    rintro e _ ⟨rfl, rfl⟩
    obtain ⟨rd, hrd⟩ : ∃ rd, resB dst = rd := ⟨_, rfl⟩
    rw [hrd]
    cases rd with
    | true =>
      go_wp2_with fail
      go_ret
      exact ⟨rfl, HX5.out⟩
    | false =>
      go_upto_region 8 with fail
      obtain ⟨a, ha⟩ : ∃ a, i1 % N = a := ⟨_, rfl⟩
      obtain ⟨b, hb⟩ : ∃ b, k1 % N = b := ⟨_, rfl⟩
      have haN : a < N := by rw [← ha]; exact Nat.mod_lt _ (by omega)
      have hbN : b < N := by rw [← hb]; exact Nat.mod_lt _ (by omega)
      have hai : ((i1 : Int) % (N : Int)) = (a : Int) := by rw [← ha]; rfl
      have hbi : ((k1 : Int) % (N : Int)) = (b : Int) := by rw [← hb]; rfl
      rw [hai, hbi]
      clear ha hb hai hbi
      go_wp2_with (first
        | fail
        | ((with_reducible refine at_load 33 ?_); refine wpList_load_row rfl 33 _ rfl X rfl 33 C (0, 0) _ HC.out Try.underlying33 rfl hci.out ?_))
      refine (out_any w5 F f [] 20 300 HB5.out (nil_ok 300) (by decide) (by decide) C (openBr N) HBK.out (openBr_ok N (by omega)) (by show 0 < N ∧ N ≤ 1000; omega) a src dst (by omega) hsrc hdst).mono ?_
      rintro e w6 ⟨L1, xs1, hg1, v1, F1, base1, rfl, ho1, hbs1, hFb1, hb6, hFs1, hm1⟩
      have HB6 := Lib.hid hb6
      have hk6 : ∀ k, k < w5.heap.size → ¬ F k → w6.heap[k]? = w5.heap[k]? := fun k hk hn => hm1.heap hk hn
      have HBK6 := Lib.hid (HBK.out.step (F1 := F1) hm1.size hk6 (fun k hk h => by rcases hFs1 k h with h | h; exact h; omega))
      have HC6 := Lib.hid ((hm1.heap (heap_lt HC.out) (fun hc => by have := HF0.out X hc; omega)).trans HC.out)
      have c6 := (hm1.cell (p := ⟨X, 17, none⟩) (heap_lt HC.out) (fun hc => by have := HF0.out X hc; omega)).trans c17'
      have HX6 := Lib.hid (ext_mut HX5.out hm1 (fun n hn hc => by have := HF0.out n hc; have := HX4.out.size; omega))
      have HF1 := Lib.hid (show ∀ k, F1 k → w4.heap.size ≤ k from fun k h => by rcases hFs1 k h with h | h; exact HF0.out k h; have := HX45.out.size; omega)
      have HO1 := Lib.hid ho1
      have HFB1 := Lib.hid hFb1
      obtain ⟨hok1, hl1⟩ := goes_ok hg1 (nil_ok 300) (by decide) (by decide) (by decide) (by omega) hsrc.1
      have HOK1 := Lib.hid hok1
      have HG1 := Lib.hid hg1
      clear ho1 hbs1 hFb1 hb6 hFs1 hm1 hk6 hok1 c17' hg1
      go_wp2_with (first
        | fail
        | ((with_reducible refine at_load 33 ?_); refine wpList_load_row rfl 33 _ rfl X rfl 33 C (0, 0) _ HC6.out Try.underlying33 rfl hci.out ?_))
      refine (out_any w6 F1 f L1 20 300 HB6.out HOK1.out (by decide) ⟨by decide, by decide, hl1⟩ C (openBr N) HBK6.out (openBr_ok N (by omega)) (by show 0 < N ∧ N ≤ 1000; omega) b dst src (by omega) hdst hsrc).mono ?_
      rintro e w7 ⟨L2, xs2, hg2, v2, F2, base2, rfl, ho2, hbs2, hFb2, hb7, hFs2, hm2⟩
      have c7 := (hm2.cell (p := ⟨X, 17, none⟩) (heap_lt HC6.out) (fun hc => by have := HF1.out X hc; omega)).trans c6
      have HX7 := Lib.hid (ext_mut HX6.out hm2 (fun n hn hc => by have := HF1.out n hc; have := HX4.out.size; omega))
      have hi1 := ints_own (own_mut HO1.out hm2 HFB1.out)
      have hi2 := ints_own ho2
      obtain ⟨t1, t2, t3, t4⟩ := learns_math (by omega) haN hbN HG1.out hg2 hrs hrd
      obtain ⟨a1, ac1, rfl, -⟩ := hi1
      obtain ⟨a2, ac2, e2, -⟩ := id hi2
      subst e2
      have HI2 := Lib.hid hi2
      have HT4 := Lib.hid t4
      clear ho2 hbs2 hFb2 hb7 hFs2 hm2 hg2 hi2 t4 c6
      obtain ⟨m1, hm1⟩ : ∃ m, xs1.length = m := ⟨_, rfl⟩
      obtain ⟨m2, hm2⟩ : ∃ m, xs2.length = m := ⟨_, rfl⟩
      rw [hm1] at t1 ⊢
      rw [hm2] at t2 t3 ⊢
      have HT := Lib.hid (And.intro t1 (And.intro t2 t3))
      have HM2 := Lib.hid hm2
      clear t1 t2 t3 hm1 hm2
      go_upto_region 12 with fail
      obtain ⟨ms, hms⟩ : ∃ m, src % 281474976710656 = m := ⟨_, rfl⟩
      obtain ⟨md, hmd⟩ : ∃ m, dst % 281474976710656 = m := ⟨_, rfl⟩
      obtain ⟨x, hx⟩ : ∃ x, IntKind.u64.wrap (src * 65536) = x := ⟨_, rfl⟩
      obtain ⟨y, hy⟩ : ∃ y, IntKind.u64.wrap (dst * 65536) = y := ⟨_, rfl⟩
      have hx2 : x = ms * 65536 := by rw [← hx, ← hms]; simp [IntKind.wrap, IntKind.signed, IntKind.bits, IntKind.min, IntKind.max]; omega
      have hy2 : y = md * 65536 := by rw [← hy, ← hmd]; simp [IntKind.wrap, IntKind.signed, IntKind.bits, IntKind.min, IntKind.max]; omega
      rw [hx, hy]
      obtain ⟨nm, hnm⟩ : ∃ nm, N - 1 = nm := ⟨_, rfl⟩
      have hwn : IntKind.i64.wrap ((N : Int) - 1) = (nm : Int) := by rw [IntKind.wrap_i64]; omega
      obtain ⟨t1, t2, t3⟩ := HT.out
      have t4 := HT4.out
      rw [hms, hnm] at t1
      rw [hms, hnm] at t2
      rw [hms] at t3 t4
      rw [hmd] at t1 t3 t4
      obtain ⟨gg, hgg⟩ : ∃ gg, src / 1099511627776 % 2 = gg := ⟨_, rfl⟩
      rw [hgg] at t1 t2 t3 t4
      have hgr : 0 ≤ gg ∧ gg ≤ 1 := by omega
      have HGG := Lib.hid hgg
      have HH := Lib.hid (And.intro hx2 (And.intro hy2 (And.intro t1 (And.intro t2 t3))))
      have HT5 := Lib.hid t4
      clear hx hy hnm hms hmd t1 t2 t3 t4 hgg HT HT4 hx2 hy2
      have hg1 : bits BinOp.and IntKind.u64 (src / 1099511627776) 1 = gg := by rw [bit_one _ (by omega) (by omega)]; exact HGG.out
      by_cases hp : ms = 0
      · have dx0 : (x == 0) = true := by have := HH.out.1; simp; omega
        have dm1 : ((m1 : Int) != (nm : Int)) = false := by have := HH.out.2.2.1; simp; omega
        have d2 : (m2 : Int) = (nm : Int) := by have := HH.out.2.2.2.1 (by omega); omega
        have d2b : ((m2 : Int) == (nm : Int)) = true := by simpa using d2
        clear d2
        go_wp2_with fail
        go_ret
        exact ⟨rfl, HX7.out⟩
      · by_cases hq : gg = 1
        · have dx0 : (x == 0) = false := by have := HH.out.1; simp; omega
          have dgg : (gg == 1) = true := by simpa using hq
          have dm1 : ((m1 : Int) != (nm : Int)) = false := by have := HH.out.2.2.1; simp; omega
          have d2 : (m2 : Int) = (nm : Int) := by have := HH.out.2.2.2.1 (by omega); omega
          have d2b : ((m2 : Int) == (nm : Int)) = true := by simpa using d2
          clear d2
          go_wp2_with fail
          go_ret
          exact ⟨rfl, HX7.out⟩
        · by_cases hm : m1 = nm
          · have dm1 : ((m1 : Int) != (nm : Int)) = false := by simp; omega
            clear hm
            have dx0 : (x == 0) = false := by have := HH.out.1; simp; omega
            have dgg : (gg == 1) = false := by simpa using hq
            by_cases hab : a = b
            · have dab : ((a : Int) == (b : Int)) = true := by simp; omega
              have hm0 : m2 = 0 := HH.out.2.2.2.2 (by omega) (.inl hab)
              have dm0 : ((m2 : Int) == 0) = true := by rw [hm0]; rfl
              clear hab hm0 hp hq
              go_wp2_with fail
              go_ret
              exact ⟨rfl, HX7.out⟩
            · have dab : ((a : Int) == (b : Int)) = false := by simp; omega
              by_cases hxy : x = y
              · have dxy : (x == y) = true := by simpa using hxy
                have hm0 : m2 = 0 := HH.out.2.2.2.2 (by omega) (.inr (by have := HH.out.1; have := HH.out.2.1; omega))
                have dm0 : ((m2 : Int) == 0) = true := by rw [hm0]; rfl
                clear hab hm0 hp hq hxy
                go_wp2_with fail
                go_ret
                exact ⟨rfl, HX7.out⟩
              · have dxy : (x == y) = false := by simpa using hxy
                have hxs : xs2 = [(a : Int)] := HT5.out (by omega) (fun h => by rcases h with h | h; exact hab h; have := HH.out.1; have := HH.out.2.1; omega)
                obtain rfl : m2 = 1 := by rw [← HM2.out, hxs]; rfl
                have HI3 := Lib.hid (show IntsA w7 (.slice a2 1 ac2) [(a : Int)] from by have := HI2.out; rw [hxs] at this; exact this)
                clear hab hp hq hxy hxs
                go_wp2_with fail
                refine (ints_any _ _ _ [(a : Int)] (HI3.out.ext ((Ext.refl _).alloc _)) (ints_lit w7 [(a : Int)]) (by simp)).mono ?_
                rintro e w8 ⟨rfl, hx8⟩
                have HX8 := Lib.hid (HX7.out.trans (((Ext.refl w7).alloc _).trans hx8))
                clear hx8
                go_wp2_with fail
                go_ret
                exact ⟨rfl, HX8.out⟩
          · have dm1 : ((m1 : Int) != (nm : Int)) = true := by simp; omega
            have dxyn : (x != y) = false := by have := HH.out.1; have := HH.out.2.1; have := HH.out.2.2.1; simp; omega
            clear hm
            have dx0 : (x == 0) = false := by have := HH.out.1; simp; omega
            have dgg : (gg == 1) = false := by simpa using hq
            by_cases hab : a = b
            · have dab : ((a : Int) == (b : Int)) = true := by simp; omega
              have hm0 : m2 = 0 := HH.out.2.2.2.2 (by omega) (.inl hab)
              have dm0 : ((m2 : Int) == 0) = true := by rw [hm0]; rfl
              clear hab hm0 hp hq
              go_wp2_with fail
              go_ret
              exact ⟨rfl, HX7.out⟩
            · have dab : ((a : Int) == (b : Int)) = false := by simp; omega
              by_cases hxy : x = y
              · have dxy : (x == y) = true := by simpa using hxy
                have hm0 : m2 = 0 := HH.out.2.2.2.2 (by omega) (.inr (by have := HH.out.1; have := HH.out.2.1; omega))
                have dm0 : ((m2 : Int) == 0) = true := by rw [hm0]; rfl
                clear hab hm0 hp hq hxy
                go_wp2_with fail
                go_ret
                exact ⟨rfl, HX7.out⟩
              · have dxy : (x == y) = false := by simpa using hxy
                have hxs : xs2 = [(a : Int)] := HT5.out (by omega) (fun h => by rcases h with h | h; exact hab h; have := HH.out.1; have := HH.out.2.1; omega)
                obtain rfl : m2 = 1 := by rw [← HM2.out, hxs]; rfl
                have HI3 := Lib.hid (show IntsA w7 (.slice a2 1 ac2) [(a : Int)] from by have := HI2.out; rw [hxs] at this; exact this)
                clear hab hp hq hxy hxs
                go_wp2_with fail
                refine (ints_any _ _ _ [(a : Int)] (HI3.out.ext ((Ext.refl _).alloc _)) (ints_lit w7 [(a : Int)]) (by simp)).mono ?_
                rintro e w8 ⟨rfl, hx8⟩
                have HX8 := Lib.hid (HX7.out.trans (((Ext.refl w7).alloc _).trans hx8))
                clear hx8
                go_wp2_with fail
                go_ret
                exact ⟨rfl, HX8.out⟩
      
end Go.Proofs.Ytemmfbedchfekaa
