/- The walk of ReachMore. No statement is proved here. -/
import Derived.Test.YtendaloeonbbeaaReR
namespace Go.Proofs.Ytendaloeonbbeaa
open Go.RowKit Go.BigFrame Go.WideShapes Go.ChangeShapes Go.Deep
set_option linter.unusedVariables false
set_option linter.unusedSimpArgs false

theorem toExt {P : Program} {f : FuncId} {args : Array Value} {w : World} {v : Value} (h : Calls P f args w fun e w' => e = .returned v ∧ w = w') : Calls P f args w fun e w' => e = .returned v ∧ Ext w w' :=
  h.mono fun e w' ⟨h1, h2⟩ => ⟨h1, h2 ▸ Ext.refl _⟩
set_option maxRecDepth 100000 in
set_option maxHeartbeats 4000000 in
theorem law_ReachMore {w : World} (n : Int) (hn : 0 ≤ n ∧ n < 256) (v1 : Value) (L : List Hp) (h1 : HopsAt w v1 L ∧ ∀ h ∈ L, h.wf) (f : Int) (hf : -9223372036854775808 ≤ f ∧ f ≤ 9223372036854775807) (t : Int) (ht : -9223372036854775808 ≤ t ∧ t ≤ 9223372036854775807) (c : Int) (hc : 0 ≤ c ∧ c < 4294967296) (s : Int) (hs : 0 ≤ s ∧ s < 256) :
    Calls Try.prog 6 #[.int .u8 n, v1, .agg #[.int .i64 f, .int .i64 t, .int .u32 c], .int .u8 s] w fun e w' => e = .returned (.bool true) ∧ Ext w w' := by
  have H1 := Lib.hid h1.1
  have HW := Lib.hid h1.2
  obtain ⟨⟨a, cap, rfl, hm, -⟩, -⟩ := h1
  have HC := Lib.hid (show (⟨f, t, c⟩ : Hp).wf by unfold Hp.wf; dsimp only; omega)
  obtain ⟨nn, hN⟩ : ∃ K : Nat, (K : Int) = 1 + n % 20 := ⟨(1 + n % 20).toNat, by omega⟩
  obtain ⟨ss, hS⟩ : ∃ S : Nat, (S : Int) = s % nn := ⟨(s % nn).toNat, by have := Int.emod_nonneg s (show (nn : Int) ≠ 0 by omega); omega⟩
  have hNr : 1 ≤ nn ∧ nn ≤ 20 := by omega
  have hSr : ss < nn := by have := Int.emod_lt_of_pos s (show (0 : Int) < nn by omega); omega
  have HNN := Lib.hid hN
  have HSS := Lib.hid hS
  clear hN hS
  go_enter Try.func6, Try.ntmps6
  go_wp2_with fail
  have hA : (w.alloc (.cells #[.int .i64 f, .int .i64 t, .int .u32 c] 45)).heap[w.heap.size]? = some (.cells #[.int .i64 f, .int .i64 t, .int .u32 c] 45 (0, 0)) := heap_alloc_new _ _
  have hE0 : Ext w (w.alloc (.cells #[.int .i64 f, .int .i64 t, .int .u32 c] 45)) := (Ext.refl _).alloc _
  generalize w.alloc (.cells #[.int .i64 f, .int .i64 t, .int .u32 c] 45) = w0 at *
  obtain ⟨A0, hA0⟩ : ∃ m, w.heap.size = m := ⟨_, rfl⟩
  rw [hA0] at hA ⊢
  refine (awake22 _).mono ?_
  rintro e w1 ⟨rfl, hx1⟩
  have hE1 := hE0.trans hx1
  have hA1 := (hx1.block _ (heap_lt hA)).trans hA
  clear hx1 hE0 hA
  by_cases hl : L.length ≤ 60
  rotate_left
  · have hd : decide (60 < (L.length : Int)) = true := by simp; omega
    go_wp2_with fail
    go_ret
    exact ⟨rfl, hE1⟩
  have hd : decide (60 < (L.length : Int)) = false := by simp; omega
  go_wp2_with fail
  rw [← HNN.out, ← HSS.out]
  refine (rhops_any _ L _ (H1.out.ext hE1) hl HW.out).mono ?_
  rintro e w2 ⟨u1, rfl, hO1, hx2⟩
  have hE2 := hE1.trans hx2
  have hA2 := (hx2.block _ (heap_lt hA1)).trans hA1
  have hH1 := HopsAt.own hO1 (by omega)
  clear hx2 hE1 hA1 hO1 hd
  go_wp2_with fail
  refine (rfar_any nn ss _ L w2 hH1 hNr.1 (by omega) hSr (by omega) HW.out).mono ?_
  rintro e w3 ⟨g1, t1, D, dn, rfl, hR, hq, -, hx3⟩
  have hE3 := hE2.trans hx3
  have hA3 := (hx3.block _ (heap_lt hA2)).trans hA2
  have HFA := Lib.hid (hR.fin hSr)
  have HFT := Lib.hid (fun i => (hR.facts hSr HW.out).1.fits (by have := hR.bound hSr HW.out; omega) i)
  have HG1 := Lib.hid hq
  clear hx3 hE2 hA2 hH1 hR hq
  have HHA := Lib.hid hA3
  have HE3 := Lib.hid hE3
  have HLM := Lib.hid (show ∀ x ∈ L ++ [(⟨f, t, c⟩ : Hp)], x.wf from fun x hx => (List.mem_append.1 hx).elim (HW.out x) (fun h => by rw [List.mem_singleton] at h; rw [h]; exact HC.out))
  clear hA3 hE3
  go_upto_region 7 with fail
  go_cut [13] (fun x wx => ∃ g2 t2 D2 dn2 W2, W2 = wx ∧ x = .slice (some ⟨g2, 0, none⟩) nn nn ∧ Rch nn (L ++ [(⟨f, t, c⟩ : Hp)]) ss t2 D2 dn2 (-1) ∧ wx.heap[g2]? = some (.cells (D2.map cvW).toArray 30 (0, 0)) ∧ Ext w3 wx)
  case first =>
    obtain ⟨i2, hi2, hz2, hs2, hb2⟩ := info_parts info_hop
    have I2 := Lib.hid (And.intro hi2 (And.intro hz2 (And.intro hs2 hb2)))
    clear hi2 hz2 hs2 hb2
    refine beginL (S := fun W' => Ext w3 W') (by kernel_rfl) ?_
    intro wd hqx
    have hq0 : Ext w3 wd := hqx
    refine takeL (i := 0) (v := (.int .i64 (nn : Int))) rfl (by kernel_rfl) (by kernel_rfl) (by kernel_rfl) (fun _ _ _ h => h) (Or.inl ⟨rfl, fun _ _ => rfl⟩) hq0 ?_
    simp only [Act.put, List.setIfInBounds_toArray, List.set_cons_zero, List.set_cons_succ]
    refine takeL (i := 1) (v := (.slice a L.length cap)) rfl (by kernel_rfl) (by kernel_rfl) (by kernel_rfl) (fun _ _ _ h => h) (Or.inl ⟨rfl, fun _ _ => rfl⟩) hq0 ?_
    simp only [Act.put, List.setIfInBounds_toArray, List.set_cons_zero, List.set_cons_succ]
    refine takeL (i := 3) (v := (.pointer (some ⟨A0, 0, none⟩))) rfl (by kernel_rfl) (by kernel_rfl) (by kernel_rfl) (fun _ _ _ h => h) (Or.inl ⟨rfl, fun _ _ => rfl⟩) hq0 ?_
    simp only [Act.put, List.setIfInBounds_toArray, List.set_cons_zero, List.set_cons_succ]
    refine takeL (i := 4) (v := _) rfl (by kernel_rfl) (by kernel_rfl) (by kernel_rfl) (fun _ _ _ h => h) (yieldsIf_cell rfl 3 _ rfl ⟨A0, 0, none⟩ rfl (.int .i64 f) _ (fun W' hW' => (cell_of_row _ _ _ _ _ _ ((hW'.block _ (heap_lt HHA.out)).trans HHA.out)).trans rfl) Try.underlying3 rfl) hq0 ?_
    simp only [Act.put, List.setIfInBounds_toArray, List.set_cons_zero, List.set_cons_succ]
    refine takeL (i := 5) (v := (.pointer (some ⟨A0, 1, none⟩))) rfl (by kernel_rfl) (by kernel_rfl) (by kernel_rfl) (fun _ _ _ h => h) (Or.inl ⟨rfl, fun _ _ => rfl⟩) hq0 ?_
    simp only [Act.put, List.setIfInBounds_toArray, List.set_cons_zero, List.set_cons_succ]
    refine takeL (i := 6) (v := _) rfl (by kernel_rfl) (by kernel_rfl) (by kernel_rfl) (fun _ _ _ h => h) (yieldsIf_cell rfl 3 _ rfl ⟨A0, 1, none⟩ rfl (.int .i64 t) _ (fun W' hW' => (cell_of_row _ _ _ _ _ _ ((hW'.block _ (heap_lt HHA.out)).trans HHA.out)).trans rfl) Try.underlying3 rfl) hq0 ?_
    simp only [Act.put, List.setIfInBounds_toArray, List.set_cons_zero, List.set_cons_succ]
    refine takeL (i := 7) (v := (.pointer (some ⟨A0, 2, none⟩))) rfl (by kernel_rfl) (by kernel_rfl) (by kernel_rfl) (fun _ _ _ h => h) (Or.inl ⟨rfl, fun _ _ => rfl⟩) hq0 ?_
    simp only [Act.put, List.setIfInBounds_toArray, List.set_cons_zero, List.set_cons_succ]
    refine takeL (i := 8) (v := _) rfl (by kernel_rfl) (by kernel_rfl) (by kernel_rfl) (fun _ _ _ h => h) (yieldsIf_cell rfl 38 _ rfl ⟨A0, 2, none⟩ rfl (.int .u32 c) _ (fun W' hW' => (cell_of_row _ _ _ _ _ _ ((hW'.block _ (heap_lt HHA.out)).trans HHA.out)).trans rfl) Try.underlying38 rfl) hq0 ?_
    simp only [Act.put, List.setIfInBounds_toArray, List.set_cons_zero, List.set_cons_succ]
    refine takeL (i := 9) (v := (.agg #[.int .i64 f, .int .i64 t, .int .u32 c])) rfl (by kernel_rfl) (by kernel_rfl) (by kernel_rfl) (fun _ _ _ h => h) (yieldsIf_build rfl 47 _ rfl [(0, .int .i64 f), (1, .int .i64 t), (2, .int .u32 c)] rfl #[.int .i64 f, .int .i64 t, .int .u32 c] (hop_bl _ _ _)) hq0 ?_
    simp only [Act.put, List.setIfInBounds_toArray, List.set_cons_zero, List.set_cons_succ]
    refine takeL (i := 12) (v := (.int .i64 (ss : Int))) rfl (by kernel_rfl) (by kernel_rfl) (by kernel_rfl) (fun _ _ _ h => h) (Or.inl ⟨rfl, fun _ _ => rfl⟩) hq0 ?_
    simp only [Act.put, List.setIfInBounds_toArray, List.set_cons_zero, List.set_cons_succ]
    refine wpAnyH_ready (by kernel_rfl) (by simp) (readyL (i := 2) rfl rfl ?qa (readyL (i := 10) rfl rfl ?qb AllReadyH.nil))
    case qa =>
      intro K hK
      go_simp
      refine (rhops_any _ L _ (H1.out.ext (HE3.out.trans hq0)) hl HW.out).mono ?_
      rintro e x1 ⟨u2, rfl, hO2, hyx1⟩
      have hp1 := hq0.trans hyx1
      have hbs : w3.heap.size ≤ wd.heap.size := hq0.size
      obtain ⟨bs, hbse⟩ : ∃ m, wd.heap.size = m := ⟨_, rfl⟩
      rw [hbse] at hO2 hbs
      have hbl : bs ≤ x1.heap.size := by rw [← hbse]; exact hyx1.size
      clear hbse
      refine hK.out _ _ hp1 (fun _ => ?_)
      try simp only [Act.put, List.setIfInBounds_toArray, List.set_cons_zero, List.set_cons_succ]
      clear hK K
      refine runL (i := 10) rfl rfl (by kernel_rfl) (fun K hK => ?_)
      refine wp_buildSlice 26 47 1 _ rfl #[.int .i64 f, .int .i64 t, .int .u32 c] i2 (.agg HZ) Try.underlying26 I2.out.1 I2.out.2.1 (by rw [I2.out.2.2.1]; decide) (by rw [I2.out.2.2.1]; decide) (by rw [I2.out.2.2.1, Array.toList_map]; exact hop_b1 _ _ _) ?_
      have hp2 := hp1.alloc (.cells #[.int .i64 f, .int .i64 t, .int .u32 c] 47)
      have hyx2 : Ext x1 (x1.alloc (.cells #[.int .i64 f, .int .i64 t, .int .u32 c] 47)) := (Ext.refl _).alloc _
      have hnw := heap_alloc_new x1 (.cells #[.int .i64 f, .int .i64 t, .int .u32 c] 47)
      obtain ⟨x2, hwa⟩ : ∃ W, x1.alloc (.cells #[.int .i64 f, .int .i64 t, .int .u32 c] 47) = W := ⟨_, rfl⟩
      obtain ⟨nb, hnb⟩ : ∃ m, x1.heap.size = m := ⟨_, rfl⟩
      rw [hwa] at hp2 hyx2 hnw ⊢
      rw [hnb] at hnw ⊢
      clear hwa hnb
      have hO2 := own_keep2 hO2 (fun g hg => hyx2.block g (own_lt2 hO2 hg).2)
      have hbl := Nat.le_trans hbl hyx2.size
      refine hK.out _ _ hp2 (fun _ => ?_)
      try simp only [Act.put, List.setIfInBounds_toArray, List.set_cons_zero, List.set_cons_succ]
      clear hK K
      refine runL (i := 11) rfl rfl (by kernel_rfl) (fun K hK => ?_)
      refine oper_append_own_at _ _ 26 rfl bs 47 i2 (.agg HZ) 3 24 Try.underlying26 I2.out.1 I2.out.2.1 I2.out.2.2.1 I2.out.2.2.2 rfl (by decide) u2 L.length (flatH L) rfl hO2 ⟨nb, 0, none⟩ 1 1 (⟨f, t, c⟩ : Hp).L rfl rfl ?hnews (fun u hu => by
          have hu2 : u = .int .i64 f ∨ u = .int .i64 t ∨ u = .int .u32 c := by simpa [Hp.L] using hu
          rcases hu2 with rfl | rfl | rfl <;> rfl) (by unfold maxLen; omega) (by omega) hbl ?hfin
      case hnews => exact fun j u hu => World.news_of_block hnw j u (by simpa [Hp.L] using hu)
      case hfin =>
        intro v' w5 ho2 hgb hloc
        have hq5 : Ext w3 w5 := Below.grown hp2 hgb hp2.size (fun g hg => Nat.le_trans hbs (own_lt2 hO2 hg).1)
        refine hK.out _ _ hq5 (fun _ => ?_)
        try simp only [Act.put, List.setIfInBounds_toArray, List.set_cons_zero, List.set_cons_succ]
        clear hK K
        have hH2 : HopsAt w5 v' (L ++ [(⟨f, t, c⟩ : Hp)]) := HopsAt.own (by rw [List.length_append, flatH_snoc]; exact ho2) (by rw [List.length_append]; show L.length + 1 ≤ _; omega)
        clear ho2 hgb hloc
        refine runL (i := 13) rfl rfl (by kernel_rfl) (fun K hK => ?_)
        go_simp
        refine (rfar_any nn ss _ (L ++ [(⟨f, t, c⟩ : Hp)]) w5 hH2 hNr.1 (by omega) hSr (by rw [List.length_append]; show L.length + 1 ≤ _; omega) HLM.out).mono ?_
        rintro e w6 ⟨g2, t2, D2, dn2, rfl, hR2, hr2, -, hx6⟩
        have hq6 := hq5.trans hx6
        refine hK.out _ _ hq6 (fun _ => ?_)
        try simp only [Act.put, List.setIfInBounds_toArray, List.set_cons_zero, List.set_cons_succ]
        clear hK K
        refine takeL (i := 14) (v := (.slice (some ⟨g2, 0, none⟩) nn nn)) rfl (by kernel_rfl) (by kernel_rfl) (by kernel_rfl) (fun _ _ _ h => h) (Or.inl ⟨rfl, fun _ _ => rfl⟩) hq6 ?_
        simp only [Act.put, List.setIfInBounds_toArray, List.set_cons_zero, List.set_cons_succ]
        refine wpAnyH_done (by kernel_rfl) ?_ _
        go_wp2_with fail
        go_meet
        exact ⟨g2, t2, D2, dn2, _, rfl, rfl, hR2, hr2, hq6⟩
    case qb =>
      intro K hK
      refine wp_buildSlice 26 47 1 _ rfl #[.int .i64 f, .int .i64 t, .int .u32 c] i2 (.agg HZ) Try.underlying26 I2.out.1 I2.out.2.1 (by rw [I2.out.2.2.1]; decide) (by rw [I2.out.2.2.1]; decide) (by rw [I2.out.2.2.1, Array.toList_map]; exact hop_b1 _ _ _) ?_
      have hp1 := hq0.alloc (.cells #[.int .i64 f, .int .i64 t, .int .u32 c] 47)
      have hyx1 : Ext wd (wd.alloc (.cells #[.int .i64 f, .int .i64 t, .int .u32 c] 47)) := (Ext.refl _).alloc _
      have hnw := heap_alloc_new wd (.cells #[.int .i64 f, .int .i64 t, .int .u32 c] 47)
      obtain ⟨x1, hwa⟩ : ∃ W, wd.alloc (.cells #[.int .i64 f, .int .i64 t, .int .u32 c] 47) = W := ⟨_, rfl⟩
      obtain ⟨nb, hnb⟩ : ∃ m, wd.heap.size = m := ⟨_, rfl⟩
      rw [hwa] at hp1 hyx1 hnw ⊢
      rw [hnb] at hnw ⊢
      clear hwa hnb
      refine hK.out _ _ hp1 (fun _ => ?_)
      try simp only [Act.put, List.setIfInBounds_toArray, List.set_cons_zero, List.set_cons_succ]
      clear hK K
      refine runL (i := 2) rfl rfl (by kernel_rfl) (fun K hK => ?_)
      go_simp
      refine (rhops_any _ L _ (H1.out.ext (HE3.out.trans hp1)) hl HW.out).mono ?_
      rintro e x2 ⟨u2, rfl, hO2, hyx2⟩
      have hp2 := hp1.trans hyx2
      have hbs : w3.heap.size ≤ x1.heap.size := hp1.size
      obtain ⟨bs, hbse⟩ : ∃ m, x1.heap.size = m := ⟨_, rfl⟩
      rw [hbse] at hO2 hbs
      have hbl : bs ≤ x2.heap.size := by rw [← hbse]; exact hyx2.size
      clear hbse
      have hnw := (hyx2.block _ (heap_lt hnw)).trans hnw
      refine hK.out _ _ hp2 (fun _ => ?_)
      try simp only [Act.put, List.setIfInBounds_toArray, List.set_cons_zero, List.set_cons_succ]
      clear hK K
      refine runL (i := 11) rfl rfl (by kernel_rfl) (fun K hK => ?_)
      refine oper_append_own_at _ _ 26 rfl bs 47 i2 (.agg HZ) 3 24 Try.underlying26 I2.out.1 I2.out.2.1 I2.out.2.2.1 I2.out.2.2.2 rfl (by decide) u2 L.length (flatH L) rfl hO2 ⟨nb, 0, none⟩ 1 1 (⟨f, t, c⟩ : Hp).L rfl rfl ?hnews (fun u hu => by
          have hu2 : u = .int .i64 f ∨ u = .int .i64 t ∨ u = .int .u32 c := by simpa [Hp.L] using hu
          rcases hu2 with rfl | rfl | rfl <;> rfl) (by unfold maxLen; omega) (by omega) hbl ?hfin
      case hnews => exact fun j u hu => World.news_of_block hnw j u (by simpa [Hp.L] using hu)
      case hfin =>
        intro v' w5 ho2 hgb hloc
        have hq5 : Ext w3 w5 := Below.grown hp2 hgb hp2.size (fun g hg => Nat.le_trans hbs (own_lt2 hO2 hg).1)
        refine hK.out _ _ hq5 (fun _ => ?_)
        try simp only [Act.put, List.setIfInBounds_toArray, List.set_cons_zero, List.set_cons_succ]
        clear hK K
        have hH2 : HopsAt w5 v' (L ++ [(⟨f, t, c⟩ : Hp)]) := HopsAt.own (by rw [List.length_append, flatH_snoc]; exact ho2) (by rw [List.length_append]; show L.length + 1 ≤ _; omega)
        clear ho2 hgb hloc
        refine runL (i := 13) rfl rfl (by kernel_rfl) (fun K hK => ?_)
        go_simp
        refine (rfar_any nn ss _ (L ++ [(⟨f, t, c⟩ : Hp)]) w5 hH2 hNr.1 (by omega) hSr (by rw [List.length_append]; show L.length + 1 ≤ _; omega) HLM.out).mono ?_
        rintro e w6 ⟨g2, t2, D2, dn2, rfl, hR2, hr2, -, hx6⟩
        have hq6 := hq5.trans hx6
        refine hK.out _ _ hq6 (fun _ => ?_)
        try simp only [Act.put, List.setIfInBounds_toArray, List.set_cons_zero, List.set_cons_succ]
        clear hK K
        refine takeL (i := 14) (v := (.slice (some ⟨g2, 0, none⟩) nn nn)) rfl (by kernel_rfl) (by kernel_rfl) (by kernel_rfl) (fun _ _ _ h => h) (Or.inl ⟨rfl, fun _ _ => rfl⟩) hq6 ?_
        simp only [Act.put, List.setIfInBounds_toArray, List.set_cons_zero, List.set_cons_succ]
        refine wpAnyH_done (by kernel_rfl) ?_ _
        go_wp2_with fail
        go_meet
        exact ⟨g2, t2, D2, dn2, _, rfl, rfl, hR2, hr2, hq6⟩
  case rest =>
    obtain ⟨g2, t2, D2, dn2, W2, rfl, rfl, hR2, hr2, hx⟩ := hcut
    have HFB := Lib.hid (hR2.fin hSr)
    have HFU := Lib.hid (fun i => (hR2.facts hSr HLM.out).1.fits (by have := hR2.bound hSr HLM.out; omega) i)
    have HEX := Lib.hid (HE3.out.trans hx)
    have HG1X := Lib.hid ((hx.block _ (heap_lt HG1.out)).trans HG1.out)
    have HG2 := Lib.hid hr2
    clear hR2 hr2 hx
    go_wp2_with fail
    go_loopw [14] (fun i wr => ∃ k : Nat, k ≤ nn ∧ i = .int .i64 k ∧ Ext W2 wr) (fun i _ => nn - (intOf i).toNat)
    case atStart => exact ⟨0, by omega, rfl, Ext.refl _⟩
    case round =>
      obtain ⟨k, hk, rfl, hL⟩ := hrel
      by_cases hlt : k < nn
      · obtain ⟨x, hx⟩ : ∃ x, D.getD k Option.none = x := ⟨_, rfl⟩
        obtain ⟨y, hy⟩ : ∃ y, D2.getD k Option.none = y := ⟨_, rfl⟩
        have hfx := HFT.out k
        have hfy := HFU.out k
        have hmore := fun q (h : D.getD k Option.none = Option.some q) => HFA.out.more HFB.out (fun x hx => List.mem_append_left _ hx) h
        rw [hx] at hfx hmore
        rw [hy] at hfy hmore
        have c1 : wr.cell? ⟨g1, k, none⟩ = some (cvW x) := by
          rw [hL.cell (p := ⟨g1, k, none⟩) (heap_lt HG1X.out), cell_of_row _ _ _ _ _ _ HG1X.out, ← hx]
          have := HFA.out.len
          simp [List.getD, this, hlt]
        have c2 : wr.cell? ⟨g2, k, none⟩ = some (cvW y) := by
          rw [hL.cell (p := ⟨g2, k, none⟩) (heap_lt HG2.out), cell_of_row _ _ _ _ _ _ HG2.out, ← hy]
          have := HFB.out.len
          simp [List.getD, this, hlt]
        have l1 := Nat.lt_of_lt_of_le (heap_lt HG1X.out) hL.size
        have l2 := Nat.lt_of_lt_of_le (heap_lt HG2.out) hL.size
        have HNX := Lib.hid (fun w : World => rnone_any x w hfx)
        have HNY := Lib.hid (fun w : World => rnone_any y w hfy)
        have hk8 : k < 20 := by omega
        clear hx hy
        cases y with
        | none =>
          cases x with
          | some q => obtain ⟨z, hz, -⟩ := hmore q rfl; cases hz
          | none =>
            obtain ⟨xv, hxv⟩ : ∃ v, cvW Option.none = v := ⟨_, rfl⟩
            rw [hxv] at c1 c2 HNX HNY
            clear hxv hmore
            go_wp2_with fail
            refine beginL (S := fun W' => Ext wr W') (by kernel_rfl) ?_
            intro wd hqx
            have hq0 : Ext wr wd := hqx
            refine takeL (i := 0) (v := (.slice (some ⟨g2, 0, none⟩) nn nn)) rfl (by kernel_rfl) (by kernel_rfl) (by kernel_rfl) (fun _ _ _ h => h) (Or.inl ⟨rfl, fun _ _ => rfl⟩) hq0 ?_
            simp only [Act.put, List.setIfInBounds_toArray, List.set_cons_zero, List.set_cons_succ]
            refine takeL (i := 1) (v := (.int .i64 (k : Int))) rfl (by kernel_rfl) (by kernel_rfl) (by kernel_rfl) (fun _ _ _ h => h) (Or.inl ⟨rfl, fun _ _ => rfl⟩) hq0 ?_
            simp only [Act.put, List.setIfInBounds_toArray, List.set_cons_zero, List.set_cons_succ]
            refine takeL (i := 2) (v := (.pointer (some ⟨g2, k, none⟩))) rfl (by kernel_rfl) (by kernel_rfl) (by kernel_rfl) (fun _ _ _ h => h) (Or.inl ⟨rfl, fun W' _ => by go_simp⟩) hq0 ?_
            simp only [Act.put, List.setIfInBounds_toArray, List.set_cons_zero, List.set_cons_succ]
            refine takeL (i := 3) (v := _) rfl (by kernel_rfl) (by kernel_rfl) (by kernel_rfl) (fun _ _ _ h => h) (yieldsIf_cell rfl 30 _ rfl ⟨g2, k, none⟩ rfl xv _ (fun W' hW' => (hW'.cell (p := ⟨g2, k, none⟩) l2).trans c2) Try.underlying30 rfl) hq0 ?_
            simp only [Act.put, List.setIfInBounds_toArray, List.set_cons_zero, List.set_cons_succ]
            refine runL (i := 4) rfl rfl (by kernel_rfl) (fun K hK => ?_)
            go_simp
            refine (toExt (HNY.out _)).mono ?_
            rintro e wc1 ⟨rfl, hx⟩
            have hq1 := hq0.trans hx
            refine hK.out _ _ hq1 (fun hHeld => ?_)
            try simp only [Act.put, List.setIfInBounds_toArray, List.set_cons_zero, List.set_cons_succ]
            clear hK K hHeld
            refine takeL (i := 5) (v := (.bool true)) rfl (by kernel_rfl) (by kernel_rfl) (by kernel_rfl) (fun _ _ _ h => h) (Or.inl ⟨rfl, fun _ _ => rfl⟩) hq1 ?_
            simp only [Act.put, List.setIfInBounds_toArray, List.set_cons_zero, List.set_cons_succ]
            refine takeL (i := 6) (v := (.slice (some ⟨g1, 0, none⟩) nn nn)) rfl (by kernel_rfl) (by kernel_rfl) (by kernel_rfl) (fun _ _ _ h => h) (Or.inl ⟨rfl, fun _ _ => rfl⟩) hq1 ?_
            simp only [Act.put, List.setIfInBounds_toArray, List.set_cons_zero, List.set_cons_succ]
            refine takeL (i := 7) (v := (.int .i64 (k : Int))) rfl (by kernel_rfl) (by kernel_rfl) (by kernel_rfl) (fun _ _ _ h => h) (Or.inl ⟨rfl, fun _ _ => rfl⟩) hq1 ?_
            simp only [Act.put, List.setIfInBounds_toArray, List.set_cons_zero, List.set_cons_succ]
            refine takeL (i := 8) (v := (.pointer (some ⟨g1, k, none⟩))) rfl (by kernel_rfl) (by kernel_rfl) (by kernel_rfl) (fun _ _ _ h => h) (Or.inl ⟨rfl, fun W' _ => by go_simp⟩) hq1 ?_
            simp only [Act.put, List.setIfInBounds_toArray, List.set_cons_zero, List.set_cons_succ]
            refine takeL (i := 9) (v := _) rfl (by kernel_rfl) (by kernel_rfl) (by kernel_rfl) (fun _ _ _ h => h) (yieldsIf_cell rfl 30 _ rfl ⟨g1, k, none⟩ rfl xv _ (fun W' hW' => (hW'.cell (p := ⟨g1, k, none⟩) l1).trans c1) Try.underlying30 rfl) hq1 ?_
            simp only [Act.put, List.setIfInBounds_toArray, List.set_cons_zero, List.set_cons_succ]
            refine runG (i := 10) rfl (by rfl) (by kernel_rfl) (fun K hK => ?_)
            go_simp
            refine (toExt (HNX.out _)).mono ?_
            rintro e wc2 ⟨rfl, hx⟩
            have hq2 := hq1.trans hx
            refine hK.out _ _ hq2 (fun hHeld => ?_)
            try simp only [Act.put, List.setIfInBounds_toArray, List.set_cons_zero, List.set_cons_succ]
            clear hK K hHeld
            refine takeL (i := 11) (v := (.bool false)) rfl (by kernel_rfl) (by kernel_rfl) (by kernel_rfl) (fun _ _ _ h => h) (Or.inl ⟨rfl, fun _ _ => rfl⟩) hq2 ?_
            simp only [Act.put, List.setIfInBounds_toArray, List.set_cons_zero, List.set_cons_succ]
            refine takeL (i := 12) (v := (.bool false)) rfl (by kernel_rfl) (by kernel_rfl) (by kernel_rfl) (fun _ _ _ h => h) (Or.inl ⟨rfl, fun _ _ => rfl⟩) hq2 ?_
            simp only [Act.put, List.setIfInBounds_toArray, List.set_cons_zero, List.set_cons_succ]
            refine takeL (i := 13) (v := (.bool false)) rfl (by kernel_rfl) (by kernel_rfl) (by kernel_rfl) (fun _ _ _ h => h) (Or.inl ⟨rfl, fun _ _ => rfl⟩) hq2 ?_
            simp only [Act.put, List.setIfInBounds_toArray, List.set_cons_zero, List.set_cons_succ]
            refine takeL (i := 14) (v := (.slice (some ⟨g1, 0, none⟩) nn nn)) rfl (by kernel_rfl) (by kernel_rfl) (by kernel_rfl) (fun _ _ _ h => h) (Or.inl ⟨rfl, fun _ _ => rfl⟩) hq2 ?_
            simp only [Act.put, List.setIfInBounds_toArray, List.set_cons_zero, List.set_cons_succ]
            refine takeL (i := 15) (v := (.int .i64 (k : Int))) rfl (by kernel_rfl) (by kernel_rfl) (by kernel_rfl) (fun _ _ _ h => h) (Or.inl ⟨rfl, fun _ _ => rfl⟩) hq2 ?_
            simp only [Act.put, List.setIfInBounds_toArray, List.set_cons_zero, List.set_cons_succ]
            refine takeL (i := 16) (v := (.pointer (some ⟨g1, k, none⟩))) rfl (by kernel_rfl) (by kernel_rfl) (by kernel_rfl) (fun _ _ _ h => h) (Or.inl ⟨rfl, fun W' _ => by go_simp⟩) hq2 ?_
            simp only [Act.put, List.setIfInBounds_toArray, List.set_cons_zero, List.set_cons_succ]
            refine takeL (i := 17) (v := _) rfl (by kernel_rfl) (by kernel_rfl) (by kernel_rfl) (fun _ _ _ h => h) (yieldsIf_cell rfl 30 _ rfl ⟨g1, k, none⟩ rfl xv _ (fun W' hW' => (hW'.cell (p := ⟨g1, k, none⟩) l1).trans c1) Try.underlying30 rfl) hq2 ?_
            simp only [Act.put, List.setIfInBounds_toArray, List.set_cons_zero, List.set_cons_succ]
            refine runG (i := 18) rfl (by rfl) (by kernel_rfl) (fun K hK => ?_)
            go_simp
            refine (toExt (HNX.out _)).mono ?_
            rintro e wc3 ⟨rfl, hx⟩
            have hq3 := hq2.trans hx
            refine hK.out _ _ hq3 (fun hHeld => ?_)
            try simp only [Act.put, List.setIfInBounds_toArray, List.set_cons_zero, List.set_cons_succ]
            clear hK K hHeld
            refine takeL (i := 19) (v := (.bool false)) rfl (by kernel_rfl) (by kernel_rfl) (by kernel_rfl) (fun _ _ _ h => h) (Or.inl ⟨rfl, fun _ _ => rfl⟩) hq3 ?_
            simp only [Act.put, List.setIfInBounds_toArray, List.set_cons_zero, List.set_cons_succ]
            refine takeL (i := 20) (v := (.bool false)) rfl (by kernel_rfl) (by kernel_rfl) (by kernel_rfl) (fun _ _ _ h => h) (Or.inl ⟨rfl, fun _ _ => rfl⟩) hq3 ?_
            simp only [Act.put, List.setIfInBounds_toArray, List.set_cons_zero, List.set_cons_succ]
            refine takeL (i := 21) (v := undef) rfl (by kernel_rfl) (by kernel_rfl) (by kernel_rfl) (fun _ _ _ h => h) (Or.inr ⟨rfl, rfl⟩) hq3 ?_
            simp only [Act.put, List.setIfInBounds_toArray, List.set_cons_zero, List.set_cons_succ]
            refine takeL (i := 22) (v := undef) rfl (by kernel_rfl) (by kernel_rfl) (by kernel_rfl) (fun _ _ _ h => h) (Or.inr ⟨rfl, rfl⟩) hq3 ?_
            simp only [Act.put, List.setIfInBounds_toArray, List.set_cons_zero, List.set_cons_succ]
            refine takeL (i := 23) (v := undef) rfl (by kernel_rfl) (by kernel_rfl) (by kernel_rfl) (fun _ _ _ h => h) (Or.inr ⟨rfl, rfl⟩) hq3 ?_
            simp only [Act.put, List.setIfInBounds_toArray, List.set_cons_zero, List.set_cons_succ]
            refine takeL (i := 24) (v := undef) rfl (by kernel_rfl) (by kernel_rfl) (by kernel_rfl) (fun _ _ _ h => h) (Or.inr ⟨rfl, rfl⟩) hq3 ?_
            simp only [Act.put, List.setIfInBounds_toArray, List.set_cons_zero, List.set_cons_succ]
            refine takeL (i := 25) (v := undef) rfl (by kernel_rfl) (by kernel_rfl) (by kernel_rfl) (fun _ _ _ h => h) (Or.inr ⟨rfl, rfl⟩) hq3 ?_
            simp only [Act.put, List.setIfInBounds_toArray, List.set_cons_zero, List.set_cons_succ]
            refine takeL (i := 26) (v := undef) rfl (by kernel_rfl) (by kernel_rfl) (by kernel_rfl) (fun _ _ _ h => h) (Or.inr ⟨rfl, rfl⟩) hq3 ?_
            simp only [Act.put, List.setIfInBounds_toArray, List.set_cons_zero, List.set_cons_succ]
            refine takeL (i := 27) (v := undef) rfl (by kernel_rfl) (by kernel_rfl) (by kernel_rfl) (fun _ _ _ h => h) (Or.inr ⟨rfl, rfl⟩) hq3 ?_
            simp only [Act.put, List.setIfInBounds_toArray, List.set_cons_zero, List.set_cons_succ]
            refine takeL (i := 28) (v := undef) rfl (by kernel_rfl) (by kernel_rfl) (by kernel_rfl) (fun _ _ _ h => h) (Or.inr ⟨rfl, rfl⟩) hq3 ?_
            simp only [Act.put, List.setIfInBounds_toArray, List.set_cons_zero, List.set_cons_succ]
            refine takeL (i := 29) (v := undef) rfl (by kernel_rfl) (by kernel_rfl) (by kernel_rfl) (fun _ _ _ h => h) (Or.inr ⟨rfl, rfl⟩) hq3 ?_
            simp only [Act.put, List.setIfInBounds_toArray, List.set_cons_zero, List.set_cons_succ]
            refine takeL (i := 30) (v := (.bool false)) rfl (by kernel_rfl) (by kernel_rfl) (by kernel_rfl) (fun _ _ _ h => h) (Or.inl ⟨rfl, fun _ _ => rfl⟩) hq3 ?_
            simp only [Act.put, List.setIfInBounds_toArray, List.set_cons_zero, List.set_cons_succ]
            refine takeL (i := 31) (v := (.bool false)) rfl (by kernel_rfl) (by kernel_rfl) (by kernel_rfl) (fun _ _ _ h => h) (Or.inl ⟨rfl, fun _ _ => rfl⟩) hq3 ?_
            simp only [Act.put, List.setIfInBounds_toArray, List.set_cons_zero, List.set_cons_succ]
            refine wpAnyH_done (by kernel_rfl) ?_ _
            have hL2 := hL.trans hq3
            generalize wc3 = wq at *
            go_wp2_with fail
            go_roundw
            case rel => exact ⟨k + 1, by omega, by go_num, hL2⟩
            case measure => simp [intOf]; omega
        | some y =>
          obtain ⟨ya, yb⟩ := y
          cases x with
          | none =>
            obtain ⟨xv, hxv⟩ : ∃ v, cvW Option.none = v := ⟨_, rfl⟩
            obtain ⟨yv, hyv⟩ : ∃ v, cvW (Option.some (ya, yb)) = v := ⟨_, rfl⟩
            rw [hxv] at c1 HNX
            rw [hyv] at c2 HNY
            clear hxv hyv hmore
            go_wp2_with fail
            refine beginL (S := fun W' => Ext wr W') (by kernel_rfl) ?_
            intro wd hqx
            have hq0 : Ext wr wd := hqx
            refine takeL (i := 0) (v := (.slice (some ⟨g2, 0, none⟩) nn nn)) rfl (by kernel_rfl) (by kernel_rfl) (by kernel_rfl) (fun _ _ _ h => h) (Or.inl ⟨rfl, fun _ _ => rfl⟩) hq0 ?_
            simp only [Act.put, List.setIfInBounds_toArray, List.set_cons_zero, List.set_cons_succ]
            refine takeL (i := 1) (v := (.int .i64 (k : Int))) rfl (by kernel_rfl) (by kernel_rfl) (by kernel_rfl) (fun _ _ _ h => h) (Or.inl ⟨rfl, fun _ _ => rfl⟩) hq0 ?_
            simp only [Act.put, List.setIfInBounds_toArray, List.set_cons_zero, List.set_cons_succ]
            refine takeL (i := 2) (v := (.pointer (some ⟨g2, k, none⟩))) rfl (by kernel_rfl) (by kernel_rfl) (by kernel_rfl) (fun _ _ _ h => h) (Or.inl ⟨rfl, fun W' _ => by go_simp⟩) hq0 ?_
            simp only [Act.put, List.setIfInBounds_toArray, List.set_cons_zero, List.set_cons_succ]
            refine takeL (i := 3) (v := _) rfl (by kernel_rfl) (by kernel_rfl) (by kernel_rfl) (fun _ _ _ h => h) (yieldsIf_cell rfl 30 _ rfl ⟨g2, k, none⟩ rfl yv _ (fun W' hW' => (hW'.cell (p := ⟨g2, k, none⟩) l2).trans c2) Try.underlying30 rfl) hq0 ?_
            simp only [Act.put, List.setIfInBounds_toArray, List.set_cons_zero, List.set_cons_succ]
            refine runL (i := 4) rfl rfl (by kernel_rfl) (fun K hK => ?_)
            go_simp
            refine (toExt (HNY.out _)).mono ?_
            rintro e wc1 ⟨rfl, hx⟩
            have hq1 := hq0.trans hx
            refine hK.out _ _ hq1 (fun hHeld => ?_)
            try simp only [Act.put, List.setIfInBounds_toArray, List.set_cons_zero, List.set_cons_succ]
            clear hK K hHeld
            refine takeL (i := 5) (v := (.bool false)) rfl (by kernel_rfl) (by kernel_rfl) (by kernel_rfl) (fun _ _ _ h => h) (Or.inl ⟨rfl, fun _ _ => rfl⟩) hq1 ?_
            simp only [Act.put, List.setIfInBounds_toArray, List.set_cons_zero, List.set_cons_succ]
            refine takeL (i := 6) (v := undef) rfl (by kernel_rfl) (by kernel_rfl) (by kernel_rfl) (fun _ _ _ h => h) (Or.inr ⟨rfl, rfl⟩) hq1 ?_
            simp only [Act.put, List.setIfInBounds_toArray, List.set_cons_zero, List.set_cons_succ]
            refine takeL (i := 7) (v := undef) rfl (by kernel_rfl) (by kernel_rfl) (by kernel_rfl) (fun _ _ _ h => h) (Or.inr ⟨rfl, rfl⟩) hq1 ?_
            simp only [Act.put, List.setIfInBounds_toArray, List.set_cons_zero, List.set_cons_succ]
            refine takeL (i := 8) (v := undef) rfl (by kernel_rfl) (by kernel_rfl) (by kernel_rfl) (fun _ _ _ h => h) (Or.inr ⟨rfl, rfl⟩) hq1 ?_
            simp only [Act.put, List.setIfInBounds_toArray, List.set_cons_zero, List.set_cons_succ]
            refine takeL (i := 9) (v := undef) rfl (by kernel_rfl) (by kernel_rfl) (by kernel_rfl) (fun _ _ _ h => h) (Or.inr ⟨rfl, rfl⟩) hq1 ?_
            simp only [Act.put, List.setIfInBounds_toArray, List.set_cons_zero, List.set_cons_succ]
            refine takeL (i := 10) (v := undef) rfl (by kernel_rfl) (by kernel_rfl) (by kernel_rfl) (fun _ _ _ h => h) (Or.inr ⟨rfl, rfl⟩) hq1 ?_
            simp only [Act.put, List.setIfInBounds_toArray, List.set_cons_zero, List.set_cons_succ]
            refine takeL (i := 11) (v := undef) rfl (by kernel_rfl) (by kernel_rfl) (by kernel_rfl) (fun _ _ _ h => h) (Or.inr ⟨rfl, rfl⟩) hq1 ?_
            simp only [Act.put, List.setIfInBounds_toArray, List.set_cons_zero, List.set_cons_succ]
            refine takeL (i := 12) (v := (.bool false)) rfl (by kernel_rfl) (by kernel_rfl) (by kernel_rfl) (fun _ _ _ h => h) (Or.inl ⟨rfl, fun _ _ => rfl⟩) hq1 ?_
            simp only [Act.put, List.setIfInBounds_toArray, List.set_cons_zero, List.set_cons_succ]
            refine takeL (i := 13) (v := (.bool false)) rfl (by kernel_rfl) (by kernel_rfl) (by kernel_rfl) (fun _ _ _ h => h) (Or.inl ⟨rfl, fun _ _ => rfl⟩) hq1 ?_
            simp only [Act.put, List.setIfInBounds_toArray, List.set_cons_zero, List.set_cons_succ]
            refine takeL (i := 14) (v := (.slice (some ⟨g1, 0, none⟩) nn nn)) rfl (by kernel_rfl) (by kernel_rfl) (by kernel_rfl) (fun _ _ _ h => h) (Or.inl ⟨rfl, fun _ _ => rfl⟩) hq1 ?_
            simp only [Act.put, List.setIfInBounds_toArray, List.set_cons_zero, List.set_cons_succ]
            refine takeL (i := 15) (v := (.int .i64 (k : Int))) rfl (by kernel_rfl) (by kernel_rfl) (by kernel_rfl) (fun _ _ _ h => h) (Or.inl ⟨rfl, fun _ _ => rfl⟩) hq1 ?_
            simp only [Act.put, List.setIfInBounds_toArray, List.set_cons_zero, List.set_cons_succ]
            refine takeL (i := 16) (v := (.pointer (some ⟨g1, k, none⟩))) rfl (by kernel_rfl) (by kernel_rfl) (by kernel_rfl) (fun _ _ _ h => h) (Or.inl ⟨rfl, fun W' _ => by go_simp⟩) hq1 ?_
            simp only [Act.put, List.setIfInBounds_toArray, List.set_cons_zero, List.set_cons_succ]
            refine takeL (i := 17) (v := _) rfl (by kernel_rfl) (by kernel_rfl) (by kernel_rfl) (fun _ _ _ h => h) (yieldsIf_cell rfl 30 _ rfl ⟨g1, k, none⟩ rfl xv _ (fun W' hW' => (hW'.cell (p := ⟨g1, k, none⟩) l1).trans c1) Try.underlying30 rfl) hq1 ?_
            simp only [Act.put, List.setIfInBounds_toArray, List.set_cons_zero, List.set_cons_succ]
            refine runG (i := 18) rfl (by rfl) (by kernel_rfl) (fun K hK => ?_)
            go_simp
            refine (toExt (HNX.out _)).mono ?_
            rintro e wc2 ⟨rfl, hx⟩
            have hq2 := hq1.trans hx
            refine hK.out _ _ hq2 (fun hHeld => ?_)
            try simp only [Act.put, List.setIfInBounds_toArray, List.set_cons_zero, List.set_cons_succ]
            clear hK K hHeld
            refine takeL (i := 19) (v := (.bool false)) rfl (by kernel_rfl) (by kernel_rfl) (by kernel_rfl) (fun _ _ _ h => h) (Or.inl ⟨rfl, fun _ _ => rfl⟩) hq2 ?_
            simp only [Act.put, List.setIfInBounds_toArray, List.set_cons_zero, List.set_cons_succ]
            refine takeL (i := 20) (v := (.bool false)) rfl (by kernel_rfl) (by kernel_rfl) (by kernel_rfl) (fun _ _ _ h => h) (Or.inl ⟨rfl, fun _ _ => rfl⟩) hq2 ?_
            simp only [Act.put, List.setIfInBounds_toArray, List.set_cons_zero, List.set_cons_succ]
            refine takeL (i := 21) (v := undef) rfl (by kernel_rfl) (by kernel_rfl) (by kernel_rfl) (fun _ _ _ h => h) (Or.inr ⟨rfl, rfl⟩) hq2 ?_
            simp only [Act.put, List.setIfInBounds_toArray, List.set_cons_zero, List.set_cons_succ]
            refine takeL (i := 22) (v := undef) rfl (by kernel_rfl) (by kernel_rfl) (by kernel_rfl) (fun _ _ _ h => h) (Or.inr ⟨rfl, rfl⟩) hq2 ?_
            simp only [Act.put, List.setIfInBounds_toArray, List.set_cons_zero, List.set_cons_succ]
            refine takeL (i := 23) (v := undef) rfl (by kernel_rfl) (by kernel_rfl) (by kernel_rfl) (fun _ _ _ h => h) (Or.inr ⟨rfl, rfl⟩) hq2 ?_
            simp only [Act.put, List.setIfInBounds_toArray, List.set_cons_zero, List.set_cons_succ]
            refine takeL (i := 24) (v := undef) rfl (by kernel_rfl) (by kernel_rfl) (by kernel_rfl) (fun _ _ _ h => h) (Or.inr ⟨rfl, rfl⟩) hq2 ?_
            simp only [Act.put, List.setIfInBounds_toArray, List.set_cons_zero, List.set_cons_succ]
            refine takeL (i := 25) (v := undef) rfl (by kernel_rfl) (by kernel_rfl) (by kernel_rfl) (fun _ _ _ h => h) (Or.inr ⟨rfl, rfl⟩) hq2 ?_
            simp only [Act.put, List.setIfInBounds_toArray, List.set_cons_zero, List.set_cons_succ]
            refine takeL (i := 26) (v := undef) rfl (by kernel_rfl) (by kernel_rfl) (by kernel_rfl) (fun _ _ _ h => h) (Or.inr ⟨rfl, rfl⟩) hq2 ?_
            simp only [Act.put, List.setIfInBounds_toArray, List.set_cons_zero, List.set_cons_succ]
            refine takeL (i := 27) (v := undef) rfl (by kernel_rfl) (by kernel_rfl) (by kernel_rfl) (fun _ _ _ h => h) (Or.inr ⟨rfl, rfl⟩) hq2 ?_
            simp only [Act.put, List.setIfInBounds_toArray, List.set_cons_zero, List.set_cons_succ]
            refine takeL (i := 28) (v := undef) rfl (by kernel_rfl) (by kernel_rfl) (by kernel_rfl) (fun _ _ _ h => h) (Or.inr ⟨rfl, rfl⟩) hq2 ?_
            simp only [Act.put, List.setIfInBounds_toArray, List.set_cons_zero, List.set_cons_succ]
            refine takeL (i := 29) (v := undef) rfl (by kernel_rfl) (by kernel_rfl) (by kernel_rfl) (fun _ _ _ h => h) (Or.inr ⟨rfl, rfl⟩) hq2 ?_
            simp only [Act.put, List.setIfInBounds_toArray, List.set_cons_zero, List.set_cons_succ]
            refine takeL (i := 30) (v := (.bool false)) rfl (by kernel_rfl) (by kernel_rfl) (by kernel_rfl) (fun _ _ _ h => h) (Or.inl ⟨rfl, fun _ _ => rfl⟩) hq2 ?_
            simp only [Act.put, List.setIfInBounds_toArray, List.set_cons_zero, List.set_cons_succ]
            refine takeL (i := 31) (v := (.bool false)) rfl (by kernel_rfl) (by kernel_rfl) (by kernel_rfl) (fun _ _ _ h => h) (Or.inl ⟨rfl, fun _ _ => rfl⟩) hq2 ?_
            simp only [Act.put, List.setIfInBounds_toArray, List.set_cons_zero, List.set_cons_succ]
            refine wpAnyH_done (by kernel_rfl) ?_ _
            have hL2 := hL.trans hq2
            generalize wc2 = wq at *
            go_wp2_with fail
            go_roundw
            case rel => exact ⟨k + 1, by omega, by go_num, hL2⟩
            case measure => simp [intOf]; omega
          | some q =>
            obtain ⟨qa, qb⟩ := q
            have hle : ltW qa qb ya yb = false := by
              obtain ⟨z, hz, hz2⟩ := hmore _ rfl
              cases hz
              cases hb : ltW qa qb ya yb
              · rfl
              · exact absurd hz2 (ltW_iff.1 hb)
            have HLS := Lib.hid (fun w : World => by have h := rless_any qa qb ya yb w hfx.1 hfx.2 hfy.1 hfy.2; rw [hle] at h; exact h)
            obtain ⟨xv, hxv⟩ : ∃ v, cvW (Option.some (qa, qb)) = v := ⟨_, rfl⟩
            obtain ⟨yv, hyv⟩ : ∃ v, cvW (Option.some (ya, yb)) = v := ⟨_, rfl⟩
            rw [hxv] at c1 HNX HLS
            rw [hyv] at c2 HNY HLS
            clear hxv hyv hmore
            go_wp2_with fail
            refine beginL (S := fun W' => Ext wr W') (by kernel_rfl) ?_
            intro wd hqx
            have hq0 : Ext wr wd := hqx
            refine takeL (i := 0) (v := (.slice (some ⟨g2, 0, none⟩) nn nn)) rfl (by kernel_rfl) (by kernel_rfl) (by kernel_rfl) (fun _ _ _ h => h) (Or.inl ⟨rfl, fun _ _ => rfl⟩) hq0 ?_
            simp only [Act.put, List.setIfInBounds_toArray, List.set_cons_zero, List.set_cons_succ]
            refine takeL (i := 1) (v := (.int .i64 (k : Int))) rfl (by kernel_rfl) (by kernel_rfl) (by kernel_rfl) (fun _ _ _ h => h) (Or.inl ⟨rfl, fun _ _ => rfl⟩) hq0 ?_
            simp only [Act.put, List.setIfInBounds_toArray, List.set_cons_zero, List.set_cons_succ]
            refine takeL (i := 2) (v := (.pointer (some ⟨g2, k, none⟩))) rfl (by kernel_rfl) (by kernel_rfl) (by kernel_rfl) (fun _ _ _ h => h) (Or.inl ⟨rfl, fun W' _ => by go_simp⟩) hq0 ?_
            simp only [Act.put, List.setIfInBounds_toArray, List.set_cons_zero, List.set_cons_succ]
            refine takeL (i := 3) (v := _) rfl (by kernel_rfl) (by kernel_rfl) (by kernel_rfl) (fun _ _ _ h => h) (yieldsIf_cell rfl 30 _ rfl ⟨g2, k, none⟩ rfl yv _ (fun W' hW' => (hW'.cell (p := ⟨g2, k, none⟩) l2).trans c2) Try.underlying30 rfl) hq0 ?_
            simp only [Act.put, List.setIfInBounds_toArray, List.set_cons_zero, List.set_cons_succ]
            refine runL (i := 4) rfl rfl (by kernel_rfl) (fun K hK => ?_)
            go_simp
            refine (toExt (HNY.out _)).mono ?_
            rintro e wc1 ⟨rfl, hx⟩
            have hq1 := hq0.trans hx
            refine hK.out _ _ hq1 (fun hHeld => ?_)
            try simp only [Act.put, List.setIfInBounds_toArray, List.set_cons_zero, List.set_cons_succ]
            clear hK K hHeld
            refine takeL (i := 5) (v := (.bool false)) rfl (by kernel_rfl) (by kernel_rfl) (by kernel_rfl) (fun _ _ _ h => h) (Or.inl ⟨rfl, fun _ _ => rfl⟩) hq1 ?_
            simp only [Act.put, List.setIfInBounds_toArray, List.set_cons_zero, List.set_cons_succ]
            refine takeL (i := 6) (v := undef) rfl (by kernel_rfl) (by kernel_rfl) (by kernel_rfl) (fun _ _ _ h => h) (Or.inr ⟨rfl, rfl⟩) hq1 ?_
            simp only [Act.put, List.setIfInBounds_toArray, List.set_cons_zero, List.set_cons_succ]
            refine takeL (i := 7) (v := undef) rfl (by kernel_rfl) (by kernel_rfl) (by kernel_rfl) (fun _ _ _ h => h) (Or.inr ⟨rfl, rfl⟩) hq1 ?_
            simp only [Act.put, List.setIfInBounds_toArray, List.set_cons_zero, List.set_cons_succ]
            refine takeL (i := 8) (v := undef) rfl (by kernel_rfl) (by kernel_rfl) (by kernel_rfl) (fun _ _ _ h => h) (Or.inr ⟨rfl, rfl⟩) hq1 ?_
            simp only [Act.put, List.setIfInBounds_toArray, List.set_cons_zero, List.set_cons_succ]
            refine takeL (i := 9) (v := undef) rfl (by kernel_rfl) (by kernel_rfl) (by kernel_rfl) (fun _ _ _ h => h) (Or.inr ⟨rfl, rfl⟩) hq1 ?_
            simp only [Act.put, List.setIfInBounds_toArray, List.set_cons_zero, List.set_cons_succ]
            refine takeL (i := 10) (v := undef) rfl (by kernel_rfl) (by kernel_rfl) (by kernel_rfl) (fun _ _ _ h => h) (Or.inr ⟨rfl, rfl⟩) hq1 ?_
            simp only [Act.put, List.setIfInBounds_toArray, List.set_cons_zero, List.set_cons_succ]
            refine takeL (i := 11) (v := undef) rfl (by kernel_rfl) (by kernel_rfl) (by kernel_rfl) (fun _ _ _ h => h) (Or.inr ⟨rfl, rfl⟩) hq1 ?_
            simp only [Act.put, List.setIfInBounds_toArray, List.set_cons_zero, List.set_cons_succ]
            refine takeL (i := 12) (v := (.bool false)) rfl (by kernel_rfl) (by kernel_rfl) (by kernel_rfl) (fun _ _ _ h => h) (Or.inl ⟨rfl, fun _ _ => rfl⟩) hq1 ?_
            simp only [Act.put, List.setIfInBounds_toArray, List.set_cons_zero, List.set_cons_succ]
            refine takeL (i := 13) (v := (.bool false)) rfl (by kernel_rfl) (by kernel_rfl) (by kernel_rfl) (fun _ _ _ h => h) (Or.inl ⟨rfl, fun _ _ => rfl⟩) hq1 ?_
            simp only [Act.put, List.setIfInBounds_toArray, List.set_cons_zero, List.set_cons_succ]
            refine takeL (i := 14) (v := (.slice (some ⟨g1, 0, none⟩) nn nn)) rfl (by kernel_rfl) (by kernel_rfl) (by kernel_rfl) (fun _ _ _ h => h) (Or.inl ⟨rfl, fun _ _ => rfl⟩) hq1 ?_
            simp only [Act.put, List.setIfInBounds_toArray, List.set_cons_zero, List.set_cons_succ]
            refine takeL (i := 15) (v := (.int .i64 (k : Int))) rfl (by kernel_rfl) (by kernel_rfl) (by kernel_rfl) (fun _ _ _ h => h) (Or.inl ⟨rfl, fun _ _ => rfl⟩) hq1 ?_
            simp only [Act.put, List.setIfInBounds_toArray, List.set_cons_zero, List.set_cons_succ]
            refine takeL (i := 16) (v := (.pointer (some ⟨g1, k, none⟩))) rfl (by kernel_rfl) (by kernel_rfl) (by kernel_rfl) (fun _ _ _ h => h) (Or.inl ⟨rfl, fun W' _ => by go_simp⟩) hq1 ?_
            simp only [Act.put, List.setIfInBounds_toArray, List.set_cons_zero, List.set_cons_succ]
            refine takeL (i := 17) (v := _) rfl (by kernel_rfl) (by kernel_rfl) (by kernel_rfl) (fun _ _ _ h => h) (yieldsIf_cell rfl 30 _ rfl ⟨g1, k, none⟩ rfl xv _ (fun W' hW' => (hW'.cell (p := ⟨g1, k, none⟩) l1).trans c1) Try.underlying30 rfl) hq1 ?_
            simp only [Act.put, List.setIfInBounds_toArray, List.set_cons_zero, List.set_cons_succ]
            refine runG (i := 18) rfl (by rfl) (by kernel_rfl) (fun K hK => ?_)
            go_simp
            refine (toExt (HNX.out _)).mono ?_
            rintro e wc2 ⟨rfl, hx⟩
            have hq2 := hq1.trans hx
            refine hK.out _ _ hq2 (fun hHeld => ?_)
            try simp only [Act.put, List.setIfInBounds_toArray, List.set_cons_zero, List.set_cons_succ]
            clear hK K hHeld
            refine takeL (i := 19) (v := (.bool true)) rfl (by kernel_rfl) (by kernel_rfl) (by kernel_rfl) (fun _ _ _ h => h) (Or.inl ⟨rfl, fun _ _ => rfl⟩) hq2 ?_
            simp only [Act.put, List.setIfInBounds_toArray, List.set_cons_zero, List.set_cons_succ]
            refine takeL (i := 20) (v := (.bool true)) rfl (by kernel_rfl) (by kernel_rfl) (by kernel_rfl) (fun _ _ _ h => h) (Or.inl ⟨rfl, fun _ _ => rfl⟩) hq2 ?_
            simp only [Act.put, List.setIfInBounds_toArray, List.set_cons_zero, List.set_cons_succ]
            refine takeL (i := 21) (v := (.slice (some ⟨g1, 0, none⟩) nn nn)) rfl (by kernel_rfl) (by kernel_rfl) (by kernel_rfl) (fun _ _ _ h => h) (Or.inl ⟨rfl, fun _ _ => rfl⟩) hq2 ?_
            simp only [Act.put, List.setIfInBounds_toArray, List.set_cons_zero, List.set_cons_succ]
            refine takeL (i := 22) (v := (.int .i64 (k : Int))) rfl (by kernel_rfl) (by kernel_rfl) (by kernel_rfl) (fun _ _ _ h => h) (Or.inl ⟨rfl, fun _ _ => rfl⟩) hq2 ?_
            simp only [Act.put, List.setIfInBounds_toArray, List.set_cons_zero, List.set_cons_succ]
            refine takeL (i := 23) (v := (.pointer (some ⟨g1, k, none⟩))) rfl (by kernel_rfl) (by kernel_rfl) (by kernel_rfl) (fun _ _ _ h => h) (Or.inl ⟨rfl, fun W' _ => by go_simp⟩) hq2 ?_
            simp only [Act.put, List.setIfInBounds_toArray, List.set_cons_zero, List.set_cons_succ]
            refine takeL (i := 24) (v := _) rfl (by kernel_rfl) (by kernel_rfl) (by kernel_rfl) (fun _ _ _ h => h) (yieldsIf_cell rfl 30 _ rfl ⟨g1, k, none⟩ rfl xv _ (fun W' hW' => (hW'.cell (p := ⟨g1, k, none⟩) l1).trans c1) Try.underlying30 rfl) hq2 ?_
            simp only [Act.put, List.setIfInBounds_toArray, List.set_cons_zero, List.set_cons_succ]
            refine takeL (i := 25) (v := (.slice (some ⟨g2, 0, none⟩) nn nn)) rfl (by kernel_rfl) (by kernel_rfl) (by kernel_rfl) (fun _ _ _ h => h) (Or.inl ⟨rfl, fun _ _ => rfl⟩) hq2 ?_
            simp only [Act.put, List.setIfInBounds_toArray, List.set_cons_zero, List.set_cons_succ]
            refine takeL (i := 26) (v := (.int .i64 (k : Int))) rfl (by kernel_rfl) (by kernel_rfl) (by kernel_rfl) (fun _ _ _ h => h) (Or.inl ⟨rfl, fun _ _ => rfl⟩) hq2 ?_
            simp only [Act.put, List.setIfInBounds_toArray, List.set_cons_zero, List.set_cons_succ]
            refine takeL (i := 27) (v := (.pointer (some ⟨g2, k, none⟩))) rfl (by kernel_rfl) (by kernel_rfl) (by kernel_rfl) (fun _ _ _ h => h) (Or.inl ⟨rfl, fun W' _ => by go_simp⟩) hq2 ?_
            simp only [Act.put, List.setIfInBounds_toArray, List.set_cons_zero, List.set_cons_succ]
            refine takeL (i := 28) (v := _) rfl (by kernel_rfl) (by kernel_rfl) (by kernel_rfl) (fun _ _ _ h => h) (yieldsIf_cell rfl 30 _ rfl ⟨g2, k, none⟩ rfl yv _ (fun W' hW' => (hW'.cell (p := ⟨g2, k, none⟩) l2).trans c2) Try.underlying30 rfl) hq2 ?_
            simp only [Act.put, List.setIfInBounds_toArray, List.set_cons_zero, List.set_cons_succ]
            refine runG (i := 29) rfl (by rfl) (by kernel_rfl) (fun K hK => ?_)
            go_simp
            refine (toExt (HLS.out _)).mono ?_
            rintro e wc3 ⟨rfl, hx⟩
            have hq3 := hq2.trans hx
            refine hK.out _ _ hq3 (fun hHeld => ?_)
            try simp only [Act.put, List.setIfInBounds_toArray, List.set_cons_zero, List.set_cons_succ]
            clear hK K hHeld
            refine takeL (i := 30) (v := (.bool false)) rfl (by kernel_rfl) (by kernel_rfl) (by kernel_rfl) (fun _ _ _ h => h) (Or.inl ⟨rfl, fun _ _ => rfl⟩) hq3 ?_
            simp only [Act.put, List.setIfInBounds_toArray, List.set_cons_zero, List.set_cons_succ]
            refine takeL (i := 31) (v := (.bool false)) rfl (by kernel_rfl) (by kernel_rfl) (by kernel_rfl) (fun _ _ _ h => h) (Or.inl ⟨rfl, fun _ _ => rfl⟩) hq3 ?_
            simp only [Act.put, List.setIfInBounds_toArray, List.set_cons_zero, List.set_cons_succ]
            refine wpAnyH_done (by kernel_rfl) ?_ _
            have hL2 := hL.trans hq3
            generalize wc3 = wq at *
            go_wp2_with fail
            go_roundw
            case rel => exact ⟨k + 1, by omega, by go_num, hL2⟩
            case measure => simp [intOf]; omega
      · obtain rfl : k = nn := by omega
        go_wp2_with fail
        go_ret
        exact ⟨rfl, HEX.out.trans hL⟩


end Go.Proofs.Ytendaloeonbbeaa
