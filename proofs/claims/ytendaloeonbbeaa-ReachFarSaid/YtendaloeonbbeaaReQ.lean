/- How far it is: the hops that the laws hand on. No statement is proved here. -/
import Derived.Test.YtendaloeonbbeaaReL
import Derived.Test.YtendaloeonbbeaaReP
namespace Go.Proofs.Ytendaloeonbbeaa
open Go.RowKit Go.BigFrame Go.WideShapes Go.ChangeShapes Go.Deep
set_option linter.unusedVariables false
set_option linter.unusedSimpArgs false

theorem hop_bl (f t c : Int) : Try.prog.built 47 [(0, .int .i64 f), (1, .int .i64 t), (2, .int .u32 c)] = some #[.int .i64 f, .int .i64 t, .int .u32 c] := by kernel_rfl
theorem HopsAt.own {w : World} {base : Nat} {v : Value} {L : List Hp} (h : w.ownsRow base 47 3 v L.length (flatH L)) (hL : L.length ≤ 100000) : HopsAt w v L := by
  have hf := own_form2 h
  obtain ⟨a, cap, rfl⟩ := hf
  refine ⟨a, cap, rfl, by omega, fun h0 => ?_⟩
  rcases h.2 with ⟨e, e2⟩ | ⟨g, cap2, cur, e, hb, hg, hn, hm, hs, ht⟩
  · omega
  · cases e
    refine ⟨g, 0, rfl, heap_lt hg, hn, by unfold maxLen at hm; omega, own_range h⟩
set_option maxRecDepth 100000 in
set_option maxHeartbeats 4000000 in
theorem rhops_any (v : Value) (L : List Hp) (w : World) (h : HopsAt w v L) (hL : L.length ≤ 60) (hwf : ∀ h ∈ L, h.wf) :
    Calls Try.prog 15 #[v] w fun e w' => ∃ v', e = .returned v' ∧ w'.ownsRow w.heap.size 47 3 v' L.length (flatH L) ∧ Ext w w' := by
  obtain ⟨a, cap, rfl, hm, hf⟩ := h
  obtain ⟨i2, hi2, hz2, hs2, hb2⟩ := info_parts info_hop
  have I2 := Lib.hid (And.intro hi2 (And.intro hz2 (And.intro hs2 hb2)))
  have HF := Lib.hid hf
  have HW := Lib.hid hwf
  clear hi2 hz2 hs2 hb2 hf hwf
  go_enter Try.func15, Try.ntmps15
  go_wp2_with fail
  go_loopw [4, 3] (fun i x wr => ∃ (k : Nat) (u : Value), k ≤ L.length ∧ i = .int .i64 k ∧ u = x ∧ wr.ownsRow w.heap.size 47 3 u (L.take k).length (flatH (L.take k)) ∧ Ext w wr) (fun i _ _ => L.length - (intOf i).toNat)
  case atStart => exact ⟨0, _, by omega, rfl, rfl, ⟨rfl, .inl ⟨rfl, rfl⟩⟩, Ext.refl _⟩
  case round =>
    obtain ⟨k, u, hk, rfl, rfl, hO, hE⟩ := hrel
    have HO := Lib.hid hO
    have HE := Lib.hid hE
    clear hO hE
    by_cases hlt : k < L.length
    · obtain ⟨b, off, rfl, hb, hc1, hc2, hrg⟩ := HF.out (by omega)
      obtain ⟨h, hh⟩ : ∃ h, L[k]? = some h := ⟨_, List.getElem?_eq_getElem hlt⟩
      have hS : L.take (k + 1) = L.take k ++ [h] := by rw [List.take_add_one, hh]; rfl
      have HS := Lib.hid hS
      have hR : w.rangeAt b (off + k * 3) h.L := by
        rw [← flatH_at L k h hh]
        intro j u hu
        rw [List.getElem?_take] at hu
        split at hu
        · rw [List.getElem?_drop] at hu
          rw [Nat.add_assoc]
          exact hrg _ _ hu
        · cases hu
      have c0 : w.cell? ⟨b, off + k * 3, none⟩ = some (.int .i64 h.f) := hR 0 _ rfl
      have c1 : w.cell? ⟨b, off + k * 3 + 1, none⟩ = some (.int .i64 h.t) := hR 1 _ rfl
      have c2 : w.cell? ⟨b, off + k * 3 + 2, none⟩ = some (.int .u32 h.c) := hR 2 _ rfl
      have hk8 : k < 1000 := by omega
      have hm3 : (L.take k).length ≤ 60 := by rw [List.length_take]; omega
      clear hrg hh hS hR
      go_wp2_with fail
      refine beginL (S := fun W' => Ext w W') (by kernel_rfl) ?_
      intro wd hqx
      have hq0 : Ext w wd := HE.out.trans hqx
      refine takeL (i := 0) (v := u) rfl (by kernel_rfl) (by kernel_rfl) (by kernel_rfl) (fun _ _ _ h => h) (Or.inl ⟨rfl, fun _ _ => rfl⟩) hq0 ?_
      simp only [Act.put, List.setIfInBounds_toArray, List.set_cons_zero, List.set_cons_succ]
      refine takeL (i := 1) (v := (.slice (some ⟨b, off, none⟩) L.length cap)) rfl (by kernel_rfl) (by kernel_rfl) (by kernel_rfl) (fun _ _ _ h => h) (Or.inl ⟨rfl, fun _ _ => rfl⟩) hq0 ?_
      simp only [Act.put, List.setIfInBounds_toArray, List.set_cons_zero, List.set_cons_succ]
      refine takeL (i := 2) (v := (.int .i64 (k : Int))) rfl (by kernel_rfl) (by kernel_rfl) (by kernel_rfl) (fun _ _ _ h => h) (Or.inl ⟨rfl, fun _ _ => rfl⟩) hq0 ?_
      simp only [Act.put, List.setIfInBounds_toArray, List.set_cons_zero, List.set_cons_succ]
      refine takeL (i := 3) (v := (.pointer (some ⟨b, off + k * 3, none⟩))) rfl (by kernel_rfl) (by kernel_rfl) (by kernel_rfl) (fun _ _ _ h => h) (Or.inl ⟨rfl, fun W' _ => by go_simp⟩) hq0 ?_
      simp only [Act.put, List.setIfInBounds_toArray, List.set_cons_zero, List.set_cons_succ]
      refine takeL (i := 4) (v := (.pointer (some ⟨b, off + k * 3, none⟩))) rfl (by kernel_rfl) (by kernel_rfl) (by kernel_rfl) (fun _ _ _ h => h) (Or.inl ⟨rfl, fun _ _ => rfl⟩) hq0 ?_
      simp only [Act.put, List.setIfInBounds_toArray, List.set_cons_zero, List.set_cons_succ]
      refine takeL (i := 5) (v := _) rfl (by kernel_rfl) (by kernel_rfl) (by kernel_rfl) (fun _ _ _ h => h) (yieldsIf_cell rfl 3 _ rfl ⟨b, off + k * 3, none⟩ rfl (.int .i64 h.f) _ (fun W' hW' => (hW'.cell (p := ⟨b, off + k * 3, none⟩) hb).trans c0) Try.underlying3 rfl) hq0 ?_
      simp only [Act.put, List.setIfInBounds_toArray, List.set_cons_zero, List.set_cons_succ]
      refine takeL (i := 6) (v := (.slice (some ⟨b, off, none⟩) L.length cap)) rfl (by kernel_rfl) (by kernel_rfl) (by kernel_rfl) (fun _ _ _ h => h) (Or.inl ⟨rfl, fun _ _ => rfl⟩) hq0 ?_
      simp only [Act.put, List.setIfInBounds_toArray, List.set_cons_zero, List.set_cons_succ]
      refine takeL (i := 7) (v := (.int .i64 (k : Int))) rfl (by kernel_rfl) (by kernel_rfl) (by kernel_rfl) (fun _ _ _ h => h) (Or.inl ⟨rfl, fun _ _ => rfl⟩) hq0 ?_
      simp only [Act.put, List.setIfInBounds_toArray, List.set_cons_zero, List.set_cons_succ]
      refine takeL (i := 8) (v := (.pointer (some ⟨b, off + k * 3, none⟩))) rfl (by kernel_rfl) (by kernel_rfl) (by kernel_rfl) (fun _ _ _ h => h) (Or.inl ⟨rfl, fun W' _ => by go_simp⟩) hq0 ?_
      simp only [Act.put, List.setIfInBounds_toArray, List.set_cons_zero, List.set_cons_succ]
      refine takeL (i := 9) (v := (.pointer (some ⟨b, off + k * 3 + 1, none⟩))) rfl (by kernel_rfl) (by kernel_rfl) (by kernel_rfl) (fun _ _ _ h => h) (Or.inl ⟨rfl, fun _ _ => rfl⟩) hq0 ?_
      simp only [Act.put, List.setIfInBounds_toArray, List.set_cons_zero, List.set_cons_succ]
      refine takeL (i := 10) (v := _) rfl (by kernel_rfl) (by kernel_rfl) (by kernel_rfl) (fun _ _ _ h => h) (yieldsIf_cell rfl 3 _ rfl ⟨b, off + k * 3 + 1, none⟩ rfl (.int .i64 h.t) _ (fun W' hW' => (hW'.cell (p := ⟨b, off + k * 3 + 1, none⟩) hb).trans c1) Try.underlying3 rfl) hq0 ?_
      simp only [Act.put, List.setIfInBounds_toArray, List.set_cons_zero, List.set_cons_succ]
      refine takeL (i := 11) (v := (.slice (some ⟨b, off, none⟩) L.length cap)) rfl (by kernel_rfl) (by kernel_rfl) (by kernel_rfl) (fun _ _ _ h => h) (Or.inl ⟨rfl, fun _ _ => rfl⟩) hq0 ?_
      simp only [Act.put, List.setIfInBounds_toArray, List.set_cons_zero, List.set_cons_succ]
      refine takeL (i := 12) (v := (.int .i64 (k : Int))) rfl (by kernel_rfl) (by kernel_rfl) (by kernel_rfl) (fun _ _ _ h => h) (Or.inl ⟨rfl, fun _ _ => rfl⟩) hq0 ?_
      simp only [Act.put, List.setIfInBounds_toArray, List.set_cons_zero, List.set_cons_succ]
      refine takeL (i := 13) (v := (.pointer (some ⟨b, off + k * 3, none⟩))) rfl (by kernel_rfl) (by kernel_rfl) (by kernel_rfl) (fun _ _ _ h => h) (Or.inl ⟨rfl, fun W' _ => by go_simp⟩) hq0 ?_
      simp only [Act.put, List.setIfInBounds_toArray, List.set_cons_zero, List.set_cons_succ]
      refine takeL (i := 14) (v := (.pointer (some ⟨b, off + k * 3 + 2, none⟩))) rfl (by kernel_rfl) (by kernel_rfl) (by kernel_rfl) (fun _ _ _ h => h) (Or.inl ⟨rfl, fun _ _ => rfl⟩) hq0 ?_
      simp only [Act.put, List.setIfInBounds_toArray, List.set_cons_zero, List.set_cons_succ]
      refine takeL (i := 15) (v := _) rfl (by kernel_rfl) (by kernel_rfl) (by kernel_rfl) (fun _ _ _ h => h) (yieldsIf_cell rfl 38 _ rfl ⟨b, off + k * 3 + 2, none⟩ rfl (.int .u32 h.c) _ (fun W' hW' => (hW'.cell (p := ⟨b, off + k * 3 + 2, none⟩) hb).trans c2) Try.underlying38 rfl) hq0 ?_
      simp only [Act.put, List.setIfInBounds_toArray, List.set_cons_zero, List.set_cons_succ]
      refine takeL (i := 16) (v := (.agg #[.int .i64 h.f, .int .i64 h.t, .int .u32 h.c])) rfl (by kernel_rfl) (by kernel_rfl) (by kernel_rfl) (fun _ _ _ h => h) (yieldsIf_build rfl 47 _ rfl [(0, .int .i64 h.f), (1, .int .i64 h.t), (2, .int .u32 h.c)] rfl #[.int .i64 h.f, .int .i64 h.t, .int .u32 h.c] (hop_bl _ _ _)) hq0 ?_
      simp only [Act.put, List.setIfInBounds_toArray, List.set_cons_zero, List.set_cons_succ]
      refine runL (i := 17) rfl rfl (by kernel_rfl) (fun K hK => ?_)
      refine wp_buildSlice 26 47 1 _ rfl #[.int .i64 h.f, .int .i64 h.t, .int .u32 h.c] i2 (.agg HZ) Try.underlying26 I2.out.1 I2.out.2.1 (by rw [I2.out.2.2.1]; decide) (by rw [I2.out.2.2.1]; decide) (by rw [I2.out.2.2.1, Array.toList_map]; exact hop_b1 _ _ _) ?_
      have hq1 := hq0.alloc (.cells #[.int .i64 h.f, .int .i64 h.t, .int .u32 h.c] 47)
      have hxa := hqx.alloc (.cells #[.int .i64 h.f, .int .i64 h.t, .int .u32 h.c] 47)
      have hnw := heap_alloc_new wd (.cells #[.int .i64 h.f, .int .i64 h.t, .int .u32 h.c] 47)
      obtain ⟨wa, hwa⟩ : ∃ W, wd.alloc (.cells #[.int .i64 h.f, .int .i64 h.t, .int .u32 h.c] 47) = W := ⟨_, rfl⟩
      obtain ⟨nb, hnb⟩ : ∃ m, wd.heap.size = m := ⟨_, rfl⟩
      rw [hwa] at hq1 hxa hnw ⊢
      rw [hnb] at hnw ⊢
      clear hwa hnb
      refine hK.out _ _ hq1 (fun _ => ?_)
      try simp only [Act.put, List.setIfInBounds_toArray, List.set_cons_zero, List.set_cons_succ]
      clear hK K
      refine runL (i := 18) rfl rfl (by kernel_rfl) (fun K hK => ?_)
      refine oper_append_own_at _ _ 26 rfl w.heap.size 47 i2 (.agg HZ) 3 24 Try.underlying26 I2.out.1 I2.out.2.1 I2.out.2.2.1 I2.out.2.2.2 rfl (by decide) u (L.take k).length (flatH (L.take k)) rfl (own_keep2 HO.out (fun g hg => hxa.block g (own_lt2 HO.out hg).2)) ⟨nb, 0, none⟩ 1 1 h.L rfl rfl ?hnews (fun u hu => by
        have hu2 : u = .int .i64 h.f ∨ u = .int .i64 h.t ∨ u = .int .u32 h.c := by simpa [Hp.L] using hu
        rcases hu2 with rfl | rfl | rfl <;> rfl) (by unfold maxLen; omega) (by omega) hq1.size ?hfin
      case hnews => exact fun j u hu => World.news_of_block hnw j u (by simpa [Hp.L] using hu)
      case hfin =>
        intro v' w2 ho2 hgb hloc
        have hq2 : Ext w w2 := Below.grown hq1 hgb hq1.size (fun g hg => (own_lt2 HO.out hg).1)
        refine hK.out _ _ hq2 (fun _ => ?_)
        try simp only [Act.put, List.setIfInBounds_toArray, List.set_cons_zero, List.set_cons_succ]
        clear hK K
        refine takeL (i := 19) (v := v') rfl (by kernel_rfl) (by kernel_rfl) (by kernel_rfl) (fun _ _ _ h => h) (Or.inl ⟨rfl, fun _ _ => rfl⟩) hq2 ?_
        simp only [Act.put, List.setIfInBounds_toArray, List.set_cons_zero, List.set_cons_succ]
        refine wpAnyH_done (by kernel_rfl) ?_ _
        have HO2 := Lib.hid (show w2.ownsRow w.heap.size 47 3 v' (L.take (k + 1)).length (flatH (L.take (k + 1))) by
          rw [HS.out, flatH_snoc, List.length_append]
          exact ho2)
        clear ho2 hgb hloc
        go_wp2_with fail
        go_roundw
        case rel => exact ⟨k + 1, _, by omega, by go_num, rfl, HO2.out, hq2⟩
        case measure => simp [intOf]; omega
    · obtain rfl : k = L.length := by omega
      have HO2 := Lib.hid (show wr.ownsRow w.heap.size 47 3 u L.length (flatH L) by have := HO.out; rw [List.take_length] at this; exact this)
      go_wp2_with fail
      go_ret
      exact ⟨_, rfl, HO2.out, HE.out⟩

end Go.Proofs.Ytendaloeonbbeaa
