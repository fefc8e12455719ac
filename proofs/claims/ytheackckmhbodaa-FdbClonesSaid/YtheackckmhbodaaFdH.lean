/- The database: who is learned. No statement is proved here. -/
import Derived.Test.YtheackckmhbodaaFdG
namespace Go.Proofs.Ytheackckmhbodaa
open Go.RowKit Go.BigFrame Go.WideShapes Go.ChangeShapes Go.Deep
set_option linter.unusedVariables false
set_option linter.unusedSimpArgs false

set_option maxRecDepth 100000 in
set_option maxHeartbeats 8000000 in
theorem learn_good (w : World) (F : Nat → Prop) (f : Nat) (L : List En) (most age : Int) (h : Fb w F f L most age) (hL : Ok age L) (ha : 1 ≤ age ∧ age ≤ 1000000) (hlen : 1 ≤ most ∧ most ≤ 4096 ∧ (L.length : Int) ≤ most) (x port m : Int) (hx0 : 0 ≤ x ∧ x < 18446744073709551616) (hm : x % 281474976710656 = m) (hport : 0 ≤ port ∧ port < 9223372036854775808)
    (h0 : m ≠ 0) (h1 : ¬ m / 1099511627776 % 2 = 1) :
    Calls Try.prog 12 #[.pointer (some ⟨f, 0, none⟩), .int .u64 x, .int .i64 port] w fun e w' => e = .returned (.bool true) ∧ LearnP w F f most age m port L w' := by
  obtain ⟨b, D, gb, g1, g2, g3⟩ := h
  go_enter Try.func12, Try.ntmps12
  have H0 := Lib.hid h0
  have H1 := Lib.hid h1
  have HFC := Lib.hid g1
  have HM := Lib.hid g2
  have HF := Lib.hid g3
  have HOK := Lib.hid hL
  have HLN := Lib.hid (show 1 ≤ most ∧ most ≤ 4096 ∧ (L.length : Int) ≤ most from hlen)
  clear h0 h1 g1 g2 g3 hL
  go_wp2_with fail
  refine (addr_any x _ hx0.1 hx0.2).mono ?_
  rintro e w1 ⟨rfl, rfl⟩
  have hmr : 0 ≤ m ∧ m < 281474976710656 := by omega
  have q0 := H0.out
  have q1 := H1.out
  rw [hm]
  clear hm hx0 H0 H1
  have d0 : (m == 0) = false := by simpa using q0
  have HMR := Lib.hid (show 0 < m ∧ m < 281474976710656 by omega)
  have HQ1 := Lib.hid q1
  clear q0 q1
  go_wp2_with fail
  refine (group_any m _ hmr.1 (by omega)).mono ?_
  rintro e w1 ⟨rfl, rfl⟩
  have d1 : (m / 1099511627776 % 2 == 1) = false := by have := HQ1.out; simpa using this
  have d2 : decide (port < 0) = false := decide_eq_false (by omega)
  rw [d1]
  have HAG := Lib.hid ha.1
  have HAG2 := Lib.hid (show 0 ≤ age ∧ age ≤ 1000000 by omega)
  have HPR := Lib.hid hport
  have HKEY := Lib.hid (show keyOf Try.prog 30 (.int .u64 m) = some (ku m) from Maps.keyOf_int_mk Try.underlying30 (wfx (by omega)))
  have LK0 := look_run HFC.out HM.out m (wfx (by omega))
  have HIS := Lib.hid (show Maps.IsMap D by obtain ⟨es, he, _⟩ := HM.out.entries KK; exact ⟨es, he⟩)
  have HIS3 := Lib.hid (fun k => (HIS.out.del k : Maps.IsMap (D.del k)))
  have cf : w.cell? ⟨f, 0, none⟩ = some (.map (some b)) := by rw [cell_row HFC.out.hf]; rfl
  have cf1 : w.cell? ⟨f, 1, none⟩ = some (.int .i64 most) := by rw [cell_row HFC.out.hf]; rfl
  have hfl := row_lt HFC.out.hf
  clear ha hport HQ1
  by_cases hk : m ∈ L.map Prod.fst
  · have LK1 := LK0
    rw [if_pos hk] at LK1
    obtain ⟨G, hG⟩ : ∃ G, gb m = G := ⟨_, rfl⟩
    rw [hG] at LK1
    have LK := Lib.hid LK1
    have HLE := Lib.hid (show LearnedP most age m port L (ins (m, port, age) L) from .inl ⟨.inl hk, rfl⟩)
    clear LK0 LK1 hG hk
    go_wp2_with fail
    refine beginL (S := fun W' => Ext w W') (by kernel_rfl) ?_
    intro wd hqx
    have hq0 : Ext w wd := hqx
    refine takeL (i := 0) (v := (.pointer (some ⟨f, 0, none⟩))) rfl (by kernel_rfl) (by kernel_rfl) (by kernel_rfl) (fun _ _ _ h => h) (Or.inl ⟨rfl, fun _ _ => rfl⟩) hq0 ?_
    simp only [Act.put, List.setIfInBounds_toArray, List.set_cons_zero, List.set_cons_succ]
    refine takeL (i := 1) (v := (.pointer (some ⟨f, 0, none⟩))) rfl (by kernel_rfl) (by kernel_rfl) (by kernel_rfl) (fun _ _ _ h => h) (Or.inl ⟨rfl, fun _ _ => rfl⟩) hq0 ?_
    simp only [Act.put, List.setIfInBounds_toArray, List.set_cons_zero, List.set_cons_succ]
    refine takeL (i := 2) (v := (.pointer (some ⟨f, 0, none⟩))) rfl (by kernel_rfl) (by kernel_rfl) (by kernel_rfl) (fun _ _ _ h => h) (Or.inl ⟨rfl, fun _ _ => rfl⟩) hq0 ?_
    simp only [Act.put, List.setIfInBounds_toArray, List.set_cons_zero, List.set_cons_succ]
    refine takeL (i := 3) (v := _) rfl (by kernel_rfl) (by kernel_rfl) (by kernel_rfl) (fun _ _ _ h => h) (yieldsIf_cell rfl 52 _ rfl ⟨f, 0, none⟩ rfl (.map (some b)) _ (fun W' hW' => (hW'.cell (p := ⟨f, 0, none⟩) hfl).trans cf) Try.underlying52 rfl) hq0 ?_
    simp only [Act.put, List.setIfInBounds_toArray, List.set_cons_zero, List.set_cons_succ]
    refine takeL (i := 4) (v := (.int .u64 m)) rfl (by kernel_rfl) (by kernel_rfl) (by kernel_rfl) (fun _ _ _ h => h) (Or.inl ⟨rfl, fun _ _ => rfl⟩) hq0 ?_
    simp only [Act.put, List.setIfInBounds_toArray, List.set_cons_zero, List.set_cons_succ]
    refine takeL (i := 5) (v := (.pointer (some ⟨G, 0, none⟩))) rfl (by kernel_rfl) (by kernel_rfl) (by kernel_rfl) (fun _ _ _ h => h) (Or.inl ⟨rfl, fun W' hW' => by have hrun := LK.out W' hW'; go_simp⟩) hq0 ?_
    simp only [Act.put, List.setIfInBounds_toArray, List.set_cons_zero, List.set_cons_succ]
    refine takeL (i := 6) (v := (.bool false)) rfl (by kernel_rfl) (by kernel_rfl) (by kernel_rfl) (fun _ _ _ h => h) (Or.inl ⟨rfl, fun W' _ => by go_simp⟩) hq0 ?_
    simp only [Act.put, List.setIfInBounds_toArray, List.set_cons_zero, List.set_cons_succ]
    refine takeL (i := 7) (v := (.bool false)) rfl (by kernel_rfl) (by kernel_rfl) (by kernel_rfl) (fun _ _ _ h => h) (Or.inl ⟨rfl, fun _ _ => rfl⟩) hq0 ?_
    simp only [Act.put, List.setIfInBounds_toArray, List.set_cons_zero, List.set_cons_succ]
    refine takeL (i := 8) (v := undef) rfl (by kernel_rfl) (by kernel_rfl) (by kernel_rfl) (fun _ _ _ h => h) (Or.inr ⟨rfl, rfl⟩) hq0 ?_
    simp only [Act.put, List.setIfInBounds_toArray, List.set_cons_zero, List.set_cons_succ]
    refine takeL (i := 9) (v := undef) rfl (by kernel_rfl) (by kernel_rfl) (by kernel_rfl) (fun _ _ _ h => h) (Or.inr ⟨rfl, rfl⟩) hq0 ?_
    simp only [Act.put, List.setIfInBounds_toArray, List.set_cons_zero, List.set_cons_succ]
    refine takeL (i := 10) (v := undef) rfl (by kernel_rfl) (by kernel_rfl) (by kernel_rfl) (fun _ _ _ h => h) (Or.inr ⟨rfl, rfl⟩) hq0 ?_
    simp only [Act.put, List.setIfInBounds_toArray, List.set_cons_zero, List.set_cons_succ]
    refine takeL (i := 11) (v := undef) rfl (by kernel_rfl) (by kernel_rfl) (by kernel_rfl) (fun _ _ _ h => h) (Or.inr ⟨rfl, rfl⟩) hq0 ?_
    simp only [Act.put, List.setIfInBounds_toArray, List.set_cons_zero, List.set_cons_succ]
    refine takeL (i := 12) (v := undef) rfl (by kernel_rfl) (by kernel_rfl) (by kernel_rfl) (fun _ _ _ h => h) (Or.inr ⟨rfl, rfl⟩) hq0 ?_
    simp only [Act.put, List.setIfInBounds_toArray, List.set_cons_zero, List.set_cons_succ]
    refine takeL (i := 13) (v := undef) rfl (by kernel_rfl) (by kernel_rfl) (by kernel_rfl) (fun _ _ _ h => h) (Or.inr ⟨rfl, rfl⟩) hq0 ?_
    simp only [Act.put, List.setIfInBounds_toArray, List.set_cons_zero, List.set_cons_succ]
    refine takeL (i := 14) (v := undef) rfl (by kernel_rfl) (by kernel_rfl) (by kernel_rfl) (fun _ _ _ h => h) (Or.inr ⟨rfl, rfl⟩) hq0 ?_
    simp only [Act.put, List.setIfInBounds_toArray, List.set_cons_zero, List.set_cons_succ]
    refine takeL (i := 15) (v := undef) rfl (by kernel_rfl) (by kernel_rfl) (by kernel_rfl) (fun _ _ _ h => h) (Or.inr ⟨rfl, rfl⟩) hq0 ?_
    simp only [Act.put, List.setIfInBounds_toArray, List.set_cons_zero, List.set_cons_succ]
    refine takeL (i := 16) (v := undef) rfl (by kernel_rfl) (by kernel_rfl) (by kernel_rfl) (fun _ _ _ h => h) (Or.inr ⟨rfl, rfl⟩) hq0 ?_
    simp only [Act.put, List.setIfInBounds_toArray, List.set_cons_zero, List.set_cons_succ]
    refine takeL (i := 17) (v := undef) rfl (by kernel_rfl) (by kernel_rfl) (by kernel_rfl) (fun _ _ _ h => h) (Or.inr ⟨rfl, rfl⟩) hq0 ?_
    simp only [Act.put, List.setIfInBounds_toArray, List.set_cons_zero, List.set_cons_succ]
    refine takeL (i := 18) (v := (.bool false)) rfl (by kernel_rfl) (by kernel_rfl) (by kernel_rfl) (fun _ _ _ h => h) (Or.inl ⟨rfl, fun _ _ => rfl⟩) hq0 ?_
    simp only [Act.put, List.setIfInBounds_toArray, List.set_cons_zero, List.set_cons_succ]
    refine wpAnyH_done (by kernel_rfl) ?_ _
    have hfx : FbC wd F f b D L gb most age := HFC.out.ext (fun k hk _ _ => hq0.block k hk)
    have hmx : wd.ownsMap Try.prog 30 pE b L.length D := owns_ext' HM.out hq0
    have hfF : ∀ k, F k → k < wd.heap.size := fun k hk => Nat.lt_of_lt_of_le (HF.out k hk) hq0.size
    have HFX := Lib.hid hfx
    have HMX := Lib.hid hmx
    have HFx := Lib.hid hfF
    have HMW := Lib.hid (show Mut F w wd from hq0.mut F)
    clear hfx hmx hfF hq0 hqx cf cf1 hfl
    generalize wd = wx at *
    go_wp2_with fail
    have c0w : wx.cell? ⟨f, 0, none⟩ = some (.map (some b)) := by rw [cell_row HFX.out.hf]; rfl
    have c2w : wx.cell? ⟨f, 2, none⟩ = some (.int .i64 age) := by rw [cell_row HFX.out.hf]; rfl
    have hflw := row_lt HFX.out.hf
    have hfnb : ¬ f = b := HFX.out.ne
    refine beginL (S := fun W' => Mut (fun n => n = b) wx W') (by kernel_rfl) ?_
    intro wd hqx
    have hq0 : Mut (fun n => n = b) wx wd := hqx.mut _
    refine takeL (i := 0) (v := (.pointer (some ⟨f, 0, none⟩))) rfl (by kernel_rfl) (by kernel_rfl) (by kernel_rfl) (fun _ _ _ h => h) (Or.inl ⟨rfl, fun _ _ => rfl⟩) hq0 ?_
    simp only [Act.put, List.setIfInBounds_toArray, List.set_cons_zero, List.set_cons_succ]
    refine takeL (i := 1) (v := (.pointer (some ⟨f, 0, none⟩))) rfl (by kernel_rfl) (by kernel_rfl) (by kernel_rfl) (fun _ _ _ h => h) (Or.inl ⟨rfl, fun _ _ => rfl⟩) hq0 ?_
    simp only [Act.put, List.setIfInBounds_toArray, List.set_cons_zero, List.set_cons_succ]
    refine takeL (i := 2) (v := (.pointer (some ⟨f, 0, none⟩))) rfl (by kernel_rfl) (by kernel_rfl) (by kernel_rfl) (fun _ _ _ h => h) (Or.inl ⟨rfl, fun _ _ => rfl⟩) hq0 ?_
    simp only [Act.put, List.setIfInBounds_toArray, List.set_cons_zero, List.set_cons_succ]
    refine takeL (i := 3) (v := _) rfl (by kernel_rfl) (by kernel_rfl) (by kernel_rfl) (fun _ _ _ h => h) (yieldsIf_cell rfl 52 _ rfl ⟨f, 0, none⟩ rfl (.map (some b)) _ (fun W' hW' => (hW'.cell (p := ⟨f, 0, none⟩) hflw hfnb).trans c0w) Try.underlying52 rfl) hq0 ?_
    simp only [Act.put, List.setIfInBounds_toArray, List.set_cons_zero, List.set_cons_succ]
    refine takeL (i := 4) (v := (.int .u64 m)) rfl (by kernel_rfl) (by kernel_rfl) (by kernel_rfl) (fun _ _ _ h => h) (Or.inl ⟨rfl, fun _ _ => rfl⟩) hq0 ?_
    simp only [Act.put, List.setIfInBounds_toArray, List.set_cons_zero, List.set_cons_succ]
    refine takeL (i := 5) (v := (.int .i64 port)) rfl (by kernel_rfl) (by kernel_rfl) (by kernel_rfl) (fun _ _ _ h => h) (Or.inl ⟨rfl, fun _ _ => rfl⟩) hq0 ?_
    simp only [Act.put, List.setIfInBounds_toArray, List.set_cons_zero, List.set_cons_succ]
    refine takeL (i := 6) (v := (.pointer (some ⟨f, 0, none⟩))) rfl (by kernel_rfl) (by kernel_rfl) (by kernel_rfl) (fun _ _ _ h => h) (Or.inl ⟨rfl, fun _ _ => rfl⟩) hq0 ?_
    simp only [Act.put, List.setIfInBounds_toArray, List.set_cons_zero, List.set_cons_succ]
    refine takeL (i := 7) (v := (.pointer (some ⟨f, 0, none⟩))) rfl (by kernel_rfl) (by kernel_rfl) (by kernel_rfl) (fun _ _ _ h => h) (Or.inl ⟨rfl, fun _ _ => rfl⟩) hq0 ?_
    simp only [Act.put, List.setIfInBounds_toArray, List.set_cons_zero, List.set_cons_succ]
    refine takeL (i := 8) (v := (.pointer (some ⟨f, 2, none⟩))) rfl (by kernel_rfl) (by kernel_rfl) (by kernel_rfl) (fun _ _ _ h => h) (Or.inl ⟨rfl, fun _ _ => rfl⟩) hq0 ?_
    simp only [Act.put, List.setIfInBounds_toArray, List.set_cons_zero, List.set_cons_succ]
    refine takeL (i := 9) (v := _) rfl (by kernel_rfl) (by kernel_rfl) (by kernel_rfl) (fun _ _ _ h => h) (yieldsIf_cell rfl 3 _ rfl ⟨f, 2, none⟩ rfl (.int .i64 age) _ (fun W' hW' => (hW'.cell (p := ⟨f, 2, none⟩) hflw hfnb).trans c2w) Try.underlying3 rfl) hq0 ?_
    simp only [Act.put, List.setIfInBounds_toArray, List.set_cons_zero, List.set_cons_succ]
    refine takeL (i := 10) (v := (.agg #[.int .i64 port, .int .i64 age])) rfl (by kernel_rfl) (by kernel_rfl) (by kernel_rfl) (fun _ _ _ h => h) (Or.inl ⟨rfl, fun W' _ => by go_simp⟩) hq0 ?_
    simp only [Act.put, List.setIfInBounds_toArray, List.set_cons_zero, List.set_cons_succ]
    refine runL (i := 11) rfl rfl (by kernel_rfl) (fun K hK => ?_)
    refine oper_box 60 _ rfl #[.int .i64 port, .int .i64 age] rfl (fun X wb hX hsz hxb hsz2 => ?_)
    have hqb := hq0.trans (hxb.mut (fun n => n = b))
    have hxw := hqx.trans hxb
    refine hK.out _ _ hqb (fun _ => ?_)
    try simp only [Act.put, List.setIfInBounds_toArray, List.set_cons_zero, List.set_cons_succ]
    clear hK K
    refine runL (i := 12) rfl rfl (by kernel_rfl) (fun K hK => ?_)
    have hXn : wx.heap.size ≤ X := by have := hqx.size; omega
    refine oper_mapUpdate _ _ _ 52 rfl 30 57 KK Try.underlying52 b L.length D rfl (owns_ext' HMX.out hxw) (by unfold maxLen; have := HLN.out; omega) _ _ (ku m) rfl rfl HKEY.out (.lit (.int .i64 X)) [] rfl ?_
    intro w6 hm6 ht6
    have hq6 : Mut (fun n => n = b) wx w6 := hqb.thenGrown ht6.grown (fun j hj => .inl (by cases hj; rfl))
    have HEND := Lib.hid (learn_end (L := L) HOK.out HAG.out HMR.out HPR.out HFX.out HMW.out HF.out hxw hX hXn hm6 ht6 HIS.out HLE.out)
    refine hK.out _ _ hq6 (fun _ => ?_)
    try simp only [Act.put, List.setIfInBounds_toArray, List.set_cons_zero, List.set_cons_succ]
    clear hK K hm6 ht6 hX hsz hxb hsz2 hXn
    refine wpAnyH_done (by kernel_rfl) ?_ _
    clear hq6 hqb hxw hq0 hqx c0w c2w hflw hfnb
    go_wp2_with fail
    go_ret
    exact ⟨rfl, HEND.out⟩
  · rw [if_neg hk] at LK0
    have LK := Lib.hid LK0
    have HK := Lib.hid hk
    have LN := Lib.hid (fun (W' : World) (hW' : Ext w W') => show (Builtin.len_ #[52] 3 #[.map (some b)]).run Try.prog W' = .ok (.int .i64 (L.length : Int)) W' from by
      have := (owns_ext' HM.out hW').len Try.underlying52 3
      rw [HFC.out.size HOK.out HM.out] at this
      exact this)
    clear LK0 hk
    by_cases hr : (L.length : Int) < most
    · have dg : decide (most ≤ (L.length : Int)) = false := decide_eq_false (by omega)
      have HLE := Lib.hid (show LearnedP most age m port L (ins (m, port, age) L) from .inl ⟨.inr hr, rfl⟩)
      clear hr
      go_wp2_with fail
      refine beginL (S := fun W' => Ext w W') (by kernel_rfl) ?_
      intro wd hqx
      have hq0 : Ext w wd := hqx
      refine takeL (i := 0) (v := (.pointer (some ⟨f, 0, none⟩))) rfl (by kernel_rfl) (by kernel_rfl) (by kernel_rfl) (fun _ _ _ h => h) (Or.inl ⟨rfl, fun _ _ => rfl⟩) hq0 ?_
      simp only [Act.put, List.setIfInBounds_toArray, List.set_cons_zero, List.set_cons_succ]
      refine takeL (i := 1) (v := (.pointer (some ⟨f, 0, none⟩))) rfl (by kernel_rfl) (by kernel_rfl) (by kernel_rfl) (fun _ _ _ h => h) (Or.inl ⟨rfl, fun _ _ => rfl⟩) hq0 ?_
      simp only [Act.put, List.setIfInBounds_toArray, List.set_cons_zero, List.set_cons_succ]
      refine takeL (i := 2) (v := (.pointer (some ⟨f, 0, none⟩))) rfl (by kernel_rfl) (by kernel_rfl) (by kernel_rfl) (fun _ _ _ h => h) (Or.inl ⟨rfl, fun _ _ => rfl⟩) hq0 ?_
      simp only [Act.put, List.setIfInBounds_toArray, List.set_cons_zero, List.set_cons_succ]
      refine takeL (i := 3) (v := _) rfl (by kernel_rfl) (by kernel_rfl) (by kernel_rfl) (fun _ _ _ h => h) (yieldsIf_cell rfl 52 _ rfl ⟨f, 0, none⟩ rfl (.map (some b)) _ (fun W' hW' => (hW'.cell (p := ⟨f, 0, none⟩) hfl).trans cf) Try.underlying52 rfl) hq0 ?_
      simp only [Act.put, List.setIfInBounds_toArray, List.set_cons_zero, List.set_cons_succ]
      refine takeL (i := 4) (v := (.int .u64 m)) rfl (by kernel_rfl) (by kernel_rfl) (by kernel_rfl) (fun _ _ _ h => h) (Or.inl ⟨rfl, fun _ _ => rfl⟩) hq0 ?_
      simp only [Act.put, List.setIfInBounds_toArray, List.set_cons_zero, List.set_cons_succ]
      refine takeL (i := 5) (v := (.pointer none)) rfl (by kernel_rfl) (by kernel_rfl) (by kernel_rfl) (fun _ _ _ h => h) (Or.inl ⟨rfl, fun W' hW' => by have hrun := LK.out W' hW'; go_simp⟩) hq0 ?_
      simp only [Act.put, List.setIfInBounds_toArray, List.set_cons_zero, List.set_cons_succ]
      refine takeL (i := 6) (v := (.bool true)) rfl (by kernel_rfl) (by kernel_rfl) (by kernel_rfl) (fun _ _ _ h => h) (Or.inl ⟨rfl, fun W' _ => by go_simp⟩) hq0 ?_
      simp only [Act.put, List.setIfInBounds_toArray, List.set_cons_zero, List.set_cons_succ]
      refine takeL (i := 7) (v := (.bool true)) rfl (by kernel_rfl) (by kernel_rfl) (by kernel_rfl) (fun _ _ _ h => h) (Or.inl ⟨rfl, fun _ _ => rfl⟩) hq0 ?_
      simp only [Act.put, List.setIfInBounds_toArray, List.set_cons_zero, List.set_cons_succ]
      refine takeL (i := 8) (v := (.pointer (some ⟨f, 0, none⟩))) rfl (by kernel_rfl) (by kernel_rfl) (by kernel_rfl) (fun _ _ _ h => h) (Or.inl ⟨rfl, fun _ _ => rfl⟩) hq0 ?_
      simp only [Act.put, List.setIfInBounds_toArray, List.set_cons_zero, List.set_cons_succ]
      refine takeL (i := 9) (v := (.pointer (some ⟨f, 0, none⟩))) rfl (by kernel_rfl) (by kernel_rfl) (by kernel_rfl) (fun _ _ _ h => h) (Or.inl ⟨rfl, fun _ _ => rfl⟩) hq0 ?_
      simp only [Act.put, List.setIfInBounds_toArray, List.set_cons_zero, List.set_cons_succ]
      refine takeL (i := 10) (v := (.pointer (some ⟨f, 0, none⟩))) rfl (by kernel_rfl) (by kernel_rfl) (by kernel_rfl) (fun _ _ _ h => h) (Or.inl ⟨rfl, fun _ _ => rfl⟩) hq0 ?_
      simp only [Act.put, List.setIfInBounds_toArray, List.set_cons_zero, List.set_cons_succ]
      refine takeL (i := 11) (v := _) rfl (by kernel_rfl) (by kernel_rfl) (by kernel_rfl) (fun _ _ _ h => h) (yieldsIf_cell rfl 52 _ rfl ⟨f, 0, none⟩ rfl (.map (some b)) _ (fun W' hW' => (hW'.cell (p := ⟨f, 0, none⟩) hfl).trans cf) Try.underlying52 rfl) hq0 ?_
      simp only [Act.put, List.setIfInBounds_toArray, List.set_cons_zero, List.set_cons_succ]
      refine takeL (i := 12) (v := (.int .i64 (L.length : Int))) rfl (by kernel_rfl) (by kernel_rfl) (by kernel_rfl) (fun _ _ _ h => h) (Or.inl ⟨rfl, fun W' hW' => by have hrun := LN.out W' hW'; go_simp⟩) hq0 ?_
      simp only [Act.put, List.setIfInBounds_toArray, List.set_cons_zero, List.set_cons_succ]
      refine takeL (i := 13) (v := (.pointer (some ⟨f, 0, none⟩))) rfl (by kernel_rfl) (by kernel_rfl) (by kernel_rfl) (fun _ _ _ h => h) (Or.inl ⟨rfl, fun _ _ => rfl⟩) hq0 ?_
      simp only [Act.put, List.setIfInBounds_toArray, List.set_cons_zero, List.set_cons_succ]
      refine takeL (i := 14) (v := (.pointer (some ⟨f, 0, none⟩))) rfl (by kernel_rfl) (by kernel_rfl) (by kernel_rfl) (fun _ _ _ h => h) (Or.inl ⟨rfl, fun _ _ => rfl⟩) hq0 ?_
      simp only [Act.put, List.setIfInBounds_toArray, List.set_cons_zero, List.set_cons_succ]
      refine takeL (i := 15) (v := (.pointer (some ⟨f, 1, none⟩))) rfl (by kernel_rfl) (by kernel_rfl) (by kernel_rfl) (fun _ _ _ h => h) (Or.inl ⟨rfl, fun _ _ => rfl⟩) hq0 ?_
      simp only [Act.put, List.setIfInBounds_toArray, List.set_cons_zero, List.set_cons_succ]
      refine takeL (i := 16) (v := _) rfl (by kernel_rfl) (by kernel_rfl) (by kernel_rfl) (fun _ _ _ h => h) (yieldsIf_cell rfl 3 _ rfl ⟨f, 1, none⟩ rfl (.int .i64 most) _ (fun W' hW' => (hW'.cell (p := ⟨f, 1, none⟩) hfl).trans cf1) Try.underlying3 rfl) hq0 ?_
      simp only [Act.put, List.setIfInBounds_toArray, List.set_cons_zero, List.set_cons_succ]
      refine takeL (i := 17) (v := (.bool false)) rfl (by kernel_rfl) (by kernel_rfl) (by kernel_rfl) (fun _ _ _ h => h) (Or.inl ⟨rfl, fun W' _ => by go_simp⟩) hq0 ?_
      simp only [Act.put, List.setIfInBounds_toArray, List.set_cons_zero, List.set_cons_succ]
      refine takeL (i := 18) (v := (.bool false)) rfl (by kernel_rfl) (by kernel_rfl) (by kernel_rfl) (fun _ _ _ h => h) (Or.inl ⟨rfl, fun _ _ => rfl⟩) hq0 ?_
      simp only [Act.put, List.setIfInBounds_toArray, List.set_cons_zero, List.set_cons_succ]
      refine wpAnyH_done (by kernel_rfl) ?_ _
      have hfx : FbC wd F f b D L gb most age := HFC.out.ext (fun k hk _ _ => hq0.block k hk)
      have hmx : wd.ownsMap Try.prog 30 pE b L.length D := owns_ext' HM.out hq0
      have hfF : ∀ k, F k → k < wd.heap.size := fun k hk => Nat.lt_of_lt_of_le (HF.out k hk) hq0.size
      have HFX := Lib.hid hfx
      have HMX := Lib.hid hmx
      have HFx := Lib.hid hfF
      have HMW := Lib.hid (show Mut F w wd from hq0.mut F)
      clear hfx hmx hfF hq0 hqx cf cf1 hfl
      generalize wd = wx at *
      go_wp2_with fail
      have c0w : wx.cell? ⟨f, 0, none⟩ = some (.map (some b)) := by rw [cell_row HFX.out.hf]; rfl
      have c2w : wx.cell? ⟨f, 2, none⟩ = some (.int .i64 age) := by rw [cell_row HFX.out.hf]; rfl
      have hflw := row_lt HFX.out.hf
      have hfnb : ¬ f = b := HFX.out.ne
      refine beginL (S := fun W' => Mut (fun n => n = b) wx W') (by kernel_rfl) ?_
      intro wd hqx
      have hq0 : Mut (fun n => n = b) wx wd := hqx.mut _
      refine takeL (i := 0) (v := (.pointer (some ⟨f, 0, none⟩))) rfl (by kernel_rfl) (by kernel_rfl) (by kernel_rfl) (fun _ _ _ h => h) (Or.inl ⟨rfl, fun _ _ => rfl⟩) hq0 ?_
      simp only [Act.put, List.setIfInBounds_toArray, List.set_cons_zero, List.set_cons_succ]
      refine takeL (i := 1) (v := (.pointer (some ⟨f, 0, none⟩))) rfl (by kernel_rfl) (by kernel_rfl) (by kernel_rfl) (fun _ _ _ h => h) (Or.inl ⟨rfl, fun _ _ => rfl⟩) hq0 ?_
      simp only [Act.put, List.setIfInBounds_toArray, List.set_cons_zero, List.set_cons_succ]
      refine takeL (i := 2) (v := (.pointer (some ⟨f, 0, none⟩))) rfl (by kernel_rfl) (by kernel_rfl) (by kernel_rfl) (fun _ _ _ h => h) (Or.inl ⟨rfl, fun _ _ => rfl⟩) hq0 ?_
      simp only [Act.put, List.setIfInBounds_toArray, List.set_cons_zero, List.set_cons_succ]
      refine takeL (i := 3) (v := _) rfl (by kernel_rfl) (by kernel_rfl) (by kernel_rfl) (fun _ _ _ h => h) (yieldsIf_cell rfl 52 _ rfl ⟨f, 0, none⟩ rfl (.map (some b)) _ (fun W' hW' => (hW'.cell (p := ⟨f, 0, none⟩) hflw hfnb).trans c0w) Try.underlying52 rfl) hq0 ?_
      simp only [Act.put, List.setIfInBounds_toArray, List.set_cons_zero, List.set_cons_succ]
      refine takeL (i := 4) (v := (.int .u64 m)) rfl (by kernel_rfl) (by kernel_rfl) (by kernel_rfl) (fun _ _ _ h => h) (Or.inl ⟨rfl, fun _ _ => rfl⟩) hq0 ?_
      simp only [Act.put, List.setIfInBounds_toArray, List.set_cons_zero, List.set_cons_succ]
      refine takeL (i := 5) (v := (.int .i64 port)) rfl (by kernel_rfl) (by kernel_rfl) (by kernel_rfl) (fun _ _ _ h => h) (Or.inl ⟨rfl, fun _ _ => rfl⟩) hq0 ?_
      simp only [Act.put, List.setIfInBounds_toArray, List.set_cons_zero, List.set_cons_succ]
      refine takeL (i := 6) (v := (.pointer (some ⟨f, 0, none⟩))) rfl (by kernel_rfl) (by kernel_rfl) (by kernel_rfl) (fun _ _ _ h => h) (Or.inl ⟨rfl, fun _ _ => rfl⟩) hq0 ?_
      simp only [Act.put, List.setIfInBounds_toArray, List.set_cons_zero, List.set_cons_succ]
      refine takeL (i := 7) (v := (.pointer (some ⟨f, 0, none⟩))) rfl (by kernel_rfl) (by kernel_rfl) (by kernel_rfl) (fun _ _ _ h => h) (Or.inl ⟨rfl, fun _ _ => rfl⟩) hq0 ?_
      simp only [Act.put, List.setIfInBounds_toArray, List.set_cons_zero, List.set_cons_succ]
      refine takeL (i := 8) (v := (.pointer (some ⟨f, 2, none⟩))) rfl (by kernel_rfl) (by kernel_rfl) (by kernel_rfl) (fun _ _ _ h => h) (Or.inl ⟨rfl, fun _ _ => rfl⟩) hq0 ?_
      simp only [Act.put, List.setIfInBounds_toArray, List.set_cons_zero, List.set_cons_succ]
      refine takeL (i := 9) (v := _) rfl (by kernel_rfl) (by kernel_rfl) (by kernel_rfl) (fun _ _ _ h => h) (yieldsIf_cell rfl 3 _ rfl ⟨f, 2, none⟩ rfl (.int .i64 age) _ (fun W' hW' => (hW'.cell (p := ⟨f, 2, none⟩) hflw hfnb).trans c2w) Try.underlying3 rfl) hq0 ?_
      simp only [Act.put, List.setIfInBounds_toArray, List.set_cons_zero, List.set_cons_succ]
      refine takeL (i := 10) (v := (.agg #[.int .i64 port, .int .i64 age])) rfl (by kernel_rfl) (by kernel_rfl) (by kernel_rfl) (fun _ _ _ h => h) (Or.inl ⟨rfl, fun W' _ => by go_simp⟩) hq0 ?_
      simp only [Act.put, List.setIfInBounds_toArray, List.set_cons_zero, List.set_cons_succ]
      refine runL (i := 11) rfl rfl (by kernel_rfl) (fun K hK => ?_)
      refine oper_box 60 _ rfl #[.int .i64 port, .int .i64 age] rfl (fun X wb hX hsz hxb hsz2 => ?_)
      have hqb := hq0.trans (hxb.mut (fun n => n = b))
      have hxw := hqx.trans hxb
      refine hK.out _ _ hqb (fun _ => ?_)
      try simp only [Act.put, List.setIfInBounds_toArray, List.set_cons_zero, List.set_cons_succ]
      clear hK K
      refine runL (i := 12) rfl rfl (by kernel_rfl) (fun K hK => ?_)
      have hXn : wx.heap.size ≤ X := by have := hqx.size; omega
      refine oper_mapUpdate _ _ _ 52 rfl 30 57 KK Try.underlying52 b L.length D rfl (owns_ext' HMX.out hxw) (by unfold maxLen; have := HLN.out; omega) _ _ (ku m) rfl rfl HKEY.out (.lit (.int .i64 X)) [] rfl ?_
      intro w6 hm6 ht6
      have hq6 : Mut (fun n => n = b) wx w6 := hqb.thenGrown ht6.grown (fun j hj => .inl (by cases hj; rfl))
      have HEND := Lib.hid (learn_end (L := L) HOK.out HAG.out HMR.out HPR.out HFX.out HMW.out HF.out hxw hX hXn hm6 ht6 HIS.out HLE.out)
      refine hK.out _ _ hq6 (fun _ => ?_)
      try simp only [Act.put, List.setIfInBounds_toArray, List.set_cons_zero, List.set_cons_succ]
      clear hK K hm6 ht6 hX hsz hxb hsz2 hXn
      refine wpAnyH_done (by kernel_rfl) ?_ _
      clear hq6 hqb hxw hq0 hqx c0w c2w hflw hfnb
      go_wp2_with fail
      go_ret
      exact ⟨rfl, HEND.out⟩
    · have dg : decide (most ≤ (L.length : Int)) = true := decide_eq_true (by omega)
      have HR := Lib.hid (show most ≤ (L.length : Int) by omega)
      have HNE := Lib.hid (show L ≠ [] by rintro rfl; have := HLN.out; simp at hr; omega)
      clear hr
      go_wp2_with fail
      refine beginL (S := fun W' => Ext w W') (by kernel_rfl) ?_
      intro wd hqx
      have hq0 : Ext w wd := hqx
      refine takeL (i := 0) (v := (.pointer (some ⟨f, 0, none⟩))) rfl (by kernel_rfl) (by kernel_rfl) (by kernel_rfl) (fun _ _ _ h => h) (Or.inl ⟨rfl, fun _ _ => rfl⟩) hq0 ?_
      simp only [Act.put, List.setIfInBounds_toArray, List.set_cons_zero, List.set_cons_succ]
      refine takeL (i := 1) (v := (.pointer (some ⟨f, 0, none⟩))) rfl (by kernel_rfl) (by kernel_rfl) (by kernel_rfl) (fun _ _ _ h => h) (Or.inl ⟨rfl, fun _ _ => rfl⟩) hq0 ?_
      simp only [Act.put, List.setIfInBounds_toArray, List.set_cons_zero, List.set_cons_succ]
      refine takeL (i := 2) (v := (.pointer (some ⟨f, 0, none⟩))) rfl (by kernel_rfl) (by kernel_rfl) (by kernel_rfl) (fun _ _ _ h => h) (Or.inl ⟨rfl, fun _ _ => rfl⟩) hq0 ?_
      simp only [Act.put, List.setIfInBounds_toArray, List.set_cons_zero, List.set_cons_succ]
      refine takeL (i := 3) (v := _) rfl (by kernel_rfl) (by kernel_rfl) (by kernel_rfl) (fun _ _ _ h => h) (yieldsIf_cell rfl 52 _ rfl ⟨f, 0, none⟩ rfl (.map (some b)) _ (fun W' hW' => (hW'.cell (p := ⟨f, 0, none⟩) hfl).trans cf) Try.underlying52 rfl) hq0 ?_
      simp only [Act.put, List.setIfInBounds_toArray, List.set_cons_zero, List.set_cons_succ]
      refine takeL (i := 4) (v := (.int .u64 m)) rfl (by kernel_rfl) (by kernel_rfl) (by kernel_rfl) (fun _ _ _ h => h) (Or.inl ⟨rfl, fun _ _ => rfl⟩) hq0 ?_
      simp only [Act.put, List.setIfInBounds_toArray, List.set_cons_zero, List.set_cons_succ]
      refine takeL (i := 5) (v := (.pointer none)) rfl (by kernel_rfl) (by kernel_rfl) (by kernel_rfl) (fun _ _ _ h => h) (Or.inl ⟨rfl, fun W' hW' => by have hrun := LK.out W' hW'; go_simp⟩) hq0 ?_
      simp only [Act.put, List.setIfInBounds_toArray, List.set_cons_zero, List.set_cons_succ]
      refine takeL (i := 6) (v := (.bool true)) rfl (by kernel_rfl) (by kernel_rfl) (by kernel_rfl) (fun _ _ _ h => h) (Or.inl ⟨rfl, fun W' _ => by go_simp⟩) hq0 ?_
      simp only [Act.put, List.setIfInBounds_toArray, List.set_cons_zero, List.set_cons_succ]
      refine takeL (i := 7) (v := (.bool true)) rfl (by kernel_rfl) (by kernel_rfl) (by kernel_rfl) (fun _ _ _ h => h) (Or.inl ⟨rfl, fun _ _ => rfl⟩) hq0 ?_
      simp only [Act.put, List.setIfInBounds_toArray, List.set_cons_zero, List.set_cons_succ]
      refine takeL (i := 8) (v := (.pointer (some ⟨f, 0, none⟩))) rfl (by kernel_rfl) (by kernel_rfl) (by kernel_rfl) (fun _ _ _ h => h) (Or.inl ⟨rfl, fun _ _ => rfl⟩) hq0 ?_
      simp only [Act.put, List.setIfInBounds_toArray, List.set_cons_zero, List.set_cons_succ]
      refine takeL (i := 9) (v := (.pointer (some ⟨f, 0, none⟩))) rfl (by kernel_rfl) (by kernel_rfl) (by kernel_rfl) (fun _ _ _ h => h) (Or.inl ⟨rfl, fun _ _ => rfl⟩) hq0 ?_
      simp only [Act.put, List.setIfInBounds_toArray, List.set_cons_zero, List.set_cons_succ]
      refine takeL (i := 10) (v := (.pointer (some ⟨f, 0, none⟩))) rfl (by kernel_rfl) (by kernel_rfl) (by kernel_rfl) (fun _ _ _ h => h) (Or.inl ⟨rfl, fun _ _ => rfl⟩) hq0 ?_
      simp only [Act.put, List.setIfInBounds_toArray, List.set_cons_zero, List.set_cons_succ]
      refine takeL (i := 11) (v := _) rfl (by kernel_rfl) (by kernel_rfl) (by kernel_rfl) (fun _ _ _ h => h) (yieldsIf_cell rfl 52 _ rfl ⟨f, 0, none⟩ rfl (.map (some b)) _ (fun W' hW' => (hW'.cell (p := ⟨f, 0, none⟩) hfl).trans cf) Try.underlying52 rfl) hq0 ?_
      simp only [Act.put, List.setIfInBounds_toArray, List.set_cons_zero, List.set_cons_succ]
      refine takeL (i := 12) (v := (.int .i64 (L.length : Int))) rfl (by kernel_rfl) (by kernel_rfl) (by kernel_rfl) (fun _ _ _ h => h) (Or.inl ⟨rfl, fun W' hW' => by have hrun := LN.out W' hW'; go_simp⟩) hq0 ?_
      simp only [Act.put, List.setIfInBounds_toArray, List.set_cons_zero, List.set_cons_succ]
      refine takeL (i := 13) (v := (.pointer (some ⟨f, 0, none⟩))) rfl (by kernel_rfl) (by kernel_rfl) (by kernel_rfl) (fun _ _ _ h => h) (Or.inl ⟨rfl, fun _ _ => rfl⟩) hq0 ?_
      simp only [Act.put, List.setIfInBounds_toArray, List.set_cons_zero, List.set_cons_succ]
      refine takeL (i := 14) (v := (.pointer (some ⟨f, 0, none⟩))) rfl (by kernel_rfl) (by kernel_rfl) (by kernel_rfl) (fun _ _ _ h => h) (Or.inl ⟨rfl, fun _ _ => rfl⟩) hq0 ?_
      simp only [Act.put, List.setIfInBounds_toArray, List.set_cons_zero, List.set_cons_succ]
      refine takeL (i := 15) (v := (.pointer (some ⟨f, 1, none⟩))) rfl (by kernel_rfl) (by kernel_rfl) (by kernel_rfl) (fun _ _ _ h => h) (Or.inl ⟨rfl, fun _ _ => rfl⟩) hq0 ?_
      simp only [Act.put, List.setIfInBounds_toArray, List.set_cons_zero, List.set_cons_succ]
      refine takeL (i := 16) (v := _) rfl (by kernel_rfl) (by kernel_rfl) (by kernel_rfl) (fun _ _ _ h => h) (yieldsIf_cell rfl 3 _ rfl ⟨f, 1, none⟩ rfl (.int .i64 most) _ (fun W' hW' => (hW'.cell (p := ⟨f, 1, none⟩) hfl).trans cf1) Try.underlying3 rfl) hq0 ?_
      simp only [Act.put, List.setIfInBounds_toArray, List.set_cons_zero, List.set_cons_succ]
      refine takeL (i := 17) (v := (.bool true)) rfl (by kernel_rfl) (by kernel_rfl) (by kernel_rfl) (fun _ _ _ h => h) (Or.inl ⟨rfl, fun W' _ => by go_simp⟩) hq0 ?_
      simp only [Act.put, List.setIfInBounds_toArray, List.set_cons_zero, List.set_cons_succ]
      refine takeL (i := 18) (v := (.bool true)) rfl (by kernel_rfl) (by kernel_rfl) (by kernel_rfl) (fun _ _ _ h => h) (Or.inl ⟨rfl, fun _ _ => rfl⟩) hq0 ?_
      simp only [Act.put, List.setIfInBounds_toArray, List.set_cons_zero, List.set_cons_succ]
      refine wpAnyH_done (by kernel_rfl) ?_ _
      have hfx : FbC wd F f b D L gb most age := HFC.out.ext (fun k hk _ _ => hq0.block k hk)
      have hmx : wd.ownsMap Try.prog 30 pE b L.length D := owns_ext' HM.out hq0
      have hfF : ∀ k, F k → k < wd.heap.size := fun k hk => Nat.lt_of_lt_of_le (HF.out k hk) hq0.size
      have HFX := Lib.hid hfx
      have HMX := Lib.hid hmx
      have HFx := Lib.hid hfF
      have HMW := Lib.hid (show Mut F w wd from hq0.mut F)
      clear hfx hmx hfF hq0 hqx cf cf1 hfl
      generalize wd = wx at *
      go_wp2_with fail
      have c0w : wx.cell? ⟨f, 0, none⟩ = some (.map (some b)) := by rw [cell_row HFX.out.hf]; rfl
      have hflw := row_lt HFX.out.hf
      have hfnb : ¬ f = b := HFX.out.ne
      refine beginL (S := fun W' => Mut (fun n => n = b) wx W') (by kernel_rfl) ?_
      intro wd hqx
      have hq0 : Mut (fun n => n = b) wx wd := hqx.mut _
      refine takeL (i := 0) (v := (.pointer (some ⟨f, 0, none⟩))) rfl (by kernel_rfl) (by kernel_rfl) (by kernel_rfl) (fun _ _ _ h => h) (Or.inl ⟨rfl, fun _ _ => rfl⟩) hq0 ?_
      simp only [Act.put, List.setIfInBounds_toArray, List.set_cons_zero, List.set_cons_succ]
      refine takeL (i := 1) (v := (.pointer (some ⟨f, 0, none⟩))) rfl (by kernel_rfl) (by kernel_rfl) (by kernel_rfl) (fun _ _ _ h => h) (Or.inl ⟨rfl, fun _ _ => rfl⟩) hq0 ?_
      simp only [Act.put, List.setIfInBounds_toArray, List.set_cons_zero, List.set_cons_succ]
      refine takeL (i := 2) (v := (.pointer (some ⟨f, 0, none⟩))) rfl (by kernel_rfl) (by kernel_rfl) (by kernel_rfl) (fun _ _ _ h => h) (Or.inl ⟨rfl, fun _ _ => rfl⟩) hq0 ?_
      simp only [Act.put, List.setIfInBounds_toArray, List.set_cons_zero, List.set_cons_succ]
      refine takeL (i := 3) (v := _) rfl (by kernel_rfl) (by kernel_rfl) (by kernel_rfl) (fun _ _ _ h => h) (yieldsIf_cell rfl 52 _ rfl ⟨f, 0, none⟩ rfl (.map (some b)) _ (fun W' hW' => (hW'.cell (p := ⟨f, 0, none⟩) hflw hfnb).trans c0w) Try.underlying52 rfl) hq0 ?_
      simp only [Act.put, List.setIfInBounds_toArray, List.set_cons_zero, List.set_cons_succ]
      refine takeL (i := 4) (v := (.pointer (some ⟨f, 0, none⟩))) rfl (by kernel_rfl) (by kernel_rfl) (by kernel_rfl) (fun _ _ _ h => h) (Or.inl ⟨rfl, fun _ _ => rfl⟩) hq0 ?_
      simp only [Act.put, List.setIfInBounds_toArray, List.set_cons_zero, List.set_cons_succ]
      refine runL (i := 5) rfl rfl (by kernel_rfl) (fun K hK => ?_)
      go_simp
      refine (shortest_at wx wd F f b L.length D L gb most age HFX.out HOK.out HAG2.out HMX.out HFx.out HNE.out hqx).mono ?_
      rintro e wc1 ⟨y, ⟨e0, he0, hy, hall⟩, rfl, hx⟩
      have hq1 := hq0.trans (hx.mut _)
      refine hK.out _ _ hq1 (fun hHeld => ?_)
      try simp only [Act.put, List.setIfInBounds_toArray, List.set_cons_zero, List.set_cons_succ]
      clear hK K hHeld
      subst hy
      have hkey2 : keyOf Try.prog 30 (.int .u64 e0.1) = some (ku e0.1) := Maps.keyOf_int_mk Try.underlying30 (wfk HOK.out he0)
      refine runL (i := 6) rfl rfl (by kernel_rfl) (fun K hK => ?_)
      refine oper_delete _ _ 52 30 rfl 57 KK Try.underlying52 b L.length D rfl (owns_ext' HMX.out (hqx.trans hx)) _ _ rfl hkey2 ?_
      intro w3 hm3 ht3
      have hq3 : Mut (fun n => n = b) wx w3 := hq1.thenGrown ht3.grown (fun j hj => .inl (by cases hj; rfl))
      refine hK.out _ _ hq3 (fun _ => ?_)
      try simp only [Act.put, List.setIfInBounds_toArray, List.set_cons_zero, List.set_cons_succ]
      clear hK K
      refine wpAnyH_done (by kernel_rfl) ?_ _
      have hfc3 : FbC w3 F f b (D.del (ku e0.1)) (upd e0.1 0 L) gb most age := FbC.set_sec HFX.out he0 (fun e he hk => HOK.out.uni he he0 hk) (by rw [if_pos (by decide)]) (fun h => absurd h (by decide)) (fun k hk _ hkb => hq3.heap hk hkb)
      have hok3 : Ok age (upd e0.1 0 L) := ⟨fm_rises (setSec_keeps _ _) HOK.out.1, fun e' he' => by
        obtain ⟨e, he, q1, q2, q3⟩ := upd_mem he'
        rcases q3 with ⟨_, h0, _⟩ | ⟨_, rfl⟩
        · omega
        · exact HOK.out.2 _ he⟩
      have HFC3 := Lib.hid hfc3
      have HOK3 := Lib.hid hok3
      have HM3 := Lib.hid hm3
      have HQ3 := Lib.hid (show Mut F w w3 from HMW.out.trans (hq3.mono (fun k _ hk => by cases hk; exact HFX.out.fF.2)))
      have HE0 := Lib.hid (And.intro he0 hall)
      clear hfc3 hok3 hm3 ht3 hq3 he0 hall hkey2 c0w hflw hfnb hq0 hqx hx
      go_wp2_with fail
      have c0w : w3.cell? ⟨f, 0, none⟩ = some (.map (some b)) := by rw [cell_row HFC3.out.hf]; rfl
      have c2w : w3.cell? ⟨f, 2, none⟩ = some (.int .i64 age) := by rw [cell_row HFC3.out.hf]; rfl
      have hflw := row_lt HFC3.out.hf
      have hfnb : ¬ f = b := HFC3.out.ne
      refine beginL (S := fun W' => Mut (fun n => n = b) w3 W') (by kernel_rfl) ?_
      intro wd hqx
      have hq0 : Mut (fun n => n = b) w3 wd := hqx.mut _
      refine takeL (i := 0) (v := (.pointer (some ⟨f, 0, none⟩))) rfl (by kernel_rfl) (by kernel_rfl) (by kernel_rfl) (fun _ _ _ h => h) (Or.inl ⟨rfl, fun _ _ => rfl⟩) hq0 ?_
      simp only [Act.put, List.setIfInBounds_toArray, List.set_cons_zero, List.set_cons_succ]
      refine takeL (i := 1) (v := (.pointer (some ⟨f, 0, none⟩))) rfl (by kernel_rfl) (by kernel_rfl) (by kernel_rfl) (fun _ _ _ h => h) (Or.inl ⟨rfl, fun _ _ => rfl⟩) hq0 ?_
      simp only [Act.put, List.setIfInBounds_toArray, List.set_cons_zero, List.set_cons_succ]
      refine takeL (i := 2) (v := (.pointer (some ⟨f, 0, none⟩))) rfl (by kernel_rfl) (by kernel_rfl) (by kernel_rfl) (fun _ _ _ h => h) (Or.inl ⟨rfl, fun _ _ => rfl⟩) hq0 ?_
      simp only [Act.put, List.setIfInBounds_toArray, List.set_cons_zero, List.set_cons_succ]
      refine takeL (i := 3) (v := _) rfl (by kernel_rfl) (by kernel_rfl) (by kernel_rfl) (fun _ _ _ h => h) (yieldsIf_cell rfl 52 _ rfl ⟨f, 0, none⟩ rfl (.map (some b)) _ (fun W' hW' => (hW'.cell (p := ⟨f, 0, none⟩) hflw hfnb).trans c0w) Try.underlying52 rfl) hq0 ?_
      simp only [Act.put, List.setIfInBounds_toArray, List.set_cons_zero, List.set_cons_succ]
      refine takeL (i := 4) (v := (.int .u64 m)) rfl (by kernel_rfl) (by kernel_rfl) (by kernel_rfl) (fun _ _ _ h => h) (Or.inl ⟨rfl, fun _ _ => rfl⟩) hq0 ?_
      simp only [Act.put, List.setIfInBounds_toArray, List.set_cons_zero, List.set_cons_succ]
      refine takeL (i := 5) (v := (.int .i64 port)) rfl (by kernel_rfl) (by kernel_rfl) (by kernel_rfl) (fun _ _ _ h => h) (Or.inl ⟨rfl, fun _ _ => rfl⟩) hq0 ?_
      simp only [Act.put, List.setIfInBounds_toArray, List.set_cons_zero, List.set_cons_succ]
      refine takeL (i := 6) (v := (.pointer (some ⟨f, 0, none⟩))) rfl (by kernel_rfl) (by kernel_rfl) (by kernel_rfl) (fun _ _ _ h => h) (Or.inl ⟨rfl, fun _ _ => rfl⟩) hq0 ?_
      simp only [Act.put, List.setIfInBounds_toArray, List.set_cons_zero, List.set_cons_succ]
      refine takeL (i := 7) (v := (.pointer (some ⟨f, 0, none⟩))) rfl (by kernel_rfl) (by kernel_rfl) (by kernel_rfl) (fun _ _ _ h => h) (Or.inl ⟨rfl, fun _ _ => rfl⟩) hq0 ?_
      simp only [Act.put, List.setIfInBounds_toArray, List.set_cons_zero, List.set_cons_succ]
      refine takeL (i := 8) (v := (.pointer (some ⟨f, 2, none⟩))) rfl (by kernel_rfl) (by kernel_rfl) (by kernel_rfl) (fun _ _ _ h => h) (Or.inl ⟨rfl, fun _ _ => rfl⟩) hq0 ?_
      simp only [Act.put, List.setIfInBounds_toArray, List.set_cons_zero, List.set_cons_succ]
      refine takeL (i := 9) (v := _) rfl (by kernel_rfl) (by kernel_rfl) (by kernel_rfl) (fun _ _ _ h => h) (yieldsIf_cell rfl 3 _ rfl ⟨f, 2, none⟩ rfl (.int .i64 age) _ (fun W' hW' => (hW'.cell (p := ⟨f, 2, none⟩) hflw hfnb).trans c2w) Try.underlying3 rfl) hq0 ?_
      simp only [Act.put, List.setIfInBounds_toArray, List.set_cons_zero, List.set_cons_succ]
      refine takeL (i := 10) (v := (.agg #[.int .i64 port, .int .i64 age])) rfl (by kernel_rfl) (by kernel_rfl) (by kernel_rfl) (fun _ _ _ h => h) (Or.inl ⟨rfl, fun W' _ => by go_simp⟩) hq0 ?_
      simp only [Act.put, List.setIfInBounds_toArray, List.set_cons_zero, List.set_cons_succ]
      refine runL (i := 11) rfl rfl (by kernel_rfl) (fun K hK => ?_)
      refine oper_box 60 _ rfl #[.int .i64 port, .int .i64 age] rfl (fun X wb hX hsz hxb hsz2 => ?_)
      have hqb := hq0.trans (hxb.mut (fun n => n = b))
      have hxw := hqx.trans hxb
      refine hK.out _ _ hqb (fun _ => ?_)
      try simp only [Act.put, List.setIfInBounds_toArray, List.set_cons_zero, List.set_cons_succ]
      clear hK K
      refine runL (i := 12) rfl rfl (by kernel_rfl) (fun K hK => ?_)
      have hXn : w3.heap.size ≤ X := by have := hqx.size; omega
      refine oper_mapUpdate _ _ _ 52 rfl 30 57 KK Try.underlying52 b L.length (D.del (ku e0.1)) rfl (owns_ext' HM3.out hxw) (by unfold maxLen; have := HLN.out; omega) _ _ (ku m) rfl rfl HKEY.out (.lit (.int .i64 X)) [] rfl ?_
      intro w6 hm6 ht6
      have hq6 : Mut (fun n => n = b) w3 w6 := hqb.thenGrown ht6.grown (fun j hj => .inl (by cases hj; rfl))
      have HEND := Lib.hid (learn_end (L := L) HOK3.out HAG.out HMR.out HPR.out HFC3.out HQ3.out HF.out hxw hX hXn hm6 ht6 (HIS3.out _) (.inr ⟨HK.out, HR.out, e0, HE0.out.1, HE0.out.2, rfl⟩))
      refine hK.out _ _ hq6 (fun _ => ?_)
      try simp only [Act.put, List.setIfInBounds_toArray, List.set_cons_zero, List.set_cons_succ]
      clear hK K hm6 ht6 hX hsz hxb hsz2 hXn
      refine wpAnyH_done (by kernel_rfl) ?_ _
      clear hq6 hqb hxw hq0 hqx c0w c2w hflw hfnb
      go_wp2_with fail
      go_ret
      exact ⟨rfl, HEND.out⟩

end Go.Proofs.Ytheackckmhbodaa
