/- The library's sort, function by function. No statement is proved here. -/
import Derived.Test.YtheackckmhbodaaFdU
import Derived.Test.YtheackckmhbodaaFdF
import Derived.Test.YtheackckmhbodaaBoxO
import Derived.Sort.AssemblyPlain
namespace Go.Proofs.Ytheackckmhbodaa
open Go.RowKit Go.BigFrame Go.WideShapes Go.ChangeShapes Go.Deep
set_option linter.unusedVariables false
set_option linter.unusedSimpArgs false
set_option maxRecDepth 100000

abbrev ltI : Int → Int → Bool := Go.Sort.ltInt
theorem arr_at (l : List Int) {i : Nat} (h : i < l.length) : l.toArray[i]! = at0 l i := by
  simp [at0, List.getD, h]
def O2P (w : World) (q : Nat) (r : Nat × Nat × Nat) (e : Ending) (w' : World) : Prop := ∃ x y s', e = .returned (.tuple #[.int .i64 (x : Nat), .int .i64 (y : Nat)]) ∧ r = (x, y, s') ∧ w'.heap[q]? = some (.cells #[.int .i64 ((s' : Nat) : Int)] 3 (0, 0)) ∧ Mut (fun k => k = q) w w'
def MedP (w : World) (q : Nat) (r : Nat × Nat) (e : Ending) (w' : World) : Prop := ∃ x s', e = .returned (.int .i64 (x : Nat)) ∧ r = (x, s') ∧ w'.heap[q]? = some (.cells #[.int .i64 ((s' : Nat) : Int)] 3 (0, 0)) ∧ Mut (fun k => k = q) w w'
def Cnt (w : World) (q : Nat) (s : Nat) : Prop := w.heap[q]? = some (.cells #[.int .i64 s] 3 (0, 0))
set_option maxRecDepth 100000 in
set_option maxHeartbeats 2000000 in
theorem o2_any (w : World) (g n cap q : Nat) (l : List Int) (s a b : Nat) (ha : a < n) (hb : b < n) (hn : n ≤ 1000) (hs : s ≤ 100) (h : Nums w g l) (hl : l.length = n) (hq : Cnt w q s) :
    Calls Try.prog 58 #[(.slice (some ⟨g, 0, none⟩) n cap), .int .i64 a, .int .i64 b, .pointer (some ⟨q, 0, none⟩)] w (O2P w q (Go.Sort.order2 ltI l.toArray a b s)) := by
  have NU := Lib.hid h
  have HQ := Lib.hid hq
  obtain ⟨va, hva⟩ : ∃ v, at0 l a = v := ⟨_, rfl⟩
  obtain ⟨vb, hvb⟩ : ∃ v, at0 l b = v := ⟨_, rfl⟩
  have HDF := Lib.hid (show Go.Sort.order2 ltI l.toArray a b s = if decide (vb < va) then (b, a, s + 1) else (a, b, s) by
    unfold Go.Sort.order2
    rw [arr_at l (by omega), arr_at l (by omega), hva, hvb]
    rfl)
  have hup : IntKind.i64.wrap ((s : Int) + 1) = ((s + 1 : Nat) : Int) := by rw [IntKind.wrap_i64]; omega
  clear h hq
  go_enter Try.func58, Try.ntmps58
  go_wp2_with fail
  refine beginL (S := fun W' => Ext w W') (by kernel_rfl) ?_
  intro wd hqx
  have hq0 : Ext w wd := hqx
  refine takeL (i := 0) (v := (.slice (some ⟨g, 0, none⟩) n cap)) rfl (by kernel_rfl) (by kernel_rfl) (by kernel_rfl) (fun _ _ _ h => h) (Or.inl ⟨rfl, fun _ _ => rfl⟩) hq0 ?_
  simp only [Act.put, List.setIfInBounds_toArray, List.set_cons_zero, List.set_cons_succ]
  refine takeL (i := 1) (v := (.int .i64 (b : Int))) rfl (by kernel_rfl) (by kernel_rfl) (by kernel_rfl) (fun _ _ _ h => h) (Or.inl ⟨rfl, fun _ _ => rfl⟩) hq0 ?_
  simp only [Act.put, List.setIfInBounds_toArray, List.set_cons_zero, List.set_cons_succ]
  refine takeL (i := 2) (v := (.pointer (some ⟨g, b, none⟩))) rfl (by kernel_rfl) (by kernel_rfl) (by kernel_rfl) (fun _ _ _ h => h) (Or.inl ⟨rfl, fun W' _ => by go_simp <;> (intro h; omega)⟩) hq0 ?_
  simp only [Act.put, List.setIfInBounds_toArray, List.set_cons_zero, List.set_cons_succ]
  refine takeL (i := 3) (v := _) rfl (by kernel_rfl) (by kernel_rfl) (by kernel_rfl) (fun _ _ _ h => h) (yieldsIf_cell rfl 30 _ rfl ⟨g, b, none⟩ rfl (.int .u64 vb) _ (fun W' hW' => (show W'.cell? ⟨g, b, none⟩ = _ from (NU.out.ext hW').cell (by omega)).trans (by rw [hvb])) Try.underlying30 rfl) hq0 ?_
  simp only [Act.put, List.setIfInBounds_toArray, List.set_cons_zero, List.set_cons_succ]
  refine takeL (i := 4) (v := (.slice (some ⟨g, 0, none⟩) n cap)) rfl (by kernel_rfl) (by kernel_rfl) (by kernel_rfl) (fun _ _ _ h => h) (Or.inl ⟨rfl, fun _ _ => rfl⟩) hq0 ?_
  simp only [Act.put, List.setIfInBounds_toArray, List.set_cons_zero, List.set_cons_succ]
  refine takeL (i := 5) (v := (.int .i64 (a : Int))) rfl (by kernel_rfl) (by kernel_rfl) (by kernel_rfl) (fun _ _ _ h => h) (Or.inl ⟨rfl, fun _ _ => rfl⟩) hq0 ?_
  simp only [Act.put, List.setIfInBounds_toArray, List.set_cons_zero, List.set_cons_succ]
  refine takeL (i := 6) (v := (.pointer (some ⟨g, a, none⟩))) rfl (by kernel_rfl) (by kernel_rfl) (by kernel_rfl) (fun _ _ _ h => h) (Or.inl ⟨rfl, fun W' _ => by go_simp <;> (intro h; omega)⟩) hq0 ?_
  simp only [Act.put, List.setIfInBounds_toArray, List.set_cons_zero, List.set_cons_succ]
  refine takeL (i := 7) (v := _) rfl (by kernel_rfl) (by kernel_rfl) (by kernel_rfl) (fun _ _ _ h => h) (yieldsIf_cell rfl 30 _ rfl ⟨g, a, none⟩ rfl (.int .u64 va) _ (fun W' hW' => (show W'.cell? ⟨g, a, none⟩ = _ from (NU.out.ext hW').cell (by omega)).trans (by rw [hva])) Try.underlying30 rfl) hq0 ?_
  simp only [Act.put, List.setIfInBounds_toArray, List.set_cons_zero, List.set_cons_succ]
  refine runL (i := 8) rfl rfl (by kernel_rfl) (fun K hK => ?_)
  go_simp
  refine (less_ext vb va _).mono ?_
  rintro e wc1 ⟨rfl, hx⟩
  have hq1 := hq0.trans hx
  refine hK.out _ _ hq1 (fun hHeld => ?_)
  try simp only [Act.put, List.setIfInBounds_toArray, List.set_cons_zero, List.set_cons_succ]
  clear hK K hHeld
  refine wpAnyH_done (by kernel_rfl) ?_ _
  have HX := Lib.hid hq1
  clear hq0 hqx hq1
  obtain ⟨d, hd⟩ : ∃ d, decide (vb < va) = d := ⟨_, rfl⟩
  rw [hd] at HDF ⊢
  have hq1 : (wc1).heap[q]? = some (.cells #[.int .i64 s] 3 (0, 0)) := (HX.out.block q (heap_lt HQ.out)).trans HQ.out
  have cq : (wc1).cell? ⟨q, 0, none⟩ = some (.int .i64 s) := by rw [cell_row hq1]; rfl
  cases d with
  | false =>
    clear hd
    go_wp2_with fail
    go_ret2
    exact ⟨a, b, s, rfl, HDF.out, hq1, HX.out.mut _⟩
  | true =>
    clear hd
    go_wp2_with (first
      | fail
      | ((with_reducible refine at_store 3 ?_); refine st_at rfl rfl 3 _ _ rfl q 0 _ #[.int .i64 ((s : Int) + 1)] #[.int .i64 s] #[.int .i64 ((s : Int) + 1)] 3 rfl rfl rfl hq1 (by exact (by decide : 0 + 1 ≤ 1)) (by kernel_rfl) rfl rfl ?_
         intro w5 hq5 hm5))
    go_ret2
    exact ⟨b, a, s + 1, rfl, HDF.out, hq5, (HX.out.mut _).trans hm5⟩
set_option maxRecDepth 100000 in
set_option maxHeartbeats 2000000 in
theorem med_any (w : World) (g n cap q : Nat) (l : List Int) (s a b c : Nat) (ha : a < n) (hb : b < n) (hc : c < n) (hn : n ≤ 1000) (hs : s ≤ 90) (h : Nums w g l) (hl : l.length = n) (hq : Cnt w q s) (hqg : q ≠ g) :
    Calls Try.prog 56 #[(.slice (some ⟨g, 0, none⟩) n cap), .int .i64 a, .int .i64 b, .int .i64 c, .pointer (some ⟨q, 0, none⟩)] w (MedP w q (Go.Sort.median ltI l.toArray a b c s)) := by
  have NU := Lib.hid h
  have HQ := Lib.hid hq
  have o2 : ∀ (a b s : Nat) x y s', Go.Sort.order2 ltI l.toArray a b s = (x, y, s') → ((x = a ∧ y = b) ∨ (x = b ∧ y = a)) ∧ s' ≤ s + 1 := fun a b s x y s' h => by
    unfold Go.Sort.order2 at h
    split at h <;> injection h with h1 h2 <;> injection h2 with h2 h3 <;> omega
  have keep : ∀ (w1 w2 : World), Nums w1 g l → Mut (fun k => k = q) w1 w2 → Nums w2 g l := fun w1 w2 hn hm => by
    have hlt := hn.lt
    obtain ⟨cur, e1, e2⟩ := hn
    exact ⟨cur, (hm.heap hlt (fun hc => hqg (show g = q from hc).symm)).trans e1, e2⟩
  have KEEP := Lib.hid keep
  have O2 := Lib.hid o2
  clear h hq o2 keep
  go_enter Try.func56, Try.ntmps56
  go_wp2_with fail
  refine (o2_any w g n cap q l s a b ha hb hn (by omega) NU.out hl HQ.out).mono ?_
  rintro e w1 ⟨x1, y1, s1, rfl, he1, hq1, hm1⟩
  have HE1 := Lib.hid he1
  have hb1 := O2.out _ _ _ _ _ _ he1
  have HQ1 := Lib.hid hq1
  have HM1 := Lib.hid hm1
  have NU1 := Lib.hid (KEEP.out _ _ NU.out hm1)
  clear he1 hq1 hm1
  go_wp2_with fail
  refine (o2_any w1 g n cap q l s1 y1 c (by omega) hc hn (by omega) NU1.out hl HQ1.out).mono ?_
  rintro e w2 ⟨x2, y2, s2, rfl, he2, hq2, hm2⟩
  have HE2 := Lib.hid he2
  have hb2 := O2.out _ _ _ _ _ _ he2
  have HQ2 := Lib.hid hq2
  have HM2 := Lib.hid (HM1.out.trans hm2)
  have NU2 := Lib.hid (KEEP.out _ _ NU1.out hm2)
  clear he2 hq2 hm2
  go_wp2_with fail
  refine (o2_any w2 g n cap q l s2 x1 x2 (by omega) (by omega) hn (by omega) NU2.out hl HQ2.out).mono ?_
  rintro e w3 ⟨x3, y3, s3, rfl, he3, hq3, hm3⟩
  have HE3 := Lib.hid he3
  have HQ3 := Lib.hid hq3
  have HM3 := Lib.hid (HM2.out.trans hm3)
  clear he3 hq3 hm3
  go_wp2_with fail
  go_ret
  refine ⟨y3, s3, rfl, ?_, HQ3.out, HM3.out⟩
  unfold Go.Sort.median
  dsimp only
  rw [HE1.out]
  dsimp only
  rw [HE2.out]
  dsimp only
  rw [HE3.out]

end Go.Proofs.Ytheackckmhbodaa
