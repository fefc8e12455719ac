/- The library's sort: choosePivot. No statement is proved here. -/
import Derived.Test.YtheackckmhbodaaSoE
import Derived.Sort.LotD4
namespace Go.Proofs.Ytheackckmhbodaa
open Go.RowKit Go.BigFrame Go.WideShapes Go.ChangeShapes Go.Deep
set_option linter.unusedVariables false
set_option linter.unusedSimpArgs false
set_option maxRecDepth 100000

set_option maxRecDepth 100000 in
set_option maxHeartbeats 2000000 in
theorem meda_any (w : World) (g n cap q : Nat) (l : List Int) (s a : Nat) (ha0 : 1 ≤ a) (ha : a + 1 < n) (hn : n ≤ 1000) (hs : s ≤ 90) (h : Nums w g l) (hl : l.length = n) (hq : Cnt w q s) (hqg : q ≠ g) :
    Calls Try.prog 55 #[(.slice (some ⟨g, 0, none⟩) n cap), .int .i64 a, .pointer (some ⟨q, 0, none⟩)] w (MedP w q (Go.Sort.medianAdjacent ltI l.toArray a s)) := by
  obtain ⟨b, hb⟩ : ∃ b, b + 1 = a := ⟨a - 1, by omega⟩
  obtain ⟨c, hc⟩ : ∃ c, a + 1 = c := ⟨_, rfl⟩
  have hw1 : IntKind.i64.wrap ((a : Int) - 1) = (b : Int) := by rw [IntKind.wrap_i64]; omega
  have hw2 : IntKind.i64.wrap ((a : Int) + 1) = (c : Int) := by rw [IntKind.wrap_i64]; omega
  have H1 := Lib.hid (med_any w g n cap q l s b a c (by omega) (by omega) (by omega) hn hs h hl hq hqg)
  have HE := Lib.hid (show Go.Sort.medianAdjacent ltI l.toArray a s = Go.Sort.median ltI l.toArray b a c s from by
    unfold Go.Sort.medianAdjacent
    rw [show a - 1 = b by omega, hc])
  clear h hq hb hc
  go_enter Try.func55, Try.ntmps55
  go_wp2_with fail
  refine H1.out.mono ?_
  rintro e w1 ⟨x, s', rfl, he, hq1, hm1⟩
  have HX := Lib.hid he
  have HQ1 := Lib.hid hq1
  have HM1 := Lib.hid hm1
  clear he hq1 hm1
  go_wp2_with fail
  go_ret
  exact ⟨x, s', rfl, by rw [HE.out, HX.out], HQ1.out, HM1.out⟩
theorem wrapn {x : Nat} (h : x ≤ 100000) : IntKind.i64.wrap (x : Int) = x := by rw [IntKind.wrap_i64]; omega
theorem w64q {m q : Nat} (h : m ≤ 500) (e : m / 4 = q) : RowKit.wrap64 ((m : Int) / 4) = (q : Int) := by unfold RowKit.wrap64; omega
/-- A new variable of one cell: its world is a letter. -/
theorem al_one {P : Program} {ops : Array Oper} {rest : List Oper} {op : Oper} {a : Act} {w : World} {Q : Exit → Act → World → Prop} (hgd : op.guard = none) (ty : TypeId) (ho : op.op = .alloc ty)
    (kd : IntKind) (z : Int) (hz : ∀ w, (zeroValue ty).run P w = .ok (.int kd z) w) (h : ∀ (X : Nat) (w' : World), w'.heap[X]? = some (.cells #[.int kd z] ty (0, 0)) → w.heap.size = X → Ext w w' → wpList P ops Q rest (a.put op.dst (.pointer (some ⟨X, 0, none⟩))) w') : wpList P ops Q (op :: rest) a w :=
  wpList_plain hgd fun K hK => by
    unfold Oper.wp execOp
    simp only [ho, Instr.alloc, newVar, newRow, Sem.run_bind, hz, Result.andThen_ok]
    go_simp
    exact hK _ _ (h _ _ (heap_alloc_new _ _) rfl ((Ext.refl w).alloc _))
/-- choosePivot's answer. -/
def hintN : Go.Sort.Hint → Int
  | .unknown => 0
  | .increasing => 1
  | .decreasing => 2
def PickP (w : World) (r : Nat × Go.Sort.Hint) (e : Ending) (w' : World) : Prop := ∃ (x : Nat) (h : Go.Sort.Hint), e = .returned (.tuple #[.int .i64 x, .int .i64 (hintN h)]) ∧ r = (x, h) ∧ Ext w w'
set_option maxRecDepth 100000 in
set_option maxHeartbeats 2000000 in
theorem pick_any (w : World) (g n cap : Nat) (l : List Int) (a b : Nat) (hab : a + 12 < b) (hb : b ≤ n) (hn : n ≤ 500) (h : Nums w g l) (hl : l.length = n) :
    Calls Try.prog 44 #[(.slice (some ⟨g, 0, none⟩) n cap), .int .i64 a, .int .i64 b] w (PickP w (Go.Sort.choosePivot ltI l.toArray a b)) := by
  have NU := Lib.hid h
  obtain ⟨m, hm⟩ : ∃ m, b - a = m := ⟨_, rfl⟩
  obtain ⟨q4, hq4⟩ : ∃ q, m / 4 = q := ⟨_, rfl⟩
  obtain ⟨i, hi⟩ : ∃ i, a + q4 = i := ⟨_, rfl⟩
  obtain ⟨q2, hq2⟩ : ∃ q, q4 * 2 = q := ⟨_, rfl⟩
  obtain ⟨q3, hq3⟩ : ∃ q, q4 * 3 = q := ⟨_, rfl⟩
  obtain ⟨j, hj⟩ : ∃ j, a + q2 = j := ⟨_, rfl⟩
  obtain ⟨k, hk⟩ : ∃ k, a + q3 = k := ⟨_, rfl⟩
  have hb1 : 1 ≤ i := by omega
  have hb2 : i + 1 < j := by omega
  have hb3 : j + 1 < k := by omega
  have hb4 : k + 1 < n := by omega
  have hb5 : 8 ≤ m := by omega
  have hb6 : m ≤ 500 := by omega
  have HA := Lib.hid (show i = a + m / 4 * 1 from by omega)
  have HB := Lib.hid (show j = a + m / 4 * 2 from by omega)
  have HC := Lib.hid (show k = a + m / 4 * 3 from by omega)
  have HM := Lib.hid hm
  have g1 : (a : Int) + (m : Int) / 4 = (i : Nat) := by omega
  have g2 : (a : Int) + (m : Int) / 4 * 2 = (j : Nat) := by omega
  have g3 : (a : Int) + (m : Int) / 4 * 3 = (k : Nat) := by omega
  have g4 : (b : Int) - (a : Int) = (m : Nat) := by omega
  have hw1 : IntKind.i64.wrap ((b : Int) - (a : Int)) = (m : Int) := (congrArg IntKind.i64.wrap g4).trans (wrapn (by omega))
  have G1 := Lib.hid g1
  have G2 := Lib.hid g2
  have G3 := Lib.hid g3
  clear g1 g2 g3 g4
  clear h hm hq4 hi hq2 hq3 hj hk
  go_enter Try.func44, Try.ntmps44
  go_upto_region 6 with (first
    | fail
    | ((with_reducible refine at_alloc 3 ?_); refine al_one rfl 3 rfl .i64 0 (fun _ => rfl) ?_
       intro q w1 hq0 hsz hx1))
  rw [G1.out, G2.out, G3.out]
  clear hw1
  have hqg : q ≠ g := by have := NU.out.lt; omega
  have HX1 := Lib.hid hx1
  have HSZ := Lib.hid hsz
  have NU1 := Lib.hid (NU.out.ext hx1)
  have HQ0 := Lib.hid (show Cnt w1 q 0 from hq0)
  have keep : ∀ (w2 : World), Mut (fun k => k = q) w1 w2 → Nums w2 g l := fun w2 hm => by
    have hnn := NU1.out
    have hlt := hnn.lt
    obtain ⟨cur, e1, e2⟩ := hnn
    exact ⟨cur, (hm.heap hlt (fun hc => hqg (show g = q from hc).symm)).trans e1, e2⟩
  have KEEP := Lib.hid keep
  have fin : ∀ (x s : Nat) (r : Nat × Nat), r = (x, s) → Go.Sort.choosePivot ltI l.toArray a b = (r.1, if r.2 = 0 then .increasing else if r.2 = 12 then .decreasing else .unknown) → ∀ w2, Mut (fun k => k = q) w1 w2 → PickP w (Go.Sort.choosePivot ltI l.toArray a b) (.returned (.tuple #[.int .i64 (x : Nat), .int .i64 (if s = 0 then 1 else if s = 12 then 2 else 0)])) w2 := by
    intro x s r hr he w2 hm
    subst hr
    refine ⟨x, if s = 0 then .increasing else if s = 12 then .decreasing else .unknown, ?_, he, Ext.mutE HX1.out hm (fun k hk hF => by have h2 : k = q := hF; have := HSZ.out; omega)⟩
    split
    · rfl
    · split <;> rfl
  have FIN := Lib.hid fin
  clear hq0 hsz hx1 keep fin
  have d8 : decide ((8 : Int) ≤ (m : Int)) = true := by simp; omega
  have d8b : decide ((m : Int) ≥ (8 : Int)) = true := by simp; omega
  by_cases h50 : 50 ≤ m
  · have d50 : decide ((50 : Int) ≤ (m : Int)) = true := by simp; omega
    have d50b : decide ((m : Int) ≥ (50 : Int)) = true := by simp; omega
    go_wp2_with fail
    refine (meda_any w1 g n cap q l 0 i (by omega) (by omega) (by omega) (by omega) NU1.out hl HQ0.out hqg).mono ?_
    rintro e w2 ⟨x1, s1, rfl, he, hq, hm⟩
    have hc21 := Go.Sort.medianAdjacent_count (lt := ltI) l.toArray i 0
    have hb31 := Go.Sort.medianAdjacent_mem ltI l.toArray i 0
    rw [he] at hc21 hb31
    dsimp only at hc21 hb31
    have E1 := Lib.hid he
    have HQ1 := Lib.hid (show Cnt w2 q s1 from hq)
    have HM1 := Lib.hid ((Mut.refl _ w1).trans hm)
    have NU2 := Lib.hid (KEEP.out _ HM1.out)
    clear he hq hm
    go_wp2_with fail
    refine (meda_any w2 g n cap q l s1 j (by omega) (by omega) (by omega) (by omega) NU2.out hl HQ1.out hqg).mono ?_
    rintro e w3 ⟨x2, s2, rfl, he, hq, hm⟩
    have hc22 := Go.Sort.medianAdjacent_count (lt := ltI) l.toArray j s1
    have hb32 := Go.Sort.medianAdjacent_mem ltI l.toArray j s1
    rw [he] at hc22 hb32
    dsimp only at hc22 hb32
    have E2 := Lib.hid he
    have HQ2 := Lib.hid (show Cnt w3 q s2 from hq)
    have HM2 := Lib.hid ((HM1.out).trans hm)
    have NU3 := Lib.hid (KEEP.out _ HM2.out)
    clear he hq hm
    go_wp2_with fail
    refine (meda_any w3 g n cap q l s2 k (by omega) (by omega) (by omega) (by omega) NU3.out hl HQ2.out hqg).mono ?_
    rintro e w4 ⟨x3, s3, rfl, he, hq, hm⟩
    have hc23 := Go.Sort.medianAdjacent_count (lt := ltI) l.toArray k s2
    have hb33 := Go.Sort.medianAdjacent_mem ltI l.toArray k s2
    rw [he] at hc23 hb33
    dsimp only at hc23 hb33
    have E3 := Lib.hid he
    have HQ3 := Lib.hid (show Cnt w4 q s3 from hq)
    have HM3 := Lib.hid ((HM2.out).trans hm)
    have NU4 := Lib.hid (KEEP.out _ HM3.out)
    clear he hq hm
    go_wp2_with fail
    have HD := Lib.hid (show Go.Sort.choosePivot ltI l.toArray a b = ((Go.Sort.median ltI l.toArray x1 x2 x3 s3).1, if (Go.Sort.median ltI l.toArray x1 x2 x3 s3).2 = 0 then .increasing else if (Go.Sort.median ltI l.toArray x1 x2 x3 s3).2 = 12 then .decreasing else .unknown) from by
      unfold Go.Sort.choosePivot
      dsimp only
      rw [HM.out, ← HA.out, ← HB.out, ← HC.out, if_pos hb5, if_pos h50, E1.out]
      dsimp only
      rw [E2.out]
      dsimp only
      rw [E3.out])
    clear E1 E2 E3
    have hm9 := HM3.out
    refine (med_any w4 g n cap q l s3 x1 x2 x3 (by omega) (by omega) (by omega) (by omega) (by omega) NU4.out hl HQ3.out hqg).mono ?_
    rintro e w9 ⟨x, s, rfl, he, hq, hm⟩
    have FX := Lib.hid (FIN.out x s _ he HD.out w9 (hm9.trans hm))
    have cq : w9.cell? ⟨q, 0, none⟩ = some (.int .i64 s) := by rw [cell_row hq]; rfl
    clear he hq hm hm9 HD
    by_cases hs0 : s = 0
    · subst hs0
      go_wp2_with fail
      go_ret2
      exact FX.out
    · by_cases hs1 : s = 12
      · subst hs1
        go_wp2_with fail
        go_ret2
        exact FX.out
      · have g0 : ((s : Int) == 0) = false := by simp; omega
        have g1 : ((s : Int) == 12) = false := by simp; omega
        have g2 : decide ((s : Int) = 0) = false := by simp; omega
        have g3 : decide ((s : Int) = 12) = false := by simp; omega
        rw [if_neg hs0, if_neg hs1] at FX
        go_wp2_with fail
        go_ret2
        exact FX.out
  · have d50 : decide ((50 : Int) ≤ (m : Int)) = false := by simp; omega
    have d50b : decide ((m : Int) ≥ (50 : Int)) = false := by simp; omega
    go_wp2_with fail
    have HD := Lib.hid (show Go.Sort.choosePivot ltI l.toArray a b = ((Go.Sort.median ltI l.toArray i j k 0).1, if (Go.Sort.median ltI l.toArray i j k 0).2 = 0 then .increasing else if (Go.Sort.median ltI l.toArray i j k 0).2 = 12 then .decreasing else .unknown) from by
      unfold Go.Sort.choosePivot
      dsimp only
      rw [HM.out, ← HA.out, ← HB.out, ← HC.out, if_pos hb5, if_neg h50])
    have hm9 := Mut.refl (fun k => k = q) w1
    refine (med_any w1 g n cap q l 0 i j k (by omega) (by omega) (by omega) (by omega) (by omega) NU1.out hl HQ0.out hqg).mono ?_
    rintro e w9 ⟨x, s, rfl, he, hq, hm⟩
    have FX := Lib.hid (FIN.out x s _ he HD.out w9 (hm9.trans hm))
    have cq : w9.cell? ⟨q, 0, none⟩ = some (.int .i64 s) := by rw [cell_row hq]; rfl
    clear he hq hm hm9 HD
    by_cases hs0 : s = 0
    · subst hs0
      go_wp2_with fail
      go_ret2
      exact FX.out
    · by_cases hs1 : s = 12
      · subst hs1
        go_wp2_with fail
        go_ret2
        exact FX.out
      · have g0 : ((s : Int) == 0) = false := by simp; omega
        have g1 : ((s : Int) == 12) = false := by simp; omega
        have g2 : decide ((s : Int) = 0) = false := by simp; omega
        have g3 : decide ((s : Int) = 12) = false := by simp; omega
        rw [if_neg hs0, if_neg hs1] at FX
        go_wp2_with fail
        go_ret2
        exact FX.out

end Go.Proofs.Ytheackckmhbodaa
