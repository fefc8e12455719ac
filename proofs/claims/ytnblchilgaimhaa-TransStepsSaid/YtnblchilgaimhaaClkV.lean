/- AllSynced, ReRooted by the document. No statement is proved here. -/
import Derived.Test.YtnblchilgaimhaaClkC
namespace Go.Proofs.Ytnblchilgaimhaa
open Go.RowKit Go.BigFrame Go.WideShapes Go.ChangeShapes Go.Deep
set_option linter.unusedVariables false
set_option linter.unusedSimpArgs false

set_option maxRecDepth 100000 in
set_option maxHeartbeats 2000000 in
theorem dallsynced_any (c : Array Value) (B : Br) (w : World) (hb : BrC w c B) (ho : B.ok) : Calls Try.prog 29 #[.agg c] w (Tells w (AllSyn B)) := by
  obtain ⟨s1, s2, s3, hz, hhd, c17, c18, c19, r1, -, -⟩ := hb.facts ho.hd.1
  obtain ⟨a1, k1, rfl, m1, hrow⟩ := r1.form
  have HR := Lib.hid hrow
  clear hz hhd hb r1 hrow c18 c19
  have hzp := zero_port
  go_enter Try.func29, Try.ntmps29
  go_wp2_with fail
  go_loopw [3] (fun i wr => ∃ j : Nat, j ≤ B.np ∧ i = .int .i64 j ∧ Ext (w.alloc (.cells c 33)) wr ∧ Hid (∀ k, k < j → syncP B k = true)) (fun i _ => B.np - (intOf i).toNat)
  case atStart => exact ⟨0, by omega, rfl, Ext.refl _, Lib.hid (fun k hk => by omega)⟩
  case round =>
    obtain ⟨j, hj, rfl, hxr, hall⟩ := hrel
    have hbx := box_cell hxr
    by_cases hlt : j < B.np
    · obtain ⟨b, off, rfl, hb, hlc, hcm, hc⟩ := HR.out (by omega)
      have hrw := rangeAt_ext (rangeAt_ext hc ((Ext.refl w).alloc (.cells c 33)) hb) hxr (by simp; omega)
      have hpr := Lib.hid (port_range hrw j)
      have hpt := Lib.hid (port_typed ho hlt)
      have q44 := (port_at (B := B) (k := j) (j := 44) (by decide)).trans (ho.gb hlt 44 rfl)
      have q87 := (port_at (B := B) (k := j) (j := 87) (by decide)).trans (ho.gi hlt 87 rfl)
      have q88 := (port_at (B := B) (k := j) (j := 88) (by decide)).trans (ho.gi hlt 88 rfl)
      have q47 := (port_at (B := B) (k := j) (j := 47) (by decide)).trans (ho.gb hlt 47 rfl)
      have HF := Lib.hid (show syncP B j = syncB (B.gb j 44) (B.gi j 87) (B.gi j 88) (B.gb j 47) from rfl)
      obtain ⟨p, hp⟩ : ∃ p, port B.ps j = p := ⟨_, rfl⟩
      rw [hp] at hpr hpt q44 q87 q88 q47
      clear hp hc hrw
      generalize B.gb j 44 = s at *
      generalize B.gi j 87 = r at *
      generalize B.gi j 88 = q at *
      generalize B.gb j 47 = y at *
      have hpz := Lib.hid (show (Try.prog.info? 53).map (·.size) = some p.length by rw [hpt.out.1]; exact size_port)
      have hps := Lib.hid (show (Try.prog.info? 53).map (·.size) = some p.toArray.size by rw [List.size_toArray]; exact hpz.out)
      have hpl := Lib.hid (show PZ.size = p.toArray.size by rw [size_PZ, List.size_toArray]; exact hpt.out.1.symm)
      have hpo := Lib.hid (all_oneCell_toArray hpt.out.one)
      have HX := Lib.hid (show ∀ o : Obj, Ext (w.alloc (.cells c 33)) (wr.alloc o) from fun o => hxr.alloc o)
      clear hxr
      have next : syncP B j = true → ∀ k, k < j + 1 → syncP B k = true := fun h k hk => by
        by_cases e : k = j
        · subst e; exact h
        · exact hall.out k (by omega)
      have NX := Lib.hid next
      clear next
      have stop : ∀ (o : Obj), syncP B j = false → Tells w (AllSyn B) (.returned (.bool false)) (wr.alloc o) := fun o h => ⟨false, rfl, ((Ext.refl w).alloc _).trans (HX.out o), ⟨(fun h => by cases h), (fun h' => by rw [h' j hlt] at h; cases h)⟩⟩
      have ST := Lib.hid stop
      clear stop
      cases s
      · go_wp2_with (first | fail | ((with_reducible refine at_load 53 ?_); refine wpList_load_mid rfl 53 _ rfl b (off + j * 89) rfl p _ hpr.out Try.underlying53 rfl hpz.out ?_) | ((with_reducible refine at_store 53 ?_); refine wpList_store_new rfl 53 _ _ rfl PZ p.toArray rfl rfl hps.out hpl.out hpo.out ?_))
        all_goals
          go_ret
          exact ST.out _ (by rw [HF.out]; simp [syncB])
      · by_cases hrq : r = q
        · subst hrq
          by_cases h3 : r = 3
          · subst h3
            go_wp2_with (first | fail | ((with_reducible refine at_load 53 ?_); refine wpList_load_mid rfl 53 _ rfl b (off + j * 89) rfl p _ hpr.out Try.underlying53 rfl hpz.out ?_) | ((with_reducible refine at_store 53 ?_); refine wpList_store_new rfl 53 _ _ rfl PZ p.toArray rfl rfl hps.out hpl.out hpo.out ?_))
            all_goals
              go_roundw
              case rel => exact ⟨j + 1, by omega, by go_num, HX.out _, Lib.hid (NX.out (by rw [HF.out]; simp [syncB]))⟩
              case measure => simp [intOf]; omega
          · have h3b : (r != 3) = true := by simpa using h3
            cases y
            · go_wp2_with (first | fail | ((with_reducible refine at_load 53 ?_); refine wpList_load_mid rfl 53 _ rfl b (off + j * 89) rfl p _ hpr.out Try.underlying53 rfl hpz.out ?_) | ((with_reducible refine at_store 53 ?_); refine wpList_store_new rfl 53 _ _ rfl PZ p.toArray rfl rfl hps.out hpl.out hpo.out ?_))
              all_goals
                go_ret
                exact ST.out _ (by rw [HF.out]; simp [syncB, h3])
            · go_wp2_with (first | fail | ((with_reducible refine at_load 53 ?_); refine wpList_load_mid rfl 53 _ rfl b (off + j * 89) rfl p _ hpr.out Try.underlying53 rfl hpz.out ?_) | ((with_reducible refine at_store 53 ?_); refine wpList_store_new rfl 53 _ _ rfl PZ p.toArray rfl rfl hps.out hpl.out hpo.out ?_))
              all_goals
                go_roundw
                case rel => exact ⟨j + 1, by omega, by go_num, HX.out _, Lib.hid (NX.out (by rw [HF.out]; simp [syncB]))⟩
                case measure => simp [intOf]; omega
        · have hrb : (r != q) = true := by simpa using hrq
          go_wp2_with (first | fail | ((with_reducible refine at_load 53 ?_); refine wpList_load_mid rfl 53 _ rfl b (off + j * 89) rfl p _ hpr.out Try.underlying53 rfl hpz.out ?_) | ((with_reducible refine at_store 53 ?_); refine wpList_store_new rfl 53 _ _ rfl PZ p.toArray rfl rfl hps.out hpl.out hpo.out ?_))
          all_goals
            go_ret
            exact ST.out _ (by rw [HF.out]; simp [syncB, hrq])
    · go_wp2_with fail
      go_ret
      exact ⟨true, rfl, ((Ext.refl w).alloc _).trans hxr, ⟨fun _ => fun k hk => hall.out k (by omega), fun _ => rfl⟩⟩

/-- The sum of what all ports but one have. -/
def rrSum (B : Br) (i : Int) : Nat → Int
  | 0 => 0
  | n + 1 => if (n : Int) ≠ i then rrSum B i n + B.gi n 12 else rrSum B i n
theorem rrSum_rg (B : Br) (i : Int) (h : ∀ k, k < B.np → 0 ≤ B.gi k 12 ∧ B.gi k 12 ≤ 1000) : ∀ n, n ≤ B.np → 0 ≤ rrSum B i n ∧ rrSum B i n ≤ 1000 * n ∧ (rrSum B i n = 0 ↔ ∀ k : Nat, k < n → (k : Int) ≠ i → B.gi k 12 = 0)
  | 0, _ => ⟨Int.le_refl _, Int.le_refl _, ⟨fun _ k hk => by omega, fun _ => rfl⟩⟩
  | n + 1, hn => by
    obtain ⟨h1, h2, h3⟩ := rrSum_rg B i h n (by omega)
    have hb := h n (by omega)
    unfold rrSum
    by_cases e : (n : Int) ≠ i
    · rw [if_pos e]
      refine ⟨by omega, by omega, ⟨fun hz k hk hne => ?_, fun hz => ?_⟩⟩
      · by_cases ek : k = n
        · subst ek; omega
        · exact h3.1 (by omega) k (by omega) hne
      · have := h3.2 (fun k hk hne => hz k (by omega) hne)
        have := hz n (by omega) e
        omega
    · rw [if_neg e]
      refine ⟨h1, by omega, ⟨fun hz k hk hne => ?_, fun hz => h3.2 (fun k hk hne => hz k (by omega) hne)⟩⟩
      by_cases ek : k = n
      · subst ek; exact absurd hne e
      · exact h3.1 hz k (by omega) hne

set_option maxRecDepth 100000 in
set_option maxHeartbeats 1000000 in
theorem drerooted_any (c : Array Value) (B : Br) (i : Int) (w : World) (hb : BrC w c B) (ho : B.ok) (hn : B.np ≤ 1000) (hrg : ∀ k, k < B.np → 0 ≤ B.gi k 12 ∧ B.gi k 12 ≤ 1000) : Calls Try.prog 31 #[.agg c, .int .i64 i] w (Tells w (ReR B i)) := by
  obtain ⟨s1, s2, s3, hz, hhd, c17, c18, c19, r1, -, -⟩ := hb.facts ho.hd.1
  obtain ⟨a1, k1, rfl, m1, hrow⟩ := r1.form
  have HR := Lib.hid hrow
  clear hz hhd hb r1 hrow c18 c19
  have RG := Lib.hid (rrSum_rg B i hrg)
  clear hrg
  go_enter Try.func31, Try.ntmps31
  go_wp2_with fail
  go_loopw [5, 6] (fun s v wr => ∃ j : Nat, j ≤ B.np ∧ v = .int .i64 j ∧ s = .int .i64 (rrSum B i j) ∧ Ext (w.alloc (.cells c 33)) wr) (fun _ v _ => B.np - (intOf v).toNat)
  case atStart => exact ⟨0, by omega, rfl, rfl, Ext.refl _⟩
  case round =>
    obtain ⟨j, hj, rfl, rfl, hxr⟩ := hrel
    have hbx := box_cell hxr
    obtain ⟨r1, r2, -⟩ := RG.out j hj
    by_cases hlt : j < B.np
    · obtain ⟨b, off, rfl, hb, hlc, hcm, hc⟩ := HR.out (by omega)
      have hrw := rangeAt_ext (rangeAt_ext hc ((Ext.refl w).alloc (.cells c 33)) hb) hxr (by simp; omega)
      have p12 := (port_range hrw j 12 _ ((port_at (B := B) (k := j) (j := 12) (by decide)).trans (ho.gi hlt 12 rfl)))
      have HXR := Lib.hid hxr
      obtain ⟨r3, r4, -⟩ := RG.out (j + 1) (by omega)
      have HS := Lib.hid (show rrSum B i (j + 1) = if (j : Int) ≠ i then rrSum B i j + B.gi j 12 else rrSum B i j from rfl)
      clear hrw hxr hc
      by_cases hji : (j : Int) = i
      · have hb1 : ((j : Int) != i) = false := by simpa using hji
        have HJ := Lib.hid hji
        have e1 := Lib.hid (show rrSum B i (j + 1) = rrSum B i j by rw [HS.out, if_neg (by simpa using hji)])
        clear hji r3 r4
        obtain ⟨z, hz⟩ : ∃ z, rrSum B i j = z := ⟨_, rfl⟩
        rw [hz] at r1 r2 e1 ⊢
        clear hz
        go_wp2_with fail
        go_roundw
        case rel => exact ⟨j + 1, by omega, by go_num, by rw [e1.out], HXR.out⟩
        case measure => simp [intOf]; omega
      · have hb1 : ((j : Int) != i) = true := by simpa using hji
        have e1 := Lib.hid (show rrSum B i (j + 1) = rrSum B i j + B.gi j 12 by rw [HS.out, if_pos (by simpa using hji)])
        clear hji
        rw [e1.out] at r3 r4
        obtain ⟨z, hz⟩ : ∃ z, rrSum B i j = z := ⟨_, rfl⟩
        obtain ⟨y, hy⟩ : ∃ y, B.gi j 12 = y := ⟨_, rfl⟩
        rw [hy] at p12 r3 r4 e1
        rw [hz] at r1 r2 r3 r4 e1 ⊢
        clear hz hy
        have r5 : z + y ≤ 9223372036854775807 := by omega
        have r6 : -9223372036854775808 ≤ z + y := by omega
        go_wp2_with fail
        go_roundw
        case rel => exact ⟨j + 1, by omega, by go_num, by rw [e1.out], HXR.out⟩
        case measure => simp [intOf]; omega
    · obtain rfl : j = B.np := by omega
      obtain ⟨-, -, r7⟩ := RG.out B.np (Nat.le_refl _)
      have R7 := Lib.hid r7
      clear r7
      obtain ⟨z, hz⟩ : ∃ z, rrSum B i B.np = z := ⟨_, rfl⟩
      rw [hz] at r1 r2 R7 ⊢
      clear hz
      go_wp2_with fail
      go_ret
      exact ⟨(z == 0), rfl, ((Ext.refl w).alloc _).trans hxr, by rw [beq_iff_eq]; exact R7.out⟩

end Go.Proofs.Ytnblchilgaimhaa
