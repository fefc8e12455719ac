/- Whether a bridge may be: the contracts of Right and Few. No statement is proved here. -/
import Derived.Test.YtemmfbedchfekaaBrF
import Derived.Test.YtemmfbedchfekaaBrAq
namespace Go.Proofs.Ytemmfbedchfekaa
open Go.RowKit Go.WideShapes Go.ChangeShapes Go.Deep
set_option linter.unusedVariables false
set_option linter.unusedSimpArgs false
set_option maxRecDepth 100000

/-- The answer of a look: yes just if R. -/
def Tells (w : World) (R : Prop) (e : Ending) (w' : World) : Prop := ∃ f : Bool, e = .returned (.bool f) ∧ Ext w w' ∧ (f = true ↔ R)

def TR (a m h d : Int) : Prop := 0 ≤ a ∧ a ≤ 255 ∧ 6 ≤ m ∧ m ≤ 40 ∧ 1 ≤ h ∧ h ≤ 10 ∧ 4 ≤ d ∧ d ≤ 30 ∧ m ≤ 2 * (d - 1) ∧ 2 * (h + 1) ≤ m
def TF (a m h d : Int) : Prop := 0 ≤ a ∧ a ≤ 65535 ∧ 0 ≤ m ∧ m ≤ 65535 ∧ 0 ≤ h ∧ h ≤ 65535 ∧ 0 ≤ d ∧ d ≤ 65535

theorem tright_any (a m h d : Int) (w : World) : Calls Try.prog 38 #[.agg #[.int .i64 a, .int .i64 m, .int .i64 h, .int .i64 d]] w (Tells w (TR a m h d)) := by
  go_enter Try.func38, Try.ntmps38
  go_wp2
  all_goals (go_ret; refine ⟨_, rfl, (Ext.refl w).alloc _, ?_⟩; unfold TR)
  all_goals first
    | (simp; omega)
    | skip

theorem tfew_any (a m h d : Int) (w : World) : Calls Try.prog 39 #[.agg #[.int .i64 a, .int .i64 m, .int .i64 h, .int .i64 d]] w (Tells w (TF a m h d)) := by
  go_enter Try.func39, Try.ntmps39
  go_wp2
  all_goals (go_ret; refine ⟨_, rfl, (Ext.refl w).alloc _, ?_⟩; unfold TF)
  all_goals first
    | (simp; omega)
    | skip

def HdR (B : Br) : Prop := TR (B.hi 2) (B.hi 3) (B.hi 4) (B.hi 5) ∧ TF (B.hi 13) (B.hi 14) (B.hi 15) (B.hi 16) ∧ B.hi 2 = 0 ∧ 1 ≤ B.hi 6 ∧ B.hi 6 ≤ 10 ∧ B.np ≤ 32 ∧ -1 ≤ B.hi 12 ∧ B.hi 12 < B.np
def ClkR (B : Br) (k : Nat) : Prop := ∀ j, j < 9 → 0 ≤ B.gi k (6 + j) ∧ B.gi k (6 + j) ≤ 1000
def PortR (B : Br) (k : Nat) : Prop := ClkR B k ∧ TF (B.gi k 78) (B.gi k 79) (B.gi k 80) (B.gi k 81) ∧ TF (B.gi k 82) (B.gi k 83) (B.gi k 84) (B.gi k 85) ∧ TF (B.gi k 64) (B.gi k 65) (B.gi k 66) (B.gi k 67)
/-- A bridge that may be. -/
def RightP (B : Br) : Prop := HdR B ∧ ∀ k, k < B.np → PortR B k

set_option maxRecDepth 100000 in
set_option maxHeartbeats 3000000 in
theorem right_any (c : Array Value) (B : Br) (w : World) (hb : BrC w c B) (ho : B.ok) : Calls Try.prog 23 #[.agg c] w (Tells w (RightP B)) := by
  obtain ⟨s1, s2, s3, hz, hhd, c17, c18, c19, r1, -, -⟩ := hb.facts ho.hd.1
  obtain ⟨a1, k1, rfl, m1, hrow⟩ := r1.form
  have HR := Lib.hid hrow
  have HHD := Lib.hid hhd
  have h2 := (hhd 2 (by decide)).trans (ho.hi 2 rfl)
  have h3 := (hhd 3 (by decide)).trans (ho.hi 3 rfl)
  have h4 := (hhd 4 (by decide)).trans (ho.hi 4 rfl)
  have h5 := (hhd 5 (by decide)).trans (ho.hi 5 rfl)
  have h6 := (hhd 6 (by decide)).trans (ho.hi 6 rfl)
  have h12 := (hhd 12 (by decide)).trans (ho.hi 12 rfl)
  have h13 := (hhd 13 (by decide)).trans (ho.hi 13 rfl)
  have h14 := (hhd 14 (by decide)).trans (ho.hi 14 rfl)
  have h15 := (hhd 15 (by decide)).trans (ho.hi 15 rfl)
  have h16 := (hhd 16 (by decide)).trans (ho.hi 16 rfl)
  clear hz hhd hb r1 hrow c18 c19
  have hzp := zero_port
  go_enter Try.func23, Try.ntmps23
  go_wp2_with fail
  refine (tright_any _ _ _ _ _).mono ?_
  rintro e w1 ⟨f, rfl, hx1, hf⟩
  have hbx1 := box_cell hx1
  have HF := Lib.hid hf
  clear hf
  go_wp2_with fail
  refine (tfew_any _ _ _ _ _).mono ?_
  rintro e w2 ⟨g, rfl, hx2, hg⟩
  have hx3 := hx1.trans hx2
  have hbx2 := box_cell hx3
  have HG := Lib.hid hg
  clear hg hbx1 hx1 hx2
  go_wp2_with fail
  all_goals first
    | (go_ret
       refine ⟨false, rfl, ((Ext.refl w).alloc _).trans hx3, ⟨(fun h => by cases h), (fun h => ?_)⟩⟩
       obtain ⟨⟨ht, hg', e⟩, -⟩ := h
       first
         | exact absurd (HF.out.2 ht) ‹_›
         | exact absurd (HG.out.2 hg') ‹_›
         | omega)
    | skip
  have HH : Hid (HdR B) := Lib.hid ⟨HF.out.1 ‹_›, HG.out.1 ‹_›, by omega, by omega, by omega, by omega, by omega, by omega⟩
  clear HF HG h2 h3 h4 h5 h6 h12 h13 h14 h15 h16
  go_loopw [5] (fun i wr => ∃ j : Nat, j ≤ B.np ∧ i = .int .i64 j ∧ Ext (w.alloc (.cells c 33)) wr ∧ Hid (∀ k, k < j → PortR B k)) (fun i _ => B.np - (intOf i).toNat)
  case atStart => exact ⟨0, by omega, rfl, hx3, Lib.hid (fun k hk => by omega)⟩
  case round =>
    clear hx3 hbx2
    obtain ⟨j, hj, rfl, hxr, hall⟩ := hrel
    have hbx := box_cell hxr
    by_cases hlt : j < B.np
    · obtain ⟨b, off, rfl, hb, hlc, hcm, hc⟩ := HR.out (by omega)
      have hpr := Lib.hid (port_range (rangeAt_ext (rangeAt_ext hc ((Ext.refl w).alloc _) hb) hxr (by simp; omega)) j)
      have hpt := Lib.hid (port_typed ho hlt)
      have p6 := (port_at (B := B) (k := j) (j := 6) (by decide)).trans (ho.gi hlt 6 rfl)
      have p7 := (port_at (B := B) (k := j) (j := 7) (by decide)).trans (ho.gi hlt 7 rfl)
      have p8 := (port_at (B := B) (k := j) (j := 8) (by decide)).trans (ho.gi hlt 8 rfl)
      have p9 := (port_at (B := B) (k := j) (j := 9) (by decide)).trans (ho.gi hlt 9 rfl)
      have p10 := (port_at (B := B) (k := j) (j := 10) (by decide)).trans (ho.gi hlt 10 rfl)
      have p11 := (port_at (B := B) (k := j) (j := 11) (by decide)).trans (ho.gi hlt 11 rfl)
      have p12 := (port_at (B := B) (k := j) (j := 12) (by decide)).trans (ho.gi hlt 12 rfl)
      have p13 := (port_at (B := B) (k := j) (j := 13) (by decide)).trans (ho.gi hlt 13 rfl)
      have p14 := (port_at (B := B) (k := j) (j := 14) (by decide)).trans (ho.gi hlt 14 rfl)
      have q78 := Lib.hid ((port_at (B := B) (k := j) (j := 78) (by decide)).trans (ho.gi hlt 78 rfl))
      have q79 := Lib.hid ((port_at (B := B) (k := j) (j := 79) (by decide)).trans (ho.gi hlt 79 rfl))
      have q80 := Lib.hid ((port_at (B := B) (k := j) (j := 80) (by decide)).trans (ho.gi hlt 80 rfl))
      have q81 := Lib.hid ((port_at (B := B) (k := j) (j := 81) (by decide)).trans (ho.gi hlt 81 rfl))
      have q82 := Lib.hid ((port_at (B := B) (k := j) (j := 82) (by decide)).trans (ho.gi hlt 82 rfl))
      have q83 := Lib.hid ((port_at (B := B) (k := j) (j := 83) (by decide)).trans (ho.gi hlt 83 rfl))
      have q84 := Lib.hid ((port_at (B := B) (k := j) (j := 84) (by decide)).trans (ho.gi hlt 84 rfl))
      have q85 := Lib.hid ((port_at (B := B) (k := j) (j := 85) (by decide)).trans (ho.gi hlt 85 rfl))
      have q64 := Lib.hid ((port_at (B := B) (k := j) (j := 64) (by decide)).trans (ho.gi hlt 64 rfl))
      have q65 := Lib.hid ((port_at (B := B) (k := j) (j := 65) (by decide)).trans (ho.gi hlt 65 rfl))
      have q66 := Lib.hid ((port_at (B := B) (k := j) (j := 66) (by decide)).trans (ho.gi hlt 66 rfl))
      have q67 := Lib.hid ((port_at (B := B) (k := j) (j := 67) (by decide)).trans (ho.gi hlt 67 rfl))
      obtain ⟨p, hp⟩ : ∃ p, port B.ps j = p := ⟨_, rfl⟩
      rw [hp] at hpr hpt p6 p7 p8 p9 p10 p11 p12 p13 p14 q78 q79 q80 q81 q82 q83 q84 q85 q64 q65 q66 q67
      have hpz := Lib.hid (show (Try.prog.info? 69).map (·.size) = some p.length by rw [hpt.out.1]; exact size_port)
      clear hc hp
      have hps := Lib.hid (show (Try.prog.info? 69).map (·.size) = some p.toArray.size by rw [List.size_toArray]; exact hpz.out)
      have hpl := Lib.hid (show PZ.size = p.toArray.size by rw [size_PZ, List.size_toArray]; exact hpt.out.1.symm)
      have hpo := Lib.hid (all_oneCell_toArray hpt.out.one)
      go_wp2_with (first | fail | ((with_reducible refine at_load 69 ?_); refine wpList_load_mid rfl 69 _ rfl b (off + j * 89) rfl p _ hpr.out Try.underlying69 rfl hpz.out ?_) | ((with_reducible refine at_store 69 ?_); refine wpList_store_new rfl 69 _ _ rfl PZ p.toArray rfl rfl hps.out hpl.out hpo.out ?_))
      have hk9 : Hid (∀ k, k < 9 → [Value.int .i64 (B.gi j 6), Value.int .i64 (B.gi j 7), Value.int .i64 (B.gi j 8), Value.int .i64 (B.gi j 9), Value.int .i64 (B.gi j 10), Value.int .i64 (B.gi j 11), Value.int .i64 (B.gi j 12), Value.int .i64 (B.gi j 13), Value.int .i64 (B.gi j 14)][k]? = some (.int .i64 (B.gi j (6 + k)))) := Lib.hid (fun k hk =>
        match k, hk with
        | 0, _ => rfl | 1, _ => rfl | 2, _ => rfl | 3, _ => rfl | 4, _ => rfl | 5, _ => rfl | 6, _ => rfl | 7, _ => rfl | 8, _ => rfl)
      have hx9 : Hid (Ext (w.alloc (.cells c 33)) (((wr.alloc (.cells p.toArray 69)).alloc (.cells #[.int .i64 (B.gi j 6), .int .i64 (B.gi j 7), .int .i64 (B.gi j 8), .int .i64 (B.gi j 9), .int .i64 (B.gi j 10), .int .i64 (B.gi j 11), .int .i64 (B.gi j 12), .int .i64 (B.gi j 13), .int .i64 (B.gi j 14)] 61)).alloc (.cells #[.int .i64 (B.gi j 6), .int .i64 (B.gi j 7), .int .i64 (B.gi j 8), .int .i64 (B.gi j 9), .int .i64 (B.gi j 10), .int .i64 (B.gi j 11), .int .i64 (B.gi j 12), .int .i64 (B.gi j 13), .int .i64 (B.gi j 14)] 3))) := Lib.hid (((hxr.alloc _).alloc _).alloc _)
      have hpx := Lib.hid (show ∀ w' : World, Ext ((wr.alloc (.cells p.toArray 69)).alloc (.cells #[.int .i64 (B.gi j 6), .int .i64 (B.gi j 7), .int .i64 (B.gi j 8), .int .i64 (B.gi j 9), .int .i64 (B.gi j 10), .int .i64 (B.gi j 11), .int .i64 (B.gi j 12), .int .i64 (B.gi j 13), .int .i64 (B.gi j 14)] 61)) w' → ∀ j, w'.cell? ⟨wr.heap.size, j, none⟩ = p[j]? from
        fun w' hx j => (hx.cell (by simp; omega)).trans ((World.cell?_alloc_past _ _ _ (by simp)).trans ((World.cell?_alloc_at _ _ _ _ rfl).trans (by simp))))
      clear p6 p7 p8 p9 p10 p11 p12 p13 p14
      go_loop [9] (fun i => ∃ k : Nat, k ≤ 9 ∧ i = .int .i64 k ∧ Hid (∀ n, n < k → 0 ≤ B.gi j (6 + n) ∧ B.gi j (6 + n) ≤ 1000)) (fun i => 9 - (intOf i).toNat)
      case atStart => exact ⟨0, by omega, rfl, Lib.hid (fun n hn => by omega)⟩
      case round =>
        obtain ⟨k, hk, rfl, hn⟩ := hrel
        by_cases hlk : k < 9
        · have hz := hk9.out k hlk
          obtain ⟨hlz, hz'⟩ := List.getElem?_eq_some_iff.1 hz
          obtain ⟨z, hze⟩ : ∃ z, B.gi j (6 + k) = z := ⟨_, rfl⟩
          rw [hze] at hz hz'
          have HZ := Lib.hid hze
          clear hze
          go_wp2_with fail
          all_goals first
            | (go_ret
               refine ⟨false, rfl, ((Ext.refl w).alloc _).trans hx9.out, ⟨(fun h => by cases h), (fun h => ?_)⟩⟩
               have h1 := (h.2 j hlt).1 k hlk
               rw [HZ.out] at h1
               omega)
            | skip
          go_round
          case rel =>
            refine ⟨k + 1, by omega, by go_num, Lib.hid (fun n hn' => ?_)⟩
            by_cases e : n = k
            · subst e
              rw [HZ.out]
              omega
            · exact hn.out n (by omega)
          case measure => simp [intOf]; omega
        · have hclk : Hid (ClkR B j) := Lib.hid (fun n hn' => hn.out n (by omega))
          have a78 := q78.out
          have a79 := q79.out
          have a80 := q80.out
          have a81 := q81.out
          go_wp2_with fail
          refine (tfew_any _ _ _ _ _).mono ?_
          rintro e w5 ⟨f5, rfl, hx5, hf5⟩
          have hb5 := hpx.out w5 ((Ext.refl _).alloc _ |>.trans hx5)
          have HF5 := Lib.hid hf5
          clear hf5 a78 a79 a80 a81
          have a82 := q82.out
          have a83 := q83.out
          have a84 := q84.out
          have a85 := q85.out
          go_wp2_with fail
          refine (tfew_any _ _ _ _ _).mono ?_
          rintro e w6 ⟨f6, rfl, hx6, hf6⟩
          have hb6 := hpx.out w6 (((Ext.refl _).alloc _ |>.trans hx5).trans hx6)
          have HF6 := Lib.hid hf6
          clear hf6 a82 a83 a84 a85 hb5
          have a64 := q64.out
          have a65 := q65.out
          have a66 := q66.out
          have a67 := q67.out
          go_wp2_with fail
          refine (tfew_any _ _ _ _ _).mono ?_
          rintro e w7 ⟨f7, rfl, hx7, hf7⟩
          have HF7 := Lib.hid hf7
          clear hf7 a64 a65 a66 a67 hb6
          have hx8 := hx9.out.trans (hx5.trans (hx6.trans hx7))
          clear hx5 hx6 hx7
          cases f5 <;> cases f6 <;> cases f7
          all_goals
            go_wp2_with fail
          all_goals first
            | (go_ret
               refine ⟨false, rfl, ((Ext.refl w).alloc _).trans hx8, ⟨(fun h => by cases h), (fun h => ?_)⟩⟩
               obtain ⟨h1, h2, h3, h4⟩ := h.2 j hlt
               first | exact HF5.out.2 h2 | exact HF6.out.2 h3 | exact HF7.out.2 h4)
            | skip
          go_roundw
          case rel =>
            refine ⟨j + 1, by omega, by go_num, hx8, Lib.hid (fun n hn' => ?_)⟩
            by_cases e : n = j
            · subst e
              exact ⟨hclk.out, HF5.out.1 trivial, HF6.out.1 trivial, HF7.out.1 trivial⟩
            · exact hall.out n (by omega)
          case measure => simp [intOf]; omega
    · go_wp2_with fail
      go_ret
      exact ⟨true, rfl, ((Ext.refl w).alloc _).trans hxr, ⟨fun _ => ⟨HH.out, fun k hk => hall.out k (by omega)⟩, fun _ => rfl⟩⟩

set_option maxRecDepth 100000 in
theorem few_any (c : Array Value) (B : Br) (w : World) (hb : BrC w c B) (ho : B.ok) : Calls Try.prog 9 #[.agg c] w (Tells w (RightP B ∧ 1 ≤ B.np ∧ B.np ≤ 8 ∧ B.no ≤ 20 ∧ B.nf ≤ 20)) := by
  have HB := Lib.hid hb
  obtain ⟨s1, s2, s3, hz, hhd, c17, c18, c19, r1, r2, r3⟩ := hb.facts ho.hd.1
  obtain ⟨a1, k1, rfl, m1, -⟩ := r1.form
  obtain ⟨a2, k2, rfl, m2, -⟩ := r2.form
  obtain ⟨a3, k3, rfl, m3, -⟩ := r3.form
  have hi : (Try.prog.info? 33).map (·.size) = some c.size := by rw [hz]; exact size_br
  have HI := Lib.hid hi
  clear hi hz hhd hb r1 r2 r3
  go_enter Try.func9, Try.ntmps9
  go_wp2_with (first | fail | ((with_reducible refine at_load 33 ?_); refine wpList_load_row rfl 33 _ rfl _ rfl _ c (0, 0) _ (heap_alloc_new _ _) Try.underlying33 rfl HI.out ?_) | (go_at_call 23; refine (right_any c B _ (HB.out.ext ((Ext.refl w).alloc _)) ho).mono ?_; rintro e w1 ⟨f, rfl, hx, hf⟩; have hbx := box_cell hx; have HF := Lib.hid hf; clear hf))
  all_goals (go_ret; refine ⟨_, rfl, Ext.trans ((Ext.refl w).alloc _) hx, ?_⟩; rw [← HF.out])
  all_goals first
    | exact ⟨(fun h => by cases h), (fun h => absurd h.1 ‹_›)⟩
    | exact ⟨(fun h => by cases h), (fun h => by omega)⟩
    | exact ⟨(fun h => ⟨‹_›, by omega, by omega, by omega, by simp at h; omega⟩), (fun h => by simp; omega)⟩

end Go.Proofs.Ytemmfbedchfekaa
