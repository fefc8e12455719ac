/- Which role a port is to have: rows of the head; the root's times. No statement is proved here. -/
import Derived.Test.YthfoacgdkoijeaaSelD
namespace Go.Proofs.Ythfoacgdkoijeaa
open Go.RowKit Go.BigFrame Go.WideShapes Go.ChangeShapes Go.Deep
set_option linter.unusedVariables false
set_option linter.unusedSimpArgs false

def Br.sethr (B : Br) (j : Nat) (vs : List Value) : Br := { B with hd := setL B.hd j vs }
theorem BrG.head {w w' : World} {F : Nat → Prop} {X g : Nat} {B : Br} (h : BrG w F X g B) (hl : B.hd.length = 17) {j : Nat} {vs : List Value} (hj : j + vs.length ≤ 17) (hm : Mut (fun n => n = X) w w')
    (hr : ∀ C, w.heap[X]? = some (.cells C 33 (0, 0)) → w'.heap[X]? = some (.cells (C.toList.take j ++ vs ++ C.toList.drop (j + vs.length)).toArray 33 (0, 0))) : BrG w' F X g (B.sethr j vs) := by
  have hne := h.lt.2.2
  obtain ⟨h1, h2, cap, cur, s2, s3, a, b, c, d, e, f, p, q, r, s⟩ := h
  have own : ∀ {e : TypeId} {m n : Nat} {v : Value} {xs : List Value}, e ≠ 33 → w.ownsRow 0 e m v n xs → w'.ownsRow 0 e m v n xs := fun {e m n v xs} hne2 ho => by
    refine ⟨ho.1, ?_⟩
    rcases ho.2 with h0 | ⟨g3, c3, cu3, e1, e2, e3, rest⟩
    · exact .inl h0
    · refine .inr ⟨g3, c3, cu3, e1, e2, ?_, rest⟩
      have hgg : ¬ g3 = X := fun e0 => by
        subst e0
        rw [a] at e3
        cases e3
        exact hne2 rfl
      exact (hm.heap (heap_lt e3) hgg).trans e3
  refine ⟨h1, h2, cap, cur, s2, s3, ?_, (hm.heap (heap_lt b) (show ¬ g = X from Ne.symm hne)).trans b, c, d, e, f, own (by decide) p, own (by decide) q, r, s⟩
  rw [hr _ a]
  refine congrArg (fun l : List Value => some (Obj.cells l.toArray 33 (0, 0))) ?_
  show (B.hd ++ _).take j ++ vs ++ (B.hd ++ _).drop (j + vs.length) = setL B.hd j vs ++ _
  rw [List.take_append_of_le_length (by omega), List.drop_append_of_le_length (by omega)]
  unfold setL
  simp only [List.append_assoc]
  rfl
theorem st_hd {P : Program} {ops : Array Oper} {rest : List Oper} {op : Oper} {a : Act} {w : World} {Q : Exit → Act → World → Prop} (hgd : op.guard = none) (hdst : op.dst = none) (ty : TypeId) (x y : Operand) (ho : op.op = .store ty x y)
    (F : Nat → Prop) (X g : Nat) (B : Br) (h : BrG w F X g B) (hl : B.hd.length = 17) (j : Nat) (u : Value) (vs : Array Value) (hx : a.eval x = .pointer (some ⟨X, j, none⟩)) (hy : a.eval y = u) (hv : u.cells = vs) (hj : j + vs.size ≤ 17)
    (hi : (P.info? ty).map (·.size) = some vs.size) (h1 : vs.toList.all (·.oneCell') = true)
    (k : ∀ w', BrG w' F X g (B.sethr j vs.toList) → Mut (fun n => n = X) w w' → wpList P ops Q rest a w') : wpList P ops Q (op :: rest) a w := by
  have h0 := h
  obtain ⟨-, -, cap, cur, s2, s3, hX, -⟩ := h0
  refine st_at hgd hdst ty x y ho X j u vs _ _ 33 hx hy hv hX (by simp [hl]; omega) hi h1 rfl (fun w' hr hm => ?_)
  refine k w' (h.head hl (by simpa using hj) hm (fun C hC => ?_)) hm
  rw [hX] at hC
  cases hC
  simpa using hr

/-! ### The root's times -/
def TZ : Array Value := #[.int .i64 0, .int .i64 0, .int .i64 0, .int .i64 0]
theorem zero_times : ∀ w, (zeroValue 24).run Try.prog w = .ok (.agg TZ) w := (zero_of_info (P := Try.prog) (t := 24) (v := .agg TZ) (n := 4) (by kernel_rfl)).1
theorem rcons {w : World} {b o : Nat} {v : Value} {l : List Value} (h0 : w.cell? ⟨b, o, none⟩ = some v) (h : w.rangeAt b (o + 1) l) : w.rangeAt b o (v :: l) := fun j u hu => by
  cases j with
  | zero => obtain rfl : v = u := by simpa using hu
            exact h0
  | succ j =>
    rw [show o + (j + 1) = o + 1 + j by omega]
    exact h j u (by simpa using hu)
theorem rnil {w : World} {b o : Nat} : w.rangeAt b o [] := fun j u hu => by simp at hu
set_option maxRecDepth 100000 in
set_option maxHeartbeats 1000000 in
theorem rtimes_own (w : World) (F : Nat → Prop) (X g : Nat) (B : Br) (h : BrG w F X g B) (ho : B.ok) (hs : B.hi 12 < 0) :
    Calls Try.prog 54 #[.pointer (some ⟨X, 0, none⟩)] w fun e w' => e = .returned (.agg #[.int .i64 (B.hi 2), .int .i64 (B.hi 3), .int .i64 (B.hi 4), .int .i64 (B.hi 5)]) ∧ Ext w w' := by
  obtain ⟨hX, hg, hne⟩ := h.lt
  have c12 := (h.cellX ho (i := 12) (by decide)).trans (ho.hi 12 rfl)
  have RT := Lib.hid (show w.rangeAt X 2 [.int .i64 (B.hi 2), .int .i64 (B.hi 3), .int .i64 (B.hi 4), .int .i64 (B.hi 5)] from rcons ((h.cellX ho (i := 2) (by decide)).trans (ho.hi 2 rfl)) (rcons ((h.cellX ho (i := 3) (by decide)).trans (ho.hi 3 rfl)) (rcons ((h.cellX ho (i := 4) (by decide)).trans (ho.hi 4 rfl)) (rcons ((h.cellX ho (i := 5) (by decide)).trans (ho.hi 5 rfl)) rnil))))
  have C12 := Lib.hid c12
  have hz := zero_times
  have hd : decide (B.hi 12 < 0) = true := by simpa using hs
  clear h c12
  go_enter Try.func54, Try.ntmps54
  go_wp2_with (first
    | fail
    | ((with_reducible refine at_alloc 24 ?_); refine al_zero rfl 24 rfl TZ zero_times ?_
       intro R0 z1 hq hsz hx
       have HR := Lib.hid hq
       have HE := Lib.hid hx
       have hw : w.heap.size ≤ R0 := by omega
       have c12 := (hx.cell (p := ⟨X, 12, none⟩) hX).trans C12.out
       have RT1 := Lib.hid (rangeAt_ext RT.out hx hX)
       clear hq hsz hx)
    | ((with_reducible refine at_load 24 ?_); refine wpList_load_mid rfl 24 _ rfl X 2 rfl [.int .i64 (B.hi 2), .int .i64 (B.hi 3), .int .i64 (B.hi 4), .int .i64 (B.hi 5)] _ RT1.out Try.underlying24 rfl (by kernel_rfl) ?_)
    | ((with_reducible refine at_store 24 ?_); refine st_at rfl rfl 24 _ _ rfl R0 0 _ #[.int .i64 (B.hi 2), .int .i64 (B.hi 3), .int .i64 (B.hi 4), .int .i64 (B.hi 5)] _ #[.int .i64 (B.hi 2), .int .i64 (B.hi 3), .int .i64 (B.hi 4), .int .i64 (B.hi 5)] _ rfl rfl rfl HR.out (by exact (by decide : 0 + 4 ≤ 4)) (by kernel_rfl) rfl rfl ?_
       intro z2 hq hm
       have HR2 := Lib.hid hq
       have HE2 := Lib.hid (Ext.mutE HE.out hm (fun n hn h => by have h2 : n = R0 := h; omega))
       clear hq hm))
  refine bodyPost_ret (results_cell_row rfl _ _ _ _ _ (0, 0) _ rfl HR2.out Try.underlying24 rfl (by kernel_rfl)) rfl ?_
  exact ⟨rfl, HE2.out⟩
set_option maxRecDepth 100000 in
set_option maxHeartbeats 1000000 in
theorem rtimes_at (w : World) (F : Nat → Prop) (X g : Nat) (B : Br) (h : BrG w F X g B) (ho : B.ok) (k : Nat) (hs : B.hi 12 = k) (hk : k < B.np) (hn : B.np < 1000) (ga : 0 ≤ B.gi k 78 ∧ B.gi k 78 ≤ 65535) :
    Calls Try.prog 54 #[.pointer (some ⟨X, 0, none⟩)] w fun e w' => e = .returned (.agg #[.int .i64 (B.gi k 78 + 1), .int .i64 (B.gi k 79), .int .i64 (B.gi k 80), .int .i64 (B.gi k 81)]) ∧ Ext w w' := by
  obtain ⟨hX, hg, hne⟩ := h.lt
  obtain ⟨cap, c17, hc1, hc2⟩ := h.cell17 ho
  have c12 := (h.cellX ho (i := 12) (by decide)).trans (ho.hi 12 rfl)
  rw [hs] at c12
  have cg : ∀ j, j < 89 → w.cell? ⟨g, k * 89 + j, none⟩ = B.ps[k * 89 + j]? := fun j hj => h.cellg (i := k * 89 + j) (lt89 hk hj)
  have RT := Lib.hid (show w.rangeAt g (k * 89 + 78) [.int .i64 (B.gi k 78), .int .i64 (B.gi k 79), .int .i64 (B.gi k 80), .int .i64 (B.gi k 81)] from rcons ((cg 78 (by decide)).trans (ho.gi hk 78 rfl)) (rcons ((cg 79 (by decide)).trans (ho.gi hk 79 rfl)) (rcons ((cg 80 (by decide)).trans (ho.gi hk 80 rfl)) (rcons ((cg 81 (by decide)).trans (ho.gi hk 81 rfl)) rnil))))
  have C12 := Lib.hid c12
  have C17 := Lib.hid c17
  have hz := zero_times
  have hk8 : k < 1000 := by omega
  clear h c12 c17 cg
  go_enter Try.func54, Try.ntmps54
  go_wp2_with (first
    | fail
    | ((with_reducible refine at_alloc 24 ?_); refine al_zero rfl 24 rfl TZ zero_times ?_
       intro R0 z1 hq hsz hx
       have HR := Lib.hid hq
       have HE := Lib.hid hx
       have hw : w.heap.size ≤ R0 := by omega
       have hXR : X ≠ R0 := by omega
       have hgR : g ≠ R0 := by omega
       have hX1 : X < z1.heap.size := Nat.lt_of_lt_of_le hX hx.size
       have hg1 : g < z1.heap.size := Nat.lt_of_lt_of_le hg hx.size
       have c12 := (hx.cell (p := ⟨X, 12, none⟩) hX).trans C12.out
       have c17 := (hx.cell (p := ⟨X, 17, none⟩) hX).trans C17.out
       have RT1 := Lib.hid (rangeAt_ext RT.out hx hg)
       clear hq hsz hx))
  refine beginL (S := fun W' => Mut (fun n => n = R0) z1 W') (by kernel_rfl) ?_
  intro wd hqx
  have hq0 : Mut (fun n => n = R0) z1 wd := hqx.mut _
  have hrR := (hqx.block _ (heap_lt HR.out)).trans HR.out
  refine takeL (i := 0) (v := (.pointer (some ⟨X, 0, none⟩))) rfl (by kernel_rfl) (by kernel_rfl) (by kernel_rfl) (fun _ _ _ h => h) (Or.inl ⟨rfl, fun _ _ => rfl⟩) hq0 ?_
  simp only [Act.put, List.setIfInBounds_toArray, List.set_cons_zero, List.set_cons_succ]
  refine takeL (i := 1) (v := (.pointer (some ⟨X, 0, none⟩))) rfl (by kernel_rfl) (by kernel_rfl) (by kernel_rfl) (fun _ _ _ h => h) (Or.inl ⟨rfl, fun _ _ => rfl⟩) hq0 ?_
  simp only [Act.put, List.setIfInBounds_toArray, List.set_cons_zero, List.set_cons_succ]
  refine takeL (i := 2) (v := (.pointer (some ⟨X, 17, none⟩))) rfl (by kernel_rfl) (by kernel_rfl) (by kernel_rfl) (fun _ _ _ h => h) (Or.inl ⟨rfl, fun _ _ => rfl⟩) hq0 ?_
  simp only [Act.put, List.setIfInBounds_toArray, List.set_cons_zero, List.set_cons_succ]
  refine takeL (i := 3) (v := _) rfl (by kernel_rfl) (by kernel_rfl) (by kernel_rfl) (fun _ _ _ h => h) (yieldsIf_cell rfl 29 _ rfl ⟨X, 17, none⟩ rfl (.slice (some ⟨g, 0, none⟩) B.np cap) _ (fun W' hW' => (hW'.cell (p := ⟨X, 17, none⟩) hX1 hXR).trans c17) Try.underlying29 rfl) hq0 ?_
  simp only [Act.put, List.setIfInBounds_toArray, List.set_cons_zero, List.set_cons_succ]
  refine takeL (i := 4) (v := (.pointer (some ⟨X, 0, none⟩))) rfl (by kernel_rfl) (by kernel_rfl) (by kernel_rfl) (fun _ _ _ h => h) (Or.inl ⟨rfl, fun _ _ => rfl⟩) hq0 ?_
  simp only [Act.put, List.setIfInBounds_toArray, List.set_cons_zero, List.set_cons_succ]
  refine takeL (i := 5) (v := (.pointer (some ⟨X, 0, none⟩))) rfl (by kernel_rfl) (by kernel_rfl) (by kernel_rfl) (fun _ _ _ h => h) (Or.inl ⟨rfl, fun _ _ => rfl⟩) hq0 ?_
  simp only [Act.put, List.setIfInBounds_toArray, List.set_cons_zero, List.set_cons_succ]
  refine takeL (i := 6) (v := (.pointer (some ⟨X, 12, none⟩))) rfl (by kernel_rfl) (by kernel_rfl) (by kernel_rfl) (fun _ _ _ h => h) (Or.inl ⟨rfl, fun _ _ => rfl⟩) hq0 ?_
  simp only [Act.put, List.setIfInBounds_toArray, List.set_cons_zero, List.set_cons_succ]
  refine takeL (i := 7) (v := _) rfl (by kernel_rfl) (by kernel_rfl) (by kernel_rfl) (fun _ _ _ h => h) (yieldsIf_cell rfl 3 _ rfl ⟨X, 12, none⟩ rfl (.int .i64 (k : Int)) _ (fun W' hW' => (hW'.cell (p := ⟨X, 12, none⟩) hX1 hXR).trans c12) Try.underlying3 rfl) hq0 ?_
  simp only [Act.put, List.setIfInBounds_toArray, List.set_cons_zero, List.set_cons_succ]
  refine takeL (i := 8) (v := (.pointer (some ⟨g, k * 89, none⟩))) rfl (by kernel_rfl) (by kernel_rfl) (by kernel_rfl) (fun _ _ _ h => h) (Or.inl ⟨rfl, fun W' _ => by go_simp⟩) hq0 ?_
  simp only [Act.put, List.setIfInBounds_toArray, List.set_cons_zero, List.set_cons_succ]
  refine takeL (i := 9) (v := (.pointer (some ⟨g, k * 89 + 78, none⟩))) rfl (by kernel_rfl) (by kernel_rfl) (by kernel_rfl) (fun _ _ _ h => h) (Or.inl ⟨rfl, fun _ _ => rfl⟩) hq0 ?_
  simp only [Act.put, List.setIfInBounds_toArray, List.set_cons_zero, List.set_cons_succ]
  refine takeL (i := 10) (v := _) rfl (by kernel_rfl) (by kernel_rfl) (by kernel_rfl) (fun _ _ _ h => h) (yieldsIf_load_mid rfl 24 _ rfl g (k * 89 + 78) rfl ([.int .i64 (B.gi k 78), .int .i64 (B.gi k 79), .int .i64 (B.gi k 80), .int .i64 (B.gi k 81)]) _ (fun W' hW' => (fun j v hv => (hW'.cell (p := ⟨g, k * 89 + 78 + j, none⟩) hg1 hgR).trans (RT1.out j v hv))) Try.underlying24 rfl (by kernel_rfl)) hq0 ?_
  simp only [Act.put, List.setIfInBounds_toArray, List.set_cons_zero, List.set_cons_succ]
  refine runL (i := 11) rfl rfl (by kernel_rfl) (fun K hK => ?_)
  go_simp
  refine (older_any _ _ _ _ _ (by omega) (by omega)).mono ?_
  rintro e wc1 ⟨rfl, hx⟩
  have hq1 := hq0.trans (hx.mut _)
  have hrR := (hx.block _ (heap_lt hrR)).trans hrR
  refine hK.out _ _ hq1 (fun hHeld => ?_)
  try simp only [Act.put, List.setIfInBounds_toArray, List.set_cons_zero, List.set_cons_succ]
  clear hK K hHeld
  refine runL (i := 12) rfl rfl (by kernel_rfl) (fun K hK => ?_)
  refine wp_st_at rfl 24 _ _ rfl R0 0 _ #[.int .i64 (B.gi k 78 + 1), .int .i64 (B.gi k 79), .int .i64 (B.gi k 80), .int .i64 (B.gi k 81)] _ #[.int .i64 (B.gi k 78 + 1), .int .i64 (B.gi k 79), .int .i64 (B.gi k 80), .int .i64 (B.gi k 81)] _ rfl rfl rfl hrR (by exact (by decide : 0 + 4 ≤ 4)) (by kernel_rfl) rfl rfl (fun ws12 hrow12 hm => ?_)
  have hq2 : Mut (fun n => n = R0) z1 ws12 := Mut.trans hq1 hm
  clear hm
  refine hK.out _ _ hq2 (fun hHeld => ?_)
  try simp only [Act.put, List.setIfInBounds_toArray, List.set_cons_zero, List.set_cons_succ]
  clear hK K hHeld
  refine wpAnyH_done (by kernel_rfl) ?_ _
  go_wp2_with fail
  refine bodyPost_ret (results_cell_row rfl _ _ _ _ _ (0, 0) _ rfl hrow12 Try.underlying24 rfl (by kernel_rfl)) rfl ?_
  exact ⟨rfl, Ext.mutE HE.out hq2 (fun n hn h => by have h2 : n = R0 := h; omega)⟩

end Go.Proofs.Ythfoacgdkoijeaa
