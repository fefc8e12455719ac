/- The step of role transitions over its table. No statement is proved here. -/
import Derived.Test.YtnblchilgaimhaaTrA
namespace Go.Proofs.Ytnblchilgaimhaa
open Go.RowKit Go.BigFrame Go.WideShapes Go.ChangeShapes Go.Deep
set_option linter.unusedVariables false
set_option linter.unusedSimpArgs false

theorem frame_of (t : Array Value) (hs : t.size = 87) : t = #[t.getD 0 undef, t.getD 1 undef, t.getD 2 undef, t.getD 3 undef, t.getD 4 undef, t.getD 5 undef, t.getD 6 undef, t.getD 7 undef, t.getD 8 undef, t.getD 9 undef, t.getD 10 undef, t.getD 11 undef, t.getD 12 undef, t.getD 13 undef, t.getD 14 undef, t.getD 15 undef, t.getD 16 undef, t.getD 17 undef, t.getD 18 undef, t.getD 19 undef, t.getD 20 undef, t.getD 21 undef, t.getD 22 undef, t.getD 23 undef, t.getD 24 undef, t.getD 25 undef, t.getD 26 undef, t.getD 27 undef, t.getD 28 undef, t.getD 29 undef, t.getD 30 undef, t.getD 31 undef, t.getD 32 undef, t.getD 33 undef, t.getD 34 undef, t.getD 35 undef, t.getD 36 undef, t.getD 37 undef, t.getD 38 undef, t.getD 39 undef, t.getD 40 undef, t.getD 41 undef, t.getD 42 undef, t.getD 43 undef, t.getD 44 undef, t.getD 45 undef, t.getD 46 undef, t.getD 47 undef, t.getD 48 undef, t.getD 49 undef, t.getD 50 undef, t.getD 51 undef, t.getD 52 undef, t.getD 53 undef, t.getD 54 undef, t.getD 55 undef, t.getD 56 undef, t.getD 57 undef, t.getD 58 undef, t.getD 59 undef, t.getD 60 undef, t.getD 61 undef, t.getD 62 undef, t.getD 63 undef, t.getD 64 undef, t.getD 65 undef, t.getD 66 undef, t.getD 67 undef, t.getD 68 undef, t.getD 69 undef, t.getD 70 undef, t.getD 71 undef, t.getD 72 undef, t.getD 73 undef, t.getD 74 undef, t.getD 75 undef, t.getD 76 undef, t.getD 77 undef, t.getD 78 undef, t.getD 79 undef, t.getD 80 undef, t.getD 81 undef, t.getD 82 undef, t.getD 83 undef, t.getD 84 undef, t.getD 85 undef, t.getD 86 undef] := by
  apply Array.ext
  · rw [hs]; rfl
  · intro i h1 h2
    have e : t[i] = t.getD i undef := by simp [Array.getD, h1]
    rw [e]
    have h3 : i < 87 := by rw [← hs]; exact h1
    clear h1 e hs
    revert h2
    match i, h3 with
    | 0, _ => exact fun _ => rfl
    | 1, _ => exact fun _ => rfl
    | 2, _ => exact fun _ => rfl
    | 3, _ => exact fun _ => rfl
    | 4, _ => exact fun _ => rfl
    | 5, _ => exact fun _ => rfl
    | 6, _ => exact fun _ => rfl
    | 7, _ => exact fun _ => rfl
    | 8, _ => exact fun _ => rfl
    | 9, _ => exact fun _ => rfl
    | 10, _ => exact fun _ => rfl
    | 11, _ => exact fun _ => rfl
    | 12, _ => exact fun _ => rfl
    | 13, _ => exact fun _ => rfl
    | 14, _ => exact fun _ => rfl
    | 15, _ => exact fun _ => rfl
    | 16, _ => exact fun _ => rfl
    | 17, _ => exact fun _ => rfl
    | 18, _ => exact fun _ => rfl
    | 19, _ => exact fun _ => rfl
    | 20, _ => exact fun _ => rfl
    | 21, _ => exact fun _ => rfl
    | 22, _ => exact fun _ => rfl
    | 23, _ => exact fun _ => rfl
    | 24, _ => exact fun _ => rfl
    | 25, _ => exact fun _ => rfl
    | 26, _ => exact fun _ => rfl
    | 27, _ => exact fun _ => rfl
    | 28, _ => exact fun _ => rfl
    | 29, _ => exact fun _ => rfl
    | 30, _ => exact fun _ => rfl
    | 31, _ => exact fun _ => rfl
    | 32, _ => exact fun _ => rfl
    | 33, _ => exact fun _ => rfl
    | 34, _ => exact fun _ => rfl
    | 35, _ => exact fun _ => rfl
    | 36, _ => exact fun _ => rfl
    | 37, _ => exact fun _ => rfl
    | 38, _ => exact fun _ => rfl
    | 39, _ => exact fun _ => rfl
    | 40, _ => exact fun _ => rfl
    | 41, _ => exact fun _ => rfl
    | 42, _ => exact fun _ => rfl
    | 43, _ => exact fun _ => rfl
    | 44, _ => exact fun _ => rfl
    | 45, _ => exact fun _ => rfl
    | 46, _ => exact fun _ => rfl
    | 47, _ => exact fun _ => rfl
    | 48, _ => exact fun _ => rfl
    | 49, _ => exact fun _ => rfl
    | 50, _ => exact fun _ => rfl
    | 51, _ => exact fun _ => rfl
    | 52, _ => exact fun _ => rfl
    | 53, _ => exact fun _ => rfl
    | 54, _ => exact fun _ => rfl
    | 55, _ => exact fun _ => rfl
    | 56, _ => exact fun _ => rfl
    | 57, _ => exact fun _ => rfl
    | 58, _ => exact fun _ => rfl
    | 59, _ => exact fun _ => rfl
    | 60, _ => exact fun _ => rfl
    | 61, _ => exact fun _ => rfl
    | 62, _ => exact fun _ => rfl
    | 63, _ => exact fun _ => rfl
    | 64, _ => exact fun _ => rfl
    | 65, _ => exact fun _ => rfl
    | 66, _ => exact fun _ => rfl
    | 67, _ => exact fun _ => rfl
    | 68, _ => exact fun _ => rfl
    | 69, _ => exact fun _ => rfl
    | 70, _ => exact fun _ => rfl
    | 71, _ => exact fun _ => rfl
    | 72, _ => exact fun _ => rfl
    | 73, _ => exact fun _ => rfl
    | 74, _ => exact fun _ => rfl
    | 75, _ => exact fun _ => rfl
    | 76, _ => exact fun _ => rfl
    | 77, _ => exact fun _ => rfl
    | 78, _ => exact fun _ => rfl
    | 79, _ => exact fun _ => rfl
    | 80, _ => exact fun _ => rfl
    | 81, _ => exact fun _ => rfl
    | 82, _ => exact fun _ => rfl
    | 83, _ => exact fun _ => rfl
    | 84, _ => exact fun _ => rfl
    | 85, _ => exact fun _ => rfl
    | 86, _ => exact fun _ => rfl
    | n + 87, h => exact absurd h (by omega)

theorem tr_callH (j : Nat) (hj : j < 24) (v : Value) (w : World) : (callFunc (trH j) #[v]).run Try.prog w = .ok (Next.enter (trH j) #[v]) w := by
  rcases (by omega : j = 0 ∨ j = 1 ∨ j = 2 ∨ j = 3 ∨ j = 4 ∨ j = 5 ∨ j = 6 ∨ j = 7 ∨ j = 8 ∨ j = 9 ∨ j = 10 ∨ j = 11 ∨ j = 12 ∨ j = 13 ∨ j = 14 ∨ j = 15 ∨ j = 16 ∨ j = 17 ∨ j = 18 ∨ j = 19 ∨ j = 20 ∨ j = 21 ∨ j = 22 ∨ j = 23) with rfl | rfl | rfl | rfl | rfl | rfl | rfl | rfl | rfl | rfl | rfl | rfl | rfl | rfl | rfl | rfl | rfl | rfl | rfl | rfl | rfl | rfl | rfl | rfl <;> kernel_rfl
theorem tr_callD (j : Nat) (hj : j < 24) (v : Value) (w : World) : (callFunc (trD j) #[v]).run Try.prog w = .ok (Next.enter (trD j) #[v]) w := by
  rcases (by omega : j = 0 ∨ j = 1 ∨ j = 2 ∨ j = 3 ∨ j = 4 ∨ j = 5 ∨ j = 6 ∨ j = 7 ∨ j = 8 ∨ j = 9 ∨ j = 10 ∨ j = 11 ∨ j = 12 ∨ j = 13 ∨ j = 14 ∨ j = 15 ∨ j = 16 ∨ j = 17 ∨ j = 18 ∨ j = 19 ∨ j = 20 ∨ j = 21 ∨ j = 22 ∨ j = 23) with rfl | rfl | rfl | rfl | rfl | rfl | rfl | rfl | rfl | rfl | rfl | rfl | rfl | rfl | rfl | rfl | rfl | rfl | rfl | rfl | rfl | rfl | rfl | rfl <;> kernel_rfl

/-- A whole row is read in each world that meets S. -/
theorem yieldsIf_rowS {P : Program} {ops : Array Oper} {S : World → Prop} {op : Oper} {a : Act} (hw : Region.wanted op (yielded ops a.tmps) = true) (ty : TypeId) (x : Operand) (ho : op.op = .load ty x)
    (X : Nat) (hx : a.eval x = .pointer (some ⟨X, 0, none⟩)) (C : Array Value) (t : TypeId) (d : TypeDesc) (hX : ∀ W', S W' → W'.heap[X]? = some (.cells C t (0, 0)))
    (hu : P.underlying ty = some d) (hd : (match d with | .struct _ | .array _ _ => true | _ => false) = true) (hi : (P.info? ty).map (·.size) = some C.size) : YieldsIf P ops S op (.agg C) a :=
  .inl ⟨hw, fun W' hW' => by
    have h := hX W' hW'
    unfold execOp
    simp only [ho, hx, Instr.loadAt, Instr.sureAddr, Sem.run_bind, Sem.run_pure, Result.andThen_ok, run_loadVar_row W' X t ty C (0, 0) d h hu hd hi]⟩
theorem scopeJ {P : Program} {a : Act} {w : World} {Q : Exit → Act → World → Prop} {c X : Code} (l : Nat) (J : Act → World → Prop) (μ : Act → World → Nat) (hf : findLabel c l = some (.seq .skip X))
    (pass : ∀ a w, J a w → X.wp P (Exit.jump l (fun a' w' => J a' w' ∧ μ a' w' < μ a w) Q) a w)
    (first : (∀ a w, J a w → X.wp P (Exit.jump l J Q) a w) → c.wp P (Exit.jump l J Q) a w) : (Code.scope c).wp P Q a w :=
  wp_scope_jumps l J μ hf (first (fun a w hJ => Code.wp_mono (fun e a' w' h => by
    cases e <;> first | exact h | exact ⟨h.1, h.2.1⟩) (pass a w hJ))) (fun a w hJ => wp_seq (wp_skip (pass a w hJ)))

theorem size_place : (Try.prog.info? 68).map (·.size) = some 3 := by kernel_rfl
theorem place_build (p q : Value) (i : Int) (w : World) (hp : ∃ x, p = .pointer x) (hq : ∃ x, q = .pointer x) : (Instr.build 68 #[(0, p), (1, q), (2, .int .i64 i)]).run Try.prog w = .ok (.agg #[p, q, .int .i64 i]) w := by
  obtain ⟨x, rfl⟩ := hp
  obtain ⟨y, rfl⟩ := hq
  kernel_rfl

set_option maxRecDepth 100000 in
set_option maxHeartbeats 4000000 in
theorem tr_run (w : World) (F : Nat → Prop) (X g k : Nat) (B : Br) (h : BrG w F X g B) (ho : B.ok) (hk : k < B.np) (hk2 : k < 1000) (hF : ∀ n, F n → n < w.heap.size) (HB : Nat → Bool) (AB : Nat → Br) (hAB : ∀ j, j < 24 → (AB j).ok ∧ (AB j).np = B.np)
    (hH : ∀ j, j < 24 → ∀ w1, Ext w w1 → Calls Try.prog (trH j) #[.agg #[.pointer (some ⟨g, k * 89, none⟩), .pointer (some ⟨X, 0, none⟩), .int .i64 k]] w1 fun e w2 => e = .returned (.bool (HB j)) ∧ Ext w1 w2)
    (hD : ∀ j, j < 24 → HB j = true → ∀ w1, Ext w w1 → Calls Try.prog (trD j) #[.agg #[.pointer (some ⟨g, k * 89, none⟩), .pointer (some ⟨X, 0, none⟩), .int .i64 k]] w1 fun e w2 => e = .returned (.tuple #[]) ∧ BrG w2 F X g (AB j) ∧ Mut F w1 w2)
    (r : Nat) (hr : r ≤ 24) (hno : ∀ i, i < r → ¬ ((trS i = -1 ∨ trS i = B.gi k 19) ∧ HB i = true)) (hyes : r < 24 → (trS r = -1 ∨ trS r = B.gi k 19) ∧ HB r = true) (RS : Bool × Br) (hRS : (if r = 24 then (false, B) else if trN r = -2 then (true, AB r) else (true, (AB r).setp k 19 (.int .i64 (trN r)))) = RS) (h44 : B.gb k 44 = true) (h50 : B.gb k 50 = false) : Calls Try.prog 33 #[.pointer (some ⟨X, 0, none⟩), .int .i64 k] w (Stepped w F X g RS) := by
  have HRS := Lib.hid hRS
  clear hRS
  obtain ⟨hX, hg, hne⟩ := h.lt
  obtain ⟨cap, c17, hc1, hc2⟩ := h.cell17 ho
  have p44 := (h.cellg (i := k * 89 + 44) (lt89 hk (by decide))).trans (ho.gb hk 44 rfl)
  have p50 := (h.cellg (i := k * 89 + 50) (lt89 hk (by decide))).trans (ho.gb hk 50 rfl)
  rw [h44] at p44
  rw [h50] at p50
  have H := Lib.hid h
  have HF := Lib.hid hF
  have HAB := Lib.hid hAB
  have HH := Lib.hid hH
  have HD := Lib.hid hD
  have HNO := Lib.hid hno
  have HYES := Lib.hid hyes
  have P19 := Lib.hid ((h.cellg (i := k * 89 + 19) (lt89 hk (by decide))).trans (ho.gi hk 19 rfl))
  have htb := Lib.hid size_tr
  clear h hF hAB hH hD hno hyes h44 h50
  have hpl := fun W' : World => place_build (.pointer (some ⟨g, k * 89, none⟩)) (.pointer (some ⟨X, 0, none⟩)) k W' ⟨_, rfl⟩ ⟨_, rfl⟩
  go_enter Try.func33, Try.ntmps33
  go_wp2_with fail
  obtain ⟨J, hJ⟩ : ∃ J : Act → World → Prop, J = (fun a' w' => ∃ (j pb lb : Nat), a'.defers = [] ∧ a'.tmps.size = 87 ∧ a'.tmps.getD 0 undef = .pointer (some ⟨X, 0, none⟩) ∧ a'.tmps.getD 1 undef = .int .i64 k ∧ a'.tmps.getD 4 undef = .bool false ∧ a'.tmps.getD 5 undef = .pointer (some ⟨pb, 0, none⟩) ∧ a'.tmps.getD 6 undef = .int .i64 (j : Int) ∧ a'.tmps.getD 7 undef = .pointer (some ⟨lb, 0, none⟩) ∧ j ≤ 24 ∧ Ext w w' ∧ w.heap.size ≤ pb ∧ w.heap.size ≤ lb ∧ w'.heap[pb]? = some (.cells #[.pointer (some ⟨g, k * 89, none⟩), .pointer (some ⟨X, 0, none⟩), .int .i64 k] 68 (0, 0)) ∧ w'.heap[lb]? = some (.cells trTab 73 (0, 0)) ∧ Hid (∀ i, i < j → ¬ ((trS i = -1 ∨ trS i = B.gi k 19) ∧ HB i = true))) := ⟨_, rfl⟩
  obtain ⟨M, hM⟩ : ∃ M : Act → World → Nat, M = (fun a' _ => 24 - (intOf (a'.tmps.getD 6 undef)).toNat) := ⟨_, rfl⟩
  have HJ := Lib.hid hJ
  have HMU := Lib.hid hM
  clear hJ hM
  refine scopeJ 0 J M rfl ?pass ?first
  case first =>
    intro FIRST
    have FI := Lib.hid FIRST
    clear FIRST
    go_wp2_with fail
    refine (tr_rows _).mono ?_
    rintro e w1 ⟨rfl, hx1⟩
    have hp1 := (hx1.block _ (by simp)).trans (heap_alloc_new w (.cells #[.pointer (some ⟨g, k * 89, none⟩), .pointer (some ⟨X, 0, none⟩), .int .i64 k] 68))
    have he1 := ((Ext.refl w).alloc (.cells #[.pointer (some ⟨g, k * 89, none⟩), .pointer (some ⟨X, 0, none⟩), .int .i64 k] 68)).trans hx1
    have HP1 := Lib.hid hp1
    have HE1 := Lib.hid he1
    clear hx1 hp1 he1 c17 p44 p50
    go_wp2_with (first
      | fail
      | ((with_reducible refine at_store 73 ?_); refine wpList_store_new3 rfl rfl 73 _ _ _ rfl _ trTab _ rfl ?_ rfl htb.out rfl rfl ?_; · rfl
         intro wj hwj
         have hL : wj.heap[w1.heap.size]? = some (.cells trTab 73 (0, 0)) := by rw [hwj]; exact heap_alloc_new _ _
         have hPB : wj.heap[w.heap.size]? = some (.cells #[.pointer (some ⟨g, k * 89, none⟩), .pointer (some ⟨X, 0, none⟩), .int .i64 k] 68 (0, 0)) := by rw [hwj]; exact (heap_alloc_old _ _ (heap_lt HP1.out)).trans HP1.out
         have hEj : Ext w wj := by rw [hwj]; exact HE1.out.alloc _
         have HLj := Lib.hid hL
         have HPBj := Lib.hid hPB
         have HEj := Lib.hid hEj
         clear hwj hL hPB hEj))
    go_wp2_with fail
    go_step3
    rename_i Kk hKk
    refine hKk _ _ (FI.out _ _ ?_)
    rw [HJ.out]
    exact ⟨0, w.heap.size, w1.heap.size, rfl, rfl, rfl, rfl, rfl, rfl, rfl, rfl, by omega, HEj.out, Nat.le_refl _, HE1.out.size, HPBj.out, HLj.out, Lib.hid (fun i hi => absurd hi (Nat.not_lt_zero i))⟩
  case pass =>
    intro a' wj hj
    rw [HJ.out] at hj
    obtain ⟨j, pb, lb, hdf, hsz, g0, g1, g4, g5, g6, g7, hj24, hEj, hpw, hlw, hPB, hLB, hnm⟩ := hj
    obtain ⟨t, df⟩ := a'
    simp only at hdf hsz g0 g1 g4 g5 g6 g7
    subst hdf
    rw [frame_of t hsz, g0, g1, g4, g5, g6, g7]
    obtain ⟨f, hf⟩ : ∃ f : Nat → Value, f = fun n => t.getD n undef := ⟨_, rfl⟩
    have hfa : ∀ n, t.getD n undef = f n := fun n => by rw [hf]
    simp only [hfa]
    clear hfa hf g0 g1 g4 g5 g6 g7 hsz
    clear c17 p44 p50
    have HPBj := Lib.hid hPB
    have HLBj := Lib.hid hLB
    have hlb := heap_lt hLB
    have hpb := heap_lt hPB
    have hgj : g < wj.heap.size := Nat.lt_of_lt_of_le hg hEj.size
    have HEJ := Lib.hid hEj
    have p19 := (hEj.cell (p := ⟨g, k * 89 + 19, none⟩) hg).trans P19.out
    have d0 : wj.cell? ⟨pb, 0, none⟩ = some (.pointer (some ⟨g, k * 89, none⟩)) := (cell_of_row _ _ _ _ _ _ hPB).trans rfl
    clear hPB hLB hEj
    have HN := Lib.hid hnm
    clear hnm
    by_cases h24 : j = 24
    · subst h24
      have hr24 : r = 24 := by
        by_cases hrl : r < 24
        · exact absurd (HYES.out hrl) (HN.out.out r hrl)
        · omega
      have hres : RS = (false, B) := by rw [← HRS.out, if_pos hr24]
      subst hres
      go_wp2_with fail
      try rw [Exit.noGoto_ret]
      go_ret
      exact ⟨rfl, H.out.ext HEJ.out, HEJ.out.mut F⟩
    have hlt : j < 24 := by omega
    have hjb : ((j : Int) == 24) = false := by simp; omega
    obtain ⟨t0, t1, t2, t3⟩ := tr_cells j hlt
    have c0 := (cell_of_row _ _ (j * 4) _ _ _ HLBj.out).trans t0
    have c1 := (cell_of_row _ _ (j * 4 + 1) _ _ _ HLBj.out).trans t1
    have T2 := Lib.hid t2
    have T3 := Lib.hid t3
    clear t0 t1 t2 t3
    obtain ⟨s, hs⟩ : ∃ s, trS j = s := ⟨_, rfl⟩
    obtain ⟨st, hst⟩ : ∃ s, B.gi k 19 = s := ⟨_, rfl⟩
    rw [hs] at c0
    rw [hst] at p19
    have HSj := Lib.hid hs
    have HST := Lib.hid hst
    clear hs hst
    by_cases hA : s = -1
    · have hA1 : (s != -1) = false := by rw [hA]; decide
      have HA := Lib.hid hA
      clear hA
      go_wp2_with fail
      refine beginL (S := fun W' => Ext wj W') (by kernel_rfl) ?_
      intro wd hq
      refine takeL (i := 0) (v := (.pointer (some ⟨lb, j * 4, none⟩))) rfl (by kernel_rfl) (by kernel_rfl) (by kernel_rfl) (fun _ _ _ h => h) (Or.inl ⟨rfl, fun _ _ => rfl⟩) hq ?_
      simp only [Act.put, List.setIfInBounds_toArray, List.set_cons_zero, List.set_cons_succ]
      refine takeL (i := 1) (v := (.pointer (some ⟨lb, j * 4, none⟩))) rfl (by kernel_rfl) (by kernel_rfl) (by kernel_rfl) (fun _ _ _ h => h) (Or.inl ⟨rfl, fun _ _ => rfl⟩) hq ?_
      simp only [Act.put, List.setIfInBounds_toArray, List.set_cons_zero, List.set_cons_succ]
      refine takeL (i := 2) (v := (.pointer (some ⟨lb, j * 4, none⟩))) rfl (by kernel_rfl) (by kernel_rfl) (by kernel_rfl) (fun _ _ _ h => h) (Or.inl ⟨rfl, fun _ _ => rfl⟩) hq ?_
      simp only [Act.put, List.setIfInBounds_toArray, List.set_cons_zero, List.set_cons_succ]
      refine takeL (i := 3) (v := _) rfl (by kernel_rfl) (by kernel_rfl) (by kernel_rfl) (fun _ _ _ h => h) (yieldsIf_cell rfl 3 _ rfl ⟨lb, j * 4, none⟩ rfl (.int .i64 s) _ (fun W' hW' => (hW'.cell (p := ⟨lb, j * 4, none⟩) hlb).trans c0) Try.underlying3 rfl) hq ?_
      simp only [Act.put, List.setIfInBounds_toArray, List.set_cons_zero, List.set_cons_succ]
      refine takeL (i := 4) (v := (.bool false)) rfl (by kernel_rfl) (by kernel_rfl) (by kernel_rfl) (fun _ _ _ h => h) (Or.inl ⟨rfl, fun W' _ => by go_simp⟩) hq ?_
      simp only [Act.put, List.setIfInBounds_toArray, List.set_cons_zero, List.set_cons_succ]
      refine takeL (i := 5) (v := (.bool false)) rfl (by kernel_rfl) (by kernel_rfl) (by kernel_rfl) (fun _ _ _ h => h) (Or.inl ⟨rfl, fun _ _ => rfl⟩) hq ?_
      simp only [Act.put, List.setIfInBounds_toArray, List.set_cons_zero, List.set_cons_succ]
      refine takeL (i := 6) (v := undef) rfl (by kernel_rfl) (by kernel_rfl) (by kernel_rfl) (fun _ _ _ h => h) (Or.inr ⟨rfl, rfl⟩) hq ?_
      simp only [Act.put, List.setIfInBounds_toArray, List.set_cons_zero, List.set_cons_succ]
      refine takeL (i := 7) (v := undef) rfl (by kernel_rfl) (by kernel_rfl) (by kernel_rfl) (fun _ _ _ h => h) (Or.inr ⟨rfl, rfl⟩) hq ?_
      simp only [Act.put, List.setIfInBounds_toArray, List.set_cons_zero, List.set_cons_succ]
      refine takeL (i := 8) (v := undef) rfl (by kernel_rfl) (by kernel_rfl) (by kernel_rfl) (fun _ _ _ h => h) (Or.inr ⟨rfl, rfl⟩) hq ?_
      simp only [Act.put, List.setIfInBounds_toArray, List.set_cons_zero, List.set_cons_succ]
      refine takeL (i := 9) (v := undef) rfl (by kernel_rfl) (by kernel_rfl) (by kernel_rfl) (fun _ _ _ h => h) (Or.inr ⟨rfl, rfl⟩) hq ?_
      simp only [Act.put, List.setIfInBounds_toArray, List.set_cons_zero, List.set_cons_succ]
      refine takeL (i := 10) (v := undef) rfl (by kernel_rfl) (by kernel_rfl) (by kernel_rfl) (fun _ _ _ h => h) (Or.inr ⟨rfl, rfl⟩) hq ?_
      simp only [Act.put, List.setIfInBounds_toArray, List.set_cons_zero, List.set_cons_succ]
      refine takeL (i := 11) (v := undef) rfl (by kernel_rfl) (by kernel_rfl) (by kernel_rfl) (fun _ _ _ h => h) (Or.inr ⟨rfl, rfl⟩) hq ?_
      simp only [Act.put, List.setIfInBounds_toArray, List.set_cons_zero, List.set_cons_succ]
      refine takeL (i := 12) (v := undef) rfl (by kernel_rfl) (by kernel_rfl) (by kernel_rfl) (fun _ _ _ h => h) (Or.inr ⟨rfl, rfl⟩) hq ?_
      simp only [Act.put, List.setIfInBounds_toArray, List.set_cons_zero, List.set_cons_succ]
      refine takeL (i := 13) (v := undef) rfl (by kernel_rfl) (by kernel_rfl) (by kernel_rfl) (fun _ _ _ h => h) (Or.inr ⟨rfl, rfl⟩) hq ?_
      simp only [Act.put, List.setIfInBounds_toArray, List.set_cons_zero, List.set_cons_succ]
      refine takeL (i := 14) (v := undef) rfl (by kernel_rfl) (by kernel_rfl) (by kernel_rfl) (fun _ _ _ h => h) (Or.inr ⟨rfl, rfl⟩) hq ?_
      simp only [Act.put, List.setIfInBounds_toArray, List.set_cons_zero, List.set_cons_succ]
      refine takeL (i := 15) (v := undef) rfl (by kernel_rfl) (by kernel_rfl) (by kernel_rfl) (fun _ _ _ h => h) (Or.inr ⟨rfl, rfl⟩) hq ?_
      simp only [Act.put, List.setIfInBounds_toArray, List.set_cons_zero, List.set_cons_succ]
      refine takeL (i := 16) (v := undef) rfl (by kernel_rfl) (by kernel_rfl) (by kernel_rfl) (fun _ _ _ h => h) (Or.inr ⟨rfl, rfl⟩) hq ?_
      simp only [Act.put, List.setIfInBounds_toArray, List.set_cons_zero, List.set_cons_succ]
      refine takeL (i := 17) (v := (.bool false)) rfl (by kernel_rfl) (by kernel_rfl) (by kernel_rfl) (fun _ _ _ h => h) (Or.inl ⟨rfl, fun _ _ => rfl⟩) hq ?_
      simp only [Act.put, List.setIfInBounds_toArray, List.set_cons_zero, List.set_cons_succ]
      refine takeL (i := 18) (v := (.bool false)) rfl (by kernel_rfl) (by kernel_rfl) (by kernel_rfl) (fun _ _ _ h => h) (Or.inl ⟨rfl, fun _ _ => rfl⟩) hq ?_
      simp only [Act.put, List.setIfInBounds_toArray, List.set_cons_zero, List.set_cons_succ]
      refine takeL (i := 19) (v := (.pointer (some ⟨lb, j * 4, none⟩))) rfl (by kernel_rfl) (by kernel_rfl) (by kernel_rfl) (fun _ _ _ h => h) (Or.inl ⟨rfl, fun _ _ => rfl⟩) hq ?_
      simp only [Act.put, List.setIfInBounds_toArray, List.set_cons_zero, List.set_cons_succ]
      refine takeL (i := 20) (v := (.pointer (some ⟨lb, j * 4, none⟩))) rfl (by kernel_rfl) (by kernel_rfl) (by kernel_rfl) (fun _ _ _ h => h) (Or.inl ⟨rfl, fun _ _ => rfl⟩) hq ?_
      simp only [Act.put, List.setIfInBounds_toArray, List.set_cons_zero, List.set_cons_succ]
      refine takeL (i := 21) (v := (.pointer (some ⟨lb, j * 4 + 1, none⟩))) rfl (by kernel_rfl) (by kernel_rfl) (by kernel_rfl) (fun _ _ _ h => h) (Or.inl ⟨rfl, fun _ _ => rfl⟩) hq ?_
      simp only [Act.put, List.setIfInBounds_toArray, List.set_cons_zero, List.set_cons_succ]
      refine takeL (i := 22) (v := _) rfl (by kernel_rfl) (by kernel_rfl) (by kernel_rfl) (fun _ _ _ h => h) (yieldsIf_cell rfl 69 _ rfl ⟨lb, j * 4 + 1, none⟩ rfl (.func (.func (trH j)) #[] #[]) _ (fun W' hW' => (hW'.cell (p := ⟨lb, j * 4 + 1, none⟩) hlb).trans c1) Try.underlying69 rfl) hq ?_
      simp only [Act.put, List.setIfInBounds_toArray, List.set_cons_zero, List.set_cons_succ]
      refine takeL (i := 23) (v := _) rfl (by kernel_rfl) (by kernel_rfl) (by kernel_rfl) (fun _ _ _ h => h) (yieldsIf_load_row rfl 68 _ rfl pb rfl #[.pointer (some ⟨g, k * 89, none⟩), .pointer (some ⟨X, 0, none⟩), .int .i64 k] _ _ HPBj.out Try.underlying68 rfl size_place) hq ?_
      simp only [Act.put, List.setIfInBounds_toArray, List.set_cons_zero, List.set_cons_succ]
      have hcf := tr_callH j hlt
      refine runG (i := 24) rfl (by rfl) (by kernel_rfl) (fun K hK => ?_)
      go_simp
      refine (HH.out j hlt wd (HEJ.out.trans hq)).mono ?_
      rintro e wy ⟨rfl, hx⟩
      have hq2 := hq.trans hx
      clear hx hq
      refine hK.out _ _ hq2 (fun hHeld => ?_)
      try simp only [Act.put, List.setIfInBounds_toArray, List.set_cons_zero, List.set_cons_succ]
      clear hK K hHeld
      cases hhb : HB j
      · refine takeL (i := 25) (v := (.bool true)) rfl (by kernel_rfl) (by kernel_rfl) (by kernel_rfl) (fun _ _ _ h => h) (Or.inl ⟨rfl, fun W' _ => by go_simp⟩) hq2 ?_
        simp only [Act.put, List.setIfInBounds_toArray, List.set_cons_zero, List.set_cons_succ]
        refine takeL (i := 26) (v := (.bool true)) rfl (by kernel_rfl) (by kernel_rfl) (by kernel_rfl) (fun _ _ _ h => h) (Or.inl ⟨rfl, fun _ _ => rfl⟩) hq2 ?_
        simp only [Act.put, List.setIfInBounds_toArray, List.set_cons_zero, List.set_cons_succ]
        refine wpAnyH_done (by kernel_rfl) ?_ _
        go_wp2_with fail
        go_step3
        refine ⟨rfl, ?_, ?_⟩
        · rw [HJ.out]
          exact ⟨j + 1, pb, lb, rfl, rfl, rfl, rfl, rfl, rfl, rfl, rfl, by omega, HEJ.out.trans hq2, hpw, hlw, (hq2.block _ hpb).trans HPBj.out, (hq2.block _ hlb).trans HLBj.out, Lib.hid (fun i hi => by
            by_cases e : i = j
            · subst e
              exact fun hm => by rw [hhb] at hm; exact absurd hm.2 (by simp)
            · exact HN.out.out i (by omega))⟩
        · rw [HMU.out]
          show 24 - (intOf (Value.int IntKind.i64 ((j : Int) + 1))).toNat < 24 - (intOf (Value.int IntKind.i64 (j : Int))).toNat
          simp [intOf]
          omega
      · refine takeL (i := 25) (v := (.bool false)) rfl (by kernel_rfl) (by kernel_rfl) (by kernel_rfl) (fun _ _ _ h => h) (Or.inl ⟨rfl, fun W' _ => by go_simp⟩) hq2 ?_
        simp only [Act.put, List.setIfInBounds_toArray, List.set_cons_zero, List.set_cons_succ]
        refine takeL (i := 26) (v := (.bool false)) rfl (by kernel_rfl) (by kernel_rfl) (by kernel_rfl) (fun _ _ _ h => h) (Or.inl ⟨rfl, fun _ _ => rfl⟩) hq2 ?_
        simp only [Act.put, List.setIfInBounds_toArray, List.set_cons_zero, List.set_cons_succ]
        refine wpAnyH_done (by kernel_rfl) ?_ _
        obtain rfl : r = j := by
          by_cases h1 : r < j
          · exact absurd (HYES.out (by omega)) (HN.out.out r h1)
          · by_cases h2 : j < r
            · exact absurd ⟨.inl (HSj.out.trans HA.out), hhb⟩ (HNO.out j h2)
            · omega
        have c2 := (cell_of_row _ _ (r * 4 + 2) _ _ _ HLBj.out).trans T2.out
        have hfl : ¬ F lb := fun hh => by have := HF.out _ hh; omega
        have hfp : ¬ F pb := fun hh => by have := HF.out _ hh; omega
        have hcf := tr_callD r hlt
        have hrb : ((r : Int) == 24) = false := hjb
        have HLy := Lib.hid ((hq2.block _ hlb).trans HLBj.out)
        have HPy := Lib.hid ((hq2.block _ hpb).trans HPBj.out)
        have hly := heap_lt HLy.out
        have hpy := heap_lt HPy.out
        have hEy := Lib.hid (HEJ.out.trans hq2)
        have hc2 := Lib.hid ((hq2.cell (p := ⟨lb, r * 4 + 2, none⟩) hlb).trans c2)
        clear hq2 c2 c0 c1 p19 d0
        go_wp2_with fail
        refine beginL (S := fun W' => Mut F wy W') (by kernel_rfl) ?_
        intro wd2 hq3
        have hm3 := hq3.mut F
        have hEd := Lib.hid (hEy.out.trans hq3)
        clear hq3
        refine takeL (i := 0) (v := (.int .i64 (r : Int))) rfl (by kernel_rfl) (by kernel_rfl) (by kernel_rfl) (fun _ _ _ h => h) (Or.inl ⟨rfl, fun _ _ => rfl⟩) hm3 ?_
        simp only [Act.put, List.setIfInBounds_toArray, List.set_cons_zero, List.set_cons_succ]
        refine takeL (i := 1) (v := (.pointer (some ⟨lb, r * 4, none⟩))) rfl (by kernel_rfl) (by kernel_rfl) (by kernel_rfl) (fun _ _ _ h => h) (Or.inl ⟨rfl, fun W' _ => by go_simp; exact fun h => absurd h (by omega)⟩) hm3 ?_
        simp only [Act.put, List.setIfInBounds_toArray, List.set_cons_zero, List.set_cons_succ]
        refine takeL (i := 2) (v := (.pointer (some ⟨lb, r * 4 + 2, none⟩))) rfl (by kernel_rfl) (by kernel_rfl) (by kernel_rfl) (fun _ _ _ h => h) (Or.inl ⟨rfl, fun _ _ => rfl⟩) hm3 ?_
        simp only [Act.put, List.setIfInBounds_toArray, List.set_cons_zero, List.set_cons_succ]
        refine takeL (i := 3) (v := _) rfl (by kernel_rfl) (by kernel_rfl) (by kernel_rfl) (fun _ _ _ h => h) (yieldsIf_cell rfl 70 _ rfl ⟨lb, r * 4 + 2, none⟩ rfl (.func (.func (trD r)) #[] #[]) _ (fun W' hW' => (hW'.cell (p := ⟨lb, r * 4 + 2, none⟩) hly hfl).trans hc2.out) Try.underlying70 rfl) hm3 ?_
        simp only [Act.put, List.setIfInBounds_toArray, List.set_cons_zero, List.set_cons_succ]
        refine takeL (i := 4) (v := _) rfl (by kernel_rfl) (by kernel_rfl) (by kernel_rfl) (fun _ _ _ h => h) (yieldsIf_rowS rfl 68 _ rfl pb rfl #[.pointer (some ⟨g, k * 89, none⟩), .pointer (some ⟨X, 0, none⟩), .int .i64 k] 68 _ (fun W' hW' => (hW'.heap hpy hfp).trans HPy.out) Try.underlying68 rfl size_place) hm3 ?_
        simp only [Act.put, List.setIfInBounds_toArray, List.set_cons_zero, List.set_cons_succ]
        refine runL (i := 5) rfl rfl (by kernel_rfl) (fun K hK => ?_)
        go_simp
        refine (HD.out r hlt hhb wd2 hEd.out).mono ?_
        rintro e wz ⟨rfl, hBz, hmz⟩
        have hm4 := hm3.trans hmz
        refine hK.out _ _ hm4 (fun hHeld => ?_)
        try simp only [Act.put, List.setIfInBounds_toArray, List.set_cons_zero, List.set_cons_succ]
        clear hK K hHeld
        refine wpAnyH_done (by kernel_rfl) ?_ _
        have HBz := Lib.hid hBz
        have HMz := Lib.hid ((hEy.out.mut F).trans hm4)
        have HLz := Lib.hid ((hm4.heap hly hfl).trans HLy.out)
        have HPz := Lib.hid ((hm4.heap hpy hfp).trans HPy.out)
        have c3 := (cell_of_row _ _ (r * 4 + 3) _ _ _ HLz.out).trans T3.out
        clear hBz hmz hm4 hm3
        by_cases hn2 : trN r = -2
        · have hres : RS = (true, AB r) := by rw [← HRS.out, if_neg h24, if_pos hn2]
          subst hres
          have hnb : (trN r != -2) = false := by rw [hn2]; decide
          clear hn2
          go_wp2_with fail
          try rw [Exit.noGoto_ret]
          go_ret
          exact ⟨rfl, HBz.out, HMz.out⟩
        · have hres : RS = (true, (AB r).setp k 19 (.int .i64 (trN r))) := by rw [← HRS.out, if_neg h24, if_neg hn2]
          subst hres
          have hnb : (trN r != -2) = true := by simpa using hn2
          clear hn2
          go_wp2_with fail
          refine wp_region_tail 9 (by kernel_rfl) (by kernel_rfl) ?_
          intro y hy
          have hyx : Ext wz y := by
            rw [hy]
            exact (Ext.refl _).drew
          clear hy
          obtain ⟨okA, hnA⟩ := HAB.out r hlt
          have hkA : k < (AB r).np := by rw [hnA]; exact hk
          have HY := Lib.hid (HBz.out.ext hyx)
          have HMY := Lib.hid (HMz.out.trans (hyx.mut F))
          have e0 : y.cell? ⟨pb, 0, none⟩ = some (.pointer (some ⟨g, k * 89, none⟩)) := (hyx.cell (p := ⟨pb, 0, none⟩) (heap_lt HPz.out)).trans ((cell_of_row _ _ _ _ _ _ HPz.out).trans rfl)
          have e3 := (hyx.cell (p := ⟨lb, r * 4 + 3, none⟩) (heap_lt HLz.out)).trans c3
          have e19 := (HY.out.cellg (i := k * 89 + 19) (lt89 hkA (by decide))).trans (okA.gi (k := k) hkA 19 rfl)
          have efr := HY.out.frozen
          clear c3 hyx
          simp only [List.take_succ_cons, List.take_zero, List.drop_succ_cons, List.drop_zero]
          have hr24 : (r : Int) < 24 := by omega
          have hr24n : ¬ (24 : Int) ≤ (r : Int) := by omega
          repeat still_step
          refine wpStill_nil ?_
          go_wp2_with fail
          try rw [Exit.noGoto_ret]
          go_ret
          exact ⟨rfl, HY.out.setp (k := k) (j := 19) hkA (by decide) _, HMY.out.setCell (.inl HY.out.F2) _⟩
    have hA1 : (s != -1) = true := by simpa using hA
    by_cases hB : s = st
    · have hB1 : (s != st) = false := by rw [hB]; simp
      have HBB := Lib.hid hB
      clear hB
      go_wp2_with fail
      refine beginL (S := fun W' => Ext wj W') (by kernel_rfl) ?_
      intro wd hq
      refine takeL (i := 0) (v := (.pointer (some ⟨lb, j * 4, none⟩))) rfl (by kernel_rfl) (by kernel_rfl) (by kernel_rfl) (fun _ _ _ h => h) (Or.inl ⟨rfl, fun _ _ => rfl⟩) hq ?_
      simp only [Act.put, List.setIfInBounds_toArray, List.set_cons_zero, List.set_cons_succ]
      refine takeL (i := 1) (v := (.pointer (some ⟨lb, j * 4, none⟩))) rfl (by kernel_rfl) (by kernel_rfl) (by kernel_rfl) (fun _ _ _ h => h) (Or.inl ⟨rfl, fun _ _ => rfl⟩) hq ?_
      simp only [Act.put, List.setIfInBounds_toArray, List.set_cons_zero, List.set_cons_succ]
      refine takeL (i := 2) (v := (.pointer (some ⟨lb, j * 4, none⟩))) rfl (by kernel_rfl) (by kernel_rfl) (by kernel_rfl) (fun _ _ _ h => h) (Or.inl ⟨rfl, fun _ _ => rfl⟩) hq ?_
      simp only [Act.put, List.setIfInBounds_toArray, List.set_cons_zero, List.set_cons_succ]
      refine takeL (i := 3) (v := _) rfl (by kernel_rfl) (by kernel_rfl) (by kernel_rfl) (fun _ _ _ h => h) (yieldsIf_cell rfl 3 _ rfl ⟨lb, j * 4, none⟩ rfl (.int .i64 s) _ (fun W' hW' => (hW'.cell (p := ⟨lb, j * 4, none⟩) hlb).trans c0) Try.underlying3 rfl) hq ?_
      simp only [Act.put, List.setIfInBounds_toArray, List.set_cons_zero, List.set_cons_succ]
      refine takeL (i := 4) (v := (.bool true)) rfl (by kernel_rfl) (by kernel_rfl) (by kernel_rfl) (fun _ _ _ h => h) (Or.inl ⟨rfl, fun W' _ => by go_simp⟩) hq ?_
      simp only [Act.put, List.setIfInBounds_toArray, List.set_cons_zero, List.set_cons_succ]
      refine takeL (i := 5) (v := (.bool true)) rfl (by kernel_rfl) (by kernel_rfl) (by kernel_rfl) (fun _ _ _ h => h) (Or.inl ⟨rfl, fun _ _ => rfl⟩) hq ?_
      simp only [Act.put, List.setIfInBounds_toArray, List.set_cons_zero, List.set_cons_succ]
      refine takeL (i := 6) (v := (.pointer (some ⟨lb, j * 4, none⟩))) rfl (by kernel_rfl) (by kernel_rfl) (by kernel_rfl) (fun _ _ _ h => h) (Or.inl ⟨rfl, fun _ _ => rfl⟩) hq ?_
      simp only [Act.put, List.setIfInBounds_toArray, List.set_cons_zero, List.set_cons_succ]
      refine takeL (i := 7) (v := (.pointer (some ⟨lb, j * 4, none⟩))) rfl (by kernel_rfl) (by kernel_rfl) (by kernel_rfl) (fun _ _ _ h => h) (Or.inl ⟨rfl, fun _ _ => rfl⟩) hq ?_
      simp only [Act.put, List.setIfInBounds_toArray, List.set_cons_zero, List.set_cons_succ]
      refine takeL (i := 8) (v := (.pointer (some ⟨lb, j * 4, none⟩))) rfl (by kernel_rfl) (by kernel_rfl) (by kernel_rfl) (fun _ _ _ h => h) (Or.inl ⟨rfl, fun _ _ => rfl⟩) hq ?_
      simp only [Act.put, List.setIfInBounds_toArray, List.set_cons_zero, List.set_cons_succ]
      refine takeL (i := 9) (v := _) rfl (by kernel_rfl) (by kernel_rfl) (by kernel_rfl) (fun _ _ _ h => h) (yieldsIf_cell rfl 3 _ rfl ⟨lb, j * 4, none⟩ rfl (.int .i64 s) _ (fun W' hW' => (hW'.cell (p := ⟨lb, j * 4, none⟩) hlb).trans c0) Try.underlying3 rfl) hq ?_
      simp only [Act.put, List.setIfInBounds_toArray, List.set_cons_zero, List.set_cons_succ]
      refine takeL (i := 10) (v := (.pointer (some ⟨pb, 0, none⟩))) rfl (by kernel_rfl) (by kernel_rfl) (by kernel_rfl) (fun _ _ _ h => h) (Or.inl ⟨rfl, fun _ _ => rfl⟩) hq ?_
      simp only [Act.put, List.setIfInBounds_toArray, List.set_cons_zero, List.set_cons_succ]
      refine takeL (i := 11) (v := _) rfl (by kernel_rfl) (by kernel_rfl) (by kernel_rfl) (fun _ _ _ h => h) (yieldsIf_cell rfl 56 _ rfl ⟨pb, 0, none⟩ rfl (.pointer (some ⟨g, k * 89, none⟩)) _ (fun W' hW' => (hW'.cell (p := ⟨pb, 0, none⟩) hpb).trans d0) Try.underlying56 rfl) hq ?_
      simp only [Act.put, List.setIfInBounds_toArray, List.set_cons_zero, List.set_cons_succ]
      refine takeL (i := 12) (v := (.pointer (some ⟨g, k * 89, none⟩))) rfl (by kernel_rfl) (by kernel_rfl) (by kernel_rfl) (fun _ _ _ h => h) (Or.inl ⟨rfl, fun _ _ => rfl⟩) hq ?_
      simp only [Act.put, List.setIfInBounds_toArray, List.set_cons_zero, List.set_cons_succ]
      refine takeL (i := 13) (v := (.pointer (some ⟨g, k * 89 + 15, none⟩))) rfl (by kernel_rfl) (by kernel_rfl) (by kernel_rfl) (fun _ _ _ h => h) (Or.inl ⟨rfl, fun _ _ => rfl⟩) hq ?_
      simp only [Act.put, List.setIfInBounds_toArray, List.set_cons_zero, List.set_cons_succ]
      refine takeL (i := 14) (v := (.pointer (some ⟨g, k * 89 + 19, none⟩))) rfl (by kernel_rfl) (by kernel_rfl) (by kernel_rfl) (fun _ _ _ h => h) (Or.inl ⟨rfl, fun _ _ => rfl⟩) hq ?_
      simp only [Act.put, List.setIfInBounds_toArray, List.set_cons_zero, List.set_cons_succ]
      refine takeL (i := 15) (v := _) rfl (by kernel_rfl) (by kernel_rfl) (by kernel_rfl) (fun _ _ _ h => h) (yieldsIf_cell rfl 3 _ rfl ⟨g, k * 89 + 19, none⟩ rfl (.int .i64 st) _ (fun W' hW' => (hW'.cell (p := ⟨g, k * 89 + 19, none⟩) hgj).trans p19) Try.underlying3 rfl) hq ?_
      simp only [Act.put, List.setIfInBounds_toArray, List.set_cons_zero, List.set_cons_succ]
      refine takeL (i := 16) (v := (.bool false)) rfl (by kernel_rfl) (by kernel_rfl) (by kernel_rfl) (fun _ _ _ h => h) (Or.inl ⟨rfl, fun W' _ => by go_simp⟩) hq ?_
      simp only [Act.put, List.setIfInBounds_toArray, List.set_cons_zero, List.set_cons_succ]
      refine takeL (i := 17) (v := (.bool false)) rfl (by kernel_rfl) (by kernel_rfl) (by kernel_rfl) (fun _ _ _ h => h) (Or.inl ⟨rfl, fun _ _ => rfl⟩) hq ?_
      simp only [Act.put, List.setIfInBounds_toArray, List.set_cons_zero, List.set_cons_succ]
      refine takeL (i := 18) (v := (.bool false)) rfl (by kernel_rfl) (by kernel_rfl) (by kernel_rfl) (fun _ _ _ h => h) (Or.inl ⟨rfl, fun _ _ => rfl⟩) hq ?_
      simp only [Act.put, List.setIfInBounds_toArray, List.set_cons_zero, List.set_cons_succ]
      refine takeL (i := 19) (v := (.pointer (some ⟨lb, j * 4, none⟩))) rfl (by kernel_rfl) (by kernel_rfl) (by kernel_rfl) (fun _ _ _ h => h) (Or.inl ⟨rfl, fun _ _ => rfl⟩) hq ?_
      simp only [Act.put, List.setIfInBounds_toArray, List.set_cons_zero, List.set_cons_succ]
      refine takeL (i := 20) (v := (.pointer (some ⟨lb, j * 4, none⟩))) rfl (by kernel_rfl) (by kernel_rfl) (by kernel_rfl) (fun _ _ _ h => h) (Or.inl ⟨rfl, fun _ _ => rfl⟩) hq ?_
      simp only [Act.put, List.setIfInBounds_toArray, List.set_cons_zero, List.set_cons_succ]
      refine takeL (i := 21) (v := (.pointer (some ⟨lb, j * 4 + 1, none⟩))) rfl (by kernel_rfl) (by kernel_rfl) (by kernel_rfl) (fun _ _ _ h => h) (Or.inl ⟨rfl, fun _ _ => rfl⟩) hq ?_
      simp only [Act.put, List.setIfInBounds_toArray, List.set_cons_zero, List.set_cons_succ]
      refine takeL (i := 22) (v := _) rfl (by kernel_rfl) (by kernel_rfl) (by kernel_rfl) (fun _ _ _ h => h) (yieldsIf_cell rfl 69 _ rfl ⟨lb, j * 4 + 1, none⟩ rfl (.func (.func (trH j)) #[] #[]) _ (fun W' hW' => (hW'.cell (p := ⟨lb, j * 4 + 1, none⟩) hlb).trans c1) Try.underlying69 rfl) hq ?_
      simp only [Act.put, List.setIfInBounds_toArray, List.set_cons_zero, List.set_cons_succ]
      refine takeL (i := 23) (v := _) rfl (by kernel_rfl) (by kernel_rfl) (by kernel_rfl) (fun _ _ _ h => h) (yieldsIf_load_row rfl 68 _ rfl pb rfl #[.pointer (some ⟨g, k * 89, none⟩), .pointer (some ⟨X, 0, none⟩), .int .i64 k] _ _ HPBj.out Try.underlying68 rfl size_place) hq ?_
      simp only [Act.put, List.setIfInBounds_toArray, List.set_cons_zero, List.set_cons_succ]
      have hcf := tr_callH j hlt
      refine runG (i := 24) rfl (by rfl) (by kernel_rfl) (fun K hK => ?_)
      go_simp
      refine (HH.out j hlt wd (HEJ.out.trans hq)).mono ?_
      rintro e wy ⟨rfl, hx⟩
      have hq2 := hq.trans hx
      clear hx hq
      refine hK.out _ _ hq2 (fun hHeld => ?_)
      try simp only [Act.put, List.setIfInBounds_toArray, List.set_cons_zero, List.set_cons_succ]
      clear hK K hHeld
      cases hhb : HB j
      · refine takeL (i := 25) (v := (.bool true)) rfl (by kernel_rfl) (by kernel_rfl) (by kernel_rfl) (fun _ _ _ h => h) (Or.inl ⟨rfl, fun W' _ => by go_simp⟩) hq2 ?_
        simp only [Act.put, List.setIfInBounds_toArray, List.set_cons_zero, List.set_cons_succ]
        refine takeL (i := 26) (v := (.bool true)) rfl (by kernel_rfl) (by kernel_rfl) (by kernel_rfl) (fun _ _ _ h => h) (Or.inl ⟨rfl, fun _ _ => rfl⟩) hq2 ?_
        simp only [Act.put, List.setIfInBounds_toArray, List.set_cons_zero, List.set_cons_succ]
        refine wpAnyH_done (by kernel_rfl) ?_ _
        go_wp2_with fail
        go_step3
        refine ⟨rfl, ?_, ?_⟩
        · rw [HJ.out]
          exact ⟨j + 1, pb, lb, rfl, rfl, rfl, rfl, rfl, rfl, rfl, rfl, by omega, HEJ.out.trans hq2, hpw, hlw, (hq2.block _ hpb).trans HPBj.out, (hq2.block _ hlb).trans HLBj.out, Lib.hid (fun i hi => by
            by_cases e : i = j
            · subst e
              exact fun hm => by rw [hhb] at hm; exact absurd hm.2 (by simp)
            · exact HN.out.out i (by omega))⟩
        · rw [HMU.out]
          show 24 - (intOf (Value.int IntKind.i64 ((j : Int) + 1))).toNat < 24 - (intOf (Value.int IntKind.i64 (j : Int))).toNat
          simp [intOf]
          omega
      · refine takeL (i := 25) (v := (.bool false)) rfl (by kernel_rfl) (by kernel_rfl) (by kernel_rfl) (fun _ _ _ h => h) (Or.inl ⟨rfl, fun W' _ => by go_simp⟩) hq2 ?_
        simp only [Act.put, List.setIfInBounds_toArray, List.set_cons_zero, List.set_cons_succ]
        refine takeL (i := 26) (v := (.bool false)) rfl (by kernel_rfl) (by kernel_rfl) (by kernel_rfl) (fun _ _ _ h => h) (Or.inl ⟨rfl, fun _ _ => rfl⟩) hq2 ?_
        simp only [Act.put, List.setIfInBounds_toArray, List.set_cons_zero, List.set_cons_succ]
        refine wpAnyH_done (by kernel_rfl) ?_ _
        obtain rfl : r = j := by
          by_cases h1 : r < j
          · exact absurd (HYES.out (by omega)) (HN.out.out r h1)
          · by_cases h2 : j < r
            · exact absurd ⟨.inr (by rw [HSj.out, HST.out]; exact HBB.out), hhb⟩ (HNO.out j h2)
            · omega
        have c2 := (cell_of_row _ _ (r * 4 + 2) _ _ _ HLBj.out).trans T2.out
        have hfl : ¬ F lb := fun hh => by have := HF.out _ hh; omega
        have hfp : ¬ F pb := fun hh => by have := HF.out _ hh; omega
        have hcf := tr_callD r hlt
        have hrb : ((r : Int) == 24) = false := hjb
        have HLy := Lib.hid ((hq2.block _ hlb).trans HLBj.out)
        have HPy := Lib.hid ((hq2.block _ hpb).trans HPBj.out)
        have hly := heap_lt HLy.out
        have hpy := heap_lt HPy.out
        have hEy := Lib.hid (HEJ.out.trans hq2)
        have hc2 := Lib.hid ((hq2.cell (p := ⟨lb, r * 4 + 2, none⟩) hlb).trans c2)
        clear hq2 c2 c0 c1 p19 d0
        go_wp2_with fail
        refine beginL (S := fun W' => Mut F wy W') (by kernel_rfl) ?_
        intro wd2 hq3
        have hm3 := hq3.mut F
        have hEd := Lib.hid (hEy.out.trans hq3)
        clear hq3
        refine takeL (i := 0) (v := (.int .i64 (r : Int))) rfl (by kernel_rfl) (by kernel_rfl) (by kernel_rfl) (fun _ _ _ h => h) (Or.inl ⟨rfl, fun _ _ => rfl⟩) hm3 ?_
        simp only [Act.put, List.setIfInBounds_toArray, List.set_cons_zero, List.set_cons_succ]
        refine takeL (i := 1) (v := (.pointer (some ⟨lb, r * 4, none⟩))) rfl (by kernel_rfl) (by kernel_rfl) (by kernel_rfl) (fun _ _ _ h => h) (Or.inl ⟨rfl, fun W' _ => by go_simp; exact fun h => absurd h (by omega)⟩) hm3 ?_
        simp only [Act.put, List.setIfInBounds_toArray, List.set_cons_zero, List.set_cons_succ]
        refine takeL (i := 2) (v := (.pointer (some ⟨lb, r * 4 + 2, none⟩))) rfl (by kernel_rfl) (by kernel_rfl) (by kernel_rfl) (fun _ _ _ h => h) (Or.inl ⟨rfl, fun _ _ => rfl⟩) hm3 ?_
        simp only [Act.put, List.setIfInBounds_toArray, List.set_cons_zero, List.set_cons_succ]
        refine takeL (i := 3) (v := _) rfl (by kernel_rfl) (by kernel_rfl) (by kernel_rfl) (fun _ _ _ h => h) (yieldsIf_cell rfl 70 _ rfl ⟨lb, r * 4 + 2, none⟩ rfl (.func (.func (trD r)) #[] #[]) _ (fun W' hW' => (hW'.cell (p := ⟨lb, r * 4 + 2, none⟩) hly hfl).trans hc2.out) Try.underlying70 rfl) hm3 ?_
        simp only [Act.put, List.setIfInBounds_toArray, List.set_cons_zero, List.set_cons_succ]
        refine takeL (i := 4) (v := _) rfl (by kernel_rfl) (by kernel_rfl) (by kernel_rfl) (fun _ _ _ h => h) (yieldsIf_rowS rfl 68 _ rfl pb rfl #[.pointer (some ⟨g, k * 89, none⟩), .pointer (some ⟨X, 0, none⟩), .int .i64 k] 68 _ (fun W' hW' => (hW'.heap hpy hfp).trans HPy.out) Try.underlying68 rfl size_place) hm3 ?_
        simp only [Act.put, List.setIfInBounds_toArray, List.set_cons_zero, List.set_cons_succ]
        refine runL (i := 5) rfl rfl (by kernel_rfl) (fun K hK => ?_)
        go_simp
        refine (HD.out r hlt hhb wd2 hEd.out).mono ?_
        rintro e wz ⟨rfl, hBz, hmz⟩
        have hm4 := hm3.trans hmz
        refine hK.out _ _ hm4 (fun hHeld => ?_)
        try simp only [Act.put, List.setIfInBounds_toArray, List.set_cons_zero, List.set_cons_succ]
        clear hK K hHeld
        refine wpAnyH_done (by kernel_rfl) ?_ _
        have HBz := Lib.hid hBz
        have HMz := Lib.hid ((hEy.out.mut F).trans hm4)
        have HLz := Lib.hid ((hm4.heap hly hfl).trans HLy.out)
        have HPz := Lib.hid ((hm4.heap hpy hfp).trans HPy.out)
        have c3 := (cell_of_row _ _ (r * 4 + 3) _ _ _ HLz.out).trans T3.out
        clear hBz hmz hm4 hm3
        by_cases hn2 : trN r = -2
        · have hres : RS = (true, AB r) := by rw [← HRS.out, if_neg h24, if_pos hn2]
          subst hres
          have hnb : (trN r != -2) = false := by rw [hn2]; decide
          clear hn2
          go_wp2_with fail
          try rw [Exit.noGoto_ret]
          go_ret
          exact ⟨rfl, HBz.out, HMz.out⟩
        · have hres : RS = (true, (AB r).setp k 19 (.int .i64 (trN r))) := by rw [← HRS.out, if_neg h24, if_neg hn2]
          subst hres
          have hnb : (trN r != -2) = true := by simpa using hn2
          clear hn2
          go_wp2_with fail
          refine wp_region_tail 9 (by kernel_rfl) (by kernel_rfl) ?_
          intro y hy
          have hyx : Ext wz y := by
            rw [hy]
            exact (Ext.refl _).drew
          clear hy
          obtain ⟨okA, hnA⟩ := HAB.out r hlt
          have hkA : k < (AB r).np := by rw [hnA]; exact hk
          have HY := Lib.hid (HBz.out.ext hyx)
          have HMY := Lib.hid (HMz.out.trans (hyx.mut F))
          have e0 : y.cell? ⟨pb, 0, none⟩ = some (.pointer (some ⟨g, k * 89, none⟩)) := (hyx.cell (p := ⟨pb, 0, none⟩) (heap_lt HPz.out)).trans ((cell_of_row _ _ _ _ _ _ HPz.out).trans rfl)
          have e3 := (hyx.cell (p := ⟨lb, r * 4 + 3, none⟩) (heap_lt HLz.out)).trans c3
          have e19 := (HY.out.cellg (i := k * 89 + 19) (lt89 hkA (by decide))).trans (okA.gi (k := k) hkA 19 rfl)
          have efr := HY.out.frozen
          clear c3 hyx
          simp only [List.take_succ_cons, List.take_zero, List.drop_succ_cons, List.drop_zero]
          have hr24 : (r : Int) < 24 := by omega
          have hr24n : ¬ (24 : Int) ≤ (r : Int) := by omega
          repeat still_step
          refine wpStill_nil ?_
          go_wp2_with fail
          try rw [Exit.noGoto_ret]
          go_ret
          exact ⟨rfl, HY.out.setp (k := k) (j := 19) hkA (by decide) _, HMY.out.setCell (.inl HY.out.F2) _⟩
    · have hB1 : (s != st) = true := by simpa using hB
      go_wp2_with fail
      refine beginL (S := fun W' => Ext wj W') (by kernel_rfl) ?_
      intro wd hq
      refine takeL (i := 0) (v := (.pointer (some ⟨lb, j * 4, none⟩))) rfl (by kernel_rfl) (by kernel_rfl) (by kernel_rfl) (fun _ _ _ h => h) (Or.inl ⟨rfl, fun _ _ => rfl⟩) hq ?_
      simp only [Act.put, List.setIfInBounds_toArray, List.set_cons_zero, List.set_cons_succ]
      refine takeL (i := 1) (v := (.pointer (some ⟨lb, j * 4, none⟩))) rfl (by kernel_rfl) (by kernel_rfl) (by kernel_rfl) (fun _ _ _ h => h) (Or.inl ⟨rfl, fun _ _ => rfl⟩) hq ?_
      simp only [Act.put, List.setIfInBounds_toArray, List.set_cons_zero, List.set_cons_succ]
      refine takeL (i := 2) (v := (.pointer (some ⟨lb, j * 4, none⟩))) rfl (by kernel_rfl) (by kernel_rfl) (by kernel_rfl) (fun _ _ _ h => h) (Or.inl ⟨rfl, fun _ _ => rfl⟩) hq ?_
      simp only [Act.put, List.setIfInBounds_toArray, List.set_cons_zero, List.set_cons_succ]
      refine takeL (i := 3) (v := _) rfl (by kernel_rfl) (by kernel_rfl) (by kernel_rfl) (fun _ _ _ h => h) (yieldsIf_cell rfl 3 _ rfl ⟨lb, j * 4, none⟩ rfl (.int .i64 s) _ (fun W' hW' => (hW'.cell (p := ⟨lb, j * 4, none⟩) hlb).trans c0) Try.underlying3 rfl) hq ?_
      simp only [Act.put, List.setIfInBounds_toArray, List.set_cons_zero, List.set_cons_succ]
      refine takeL (i := 4) (v := (.bool true)) rfl (by kernel_rfl) (by kernel_rfl) (by kernel_rfl) (fun _ _ _ h => h) (Or.inl ⟨rfl, fun W' _ => by go_simp⟩) hq ?_
      simp only [Act.put, List.setIfInBounds_toArray, List.set_cons_zero, List.set_cons_succ]
      refine takeL (i := 5) (v := (.bool true)) rfl (by kernel_rfl) (by kernel_rfl) (by kernel_rfl) (fun _ _ _ h => h) (Or.inl ⟨rfl, fun _ _ => rfl⟩) hq ?_
      simp only [Act.put, List.setIfInBounds_toArray, List.set_cons_zero, List.set_cons_succ]
      refine takeL (i := 6) (v := (.pointer (some ⟨lb, j * 4, none⟩))) rfl (by kernel_rfl) (by kernel_rfl) (by kernel_rfl) (fun _ _ _ h => h) (Or.inl ⟨rfl, fun _ _ => rfl⟩) hq ?_
      simp only [Act.put, List.setIfInBounds_toArray, List.set_cons_zero, List.set_cons_succ]
      refine takeL (i := 7) (v := (.pointer (some ⟨lb, j * 4, none⟩))) rfl (by kernel_rfl) (by kernel_rfl) (by kernel_rfl) (fun _ _ _ h => h) (Or.inl ⟨rfl, fun _ _ => rfl⟩) hq ?_
      simp only [Act.put, List.setIfInBounds_toArray, List.set_cons_zero, List.set_cons_succ]
      refine takeL (i := 8) (v := (.pointer (some ⟨lb, j * 4, none⟩))) rfl (by kernel_rfl) (by kernel_rfl) (by kernel_rfl) (fun _ _ _ h => h) (Or.inl ⟨rfl, fun _ _ => rfl⟩) hq ?_
      simp only [Act.put, List.setIfInBounds_toArray, List.set_cons_zero, List.set_cons_succ]
      refine takeL (i := 9) (v := _) rfl (by kernel_rfl) (by kernel_rfl) (by kernel_rfl) (fun _ _ _ h => h) (yieldsIf_cell rfl 3 _ rfl ⟨lb, j * 4, none⟩ rfl (.int .i64 s) _ (fun W' hW' => (hW'.cell (p := ⟨lb, j * 4, none⟩) hlb).trans c0) Try.underlying3 rfl) hq ?_
      simp only [Act.put, List.setIfInBounds_toArray, List.set_cons_zero, List.set_cons_succ]
      refine takeL (i := 10) (v := (.pointer (some ⟨pb, 0, none⟩))) rfl (by kernel_rfl) (by kernel_rfl) (by kernel_rfl) (fun _ _ _ h => h) (Or.inl ⟨rfl, fun _ _ => rfl⟩) hq ?_
      simp only [Act.put, List.setIfInBounds_toArray, List.set_cons_zero, List.set_cons_succ]
      refine takeL (i := 11) (v := _) rfl (by kernel_rfl) (by kernel_rfl) (by kernel_rfl) (fun _ _ _ h => h) (yieldsIf_cell rfl 56 _ rfl ⟨pb, 0, none⟩ rfl (.pointer (some ⟨g, k * 89, none⟩)) _ (fun W' hW' => (hW'.cell (p := ⟨pb, 0, none⟩) hpb).trans d0) Try.underlying56 rfl) hq ?_
      simp only [Act.put, List.setIfInBounds_toArray, List.set_cons_zero, List.set_cons_succ]
      refine takeL (i := 12) (v := (.pointer (some ⟨g, k * 89, none⟩))) rfl (by kernel_rfl) (by kernel_rfl) (by kernel_rfl) (fun _ _ _ h => h) (Or.inl ⟨rfl, fun _ _ => rfl⟩) hq ?_
      simp only [Act.put, List.setIfInBounds_toArray, List.set_cons_zero, List.set_cons_succ]
      refine takeL (i := 13) (v := (.pointer (some ⟨g, k * 89 + 15, none⟩))) rfl (by kernel_rfl) (by kernel_rfl) (by kernel_rfl) (fun _ _ _ h => h) (Or.inl ⟨rfl, fun _ _ => rfl⟩) hq ?_
      simp only [Act.put, List.setIfInBounds_toArray, List.set_cons_zero, List.set_cons_succ]
      refine takeL (i := 14) (v := (.pointer (some ⟨g, k * 89 + 19, none⟩))) rfl (by kernel_rfl) (by kernel_rfl) (by kernel_rfl) (fun _ _ _ h => h) (Or.inl ⟨rfl, fun _ _ => rfl⟩) hq ?_
      simp only [Act.put, List.setIfInBounds_toArray, List.set_cons_zero, List.set_cons_succ]
      refine takeL (i := 15) (v := _) rfl (by kernel_rfl) (by kernel_rfl) (by kernel_rfl) (fun _ _ _ h => h) (yieldsIf_cell rfl 3 _ rfl ⟨g, k * 89 + 19, none⟩ rfl (.int .i64 st) _ (fun W' hW' => (hW'.cell (p := ⟨g, k * 89 + 19, none⟩) hgj).trans p19) Try.underlying3 rfl) hq ?_
      simp only [Act.put, List.setIfInBounds_toArray, List.set_cons_zero, List.set_cons_succ]
      refine takeL (i := 16) (v := (.bool true)) rfl (by kernel_rfl) (by kernel_rfl) (by kernel_rfl) (fun _ _ _ h => h) (Or.inl ⟨rfl, fun W' _ => by go_simp⟩) hq ?_
      simp only [Act.put, List.setIfInBounds_toArray, List.set_cons_zero, List.set_cons_succ]
      refine takeL (i := 17) (v := (.bool true)) rfl (by kernel_rfl) (by kernel_rfl) (by kernel_rfl) (fun _ _ _ h => h) (Or.inl ⟨rfl, fun _ _ => rfl⟩) hq ?_
      simp only [Act.put, List.setIfInBounds_toArray, List.set_cons_zero, List.set_cons_succ]
      refine takeL (i := 18) (v := (.bool true)) rfl (by kernel_rfl) (by kernel_rfl) (by kernel_rfl) (fun _ _ _ h => h) (Or.inl ⟨rfl, fun _ _ => rfl⟩) hq ?_
      simp only [Act.put, List.setIfInBounds_toArray, List.set_cons_zero, List.set_cons_succ]
      refine takeL (i := 19) (v := undef) rfl (by kernel_rfl) (by kernel_rfl) (by kernel_rfl) (fun _ _ _ h => h) (Or.inr ⟨rfl, rfl⟩) hq ?_
      simp only [Act.put, List.setIfInBounds_toArray, List.set_cons_zero, List.set_cons_succ]
      refine takeL (i := 20) (v := undef) rfl (by kernel_rfl) (by kernel_rfl) (by kernel_rfl) (fun _ _ _ h => h) (Or.inr ⟨rfl, rfl⟩) hq ?_
      simp only [Act.put, List.setIfInBounds_toArray, List.set_cons_zero, List.set_cons_succ]
      refine takeL (i := 21) (v := undef) rfl (by kernel_rfl) (by kernel_rfl) (by kernel_rfl) (fun _ _ _ h => h) (Or.inr ⟨rfl, rfl⟩) hq ?_
      simp only [Act.put, List.setIfInBounds_toArray, List.set_cons_zero, List.set_cons_succ]
      refine takeL (i := 22) (v := undef) rfl (by kernel_rfl) (by kernel_rfl) (by kernel_rfl) (fun _ _ _ h => h) (Or.inr ⟨rfl, rfl⟩) hq ?_
      simp only [Act.put, List.setIfInBounds_toArray, List.set_cons_zero, List.set_cons_succ]
      refine takeL (i := 23) (v := undef) rfl (by kernel_rfl) (by kernel_rfl) (by kernel_rfl) (fun _ _ _ h => h) (Or.inr ⟨rfl, rfl⟩) hq ?_
      simp only [Act.put, List.setIfInBounds_toArray, List.set_cons_zero, List.set_cons_succ]
      refine takeL (i := 24) (v := undef) rfl (by kernel_rfl) (by kernel_rfl) (by kernel_rfl) (fun _ _ _ h => h) (Or.inr ⟨rfl, rfl⟩) hq ?_
      simp only [Act.put, List.setIfInBounds_toArray, List.set_cons_zero, List.set_cons_succ]
      refine takeL (i := 25) (v := undef) rfl (by kernel_rfl) (by kernel_rfl) (by kernel_rfl) (fun _ _ _ h => h) (Or.inr ⟨rfl, rfl⟩) hq ?_
      simp only [Act.put, List.setIfInBounds_toArray, List.set_cons_zero, List.set_cons_succ]
      refine takeL (i := 26) (v := (.bool true)) rfl (by kernel_rfl) (by kernel_rfl) (by kernel_rfl) (fun _ _ _ h => h) (Or.inl ⟨rfl, fun _ _ => rfl⟩) hq ?_
      simp only [Act.put, List.setIfInBounds_toArray, List.set_cons_zero, List.set_cons_succ]
      refine wpAnyH_done (by kernel_rfl) ?_ _
      all_goals
        go_wp2_with fail
        go_step3
        refine ⟨rfl, ?_, ?_⟩
        · rw [HJ.out]
          exact ⟨j + 1, pb, lb, rfl, rfl, rfl, rfl, rfl, rfl, rfl, rfl, by omega, HEJ.out.trans hq, hpw, hlw, (hq.block _ hpb).trans HPBj.out, (hq.block _ hlb).trans HLBj.out, Lib.hid (fun i hi => by
            by_cases e : i = j
            · subst e
              exact fun hm => by rw [HSj.out, HST.out] at hm; exact hm.1.elim hA hB
            · exact HN.out.out i (by omega))⟩
        · rw [HMU.out]
          show 24 - (intOf (Value.int IntKind.i64 ((j : Int) + 1))).toNat < 24 - (intOf (Value.int IntKind.i64 (j : Int))).toNat
          simp [intOf]
          omega


end Go.Proofs.Ytnblchilgaimhaa
