/- The machine that sends, by the document: what it does with a message. No statement is proved here. -/
import Derived.Test.YthlapkddgnpaeaaTxI
namespace Go.Proofs.Ythlapkddgnpaeaa
open Go.RowKit Go.BigFrame Go.WideShapes Go.ChangeShapes Go.Deep
set_option linter.unusedVariables false
set_option linter.unusedSimpArgs false

theorem own_ext {w w' : World} {base m n : Nat} {e : TypeId} {v : Value} {xs : List Value} (h : w.ownsRow base e m v n xs) (hx : Ext w w') : w'.ownsRow base e m v n xs := owns_keep h (fun g _ hg => hx.block g hg)
theorem oper_append_src {P : Program} {o : Oper} {a : Act} {w : World} {K : Act → World → Prop} {Q : Exit → Act → World → Prop} (s x : Operand) (t : TypeId)
    (ho : o.op = .call { callee := .builtin .append, args := #[s, x], argTypes := #[t, t] })
    (base : Nat) (e : TypeId) (i : TypeInfo) (z : Value) (size bytes : Nat) (ht : P.underlying t = some (.slice e)) (hi : P.info? e = some i) (hz : i.zero = some z)
    (hsize : i.size = size) (hby : i.bytes = bytes) (hzs : z.cells.size = size) (hsz : 0 < size)
    (v : Value) (n : Nat) (xs : List Value) (hs : a.eval s = v) (hown : w.ownsRow base e size v n xs)
    (ao : Option Addr) (m c : Nat) (news : List Value) (hx : a.eval x = .slice ao m c) (h0 : ao = none → m = 0 ∧ c = 0) (hl : news.length = m * size) (hnews : ∀ b, ao = some b → ∀ j u, news[j]? = some u → w.cell? (b.add j) = some u) (h1 : ∀ u ∈ news, u.oneCell' = true)
    (h63 : n + m ≤ maxLen) (hbytes : (n + m) * bytes ≤ 140737488355328) (hbase : base ≤ w.heap.size)
    (h : ∀ v' w', w'.ownsRow base e size v' (n + m) (xs ++ news) → w.grownBy w' v.ownBlock → K (a.put o.dst v') w') : Oper.wp P o a w K Q := by
  cases ao with
  | none =>
    obtain ⟨rfl, rfl⟩ := h0 rfl
    have hn : news = [] := List.eq_nil_of_length_eq_zero (by rw [hl]; exact Nat.zero_mul _)
    subst hn
    have hr := run_append_owned_none (P := P) (w := w) base t o.type e i size ht hi v n xs hown
    unfold Oper.wp execOp
    simp only [ho, resolve, invoke, builtin, Sem.run_bind, Sem.run_pure, Result.andThen_ok, List.map_toArray, List.map_cons, List.map_nil, hs, hx, hr]
    exact h v w (by simpa using hown) ⟨rfl, rfl, rfl, Nat.le_refl _, fun _ _ _ => rfl⟩
  | some ad =>
    obtain ⟨v', w', hr, h2, h3, h4, h5⟩ := run_append_own_at (P := P) w base t o.type e i z size bytes ht hi hz hsize hby hzs hsz v n xs hown ad m c news hl (hnews ad rfl) h1 h63 hbytes hbase
    unfold Oper.wp execOp
    simp only [ho, resolve, invoke, builtin, Sem.run_bind, Sem.run_pure, Result.andThen_ok, List.map_toArray, List.map_cons, List.map_nil, hs, hx, hr]
    exact h v' w' h2 h3

set_option maxRecDepth 100000 in
set_option maxHeartbeats 4000000 in
theorem txd_k4 (w : World) (F : Nat → Prop) (X g k : Nat) (B : Br) (h : BrG w F X g B) (ho : B.ok) (hk : k < B.np) (hn : B.np < 1000) (h44 : B.gb k 44 = true) (h50 : B.gb k 50 = false) (n8 : (B.gi k 8 == 0) = false) (h31 : B.gb k 31 = true) (hlt : B.gi k 14 < B.hi 6) (h45 : B.gb k 45 = false) (h87 : B.gi k 87 = 4) (hF : ∀ n, F n → n < w.heap.size) (h14 : 0 ≤ B.gi k 14 ∧ B.gi k 14 ≤ 100000) (h13 : 0 ≤ B.gi k 13) (hno : B.no ≤ 100000) :
    Calls Try.prog 19 #[.pointer (some ⟨X, 0, none⟩), .int .i64 k] w (fun e w' => e = .returned (.bool true) ∧ BrG w' (fun n => F n ∨ (w.heap.size ≤ n ∧ n < w'.heap.size)) X g ((((((((((B.sent k 0)).setp k 31 (.bool false))).setp k 48 (.bool false))).setp k 14 (.int .i64 (B.gi k 14 + 1)))).setp k 8 (.int .i64 (B.hi 4)))) ∧ Mut F w w') := by
  have HF := Lib.hid hF
  have H14 := Lib.hid h14
  have H13 := Lib.hid h13
  clear hF
  have hlt2 : decide (B.hi 6 ≤ B.gi k 14) = false := by simp; omega
  obtain ⟨hX, hg, hne⟩ := h.lt
  obtain ⟨cap2, c17, hc3, hc4⟩ := h.cell17 ho
  have hn8 : k < 1000 := by omega
  have h89 := Lib.hid (len89 ho hk)
  have hpr := h.range hk
  have hT0 := br_typed ho hk
  have HONE := Lib.hid hT0.one
  have f44 : (port B.ps k)[44]? = some (.bool true) := (tpB hT0 44 rfl).trans (by rw [pB_port (by decide), h44])
  have f50 : (port B.ps k)[50]? = some (.bool false) := (tpB hT0 50 rfl).trans (by rw [pB_port (by decide), h50])
  have f8 : (port B.ps k)[8]? = some (.int .i64 (B.gi k 8)) := (tpI hT0 8 rfl).trans (by rw [pI_port (by decide)])
  have f31 : (port B.ps k)[31]? = some (.bool true) := (tpB hT0 31 rfl).trans (by rw [pB_port (by decide), h31])
  have f14 : (port B.ps k)[14]? = some (.int .i64 (B.gi k 14)) := (tpI hT0 14 rfl).trans (by rw [pI_port (by decide)])
  have f45 : (port B.ps k)[45]? = some (.bool false) := (tpB hT0 45 rfl).trans (by rw [pB_port (by decide), h45])
  have f87 : (port B.ps k)[87]? = some (.int .i64 4) := (tpI hT0 87 rfl).trans (by rw [pI_port (by decide), h87])
  have f48 : (port B.ps k)[48]? = some (.bool (B.gb k 48)) := (tpB hT0 48 rfl).trans (by rw [pB_port (by decide)])
  obtain ⟨L, hL⟩ : ∃ L, port B.ps k = L := ⟨_, rfl⟩
  rw [hL] at hpr hT0 HONE f44 f50 f8 f31 f14 f45 f87 f48
  have HL := Lib.hid hL
  have HLEN := Lib.hid (tpL hT0)
  have HPR := Lib.hid hpr
  clear hL hpr
  have hpz := Lib.hid (show (Try.prog.info? 53).map (·.size) = some L.length by rw [HLEN.out]; exact size_port)
  have hps := Lib.hid (show (Try.prog.info? 53).map (·.size) = some L.toArray.size by rw [List.size_toArray]; exact hpz.out)
  have hpl := Lib.hid (show PZ.size = L.toArray.size by rw [size_PZ, List.size_toArray]; exact HLEN.out.symm)
  have hpo := Lib.hid (all_oneCell_toArray HONE.out)
  have hzp := zero_port
  clear hT0
  have HL_44 := Lib.hid f44
  clear f44
  have HL_50 := Lib.hid f50
  clear f50
  have HL_8 := Lib.hid f8
  clear f8
  have HL_31 := Lib.hid f31
  clear f31
  have HL_14 := Lib.hid f14
  clear f14
  have HL_45 := Lib.hid f45
  clear f45
  have HL_87 := Lib.hid f87
  clear f87
  have HL_48 := Lib.hid f48
  clear f48
  have x4 := (h.cellX ho (i := 4) (by decide)).trans (ho.hi 4 rfl)
  have Y4 := Lib.hid x4
  clear x4
  have x6 := (h.cellX ho (i := 6) (by decide)).trans (ho.hi 6 rfl)
  have Y6 := Lib.hid x6
  clear x6
  have Y17 := Lib.hid c17
  have H := Lib.hid h
  clear h
  go_enter Try.func19, Try.ntmps19
  go_upto_region 10 with (first
    | fail
    | ((with_reducible refine at_load 53 ?_); refine wpList_load_mid rfl 53 _ rfl g (k * 89) rfl L _ HPR.out Try.underlying53 rfl hpz.out ?_)
    | ((with_reducible refine at_store 53 ?_); refine wpList_store_new3 rfl rfl 53 _ _ _ rfl PZ L.toArray _ rfl ?_ rfl hps.out hpl.out (by rw [Array.all_toList]; exact hpo.out) ?_; · rfl
       intro z1 hz1
       have hx1 : Ext w z1 := by rw [hz1]; exact (Ext.refl _).alloc _
       have hq := heap_alloc_new w (.cells L.toArray 53)
       rw [← hz1] at hq
       obtain ⟨P0, hP0⟩ : ∃ n, w.heap.size = n := ⟨_, rfl⟩
       rw [hP0] at hq ⊢
       have hP_z1 : Pv z1 P0 0 L := Pv.box hq HLEN.out
       have HQ := Lib.hid hq
       have hXP : X ≠ P0 := by omega
       have hgP : g ≠ P0 := by omega
       have HW0 := Lib.hid hP0
       have x4_z1 : z1.cell? ⟨X, 4, none⟩ = some (.int .i64 (B.hi 4)) := cell_ext Y4.out hx1
       have x6_z1 : z1.cell? ⟨X, 6, none⟩ = some (.int .i64 (B.hi 6)) := cell_ext Y6.out hx1
       have x17_z1 : z1.cell? ⟨X, 17, none⟩ = some (.slice (some ⟨g, 0, none⟩) B.np cap2) := cell_ext Y17.out hx1
       have p44_z1 : z1.cell? ⟨P0, 44, none⟩ = some (.bool true) := (hP_z1.cell (j := 44) (by decide)).trans HL_44.out
       have p50_z1 : z1.cell? ⟨P0, 50, none⟩ = some (.bool false) := (hP_z1.cell (j := 50) (by decide)).trans HL_50.out
       have p8_z1 : z1.cell? ⟨P0, 8, none⟩ = some (.int .i64 (B.gi k 8)) := (hP_z1.cell (j := 8) (by decide)).trans HL_8.out
       have p31_z1 : z1.cell? ⟨P0, 31, none⟩ = some (.bool true) := (hP_z1.cell (j := 31) (by decide)).trans HL_31.out
       have p14_z1 : z1.cell? ⟨P0, 14, none⟩ = some (.int .i64 (B.gi k 14)) := (hP_z1.cell (j := 14) (by decide)).trans HL_14.out
       have p45_z1 : z1.cell? ⟨P0, 45, none⟩ = some (.bool false) := (hP_z1.cell (j := 45) (by decide)).trans HL_45.out
       have p87_z1 : z1.cell? ⟨P0, 87, none⟩ = some (.int .i64 4) := (hP_z1.cell (j := 87) (by decide)).trans HL_87.out
       have p48_z1 : z1.cell? ⟨P0, 48, none⟩ = some (.bool (B.gb k 48)) := (hP_z1.cell (j := 48) (by decide)).trans HL_48.out
       have HX1 := Lib.hid hx1
       clear hz1 hq hP0 c17 hx1))
  refine beginL (S := fun W' => Ext z1 W') (by kernel_rfl) ?_
  intro wd hqx
  have hq0 : Ext z1 wd := hqx
  refine takeL (i := 0) (v := (.pointer (some ⟨P0, 22, none⟩))) rfl (by kernel_rfl) (by kernel_rfl) (by kernel_rfl) (fun _ _ _ h => h) (Or.inl ⟨rfl, fun _ _ => rfl⟩) hq0 ?_
  simp only [Act.put, List.setIfInBounds_toArray, List.set_cons_zero, List.set_cons_succ]
  refine takeL (i := 1) (v := (.pointer (some ⟨P0, 31, none⟩))) rfl (by kernel_rfl) (by kernel_rfl) (by kernel_rfl) (fun _ _ _ h => h) (Or.inl ⟨rfl, fun _ _ => rfl⟩) hq0 ?_
  simp only [Act.put, List.setIfInBounds_toArray, List.set_cons_zero, List.set_cons_succ]
  refine takeL (i := 2) (v := _) rfl (by kernel_rfl) (by kernel_rfl) (by kernel_rfl) (fun _ _ _ h => h) (yieldsIf_cell rfl 4 _ rfl ⟨P0, 31, none⟩ rfl (.bool true) _ (fun W' hW' => ((hP_z1.ext hW').cell (j := 31) (by decide)).trans HL_31.out) Try.underlying4 rfl) hq0 ?_
  simp only [Act.put, List.setIfInBounds_toArray, List.set_cons_zero, List.set_cons_succ]
  refine takeL (i := 3) (v := (.bool false)) rfl (by kernel_rfl) (by kernel_rfl) (by kernel_rfl) (fun _ _ _ h => h) (Or.inl ⟨rfl, fun _ _ => rfl⟩) hq0 ?_
  simp only [Act.put, List.setIfInBounds_toArray, List.set_cons_zero, List.set_cons_succ]
  refine takeL (i := 4) (v := (.bool false)) rfl (by kernel_rfl) (by kernel_rfl) (by kernel_rfl) (fun _ _ _ h => h) (Or.inl ⟨rfl, fun _ _ => rfl⟩) hq0 ?_
  simp only [Act.put, List.setIfInBounds_toArray, List.set_cons_zero, List.set_cons_succ]
  refine takeL (i := 5) (v := (.pointer (some ⟨P0, 6, none⟩))) rfl (by kernel_rfl) (by kernel_rfl) (by kernel_rfl) (fun _ _ _ h => h) (Or.inl ⟨rfl, fun _ _ => rfl⟩) hq0 ?_
  simp only [Act.put, List.setIfInBounds_toArray, List.set_cons_zero, List.set_cons_succ]
  refine takeL (i := 6) (v := (.pointer (some ⟨P0, 14, none⟩))) rfl (by kernel_rfl) (by kernel_rfl) (by kernel_rfl) (fun _ _ _ h => h) (Or.inl ⟨rfl, fun _ _ => rfl⟩) hq0 ?_
  simp only [Act.put, List.setIfInBounds_toArray, List.set_cons_zero, List.set_cons_succ]
  refine takeL (i := 7) (v := _) rfl (by kernel_rfl) (by kernel_rfl) (by kernel_rfl) (fun _ _ _ h => h) (yieldsIf_cell rfl 3 _ rfl ⟨P0, 14, none⟩ rfl (.int .i64 (B.gi k 14)) _ (fun W' hW' => ((hP_z1.ext hW').cell (j := 14) (by decide)).trans HL_14.out) Try.underlying3 rfl) hq0 ?_
  simp only [Act.put, List.setIfInBounds_toArray, List.set_cons_zero, List.set_cons_succ]
  refine takeL (i := 8) (v := (.pointer (some ⟨X, 0, none⟩))) rfl (by kernel_rfl) (by kernel_rfl) (by kernel_rfl) (fun _ _ _ h => h) (Or.inl ⟨rfl, fun _ _ => rfl⟩) hq0 ?_
  simp only [Act.put, List.setIfInBounds_toArray, List.set_cons_zero, List.set_cons_succ]
  refine takeL (i := 9) (v := (.pointer (some ⟨X, 0, none⟩))) rfl (by kernel_rfl) (by kernel_rfl) (by kernel_rfl) (fun _ _ _ h => h) (Or.inl ⟨rfl, fun _ _ => rfl⟩) hq0 ?_
  simp only [Act.put, List.setIfInBounds_toArray, List.set_cons_zero, List.set_cons_succ]
  refine takeL (i := 10) (v := (.pointer (some ⟨X, 6, none⟩))) rfl (by kernel_rfl) (by kernel_rfl) (by kernel_rfl) (fun _ _ _ h => h) (Or.inl ⟨rfl, fun _ _ => rfl⟩) hq0 ?_
  simp only [Act.put, List.setIfInBounds_toArray, List.set_cons_zero, List.set_cons_succ]
  refine takeL (i := 11) (v := _) rfl (by kernel_rfl) (by kernel_rfl) (by kernel_rfl) (fun _ _ _ h => h) (yieldsIf_cell rfl 3 _ rfl ⟨X, 6, none⟩ rfl (.int .i64 (B.hi 6)) _ (fun W' hW' => cell_ext x6_z1 hW') Try.underlying3 rfl) hq0 ?_
  simp only [Act.put, List.setIfInBounds_toArray, List.set_cons_zero, List.set_cons_succ]
  refine takeL (i := 12) (v := (.bool false)) rfl (by kernel_rfl) (by kernel_rfl) (by kernel_rfl) (fun _ _ _ h => h) (Or.inl ⟨rfl, fun W' _ => by go_simp⟩) hq0 ?_
  simp only [Act.put, List.setIfInBounds_toArray, List.set_cons_zero, List.set_cons_succ]
  refine takeL (i := 13) (v := (.bool false)) rfl (by kernel_rfl) (by kernel_rfl) (by kernel_rfl) (fun _ _ _ h => h) (Or.inl ⟨rfl, fun _ _ => rfl⟩) hq0 ?_
  simp only [Act.put, List.setIfInBounds_toArray, List.set_cons_zero, List.set_cons_succ]
  refine wpAnyH_done (by kernel_rfl) ?_ _
  generalize wd = z2 at *
  have hP_z2 : Pv z2 P0 0 L := hP_z1.ext hq0
  have x4_z2 : z2.cell? ⟨X, 4, none⟩ = some (.int .i64 (B.hi 4)) := cell_ext x4_z1 hq0
  have x6_z2 : z2.cell? ⟨X, 6, none⟩ = some (.int .i64 (B.hi 6)) := cell_ext x6_z1 hq0
  have x17_z2 : z2.cell? ⟨X, 17, none⟩ = some (.slice (some ⟨g, 0, none⟩) B.np cap2) := cell_ext x17_z1 hq0
  have E_z2 : Pm P0 0 z1 z2 := Ext.pm hq0 P0 0
  have p44_z2 : z2.cell? ⟨P0, 44, none⟩ = some (.bool true) := (hP_z2.cell (j := 44) (by decide)).trans HL_44.out
  have p50_z2 : z2.cell? ⟨P0, 50, none⟩ = some (.bool false) := (hP_z2.cell (j := 50) (by decide)).trans HL_50.out
  have p8_z2 : z2.cell? ⟨P0, 8, none⟩ = some (.int .i64 (B.gi k 8)) := (hP_z2.cell (j := 8) (by decide)).trans HL_8.out
  have p31_z2 : z2.cell? ⟨P0, 31, none⟩ = some (.bool true) := (hP_z2.cell (j := 31) (by decide)).trans HL_31.out
  have p14_z2 : z2.cell? ⟨P0, 14, none⟩ = some (.int .i64 (B.gi k 14)) := (hP_z2.cell (j := 14) (by decide)).trans HL_14.out
  have p45_z2 : z2.cell? ⟨P0, 45, none⟩ = some (.bool false) := (hP_z2.cell (j := 45) (by decide)).trans HL_45.out
  have p87_z2 : z2.cell? ⟨P0, 87, none⟩ = some (.int .i64 4) := (hP_z2.cell (j := 87) (by decide)).trans HL_87.out
  have p48_z2 : z2.cell? ⟨P0, 48, none⟩ = some (.bool (B.gb k 48)) := (hP_z2.cell (j := 48) (by decide)).trans HL_48.out
  clear hP_z1 x4_z1 x6_z1 x17_z1 p44_z1 p50_z1 p8_z1 p31_z1 p14_z1 p45_z1 p87_z1 p48_z1
  clear hq0
  go_upto_region 21 with fail
  have HBz := Lib.hid (H.out.keep (fun n _ hn => (E_z2.1.heap (Nat.lt_of_lt_of_le hn HX1.out.size) (show ¬ n = P0 by have := HW0.out; omega)).trans (HX1.out.block n hn)))
  have HMz := Lib.hid (show Mut F w z2 from mut_new (HX1.out.mut F) E_z2.1 (by have := HW0.out; omega))
  have hrow := pv_row HQ.out HLEN.out E_z2 hP_z2
  obtain ⟨C, hC, hCb, hCz⟩ := HBz.out.br (by omega : 0 < B.np)
  have HC := Lib.hid hC
  have HCb := Lib.hid hCb
  have HCi := Lib.hid (show (Try.prog.info? 33).map (·.size) = some C.size by rw [hCz, ho.hd.1]; exact size_br)
  have hbb := HBz.out
  obtain ⟨-, -, cap3, cur, s2, s3, aX, bg, -, -, -, -, q2, -, -, -⟩ := hbb
  have c18 : z2.cell? ⟨X, 18, none⟩ = some s2 := by
    rw [cell_of_row _ _ _ _ _ _ aX]
    simp [ho.hd.1, Go.Proofs.Ythlapkddgnpaeaa.HL]
  have hcells : ∃ ao cp, s2 = .slice ao B.no cp ∧ B.no ≤ cp ∧ cp ≤ 9223372036854775807 ∧ (ao = none → B.no = 0 ∧ cp = 0) ∧ (∀ b, ao = some b → b.block < z2.heap.size ∧ ∀ j u, B.os[j]? = some u → z2.cell? (b.add j) = some u) := by
    obtain ⟨hl, ⟨rfl, hz⟩ | ⟨g3, cp, cu, rfl, -, hg3, h1, h2, h3, h4⟩⟩ := q2
    · exact ⟨none, 0, by rw [hz], by omega, by omega, fun _ => ⟨hz, rfl⟩, fun b hb => by cases hb⟩
    · unfold maxLen at h2
      refine ⟨some ⟨g3, 0, none⟩, cp, rfl, h1, by omega, (fun hh => by cases hh), fun b hb => ?_⟩
      cases hb
      refine ⟨heap_lt hg3, fun j u hu => ?_⟩
      rw [Addr.add_lit, Nat.zero_add, cell_of_row _ _ _ _ _ _ hg3]
      rw [← h4, List.getElem?_take] at hu
      split at hu
      · simpa using hu
      · cases hu
  obtain ⟨ao, cp, rfl, hcp, hcm, h0, hcl⟩ := hcells
  obtain ⟨i2, hi2, hz2, hs2, hb2⟩ := info_of info_sent
  have hlen : B.os.length = B.no * 18 := ho.os.1
  have HCL := Lib.hid hcl
  have H0 := Lib.hid h0
  have HI := Lib.hid (And.intro hi2 (And.intro hz2 (And.intro hs2 hb2)))
  have HLN := Lib.hid hlen
  have HON := Lib.hid (show ∀ u ∈ B.os, u.oneCell' = true from RowTyped.one ho.os)
  have HAX := Lib.hid aX
  obtain ⟨m0, m1, m2, m3, m4, m5, m6, m7, m8, m9, m10, m11, m12, m13, m14, m15, m16, hm⟩ := txMsg_form B k 0
  have HMF := Lib.hid hm
  have HB0 := Lib.hid (show Try.prog.built 56 [(0, .int .i64 (k : Int)), (1, .agg (txMsg B k 0))] = some (sentL k (txMsg B k 0)).toArray by rw [HMF.out]; exact sent_b0 _ _ _ _ _ _ _ _ _ _ _ _ _ _ _ _ _ _)
  have HB1 := Lib.hid (show Instr.fill (fun i => some (i * 18, 18)) ((Array.range (1 * 18)).map (SZ[· % SZ.size]!)) [(0, .agg (sentL k (txMsg B k 0)).toArray)] = some (sentL k (txMsg B k 0)).toArray by rw [HMF.out]; exact sent_b1 _ _ _ _ _ _ _ _ _ _ _ _ _ _ _ _ _ _)
  have HROW := Lib.hid hrow
  have hXs := heap_lt aX
  clear aX bg q2 hcl h0 hi2 hz2 hs2 hb2 hlen hC hCb hCz hm hrow
  have C18 := Lib.hid c18
  clear c18
  refine beginW (S := fun W' => Ext z2 W') (S2 := fun W' => Mut F z2 W') 19 (by kernel_rfl) ?_
  intro wd hqx
  have hq0 : Ext z2 wd := hqx
  refine takeW (i := 0) (z := 19) (v := (.pointer (some ⟨X, 0, none⟩))) rfl rfl (by kernel_rfl) (by kernel_rfl) (by kernel_rfl) (by kernel_rfl) (by kernel_rfl) (by kernel_rfl) (fun _ _ _ h => h) (Or.inl ⟨rfl, fun _ _ => rfl⟩) hq0 (hq0.mut F) ?_
  simp only [Act.put, List.setIfInBounds_toArray, List.set_cons_zero, List.set_cons_succ]
  refine takeW (i := 2) (z := 19) (v := (.pointer (some ⟨X, 0, none⟩))) rfl rfl (by kernel_rfl) (by kernel_rfl) (by kernel_rfl) (by kernel_rfl) (by kernel_rfl) (by kernel_rfl) (fun _ _ _ h => h) (Or.inl ⟨rfl, fun _ _ => rfl⟩) hq0 (hq0.mut F) ?_
  simp only [Act.put, List.setIfInBounds_toArray, List.set_cons_zero, List.set_cons_succ]
  refine takeW (i := 3) (z := 19) (v := (.pointer (some ⟨X, 0, none⟩))) rfl rfl (by kernel_rfl) (by kernel_rfl) (by kernel_rfl) (by kernel_rfl) (by kernel_rfl) (by kernel_rfl) (fun _ _ _ h => h) (Or.inl ⟨rfl, fun _ _ => rfl⟩) hq0 (hq0.mut F) ?_
  simp only [Act.put, List.setIfInBounds_toArray, List.set_cons_zero, List.set_cons_succ]
  refine takeW (i := 4) (z := 19) (v := (.pointer (some ⟨X, 18, none⟩))) rfl rfl (by kernel_rfl) (by kernel_rfl) (by kernel_rfl) (by kernel_rfl) (by kernel_rfl) (by kernel_rfl) (fun _ _ _ h => h) (Or.inl ⟨rfl, fun _ _ => rfl⟩) hq0 (hq0.mut F) ?_
  simp only [Act.put, List.setIfInBounds_toArray, List.set_cons_zero, List.set_cons_succ]
  refine takeW (i := 5) (z := 19) (v := _) rfl rfl (by kernel_rfl) (by kernel_rfl) (by kernel_rfl) (by kernel_rfl) (by kernel_rfl) (by kernel_rfl) (fun _ _ _ h => h) (yieldsIf_cell rfl 30 _ rfl ⟨X, 18, none⟩ rfl (.slice ao B.no cp) _ (fun W' hW' => (hW'.cell (p := ⟨X, 18, none⟩) hXs).trans C18.out) Try.underlying30 rfl) hq0 (hq0.mut F) ?_
  simp only [Act.put, List.setIfInBounds_toArray, List.set_cons_zero, List.set_cons_succ]
  refine takeW (i := 7) (z := 19) (v := (.int .i64 (k : Int))) rfl rfl (by kernel_rfl) (by kernel_rfl) (by kernel_rfl) (by kernel_rfl) (by kernel_rfl) (by kernel_rfl) (fun _ _ _ h => h) (Or.inl ⟨rfl, fun _ _ => rfl⟩) hq0 (hq0.mut F) ?_
  simp only [Act.put, List.setIfInBounds_toArray, List.set_cons_zero, List.set_cons_succ]
  refine takeW (i := 8) (z := 19) (v := (.pointer (some ⟨X, 0, none⟩))) rfl rfl (by kernel_rfl) (by kernel_rfl) (by kernel_rfl) (by kernel_rfl) (by kernel_rfl) (by kernel_rfl) (fun _ _ _ h => h) (Or.inl ⟨rfl, fun _ _ => rfl⟩) hq0 (hq0.mut F) ?_
  simp only [Act.put, List.setIfInBounds_toArray, List.set_cons_zero, List.set_cons_succ]
  refine takeW (i := 9) (z := 19) (v := (.pointer (some ⟨X, 0, none⟩))) rfl rfl (by kernel_rfl) (by kernel_rfl) (by kernel_rfl) (by kernel_rfl) (by kernel_rfl) (by kernel_rfl) (fun _ _ _ h => h) (Or.inl ⟨rfl, fun _ _ => rfl⟩) hq0 (hq0.mut F) ?_
  simp only [Act.put, List.setIfInBounds_toArray, List.set_cons_zero, List.set_cons_succ]
  refine takeW (i := 10) (z := 19) (v := _) rfl rfl (by kernel_rfl) (by kernel_rfl) (by kernel_rfl) (by kernel_rfl) (by kernel_rfl) (by kernel_rfl) (fun _ _ _ h => h) (yieldsIf_rowS rfl 33 _ rfl X rfl C _ _ (fun W' hW' => (hW'.block X hXs).trans HC.out) Try.underlying33 rfl HCi.out) hq0 (hq0.mut F) ?_
  simp only [Act.put, List.setIfInBounds_toArray, List.set_cons_zero, List.set_cons_succ]
  refine takeW (i := 11) (z := 19) (v := (.int .i64 (k : Int))) rfl rfl (by kernel_rfl) (by kernel_rfl) (by kernel_rfl) (by kernel_rfl) (by kernel_rfl) (by kernel_rfl) (fun _ _ _ h => h) (Or.inl ⟨rfl, fun _ _ => rfl⟩) hq0 (hq0.mut F) ?_
  simp only [Act.put, List.setIfInBounds_toArray, List.set_cons_zero, List.set_cons_succ]
  refine takeW (i := 12) (z := 19) (v := (.int .i64 0)) rfl rfl (by kernel_rfl) (by kernel_rfl) (by kernel_rfl) (by kernel_rfl) (by kernel_rfl) (by kernel_rfl) (fun _ _ _ h => h) (Or.inl ⟨rfl, fun _ _ => rfl⟩) hq0 (hq0.mut F) ?_
  simp only [Act.put, List.setIfInBounds_toArray, List.set_cons_zero, List.set_cons_succ]
  refine runW (i := 1) rfl rfl (by kernel_rfl) (fun _ h => h.mut F) (fun K hK => ?_)
  go_simp
  have hq1 := hq0.alloc (.cells #[] 56)
  have hO0 : (wd.alloc (.cells #[] 56)).ownsRow z2.heap.size 56 18 (.slice (some ⟨wd.heap.size, 0, none⟩) 0 0) 0 [] := ⟨rfl, .inr ⟨wd.heap.size, 0, #[], rfl, hq0.size, heap_alloc_new _ _, Nat.le_refl _, by decide, rfl, rfl⟩⟩
  refine hK.out _ _ hq1 (fun _ => ?_)
  try simp only [Act.put, List.setIfInBounds_toArray, List.set_cons_zero, List.set_cons_succ]
  clear hK K
  refine runW (i := 6) rfl rfl (by kernel_rfl) (fun _ h => h.mut F) (fun K hK => ?_)
  refine oper_append_src _ _ 30 rfl z2.heap.size 56 i2 (.agg SZ) 18 96 Try.underlying30 HI.out.1 HI.out.2.1 HI.out.2.2.1 HI.out.2.2.2 size_SZ (by decide) (.slice (some ⟨wd.heap.size, 0, none⟩) 0 0) 0 [] rfl hO0 ao B.no cp B.os rfl H0.out HLN.out ?hnews HON.out (by unfold maxLen; omega) (by omega) hq1.size ?hfin
  case hnews =>
    intro b hb j u hu
    obtain ⟨l1, l2⟩ := HCL.out b hb
    have := l2 j u hu
    have hbk : (b.add j).block = b.block := by unfold Addr.add; split <;> rfl
    rw [hq1.cell (p := b.add j) (by rw [hbk]; exact l1)]
    exact this
  case hfin =>
  intro v1 wa hOa hga
  rw [Nat.zero_add, List.nil_append] at hOa
  have hq2 : Ext z2 wa := Below.grown hq1 hga hq1.size (fun g hg => (hO0.lt g hg).1)
  obtain ⟨a1, k1, rfl⟩ := own_form hOa
  refine hK.out _ _ hq2 (fun _ => ?_)
  try simp only [Act.put, List.setIfInBounds_toArray, List.set_cons_zero, List.set_cons_succ]
  clear hK K hO0
  refine runW (i := 13) rfl rfl (by kernel_rfl) (fun _ h => h.mut F) (fun K hK => ?_)
  go_simp
  refine (txd_msg C B _ (HCb.out.ext hq2) ho k hk H13.out 0).mono ?_
  rintro e wm ⟨rfl, hxm⟩
  have hq3 := hq2.trans hxm
  have hOm := own_ext hOa hxm
  refine hK.out _ _ hq3 (fun _ => ?_)
  try simp only [Act.put, List.setIfInBounds_toArray, List.set_cons_zero, List.set_cons_succ]
  clear hK K hOa hxm
  refine takeW (i := 14) (z := 19) (v := (.agg (sentL k (txMsg B k 0)).toArray)) rfl rfl (by kernel_rfl) (by kernel_rfl) (by kernel_rfl) (by kernel_rfl) (by kernel_rfl) (by kernel_rfl) (fun _ _ _ h => h) (yieldsIf_build rfl 56 _ rfl [(0, .int .i64 (k : Int)), (1, .agg (txMsg B k 0))] rfl (sentL k (txMsg B k 0)).toArray HB0.out) hq3 (hq3.mut F) ?_
  simp only [Act.put, List.setIfInBounds_toArray, List.set_cons_zero, List.set_cons_succ]
  refine runW (i := 15) rfl rfl (by kernel_rfl) (fun _ h => h.mut F) (fun K hK => ?_)
  refine wp_buildSlice 30 56 1 _ rfl (sentL k (txMsg B k 0)).toArray i2 (.agg SZ) Try.underlying30 HI.out.1 HI.out.2.1 (by rw [HI.out.2.2.1]; decide) (by rw [HI.out.2.2.1]; decide) (by rw [HI.out.2.2.1, Array.toList_map]; exact HB1.out) ?_
  have hq4 := hq3.alloc (.cells (sentL k (txMsg B k 0)).toArray 56)
  refine hK.out _ _ hq4 (fun _ => ?_)
  try simp only [Act.put, List.setIfInBounds_toArray, List.set_cons_zero, List.set_cons_succ]
  clear hK K
  refine runW (i := 16) rfl rfl (by kernel_rfl) (fun _ h => h.mut F) (fun K hK => ?_)
  refine oper_append_src _ _ 30 rfl z2.heap.size 56 i2 (.agg SZ) 18 96 Try.underlying30 HI.out.1 HI.out.2.1 HI.out.2.2.1 HI.out.2.2.2 size_SZ (by decide) (.slice a1 B.no k1) B.no B.os rfl (hOm.alloc _) (some ⟨wm.heap.size, 0, none⟩) 1 1 (sentL k (txMsg B k 0)) rfl (fun hh => by cases hh) (by rw [sent_len]) ?hnews2 (sent_one _ _ _ _) (by unfold maxLen; omega) (by omega) hq4.size ?hfin2
  case hnews2 =>
    intro b hb j u hu
    cases hb
    exact World.news_of_block (heap_alloc_new wm _) j u (by simpa using hu)
  case hfin2 =>
  intro v2 wb hOb hgb
  have hq5 : Ext z2 wb := Below.grown hq4 hgb hq4.size (fun g hg => (hOm.lt g hg).1)
  obtain ⟨a2, k2, rfl⟩ := own_form hOb
  refine hK.out _ _ hq5 (fun _ => ?_)
  try simp only [Act.put, List.setIfInBounds_toArray, List.set_cons_zero, List.set_cons_succ]
  clear hK K hOm
  refine takeWb (i := 17) (z := 19) (v := (.pointer (some ⟨X, 0, none⟩))) rfl (by kernel_rfl) (by kernel_rfl) (by kernel_rfl) (by kernel_rfl) (fun _ _ _ h => h) (Or.inl ⟨rfl, fun _ _ => rfl⟩) hq5 (hq5.mut F) ?_
  simp only [Act.put, List.setIfInBounds_toArray, List.set_cons_zero, List.set_cons_succ]
  refine takeW (i := 18) (z := 19) (v := (.pointer (some ⟨X, 18, none⟩))) rfl rfl (by kernel_rfl) (by kernel_rfl) (by kernel_rfl) (by kernel_rfl) (by kernel_rfl) (by kernel_rfl) (fun _ _ _ h => h) (Or.inl ⟨rfl, fun _ _ => rfl⟩) hq5 (hq5.mut F) ?_
  simp only [Act.put, List.setIfInBounds_toArray, List.set_cons_zero, List.set_cons_succ]
  have d18 : wb.cell? ⟨X, 18, none⟩ = some (.slice ao B.no cp) := (hq5.cell (p := ⟨X, 18, none⟩) hXs).trans C18.out
  have f18 : wb.frozen? ⟨X, 18, none⟩ = false := frozen_of_row _ _ _ _ _ ((hq5.block X hXs).trans HAX.out)
  refine runWl (z := 19) rfl rfl (by kernel_rfl) (fun K hK => ?_)
  go_simp
  refine hK.out _ _ ((hq5.mut F).setCell (p := ⟨X, 18, none⟩) (.inl H.out.F1) _) (fun _ => ?_)
  try simp only [Act.put, List.setIfInBounds_toArray, List.set_cons_zero, List.set_cons_succ]
  clear hK K
  refine wpAnyH_done (by kernel_rfl) ?_ _
  have HB6 := Lib.hid (HBz.out.sended (k := k) (kind := 0) ho.hd.1 hq5.size (fun n hn' => hq5.block n hn') hOb)
  have HM6 := Lib.hid (HMz.out.trans ((hq5.mut F).setCell (p := ⟨X, 18, none⟩) (.inl H.out.F1) (.slice a2 (B.no + 1) k2)))
  have hr6 : (wb.setCell ⟨X, 18, none⟩ (.slice a2 (B.no + 1) k2)).heap[P0]? = some (.cells L.toArray 53 (0, 0)) := (heap_setCell_other _ _ _ _ (show P0 ≠ X from fun e => hXP e.symm)).trans ((hq5.block _ (heap_lt HROW.out)).trans HROW.out)
  have hz6 : z2.heap.size ≤ (wb.setCell ⟨X, 18, none⟩ (.slice a2 (B.no + 1) k2)).heap.size ∧ wb.heap.size ≤ (wb.setCell ⟨X, 18, none⟩ (.slice a2 (B.no + 1) k2)).heap.size := by
    rw [World.size_setCell]
    exact ⟨hq5.size, Nat.le_refl _⟩
  have HP0 := Lib.hid (show w.heap.size = P0 ∧ P0 < z2.heap.size from ⟨HW0.out, heap_lt HROW.out⟩)
  have okS := sent_ok ho hk hn8 0
  have x4_y1 : (wb.setCell ⟨X, 18, none⟩ (.slice a2 (B.no + 1) k2)).cell? ⟨X, 4, none⟩ = some (.int .i64 (B.hi 4)) := (HB6.out.cellX okS (i := 4) (by decide)).trans (okS.hi 4 rfl)
  obtain ⟨cap6, y17, hc7, hc8⟩ := HB6.out.cell17 okS
  have x17_y1 : (wb.setCell ⟨X, 18, none⟩ (.slice a2 (B.no + 1) k2)).cell? ⟨X, 17, none⟩ = some (.slice (some ⟨g, 0, none⟩) B.np cap6) := y17
  have hc5 : B.np ≤ cap6 ∧ cap6 ≤ 9223372036854775807 := ⟨hc7, hc8⟩
  clear HQ y17 d18 f18 hOb hgb hqx hq0 hq1 hq2 hq3 hq4 hq5 hga
  obtain ⟨y1, hy1⟩ : ∃ y, wb.setCell ⟨X, 18, none⟩ (.slice a2 (B.no + 1) k2) = y := ⟨_, rfl⟩
  rw [hy1] at HB6 HM6 hr6 hz6 x4_y1 x17_y1 ⊢
  clear hy1
  clear p44_z2 p50_z2 p8_z2 p31_z2 p14_z2 p45_z2 p87_z2 p48_z2 hP_z2 x4_z2 x6_z2 x17_z2 E_z2
  have HQ := Lib.hid hr6
  have hP_y1 : Pv y1 P0 0 L := Pv.box hr6 HLEN.out
  clear hr6
  have p31_y1 : y1.cell? ⟨P0, 31, none⟩ = some (.bool true) := (hP_y1.cell (j := 31) (by decide)).trans HL_31.out
  have p48_y1 : y1.cell? ⟨P0, 48, none⟩ = some (.bool (B.gb k 48)) := (hP_y1.cell (j := 48) (by decide)).trans HL_48.out
  have p14_y1 : y1.cell? ⟨P0, 14, none⟩ = some (.int .i64 (B.gi k 14)) := (hP_y1.cell (j := 14) (by decide)).trans HL_14.out
  have p8_y1 : y1.cell? ⟨P0, 8, none⟩ = some (.int .i64 (B.gi k 8)) := (hP_y1.cell (j := 8) (by decide)).trans HL_8.out
  have h14a := H14.out.1
  have h14b := H14.out.2
  go_upto_region 27 with (first
    | fail
    | ((with_reducible refine at_store 4 ?_); refine st_pv rfl rfl 4 _ _ rfl P0 0 31 _ hP_y1 _ #[.bool false] rfl rfl rfl (by exact (by decide : 31 + 1 ≤ 89)) (by kernel_rfl) rfl ?_
       intro y2 hp hm
       replace hp := pv_one hp HLEN.out (by decide)
       have hP_y2 : Pv y2 P0 0 (L.set 31 (.bool false)) := hp
       have E_y2 : Pm P0 0 y1 y2 := hm
       have x4_y2 : y2.cell? ⟨X, 4, none⟩ = some (.int .i64 (B.hi 4)) := cell_pm x4_y1 hm hXP
       have x17_y2 : y2.cell? ⟨X, 17, none⟩ = some (.slice (some ⟨g, 0, none⟩) B.np cap6) := cell_pm x17_y1 hm hXP
       have p31_y2 : y2.cell? ⟨P0, 31, none⟩ = some (.bool false) := (hP_y2.cell (j := 31) (by decide)).trans (get_same HLEN.out (by decide))
       have p48_y2 : y2.cell? ⟨P0, 48, none⟩ = some (.bool (B.gb k 48)) := (hP_y2.cell (j := 48) (by decide)).trans ((get_ne (by decide)).trans HL_48.out)
       have p14_y2 : y2.cell? ⟨P0, 14, none⟩ = some (.int .i64 (B.gi k 14)) := (hP_y2.cell (j := 14) (by decide)).trans ((get_ne (by decide)).trans HL_14.out)
       have p8_y2 : y2.cell? ⟨P0, 8, none⟩ = some (.int .i64 (B.gi k 8)) := (hP_y2.cell (j := 8) (by decide)).trans ((get_ne (by decide)).trans HL_8.out)
       clear hP_y1 x4_y1 x17_y1 p31_y1 p48_y1 p14_y1 p8_y1
       clear hp hm)
    | ((with_reducible refine at_store 4 ?_); refine st_pv rfl rfl 4 _ _ rfl P0 0 48 _ hP_y2 _ #[.bool false] rfl rfl rfl (by exact (by decide : 48 + 1 ≤ 89)) (by kernel_rfl) rfl ?_
       intro y3 hp hm
       replace hp := pv_one hp (len_set' HLEN.out) (by decide)
       have hP_y3 : Pv y3 P0 0 ((L.set 31 (.bool false)).set 48 (.bool false)) := hp
       have E_y3 : Pm P0 0 y1 y3 := E_y2.trans hm
       have x4_y3 : y3.cell? ⟨X, 4, none⟩ = some (.int .i64 (B.hi 4)) := cell_pm x4_y2 hm hXP
       have x17_y3 : y3.cell? ⟨X, 17, none⟩ = some (.slice (some ⟨g, 0, none⟩) B.np cap6) := cell_pm x17_y2 hm hXP
       have p31_y3 : y3.cell? ⟨P0, 31, none⟩ = some (.bool false) := (hP_y3.cell (j := 31) (by decide)).trans ((get_ne (by decide)).trans (get_same HLEN.out (by decide)))
       have p48_y3 : y3.cell? ⟨P0, 48, none⟩ = some (.bool false) := (hP_y3.cell (j := 48) (by decide)).trans (get_same (len_set' HLEN.out) (by decide))
       have p14_y3 : y3.cell? ⟨P0, 14, none⟩ = some (.int .i64 (B.gi k 14)) := (hP_y3.cell (j := 14) (by decide)).trans ((get_ne (by decide)).trans ((get_ne (by decide)).trans HL_14.out))
       have p8_y3 : y3.cell? ⟨P0, 8, none⟩ = some (.int .i64 (B.gi k 8)) := (hP_y3.cell (j := 8) (by decide)).trans ((get_ne (by decide)).trans ((get_ne (by decide)).trans HL_8.out))
       clear hP_y2 x4_y2 x17_y2 E_y2 p31_y2 p48_y2 p14_y2 p8_y2
       clear hp hm)
    | ((with_reducible refine at_store 3 ?_); refine st_pv rfl rfl 3 _ _ rfl P0 0 14 _ hP_y3 _ #[.int .i64 (B.gi k 14 + 1)] rfl rfl rfl (by exact (by decide : 14 + 1 ≤ 89)) (by kernel_rfl) rfl ?_
       intro y4 hp hm
       replace hp := pv_one hp (len_set' (len_set' HLEN.out)) (by decide)
       have hP_y4 : Pv y4 P0 0 (((L.set 31 (.bool false)).set 48 (.bool false)).set 14 (.int .i64 (B.gi k 14 + 1))) := hp
       have E_y4 : Pm P0 0 y1 y4 := E_y3.trans hm
       have x4_y4 : y4.cell? ⟨X, 4, none⟩ = some (.int .i64 (B.hi 4)) := cell_pm x4_y3 hm hXP
       have x17_y4 : y4.cell? ⟨X, 17, none⟩ = some (.slice (some ⟨g, 0, none⟩) B.np cap6) := cell_pm x17_y3 hm hXP
       have p31_y4 : y4.cell? ⟨P0, 31, none⟩ = some (.bool false) := (hP_y4.cell (j := 31) (by decide)).trans ((get_ne (by decide)).trans ((get_ne (by decide)).trans (get_same HLEN.out (by decide))))
       have p48_y4 : y4.cell? ⟨P0, 48, none⟩ = some (.bool false) := (hP_y4.cell (j := 48) (by decide)).trans ((get_ne (by decide)).trans (get_same (len_set' HLEN.out) (by decide)))
       have p14_y4 : y4.cell? ⟨P0, 14, none⟩ = some (.int .i64 (B.gi k 14 + 1)) := (hP_y4.cell (j := 14) (by decide)).trans (get_same (len_set' (len_set' HLEN.out)) (by decide))
       have p8_y4 : y4.cell? ⟨P0, 8, none⟩ = some (.int .i64 (B.gi k 8)) := (hP_y4.cell (j := 8) (by decide)).trans ((get_ne (by decide)).trans ((get_ne (by decide)).trans ((get_ne (by decide)).trans HL_8.out)))
       clear hP_y3 x4_y3 x17_y3 E_y3 p31_y3 p48_y3 p14_y3 p8_y3
       clear hp hm)
    | ((with_reducible refine at_store 3 ?_); refine st_pv rfl rfl 3 _ _ rfl P0 0 8 _ hP_y4 _ #[.int .i64 (B.hi 4)] rfl rfl rfl (by exact (by decide : 8 + 1 ≤ 89)) (by kernel_rfl) rfl ?_
       intro y5 hp hm
       replace hp := pv_one hp (len_set' (len_set' (len_set' HLEN.out))) (by decide)
       have hP_y5 : Pv y5 P0 0 ((((L.set 31 (.bool false)).set 48 (.bool false)).set 14 (.int .i64 (B.gi k 14 + 1))).set 8 (.int .i64 (B.hi 4))) := hp
       have E_y5 : Pm P0 0 y1 y5 := E_y4.trans hm
       have x4_y5 : y5.cell? ⟨X, 4, none⟩ = some (.int .i64 (B.hi 4)) := cell_pm x4_y4 hm hXP
       have x17_y5 : y5.cell? ⟨X, 17, none⟩ = some (.slice (some ⟨g, 0, none⟩) B.np cap6) := cell_pm x17_y4 hm hXP
       have p31_y5 : y5.cell? ⟨P0, 31, none⟩ = some (.bool false) := (hP_y5.cell (j := 31) (by decide)).trans ((get_ne (by decide)).trans ((get_ne (by decide)).trans ((get_ne (by decide)).trans (get_same HLEN.out (by decide)))))
       have p48_y5 : y5.cell? ⟨P0, 48, none⟩ = some (.bool false) := (hP_y5.cell (j := 48) (by decide)).trans ((get_ne (by decide)).trans ((get_ne (by decide)).trans (get_same (len_set' HLEN.out) (by decide))))
       have p14_y5 : y5.cell? ⟨P0, 14, none⟩ = some (.int .i64 (B.gi k 14 + 1)) := (hP_y5.cell (j := 14) (by decide)).trans ((get_ne (by decide)).trans (get_same (len_set' (len_set' HLEN.out)) (by decide)))
       have p8_y5 : y5.cell? ⟨P0, 8, none⟩ = some (.int .i64 (B.hi 4)) := (hP_y5.cell (j := 8) (by decide)).trans (get_same (len_set' (len_set' (len_set' HLEN.out))) (by decide))
       clear hP_y4 x4_y4 x17_y4 E_y4 p31_y4 p48_y4 p14_y4 p8_y4
       clear hp hm))
  have HBy := Lib.hid (show BrG y5 (fun n => F n ∨ (w.heap.size ≤ n ∧ n < y5.heap.size)) X g (B.sent k 0) from (HB6.out.keep (fun n hf hn => E_y5.1.heap hn (show ¬ n = P0 from fun e => by
    have h1 := HP0.out
    rcases hf with hf | hf
    · have := HF.out n hf
      omega
    · omega))).mono (fun n hn => hn.imp id (fun h => ⟨by have := HP0.out; omega, Nat.lt_of_lt_of_le h.2 (Nat.le_trans hz6.2 E_y5.size)⟩)))
  have HMy := Lib.hid (show Mut F w y5 from mut_new HM6.out E_y5.1 (by have := HP0.out; omega))
  have hPf := hP_y5
  have hrw := pv_row HQ.out HLEN.out E_y5 hPf
  have hlen := Lib.hid hPf.len
  have hone := Lib.hid (show ∀ v ∈ (((((L.set 31 (.bool false)).set 48 (.bool false)).set 14 (.int .i64 (B.gi k 14 + 1))).set 8 (.int .i64 (B.hi 4))) : List Value), v.oneCell' = true from by
    have h0 := HONE.out
    exact (set_one (set_one (set_one (set_one h0 rfl) rfl) rfl) rfl))
  have HEQ := Lib.hid (show (B.sent k 0).setPort k ((((L.set 31 (.bool false)).set 48 (.bool false)).set 14 (.int .i64 (B.gi k 14 + 1))).set 8 (.int .i64 (B.hi 4))) = (((((((((B.sent k 0)).setp k 31 (.bool false))).setp k 48 (.bool false))).setp k 14 (.int .i64 (B.gi k 14 + 1)))).setp k 8 (.int .i64 (B.hi 4))) from (sp_s (j := 8) (v := .int .i64 (B.hi 4)) (sp_s (j := 14) (v := .int .i64 (B.gi k 14 + 1)) (sp_s (j := 48) (v := .bool false) (sp_s (j := 31) (v := .bool false) (sp_0 (Z := (B.sent k 0)) HL.out h89.out) HLEN.out h89.out (by decide)) (len_set' HLEN.out) h89.out (by decide)) (len_set' (len_set' HLEN.out)) h89.out (by decide)) (len_set' (len_set' (len_set' HLEN.out))) h89.out (by decide)))
  have c17y := x17_y5
  obtain ⟨N, hN⟩ : ∃ N, ((((L.set 31 (.bool false)).set 48 (.bool false)).set 14 (.int .i64 (B.gi k 14 + 1))).set 8 (.int .i64 (B.hi 4))) = N := ⟨_, rfl⟩
  rw [hN] at hrw hlen hone HEQ
  clear hN hPf
  refine wp_region_tail 7 (by kernel_rfl) (by kernel_rfl) ?_
  intro w9 hw9
  have hx9 : Ext y5 w9 := by
    rw [hw9]
    exact (Ext.refl _).drew
  have HB2 := Lib.hid ((hx9.block _ (heap_lt hrw)).trans hrw)
  have d17 := cell_ext c17y hx9
  have hBy := Lib.hid (HBy.out.ext hx9)
  have hMy := Lib.hid (HMy.out.trans (hx9.mut F))
  have hth := Lib.hid (hBy.out.there (show k < ((B.sent k 0)).np from hk))
  have HSZ := Lib.hid hx9.size
  clear hw9 hrw c17y hx9
  simp only [List.take_succ_cons, List.take_zero, List.drop_succ_cons, List.drop_zero]
  iterate 5 still_step
  refine wpStill_load_row rfl 53 _ rfl P0 rfl _ _ _ HB2.out Try.underlying53 rfl (by rw [List.size_toArray, hlen.out]; exact size_port) ?_
  simp only [Act.put, List.setIfInBounds_toArray, List.set_cons_zero, List.set_cons_succ]
  iterate 1 still_step
  refine wpStill_nil ?_
  refine wpList_store_mid rfl 53 _ _ rfl g (k * 89) _ rfl rfl (by rw [List.size_toArray, hlen.out]; exact hth.out) (by rw [List.size_toArray, hlen.out]; exact size_port) (all_oneCell_toArray hone.out) ?_
  go_wp2_with fail
  go_ret
  have hfin := hBy.out.setPort (show k < ((B.sent k 0)).np from hk) (l := N) hlen.out
  rw [HEQ.out] at hfin
  exact ⟨rfl, hfin.mono (fun n hn => hn.imp id (fun h => ⟨h.1, Nat.lt_of_lt_of_le (Nat.lt_of_lt_of_le h.2 HSZ.out) (Mut.setCells (F := F) (.inl H.out.F2) _ _ (Mut.refl F w9)).size⟩)), Mut.setCells (.inl H.out.F2) _ _ hMy.out⟩

set_option maxRecDepth 100000 in
set_option maxHeartbeats 4000000 in
theorem txd_k3 (w : World) (F : Nat → Prop) (X g k : Nat) (B : Br) (h : BrG w F X g B) (ho : B.ok) (hk : k < B.np) (hn : B.np < 1000) (h44 : B.gb k 44 = true) (h50 : B.gb k 50 = false) (n8 : (B.gi k 8 == 0) = false) (h31 : B.gb k 31 = true) (hlt : B.gi k 14 < B.hi 6) (h45 : B.gb k 45 = false) (h87 : B.gi k 87 = 3) (hF : ∀ n, F n → n < w.heap.size) (h14 : 0 ≤ B.gi k 14 ∧ B.gi k 14 ≤ 100000) (h13 : 0 ≤ B.gi k 13) (hno : B.no ≤ 100000) :
    Calls Try.prog 19 #[.pointer (some ⟨X, 0, none⟩), .int .i64 k] w (fun e w' => e = .returned (.bool true) ∧ BrG w' (fun n => F n ∨ (w.heap.size ≤ n ∧ n < w'.heap.size)) X g ((((((((B.sent k 1)).setp k 31 (.bool false))).setp k 14 (.int .i64 (B.gi k 14 + 1)))).setp k 8 (.int .i64 (B.hi 4)))) ∧ Mut F w w') := by
  have HF := Lib.hid hF
  have H14 := Lib.hid h14
  have H13 := Lib.hid h13
  clear hF
  have hlt2 : decide (B.hi 6 ≤ B.gi k 14) = false := by simp; omega
  obtain ⟨hX, hg, hne⟩ := h.lt
  obtain ⟨cap2, c17, hc3, hc4⟩ := h.cell17 ho
  have hn8 : k < 1000 := by omega
  have h89 := Lib.hid (len89 ho hk)
  have hpr := h.range hk
  have hT0 := br_typed ho hk
  have HONE := Lib.hid hT0.one
  have f44 : (port B.ps k)[44]? = some (.bool true) := (tpB hT0 44 rfl).trans (by rw [pB_port (by decide), h44])
  have f50 : (port B.ps k)[50]? = some (.bool false) := (tpB hT0 50 rfl).trans (by rw [pB_port (by decide), h50])
  have f8 : (port B.ps k)[8]? = some (.int .i64 (B.gi k 8)) := (tpI hT0 8 rfl).trans (by rw [pI_port (by decide)])
  have f31 : (port B.ps k)[31]? = some (.bool true) := (tpB hT0 31 rfl).trans (by rw [pB_port (by decide), h31])
  have f14 : (port B.ps k)[14]? = some (.int .i64 (B.gi k 14)) := (tpI hT0 14 rfl).trans (by rw [pI_port (by decide)])
  have f45 : (port B.ps k)[45]? = some (.bool false) := (tpB hT0 45 rfl).trans (by rw [pB_port (by decide), h45])
  have f87 : (port B.ps k)[87]? = some (.int .i64 3) := (tpI hT0 87 rfl).trans (by rw [pI_port (by decide), h87])
  have f48 : (port B.ps k)[48]? = some (.bool (B.gb k 48)) := (tpB hT0 48 rfl).trans (by rw [pB_port (by decide)])
  obtain ⟨L, hL⟩ : ∃ L, port B.ps k = L := ⟨_, rfl⟩
  rw [hL] at hpr hT0 HONE f44 f50 f8 f31 f14 f45 f87 f48
  have HL := Lib.hid hL
  have HLEN := Lib.hid (tpL hT0)
  have HPR := Lib.hid hpr
  clear hL hpr
  have hpz := Lib.hid (show (Try.prog.info? 53).map (·.size) = some L.length by rw [HLEN.out]; exact size_port)
  have hps := Lib.hid (show (Try.prog.info? 53).map (·.size) = some L.toArray.size by rw [List.size_toArray]; exact hpz.out)
  have hpl := Lib.hid (show PZ.size = L.toArray.size by rw [size_PZ, List.size_toArray]; exact HLEN.out.symm)
  have hpo := Lib.hid (all_oneCell_toArray HONE.out)
  have hzp := zero_port
  clear hT0
  have HL_44 := Lib.hid f44
  clear f44
  have HL_50 := Lib.hid f50
  clear f50
  have HL_8 := Lib.hid f8
  clear f8
  have HL_31 := Lib.hid f31
  clear f31
  have HL_14 := Lib.hid f14
  clear f14
  have HL_45 := Lib.hid f45
  clear f45
  have HL_87 := Lib.hid f87
  clear f87
  have HL_48 := Lib.hid f48
  clear f48
  have x4 := (h.cellX ho (i := 4) (by decide)).trans (ho.hi 4 rfl)
  have Y4 := Lib.hid x4
  clear x4
  have x6 := (h.cellX ho (i := 6) (by decide)).trans (ho.hi 6 rfl)
  have Y6 := Lib.hid x6
  clear x6
  have Y17 := Lib.hid c17
  have H := Lib.hid h
  clear h
  go_enter Try.func19, Try.ntmps19
  go_upto_region 10 with (first
    | fail
    | ((with_reducible refine at_load 53 ?_); refine wpList_load_mid rfl 53 _ rfl g (k * 89) rfl L _ HPR.out Try.underlying53 rfl hpz.out ?_)
    | ((with_reducible refine at_store 53 ?_); refine wpList_store_new3 rfl rfl 53 _ _ _ rfl PZ L.toArray _ rfl ?_ rfl hps.out hpl.out (by rw [Array.all_toList]; exact hpo.out) ?_; · rfl
       intro z1 hz1
       have hx1 : Ext w z1 := by rw [hz1]; exact (Ext.refl _).alloc _
       have hq := heap_alloc_new w (.cells L.toArray 53)
       rw [← hz1] at hq
       obtain ⟨P0, hP0⟩ : ∃ n, w.heap.size = n := ⟨_, rfl⟩
       rw [hP0] at hq ⊢
       have hP_z1 : Pv z1 P0 0 L := Pv.box hq HLEN.out
       have HQ := Lib.hid hq
       have hXP : X ≠ P0 := by omega
       have hgP : g ≠ P0 := by omega
       have HW0 := Lib.hid hP0
       have x4_z1 : z1.cell? ⟨X, 4, none⟩ = some (.int .i64 (B.hi 4)) := cell_ext Y4.out hx1
       have x6_z1 : z1.cell? ⟨X, 6, none⟩ = some (.int .i64 (B.hi 6)) := cell_ext Y6.out hx1
       have x17_z1 : z1.cell? ⟨X, 17, none⟩ = some (.slice (some ⟨g, 0, none⟩) B.np cap2) := cell_ext Y17.out hx1
       have p44_z1 : z1.cell? ⟨P0, 44, none⟩ = some (.bool true) := (hP_z1.cell (j := 44) (by decide)).trans HL_44.out
       have p50_z1 : z1.cell? ⟨P0, 50, none⟩ = some (.bool false) := (hP_z1.cell (j := 50) (by decide)).trans HL_50.out
       have p8_z1 : z1.cell? ⟨P0, 8, none⟩ = some (.int .i64 (B.gi k 8)) := (hP_z1.cell (j := 8) (by decide)).trans HL_8.out
       have p31_z1 : z1.cell? ⟨P0, 31, none⟩ = some (.bool true) := (hP_z1.cell (j := 31) (by decide)).trans HL_31.out
       have p14_z1 : z1.cell? ⟨P0, 14, none⟩ = some (.int .i64 (B.gi k 14)) := (hP_z1.cell (j := 14) (by decide)).trans HL_14.out
       have p45_z1 : z1.cell? ⟨P0, 45, none⟩ = some (.bool false) := (hP_z1.cell (j := 45) (by decide)).trans HL_45.out
       have p87_z1 : z1.cell? ⟨P0, 87, none⟩ = some (.int .i64 3) := (hP_z1.cell (j := 87) (by decide)).trans HL_87.out
       have p48_z1 : z1.cell? ⟨P0, 48, none⟩ = some (.bool (B.gb k 48)) := (hP_z1.cell (j := 48) (by decide)).trans HL_48.out
       have HX1 := Lib.hid hx1
       clear hz1 hq hP0 c17 hx1))
  refine beginL (S := fun W' => Ext z1 W') (by kernel_rfl) ?_
  intro wd hqx
  have hq0 : Ext z1 wd := hqx
  refine takeL (i := 0) (v := (.pointer (some ⟨P0, 22, none⟩))) rfl (by kernel_rfl) (by kernel_rfl) (by kernel_rfl) (fun _ _ _ h => h) (Or.inl ⟨rfl, fun _ _ => rfl⟩) hq0 ?_
  simp only [Act.put, List.setIfInBounds_toArray, List.set_cons_zero, List.set_cons_succ]
  refine takeL (i := 1) (v := (.pointer (some ⟨P0, 31, none⟩))) rfl (by kernel_rfl) (by kernel_rfl) (by kernel_rfl) (fun _ _ _ h => h) (Or.inl ⟨rfl, fun _ _ => rfl⟩) hq0 ?_
  simp only [Act.put, List.setIfInBounds_toArray, List.set_cons_zero, List.set_cons_succ]
  refine takeL (i := 2) (v := _) rfl (by kernel_rfl) (by kernel_rfl) (by kernel_rfl) (fun _ _ _ h => h) (yieldsIf_cell rfl 4 _ rfl ⟨P0, 31, none⟩ rfl (.bool true) _ (fun W' hW' => ((hP_z1.ext hW').cell (j := 31) (by decide)).trans HL_31.out) Try.underlying4 rfl) hq0 ?_
  simp only [Act.put, List.setIfInBounds_toArray, List.set_cons_zero, List.set_cons_succ]
  refine takeL (i := 3) (v := (.bool false)) rfl (by kernel_rfl) (by kernel_rfl) (by kernel_rfl) (fun _ _ _ h => h) (Or.inl ⟨rfl, fun _ _ => rfl⟩) hq0 ?_
  simp only [Act.put, List.setIfInBounds_toArray, List.set_cons_zero, List.set_cons_succ]
  refine takeL (i := 4) (v := (.bool false)) rfl (by kernel_rfl) (by kernel_rfl) (by kernel_rfl) (fun _ _ _ h => h) (Or.inl ⟨rfl, fun _ _ => rfl⟩) hq0 ?_
  simp only [Act.put, List.setIfInBounds_toArray, List.set_cons_zero, List.set_cons_succ]
  refine takeL (i := 5) (v := (.pointer (some ⟨P0, 6, none⟩))) rfl (by kernel_rfl) (by kernel_rfl) (by kernel_rfl) (fun _ _ _ h => h) (Or.inl ⟨rfl, fun _ _ => rfl⟩) hq0 ?_
  simp only [Act.put, List.setIfInBounds_toArray, List.set_cons_zero, List.set_cons_succ]
  refine takeL (i := 6) (v := (.pointer (some ⟨P0, 14, none⟩))) rfl (by kernel_rfl) (by kernel_rfl) (by kernel_rfl) (fun _ _ _ h => h) (Or.inl ⟨rfl, fun _ _ => rfl⟩) hq0 ?_
  simp only [Act.put, List.setIfInBounds_toArray, List.set_cons_zero, List.set_cons_succ]
  refine takeL (i := 7) (v := _) rfl (by kernel_rfl) (by kernel_rfl) (by kernel_rfl) (fun _ _ _ h => h) (yieldsIf_cell rfl 3 _ rfl ⟨P0, 14, none⟩ rfl (.int .i64 (B.gi k 14)) _ (fun W' hW' => ((hP_z1.ext hW').cell (j := 14) (by decide)).trans HL_14.out) Try.underlying3 rfl) hq0 ?_
  simp only [Act.put, List.setIfInBounds_toArray, List.set_cons_zero, List.set_cons_succ]
  refine takeL (i := 8) (v := (.pointer (some ⟨X, 0, none⟩))) rfl (by kernel_rfl) (by kernel_rfl) (by kernel_rfl) (fun _ _ _ h => h) (Or.inl ⟨rfl, fun _ _ => rfl⟩) hq0 ?_
  simp only [Act.put, List.setIfInBounds_toArray, List.set_cons_zero, List.set_cons_succ]
  refine takeL (i := 9) (v := (.pointer (some ⟨X, 0, none⟩))) rfl (by kernel_rfl) (by kernel_rfl) (by kernel_rfl) (fun _ _ _ h => h) (Or.inl ⟨rfl, fun _ _ => rfl⟩) hq0 ?_
  simp only [Act.put, List.setIfInBounds_toArray, List.set_cons_zero, List.set_cons_succ]
  refine takeL (i := 10) (v := (.pointer (some ⟨X, 6, none⟩))) rfl (by kernel_rfl) (by kernel_rfl) (by kernel_rfl) (fun _ _ _ h => h) (Or.inl ⟨rfl, fun _ _ => rfl⟩) hq0 ?_
  simp only [Act.put, List.setIfInBounds_toArray, List.set_cons_zero, List.set_cons_succ]
  refine takeL (i := 11) (v := _) rfl (by kernel_rfl) (by kernel_rfl) (by kernel_rfl) (fun _ _ _ h => h) (yieldsIf_cell rfl 3 _ rfl ⟨X, 6, none⟩ rfl (.int .i64 (B.hi 6)) _ (fun W' hW' => cell_ext x6_z1 hW') Try.underlying3 rfl) hq0 ?_
  simp only [Act.put, List.setIfInBounds_toArray, List.set_cons_zero, List.set_cons_succ]
  refine takeL (i := 12) (v := (.bool false)) rfl (by kernel_rfl) (by kernel_rfl) (by kernel_rfl) (fun _ _ _ h => h) (Or.inl ⟨rfl, fun W' _ => by go_simp⟩) hq0 ?_
  simp only [Act.put, List.setIfInBounds_toArray, List.set_cons_zero, List.set_cons_succ]
  refine takeL (i := 13) (v := (.bool false)) rfl (by kernel_rfl) (by kernel_rfl) (by kernel_rfl) (fun _ _ _ h => h) (Or.inl ⟨rfl, fun _ _ => rfl⟩) hq0 ?_
  simp only [Act.put, List.setIfInBounds_toArray, List.set_cons_zero, List.set_cons_succ]
  refine wpAnyH_done (by kernel_rfl) ?_ _
  generalize wd = z2 at *
  have hP_z2 : Pv z2 P0 0 L := hP_z1.ext hq0
  have x4_z2 : z2.cell? ⟨X, 4, none⟩ = some (.int .i64 (B.hi 4)) := cell_ext x4_z1 hq0
  have x6_z2 : z2.cell? ⟨X, 6, none⟩ = some (.int .i64 (B.hi 6)) := cell_ext x6_z1 hq0
  have x17_z2 : z2.cell? ⟨X, 17, none⟩ = some (.slice (some ⟨g, 0, none⟩) B.np cap2) := cell_ext x17_z1 hq0
  have E_z2 : Pm P0 0 z1 z2 := Ext.pm hq0 P0 0
  have p44_z2 : z2.cell? ⟨P0, 44, none⟩ = some (.bool true) := (hP_z2.cell (j := 44) (by decide)).trans HL_44.out
  have p50_z2 : z2.cell? ⟨P0, 50, none⟩ = some (.bool false) := (hP_z2.cell (j := 50) (by decide)).trans HL_50.out
  have p8_z2 : z2.cell? ⟨P0, 8, none⟩ = some (.int .i64 (B.gi k 8)) := (hP_z2.cell (j := 8) (by decide)).trans HL_8.out
  have p31_z2 : z2.cell? ⟨P0, 31, none⟩ = some (.bool true) := (hP_z2.cell (j := 31) (by decide)).trans HL_31.out
  have p14_z2 : z2.cell? ⟨P0, 14, none⟩ = some (.int .i64 (B.gi k 14)) := (hP_z2.cell (j := 14) (by decide)).trans HL_14.out
  have p45_z2 : z2.cell? ⟨P0, 45, none⟩ = some (.bool false) := (hP_z2.cell (j := 45) (by decide)).trans HL_45.out
  have p87_z2 : z2.cell? ⟨P0, 87, none⟩ = some (.int .i64 3) := (hP_z2.cell (j := 87) (by decide)).trans HL_87.out
  have p48_z2 : z2.cell? ⟨P0, 48, none⟩ = some (.bool (B.gb k 48)) := (hP_z2.cell (j := 48) (by decide)).trans HL_48.out
  clear hP_z1 x4_z1 x6_z1 x17_z1 p44_z1 p50_z1 p8_z1 p31_z1 p14_z1 p45_z1 p87_z1 p48_z1
  clear hq0
  go_upto_region 21 with fail
  have HBz := Lib.hid (H.out.keep (fun n _ hn => (E_z2.1.heap (Nat.lt_of_lt_of_le hn HX1.out.size) (show ¬ n = P0 by have := HW0.out; omega)).trans (HX1.out.block n hn)))
  have HMz := Lib.hid (show Mut F w z2 from mut_new (HX1.out.mut F) E_z2.1 (by have := HW0.out; omega))
  have hrow := pv_row HQ.out HLEN.out E_z2 hP_z2
  obtain ⟨C, hC, hCb, hCz⟩ := HBz.out.br (by omega : 0 < B.np)
  have HC := Lib.hid hC
  have HCb := Lib.hid hCb
  have HCi := Lib.hid (show (Try.prog.info? 33).map (·.size) = some C.size by rw [hCz, ho.hd.1]; exact size_br)
  have hbb := HBz.out
  obtain ⟨-, -, cap3, cur, s2, s3, aX, bg, -, -, -, -, q2, -, -, -⟩ := hbb
  have c18 : z2.cell? ⟨X, 18, none⟩ = some s2 := by
    rw [cell_of_row _ _ _ _ _ _ aX]
    simp [ho.hd.1, Go.Proofs.Ythlapkddgnpaeaa.HL]
  have hcells : ∃ ao cp, s2 = .slice ao B.no cp ∧ B.no ≤ cp ∧ cp ≤ 9223372036854775807 ∧ (ao = none → B.no = 0 ∧ cp = 0) ∧ (∀ b, ao = some b → b.block < z2.heap.size ∧ ∀ j u, B.os[j]? = some u → z2.cell? (b.add j) = some u) := by
    obtain ⟨hl, ⟨rfl, hz⟩ | ⟨g3, cp, cu, rfl, -, hg3, h1, h2, h3, h4⟩⟩ := q2
    · exact ⟨none, 0, by rw [hz], by omega, by omega, fun _ => ⟨hz, rfl⟩, fun b hb => by cases hb⟩
    · unfold maxLen at h2
      refine ⟨some ⟨g3, 0, none⟩, cp, rfl, h1, by omega, (fun hh => by cases hh), fun b hb => ?_⟩
      cases hb
      refine ⟨heap_lt hg3, fun j u hu => ?_⟩
      rw [Addr.add_lit, Nat.zero_add, cell_of_row _ _ _ _ _ _ hg3]
      rw [← h4, List.getElem?_take] at hu
      split at hu
      · simpa using hu
      · cases hu
  obtain ⟨ao, cp, rfl, hcp, hcm, h0, hcl⟩ := hcells
  obtain ⟨i2, hi2, hz2, hs2, hb2⟩ := info_of info_sent
  have hlen : B.os.length = B.no * 18 := ho.os.1
  have HCL := Lib.hid hcl
  have H0 := Lib.hid h0
  have HI := Lib.hid (And.intro hi2 (And.intro hz2 (And.intro hs2 hb2)))
  have HLN := Lib.hid hlen
  have HON := Lib.hid (show ∀ u ∈ B.os, u.oneCell' = true from RowTyped.one ho.os)
  have HAX := Lib.hid aX
  obtain ⟨m0, m1, m2, m3, m4, m5, m6, m7, m8, m9, m10, m11, m12, m13, m14, m15, m16, hm⟩ := txMsg_form B k 1
  have HMF := Lib.hid hm
  have HB0 := Lib.hid (show Try.prog.built 56 [(0, .int .i64 (k : Int)), (1, .agg (txMsg B k 1))] = some (sentL k (txMsg B k 1)).toArray by rw [HMF.out]; exact sent_b0 _ _ _ _ _ _ _ _ _ _ _ _ _ _ _ _ _ _)
  have HB1 := Lib.hid (show Instr.fill (fun i => some (i * 18, 18)) ((Array.range (1 * 18)).map (SZ[· % SZ.size]!)) [(0, .agg (sentL k (txMsg B k 1)).toArray)] = some (sentL k (txMsg B k 1)).toArray by rw [HMF.out]; exact sent_b1 _ _ _ _ _ _ _ _ _ _ _ _ _ _ _ _ _ _)
  have HROW := Lib.hid hrow
  have hXs := heap_lt aX
  clear aX bg q2 hcl h0 hi2 hz2 hs2 hb2 hlen hC hCb hCz hm hrow
  have C18 := Lib.hid c18
  clear c18
  refine beginW (S := fun W' => Ext z2 W') (S2 := fun W' => Mut F z2 W') 19 (by kernel_rfl) ?_
  intro wd hqx
  have hq0 : Ext z2 wd := hqx
  refine takeW (i := 0) (z := 19) (v := (.pointer (some ⟨X, 0, none⟩))) rfl rfl (by kernel_rfl) (by kernel_rfl) (by kernel_rfl) (by kernel_rfl) (by kernel_rfl) (by kernel_rfl) (fun _ _ _ h => h) (Or.inl ⟨rfl, fun _ _ => rfl⟩) hq0 (hq0.mut F) ?_
  simp only [Act.put, List.setIfInBounds_toArray, List.set_cons_zero, List.set_cons_succ]
  refine takeW (i := 2) (z := 19) (v := (.pointer (some ⟨X, 0, none⟩))) rfl rfl (by kernel_rfl) (by kernel_rfl) (by kernel_rfl) (by kernel_rfl) (by kernel_rfl) (by kernel_rfl) (fun _ _ _ h => h) (Or.inl ⟨rfl, fun _ _ => rfl⟩) hq0 (hq0.mut F) ?_
  simp only [Act.put, List.setIfInBounds_toArray, List.set_cons_zero, List.set_cons_succ]
  refine takeW (i := 3) (z := 19) (v := (.pointer (some ⟨X, 0, none⟩))) rfl rfl (by kernel_rfl) (by kernel_rfl) (by kernel_rfl) (by kernel_rfl) (by kernel_rfl) (by kernel_rfl) (fun _ _ _ h => h) (Or.inl ⟨rfl, fun _ _ => rfl⟩) hq0 (hq0.mut F) ?_
  simp only [Act.put, List.setIfInBounds_toArray, List.set_cons_zero, List.set_cons_succ]
  refine takeW (i := 4) (z := 19) (v := (.pointer (some ⟨X, 18, none⟩))) rfl rfl (by kernel_rfl) (by kernel_rfl) (by kernel_rfl) (by kernel_rfl) (by kernel_rfl) (by kernel_rfl) (fun _ _ _ h => h) (Or.inl ⟨rfl, fun _ _ => rfl⟩) hq0 (hq0.mut F) ?_
  simp only [Act.put, List.setIfInBounds_toArray, List.set_cons_zero, List.set_cons_succ]
  refine takeW (i := 5) (z := 19) (v := _) rfl rfl (by kernel_rfl) (by kernel_rfl) (by kernel_rfl) (by kernel_rfl) (by kernel_rfl) (by kernel_rfl) (fun _ _ _ h => h) (yieldsIf_cell rfl 30 _ rfl ⟨X, 18, none⟩ rfl (.slice ao B.no cp) _ (fun W' hW' => (hW'.cell (p := ⟨X, 18, none⟩) hXs).trans C18.out) Try.underlying30 rfl) hq0 (hq0.mut F) ?_
  simp only [Act.put, List.setIfInBounds_toArray, List.set_cons_zero, List.set_cons_succ]
  refine takeW (i := 7) (z := 19) (v := (.int .i64 (k : Int))) rfl rfl (by kernel_rfl) (by kernel_rfl) (by kernel_rfl) (by kernel_rfl) (by kernel_rfl) (by kernel_rfl) (fun _ _ _ h => h) (Or.inl ⟨rfl, fun _ _ => rfl⟩) hq0 (hq0.mut F) ?_
  simp only [Act.put, List.setIfInBounds_toArray, List.set_cons_zero, List.set_cons_succ]
  refine takeW (i := 8) (z := 19) (v := (.pointer (some ⟨X, 0, none⟩))) rfl rfl (by kernel_rfl) (by kernel_rfl) (by kernel_rfl) (by kernel_rfl) (by kernel_rfl) (by kernel_rfl) (fun _ _ _ h => h) (Or.inl ⟨rfl, fun _ _ => rfl⟩) hq0 (hq0.mut F) ?_
  simp only [Act.put, List.setIfInBounds_toArray, List.set_cons_zero, List.set_cons_succ]
  refine takeW (i := 9) (z := 19) (v := (.pointer (some ⟨X, 0, none⟩))) rfl rfl (by kernel_rfl) (by kernel_rfl) (by kernel_rfl) (by kernel_rfl) (by kernel_rfl) (by kernel_rfl) (fun _ _ _ h => h) (Or.inl ⟨rfl, fun _ _ => rfl⟩) hq0 (hq0.mut F) ?_
  simp only [Act.put, List.setIfInBounds_toArray, List.set_cons_zero, List.set_cons_succ]
  refine takeW (i := 10) (z := 19) (v := _) rfl rfl (by kernel_rfl) (by kernel_rfl) (by kernel_rfl) (by kernel_rfl) (by kernel_rfl) (by kernel_rfl) (fun _ _ _ h => h) (yieldsIf_rowS rfl 33 _ rfl X rfl C _ _ (fun W' hW' => (hW'.block X hXs).trans HC.out) Try.underlying33 rfl HCi.out) hq0 (hq0.mut F) ?_
  simp only [Act.put, List.setIfInBounds_toArray, List.set_cons_zero, List.set_cons_succ]
  refine takeW (i := 11) (z := 19) (v := (.int .i64 (k : Int))) rfl rfl (by kernel_rfl) (by kernel_rfl) (by kernel_rfl) (by kernel_rfl) (by kernel_rfl) (by kernel_rfl) (fun _ _ _ h => h) (Or.inl ⟨rfl, fun _ _ => rfl⟩) hq0 (hq0.mut F) ?_
  simp only [Act.put, List.setIfInBounds_toArray, List.set_cons_zero, List.set_cons_succ]
  refine takeW (i := 12) (z := 19) (v := (.int .i64 1)) rfl rfl (by kernel_rfl) (by kernel_rfl) (by kernel_rfl) (by kernel_rfl) (by kernel_rfl) (by kernel_rfl) (fun _ _ _ h => h) (Or.inl ⟨rfl, fun _ _ => rfl⟩) hq0 (hq0.mut F) ?_
  simp only [Act.put, List.setIfInBounds_toArray, List.set_cons_zero, List.set_cons_succ]
  refine runW (i := 1) rfl rfl (by kernel_rfl) (fun _ h => h.mut F) (fun K hK => ?_)
  go_simp
  have hq1 := hq0.alloc (.cells #[] 56)
  have hO0 : (wd.alloc (.cells #[] 56)).ownsRow z2.heap.size 56 18 (.slice (some ⟨wd.heap.size, 0, none⟩) 0 0) 0 [] := ⟨rfl, .inr ⟨wd.heap.size, 0, #[], rfl, hq0.size, heap_alloc_new _ _, Nat.le_refl _, by decide, rfl, rfl⟩⟩
  refine hK.out _ _ hq1 (fun _ => ?_)
  try simp only [Act.put, List.setIfInBounds_toArray, List.set_cons_zero, List.set_cons_succ]
  clear hK K
  refine runW (i := 6) rfl rfl (by kernel_rfl) (fun _ h => h.mut F) (fun K hK => ?_)
  refine oper_append_src _ _ 30 rfl z2.heap.size 56 i2 (.agg SZ) 18 96 Try.underlying30 HI.out.1 HI.out.2.1 HI.out.2.2.1 HI.out.2.2.2 size_SZ (by decide) (.slice (some ⟨wd.heap.size, 0, none⟩) 0 0) 0 [] rfl hO0 ao B.no cp B.os rfl H0.out HLN.out ?hnews HON.out (by unfold maxLen; omega) (by omega) hq1.size ?hfin
  case hnews =>
    intro b hb j u hu
    obtain ⟨l1, l2⟩ := HCL.out b hb
    have := l2 j u hu
    have hbk : (b.add j).block = b.block := by unfold Addr.add; split <;> rfl
    rw [hq1.cell (p := b.add j) (by rw [hbk]; exact l1)]
    exact this
  case hfin =>
  intro v1 wa hOa hga
  rw [Nat.zero_add, List.nil_append] at hOa
  have hq2 : Ext z2 wa := Below.grown hq1 hga hq1.size (fun g hg => (hO0.lt g hg).1)
  obtain ⟨a1, k1, rfl⟩ := own_form hOa
  refine hK.out _ _ hq2 (fun _ => ?_)
  try simp only [Act.put, List.setIfInBounds_toArray, List.set_cons_zero, List.set_cons_succ]
  clear hK K hO0
  refine runW (i := 13) rfl rfl (by kernel_rfl) (fun _ h => h.mut F) (fun K hK => ?_)
  go_simp
  refine (txd_msg C B _ (HCb.out.ext hq2) ho k hk H13.out 1).mono ?_
  rintro e wm ⟨rfl, hxm⟩
  have hq3 := hq2.trans hxm
  have hOm := own_ext hOa hxm
  refine hK.out _ _ hq3 (fun _ => ?_)
  try simp only [Act.put, List.setIfInBounds_toArray, List.set_cons_zero, List.set_cons_succ]
  clear hK K hOa hxm
  refine takeW (i := 14) (z := 19) (v := (.agg (sentL k (txMsg B k 1)).toArray)) rfl rfl (by kernel_rfl) (by kernel_rfl) (by kernel_rfl) (by kernel_rfl) (by kernel_rfl) (by kernel_rfl) (fun _ _ _ h => h) (yieldsIf_build rfl 56 _ rfl [(0, .int .i64 (k : Int)), (1, .agg (txMsg B k 1))] rfl (sentL k (txMsg B k 1)).toArray HB0.out) hq3 (hq3.mut F) ?_
  simp only [Act.put, List.setIfInBounds_toArray, List.set_cons_zero, List.set_cons_succ]
  refine runW (i := 15) rfl rfl (by kernel_rfl) (fun _ h => h.mut F) (fun K hK => ?_)
  refine wp_buildSlice 30 56 1 _ rfl (sentL k (txMsg B k 1)).toArray i2 (.agg SZ) Try.underlying30 HI.out.1 HI.out.2.1 (by rw [HI.out.2.2.1]; decide) (by rw [HI.out.2.2.1]; decide) (by rw [HI.out.2.2.1, Array.toList_map]; exact HB1.out) ?_
  have hq4 := hq3.alloc (.cells (sentL k (txMsg B k 1)).toArray 56)
  refine hK.out _ _ hq4 (fun _ => ?_)
  try simp only [Act.put, List.setIfInBounds_toArray, List.set_cons_zero, List.set_cons_succ]
  clear hK K
  refine runW (i := 16) rfl rfl (by kernel_rfl) (fun _ h => h.mut F) (fun K hK => ?_)
  refine oper_append_src _ _ 30 rfl z2.heap.size 56 i2 (.agg SZ) 18 96 Try.underlying30 HI.out.1 HI.out.2.1 HI.out.2.2.1 HI.out.2.2.2 size_SZ (by decide) (.slice a1 B.no k1) B.no B.os rfl (hOm.alloc _) (some ⟨wm.heap.size, 0, none⟩) 1 1 (sentL k (txMsg B k 1)) rfl (fun hh => by cases hh) (by rw [sent_len]) ?hnews2 (sent_one _ _ _ _) (by unfold maxLen; omega) (by omega) hq4.size ?hfin2
  case hnews2 =>
    intro b hb j u hu
    cases hb
    exact World.news_of_block (heap_alloc_new wm _) j u (by simpa using hu)
  case hfin2 =>
  intro v2 wb hOb hgb
  have hq5 : Ext z2 wb := Below.grown hq4 hgb hq4.size (fun g hg => (hOm.lt g hg).1)
  obtain ⟨a2, k2, rfl⟩ := own_form hOb
  refine hK.out _ _ hq5 (fun _ => ?_)
  try simp only [Act.put, List.setIfInBounds_toArray, List.set_cons_zero, List.set_cons_succ]
  clear hK K hOm
  refine takeWb (i := 17) (z := 19) (v := (.pointer (some ⟨X, 0, none⟩))) rfl (by kernel_rfl) (by kernel_rfl) (by kernel_rfl) (by kernel_rfl) (fun _ _ _ h => h) (Or.inl ⟨rfl, fun _ _ => rfl⟩) hq5 (hq5.mut F) ?_
  simp only [Act.put, List.setIfInBounds_toArray, List.set_cons_zero, List.set_cons_succ]
  refine takeW (i := 18) (z := 19) (v := (.pointer (some ⟨X, 18, none⟩))) rfl rfl (by kernel_rfl) (by kernel_rfl) (by kernel_rfl) (by kernel_rfl) (by kernel_rfl) (by kernel_rfl) (fun _ _ _ h => h) (Or.inl ⟨rfl, fun _ _ => rfl⟩) hq5 (hq5.mut F) ?_
  simp only [Act.put, List.setIfInBounds_toArray, List.set_cons_zero, List.set_cons_succ]
  have d18 : wb.cell? ⟨X, 18, none⟩ = some (.slice ao B.no cp) := (hq5.cell (p := ⟨X, 18, none⟩) hXs).trans C18.out
  have f18 : wb.frozen? ⟨X, 18, none⟩ = false := frozen_of_row _ _ _ _ _ ((hq5.block X hXs).trans HAX.out)
  refine runWl (z := 19) rfl rfl (by kernel_rfl) (fun K hK => ?_)
  go_simp
  refine hK.out _ _ ((hq5.mut F).setCell (p := ⟨X, 18, none⟩) (.inl H.out.F1) _) (fun _ => ?_)
  try simp only [Act.put, List.setIfInBounds_toArray, List.set_cons_zero, List.set_cons_succ]
  clear hK K
  refine wpAnyH_done (by kernel_rfl) ?_ _
  have HB6 := Lib.hid (HBz.out.sended (k := k) (kind := 1) ho.hd.1 hq5.size (fun n hn' => hq5.block n hn') hOb)
  have HM6 := Lib.hid (HMz.out.trans ((hq5.mut F).setCell (p := ⟨X, 18, none⟩) (.inl H.out.F1) (.slice a2 (B.no + 1) k2)))
  have hr6 : (wb.setCell ⟨X, 18, none⟩ (.slice a2 (B.no + 1) k2)).heap[P0]? = some (.cells L.toArray 53 (0, 0)) := (heap_setCell_other _ _ _ _ (show P0 ≠ X from fun e => hXP e.symm)).trans ((hq5.block _ (heap_lt HROW.out)).trans HROW.out)
  have hz6 : z2.heap.size ≤ (wb.setCell ⟨X, 18, none⟩ (.slice a2 (B.no + 1) k2)).heap.size ∧ wb.heap.size ≤ (wb.setCell ⟨X, 18, none⟩ (.slice a2 (B.no + 1) k2)).heap.size := by
    rw [World.size_setCell]
    exact ⟨hq5.size, Nat.le_refl _⟩
  have HP0 := Lib.hid (show w.heap.size = P0 ∧ P0 < z2.heap.size from ⟨HW0.out, heap_lt HROW.out⟩)
  have okS := sent_ok ho hk hn8 1
  have x4_y1 : (wb.setCell ⟨X, 18, none⟩ (.slice a2 (B.no + 1) k2)).cell? ⟨X, 4, none⟩ = some (.int .i64 (B.hi 4)) := (HB6.out.cellX okS (i := 4) (by decide)).trans (okS.hi 4 rfl)
  obtain ⟨cap6, y17, hc7, hc8⟩ := HB6.out.cell17 okS
  have x17_y1 : (wb.setCell ⟨X, 18, none⟩ (.slice a2 (B.no + 1) k2)).cell? ⟨X, 17, none⟩ = some (.slice (some ⟨g, 0, none⟩) B.np cap6) := y17
  have hc5 : B.np ≤ cap6 ∧ cap6 ≤ 9223372036854775807 := ⟨hc7, hc8⟩
  clear HQ y17 d18 f18 hOb hgb hqx hq0 hq1 hq2 hq3 hq4 hq5 hga
  obtain ⟨y1, hy1⟩ : ∃ y, wb.setCell ⟨X, 18, none⟩ (.slice a2 (B.no + 1) k2) = y := ⟨_, rfl⟩
  rw [hy1] at HB6 HM6 hr6 hz6 x4_y1 x17_y1 ⊢
  clear hy1
  clear p44_z2 p50_z2 p8_z2 p31_z2 p14_z2 p45_z2 p87_z2 p48_z2 hP_z2 x4_z2 x6_z2 x17_z2 E_z2
  have HQ := Lib.hid hr6
  have hP_y1 : Pv y1 P0 0 L := Pv.box hr6 HLEN.out
  clear hr6
  have p31_y1 : y1.cell? ⟨P0, 31, none⟩ = some (.bool true) := (hP_y1.cell (j := 31) (by decide)).trans HL_31.out
  have p48_y1 : y1.cell? ⟨P0, 48, none⟩ = some (.bool (B.gb k 48)) := (hP_y1.cell (j := 48) (by decide)).trans HL_48.out
  have p14_y1 : y1.cell? ⟨P0, 14, none⟩ = some (.int .i64 (B.gi k 14)) := (hP_y1.cell (j := 14) (by decide)).trans HL_14.out
  have p8_y1 : y1.cell? ⟨P0, 8, none⟩ = some (.int .i64 (B.gi k 8)) := (hP_y1.cell (j := 8) (by decide)).trans HL_8.out
  have h14a := H14.out.1
  have h14b := H14.out.2
  go_upto_region 27 with (first
    | fail
    | ((with_reducible refine at_store 4 ?_); refine st_pv rfl rfl 4 _ _ rfl P0 0 31 _ hP_y1 _ #[.bool false] rfl rfl rfl (by exact (by decide : 31 + 1 ≤ 89)) (by kernel_rfl) rfl ?_
       intro y2 hp hm
       replace hp := pv_one hp HLEN.out (by decide)
       have hP_y2 : Pv y2 P0 0 (L.set 31 (.bool false)) := hp
       have E_y2 : Pm P0 0 y1 y2 := hm
       have x4_y2 : y2.cell? ⟨X, 4, none⟩ = some (.int .i64 (B.hi 4)) := cell_pm x4_y1 hm hXP
       have x17_y2 : y2.cell? ⟨X, 17, none⟩ = some (.slice (some ⟨g, 0, none⟩) B.np cap6) := cell_pm x17_y1 hm hXP
       have p31_y2 : y2.cell? ⟨P0, 31, none⟩ = some (.bool false) := (hP_y2.cell (j := 31) (by decide)).trans (get_same HLEN.out (by decide))
       have p48_y2 : y2.cell? ⟨P0, 48, none⟩ = some (.bool (B.gb k 48)) := (hP_y2.cell (j := 48) (by decide)).trans ((get_ne (by decide)).trans HL_48.out)
       have p14_y2 : y2.cell? ⟨P0, 14, none⟩ = some (.int .i64 (B.gi k 14)) := (hP_y2.cell (j := 14) (by decide)).trans ((get_ne (by decide)).trans HL_14.out)
       have p8_y2 : y2.cell? ⟨P0, 8, none⟩ = some (.int .i64 (B.gi k 8)) := (hP_y2.cell (j := 8) (by decide)).trans ((get_ne (by decide)).trans HL_8.out)
       clear hP_y1 x4_y1 x17_y1 p31_y1 p48_y1 p14_y1 p8_y1
       clear hp hm)
    | ((with_reducible refine at_store 3 ?_); refine st_pv rfl rfl 3 _ _ rfl P0 0 14 _ hP_y2 _ #[.int .i64 (B.gi k 14 + 1)] rfl rfl rfl (by exact (by decide : 14 + 1 ≤ 89)) (by kernel_rfl) rfl ?_
       intro y3 hp hm
       replace hp := pv_one hp (len_set' HLEN.out) (by decide)
       have hP_y3 : Pv y3 P0 0 ((L.set 31 (.bool false)).set 14 (.int .i64 (B.gi k 14 + 1))) := hp
       have E_y3 : Pm P0 0 y1 y3 := E_y2.trans hm
       have x4_y3 : y3.cell? ⟨X, 4, none⟩ = some (.int .i64 (B.hi 4)) := cell_pm x4_y2 hm hXP
       have x17_y3 : y3.cell? ⟨X, 17, none⟩ = some (.slice (some ⟨g, 0, none⟩) B.np cap6) := cell_pm x17_y2 hm hXP
       have p31_y3 : y3.cell? ⟨P0, 31, none⟩ = some (.bool false) := (hP_y3.cell (j := 31) (by decide)).trans ((get_ne (by decide)).trans (get_same HLEN.out (by decide)))
       have p48_y3 : y3.cell? ⟨P0, 48, none⟩ = some (.bool (B.gb k 48)) := (hP_y3.cell (j := 48) (by decide)).trans ((get_ne (by decide)).trans ((get_ne (by decide)).trans HL_48.out))
       have p14_y3 : y3.cell? ⟨P0, 14, none⟩ = some (.int .i64 (B.gi k 14 + 1)) := (hP_y3.cell (j := 14) (by decide)).trans (get_same (len_set' HLEN.out) (by decide))
       have p8_y3 : y3.cell? ⟨P0, 8, none⟩ = some (.int .i64 (B.gi k 8)) := (hP_y3.cell (j := 8) (by decide)).trans ((get_ne (by decide)).trans ((get_ne (by decide)).trans HL_8.out))
       clear hP_y2 x4_y2 x17_y2 E_y2 p31_y2 p48_y2 p14_y2 p8_y2
       clear hp hm)
    | ((with_reducible refine at_store 3 ?_); refine st_pv rfl rfl 3 _ _ rfl P0 0 8 _ hP_y3 _ #[.int .i64 (B.hi 4)] rfl rfl rfl (by exact (by decide : 8 + 1 ≤ 89)) (by kernel_rfl) rfl ?_
       intro y4 hp hm
       replace hp := pv_one hp (len_set' (len_set' HLEN.out)) (by decide)
       have hP_y4 : Pv y4 P0 0 (((L.set 31 (.bool false)).set 14 (.int .i64 (B.gi k 14 + 1))).set 8 (.int .i64 (B.hi 4))) := hp
       have E_y4 : Pm P0 0 y1 y4 := E_y3.trans hm
       have x4_y4 : y4.cell? ⟨X, 4, none⟩ = some (.int .i64 (B.hi 4)) := cell_pm x4_y3 hm hXP
       have x17_y4 : y4.cell? ⟨X, 17, none⟩ = some (.slice (some ⟨g, 0, none⟩) B.np cap6) := cell_pm x17_y3 hm hXP
       have p31_y4 : y4.cell? ⟨P0, 31, none⟩ = some (.bool false) := (hP_y4.cell (j := 31) (by decide)).trans ((get_ne (by decide)).trans ((get_ne (by decide)).trans (get_same HLEN.out (by decide))))
       have p48_y4 : y4.cell? ⟨P0, 48, none⟩ = some (.bool (B.gb k 48)) := (hP_y4.cell (j := 48) (by decide)).trans ((get_ne (by decide)).trans ((get_ne (by decide)).trans ((get_ne (by decide)).trans HL_48.out)))
       have p14_y4 : y4.cell? ⟨P0, 14, none⟩ = some (.int .i64 (B.gi k 14 + 1)) := (hP_y4.cell (j := 14) (by decide)).trans ((get_ne (by decide)).trans (get_same (len_set' HLEN.out) (by decide)))
       have p8_y4 : y4.cell? ⟨P0, 8, none⟩ = some (.int .i64 (B.hi 4)) := (hP_y4.cell (j := 8) (by decide)).trans (get_same (len_set' (len_set' HLEN.out)) (by decide))
       clear hP_y3 x4_y3 x17_y3 E_y3 p31_y3 p48_y3 p14_y3 p8_y3
       clear hp hm))
  have HBy := Lib.hid (show BrG y4 (fun n => F n ∨ (w.heap.size ≤ n ∧ n < y4.heap.size)) X g (B.sent k 1) from (HB6.out.keep (fun n hf hn => E_y4.1.heap hn (show ¬ n = P0 from fun e => by
    have h1 := HP0.out
    rcases hf with hf | hf
    · have := HF.out n hf
      omega
    · omega))).mono (fun n hn => hn.imp id (fun h => ⟨by have := HP0.out; omega, Nat.lt_of_lt_of_le h.2 (Nat.le_trans hz6.2 E_y4.size)⟩)))
  have HMy := Lib.hid (show Mut F w y4 from mut_new HM6.out E_y4.1 (by have := HP0.out; omega))
  have hPf := hP_y4
  have hrw := pv_row HQ.out HLEN.out E_y4 hPf
  have hlen := Lib.hid hPf.len
  have hone := Lib.hid (show ∀ v ∈ ((((L.set 31 (.bool false)).set 14 (.int .i64 (B.gi k 14 + 1))).set 8 (.int .i64 (B.hi 4))) : List Value), v.oneCell' = true from by
    have h0 := HONE.out
    exact (set_one (set_one (set_one h0 rfl) rfl) rfl))
  have HEQ := Lib.hid (show (B.sent k 1).setPort k (((L.set 31 (.bool false)).set 14 (.int .i64 (B.gi k 14 + 1))).set 8 (.int .i64 (B.hi 4))) = (((((((B.sent k 1)).setp k 31 (.bool false))).setp k 14 (.int .i64 (B.gi k 14 + 1)))).setp k 8 (.int .i64 (B.hi 4))) from (sp_s (j := 8) (v := .int .i64 (B.hi 4)) (sp_s (j := 14) (v := .int .i64 (B.gi k 14 + 1)) (sp_s (j := 31) (v := .bool false) (sp_0 (Z := (B.sent k 1)) HL.out h89.out) HLEN.out h89.out (by decide)) (len_set' HLEN.out) h89.out (by decide)) (len_set' (len_set' HLEN.out)) h89.out (by decide)))
  have c17y := x17_y4
  obtain ⟨N, hN⟩ : ∃ N, (((L.set 31 (.bool false)).set 14 (.int .i64 (B.gi k 14 + 1))).set 8 (.int .i64 (B.hi 4))) = N := ⟨_, rfl⟩
  rw [hN] at hrw hlen hone HEQ
  clear hN hPf
  refine wp_region_tail 7 (by kernel_rfl) (by kernel_rfl) ?_
  intro w9 hw9
  have hx9 : Ext y4 w9 := by
    rw [hw9]
    exact (Ext.refl _).drew
  have HB2 := Lib.hid ((hx9.block _ (heap_lt hrw)).trans hrw)
  have d17 := cell_ext c17y hx9
  have hBy := Lib.hid (HBy.out.ext hx9)
  have hMy := Lib.hid (HMy.out.trans (hx9.mut F))
  have hth := Lib.hid (hBy.out.there (show k < ((B.sent k 1)).np from hk))
  have HSZ := Lib.hid hx9.size
  clear hw9 hrw c17y hx9
  simp only [List.take_succ_cons, List.take_zero, List.drop_succ_cons, List.drop_zero]
  iterate 5 still_step
  refine wpStill_load_row rfl 53 _ rfl P0 rfl _ _ _ HB2.out Try.underlying53 rfl (by rw [List.size_toArray, hlen.out]; exact size_port) ?_
  simp only [Act.put, List.setIfInBounds_toArray, List.set_cons_zero, List.set_cons_succ]
  iterate 1 still_step
  refine wpStill_nil ?_
  refine wpList_store_mid rfl 53 _ _ rfl g (k * 89) _ rfl rfl (by rw [List.size_toArray, hlen.out]; exact hth.out) (by rw [List.size_toArray, hlen.out]; exact size_port) (all_oneCell_toArray hone.out) ?_
  go_wp2_with fail
  go_ret
  have hfin := hBy.out.setPort (show k < ((B.sent k 1)).np from hk) (l := N) hlen.out
  rw [HEQ.out] at hfin
  exact ⟨rfl, hfin.mono (fun n hn => hn.imp id (fun h => ⟨h.1, Nat.lt_of_lt_of_le (Nat.lt_of_lt_of_le h.2 HSZ.out) (Mut.setCells (F := F) (.inl H.out.F2) _ _ (Mut.refl F w9)).size⟩)), Mut.setCells (.inl H.out.F2) _ _ hMy.out⟩

set_option maxRecDepth 100000 in
set_option maxHeartbeats 4000000 in
theorem txd_k2 (w : World) (F : Nat → Prop) (X g k : Nat) (B : Br) (h : BrG w F X g B) (ho : B.ok) (hk : k < B.np) (hn : B.np < 1000) (h44 : B.gb k 44 = true) (h50 : B.gb k 50 = false) (n8 : (B.gi k 8 == 0) = false) (h31 : B.gb k 31 = true) (hlt : B.gi k 14 < B.hi 6) (h45 : B.gb k 45 = true) (n0 : (B.gi k 87 != 0) = true) (hF : ∀ n, F n → n < w.heap.size) (h14 : 0 ≤ B.gi k 14 ∧ B.gi k 14 ≤ 100000) (h13 : 0 ≤ B.gi k 13) (hno : B.no ≤ 100000) :
    Calls Try.prog 19 #[.pointer (some ⟨X, 0, none⟩), .int .i64 k] w (fun e w' => e = .returned (.bool true) ∧ BrG w' (fun n => F n ∨ (w.heap.size ≤ n ∧ n < w'.heap.size)) X g ((((((((((B.sent k 2)).setp k 31 (.bool false))).setp k 48 (.bool false))).setp k 14 (.int .i64 (B.gi k 14 + 1)))).setp k 8 (.int .i64 (B.hi 4)))) ∧ Mut F w w') := by
  have HF := Lib.hid hF
  have H14 := Lib.hid h14
  have H13 := Lib.hid h13
  clear hF
  have hlt2 : decide (B.hi 6 ≤ B.gi k 14) = false := by simp; omega
  obtain ⟨hX, hg, hne⟩ := h.lt
  obtain ⟨cap2, c17, hc3, hc4⟩ := h.cell17 ho
  have hn8 : k < 1000 := by omega
  have h89 := Lib.hid (len89 ho hk)
  have hpr := h.range hk
  have hT0 := br_typed ho hk
  have HONE := Lib.hid hT0.one
  have f44 : (port B.ps k)[44]? = some (.bool true) := (tpB hT0 44 rfl).trans (by rw [pB_port (by decide), h44])
  have f50 : (port B.ps k)[50]? = some (.bool false) := (tpB hT0 50 rfl).trans (by rw [pB_port (by decide), h50])
  have f8 : (port B.ps k)[8]? = some (.int .i64 (B.gi k 8)) := (tpI hT0 8 rfl).trans (by rw [pI_port (by decide)])
  have f31 : (port B.ps k)[31]? = some (.bool true) := (tpB hT0 31 rfl).trans (by rw [pB_port (by decide), h31])
  have f14 : (port B.ps k)[14]? = some (.int .i64 (B.gi k 14)) := (tpI hT0 14 rfl).trans (by rw [pI_port (by decide)])
  have f45 : (port B.ps k)[45]? = some (.bool true) := (tpB hT0 45 rfl).trans (by rw [pB_port (by decide), h45])
  have f87 : (port B.ps k)[87]? = some (.int .i64 (B.gi k 87)) := (tpI hT0 87 rfl).trans (by rw [pI_port (by decide)])
  have f48 : (port B.ps k)[48]? = some (.bool (B.gb k 48)) := (tpB hT0 48 rfl).trans (by rw [pB_port (by decide)])
  obtain ⟨L, hL⟩ : ∃ L, port B.ps k = L := ⟨_, rfl⟩
  rw [hL] at hpr hT0 HONE f44 f50 f8 f31 f14 f45 f87 f48
  have HL := Lib.hid hL
  have HLEN := Lib.hid (tpL hT0)
  have HPR := Lib.hid hpr
  clear hL hpr
  have hpz := Lib.hid (show (Try.prog.info? 53).map (·.size) = some L.length by rw [HLEN.out]; exact size_port)
  have hps := Lib.hid (show (Try.prog.info? 53).map (·.size) = some L.toArray.size by rw [List.size_toArray]; exact hpz.out)
  have hpl := Lib.hid (show PZ.size = L.toArray.size by rw [size_PZ, List.size_toArray]; exact HLEN.out.symm)
  have hpo := Lib.hid (all_oneCell_toArray HONE.out)
  have hzp := zero_port
  clear hT0
  have HL_44 := Lib.hid f44
  clear f44
  have HL_50 := Lib.hid f50
  clear f50
  have HL_8 := Lib.hid f8
  clear f8
  have HL_31 := Lib.hid f31
  clear f31
  have HL_14 := Lib.hid f14
  clear f14
  have HL_45 := Lib.hid f45
  clear f45
  have HL_87 := Lib.hid f87
  clear f87
  have HL_48 := Lib.hid f48
  clear f48
  have x4 := (h.cellX ho (i := 4) (by decide)).trans (ho.hi 4 rfl)
  have Y4 := Lib.hid x4
  clear x4
  have x6 := (h.cellX ho (i := 6) (by decide)).trans (ho.hi 6 rfl)
  have Y6 := Lib.hid x6
  clear x6
  have Y17 := Lib.hid c17
  have H := Lib.hid h
  clear h
  go_enter Try.func19, Try.ntmps19
  go_upto_region 10 with (first
    | fail
    | ((with_reducible refine at_load 53 ?_); refine wpList_load_mid rfl 53 _ rfl g (k * 89) rfl L _ HPR.out Try.underlying53 rfl hpz.out ?_)
    | ((with_reducible refine at_store 53 ?_); refine wpList_store_new3 rfl rfl 53 _ _ _ rfl PZ L.toArray _ rfl ?_ rfl hps.out hpl.out (by rw [Array.all_toList]; exact hpo.out) ?_; · rfl
       intro z1 hz1
       have hx1 : Ext w z1 := by rw [hz1]; exact (Ext.refl _).alloc _
       have hq := heap_alloc_new w (.cells L.toArray 53)
       rw [← hz1] at hq
       obtain ⟨P0, hP0⟩ : ∃ n, w.heap.size = n := ⟨_, rfl⟩
       rw [hP0] at hq ⊢
       have hP_z1 : Pv z1 P0 0 L := Pv.box hq HLEN.out
       have HQ := Lib.hid hq
       have hXP : X ≠ P0 := by omega
       have hgP : g ≠ P0 := by omega
       have HW0 := Lib.hid hP0
       have x4_z1 : z1.cell? ⟨X, 4, none⟩ = some (.int .i64 (B.hi 4)) := cell_ext Y4.out hx1
       have x6_z1 : z1.cell? ⟨X, 6, none⟩ = some (.int .i64 (B.hi 6)) := cell_ext Y6.out hx1
       have x17_z1 : z1.cell? ⟨X, 17, none⟩ = some (.slice (some ⟨g, 0, none⟩) B.np cap2) := cell_ext Y17.out hx1
       have p44_z1 : z1.cell? ⟨P0, 44, none⟩ = some (.bool true) := (hP_z1.cell (j := 44) (by decide)).trans HL_44.out
       have p50_z1 : z1.cell? ⟨P0, 50, none⟩ = some (.bool false) := (hP_z1.cell (j := 50) (by decide)).trans HL_50.out
       have p8_z1 : z1.cell? ⟨P0, 8, none⟩ = some (.int .i64 (B.gi k 8)) := (hP_z1.cell (j := 8) (by decide)).trans HL_8.out
       have p31_z1 : z1.cell? ⟨P0, 31, none⟩ = some (.bool true) := (hP_z1.cell (j := 31) (by decide)).trans HL_31.out
       have p14_z1 : z1.cell? ⟨P0, 14, none⟩ = some (.int .i64 (B.gi k 14)) := (hP_z1.cell (j := 14) (by decide)).trans HL_14.out
       have p45_z1 : z1.cell? ⟨P0, 45, none⟩ = some (.bool true) := (hP_z1.cell (j := 45) (by decide)).trans HL_45.out
       have p87_z1 : z1.cell? ⟨P0, 87, none⟩ = some (.int .i64 (B.gi k 87)) := (hP_z1.cell (j := 87) (by decide)).trans HL_87.out
       have p48_z1 : z1.cell? ⟨P0, 48, none⟩ = some (.bool (B.gb k 48)) := (hP_z1.cell (j := 48) (by decide)).trans HL_48.out
       have HX1 := Lib.hid hx1
       clear hz1 hq hP0 c17 hx1))
  refine beginL (S := fun W' => Ext z1 W') (by kernel_rfl) ?_
  intro wd hqx
  have hq0 : Ext z1 wd := hqx
  refine takeL (i := 0) (v := (.pointer (some ⟨P0, 22, none⟩))) rfl (by kernel_rfl) (by kernel_rfl) (by kernel_rfl) (fun _ _ _ h => h) (Or.inl ⟨rfl, fun _ _ => rfl⟩) hq0 ?_
  simp only [Act.put, List.setIfInBounds_toArray, List.set_cons_zero, List.set_cons_succ]
  refine takeL (i := 1) (v := (.pointer (some ⟨P0, 31, none⟩))) rfl (by kernel_rfl) (by kernel_rfl) (by kernel_rfl) (fun _ _ _ h => h) (Or.inl ⟨rfl, fun _ _ => rfl⟩) hq0 ?_
  simp only [Act.put, List.setIfInBounds_toArray, List.set_cons_zero, List.set_cons_succ]
  refine takeL (i := 2) (v := _) rfl (by kernel_rfl) (by kernel_rfl) (by kernel_rfl) (fun _ _ _ h => h) (yieldsIf_cell rfl 4 _ rfl ⟨P0, 31, none⟩ rfl (.bool true) _ (fun W' hW' => ((hP_z1.ext hW').cell (j := 31) (by decide)).trans HL_31.out) Try.underlying4 rfl) hq0 ?_
  simp only [Act.put, List.setIfInBounds_toArray, List.set_cons_zero, List.set_cons_succ]
  refine takeL (i := 3) (v := (.bool false)) rfl (by kernel_rfl) (by kernel_rfl) (by kernel_rfl) (fun _ _ _ h => h) (Or.inl ⟨rfl, fun _ _ => rfl⟩) hq0 ?_
  simp only [Act.put, List.setIfInBounds_toArray, List.set_cons_zero, List.set_cons_succ]
  refine takeL (i := 4) (v := (.bool false)) rfl (by kernel_rfl) (by kernel_rfl) (by kernel_rfl) (fun _ _ _ h => h) (Or.inl ⟨rfl, fun _ _ => rfl⟩) hq0 ?_
  simp only [Act.put, List.setIfInBounds_toArray, List.set_cons_zero, List.set_cons_succ]
  refine takeL (i := 5) (v := (.pointer (some ⟨P0, 6, none⟩))) rfl (by kernel_rfl) (by kernel_rfl) (by kernel_rfl) (fun _ _ _ h => h) (Or.inl ⟨rfl, fun _ _ => rfl⟩) hq0 ?_
  simp only [Act.put, List.setIfInBounds_toArray, List.set_cons_zero, List.set_cons_succ]
  refine takeL (i := 6) (v := (.pointer (some ⟨P0, 14, none⟩))) rfl (by kernel_rfl) (by kernel_rfl) (by kernel_rfl) (fun _ _ _ h => h) (Or.inl ⟨rfl, fun _ _ => rfl⟩) hq0 ?_
  simp only [Act.put, List.setIfInBounds_toArray, List.set_cons_zero, List.set_cons_succ]
  refine takeL (i := 7) (v := _) rfl (by kernel_rfl) (by kernel_rfl) (by kernel_rfl) (fun _ _ _ h => h) (yieldsIf_cell rfl 3 _ rfl ⟨P0, 14, none⟩ rfl (.int .i64 (B.gi k 14)) _ (fun W' hW' => ((hP_z1.ext hW').cell (j := 14) (by decide)).trans HL_14.out) Try.underlying3 rfl) hq0 ?_
  simp only [Act.put, List.setIfInBounds_toArray, List.set_cons_zero, List.set_cons_succ]
  refine takeL (i := 8) (v := (.pointer (some ⟨X, 0, none⟩))) rfl (by kernel_rfl) (by kernel_rfl) (by kernel_rfl) (fun _ _ _ h => h) (Or.inl ⟨rfl, fun _ _ => rfl⟩) hq0 ?_
  simp only [Act.put, List.setIfInBounds_toArray, List.set_cons_zero, List.set_cons_succ]
  refine takeL (i := 9) (v := (.pointer (some ⟨X, 0, none⟩))) rfl (by kernel_rfl) (by kernel_rfl) (by kernel_rfl) (fun _ _ _ h => h) (Or.inl ⟨rfl, fun _ _ => rfl⟩) hq0 ?_
  simp only [Act.put, List.setIfInBounds_toArray, List.set_cons_zero, List.set_cons_succ]
  refine takeL (i := 10) (v := (.pointer (some ⟨X, 6, none⟩))) rfl (by kernel_rfl) (by kernel_rfl) (by kernel_rfl) (fun _ _ _ h => h) (Or.inl ⟨rfl, fun _ _ => rfl⟩) hq0 ?_
  simp only [Act.put, List.setIfInBounds_toArray, List.set_cons_zero, List.set_cons_succ]
  refine takeL (i := 11) (v := _) rfl (by kernel_rfl) (by kernel_rfl) (by kernel_rfl) (fun _ _ _ h => h) (yieldsIf_cell rfl 3 _ rfl ⟨X, 6, none⟩ rfl (.int .i64 (B.hi 6)) _ (fun W' hW' => cell_ext x6_z1 hW') Try.underlying3 rfl) hq0 ?_
  simp only [Act.put, List.setIfInBounds_toArray, List.set_cons_zero, List.set_cons_succ]
  refine takeL (i := 12) (v := (.bool false)) rfl (by kernel_rfl) (by kernel_rfl) (by kernel_rfl) (fun _ _ _ h => h) (Or.inl ⟨rfl, fun W' _ => by go_simp⟩) hq0 ?_
  simp only [Act.put, List.setIfInBounds_toArray, List.set_cons_zero, List.set_cons_succ]
  refine takeL (i := 13) (v := (.bool false)) rfl (by kernel_rfl) (by kernel_rfl) (by kernel_rfl) (fun _ _ _ h => h) (Or.inl ⟨rfl, fun _ _ => rfl⟩) hq0 ?_
  simp only [Act.put, List.setIfInBounds_toArray, List.set_cons_zero, List.set_cons_succ]
  refine wpAnyH_done (by kernel_rfl) ?_ _
  generalize wd = z2 at *
  have hP_z2 : Pv z2 P0 0 L := hP_z1.ext hq0
  have x4_z2 : z2.cell? ⟨X, 4, none⟩ = some (.int .i64 (B.hi 4)) := cell_ext x4_z1 hq0
  have x6_z2 : z2.cell? ⟨X, 6, none⟩ = some (.int .i64 (B.hi 6)) := cell_ext x6_z1 hq0
  have x17_z2 : z2.cell? ⟨X, 17, none⟩ = some (.slice (some ⟨g, 0, none⟩) B.np cap2) := cell_ext x17_z1 hq0
  have E_z2 : Pm P0 0 z1 z2 := Ext.pm hq0 P0 0
  have p44_z2 : z2.cell? ⟨P0, 44, none⟩ = some (.bool true) := (hP_z2.cell (j := 44) (by decide)).trans HL_44.out
  have p50_z2 : z2.cell? ⟨P0, 50, none⟩ = some (.bool false) := (hP_z2.cell (j := 50) (by decide)).trans HL_50.out
  have p8_z2 : z2.cell? ⟨P0, 8, none⟩ = some (.int .i64 (B.gi k 8)) := (hP_z2.cell (j := 8) (by decide)).trans HL_8.out
  have p31_z2 : z2.cell? ⟨P0, 31, none⟩ = some (.bool true) := (hP_z2.cell (j := 31) (by decide)).trans HL_31.out
  have p14_z2 : z2.cell? ⟨P0, 14, none⟩ = some (.int .i64 (B.gi k 14)) := (hP_z2.cell (j := 14) (by decide)).trans HL_14.out
  have p45_z2 : z2.cell? ⟨P0, 45, none⟩ = some (.bool true) := (hP_z2.cell (j := 45) (by decide)).trans HL_45.out
  have p87_z2 : z2.cell? ⟨P0, 87, none⟩ = some (.int .i64 (B.gi k 87)) := (hP_z2.cell (j := 87) (by decide)).trans HL_87.out
  have p48_z2 : z2.cell? ⟨P0, 48, none⟩ = some (.bool (B.gb k 48)) := (hP_z2.cell (j := 48) (by decide)).trans HL_48.out
  clear hP_z1 x4_z1 x6_z1 x17_z1 p44_z1 p50_z1 p8_z1 p31_z1 p14_z1 p45_z1 p87_z1 p48_z1
  clear hq0
  go_upto_region 21 with fail
  have HBz := Lib.hid (H.out.keep (fun n _ hn => (E_z2.1.heap (Nat.lt_of_lt_of_le hn HX1.out.size) (show ¬ n = P0 by have := HW0.out; omega)).trans (HX1.out.block n hn)))
  have HMz := Lib.hid (show Mut F w z2 from mut_new (HX1.out.mut F) E_z2.1 (by have := HW0.out; omega))
  have hrow := pv_row HQ.out HLEN.out E_z2 hP_z2
  obtain ⟨C, hC, hCb, hCz⟩ := HBz.out.br (by omega : 0 < B.np)
  have HC := Lib.hid hC
  have HCb := Lib.hid hCb
  have HCi := Lib.hid (show (Try.prog.info? 33).map (·.size) = some C.size by rw [hCz, ho.hd.1]; exact size_br)
  have hbb := HBz.out
  obtain ⟨-, -, cap3, cur, s2, s3, aX, bg, -, -, -, -, q2, -, -, -⟩ := hbb
  have c18 : z2.cell? ⟨X, 18, none⟩ = some s2 := by
    rw [cell_of_row _ _ _ _ _ _ aX]
    simp [ho.hd.1, Go.Proofs.Ythlapkddgnpaeaa.HL]
  have hcells : ∃ ao cp, s2 = .slice ao B.no cp ∧ B.no ≤ cp ∧ cp ≤ 9223372036854775807 ∧ (ao = none → B.no = 0 ∧ cp = 0) ∧ (∀ b, ao = some b → b.block < z2.heap.size ∧ ∀ j u, B.os[j]? = some u → z2.cell? (b.add j) = some u) := by
    obtain ⟨hl, ⟨rfl, hz⟩ | ⟨g3, cp, cu, rfl, -, hg3, h1, h2, h3, h4⟩⟩ := q2
    · exact ⟨none, 0, by rw [hz], by omega, by omega, fun _ => ⟨hz, rfl⟩, fun b hb => by cases hb⟩
    · unfold maxLen at h2
      refine ⟨some ⟨g3, 0, none⟩, cp, rfl, h1, by omega, (fun hh => by cases hh), fun b hb => ?_⟩
      cases hb
      refine ⟨heap_lt hg3, fun j u hu => ?_⟩
      rw [Addr.add_lit, Nat.zero_add, cell_of_row _ _ _ _ _ _ hg3]
      rw [← h4, List.getElem?_take] at hu
      split at hu
      · simpa using hu
      · cases hu
  obtain ⟨ao, cp, rfl, hcp, hcm, h0, hcl⟩ := hcells
  obtain ⟨i2, hi2, hz2, hs2, hb2⟩ := info_of info_sent
  have hlen : B.os.length = B.no * 18 := ho.os.1
  have HCL := Lib.hid hcl
  have H0 := Lib.hid h0
  have HI := Lib.hid (And.intro hi2 (And.intro hz2 (And.intro hs2 hb2)))
  have HLN := Lib.hid hlen
  have HON := Lib.hid (show ∀ u ∈ B.os, u.oneCell' = true from RowTyped.one ho.os)
  have HAX := Lib.hid aX
  obtain ⟨m0, m1, m2, m3, m4, m5, m6, m7, m8, m9, m10, m11, m12, m13, m14, m15, m16, hm⟩ := txMsg_form B k 2
  have HMF := Lib.hid hm
  have HB0 := Lib.hid (show Try.prog.built 56 [(0, .int .i64 (k : Int)), (1, .agg (txMsg B k 2))] = some (sentL k (txMsg B k 2)).toArray by rw [HMF.out]; exact sent_b0 _ _ _ _ _ _ _ _ _ _ _ _ _ _ _ _ _ _)
  have HB1 := Lib.hid (show Instr.fill (fun i => some (i * 18, 18)) ((Array.range (1 * 18)).map (SZ[· % SZ.size]!)) [(0, .agg (sentL k (txMsg B k 2)).toArray)] = some (sentL k (txMsg B k 2)).toArray by rw [HMF.out]; exact sent_b1 _ _ _ _ _ _ _ _ _ _ _ _ _ _ _ _ _ _)
  have HROW := Lib.hid hrow
  have hXs := heap_lt aX
  clear aX bg q2 hcl h0 hi2 hz2 hs2 hb2 hlen hC hCb hCz hm hrow
  have C18 := Lib.hid c18
  clear c18
  refine beginW (S := fun W' => Ext z2 W') (S2 := fun W' => Mut F z2 W') 19 (by kernel_rfl) ?_
  intro wd hqx
  have hq0 : Ext z2 wd := hqx
  refine takeW (i := 0) (z := 19) (v := (.pointer (some ⟨X, 0, none⟩))) rfl rfl (by kernel_rfl) (by kernel_rfl) (by kernel_rfl) (by kernel_rfl) (by kernel_rfl) (by kernel_rfl) (fun _ _ _ h => h) (Or.inl ⟨rfl, fun _ _ => rfl⟩) hq0 (hq0.mut F) ?_
  simp only [Act.put, List.setIfInBounds_toArray, List.set_cons_zero, List.set_cons_succ]
  refine takeW (i := 2) (z := 19) (v := (.pointer (some ⟨X, 0, none⟩))) rfl rfl (by kernel_rfl) (by kernel_rfl) (by kernel_rfl) (by kernel_rfl) (by kernel_rfl) (by kernel_rfl) (fun _ _ _ h => h) (Or.inl ⟨rfl, fun _ _ => rfl⟩) hq0 (hq0.mut F) ?_
  simp only [Act.put, List.setIfInBounds_toArray, List.set_cons_zero, List.set_cons_succ]
  refine takeW (i := 3) (z := 19) (v := (.pointer (some ⟨X, 0, none⟩))) rfl rfl (by kernel_rfl) (by kernel_rfl) (by kernel_rfl) (by kernel_rfl) (by kernel_rfl) (by kernel_rfl) (fun _ _ _ h => h) (Or.inl ⟨rfl, fun _ _ => rfl⟩) hq0 (hq0.mut F) ?_
  simp only [Act.put, List.setIfInBounds_toArray, List.set_cons_zero, List.set_cons_succ]
  refine takeW (i := 4) (z := 19) (v := (.pointer (some ⟨X, 18, none⟩))) rfl rfl (by kernel_rfl) (by kernel_rfl) (by kernel_rfl) (by kernel_rfl) (by kernel_rfl) (by kernel_rfl) (fun _ _ _ h => h) (Or.inl ⟨rfl, fun _ _ => rfl⟩) hq0 (hq0.mut F) ?_
  simp only [Act.put, List.setIfInBounds_toArray, List.set_cons_zero, List.set_cons_succ]
  refine takeW (i := 5) (z := 19) (v := _) rfl rfl (by kernel_rfl) (by kernel_rfl) (by kernel_rfl) (by kernel_rfl) (by kernel_rfl) (by kernel_rfl) (fun _ _ _ h => h) (yieldsIf_cell rfl 30 _ rfl ⟨X, 18, none⟩ rfl (.slice ao B.no cp) _ (fun W' hW' => (hW'.cell (p := ⟨X, 18, none⟩) hXs).trans C18.out) Try.underlying30 rfl) hq0 (hq0.mut F) ?_
  simp only [Act.put, List.setIfInBounds_toArray, List.set_cons_zero, List.set_cons_succ]
  refine takeW (i := 7) (z := 19) (v := (.int .i64 (k : Int))) rfl rfl (by kernel_rfl) (by kernel_rfl) (by kernel_rfl) (by kernel_rfl) (by kernel_rfl) (by kernel_rfl) (fun _ _ _ h => h) (Or.inl ⟨rfl, fun _ _ => rfl⟩) hq0 (hq0.mut F) ?_
  simp only [Act.put, List.setIfInBounds_toArray, List.set_cons_zero, List.set_cons_succ]
  refine takeW (i := 8) (z := 19) (v := (.pointer (some ⟨X, 0, none⟩))) rfl rfl (by kernel_rfl) (by kernel_rfl) (by kernel_rfl) (by kernel_rfl) (by kernel_rfl) (by kernel_rfl) (fun _ _ _ h => h) (Or.inl ⟨rfl, fun _ _ => rfl⟩) hq0 (hq0.mut F) ?_
  simp only [Act.put, List.setIfInBounds_toArray, List.set_cons_zero, List.set_cons_succ]
  refine takeW (i := 9) (z := 19) (v := (.pointer (some ⟨X, 0, none⟩))) rfl rfl (by kernel_rfl) (by kernel_rfl) (by kernel_rfl) (by kernel_rfl) (by kernel_rfl) (by kernel_rfl) (fun _ _ _ h => h) (Or.inl ⟨rfl, fun _ _ => rfl⟩) hq0 (hq0.mut F) ?_
  simp only [Act.put, List.setIfInBounds_toArray, List.set_cons_zero, List.set_cons_succ]
  refine takeW (i := 10) (z := 19) (v := _) rfl rfl (by kernel_rfl) (by kernel_rfl) (by kernel_rfl) (by kernel_rfl) (by kernel_rfl) (by kernel_rfl) (fun _ _ _ h => h) (yieldsIf_rowS rfl 33 _ rfl X rfl C _ _ (fun W' hW' => (hW'.block X hXs).trans HC.out) Try.underlying33 rfl HCi.out) hq0 (hq0.mut F) ?_
  simp only [Act.put, List.setIfInBounds_toArray, List.set_cons_zero, List.set_cons_succ]
  refine takeW (i := 11) (z := 19) (v := (.int .i64 (k : Int))) rfl rfl (by kernel_rfl) (by kernel_rfl) (by kernel_rfl) (by kernel_rfl) (by kernel_rfl) (by kernel_rfl) (fun _ _ _ h => h) (Or.inl ⟨rfl, fun _ _ => rfl⟩) hq0 (hq0.mut F) ?_
  simp only [Act.put, List.setIfInBounds_toArray, List.set_cons_zero, List.set_cons_succ]
  refine takeW (i := 12) (z := 19) (v := (.int .i64 2)) rfl rfl (by kernel_rfl) (by kernel_rfl) (by kernel_rfl) (by kernel_rfl) (by kernel_rfl) (by kernel_rfl) (fun _ _ _ h => h) (Or.inl ⟨rfl, fun _ _ => rfl⟩) hq0 (hq0.mut F) ?_
  simp only [Act.put, List.setIfInBounds_toArray, List.set_cons_zero, List.set_cons_succ]
  refine runW (i := 1) rfl rfl (by kernel_rfl) (fun _ h => h.mut F) (fun K hK => ?_)
  go_simp
  have hq1 := hq0.alloc (.cells #[] 56)
  have hO0 : (wd.alloc (.cells #[] 56)).ownsRow z2.heap.size 56 18 (.slice (some ⟨wd.heap.size, 0, none⟩) 0 0) 0 [] := ⟨rfl, .inr ⟨wd.heap.size, 0, #[], rfl, hq0.size, heap_alloc_new _ _, Nat.le_refl _, by decide, rfl, rfl⟩⟩
  refine hK.out _ _ hq1 (fun _ => ?_)
  try simp only [Act.put, List.setIfInBounds_toArray, List.set_cons_zero, List.set_cons_succ]
  clear hK K
  refine runW (i := 6) rfl rfl (by kernel_rfl) (fun _ h => h.mut F) (fun K hK => ?_)
  refine oper_append_src _ _ 30 rfl z2.heap.size 56 i2 (.agg SZ) 18 96 Try.underlying30 HI.out.1 HI.out.2.1 HI.out.2.2.1 HI.out.2.2.2 size_SZ (by decide) (.slice (some ⟨wd.heap.size, 0, none⟩) 0 0) 0 [] rfl hO0 ao B.no cp B.os rfl H0.out HLN.out ?hnews HON.out (by unfold maxLen; omega) (by omega) hq1.size ?hfin
  case hnews =>
    intro b hb j u hu
    obtain ⟨l1, l2⟩ := HCL.out b hb
    have := l2 j u hu
    have hbk : (b.add j).block = b.block := by unfold Addr.add; split <;> rfl
    rw [hq1.cell (p := b.add j) (by rw [hbk]; exact l1)]
    exact this
  case hfin =>
  intro v1 wa hOa hga
  rw [Nat.zero_add, List.nil_append] at hOa
  have hq2 : Ext z2 wa := Below.grown hq1 hga hq1.size (fun g hg => (hO0.lt g hg).1)
  obtain ⟨a1, k1, rfl⟩ := own_form hOa
  refine hK.out _ _ hq2 (fun _ => ?_)
  try simp only [Act.put, List.setIfInBounds_toArray, List.set_cons_zero, List.set_cons_succ]
  clear hK K hO0
  refine runW (i := 13) rfl rfl (by kernel_rfl) (fun _ h => h.mut F) (fun K hK => ?_)
  go_simp
  refine (txd_msg C B _ (HCb.out.ext hq2) ho k hk H13.out 2).mono ?_
  rintro e wm ⟨rfl, hxm⟩
  have hq3 := hq2.trans hxm
  have hOm := own_ext hOa hxm
  refine hK.out _ _ hq3 (fun _ => ?_)
  try simp only [Act.put, List.setIfInBounds_toArray, List.set_cons_zero, List.set_cons_succ]
  clear hK K hOa hxm
  refine takeW (i := 14) (z := 19) (v := (.agg (sentL k (txMsg B k 2)).toArray)) rfl rfl (by kernel_rfl) (by kernel_rfl) (by kernel_rfl) (by kernel_rfl) (by kernel_rfl) (by kernel_rfl) (fun _ _ _ h => h) (yieldsIf_build rfl 56 _ rfl [(0, .int .i64 (k : Int)), (1, .agg (txMsg B k 2))] rfl (sentL k (txMsg B k 2)).toArray HB0.out) hq3 (hq3.mut F) ?_
  simp only [Act.put, List.setIfInBounds_toArray, List.set_cons_zero, List.set_cons_succ]
  refine runW (i := 15) rfl rfl (by kernel_rfl) (fun _ h => h.mut F) (fun K hK => ?_)
  refine wp_buildSlice 30 56 1 _ rfl (sentL k (txMsg B k 2)).toArray i2 (.agg SZ) Try.underlying30 HI.out.1 HI.out.2.1 (by rw [HI.out.2.2.1]; decide) (by rw [HI.out.2.2.1]; decide) (by rw [HI.out.2.2.1, Array.toList_map]; exact HB1.out) ?_
  have hq4 := hq3.alloc (.cells (sentL k (txMsg B k 2)).toArray 56)
  refine hK.out _ _ hq4 (fun _ => ?_)
  try simp only [Act.put, List.setIfInBounds_toArray, List.set_cons_zero, List.set_cons_succ]
  clear hK K
  refine runW (i := 16) rfl rfl (by kernel_rfl) (fun _ h => h.mut F) (fun K hK => ?_)
  refine oper_append_src _ _ 30 rfl z2.heap.size 56 i2 (.agg SZ) 18 96 Try.underlying30 HI.out.1 HI.out.2.1 HI.out.2.2.1 HI.out.2.2.2 size_SZ (by decide) (.slice a1 B.no k1) B.no B.os rfl (hOm.alloc _) (some ⟨wm.heap.size, 0, none⟩) 1 1 (sentL k (txMsg B k 2)) rfl (fun hh => by cases hh) (by rw [sent_len]) ?hnews2 (sent_one _ _ _ _) (by unfold maxLen; omega) (by omega) hq4.size ?hfin2
  case hnews2 =>
    intro b hb j u hu
    cases hb
    exact World.news_of_block (heap_alloc_new wm _) j u (by simpa using hu)
  case hfin2 =>
  intro v2 wb hOb hgb
  have hq5 : Ext z2 wb := Below.grown hq4 hgb hq4.size (fun g hg => (hOm.lt g hg).1)
  obtain ⟨a2, k2, rfl⟩ := own_form hOb
  refine hK.out _ _ hq5 (fun _ => ?_)
  try simp only [Act.put, List.setIfInBounds_toArray, List.set_cons_zero, List.set_cons_succ]
  clear hK K hOm
  refine takeWb (i := 17) (z := 19) (v := (.pointer (some ⟨X, 0, none⟩))) rfl (by kernel_rfl) (by kernel_rfl) (by kernel_rfl) (by kernel_rfl) (fun _ _ _ h => h) (Or.inl ⟨rfl, fun _ _ => rfl⟩) hq5 (hq5.mut F) ?_
  simp only [Act.put, List.setIfInBounds_toArray, List.set_cons_zero, List.set_cons_succ]
  refine takeW (i := 18) (z := 19) (v := (.pointer (some ⟨X, 18, none⟩))) rfl rfl (by kernel_rfl) (by kernel_rfl) (by kernel_rfl) (by kernel_rfl) (by kernel_rfl) (by kernel_rfl) (fun _ _ _ h => h) (Or.inl ⟨rfl, fun _ _ => rfl⟩) hq5 (hq5.mut F) ?_
  simp only [Act.put, List.setIfInBounds_toArray, List.set_cons_zero, List.set_cons_succ]
  have d18 : wb.cell? ⟨X, 18, none⟩ = some (.slice ao B.no cp) := (hq5.cell (p := ⟨X, 18, none⟩) hXs).trans C18.out
  have f18 : wb.frozen? ⟨X, 18, none⟩ = false := frozen_of_row _ _ _ _ _ ((hq5.block X hXs).trans HAX.out)
  refine runWl (z := 19) rfl rfl (by kernel_rfl) (fun K hK => ?_)
  go_simp
  refine hK.out _ _ ((hq5.mut F).setCell (p := ⟨X, 18, none⟩) (.inl H.out.F1) _) (fun _ => ?_)
  try simp only [Act.put, List.setIfInBounds_toArray, List.set_cons_zero, List.set_cons_succ]
  clear hK K
  refine wpAnyH_done (by kernel_rfl) ?_ _
  have HB6 := Lib.hid (HBz.out.sended (k := k) (kind := 2) ho.hd.1 hq5.size (fun n hn' => hq5.block n hn') hOb)
  have HM6 := Lib.hid (HMz.out.trans ((hq5.mut F).setCell (p := ⟨X, 18, none⟩) (.inl H.out.F1) (.slice a2 (B.no + 1) k2)))
  have hr6 : (wb.setCell ⟨X, 18, none⟩ (.slice a2 (B.no + 1) k2)).heap[P0]? = some (.cells L.toArray 53 (0, 0)) := (heap_setCell_other _ _ _ _ (show P0 ≠ X from fun e => hXP e.symm)).trans ((hq5.block _ (heap_lt HROW.out)).trans HROW.out)
  have hz6 : z2.heap.size ≤ (wb.setCell ⟨X, 18, none⟩ (.slice a2 (B.no + 1) k2)).heap.size ∧ wb.heap.size ≤ (wb.setCell ⟨X, 18, none⟩ (.slice a2 (B.no + 1) k2)).heap.size := by
    rw [World.size_setCell]
    exact ⟨hq5.size, Nat.le_refl _⟩
  have HP0 := Lib.hid (show w.heap.size = P0 ∧ P0 < z2.heap.size from ⟨HW0.out, heap_lt HROW.out⟩)
  have okS := sent_ok ho hk hn8 2
  have x4_y1 : (wb.setCell ⟨X, 18, none⟩ (.slice a2 (B.no + 1) k2)).cell? ⟨X, 4, none⟩ = some (.int .i64 (B.hi 4)) := (HB6.out.cellX okS (i := 4) (by decide)).trans (okS.hi 4 rfl)
  obtain ⟨cap6, y17, hc7, hc8⟩ := HB6.out.cell17 okS
  have x17_y1 : (wb.setCell ⟨X, 18, none⟩ (.slice a2 (B.no + 1) k2)).cell? ⟨X, 17, none⟩ = some (.slice (some ⟨g, 0, none⟩) B.np cap6) := y17
  have hc5 : B.np ≤ cap6 ∧ cap6 ≤ 9223372036854775807 := ⟨hc7, hc8⟩
  clear HQ y17 d18 f18 hOb hgb hqx hq0 hq1 hq2 hq3 hq4 hq5 hga
  obtain ⟨y1, hy1⟩ : ∃ y, wb.setCell ⟨X, 18, none⟩ (.slice a2 (B.no + 1) k2) = y := ⟨_, rfl⟩
  rw [hy1] at HB6 HM6 hr6 hz6 x4_y1 x17_y1 ⊢
  clear hy1
  clear p44_z2 p50_z2 p8_z2 p31_z2 p14_z2 p45_z2 p87_z2 p48_z2 hP_z2 x4_z2 x6_z2 x17_z2 E_z2
  have HQ := Lib.hid hr6
  have hP_y1 : Pv y1 P0 0 L := Pv.box hr6 HLEN.out
  clear hr6
  have p31_y1 : y1.cell? ⟨P0, 31, none⟩ = some (.bool true) := (hP_y1.cell (j := 31) (by decide)).trans HL_31.out
  have p48_y1 : y1.cell? ⟨P0, 48, none⟩ = some (.bool (B.gb k 48)) := (hP_y1.cell (j := 48) (by decide)).trans HL_48.out
  have p14_y1 : y1.cell? ⟨P0, 14, none⟩ = some (.int .i64 (B.gi k 14)) := (hP_y1.cell (j := 14) (by decide)).trans HL_14.out
  have p8_y1 : y1.cell? ⟨P0, 8, none⟩ = some (.int .i64 (B.gi k 8)) := (hP_y1.cell (j := 8) (by decide)).trans HL_8.out
  have h14a := H14.out.1
  have h14b := H14.out.2
  go_upto_region 27 with (first
    | fail
    | ((with_reducible refine at_store 4 ?_); refine st_pv rfl rfl 4 _ _ rfl P0 0 31 _ hP_y1 _ #[.bool false] rfl rfl rfl (by exact (by decide : 31 + 1 ≤ 89)) (by kernel_rfl) rfl ?_
       intro y2 hp hm
       replace hp := pv_one hp HLEN.out (by decide)
       have hP_y2 : Pv y2 P0 0 (L.set 31 (.bool false)) := hp
       have E_y2 : Pm P0 0 y1 y2 := hm
       have x4_y2 : y2.cell? ⟨X, 4, none⟩ = some (.int .i64 (B.hi 4)) := cell_pm x4_y1 hm hXP
       have x17_y2 : y2.cell? ⟨X, 17, none⟩ = some (.slice (some ⟨g, 0, none⟩) B.np cap6) := cell_pm x17_y1 hm hXP
       have p31_y2 : y2.cell? ⟨P0, 31, none⟩ = some (.bool false) := (hP_y2.cell (j := 31) (by decide)).trans (get_same HLEN.out (by decide))
       have p48_y2 : y2.cell? ⟨P0, 48, none⟩ = some (.bool (B.gb k 48)) := (hP_y2.cell (j := 48) (by decide)).trans ((get_ne (by decide)).trans HL_48.out)
       have p14_y2 : y2.cell? ⟨P0, 14, none⟩ = some (.int .i64 (B.gi k 14)) := (hP_y2.cell (j := 14) (by decide)).trans ((get_ne (by decide)).trans HL_14.out)
       have p8_y2 : y2.cell? ⟨P0, 8, none⟩ = some (.int .i64 (B.gi k 8)) := (hP_y2.cell (j := 8) (by decide)).trans ((get_ne (by decide)).trans HL_8.out)
       clear hP_y1 x4_y1 x17_y1 p31_y1 p48_y1 p14_y1 p8_y1
       clear hp hm)
    | ((with_reducible refine at_store 4 ?_); refine st_pv rfl rfl 4 _ _ rfl P0 0 48 _ hP_y2 _ #[.bool false] rfl rfl rfl (by exact (by decide : 48 + 1 ≤ 89)) (by kernel_rfl) rfl ?_
       intro y3 hp hm
       replace hp := pv_one hp (len_set' HLEN.out) (by decide)
       have hP_y3 : Pv y3 P0 0 ((L.set 31 (.bool false)).set 48 (.bool false)) := hp
       have E_y3 : Pm P0 0 y1 y3 := E_y2.trans hm
       have x4_y3 : y3.cell? ⟨X, 4, none⟩ = some (.int .i64 (B.hi 4)) := cell_pm x4_y2 hm hXP
       have x17_y3 : y3.cell? ⟨X, 17, none⟩ = some (.slice (some ⟨g, 0, none⟩) B.np cap6) := cell_pm x17_y2 hm hXP
       have p31_y3 : y3.cell? ⟨P0, 31, none⟩ = some (.bool false) := (hP_y3.cell (j := 31) (by decide)).trans ((get_ne (by decide)).trans (get_same HLEN.out (by decide)))
       have p48_y3 : y3.cell? ⟨P0, 48, none⟩ = some (.bool false) := (hP_y3.cell (j := 48) (by decide)).trans (get_same (len_set' HLEN.out) (by decide))
       have p14_y3 : y3.cell? ⟨P0, 14, none⟩ = some (.int .i64 (B.gi k 14)) := (hP_y3.cell (j := 14) (by decide)).trans ((get_ne (by decide)).trans ((get_ne (by decide)).trans HL_14.out))
       have p8_y3 : y3.cell? ⟨P0, 8, none⟩ = some (.int .i64 (B.gi k 8)) := (hP_y3.cell (j := 8) (by decide)).trans ((get_ne (by decide)).trans ((get_ne (by decide)).trans HL_8.out))
       clear hP_y2 x4_y2 x17_y2 E_y2 p31_y2 p48_y2 p14_y2 p8_y2
       clear hp hm)
    | ((with_reducible refine at_store 3 ?_); refine st_pv rfl rfl 3 _ _ rfl P0 0 14 _ hP_y3 _ #[.int .i64 (B.gi k 14 + 1)] rfl rfl rfl (by exact (by decide : 14 + 1 ≤ 89)) (by kernel_rfl) rfl ?_
       intro y4 hp hm
       replace hp := pv_one hp (len_set' (len_set' HLEN.out)) (by decide)
       have hP_y4 : Pv y4 P0 0 (((L.set 31 (.bool false)).set 48 (.bool false)).set 14 (.int .i64 (B.gi k 14 + 1))) := hp
       have E_y4 : Pm P0 0 y1 y4 := E_y3.trans hm
       have x4_y4 : y4.cell? ⟨X, 4, none⟩ = some (.int .i64 (B.hi 4)) := cell_pm x4_y3 hm hXP
       have x17_y4 : y4.cell? ⟨X, 17, none⟩ = some (.slice (some ⟨g, 0, none⟩) B.np cap6) := cell_pm x17_y3 hm hXP
       have p31_y4 : y4.cell? ⟨P0, 31, none⟩ = some (.bool false) := (hP_y4.cell (j := 31) (by decide)).trans ((get_ne (by decide)).trans ((get_ne (by decide)).trans (get_same HLEN.out (by decide))))
       have p48_y4 : y4.cell? ⟨P0, 48, none⟩ = some (.bool false) := (hP_y4.cell (j := 48) (by decide)).trans ((get_ne (by decide)).trans (get_same (len_set' HLEN.out) (by decide)))
       have p14_y4 : y4.cell? ⟨P0, 14, none⟩ = some (.int .i64 (B.gi k 14 + 1)) := (hP_y4.cell (j := 14) (by decide)).trans (get_same (len_set' (len_set' HLEN.out)) (by decide))
       have p8_y4 : y4.cell? ⟨P0, 8, none⟩ = some (.int .i64 (B.gi k 8)) := (hP_y4.cell (j := 8) (by decide)).trans ((get_ne (by decide)).trans ((get_ne (by decide)).trans ((get_ne (by decide)).trans HL_8.out)))
       clear hP_y3 x4_y3 x17_y3 E_y3 p31_y3 p48_y3 p14_y3 p8_y3
       clear hp hm)
    | ((with_reducible refine at_store 3 ?_); refine st_pv rfl rfl 3 _ _ rfl P0 0 8 _ hP_y4 _ #[.int .i64 (B.hi 4)] rfl rfl rfl (by exact (by decide : 8 + 1 ≤ 89)) (by kernel_rfl) rfl ?_
       intro y5 hp hm
       replace hp := pv_one hp (len_set' (len_set' (len_set' HLEN.out))) (by decide)
       have hP_y5 : Pv y5 P0 0 ((((L.set 31 (.bool false)).set 48 (.bool false)).set 14 (.int .i64 (B.gi k 14 + 1))).set 8 (.int .i64 (B.hi 4))) := hp
       have E_y5 : Pm P0 0 y1 y5 := E_y4.trans hm
       have x4_y5 : y5.cell? ⟨X, 4, none⟩ = some (.int .i64 (B.hi 4)) := cell_pm x4_y4 hm hXP
       have x17_y5 : y5.cell? ⟨X, 17, none⟩ = some (.slice (some ⟨g, 0, none⟩) B.np cap6) := cell_pm x17_y4 hm hXP
       have p31_y5 : y5.cell? ⟨P0, 31, none⟩ = some (.bool false) := (hP_y5.cell (j := 31) (by decide)).trans ((get_ne (by decide)).trans ((get_ne (by decide)).trans ((get_ne (by decide)).trans (get_same HLEN.out (by decide)))))
       have p48_y5 : y5.cell? ⟨P0, 48, none⟩ = some (.bool false) := (hP_y5.cell (j := 48) (by decide)).trans ((get_ne (by decide)).trans ((get_ne (by decide)).trans (get_same (len_set' HLEN.out) (by decide))))
       have p14_y5 : y5.cell? ⟨P0, 14, none⟩ = some (.int .i64 (B.gi k 14 + 1)) := (hP_y5.cell (j := 14) (by decide)).trans ((get_ne (by decide)).trans (get_same (len_set' (len_set' HLEN.out)) (by decide)))
       have p8_y5 : y5.cell? ⟨P0, 8, none⟩ = some (.int .i64 (B.hi 4)) := (hP_y5.cell (j := 8) (by decide)).trans (get_same (len_set' (len_set' (len_set' HLEN.out))) (by decide))
       clear hP_y4 x4_y4 x17_y4 E_y4 p31_y4 p48_y4 p14_y4 p8_y4
       clear hp hm))
  have HBy := Lib.hid (show BrG y5 (fun n => F n ∨ (w.heap.size ≤ n ∧ n < y5.heap.size)) X g (B.sent k 2) from (HB6.out.keep (fun n hf hn => E_y5.1.heap hn (show ¬ n = P0 from fun e => by
    have h1 := HP0.out
    rcases hf with hf | hf
    · have := HF.out n hf
      omega
    · omega))).mono (fun n hn => hn.imp id (fun h => ⟨by have := HP0.out; omega, Nat.lt_of_lt_of_le h.2 (Nat.le_trans hz6.2 E_y5.size)⟩)))
  have HMy := Lib.hid (show Mut F w y5 from mut_new HM6.out E_y5.1 (by have := HP0.out; omega))
  have hPf := hP_y5
  have hrw := pv_row HQ.out HLEN.out E_y5 hPf
  have hlen := Lib.hid hPf.len
  have hone := Lib.hid (show ∀ v ∈ (((((L.set 31 (.bool false)).set 48 (.bool false)).set 14 (.int .i64 (B.gi k 14 + 1))).set 8 (.int .i64 (B.hi 4))) : List Value), v.oneCell' = true from by
    have h0 := HONE.out
    exact (set_one (set_one (set_one (set_one h0 rfl) rfl) rfl) rfl))
  have HEQ := Lib.hid (show (B.sent k 2).setPort k ((((L.set 31 (.bool false)).set 48 (.bool false)).set 14 (.int .i64 (B.gi k 14 + 1))).set 8 (.int .i64 (B.hi 4))) = (((((((((B.sent k 2)).setp k 31 (.bool false))).setp k 48 (.bool false))).setp k 14 (.int .i64 (B.gi k 14 + 1)))).setp k 8 (.int .i64 (B.hi 4))) from (sp_s (j := 8) (v := .int .i64 (B.hi 4)) (sp_s (j := 14) (v := .int .i64 (B.gi k 14 + 1)) (sp_s (j := 48) (v := .bool false) (sp_s (j := 31) (v := .bool false) (sp_0 (Z := (B.sent k 2)) HL.out h89.out) HLEN.out h89.out (by decide)) (len_set' HLEN.out) h89.out (by decide)) (len_set' (len_set' HLEN.out)) h89.out (by decide)) (len_set' (len_set' (len_set' HLEN.out))) h89.out (by decide)))
  have c17y := x17_y5
  obtain ⟨N, hN⟩ : ∃ N, ((((L.set 31 (.bool false)).set 48 (.bool false)).set 14 (.int .i64 (B.gi k 14 + 1))).set 8 (.int .i64 (B.hi 4))) = N := ⟨_, rfl⟩
  rw [hN] at hrw hlen hone HEQ
  clear hN hPf
  refine wp_region_tail 7 (by kernel_rfl) (by kernel_rfl) ?_
  intro w9 hw9
  have hx9 : Ext y5 w9 := by
    rw [hw9]
    exact (Ext.refl _).drew
  have HB2 := Lib.hid ((hx9.block _ (heap_lt hrw)).trans hrw)
  have d17 := cell_ext c17y hx9
  have hBy := Lib.hid (HBy.out.ext hx9)
  have hMy := Lib.hid (HMy.out.trans (hx9.mut F))
  have hth := Lib.hid (hBy.out.there (show k < ((B.sent k 2)).np from hk))
  have HSZ := Lib.hid hx9.size
  clear hw9 hrw c17y hx9
  simp only [List.take_succ_cons, List.take_zero, List.drop_succ_cons, List.drop_zero]
  iterate 5 still_step
  refine wpStill_load_row rfl 53 _ rfl P0 rfl _ _ _ HB2.out Try.underlying53 rfl (by rw [List.size_toArray, hlen.out]; exact size_port) ?_
  simp only [Act.put, List.setIfInBounds_toArray, List.set_cons_zero, List.set_cons_succ]
  iterate 1 still_step
  refine wpStill_nil ?_
  refine wpList_store_mid rfl 53 _ _ rfl g (k * 89) _ rfl rfl (by rw [List.size_toArray, hlen.out]; exact hth.out) (by rw [List.size_toArray, hlen.out]; exact size_port) (all_oneCell_toArray hone.out) ?_
  go_wp2_with fail
  go_ret
  have hfin := hBy.out.setPort (show k < ((B.sent k 2)).np from hk) (l := N) hlen.out
  rw [HEQ.out] at hfin
  exact ⟨rfl, hfin.mono (fun n hn => hn.imp id (fun h => ⟨h.1, Nat.lt_of_lt_of_le (Nat.lt_of_lt_of_le h.2 HSZ.out) (Mut.setCells (F := F) (.inl H.out.F2) _ _ (Mut.refl F w9)).size⟩)), Mut.setCells (.inl H.out.F2) _ _ hMy.out⟩

theorem txF_np (B : Br) (k : Nat) : (txF B k).2.np = B.np := by
  rcases txF_cases B k with h | h | h
  · rw [h]
  · rw [h]; exact txClock_np B k
  · rw [h.1]; exact txNews_np B k
theorem txF_ok {B : Br} (ho : B.ok) {k : Nat} (hk : k < B.np) (hk8 : k < 1000) (h14 : 0 ≤ B.gi k 14 ∧ B.gi k 14 ≤ 100000) : (txF B k).2.ok := by
  rcases txF_cases B k with h | h | h
  · rw [h]; exact ho
  · rw [h]; exact txClock_ok ho hk
  · rw [h.1]; exact txNews_ok ho hk hk8 h14
theorem txNews_4 {B : Br} {k : Nat} (h45 : B.gb k 45 = false) (h87 : B.gi k 87 = 4) : txNews B k = ((((((B.sent k 0)).setp k 31 (.bool false)).setp k 48 (.bool false)).setp k 14 (.int .i64 (B.gi k 14 + 1))).setp k 8 (.int .i64 (B.hi 4))) := by
  unfold txNews
  rw [h45, h87]
  rfl
theorem txNews_3 {B : Br} {k : Nat} (h45 : B.gb k 45 = false) (h87 : B.gi k 87 = 3) : txNews B k = (((((B.sent k 1)).setp k 31 (.bool false)).setp k 14 (.int .i64 (B.gi k 14 + 1))).setp k 8 (.int .i64 (B.hi 4))) := by
  unfold txNews
  rw [h45, h87]
  rfl
theorem txNews_2 {B : Br} {k : Nat} (h45 : B.gb k 45 = true) : txNews B k = ((((((B.sent k 2)).setp k 31 (.bool false)).setp k 48 (.bool false)).setp k 14 (.int .i64 (B.gi k 14 + 1))).setp k 8 (.int .i64 (B.hi 4))) := by
  unfold txNews
  rw [h45]
  rfl
theorem txd_step (w : World) (F : Nat → Prop) (X g k : Nat) (B : Br) (h : BrG w F X g B) (ho : B.ok) (hk : k < B.np) (hn : B.np < 1000) (hF : ∀ n, F n → n < w.heap.size) (h14 : 0 ≤ B.gi k 14 ∧ B.gi k 14 ≤ 100000) (h13 : 0 ≤ B.gi k 13) (hno : B.no ≤ 100000) :
    Calls Try.prog 19 #[.pointer (some ⟨X, 0, none⟩), .int .i64 k] w (fun e w' => e = .returned (.bool (txF B k).1) ∧ BrG w' (fun n => F n ∨ (w.heap.size ≤ n ∧ n < w'.heap.size)) X g ((txF B k).2) ∧ Mut F w w') := by
  unfold txF txSel
  cases h44 : B.gb k 44
  · exact txd_s0 w F X g k B h ho hk hn h44
  cases h50 : B.gb k 50
  case true => exact txd_s0b w F X g k B h ho hk hn h44 h50
  rw [if_neg (show ¬ ((!true || false) = true) by simp)]
  by_cases h8 : B.gi k 8 = 0
  · rw [if_pos h8]
    unfold txClock
    by_cases h4 : B.gi k 87 = 4
    · rw [h4]
      exact txd_c4 w F X g k B h ho hk hn h44 h50 h8 h4
    by_cases h3 : B.gi k 87 = 3
    · rw [h3]
      by_cases h13 : B.gi k 13 = 0
      · rw [h13]
        exact txd_c3f w F X g k B h ho hk hn h44 h50 h8 h3 h13
      · have h13b : (B.gi k 13 != 0) = true := by simpa using h13
        rw [h13b]
        exact txd_c3t w F X g k B h ho hk hn h44 h50 h8 h3 h13b
    have n4 : (B.gi k 87 == 4) = false := by simpa using h4
    have n3 : (B.gi k 87 == 3) = false := by simpa using h3
    rw [n4, n3]
    exact txd_cx w F X g k B h ho hk hn h44 h50 h8 n4 n3
  have n8 : (B.gi k 8 == 0) = false := by simpa using h8
  rw [if_neg h8]
  cases h31 : B.gb k 31
  · have e : (txTells (B.gb k 45) (B.gi k 87) && false && decide (B.gi k 14 < B.hi 6)) = false := by simp
    rw [e]
    exact txd_n2 w F X g k B h ho hk hn h44 h50 n8 h31
  by_cases hlt : B.gi k 14 < B.hi 6
  rotate_left
  · have e : (txTells (B.gb k 45) (B.gi k 87) && true && decide (B.gi k 14 < B.hi 6)) = false := by simp; omega
    rw [e]
    exact txd_n3 w F X g k B h ho hk hn h44 h50 n8 h31 hlt
  have e : (txTells (B.gb k 45) (B.gi k 87) && true && decide (B.gi k 14 < B.hi 6)) = txTells (B.gb k 45) (B.gi k 87) := by simp [hlt]
  rw [e]
  clear e
  cases h45 : B.gb k 45
  · by_cases h4 : B.gi k 87 = 4
    · rw [show txTells false (B.gi k 87) = true by rw [h4]; rfl, txNews_4 h45 h4]
      exact txd_k4 w F X g k B h ho hk hn h44 h50 n8 h31 hlt h45 h4 hF h14 h13 hno
    by_cases h3 : B.gi k 87 = 3
    · rw [show txTells false (B.gi k 87) = true by rw [h3]; rfl, txNews_3 h45 h3]
      exact txd_k3 w F X g k B h ho hk hn h44 h50 n8 h31 hlt h45 h3 hF h14 h13 hno
    have n4 : (B.gi k 87 == 4) = false := by simpa using h4
    have n3 : (B.gi k 87 == 3) = false := by simpa using h3
    rw [show txTells false (B.gi k 87) = false by unfold txTells; rw [if_neg (by decide), if_neg h3, n4]]
    exact txd_k0 w F X g k B h ho hk hn h44 h50 n8 h31 hlt h45 n4 n3
  · by_cases h0 : B.gi k 87 = 0
    · rw [show txTells true (B.gi k 87) = false by rw [h0]; rfl]
      exact txd_k1 w F X g k B h ho hk hn h44 h50 n8 h31 hlt h45 h0
    · have n0 : (B.gi k 87 != 0) = true := by simpa using h0
      rw [show txTells true (B.gi k 87) = true by unfold txTells; rw [if_pos rfl, n0], txNews_2 h45]
      exact txd_k2 w F X g k B h ho hk hn h44 h50 n8 h31 hlt h45 n0 hF h14 h13 hno

end Go.Proofs.Ythlapkddgnpaeaa
