/- Relay: where a frame goes. No statement is proved here. -/
import Derived.Test.YtemmfbedchfekaaRlA
namespace Go.Proofs.Ytemmfbedchfekaa
open Go.RowKit Go.BigFrame Go.WideShapes Go.ChangeShapes Go.Deep
set_option linter.unusedVariables false
set_option linter.unusedSimpArgs false
set_option maxRecDepth 100000

abbrev iv (ss : List Int) : List Value := ss.map (Value.int .i64)
def okM (x : Int) : Prop := x % 281474976710656 ≠ 0 ∧ ¬ x % 281474976710656 / 1099511627776 % 2 = 1
def outL (B : Br) (inn p : Int) (kn : Bool) (n : Nat) : List Int := (othersL B inn n).filter (fun i => !kn || decide (i = p))
/-- What a frame does. -/
def GoesP (B : Br) (most age : Int) (L : List En) (inn src dst : Int) (L' : List En) (xs : List Int) : Prop :=
  ((inn < 0 ∨ (B.np : Int) ≤ inn ∨ B.gb inn.toNat 2 = false ∨ resB dst = true) ∧ L' = L ∧ xs = []) ∨
  ((0 ≤ inn ∧ inn < (B.np : Int) ∧ B.gb inn.toNat 2 = true ∧ resB dst = false) ∧
    (((B.gb inn.toNat 29 = true ∧ okM src) ∧ LearnedP most age (src % 281474976710656) inn L L') ∨ (¬ (B.gb inn.toNat 29 = true ∧ okM src) ∧ L' = L)) ∧
    ((B.gb inn.toNat 27 = true ∧ ∃ p kn, OneP L' dst p kn ∧ xs = outL B inn p kn B.np) ∨ (B.gb inn.toNat 27 = false ∧ xs = [])))
/-- What is handed back, and what stays. -/
def OutR (w : World) (F : Nat → Prop) (f : Nat) (most age : Int) (L' : List En) (xs : List Int) (e : Ending) (w' : World) : Prop :=
  ∃ v F' base, e = .returned v ∧ w'.ownsRow base 3 1 v xs.length (iv xs) ∧ w.heap.size ≤ base ∧ (∀ k, F' k → k < base) ∧ Fb w' F' f L' most age ∧ (∀ k, F' k → F k ∨ w.heap.size ≤ k) ∧ Mut F w w'
theorem Mut.below {F : Nat → Prop} {a b c : World} (h : Mut F a b) (k : Ext b c) : Mut F a c := h.trans (k.mut F)
set_option maxRecDepth 100000 in
set_option maxHeartbeats 8000000 in
theorem out_none (w : World) (F : Nat → Prop) (f : Nat) (L : List En) (most age : Int) (hfb : Fb w F f L most age) (c : Array Value) (B : Br) (hbk : BrK w F c B) (ho : B.ok) (hnp : 0 < B.np ∧ B.np ≤ 1000) (inn src dst : Int) (hin : -9223372036854775808 ≤ inn ∧ inn < 9223372036854775808) (hdst : 0 ≤ dst ∧ dst < 18446744073709551616)
    (hno : inn < 0 ∨ (B.np : Int) ≤ inn ∨ B.gb inn.toNat 2 = false ∨ resB dst = true) :
    Calls Try.prog 17 #[.agg c, .pointer (some ⟨f, 0, none⟩), .int .i64 inn, .int .u64 src, .int .u64 dst] w fun e w' => e = .returned (.slice none 0 0) ∧ Ext w w' := by
  obtain ⟨b, off, cap, c17, hc1, hc2, hr⟩ := hbk.br.ports ho hnp.1
  have hb0 : BrC w c B := hbk.br
  have d17 : (w.alloc (.cells c 33)).cell? ⟨w.heap.size, 17, none⟩ = some (.slice (some ⟨b, off, none⟩) B.np cap) := by rw [box_cell (Ext.refl _)]; exact c17
  have E0 : Ext w (w.alloc (.cells c 33)) := (Ext.refl w).alloc _
  have hr0 := (hb0.ext E0)
  by_cases h1 : inn < 0
  · have d1 : decide (inn < 0) = true := by simpa using h1
    clear h1 hno
    go_enter Try.func17, Try.ntmps17
    go_wp2_with fail
    go_ret
    exact ⟨rfl, E0⟩
  have d1 : decide (inn < 0) = false := by simpa using h1
  by_cases h2 : (B.np : Int) ≤ inn
  · have d2 : decide ((B.np : Int) ≤ inn) = true := by simpa using h2
    clear h1 h2 hno
    go_enter Try.func17, Try.ntmps17
    go_wp2_with fail
    go_ret
    exact ⟨rfl, E0⟩
  have d2 : decide ((B.np : Int) ≤ inn) = false := by simpa using h2
  obtain ⟨i, rfl⟩ : ∃ i : Nat, inn = i := ⟨inn.toNat, by omega⟩
  rw [Int.toNat_natCast] at hno
  have hi : i < B.np := by omega
  have e2 : (w.alloc (.cells c 33)).cell? ⟨b, off + i * 89 + 2, none⟩ = some (.bool (B.gb i 2)) := by
    have h0 := hr i hi 2 _ (by omega) (ho.gb hi 2 rfl)
    rw [E0.cell (by
      unfold World.cell? at h0
      rcases hh : w.heap[b]? with _ | o
      · rw [hh] at h0; cases h0
      · exact (Array.getElem?_eq_some_iff.1 hh).1)]
    exact h0
  obtain ⟨en, hen⟩ : ∃ en, B.gb i 2 = en := ⟨_, rfl⟩
  rw [hen] at e2 hno
  obtain ⟨N, hN⟩ : ∃ N, B.np = N := ⟨_, rfl⟩
  rw [hN] at hi d17 d2
  clear hr hbk hfb hb0 hr0 h1 h2 hen
  cases en with
  | false =>
    go_enter Try.func17, Try.ntmps17
    go_wp2_with fail
    go_ret
    exact ⟨rfl, E0⟩
  | true =>
    have hres : resB dst = true := by
      rcases hno with h | h | h | h
      · omega
      · omega
      · cases h
      · exact h
    go_enter Try.func17, Try.ntmps17
    go_wp2_with fail
    refine (res_any dst _ hdst).mono ?_
    rintro e _ ⟨rfl, rfl⟩
    rw [hres]
    go_wp2_with fail
    go_ret
    exact ⟨rfl, E0⟩

theorem info_i64 : ∃ i, Try.prog.info? 3 = some i ∧ i.zero = some (Value.int .i64 0) ∧ i.size = 1 ∧ i.bytes = 8 := by
  refine ⟨_, rfl, ?_, ?_, ?_⟩ <;> kernel_rfl
/-- All of a caller's round but its box. -/
def KB (nS G : Nat) (A C : World) : Prop := C.os = A.os ∧ C.tape = A.tape ∧ C.output = A.output ∧ KP nS G A C
theorem KB.refl (nS G : Nat) (A : World) : KB nS G A A := ⟨rfl, rfl, rfl, KP.refl _ _ _⟩
theorem ownFrom_kb (G : Nat) (w0 : World) : OwnFrom w0.heap.size (fun (_ : List Int) W => KB w0.heap.size G w0 W) := fun s W W' row h hg hr =>
  ⟨hg.os.trans h.1, hg.tape.trans h.2.1, hg.output.trans h.2.2.1, Nat.le_trans h.2.2.2.1 hg.size, fun k h1 h2 =>
    (hg.block k (Nat.lt_of_lt_of_le h1 h.2.2.2.1) (fun e => by have := (hr k e.symm).1; omega)).trans (h.2.2.2.2 k h1 h2)⟩
/-- What an append into the box's own row keeps. -/
theorem appK {W w1 : World} {nS B : Nat} {t e : TypeId} {size : Nat} {v v' : Value} {k m : Nat} {xs ys : List Value} {tmp : Obj}
    (hv : Boxed W B t v) (hte : t ≠ e) (hrow : W.ownsRow nS e size v k xs) (hn : nS ≤ W.heap.size)
    (hown' : w1.ownsRow nS e size v' m ys) (hgrow : (W.alloc tmp).grownBy w1 v.ownBlock) :
    Boxed w1 B t v ∧ Boxed (w1.setCell ⟨B, 0, none⟩ v') B t v' ∧ (w1.setCell ⟨B, 0, none⟩ v').ownsRow nS e size v' m ys ∧ KeepsOthers W (w1.setCell ⟨B, 0, none⟩ v') ∧ KB nS B W (w1.setCell ⟨B, 0, none⟩ v') := by
  have hv1 : Boxed w1 B t v := (hv.alloc tmp).kept hgrow (hv.not_row hte hrow)
  refine ⟨hv1, hv1.set v', hown'.kept (grownBy_setCell' w1 B v') (.inr (hv1.not_row hte hown').symm), ?_, ?_⟩
  · refine ((KeepsOthers.alloc W tmp).trans (KeepsOthers.of_grownBy hgrow fun j o ej hj => ?_)).trans (KeepsOthers.setCell _ _ _)
    rcases (hrow.alloc tmp).2 with ⟨rfl, _⟩ | ⟨g, cap, cur, rfl, _, hgb, _⟩
    · simp [Value.ownBlock] at ej
    · obtain rfl : g = j := by simpa [Value.ownBlock] using ej
      rw [hgb] at hj; cases hj; rfl
  · have hsz := hgrow.size
    have h1 : (W.alloc tmp).heap.size = W.heap.size + 1 := by simp
    refine ⟨hgrow.os, hgrow.tape, hgrow.output, by simp; omega, fun k hk hkB => ?_⟩
    rw [Below.heap_setCell _ _ _ _ (by exact hkB)]
    refine (hgrow.block k (by omega) (fun ej => ?_)).trans (heap_alloc_old _ _ (by omega))
    rcases hrow.2 with ⟨rfl, _⟩ | ⟨g, cap, cur, rfl, hb, _, _⟩
    · simp [Value.ownBlock] at ej
    · obtain rfl : k = g := by simpa [Value.ownBlock] using ej
      omega
theorem KB.trans {nS G : Nat} {A C D : World} (h : KB nS G A C) (k : KB nS G C D) : KB nS G A D := ⟨k.1.trans h.1, k.2.1.trans h.2.1, k.2.2.1.trans h.2.2.1, h.2.2.2.trans k.2.2.2⟩
theorem one_i64 (w : World) (x : Int) : ∀ j u, [Value.int .i64 x][j]? = some u → (w.alloc (.cells #[.int .i64 x] 3)).cell? ((⟨w.heap.size, 0, none⟩ : Addr).add j) = some u := cell_one_new w _ _
theorem mut_newG {F : Nat → Prop} {a b c : World} {G : Nat} (h : Mut F a b) (m : Mut (fun k => k = G) b c) (hG : a.heap.size ≤ G) : Mut F a c :=
  ⟨m.1.trans h.1, m.2.1.trans h.2.1, m.2.2.1.trans h.2.2.1, Nat.le_trans h.2.2.2.1 m.2.2.2.1, fun k hk hf => (m.2.2.2.2 k (Nat.lt_of_lt_of_le hk h.2.2.2.1) (fun hc => by have h2 : k = G := hc; omega)).trans (h.2.2.2.2 k hk hf)⟩
theorem kb_put {G D : Nat} {A C : World} (h : KB A.heap.size G A C) (hD : A.heap.size ≤ D) (o : Obj) : Mut (fun k => k = G) A (C.putObj D o) :=
  ⟨h.1, h.2.1, h.2.2.1, by rw [World.putObj_size]; exact h.2.2.2.1, fun k hk hf => (World.putObj_heap_other (by omega)).trans (h.2.2.2.2 k hk hf)⟩
theorem fil_snoc (pre : List Int) (x p : Int) (kn : Bool) : (pre ++ [x]).filter (fun x => !kn || decide (x = p)) = pre.filter (fun x => !kn || decide (x = p)) ++ (if (!kn || decide (x = p)) = true then [x] else []) := by
  rw [List.filter_append]
  congr 1
  by_cases h : (!kn || decide (x = p)) = true
  · rw [if_pos h, List.filter_cons, if_pos h]; rfl
  · rw [if_neg h, List.filter_cons, if_neg h]; rfl
set_option maxRecDepth 100000 in
set_option maxHeartbeats 8000000 in
theorem out_some (w : World) (F : Nat → Prop) (f : Nat) (L : List En) (most age : Int) (hfb : Fb w F f L most age) (hL : Ok age L) (ha : 1 ≤ age ∧ age ≤ 1000000) (hlen : 1 ≤ most ∧ most ≤ 4096 ∧ (L.length : Int) ≤ most) (c : Array Value) (B : Br) (hbk : BrK w F c B) (ho : B.ok) (hnp : 0 < B.np ∧ B.np ≤ 1000) (i : Nat) (hi : i < B.np) (src dst : Int) (hsrc : 0 ≤ src ∧ src < 18446744073709551616) (hdst : 0 ≤ dst ∧ dst < 18446744073709551616)
    (hen : B.gb i 2 = true) (hres : resB dst = false) :
    CallsIn Fence.wide 9 Try.prog 17 #[.agg c, .pointer (some ⟨f, 0, none⟩), .int .i64 i, .int .u64 src, .int .u64 dst] w fun e w' => ∃ L' xs, GoesP B most age L i src dst L' xs ∧ OutR w F f most age L' xs e w' := by
  obtain ⟨b, off, cap, c17, hc1, hc2, hr⟩ := hbk.br.ports ho hnp.1
  have hFl := hfb.lt
  have E0 : Ext w (w.alloc (.cells c 33)) := (Ext.refl w).alloc _
  have hrow : (w.alloc (.cells c 33)).heap[w.heap.size]? = some (.cells c 33 (0, 0)) := heap_alloc_new _ _
  obtain ⟨N, hN⟩ : ∃ N, B.np = N := ⟨_, rfl⟩
  refine callsIn_of_wp_marks (F := Fence.wide) Try.func17 rfl trivial ?_
  simp only [Try.ntmps17, List.size_toArray, List.length_cons, List.length_nil, Nat.reduceAdd, Nat.reduceSub, Array.replicate_succ, Array.replicate_zero, List.push_toArray, List.append_toArray, List.nil_append, List.cons_append]
  have d17 : (w.alloc (.cells c 33)).cell? ⟨w.heap.size, 17, none⟩ = some (.slice (some ⟨b, off, none⟩) B.np cap) := by rw [box_cell (Ext.refl _)]; exact c17
  have gcell : ∀ j v, j < 89 → B.ps[i * 89 + j]? = some v → (w.alloc (.cells c 33)).cell? ⟨b, off + i * 89 + j, none⟩ = some v := fun j v hj hv => by
    have h0 := hr i hi j v hj hv
    rw [E0.cell (by
      unfold World.cell? at h0
      rcases hh : w.heap[b]? with _ | o
      · rw [hh] at h0; cases h0
      · exact (Array.getElem?_eq_some_iff.1 hh).1)]
    exact h0
  have e2 : (w.alloc (.cells c 33)).cell? ⟨b, off + i * 89 + 2, none⟩ = some (.bool true) := by rw [← hen]; exact gcell 2 _ (by omega) (ho.gb hi 2 rfl)
  obtain ⟨q29, hq29⟩ : ∃ q, B.gb i 29 = q := ⟨_, rfl⟩
  have e29 : (w.alloc (.cells c 33)).cell? ⟨b, off + i * 89 + 29, none⟩ = some (.bool q29) := by rw [← hq29]; exact gcell 29 _ (by omega) (ho.gb hi 29 rfl)
  have HR := Lib.hid hrow
  have HE0 := Lib.hid E0
  have HEN := Lib.hid hen
  have HRES := Lib.hid hres
  have HFB := Lib.hid hfb
  have HBK := Lib.hid hbk
  have HFL := Lib.hid hFl
  have HL := Lib.hid hL
  have hd1 : decide ((i : Int) < 0) = false := by simp
  have hd2 : decide (N ≤ i) = false := by simp; omega
  rw [hN] at d17 hc1
  have hiN : i < N := by omega
  clear hr gcell hrow hres hfb hbk hFl hen c17 E0 hL
  gi_wp2
  refine ⟨trivial, (callsIn_wide.2 (res_any dst _ hdst)).mono ?_⟩
  rintro e _ ⟨rfl, rfl⟩
  rw [HRES.out]
  generalize w.alloc (.cells c 33) = wE at *
  obtain ⟨X, hX⟩ : ∃ X, w.heap.size = X := ⟨_, rfl⟩
  rw [hX] at HR d17 ⊢
  have HXX := Lib.hid hX
  clear hX
  cases q29 with
  | false =>
    gi_wp2
    have HXl := HR
    have HKB := Lib.hid (HBK.out.step HE0.out.size (fun k hk _ => HE0.out.block k hk) (F1 := F) (fun k _ h => h))
    have HBl := Lib.hid (HFB.out.ext HE0.out)
    have HML := Lib.hid (HE0.out.mut F)
    have HFS := Lib.hid (show ∀ k, F k → F k ∨ w.heap.size ≤ k from fun k h => .inl h)
    have HLP := Lib.hid (show ((B.gb i 29 = true ∧ okM src) ∧ LearnedP most age (src % 281474976710656) i L L) ∨ (¬ (B.gb i 29 = true ∧ okM src) ∧ L = L) from .inr ⟨fun h => (by rw [hq29] at h; cases h.1), rfl⟩)
    clear hq29 d17 e2 e29
    gi_wp2
    refine ⟨trivial, (callsIn_wide.2 (fw_any wE X c B HXl.out HKB.out.br ho i hi)).mono ?_⟩
    rintro e _ ⟨rfl, rfl⟩
    have hfw : fwB B i = B.gb i 27 := by unfold fwB; rw [HEN.out]; rfl
    rw [hfw]
    clear hfw
    obtain ⟨q27, hq27⟩ : ∃ q, B.gb i 27 = q := ⟨_, rfl⟩
    rw [hq27]
    cases q27 with
    | false =>
      have HQ := Lib.hid hq27
      clear hq27
      gi_wp2
      refine ⟨_, results_tmp rfl _ _ _, L, [], .inr ⟨⟨by omega, by omega, by simpa using HEN.out, HRES.out⟩, by simpa using HLP.out, .inr ⟨by simpa using HQ.out, rfl⟩⟩, _, F, wE.heap.size, rfl, ⟨rfl, .inl ⟨rfl, rfl⟩⟩, HML.out.size, HBl.out.lt, HBl.out, HFS.out, HML.out⟩
    | true =>
      have HQ := Lib.hid hq27
      clear hq27
      gi_wp2
      refine ⟨trivial, (callsIn_wide.2 (one_any wE F f L most age HBl.out dst hdst)).mono ?_⟩
      rintro e wo ⟨⟨p, kn, rfl, hone⟩, hxo⟩
      have HONE := Lib.hid hone
      have HXO := Lib.hid hxo
      clear hone hxo
      gi_wp2
      have r0 : (((wo.alloc (.cells #[.int .i64 p] 3)).alloc (.cells #[.bool kn] 4)).alloc (.cells #[.slice none 0 0] 31)).heap[wo.heap.size]? = some (.cells #[.int .i64 p] 3 (0, 0)) := (heap_alloc_old _ _ (by simp; omega)).trans ((heap_alloc_old _ _ (by simp)).trans (heap_alloc_new _ _))
      have r1 : (((wo.alloc (.cells #[.int .i64 p] 3)).alloc (.cells #[.bool kn] 4)).alloc (.cells #[.slice none 0 0] 31)).heap[wo.heap.size + 1]? = some (.cells #[.bool kn] 4 (0, 0)) := (heap_alloc_old _ _ (by simp)).trans (heap_alloc2_new _ _ _)
      have r2 : (((wo.alloc (.cells #[.int .i64 p] 3)).alloc (.cells #[.bool kn] 4)).alloc (.cells #[.slice none 0 0] 31)).heap[wo.heap.size + 1 + 1]? = some (.cells #[.slice none 0 0] 31 (0, 0)) := by
        have := heap_alloc_new ((wo.alloc (.cells #[.int .i64 p] 3)).alloc (.cells #[.bool kn] 4)) (.cells #[.slice none 0 0] 31)
        simpa using this
      have E3 : Ext wo (((wo.alloc (.cells #[.int .i64 p] 3)).alloc (.cells #[.bool kn] 4)).alloc (.cells #[.slice none 0 0] 31)) := (((Ext.refl wo).alloc _).alloc _).alloc _
      generalize ((wo.alloc (.cells #[.int .i64 p] 3)).alloc (.cells #[.bool kn] 4)).alloc (.cells #[.slice none 0 0] 31) = w3 at *
      obtain ⟨P, hP⟩ : ∃ P, wo.heap.size = P := ⟨_, rfl⟩
      rw [hP] at r0 r1 r2 ⊢
      obtain ⟨P1, hP1⟩ : ∃ P1, P + 1 = P1 := ⟨_, rfl⟩
      rw [hP1] at r1 r2 ⊢
      obtain ⟨G, hG⟩ : ∃ G, P1 + 1 = G := ⟨_, rfl⟩
      rw [hG] at r2 ⊢
      have HPN := Lib.hid (And.intro hP (And.intro hP1 hG))
      have HR0 := Lib.hid r0
      have HR1 := Lib.hid r1
      have HR2 := Lib.hid r2
      have HE3 := Lib.hid (HXO.out.trans E3)
      clear r0 r1 r2 E3 hP hP1 hG
      refine ⟨trivial, (callsIn_wide.2 (others_fn w3 X i)).mono ?_⟩
      rintro e w4 ⟨pp, qq, rfl, hx4, hpp, hqq, hrp, hrq⟩
      have hXl := heap_lt HXl.out
      have h30 := heap_lt HR0.out
      have h31 := heap_lt HR1.out
      have h32 := heap_lt HR2.out
      have hGne : G ≠ P ∧ G ≠ P1 ∧ G ≠ X ∧ pp ≠ G ∧ qq ≠ G := by
        obtain ⟨q1, q2, q3⟩ := HPN.out
        have := HXO.out.size
        omega
      have HE4 := Lib.hid (HE3.out.trans hx4)
      have HX4 := Lib.hid ((HE4.out.block X hXl).trans HXl.out)
      have HP4 := Lib.hid ((hx4.block P h30).trans HR0.out)
      have HP14 := Lib.hid ((hx4.block P1 h31).trans HR1.out)
      have HG4 := Lib.hid ((hx4.block G h32).trans HR2.out)
      have hGW : wE.heap.size ≤ G := by
        obtain ⟨q1, q2, q3⟩ := HPN.out
        have := HXO.out.size
        omega
      have HK4 := Lib.hid (HKB.out.step (F1 := fun k => k = G) HE4.out.size (fun k hk _ => HE4.out.block k hk) (fun k hk hc => by have h2 : k = G := hc; omega))
      have HSEQ := Lib.hid (others_seq 8 (by decide) w4 G pp qq X c B i (by omega) hrp hrq HX4.out ⟨hGne.2.2.2.1, hGne.2.2.2.2, fun h => hGne.2.2.1 h.symm⟩ HK4.out ho hnp)
      clear hx4 hrp hrq hpp hqq
      gi_wp2
      refine wpIn_rangeFunc_ownF (F := Fence.wide) (encs := fun x => #[Value.int .i64 x]) (Kp := KP w4.heap.size G) (S := fun xs => xs = othersL B i B.np) (Sp := fun _ => True) (N := B.np) (w0 := w4) rfl (by decide) (gf := 44) (lb := _) rfl trivial (enters_mine Try.func44 (by kernel_rfl) rfl) HSEQ.out (fun h k => h.trans k)
        (fun W l o o' hl _ _ _ => ⟨by simp, fun k hk _ => World.putObj_heap_other (by omega)⟩) (Below.refl _ _) (fun x => rfl)
        (fun ss W => (∃ v, Boxed W G 31 v ∧ W.ownsRow w4.heap.size 3 1 v (ss.filter (fun x => !kn || decide (x = p))).length (iv (ss.filter (fun x => !kn || decide (x = p)))) ∧ True) ∧ KB w4.heap.size G w4 W) (fun _ _ _ => False)
        (((holdsRow_own w4.heap.size G 31 3 1 (fun ss : List Int => (ss.filter (fun x => !kn || decide (x = p))).length) (fun ss => iv (ss.filter (fun x => !kn || decide (x = p)))) (fun _ _ => True)).from _).and (ownFrom_kb G w4)) (fun _ _ _ _ _ h _ _ => h)
        ⟨⟨_, HG4.out, ⟨rfl, .inl ⟨rfl, rfl⟩⟩, trivial⟩, KB.refl _ _ _⟩ ?a1x1 ?hassignx1 ?hbodyx1 ?hdonex1 ?hstopx1
      case hassignx1 =>
        intro l x W K hK
        gi_wp2_with (rw [Oper.semAt_eq _ _ _ (fun c h => by cases h)]; go_simp; try go_bits)
        exact hK
      case hbodyx1 =>
        rintro l pre x W ⟨⟨v, hv, hrow, -⟩, hkb⟩ hlen
        have hfl : (pre.filter (fun x => !kn || decide (x = p))).length ≤ 1000 := by
          have := List.length_filter_le (fun x => !kn || decide (x = p)) pre
          omega
        obtain ⟨i0, hi0, hz0, hz1, hz2⟩ := info_i64
        have hc := hv.cell
        have hf := hv.frozen
        have hsz := hkb.2.2.2.1
        have c11 : W.cell? ⟨P, 0, none⟩ = some (.int .i64 p) := by rw [cell_row ((hkb.2.2.2.2 P (heap_lt HP4.out) (fun h => hGne.1 h.symm)).trans HP4.out)]; rfl
        have c12 : W.cell? ⟨P1, 0, none⟩ = some (.bool kn) := by rw [cell_row ((hkb.2.2.2.2 P1 (heap_lt HP14.out) (fun h => hGne.2.1 h.symm)).trans HP14.out)]; rfl
        have HROW := Lib.hid hrow
        have HV := Lib.hid hv
        have HB := Lib.hid hkb
        clear hrow hv hkb hlen
        cases kn with
        | false =>
          have HCD := Lib.hid (show (!false || decide (x = p)) = true from rfl)
          gi_wp2_with (first
            | (gi_at_builtin; refine wpListIn_append_own _ rfl _ _ 31 rfl w4.heap.size 3 i0 (.int .i64 0) 1 8 Try.underlying31 hi0 hz0 hz1 hz2 rfl (by decide) _ _ _ rfl (HROW.out.alloc _) ⟨W.heap.size, 0, none⟩ 1 1 [.int .i64 x] rfl rfl (one_i64 W x) (fun u hu => by simp at hu; subst hu; rfl) (by unfold maxLen; omega) (by omega) (by simp; omega) ?_
               intro v' w6 hown' hg3 hnil3
               obtain ⟨p1, p2, p3, p4, p5⟩ := appK HV.out (by decide) HROW.out hsz hown' hg3
               obtain ⟨g', cap', rfl⟩ := ownsRow_succ hown'
               have hc3 := p1.cell
               have hf3 := p1.frozen
               go_frame)
            | (rw [Oper.semAt_eq _ _ _ (fun c h => by cases h)]; go_simp; try go_bits))
          refine ⟨p4, p5.2.2.2, ⟨⟨_, p2, ?_, trivial⟩, HB.out.trans p5⟩⟩
          rw [fil_snoc, if_pos HCD.out, List.length_append]
          have : iv (pre.filter (fun x => !false || decide (x = p)) ++ [x]) = iv (pre.filter (fun x => !false || decide (x = p))) ++ [.int .i64 x] := by simp [iv]
          rw [this]
          exact p3
        | true =>
          by_cases hxp : x = p
          · have dxp : (x == p) = true := by simpa using hxp
            have HCD := Lib.hid (show (!true || decide (x = p)) = true from by simpa using hxp)
            clear hxp
            gi_wp2_with (first
              | (gi_at_builtin; refine wpListIn_append_own _ rfl _ _ 31 rfl w4.heap.size 3 i0 (.int .i64 0) 1 8 Try.underlying31 hi0 hz0 hz1 hz2 rfl (by decide) _ _ _ rfl (HROW.out.alloc _) ⟨W.heap.size, 0, none⟩ 1 1 [.int .i64 x] rfl rfl (one_i64 W x) (fun u hu => by simp at hu; subst hu; rfl) (by unfold maxLen; omega) (by omega) (by simp; omega) ?_
                 intro v' w6 hown' hg3 hnil3
                 obtain ⟨p1, p2, p3, p4, p5⟩ := appK HV.out (by decide) HROW.out hsz hown' hg3
                 obtain ⟨g', cap', rfl⟩ := ownsRow_succ hown'
                 have hc3 := p1.cell
                 have hf3 := p1.frozen
                 go_frame)
              | (rw [Oper.semAt_eq _ _ _ (fun c h => by cases h)]; go_simp; try go_bits))
            refine ⟨p4, p5.2.2.2, ⟨⟨_, p2, ?_, trivial⟩, HB.out.trans p5⟩⟩
            rw [fil_snoc, if_pos HCD.out, List.length_append]
            have : iv (pre.filter (fun x => !true || decide (x = p)) ++ [x]) = iv (pre.filter (fun x => !true || decide (x = p))) ++ [.int .i64 x] := by simp [iv]
            rw [this]
            exact p3
          · have dxp : (x == p) = false := by simpa using hxp
            have HCD := Lib.hid (show ¬ (!true || decide (x = p)) = true from by simpa using hxp)
            clear hxp
            gi_wp2_with (rw [Oper.semAt_eq _ _ _ (fun c h => by cases h)]; go_simp; try go_bits)
            refine ⟨KeepsOthers.refl _, KP.refl _ _ _, ⟨⟨_, HV.out, ?_, trivial⟩, HB.out⟩⟩
            rw [fil_snoc, if_neg HCD.out, List.append_nil]
            exact HROW.out
      case hdonex1 =>
        rintro D xs W hD rfl ⟨⟨v, hv, hrow, -⟩, hkb⟩ hK
        have hc := hv.cell
        have hf := hv.frozen
        gi_wp2
        refine ⟨by simp, .inl ⟨_, _, rfl, run_takeDeferred hK, ?_⟩⟩
        have hm := kb_put hkb hD
        have hWl : wE.heap.size ≤ w4.heap.size := HE4.out.size
        have hFG : ∀ k, F k → ¬ k = G := fun k hk hc => by have := HBl.out.lt k hk; omega
        refine ⟨_, results_tmp rfl _ _ _, L, outL B i p kn B.np, .inr ⟨⟨by omega, by omega, by simpa using HEN.out, HRES.out⟩, by simpa using HLP.out, .inl ⟨by simpa using HQ.out, p, kn, HONE.out, rfl⟩⟩, _, F, w4.heap.size, rfl, ?_, Nat.le_trans HML.out.size hWl, fun k hk => Nat.lt_of_lt_of_le (HBl.out.lt k hk) hWl, (HBl.out.ext HE4.out).apart (hm _) hFG, HFS.out, mut_newG (HML.out.below HE4.out) (hm _) (Nat.le_trans HML.out.size hGW)⟩
        exact ownsRow_putObj hrow _ hK rfl
      case hstopx1 =>
        rintro D c pre W _ _ h
        exact h.elim
  | true =>
    by_cases hok : okM src
    · gi_wp2
      refine ⟨trivial, (callsIn_wide.2 (learn_good wE F f L most age (HFB.out.ext HE0.out) HL.out ha hlen src i _ hsrc rfl ⟨by omega, by omega⟩ hok.1 hok.2)).mono ?_⟩
      rintro e wl ⟨rfl, Ll, hle, hbl, hmu⟩
      obtain ⟨Fl, hFe⟩ : ∃ Fl : Nat → Prop, Fl = fun k => F k ∨ (wE.heap.size ≤ k ∧ k < wl.heap.size) := ⟨_, rfl⟩
      rw [← hFe] at hbl
      have hXE := heap_lt HR.out
      have HXl := Lib.hid ((hmu.heap hXE (fun hc => by have := HFL.out X hc; have := HXX.out; omega)).trans HR.out)
      have HKB := Lib.hid ((HBK.out.step (F1 := F) HE0.out.size (fun k hk _ => HE0.out.block k hk) (fun k _ h => h)).step (F1 := Fl) hmu.size (fun k hk hn => hmu.heap hk hn) (fun k hk h => by rw [hFe] at h; rcases h with h | h; exact h; omega))
      have HBl := Lib.hid hbl
      have HML := Lib.hid ((HE0.out.mut F).trans hmu)
      have HFS := Lib.hid (show ∀ k, Fl k → F k ∨ w.heap.size ≤ k from fun k h => by rw [hFe] at h; rcases h with h | h; exact .inl h; exact .inr (Nat.le_trans HE0.out.size h.1))
      have HLP := Lib.hid (show ((B.gb i 29 = true ∧ okM src) ∧ LearnedP most age (src % 281474976710656) i L Ll) ∨ (¬ (B.gb i 29 = true ∧ okM src) ∧ Ll = L) from .inl ⟨⟨hq29, hok⟩, hle⟩)
      clear hq29 d17 e2 e29 hok hle hbl hmu hFe hXE
      gi_wp2
      refine ⟨trivial, (callsIn_wide.2 (fw_any wl X c B HXl.out HKB.out.br ho i hi)).mono ?_⟩
      rintro e _ ⟨rfl, rfl⟩
      have hfw : fwB B i = B.gb i 27 := by unfold fwB; rw [HEN.out]; rfl
      rw [hfw]
      clear hfw
      obtain ⟨q27, hq27⟩ : ∃ q, B.gb i 27 = q := ⟨_, rfl⟩
      rw [hq27]
      cases q27 with
      | false =>
        have HQ := Lib.hid hq27
        clear hq27
        gi_wp2
        refine ⟨_, results_tmp rfl _ _ _, Ll, [], .inr ⟨⟨by omega, by omega, by simpa using HEN.out, HRES.out⟩, by simpa using HLP.out, .inr ⟨by simpa using HQ.out, rfl⟩⟩, _, Fl, wl.heap.size, rfl, ⟨rfl, .inl ⟨rfl, rfl⟩⟩, HML.out.size, HBl.out.lt, HBl.out, HFS.out, HML.out⟩
      | true =>
        have HQ := Lib.hid hq27
        clear hq27
        gi_wp2
        refine ⟨trivial, (callsIn_wide.2 (one_any wl Fl f Ll most age HBl.out dst hdst)).mono ?_⟩
        rintro e wo ⟨⟨p, kn, rfl, hone⟩, hxo⟩
        have HONE := Lib.hid hone
        have HXO := Lib.hid hxo
        clear hone hxo
        gi_wp2
        have r0 : (((wo.alloc (.cells #[.int .i64 p] 3)).alloc (.cells #[.bool kn] 4)).alloc (.cells #[.slice none 0 0] 31)).heap[wo.heap.size]? = some (.cells #[.int .i64 p] 3 (0, 0)) := (heap_alloc_old _ _ (by simp; omega)).trans ((heap_alloc_old _ _ (by simp)).trans (heap_alloc_new _ _))
        have r1 : (((wo.alloc (.cells #[.int .i64 p] 3)).alloc (.cells #[.bool kn] 4)).alloc (.cells #[.slice none 0 0] 31)).heap[wo.heap.size + 1]? = some (.cells #[.bool kn] 4 (0, 0)) := (heap_alloc_old _ _ (by simp)).trans (heap_alloc2_new _ _ _)
        have r2 : (((wo.alloc (.cells #[.int .i64 p] 3)).alloc (.cells #[.bool kn] 4)).alloc (.cells #[.slice none 0 0] 31)).heap[wo.heap.size + 1 + 1]? = some (.cells #[.slice none 0 0] 31 (0, 0)) := by
          have := heap_alloc_new ((wo.alloc (.cells #[.int .i64 p] 3)).alloc (.cells #[.bool kn] 4)) (.cells #[.slice none 0 0] 31)
          simpa using this
        have E3 : Ext wo (((wo.alloc (.cells #[.int .i64 p] 3)).alloc (.cells #[.bool kn] 4)).alloc (.cells #[.slice none 0 0] 31)) := (((Ext.refl wo).alloc _).alloc _).alloc _
        generalize ((wo.alloc (.cells #[.int .i64 p] 3)).alloc (.cells #[.bool kn] 4)).alloc (.cells #[.slice none 0 0] 31) = w3 at *
        obtain ⟨P, hP⟩ : ∃ P, wo.heap.size = P := ⟨_, rfl⟩
        rw [hP] at r0 r1 r2 ⊢
        obtain ⟨P1, hP1⟩ : ∃ P1, P + 1 = P1 := ⟨_, rfl⟩
        rw [hP1] at r1 r2 ⊢
        obtain ⟨G, hG⟩ : ∃ G, P1 + 1 = G := ⟨_, rfl⟩
        rw [hG] at r2 ⊢
        have HPN := Lib.hid (And.intro hP (And.intro hP1 hG))
        have HR0 := Lib.hid r0
        have HR1 := Lib.hid r1
        have HR2 := Lib.hid r2
        have HE3 := Lib.hid (HXO.out.trans E3)
        clear r0 r1 r2 E3 hP hP1 hG
        refine ⟨trivial, (callsIn_wide.2 (others_fn w3 X i)).mono ?_⟩
        rintro e w4 ⟨pp, qq, rfl, hx4, hpp, hqq, hrp, hrq⟩
        have hXl := heap_lt HXl.out
        have h30 := heap_lt HR0.out
        have h31 := heap_lt HR1.out
        have h32 := heap_lt HR2.out
        have hGne : G ≠ P ∧ G ≠ P1 ∧ G ≠ X ∧ pp ≠ G ∧ qq ≠ G := by
          obtain ⟨q1, q2, q3⟩ := HPN.out
          have := HXO.out.size
          omega
        have HE4 := Lib.hid (HE3.out.trans hx4)
        have HX4 := Lib.hid ((HE4.out.block X hXl).trans HXl.out)
        have HP4 := Lib.hid ((hx4.block P h30).trans HR0.out)
        have HP14 := Lib.hid ((hx4.block P1 h31).trans HR1.out)
        have HG4 := Lib.hid ((hx4.block G h32).trans HR2.out)
        have hGW : wl.heap.size ≤ G := by
          obtain ⟨q1, q2, q3⟩ := HPN.out
          have := HXO.out.size
          omega
        have HK4 := Lib.hid (HKB.out.step (F1 := fun k => k = G) HE4.out.size (fun k hk _ => HE4.out.block k hk) (fun k hk hc => by have h2 : k = G := hc; omega))
        have HSEQ := Lib.hid (others_seq 8 (by decide) w4 G pp qq X c B i (by omega) hrp hrq HX4.out ⟨hGne.2.2.2.1, hGne.2.2.2.2, fun h => hGne.2.2.1 h.symm⟩ HK4.out ho hnp)
        clear hx4 hrp hrq hpp hqq
        gi_wp2
        refine wpIn_rangeFunc_ownF (F := Fence.wide) (encs := fun x => #[Value.int .i64 x]) (Kp := KP w4.heap.size G) (S := fun xs => xs = othersL B i B.np) (Sp := fun _ => True) (N := B.np) (w0 := w4) rfl (by decide) (gf := 44) (lb := _) rfl trivial (enters_mine Try.func44 (by kernel_rfl) rfl) HSEQ.out (fun h k => h.trans k)
          (fun W l o o' hl _ _ _ => ⟨by simp, fun k hk _ => World.putObj_heap_other (by omega)⟩) (Below.refl _ _) (fun x => rfl)
          (fun ss W => (∃ v, Boxed W G 31 v ∧ W.ownsRow w4.heap.size 3 1 v (ss.filter (fun x => !kn || decide (x = p))).length (iv (ss.filter (fun x => !kn || decide (x = p)))) ∧ True) ∧ KB w4.heap.size G w4 W) (fun _ _ _ => False)
          (((holdsRow_own w4.heap.size G 31 3 1 (fun ss : List Int => (ss.filter (fun x => !kn || decide (x = p))).length) (fun ss => iv (ss.filter (fun x => !kn || decide (x = p)))) (fun _ _ => True)).from _).and (ownFrom_kb G w4)) (fun _ _ _ _ _ h _ _ => h)
          ⟨⟨_, HG4.out, ⟨rfl, .inl ⟨rfl, rfl⟩⟩, trivial⟩, KB.refl _ _ _⟩ ?a1x2 ?hassignx2 ?hbodyx2 ?hdonex2 ?hstopx2
        case hassignx2 =>
          intro l x W K hK
          gi_wp2_with (rw [Oper.semAt_eq _ _ _ (fun c h => by cases h)]; go_simp; try go_bits)
          exact hK
        case hbodyx2 =>
          rintro l pre x W ⟨⟨v, hv, hrow, -⟩, hkb⟩ hlen
          have hfl : (pre.filter (fun x => !kn || decide (x = p))).length ≤ 1000 := by
            have := List.length_filter_le (fun x => !kn || decide (x = p)) pre
            omega
          obtain ⟨i0, hi0, hz0, hz1, hz2⟩ := info_i64
          have hc := hv.cell
          have hf := hv.frozen
          have hsz := hkb.2.2.2.1
          have c11 : W.cell? ⟨P, 0, none⟩ = some (.int .i64 p) := by rw [cell_row ((hkb.2.2.2.2 P (heap_lt HP4.out) (fun h => hGne.1 h.symm)).trans HP4.out)]; rfl
          have c12 : W.cell? ⟨P1, 0, none⟩ = some (.bool kn) := by rw [cell_row ((hkb.2.2.2.2 P1 (heap_lt HP14.out) (fun h => hGne.2.1 h.symm)).trans HP14.out)]; rfl
          have HROW := Lib.hid hrow
          have HV := Lib.hid hv
          have HB := Lib.hid hkb
          clear hrow hv hkb hlen
          cases kn with
          | false =>
            have HCD := Lib.hid (show (!false || decide (x = p)) = true from rfl)
            gi_wp2_with (first
              | (gi_at_builtin; refine wpListIn_append_own _ rfl _ _ 31 rfl w4.heap.size 3 i0 (.int .i64 0) 1 8 Try.underlying31 hi0 hz0 hz1 hz2 rfl (by decide) _ _ _ rfl (HROW.out.alloc _) ⟨W.heap.size, 0, none⟩ 1 1 [.int .i64 x] rfl rfl (one_i64 W x) (fun u hu => by simp at hu; subst hu; rfl) (by unfold maxLen; omega) (by omega) (by simp; omega) ?_
                 intro v' w6 hown' hg3 hnil3
                 obtain ⟨p1, p2, p3, p4, p5⟩ := appK HV.out (by decide) HROW.out hsz hown' hg3
                 obtain ⟨g', cap', rfl⟩ := ownsRow_succ hown'
                 have hc3 := p1.cell
                 have hf3 := p1.frozen
                 go_frame)
              | (rw [Oper.semAt_eq _ _ _ (fun c h => by cases h)]; go_simp; try go_bits))
            refine ⟨p4, p5.2.2.2, ⟨⟨_, p2, ?_, trivial⟩, HB.out.trans p5⟩⟩
            rw [fil_snoc, if_pos HCD.out, List.length_append]
            have : iv (pre.filter (fun x => !false || decide (x = p)) ++ [x]) = iv (pre.filter (fun x => !false || decide (x = p))) ++ [.int .i64 x] := by simp [iv]
            rw [this]
            exact p3
          | true =>
            by_cases hxp : x = p
            · have dxp : (x == p) = true := by simpa using hxp
              have HCD := Lib.hid (show (!true || decide (x = p)) = true from by simpa using hxp)
              clear hxp
              gi_wp2_with (first
                | (gi_at_builtin; refine wpListIn_append_own _ rfl _ _ 31 rfl w4.heap.size 3 i0 (.int .i64 0) 1 8 Try.underlying31 hi0 hz0 hz1 hz2 rfl (by decide) _ _ _ rfl (HROW.out.alloc _) ⟨W.heap.size, 0, none⟩ 1 1 [.int .i64 x] rfl rfl (one_i64 W x) (fun u hu => by simp at hu; subst hu; rfl) (by unfold maxLen; omega) (by omega) (by simp; omega) ?_
                   intro v' w6 hown' hg3 hnil3
                   obtain ⟨p1, p2, p3, p4, p5⟩ := appK HV.out (by decide) HROW.out hsz hown' hg3
                   obtain ⟨g', cap', rfl⟩ := ownsRow_succ hown'
                   have hc3 := p1.cell
                   have hf3 := p1.frozen
                   go_frame)
                | (rw [Oper.semAt_eq _ _ _ (fun c h => by cases h)]; go_simp; try go_bits))
              refine ⟨p4, p5.2.2.2, ⟨⟨_, p2, ?_, trivial⟩, HB.out.trans p5⟩⟩
              rw [fil_snoc, if_pos HCD.out, List.length_append]
              have : iv (pre.filter (fun x => !true || decide (x = p)) ++ [x]) = iv (pre.filter (fun x => !true || decide (x = p))) ++ [.int .i64 x] := by simp [iv]
              rw [this]
              exact p3
            · have dxp : (x == p) = false := by simpa using hxp
              have HCD := Lib.hid (show ¬ (!true || decide (x = p)) = true from by simpa using hxp)
              clear hxp
              gi_wp2_with (rw [Oper.semAt_eq _ _ _ (fun c h => by cases h)]; go_simp; try go_bits)
              refine ⟨KeepsOthers.refl _, KP.refl _ _ _, ⟨⟨_, HV.out, ?_, trivial⟩, HB.out⟩⟩
              rw [fil_snoc, if_neg HCD.out, List.append_nil]
              exact HROW.out
        case hdonex2 =>
          rintro D xs W hD rfl ⟨⟨v, hv, hrow, -⟩, hkb⟩ hK
          have hc := hv.cell
          have hf := hv.frozen
          gi_wp2
          refine ⟨by simp, .inl ⟨_, _, rfl, run_takeDeferred hK, ?_⟩⟩
          have hm := kb_put hkb hD
          have hWl : wl.heap.size ≤ w4.heap.size := HE4.out.size
          have hFG : ∀ k, Fl k → ¬ k = G := fun k hk hc => by have := HBl.out.lt k hk; omega
          refine ⟨_, results_tmp rfl _ _ _, Ll, outL B i p kn B.np, .inr ⟨⟨by omega, by omega, by simpa using HEN.out, HRES.out⟩, by simpa using HLP.out, .inl ⟨by simpa using HQ.out, p, kn, HONE.out, rfl⟩⟩, _, Fl, w4.heap.size, rfl, ?_, Nat.le_trans HML.out.size hWl, fun k hk => Nat.lt_of_lt_of_le (HBl.out.lt k hk) hWl, (HBl.out.ext HE4.out).apart (hm _) hFG, HFS.out, mut_newG (HML.out.below HE4.out) (hm _) (Nat.le_trans HML.out.size hGW)⟩
          exact ownsRow_putObj hrow _ hK rfl
        case hstopx2 =>
          rintro D c pre W _ _ h
          exact h.elim
    · gi_wp2
      refine ⟨trivial, (callsIn_wide.2 (learn_bad wE (fun _ => False) f [] most age src i hsrc (by unfold okM at hok; omega))).mono ?_⟩
      rintro e _ ⟨rfl, rfl⟩
      have HXl := HR
      have HKB := Lib.hid (HBK.out.step HE0.out.size (fun k hk _ => HE0.out.block k hk) (F1 := F) (fun k _ h => h))
      have HBl := Lib.hid (HFB.out.ext HE0.out)
      have HML := Lib.hid (HE0.out.mut F)
      have HFS := Lib.hid (show ∀ k, F k → F k ∨ w.heap.size ≤ k from fun k h => .inl h)
      have HLP := Lib.hid (show ((B.gb i 29 = true ∧ okM src) ∧ LearnedP most age (src % 281474976710656) i L L) ∨ (¬ (B.gb i 29 = true ∧ okM src) ∧ L = L) from .inr ⟨fun h => hok h.2, rfl⟩)
      clear hq29 d17 e2 e29 hok
      gi_wp2
      refine ⟨trivial, (callsIn_wide.2 (fw_any wE X c B HXl.out HKB.out.br ho i hi)).mono ?_⟩
      rintro e _ ⟨rfl, rfl⟩
      have hfw : fwB B i = B.gb i 27 := by unfold fwB; rw [HEN.out]; rfl
      rw [hfw]
      clear hfw
      obtain ⟨q27, hq27⟩ : ∃ q, B.gb i 27 = q := ⟨_, rfl⟩
      rw [hq27]
      cases q27 with
      | false =>
        have HQ := Lib.hid hq27
        clear hq27
        gi_wp2
        refine ⟨_, results_tmp rfl _ _ _, L, [], .inr ⟨⟨by omega, by omega, by simpa using HEN.out, HRES.out⟩, by simpa using HLP.out, .inr ⟨by simpa using HQ.out, rfl⟩⟩, _, F, wE.heap.size, rfl, ⟨rfl, .inl ⟨rfl, rfl⟩⟩, HML.out.size, HBl.out.lt, HBl.out, HFS.out, HML.out⟩
      | true =>
        have HQ := Lib.hid hq27
        clear hq27
        gi_wp2
        refine ⟨trivial, (callsIn_wide.2 (one_any wE F f L most age HBl.out dst hdst)).mono ?_⟩
        rintro e wo ⟨⟨p, kn, rfl, hone⟩, hxo⟩
        have HONE := Lib.hid hone
        have HXO := Lib.hid hxo
        clear hone hxo
        gi_wp2
        have r0 : (((wo.alloc (.cells #[.int .i64 p] 3)).alloc (.cells #[.bool kn] 4)).alloc (.cells #[.slice none 0 0] 31)).heap[wo.heap.size]? = some (.cells #[.int .i64 p] 3 (0, 0)) := (heap_alloc_old _ _ (by simp; omega)).trans ((heap_alloc_old _ _ (by simp)).trans (heap_alloc_new _ _))
        have r1 : (((wo.alloc (.cells #[.int .i64 p] 3)).alloc (.cells #[.bool kn] 4)).alloc (.cells #[.slice none 0 0] 31)).heap[wo.heap.size + 1]? = some (.cells #[.bool kn] 4 (0, 0)) := (heap_alloc_old _ _ (by simp)).trans (heap_alloc2_new _ _ _)
        have r2 : (((wo.alloc (.cells #[.int .i64 p] 3)).alloc (.cells #[.bool kn] 4)).alloc (.cells #[.slice none 0 0] 31)).heap[wo.heap.size + 1 + 1]? = some (.cells #[.slice none 0 0] 31 (0, 0)) := by
          have := heap_alloc_new ((wo.alloc (.cells #[.int .i64 p] 3)).alloc (.cells #[.bool kn] 4)) (.cells #[.slice none 0 0] 31)
          simpa using this
        have E3 : Ext wo (((wo.alloc (.cells #[.int .i64 p] 3)).alloc (.cells #[.bool kn] 4)).alloc (.cells #[.slice none 0 0] 31)) := (((Ext.refl wo).alloc _).alloc _).alloc _
        generalize ((wo.alloc (.cells #[.int .i64 p] 3)).alloc (.cells #[.bool kn] 4)).alloc (.cells #[.slice none 0 0] 31) = w3 at *
        obtain ⟨P, hP⟩ : ∃ P, wo.heap.size = P := ⟨_, rfl⟩
        rw [hP] at r0 r1 r2 ⊢
        obtain ⟨P1, hP1⟩ : ∃ P1, P + 1 = P1 := ⟨_, rfl⟩
        rw [hP1] at r1 r2 ⊢
        obtain ⟨G, hG⟩ : ∃ G, P1 + 1 = G := ⟨_, rfl⟩
        rw [hG] at r2 ⊢
        have HPN := Lib.hid (And.intro hP (And.intro hP1 hG))
        have HR0 := Lib.hid r0
        have HR1 := Lib.hid r1
        have HR2 := Lib.hid r2
        have HE3 := Lib.hid (HXO.out.trans E3)
        clear r0 r1 r2 E3 hP hP1 hG
        refine ⟨trivial, (callsIn_wide.2 (others_fn w3 X i)).mono ?_⟩
        rintro e w4 ⟨pp, qq, rfl, hx4, hpp, hqq, hrp, hrq⟩
        have hXl := heap_lt HXl.out
        have h30 := heap_lt HR0.out
        have h31 := heap_lt HR1.out
        have h32 := heap_lt HR2.out
        have hGne : G ≠ P ∧ G ≠ P1 ∧ G ≠ X ∧ pp ≠ G ∧ qq ≠ G := by
          obtain ⟨q1, q2, q3⟩ := HPN.out
          have := HXO.out.size
          omega
        have HE4 := Lib.hid (HE3.out.trans hx4)
        have HX4 := Lib.hid ((HE4.out.block X hXl).trans HXl.out)
        have HP4 := Lib.hid ((hx4.block P h30).trans HR0.out)
        have HP14 := Lib.hid ((hx4.block P1 h31).trans HR1.out)
        have HG4 := Lib.hid ((hx4.block G h32).trans HR2.out)
        have hGW : wE.heap.size ≤ G := by
          obtain ⟨q1, q2, q3⟩ := HPN.out
          have := HXO.out.size
          omega
        have HK4 := Lib.hid (HKB.out.step (F1 := fun k => k = G) HE4.out.size (fun k hk _ => HE4.out.block k hk) (fun k hk hc => by have h2 : k = G := hc; omega))
        have HSEQ := Lib.hid (others_seq 8 (by decide) w4 G pp qq X c B i (by omega) hrp hrq HX4.out ⟨hGne.2.2.2.1, hGne.2.2.2.2, fun h => hGne.2.2.1 h.symm⟩ HK4.out ho hnp)
        clear hx4 hrp hrq hpp hqq
        gi_wp2
        refine wpIn_rangeFunc_ownF (F := Fence.wide) (encs := fun x => #[Value.int .i64 x]) (Kp := KP w4.heap.size G) (S := fun xs => xs = othersL B i B.np) (Sp := fun _ => True) (N := B.np) (w0 := w4) rfl (by decide) (gf := 44) (lb := _) rfl trivial (enters_mine Try.func44 (by kernel_rfl) rfl) HSEQ.out (fun h k => h.trans k)
          (fun W l o o' hl _ _ _ => ⟨by simp, fun k hk _ => World.putObj_heap_other (by omega)⟩) (Below.refl _ _) (fun x => rfl)
          (fun ss W => (∃ v, Boxed W G 31 v ∧ W.ownsRow w4.heap.size 3 1 v (ss.filter (fun x => !kn || decide (x = p))).length (iv (ss.filter (fun x => !kn || decide (x = p)))) ∧ True) ∧ KB w4.heap.size G w4 W) (fun _ _ _ => False)
          (((holdsRow_own w4.heap.size G 31 3 1 (fun ss : List Int => (ss.filter (fun x => !kn || decide (x = p))).length) (fun ss => iv (ss.filter (fun x => !kn || decide (x = p)))) (fun _ _ => True)).from _).and (ownFrom_kb G w4)) (fun _ _ _ _ _ h _ _ => h)
          ⟨⟨_, HG4.out, ⟨rfl, .inl ⟨rfl, rfl⟩⟩, trivial⟩, KB.refl _ _ _⟩ ?a1x3 ?hassignx3 ?hbodyx3 ?hdonex3 ?hstopx3
        case hassignx3 =>
          intro l x W K hK
          gi_wp2_with (rw [Oper.semAt_eq _ _ _ (fun c h => by cases h)]; go_simp; try go_bits)
          exact hK
        case hbodyx3 =>
          rintro l pre x W ⟨⟨v, hv, hrow, -⟩, hkb⟩ hlen
          have hfl : (pre.filter (fun x => !kn || decide (x = p))).length ≤ 1000 := by
            have := List.length_filter_le (fun x => !kn || decide (x = p)) pre
            omega
          obtain ⟨i0, hi0, hz0, hz1, hz2⟩ := info_i64
          have hc := hv.cell
          have hf := hv.frozen
          have hsz := hkb.2.2.2.1
          have c11 : W.cell? ⟨P, 0, none⟩ = some (.int .i64 p) := by rw [cell_row ((hkb.2.2.2.2 P (heap_lt HP4.out) (fun h => hGne.1 h.symm)).trans HP4.out)]; rfl
          have c12 : W.cell? ⟨P1, 0, none⟩ = some (.bool kn) := by rw [cell_row ((hkb.2.2.2.2 P1 (heap_lt HP14.out) (fun h => hGne.2.1 h.symm)).trans HP14.out)]; rfl
          have HROW := Lib.hid hrow
          have HV := Lib.hid hv
          have HB := Lib.hid hkb
          clear hrow hv hkb hlen
          cases kn with
          | false =>
            have HCD := Lib.hid (show (!false || decide (x = p)) = true from rfl)
            gi_wp2_with (first
              | (gi_at_builtin; refine wpListIn_append_own _ rfl _ _ 31 rfl w4.heap.size 3 i0 (.int .i64 0) 1 8 Try.underlying31 hi0 hz0 hz1 hz2 rfl (by decide) _ _ _ rfl (HROW.out.alloc _) ⟨W.heap.size, 0, none⟩ 1 1 [.int .i64 x] rfl rfl (one_i64 W x) (fun u hu => by simp at hu; subst hu; rfl) (by unfold maxLen; omega) (by omega) (by simp; omega) ?_
                 intro v' w6 hown' hg3 hnil3
                 obtain ⟨p1, p2, p3, p4, p5⟩ := appK HV.out (by decide) HROW.out hsz hown' hg3
                 obtain ⟨g', cap', rfl⟩ := ownsRow_succ hown'
                 have hc3 := p1.cell
                 have hf3 := p1.frozen
                 go_frame)
              | (rw [Oper.semAt_eq _ _ _ (fun c h => by cases h)]; go_simp; try go_bits))
            refine ⟨p4, p5.2.2.2, ⟨⟨_, p2, ?_, trivial⟩, HB.out.trans p5⟩⟩
            rw [fil_snoc, if_pos HCD.out, List.length_append]
            have : iv (pre.filter (fun x => !false || decide (x = p)) ++ [x]) = iv (pre.filter (fun x => !false || decide (x = p))) ++ [.int .i64 x] := by simp [iv]
            rw [this]
            exact p3
          | true =>
            by_cases hxp : x = p
            · have dxp : (x == p) = true := by simpa using hxp
              have HCD := Lib.hid (show (!true || decide (x = p)) = true from by simpa using hxp)
              clear hxp
              gi_wp2_with (first
                | (gi_at_builtin; refine wpListIn_append_own _ rfl _ _ 31 rfl w4.heap.size 3 i0 (.int .i64 0) 1 8 Try.underlying31 hi0 hz0 hz1 hz2 rfl (by decide) _ _ _ rfl (HROW.out.alloc _) ⟨W.heap.size, 0, none⟩ 1 1 [.int .i64 x] rfl rfl (one_i64 W x) (fun u hu => by simp at hu; subst hu; rfl) (by unfold maxLen; omega) (by omega) (by simp; omega) ?_
                   intro v' w6 hown' hg3 hnil3
                   obtain ⟨p1, p2, p3, p4, p5⟩ := appK HV.out (by decide) HROW.out hsz hown' hg3
                   obtain ⟨g', cap', rfl⟩ := ownsRow_succ hown'
                   have hc3 := p1.cell
                   have hf3 := p1.frozen
                   go_frame)
                | (rw [Oper.semAt_eq _ _ _ (fun c h => by cases h)]; go_simp; try go_bits))
              refine ⟨p4, p5.2.2.2, ⟨⟨_, p2, ?_, trivial⟩, HB.out.trans p5⟩⟩
              rw [fil_snoc, if_pos HCD.out, List.length_append]
              have : iv (pre.filter (fun x => !true || decide (x = p)) ++ [x]) = iv (pre.filter (fun x => !true || decide (x = p))) ++ [.int .i64 x] := by simp [iv]
              rw [this]
              exact p3
            · have dxp : (x == p) = false := by simpa using hxp
              have HCD := Lib.hid (show ¬ (!true || decide (x = p)) = true from by simpa using hxp)
              clear hxp
              gi_wp2_with (rw [Oper.semAt_eq _ _ _ (fun c h => by cases h)]; go_simp; try go_bits)
              refine ⟨KeepsOthers.refl _, KP.refl _ _ _, ⟨⟨_, HV.out, ?_, trivial⟩, HB.out⟩⟩
              rw [fil_snoc, if_neg HCD.out, List.append_nil]
              exact HROW.out
        case hdonex3 =>
          rintro D xs W hD rfl ⟨⟨v, hv, hrow, -⟩, hkb⟩ hK
          have hc := hv.cell
          have hf := hv.frozen
          gi_wp2
          refine ⟨by simp, .inl ⟨_, _, rfl, run_takeDeferred hK, ?_⟩⟩
          have hm := kb_put hkb hD
          have hWl : wE.heap.size ≤ w4.heap.size := HE4.out.size
          have hFG : ∀ k, F k → ¬ k = G := fun k hk hc => by have := HBl.out.lt k hk; omega
          refine ⟨_, results_tmp rfl _ _ _, L, outL B i p kn B.np, .inr ⟨⟨by omega, by omega, by simpa using HEN.out, HRES.out⟩, by simpa using HLP.out, .inl ⟨by simpa using HQ.out, p, kn, HONE.out, rfl⟩⟩, _, F, w4.heap.size, rfl, ?_, Nat.le_trans HML.out.size hWl, fun k hk => Nat.lt_of_lt_of_le (HBl.out.lt k hk) hWl, (HBl.out.ext HE4.out).apart (hm _) hFG, HFS.out, mut_newG (HML.out.below HE4.out) (hm _) (Nat.le_trans HML.out.size hGW)⟩
          exact ownsRow_putObj hrow _ hK rfl
        case hstopx3 =>
          rintro D c pre W _ _ h
          exact h.elim
/-- relay.Out, whatever comes. -/
theorem out_any (w : World) (F : Nat → Prop) (f : Nat) (L : List En) (most age : Int) (hfb : Fb w F f L most age) (hL : Ok age L) (ha : 1 ≤ age ∧ age ≤ 1000000) (hlen : 1 ≤ most ∧ most ≤ 4096 ∧ (L.length : Int) ≤ most) (c : Array Value) (B : Br) (hbk : BrK w F c B) (ho : B.ok) (hnp : 0 < B.np ∧ B.np ≤ 1000) (inn src dst : Int) (hin : -9223372036854775808 ≤ inn ∧ inn < 9223372036854775808) (hsrc : 0 ≤ src ∧ src < 18446744073709551616) (hdst : 0 ≤ dst ∧ dst < 18446744073709551616) :
    Calls Try.prog 17 #[.agg c, .pointer (some ⟨f, 0, none⟩), .int .i64 inn, .int .u64 src, .int .u64 dst] w fun e w' => ∃ L' xs, GoesP B most age L inn src dst L' xs ∧ OutR w F f most age L' xs e w' := by
  by_cases hno : inn < 0 ∨ (B.np : Int) ≤ inn ∨ B.gb inn.toNat 2 = false ∨ resB dst = true
  · refine (out_none w F f L most age hfb c B hbk ho hnp inn src dst hin hdst hno).mono ?_
    rintro e w' ⟨rfl, hx⟩
    exact ⟨L, [], .inl ⟨hno, rfl, rfl⟩, _, F, w'.heap.size, rfl, ⟨rfl, .inl ⟨rfl, rfl⟩⟩, hx.size, (hfb.ext hx).lt, hfb.ext hx, fun k h => .inl h, hx.mut F⟩
  · obtain ⟨i, rfl⟩ : ∃ i : Nat, inn = i := ⟨inn.toNat, by omega⟩
    rw [Int.toNat_natCast] at hno
    have h1 : B.gb i 2 = true := by
      by_cases h : B.gb i 2 = true
      · exact h
      · exact absurd (.inr (.inr (.inl (by simpa using h)))) hno
    have h2 : resB dst = false := by
      by_cases h : resB dst = true
      · exact absurd (.inr (.inr (.inr h))) hno
      · simpa using h
    exact callsIn_wide.1 (out_some w F f L most age hfb hL ha hlen c B hbk ho hnp i (by omega) src dst hsrc hdst h1 h2)

end Go.Proofs.Ytemmfbedchfekaa
