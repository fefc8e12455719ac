/- Relay: where frames go, by the document. No statement is proved here. -/
import Derived.Test.YtemmfbedchfekaaRlH
namespace Go.Proofs.Ytemmfbedchfekaa
open Go.RowKit Go.BigFrame Go.WideShapes Go.ChangeShapes Go.Deep
set_option linter.unusedVariables false
set_option linter.unusedSimpArgs false
set_option maxRecDepth 100000

theorem outL_succ (B : Br) (inn p : Int) (kn : Bool) (n : Nat) : outL B inn p kn (n + 1) = outL B inn p kn n ++ (if (goes B inn n && (!kn || decide ((n : Int) = p))) = true then [(n : Int)] else []) := by
  unfold outL
  rw [othersL_succ, List.filter_append]
  congr 1
  by_cases h : goes B inn n = true
  · rw [if_pos h, h, Bool.true_and]
    by_cases h2 : (!kn || decide ((n : Int) = p)) = true
    · rw [if_pos h2, List.filter_cons, if_pos h2]; rfl
    · rw [if_neg h2, List.filter_cons, if_neg h2]; rfl
  · rw [if_neg h]
    have : goes B inn n = false := by simpa using h
    rw [this, Bool.false_and, if_neg (by decide)]
    rfl
/-- What the document's Out hands back, and what stays. -/
def OutQ (w : World) (G : Nat → Prop) (wb : Nat) (most age : Int) (L' : List En) (xs : List Int) (e : Ending) (w' : World) : Prop :=
  ∃ v, e = .returned v ∧ w'.ownsRow w.heap.size 3 1 v xs.length (iv xs) ∧ Dw w' G wb L' most age ∧ Mut (fun k => k = wb) w w'
theorem fint (z : Int) : Instr.fill (fun i => some (i * 1, 1)) ((Array.range (1 * 1)).map (#[Value.int .i64 0][· % 1]!)) [(0, .int .i64 z)] = some #[.int .i64 z] := by kernel_rfl
theorem wpList_oneI {ops : Array Oper} {rest : List Oper} {o : Oper} {a : Act} {w : World} {Q : Exit → Act → World → Prop} (hg : o.guard = none) (x : Operand) (ho : o.op = .buildSlice 31 1 #[(0, x)])
    (z : Int) (hx : a.eval x = .int .i64 z) (h : ∀ (X : Nat) (w' : World), w'.heap[X]? = some (.cells #[.int .i64 z] 3 (0, 0)) → w.heap.size = X → Ext w w' → wpList Try.prog ops Q rest (a.put o.dst (.slice (some ⟨X, 0, none⟩) 1 1)) w') : wpList Try.prog ops Q (o :: rest) a w := by
  obtain ⟨i1, hi1, hz1, hs1, hb1⟩ := info_i64
  refine wpList_buildSlice hg 31 3 1 _ ho #[.int .i64 z] i1 (.int .i64 0) Try.underlying31 hi1 hz1 (by rw [hs1]; decide) (by rw [hs1]; decide) ?_ (h _ _ (heap_alloc_new _ _) rfl ((Ext.refl w).alloc _))
  rw [hs1, Array.toList_map]
  show Instr.fill _ _ [(0, a.eval x)] = _
  rw [hx]
  exact fint z
theorem wpList_snocI {ops : Array Oper} {rest : List Oper} {o : Oper} {a : Act} {w : World} {Q : Exit → Act → World → Prop} (hgd : o.guard = none) (s x : Operand) (ho : o.op = .call { callee := .builtin .append, args := #[s, x], argTypes := #[31, 31] })
    (W0 : World) (hW : Ext W0 w) (base : Nat) (hbs : W0.heap.size = base) (v : Value) (L : List Int) (hs : a.eval s = v) (hown : w.ownsRow base 3 1 v L.length (iv L)) (X : Nat) (z : Int) (hx : a.eval x = .slice (some ⟨X, 0, none⟩) 1 1) (hX : w.heap[X]? = some (.cells #[.int .i64 z] 3 (0, 0))) (hl : L.length ≤ 10000)
    (h : ∀ v' w', w'.ownsRow base 3 1 v' (L ++ [z]).length (iv (L ++ [z])) → Ext W0 w' → wpList Try.prog ops Q rest (a.put o.dst v') w') : wpList Try.prog ops Q (o :: rest) a w := by
  obtain ⟨i1, hi1, hz1, hs1, hb1⟩ := info_i64
  refine wpList_append_own w hgd s x 31 ho base 3 i1 (.int .i64 0) 1 8 Try.underlying31 hi1 hz1 hs1 hb1 rfl (by decide) v L.length (iv L) hs hown ⟨X, 0, none⟩ 1 1 [.int .i64 z] hx rfl (fun j u hu => ?_) (fun u hu => by simp at hu; subst hu; rfl) (by unfold maxLen; omega) (by omega) (by rw [← hbs]; exact hW.size) fun v' w' ho' hg _ => ?_
  · rw [show (⟨X, 0, none⟩ : Addr).add j = ⟨X, j, none⟩ by unfold Addr.add; split <;> simp_all, cell_row hX]
    simpa using hu
  · refine h v' w' ?_ (Below.grown hW hg hW.size (fun q hq => by rw [hbs]; exact owns_lt' hown q hq))
    rw [List.length_append, show iv (L ++ [z]) = iv L ++ [.int .i64 z] by simp [iv]]
    exact ho'
set_option maxRecDepth 100000 in
set_option maxHeartbeats 2000000 in
theorem q_out_none (w : World) (G : Nat → Prop) (wb : Nat) (M : List En) (most age : Int) (hd : Dw w G wb M most age) (hG : ∀ k, G k → k < w.heap.size) (hM : Ok age M) (hlen : 1 ≤ most ∧ (M.length : Int) ≤ most ∧ most ≤ 5000) (c : Array Value) (B : Br) (hbk : BrK w (fun k => k = wb) c B) (ho : B.ok) (hnp : 0 < B.np ∧ B.np ≤ 1000) (inn src dst : Int) (hin : -9223372036854775808 ≤ inn ∧ inn < 9223372036854775808) (hno : inn < 0 ∨ (B.np : Int) ≤ inn) :
    Calls Try.prog 18 #[.agg c, .pointer (some ⟨wb, 0, none⟩), .int .i64 inn, .int .u64 src, .int .u64 dst] w fun e w' => e = .returned (.slice none 0 0) ∧ Ext w w' := by
  obtain ⟨b, off, cap, c17, hc1, hc2, hr⟩ := hbk.br.ports ho hnp.1
  have d17 : (w.alloc (.cells c 33)).cell? ⟨w.heap.size, 17, none⟩ = some (.slice (some ⟨b, off, none⟩) B.np cap) := by rw [box_cell (Ext.refl _)]; exact c17
  have E0 : Ext w (w.alloc (.cells c 33)) := (Ext.refl w).alloc _
  by_cases h1 : inn < 0
  · have d1 : decide (inn < 0) = true := by simpa using h1
    clear h1 hno
    go_enter Try.func18, Try.ntmps18
    go_wp2_with fail
    go_ret
    exact ⟨rfl, E0⟩
  have d1 : decide (inn < 0) = false := by simpa using h1
  have d2 : decide ((B.np : Int) ≤ inn) = true := by simp; omega
  clear h1 hno
  go_enter Try.func18, Try.ntmps18
  go_wp2_with fail
  go_ret
  exact ⟨rfl, E0⟩
set_option maxRecDepth 100000 in
set_option maxHeartbeats 8000000 in
theorem q_out_some (w : World) (G : Nat → Prop) (wb : Nat) (M : List En) (most age : Int) (hd : Dw w G wb M most age) (hG : ∀ k, G k → k < w.heap.size) (hM : Ok age M) (hlen : 1 ≤ most ∧ (M.length : Int) ≤ most ∧ most ≤ 5000) (c : Array Value) (B : Br) (hbk : BrK w (fun k => k = wb) c B) (ho : B.ok) (hnp : 0 < B.np ∧ B.np ≤ 1000) (i : Nat) (hi : i < B.np) (src dst : Int) (hsrc : 0 ≤ src ∧ src < 18446744073709551616) (hdst : 0 ≤ dst ∧ dst < 18446744073709551616) :
    Calls Try.prog 18 #[.agg c, .pointer (some ⟨wb, 0, none⟩), .int .i64 i, .int .u64 src, .int .u64 dst] w fun e w' => ∃ L' xs, GoesP B most age M i src dst L' xs ∧ OutQ w G wb most age L' xs e w' := by
  obtain ⟨b, off, cap, c17, hc1, hc2, hbl, hpr, hpc⟩ := hbk.br.portsW ho hnp.1
  have E0 : Ext w (w.alloc (.cells c 33)) := (Ext.refl w).alloc _
  have d17 : (w.alloc (.cells c 33)).cell? ⟨w.heap.size, 17, none⟩ = some (.slice (some ⟨b, off, none⟩) B.np cap) := by rw [box_cell (Ext.refl _)]; exact c17
  have hrowX : (w.alloc (.cells c 33)).heap[w.heap.size]? = some (.cells c 33 (0, 0)) := heap_alloc_new _ _
  have hpl := port_len (B := B) (k := i) (len89 ho hi)
  have hprt := Lib.hid (rangeAt_ext (hpr i hi) E0 hbl)
  have hpz := Lib.hid (full_port hpl)
  have hps := Lib.hid (show 0 + (port B.ps i).toArray.size ≤ PZ.size by rw [List.size_toArray, hpl, size_PZ]; decide)
  have hpi := Lib.hid (show (Try.prog.info? 69).map (·.size) = some (port B.ps i).toArray.size by rw [List.size_toArray, hpl]; exact size_port)
  have hpi2 := Lib.hid (show (Try.prog.info? 69).map (·.size) = some (port B.ps i).length by rw [hpl]; exact size_port)
  have hpo := Lib.hid (show (port B.ps i).toArray.toList.all (·.oneCell') = true from by rw [List.all_eq_true]; intro u hu; exact (port_typed ho hi).one u (by simpa using hu))
  have p2 : (port B.ps i)[2]? = some (.bool (B.gb i 2)) := by rw [port_at (by omega)]; exact ho.gb hi 2 rfl
  have p27 : (port B.ps i)[27]? = some (.bool (B.gb i 27)) := by rw [port_at (by omega)]; exact ho.gb hi 27 rfl
  have p29 : (port B.ps i)[29]? = some (.bool (B.gb i 29)) := by rw [port_at (by omega)]; exact ho.gb hi 29 rfl
  obtain ⟨N, hN⟩ : ∃ N, B.np = N := ⟨_, rfl⟩
  have hiN : i < N := by omega
  have HN := Lib.hid hN
  have hd1 : decide ((i : Int) < 0) = false := by simp
  have hd2 : decide ((N : Int) ≤ (i : Int)) = false := by simp; omega
  have HM := Lib.hid hM
  have HD := Lib.hid hd
  have HBK := Lib.hid hbk
  have HGL := Lib.hid hG
  have HBKP := Lib.hid (show ∀ w' : World, w.heap.size ≤ w'.heap.size → (∀ q, q < w.heap.size → q ≠ wb → w'.heap[q]? = w.heap[q]?) → ∀ j, j < B.np → ∀ k v, k < 89 → B.ps[j * 89 + k]? = some v → w'.cell? ⟨b, off + j * 89 + k, none⟩ = some v from fun w' hs hk => by
    obtain ⟨b2, off2, cap2, c172, -, -, -, -, hpc2⟩ := (hbk w' hs (fun q hq hn => hk q hq hn)).portsW ho hnp.1
    have := c17.symm.trans c172
    injection this with this
    injection this with h1 _ _
    injection h1 with h1
    injection h1 with h1 h2
    subst h1 h2
    exact hpc2)
  rw [hN] at d17 hc1 c17
  have HROW := Lib.hid hrowX
  have HC17 := Lib.hid c17
  have HPC0 := Lib.hid hpc
  clear hpl hpr hpc hbk hd hG hM c17 hrowX
  go_enter Try.func18, Try.ntmps18
  go_wp2_with fail
  refine (ref_res dst _ hdst).mono ?_
  rintro e _ ⟨rfl, rfl⟩
  obtain ⟨rs, hrs⟩ : ∃ rs, resB dst = rs := ⟨_, rfl⟩
  rw [hrs]
  generalize w.alloc (.cells c 33) = wE at *
  obtain ⟨X, hX⟩ : ∃ X, w.heap.size = X := ⟨_, rfl⟩
  rw [hX] at HROW d17 ⊢
  have HXX := Lib.hid hX
  clear hX
  go_upto_region 5 with (first
    | fail
    | ((with_reducible refine at_load 69 ?_); refine wpList_load_mid rfl 69 _ rfl b (off + i * 89) rfl (port B.ps i) _ hprt.out Try.underlying69 rfl hpi2.out ?_)
    | ((with_reducible refine at_alloc 69 ?_); refine al_zero rfl 69 rfl PZ zero_port ?_
       intro Z wp hqp hsp hxp)
    | ((with_reducible refine at_store 69 ?_); refine st_at rfl rfl 69 _ _ rfl Z 0 _ (port B.ps i).toArray PZ (port B.ps i).toArray 69 rfl rfl rfl hqp hps.out hpi.out hpo.out hpz.out ?_
       intro w5 hq5 hm5
       have E5 : Ext wE w5 := hxp.mutE hm5 (fun n hn h => by have h2 : n = Z := h; omega)
       have HE5 := Lib.hid (E0.trans E5)
       have HZN := Lib.hid hsp
       have HXZ := Lib.hid (show Ext wE w5 from E5)
       have g2 : w5.cell? ⟨Z, 2, none⟩ = some (.bool (B.gb i 2)) := by rw [cell_of_row _ _ _ _ _ _ hq5]; simpa using p2
       have HP27 := Lib.hid (show ∀ w', Ext w5 w' → w'.cell? ⟨Z, 27, none⟩ = some (.bool (B.gb i 27)) from fun w' hx => by rw [cell_of_row _ _ _ _ _ _ ((hx.block Z (heap_lt hq5)).trans hq5)]; simpa using p27)
       have g29 : w5.cell? ⟨Z, 29, none⟩ = some (.bool (B.gb i 29)) := by rw [cell_of_row _ _ _ _ _ _ hq5]; simpa using p29
       have HZ5 := Lib.hid hq5
       clear hqp hsp hxp hq5 hm5 E5))
  cases hg2 : B.gb i 2 with
  | false =>
    rw [hg2] at g2
    go_wp2_with fail
    go_ret
    exact ⟨M, [], .inl ⟨.inr (.inr (.inl (by rw [Int.toNat_natCast]; exact hg2))), rfl, rfl⟩, _, rfl, ⟨rfl, .inl ⟨rfl, rfl⟩⟩, HD.out.ext HE5.out, HE5.out.mut _⟩
  | true =>
  rw [hg2] at g2
  have HEN := Lib.hid hg2
  clear hg2
  cases rs with
  | true =>
    go_wp2_with fail
    go_ret
    exact ⟨M, [], .inl ⟨.inr (.inr (.inr hrs)), rfl, rfl⟩, _, rfl, ⟨rfl, .inl ⟨rfl, rfl⟩⟩, HD.out.ext HE5.out, HE5.out.mut _⟩
  | false =>
  have HRES := Lib.hid hrs
  clear hrs
  have c5 : ∀ w', Ext w5 w' → w'.heap[X]? = some (.cells c 33 (0, 0)) := fun w' hx => by
    rw [hx.block X (Nat.lt_of_lt_of_le (heap_lt HROW.out) HXZ.out.size), HXZ.out.block X (heap_lt HROW.out)]
    exact HROW.out
  have bk5 : ∀ w', Ext w5 w' → ∀ j, j < B.np → ∀ k v, k < 89 → B.ps[j * 89 + k]? = some v → w'.cell? ⟨b, off + j * 89 + k, none⟩ = some v := fun w' hx j hj k v hk hv => by
    rw [hx.cell (p := ⟨b, _, none⟩) (Nat.lt_of_lt_of_le hbl HE5.out.size), HE5.out.cell (p := ⟨b, _, none⟩) hbl]
    exact HPC0.out j hj k v hk hv
  have C5 := Lib.hid c5
  have BK5 := Lib.hid bk5
  clear c5 bk5
  cases hq29 : B.gb i 29 with
  | false =>
    rw [hq29] at g29
    have HML := Lib.hid (HE5.out.mut (fun k => k = wb))
    have HDL := Lib.hid (HD.out.ext HE5.out)
    have HXL := Lib.hid (Ext.refl w5)
    have HLP := Lib.hid (show ((B.gb i 29 = true ∧ okM src) ∧ LearnedP most age (src % 281474976710656) i M M) ∨ (¬ (B.gb i 29 = true ∧ okM src) ∧ M = M) from .inr ⟨fun h => (by rw [hq29] at h; cases h.1), rfl⟩)
    have HR17 := Lib.hid (show ∀ w', Ext w5 w' → w'.cell? ⟨X, 17, none⟩ = some (.slice (some ⟨b, off, none⟩) N cap) from fun w' hx => by rw [cell_of_row _ _ _ _ _ _ (C5.out w' hx)]; exact HC17.out)
    have HPC := BK5
    clear hq29
    cases hq27 : B.gb i 27 with
    | false =>
      have g27 := HP27.out w5 HXL.out
      rw [hq27] at g27
      go_wp2_with fail
      go_ret
      exact ⟨_, [], .inr ⟨⟨by omega, by omega, by simpa using HEN.out, HRES.out⟩, by simpa using HLP.out, .inr ⟨by simpa using hq27, rfl⟩⟩, _, rfl, ⟨rfl, .inl ⟨rfl, rfl⟩⟩, HDL.out, HML.out⟩
    | true =>
      have g27 := HP27.out w5 HXL.out
      rw [hq27] at g27
      have HQ27 := Lib.hid hq27
      clear hq27
      go_wp2_with fail
      refine (d_find w5 G wb M most age HDL.out dst hdst).mono ?_
      rintro e w2 ⟨he, hx2⟩
      obtain ⟨p, known, rfl, hfp⟩ : ∃ p known, e = .returned (.tuple #[.int .i64 p, .bool known]) ∧ ((∃ e0 ∈ M, e0.1 = dst % 281474976710656 ∧ known = true ∧ p = e0.2.1) ∨ (dst % 281474976710656 ∉ (M).map Prod.fst ∧ known = false)) := by
        rcases he with ⟨e0, he, hk, rfl⟩ | ⟨hn, rfl⟩
        · exact ⟨_, _, rfl, .inl ⟨e0, he, hk, rfl, rfl⟩⟩
        · exact ⟨_, _, rfl, .inr ⟨hn, rfl⟩⟩
      have HFP := Lib.hid hfp
      have HX2 := Lib.hid hx2
      clear he hfp hx2 g27
      go_wp2_with fail
      refine (ref_group dst _ hdst.1 hdst.2).mono ?_
      rintro e _ ⟨rfl, rfl⟩
      obtain ⟨many, hmany⟩ : ∃ many, (dst / 1099511627776 % 2 == 1) = many := ⟨_, rfl⟩
      rw [hmany]
      have HONE := Lib.hid (show OneP (M) dst p (known && !many) from by
        unfold OneP
        cases many with
        | true => rw [if_pos (by simpa using hmany)]; simp
        | false => rw [if_neg (by simpa using hmany)]; simpa using HFP.out)
      have HXW := Lib.hid (HXL.out.trans HX2.out)
      obtain ⟨D2, hD2⟩ : ∃ D, w2.heap.size = D := ⟨_, rfl⟩
      have HD2 := Lib.hid hD2
      clear hmany hD2
      go_wp2_with fail
      go_loopw [16, 17] (fun u s wr => ∃ (j : Nat) (v : Value) (wo : World), wo = wr ∧ v = u ∧ j ≤ N ∧ s = .int .i64 j ∧ Ext w2 wo ∧ wo.ownsRow D2 3 1 v (outL B i p (known && !many) j).length (iv (outL B i p (known && !many) j))) (fun _ s _ => N - (intOf s).toNat)
      case atStart => exact ⟨0, _, _, rfl, rfl, by omega, rfl, Ext.refl _, ⟨rfl, .inl ⟨rfl, rfl⟩⟩⟩
      case round =>
        obtain ⟨j, v, wo, rfl, rfl, hj, rfl, hxj, hown⟩ := hrel
        rename World => wr
        have HXj := Lib.hid hxj
        have HO := Lib.hid hown
        have hE := HXW.out.trans hxj
        have c17 := HR17.out wr hE
        have hup : IntKind.i64.wrap ((j : Int) + 1) = ((j + 1 : Nat) : Int) := by rw [IntKind.wrap_i64]; omega
        clear hxj hown
        by_cases hlt : j < N
        · have dlt : decide ((j : Int) < (N : Int)) = true := by simp; omega
          have hjn : j < B.np := by rw [HN.out]; exact hlt
          have q2 := HPC.out wr hE j hjn 2 _ (by omega) (ho.gb hjn 2 rfl)
          have q27 := HPC.out wr hE j hjn 27 _ (by omega) (ho.gb hjn 27 rfl)
          have hln := outL_len B i p (known && !many) j
          by_cases hji : (j : Int) = (i : Int)
          · have dji : ((j : Int) == (i : Int)) = true := by simpa using hji
            have hcd : (goes B (i : Int) j && (!(known && !many) || decide ((j : Int) = p))) = false := by unfold goes fwB; rw [decide_eq_false (fun h => h hji)]; rfl
            go_wp2_with fail
            go_roundw
            case rel => exact ⟨j + 1, _, _, rfl, rfl, by omega, by go_num, HXj.out, by rw [outL_succ, hcd, if_neg (by decide), List.append_nil]; exact HO.out⟩
            case measure => simp [intOf] <;> omega
          have dji : ((j : Int) == (i : Int)) = false := by simpa using hji
          cases h2 : B.gb j 2 with
          | false =>
            rw [h2] at q2
            have hcd : (goes B (i : Int) j && (!(known && !many) || decide ((j : Int) = p))) = false := by unfold goes fwB; rw [h2]; simp
            go_wp2_with fail
            go_roundw
            case rel => exact ⟨j + 1, _, _, rfl, rfl, by omega, by go_num, HXj.out, by rw [outL_succ, hcd, if_neg (by decide), List.append_nil]; exact HO.out⟩
            case measure => simp [intOf] <;> omega
          | true =>
          rw [h2] at q2
          cases h27 : B.gb j 27 with
          | false =>
            rw [h27] at q27
            have hcd : (goes B (i : Int) j && (!(known && !many) || decide ((j : Int) = p))) = false := by unfold goes fwB; rw [h27]; simp
            go_wp2_with fail
            go_roundw
            case rel => exact ⟨j + 1, _, _, rfl, rfl, by omega, by go_num, HXj.out, by rw [outL_succ, hcd, if_neg (by decide), List.append_nil]; exact HO.out⟩
            case measure => simp [intOf] <;> omega
          | true =>
          rw [h27] at q27
          have hg : goes B i j = true := by unfold goes fwB; rw [h2, h27, decide_eq_true hji]; rfl
          have HG2 := Lib.hid hg
          clear h2 h27 hg
          by_cases htake : (!(known && !many) || decide ((j : Int) = p)) = true
          · have HT := Lib.hid htake
            cases known with
            | false =>
              clear htake
              go_wp2_with (first
                | fail
                | ((with_reducible refine at_bs 31 ?_); refine wpList_oneI rfl _ rfl (j : Int) rfl ?_
                   intro X wq hX hs hxq)
                | (at_builtin; refine wpList_snocI rfl _ _ rfl w2 (HXj.out.trans hxq) D2 HD2.out v (outL B i p (false && !many) j) rfl (owns_ext HO.out hxq) X (j : Int) rfl hX (by omega) ?_
                   intro v' w6 ho6 hx6))
              have hcd : (goes B (i : Int) j && (!(false && !many) || decide ((j : Int) = p))) = true := by rw [HG2.out, Bool.true_and]; exact HT.out
              have HO6 := Lib.hid (show w6.ownsRow D2 3 1 v' (outL B i p (false && !many) (j + 1)).length (iv (outL B i p (false && !many) (j + 1))) from by rw [outL_succ, if_pos hcd]; exact ho6)
              have HX6 := Lib.hid hx6
              clear ho6 hx6 hX hs hxq c17 q2 q27
              go_wp2_with fail
              go_roundw
              case rel => exact ⟨j + 1, _, _, rfl, rfl, by omega, by go_num, HX6.out, HO6.out⟩
              case measure => simp [intOf] <;> omega
            | true =>
            cases many with
            | true =>
              clear htake
              go_wp2_with (first
                | fail
                | ((with_reducible refine at_bs 31 ?_); refine wpList_oneI rfl _ rfl (j : Int) rfl ?_
                   intro X wq hX hs hxq)
                | (at_builtin; refine wpList_snocI rfl _ _ rfl w2 (HXj.out.trans hxq) D2 HD2.out v (outL B i p (true && !true) j) rfl (owns_ext HO.out hxq) X (j : Int) rfl hX (by omega) ?_
                   intro v' w6 ho6 hx6))
              have hcd : (goes B (i : Int) j && (!(true && !true) || decide ((j : Int) = p))) = true := by rw [HG2.out, Bool.true_and]; exact HT.out
              have HO6 := Lib.hid (show w6.ownsRow D2 3 1 v' (outL B i p (true && !true) (j + 1)).length (iv (outL B i p (true && !true) (j + 1))) from by rw [outL_succ, if_pos hcd]; exact ho6)
              have HX6 := Lib.hid hx6
              clear ho6 hx6 hX hs hxq c17 q2 q27
              go_wp2_with fail
              go_roundw
              case rel => exact ⟨j + 1, _, _, rfl, rfl, by omega, by go_num, HX6.out, HO6.out⟩
              case measure => simp [intOf] <;> omega
            | false =>
              have djp : (p == (j : Int)) = true := by
                have : (j : Int) = p := by simpa using htake
                rw [this]; simp
              clear htake
              go_wp2_with (first
                | fail
                | ((with_reducible refine at_bs 31 ?_); refine wpList_oneI rfl _ rfl (j : Int) rfl ?_
                   intro X wq hX hs hxq)
                | (at_builtin; refine wpList_snocI rfl _ _ rfl w2 (HXj.out.trans hxq) D2 HD2.out v (outL B i p (true && !false) j) rfl (owns_ext HO.out hxq) X (j : Int) rfl hX (by omega) ?_
                   intro v' w6 ho6 hx6))
              have hcd : (goes B (i : Int) j && (!(true && !false) || decide ((j : Int) = p))) = true := by rw [HG2.out, Bool.true_and]; exact HT.out
              have HO6 := Lib.hid (show w6.ownsRow D2 3 1 v' (outL B i p (true && !false) (j + 1)).length (iv (outL B i p (true && !false) (j + 1))) from by rw [outL_succ, if_pos hcd]; exact ho6)
              have HX6 := Lib.hid hx6
              clear ho6 hx6 hX hs hxq c17 q2 q27
              go_wp2_with fail
              go_roundw
              case rel => exact ⟨j + 1, _, _, rfl, rfl, by omega, by go_num, HX6.out, HO6.out⟩
              case measure => simp [intOf] <;> omega
          · have HT := Lib.hid htake
            obtain ⟨rfl, rfl, hne⟩ : known = true ∧ many = false ∧ (j : Int) ≠ p := by
              cases known <;> cases many <;> simp at htake <;> first | exact ⟨rfl, rfl, htake⟩ | skip
            have djp : (p == (j : Int)) = false := by simp; omega
            have hcd : (goes B (i : Int) j && (!(true && !false) || decide ((j : Int) = p))) = false := by rw [HG2.out, Bool.true_and]; simpa using hne
            clear htake hne
            go_wp2_with fail
            go_roundw
            case rel => exact ⟨j + 1, _, _, rfl, rfl, by omega, by go_num, HXj.out, by rw [outL_succ, hcd, if_neg (by decide), List.append_nil]; exact HO.out⟩
            case measure => simp [intOf] <;> omega
        · obtain rfl : j = N := by omega
          have dlt : decide ((j : Int) < (j : Int)) = false := by simp
          go_wp2_with fail
          go_ret
          refine ⟨M, outL B i p (known && !many) B.np, .inr ⟨⟨by omega, by omega, by simpa using HEN.out, HRES.out⟩, by simpa using HLP.out, .inl ⟨by simpa using HQ27.out, p, _, HONE.out, rfl⟩⟩, _, rfl, ?_, HDL.out.ext (HX2.out.trans HXj.out), HML.out.below (HX2.out.trans HXj.out)⟩
          rw [HN.out]
          exact owns_base HO.out (by have := HML.out.size; have := HX2.out.size; have := HD2.out; omega)
  | true =>
    rw [hq29] at g29
    by_cases hok : okM src
    · go_wp2_with fail
      refine (d_learn w5 G wb M most age (HD.out.ext HE5.out) (fun k hk => Nat.lt_of_lt_of_le (HGL.out k hk) HE5.out.size) HM.out ⟨hlen.1, hlen.2.1, hlen.2.2⟩ src i _ hsrc rfl (by omega) hok.1 hok.2).mono ?_
      rintro e wl ⟨rfl, Ll, hle, hbl2, hmu⟩
      have HDL := Lib.hid hbl2
      have HML := Lib.hid ((HE5.out.mut (fun k => k = wb)).trans hmu)
      have HXL := Lib.hid (Ext.refl wl)
      have HLP := Lib.hid (show ((B.gb i 29 = true ∧ okM src) ∧ LearnedP most age (src % 281474976710656) i M Ll) ∨ (¬ (B.gb i 29 = true ∧ okM src) ∧ Ll = M) from .inl ⟨⟨hq29, hok⟩, hle⟩)
      have hwl : wb < w.heap.size := by obtain ⟨_, _, h, _⟩ := HD.out.reads; exact h
      have HR17 := Lib.hid (show ∀ w', Ext wl w' → w'.cell? ⟨X, 17, none⟩ = some (.slice (some ⟨b, off, none⟩) N cap) from fun w' hx => by
        have hX5 := C5.out w5 (Ext.refl _)
        have hXl := (hmu.heap (heap_lt hX5) (fun hc => by have h2 : X = wb := hc; have := HXX.out; omega)).trans hX5
        rw [cell_of_row _ _ _ _ _ _ ((hx.block X (heap_lt hXl)).trans hXl)]; exact HC17.out)
      have hZ5 := HZ5.out
      have hZw : Z ≠ wb := fun hc => by have := HZN.out; have := E0.size; omega
      have HP27 := Lib.hid (show ∀ w', Ext wl w' → w'.cell? ⟨Z, 27, none⟩ = some (.bool (B.gb i 27)) from fun w' hx => by
        have hZl := (hmu.heap (heap_lt hZ5) (fun hc => hZw hc)).trans hZ5
        rw [cell_of_row _ _ _ _ _ _ ((hx.block Z (heap_lt hZl)).trans hZl)]; simpa using p27)
      have HPC := Lib.hid (show ∀ w', Ext wl w' → ∀ j, j < B.np → ∀ k v, k < 89 → B.ps[j * 89 + k]? = some v → w'.cell? ⟨b, off + j * 89 + k, none⟩ = some v from fun w' hx j hj k v hk hv =>
        (HBKP.out w' (Nat.le_trans HE5.out.size (Nat.le_trans hmu.size hx.size)) (fun q hq hn => by
          rw [hx.block q (Nat.lt_of_lt_of_le hq (Nat.le_trans HE5.out.size hmu.size)), hmu.heap (Nat.lt_of_lt_of_le hq HE5.out.size) hn, HE5.out.block q hq])) j hj k v hk hv)
      clear hq29 hok hle hbl2 hmu hZ5 g2 g29 d17
      cases hq27 : B.gb i 27 with
      | false =>
        have g27 := HP27.out wl HXL.out
        rw [hq27] at g27
        go_wp2_with fail
        go_ret
        exact ⟨_, [], .inr ⟨⟨by omega, by omega, by simpa using HEN.out, HRES.out⟩, by simpa using HLP.out, .inr ⟨by simpa using hq27, rfl⟩⟩, _, rfl, ⟨rfl, .inl ⟨rfl, rfl⟩⟩, HDL.out, HML.out⟩
      | true =>
        have g27 := HP27.out wl HXL.out
        rw [hq27] at g27
        have HQ27 := Lib.hid hq27
        clear hq27
        go_wp2_with fail
        refine (d_find wl G wb Ll most age HDL.out dst hdst).mono ?_
        rintro e w2 ⟨he, hx2⟩
        obtain ⟨p, known, rfl, hfp⟩ : ∃ p known, e = .returned (.tuple #[.int .i64 p, .bool known]) ∧ ((∃ e0 ∈ Ll, e0.1 = dst % 281474976710656 ∧ known = true ∧ p = e0.2.1) ∨ (dst % 281474976710656 ∉ (Ll).map Prod.fst ∧ known = false)) := by
          rcases he with ⟨e0, he, hk, rfl⟩ | ⟨hn, rfl⟩
          · exact ⟨_, _, rfl, .inl ⟨e0, he, hk, rfl, rfl⟩⟩
          · exact ⟨_, _, rfl, .inr ⟨hn, rfl⟩⟩
        have HFP := Lib.hid hfp
        have HX2 := Lib.hid hx2
        clear he hfp hx2 g27
        go_wp2_with fail
        refine (ref_group dst _ hdst.1 hdst.2).mono ?_
        rintro e _ ⟨rfl, rfl⟩
        obtain ⟨many, hmany⟩ : ∃ many, (dst / 1099511627776 % 2 == 1) = many := ⟨_, rfl⟩
        rw [hmany]
        have HONE := Lib.hid (show OneP (Ll) dst p (known && !many) from by
          unfold OneP
          cases many with
          | true => rw [if_pos (by simpa using hmany)]; simp
          | false => rw [if_neg (by simpa using hmany)]; simpa using HFP.out)
        have HXW := Lib.hid (HXL.out.trans HX2.out)
        obtain ⟨D2, hD2⟩ : ∃ D, w2.heap.size = D := ⟨_, rfl⟩
        have HD2 := Lib.hid hD2
        clear hmany hD2
        go_wp2_with fail
        go_loopw [16, 17] (fun u s wr => ∃ (j : Nat) (v : Value) (wo : World), wo = wr ∧ v = u ∧ j ≤ N ∧ s = .int .i64 j ∧ Ext w2 wo ∧ wo.ownsRow D2 3 1 v (outL B i p (known && !many) j).length (iv (outL B i p (known && !many) j))) (fun _ s _ => N - (intOf s).toNat)
        case atStart => exact ⟨0, _, _, rfl, rfl, by omega, rfl, Ext.refl _, ⟨rfl, .inl ⟨rfl, rfl⟩⟩⟩
        case round =>
          obtain ⟨j, v, wo, rfl, rfl, hj, rfl, hxj, hown⟩ := hrel
          rename World => wr
          have HXj := Lib.hid hxj
          have HO := Lib.hid hown
          have hE := HXW.out.trans hxj
          have c17 := HR17.out wr hE
          have hup : IntKind.i64.wrap ((j : Int) + 1) = ((j + 1 : Nat) : Int) := by rw [IntKind.wrap_i64]; omega
          clear hxj hown
          by_cases hlt : j < N
          · have dlt : decide ((j : Int) < (N : Int)) = true := by simp; omega
            have hjn : j < B.np := by rw [HN.out]; exact hlt
            have q2 := HPC.out wr hE j hjn 2 _ (by omega) (ho.gb hjn 2 rfl)
            have q27 := HPC.out wr hE j hjn 27 _ (by omega) (ho.gb hjn 27 rfl)
            have hln := outL_len B i p (known && !many) j
            by_cases hji : (j : Int) = (i : Int)
            · have dji : ((j : Int) == (i : Int)) = true := by simpa using hji
              have hcd : (goes B (i : Int) j && (!(known && !many) || decide ((j : Int) = p))) = false := by unfold goes fwB; rw [decide_eq_false (fun h => h hji)]; rfl
              go_wp2_with fail
              go_roundw
              case rel => exact ⟨j + 1, _, _, rfl, rfl, by omega, by go_num, HXj.out, by rw [outL_succ, hcd, if_neg (by decide), List.append_nil]; exact HO.out⟩
              case measure => simp [intOf] <;> omega
            have dji : ((j : Int) == (i : Int)) = false := by simpa using hji
            cases h2 : B.gb j 2 with
            | false =>
              rw [h2] at q2
              have hcd : (goes B (i : Int) j && (!(known && !many) || decide ((j : Int) = p))) = false := by unfold goes fwB; rw [h2]; simp
              go_wp2_with fail
              go_roundw
              case rel => exact ⟨j + 1, _, _, rfl, rfl, by omega, by go_num, HXj.out, by rw [outL_succ, hcd, if_neg (by decide), List.append_nil]; exact HO.out⟩
              case measure => simp [intOf] <;> omega
            | true =>
            rw [h2] at q2
            cases h27 : B.gb j 27 with
            | false =>
              rw [h27] at q27
              have hcd : (goes B (i : Int) j && (!(known && !many) || decide ((j : Int) = p))) = false := by unfold goes fwB; rw [h27]; simp
              go_wp2_with fail
              go_roundw
              case rel => exact ⟨j + 1, _, _, rfl, rfl, by omega, by go_num, HXj.out, by rw [outL_succ, hcd, if_neg (by decide), List.append_nil]; exact HO.out⟩
              case measure => simp [intOf] <;> omega
            | true =>
            rw [h27] at q27
            have hg : goes B i j = true := by unfold goes fwB; rw [h2, h27, decide_eq_true hji]; rfl
            have HG2 := Lib.hid hg
            clear h2 h27 hg
            by_cases htake : (!(known && !many) || decide ((j : Int) = p)) = true
            · have HT := Lib.hid htake
              cases known with
              | false =>
                clear htake
                go_wp2_with (first
                  | fail
                  | ((with_reducible refine at_bs 31 ?_); refine wpList_oneI rfl _ rfl (j : Int) rfl ?_
                     intro X wq hX hs hxq)
                  | (at_builtin; refine wpList_snocI rfl _ _ rfl w2 (HXj.out.trans hxq) D2 HD2.out v (outL B i p (false && !many) j) rfl (owns_ext HO.out hxq) X (j : Int) rfl hX (by omega) ?_
                     intro v' w6 ho6 hx6))
                have hcd : (goes B (i : Int) j && (!(false && !many) || decide ((j : Int) = p))) = true := by rw [HG2.out, Bool.true_and]; exact HT.out
                have HO6 := Lib.hid (show w6.ownsRow D2 3 1 v' (outL B i p (false && !many) (j + 1)).length (iv (outL B i p (false && !many) (j + 1))) from by rw [outL_succ, if_pos hcd]; exact ho6)
                have HX6 := Lib.hid hx6
                clear ho6 hx6 hX hs hxq c17 q2 q27
                go_wp2_with fail
                go_roundw
                case rel => exact ⟨j + 1, _, _, rfl, rfl, by omega, by go_num, HX6.out, HO6.out⟩
                case measure => simp [intOf] <;> omega
              | true =>
              cases many with
              | true =>
                clear htake
                go_wp2_with (first
                  | fail
                  | ((with_reducible refine at_bs 31 ?_); refine wpList_oneI rfl _ rfl (j : Int) rfl ?_
                     intro X wq hX hs hxq)
                  | (at_builtin; refine wpList_snocI rfl _ _ rfl w2 (HXj.out.trans hxq) D2 HD2.out v (outL B i p (true && !true) j) rfl (owns_ext HO.out hxq) X (j : Int) rfl hX (by omega) ?_
                     intro v' w6 ho6 hx6))
                have hcd : (goes B (i : Int) j && (!(true && !true) || decide ((j : Int) = p))) = true := by rw [HG2.out, Bool.true_and]; exact HT.out
                have HO6 := Lib.hid (show w6.ownsRow D2 3 1 v' (outL B i p (true && !true) (j + 1)).length (iv (outL B i p (true && !true) (j + 1))) from by rw [outL_succ, if_pos hcd]; exact ho6)
                have HX6 := Lib.hid hx6
                clear ho6 hx6 hX hs hxq c17 q2 q27
                go_wp2_with fail
                go_roundw
                case rel => exact ⟨j + 1, _, _, rfl, rfl, by omega, by go_num, HX6.out, HO6.out⟩
                case measure => simp [intOf] <;> omega
              | false =>
                have djp : (p == (j : Int)) = true := by
                  have : (j : Int) = p := by simpa using htake
                  rw [this]; simp
                clear htake
                go_wp2_with (first
                  | fail
                  | ((with_reducible refine at_bs 31 ?_); refine wpList_oneI rfl _ rfl (j : Int) rfl ?_
                     intro X wq hX hs hxq)
                  | (at_builtin; refine wpList_snocI rfl _ _ rfl w2 (HXj.out.trans hxq) D2 HD2.out v (outL B i p (true && !false) j) rfl (owns_ext HO.out hxq) X (j : Int) rfl hX (by omega) ?_
                     intro v' w6 ho6 hx6))
                have hcd : (goes B (i : Int) j && (!(true && !false) || decide ((j : Int) = p))) = true := by rw [HG2.out, Bool.true_and]; exact HT.out
                have HO6 := Lib.hid (show w6.ownsRow D2 3 1 v' (outL B i p (true && !false) (j + 1)).length (iv (outL B i p (true && !false) (j + 1))) from by rw [outL_succ, if_pos hcd]; exact ho6)
                have HX6 := Lib.hid hx6
                clear ho6 hx6 hX hs hxq c17 q2 q27
                go_wp2_with fail
                go_roundw
                case rel => exact ⟨j + 1, _, _, rfl, rfl, by omega, by go_num, HX6.out, HO6.out⟩
                case measure => simp [intOf] <;> omega
            · have HT := Lib.hid htake
              obtain ⟨rfl, rfl, hne⟩ : known = true ∧ many = false ∧ (j : Int) ≠ p := by
                cases known <;> cases many <;> simp at htake <;> first | exact ⟨rfl, rfl, htake⟩ | skip
              have djp : (p == (j : Int)) = false := by simp; omega
              have hcd : (goes B (i : Int) j && (!(true && !false) || decide ((j : Int) = p))) = false := by rw [HG2.out, Bool.true_and]; simpa using hne
              clear htake hne
              go_wp2_with fail
              go_roundw
              case rel => exact ⟨j + 1, _, _, rfl, rfl, by omega, by go_num, HXj.out, by rw [outL_succ, hcd, if_neg (by decide), List.append_nil]; exact HO.out⟩
              case measure => simp [intOf] <;> omega
          · obtain rfl : j = N := by omega
            have dlt : decide ((j : Int) < (j : Int)) = false := by simp
            go_wp2_with fail
            go_ret
            refine ⟨Ll, outL B i p (known && !many) B.np, .inr ⟨⟨by omega, by omega, by simpa using HEN.out, HRES.out⟩, by simpa using HLP.out, .inl ⟨by simpa using HQ27.out, p, _, HONE.out, rfl⟩⟩, _, rfl, ?_, HDL.out.ext (HX2.out.trans HXj.out), HML.out.below (HX2.out.trans HXj.out)⟩
            rw [HN.out]
            exact owns_base HO.out (by have := HML.out.size; have := HX2.out.size; have := HD2.out; omega)
    · go_wp2_with fail
      refine (d_learn_bad w5 wb src i hsrc (by unfold okM at hok; omega)).mono ?_
      rintro e _ ⟨rfl, rfl⟩
      have HML := Lib.hid (HE5.out.mut (fun k => k = wb))
      have HDL := Lib.hid (HD.out.ext HE5.out)
      have HXL := Lib.hid (Ext.refl w5)
      have HLP := Lib.hid (show ((B.gb i 29 = true ∧ okM src) ∧ LearnedP most age (src % 281474976710656) i M M) ∨ (¬ (B.gb i 29 = true ∧ okM src) ∧ M = M) from .inr ⟨fun h => hok h.2, rfl⟩)
      have HR17 := Lib.hid (show ∀ w', Ext w5 w' → w'.cell? ⟨X, 17, none⟩ = some (.slice (some ⟨b, off, none⟩) N cap) from fun w' hx => by rw [cell_of_row _ _ _ _ _ _ (C5.out w' hx)]; exact HC17.out)
      have HPC := BK5
      clear hq29 hok
      cases hq27 : B.gb i 27 with
      | false =>
        have g27 := HP27.out w5 HXL.out
        rw [hq27] at g27
        go_wp2_with fail
        go_ret
        exact ⟨_, [], .inr ⟨⟨by omega, by omega, by simpa using HEN.out, HRES.out⟩, by simpa using HLP.out, .inr ⟨by simpa using hq27, rfl⟩⟩, _, rfl, ⟨rfl, .inl ⟨rfl, rfl⟩⟩, HDL.out, HML.out⟩
      | true =>
        have g27 := HP27.out w5 HXL.out
        rw [hq27] at g27
        have HQ27 := Lib.hid hq27
        clear hq27
        go_wp2_with fail
        refine (d_find w5 G wb M most age HDL.out dst hdst).mono ?_
        rintro e w2 ⟨he, hx2⟩
        obtain ⟨p, known, rfl, hfp⟩ : ∃ p known, e = .returned (.tuple #[.int .i64 p, .bool known]) ∧ ((∃ e0 ∈ M, e0.1 = dst % 281474976710656 ∧ known = true ∧ p = e0.2.1) ∨ (dst % 281474976710656 ∉ (M).map Prod.fst ∧ known = false)) := by
          rcases he with ⟨e0, he, hk, rfl⟩ | ⟨hn, rfl⟩
          · exact ⟨_, _, rfl, .inl ⟨e0, he, hk, rfl, rfl⟩⟩
          · exact ⟨_, _, rfl, .inr ⟨hn, rfl⟩⟩
        have HFP := Lib.hid hfp
        have HX2 := Lib.hid hx2
        clear he hfp hx2 g27
        go_wp2_with fail
        refine (ref_group dst _ hdst.1 hdst.2).mono ?_
        rintro e _ ⟨rfl, rfl⟩
        obtain ⟨many, hmany⟩ : ∃ many, (dst / 1099511627776 % 2 == 1) = many := ⟨_, rfl⟩
        rw [hmany]
        have HONE := Lib.hid (show OneP (M) dst p (known && !many) from by
          unfold OneP
          cases many with
          | true => rw [if_pos (by simpa using hmany)]; simp
          | false => rw [if_neg (by simpa using hmany)]; simpa using HFP.out)
        have HXW := Lib.hid (HXL.out.trans HX2.out)
        obtain ⟨D2, hD2⟩ : ∃ D, w2.heap.size = D := ⟨_, rfl⟩
        have HD2 := Lib.hid hD2
        clear hmany hD2
        go_wp2_with fail
        go_loopw [16, 17] (fun u s wr => ∃ (j : Nat) (v : Value) (wo : World), wo = wr ∧ v = u ∧ j ≤ N ∧ s = .int .i64 j ∧ Ext w2 wo ∧ wo.ownsRow D2 3 1 v (outL B i p (known && !many) j).length (iv (outL B i p (known && !many) j))) (fun _ s _ => N - (intOf s).toNat)
        case atStart => exact ⟨0, _, _, rfl, rfl, by omega, rfl, Ext.refl _, ⟨rfl, .inl ⟨rfl, rfl⟩⟩⟩
        case round =>
          obtain ⟨j, v, wo, rfl, rfl, hj, rfl, hxj, hown⟩ := hrel
          rename World => wr
          have HXj := Lib.hid hxj
          have HO := Lib.hid hown
          have hE := HXW.out.trans hxj
          have c17 := HR17.out wr hE
          have hup : IntKind.i64.wrap ((j : Int) + 1) = ((j + 1 : Nat) : Int) := by rw [IntKind.wrap_i64]; omega
          clear hxj hown
          by_cases hlt : j < N
          · have dlt : decide ((j : Int) < (N : Int)) = true := by simp; omega
            have hjn : j < B.np := by rw [HN.out]; exact hlt
            have q2 := HPC.out wr hE j hjn 2 _ (by omega) (ho.gb hjn 2 rfl)
            have q27 := HPC.out wr hE j hjn 27 _ (by omega) (ho.gb hjn 27 rfl)
            have hln := outL_len B i p (known && !many) j
            by_cases hji : (j : Int) = (i : Int)
            · have dji : ((j : Int) == (i : Int)) = true := by simpa using hji
              have hcd : (goes B (i : Int) j && (!(known && !many) || decide ((j : Int) = p))) = false := by unfold goes fwB; rw [decide_eq_false (fun h => h hji)]; rfl
              go_wp2_with fail
              go_roundw
              case rel => exact ⟨j + 1, _, _, rfl, rfl, by omega, by go_num, HXj.out, by rw [outL_succ, hcd, if_neg (by decide), List.append_nil]; exact HO.out⟩
              case measure => simp [intOf] <;> omega
            have dji : ((j : Int) == (i : Int)) = false := by simpa using hji
            cases h2 : B.gb j 2 with
            | false =>
              rw [h2] at q2
              have hcd : (goes B (i : Int) j && (!(known && !many) || decide ((j : Int) = p))) = false := by unfold goes fwB; rw [h2]; simp
              go_wp2_with fail
              go_roundw
              case rel => exact ⟨j + 1, _, _, rfl, rfl, by omega, by go_num, HXj.out, by rw [outL_succ, hcd, if_neg (by decide), List.append_nil]; exact HO.out⟩
              case measure => simp [intOf] <;> omega
            | true =>
            rw [h2] at q2
            cases h27 : B.gb j 27 with
            | false =>
              rw [h27] at q27
              have hcd : (goes B (i : Int) j && (!(known && !many) || decide ((j : Int) = p))) = false := by unfold goes fwB; rw [h27]; simp
              go_wp2_with fail
              go_roundw
              case rel => exact ⟨j + 1, _, _, rfl, rfl, by omega, by go_num, HXj.out, by rw [outL_succ, hcd, if_neg (by decide), List.append_nil]; exact HO.out⟩
              case measure => simp [intOf] <;> omega
            | true =>
            rw [h27] at q27
            have hg : goes B i j = true := by unfold goes fwB; rw [h2, h27, decide_eq_true hji]; rfl
            have HG2 := Lib.hid hg
            clear h2 h27 hg
            by_cases htake : (!(known && !many) || decide ((j : Int) = p)) = true
            · have HT := Lib.hid htake
              cases known with
              | false =>
                clear htake
                go_wp2_with (first
                  | fail
                  | ((with_reducible refine at_bs 31 ?_); refine wpList_oneI rfl _ rfl (j : Int) rfl ?_
                     intro X wq hX hs hxq)
                  | (at_builtin; refine wpList_snocI rfl _ _ rfl w2 (HXj.out.trans hxq) D2 HD2.out v (outL B i p (false && !many) j) rfl (owns_ext HO.out hxq) X (j : Int) rfl hX (by omega) ?_
                     intro v' w6 ho6 hx6))
                have hcd : (goes B (i : Int) j && (!(false && !many) || decide ((j : Int) = p))) = true := by rw [HG2.out, Bool.true_and]; exact HT.out
                have HO6 := Lib.hid (show w6.ownsRow D2 3 1 v' (outL B i p (false && !many) (j + 1)).length (iv (outL B i p (false && !many) (j + 1))) from by rw [outL_succ, if_pos hcd]; exact ho6)
                have HX6 := Lib.hid hx6
                clear ho6 hx6 hX hs hxq c17 q2 q27
                go_wp2_with fail
                go_roundw
                case rel => exact ⟨j + 1, _, _, rfl, rfl, by omega, by go_num, HX6.out, HO6.out⟩
                case measure => simp [intOf] <;> omega
              | true =>
              cases many with
              | true =>
                clear htake
                go_wp2_with (first
                  | fail
                  | ((with_reducible refine at_bs 31 ?_); refine wpList_oneI rfl _ rfl (j : Int) rfl ?_
                     intro X wq hX hs hxq)
                  | (at_builtin; refine wpList_snocI rfl _ _ rfl w2 (HXj.out.trans hxq) D2 HD2.out v (outL B i p (true && !true) j) rfl (owns_ext HO.out hxq) X (j : Int) rfl hX (by omega) ?_
                     intro v' w6 ho6 hx6))
                have hcd : (goes B (i : Int) j && (!(true && !true) || decide ((j : Int) = p))) = true := by rw [HG2.out, Bool.true_and]; exact HT.out
                have HO6 := Lib.hid (show w6.ownsRow D2 3 1 v' (outL B i p (true && !true) (j + 1)).length (iv (outL B i p (true && !true) (j + 1))) from by rw [outL_succ, if_pos hcd]; exact ho6)
                have HX6 := Lib.hid hx6
                clear ho6 hx6 hX hs hxq c17 q2 q27
                go_wp2_with fail
                go_roundw
                case rel => exact ⟨j + 1, _, _, rfl, rfl, by omega, by go_num, HX6.out, HO6.out⟩
                case measure => simp [intOf] <;> omega
              | false =>
                have djp : (p == (j : Int)) = true := by
                  have : (j : Int) = p := by simpa using htake
                  rw [this]; simp
                clear htake
                go_wp2_with (first
                  | fail
                  | ((with_reducible refine at_bs 31 ?_); refine wpList_oneI rfl _ rfl (j : Int) rfl ?_
                     intro X wq hX hs hxq)
                  | (at_builtin; refine wpList_snocI rfl _ _ rfl w2 (HXj.out.trans hxq) D2 HD2.out v (outL B i p (true && !false) j) rfl (owns_ext HO.out hxq) X (j : Int) rfl hX (by omega) ?_
                     intro v' w6 ho6 hx6))
                have hcd : (goes B (i : Int) j && (!(true && !false) || decide ((j : Int) = p))) = true := by rw [HG2.out, Bool.true_and]; exact HT.out
                have HO6 := Lib.hid (show w6.ownsRow D2 3 1 v' (outL B i p (true && !false) (j + 1)).length (iv (outL B i p (true && !false) (j + 1))) from by rw [outL_succ, if_pos hcd]; exact ho6)
                have HX6 := Lib.hid hx6
                clear ho6 hx6 hX hs hxq c17 q2 q27
                go_wp2_with fail
                go_roundw
                case rel => exact ⟨j + 1, _, _, rfl, rfl, by omega, by go_num, HX6.out, HO6.out⟩
                case measure => simp [intOf] <;> omega
            · have HT := Lib.hid htake
              obtain ⟨rfl, rfl, hne⟩ : known = true ∧ many = false ∧ (j : Int) ≠ p := by
                cases known <;> cases many <;> simp at htake <;> first | exact ⟨rfl, rfl, htake⟩ | skip
              have djp : (p == (j : Int)) = false := by simp; omega
              have hcd : (goes B (i : Int) j && (!(true && !false) || decide ((j : Int) = p))) = false := by rw [HG2.out, Bool.true_and]; simpa using hne
              clear htake hne
              go_wp2_with fail
              go_roundw
              case rel => exact ⟨j + 1, _, _, rfl, rfl, by omega, by go_num, HXj.out, by rw [outL_succ, hcd, if_neg (by decide), List.append_nil]; exact HO.out⟩
              case measure => simp [intOf] <;> omega
          · obtain rfl : j = N := by omega
            have dlt : decide ((j : Int) < (j : Int)) = false := by simp
            go_wp2_with fail
            go_ret
            refine ⟨M, outL B i p (known && !many) B.np, .inr ⟨⟨by omega, by omega, by simpa using HEN.out, HRES.out⟩, by simpa using HLP.out, .inl ⟨by simpa using HQ27.out, p, _, HONE.out, rfl⟩⟩, _, rfl, ?_, HDL.out.ext (HX2.out.trans HXj.out), HML.out.below (HX2.out.trans HXj.out)⟩
            rw [HN.out]
            exact owns_base HO.out (by have := HML.out.size; have := HX2.out.size; have := HD2.out; omega)
set_option maxRecDepth 100000 in
set_option maxHeartbeats 2000000 in
theorem q_out_any (w : World) (G : Nat → Prop) (wb : Nat) (M : List En) (most age : Int) (hd : Dw w G wb M most age) (hG : ∀ k, G k → k < w.heap.size) (hM : Ok age M) (hlen : 1 ≤ most ∧ (M.length : Int) ≤ most ∧ most ≤ 5000) (c : Array Value) (B : Br) (hbk : BrK w (fun k => k = wb) c B) (ho : B.ok) (hnp : 0 < B.np ∧ B.np ≤ 1000) (inn src dst : Int) (hin : -9223372036854775808 ≤ inn ∧ inn < 9223372036854775808) (hsrc : 0 ≤ src ∧ src < 18446744073709551616) (hdst : 0 ≤ dst ∧ dst < 18446744073709551616) :
    Calls Try.prog 18 #[.agg c, .pointer (some ⟨wb, 0, none⟩), .int .i64 inn, .int .u64 src, .int .u64 dst] w fun e w' => ∃ L' xs, GoesP B most age M inn src dst L' xs ∧ OutQ w G wb most age L' xs e w' := by
  by_cases hno : inn < 0 ∨ (B.np : Int) ≤ inn
  · refine (q_out_none w G wb M most age hd hG hM hlen c B hbk ho hnp inn src dst hin hno).mono ?_
    rintro e w' ⟨rfl, hx⟩
    exact ⟨M, [], .inl ⟨by omega, rfl, rfl⟩, _, rfl, ⟨rfl, .inl ⟨rfl, rfl⟩⟩, hd.ext hx, hx.mut _⟩
  · obtain ⟨i, rfl⟩ : ∃ i : Nat, inn = i := ⟨inn.toNat, by omega⟩
    exact q_out_some w G wb M most age hd hG hM hlen c B hbk ho hnp i (by omega) src dst hsrc hdst

end Go.Proofs.Ytemmfbedchfekaa
