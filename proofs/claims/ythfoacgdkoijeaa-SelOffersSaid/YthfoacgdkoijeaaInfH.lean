/- The machine of information: what it leaves is typed; a step of a box in a law's walk; the example. No statement is proved here. -/
import Derived.Test.YthfoacgdkoijeaaInfG
import Derived.Test.YthfoacgdkoijeaaBrW
namespace Go.Proofs.Ythfoacgdkoijeaa
open Go.RowKit Go.BigFrame Go.WideShapes Go.ChangeShapes Go.Deep
set_option linter.unusedVariables false
set_option linter.unusedSimpArgs false

theorem ty_nil : Typed [] [] := ⟨rfl, fun j k h => by cases h⟩
theorem ty_cons {l : List (Option IntKind)} {L : List Value} {K : IntKind} {z : Int} (h : Typed l L) (hz : (Lit.int K z).wf = true) : Typed (some K :: l) (.int K z :: L) := ⟨by simp [h.1], fun j k hj => by
  cases j with
  | zero =>
    obtain rfl : some K = k := by simpa using hj
    exact ⟨.int K z, rfl, z, rfl, hz⟩
  | succ n => exact h.2 n k hj⟩
theorem ty_vec {a b c d e : Int} (h1 : (Lit.int .u64 a).wf = true) (h2 : (Lit.int .u32 b).wf = true) (h3 : (Lit.int .u64 c).wf = true) (h4 : (Lit.int .u16 d).wf = true) (h5 : (Lit.int .u16 e).wf = true) :
    Typed [some .u64, some .u32, some .u64, some .u16, some .u16] [.int .u64 a, .int .u32 b, .int .u64 c, .int .u16 d, .int .u16 e] := ty_cons (ty_cons (ty_cons (ty_cons (ty_cons ty_nil h5) h4) h3) h2) h1
theorem ty_times {a b c d : Int} (h1 : (Lit.int .i64 a).wf = true) (h2 : (Lit.int .i64 b).wf = true) (h3 : (Lit.int .i64 c).wf = true) (h4 : (Lit.int .i64 d).wf = true) :
    Typed [some .i64, some .i64, some .i64, some .i64] [.int .i64 a, .int .i64 b, .int .i64 c, .int .i64 d] := ty_cons (ty_cons (ty_cons (ty_cons ty_nil h4) h3) h2) h1
theorem ty_set68 {L vs : List Value} (h : Typed PL L) (hv : Typed [some .u64, some .u32, some .u64, some .u16, some .u16] vs) : Typed PL (setL L 68 vs) := by
  have hz : vs.length = 5 := hv.1
  exact Typed.setL h (j := 68) (by rw [hz]; exact (by decide : 68 + 5 ≤ PL.length)) (by rw [hz]; exact hv)
theorem ty_set78 {L vs : List Value} (h : Typed PL L) (hv : Typed [some .i64, some .i64, some .i64, some .i64] vs) : Typed PL (setL L 78 vs) := by
  have hz : vs.length = 4 := hv.1
  exact Typed.setL h (j := 78) (by rw [hz]; exact (by decide : 78 + 4 ≤ PL.length)) (by rw [hz]; exact hv)
theorem ty_ask {L : List Value} (h : Typed PL L) : Typed PL (iask L) := tset_b (tset_b h 43 _ rfl) 44 _ rfl
theorem ty_prop {L : List Value} (h : Typed PL L) (b : Bool) : Typed PL (iprop b L) := by
  cases b
  · exact h
  · exact tset_b h 33 _ rfl
theorem ty_agr {L : List Value} (h : Typed PL L) (b : Bool) : Typed PL (iagr b L) := by
  cases b
  · exact tset_b h 23 _ rfl
  · exact tset_b (tset_b h 23 _ rfl) 34 _ rfl
theorem ty_chg {L : List Value} (h : Typed PL L) (a b : Bool) : Typed PL (ichg a b L) := tset_b (tset_b h 39 _ rfl) 40 _ rfl
theorem ty_inf {L : List Value} (h : Typed PL L) (b : Bool) : Typed PL (iinf b L) := by
  cases b
  · exact h
  · exact tset_b (tset_b h 24 _ rfl) 23 _ rfl
theorem ty_oth {L : List Value} (h : Typed PL L) (b : Bool) : Typed PL (ioth b L) := by
  cases b
  · exact h
  · exact tset_b h 41 _ rfl
theorem waits_wf {L : List Value} (hR : TimR L) : (Lit.int .i64 (waitsV (pI L 64) (pI L 65) (pI L 66))).wf = true := by
  obtain ⟨r1, r2, r3, r4, r5, r6, -, -⟩ := hR
  have : 0 ≤ waitsV (pI L 64) (pI L 65) (pI L 66) ∧ waitsV (pI L 64) (pI L 65) (pI L 66) ≤ 200000 := by
    unfold waitsV
    split <;> omega
  simp [Lit.wf, IntKind.min, IntKind.max, IntKind.signed, IntKind.bits]
  omega
theorem ty_sup {L : List Value} (hT : Typed PL L) (hR : TimR L) (rst : Bool) : Typed PL (hearN 0 rst L) := (ty_ask (tset_i (tset_i (ty_set78 (ty_set68 (tset_b (ty_agr ((tset_b (ty_chg (ty_prop (tset_b (tset_b hT 23 _ rfl) 34 _ rfl) _) _ _) 22 _ rfl)) _) 47 _ rfl) (ty_vec (tpW hT 59 rfl) (tpW hT 60 rfl) (tpW hT 61 rfl) (tpW hT 62 rfl) (tpW hT 63 rfl))) (ty_times (tpW hT 64 rfl) (tpW hT 65 rfl) (tpW hT 66 rfl) (tpW hT 67 rfl))) 11 .i64 _ rfl (waits_wf hR)) 86 .i64 _ rfl (by decide)))
theorem ty_rep {L : List Value} (hT : Typed PL L) (hR : TimR L) (rst : Bool) : Typed PL (hearN 1 rst L) := (tset_i (ty_agr (ty_chg (ty_prop hT _) _ _) _) 11 .i64 _ rfl (waits_wf hR))
theorem ty_hear {L : List Value} (hT : Typed PL L) (hR : TimR L) (rst : Bool) (n : Nat) : Typed PL (hearN n rst L) := by
  match n with
  | 0 => exact ty_sup hT hR rst
  | 1 => exact ty_rep hT hR rst
  | 2 => exact ty_inf hT _
  | 3 => exact ty_chg (ty_agr hT _) _ _
  | n + 4 => exact ty_oth hT _
theorem ty_take {L : List Value} (hT : Typed PL L) (hR : TimR L) (rst : Bool) : Typed PL (itakeL rst L) := tset_i (tset_b (ty_hear hT hR rst _) 36 _ rfl) 18 .i64 2 rfl (by decide)
theorem ty_dis {L : List Value} (hT : Typed PL L) : Typed PL (idis L) := (tset_i (ty_ask (tset_i (tset_i (tset_b (tset_b (tset_b (tset_b (tset_b hT 36 _ rfl) 34 _ rfl) 33 _ rfl) 22 _ rfl) 23 _ rfl) 11 .i64 _ rfl (by decide)) 86 .i64 _ rfl (by decide))) 18 .i64 _ rfl (by decide))
theorem ty_age {L : List Value} (hT : Typed PL L) : Typed PL (iage L) := (tset_i (ty_ask (tset_i hT 86 .i64 _ rfl (by decide))) 18 .i64 _ rfl (by decide))
theorem ty_upd {L : List Value} (hT : Typed PL L) : Typed PL (iupdL L) := (tset_i (tset_b (tset_i (tset_b (ty_set78 (ty_set68 (tset_b (tset_b (tset_b (tset_b hT 34 _ rfl) 33 _ rfl) 23 _ rfl) 47 _ rfl) (ty_vec (tpW hT 73 rfl) (tpW hT 74 rfl) (tpW hT 75 rfl) (tpW hT 76 rfl) (tpW hT 77 rfl))) (ty_times (tpW hT 82 rfl) (tpW hT 83 rfl) (tpW hT 84 rfl) (tpW hT 85 rfl))) 50 _ rfl) 86 .i64 _ rfl (by decide)) 31 _ rfl) 18 .i64 _ rfl (by decide))
theorem infL_typed {L : List Value} (hT : Typed PL L) (hR : TimR L) (rst : Bool) : Typed PL (infL rst L).2 := by
  unfold infL
  rcases irowL_cases L with h | h | h | h | h <;> rw [h]
  · exact hT
  · exact ty_dis hT
  · exact ty_age hT
  · exact ty_upd hT
  · exact ty_take hT hR rst

/-! ### Bridges with one port changed -/
theorem port_setPort {B : Br} {k : Nat} {l : List Value} (hl : l.length = 89) (hk : k * 89 + 89 ≤ B.ps.length) : port (B.setPort k l).ps k = l := by
  apply List.ext_getElem?
  intro i
  by_cases hi : i < 89
  · rw [port_at hi, setPort_at hl hk, if_pos (by omega)]
    congr 1; omega
  · rw [List.getElem?_eq_none (by simp [port]; omega), List.getElem?_eq_none (by omega)]
theorem port_setp {B : Br} {k j : Nat} {v : Value} (hj : j < 89) : port (B.setp k j v).ps k = (port B.ps k).set j v := by
  apply List.ext_getElem?
  intro i
  by_cases hi : i < 89
  · rw [port_at hi, List.getElem?_set]
    show (B.ps.set (k * 89 + j) v)[k * 89 + i]? = _
    rw [List.getElem?_set, port_at hi]
    by_cases e : j = i
    · subst e
      simp only [if_true, port, List.length_take, List.length_drop]
      by_cases hz : k * 89 + j < B.ps.length
      · rw [if_pos hz, if_pos (by omega)]
      · rw [if_neg hz, if_neg (by omega)]
    · rw [if_neg (by omega), if_neg e]
  · rw [List.getElem?_eq_none (by simp [port]; omega), List.getElem?_eq_none (by simp [port]; omega)]
theorem gi_setPort {B : Br} {k j : Nat} {l : List Value} (hl : l.length = 89) (hk : k * 89 + 89 ≤ B.ps.length) (hj : j < 89) : (B.setPort k l).gi k j = pI l j := by
  rw [← pI_port (k := k) hj, port_setPort hl hk]
theorem gb_setPort {B : Br} {k j : Nat} {l : List Value} (hl : l.length = 89) (hk : k * 89 + 89 ≤ B.ps.length) (hj : j < 89) : (B.setPort k l).gb k j = pB l j := by
  rw [← pB_port (k := k) hj, port_setPort hl hk]
theorem len_setPort {B : Br} {k : Nat} {l : List Value} (hl : l.length = 89) (hk : k * 89 + 89 ≤ B.ps.length) : (B.setPort k l).ps.length = B.ps.length := by
  simp [Br.setPort, hl]; omega
theorem setPort_ok {B : Br} (ho : B.ok) {k : Nat} (hk : k < B.np) {l : List Value} (hl : Typed PL l) : (B.setPort k l).ok := by
  have h89 := len89 ho hk
  obtain ⟨a, b, c, d⟩ := ho
  refine ⟨a, ?_, c, d⟩
  refine (rowTyped_iff (l := PL)).2 ⟨?_, fun i hi j cc hj => ?_⟩
  · rw [len_setPort (tpL hl) h89]
    exact b.1
  · have hj89 : j < 89 := (List.getElem?_eq_some_iff.1 hj).1
    have hb := ((rowTyped_iff (l := PL)).1 b).2 i hi j cc hj
    rw [show PL.length = 89 from rfl] at hb ⊢
    rw [setPort_at (tpL hl) h89]
    by_cases e : i = k
    · subst e
      rw [if_pos (by omega)]
      obtain ⟨v, hv, hc⟩ := hl.2 j cc hj
      exact ⟨v, by rw [← hv]; congr 1; omega, hc⟩
    · rw [if_neg (by omega)]
      exact hb
theorem setPort_setPort {B : Br} {k : Nat} {l l' : List Value} (hl : l.length = 89) (hl' : l'.length = 89) (hk : k * 89 + 89 ≤ B.ps.length) : (B.setPort k l).setPort k l' = B.setPort k l' := by
  refine Br.ext_ps rfl rfl (fun i => ?_) rfl rfl rfl rfl
  rw [setPort_at hl' (by rw [len_setPort hl hk]; exact hk), setPort_at hl hk, setPort_at hl' hk]
  split <;> rfl
theorem infF_ok {B : Br} (ho : B.ok) {k : Nat} (hk : k < B.np) (hR : TimR (port B.ps k)) : (infF B k).2.ok := setPort_ok ho hk (infL_typed (br_typed ho hk) hR _)
theorem tim_port {B : Br} {k : Nat} (h : TF (B.gi k 64) (B.gi k 65) (B.gi k 66) (B.gi k 67)) : TimR (port B.ps k) := by
  unfold TimR
  rw [pI_port (by decide), pI_port (by decide), pI_port (by decide), pI_port (by decide)]
  exact h
theorem range_of_row {w : World} {b : Nat} {c : Array Value} {t : TypeId} {fr : Nat × Nat} (h : w.heap[b]? = some (.cells c t fr)) (j n : Nat) : w.rangeAt b j ((c.toList.drop j).take n) := fun i v hv => by
  rw [List.getElem?_take] at hv
  split at hv
  · rw [List.getElem?_drop] at hv
    rw [cell_of_row _ _ _ _ _ _ h, ← Array.getElem?_toList]
    exact hv
  · cases hv

/-! ### The example -/
def infwP : List Value := (((((((((((pz.set 2 (.bool true)).set 18 (.int .i64 2)).set 86 (.int .i64 2)).set 68 (.int .u64 5)).set 70 (.int .u64 5)).set 36 (.bool true)).set 59 (.int .u64 3)).set 61 (.int .u64 4)).set 65 (.int .i64 20)).set 66 (.int .i64 2)).set 67 (.int .i64 15))
def infwB : Br := ⟨hz, 1, infwP, 0, [], 0, []⟩
theorem infwB_ok : infwB.ok := one_ok hz_ok (((((((((((pz_ok.set 2 _ (fun k hk => by cases hk; first | exact ⟨_, rfl⟩ | exact ⟨_, rfl, by decide⟩)).set 18 _ (fun k hk => by cases hk; first | exact ⟨_, rfl⟩ | exact ⟨_, rfl, by decide⟩)).set 86 _ (fun k hk => by cases hk; first | exact ⟨_, rfl⟩ | exact ⟨_, rfl, by decide⟩)).set 68 _ (fun k hk => by cases hk; first | exact ⟨_, rfl⟩ | exact ⟨_, rfl, by decide⟩)).set 70 _ (fun k hk => by cases hk; first | exact ⟨_, rfl⟩ | exact ⟨_, rfl, by decide⟩)).set 36 _ (fun k hk => by cases hk; first | exact ⟨_, rfl⟩ | exact ⟨_, rfl, by decide⟩)).set 59 _ (fun k hk => by cases hk; first | exact ⟨_, rfl⟩ | exact ⟨_, rfl, by decide⟩)).set 61 _ (fun k hk => by cases hk; first | exact ⟨_, rfl⟩ | exact ⟨_, rfl, by decide⟩)).set 65 _ (fun k hk => by cases hk; first | exact ⟨_, rfl⟩ | exact ⟨_, rfl, by decide⟩)).set 66 _ (fun k hk => by cases hk; first | exact ⟨_, rfl⟩ | exact ⟨_, rfl, by decide⟩)).set 67 _ (fun k hk => by cases hk; first | exact ⟨_, rfl⟩ | exact ⟨_, rfl, by decide⟩))
theorem infw_len : infwP.length = 89 := by kernel_rfl
def infwS : Value := .agg #[.int .i64 0, .int .i64 0, .int .i64 0, .int .i64 2, .int .i64 0, .int .i64 0, .int .i64 0]
def infwV : Value := .agg #[.int .u64 5, .int .u32 0, .int .u64 5, .int .u16 0, .int .u16 0]
def infwU : Value := .agg #[.int .u64 3, .int .u32 0, .int .u64 4, .int .u16 0, .int .u16 0]
def infwT : Value := .agg #[.int .i64 0, .int .i64 20, .int .i64 2, .int .i64 15]
def infwFl : Array Value := ((List.replicate 29 (Value.bool false)).set 14 (.bool true)).toArray
def infwM : Array Value := ((infwP.drop 51).take 17).toArray
theorem infw_bs (w : World) : (Instr.build 45 #[(3, .int .i64 2)]).run Try.prog w = .ok infwS w := by kernel_rfl
theorem infw_bv (w : World) : (Instr.build 28 #[(0, .int .u64 5), (2, .int .u64 5)]).run Try.prog w = .ok infwV w := by kernel_rfl
theorem infw_bu (w : World) : (Instr.build 28 #[(0, .int .u64 3), (2, .int .u64 4)]).run Try.prog w = .ok infwU w := by kernel_rfl
theorem infw_bt (w : World) : (Instr.build 24 #[(1, .int .i64 20), (2, .int .i64 2), (3, .int .i64 15)]).run Try.prog w = .ok infwT w := by kernel_rfl
theorem infw_bf : Try.prog.built 47 [(14, .bool true)] = some infwFl := by kernel_rfl
theorem infw_bm : Try.prog.built 49 [(8, infwU), (9, infwT)] = some infwM := by kernel_rfl
theorem infw_b1 : Try.prog.built 51 [(2, .bool true), (7, infwS), (14, .int .i64 2), (10, infwV), (8, .agg infwFl), (9, .agg infwM)] = some infwP.toArray := by kernel_rfl
theorem infw_b2 : Instr.fill (fun i => some (i * 89, 89)) ((Array.range (1 * 89)).map (PZ[· % PZ.size]!)) [(0, .agg infwP.toArray)] = some infwP.toArray := by kernel_rfl
theorem infw_b3 (b : Nat) : Try.prog.built 33 [(7, Value.slice (some ⟨b, 0, none⟩) 1 1)] = some (hz ++ [Value.slice (some ⟨b, 0, none⟩) 1 1, Value.slice none 0 0, Value.slice none 0 0]).toArray := by kernel_rfl
def infwZ : Br := infwB.setPort 0 (itakeL false infwP)
theorem infw_r : infF infwB 0 = (true, infwZ) := by kernel_rfl
theorem infw_cl : clsL infwP = 0 := by kernel_rfl
theorem infw_port : port infwB.ps 0 = infwP := by kernel_rfl
theorem infw_tim : TimR (port infwB.ps 0) := by
  rw [infw_port]
  unfold TimR TF
  exact (by decide +kernel)
theorem infw_68 : (port infwZ.ps 0)[68]? = some (.int .u64 3) := by kernel_rfl
theorem infw_11 : (port infwZ.ps 0)[11]? = some (.int .i64 6) := by kernel_rfl
theorem infw_86 : (port infwZ.ps 0)[86]? = some (.int .i64 3) := by kernel_rfl
theorem infw_43 : (port infwZ.ps 0)[43]? = some (.bool true) := by kernel_rfl
theorem infw_36 : (port infwZ.ps 0)[36]? = some (.bool false) := by kernel_rfl

set_option maxRecDepth 100000 in
set_option maxHeartbeats 2000000 in
theorem infw_awake (w : World) : Calls Try.prog 15 #[] w fun e w' => e = .returned (.bool true) ∧ Ext w w' := by
  have hmz := infw_b3 w.heap.size
  obtain ⟨C, hC⟩ : ∃ C, (hz ++ [Value.slice (some ⟨w.heap.size, 0, none⟩) 1 1, Value.slice none 0 0, Value.slice none 0 0]).toArray = C := ⟨_, rfl⟩
  rw [hC] at hmz
  have HM := Lib.hid hmz
  have hCz : C.size = 20 := by rw [← hC]; rfl
  have hCo : C.toList.all (·.oneCell') = true := by rw [← hC]; rfl
  have hCi := Lib.hid (show (Try.prog.info? 33).map (·.size) = some C.size by rw [hCz]; exact size_br)
  have HCz := Lib.hid (size_z20.trans hCz.symm)
  have HCo := Lib.hid hCo
  have HC := Lib.hid hC
  clear hC hCz hCo hmz
  have hbt := infw_bt
  have hbs := infw_bs
  have hbv := infw_bv
  have hbu := infw_bu
  have HG0 := Lib.hid (show BrG _ _ _ _ infwB from one_port (w := w) infw_len HC.out.symm)
  obtain ⟨capw, cw17, hcw1, hcw2⟩ := HG0.out.cell17 infwB_ok
  rw [show infwB.np = 1 from rfl] at cw17 hcw1
  have hpl := Lib.hid (show (Try.prog.info? 51).map (·.size) = some infwP.length by rw [infw_len]; exact size_port)
  have hpr := Lib.hid (show ((w.alloc (.cells infwP.toArray 51)).alloc (.cells C 33)).rangeAt w.heap.size 0 infwP from by
    have := HG0.out.range (k := 0) (by decide)
    rw [infw_port, Nat.zero_mul] at this
    exact this)
  go_enter Try.func15, Try.ntmps15
  go_wp2_with (first
    | fail
    | ((with_reducible refine at_build 47 ?_); refine wpList_build2 rfl 47 _ rfl [(14, .bool true)] rfl _ infw_bf ?_)
    | ((with_reducible refine at_build 49 ?_); refine wpList_build2 rfl 49 _ rfl [(8, infwU), (9, infwT)] rfl _ infw_bm ?_)
    | ((with_reducible refine at_build 51 ?_); refine wpList_build2 rfl 51 _ rfl [(2, .bool true), (7, infwS), (14, .int .i64 2), (10, infwV), (8, .agg infwFl), (9, .agg infwM)] rfl _ infw_b1 ?_)
    | ((with_reducible refine at_slice 29 ?_); refine wpList_slice1 rfl _ rfl [(0, .agg infwP.toArray)] rfl _ infw_b2 ?_)
    | ((with_reducible refine at_build 33 ?_); refine wpList_build2 rfl 33 _ rfl [(7, Value.slice (some ⟨w.heap.size, 0, none⟩) 1 1)] rfl C HM.out ?_)
    | ((with_reducible refine at_store 33 ?_); refine wpList_store_new2 rfl rfl 33 _ _ _ rfl _ C _ rfl ?_ rfl hCi.out HCz.out HCo.out ?_; · simp)
    | ((with_reducible refine at_load 51 ?_); refine wpList_load_mid rfl 51 _ rfl w.heap.size 0 rfl infwP _ hpr.out Try.underlying51 rfl hpl.out ?_))
  refine (class_L _ (by have := br_typed infwB_ok (k := 0) (by decide); rw [infw_port] at this; exact this)).mono ?_
  rintro e v1 ⟨rfl, hx1⟩
  rw [infw_cl]
  have HG1 := Lib.hid (HG0.out.ext hx1)
  have HE1 := Lib.hid ((((Ext.refl w).alloc (.cells infwP.toArray 51)).alloc (.cells C 33)).trans hx1)
  clear hx1
  go_wp2_with fail
  refine (inf_step _ _ (w.heap.size + 1) w.heap.size 0 infwB HG1.out infwB_ok (by decide) (by decide) infw_tim).mono ?_
  rw [infw_r]
  rintro e w0 ⟨he, hB0, hm0⟩
  obtain rfl : e = .returned (.bool true) := he
  have hE0 := HE1.out.mutE hm0 (fun n hn h1 => by omega)
  have ok0 : Br.ok infwZ := by
    have := infF_ok (k := 0) infwB_ok (by decide) infw_tim
    rw [infw_r] at this
    exact this
  have H0 := Lib.hid (show BrG w0 _ _ _ infwZ from hB0)
  clear hB0 hm0
  obtain ⟨cap, c17, hc1, hc2⟩ := H0.out.cell17 ok0
  rw [show infwZ.np = 1 from rfl] at c17 hc1
  have hqr0 := H0.out.range (k := 0) (by decide)
  rw [Nat.zero_mul] at hqr0
  have hqt := port_typed ok0 (i := 0) (by decide)
  have c68 := infw_68
  have c11 := infw_11
  have c86 := infw_86
  have c43 := infw_43
  have c36 := infw_36
  obtain ⟨p, hp⟩ : ∃ p, port infwZ.ps 0 = p := ⟨_, rfl⟩
  rw [hp] at hqr0 hqt c68 c11 c86 c43 c36
  clear hp
  have hqr := Lib.hid hqr0
  have hqi := Lib.hid (show (Try.prog.info? 51).map (·.size) = some p.length by rw [hqt.1]; exact size_port)
  have hqi2 := Lib.hid (show (Try.prog.info? 51).map (·.size) = some p.toArray.size by rw [List.size_toArray]; exact hqi.out)
  have hqs := Lib.hid (show PZ.size = p.toArray.size by rw [size_PZ, List.size_toArray]; exact hqt.1.symm)
  have hqo := Lib.hid (all_oneCell_toArray hqt.one)
  have hzp := zero_port
  clear hqr0 hqt
  go_wp2_with (first | fail | ((with_reducible refine at_load 51 ?_); refine wpList_load_mid rfl 51 _ rfl w.heap.size 0 rfl p _ hqr.out Try.underlying51 rfl hqi.out ?_) | ((with_reducible refine at_store 51 ?_); refine wpList_store_new2 rfl rfl 51 _ _ _ rfl PZ p.toArray _ rfl ?_ rfl hqi2.out hqs.out (by rw [Array.all_toList]; exact hqo.out) ?_; · rfl))
  go_ret
  exact ⟨rfl, hE0.alloc _⟩

/-- A step of a box in a law's walk. -/
theorem inf_stepL (w : World) (N X g k : Nat) (B : Br) (h : BrG w (fun n => N ≤ n ∧ n < X + 1) X g B) (ho : B.ok) (hk : k < B.np) (hn : B.np < 1000) (hR : TimR (port B.ps k)) :
    Calls Try.prog 19 #[.pointer (some ⟨X, 0, none⟩), .int .i64 k] w (Stepped w (fun n => N ≤ n ∧ n < X + 1) X g (infF B k)) := inf_step w _ X g k B h ho hk hn hR

end Go.Proofs.Ythfoacgdkoijeaa
