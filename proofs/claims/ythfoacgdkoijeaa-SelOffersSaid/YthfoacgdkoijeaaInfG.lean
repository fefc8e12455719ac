/- The machine of information as a function on a port's cells; its step, by the program. No statement is proved here. -/
import Derived.Test.YthfoacgdkoijeaaInfF
namespace Go.Proofs.Ythfoacgdkoijeaa
open Go.RowKit Go.BigFrame Go.WideShapes Go.ChangeShapes Go.Deep
set_option linter.unusedVariables false
set_option linter.unusedSimpArgs false

def classN (kd ro c : Int) (tl te : Bool) : Nat :=
  if tellsB kd ro = true then (if ((c == 0) && te) = true then 1 else if (decide (c < 0) || tl) = true then 0 else 2) else if (ansB kd ro && !(decide (c < 0))) = true then 3 else 4
theorem classF_nat (kd ro c : Int) (tl te : Bool) : classF kd ro c tl te = ((classN kd ro c tl te : Nat) : Int) := by
  unfold classF classN
  split
  · split
    · rfl
    · split <;> rfl
  · split <;> rfl
theorem classN_lt (kd ro c : Int) (tl te : Bool) : classN kd ro c tl te < 5 := by
  unfold classN
  split
  · split
    · decide
    · split <;> decide
  · split <;> decide
def clsL (L : List Value) : Nat := (classN (pI L 51) (pI L 58) (c4 (pI L 59) (pI L 60) (pI L 61) (pI L 62) (pI L 68) (pI L 69) (pI L 70) (pI L 71)) (tell (pI L 61) (pI L 62) (pI L 70) (pI L 71)) ((pI L 64) == (pI L 78) && (pI L 65) == (pI L 79) && (pI L 66) == (pI L 80) && (pI L 67) == (pI L 81)))
/-- What a port hears, by what it is to it. -/
def hearN (n : Nat) (rst : Bool) (L : List Value) : List Value := match n with
  | 0 => (isup (pB L 22) (pB L 47) (pI L 86) (((pI L 51) == 2) && ((pI L 58) == 4) && (pB L 54)) (rst && !(pB L 3) && ((pI L 51) == 2) && (pB L 55)) ((pB L 39) || (pB L 52)) ((pB L 40) || (pB L 53)) (decide ((c4 (pI L 68) (pI L 69) (pI L 70) (pI L 71) (pI L 59) (pI L 60) (pI L 61) (pI L 62)) < 0)) [.int .u64 (pI L 59), .int .u32 (pI L 60), .int .u64 (pI L 61), .int .u16 (pI L 62), .int .u16 (pI L 63)] [.int .i64 (pI L 64), .int .i64 (pI L 65), .int .i64 (pI L 66), .int .i64 (pI L 67)] (waitsV (pI L 64) (pI L 65) (pI L 66)) L)
  | 1 => ((iagr (rst && !(pB L 3) && ((pI L 51) == 2) && (pB L 55)) (ichg ((pB L 39) || (pB L 52)) ((pB L 40) || (pB L 53)) (iprop (((pI L 51) == 2) && ((pI L 58) == 4) && (pB L 54)) L))).set 11 (.int .i64 (waitsV (pI L 64) (pI L 65) (pI L 66))))
  | 2 => (iinf (((pI L 51) == 2) && (pB L 56)) L)
  | 3 => (ichg ((pB L 39) || (pB L 52)) ((pB L 40) || (pB L 53)) (iagr (rst && !(pB L 3) && ((pI L 51) == 2) && (pB L 55)) L))
  | _ => (ioth ((pI L 51) == 1) L)
def itakeL (rst : Bool) (L : List Value) : List Value := ((hearN (clsL L) rst L).set 36 (.bool false)).set 18 (.int .i64 2)
def iupdL (L : List Value) : List Value := (iupd (pB L 23) (pB L 47) (pI L 86) (decide ((c4 (pI L 68) (pI L 69) (pI L 70) (pI L 71) (pI L 73) (pI L 74) (pI L 75) (pI L 76)) < 0)) [.int .u64 (pI L 73), .int .u32 (pI L 74), .int .u64 (pI L 75), .int .u16 (pI L 76), .int .u16 (pI L 77)] [.int .i64 (pI L 82), .int .i64 (pI L 83), .int .i64 (pI L 84), .int .i64 (pI L 85)] L)
def irowL (L : List Value) : Nat := (irowB (pB L 2) ((pI L 86) == 0) ((pI L 18) == 0) (pB L 36) ((pI L 18) == 1) ((pI L 18) == 2) (pB L 44) (pB L 50) ((pI L 86) == 3) ((pI L 11) == 0))
/-- The machine. -/
def infL (rst : Bool) (L : List Value) : Bool × List Value := match irowL L with | 0 => (false, L) | 1 => (true, idis L) | 2 => (true, iage L) | 3 => (true, iupdL L) | _ => (true, itakeL rst L)
/-- The times that a message tells can be told. -/
def TimR (L : List Value) : Prop := TF (pI L 64) (pI L 65) (pI L 66) (pI L 67)
theorem wf64 {K : IntKind} {z : Int} (hK : K = .u64) (h : (Lit.int K z).wf = true) : 0 ≤ z ∧ z < 18446744073709551616 := by subst hK; exact wf_u64 h
theorem wf16 {K : IntKind} {z : Int} (hK : K = .u16) (h : (Lit.int K z).wf = true) : 0 ≤ z ∧ z < 65536 := by subst hK; exact wf_u16 h
theorem class_L (w : World) {L : List Value} (hT : Typed PL L) : Calls Try.prog 22 #[.agg L.toArray] w fun e w' => e = .returned (.int .i64 (clsL L : Nat)) ∧ Ext w w' :=
  asi (class_any (w := w) L (tpL hT) _ (tpI hT 51 rfl) _ (tpB hT 52 rfl) _ (tpB hT 53 rfl) _ (tpB hT 54 rfl) _ (tpB hT 55 rfl) _ (tpB hT 56 rfl) _ (tpB hT 57 rfl) _ (tpI hT 58 rfl) _ (tpI hT 59 rfl) _ (tpI hT 60 rfl) _ (tpI hT 61 rfl) _ (tpI hT 62 rfl) _ (tpI hT 63 rfl) _ (tpI hT 64 rfl) _ (tpI hT 65 rfl) _ (tpI hT 66 rfl) _ (tpI hT 67 rfl) _ (tpI hT 68 rfl) _ (tpI hT 69 rfl) _ (tpI hT 70 rfl) _ (tpI hT 71 rfl) _ (tpI hT 72 rfl) _ (tpI hT 78 rfl) _ (tpI hT 79 rfl) _ (tpI hT 80 rfl) _ (tpI hT 81 rfl) (wf_u64 (tpW hT 61 rfl)) (wf_u64 (tpW hT 70 rfl)) (wf_u16 (tpW hT 62 rfl)) (wf_u16 (tpW hT 71 rfl))) (classF_nat _ _ _ _ _)
theorem inf_hear {w : World} (G o : Nat) (L : List Value) (hP_w : Pv w G o L) (hT : Typed PL L) (rst : Bool) (hR : TimR L) (n : Nat) : Calls Try.prog (takeId n) #[.agg #[.pointer (some ⟨G, o, none⟩), .bool rst]] w fun e w' => e = .returned (.tuple #[]) ∧ Pv w' G o (hearN n rst L) ∧ Pm G o w w' := by
  obtain ⟨r1, r2, r3, r4, r5, r6, -, -⟩ := hR
  match n with
  | 0 => exact inf_superior G o L hP_w (tpL hT) rst _ (tpB hT 3 rfl) _ (tpB hT 22 rfl) _ (tpB hT 39 rfl) _ (tpB hT 40 rfl) _ (tpB hT 47 rfl) _ (tpI hT 51 rfl) _ (tpB hT 52 rfl) _ (tpB hT 53 rfl) _ (tpB hT 54 rfl) _ (tpB hT 55 rfl) _ (tpB hT 56 rfl) _ (tpB hT 57 rfl) _ (tpI hT 58 rfl) _ (tpI hT 59 rfl) _ (tpI hT 60 rfl) _ (tpI hT 61 rfl) _ (tpI hT 62 rfl) _ (tpI hT 63 rfl) _ (tpI hT 64 rfl) _ (tpI hT 65 rfl) _ (tpI hT 66 rfl) _ (tpI hT 67 rfl) _ (tpI hT 68 rfl) _ (tpI hT 69 rfl) _ (tpI hT 70 rfl) _ (tpI hT 71 rfl) _ (tpI hT 72 rfl) _ (tpI hT 86 rfl) r1 r2 r3 r4 r5 r6
  | 1 => exact inf_repeated G o L hP_w (tpL hT) rst _ (tpB hT 3 rfl) _ (tpB hT 39 rfl) _ (tpB hT 40 rfl) _ (tpI hT 51 rfl) _ (tpB hT 52 rfl) _ (tpB hT 53 rfl) _ (tpB hT 54 rfl) _ (tpB hT 55 rfl) _ (tpB hT 56 rfl) _ (tpB hT 57 rfl) _ (tpI hT 58 rfl) _ (tpI hT 59 rfl) _ (tpI hT 60 rfl) _ (tpI hT 61 rfl) _ (tpI hT 62 rfl) _ (tpI hT 63 rfl) _ (tpI hT 64 rfl) _ (tpI hT 65 rfl) _ (tpI hT 66 rfl) _ (tpI hT 67 rfl) r1 r2 r3 r4 r5 r6
  | 2 => exact inf_inferior G o L hP_w (tpL hT) rst _ (tpI hT 51 rfl) _ (tpB hT 56 rfl)
  | 3 => exact inf_notDesignated G o L hP_w (tpL hT) rst _ (tpB hT 3 rfl) _ (tpB hT 39 rfl) _ (tpB hT 40 rfl) _ (tpI hT 51 rfl) _ (tpB hT 52 rfl) _ (tpB hT 53 rfl) _ (tpB hT 55 rfl)
  | n + 4 => exact inf_other G o L hP_w (tpL hT) rst _ (tpI hT 51 rfl)
theorem inf_takeL {w : World} (G o : Nat) (L : List Value) (hP_w : Pv w G o L) (hT : Typed PL L) (rst : Bool) (hR : TimR L) : Calls Try.prog 60 #[.agg #[.pointer (some ⟨G, o, none⟩), .bool rst]] w fun e w' => e = .returned (.tuple #[]) ∧ Pv w' G o (itakeL rst L) ∧ Pm G o w w' :=
  inf_takeR G o L _ hP_w (tpL hT) rst (clsL L) (classN_lt _ _ _ _ _) (fun w => class_L w hT) (fun w hp => inf_hear G o L hp hT rst hR (clsL L))
theorem inf_updL {w : World} (G o : Nat) (L : List Value) (hP_w : Pv w G o L) (hT : Typed PL L) (rst : Bool) : Calls Try.prog 59 #[.agg #[.pointer (some ⟨G, o, none⟩), .bool rst]] w fun e w' => e = .returned (.tuple #[]) ∧ Pv w' G o (iupdL L) ∧ Pm G o w w' :=
  inf_update G o L hP_w (tpL hT) rst _ (tpB hT 23 rfl) _ (tpB hT 47 rfl) _ (tpI hT 68 rfl) _ (tpI hT 69 rfl) _ (tpI hT 70 rfl) _ (tpI hT 71 rfl) _ (tpI hT 72 rfl) _ (tpI hT 73 rfl) _ (tpI hT 74 rfl) _ (tpI hT 75 rfl) _ (tpI hT 76 rfl) _ (tpI hT 77 rfl) _ (tpI hT 82 rfl) _ (tpI hT 83 rfl) _ (tpI hT 84 rfl) _ (tpI hT 85 rfl) _ (tpI hT 86 rfl)
theorem inf_rowL {w : World} (G o : Nat) (L : List Value) (hP_w : Pv w G o L) (hT : Typed PL L) (rst : Bool) : Calls Try.prog 36 #[.agg #[.pointer (some ⟨G, o, none⟩), .bool rst]] w fun e w' => e = .returned (rowFun (irowL L) (.agg #[.pointer (some ⟨G, o, none⟩), .bool rst])) ∧ Pv w' G o L ∧ Pm G o w w' :=
  inf_row G o L hP_w (tpL hT) rst _ (tpB hT 2 rfl) _ (tpI hT 11 rfl) _ (tpI hT 18 rfl) _ (tpB hT 22 rfl) _ (tpB hT 23 rfl) _ (tpB hT 24 rfl) _ (tpB hT 25 rfl) _ (tpB hT 26 rfl) _ (tpB hT 27 rfl) _ (tpB hT 28 rfl) _ (tpB hT 29 rfl) _ (tpB hT 30 rfl) _ (tpB hT 31 rfl) _ (tpB hT 32 rfl) _ (tpB hT 33 rfl) _ (tpB hT 34 rfl) _ (tpB hT 35 rfl) _ (tpB hT 36 rfl) _ (tpB hT 37 rfl) _ (tpB hT 38 rfl) _ (tpB hT 39 rfl) _ (tpB hT 40 rfl) _ (tpB hT 41 rfl) _ (tpB hT 42 rfl) _ (tpB hT 43 rfl) _ (tpB hT 44 rfl) _ (tpB hT 45 rfl) _ (tpB hT 46 rfl) _ (tpB hT 47 rfl) _ (tpB hT 48 rfl) _ (tpB hT 49 rfl) _ (tpB hT 50 rfl) _ (tpI hT 86 rfl)
theorem inf_rowN {w : World} (G o : Nat) (L : List Value) (hP_w : Pv w G o L) (hT : Typed PL L) (rst : Bool) (n : Nat) (hn : irowL L = n) (v : Value) (hv : rowFun n (.agg #[.pointer (some ⟨G, o, none⟩), .bool rst]) = v) : Calls Try.prog 36 #[.agg #[.pointer (some ⟨G, o, none⟩), .bool rst]] w fun e w' => e = .returned v ∧ Pv w' G o L ∧ Pm G o w w' := by
  have := inf_rowL G o L hP_w hT rst
  rw [hn, hv] at this
  exact this
theorem irowL_cases (L : List Value) : irowL L = 0 ∨ irowL L = 1 ∨ irowL L = 2 ∨ irowL L = 3 ∨ irowL L = 4 := by
  unfold irowL irowB
  repeat' split
  all_goals simp
theorem inffn_eq (f : FuncId) (cs : Array Value) (w : World) : (binOp BinOp.eql 1 (Value.func (Fn.func f) cs #[]) Value.nilFunc).run Try.prog w = .ok (.bool false) w := by kernel_rfl
theorem inffn_eq0 (w : World) : (binOp BinOp.eql 1 Value.nilFunc Value.nilFunc).run Try.prog w = .ok (.bool true) w := by kernel_rfl
/-- The machine on a bridge. -/
def infF (B : Br) (k : Nat) : Bool × Br := ((infL (B.hb 1) (port B.ps k)).1, B.setPort k (infL (B.hb 1) (port B.ps k)).2)
set_option maxRecDepth 100000 in
set_option maxHeartbeats 1000000 in
theorem inf_step0 (w : World) (F : Nat → Prop) (X g k : Nat) (B : Br) (h : BrG w F X g B) (ho : B.ok) (hk : k < B.np) (hn : B.np < 1000) (hr : irowL (port B.ps k) = 0) : Calls Try.prog 19 #[.pointer (some ⟨X, 0, none⟩), .int .i64 k] w (Stepped w F X g (false, B)) := by
  obtain ⟨hX, hg, hne⟩ := h.lt
  obtain ⟨cap, c17, hc1, hc2⟩ := h.cell17 ho
  have cr0 := (h.cellX ho (i := 1) (by decide)).trans (ho.hb 1 rfl)
  obtain ⟨rs, hrs⟩ : ∃ r, B.hb 1 = r := ⟨_, rfl⟩
  have cr : w.cell? ⟨X, 1, none⟩ = some (.bool rs) := by rw [← hrs]; exact cr0
  have HRS := Lib.hid hrs
  have HPV := Lib.hid (h.pv hk)
  have HTY := Lib.hid (br_typed ho hk)
  have H := Lib.hid h
  have HR := Lib.hid hr
  have HO := Lib.hid (setPort_self (len89 ho hk))
  have hk8 : k < 1000 := by omega
  clear h ho hr hrs cr0
  go_enter Try.func19, Try.ntmps19
  go_wp2_with fail
  refine beginL (S := fun W' => Pm g (k * 89) w W') (by kernel_rfl) ?_
  intro wd hqx
  have hq0 : Pm g (k * 89) w wd := hqx.pm g (k * 89)
  have hpd : Pv wd g (k * 89) (port B.ps k) := HPV.out.ext hqx
  refine tLp 0 ((.pointer (some ⟨X, 0, none⟩))) rfl hq0 ?_
  simp only [ps]
  refine tLp 1 ((.pointer (some ⟨X, 0, none⟩))) rfl hq0 ?_
  simp only [ps]
  refine tLp 2 ((.pointer (some ⟨X, 17, none⟩))) rfl hq0 ?_
  simp only [ps]
  refine tL 3 (_) rfl (yieldsIf_cell rfl 29 _ rfl ⟨X, 17, none⟩ rfl (.slice (some ⟨g, 0, none⟩) B.np cap) _ (fun W' hW' => (hW'.1.cell (p := ⟨X, 17, none⟩) hX hne).trans c17) Try.underlying29 rfl) hq0 ?_
  simp only [ps]
  refine tLp 4 ((.int .i64 (k : Int))) rfl hq0 ?_
  simp only [ps]
  refine tL 5 ((.pointer (some ⟨g, k * 89, none⟩))) rfl (Or.inl ⟨rfl, fun W' _ => by go_simp⟩) hq0 ?_
  simp only [ps]
  refine tLp 6 ((.pointer (some ⟨X, 0, none⟩))) rfl hq0 ?_
  simp only [ps]
  refine tLp 7 ((.pointer (some ⟨X, 0, none⟩))) rfl hq0 ?_
  simp only [ps]
  refine tLp 8 ((.pointer (some ⟨X, 1, none⟩))) rfl hq0 ?_
  simp only [ps]
  refine tL 9 (_) rfl (yieldsIf_cell rfl 4 _ rfl ⟨X, 1, none⟩ rfl (.bool rs) _ (fun W' hW' => (hW'.1.cell (p := ⟨X, 1, none⟩) hX hne).trans cr) Try.underlying4 rfl) hq0 ?_
  simp only [ps]
  refine tL 10 ((.agg #[.pointer (some ⟨g, k * 89, none⟩), .bool rs])) rfl (yieldsIf_build rfl 66 _ rfl [(0, .pointer (some ⟨g, k * 89, none⟩)), (1, .bool rs)] rfl #[.pointer (some ⟨g, k * 89, none⟩), .bool rs] (by kernel_rfl)) hq0 ?_
  simp only [ps]
  refine runL (i := 11) rfl rfl (by kernel_rfl) (fun K hK => ?_)
  go_simp
  refine (inf_rowN g (k * 89) (port B.ps k) hpd HTY.out rs 0 HR.out _ rfl).mono ?_
  rintro e wc1 ⟨rfl, hpv, hx⟩
  have hq1 := hq0.trans hx
  refine hK.out _ _ hq1 (fun hHeld => ?_)
  try simp only [ps]
  clear hK K hHeld
  refine tLp 12 (Value.nilFunc) rfl hq1 ?_
  simp only [ps]
  refine wpAnyH_done (by kernel_rfl) ?_ _
  have hBr := H.out.pm hk hq1 hpv
  rw [HO.out] at hBr
  have HB := Lib.hid hBr
  have HM := Lib.hid hq1
  generalize wc1 = wy at *
  clear hqx hq0 hq1 hpd hBr c17 cr
  have q0 := inffn_eq0
  go_wp2_with fail
  go_ret
  exact ⟨rfl, HB.out, HM.out.mutF H.out.F2⟩
set_option maxRecDepth 100000 in
set_option maxHeartbeats 1000000 in
theorem inf_step1 (w : World) (F : Nat → Prop) (X g k : Nat) (B : Br) (h : BrG w F X g B) (ho : B.ok) (hk : k < B.np) (hn : B.np < 1000) (hr : irowL (port B.ps k) = 1) : Calls Try.prog 19 #[.pointer (some ⟨X, 0, none⟩), .int .i64 k] w (Stepped w F X g (true, B.setPort k (idis (port B.ps k)))) := by
  obtain ⟨hX, hg, hne⟩ := h.lt
  obtain ⟨cap, c17, hc1, hc2⟩ := h.cell17 ho
  have cr0 := (h.cellX ho (i := 1) (by decide)).trans (ho.hb 1 rfl)
  obtain ⟨rs, hrs⟩ : ∃ r, B.hb 1 = r := ⟨_, rfl⟩
  have cr : w.cell? ⟨X, 1, none⟩ = some (.bool rs) := by rw [← hrs]; exact cr0
  have HRS := Lib.hid hrs
  have HPV := Lib.hid (h.pv hk)
  have HTY := Lib.hid (br_typed ho hk)
  have H := Lib.hid h
  have HR := Lib.hid hr
  have HO := Lib.hid (setPort_self (len89 ho hk))
  have hk8 : k < 1000 := by omega
  clear h ho hr hrs cr0
  go_enter Try.func19, Try.ntmps19
  go_wp2_with fail
  refine beginL (S := fun W' => Pm g (k * 89) w W') (by kernel_rfl) ?_
  intro wd hqx
  have hq0 : Pm g (k * 89) w wd := hqx.pm g (k * 89)
  have hpd : Pv wd g (k * 89) (port B.ps k) := HPV.out.ext hqx
  refine tLp 0 ((.pointer (some ⟨X, 0, none⟩))) rfl hq0 ?_
  simp only [ps]
  refine tLp 1 ((.pointer (some ⟨X, 0, none⟩))) rfl hq0 ?_
  simp only [ps]
  refine tLp 2 ((.pointer (some ⟨X, 17, none⟩))) rfl hq0 ?_
  simp only [ps]
  refine tL 3 (_) rfl (yieldsIf_cell rfl 29 _ rfl ⟨X, 17, none⟩ rfl (.slice (some ⟨g, 0, none⟩) B.np cap) _ (fun W' hW' => (hW'.1.cell (p := ⟨X, 17, none⟩) hX hne).trans c17) Try.underlying29 rfl) hq0 ?_
  simp only [ps]
  refine tLp 4 ((.int .i64 (k : Int))) rfl hq0 ?_
  simp only [ps]
  refine tL 5 ((.pointer (some ⟨g, k * 89, none⟩))) rfl (Or.inl ⟨rfl, fun W' _ => by go_simp⟩) hq0 ?_
  simp only [ps]
  refine tLp 6 ((.pointer (some ⟨X, 0, none⟩))) rfl hq0 ?_
  simp only [ps]
  refine tLp 7 ((.pointer (some ⟨X, 0, none⟩))) rfl hq0 ?_
  simp only [ps]
  refine tLp 8 ((.pointer (some ⟨X, 1, none⟩))) rfl hq0 ?_
  simp only [ps]
  refine tL 9 (_) rfl (yieldsIf_cell rfl 4 _ rfl ⟨X, 1, none⟩ rfl (.bool rs) _ (fun W' hW' => (hW'.1.cell (p := ⟨X, 1, none⟩) hX hne).trans cr) Try.underlying4 rfl) hq0 ?_
  simp only [ps]
  refine tL 10 ((.agg #[.pointer (some ⟨g, k * 89, none⟩), .bool rs])) rfl (yieldsIf_build rfl 66 _ rfl [(0, .pointer (some ⟨g, k * 89, none⟩)), (1, .bool rs)] rfl #[.pointer (some ⟨g, k * 89, none⟩), .bool rs] (by kernel_rfl)) hq0 ?_
  simp only [ps]
  refine runL (i := 11) rfl rfl (by kernel_rfl) (fun K hK => ?_)
  go_simp
  refine (inf_rowN g (k * 89) (port B.ps k) hpd HTY.out rs 1 HR.out _ rfl).mono ?_
  rintro e wc1 ⟨rfl, hpv, hx⟩
  have hq1 := hq0.trans hx
  refine hK.out _ _ hq1 (fun hHeld => ?_)
  try simp only [ps]
  clear hK K hHeld
  refine tLp 12 ((.func (.func 57) #[.agg #[.pointer (some ⟨g, k * 89, none⟩), .bool rs]] #[])) rfl hq1 ?_
  simp only [ps]
  refine wpAnyH_done (by kernel_rfl) ?_ _
  have hBr := H.out.pm hk hq1 hpv
  rw [HO.out] at hBr
  have HB := Lib.hid hBr
  have HM := Lib.hid hq1
  generalize wc1 = wy at *
  clear hqx hq0 hq1 hpd hBr c17 cr
  have q0 := inffn_eq0
  have q1 := inffn_eq 57
  go_wp2_with fail
  refine (inf_disable g (k * 89) (port B.ps k) hpv (tpL HTY.out) rs).mono ?_
  rintro e wz ⟨rfl, hp, hm⟩
  have hB2 := HB.out.pm hk hm hp
  have HB2 := Lib.hid hB2
  have HM2 := Lib.hid ((HM.out.trans hm).mutF H.out.F2)
  clear hB2 hm hp
  go_wp2_with fail
  go_ret
  refine ⟨rfl, ?_, HM2.out⟩
  exact HB2.out
set_option maxRecDepth 100000 in
set_option maxHeartbeats 1000000 in
theorem inf_step2 (w : World) (F : Nat → Prop) (X g k : Nat) (B : Br) (h : BrG w F X g B) (ho : B.ok) (hk : k < B.np) (hn : B.np < 1000) (hr : irowL (port B.ps k) = 2) : Calls Try.prog 19 #[.pointer (some ⟨X, 0, none⟩), .int .i64 k] w (Stepped w F X g (true, B.setPort k (iage (port B.ps k)))) := by
  obtain ⟨hX, hg, hne⟩ := h.lt
  obtain ⟨cap, c17, hc1, hc2⟩ := h.cell17 ho
  have cr0 := (h.cellX ho (i := 1) (by decide)).trans (ho.hb 1 rfl)
  obtain ⟨rs, hrs⟩ : ∃ r, B.hb 1 = r := ⟨_, rfl⟩
  have cr : w.cell? ⟨X, 1, none⟩ = some (.bool rs) := by rw [← hrs]; exact cr0
  have HRS := Lib.hid hrs
  have HPV := Lib.hid (h.pv hk)
  have HTY := Lib.hid (br_typed ho hk)
  have H := Lib.hid h
  have HR := Lib.hid hr
  have HO := Lib.hid (setPort_self (len89 ho hk))
  have hk8 : k < 1000 := by omega
  clear h ho hr hrs cr0
  go_enter Try.func19, Try.ntmps19
  go_wp2_with fail
  refine beginL (S := fun W' => Pm g (k * 89) w W') (by kernel_rfl) ?_
  intro wd hqx
  have hq0 : Pm g (k * 89) w wd := hqx.pm g (k * 89)
  have hpd : Pv wd g (k * 89) (port B.ps k) := HPV.out.ext hqx
  refine tLp 0 ((.pointer (some ⟨X, 0, none⟩))) rfl hq0 ?_
  simp only [ps]
  refine tLp 1 ((.pointer (some ⟨X, 0, none⟩))) rfl hq0 ?_
  simp only [ps]
  refine tLp 2 ((.pointer (some ⟨X, 17, none⟩))) rfl hq0 ?_
  simp only [ps]
  refine tL 3 (_) rfl (yieldsIf_cell rfl 29 _ rfl ⟨X, 17, none⟩ rfl (.slice (some ⟨g, 0, none⟩) B.np cap) _ (fun W' hW' => (hW'.1.cell (p := ⟨X, 17, none⟩) hX hne).trans c17) Try.underlying29 rfl) hq0 ?_
  simp only [ps]
  refine tLp 4 ((.int .i64 (k : Int))) rfl hq0 ?_
  simp only [ps]
  refine tL 5 ((.pointer (some ⟨g, k * 89, none⟩))) rfl (Or.inl ⟨rfl, fun W' _ => by go_simp⟩) hq0 ?_
  simp only [ps]
  refine tLp 6 ((.pointer (some ⟨X, 0, none⟩))) rfl hq0 ?_
  simp only [ps]
  refine tLp 7 ((.pointer (some ⟨X, 0, none⟩))) rfl hq0 ?_
  simp only [ps]
  refine tLp 8 ((.pointer (some ⟨X, 1, none⟩))) rfl hq0 ?_
  simp only [ps]
  refine tL 9 (_) rfl (yieldsIf_cell rfl 4 _ rfl ⟨X, 1, none⟩ rfl (.bool rs) _ (fun W' hW' => (hW'.1.cell (p := ⟨X, 1, none⟩) hX hne).trans cr) Try.underlying4 rfl) hq0 ?_
  simp only [ps]
  refine tL 10 ((.agg #[.pointer (some ⟨g, k * 89, none⟩), .bool rs])) rfl (yieldsIf_build rfl 66 _ rfl [(0, .pointer (some ⟨g, k * 89, none⟩)), (1, .bool rs)] rfl #[.pointer (some ⟨g, k * 89, none⟩), .bool rs] (by kernel_rfl)) hq0 ?_
  simp only [ps]
  refine runL (i := 11) rfl rfl (by kernel_rfl) (fun K hK => ?_)
  go_simp
  refine (inf_rowN g (k * 89) (port B.ps k) hpd HTY.out rs 2 HR.out _ rfl).mono ?_
  rintro e wc1 ⟨rfl, hpv, hx⟩
  have hq1 := hq0.trans hx
  refine hK.out _ _ hq1 (fun hHeld => ?_)
  try simp only [ps]
  clear hK K hHeld
  refine tLp 12 ((.func (.func 58) #[.agg #[.pointer (some ⟨g, k * 89, none⟩), .bool rs]] #[])) rfl hq1 ?_
  simp only [ps]
  refine wpAnyH_done (by kernel_rfl) ?_ _
  have hBr := H.out.pm hk hq1 hpv
  rw [HO.out] at hBr
  have HB := Lib.hid hBr
  have HM := Lib.hid hq1
  generalize wc1 = wy at *
  clear hqx hq0 hq1 hpd hBr c17 cr
  have q0 := inffn_eq0
  have q1 := inffn_eq 58
  go_wp2_with fail
  refine (inf_age g (k * 89) (port B.ps k) hpv (tpL HTY.out) rs).mono ?_
  rintro e wz ⟨rfl, hp, hm⟩
  have hB2 := HB.out.pm hk hm hp
  have HB2 := Lib.hid hB2
  have HM2 := Lib.hid ((HM.out.trans hm).mutF H.out.F2)
  clear hB2 hm hp
  go_wp2_with fail
  go_ret
  refine ⟨rfl, ?_, HM2.out⟩
  exact HB2.out
set_option maxRecDepth 100000 in
set_option maxHeartbeats 1000000 in
theorem inf_step3 (w : World) (F : Nat → Prop) (X g k : Nat) (B : Br) (h : BrG w F X g B) (ho : B.ok) (hk : k < B.np) (hn : B.np < 1000) (hr : irowL (port B.ps k) = 3) : Calls Try.prog 19 #[.pointer (some ⟨X, 0, none⟩), .int .i64 k] w (Stepped w F X g (true, B.setPort k (iupdL (port B.ps k)))) := by
  obtain ⟨hX, hg, hne⟩ := h.lt
  obtain ⟨cap, c17, hc1, hc2⟩ := h.cell17 ho
  have cr0 := (h.cellX ho (i := 1) (by decide)).trans (ho.hb 1 rfl)
  obtain ⟨rs, hrs⟩ : ∃ r, B.hb 1 = r := ⟨_, rfl⟩
  have cr : w.cell? ⟨X, 1, none⟩ = some (.bool rs) := by rw [← hrs]; exact cr0
  have HRS := Lib.hid hrs
  have HPV := Lib.hid (h.pv hk)
  have HTY := Lib.hid (br_typed ho hk)
  have H := Lib.hid h
  have HR := Lib.hid hr
  have HO := Lib.hid (setPort_self (len89 ho hk))
  have hk8 : k < 1000 := by omega
  clear h ho hr hrs cr0
  go_enter Try.func19, Try.ntmps19
  go_wp2_with fail
  refine beginL (S := fun W' => Pm g (k * 89) w W') (by kernel_rfl) ?_
  intro wd hqx
  have hq0 : Pm g (k * 89) w wd := hqx.pm g (k * 89)
  have hpd : Pv wd g (k * 89) (port B.ps k) := HPV.out.ext hqx
  refine tLp 0 ((.pointer (some ⟨X, 0, none⟩))) rfl hq0 ?_
  simp only [ps]
  refine tLp 1 ((.pointer (some ⟨X, 0, none⟩))) rfl hq0 ?_
  simp only [ps]
  refine tLp 2 ((.pointer (some ⟨X, 17, none⟩))) rfl hq0 ?_
  simp only [ps]
  refine tL 3 (_) rfl (yieldsIf_cell rfl 29 _ rfl ⟨X, 17, none⟩ rfl (.slice (some ⟨g, 0, none⟩) B.np cap) _ (fun W' hW' => (hW'.1.cell (p := ⟨X, 17, none⟩) hX hne).trans c17) Try.underlying29 rfl) hq0 ?_
  simp only [ps]
  refine tLp 4 ((.int .i64 (k : Int))) rfl hq0 ?_
  simp only [ps]
  refine tL 5 ((.pointer (some ⟨g, k * 89, none⟩))) rfl (Or.inl ⟨rfl, fun W' _ => by go_simp⟩) hq0 ?_
  simp only [ps]
  refine tLp 6 ((.pointer (some ⟨X, 0, none⟩))) rfl hq0 ?_
  simp only [ps]
  refine tLp 7 ((.pointer (some ⟨X, 0, none⟩))) rfl hq0 ?_
  simp only [ps]
  refine tLp 8 ((.pointer (some ⟨X, 1, none⟩))) rfl hq0 ?_
  simp only [ps]
  refine tL 9 (_) rfl (yieldsIf_cell rfl 4 _ rfl ⟨X, 1, none⟩ rfl (.bool rs) _ (fun W' hW' => (hW'.1.cell (p := ⟨X, 1, none⟩) hX hne).trans cr) Try.underlying4 rfl) hq0 ?_
  simp only [ps]
  refine tL 10 ((.agg #[.pointer (some ⟨g, k * 89, none⟩), .bool rs])) rfl (yieldsIf_build rfl 66 _ rfl [(0, .pointer (some ⟨g, k * 89, none⟩)), (1, .bool rs)] rfl #[.pointer (some ⟨g, k * 89, none⟩), .bool rs] (by kernel_rfl)) hq0 ?_
  simp only [ps]
  refine runL (i := 11) rfl rfl (by kernel_rfl) (fun K hK => ?_)
  go_simp
  refine (inf_rowN g (k * 89) (port B.ps k) hpd HTY.out rs 3 HR.out _ rfl).mono ?_
  rintro e wc1 ⟨rfl, hpv, hx⟩
  have hq1 := hq0.trans hx
  refine hK.out _ _ hq1 (fun hHeld => ?_)
  try simp only [ps]
  clear hK K hHeld
  refine tLp 12 ((.func (.func 59) #[.agg #[.pointer (some ⟨g, k * 89, none⟩), .bool rs]] #[])) rfl hq1 ?_
  simp only [ps]
  refine wpAnyH_done (by kernel_rfl) ?_ _
  have hBr := H.out.pm hk hq1 hpv
  rw [HO.out] at hBr
  have HB := Lib.hid hBr
  have HM := Lib.hid hq1
  generalize wc1 = wy at *
  clear hqx hq0 hq1 hpd hBr c17 cr
  have q0 := inffn_eq0
  have q1 := inffn_eq 59
  go_wp2_with fail
  refine (inf_updL g (k * 89) (port B.ps k) hpv HTY.out rs).mono ?_
  rintro e wz ⟨rfl, hp, hm⟩
  have hB2 := HB.out.pm hk hm hp
  have HB2 := Lib.hid hB2
  have HM2 := Lib.hid ((HM.out.trans hm).mutF H.out.F2)
  clear hB2 hm hp
  go_wp2_with fail
  go_ret
  refine ⟨rfl, ?_, HM2.out⟩
  exact HB2.out
set_option maxRecDepth 100000 in
set_option maxHeartbeats 1000000 in
theorem inf_step4 (w : World) (F : Nat → Prop) (X g k : Nat) (B : Br) (h : BrG w F X g B) (ho : B.ok) (hk : k < B.np) (hn : B.np < 1000) (hr : irowL (port B.ps k) = 4) (hR : TimR (port B.ps k)) : Calls Try.prog 19 #[.pointer (some ⟨X, 0, none⟩), .int .i64 k] w (Stepped w F X g (true, B.setPort k (itakeL (B.hb 1) (port B.ps k)))) := by
  obtain ⟨hX, hg, hne⟩ := h.lt
  obtain ⟨cap, c17, hc1, hc2⟩ := h.cell17 ho
  have cr0 := (h.cellX ho (i := 1) (by decide)).trans (ho.hb 1 rfl)
  obtain ⟨rs, hrs⟩ : ∃ r, B.hb 1 = r := ⟨_, rfl⟩
  have cr : w.cell? ⟨X, 1, none⟩ = some (.bool rs) := by rw [← hrs]; exact cr0
  have HRS := Lib.hid hrs
  have HPV := Lib.hid (h.pv hk)
  have HTY := Lib.hid (br_typed ho hk)
  have H := Lib.hid h
  have HR := Lib.hid hr
  have HO := Lib.hid (setPort_self (len89 ho hk))
  have hk8 : k < 1000 := by omega
  have HTM := Lib.hid hR
  clear hR
  clear h ho hr hrs cr0
  go_enter Try.func19, Try.ntmps19
  go_wp2_with fail
  refine beginL (S := fun W' => Pm g (k * 89) w W') (by kernel_rfl) ?_
  intro wd hqx
  have hq0 : Pm g (k * 89) w wd := hqx.pm g (k * 89)
  have hpd : Pv wd g (k * 89) (port B.ps k) := HPV.out.ext hqx
  refine tLp 0 ((.pointer (some ⟨X, 0, none⟩))) rfl hq0 ?_
  simp only [ps]
  refine tLp 1 ((.pointer (some ⟨X, 0, none⟩))) rfl hq0 ?_
  simp only [ps]
  refine tLp 2 ((.pointer (some ⟨X, 17, none⟩))) rfl hq0 ?_
  simp only [ps]
  refine tL 3 (_) rfl (yieldsIf_cell rfl 29 _ rfl ⟨X, 17, none⟩ rfl (.slice (some ⟨g, 0, none⟩) B.np cap) _ (fun W' hW' => (hW'.1.cell (p := ⟨X, 17, none⟩) hX hne).trans c17) Try.underlying29 rfl) hq0 ?_
  simp only [ps]
  refine tLp 4 ((.int .i64 (k : Int))) rfl hq0 ?_
  simp only [ps]
  refine tL 5 ((.pointer (some ⟨g, k * 89, none⟩))) rfl (Or.inl ⟨rfl, fun W' _ => by go_simp⟩) hq0 ?_
  simp only [ps]
  refine tLp 6 ((.pointer (some ⟨X, 0, none⟩))) rfl hq0 ?_
  simp only [ps]
  refine tLp 7 ((.pointer (some ⟨X, 0, none⟩))) rfl hq0 ?_
  simp only [ps]
  refine tLp 8 ((.pointer (some ⟨X, 1, none⟩))) rfl hq0 ?_
  simp only [ps]
  refine tL 9 (_) rfl (yieldsIf_cell rfl 4 _ rfl ⟨X, 1, none⟩ rfl (.bool rs) _ (fun W' hW' => (hW'.1.cell (p := ⟨X, 1, none⟩) hX hne).trans cr) Try.underlying4 rfl) hq0 ?_
  simp only [ps]
  refine tL 10 ((.agg #[.pointer (some ⟨g, k * 89, none⟩), .bool rs])) rfl (yieldsIf_build rfl 66 _ rfl [(0, .pointer (some ⟨g, k * 89, none⟩)), (1, .bool rs)] rfl #[.pointer (some ⟨g, k * 89, none⟩), .bool rs] (by kernel_rfl)) hq0 ?_
  simp only [ps]
  refine runL (i := 11) rfl rfl (by kernel_rfl) (fun K hK => ?_)
  go_simp
  refine (inf_rowN g (k * 89) (port B.ps k) hpd HTY.out rs 4 HR.out _ rfl).mono ?_
  rintro e wc1 ⟨rfl, hpv, hx⟩
  have hq1 := hq0.trans hx
  refine hK.out _ _ hq1 (fun hHeld => ?_)
  try simp only [ps]
  clear hK K hHeld
  refine tLp 12 ((.func (.func 60) #[.agg #[.pointer (some ⟨g, k * 89, none⟩), .bool rs]] #[])) rfl hq1 ?_
  simp only [ps]
  refine wpAnyH_done (by kernel_rfl) ?_ _
  have hBr := H.out.pm hk hq1 hpv
  rw [HO.out] at hBr
  have HB := Lib.hid hBr
  have HM := Lib.hid hq1
  generalize wc1 = wy at *
  clear hqx hq0 hq1 hpd hBr c17 cr
  have q0 := inffn_eq0
  have q1 := inffn_eq 60
  go_wp2_with fail
  refine (inf_takeL g (k * 89) (port B.ps k) hpv HTY.out rs HTM.out).mono ?_
  rintro e wz ⟨rfl, hp, hm⟩
  have hB2 := HB.out.pm hk hm hp
  have HB2 := Lib.hid hB2
  have HM2 := Lib.hid ((HM.out.trans hm).mutF H.out.F2)
  clear hB2 hm hp
  go_wp2_with fail
  go_ret
  refine ⟨rfl, ?_, HM2.out⟩
  rw [HRS.out]
  exact HB2.out
theorem inf_step (w : World) (F : Nat → Prop) (X g k : Nat) (B : Br) (h : BrG w F X g B) (ho : B.ok) (hk : k < B.np) (hn : B.np < 1000) (hR : TimR (port B.ps k)) : Calls Try.prog 19 #[.pointer (some ⟨X, 0, none⟩), .int .i64 k] w (Stepped w F X g (infF B k)) := by
  unfold infF infL
  rcases irowL_cases (port B.ps k) with hr | hr | hr | hr | hr
  · rw [hr]
    show Calls _ _ _ _ (Stepped w F X g (false, B.setPort k (port B.ps k)))
    rw [setPort_self (len89 ho hk)]
    exact inf_step0 w F X g k B h ho hk hn hr
  · rw [hr]; exact inf_step1 w F X g k B h ho hk hn hr
  · rw [hr]; exact inf_step2 w F X g k B h ho hk hn hr
  · rw [hr]; exact inf_step3 w F X g k B h ho hk hn hr
  · rw [hr]; exact inf_step4 w F X g k B h ho hk hn hr hR

end Go.Proofs.Ythfoacgdkoijeaa
