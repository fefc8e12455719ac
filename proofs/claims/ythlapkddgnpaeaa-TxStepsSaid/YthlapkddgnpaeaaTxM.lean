/- The machine that sends by itself. No statement is proved here. -/
import Derived.Test.YthlapkddgnpaeaaTxG
namespace Go.Proofs.Ythlapkddgnpaeaa
open Go.RowKit Go.BigFrame Go.WideShapes Go.ChangeShapes Go.Deep
set_option linter.unusedVariables false
set_option linter.unusedSimpArgs false

theorem gb_at {B : Br} {k : Nat} (j j' : Nat) (z : Bool) (h : k * 89 + 89 ≤ B.ps.length) (hj : j < 89) : (B.setp k j (.bool z)).gb k j' = if j = j' then z else B.gb k j' := by
  split
  · rename_i e; subst e; exact gb_setp_same _ _ _ _ (by omega)
  · rename_i e; exact gb_setp_ne _ _ _ _ _ e
theorem gi_at {B : Br} {k : Nat} (j j' : Nat) (z : Int) (h : k * 89 + 89 ≤ B.ps.length) (hj : j < 89) : (B.setp k j (.int .i64 z)).gi k j' = if j = j' then z else B.gi k j' := by
  split
  · rename_i e; subst e; exact gi_setp_same _ _ _ _ _ (by omega)
  · rename_i e; exact gi_setp_ne _ _ _ _ _ e
theorem sent_gb (Z : Br) (k j i : Nat) (kd : Int) : (Z.sent k kd).gb j i = Z.gb j i := rfl
theorem sent_gi (Z : Br) (k j i : Nat) (kd : Int) : (Z.sent k kd).gi j i = Z.gi j i := rfl
theorem sent_len2 (Z : Br) (k : Nat) (kd : Int) : (Z.sent k kd).ps.length = Z.ps.length := rfl
theorem setp_no (Z : Br) (k j : Nat) (v : Value) : (Z.setp k j v).no = Z.no := rfl
theorem txClock_np (Z : Br) (k : Nat) : (txClock Z k).np = Z.np := by unfold txClock; split <;> rfl
theorem txClock_hd (Z : Br) (k : Nat) : (txClock Z k).hd = Z.hd := by unfold txClock; split <;> rfl
theorem txClock_no (Z : Br) (k : Nat) : (txClock Z k).no = Z.no := by unfold txClock; split <;> rfl
theorem txClock_ok {Z : Br} (ho : Z.ok) {k : Nat} (hk : k < Z.np) : (txClock Z k).ok := by
  unfold txClock
  split
  · exact (ho.setB (k := k) hk 31 true rfl).setI (k := k) hk 8 .i64 _ rfl (ho.hw 4 rfl)
  · exact ho.setI (k := k) hk 8 .i64 _ rfl (ho.hw 4 rfl)
theorem txClock_14 (Z : Br) (k : Nat) : (txClock Z k).gi k 14 = Z.gi k 14 := by
  unfold txClock
  split
  · rw [gi_setp_ne _ _ _ _ _ (by decide), gi_setp_ne _ _ _ _ _ (by decide)]
  · rw [gi_setp_ne _ _ _ _ _ (by decide)]
theorem txClock_8 {Z : Br} {k : Nat} (h : k * 89 + 89 ≤ Z.ps.length) : (txClock Z k).gi k 8 = Z.hi 4 := by
  unfold txClock
  split
  · exact gi_setp_same _ _ _ _ _ (by simp only [len_setp]; omega)
  · exact gi_setp_same _ _ _ _ _ (by omega)
theorem txNews_np (Z : Br) (k : Nat) : (txNews Z k).np = Z.np := by unfold txNews; rw [np_setp, txSend_np]
theorem txNews_hd (Z : Br) (k : Nat) : (txNews Z k).hd = Z.hd := by unfold txNews; rw [hd_setp, txSend_hd]
theorem txNews_no (Z : Br) (k : Nat) : (txNews Z k).no = Z.no + 1 := by unfold txNews; rw [setp_no, txSend_no]
theorem txNews_ok {Z : Br} (ho : Z.ok) {k : Nat} (hk : k < Z.np) (hk8 : k < 1000) (h14 : 0 ≤ Z.gi k 14 ∧ Z.gi k 14 ≤ 100000) : (txNews Z k).ok :=
  (txSend_ok ho hk hk8 _ h14).setI (k := k) (by rw [txSend_np]; exact hk) 8 .i64 _ rfl (ho.hw 4 rfl)
theorem txSend_len (Z : Br) (k : Nat) (kd : Int) : (txSend Z k kd).ps.length = Z.ps.length := by unfold txSend; split <;> simp only [len_setp, sent_len2]
theorem txNews_len (Z : Br) (k : Nat) : (txNews Z k).ps.length = Z.ps.length := by unfold txNews; rw [len_setp, txSend_len]
theorem txNews_14 {Z : Br} {k : Nat} (h : k * 89 + 89 ≤ Z.ps.length) : (txNews Z k).gi k 14 = Z.gi k 14 + 1 := by
  unfold txNews
  rw [gi_setp_ne _ _ _ _ _ (by decide)]
  unfold txSend
  split
  · exact gi_setp_same _ _ _ _ _ (by simp only [len_setp, sent_len2]; omega)
  · exact gi_setp_same _ _ _ _ _ (by simp only [len_setp, sent_len2]; omega)
theorem txNews_8 {Z : Br} {k : Nat} (h : k * 89 + 89 ≤ Z.ps.length) : (txNews Z k).gi k 8 = Z.hi 4 := by
  unfold txNews
  exact gi_setp_same _ _ _ _ _ (by rw [txSend_len]; omega)
theorem txNews_31 {Z : Br} {k : Nat} (h : k * 89 + 89 ≤ Z.ps.length) : (txNews Z k).gb k 31 = false := by
  unfold txNews
  rw [gb_setp_ne _ _ _ _ _ (by decide)]
  unfold txSend
  split
  · rw [gb_setp_ne _ _ _ _ _ (by decide)]
    exact gb_setp_same _ _ _ _ (by rw [sent_len2]; omega)
  · rw [gb_setp_ne _ _ _ _ _ (by decide), gb_setp_ne _ _ _ _ _ (by decide)]
    exact gb_setp_same _ _ _ _ (by rw [sent_len2]; omega)
/-- No row holds. -/
theorem txF_idle {Z : Br} {k : Nat} (h8 : Z.gi k 8 ≠ 0) (h31 : Z.gb k 31 = false) : txF Z k = (false, Z) := by
  unfold txF txSel
  rw [h31, Bool.and_false, Bool.false_and, if_neg h8]
  by_cases hg : (!Z.gb k 44 || Z.gb k 50) = true
  · rw [if_pos hg]
    rfl
  · rw [if_neg hg, if_neg (by simp)]
    rfl
theorem txF_cases (Z : Br) (k : Nat) : txF Z k = (false, Z) ∨ (txF Z k = (true, txClock Z k)) ∨ (txF Z k = (true, txNews Z k) ∧ Z.gi k 14 < Z.hi 6) := by
  unfold txF
  by_cases h1 : txSel Z k = 1
  · rw [if_pos h1]; exact .inr (.inl rfl)
  rw [if_neg h1]
  by_cases h2 : txSel Z k = 2
  · rw [if_pos h2]
    refine .inr (.inr ⟨rfl, ?_⟩)
    unfold txSel at h2
    split at h2
    · simp at h2
    split at h2
    · simp at h2
    split at h2
    · rename_i h; simp at h; exact h.2
    · simp at h2
  · rw [if_neg h2]; exact .inl rfl
/-- Behind two steps there is none. -/
theorem tx_two {Z : Br} (k : Nat) (h : k * 89 + 89 ≤ Z.ps.length) (hh : Z.hi 4 ≠ 0) : txF (txF (txF Z k).2 k).2 k = (false, (txF (txF Z k).2 k).2) := by
  have clk : ∀ {Y : Br}, k * 89 + 89 ≤ Y.ps.length → Y.gi k 8 ≠ 0 → Y.hi 4 ≠ 0 → txF (txF Y k).2 k = (false, (txF Y k).2) := by
    intro Y hl h8 h4
    rcases txF_cases Y k with e | e | ⟨e, -⟩
    · rw [e]; exact e
    · exfalso
      unfold txF at e
      by_cases h1 : txSel Y k = 1
      · unfold txSel at h1
        rw [if_neg h8] at h1
        split at h1
        · simp at h1
        split at h1 <;> simp at h1
      rw [if_neg h1] at e
      by_cases h2 : txSel Y k = 2
      · rw [if_pos h2] at e
        have e2 := congrArg (fun p => p.2.no) e
        simp only [txNews_no, txClock_no] at e2
        omega
      · rw [if_neg h2] at e
        simp at e
    · rw [e]
      exact txF_idle (by rw [txNews_8 hl]; exact h4) (txNews_31 hl)
  rcases txF_cases Z k with e | e | ⟨e, -⟩
  · rw [e]; simp only; rw [e]; exact e
  · rw [e]
    have hl : k * 89 + 89 ≤ (txClock Z k).ps.length := by
      unfold txClock
      split <;> simp only [len_setp] <;> exact h
    exact clk hl (by rw [txClock_8 h]; exact hh) (by unfold Br.hi; rw [txClock_hd]; exact hh)
  · rw [e]
    have hl : k * 89 + 89 ≤ (txNews Z k).ps.length := by rw [txNews_len]; exact h
    exact clk hl (by rw [txNews_8 h]; exact hh) (by unfold Br.hi; rw [txNews_hd]; exact hh)

/-- A port's cell set, in a box whose blocks may grow. -/
theorem BrG.setpI {w : World} {N X g : Nat} {B : Br} (h : BrG w (fun n => N ≤ n ∧ n < w.heap.size) X g B) {k j : Nat} (hk : k < B.np) (hj : j < 89) (v : Value) : BrG (w.setCell ⟨g, k * 89 + j, none⟩ v) (fun n => N ≤ n ∧ n < (w.setCell ⟨g, k * 89 + j, none⟩ v).heap.size) X g (B.setp k j v) :=
  (h.setp hk hj v).mono (fun n hn => ⟨hn.1, by simp only [World.size_setCell]; exact hn.2⟩)
theorem b_slice18 {w W : World} {c : Array Value} {B : Br} {bx : Nat} (hb : BrC w c B) (ho : B.ok) (hL : W.heap[bx]? = some (.cells c 33 (0, 0))) : ∃ a18 k18, W.cell? ⟨bx, 18, none⟩ = some (.slice a18 B.no k18) := by
  obtain ⟨s1, s2, s3, hz0, hhd, c17b, c18b, c19b, r1, r2, r3⟩ := hb.facts ho.hd.1
  obtain ⟨a1, k1, rfl, m1, f1⟩ := r2.form
  exact ⟨a1, k1, by rw [cell_of_row _ _ _ _ _ _ hL]; exact c18b⟩
theorem b_head {w W : World} {c : Array Value} {B : Br} {bx : Nat} (hb : BrC w c B) (ho : B.ok) (hL : W.heap[bx]? = some (.cells c 33 (0, 0))) (j : Nat) {K : IntKind} (hj : HL[j]? = some (some K)) : W.cell? ⟨bx, j, none⟩ = some (.int K (B.hi j)) := by
  obtain ⟨s1, s2, s3, hz0, hhd, c17b, c18b, c19b, r1, r2, r3⟩ := hb.facts ho.hd.1
  have hl : j < 17 := (List.getElem?_eq_some_iff.1 hj).1
  rw [cell_of_row _ _ _ _ _ _ hL]
  exact (hhd j hl).trans (ho.hi j hj)

theorem wrap64 (n : Int) (h0 : -9223372036854775808 ≤ n) (h1 : n < 9223372036854775808) : IntKind.i64.wrap n = n := by
  simp [IntKind.wrap, IntKind.bits, IntKind.signed]
  omega

theorem runG {P : Program} {md : Region.Mode} {Q : Exit → Act → World → Prop} {S : World → Prop} {l rest : List Oper} {i : Nat} {oi : Oper} {fuel : Nat} {listed : Array Bool} {a : Act} {w : World} (hi : l.drop i = oi :: rest)
    (hw : Region.wanted oi (yielded l.toArray a.tmps) = true) (hr : Region.ready md l.toArray listed = [i])
    (h : ∀ K' : Act → World → Prop, Shut (∀ a w, S w → (S w → wpAnyH P md l.toArray Q S fuel (listed.setIfInBounds i true) a w) → K' a w) → Oper.wp P oi a w K' Q) : wpAnyH P md l.toArray Q S (fuel + 1) listed a w := by
  refine wpAnyH_ready hr (by simp) (AllReadyH.cons (o := oi) ?_ (fun K hK => ?_) AllReadyH.nil)
  · have e : (l.drop i)[0]? = some oi := by rw [hi]; rfl
    rw [List.getElem?_drop, Nat.add_zero] at e
    simpa using e
  · rw [if_pos hw]
    exact h K hK

/-! ### What TxIdle sets -/
def ti0 (B : Br) (k : Nat) : Br := (((((B.setp k 44 (.bool true)).setp k 50 (.bool false)).setp k 31 (.bool false)).setp k 87 (.int .i64 4)).setp k 8 (.int .i64 (B.hi 4))).setp k 14 (.int .i64 0)
theorem ti0_ok {B : Br} (ho : B.ok) {k : Nat} (hk : k < B.np) : (ti0 B k).ok := (((((ho.setB (k := k) hk 44 true rfl).setB (k := k) hk 50 false rfl).setB (k := k) hk 31 false rfl).setI (k := k) hk 87 .i64 4 rfl (by decide)).setI (k := k) hk 8 .i64 _ rfl (ho.hw 4 rfl)).setI (k := k) hk 14 .i64 0 rfl (by decide)
theorem ti0_len (B : Br) (k : Nat) : (ti0 B k).ps.length = B.ps.length := by unfold ti0; simp only [len_setp]
theorem ti0_cells {B : Br} {k : Nat} (h89 : k * 89 + 89 ≤ B.ps.length) : (ti0 B k).gb k 44 = true ∧ (ti0 B k).gb k 50 = false ∧ (ti0 B k).gb k 31 = false ∧ (ti0 B k).gi k 87 = 4 ∧ (ti0 B k).gi k 8 = B.hi 4 ∧ (ti0 B k).gi k 14 = 0 := by
  unfold ti0
  refine ⟨?_, ?_, ?_, ?_, ?_, ?_⟩ <;> simp [gb_at, gi_at, gi_setp_ne, gb_setp_ne, len_setp, h89]
def ti1 (B : Br) (k : Nat) : Br := (ti0 B k).setp k 8 (.int .i64 0)
def ti2 (B : Br) (k : Nat) : Br := txClock (ti1 B k) k
def ti3 (B : Br) (k : Nat) : Br := txNews (ti2 B k) k
theorem ti1_cells {B : Br} {k : Nat} (h89 : k * 89 + 89 ≤ B.ps.length) : (ti1 B k).gb k 44 = true ∧ (ti1 B k).gb k 50 = false ∧ (ti1 B k).gi k 87 = 4 ∧ (ti1 B k).gi k 8 = 0 ∧ (ti1 B k).gi k 14 = 0 := by
  obtain ⟨a, b, c, d, e, f⟩ := ti0_cells h89
  have hl : k * 89 + 89 ≤ (ti0 B k).ps.length := by rw [ti0_len]; exact h89
  unfold ti1
  refine ⟨?_, ?_, ?_, ?_, ?_⟩ <;> simp [gi_at, gb_setp_ne, hl, a, b, d, f]
theorem ti_f0 {B : Br} {k : Nat} (h89 : k * 89 + 89 ≤ B.ps.length) (h4 : B.hi 4 ≠ 0) : txF (ti0 B k) k = (false, ti0 B k) := by
  obtain ⟨a, b, c, d, e, f⟩ := ti0_cells h89
  exact txF_idle (by rw [e]; exact h4) c
theorem ti_f1 {B : Br} {k : Nat} (h89 : k * 89 + 89 ≤ B.ps.length) : txF (ti1 B k) k = (true, ti2 B k) := by
  obtain ⟨a, b, c, d, e⟩ := ti1_cells h89
  unfold txF
  rw [if_pos (by unfold txSel; rw [a, b, d]; rfl)]
  rfl
theorem ti1_len (B : Br) (k : Nat) : (ti1 B k).ps.length = B.ps.length := by unfold ti1; rw [len_setp, ti0_len]
theorem ti2_len (B : Br) (k : Nat) : (ti2 B k).ps.length = B.ps.length := by
  unfold ti2 txClock
  split <;> simp only [len_setp, ti1_len]
theorem ti0_hd (B : Br) (k : Nat) : (ti0 B k).hd = B.hd := by unfold ti0; simp only [hd_setp]
theorem ti2_cells {B : Br} {k : Nat} (h89 : k * 89 + 89 ≤ B.ps.length) : (ti2 B k).gb k 44 = true ∧ (ti2 B k).gb k 50 = false ∧ (ti2 B k).gb k 31 = true ∧ (ti2 B k).gi k 87 = 4 ∧ (ti2 B k).gi k 8 = B.hi 4 ∧ (ti2 B k).gi k 14 = 0 := by
  obtain ⟨a, b, c, d, e⟩ := ti1_cells h89
  have hl : k * 89 + 89 ≤ (ti1 B k).ps.length := by rw [ti1_len]; exact h89
  have h4 : (ti1 B k).hi 4 = B.hi 4 := by unfold Br.hi ti1; rw [hd_setp, ti0_hd]
  unfold ti2 txClock
  rw [c, if_pos (by rfl), h4]
  refine ⟨?_, ?_, ?_, ?_, ?_, ?_⟩ <;> simp [gb_at, gi_at, gi_setp_ne, gb_setp_ne, len_setp, hl, a, b, c, e]
theorem ti_f2 {B : Br} {k : Nat} (h89 : k * 89 + 89 ≤ B.ps.length) (h4 : B.hi 4 ≠ 0) (h6 : 0 < B.hi 6) : txF (ti2 B k) k = (true, ti3 B k) := by
  obtain ⟨a, b, c, d, e, f⟩ := ti2_cells h89
  have h6' : (ti2 B k).hi 6 = B.hi 6 := by unfold Br.hi ti2; rw [txClock_hd]; unfold ti1; rw [hd_setp, ti0_hd]
  have hs : txSel (ti2 B k) k = 2 := by
    unfold txSel
    rw [a, b, c, d, e, f, h6', if_neg h4]
    have : txTells ((ti2 B k).gb k 45) 4 = true := by unfold txTells; split <;> simp
    rw [this]
    simp [h6]
  unfold txF
  rw [hs]
  rfl
theorem ti_f3 {B : Br} {k : Nat} (h89 : k * 89 + 89 ≤ B.ps.length) (h4 : B.hi 4 ≠ 0) : txF (ti3 B k) k = (false, ti3 B k) := by
  have hl : k * 89 + 89 ≤ (ti2 B k).ps.length := by rw [ti2_len]; exact h89
  have h4' : (ti2 B k).hi 4 = B.hi 4 := by unfold Br.hi ti2; rw [txClock_hd]; unfold ti1; rw [hd_setp, ti0_hd]
  exact txF_idle (by unfold ti3; rw [txNews_8 hl, h4']; exact h4) (by unfold ti3; rw [txNews_31 hl])
theorem ti_keeps {B : Br} (ho : B.ok) {k : Nat} (hk : k < B.np) (hk8 : k < 1000) : ((ti1 B k).ok ∧ (ti1 B k).np = B.np ∧ (ti1 B k).hd = B.hd ∧ (ti1 B k).no = B.no) ∧ ((ti2 B k).ok ∧ (ti2 B k).np = B.np ∧ (ti2 B k).hd = B.hd ∧ (ti2 B k).no = B.no) ∧ ((ti3 B k).ok ∧ (ti3 B k).np = B.np ∧ (ti3 B k).hd = B.hd ∧ (ti3 B k).no = B.no + 1) := by
  have h89 := len89 ho hk
  have o1 : (ti1 B k).ok := (ti0_ok ho hk).setI (k := k) hk 8 .i64 0 rfl (by decide)
  have n1 : (ti1 B k).np = B.np := rfl
  have d1 : (ti1 B k).hd = B.hd := by unfold ti1; rw [hd_setp, ti0_hd]
  have m1 : (ti1 B k).no = B.no := rfl
  have o2 : (ti2 B k).ok := txClock_ok o1 hk
  have n2 : (ti2 B k).np = B.np := (txClock_np _ _).trans n1
  have d2 : (ti2 B k).hd = B.hd := (txClock_hd _ _).trans d1
  have m2 : (ti2 B k).no = B.no := (txClock_no _ _).trans m1
  obtain ⟨-, -, -, -, -, f⟩ := ti2_cells h89
  exact ⟨⟨o1, n1, d1, m1⟩, ⟨o2, n2, d2, m2⟩, ⟨txNews_ok o2 (by rw [n2]; exact hk) hk8 (by rw [f]; decide), (txNews_np _ _).trans n2, (txNews_hd _ _).trans d2, by unfold ti3; rw [txNews_no, m2]⟩⟩

/-! ### What TxHold counts -/
/-- Behind s messages: as much as may be. -/
structure TH (B Z : Br) (k s : Nat) : Prop where
  ok : Z.ok
  np : Z.np = B.np
  hd : Z.hd = B.hd
  no : Z.no = B.no + s
  tc : Z.gi k 14 = B.gi k 14 + s
  le : (s : Int) ≤ max 0 (B.hi 6 - B.gi k 14)
theorem TH.start {B : Br} (ho : B.ok) (k : Nat) : TH B B k 0 := ⟨ho, rfl, rfl, rfl, by omega, by omega⟩
theorem TH.new {B Z : Br} {k s : Nat} (h : TH B Z k s) (hk : k < B.np) : TH B (Z.setp k 31 (.bool true)) k s :=
  ⟨h.ok.setB (k := k) (by rw [h.np]; exact hk) 31 true rfl, h.np, h.hd, h.no, (gi_setp_ne _ _ _ _ _ (by decide)).trans h.tc, h.le⟩
theorem TH.step {B Z : Br} {k s : Nat} (h : TH B Z k s) (hk : k < B.np) (hk8 : k < 1000) (h14 : 0 ≤ B.gi k 14 ∧ B.gi k 14 ≤ 1000) (hs : s ≤ 1000) : ∃ t, s ≤ t ∧ t ≤ s + 1 ∧ TH B (txF Z k).2 k t := by
  have hkz : k < Z.np := by rw [h.np]; exact hk
  have h89 := len89 h.ok hkz
  have htc := h.tc
  rcases txF_cases Z k with e | e | ⟨e, hl⟩
  · rw [e]
    exact ⟨s, Nat.le_refl _, by omega, h⟩
  · rw [e]
    exact ⟨s, Nat.le_refl _, by omega, txClock_ok h.ok hkz, (txClock_np _ _).trans h.np, (txClock_hd _ _).trans h.hd, (txClock_no _ _).trans h.no, (txClock_14 _ _).trans h.tc, h.le⟩
  · rw [e]
    have h6 : Z.hi 6 = B.hi 6 := by unfold Br.hi; rw [h.hd]
    rw [h6] at hl
    refine ⟨s + 1, by omega, Nat.le_refl _, txNews_ok h.ok hkz hk8 (by omega), (txNews_np _ _).trans h.np, (txNews_hd _ _).trans h.hd, ?_, ?_, ?_⟩
    · show (txNews Z k).no = B.no + (s + 1)
      rw [txNews_no, h.no]
      omega
    · show (txNews Z k).gi k 14 = _
      rw [txNews_14 h89, h.tc]
      push_cast
      omega
    · push_cast
      omega

end Go.Proofs.Ythlapkddgnpaeaa
