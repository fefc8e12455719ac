/- The machine that sends: what is sent. No statement is proved here. -/
import Derived.Test.YthlapkddgnpaeaaTxC
import Derived.ArgAppend
import Derived.Deep.RegionLawGrows
import Derived.Great.BuildSlice
namespace Go.Proofs.Ythlapkddgnpaeaa
open Go.RowKit Go.BigFrame Go.WideShapes Go.ChangeShapes Go.Deep
set_option linter.unusedVariables false
set_option linter.unusedSimpArgs false

theorem tx_clip (ao : Option Addr) (n cap : Nat) (hc : n ≤ cap) (hm : cap ≤ 9223372036854775807) (h0 : ao = none → n = 0 ∧ cap = 0) (w : World) : Calls Try.prog 32 #[.slice ao n cap] w fun e w' => e = .returned (.slice ao n n) ∧ w = w' := by
  cases ao with
  | none =>
    obtain ⟨rfl, rfl⟩ := h0 rfl
    go_enter Try.func32, Try.ntmps32
    go_wp2
    go_ret
    simp
  | some a =>
    clear h0
    go_enter Try.func32, Try.ntmps32
    go_wp2
    go_ret
    simp

theorem yieldsIf_rowS {P : Program} {ops : Array Oper} {S : World → Prop} {op : Oper} {a : Act} (hw : Region.wanted op (yielded ops a.tmps) = true) (ty : TypeId) (x : Operand) (ho : op.op = .load ty x)
    (X : Nat) (hx : a.eval x = .pointer (some ⟨X, 0, none⟩)) (C : Array Value) (t : TypeId) (d : TypeDesc) (hX : ∀ W', S W' → W'.heap[X]? = some (.cells C t (0, 0)))
    (hu : P.underlying ty = some d) (hd : (match d with | .struct _ | .array _ _ => true | _ => false) = true) (hi : (P.info? ty).map (·.size) = some C.size) : YieldsIf P ops S op (.agg C) a :=
  .inl ⟨hw, fun W' hW' => by
    have h := hX W' hW'
    unfold execOp
    simp only [ho, hx, Instr.loadAt, Instr.sureAddr, Sem.run_bind, Sem.run_pure, Result.andThen_ok, run_loadVar_row W' X t ty C (0, 0) d h hu hd hi]⟩
section
variable {P : Program} {ops : Array Oper} {Q : Exit → Act → World → Prop} {md : Region.Mode} {S : World → Prop}
/-- An operation that comes up and only yields, at this world. -/
theorem readyY {l rest : List Oper} {i : Nat} {oi : Oper} {v : Value} {fuel : Nat} {listed : Array Bool} {a : Act} {w : World} {rs : List Nat} (hi : l.drop i = oi :: rest)
    (hy : YieldsIf P l.toArray (fun W' => W' = w) oi v a) (hS : S w) (h : wpAnyH P md l.toArray Q S fuel (listed.setIfInBounds i true) (a.put oi.dst v) w)
    (hs : AllReadyH P md l.toArray Q S fuel listed a w rs) : AllReadyH P md l.toArray Q S fuel listed a w (i :: rs) := fun j hj => by
  rcases List.mem_cons.1 hj with rfl | hj
  · refine hy.wpOp ?_ rfl ⟨hS, h⟩
    have e : (l.drop j)[0]? = some oi := by rw [hi]; rfl
    rw [List.getElem?_drop, Nat.add_zero] at e
    simpa using e
  · exact hs j hj
theorem readyL {l rest : List Oper} {i : Nat} {oi : Oper} {fuel : Nat} {listed : Array Bool} {a : Act} {w : World} {rs : List Nat} (hi : l.drop i = oi :: rest) (hg : oi.guard = none)
    (h : ∀ K' : Act → World → Prop, Shut (∀ a w, S w → (S w → wpAnyH P md l.toArray Q S fuel (listed.setIfInBounds i true) a w) → K' a w) → Oper.wp P oi a w K' Q)
    (hs : AllReadyH P md l.toArray Q S fuel listed a w rs) : AllReadyH P md l.toArray Q S fuel listed a w (i :: rs) := by
  refine AllReadyH.cons (o := oi) ?_ (fun K hK => ?_) hs
  · have e : (l.drop i)[0]? = some oi := by rw [hi]; rfl
    rw [List.getElem?_drop, Nat.add_zero] at e
    simpa using e
  · rw [if_pos (by simp [Region.wanted, hg])]
    exact h K hK
end
/-- 'append' that grows, among operations in an open order. -/
theorem oper_append_grows {P : Program} {o : Oper} {a : Act} {w : World} {K : Act → World → Prop} {Q : Exit → Act → World → Prop}
    (hg : o.guard = none) (s x : Operand) (t : TypeId) (hop : o.op = Op.call { callee := Callee.builtin Builtin.append, args := #[s, x], argTypes := #[t, t] })
    (e : TypeId) (i : TypeInfo) (z : Value) (size bytes : Nat) (h1 : P.underlying t = some (.slice e)) (h2 : P.info? e = some i) (h3 : i.zero = some z) (h4 : i.size = size) (h5 : i.bytes = bytes) (h6 : z.cells.size = size) (h7 : 0 < size)
    (ao : Option Addr) (n cap : Nat) (olds : List Value) (hs : a.eval s = .slice ao n cap) (hnone : ao = none → n = 0 ∧ cap = 0) (hlo : olds.length = n * size) (holds : ∀ b, ao = some b → ∀ j u, olds[j]? = some u → w.cell? (b.add j) = some u)
    (ad : Addr) (m c : Nat) (news : List Value) (hx : a.eval x = .slice (some ad) m c) (hn : news.length = m * size) (hc : ∀ j u, news[j]? = some u → w.cell? (ad.add j) = some u) (h1c : ∀ u ∈ news, u.oneCell' = true)
    (hfull : cap < n + m) (b1 : n + m ≤ maxLen) (b2 : (n + m) * bytes ≤ 140737488355328)
    (hK : ∀ v' w', w'.ownsRow w.heap.size e size v' (n + m) (olds ++ news) → w.grownBy w' none → K (a.put o.dst v') w') : Oper.wp P o a w K Q := by
  have h := step_append_grows (E := True) (ops := #[]) (Q := Q) hg s x t hop e i z size bytes h1 h2 h3 h4 h5 h6 h7 ao n cap olds hs hnone hlo holds ad m c news hx hn hc h1c hfull b1 b2 hK
  rwa [if_pos (by simp [Region.wanted, hg])] at h

/-- A message that was sent: where, and what. -/
def sentL (k : Int) (m : Array Value) : List Value := .int .i64 k :: m.toList
def Br.sent (B : Br) (k : Nat) (kind : Int) : Br := { B with no := B.no + 1, os := B.os ++ sentL k (txMsg B k kind) }
theorem txMsg_form (B : Br) (k : Nat) (kind : Int) : ∃ (kd : Int) (ch ak pr ag ln fw : Bool) (ro a b c d e f g h i : Int), txMsg B k kind = msgA kd ch ak pr ag ln fw ro a b c d e f g h i := by
  unfold txMsg
  split
  · exact ⟨_, _, _, _, _, _, _, _, _, _, _, _, _, _, _, _, _, rfl⟩
  split
  · exact ⟨_, _, _, _, _, _, _, _, _, _, _, _, _, _, _, _, _, rfl⟩
  split
  · exact ⟨_, _, _, _, _, _, _, _, _, _, _, _, _, _, _, _, _, rfl⟩
  · exact ⟨0, false, false, false, false, false, false, 0, 0, 0, 0, 0, 0, 0, 0, 0, 0, rfl⟩
theorem sent_b0 (k kd : Int) (ch ak pr ag ln fw : Bool) (ro a b c d e f g h i : Int) : Try.prog.built 56 [(0, .int .i64 k), (1, .agg (msgA kd ch ak pr ag ln fw ro a b c d e f g h i))] = some (sentL k (msgA kd ch ak pr ag ln fw ro a b c d e f g h i)).toArray := by kernel_rfl
theorem sent_b1 (k kd : Int) (ch ak pr ag ln fw : Bool) (ro a b c d e f g h i : Int) : Instr.fill (fun i => some (i * 18, 18)) ((Array.range (1 * 18)).map (SZ[· % SZ.size]!)) [(0, .agg (sentL k (msgA kd ch ak pr ag ln fw ro a b c d e f g h i)).toArray)] = some (sentL k (msgA kd ch ak pr ag ln fw ro a b c d e f g h i)).toArray := by kernel_rfl
theorem sent_one (k : Int) (B : Br) (j : Nat) (kind : Int) : ∀ v ∈ sentL k (txMsg B j kind), v.oneCell' = true := fun v hv => by
  rcases List.mem_cons.1 hv with rfl | hv
  · rfl
  · have := txMsg_one B j kind
    rw [← Array.all_toList, List.all_eq_true] at this
    exact this v hv
theorem sent_len (k : Int) (B : Br) (j : Nat) (kind : Int) : (sentL k (txMsg B j kind)).length = 18 := by
  show (txMsg B j kind).toList.length + 1 = 18
  rw [Array.length_toList, txMsg_size]
theorem msgA_typed (kd : Int) (ch ak pr ag ln fw : Bool) (ro a b c d e f g h i : Int) (w_kd : (Lit.int .i64 kd).wf = true) (w_ro : (Lit.int .i64 ro).wf = true) (w_a : (Lit.int .u64 a).wf = true) (w_b : (Lit.int .u32 b).wf = true) (w_c : (Lit.int .u64 c).wf = true) (w_d : (Lit.int .u16 d).wf = true) (w_e : (Lit.int .u16 e).wf = true) (w_f : (Lit.int .i64 f).wf = true) (w_g : (Lit.int .i64 g).wf = true) (w_h : (Lit.int .i64 h).wf = true) (w_i : (Lit.int .i64 i).wf = true) : Typed ML (msgA kd ch ak pr ag ln fw ro a b c d e f g h i).toList := ⟨rfl, fun j q hj => match j, hj with
  | 0, hj => by cases hj; exact ⟨_, rfl, _, rfl, w_kd⟩
  | 1, hj => by cases hj; exact ⟨_, rfl, _, rfl⟩
  | 2, hj => by cases hj; exact ⟨_, rfl, _, rfl⟩
  | 3, hj => by cases hj; exact ⟨_, rfl, _, rfl⟩
  | 4, hj => by cases hj; exact ⟨_, rfl, _, rfl⟩
  | 5, hj => by cases hj; exact ⟨_, rfl, _, rfl⟩
  | 6, hj => by cases hj; exact ⟨_, rfl, _, rfl⟩
  | 7, hj => by cases hj; exact ⟨_, rfl, _, rfl, w_ro⟩
  | 8, hj => by cases hj; exact ⟨_, rfl, _, rfl, w_a⟩
  | 9, hj => by cases hj; exact ⟨_, rfl, _, rfl, w_b⟩
  | 10, hj => by cases hj; exact ⟨_, rfl, _, rfl, w_c⟩
  | 11, hj => by cases hj; exact ⟨_, rfl, _, rfl, w_d⟩
  | 12, hj => by cases hj; exact ⟨_, rfl, _, rfl, w_e⟩
  | 13, hj => by cases hj; exact ⟨_, rfl, _, rfl, w_f⟩
  | 14, hj => by cases hj; exact ⟨_, rfl, _, rfl, w_g⟩
  | 15, hj => by cases hj; exact ⟨_, rfl, _, rfl, w_h⟩
  | 16, hj => by cases hj; exact ⟨_, rfl, _, rfl, w_i⟩
  | j + 17, hj => by simp [ML] at hj⟩
theorem txMsg_typed {B : Br} (ho : B.ok) {k : Nat} (hk : k < B.np) (kind : Int) : Typed ML (txMsg B k kind).toList := by
  unfold txMsg
  split
  · exact msgA_typed _ _ _ _ _ _ _ _ _ _ _ _ _ _ _ _ _ (by decide) (by decide) (ho.gw hk 73 rfl) (ho.gw hk 74 rfl) (ho.gw hk 75 rfl) (ho.gw hk 76 rfl) (by decide) (ho.gw hk 82 rfl) (ho.gw hk 83 rfl) (ho.gw hk 84 rfl) (ho.gw hk 85 rfl)
  split
  · exact msgA_typed _ _ _ _ _ _ _ _ _ _ _ _ _ _ _ _ _ (by decide) (by decide) (by decide) (by decide) (by decide) (by decide) (by decide) (by decide) (by decide) (by decide) (by decide)
  split
  · exact msgA_typed _ _ _ _ _ _ _ _ _ _ _ _ _ _ _ _ _ (by decide) (ho.gw hk 87 rfl) (ho.gw hk 73 rfl) (ho.gw hk 74 rfl) (ho.gw hk 75 rfl) (ho.gw hk 76 rfl) (by decide) (ho.gw hk 82 rfl) (ho.gw hk 83 rfl) (ho.gw hk 84 rfl) (ho.gw hk 85 rfl)
  · exact msgA_typed 0 _ _ _ _ _ _ 0 0 0 0 0 0 0 0 0 0 (by decide) (by decide) (by decide) (by decide) (by decide) (by decide) (by decide) (by decide) (by decide) (by decide) (by decide)
theorem sent_typed {B : Br} (ho : B.ok) {k : Nat} (hk : k < B.np) (hk8 : k < 1000) (kind : Int) : Typed SL (sentL k (txMsg B k kind)) := by
  obtain ⟨h1, h2⟩ := txMsg_typed ho hk kind
  refine ⟨by show (txMsg B k kind).toList.length + 1 = ML.length + 1; rw [h1], fun j q hj => ?_⟩
  cases j with
  | zero =>
    cases hj
    refine ⟨_, rfl, _, rfl, ?_⟩
    simp [Lit.wf, IntKind.min, IntKind.max, IntKind.signed, IntKind.bits]
    omega
  | succ j => exact h2 j q hj
theorem rowTyped_snoc {l : List (Option IntKind)} {n : Nat} {xs ys : List Value} (h : RowTyped l n xs) (hy : Typed l ys) : RowTyped l (n + 1) (xs ++ ys) := by
  obtain ⟨h1, h2⟩ := h
  refine ⟨by rw [List.length_append, h1, hy.1, Nat.succ_mul], fun i hi => ?_⟩
  by_cases e : i < n
  · have hle : (i + 1) * l.length ≤ xs.length := by rw [h1]; exact Nat.mul_le_mul_right _ e
    rw [Nat.succ_mul] at hle
    rw [List.drop_append_of_le_length (by omega), List.take_append_of_le_length (by rw [List.length_drop]; omega)]
    exact h2 i e
  · obtain rfl : i = n := by omega
    rw [List.drop_append, ← h1, List.drop_length, Nat.sub_self, List.drop_zero, List.nil_append, List.take_of_length_le (by rw [hy.1]; exact Nat.le_refl _)]
    exact hy
theorem sent_ok {B : Br} (ho : B.ok) {k : Nat} (hk : k < B.np) (hk8 : k < 1000) (kind : Int) : (B.sent k kind).ok := ⟨ho.hd, ho.ps, rowTyped_snoc ho.os (sent_typed ho hk hk8 kind), ho.fl⟩
/-- The bridge's box with a longer row of messages. -/
theorem BrG.sended {w w2 : World} {F : Nat → Prop} {X g k : Nat} {kind : Int} {B : Br} (h : BrG w F X g B) (hd : B.hd.length = 17) (hs : w.heap.size ≤ w2.heap.size) (hb : ∀ n, n < w.heap.size → w2.heap[n]? = w.heap[n]?) {v' : Value} (hr : w2.ownsRow w.heap.size 56 18 v' (B.no + 1) (B.os ++ sentL k (txMsg B k kind))) :
    BrG (w2.setCell ⟨X, 18, none⟩ v') (fun n => F n ∨ (w.heap.size ≤ n ∧ n < w2.heap.size)) X g (B.sent k kind) := by
  obtain ⟨h1, h2, cap, cur, s2, s3, a, b, c, d, e, f, p, q, r, s⟩ := h
  have lX := heap_lt a
  have lg := heap_lt b
  have hXg : X ≠ g := by
    intro e0
    subst e0
    rw [a] at b
    cases b
  have aX := (hb X lX).trans a
  have bg := (hb g lg).trans b
  have own3 : (w2.setCell ⟨X, 18, none⟩ v').ownsRow 0 3 1 s3 B.nf B.fl := own_set (owns_keep q (fun q1 _ hq => hb q1 hq)) aX (by decide) v'
  have own2 : (w2.setCell ⟨X, 18, none⟩ v').ownsRow 0 56 18 v' (B.no + 1) (B.os ++ sentL k (txMsg B k kind)) := by
    obtain ⟨z1, z2⟩ := own_set hr aX (by decide) v'
    refine ⟨z1, ?_⟩
    rcases z2 with z2 | ⟨g3, c3, cu3, e1, e2, e3⟩
    · exact .inl z2
    · exact .inr ⟨g3, c3, cu3, e1, Nat.zero_le _, e3⟩
  refine ⟨.inl h1, .inl h2, cap, cur, v', s3, ?_, (heap_setCell_other _ _ _ _ (Ne.symm hXg)).trans bg, c, d, e, f, own2, own3, fun m hm => ?_, (fun m hm => .inl (s m hm))⟩
  · rw [heap_setCell_same _ _ _ _ _ _ aX]
    congr 2
    apply Array.ext'
    simp [Br.sent, List.set_append, hd]
  · have := hr.lt m hm
    exact .inr this
def txSend (B : Br) (k : Nat) (kind : Int) : Br := (if kind = 1 then (B.sent k kind).setp k 31 (.bool false) else ((B.sent k kind).setp k 31 (.bool false)).setp k 48 (.bool false)).setp k 14 (.int .i64 (B.gi k 14 + 1))

set_option maxRecDepth 100000 in
set_option maxHeartbeats 2000000 in
theorem tx_send (w : World) (F : Nat → Prop) (X g k : Nat) (B : Br) (kind : Int) (h : BrG w F X g B) (ho : B.ok) (hk : k < B.np) (hn : B.np < 1000) (h14 : 0 ≤ B.gi k 14 ∧ B.gi k 14 ≤ 100000) (hno : B.no ≤ 100000) : Calls Try.prog 28 #[.pointer (some ⟨X, 0, none⟩), .int .i64 k, .int .i64 kind] w fun e w' => e = .returned (.tuple #[]) ∧ BrG w' (fun n => F n ∨ (w.heap.size ≤ n ∧ n < w'.heap.size)) X g (txSend B k kind) ∧ Mut F w w' := by
  obtain ⟨hX, hg, hne⟩ := h.lt
  obtain ⟨cap, c17, hc1, hc2⟩ := h.cell17 ho
  have H := Lib.hid h
  have hF1 := h.F1
  have hF2 := h.F2
  obtain ⟨C, hC, hCb, hCz⟩ := h.br (by omega : 0 < B.np)
  obtain ⟨-, -, cap3, cur, s2, s3, aX, bg, -, -, -, -, q2, -, -, -⟩ := h
  have c18 : w.cell? ⟨X, 18, none⟩ = some s2 := by
    rw [cell_of_row _ _ _ _ _ _ aX]
    simp [ho.hd.1, HL]
  have hcells : ∃ ao cp, s2 = .slice ao B.no cp ∧ B.no ≤ cp ∧ cp ≤ 9223372036854775807 ∧ (ao = none → B.no = 0 ∧ cp = 0) ∧ (∀ b, ao = some b → b.block < w.heap.size ∧ ∀ j u, B.os[j]? = some u → w.cell? (b.add j) = some u) := by
    obtain ⟨hl, ⟨rfl, hz⟩ | ⟨g3, cp, cu, rfl, -, hg3, h1, h2, h3, h4⟩⟩ := q2
    · exact ⟨none, 0, by rw [hz], by omega, by omega, fun _ => ⟨hz, rfl⟩, fun b hb => by cases hb⟩
    · unfold maxLen at h2
      refine ⟨some ⟨g3, 0, none⟩, cp, rfl, h1, by omega, (fun hh => by cases hh), fun b hb => ?_⟩
      cases hb
      refine ⟨heap_lt hg3, fun j u hu => ?_⟩
      rw [Addr.add_lit, Nat.zero_add, cell_of_row _ _ _ _ _ _ hg3]
      rw [← h4, List.getElem?_take] at hu
      split at hu
      · simpa using hu
      · cases hu
  obtain ⟨ao, cp, rfl, hcp, hcm, h0, hcl⟩ := hcells
  obtain ⟨i2, hi2, hz2, hs2, hb2⟩ := info_of info_sent
  have hlen : B.os.length = B.no * 18 := ho.os.1
  have hk8 : k < 1000 := by omega
  have HCL := Lib.hid hcl
  have H0 := Lib.hid h0
  have HI := Lib.hid (And.intro hi2 (And.intro hz2 (And.intro hs2 hb2)))
  have HLEN := Lib.hid hlen
  have HHD := Lib.hid (show B.hd.length = 17 from ho.hd.1)
  have HAX := Lib.hid aX
  have HC := Lib.hid hC
  have HCb := Lib.hid hCb
  have HCi := Lib.hid (show (Try.prog.info? 33).map (·.size) = some C.size by rw [hCz, ho.hd.1]; exact size_br)
  have P14 := Lib.hid h14
  have HSO := Lib.hid (sent_ok ho hk hk8 kind)
  obtain ⟨m0, m1, m2, m3, m4, m5, m6, m7, m8, m9, m10, m11, m12, m13, m14, m15, m16, hm⟩ := txMsg_form B k kind
  have HM := Lib.hid hm
  have HB0 := Lib.hid (show Try.prog.built 56 [(0, .int .i64 (k : Int)), (1, .agg (txMsg B k kind))] = some (sentL k (txMsg B k kind)).toArray by rw [HM.out]; exact sent_b0 _ _ _ _ _ _ _ _ _ _ _ _ _ _ _ _ _ _)
  have HB1 := Lib.hid (show Instr.fill (fun i => some (i * 18, 18)) ((Array.range (1 * 18)).map (SZ[· % SZ.size]!)) [(0, .agg (sentL k (txMsg B k kind)).toArray)] = some (sentL k (txMsg B k kind)).toArray by rw [HM.out]; exact sent_b1 _ _ _ _ _ _ _ _ _ _ _ _ _ _ _ _ _ _)
  clear aX bg q2 hcl h0 hi2 hz2 hs2 hb2 hlen hC hCb hm
  go_enter Try.func28, Try.ntmps28
  go_wp2_with fail
  refine beginL (S := fun W' => Mut F w W') (by kernel_rfl) ?_
  intro wd hqx
  have hq0 : Mut F w wd := hqx.mut _
  have C18 := Lib.hid c18
  have C17 := Lib.hid c17
  clear c18 c17
  refine takeL (i := 0) (v := (.pointer (some ⟨X, 0, none⟩))) rfl (by kernel_rfl) (by kernel_rfl) (by kernel_rfl) (fun _ _ _ h => h) (Or.inl ⟨rfl, fun _ _ => rfl⟩) hq0 ?_
  simp only [Act.put, List.setIfInBounds_toArray, List.set_cons_zero, List.set_cons_succ]
  refine takeL (i := 1) (v := (.pointer (some ⟨X, 0, none⟩))) rfl (by kernel_rfl) (by kernel_rfl) (by kernel_rfl) (fun _ _ _ h => h) (Or.inl ⟨rfl, fun _ _ => rfl⟩) hq0 ?_
  simp only [Act.put, List.setIfInBounds_toArray, List.set_cons_zero, List.set_cons_succ]
  refine takeL (i := 2) (v := (.pointer (some ⟨X, 0, none⟩))) rfl (by kernel_rfl) (by kernel_rfl) (by kernel_rfl) (fun _ _ _ h => h) (Or.inl ⟨rfl, fun _ _ => rfl⟩) hq0 ?_
  simp only [Act.put, List.setIfInBounds_toArray, List.set_cons_zero, List.set_cons_succ]
  refine takeL (i := 3) (v := (.pointer (some ⟨X, 18, none⟩))) rfl (by kernel_rfl) (by kernel_rfl) (by kernel_rfl) (fun _ _ _ h => h) (Or.inl ⟨rfl, fun _ _ => rfl⟩) hq0 ?_
  simp only [Act.put, List.setIfInBounds_toArray, List.set_cons_zero, List.set_cons_succ]
  refine takeL (i := 6) (v := (.int .i64 (k : Int))) rfl (by kernel_rfl) (by kernel_rfl) (by kernel_rfl) (fun _ _ _ h => h) (Or.inl ⟨rfl, fun _ _ => rfl⟩) hq0 ?_
  simp only [Act.put, List.setIfInBounds_toArray, List.set_cons_zero, List.set_cons_succ]
  refine takeL (i := 7) (v := (.pointer (some ⟨X, 0, none⟩))) rfl (by kernel_rfl) (by kernel_rfl) (by kernel_rfl) (fun _ _ _ h => h) (Or.inl ⟨rfl, fun _ _ => rfl⟩) hq0 ?_
  simp only [Act.put, List.setIfInBounds_toArray, List.set_cons_zero, List.set_cons_succ]
  refine takeL (i := 8) (v := (.pointer (some ⟨X, 0, none⟩))) rfl (by kernel_rfl) (by kernel_rfl) (by kernel_rfl) (fun _ _ _ h => h) (Or.inl ⟨rfl, fun _ _ => rfl⟩) hq0 ?_
  simp only [Act.put, List.setIfInBounds_toArray, List.set_cons_zero, List.set_cons_succ]
  refine takeL (i := 10) (v := (.int .i64 (k : Int))) rfl (by kernel_rfl) (by kernel_rfl) (by kernel_rfl) (fun _ _ _ h => h) (Or.inl ⟨rfl, fun _ _ => rfl⟩) hq0 ?_
  simp only [Act.put, List.setIfInBounds_toArray, List.set_cons_zero, List.set_cons_succ]
  refine takeL (i := 11) (v := (.int .i64 kind)) rfl (by kernel_rfl) (by kernel_rfl) (by kernel_rfl) (fun _ _ _ h => h) (Or.inl ⟨rfl, fun _ _ => rfl⟩) hq0 ?_
  simp only [Act.put, List.setIfInBounds_toArray, List.set_cons_zero, List.set_cons_succ]
  refine wpAnyH_ready (by kernel_rfl) (by simp) (readyY (i := 4) (v := (.slice ao B.no cp)) rfl (yieldsIf_cell rfl 30 _ rfl ⟨X, 18, none⟩ rfl (.slice ao B.no cp) _ (fun W' hW' => by rw [hW']; exact (hqx.cell (p := ⟨X, 18, none⟩) hX).trans C18.out) Try.underlying30 rfl) hq0 ?g4x1 (readyY (i := 9) (v := .agg C) rfl (yieldsIf_rowS rfl 33 _ rfl X rfl C _ _ (fun W' hW' => by rw [hW']; exact (hqx.block X hX).trans HC.out) Try.underlying33 rfl HCi.out) hq0 ?g9x1 (AllReadyH.nil)))
  case g4x1 =>
    try simp only [Act.put, List.setIfInBounds_toArray, List.set_cons_zero, List.set_cons_succ]
    refine wpAnyH_ready (by kernel_rfl) (by simp) (readyL (i := 5) rfl rfl ?g5x2 (readyY (i := 9) (v := .agg C) rfl (yieldsIf_rowS rfl 33 _ rfl X rfl C _ _ (fun W' hW' => by rw [hW']; exact (hqx.block X hX).trans HC.out) Try.underlying33 rfl HCi.out) hq0 ?g9x2 (AllReadyH.nil)))
    case g5x2 =>
      intro K hK
      go_simp
      refine (tx_clip ao B.no cp hcp hcm H0.out _).mono ?_
      rintro e w9 ⟨rfl, rfl⟩
      refine hK.out _ _ hq0 (fun hHeld => ?_)
      try simp only [Act.put, List.setIfInBounds_toArray, List.set_cons_zero, List.set_cons_succ]
      clear hK K hHeld
      refine wpAnyH_ready (by kernel_rfl) (by simp) (readyY (i := 9) (v := .agg C) rfl (yieldsIf_rowS rfl 33 _ rfl X rfl C _ _ (fun W' hW' => by rw [hW']; exact (hqx.block X hX).trans HC.out) Try.underlying33 rfl HCi.out) hq0 ?g9x3 (AllReadyH.nil))
      case g9x3 =>
        try simp only [Act.put, List.setIfInBounds_toArray, List.set_cons_zero, List.set_cons_succ]
        refine runL (i := 12) rfl rfl (by kernel_rfl) (fun K hK => ?_)
        go_simp
        refine (tx_msg C B _ (HCb.out.ext hqx) ho k hk kind).mono ?_
        rintro e wm ⟨rfl, hxm0⟩
        have hxm := hqx.trans hxm0
        clear hxm0
        have hq1 : Mut F w wm := hxm.mut _
        refine hK.out _ _ hq1 (fun hHeld => ?_)
        try simp only [Act.put, List.setIfInBounds_toArray, List.set_cons_zero, List.set_cons_succ]
        clear hK K hHeld
        refine takeL (i := 13) (v := (.agg (sentL k (txMsg B k kind)).toArray)) rfl (by kernel_rfl) (by kernel_rfl) (by kernel_rfl) (fun _ _ _ h => h) (yieldsIf_build rfl 56 _ rfl [(0, .int .i64 (k : Int)), (1, .agg (txMsg B k kind))] rfl (sentL k (txMsg B k kind)).toArray HB0.out) hq1 ?_
        simp only [Act.put, List.setIfInBounds_toArray, List.set_cons_zero, List.set_cons_succ]
        refine runL (i := 14) rfl rfl (by kernel_rfl) (fun K hK => ?_)
        refine wp_buildSlice 30 56 1 _ rfl (sentL k (txMsg B k kind)).toArray i2 (.agg SZ) Try.underlying30 HI.out.1 HI.out.2.1 (by rw [HI.out.2.2.1]; decide) (by rw [HI.out.2.2.1]; decide) (by rw [HI.out.2.2.1, Array.toList_map]; exact HB1.out) ?_
        have hq2 := hq1.alloc (.cells (sentL k (txMsg B k kind)).toArray 56)
        refine hK.out _ _ hq2 (fun hHeld => ?_)
        try simp only [Act.put, List.setIfInBounds_toArray, List.set_cons_zero, List.set_cons_succ]
        clear hK K hHeld
        refine runL (i := 15) rfl rfl (by kernel_rfl) (fun K hK => ?_)
        refine oper_append_grows rfl _ _ 30 rfl 56 i2 (.agg SZ) 18 96 Try.underlying30 HI.out.1 HI.out.2.1 HI.out.2.2.1 HI.out.2.2.2 size_SZ (by decide) ao B.no B.no B.os rfl (fun hh => ⟨(H0.out hh).1, (H0.out hh).1⟩) HLEN.out ?oldst4 ⟨wm.heap.size, 0, none⟩ 1 1 (sentL k (txMsg B k kind)) rfl (by rw [sent_len]) ?newst4 (sent_one _ _ _ _) (by omega) (by unfold maxLen; omega) (by omega) ?fint4
        case oldst4 =>
          intro b hb j u hu
          obtain ⟨l1, l2⟩ := HCL.out b hb
          have := l2 j u hu
          have hbk : (b.add j).block = b.block := by unfold Addr.add; split <;> rfl
          rw [((hxm.alloc _).cell (p := b.add j) (by rw [hbk]; exact l1))]
          exact this
        case newst4 =>
          intro j u hu
          exact World.news_of_block (heap_alloc_new wm _) j u (by simpa using hu)
        case fint4 =>
          intro v' w2 hr hgb
          obtain ⟨av, cv, rfl⟩ := own_form hr
          have hwl := hxm.size
          have hsz : w.heap.size + 1 ≤ w2.heap.size := by
            have h1 := hgb.size
            rw [World.size_alloc] at h1
            omega
          have hbl : ∀ n, n < w.heap.size → w2.heap[n]? = w.heap[n]? := fun n hn' => (hgb.block n (by rw [World.size_alloc]; omega) (by simp)).trans ((heap_alloc_old _ _ (by omega)).trans (hxm.block n hn'))
          have hr0 : w2.ownsRow w.heap.size 56 18 (.slice av (B.no + 1) cv) (B.no + 1) (B.os ++ sentL k (txMsg B k kind)) := by
            obtain ⟨z1, z2⟩ := hr
            refine ⟨z1, ?_⟩
            rcases z2 with z2 | ⟨g3, c3, cu3, e1, e2, e3⟩
            · exact .inl z2
            · exact .inr ⟨g3, c3, cu3, e1, by rw [World.size_alloc] at e2; omega, e3⟩
          have HBf := Lib.hid (H.out.sended (k := k) (kind := kind) HHD.out (by omega) hbl hr0)
          have hq3 : Mut F w w2 := ⟨hgb.os.trans hxm.os, hgb.tape.trans hxm.tape, hgb.output.trans hxm.output, by omega, fun n hn' _ => hbl n hn'⟩
          have c18' : w2.cell? ⟨X, 18, none⟩ = some (.slice ao B.no cp) := (World.cell?_of_block (hbl X hX)).trans C18.out
          have f18' : w2.frozen? ⟨X, 18, none⟩ = false := frozen_of_row _ _ _ _ _ ((hbl X hX).trans HAX.out)
          refine hK.out _ _ hq3 (fun hHeld => ?_)
          try simp only [Act.put, List.setIfInBounds_toArray, List.set_cons_zero, List.set_cons_succ]
          clear hK K hHeld
          refine takeL (i := 16) (v := (.pointer (some ⟨X, 0, none⟩))) rfl (by kernel_rfl) (by kernel_rfl) (by kernel_rfl) (fun _ _ _ h => h) (Or.inl ⟨rfl, fun _ _ => rfl⟩) hq3 ?_
          simp only [Act.put, List.setIfInBounds_toArray, List.set_cons_zero, List.set_cons_succ]
          refine takeL (i := 17) (v := (.pointer (some ⟨X, 18, none⟩))) rfl (by kernel_rfl) (by kernel_rfl) (by kernel_rfl) (fun _ _ _ h => h) (Or.inl ⟨rfl, fun _ _ => rfl⟩) hq3 ?_
          simp only [Act.put, List.setIfInBounds_toArray, List.set_cons_zero, List.set_cons_succ]
          refine runL (i := 18) rfl rfl (by kernel_rfl) (fun K hK => ?_)
          go_simp
          have hq4 := hq3.setCell (p := ⟨X, 18, none⟩) (.inl hF1) (.slice av (B.no + 1) cv)
          refine hK.out _ _ hq4 (fun hHeld => ?_)
          try simp only [Act.put, List.setIfInBounds_toArray, List.set_cons_zero, List.set_cons_succ]
          clear hK K hHeld
          refine wpAnyH_done (by kernel_rfl) ?_ _
          have HQ4 := Lib.hid hq4
          clear hr hr0 hq0 hq1 hq2 hq3 hq4 hqx hxm hgb c18' f18' hwl
          have hsz2 : w2.heap.size = (w2.setCell ⟨X, 18, none⟩ (.slice av (B.no + 1) cv)).heap.size := by simp
          rw [hsz2] at HBf
          clear hsz2 hbl hsz
          generalize w2.setCell ⟨X, 18, none⟩ (.slice av (B.no + 1) cv) = w3 at *
          have hF3 := HBf.out.F2
          obtain ⟨hXl, hgl, hne3⟩ := HBf.out.lt
          have d31 := (HBf.out.cellg (i := k * 89 + 31) (lt89 hk (by decide))).trans (ho.gb hk 31 rfl)
          have d48 := (HBf.out.cellg (i := k * 89 + 48) (lt89 hk (by decide))).trans (ho.gb hk 48 rfl)
          have d14 := (HBf.out.cellg (i := k * 89 + 14) (lt89 hk (by decide))).trans (ho.gi hk 14 rfl)
          have hfr := HBf.out.frozen
          obtain ⟨cap4, c17, hca4, hcb4⟩ := HBf.out.cell17 HSO.out
          have hp14 := P14.out
          have c17 : w3.cell? ⟨X, 17, none⟩ = some (.slice (some ⟨g, 0, none⟩) B.np cap4) := c17
          by_cases k1 : kind = 1
          · have e1 : (kind != 1) = false := by simpa using k1
            have HB9 := Lib.hid ((HBf.out.setp (k := k) (j := 31) hk (by decide) (.bool false)).setp (k := k) (j := 14) hk (by decide) (.int .i64 (B.gi k 14 + 1)))
            have HM9 := Lib.hid ((HQ4.out.setCell (p := ⟨g, k * 89 + 31, none⟩) (.inl hF2) (.bool false)).setCell (p := ⟨g, k * 89 + 14, none⟩) (.inl hF2) (.int .i64 (B.gi k 14 + 1)))
            go_wp2_with fail
            go_end0
            unfold txSend
            rw [if_pos k1]
            exact ⟨rfl, HB9.out.mono (fun n hn => hn.imp id (fun h2 => ⟨h2.1, by simp only [World.size_setCell]; exact h2.2⟩)), HM9.out⟩
          · have e1 : (kind != 1) = true := by simpa using k1
            have HB9 := Lib.hid (((HBf.out.setp (k := k) (j := 31) hk (by decide) (.bool false)).setp (k := k) (j := 48) hk (by decide) (.bool false)).setp (k := k) (j := 14) hk (by decide) (.int .i64 (B.gi k 14 + 1)))
            have HM9 := Lib.hid (((HQ4.out.setCell (p := ⟨g, k * 89 + 31, none⟩) (.inl hF2) (.bool false)).setCell (p := ⟨g, k * 89 + 48, none⟩) (.inl hF2) (.bool false)).setCell (p := ⟨g, k * 89 + 14, none⟩) (.inl hF2) (.int .i64 (B.gi k 14 + 1)))
            go_wp2_with fail
            go_end0
            unfold txSend
            rw [if_neg k1]
            exact ⟨rfl, HB9.out.mono (fun n hn => hn.imp id (fun h2 => ⟨h2.1, by simp only [World.size_setCell]; exact h2.2⟩)), HM9.out⟩
    case g9x2 =>
      try simp only [Act.put, List.setIfInBounds_toArray, List.set_cons_zero, List.set_cons_succ]
      refine wpAnyH_ready (by kernel_rfl) (by simp) (readyL (i := 5) rfl rfl ?g5x5 (AllReadyH.nil))
      case g5x5 =>
        intro K hK
        go_simp
        refine (tx_clip ao B.no cp hcp hcm H0.out _).mono ?_
        rintro e w9 ⟨rfl, rfl⟩
        refine hK.out _ _ hq0 (fun hHeld => ?_)
        try simp only [Act.put, List.setIfInBounds_toArray, List.set_cons_zero, List.set_cons_succ]
        clear hK K hHeld
        refine runL (i := 12) rfl rfl (by kernel_rfl) (fun K hK => ?_)
        go_simp
        refine (tx_msg C B _ (HCb.out.ext hqx) ho k hk kind).mono ?_
        rintro e wm ⟨rfl, hxm0⟩
        have hxm := hqx.trans hxm0
        clear hxm0
        have hq1 : Mut F w wm := hxm.mut _
        refine hK.out _ _ hq1 (fun hHeld => ?_)
        try simp only [Act.put, List.setIfInBounds_toArray, List.set_cons_zero, List.set_cons_succ]
        clear hK K hHeld
        refine takeL (i := 13) (v := (.agg (sentL k (txMsg B k kind)).toArray)) rfl (by kernel_rfl) (by kernel_rfl) (by kernel_rfl) (fun _ _ _ h => h) (yieldsIf_build rfl 56 _ rfl [(0, .int .i64 (k : Int)), (1, .agg (txMsg B k kind))] rfl (sentL k (txMsg B k kind)).toArray HB0.out) hq1 ?_
        simp only [Act.put, List.setIfInBounds_toArray, List.set_cons_zero, List.set_cons_succ]
        refine runL (i := 14) rfl rfl (by kernel_rfl) (fun K hK => ?_)
        refine wp_buildSlice 30 56 1 _ rfl (sentL k (txMsg B k kind)).toArray i2 (.agg SZ) Try.underlying30 HI.out.1 HI.out.2.1 (by rw [HI.out.2.2.1]; decide) (by rw [HI.out.2.2.1]; decide) (by rw [HI.out.2.2.1, Array.toList_map]; exact HB1.out) ?_
        have hq2 := hq1.alloc (.cells (sentL k (txMsg B k kind)).toArray 56)
        refine hK.out _ _ hq2 (fun hHeld => ?_)
        try simp only [Act.put, List.setIfInBounds_toArray, List.set_cons_zero, List.set_cons_succ]
        clear hK K hHeld
        refine runL (i := 15) rfl rfl (by kernel_rfl) (fun K hK => ?_)
        refine oper_append_grows rfl _ _ 30 rfl 56 i2 (.agg SZ) 18 96 Try.underlying30 HI.out.1 HI.out.2.1 HI.out.2.2.1 HI.out.2.2.2 size_SZ (by decide) ao B.no B.no B.os rfl (fun hh => ⟨(H0.out hh).1, (H0.out hh).1⟩) HLEN.out ?oldst6 ⟨wm.heap.size, 0, none⟩ 1 1 (sentL k (txMsg B k kind)) rfl (by rw [sent_len]) ?newst6 (sent_one _ _ _ _) (by omega) (by unfold maxLen; omega) (by omega) ?fint6
        case oldst6 =>
          intro b hb j u hu
          obtain ⟨l1, l2⟩ := HCL.out b hb
          have := l2 j u hu
          have hbk : (b.add j).block = b.block := by unfold Addr.add; split <;> rfl
          rw [((hxm.alloc _).cell (p := b.add j) (by rw [hbk]; exact l1))]
          exact this
        case newst6 =>
          intro j u hu
          exact World.news_of_block (heap_alloc_new wm _) j u (by simpa using hu)
        case fint6 =>
          intro v' w2 hr hgb
          obtain ⟨av, cv, rfl⟩ := own_form hr
          have hwl := hxm.size
          have hsz : w.heap.size + 1 ≤ w2.heap.size := by
            have h1 := hgb.size
            rw [World.size_alloc] at h1
            omega
          have hbl : ∀ n, n < w.heap.size → w2.heap[n]? = w.heap[n]? := fun n hn' => (hgb.block n (by rw [World.size_alloc]; omega) (by simp)).trans ((heap_alloc_old _ _ (by omega)).trans (hxm.block n hn'))
          have hr0 : w2.ownsRow w.heap.size 56 18 (.slice av (B.no + 1) cv) (B.no + 1) (B.os ++ sentL k (txMsg B k kind)) := by
            obtain ⟨z1, z2⟩ := hr
            refine ⟨z1, ?_⟩
            rcases z2 with z2 | ⟨g3, c3, cu3, e1, e2, e3⟩
            · exact .inl z2
            · exact .inr ⟨g3, c3, cu3, e1, by rw [World.size_alloc] at e2; omega, e3⟩
          have HBf := Lib.hid (H.out.sended (k := k) (kind := kind) HHD.out (by omega) hbl hr0)
          have hq3 : Mut F w w2 := ⟨hgb.os.trans hxm.os, hgb.tape.trans hxm.tape, hgb.output.trans hxm.output, by omega, fun n hn' _ => hbl n hn'⟩
          have c18' : w2.cell? ⟨X, 18, none⟩ = some (.slice ao B.no cp) := (World.cell?_of_block (hbl X hX)).trans C18.out
          have f18' : w2.frozen? ⟨X, 18, none⟩ = false := frozen_of_row _ _ _ _ _ ((hbl X hX).trans HAX.out)
          refine hK.out _ _ hq3 (fun hHeld => ?_)
          try simp only [Act.put, List.setIfInBounds_toArray, List.set_cons_zero, List.set_cons_succ]
          clear hK K hHeld
          refine takeL (i := 16) (v := (.pointer (some ⟨X, 0, none⟩))) rfl (by kernel_rfl) (by kernel_rfl) (by kernel_rfl) (fun _ _ _ h => h) (Or.inl ⟨rfl, fun _ _ => rfl⟩) hq3 ?_
          simp only [Act.put, List.setIfInBounds_toArray, List.set_cons_zero, List.set_cons_succ]
          refine takeL (i := 17) (v := (.pointer (some ⟨X, 18, none⟩))) rfl (by kernel_rfl) (by kernel_rfl) (by kernel_rfl) (fun _ _ _ h => h) (Or.inl ⟨rfl, fun _ _ => rfl⟩) hq3 ?_
          simp only [Act.put, List.setIfInBounds_toArray, List.set_cons_zero, List.set_cons_succ]
          refine runL (i := 18) rfl rfl (by kernel_rfl) (fun K hK => ?_)
          go_simp
          have hq4 := hq3.setCell (p := ⟨X, 18, none⟩) (.inl hF1) (.slice av (B.no + 1) cv)
          refine hK.out _ _ hq4 (fun hHeld => ?_)
          try simp only [Act.put, List.setIfInBounds_toArray, List.set_cons_zero, List.set_cons_succ]
          clear hK K hHeld
          refine wpAnyH_done (by kernel_rfl) ?_ _
          have HQ4 := Lib.hid hq4
          clear hr hr0 hq0 hq1 hq2 hq3 hq4 hqx hxm hgb c18' f18' hwl
          have hsz2 : w2.heap.size = (w2.setCell ⟨X, 18, none⟩ (.slice av (B.no + 1) cv)).heap.size := by simp
          rw [hsz2] at HBf
          clear hsz2 hbl hsz
          generalize w2.setCell ⟨X, 18, none⟩ (.slice av (B.no + 1) cv) = w3 at *
          have hF3 := HBf.out.F2
          obtain ⟨hXl, hgl, hne3⟩ := HBf.out.lt
          have d31 := (HBf.out.cellg (i := k * 89 + 31) (lt89 hk (by decide))).trans (ho.gb hk 31 rfl)
          have d48 := (HBf.out.cellg (i := k * 89 + 48) (lt89 hk (by decide))).trans (ho.gb hk 48 rfl)
          have d14 := (HBf.out.cellg (i := k * 89 + 14) (lt89 hk (by decide))).trans (ho.gi hk 14 rfl)
          have hfr := HBf.out.frozen
          obtain ⟨cap4, c17, hca4, hcb4⟩ := HBf.out.cell17 HSO.out
          have hp14 := P14.out
          have c17 : w3.cell? ⟨X, 17, none⟩ = some (.slice (some ⟨g, 0, none⟩) B.np cap4) := c17
          by_cases k1 : kind = 1
          · have e1 : (kind != 1) = false := by simpa using k1
            have HB9 := Lib.hid ((HBf.out.setp (k := k) (j := 31) hk (by decide) (.bool false)).setp (k := k) (j := 14) hk (by decide) (.int .i64 (B.gi k 14 + 1)))
            have HM9 := Lib.hid ((HQ4.out.setCell (p := ⟨g, k * 89 + 31, none⟩) (.inl hF2) (.bool false)).setCell (p := ⟨g, k * 89 + 14, none⟩) (.inl hF2) (.int .i64 (B.gi k 14 + 1)))
            go_wp2_with fail
            go_end0
            unfold txSend
            rw [if_pos k1]
            exact ⟨rfl, HB9.out.mono (fun n hn => hn.imp id (fun h2 => ⟨h2.1, by simp only [World.size_setCell]; exact h2.2⟩)), HM9.out⟩
          · have e1 : (kind != 1) = true := by simpa using k1
            have HB9 := Lib.hid (((HBf.out.setp (k := k) (j := 31) hk (by decide) (.bool false)).setp (k := k) (j := 48) hk (by decide) (.bool false)).setp (k := k) (j := 14) hk (by decide) (.int .i64 (B.gi k 14 + 1)))
            have HM9 := Lib.hid (((HQ4.out.setCell (p := ⟨g, k * 89 + 31, none⟩) (.inl hF2) (.bool false)).setCell (p := ⟨g, k * 89 + 48, none⟩) (.inl hF2) (.bool false)).setCell (p := ⟨g, k * 89 + 14, none⟩) (.inl hF2) (.int .i64 (B.gi k 14 + 1)))
            go_wp2_with fail
            go_end0
            unfold txSend
            rw [if_neg k1]
            exact ⟨rfl, HB9.out.mono (fun n hn => hn.imp id (fun h2 => ⟨h2.1, by simp only [World.size_setCell]; exact h2.2⟩)), HM9.out⟩
  case g9x1 =>
    try simp only [Act.put, List.setIfInBounds_toArray, List.set_cons_zero, List.set_cons_succ]
    refine wpAnyH_ready (by kernel_rfl) (by simp) (readyY (i := 4) (v := (.slice ao B.no cp)) rfl (yieldsIf_cell rfl 30 _ rfl ⟨X, 18, none⟩ rfl (.slice ao B.no cp) _ (fun W' hW' => by rw [hW']; exact (hqx.cell (p := ⟨X, 18, none⟩) hX).trans C18.out) Try.underlying30 rfl) hq0 ?g4x7 (AllReadyH.nil))
    case g4x7 =>
      try simp only [Act.put, List.setIfInBounds_toArray, List.set_cons_zero, List.set_cons_succ]
      refine wpAnyH_ready (by kernel_rfl) (by simp) (readyL (i := 5) rfl rfl ?g5x8 (AllReadyH.nil))
      case g5x8 =>
        intro K hK
        go_simp
        refine (tx_clip ao B.no cp hcp hcm H0.out _).mono ?_
        rintro e w9 ⟨rfl, rfl⟩
        refine hK.out _ _ hq0 (fun hHeld => ?_)
        try simp only [Act.put, List.setIfInBounds_toArray, List.set_cons_zero, List.set_cons_succ]
        clear hK K hHeld
        refine runL (i := 12) rfl rfl (by kernel_rfl) (fun K hK => ?_)
        go_simp
        refine (tx_msg C B _ (HCb.out.ext hqx) ho k hk kind).mono ?_
        rintro e wm ⟨rfl, hxm0⟩
        have hxm := hqx.trans hxm0
        clear hxm0
        have hq1 : Mut F w wm := hxm.mut _
        refine hK.out _ _ hq1 (fun hHeld => ?_)
        try simp only [Act.put, List.setIfInBounds_toArray, List.set_cons_zero, List.set_cons_succ]
        clear hK K hHeld
        refine takeL (i := 13) (v := (.agg (sentL k (txMsg B k kind)).toArray)) rfl (by kernel_rfl) (by kernel_rfl) (by kernel_rfl) (fun _ _ _ h => h) (yieldsIf_build rfl 56 _ rfl [(0, .int .i64 (k : Int)), (1, .agg (txMsg B k kind))] rfl (sentL k (txMsg B k kind)).toArray HB0.out) hq1 ?_
        simp only [Act.put, List.setIfInBounds_toArray, List.set_cons_zero, List.set_cons_succ]
        refine runL (i := 14) rfl rfl (by kernel_rfl) (fun K hK => ?_)
        refine wp_buildSlice 30 56 1 _ rfl (sentL k (txMsg B k kind)).toArray i2 (.agg SZ) Try.underlying30 HI.out.1 HI.out.2.1 (by rw [HI.out.2.2.1]; decide) (by rw [HI.out.2.2.1]; decide) (by rw [HI.out.2.2.1, Array.toList_map]; exact HB1.out) ?_
        have hq2 := hq1.alloc (.cells (sentL k (txMsg B k kind)).toArray 56)
        refine hK.out _ _ hq2 (fun hHeld => ?_)
        try simp only [Act.put, List.setIfInBounds_toArray, List.set_cons_zero, List.set_cons_succ]
        clear hK K hHeld
        refine runL (i := 15) rfl rfl (by kernel_rfl) (fun K hK => ?_)
        refine oper_append_grows rfl _ _ 30 rfl 56 i2 (.agg SZ) 18 96 Try.underlying30 HI.out.1 HI.out.2.1 HI.out.2.2.1 HI.out.2.2.2 size_SZ (by decide) ao B.no B.no B.os rfl (fun hh => ⟨(H0.out hh).1, (H0.out hh).1⟩) HLEN.out ?oldst9 ⟨wm.heap.size, 0, none⟩ 1 1 (sentL k (txMsg B k kind)) rfl (by rw [sent_len]) ?newst9 (sent_one _ _ _ _) (by omega) (by unfold maxLen; omega) (by omega) ?fint9
        case oldst9 =>
          intro b hb j u hu
          obtain ⟨l1, l2⟩ := HCL.out b hb
          have := l2 j u hu
          have hbk : (b.add j).block = b.block := by unfold Addr.add; split <;> rfl
          rw [((hxm.alloc _).cell (p := b.add j) (by rw [hbk]; exact l1))]
          exact this
        case newst9 =>
          intro j u hu
          exact World.news_of_block (heap_alloc_new wm _) j u (by simpa using hu)
        case fint9 =>
          intro v' w2 hr hgb
          obtain ⟨av, cv, rfl⟩ := own_form hr
          have hwl := hxm.size
          have hsz : w.heap.size + 1 ≤ w2.heap.size := by
            have h1 := hgb.size
            rw [World.size_alloc] at h1
            omega
          have hbl : ∀ n, n < w.heap.size → w2.heap[n]? = w.heap[n]? := fun n hn' => (hgb.block n (by rw [World.size_alloc]; omega) (by simp)).trans ((heap_alloc_old _ _ (by omega)).trans (hxm.block n hn'))
          have hr0 : w2.ownsRow w.heap.size 56 18 (.slice av (B.no + 1) cv) (B.no + 1) (B.os ++ sentL k (txMsg B k kind)) := by
            obtain ⟨z1, z2⟩ := hr
            refine ⟨z1, ?_⟩
            rcases z2 with z2 | ⟨g3, c3, cu3, e1, e2, e3⟩
            · exact .inl z2
            · exact .inr ⟨g3, c3, cu3, e1, by rw [World.size_alloc] at e2; omega, e3⟩
          have HBf := Lib.hid (H.out.sended (k := k) (kind := kind) HHD.out (by omega) hbl hr0)
          have hq3 : Mut F w w2 := ⟨hgb.os.trans hxm.os, hgb.tape.trans hxm.tape, hgb.output.trans hxm.output, by omega, fun n hn' _ => hbl n hn'⟩
          have c18' : w2.cell? ⟨X, 18, none⟩ = some (.slice ao B.no cp) := (World.cell?_of_block (hbl X hX)).trans C18.out
          have f18' : w2.frozen? ⟨X, 18, none⟩ = false := frozen_of_row _ _ _ _ _ ((hbl X hX).trans HAX.out)
          refine hK.out _ _ hq3 (fun hHeld => ?_)
          try simp only [Act.put, List.setIfInBounds_toArray, List.set_cons_zero, List.set_cons_succ]
          clear hK K hHeld
          refine takeL (i := 16) (v := (.pointer (some ⟨X, 0, none⟩))) rfl (by kernel_rfl) (by kernel_rfl) (by kernel_rfl) (fun _ _ _ h => h) (Or.inl ⟨rfl, fun _ _ => rfl⟩) hq3 ?_
          simp only [Act.put, List.setIfInBounds_toArray, List.set_cons_zero, List.set_cons_succ]
          refine takeL (i := 17) (v := (.pointer (some ⟨X, 18, none⟩))) rfl (by kernel_rfl) (by kernel_rfl) (by kernel_rfl) (fun _ _ _ h => h) (Or.inl ⟨rfl, fun _ _ => rfl⟩) hq3 ?_
          simp only [Act.put, List.setIfInBounds_toArray, List.set_cons_zero, List.set_cons_succ]
          refine runL (i := 18) rfl rfl (by kernel_rfl) (fun K hK => ?_)
          go_simp
          have hq4 := hq3.setCell (p := ⟨X, 18, none⟩) (.inl hF1) (.slice av (B.no + 1) cv)
          refine hK.out _ _ hq4 (fun hHeld => ?_)
          try simp only [Act.put, List.setIfInBounds_toArray, List.set_cons_zero, List.set_cons_succ]
          clear hK K hHeld
          refine wpAnyH_done (by kernel_rfl) ?_ _
          have HQ4 := Lib.hid hq4
          clear hr hr0 hq0 hq1 hq2 hq3 hq4 hqx hxm hgb c18' f18' hwl
          have hsz2 : w2.heap.size = (w2.setCell ⟨X, 18, none⟩ (.slice av (B.no + 1) cv)).heap.size := by simp
          rw [hsz2] at HBf
          clear hsz2 hbl hsz
          generalize w2.setCell ⟨X, 18, none⟩ (.slice av (B.no + 1) cv) = w3 at *
          have hF3 := HBf.out.F2
          obtain ⟨hXl, hgl, hne3⟩ := HBf.out.lt
          have d31 := (HBf.out.cellg (i := k * 89 + 31) (lt89 hk (by decide))).trans (ho.gb hk 31 rfl)
          have d48 := (HBf.out.cellg (i := k * 89 + 48) (lt89 hk (by decide))).trans (ho.gb hk 48 rfl)
          have d14 := (HBf.out.cellg (i := k * 89 + 14) (lt89 hk (by decide))).trans (ho.gi hk 14 rfl)
          have hfr := HBf.out.frozen
          obtain ⟨cap4, c17, hca4, hcb4⟩ := HBf.out.cell17 HSO.out
          have hp14 := P14.out
          have c17 : w3.cell? ⟨X, 17, none⟩ = some (.slice (some ⟨g, 0, none⟩) B.np cap4) := c17
          by_cases k1 : kind = 1
          · have e1 : (kind != 1) = false := by simpa using k1
            have HB9 := Lib.hid ((HBf.out.setp (k := k) (j := 31) hk (by decide) (.bool false)).setp (k := k) (j := 14) hk (by decide) (.int .i64 (B.gi k 14 + 1)))
            have HM9 := Lib.hid ((HQ4.out.setCell (p := ⟨g, k * 89 + 31, none⟩) (.inl hF2) (.bool false)).setCell (p := ⟨g, k * 89 + 14, none⟩) (.inl hF2) (.int .i64 (B.gi k 14 + 1)))
            go_wp2_with fail
            go_end0
            unfold txSend
            rw [if_pos k1]
            exact ⟨rfl, HB9.out.mono (fun n hn => hn.imp id (fun h2 => ⟨h2.1, by simp only [World.size_setCell]; exact h2.2⟩)), HM9.out⟩
          · have e1 : (kind != 1) = true := by simpa using k1
            have HB9 := Lib.hid (((HBf.out.setp (k := k) (j := 31) hk (by decide) (.bool false)).setp (k := k) (j := 48) hk (by decide) (.bool false)).setp (k := k) (j := 14) hk (by decide) (.int .i64 (B.gi k 14 + 1)))
            have HM9 := Lib.hid (((HQ4.out.setCell (p := ⟨g, k * 89 + 31, none⟩) (.inl hF2) (.bool false)).setCell (p := ⟨g, k * 89 + 48, none⟩) (.inl hF2) (.bool false)).setCell (p := ⟨g, k * 89 + 14, none⟩) (.inl hF2) (.int .i64 (B.gi k 14 + 1)))
            go_wp2_with fail
            go_end0
            unfold txSend
            rw [if_neg k1]
            exact ⟨rfl, HB9.out.mono (fun n hn => hn.imp id (fun h2 => ⟨h2.1, by simp only [World.size_setCell]; exact h2.2⟩)), HM9.out⟩

end Go.Proofs.Ythlapkddgnpaeaa
