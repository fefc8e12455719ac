/- Messages held against each other; the chapter's example of bpdu. No statement is proved here. -/
import Derived.Test.YtdfaagchlnkpnaaBpF
import Derived.Test.YtdfaagchlnkpnaaHeld
namespace Go.Proofs.Ytdfaagchlnkpnaa
open Go.RowKit Go.BigFrame Go.WideShapes Go.ChangeShapes Go.Deep
set_option linter.unusedVariables false
set_option linter.unusedSimpArgs false

theorem wfi64 {n : Int} (h : -9223372036854775808 ≤ n ∧ n ≤ 9223372036854775807) : (Lit.int .i64 n).wf = true := by simp [Lit.wf, IntKind.min, IntKind.max, IntKind.signed, IntKind.bits]; omega
theorem wfu64 {n : Int} (h : 0 ≤ n ∧ n < 18446744073709551616) : (Lit.int .u64 n).wf = true := by simp [Lit.wf, IntKind.min, IntKind.max, IntKind.signed, IntKind.bits]; omega
theorem wfu32 {n : Int} (h : 0 ≤ n ∧ n < 4294967296) : (Lit.int .u32 n).wf = true := by simp [Lit.wf, IntKind.min, IntKind.max, IntKind.signed, IntKind.bits]; omega
theorem wfu16 {n : Int} (h : 0 ≤ n ∧ n < 65536) : (Lit.int .u16 n).wf = true := by simp [Lit.wf, IntKind.min, IntKind.max, IntKind.signed, IntKind.bits]; omega
def Mg.list (q : Mg) : List Value := [.int .i64 q.kd, .bool q.ch, .bool q.ak, .bool q.pr, .bool q.ag, .bool q.ln, .bool q.fw, .int .i64 q.ro, .int .u64 q.r, .int .u32 q.c, .int .u64 q.b, .int .u16 q.p, .int .u16 q.x, .int .i64 q.a, .int .i64 q.m, .int .i64 q.h, .int .i64 q.d]
theorem Mg.ok.typed {q : Mg} (h : q.ok) : Typed ML q.list := ⟨rfl, fun j k hj => by
  match j, hj with
  | 0, hj => cases hj; exact ⟨_, rfl, _, rfl, wfi64 h.kd⟩
  | 1, hj => cases hj; exact ⟨_, rfl, _, rfl⟩
  | 2, hj => cases hj; exact ⟨_, rfl, _, rfl⟩
  | 3, hj => cases hj; exact ⟨_, rfl, _, rfl⟩
  | 4, hj => cases hj; exact ⟨_, rfl, _, rfl⟩
  | 5, hj => cases hj; exact ⟨_, rfl, _, rfl⟩
  | 6, hj => cases hj; exact ⟨_, rfl, _, rfl⟩
  | 7, hj => cases hj; exact ⟨_, rfl, _, rfl, wfi64 h.ro⟩
  | 8, hj => cases hj; exact ⟨_, rfl, _, rfl, wfu64 h.r⟩
  | 9, hj => cases hj; exact ⟨_, rfl, _, rfl, wfu32 h.c⟩
  | 10, hj => cases hj; exact ⟨_, rfl, _, rfl, wfu64 h.b⟩
  | 11, hj => cases hj; exact ⟨_, rfl, _, rfl, wfu16 h.p⟩
  | 12, hj => cases hj; exact ⟨_, rfl, _, rfl, wfu16 h.x⟩
  | 13, hj => cases hj; exact ⟨_, rfl, _, rfl, wfi64 h.a⟩
  | 14, hj => cases hj; exact ⟨_, rfl, _, rfl, wfi64 h.m⟩
  | 15, hj => cases hj; exact ⟨_, rfl, _, rfl, wfi64 h.h⟩
  | 16, hj => cases hj; exact ⟨_, rfl, _, rfl, wfi64 h.d⟩
  | j + 17, hj => simp [ML] at hj⟩
theorem guard_msg : Try.prog.eqGuardType Try.prog.depth 30 = false := by kernel_rfl
theorem eq_msg (q : Mg) (hq : q.ok) (w : World) : (binOp .eql 30 (.agg #[.int .i64 q.kd, .bool q.ch, .bool q.ak, .bool q.pr, .bool q.ag, .bool q.ln, .bool q.fw, .int .i64 q.ro, .int .u64 q.r, .int .u32 q.c, .int .u64 q.b, .int .u16 q.p, .int .u16 q.x, .int .i64 q.a, .int .i64 q.m, .int .i64 q.h, .int .i64 q.d]) (.agg #[.int .i64 q.kd, .bool q.ch, .bool q.ak, .bool q.pr, .bool q.ag, .bool q.ln, .bool q.fw, .int .i64 q.ro, .int .u64 q.r, .int .u32 q.c, .int .u64 q.b, .int .u16 q.p, .int .u16 q.x, .int .i64 q.a, .int .i64 q.m, .int .i64 q.h, .int .i64 q.d])).run Try.prog w = .ok (.bool true) w := by
  have h := eql_flat (P := Try.prog) (d := 6) w Try.underlying30 (by decide) lay_msg hq.typed
  have h2 : (Op.equalIn 10000 30 (.agg #[.int .i64 q.kd, .bool q.ch, .bool q.ak, .bool q.pr, .bool q.ag, .bool q.ln, .bool q.fw, .int .i64 q.ro, .int .u64 q.r, .int .u32 q.c, .int .u64 q.b, .int .u16 q.p, .int .u16 q.x, .int .i64 q.a, .int .i64 q.m, .int .i64 q.h, .int .i64 q.d]) (.agg #[.int .i64 q.kd, .bool q.ch, .bool q.ak, .bool q.pr, .bool q.ag, .bool q.ln, .bool q.fw, .int .i64 q.ro, .int .u64 q.r, .int .u32 q.c, .int .u64 q.b, .int .u16 q.p, .int .u16 q.x, .int .i64 q.a, .int .i64 q.m, .int .i64 q.h, .int .i64 q.d])).run Try.prog w = .ok true w := h
  rw [run_eql_struct, h2]
  rfl
theorem yieldsIf_conv {P : Program} {ops : Array Oper} {S : World → Prop} {op : Oper} {a : Act} (hw : Region.wanted op (yielded ops a.tmps) = true) (t1 t2 : TypeId) (x : Operand) (ho : op.op = .convert t1 t2 x)
    (v u : Value) (hx : a.eval x = v) (hS : ∀ w, S w → (convert t1 t2 v).run P w = .ok u w) : YieldsIf P ops S op u a :=
  .inl ⟨hw, fun w hw' => by
    unfold execOp
    simp only [ho, hx, Sem.run_bind, hS w hw', Result.andThen_ok]
    rfl⟩
theorem plain_ok (q : Mg) (hq : q.ok) : (plainM q).ok := by
  have hz : Mg.zero.ok := by constructor <;> decide
  have ht : Mg.tcn.ok := by constructor <;> decide
  have h1 := told_rg q.a
  have h2 := told_rg q.m
  have h3 := told_rg q.h
  have h4 := told_rg q.d
  unfold plainM
  split
  · exact ht
  · split
    · rename_i hk
      have hb : ∀ n, 0 ≤ roB n ∧ roB n ≤ 4 := fun n => by unfold roB; split <;> (try split) <;> (try split) <;> omega
      have hr : -9223372036854775808 ≤ (flagged q.kd (flagsN q)).ro ∧ (flagged q.kd (flagsN q)).ro ≤ 9223372036854775807 := by
        unfold flagged
        split
        · have := hb (bits .and .u64 (flagsN q / 4) 3)
          exact ⟨by show _ ≤ roB _; omega, by show roB _ ≤ _; omega⟩
        · exact ⟨by show (-9223372036854775808 : Int) ≤ 4; decide, by show (4 : Int) ≤ 9223372036854775807; decide⟩
      have hkd : (flagged q.kd (flagsN q)).kd = q.kd := by unfold flagged; split <;> rfl
      exact ⟨by show _ ≤ (flagged q.kd (flagsN q)).kd ∧ (flagged q.kd (flagsN q)).kd ≤ _; rw [hkd]; exact hq.kd, hr, hq.r, hq.c, hq.b, hq.p, (by show (0 : Int) ≤ 0 ∧ (0 : Int) < 65536; decide), ⟨by show _ ≤ told q.a; omega, by show told q.a ≤ _; omega⟩, ⟨by show _ ≤ told q.m; omega, by show told q.m ≤ _; omega⟩, ⟨by show _ ≤ told q.h; omega, by show told q.h ≤ _; omega⟩, ⟨by show _ ≤ told q.d; omega, by show told q.d ≤ _; omega⟩⟩
    · exact hz
def q0 : Mg := ⟨2, false, false, true, false, false, false, 4, 3, 4, 5, 6, 0, 1, 20, 2, 15⟩
theorem q0_ok : q0.ok := by constructor <;> decide
theorem tcn_ok : Mg.tcn.ok := by constructor <;> decide
theorem plain_q0 : plainM q0 = q0 := by decide +kernel
theorem enc_bytes (q : Mg) : ∀ x ∈ encL q, 0 ≤ x ∧ x < 256 := by
  have hh : ∀ x ∈ headL q.kd, 0 ≤ x ∧ x < 256 := by
    intro x hx
    unfold headL at hx
    repeat' split at hx
    all_goals simp at hx
    all_goals omega
  have hs : ∀ n, ∀ x ∈ e6 q n, 0 ≤ x ∧ x < 256 := by
    intro n
    induction n with
    | zero =>
      intro x hx
      simp only [e6, e5, e4, e3, e2, e1, List.mem_append] at hx
      rcases hx with ((((h | h) | h) | h) | h) | h
      · exact hh x h
      all_goals exact bts_rg _ _ x h
    | succ n ih =>
      intro x hx
      rcases List.mem_append.1 hx with h | h
      · exact ih x h
      · exact bts_rg _ _ x h
  intro x hx
  unfold encL at hx
  split at hx
  · exact hs 4 x hx
  · split at hx
    · rcases List.mem_append.1 hx with h | h
      · exact hs 4 x h
      · simp at h; omega
    · exact hh x hx
theorem encL_le (q : Mg) : (encL q).length ≤ 36 := by
  rw [encL_len]
  repeat' split
  all_goals omega
/-- The calls of the example. -/
theorem ex_enc (w : World) : Calls Try.prog 17 #[.agg #[.int .i64 2, .bool false, .bool false, .bool true, .bool false, .bool false, .bool false, .int .i64 4, .int .u64 3, .int .u32 4, .int .u64 5, .int .u16 6, .int .u16 0, .int .i64 1, .int .i64 20, .int .i64 2, .int .i64 15]] w (Owned w (encL q0)) := enc_any q0 q0_ok w
theorem ex_tcn (w : World) : Calls Try.prog 17 #[.agg #[.int .i64 1, .bool false, .bool false, .bool false, .bool false, .bool false, .bool false, .int .i64 0, .int .u64 0, .int .u32 0, .int .u64 0, .int .u16 0, .int .u16 0, .int .i64 0, .int .i64 0, .int .i64 0, .int .i64 0]] w (Owned w [0, 0, 0, 128]) := enc_any Mg.tcn tcn_ok w
theorem ex_dec (v : Value) (w : World) (h : IsInts w .u8 v (encL q0)) : Calls Try.prog 21 #[v] w fun e w' => e = .returned (.tuple #[.agg #[.int .i64 2, .bool false, .bool false, .bool true, .bool false, .bool false, .bool false, .int .i64 4, .int .u64 3, .int .u32 4, .int .u64 5, .int .u16 6, .int .u16 0, .int .i64 1, .int .i64 20, .int .i64 2, .int .i64 15], .int .i64 0]) ∧ Ext w w' := by
  have hd : decF (encL q0) = (q0, 0) := by
    have := dec_enc q0 q0_ok (.inr (.inr rfl)) []
    rw [List.append_nil, plain_q0] at this
    rw [this, if_neg (by intro h; exact absurd h.1 (by decide))]
  have := dec_any v (encL q0) w h (enc_bytes q0) (by have := encL_le q0; omega)
  rw [hd] at this
  exact this
theorem ex_plain (w : World) : Calls Try.prog 19 #[.agg #[.int .i64 2, .bool false, .bool false, .bool true, .bool false, .bool false, .bool false, .int .i64 4, .int .u64 3, .int .u32 4, .int .u64 5, .int .u16 6, .int .u16 0, .int .i64 1, .int .i64 20, .int .i64 2, .int .i64 15]] w fun e w' => e = .returned (.agg #[.int .i64 2, .bool false, .bool false, .bool true, .bool false, .bool false, .bool false, .int .i64 4, .int .u64 3, .int .u32 4, .int .u64 5, .int .u16 6, .int .u16 0, .int .i64 1, .int .i64 20, .int .i64 2, .int .i64 15]) ∧ Ext w w' := by
  have := plain_any q0 q0_ok w
  rw [plain_q0] at this
  exact this
theorem ex_eq (w : World) : (binOp .eql 30 (.agg #[.int .i64 2, .bool false, .bool false, .bool true, .bool false, .bool false, .bool false, .int .i64 4, .int .u64 3, .int .u32 4, .int .u64 5, .int .u16 6, .int .u16 0, .int .i64 1, .int .i64 20, .int .i64 2, .int .i64 15]) (.agg #[.int .i64 2, .bool false, .bool false, .bool true, .bool false, .bool false, .bool false, .int .i64 4, .int .u64 3, .int .u32 4, .int .u64 5, .int .u16 6, .int .u16 0, .int .i64 1, .int .i64 20, .int .i64 2, .int .i64 15])).run Try.prog w = .ok (.bool true) w := eq_msg q0 q0_ok w
theorem str_tcn : strOfNums [0, 0, 0, 128] = { data := #[0, 0, 0, 128] } := by rfl
theorem vec_b (a b c d : Int) : Try.prog.built 26 [(0, .int .u64 a), (1, .int .u32 b), (2, .int .u64 c), (3, .int .u16 d)] = some #[.int .u64 a, .int .u32 b, .int .u64 c, .int .u16 d, .int .u16 0] := by kernel_rfl
theorem tcn_b : Try.prog.built 30 [(0, .int .i64 1)] = some #[.int .i64 1, .bool false, .bool false, .bool false, .bool false, .bool false, .bool false, .int .i64 0, .int .u64 0, .int .u32 0, .int .u64 0, .int .u16 0, .int .u16 0, .int .i64 0, .int .i64 0, .int .i64 0, .int .i64 0] := by kernel_rfl
set_option maxRecDepth 100000 in
set_option maxHeartbeats 2000000 in
theorem awake5 (w : World) : Calls Try.prog 15 #[] w fun e w' => e = .returned (.bool true) ∧ Ext w w' := by
  have hz := zero_msg
  have heq := ex_eq
  go_enter Try.func15, Try.ntmps15
  go_wp2_with (first
    | fail
    | ((with_reducible refine at_alloc 30 ?_); refine al_zero rfl 30 rfl MZ zero_msg ?_
       intro M0 z1 hq hs hx
       have E_z1 : Ext w z1 := hx
       have hM_z1 : z1.heap[M0]? = some (.cells #[.int .i64 0, .bool false, .bool false, .bool false, .bool false, .bool false, .bool false, .int .i64 0, .int .u64 0, .int .u32 0, .int .u64 0, .int .u16 0, .int .u16 0, .int .i64 0, .int .i64 0, .int .i64 0, .int .i64 0] 30 (0, 0)) := hq
       have hb_M0 : w.heap.size ≤ M0 := by omega
       clear hq hs hx)
    | ((with_reducible refine at_store 30 ?_); refine st_at rfl rfl 30 _ _ rfl M0 0 _ #[.int .i64 2, .bool false, .bool false, .bool true, .bool false, .bool false, .bool false, .int .i64 4, .int .u64 3, .int .u32 4, .int .u64 5, .int .u16 6, .int .u16 0, .int .i64 1, .int .i64 20, .int .i64 2, .int .i64 15] _ #[.int .i64 2, .bool false, .bool false, .bool true, .bool false, .bool false, .bool false, .int .i64 4, .int .u64 3, .int .u32 4, .int .u64 5, .int .u16 6, .int .u16 0, .int .i64 1, .int .i64 20, .int .i64 2, .int .i64 15] _ rfl rfl rfl hM_z1 (by exact (by decide : 0 + 17 ≤ 17)) (by kernel_rfl) rfl rfl ?_
       intro z2 hq hm
       have hM_z2 : z2.heap[M0]? = some (.cells #[.int .i64 2, .bool false, .bool false, .bool true, .bool false, .bool false, .bool false, .int .i64 4, .int .u64 3, .int .u32 4, .int .u64 5, .int .u16 6, .int .u16 0, .int .i64 1, .int .i64 20, .int .i64 2, .int .i64 15] 30 (0, 0)) := hq
       have E_z2 : Ext w z2 := Ext.mutE E_z1 hm (fun n hn h => by have h2 : n = M0 := h; omega)
       clear hM_z1 E_z1
       clear hq hm)
    | ((with_reducible refine at_load 30 ?_); refine wpList_load_row rfl 30 _ rfl M0 rfl 30 #[.int .i64 2, .bool false, .bool false, .bool true, .bool false, .bool false, .bool false, .int .i64 4, .int .u64 3, .int .u32 4, .int .u64 5, .int .u16 6, .int .u16 0, .int .i64 1, .int .i64 20, .int .i64 2, .int .i64 15] (0, 0) _ hM_z2 Try.underlying30 rfl (by kernel_rfl) ?_))
  refine (ex_enc _).mono ?_
  rintro e z3 ⟨ve, rfl, hown, hx⟩
  have E_z3 : Ext w z3 := E_z2.trans hx
  have hM_z3 : z3.heap[M0]? = some (.cells #[.int .i64 2, .bool false, .bool false, .bool true, .bool false, .bool false, .bool false, .int .i64 4, .int .u64 3, .int .u32 4, .int .u64 5, .int .u16 6, .int .u16 0, .int .i64 1, .int .i64 20, .int .i64 2, .int .i64 15] 30 (0, 0)) := (hx.block _ (heap_lt hM_z2)).trans hM_z2
  have hi_z3 := isBytes_own hown
  clear hown
  clear hM_z2 E_z2
  clear hx
  go_wp2_with fail
  refine (ex_dec ve _ hi_z3).mono ?_
  rintro e z4 ⟨rfl, hx⟩
  have E_z4 : Ext w z4 := E_z3.trans hx
  have hM_z4 : z4.heap[M0]? = some (.cells #[.int .i64 2, .bool false, .bool false, .bool true, .bool false, .bool false, .bool false, .int .i64 4, .int .u64 3, .int .u32 4, .int .u64 5, .int .u16 6, .int .u16 0, .int .i64 1, .int .i64 20, .int .i64 2, .int .i64 15] 30 (0, 0)) := (hx.block _ (heap_lt hM_z3)).trans hM_z3
  have hi_z4 : IsInts z4 .u8 ve (encL q0) := hi_z3.ext hx
  clear hM_z3 hi_z3 E_z3
  clear hx
  go_wp2_with (first
    | fail
    | ((with_reducible refine at_alloc 30 ?_); refine al_zero rfl 30 rfl MZ zero_msg ?_
       intro X0 z5 hq hs hx
       have E_z5 : Ext w z5 := E_z4.trans hx
       have hM_z5 : z5.heap[M0]? = some (.cells #[.int .i64 2, .bool false, .bool false, .bool true, .bool false, .bool false, .bool false, .int .i64 4, .int .u64 3, .int .u32 4, .int .u64 5, .int .u16 6, .int .u16 0, .int .i64 1, .int .i64 20, .int .i64 2, .int .i64 15] 30 (0, 0)) := (hx.block _ (heap_lt hM_z4)).trans hM_z4
       have hi_z5 : IsInts z5 .u8 ve (encL q0) := hi_z4.ext hx
       have hX_z5 : z5.heap[X0]? = some (.cells #[.int .i64 0, .bool false, .bool false, .bool false, .bool false, .bool false, .bool false, .int .i64 0, .int .u64 0, .int .u32 0, .int .u64 0, .int .u16 0, .int .u16 0, .int .i64 0, .int .i64 0, .int .i64 0, .int .i64 0] 30 (0, 0)) := hq
       have hb_X0 : w.heap.size ≤ X0 := by have := E_z4.size; omega
       have hn_M0X0 : M0 ≠ X0 := by have := heap_lt hM_z4; omega
       clear hM_z4 hi_z4 E_z4
       clear hq hs hx)
    | ((with_reducible refine at_store 30 ?_); refine st_at rfl rfl 30 _ _ rfl X0 0 _ #[.int .i64 2, .bool false, .bool false, .bool true, .bool false, .bool false, .bool false, .int .i64 4, .int .u64 3, .int .u32 4, .int .u64 5, .int .u16 6, .int .u16 0, .int .i64 1, .int .i64 20, .int .i64 2, .int .i64 15] _ #[.int .i64 2, .bool false, .bool false, .bool true, .bool false, .bool false, .bool false, .int .i64 4, .int .u64 3, .int .u32 4, .int .u64 5, .int .u16 6, .int .u16 0, .int .i64 1, .int .i64 20, .int .i64 2, .int .i64 15] _ rfl rfl rfl hX_z5 (by exact (by decide : 0 + 17 ≤ 17)) (by kernel_rfl) rfl rfl ?_
       intro z6 hq hm
       have hX_z6 : z6.heap[X0]? = some (.cells #[.int .i64 2, .bool false, .bool false, .bool true, .bool false, .bool false, .bool false, .int .i64 4, .int .u64 3, .int .u32 4, .int .u64 5, .int .u16 6, .int .u16 0, .int .i64 1, .int .i64 20, .int .i64 2, .int .i64 15] 30 (0, 0)) := hq
       have hM_z6 : z6.heap[M0]? = some (.cells #[.int .i64 2, .bool false, .bool false, .bool true, .bool false, .bool false, .bool false, .int .i64 4, .int .u64 3, .int .u32 4, .int .u64 5, .int .u16 6, .int .u16 0, .int .i64 1, .int .i64 20, .int .i64 2, .int .i64 15] 30 (0, 0)) := (hm.heap (heap_lt hM_z5) (show ¬ M0 = X0 by omega)).trans hM_z5
       have E_z6 : Ext w z6 := Ext.mutE E_z5 hm (fun n hn h => by have h2 : n = X0 := h; omega)
       clear hM_z5 hX_z5 E_z5
       clear hq hm))
  refine beginL (S := fun W' => Ext z6 W') (by kernel_rfl) ?_
  intro wd hqx
  have hq0 : Ext z6 wd := hqx
  refine takeL (i := 0) (v := (.agg #[.int .i64 1, .bool false, .bool false, .bool false, .bool false, .bool false, .bool false, .int .i64 0, .int .u64 0, .int .u32 0, .int .u64 0, .int .u16 0, .int .u16 0, .int .i64 0, .int .i64 0, .int .i64 0, .int .i64 0])) rfl (by kernel_rfl) (by kernel_rfl) (by kernel_rfl) (fun _ _ _ h => h) (yieldsIf_build rfl 30 _ rfl [(0, .int .i64 1)] rfl #[.int .i64 1, .bool false, .bool false, .bool false, .bool false, .bool false, .bool false, .int .i64 0, .int .u64 0, .int .u32 0, .int .u64 0, .int .u16 0, .int .u16 0, .int .i64 0, .int .i64 0, .int .i64 0, .int .i64 0] tcn_b) hq0 ?_
  simp only [Act.put, List.setIfInBounds_toArray, List.set_cons_zero, List.set_cons_succ]
  refine runL (i := 1) rfl rfl (by kernel_rfl) (fun K hK => ?_)
  go_simp
  refine (ex_tcn _).mono ?_
  rintro e wc1 ⟨vt, rfl, hown, hx⟩
  have hq1 := hq0.trans hx
  have hit := isBytes_own hown
  refine hK.out _ _ hq1 (fun hHeld => ?_)
  try simp only [Act.put, List.setIfInBounds_toArray, List.set_cons_zero, List.set_cons_succ]
  clear hK K hHeld
  refine anyH_mono (S2 := fun W' => Ext wc1 W') (fun W' h => hq1.trans h) _ _ _ _ ?_
  have hq2 : Ext wc1 wc1 := Ext.refl _
  refine takeL (i := 2) (v := (.string { data := #[0, 0, 0, 128] })) rfl (by kernel_rfl) (by kernel_rfl) (by kernel_rfl) (fun _ _ _ h => h) (yieldsIf_conv rfl _ _ _ rfl vt _ rfl (fun W' hW' => by have h1 := conv_bytes (hit.ext hW'); rw [str_tcn] at h1; exact h1)) hq2 ?_
  simp only [Act.put, List.setIfInBounds_toArray, List.set_cons_zero, List.set_cons_succ]
  refine takeL (i := 3) (v := (.bool true)) rfl (by kernel_rfl) (by kernel_rfl) (by kernel_rfl) (fun _ _ _ h => h) (Or.inl ⟨rfl, fun W' _ => by go_simp⟩) hq2 ?_
  simp only [Act.put, List.setIfInBounds_toArray, List.set_cons_zero, List.set_cons_succ]
  refine takeL (i := 4) (v := (.bool true)) rfl (by kernel_rfl) (by kernel_rfl) (by kernel_rfl) (fun _ _ _ h => h) (Or.inl ⟨rfl, fun _ _ => rfl⟩) hq2 ?_
  simp only [Act.put, List.setIfInBounds_toArray, List.set_cons_zero, List.set_cons_succ]
  refine takeL (i := 5) (v := _) rfl (by kernel_rfl) (by kernel_rfl) (by kernel_rfl) (fun _ _ _ h => h) (yieldsIf_rowS rfl 30 _ rfl X0 rfl #[.int .i64 2, .bool false, .bool false, .bool true, .bool false, .bool false, .bool false, .int .i64 4, .int .u64 3, .int .u32 4, .int .u64 5, .int .u16 6, .int .u16 0, .int .i64 1, .int .i64 20, .int .i64 2, .int .i64 15] _ _ (fun W' hW' => (((hq1.trans hW').block _ (heap_lt hX_z6)).trans hX_z6)) Try.underlying30 rfl (by kernel_rfl)) hq2 ?_
  simp only [Act.put, List.setIfInBounds_toArray, List.set_cons_zero, List.set_cons_succ]
  refine takeL (i := 6) (v := _) rfl (by kernel_rfl) (by kernel_rfl) (by kernel_rfl) (fun _ _ _ h => h) (yieldsIf_rowS rfl 30 _ rfl M0 rfl #[.int .i64 2, .bool false, .bool false, .bool true, .bool false, .bool false, .bool false, .int .i64 4, .int .u64 3, .int .u32 4, .int .u64 5, .int .u16 6, .int .u16 0, .int .i64 1, .int .i64 20, .int .i64 2, .int .i64 15] _ _ (fun W' hW' => (((hq1.trans hW').block _ (heap_lt hM_z6)).trans hM_z6)) Try.underlying30 rfl (by kernel_rfl)) hq2 ?_
  simp only [Act.put, List.setIfInBounds_toArray, List.set_cons_zero, List.set_cons_succ]
  refine takeL (i := 7) (v := (.bool true)) rfl (by kernel_rfl) (by kernel_rfl) (by kernel_rfl) (fun _ _ _ h => h) (Or.inl ⟨rfl, fun W' _ => by go_simp⟩) hq2 ?_
  simp only [Act.put, List.setIfInBounds_toArray, List.set_cons_zero, List.set_cons_succ]
  refine takeL (i := 8) (v := (.bool true)) rfl (by kernel_rfl) (by kernel_rfl) (by kernel_rfl) (fun _ _ _ h => h) (Or.inl ⟨rfl, fun _ _ => rfl⟩) hq2 ?_
  simp only [Act.put, List.setIfInBounds_toArray, List.set_cons_zero, List.set_cons_succ]
  refine takeL (i := 9) (v := (.bool true)) rfl (by kernel_rfl) (by kernel_rfl) (by kernel_rfl) (fun _ _ _ h => h) (Or.inl ⟨rfl, fun _ _ => rfl⟩) hq2 ?_
  simp only [Act.put, List.setIfInBounds_toArray, List.set_cons_zero, List.set_cons_succ]
  refine takeL (i := 10) (v := (.int .i64 0)) rfl (by kernel_rfl) (by kernel_rfl) (by kernel_rfl) (fun _ _ _ h => h) (Or.inl ⟨rfl, fun _ _ => rfl⟩) hq2 ?_
  simp only [Act.put, List.setIfInBounds_toArray, List.set_cons_zero, List.set_cons_succ]
  refine takeL (i := 11) (v := (.bool true)) rfl (by kernel_rfl) (by kernel_rfl) (by kernel_rfl) (fun _ _ _ h => h) (Or.inl ⟨rfl, fun W' _ => by go_simp⟩) hq2 ?_
  simp only [Act.put, List.setIfInBounds_toArray, List.set_cons_zero, List.set_cons_succ]
  refine takeL (i := 12) (v := (.bool true)) rfl (by kernel_rfl) (by kernel_rfl) (by kernel_rfl) (fun _ _ _ h => h) (Or.inl ⟨rfl, fun _ _ => rfl⟩) hq2 ?_
  simp only [Act.put, List.setIfInBounds_toArray, List.set_cons_zero, List.set_cons_succ]
  refine takeL (i := 13) (v := (.bool true)) rfl (by kernel_rfl) (by kernel_rfl) (by kernel_rfl) (fun _ _ _ h => h) (Or.inl ⟨rfl, fun _ _ => rfl⟩) hq2 ?_
  simp only [Act.put, List.setIfInBounds_toArray, List.set_cons_zero, List.set_cons_succ]
  refine takeL (i := 14) (v := _) rfl (by kernel_rfl) (by kernel_rfl) (by kernel_rfl) (fun _ _ _ h => h) (yieldsIf_rowS rfl 30 _ rfl M0 rfl #[.int .i64 2, .bool false, .bool false, .bool true, .bool false, .bool false, .bool false, .int .i64 4, .int .u64 3, .int .u32 4, .int .u64 5, .int .u16 6, .int .u16 0, .int .i64 1, .int .i64 20, .int .i64 2, .int .i64 15] _ _ (fun W' hW' => (((hq1.trans hW').block _ (heap_lt hM_z6)).trans hM_z6)) Try.underlying30 rfl (by kernel_rfl)) hq2 ?_
  simp only [Act.put, List.setIfInBounds_toArray, List.set_cons_zero, List.set_cons_succ]
  refine takeL (i := 16) (v := _) rfl (by kernel_rfl) (by kernel_rfl) (by kernel_rfl) (fun _ _ _ h => h) (yieldsIf_rowS rfl 30 _ rfl M0 rfl #[.int .i64 2, .bool false, .bool false, .bool true, .bool false, .bool false, .bool false, .int .i64 4, .int .u64 3, .int .u32 4, .int .u64 5, .int .u16 6, .int .u16 0, .int .i64 1, .int .i64 20, .int .i64 2, .int .i64 15] _ _ (fun W' hW' => (((hq1.trans hW').block _ (heap_lt hM_z6)).trans hM_z6)) Try.underlying30 rfl (by kernel_rfl)) hq2 ?_
  simp only [Act.put, List.setIfInBounds_toArray, List.set_cons_zero, List.set_cons_succ]
  refine runG (i := 15) rfl (by rfl) (by kernel_rfl) (fun K hK => ?_)
  go_simp
  refine (ex_plain _).mono ?_
  rintro e wc3 ⟨rfl, hx⟩
  have hq3 := hq2.trans hx
  refine hK.out _ _ hq3 (fun hHeld => ?_)
  try simp only [Act.put, List.setIfInBounds_toArray, List.set_cons_zero, List.set_cons_succ]
  clear hK K hHeld
  refine takeL (i := 17) (v := (.bool true)) rfl (by kernel_rfl) (by kernel_rfl) (by kernel_rfl) (fun _ _ _ h => h) (Or.inl ⟨rfl, fun W' _ => by go_simp⟩) hq3 ?_
  simp only [Act.put, List.setIfInBounds_toArray, List.set_cons_zero, List.set_cons_succ]
  refine takeL (i := 18) (v := (.bool true)) rfl (by kernel_rfl) (by kernel_rfl) (by kernel_rfl) (fun _ _ _ h => h) (Or.inl ⟨rfl, fun _ _ => rfl⟩) hq3 ?_
  simp only [Act.put, List.setIfInBounds_toArray, List.set_cons_zero, List.set_cons_succ]
  refine takeL (i := 19) (v := (.bool true)) rfl (by kernel_rfl) (by kernel_rfl) (by kernel_rfl) (fun _ _ _ h => h) (Or.inl ⟨rfl, fun _ _ => rfl⟩) hq3 ?_
  simp only [Act.put, List.setIfInBounds_toArray, List.set_cons_zero, List.set_cons_succ]
  refine wpAnyH_done (by kernel_rfl) ?_ _
  have hq4 := (hq1.trans hq3)
  generalize wc3 = z7 at *
  have hM_z7 : z7.heap[M0]? = some (.cells #[.int .i64 2, .bool false, .bool false, .bool true, .bool false, .bool false, .bool false, .int .i64 4, .int .u64 3, .int .u32 4, .int .u64 5, .int .u16 6, .int .u16 0, .int .i64 1, .int .i64 20, .int .i64 2, .int .i64 15] 30 (0, 0)) := (hq4.block _ (heap_lt hM_z6)).trans hM_z6
  have hX_z7 : z7.heap[X0]? = some (.cells #[.int .i64 2, .bool false, .bool false, .bool true, .bool false, .bool false, .bool false, .int .i64 4, .int .u64 3, .int .u32 4, .int .u64 5, .int .u16 6, .int .u16 0, .int .i64 1, .int .i64 20, .int .i64 2, .int .i64 15] 30 (0, 0)) := (hq4.block _ (heap_lt hX_z6)).trans hX_z6
  have E_z7 : Ext w z7 := E_z6.trans hq4
  clear hM_z6 hX_z6 E_z6
  clear hq0 hq1 hq2 hq3 hq4
  go_wp2_with fail
  go_ret
  exact ⟨rfl, E_z7⟩

end Go.Proofs.Ytdfaagchlnkpnaa
