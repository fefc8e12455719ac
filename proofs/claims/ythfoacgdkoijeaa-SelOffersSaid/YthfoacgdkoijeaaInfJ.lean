/- The machine of information: what a Config does to a port. No statement is proved here. -/
import Derived.Test.YthfoacgdkoijeaaInfI
namespace Go.Proofs.Ythfoacgdkoijeaa
open Go.RowKit Go.BigFrame Go.WideShapes Go.ChangeShapes Go.Deep
set_option linter.unusedVariables false
set_option linter.unusedSimpArgs false

theorem BrG.thereAt {w : World} {F : Nat → Prop} {X g : Nat} {B : Br} (h : BrG w F X g B) {k j n : Nat} (hk : k < B.np) (hj : j + n ≤ 89) : w.there g (k * 89 + j) n := fun i hi => by
  have := h.there hk (j + i) (by omega)
  rw [show k * 89 + (j + i) = k * 89 + j + i by omega] at this
  exact this
theorem wpList_store_midN {P : Program} {ops : Array Oper} {rest : List Oper} {op : Oper} {a : Act} {w : World} {Q : Exit → Act → World → Prop} (hgd : op.guard = none) (hdst : op.dst = none) (ty : TypeId) (x y : Operand) (ho : op.op = .store ty x y)
    (b o : Nat) (cells : Array Value) (hx : a.eval x = .pointer (some ⟨b, o, none⟩)) (hy : a.eval y = .agg cells) (ht : w.there b o cells.size) (hi : (P.info? ty).map (·.size) = some cells.size) (h1 : cells.all (·.oneCell') = true)
    (h : ∀ w' : World, w' = w.setCells b o cells.toList → wpList P ops Q rest a w') : wpList P ops Q (op :: rest) a w :=
  wpList_store_mid hgd ty x y ho b o cells hx hy ht hi h1 (by rw [show a.put op.dst undef = a by rw [hdst]; rfl]; exact h _ rfl)
/-- A message. -/
abbrev MsgT := {m : List Value // Typed ML m}
theorem tyI {l : List (Option IntKind)} {L : List Value} (h : Typed l L) (j : Nat) {K : IntKind} (hj : l[j]? = some (some K)) : L[j]? = some (.int K (pI L j)) := by
  obtain ⟨z, hz, _⟩ := h.int j K hj
  rw [hz, pI, hz]
theorem tyW {l : List (Option IntKind)} {L : List Value} (h : Typed l L) (j : Nat) {K : IntKind} (hj : l[j]? = some (some K)) : (Lit.int K (pI L j)).wf = true := by
  obtain ⟨z, hz, hw⟩ := h.int j K hj
  rw [pI, hz]; exact hw
theorem wf_max {x : Int} (h : (Lit.int .i64 x).wf = true) : (Lit.int .i64 (max 1 x)).wf = true := by
  simp [Lit.wf, IntKind.min, IntKind.max, IntKind.signed, IntKind.bits] at h ⊢
  omega
theorem tell_self {r c b p r' c' b' p' : Int} (h : c4 r c b p r' c' b' p' = 0) : tell b p b' p' = true := by
  obtain ⟨-, -, h3, h4⟩ := (c4_rg r c b p r' c' b' p').2.2.2.1 h
  subst h3; subst h4
  simp [tell]
theorem cls_less {ro c : Int} {tl te : Bool} (h : decide (c < 0) = true) : classN 0 ro c tl te = 0 := by
  have h1 : c < 0 := by simpa using h
  have h2 : (c == 0) = false := by simp; omega
  simp [classN, tellsB, h2, h1]
theorem cls_sup {ro c : Int} {te : Bool} : classN 0 ro c true te = 0 ∨ classN 0 ro c true te = 1 := by
  simp only [classN, tellsB]
  cases h : ((c == 0) && te) <;> simp [h]
theorem cls_inf {ro c : Int} {te : Bool} (h : decide (c < 0) = false) (h0 : c ≠ 0) : classN 0 ro c false te = 2 := by
  have h1 : ¬ c < 0 := by simpa using h
  have h2 : (c == 0) = false := by simpa using h0
  simp [classN, tellsB, h2, h1]
def ha0 (B : Br) (k : Nat) (m : MsgT) : Br := ((((B.setp k 2 (.bool true)).setp k 18 (.int .i64 2)).setp k 50 (.bool false)).setp k 36 (.bool true))
def ha0P (B : Br) (k : Nat) (m : MsgT) : List Value := (((((port B.ps k).set 2 (.bool true)).set 18 (.int .i64 2)).set 50 (.bool false)).set 36 (.bool true))
theorem ha0_np {B : Br} {k : Nat} {m : MsgT} : (ha0 B k m).np = B.np := rfl
theorem ha0_port {B : Br} {k : Nat} {m : MsgT} (h : k * 89 + 89 ≤ B.ps.length) : port (ha0 B k m).ps k = (ha0P B k m) := by
  unfold ha0 ha0P
  rw [port_setp (by decide), port_setp (by decide), port_setp (by decide), port_setp (by decide)]
theorem ha0_plen {B : Br} {k : Nat} {m : MsgT} (h : k * 89 + 89 ≤ B.ps.length) : (ha0P B k m).length = 89 := by unfold ha0P; simp only [List.length_set]; exact port_len h
theorem ha0_len {B : Br} {k : Nat} {m : MsgT} (h : k * 89 + 89 ≤ B.ps.length) : k * 89 + 89 ≤ (ha0 B k m).ps.length := by unfold ha0; simp only [len_setp]; exact h
theorem ha0_ok {B : Br} {k : Nat} {m : MsgT} (ho : B.ok) (hk : k < B.np) : (ha0 B k m).ok := (Br.ok.setB (Br.ok.setB (Br.ok.setI (Br.ok.setB ho (k := k) hk 2 true rfl) (k := k) hk 18 .i64 2 rfl (by decide)) (k := k) hk 50 false rfl) (k := k) hk 36 true rfl)
theorem ha0_tim {B : Br} {k : Nat} {m : MsgT} (h : k * 89 + 89 ≤ B.ps.length) (hR : TimR (port B.ps k)) : TimR (port (ha0 B k m).ps k) := by rw [ha0_port h]; exact (tim_set (tim_set (tim_set (tim_set hR (by decide)) (by decide)) (by decide)) (by decide))
def ha1M (B : Br) (k : Nat) (m : MsgT) : List Value := m.1
theorem ha1M_len {B : Br} {k : Nat} {m : MsgT} : (ha1M B k m).length = 17 := m.2.1
def ha1P (B : Br) (k : Nat) (m : MsgT) : List Value := setL (ha0P B k m) 51 (ha1M B k m)
def ha1 (B : Br) (k : Nat) (m : MsgT) : Br := Br.setr (ha0 B k m) k 51 (ha1M B k m)
theorem ha1_np {B : Br} {k : Nat} {m : MsgT} : (ha1 B k m).np = B.np := by unfold ha1; rw [np_setr]; exact ha0_np
theorem ha1_eq {B : Br} {k : Nat} {m : MsgT} (h : k * 89 + 89 ≤ B.ps.length) : (ha1 B k m) = Br.setPort (ha0 B k m) k (ha1P B k m) := by
  unfold ha1 ha1P
  rw [setr_eq (ha0_len h) (by rw [ha1M_len]; decide), ha0_port h]
theorem ha1_plen {B : Br} {k : Nat} {m : MsgT} (h : k * 89 + 89 ≤ B.ps.length) : (ha1P B k m).length = 89 := by unfold ha1P; rw [setL_len (by rw [ha1M_len, ha0_plen h]; decide)]; exact ha0_plen h
theorem ha1_port {B : Br} {k : Nat} {m : MsgT} (h : k * 89 + 89 ≤ B.ps.length) : port (ha1 B k m).ps k = (ha1P B k m) := by rw [ha1_eq h]; exact port_setPort (ha1_plen h) (ha0_len h)
theorem ha1_len {B : Br} {k : Nat} {m : MsgT} (h : k * 89 + 89 ≤ B.ps.length) : k * 89 + 89 ≤ (ha1 B k m).ps.length := by rw [ha1_eq h, len_setPort (ha1_plen h) (ha0_len h)]; exact ha0_len h
theorem ha1_ok {B : Br} {k : Nat} {m : MsgT} (ho : B.ok) (hk : k < B.np) : (ha1 B k m).ok := by
  have h := len89 ho hk
  have hk2 : k < Br.np (ha0 B k m) := by rw [ha0_np]; exact hk
  have hT := br_typed (ha0_ok ho hk) hk2
  rw [ha0_port h] at hT
  rw [ha1_eq h]
  exact setPort_ok (ha0_ok ho hk) hk2 (Typed.setL hT (j := 51) (by rw [ha1M_len]; exact (by decide : 51 + 17 ≤ 89)) (by rw [ha1M_len]; exact m.2))
theorem ha1_tim {B : Br} {k : Nat} {m : MsgT} (h : k * 89 + 89 ≤ B.ps.length) (hR : TF (pI m.1 13) (pI m.1 14) (pI m.1 15) (pI m.1 16)) : TimR (port (ha1 B k m).ps k) := by
  rw [ha1_port h]
  have hl : List.length (ha0P B k m) = 89 := ha0_plen h
  have hz : (ha1M B k m).length = 17 := m.2.1
  unfold TimR ha1P
  rw [pI_setL_in (by omega) (by omega) (by omega), pI_setL_in (by omega) (by omega) (by omega), pI_setL_in (by omega) (by omega) (by omega), pI_setL_in (by omega) (by omega) (by omega)]
  exact hR
def ha2 (B : Br) (k : Nat) (m : MsgT) : Br := (((ha1 B k m).setp k 51 (.int .i64 0)).setp k 11 (.int .i64 (max 1 (B.gi k 11))))
def ha2P (B : Br) (k : Nat) (m : MsgT) : List Value := (((ha1P B k m).set 51 (.int .i64 0)).set 11 (.int .i64 (max 1 (B.gi k 11))))
theorem ha2_np {B : Br} {k : Nat} {m : MsgT} : (ha2 B k m).np = B.np := by unfold ha2; simp only [np_setp]; exact ha1_np
theorem ha2_port {B : Br} {k : Nat} {m : MsgT} (h : k * 89 + 89 ≤ B.ps.length) : port (ha2 B k m).ps k = (ha2P B k m) := by
  unfold ha2 ha2P
  rw [port_setp (by decide), port_setp (by decide)]
  rw [ha1_port h]
theorem ha2_plen {B : Br} {k : Nat} {m : MsgT} (h : k * 89 + 89 ≤ B.ps.length) : (ha2P B k m).length = 89 := by unfold ha2P; simp only [List.length_set]; exact ha1_plen h
theorem ha2_len {B : Br} {k : Nat} {m : MsgT} (h : k * 89 + 89 ≤ B.ps.length) : k * 89 + 89 ≤ (ha2 B k m).ps.length := by unfold ha2; simp only [len_setp]; exact ha1_len h
theorem ha2_ok {B : Br} {k : Nat} {m : MsgT} (ho : B.ok) (hk : k < B.np) : (ha2 B k m).ok := (Br.ok.setI (Br.ok.setI (ha1_ok ho hk) (k := k) (show k < Br.np (ha1 B k m) by rw [ha1_np]; exact hk) 51 .i64 0 rfl (by decide)) (k := k) (show k < Br.np (ha1 B k m) by rw [ha1_np]; exact hk) 11 .i64 (max 1 (B.gi k 11)) rfl (wf_max (ho.gw hk 11 rfl)))
theorem ha2_tim {B : Br} {k : Nat} {m : MsgT} (h : k * 89 + 89 ≤ B.ps.length) (hR : TF (pI m.1 13) (pI m.1 14) (pI m.1 15) (pI m.1 16)) : TimR (port (ha2 B k m).ps k) := by rw [ha2_port h]; exact (tim_set (tim_set (by have := ha1_tim h hR; rw [ha1_port h] at this; exact this) (by decide)) (by decide))
theorem ha2P_51 {B : Br} {k : Nat} {m : MsgT} (h : k * 89 + 89 ≤ B.ps.length) : pI (ha2P B k m) 51 = 0 := by
  have hl0 := ha0_plen (B := B) (k := k) (m := m) h
  have hl1 := ha1_plen (B := B) (k := k) (m := m) h
  have hq := port_len h
  have hz : (ha1M B k m).length = 17 := m.2.1
  unfold ha2P
  simp [pI_set_ne, pB_set_ne, pI_set_same, pB_set_same, hl1]
theorem ha2P_2 {B : Br} {k : Nat} {m : MsgT} (h : k * 89 + 89 ≤ B.ps.length) : pB (ha2P B k m) 2 = true := by
  have hl0 := ha0_plen (B := B) (k := k) (m := m) h
  have hl1 := ha1_plen (B := B) (k := k) (m := m) h
  have hq := port_len h
  have hz : (ha1M B k m).length = 17 := m.2.1
  unfold ha2P
  rw [pB_set_ne (by decide), pB_set_ne (by decide)]
  unfold ha1P
  rw [pB_setL_out (by omega) (by omega)]
  unfold ha0P
  simp [pI_set_ne, pB_set_ne, pI_set_same, pB_set_same, hq, pI_port, pB_port]
theorem ha2_2 {B : Br} {k : Nat} {m : MsgT} (h : k * 89 + 89 ≤ B.ps.length) : (ha2 B k m).gb k 2 = true := by rw [← pB_port (by decide), ha2_port h]; exact ha2P_2 h
theorem ha2P_18 {B : Br} {k : Nat} {m : MsgT} (h : k * 89 + 89 ≤ B.ps.length) : pI (ha2P B k m) 18 = 2 := by
  have hl0 := ha0_plen (B := B) (k := k) (m := m) h
  have hl1 := ha1_plen (B := B) (k := k) (m := m) h
  have hq := port_len h
  have hz : (ha1M B k m).length = 17 := m.2.1
  unfold ha2P
  rw [pI_set_ne (by decide), pI_set_ne (by decide)]
  unfold ha1P
  rw [pI_setL_out (by omega) (by omega)]
  unfold ha0P
  simp [pI_set_ne, pB_set_ne, pI_set_same, pB_set_same, hq, pI_port, pB_port]
theorem ha2_18 {B : Br} {k : Nat} {m : MsgT} (h : k * 89 + 89 ≤ B.ps.length) : (ha2 B k m).gi k 18 = 2 := by rw [← pI_port (by decide), ha2_port h]; exact ha2P_18 h
theorem ha2P_50 {B : Br} {k : Nat} {m : MsgT} (h : k * 89 + 89 ≤ B.ps.length) : pB (ha2P B k m) 50 = false := by
  have hl0 := ha0_plen (B := B) (k := k) (m := m) h
  have hl1 := ha1_plen (B := B) (k := k) (m := m) h
  have hq := port_len h
  have hz : (ha1M B k m).length = 17 := m.2.1
  unfold ha2P
  rw [pB_set_ne (by decide), pB_set_ne (by decide)]
  unfold ha1P
  rw [pB_setL_out (by omega) (by omega)]
  unfold ha0P
  simp [pI_set_ne, pB_set_ne, pI_set_same, pB_set_same, hq, pI_port, pB_port]
theorem ha2_50 {B : Br} {k : Nat} {m : MsgT} (h : k * 89 + 89 ≤ B.ps.length) : (ha2 B k m).gb k 50 = false := by rw [← pB_port (by decide), ha2_port h]; exact ha2P_50 h
theorem ha2P_36 {B : Br} {k : Nat} {m : MsgT} (h : k * 89 + 89 ≤ B.ps.length) : pB (ha2P B k m) 36 = true := by
  have hl0 := ha0_plen (B := B) (k := k) (m := m) h
  have hl1 := ha1_plen (B := B) (k := k) (m := m) h
  have hq := port_len h
  have hz : (ha1M B k m).length = 17 := m.2.1
  unfold ha2P
  rw [pB_set_ne (by decide), pB_set_ne (by decide)]
  unfold ha1P
  rw [pB_setL_out (by omega) (by omega)]
  unfold ha0P
  simp [pI_set_ne, pB_set_ne, pI_set_same, pB_set_same, hq, pI_port, pB_port]
theorem ha2_36 {B : Br} {k : Nat} {m : MsgT} (h : k * 89 + 89 ≤ B.ps.length) : (ha2 B k m).gb k 36 = true := by rw [← pB_port (by decide), ha2_port h]; exact ha2P_36 h
theorem ha2P_58 {B : Br} {k : Nat} {m : MsgT} (h : k * 89 + 89 ≤ B.ps.length) : pI (ha2P B k m) 58 = pI m.1 7 := by
  have hl0 := ha0_plen (B := B) (k := k) (m := m) h
  have hl1 := ha1_plen (B := B) (k := k) (m := m) h
  have hq := port_len h
  have hz : (ha1M B k m).length = 17 := m.2.1
  unfold ha2P
  rw [pI_set_ne (by decide), pI_set_ne (by decide)]
  unfold ha1P
  rw [pI_setL_in (by omega) (by omega) (by omega)]
  rfl
theorem ha2P_59 {B : Br} {k : Nat} {m : MsgT} (h : k * 89 + 89 ≤ B.ps.length) : pI (ha2P B k m) 59 = pI m.1 8 := by
  have hl0 := ha0_plen (B := B) (k := k) (m := m) h
  have hl1 := ha1_plen (B := B) (k := k) (m := m) h
  have hq := port_len h
  have hz : (ha1M B k m).length = 17 := m.2.1
  unfold ha2P
  rw [pI_set_ne (by decide), pI_set_ne (by decide)]
  unfold ha1P
  rw [pI_setL_in (by omega) (by omega) (by omega)]
  rfl
theorem ha2P_60 {B : Br} {k : Nat} {m : MsgT} (h : k * 89 + 89 ≤ B.ps.length) : pI (ha2P B k m) 60 = pI m.1 9 := by
  have hl0 := ha0_plen (B := B) (k := k) (m := m) h
  have hl1 := ha1_plen (B := B) (k := k) (m := m) h
  have hq := port_len h
  have hz : (ha1M B k m).length = 17 := m.2.1
  unfold ha2P
  rw [pI_set_ne (by decide), pI_set_ne (by decide)]
  unfold ha1P
  rw [pI_setL_in (by omega) (by omega) (by omega)]
  rfl
theorem ha2P_61 {B : Br} {k : Nat} {m : MsgT} (h : k * 89 + 89 ≤ B.ps.length) : pI (ha2P B k m) 61 = pI m.1 10 := by
  have hl0 := ha0_plen (B := B) (k := k) (m := m) h
  have hl1 := ha1_plen (B := B) (k := k) (m := m) h
  have hq := port_len h
  have hz : (ha1M B k m).length = 17 := m.2.1
  unfold ha2P
  rw [pI_set_ne (by decide), pI_set_ne (by decide)]
  unfold ha1P
  rw [pI_setL_in (by omega) (by omega) (by omega)]
  rfl
theorem ha2P_62 {B : Br} {k : Nat} {m : MsgT} (h : k * 89 + 89 ≤ B.ps.length) : pI (ha2P B k m) 62 = pI m.1 11 := by
  have hl0 := ha0_plen (B := B) (k := k) (m := m) h
  have hl1 := ha1_plen (B := B) (k := k) (m := m) h
  have hq := port_len h
  have hz : (ha1M B k m).length = 17 := m.2.1
  unfold ha2P
  rw [pI_set_ne (by decide), pI_set_ne (by decide)]
  unfold ha1P
  rw [pI_setL_in (by omega) (by omega) (by omega)]
  rfl
theorem ha2P_63 {B : Br} {k : Nat} {m : MsgT} (h : k * 89 + 89 ≤ B.ps.length) : pI (ha2P B k m) 63 = pI m.1 12 := by
  have hl0 := ha0_plen (B := B) (k := k) (m := m) h
  have hl1 := ha1_plen (B := B) (k := k) (m := m) h
  have hq := port_len h
  have hz : (ha1M B k m).length = 17 := m.2.1
  unfold ha2P
  rw [pI_set_ne (by decide), pI_set_ne (by decide)]
  unfold ha1P
  rw [pI_setL_in (by omega) (by omega) (by omega)]
  rfl
theorem ha2P_64 {B : Br} {k : Nat} {m : MsgT} (h : k * 89 + 89 ≤ B.ps.length) : pI (ha2P B k m) 64 = pI m.1 13 := by
  have hl0 := ha0_plen (B := B) (k := k) (m := m) h
  have hl1 := ha1_plen (B := B) (k := k) (m := m) h
  have hq := port_len h
  have hz : (ha1M B k m).length = 17 := m.2.1
  unfold ha2P
  rw [pI_set_ne (by decide), pI_set_ne (by decide)]
  unfold ha1P
  rw [pI_setL_in (by omega) (by omega) (by omega)]
  rfl
theorem ha2P_65 {B : Br} {k : Nat} {m : MsgT} (h : k * 89 + 89 ≤ B.ps.length) : pI (ha2P B k m) 65 = pI m.1 14 := by
  have hl0 := ha0_plen (B := B) (k := k) (m := m) h
  have hl1 := ha1_plen (B := B) (k := k) (m := m) h
  have hq := port_len h
  have hz : (ha1M B k m).length = 17 := m.2.1
  unfold ha2P
  rw [pI_set_ne (by decide), pI_set_ne (by decide)]
  unfold ha1P
  rw [pI_setL_in (by omega) (by omega) (by omega)]
  rfl
theorem ha2P_66 {B : Br} {k : Nat} {m : MsgT} (h : k * 89 + 89 ≤ B.ps.length) : pI (ha2P B k m) 66 = pI m.1 15 := by
  have hl0 := ha0_plen (B := B) (k := k) (m := m) h
  have hl1 := ha1_plen (B := B) (k := k) (m := m) h
  have hq := port_len h
  have hz : (ha1M B k m).length = 17 := m.2.1
  unfold ha2P
  rw [pI_set_ne (by decide), pI_set_ne (by decide)]
  unfold ha1P
  rw [pI_setL_in (by omega) (by omega) (by omega)]
  rfl
theorem ha2P_67 {B : Br} {k : Nat} {m : MsgT} (h : k * 89 + 89 ≤ B.ps.length) : pI (ha2P B k m) 67 = pI m.1 16 := by
  have hl0 := ha0_plen (B := B) (k := k) (m := m) h
  have hl1 := ha1_plen (B := B) (k := k) (m := m) h
  have hq := port_len h
  have hz : (ha1M B k m).length = 17 := m.2.1
  unfold ha2P
  rw [pI_set_ne (by decide), pI_set_ne (by decide)]
  unfold ha1P
  rw [pI_setL_in (by omega) (by omega) (by omega)]
  rfl
theorem ha2P_68 {B : Br} {k : Nat} {m : MsgT} (h : k * 89 + 89 ≤ B.ps.length) : pI (ha2P B k m) 68 = B.gi k 68 := by
  have hl0 := ha0_plen (B := B) (k := k) (m := m) h
  have hl1 := ha1_plen (B := B) (k := k) (m := m) h
  have hq := port_len h
  have hz : (ha1M B k m).length = 17 := m.2.1
  unfold ha2P
  rw [pI_set_ne (by decide), pI_set_ne (by decide)]
  unfold ha1P
  rw [pI_setL_out (by omega) (by omega)]
  unfold ha0P
  simp [pI_set_ne, pB_set_ne, pI_set_same, pB_set_same, hq, pI_port, pB_port]
theorem ha2_68 {B : Br} {k : Nat} {m : MsgT} (h : k * 89 + 89 ≤ B.ps.length) : (ha2 B k m).gi k 68 = B.gi k 68 := by rw [← pI_port (by decide), ha2_port h]; exact ha2P_68 h
theorem ha2P_69 {B : Br} {k : Nat} {m : MsgT} (h : k * 89 + 89 ≤ B.ps.length) : pI (ha2P B k m) 69 = B.gi k 69 := by
  have hl0 := ha0_plen (B := B) (k := k) (m := m) h
  have hl1 := ha1_plen (B := B) (k := k) (m := m) h
  have hq := port_len h
  have hz : (ha1M B k m).length = 17 := m.2.1
  unfold ha2P
  rw [pI_set_ne (by decide), pI_set_ne (by decide)]
  unfold ha1P
  rw [pI_setL_out (by omega) (by omega)]
  unfold ha0P
  simp [pI_set_ne, pB_set_ne, pI_set_same, pB_set_same, hq, pI_port, pB_port]
theorem ha2_69 {B : Br} {k : Nat} {m : MsgT} (h : k * 89 + 89 ≤ B.ps.length) : (ha2 B k m).gi k 69 = B.gi k 69 := by rw [← pI_port (by decide), ha2_port h]; exact ha2P_69 h
theorem ha2P_70 {B : Br} {k : Nat} {m : MsgT} (h : k * 89 + 89 ≤ B.ps.length) : pI (ha2P B k m) 70 = B.gi k 70 := by
  have hl0 := ha0_plen (B := B) (k := k) (m := m) h
  have hl1 := ha1_plen (B := B) (k := k) (m := m) h
  have hq := port_len h
  have hz : (ha1M B k m).length = 17 := m.2.1
  unfold ha2P
  rw [pI_set_ne (by decide), pI_set_ne (by decide)]
  unfold ha1P
  rw [pI_setL_out (by omega) (by omega)]
  unfold ha0P
  simp [pI_set_ne, pB_set_ne, pI_set_same, pB_set_same, hq, pI_port, pB_port]
theorem ha2_70 {B : Br} {k : Nat} {m : MsgT} (h : k * 89 + 89 ≤ B.ps.length) : (ha2 B k m).gi k 70 = B.gi k 70 := by rw [← pI_port (by decide), ha2_port h]; exact ha2P_70 h
theorem ha2P_71 {B : Br} {k : Nat} {m : MsgT} (h : k * 89 + 89 ≤ B.ps.length) : pI (ha2P B k m) 71 = B.gi k 71 := by
  have hl0 := ha0_plen (B := B) (k := k) (m := m) h
  have hl1 := ha1_plen (B := B) (k := k) (m := m) h
  have hq := port_len h
  have hz : (ha1M B k m).length = 17 := m.2.1
  unfold ha2P
  rw [pI_set_ne (by decide), pI_set_ne (by decide)]
  unfold ha1P
  rw [pI_setL_out (by omega) (by omega)]
  unfold ha0P
  simp [pI_set_ne, pB_set_ne, pI_set_same, pB_set_same, hq, pI_port, pB_port]
theorem ha2_71 {B : Br} {k : Nat} {m : MsgT} (h : k * 89 + 89 ≤ B.ps.length) : (ha2 B k m).gi k 71 = B.gi k 71 := by rw [← pI_port (by decide), ha2_port h]; exact ha2P_71 h
theorem ha2P_72 {B : Br} {k : Nat} {m : MsgT} (h : k * 89 + 89 ≤ B.ps.length) : pI (ha2P B k m) 72 = B.gi k 72 := by
  have hl0 := ha0_plen (B := B) (k := k) (m := m) h
  have hl1 := ha1_plen (B := B) (k := k) (m := m) h
  have hq := port_len h
  have hz : (ha1M B k m).length = 17 := m.2.1
  unfold ha2P
  rw [pI_set_ne (by decide), pI_set_ne (by decide)]
  unfold ha1P
  rw [pI_setL_out (by omega) (by omega)]
  unfold ha0P
  simp [pI_set_ne, pB_set_ne, pI_set_same, pB_set_same, hq, pI_port, pB_port]
theorem ha2_72 {B : Br} {k : Nat} {m : MsgT} (h : k * 89 + 89 ≤ B.ps.length) : (ha2 B k m).gi k 72 = B.gi k 72 := by rw [← pI_port (by decide), ha2_port h]; exact ha2P_72 h
theorem ha2P_78 {B : Br} {k : Nat} {m : MsgT} (h : k * 89 + 89 ≤ B.ps.length) : pI (ha2P B k m) 78 = B.gi k 78 := by
  have hl0 := ha0_plen (B := B) (k := k) (m := m) h
  have hl1 := ha1_plen (B := B) (k := k) (m := m) h
  have hq := port_len h
  have hz : (ha1M B k m).length = 17 := m.2.1
  unfold ha2P
  rw [pI_set_ne (by decide), pI_set_ne (by decide)]
  unfold ha1P
  rw [pI_setL_out (by omega) (by omega)]
  unfold ha0P
  simp [pI_set_ne, pB_set_ne, pI_set_same, pB_set_same, hq, pI_port, pB_port]
theorem ha2_78 {B : Br} {k : Nat} {m : MsgT} (h : k * 89 + 89 ≤ B.ps.length) : (ha2 B k m).gi k 78 = B.gi k 78 := by rw [← pI_port (by decide), ha2_port h]; exact ha2P_78 h
theorem ha2P_79 {B : Br} {k : Nat} {m : MsgT} (h : k * 89 + 89 ≤ B.ps.length) : pI (ha2P B k m) 79 = B.gi k 79 := by
  have hl0 := ha0_plen (B := B) (k := k) (m := m) h
  have hl1 := ha1_plen (B := B) (k := k) (m := m) h
  have hq := port_len h
  have hz : (ha1M B k m).length = 17 := m.2.1
  unfold ha2P
  rw [pI_set_ne (by decide), pI_set_ne (by decide)]
  unfold ha1P
  rw [pI_setL_out (by omega) (by omega)]
  unfold ha0P
  simp [pI_set_ne, pB_set_ne, pI_set_same, pB_set_same, hq, pI_port, pB_port]
theorem ha2_79 {B : Br} {k : Nat} {m : MsgT} (h : k * 89 + 89 ≤ B.ps.length) : (ha2 B k m).gi k 79 = B.gi k 79 := by rw [← pI_port (by decide), ha2_port h]; exact ha2P_79 h
theorem ha2P_80 {B : Br} {k : Nat} {m : MsgT} (h : k * 89 + 89 ≤ B.ps.length) : pI (ha2P B k m) 80 = B.gi k 80 := by
  have hl0 := ha0_plen (B := B) (k := k) (m := m) h
  have hl1 := ha1_plen (B := B) (k := k) (m := m) h
  have hq := port_len h
  have hz : (ha1M B k m).length = 17 := m.2.1
  unfold ha2P
  rw [pI_set_ne (by decide), pI_set_ne (by decide)]
  unfold ha1P
  rw [pI_setL_out (by omega) (by omega)]
  unfold ha0P
  simp [pI_set_ne, pB_set_ne, pI_set_same, pB_set_same, hq, pI_port, pB_port]
theorem ha2_80 {B : Br} {k : Nat} {m : MsgT} (h : k * 89 + 89 ≤ B.ps.length) : (ha2 B k m).gi k 80 = B.gi k 80 := by rw [← pI_port (by decide), ha2_port h]; exact ha2P_80 h
theorem ha2P_81 {B : Br} {k : Nat} {m : MsgT} (h : k * 89 + 89 ≤ B.ps.length) : pI (ha2P B k m) 81 = B.gi k 81 := by
  have hl0 := ha0_plen (B := B) (k := k) (m := m) h
  have hl1 := ha1_plen (B := B) (k := k) (m := m) h
  have hq := port_len h
  have hz : (ha1M B k m).length = 17 := m.2.1
  unfold ha2P
  rw [pI_set_ne (by decide), pI_set_ne (by decide)]
  unfold ha1P
  rw [pI_setL_out (by omega) (by omega)]
  unfold ha0P
  simp [pI_set_ne, pB_set_ne, pI_set_same, pB_set_same, hq, pI_port, pB_port]
theorem ha2_81 {B : Br} {k : Nat} {m : MsgT} (h : k * 89 + 89 ≤ B.ps.length) : (ha2 B k m).gi k 81 = B.gi k 81 := by rw [← pI_port (by decide), ha2_port h]; exact ha2P_81 h
theorem ha2P_86 {B : Br} {k : Nat} {m : MsgT} (h : k * 89 + 89 ≤ B.ps.length) : pI (ha2P B k m) 86 = B.gi k 86 := by
  have hl0 := ha0_plen (B := B) (k := k) (m := m) h
  have hl1 := ha1_plen (B := B) (k := k) (m := m) h
  have hq := port_len h
  have hz : (ha1M B k m).length = 17 := m.2.1
  unfold ha2P
  rw [pI_set_ne (by decide), pI_set_ne (by decide)]
  unfold ha1P
  rw [pI_setL_out (by omega) (by omega)]
  unfold ha0P
  simp [pI_set_ne, pB_set_ne, pI_set_same, pB_set_same, hq, pI_port, pB_port]
theorem ha2_86 {B : Br} {k : Nat} {m : MsgT} (h : k * 89 + 89 ≤ B.ps.length) : (ha2 B k m).gi k 86 = B.gi k 86 := by rw [← pI_port (by decide), ha2_port h]; exact ha2P_86 h
theorem ha2P_6 {B : Br} {k : Nat} {m : MsgT} (h : k * 89 + 89 ≤ B.ps.length) : pI (ha2P B k m) 6 = B.gi k 6 := by
  have hl0 := ha0_plen (B := B) (k := k) (m := m) h
  have hl1 := ha1_plen (B := B) (k := k) (m := m) h
  have hq := port_len h
  have hz : (ha1M B k m).length = 17 := m.2.1
  unfold ha2P
  rw [pI_set_ne (by decide), pI_set_ne (by decide)]
  unfold ha1P
  rw [pI_setL_out (by omega) (by omega)]
  unfold ha0P
  simp [pI_set_ne, pB_set_ne, pI_set_same, pB_set_same, hq, pI_port, pB_port]
theorem ha2_6 {B : Br} {k : Nat} {m : MsgT} (h : k * 89 + 89 ≤ B.ps.length) : (ha2 B k m).gi k 6 = B.gi k 6 := by rw [← pI_port (by decide), ha2_port h]; exact ha2P_6 h
theorem ha2P_7 {B : Br} {k : Nat} {m : MsgT} (h : k * 89 + 89 ≤ B.ps.length) : pI (ha2P B k m) 7 = B.gi k 7 := by
  have hl0 := ha0_plen (B := B) (k := k) (m := m) h
  have hl1 := ha1_plen (B := B) (k := k) (m := m) h
  have hq := port_len h
  have hz : (ha1M B k m).length = 17 := m.2.1
  unfold ha2P
  rw [pI_set_ne (by decide), pI_set_ne (by decide)]
  unfold ha1P
  rw [pI_setL_out (by omega) (by omega)]
  unfold ha0P
  simp [pI_set_ne, pB_set_ne, pI_set_same, pB_set_same, hq, pI_port, pB_port]
theorem ha2_7 {B : Br} {k : Nat} {m : MsgT} (h : k * 89 + 89 ≤ B.ps.length) : (ha2 B k m).gi k 7 = B.gi k 7 := by rw [← pI_port (by decide), ha2_port h]; exact ha2P_7 h
theorem ha2P_8 {B : Br} {k : Nat} {m : MsgT} (h : k * 89 + 89 ≤ B.ps.length) : pI (ha2P B k m) 8 = B.gi k 8 := by
  have hl0 := ha0_plen (B := B) (k := k) (m := m) h
  have hl1 := ha1_plen (B := B) (k := k) (m := m) h
  have hq := port_len h
  have hz : (ha1M B k m).length = 17 := m.2.1
  unfold ha2P
  rw [pI_set_ne (by decide), pI_set_ne (by decide)]
  unfold ha1P
  rw [pI_setL_out (by omega) (by omega)]
  unfold ha0P
  simp [pI_set_ne, pB_set_ne, pI_set_same, pB_set_same, hq, pI_port, pB_port]
theorem ha2_8 {B : Br} {k : Nat} {m : MsgT} (h : k * 89 + 89 ≤ B.ps.length) : (ha2 B k m).gi k 8 = B.gi k 8 := by rw [← pI_port (by decide), ha2_port h]; exact ha2P_8 h
theorem ha2P_9 {B : Br} {k : Nat} {m : MsgT} (h : k * 89 + 89 ≤ B.ps.length) : pI (ha2P B k m) 9 = B.gi k 9 := by
  have hl0 := ha0_plen (B := B) (k := k) (m := m) h
  have hl1 := ha1_plen (B := B) (k := k) (m := m) h
  have hq := port_len h
  have hz : (ha1M B k m).length = 17 := m.2.1
  unfold ha2P
  rw [pI_set_ne (by decide), pI_set_ne (by decide)]
  unfold ha1P
  rw [pI_setL_out (by omega) (by omega)]
  unfold ha0P
  simp [pI_set_ne, pB_set_ne, pI_set_same, pB_set_same, hq, pI_port, pB_port]
theorem ha2_9 {B : Br} {k : Nat} {m : MsgT} (h : k * 89 + 89 ≤ B.ps.length) : (ha2 B k m).gi k 9 = B.gi k 9 := by rw [← pI_port (by decide), ha2_port h]; exact ha2P_9 h
theorem ha2P_10 {B : Br} {k : Nat} {m : MsgT} (h : k * 89 + 89 ≤ B.ps.length) : pI (ha2P B k m) 10 = B.gi k 10 := by
  have hl0 := ha0_plen (B := B) (k := k) (m := m) h
  have hl1 := ha1_plen (B := B) (k := k) (m := m) h
  have hq := port_len h
  have hz : (ha1M B k m).length = 17 := m.2.1
  unfold ha2P
  rw [pI_set_ne (by decide), pI_set_ne (by decide)]
  unfold ha1P
  rw [pI_setL_out (by omega) (by omega)]
  unfold ha0P
  simp [pI_set_ne, pB_set_ne, pI_set_same, pB_set_same, hq, pI_port, pB_port]
theorem ha2_10 {B : Br} {k : Nat} {m : MsgT} (h : k * 89 + 89 ≤ B.ps.length) : (ha2 B k m).gi k 10 = B.gi k 10 := by rw [← pI_port (by decide), ha2_port h]; exact ha2P_10 h
theorem ha2P_12 {B : Br} {k : Nat} {m : MsgT} (h : k * 89 + 89 ≤ B.ps.length) : pI (ha2P B k m) 12 = B.gi k 12 := by
  have hl0 := ha0_plen (B := B) (k := k) (m := m) h
  have hl1 := ha1_plen (B := B) (k := k) (m := m) h
  have hq := port_len h
  have hz : (ha1M B k m).length = 17 := m.2.1
  unfold ha2P
  rw [pI_set_ne (by decide), pI_set_ne (by decide)]
  unfold ha1P
  rw [pI_setL_out (by omega) (by omega)]
  unfold ha0P
  simp [pI_set_ne, pB_set_ne, pI_set_same, pB_set_same, hq, pI_port, pB_port]
theorem ha2_12 {B : Br} {k : Nat} {m : MsgT} (h : k * 89 + 89 ≤ B.ps.length) : (ha2 B k m).gi k 12 = B.gi k 12 := by rw [← pI_port (by decide), ha2_port h]; exact ha2P_12 h
theorem ha2P_13 {B : Br} {k : Nat} {m : MsgT} (h : k * 89 + 89 ≤ B.ps.length) : pI (ha2P B k m) 13 = B.gi k 13 := by
  have hl0 := ha0_plen (B := B) (k := k) (m := m) h
  have hl1 := ha1_plen (B := B) (k := k) (m := m) h
  have hq := port_len h
  have hz : (ha1M B k m).length = 17 := m.2.1
  unfold ha2P
  rw [pI_set_ne (by decide), pI_set_ne (by decide)]
  unfold ha1P
  rw [pI_setL_out (by omega) (by omega)]
  unfold ha0P
  simp [pI_set_ne, pB_set_ne, pI_set_same, pB_set_same, hq, pI_port, pB_port]
theorem ha2_13 {B : Br} {k : Nat} {m : MsgT} (h : k * 89 + 89 ≤ B.ps.length) : (ha2 B k m).gi k 13 = B.gi k 13 := by rw [← pI_port (by decide), ha2_port h]; exact ha2P_13 h
theorem ha2P_14 {B : Br} {k : Nat} {m : MsgT} (h : k * 89 + 89 ≤ B.ps.length) : pI (ha2P B k m) 14 = B.gi k 14 := by
  have hl0 := ha0_plen (B := B) (k := k) (m := m) h
  have hl1 := ha1_plen (B := B) (k := k) (m := m) h
  have hq := port_len h
  have hz : (ha1M B k m).length = 17 := m.2.1
  unfold ha2P
  rw [pI_set_ne (by decide), pI_set_ne (by decide)]
  unfold ha1P
  rw [pI_setL_out (by omega) (by omega)]
  unfold ha0P
  simp [pI_set_ne, pB_set_ne, pI_set_same, pB_set_same, hq, pI_port, pB_port]
theorem ha2_14 {B : Br} {k : Nat} {m : MsgT} (h : k * 89 + 89 ≤ B.ps.length) : (ha2 B k m).gi k 14 = B.gi k 14 := by rw [← pI_port (by decide), ha2_port h]; exact ha2P_14 h
theorem ha2P_11 {B : Br} {k : Nat} {m : MsgT} (h : k * 89 + 89 ≤ B.ps.length) : pI (ha2P B k m) 11 = max 1 (B.gi k 11) := by
  have hl0 := ha0_plen (B := B) (k := k) (m := m) h
  have hl1 := ha1_plen (B := B) (k := k) (m := m) h
  have hq := port_len h
  have hz : (ha1M B k m).length = 17 := m.2.1
  unfold ha2P
  simp [pI_set_ne, pB_set_ne, pI_set_same, pB_set_same, hl1]
theorem ha2_11 {B : Br} {k : Nat} {m : MsgT} (h : k * 89 + 89 ≤ B.ps.length) : (ha2 B k m).gi k 11 = max 1 (B.gi k 11) := by rw [← pI_port (by decide), ha2_port h]; exact ha2P_11 h
theorem ha2P_44 {B : Br} {k : Nat} {m : MsgT} (h : k * 89 + 89 ≤ B.ps.length) : pB (ha2P B k m) 44 = B.gb k 44 := by
  have hl0 := ha0_plen (B := B) (k := k) (m := m) h
  have hl1 := ha1_plen (B := B) (k := k) (m := m) h
  have hq := port_len h
  have hz : (ha1M B k m).length = 17 := m.2.1
  unfold ha2P
  rw [pB_set_ne (by decide), pB_set_ne (by decide)]
  unfold ha1P
  rw [pB_setL_out (by omega) (by omega)]
  unfold ha0P
  simp [pI_set_ne, pB_set_ne, pI_set_same, pB_set_same, hq, pI_port, pB_port]
theorem ha2_44 {B : Br} {k : Nat} {m : MsgT} (h : k * 89 + 89 ≤ B.ps.length) : (ha2 B k m).gb k 44 = B.gb k 44 := by rw [← pB_port (by decide), ha2_port h]; exact ha2P_44 h
theorem ha_cls {B : Br} {k : Nat} {m : MsgT} (h : k * 89 + 89 ≤ B.ps.length) : clsL (ha2P B k m) = classN 0 (pI m.1 7) (c4 (pI m.1 8) (pI m.1 9) (pI m.1 10) (pI m.1 11) (B.gi k 68) (B.gi k 69) (B.gi k 70) (B.gi k 71)) (tell (pI m.1 10) (pI m.1 11) (B.gi k 70) (B.gi k 71)) ((pI m.1 13) == (B.gi k 78) && (pI m.1 14) == (B.gi k 79) && (pI m.1 15) == (B.gi k 80) && (pI m.1 16) == (B.gi k 81)) := by
  unfold clsL
  rw [ha2P_51 h, ha2P_58 h, ha2P_59 h, ha2P_60 h, ha2P_61 h, ha2P_62 h, ha2P_68 h, ha2P_69 h, ha2P_70 h, ha2P_71 h, ha2P_64 h, ha2P_65 h, ha2P_66 h, ha2P_67 h, ha2P_78 h, ha2P_79 h, ha2P_80 h, ha2P_81 h]
theorem ha_row {B : Br} {k : Nat} {m : MsgT} (h : k * 89 + 89 ≤ B.ps.length) : irowL (ha2P B k m) = 4 := by
  unfold irowL irowB
  rw [ha2P_2 h, ha2P_18 h, ha2P_36 h, ha2P_50 h]
  simp
def haT (B : Br) (k : Nat) (m : MsgT) : Br := Br.setPort (ha2 B k m) k (itakeL (B.hb 1) (ha2P B k m))
theorem ha_step {B : Br} {k : Nat} {m : MsgT} (h : k * 89 + 89 ≤ B.ps.length) : infF (ha2 B k m) k = (true, haT B k m) := infF_do (ha2_port h) (by unfold infL; rw [ha_row h]; rfl)
theorem haT_np {B : Br} {k : Nat} {m : MsgT} : (haT B k m).np = B.np := by unfold haT; rw [np_setPort]; exact ha2_np
theorem ha_hearlen {B : Br} {k : Nat} {m : MsgT} (h : k * 89 + 89 ≤ B.ps.length) {n : Nat} {r : Bool} : (hearN n r (ha2P B k m)).length = 89 := by
  have hl := ha2_plen (B := B) (k := k) (m := m) h
  have i1 : ∀ (b : Bool) (L : List Value), (iprop b L).length = L.length := fun b L => by cases b <;> simp [iprop]
  have i2 : ∀ (b : Bool) (L : List Value), (iagr b L).length = L.length := fun b L => by cases b <;> simp [iagr]
  have i3 : ∀ (b : Bool) (L : List Value), (iinf b L).length = L.length := fun b L => by cases b <;> simp [iinf]
  have i4 : ∀ (b : Bool) (L : List Value), (ioth b L).length = L.length := fun b L => by cases b <;> simp [ioth]
  match n with
  | 0 =>
    obtain ⟨v22, hv⟩ := sup_cfg hl (ha2P_51 h) r
    rw [hv, len_iask]
    simp only [List.length_set]
    exact hl
  | 1 => unfold hearN; simp [i1, i2, ichg, hl]
  | 2 => unfold hearN; simp [i3, hl]
  | 3 => unfold hearN; simp [i2, ichg, hl]
  | n + 4 => unfold hearN; simp [i4, hl]
theorem haL_68 {B : Br} {k : Nat} {m : MsgT} (h : k * 89 + 89 ≤ B.ps.length) (hc0 : decide ((c4 (pI m.1 8) (pI m.1 9) (pI m.1 10) (pI m.1 11) (B.gi k 68) (B.gi k 69) (B.gi k 70) (B.gi k 71)) < 0) = true) : pI (itakeL (B.hb 1) (ha2P B k m)) 68 = pI m.1 8 := by
  have hl := ha2_plen (B := B) (k := k) (m := m) h
  unfold itakeL
  rw [show clsL (ha2P B k m) = 0 from (ha_cls h).trans (cls_less hc0)]
  obtain ⟨v22, hv⟩ := sup_cfg hl (ha2P_51 h) (B.hb 1)
  rw [hv]
  unfold iask
  simp [pI_set_ne, pB_set_ne, pI_set_same, pB_set_same, hl, ha2P_59 h, ha2P_60 h, ha2P_61 h, ha2P_62 h, ha2P_63 h, ha2P_64 h, ha2P_65 h, ha2P_66 h, ha2P_67 h]
theorem haLT_68 {B : Br} {k : Nat} {m : MsgT} (h : k * 89 + 89 ≤ B.ps.length) (hc0 : decide ((c4 (pI m.1 8) (pI m.1 9) (pI m.1 10) (pI m.1 11) (B.gi k 68) (B.gi k 69) (B.gi k 70) (B.gi k 71)) < 0) = true) : (haT B k m).gi k 68 = pI m.1 8 := by
  unfold haT
  rw [gi_setPort ?_ (ha2_len h) (by decide)]
  · exact haL_68 h hc0
  · unfold itakeL
    simp only [List.length_set]
    exact ha_hearlen h
theorem haL_69 {B : Br} {k : Nat} {m : MsgT} (h : k * 89 + 89 ≤ B.ps.length) (hc0 : decide ((c4 (pI m.1 8) (pI m.1 9) (pI m.1 10) (pI m.1 11) (B.gi k 68) (B.gi k 69) (B.gi k 70) (B.gi k 71)) < 0) = true) : pI (itakeL (B.hb 1) (ha2P B k m)) 69 = pI m.1 9 := by
  have hl := ha2_plen (B := B) (k := k) (m := m) h
  unfold itakeL
  rw [show clsL (ha2P B k m) = 0 from (ha_cls h).trans (cls_less hc0)]
  obtain ⟨v22, hv⟩ := sup_cfg hl (ha2P_51 h) (B.hb 1)
  rw [hv]
  unfold iask
  simp [pI_set_ne, pB_set_ne, pI_set_same, pB_set_same, hl, ha2P_59 h, ha2P_60 h, ha2P_61 h, ha2P_62 h, ha2P_63 h, ha2P_64 h, ha2P_65 h, ha2P_66 h, ha2P_67 h]
theorem haLT_69 {B : Br} {k : Nat} {m : MsgT} (h : k * 89 + 89 ≤ B.ps.length) (hc0 : decide ((c4 (pI m.1 8) (pI m.1 9) (pI m.1 10) (pI m.1 11) (B.gi k 68) (B.gi k 69) (B.gi k 70) (B.gi k 71)) < 0) = true) : (haT B k m).gi k 69 = pI m.1 9 := by
  unfold haT
  rw [gi_setPort ?_ (ha2_len h) (by decide)]
  · exact haL_69 h hc0
  · unfold itakeL
    simp only [List.length_set]
    exact ha_hearlen h
theorem haL_70 {B : Br} {k : Nat} {m : MsgT} (h : k * 89 + 89 ≤ B.ps.length) (hc0 : decide ((c4 (pI m.1 8) (pI m.1 9) (pI m.1 10) (pI m.1 11) (B.gi k 68) (B.gi k 69) (B.gi k 70) (B.gi k 71)) < 0) = true) : pI (itakeL (B.hb 1) (ha2P B k m)) 70 = pI m.1 10 := by
  have hl := ha2_plen (B := B) (k := k) (m := m) h
  unfold itakeL
  rw [show clsL (ha2P B k m) = 0 from (ha_cls h).trans (cls_less hc0)]
  obtain ⟨v22, hv⟩ := sup_cfg hl (ha2P_51 h) (B.hb 1)
  rw [hv]
  unfold iask
  simp [pI_set_ne, pB_set_ne, pI_set_same, pB_set_same, hl, ha2P_59 h, ha2P_60 h, ha2P_61 h, ha2P_62 h, ha2P_63 h, ha2P_64 h, ha2P_65 h, ha2P_66 h, ha2P_67 h]
theorem haLT_70 {B : Br} {k : Nat} {m : MsgT} (h : k * 89 + 89 ≤ B.ps.length) (hc0 : decide ((c4 (pI m.1 8) (pI m.1 9) (pI m.1 10) (pI m.1 11) (B.gi k 68) (B.gi k 69) (B.gi k 70) (B.gi k 71)) < 0) = true) : (haT B k m).gi k 70 = pI m.1 10 := by
  unfold haT
  rw [gi_setPort ?_ (ha2_len h) (by decide)]
  · exact haL_70 h hc0
  · unfold itakeL
    simp only [List.length_set]
    exact ha_hearlen h
theorem haL_71 {B : Br} {k : Nat} {m : MsgT} (h : k * 89 + 89 ≤ B.ps.length) (hc0 : decide ((c4 (pI m.1 8) (pI m.1 9) (pI m.1 10) (pI m.1 11) (B.gi k 68) (B.gi k 69) (B.gi k 70) (B.gi k 71)) < 0) = true) : pI (itakeL (B.hb 1) (ha2P B k m)) 71 = pI m.1 11 := by
  have hl := ha2_plen (B := B) (k := k) (m := m) h
  unfold itakeL
  rw [show clsL (ha2P B k m) = 0 from (ha_cls h).trans (cls_less hc0)]
  obtain ⟨v22, hv⟩ := sup_cfg hl (ha2P_51 h) (B.hb 1)
  rw [hv]
  unfold iask
  simp [pI_set_ne, pB_set_ne, pI_set_same, pB_set_same, hl, ha2P_59 h, ha2P_60 h, ha2P_61 h, ha2P_62 h, ha2P_63 h, ha2P_64 h, ha2P_65 h, ha2P_66 h, ha2P_67 h]
theorem haLT_71 {B : Br} {k : Nat} {m : MsgT} (h : k * 89 + 89 ≤ B.ps.length) (hc0 : decide ((c4 (pI m.1 8) (pI m.1 9) (pI m.1 10) (pI m.1 11) (B.gi k 68) (B.gi k 69) (B.gi k 70) (B.gi k 71)) < 0) = true) : (haT B k m).gi k 71 = pI m.1 11 := by
  unfold haT
  rw [gi_setPort ?_ (ha2_len h) (by decide)]
  · exact haL_71 h hc0
  · unfold itakeL
    simp only [List.length_set]
    exact ha_hearlen h
theorem haL_72 {B : Br} {k : Nat} {m : MsgT} (h : k * 89 + 89 ≤ B.ps.length) (hc0 : decide ((c4 (pI m.1 8) (pI m.1 9) (pI m.1 10) (pI m.1 11) (B.gi k 68) (B.gi k 69) (B.gi k 70) (B.gi k 71)) < 0) = true) : pI (itakeL (B.hb 1) (ha2P B k m)) 72 = pI m.1 12 := by
  have hl := ha2_plen (B := B) (k := k) (m := m) h
  unfold itakeL
  rw [show clsL (ha2P B k m) = 0 from (ha_cls h).trans (cls_less hc0)]
  obtain ⟨v22, hv⟩ := sup_cfg hl (ha2P_51 h) (B.hb 1)
  rw [hv]
  unfold iask
  simp [pI_set_ne, pB_set_ne, pI_set_same, pB_set_same, hl, ha2P_59 h, ha2P_60 h, ha2P_61 h, ha2P_62 h, ha2P_63 h, ha2P_64 h, ha2P_65 h, ha2P_66 h, ha2P_67 h]
theorem haLT_72 {B : Br} {k : Nat} {m : MsgT} (h : k * 89 + 89 ≤ B.ps.length) (hc0 : decide ((c4 (pI m.1 8) (pI m.1 9) (pI m.1 10) (pI m.1 11) (B.gi k 68) (B.gi k 69) (B.gi k 70) (B.gi k 71)) < 0) = true) : (haT B k m).gi k 72 = pI m.1 12 := by
  unfold haT
  rw [gi_setPort ?_ (ha2_len h) (by decide)]
  · exact haL_72 h hc0
  · unfold itakeL
    simp only [List.length_set]
    exact ha_hearlen h
theorem haL_78 {B : Br} {k : Nat} {m : MsgT} (h : k * 89 + 89 ≤ B.ps.length) (hc0 : decide ((c4 (pI m.1 8) (pI m.1 9) (pI m.1 10) (pI m.1 11) (B.gi k 68) (B.gi k 69) (B.gi k 70) (B.gi k 71)) < 0) = true) : pI (itakeL (B.hb 1) (ha2P B k m)) 78 = pI m.1 13 := by
  have hl := ha2_plen (B := B) (k := k) (m := m) h
  unfold itakeL
  rw [show clsL (ha2P B k m) = 0 from (ha_cls h).trans (cls_less hc0)]
  obtain ⟨v22, hv⟩ := sup_cfg hl (ha2P_51 h) (B.hb 1)
  rw [hv]
  unfold iask
  simp [pI_set_ne, pB_set_ne, pI_set_same, pB_set_same, hl, ha2P_59 h, ha2P_60 h, ha2P_61 h, ha2P_62 h, ha2P_63 h, ha2P_64 h, ha2P_65 h, ha2P_66 h, ha2P_67 h]
theorem haLT_78 {B : Br} {k : Nat} {m : MsgT} (h : k * 89 + 89 ≤ B.ps.length) (hc0 : decide ((c4 (pI m.1 8) (pI m.1 9) (pI m.1 10) (pI m.1 11) (B.gi k 68) (B.gi k 69) (B.gi k 70) (B.gi k 71)) < 0) = true) : (haT B k m).gi k 78 = pI m.1 13 := by
  unfold haT
  rw [gi_setPort ?_ (ha2_len h) (by decide)]
  · exact haL_78 h hc0
  · unfold itakeL
    simp only [List.length_set]
    exact ha_hearlen h
theorem haL_79 {B : Br} {k : Nat} {m : MsgT} (h : k * 89 + 89 ≤ B.ps.length) (hc0 : decide ((c4 (pI m.1 8) (pI m.1 9) (pI m.1 10) (pI m.1 11) (B.gi k 68) (B.gi k 69) (B.gi k 70) (B.gi k 71)) < 0) = true) : pI (itakeL (B.hb 1) (ha2P B k m)) 79 = pI m.1 14 := by
  have hl := ha2_plen (B := B) (k := k) (m := m) h
  unfold itakeL
  rw [show clsL (ha2P B k m) = 0 from (ha_cls h).trans (cls_less hc0)]
  obtain ⟨v22, hv⟩ := sup_cfg hl (ha2P_51 h) (B.hb 1)
  rw [hv]
  unfold iask
  simp [pI_set_ne, pB_set_ne, pI_set_same, pB_set_same, hl, ha2P_59 h, ha2P_60 h, ha2P_61 h, ha2P_62 h, ha2P_63 h, ha2P_64 h, ha2P_65 h, ha2P_66 h, ha2P_67 h]
theorem haLT_79 {B : Br} {k : Nat} {m : MsgT} (h : k * 89 + 89 ≤ B.ps.length) (hc0 : decide ((c4 (pI m.1 8) (pI m.1 9) (pI m.1 10) (pI m.1 11) (B.gi k 68) (B.gi k 69) (B.gi k 70) (B.gi k 71)) < 0) = true) : (haT B k m).gi k 79 = pI m.1 14 := by
  unfold haT
  rw [gi_setPort ?_ (ha2_len h) (by decide)]
  · exact haL_79 h hc0
  · unfold itakeL
    simp only [List.length_set]
    exact ha_hearlen h
theorem haL_80 {B : Br} {k : Nat} {m : MsgT} (h : k * 89 + 89 ≤ B.ps.length) (hc0 : decide ((c4 (pI m.1 8) (pI m.1 9) (pI m.1 10) (pI m.1 11) (B.gi k 68) (B.gi k 69) (B.gi k 70) (B.gi k 71)) < 0) = true) : pI (itakeL (B.hb 1) (ha2P B k m)) 80 = pI m.1 15 := by
  have hl := ha2_plen (B := B) (k := k) (m := m) h
  unfold itakeL
  rw [show clsL (ha2P B k m) = 0 from (ha_cls h).trans (cls_less hc0)]
  obtain ⟨v22, hv⟩ := sup_cfg hl (ha2P_51 h) (B.hb 1)
  rw [hv]
  unfold iask
  simp [pI_set_ne, pB_set_ne, pI_set_same, pB_set_same, hl, ha2P_59 h, ha2P_60 h, ha2P_61 h, ha2P_62 h, ha2P_63 h, ha2P_64 h, ha2P_65 h, ha2P_66 h, ha2P_67 h]
theorem haLT_80 {B : Br} {k : Nat} {m : MsgT} (h : k * 89 + 89 ≤ B.ps.length) (hc0 : decide ((c4 (pI m.1 8) (pI m.1 9) (pI m.1 10) (pI m.1 11) (B.gi k 68) (B.gi k 69) (B.gi k 70) (B.gi k 71)) < 0) = true) : (haT B k m).gi k 80 = pI m.1 15 := by
  unfold haT
  rw [gi_setPort ?_ (ha2_len h) (by decide)]
  · exact haL_80 h hc0
  · unfold itakeL
    simp only [List.length_set]
    exact ha_hearlen h
theorem haL_81 {B : Br} {k : Nat} {m : MsgT} (h : k * 89 + 89 ≤ B.ps.length) (hc0 : decide ((c4 (pI m.1 8) (pI m.1 9) (pI m.1 10) (pI m.1 11) (B.gi k 68) (B.gi k 69) (B.gi k 70) (B.gi k 71)) < 0) = true) : pI (itakeL (B.hb 1) (ha2P B k m)) 81 = pI m.1 16 := by
  have hl := ha2_plen (B := B) (k := k) (m := m) h
  unfold itakeL
  rw [show clsL (ha2P B k m) = 0 from (ha_cls h).trans (cls_less hc0)]
  obtain ⟨v22, hv⟩ := sup_cfg hl (ha2P_51 h) (B.hb 1)
  rw [hv]
  unfold iask
  simp [pI_set_ne, pB_set_ne, pI_set_same, pB_set_same, hl, ha2P_59 h, ha2P_60 h, ha2P_61 h, ha2P_62 h, ha2P_63 h, ha2P_64 h, ha2P_65 h, ha2P_66 h, ha2P_67 h]
theorem haLT_81 {B : Br} {k : Nat} {m : MsgT} (h : k * 89 + 89 ≤ B.ps.length) (hc0 : decide ((c4 (pI m.1 8) (pI m.1 9) (pI m.1 10) (pI m.1 11) (B.gi k 68) (B.gi k 69) (B.gi k 70) (B.gi k 71)) < 0) = true) : (haT B k m).gi k 81 = pI m.1 16 := by
  unfold haT
  rw [gi_setPort ?_ (ha2_len h) (by decide)]
  · exact haL_81 h hc0
  · unfold itakeL
    simp only [List.length_set]
    exact ha_hearlen h
theorem haL_86 {B : Br} {k : Nat} {m : MsgT} (h : k * 89 + 89 ≤ B.ps.length) (hc0 : decide ((c4 (pI m.1 8) (pI m.1 9) (pI m.1 10) (pI m.1 11) (B.gi k 68) (B.gi k 69) (B.gi k 70) (B.gi k 71)) < 0) = true) : pI (itakeL (B.hb 1) (ha2P B k m)) 86 = 3 := by
  have hl := ha2_plen (B := B) (k := k) (m := m) h
  unfold itakeL
  rw [show clsL (ha2P B k m) = 0 from (ha_cls h).trans (cls_less hc0)]
  obtain ⟨v22, hv⟩ := sup_cfg hl (ha2P_51 h) (B.hb 1)
  rw [hv]
  unfold iask
  simp [pI_set_ne, pB_set_ne, pI_set_same, pB_set_same, hl, ha2P_59 h, ha2P_60 h, ha2P_61 h, ha2P_62 h, ha2P_63 h, ha2P_64 h, ha2P_65 h, ha2P_66 h, ha2P_67 h]
theorem haLT_86 {B : Br} {k : Nat} {m : MsgT} (h : k * 89 + 89 ≤ B.ps.length) (hc0 : decide ((c4 (pI m.1 8) (pI m.1 9) (pI m.1 10) (pI m.1 11) (B.gi k 68) (B.gi k 69) (B.gi k 70) (B.gi k 71)) < 0) = true) : (haT B k m).gi k 86 = 3 := by
  unfold haT
  rw [gi_setPort ?_ (ha2_len h) (by decide)]
  · exact haL_86 h hc0
  · unfold itakeL
    simp only [List.length_set]
    exact ha_hearlen h
theorem haL_11 {B : Br} {k : Nat} {m : MsgT} (h : k * 89 + 89 ≤ B.ps.length) (hc0 : decide ((c4 (pI m.1 8) (pI m.1 9) (pI m.1 10) (pI m.1 11) (B.gi k 68) (B.gi k 69) (B.gi k 70) (B.gi k 71)) < 0) = true) : pI (itakeL (B.hb 1) (ha2P B k m)) 11 = waitsV (pI m.1 13) (pI m.1 14) (pI m.1 15) := by
  have hl := ha2_plen (B := B) (k := k) (m := m) h
  unfold itakeL
  rw [show clsL (ha2P B k m) = 0 from (ha_cls h).trans (cls_less hc0)]
  obtain ⟨v22, hv⟩ := sup_cfg hl (ha2P_51 h) (B.hb 1)
  rw [hv]
  unfold iask
  simp [pI_set_ne, pB_set_ne, pI_set_same, pB_set_same, hl, ha2P_59 h, ha2P_60 h, ha2P_61 h, ha2P_62 h, ha2P_63 h, ha2P_64 h, ha2P_65 h, ha2P_66 h, ha2P_67 h]
theorem haLT_11 {B : Br} {k : Nat} {m : MsgT} (h : k * 89 + 89 ≤ B.ps.length) (hc0 : decide ((c4 (pI m.1 8) (pI m.1 9) (pI m.1 10) (pI m.1 11) (B.gi k 68) (B.gi k 69) (B.gi k 70) (B.gi k 71)) < 0) = true) : (haT B k m).gi k 11 = waitsV (pI m.1 13) (pI m.1 14) (pI m.1 15) := by
  unfold haT
  rw [gi_setPort ?_ (ha2_len h) (by decide)]
  · exact haL_11 h hc0
  · unfold itakeL
    simp only [List.length_set]
    exact ha_hearlen h
theorem haL_43 {B : Br} {k : Nat} {m : MsgT} (h : k * 89 + 89 ≤ B.ps.length) (hc0 : decide ((c4 (pI m.1 8) (pI m.1 9) (pI m.1 10) (pI m.1 11) (B.gi k 68) (B.gi k 69) (B.gi k 70) (B.gi k 71)) < 0) = true) : pB (itakeL (B.hb 1) (ha2P B k m)) 43 = true := by
  have hl := ha2_plen (B := B) (k := k) (m := m) h
  unfold itakeL
  rw [show clsL (ha2P B k m) = 0 from (ha_cls h).trans (cls_less hc0)]
  obtain ⟨v22, hv⟩ := sup_cfg hl (ha2P_51 h) (B.hb 1)
  rw [hv]
  unfold iask
  simp [pI_set_ne, pB_set_ne, pI_set_same, pB_set_same, hl, ha2P_59 h, ha2P_60 h, ha2P_61 h, ha2P_62 h, ha2P_63 h, ha2P_64 h, ha2P_65 h, ha2P_66 h, ha2P_67 h]
theorem haLT_43 {B : Br} {k : Nat} {m : MsgT} (h : k * 89 + 89 ≤ B.ps.length) (hc0 : decide ((c4 (pI m.1 8) (pI m.1 9) (pI m.1 10) (pI m.1 11) (B.gi k 68) (B.gi k 69) (B.gi k 70) (B.gi k 71)) < 0) = true) : (haT B k m).gb k 43 = true := by
  unfold haT
  rw [gb_setPort ?_ (ha2_len h) (by decide)]
  · exact haL_43 h hc0
  · unfold itakeL
    simp only [List.length_set]
    exact ha_hearlen h
theorem haL_44 {B : Br} {k : Nat} {m : MsgT} (h : k * 89 + 89 ≤ B.ps.length) (hc0 : decide ((c4 (pI m.1 8) (pI m.1 9) (pI m.1 10) (pI m.1 11) (B.gi k 68) (B.gi k 69) (B.gi k 70) (B.gi k 71)) < 0) = true) : pB (itakeL (B.hb 1) (ha2P B k m)) 44 = false := by
  have hl := ha2_plen (B := B) (k := k) (m := m) h
  unfold itakeL
  rw [show clsL (ha2P B k m) = 0 from (ha_cls h).trans (cls_less hc0)]
  obtain ⟨v22, hv⟩ := sup_cfg hl (ha2P_51 h) (B.hb 1)
  rw [hv]
  unfold iask
  simp [pI_set_ne, pB_set_ne, pI_set_same, pB_set_same, hl, ha2P_59 h, ha2P_60 h, ha2P_61 h, ha2P_62 h, ha2P_63 h, ha2P_64 h, ha2P_65 h, ha2P_66 h, ha2P_67 h]
theorem haLT_44 {B : Br} {k : Nat} {m : MsgT} (h : k * 89 + 89 ≤ B.ps.length) (hc0 : decide ((c4 (pI m.1 8) (pI m.1 9) (pI m.1 10) (pI m.1 11) (B.gi k 68) (B.gi k 69) (B.gi k 70) (B.gi k 71)) < 0) = true) : (haT B k m).gb k 44 = false := by
  unfold haT
  rw [gb_setPort ?_ (ha2_len h) (by decide)]
  · exact haL_44 h hc0
  · unfold itakeL
    simp only [List.length_set]
    exact ha_hearlen h
theorem haL_36 {B : Br} {k : Nat} {m : MsgT} (h : k * 89 + 89 ≤ B.ps.length) (hc0 : decide ((c4 (pI m.1 8) (pI m.1 9) (pI m.1 10) (pI m.1 11) (B.gi k 68) (B.gi k 69) (B.gi k 70) (B.gi k 71)) < 0) = true) : pB (itakeL (B.hb 1) (ha2P B k m)) 36 = false := by
  have hl := ha2_plen (B := B) (k := k) (m := m) h
  unfold itakeL
  rw [show clsL (ha2P B k m) = 0 from (ha_cls h).trans (cls_less hc0)]
  obtain ⟨v22, hv⟩ := sup_cfg hl (ha2P_51 h) (B.hb 1)
  rw [hv]
  unfold iask
  simp [pI_set_ne, pB_set_ne, pI_set_same, pB_set_same, hl, ha2P_59 h, ha2P_60 h, ha2P_61 h, ha2P_62 h, ha2P_63 h, ha2P_64 h, ha2P_65 h, ha2P_66 h, ha2P_67 h]
theorem haLT_36 {B : Br} {k : Nat} {m : MsgT} (h : k * 89 + 89 ≤ B.ps.length) (hc0 : decide ((c4 (pI m.1 8) (pI m.1 9) (pI m.1 10) (pI m.1 11) (B.gi k 68) (B.gi k 69) (B.gi k 70) (B.gi k 71)) < 0) = true) : (haT B k m).gb k 36 = false := by
  unfold haT
  rw [gb_setPort ?_ (ha2_len h) (by decide)]
  · exact haL_36 h hc0
  · unfold itakeL
    simp only [List.length_set]
    exact ha_hearlen h
theorem haS_11 {B : Br} {k : Nat} {m : MsgT} (h : k * 89 + 89 ≤ B.ps.length) (ht : (tell (pI m.1 10) (pI m.1 11) (B.gi k 70) (B.gi k 71)) = true) : pI (itakeL (B.hb 1) (ha2P B k m)) 11 = waitsV (pI m.1 13) (pI m.1 14) (pI m.1 15) := by
  have hl := ha2_plen (B := B) (k := k) (m := m) h
  unfold itakeL
  rcases (show clsL (ha2P B k m) = 0 ∨ clsL (ha2P B k m) = 1 by rw [ha_cls h, ht]; exact cls_sup) with hc | hc
  · rw [hc]
    obtain ⟨v22, hv⟩ := sup_cfg hl (ha2P_51 h) (B.hb 1)
    rw [hv]
    unfold iask
    simp [pI_set_ne, pB_set_ne, pI_set_same, pB_set_same, hl, ha2P_64 h, ha2P_65 h, ha2P_66 h]
  · rw [hc, rep_cfg (ha2P_51 h)]
    simp [pI_set_ne, pB_set_ne, pI_set_same, pB_set_same, hl, ha2P_64 h, ha2P_65 h, ha2P_66 h]
theorem haST_11 {B : Br} {k : Nat} {m : MsgT} (h : k * 89 + 89 ≤ B.ps.length) (ht : (tell (pI m.1 10) (pI m.1 11) (B.gi k 70) (B.gi k 71)) = true) : (haT B k m).gi k 11 = waitsV (pI m.1 13) (pI m.1 14) (pI m.1 15) := by
  unfold haT
  rw [gi_setPort ?_ (ha2_len h) (by decide)]
  · exact haS_11 h ht
  · unfold itakeL
    simp only [List.length_set]
    exact ha_hearlen h
theorem haS_36 {B : Br} {k : Nat} {m : MsgT} (h : k * 89 + 89 ≤ B.ps.length) (ht : (tell (pI m.1 10) (pI m.1 11) (B.gi k 70) (B.gi k 71)) = true) : pB (itakeL (B.hb 1) (ha2P B k m)) 36 = false := by
  have hl := ha2_plen (B := B) (k := k) (m := m) h
  unfold itakeL
  rcases (show clsL (ha2P B k m) = 0 ∨ clsL (ha2P B k m) = 1 by rw [ha_cls h, ht]; exact cls_sup) with hc | hc
  · rw [hc]
    obtain ⟨v22, hv⟩ := sup_cfg hl (ha2P_51 h) (B.hb 1)
    rw [hv]
    unfold iask
    simp [pI_set_ne, pB_set_ne, pI_set_same, pB_set_same, hl, ha2P_64 h, ha2P_65 h, ha2P_66 h]
  · rw [hc, rep_cfg (ha2P_51 h)]
    simp [pI_set_ne, pB_set_ne, pI_set_same, pB_set_same, hl, ha2P_64 h, ha2P_65 h, ha2P_66 h]
theorem haST_36 {B : Br} {k : Nat} {m : MsgT} (h : k * 89 + 89 ≤ B.ps.length) (ht : (tell (pI m.1 10) (pI m.1 11) (B.gi k 70) (B.gi k 71)) = true) : (haT B k m).gb k 36 = false := by
  unfold haT
  rw [gb_setPort ?_ (ha2_len h) (by decide)]
  · exact haS_36 h ht
  · unfold itakeL
    simp only [List.length_set]
    exact ha_hearlen h
theorem haI_36 {B : Br} {k : Nat} {m : MsgT} (h : k * 89 + 89 ≤ B.ps.length) (hc0 : decide ((c4 (pI m.1 8) (pI m.1 9) (pI m.1 10) (pI m.1 11) (B.gi k 68) (B.gi k 69) (B.gi k 70) (B.gi k 71)) < 0) = false) (ht : (tell (pI m.1 10) (pI m.1 11) (B.gi k 70) (B.gi k 71)) = false) : pB (itakeL (B.hb 1) (ha2P B k m)) 36 = false := by
  have hl := ha2_plen (B := B) (k := k) (m := m) h
  unfold itakeL
  rw [show clsL (ha2P B k m) = 2 from by rw [ha_cls h, ht]; exact cls_inf hc0 (fun h0 => by rw [tell_self h0] at ht; cases ht), inf_cfg (ha2P_51 h)]
  simp [pI_set_ne, pB_set_ne, pI_set_same, pB_set_same, hl, ha2P_68 h, ha2P_69 h, ha2P_70 h, ha2P_71 h, ha2P_72 h, ha2P_78 h, ha2P_79 h, ha2P_80 h, ha2P_81 h, ha2P_86 h, ha2P_6 h, ha2P_7 h, ha2P_8 h, ha2P_9 h, ha2P_10 h, ha2P_12 h, ha2P_13 h, ha2P_14 h, ha2P_11 h, ha2P_44 h]
theorem haIT_36 {B : Br} {k : Nat} {m : MsgT} (h : k * 89 + 89 ≤ B.ps.length) (hc0 : decide ((c4 (pI m.1 8) (pI m.1 9) (pI m.1 10) (pI m.1 11) (B.gi k 68) (B.gi k 69) (B.gi k 70) (B.gi k 71)) < 0) = false) (ht : (tell (pI m.1 10) (pI m.1 11) (B.gi k 70) (B.gi k 71)) = false) : (haT B k m).gb k 36 = false := by
  unfold haT
  rw [gb_setPort ?_ (ha2_len h) (by decide)]
  · exact haI_36 h hc0 ht
  · unfold itakeL
    simp only [List.length_set]
    exact ha_hearlen h
theorem haI_68 {B : Br} {k : Nat} {m : MsgT} (h : k * 89 + 89 ≤ B.ps.length) (hc0 : decide ((c4 (pI m.1 8) (pI m.1 9) (pI m.1 10) (pI m.1 11) (B.gi k 68) (B.gi k 69) (B.gi k 70) (B.gi k 71)) < 0) = false) (ht : (tell (pI m.1 10) (pI m.1 11) (B.gi k 70) (B.gi k 71)) = false) : pI (itakeL (B.hb 1) (ha2P B k m)) 68 = B.gi k 68 := by
  have hl := ha2_plen (B := B) (k := k) (m := m) h
  unfold itakeL
  rw [show clsL (ha2P B k m) = 2 from by rw [ha_cls h, ht]; exact cls_inf hc0 (fun h0 => by rw [tell_self h0] at ht; cases ht), inf_cfg (ha2P_51 h)]
  simp [pI_set_ne, pB_set_ne, pI_set_same, pB_set_same, hl, ha2P_68 h, ha2P_69 h, ha2P_70 h, ha2P_71 h, ha2P_72 h, ha2P_78 h, ha2P_79 h, ha2P_80 h, ha2P_81 h, ha2P_86 h, ha2P_6 h, ha2P_7 h, ha2P_8 h, ha2P_9 h, ha2P_10 h, ha2P_12 h, ha2P_13 h, ha2P_14 h, ha2P_11 h, ha2P_44 h]
theorem haIT_68 {B : Br} {k : Nat} {m : MsgT} (h : k * 89 + 89 ≤ B.ps.length) (hc0 : decide ((c4 (pI m.1 8) (pI m.1 9) (pI m.1 10) (pI m.1 11) (B.gi k 68) (B.gi k 69) (B.gi k 70) (B.gi k 71)) < 0) = false) (ht : (tell (pI m.1 10) (pI m.1 11) (B.gi k 70) (B.gi k 71)) = false) : (haT B k m).gi k 68 = B.gi k 68 := by
  unfold haT
  rw [gi_setPort ?_ (ha2_len h) (by decide)]
  · exact haI_68 h hc0 ht
  · unfold itakeL
    simp only [List.length_set]
    exact ha_hearlen h
theorem haI_69 {B : Br} {k : Nat} {m : MsgT} (h : k * 89 + 89 ≤ B.ps.length) (hc0 : decide ((c4 (pI m.1 8) (pI m.1 9) (pI m.1 10) (pI m.1 11) (B.gi k 68) (B.gi k 69) (B.gi k 70) (B.gi k 71)) < 0) = false) (ht : (tell (pI m.1 10) (pI m.1 11) (B.gi k 70) (B.gi k 71)) = false) : pI (itakeL (B.hb 1) (ha2P B k m)) 69 = B.gi k 69 := by
  have hl := ha2_plen (B := B) (k := k) (m := m) h
  unfold itakeL
  rw [show clsL (ha2P B k m) = 2 from by rw [ha_cls h, ht]; exact cls_inf hc0 (fun h0 => by rw [tell_self h0] at ht; cases ht), inf_cfg (ha2P_51 h)]
  simp [pI_set_ne, pB_set_ne, pI_set_same, pB_set_same, hl, ha2P_68 h, ha2P_69 h, ha2P_70 h, ha2P_71 h, ha2P_72 h, ha2P_78 h, ha2P_79 h, ha2P_80 h, ha2P_81 h, ha2P_86 h, ha2P_6 h, ha2P_7 h, ha2P_8 h, ha2P_9 h, ha2P_10 h, ha2P_12 h, ha2P_13 h, ha2P_14 h, ha2P_11 h, ha2P_44 h]
theorem haIT_69 {B : Br} {k : Nat} {m : MsgT} (h : k * 89 + 89 ≤ B.ps.length) (hc0 : decide ((c4 (pI m.1 8) (pI m.1 9) (pI m.1 10) (pI m.1 11) (B.gi k 68) (B.gi k 69) (B.gi k 70) (B.gi k 71)) < 0) = false) (ht : (tell (pI m.1 10) (pI m.1 11) (B.gi k 70) (B.gi k 71)) = false) : (haT B k m).gi k 69 = B.gi k 69 := by
  unfold haT
  rw [gi_setPort ?_ (ha2_len h) (by decide)]
  · exact haI_69 h hc0 ht
  · unfold itakeL
    simp only [List.length_set]
    exact ha_hearlen h
theorem haI_70 {B : Br} {k : Nat} {m : MsgT} (h : k * 89 + 89 ≤ B.ps.length) (hc0 : decide ((c4 (pI m.1 8) (pI m.1 9) (pI m.1 10) (pI m.1 11) (B.gi k 68) (B.gi k 69) (B.gi k 70) (B.gi k 71)) < 0) = false) (ht : (tell (pI m.1 10) (pI m.1 11) (B.gi k 70) (B.gi k 71)) = false) : pI (itakeL (B.hb 1) (ha2P B k m)) 70 = B.gi k 70 := by
  have hl := ha2_plen (B := B) (k := k) (m := m) h
  unfold itakeL
  rw [show clsL (ha2P B k m) = 2 from by rw [ha_cls h, ht]; exact cls_inf hc0 (fun h0 => by rw [tell_self h0] at ht; cases ht), inf_cfg (ha2P_51 h)]
  simp [pI_set_ne, pB_set_ne, pI_set_same, pB_set_same, hl, ha2P_68 h, ha2P_69 h, ha2P_70 h, ha2P_71 h, ha2P_72 h, ha2P_78 h, ha2P_79 h, ha2P_80 h, ha2P_81 h, ha2P_86 h, ha2P_6 h, ha2P_7 h, ha2P_8 h, ha2P_9 h, ha2P_10 h, ha2P_12 h, ha2P_13 h, ha2P_14 h, ha2P_11 h, ha2P_44 h]
theorem haIT_70 {B : Br} {k : Nat} {m : MsgT} (h : k * 89 + 89 ≤ B.ps.length) (hc0 : decide ((c4 (pI m.1 8) (pI m.1 9) (pI m.1 10) (pI m.1 11) (B.gi k 68) (B.gi k 69) (B.gi k 70) (B.gi k 71)) < 0) = false) (ht : (tell (pI m.1 10) (pI m.1 11) (B.gi k 70) (B.gi k 71)) = false) : (haT B k m).gi k 70 = B.gi k 70 := by
  unfold haT
  rw [gi_setPort ?_ (ha2_len h) (by decide)]
  · exact haI_70 h hc0 ht
  · unfold itakeL
    simp only [List.length_set]
    exact ha_hearlen h
theorem haI_71 {B : Br} {k : Nat} {m : MsgT} (h : k * 89 + 89 ≤ B.ps.length) (hc0 : decide ((c4 (pI m.1 8) (pI m.1 9) (pI m.1 10) (pI m.1 11) (B.gi k 68) (B.gi k 69) (B.gi k 70) (B.gi k 71)) < 0) = false) (ht : (tell (pI m.1 10) (pI m.1 11) (B.gi k 70) (B.gi k 71)) = false) : pI (itakeL (B.hb 1) (ha2P B k m)) 71 = B.gi k 71 := by
  have hl := ha2_plen (B := B) (k := k) (m := m) h
  unfold itakeL
  rw [show clsL (ha2P B k m) = 2 from by rw [ha_cls h, ht]; exact cls_inf hc0 (fun h0 => by rw [tell_self h0] at ht; cases ht), inf_cfg (ha2P_51 h)]
  simp [pI_set_ne, pB_set_ne, pI_set_same, pB_set_same, hl, ha2P_68 h, ha2P_69 h, ha2P_70 h, ha2P_71 h, ha2P_72 h, ha2P_78 h, ha2P_79 h, ha2P_80 h, ha2P_81 h, ha2P_86 h, ha2P_6 h, ha2P_7 h, ha2P_8 h, ha2P_9 h, ha2P_10 h, ha2P_12 h, ha2P_13 h, ha2P_14 h, ha2P_11 h, ha2P_44 h]
theorem haIT_71 {B : Br} {k : Nat} {m : MsgT} (h : k * 89 + 89 ≤ B.ps.length) (hc0 : decide ((c4 (pI m.1 8) (pI m.1 9) (pI m.1 10) (pI m.1 11) (B.gi k 68) (B.gi k 69) (B.gi k 70) (B.gi k 71)) < 0) = false) (ht : (tell (pI m.1 10) (pI m.1 11) (B.gi k 70) (B.gi k 71)) = false) : (haT B k m).gi k 71 = B.gi k 71 := by
  unfold haT
  rw [gi_setPort ?_ (ha2_len h) (by decide)]
  · exact haI_71 h hc0 ht
  · unfold itakeL
    simp only [List.length_set]
    exact ha_hearlen h
theorem haI_72 {B : Br} {k : Nat} {m : MsgT} (h : k * 89 + 89 ≤ B.ps.length) (hc0 : decide ((c4 (pI m.1 8) (pI m.1 9) (pI m.1 10) (pI m.1 11) (B.gi k 68) (B.gi k 69) (B.gi k 70) (B.gi k 71)) < 0) = false) (ht : (tell (pI m.1 10) (pI m.1 11) (B.gi k 70) (B.gi k 71)) = false) : pI (itakeL (B.hb 1) (ha2P B k m)) 72 = B.gi k 72 := by
  have hl := ha2_plen (B := B) (k := k) (m := m) h
  unfold itakeL
  rw [show clsL (ha2P B k m) = 2 from by rw [ha_cls h, ht]; exact cls_inf hc0 (fun h0 => by rw [tell_self h0] at ht; cases ht), inf_cfg (ha2P_51 h)]
  simp [pI_set_ne, pB_set_ne, pI_set_same, pB_set_same, hl, ha2P_68 h, ha2P_69 h, ha2P_70 h, ha2P_71 h, ha2P_72 h, ha2P_78 h, ha2P_79 h, ha2P_80 h, ha2P_81 h, ha2P_86 h, ha2P_6 h, ha2P_7 h, ha2P_8 h, ha2P_9 h, ha2P_10 h, ha2P_12 h, ha2P_13 h, ha2P_14 h, ha2P_11 h, ha2P_44 h]
theorem haIT_72 {B : Br} {k : Nat} {m : MsgT} (h : k * 89 + 89 ≤ B.ps.length) (hc0 : decide ((c4 (pI m.1 8) (pI m.1 9) (pI m.1 10) (pI m.1 11) (B.gi k 68) (B.gi k 69) (B.gi k 70) (B.gi k 71)) < 0) = false) (ht : (tell (pI m.1 10) (pI m.1 11) (B.gi k 70) (B.gi k 71)) = false) : (haT B k m).gi k 72 = B.gi k 72 := by
  unfold haT
  rw [gi_setPort ?_ (ha2_len h) (by decide)]
  · exact haI_72 h hc0 ht
  · unfold itakeL
    simp only [List.length_set]
    exact ha_hearlen h
theorem haI_78 {B : Br} {k : Nat} {m : MsgT} (h : k * 89 + 89 ≤ B.ps.length) (hc0 : decide ((c4 (pI m.1 8) (pI m.1 9) (pI m.1 10) (pI m.1 11) (B.gi k 68) (B.gi k 69) (B.gi k 70) (B.gi k 71)) < 0) = false) (ht : (tell (pI m.1 10) (pI m.1 11) (B.gi k 70) (B.gi k 71)) = false) : pI (itakeL (B.hb 1) (ha2P B k m)) 78 = B.gi k 78 := by
  have hl := ha2_plen (B := B) (k := k) (m := m) h
  unfold itakeL
  rw [show clsL (ha2P B k m) = 2 from by rw [ha_cls h, ht]; exact cls_inf hc0 (fun h0 => by rw [tell_self h0] at ht; cases ht), inf_cfg (ha2P_51 h)]
  simp [pI_set_ne, pB_set_ne, pI_set_same, pB_set_same, hl, ha2P_68 h, ha2P_69 h, ha2P_70 h, ha2P_71 h, ha2P_72 h, ha2P_78 h, ha2P_79 h, ha2P_80 h, ha2P_81 h, ha2P_86 h, ha2P_6 h, ha2P_7 h, ha2P_8 h, ha2P_9 h, ha2P_10 h, ha2P_12 h, ha2P_13 h, ha2P_14 h, ha2P_11 h, ha2P_44 h]
theorem haIT_78 {B : Br} {k : Nat} {m : MsgT} (h : k * 89 + 89 ≤ B.ps.length) (hc0 : decide ((c4 (pI m.1 8) (pI m.1 9) (pI m.1 10) (pI m.1 11) (B.gi k 68) (B.gi k 69) (B.gi k 70) (B.gi k 71)) < 0) = false) (ht : (tell (pI m.1 10) (pI m.1 11) (B.gi k 70) (B.gi k 71)) = false) : (haT B k m).gi k 78 = B.gi k 78 := by
  unfold haT
  rw [gi_setPort ?_ (ha2_len h) (by decide)]
  · exact haI_78 h hc0 ht
  · unfold itakeL
    simp only [List.length_set]
    exact ha_hearlen h
theorem haI_79 {B : Br} {k : Nat} {m : MsgT} (h : k * 89 + 89 ≤ B.ps.length) (hc0 : decide ((c4 (pI m.1 8) (pI m.1 9) (pI m.1 10) (pI m.1 11) (B.gi k 68) (B.gi k 69) (B.gi k 70) (B.gi k 71)) < 0) = false) (ht : (tell (pI m.1 10) (pI m.1 11) (B.gi k 70) (B.gi k 71)) = false) : pI (itakeL (B.hb 1) (ha2P B k m)) 79 = B.gi k 79 := by
  have hl := ha2_plen (B := B) (k := k) (m := m) h
  unfold itakeL
  rw [show clsL (ha2P B k m) = 2 from by rw [ha_cls h, ht]; exact cls_inf hc0 (fun h0 => by rw [tell_self h0] at ht; cases ht), inf_cfg (ha2P_51 h)]
  simp [pI_set_ne, pB_set_ne, pI_set_same, pB_set_same, hl, ha2P_68 h, ha2P_69 h, ha2P_70 h, ha2P_71 h, ha2P_72 h, ha2P_78 h, ha2P_79 h, ha2P_80 h, ha2P_81 h, ha2P_86 h, ha2P_6 h, ha2P_7 h, ha2P_8 h, ha2P_9 h, ha2P_10 h, ha2P_12 h, ha2P_13 h, ha2P_14 h, ha2P_11 h, ha2P_44 h]
theorem haIT_79 {B : Br} {k : Nat} {m : MsgT} (h : k * 89 + 89 ≤ B.ps.length) (hc0 : decide ((c4 (pI m.1 8) (pI m.1 9) (pI m.1 10) (pI m.1 11) (B.gi k 68) (B.gi k 69) (B.gi k 70) (B.gi k 71)) < 0) = false) (ht : (tell (pI m.1 10) (pI m.1 11) (B.gi k 70) (B.gi k 71)) = false) : (haT B k m).gi k 79 = B.gi k 79 := by
  unfold haT
  rw [gi_setPort ?_ (ha2_len h) (by decide)]
  · exact haI_79 h hc0 ht
  · unfold itakeL
    simp only [List.length_set]
    exact ha_hearlen h
theorem haI_80 {B : Br} {k : Nat} {m : MsgT} (h : k * 89 + 89 ≤ B.ps.length) (hc0 : decide ((c4 (pI m.1 8) (pI m.1 9) (pI m.1 10) (pI m.1 11) (B.gi k 68) (B.gi k 69) (B.gi k 70) (B.gi k 71)) < 0) = false) (ht : (tell (pI m.1 10) (pI m.1 11) (B.gi k 70) (B.gi k 71)) = false) : pI (itakeL (B.hb 1) (ha2P B k m)) 80 = B.gi k 80 := by
  have hl := ha2_plen (B := B) (k := k) (m := m) h
  unfold itakeL
  rw [show clsL (ha2P B k m) = 2 from by rw [ha_cls h, ht]; exact cls_inf hc0 (fun h0 => by rw [tell_self h0] at ht; cases ht), inf_cfg (ha2P_51 h)]
  simp [pI_set_ne, pB_set_ne, pI_set_same, pB_set_same, hl, ha2P_68 h, ha2P_69 h, ha2P_70 h, ha2P_71 h, ha2P_72 h, ha2P_78 h, ha2P_79 h, ha2P_80 h, ha2P_81 h, ha2P_86 h, ha2P_6 h, ha2P_7 h, ha2P_8 h, ha2P_9 h, ha2P_10 h, ha2P_12 h, ha2P_13 h, ha2P_14 h, ha2P_11 h, ha2P_44 h]
theorem haIT_80 {B : Br} {k : Nat} {m : MsgT} (h : k * 89 + 89 ≤ B.ps.length) (hc0 : decide ((c4 (pI m.1 8) (pI m.1 9) (pI m.1 10) (pI m.1 11) (B.gi k 68) (B.gi k 69) (B.gi k 70) (B.gi k 71)) < 0) = false) (ht : (tell (pI m.1 10) (pI m.1 11) (B.gi k 70) (B.gi k 71)) = false) : (haT B k m).gi k 80 = B.gi k 80 := by
  unfold haT
  rw [gi_setPort ?_ (ha2_len h) (by decide)]
  · exact haI_80 h hc0 ht
  · unfold itakeL
    simp only [List.length_set]
    exact ha_hearlen h
theorem haI_81 {B : Br} {k : Nat} {m : MsgT} (h : k * 89 + 89 ≤ B.ps.length) (hc0 : decide ((c4 (pI m.1 8) (pI m.1 9) (pI m.1 10) (pI m.1 11) (B.gi k 68) (B.gi k 69) (B.gi k 70) (B.gi k 71)) < 0) = false) (ht : (tell (pI m.1 10) (pI m.1 11) (B.gi k 70) (B.gi k 71)) = false) : pI (itakeL (B.hb 1) (ha2P B k m)) 81 = B.gi k 81 := by
  have hl := ha2_plen (B := B) (k := k) (m := m) h
  unfold itakeL
  rw [show clsL (ha2P B k m) = 2 from by rw [ha_cls h, ht]; exact cls_inf hc0 (fun h0 => by rw [tell_self h0] at ht; cases ht), inf_cfg (ha2P_51 h)]
  simp [pI_set_ne, pB_set_ne, pI_set_same, pB_set_same, hl, ha2P_68 h, ha2P_69 h, ha2P_70 h, ha2P_71 h, ha2P_72 h, ha2P_78 h, ha2P_79 h, ha2P_80 h, ha2P_81 h, ha2P_86 h, ha2P_6 h, ha2P_7 h, ha2P_8 h, ha2P_9 h, ha2P_10 h, ha2P_12 h, ha2P_13 h, ha2P_14 h, ha2P_11 h, ha2P_44 h]
theorem haIT_81 {B : Br} {k : Nat} {m : MsgT} (h : k * 89 + 89 ≤ B.ps.length) (hc0 : decide ((c4 (pI m.1 8) (pI m.1 9) (pI m.1 10) (pI m.1 11) (B.gi k 68) (B.gi k 69) (B.gi k 70) (B.gi k 71)) < 0) = false) (ht : (tell (pI m.1 10) (pI m.1 11) (B.gi k 70) (B.gi k 71)) = false) : (haT B k m).gi k 81 = B.gi k 81 := by
  unfold haT
  rw [gi_setPort ?_ (ha2_len h) (by decide)]
  · exact haI_81 h hc0 ht
  · unfold itakeL
    simp only [List.length_set]
    exact ha_hearlen h
theorem haI_86 {B : Br} {k : Nat} {m : MsgT} (h : k * 89 + 89 ≤ B.ps.length) (hc0 : decide ((c4 (pI m.1 8) (pI m.1 9) (pI m.1 10) (pI m.1 11) (B.gi k 68) (B.gi k 69) (B.gi k 70) (B.gi k 71)) < 0) = false) (ht : (tell (pI m.1 10) (pI m.1 11) (B.gi k 70) (B.gi k 71)) = false) : pI (itakeL (B.hb 1) (ha2P B k m)) 86 = B.gi k 86 := by
  have hl := ha2_plen (B := B) (k := k) (m := m) h
  unfold itakeL
  rw [show clsL (ha2P B k m) = 2 from by rw [ha_cls h, ht]; exact cls_inf hc0 (fun h0 => by rw [tell_self h0] at ht; cases ht), inf_cfg (ha2P_51 h)]
  simp [pI_set_ne, pB_set_ne, pI_set_same, pB_set_same, hl, ha2P_68 h, ha2P_69 h, ha2P_70 h, ha2P_71 h, ha2P_72 h, ha2P_78 h, ha2P_79 h, ha2P_80 h, ha2P_81 h, ha2P_86 h, ha2P_6 h, ha2P_7 h, ha2P_8 h, ha2P_9 h, ha2P_10 h, ha2P_12 h, ha2P_13 h, ha2P_14 h, ha2P_11 h, ha2P_44 h]
theorem haIT_86 {B : Br} {k : Nat} {m : MsgT} (h : k * 89 + 89 ≤ B.ps.length) (hc0 : decide ((c4 (pI m.1 8) (pI m.1 9) (pI m.1 10) (pI m.1 11) (B.gi k 68) (B.gi k 69) (B.gi k 70) (B.gi k 71)) < 0) = false) (ht : (tell (pI m.1 10) (pI m.1 11) (B.gi k 70) (B.gi k 71)) = false) : (haT B k m).gi k 86 = B.gi k 86 := by
  unfold haT
  rw [gi_setPort ?_ (ha2_len h) (by decide)]
  · exact haI_86 h hc0 ht
  · unfold itakeL
    simp only [List.length_set]
    exact ha_hearlen h
theorem haI_6 {B : Br} {k : Nat} {m : MsgT} (h : k * 89 + 89 ≤ B.ps.length) (hc0 : decide ((c4 (pI m.1 8) (pI m.1 9) (pI m.1 10) (pI m.1 11) (B.gi k 68) (B.gi k 69) (B.gi k 70) (B.gi k 71)) < 0) = false) (ht : (tell (pI m.1 10) (pI m.1 11) (B.gi k 70) (B.gi k 71)) = false) : pI (itakeL (B.hb 1) (ha2P B k m)) 6 = B.gi k 6 := by
  have hl := ha2_plen (B := B) (k := k) (m := m) h
  unfold itakeL
  rw [show clsL (ha2P B k m) = 2 from by rw [ha_cls h, ht]; exact cls_inf hc0 (fun h0 => by rw [tell_self h0] at ht; cases ht), inf_cfg (ha2P_51 h)]
  simp [pI_set_ne, pB_set_ne, pI_set_same, pB_set_same, hl, ha2P_68 h, ha2P_69 h, ha2P_70 h, ha2P_71 h, ha2P_72 h, ha2P_78 h, ha2P_79 h, ha2P_80 h, ha2P_81 h, ha2P_86 h, ha2P_6 h, ha2P_7 h, ha2P_8 h, ha2P_9 h, ha2P_10 h, ha2P_12 h, ha2P_13 h, ha2P_14 h, ha2P_11 h, ha2P_44 h]
theorem haIT_6 {B : Br} {k : Nat} {m : MsgT} (h : k * 89 + 89 ≤ B.ps.length) (hc0 : decide ((c4 (pI m.1 8) (pI m.1 9) (pI m.1 10) (pI m.1 11) (B.gi k 68) (B.gi k 69) (B.gi k 70) (B.gi k 71)) < 0) = false) (ht : (tell (pI m.1 10) (pI m.1 11) (B.gi k 70) (B.gi k 71)) = false) : (haT B k m).gi k 6 = B.gi k 6 := by
  unfold haT
  rw [gi_setPort ?_ (ha2_len h) (by decide)]
  · exact haI_6 h hc0 ht
  · unfold itakeL
    simp only [List.length_set]
    exact ha_hearlen h
theorem haI_7 {B : Br} {k : Nat} {m : MsgT} (h : k * 89 + 89 ≤ B.ps.length) (hc0 : decide ((c4 (pI m.1 8) (pI m.1 9) (pI m.1 10) (pI m.1 11) (B.gi k 68) (B.gi k 69) (B.gi k 70) (B.gi k 71)) < 0) = false) (ht : (tell (pI m.1 10) (pI m.1 11) (B.gi k 70) (B.gi k 71)) = false) : pI (itakeL (B.hb 1) (ha2P B k m)) 7 = B.gi k 7 := by
  have hl := ha2_plen (B := B) (k := k) (m := m) h
  unfold itakeL
  rw [show clsL (ha2P B k m) = 2 from by rw [ha_cls h, ht]; exact cls_inf hc0 (fun h0 => by rw [tell_self h0] at ht; cases ht), inf_cfg (ha2P_51 h)]
  simp [pI_set_ne, pB_set_ne, pI_set_same, pB_set_same, hl, ha2P_68 h, ha2P_69 h, ha2P_70 h, ha2P_71 h, ha2P_72 h, ha2P_78 h, ha2P_79 h, ha2P_80 h, ha2P_81 h, ha2P_86 h, ha2P_6 h, ha2P_7 h, ha2P_8 h, ha2P_9 h, ha2P_10 h, ha2P_12 h, ha2P_13 h, ha2P_14 h, ha2P_11 h, ha2P_44 h]
theorem haIT_7 {B : Br} {k : Nat} {m : MsgT} (h : k * 89 + 89 ≤ B.ps.length) (hc0 : decide ((c4 (pI m.1 8) (pI m.1 9) (pI m.1 10) (pI m.1 11) (B.gi k 68) (B.gi k 69) (B.gi k 70) (B.gi k 71)) < 0) = false) (ht : (tell (pI m.1 10) (pI m.1 11) (B.gi k 70) (B.gi k 71)) = false) : (haT B k m).gi k 7 = B.gi k 7 := by
  unfold haT
  rw [gi_setPort ?_ (ha2_len h) (by decide)]
  · exact haI_7 h hc0 ht
  · unfold itakeL
    simp only [List.length_set]
    exact ha_hearlen h
theorem haI_8 {B : Br} {k : Nat} {m : MsgT} (h : k * 89 + 89 ≤ B.ps.length) (hc0 : decide ((c4 (pI m.1 8) (pI m.1 9) (pI m.1 10) (pI m.1 11) (B.gi k 68) (B.gi k 69) (B.gi k 70) (B.gi k 71)) < 0) = false) (ht : (tell (pI m.1 10) (pI m.1 11) (B.gi k 70) (B.gi k 71)) = false) : pI (itakeL (B.hb 1) (ha2P B k m)) 8 = B.gi k 8 := by
  have hl := ha2_plen (B := B) (k := k) (m := m) h
  unfold itakeL
  rw [show clsL (ha2P B k m) = 2 from by rw [ha_cls h, ht]; exact cls_inf hc0 (fun h0 => by rw [tell_self h0] at ht; cases ht), inf_cfg (ha2P_51 h)]
  simp [pI_set_ne, pB_set_ne, pI_set_same, pB_set_same, hl, ha2P_68 h, ha2P_69 h, ha2P_70 h, ha2P_71 h, ha2P_72 h, ha2P_78 h, ha2P_79 h, ha2P_80 h, ha2P_81 h, ha2P_86 h, ha2P_6 h, ha2P_7 h, ha2P_8 h, ha2P_9 h, ha2P_10 h, ha2P_12 h, ha2P_13 h, ha2P_14 h, ha2P_11 h, ha2P_44 h]
theorem haIT_8 {B : Br} {k : Nat} {m : MsgT} (h : k * 89 + 89 ≤ B.ps.length) (hc0 : decide ((c4 (pI m.1 8) (pI m.1 9) (pI m.1 10) (pI m.1 11) (B.gi k 68) (B.gi k 69) (B.gi k 70) (B.gi k 71)) < 0) = false) (ht : (tell (pI m.1 10) (pI m.1 11) (B.gi k 70) (B.gi k 71)) = false) : (haT B k m).gi k 8 = B.gi k 8 := by
  unfold haT
  rw [gi_setPort ?_ (ha2_len h) (by decide)]
  · exact haI_8 h hc0 ht
  · unfold itakeL
    simp only [List.length_set]
    exact ha_hearlen h
theorem haI_9 {B : Br} {k : Nat} {m : MsgT} (h : k * 89 + 89 ≤ B.ps.length) (hc0 : decide ((c4 (pI m.1 8) (pI m.1 9) (pI m.1 10) (pI m.1 11) (B.gi k 68) (B.gi k 69) (B.gi k 70) (B.gi k 71)) < 0) = false) (ht : (tell (pI m.1 10) (pI m.1 11) (B.gi k 70) (B.gi k 71)) = false) : pI (itakeL (B.hb 1) (ha2P B k m)) 9 = B.gi k 9 := by
  have hl := ha2_plen (B := B) (k := k) (m := m) h
  unfold itakeL
  rw [show clsL (ha2P B k m) = 2 from by rw [ha_cls h, ht]; exact cls_inf hc0 (fun h0 => by rw [tell_self h0] at ht; cases ht), inf_cfg (ha2P_51 h)]
  simp [pI_set_ne, pB_set_ne, pI_set_same, pB_set_same, hl, ha2P_68 h, ha2P_69 h, ha2P_70 h, ha2P_71 h, ha2P_72 h, ha2P_78 h, ha2P_79 h, ha2P_80 h, ha2P_81 h, ha2P_86 h, ha2P_6 h, ha2P_7 h, ha2P_8 h, ha2P_9 h, ha2P_10 h, ha2P_12 h, ha2P_13 h, ha2P_14 h, ha2P_11 h, ha2P_44 h]
theorem haIT_9 {B : Br} {k : Nat} {m : MsgT} (h : k * 89 + 89 ≤ B.ps.length) (hc0 : decide ((c4 (pI m.1 8) (pI m.1 9) (pI m.1 10) (pI m.1 11) (B.gi k 68) (B.gi k 69) (B.gi k 70) (B.gi k 71)) < 0) = false) (ht : (tell (pI m.1 10) (pI m.1 11) (B.gi k 70) (B.gi k 71)) = false) : (haT B k m).gi k 9 = B.gi k 9 := by
  unfold haT
  rw [gi_setPort ?_ (ha2_len h) (by decide)]
  · exact haI_9 h hc0 ht
  · unfold itakeL
    simp only [List.length_set]
    exact ha_hearlen h
theorem haI_10 {B : Br} {k : Nat} {m : MsgT} (h : k * 89 + 89 ≤ B.ps.length) (hc0 : decide ((c4 (pI m.1 8) (pI m.1 9) (pI m.1 10) (pI m.1 11) (B.gi k 68) (B.gi k 69) (B.gi k 70) (B.gi k 71)) < 0) = false) (ht : (tell (pI m.1 10) (pI m.1 11) (B.gi k 70) (B.gi k 71)) = false) : pI (itakeL (B.hb 1) (ha2P B k m)) 10 = B.gi k 10 := by
  have hl := ha2_plen (B := B) (k := k) (m := m) h
  unfold itakeL
  rw [show clsL (ha2P B k m) = 2 from by rw [ha_cls h, ht]; exact cls_inf hc0 (fun h0 => by rw [tell_self h0] at ht; cases ht), inf_cfg (ha2P_51 h)]
  simp [pI_set_ne, pB_set_ne, pI_set_same, pB_set_same, hl, ha2P_68 h, ha2P_69 h, ha2P_70 h, ha2P_71 h, ha2P_72 h, ha2P_78 h, ha2P_79 h, ha2P_80 h, ha2P_81 h, ha2P_86 h, ha2P_6 h, ha2P_7 h, ha2P_8 h, ha2P_9 h, ha2P_10 h, ha2P_12 h, ha2P_13 h, ha2P_14 h, ha2P_11 h, ha2P_44 h]
theorem haIT_10 {B : Br} {k : Nat} {m : MsgT} (h : k * 89 + 89 ≤ B.ps.length) (hc0 : decide ((c4 (pI m.1 8) (pI m.1 9) (pI m.1 10) (pI m.1 11) (B.gi k 68) (B.gi k 69) (B.gi k 70) (B.gi k 71)) < 0) = false) (ht : (tell (pI m.1 10) (pI m.1 11) (B.gi k 70) (B.gi k 71)) = false) : (haT B k m).gi k 10 = B.gi k 10 := by
  unfold haT
  rw [gi_setPort ?_ (ha2_len h) (by decide)]
  · exact haI_10 h hc0 ht
  · unfold itakeL
    simp only [List.length_set]
    exact ha_hearlen h
theorem haI_12 {B : Br} {k : Nat} {m : MsgT} (h : k * 89 + 89 ≤ B.ps.length) (hc0 : decide ((c4 (pI m.1 8) (pI m.1 9) (pI m.1 10) (pI m.1 11) (B.gi k 68) (B.gi k 69) (B.gi k 70) (B.gi k 71)) < 0) = false) (ht : (tell (pI m.1 10) (pI m.1 11) (B.gi k 70) (B.gi k 71)) = false) : pI (itakeL (B.hb 1) (ha2P B k m)) 12 = B.gi k 12 := by
  have hl := ha2_plen (B := B) (k := k) (m := m) h
  unfold itakeL
  rw [show clsL (ha2P B k m) = 2 from by rw [ha_cls h, ht]; exact cls_inf hc0 (fun h0 => by rw [tell_self h0] at ht; cases ht), inf_cfg (ha2P_51 h)]
  simp [pI_set_ne, pB_set_ne, pI_set_same, pB_set_same, hl, ha2P_68 h, ha2P_69 h, ha2P_70 h, ha2P_71 h, ha2P_72 h, ha2P_78 h, ha2P_79 h, ha2P_80 h, ha2P_81 h, ha2P_86 h, ha2P_6 h, ha2P_7 h, ha2P_8 h, ha2P_9 h, ha2P_10 h, ha2P_12 h, ha2P_13 h, ha2P_14 h, ha2P_11 h, ha2P_44 h]
theorem haIT_12 {B : Br} {k : Nat} {m : MsgT} (h : k * 89 + 89 ≤ B.ps.length) (hc0 : decide ((c4 (pI m.1 8) (pI m.1 9) (pI m.1 10) (pI m.1 11) (B.gi k 68) (B.gi k 69) (B.gi k 70) (B.gi k 71)) < 0) = false) (ht : (tell (pI m.1 10) (pI m.1 11) (B.gi k 70) (B.gi k 71)) = false) : (haT B k m).gi k 12 = B.gi k 12 := by
  unfold haT
  rw [gi_setPort ?_ (ha2_len h) (by decide)]
  · exact haI_12 h hc0 ht
  · unfold itakeL
    simp only [List.length_set]
    exact ha_hearlen h
theorem haI_13 {B : Br} {k : Nat} {m : MsgT} (h : k * 89 + 89 ≤ B.ps.length) (hc0 : decide ((c4 (pI m.1 8) (pI m.1 9) (pI m.1 10) (pI m.1 11) (B.gi k 68) (B.gi k 69) (B.gi k 70) (B.gi k 71)) < 0) = false) (ht : (tell (pI m.1 10) (pI m.1 11) (B.gi k 70) (B.gi k 71)) = false) : pI (itakeL (B.hb 1) (ha2P B k m)) 13 = B.gi k 13 := by
  have hl := ha2_plen (B := B) (k := k) (m := m) h
  unfold itakeL
  rw [show clsL (ha2P B k m) = 2 from by rw [ha_cls h, ht]; exact cls_inf hc0 (fun h0 => by rw [tell_self h0] at ht; cases ht), inf_cfg (ha2P_51 h)]
  simp [pI_set_ne, pB_set_ne, pI_set_same, pB_set_same, hl, ha2P_68 h, ha2P_69 h, ha2P_70 h, ha2P_71 h, ha2P_72 h, ha2P_78 h, ha2P_79 h, ha2P_80 h, ha2P_81 h, ha2P_86 h, ha2P_6 h, ha2P_7 h, ha2P_8 h, ha2P_9 h, ha2P_10 h, ha2P_12 h, ha2P_13 h, ha2P_14 h, ha2P_11 h, ha2P_44 h]
theorem haIT_13 {B : Br} {k : Nat} {m : MsgT} (h : k * 89 + 89 ≤ B.ps.length) (hc0 : decide ((c4 (pI m.1 8) (pI m.1 9) (pI m.1 10) (pI m.1 11) (B.gi k 68) (B.gi k 69) (B.gi k 70) (B.gi k 71)) < 0) = false) (ht : (tell (pI m.1 10) (pI m.1 11) (B.gi k 70) (B.gi k 71)) = false) : (haT B k m).gi k 13 = B.gi k 13 := by
  unfold haT
  rw [gi_setPort ?_ (ha2_len h) (by decide)]
  · exact haI_13 h hc0 ht
  · unfold itakeL
    simp only [List.length_set]
    exact ha_hearlen h
theorem haI_14 {B : Br} {k : Nat} {m : MsgT} (h : k * 89 + 89 ≤ B.ps.length) (hc0 : decide ((c4 (pI m.1 8) (pI m.1 9) (pI m.1 10) (pI m.1 11) (B.gi k 68) (B.gi k 69) (B.gi k 70) (B.gi k 71)) < 0) = false) (ht : (tell (pI m.1 10) (pI m.1 11) (B.gi k 70) (B.gi k 71)) = false) : pI (itakeL (B.hb 1) (ha2P B k m)) 14 = B.gi k 14 := by
  have hl := ha2_plen (B := B) (k := k) (m := m) h
  unfold itakeL
  rw [show clsL (ha2P B k m) = 2 from by rw [ha_cls h, ht]; exact cls_inf hc0 (fun h0 => by rw [tell_self h0] at ht; cases ht), inf_cfg (ha2P_51 h)]
  simp [pI_set_ne, pB_set_ne, pI_set_same, pB_set_same, hl, ha2P_68 h, ha2P_69 h, ha2P_70 h, ha2P_71 h, ha2P_72 h, ha2P_78 h, ha2P_79 h, ha2P_80 h, ha2P_81 h, ha2P_86 h, ha2P_6 h, ha2P_7 h, ha2P_8 h, ha2P_9 h, ha2P_10 h, ha2P_12 h, ha2P_13 h, ha2P_14 h, ha2P_11 h, ha2P_44 h]
theorem haIT_14 {B : Br} {k : Nat} {m : MsgT} (h : k * 89 + 89 ≤ B.ps.length) (hc0 : decide ((c4 (pI m.1 8) (pI m.1 9) (pI m.1 10) (pI m.1 11) (B.gi k 68) (B.gi k 69) (B.gi k 70) (B.gi k 71)) < 0) = false) (ht : (tell (pI m.1 10) (pI m.1 11) (B.gi k 70) (B.gi k 71)) = false) : (haT B k m).gi k 14 = B.gi k 14 := by
  unfold haT
  rw [gi_setPort ?_ (ha2_len h) (by decide)]
  · exact haI_14 h hc0 ht
  · unfold itakeL
    simp only [List.length_set]
    exact ha_hearlen h
theorem haI_11 {B : Br} {k : Nat} {m : MsgT} (h : k * 89 + 89 ≤ B.ps.length) (hc0 : decide ((c4 (pI m.1 8) (pI m.1 9) (pI m.1 10) (pI m.1 11) (B.gi k 68) (B.gi k 69) (B.gi k 70) (B.gi k 71)) < 0) = false) (ht : (tell (pI m.1 10) (pI m.1 11) (B.gi k 70) (B.gi k 71)) = false) : pI (itakeL (B.hb 1) (ha2P B k m)) 11 = max 1 (B.gi k 11) := by
  have hl := ha2_plen (B := B) (k := k) (m := m) h
  unfold itakeL
  rw [show clsL (ha2P B k m) = 2 from by rw [ha_cls h, ht]; exact cls_inf hc0 (fun h0 => by rw [tell_self h0] at ht; cases ht), inf_cfg (ha2P_51 h)]
  simp [pI_set_ne, pB_set_ne, pI_set_same, pB_set_same, hl, ha2P_68 h, ha2P_69 h, ha2P_70 h, ha2P_71 h, ha2P_72 h, ha2P_78 h, ha2P_79 h, ha2P_80 h, ha2P_81 h, ha2P_86 h, ha2P_6 h, ha2P_7 h, ha2P_8 h, ha2P_9 h, ha2P_10 h, ha2P_12 h, ha2P_13 h, ha2P_14 h, ha2P_11 h, ha2P_44 h]
theorem haIT_11 {B : Br} {k : Nat} {m : MsgT} (h : k * 89 + 89 ≤ B.ps.length) (hc0 : decide ((c4 (pI m.1 8) (pI m.1 9) (pI m.1 10) (pI m.1 11) (B.gi k 68) (B.gi k 69) (B.gi k 70) (B.gi k 71)) < 0) = false) (ht : (tell (pI m.1 10) (pI m.1 11) (B.gi k 70) (B.gi k 71)) = false) : (haT B k m).gi k 11 = max 1 (B.gi k 11) := by
  unfold haT
  rw [gi_setPort ?_ (ha2_len h) (by decide)]
  · exact haI_11 h hc0 ht
  · unfold itakeL
    simp only [List.length_set]
    exact ha_hearlen h
theorem haI_44 {B : Br} {k : Nat} {m : MsgT} (h : k * 89 + 89 ≤ B.ps.length) (hc0 : decide ((c4 (pI m.1 8) (pI m.1 9) (pI m.1 10) (pI m.1 11) (B.gi k 68) (B.gi k 69) (B.gi k 70) (B.gi k 71)) < 0) = false) (ht : (tell (pI m.1 10) (pI m.1 11) (B.gi k 70) (B.gi k 71)) = false) : pB (itakeL (B.hb 1) (ha2P B k m)) 44 = B.gb k 44 := by
  have hl := ha2_plen (B := B) (k := k) (m := m) h
  unfold itakeL
  rw [show clsL (ha2P B k m) = 2 from by rw [ha_cls h, ht]; exact cls_inf hc0 (fun h0 => by rw [tell_self h0] at ht; cases ht), inf_cfg (ha2P_51 h)]
  simp [pI_set_ne, pB_set_ne, pI_set_same, pB_set_same, hl, ha2P_68 h, ha2P_69 h, ha2P_70 h, ha2P_71 h, ha2P_72 h, ha2P_78 h, ha2P_79 h, ha2P_80 h, ha2P_81 h, ha2P_86 h, ha2P_6 h, ha2P_7 h, ha2P_8 h, ha2P_9 h, ha2P_10 h, ha2P_12 h, ha2P_13 h, ha2P_14 h, ha2P_11 h, ha2P_44 h]
theorem haIT_44 {B : Br} {k : Nat} {m : MsgT} (h : k * 89 + 89 ≤ B.ps.length) (hc0 : decide ((c4 (pI m.1 8) (pI m.1 9) (pI m.1 10) (pI m.1 11) (B.gi k 68) (B.gi k 69) (B.gi k 70) (B.gi k 71)) < 0) = false) (ht : (tell (pI m.1 10) (pI m.1 11) (B.gi k 70) (B.gi k 71)) = false) : (haT B k m).gb k 44 = B.gb k 44 := by
  unfold haT
  rw [gb_setPort ?_ (ha2_len h) (by decide)]
  · exact haI_44 h hc0 ht
  · unfold itakeL
    simp only [List.length_set]
    exact ha_hearlen h
def hb0 (B : Br) (k : Nat) (m : MsgT) : Br := ((((B.setp k 2 (.bool true)).setp k 18 (.int .i64 2)).setp k 50 (.bool false)).setp k 36 (.bool true))
def hb0P (B : Br) (k : Nat) (m : MsgT) : List Value := (((((port B.ps k).set 2 (.bool true)).set 18 (.int .i64 2)).set 50 (.bool false)).set 36 (.bool true))
theorem hb0_np {B : Br} {k : Nat} {m : MsgT} : (hb0 B k m).np = B.np := rfl
theorem hb0_port {B : Br} {k : Nat} {m : MsgT} (h : k * 89 + 89 ≤ B.ps.length) : port (hb0 B k m).ps k = (hb0P B k m) := by
  unfold hb0 hb0P
  rw [port_setp (by decide), port_setp (by decide), port_setp (by decide), port_setp (by decide)]
theorem hb0_plen {B : Br} {k : Nat} {m : MsgT} (h : k * 89 + 89 ≤ B.ps.length) : (hb0P B k m).length = 89 := by unfold hb0P; simp only [List.length_set]; exact port_len h
theorem hb0_len {B : Br} {k : Nat} {m : MsgT} (h : k * 89 + 89 ≤ B.ps.length) : k * 89 + 89 ≤ (hb0 B k m).ps.length := by unfold hb0; simp only [len_setp]; exact h
theorem hb0_ok {B : Br} {k : Nat} {m : MsgT} (ho : B.ok) (hk : k < B.np) : (hb0 B k m).ok := (Br.ok.setB (Br.ok.setB (Br.ok.setI (Br.ok.setB ho (k := k) hk 2 true rfl) (k := k) hk 18 .i64 2 rfl (by decide)) (k := k) hk 50 false rfl) (k := k) hk 36 true rfl)
theorem hb0_tim {B : Br} {k : Nat} {m : MsgT} (h : k * 89 + 89 ≤ B.ps.length) (hR : TimR (port B.ps k)) : TimR (port (hb0 B k m).ps k) := by rw [hb0_port h]; exact (tim_set (tim_set (tim_set (tim_set hR (by decide)) (by decide)) (by decide)) (by decide))
def hb1M (B : Br) (k : Nat) (m : MsgT) : List Value := m.1
theorem hb1M_len {B : Br} {k : Nat} {m : MsgT} : (hb1M B k m).length = 17 := m.2.1
def hb1P (B : Br) (k : Nat) (m : MsgT) : List Value := setL (hb0P B k m) 51 (hb1M B k m)
def hb1 (B : Br) (k : Nat) (m : MsgT) : Br := Br.setr (hb0 B k m) k 51 (hb1M B k m)
theorem hb1_np {B : Br} {k : Nat} {m : MsgT} : (hb1 B k m).np = B.np := by unfold hb1; rw [np_setr]; exact hb0_np
theorem hb1_eq {B : Br} {k : Nat} {m : MsgT} (h : k * 89 + 89 ≤ B.ps.length) : (hb1 B k m) = Br.setPort (hb0 B k m) k (hb1P B k m) := by
  unfold hb1 hb1P
  rw [setr_eq (hb0_len h) (by rw [hb1M_len]; decide), hb0_port h]
theorem hb1_plen {B : Br} {k : Nat} {m : MsgT} (h : k * 89 + 89 ≤ B.ps.length) : (hb1P B k m).length = 89 := by unfold hb1P; rw [setL_len (by rw [hb1M_len, hb0_plen h]; decide)]; exact hb0_plen h
theorem hb1_port {B : Br} {k : Nat} {m : MsgT} (h : k * 89 + 89 ≤ B.ps.length) : port (hb1 B k m).ps k = (hb1P B k m) := by rw [hb1_eq h]; exact port_setPort (hb1_plen h) (hb0_len h)
theorem hb1_len {B : Br} {k : Nat} {m : MsgT} (h : k * 89 + 89 ≤ B.ps.length) : k * 89 + 89 ≤ (hb1 B k m).ps.length := by rw [hb1_eq h, len_setPort (hb1_plen h) (hb0_len h)]; exact hb0_len h
theorem hb1_ok {B : Br} {k : Nat} {m : MsgT} (ho : B.ok) (hk : k < B.np) : (hb1 B k m).ok := by
  have h := len89 ho hk
  have hk2 : k < Br.np (hb0 B k m) := by rw [hb0_np]; exact hk
  have hT := br_typed (hb0_ok ho hk) hk2
  rw [hb0_port h] at hT
  rw [hb1_eq h]
  exact setPort_ok (hb0_ok ho hk) hk2 (Typed.setL hT (j := 51) (by rw [hb1M_len]; exact (by decide : 51 + 17 ≤ 89)) (by rw [hb1M_len]; exact m.2))
theorem hb1_tim {B : Br} {k : Nat} {m : MsgT} (h : k * 89 + 89 ≤ B.ps.length) (hR : TF (pI m.1 13) (pI m.1 14) (pI m.1 15) (pI m.1 16)) : TimR (port (hb1 B k m).ps k) := by
  rw [hb1_port h]
  have hl : List.length (hb0P B k m) = 89 := hb0_plen h
  have hz : (hb1M B k m).length = 17 := m.2.1
  unfold TimR hb1P
  rw [pI_setL_in (by omega) (by omega) (by omega), pI_setL_in (by omega) (by omega) (by omega), pI_setL_in (by omega) (by omega) (by omega), pI_setL_in (by omega) (by omega) (by omega)]
  exact hR
def hb2 (B : Br) (k : Nat) (m : MsgT) : Br := ((hb1 B k m).setp k 51 (.int .i64 0))
def hb2P (B : Br) (k : Nat) (m : MsgT) : List Value := ((hb1P B k m).set 51 (.int .i64 0))
theorem hb2_np {B : Br} {k : Nat} {m : MsgT} : (hb2 B k m).np = B.np := by unfold hb2; simp only [np_setp]; exact hb1_np
theorem hb2_port {B : Br} {k : Nat} {m : MsgT} (h : k * 89 + 89 ≤ B.ps.length) : port (hb2 B k m).ps k = (hb2P B k m) := by
  unfold hb2 hb2P
  rw [port_setp (by decide)]
  rw [hb1_port h]
theorem hb2_plen {B : Br} {k : Nat} {m : MsgT} (h : k * 89 + 89 ≤ B.ps.length) : (hb2P B k m).length = 89 := by unfold hb2P; simp only [List.length_set]; exact hb1_plen h
theorem hb2_len {B : Br} {k : Nat} {m : MsgT} (h : k * 89 + 89 ≤ B.ps.length) : k * 89 + 89 ≤ (hb2 B k m).ps.length := by unfold hb2; simp only [len_setp]; exact hb1_len h
theorem hb2_ok {B : Br} {k : Nat} {m : MsgT} (ho : B.ok) (hk : k < B.np) : (hb2 B k m).ok := (Br.ok.setI (hb1_ok ho hk) (k := k) (show k < Br.np (hb1 B k m) by rw [hb1_np]; exact hk) 51 .i64 0 rfl (by decide))
theorem hb2_tim {B : Br} {k : Nat} {m : MsgT} (h : k * 89 + 89 ≤ B.ps.length) (hR : TF (pI m.1 13) (pI m.1 14) (pI m.1 15) (pI m.1 16)) : TimR (port (hb2 B k m).ps k) := by rw [hb2_port h]; exact (tim_set (by have := hb1_tim h hR; rw [hb1_port h] at this; exact this) (by decide))
theorem hb2P_51 {B : Br} {k : Nat} {m : MsgT} (h : k * 89 + 89 ≤ B.ps.length) : pI (hb2P B k m) 51 = 0 := by
  have hl0 := hb0_plen (B := B) (k := k) (m := m) h
  have hl1 := hb1_plen (B := B) (k := k) (m := m) h
  have hq := port_len h
  have hz : (hb1M B k m).length = 17 := m.2.1
  unfold hb2P
  simp [pI_set_ne, pB_set_ne, pI_set_same, pB_set_same, hl1]
theorem hb2P_2 {B : Br} {k : Nat} {m : MsgT} (h : k * 89 + 89 ≤ B.ps.length) : pB (hb2P B k m) 2 = true := by
  have hl0 := hb0_plen (B := B) (k := k) (m := m) h
  have hl1 := hb1_plen (B := B) (k := k) (m := m) h
  have hq := port_len h
  have hz : (hb1M B k m).length = 17 := m.2.1
  unfold hb2P
  rw [pB_set_ne (by decide)]
  unfold hb1P
  rw [pB_setL_out (by omega) (by omega)]
  unfold hb0P
  simp [pI_set_ne, pB_set_ne, pI_set_same, pB_set_same, hq, pI_port, pB_port]
theorem hb2_2 {B : Br} {k : Nat} {m : MsgT} (h : k * 89 + 89 ≤ B.ps.length) : (hb2 B k m).gb k 2 = true := by rw [← pB_port (by decide), hb2_port h]; exact hb2P_2 h
theorem hb2P_18 {B : Br} {k : Nat} {m : MsgT} (h : k * 89 + 89 ≤ B.ps.length) : pI (hb2P B k m) 18 = 2 := by
  have hl0 := hb0_plen (B := B) (k := k) (m := m) h
  have hl1 := hb1_plen (B := B) (k := k) (m := m) h
  have hq := port_len h
  have hz : (hb1M B k m).length = 17 := m.2.1
  unfold hb2P
  rw [pI_set_ne (by decide)]
  unfold hb1P
  rw [pI_setL_out (by omega) (by omega)]
  unfold hb0P
  simp [pI_set_ne, pB_set_ne, pI_set_same, pB_set_same, hq, pI_port, pB_port]
theorem hb2_18 {B : Br} {k : Nat} {m : MsgT} (h : k * 89 + 89 ≤ B.ps.length) : (hb2 B k m).gi k 18 = 2 := by rw [← pI_port (by decide), hb2_port h]; exact hb2P_18 h
theorem hb2P_50 {B : Br} {k : Nat} {m : MsgT} (h : k * 89 + 89 ≤ B.ps.length) : pB (hb2P B k m) 50 = false := by
  have hl0 := hb0_plen (B := B) (k := k) (m := m) h
  have hl1 := hb1_plen (B := B) (k := k) (m := m) h
  have hq := port_len h
  have hz : (hb1M B k m).length = 17 := m.2.1
  unfold hb2P
  rw [pB_set_ne (by decide)]
  unfold hb1P
  rw [pB_setL_out (by omega) (by omega)]
  unfold hb0P
  simp [pI_set_ne, pB_set_ne, pI_set_same, pB_set_same, hq, pI_port, pB_port]
theorem hb2_50 {B : Br} {k : Nat} {m : MsgT} (h : k * 89 + 89 ≤ B.ps.length) : (hb2 B k m).gb k 50 = false := by rw [← pB_port (by decide), hb2_port h]; exact hb2P_50 h
theorem hb2P_36 {B : Br} {k : Nat} {m : MsgT} (h : k * 89 + 89 ≤ B.ps.length) : pB (hb2P B k m) 36 = true := by
  have hl0 := hb0_plen (B := B) (k := k) (m := m) h
  have hl1 := hb1_plen (B := B) (k := k) (m := m) h
  have hq := port_len h
  have hz : (hb1M B k m).length = 17 := m.2.1
  unfold hb2P
  rw [pB_set_ne (by decide)]
  unfold hb1P
  rw [pB_setL_out (by omega) (by omega)]
  unfold hb0P
  simp [pI_set_ne, pB_set_ne, pI_set_same, pB_set_same, hq, pI_port, pB_port]
theorem hb2_36 {B : Br} {k : Nat} {m : MsgT} (h : k * 89 + 89 ≤ B.ps.length) : (hb2 B k m).gb k 36 = true := by rw [← pB_port (by decide), hb2_port h]; exact hb2P_36 h
theorem hb2P_58 {B : Br} {k : Nat} {m : MsgT} (h : k * 89 + 89 ≤ B.ps.length) : pI (hb2P B k m) 58 = pI m.1 7 := by
  have hl0 := hb0_plen (B := B) (k := k) (m := m) h
  have hl1 := hb1_plen (B := B) (k := k) (m := m) h
  have hq := port_len h
  have hz : (hb1M B k m).length = 17 := m.2.1
  unfold hb2P
  rw [pI_set_ne (by decide)]
  unfold hb1P
  rw [pI_setL_in (by omega) (by omega) (by omega)]
  rfl
theorem hb2P_59 {B : Br} {k : Nat} {m : MsgT} (h : k * 89 + 89 ≤ B.ps.length) : pI (hb2P B k m) 59 = pI m.1 8 := by
  have hl0 := hb0_plen (B := B) (k := k) (m := m) h
  have hl1 := hb1_plen (B := B) (k := k) (m := m) h
  have hq := port_len h
  have hz : (hb1M B k m).length = 17 := m.2.1
  unfold hb2P
  rw [pI_set_ne (by decide)]
  unfold hb1P
  rw [pI_setL_in (by omega) (by omega) (by omega)]
  rfl
theorem hb2P_60 {B : Br} {k : Nat} {m : MsgT} (h : k * 89 + 89 ≤ B.ps.length) : pI (hb2P B k m) 60 = pI m.1 9 := by
  have hl0 := hb0_plen (B := B) (k := k) (m := m) h
  have hl1 := hb1_plen (B := B) (k := k) (m := m) h
  have hq := port_len h
  have hz : (hb1M B k m).length = 17 := m.2.1
  unfold hb2P
  rw [pI_set_ne (by decide)]
  unfold hb1P
  rw [pI_setL_in (by omega) (by omega) (by omega)]
  rfl
theorem hb2P_61 {B : Br} {k : Nat} {m : MsgT} (h : k * 89 + 89 ≤ B.ps.length) : pI (hb2P B k m) 61 = pI m.1 10 := by
  have hl0 := hb0_plen (B := B) (k := k) (m := m) h
  have hl1 := hb1_plen (B := B) (k := k) (m := m) h
  have hq := port_len h
  have hz : (hb1M B k m).length = 17 := m.2.1
  unfold hb2P
  rw [pI_set_ne (by decide)]
  unfold hb1P
  rw [pI_setL_in (by omega) (by omega) (by omega)]
  rfl
theorem hb2P_62 {B : Br} {k : Nat} {m : MsgT} (h : k * 89 + 89 ≤ B.ps.length) : pI (hb2P B k m) 62 = pI m.1 11 := by
  have hl0 := hb0_plen (B := B) (k := k) (m := m) h
  have hl1 := hb1_plen (B := B) (k := k) (m := m) h
  have hq := port_len h
  have hz : (hb1M B k m).length = 17 := m.2.1
  unfold hb2P
  rw [pI_set_ne (by decide)]
  unfold hb1P
  rw [pI_setL_in (by omega) (by omega) (by omega)]
  rfl
theorem hb2P_63 {B : Br} {k : Nat} {m : MsgT} (h : k * 89 + 89 ≤ B.ps.length) : pI (hb2P B k m) 63 = pI m.1 12 := by
  have hl0 := hb0_plen (B := B) (k := k) (m := m) h
  have hl1 := hb1_plen (B := B) (k := k) (m := m) h
  have hq := port_len h
  have hz : (hb1M B k m).length = 17 := m.2.1
  unfold hb2P
  rw [pI_set_ne (by decide)]
  unfold hb1P
  rw [pI_setL_in (by omega) (by omega) (by omega)]
  rfl
theorem hb2P_64 {B : Br} {k : Nat} {m : MsgT} (h : k * 89 + 89 ≤ B.ps.length) : pI (hb2P B k m) 64 = pI m.1 13 := by
  have hl0 := hb0_plen (B := B) (k := k) (m := m) h
  have hl1 := hb1_plen (B := B) (k := k) (m := m) h
  have hq := port_len h
  have hz : (hb1M B k m).length = 17 := m.2.1
  unfold hb2P
  rw [pI_set_ne (by decide)]
  unfold hb1P
  rw [pI_setL_in (by omega) (by omega) (by omega)]
  rfl
theorem hb2P_65 {B : Br} {k : Nat} {m : MsgT} (h : k * 89 + 89 ≤ B.ps.length) : pI (hb2P B k m) 65 = pI m.1 14 := by
  have hl0 := hb0_plen (B := B) (k := k) (m := m) h
  have hl1 := hb1_plen (B := B) (k := k) (m := m) h
  have hq := port_len h
  have hz : (hb1M B k m).length = 17 := m.2.1
  unfold hb2P
  rw [pI_set_ne (by decide)]
  unfold hb1P
  rw [pI_setL_in (by omega) (by omega) (by omega)]
  rfl
theorem hb2P_66 {B : Br} {k : Nat} {m : MsgT} (h : k * 89 + 89 ≤ B.ps.length) : pI (hb2P B k m) 66 = pI m.1 15 := by
  have hl0 := hb0_plen (B := B) (k := k) (m := m) h
  have hl1 := hb1_plen (B := B) (k := k) (m := m) h
  have hq := port_len h
  have hz : (hb1M B k m).length = 17 := m.2.1
  unfold hb2P
  rw [pI_set_ne (by decide)]
  unfold hb1P
  rw [pI_setL_in (by omega) (by omega) (by omega)]
  rfl
theorem hb2P_67 {B : Br} {k : Nat} {m : MsgT} (h : k * 89 + 89 ≤ B.ps.length) : pI (hb2P B k m) 67 = pI m.1 16 := by
  have hl0 := hb0_plen (B := B) (k := k) (m := m) h
  have hl1 := hb1_plen (B := B) (k := k) (m := m) h
  have hq := port_len h
  have hz : (hb1M B k m).length = 17 := m.2.1
  unfold hb2P
  rw [pI_set_ne (by decide)]
  unfold hb1P
  rw [pI_setL_in (by omega) (by omega) (by omega)]
  rfl
theorem hb2P_68 {B : Br} {k : Nat} {m : MsgT} (h : k * 89 + 89 ≤ B.ps.length) : pI (hb2P B k m) 68 = B.gi k 68 := by
  have hl0 := hb0_plen (B := B) (k := k) (m := m) h
  have hl1 := hb1_plen (B := B) (k := k) (m := m) h
  have hq := port_len h
  have hz : (hb1M B k m).length = 17 := m.2.1
  unfold hb2P
  rw [pI_set_ne (by decide)]
  unfold hb1P
  rw [pI_setL_out (by omega) (by omega)]
  unfold hb0P
  simp [pI_set_ne, pB_set_ne, pI_set_same, pB_set_same, hq, pI_port, pB_port]
theorem hb2_68 {B : Br} {k : Nat} {m : MsgT} (h : k * 89 + 89 ≤ B.ps.length) : (hb2 B k m).gi k 68 = B.gi k 68 := by rw [← pI_port (by decide), hb2_port h]; exact hb2P_68 h
theorem hb2P_69 {B : Br} {k : Nat} {m : MsgT} (h : k * 89 + 89 ≤ B.ps.length) : pI (hb2P B k m) 69 = B.gi k 69 := by
  have hl0 := hb0_plen (B := B) (k := k) (m := m) h
  have hl1 := hb1_plen (B := B) (k := k) (m := m) h
  have hq := port_len h
  have hz : (hb1M B k m).length = 17 := m.2.1
  unfold hb2P
  rw [pI_set_ne (by decide)]
  unfold hb1P
  rw [pI_setL_out (by omega) (by omega)]
  unfold hb0P
  simp [pI_set_ne, pB_set_ne, pI_set_same, pB_set_same, hq, pI_port, pB_port]
theorem hb2_69 {B : Br} {k : Nat} {m : MsgT} (h : k * 89 + 89 ≤ B.ps.length) : (hb2 B k m).gi k 69 = B.gi k 69 := by rw [← pI_port (by decide), hb2_port h]; exact hb2P_69 h
theorem hb2P_70 {B : Br} {k : Nat} {m : MsgT} (h : k * 89 + 89 ≤ B.ps.length) : pI (hb2P B k m) 70 = B.gi k 70 := by
  have hl0 := hb0_plen (B := B) (k := k) (m := m) h
  have hl1 := hb1_plen (B := B) (k := k) (m := m) h
  have hq := port_len h
  have hz : (hb1M B k m).length = 17 := m.2.1
  unfold hb2P
  rw [pI_set_ne (by decide)]
  unfold hb1P
  rw [pI_setL_out (by omega) (by omega)]
  unfold hb0P
  simp [pI_set_ne, pB_set_ne, pI_set_same, pB_set_same, hq, pI_port, pB_port]
theorem hb2_70 {B : Br} {k : Nat} {m : MsgT} (h : k * 89 + 89 ≤ B.ps.length) : (hb2 B k m).gi k 70 = B.gi k 70 := by rw [← pI_port (by decide), hb2_port h]; exact hb2P_70 h
theorem hb2P_71 {B : Br} {k : Nat} {m : MsgT} (h : k * 89 + 89 ≤ B.ps.length) : pI (hb2P B k m) 71 = B.gi k 71 := by
  have hl0 := hb0_plen (B := B) (k := k) (m := m) h
  have hl1 := hb1_plen (B := B) (k := k) (m := m) h
  have hq := port_len h
  have hz : (hb1M B k m).length = 17 := m.2.1
  unfold hb2P
  rw [pI_set_ne (by decide)]
  unfold hb1P
  rw [pI_setL_out (by omega) (by omega)]
  unfold hb0P
  simp [pI_set_ne, pB_set_ne, pI_set_same, pB_set_same, hq, pI_port, pB_port]
theorem hb2_71 {B : Br} {k : Nat} {m : MsgT} (h : k * 89 + 89 ≤ B.ps.length) : (hb2 B k m).gi k 71 = B.gi k 71 := by rw [← pI_port (by decide), hb2_port h]; exact hb2P_71 h
theorem hb2P_72 {B : Br} {k : Nat} {m : MsgT} (h : k * 89 + 89 ≤ B.ps.length) : pI (hb2P B k m) 72 = B.gi k 72 := by
  have hl0 := hb0_plen (B := B) (k := k) (m := m) h
  have hl1 := hb1_plen (B := B) (k := k) (m := m) h
  have hq := port_len h
  have hz : (hb1M B k m).length = 17 := m.2.1
  unfold hb2P
  rw [pI_set_ne (by decide)]
  unfold hb1P
  rw [pI_setL_out (by omega) (by omega)]
  unfold hb0P
  simp [pI_set_ne, pB_set_ne, pI_set_same, pB_set_same, hq, pI_port, pB_port]
theorem hb2_72 {B : Br} {k : Nat} {m : MsgT} (h : k * 89 + 89 ≤ B.ps.length) : (hb2 B k m).gi k 72 = B.gi k 72 := by rw [← pI_port (by decide), hb2_port h]; exact hb2P_72 h
theorem hb2P_78 {B : Br} {k : Nat} {m : MsgT} (h : k * 89 + 89 ≤ B.ps.length) : pI (hb2P B k m) 78 = B.gi k 78 := by
  have hl0 := hb0_plen (B := B) (k := k) (m := m) h
  have hl1 := hb1_plen (B := B) (k := k) (m := m) h
  have hq := port_len h
  have hz : (hb1M B k m).length = 17 := m.2.1
  unfold hb2P
  rw [pI_set_ne (by decide)]
  unfold hb1P
  rw [pI_setL_out (by omega) (by omega)]
  unfold hb0P
  simp [pI_set_ne, pB_set_ne, pI_set_same, pB_set_same, hq, pI_port, pB_port]
theorem hb2_78 {B : Br} {k : Nat} {m : MsgT} (h : k * 89 + 89 ≤ B.ps.length) : (hb2 B k m).gi k 78 = B.gi k 78 := by rw [← pI_port (by decide), hb2_port h]; exact hb2P_78 h
theorem hb2P_79 {B : Br} {k : Nat} {m : MsgT} (h : k * 89 + 89 ≤ B.ps.length) : pI (hb2P B k m) 79 = B.gi k 79 := by
  have hl0 := hb0_plen (B := B) (k := k) (m := m) h
  have hl1 := hb1_plen (B := B) (k := k) (m := m) h
  have hq := port_len h
  have hz : (hb1M B k m).length = 17 := m.2.1
  unfold hb2P
  rw [pI_set_ne (by decide)]
  unfold hb1P
  rw [pI_setL_out (by omega) (by omega)]
  unfold hb0P
  simp [pI_set_ne, pB_set_ne, pI_set_same, pB_set_same, hq, pI_port, pB_port]
theorem hb2_79 {B : Br} {k : Nat} {m : MsgT} (h : k * 89 + 89 ≤ B.ps.length) : (hb2 B k m).gi k 79 = B.gi k 79 := by rw [← pI_port (by decide), hb2_port h]; exact hb2P_79 h
theorem hb2P_80 {B : Br} {k : Nat} {m : MsgT} (h : k * 89 + 89 ≤ B.ps.length) : pI (hb2P B k m) 80 = B.gi k 80 := by
  have hl0 := hb0_plen (B := B) (k := k) (m := m) h
  have hl1 := hb1_plen (B := B) (k := k) (m := m) h
  have hq := port_len h
  have hz : (hb1M B k m).length = 17 := m.2.1
  unfold hb2P
  rw [pI_set_ne (by decide)]
  unfold hb1P
  rw [pI_setL_out (by omega) (by omega)]
  unfold hb0P
  simp [pI_set_ne, pB_set_ne, pI_set_same, pB_set_same, hq, pI_port, pB_port]
theorem hb2_80 {B : Br} {k : Nat} {m : MsgT} (h : k * 89 + 89 ≤ B.ps.length) : (hb2 B k m).gi k 80 = B.gi k 80 := by rw [← pI_port (by decide), hb2_port h]; exact hb2P_80 h
theorem hb2P_81 {B : Br} {k : Nat} {m : MsgT} (h : k * 89 + 89 ≤ B.ps.length) : pI (hb2P B k m) 81 = B.gi k 81 := by
  have hl0 := hb0_plen (B := B) (k := k) (m := m) h
  have hl1 := hb1_plen (B := B) (k := k) (m := m) h
  have hq := port_len h
  have hz : (hb1M B k m).length = 17 := m.2.1
  unfold hb2P
  rw [pI_set_ne (by decide)]
  unfold hb1P
  rw [pI_setL_out (by omega) (by omega)]
  unfold hb0P
  simp [pI_set_ne, pB_set_ne, pI_set_same, pB_set_same, hq, pI_port, pB_port]
theorem hb2_81 {B : Br} {k : Nat} {m : MsgT} (h : k * 89 + 89 ≤ B.ps.length) : (hb2 B k m).gi k 81 = B.gi k 81 := by rw [← pI_port (by decide), hb2_port h]; exact hb2P_81 h
theorem hb2P_86 {B : Br} {k : Nat} {m : MsgT} (h : k * 89 + 89 ≤ B.ps.length) : pI (hb2P B k m) 86 = B.gi k 86 := by
  have hl0 := hb0_plen (B := B) (k := k) (m := m) h
  have hl1 := hb1_plen (B := B) (k := k) (m := m) h
  have hq := port_len h
  have hz : (hb1M B k m).length = 17 := m.2.1
  unfold hb2P
  rw [pI_set_ne (by decide)]
  unfold hb1P
  rw [pI_setL_out (by omega) (by omega)]
  unfold hb0P
  simp [pI_set_ne, pB_set_ne, pI_set_same, pB_set_same, hq, pI_port, pB_port]
theorem hb2_86 {B : Br} {k : Nat} {m : MsgT} (h : k * 89 + 89 ≤ B.ps.length) : (hb2 B k m).gi k 86 = B.gi k 86 := by rw [← pI_port (by decide), hb2_port h]; exact hb2P_86 h
theorem hb2P_6 {B : Br} {k : Nat} {m : MsgT} (h : k * 89 + 89 ≤ B.ps.length) : pI (hb2P B k m) 6 = B.gi k 6 := by
  have hl0 := hb0_plen (B := B) (k := k) (m := m) h
  have hl1 := hb1_plen (B := B) (k := k) (m := m) h
  have hq := port_len h
  have hz : (hb1M B k m).length = 17 := m.2.1
  unfold hb2P
  rw [pI_set_ne (by decide)]
  unfold hb1P
  rw [pI_setL_out (by omega) (by omega)]
  unfold hb0P
  simp [pI_set_ne, pB_set_ne, pI_set_same, pB_set_same, hq, pI_port, pB_port]
theorem hb2_6 {B : Br} {k : Nat} {m : MsgT} (h : k * 89 + 89 ≤ B.ps.length) : (hb2 B k m).gi k 6 = B.gi k 6 := by rw [← pI_port (by decide), hb2_port h]; exact hb2P_6 h
theorem hb2P_7 {B : Br} {k : Nat} {m : MsgT} (h : k * 89 + 89 ≤ B.ps.length) : pI (hb2P B k m) 7 = B.gi k 7 := by
  have hl0 := hb0_plen (B := B) (k := k) (m := m) h
  have hl1 := hb1_plen (B := B) (k := k) (m := m) h
  have hq := port_len h
  have hz : (hb1M B k m).length = 17 := m.2.1
  unfold hb2P
  rw [pI_set_ne (by decide)]
  unfold hb1P
  rw [pI_setL_out (by omega) (by omega)]
  unfold hb0P
  simp [pI_set_ne, pB_set_ne, pI_set_same, pB_set_same, hq, pI_port, pB_port]
theorem hb2_7 {B : Br} {k : Nat} {m : MsgT} (h : k * 89 + 89 ≤ B.ps.length) : (hb2 B k m).gi k 7 = B.gi k 7 := by rw [← pI_port (by decide), hb2_port h]; exact hb2P_7 h
theorem hb2P_8 {B : Br} {k : Nat} {m : MsgT} (h : k * 89 + 89 ≤ B.ps.length) : pI (hb2P B k m) 8 = B.gi k 8 := by
  have hl0 := hb0_plen (B := B) (k := k) (m := m) h
  have hl1 := hb1_plen (B := B) (k := k) (m := m) h
  have hq := port_len h
  have hz : (hb1M B k m).length = 17 := m.2.1
  unfold hb2P
  rw [pI_set_ne (by decide)]
  unfold hb1P
  rw [pI_setL_out (by omega) (by omega)]
  unfold hb0P
  simp [pI_set_ne, pB_set_ne, pI_set_same, pB_set_same, hq, pI_port, pB_port]
theorem hb2_8 {B : Br} {k : Nat} {m : MsgT} (h : k * 89 + 89 ≤ B.ps.length) : (hb2 B k m).gi k 8 = B.gi k 8 := by rw [← pI_port (by decide), hb2_port h]; exact hb2P_8 h
theorem hb2P_9 {B : Br} {k : Nat} {m : MsgT} (h : k * 89 + 89 ≤ B.ps.length) : pI (hb2P B k m) 9 = B.gi k 9 := by
  have hl0 := hb0_plen (B := B) (k := k) (m := m) h
  have hl1 := hb1_plen (B := B) (k := k) (m := m) h
  have hq := port_len h
  have hz : (hb1M B k m).length = 17 := m.2.1
  unfold hb2P
  rw [pI_set_ne (by decide)]
  unfold hb1P
  rw [pI_setL_out (by omega) (by omega)]
  unfold hb0P
  simp [pI_set_ne, pB_set_ne, pI_set_same, pB_set_same, hq, pI_port, pB_port]
theorem hb2_9 {B : Br} {k : Nat} {m : MsgT} (h : k * 89 + 89 ≤ B.ps.length) : (hb2 B k m).gi k 9 = B.gi k 9 := by rw [← pI_port (by decide), hb2_port h]; exact hb2P_9 h
theorem hb2P_10 {B : Br} {k : Nat} {m : MsgT} (h : k * 89 + 89 ≤ B.ps.length) : pI (hb2P B k m) 10 = B.gi k 10 := by
  have hl0 := hb0_plen (B := B) (k := k) (m := m) h
  have hl1 := hb1_plen (B := B) (k := k) (m := m) h
  have hq := port_len h
  have hz : (hb1M B k m).length = 17 := m.2.1
  unfold hb2P
  rw [pI_set_ne (by decide)]
  unfold hb1P
  rw [pI_setL_out (by omega) (by omega)]
  unfold hb0P
  simp [pI_set_ne, pB_set_ne, pI_set_same, pB_set_same, hq, pI_port, pB_port]
theorem hb2_10 {B : Br} {k : Nat} {m : MsgT} (h : k * 89 + 89 ≤ B.ps.length) : (hb2 B k m).gi k 10 = B.gi k 10 := by rw [← pI_port (by decide), hb2_port h]; exact hb2P_10 h
theorem hb2P_12 {B : Br} {k : Nat} {m : MsgT} (h : k * 89 + 89 ≤ B.ps.length) : pI (hb2P B k m) 12 = B.gi k 12 := by
  have hl0 := hb0_plen (B := B) (k := k) (m := m) h
  have hl1 := hb1_plen (B := B) (k := k) (m := m) h
  have hq := port_len h
  have hz : (hb1M B k m).length = 17 := m.2.1
  unfold hb2P
  rw [pI_set_ne (by decide)]
  unfold hb1P
  rw [pI_setL_out (by omega) (by omega)]
  unfold hb0P
  simp [pI_set_ne, pB_set_ne, pI_set_same, pB_set_same, hq, pI_port, pB_port]
theorem hb2_12 {B : Br} {k : Nat} {m : MsgT} (h : k * 89 + 89 ≤ B.ps.length) : (hb2 B k m).gi k 12 = B.gi k 12 := by rw [← pI_port (by decide), hb2_port h]; exact hb2P_12 h
theorem hb2P_13 {B : Br} {k : Nat} {m : MsgT} (h : k * 89 + 89 ≤ B.ps.length) : pI (hb2P B k m) 13 = B.gi k 13 := by
  have hl0 := hb0_plen (B := B) (k := k) (m := m) h
  have hl1 := hb1_plen (B := B) (k := k) (m := m) h
  have hq := port_len h
  have hz : (hb1M B k m).length = 17 := m.2.1
  unfold hb2P
  rw [pI_set_ne (by decide)]
  unfold hb1P
  rw [pI_setL_out (by omega) (by omega)]
  unfold hb0P
  simp [pI_set_ne, pB_set_ne, pI_set_same, pB_set_same, hq, pI_port, pB_port]
theorem hb2_13 {B : Br} {k : Nat} {m : MsgT} (h : k * 89 + 89 ≤ B.ps.length) : (hb2 B k m).gi k 13 = B.gi k 13 := by rw [← pI_port (by decide), hb2_port h]; exact hb2P_13 h
theorem hb2P_14 {B : Br} {k : Nat} {m : MsgT} (h : k * 89 + 89 ≤ B.ps.length) : pI (hb2P B k m) 14 = B.gi k 14 := by
  have hl0 := hb0_plen (B := B) (k := k) (m := m) h
  have hl1 := hb1_plen (B := B) (k := k) (m := m) h
  have hq := port_len h
  have hz : (hb1M B k m).length = 17 := m.2.1
  unfold hb2P
  rw [pI_set_ne (by decide)]
  unfold hb1P
  rw [pI_setL_out (by omega) (by omega)]
  unfold hb0P
  simp [pI_set_ne, pB_set_ne, pI_set_same, pB_set_same, hq, pI_port, pB_port]
theorem hb2_14 {B : Br} {k : Nat} {m : MsgT} (h : k * 89 + 89 ≤ B.ps.length) : (hb2 B k m).gi k 14 = B.gi k 14 := by rw [← pI_port (by decide), hb2_port h]; exact hb2P_14 h
theorem hb2P_11 {B : Br} {k : Nat} {m : MsgT} (h : k * 89 + 89 ≤ B.ps.length) : pI (hb2P B k m) 11 = B.gi k 11 := by
  have hl0 := hb0_plen (B := B) (k := k) (m := m) h
  have hl1 := hb1_plen (B := B) (k := k) (m := m) h
  have hq := port_len h
  have hz : (hb1M B k m).length = 17 := m.2.1
  unfold hb2P
  rw [pI_set_ne (by decide)]
  unfold hb1P
  rw [pI_setL_out (by omega) (by omega)]
  unfold hb0P
  simp [pI_set_ne, pB_set_ne, pI_set_same, pB_set_same, hq, pI_port, pB_port]
theorem hb2_11 {B : Br} {k : Nat} {m : MsgT} (h : k * 89 + 89 ≤ B.ps.length) : (hb2 B k m).gi k 11 = B.gi k 11 := by rw [← pI_port (by decide), hb2_port h]; exact hb2P_11 h
theorem hb2P_44 {B : Br} {k : Nat} {m : MsgT} (h : k * 89 + 89 ≤ B.ps.length) : pB (hb2P B k m) 44 = B.gb k 44 := by
  have hl0 := hb0_plen (B := B) (k := k) (m := m) h
  have hl1 := hb1_plen (B := B) (k := k) (m := m) h
  have hq := port_len h
  have hz : (hb1M B k m).length = 17 := m.2.1
  unfold hb2P
  rw [pB_set_ne (by decide)]
  unfold hb1P
  rw [pB_setL_out (by omega) (by omega)]
  unfold hb0P
  simp [pI_set_ne, pB_set_ne, pI_set_same, pB_set_same, hq, pI_port, pB_port]
theorem hb2_44 {B : Br} {k : Nat} {m : MsgT} (h : k * 89 + 89 ≤ B.ps.length) : (hb2 B k m).gb k 44 = B.gb k 44 := by rw [← pB_port (by decide), hb2_port h]; exact hb2P_44 h
theorem hb_cls {B : Br} {k : Nat} {m : MsgT} (h : k * 89 + 89 ≤ B.ps.length) : clsL (hb2P B k m) = classN 0 (pI m.1 7) (c4 (pI m.1 8) (pI m.1 9) (pI m.1 10) (pI m.1 11) (B.gi k 68) (B.gi k 69) (B.gi k 70) (B.gi k 71)) (tell (pI m.1 10) (pI m.1 11) (B.gi k 70) (B.gi k 71)) ((pI m.1 13) == (B.gi k 78) && (pI m.1 14) == (B.gi k 79) && (pI m.1 15) == (B.gi k 80) && (pI m.1 16) == (B.gi k 81)) := by
  unfold clsL
  rw [hb2P_51 h, hb2P_58 h, hb2P_59 h, hb2P_60 h, hb2P_61 h, hb2P_62 h, hb2P_68 h, hb2P_69 h, hb2P_70 h, hb2P_71 h, hb2P_64 h, hb2P_65 h, hb2P_66 h, hb2P_67 h, hb2P_78 h, hb2P_79 h, hb2P_80 h, hb2P_81 h]
theorem hb_row {B : Br} {k : Nat} {m : MsgT} (h : k * 89 + 89 ≤ B.ps.length) : irowL (hb2P B k m) = 4 := by
  unfold irowL irowB
  rw [hb2P_2 h, hb2P_18 h, hb2P_36 h, hb2P_50 h]
  simp
def hbT (B : Br) (k : Nat) (m : MsgT) : Br := Br.setPort (hb2 B k m) k (itakeL (B.hb 1) (hb2P B k m))
theorem hb_step {B : Br} {k : Nat} {m : MsgT} (h : k * 89 + 89 ≤ B.ps.length) : infF (hb2 B k m) k = (true, hbT B k m) := infF_do (hb2_port h) (by unfold infL; rw [hb_row h]; rfl)
theorem hbT_np {B : Br} {k : Nat} {m : MsgT} : (hbT B k m).np = B.np := by unfold hbT; rw [np_setPort]; exact hb2_np
theorem hb_hearlen {B : Br} {k : Nat} {m : MsgT} (h : k * 89 + 89 ≤ B.ps.length) {n : Nat} {r : Bool} : (hearN n r (hb2P B k m)).length = 89 := by
  have hl := hb2_plen (B := B) (k := k) (m := m) h
  have i1 : ∀ (b : Bool) (L : List Value), (iprop b L).length = L.length := fun b L => by cases b <;> simp [iprop]
  have i2 : ∀ (b : Bool) (L : List Value), (iagr b L).length = L.length := fun b L => by cases b <;> simp [iagr]
  have i3 : ∀ (b : Bool) (L : List Value), (iinf b L).length = L.length := fun b L => by cases b <;> simp [iinf]
  have i4 : ∀ (b : Bool) (L : List Value), (ioth b L).length = L.length := fun b L => by cases b <;> simp [ioth]
  match n with
  | 0 =>
    obtain ⟨v22, hv⟩ := sup_cfg hl (hb2P_51 h) r
    rw [hv, len_iask]
    simp only [List.length_set]
    exact hl
  | 1 => unfold hearN; simp [i1, i2, ichg, hl]
  | 2 => unfold hearN; simp [i3, hl]
  | 3 => unfold hearN; simp [i2, ichg, hl]
  | n + 4 => unfold hearN; simp [i4, hl]
theorem hbL_68 {B : Br} {k : Nat} {m : MsgT} (h : k * 89 + 89 ≤ B.ps.length) (hc0 : decide ((c4 (pI m.1 8) (pI m.1 9) (pI m.1 10) (pI m.1 11) (B.gi k 68) (B.gi k 69) (B.gi k 70) (B.gi k 71)) < 0) = true) : pI (itakeL (B.hb 1) (hb2P B k m)) 68 = pI m.1 8 := by
  have hl := hb2_plen (B := B) (k := k) (m := m) h
  unfold itakeL
  rw [show clsL (hb2P B k m) = 0 from (hb_cls h).trans (cls_less hc0)]
  obtain ⟨v22, hv⟩ := sup_cfg hl (hb2P_51 h) (B.hb 1)
  rw [hv]
  unfold iask
  simp [pI_set_ne, pB_set_ne, pI_set_same, pB_set_same, hl, hb2P_59 h, hb2P_60 h, hb2P_61 h, hb2P_62 h, hb2P_63 h, hb2P_64 h, hb2P_65 h, hb2P_66 h, hb2P_67 h]
theorem hbLT_68 {B : Br} {k : Nat} {m : MsgT} (h : k * 89 + 89 ≤ B.ps.length) (hc0 : decide ((c4 (pI m.1 8) (pI m.1 9) (pI m.1 10) (pI m.1 11) (B.gi k 68) (B.gi k 69) (B.gi k 70) (B.gi k 71)) < 0) = true) : (hbT B k m).gi k 68 = pI m.1 8 := by
  unfold hbT
  rw [gi_setPort ?_ (hb2_len h) (by decide)]
  · exact hbL_68 h hc0
  · unfold itakeL
    simp only [List.length_set]
    exact hb_hearlen h
theorem hbL_69 {B : Br} {k : Nat} {m : MsgT} (h : k * 89 + 89 ≤ B.ps.length) (hc0 : decide ((c4 (pI m.1 8) (pI m.1 9) (pI m.1 10) (pI m.1 11) (B.gi k 68) (B.gi k 69) (B.gi k 70) (B.gi k 71)) < 0) = true) : pI (itakeL (B.hb 1) (hb2P B k m)) 69 = pI m.1 9 := by
  have hl := hb2_plen (B := B) (k := k) (m := m) h
  unfold itakeL
  rw [show clsL (hb2P B k m) = 0 from (hb_cls h).trans (cls_less hc0)]
  obtain ⟨v22, hv⟩ := sup_cfg hl (hb2P_51 h) (B.hb 1)
  rw [hv]
  unfold iask
  simp [pI_set_ne, pB_set_ne, pI_set_same, pB_set_same, hl, hb2P_59 h, hb2P_60 h, hb2P_61 h, hb2P_62 h, hb2P_63 h, hb2P_64 h, hb2P_65 h, hb2P_66 h, hb2P_67 h]
theorem hbLT_69 {B : Br} {k : Nat} {m : MsgT} (h : k * 89 + 89 ≤ B.ps.length) (hc0 : decide ((c4 (pI m.1 8) (pI m.1 9) (pI m.1 10) (pI m.1 11) (B.gi k 68) (B.gi k 69) (B.gi k 70) (B.gi k 71)) < 0) = true) : (hbT B k m).gi k 69 = pI m.1 9 := by
  unfold hbT
  rw [gi_setPort ?_ (hb2_len h) (by decide)]
  · exact hbL_69 h hc0
  · unfold itakeL
    simp only [List.length_set]
    exact hb_hearlen h
theorem hbL_70 {B : Br} {k : Nat} {m : MsgT} (h : k * 89 + 89 ≤ B.ps.length) (hc0 : decide ((c4 (pI m.1 8) (pI m.1 9) (pI m.1 10) (pI m.1 11) (B.gi k 68) (B.gi k 69) (B.gi k 70) (B.gi k 71)) < 0) = true) : pI (itakeL (B.hb 1) (hb2P B k m)) 70 = pI m.1 10 := by
  have hl := hb2_plen (B := B) (k := k) (m := m) h
  unfold itakeL
  rw [show clsL (hb2P B k m) = 0 from (hb_cls h).trans (cls_less hc0)]
  obtain ⟨v22, hv⟩ := sup_cfg hl (hb2P_51 h) (B.hb 1)
  rw [hv]
  unfold iask
  simp [pI_set_ne, pB_set_ne, pI_set_same, pB_set_same, hl, hb2P_59 h, hb2P_60 h, hb2P_61 h, hb2P_62 h, hb2P_63 h, hb2P_64 h, hb2P_65 h, hb2P_66 h, hb2P_67 h]
theorem hbLT_70 {B : Br} {k : Nat} {m : MsgT} (h : k * 89 + 89 ≤ B.ps.length) (hc0 : decide ((c4 (pI m.1 8) (pI m.1 9) (pI m.1 10) (pI m.1 11) (B.gi k 68) (B.gi k 69) (B.gi k 70) (B.gi k 71)) < 0) = true) : (hbT B k m).gi k 70 = pI m.1 10 := by
  unfold hbT
  rw [gi_setPort ?_ (hb2_len h) (by decide)]
  · exact hbL_70 h hc0
  · unfold itakeL
    simp only [List.length_set]
    exact hb_hearlen h
theorem hbL_71 {B : Br} {k : Nat} {m : MsgT} (h : k * 89 + 89 ≤ B.ps.length) (hc0 : decide ((c4 (pI m.1 8) (pI m.1 9) (pI m.1 10) (pI m.1 11) (B.gi k 68) (B.gi k 69) (B.gi k 70) (B.gi k 71)) < 0) = true) : pI (itakeL (B.hb 1) (hb2P B k m)) 71 = pI m.1 11 := by
  have hl := hb2_plen (B := B) (k := k) (m := m) h
  unfold itakeL
  rw [show clsL (hb2P B k m) = 0 from (hb_cls h).trans (cls_less hc0)]
  obtain ⟨v22, hv⟩ := sup_cfg hl (hb2P_51 h) (B.hb 1)
  rw [hv]
  unfold iask
  simp [pI_set_ne, pB_set_ne, pI_set_same, pB_set_same, hl, hb2P_59 h, hb2P_60 h, hb2P_61 h, hb2P_62 h, hb2P_63 h, hb2P_64 h, hb2P_65 h, hb2P_66 h, hb2P_67 h]
theorem hbLT_71 {B : Br} {k : Nat} {m : MsgT} (h : k * 89 + 89 ≤ B.ps.length) (hc0 : decide ((c4 (pI m.1 8) (pI m.1 9) (pI m.1 10) (pI m.1 11) (B.gi k 68) (B.gi k 69) (B.gi k 70) (B.gi k 71)) < 0) = true) : (hbT B k m).gi k 71 = pI m.1 11 := by
  unfold hbT
  rw [gi_setPort ?_ (hb2_len h) (by decide)]
  · exact hbL_71 h hc0
  · unfold itakeL
    simp only [List.length_set]
    exact hb_hearlen h
theorem hbL_72 {B : Br} {k : Nat} {m : MsgT} (h : k * 89 + 89 ≤ B.ps.length) (hc0 : decide ((c4 (pI m.1 8) (pI m.1 9) (pI m.1 10) (pI m.1 11) (B.gi k 68) (B.gi k 69) (B.gi k 70) (B.gi k 71)) < 0) = true) : pI (itakeL (B.hb 1) (hb2P B k m)) 72 = pI m.1 12 := by
  have hl := hb2_plen (B := B) (k := k) (m := m) h
  unfold itakeL
  rw [show clsL (hb2P B k m) = 0 from (hb_cls h).trans (cls_less hc0)]
  obtain ⟨v22, hv⟩ := sup_cfg hl (hb2P_51 h) (B.hb 1)
  rw [hv]
  unfold iask
  simp [pI_set_ne, pB_set_ne, pI_set_same, pB_set_same, hl, hb2P_59 h, hb2P_60 h, hb2P_61 h, hb2P_62 h, hb2P_63 h, hb2P_64 h, hb2P_65 h, hb2P_66 h, hb2P_67 h]
theorem hbLT_72 {B : Br} {k : Nat} {m : MsgT} (h : k * 89 + 89 ≤ B.ps.length) (hc0 : decide ((c4 (pI m.1 8) (pI m.1 9) (pI m.1 10) (pI m.1 11) (B.gi k 68) (B.gi k 69) (B.gi k 70) (B.gi k 71)) < 0) = true) : (hbT B k m).gi k 72 = pI m.1 12 := by
  unfold hbT
  rw [gi_setPort ?_ (hb2_len h) (by decide)]
  · exact hbL_72 h hc0
  · unfold itakeL
    simp only [List.length_set]
    exact hb_hearlen h
theorem hbL_78 {B : Br} {k : Nat} {m : MsgT} (h : k * 89 + 89 ≤ B.ps.length) (hc0 : decide ((c4 (pI m.1 8) (pI m.1 9) (pI m.1 10) (pI m.1 11) (B.gi k 68) (B.gi k 69) (B.gi k 70) (B.gi k 71)) < 0) = true) : pI (itakeL (B.hb 1) (hb2P B k m)) 78 = pI m.1 13 := by
  have hl := hb2_plen (B := B) (k := k) (m := m) h
  unfold itakeL
  rw [show clsL (hb2P B k m) = 0 from (hb_cls h).trans (cls_less hc0)]
  obtain ⟨v22, hv⟩ := sup_cfg hl (hb2P_51 h) (B.hb 1)
  rw [hv]
  unfold iask
  simp [pI_set_ne, pB_set_ne, pI_set_same, pB_set_same, hl, hb2P_59 h, hb2P_60 h, hb2P_61 h, hb2P_62 h, hb2P_63 h, hb2P_64 h, hb2P_65 h, hb2P_66 h, hb2P_67 h]
theorem hbLT_78 {B : Br} {k : Nat} {m : MsgT} (h : k * 89 + 89 ≤ B.ps.length) (hc0 : decide ((c4 (pI m.1 8) (pI m.1 9) (pI m.1 10) (pI m.1 11) (B.gi k 68) (B.gi k 69) (B.gi k 70) (B.gi k 71)) < 0) = true) : (hbT B k m).gi k 78 = pI m.1 13 := by
  unfold hbT
  rw [gi_setPort ?_ (hb2_len h) (by decide)]
  · exact hbL_78 h hc0
  · unfold itakeL
    simp only [List.length_set]
    exact hb_hearlen h
theorem hbL_79 {B : Br} {k : Nat} {m : MsgT} (h : k * 89 + 89 ≤ B.ps.length) (hc0 : decide ((c4 (pI m.1 8) (pI m.1 9) (pI m.1 10) (pI m.1 11) (B.gi k 68) (B.gi k 69) (B.gi k 70) (B.gi k 71)) < 0) = true) : pI (itakeL (B.hb 1) (hb2P B k m)) 79 = pI m.1 14 := by
  have hl := hb2_plen (B := B) (k := k) (m := m) h
  unfold itakeL
  rw [show clsL (hb2P B k m) = 0 from (hb_cls h).trans (cls_less hc0)]
  obtain ⟨v22, hv⟩ := sup_cfg hl (hb2P_51 h) (B.hb 1)
  rw [hv]
  unfold iask
  simp [pI_set_ne, pB_set_ne, pI_set_same, pB_set_same, hl, hb2P_59 h, hb2P_60 h, hb2P_61 h, hb2P_62 h, hb2P_63 h, hb2P_64 h, hb2P_65 h, hb2P_66 h, hb2P_67 h]
theorem hbLT_79 {B : Br} {k : Nat} {m : MsgT} (h : k * 89 + 89 ≤ B.ps.length) (hc0 : decide ((c4 (pI m.1 8) (pI m.1 9) (pI m.1 10) (pI m.1 11) (B.gi k 68) (B.gi k 69) (B.gi k 70) (B.gi k 71)) < 0) = true) : (hbT B k m).gi k 79 = pI m.1 14 := by
  unfold hbT
  rw [gi_setPort ?_ (hb2_len h) (by decide)]
  · exact hbL_79 h hc0
  · unfold itakeL
    simp only [List.length_set]
    exact hb_hearlen h
theorem hbL_80 {B : Br} {k : Nat} {m : MsgT} (h : k * 89 + 89 ≤ B.ps.length) (hc0 : decide ((c4 (pI m.1 8) (pI m.1 9) (pI m.1 10) (pI m.1 11) (B.gi k 68) (B.gi k 69) (B.gi k 70) (B.gi k 71)) < 0) = true) : pI (itakeL (B.hb 1) (hb2P B k m)) 80 = pI m.1 15 := by
  have hl := hb2_plen (B := B) (k := k) (m := m) h
  unfold itakeL
  rw [show clsL (hb2P B k m) = 0 from (hb_cls h).trans (cls_less hc0)]
  obtain ⟨v22, hv⟩ := sup_cfg hl (hb2P_51 h) (B.hb 1)
  rw [hv]
  unfold iask
  simp [pI_set_ne, pB_set_ne, pI_set_same, pB_set_same, hl, hb2P_59 h, hb2P_60 h, hb2P_61 h, hb2P_62 h, hb2P_63 h, hb2P_64 h, hb2P_65 h, hb2P_66 h, hb2P_67 h]
theorem hbLT_80 {B : Br} {k : Nat} {m : MsgT} (h : k * 89 + 89 ≤ B.ps.length) (hc0 : decide ((c4 (pI m.1 8) (pI m.1 9) (pI m.1 10) (pI m.1 11) (B.gi k 68) (B.gi k 69) (B.gi k 70) (B.gi k 71)) < 0) = true) : (hbT B k m).gi k 80 = pI m.1 15 := by
  unfold hbT
  rw [gi_setPort ?_ (hb2_len h) (by decide)]
  · exact hbL_80 h hc0
  · unfold itakeL
    simp only [List.length_set]
    exact hb_hearlen h
theorem hbL_81 {B : Br} {k : Nat} {m : MsgT} (h : k * 89 + 89 ≤ B.ps.length) (hc0 : decide ((c4 (pI m.1 8) (pI m.1 9) (pI m.1 10) (pI m.1 11) (B.gi k 68) (B.gi k 69) (B.gi k 70) (B.gi k 71)) < 0) = true) : pI (itakeL (B.hb 1) (hb2P B k m)) 81 = pI m.1 16 := by
  have hl := hb2_plen (B := B) (k := k) (m := m) h
  unfold itakeL
  rw [show clsL (hb2P B k m) = 0 from (hb_cls h).trans (cls_less hc0)]
  obtain ⟨v22, hv⟩ := sup_cfg hl (hb2P_51 h) (B.hb 1)
  rw [hv]
  unfold iask
  simp [pI_set_ne, pB_set_ne, pI_set_same, pB_set_same, hl, hb2P_59 h, hb2P_60 h, hb2P_61 h, hb2P_62 h, hb2P_63 h, hb2P_64 h, hb2P_65 h, hb2P_66 h, hb2P_67 h]
theorem hbLT_81 {B : Br} {k : Nat} {m : MsgT} (h : k * 89 + 89 ≤ B.ps.length) (hc0 : decide ((c4 (pI m.1 8) (pI m.1 9) (pI m.1 10) (pI m.1 11) (B.gi k 68) (B.gi k 69) (B.gi k 70) (B.gi k 71)) < 0) = true) : (hbT B k m).gi k 81 = pI m.1 16 := by
  unfold hbT
  rw [gi_setPort ?_ (hb2_len h) (by decide)]
  · exact hbL_81 h hc0
  · unfold itakeL
    simp only [List.length_set]
    exact hb_hearlen h
theorem hbL_86 {B : Br} {k : Nat} {m : MsgT} (h : k * 89 + 89 ≤ B.ps.length) (hc0 : decide ((c4 (pI m.1 8) (pI m.1 9) (pI m.1 10) (pI m.1 11) (B.gi k 68) (B.gi k 69) (B.gi k 70) (B.gi k 71)) < 0) = true) : pI (itakeL (B.hb 1) (hb2P B k m)) 86 = 3 := by
  have hl := hb2_plen (B := B) (k := k) (m := m) h
  unfold itakeL
  rw [show clsL (hb2P B k m) = 0 from (hb_cls h).trans (cls_less hc0)]
  obtain ⟨v22, hv⟩ := sup_cfg hl (hb2P_51 h) (B.hb 1)
  rw [hv]
  unfold iask
  simp [pI_set_ne, pB_set_ne, pI_set_same, pB_set_same, hl, hb2P_59 h, hb2P_60 h, hb2P_61 h, hb2P_62 h, hb2P_63 h, hb2P_64 h, hb2P_65 h, hb2P_66 h, hb2P_67 h]
theorem hbLT_86 {B : Br} {k : Nat} {m : MsgT} (h : k * 89 + 89 ≤ B.ps.length) (hc0 : decide ((c4 (pI m.1 8) (pI m.1 9) (pI m.1 10) (pI m.1 11) (B.gi k 68) (B.gi k 69) (B.gi k 70) (B.gi k 71)) < 0) = true) : (hbT B k m).gi k 86 = 3 := by
  unfold hbT
  rw [gi_setPort ?_ (hb2_len h) (by decide)]
  · exact hbL_86 h hc0
  · unfold itakeL
    simp only [List.length_set]
    exact hb_hearlen h
theorem hbL_11 {B : Br} {k : Nat} {m : MsgT} (h : k * 89 + 89 ≤ B.ps.length) (hc0 : decide ((c4 (pI m.1 8) (pI m.1 9) (pI m.1 10) (pI m.1 11) (B.gi k 68) (B.gi k 69) (B.gi k 70) (B.gi k 71)) < 0) = true) : pI (itakeL (B.hb 1) (hb2P B k m)) 11 = waitsV (pI m.1 13) (pI m.1 14) (pI m.1 15) := by
  have hl := hb2_plen (B := B) (k := k) (m := m) h
  unfold itakeL
  rw [show clsL (hb2P B k m) = 0 from (hb_cls h).trans (cls_less hc0)]
  obtain ⟨v22, hv⟩ := sup_cfg hl (hb2P_51 h) (B.hb 1)
  rw [hv]
  unfold iask
  simp [pI_set_ne, pB_set_ne, pI_set_same, pB_set_same, hl, hb2P_59 h, hb2P_60 h, hb2P_61 h, hb2P_62 h, hb2P_63 h, hb2P_64 h, hb2P_65 h, hb2P_66 h, hb2P_67 h]
theorem hbLT_11 {B : Br} {k : Nat} {m : MsgT} (h : k * 89 + 89 ≤ B.ps.length) (hc0 : decide ((c4 (pI m.1 8) (pI m.1 9) (pI m.1 10) (pI m.1 11) (B.gi k 68) (B.gi k 69) (B.gi k 70) (B.gi k 71)) < 0) = true) : (hbT B k m).gi k 11 = waitsV (pI m.1 13) (pI m.1 14) (pI m.1 15) := by
  unfold hbT
  rw [gi_setPort ?_ (hb2_len h) (by decide)]
  · exact hbL_11 h hc0
  · unfold itakeL
    simp only [List.length_set]
    exact hb_hearlen h
theorem hbL_43 {B : Br} {k : Nat} {m : MsgT} (h : k * 89 + 89 ≤ B.ps.length) (hc0 : decide ((c4 (pI m.1 8) (pI m.1 9) (pI m.1 10) (pI m.1 11) (B.gi k 68) (B.gi k 69) (B.gi k 70) (B.gi k 71)) < 0) = true) : pB (itakeL (B.hb 1) (hb2P B k m)) 43 = true := by
  have hl := hb2_plen (B := B) (k := k) (m := m) h
  unfold itakeL
  rw [show clsL (hb2P B k m) = 0 from (hb_cls h).trans (cls_less hc0)]
  obtain ⟨v22, hv⟩ := sup_cfg hl (hb2P_51 h) (B.hb 1)
  rw [hv]
  unfold iask
  simp [pI_set_ne, pB_set_ne, pI_set_same, pB_set_same, hl, hb2P_59 h, hb2P_60 h, hb2P_61 h, hb2P_62 h, hb2P_63 h, hb2P_64 h, hb2P_65 h, hb2P_66 h, hb2P_67 h]
theorem hbLT_43 {B : Br} {k : Nat} {m : MsgT} (h : k * 89 + 89 ≤ B.ps.length) (hc0 : decide ((c4 (pI m.1 8) (pI m.1 9) (pI m.1 10) (pI m.1 11) (B.gi k 68) (B.gi k 69) (B.gi k 70) (B.gi k 71)) < 0) = true) : (hbT B k m).gb k 43 = true := by
  unfold hbT
  rw [gb_setPort ?_ (hb2_len h) (by decide)]
  · exact hbL_43 h hc0
  · unfold itakeL
    simp only [List.length_set]
    exact hb_hearlen h
theorem hbL_44 {B : Br} {k : Nat} {m : MsgT} (h : k * 89 + 89 ≤ B.ps.length) (hc0 : decide ((c4 (pI m.1 8) (pI m.1 9) (pI m.1 10) (pI m.1 11) (B.gi k 68) (B.gi k 69) (B.gi k 70) (B.gi k 71)) < 0) = true) : pB (itakeL (B.hb 1) (hb2P B k m)) 44 = false := by
  have hl := hb2_plen (B := B) (k := k) (m := m) h
  unfold itakeL
  rw [show clsL (hb2P B k m) = 0 from (hb_cls h).trans (cls_less hc0)]
  obtain ⟨v22, hv⟩ := sup_cfg hl (hb2P_51 h) (B.hb 1)
  rw [hv]
  unfold iask
  simp [pI_set_ne, pB_set_ne, pI_set_same, pB_set_same, hl, hb2P_59 h, hb2P_60 h, hb2P_61 h, hb2P_62 h, hb2P_63 h, hb2P_64 h, hb2P_65 h, hb2P_66 h, hb2P_67 h]
theorem hbLT_44 {B : Br} {k : Nat} {m : MsgT} (h : k * 89 + 89 ≤ B.ps.length) (hc0 : decide ((c4 (pI m.1 8) (pI m.1 9) (pI m.1 10) (pI m.1 11) (B.gi k 68) (B.gi k 69) (B.gi k 70) (B.gi k 71)) < 0) = true) : (hbT B k m).gb k 44 = false := by
  unfold hbT
  rw [gb_setPort ?_ (hb2_len h) (by decide)]
  · exact hbL_44 h hc0
  · unfold itakeL
    simp only [List.length_set]
    exact hb_hearlen h
theorem hbL_36 {B : Br} {k : Nat} {m : MsgT} (h : k * 89 + 89 ≤ B.ps.length) (hc0 : decide ((c4 (pI m.1 8) (pI m.1 9) (pI m.1 10) (pI m.1 11) (B.gi k 68) (B.gi k 69) (B.gi k 70) (B.gi k 71)) < 0) = true) : pB (itakeL (B.hb 1) (hb2P B k m)) 36 = false := by
  have hl := hb2_plen (B := B) (k := k) (m := m) h
  unfold itakeL
  rw [show clsL (hb2P B k m) = 0 from (hb_cls h).trans (cls_less hc0)]
  obtain ⟨v22, hv⟩ := sup_cfg hl (hb2P_51 h) (B.hb 1)
  rw [hv]
  unfold iask
  simp [pI_set_ne, pB_set_ne, pI_set_same, pB_set_same, hl, hb2P_59 h, hb2P_60 h, hb2P_61 h, hb2P_62 h, hb2P_63 h, hb2P_64 h, hb2P_65 h, hb2P_66 h, hb2P_67 h]
theorem hbLT_36 {B : Br} {k : Nat} {m : MsgT} (h : k * 89 + 89 ≤ B.ps.length) (hc0 : decide ((c4 (pI m.1 8) (pI m.1 9) (pI m.1 10) (pI m.1 11) (B.gi k 68) (B.gi k 69) (B.gi k 70) (B.gi k 71)) < 0) = true) : (hbT B k m).gb k 36 = false := by
  unfold hbT
  rw [gb_setPort ?_ (hb2_len h) (by decide)]
  · exact hbL_36 h hc0
  · unfold itakeL
    simp only [List.length_set]
    exact hb_hearlen h
theorem hbS_11 {B : Br} {k : Nat} {m : MsgT} (h : k * 89 + 89 ≤ B.ps.length) (ht : (tell (pI m.1 10) (pI m.1 11) (B.gi k 70) (B.gi k 71)) = true) : pI (itakeL (B.hb 1) (hb2P B k m)) 11 = waitsV (pI m.1 13) (pI m.1 14) (pI m.1 15) := by
  have hl := hb2_plen (B := B) (k := k) (m := m) h
  unfold itakeL
  rcases (show clsL (hb2P B k m) = 0 ∨ clsL (hb2P B k m) = 1 by rw [hb_cls h, ht]; exact cls_sup) with hc | hc
  · rw [hc]
    obtain ⟨v22, hv⟩ := sup_cfg hl (hb2P_51 h) (B.hb 1)
    rw [hv]
    unfold iask
    simp [pI_set_ne, pB_set_ne, pI_set_same, pB_set_same, hl, hb2P_64 h, hb2P_65 h, hb2P_66 h]
  · rw [hc, rep_cfg (hb2P_51 h)]
    simp [pI_set_ne, pB_set_ne, pI_set_same, pB_set_same, hl, hb2P_64 h, hb2P_65 h, hb2P_66 h]
theorem hbST_11 {B : Br} {k : Nat} {m : MsgT} (h : k * 89 + 89 ≤ B.ps.length) (ht : (tell (pI m.1 10) (pI m.1 11) (B.gi k 70) (B.gi k 71)) = true) : (hbT B k m).gi k 11 = waitsV (pI m.1 13) (pI m.1 14) (pI m.1 15) := by
  unfold hbT
  rw [gi_setPort ?_ (hb2_len h) (by decide)]
  · exact hbS_11 h ht
  · unfold itakeL
    simp only [List.length_set]
    exact hb_hearlen h
theorem hbS_36 {B : Br} {k : Nat} {m : MsgT} (h : k * 89 + 89 ≤ B.ps.length) (ht : (tell (pI m.1 10) (pI m.1 11) (B.gi k 70) (B.gi k 71)) = true) : pB (itakeL (B.hb 1) (hb2P B k m)) 36 = false := by
  have hl := hb2_plen (B := B) (k := k) (m := m) h
  unfold itakeL
  rcases (show clsL (hb2P B k m) = 0 ∨ clsL (hb2P B k m) = 1 by rw [hb_cls h, ht]; exact cls_sup) with hc | hc
  · rw [hc]
    obtain ⟨v22, hv⟩ := sup_cfg hl (hb2P_51 h) (B.hb 1)
    rw [hv]
    unfold iask
    simp [pI_set_ne, pB_set_ne, pI_set_same, pB_set_same, hl, hb2P_64 h, hb2P_65 h, hb2P_66 h]
  · rw [hc, rep_cfg (hb2P_51 h)]
    simp [pI_set_ne, pB_set_ne, pI_set_same, pB_set_same, hl, hb2P_64 h, hb2P_65 h, hb2P_66 h]
theorem hbST_36 {B : Br} {k : Nat} {m : MsgT} (h : k * 89 + 89 ≤ B.ps.length) (ht : (tell (pI m.1 10) (pI m.1 11) (B.gi k 70) (B.gi k 71)) = true) : (hbT B k m).gb k 36 = false := by
  unfold hbT
  rw [gb_setPort ?_ (hb2_len h) (by decide)]
  · exact hbS_36 h ht
  · unfold itakeL
    simp only [List.length_set]
    exact hb_hearlen h
theorem hbI_36 {B : Br} {k : Nat} {m : MsgT} (h : k * 89 + 89 ≤ B.ps.length) (hc0 : decide ((c4 (pI m.1 8) (pI m.1 9) (pI m.1 10) (pI m.1 11) (B.gi k 68) (B.gi k 69) (B.gi k 70) (B.gi k 71)) < 0) = false) (ht : (tell (pI m.1 10) (pI m.1 11) (B.gi k 70) (B.gi k 71)) = false) : pB (itakeL (B.hb 1) (hb2P B k m)) 36 = false := by
  have hl := hb2_plen (B := B) (k := k) (m := m) h
  unfold itakeL
  rw [show clsL (hb2P B k m) = 2 from by rw [hb_cls h, ht]; exact cls_inf hc0 (fun h0 => by rw [tell_self h0] at ht; cases ht), inf_cfg (hb2P_51 h)]
  simp [pI_set_ne, pB_set_ne, pI_set_same, pB_set_same, hl, hb2P_68 h, hb2P_69 h, hb2P_70 h, hb2P_71 h, hb2P_72 h, hb2P_78 h, hb2P_79 h, hb2P_80 h, hb2P_81 h, hb2P_86 h, hb2P_6 h, hb2P_7 h, hb2P_8 h, hb2P_9 h, hb2P_10 h, hb2P_12 h, hb2P_13 h, hb2P_14 h, hb2P_11 h, hb2P_44 h]
theorem hbIT_36 {B : Br} {k : Nat} {m : MsgT} (h : k * 89 + 89 ≤ B.ps.length) (hc0 : decide ((c4 (pI m.1 8) (pI m.1 9) (pI m.1 10) (pI m.1 11) (B.gi k 68) (B.gi k 69) (B.gi k 70) (B.gi k 71)) < 0) = false) (ht : (tell (pI m.1 10) (pI m.1 11) (B.gi k 70) (B.gi k 71)) = false) : (hbT B k m).gb k 36 = false := by
  unfold hbT
  rw [gb_setPort ?_ (hb2_len h) (by decide)]
  · exact hbI_36 h hc0 ht
  · unfold itakeL
    simp only [List.length_set]
    exact hb_hearlen h
theorem hbI_68 {B : Br} {k : Nat} {m : MsgT} (h : k * 89 + 89 ≤ B.ps.length) (hc0 : decide ((c4 (pI m.1 8) (pI m.1 9) (pI m.1 10) (pI m.1 11) (B.gi k 68) (B.gi k 69) (B.gi k 70) (B.gi k 71)) < 0) = false) (ht : (tell (pI m.1 10) (pI m.1 11) (B.gi k 70) (B.gi k 71)) = false) : pI (itakeL (B.hb 1) (hb2P B k m)) 68 = B.gi k 68 := by
  have hl := hb2_plen (B := B) (k := k) (m := m) h
  unfold itakeL
  rw [show clsL (hb2P B k m) = 2 from by rw [hb_cls h, ht]; exact cls_inf hc0 (fun h0 => by rw [tell_self h0] at ht; cases ht), inf_cfg (hb2P_51 h)]
  simp [pI_set_ne, pB_set_ne, pI_set_same, pB_set_same, hl, hb2P_68 h, hb2P_69 h, hb2P_70 h, hb2P_71 h, hb2P_72 h, hb2P_78 h, hb2P_79 h, hb2P_80 h, hb2P_81 h, hb2P_86 h, hb2P_6 h, hb2P_7 h, hb2P_8 h, hb2P_9 h, hb2P_10 h, hb2P_12 h, hb2P_13 h, hb2P_14 h, hb2P_11 h, hb2P_44 h]
theorem hbIT_68 {B : Br} {k : Nat} {m : MsgT} (h : k * 89 + 89 ≤ B.ps.length) (hc0 : decide ((c4 (pI m.1 8) (pI m.1 9) (pI m.1 10) (pI m.1 11) (B.gi k 68) (B.gi k 69) (B.gi k 70) (B.gi k 71)) < 0) = false) (ht : (tell (pI m.1 10) (pI m.1 11) (B.gi k 70) (B.gi k 71)) = false) : (hbT B k m).gi k 68 = B.gi k 68 := by
  unfold hbT
  rw [gi_setPort ?_ (hb2_len h) (by decide)]
  · exact hbI_68 h hc0 ht
  · unfold itakeL
    simp only [List.length_set]
    exact hb_hearlen h
theorem hbI_69 {B : Br} {k : Nat} {m : MsgT} (h : k * 89 + 89 ≤ B.ps.length) (hc0 : decide ((c4 (pI m.1 8) (pI m.1 9) (pI m.1 10) (pI m.1 11) (B.gi k 68) (B.gi k 69) (B.gi k 70) (B.gi k 71)) < 0) = false) (ht : (tell (pI m.1 10) (pI m.1 11) (B.gi k 70) (B.gi k 71)) = false) : pI (itakeL (B.hb 1) (hb2P B k m)) 69 = B.gi k 69 := by
  have hl := hb2_plen (B := B) (k := k) (m := m) h
  unfold itakeL
  rw [show clsL (hb2P B k m) = 2 from by rw [hb_cls h, ht]; exact cls_inf hc0 (fun h0 => by rw [tell_self h0] at ht; cases ht), inf_cfg (hb2P_51 h)]
  simp [pI_set_ne, pB_set_ne, pI_set_same, pB_set_same, hl, hb2P_68 h, hb2P_69 h, hb2P_70 h, hb2P_71 h, hb2P_72 h, hb2P_78 h, hb2P_79 h, hb2P_80 h, hb2P_81 h, hb2P_86 h, hb2P_6 h, hb2P_7 h, hb2P_8 h, hb2P_9 h, hb2P_10 h, hb2P_12 h, hb2P_13 h, hb2P_14 h, hb2P_11 h, hb2P_44 h]
theorem hbIT_69 {B : Br} {k : Nat} {m : MsgT} (h : k * 89 + 89 ≤ B.ps.length) (hc0 : decide ((c4 (pI m.1 8) (pI m.1 9) (pI m.1 10) (pI m.1 11) (B.gi k 68) (B.gi k 69) (B.gi k 70) (B.gi k 71)) < 0) = false) (ht : (tell (pI m.1 10) (pI m.1 11) (B.gi k 70) (B.gi k 71)) = false) : (hbT B k m).gi k 69 = B.gi k 69 := by
  unfold hbT
  rw [gi_setPort ?_ (hb2_len h) (by decide)]
  · exact hbI_69 h hc0 ht
  · unfold itakeL
    simp only [List.length_set]
    exact hb_hearlen h
theorem hbI_70 {B : Br} {k : Nat} {m : MsgT} (h : k * 89 + 89 ≤ B.ps.length) (hc0 : decide ((c4 (pI m.1 8) (pI m.1 9) (pI m.1 10) (pI m.1 11) (B.gi k 68) (B.gi k 69) (B.gi k 70) (B.gi k 71)) < 0) = false) (ht : (tell (pI m.1 10) (pI m.1 11) (B.gi k 70) (B.gi k 71)) = false) : pI (itakeL (B.hb 1) (hb2P B k m)) 70 = B.gi k 70 := by
  have hl := hb2_plen (B := B) (k := k) (m := m) h
  unfold itakeL
  rw [show clsL (hb2P B k m) = 2 from by rw [hb_cls h, ht]; exact cls_inf hc0 (fun h0 => by rw [tell_self h0] at ht; cases ht), inf_cfg (hb2P_51 h)]
  simp [pI_set_ne, pB_set_ne, pI_set_same, pB_set_same, hl, hb2P_68 h, hb2P_69 h, hb2P_70 h, hb2P_71 h, hb2P_72 h, hb2P_78 h, hb2P_79 h, hb2P_80 h, hb2P_81 h, hb2P_86 h, hb2P_6 h, hb2P_7 h, hb2P_8 h, hb2P_9 h, hb2P_10 h, hb2P_12 h, hb2P_13 h, hb2P_14 h, hb2P_11 h, hb2P_44 h]
theorem hbIT_70 {B : Br} {k : Nat} {m : MsgT} (h : k * 89 + 89 ≤ B.ps.length) (hc0 : decide ((c4 (pI m.1 8) (pI m.1 9) (pI m.1 10) (pI m.1 11) (B.gi k 68) (B.gi k 69) (B.gi k 70) (B.gi k 71)) < 0) = false) (ht : (tell (pI m.1 10) (pI m.1 11) (B.gi k 70) (B.gi k 71)) = false) : (hbT B k m).gi k 70 = B.gi k 70 := by
  unfold hbT
  rw [gi_setPort ?_ (hb2_len h) (by decide)]
  · exact hbI_70 h hc0 ht
  · unfold itakeL
    simp only [List.length_set]
    exact hb_hearlen h
theorem hbI_71 {B : Br} {k : Nat} {m : MsgT} (h : k * 89 + 89 ≤ B.ps.length) (hc0 : decide ((c4 (pI m.1 8) (pI m.1 9) (pI m.1 10) (pI m.1 11) (B.gi k 68) (B.gi k 69) (B.gi k 70) (B.gi k 71)) < 0) = false) (ht : (tell (pI m.1 10) (pI m.1 11) (B.gi k 70) (B.gi k 71)) = false) : pI (itakeL (B.hb 1) (hb2P B k m)) 71 = B.gi k 71 := by
  have hl := hb2_plen (B := B) (k := k) (m := m) h
  unfold itakeL
  rw [show clsL (hb2P B k m) = 2 from by rw [hb_cls h, ht]; exact cls_inf hc0 (fun h0 => by rw [tell_self h0] at ht; cases ht), inf_cfg (hb2P_51 h)]
  simp [pI_set_ne, pB_set_ne, pI_set_same, pB_set_same, hl, hb2P_68 h, hb2P_69 h, hb2P_70 h, hb2P_71 h, hb2P_72 h, hb2P_78 h, hb2P_79 h, hb2P_80 h, hb2P_81 h, hb2P_86 h, hb2P_6 h, hb2P_7 h, hb2P_8 h, hb2P_9 h, hb2P_10 h, hb2P_12 h, hb2P_13 h, hb2P_14 h, hb2P_11 h, hb2P_44 h]
theorem hbIT_71 {B : Br} {k : Nat} {m : MsgT} (h : k * 89 + 89 ≤ B.ps.length) (hc0 : decide ((c4 (pI m.1 8) (pI m.1 9) (pI m.1 10) (pI m.1 11) (B.gi k 68) (B.gi k 69) (B.gi k 70) (B.gi k 71)) < 0) = false) (ht : (tell (pI m.1 10) (pI m.1 11) (B.gi k 70) (B.gi k 71)) = false) : (hbT B k m).gi k 71 = B.gi k 71 := by
  unfold hbT
  rw [gi_setPort ?_ (hb2_len h) (by decide)]
  · exact hbI_71 h hc0 ht
  · unfold itakeL
    simp only [List.length_set]
    exact hb_hearlen h
theorem hbI_72 {B : Br} {k : Nat} {m : MsgT} (h : k * 89 + 89 ≤ B.ps.length) (hc0 : decide ((c4 (pI m.1 8) (pI m.1 9) (pI m.1 10) (pI m.1 11) (B.gi k 68) (B.gi k 69) (B.gi k 70) (B.gi k 71)) < 0) = false) (ht : (tell (pI m.1 10) (pI m.1 11) (B.gi k 70) (B.gi k 71)) = false) : pI (itakeL (B.hb 1) (hb2P B k m)) 72 = B.gi k 72 := by
  have hl := hb2_plen (B := B) (k := k) (m := m) h
  unfold itakeL
  rw [show clsL (hb2P B k m) = 2 from by rw [hb_cls h, ht]; exact cls_inf hc0 (fun h0 => by rw [tell_self h0] at ht; cases ht), inf_cfg (hb2P_51 h)]
  simp [pI_set_ne, pB_set_ne, pI_set_same, pB_set_same, hl, hb2P_68 h, hb2P_69 h, hb2P_70 h, hb2P_71 h, hb2P_72 h, hb2P_78 h, hb2P_79 h, hb2P_80 h, hb2P_81 h, hb2P_86 h, hb2P_6 h, hb2P_7 h, hb2P_8 h, hb2P_9 h, hb2P_10 h, hb2P_12 h, hb2P_13 h, hb2P_14 h, hb2P_11 h, hb2P_44 h]
theorem hbIT_72 {B : Br} {k : Nat} {m : MsgT} (h : k * 89 + 89 ≤ B.ps.length) (hc0 : decide ((c4 (pI m.1 8) (pI m.1 9) (pI m.1 10) (pI m.1 11) (B.gi k 68) (B.gi k 69) (B.gi k 70) (B.gi k 71)) < 0) = false) (ht : (tell (pI m.1 10) (pI m.1 11) (B.gi k 70) (B.gi k 71)) = false) : (hbT B k m).gi k 72 = B.gi k 72 := by
  unfold hbT
  rw [gi_setPort ?_ (hb2_len h) (by decide)]
  · exact hbI_72 h hc0 ht
  · unfold itakeL
    simp only [List.length_set]
    exact hb_hearlen h
theorem hbI_78 {B : Br} {k : Nat} {m : MsgT} (h : k * 89 + 89 ≤ B.ps.length) (hc0 : decide ((c4 (pI m.1 8) (pI m.1 9) (pI m.1 10) (pI m.1 11) (B.gi k 68) (B.gi k 69) (B.gi k 70) (B.gi k 71)) < 0) = false) (ht : (tell (pI m.1 10) (pI m.1 11) (B.gi k 70) (B.gi k 71)) = false) : pI (itakeL (B.hb 1) (hb2P B k m)) 78 = B.gi k 78 := by
  have hl := hb2_plen (B := B) (k := k) (m := m) h
  unfold itakeL
  rw [show clsL (hb2P B k m) = 2 from by rw [hb_cls h, ht]; exact cls_inf hc0 (fun h0 => by rw [tell_self h0] at ht; cases ht), inf_cfg (hb2P_51 h)]
  simp [pI_set_ne, pB_set_ne, pI_set_same, pB_set_same, hl, hb2P_68 h, hb2P_69 h, hb2P_70 h, hb2P_71 h, hb2P_72 h, hb2P_78 h, hb2P_79 h, hb2P_80 h, hb2P_81 h, hb2P_86 h, hb2P_6 h, hb2P_7 h, hb2P_8 h, hb2P_9 h, hb2P_10 h, hb2P_12 h, hb2P_13 h, hb2P_14 h, hb2P_11 h, hb2P_44 h]
theorem hbIT_78 {B : Br} {k : Nat} {m : MsgT} (h : k * 89 + 89 ≤ B.ps.length) (hc0 : decide ((c4 (pI m.1 8) (pI m.1 9) (pI m.1 10) (pI m.1 11) (B.gi k 68) (B.gi k 69) (B.gi k 70) (B.gi k 71)) < 0) = false) (ht : (tell (pI m.1 10) (pI m.1 11) (B.gi k 70) (B.gi k 71)) = false) : (hbT B k m).gi k 78 = B.gi k 78 := by
  unfold hbT
  rw [gi_setPort ?_ (hb2_len h) (by decide)]
  · exact hbI_78 h hc0 ht
  · unfold itakeL
    simp only [List.length_set]
    exact hb_hearlen h
theorem hbI_79 {B : Br} {k : Nat} {m : MsgT} (h : k * 89 + 89 ≤ B.ps.length) (hc0 : decide ((c4 (pI m.1 8) (pI m.1 9) (pI m.1 10) (pI m.1 11) (B.gi k 68) (B.gi k 69) (B.gi k 70) (B.gi k 71)) < 0) = false) (ht : (tell (pI m.1 10) (pI m.1 11) (B.gi k 70) (B.gi k 71)) = false) : pI (itakeL (B.hb 1) (hb2P B k m)) 79 = B.gi k 79 := by
  have hl := hb2_plen (B := B) (k := k) (m := m) h
  unfold itakeL
  rw [show clsL (hb2P B k m) = 2 from by rw [hb_cls h, ht]; exact cls_inf hc0 (fun h0 => by rw [tell_self h0] at ht; cases ht), inf_cfg (hb2P_51 h)]
  simp [pI_set_ne, pB_set_ne, pI_set_same, pB_set_same, hl, hb2P_68 h, hb2P_69 h, hb2P_70 h, hb2P_71 h, hb2P_72 h, hb2P_78 h, hb2P_79 h, hb2P_80 h, hb2P_81 h, hb2P_86 h, hb2P_6 h, hb2P_7 h, hb2P_8 h, hb2P_9 h, hb2P_10 h, hb2P_12 h, hb2P_13 h, hb2P_14 h, hb2P_11 h, hb2P_44 h]
theorem hbIT_79 {B : Br} {k : Nat} {m : MsgT} (h : k * 89 + 89 ≤ B.ps.length) (hc0 : decide ((c4 (pI m.1 8) (pI m.1 9) (pI m.1 10) (pI m.1 11) (B.gi k 68) (B.gi k 69) (B.gi k 70) (B.gi k 71)) < 0) = false) (ht : (tell (pI m.1 10) (pI m.1 11) (B.gi k 70) (B.gi k 71)) = false) : (hbT B k m).gi k 79 = B.gi k 79 := by
  unfold hbT
  rw [gi_setPort ?_ (hb2_len h) (by decide)]
  · exact hbI_79 h hc0 ht
  · unfold itakeL
    simp only [List.length_set]
    exact hb_hearlen h
theorem hbI_80 {B : Br} {k : Nat} {m : MsgT} (h : k * 89 + 89 ≤ B.ps.length) (hc0 : decide ((c4 (pI m.1 8) (pI m.1 9) (pI m.1 10) (pI m.1 11) (B.gi k 68) (B.gi k 69) (B.gi k 70) (B.gi k 71)) < 0) = false) (ht : (tell (pI m.1 10) (pI m.1 11) (B.gi k 70) (B.gi k 71)) = false) : pI (itakeL (B.hb 1) (hb2P B k m)) 80 = B.gi k 80 := by
  have hl := hb2_plen (B := B) (k := k) (m := m) h
  unfold itakeL
  rw [show clsL (hb2P B k m) = 2 from by rw [hb_cls h, ht]; exact cls_inf hc0 (fun h0 => by rw [tell_self h0] at ht; cases ht), inf_cfg (hb2P_51 h)]
  simp [pI_set_ne, pB_set_ne, pI_set_same, pB_set_same, hl, hb2P_68 h, hb2P_69 h, hb2P_70 h, hb2P_71 h, hb2P_72 h, hb2P_78 h, hb2P_79 h, hb2P_80 h, hb2P_81 h, hb2P_86 h, hb2P_6 h, hb2P_7 h, hb2P_8 h, hb2P_9 h, hb2P_10 h, hb2P_12 h, hb2P_13 h, hb2P_14 h, hb2P_11 h, hb2P_44 h]
theorem hbIT_80 {B : Br} {k : Nat} {m : MsgT} (h : k * 89 + 89 ≤ B.ps.length) (hc0 : decide ((c4 (pI m.1 8) (pI m.1 9) (pI m.1 10) (pI m.1 11) (B.gi k 68) (B.gi k 69) (B.gi k 70) (B.gi k 71)) < 0) = false) (ht : (tell (pI m.1 10) (pI m.1 11) (B.gi k 70) (B.gi k 71)) = false) : (hbT B k m).gi k 80 = B.gi k 80 := by
  unfold hbT
  rw [gi_setPort ?_ (hb2_len h) (by decide)]
  · exact hbI_80 h hc0 ht
  · unfold itakeL
    simp only [List.length_set]
    exact hb_hearlen h
theorem hbI_81 {B : Br} {k : Nat} {m : MsgT} (h : k * 89 + 89 ≤ B.ps.length) (hc0 : decide ((c4 (pI m.1 8) (pI m.1 9) (pI m.1 10) (pI m.1 11) (B.gi k 68) (B.gi k 69) (B.gi k 70) (B.gi k 71)) < 0) = false) (ht : (tell (pI m.1 10) (pI m.1 11) (B.gi k 70) (B.gi k 71)) = false) : pI (itakeL (B.hb 1) (hb2P B k m)) 81 = B.gi k 81 := by
  have hl := hb2_plen (B := B) (k := k) (m := m) h
  unfold itakeL
  rw [show clsL (hb2P B k m) = 2 from by rw [hb_cls h, ht]; exact cls_inf hc0 (fun h0 => by rw [tell_self h0] at ht; cases ht), inf_cfg (hb2P_51 h)]
  simp [pI_set_ne, pB_set_ne, pI_set_same, pB_set_same, hl, hb2P_68 h, hb2P_69 h, hb2P_70 h, hb2P_71 h, hb2P_72 h, hb2P_78 h, hb2P_79 h, hb2P_80 h, hb2P_81 h, hb2P_86 h, hb2P_6 h, hb2P_7 h, hb2P_8 h, hb2P_9 h, hb2P_10 h, hb2P_12 h, hb2P_13 h, hb2P_14 h, hb2P_11 h, hb2P_44 h]
theorem hbIT_81 {B : Br} {k : Nat} {m : MsgT} (h : k * 89 + 89 ≤ B.ps.length) (hc0 : decide ((c4 (pI m.1 8) (pI m.1 9) (pI m.1 10) (pI m.1 11) (B.gi k 68) (B.gi k 69) (B.gi k 70) (B.gi k 71)) < 0) = false) (ht : (tell (pI m.1 10) (pI m.1 11) (B.gi k 70) (B.gi k 71)) = false) : (hbT B k m).gi k 81 = B.gi k 81 := by
  unfold hbT
  rw [gi_setPort ?_ (hb2_len h) (by decide)]
  · exact hbI_81 h hc0 ht
  · unfold itakeL
    simp only [List.length_set]
    exact hb_hearlen h
theorem hbI_86 {B : Br} {k : Nat} {m : MsgT} (h : k * 89 + 89 ≤ B.ps.length) (hc0 : decide ((c4 (pI m.1 8) (pI m.1 9) (pI m.1 10) (pI m.1 11) (B.gi k 68) (B.gi k 69) (B.gi k 70) (B.gi k 71)) < 0) = false) (ht : (tell (pI m.1 10) (pI m.1 11) (B.gi k 70) (B.gi k 71)) = false) : pI (itakeL (B.hb 1) (hb2P B k m)) 86 = B.gi k 86 := by
  have hl := hb2_plen (B := B) (k := k) (m := m) h
  unfold itakeL
  rw [show clsL (hb2P B k m) = 2 from by rw [hb_cls h, ht]; exact cls_inf hc0 (fun h0 => by rw [tell_self h0] at ht; cases ht), inf_cfg (hb2P_51 h)]
  simp [pI_set_ne, pB_set_ne, pI_set_same, pB_set_same, hl, hb2P_68 h, hb2P_69 h, hb2P_70 h, hb2P_71 h, hb2P_72 h, hb2P_78 h, hb2P_79 h, hb2P_80 h, hb2P_81 h, hb2P_86 h, hb2P_6 h, hb2P_7 h, hb2P_8 h, hb2P_9 h, hb2P_10 h, hb2P_12 h, hb2P_13 h, hb2P_14 h, hb2P_11 h, hb2P_44 h]
theorem hbIT_86 {B : Br} {k : Nat} {m : MsgT} (h : k * 89 + 89 ≤ B.ps.length) (hc0 : decide ((c4 (pI m.1 8) (pI m.1 9) (pI m.1 10) (pI m.1 11) (B.gi k 68) (B.gi k 69) (B.gi k 70) (B.gi k 71)) < 0) = false) (ht : (tell (pI m.1 10) (pI m.1 11) (B.gi k 70) (B.gi k 71)) = false) : (hbT B k m).gi k 86 = B.gi k 86 := by
  unfold hbT
  rw [gi_setPort ?_ (hb2_len h) (by decide)]
  · exact hbI_86 h hc0 ht
  · unfold itakeL
    simp only [List.length_set]
    exact hb_hearlen h
theorem hbI_6 {B : Br} {k : Nat} {m : MsgT} (h : k * 89 + 89 ≤ B.ps.length) (hc0 : decide ((c4 (pI m.1 8) (pI m.1 9) (pI m.1 10) (pI m.1 11) (B.gi k 68) (B.gi k 69) (B.gi k 70) (B.gi k 71)) < 0) = false) (ht : (tell (pI m.1 10) (pI m.1 11) (B.gi k 70) (B.gi k 71)) = false) : pI (itakeL (B.hb 1) (hb2P B k m)) 6 = B.gi k 6 := by
  have hl := hb2_plen (B := B) (k := k) (m := m) h
  unfold itakeL
  rw [show clsL (hb2P B k m) = 2 from by rw [hb_cls h, ht]; exact cls_inf hc0 (fun h0 => by rw [tell_self h0] at ht; cases ht), inf_cfg (hb2P_51 h)]
  simp [pI_set_ne, pB_set_ne, pI_set_same, pB_set_same, hl, hb2P_68 h, hb2P_69 h, hb2P_70 h, hb2P_71 h, hb2P_72 h, hb2P_78 h, hb2P_79 h, hb2P_80 h, hb2P_81 h, hb2P_86 h, hb2P_6 h, hb2P_7 h, hb2P_8 h, hb2P_9 h, hb2P_10 h, hb2P_12 h, hb2P_13 h, hb2P_14 h, hb2P_11 h, hb2P_44 h]
theorem hbIT_6 {B : Br} {k : Nat} {m : MsgT} (h : k * 89 + 89 ≤ B.ps.length) (hc0 : decide ((c4 (pI m.1 8) (pI m.1 9) (pI m.1 10) (pI m.1 11) (B.gi k 68) (B.gi k 69) (B.gi k 70) (B.gi k 71)) < 0) = false) (ht : (tell (pI m.1 10) (pI m.1 11) (B.gi k 70) (B.gi k 71)) = false) : (hbT B k m).gi k 6 = B.gi k 6 := by
  unfold hbT
  rw [gi_setPort ?_ (hb2_len h) (by decide)]
  · exact hbI_6 h hc0 ht
  · unfold itakeL
    simp only [List.length_set]
    exact hb_hearlen h
theorem hbI_7 {B : Br} {k : Nat} {m : MsgT} (h : k * 89 + 89 ≤ B.ps.length) (hc0 : decide ((c4 (pI m.1 8) (pI m.1 9) (pI m.1 10) (pI m.1 11) (B.gi k 68) (B.gi k 69) (B.gi k 70) (B.gi k 71)) < 0) = false) (ht : (tell (pI m.1 10) (pI m.1 11) (B.gi k 70) (B.gi k 71)) = false) : pI (itakeL (B.hb 1) (hb2P B k m)) 7 = B.gi k 7 := by
  have hl := hb2_plen (B := B) (k := k) (m := m) h
  unfold itakeL
  rw [show clsL (hb2P B k m) = 2 from by rw [hb_cls h, ht]; exact cls_inf hc0 (fun h0 => by rw [tell_self h0] at ht; cases ht), inf_cfg (hb2P_51 h)]
  simp [pI_set_ne, pB_set_ne, pI_set_same, pB_set_same, hl, hb2P_68 h, hb2P_69 h, hb2P_70 h, hb2P_71 h, hb2P_72 h, hb2P_78 h, hb2P_79 h, hb2P_80 h, hb2P_81 h, hb2P_86 h, hb2P_6 h, hb2P_7 h, hb2P_8 h, hb2P_9 h, hb2P_10 h, hb2P_12 h, hb2P_13 h, hb2P_14 h, hb2P_11 h, hb2P_44 h]
theorem hbIT_7 {B : Br} {k : Nat} {m : MsgT} (h : k * 89 + 89 ≤ B.ps.length) (hc0 : decide ((c4 (pI m.1 8) (pI m.1 9) (pI m.1 10) (pI m.1 11) (B.gi k 68) (B.gi k 69) (B.gi k 70) (B.gi k 71)) < 0) = false) (ht : (tell (pI m.1 10) (pI m.1 11) (B.gi k 70) (B.gi k 71)) = false) : (hbT B k m).gi k 7 = B.gi k 7 := by
  unfold hbT
  rw [gi_setPort ?_ (hb2_len h) (by decide)]
  · exact hbI_7 h hc0 ht
  · unfold itakeL
    simp only [List.length_set]
    exact hb_hearlen h
theorem hbI_8 {B : Br} {k : Nat} {m : MsgT} (h : k * 89 + 89 ≤ B.ps.length) (hc0 : decide ((c4 (pI m.1 8) (pI m.1 9) (pI m.1 10) (pI m.1 11) (B.gi k 68) (B.gi k 69) (B.gi k 70) (B.gi k 71)) < 0) = false) (ht : (tell (pI m.1 10) (pI m.1 11) (B.gi k 70) (B.gi k 71)) = false) : pI (itakeL (B.hb 1) (hb2P B k m)) 8 = B.gi k 8 := by
  have hl := hb2_plen (B := B) (k := k) (m := m) h
  unfold itakeL
  rw [show clsL (hb2P B k m) = 2 from by rw [hb_cls h, ht]; exact cls_inf hc0 (fun h0 => by rw [tell_self h0] at ht; cases ht), inf_cfg (hb2P_51 h)]
  simp [pI_set_ne, pB_set_ne, pI_set_same, pB_set_same, hl, hb2P_68 h, hb2P_69 h, hb2P_70 h, hb2P_71 h, hb2P_72 h, hb2P_78 h, hb2P_79 h, hb2P_80 h, hb2P_81 h, hb2P_86 h, hb2P_6 h, hb2P_7 h, hb2P_8 h, hb2P_9 h, hb2P_10 h, hb2P_12 h, hb2P_13 h, hb2P_14 h, hb2P_11 h, hb2P_44 h]
theorem hbIT_8 {B : Br} {k : Nat} {m : MsgT} (h : k * 89 + 89 ≤ B.ps.length) (hc0 : decide ((c4 (pI m.1 8) (pI m.1 9) (pI m.1 10) (pI m.1 11) (B.gi k 68) (B.gi k 69) (B.gi k 70) (B.gi k 71)) < 0) = false) (ht : (tell (pI m.1 10) (pI m.1 11) (B.gi k 70) (B.gi k 71)) = false) : (hbT B k m).gi k 8 = B.gi k 8 := by
  unfold hbT
  rw [gi_setPort ?_ (hb2_len h) (by decide)]
  · exact hbI_8 h hc0 ht
  · unfold itakeL
    simp only [List.length_set]
    exact hb_hearlen h
theorem hbI_9 {B : Br} {k : Nat} {m : MsgT} (h : k * 89 + 89 ≤ B.ps.length) (hc0 : decide ((c4 (pI m.1 8) (pI m.1 9) (pI m.1 10) (pI m.1 11) (B.gi k 68) (B.gi k 69) (B.gi k 70) (B.gi k 71)) < 0) = false) (ht : (tell (pI m.1 10) (pI m.1 11) (B.gi k 70) (B.gi k 71)) = false) : pI (itakeL (B.hb 1) (hb2P B k m)) 9 = B.gi k 9 := by
  have hl := hb2_plen (B := B) (k := k) (m := m) h
  unfold itakeL
  rw [show clsL (hb2P B k m) = 2 from by rw [hb_cls h, ht]; exact cls_inf hc0 (fun h0 => by rw [tell_self h0] at ht; cases ht), inf_cfg (hb2P_51 h)]
  simp [pI_set_ne, pB_set_ne, pI_set_same, pB_set_same, hl, hb2P_68 h, hb2P_69 h, hb2P_70 h, hb2P_71 h, hb2P_72 h, hb2P_78 h, hb2P_79 h, hb2P_80 h, hb2P_81 h, hb2P_86 h, hb2P_6 h, hb2P_7 h, hb2P_8 h, hb2P_9 h, hb2P_10 h, hb2P_12 h, hb2P_13 h, hb2P_14 h, hb2P_11 h, hb2P_44 h]
theorem hbIT_9 {B : Br} {k : Nat} {m : MsgT} (h : k * 89 + 89 ≤ B.ps.length) (hc0 : decide ((c4 (pI m.1 8) (pI m.1 9) (pI m.1 10) (pI m.1 11) (B.gi k 68) (B.gi k 69) (B.gi k 70) (B.gi k 71)) < 0) = false) (ht : (tell (pI m.1 10) (pI m.1 11) (B.gi k 70) (B.gi k 71)) = false) : (hbT B k m).gi k 9 = B.gi k 9 := by
  unfold hbT
  rw [gi_setPort ?_ (hb2_len h) (by decide)]
  · exact hbI_9 h hc0 ht
  · unfold itakeL
    simp only [List.length_set]
    exact hb_hearlen h
theorem hbI_10 {B : Br} {k : Nat} {m : MsgT} (h : k * 89 + 89 ≤ B.ps.length) (hc0 : decide ((c4 (pI m.1 8) (pI m.1 9) (pI m.1 10) (pI m.1 11) (B.gi k 68) (B.gi k 69) (B.gi k 70) (B.gi k 71)) < 0) = false) (ht : (tell (pI m.1 10) (pI m.1 11) (B.gi k 70) (B.gi k 71)) = false) : pI (itakeL (B.hb 1) (hb2P B k m)) 10 = B.gi k 10 := by
  have hl := hb2_plen (B := B) (k := k) (m := m) h
  unfold itakeL
  rw [show clsL (hb2P B k m) = 2 from by rw [hb_cls h, ht]; exact cls_inf hc0 (fun h0 => by rw [tell_self h0] at ht; cases ht), inf_cfg (hb2P_51 h)]
  simp [pI_set_ne, pB_set_ne, pI_set_same, pB_set_same, hl, hb2P_68 h, hb2P_69 h, hb2P_70 h, hb2P_71 h, hb2P_72 h, hb2P_78 h, hb2P_79 h, hb2P_80 h, hb2P_81 h, hb2P_86 h, hb2P_6 h, hb2P_7 h, hb2P_8 h, hb2P_9 h, hb2P_10 h, hb2P_12 h, hb2P_13 h, hb2P_14 h, hb2P_11 h, hb2P_44 h]
theorem hbIT_10 {B : Br} {k : Nat} {m : MsgT} (h : k * 89 + 89 ≤ B.ps.length) (hc0 : decide ((c4 (pI m.1 8) (pI m.1 9) (pI m.1 10) (pI m.1 11) (B.gi k 68) (B.gi k 69) (B.gi k 70) (B.gi k 71)) < 0) = false) (ht : (tell (pI m.1 10) (pI m.1 11) (B.gi k 70) (B.gi k 71)) = false) : (hbT B k m).gi k 10 = B.gi k 10 := by
  unfold hbT
  rw [gi_setPort ?_ (hb2_len h) (by decide)]
  · exact hbI_10 h hc0 ht
  · unfold itakeL
    simp only [List.length_set]
    exact hb_hearlen h
theorem hbI_12 {B : Br} {k : Nat} {m : MsgT} (h : k * 89 + 89 ≤ B.ps.length) (hc0 : decide ((c4 (pI m.1 8) (pI m.1 9) (pI m.1 10) (pI m.1 11) (B.gi k 68) (B.gi k 69) (B.gi k 70) (B.gi k 71)) < 0) = false) (ht : (tell (pI m.1 10) (pI m.1 11) (B.gi k 70) (B.gi k 71)) = false) : pI (itakeL (B.hb 1) (hb2P B k m)) 12 = B.gi k 12 := by
  have hl := hb2_plen (B := B) (k := k) (m := m) h
  unfold itakeL
  rw [show clsL (hb2P B k m) = 2 from by rw [hb_cls h, ht]; exact cls_inf hc0 (fun h0 => by rw [tell_self h0] at ht; cases ht), inf_cfg (hb2P_51 h)]
  simp [pI_set_ne, pB_set_ne, pI_set_same, pB_set_same, hl, hb2P_68 h, hb2P_69 h, hb2P_70 h, hb2P_71 h, hb2P_72 h, hb2P_78 h, hb2P_79 h, hb2P_80 h, hb2P_81 h, hb2P_86 h, hb2P_6 h, hb2P_7 h, hb2P_8 h, hb2P_9 h, hb2P_10 h, hb2P_12 h, hb2P_13 h, hb2P_14 h, hb2P_11 h, hb2P_44 h]
theorem hbIT_12 {B : Br} {k : Nat} {m : MsgT} (h : k * 89 + 89 ≤ B.ps.length) (hc0 : decide ((c4 (pI m.1 8) (pI m.1 9) (pI m.1 10) (pI m.1 11) (B.gi k 68) (B.gi k 69) (B.gi k 70) (B.gi k 71)) < 0) = false) (ht : (tell (pI m.1 10) (pI m.1 11) (B.gi k 70) (B.gi k 71)) = false) : (hbT B k m).gi k 12 = B.gi k 12 := by
  unfold hbT
  rw [gi_setPort ?_ (hb2_len h) (by decide)]
  · exact hbI_12 h hc0 ht
  · unfold itakeL
    simp only [List.length_set]
    exact hb_hearlen h
theorem hbI_13 {B : Br} {k : Nat} {m : MsgT} (h : k * 89 + 89 ≤ B.ps.length) (hc0 : decide ((c4 (pI m.1 8) (pI m.1 9) (pI m.1 10) (pI m.1 11) (B.gi k 68) (B.gi k 69) (B.gi k 70) (B.gi k 71)) < 0) = false) (ht : (tell (pI m.1 10) (pI m.1 11) (B.gi k 70) (B.gi k 71)) = false) : pI (itakeL (B.hb 1) (hb2P B k m)) 13 = B.gi k 13 := by
  have hl := hb2_plen (B := B) (k := k) (m := m) h
  unfold itakeL
  rw [show clsL (hb2P B k m) = 2 from by rw [hb_cls h, ht]; exact cls_inf hc0 (fun h0 => by rw [tell_self h0] at ht; cases ht), inf_cfg (hb2P_51 h)]
  simp [pI_set_ne, pB_set_ne, pI_set_same, pB_set_same, hl, hb2P_68 h, hb2P_69 h, hb2P_70 h, hb2P_71 h, hb2P_72 h, hb2P_78 h, hb2P_79 h, hb2P_80 h, hb2P_81 h, hb2P_86 h, hb2P_6 h, hb2P_7 h, hb2P_8 h, hb2P_9 h, hb2P_10 h, hb2P_12 h, hb2P_13 h, hb2P_14 h, hb2P_11 h, hb2P_44 h]
theorem hbIT_13 {B : Br} {k : Nat} {m : MsgT} (h : k * 89 + 89 ≤ B.ps.length) (hc0 : decide ((c4 (pI m.1 8) (pI m.1 9) (pI m.1 10) (pI m.1 11) (B.gi k 68) (B.gi k 69) (B.gi k 70) (B.gi k 71)) < 0) = false) (ht : (tell (pI m.1 10) (pI m.1 11) (B.gi k 70) (B.gi k 71)) = false) : (hbT B k m).gi k 13 = B.gi k 13 := by
  unfold hbT
  rw [gi_setPort ?_ (hb2_len h) (by decide)]
  · exact hbI_13 h hc0 ht
  · unfold itakeL
    simp only [List.length_set]
    exact hb_hearlen h
theorem hbI_14 {B : Br} {k : Nat} {m : MsgT} (h : k * 89 + 89 ≤ B.ps.length) (hc0 : decide ((c4 (pI m.1 8) (pI m.1 9) (pI m.1 10) (pI m.1 11) (B.gi k 68) (B.gi k 69) (B.gi k 70) (B.gi k 71)) < 0) = false) (ht : (tell (pI m.1 10) (pI m.1 11) (B.gi k 70) (B.gi k 71)) = false) : pI (itakeL (B.hb 1) (hb2P B k m)) 14 = B.gi k 14 := by
  have hl := hb2_plen (B := B) (k := k) (m := m) h
  unfold itakeL
  rw [show clsL (hb2P B k m) = 2 from by rw [hb_cls h, ht]; exact cls_inf hc0 (fun h0 => by rw [tell_self h0] at ht; cases ht), inf_cfg (hb2P_51 h)]
  simp [pI_set_ne, pB_set_ne, pI_set_same, pB_set_same, hl, hb2P_68 h, hb2P_69 h, hb2P_70 h, hb2P_71 h, hb2P_72 h, hb2P_78 h, hb2P_79 h, hb2P_80 h, hb2P_81 h, hb2P_86 h, hb2P_6 h, hb2P_7 h, hb2P_8 h, hb2P_9 h, hb2P_10 h, hb2P_12 h, hb2P_13 h, hb2P_14 h, hb2P_11 h, hb2P_44 h]
theorem hbIT_14 {B : Br} {k : Nat} {m : MsgT} (h : k * 89 + 89 ≤ B.ps.length) (hc0 : decide ((c4 (pI m.1 8) (pI m.1 9) (pI m.1 10) (pI m.1 11) (B.gi k 68) (B.gi k 69) (B.gi k 70) (B.gi k 71)) < 0) = false) (ht : (tell (pI m.1 10) (pI m.1 11) (B.gi k 70) (B.gi k 71)) = false) : (hbT B k m).gi k 14 = B.gi k 14 := by
  unfold hbT
  rw [gi_setPort ?_ (hb2_len h) (by decide)]
  · exact hbI_14 h hc0 ht
  · unfold itakeL
    simp only [List.length_set]
    exact hb_hearlen h
theorem hbI_11 {B : Br} {k : Nat} {m : MsgT} (h : k * 89 + 89 ≤ B.ps.length) (hc0 : decide ((c4 (pI m.1 8) (pI m.1 9) (pI m.1 10) (pI m.1 11) (B.gi k 68) (B.gi k 69) (B.gi k 70) (B.gi k 71)) < 0) = false) (ht : (tell (pI m.1 10) (pI m.1 11) (B.gi k 70) (B.gi k 71)) = false) : pI (itakeL (B.hb 1) (hb2P B k m)) 11 = B.gi k 11 := by
  have hl := hb2_plen (B := B) (k := k) (m := m) h
  unfold itakeL
  rw [show clsL (hb2P B k m) = 2 from by rw [hb_cls h, ht]; exact cls_inf hc0 (fun h0 => by rw [tell_self h0] at ht; cases ht), inf_cfg (hb2P_51 h)]
  simp [pI_set_ne, pB_set_ne, pI_set_same, pB_set_same, hl, hb2P_68 h, hb2P_69 h, hb2P_70 h, hb2P_71 h, hb2P_72 h, hb2P_78 h, hb2P_79 h, hb2P_80 h, hb2P_81 h, hb2P_86 h, hb2P_6 h, hb2P_7 h, hb2P_8 h, hb2P_9 h, hb2P_10 h, hb2P_12 h, hb2P_13 h, hb2P_14 h, hb2P_11 h, hb2P_44 h]
theorem hbIT_11 {B : Br} {k : Nat} {m : MsgT} (h : k * 89 + 89 ≤ B.ps.length) (hc0 : decide ((c4 (pI m.1 8) (pI m.1 9) (pI m.1 10) (pI m.1 11) (B.gi k 68) (B.gi k 69) (B.gi k 70) (B.gi k 71)) < 0) = false) (ht : (tell (pI m.1 10) (pI m.1 11) (B.gi k 70) (B.gi k 71)) = false) : (hbT B k m).gi k 11 = B.gi k 11 := by
  unfold hbT
  rw [gi_setPort ?_ (hb2_len h) (by decide)]
  · exact hbI_11 h hc0 ht
  · unfold itakeL
    simp only [List.length_set]
    exact hb_hearlen h
theorem hbI_44 {B : Br} {k : Nat} {m : MsgT} (h : k * 89 + 89 ≤ B.ps.length) (hc0 : decide ((c4 (pI m.1 8) (pI m.1 9) (pI m.1 10) (pI m.1 11) (B.gi k 68) (B.gi k 69) (B.gi k 70) (B.gi k 71)) < 0) = false) (ht : (tell (pI m.1 10) (pI m.1 11) (B.gi k 70) (B.gi k 71)) = false) : pB (itakeL (B.hb 1) (hb2P B k m)) 44 = B.gb k 44 := by
  have hl := hb2_plen (B := B) (k := k) (m := m) h
  unfold itakeL
  rw [show clsL (hb2P B k m) = 2 from by rw [hb_cls h, ht]; exact cls_inf hc0 (fun h0 => by rw [tell_self h0] at ht; cases ht), inf_cfg (hb2P_51 h)]
  simp [pI_set_ne, pB_set_ne, pI_set_same, pB_set_same, hl, hb2P_68 h, hb2P_69 h, hb2P_70 h, hb2P_71 h, hb2P_72 h, hb2P_78 h, hb2P_79 h, hb2P_80 h, hb2P_81 h, hb2P_86 h, hb2P_6 h, hb2P_7 h, hb2P_8 h, hb2P_9 h, hb2P_10 h, hb2P_12 h, hb2P_13 h, hb2P_14 h, hb2P_11 h, hb2P_44 h]
theorem hbIT_44 {B : Br} {k : Nat} {m : MsgT} (h : k * 89 + 89 ≤ B.ps.length) (hc0 : decide ((c4 (pI m.1 8) (pI m.1 9) (pI m.1 10) (pI m.1 11) (B.gi k 68) (B.gi k 69) (B.gi k 70) (B.gi k 71)) < 0) = false) (ht : (tell (pI m.1 10) (pI m.1 11) (B.gi k 70) (B.gi k 71)) = false) : (hbT B k m).gb k 44 = B.gb k 44 := by
  unfold hbT
  rw [gb_setPort ?_ (hb2_len h) (by decide)]
  · exact hbI_44 h hc0 ht
  · unfold itakeL
    simp only [List.length_set]
    exact hb_hearlen h

end Go.Proofs.Ythfoacgdkoijeaa
