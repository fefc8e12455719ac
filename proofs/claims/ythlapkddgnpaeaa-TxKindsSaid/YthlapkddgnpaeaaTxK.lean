/- What is sent: which kinds; what was sent ahead stays; no other port turns: plain facts. No statement is proved here. -/
import Derived.Test.YthlapkddgnpaeaaTxN
namespace Go.Proofs.Ythlapkddgnpaeaa
open Go.RowKit Go.BigFrame Go.WideShapes Go.ChangeShapes Go.Deep
set_option linter.unusedVariables false
set_option linter.unusedSimpArgs false

theorem k_port_setp {B : Br} {k j i : Nat} {v : Value} (hi : i < 89) (h : j ≠ k) : port (B.setp k i v).ps j = port B.ps j := by
  apply List.ext_getElem?
  intro m
  by_cases hm : m < 89
  · rw [port_at hm, port_at hm]
    show (B.ps.set (k * 89 + i) v)[j * 89 + m]? = _
    rw [List.getElem?_set_ne (by omega)]
  · rw [List.getElem?_eq_none (by simp [port]; omega), List.getElem?_eq_none (by simp [port]; omega)]
theorem k_clock_port (Z : Br) {k j : Nat} (h : j ≠ k) : port (txClock Z k).ps j = port Z.ps j := by
  unfold txClock
  split
  · rw [k_port_setp (by decide) h, k_port_setp (by decide) h]
  · rw [k_port_setp (by decide) h]
theorem k_clock_os (Z : Br) (k : Nat) : (txClock Z k).os = Z.os := by
  unfold txClock
  split <;> rfl
theorem k_clock_45 (Z : Br) (k : Nat) : (txClock Z k).gb k 45 = Z.gb k 45 := by
  unfold txClock
  split
  · rw [gb_setp_ne _ _ _ _ _ (by decide), gb_setp_ne _ _ _ _ _ (by decide)]
  · rw [gb_setp_ne _ _ _ _ _ (by decide)]
theorem k_sent_port (Z : Br) (k j : Nat) (kd : Int) : port (Z.sent k kd).ps j = port Z.ps j := rfl
theorem k_news_port (Z : Br) {k j : Nat} (h : j ≠ k) : port (txNews Z k).ps j = port Z.ps j := by
  unfold txNews
  rw [k_port_setp (by decide) h]
  unfold txSend
  split
  · rw [k_port_setp (by decide) h, k_port_setp (by decide) h, k_sent_port]
  · rw [k_port_setp (by decide) h, k_port_setp (by decide) h, k_port_setp (by decide) h, k_sent_port]
theorem k_news_45 (Z : Br) (k : Nat) : (txNews Z k).gb k 45 = Z.gb k 45 := by
  unfold txNews
  rw [gb_setp_ne _ _ _ _ _ (by decide)]
  unfold txSend
  split
  · rw [gb_setp_ne _ _ _ _ _ (by decide), gb_setp_ne _ _ _ _ _ (by decide), sent_gb]
  · rw [gb_setp_ne _ _ _ _ _ (by decide), gb_setp_ne _ _ _ _ _ (by decide), gb_setp_ne _ _ _ _ _ (by decide), sent_gb]
theorem k_news_os (Z : Br) (k : Nat) : (txNews Z k).os = Z.os ++ sentL k (txMsg Z k (txKind (Z.gb k 45) (Z.gi k 87))) := by
  show (txSend Z k (txKind (Z.gb k 45) (Z.gi k 87))).os = _
  exact txSend_os _ _ _
/-- The first cell of a message: its kind. -/
theorem k_kind (Z : Br) (k : Nat) : ∃ kd : Int, (sentL k (txMsg Z k (txKind (Z.gb k 45) (Z.gi k 87))))[1]? = some (.int .i64 kd) ∧ (kd == 2) = Z.gb k 45 := by
  unfold txKind
  cases h : Z.gb k 45
  · rw [if_neg (by simp)]
    split
    · exact ⟨1, rfl, rfl⟩
    · exact ⟨0, rfl, rfl⟩
  · rw [if_pos rfl]
    exact ⟨2, rfl, rfl⟩
structure KK (B Z : Br) (k s : Nat) : Prop where
  th : TH B Z k s
  sr : Z.gb k 45 = B.gb k 45
  os : ∀ j, j < B.no * 18 → Z.os[j]? = B.os[j]?
  new : ∀ j, B.no ≤ j → j < Z.no → Z.os[j * 18]? = some (.int .i64 k) ∧ ∃ kd : Int, Z.os[j * 18 + 1]? = some (.int .i64 kd) ∧ (kd == 2) = B.gb k 45
  port : ∀ j, j ≠ k → port Z.ps j = port B.ps j
theorem KK.start {B : Br} (ho : B.ok) (k : Nat) : KK B B k 0 := ⟨TH.start ho k, rfl, fun _ _ => rfl, fun j h1 h2 => by omega, fun _ _ => rfl⟩
theorem KK.step {B Z : Br} {k s : Nat} (h : KK B Z k s) (hk : k < B.np) (hk8 : k < 1000) (h14 : 0 ≤ B.gi k 14 ∧ B.gi k 14 ≤ 1000) (hs : s ≤ 1000) : ∃ t, s ≤ t ∧ t ≤ s + 1 ∧ KK B (txF Z k).2 k t := by
  obtain ⟨t, h1, h2, h3⟩ := h.th.step hk hk8 h14 hs
  refine ⟨t, h1, h2, h3, ?_, ?_, ?_, ?_⟩
  · rcases txF_cases Z k with e | e | ⟨e, -⟩ <;> rw [e]
    · exact h.sr
    · exact (k_clock_45 Z k).trans h.sr
    · exact (k_news_45 Z k).trans h.sr
  · intro j hj
    rcases txF_cases Z k with e | e | ⟨e, -⟩ <;> rw [e]
    · exact h.os j hj
    · show (txClock Z k).os[j]? = _
      rw [k_clock_os]
      exact h.os j hj
    · show (txNews Z k).os[j]? = _
      have hl : Z.os.length = Z.no * 18 := h.th.ok.os.1
      have hn := h.th.no
      rw [k_news_os, List.getElem?_append_left (by omega)]
      exact h.os j hj
  · intro j hj hz
    rcases txF_cases Z k with e | e | ⟨e, -⟩ <;> rw [e] at hz ⊢
    · exact h.new j hj hz
    · show (txClock Z k).os[j * 18]? = _ ∧ ∃ kd : Int, (txClock Z k).os[j * 18 + 1]? = some (.int .i64 kd) ∧ _
      rw [k_clock_os]
      exact h.new j hj (by rw [show (true, txClock Z k).2.no = Z.no from txClock_no Z k] at hz; exact hz)
    · rw [show (true, txNews Z k).2.no = Z.no + 1 from txNews_no Z k] at hz
      show (txNews Z k).os[j * 18]? = _ ∧ ∃ kd : Int, (txNews Z k).os[j * 18 + 1]? = some (.int .i64 kd) ∧ _
      have hl : Z.os.length = Z.no * 18 := h.th.ok.os.1
      rw [k_news_os]
      by_cases hlt : j < Z.no
      · rw [List.getElem?_append_left (by omega), List.getElem?_append_left (by omega)]
        exact h.new j hj hlt
      · obtain rfl : j = Z.no := by omega
        rw [List.getElem?_append_right (by omega), List.getElem?_append_right (by omega), hl, Nat.sub_self, show Z.no * 18 + 1 - Z.no * 18 = 1 by omega]
        obtain ⟨kd, a, b⟩ := k_kind Z k
        exact ⟨rfl, kd, a, b.trans h.sr⟩
  · intro j hj
    rcases txF_cases Z k with e | e | ⟨e, -⟩ <;> rw [e]
    · exact h.port j hj
    · exact (k_clock_port Z hj).trans (h.port j hj)
    · exact (k_news_port Z hj).trans (h.port j hj)
theorem cell_ltk {w : World} {X j : Nat} {v : Value} (h : w.cell? ⟨X, j, none⟩ = some v) : X < w.heap.size := by
  by_cases hx : X < w.heap.size
  · exact hx
  · simp [World.cell?, Array.getElem?_eq_none (Nat.le_of_not_lt hx)] at h
theorem k_piece {B Z : Br} {k s : Nat} (h : KK B Z k s) {j : Nat} (hj : j < B.no) : piece 18 Z.os j = piece 18 B.os j := by
  apply List.ext_getElem?
  intro m
  unfold piece
  rw [List.getElem?_take, List.getElem?_take]
  by_cases hm : m < 18
  · rw [if_pos hm, if_pos hm, List.getElem?_drop, List.getElem?_drop]
    exact h.os _ (by omega)
  · rw [if_neg hm, if_neg hm]

end Go.Proofs.Ythlapkddgnpaeaa
