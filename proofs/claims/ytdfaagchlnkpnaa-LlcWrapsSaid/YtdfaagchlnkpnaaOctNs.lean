/- The contract of package octet's New, the chapter's example, and the walks of OctetPuts and OctetCut. -/
import Derived.Test.YtdfaagchlnkpnaaOctRs
import Derived.Laws.AppendOwnNone
namespace Go.Proofs.Ytdfaagchlnkpnaa
open Go.RowKit
set_option linter.unusedVariables false
set_option linter.unusedSimpArgs false

/-- A new reader is handed back. -/
def NewRd (w : World) (xs : List Int) (e : Ending) (w' : World) : Prop := ∃ R, e = .returned (.pointer (some ⟨R, 0, none⟩)) ∧ Rd w' R R xs false ∧ w.heap.size ≤ R ∧ Ext w w'

theorem rd_new {w : World} {base : Nat} {v : Value} {xs : List Int} (t : TypeId) (h : w.ownsRow base 5 1 v xs.length (xs.map (Value.int .u8))) (hx : ∀ x ∈ xs, 0 ≤ x ∧ x < 256) : Rd (w.alloc (.cells #[v, .bool false] t)) w.heap.size w.heap.size xs false := by
  refine ⟨⟨by simp, Nat.le_refl _⟩, (World.cell?_alloc_at _ _ _ _ rfl).trans rfl, fun o => World.frozen?_alloc_at _ _ _ _ rfl, hx, v, (World.cell?_alloc_at _ _ _ _ rfl).trans rfl, ?_⟩
  rcases isBytes_own h with ⟨rfl, rfl | ⟨a, cap, rfl⟩⟩ | ⟨b, off, cap, rfl, h0, hl, hm, hb, hc⟩
  · exact .inl ⟨rfl, _, _, rfl⟩
  · exact .inl ⟨rfl, _, _, rfl⟩
  · refine .inr ⟨b, off, cap, rfl, h0, hl, hm, hb, by simp; omega, fun i hi => ?_⟩
    exact (World.cell?_alloc_past _ _ _ hb).trans (hc i hi)

theorem rd_ext {w w' : World} {N R : Nat} {xs : List Int} {sh : Bool} (h : Rd w N R xs sh) (hx : Ext w w') : Rd w' N R xs sh := by
  obtain ⟨⟨hr, hN⟩, c1, hf, hxx, v, c0, hv⟩ := h
  refine ⟨⟨Nat.lt_of_lt_of_le hr hx.size, hN⟩, (hx.cell hr).trans c1, fun o => (Below.frozen hx hr).trans (hf o), hxx, v, (hx.cell hr).trans c0, ?_⟩
  rcases hv with hv | ⟨b, off, cap, h1, h2, h3, h4, h5, h6, h7⟩
  · exact .inl hv
  · exact .inr ⟨b, off, cap, h1, h2, h3, h4, h5, Nat.lt_of_lt_of_le h6 hx.size, fun i hi => (hx.cell h6).trans (h7 i hi)⟩

set_option maxHeartbeats 1600000 in
theorem new_any (v : Value) (xs : List Int) (w : World) (h : IsInts w .u8 v xs) (hx : ∀ x ∈ xs, 0 ≤ x ∧ x < 256) (hl : xs.length ≤ 100000) : Calls Try.prog 45 #[v] w (NewRd w xs) := by
  obtain ⟨i0, hi, hz0, hz1, hz2⟩ := info_parts info_u8
  rcases h with ⟨rfl, rfl | ⟨a, cap, rfl⟩⟩ | ⟨b, off, cap, rfl, h0, hlc, hm, hb, hc⟩
  · go_enter Try.func45, Try.ntmps45
    go_wp2_with (at_builtin; refine wpList_append_own_none rfl _ _ 33 rfl w.heap.size 5 i0 1 Try.underlying33 hi _ _ _ rfl (World.ownsRow_nil w w.heap.size 5 1) rfl ?_)
    go_wp2
    go_ret
    exact ⟨_, rfl, rd_new _ (World.ownsRow_nil w w.heap.size 5 1) hx, Nat.le_refl _, (Ext.refl w).alloc _⟩
  · go_enter Try.func45, Try.ntmps45
    go_wp2_with (at_builtin; refine wpList_append_own _ rfl _ _ 33 rfl w.heap.size 5 i0 (.int .u8 0) 1 1 Try.underlying33 hi hz0 hz1 hz2 rfl (by decide) _ _ _ rfl (World.ownsRow_nil w w.heap.size 5 1) a 0 cap [] rfl rfl ?c1 ?c2 ?c3 ?c4 ?c5 ?_)
    case c1 =>
      intro j u hj
      simp at hj
    case c2 =>
      intro u hu
      simp at hu
    case c3 => unfold maxLen; omega
    case c4 => omega
    case c5 => exact Nat.le_refl _
    intro v' w1 hown hgrow hnil
    have hv : v' = .slice none 0 0 := hnil
    subst hv
    go_wp2
    go_ret
    exact ⟨_, rfl, rd_new _ hown hx, hgrow.size, (Below.grown (Ext.refl w) hgrow (Nat.le_refl _) (fun g hg => by simp [Value.ownBlock] at hg)).alloc hgrow.size _⟩
  · go_enter Try.func45, Try.ntmps45
    go_wp2_with (at_builtin; refine wpList_append_own _ rfl _ _ 33 rfl w.heap.size 5 i0 (.int .u8 0) 1 1 Try.underlying33 hi hz0 hz1 hz2 rfl (by decide) _ _ _ rfl (World.ownsRow_nil w w.heap.size 5 1) ⟨b, off, none⟩ xs.length cap (xs.map (Value.int .u8)) rfl (by simp) ?d1 ?d2 ?d3 ?d4 ?d5 ?_)
    case d1 =>
      intro j u hj
      have hjl : j < xs.length := by
        rcases Nat.lt_or_ge j xs.length with h | h
        · exact h
        · simp [List.getElem?_eq_none h] at hj
      have hp : (⟨b, off, none⟩ : Addr).add j = ⟨b, off + j, none⟩ := by unfold Addr.add; split <;> simp_all
      rw [hp, hc j hjl]
      simp [List.getElem?_eq_getElem hjl] at hj
      subst hj
      simp [List.getD, hjl]
    case d2 =>
      intro u hu
      simp at hu
      obtain ⟨x, _, rfl⟩ := hu
      rfl
    case d3 => unfold maxLen; omega
    case d4 => omega
    case d5 => exact Nat.le_refl _
    intro v' w1 hown hgrow hnil
    have hW : Ext w w1 := Below.grown (Ext.refl w) hgrow (Nat.le_refl _) (fun g hg => by simp [Value.ownBlock] at hg)
    rcases hown.2 with ⟨hv, hz⟩ | ⟨g, cap', cur, hv, _⟩
    · omega
    · subst hv
      go_wp2
      go_ret
      exact ⟨_, rfl, rd_new _ hown hx, hgrow.size, hW.alloc _⟩

/-- A new row of bytes, as it was put. -/
def PutR (w : World) (n k : Nat) (e : Ending) (w' : World) : Prop := ∃ g, e = .returned (.slice (some ⟨g, 0, none⟩) k k) ∧ IsInts w' .u8 (.slice (some ⟨g, 0, none⟩) k k) (bts n k) ∧ Ext w w'

theorem put_r (n k : Nat) (w : World) (hn : n < 18446744073709551616) (h0 : 1 ≤ k) (h1 : k ≤ 8) : Calls Try.prog 36 #[.int .u64 n, .int .i64 k] w (PutR w n k) := by
  refine (put_any n k w hn h0 h1).mono ?_
  rintro e w' ⟨rfl, rfl⟩
  refine ⟨_, rfl, ?_, (Ext.refl w).alloc _⟩
  have := isBytes_alloc w (bts n k) k 5 (by rw [bts_len]; omega) (by rw [bts_len]; omega) (by unfold maxLen; omega)
  rwa [bts_len] at this

end Go.Proofs.Ytdfaagchlnkpnaa
