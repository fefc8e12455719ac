/- The walk of the law OctetTakes. -/
import Derived.Test.YtgiobcbdbhnneaaOctC
import Derived.Test.YtgiobcbdbhnneaaHeld
namespace Go.Proofs.Ytgiobcbdbhnneaa
open Go.RowKit
set_option linter.unusedVariables false

theorem rd_other {w w' : World} {N R Q : Nat} {xs : List Int} {sh : Bool} (h : Rd w N R xs sh) (hg : w.grownBy w' (some Q)) (hQ : Q ≠ R) (hN : N ≤ Q) : Rd w' N R xs sh := by
  obtain ⟨⟨hr, hNR⟩, c1, hf, hxx, v, c0, hv⟩ := h
  have same : ∀ b, b < w.heap.size → b ≠ Q → w'.heap[b]? = w.heap[b]? := fun b hb hne => hg.block b hb (fun he => hne (Option.some.inj he))
  have cell : ∀ b o, b < w.heap.size → b ≠ Q → w'.cell? ⟨b, o, none⟩ = w.cell? ⟨b, o, none⟩ := fun b o hb hne => World.cell?_of_block (same b hb hne)
  refine ⟨⟨Nat.lt_of_lt_of_le hr hg.size, hNR⟩, (cell R 1 hr (Ne.symm hQ)).trans c1, fun o => (World.frozen?_of_block (same R hr (Ne.symm hQ))).trans (hf o), hxx, v, (cell R 0 hr (Ne.symm hQ)).trans c0, ?_⟩
  rcases hv with hv | ⟨b, off, cap, h1, h2, h3, h4, h5, h6, h7⟩
  · exact .inl hv
  · exact .inr ⟨b, off, cap, h1, h2, h3, h4, h5, Nat.lt_of_lt_of_le h6 hg.size, fun i hi => (cell b _ h6 (by omega)).trans (h7 i hi)⟩

theorem rd_drew {w : World} {N R : Nat} {xs : List Int} {sh : Bool} (h : Rd w N R xs sh) : Rd w.drew N R xs sh := h

/-- A reader's cells, as the walk wants them. -/
theorem rd_cells {w : World} {N R : Nat} {xs : List Int} {sh : Bool} (h : Rd w N R xs sh) : ∃ a cap, w.cell? ⟨R, 0, none⟩ = some (.slice a xs.length cap) ∧ w.cell? ⟨R, 1, none⟩ = some (.bool sh) ∧ xs.length ≤ 9223372036854775807 := by
  obtain ⟨_, c1, hf, hx, v, c0, hv⟩ := h
  rcases hv with ⟨rfl, a, cap, rfl⟩ | ⟨b, off, cap, rfl, _, hlc, hm, _⟩
  · exact ⟨a, cap, c0, c1, by simp⟩
  · unfold maxLen at hm
    exact ⟨_, cap, c0, c1, by omega⟩

theorem ints_form {w : World} {k : IntKind} {v : Value} {xs : List Int} (h : IsInts w k v xs) : ∃ a cap, v = .slice a xs.length cap ∧ xs.length ≤ 9223372036854775807 ∧ (0 < xs.length → ∃ b off, a = some ⟨b, off, none⟩ ∧ b < w.heap.size ∧ xs.length ≤ cap ∧ cap ≤ 9223372036854775807 ∧ ∀ i, i < xs.length → w.cell? ⟨b, off + i, none⟩ = some (.int k (xs.getD i 0))) := by
  rcases h with ⟨rfl, rfl | ⟨a, cap, rfl⟩⟩ | ⟨b, off, cap, rfl, h0, h1, h2, h3, h4⟩
  · exact ⟨none, 0, rfl, by simp, fun h => by simp at h⟩
  · exact ⟨some a, cap, rfl, by simp, fun h => by simp at h⟩
  · unfold maxLen at h2
    exact ⟨_, cap, rfl, by omega, fun _ => ⟨b, off, rfl, h3, h1, h2, h4⟩⟩

/-- What a reader's cells hold, told off the world. -/
def fa (w : World) (Q : Nat) : Option Addr := match w.cell? ⟨Q, 0, none⟩ with | some (.slice a _ _) => a | _ => none
def fl (w : World) (Q : Nat) : Nat := match w.cell? ⟨Q, 0, none⟩ with | some (.slice _ l _) => l | _ => 0
def fc (w : World) (Q : Nat) : Nat := match w.cell? ⟨Q, 0, none⟩ with | some (.slice _ _ c) => c | _ => 0
def fb (w : World) (Q : Nat) : Bool := match w.cell? ⟨Q, 1, none⟩ with | some (.bool b) => b | _ => false
theorem rd_fns {w : World} {N R : Nat} {xs : List Int} {sh : Bool} (h : Rd w N R xs sh) : fl w R = xs.length ∧ fb w R = sh ∧ xs.length ≤ 9223372036854775807 := by
  obtain ⟨a, cap, c0, c1, hn⟩ := rd_cells h
  exact ⟨by simp [fl, c0], by simp [fb, c1], hn⟩
theorem rd_forms {w : World} {N R : Nat} {xs : List Int} {sh : Bool} (h : Rd w N R xs sh) : w.cell? ⟨R, 0, none⟩ = some (.slice (fa w R) (fl w R) (fc w R)) ∧ w.cell? ⟨R, 1, none⟩ = some (.bool (fb w R)) := by
  obtain ⟨a, cap, c0, c1, hn⟩ := rd_cells h
  exact ⟨by simp [fa, fl, fc, c0], by simp [fb, c1]⟩

def Two (w wr : World) (R Q : Nat) : Prop := Ext w wr ∧ ∃ xs sh, Rd wr R R xs sh ∧ Rd wr w.heap.size Q xs sh

set_option maxHeartbeats 6400000 in
theorem law_OctetTakes {w : World} (v : Value) (xs : List Int) (hv : IsInts w .u8 v xs ∧ ∀ z ∈ xs, (Lit.int .u8 z).wf = true) (u : Value) (ls : List Int) (hu : IsInts w .i64 u ls ∧ ∀ z ∈ ls, (Lit.int .i64 z).wf = true) :
    Calls Try.prog 4 #[v, u] w fun e w' => e = .returned (.bool true) ∧ Ext w w' := by
  obtain ⟨a, cap, rfl, hn, ha⟩ := ints_form hv.1
  obtain ⟨a', cap', rfl, hn', ha'⟩ := ints_form hu.1
  have HA := Lib.hid ha
  have HA' := Lib.hid ha'
  have HV := Lib.hid hv
  have HU := Lib.hid hu
  clear ha ha' hv hu
  by_cases h1 : 200 < xs.length
  · go_enter Try.func4, Try.ntmps4
    go_wp2_with fail
    refine (awake1 _).mono ?_
    rintro e w1 ⟨rfl, g1⟩
    go_wp2
    go_ret
    exact ⟨rfl, g1⟩
  by_cases h2 : 60 < ls.length
  · go_enter Try.func4, Try.ntmps4
    go_wp2_with fail
    refine (awake1 _).mono ?_
    rintro e w1 ⟨rfl, g1⟩
    go_wp2
    go_ret
    exact ⟨rfl, g1⟩
  have hbx : Hid (∀ x ∈ xs, 0 ≤ x ∧ x < 256) := Lib.hid (fun x hx => wf_u8 (HV.out.2 x hx))
  go_enter Try.func4, Try.ntmps4
  go_wp2_with fail
  refine (awake1 _).mono ?_
  rintro e w1 ⟨rfl, g1⟩
  go_wp2_with fail
  refine (new_any _ xs _ (HV.out.1.ext g1) hbx.out (by omega)).mono ?_
  rintro e w2 ⟨R, rfl, hrd, hR, hx2⟩
  have hw2 : Ext w w2 := g1.trans hx2
  have hRw : w.heap.size ≤ R := Nat.le_trans g1.size hR
  have hR2 : R < w2.heap.size := hrd.1.1
  obtain ⟨Q, hQ⟩ : ∃ Q, w2.heap.size = Q := ⟨_, rfl⟩
  have hqd : Rd (w2.alloc (.cells #[.slice a xs.length cap, .bool false] 33)) w.heap.size Q xs false := by
    subst hQ
    refine ⟨⟨by simp, hw2.size⟩, (World.cell?_alloc_at _ _ _ _ rfl).trans rfl, fun o => World.frozen?_alloc_at _ _ _ _ rfl, hbx.out, _, (World.cell?_alloc_at _ _ _ _ rfl).trans rfl, ?_⟩
    rcases HV.out.1 with ⟨rfl, _⟩ | ⟨b, off, cap2, he, h0, hl, hm, hb, hc⟩
    · exact .inl ⟨rfl, _, _, rfl⟩
    · have hb2 : b < w2.heap.size := Nat.lt_of_lt_of_le hb hw2.size
      exact .inr ⟨b, off, cap2, he, h0, hl, hm, hb, by simp; omega, fun i hi => (World.cell?_alloc_past _ _ _ hb2).trans ((hw2.cell hb).trans (hc i hi))⟩
  have hrq := rd_ext hrd ((Ext.refl w2).alloc (.cells #[.slice a xs.length cap, .bool false] 33))
  have hwq : Ext w (w2.alloc (.cells #[.slice a xs.length cap, .bool false] 33)) := hw2.alloc _
  have hRQ : R ≠ Q := by omega
  have hQR : Q ≠ R := Ne.symm hRQ
  have hQw : w.heap.size ≤ Q := by have := hw2.size; omega
  have hRQ' : R ≤ Q := by omega
  have HT : Hid (Two w (w2.alloc (.cells #[.slice a xs.length cap, .bool false] 33)) R Q) := Lib.hid ⟨hwq, xs, false, hrq, hqd⟩
  clear hrd hqd hrq hwq hR hx2 hw2
  go_wp2
  clear hQ
  go_loopw [8] (fun i wr => ∃ j : Nat, j ≤ ls.length ∧ i = .int .i64 j ∧ Two w wr R Q) (fun i _ => ls.length - (intOf i).toNat)
  case atStart => exact ⟨0, by omega, rfl, HT.out⟩
  case round =>
    clear HT
    obtain ⟨j, hj, rfl, hx1, ys, sh, hr1, hq1⟩ := hrel
    by_cases hlt : j < ls.length
    · obtain ⟨b, off, rfl, hb, hlc, hcm, hc⟩ := HA'.out (by omega)
      obtain ⟨k, hk⟩ : ∃ k : Int, ls.getD j 0 = k := ⟨_, rfl⟩
      have hcj := hc j hlt
      rw [hk] at hcj
      have hS : Hid (∀ W', Ext w W' → Ext w W' ∧ W'.cell? ⟨b, off + j, none⟩ = some (.int .i64 k)) := Lib.hid (fun W' hx => ⟨hx, (hx.cell hb).trans hcj⟩)
      clear hc hk hcj
      go_wp2
      go_region_held3 (fun W' => Ext w W' ∧ W'.cell? ⟨b, off + j, none⟩ = some (.int .i64 k)) ((first | exact hS.out _ hx1 | exact hS.out _ hx1.drew | exact hS.out _ hx2 | exact ⟨hS.out _ hx3, d0, d1⟩)) (first | (go_at_call 20; refine (take_any R ys sh k _ (by first | exact hr1 | exact rd_drew hr1)).mono ?_; rintro e w2 ⟨rfl, hr2, hg2⟩; have hq2 := rd_other (by first | exact hq1 | exact rd_drew hq1) hg2 hRQ hRw; have hx2 : Ext w w2 := only_ext (by first | exact hx1 | exact hx1.drew) hRw hg2) | (go_at_call 21; refine (rtake_any Q ys sh k _ (by first | exact hq2 | exact rd_drew hq2)).mono ?_; rintro e w3 ⟨rfl, hq3, hg3⟩; have hr3 := rd_other (by first | exact hr2 | exact rd_drew hr2) hg3 hQR hRQ'; have hx3 : Ext w w3 := only_ext (by first | exact hx2 | exact hx2.drew) hQw hg3; obtain ⟨a2, cap2, d0, d1, dn⟩ := rd_cells hq3; have heq := shut_change (S2 := fun W' => (Ext w W' ∧ W'.cell? ⟨b, off + j, none⟩ = some (.int .i64 k)) ∧ W'.cell? ⟨Q, 0, none⟩ = some (.slice a2 (tkX ys sh k).length cap2) ∧ W'.cell? ⟨Q, 1, none⟩ = some (.bool (tkS ys sh k))) (by assumption) (fun W' h => h.1); simp only [heq] at *) | (go_at_call 22; refine (left_any R _ _ _ (by first | exact hr3 | exact rd_drew hr3)).mono ?_; rintro e w4 ⟨rfl, rfl⟩) | (go_at_call 23; refine (short_any R _ _ _ (by first | exact hr3 | exact rd_drew hr3)).mono ?_; rintro e w5 ⟨rfl, rfl⟩))
      go_wp2
      go_roundw
      case rel => exact ⟨j + 1, by omega, by go_num, hx3, _, _, hr3, hq3⟩
      case measure => simp [intOf]; omega
    · obtain ⟨a2, cap2, d0, d1, dn⟩ := rd_cells hq1
      go_wp2
      go_quiet ((go_at_call 22; exact quietL (left_any R ys sh _ hr1)))
      go_wp2
      go_ret
      exact ⟨rfl, hx1.drewN _⟩

end Go.Proofs.Ytgiobcbdbhnneaa
