/- The keys of the database's map, as an iterator. No statement is proved here. -/
import Derived.Test.YtheackckmhbodaaFdU
import Derived.Test.YtheackckmhbodaaFdF
import Derived.RangeFuncStops
import Derived.RangeFuncBox
import Derived.RangeFuncOwn
import Derived.RangeFuncLeaves
import Derived.Sort.MapsRangeIn
import Derived.OwnWalkIn
import Derived.TacticsInMore
import Derived.RegionIn
import Derived.LoopNIn
import Derived.LoopIn
namespace Go.Proofs.Ytheackckmhbodaa
open Go.RowKit Go.BigFrame Go.WideShapes Go.ChangeShapes Go.Deep
set_option linter.unusedVariables false
set_option linter.unusedSimpArgs false

/-- Each key once. -/
def AllKeys (L : List En) (ss : List Int) : Prop := ss.Nodup ∧ ∀ x, x ∈ ss ↔ x ∈ L.map Prod.fst
/-- Those that have come. -/
def Come (L : List En) (left : Lit → Bool) (ss : List Int) : Prop := ss.Nodup ∧ ∀ x, x ∈ ss ↔ (x ∈ L.map Prod.fst ∧ left (ku x) = false)
theorem Come.step {L : List En} {left : Lit → Bool} {ss : List Int} (h : Come L left ss) {x : Int} (hx : x ∈ L.map Prod.fst) (hl : left (ku x) = true) : Come L (fun z => left z && !z.sameKey (ku x)) (ss ++ [x]) := by
  have hn : x ∉ ss := fun hc => by have := ((h.2 x).1 hc).2; rw [hl] at this; cases this
  refine ⟨List.nodup_append.2 ⟨h.1, by simp, fun a ha b hb => by simp at hb; subst hb; exact fun e => hn (e ▸ ha)⟩, fun y => ?_⟩
  by_cases hy : y = x
  · subst hy
    simp [ku_same, hx]
  · simp [h.2 y, hy, ku_same]
theorem Come.all {L : List En} {left : Lit → Bool} {ss : List Int} (h : Come L left ss) (hl : ∀ kl, left kl = false) : AllKeys L ss := ⟨h.1, fun x => by rw [h.2 x, hl]; simp⟩

set_option maxRecDepth 100000 in
set_option maxHeartbeats 2000000 in
theorem keys_loop (n l Bm b nn : Nat) (hn : 1 ≤ n) (D : DU) (L : List En) (hh : ∀ x, Maps.has D (ku x) = decide (x ∈ L.map Prod.fst)) (J Jx : List Int → World → Prop) (W : World) (hJ : AbidesFrom W.heap.size J) (hJx : AbidesFrom W.heap.size Jx)
    (hY : ∀ pre x W1, J pre W1 → pre.length < Maps.size D → YieldAt Fence.wide (n - 1) Try.prog l #[.int .u64 x] W1 fun e W' =>
      (e = .returned (.bool true) ∧ J (pre ++ [x]) W' ∧ KeepsWalks W1 W') ∨ (e = .returned (.bool false) ∧ Jx (pre ++ [x]) W'))
    (hm : W.cell? ⟨Bm, 0, none⟩ = some (.map (some b))) (hown : W.ownsMap Try.prog 30 pE b nn D) (h0 : J [] W) :
    CallsIn Fence.wide n Try.prog 37 #[.func (.yield l) #[] #[], .pointer (some ⟨Bm, 0, none⟩)] W fun e W' => (∃ v, e = .returned v) ∧ ((∃ xs, AllKeys L xs ∧ J xs W') ∨ (∃ pre, True ∧ Jx pre W')) := by
  refine callsIn_of_wp (F := Fence.wide) Try.func37 rfl trivial ?_
  simp only [Try.ntmps37, List.size_toArray, List.length_cons, List.length_nil, Nat.reduceAdd, Nat.reduceSub, Array.replicate_succ, Array.replicate_zero, List.push_toArray, List.append_toArray, List.nil_append, List.cons_append]
  gi_wp2_with (first
    | (gi_at_range; refine wpListIn_range_own _ rfl _ 52 rfl 30 57 KK Try.underlying52 pE b nn D rfl hown ?_
       intro w0 hrg0 hg0 hs0)
    | gi_in)
  go_frame
  obtain ⟨B, hB⟩ : ∃ B, W.heap.size = B := ⟨_, rfl⟩
  rw [hB] at hJ hJx hrg0 ⊢
  gi_loopw [3] (fun _ wr => ∃ (left : Lit → Bool) (cnt : Nat) (ss : List Int), wr.ranges Try.prog 30 pE b B nn D left cnt ∧ ss.length + cnt ≤ Maps.size D ∧ Come L left ss ∧ J ss wr) (fun _ wr => wr.rangeLeft b B)
  case atStart => exact ⟨_, _, [], hrg0, by simp, ⟨List.nodup_nil, fun x => ⟨fun h => absurd h List.not_mem_nil, fun h => by have h2 := h.2; rw [hh, decide_eq_true h.1] at h2; cases h2⟩⟩, hJ [] W w0 none h0 hg0 (fun r e => by cases e)⟩
  case round =>
    obtain ⟨left, cnt, ss, hrg, hcs, hC, hJs⟩ := hrel
    have hleq := hrg.left_eq
    gi_wp2_with (first
      | (gi_at_next; refine wpListIn_next_ranges _ rfl _ rfl 30 KK pE id id (fun key _ _ => ⟨key, rfl⟩) (fun v _ _ => ⟨v, rfl⟩) b B nn _ _ _ rfl hrg ?_ ?_)
      | gi_in)
    · intro hc0 hl0
      gi_wp2
      go_end0
      exact ⟨⟨_, rfl⟩, .inl ⟨ss, hC.all hl0, hJs⟩⟩
    · intro key v kl yd yp w2 cnt2 hkey hlk hv hat hrg2 hlt hg2 hs2 hen
      obtain ⟨x, hk1, hk2, _⟩ := Maps.keyOf_int_inv Try.underlying30 hkey
      subst hk1 hk2
      have hx : x ∈ L.map Prod.fst := of_decide_eq_true ((hh x).symm.trans (Maps.has_true_of_atKey hat))
      have hJ2 : J ss w2 := hJ ss wr w2 (some B) hJs hg2 (fun r e => by cases e; exact ⟨Nat.le_refl _, hrg.iter_walk⟩)
      obtain ⟨fn, tmps, assign, body, hy, hR⟩ := hY ss x w2 hJ2 (by omega)
      clear hs2
      gi_wp2
      refine hR.mono ?_
      rintro e W3 (⟨rfl, hJ3, hk3⟩ | ⟨rfl, hJ3⟩)
      · gi_wp2
        have hrg3 := hrg2.of_walks hk3
        go_roundw
        case rel => exact ⟨_, cnt2, ss ++ [x], hrg3, by simp; omega, hC.step hx hlk, hJ3⟩
        case measure => rw [hrg3.left_eq, hleq]; exact hlt
      · gi_wp2
        refine bodyPost_ret (results_none rfl _ _ _) rfl ?_
        exact ⟨⟨_, rfl⟩, .inr ⟨_, trivial, hJ3⟩⟩
set_option maxRecDepth 100000 in
set_option maxHeartbeats 2000000 in
theorem keys_any (n : Nat) (mb : Option Nat) (w : World) : CallsIn Fence.wide n Try.prog 33 #[.map mb] w fun e w' => e = .returned (.func (.func 37) #[] #[.pointer (some ⟨w.heap.size, 0, none⟩)]) ∧ w' = w.alloc (.cells #[.map mb] 52) := by
  refine callsIn_of_wp (F := Fence.wide) Try.func33 rfl trivial ?_
  simp only [Try.ntmps33, List.size_toArray, List.length_cons, List.length_nil, Nat.reduceAdd, Nat.reduceSub, Array.replicate_succ, Array.replicate_zero, List.push_toArray, List.append_toArray, List.nil_append, List.cons_append]
  gi_wp2
  go_ret
  exact ⟨rfl, rfl⟩
/-- maps.Keys hands back an iterator over the keys. -/
theorem keys_stops (n Bm b nn : Nat) (hn : 1 ≤ n) (D : DU) (L : List En) (hh : ∀ x, Maps.has D (ku x) = decide (x ∈ L.map Prod.fst)) (w : World) (hBm : Bm < w.heap.size) (hm : w.cell? ⟨Bm, 0, none⟩ = some (.map (some b))) (hown : w.ownsMap Try.prog 30 pE b nn D) :
    SeqStops Fence.wide n Try.prog 37 #[.pointer (some ⟨Bm, 0, none⟩)] (Value.int .u64) (AllKeys L) (fun _ => True) (Maps.size D) w := fun l J Jx W hW hJ hJx hY h0 => by
  have hlt := hown.lt
  have hown' : W.ownsMap Try.prog 30 pE b nn D := by
    obtain ⟨es, clock, hb, F, hs, hD⟩ := hown
    exact ⟨es, clock, (hW.block b hlt).trans hb, F, hs, hD⟩
  exact keys_loop n l Bm b nn hn D L hh J Jx W hJ hJx hY ((hW.cell (p := ⟨Bm, 0, none⟩) hBm).trans hm) hown' h0

end Go.Proofs.Ytheackckmhbodaa
