/- How far it is: the document's ways in memory; its lengths. No statement is proved here. -/
import Derived.Test.YtendaloeonbbeaaReT
import Derived.Test.YtendaloeonbbeaaReL
namespace Go.Proofs.Ytendaloeonbbeaa
open Go.RowKit Go.BigFrame Go.WideShapes Go.ChangeShapes Go.Deep
set_option linter.unusedVariables false
set_option linter.unusedSimpArgs false

def wa : Way → Nat | .none => 0 | .some q => q.1
def wb : Way → Nat | .none => 0 | .some q => q.2
def wi : Way → Bool | .none => false | .some _ => true
def WV (q : Way) : List Value := [.int .u64 (wa q : Int), .int .u64 (wb q : Int), .bool (wi q)]
def flatW (D : List Way) : List Value := D.flatMap WV
theorem flatW_cons (q : Way) (D : List Way) : flatW (q :: D) = WV q ++ flatW D := by simp [flatW]
theorem flatW_len : ∀ D : List Way, (flatW D).length = D.length * 3
  | [] => rfl
  | q :: D => by
    rw [flatW_cons, List.length_append, flatW_len D, List.length_cons]
    show 3 + D.length * 3 = _
    omega
theorem flatW_at : ∀ (D : List Way) (j : Nat), j < D.length → ∀ i, i < 3 → (flatW D)[j * 3 + i]? = (WV (D.getD j Option.none))[i]?
  | [], j, hj, i, hi => by simp at hj
  | x :: D, 0, hj, i, hi => by
    rw [flatW_cons, List.getElem?_append_left (by show 0 * 3 + i < 3; omega)]
    simp
  | x :: D, j + 1, hj, i, hi => by
    have ih := flatW_at D j (by simpa using hj) i hi
    rw [flatW_cons, List.getElem?_append_right (by show 3 ≤ (j + 1) * 3 + i; omega), show (j + 1) * 3 + i - (WV x).length = j * 3 + i by show (j + 1) * 3 + i - 3 = _; omega, ih]
    simp
theorem flatW_set : ∀ (D : List Way) (j : Nat) (q : Way), j < D.length → (flatW D).take (j * 3) ++ WV q ++ (flatW D).drop (j * 3 + 3) = flatW (D.set j q)
  | [], j, q, hj => by simp at hj
  | x :: D, 0, q, hj => by
    rw [List.set_cons_zero, flatW_cons, flatW_cons]
    simp [WV]
  | x :: D, j + 1, q, hj => by
    have ih := flatW_set D j q (by simpa using hj)
    rw [List.set_cons_succ, flatW_cons, flatW_cons, ← ih, List.take_append, List.drop_append, show (WV x).take ((j + 1) * 3) = WV x from List.take_of_length_le (by show 3 ≤ _; omega), show (WV x).drop ((j + 1) * 3 + 3) = [] from List.drop_eq_nil_of_le (by show 3 ≤ _; omega), show (WV x).length = 3 from rfl, show (j + 1) * 3 - 3 = j * 3 by omega, show (j + 1) * 3 + 3 - 3 = j * 3 + 3 by omega]
    simp
theorem flatW_rep : ∀ n, flatW (List.replicate n Option.none) = (List.range (n * 3)).map (fun i => #[Value.int .u64 0, .int .u64 0, .bool false][i % 3]!)
  | 0 => rfl
  | n + 1 => by
    rw [List.replicate_succ', show flatW (List.replicate n Option.none ++ [Option.none]) = flatW (List.replicate n Option.none) ++ WV Option.none by simp [flatW], flatW_rep n, show (n + 1) * 3 = n * 3 + 1 + 1 + 1 by omega, List.range_succ, List.range_succ, List.range_succ]
    simp only [List.map_append, List.map_cons, List.map_nil, List.append_assoc]
    congr 1
    rw [show n * 3 % 3 = 0 by omega, show (n * 3 + 1) % 3 = 1 by omega, show (n * 3 + 1 + 1) % 3 = 2 by omega]
    rfl
/-- A slice of ways, at the head of a block. -/
structure WAt (w : World) (g n cap : Nat) (D : List Way) : Prop where
  len : D.length = n
  row : ∃ cur, w.heap[g]? = some (.cells cur 34 (0, 0)) ∧ cur.size = cap * 3 ∧ cur.toList.take (n * 3) = flatW D
  cap1 : n ≤ cap
  cap2 : cap ≤ maxLen
theorem WAt.lt {w : World} {g n cap : Nat} {D : List Way} (h : WAt w g n cap D) : g < w.heap.size := by
  obtain ⟨cur, h1, -⟩ := h.row
  exact heap_lt h1
theorem WAt.keep {w w' : World} {g n cap : Nat} {D : List Way} (h : WAt w g n cap D) (hk : w'.heap[g]? = w.heap[g]?) : WAt w' g n cap D := by
  obtain ⟨cur, h1, h2⟩ := h.row
  exact ⟨h.len, ⟨cur, hk.trans h1, h2⟩, h.cap1, h.cap2⟩
theorem WAt.ext {w w' : World} {g n cap : Nat} {D : List Way} (h : WAt w g n cap D) (hx : Ext w w') : WAt w' g n cap D := h.keep (hx.block _ h.lt)
theorem WAt.cell {w : World} {g n cap : Nat} {D : List Way} (h : WAt w g n cap D) {j i : Nat} (hj : j < n) (hi : i < 3) : w.cell? ⟨g, j * 3 + i, none⟩ = (WV (D.getD j Option.none))[i]? := by
  obtain ⟨cur, h1, h2, h3⟩ := h.row
  rw [cell_of_row _ _ _ _ _ _ h1, ← flatW_at D j (by rw [h.len]; exact hj) i hi, ← h3, List.getElem?_take, if_pos (by omega)]
  simp
theorem WAt.range {w : World} {g n cap : Nat} {D : List Way} (h : WAt w g n cap D) {j : Nat} (hj : j < n) : w.rangeAt g (j * 3) (WV (D.getD j Option.none)) := fun i v hv => by
  have hi : i < 3 := by
    have := (List.getElem?_eq_some_iff.1 hv).1
    exact this
  rw [h.cell hj hi, hv]
theorem WAt.of_own {w : World} {base n : Nat} {v : Value} {D : List Way} (hn : 0 < n) (hl : D.length = n) (h : w.ownsRow base 34 3 v n (flatW D)) : ∃ g cap, v = .slice (some ⟨g, 0, none⟩) n cap ∧ base ≤ g ∧ WAt w g n cap D := by
  rcases h.2 with ⟨-, h0⟩ | ⟨g, cap, cur, rfl, hb, hg, hc, hm, hs, ht⟩
  · omega
  · exact ⟨g, cap, rfl, hb, hl, ⟨cur, hg, hs, ht⟩, hc, hm⟩
theorem take_set3 {cur : Array Value} {n k m : Nat} (hk : k + m ≤ n) (hc : n ≤ cur.size) (vs : List Value) (hv : vs.length = m) : ((cur.toList.take k ++ vs ++ cur.toList.drop (k + m)).toArray).toList.take n = (cur.toList.take n).take k ++ vs ++ (cur.toList.take n).drop (k + m) := by
  simp only [List.take_take, Nat.min_eq_left (show k ≤ n by omega)]
  rw [List.take_append, List.take_append, List.drop_take, List.take_take, List.length_append, List.length_take, hv, Array.length_toList, Nat.min_eq_left (show k ≤ cur.size by omega), show min n k = k from Nat.min_eq_right (by omega), List.take_of_length_le (show vs.length ≤ n - k by omega)]
/-- One way is written. -/
theorem WAt.put {w w' : World} {g n cap : Nat} {D : List Way} (h : WAt w g n cap D) {j : Nat} (hj : j < n) (q : Way) {cur cur' : Array Value} (h1 : w.heap[g]? = some (.cells cur 34 (0, 0))) (hq : w'.heap[g]? = some (.cells cur' 34 (0, 0)))
    (hc : (cur.toList.take (j * 3) ++ WV q ++ cur.toList.drop (j * 3 + 3)).toArray = cur') : WAt w' g n cap (D.set j q) := by
  obtain ⟨cur2, h2, h3, h4⟩ := h.row
  rw [h1] at h2
  cases h2
  have hcap := h.cap1
  refine ⟨by rw [List.length_set]; exact h.len, ⟨cur', hq, ?_, ?_⟩, h.cap1, h.cap2⟩
  · rw [← hc]
    simp [WV]
    omega
  · rw [← hc, take_set3 (k := j * 3) (m := 3) (n := n * 3) (by omega) (by omega) (WV q) rfl, h4]
    exact flatW_set D j q (by rw [h.len]; exact hj)
theorem rnds_wa {n : Nat} {L : List Hp} {s : Nat} (hs : s < n) (hw : ∀ h ∈ L, h.wf) (t : Nat) (i : Nat) : wb ((rnds n L s t).getD i Option.none) ≤ t ∧ wa ((rnds n L s t).getD i Option.none) ≤ t * 4294967295 := by
  cases hd : (rnds n L s t).getD i Option.none with
  | none => exact ⟨Nat.zero_le _, Nat.zero_le _⟩
  | some q =>
    obtain ⟨w1, w2⟩ := (rnds_best hs t (L := L)).1 i q hd
    refine ⟨w2, Nat.le_trans ?_ (Nat.mul_le_mul_right _ w2)⟩
    show q.1 ≤ q.2 * 4294967295
    clear w2 hd
    induction w1 with
    | here => exact Nat.zero_le _
    | @hop i q h hwk hL hok hf ih =>
      have := (hw h hL).2.2.2
      show q.1 + h.c.toNat ≤ (q.2 + 1) * 4294967295
      omega
theorem rndA_wa {n t : Nat} {now : List Way} (hn : ∀ i, wb (now.getD i Option.none) ≤ t ∧ wa (now.getD i Option.none) ≤ t * 4294967295) : ∀ (L : List Hp) (next : List Way), (∀ h ∈ L, h.wf) → (∀ i, wb (next.getD i Option.none) ≤ t + 1 ∧ wa (next.getD i Option.none) ≤ (t + 1) * 4294967295) → ∀ i, wb ((rndA n now next L).getD i Option.none) ≤ t + 1 ∧ wa ((rndA n now next L).getD i Option.none) ≤ (t + 1) * 4294967295
  | [], next, _, hx, i => hx i
  | h :: L, next, hw, hx, i => by
    refine rndA_wa hn L (rnd1 n now next h) (fun g hg => hw g (List.mem_cons_of_mem _ hg)) (fun j => ?_) i
    unfold rnd1
    split
    · cases hq : now.getD h.f.toNat Option.none with
      | none => exact hx j
      | some q =>
        dsimp only
        split
        · rw [getD_setW]
          split
          · have h1 := hn h.f.toNat
            rw [hq] at h1
            have h2 := (hw h List.mem_cons_self).2.2.2
            simp only [wa, wb] at h1
            constructor
            · show q.2 + 1 ≤ t + 1
              omega
            · show q.1 + h.c.toNat ≤ (t + 1) * 4294967295
              omega
          · exact hx j
        · exact hx j
    · exact hx j
theorem rndA_take {n k : Nat} {now next : List Way} {L : List Hp} {h : Hp} (hh : L[k]? = some h) : rndA n now next (L.take (k + 1)) = rnd1 n now (rndA n now next (L.take k)) h := by
  rw [List.take_add_one, hh]
  exact rndA_snoc _ _ _ _ _
set_option maxRecDepth 100000 in
set_option maxHeartbeats 1000000 in
theorem rdless_g (a b c d : Nat) (x y : Bool) (w : World) : Calls Try.prog 21 #[.agg #[.int .u64 (a : Int), .int .u64 (b : Int), .bool x], .agg #[.int .u64 (c : Int), .int .u64 (d : Int), .bool y]] w fun e w' => e = .returned (.bool (ltW a b c d)) ∧ Ext w w' := by
  by_cases hac : a = c
  · have h1 : ((a : Int) != (c : Int)) = false := by simp [hac]
    go_enter Try.func21, Try.ntmps21
    go_wp2_with fail
    go_ret
    exact ⟨by simp [ltW, hac], ((Ext.refl _).alloc _).alloc _⟩
  · have h1 : ((a : Int) != (c : Int)) = true := by simp; omega
    go_enter Try.func21, Try.ntmps21
    go_wp2_with fail
    go_ret
    exact ⟨by simp [ltW, hac], ((Ext.refl _).alloc _).alloc _⟩
set_option maxRecDepth 100000 in
set_option maxHeartbeats 1000000 in
theorem rcomplex_none (w : World) : Calls Try.prog 17 #[.agg #[.int .u64 0, .int .u64 0, .bool false]] w fun e w' => e = .returned (cvW Option.none) ∧ Ext w w' := by
  go_enter Try.func17, Try.ntmps17
  go_wp2_with fail
  go_ret
  exact ⟨rfl, (Ext.refl _).alloc _⟩
theorem rcomplex_way (q : Way) (w : World) : Calls Try.prog 17 #[.agg (WV q).toArray] w fun e w' => e = .returned (cvW q) ∧ Ext w w' := by
  cases q with
  | none => exact rcomplex_none w
  | some q =>
    obtain ⟨a, b⟩ := q
    have := rcomplex_any (a : Int) (b : Int) (by omega) (by omega) w
    rw [Int.toNat_natCast, Int.toNat_natCast] at this
    exact this
theorem info_way : (Try.prog.info? 34).map (fun i => (i.zero, i.size, i.bytes)) = some (some (.agg WZ), 3, 24) := by kernel_rfl
theorem zero_fhp : ∀ w, (zeroValue 45).run Try.prog w = .ok (.agg HZ) w := (zero_of_info (P := Try.prog) (t := 45) (v := .agg HZ) (n := 3) (by kernel_rfl)).1
theorem way_bl (x y : Int) : Try.prog.built 34 [(0, .int .u64 x), (1, .int .u64 y), (2, .bool true)] = some #[.int .u64 x, .int .u64 y, .bool true] := by kernel_rfl
theorem made_ways (n : Nat) : (madeCells (Value.agg WZ).cells (n * 3)).toList = flatW (List.replicate n Option.none) := by
  rw [flatW_rep]
  simp [madeCells, WZ, Value.cells]
theorem flatW_one (D : List Way) : ∀ u ∈ flatW D, u.oneCell' = true := fun u hu => by
  obtain ⟨q, -, hq⟩ := List.mem_flatMap.1 hu
  have h3 : u = .int .u64 (wa q : Int) ∨ u = .int .u64 (wb q : Int) ∨ u = .bool (wi q) := by simpa [WV] using hq
  rcases h3 with rfl | rfl | rfl <;> rfl
theorem WAt.news {w : World} {g n cap : Nat} {D : List Way} (h : WAt w g n cap D) : ∀ j u, (flatW D)[j]? = some u → w.cell? ((⟨g, 0, none⟩ : Addr).add j) = some u := fun j u hu => by
  obtain ⟨cur, h1, h2, h3⟩ := h.row
  have hp : (⟨g, 0, none⟩ : Addr).add j = ⟨g, j, none⟩ := by unfold Addr.add; split <;> simp_all
  rw [hp, cell_of_row _ _ _ _ _ _ h1]
  rw [← h3, List.getElem?_take] at hu
  split at hu
  · simpa using hu
  · cases hu
/-- The first way is marked. -/
theorem WAt.start {w w' : World} {g n cap : Nat} {D : List Way} (h : WAt w g n cap D) {j : Nat} (hj : j < n) (hd : D.getD j Option.none = Option.none) {cur cur' : Array Value} (h1 : w.heap[g]? = some (.cells cur 34 (0, 0))) (hq : w'.heap[g]? = some (.cells cur' 34 (0, 0)))
    (hc : (cur.toList.take (j * 3 + 2) ++ (#[Value.bool true] : Array Value).toList ++ cur.toList.drop (j * 3 + 2 + (#[Value.bool true] : Array Value).size)).toArray = cur') : WAt w' g n cap (D.set j (Option.some (0, 0))) := by
  refine h.put hj (Option.some (0, 0)) h1 hq ?_
  rw [← hc]
  have c0 := h.cell (i := 0) hj (by decide)
  have c1 := h.cell (i := 1) hj (by decide)
  rw [hd, cell_of_row _ _ _ _ _ _ h1] at c0 c1
  have d0 : cur.toList[j * 3]? = some (.int .u64 0) := by simpa [WV, wa] using c0
  have d1 : cur.toList[j * 3 + 1]? = some (.int .u64 0) := by simpa [WV, wb] using c1
  congr 1
  rw [show j * 3 + 2 = j * 3 + 1 + 1 by omega, List.take_add_one, d1, List.take_add_one, d0]
  simp [WV, wa, wb, wi]

end Go.Proofs.Ytendaloeonbbeaa
