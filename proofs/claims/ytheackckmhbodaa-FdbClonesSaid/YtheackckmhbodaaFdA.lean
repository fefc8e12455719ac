/- A database of stations in memory: a map of pointers. No statement is proved here. -/
import Derived.Test.YtheackckmhbodaaBase
import Derived.Maps.RangeWalk
import Derived.Maps.Ext
import Derived.Maps.OwnOps
import Derived.Maps.AppendAt
import Derived.Sort.KeysCollected
namespace Go.Proofs.Ytheackckmhbodaa
open Go.RowKit Go.BigFrame Go.WideShapes Go.ChangeShapes Go.Deep
set_option linter.unusedVariables false
set_option linter.unusedSimpArgs false

/-! ### Worlds in which some blocks turned -/
def Mut (F : Nat → Prop) (w w' : World) : Prop := w'.os = w.os ∧ w'.tape = w.tape ∧ w'.output = w.output ∧ w.heap.size ≤ w'.heap.size ∧ ∀ k, k < w.heap.size → ¬ F k → w'.heap[k]? = w.heap[k]?

theorem Mut.refl (F : Nat → Prop) (w : World) : Mut F w w := ⟨rfl, rfl, rfl, Nat.le_refl _, fun _ _ _ => rfl⟩
theorem Mut.mono {F G : Nat → Prop} {w w' : World} (h : Mut F w w') (hFG : ∀ k, k < w.heap.size → F k → G k) : Mut G w w' :=
  ⟨h.1, h.2.1, h.2.2.1, h.2.2.2.1, fun k hk hg => h.2.2.2.2 k hk (fun hf => hg (hFG k hk hf))⟩
theorem Mut.trans {F : Nat → Prop} {a b c : World} (h : Mut F a b) (k : Mut F b c) : Mut F a c :=
  ⟨k.1.trans h.1, k.2.1.trans h.2.1, k.2.2.1.trans h.2.2.1, Nat.le_trans h.2.2.2.1 k.2.2.2.1, fun i hi hf => (k.2.2.2.2 i (Nat.lt_of_lt_of_le hi h.2.2.2.1) hf).trans (h.2.2.2.2 i hi hf)⟩
theorem Ext.mut {a b : World} (h : Ext a b) (F : Nat → Prop) : Mut F a b := ⟨h.os, h.tape, h.output, h.size, fun k hk _ => h.block k hk⟩
theorem Mut.ext {a b : World} {F : Nat → Prop} (h : Mut F a b) (hF : ∀ k, k < a.heap.size → ¬ F k) : Ext a b := ⟨h.1, h.2.1, h.2.2.1, h.2.2.2.1, fun k hk => h.2.2.2.2 k hk (hF k hk)⟩
theorem Mut.alloc {F : Nat → Prop} {a b : World} (h : Mut F a b) (o : Obj) : Mut F a (b.alloc o) := h.trans (((Ext.refl b).alloc o).mut F)
theorem Mut.drewN {F : Nat → Prop} {a b : World} (h : Mut F a b) (n : Nat) : Mut F a (b.drewN n) := h.trans (((Ext.refl b).drewN n).mut F)
theorem Mut.drew {F : Nat → Prop} {a b : World} (h : Mut F a b) : Mut F a b.drew := h.trans (((Ext.refl b).drew).mut F)
theorem Mut.setCell {F : Nat → Prop} {a b : World} (h : Mut F a b) {p : Addr} (hp : F p.block ∨ a.heap.size ≤ p.block) (v : Value) : Mut F a (b.setCell p v) :=
  ⟨h.1, h.2.1, h.2.2.1, by simpa using h.2.2.2.1, fun k hk hf => by
    rw [Below.heap_setCell _ _ _ _ (fun e => ?_)]
    · exact h.2.2.2.2 k hk hf
    · rcases hp with hp | hp
      · exact hf (e ▸ hp)
      · omega⟩
theorem Mut.setRow {F : Nat → Prop} {a b : World} (h : Mut F a b) {g : Nat} (hp : F g ∨ a.heap.size ≤ g) (cs : Array Value) : Mut F a (b.setRow g cs) :=
  ⟨h.1, h.2.1, h.2.2.1, by simpa using h.2.2.2.1, fun k hk hf => by
    rw [setRow_other b g k cs (fun e => ?_)]
    · exact h.2.2.2.2 k hk hf
    · rcases hp with hp | hp
      · exact hf (e ▸ hp)
      · omega⟩
theorem Mut.setCells {F : Nat → Prop} {a : World} {g : Nat} (hp : F g ∨ a.heap.size ≤ g) : ∀ (vs : List Value) (o : Nat) {b : World}, Mut F a b → Mut F a (b.setCells g o vs)
  | [], _, _, h => h
  | v :: r, o, _, h => Mut.setCells hp r (o + 1) (h.setCell hp v)
/-- What lies outside holds its cells. -/
theorem Mut.heap {F : Nat → Prop} {a b : World} (h : Mut F a b) {k : Nat} (hk : k < a.heap.size) (hf : ¬ F k) : b.heap[k]? = a.heap[k]? := h.2.2.2.2 k hk hf
theorem Mut.size {F : Nat → Prop} {a b : World} (h : Mut F a b) : a.heap.size ≤ b.heap.size := h.2.2.2.1
theorem Mut.cell {F : Nat → Prop} {a b : World} (h : Mut F a b) {p : Addr} (hk : p.block < a.heap.size) (hf : ¬ F p.block) : b.cell? p = a.cell? p := by
  simp only [World.cell?, h.heap hk hf]


abbrev En := Int × Int × Int
abbrev DU := DataW Unit
/-- How an element reads: a pointer, as its block's number. -/
def pE : Value → Option (DU × List MemPlace)
  | .pointer none => some (.lit (.int .i64 (-1)), [])
  | .pointer (some ⟨b, 0, none⟩) => some (.lit (.int .i64 b), [])
  | _ => none
theorem pE_inv {v : Value} {y : DU × List MemPlace} (h : pE v = some y) : (v = .pointer none ∧ y = (.lit (.int .i64 (-1)), [])) ∨ ∃ b : Nat, v = .pointer (some ⟨b, 0, none⟩) ∧ y = (.lit (.int .i64 b), []) := by
  unfold pE at h
  split at h
  · exact .inl ⟨rfl, (Option.some.inj h).symm⟩
  · exact .inr ⟨_, rfl, (Option.some.inj h).symm⟩
  · cases h
theorem KK : Maps.Keyed Try.prog 30 := Maps.int_keyed Try.underlying30
abbrev ku (x : Int) : Lit := .int .u64 x
theorem ku_same (x y : Int) : (ku x).sameKey (ku y) = decide (x = y) := by
  by_cases h : x = y <;> simp [Lit.sameKey, h]

/-- The database f: its map in block b; what it holds; where each station is. -/
structure FbC (w : World) (F : Nat → Prop) (f b : Nat) (D : DU) (L : List En) (gb : Int → Nat) (most age : Int) : Prop where
  hf : w.heap[f]? = some (.cells #[.map (some b), .int .i64 most, .int .i64 age] 54 (0, 0))
  at_ : ∀ x z, D.atKey (ku x) z = if x ∈ L.map Prod.fst then .lit (.int .i64 (gb x)) else z
  has_ : ∀ x, Maps.has D (ku x) = decide (x ∈ L.map Prod.fst)
  cells : ∀ e ∈ L, w.heap[gb e.1]? = some (.cells #[.int .i64 e.2.1, .int .i64 e.2.2] 60 (0, 0))
  own : ∀ e ∈ L, F (gb e.1) ∧ gb e.1 ≠ f ∧ gb e.1 ≠ b
  inj : ∀ e ∈ L, ∀ e' ∈ L, gb e.1 = gb e'.1 → e.1 = e'.1
  ne : f ≠ b
  fF : F f ∧ F b
/-- Entries rise by their addresses; they are what they may be. -/
def Ok (age : Int) (L : List En) : Prop := L.Pairwise (fun a b => a.1 < b.1) ∧ ∀ e ∈ L, (0 < e.1 ∧ e.1 < 281474976710656) ∧ (0 ≤ e.2.1 ∧ e.2.1 < 9223372036854775808) ∧ 1 ≤ e.2.2 ∧ e.2.2 ≤ age
theorem Ok.uni {age : Int} {L : List En} (h : Ok age L) {e e' : En} (he : e ∈ L) (he' : e' ∈ L) (hk : e.1 = e'.1) : e = e' := by
  have hp := h.1
  clear h
  induction L with
  | nil => cases he
  | cons a r ih =>
    obtain ⟨h1, h2⟩ := List.pairwise_cons.1 hp
    rcases List.mem_cons.1 he with q1 | q1
    · rcases List.mem_cons.1 he' with q2 | q2
      · exact q1.trans q2.symm
      · have := h1 _ q2; rw [q1] at hk; omega
    · rcases List.mem_cons.1 he' with q2 | q2
      · have := h1 _ q1; rw [q2] at hk; omega
      · exact ih q1 q2 h2
theorem fm_congr {α β : Type} {f g : α → Option β} : ∀ {l : List α}, (∀ x ∈ l, f x = g x) → l.filterMap f = l.filterMap g
  | [], _ => rfl
  | a :: r, h => by rw [List.filterMap_cons, List.filterMap_cons, h a (by simp), fm_congr (fun x hx => h x (by simp [hx]))]
/-- What an entry becomes, kept or not. -/
def Keeps (st : En → Option En) : Prop := ∀ e e', st e = some e' → e'.1 = e.1
theorem fm_keys {st : En → Option En} (hs : Keeps st) {L : List En} {x : Int} (h : x ∈ (L.filterMap st).map Prod.fst) : x ∈ L.map Prod.fst := by
  obtain ⟨e', he', rfl⟩ := List.mem_map.1 h
  obtain ⟨e, he, hes⟩ := List.mem_filterMap.1 he'
  exact List.mem_map.2 ⟨e, he, (hs e e' hes).symm⟩
theorem fm_rises {st : En → Option En} (hs : Keeps st) {L : List En} (h : L.Pairwise (fun a b => a.1 < b.1)) : (L.filterMap st).Pairwise (fun a b => a.1 < b.1) := by
  rw [List.pairwise_filterMap]
  exact h.imp (fun {a a'} hlt b hb b' hb' => by rw [hs a b hb, hs a' b' hb']; exact hlt)
/-- One entry's time set; gone, if there is none. -/
def setSec (x sec : Int) (e : En) : Option En := if e.1 = x then (if sec ≤ 0 then none else some (e.1, e.2.1, sec)) else some e
theorem setSec_keeps (x sec : Int) : Keeps (setSec x sec) := by
  intro e e' h
  unfold setSec at h
  split at h
  · split at h
    · cases h
    · cases h; rfl
  · cases h; rfl
def upd (x sec : Int) (L : List En) : List En := L.filterMap (setSec x sec)
/-- Those that are to come, as they are; the others, done. -/
def part (left : Lit → Bool) (st : En → Option En) (L : List En) : List En := L.filterMap (fun e => if left (ku e.1) then some e else st e)
theorem part_keeps {left : Lit → Bool} {st : En → Option En} (hs : Keeps st) : Keeps (fun e => if left (ku e.1) then some e else st e) := by
  intro e e' h
  dsimp only at h
  split at h
  · cases h; rfl
  · exact hs e e' h
theorem part_all {left : Lit → Bool} {st : En → Option En} {L : List En} (h : ∀ e ∈ L, left (ku e.1) = true) : part left st L = L := by
  unfold part
  rw [fm_congr (g := some) (fun e he => by rw [h e he]; rfl)]
  exact List.filterMap_some
theorem part_none {left : Lit → Bool} {st : En → Option En} {L : List En} (h : ∀ kl, left kl = false) : part left st L = L.filterMap st := by
  unfold part
  exact fm_congr (fun e he => by rw [h]; rfl)
theorem part_mem {left : Lit → Bool} {st : En → Option En} {L : List En} {e : En} (he : e ∈ L) (hl : left (ku e.1) = true) : e ∈ part left st L :=
  List.mem_filterMap.2 ⟨e, he, by rw [hl]; rfl⟩
/-- The entry at x is done. -/
theorem part_step {age : Int} {left : Lit → Bool} {st : En → Option En} (hs : Keeps st) {L : List En} (hL : Ok age L) {e0 : En} (he0 : e0 ∈ L) (hl : left (ku e0.1) = true) {sec : Int} (hst : st e0 = setSec e0.1 sec e0) :
    upd e0.1 sec (part left st L) = part (fun z => left z && !z.sameKey (ku e0.1)) st L := by
  unfold upd part
  rw [List.filterMap_filterMap]
  refine fm_congr (fun e he => ?_)
  by_cases hx : e.1 = e0.1
  · have := hL.uni he he0 hx
    subst this
    rw [hl]
    simp [ku_same, hst]
  · by_cases hle : left (ku e.1) = true
    · simp [hle, ku_same, hx, setSec]
    · rw [Bool.not_eq_true] at hle
      simp only [hle, Bool.false_and]
      cases hse : st e with
      | none => simp [hse]
      | some e' =>
        have hk := hs e e' hse
        simp [hse, setSec, hk, hx]
/-- An entry that stays as it is, is done. -/
theorem part_same {age : Int} {left : Lit → Bool} {st : En → Option En} {L : List En} (hL : Ok age L) {e0 : En} (he0 : e0 ∈ L) (hl : left (ku e0.1) = true) (hst : st e0 = some e0) :
    part left st L = part (fun z => left z && !z.sameKey (ku e0.1)) st L := by
  unfold part
  refine fm_congr (fun e he => ?_)
  by_cases hx : e.1 = e0.1
  · have := hL.uni he he0 hx
    subst this
    simp [hl, ku_same, hst]
  · simp [ku_same, hx]
theorem upd_mem {x sec : Int} {L : List En} {e' : En} (h : e' ∈ upd x sec L) : ∃ e ∈ L, e'.1 = e.1 ∧ e'.2.1 = e.2.1 ∧ ((e.1 = x ∧ 0 < sec ∧ e'.2.2 = sec) ∨ (e.1 ≠ x ∧ e' = e)) := by
  obtain ⟨e, he, hs⟩ := List.mem_filterMap.1 h
  unfold setSec at hs
  split at hs
  · rename_i hx
    split at hs
    · cases hs
    · cases hs
      exact ⟨e, he, rfl, rfl, .inl ⟨hx, by omega, rfl⟩⟩
  · rename_i hx
    have hs := Option.some.inj hs
    exact ⟨e, he, by rw [hs], by rw [hs], .inr ⟨hx, hs.symm⟩⟩
theorem upd_keys {x sec : Int} {L : List En} (y : Int) : y ∈ (upd x sec L).map Prod.fst ↔ y ∈ L.map Prod.fst ∧ (y ≠ x ∨ 0 < sec) := by
  constructor
  · intro h
    obtain ⟨e', he', rfl⟩ := List.mem_map.1 h
    obtain ⟨e, he, h1, _, h3⟩ := upd_mem he'
    refine ⟨List.mem_map.2 ⟨e, he, h1.symm⟩, ?_⟩
    rcases h3 with h3 | h3
    · exact .inr h3.2.1
    · exact .inl (by rw [h1]; exact h3.1)
  · rintro ⟨h, hor⟩
    obtain ⟨e, he, rfl⟩ := List.mem_map.1 h
    by_cases hx : e.1 = x
    · refine List.mem_map.2 ⟨(e.1, e.2.1, sec), List.mem_filterMap.2 ⟨e, he, ?_⟩, rfl⟩
      unfold setSec
      rw [if_pos hx, if_neg (by rcases hor with h | h <;> omega)]
    · exact List.mem_map.2 ⟨e, List.mem_filterMap.2 ⟨e, he, by unfold setSec; rw [if_neg hx]⟩, rfl⟩
/-- A database with one entry's time set, in a world in which its station's block, and perhaps the map's, turned. -/
theorem FbC.set_sec {w w' : World} {F : Nat → Prop} {f b : Nat} {D D' : DU} {L : List En} {gb : Int → Nat} {most age : Int} (h : FbC w F f b D L gb most age) {e0 : En} (he0 : e0 ∈ L) (hu : ∀ e ∈ L, e.1 = e0.1 → e = e0) {sec : Int}
    (hD : if sec ≤ 0 then D' = D.del (ku e0.1) else D' = D)
    (hg : 0 < sec → w'.heap[gb e0.1]? = some (.cells #[.int .i64 e0.2.1, .int .i64 sec] 60 (0, 0)))
    (ho : ∀ k, k < w.heap.size → k ≠ gb e0.1 → k ≠ b → w'.heap[k]? = w.heap[k]?) : FbC w' F f b D' (upd e0.1 sec L) gb most age := by
  have hlt : ∀ {k : Nat} {ob : Obj}, w.heap[k]? = some ob → k < w.heap.size := fun h => (Array.getElem?_eq_some_iff.1 h).1
  refine ⟨?_, ?_, ?_, ?_, ?_, ?_, h.ne, h.fF⟩
  · rw [ho f (hlt h.hf) (fun e => (h.own e0 he0).2.1 e.symm) h.ne]; exact h.hf
  · intro x z
    by_cases hs : sec ≤ 0
    · rw [if_pos hs] at hD
      subst hD
      by_cases hx : x = e0.1
      · subst hx
        rw [Maps.atKey_del_same, if_neg (fun hm => by rcases ((upd_keys _).1 hm).2 with h | h; exact h rfl; omega)]
      · rw [Maps.atKey_del_other (fun hc => hx (by simpa [ku] using hc)), h.at_]
        by_cases hm : x ∈ L.map Prod.fst
        · rw [if_pos hm, if_pos ((upd_keys _).2 ⟨hm, .inl hx⟩)]
        · rw [if_neg hm, if_neg (fun hm' => hm ((upd_keys _).1 hm').1)]
    · rw [if_neg hs] at hD
      subst hD
      rw [h.at_]
      by_cases hm : x ∈ L.map Prod.fst
      · rw [if_pos hm, if_pos ((upd_keys _).2 ⟨hm, .inr (by omega)⟩)]
      · rw [if_neg hm, if_neg (fun hm' => hm ((upd_keys _).1 hm').1)]
  · intro x
    have key : decide (x ∈ (upd e0.1 sec L).map Prod.fst) = (decide (x ∈ L.map Prod.fst) && (decide (x ≠ e0.1) || decide (0 < sec))) := by
      rw [Bool.eq_iff_iff]
      simp only [Bool.and_eq_true, Bool.or_eq_true, decide_eq_true_eq]
      exact upd_keys x
    rw [key, ← h.has_]
    by_cases hs : sec ≤ 0
    · rw [if_pos hs] at hD
      subst hD
      by_cases hx : x = e0.1
      · subst hx
        rw [Maps.has_del_same]
        simp; omega
      · rw [Maps.has_del_other (fun hc => hx (by simpa [ku] using hc))]
        simp [hx]
    · rw [if_neg hs] at hD
      subst hD
      simp; omega
  · intro e' he'
    obtain ⟨e, he, h1, h2, h3⟩ := upd_mem he'
    rcases h3 with ⟨hx, hpos, hse⟩ | ⟨hx, rfl⟩
    · have := hu e he hx
      subst this
      rw [h1, h2, hse]; exact hg hpos
    · rw [ho _ (hlt (h.cells _ he)) (fun hc => hx (h.inj _ he _ he0 hc)) (h.own _ he).2.2]
      exact h.cells _ he
  · intro e' he'
    obtain ⟨e, he, h1, _⟩ := upd_mem he'
    rw [h1]; exact h.own e he
  · intro e1 he1 e2 he2 hg'
    obtain ⟨a, ha, h1, _⟩ := upd_mem he1
    obtain ⟨c, hc, h2, _⟩ := upd_mem he2
    rw [h1, h2] at hg' ⊢
    exact h.inj a ha c hc hg'
/-- The same world as far as the database goes. -/
theorem FbC.ext {w w' : World} {F : Nat → Prop} {f b : Nat} {D : DU} {L : List En} {gb : Int → Nat} {most age : Int} (h : FbC w F f b D L gb most age) (ho : ∀ k, k < w.heap.size → k ≠ b → F k → w'.heap[k]? = w.heap[k]?) : FbC w' F f b D L gb most age := by
  have hlt : ∀ {k : Nat} {ob : Obj}, w.heap[k]? = some ob → k < w.heap.size := fun h => (Array.getElem?_eq_some_iff.1 h).1
  exact ⟨(ho f (hlt h.hf) h.ne h.fF.1).trans h.hf, h.at_, h.has_, fun e he => (ho _ (hlt (h.cells e he)) (h.own e he).2.2 (h.own e he).1).trans (h.cells e he), h.own, h.inj, h.ne, h.fF⟩
/-- How many there are. -/
theorem FbC.size {w w' : World} {F : Nat → Prop} {f b n : Nat} {D : DU} {L : List En} {gb : Int → Nat} {most age : Int} (h : FbC w F f b D L gb most age) (hL : Ok age L) (hm : w'.ownsMap Try.prog 30 pE b n D) : Maps.size D = L.length := by
  obtain ⟨es, hD, hpw, _⟩ := hm.entries KK
  obtain ⟨es', hD', hko⟩ := hm.keysOf
  obtain rfl : es = es' := by rw [hD] at hD'; simpa using hD'
  have hh := h.has_
  clear h hm hD'
  subst hD
  have hk : ∀ p ∈ es, ∃ x, p.1 = ku x := fun p hp => by
    obtain ⟨v, hv⟩ := hko p hp
    obtain ⟨x, _, hx, _⟩ := Maps.keyOf_int_inv Try.underlying30 hv
    exact ⟨x, hx⟩
  have n1 : (es.map Prod.fst).Nodup := List.pairwise_map.2 hpw
  have n2 : ((L.map Prod.fst).map ku).Nodup := by
    rw [List.map_map]
    exact List.pairwise_map.2 (hL.1.imp (fun {a a'} hlt hc => by simp [ku] at hc; omega))
  have hp : (es.map Prod.fst).Perm ((L.map Prod.fst).map ku) := (List.perm_ext_iff_of_nodup n1 n2).2 (fun kl => by
    constructor
    · intro hkl
      obtain ⟨p, hp, rfl⟩ := List.mem_map.1 hkl
      obtain ⟨x, hx⟩ := hk p hp
      have := hh x
      rw [Maps.has_eq, ← hx] at this
      have h1 : es.any (fun q => q.1.sameKey p.1) = true := List.any_eq_true.2 ⟨p, hp, by rw [hx, ku_same]; simp⟩
      rw [h1] at this
      rw [hx]
      exact List.mem_map.2 ⟨x, by simpa using this.symm, rfl⟩
    · intro hkl
      obtain ⟨x, hx, rfl⟩ := List.mem_map.1 hkl
      have := hh x
      rw [decide_eq_true hx, Maps.has_eq] at this
      obtain ⟨p, hp, hs⟩ := List.any_eq_true.1 this
      obtain ⟨y, hy⟩ := hk p hp
      rw [hy, ku_same] at hs
      exact List.mem_map.2 ⟨p, hp, by rw [hy, of_decide_eq_true hs]⟩)
  have := hp.length_eq
  simpa [Maps.size_eq] using this

theorem low_nat (n b : Nat) (w : World) (hn : n < 18446744073709551616) (hb : b < 64) :
    Calls Try.prog 34 #[.int .u64 n, .int .u64 b] w fun e w' => e = .returned (.int .u64 ((n % 2 ^ b : Nat) : Int)) ∧ w = w' := by
  have hm := and_mask n b hn hb
  go_enter Try.func34, Try.ntmps34
  go_wp2
  go_ret
  refine ⟨?_, rfl⟩
  show Ending.returned (Value.int .u64 _) = _
  exact congrArg (fun x => Ending.returned (.int .u64 x)) (by simp)

theorem addr_any (x : Int) (w : World) (h2 : 0 ≤ x) (h3 : x < 18446744073709551616) :
    Calls Try.prog 24 #[.int .u64 x] w fun e w' => e = .returned (.int .u64 (x % 281474976710656)) ∧ w = w' := by
  obtain ⟨x, rfl⟩ := Int.eq_ofNat_of_zero_le h2
  go_enter Try.func24, Try.ntmps24
  go_wp2_with fail
  refine (low_nat x 48 _ (by omega) (by decide)).mono ?_
  rintro e w1 ⟨rfl, rfl⟩
  go_wp2
  go_ret
  exact ⟨retI (by omega), rfl⟩

theorem bit_one (x : Int) (h0 : 0 ≤ x) (h1 : x < 18446744073709551616) : bits .and .u64 x 1 = x % 2 := by
  rw [u64_and x 1 h0 h1 (by decide) (by decide)]
  have := nat_mask1 x.toNat
  rw [show (1 : Int).toNat = 1 from rfl, this]
  omega

theorem group_any (x : Int) (w : World) (h2 : 0 ≤ x) (h3 : x < 18446744073709551616) :
    Calls Try.prog 25 #[.int .u64 x] w fun e w' => e = .returned (.bool (x / 1099511627776 % 2 == 1)) ∧ w = w' := by
  have hb := Lib.hid (bit_one (x / 1099511627776) (by omega) (by omega))
  go_enter Try.func25, Try.ntmps25
  go_wp2
  go_ret
  exact ⟨retB (by rw [hb.out]), rfl⟩


end Go.Proofs.Ytheackckmhbodaa
