/- The database: what is learned. No statement is proved here. -/
import Derived.Test.YtheackckmhbodaaFdF
namespace Go.Proofs.Ytheackckmhbodaa
open Go.RowKit Go.BigFrame Go.WideShapes Go.ChangeShapes Go.Deep
set_option linter.unusedVariables false
set_option linter.unusedSimpArgs false

/-- An entry laid in among rising ones; who was there goes. -/
def ins (e : En) : List En → List En
  | [] => [e]
  | a :: r => if e.1 < a.1 then e :: a :: r else if e.1 = a.1 then e :: r else a :: ins e r
theorem ins_mem {e x : En} : ∀ {L : List En}, L.Pairwise (fun a b => a.1 < b.1) → (x ∈ ins e L ↔ x = e ∨ (x ∈ L ∧ x.1 ≠ e.1))
  | [], _ => by simp [ins]
  | a :: r, hp => by
    obtain ⟨h1, h2⟩ := List.pairwise_cons.1 hp
    unfold ins
    by_cases c1 : e.1 < a.1
    · rw [if_pos c1]
      constructor
      · intro h
        rcases List.mem_cons.1 h with h | h
        · exact .inl h
        · refine .inr ⟨h, ?_⟩
          rcases List.mem_cons.1 h with h | h
          · rw [h]; omega
          · have := h1 x h; omega
      · rintro (h | h)
        · rw [h]; exact List.mem_cons_self
        · exact List.mem_cons_of_mem _ h.1
    · rw [if_neg c1]
      by_cases c2 : e.1 = a.1
      · rw [if_pos c2]
        constructor
        · intro h
          rcases List.mem_cons.1 h with h | h
          · exact .inl h
          · have := h1 x h
            exact .inr ⟨List.mem_cons_of_mem _ h, by omega⟩
        · rintro (h | ⟨h, hne⟩)
          · rw [h]; exact List.mem_cons_self
          · rcases List.mem_cons.1 h with h | h
            · rw [h] at hne; exact absurd c2.symm hne
            · exact List.mem_cons_of_mem _ h
      · rw [if_neg c2, List.mem_cons, ins_mem h2, List.mem_cons]
        constructor
        · rintro (h | h | h)
          · exact .inr ⟨.inl h, by rw [h]; omega⟩
          · exact .inl h
          · exact .inr ⟨.inr h.1, h.2⟩
        · rintro (h | ⟨h | h, hne⟩)
          · exact .inr (.inl h)
          · exact .inl h
          · exact .inr (.inr ⟨h, hne⟩)
theorem ins_rises {e : En} : ∀ {L : List En}, L.Pairwise (fun a b => a.1 < b.1) → (ins e L).Pairwise (fun a b => a.1 < b.1)
  | [], _ => by simp [ins]
  | a :: r, hp => by
    obtain ⟨h1, h2⟩ := List.pairwise_cons.1 hp
    unfold ins
    by_cases c1 : e.1 < a.1
    · rw [if_pos c1]
      refine List.pairwise_cons.2 ⟨fun x hx => ?_, hp⟩
      rcases List.mem_cons.1 hx with h | h
      · rw [h]; exact c1
      · have := h1 x h; omega
    · rw [if_neg c1]
      by_cases c2 : e.1 = a.1
      · rw [if_pos c2]
        exact List.pairwise_cons.2 ⟨fun x hx => by have := h1 x hx; omega, h2⟩
      · rw [if_neg c2]
        refine List.pairwise_cons.2 ⟨fun x hx => ?_, ins_rises h2⟩
        rcases (ins_mem h2).1 hx with h | h
        · rw [h]; omega
        · exact h1 x h.1
theorem ins_len {e : En} : ∀ {L : List En}, L.Pairwise (fun a b => a.1 < b.1) → (ins e L).length = if e.1 ∈ L.map Prod.fst then L.length else L.length + 1
  | [], _ => rfl
  | a :: r, hp => by
    obtain ⟨h1, h2⟩ := List.pairwise_cons.1 hp
    unfold ins
    by_cases c1 : e.1 < a.1
    · rw [if_pos c1, if_neg (fun hm => by
        obtain ⟨x, hx, hxe⟩ := List.mem_map.1 hm
        rcases List.mem_cons.1 hx with h | h
        · rw [h] at hxe; omega
        · have := h1 x h; omega)]
      rfl
    · rw [if_neg c1]
      by_cases c2 : e.1 = a.1
      · rw [if_pos c2, if_pos (List.mem_map.2 ⟨a, List.mem_cons_self, c2.symm⟩)]
        rfl
      · rw [if_neg c2, List.length_cons, ins_len h2]
        by_cases hm : e.1 ∈ r.map Prod.fst
        · rw [if_pos hm, if_pos (by rw [List.map_cons]; exact List.mem_cons_of_mem _ hm)]
          rfl
        · rw [if_neg hm, if_neg (by rw [List.map_cons]; exact fun h => by rcases List.mem_cons.1 h with h | h; exact c2 h; exact hm h)]
          rfl
theorem ins_keys {e : En} {L : List En} (h : L.Pairwise (fun a b => a.1 < b.1)) (y : Int) : y ∈ (ins e L).map Prod.fst ↔ y = e.1 ∨ y ∈ L.map Prod.fst := by
  constructor
  · intro hy
    obtain ⟨x, hx, rfl⟩ := List.mem_map.1 hy
    rcases (ins_mem h).1 hx with h | h
    · exact .inl (by rw [h])
    · exact .inr (List.mem_map.2 ⟨x, h.1, rfl⟩)
  · intro hy
    by_cases hc : y = e.1
    · exact List.mem_map.2 ⟨e, (ins_mem h).2 (.inl rfl), hc.symm⟩
    · rcases hy with hy | hy
      · exact absurd hy hc
      · obtain ⟨x, hx, rfl⟩ := List.mem_map.1 hy
        exact List.mem_map.2 ⟨x, (ins_mem h).2 (.inr ⟨hx, hc⟩), rfl⟩
theorem Ok.ins {age : Int} {L : List En} (h : Ok age L) {e : En} (he : (0 < e.1 ∧ e.1 < 281474976710656) ∧ (0 ≤ e.2.1 ∧ e.2.1 < 9223372036854775808) ∧ 1 ≤ e.2.2 ∧ e.2.2 ≤ age) : Ok age (ins e L) :=
  ⟨ins_rises h.1, fun x hx => by
    rcases (ins_mem h.1).1 hx with h' | h'
    · rw [h']; exact he
    · exact h.2 x h'.1⟩
/-- A station laid in, in a block of its own. -/
theorem FbC.put {w w' : World} {F F' : Nat → Prop} {f b : Nat} {D : DU} {L : List En} {gb : Int → Nat} {most age : Int} (h : FbC w F f b D L gb most age) (hL : L.Pairwise (fun a b => a.1 < b.1)) (hmap : Maps.IsMap D) (e : En) {G : Nat} (hG : w'.heap[G]? = some (.cells #[.int .i64 e.2.1, .int .i64 e.2.2] 60 (0, 0)))
    (hnew : w.heap.size ≤ G) (ho : ∀ k, k < w.heap.size → k ≠ b → w'.heap[k]? = w.heap[k]?) (hF : ∀ k, F k → F' k) (hFG : F' G) (hkey : WideAt.IsKeyLit (ku e.1)) (hb : b < w.heap.size) : FbC w' F' f b (D.put (ku e.1) (.lit (.int .i64 G))) (ins e L) (fun y => if y = e.1 then G else gb y) most age := by
  have hf := row_lt h.hf
  refine ⟨?_, ?_, ?_, ?_, ?_, ?_, h.ne, hF _ h.fF.1, hF _ h.fF.2⟩
  · rw [ho f hf h.ne]; exact h.hf
  · intro x z
    by_cases hx : x = e.1
    · subst hx
      rw [Maps.atKey_put_same hmap hkey, if_pos ((ins_keys hL _).2 (.inl rfl)), if_pos rfl]
    · rw [Maps.atKey_put_other (fun hc => hx (by simpa [ku] using hc)), h.at_, if_neg hx]
      by_cases hm : x ∈ L.map Prod.fst
      · rw [if_pos hm, if_pos ((ins_keys hL _).2 (.inr hm))]
      · rw [if_neg hm, if_neg (fun hc => by rcases (ins_keys hL _).1 hc with h | h; exact hx h; exact hm h)]
  · intro x
    by_cases hx : x = e.1
    · subst hx
      rw [Maps.has_put_same hmap hkey]
      exact (decide_eq_true ((ins_keys hL _).2 (.inl rfl))).symm
    · rw [Maps.has_put_other (fun hc => hx (by simpa [ku] using hc)), h.has_]
      have : (x ∈ L.map Prod.fst) ↔ (x ∈ (ins e L).map Prod.fst) := ⟨fun hm => (ins_keys hL _).2 (.inr hm), fun hc => by rcases (ins_keys hL _).1 hc with h | h; exact absurd h hx; exact h⟩
      rw [Bool.eq_iff_iff, decide_eq_true_eq, decide_eq_true_eq]
      exact this
  · intro x hx
    rcases (ins_mem hL).1 hx with hx | ⟨hx, hne⟩
    · subst hx
      rw [if_pos rfl]
      exact hG
    · rw [if_neg hne, ho _ (row_lt (h.cells x hx)) (h.own x hx).2.2]
      exact h.cells x hx
  · intro x hx
    rcases (ins_mem hL).1 hx with hx | ⟨hx, hne⟩
    · subst hx
      rw [if_pos rfl]
      exact ⟨hFG, by omega, by omega⟩
    · rw [if_neg hne]
      exact ⟨hF _ (h.own x hx).1, (h.own x hx).2⟩
  · intro x hx y hy hxy
    have blk : ∀ z ∈ L, gb z.1 < w.heap.size := fun z hz => row_lt (h.cells z hz)
    rcases (ins_mem hL).1 hx with hx | ⟨hx, hne⟩ <;> rcases (ins_mem hL).1 hy with hy | ⟨hy, hney⟩
    · rw [hx, hy]
    · rw [hx, if_pos rfl, if_neg hney] at hxy
      have := blk y hy; omega
    · rw [hy, if_pos rfl, if_neg hne] at hxy
      have := blk x hx; omega
    · rw [if_neg hne, if_neg hney] at hxy
      exact h.inj x hx y hy hxy
theorem upd_len {x : Int} {L : List En} (hL : L.Pairwise (fun a b => a.1 < b.1)) {e0 : En} (he : e0 ∈ L) (hx : e0.1 = x) : (upd x 0 L).length + 1 = L.length := by
  induction L with
  | nil => cases he
  | cons a r ih =>
    obtain ⟨h1, h2⟩ := List.pairwise_cons.1 hL
    unfold upd at ih ⊢
    rw [List.filterMap_cons]
    rcases List.mem_cons.1 he with h | h
    · have ha : a.1 = x := by rw [← h]; exact hx
      have hr : r.filterMap (setSec x 0) = r := by
        rw [fm_congr (g := some) (fun e he => by have := h1 e he; unfold setSec; rw [if_neg (by omega)])]
        exact List.filterMap_some
      rw [show setSec x 0 a = none from by unfold setSec; rw [if_pos ha, if_pos (by decide)], hr]
      rfl
    · have ha : ¬ a.1 = x := by have := h1 _ h; omega
      rw [show setSec x 0 a = some a from by unfold setSec; rw [if_neg ha]]
      rw [List.length_cons, List.length_cons, ih h2 h]
theorem oper_delete {P : Program} {o : Oper} {a : Act} {w : World} {K : Act → World → Prop} {Q : Exit → Act → World → Prop} (m x : Operand) (t k : TypeId) (hop : o.op = Op.call { callee := Callee.builtin Builtin.delete, args := #[m, x], argTypes := #[t, k] })
    (e : TypeId) (KY : Maps.Keyed P k) (ht : P.underlying t = some (.map k e)) (b n : Nat) (D : DU) (hm : a.eval m = .map (some b)) (hown : w.ownsMap P k pE b n D) (key : Value) (kl : Lit) (hx : a.eval x = key) (hkey : keyOf P k key = some kl)
    (h : ∀ w', w'.ownsMap P k pE b n (D.del kl) → w.mapTurned w' b → K (a.put o.dst (.tuple #[])) w') : Oper.wp P o a w K Q := by
  obtain ⟨w', hrun, r1, r2⟩ := hown.drop KY ht hkey o.type
  unfold Oper.wp
  simp [execOp, hop, resolve, invoke, builtin, hm, hx, hrun, Result.andThen]
  exact h w' r1 r2
theorem oper_mapUpdate {P : Program} {o : Oper} {a : Act} {w : World} {K : Act → World → Prop} {Q : Exit → Act → World → Prop} (m x v : Operand) (t : TypeId) (hop : o.op = Op.mapUpdate t m x v)
    (k e : TypeId) (KY : Maps.Keyed P k) (ht : P.underlying t = some (.map k e)) (b n : Nat) (D : DU) (hm : a.eval m = .map (some b)) (hown : w.ownsMap P k pE b n D) (hn : n < maxLen) (key val : Value) (kl : Lit) (hx : a.eval x = key) (hv : a.eval v = val) (hkey : keyOf P k key = some kl)
    (d : DU) (ps : List MemPlace) (hval : pE val = some (d, ps)) (h : ∀ w', w'.ownsMap P k pE b (n + 1) (D.put kl d) → w.mapTurned w' b → K (a.put o.dst undef) w') : Oper.wp P o a w K Q := by
  obtain ⟨w', hrun, r1, r2⟩ := hown.store KY ht hn hkey hval
  unfold Oper.wp
  simp [execOp, hop, hm, hx, hv, hrun, Result.andThen]
  exact h w' r1 r2
theorem oper_box {P : Program} {o : Oper} {a : Act} {w : World} {K : Act → World → Prop} {Q : Exit → Act → World → Prop} (t : TypeId) (x : Operand) (ho : o.op = .box t x) (cells : Array Value) (hx : (a.eval x).cells = cells)
    (h : ∀ (X : Nat) (w' : World), w'.heap[X]? = some (.cells cells t (0, 0)) → w.heap.size = X → Ext w w' → w'.heap.size = w.heap.size + 1 → K (a.put o.dst (.pointer (some ⟨X, 0, none⟩))) w') : Oper.wp P o a w K Q := by
  subst hx
  unfold Oper.wp execOp
  simp only [ho, Sem.run_bind, Instr.box, newVar, newRow, run_newObj_alloc, Sem.run_pure, Result.andThen_ok]
  exact h _ _ (heap_alloc_new _ _) rfl ((Ext.refl w).alloc _) (by simp)
theorem shortest_at (w wd : World) (F : Nat → Prop) (f b n : Nat) (D : DU) (L : List En) (gb : Int → Nat) (most age : Int) (h : FbC w F f b D L gb most age) (hL : Ok age L) (ha : 0 ≤ age ∧ age ≤ 1000000) (hm : w.ownsMap Try.prog 30 pE b n D) (hF : ∀ k, F k → k < w.heap.size) (hne : L ≠ []) (hx : Ext w wd) :
    Calls Try.prog 26 #[.pointer (some ⟨f, 0, none⟩)] wd fun e w' => ∃ x : Int, (∃ e0 ∈ L, e0.1 = x ∧ ∀ e' ∈ L, e0.2.2 < e'.2.2 ∨ (e0.2.2 = e'.2.2 ∧ e0.1 ≤ e'.1)) ∧ e = .returned (.int .u64 x) ∧ Ext wd w' :=
  (shortest_any wd F f b n D L gb most age (h.ext (fun k hk _ _ => hx.block k hk)) hL ha (owns_ext' hm hx) (fun k hk => Nat.lt_of_lt_of_le (hF k hk) hx.size) hne).mono fun e w' ⟨e0, he0, hall, he, D', _, _, h3⟩ => ⟨e0.1, ⟨e0, he0, rfl, hall⟩, he, h3.ext (fun _ _ h => h)⟩
/-- What learning makes of the entries. -/
def LearnedP (most age m port : Int) (L L' : List En) : Prop :=
  ((m ∈ L.map Prod.fst ∨ (L.length : Int) < most) ∧ L' = ins (m, port, age) L) ∨
  (m ∉ L.map Prod.fst ∧ most ≤ (L.length : Int) ∧ ∃ e0 ∈ L, (∀ e' ∈ L, e0.2.2 < e'.2.2 ∨ (e0.2.2 = e'.2.2 ∧ e0.1 ≤ e'.1)) ∧ L' = ins (m, port, age) (upd e0.1 0 L))
def LearnP (w : World) (F : Nat → Prop) (f : Nat) (most age m port : Int) (L : List En) (w' : World) : Prop :=
  ∃ L', LearnedP most age m port L L' ∧ Fb w' (fun k => F k ∨ (w.heap.size ≤ k ∧ k < w'.heap.size)) f L' most age ∧ Mut F w w'
theorem learn_end {w wt wb w6 : World} {F : Nat → Prop} {f b n X : Nat} {D : DU} {L L1 : List En} {gb : Int → Nat} {most age m port : Int} (hL1 : Ok age L1) (hage : 1 ≤ age) (hm0 : 0 < m ∧ m < 281474976710656) (hp : 0 ≤ port ∧ port < 9223372036854775808)
    (h1 : FbC wt F f b D L1 gb most age) (hw : Mut F w wt) (hF : ∀ k, F k → k < w.heap.size) (hbx : Ext wt wb) (hX : wb.heap[X]? = some (.cells #[.int .i64 port, .int .i64 age] 60 (0, 0))) (hXn : wt.heap.size ≤ X)
    (hu : w6.ownsMap Try.prog 30 pE b n (D.put (ku m) (.lit (.int .i64 X)))) (ht : wb.mapTurned w6 b) (hmp : Maps.IsMap D) (hle : LearnedP most age m port L (ins (m, port, age) L1)) : LearnP w F f most age m port L w6 := by
  have hg := ht.grown
  have hXl := row_lt hX
  have hXb : X ≠ b := by have := hF b h1.fF.2; have := hw.size; omega
  have hX6 : w6.heap[X]? = some (.cells #[.int .i64 port, .int .i64 age] 60 (0, 0)) := (hg.block X hXl (fun e => hXb (by cases e; rfl))).trans hX
  have hsz : wb.heap.size ≤ w6.heap.size := hg.size
  have hbl : b < wt.heap.size := Nat.lt_of_lt_of_le (hF b h1.fF.2) hw.size
  have key : WideAt.IsKeyLit (ku m) := KK.key (Maps.keyOf_int_mk Try.underlying30 (wfx (by omega)))
  have hput := FbC.put (w' := w6) (F' := fun k => F k ∨ (w.heap.size ≤ k ∧ k < w6.heap.size)) h1 hL1.1 hmp (m, port, age) hX6 hXn
    (fun k hk hkb => (hg.block k (Nat.lt_of_lt_of_le hk hbx.size) (fun e => hkb (by cases e; rfl))).trans (hbx.block k hk)) (fun k hk => .inl hk) (.inr ⟨by have := hw.size; omega, by omega⟩) key hbl
  have hok : Ok age (ins (m, port, age) L1) := hL1.ins ⟨hm0, hp, hage, Int.le_refl _⟩
  have hm2 : Mut F w w6 := (hw.trans (hbx.mut F)).thenGrown hg (fun j hj => .inl (by cases hj; exact h1.fF.2))
  refine ⟨_, hle, ⟨b, _, _, hput, ?_, fun k hk => ?_⟩, hm2⟩
  · have := owns_tight hu
    rwa [hput.size hok hu] at this
  · rcases hk with hk | hk
    · exact Nat.lt_of_lt_of_le (hF k hk) hm2.size
    · exact hk.2

set_option maxRecDepth 100000 in
set_option maxHeartbeats 8000000 in
theorem learn_bad (w : World) (F : Nat → Prop) (f : Nat) (L : List En) (most age : Int) (x port : Int) (hx0 : 0 ≤ x ∧ x < 18446744073709551616) (hb : x % 281474976710656 = 0 ∨ x % 281474976710656 / 1099511627776 % 2 = 1 ∨ port < 0) :
    Calls Try.prog 12 #[.pointer (some ⟨f, 0, none⟩), .int .u64 x, .int .i64 port] w fun e w' => e = .returned (.bool false) ∧ w = w' := by
  go_enter Try.func12, Try.ntmps12
  have HB := Lib.hid hb
  clear hb
  go_wp2_with fail
  refine (addr_any x _ hx0.1 hx0.2).mono ?_
  rintro e w1 ⟨rfl, rfl⟩
  obtain ⟨m, hm⟩ : ∃ m, x % 281474976710656 = m := ⟨_, rfl⟩
  have hmr : 0 ≤ m ∧ m < 281474976710656 := by omega
  have HB2 := Lib.hid (show m = 0 ∨ m / 1099511627776 % 2 = 1 ∨ port < 0 by have := HB.out; rw [hm] at this; exact this)
  rw [hm]
  clear HB hm hx0
  by_cases h0 : m = 0
  · have d0 : (m == 0) = true := by simpa using h0
    clear h0 HB2
    go_wp2_with fail
    go_ret
    exact ⟨rfl, rfl⟩
  have d0 : (m == 0) = false := by simpa using h0
  have H0 := Lib.hid h0
  clear h0
  go_wp2_with fail
  refine (group_any m _ hmr.1 (by omega)).mono ?_
  rintro e w1 ⟨rfl, rfl⟩
  by_cases h1 : m / 1099511627776 % 2 = 1
  · have d1 : (m / 1099511627776 % 2 == 1) = true := by simpa using h1
    clear h1 HB2
    rw [d1]
    go_wp2_with fail
    go_ret
    exact ⟨rfl, rfl⟩
  have d1 : (m / 1099511627776 % 2 == 1) = false := by simpa using h1
  have d2 : decide (port < 0) = true := decide_eq_true (by have := HB2.out; have := H0.out; omega)
  clear h1
  rw [d1]
  go_wp2_with fail
  go_ret
  exact ⟨rfl, rfl⟩


end Go.Proofs.Ytheackckmhbodaa
