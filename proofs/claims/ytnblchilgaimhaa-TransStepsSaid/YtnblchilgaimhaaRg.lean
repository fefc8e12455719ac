/- Regions that draw their order, by hand: what each operation yields. Arguments of flat types. No statement is proved here. -/
import Derived.Test.YtnblchilgaimhaaBrO
import Derived.Test.YtnblchilgaimhaaBrW
import Derived.Deep.Light
namespace Go.Proofs.Ytnblchilgaimhaa
open Go.RowKit Go.BigFrame Go.WideShapes Go.ChangeShapes Go.Deep
set_option linter.unusedVariables false
set_option linter.unusedSimpArgs false

theorem run_loadAt_cell {P : Program} (w : World) (ty : TypeId) (p : Addr) (v : Value) (d : TypeDesc) (hu : P.underlying ty = some d) (hd : d.isRow = false) (hc : w.cell? p = some v) :
    (Instr.loadAt ty (.pointer (some p))).run P w = .ok v w := by
  simp [Instr.loadAt, Instr.sureAddr, loadVar, Sem.run_bind, run_isAgg hu, hd, hc, Result.andThen]

/-- A cell that is read in each world that meets S. -/
theorem yieldsIf_cell {P : Program} {ops : Array Oper} {S : World → Prop} {op : Oper} {a : Act} (hw : Region.wanted op (yielded ops a.tmps) = true) (ty : TypeId) (x : Operand) (ho : op.op = .load ty x)
    (p : Addr) (hx : a.eval x = .pointer (some p)) (v : Value) (d : TypeDesc) (hS : ∀ w, S w → w.cell? p = some v) (hu : P.underlying ty = some d) (hd : d.isRow = false) : YieldsIf P ops S op v a :=
  .inl ⟨hw, fun w hw' => by
    unfold execOp
    simp only [ho, hx, Sem.run_bind, run_loadAt_cell w ty p v d hu hd (hS w hw'), Result.andThen_ok]
    rfl⟩

/-- A new variable of a flat type among operations in an open order. -/
theorem wp_alloc_zero {P : Program} {op : Oper} {a : Act} {w : World} {K : Act → World → Prop} {Q : Exit → Act → World → Prop} (ty : TypeId) (ho : op.op = .alloc ty)
    (z : Array Value) (hz : (zeroValue ty).run P w = .ok (.agg z) w) (h : K (a.put op.dst (.pointer (some ⟨w.heap.size, 0, none⟩))) (w.alloc (.cells z ty))) : op.wp P a w K Q := by
  unfold Oper.wp execOp
  simp only [ho, Instr.alloc, newVar, newRow, Sem.run_bind, hz, Result.andThen_ok]
  go_simp
  exact h
/-- A whole value into a variable, among operations in an open order. -/
theorem wp_store_row {P : Program} {op : Oper} {a : Act} {w : World} {K : Act → World → Prop} {Q : Exit → Act → World → Prop} (t : TypeId) (x y : Operand) (ho : op.op = .store t x y)
    (g : Nat) (t0 : TypeId) (old cs : Array Value) (hx : a.eval x = .pointer (some ⟨g, 0, none⟩)) (hy : a.eval y = .agg cs) (hg : w.heap[g]? = some (.cells old t0 (0, 0))) (hi : (P.info? t).map (·.size) = some cs.size)
    (hs : old.size = cs.size) (h1 : cs.all (·.oneCell') = true) (h : K (a.put op.dst undef) (w.setRow g cs)) : op.wp P a w K Q := by
  unfold Oper.wp execOp
  simp only [ho, hx, hy, Instr.storeAt, Instr.sureAddr, Sem.run_bind, Sem.run_pure, Result.andThen_ok, run_storeVar_row w g t0 t old cs hg hi hs h1]
  exact h

theorem nameLe {a b : Nat} (h : a ≤ b) : ∃ n, a = n ∧ n ≤ b := ⟨a, rfl, h⟩
/-- The beginning: the world behind the draw under a name. -/
theorem beginL {P : Program} {Q : Exit → Act → World → Prop} {S : World → Prop} {id : Nat} {ops : Array Oper} {a : Act} {w : World} (hm : P.follows .mixedOrders = true)
    (h : ∀ wd : World, Ext w wd → wpAnyH P .any ops Q S ops.size (Array.replicate ops.size false) a wd) : (Code.region id ops true).wp P Q a w :=
  wp_region_held hm (h w.drew (Ext.refl w).drew)
/-- Number i first: the operation by its own text. -/
theorem takeL {P : Program} {md : Region.Mode} {Q : Exit → Act → World → Prop} {S : World → Prop} {l rest : List Oper} {i : Nat} {oi : Oper} {v : Value} {fuel : Nat} {listed : Array Bool} {a : Act} {w : World} (hi : l.drop i = oi :: rest)
    (hs : Region.noSelect l.toArray = true) (hf : Region.free md l.toArray listed i = true) (hr : (Region.ready md l.toArray listed).contains i = true)
    (hQ : ∀ c a w, Q (.panic c) (a.put oi.dst v) w → Q (.panic c) a w) (hy : YieldsIf P l.toArray S oi v a) (hS : S w)
    (h : wpAnyH P md l.toArray Q S fuel (listed.setIfInBounds i true) (a.put oi.dst v) w) : wpAnyH P md l.toArray Q S (fuel + 1) listed a w :=
  wpAnyH_take (by
    have e : (l.drop i)[0]? = some oi := by rw [hi]; rfl
    rw [List.getElem?_drop, Nat.add_zero] at e
    simpa using e) hs hf hr hQ hy hS h
/-- The one that may come up is carried out. -/
theorem runL {P : Program} {md : Region.Mode} {Q : Exit → Act → World → Prop} {S : World → Prop} {l rest : List Oper} {i : Nat} {oi : Oper} {fuel : Nat} {listed : Array Bool} {a : Act} {w : World} (hi : l.drop i = oi :: rest)
    (hg : oi.guard = none) (hr : Region.ready md l.toArray listed = [i])
    (h : ∀ K' : Act → World → Prop, Shut (∀ a w, S w → (S w → wpAnyH P md l.toArray Q S fuel (listed.setIfInBounds i true) a w) → K' a w) → Oper.wp P oi a w K' Q) : wpAnyH P md l.toArray Q S (fuel + 1) listed a w := by
  refine wpAnyH_ready hr (by simp) (AllReadyH.cons (o := oi) ?_ (fun K hK => ?_) AllReadyH.nil)
  · have e : (l.drop i)[0]? = some oi := by rw [hi]; rfl
    rw [List.getElem?_drop, Nat.add_zero] at e
    simpa using e
  · rw [if_pos (by simp [Region.wanted, hg])]
    exact h K hK

/-- An argument of a flat struct type. -/
theorem open_typed {H : Type} {enc : TypeId × Value → H} {P : Program} {w : World} {r : Reach} {b0 : Nat} {t : TypeId} {fs : Array Field} {l : List (Option IntKind)} {v : Value} {d : DataW H} {p : List MemPlace} (hv : Value.okWide P w r b0 t v)
    (h : DataW.Trod enc P w 0 (fun _ => true) true t v d p) (hu : P.underlying t = some (.struct fs)) (hl : lay P 6 t = some l) : ∃ cs : List Value, v = .agg cs.toArray ∧ Typed l cs := by
  obtain ⟨cs, rfl, _⟩ := okWide_struct hu hv
  obtain ⟨fuel, hf⟩ := h
  exact ⟨cs.toList, by simp, trod_typed 6 t l fuel cs.toList _ hl hf⟩
theorem lay_msg : lay Try.prog 6 51 = some ML := by kernel_rfl

def FZ : Array Value := Array.replicate 29 (.bool false)
theorem zero_flags : ∀ w, (zeroValue 49).run Try.prog w = .ok (.agg FZ) w := (zero_of_info (P := Try.prog) (t := 49) (v := .agg FZ) (n := 29) (by kernel_rfl)).1
theorem size_flags : (Try.prog.info? 49).map (·.size) = some 29 := by kernel_rfl
theorem size_msg : (Try.prog.info? 51).map (·.size) = some 17 := by kernel_rfl
/-- A port's flags, its message. -/
def flagsOf (ps : List Value) (k : Nat) : List Value := (ps.drop (k * 89 + 22)).take 29
def msgOf (ps : List Value) (k : Nat) : List Value := (ps.drop (k * 89 + 51)).take 17
theorem flagsOf_at {B : Br} {k j : Nat} (hj : j < 29) : (flagsOf B.ps k)[j]? = B.ps[k * 89 + (22 + j)]? := by
  unfold flagsOf
  rw [List.getElem?_take, if_pos hj, List.getElem?_drop, Nat.add_assoc]
theorem msgOf_at {B : Br} {k j : Nat} (hj : j < 17) : (msgOf B.ps k)[j]? = B.ps[k * 89 + (51 + j)]? := by
  unfold msgOf
  rw [List.getElem?_take, if_pos hj, List.getElem?_drop, Nat.add_assoc]
theorem flagsOf_len {B : Br} (ho : B.ok) {k : Nat} (hk : k < B.np) : (flagsOf B.ps k).length = 29 := by
  have := len89 ho hk
  unfold flagsOf
  simp; omega
theorem msgOf_len {B : Br} (ho : B.ok) {k : Nat} (hk : k < B.np) : (msgOf B.ps k).length = 17 := by
  have := len89 ho hk
  unfold msgOf
  simp; omega
theorem all_one {B : Br} (ho : B.ok) : ∀ v ∈ B.ps, v.oneCell' = true := ho.ps.one
theorem flagsOf_one {B : Br} (ho : B.ok) (k : Nat) : ∀ v ∈ flagsOf B.ps k, v.oneCell' = true := fun v hv => ho.ps.one v (List.mem_of_mem_drop (List.mem_of_mem_take hv))
theorem msgOf_one {B : Br} (ho : B.ok) (k : Nat) : ∀ v ∈ msgOf B.ps k, v.oneCell' = true := fun v hv => ho.ps.one v (List.mem_of_mem_drop (List.mem_of_mem_take hv))
theorem BrG.flags {w : World} {F : Nat → Prop} {X g : Nat} {B : Br} (h : BrG w F X g B) {k : Nat} (hk : k < B.np) : w.rangeAt g (k * 89 + 22) (flagsOf B.ps k) := fun j v hv => by
  have hj : j < 29 := by
    have := (List.getElem?_eq_some_iff.1 hv).1
    simp [flagsOf] at this; omega
  rw [show k * 89 + 22 + j = k * 89 + (22 + j) from Nat.add_assoc _ _ _, h.cellg (by omega), ← flagsOf_at hj]
  exact hv
theorem BrG.msg {w : World} {F : Nat → Prop} {X g : Nat} {B : Br} (h : BrG w F X g B) {k : Nat} (hk : k < B.np) : w.rangeAt g (k * 89 + 51) (msgOf B.ps k) := fun j v hv => by
  have hj : j < 17 := by
    have := (List.getElem?_eq_some_iff.1 hv).1
    simp [msgOf] at this; omega
  rw [show k * 89 + 51 + j = k * 89 + (51 + j) from Nat.add_assoc _ _ _, h.cellg (by omega), ← msgOf_at hj]
  exact hv

/-- A row of cells set from place j on. -/
def Br.setr (B : Br) (k j : Nat) (l : List Value) : Br := { B with ps := B.ps.take (k * 89 + j) ++ l ++ B.ps.drop (k * 89 + j + l.length) }
theorem BrG.setr {w : World} {F : Nat → Prop} {X g : Nat} {B : Br} (h : BrG w F X g B) {k j : Nat} (hk : k < B.np) {l : List Value} (hj : j + l.length ≤ 89) : BrG (w.setCells g (k * 89 + j) l) F X g (B.setr k j l) :=
  BrG.setCellsFrom l (k * 89 + j) w B h (by omega)
theorem setr_at {B : Br} {k j : Nat} {l : List Value} (hk : k * 89 + 89 ≤ B.ps.length) (hj : j + l.length ≤ 89) (i : Nat) :
    (B.setr k j l).ps[i]? = if k * 89 + j ≤ i ∧ i < k * 89 + j + l.length then l[i - (k * 89 + j)]? else B.ps[i]? := by
  show (B.ps.take (k * 89 + j) ++ l ++ B.ps.drop (k * 89 + j + l.length))[i]? = _
  have hz : (B.ps.take (k * 89 + j)).length = k * 89 + j := by rw [List.length_take]; omega
  rw [List.append_assoc]
  by_cases h1 : i < k * 89 + j
  · rw [List.getElem?_append_left (by omega), List.getElem?_take, if_pos h1, if_neg (by omega)]
  · rw [List.getElem?_append_right (by omega), hz]
    by_cases h2 : i < k * 89 + j + l.length
    · rw [List.getElem?_append_left (by omega), if_pos (by omega)]
    · rw [List.getElem?_append_right (by omega), if_neg (by omega), List.getElem?_drop]
      congr 1; omega
@[simp] theorem np_setr (B : Br) (k j : Nat) (l : List Value) : (B.setr k j l).np = B.np := rfl
@[simp] theorem hd_setr (B : Br) (k j : Nat) (l : List Value) : (B.setr k j l).hd = B.hd := rfl
theorem len_setr {B : Br} {k j : Nat} {l : List Value} (hk : k * 89 + 89 ≤ B.ps.length) (hj : j + l.length ≤ 89) : (B.setr k j l).ps.length = B.ps.length := by
  show (B.ps.take (k * 89 + j) ++ l ++ B.ps.drop (k * 89 + j + l.length)).length = _
  simp; omega
theorem Br.ok.setr {B : Br} (ho : B.ok) {k j : Nat} {l : List Value} (hk : k < B.np) (hj : j + l.length ≤ 89) (hl : ∀ i v, l[i]? = some v → ∀ c, PL[j + i]? = some c → cellOk c v) : (B.setr k j l).ok := by
  have h89 := len89 ho hk
  refine ⟨ho.hd, ?_, ho.os, ho.fl⟩
  obtain ⟨h1, h2⟩ := rowTyped_iff.1 ho.ps
  refine rowTyped_iff.2 ⟨by rw [len_setr h89 hj]; exact h1, fun i hi j' c hj' => ?_⟩
  have hl' : j' < 89 := (List.getElem?_eq_some_iff.1 hj').1
  have hlen : PL.length = 89 := rfl
  obtain ⟨u, hu, hc⟩ := h2 i hi j' c hj'
  rw [hlen] at hu ⊢
  rw [setr_at h89 hj]
  split
  · rename_i hin
    have e1 : i = k := by omega
    subst e1
    obtain ⟨v, hv⟩ : ∃ v, l[i * 89 + j' - (i * 89 + j)]? = some v := ⟨_, List.getElem?_eq_getElem (by omega)⟩
    refine ⟨v, hv, hl _ v hv c ?_⟩
    rw [show j + (i * 89 + j' - (i * 89 + j)) = j' by omega]
    exact hj'
  · exact ⟨u, hu, hc⟩

end Go.Proofs.Ytnblchilgaimhaa
