/- Bridges in boxes: a port's cells by their places; worlds in which some blocks turned. No statement is proved here. -/
import Derived.Test.YtemmfbedchfekaaBrF
import Derived.Test.YtemmfbedchfekaaBrGq
import Derived.StillTailTactics
namespace Go.Proofs.Ytemmfbedchfekaa
open Go.RowKit Go.WideShapes Go.ChangeShapes Go.Deep
set_option linter.unusedVariables false
set_option linter.unusedSimpArgs false
set_option maxRecDepth 100000

/-- A region whose last operations stand in one order: the world behind its draw gets a name. -/
theorem wp_region_tail {P : Program} {id : Nat} {Q : Exit → Act → World → Prop} {a : Act} {w : World} {l : List Oper} (n : Nat) (hm : P.follows .mixedOrders = true) (hB : Region.lexTailB .any l.toArray n = true)
    (h : ∀ w2 : World, w2 = w.drew → wpStill P l.toArray w2 (fun a' => wpList P l.toArray Q (l.drop n) a' w2) (l.take n) a) : (Code.region id l.toArray true).wp P Q a w :=
  wp_region_still_tail n hm hB (h _ rfl)

/-- A whole row read where the world stands still. -/
theorem wpStill_load_row {P : Program} {ops : Array Oper} {w : World} {Q : Act → Prop} {a : Act} {o : Oper} {rest : List Oper} (hgd : o.guard = none) (ty : TypeId) (x : Operand) (ho : o.op = .load ty x) (g : Nat) (hx : a.eval x = .pointer (some ⟨g, 0, none⟩))
    (t : TypeId) (cs : Array Value) (d : TypeDesc) (hg : w.heap[g]? = some (.cells cs t (0, 0))) (hu : P.underlying ty = some d) (hd : (match d with | .struct _ | .array _ _ => true | _ => false) = true) (hi : (P.info? ty).map (·.size) = some cs.size)
    (h : wpStill P ops w Q rest (a.put o.dst (.agg cs))) : wpStill P ops w Q (o :: rest) a :=
  wpStill_step fun K hK => by
    rw [if_pos (by simp [Region.wanted, hgd])]
    unfold Oper.still execOp
    simp only [ho, hx, Instr.loadAt, Instr.sureAddr, Sem.run_bind, Sem.run_pure, Result.andThen_ok, run_loadVar_row w g t ty cs (0, 0) d hg hu hd hi]
    exact ⟨rfl, hK _ h⟩

/-! ### A port's cells by place -/
def Br.setp (B : Br) (k j : Nat) (v : Value) : Br := { B with ps := B.ps.set (k * 89 + j) v }
def Br.gi (B : Br) (k j : Nat) : Int := match B.ps[k * 89 + j]? with | some (.int _ z) => z | _ => 0
def Br.gb (B : Br) (k j : Nat) : Bool := match B.ps[k * 89 + j]? with | some (.bool z) => z | _ => false
def Br.hi (B : Br) (j : Nat) : Int := match B.hd[j]? with | some (.int _ z) => z | _ => 0
def Br.hb (B : Br) (j : Nat) : Bool := match B.hd[j]? with | some (.bool z) => z | _ => false

theorem rowTyped_iff {l : List (Option IntKind)} {n : Nat} {xs : List Value} : RowTyped l n xs ↔ xs.length = n * l.length ∧ ∀ i, i < n → ∀ j c, l[j]? = some c → ∃ v, xs[i * l.length + j]? = some v ∧ cellOk c v := by
  constructor
  · rintro ⟨h1, h2⟩
    refine ⟨h1, fun i hi j c hj => ?_⟩
    obtain ⟨v, hv, ho⟩ := (h2 i hi).2 j c hj
    refine ⟨v, ?_, ho⟩
    rw [List.getElem?_take] at hv
    split at hv
    · simpa using hv
    · cases hv
  · rintro ⟨h1, h2⟩
    refine ⟨h1, fun i hi => ⟨?_, fun j c hj => ?_⟩⟩
    · have hle : (i + 1) * l.length ≤ n * l.length := Nat.mul_le_mul_right _ hi
      rw [Nat.add_mul, Nat.one_mul] at hle
      simp; omega
    · obtain ⟨v, hv, ho⟩ := h2 i hi j c hj
      refine ⟨v, ?_, ho⟩
      have hl : j < l.length := (List.getElem?_eq_some_iff.1 hj).1
      rw [List.getElem?_take, if_pos hl]
      simpa using hv

theorem Br.ok.len {B : Br} (ho : B.ok) : B.ps.length = B.np * 89 := ho.ps.1
theorem Br.ok.cell {B : Br} (ho : B.ok) {k : Nat} (hk : k < B.np) {j : Nat} {c : Option IntKind} (hj : PL[j]? = some c) : ∃ v, B.ps[k * 89 + j]? = some v ∧ cellOk c v :=
  (rowTyped_iff.1 ho.ps).2 k hk j c hj
theorem Br.ok.gi {B : Br} (ho : B.ok) {k : Nat} (hk : k < B.np) (j : Nat) {K : IntKind} (hj : PL[j]? = some (some K)) : B.ps[k * 89 + j]? = some (.int K (B.gi k j)) := by
  obtain ⟨v, hv, z, rfl, _⟩ := ho.cell hk hj
  rw [hv, Br.gi, hv]
theorem Br.ok.gw {B : Br} (ho : B.ok) {k : Nat} (hk : k < B.np) (j : Nat) {K : IntKind} (hj : PL[j]? = some (some K)) : (Lit.int K (B.gi k j)).wf = true := by
  obtain ⟨v, hv, z, rfl, hz⟩ := ho.cell hk hj
  rw [Br.gi, hv]
  exact hz
theorem Br.ok.gb {B : Br} (ho : B.ok) {k : Nat} (hk : k < B.np) (j : Nat) (hj : PL[j]? = some none) : B.ps[k * 89 + j]? = some (.bool (B.gb k j)) := by
  obtain ⟨v, hv, z, rfl⟩ := ho.cell hk hj
  rw [hv, Br.gb, hv]
theorem Br.ok.hi {B : Br} (ho : B.ok) (j : Nat) {K : IntKind} (hj : HL[j]? = some (some K)) : B.hd[j]? = some (.int K (B.hi j)) := by
  obtain ⟨z, hv, _⟩ := ho.hd.int j K hj
  rw [hv, Br.hi, hv]
theorem Br.ok.hw {B : Br} (ho : B.ok) (j : Nat) {K : IntKind} (hj : HL[j]? = some (some K)) : (Lit.int K (B.hi j)).wf = true := by
  obtain ⟨z, hv, hz⟩ := ho.hd.int j K hj
  rw [Br.hi, hv]
  exact hz
theorem Br.ok.hb {B : Br} (ho : B.ok) (j : Nat) (hj : HL[j]? = some none) : B.hd[j]? = some (.bool (B.hb j)) := by
  obtain ⟨z, hv⟩ := ho.hd.bool j hj
  rw [hv, Br.hb, hv]

theorem Br.ok.setp {B : Br} (ho : B.ok) {k j : Nat} {v : Value} (hk : k < B.np) (hj : j < 89) (hv : ∀ c, PL[j]? = some c → cellOk c v) : (B.setp k j v).ok := by
  refine ⟨ho.hd, ?_, ho.os, ho.fl⟩
  obtain ⟨h1, h2⟩ := rowTyped_iff.1 ho.ps
  refine rowTyped_iff.2 ⟨by simpa [Br.setp] using h1, fun i hi j' c hj' => ?_⟩
  obtain ⟨u, hu, hc⟩ := h2 i hi j' c hj'
  have hl : j' < 89 := (List.getElem?_eq_some_iff.1 hj').1
  have hlen : PL.length = 89 := rfl
  rw [hlen] at hu ⊢
  by_cases e : k * 89 + j = i * 89 + j'
  · have e1 : i = k := by omega
    have e2 : j' = j := by omega
    subst e1; subst e2
    refine ⟨v, ?_, hv c hj'⟩
    show (B.ps.set _ v)[_]? = _
    rw [List.getElem?_set_self (List.getElem?_eq_some_iff.1 hu).1]
  · refine ⟨u, ?_, hc⟩
    show (B.ps.set _ v)[_]? = _
    rw [List.getElem?_set_ne e]
    exact hu

theorem Br.ok.setI {B : Br} (ho : B.ok) {k : Nat} (hk : k < B.np) (j : Nat) (K : IntKind) (z : Int) (hj : PL[j]? = some (some K)) (hz : (Lit.int K z).wf = true) : (B.setp k j (.int K z)).ok :=
  ho.setp hk (List.getElem?_eq_some_iff.1 hj).1 (fun c hc => by rw [hj] at hc; cases hc; exact ⟨z, rfl, hz⟩)
theorem Br.ok.setB {B : Br} (ho : B.ok) {k : Nat} (hk : k < B.np) (j : Nat) (z : Bool) (hj : PL[j]? = some none) : (B.setp k j (.bool z)).ok :=
  ho.setp hk (List.getElem?_eq_some_iff.1 hj).1 (fun c hc => by rw [hj] at hc; cases hc; exact ⟨z, rfl⟩)

@[simp] theorem np_setp (B : Br) (k j : Nat) (v : Value) : (B.setp k j v).np = B.np := rfl
@[simp] theorem no_setp (B : Br) (k j : Nat) (v : Value) : (B.setp k j v).no = B.no := rfl
@[simp] theorem nf_setp (B : Br) (k j : Nat) (v : Value) : (B.setp k j v).nf = B.nf := rfl
@[simp] theorem os_setp (B : Br) (k j : Nat) (v : Value) : (B.setp k j v).os = B.os := rfl
@[simp] theorem fl_setp (B : Br) (k j : Nat) (v : Value) : (B.setp k j v).fl = B.fl := rfl
@[simp] theorem hd_setp (B : Br) (k j : Nat) (v : Value) : (B.setp k j v).hd = B.hd := rfl
@[simp] theorem hi_setp (B : Br) (k j i : Nat) (v : Value) : (B.setp k j v).hi i = B.hi i := rfl
@[simp] theorem hb_setp (B : Br) (k j i : Nat) (v : Value) : (B.setp k j v).hb i = B.hb i := rfl
@[simp] theorem len_setp (B : Br) (k j : Nat) (v : Value) : (B.setp k j v).ps.length = B.ps.length := by simp [Br.setp]

theorem cell_setp_same (B : Br) (k j : Nat) (v : Value) (h : k * 89 + j < B.ps.length) : (B.setp k j v).ps[k * 89 + j]? = some v := by simp [Br.setp, h]
theorem cell_setp_ne (B : Br) (k j j' : Nat) (v : Value) (h : j ≠ j') : (B.setp k j v).ps[k * 89 + j']? = B.ps[k * 89 + j']? := by simp [Br.setp, h]
theorem gi_setp_same (B : Br) (k j : Nat) (K : IntKind) (z : Int) (h : k * 89 + j < B.ps.length) : (B.setp k j (.int K z)).gi k j = z := by rw [Br.gi, cell_setp_same _ _ _ _ h]
theorem gi_setp_ne (B : Br) (k j j' : Nat) (v : Value) (h : j ≠ j') : (B.setp k j v).gi k j' = B.gi k j' := by rw [Br.gi, cell_setp_ne _ _ _ _ _ h]; rfl
theorem gb_setp_same (B : Br) (k j : Nat) (z : Bool) (h : k * 89 + j < B.ps.length) : (B.setp k j (.bool z)).gb k j = z := by rw [Br.gb, cell_setp_same _ _ _ _ h]
theorem gb_setp_ne (B : Br) (k j j' : Nat) (v : Value) (h : j ≠ j') : (B.setp k j v).gb k j' = B.gb k j' := by rw [Br.gb, cell_setp_ne _ _ _ _ _ h]; rfl
/-- Another port's cells. -/
theorem cell_setp_port (B : Br) (k j k' j' : Nat) (v : Value) (h : k ≠ k') (hj : j < 89) (hj' : j' < 89) : (B.setp k j v).ps[k' * 89 + j']? = B.ps[k' * 89 + j']? := by
  show (B.ps.set _ v)[_]? = _
  rw [List.getElem?_set_ne (by omega)]

/-- A cell of the head set. -/
def Br.seth (B : Br) (j : Nat) (v : Value) : Br := { B with hd := B.hd.set j v }
@[simp] theorem np_seth (B : Br) (j : Nat) (v : Value) : (B.seth j v).np = B.np := rfl
@[simp] theorem len_seth (B : Br) (j : Nat) (v : Value) : (B.seth j v).ps.length = B.ps.length := rfl
@[simp] theorem gi_seth (B : Br) (k i j : Nat) (v : Value) : (B.seth j v).gi k i = B.gi k i := rfl
@[simp] theorem gb_seth (B : Br) (k i j : Nat) (v : Value) : (B.seth j v).gb k i = B.gb k i := rfl
theorem hb_seth_same (B : Br) (j : Nat) (z : Bool) (h : j < B.hd.length) : (B.seth j (.bool z)).hb j = z := by simp [Br.hb, Br.seth, h]
theorem hi_seth_same (B : Br) (j : Nat) (K : IntKind) (z : Int) (h : j < B.hd.length) : (B.seth j (.int K z)).hi j = z := by simp [Br.hi, Br.seth, h]
theorem Br.ok.setHB {B : Br} (ho : B.ok) (j : Nat) (z : Bool) (hj : HL[j]? = some none) : (B.seth j (.bool z)).ok :=
  ⟨ho.hd.set j _ (fun k hk => by rw [hj] at hk; cases hk; exact ⟨z, rfl⟩), ho.ps, ho.os, ho.fl⟩
theorem Br.ok.setHI {B : Br} (ho : B.ok) (j : Nat) (K : IntKind) (z : Int) (hj : HL[j]? = some (some K)) (hz : (Lit.int K z).wf = true) : (B.seth j (.int K z)).ok :=
  ⟨ho.hd.set j _ (fun k hk => by rw [hj] at hk; cases hk; exact ⟨z, rfl, hz⟩), ho.ps, ho.os, ho.fl⟩

/-- A whole port set. -/
def Br.setPort (B : Br) (k : Nat) (l : List Value) : Br := { B with ps := B.ps.take (k * 89) ++ l ++ B.ps.drop (k * 89 + 89) }
theorem setPort_at {B : Br} {k : Nat} {l : List Value} (hl : l.length = 89) (hk : k * 89 + 89 ≤ B.ps.length) (i : Nat) :
    (B.setPort k l).ps[i]? = if k * 89 ≤ i ∧ i < k * 89 + 89 then l[i - k * 89]? else B.ps[i]? := by
  show (B.ps.take (k * 89) ++ l ++ B.ps.drop (k * 89 + 89))[i]? = _
  have h1 : (B.ps.take (k * 89)).length = k * 89 := by rw [List.length_take]; omega
  rw [List.append_assoc]
  by_cases a : i < k * 89
  · rw [List.getElem?_append_left (by omega), List.getElem?_take, if_pos a, if_neg (by omega)]
  · rw [List.getElem?_append_right (by omega), h1]
    by_cases b : i < k * 89 + 89
    · rw [List.getElem?_append_left (by omega), if_pos ⟨by omega, b⟩]
    · rw [List.getElem?_append_right (by omega), List.getElem?_drop, if_neg (by omega), hl]
      congr 1; omega
theorem Br.ext_ps {B C : Br} (h1 : B.hd = C.hd) (h2 : B.np = C.np) (h3 : ∀ i : Nat, B.ps[i]? = C.ps[i]?) (h4 : B.no = C.no) (h5 : B.os = C.os) (h6 : B.nf = C.nf) (h7 : B.fl = C.fl) : B = C := by
  obtain ⟨⟩ := B; obtain ⟨⟩ := C
  simp only [Br.mk.injEq]
  exact ⟨h1, h2, List.ext_getElem? h3, h4, h5, h6, h7⟩
theorem setPort_set {B : Br} {k j : Nat} {l : List Value} {v : Value} (hl : l.length = 89) (hk : k * 89 + 89 ≤ B.ps.length) (hj : j < 89) : B.setPort k (l.set j v) = (B.setPort k l).setp k j v := by
  refine Br.ext_ps rfl rfl (fun i => ?_) rfl rfl rfl rfl
  show _ = ((B.setPort k l).ps.set _ v)[i]?
  rw [setPort_at (by simpa using hl) hk]
  conv => rhs; rw [List.getElem?_set, setPort_at hl hk]
  rw [List.getElem?_set]
  have hlen : (B.setPort k l).ps.length = B.ps.length := by simp [Br.setPort]; omega
  by_cases e : k * 89 + j = i
  · subst e
    rw [if_pos ⟨by omega, by omega⟩, if_pos (by omega), if_pos (by omega), if_pos rfl, if_pos (by omega)]
  · rw [if_neg e]
    by_cases a : k * 89 ≤ i ∧ i < k * 89 + 89
    · rw [if_pos a, if_pos a, if_neg (by omega)]
    · rw [if_neg a, if_neg a]
theorem setPort_self {B : Br} {k : Nat} (hk : k * 89 + 89 ≤ B.ps.length) : B.setPort k (port B.ps k) = B := by
  refine Br.ext_ps rfl rfl (fun i => ?_) rfl rfl rfl rfl
  rw [setPort_at (by simp [port]; omega) hk]
  split
  · rename_i h
    unfold port
    rw [List.getElem?_take, if_pos (by omega), List.getElem?_drop]
    congr 1; omega
  · rfl
theorem port_len {B : Br} {k : Nat} (hk : k * 89 + 89 ≤ B.ps.length) : (port B.ps k).length = 89 := by simp [port]; omega
theorem port_at {B : Br} {k j : Nat} (hj : j < 89) : (port B.ps k)[j]? = B.ps[k * 89 + j]? := by
  unfold port
  rw [List.getElem?_take, if_pos hj, List.getElem?_drop]

theorem one_set {l : List Value} {j : Nat} {u : Value} (h : ∀ v ∈ l, v.oneCell' = true) (hu : u.oneCell' = true) : ∀ v ∈ l.set j u, v.oneCell' = true := fun v hv => by
  rcases List.mem_or_eq_of_mem_set hv with hv | rfl
  · exact h v hv
  · exact hu

/-! ### Worlds in which some blocks turned -/
def Mut (F : Nat → Prop) (w w' : World) : Prop := w'.os = w.os ∧ w'.tape = w.tape ∧ w'.output = w.output ∧ w.heap.size ≤ w'.heap.size ∧ ∀ k, k < w.heap.size → ¬ F k → w'.heap[k]? = w.heap[k]?

theorem Mut.refl (F : Nat → Prop) (w : World) : Mut F w w := ⟨rfl, rfl, rfl, Nat.le_refl _, fun _ _ _ => rfl⟩
theorem Mut.mono {F G : Nat → Prop} {w w' : World} (h : Mut F w w') (hFG : ∀ k, k < w.heap.size → F k → G k) : Mut G w w' :=
  ⟨h.1, h.2.1, h.2.2.1, h.2.2.2.1, fun k hk hg => h.2.2.2.2 k hk (fun hf => hg (hFG k hk hf))⟩
theorem Mut.trans {F : Nat → Prop} {a b c : World} (h : Mut F a b) (k : Mut F b c) : Mut F a c :=
  ⟨k.1.trans h.1, k.2.1.trans h.2.1, k.2.2.1.trans h.2.2.1, Nat.le_trans h.2.2.2.1 k.2.2.2.1, fun i hi hf => (k.2.2.2.2 i (Nat.lt_of_lt_of_le hi h.2.2.2.1) hf).trans (h.2.2.2.2 i hi hf)⟩
theorem Ext.mut {a b : World} (h : Ext a b) (F : Nat → Prop) : Mut F a b := ⟨h.os, h.tape, h.output, h.size, fun k hk _ => h.block k hk⟩
theorem Mut.ext {a b : World} {F : Nat → Prop} (h : Mut F a b) (hF : ∀ k, k < a.heap.size → ¬ F k) : Ext a b := ⟨h.1, h.2.1, h.2.2.1, h.2.2.2.1, fun k hk => h.2.2.2.2 k hk (hF k hk)⟩
theorem Mut.alloc {F : Nat → Prop} {a b : World} (h : Mut F a b) (o : Obj) : Mut F a (b.alloc o) := h.trans (((Ext.refl b).alloc o).mut F)
theorem Mut.drewN {F : Nat → Prop} {a b : World} (h : Mut F a b) (n : Nat) : Mut F a (b.drewN n) := h.trans (((Ext.refl b).drewN n).mut F)
theorem Mut.drew {F : Nat → Prop} {a b : World} (h : Mut F a b) : Mut F a b.drew := h.trans (((Ext.refl b).drew).mut F)
theorem Mut.setCell {F : Nat → Prop} {a b : World} (h : Mut F a b) {p : Addr} (hp : F p.block ∨ a.heap.size ≤ p.block) (v : Value) : Mut F a (b.setCell p v) :=
  ⟨h.1, h.2.1, h.2.2.1, by simpa using h.2.2.2.1, fun k hk hf => by
    rw [Below.heap_setCell _ _ _ _ (fun e => ?_)]
    · exact h.2.2.2.2 k hk hf
    · rcases hp with hp | hp
      · exact hf (e ▸ hp)
      · omega⟩
theorem Mut.setRow {F : Nat → Prop} {a b : World} (h : Mut F a b) {g : Nat} (hp : F g ∨ a.heap.size ≤ g) (cs : Array Value) : Mut F a (b.setRow g cs) :=
  ⟨h.1, h.2.1, h.2.2.1, by simpa using h.2.2.2.1, fun k hk hf => by
    rw [setRow_other b g k cs (fun e => ?_)]
    · exact h.2.2.2.2 k hk hf
    · rcases hp with hp | hp
      · exact hf (e ▸ hp)
      · omega⟩
theorem Mut.setCells {F : Nat → Prop} {a : World} {g : Nat} (hp : F g ∨ a.heap.size ≤ g) : ∀ (vs : List Value) (o : Nat) {b : World}, Mut F a b → Mut F a (b.setCells g o vs)
  | [], _, _, h => h
  | v :: r, o, _, h => Mut.setCells hp r (o + 1) (h.setCell hp v)
/-- What lies outside holds its cells. -/
theorem Mut.heap {F : Nat → Prop} {a b : World} (h : Mut F a b) {k : Nat} (hk : k < a.heap.size) (hf : ¬ F k) : b.heap[k]? = a.heap[k]? := h.2.2.2.2 k hk hf
theorem Mut.size {F : Nat → Prop} {a b : World} (h : Mut F a b) : a.heap.size ≤ b.heap.size := h.2.2.2.1
theorem Mut.cell {F : Nat → Prop} {a b : World} (h : Mut F a b) {p : Addr} (hk : p.block < a.heap.size) (hf : ¬ F p.block) : b.cell? p = a.cell? p := by
  simp only [World.cell?, h.heap hk hf]

/-! ### A bridge in a box -/
/-- The bridge B lies in box X; its ports in block g; its other rows in blocks of F. -/
def BrG (w : World) (F : Nat → Prop) (X g : Nat) (B : Br) : Prop :=
  F X ∧ F g ∧ ∃ cap cur s2 s3, w.heap[X]? = some (.cells (B.hd ++ [.slice (some ⟨g, 0, none⟩) B.np cap, s2, s3]).toArray 33 (0, 0)) ∧
    w.heap[g]? = some (.cells cur 69 (0, 0)) ∧ cur.size = cap * 89 ∧ B.np ≤ cap ∧ cap ≤ maxLen ∧ cur.toList.take (B.np * 89) = B.ps ∧
    w.ownsRow 0 99 18 s2 B.no B.os ∧ w.ownsRow 0 3 1 s3 B.nf B.fl ∧ (∀ h, s2.ownBlock = some h → F h) ∧ (∀ h, s3.ownBlock = some h → F h)

theorem owns_keep {w w' : World} {base m n : Nat} {e : TypeId} {v : Value} {xs : List Value} (h : w.ownsRow base e m v n xs) (hk : ∀ g, v.ownBlock = some g → g < w.heap.size → w'.heap[g]? = w.heap[g]?) : w'.ownsRow base e m v n xs := by
  refine ⟨h.1, ?_⟩
  rcases h.2 with hn | ⟨g, cap, cur, rfl, hb, hg, rest⟩
  · exact .inl hn
  · exact .inr ⟨g, cap, cur, rfl, hb, (hk g rfl (heap_lt hg)).trans hg, rest⟩

theorem BrG.mono {w : World} {F G : Nat → Prop} {X g : Nat} {B : Br} (h : BrG w F X g B) (hFG : ∀ k, F k → G k) : BrG w G X g B := by
  obtain ⟨h1, h2, cap, cur, s2, s3, a, b, c, d, e, f, p, q, r, s⟩ := h
  exact ⟨hFG _ h1, hFG _ h2, cap, cur, s2, s3, a, b, c, d, e, f, p, q, fun k hk => hFG _ (r k hk), fun k hk => hFG _ (s k hk)⟩
/-- Where no block of F turned. -/
theorem BrG.keep {w w' : World} {F : Nat → Prop} {X g : Nat} {B : Br} (h : BrG w F X g B) (hk : ∀ k, F k → k < w.heap.size → w'.heap[k]? = w.heap[k]?) : BrG w' F X g B := by
  obtain ⟨h1, h2, cap, cur, s2, s3, a, b, c, d, e, f, p, q, r, s⟩ := h
  exact ⟨h1, h2, cap, cur, s2, s3, (hk X h1 (heap_lt a)).trans a, (hk g h2 (heap_lt b)).trans b, c, d, e, f, owns_keep p (fun k hk' hl => hk k (r k hk') hl), owns_keep q (fun k hk' hl => hk k (s k hk') hl), r, s⟩
theorem BrG.ext {w w' : World} {F : Nat → Prop} {X g : Nat} {B : Br} (h : BrG w F X g B) (hx : Ext w w') : BrG w' F X g B := h.keep fun k _ hk => hx.block k hk
theorem BrG.alloc {w : World} {F : Nat → Prop} {X g : Nat} {B : Br} (h : BrG w F X g B) (o : Obj) : BrG (w.alloc o) F X g B := h.ext ((Ext.refl w).alloc o)
theorem BrG.drewN {w : World} {F : Nat → Prop} {X g : Nat} {B : Br} (h : BrG w F X g B) (n : Nat) : BrG (w.drewN n) F X g B := h.ext ((Ext.refl w).drewN n)
theorem BrG.drew {w : World} {F : Nat → Prop} {X g : Nat} {B : Br} (h : BrG w F X g B) : BrG w.drew F X g B := h.ext ((Ext.refl w).drew)
/-- Where other blocks turned alone. -/
theorem BrG.apart {w w' : World} {F G : Nat → Prop} {X g : Nat} {B : Br} (h : BrG w F X g B) (hm : Mut G w w') (hd : ∀ k, k < w.heap.size → F k → ¬ G k) : BrG w' F X g B := h.keep fun k hf hk => hm.heap hk (hd k hk hf)

theorem BrG.lt {w : World} {F : Nat → Prop} {X g : Nat} {B : Br} (h : BrG w F X g B) : X < w.heap.size ∧ g < w.heap.size ∧ X ≠ g := by
  obtain ⟨h1, h2, cap, cur, s2, s3, a, b, _⟩ := h
  refine ⟨heap_lt a, heap_lt b, fun e => ?_⟩
  subst e
  rw [b] at a
  simp at a
theorem BrG.F1 {w : World} {F : Nat → Prop} {X g : Nat} {B : Br} (h : BrG w F X g B) : F X := h.1
theorem BrG.F2 {w : World} {F : Nat → Prop} {X g : Nat} {B : Br} (h : BrG w F X g B) : F g := h.2.1

theorem BrG.setCell {w : World} {F : Nat → Prop} {X g : Nat} {B : Br} (h : BrG w F X g B) (i : Nat) (hi : i < B.np * 89) (v : Value) : BrG (w.setCell ⟨g, i, none⟩ v) F X g { B with ps := B.ps.set i v } := by
  have hne := h.lt.2.2
  obtain ⟨h1, h2, cap, cur, s2, s3, a, b, c, d, e, f, p, q, r, s⟩ := h
  refine ⟨h1, h2, cap, cur.setIfInBounds i v, s2, s3, (heap_setCell_other _ _ _ _ hne).trans a, heap_setCell_same _ _ _ _ _ _ b, by simpa using c, d, e, ?_, own_set p b (by decide) v, own_set q b (by decide) v, r, s⟩
  show (cur.setIfInBounds i v).toList.take (B.np * 89) = B.ps.set i v
  rw [← f, Array.toList_setIfInBounds, List.take_set]
theorem BrG.setp {w : World} {F : Nat → Prop} {X g : Nat} {B : Br} (h : BrG w F X g B) {k j : Nat} (hk : k < B.np) (hj : j < 89) (v : Value) : BrG (w.setCell ⟨g, k * 89 + j, none⟩ v) F X g (B.setp k j v) :=
  h.setCell _ (by omega) v

theorem BrG.seth {w : World} {F : Nat → Prop} {X g : Nat} {B : Br} (h : BrG w F X g B) {j : Nat} (hj : j < B.hd.length) (v : Value) : BrG (w.setCell ⟨X, j, none⟩ v) F X g (B.seth j v) := by
  have hne := h.lt.2.2
  obtain ⟨h1, h2, cap, cur, s2, s3, a, b, c, d, e, f, p, q, r, s⟩ := h
  refine ⟨h1, h2, cap, cur, s2, s3, ?_, (heap_setCell_other _ _ _ _ hne.symm).trans b, c, d, e, f, own_set p a (by decide) v, own_set q a (by decide) v, r, s⟩
  rw [heap_setCell_same _ _ _ _ _ _ a]
  congr 2
  show _ = (B.hd.set j v ++ _).toArray
  rw [← List.set_append_left _ _ hj]
  simp
theorem len89 {B : Br} (ho : B.ok) {k : Nat} (hk : k < B.np) : k * 89 + 89 ≤ B.ps.length := by rw [ho.len]; omega
theorem BrG.there {w : World} {F : Nat → Prop} {X g : Nat} {B : Br} (h : BrG w F X g B) {k : Nat} (hk : k < B.np) : w.there g (k * 89) 89 := by
  obtain ⟨h1, h2, cap, cur, s2, s3, a, b, c, d, _⟩ := h
  have : (k + 1) * 89 ≤ cap * 89 := Nat.mul_le_mul_right _ (by omega)
  exact fun j hj => ⟨by rw [cell_of_row _ _ _ _ _ _ b, Array.getElem?_eq_getElem (by omega)]; rfl, frozen_of_row _ _ _ _ _ b⟩
theorem BrG.frozen {w : World} {F : Nat → Prop} {X g : Nat} {B : Br} (h : BrG w F X g B) (i : Nat) : w.frozen? ⟨g, i, none⟩ = false := by
  obtain ⟨h1, h2, cap, cur, s2, s3, a, b, _⟩ := h
  exact frozen_of_row _ _ _ _ _ b
theorem BrG.frozenX {w : World} {F : Nat → Prop} {X g : Nat} {B : Br} (h : BrG w F X g B) (i : Nat) : w.frozen? ⟨X, i, none⟩ = false := by
  obtain ⟨h1, h2, cap, cur, s2, s3, a, b, _⟩ := h
  exact frozen_of_row _ _ _ _ _ a
theorem BrG.cellg {w : World} {F : Nat → Prop} {X g : Nat} {B : Br} (h : BrG w F X g B) {i : Nat} (hi : i < B.np * 89) : w.cell? ⟨g, i, none⟩ = B.ps[i]? := by
  obtain ⟨h1, h2, cap, cur, s2, s3, a, b, c, d, e, f, _⟩ := h
  rw [cell_of_row _ _ _ _ _ _ b, ← f, List.getElem?_take, if_pos hi]
  simp
theorem BrG.cellX {w : World} {F : Nat → Prop} {X g : Nat} {B : Br} (h : BrG w F X g B) (ho : B.ok) {i : Nat} (hi : i < 17) : w.cell? ⟨X, i, none⟩ = B.hd[i]? := by
  obtain ⟨h1, h2, cap, cur, s2, s3, a, b, _⟩ := h
  have hl : B.hd.length = 17 := ho.hd.1
  rw [cell_of_row _ _ _ _ _ _ a]
  simp only [List.getElem?_toArray]
  exact List.getElem?_append_left (by omega)
theorem BrG.cell17 {w : World} {F : Nat → Prop} {X g : Nat} {B : Br} (h : BrG w F X g B) (ho : B.ok) : ∃ cap, w.cell? ⟨X, 17, none⟩ = some (.slice (some ⟨g, 0, none⟩) B.np cap) ∧ B.np ≤ cap ∧ cap ≤ 9223372036854775807 := by
  obtain ⟨h1, h2, cap, cur, s2, s3, a, b, _, d, e, _⟩ := h
  have hl : B.hd.length = 17 := ho.hd.1
  unfold maxLen at e
  refine ⟨cap, ?_, d, by omega⟩
  rw [cell_of_row _ _ _ _ _ _ a]
  simp [hl]
theorem BrG.range {w : World} {F : Nat → Prop} {X g : Nat} {B : Br} (h : BrG w F X g B) {k : Nat} (hk : k < B.np) : w.rangeAt g (k * 89) (port B.ps k) := fun j v hv => by
  have hj : j < 89 := by
    have := (List.getElem?_eq_some_iff.1 hv).1
    simp [port] at this; omega
  rw [h.cellg (by omega), ← port_at hj]
  exact hv

theorem BrG.setCellsFrom {F : Nat → Prop} {X g : Nat} : ∀ (vs : List Value) (i : Nat) (w : World) (B : Br), BrG w F X g B → i + vs.length ≤ B.np * 89 → BrG (w.setCells g i vs) F X g { B with ps := B.ps.take i ++ vs ++ B.ps.drop (i + vs.length) }
  | [], i, w, B, h, _ => by
    have e : B.ps.take i ++ [] ++ B.ps.drop (i + 0) = B.ps := by simp
    show BrG w F X g { B with ps := B.ps.take i ++ [] ++ B.ps.drop (i + 0) }
    rw [e]
    exact h
  | v :: r, i, w, B, h, hi => by
    have hl : B.ps.length = B.np * 89 := by
      obtain ⟨h1, h2, cap, cur, s2, s3, a, b, c, d, e, f, _⟩ := h
      have : B.np * 89 ≤ cap * 89 := Nat.mul_le_mul_right _ d
      rw [← f]; simp; omega
    have hi' : i + (r.length + 1) ≤ B.np * 89 := by simpa using hi
    have := BrG.setCellsFrom r (i + 1) _ _ (h.setCell i (by omega) v) (by show i + 1 + r.length ≤ B.np * 89; omega)
    have e : ({ B with ps := B.ps.take i ++ (v :: r) ++ B.ps.drop (i + (v :: r).length) } : Br) = { B with ps := (B.ps.set i v).take (i + 1) ++ r ++ (B.ps.set i v).drop (i + 1 + r.length) } := by
      congr 1
      rw [List.drop_set_of_lt (by omega), List.take_set, List.take_succ_eq_append_getElem (by omega), List.set_append_right _ _ (by simp; omega)]
      have : i - (List.take i B.ps).length = 0 := by simp; omega
      simp only [this, List.set_cons_zero, List.append_assoc, List.cons_append, List.length_cons]
      rw [show i + 1 + r.length = i + (r.length + 1) by omega, List.nil_append]
    rw [e]
    exact this
theorem BrG.setPort {w : World} {F : Nat → Prop} {X g : Nat} {B : Br} (h : BrG w F X g B) {k : Nat} (hk : k < B.np) {l : List Value} (hl : l.length = 89) : BrG (w.setCells g (k * 89) l) F X g (B.setPort k l) := by
  have := BrG.setCellsFrom l (k * 89) w B h (by omega)
  rw [hl] at this
  exact this

theorem BrG.br {w : World} {F : Nat → Prop} {X g : Nat} {B : Br} (h : BrG w F X g B) (hp : 0 < B.np) : ∃ C : Array Value, w.heap[X]? = some (.cells C 33 (0, 0)) ∧ BrC w C B ∧ C.size = B.hd.length + 3 := by
  obtain ⟨h1, h2, cap, cur, s2, s3, a, b, c, d, e, f, p, q, r, s⟩ := h
  refine ⟨_, a, ⟨_, s2, s3, rfl, ?_, own_row p, own_row q⟩, by simp⟩
  have hle : B.np * 89 ≤ cap * 89 := Nat.mul_le_mul_right _ d
  refine ⟨by rw [← f]; simp; omega, .inr ⟨g, 0, cap, rfl, hp, d, e, heap_lt b, fun j v hv => ?_⟩⟩
  rw [← f, List.getElem?_take] at hv
  split at hv
  · rw [Nat.zero_add, cell_of_row _ _ _ _ _ _ b]
    simpa using hv
  · cases hv

/-- A clone that was put into its box. -/
theorem OwnC.boxed {w : World} {N : Nat} {c c0 : Array Value} {B : Br} (h : OwnC w N c B) (hp : 0 < B.np) {X : Nat} (hX : w.heap[X]? = some (.cells c0 33 (0, 0))) :
    ∃ g, BrG (w.setRow X c) (fun k => k = X ∨ (N ≤ k ∧ k < w.heap.size)) X g B := by
  obtain ⟨s1, s2, s3, rfl, ⟨hl, h1⟩, h2, h3⟩ := h
  rcases h1 with ⟨_, h0⟩ | ⟨g, cap, cur, rfl, hb, hg, hn, hm, hs, ht⟩
  · omega
  · have keep : ∀ {e : TypeId} {m n : Nat} {v : Value} {xs : List Value}, w.ownsRow N e m v n xs → e ≠ 33 → (w.setRow X (B.hd ++ [.slice (some ⟨g, 0, none⟩) B.np cap, s2, s3]).toArray).ownsRow 0 e m v n xs ∧ ∀ h, v.ownBlock = some h → (h = X ∨ (N ≤ h ∧ h < w.heap.size)) := by
      intro e m n v xs h he
      obtain ⟨hz, h4⟩ := own_setRow h hX (fun e' => he e'.symm) (B.hd ++ [.slice (some ⟨g, 0, none⟩) B.np cap, s2, s3]).toArray
      refine ⟨⟨hz, ?_⟩, fun b hb => .inr (h.lt b hb)⟩
      rcases h4 with h4 | ⟨a, b, c, d, e1, rest⟩
      · exact .inl h4
      · exact .inr ⟨a, b, c, d, Nat.zero_le _, rest⟩
    obtain ⟨p, r⟩ := keep h2 (by decide)
    obtain ⟨q, s⟩ := keep h3 (by decide)
    have hne : g ≠ X := fun e => by
      subst e
      rw [hg] at hX
      simp at hX
    exact ⟨g, .inl rfl, .inr ⟨hb, heap_lt hg⟩, cap, cur, s2, s3, setRow_heap _ _ _ _ _ _ hX, (setRow_other _ _ _ _ hne).trans hg, hs, hn, hm, ht, p, q, r, s⟩

end Go.Proofs.Ytemmfbedchfekaa
