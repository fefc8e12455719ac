/- Part 2 of what PlanVersions stands on. No statement is proved here. -/
import Derived.StillTailTactics
import Derived.Laws.AppendOwn
import Derived.Deep.WholeRow
import Derived.Deep.Light
import Derived.BigQuiet
import Derived.OwnWalk
import Derived.Deep.RegionLawGrows
import Derived.Deep.RegionHeld3
import Derived.Laws.CopyRow
import Derived.Great.BuildSlice
import Derived.Maps.AppendAt
import Derived.Test.YtamnmjckhicapaaPtFa
namespace Go.Proofs.Ytamnmjckhicapaa
open Go.RowKit Go.WideShapes Go.ChangeShapes Go.Deep
set_option linter.unusedVariables false
set_option linter.unusedSimpArgs false
set_option maxRecDepth 100000
theorem wp_region_tail {P:Program} {id:Nat} {Q:Exit→Act→World→Prop} {a:Act} {w:World} {l:List Oper} (n:Nat) (hm:P.follows .mixedOrders=true) (hB:Region.lexTailB .any l.toArray n=true)
    (h:∀ w2:World,w2=w.drew→wpStill P l.toArray w2 (fun a'=>wpList P l.toArray Q (l.drop n) a' w2) (l.take n) a):(Code.region id l.toArray true).wp P Q a w :=
 wp_region_still_tail n hm hB (h _ rfl)
def Br.gi (B:Br) (k j:Nat):Int:=match B.ps[k*89+j]? with | some (.int _ z)=>z | _=>0
def Br.hi (B:Br) (j:Nat):Int:=match B.hd[j]? with | some (.int _ z)=>z | _=>0
theorem rowTyped_iff {l:List (Option IntKind)} {n:Nat} {xs:List Value}:RowTyped l n xs↔xs.length=n*l.length∧∀ i,i < n→∀ j c,l[j]?=some c→∃ v,xs[i*l.length+j]?=some v∧cellOk c v:=by
 constructor
 ·rintro ⟨h1,h2⟩
  refine ⟨h1,fun i hi j c hj=>?_⟩
  obtain ⟨v,hv,ho⟩:=(h2 i hi).2 j c hj
  refine ⟨v,?_,ho⟩
  rw [List.getElem?_take] at hv
  split at hv
  ·simpa using hv
  ·cases hv
 ·rintro ⟨h1,h2⟩
  refine ⟨h1,fun i hi=>⟨?_,fun j c hj=>?_⟩⟩
  ·have hle:(i+1)*l.length≤n*l.length:=Nat.mul_le_mul_right _ hi
   rw [Nat.add_mul,Nat.one_mul] at hle
   simp; omega
  ·obtain ⟨v,hv,ho⟩:=h2 i hi j c hj
   refine ⟨v,?_,ho⟩
   have hl:j < l.length:=(List.getElem?_eq_some_iff.1 hj).1
   rw [List.getElem?_take,if_pos hl]
   simpa using hv
theorem Br.ok.cell {B:Br} (ho:B.ok) {k:Nat} (hk:k < B.np) {j:Nat} {c:Option IntKind} (hj:PL[j]?=some c):∃ v,B.ps[k*89+j]?=some v∧cellOk c v :=
 (rowTyped_iff.1 ho.ps).2 k hk j c hj
theorem Br.ok.gi {B:Br} (ho:B.ok) {k:Nat} (hk:k < B.np) (j:Nat) {K:IntKind} (hj:PL[j]?=some (some K)):B.ps[k*89+j]?=some (.int K (B.gi k j)):=by
 obtain ⟨v,hv,z,rfl,_⟩:=ho.cell hk hj
 rw [hv,Br.gi,hv]
theorem Br.ok.hi {B:Br} (ho:B.ok) (j:Nat) {K:IntKind} (hj:HL[j]?=some (some K)):B.hd[j]?=some (.int K (B.hi j)):=by
 obtain ⟨z,hv,_⟩:=ho.hd.int j K hj
 rw [hv,Br.hi,hv]
theorem port_at {B:Br} {k j:Nat} (hj:j < 89):(port B.ps k)[j]?=B.ps[k*89+j]?:=by
 unfold port
 rw [List.getElem?_take,if_pos hj,List.getElem?_drop]
def Mut (F:Nat→Prop) (w w':World):Prop:=w'.os=w.os∧w'.tape=w.tape∧w'.output=w.output∧w.heap.size≤w'.heap.size∧∀ k,k < w.heap.size→¬ F k→w'.heap[k]?=w.heap[k]?
theorem Mut.refl (F:Nat→Prop) (w:World):Mut F w w:=⟨rfl,rfl,rfl,Nat.le_refl _,fun _ _ _=>rfl⟩
theorem Mut.mono {F G:Nat→Prop} {w w':World} (h:Mut F w w') (hFG:∀ k,k < w.heap.size→F k→G k):Mut G w w' :=
 ⟨h.1,h.2.1,h.2.2.1,h.2.2.2.1,fun k hk hg=>h.2.2.2.2 k hk (fun hf=>hg (hFG k hk hf))⟩
theorem Mut.trans {F:Nat→Prop} {a b c:World} (h:Mut F a b) (k:Mut F b c):Mut F a c :=
 ⟨k.1.trans h.1,k.2.1.trans h.2.1,k.2.2.1.trans h.2.2.1,Nat.le_trans h.2.2.2.1 k.2.2.2.1,fun i hi hf=>(k.2.2.2.2 i (Nat.lt_of_lt_of_le hi h.2.2.2.1) hf).trans (h.2.2.2.2 i hi hf)⟩
theorem Ext.mut {a b:World} (h:Ext a b) (F:Nat→Prop):Mut F a b:=⟨h.os,h.tape,h.output,h.size,fun k hk _=>h.block k hk⟩
theorem Mut.ext {a b:World} {F:Nat→Prop} (h:Mut F a b) (hF:∀ k,k < a.heap.size→¬ F k):Ext a b:=⟨h.1,h.2.1,h.2.2.1,h.2.2.2.1,fun k hk=>h.2.2.2.2 k hk (hF k hk)⟩
theorem Mut.setCell {F:Nat→Prop} {a b:World} (h:Mut F a b) {p:Addr} (hp:F p.block∨a.heap.size≤p.block) (v:Value):Mut F a (b.setCell p v) :=
 ⟨h.1,h.2.1,h.2.2.1,by simpa using h.2.2.2.1,fun k hk hf=>by
  rw [Below.heap_setCell _ _ _ _ (fun e=>?_)]
  ·exact h.2.2.2.2 k hk hf
  ·rcases hp with hp | hp
   ·exact hf (e ▸ hp)
   ·omega⟩
theorem Mut.heap {F:Nat→Prop} {a b:World} (h:Mut F a b) {k:Nat} (hk:k < a.heap.size) (hf:¬ F k):b.heap[k]?=a.heap[k]?:=h.2.2.2.2 k hk hf
theorem Mut.size {F:Nat→Prop} {a b:World} (h:Mut F a b):a.heap.size≤b.heap.size:=h.2.2.2.1
theorem Mut.cell {F:Nat→Prop} {a b:World} (h:Mut F a b) {p:Addr} (hk:p.block < a.heap.size) (hf:¬ F p.block):b.cell? p=a.cell? p:=by
 simp only [World.cell?,h.heap hk hf]
end Go.Proofs.Ytamnmjckhicapaa
namespace Go.Proofs.Ytamnmjckhicapaa
open Go.RowKit Go.BigFrame Go.WideShapes Go.ChangeShapes Go.Deep
set_option linter.unusedVariables false
set_option linter.unusedSimpArgs false
set_option maxRecDepth 100000
theorem run_loadAt_cell {P:Program} (w:World) (ty:TypeId) (p:Addr) (v:Value) (d:TypeDesc) (hu:P.underlying ty=some d) (hd:d.isRow=false) (hc:w.cell? p=some v) :
    (Instr.loadAt ty (.pointer (some p))).run P w=.ok v w:=by
 simp [Instr.loadAt,Instr.sureAddr,loadVar,Sem.run_bind,run_isAgg hu,hd,hc,Result.andThen]
theorem yieldsIf_cell {P:Program} {ops:Array Oper} {S:World→Prop} {op:Oper} {a:Act} (hw:Region.wanted op (yielded ops a.tmps)=true) (ty:TypeId) (x:Operand) (ho:op.op=.load ty x)
    (p:Addr) (hx:a.eval x=.pointer (some p)) (v:Value) (d:TypeDesc) (hS:∀ w,S w→w.cell? p=some v) (hu:P.underlying ty=some d) (hd:d.isRow=false):YieldsIf P ops S op v a :=
 .inl ⟨hw,fun w hw'=>by
  unfold execOp
  simp only [ho,hx,Sem.run_bind,run_loadAt_cell w ty p v d hu hd (hS w hw'),Result.andThen_ok]
  rfl⟩
theorem wp_alloc_zero {P:Program} {op:Oper} {a:Act} {w:World} {K:Act→World→Prop} {Q:Exit→Act→World→Prop} (ty:TypeId) (ho:op.op=.alloc ty)
    (z:Array Value) (hz:(zeroValue ty).run P w=.ok (.agg z) w) (h:K (a.put op.dst (.pointer (some ⟨w.heap.size,0,none⟩))) (w.alloc (.cells z ty))):op.wp P a w K Q:=by
 unfold Oper.wp execOp
 simp only [ho,Instr.alloc,newVar,newRow,Sem.run_bind,hz,Result.andThen_ok]
 go_simp
 exact h
theorem beginL {P:Program} {Q:Exit→Act→World→Prop} {S:World→Prop} {id:Nat} {ops:Array Oper} {a:Act} {w:World} (hm:P.follows .mixedOrders=true)
    (h:∀ wd:World,Ext w wd→wpAnyH P .any ops Q S ops.size (Array.replicate ops.size false) a wd):(Code.region id ops true).wp P Q a w :=
 wp_region_held hm (h w.drew (Ext.refl w).drew)
theorem takeL {P:Program} {md:Region.Mode} {Q:Exit→Act→World→Prop} {S:World→Prop} {l rest:List Oper} {i:Nat} {oi:Oper} {v:Value} {fuel:Nat} {listed:Array Bool} {a:Act} {w:World} (hi:l.drop i=oi :: rest)
    (hs:Region.noSelect l.toArray=true) (hf:Region.free md l.toArray listed i=true) (hr:(Region.ready md l.toArray listed).contains i=true)
    (hQ:∀ c a w,Q (.panic c) (a.put oi.dst v) w→Q (.panic c) a w) (hy:YieldsIf P l.toArray S oi v a) (hS:S w)
    (h:wpAnyH P md l.toArray Q S fuel (listed.setIfInBounds i true) (a.put oi.dst v) w):wpAnyH P md l.toArray Q S (fuel+1) listed a w :=
 wpAnyH_take (by
  have e:(l.drop i)[0]?=some oi:=by rw [hi]; rfl
  rw [List.getElem?_drop,Nat.add_zero] at e
  simpa using e) hs hf hr hQ hy hS h
theorem ps:(∀ (a:Act) (d:Nat) (v:Value),a.put (some d) v={ a with tmps:=a.tmps.setIfInBounds d v })∧(∀ (a:Act) (v:Value),a.put none v=a)∧(∀ (l:List Value) (i:Nat) (v:Value),l.toArray.setIfInBounds i v=(l.set i v).toArray) ∧
    (∀ (x v:Value) (l:List Value),(x :: l).set 0 v=v :: l)∧(∀ (x v:Value) (l:List Value) (n:Nat),(x :: l).set (n+1) v=x :: l.set n v) :=
 ⟨fun _ _ _=>rfl,fun _ _=>rfl,fun _ _ _=>List.setIfInBounds_toArray ..,fun _ _ _=>rfl,fun _ _ _ _=>rfl⟩
theorem tL {P:Program} {md:Region.Mode} {Q:Exit→Act→World→Prop} {S:World→Prop} {l rest:List Oper} {oi:Oper} {fuel:Nat} {listed:Array Bool} {a:Act} {w:World} (i:Nat) (v:Value) (hi:l.drop i=oi :: rest) (hy:YieldsIf P l.toArray S oi v a) (hS:S w)
    (h:wpAnyH P md l.toArray Q S fuel (listed.setIfInBounds i true) (a.put oi.dst v) w)
    (hs:Region.noSelect l.toArray=true:=by kernel_rfl) (hf:Region.free md l.toArray listed i=true:=by kernel_rfl) (hr:(Region.ready md l.toArray listed).contains i=true:=by kernel_rfl)
    (hQ:∀ c a w,Q (.panic c) (a.put oi.dst v) w→Q (.panic c) a w:=by exact fun _ _ _ h=>h):wpAnyH P md l.toArray Q S (fuel+1) listed a w:=takeL hi hs hf hr hQ hy hS h
theorem tLp {P:Program} {md:Region.Mode} {Q:Exit→Act→World→Prop} {S:World→Prop} {l rest:List Oper} {oi:Oper} {fuel:Nat} {listed:Array Bool} {a:Act} {w:World} (i:Nat) (v:Value) (hi:l.drop i=oi :: rest) (hS:S w)
    (h:wpAnyH P md l.toArray Q S fuel (listed.setIfInBounds i true) (a.put oi.dst v) w)
    (hs:Region.noSelect l.toArray=true:=by kernel_rfl) (hf:Region.free md l.toArray listed i=true:=by kernel_rfl) (hr:(Region.ready md l.toArray listed).contains i=true:=by kernel_rfl)
    (hQ:∀ c a w,Q (.panic c) (a.put oi.dst v) w→Q (.panic c) a w:=by exact fun _ _ _ h=>h) (hy:YieldsIf P l.toArray S oi v a:=by exact Or.inl ⟨rfl,fun _ _=>rfl⟩):wpAnyH P md l.toArray Q S (fuel+1) listed a w:=takeL hi hs hf hr hQ hy hS h
theorem runL {P:Program} {md:Region.Mode} {Q:Exit→Act→World→Prop} {S:World→Prop} {l rest:List Oper} {i:Nat} {oi:Oper} {fuel:Nat} {listed:Array Bool} {a:Act} {w:World} (hi:l.drop i=oi :: rest)
    (hg:oi.guard=none) (hr:Region.ready md l.toArray listed=[i])
    (h:∀ K':Act→World→Prop,Shut (∀ a w,S w→(S w→wpAnyH P md l.toArray Q S fuel (listed.setIfInBounds i true) a w)→K' a w)→Oper.wp P oi a w K' Q):wpAnyH P md l.toArray Q S (fuel+1) listed a w:=by
 refine wpAnyH_ready hr (by simp) (AllReadyH.cons (o:=oi) ?_ (fun K hK=>?_) AllReadyH.nil)
 ·have e:(l.drop i)[0]?=some oi:=by rw [hi]; rfl
  rw [List.getElem?_drop,Nat.add_zero] at e
  simpa using e
 ·rw [if_pos (by simp [Region.wanted,hg])]
  exact h K hK
theorem runG {P:Program} {md:Region.Mode} {Q:Exit→Act→World→Prop} {S:World→Prop} {l rest:List Oper} {i:Nat} {oi:Oper} {fuel:Nat} {listed:Array Bool} {a:Act} {w:World} (hi:l.drop i=oi :: rest)
    (hw:Region.wanted oi (yielded l.toArray a.tmps)=true) (hr:Region.ready md l.toArray listed=[i])
    (h:∀ K':Act→World→Prop,Shut (∀ a w,S w→(S w→wpAnyH P md l.toArray Q S fuel (listed.setIfInBounds i true) a w)→K' a w)→Oper.wp P oi a w K' Q):wpAnyH P md l.toArray Q S (fuel+1) listed a w:=by
 refine wpAnyH_ready hr (by simp) (AllReadyH.cons (o:=oi) ?_ (fun K hK=>?_) AllReadyH.nil)
 ·have e:(l.drop i)[0]?=some oi:=by rw [hi]; rfl
  rw [List.getElem?_drop,Nat.add_zero] at e
  simpa using e
 ·rw [if_pos hw]
  exact h K hK
theorem wrap64 (n:Int) (h0:-9223372036854775808≤n) (h1:n < 9223372036854775808):IntKind.i64.wrap n=n:=by
 simp [IntKind.wrap,IntKind.bits,IntKind.signed]
 omega
theorem yieldsIf_build {P:Program} {ops:Array Oper} {S:World→Prop} {op:Oper} {a:Act} (hw:Region.wanted op (yielded ops a.tmps)=true) (t:TypeId) (parts:Array (Nat × Operand)) (ho:op.op=.build t parts)
    (vals:List (Nat × Value)) (hv:parts.toList.map (fun x=>(x.1,a.eval x.2))=vals) (cells:Array Value) (hb:P.built t vals=some cells):YieldsIf P ops S op (.agg cells) a :=
 .inl ⟨hw,fun w _=>by
  have e:(parts.map fun (i,x)=>(i,a.eval x)).toList=vals:=by rw [Array.toList_map]; exact hv
  unfold execOp
  simp only [ho,Sem.run_bind,run_build w t _ cells (by rw [e]; exact hb),Result.andThen_ok]
  rfl⟩
theorem yieldsIf_rowS {P:Program} {ops:Array Oper} {S:World→Prop} {op:Oper} {a:Act} (hw:Region.wanted op (yielded ops a.tmps)=true) (ty:TypeId) (x:Operand) (ho:op.op=.load ty x)
    (X:Nat) (hx:a.eval x=.pointer (some ⟨X,0,none⟩)) (C:Array Value) (t:TypeId) (d:TypeDesc) (hX:∀ W',S W'→W'.heap[X]?=some (.cells C t (0,0)))
    (hu:P.underlying ty=some d) (hd:(match d with | .struct _ | .array _ _=>true | _=>false)=true) (hi:(P.info? ty).map (·.size)=some C.size):YieldsIf P ops S op (.agg C) a :=
 .inl ⟨hw,fun W' hW'=>by
  have h:=hX W' hW'
  unfold execOp
  simp only [ho,hx,Instr.loadAt,Instr.sureAddr,Sem.run_bind,Sem.run_pure,Result.andThen_ok,run_loadVar_row W' X t ty C (0,0) d h hu hd hi]⟩
end Go.Proofs.Ytamnmjckhicapaa
namespace Go.Proofs.Ytamnmjckhicapaa
open Go.RowKit Go.BigFrame Go.WideShapes Go.ChangeShapes Go.Deep
set_option linter.unusedVariables false
set_option linter.unusedSimpArgs false
set_option maxRecDepth 100000
theorem Ext.mutE {a b c:World} {F:Nat→Prop} (h:Ext a b) (m:Mut F b c) (hF:∀ k,k < a.heap.size→¬ F k):Ext a c :=
 ⟨m.1.trans h.os,m.2.1.trans h.tape,m.2.2.1.trans h.output,Nat.le_trans h.size m.2.2.2.1,fun k hk=>(m.2.2.2.2 k (Nat.lt_of_lt_of_le hk h.size) (hF k hk)).trans (h.block k hk)⟩
theorem mut_setRow (w:World) (g:Nat) (cs:Array Value):Mut (fun n=>n=g) w (w.setRow g cs):=⟨rfl,rfl,rfl,by simp,fun k _ hf=>setRow_other w g k cs hf⟩
theorem st_at {P:Program} {ops:Array Oper} {rest:List Oper} {op:Oper} {a:Act} {w:World} {Q:Exit→Act→World→Prop} (hgd:op.guard=none) (hdst:op.dst=none) (ty:TypeId) (x y:Operand) (ho:op.op=.store ty x y)
    (g o:Nat) (u:Value) (vs cs cs':Array Value) (t:TypeId) (hx:a.eval x=.pointer (some ⟨g,o,none⟩)) (hy:a.eval y=u) (hv:u.cells=vs) (hX:w.heap[g]?=some (.cells cs t (0,0))) (hl:o+vs.size≤cs.size)
    (hi:(P.info? ty).map (·.size)=some vs.size) (h1:vs.toList.all (·.oneCell')=true) (hcs:(cs.toList.take o ++ vs.toList ++ cs.toList.drop (o+vs.size)).toArray=cs')
    (h:∀ w',w'.heap[g]?=some (.cells cs' t (0,0))→Mut (fun n=>n=g) w w'→wpList P ops Q rest a w'):wpList P ops Q (op :: rest) a w:=by
 subst hcs
 refine wpList_plain hgd fun K hK=>?_
 have h3:=run_storeCells_at (P:=P) g o t vs.toList 0 cs w hX (by simpa using hl) (fun v hv=>List.all_eq_true.1 h1 v hv)
 simp only [Nat.add_zero,Array.length_toList] at h3
 have hrun:(storeVar ty ⟨g,o,none⟩ u).run P w=.ok () (w.setRow g (cs.toList.take o ++ vs.toList ++ cs.toList.drop (o+vs.size)).toArray):=by
  cases hq:P.info? ty with
  | none=>simp [hq] at hi
  | some i =>
   have hs:vs.size=i.size:=by simp [hq] at hi; omega
   simp [storeVar,sizeOf,typeInfo,hq,hv,hs]
   simpa [hs] using h3
 unfold Oper.wp execOp
 simp only [ho,hx,hy,Instr.storeAt,Instr.sureAddr,Sem.run_bind,Sem.run_pure,Result.andThen_ok,hrun]
 refine hK _ _ ?_
 rw [show a.put op.dst undef=a by rw [hdst]; rfl]
 exact h _ (setRow_heap _ _ _ _ _ _ hX) (mut_setRow w g _)
theorem at_alloc (T:TypeId) {P:Program} {ops:Array Oper} {rest:List Oper} {a:Act} {w:World} {Q:Exit→Act→World→Prop} {d:Option Tmp} {ty:TypeId} {pos:String} {after:Array Edge}
    (h:wpList P ops Q ({ dst:=d,op:=.alloc T,type:=ty,pos:=pos,after:=after,guard:=none } :: rest) a w):wpList P ops Q ({ dst:=d,op:=.alloc T,type:=ty,pos:=pos,after:=after,guard:=none } :: rest) a w:=h
theorem al_zero {P:Program} {ops:Array Oper} {rest:List Oper} {op:Oper} {a:Act} {w:World} {Q:Exit→Act→World→Prop} (hgd:op.guard=none) (ty:TypeId) (ho:op.op=.alloc ty)
    (z:Array Value) (hz:∀ w,(zeroValue ty).run P w=.ok (.agg z) w) (h:∀ (X:Nat) (w':World),w'.heap[X]?=some (.cells z ty (0,0))→w.heap.size=X→Ext w w'→wpList P ops Q rest (a.put op.dst (.pointer (some ⟨X,0,none⟩))) w'):wpList P ops Q (op :: rest) a w :=
 wpList_plain hgd fun K hK=>wp_alloc_zero ty ho z (hz w) (hK _ _ (h _ _ (heap_alloc_new _ _) rfl ((Ext.refl w).alloc _)))
theorem wp_st_at {P:Program} {op:Oper} {a:Act} {w:World} {K:Act→World→Prop} {Q:Exit→Act→World→Prop} (hdst:op.dst=none) (ty:TypeId) (x y:Operand) (ho:op.op=.store ty x y)
    (g o:Nat) (u:Value) (vs cs cs':Array Value) (t:TypeId) (hx:a.eval x=.pointer (some ⟨g,o,none⟩)) (hy:a.eval y=u) (hv:u.cells=vs) (hX:w.heap[g]?=some (.cells cs t (0,0))) (hl:o+vs.size≤cs.size)
    (hi:(P.info? ty).map (·.size)=some vs.size) (h1:vs.toList.all (·.oneCell')=true) (hcs:(cs.toList.take o ++ vs.toList ++ cs.toList.drop (o+vs.size)).toArray=cs')
    (h:∀ w',w'.heap[g]?=some (.cells cs' t (0,0))→Mut (fun n=>n=g) w w'→K a w'):op.wp P a w K Q:=by
 subst hcs
 have h3:=run_storeCells_at (P:=P) g o t vs.toList 0 cs w hX (by simpa using hl) (fun v hv=>List.all_eq_true.1 h1 v hv)
 simp only [Nat.add_zero,Array.length_toList] at h3
 have hrun:(storeVar ty ⟨g,o,none⟩ u).run P w=.ok () (w.setRow g (cs.toList.take o ++ vs.toList ++ cs.toList.drop (o+vs.size)).toArray):=by
  cases hq:P.info? ty with
  | none=>simp [hq] at hi
  | some i =>
   have hs:vs.size=i.size:=by simp [hq] at hi; omega
   simp [storeVar,sizeOf,typeInfo,hq,hv,hs]
   simpa [hs] using h3
 unfold Oper.wp execOp
 simp only [ho,hx,hy,Instr.storeAt,Instr.sureAddr,Sem.run_bind,Sem.run_pure,Result.andThen_ok,hrun]
 have h4:K (a.put op.dst undef) (w.setRow g (cs.toList.take o ++ vs.toList ++ cs.toList.drop (o+vs.size)).toArray):=by
  rw [show a.put op.dst undef=a by rw [hdst]; rfl]
  exact h _ (setRow_heap _ _ _ _ _ _ hX) (mut_setRow w g _)
 exact h4
theorem wp_al_zero {P:Program} {op:Oper} {a:Act} {w:World} {K:Act→World→Prop} {Q:Exit→Act→World→Prop} (ty:TypeId) (ho:op.op=.alloc ty)
    (z:Array Value) (hz:∀ w,(zeroValue ty).run P w=.ok (.agg z) w) (h:∀ (X:Nat) (w':World),w'.heap[X]?=some (.cells z ty (0,0))→w.heap.size=X→Ext w w'→K (a.put op.dst (.pointer (some ⟨X,0,none⟩))) w'):op.wp P a w K Q :=
 wp_alloc_zero ty ho z (hz w) (h _ _ (heap_alloc_new _ _) rfl ((Ext.refl w).alloc _))
theorem runL2 {P:Program} {md:Region.Mode} {Q:Exit→Act→World→Prop} {S:World→Prop} {l r1 r2:List Oper} {i j:Nat} {oi oj:Oper} {fuel:Nat} {listed:Array Bool} {a:Act} {w:World} (hi:l.drop i=oi :: r1) (hgi:oi.guard=none)
    (hj:l.drop j=oj :: r2) (hgj:oj.guard=none) (hr:Region.ready md l.toArray listed=[i,j])
    (h1:∀ K':Act→World→Prop,Shut (∀ a w,S w→(S w→wpAnyH P md l.toArray Q S fuel (listed.setIfInBounds i true) a w)→K' a w)→Oper.wp P oi a w K' Q)
    (h2:∀ K':Act→World→Prop,Shut (∀ a w,S w→(S w→wpAnyH P md l.toArray Q S fuel (listed.setIfInBounds j true) a w)→K' a w)→Oper.wp P oj a w K' Q):wpAnyH P md l.toArray Q S (fuel+1) listed a w:=by
 have at_:∀ {n:Nat} {o:Oper} {r:List Oper},l.drop n=o :: r→l.toArray[n]?=some o:=fun {n o r} h=>by
  have e:(l.drop n)[0]?=some o:=by rw [h]; rfl
  rw [List.getElem?_drop,Nat.add_zero] at e
  simpa using e
 refine wpAnyH_ready hr (by simp) (AllReadyH.cons (o:=oi) (at_ hi) (fun K hK=>?_) (AllReadyH.cons (o:=oj) (at_ hj) (fun K hK=>?_) AllReadyH.nil))
 ·rw [if_pos (by simp [Region.wanted,hgi])]
  exact h1 K hK
 ·rw [if_pos (by simp [Region.wanted,hgj])]
  exact h2 K hK
end Go.Proofs.Ytamnmjckhicapaa
namespace Go.Proofs.Ytamnmjckhicapaa
open Go.RowKit Go.BigFrame Go.WideShapes Go.ChangeShapes Go.Deep
set_option linter.unusedVariables false
set_option linter.unusedSimpArgs false
set_option maxRecDepth 100000
section
variable {P:Program} {ops:Array Oper} {Q:Exit→Act→World→Prop} {md:Region.Mode} {S:World→Prop} {z:Nat}
def wpAnyZ (P:Program) (md:Region.Mode) (ops:Array Oper) (Q:Exit→Act→World→Prop) (S:World→Prop) (z:Nat):Nat→Array Bool→Act→World→Prop
 | 0,listed,a,w=>Region.ready md ops listed=[]∧Q .normal a w
 | fuel+1,listed,a,w =>
  (Region.ready md ops listed=[]→Q .normal a w) ∧
  ∀ i ∈ Region.ready md ops listed,wpOp P ops Q i (fun a' w'=>((listed.setIfInBounds i true).getD z true=false→S w')∧wpAnyZ P md ops Q S z fuel (listed.setIfInBounds i true) a' w') a w
theorem wpAny_of_z:∀ (fuel:Nat) (listed:Array Bool) (a:Act) (w:World),wpAnyZ P md ops Q S z fuel listed a w→wpAny P md ops Q fuel listed a w
 | 0,_,_,_,h=>h
 | fuel+1,_,_,_,h=>⟨h.1,fun i hi=>wpOp_mono (fun a' w' h'=>wpAny_of_z fuel _ a' w' h'.2) (h.2 i hi)⟩
theorem getD_set_z (L:Array Bool) (i:Nat) (h:L.getD z true=true):(L.setIfInBounds i true).getD z true=true:=by
 by_cases hz:i=z
 ·subst hz
  by_cases hl:i < L.size
  ·simp [Array.getD,hl]
  ·simp [Array.getD,hl]
 ·rw [getD_set_ne true hz]; exact h
theorem wpAnyZ_of_H:∀ (fuel:Nat) (listed:Array Bool) (a:Act) (w:World),listed.getD z true=true→wpAnyH P md ops Q (fun _=>True) fuel listed a w→wpAnyZ P md ops Q S z fuel listed a w
 | 0,_,_,_,_,h=>h
 | fuel+1,listed,_,_,hz,h=>⟨h.1,fun i hi=>wpOp_mono (fun a' w' h'=>⟨fun h0=>absurd (getD_set_z listed i hz) (by rw [h0]; decide),wpAnyZ_of_H fuel _ a' w' (getD_set_z listed i hz) h'.2⟩) (h.2 i hi)⟩
theorem wpAnyZ_first {i:Nat} {oi oz:Oper} {v:Value} (hi:ops[i]?=some oi) (hz:ops[z]?=some oz) (hzi:∃ e ∈ oz.after,Region.binds md e=true∧e.on=i) (hne:z ≠ i)
    (hsel:∀ (j:Nat) (o:Oper) cs b,ops[j]?=some o→o.op ≠ .select cs b) (hQ:∀ c a w,Q (.panic c) (a.put oi.dst v) w→Q (.panic c) a w) :
    ∀ (fuel:Nat) (listed:Array Bool) (a:Act) (w:World),listed.getD z true=false →
     (∀ j oj,ops[j]?=some oj→j ≠ i→listed.getD j true=false→(∀ e ∈ oj.after,Region.binds md e=true→e.on ≠ i)→oi.apart ops oj=true) →
     i ∈ Region.ready md ops listed→YieldsIf P ops S oi v a→S w →
     wpAnyZ P md ops Q S z fuel (listed.setIfInBounds i true) (a.put oi.dst v) w→wpAnyZ P md ops Q S z (fuel+1) listed a w:=by
 intro fuel
 induction fuel with
 | zero =>
  intro listed a w _ _ hr hy hS H
  refine ⟨fun h=>(by rw [h] at hr; cases hr),fun j hj=>?_⟩
  by_cases hji:j=i
  ·subst hji; exact hy.wpOp hi hS ⟨fun _=>hS,H⟩
  ·have:=ready_mono hj hji
   rw [H.1] at this
   cases this
 | succ fuel ih =>
  intro listed a w hzl hfree hr hy hS H
  refine ⟨fun h=>(by rw [h] at hr; cases hr),fun j hj=>?_⟩
  by_cases hji:j=i
  ·subst hji; exact hy.wpOp hi hS ⟨fun _=>hS,H⟩
  ·have h1:=H.2 j (ready_mono hj hji)
   obtain ⟨hjun,oj,hoj,hall⟩:=mem_ready.1 hj
   have hnot:∀ e ∈ oj.after,Region.binds md e=true→e.on ≠ i:=fun e he hb heq=>by
    have h1:=hall e he hb
    have h0:=(mem_ready.1 hr).1
    rw [heq] at h1
    rcases Nat.lt_or_ge i listed.size with h' | h'
    ·simp [h'] at h0 h1; rw [h0] at h1; cases h1
    ·simp [Array.getElem?_eq_none h'] at h1
   have hjz:j ≠ z:=fun e=>by
    subst e
    obtain ⟨e,he,hb,hon⟩:=hzi
    rw [hoj] at hz
    cases hz
    exact hnot e he hb hon
   have h2:=wpOp_putIf hoj (hfree j oj hoj hji hjun hnot) (fun cs b=>hsel i oi cs b hi) (fun cs b=>hsel j oj cs b hoj) hQ hy h1
   have hfree':∀ k ok,ops[k]?=some ok→k ≠ i→(listed.setIfInBounds j true).getD k true=false →
       (∀ e ∈ ok.after,Region.binds md e=true→e.on ≠ i)→oi.apart ops ok=true:=fun k ok hk hki hun hno=>by
    refine hfree k ok hk hki ?_ hno
    by_cases hjk:j=k
    ·subst hjk; exact hjun
    ·rw [getD_set_ne true hjk] at hun; exact hun
   have hzj:(listed.setIfInBounds j true).getD z true=false:=by rw [getD_set_ne true hjz]; exact hzl
   have hzij:((listed.setIfInBounds i true).setIfInBounds j true).getD z true=false:=by rw [getD_set_ne true hjz,getD_set_ne true (Ne.symm hne)]; exact hzl
   refine wpOp_mono (fun a' w' h3=>⟨fun _=>h3.2.1 hzij,ih (listed.setIfInBounds j true) a' w' hzj hfree' (ready_mono hr (Ne.symm hji)) h3.1 (h3.2.1 hzij) ?_⟩) h2
   rw [Array.setIfInBounds_comm _ _ hji]
   exact h3.2.2
end
theorem beginZ {P:Program} {Q:Exit→Act→World→Prop} {S:World→Prop} {id:Nat} {ops:Array Oper} {a:Act} {w:World} (z:Nat) (hm:P.follows .mixedOrders=true)
    (h:∀ wd:World,Ext w wd→wpAnyZ P .any ops Q S z ops.size (Array.replicate ops.size false) a wd):(Code.region id ops true).wp P Q a w :=
 wp_region_any hm (wpAny_of_z _ _ _ _ (h w.drew (Ext.refl w).drew))
theorem at_drop {l rest:List Oper} {i:Nat} {o:Oper} (hi:l.drop i=o :: rest):l.toArray[i]?=some o:=by
 have e:(l.drop i)[0]?=some o:=by rw [hi]; rfl
 rw [List.getElem?_drop,Nat.add_zero] at e
 simpa using e
theorem takeZ {P:Program} {md:Region.Mode} {Q:Exit→Act→World→Prop} {S:World→Prop} {l rest rz:List Oper} {i z:Nat} {oi oz:Oper} {v:Value} {fuel:Nat} {listed:Array Bool} {a:Act} {w:World} (hi:l.drop i=oi :: rest) (hz:l.drop z=oz :: rz)
    (hzi:(oz.after.toList.any fun e=>Region.binds md e && e.on == i)=true) (hne:(z == i)=false) (hzl:listed.getD z true=false)
    (hs:Region.noSelect l.toArray=true) (hf:Region.free md l.toArray listed i=true) (hr:(Region.ready md l.toArray listed).contains i=true)
    (hQ:∀ c a w,Q (.panic c) (a.put oi.dst v) w→Q (.panic c) a w) (hy:YieldsIf P l.toArray S oi v a) (hS:S w)
    (h:wpAnyZ P md l.toArray Q S z fuel (listed.setIfInBounds i true) (a.put oi.dst v) w):wpAnyZ P md l.toArray Q S z (fuel+1) listed a w:=by
 refine wpAnyZ_first (at_drop hi) (at_drop hz) ?_ (by simpa using hne) (Region.noSelect_spec hs) hQ fuel listed a w hzl (Region.free_spec (at_drop hi) hf) (by simpa using hr) hy hS h
 obtain ⟨e,he,h2⟩:=List.any_eq_true.1 hzi
 simp only [Bool.and_eq_true,beq_iff_eq] at h2
 exact ⟨e,by simpa using he,h2.1,h2.2⟩
theorem runZ {P:Program} {md:Region.Mode} {Q:Exit→Act→World→Prop} {S:World→Prop} {l rest:List Oper} {i z:Nat} {oi:Oper} {fuel:Nat} {listed:Array Bool} {a:Act} {w:World} (hi:l.drop i=oi :: rest)
    (hg:oi.guard=none) (hr:Region.ready md l.toArray listed=[i])
    (h:∀ K':Act→World→Prop,Shut (∀ a w,S w→(S w→wpAnyZ P md l.toArray Q S z fuel (listed.setIfInBounds i true) a w)→K' a w)→Oper.wp P oi a w K' Q):wpAnyZ P md l.toArray Q S z (fuel+1) listed a w:=by
 refine ⟨fun h0=>absurd (hr ▸ h0) (by simp),fun j hj=>?_⟩
 rw [hr] at hj
 obtain rfl:j=i:=by simpa using hj
 unfold wpOp
 simp only [at_drop hi]
 rw [if_pos (by simp [Region.wanted,hg])]
 exact .inl (h _ (show ∀ a w,_ from fun a w hS hK=>⟨fun _=>hS,hK hS⟩))
theorem runZl {P:Program} {md:Region.Mode} {Q:Exit→Act→World→Prop} {S:World→Prop} {l rest:List Oper} {z:Nat} {oz:Oper} {fuel:Nat} {listed:Array Bool} {a:Act} {w:World} (hi:l.drop z=oz :: rest)
    (hg:oz.guard=none) (hr:Region.ready md l.toArray listed=[z])
    (h:∀ K':Act→World→Prop,Shut (∀ a w,wpAnyH P md l.toArray Q (fun _=>True) fuel (listed.setIfInBounds z true) a w→K' a w)→Oper.wp P oz a w K' Q):wpAnyZ P md l.toArray Q S z (fuel+1) listed a w:=by
 refine ⟨fun h0=>absurd (hr ▸ h0) (by simp),fun j hj=>?_⟩
 rw [hr] at hj
 obtain rfl:j=z:=by simpa using hj
 have hz:(listed.setIfInBounds j true).getD j true=true:=by
  by_cases hl:j < listed.size
  ·simp [Array.getD,hl]
  ·simp [Array.getD,hl]
 unfold wpOp
 simp only [at_drop hi]
 rw [if_pos (by simp [Region.wanted,hg])]
 exact .inl (h _ (show ∀ a w,_ from fun a w hK=>⟨fun h0=>absurd hz (by rw [h0]; decide),wpAnyZ_of_H _ _ _ _ hz hK⟩))
theorem at_build (T:TypeId) {P:Program} {ops:Array Oper} {rest:List Oper} {a:Act} {w:World} {Q:Exit→Act→World→Prop} {d:Option Tmp} {x:Array (Nat × Operand)} {ty:TypeId} {pos:String} {af:Array Edge}
    (h:wpList P ops Q ({ dst:=d,op:=.build T x,type:=ty,pos:=pos,after:=af,guard:=none } :: rest) a w):wpList P ops Q ({ dst:=d,op:=.build T x,type:=ty,pos:=pos,after:=af,guard:=none } :: rest) a w:=h
theorem at_slice (T:TypeId) {P:Program} {ops:Array Oper} {rest:List Oper} {a:Act} {w:World} {Q:Exit→Act→World→Prop} {d:Option Tmp} {n:Nat} {x:Array (Nat × Operand)} {ty:TypeId} {pos:String} {af:Array Edge}
    (h:wpList P ops Q ({ dst:=d,op:=.buildSlice T n x,type:=ty,pos:=pos,after:=af,guard:=none } :: rest) a w):wpList P ops Q ({ dst:=d,op:=.buildSlice T n x,type:=ty,pos:=pos,after:=af,guard:=none } :: rest) a w:=h
theorem wpList_build2 {P:Program} {ops:Array Oper} {rest:List Oper} {o:Oper} {a:Act} {w:World} {Q:Exit→Act→World→Prop} (hg:o.guard=none) (t:TypeId) (parts:Array (Nat × Operand)) (ho:o.op=.build t parts)
    (vals:List (Nat × Value)) (hv:parts.toList.map (fun x=>(x.1,a.eval x.2))=vals) (cells:Array Value) (hb:P.built t vals=some cells)
    (h:wpList P ops Q rest (a.put o.dst (.agg cells)) w):wpList P ops Q (o :: rest) a w:=by
 have e:(parts.map fun (i,x)=>(i,a.eval x)).toList=vals:=by rw [Array.toList_map]; exact hv
 exact wpList_build hg t parts ho (by rw [e,hb]; rfl) (by rw [e,hb]; exact h)
end Go.Proofs.Ytamnmjckhicapaa
namespace Go.Proofs.Ytamnmjckhicapaa
open Go.RowKit Go.BigFrame Go.WideShapes Go.ChangeShapes Go.Deep
set_option linter.unusedVariables false
set_option linter.unusedSimpArgs false
set_option maxRecDepth 100000
section
variable {P:Program} {ops:Array Oper} {Q:Exit→Act→World→Prop} {md:Region.Mode} {S S2:World→Prop} {z:Nat}
def wpAnyW (P:Program) (md:Region.Mode) (ops:Array Oper) (Q:Exit→Act→World→Prop) (S S2:World→Prop) (z:Nat):Nat→Array Bool→Act→World→Prop
 | 0,listed,a,w=>Region.ready md ops listed=[]∧Q .normal a w
 | fuel+1,listed,a,w =>
  (Region.ready md ops listed=[]→Q .normal a w) ∧
  ∀ i ∈ Region.ready md ops listed,wpOp P ops Q i (fun a' w'=>(S2 w'∧((listed.setIfInBounds i true).getD z true=false→S w'))∧wpAnyW P md ops Q S S2 z fuel (listed.setIfInBounds i true) a' w') a w
theorem wpAny_of_w:∀ (fuel:Nat) (listed:Array Bool) (a:Act) (w:World),wpAnyW P md ops Q S S2 z fuel listed a w→wpAny P md ops Q fuel listed a w
 | 0,_,_,_,h=>h
 | fuel+1,_,_,_,h=>⟨h.1,fun i hi=>wpOp_mono (fun a' w' h'=>wpAny_of_w fuel _ a' w' h'.2) (h.2 i hi)⟩
theorem wpAnyW_of_H:∀ (fuel:Nat) (listed:Array Bool) (a:Act) (w:World),listed.getD z true=true→wpAnyH P md ops Q S2 fuel listed a w→wpAnyW P md ops Q S S2 z fuel listed a w
 | 0,_,_,_,_,h=>h
 | fuel+1,listed,_,_,hz,h=>⟨h.1,fun i hi=>wpOp_mono (fun a' w' h'=>⟨⟨h'.1,fun h0=>absurd (getD_set_z listed i hz) (by rw [h0]; decide)⟩,wpAnyW_of_H fuel _ a' w' (getD_set_z listed i hz) h'.2⟩) (h.2 i hi)⟩
theorem wpAnyW_first {i:Nat} {oi oz:Oper} {v:Value} (hi:ops[i]?=some oi) (hz:ops[z]?=some oz) (hzi:∃ e ∈ oz.after,Region.binds md e=true∧e.on=i) (hne:z ≠ i)
    (hsel:∀ (j:Nat) (o:Oper) cs b,ops[j]?=some o→o.op ≠ .select cs b) (hQ:∀ c a w,Q (.panic c) (a.put oi.dst v) w→Q (.panic c) a w) :
    ∀ (fuel:Nat) (listed:Array Bool) (a:Act) (w:World),listed.getD z true=false →
     (∀ j oj,ops[j]?=some oj→j ≠ i→listed.getD j true=false→(∀ e ∈ oj.after,Region.binds md e=true→e.on ≠ i)→oi.apart ops oj=true) →
     i ∈ Region.ready md ops listed→YieldsIf P ops S oi v a→S w→S2 w →
     wpAnyW P md ops Q S S2 z fuel (listed.setIfInBounds i true) (a.put oi.dst v) w→wpAnyW P md ops Q S S2 z (fuel+1) listed a w:=by
 intro fuel
 induction fuel with
 | zero =>
  intro listed a w _ _ hr hy hS h2 H
  refine ⟨fun h=>(by rw [h] at hr; cases hr),fun j hj=>?_⟩
  by_cases hji:j=i
  ·subst hji; exact hy.wpOp hi hS ⟨⟨h2,fun _=>hS⟩,H⟩
  ·have:=ready_mono hj hji
   rw [H.1] at this
   cases this
 | succ fuel ih =>
  intro listed a w hzl hfree hr hy hS hS2 H
  refine ⟨fun h=>(by rw [h] at hr; cases hr),fun j hj=>?_⟩
  by_cases hji:j=i
  ·subst hji; exact hy.wpOp hi hS ⟨⟨hS2,fun _=>hS⟩,H⟩
  ·have h1:=H.2 j (ready_mono hj hji)
   obtain ⟨hjun,oj,hoj,hall⟩:=mem_ready.1 hj
   have hnot:∀ e ∈ oj.after,Region.binds md e=true→e.on ≠ i:=fun e he hb heq=>by
    have h1:=hall e he hb
    have h0:=(mem_ready.1 hr).1
    rw [heq] at h1
    rcases Nat.lt_or_ge i listed.size with h' | h'
    ·simp [h'] at h0 h1; rw [h0] at h1; cases h1
    ·simp [Array.getElem?_eq_none h'] at h1
   have hjz:j ≠ z:=fun e=>by
    subst e
    obtain ⟨e,he,hb,hon⟩:=hzi
    rw [hoj] at hz
    cases hz
    exact hnot e he hb hon
   have h2:=wpOp_putIf hoj (hfree j oj hoj hji hjun hnot) (fun cs b=>hsel i oi cs b hi) (fun cs b=>hsel j oj cs b hoj) hQ hy h1
   have hfree':∀ k ok,ops[k]?=some ok→k ≠ i→(listed.setIfInBounds j true).getD k true=false →
       (∀ e ∈ ok.after,Region.binds md e=true→e.on ≠ i)→oi.apart ops ok=true:=fun k ok hk hki hun hno=>by
    refine hfree k ok hk hki ?_ hno
    by_cases hjk:j=k
    ·subst hjk; exact hjun
    ·rw [getD_set_ne true hjk] at hun; exact hun
   have hzj:(listed.setIfInBounds j true).getD z true=false:=by rw [getD_set_ne true hjz]; exact hzl
   have hzij:((listed.setIfInBounds i true).setIfInBounds j true).getD z true=false:=by rw [getD_set_ne true hjz,getD_set_ne true (Ne.symm hne)]; exact hzl
   refine wpOp_mono (fun a' w' h3=>⟨⟨h3.2.1.1,fun _=>h3.2.1.2 hzij⟩,ih (listed.setIfInBounds j true) a' w' hzj hfree' (ready_mono hr (Ne.symm hji)) h3.1 (h3.2.1.2 hzij) h3.2.1.1 ?_⟩) h2
   rw [Array.setIfInBounds_comm _ _ hji]
   exact h3.2.2
end
theorem beginW {P:Program} {Q:Exit→Act→World→Prop} {S S2:World→Prop} {id:Nat} {ops:Array Oper} {a:Act} {w:World} (z:Nat) (hm:P.follows .mixedOrders=true)
    (h:∀ wd:World,Ext w wd→wpAnyW P .any ops Q S S2 z ops.size (Array.replicate ops.size false) a wd):(Code.region id ops true).wp P Q a w :=
 wp_region_any hm (wpAny_of_w _ _ _ _ (h w.drew (Ext.refl w).drew))
theorem takeW {P:Program} {md:Region.Mode} {Q:Exit→Act→World→Prop} {S S2:World→Prop} {l rest rz:List Oper} {i z:Nat} {oi oz:Oper} {v:Value} {fuel:Nat} {listed:Array Bool} {a:Act} {w:World} (hi:l.drop i=oi :: rest) (hz:l.drop z=oz :: rz)
    (hzi:(oz.after.toList.any fun e=>Region.binds md e && e.on == i)=true) (hne:(z == i)=false) (hzl:listed.getD z true=false)
    (hs:Region.noSelect l.toArray=true) (hf:Region.free md l.toArray listed i=true) (hr:(Region.ready md l.toArray listed).contains i=true)
    (hQ:∀ c a w,Q (.panic c) (a.put oi.dst v) w→Q (.panic c) a w) (hy:YieldsIf P l.toArray S oi v a) (hS:S w) (hS2:S2 w)
    (h:wpAnyW P md l.toArray Q S S2 z fuel (listed.setIfInBounds i true) (a.put oi.dst v) w):wpAnyW P md l.toArray Q S S2 z (fuel+1) listed a w:=by
 refine wpAnyW_first (at_drop hi) (at_drop hz) ?_ (by simpa using hne) (Region.noSelect_spec hs) hQ fuel listed a w hzl (Region.free_spec (at_drop hi) hf) (by simpa using hr) hy hS hS2 h
 obtain ⟨e,he,h2⟩:=List.any_eq_true.1 hzi
 simp only [Bool.and_eq_true,beq_iff_eq] at h2
 exact ⟨e,by simpa using he,h2.1,h2.2⟩
theorem runW {P:Program} {md:Region.Mode} {Q:Exit→Act→World→Prop} {S S2:World→Prop} {l rest:List Oper} {i z:Nat} {oi:Oper} {fuel:Nat} {listed:Array Bool} {a:Act} {w:World} (hi:l.drop i=oi :: rest)
    (hg:oi.guard=none) (hr:Region.ready md l.toArray listed=[i]) (h12:∀ w,S w→S2 w)
    (h:∀ K':Act→World→Prop,Shut (∀ a w,S w→(S w→wpAnyW P md l.toArray Q S S2 z fuel (listed.setIfInBounds i true) a w)→K' a w)→Oper.wp P oi a w K' Q):wpAnyW P md l.toArray Q S S2 z (fuel+1) listed a w:=by
 refine ⟨fun h0=>absurd (hr ▸ h0) (by simp),fun j hj=>?_⟩
 rw [hr] at hj
 obtain rfl:j=i:=by simpa using hj
 unfold wpOp
 simp only [at_drop hi]
 rw [if_pos (by simp [Region.wanted,hg])]
 exact .inl (h _ (show ∀ a w,_ from fun a w hS hK=>⟨⟨h12 w hS,fun _=>hS⟩,hK hS⟩))
theorem runWl {P:Program} {md:Region.Mode} {Q:Exit→Act→World→Prop} {S S2:World→Prop} {l rest:List Oper} {z:Nat} {oz:Oper} {fuel:Nat} {listed:Array Bool} {a:Act} {w:World} (hi:l.drop z=oz :: rest)
    (hg:oz.guard=none) (hr:Region.ready md l.toArray listed=[z])
    (h:∀ K':Act→World→Prop,Shut (∀ a w,S2 w→(S2 w→wpAnyH P md l.toArray Q S2 fuel (listed.setIfInBounds z true) a w)→K' a w)→Oper.wp P oz a w K' Q):wpAnyW P md l.toArray Q S S2 z (fuel+1) listed a w:=by
 refine ⟨fun h0=>absurd (hr ▸ h0) (by simp),fun j hj=>?_⟩
 rw [hr] at hj
 obtain rfl:j=z:=by simpa using hj
 have hz:(listed.setIfInBounds j true).getD j true=true:=by
  by_cases hl:j < listed.size
  ·simp [Array.getD,hl]
  ·simp [Array.getD,hl]
 unfold wpOp
 simp only [at_drop hi]
 rw [if_pos (by simp [Region.wanted,hg])]
 exact .inl (h _ (show ∀ a w,_ from fun a w h2 hK=>⟨⟨h2,fun h0=>absurd hz (by rw [h0]; decide)⟩,wpAnyW_of_H _ _ _ _ hz (hK h2)⟩))
end Go.Proofs.Ytamnmjckhicapaa
namespace Go.Proofs.Ytamnmjckhicapaa
open Go.RowKit Go.BigFrame Go.WideShapes Go.ChangeShapes Go.Deep
set_option linter.unusedVariables false
set_option linter.unusedSimpArgs false
set_option maxRecDepth 100000
structure Hp where
 f:Int
 t:Int
 c:Int
def Hp.L (h:Hp):List Value:=[.int .i64 h.f,.int .i64 h.t,.int .u32 h.c]
def flatH (l:List Hp):List Value:=l.flatMap Hp.L
theorem flatH_cons (h:Hp) (l:List Hp):flatH (h :: l)=h.L ++ flatH l:=by simp [flatH]
theorem flatH_snoc (l:List Hp) (h:Hp):flatH (l ++ [h])=flatH l ++ h.L:=by simp [flatH]
theorem flatH_at:∀ (l:List Hp) (j:Nat) (h:Hp),l[j]?=some h→((flatH l).drop (j*3)).take 3=h.L
 | [],j,h,hj=>by simp at hj
 | x :: l,0,h,hj=>by
  obtain rfl:x=h:=by simpa using hj
  rw [flatH_cons]
  rfl
 | x :: l,j+1,h,hj=>by
  have ih:=flatH_at l j h (by simpa using hj)
  have e:x.L.length=3:=rfl
  rw [flatH_cons,List.drop_append,show x.L.drop ((j+1)*3)=[] from List.drop_eq_nil_of_le (by rw [e]; omega),List.nil_append,e,show (j+1)*3 - 3=j*3 by omega]
  exact ih
def Hp.ok (n:Nat) (h:Hp):Bool:=decide (0≤h.f) && decide (h.f < n) && decide (0≤h.t) && decide (h.t < n)
def leaveF (n:Nat) (L:List Hp) (f:Nat):List Hp:=L.filter fun h=>h.ok n && h.f == f
theorem leaveF_snoc (n:Nat) (L:List Hp) (h:Hp) (f:Nat):leaveF n (L ++ [h]) f=leaveF n L f ++ (if (h.ok n && h.f == f)=true then [h] else []):=by
 unfold leaveF
 rw [List.filter_append]
 congr 1
 cases hb:(h.ok n && h.f == f) <;> simp [List.filter,hb]
theorem leaveF_len (n:Nat) (L:List Hp) (f:Nat):(leaveF n L f).length≤L.length:=List.length_filter_le _ _
def HopsAt (w:World) (v:Value) (L:List Hp):Prop:=∃ a cap,v=.slice a L.length cap∧L.length≤9223372036854775807∧(0 < L.length→∃ b off,a=some ⟨b,off,none⟩∧b < w.heap.size∧L.length≤cap∧cap≤9223372036854775807∧w.rangeAt b off (flatH L))
theorem rangeR_ext {w w':World} {b off:Nat} {xs:List Value} (h:w.rangeAt b off xs) (hx:Ext w w') (hb:b < w.heap.size):w'.rangeAt b off xs:=fun j v hv=>(hx.cell hb).trans (h j v hv)
theorem HopsAt.ext {w w':World} {v:Value} {L:List Hp} (h:HopsAt w v L) (hx:Ext w w'):HopsAt w' v L:=by
 obtain ⟨a,cap,e,hm,hf⟩:=h
 refine ⟨a,cap,e,hm,fun h0=>?_⟩
 obtain ⟨b,off,e1,hb,h1,h2,h3⟩:=hf h0
 exact ⟨b,off,e1,Nat.lt_of_lt_of_le hb hx.size,h1,h2,rangeR_ext h3 hx hb⟩
theorem own_keep2 {w w':World} {base size n:Nat} {e:TypeId} {v:Value} {xs:List Value} (h:w.ownsRow base e size v n xs) (hk:∀ g,v.ownBlock=some g→w'.heap[g]?=w.heap[g]?):w'.ownsRow base e size v n xs:=by
 refine ⟨h.1,?_⟩
 rcases h.2 with h0 | ⟨g,cap,cur,e1,e2,e3,rest⟩
 ·exact .inl h0
 ·exact .inr ⟨g,cap,cur,e1,e2,(hk g (by rw [e1]; rfl)).trans e3,rest⟩
theorem own_lt2 {w:World} {base size n:Nat} {e:TypeId} {v:Value} {xs:List Value} (h:w.ownsRow base e size v n xs) {g:Nat} (hg:v.ownBlock=some g):base≤g∧g < w.heap.size:=by
 rcases h.2 with ⟨rfl,-⟩ | ⟨g2,cap,cur,rfl,e2,e3,-⟩
 ·simp [Value.ownBlock] at hg
 ·obtain rfl:g2=g:=by simpa [Value.ownBlock] using hg
  exact ⟨e2,heap_lt e3⟩
structure Rows (w:World) (base T n:Nat) (S:Nat→List Hp) (vs:List Value):Prop where
 row:w.heap[T]?=some (.cells vs.toArray 72 (0,0))
 len:vs.length=n
 lt:T < base
 own:∀ f,f < n→w.ownsRow base 100 3 (vs.getD f undef) (S f).length (flatH (S f))
 apart:∀ f g,f < n→g < n→f ≠ g→∀ m,(vs.getD f undef).ownBlock=some m→(vs.getD g undef).ownBlock ≠ some m
theorem Rows.keep {w w':World} {base T n:Nat} {S:Nat→List Hp} {vs:List Value} (h:Rows w base T n S vs) (hT:w'.heap[T]?=w.heap[T]?) (hk:∀ f g,f < n→(vs.getD f undef).ownBlock=some g→w'.heap[g]?=w.heap[g]?):Rows w' base T n S vs :=
 ⟨hT.trans h.row,h.len,h.lt,fun f hf=>own_keep2 (h.own f hf) (fun g hg=>hk f g hf hg),h.apart⟩
theorem Rows.ext {w w':World} {base T n:Nat} {S:Nat→List Hp} {vs:List Value} (h:Rows w base T n S vs) (hx:Ext w w'):Rows w' base T n S vs :=
 h.keep (hx.block _ (heap_lt h.row)) (fun f g hf hg=>hx.block _ (own_lt2 (h.own f hf) hg).2)
theorem Rows.put {w w1 w2:World} {base T n f:Nat} {S:Nat→List Hp} {vs:List Value} (h:Rows w base T n S vs) (hf:f < n) {x:Hp} {v':Value} (ho:w1.ownsRow base 100 3 v' ((S f).length+1) (flatH (S f) ++ x.L))
    (hg:∀ m,m < w.heap.size→(vs.getD f undef).ownBlock ≠ some m→w1.heap[m]?=w.heap[m]?) (hv:v'.ownBlock=(vs.getD f undef).ownBlock∨∃ m,v'.ownBlock=some m∧w.heap.size≤m)
    (hT:w2.heap[T]?=some (.cells (vs.set f v').toArray 72 (0,0))) (hm:∀ m,m < w1.heap.size→m ≠ T→w2.heap[m]?=w1.heap[m]?) :
    Rows w2 base T n (fun g=>if g=f then S f ++ [x] else S g) (vs.set f v'):=by
 have hlt:=h.lt
 have hsz:∀ g m,g < n→(vs.getD g undef).ownBlock=some m→base≤m∧m < w.heap.size:=fun g m hg2 hgm=>own_lt2 (h.own g hg2) hgm
 have hget:∀ g,(vs.set f v').getD g undef=if g=f then v' else vs.getD g undef:=fun g=>by
  simp only [List.getD_eq_getElem?_getD]
  by_cases e:g=f
  ·subst e
   rw [if_pos rfl,List.getElem?_set_self (by rw [h.len]; exact hf)]
   rfl
  ·rw [if_neg e,List.getElem?_set_ne (Ne.symm e)]
 refine ⟨hT,by rw [List.length_set]; exact h.len,hlt,fun g hgn=>?_,fun a b ha hb hab m hma=>?_⟩
 ·rw [hget]
  by_cases e:g=f
  ·subst e
   rw [if_pos rfl]
   simp only [if_true]
   rw [List.length_append,flatH_snoc]
   refine own_keep2 ho (fun m hmv=>?_)
   obtain ⟨b1,b2⟩:=own_lt2 ho hmv
   exact hm m b2 (by omega)
  ·rw [if_neg e]
   simp only [if_neg e]
   refine own_keep2 (h.own g hgn) (fun m hgm=>?_)
   obtain ⟨b1,b2⟩:=hsz g m hgn hgm
   have hne:(vs.getD f undef).ownBlock ≠ some m:=h.apart g f hgn hf e m hgm
   have h1:=hg m b2 hne
   have b3:m < w1.heap.size:=by
    have:=(Array.getElem?_eq_some_iff.1 (h1.trans (Array.getElem?_eq_getElem b2))).1
    exact this
   exact (hm m b3 (by omega)).trans h1
 ·rw [hget] at hma ⊢
  by_cases e1:a=f
  ·subst e1
   rw [if_pos rfl] at hma
   rw [if_neg (Ne.symm hab)]
   rcases hv with hv | ⟨q,hq,hqs⟩
   ·rw [hv] at hma
    exact h.apart a b ha hb hab m hma
   ·rw [hq] at hma
    obtain rfl:q=m:=by simpa using hma
    intro hbm
    have:=hsz b q hb hbm
    omega
  ·rw [if_neg e1] at hma
   by_cases e2:b=f
   ·subst e2
    rw [if_pos rfl]
    rcases hv with hv | ⟨q,hq,hqs⟩
    ·rw [hv]
     exact h.apart a b ha hb hab m hma
    ·rw [hq]
     intro hbm
     obtain rfl:q=m:=by simpa using hbm
     have:=hsz a q ha hma
     omega
   ·rw [if_neg e2]
    exact h.apart a b ha hb hab m hma
end Go.Proofs.Ytamnmjckhicapaa
