/- Part 2 of what BridgeRests stands on. No statement is proved here. -/
import Derived.WalkKit
import Derived.ProofKit
import Derived.OpenShut
import Derived.BigQuiet
import Derived.Lib.Hide
import Derived.LoopN
import Derived.ChangeSame
import Derived.Deep.Draws
import Derived.Deep.Fields
import Derived.WideKeyArgs
import Derived.Test.YtpanapepcbbagaaGreatRows
import Derived.Laws.StructEq
import Derived.Deep.MidRow
import Derived.Deep.Slices
import Derived.Laws.AppendOwn
import Derived.Deep.WholeRow
import Derived.Deep.AppendLies
import Derived.Laws.AppendOwnNone
import Derived.OwnWalk
import Derived.StillTailTactics
import Derived.Deep.RegionHeld3
import Derived.Great.BuildSlice
import Derived.Deep.Light
import Derived.Laws.CopyRow
import Derived.Test.YtpanapepcbbagaaGreatBva
set_option linter.unusedVariables false
set_option linter.unusedSimpArgs false
set_option maxRecDepth 100000
set_option maxHeartbeats 8000000
namespace Go.Proofs.YtpanapepcbbagaaGreat
open Go.RowKit Go.BigFrame Go.WideShapes Go.ChangeShapes Go.Deep
theorem oZ(w:World)(g:Nat)(cs:Array Value):Mut (fun n=>n=g) w (w.setRow g cs):=⟨rfl,rfl,rfl,by simp,fun k _ hf=>setRow_other w g k cs hf⟩
theorem dS{P:Program}{ops:Array Oper}{rest:List Oper}{op:Oper}{a:Act}{w:World}{Q:Exit→Act→World→Prop}(hgd:op.guard=none)(hdst:op.dst=none)(ty:TypeId)(x y:Operand)(ho:op.op=.store ty x y)(g o:Nat)(u:Value)(vs cs cs':Array Value)(t:TypeId)(hx:a.eval x=.pointer (some ⟨g,o,none⟩))(hy:a.eval y=u)(hv:u.cells=vs)(hX:w.heap[g]?=some (.cells cs t (0,0)))(hl:o+vs.size≤cs.size)(hi:(P.info? ty).map (·.size)=some vs.size)(h1:vs.toList.all (·.oneCell')=true)(hcs:(cs.toList.take o++vs.toList++cs.toList.drop (o+vs.size)).toArray=cs')(h:∀w',w'.heap[g]?=some (.cells cs' t (0,0))→Mut (fun n=>n=g) w w'→wpList P ops Q rest a w'):wpList P ops Q (op :: rest) a w:=by
 subst hcs
 refine wpList_plain hgd fun K hK=>?_
 have h3:=run_storeCells_at (P:=P) g o t vs.toList 0 cs w hX (by simpa using hl) (fun v hv=>List.all_eq_true.1 h1 v hv)
 simp only[Nat.add_zero,Array.length_toList]at h3
 have hrun:(storeVar ty ⟨g,o,none⟩ u).run P w=.ok () (w.setRow g (cs.toList.take o++vs.toList++cs.toList.drop (o+vs.size)).toArray):=by
  cases hq:P.info? ty with
  | none=>simp[hq]at hi
  | some i =>
   have hs:vs.size=i.size:=by simp[hq]at hi;omega
   simp[storeVar,sizeOf,typeInfo,hq,hv,hs]
   simpa[hs]using h3
 unfold Oper.wp execOp
 simp only[ho,hx,hy,Instr.storeAt,Instr.sureAddr,Sem.run_bind,Sem.run_pure,Result.andThen_ok,hrun]
 refine hK _ _ ?_
 rw[show a.put op.dst undef=a by rw[hdst];rfl]
 exact h _ (setRow_heap _ _ _ _ _ _ hX) (oZ w g _)
theorem bS(T:TypeId){P:Program}{ops:Array Oper}{rest:List Oper}{a:Act}{w:World}{Q:Exit→Act→World→Prop}{d:Option Tmp}{ty:TypeId}{pos:String}{after:Array Edge}(h:wpList P ops Q ({ dst:=d,op:=.alloc T,type:=ty,pos:=pos,after:=after,guard:=none } :: rest) a w):wpList P ops Q ({ dst:=d,op:=.alloc T,type:=ty,pos:=pos,after:=after,guard:=none } :: rest) a w:=h
theorem b6{P:Program}{ops:Array Oper}{rest:List Oper}{op:Oper}{a:Act}{w:World}{Q:Exit→Act→World→Prop}(hgd:op.guard=none)(ty:TypeId)(ho:op.op=.alloc ty)(z:Array Value)(hz:∀w,(zeroValue ty).run P w=.ok (.agg z) w)(h:∀(X:Nat) (w':World),w'.heap[X]?=some (.cells z ty (0,0))→w.heap.size=X→Ext w w'→wpList P ops Q rest (a.put op.dst (.pointer (some ⟨X,0,none⟩))) w'):wpList P ops Q (op :: rest) a w :=
 wpList_plain hgd fun K hK=>gU ty ho z (hz w) (hK _ _ (h _ _ (heap_alloc_new _ _) rfl ((Ext.refl w).alloc _)))
theorem gY{P:Program}{op:Oper}{a:Act}{w:World}{K:Act→World→Prop}{Q:Exit→Act→World→Prop}(hdst:op.dst=none)(ty:TypeId)(x y:Operand)(ho:op.op=.store ty x y)(g o:Nat)(u:Value)(vs cs cs':Array Value)(t:TypeId)(hx:a.eval x=.pointer (some ⟨g,o,none⟩))(hy:a.eval y=u)(hv:u.cells=vs)(hX:w.heap[g]?=some (.cells cs t (0,0)))(hl:o+vs.size≤cs.size)(hi:(P.info? ty).map (·.size)=some vs.size)(h1:vs.toList.all (·.oneCell')=true)(hcs:(cs.toList.take o++vs.toList++cs.toList.drop (o+vs.size)).toArray=cs')(h:∀w',w'.heap[g]?=some (.cells cs' t (0,0))→Mut (fun n=>n=g) w w'→K a w'):op.wp P a w K Q:=by
 subst hcs
 have h3:=run_storeCells_at (P:=P) g o t vs.toList 0 cs w hX (by simpa using hl) (fun v hv=>List.all_eq_true.1 h1 v hv)
 simp only[Nat.add_zero,Array.length_toList]at h3
 have hrun:(storeVar ty ⟨g,o,none⟩ u).run P w=.ok () (w.setRow g (cs.toList.take o++vs.toList++cs.toList.drop (o+vs.size)).toArray):=by
  cases hq:P.info? ty with
  | none=>simp[hq]at hi
  | some i =>
   have hs:vs.size=i.size:=by simp[hq]at hi;omega
   simp[storeVar,sizeOf,typeInfo,hq,hv,hs]
   simpa[hs]using h3
 unfold Oper.wp execOp
 simp only[ho,hx,hy,Instr.storeAt,Instr.sureAddr,Sem.run_bind,Sem.run_pure,Result.andThen_ok,hrun]
 have h4:K (a.put op.dst undef) (w.setRow g (cs.toList.take o++vs.toList++cs.toList.drop (o+vs.size)).toArray):=by
  rw[show a.put op.dst undef=a by rw[hdst];rfl]
  exact h _ (setRow_heap _ _ _ _ _ _ hX) (oZ w g _)
 exact h4
theorem lN{P:Program}{op:Oper}{a:Act}{w:World}{K:Act→World→Prop}{Q:Exit→Act→World→Prop}(ty:TypeId)(ho:op.op=.alloc ty)(z:Array Value)(hz:∀w,(zeroValue ty).run P w=.ok (.agg z) w)(h:∀(X:Nat) (w':World),w'.heap[X]?=some (.cells z ty (0,0))→w.heap.size=X→Ext w w'→K (a.put op.dst (.pointer (some ⟨X,0,none⟩))) w'):op.wp P a w K Q :=
 gU ty ho z (hz w) (h _ _ (heap_alloc_new _ _) rfl ((Ext.refl w).alloc _))
theorem aK1{P:Program}{md:Region.Mode}{Q:Exit→Act→World→Prop}{S:World→Prop}{l r1 r2:List Oper}{i j:Nat}{oi oj:Oper}{fuel:Nat}{listed:Array Bool}{a:Act}{w:World}(hi:l.drop i=oi :: r1)(hgi:oi.guard=none)(hj:l.drop j=oj :: r2)(hgj:oj.guard=none)(hr:Region.ready md l.toArray listed=[i,j])(h1:∀K':Act→World→Prop,Shut (∀a w,S w→(S w→wpAnyH P md l.toArray Q S fuel (listed.setIfInBounds i true) a w)→K' a w)→Oper.wp P oi a w K' Q)(h2:∀K':Act→World→Prop,Shut (∀a w,S w→(S w→wpAnyH P md l.toArray Q S fuel (listed.setIfInBounds j true) a w)→K' a w)→Oper.wp P oj a w K' Q):wpAnyH P md l.toArray Q S (fuel+1) listed a w:=by
 have at_:∀{n:Nat} {o:Oper} {r:List Oper},l.drop n=o :: r→l.toArray[n]?=some o:=fun {n o r} h=>by
  have e:(l.drop n)[0]?=some o:=by rw[h];rfl
  rw[List.getElem?_drop,Nat.add_zero]at e
  simpa using e
 refine wpAnyH_ready hr (by simp) (AllReadyH.cons (o:=oi) (at_ hi) (fun K hK=>?_) (AllReadyH.cons (o:=oj) (at_ hj) (fun K hK=>?_) AllReadyH.nil))
 ·rw[if_pos (by simp[Region.wanted,hgi])]
  exact h1 K hK
 ·rw[if_pos (by simp[Region.wanted,hgj])]
  exact h2 K hK
section
variable {P:Program} {ops:Array Oper} {Q:Exit→Act→World→Prop} {md:Region.Mode} {S:World→Prop} {z:Nat}
def iW(P:Program)(md:Region.Mode)(ops:Array Oper)(Q:Exit→Act→World→Prop)(S:World→Prop)(z:Nat):Nat→Array Bool→Act→World→Prop
 | 0,listed,a,w=>Region.ready md ops listed=[]∧Q .normal a w
 | fuel+1,listed,a,w =>
  (Region.ready md ops listed=[]→Q .normal a w) ∧
  ∀i∈Region.ready md ops listed,wpOp P ops Q i (fun a' w'=>((listed.setIfInBounds i true).getD z true=false→S w')∧iW P md ops Q S z fuel (listed.setIfInBounds i true) a' w') a w
theorem o0:∀(fuel:Nat) (listed:Array Bool) (a:Act) (w:World),iW P md ops Q S z fuel listed a w→wpAny P md ops Q fuel listed a w
 | 0,_,_,_,h=>h
 | fuel+1,_,_,_,h=>⟨h.1,fun i hi=>wpOp_mono (fun a' w' h'=>o0 fuel _ a' w' h'.2) (h.2 i hi)⟩
theorem j3(L:Array Bool)(i:Nat)(h:L.getD z true=true):(L.setIfInBounds i true).getD z true=true:=by
 by_cases hz:i=z
 ·subst hz
  by_cases hl:i<L.size
  ·simp[Array.getD,hl]
  ·simp[Array.getD,hl]
 ·rw[getD_set_ne true hz];exact h
theorem nS:∀(fuel:Nat) (listed:Array Bool) (a:Act) (w:World),listed.getD z true=true→wpAnyH P md ops Q (fun _=>True) fuel listed a w→iW P md ops Q S z fuel listed a w
 | 0,_,_,_,_,h=>h
 | fuel+1,listed,_,_,hz,h=>⟨h.1,fun i hi=>wpOp_mono (fun a' w' h'=>⟨fun h0=>absurd (j3 listed i hz) (by rw[h0];decide),nS fuel _ a' w' (j3 listed i hz) h'.2⟩) (h.2 i hi)⟩
theorem r9{i:Nat}{oi oz:Oper}{v:Value}(hi:ops[i]?=some oi)(hz:ops[z]?=some oz)(hzi:∃e∈oz.after,Region.binds md e=true∧e.on=i)(hne:z≠i)(hsel:∀(j:Nat) (o:Oper) cs b,ops[j]?=some o→o.op≠.select cs b)(hQ:∀c a w,Q (.panic c) (a.put oi.dst v) w→Q (.panic c) a w):
    ∀ (fuel:Nat) (listed:Array Bool) (a:Act) (w:World),listed.getD z true=false →
     (∀j oj,ops[j]?=some oj→j≠i→listed.getD j true=false→(∀e∈oj.after,Region.binds md e=true→e.on≠i)→oi.apart ops oj=true) →
     i∈Region.ready md ops listed→YieldsIf P ops S oi v a→S w →
     iW P md ops Q S z fuel (listed.setIfInBounds i true) (a.put oi.dst v) w→iW P md ops Q S z (fuel+1) listed a w:=by
 intro fuel
 induction fuel with
 | zero =>
  intro listed a w _ _ hr hy hS H
  refine⟨fun h=>(by rw[h]at hr;cases hr),fun j hj=>?_⟩
  by_cases hji:j=i
  ·subst hji;exact hy.wpOp hi hS ⟨fun _=>hS,H⟩
  ·have:=ready_mono hj hji
   rw[H.1]at this
   cases this
 | succ fuel ih =>
  intro listed a w hzl hfree hr hy hS H
  refine⟨fun h=>(by rw[h]at hr;cases hr),fun j hj=>?_⟩
  by_cases hji:j=i
  ·subst hji;exact hy.wpOp hi hS ⟨fun _=>hS,H⟩
  ·have h1:=H.2 j (ready_mono hj hji)
   obtain⟨hjun,oj,hoj,hall⟩:=mem_ready.1 hj
   have hnot:∀e∈oj.after,Region.binds md e=true→e.on≠i:=fun e he hb heq=>by
    have h1:=hall e he hb
    have h0:=(mem_ready.1 hr).1
    rw[heq]at h1
    rcases Nat.lt_or_ge i listed.size with h'|h'
    ·simp[h']at h0 h1;rw[h0]at h1;cases h1
    ·simp[Array.getElem?_eq_none h']at h1
   have hjz:j≠z:=fun e=>by
    subst e
    obtain⟨e,he,hb,hon⟩:=hzi
    rw[hoj]at hz
    cases hz
    exact hnot e he hb hon
   have h2:=wpOp_putIf hoj (hfree j oj hoj hji hjun hnot) (fun cs b=>hsel i oi cs b hi) (fun cs b=>hsel j oj cs b hoj) hQ hy h1
   have hfree':∀k ok,ops[k]?=some ok→k≠i→(listed.setIfInBounds j true).getD k true=false →
       (∀e∈ok.after,Region.binds md e=true→e.on≠i)→oi.apart ops ok=true:=fun k ok hk hki hun hno=>by
    refine hfree k ok hk hki ?_ hno
    by_cases hjk:j=k
    ·subst hjk;exact hjun
    ·rw[getD_set_ne true hjk]at hun;exact hun
   have hzj:(listed.setIfInBounds j true).getD z true=false:=by rw[getD_set_ne true hjz];exact hzl
   have hzij:((listed.setIfInBounds i true).setIfInBounds j true).getD z true=false:=by rw[getD_set_ne true hjz,getD_set_ne true (Ne.symm hne)];exact hzl
   refine wpOp_mono (fun a' w' h3=>⟨fun _=>h3.2.1 hzij,ih (listed.setIfInBounds j true) a' w' hzj hfree' (ready_mono hr (Ne.symm hji)) h3.1 (h3.2.1 hzij) ?_⟩) h2
   rw[Array.setIfInBounds_comm _ _ hji]
   exact h3.2.2
end
theorem aI0{P:Program}{Q:Exit→Act→World→Prop}{S:World→Prop}{id:Nat}{ops:Array Oper}{a:Act}{w:World}(z:Nat)(hm:P.follows .mixedOrders=true)(h:∀wd:World,Ext w wd→iW P .any ops Q S z ops.size (Array.replicate ops.size false) a wd):(Code.region id ops true).wp P Q a w :=
 wp_region_any hm (o0 _ _ _ _ (h w.drew (Ext.refl w).drew))
theorem eY{l rest:List Oper}{i:Nat}{o:Oper}(hi:l.drop i=o :: rest):l.toArray[i]?=some o:=by
 have e:(l.drop i)[0]?=some o:=by rw[hi];rfl
 rw[List.getElem?_drop,Nat.add_zero]at e
 simpa using e
theorem qU{P:Program}{md:Region.Mode}{Q:Exit→Act→World→Prop}{S:World→Prop}{l rest rz:List Oper}{i z:Nat}{oi oz:Oper}{v:Value}{fuel:Nat}{listed:Array Bool}{a:Act}{w:World}(hi:l.drop i=oi :: rest)(hz:l.drop z=oz :: rz)(hzi:(oz.after.toList.any fun e=>Region.binds md e && e.on == i)=true)(hne:(z == i)=false)(hzl:listed.getD z true=false)(hs:Region.noSelect l.toArray=true)(hf:Region.free md l.toArray listed i=true)(hr:(Region.ready md l.toArray listed).contains i=true)(hQ:∀c a w,Q (.panic c) (a.put oi.dst v) w→Q (.panic c) a w)(hy:YieldsIf P l.toArray S oi v a)(hS:S w)(h:iW P md l.toArray Q S z fuel (listed.setIfInBounds i true) (a.put oi.dst v) w):iW P md l.toArray Q S z (fuel+1) listed a w:=by
 refine r9 (eY hi) (eY hz) ?_ (by simpa using hne) (Region.noSelect_spec hs) hQ fuel listed a w hzl (Region.free_spec (eY hi) hf) (by simpa using hr) hy hS h
 obtain⟨e,he,h2⟩:=List.any_eq_true.1 hzi
 simp only[Bool.and_eq_true,beq_iff_eq]at h2
 exact⟨e,by simpa using he,h2.1,h2.2⟩
theorem aI1{P:Program}{md:Region.Mode}{Q:Exit→Act→World→Prop}{S:World→Prop}{l rest:List Oper}{i z:Nat}{oi:Oper}{fuel:Nat}{listed:Array Bool}{a:Act}{w:World}(hi:l.drop i=oi :: rest)(hg:oi.guard=none)(hr:Region.ready md l.toArray listed=[i])(h:∀K':Act→World→Prop,Shut (∀a w,S w→(S w→iW P md l.toArray Q S z fuel (listed.setIfInBounds i true) a w)→K' a w)→Oper.wp P oi a w K' Q):iW P md l.toArray Q S z (fuel+1) listed a w:=by
 refine⟨fun h0=>absurd (hr▸h0) (by simp),fun j hj=>?_⟩
 rw[hr]at hj
 obtain rfl:j=i:=by simpa using hj
 unfold wpOp
 simp only[eY hi]
 rw[if_pos (by simp[Region.wanted,hg])]
 exact .inl (h _ (show ∀a w,_ from fun a w hS hK=>⟨fun _=>hS,hK hS⟩))
theorem aK2{P:Program}{md:Region.Mode}{Q:Exit→Act→World→Prop}{S:World→Prop}{l rest:List Oper}{z:Nat}{oz:Oper}{fuel:Nat}{listed:Array Bool}{a:Act}{w:World}(hi:l.drop z=oz :: rest)(hg:oz.guard=none)(hr:Region.ready md l.toArray listed=[z])(h:∀K':Act→World→Prop,Shut (∀a w,wpAnyH P md l.toArray Q (fun _=>True) fuel (listed.setIfInBounds z true) a w→K' a w)→Oper.wp P oz a w K' Q):iW P md l.toArray Q S z (fuel+1) listed a w:=by
 refine⟨fun h0=>absurd (hr▸h0) (by simp),fun j hj=>?_⟩
 rw[hr]at hj
 obtain rfl:j=z:=by simpa using hj
 have hz:(listed.setIfInBounds j true).getD j true=true:=by
  by_cases hl:j<listed.size
  ·simp[Array.getD,hl]
  ·simp[Array.getD,hl]
 unfold wpOp
 simp only[eY hi]
 rw[if_pos (by simp[Region.wanted,hg])]
 exact .inl (h _ (show ∀a w,_ from fun a w hK=>⟨fun h0=>absurd hz (by rw[h0];decide),nS _ _ _ _ hz hK⟩))
theorem kI{P:Program}{md:Region.Mode}{Q:Exit→Act→World→Prop}{S:World→Prop}{l rest:List Oper}{i:Nat}{oi:Oper}{fuel:Nat}{listed:Array Bool}{a:Act}{w:World}(hi:l.drop i=oi :: rest)(hw:Region.wanted oi (yielded l.toArray a.tmps)=true)(hr:Region.ready md l.toArray listed=[i])(h:∀K':Act→World→Prop,Shut (∀a w,S w→(S w→wpAnyH P md l.toArray Q S fuel (listed.setIfInBounds i true) a w)→K' a w)→Oper.wp P oi a w K' Q):wpAnyH P md l.toArray Q S (fuel+1) listed a w:=by
 refine wpAnyH_ready hr (by simp) (AllReadyH.cons (o:=oi) ?_ (fun K hK=>?_) AllReadyH.nil)
 ·have e:(l.drop i)[0]?=some oi:=by rw[hi];rfl
  rw[List.getElem?_drop,Nat.add_zero]at e
  simpa using e
 ·rw[if_pos hw]
  exact h K hK
theorem bL{P:Program}{ops:Array Oper}{S:World→Prop}{op:Oper}{a:Act}(hw:Region.wanted op (yielded ops a.tmps)=true)(t:TypeId)(parts:Array (Nat × Operand))(ho:op.op=.build t parts)(vals:List (Nat × Value))(hv:parts.toList.map (fun x=>(x.1,a.eval x.2))=vals)(cells:Array Value)(hb:P.built t vals=some cells):YieldsIf P ops S op (.agg cells) a :=
 .inl ⟨hw,fun w _=>by
  have e:(parts.map fun(i,x)=>(i,a.eval x)).toList=vals:=by rw[Array.toList_map];exact hv
  unfold execOp
  simp only[ho,Sem.run_bind,run_build w t _ cells (by rw[e];exact hb),Result.andThen_ok]
  rfl⟩
theorem a4{P:Program}{ops:Array Oper}{S:World→Prop}{op:Oper}{a:Act}(hw:Region.wanted op (yielded ops a.tmps)=true)(ty:TypeId)(x:Operand)(ho:op.op=.load ty x)(X:Nat)(hx:a.eval x=.pointer (some ⟨X,0,none⟩))(C:Array Value)(t:TypeId)(d:TypeDesc)(hX:∀W',S W'→W'.heap[X]?=some (.cells C t (0,0)))(hu:P.underlying ty=some d)(hd:(match d with|.struct _|.array _ _=>true|_=>false)=true)(hi:(P.info? ty).map (·.size)=some C.size):YieldsIf P ops S op (.agg C) a :=
 .inl ⟨hw,fun W' hW'=>by
  have h:=hX W' hW'
  unfold execOp
  simp only[ho,hx,Instr.loadAt,Instr.sureAddr,Sem.run_bind,Sem.run_pure,Result.andThen_ok,run_loadVar_row W' X t ty C (0,0) d h hu hd hi]⟩
theorem iQ{w:World}{X:Nat}{cs:Array Value}{t:TypeId}(h:w.heap[X]?=some (.cells cs t (0,0)))(o:Nat){l:List Value}(hl:(cs.toList.drop o).take l.length=l):w.rangeAt X o l:=fun j v hv=>by
 rw[cell_of_row _ _ _ _ _ _ h,←Array.getElem?_toList]
 rw[←hl,List.getElem?_take]at hv
 split at hv
 ·rwa [List.getElem?_drop]at hv
 ·cases hv
theorem zA{a b c:World}{F:Nat→Prop}{B:Nat}(h:Mut F a b)(m:Mut (fun n=>n=B) b c)(hB:a.heap.size≤B):Mut F a c :=
 ⟨m.1.trans h.1,m.2.1.trans h.2.1,m.2.2.1.trans h.2.2.1,Nat.le_trans h.2.2.2.1 m.2.2.2.1,fun k hk hf=>(m.2.2.2.2 k (nL hk h.2.2.2.1) (by omega)).trans (h.2.2.2.2 k hk hf)⟩
def Pv(w:World)(G o:Nat)(L:List Value):Prop:=∃C T,w.heap[G]?=some (.cells C T (0,0))∧L.length=89∧(C.toList.drop o).take 89=L
def Pm(G o:Nat)(w w':World):Prop:=Mut (fun n=>n=G) w w'∧∀C T,w.heap[G]?=some (.cells C T (0,0))→∃C',w'.heap[G]?=some (.cells C' T (0,0))∧C'.size=C.size∧∀i,(i<o∨o+89≤i)→C'[i]?=C[i]?
theorem Pv.lt{w:World}{G o:Nat}{L:List Value}(h:Pv w G o L):G<w.heap.size:=by obtain⟨C,T,h1,_⟩:=h;exact aC h1
theorem Pv.len{w:World}{G o:Nat}{L:List Value}(h:Pv w G o L):L.length=89:=by obtain⟨C,T,_,h2,_⟩:=h;exact h2
theorem Pv.keep{w w':World}{G o:Nat}{L:List Value}(h:Pv w G o L)(hk:w'.heap[G]?=w.heap[G]?):Pv w' G o L:=by obtain⟨C,T,h1,h2,h3⟩:=h;exact⟨C,T,hk.trans h1,h2,h3⟩
theorem Pv.ext{w w':World}{G o:Nat}{L:List Value}(h:Pv w G o L)(hx:Ext w w'):Pv w' G o L:=h.keep (hx.block _ h.lt)
theorem Pv.mut{w w':World}{G o B:Nat}{L:List Value}(h:Pv w G o L)(hm:Mut (fun n=>n=B) w w')(hne:G≠B):Pv w' G o L:=h.keep (hm.heap h.lt hne)
theorem Pv.cell{w:World}{G o:Nat}{L:List Value}(h:Pv w G o L){j:Nat}(hj:j<89):w.cell? ⟨G,o+j,none⟩=L[j]?:=by
 obtain⟨C,T,h1,h2,rfl⟩:=h
 rw[cell_of_row _ _ _ _ _ _ h1,List.getElem?_take,if_pos hj,List.getElem?_drop]
 simp
theorem Pv.range{w:World}{G o:Nat}{L:List Value}(h:Pv w G o L){j n:Nat}{l:List Value}(hl:(L.drop j).take n=l)(hn:j+n≤89):w.rangeAt G (o+j) l:=fun i v hv=>by
 subst hl
 rw[List.getElem?_take]at hv
 split at hv
 ·rw[List.getElem?_drop]at hv
  rw[show o+j+i=o+(j+i) by omega,h.cell (by omega)]
  exact hv
 ·cases hv
theorem Pv.box{w:World}{X:Nat}{L:List Value}{T:TypeId}(h:w.heap[X]?=some (.cells L.toArray T (0,0)))(hl:L.length=89):Pv w X 0 L:=⟨_,T,h,hl,by simp[←hl]⟩
theorem Pm.refl(G o:Nat)(w:World):Pm G o w w:=⟨Mut.refl _ _,fun C T h=>⟨C,h,rfl,fun _ _=>rfl⟩⟩
theorem Pm.trans{G o:Nat}{a b c:World}(h:Pm G o a b)(k:Pm G o b c):Pm G o a c:=by
 refine⟨h.1.trans k.1,fun C T h0=>?_⟩
 obtain⟨C1,h1,s1,e1⟩:=h.2 C T h0
 obtain⟨C2,h2,s2,e2⟩:=k.2 C1 T h1
 exact⟨C2,h2,s2.trans s1,fun i hi=>(e2 i hi).trans (e1 i hi)⟩
theorem Ext.pm{a b:World}(h:Ext a b)(G o:Nat):Pm G o a b:=⟨h.mut _,fun C T h0=>⟨C,(h.block _ (aC h0)).trans h0,rfl,fun _ _=>rfl⟩⟩
theorem Pm.ext{G o:Nat}{a b c:World}(h:Pm G o a b)(k:Ext b c):Pm G o a c:=h.trans (k.pm G o)
theorem Pm.row{G o X:Nat}{a b:World}{x:Obj}(h:Pm G o a b)(hX:a.heap[X]?=some x)(hne:X≠G):b.heap[X]?=some x:=(h.1.heap (aC hX) hne).trans hX
def setL(L:List Value)(j:Nat)(vs:List Value):List Value:=L.take j++vs++L.drop (j+vs.length)
theorem fJ{L:List Value}{j:Nat}{vs:List Value}(hj:j+vs.length≤L.length):(setL L j vs).length=L.length:=by unfold setL;simp;omega
theorem eB{L:List Value}{j:Nat}{vs:List Value}(hj:j+vs.length≤L.length)(i:Nat):(setL L j vs)[i]?=if j≤i∧i<j+vs.length then vs[i - j]? else L[i]?:=by
 unfold setL
 have hz:(L.take j).length=j:=by rw[List.length_take];omega
 rw[List.append_assoc]
 by_cases h1:i<j
 ·rw[List.getElem?_append_left (by omega),List.getElem?_take,if_pos h1,if_neg (by omega)]
 ·rw [List.getElem?_append_right (by omega),hz]
  by_cases h2:i<j+vs.length
  ·rw[List.getElem?_append_left (by omega),if_pos (by omega)]
  ·rw[List.getElem?_append_right (by omega),if_neg (by omega),List.getElem?_drop]
   congr 1;omega
theorem aC4{L:List Value}{j:Nat}(v:Value)(hj:j<L.length):setL L j [v]=L.set j v:=by
 apply List.ext_getElem?
 intro i
 rw[eB (by simp;omega),List.getElem?_set]
 by_cases e:j=i
 ·subst e;simp[hj]
 ·rw[if_neg e,if_neg (by simp;omega)]
theorem tF{w w':World}{G o j:Nat}{L:List Value}{vs:List Value}{C:Array Value}{T:TypeId}(h0:w.heap[G]?=some (.cells C T (0,0)))(hl:L.length=89)(he:(C.toList.drop o).take 89=L)(hj:j+vs.length≤89)(hr:w'.heap[G]?=some (.cells (C.toList.take (o+j)++vs++C.toList.drop (o+j+vs.length)).toArray T (0,0)))(hm:Mut (fun n=>n=G) w w'):Pv w' G o (setL L j vs)∧Pm G o w w':=by
 have hCs:o+89≤C.size:=by rw[←he]at hl;simp at hl;omega
 have at_:∀i,(C.toList.take (o+j)++vs++C.toList.drop (o+j+vs.length))[i]?=if o+j≤i∧i<o+j+vs.length then vs[i - (o+j)]? else C.toList[i]?:=fun i=>by
  have:=eB (L:=C.toList) (j:=o+j) (vs:=vs) (by simp;omega) i
  unfold setL at this
  exact this
 refine⟨⟨_,T,hr,by rw[fJ (by omega),hl],?_⟩,hm,fun C0 T0 h1=>?_⟩
 ·apply List.ext_getElem?
  intro i
  rw[eB (by omega),←he]
  by_cases hi:i<89
  ·rw [List.getElem?_take,if_pos hi,List.getElem?_drop]
   simp only[]
   rw[at_,List.getElem?_take,if_pos hi,List.getElem?_drop]
   by_cases h2:j≤i∧i<j+vs.length
   ·rw[if_pos (by omega),if_pos h2]
    congr 1;omega
   ·rw[if_neg (by omega),if_neg h2]
  ·rw[List.getElem?_eq_none (by simp;omega),if_neg (by omega),List.getElem?_eq_none (by simp;omega)]
 ·rw[h0]at h1
  cases h1
  refine⟨_,hr,by simp;omega,fun i hi=>?_⟩
  rw[←Array.getElem?_toList,←Array.getElem?_toList]
  simp only[]
  rw[at_,if_neg (by omega)]
theorem bI{P:Program}{ops:Array Oper}{rest:List Oper}{op:Oper}{a:Act}{w:World}{Q:Exit→Act→World→Prop}(hgd:op.guard=none)(hdst:op.dst=none)(ty:TypeId)(x y:Operand)(ho:op.op=.store ty x y)(G o j:Nat)(L:List Value)(hp:Pv w G o L)(u:Value)(vs:Array Value)(hx:a.eval x=.pointer (some ⟨G,o+j,none⟩))(hy:a.eval y=u)(hv:u.cells=vs)(hj:j+vs.size≤89)(hi:(P.info? ty).map (·.size)=some vs.size)(h1:vs.toList.all (·.oneCell')=true)(h:∀w',Pv w' G o (setL L j vs.toList)→Pm G o w w'→wpList P ops Q rest a w'):wpList P ops Q (op :: rest) a w:=by
 obtain⟨C,T,h0,hl,he⟩:=hp
 have hCs:o+89≤C.size:=by rw[←he]at hl;simp at hl;omega
 refine dS hgd hdst ty x y ho G (o+j) u vs C _ T hx hy hv h0 (by omega) hi h1 rfl (fun w' hr hm=>?_)
 obtain⟨a1,a2⟩:=tF (vs:=vs.toList) h0 hl he (by simpa using hj) (by simpa using hr) hm
 exact h w' a1 a2
theorem bT{P:Program}{op:Oper}{a:Act}{w:World}{K:Act→World→Prop}{Q:Exit→Act→World→Prop}(hdst:op.dst=none)(ty:TypeId)(x y:Operand)(ho:op.op=.store ty x y)(G o j:Nat)(L:List Value)(hp:Pv w G o L)(u:Value)(vs:Array Value)(hx:a.eval x=.pointer (some ⟨G,o+j,none⟩))(hy:a.eval y=u)(hv:u.cells=vs)(hj:j+vs.size≤89)(hi:(P.info? ty).map (·.size)=some vs.size)(h1:vs.toList.all (·.oneCell')=true)(h:∀w',Pv w' G o (setL L j vs.toList)→Pm G o w w'→K a w'):op.wp P a w K Q:=by
 obtain⟨C,T,h0,hl,he⟩:=hp
 have hCs:o+89≤C.size:=by rw[←he]at hl;simp at hl;omega
 refine gY hdst ty x y ho G (o+j) u vs C _ T hx hy hv h0 (by omega) hi h1 rfl (fun w' hr hm=>?_)
 obtain⟨a1,a2⟩:=tF (vs:=vs.toList) h0 hl he (by simpa using hj) (by simpa using hr) hm
 exact h w' a1 a2
theorem BrG.pv{w:World}{F:Nat→Prop}{X g k:Nat}{B:Br}(h:BrG w F X g B)(hk:k<B.np):Pv w g (k*89) (a9 B.ps k):=by
 obtain⟨h1,h2,cap,cur,s2,s3,a,b,c,d,e,f,rest⟩:=h
 have hle:(k+1)*89≤B.np*89:=Nat.mul_le_mul_right _ hk
 have hcap:B.np*89≤cap*89:=Nat.mul_le_mul_right _ d
 refine⟨cur,_,b,?_,?_⟩
 ·rw[←f];unfold a9;simp;omega
 ·rw[←f]
  unfold a9
  rw[List.drop_take,List.take_take,Nat.min_eq_left (by omega)]
theorem BrG.pm{w w':World}{F:Nat→Prop}{X g k:Nat}{B:Br}(h:BrG w F X g B)(hk:k<B.np)(hm:Pm g (k*89) w w'){L:List Value}(hp:Pv w' g (k*89) L):BrG w' F X g (B.setPort k L):=by
 have hlt:=h.lt
 obtain⟨h1,h2,cap,cur,s2,s3,a,b,c,d,e,f,p,q,r,s⟩:=h
 have hle:(k+1)*89≤B.np*89:=Nat.mul_le_mul_right _ hk
 have hcap:B.np*89≤cap*89:=Nat.mul_le_mul_right _ d
 have hps:B.ps.length=B.np*89:=by rw[←f];simp;omega
 obtain⟨C',hC',hs',he'⟩:=hm.2 _ _ b
 obtain⟨C2,T2,g1,g2,g3⟩:=hp
 rw[hC']at g1
 cases g1
 have own:∀{e:TypeId} {m n:Nat} {v:Value} {xs:List Value},e≠60→w.ownsRow 0 e m v n xs→w'.ownsRow 0 e m v n xs:=fun {e m n v xs} hne ho=>by
  refine⟨ho.1,?_⟩
  rcases ho.2 with h0|⟨g3,c3,cu3,e1,e2,e3,rest⟩
  ·exact .inl h0
  ·refine .inr ⟨g3,c3,cu3,e1,e2,?_,rest⟩
   have hgg:g3≠g:=fun e0=>by
    subst e0
    rw[b]at e3
    cases e3
    exact hne rfl
   exact hm.row e3 hgg
 refine⟨h1,h2,cap,C',s2,s3,hm.row a hlt.2.2,hC',by omega,d,e,?_,own (by decide) p,own (by decide) q,r,s⟩
 apply List.ext_getElem?
 intro i
 rw[eR g2 (by omega),List.getElem?_take,show(B.setPort k L).np=B.np from rfl]
 by_cases hi:i<B.np*89
 ·rw [if_pos hi]
  by_cases h3:k*89≤i∧i<k*89+89
  ·rw[if_pos h3,←g3,List.getElem?_take,if_pos (by omega),List.getElem?_drop]
   congr 1;omega
  ·rw[if_neg h3,Array.getElem?_toList,he' i (by omega),←f,List.getElem?_take,if_pos hi,Array.getElem?_toList]
 ·rw[if_neg hi,if_neg (by omega),List.getElem?_eq_none (by omega)]
theorem Pm.mutF{G o:Nat}{F:Nat→Prop}{a b:World}(h:Pm G o a b)(hG:F G):Mut F a b:=h.1.mono (fun n _ e=>by have h2:n=G:=e;rw[h2];exact hG)
def pI(L:List Value)(j:Nat):Int:=match L[j]? with|some (.int _ z)=>z|_=>0
def pB(L:List Value)(j:Nat):Bool:=match L[j]? with|some (.bool z)=>z|_=>false
theorem fG{L:List Value}(h:Typed PL L)(j:Nat)(hj:PL[j]?=some none):L[j]?=some (.bool (pB L j)):=by
 obtain⟨b,hb⟩:=h.bool j hj
 rw[hb,pB,hb]
theorem aR{L:List Value}(h:Typed PL L)(j:Nat){K:IntKind}(hj:PL[j]?=some (some K)):L[j]?=some (.int K (pI L j)):=by
 obtain⟨z,hz,_⟩:=h.int j K hj
 rw[hz,pI,hz]
theorem oI{L:List Value}(h:Typed PL L)(j:Nat){K:IntKind}(hj:PL[j]?=some (some K)):(Lit.int K (pI L j)).wf=true:=by
 obtain⟨z,hz,hw⟩:=h.int j K hj
 rw[pI,hz];exact hw
theorem nT{L:List Value}(h:Typed PL L):L.length=89:=h.1
theorem Typed.setL{l:List (Option IntKind)}{L:List Value}(h:Typed l L){j:Nat}{vs:List Value}(hj:j+vs.length≤l.length)(hv:Typed ((l.drop j).take vs.length) vs):Typed l (setL L j vs):=by
 have hl:=h.1
 refine⟨by rw[fJ (by omega),hl],fun i k hi=>?_⟩
 rw[eB (by omega)]
 by_cases e:j≤i∧i<j+vs.length
 ·rw[if_pos e]
  refine hv.2 (i - j) k ?_
  rw[List.getElem?_take,if_pos (by omega),List.getElem?_drop,show j+(i - j)=i by omega]
  exact hi
 ·rw[if_neg e];exact h.2 i k hi
theorem a7{L l:List Value}{j:Nat}(hl:j+l.length≤L.length)(h:∀i,i<l.length→L[j+i]?=l[i]?):(L.drop j).take l.length=l:=by
 apply List.ext_getElem?
 intro i
 by_cases hi:i<l.length
 ·rw[List.getElem?_take,if_pos hi,List.getElem?_drop,h i hi]
 ·rw[List.getElem?_eq_none (by simp;omega),List.getElem?_eq_none (by omega)]
theorem aB{L:List Value}{j:Nat}{v:Value}(h:L.length=89):(L.set j v).length=89:=by simpa using h
theorem cE{L:List Value}{j:Nat}{v:Value}(h:L.length=89)(hj:j<89):(L.set j v)[j]?=some v:=by simp[h,hj]
theorem aF{L:List Value}{i j:Nat}{v:Value}(h:i≠j):(L.set i v)[j]?=L[j]?:=by simp[h]
theorem dI{B:Br}(ho:B.ok){k:Nat}(hk:k<B.np):Typed PL (a9 B.ps k):=ho.ps.2 k hk
theorem aO{w:World}{G o j:Nat}{L:List Value}{v:Value}(h:Pv w G o (setL L j [v]))(hl:L.length=89)(hj:j<89):Pv w G o (L.set j v):=by
 rw[aC4 v (by omega)]at h
 exact h
theorem bH{L vs:List Value}{j:Nat}(h:L.length=89)(hj:j+vs.length≤89):(setL L j vs).length=89:=by rw[fJ (by omega),h]
theorem eD{L vs:List Value}{i j:Nat}(h:L.length=89)(hj:j+vs.length≤89)(hi:i<j∨j+vs.length≤i):(setL L j vs)[i]?=L[i]?:=by
 rw[eB (by omega),if_neg (by omega)]
theorem aM{L:List Value}{i j n:Nat}{v:Value}(h:i<j∨j+n≤i):((L.set i v).drop j).take n=(L.drop j).take n:=by
 apply List.ext_getElem?
 intro m
 rw[List.getElem?_take,List.getElem?_take]
 split
 ·rw[List.getElem?_drop,List.getElem?_drop,List.getElem?_set_ne (by omega)]
 ·rfl
theorem bP(T:TypeId){P:Program}{ops:Array Oper}{rest:List Oper}{a:Act}{w:World}{Q:Exit→Act→World→Prop}{d:Option Tmp}{x:Operand}{ty:TypeId}{pos:String}{after:Array Edge}(h:wpList P ops Q ({ dst:=d,op:=.box T x,type:=ty,pos:=pos,after:=after,guard:=none } :: rest) a w):wpList P ops Q ({ dst:=d,op:=.box T x,type:=ty,pos:=pos,after:=after,guard:=none } :: rest) a w:=h
theorem bQ{P:Program}{ops:Array Oper}{rest:List Oper}{op:Oper}{a:Act}{w:World}{Q:Exit→Act→World→Prop}(hgd:op.guard=none)(t:TypeId)(x:Operand)(ho:op.op=.box t x)(cells:Array Value)(hx:(a.eval x).cells=cells)(h:∀(X:Nat) (w':World),w'.heap[X]?=some (.cells cells t (0,0))→w.heap.size=X→Ext w w'→wpList P ops Q rest (a.put op.dst (.pointer (some ⟨X,0,none⟩))) w'):wpList P ops Q (op :: rest) a w:=by
 subst hx
 refine wpList_plain hgd fun K hK=>?_
 unfold Oper.wp execOp
 simp only[ho,Sem.run_bind,Instr.box,newVar,newRow,run_newObj_alloc,Sem.run_pure,Result.andThen_ok]
 exact hK _ _ (h _ _ (heap_alloc_new _ _) rfl ((Ext.refl w).alloc _))
theorem bW{L:List Value}(h:Typed PL L)(j:Nat)(z:Bool)(hj:PL[j]?=some none):Typed PL (L.set j (.bool z)):=h.set j _ (fun k hk=>by rw[hj]at hk;cases hk;exact⟨z,rfl⟩)
theorem eL{L:List Value}(h:Typed PL L)(j:Nat)(K:IntKind)(z:Int)(hj:PL[j]?=some (some K))(hz:(Lit.int K z).wf=true):Typed PL (L.set j (.int K z)):=h.set j _ (fun k hk=>by rw[hj]at hk;cases hk;exact⟨z,rfl,hz⟩)
section
variable {P:Program} {ops:Array Oper} {Q:Exit→Act→World→Prop} {md:Region.Mode} {S S2:World→Prop} {z:Nat}
def cB(P:Program)(md:Region.Mode)(ops:Array Oper)(Q:Exit→Act→World→Prop)(S S2:World→Prop)(z:Nat):Nat→Array Bool→Act→World→Prop
 | 0,listed,a,w=>Region.ready md ops listed=[]∧Q .normal a w
 | fuel+1,listed,a,w =>
  (Region.ready md ops listed=[]→Q .normal a w) ∧
  ∀i∈Region.ready md ops listed,wpOp P ops Q i (fun a' w'=>(S2 w'∧((listed.setIfInBounds i true).getD z true=false→S w'))∧cB P md ops Q S S2 z fuel (listed.setIfInBounds i true) a' w') a w
theorem o1:∀(fuel:Nat) (listed:Array Bool) (a:Act) (w:World),cB P md ops Q S S2 z fuel listed a w→wpAny P md ops Q fuel listed a w
 | 0,_,_,_,h=>h
 | fuel+1,_,_,_,h=>⟨h.1,fun i hi=>wpOp_mono (fun a' w' h'=>o1 fuel _ a' w' h'.2) (h.2 i hi)⟩
theorem nU:∀(fuel:Nat) (listed:Array Bool) (a:Act) (w:World),listed.getD z true=true→wpAnyH P md ops Q S2 fuel listed a w→cB P md ops Q S S2 z fuel listed a w
 | 0,_,_,_,_,h=>h
 | fuel+1,listed,_,_,hz,h=>⟨h.1,fun i hi=>wpOp_mono (fun a' w' h'=>⟨⟨h'.1,fun h0=>absurd (j3 listed i hz) (by rw[h0];decide)⟩,nU fuel _ a' w' (j3 listed i hz) h'.2⟩) (h.2 i hi)⟩
theorem sA{i:Nat}{oi oz:Oper}{v:Value}(hi:ops[i]?=some oi)(hz:ops[z]?=some oz)(hzi:∃e∈oz.after,Region.binds md e=true∧e.on=i)(hne:z≠i)(hsel:∀(j:Nat) (o:Oper) cs b,ops[j]?=some o→o.op≠.select cs b)(hQ:∀c a w,Q (.panic c) (a.put oi.dst v) w→Q (.panic c) a w):
    ∀ (fuel:Nat) (listed:Array Bool) (a:Act) (w:World),listed.getD z true=false →
     (∀j oj,ops[j]?=some oj→j≠i→listed.getD j true=false→(∀e∈oj.after,Region.binds md e=true→e.on≠i)→oi.apart ops oj=true) →
     i∈Region.ready md ops listed→YieldsIf P ops S oi v a→S w→S2 w →
     cB P md ops Q S S2 z fuel (listed.setIfInBounds i true) (a.put oi.dst v) w→cB P md ops Q S S2 z (fuel+1) listed a w:=by
 intro fuel
 induction fuel with
 | zero =>
  intro listed a w _ _ hr hy hS h2 H
  refine⟨fun h=>(by rw[h]at hr;cases hr),fun j hj=>?_⟩
  by_cases hji:j=i
  ·subst hji;exact hy.wpOp hi hS ⟨⟨h2,fun _=>hS⟩,H⟩
  ·have:=ready_mono hj hji
   rw[H.1]at this
   cases this
 | succ fuel ih =>
  intro listed a w hzl hfree hr hy hS hS2 H
  refine⟨fun h=>(by rw[h]at hr;cases hr),fun j hj=>?_⟩
  by_cases hji:j=i
  ·subst hji;exact hy.wpOp hi hS ⟨⟨hS2,fun _=>hS⟩,H⟩
  ·have h1:=H.2 j (ready_mono hj hji)
   obtain⟨hjun,oj,hoj,hall⟩:=mem_ready.1 hj
   have hnot:∀e∈oj.after,Region.binds md e=true→e.on≠i:=fun e he hb heq=>by
    have h1:=hall e he hb
    have h0:=(mem_ready.1 hr).1
    rw[heq]at h1
    rcases Nat.lt_or_ge i listed.size with h'|h'
    ·simp[h']at h0 h1;rw[h0]at h1;cases h1
    ·simp[Array.getElem?_eq_none h']at h1
   have hjz:j≠z:=fun e=>by
    subst e
    obtain⟨e,he,hb,hon⟩:=hzi
    rw[hoj]at hz
    cases hz
    exact hnot e he hb hon
   have h2:=wpOp_putIf hoj (hfree j oj hoj hji hjun hnot) (fun cs b=>hsel i oi cs b hi) (fun cs b=>hsel j oj cs b hoj) hQ hy h1
   have hfree':∀k ok,ops[k]?=some ok→k≠i→(listed.setIfInBounds j true).getD k true=false →
       (∀e∈ok.after,Region.binds md e=true→e.on≠i)→oi.apart ops ok=true:=fun k ok hk hki hun hno=>by
    refine hfree k ok hk hki ?_ hno
    by_cases hjk:j=k
    ·subst hjk;exact hjun
    ·rw[getD_set_ne true hjk]at hun;exact hun
   have hzj:(listed.setIfInBounds j true).getD z true=false:=by rw[getD_set_ne true hjz];exact hzl
   have hzij:((listed.setIfInBounds i true).setIfInBounds j true).getD z true=false:=by rw[getD_set_ne true hjz,getD_set_ne true (Ne.symm hne)];exact hzl
   refine wpOp_mono (fun a' w' h3=>⟨⟨h3.2.1.1,fun _=>h3.2.1.2 hzij⟩,ih (listed.setIfInBounds j true) a' w' hzj hfree' (ready_mono hr (Ne.symm hji)) h3.1 (h3.2.1.2 hzij) h3.2.1.1 ?_⟩) h2
   rw[Array.setIfInBounds_comm _ _ hji]
   exact h3.2.2
theorem qH{i:Nat}{oi:Oper}{v:Value}(hi:ops[i]?=some oi)(hne:z≠i)(hsel:∀(j:Nat) (o:Oper) cs b,ops[j]?=some o→o.op≠.select cs b)(hQ:∀c a w,Q (.panic c) (a.put oi.dst v) w→Q (.panic c) a w):
    ∀ (fuel:Nat) (listed:Array Bool) (a:Act) (w:World),
     (∀j oj,ops[j]?=some oj→j≠i→listed.getD j true=false→(∀e∈oj.after,Region.binds md e=true→e.on≠i)→oi.apart ops oj=true) →
     i∈Region.ready md ops listed→YieldsIf P ops S2 oi v a→S2 w→(listed.getD z true=false→S w) →
     cB P md ops Q S S2 z fuel (listed.setIfInBounds i true) (a.put oi.dst v) w→cB P md ops Q S S2 z (fuel+1) listed a w:=by
 intro fuel
 induction fuel with
 | zero =>
  intro listed a w _ hr hy h2 hS H
  refine⟨fun h=>(by rw[h]at hr;cases hr),fun j hj=>?_⟩
  by_cases hji:j=i
  ·subst hji;exact hy.wpOp hi h2 ⟨⟨h2,fun h0=>hS (by rw[getD_set_ne true (Ne.symm hne)]at h0;exact h0)⟩,H⟩
  ·have:=ready_mono hj hji
   rw[H.1]at this
   cases this
 | succ fuel ih =>
  intro listed a w hfree hr hy hS2 hS H
  refine⟨fun h=>(by rw[h]at hr;cases hr),fun j hj=>?_⟩
  by_cases hji:j=i
  ·subst hji;exact hy.wpOp hi hS2 ⟨⟨hS2,fun h0=>hS (by rw[getD_set_ne true (Ne.symm hne)]at h0;exact h0)⟩,H⟩
  ·have h1:=H.2 j (ready_mono hj hji)
   obtain⟨hjun,oj,hoj,hall⟩:=mem_ready.1 hj
   have hnot:∀e∈oj.after,Region.binds md e=true→e.on≠i:=fun e he hb heq=>by
    have h1:=hall e he hb
    have h0:=(mem_ready.1 hr).1
    rw[heq]at h1
    rcases Nat.lt_or_ge i listed.size with h'|h'
    ·simp[h']at h0 h1;rw[h0]at h1;cases h1
    ·simp[Array.getElem?_eq_none h']at h1
   have h2:=wpOp_putIf hoj (hfree j oj hoj hji hjun hnot) (fun cs b=>hsel i oi cs b hi) (fun cs b=>hsel j oj cs b hoj) hQ hy h1
   have hfree':∀k ok,ops[k]?=some ok→k≠i→(listed.setIfInBounds j true).getD k true=false →
       (∀e∈ok.after,Region.binds md e=true→e.on≠i)→oi.apart ops ok=true:=fun k ok hk hki hun hno=>by
    refine hfree k ok hk hki ?_ hno
    by_cases hjk:j=k
    ·subst hjk;exact hjun
    ·rw[getD_set_ne true hjk]at hun;exact hun
   have hcom:((listed.setIfInBounds i true).setIfInBounds j true).getD z true=(listed.setIfInBounds j true).getD z true:=by
    rw[Array.setIfInBounds_comm _ _ (Ne.symm hji),getD_set_ne true (Ne.symm hne)]
   refine wpOp_mono (fun a' w' h3=>⟨⟨h3.2.1.1,fun h0=>h3.2.1.2 (hcom.trans h0)⟩,ih (listed.setIfInBounds j true) a' w' hfree' (ready_mono hr (Ne.symm hji)) h3.1 h3.2.1.1 (fun h0=>h3.2.1.2 (hcom.trans h0)) ?_⟩) h2
   rw[Array.setIfInBounds_comm _ _ hji]
   exact h3.2.2
end
theorem fD{P:Program}{Q:Exit→Act→World→Prop}{S S2:World→Prop}{id:Nat}{ops:Array Oper}{a:Act}{w:World}(z:Nat)(hm:P.follows .mixedOrders=true)(h:∀wd:World,Ext w wd→cB P .any ops Q S S2 z ops.size (Array.replicate ops.size false) a wd):(Code.region id ops true).wp P Q a w :=
 wp_region_any hm (o1 _ _ _ _ (h w.drew (Ext.refl w).drew))
theorem aC5{P:Program}{md:Region.Mode}{Q:Exit→Act→World→Prop}{S S2:World→Prop}{l rest rz:List Oper}{i z:Nat}{oi oz:Oper}{v:Value}{fuel:Nat}{listed:Array Bool}{a:Act}{w:World}(hi:l.drop i=oi :: rest)(hz:l.drop z=oz :: rz)(hzi:(oz.after.toList.any fun e=>Region.binds md e && e.on == i)=true)(hne:(z == i)=false)(hzl:listed.getD z true=false)(hs:Region.noSelect l.toArray=true)(hf:Region.free md l.toArray listed i=true)(hr:(Region.ready md l.toArray listed).contains i=true)(hQ:∀c a w,Q (.panic c) (a.put oi.dst v) w→Q (.panic c) a w)(hy:YieldsIf P l.toArray S oi v a)(hS:S w)(hS2:S2 w)(h:cB P md l.toArray Q S S2 z fuel (listed.setIfInBounds i true) (a.put oi.dst v) w):cB P md l.toArray Q S S2 z (fuel+1) listed a w:=by
 refine sA (eY hi) (eY hz) ?_ (by simpa using hne) (Region.noSelect_spec hs) hQ fuel listed a w hzl (Region.free_spec (eY hi) hf) (by simpa using hr) hy hS hS2 h
 obtain⟨e,he,h2⟩:=List.any_eq_true.1 hzi
 simp only[Bool.and_eq_true,beq_iff_eq]at h2
 exact⟨e,by simpa using he,h2.1,h2.2⟩
theorem wF{P:Program}{md:Region.Mode}{Q:Exit→Act→World→Prop}{S S2:World→Prop}{l rest:List Oper}{i z:Nat}{oi:Oper}{v:Value}{fuel:Nat}{listed:Array Bool}{a:Act}{w:World}(hi:l.drop i=oi :: rest)(hne:(z == i)=false)(hs:Region.noSelect l.toArray=true)(hf:Region.free md l.toArray listed i=true)(hr:(Region.ready md l.toArray listed).contains i=true)(hQ:∀c a w,Q (.panic c) (a.put oi.dst v) w→Q (.panic c) a w)(hy:YieldsIf P l.toArray S2 oi v a)(hS:S w)(hS2:S2 w)(h:cB P md l.toArray Q S S2 z fuel (listed.setIfInBounds i true) (a.put oi.dst v) w):cB P md l.toArray Q S S2 z (fuel+1) listed a w :=
 qH (eY hi) (by simpa using hne) (Region.noSelect_spec hs) hQ fuel listed a w (Region.free_spec (eY hi) hf) (by simpa using hr) hy hS2 (fun _=>hS) h
theorem runW{P:Program}{md:Region.Mode}{Q:Exit→Act→World→Prop}{S S2:World→Prop}{l rest:List Oper}{i z:Nat}{oi:Oper}{fuel:Nat}{listed:Array Bool}{a:Act}{w:World}(hi:l.drop i=oi :: rest)(hg:oi.guard=none)(hr:Region.ready md l.toArray listed=[i])(h12:∀w,S w→S2 w)(h:∀K':Act→World→Prop,Shut (∀a w,S w→(S w→cB P md l.toArray Q S S2 z fuel (listed.setIfInBounds i true) a w)→K' a w)→Oper.wp P oi a w K' Q):cB P md l.toArray Q S S2 z (fuel+1) listed a w:=by
 refine⟨fun h0=>absurd (hr▸h0) (by simp),fun j hj=>?_⟩
 rw[hr]at hj
 obtain rfl:j=i:=by simpa using hj
 unfold wpOp
 simp only[eY hi]
 rw[if_pos (by simp[Region.wanted,hg])]
 exact .inl (h _ (show ∀a w,_ from fun a w hS hK=>⟨⟨h12 w hS,fun _=>hS⟩,hK hS⟩))
theorem aIA{P:Program}{md:Region.Mode}{Q:Exit→Act→World→Prop}{S S2:World→Prop}{l rest:List Oper}{i z:Nat}{oi:Oper}{fuel:Nat}{listed:Array Bool}{a:Act}{w:World}(hi:l.drop i=oi :: rest)(hg:Region.wanted oi (yielded l.toArray a.tmps)=true)(hr:Region.ready md l.toArray listed=[i])(h12:∀w,S w→S2 w)(h:∀K':Act→World→Prop,Shut (∀a w,S w→(S w→cB P md l.toArray Q S S2 z fuel (listed.setIfInBounds i true) a w)→K' a w)→Oper.wp P oi a w K' Q):cB P md l.toArray Q S S2 z (fuel+1) listed a w:=by
 refine⟨fun h0=>absurd (hr▸h0) (by simp),fun j hj=>?_⟩
 rw[hr]at hj
 obtain rfl:j=i:=by simpa using hj
 unfold wpOp
 simp only[eY hi]
 rw[if_pos hg]
 exact .inl (h _ (show ∀a w,_ from fun a w hS hK=>⟨⟨h12 w hS,fun _=>hS⟩,hK hS⟩))
theorem iC{P:Program}{md:Region.Mode}{Q:Exit→Act→World→Prop}{S S2:World→Prop}{l rest:List Oper}{z:Nat}{oz:Oper}{fuel:Nat}{listed:Array Bool}{a:Act}{w:World}(hi:l.drop z=oz :: rest)(hg:oz.guard=none)(hr:Region.ready md l.toArray listed=[z])(h:∀K':Act→World→Prop,Shut (∀a w,S2 w→(S2 w→wpAnyH P md l.toArray Q S2 fuel (listed.setIfInBounds z true) a w)→K' a w)→Oper.wp P oz a w K' Q):cB P md l.toArray Q S S2 z (fuel+1) listed a w:=by
 refine⟨fun h0=>absurd (hr▸h0) (by simp),fun j hj=>?_⟩
 rw[hr]at hj
 obtain rfl:j=z:=by simpa using hj
 have hz:(listed.setIfInBounds j true).getD j true=true:=by
  by_cases hl:j<listed.size
  ·simp[Array.getD,hl]
  ·simp[Array.getD,hl]
 unfold wpOp
 simp only[eY hi]
 rw[if_pos (by simp[Region.wanted,hg])]
 exact .inl (h _ (show ∀a w,_ from fun a w h2 hK=>⟨⟨h2,fun h0=>absurd hz (by rw[h0];decide)⟩,nU _ _ _ _ hz (hK h2)⟩))
theorem tW{P:Program}{md:Region.Mode}{Q:Exit→Act→World→Prop}{w0:World}{G o:Nat}{l rest rz:List Oper}{oi oz:Oper}{fuel:Nat}{listed:Array Bool}{a a':Act}{w:World}(i z:Nat)(v:Value)(hi:l.drop i=oi :: rest)(hz:l.drop z=oz :: rz)(hy:YieldsIf P l.toArray (fun W'=>Ext w0 W') oi v a)(hS:Ext w0 w)(h:cB P md l.toArray Q (fun W'=>Ext w0 W') (fun W'=>Pm G o w0 W') z fuel (listed.setIfInBounds i true) a' w)(hzi:(oz.after.toList.any fun e=>Region.binds md e && e.on == i)=true:=by kernel_rfl)(hne:(z == i)=false:=by kernel_rfl)(hzl:listed.getD z true=false:=by kernel_rfl)(ha:a.put oi.dst v=a':=by(try simp only[ps]);exact rfl)(hs:Region.noSelect l.toArray=true:=by kernel_rfl)(hf:Region.free md l.toArray listed i=true:=by kernel_rfl)(hr:(Region.ready md l.toArray listed).contains i=true:=by kernel_rfl)(hQ:∀c a w,Q (.panic c) (a.put oi.dst v) w→Q (.panic c) a w:=by exact fun _ _ _ h=>h):cB P md l.toArray Q (fun W'=>Ext w0 W') (fun W'=>Pm G o w0 W') z (fuel+1) listed a w:=aC5 hi hz hzi hne hzl hs hf hr hQ hy hS (hS.pm G o) (ha▸h)
theorem kK{P:Program}{md:Region.Mode}{Q:Exit→Act→World→Prop}{w0:World}{G o:Nat}{l rest rz:List Oper}{oi oz:Oper}{fuel:Nat}{listed:Array Bool}{a a':Act}{w:World}(i z:Nat)(v:Value)(hi:l.drop i=oi :: rest)(hz:l.drop z=oz :: rz)(hS:Ext w0 w)(h:cB P md l.toArray Q (fun W'=>Ext w0 W') (fun W'=>Pm G o w0 W') z fuel (listed.setIfInBounds i true) a' w)(hzi:(oz.after.toList.any fun e=>Region.binds md e && e.on == i)=true:=by kernel_rfl)(hne:(z == i)=false:=by kernel_rfl)(hzl:listed.getD z true=false:=by kernel_rfl)(ha:a.put oi.dst v=a':=by(try simp only[ps]);exact rfl)(hs:Region.noSelect l.toArray=true:=by kernel_rfl)(hf:Region.free md l.toArray listed i=true:=by kernel_rfl)(hr:(Region.ready md l.toArray listed).contains i=true:=by kernel_rfl)(hQ:∀c a w,Q (.panic c) (a.put oi.dst v) w→Q (.panic c) a w:=by exact fun _ _ _ h=>h)(hy:YieldsIf P l.toArray (fun W'=>Ext w0 W') oi v a:=by exact Or.inl ⟨rfl,fun _ _=>rfl⟩):cB P md l.toArray Q (fun W'=>Ext w0 W') (fun W'=>Pm G o w0 W') z (fuel+1) listed a w:=aC5 hi hz hzi hne hzl hs hf hr hQ hy hS (hS.pm G o) (ha▸h)
theorem cA{P:Program}{md:Region.Mode}{Q:Exit→Act→World→Prop}{w0:World}{G o:Nat}{l rest rz:List Oper}{oi oz:Oper}{fuel:Nat}{listed:Array Bool}{a a':Act}{w:World}(i z:Nat)(vb vo:Nat)(hi:l.drop i=oi :: rest)(hz:l.drop z=oz :: rz)(hS:Ext w0 w)(h:cB P md l.toArray Q (fun W'=>Ext w0 W') (fun W'=>Pm G o w0 W') z fuel (listed.setIfInBounds i true) a' w)(hzi:(oz.after.toList.any fun e=>Region.binds md e && e.on == i)=true:=by kernel_rfl)(hne:(z == i)=false:=by kernel_rfl)(hzl:listed.getD z true=false:=by kernel_rfl)(ha:a.put oi.dst (.pointer (some ⟨vb,vo,none⟩))=a':=by(try simp only[ps]);exact rfl)(hs:Region.noSelect l.toArray=true:=by kernel_rfl)(hf:Region.free md l.toArray listed i=true:=by kernel_rfl)(hr:(Region.ready md l.toArray listed).contains i=true:=by kernel_rfl)(hQ:∀c a w,Q (.panic c) (a.put oi.dst (.pointer (some ⟨vb,vo,none⟩))) w→Q (.panic c) a w:=by exact fun _ _ _ h=>h)(hy:YieldsIf P l.toArray (fun W'=>Ext w0 W') oi (.pointer (some ⟨vb,vo,none⟩)) a:=by exact Or.inl ⟨rfl,fun _ _=>rfl⟩):cB P md l.toArray Q (fun W'=>Ext w0 W') (fun W'=>Pm G o w0 W') z (fuel+1) listed a w:=aC5 hi hz hzi hne hzl hs hf hr hQ hy hS (hS.pm G o) (ha▸h)
theorem tV{P:Program}{md:Region.Mode}{Q:Exit→Act→World→Prop}{w0:World}{G o:Nat}{l rest:List Oper}{oi:Oper}{fuel:Nat}{listed:Array Bool}{a a':Act}{w:World}(i z:Nat)(v:Value)(hi:l.drop i=oi :: rest)(hy:YieldsIf P l.toArray (fun W'=>Pm G o w0 W') oi v a)(hS:Ext w0 w)(h:cB P md l.toArray Q (fun W'=>Ext w0 W') (fun W'=>Pm G o w0 W') z fuel (listed.setIfInBounds i true) a' w)(hne:(z == i)=false:=by kernel_rfl)(ha:a.put oi.dst v=a':=by(try simp only[ps]);exact rfl)(hs:Region.noSelect l.toArray=true:=by kernel_rfl)(hf:Region.free md l.toArray listed i=true:=by kernel_rfl)(hr:(Region.ready md l.toArray listed).contains i=true:=by kernel_rfl)(hQ:∀c a w,Q (.panic c) (a.put oi.dst v) w→Q (.panic c) a w:=by exact fun _ _ _ h=>h):cB P md l.toArray Q (fun W'=>Ext w0 W') (fun W'=>Pm G o w0 W') z (fuel+1) listed a w:=wF hi hne hs hf hr hQ hy hS (hS.pm G o) (ha▸h)
theorem tVp{P:Program}{md:Region.Mode}{Q:Exit→Act→World→Prop}{w0:World}{G o:Nat}{l rest:List Oper}{oi:Oper}{fuel:Nat}{listed:Array Bool}{a a':Act}{w:World}(i z:Nat)(v:Value)(hi:l.drop i=oi :: rest)(hS:Ext w0 w)(h:cB P md l.toArray Q (fun W'=>Ext w0 W') (fun W'=>Pm G o w0 W') z fuel (listed.setIfInBounds i true) a' w)(hne:(z == i)=false:=by kernel_rfl)(ha:a.put oi.dst v=a':=by(try simp only[ps]);exact rfl)(hs:Region.noSelect l.toArray=true:=by kernel_rfl)(hf:Region.free md l.toArray listed i=true:=by kernel_rfl)(hr:(Region.ready md l.toArray listed).contains i=true:=by kernel_rfl)(hQ:∀c a w,Q (.panic c) (a.put oi.dst v) w→Q (.panic c) a w:=by exact fun _ _ _ h=>h)(hy:YieldsIf P l.toArray (fun W'=>Pm G o w0 W') oi v a:=by exact Or.inl ⟨rfl,fun _ _=>rfl⟩):cB P md l.toArray Q (fun W'=>Ext w0 W') (fun W'=>Pm G o w0 W') z (fuel+1) listed a w:=wF hi hne hs hf hr hQ hy hS (hS.pm G o) (ha▸h)
theorem gV{P:Program}{md:Region.Mode}{Q:Exit→Act→World→Prop}{w0:World}{G o:Nat}{l rest:List Oper}{oi:Oper}{fuel:Nat}{listed:Array Bool}{a a':Act}{w:World}(i z:Nat)(vb vo:Nat)(hi:l.drop i=oi :: rest)(hS:Ext w0 w)(h:cB P md l.toArray Q (fun W'=>Ext w0 W') (fun W'=>Pm G o w0 W') z fuel (listed.setIfInBounds i true) a' w)(hne:(z == i)=false:=by kernel_rfl)(ha:a.put oi.dst (.pointer (some ⟨vb,vo,none⟩))=a':=by(try simp only[ps]);exact rfl)(hs:Region.noSelect l.toArray=true:=by kernel_rfl)(hf:Region.free md l.toArray listed i=true:=by kernel_rfl)(hr:(Region.ready md l.toArray listed).contains i=true:=by kernel_rfl)(hQ:∀c a w,Q (.panic c) (a.put oi.dst (.pointer (some ⟨vb,vo,none⟩))) w→Q (.panic c) a w:=by exact fun _ _ _ h=>h)(hy:YieldsIf P l.toArray (fun W'=>Pm G o w0 W') oi (.pointer (some ⟨vb,vo,none⟩)) a:=by exact Or.inl ⟨rfl,fun _ _=>rfl⟩):cB P md l.toArray Q (fun W'=>Ext w0 W') (fun W'=>Pm G o w0 W') z (fuel+1) listed a w:=wF hi hne hs hf hr hQ hy hS (hS.pm G o) (ha▸h)
end Go.Proofs.YtpanapepcbbagaaGreat
namespace Go.Proofs.YtpanapepcbbagaaGreat
open Go.RowKit
theorem zC(n b:Nat)(w:World)(hn:n<18446744073709551616)(hb:b<64):
    Calls Tryz.prog 180 #[.int .u64 n,.int .u64 b] w fun e w'=>e=.returned (.int .u64 ((n % 2 ^ b:Nat):Int))∧w=w':=by
 have hm:=aCX n b hn hb
 go_enter Tryz.func180,Tryz.ntmps180
 go_wp2
 go_ret
 refine⟨?_,rfl⟩
 show Ending.returned (Value.int .u64 _)=_
 exact congrArg (fun x=>Ending.returned (.int .u64 x)) (by simp)
theorem jP(x:Int)(w:World)(h2:0≤x)(h3:x<18446744073709551616):
    Calls Tryz.prog 162 #[.int .u64 x] w fun e w'=>e=.returned (.int .u64 (x % 281474976710656))∧w=w':=by
 obtain⟨x,rfl⟩:=Int.eq_ofNat_of_zero_le h2
 go_enter Tryz.func162,Tryz.ntmps162
 go_wp2_with fail
 refine(zC x 48 _ (by omega) (by decide)).mono ?_
 rintro e w1 ⟨rfl,rfl⟩
 go_wp2
 go_ret
 exact⟨lL (by omega),rfl⟩
theorem oJ(x:Int)(w:World)(h2:0≤x)(h3:x<65536):
    Calls Tryz.prog 189 #[.int .u16 x] w fun e w'=>e=.returned (.int .u16 (x % 4096))∧w=w':=by
 obtain⟨x,rfl⟩:=Int.eq_ofNat_of_zero_le h2
 go_enter Tryz.func189,Tryz.ntmps189
 go_wp2_with fail
 refine(zC x 12 _ (by omega) (by decide)).mono ?_
 rintro e w1 ⟨rfl,rfl⟩
 go_wp2
 go_ret
 exact⟨lL (by omega),rfl⟩
end Go.Proofs.YtpanapepcbbagaaGreat
