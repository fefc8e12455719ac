/- Part 2 of what BridgeHold stands on. No statement is proved here. -/
import Derived.Laws.StructEq
import Derived.Deep.RegionHeld3
import Derived.Test.YtpanapepcbbagaaGreatBpa
set_option linter.unusedVariables false
set_option linter.unusedSimpArgs false
set_option maxRecDepth 100000
set_option maxHeartbeats 8000000
namespace Go.Proofs.YtpanapepcbbagaaGreat
open Go.RowKit Go.BigFrame Go.WideShapes Go.ChangeShapes Go.Deep
def Pv(w:World)(G o:Nat)(L:List Value):Prop:=∃C T,w.heap[G]?=some (.cells C T (0,0))∧L.length=89∧(C.toList.drop o).take 89=L
def Pm(G o:Nat)(w w':World):Prop:=Mut (fun n=>n=G) w w'∧∀C T,w.heap[G]?=some (.cells C T (0,0))→∃C',w'.heap[G]?=some (.cells C' T (0,0))∧C'.size=C.size∧∀i,(i<o∨o+89≤i)→C'[i]?=C[i]?
theorem Pv.lt{w:World}{G o:Nat}{L:List Value}(h:Pv w G o L):G<w.heap.size:=by obtain⟨C,T,h1,_⟩:=h;exact heap_lt h1
theorem Pv.len{w:World}{G o:Nat}{L:List Value}(h:Pv w G o L):L.length=89:=by obtain⟨C,T,_,h2,_⟩:=h;exact h2
theorem Pv.keep{w w':World}{G o:Nat}{L:List Value}(h:Pv w G o L)(hk:w'.heap[G]?=w.heap[G]?):Pv w' G o L:=by obtain⟨C,T,h1,h2,h3⟩:=h;exact⟨C,T,hk.trans h1,h2,h3⟩
theorem Pv.ext{w w':World}{G o:Nat}{L:List Value}(h:Pv w G o L)(hx:Ext w w'):Pv w' G o L:=h.keep (hx.block _ h.lt)
theorem Pv.mut{w w':World}{G o B:Nat}{L:List Value}(h:Pv w G o L)(hm:Mut (fun n=>n=B) w w')(hne:G≠B):Pv w' G o L:=h.keep (hm.heap h.lt hne)
theorem Pv.cell{w:World}{G o:Nat}{L:List Value}(h:Pv w G o L){j:Nat}(hj:j<89):w.cell? ⟨G,o+j,none⟩=L[j]?:=by
 obtain⟨C,T,h1,h2,rfl⟩:=h
 rw[cell_of_row _ _ _ _ _ _ h1,List.getElem?_take,if_pos hj,List.getElem?_drop]
 simp
theorem Pv.range{w:World}{G o:Nat}{L:List Value}(h:Pv w G o L){j n:Nat}{l:List Value}(hl:(L.drop j).take n=l)(hn:j+n≤89):w.rangeAt G (o+j) l:=fun i v hv=>by
 subst hl
 rw[List.getElem?_take]at hv
 split at hv
 ·rw[List.getElem?_drop]at hv
  rw[show o+j+i=o+(j+i) by omega,h.cell (by omega)]
  exact hv
 ·cases hv
theorem Pv.box{w:World}{X:Nat}{L:List Value}{T:TypeId}(h:w.heap[X]?=some (.cells L.toArray T (0,0)))(hl:L.length=89):Pv w X 0 L:=⟨_,T,h,hl,by simp[←hl]⟩
theorem Pm.refl(G o:Nat)(w:World):Pm G o w w:=⟨Mut.refl _ _,fun C T h=>⟨C,h,rfl,fun _ _=>rfl⟩⟩
theorem Pm.trans{G o:Nat}{a b c:World}(h:Pm G o a b)(k:Pm G o b c):Pm G o a c:=by
 refine⟨h.1.trans k.1,fun C T h0=>?_⟩
 obtain⟨C1,h1,s1,e1⟩:=h.2 C T h0
 obtain⟨C2,h2,s2,e2⟩:=k.2 C1 T h1
 exact⟨C2,h2,s2.trans s1,fun i hi=>(e2 i hi).trans (e1 i hi)⟩
theorem Ext.pm{a b:World}(h:Ext a b)(G o:Nat):Pm G o a b:=⟨h.mut _,fun C T h0=>⟨C,(h.block _ (heap_lt h0)).trans h0,rfl,fun _ _=>rfl⟩⟩
theorem Pm.ext{G o:Nat}{a b c:World}(h:Pm G o a b)(k:Ext b c):Pm G o a c:=h.trans (k.pm G o)
theorem Pm.row{G o X:Nat}{a b:World}{x:Obj}(h:Pm G o a b)(hX:a.heap[X]?=some x)(hne:X≠G):b.heap[X]?=some x:=(h.1.heap (heap_lt hX) hne).trans hX
def setL(L:List Value)(j:Nat)(vs:List Value):List Value:=L.take j++vs++L.drop (j+vs.length)
theorem setL_len{L:List Value}{j:Nat}{vs:List Value}(hj:j+vs.length≤L.length):(setL L j vs).length=L.length:=by unfold setL;simp;omega
theorem setL_at{L:List Value}{j:Nat}{vs:List Value}(hj:j+vs.length≤L.length)(i:Nat):(setL L j vs)[i]?=if j≤i∧i<j+vs.length then vs[i - j]? else L[i]?:=by
 unfold setL
 have hz:(L.take j).length=j:=by rw[List.length_take];omega
 rw[List.append_assoc]
 by_cases h1:i<j
 ·rw[List.getElem?_append_left (by omega),List.getElem?_take,if_pos h1,if_neg (by omega)]
 ·rw [List.getElem?_append_right (by omega),hz]
  by_cases h2:i<j+vs.length
  ·rw[List.getElem?_append_left (by omega),if_pos (by omega)]
  ·rw[List.getElem?_append_right (by omega),if_neg (by omega),List.getElem?_drop]
   congr 1;omega
theorem setL_one{L:List Value}{j:Nat}(v:Value)(hj:j<L.length):setL L j [v]=L.set j v:=by
 apply List.ext_getElem?
 intro i
 rw[setL_at (by simp;omega),List.getElem?_set]
 by_cases e:j=i
 ·subst e;simp[hj]
 ·rw[if_neg e,if_neg (by simp;omega)]
theorem pv_store{w w':World}{G o j:Nat}{L:List Value}{vs:List Value}{C:Array Value}{T:TypeId}(h0:w.heap[G]?=some (.cells C T (0,0)))(hl:L.length=89)(he:(C.toList.drop o).take 89=L)(hj:j+vs.length≤89)(hr:w'.heap[G]?=some (.cells (C.toList.take (o+j)++vs++C.toList.drop (o+j+vs.length)).toArray T (0,0)))(hm:Mut (fun n=>n=G) w w'):Pv w' G o (setL L j vs)∧Pm G o w w':=by
 have hCs:o+89≤C.size:=by rw[←he]at hl;simp at hl;omega
 have at_:∀i,(C.toList.take (o+j)++vs++C.toList.drop (o+j+vs.length))[i]?=if o+j≤i∧i<o+j+vs.length then vs[i - (o+j)]? else C.toList[i]?:=fun i=>by
  have:=setL_at (L:=C.toList) (j:=o+j) (vs:=vs) (by simp;omega) i
  unfold setL at this
  exact this
 refine⟨⟨_,T,hr,by rw[setL_len (by omega),hl],?_⟩,hm,fun C0 T0 h1=>?_⟩
 ·apply List.ext_getElem?
  intro i
  rw[setL_at (by omega),←he]
  by_cases hi:i<89
  ·rw [List.getElem?_take,if_pos hi,List.getElem?_drop]
   simp only[]
   rw[at_,List.getElem?_take,if_pos hi,List.getElem?_drop]
   by_cases h2:j≤i∧i<j+vs.length
   ·rw[if_pos (by omega),if_pos h2]
    congr 1;omega
   ·rw[if_neg (by omega),if_neg h2]
  ·rw[List.getElem?_eq_none (by simp;omega),if_neg (by omega),List.getElem?_eq_none (by simp;omega)]
 ·rw[h0]at h1
  cases h1
  refine⟨_,hr,by simp;omega,fun i hi=>?_⟩
  rw[←Array.getElem?_toList,←Array.getElem?_toList]
  simp only[]
  rw[at_,if_neg (by omega)]
theorem st_pv{P:Program}{ops:Array Oper}{rest:List Oper}{op:Oper}{a:Act}{w:World}{Q:Exit→Act→World→Prop}(hgd:op.guard=none)(hdst:op.dst=none)(ty:TypeId)(x y:Operand)(ho:op.op=.store ty x y)(G o j:Nat)(L:List Value)(hp:Pv w G o L)(u:Value)(vs:Array Value)(hx:a.eval x=.pointer (some ⟨G,o+j,none⟩))(hy:a.eval y=u)(hv:u.cells=vs)(hj:j+vs.size≤89)(hi:(P.info? ty).map (·.size)=some vs.size)(h1:vs.toList.all (·.oneCell')=true)(h:∀w',Pv w' G o (setL L j vs.toList)→Pm G o w w'→wpList P ops Q rest a w'):wpList P ops Q (op :: rest) a w:=by
 obtain⟨C,T,h0,hl,he⟩:=hp
 have hCs:o+89≤C.size:=by rw[←he]at hl;simp at hl;omega
 refine st_at hgd hdst ty x y ho G (o+j) u vs C _ T hx hy hv h0 (by omega) hi h1 rfl (fun w' hr hm=>?_)
 obtain⟨a1,a2⟩:=pv_store (vs:=vs.toList) h0 hl he (by simpa using hj) (by simpa using hr) hm
 exact h w' a1 a2
theorem wp_st_pv{P:Program}{op:Oper}{a:Act}{w:World}{K:Act→World→Prop}{Q:Exit→Act→World→Prop}(hdst:op.dst=none)(ty:TypeId)(x y:Operand)(ho:op.op=.store ty x y)(G o j:Nat)(L:List Value)(hp:Pv w G o L)(u:Value)(vs:Array Value)(hx:a.eval x=.pointer (some ⟨G,o+j,none⟩))(hy:a.eval y=u)(hv:u.cells=vs)(hj:j+vs.size≤89)(hi:(P.info? ty).map (·.size)=some vs.size)(h1:vs.toList.all (·.oneCell')=true)(h:∀w',Pv w' G o (setL L j vs.toList)→Pm G o w w'→K a w'):op.wp P a w K Q:=by
 obtain⟨C,T,h0,hl,he⟩:=hp
 have hCs:o+89≤C.size:=by rw[←he]at hl;simp at hl;omega
 refine wp_st_at hdst ty x y ho G (o+j) u vs C _ T hx hy hv h0 (by omega) hi h1 rfl (fun w' hr hm=>?_)
 obtain⟨a1,a2⟩:=pv_store (vs:=vs.toList) h0 hl he (by simpa using hj) (by simpa using hr) hm
 exact h w' a1 a2
theorem BrG.pv{w:World}{F:Nat→Prop}{X g k:Nat}{B:Br}(h:BrG w F X g B)(hk:k<B.np):Pv w g (k*89) (port B.ps k):=by
 obtain⟨h1,h2,cap,cur,s2,s3,a,b,c,d,e,f,rest⟩:=h
 have hle:(k+1)*89≤B.np*89:=Nat.mul_le_mul_right _ hk
 have hcap:B.np*89≤cap*89:=Nat.mul_le_mul_right _ d
 refine⟨cur,_,b,?_,?_⟩
 ·rw[←f];unfold port;simp;omega
 ·rw[←f]
  unfold port
  rw[List.drop_take,List.take_take,Nat.min_eq_left (by omega)]
theorem BrG.pm{w w':World}{F:Nat→Prop}{X g k:Nat}{B:Br}(h:BrG w F X g B)(hk:k<B.np)(hm:Pm g (k*89) w w'){L:List Value}(hp:Pv w' g (k*89) L):BrG w' F X g (B.setPort k L):=by
 have hlt:=h.lt
 obtain⟨h1,h2,cap,cur,s2,s3,a,b,c,d,e,f,p,q,r,s⟩:=h
 have hle:(k+1)*89≤B.np*89:=Nat.mul_le_mul_right _ hk
 have hcap:B.np*89≤cap*89:=Nat.mul_le_mul_right _ d
 have hps:B.ps.length=B.np*89:=by rw[←f];simp;omega
 obtain⟨C',hC',hs',he'⟩:=hm.2 _ _ b
 obtain⟨C2,T2,g1,g2,g3⟩:=hp
 rw[hC']at g1
 cases g1
 have own:∀{e:TypeId} {m n:Nat} {v:Value} {xs:List Value},e≠60→w.ownsRow 0 e m v n xs→w'.ownsRow 0 e m v n xs:=fun {e m n v xs} hne ho=>by
  refine⟨ho.1,?_⟩
  rcases ho.2 with h0|⟨g3,c3,cu3,e1,e2,e3,rest⟩
  ·exact .inl h0
  ·refine .inr ⟨g3,c3,cu3,e1,e2,?_,rest⟩
   have hgg:g3≠g:=fun e0=>by
    subst e0
    rw[b]at e3
    cases e3
    exact hne rfl
   exact hm.row e3 hgg
 refine⟨h1,h2,cap,C',s2,s3,hm.row a hlt.2.2,hC',by omega,d,e,?_,own (by decide) p,own (by decide) q,r,s⟩
 apply List.ext_getElem?
 intro i
 rw[setPort_at g2 (by omega),List.getElem?_take,show(B.setPort k L).np=B.np from rfl]
 by_cases hi:i<B.np*89
 ·rw [if_pos hi]
  by_cases h3:k*89≤i∧i<k*89+89
  ·rw[if_pos h3,←g3,List.getElem?_take,if_pos (by omega),List.getElem?_drop]
   congr 1;omega
  ·rw[if_neg h3,Array.getElem?_toList,he' i (by omega),←f,List.getElem?_take,if_pos hi,Array.getElem?_toList]
 ·rw[if_neg hi,if_neg (by omega),List.getElem?_eq_none (by omega)]
theorem Pm.mutF{G o:Nat}{F:Nat→Prop}{a b:World}(h:Pm G o a b)(hG:F G):Mut F a b:=h.1.mono (fun n _ e=>by have h2:n=G:=e;rw[h2];exact hG)
def pI(L:List Value)(j:Nat):Int:=match L[j]? with|some (.int _ z)=>z|_=>0
def pB(L:List Value)(j:Nat):Bool:=match L[j]? with|some (.bool z)=>z|_=>false
theorem tpB{L:List Value}(h:Typed PL L)(j:Nat)(hj:PL[j]?=some none):L[j]?=some (.bool (pB L j)):=by
 obtain⟨b,hb⟩:=h.bool j hj
 rw[hb,pB,hb]
theorem tpI{L:List Value}(h:Typed PL L)(j:Nat){K:IntKind}(hj:PL[j]?=some (some K)):L[j]?=some (.int K (pI L j)):=by
 obtain⟨z,hz,_⟩:=h.int j K hj
 rw[hz,pI,hz]
theorem tpW{L:List Value}(h:Typed PL L)(j:Nat){K:IntKind}(hj:PL[j]?=some (some K)):(Lit.int K (pI L j)).wf=true:=by
 obtain⟨z,hz,hw⟩:=h.int j K hj
 rw[pI,hz];exact hw
theorem tpL{L:List Value}(h:Typed PL L):L.length=89:=h.1
theorem Typed.setL{l:List (Option IntKind)}{L:List Value}(h:Typed l L){j:Nat}{vs:List Value}(hj:j+vs.length≤l.length)(hv:Typed ((l.drop j).take vs.length) vs):Typed l (setL L j vs):=by
 have hl:=h.1
 refine⟨by rw[setL_len (by omega),hl],fun i k hi=>?_⟩
 rw[setL_at (by omega)]
 by_cases e:j≤i∧i<j+vs.length
 ·rw[if_pos e]
  refine hv.2 (i - j) k ?_
  rw[List.getElem?_take,if_pos (by omega),List.getElem?_drop,show j+(i - j)=i by omega]
  exact hi
 ·rw[if_neg e];exact h.2 i k hi
theorem seg_of{L l:List Value}{j:Nat}(hl:j+l.length≤L.length)(h:∀i,i<l.length→L[j+i]?=l[i]?):(L.drop j).take l.length=l:=by
 apply List.ext_getElem?
 intro i
 by_cases hi:i<l.length
 ·rw[List.getElem?_take,if_pos hi,List.getElem?_drop,h i hi]
 ·rw[List.getElem?_eq_none (by simp;omega),List.getElem?_eq_none (by omega)]
theorem len_set'{L:List Value}{j:Nat}{v:Value}(h:L.length=89):(L.set j v).length=89:=by simpa using h
theorem get_same{L:List Value}{j:Nat}{v:Value}(h:L.length=89)(hj:j<89):(L.set j v)[j]?=some v:=by simp[h,hj]
theorem get_ne{L:List Value}{i j:Nat}{v:Value}(h:i≠j):(L.set i v)[j]?=L[j]?:=by simp[h]
theorem br_typed{B:Br}(ho:B.ok){k:Nat}(hk:k<B.np):Typed PL (port B.ps k):=ho.ps.2 k hk
theorem pv_one{w:World}{G o j:Nat}{L:List Value}{v:Value}(h:Pv w G o (setL L j [v]))(hl:L.length=89)(hj:j<89):Pv w G o (L.set j v):=by
 rw[setL_one v (by omega)]at h
 exact h
theorem len_setL{L vs:List Value}{j:Nat}(h:L.length=89)(hj:j+vs.length≤89):(setL L j vs).length=89:=by rw[setL_len (by omega),h]
theorem get_out{L vs:List Value}{i j:Nat}(h:L.length=89)(hj:j+vs.length≤89)(hi:i<j∨j+vs.length≤i):(setL L j vs)[i]?=L[i]?:=by
 rw[setL_at (by omega),if_neg (by omega)]
theorem seg_ne{L:List Value}{i j n:Nat}{v:Value}(h:i<j∨j+n≤i):((L.set i v).drop j).take n=(L.drop j).take n:=by
 apply List.ext_getElem?
 intro m
 rw[List.getElem?_take,List.getElem?_take]
 split
 ·rw[List.getElem?_drop,List.getElem?_drop,List.getElem?_set_ne (by omega)]
 ·rfl
theorem at_box(T:TypeId){P:Program}{ops:Array Oper}{rest:List Oper}{a:Act}{w:World}{Q:Exit→Act→World→Prop}{d:Option Tmp}{x:Operand}{ty:TypeId}{pos:String}{after:Array Edge}(h:wpList P ops Q ({ dst:=d,op:=.box T x,type:=ty,pos:=pos,after:=after,guard:=none } :: rest) a w):wpList P ops Q ({ dst:=d,op:=.box T x,type:=ty,pos:=pos,after:=after,guard:=none } :: rest) a w:=h
theorem bx_row{P:Program}{ops:Array Oper}{rest:List Oper}{op:Oper}{a:Act}{w:World}{Q:Exit→Act→World→Prop}(hgd:op.guard=none)(t:TypeId)(x:Operand)(ho:op.op=.box t x)(cells:Array Value)(hx:(a.eval x).cells=cells)(h:∀(X:Nat) (w':World),w'.heap[X]?=some (.cells cells t (0,0))→w.heap.size=X→Ext w w'→wpList P ops Q rest (a.put op.dst (.pointer (some ⟨X,0,none⟩))) w'):wpList P ops Q (op :: rest) a w:=by
 subst hx
 refine wpList_plain hgd fun K hK=>?_
 unfold Oper.wp execOp
 simp only[ho,Sem.run_bind,Instr.box,newVar,newRow,run_newObj_alloc,Sem.run_pure,Result.andThen_ok]
 exact hK _ _ (h _ _ (heap_alloc_new _ _) rfl ((Ext.refl w).alloc _))
theorem tset_b{L:List Value}(h:Typed PL L)(j:Nat)(z:Bool)(hj:PL[j]?=some none):Typed PL (L.set j (.bool z)):=h.set j _ (fun k hk=>by rw[hj]at hk;cases hk;exact⟨z,rfl⟩)
theorem tset_i{L:List Value}(h:Typed PL L)(j:Nat)(K:IntKind)(z:Int)(hj:PL[j]?=some (some K))(hz:(Lit.int K z).wf=true):Typed PL (L.set j (.int K z)):=h.set j _ (fun k hk=>by rw[hj]at hk;cases hk;exact⟨z,rfl,hz⟩)
section
variable {P:Program} {ops:Array Oper} {Q:Exit→Act→World→Prop} {md:Region.Mode} {S S2:World→Prop} {z:Nat}
def wpAnyW(P:Program)(md:Region.Mode)(ops:Array Oper)(Q:Exit→Act→World→Prop)(S S2:World→Prop)(z:Nat):Nat→Array Bool→Act→World→Prop
 | 0,listed,a,w=>Region.ready md ops listed=[]∧Q .normal a w
 | fuel+1,listed,a,w =>
  (Region.ready md ops listed=[]→Q .normal a w) ∧
  ∀i∈Region.ready md ops listed,wpOp P ops Q i (fun a' w'=>(S2 w'∧((listed.setIfInBounds i true).getD z true=false→S w'))∧wpAnyW P md ops Q S S2 z fuel (listed.setIfInBounds i true) a' w') a w
theorem wpAny_of_w:∀(fuel:Nat) (listed:Array Bool) (a:Act) (w:World),wpAnyW P md ops Q S S2 z fuel listed a w→wpAny P md ops Q fuel listed a w
 | 0,_,_,_,h=>h
 | fuel+1,_,_,_,h=>⟨h.1,fun i hi=>wpOp_mono (fun a' w' h'=>wpAny_of_w fuel _ a' w' h'.2) (h.2 i hi)⟩
theorem wpAnyW_of_H:∀(fuel:Nat) (listed:Array Bool) (a:Act) (w:World),listed.getD z true=true→wpAnyH P md ops Q S2 fuel listed a w→wpAnyW P md ops Q S S2 z fuel listed a w
 | 0,_,_,_,_,h=>h
 | fuel+1,listed,_,_,hz,h=>⟨h.1,fun i hi=>wpOp_mono (fun a' w' h'=>⟨⟨h'.1,fun h0=>absurd (getD_set_z listed i hz) (by rw[h0];decide)⟩,wpAnyW_of_H fuel _ a' w' (getD_set_z listed i hz) h'.2⟩) (h.2 i hi)⟩
theorem wpAnyW_first{i:Nat}{oi oz:Oper}{v:Value}(hi:ops[i]?=some oi)(hz:ops[z]?=some oz)(hzi:∃e∈oz.after,Region.binds md e=true∧e.on=i)(hne:z≠i)(hsel:∀(j:Nat) (o:Oper) cs b,ops[j]?=some o→o.op≠.select cs b)(hQ:∀c a w,Q (.panic c) (a.put oi.dst v) w→Q (.panic c) a w):
    ∀ (fuel:Nat) (listed:Array Bool) (a:Act) (w:World),listed.getD z true=false →
     (∀j oj,ops[j]?=some oj→j≠i→listed.getD j true=false→(∀e∈oj.after,Region.binds md e=true→e.on≠i)→oi.apart ops oj=true) →
     i∈Region.ready md ops listed→YieldsIf P ops S oi v a→S w→S2 w →
     wpAnyW P md ops Q S S2 z fuel (listed.setIfInBounds i true) (a.put oi.dst v) w→wpAnyW P md ops Q S S2 z (fuel+1) listed a w:=by
 intro fuel
 induction fuel with
 | zero =>
  intro listed a w _ _ hr hy hS h2 H
  refine⟨fun h=>(by rw[h]at hr;cases hr),fun j hj=>?_⟩
  by_cases hji:j=i
  ·subst hji;exact hy.wpOp hi hS ⟨⟨h2,fun _=>hS⟩,H⟩
  ·have:=ready_mono hj hji
   rw[H.1]at this
   cases this
 | succ fuel ih =>
  intro listed a w hzl hfree hr hy hS hS2 H
  refine⟨fun h=>(by rw[h]at hr;cases hr),fun j hj=>?_⟩
  by_cases hji:j=i
  ·subst hji;exact hy.wpOp hi hS ⟨⟨hS2,fun _=>hS⟩,H⟩
  ·have h1:=H.2 j (ready_mono hj hji)
   obtain⟨hjun,oj,hoj,hall⟩:=mem_ready.1 hj
   have hnot:∀e∈oj.after,Region.binds md e=true→e.on≠i:=fun e he hb heq=>by
    have h1:=hall e he hb
    have h0:=(mem_ready.1 hr).1
    rw[heq]at h1
    rcases Nat.lt_or_ge i listed.size with h'|h'
    ·simp[h']at h0 h1;rw[h0]at h1;cases h1
    ·simp[Array.getElem?_eq_none h']at h1
   have hjz:j≠z:=fun e=>by
    subst e
    obtain⟨e,he,hb,hon⟩:=hzi
    rw[hoj]at hz
    cases hz
    exact hnot e he hb hon
   have h2:=wpOp_putIf hoj (hfree j oj hoj hji hjun hnot) (fun cs b=>hsel i oi cs b hi) (fun cs b=>hsel j oj cs b hoj) hQ hy h1
   have hfree':∀k ok,ops[k]?=some ok→k≠i→(listed.setIfInBounds j true).getD k true=false →
       (∀e∈ok.after,Region.binds md e=true→e.on≠i)→oi.apart ops ok=true:=fun k ok hk hki hun hno=>by
    refine hfree k ok hk hki ?_ hno
    by_cases hjk:j=k
    ·subst hjk;exact hjun
    ·rw[getD_set_ne true hjk]at hun;exact hun
   have hzj:(listed.setIfInBounds j true).getD z true=false:=by rw[getD_set_ne true hjz];exact hzl
   have hzij:((listed.setIfInBounds i true).setIfInBounds j true).getD z true=false:=by rw[getD_set_ne true hjz,getD_set_ne true (Ne.symm hne)];exact hzl
   refine wpOp_mono (fun a' w' h3=>⟨⟨h3.2.1.1,fun _=>h3.2.1.2 hzij⟩,ih (listed.setIfInBounds j true) a' w' hzj hfree' (ready_mono hr (Ne.symm hji)) h3.1 (h3.2.1.2 hzij) h3.2.1.1 ?_⟩) h2
   rw[Array.setIfInBounds_comm _ _ hji]
   exact h3.2.2
theorem wpAnyW_firstB{i:Nat}{oi:Oper}{v:Value}(hi:ops[i]?=some oi)(hne:z≠i)(hsel:∀(j:Nat) (o:Oper) cs b,ops[j]?=some o→o.op≠.select cs b)(hQ:∀c a w,Q (.panic c) (a.put oi.dst v) w→Q (.panic c) a w):
    ∀ (fuel:Nat) (listed:Array Bool) (a:Act) (w:World),
     (∀j oj,ops[j]?=some oj→j≠i→listed.getD j true=false→(∀e∈oj.after,Region.binds md e=true→e.on≠i)→oi.apart ops oj=true) →
     i∈Region.ready md ops listed→YieldsIf P ops S2 oi v a→S2 w→(listed.getD z true=false→S w) →
     wpAnyW P md ops Q S S2 z fuel (listed.setIfInBounds i true) (a.put oi.dst v) w→wpAnyW P md ops Q S S2 z (fuel+1) listed a w:=by
 intro fuel
 induction fuel with
 | zero =>
  intro listed a w _ hr hy h2 hS H
  refine⟨fun h=>(by rw[h]at hr;cases hr),fun j hj=>?_⟩
  by_cases hji:j=i
  ·subst hji;exact hy.wpOp hi h2 ⟨⟨h2,fun h0=>hS (by rw[getD_set_ne true (Ne.symm hne)]at h0;exact h0)⟩,H⟩
  ·have:=ready_mono hj hji
   rw[H.1]at this
   cases this
 | succ fuel ih =>
  intro listed a w hfree hr hy hS2 hS H
  refine⟨fun h=>(by rw[h]at hr;cases hr),fun j hj=>?_⟩
  by_cases hji:j=i
  ·subst hji;exact hy.wpOp hi hS2 ⟨⟨hS2,fun h0=>hS (by rw[getD_set_ne true (Ne.symm hne)]at h0;exact h0)⟩,H⟩
  ·have h1:=H.2 j (ready_mono hj hji)
   obtain⟨hjun,oj,hoj,hall⟩:=mem_ready.1 hj
   have hnot:∀e∈oj.after,Region.binds md e=true→e.on≠i:=fun e he hb heq=>by
    have h1:=hall e he hb
    have h0:=(mem_ready.1 hr).1
    rw[heq]at h1
    rcases Nat.lt_or_ge i listed.size with h'|h'
    ·simp[h']at h0 h1;rw[h0]at h1;cases h1
    ·simp[Array.getElem?_eq_none h']at h1
   have h2:=wpOp_putIf hoj (hfree j oj hoj hji hjun hnot) (fun cs b=>hsel i oi cs b hi) (fun cs b=>hsel j oj cs b hoj) hQ hy h1
   have hfree':∀k ok,ops[k]?=some ok→k≠i→(listed.setIfInBounds j true).getD k true=false →
       (∀e∈ok.after,Region.binds md e=true→e.on≠i)→oi.apart ops ok=true:=fun k ok hk hki hun hno=>by
    refine hfree k ok hk hki ?_ hno
    by_cases hjk:j=k
    ·subst hjk;exact hjun
    ·rw[getD_set_ne true hjk]at hun;exact hun
   have hcom:((listed.setIfInBounds i true).setIfInBounds j true).getD z true=(listed.setIfInBounds j true).getD z true:=by
    rw[Array.setIfInBounds_comm _ _ (Ne.symm hji),getD_set_ne true (Ne.symm hne)]
   refine wpOp_mono (fun a' w' h3=>⟨⟨h3.2.1.1,fun h0=>h3.2.1.2 (hcom.trans h0)⟩,ih (listed.setIfInBounds j true) a' w' hfree' (ready_mono hr (Ne.symm hji)) h3.1 h3.2.1.1 (fun h0=>h3.2.1.2 (hcom.trans h0)) ?_⟩) h2
   rw[Array.setIfInBounds_comm _ _ hji]
   exact h3.2.2
end
theorem beginW{P:Program}{Q:Exit→Act→World→Prop}{S S2:World→Prop}{id:Nat}{ops:Array Oper}{a:Act}{w:World}(z:Nat)(hm:P.follows .mixedOrders=true)(h:∀wd:World,Ext w wd→wpAnyW P .any ops Q S S2 z ops.size (Array.replicate ops.size false) a wd):(Code.region id ops true).wp P Q a w :=
 wp_region_any hm (wpAny_of_w _ _ _ _ (h w.drew (Ext.refl w).drew))
theorem takeW{P:Program}{md:Region.Mode}{Q:Exit→Act→World→Prop}{S S2:World→Prop}{l rest rz:List Oper}{i z:Nat}{oi oz:Oper}{v:Value}{fuel:Nat}{listed:Array Bool}{a:Act}{w:World}(hi:l.drop i=oi :: rest)(hz:l.drop z=oz :: rz)(hzi:(oz.after.toList.any fun e=>Region.binds md e && e.on == i)=true)(hne:(z == i)=false)(hzl:listed.getD z true=false)(hs:Region.noSelect l.toArray=true)(hf:Region.free md l.toArray listed i=true)(hr:(Region.ready md l.toArray listed).contains i=true)(hQ:∀c a w,Q (.panic c) (a.put oi.dst v) w→Q (.panic c) a w)(hy:YieldsIf P l.toArray S oi v a)(hS:S w)(hS2:S2 w)(h:wpAnyW P md l.toArray Q S S2 z fuel (listed.setIfInBounds i true) (a.put oi.dst v) w):wpAnyW P md l.toArray Q S S2 z (fuel+1) listed a w:=by
 refine wpAnyW_first (at_drop hi) (at_drop hz) ?_ (by simpa using hne) (Region.noSelect_spec hs) hQ fuel listed a w hzl (Region.free_spec (at_drop hi) hf) (by simpa using hr) hy hS hS2 h
 obtain⟨e,he,h2⟩:=List.any_eq_true.1 hzi
 simp only[Bool.and_eq_true,beq_iff_eq]at h2
 exact⟨e,by simpa using he,h2.1,h2.2⟩
theorem takeWb{P:Program}{md:Region.Mode}{Q:Exit→Act→World→Prop}{S S2:World→Prop}{l rest:List Oper}{i z:Nat}{oi:Oper}{v:Value}{fuel:Nat}{listed:Array Bool}{a:Act}{w:World}(hi:l.drop i=oi :: rest)(hne:(z == i)=false)(hs:Region.noSelect l.toArray=true)(hf:Region.free md l.toArray listed i=true)(hr:(Region.ready md l.toArray listed).contains i=true)(hQ:∀c a w,Q (.panic c) (a.put oi.dst v) w→Q (.panic c) a w)(hy:YieldsIf P l.toArray S2 oi v a)(hS:S w)(hS2:S2 w)(h:wpAnyW P md l.toArray Q S S2 z fuel (listed.setIfInBounds i true) (a.put oi.dst v) w):wpAnyW P md l.toArray Q S S2 z (fuel+1) listed a w :=
 wpAnyW_firstB (at_drop hi) (by simpa using hne) (Region.noSelect_spec hs) hQ fuel listed a w (Region.free_spec (at_drop hi) hf) (by simpa using hr) hy hS2 (fun _=>hS) h
theorem runW{P:Program}{md:Region.Mode}{Q:Exit→Act→World→Prop}{S S2:World→Prop}{l rest:List Oper}{i z:Nat}{oi:Oper}{fuel:Nat}{listed:Array Bool}{a:Act}{w:World}(hi:l.drop i=oi :: rest)(hg:oi.guard=none)(hr:Region.ready md l.toArray listed=[i])(h12:∀w,S w→S2 w)(h:∀K':Act→World→Prop,Shut (∀a w,S w→(S w→wpAnyW P md l.toArray Q S S2 z fuel (listed.setIfInBounds i true) a w)→K' a w)→Oper.wp P oi a w K' Q):wpAnyW P md l.toArray Q S S2 z (fuel+1) listed a w:=by
 refine⟨fun h0=>absurd (hr▸h0) (by simp),fun j hj=>?_⟩
 rw[hr]at hj
 obtain rfl:j=i:=by simpa using hj
 unfold wpOp
 simp only[at_drop hi]
 rw[if_pos (by simp[Region.wanted,hg])]
 exact .inl (h _ (show ∀a w,_ from fun a w hS hK=>⟨⟨h12 w hS,fun _=>hS⟩,hK hS⟩))
theorem runWG{P:Program}{md:Region.Mode}{Q:Exit→Act→World→Prop}{S S2:World→Prop}{l rest:List Oper}{i z:Nat}{oi:Oper}{fuel:Nat}{listed:Array Bool}{a:Act}{w:World}(hi:l.drop i=oi :: rest)(hg:Region.wanted oi (yielded l.toArray a.tmps)=true)(hr:Region.ready md l.toArray listed=[i])(h12:∀w,S w→S2 w)(h:∀K':Act→World→Prop,Shut (∀a w,S w→(S w→wpAnyW P md l.toArray Q S S2 z fuel (listed.setIfInBounds i true) a w)→K' a w)→Oper.wp P oi a w K' Q):wpAnyW P md l.toArray Q S S2 z (fuel+1) listed a w:=by
 refine⟨fun h0=>absurd (hr▸h0) (by simp),fun j hj=>?_⟩
 rw[hr]at hj
 obtain rfl:j=i:=by simpa using hj
 unfold wpOp
 simp only[at_drop hi]
 rw[if_pos hg]
 exact .inl (h _ (show ∀a w,_ from fun a w hS hK=>⟨⟨h12 w hS,fun _=>hS⟩,hK hS⟩))
theorem runWl{P:Program}{md:Region.Mode}{Q:Exit→Act→World→Prop}{S S2:World→Prop}{l rest:List Oper}{z:Nat}{oz:Oper}{fuel:Nat}{listed:Array Bool}{a:Act}{w:World}(hi:l.drop z=oz :: rest)(hg:oz.guard=none)(hr:Region.ready md l.toArray listed=[z])(h:∀K':Act→World→Prop,Shut (∀a w,S2 w→(S2 w→wpAnyH P md l.toArray Q S2 fuel (listed.setIfInBounds z true) a w)→K' a w)→Oper.wp P oz a w K' Q):wpAnyW P md l.toArray Q S S2 z (fuel+1) listed a w:=by
 refine⟨fun h0=>absurd (hr▸h0) (by simp),fun j hj=>?_⟩
 rw[hr]at hj
 obtain rfl:j=z:=by simpa using hj
 have hz:(listed.setIfInBounds j true).getD j true=true:=by
  by_cases hl:j<listed.size
  ·simp[Array.getD,hl]
  ·simp[Array.getD,hl]
 unfold wpOp
 simp only[at_drop hi]
 rw[if_pos (by simp[Region.wanted,hg])]
 exact .inl (h _ (show ∀a w,_ from fun a w h2 hK=>⟨⟨h2,fun h0=>absurd hz (by rw[h0];decide)⟩,wpAnyW_of_H _ _ _ _ hz (hK h2)⟩))
theorem tW{P:Program}{md:Region.Mode}{Q:Exit→Act→World→Prop}{w0:World}{G o:Nat}{l rest rz:List Oper}{oi oz:Oper}{fuel:Nat}{listed:Array Bool}{a a':Act}{w:World}(i z:Nat)(v:Value)(hi:l.drop i=oi :: rest)(hz:l.drop z=oz :: rz)(hy:YieldsIf P l.toArray (fun W'=>Ext w0 W') oi v a)(hS:Ext w0 w)(h:wpAnyW P md l.toArray Q (fun W'=>Ext w0 W') (fun W'=>Pm G o w0 W') z fuel (listed.setIfInBounds i true) a' w)(hzi:(oz.after.toList.any fun e=>Region.binds md e && e.on == i)=true:=by kernel_rfl)(hne:(z == i)=false:=by kernel_rfl)(hzl:listed.getD z true=false:=by kernel_rfl)(ha:a.put oi.dst v=a':=by(try simp only[ps]);exact rfl)(hs:Region.noSelect l.toArray=true:=by kernel_rfl)(hf:Region.free md l.toArray listed i=true:=by kernel_rfl)(hr:(Region.ready md l.toArray listed).contains i=true:=by kernel_rfl)(hQ:∀c a w,Q (.panic c) (a.put oi.dst v) w→Q (.panic c) a w:=by exact fun _ _ _ h=>h):wpAnyW P md l.toArray Q (fun W'=>Ext w0 W') (fun W'=>Pm G o w0 W') z (fuel+1) listed a w:=takeW hi hz hzi hne hzl hs hf hr hQ hy hS (hS.pm G o) (ha▸h)
theorem tWp{P:Program}{md:Region.Mode}{Q:Exit→Act→World→Prop}{w0:World}{G o:Nat}{l rest rz:List Oper}{oi oz:Oper}{fuel:Nat}{listed:Array Bool}{a a':Act}{w:World}(i z:Nat)(v:Value)(hi:l.drop i=oi :: rest)(hz:l.drop z=oz :: rz)(hS:Ext w0 w)(h:wpAnyW P md l.toArray Q (fun W'=>Ext w0 W') (fun W'=>Pm G o w0 W') z fuel (listed.setIfInBounds i true) a' w)(hzi:(oz.after.toList.any fun e=>Region.binds md e && e.on == i)=true:=by kernel_rfl)(hne:(z == i)=false:=by kernel_rfl)(hzl:listed.getD z true=false:=by kernel_rfl)(ha:a.put oi.dst v=a':=by(try simp only[ps]);exact rfl)(hs:Region.noSelect l.toArray=true:=by kernel_rfl)(hf:Region.free md l.toArray listed i=true:=by kernel_rfl)(hr:(Region.ready md l.toArray listed).contains i=true:=by kernel_rfl)(hQ:∀c a w,Q (.panic c) (a.put oi.dst v) w→Q (.panic c) a w:=by exact fun _ _ _ h=>h)(hy:YieldsIf P l.toArray (fun W'=>Ext w0 W') oi v a:=by exact Or.inl ⟨rfl,fun _ _=>rfl⟩):wpAnyW P md l.toArray Q (fun W'=>Ext w0 W') (fun W'=>Pm G o w0 W') z (fuel+1) listed a w:=takeW hi hz hzi hne hzl hs hf hr hQ hy hS (hS.pm G o) (ha▸h)
theorem tV{P:Program}{md:Region.Mode}{Q:Exit→Act→World→Prop}{w0:World}{G o:Nat}{l rest:List Oper}{oi:Oper}{fuel:Nat}{listed:Array Bool}{a a':Act}{w:World}(i z:Nat)(v:Value)(hi:l.drop i=oi :: rest)(hy:YieldsIf P l.toArray (fun W'=>Pm G o w0 W') oi v a)(hS:Ext w0 w)(h:wpAnyW P md l.toArray Q (fun W'=>Ext w0 W') (fun W'=>Pm G o w0 W') z fuel (listed.setIfInBounds i true) a' w)(hne:(z == i)=false:=by kernel_rfl)(ha:a.put oi.dst v=a':=by(try simp only[ps]);exact rfl)(hs:Region.noSelect l.toArray=true:=by kernel_rfl)(hf:Region.free md l.toArray listed i=true:=by kernel_rfl)(hr:(Region.ready md l.toArray listed).contains i=true:=by kernel_rfl)(hQ:∀c a w,Q (.panic c) (a.put oi.dst v) w→Q (.panic c) a w:=by exact fun _ _ _ h=>h):wpAnyW P md l.toArray Q (fun W'=>Ext w0 W') (fun W'=>Pm G o w0 W') z (fuel+1) listed a w:=takeWb hi hne hs hf hr hQ hy hS (hS.pm G o) (ha▸h)
theorem tVp{P:Program}{md:Region.Mode}{Q:Exit→Act→World→Prop}{w0:World}{G o:Nat}{l rest:List Oper}{oi:Oper}{fuel:Nat}{listed:Array Bool}{a a':Act}{w:World}(i z:Nat)(v:Value)(hi:l.drop i=oi :: rest)(hS:Ext w0 w)(h:wpAnyW P md l.toArray Q (fun W'=>Ext w0 W') (fun W'=>Pm G o w0 W') z fuel (listed.setIfInBounds i true) a' w)(hne:(z == i)=false:=by kernel_rfl)(ha:a.put oi.dst v=a':=by(try simp only[ps]);exact rfl)(hs:Region.noSelect l.toArray=true:=by kernel_rfl)(hf:Region.free md l.toArray listed i=true:=by kernel_rfl)(hr:(Region.ready md l.toArray listed).contains i=true:=by kernel_rfl)(hQ:∀c a w,Q (.panic c) (a.put oi.dst v) w→Q (.panic c) a w:=by exact fun _ _ _ h=>h)(hy:YieldsIf P l.toArray (fun W'=>Pm G o w0 W') oi v a:=by exact Or.inl ⟨rfl,fun _ _=>rfl⟩):wpAnyW P md l.toArray Q (fun W'=>Ext w0 W') (fun W'=>Pm G o w0 W') z (fuel+1) listed a w:=takeWb hi hne hs hf hr hQ hy hS (hS.pm G o) (ha▸h)
end Go.Proofs.YtpanapepcbbagaaGreat
namespace Go.Proofs.YtpanapepcbbagaaGreat
open Go.RowKit
theorem low_nat(n b:Nat)(w:World)(hn:n<18446744073709551616)(hb:b<64):
    Calls Tryz.prog 180 #[.int .u64 n,.int .u64 b] w fun e w'=>e=.returned (.int .u64 ((n % 2 ^ b:Nat):Int))∧w=w':=by
 have hm:=and_mask n b hn hb
 go_enter Tryz.func180,Tryz.ntmps180
 go_wp2
 go_ret
 refine⟨?_,rfl⟩
 show Ending.returned (Value.int .u64 _)=_
 exact congrArg (fun x=>Ending.returned (.int .u64 x)) (by simp)
theorem addr_any(x:Int)(w:World)(h2:0≤x)(h3:x<18446744073709551616):
    Calls Tryz.prog 162 #[.int .u64 x] w fun e w'=>e=.returned (.int .u64 (x % 281474976710656))∧w=w':=by
 obtain⟨x,rfl⟩:=Int.eq_ofNat_of_zero_le h2
 go_enter Tryz.func162,Tryz.ntmps162
 go_wp2_with fail
 refine(low_nat x 48 _ (by omega) (by decide)).mono ?_
 rintro e w1 ⟨rfl,rfl⟩
 go_wp2
 go_ret
 exact⟨retI (by omega),rfl⟩
theorem num_any(x:Int)(w:World)(h2:0≤x)(h3:x<65536):
    Calls Tryz.prog 189 #[.int .u16 x] w fun e w'=>e=.returned (.int .u16 (x % 4096))∧w=w':=by
 obtain⟨x,rfl⟩:=Int.eq_ofNat_of_zero_le h2
 go_enter Tryz.func189,Tryz.ntmps189
 go_wp2_with fail
 refine(low_nat x 12 _ (by omega) (by decide)).mono ?_
 rintro e w1 ⟨rfl,rfl⟩
 go_wp2
 go_ret
 exact⟨retI (by omega),rfl⟩
def cmpV(x y:Int):Int:=if x<y then -1 else if y<x then 1 else 0
theorem cmp_u64(x y:Int)(w:World):Calls Tryz.prog 181 #[.int .u64 x,.int .u64 y] w fun e w'=>e=.returned (.int .i64 (cmpV x y))∧w=w':=by
 have nan:∀(z:Int) (w:World),Calls Tryz.prog 186 #[.int .u64 z] w fun e w'=>e=.returned (.bool false)∧w=w':=fun z w=>by
  go_enter Tryz.func186,Tryz.ntmps186
  go_wp2
  go_ret
  exact⟨retB (by simp),rfl⟩
 have HN:=hD nan
 clear nan
 rcases(show x<y∨y<x∨x=y by omega)with h|h|h
 ·refine asi (x:=-1) ?_ (by simp[cmpV,h])
  go_enter Tryz.func181,Tryz.ntmps181
  go_wp2_with fail
  refine(HN.out _ _).mono ?_
  rintro e w1 ⟨rfl,rfl⟩
  go_wp2_with fail
  refine(HN.out _ _).mono ?_
  rintro e w1 ⟨rfl,rfl⟩
  go_wp2
  go_ret
  exact⟨rfl,rfl⟩
 ·refine asi (x:=1) ?_ (by simp[cmpV,h];omega)
  go_enter Tryz.func181,Tryz.ntmps181
  go_wp2_with fail
  refine(HN.out _ _).mono ?_
  rintro e w1 ⟨rfl,rfl⟩
  go_wp2_with fail
  refine(HN.out _ _).mono ?_
  rintro e w1 ⟨rfl,rfl⟩
  go_wp2
  go_ret
  exact⟨rfl,rfl⟩
 ·subst h
  refine asi (x:=0) ?_ (by simp[cmpV])
  go_enter Tryz.func181,Tryz.ntmps181
  go_wp2_with fail
  refine(HN.out _ _).mono ?_
  rintro e w1 ⟨rfl,rfl⟩
  go_wp2_with fail
  refine(HN.out _ _).mono ?_
  rintro e w1 ⟨rfl,rfl⟩
  go_wp2
  go_ret
  exact⟨rfl,rfl⟩
theorem cmp_u32(x y:Int)(w:World):Calls Tryz.prog 182 #[.int .u32 x,.int .u32 y] w fun e w'=>e=.returned (.int .i64 (cmpV x y))∧w=w':=by
 have nan:∀(z:Int) (w:World),Calls Tryz.prog 187 #[.int .u32 z] w fun e w'=>e=.returned (.bool false)∧w=w':=fun z w=>by
  go_enter Tryz.func187,Tryz.ntmps187
  go_wp2
  go_ret
  exact⟨retB (by simp),rfl⟩
 have HN:=hD nan
 clear nan
 rcases(show x<y∨y<x∨x=y by omega)with h|h|h
 ·refine asi (x:=-1) ?_ (by simp[cmpV,h])
  go_enter Tryz.func182,Tryz.ntmps182
  go_wp2_with fail
  refine(HN.out _ _).mono ?_
  rintro e w1 ⟨rfl,rfl⟩
  go_wp2_with fail
  refine(HN.out _ _).mono ?_
  rintro e w1 ⟨rfl,rfl⟩
  go_wp2
  go_ret
  exact⟨rfl,rfl⟩
 ·refine asi (x:=1) ?_ (by simp[cmpV,h];omega)
  go_enter Tryz.func182,Tryz.ntmps182
  go_wp2_with fail
  refine(HN.out _ _).mono ?_
  rintro e w1 ⟨rfl,rfl⟩
  go_wp2_with fail
  refine(HN.out _ _).mono ?_
  rintro e w1 ⟨rfl,rfl⟩
  go_wp2
  go_ret
  exact⟨rfl,rfl⟩
 ·subst h
  refine asi (x:=0) ?_ (by simp[cmpV])
  go_enter Tryz.func182,Tryz.ntmps182
  go_wp2_with fail
  refine(HN.out _ _).mono ?_
  rintro e w1 ⟨rfl,rfl⟩
  go_wp2_with fail
  refine(HN.out _ _).mono ?_
  rintro e w1 ⟨rfl,rfl⟩
  go_wp2
  go_ret
  exact⟨rfl,rfl⟩
theorem cmp_u16(x y:Int)(w:World):Calls Tryz.prog 183 #[.int .u16 x,.int .u16 y] w fun e w'=>e=.returned (.int .i64 (cmpV x y))∧w=w':=by
 have nan:∀(z:Int) (w:World),Calls Tryz.prog 188 #[.int .u16 z] w fun e w'=>e=.returned (.bool false)∧w=w':=fun z w=>by
  go_enter Tryz.func188,Tryz.ntmps188
  go_wp2
  go_ret
  exact⟨retB (by simp),rfl⟩
 have HN:=hD nan
 clear nan
 rcases(show x<y∨y<x∨x=y by omega)with h|h|h
 ·refine asi (x:=-1) ?_ (by simp[cmpV,h])
  go_enter Tryz.func183,Tryz.ntmps183
  go_wp2_with fail
  refine(HN.out _ _).mono ?_
  rintro e w1 ⟨rfl,rfl⟩
  go_wp2_with fail
  refine(HN.out _ _).mono ?_
  rintro e w1 ⟨rfl,rfl⟩
  go_wp2
  go_ret
  exact⟨rfl,rfl⟩
 ·refine asi (x:=1) ?_ (by simp[cmpV,h];omega)
  go_enter Tryz.func183,Tryz.ntmps183
  go_wp2_with fail
  refine(HN.out _ _).mono ?_
  rintro e w1 ⟨rfl,rfl⟩
  go_wp2_with fail
  refine(HN.out _ _).mono ?_
  rintro e w1 ⟨rfl,rfl⟩
  go_wp2
  go_ret
  exact⟨rfl,rfl⟩
 ·subst h
  refine asi (x:=0) ?_ (by simp[cmpV])
  go_enter Tryz.func183,Tryz.ntmps183
  go_wp2_with fail
  refine(HN.out _ _).mono ?_
  rintro e w1 ⟨rfl,rfl⟩
  go_wp2_with fail
  refine(HN.out _ _).mono ?_
  rintro e w1 ⟨rfl,rfl⟩
  go_wp2
  go_ret
  exact⟨rfl,rfl⟩
theorem part_root(r c b p x r' c' b' p' x':Int)(w:World):Calls Tryz.prog 164 #[.agg #[.int .u64 r,.int .u32 c,.int .u64 b,.int .u16 p,.int .u16 x],.agg #[.int .u64 r',.int .u32 c',.int .u64 b',.int .u16 p',.int .u16 x']] w fun e w'=>e=.returned (.int .i64 (cmpV r r'))∧Ext w w':=by
 go_enter Tryz.func164,Tryz.ntmps164
 go_wp2_with fail
 refine(cmp_u64 _ _ _).mono ?_
 rintro e w1 ⟨rfl,rfl⟩
 go_wp2
 go_ret
 exact⟨rfl,((Ext.refl w).alloc _).alloc _⟩
theorem part_cost(r c b p x r' c' b' p' x':Int)(w:World):Calls Tryz.prog 165 #[.agg #[.int .u64 r,.int .u32 c,.int .u64 b,.int .u16 p,.int .u16 x],.agg #[.int .u64 r',.int .u32 c',.int .u64 b',.int .u16 p',.int .u16 x']] w fun e w'=>e=.returned (.int .i64 (cmpV c c'))∧Ext w w':=by
 go_enter Tryz.func165,Tryz.ntmps165
 go_wp2_with fail
 refine(cmp_u32 _ _ _).mono ?_
 rintro e w1 ⟨rfl,rfl⟩
 go_wp2
 go_ret
 exact⟨rfl,((Ext.refl w).alloc _).alloc _⟩
theorem part_bridge(r c b p x r' c' b' p' x':Int)(w:World):Calls Tryz.prog 166 #[.agg #[.int .u64 r,.int .u32 c,.int .u64 b,.int .u16 p,.int .u16 x],.agg #[.int .u64 r',.int .u32 c',.int .u64 b',.int .u16 p',.int .u16 x']] w fun e w'=>e=.returned (.int .i64 (cmpV b b'))∧Ext w w':=by
 go_enter Tryz.func166,Tryz.ntmps166
 go_wp2_with fail
 refine(cmp_u64 _ _ _).mono ?_
 rintro e w1 ⟨rfl,rfl⟩
 go_wp2
 go_ret
 exact⟨rfl,((Ext.refl w).alloc _).alloc _⟩
theorem part_port(r c b p x r' c' b' p' x':Int)(w:World):Calls Tryz.prog 167 #[.agg #[.int .u64 r,.int .u32 c,.int .u64 b,.int .u16 p,.int .u16 x],.agg #[.int .u64 r',.int .u32 c',.int .u64 b',.int .u16 p',.int .u16 x']] w fun e w'=>e=.returned (.int .i64 (cmpV p p'))∧Ext w w':=by
 go_enter Tryz.func167,Tryz.ntmps167
 go_wp2_with fail
 refine(cmp_u16 _ _ _).mono ?_
 rintro e w1 ⟨rfl,rfl⟩
 go_wp2
 go_ret
 exact⟨rfl,((Ext.refl w).alloc _).alloc _⟩
theorem part_rx(r c b p x r' c' b' p' x':Int)(w:World):Calls Tryz.prog 168 #[.agg #[.int .u64 r,.int .u32 c,.int .u64 b,.int .u16 p,.int .u16 x],.agg #[.int .u64 r',.int .u32 c',.int .u64 b',.int .u16 p',.int .u16 x']] w fun e w'=>e=.returned (.int .i64 (cmpV x x'))∧Ext w w':=by
 go_enter Tryz.func168,Tryz.ntmps168
 go_wp2_with fail
 refine(cmp_u16 _ _ _).mono ?_
 rintro e w1 ⟨rfl,rfl⟩
 go_wp2
 go_ret
 exact⟨rfl,((Ext.refl w).alloc _).alloc _⟩
def firstNZ:List Int→Int
 | []=>0
 | x :: l=>if x=0 then firstNZ l else x
theorem two_held(r c b p x r' c' b' p' x':Int){w:World}{t:TypeId}{w':World}(hx:Ext ((w.alloc (.cells #[.int .u64 r,.int .u32 c,.int .u64 b,.int .u16 p,.int .u16 x] t)).alloc (.cells #[.int .u64 r',.int .u32 c',.int .u64 b',.int .u16 p',.int .u16 x'] t)) w'):
    (w'.cell? ⟨w.heap.size,0,none⟩=some (.int .u64 r)∧w'.cell? ⟨w.heap.size,1,none⟩=some (.int .u32 c)∧w'.cell? ⟨w.heap.size,2,none⟩=some (.int .u64 b)∧w'.cell? ⟨w.heap.size,3,none⟩=some (.int .u16 p)∧w'.cell? ⟨w.heap.size,4,none⟩=some (.int .u16 x))∧(w'.cell? ⟨w.heap.size+1,0,none⟩=some (.int .u64 r')∧w'.cell? ⟨w.heap.size+1,1,none⟩=some (.int .u32 c')∧w'.cell? ⟨w.heap.size+1,2,none⟩=some (.int .u64 b')∧w'.cell? ⟨w.heap.size+1,3,none⟩=some (.int .u16 p')∧w'.cell? ⟨w.heap.size+1,4,none⟩=some (.int .u16 x')):=by
 have o:∀j,w'.cell? ⟨w.heap.size,j,none⟩=#[.int .u64 r,.int .u32 c,.int .u64 b,.int .u16 p,.int .u16 x][j]?:=fun j=>(hx.cell (by simp;omega)).trans ((World.cell?_alloc_past _ _ _ (by simp)).trans (World.cell?_alloc_at _ _ _ _ rfl))
 have n:∀j,w'.cell? ⟨w.heap.size+1,j,none⟩=#[.int .u64 r',.int .u32 c',.int .u64 b',.int .u16 p',.int .u16 x'][j]?:=fun j=>(hx.cell (by simp)).trans (World.cell?_alloc_at _ _ _ _ (by simp))
 exact⟨⟨o 0,o 1,o 2,o 3,o 4⟩,n 0,n 1,n 2,n 3,n 4⟩
theorem first5(r c b p x r' c' b' p' x':Int)(S cap:Nat)(w:World)(hS0:S<w.heap.size)(f0:w.cell? ⟨S,0,none⟩=some (.func (.func 164) #[] #[]))(f1:w.cell? ⟨S,1,none⟩=some (.func (.func 165) #[] #[]))(f2:w.cell? ⟨S,2,none⟩=some (.func (.func 166) #[] #[]))(f3:w.cell? ⟨S,3,none⟩=some (.func (.func 167) #[] #[]))(f4:w.cell? ⟨S,4,none⟩=some (.func (.func 168) #[] #[])):
    Calls Tryz.prog 163 #[.agg #[.int .u64 r,.int .u32 c,.int .u64 b,.int .u16 p,.int .u16 x],.agg #[.int .u64 r',.int .u32 c',.int .u64 b',.int .u16 p',.int .u16 x'],.slice (some ⟨S,0,none⟩) 5 cap] w fun e w'=>e=.returned (.int .i64 (firstNZ [cmpV r r',cmpV c c',cmpV b b',cmpV p p',cmpV x x']))∧Ext w w':=by
 have hS:=hD (fun w' (hx:Ext ((w.alloc (.cells #[.int .u64 r,.int .u32 c,.int .u64 b,.int .u16 p,.int .u16 x] 30)).alloc (.cells #[.int .u64 r',.int .u32 c',.int .u64 b',.int .u16 p',.int .u16 x'] 30)) w')=>And.intro (two_held r c b p x r' c' b' p' x' hx)
  (show w'.cell? ⟨S,0,none⟩=some (.func (.func 164) #[] #[])∧w'.cell? ⟨S,1,none⟩=some (.func (.func 165) #[] #[])∧w'.cell? ⟨S,2,none⟩=some (.func (.func 166) #[] #[])∧w'.cell? ⟨S,3,none⟩=some (.func (.func 167) #[] #[])∧w'.cell? ⟨S,4,none⟩=some (.func (.func 168) #[] #[])from⟨((((Ext.refl w).alloc _).alloc _).trans hx).cell hS0 |>.trans f0,((((Ext.refl w).alloc _).alloc _).trans hx).cell hS0 |>.trans f1,((((Ext.refl w).alloc _).alloc _).trans hx).cell hS0 |>.trans f2,((((Ext.refl w).alloc _).alloc _).trans hx).cell hS0 |>.trans f3,((((Ext.refl w).alloc _).alloc _).trans hx).cell hS0 |>.trans f4⟩))
 clear f0 f1 f2 f3 f4
 go_enter Tryz.func163,Tryz.ntmps163
 go_wp2
 generalize hB:(w.alloc (Obj.cells #[Value.int IntKind.u64 r,Value.int IntKind.u32 c,Value.int IntKind.u64 b,Value.int IntKind.u16 p,Value.int IntKind.u16 x] 30)).alloc (Obj.cells #[Value.int IntKind.u64 r',Value.int IntKind.u32 c',Value.int IntKind.u64 b',Value.int IntKind.u16 p',Value.int IntKind.u16 x'] 30)=B at hS ⊢
 have hwB:Ext w B:=by rw[←hB];exact((Ext.refl w).alloc _).alloc _
 clear hB
 have x0:Ext B B:=Ext.refl B
 have K:=hS.out _ x0
 refine wp_loop_rounds 6 ?_
 rw[rounds_succ]
 go_wp2_with fail
 refine(part_root r c b p x r' c' b' p' x' _).mono ?_
 rintro e w1 ⟨rfl,h1⟩
 have x1:Ext B w1:=x0.trans h1
 clear K
 have K:=hS.out _ x1
 by_cases z1:cmpV r r'=0
 rotate_left
 ·have b1:(cmpV r r' != 0)=true:=by simpa using z1
  have Z:=hD z1
  clear z1
  go_wp2
  go_ret
  exact⟨retI (by simp[firstNZ,Z.out]),hwB.trans x1⟩
 have b1:(cmpV r r' != 0)=false:=by simpa using z1
 have y1:=hD z1
 clear z1
 go_wp2
 rw[rounds_succ]
 go_wp2_with fail
 refine(part_cost r c b p x r' c' b' p' x' _).mono ?_
 rintro e w2 ⟨rfl,h2⟩
 have x2:Ext B w2:=x1.trans h2
 clear K
 have K:=hS.out _ x2
 by_cases z2:cmpV c c'=0
 rotate_left
 ·have b2:(cmpV c c' != 0)=true:=by simpa using z2
  have Z:=hD z2
  clear z2
  go_wp2
  go_ret
  exact⟨retI (by simp[firstNZ,y1.out,Z.out]),hwB.trans x2⟩
 have b2:(cmpV c c' != 0)=false:=by simpa using z2
 have y2:=hD z2
 clear z2
 go_wp2
 rw[rounds_succ]
 go_wp2_with fail
 refine(part_bridge r c b p x r' c' b' p' x' _).mono ?_
 rintro e w3 ⟨rfl,h3⟩
 have x3:Ext B w3:=x2.trans h3
 clear K
 have K:=hS.out _ x3
 by_cases z3:cmpV b b'=0
 rotate_left
 ·have b3:(cmpV b b' != 0)=true:=by simpa using z3
  have Z:=hD z3
  clear z3
  go_wp2
  go_ret
  exact⟨retI (by simp[firstNZ,y1.out,y2.out,Z.out]),hwB.trans x3⟩
 have b3:(cmpV b b' != 0)=false:=by simpa using z3
 have y3:=hD z3
 clear z3
 go_wp2
 rw[rounds_succ]
 go_wp2_with fail
 refine(part_port r c b p x r' c' b' p' x' _).mono ?_
 rintro e w4 ⟨rfl,h4⟩
 have x4:Ext B w4:=x3.trans h4
 clear K
 have K:=hS.out _ x4
 by_cases z4:cmpV p p'=0
 rotate_left
 ·have b4:(cmpV p p' != 0)=true:=by simpa using z4
  have Z:=hD z4
  clear z4
  go_wp2
  go_ret
  exact⟨retI (by simp[firstNZ,y1.out,y2.out,y3.out,Z.out]),hwB.trans x4⟩
 have b4:(cmpV p p' != 0)=false:=by simpa using z4
 have y4:=hD z4
 clear z4
 go_wp2
 rw[rounds_succ]
 go_wp2_with fail
 refine(part_rx r c b p x r' c' b' p' x' _).mono ?_
 rintro e w5 ⟨rfl,h5⟩
 have x5:Ext B w5:=x4.trans h5
 clear K
 have K:=hS.out _ x5
 by_cases z5:cmpV x x'=0
 rotate_left
 ·have b5:(cmpV x x' != 0)=true:=by simpa using z5
  have Z:=hD z5
  clear z5
  go_wp2
  go_ret
  exact⟨retI (by simp[firstNZ,y1.out,y2.out,y3.out,y4.out,Z.out]),hwB.trans x5⟩
 have b5:(cmpV x x' != 0)=false:=by simpa using z5
 have y5:=hD z5
 clear z5
 go_wp2
 rw[rounds_succ]
 go_wp2
 go_ret
 exact⟨retI (by simp[firstNZ,y1.out,y2.out,y3.out,y4.out,y5.out]),hwB.trans x5⟩
theorem first4(r c b p x r' c' b' p' x':Int)(S cap:Nat)(w:World)(hS0:S<w.heap.size)(f0:w.cell? ⟨S,0,none⟩=some (.func (.func 164) #[] #[]))(f1:w.cell? ⟨S,1,none⟩=some (.func (.func 165) #[] #[]))(f2:w.cell? ⟨S,2,none⟩=some (.func (.func 166) #[] #[]))(f3:w.cell? ⟨S,3,none⟩=some (.func (.func 167) #[] #[])):
    Calls Tryz.prog 163 #[.agg #[.int .u64 r,.int .u32 c,.int .u64 b,.int .u16 p,.int .u16 x],.agg #[.int .u64 r',.int .u32 c',.int .u64 b',.int .u16 p',.int .u16 x'],.slice (some ⟨S,0,none⟩) 4 cap] w fun e w'=>e=.returned (.int .i64 (firstNZ [cmpV r r',cmpV c c',cmpV b b',cmpV p p']))∧Ext w w':=by
 have hS:=hD (fun w' (hx:Ext ((w.alloc (.cells #[.int .u64 r,.int .u32 c,.int .u64 b,.int .u16 p,.int .u16 x] 30)).alloc (.cells #[.int .u64 r',.int .u32 c',.int .u64 b',.int .u16 p',.int .u16 x'] 30)) w')=>And.intro (two_held r c b p x r' c' b' p' x' hx)
  (show w'.cell? ⟨S,0,none⟩=some (.func (.func 164) #[] #[])∧w'.cell? ⟨S,1,none⟩=some (.func (.func 165) #[] #[])∧w'.cell? ⟨S,2,none⟩=some (.func (.func 166) #[] #[])∧w'.cell? ⟨S,3,none⟩=some (.func (.func 167) #[] #[])from⟨((((Ext.refl w).alloc _).alloc _).trans hx).cell hS0 |>.trans f0,((((Ext.refl w).alloc _).alloc _).trans hx).cell hS0 |>.trans f1,((((Ext.refl w).alloc _).alloc _).trans hx).cell hS0 |>.trans f2,((((Ext.refl w).alloc _).alloc _).trans hx).cell hS0 |>.trans f3⟩))
 clear f0 f1 f2 f3
 go_enter Tryz.func163,Tryz.ntmps163
 go_wp2
 generalize hB:(w.alloc (Obj.cells #[Value.int IntKind.u64 r,Value.int IntKind.u32 c,Value.int IntKind.u64 b,Value.int IntKind.u16 p,Value.int IntKind.u16 x] 30)).alloc (Obj.cells #[Value.int IntKind.u64 r',Value.int IntKind.u32 c',Value.int IntKind.u64 b',Value.int IntKind.u16 p',Value.int IntKind.u16 x'] 30)=B at hS ⊢
 have hwB:Ext w B:=by rw[←hB];exact((Ext.refl w).alloc _).alloc _
 clear hB
 have x0:Ext B B:=Ext.refl B
 have K:=hS.out _ x0
 refine wp_loop_rounds 5 ?_
 rw[rounds_succ]
 go_wp2_with fail
 refine(part_root r c b p x r' c' b' p' x' _).mono ?_
 rintro e w1 ⟨rfl,h1⟩
 have x1:Ext B w1:=x0.trans h1
 clear K
 have K:=hS.out _ x1
 by_cases z1:cmpV r r'=0
 rotate_left
 ·have b1:(cmpV r r' != 0)=true:=by simpa using z1
  have Z:=hD z1
  clear z1
  go_wp2
  go_ret
  exact⟨retI (by simp[firstNZ,Z.out]),hwB.trans x1⟩
 have b1:(cmpV r r' != 0)=false:=by simpa using z1
 have y1:=hD z1
 clear z1
 go_wp2
 rw[rounds_succ]
 go_wp2_with fail
 refine(part_cost r c b p x r' c' b' p' x' _).mono ?_
 rintro e w2 ⟨rfl,h2⟩
 have x2:Ext B w2:=x1.trans h2
 clear K
 have K:=hS.out _ x2
 by_cases z2:cmpV c c'=0
 rotate_left
 ·have b2:(cmpV c c' != 0)=true:=by simpa using z2
  have Z:=hD z2
  clear z2
  go_wp2
  go_ret
  exact⟨retI (by simp[firstNZ,y1.out,Z.out]),hwB.trans x2⟩
 have b2:(cmpV c c' != 0)=false:=by simpa using z2
 have y2:=hD z2
 clear z2
 go_wp2
 rw[rounds_succ]
 go_wp2_with fail
 refine(part_bridge r c b p x r' c' b' p' x' _).mono ?_
 rintro e w3 ⟨rfl,h3⟩
 have x3:Ext B w3:=x2.trans h3
 clear K
 have K:=hS.out _ x3
 by_cases z3:cmpV b b'=0
 rotate_left
 ·have b3:(cmpV b b' != 0)=true:=by simpa using z3
  have Z:=hD z3
  clear z3
  go_wp2
  go_ret
  exact⟨retI (by simp[firstNZ,y1.out,y2.out,Z.out]),hwB.trans x3⟩
 have b3:(cmpV b b' != 0)=false:=by simpa using z3
 have y3:=hD z3
 clear z3
 go_wp2
 rw[rounds_succ]
 go_wp2_with fail
 refine(part_port r c b p x r' c' b' p' x' _).mono ?_
 rintro e w4 ⟨rfl,h4⟩
 have x4:Ext B w4:=x3.trans h4
 clear K
 have K:=hS.out _ x4
 by_cases z4:cmpV p p'=0
 rotate_left
 ·have b4:(cmpV p p' != 0)=true:=by simpa using z4
  have Z:=hD z4
  clear z4
  go_wp2
  go_ret
  exact⟨retI (by simp[firstNZ,y1.out,y2.out,y3.out,Z.out]),hwB.trans x4⟩
 have b4:(cmpV p p' != 0)=false:=by simpa using z4
 have y4:=hD z4
 clear z4
 go_wp2
 rw[rounds_succ]
 go_wp2
 go_ret
 exact⟨retI (by simp[firstNZ,y1.out,y2.out,y3.out,y4.out]),hwB.trans x4⟩
theorem vcmp_any(r c b p x r' c' b' p' x':Int)(w:World):
    Calls Tryz.prog 136 #[.agg #[.int .u64 r,.int .u32 c,.int .u64 b,.int .u16 p,.int .u16 x],.agg #[.int .u64 r',.int .u32 c',.int .u64 b',.int .u16 p',.int .u16 x']] w fun e w'=>e=.returned (.int .i64 (firstNZ [cmpV r r',cmpV c c',cmpV b b',cmpV p p',cmpV x x']))∧Ext w w':=by
 go_enter Tryz.func136,Tryz.ntmps136
 go_wp2_with fail
 refine(first5 r c b p x r' c' b' p' x' _ _ _ (by simp) ?_ ?_ ?_ ?_ ?_).mono ?_
 ·exact(World.cell?_alloc_at _ _ _ _ (by simp)).trans rfl
 ·exact(World.cell?_alloc_at _ _ _ _ (by simp)).trans rfl
 ·exact(World.cell?_alloc_at _ _ _ _ (by simp)).trans rfl
 ·exact(World.cell?_alloc_at _ _ _ _ (by simp)).trans rfl
 ·exact(World.cell?_alloc_at _ _ _ _ (by simp)).trans rfl
 rintro e w1 ⟨rfl,h1⟩
 go_wp2
 go_ret
 exact⟨rfl,((((Ext.refl w).alloc _).alloc _).alloc _).trans h1⟩
theorem vfour_any(r c b p x r' c' b' p' x':Int)(w:World):
    Calls Tryz.prog 137 #[.agg #[.int .u64 r,.int .u32 c,.int .u64 b,.int .u16 p,.int .u16 x],.agg #[.int .u64 r',.int .u32 c',.int .u64 b',.int .u16 p',.int .u16 x']] w fun e w'=>e=.returned (.int .i64 (firstNZ [cmpV r r',cmpV c c',cmpV b b',cmpV p p']))∧Ext w w':=by
 go_enter Tryz.func137,Tryz.ntmps137
 go_wp2_with fail
 refine(first4 r c b p x r' c' b' p' x' _ _ _ (by simp) ?_ ?_ ?_ ?_).mono ?_
 ·exact(World.cell?_alloc_at _ _ _ _ (by simp)).trans rfl
 ·exact(World.cell?_alloc_at _ _ _ _ (by simp)).trans rfl
 ·exact(World.cell?_alloc_at _ _ _ _ (by simp)).trans rfl
 ·exact(World.cell?_alloc_at _ _ _ _ (by simp)).trans rfl
 rintro e w1 ⟨rfl,h1⟩
 go_wp2
 go_ret
 exact⟨rfl,((((Ext.refl w).alloc _).alloc _).alloc _).trans h1⟩
def c4(r c b p r' c' b' p':Int):Int:=firstNZ [cmpV r r',cmpV c c',cmpV b b',cmpV p p']
def c5(r c b p x r' c' b' p' x':Int):Int:=firstNZ [cmpV r r',cmpV c c',cmpV b b',cmpV p p',cmpV x x']
theorem c5_c4(r c b p x r' c' b' p' x':Int):c5 r c b p x r' c' b' p' x'=if c4 r c b p r' c' b' p'=0 then cmpV x x' else c4 r c b p r' c' b' p':=by
 unfold c5 c4
 simp only[firstNZ]
 (repeat' split)<;>simp_all
theorem vbetter_any(r c b p x r' c' b' p' x':Int)(w:World):Calls Tryz.prog 63 #[.agg #[.int .u64 r,.int .u32 c,.int .u64 b,.int .u16 p,.int .u16 x],.agg #[.int .u64 r',.int .u32 c',.int .u64 b',.int .u16 p',.int .u16 x']] w fun e w'=>e=.returned (.bool (decide (c5 r c b p x r' c' b' p' x'<0)))∧Ext w w':=by
 go_enter Tryz.func63,Tryz.ntmps63
 go_wp2_with fail
 refine(asi (vcmp_any r c b p x r' c' b' p' x' _) (show _=c5 r c b p x r' c' b' p' x' from rfl)).mono ?_
 rintro e w1 ⟨rfl,h1⟩
 go_wp2
 go_ret
 exact⟨rfl,(((Ext.refl w).alloc _).alloc _).trans h1⟩
theorem vsame_any(r c b p x r' c' b' p' x':Int)(w:World):Calls Tryz.prog 67 #[.agg #[.int .u64 r,.int .u32 c,.int .u64 b,.int .u16 p,.int .u16 x],.agg #[.int .u64 r',.int .u32 c',.int .u64 b',.int .u16 p',.int .u16 x']] w fun e w'=>e=.returned (.bool (c4 r c b p r' c' b' p' == 0))∧Ext w w':=by
 go_enter Tryz.func67,Tryz.ntmps67
 go_wp2_with fail
 refine(asi (vfour_any r c b p x r' c' b' p' x' _) (show _=c4 r c b p r' c' b' p' from rfl)).mono ?_
 rintro e w1 ⟨rfl,h1⟩
 go_wp2
 go_ret
 exact⟨rfl,(((Ext.refl w).alloc _).alloc _).trans h1⟩
def tell(b p b' p':Int):Bool:=(b % 281474976710656 == b' % 281474976710656) && (p % 4096 == p' % 4096)
theorem vteller_any(r c b p x r' c' b' p' x':Int)(w:World)(hb:0≤b∧b<18446744073709551616)(hb':0≤b'∧b'<18446744073709551616)(hp:0≤p∧p<65536)(hp':0≤p'∧p'<65536):
    Calls Tryz.prog 185 #[.agg #[.int .u64 r,.int .u32 c,.int .u64 b,.int .u16 p,.int .u16 x],.agg #[.int .u64 r',.int .u32 c',.int .u64 b',.int .u16 p',.int .u16 x']] w fun e w'=>e=.returned (.bool (tell b p b' p'))∧Ext w w':=by
 obtain⟨hb0,hb1⟩:=hb
 obtain⟨hc0,hc1⟩:=hb'
 obtain⟨hp0,hp1⟩:=hp
 obtain⟨hq0,hq1⟩:=hp'
 cases he:(b % 281474976710656 == b' % 281474976710656)
 ·refine asb (x:=false) ?_ (by simp[tell,he])
  go_enter Tryz.func185,Tryz.ntmps185
  go_wp2
  go_quiet ((first|(go_at_call 162;first|exact quietL (addr_any _ _ (by omega) (by omega))|exact quietA (addr_any _ _ (by omega) (by omega)))|(go_at_call 189;first|exact quietL (num_any _ _ (by omega) (by omega))|exact quietA (num_any _ _ (by omega) (by omega)))))
  go_wp2
  go_ret
  exact⟨rfl,(((Ext.refl w).alloc _).alloc _).drewN _⟩
 ·refine asb (x:=(p % 4096 == p' % 4096)) ?_ (by simp[tell,he])
  go_enter Tryz.func185,Tryz.ntmps185
  go_wp2
  go_quiet ((first|(go_at_call 162;first|exact quietL (addr_any _ _ (by omega) (by omega))|exact quietA (addr_any _ _ (by omega) (by omega)))|(go_at_call 189;first|exact quietL (num_any _ _ (by omega) (by omega))|exact quietA (num_any _ _ (by omega) (by omega)))))
  go_wp2
  go_ret
  exact⟨rfl,(((Ext.refl w).alloc _).alloc _).drewN _⟩
theorem vsuperior_any(r c b p x r' c' b' p' x':Int)(w:World)(hb:0≤b∧b<18446744073709551616)(hb':0≤b'∧b'<18446744073709551616)(hp:0≤p∧p<65536)(hp':0≤p'∧p'<65536):
    Calls Tryz.prog 174 #[.agg #[.int .u64 r,.int .u32 c,.int .u64 b,.int .u16 p,.int .u16 x],.agg #[.int .u64 r',.int .u32 c',.int .u64 b',.int .u16 p',.int .u16 x']] w fun e w'=>e=.returned (.bool (decide (c4 r c b p r' c' b' p'<0) || tell b p b' p'))∧Ext w w':=by
 have hS:=hD (fun w'=>@two_held r c b p x r' c' b' p' x' w 30 w')
 cases he:decide (c4 r c b p r' c' b' p'<0)
 ·refine asb (x:=tell b p b' p') ?_ (by simp)
  go_enter Tryz.func174,Tryz.ntmps174
  go_wp2_with fail
  refine(asi (vfour_any r c b p x r' c' b' p' x' _) (show _=c4 r c b p r' c' b' p' from rfl)).mono ?_
  rintro e w1 ⟨rfl,h1⟩
  have K:=hS.out _ h1
  go_wp2_with fail
  refine(vteller_any r c b p x r' c' b' p' x' _ hb hb' hp hp').mono ?_
  rintro e w2 ⟨rfl,h2⟩
  go_wp2
  go_ret
  exact⟨rfl,(((Ext.refl w).alloc _).alloc _).trans (h1.trans h2)⟩
 ·refine asb (x:=true) ?_ (by simp)
  go_enter Tryz.func174,Tryz.ntmps174
  go_wp2_with fail
  refine(asi (vfour_any r c b p x r' c' b' p' x' _) (show _=c4 r c b p r' c' b' p' from rfl)).mono ?_
  rintro e w1 ⟨rfl,h1⟩
  go_wp2
  go_ret
  exact⟨rfl,(((Ext.refl w).alloc _).alloc _).trans h1⟩
def thr(c q:Int):Int:=if c+q≤4294967295 then c+q else 4294967295
theorem vthrough_any(r c b p x q z:Int)(w:World)(hc:0≤c∧c<4294967296)(hq:0≤q∧q<4294967296):
    Calls Tryz.prog 135 #[.agg #[.int .u64 r,.int .u32 c,.int .u64 b,.int .u16 p,.int .u16 x],.int .u32 q,.int .u16 z] w fun e w'=>e=.returned (.agg #[.int .u64 r,.int .u32 (thr c q),.int .u64 b,.int .u16 p,.int .u16 z])∧Ext w w':=by
 obtain⟨hc0,hc1⟩:=hc
 obtain⟨hq0,hq1⟩:=hq
 by_cases h:c+q≤4294967295
 ·refine asv (v:=.agg #[.int .u64 r,.int .u32 (c+q),.int .u64 b,.int .u16 p,.int .u16 z]) ?_ (by simp[thr,h])
  go_enter Tryz.func135,Tryz.ntmps135
  go_wp2
  exact bodyPost_ret (v:=.agg #[.int .u64 r,.int .u32 (c+q),.int .u64 b,.int .u16 p,.int .u16 z]) (by simp[results,Tryz.results135,go_sem]) rfl ⟨rfl,((Ext.refl w).alloc _).alloc _⟩
 ·refine asv (v:=.agg #[.int .u64 r,.int .u32 4294967295,.int .u64 b,.int .u16 p,.int .u16 z]) ?_ (by simp[thr,h])
  go_enter Tryz.func135,Tryz.ntmps135
  go_wp2
  exact bodyPost_ret (v:=.agg #[.int .u64 r,.int .u32 4294967295,.int .u64 b,.int .u16 p,.int .u16 z]) (by simp[results,Tryz.results135,go_sem]) rfl ⟨rfl,((Ext.refl w).alloc _).alloc _⟩
theorem vown_any(r:Int)(w:World):
    Calls Tryz.prog 22 #[.int .u64 r] w fun e w'=>e=.returned (.agg #[.int .u64 r,.int .u32 0,.int .u64 r,.int .u16 0,.int .u16 0])∧Ext w w':=by
 go_enter Tryz.func22,Tryz.ntmps22
 go_wp2
 exact bodyPost_ret (v:=.agg #[.int .u64 r,.int .u32 0,.int .u64 r,.int .u16 0,.int .u16 0]) (by simp[results,Tryz.results22,go_sem]) rfl ⟨rfl,(Ext.refl w).alloc _⟩
end Go.Proofs.YtpanapepcbbagaaGreat
namespace Go.Proofs.YtpanapepcbbagaaGreat
open Go.RowKit Go.BigFrame Go.WideShapes Go.ChangeShapes Go.Deep
theorem older_any(a m h d:Int)(w:World)(h0:-9223372036854775808≤a)(h1:a<9223372036854775807):
    Calls Tryz.prog 64 #[.agg #[.int .i64 a,.int .i64 m,.int .i64 h,.int .i64 d]] w fun e w'=>e=.returned (.agg #[.int .i64 (a+1),.int .i64 m,.int .i64 h,.int .i64 d])∧Ext w w':=by
 go_enter Tryz.func64,Tryz.ntmps64
 go_wp2
 exact bodyPost_ret (v:=.agg #[.int .i64 (a+1),.int .i64 m,.int .i64 h,.int .i64 d]) (by simp[results,Tryz.results64,go_sem]) rfl ⟨rfl,((Ext.refl w).alloc _).alloc _⟩
theorem w64(n:Int)(h0:-9223372036854775808≤n)(h1:n≤9223372036854775807):wrap64 n=n:=by unfold wrap64;omega
theorem box_held{w:World}{t:TypeId}(a m h d:Int){w':World}(hx:Ext (w.alloc (.cells #[.int .i64 a,.int .i64 m,.int .i64 h,.int .i64 d] t)) w'):
    Ext (w.alloc (.cells #[.int .i64 a,.int .i64 m,.int .i64 h,.int .i64 d] t)) w'∧w'.cell? ⟨w.heap.size,0,none⟩=some (.int .i64 a)∧w'.cell? ⟨w.heap.size,1,none⟩=some (.int .i64 m) ∧
     w'.cell? ⟨w.heap.size,2,none⟩=some (.int .i64 h)∧w'.cell? ⟨w.heap.size,3,none⟩=some (.int .i64 d) :=
 ⟨hx,(hx.cell (by simp)).trans ((World.cell?_alloc_at _ _ _ _ rfl).trans rfl),(hx.cell (by simp)).trans ((World.cell?_alloc_at _ _ _ _ rfl).trans rfl),
  (hx.cell (by simp)).trans ((World.cell?_alloc_at _ _ _ _ rfl).trans rfl),(hx.cell (by simp)).trans ((World.cell?_alloc_at _ _ _ _ rfl).trans rfl)⟩
theorem times_age_of(a m h d:Int)(w:World):(Instr.field 24 (.agg #[.int .i64 a,.int .i64 m,.int .i64 h,.int .i64 d]) 0).run Tryz.prog w=.ok (.int .i64 a) w:=by kernel_rfl
theorem waits_yes(a m h d:Int)(w:World)(ha:0≤a)(ha':a≤65535)(hm:0≤m)(hm':m≤65535)(hh:0≤h)(hh':h≤65535)(hlt:a+1≤m):
    Calls Tryz.prog 184 #[.agg #[.int .i64 a,.int .i64 m,.int .i64 h,.int .i64 d]] w fun e w'=>e=.returned (.int .i64 (3*h))∧Ext w w':=by
 have hS:=hD (fun w'=>@box_held w 24 a m h d w')
 have hfd:=times_age_of (a+1) m h d
 go_enter Tryz.func184,Tryz.ntmps184
 go_wp2
 generalize hB:w.alloc (Obj.cells #[Value.int IntKind.i64 a,Value.int IntKind.i64 m,Value.int IntKind.i64 h,Value.int IntKind.i64 d] 24)=B at hS ⊢
 have hwB:Ext w B:=by rw[←hB];exact(Ext.refl w).alloc _
 clear hB
 go_region_held3 (fun w'=>Ext B w'∧w'.cell? ⟨w.heap.size,0,none⟩=some (.int .i64 a)∧w'.cell? ⟨w.heap.size,1,none⟩=some (.int .i64 m)∧w'.cell? ⟨w.heap.size,2,none⟩=some (.int .i64 h)∧w'.cell? ⟨w.heap.size,3,none⟩=some (.int .i64 d))
  ((first|exact hS.out _ (Ext.refl _)|exact hS.out _ (Ext.drew (Ext.refl _))|exact hS.out _ (Ext.drew (And.left (by assumption)))|exact hS.out _ (Ext.trans (And.left (by assumption)) (by assumption))))
  (first|(go_at_call 64;refine(older_any _ _ _ _ _ (by omega) (by omega)).mono ?_;rintro e w1 ⟨rfl,h1⟩))
 have hw1:Ext w w1:=hwB.trans ((Ext.refl _).drew.trans h1)
 have hc:=hS.out _ ((Ext.refl _).drew.trans h1)
 have hf:decide (m<a+1)=false:=by simp;omega
 go_wp2
 go_ret
 exact⟨retI (by omega),hw1⟩
theorem waits_no(a m h d:Int)(w:World)(ha:0≤a)(ha':a≤65535)(hm:0≤m)(hm':m≤65535)(hh:0≤h)(hh':h≤65535)(hlt:m<a+1):
    Calls Tryz.prog 184 #[.agg #[.int .i64 a,.int .i64 m,.int .i64 h,.int .i64 d]] w fun e w'=>e=.returned (.int .i64 (0))∧Ext w w':=by
 have hS:=hD (fun w'=>@box_held w 24 a m h d w')
 have hfd:=times_age_of (a+1) m h d
 go_enter Tryz.func184,Tryz.ntmps184
 go_wp2
 generalize hB:w.alloc (Obj.cells #[Value.int IntKind.i64 a,Value.int IntKind.i64 m,Value.int IntKind.i64 h,Value.int IntKind.i64 d] 24)=B at hS ⊢
 have hwB:Ext w B:=by rw[←hB];exact(Ext.refl w).alloc _
 clear hB
 go_region_held3 (fun w'=>Ext B w'∧w'.cell? ⟨w.heap.size,0,none⟩=some (.int .i64 a)∧w'.cell? ⟨w.heap.size,1,none⟩=some (.int .i64 m)∧w'.cell? ⟨w.heap.size,2,none⟩=some (.int .i64 h)∧w'.cell? ⟨w.heap.size,3,none⟩=some (.int .i64 d))
  ((first|exact hS.out _ (Ext.refl _)|exact hS.out _ (Ext.drew (Ext.refl _))|exact hS.out _ (Ext.drew (And.left (by assumption)))|exact hS.out _ (Ext.trans (And.left (by assumption)) (by assumption))))
  (first|(go_at_call 64;refine(older_any _ _ _ _ _ (by omega) (by omega)).mono ?_;rintro e w1 ⟨rfl,h1⟩))
 have hw1:Ext w w1:=hwB.trans ((Ext.refl _).drew.trans h1)
 have hc:=hS.out _ ((Ext.refl _).drew.trans h1)
 have hf:decide (m<a+1)=true:=by simp;omega
 go_wp2
 go_ret
 exact⟨retI (by omega),hw1⟩
def waitsV(a m h:Int):Int:=if a<m then 3*h else 0
theorem waits_any(a m h d:Int)(w:World)(ha:0≤a)(ha':a≤65535)(hm:0≤m)(hm':m≤65535)(hh:0≤h)(hh':h≤65535):
    Calls Tryz.prog 184 #[.agg #[.int .i64 a,.int .i64 m,.int .i64 h,.int .i64 d]] w fun e w'=>e=.returned (.int .i64 (waitsV a m h))∧Ext w w':=by
 by_cases hlt:a<m
 ·exact asi (waits_yes a m h d w ha ha' hm hm' hh hh' (by omega)) (by simp[waitsV,hlt])
 ·exact asi (waits_no a m h d w ha ha' hm hm' hh hh' (by omega)) (by simp[waitsV,hlt])
theorem eq_times(w:World)(a m h d a' m' h' d':Int):(binOp .eql 24 (.agg #[.int .i64 a,.int .i64 m,.int .i64 h,.int .i64 d]) (.agg #[.int .i64 a',.int .i64 m',.int .i64 h',.int .i64 d'])).run Tryz.prog w =
    .ok (.bool (a == a' && m == m' && h == h' && d == d')) w:=by
 have k1:Tryz.prog.stoodInHeld 24=false:=by kernel_rfl
 simp[go_sem,k1,Tryz.underlying24]
 split
 ·split
  ·split
   ·split<;>simp_all
   ·simp_all
  ·simp_all
 ·simp_all
end Go.Proofs.YtpanapepcbbagaaGreat
