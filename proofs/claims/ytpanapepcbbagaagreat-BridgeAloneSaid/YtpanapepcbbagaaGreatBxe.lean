/- Part 5 of what BridgeRests stands on. No statement is proved here. -/
import Derived.Maps.AppendAt
import Derived.Laws.ComplexArith
import Derived.ChangeSlices
import Derived.Deep.OwnRows
import Derived.Sort.AssemblyPlain
import Derived.Deep.CutRange
import Derived.Sort.LotC
import Derived.Sort.LotD5
import Derived.Laws.Bits64
import Derived.Laws.Bits64b
import Derived.Sort.LotD4
import Derived.Shelf.Slices.CompactI
import Derived.Shelf.Slices.Clone
import Derived.DeepKeys5
import Derived.Laws.Rows
import Derived.Laws.FloatArith
import Derived.Test.YtpanapepcbbagaaGreatBxd
set_option linter.unusedVariables false
set_option linter.unusedSimpArgs false
set_option maxRecDepth 100000
set_option maxHeartbeats 8000000
namespace Go.Proofs.YtpanapepcbbagaaGreat
open Go.RowKit Go.BigFrame Go.WideShapes Go.ChangeShapes Go.Deep
def hdA(id:Int)(rst:Bool)(ta mx hl dl hold:Int):List Value:=[.int .u64 id,.bool rst,.int .i64 ta,.int .i64 mx,.int .i64 hl,.int .i64 dl,.int .i64 hold,.int .u64 id,.int .u32 0,.int .u64 id,.int .u16 0,.int .u16 0,.int .i64 (-1),.int .i64 ta,.int .i64 mx,.int .i64 hl,.int .i64 dl]
theorem aKB{id ta mx hl dl hold:Int}{rst:Bool}(hi:(Lit.int .u64 id).wf=true)(ha:(Lit.int .i64 ta).wf=true)(hm:(Lit.int .i64 mx).wf=true)(hh:(Lit.int .i64 hl).wf=true)(hd:(Lit.int .i64 dl).wf=true)(ho:(Lit.int .i64 hold).wf=true):Typed HL (hdA id rst ta mx hl dl hold):=by
 rw[aKA]
 exact nO ⟨⟨_,rfl,hi⟩,⟨_,rfl⟩,⟨_,rfl,ha⟩,⟨_,rfl,hm⟩,⟨_,rfl,hh⟩,⟨_,rfl,hd⟩,⟨_,rfl,ho⟩,⟨_,rfl,hi⟩,⟨_,rfl,rfl⟩,⟨_,rfl,hi⟩,⟨_,rfl,rfl⟩,⟨_,rfl,rfl⟩,⟨_,rfl,rfl⟩,⟨_,rfl,ha⟩,⟨_,rfl,hm⟩,⟨_,rfl,hh⟩,⟨_,rfl,hd⟩,trivial⟩
def oG(id:Int)(rst:Bool)(ta mx hl dl hold:Int)(P:List Pt):Br:=⟨hdA id rst ta mx hl dl hold,P.length,P.flatMap (pL rst mx hl dl),0,[],0,[]⟩
theorem rO{id ta mx hl dl hold:Int}{rst:Bool}{P:List Pt}{k j:Nat}{x:Value}(hk:k<P.length)(hx:(pL rst mx hl dl (P.getD k default))[j]?=some x):(oG id rst ta mx hl dl hold P).ps[k*89+j]?=some x :=
 mV (pL rst mx hl dl) 89 (aFB rst mx hl dl) default P k j x hk hx
theorem aAC{id ta mx hl dl hold:Int}{rst:Bool}{P:List Pt}(hi:(Lit.int .u64 id).wf=true)(ha:(Lit.int .i64 ta).wf=true)(hm:(Lit.int .i64 mx).wf=true)(hh:(Lit.int .i64 hl).wf=true)(hd:(Lit.int .i64 dl).wf=true)(ho:(Lit.int .i64 hold).wf=true)(hP:∀p∈P,PtR p):(oG id rst ta mx hl dl hold P).ok:=by
 refine⟨aKB hi ha hm hh hd ho,bY.2 ⟨?_,fun i hi j c hc=>?_⟩,⟨rfl,fun i hi=>by exact absurd hi (Nat.not_lt_zero _)⟩,⟨rfl,fun i hi=>by exact absurd hi (Nat.not_lt_zero _)⟩⟩
 ·show (P.flatMap (pL rst mx hl dl)).length=P.length*PL.length
  rw[List.length_flatMap,show PL.length=89 from rfl]
  have:P.map (fun p=>(pL rst mx hl dl p).length)=List.replicate P.length 89:=by
   rw[List.eq_replicate_iff]
   exact⟨by simp,fun b hb=>by obtain⟨p,_,rfl⟩:=List.mem_map.1 hb;rfl⟩
  rw[this,List.sum_replicate_nat]
 ·have hk:i<P.length:=hi
  have hp:=hP (P.getD i default) (by rw[List.getD_eq_getElem?_getD,List.getElem?_eq_getElem hk];exact List.getElem_mem hk)
  have ht:Typed PL (pL rst mx hl dl (P.getD i default)):=aFA (aLR hp.1) (aLS hp.2) hm hh hd (by split<;>rfl)
  obtain⟨v,hv,hcv⟩:=ht.2 j c hc
  exact⟨v,rO hk hv,hcv⟩
def oR:Array Value:=#[.int .u64 0,.bool false,.int .i64 0,.int .i64 0,.int .i64 0,.int .i64 0,.int .i64 0,.int .u64 0,.int .u32 0,.int .u64 0,.int .u16 0,.int .u16 0,.int .i64 0,.int .i64 0,.int .i64 0,.int .i64 0,.int .i64 0,.slice none 0 0,.slice none 0 0,.slice none 0 0]
def NewIs(w w':World)(c:Array Value)(ok:Bool)(B:Br):Prop:=(ok=true∧∃u,c=(B.hd++[u,.slice none 0 0,.slice none 0 0]).toArray∧w'.ownsRow w.heap.size 60 89 u B.np B.ps)∨(ok=false∧c=oR)
theorem p0{w:World}{a b:Nat}{e:TypeId}{m n:Nat}{v:Value}{xs:List Value}(h:w.ownsRow b e m v n xs)(hab:a≤b):w.ownsRow a e m v n xs:=by
 refine⟨h.1,?_⟩
 rcases h.2 with hn|⟨g,cap,cur,rfl,hb,rest⟩
 ·exact .inl hn
 ·exact .inr ⟨g,cap,cur,rfl,Nat.le_trans hab hb,rest⟩
structure PA (B:Br) (i:Nat):Prop where
 b2:B.gb i 2=false
 b35:B.gb i 35=false
 b36:B.gb i 36=false
 g6:B.gi i 6=3
 g15:B.gi i 15=0
 g9:B.gi i 9=3
 g16:B.gi i 16=0
 ed:(B.gb i 32=true∧B.gb i 4=true∧B.gi i 17=0)∨(B.gb i 4=false∧B.gi i 17=1)
 g86:B.gi i 86=0
 g18:B.gi i 18=0
 b43:B.gb i 43=false
 b44:B.gb i 44=true
 b50:B.gb i 50=false
 g88:B.gi i 88=0
 g87:B.gi i 87=0
 b29:B.gb i 29=false
 b28:B.gb i 28=false
 b27:B.gb i 27=false
 g20:B.gi i 20=0
 g21:B.gi i 21=0
 g8:B.gi i 8=2
def AU(j:Nat):Bool:=j == 7 || j == 12 || j == 47 || j == 46 || j == 42 || j == 19 || j == 25
def Oth(k:Nat)(B C:Br):Prop:=∀i j,i≠k→j<89→C.ps[i*89+j]?=B.ps[i*89+j]?
def T1(B:Br)(i:Nat):Prop:=B.gi i 19=1∧B.gi i 7=20∧B.gb i 46=false∧B.gb i 42=false∧B.gb i 47=true
section
variable {B:Br} {k:Nat}
theorem aHS(hf:B.gb k 25=true):jN B k=(true,(B.flush k).setp k 25 (.bool false)):=by
 unfold jN
 rw[if_pos hf]
end
def JU(n M:Nat)(s:Nat→Nat)(k j c:Nat)(B:Br):Prop :=
 k≤n∧KI n (M+8*k+j) s B∧(∀i,i<n→PA B i)∧(∀i,i<n→(i<k∨(i=k∧5≤j)→T1 B i)∧(k<i∨(i=k∧j<5)→B.gi i 19=0)∧(i<k∨(i=k∧7≤j)→B.gb i 25=false)∧(k<i∨(i=k∧j<7)→B.gb i 25=true))
def JQ(n M:Nat)(s:Nat→Nat)(k j c:Nat)(B:Br):Prop:=c=0∧k≤n∧KI n M s B∧∀i,i<n→PA B i∧T1 B i∧B.gb i 25=false
def S0(n M:Nat)(s:Nat→Nat)(B:Br):Prop:=KI n M s B∧∀i,i<n→PA (gA B).2 i∧(gA B).2.gi i 19=0∧(gA B).2.gb i 25=true
def S1(n M:Nat)(s:Nat→Nat)(B:Br):Prop:=KI n M s B∧∀i,i<n→PA B i∧T1 B i∧B.gb i 25=false
theorem rP{B:Br}:∀m,(∀i,i<m→B.gb i 43=false)→oD B m=false
 | 0,_=>rfl
 | m+1,h=>by
  unfold oD
  rw[rP m (fun i hi=>h i (by omega)),h m (by omega)]
  rfl
theorem aFC{B:Br}(ho:B.ok)(h:∀i,i<B.np→B.gb i 43=false):lW B B.np=B:=by
 have hr:=kW B 43 (fun _=>.bool false) B.np
 have hl:=ho.len
 have e:(lW B B.np).ps=B.ps:=by
  apply List.ext_getElem?
  intro q
  have hq:q=q / 89*89+q % 89:=by omega
  rw[hq]
  show(B.upd 43 (fun _=>.bool false) B.np).ps[q / 89*89+q % 89]?=_
  rw[l6 B (by decide) _ (by rw[hl];exact Nat.le_refl _) (by omega)]
  split
  ·rename_i hc
   rw[hc.1,ho.gb hc.2 43 rfl,h _ hc.2]
  ·rfl
 have hnp:=gS B 43 (fun _=>.bool false) B.np
 have hhd:=aEL B 43 (fun _=>.bool false) B.np
 obtain⟨C,hC⟩:∃C,lW B B.np=C:=⟨_,rfl⟩
 have hC':B.upd 43 (fun _=>.bool false) B.np=C:=hC
 rw[hC]at e ⊢
 rw[hC']at hr hnp hhd
 obtain⟨r1,r2,r3,r4⟩:=hr
 cases C
 cases B
 simp only at e hnp hhd r1 r2 r3 r4
 subst e hnp hhd r1 r2 r3 r4
 rfl
theorem rQ{B:Br}(ho:B.ok):∀m,m≤B.np→∀i j,i<B.np→j<89→(eF B m).ps[i*89+j]?=if i<m then(stL B i (a9 B.ps i))[j]? else B.ps[i*89+j]?
 | 0,_,i,j,_,_=>by rw[if_neg (by omega)];rfl
 | m+1,hm,i,j,hi,hj=>by
  have IH:=rQ ho m (by omega)
  have okm:=k6 ho m (by omega)
  have hmk:m<(eF B m).np:=by rw[j5];omega
  have h89:=fH okm hmk
  have hl':(stL B m (a9 (eF B m).ps m)).length=89:=nT (k4 ho (dI okm hmk))
  have hp:a9 (eF B m).ps m=a9 B.ps m:=by
   apply List.ext_getElem?
   intro q
   by_cases hq:q<89
   ·rw[aI hq,aI hq,IH m q (by omega) hq,if_neg (by omega)]
   ·rw[List.getElem?_eq_none (by simp[a9];omega),List.getElem?_eq_none (by simp[a9];omega)]
  show((eF B m).setPort m (stL B m (a9 (eF B m).ps m))).ps[i*89+j]?=_
  rw[eR hl' h89]
  by_cases him:i=m
  ·subst him
   rw[if_pos (by omega),if_pos (by omega),hp]
   congr 1
   omega
  ·rw[if_neg (by omega),IH i j hi hj]
   by_cases h2:i<m
   ·rw[if_pos h2,if_pos (by omega)]
   ·rw[if_neg h2,if_neg (by omega)]
section
variable {rst:Bool} {P:List Pt} {n:Nat}
def NB(rst:Bool)(P:List Pt):Br:=oG 7 rst 0 20 2 15 6 P
theorem aLU(hP:∀p∈P,PtR p):(NB rst P).ok:=aAC rfl rfl rfl rfl rfl rfl hP
theorem aAD{k j:Nat}{x:Value}(hk:k<P.length)(hx:(pL rst 20 2 15 (P.getD k default))[j]?=some x):(NB rst P).ps[k*89+j]?=some x:=rO hk hx
theorem mW{k j:Nat}{q:IntKind}{z:Int}(hk:k<P.length)(hx:(pL rst 20 2 15 (P.getD k default))[j]?=some (.int q z)):(NB rst P).gi k j=z:=by
 unfold Br.gi
 rw[aAD hk hx]
theorem aIS(hP:∀p∈P,PtR p)(hn:P.length=n):KI n 0 (fun _=>0) (NB rst P):=by
 subst hn
 refine⟨aLU hP,rfl,⟨rfl,rfl,rfl,rfl,rfl⟩,(by rw[show(NB rst P).hi 13=0 from rfl];omega),fun k hk=>?_,⟨[],⟨rfl,fun i x hx=>(by simp at hx)⟩,fun x hx=>(by cases hx),fun k hk=>?_⟩,Nat.le_refl _⟩
 ·unfold PI
  rw[mW (q:=.i64) (z:=0) (j:=14) hk rfl,mW (q:=.i64) (z:=0) (j:=64) hk rfl,mW (q:=.i64) (z:=0) (j:=65) hk rfl,mW (q:=.i64) (z:=0) (j:=66) hk rfl,mW (q:=.i64) (z:=0) (j:=67) hk rfl,mW (q:=.i64) (z:=0) (j:=78) hk rfl,mW (q:=.i64) (z:=0) (j:=86) hk rfl,mW (q:=.i64) (z:=0) (j:=82) hk rfl]
  omega
 ·rw[mW (q:=.i64) (z:=0) (j:=14) hk rfl]
  simp
end
theorem aAE{B:Br}{k:Nat}(h88:0≤gI (pc B k) 88∧gI (pc B k) 88≤4)(h:(oM B k).1=false)(h44:gB (pc B k) 44=true)(h50:gB (pc B k) 50=false):gI (pc B k) 87=gI (pc B k) 88:=by
 unfold oM at h
 rw[cM (by decide),cM (by decide),if_pos ⟨h44,h50⟩]at h
 unfold mO at h
 split at h
 ·rename_i hr
  have hno:=xC (B:=B) (k:=k)
  rw[hr]at hno
  have h0:=hno 0 (by omega)
  have h1:=hno 1 (by omega)
  have h2:=hno 2 (by omega)
  have h3:=hno 3 (by omega)
  simp[wB,cQ,gN (B:=B) (k:=k) (j:=88) (by decide),gN (B:=B) (k:=k) (j:=87) (by decide)]at h0 h1 h2 h3
  omega
 ·split at h<;>cases h
theorem aHT{B:Br}{k:Nat}(h:(oM B k).1=true):gB (pc B k) 44=true∧gB (pc B k) 50=false:=by
 unfold oM at h
 rw[cM (by decide),cM (by decide)]at h
 split at h
 ·assumption
 ·cases h
theorem CL.row2{c:Pc}{M l:List Value}(h:CL c M){j:Nat}(hj:(j=73∧l.length=5)∨(j=82∧l.length=4)):CL c (setL M j l):=by
 refine⟨bH h.1 (by omega),fun x hx=>?_⟩
 rw[←h.2 x hx]
 exact eD h.1 (by omega) (by omega)
def SeR(c d:Pc):Prop:=∃d0 r u,eV d0 d∧d0=up (up (up (up c 43 (.bool false)) 88 (.int .i64 r)) 50 (.bool u)) 44 (.bool true)∧0≤r∧r≤4∧(r=0↔gI c 86=0)∧(gI c 86=0→u=gB c 50)∧(gI c 86=1→u=true)
theorem aAF{c d:Pc}{j:Nat}{v:Value}(h:eV c d)(hv:c j=some v):eV (up c j v) d:=fun x hx=>by
 rw[h x hx]
 unfold up
 split
 ·rename_i e
  rw[e,hv]
 ·rfl
theorem aKC{c:Pc}{M:List Value}(h:CL (up c 43 (.bool false)) M)(hT:Typed PL M)(h86:0≤gI c 86∧gI c 86≤3)(k:Nat)(rp id:Int):∃r u,CL (up (up (up c 43 (.bool false)) 88 (.int .i64 r)) 50 (.bool u)) (chL k rp id M)∧0≤r∧r≤4∧(r=0↔gI c 86=0)∧(gI c 86=0→u=gB c 50)∧(gI c 86=1→u=true):=by
 have e86:pI M 86=gI c 86:=by
  have:=h.2 86 (by omega)
  show gI (cf M) 86=_
  unfold gI
  rw[this]
  rfl
 have e50:M[50]?=some (.bool (gB c 50)):=by
  have h1:=fG hT 50 rfl
  have h2:=h.2 50 (by omega)
  have h3:pB M 50=gB c 50:=by
   show gB (cf M) 50=_
   unfold gB
   rw[h2]
   rfl
  rw[h1,h3]
 have hds:∀(a b:Bool) {d:Pc} {X:List Value} (u0:Bool),CL d X→X[50]?=some (.bool u0)→∃u,CL (up (up d 88 (.int .i64 4)) 50 (.bool u)) (dsL a b X)∧(u0=true→u=true):=fun a b d X u0 hX h50=>by
  have same:CL (up (up d 88 (.int .i64 4)) 50 (.bool u0)) (X.set 88 (.int .i64 4)):=⟨(hX.set).1,aAF (hX.set (j:=88)).2 (by rw[a5 _ _ (by decide)];exact(hX.2 50 (by omega)).symm.trans h50)⟩
  unfold dsL
  split
  ·exact⟨u0,same,fun h=>h⟩
  ·exact⟨true,hX.set.set,fun _=>rfl⟩
 unfold chL
 rw[e86]
 split
 ·rename_i h0
  refine⟨0,gB c 50,⟨(h.set (j:=88)).1,aAF (h.set (j:=88)).2 ?_⟩,by omega,by omega,(by omega),fun _=>rfl,fun h1=>by omega⟩
  rw[a5 _ _ (by decide)]
  exact(h.2 50 (by omega)).symm.trans e50
 split
 ·rename_i h0 h3
  split
  ·refine⟨kN k rp (pI M 70) id,false,h.set.set,?_,?_,?_,fun h1=>by omega,fun h1=>by omega⟩
   all_goals unfold kN
   all_goals (repeat' split)<;>omega
  ·obtain⟨u,hu,-⟩:=hds (smL M) (teL M) true (h.set (j:=50) (v:=.bool true)) (cE h.1 (by decide))
   refine⟨4,u,?_,by omega,by omega,(by omega),fun h1=>by omega,fun h1=>by omega⟩
   exact⟨hu.1,fun x hx=>(hu.2 x hx).trans (by unfold up;(repeat' split)<;>first|rfl|omega)⟩
 split
 ·rename_i h0 h3 h1
  obtain⟨u,hu,hu2⟩:=hds (smL M) (teL M) true (h.set (j:=50) (v:=.bool true)) (cE h.1 (by decide))
  refine⟨4,u,?_,by omega,by omega,(by omega),fun h1=>by omega,fun _=>hu2 rfl⟩
  exact⟨hu.1,fun x hx=>(hu.2 x hx).trans (by unfold up;(repeat' split)<;>first|rfl|omega)⟩
 split
 ·rename_i h0 h3 h1 h2
  obtain⟨u,hu,-⟩:=hds (smL M) (teL M) (gB c 50) h e50
  exact⟨4,u,hu,by omega,by omega,(by omega),fun h1=>by omega,fun h1=>by omega⟩
 ·rename_i h0 h3 h1 h2
  omega
theorem s9{B:Br}{n:Nat}(ho:B.ok)(hnp:B.np=n)(hn:n<1000)(hR:∀k,k<B.np→0≤B.gi k 78∧B.gi k 78≤65535)(h86:∀i,i<n→0≤gI (pc B i) 86∧gI (pc B i) 86≤3):
    (gA B=(false,B)∧∀i,i<n→gB (pc B i) 43=false)∨((gA B).1=true∧∀i,i<n→SeR (pc B i) (pc (gA B).2 i)):=by
 subst hnp
 have hl:B.np*89≤B.ps.length:=by rw[ho.len];exact Nat.le_refl _
 unfold gA
 split
 ·refine .inr ⟨rfl,fun i hi=>?_⟩
  have okN:=o4 ho (Nat.le_refl B.np)
  have npN:(lW B B.np).np=B.np:=gS B 43 _ _
  have ok2:(dO (lW B B.np)).ok:=pR okN (by rw[npN];exact hn) (fun k hk=>by
   rw[wM ho (by decide) (by decide)]
   exact hR k (by rw[←npN];exact hk))
  have hp:pc (lW B B.np) i=up (pc B i) 43 (.bool false):=by
   show pc (B.upd 43 (fun _=>.bool false) B.np) i=_
   rw[yF (by decide) _ hl,if_pos hi]
  obtain⟨D,hD⟩:∃D,dO (lW B B.np)=D:=⟨_,rfl⟩
  have hDp:D.ps=(lW B B.np).ps:=by rw[←hD];rfl
  have hDn:D.np=B.np:=by rw[←hD];exact npN
  rw[hD]at ok2
  show SeR (pc B i) (pc (eF (dO (lW B B.np)) B.np) i)
  rw[hD]
  have iD:i<D.np:=by rw[hDn];exact hi
  have hT:=dI ok2 iD
  have h0:CL (up (pc B i) 43 (.bool false)) (a9 D.ps i):=⟨nT hT,by
   have:cf (a9 D.ps i)=up (pc B i) 43 (.bool false):=by rw[←hp];show cf (a9 D.ps i)=cf (a9 (lW B B.np).ps i);rw[hDp]
   rw[this]
   exact bJ _⟩
  have hTt:Typed PL (lI D (a9 D.ps i)):=kO ok2 hT
  have h1:CL (up (pc B i) 43 (.bool false)) (lI D (a9 D.ps i)):=((h0.row2 (.inl ⟨rfl,rfl⟩)).row2 (.inr ⟨rfl,rfl⟩)).skip
  obtain⟨r,u,hc,h2,h3,h4,h5,h6⟩:=aKC h1 hTt (h86 i hi) i (D.hi 12) (D.hi 0)
  refine⟨_,r,u,?_,rfl,h2,h3,h4,h5,h6⟩
  have e:pc (eF D B.np) i=cf (stL D i (a9 D.ps i)):=by
   funext x
   by_cases hx:x<89
   ·rw[jZ hx,rQ ok2 B.np (by omega) i x iD hx,if_pos hi]
    rfl
   ·rw[iB (by omega)]
    have hl3:(stL D i (a9 D.ps i)).length=89:=nT (k4 ok2 hT)
    exact(List.getElem?_eq_none (by omega)).symm
  rw[e]
  exact(hc.set (j:=44) (v:=.bool true)).2
 ·rename_i hany
  have h43:∀i,i<B.np→B.gb i 43=false:=fun i hi=>by
   have:∀m,i<m→oD B m=false→B.gb i 43=false:=fun m=>by
    induction m with
    | zero=>intro h;omega
    | succ m ih =>
     intro h h2
     unfold oD at h2
     simp only[Bool.or_eq_false_iff]at h2
     by_cases e:i=m
     ·rw[e];exact h2.2
     ·exact ih (by omega) h2.1
   exact this B.np hi (by simpa using hany)
  rw[aFC ho h43]
  exact .inl ⟨rfl,fun i hi=>(cM (by decide)).symm.trans (h43 i hi)⟩
end Go.Proofs.YtpanapepcbbagaaGreat
namespace Go.Proofs.YtpanapepcbbagaaGreat
open Go.RowKit Go.BigFrame Go.WideShapes Go.ChangeShapes Go.Deep
variable {c d:Pc}
theorem aFD(h:eV c d):(gB d 2=gB c 2∧gB d 26=gB c 26∧gB d 28=gB c 28∧gB d 35=gB c 35∧gB d 36=gB c 36∧gB d 43=gB c 43∧gB d 44=gB c 44∧gB d 50=gB c 50) ∧
    gI d 6=gI c 6∧gI d 11=gI c 11∧gI d 15=gI c 15∧gI d 18=gI c 18∧gI d 19=gI c 19∧gI d 86=gI c 86∧gI d 87=gI c 87∧gI d 88=gI c 88:=by
 unfold gB gI
 rw[h 2 (by omega),h 26 (by omega),h 28 (by omega),h 35 (by omega),h 36 (by omega),h 43 (by omega),h 44 (by omega),h 50 (by omega),h 6 (by omega),h 11 (by omega),h 15 (by omega),h 18 (by omega),h 19 (by omega),h 86 (by omega),h 87 (by omega),h 88 (by omega)]
 exact⟨⟨rfl,rfl,rfl,rfl,rfl,rfl,rfl,rfl⟩,rfl,rfl,rfl,rfl,rfl,rfl,rfl,rfl⟩
def AI(c:Pc):Prop:=RS c∧(0≤gI c 88∧gI c 88≤4)∧(0≤gI c 86∧gI c 86≤3)∧(0≤gI c 18∧gI c 18≤2)∧(gI c 18=0↔gI c 86=0)∧(gI c 18=1↔gI c 86=1)∧(gB c 44=false→gB c 43=true)∧(gB c 44=true→(gI c 88=0↔gI c 86=0))∧(gI c 86=0→gB c 50=false)∧(gB c 44=true→gI c 86=1→gB c 50=true)∧(gI c 15=0∨gI c 15=1)
def YY(c:Pc):Prop:=gB c 35=false∧gB c 36=false∧(gI c 86=0↔gB c 2=false)∧(gB c 2=false→gI c 6=3)
def QQ(c:Pc):Prop:=gB c 43=false∧gB c 44=true
def DD(c:Pc):Prop:=gI c 86=3→gI c 11≠0
def ZZ(c:Pc):Prop:=AI c∧QQ c∧gB c 36=false∧gB c 50=false∧(gB c 35=true→gB c 2=true∧gI c 18=2)∧gI c 18≠1
def Z1(c:Pc):Prop:=AI c∧QQ c∧gB c 35=false∧gB c 50=false∧(gB c 36=true→gB c 2=true∧gI c 18=2)∧gI c 18≠1∧(gB c 2=false→gI c 6=3)
def AY(c:Pc):Prop:=AI c∧YY c
def AQ(c:Pc):Prop:=AI c∧YY c∧QQ c
def AD(c:Pc):Prop:=AI c∧YY c∧QQ c∧DD c
def VV(c:Pc):Prop:=AI c∧YY c∧DD c∧((gB c 43=false∧gB c 44=true∧gB c 50=false)∨gB c 44=false)
def UU(c:Pc):Prop:=AI c∧YY c∧QQ c∧DD c∧gB c 50=false∧gI c 18≠1
def WW(c:Pc):Prop:=UU c∧gI c 87=gI c 88
def CP(p:Pc→Prop):Prop:=∀c d,eV c d→p c→p d
theorem dD:CP AI∧CP YY∧CP QQ∧CP DD∧CP ZZ∧CP Z1∧CP VV∧CP UU∧CP WW:=by
 refine⟨?_,?_,?_,?_,?_,?_,?_,?_,?_⟩<;>intro c d h hp<;>obtain⟨⟨b2,b26,b28,b35,b36,b43,b44,b50⟩,i6,i11,i15,i18,i19,i86,i87,i88⟩:=aFD h<;>revert hp<;>simp only[AI,YY,QQ,DD,ZZ,Z1,VV,UU,WW,RS,b2,b26,b28,b35,b36,b43,b44,b50,i6,i11,i15,i18,i19,i86,i87,i88]<;>exact id
theorem aFE:CP AY:=fun c d h hp=>⟨dD.1 c d h hp.1,dD.2.1 c d h hp.2⟩
theorem rR:CP AQ:=fun c d h hp=>⟨dD.1 c d h hp.1,dD.2.1 c d h hp.2.1,dD.2.2.1 c d h hp.2.2⟩
theorem vO:CP AD:=fun c d h hp=>⟨dD.1 c d h hp.1,dD.2.1 c d h hp.2.1,dD.2.2.1 c d h hp.2.2.1,dD.2.2.2.1 c d h hp.2.2.2⟩
theorem aIT(h:YY c):gP (gB c 2) (gB c 35) (gB c 36) (gI c 6) (gI c 15)=0:=by
 obtain⟨h1,h2,h3,h4⟩:=h
 unfold gP
 rw[h1,h2]
 cases hb:gB c 2
 ·rw[h4 hb];rfl
 ·rfl
theorem oS{p:Pc→Prop}(hp:CP p)(hy:YY c)(h:RxR c d)(hc:p c):p d:=by
 obtain⟨d0,h1,h2⟩:=h
 have h0:=aIT hy
 rcases h2 with ⟨rfl,-⟩|⟨-,h2⟩|⟨-,h2⟩
 ·exact hp _ _ h1 hc
 ·omega
 ·omega
theorem aLW(hc:ZZ c)(h:RxR c d):Z1 d:=by
 obtain⟨d0,h1,h2⟩:=h
 refine dD.2.2.2.2.2.1 d0 d h1 ?_
 obtain⟨ha,hq,h36,h50,h35,h18⟩:=hc
 rcases h2 with ⟨rfl,h2⟩|⟨rfl,h2⟩|⟨rfl,h2⟩
 ·have h6:gB d0 2=false→gI d0 6=3:=fun hb=>by
   unfold gP at h2
   rw[hb]at h2
   simp at h2
   exact h2.2
  refine⟨ha,hq,?_,h50,(fun h=>(by rw[h36]at h;cases h)),h18,h6⟩
  cases h:gB d0 35
  ·rfl
  ·exfalso
   have hr:=ha.2.2.2.2.2.2.2.2.2.2
   unfold gP at h2
   rw[h,(h35 h).1,h36]at h2
   rcases hr with hr|hr<;>rw[hr]at h2<;>simp at h2
 ·simp[Z1,AI,QQ,RS,bE,aV,aCF,aA6]
  simp only[AI,QQ,RS]at ha hq
  exact⟨⟨ha.1,ha.2.1,ha.2.2.1,ha.2.2.2.1,ha.2.2.2.2.1,ha.2.2.2.2.2.1,ha.2.2.2.2.2.2.1,ha.2.2.2.2.2.2.2.1,ha.2.2.2.2.2.2.2.2.1,ha.2.2.2.2.2.2.2.2.2.1⟩,hq,h50,h18⟩
 ·have hen:gB c 35=true:=by
   unfold gP at h2
   cases h:gB c 35
   ·rw[h]at h2
    cases hb:gB c 2<;>rw[hb]at h2<;>simp at h2
    split at h2<;>cases h2
   ·rfl
  simp[Z1,AI,QQ,RS,bE,aV,aCF,aA6]
  simp only[AI,QQ,RS]at ha hq
  exact⟨⟨ha.1,ha.2.1,ha.2.2.1,ha.2.2.2.1,ha.2.2.2.2.1,ha.2.2.2.2.2.1,ha.2.2.2.2.2.2.1,ha.2.2.2.2.2.2.2.1,ha.2.2.2.2.2.2.2.2.1,ha.2.2.2.2.2.2.2.2.2.1⟩,hq,h50,h35 hen,h18⟩
theorem tA(h:eX c=0):¬(gB c 2=false∧gI c 86≠0)∧¬(gI c 18=0∧gB c 36=true)∧¬(gI c 18=0∧gB c 2=true)∧¬((gI c 18=1∨gI c 18=2)∧gB c 44=true∧gB c 50=true)∧¬(gI c 18=2∧gI c 86=3∧gI c 11=0∧gB c 50=false∧gB c 36=false)∧¬(gI c 18=2∧gB c 36=true∧gB c 50=false):=by
 unfold eX bX at h
 grind
theorem yL(h:eX c=1):(gB c 2=false∧gI c 86≠0)∨(gI c 18=0∧gB c 36=true):=by
 unfold eX bX at h
 grind
theorem yM(h:eX c=2):¬(gB c 2=false∧gI c 86≠0)∧((gI c 18=0∧gB c 2=true)∨(gI c 18=2∧gI c 86=3∧gI c 11=0∧gB c 50=false∧gB c 36=false)):=by
 unfold eX bX at h
 grind
theorem yN(h:eX c=3):¬(gB c 2=false∧gI c 86≠0)∧(gI c 18=1∨gI c 18=2)∧gB c 44=true∧gB c 50=true:=by
 unfold eX bX at h
 grind
theorem yO(h:eX c=4):¬(gB c 2=false∧gI c 86≠0)∧gI c 18=2∧gB c 36=true∧gB c 50=false:=by
 unfold eX bX at h
 grind
theorem aKD(hc:Z1 c)(h:InR c d):AY d:=by
 obtain⟨d0,h1,h2⟩:=h
 refine aFE d0 d h1 ?_
 rcases h2 with ⟨h,rfl⟩|⟨h,rfl⟩|⟨h,rfl⟩|⟨h,rfl⟩|⟨h,e,rfl,rfl|⟨z,rfl⟩|⟨z,rfl⟩⟩
 ·have h0:=tA h
  simp only[AY,AI,YY,QQ,DD,Z1,AQ,AD,VV,UU,RS,oO,bE,aV,aCF,aA6,Nat.reduceEqDiff,if_true,if_false]at hc ⊢
  grind
 ·have h0:=yL h
  simp only[AY,AI,YY,QQ,DD,Z1,AQ,AD,VV,UU,RS,oO,bE,aV,aCF,aA6,Nat.reduceEqDiff,if_true,if_false]at hc ⊢
  grind
 ·have h0:=yM h
  simp only[AY,AI,YY,QQ,DD,Z1,AQ,AD,VV,UU,RS,oO,bE,aV,aCF,aA6,Nat.reduceEqDiff,if_true,if_false]at hc ⊢
  grind
 ·have h0:=yN h
  simp only[AY,AI,YY,QQ,DD,Z1,AQ,AD,VV,UU,RS,oO,bE,aV,aCF,aA6,Nat.reduceEqDiff,if_true,if_false]at hc ⊢
  grind
 all_goals
  have h0:=yO h
  simp only[AY,AI,YY,QQ,DD,Z1,AQ,AD,VV,UU,RS,oO,bE,aV,aCF,aA6,Nat.reduceEqDiff,if_true,if_false]at hc ⊢
  grind
theorem aKE(hc:AQ c)(h:InR c d):VV d:=by
 obtain⟨d0,h1,h2⟩:=h
 refine dD.2.2.2.2.2.2.1 d0 d h1 ?_
 rcases h2 with ⟨h,rfl⟩|⟨h,rfl⟩|⟨h,rfl⟩|⟨h,rfl⟩|⟨h,e,rfl,rfl|⟨z,rfl⟩|⟨z,rfl⟩⟩
 ·have h0:=tA h
  simp only[AY,AI,YY,QQ,DD,Z1,AQ,AD,VV,UU,RS,oO,bE,aV,aCF,aA6,Nat.reduceEqDiff,if_true,if_false]at hc ⊢
  grind
 ·have h0:=yL h
  simp only[AY,AI,YY,QQ,DD,Z1,AQ,AD,VV,UU,RS,oO,bE,aV,aCF,aA6,Nat.reduceEqDiff,if_true,if_false]at hc ⊢
  grind
 ·have h0:=yM h
  simp only[AY,AI,YY,QQ,DD,Z1,AQ,AD,VV,UU,RS,oO,bE,aV,aCF,aA6,Nat.reduceEqDiff,if_true,if_false]at hc ⊢
  grind
 ·have h0:=yN h
  simp only[AY,AI,YY,QQ,DD,Z1,AQ,AD,VV,UU,RS,oO,bE,aV,aCF,aA6,Nat.reduceEqDiff,if_true,if_false]at hc ⊢
  grind
 all_goals
  have h0:=yO h
  simp only[AY,AI,YY,QQ,DD,Z1,AQ,AD,VV,UU,RS,oO,bE,aV,aCF,aA6,Nat.reduceEqDiff,if_true,if_false]at hc ⊢
  grind
theorem aKF(hc:AD c)(h:InR c d):UU d:=by
 obtain⟨d0,h1,h2⟩:=h
 refine dD.2.2.2.2.2.2.2.1 d0 d h1 ?_
 rcases h2 with ⟨h,rfl⟩|⟨h,rfl⟩|⟨h,rfl⟩|⟨h,rfl⟩|⟨h,e,rfl,rfl|⟨z,rfl⟩|⟨z,rfl⟩⟩
 ·have h0:=tA h
  simp only[AY,AI,YY,QQ,DD,Z1,AQ,AD,VV,UU,RS,oO,bE,aV,aCF,aA6,Nat.reduceEqDiff,if_true,if_false]at hc ⊢
  grind
 ·have h0:=yL h
  simp only[AY,AI,YY,QQ,DD,Z1,AQ,AD,VV,UU,RS,oO,bE,aV,aCF,aA6,Nat.reduceEqDiff,if_true,if_false]at hc ⊢
  grind
 ·have h0:=yM h
  simp only[AY,AI,YY,QQ,DD,Z1,AQ,AD,VV,UU,RS,oO,bE,aV,aCF,aA6,Nat.reduceEqDiff,if_true,if_false]at hc ⊢
  grind
 ·have h0:=yN h
  simp only[AY,AI,YY,QQ,DD,Z1,AQ,AD,VV,UU,RS,oO,bE,aV,aCF,aA6,Nat.reduceEqDiff,if_true,if_false]at hc ⊢
  grind
 all_goals
  have h0:=yO h
  simp only[AY,AI,YY,QQ,DD,Z1,AQ,AD,VV,UU,RS,oO,bE,aV,aCF,aA6,Nat.reduceEqDiff,if_true,if_false]at hc ⊢
  grind
theorem aFF(hc:WW c):eX c=0:=by
 obtain⟨⟨ha,⟨y1,y2,y3,y4⟩,hq,hd,h50,h18⟩,-⟩:=hc
 unfold AI at ha
 unfold DD at hd
 unfold eX bX
 grind
theorem kts(h:Kt c d):(gB d 2=gB c 2∧gB d 35=gB c 35∧gB d 36=gB c 36∧gB d 43=gB c 43∧gB d 44=gB c 44∧gB d 50=gB c 50)∧gI d 11=gI c 11∧gI d 15=gI c 15∧gI d 18=gI c 18∧gI d 86=gI c 86∧gI d 88=gI c 88:=by
 unfold gB gI
 rw[h 2 (by unfold KT;omega),h 35 (by unfold KT;omega),h 36 (by unfold KT;omega),h 43 (by unfold KT;omega),h 44 (by unfold KT;omega),h 50 (by unfold KT;omega),h 11 (by unfold KT;omega),h 15 (by unfold KT;omega),h 18 (by unfold KT;omega),h 86 (by unfold KT;omega),h 88 (by unfold KT;omega)]
 exact⟨⟨rfl,rfl,rfl,rfl,rfl,rfl⟩,rfl,rfl,rfl,rfl,rfl⟩
theorem vP{e:Nat}(hc:AI c)(hy:YY c)(h44:gB c 44=true)(h50:gB c 50=false)(h:TrO c d e):AY d∧(QQ c→QQ d)∧(DD c→DD d)∧gB d 50=false∧gB d 44=true∧gB d 43=gB c 43∧gI d 18=gI c 18∧gI d 87=gI d 88:=by
 obtain⟨⟨b2,b35,b36,b43,b44,b50⟩,i11,i15,i18,i86,i88⟩:=kts h.kt
 have h87:gI d 87=gI d 88:=by
  rw[i88]
  by_cases he:gI c 88=gI c 87
  ·exact(h.eq he).1.trans he.symm
  ·exact h.ne he
 have hr:=h.rs hc.1
 have h6:gI d 6=gI c 6∨(gI c 88=gI c 87∧gI c 19=3):=h.six.imp (fun h=>by unfold gI;rw[h]) id
 have hr0:=hc.1
 unfold RS at hr0
 unfold AY QQ DD
 refine⟨⟨⟨hr,?_⟩,?_⟩,?_,?_,?_,?_,b43,i18,h87⟩
 ·rw[b43,b44,b50,i15,i18,i86,i88]
  exact hc.2
 ·unfold AI YY at *
  rw[b2,b35,b36,i86]
  grind
 ·rw[b43,b44]
  exact id
 ·rw[i86,i11]
  exact id
 ·rw[b50,h50]
 ·rw[b44,h44]
theorem yP(hc:AI c)(hy:YY c)(h:SeR c d):AQ d∧(DD c→DD d):=by
 obtain⟨d0,r,u,h1,rfl,h2,h3,h4,h5,h6⟩:=h
 refine⟨rR _ d h1 ?_,fun hd=>dD.2.2.2.1 _ d h1 ?_⟩
 ·simp only[AQ,AI,YY,QQ,RS,bE,aV,aCF,aA6,Nat.reduceEqDiff,if_true,if_false]at hc hy ⊢
  grind
 ·simp only[DD,bE,aV,aCF,aA6,Nat.reduceEqDiff,if_true,if_false]at hd ⊢
  exact hd
theorem aFG(hc:AI c)(h:gB c 43=false):QQ c:=by
 refine⟨h,?_⟩
 have:=hc.2.2.2.2.2.2.1
 cases h44:gB c 44
 ·rw[this h44]at h;cases h
 ·rfl
end Go.Proofs.YtpanapepcbbagaaGreat
namespace Go.Proofs.YtpanapepcbbagaaGreat
open Go.RowKit Go.BigFrame Go.WideShapes Go.ChangeShapes Go.Deep
def fF(j:Nat)(B:Br)(k:Nat):Bool × Br:=match j with|0=>tD B k|1=>gD B k|2=>fM B k|3=>mJ B k|4=>oM B k|5=>gT B k|6=>jN B k|_=>wC B k
theorem KI.timR{n M:Nat}{s:Nat→Nat}{B:Br}(h:KI n M s B){k:Nat}(hk:k<n):lE (a9 B.ps k):=by
 have hp:=h.pt k hk
 unfold lE TF
 rw[jI (by decide),jI (by decide),jI (by decide),jI (by decide)]
 unfold PI at hp
 omega
theorem qA{N:Nat→Prop}{X g n M:Nat}{s:Nat→Nat}(hn:n≤5)(hM:M≤950000000){k j:Nat}{B:Br}{w:World}(hQ:∀n,w.heap.size≤n→N n)(hk:k<n)(hj:j<8)(hJ:KI n M s B)(h:WB N X g B w):
    KI n (M+1) s (fF j B k).2∧Calls Tryz.prog (stF j) #[.pointer (some ⟨X,0,none⟩),.int .i64 (k:Int)] w (So N X g (fun d B'=>d=(fF j B k).1∧B'=(fF j B k).2) w):=by
 have hkp:k<B.np:=by rw[hJ.np];exact hk
 have hnp:B.np<1000:=by rw[hJ.np];omega
 have hk2:k<1000:=by omega
 have h4:0≤B.hi 4∧B.hi 4≤1000:=by rw[hJ.hs.2.2.1];omega
 have hp:=hJ.pt k hk
 rcases(by omega:j=0∨j=1∨j=2∨j=3∨j=4∨j=5∨j=6∨j=7)with rfl|rfl|rfl|rfl|rfl|rfl|rfl|rfl
 ·exact⟨hJ.fr (aIH B k) (aJY hJ.ok hkp),(aF6 w _ X g k B h hJ.ok hkp hk2).mono (fun e w' hh=>So.of hh ⟨rfl,rfl⟩)⟩
 ·exact⟨hJ.fr (aET B k) (aHA hJ.ok hkp),(aDN w _ X g k B h hJ.ok hkp hk2).mono (fun e w' hh=>So.of hh ⟨rfl,rfl⟩)⟩
 ·exact⟨hJ.fr (zQ B k) (aES hJ.ok hkp),(aA9 w _ X g k B h hJ.ok hkp hk2).mono (fun e w' hh=>So.of hh ⟨rfl,rfl⟩)⟩
 ·exact⟨(hJ.inf hk).mono (by omega),(aD2 w _ X g k B h hJ.ok hkp hnp (hJ.timR hk)).mono (fun e w' hh=>So.of hh ⟨rfl,rfl⟩)⟩
 ·exact⟨hJ.fr (aII B k) (aJ0 hJ.ok hkp h4),(xG w _ X g k B h hJ.ok hkp hnp (fun n hn'=>hn'.2) h4).mono (fun e w' hh=>So.of hh ⟨rfl,rfl⟩)⟩
 ·exact⟨hJ.fr (aEU B k) (aHH hJ.ok hkp),(aEG w _ X g k B h hJ.ok hkp hk2).mono (fun e w' hh=>So.of hh ⟨rfl,rfl⟩)⟩
 ·exact⟨hJ.fr (aEV B k) (yD hJ.ok hkp hnp hJ.tr).1,(aB5 w N X g k B h hJ.ok hkp hnp hQ hJ.tr (by have:=hJ.nf;omega)).mono (fun e w' hh=>So.ofW hh ⟨rfl,rfl⟩)⟩
 ·exact⟨(hJ.tx hk (by omega)).mono (by omega),(aEK w N X g k B h hJ.ok hkp hnp hQ (by unfold PI at hp;omega) (by have:=hJ.few hn;omega)).mono (fun e w' hh=>So.ofW hh ⟨rfl,rfl⟩)⟩
structure Ph (p:Nat→Pc→Prop):Prop where
 cp:∀j,j≤8→CP (p j)
 ai:∀j,j≤8→∀c,p j c→AI c
 rx:∀c d,p 0 c→RxR c d→p 1 d
 st:∀j c,j=1∨j=2∨j=5∨j=6∨j=7→p j c→p (j+1) c
 inf:∀c d,p 3 c→InR c d→p 4 d
 tr:∀c d e,p 4 c→gB c 44=true→gB c 50=false→TrO c d e→p 5 d
 trn:∀c,p 4 c→(gB c 44=true→gB c 50=false→gI c 87=gI c 88)→p 5 c
def PJ(p:Nat→Pc→Prop)(n k j:Nat)(B:Br):Prop:=∀i,i<n→(i<k→p 8 (pc B i))∧(i=k→p j (pc B i))∧(k<i→p 0 (pc B i))
theorem PJ.ai{p:Nat→Pc→Prop}(hp:Ph p){n k j:Nat}{B:Br}(hj:j≤8)(h:PJ p n k j B){i:Nat}(hi:i<n):AI (pc B i):=by
 obtain⟨a,b,c⟩:=h i hi
 rcases Nat.lt_trichotomy i k with e|e|e
 ·exact hp.ai 8 (by omega) _ (a e)
 ·exact hp.ai j hj _ (b e)
 ·exact hp.ai 0 (by omega) _ (c e)
theorem PJ.mk{p:Nat→Pc→Prop}(hp:Ph p){n k j:Nat}{B C:Br}(h:PJ p n k j B)(ho:p (j+1) (pc C k))(hc:∀i,i≠k→eV (pc B i) (pc C i)):PJ p n k (j+1) C:=fun i hi=>by
 obtain⟨a,b,c⟩:=h i hi
 refine⟨fun e=>hp.cp 8 (by omega) _ _ (hc i (by omega)) (a e),fun e=>by rw[e];exact ho,fun e=>hp.cp 0 (by omega) _ _ (hc i (by omega)) (c e)⟩
theorem yQ{c:Pc}(h:AI c)(hc:kY c=false):gB c 28=false:=by
 obtain⟨h1,h2⟩:=h.1
 unfold kY at hc
 simp at hc
 exact(h2 (by omega) (by omega)).2
theorem Did.core{k:Nat}{B:Br}{r:Bool × Br}{R:Pc→Pc→Prop}(h:Did k B r R No)(hR:R (pc B k) (pc r.2 k)→eV (pc B k) (pc r.2 k)):eV (pc B k) (pc r.2 k)∧∀i,i≠k→pc r.2 i=pc B i:=by
 refine⟨?_,fun i hi=>(h.oth i hi).elim id (fun h=>h.2.elim)⟩
 cases hr:r.1
 ·rw[h.no hr];exact bJ _
 ·exact hR (h.own hr)
theorem aAG{p:Nat→Pc→Prop}(hp:Ph p){n M k j:Nat}{s:Nat→Nat}{B:Br}(hK:KI n M s B)(hk:k<n)(hj:j<8)(h:PJ p n k j B):PJ p n k (j+1) (fF j B k).2:=by
 have hkp:k<B.np:=by rw[hK.np];exact hk
 have hl:=mT hK.ok hkp
 have ha:=h.ai hp (by omega) hk
 have own:=(h k hk).2.1 rfl
 have same:∀{C:Br},(∀i,i≠k→pc C i=pc B i)→∀i,i≠k→eV (pc B i) (pc C i):=fun h i hi=>by rw[h i hi];exact bJ _
 rcases(by omega:j=0∨j=1∨j=2∨j=3∨j=4∨j=5∨j=6∨j=7)with rfl|rfl|rfl|rfl|rfl|rfl|rfl|rfl
 ·obtain⟨-,h1,h2⟩:=aE7 hl
  exact h.mk hp (hp.rx _ _ own h1) (same h2)
 ·obtain⟨h1,h2⟩:=(sZ hl).core (fun h=>h.1)
  exact h.mk hp (hp.cp 2 (by omega) _ _ h1 (hp.st 1 _ (by omega) own)) (same h2)
 ·obtain⟨h1,h2⟩:=(pX hl).core (fun h=>h.1)
  exact h.mk hp (hp.cp 3 (by omega) _ _ h1 (hp.st 2 _ (by omega) own)) (same h2)
 ·obtain⟨-,-,h1,h2⟩:=s8 hK.ok hkp (hK.timR hk)
  exact h.mk hp (hp.inf _ _ own h1) (same h2)
 ·rcases yK hK.ok hkp hK.hs.2.1 hK.hs.2.2.1 hK.hs.2.2.2.1 ha.2.1 with e|⟨e,h1⟩
  ·have e1:(oM B k).1=false:=by rw[e]
   have e2:(fF 4 B k).2=B:=by show(oM B k).2=B;rw[e]
   rw[e2]
   exact h.mk hp (hp.trn _ own (aAE ha.2.1 e1)) (fun i _=>bJ _)
  ·obtain⟨h44,h50⟩:=aHT e
   rcases h1 with ⟨h1,h2⟩|⟨h1,h2⟩
   ·exact h.mk hp (hp.tr _ _ _ own h44 h50 h1) (same h2)
   ·exact h.mk hp (hp.tr _ _ _ own h44 h50 h1) (fun i hi=>(h2 i hi).elim (fun h=>by show eV _ (pc (oM B k).2 i);rw[h];exact bJ _) (fun h=>(aE1 h).1))
 ·obtain⟨h1,h2⟩:=(s5 hl).core (fun h=>h.1)
  exact h.mk hp (hp.cp 6 (by omega) _ _ h1 (hp.st 5 _ (by omega) own)) (same h2)
 ·rcases s7 hK.ok hkp (yQ ha)with h1|⟨-,h1,h2⟩
  ·obtain⟨h1,h2⟩:=h1.core (fun h=>h.1)
   exact h.mk hp (hp.cp 7 (by omega) _ _ h1 (hp.st 6 _ (by omega) own)) (same h2)
  ·exact h.mk hp (hp.cp 7 (by omega) _ _ h1.1 (hp.st 6 _ (by omega) own)) (fun i hi=>(h2 i hi).elim (fun h=>by show eV _ (pc (jN B k).2 i);rw[h];exact bJ _) (fun h=>(zV h).1))
 ·obtain⟨h1,h2⟩:=(yH hl hK.hs.2.2.1 hK.hs.2.2.2.2).core (fun h=>h.1)
  exact h.mk hp (hp.cp 8 (by omega) _ _ h1 (hp.st 7 _ (by omega) own)) (same h2)
theorem PJ.next{p:Nat→Pc→Prop}{n k:Nat}{B:Br}(h:PJ p n k 8 B):PJ p n (k+1) 0 B:=fun i hi=>by
 obtain⟨a,b,c⟩:=h i hi
 refine⟨fun e=>?_,fun e=>c (by omega),fun e=>c (by omega)⟩
 by_cases hik:i=k
 ·exact b hik
 ·exact a (by omega)
theorem aFH{n M k j:Nat}{s:Nat→Nat}{B:Br}(hK:KI n M s B)(hk:k<n)(hj:j<8)(ha:AI (pc B k))(h:(fF j B k).1=false):fF j B k=(false,B):=by
 have hkp:k<B.np:=by rw[hK.np];exact hk
 have hl:=mT hK.ok hkp
 refine Prod.ext h ?_
 rcases(by omega:j=0∨j=1∨j=2∨j=3∨j=4∨j=5∨j=6∨j=7)with rfl|rfl|rfl|rfl|rfl|rfl|rfl|rfl
 ·exact(aE7 hl).1 h
 ·exact(sZ hl).no h
 ·exact(pX hl).no h
 ·exact((s8 hK.ok hkp (hK.timR hk)).1 h).1
 ·rcases yK hK.ok hkp hK.hs.2.1 hK.hs.2.2.1 hK.hs.2.2.2.1 ha.2.1 with e|⟨e,-⟩
  ·show(oM B k).2=B
   rw[e]
  ·exact absurd (e.symm.trans h) (by decide)
 ·exact(s5 hl).no h
 ·rcases s7 hK.ok hkp (yQ ha)with h1|⟨e,-⟩
  ·exact h1.no h
  ·exact absurd (e.symm.trans h) (by decide)
 ·exact(yH hl hK.hs.2.2.1 hK.hs.2.2.2.2).no h
def NS(n k j:Nat)(B:Br):Prop:=∀k' j',k'<n→j'<8→(k'<k∨(k'=k∧j'<j))→fF j' B k'=(false,B)
end Go.Proofs.YtpanapepcbbagaaGreat
