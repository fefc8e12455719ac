/- Part 8 of what BridgeRests stands on. No statement is proved here. -/
import Derived.Test.YtpanapepcbbagaaGreatBvg
set_option linter.unusedVariables false
set_option linter.unusedSimpArgs false
set_option maxRecDepth 100000
set_option maxHeartbeats 8000000
namespace Go.Proofs.YtpanapepcbbagaaGreat
open Go.RowKit Go.BigFrame Go.WideShapes Go.ChangeShapes Go.Deep
def Br.sethr(B:Br)(j:Nat)(vs:List Value):Br:={ B with hd:=setL B.hd j vs }
theorem BrG.head{w w':World}{F:Nat→Prop}{X g:Nat}{B:Br}(h:BrG w F X g B)(hl:B.hd.length=17){j:Nat}{vs:List Value}(hj:j+vs.length≤17)(hm:Mut (fun n=>n=X) w w')(hr:∀C,w.heap[X]?=some (.cells C 35 (0,0))→w'.heap[X]?=some (.cells (C.toList.take j++vs++C.toList.drop (j+vs.length)).toArray 35 (0,0))):BrG w' F X g (B.sethr j vs):=by
 have hne:=h.lt.2.2
 obtain⟨h1,h2,cap,cur,s2,s3,a,b,c,d,e,f,p,q,r,s⟩:=h
 have own:∀{e:TypeId} {m n:Nat} {v:Value} {xs:List Value},e≠35→w.ownsRow 0 e m v n xs→w'.ownsRow 0 e m v n xs:=fun {e m n v xs} hne2 ho=>by
  refine⟨ho.1,?_⟩
  rcases ho.2 with h0|⟨g3,c3,cu3,e1,e2,e3,rest⟩
  ·exact .inl h0
  ·refine .inr ⟨g3,c3,cu3,e1,e2,?_,rest⟩
   have hgg:¬g3=X:=fun e0=>by
    subst e0
    rw[a]at e3
    cases e3
    exact hne2 rfl
   exact(hm.heap (aC e3) hgg).trans e3
 refine⟨h1,h2,cap,cur,s2,s3,?_,(hm.heap (aC b) (show ¬g=X from Ne.symm hne)).trans b,c,d,e,f,own (by decide) p,own (by decide) q,r,s⟩
 rw[hr _ a]
 refine congrArg (fun l:List Value=>some (Obj.cells l.toArray 35 (0,0))) ?_
 show(B.hd++_).take j++vs++(B.hd++_).drop (j+vs.length)=setL B.hd j vs++_
 rw[List.take_append_of_le_length (by omega),List.drop_append_of_le_length (by omega)]
 unfold setL
 simp only[List.append_assoc]
 rfl
theorem aDE{P:Program}{ops:Array Oper}{rest:List Oper}{op:Oper}{a:Act}{w:World}{Q:Exit→Act→World→Prop}(hgd:op.guard=none)(hdst:op.dst=none)(ty:TypeId)(x y:Operand)(ho:op.op=.store ty x y)(F:Nat→Prop)(X g:Nat)(B:Br)(h:BrG w F X g B)(hl:B.hd.length=17)(j:Nat)(u:Value)(vs:Array Value)(hx:a.eval x=.pointer (some ⟨X,j,none⟩))(hy:a.eval y=u)(hv:u.cells=vs)(hj:j+vs.size≤17)(hi:(P.info? ty).map (·.size)=some vs.size)(h1:vs.toList.all (·.oneCell')=true)(k:∀w',BrG w' F X g (B.sethr j vs.toList)→Mut (fun n=>n=X) w w'→wpList P ops Q rest a w'):wpList P ops Q (op :: rest) a w:=by
 have h0:=h
 obtain⟨-,-,cap,cur,s2,s3,hX,-⟩:=h0
 refine dS hgd hdst ty x y ho X j u vs _ _ 35 hx hy hv hX (by simp[hl];omega) hi h1 rfl (fun w' hr hm=>?_)
 refine k w' (h.head hl (by simpa using hj) hm (fun C hC=>?_)) hm
 rw[hX]at hC
 cases hC
 simpa using hr
def TZ:Array Value:=#[.int .i64 0,.int .i64 0,.int .i64 0,.int .i64 0]
theorem j4:∀w,(zeroValue 24).run Tryz.prog w=.ok (.agg TZ) w:=(zero_of_info (P:=Tryz.prog) (t:=24) (v:=.agg TZ) (n:=4) (by kernel_rfl)).1
theorem kF{w:World}{b o:Nat}{v:Value}{l:List Value}(h0:w.cell? ⟨b,o,none⟩=some v)(h:w.rangeAt b (o+1) l):w.rangeAt b o (v :: l):=fun j u hu=>by
 cases j with
 | zero =>
  obtain rfl:v=u:=by simpa using hu
  exact h0
 | succ j =>
  rw[show o+(j+1)=o+1+j by omega]
  exact h j u (by simpa using hu)
theorem aI5{w:World}{b o:Nat}:w.rangeAt b o []:=fun j u hu=>by simp at hu
theorem wJ(w:World)(F:Nat→Prop)(X g:Nat)(B:Br)(h:BrG w F X g B)(ho:B.ok)(hs:B.hi 12<0):
    Calls Tryz.prog 49 #[.pointer (some ⟨X,0,none⟩)] w fun e w'=>e=.returned (.agg #[.int .i64 (B.hi 2),.int .i64 (B.hi 3),.int .i64 (B.hi 4),.int .i64 (B.hi 5)])∧Ext w w':=by
 obtain⟨hX,hg,hne⟩:=h.lt
 have c12:=(h.cellX ho (i:=12) (by decide)).trans (ho.hi 12 rfl)
 have RT:=hD (show w.rangeAt X 2 [.int .i64 (B.hi 2),.int .i64 (B.hi 3),.int .i64 (B.hi 4),.int .i64 (B.hi 5)]from kF ((h.cellX ho (i:=2) (by decide)).trans (ho.hi 2 rfl)) (kF ((h.cellX ho (i:=3) (by decide)).trans (ho.hi 3 rfl)) (kF ((h.cellX ho (i:=4) (by decide)).trans (ho.hi 4 rfl)) (kF ((h.cellX ho (i:=5) (by decide)).trans (ho.hi 5 rfl)) aI5))))
 have C12:=hD c12
 have hz:=j4
 have hd:decide (B.hi 12<0)=true:=by simpa using hs
 clear h c12
 go_enter Tryz.func49,Tryz.ntmps49
 go_wp2_with (first
  | fail
  | ((with_reducible refine bS 24 ?_);refine b6 rfl 24 rfl TZ j4 ?_
     intro R0 z1 hq hsz hx
     have HR:=hD hq
     have HE:=hD hx
     have hw:w.heap.size≤R0:=by omega
     have c12:=xc hx hX C12.out
     have RT1:=hD (aQ RT.out hx hX)
     clear hq hsz hx)
  | ((with_reducible refine aG 24 ?_);refine wpList_load_mid rfl 24 _ rfl X 2 rfl [.int .i64 (B.hi 2),.int .i64 (B.hi 3),.int .i64 (B.hi 4),.int .i64 (B.hi 5)] _ RT1.out Tryz.underlying24 rfl (by kernel_rfl) ?_)
  | ((with_reducible refine aD 24 ?_);refine dS rfl rfl 24 _ _ rfl R0 0 _ #[.int .i64 (B.hi 2),.int .i64 (B.hi 3),.int .i64 (B.hi 4),.int .i64 (B.hi 5)] _ #[.int .i64 (B.hi 2),.int .i64 (B.hi 3),.int .i64 (B.hi 4),.int .i64 (B.hi 5)] _ rfl rfl rfl HR.out (by exact(by decide:0+4≤4)) (by kernel_rfl) rfl rfl ?_
     intro z2 hq hm
     have HR2:=hD hq
     have HE2:=hD (Ext.mutE HE.out hm (fun n hn h=>by have h2:n=R0:=h;omega))
     clear hq hm))
 refine bodyPost_ret (results_cell_row rfl _ _ _ _ _ (0,0) _ rfl HR2.out Tryz.underlying24 rfl (by kernel_rfl)) rfl ?_
 exact⟨rfl,HE2.out⟩
theorem aA4(w:World)(F:Nat→Prop)(X g:Nat)(B:Br)(h:BrG w F X g B)(ho:B.ok)(k:Nat)(hs:B.hi 12=k)(hk:k<B.np)(hn:B.np<1000)(ga:0≤B.gi k 78∧B.gi k 78≤65535):
    Calls Tryz.prog 49 #[.pointer (some ⟨X,0,none⟩)] w fun e w'=>e=.returned (.agg #[.int .i64 (B.gi k 78+1),.int .i64 (B.gi k 79),.int .i64 (B.gi k 80),.int .i64 (B.gi k 81)])∧Ext w w':=by
 obtain⟨hX,hg,hne⟩:=h.lt
 obtain⟨cap,c17,hc1,hc2⟩:=h.cell17 ho
 have c12:=(h.cellX ho (i:=12) (by decide)).trans (ho.hi 12 rfl)
 rw[hs]at c12
 have cg:∀j,j<89→w.cell? ⟨g,k*89+j,none⟩=B.ps[k*89+j]?:=fun j hj=>h.cellg (i:=k*89+j) (bZ hk hj)
 have RT:=hD (show w.rangeAt g (k*89+78) [.int .i64 (B.gi k 78),.int .i64 (B.gi k 79),.int .i64 (B.gi k 80),.int .i64 (B.gi k 81)]from kF ((cg 78 (by decide)).trans (ho.gi hk 78 rfl)) (kF ((cg 79 (by decide)).trans (ho.gi hk 79 rfl)) (kF ((cg 80 (by decide)).trans (ho.gi hk 80 rfl)) (kF ((cg 81 (by decide)).trans (ho.gi hk 81 rfl)) aI5))))
 have C12:=hD c12
 have C17:=hD c17
 have hz:=j4
 have hk8:k<1000:=by omega
 clear h c12 c17 cg
 go_enter Tryz.func49,Tryz.ntmps49
 go_wp2_with (first
  | fail
  | ((with_reducible refine bS 24 ?_);refine b6 rfl 24 rfl TZ j4 ?_
     intro R0 z1 hq hsz hx
     have HR:=hD hq
     have HE:=hD hx
     have hw:w.heap.size≤R0:=by omega
     have hXR:X≠R0:=by omega
     have hgR:g≠R0:=by omega
     have hX1:X<z1.heap.size:=nL hX hx.size
     have hg1:g<z1.heap.size:=nL hg hx.size
     have c12:=xc hx hX C12.out
     have c17:=xc hx hX C17.out
     have RT1:=hD (aQ RT.out hx hg)
     clear hq hsz hx))
 refine aT (S:=fun W'=>Mut (fun n=>n=R0) z1 W') (by kernel_rfl) ?_
 intro wd hqx
 have hq0:Mut (fun n=>n=R0) z1 wd:=hqx.mut _
 have hrR:=(hqx.block _ (aC HR.out)).trans HR.out
 refine aH 0 X 0 rfl hq0 ?_
 refine aH 1 X 0 rfl hq0 ?_
 refine aH 2 X 17 rfl hq0 ?_
 refine tL 3 (_) rfl (aA rfl 31 _ rfl ⟨X,17,none⟩ rfl (.slice (some ⟨g,0,none⟩) B.np cap) _ (fun W' hW'=>(hW'.cell (p:=⟨X,17,none⟩) hX1 hXR).trans c17) Tryz.underlying31 rfl) hq0 ?_
 refine aH 4 X 0 rfl hq0 ?_
 refine aH 5 X 0 rfl hq0 ?_
 refine aH 6 X 12 rfl hq0 ?_
 refine tL 7 (_) rfl (aA rfl 3 _ rfl ⟨X,12,none⟩ rfl (.int .i64 (k:Int)) _ (fun W' hW'=>(hW'.cell (p:=⟨X,12,none⟩) hX1 hXR).trans c12) Tryz.underlying3 rfl) hq0 ?_
 refine tL 8 ((.pointer (some ⟨g,k*89,none⟩))) rfl (Or.inl ⟨rfl,fun W' _=>by go_simp⟩) hq0 ?_
 refine aH 9 g (k*89+78) rfl hq0 ?_
 refine tL 10 (_) rfl (yieldsIf_load_mid rfl 24 _ rfl g (k*89+78) rfl ([.int .i64 (B.gi k 78),.int .i64 (B.gi k 79),.int .i64 (B.gi k 80),.int .i64 (B.gi k 81)]) _ (fun W' hW'=>(fun j v hv=>(hW'.cell (p:=⟨g,k*89+78+j,none⟩) hg1 hgR).trans (RT1.out j v hv))) Tryz.underlying24 rfl (by kernel_rfl)) hq0 ?_
 refine bB (i:=11) rfl rfl (by kernel_rfl) (fun K hK=>?_)
 go_simp
 refine(nA _ _ _ _ _ (by omega) (by omega)).mono ?_
 rintro e wc1 ⟨rfl,hx⟩
 have hq1:=hq0.trans (hx.mut _)
 have hrR:=(hx.block _ (aC hrR)).trans hrR
 refine hK.out _ _ hq1 (fun hHeld=>?_)
 try simp only[ps]
 clear hK K hHeld
 refine bB (i:=12) rfl rfl (by kernel_rfl) (fun K hK=>?_)
 refine gY rfl 24 _ _ rfl R0 0 _ #[.int .i64 (B.gi k 78+1),.int .i64 (B.gi k 79),.int .i64 (B.gi k 80),.int .i64 (B.gi k 81)] _ #[.int .i64 (B.gi k 78+1),.int .i64 (B.gi k 79),.int .i64 (B.gi k 80),.int .i64 (B.gi k 81)] _ rfl rfl rfl hrR (by exact(by decide:0+4≤4)) (by kernel_rfl) rfl rfl (fun ws12 hrow12 hm=>?_)
 have hq2:Mut (fun n=>n=R0) z1 ws12:=Mut.trans hq1 hm
 clear hm
 refine hK.out _ _ hq2 (fun hHeld=>?_)
 try simp only[ps]
 clear hK K hHeld
 refine wpAnyH_done (by kernel_rfl) ?_ _
 go_wp2_with fail
 refine bodyPost_ret (results_cell_row rfl _ _ _ _ _ (0,0) _ rfl hrow12 Tryz.underlying24 rfl (by kernel_rfl)) rfl ?_
 exact⟨rfl,Ext.mutE HE.out hq2 (fun n hn h=>by have h2:n=R0:=h;omega)⟩
theorem nC:Typed [] []:=⟨rfl,fun j k h=>by cases h⟩
theorem cC{l:List (Option IntKind)}{L:List Value}{K:IntKind}{z:Int}(h:Typed l L)(hz:(Lit.int K z).wf=true):Typed (some K :: l) (.int K z :: L):=⟨by simp[h.1],fun j k hj=>by
 cases j with
 | zero =>
  obtain rfl:some K=k:=by simpa using hj
  exact⟨.int K z,rfl,z,rfl,hz⟩
 | succ n=>exact h.2 n k hj⟩
theorem aDF{L vs:List Value}(h:Typed PL L)(j m:Nat)(hj:(decide (j+m≤89))=true)(hz:vs.length=m)(hv:Typed ((PL.drop j).take m) vs):Typed PL (setL L j vs) :=
 Typed.setL h (j:=j) (by rw[hz];exact(show j+m≤89 by simpa using hj)) (by rw[hz];exact hv)
theorem qK{B:Br}{k:Nat}{l:List Value}(hl:l.length=89)(hk:k*89+89≤B.ps.length):(B.setPort k l).ps.length=B.ps.length:=by
 simp[Br.setPort,hl];omega
theorem sE{B:Br}(ho:B.ok){k:Nat}(hk:k<B.np){l:List Value}(hl:Typed PL l):(B.setPort k l).ok:=by
 have h89:=fH ho hk
 obtain⟨a,b,c,d⟩:=ho
 refine⟨a,?_,c,d⟩
 refine(bY (l:=PL)).2 ⟨?_,fun i hi j cc hj=>?_⟩
 ·rw[qK (nT hl) h89]
  exact b.1
 ·have hj89:j<89:=(List.getElem?_eq_some_iff.1 hj).1
  have hb:=((bY (l:=PL)).1 b).2 i hi j cc hj
  rw[show PL.length=89 from rfl]at hb ⊢
  rw[eR (nT hl) h89]
  by_cases e:i=k
  ·subst e
   rw[if_pos (by omega)]
   obtain⟨v,hv,hc⟩:=hl.2 j cc hj
   exact⟨v,by rw[←hv];congr 1;omega,hc⟩
  ·rw[if_neg (by omega)]
   exact hb
theorem aA5{k:Nat}{rp id:Int}{L:List Value}(hT:Typed PL L):Typed PL (chL k rp id L):=by
 have d:∀(a b:Bool) (M:List Value),Typed PL M→Typed PL (dsL a b M):=fun a b M h=>by
  cases a<;>cases b
  ·exact bW (eL h 88 .i64 4 rfl (by decide)) 50 _ rfl
  ·exact bW (eL h 88 .i64 4 rfl (by decide)) 50 _ rfl
  ·exact bW (eL h 88 .i64 4 rfl (by decide)) 50 _ rfl
  ·exact eL h 88 .i64 4 rfl (by decide)
 have hr:(Lit.int .i64 (kN k rp (pI L 70) id)).wf=true:=by
  unfold kN
  split
  ·decide
  ·split<;>decide
 unfold chL
 split
 ·exact eL hT 88 .i64 0 rfl (by decide)
 ·split
  ·split
   ·exact bW (eL hT 88 .i64 _ rfl hr) 50 _ rfl
   ·exact d _ _ _ (bW hT 50 _ rfl)
  ·split
   ·exact d _ _ _ (bW hT 50 _ rfl)
   ·split
    ·exact d _ _ _ hT
    ·exact hT
def lI(B:Br)(L:List Value):List Value:=(setL (setL L 73 [.int .u64 (B.hi 7),.int .u32 (B.hi 8),.int .u64 (B.hi 0),.int .u16 (pI L 0),.int .u16 0]) 82 [.int .i64 (B.hi 13),.int .i64 (B.hi 14),.int .i64 (B.hi 15),.int .i64 (B.hi 16)]).set 84 (.int .i64 (B.hi 4))
theorem kO{B:Br}(ho:B.ok){L:List Value}(hT:Typed PL L):Typed PL (lI B L) :=
 eL (aDF (aDF hT 73 5 (by decide) rfl (cC (cC (cC (cC (cC nC (by decide)) (oI hT 0 rfl)) (ho.hw 0 rfl)) (ho.hw 8 rfl)) (ho.hw 7 rfl))) 82 4 (by decide) rfl (cC (cC (cC (cC nC (ho.hw 16 rfl)) (ho.hw 15 rfl)) (ho.hw 14 rfl)) (ho.hw 13 rfl))) 84 .i64 _ rfl (ho.hw 4 rfl)
def stL(B:Br)(k:Nat)(L:List Value):List Value:=(chL k (B.hi 12) (B.hi 0) (lI B L)).set 44 (.bool true)
theorem k4{B:Br}(ho:B.ok){k:Nat}{L:List Value}(hT:Typed PL L):Typed PL (stL B k L):=bW (aA5 (kO ho hT)) 44 _ rfl
def eF(B:Br):Nat→Br|0=>B|n+1=>(eF B n).setPort n (stL B n (a9 (eF B n).ps n))
theorem j5(B:Br):∀n,(eF B n).np=B.np|0=>rfl|n+1=>j5 B n
theorem oK(B:Br):∀n,(eF B n).hd=B.hd|0=>rfl|n+1=>oK B n
theorem k6{B:Br}(ho:B.ok):∀n,n≤B.np→(eF B n).ok
 | 0,_=>ho
 | n+1,h=>sE (k6 ho n (by omega)) (by rw[j5];omega) (k4 ho (dI (k6 ho n (by omega)) (by rw[j5];omega)))
theorem iG(B:Br)(n j:Nat):(eF B n).hi j=B.hi j:=by unfold Br.hi;rw[oK]
theorem mA(B:Br):∀n,(fC B n).at_=-1∨∃k:Nat,k<n∧(fC B n).at_=k
 | 0=>.inl rfl
 | n+1=>by
  unfold fC
  split
  ·exact .inr ⟨n,by omega,rfl⟩
  ·rcases mA B n with h|⟨k,hk,h⟩
   ·exact .inl h
   ·exact .inr ⟨k,by omega,h⟩
theorem mB{B:Br}(ho:B.ok){j m:Nat}{vs:List Value}(hj:(decide (j+m≤17))=true)(hz:vs.length=m)(hv:Typed ((HL.drop j).take m) vs):(B.sethr j vs).ok:=by
 obtain⟨a,b,c,d⟩:=ho
 exact⟨Typed.setL a (j:=j) (by rw[hz];exact(show j+m≤17 by simpa using hj)) (by rw[hz];exact hv),b,c,d⟩
theorem nW{B:Br}(hl:B.hd.length=17){j i:Nat}{vs:List Value}(hj:j+vs.length≤17)(h1:j≤i)(h2:i<j+vs.length):(B.sethr j vs).hi i=pI vs (i - j):=by
 unfold Br.hi Br.sethr pI
 show(match (setL B.hd j vs)[i]? with|some (.int _ z)=>z|_=>0)=_
 rw[eB (by omega),if_pos ⟨h1,h2⟩]
 rfl
def wK(B:Br)(a:Int):List Value:=if a<0 then [.int .i64 (B.hi 2),.int .i64 (B.hi 3),.int .i64 (B.hi 4),.int .i64 (B.hi 5)]else [.int .i64 (B.gi a.toNat 78+1),.int .i64 (B.gi a.toNat 79),.int .i64 (B.gi a.toNat 80),.int .i64 (B.gi a.toNat 81)]
def iX(C:Br):R5:=fC C C.np
def cR(C:Br):Br:=(C.sethr 7 (iX C).cells.toList).sethr 12 [.int .i64 (iX C).at_]
def dO(C:Br):Br:=(cR C).sethr 13 (wK (cR C) (iX C).at_)
def R5.wf(v:R5):Prop:=(Lit.int .u64 v.r).wf=true∧(Lit.int .u32 v.c).wf=true∧(Lit.int .u64 v.b).wf=true∧(Lit.int .u16 v.p).wf=true∧(Lit.int .u16 v.x).wf=true
theorem aI6{c q:Int}(hc:0≤c∧c<4294967296)(hq:0≤q∧q<4294967296):(Lit.int .u32 (oC c q)).wf=true:=by
 have:0≤oC c q∧oC c q≤4294967295:=by
  unfold oC
  split<;>omega
 simp[Lit.wf,IntKind.min,IntKind.max,IntKind.signed,IntKind.bits]
 omega
theorem tY{B:Br}(ho:B.ok):∀n,n≤B.np→(fC B n).wf
 | 0,_=>⟨ho.hw 0 rfl,(show(Lit.int .u32 0).wf=true by decide),ho.hw 0 rfl,(show(Lit.int .u16 0).wf=true by decide),(show(Lit.int .u16 0).wf=true by decide)⟩
 | n+1,h=>by
  unfold fC
  split
  ·exact⟨ho.gw (by omega) 68 rfl,aI6 (oV (ho.gw (by omega) 69 rfl)) (oV (ho.gw (by omega) 1 rfl)),ho.gw (by omega) 70 rfl,ho.gw (by omega) 71 rfl,ho.gw (by omega) 0 rfl⟩
  ·exact tY ho n (by omega)
theorem tZ{C:Br}(ho:C.ok)(hn:C.np<1000):(cR C).ok:=by
 obtain⟨a,b,c,d,e⟩:=tY ho C.np (Nat.le_refl _)
 have hw:(Lit.int .i64 (iX C).at_).wf=true:=by
  rcases mA C C.np with h|⟨k,hk,h⟩
  ·rw[show(iX C).at_=-1 from h];decide
  ·rw[show(iX C).at_=k from h]
   simp[Lit.wf,IntKind.min,IntKind.max,IntKind.signed,IntKind.bits]
   omega
 exact mB (mB ho (j:=7) (m:=5) (by decide) rfl (cC (cC (cC (cC (cC nC e) d) c) b) a)) (j:=12) (m:=1) (by decide) rfl (cC nC hw)
theorem o5{C:Br}(ho:C.ok):(cR C).hi 12=(iX C).at_:=by
 have hl:(C.sethr 7 (iX C).cells.toList).hd.length=17:=by
  show(setL C.hd 7 _).length=17
  have:=ho.hd.1
  rw[fJ (by rw[show(iX C).cells.toList.length=5 from rfl,this];decide),this]
  rfl
 unfold cR
 rw[nW hl (by exact(by decide:12+1≤17)) (by decide) (by exact(by decide:12<12+1))]
 rfl
theorem qZ{B:Br}(ho:B.ok){a:Int}(ha:a=-1∨∃k:Nat,k<B.np∧a=k)(hR:∀k,k<B.np→0≤B.gi k 78∧B.gi k 78≤65535):Typed ((HL.drop 13).take 4) (wK B a)∧(wK B a).length=4:=by
 unfold wK
 rcases ha with rfl|⟨k,hk,rfl⟩
 ·rw[if_pos (by decide)]
  exact⟨cC (cC (cC (cC nC (ho.hw 5 rfl)) (ho.hw 4 rfl)) (ho.hw 3 rfl)) (ho.hw 2 rfl),rfl⟩
 ·rw [if_neg (by omega),Int.toNat_natCast]
  have h1:=hR k hk
  have hw:(Lit.int .i64 (B.gi k 78+1)).wf=true:=by
   simp[Lit.wf,IntKind.min,IntKind.max,IntKind.signed,IntKind.bits]
   omega
  exact⟨cC (cC (cC (cC nC (ho.gw hk 81 rfl)) (ho.gw hk 80 rfl)) (ho.gw hk 79 rfl)) hw,rfl⟩
theorem wL(w:World)(F:Nat→Prop)(X g:Nat)(B:Br)(h:BrG w F X g B)(ho:B.ok)(hn:B.np<1000)(ha:B.hi 12=-1∨∃k:Nat,k<B.np∧B.hi 12=k)(hR:∀k,k<B.np→0≤B.gi k 78∧B.gi k 78≤65535):
    Calls Tryz.prog 49 #[.pointer (some ⟨X,0,none⟩)] w fun e w'=>e=.returned (.agg (wK B (B.hi 12)).toArray)∧Ext w w':=by
 unfold wK
 rcases ha with e|⟨k,hk,e⟩
 ·rw[if_pos (by omega)]
  exact wJ w F X g B h ho (by omega)
 ·rw[e,if_neg (by omega),Int.toNat_natCast]
  exact aA4 w F X g B h ho k e hk hn (hR k hk)
theorem wM{B:Br}(ho:B.ok){k j:Nat}(hj:j<89)(hne:j≠43):(lW B B.np).gi k j=B.gi k j:=aAT B (by decide) _ (by rw[ho.len];exact Nat.le_refl _) hj hne
def gA(B:Br):Bool × Br:=if oD B B.np=true then(true,eF (dO (lW B B.np)) B.np)else(false,lW B B.np)
def aA7(B:Br)(n:Nat):Array Value:=if hZ B n=true then #[.int .u64 (B.gi n 68),.int .u32 (oC (B.gi n 69) (B.gi n 1)),.int .u64 (B.gi n 70),.int .u16 (B.gi n 71),.int .u16 (B.gi n 0)]else VZ
theorem aF5{w:World}(B:Br)(ho:B.ok)(n:Nat)(hn:n<B.np)(G o X:Nat)(hP:Pr w G o (a9 B.ps n))(hid0:w.cell? ⟨X,0,none⟩=some (.int .u64 (B.hi 0)))(hXl:X<w.heap.size):
    Calls Tryz.prog 62 #[.pointer (some ⟨X,0,none⟩),.pointer (some ⟨G,o,none⟩)] w fun e w'=>e=.returned (.tuple #[.agg (aA7 B n),.bool (hZ B n)])∧Ext w w':=by
 have c0:(a9 B.ps n)[0]?=some (.int .u16 (B.gi n 0)):=(aI (by decide)).trans (ho.gi hn 0 rfl)
 have c1:(a9 B.ps n)[1]?=some (.int .u32 (B.gi n 1)):=(aI (by decide)).trans (ho.gi hn 1 rfl)
 have c68:(a9 B.ps n)[68]?=some (.int .u64 (B.gi n 68)):=(aI (by decide)).trans (ho.gi hn 68 rfl)
 have c69:(a9 B.ps n)[69]?=some (.int .u32 (B.gi n 69)):=(aI (by decide)).trans (ho.gi hn 69 rfl)
 have c70:(a9 B.ps n)[70]?=some (.int .u64 (B.gi n 70)):=(aI (by decide)).trans (ho.gi hn 70 rfl)
 have c71:(a9 B.ps n)[71]?=some (.int .u16 (B.gi n 71)):=(aI (by decide)).trans (ho.gi hn 71 rfl)
 have c72:(a9 B.ps n)[72]?=some (.int .u16 (B.gi n 72)):=(aI (by decide)).trans (ho.gi hn 72 rfl)
 have c86:(a9 B.ps n)[86]?=some (.int .i64 (B.gi n 86)):=(aI (by decide)).trans (ho.gi hn 86 rfl)
 have gid:=mY (ho.hw 0 (K:=.u64) rfl)
 have g70:=mY (ho.gw hn 70 (K:=.u64) rfl)
 have g69:=oV (ho.gw hn 69 (K:=.u32) rfl)
 have g1:=oV (ho.gw hn 1 (K:=.u32) rfl)
 have hl:=hP.2.1
 unfold aA7
 by_cases e3:B.gi n 86=3
 ·cases hs:l9 (B.gi n 70) (B.hi 0)
  ·have ht:hZ B n=true:=by simp[hZ,e3,hs]
   rw[ht,if_pos rfl]
   rw[e3]at c86
   exact aA1 G o _ hP hl X (B.hi 0) hid0 hXl gid _ c0 _ c1 _ c68 _ c69 _ c70 _ c71 _ c72 c86 g70 g69 g1 hs
  ·have ht:hZ B n=false:=by simp[hZ,hs]
   rw[ht,if_neg (by simp)]
   rw[e3]at c86
   exact aA0 G o _ hP hl X (B.hi 0) hid0 hXl gid _ c0 _ c1 _ c68 _ c69 _ c70 _ c71 _ c72 c86 g70 g69 g1 hs
 ·have ht:hZ B n=false:=by
   unfold hZ
   rw[jM e3]
   rfl
  rw[ht,if_neg (by simp)]
  exact aAZ G o _ hP hl X (B.hi 0) hid0 hXl gid _ c0 _ c1 _ c68 _ c69 _ c70 _ c71 _ c72 _ c86 g70 g69 g1 (by simpa using e3)
theorem aDG(c:Array Value)(B:Br)(w:World)(hb:BrC w c B)(ho:B.ok)(hn:B.np<1000):
    Calls Tryz.prog 48 #[.agg c] w fun e w'=>e=.returned (.tuple #[.agg (fC B B.np).cells,.int .i64 (fC B B.np).at_])∧Ext w w':=by
 obtain⟨s1,s2,s3,hz,hhd,c17,c18,c19,r1,-,-⟩:=hb.facts ho.hd.1
 obtain⟨a1,k1,rfl,m1,f1⟩:=r1.form
 have c0:=(hhd 0 (by decide)).trans (ho.hi 0 rfl)
 have F1:=hD f1
 have C17:=hD c17
 have hzv:=fK
 clear hz hhd c17 c18 c19 r1 f1 hb
 go_enter Tryz.func48,Tryz.ntmps48
 go_wp2_with (first
  | fail
  | ((with_reducible refine bP 35 ?_);refine bQ rfl 35 _ rfl c rfl ?_
     intro X0 z1 hq hs hx
     have HX1:=hD hq
     have HE1:=hD hx
     have HXw:=hD (show w.heap.size≤X0 by omega)
     clear hq hs hx)
  | ((with_reducible refine bS 30 ?_);refine b6 rfl 30 rfl VZ fK ?_
     intro R0 z2 hq hs hx
     have HR2:=hD hq
     have hX2:=(hx.block _ (aC HX1.out)).trans HX1.out
     have HX2:=hD hX2
     have HE2:=hD (HE1.out.trans hx)
     have HRw:=hD (show w.heap.size≤R0 by have:=HE1.out.size;omega)
     have hne:X0≠R0:=by have:=aC HX1.out;omega
     have x0:z2.cell? ⟨X0,0,none⟩=some (.int .u64 (B.hi 0)):=(cell_of_row _ _ _ _ _ _ hX2).trans c0
     clear hq hs hx hX2 HE1))
 refine(aC7 (B.hi 0) _).mono ?_
 rintro e z3 ⟨rfl,hx⟩
 have HR3:=hD ((hx.block _ (aC HR2.out)).trans HR2.out)
 have HX3:=hD ((hx.block _ (aC HX2.out)).trans HX2.out)
 have HE3:=hD (HE2.out.trans hx)
 clear hx x0 HR2 HX2 HE2 HX1
 go_wp2_with (first
  | fail
  | ((with_reducible refine aD 30 ?_);refine dS rfl rfl 30 _ _ rfl R0 0 _ #[.int .u64 (B.hi 0),.int .u32 0,.int .u64 (B.hi 0),.int .u16 0,.int .u16 0] _ #[.int .u64 (B.hi 0),.int .u32 0,.int .u64 (B.hi 0),.int .u16 0,.int .u16 0] _ rfl rfl rfl HR3.out (by exact(by decide:0+5≤5)) (by kernel_rfl) rfl rfl ?_
     intro z4 hq hm
     have HR4:=hD hq
     have hX4:=(hm.heap (aC HX3.out) (show ¬X0=R0 from hne)).trans HX3.out
     have HX4:=hD hX4
     have HE4:=hD (Ext.mutE HE3.out hm (fun n hn h=>by have h2:n=R0:=h;have:=HRw.out;omega))
     have x17:z4.cell? ⟨X0,17,none⟩=some (.slice a1 B.np k1):=(cell_of_row _ _ _ _ _ _ hX4).trans C17.out
     clear hq hm hX4))
 go_loopw [13,3] (fun v a wr=>∃n:Nat,n≤B.np∧v=.int .i64 n∧a=.int .i64 (fC B n).at_∧wr.heap[R0]?=some (.cells (fC B n).cells 30 (0,0))∧Mut (fun n=>n=R0) z4 wr) (fun v _ _=>B.np - (intOf v).toNat)
 case atStart=>exact⟨0,by omega,rfl,rfl,HR4.out,Mut.refl _ _⟩
 case round =>
  clear x17
  obtain⟨n,hn2,rfl,rfl,hR,hm⟩:=hrel
  have HR:=hD hR
  have HM:=hD hm
  have HX:=hD ((hm.heap (aC HX4.out) (show ¬X0=R0 from hne)).trans HX4.out)
  have HE:=hD (Ext.mutE HE4.out hm (fun n hn h=>by have h2:n=R0:=h;have:=HRw.out;omega))
  clear hR hm
  have x17:=(cell_of_row _ _ 17 _ _ _ HX.out).trans C17.out
  obtain⟨v,hv⟩:∃v,fC B n=v:=⟨_,rfl⟩
  by_cases hlt:n<B.np
  ·have HS:=hD (show fC B (n+1)=if(hZ B n && (fC B n).lt (B.gi n 68) (oC (B.gi n 69) (B.gi n 1)) (B.gi n 70) (B.gi n 71) (B.gi n 0))=true then⟨B.gi n 68,oC (B.gi n 69) (B.gi n 1),B.gi n 70,B.gi n 71,B.gi n 0,n⟩else fC B n from rfl)
   rw[hv]at HS HR ⊢
   clear hv
   obtain⟨bb,off,rfl,hbl,hlc,hcm,hrg⟩:=F1.out (by omega)
   have hXr:X0<wr.heap.size:=aC HX.out
   have hPr:Pr wr bb (off+n*89) (a9 B.ps n):=⟨nL hbl HE.out.size,aC0 (fH ho hlt),aQ (cO hrg n) HE.out hbl⟩
   have HP:=hD hPr
   have hi0:=hD ((cell_of_row _ _ 0 _ _ _ HX.out).trans c0)
   clear hrg hPr
   go_wp2_with fail
   refine(aF5 B ho n hlt bb (off+n*89) X0 HP.out hi0.out hXr).mono ?_
   rintro e y1 ⟨rfl,hx⟩
   have HR1:=hD ((hx.block _ (aC HR.out)).trans HR.out)
   have HM1:=hD (HM.out.trans (hx.mut _))
   clear hx HP hi0 x17 hXr
   obtain⟨ok,hok⟩:∃b,hZ B n=b:=⟨_,rfl⟩
   have HOV:=hD (show aA7 B n=if ok=true then #[.int .u64 (B.gi n 68),.int .u32 (oC (B.gi n 69) (B.gi n 1)),.int .u64 (B.gi n 70),.int .u16 (B.gi n 71),.int .u16 (B.gi n 0)]else VZ by unfold aA7;rw[hok])
   rw[hok]at HS ⊢
   clear hok
   cases ok
   ·rw [show aA7 B n=VZ from HOV.out]
    go_wp2_with (first
     | fail
     | ((with_reducible refine bS 30 ?_);refine b6 rfl 30 rfl VZ fK ?_
        intro V0 y2 hq hs hx
        have HV2:=hD hq
        have HR2:=hD ((hx.block _ (aC HR1.out)).trans HR1.out)
        have HM2:=hD (HM1.out.trans (hx.mut _))
        have hnv:V0≠R0:=by have:=aC HR1.out;omega
        have hvz:z4.heap.size≤V0:=by have:=HM1.out.size;omega
        clear hq hs hx)
     | ((with_reducible refine aD 30 ?_);refine dS rfl rfl 30 _ _ rfl V0 0 _ VZ _ VZ _ rfl rfl rfl HV2.out (by exact(by decide:0+5≤5)) (by kernel_rfl) rfl rfl ?_
        intro y3 hq hm
        have HV3:=hD hq
        have HR3:=hD ((hm.heap (aC HR2.out) (show ¬R0=V0 from Ne.symm hnv)).trans HR2.out)
        have HM3:=hD (zA HM2.out hm hvz)
        clear hq hm))
    go_roundw
    case rel=>exact⟨n+1,by omega,by go_num,by rw[HS.out];rfl,by rw[HS.out];exact HR3.out,HM3.out⟩
    case measure=>simp[intOf];omega
   ·rw [show aA7 B n=#[.int .u64 (B.gi n 68),.int .u32 (oC (B.gi n 69) (B.gi n 1)),.int .u64 (B.gi n 70),.int .u16 (B.gi n 71),.int .u16 (B.gi n 0)]from HOV.out]
    obtain⟨lt,hlt2⟩:∃b,v.lt (B.gi n 68) (oC (B.gi n 69) (B.gi n 1)) (B.gi n 70) (B.gi n 71) (B.gi n 0)=b:=⟨_,rfl⟩
    rw[hlt2]at HS
    have HLT:=hD (show decide (c5 (B.gi n 68) (oC (B.gi n 69) (B.gi n 1)) (B.gi n 70) (B.gi n 71) (B.gi n 0) v.r v.c v.b v.p v.x<0)=lt from hlt2)
    have HVC:=hD (show v.cells=#[.int .u64 v.r,.int .u32 v.c,.int .u64 v.b,.int .u16 v.p,.int .u16 v.x]from rfl)
    rw[HVC.out]at HR1
    clear hlt2
    go_wp2_with (first
     | fail
     | ((with_reducible refine bS 30 ?_);refine b6 rfl 30 rfl VZ fK ?_
        intro V0 y2 hq hs hx
        have HV2:=hD hq
        have HR2:=hD ((hx.block _ (aC HR1.out)).trans HR1.out)
        have HM2:=hD (HM1.out.trans (hx.mut _))
        have hnv:V0≠R0:=by have:=aC HR1.out;omega
        have hvz:z4.heap.size≤V0:=by have:=HM1.out.size;omega
        clear hq hs hx)
     | ((with_reducible refine aD 30 ?_);refine dS rfl rfl 30 _ _ rfl V0 0 _ #[.int .u64 (B.gi n 68),.int .u32 (oC (B.gi n 69) (B.gi n 1)),.int .u64 (B.gi n 70),.int .u16 (B.gi n 71),.int .u16 (B.gi n 0)] _ #[.int .u64 (B.gi n 68),.int .u32 (oC (B.gi n 69) (B.gi n 1)),.int .u64 (B.gi n 70),.int .u16 (B.gi n 71),.int .u16 (B.gi n 0)] _ rfl rfl rfl HV2.out (by exact(by decide:0+5≤5)) (by kernel_rfl) rfl rfl ?_
        intro y3 hq hm
        have HV3:=hD hq
        have HR3:=hD ((hm.heap (aC HR2.out) (show ¬R0=V0 from Ne.symm hnv)).trans HR2.out)
        have HM3:=hD (zA HM2.out hm hvz)
        clear hq hm)
     | ((with_reducible refine aW 30 ?_);refine aL rfl 30 _ rfl V0 rfl 30 #[.int .u64 (B.gi n 68),.int .u32 (oC (B.gi n 69) (B.gi n 1)),.int .u64 (B.gi n 70),.int .u16 (B.gi n 71),.int .u16 (B.gi n 0)] (0,0) _ HV3.out Tryz.underlying30 rfl (by kernel_rfl) ?_)
     | ((with_reducible refine aW 30 ?_);refine aL rfl 30 _ rfl R0 rfl 30 #[.int .u64 v.r,.int .u32 v.c,.int .u64 v.b,.int .u16 v.p,.int .u16 v.x] (0,0) _ HR3.out Tryz.underlying30 rfl (by kernel_rfl) ?_))
    refine(eM (fW _ _ _ _ _ _ _ _ _ _ _) HLT.out).mono ?_
    rintro e y4 ⟨rfl,hx⟩
    have HV4:=hD ((hx.block _ (aC HV3.out)).trans HV3.out)
    have HR4b:=hD ((hx.block _ (aC HR3.out)).trans HR3.out)
    have HM4:=hD (HM3.out.trans (hx.mut _))
    clear hx
    cases lt
    ·go_wp2_with fail
     go_roundw
     case rel=>exact⟨n+1,by omega,by go_num,by rw[HS.out];rfl,by rw[HS.out];exact HR4b.out,HM4.out⟩
     case measure=>simp[intOf];omega
    ·go_wp2_with (first
      | fail
      | ((with_reducible refine aG 30 ?_);refine wpList_load_row rfl 30 _ rfl V0 rfl 30 #[.int .u64 (B.gi n 68),.int .u32 (oC (B.gi n 69) (B.gi n 1)),.int .u64 (B.gi n 70),.int .u16 (B.gi n 71),.int .u16 (B.gi n 0)] (0,0) _ HV4.out Tryz.underlying30 rfl (by kernel_rfl) ?_)
      | ((with_reducible refine aD 30 ?_);refine dS rfl rfl 30 _ _ rfl R0 0 _ #[.int .u64 (B.gi n 68),.int .u32 (oC (B.gi n 69) (B.gi n 1)),.int .u64 (B.gi n 70),.int .u16 (B.gi n 71),.int .u16 (B.gi n 0)] _ #[.int .u64 (B.gi n 68),.int .u32 (oC (B.gi n 69) (B.gi n 1)),.int .u64 (B.gi n 70),.int .u16 (B.gi n 71),.int .u16 (B.gi n 0)] _ rfl rfl rfl HR4b.out (by exact(by decide:0+5≤5)) (by kernel_rfl) rfl rfl ?_
         intro y5 hq hm
         have HR5:=hD hq
         have HM5:=hD (HM4.out.trans hm)
         clear hq hm))
     go_roundw
     case rel=>exact⟨n+1,by omega,by go_num,by rw[HS.out];rfl,by rw[HS.out];exact HR5.out,HM5.out⟩
     case measure=>simp[intOf];omega
  ·obtain rfl:n=B.np:=by omega
   have HVC:=hD (show v.cells=#[.int .u64 v.r,.int .u32 v.c,.int .u64 v.b,.int .u16 v.p,.int .u16 v.x]from rfl)
   rw[hv]at HR ⊢
   rw[HVC.out]at HR
   have HV:=hD hv
   clear hv
   go_wp2_with (first
    | fail
    | ((with_reducible refine aG 30 ?_);refine wpList_load_row rfl 30 _ rfl R0 rfl 30 #[.int .u64 v.r,.int .u32 v.c,.int .u64 v.b,.int .u16 v.p,.int .u16 v.x] (0,0) _ HR.out Tryz.underlying30 rfl (by kernel_rfl) ?_)
    | ((with_reducible refine aD 30 ?_);refine dS rfl rfl 30 _ _ rfl R0 0 _ #[.int .u64 v.r,.int .u32 v.c,.int .u64 v.b,.int .u16 v.p,.int .u16 v.x] _ #[.int .u64 v.r,.int .u32 v.c,.int .u64 v.b,.int .u16 v.p,.int .u16 v.x] _ rfl rfl rfl HR.out (by exact(by decide:0+5≤5)) (by kernel_rfl) rfl rfl ?_
       intro y5 hq hm
       have HR5:=hD hq
       have HE5:=hD (Ext.mutE HE.out hm (fun n hn h=>by have h2:n=R0:=h;have:=HRw.out;omega))
       clear hq hm))
   refine bodyPost_ret (eS rfl _ _ _ _ _ (0,0) _ rfl HR5.out Tryz.underlying30 rfl (by kernel_rfl)) rfl ?_
   rw[HV.out]
   exact⟨rfl,HE5.out⟩
theorem o6(w:World)(F:Nat→Prop)(X g:Nat)(B:Br)(h:BrG w F X g B)(ho:B.ok)(hn:B.np<1000)(hp:0<B.np)(hR0:∀k,k<B.np→0≤B.gi k 78∧B.gi k 78≤65535):
    Calls Tryz.prog 36 #[.pointer (some ⟨X,0,none⟩)] w (aN w F X g (gA B)):=by
 unfold gA
 obtain⟨an,han⟩:∃b,oD B B.np=b:=⟨_,rfl⟩
 rw[han]
 have HAN:=hD han
 have okC:=o4 ho (Nat.le_refl B.np)
 have npC:(lW B B.np).np=B.np:=gS B 43 _ _
 have hRC:∀k,k<(lW B B.np).np→0≤(lW B B.np).gi k 78∧(lW B B.np).gi k 78≤65535:=fun k hk=>by
  rw[wM ho (by decide) (by decide)]
  exact hR0 k (by rw[npC]at hk;exact hk)
 have HAS:=hD (aA3 w F X g B h ho hn)
 obtain⟨C,hC⟩:∃C,lW B B.np=C:=⟨_,rfl⟩
 rw[hC]at okC npC hRC HAS ⊢
 clear hC han
 have ok1:=tZ okC (by rw[npC];exact hn)
 have h12:=o5 okC
 have np1:(cR C).np=B.np:=npC
 have hrg:(cR C).hi 12=-1∨∃k:Nat,k<(cR C).np∧(cR C).hi 12=k:=by
  rw[h12,np1,←npC]
  exact mA C C.np
 have hR1:∀k,k<(cR C).np→0≤(cR C).gi k 78∧(cR C).gi k 78≤65535:=hRC
 obtain⟨ht2,hz2⟩:=qZ ok1 hrg hR1
 have ok2:(dO C).ok:=by
  unfold dO
  rw[h12]at ht2 hz2
  exact mB ok1 (j:=13) (m:=4) (by decide) hz2 ht2
 have HB2:=hD (show dO C=(cR C).sethr 13 (wK (cR C) ((cR C).hi 12)) by rw[h12];rfl)
 have np2:(dO C).np=B.np:=npC
 have HVE:=hD (show cR C=(C.sethr 7 (fC C C.np).cells.toList).sethr 12 [.int .i64 (fC C C.np).at_]from rfl)
 have HRT:=hD (fun(w':World) (hB:BrG w' F X g (cR C))=>wL w' F X g (cR C) hB ok1 (by rw[np1];exact hn) hrg hR1)
 obtain⟨D,hD0⟩:∃D,dO C=D:=⟨_,rfl⟩
 obtain⟨B1,hB1⟩:∃B1,cR C=B1:=⟨_,rfl⟩
 rw[hB1]at ok1 ht2 hz2 HB2 HVE HRT h12
 rw[hD0]at ok2 np2 HB2 ⊢
 obtain⟨rt,hrt⟩:∃l,wK B1 (B1.hi 12)=l:=⟨_,rfl⟩
 rw[hrt]at ht2 hz2 HB2 HRT
 obtain⟨v,hv⟩:∃v,fC C C.np=v:=⟨_,rfl⟩
 rw[hv]at HVE
 have HV:=hD hv
 have HT2:=hD (show rt.toArray.toList.all (·.oneCell')=true by simpa using all_oneCell_toArray ht2.one)
 have hl1:=ok1.hd.1
 obtain⟨res,hres⟩:∃r,(if an=true then(true,eF D B.np)else(false,C))=r:=⟨_,rfl⟩
 rw[hres]
 have HRES:=hD hres
 clear hres
 clear hD0 hB1 hrt hv hrg hR1 h12 np1 hRC hR0 h ht2
 go_enter Tryz.func36,Tryz.ntmps36
 go_wp2_with fail
 refine HAS.out.mono ?_
 rintro e w1 ⟨rfl,hB,hm⟩
 rw[HAN.out]
 have HC:=hD hB
 have HM:=hD hm
 clear hB hm HAS
 cases an
 ·go_wp2_with fail
  go_ret
  rw[show res=(false,C)from HRES.out.symm]
  exact⟨rfl,HC.out,HM.out⟩
 have HRS:=hD (show res=(true,eF D B.np)from HRES.out.symm)
 clear HRES
 obtain⟨Cr,hCr,hCb,hCz⟩:=HC.out.br (by rw[npC];exact hp)
 have HCr:=hD hCr
 have HCi:=hD (show(Tryz.prog.info? 35).map (·.size)=some Cr.size by rw[hCz,okC.hd.1];exact kZ)
 have HCb:=hD hCb
 clear hCr hCz hCb
 go_wp2_with (first
  | fail
  | ((with_reducible refine aG 35 ?_);refine wpList_load_row rfl 35 _ rfl X rfl 35 Cr (0,0) _ HCr.out Tryz.underlying35 rfl HCi.out ?_))
 refine(aDG Cr C _ HCb.out okC (by rw[npC];exact hn)).mono ?_
 rintro e w2 ⟨rfl,hx⟩
 rw[HV.out]
 have HC2:=hD (HC.out.ext hx)
 have HM2:=hD (HM.out.trans (hx.mut F))
 clear hx HCr HCb HC HM
 have hl7:(C.sethr 7 v.cells.toList).hd.length=17:=by
  have:=okC.hd.1
  show(setL C.hd 7 _).length=17
  rw[fJ (by rw[show v.cells.toList.length=5 from rfl,this];decide),this]
  rfl
 go_wp2_with (first
  | fail
  | ((with_reducible refine aD 30 ?_);refine aDE rfl rfl 30 _ _ rfl F X g C HC2.out okC.hd.1 7 _ v.cells rfl rfl rfl (by exact(by decide:7+5≤17)) (by kernel_rfl) rfl ?_
     intro w3 hB3 hm3
     have HC3:=hD hB3
     have HM3:=hD (HM2.out.trans (hm3.mono (fun n _ e=>by have h2:n=X:=e;rw[h2];exact HC2.out.F1)))
     clear hB3 hm3)
  | ((with_reducible refine aD 3 ?_);refine aDE rfl rfl 3 _ _ rfl F X g (C.sethr 7 v.cells.toList) HC3.out hl7 12 _ #[.int .i64 v.at_] rfl rfl rfl (by exact(by decide:12+1≤17)) (by kernel_rfl) rfl ?_
     intro w4 hB4 hm4
     have HC4:=hD (show BrG w4 F X g B1 by rw[HVE.out];exact hB4)
     have HM4:=hD (HM3.out.trans (hm4.mono (fun n _ e=>by have h2:n=X:=e;rw[h2];exact HC3.out.F1)))
     clear hB4 hm4))
 refine(HRT.out _ HC4.out).mono ?_
 rintro e w5 ⟨rfl,hx⟩
 have HC5:=hD (HC4.out.ext hx)
 have HM5:=hD (HM4.out.trans (hx.mut F))
 clear hx
 go_upto_region 6 with (first
  | fail
  | ((with_reducible refine aD 24 ?_);refine aDE rfl rfl 24 _ _ rfl F X g B1 HC5.out hl1 13 _ rt.toArray rfl rfl rfl (by rw[List.size_toArray,hz2];decide) (by rw[List.size_toArray,hz2];kernel_rfl) HT2.out ?_
     intro w6 hB6 hm6
     have HC6:=hD (show BrG w6 F X g D by rw[HB2.out];exact hB6)
     have HM6:=hD (HM5.out.trans (hm6.mono (fun n _ e=>by have h2:n=X:=e;rw[h2];exact HC5.out.F1)))
     obtain⟨cap,c17,hca,hcb⟩:=HC6.out.cell17 ok2
     rw[np2]at c17 hca
     clear hB6 hm6))
 go_loopw [31] (fun v wr=>∃n:Nat,n≤B.np∧v=.int .i64 n∧BrG wr F X g (eF D n)∧Mut F w wr) (fun v _=>B.np - (intOf v).toNat)
 case atStart=>exact⟨0,by omega,rfl,HC6.out,HM6.out⟩
 case round =>
  clear c17
  obtain⟨n,hn2,rfl,hB,hm⟩:=hrel
  have HB:=hD hB
  have HM:=hD hm
  clear hB hm
  have okn:=k6 ok2 n (by omega)
  have npn:(eF D n).np=B.np:=(j5 D n).trans np2
  by_cases hlt:n<B.np
  ·have hkn:n<(eF D n).np:=by rw[npn];exact hlt
   have hn8:n<1000:=by omega
   obtain⟨hX,hg,hne⟩:=HB.out.lt
   obtain⟨cap2,c17,hc3,hc4⟩:=HB.out.cell17 okn
   rw[npn]at c17 hc3
   have x0:wr.cell? ⟨X,0,none⟩=some (.int .u64 (D.hi 0)):=by
    have:=(HB.out.cellX okn (i:=0) (by decide)).trans (okn.hi 0 rfl)
    rw[iG]at this
    exact this
   have x4:wr.cell? ⟨X,4,none⟩=some (.int .i64 (D.hi 4)):=by
    have:=(HB.out.cellX okn (i:=4) (by decide)).trans (okn.hi 4 rfl)
    rw[iG]at this
    exact this
   have x7:wr.cell? ⟨X,7,none⟩=some (.int .u64 (D.hi 7)):=by
    have:=(HB.out.cellX okn (i:=7) (by decide)).trans (okn.hi 7 rfl)
    rw[iG]at this
    exact this
   have x8:wr.cell? ⟨X,8,none⟩=some (.int .u32 (D.hi 8)):=by
    have:=(HB.out.cellX okn (i:=8) (by decide)).trans (okn.hi 8 rfl)
    rw[iG]at this
    exact this
   have x12:wr.cell? ⟨X,12,none⟩=some (.int .i64 (D.hi 12)):=by
    have:=(HB.out.cellX okn (i:=12) (by decide)).trans (okn.hi 12 rfl)
    rw[iG]at this
    exact this
   have x13:wr.cell? ⟨X,13,none⟩=some (.int .i64 (D.hi 13)):=by
    have:=(HB.out.cellX okn (i:=13) (by decide)).trans (okn.hi 13 rfl)
    rw[iG]at this
    exact this
   have x14:wr.cell? ⟨X,14,none⟩=some (.int .i64 (D.hi 14)):=by
    have:=(HB.out.cellX okn (i:=14) (by decide)).trans (okn.hi 14 rfl)
    rw[iG]at this
    exact this
   have x15:wr.cell? ⟨X,15,none⟩=some (.int .i64 (D.hi 15)):=by
    have:=(HB.out.cellX okn (i:=15) (by decide)).trans (okn.hi 15 rfl)
    rw[iG]at this
    exact this
   have x16:wr.cell? ⟨X,16,none⟩=some (.int .i64 (D.hi 16)):=by
    have:=(HB.out.cellX okn (i:=16) (by decide)).trans (okn.hi 16 rfl)
    rw[iG]at this
    exact this
   have HS:=hD (show eF D (n+1)=(eF D n).setPort n ((chL n (D.hi 12) (D.hi 0) (lI D (a9 (eF D n).ps n))).set 44 (.bool true))from rfl)
   have hPz:=HB.out.pv (k:=n) hkn
   have hT:=dI okn hkn
   obtain⟨L,hL⟩:∃L,a9 (eF D n).ps n=L:=⟨_,rfl⟩
   rw[hL]at HS hPz hT
   clear hL
   have gid:=mY (ok2.hw 0 (K:=.u64) rfl)
   have HLEN:=hD (nT hT)
   have HL_0:=hD (aR hT 0 rfl)
   have HT:=hD (kO ok2 hT)
   have hG:=hPz.lt
   have hP_wr:Pv wr g (n*89) L:=hPz
   clear hPz hT
   go_wp2_with fail
   refine fD (S:=fun W'=>Ext wr W') (S2:=fun W'=>Pm g (n*89) wr W') 22 (by kernel_rfl) ?_
   intro wd hqx
   have hq0:Ext wr wd:=hqx
   refine cA 0 22 g ((n*89)) rfl rfl hq0 ?_
   refine cA 1 22 X 0 rfl rfl hq0 ?_
   refine cA 2 22 X 0 rfl rfl hq0 ?_
   refine cA 3 22 X 7 rfl rfl hq0 ?_
   refine cA 4 22 X 7 rfl rfl hq0 ?_
   refine tW 5 22 (_) rfl rfl (aA rfl 22 _ rfl ⟨X,7,none⟩ rfl (.int .u64 (D.hi 7)) _ (fun W' hW'=>(hW'.cell (p:=⟨X,7,none⟩) hX).trans x7) Tryz.underlying22 rfl) hq0 ?_
   refine cA 6 22 X 0 rfl rfl hq0 ?_
   refine cA 7 22 X 0 rfl rfl hq0 ?_
   refine cA 8 22 X 7 rfl rfl hq0 ?_
   refine cA 9 22 X 8 rfl rfl hq0 ?_
   refine tW 10 22 (_) rfl rfl (aA rfl 27 _ rfl ⟨X,8,none⟩ rfl (.int .u32 (D.hi 8)) _ (fun W' hW'=>(hW'.cell (p:=⟨X,8,none⟩) hX).trans x8) Tryz.underlying27 rfl) hq0 ?_
   refine cA 11 22 X 0 rfl rfl hq0 ?_
   refine cA 12 22 X 0 rfl rfl hq0 ?_
   refine cA 13 22 X 0 rfl rfl hq0 ?_
   refine tW 14 22 (_) rfl rfl (aA rfl 22 _ rfl ⟨X,0,none⟩ rfl (.int .u64 (D.hi 0)) _ (fun W' hW'=>(hW'.cell (p:=⟨X,0,none⟩) hX).trans x0) Tryz.underlying22 rfl) hq0 ?_
   refine cA 15 22 g ((n*89)) rfl rfl hq0 ?_
   refine cA 16 22 g ((n*89)) rfl rfl hq0 ?_
   refine cA 17 22 g ((n*89)) rfl rfl hq0 ?_
   refine tW 18 22 (_) rfl rfl (aA rfl 28 _ rfl ⟨g,(n*89),none⟩ rfl (.int .u16 (pI L 0)) _ (fun W' hW'=>((hP_wr.ext hW').cell (j:=0) (by decide)).trans HL_0.out) Tryz.underlying28 rfl) hq0 ?_
   refine tW 19 22 ((.agg #[.int .u64 (D.hi 7),.int .u32 (D.hi 8),.int .u64 (D.hi 0),.int .u16 (pI L 0),.int .u16 0])) rfl rfl (bL rfl 30 _ rfl [(0,.int .u64 (D.hi 7)),(1,.int .u32 (D.hi 8)),(2,.int .u64 (D.hi 0)),(3,.int .u16 (pI L 0))] rfl #[.int .u64 (D.hi 7),.int .u32 (D.hi 8),.int .u64 (D.hi 0),.int .u16 (pI L 0),.int .u16 0] (by kernel_rfl)) hq0 ?_
   refine gV 20 22 g ((n*89)) rfl hq0 ?_
   refine cA 21 22 g ((n*89)+73) rfl rfl hq0 ?_
   refine iC (z:=22) rfl rfl (by kernel_rfl) (fun K hK=>?_)
   refine bT rfl 30 _ _ rfl g (n*89) 73 _ (hP_wr.ext hq0) _ #[.int .u64 (D.hi 7),.int .u32 (D.hi 8),.int .u64 (D.hi 0),.int .u16 (pI L 0),.int .u16 0] rfl rfl rfl (by exact(by decide:73+5≤89)) (by kernel_rfl) rfl (fun ws22 hp22 hm22=>?_)
   have hr22:Pm g (n*89) wr ws22:=(Ext.pm hq0 g (n*89)).trans hm22
   refine hK.out _ _ hr22 (fun _=>?_)
   try simp only[ps]
   clear hK K
   refine wpAnyH_done (by kernel_rfl) ?_ _
   generalize ws22=z1 at *
   have hP_z1:Pv z1 g (n*89) (setL L 73 [.int .u64 (D.hi 7),.int .u32 (D.hi 8),.int .u64 (D.hi 0),.int .u16 (pI L 0),.int .u16 0]):=hp22
   have E_z1:Pm g (n*89) wr z1:=(Ext.pm hq0 g (n*89)).trans hm22
   clear hP_wr
   clear hq0 hqx hm22 hp22 hr22
   have RXz:=hD (show z1.rangeAt X 13 [.int .i64 (D.hi 13),.int .i64 (D.hi 14),.int .i64 (D.hi 15),.int .i64 (D.hi 16)]from(kF ((E_z1.1.cell (p:=⟨X,13,none⟩) hX hne).trans x13) (kF ((E_z1.1.cell (p:=⟨X,14,none⟩) hX hne).trans x14) (kF ((E_z1.1.cell (p:=⟨X,15,none⟩) hX hne).trans x15) (kF ((E_z1.1.cell (p:=⟨X,16,none⟩) hX hne).trans x16) aI5)))))
   go_wp2_with (first
    | fail
    | ((with_reducible refine aG 24 ?_);refine wpList_load_mid rfl 24 _ rfl X 13 rfl [.int .i64 (D.hi 13),.int .i64 (D.hi 14),.int .i64 (D.hi 15),.int .i64 (D.hi 16)] _ RXz.out Tryz.underlying24 rfl (by kernel_rfl) ?_)
    | ((with_reducible refine aD 24 ?_);refine bI rfl rfl 24 _ _ rfl g (n*89) 82 _ hP_z1 _ #[.int .i64 (D.hi 13),.int .i64 (D.hi 14),.int .i64 (D.hi 15),.int .i64 (D.hi 16)] rfl rfl rfl (by exact(by decide:82+4≤89)) (by kernel_rfl) rfl ?_
       intro z2 hp hm
       have hP_z2:Pv z2 g (n*89) (setL (setL L 73 [.int .u64 (D.hi 7),.int .u32 (D.hi 8),.int .u64 (D.hi 0),.int .u16 (pI L 0),.int .u16 0]) 82 [.int .i64 (D.hi 13),.int .i64 (D.hi 14),.int .i64 (D.hi 15),.int .i64 (D.hi 16)]):=hp
       have E_z2:Pm g (n*89) wr z2:=E_z1.trans hm
       clear hP_z1 E_z1
       clear hp hm
       have x4z:z2.cell? ⟨X,4,none⟩=some (.int .i64 (D.hi 4)):=(E_z2.1.cell (p:=⟨X,4,none⟩) hX hne).trans x4)
    | ((with_reducible refine aD 3 ?_);refine bI rfl rfl 3 _ _ rfl g (n*89) 84 _ hP_z2 _ #[.int .i64 (D.hi 4)] rfl rfl rfl (by exact(by decide:84+1≤89)) (by kernel_rfl) rfl ?_
       intro z3 hp hm
       replace hp:=aO hp (bH (bH HLEN.out (by exact(by decide:73+5≤89))) (by exact(by decide:82+4≤89))) (by decide)
       have hP_z3:=hp
       have E_z3:Pm g (n*89) wr z3:=E_z2.trans hm
       clear hP_z2 E_z2
       clear hp hm))
   have hP_z3:Pv z3 g (n*89) (lI D L):=hP_z3
   refine(wI g n _ hP_z3 HT.out X (D.hi 0) (D.hi 12) B.np cap2 ((E_z3.1.cell (p:=⟨X,0,none⟩) hX hne).trans x0) ((E_z3.1.cell (p:=⟨X,12,none⟩) hX hne).trans x12) ((E_z3.1.cell (p:=⟨X,17,none⟩) hX hne).trans c17) (nL hX E_z3.1.size) hne hlt hn gid).mono ?_
   rintro e z4 ⟨rfl,hp,hm⟩
   have hP_z4:Pv z4 g (n*89) (chL n (D.hi 12) (D.hi 0) (lI D L)):=hp
   have E_z4:Pm g (n*89) wr z4:=E_z3.trans hm
   clear hP_z3 E_z3
   clear hp hm
   obtain⟨M,hM⟩:∃M,chL n (D.hi 12) (D.hi 0) (lI D L)=M:=⟨_,rfl⟩
   rw[hM]at hP_z4 HS
   clear hM
   have HLEN:=hD hP_z4.len
   go_wp2_with (first
    | fail
    | ((with_reducible refine aD 4 ?_);refine bI rfl rfl 4 _ _ rfl g (n*89) 44 _ hP_z4 _ #[.bool true] rfl rfl rfl (by exact(by decide:44+1≤89)) (by kernel_rfl) rfl ?_
       intro z5 hp hm
       replace hp:=aO hp HLEN.out (by decide)
       have hP_z5:=hp
       have E_z5:Pm g (n*89) wr z5:=E_z4.trans hm
       clear hP_z4 E_z4
       clear hp hm))
   have hBn:=HB.out.pm (k:=n) hkn E_z5 hP_z5
   have HBn:=hD hBn
   have HMn:=hD (HM.out.trans (E_z5.mutF (F:=F) HB.out.F2))
   clear hBn
   go_roundw
   case rel=>exact⟨n+1,by omega,by go_num,by rw[HS.out];exact HBn.out,HMn.out⟩
   case measure=>simp[intOf];omega
  ·obtain rfl:n=B.np:=by omega
   go_wp2_with fail
   go_ret
   rw[HRS.out]
   exact⟨rfl,HB.out,HM.out⟩
def gP(en bpdu msg:Bool)(ed rx:Int):Nat :=
 if(!en && (bpdu || (ed != 3)))=true then 1 else if(!en || !bpdu)=true then 0 else if(rx == 0 || ((rx == 1) && !msg))=true then 2 else 0
def nX(n:Nat)(p:Value):Value:=if n=1 then .func (.func 68) #[.agg #[p]] #[]else if n=2 then .func (.func 69) #[.agg #[p]] #[]else Value.nilFunc
theorem wN(g o:Nat)(w:World)(en bpdu msg:Bool)(ed rx:Int)(fl:List Value)(h2:w.cell? ⟨g,o+2,none⟩=some (.bool en))(h6:w.cell? ⟨g,o+6,none⟩=some (.int .i64 ed))(h15:w.cell? ⟨g,o+15,none⟩=some (.int .i64 rx))(hfl:w.rangeAt g (o+22) fl)(hfn:fl.length=29)(hone:∀v∈fl,v.oneCell'=true)(f13:fl[13]?=some (.bool bpdu))(f14:fl[14]?=some (.bool msg))(hg:g<w.heap.size):
    Calls Tryz.prog 51 #[.agg #[.pointer (some ⟨g,o,none⟩)]] w fun e w'=>e=.returned (nX (gP en bpdu msg ed rx) (.pointer (some ⟨g,o,none⟩)))∧Ext w w':=by
 have HF:=hD hfl
 have HO:=hD hone
 have HN:=hD hfn
 have F13:=hD f13
 have F14:=hD f14
 have H2:=hD h2
 have H6:=hD h6
 have H15:=hD h15
 clear hfl hone hfn f13 f14 h2 h6 h15
 go_enter Tryz.func51,Tryz.ntmps51
 go_wp2
 have hw0:=(Ext.refl w).alloc (.cells #[.pointer (some ⟨g,o,none⟩)] 98)
 have z0:(w.alloc (.cells #[.pointer (some ⟨g,o,none⟩)] 98)).cell? ⟨w.heap.size,0,none⟩=some (.pointer (some ⟨g,o,none⟩)):=(World.cell?_alloc_at _ _ _ _ rfl).trans rfl
 have hb0:w.heap.size<(w.alloc (.cells #[.pointer (some ⟨g,o,none⟩)] 98)).heap.size:=by simp
 generalize w.alloc (.cells #[.pointer (some ⟨g,o,none⟩)] 98)=wz at *
 obtain⟨b0,hb00⟩:∃b,w.heap.size=b:=⟨_,rfl⟩
 rw[hb00]at z0 hb0 ⊢
 have hgz:g<wz.heap.size:=nL hg hw0.size
 have hfl:=aQ HF.out hw0 hg
 have h15:=(hw0.cell (p:=⟨g,o+15,none⟩) hg).trans H15.out
 have hfn:=HN.out
 have hone:=HO.out
 have hfi:(Tryz.prog.info? 58).map (·.size)=some fl.length:=by rw[hfn];exact b7
 refine aT (S:=fun W'=>Ext wz W') (by kernel_rfl) ?_
 intro wd hrf
 refine aH 0 b0 0 rfl hrf ?_
 refine tL 1 (_) rfl (aA rfl 79 _ rfl ⟨b0,0,none⟩ rfl (.pointer (some ⟨g,o,none⟩)) _ (fun W' hW'=>(hW'.cell (p:=⟨b0,0,none⟩) hb0).trans z0) Tryz.underlying79 rfl) hrf ?_
 refine aH 2 g o rfl hrf ?_
 refine aH 3 g (o+22) rfl hrf ?_
 refine tL 4 (_) rfl (yieldsIf_load_mid rfl 58 _ rfl g (o+22) rfl (fl) _ (fun W' hW'=>aQ hfl hW' hgz) Tryz.underlying58 rfl hfi) hrf ?_
 refine aH 5 b0 0 rfl hrf ?_
 refine tL 6 (_) rfl (aA rfl 79 _ rfl ⟨b0,0,none⟩ rfl (.pointer (some ⟨g,o,none⟩)) _ (fun W' hW'=>(hW'.cell (p:=⟨b0,0,none⟩) hb0).trans z0) Tryz.underlying79 rfl) hrf ?_
 refine aH 7 g o rfl hrf ?_
 refine aH 8 g (o+15) rfl hrf ?_
 refine aH 9 g (o+15) rfl hrf ?_
 refine tL 10 (_) rfl (aA rfl 3 _ rfl ⟨g,o+15,none⟩ rfl (.int .i64 rx) _ (fun W' hW'=>(hW'.cell (p:=⟨g,o+15,none⟩) hgz).trans h15) Tryz.underlying3 rfl) hrf ?_
 refine bB (i:=11) rfl rfl (by kernel_rfl) (fun K hK=>?_)
 refine gU 58 rfl FZ (iV _) ?_
 refine hK.out _ _ (hrf.alloc _) (fun hHeld=>?_)
 try simp only[ps]
 clear hK K
 refine bB (i:=12) rfl rfl (by kernel_rfl) (fun K hK=>?_)
 refine l5 58 _ _ rfl wd.heap.size _ FZ fl.toArray rfl rfl (heap_alloc_new _ _) (by rw[List.size_toArray];exact hfi) (by rw[List.size_toArray];exact hfn.symm) (all_oneCell_toArray hone) ?_
 refine hK.out _ _ (eQ (hrf.alloc _) hrf.size _) (fun hHeld=>?_)
 try simp only[ps]
 clear hK K
 refine bO 13 ((.int .i64 rx)) rfl hHeld ?_
 refine wpAnyH_done (by kernel_rfl) ?_ _
 have hX:=setRow_heap _ _ _ fl.toArray _ _ (heap_alloc_new wd (.cells FZ 58))
 generalize hw2:(wd.alloc (.cells FZ 58)).setRow wd.heap.size fl.toArray=w2 at *
 have hE:=Ext.trans hw0 hHeld
 have y0:=(hHeld.cell (p:=⟨b0,0,none⟩) hb0).trans z0
 have q2:=(hE.cell (p:=⟨g,o+2,none⟩) hg).trans H2.out
 have q6:=(hE.cell (p:=⟨g,o+6,none⟩) hg).trans H6.out
 have q13:w2.cell? ⟨wd.heap.size,13,none⟩=some (.bool bpdu):=by rw[cell_of_row _ _ _ _ _ _ hX];simpa using F13.out
 have q14:w2.cell? ⟨wd.heap.size,14,none⟩=some (.bool msg):=by rw[cell_of_row _ _ _ _ _ _ hX];simpa using F14.out
 generalize wd.heap.size=n1 at *
 have HE:=hD hE
 clear hHeld hE z0 hfl h15 hfn hone hfi hrf hX hw0 hb0 hgz hw2
 go_wp2
 all_goals
  go_ret
  refine⟨?_,HE.out⟩
  simp_all[gP,nX]
def lP(B:Br)(k:Nat):Br:=((((((B.setp k 35 (.bool false)).setp k 37 (.bool false)).setp k 38 (.bool false)).setp k 36 (.bool false)).setp k 6 (.int .i64 3)).setp k 15 (.int .i64 0))
def nD(B:Br)(k:Nat):Br:=((((((B.setp k 37 (.bool true)).setp k 32 (.bool false)).setp k 35 (.bool false)).setp k 36 (.bool true)).setp k 6 (.int .i64 3)).setp k 15 (.int .i64 1))
def nE(B:Br)(k:Nat):Br:=((((((B.setp k 38 (.bool true)).setp k 32 (.bool false)).setp k 35 (.bool false)).setp k 36 (.bool true)).setp k 6 (.int .i64 3)).setp k 15 (.int .i64 1))
def nY(B:Br)(k:Nat):Br:=if B.gi k 51=2 then nD B k else nE B k
def rxS(B:Br)(k:Nat):Nat:=gP (B.gb k 2) (B.gb k 35) (B.gb k 36) (B.gi k 6) (B.gi k 15)
def tD(B:Br)(k:Nat):Bool × Br:=if rxS B k=1 then(true,lP B k)else if rxS B k=2 then(true,nY B k)else(false,B)
theorem q7(f:FuncId)(cs:Array Value)(w:World):(binOp BinOp.eql 1 (Value.func (Fn.func f) cs #[]) Value.nilFunc).run Tryz.prog w=.ok (.bool false) w:=by kernel_rfl
theorem wO(w:World):(binOp BinOp.eql 1 Value.nilFunc Value.nilFunc).run Tryz.prog w=.ok (.bool true) w:=by kernel_rfl
theorem wP(w:World)(g o:Nat)(u35 u37 u38 u36 u6 u15:Value)(h35:w.cell? ⟨g,o+35,none⟩=some u35)(h37:w.cell? ⟨g,o+37,none⟩=some u37)(h38:w.cell? ⟨g,o+38,none⟩=some u38)(h36:w.cell? ⟨g,o+36,none⟩=some u36)(h6:w.cell? ⟨g,o+6,none⟩=some u6)(h15:w.cell? ⟨g,o+15,none⟩=some u15)(hf:∀j,w.frozen? ⟨g,j,none⟩=false)(hg:g<w.heap.size):Calls Tryz.prog 68 #[.agg #[.pointer (some ⟨g,o,none⟩)]] w fun e w'=>e=.returned (.tuple #[])∧w'=((((((w.setCell ⟨g,o+35,none⟩ (.bool false)).setCell ⟨g,o+37,none⟩ (.bool false)).setCell ⟨g,o+38,none⟩ (.bool false)).setCell ⟨g,o+36,none⟩ (.bool false)).setCell ⟨g,o+6,none⟩ (.int .i64 3)).setCell ⟨g,o+15,none⟩ (.int .i64 0)).alloc (.cells #[.pointer (some ⟨g,o,none⟩)] 98):=by
 have hn1:w.heap.size≠g:=by omega
 have hn2:g≠w.heap.size:=by omega
 go_enter Tryz.func68,Tryz.ntmps68
 go_wp2
 go_end0
 exact⟨rfl,rfl⟩
theorem t9(w:World)(g o:Nat)(u37 u32 u35 u36 u6 u15:Value)(m:Int)(hm:m=2)(h37:w.cell? ⟨g,o+37,none⟩=some u37)(h32:w.cell? ⟨g,o+32,none⟩=some u32)(h35:w.cell? ⟨g,o+35,none⟩=some u35)(h36:w.cell? ⟨g,o+36,none⟩=some u36)(h6:w.cell? ⟨g,o+6,none⟩=some u6)(h15:w.cell? ⟨g,o+15,none⟩=some u15)(h51:w.cell? ⟨g,o+51,none⟩=some (.int .i64 m))(hf:∀j,w.frozen? ⟨g,j,none⟩=false)(hg:g<w.heap.size):Calls Tryz.prog 69 #[.agg #[.pointer (some ⟨g,o,none⟩)]] w fun e w'=>e=.returned (.tuple #[])∧w'=((((((w.setCell ⟨g,o+37,none⟩ (.bool true)).setCell ⟨g,o+32,none⟩ (.bool false)).setCell ⟨g,o+35,none⟩ (.bool false)).setCell ⟨g,o+36,none⟩ (.bool true)).setCell ⟨g,o+6,none⟩ (.int .i64 3)).setCell ⟨g,o+15,none⟩ (.int .i64 1)).alloc (.cells #[.pointer (some ⟨g,o,none⟩)] 98):=by
 have hn1:w.heap.size≠g:=by omega
 have hn2:g≠w.heap.size:=by omega
 subst hm
 go_enter Tryz.func69,Tryz.ntmps69
 go_wp2
 go_end0
 exact⟨rfl,rfl⟩
theorem uA(w:World)(g o:Nat)(u38 u32 u35 u36 u6 u15:Value)(m:Int)(hm:(m == 2)=false)(h38:w.cell? ⟨g,o+38,none⟩=some u38)(h32:w.cell? ⟨g,o+32,none⟩=some u32)(h35:w.cell? ⟨g,o+35,none⟩=some u35)(h36:w.cell? ⟨g,o+36,none⟩=some u36)(h6:w.cell? ⟨g,o+6,none⟩=some u6)(h15:w.cell? ⟨g,o+15,none⟩=some u15)(h51:w.cell? ⟨g,o+51,none⟩=some (.int .i64 m))(hf:∀j,w.frozen? ⟨g,j,none⟩=false)(hg:g<w.heap.size):Calls Tryz.prog 69 #[.agg #[.pointer (some ⟨g,o,none⟩)]] w fun e w'=>e=.returned (.tuple #[])∧w'=((((((w.setCell ⟨g,o+38,none⟩ (.bool true)).setCell ⟨g,o+32,none⟩ (.bool false)).setCell ⟨g,o+35,none⟩ (.bool false)).setCell ⟨g,o+36,none⟩ (.bool true)).setCell ⟨g,o+6,none⟩ (.int .i64 3)).setCell ⟨g,o+15,none⟩ (.int .i64 1)).alloc (.cells #[.pointer (some ⟨g,o,none⟩)] 98):=by
 have hn1:w.heap.size≠g:=by omega
 have hn2:g≠w.heap.size:=by omega
 go_enter Tryz.func69,Tryz.ntmps69
 go_wp2
 go_end0
 exact⟨rfl,rfl⟩
theorem aDH(w:World)(F:Nat→Prop)(X g k:Nat)(B:Br)(h:BrG w F X g B)(ho:B.ok)(hk:k<B.np)(hk2:k<1000)(hs:rxS B k=0):
    Calls Tryz.prog 37 #[.pointer (some ⟨X,0,none⟩),.int .i64 k] w (aN w F X g (false,B)):=by
 obtain⟨hX,hg,hne⟩:=h.lt
 obtain⟨cap,c17,hc1,hc2⟩:=h.cell17 ho
 have hr:=(wN g (k*89) w (B.gb k 2) (B.gb k 35) (B.gb k 36) (B.gi k 6) (B.gi k 15) (cH B.ps k) (qb h ho hk 2) (qi h ho hk 6 rfl) (qi h ho hk 15 rfl)
  (h.flags hk) (fU ho hk) (fV ho k) ((bK (B:=B) (k:=k) (j:=13) (by decide)).trans (ho.gb hk 35 rfl)) ((bK (B:=B) (k:=k) (j:=14) (by decide)).trans (ho.gb hk 36 rfl)) hg)
 rw[show gP (B.gb k 2) (B.gb k 35) (B.gb k 36) (B.gi k 6) (B.gi k 15)=0 from hs]at hr
 have HR:=hD hr
 have H:=hD h
 have HS:=hD hs
 clear h hr hs
 go_enter Tryz.func37,Tryz.ntmps37
 go_wp2_with fail
 refine(qG (v':=nX 0 (.pointer (some ⟨g,k*89,none⟩))) HR.out rfl).mono ?_
 rintro e w1 ⟨rfl,hx1⟩
 have H1:=hD (H.out.ext hx1)
 have HM:=hD (hx1.mut F)
 clear hx1 c17 HR
 unfold nX
 have q0:=wO
 have q1:=q7 68
 have q2:=q7 69
 go_wp2_with fail
 go_ret
 exact⟨rfl,H1.out,HM.out⟩
theorem uB(w:World)(F:Nat→Prop)(X g k:Nat)(B:Br)(h:BrG w F X g B)(ho:B.ok)(hk:k<B.np)(hk2:k<1000):Calls Tryz.prog 68 #[.agg #[.pointer (some ⟨g,k*89,none⟩)]] w fun e w'=>e=.returned (.tuple #[])∧BrG w' F X g (lP B k)∧Mut F w w':=by
 refine(wP w g (k*89) _ _ _ _ _ _  (qb h ho hk 35) (qb h ho hk 37) (qb h ho hk 38) (qb h ho hk 36) (qi h ho hk 6 rfl) (qi h ho hk 15 rfl) h.frozen h.lt.2.1).mono ?_
 rintro e w' ⟨rfl,rfl⟩
 exact⟨rfl,((((((h.setp (j:=35) hk (by decide) (.bool false)).setp (j:=37) hk (by decide) (.bool false)).setp (j:=38) hk (by decide) (.bool false)).setp (j:=36) hk (by decide) (.bool false)).setp (j:=6) hk (by decide) (.int .i64 3)).setp (j:=15) hk (by decide) (.int .i64 0)).alloc _,(((((((Mut.refl F w).setCell (.inl h.F2) _).setCell (.inl h.F2) _).setCell (.inl h.F2) _).setCell (.inl h.F2) _).setCell (.inl h.F2) _).setCell (.inl h.F2) _).alloc _⟩
theorem sF(w:World)(F:Nat→Prop)(X g k:Nat)(B:Br)(h:BrG w F X g B)(ho:B.ok)(hk:k<B.np)(hk2:k<1000)(hm:B.gi k 51=2):Calls Tryz.prog 69 #[.agg #[.pointer (some ⟨g,k*89,none⟩)]] w fun e w'=>e=.returned (.tuple #[])∧BrG w' F X g (nD B k)∧Mut F w w':=by
 refine(t9 w g (k*89) _ _ _ _ _ _ _ hm (qb h ho hk 37) (qb h ho hk 32) (qb h ho hk 35) (qb h ho hk 36) (qi h ho hk 6 rfl) (qi h ho hk 15 rfl) (qi h ho hk 51 rfl) h.frozen h.lt.2.1).mono ?_
 rintro e w' ⟨rfl,rfl⟩
 exact⟨rfl,((((((h.setp (j:=37) hk (by decide) (.bool true)).setp (j:=32) hk (by decide) (.bool false)).setp (j:=35) hk (by decide) (.bool false)).setp (j:=36) hk (by decide) (.bool true)).setp (j:=6) hk (by decide) (.int .i64 3)).setp (j:=15) hk (by decide) (.int .i64 1)).alloc _,(((((((Mut.refl F w).setCell (.inl h.F2) _).setCell (.inl h.F2) _).setCell (.inl h.F2) _).setCell (.inl h.F2) _).setCell (.inl h.F2) _).setCell (.inl h.F2) _).alloc _⟩
theorem sG(w:World)(F:Nat→Prop)(X g k:Nat)(B:Br)(h:BrG w F X g B)(ho:B.ok)(hk:k<B.np)(hk2:k<1000)(hm:(B.gi k 51 == 2)=false):Calls Tryz.prog 69 #[.agg #[.pointer (some ⟨g,k*89,none⟩)]] w fun e w'=>e=.returned (.tuple #[])∧BrG w' F X g (nE B k)∧Mut F w w':=by
 refine(uA w g (k*89) _ _ _ _ _ _ _ hm (qb h ho hk 38) (qb h ho hk 32) (qb h ho hk 35) (qb h ho hk 36) (qi h ho hk 6 rfl) (qi h ho hk 15 rfl) (qi h ho hk 51 rfl) h.frozen h.lt.2.1).mono ?_
 rintro e w' ⟨rfl,rfl⟩
 exact⟨rfl,((((((h.setp (j:=38) hk (by decide) (.bool true)).setp (j:=32) hk (by decide) (.bool false)).setp (j:=35) hk (by decide) (.bool false)).setp (j:=36) hk (by decide) (.bool true)).setp (j:=6) hk (by decide) (.int .i64 3)).setp (j:=15) hk (by decide) (.int .i64 1)).alloc _,(((((((Mut.refl F w).setCell (.inl h.F2) _).setCell (.inl h.F2) _).setCell (.inl h.F2) _).setCell (.inl h.F2) _).setCell (.inl h.F2) _).setCell (.inl h.F2) _).alloc _⟩
theorem aDI(w:World)(F:Nat→Prop)(X g k:Nat)(B:Br)(h:BrG w F X g B)(ho:B.ok)(hk:k<B.np)(hk2:k<1000)(hs:rxS B k=1):
    Calls Tryz.prog 37 #[.pointer (some ⟨X,0,none⟩),.int .i64 k] w (aN w F X g (true,lP B k)):=by
 obtain⟨hX,hg,hne⟩:=h.lt
 obtain⟨cap,c17,hc1,hc2⟩:=h.cell17 ho
 have hr:=(wN g (k*89) w (B.gb k 2) (B.gb k 35) (B.gb k 36) (B.gi k 6) (B.gi k 15) (cH B.ps k) (qb h ho hk 2) (qi h ho hk 6 rfl) (qi h ho hk 15 rfl)
  (h.flags hk) (fU ho hk) (fV ho k) ((bK (B:=B) (k:=k) (j:=13) (by decide)).trans (ho.gb hk 35 rfl)) ((bK (B:=B) (k:=k) (j:=14) (by decide)).trans (ho.gb hk 36 rfl)) hg)
 rw[show gP (B.gb k 2) (B.gb k 35) (B.gb k 36) (B.gi k 6) (B.gi k 15)=1 from hs]at hr
 have HR:=hD hr
 have H:=hD h
 have HS:=hD hs
 clear h hr hs
 go_enter Tryz.func37,Tryz.ntmps37
 go_wp2_with fail
 refine(qG (v':=nX 1 (.pointer (some ⟨g,k*89,none⟩))) HR.out rfl).mono ?_
 rintro e w1 ⟨rfl,hx1⟩
 have H1:=hD (H.out.ext hx1)
 have HM:=hD (hx1.mut F)
 clear hx1 c17 HR
 unfold nX
 have q0:=wO
 have q1:=q7 68
 have q2:=q7 69
 go_wp2_with fail
 refine(uB w1 F X g k B H1.out ho hk hk2).mono ?_
 rintro e w2 ⟨rfl,hB,hm⟩
 have HB:=hD hB
 have HQ:=hD (HM.out.trans hm)
 clear hB hm
 go_wp2_with fail
 go_ret
 exact⟨rfl,HB.out,HQ.out⟩
theorem aDJ(w:World)(F:Nat→Prop)(X g k:Nat)(B:Br)(h:BrG w F X g B)(ho:B.ok)(hk:k<B.np)(hk2:k<1000)(hs:rxS B k=2):
    Calls Tryz.prog 37 #[.pointer (some ⟨X,0,none⟩),.int .i64 k] w (aN w F X g (true,nY B k)):=by
 obtain⟨hX,hg,hne⟩:=h.lt
 obtain⟨cap,c17,hc1,hc2⟩:=h.cell17 ho
 have hr:=(wN g (k*89) w (B.gb k 2) (B.gb k 35) (B.gb k 36) (B.gi k 6) (B.gi k 15) (cH B.ps k) (qb h ho hk 2) (qi h ho hk 6 rfl) (qi h ho hk 15 rfl)
  (h.flags hk) (fU ho hk) (fV ho k) ((bK (B:=B) (k:=k) (j:=13) (by decide)).trans (ho.gb hk 35 rfl)) ((bK (B:=B) (k:=k) (j:=14) (by decide)).trans (ho.gb hk 36 rfl)) hg)
 rw[show gP (B.gb k 2) (B.gb k 35) (B.gb k 36) (B.gi k 6) (B.gi k 15)=2 from hs]at hr
 have HR:=hD hr
 have H:=hD h
 have HS:=hD hs
 clear h hr hs
 go_enter Tryz.func37,Tryz.ntmps37
 go_wp2_with fail
 refine(qG (v':=nX 2 (.pointer (some ⟨g,k*89,none⟩))) HR.out rfl).mono ?_
 rintro e w1 ⟨rfl,hx1⟩
 have H1:=hD (H.out.ext hx1)
 have HM:=hD (hx1.mut F)
 clear hx1 c17 HR
 unfold nX
 have q0:=wO
 have q1:=q7 68
 have q2:=q7 69
 go_wp2_with fail
 have hc:Calls Tryz.prog 69 #[.agg #[.pointer (some ⟨g,k*89,none⟩)]] w1 fun e w'=>e=.returned (.tuple #[])∧BrG w' F X g (nY B k)∧Mut F w1 w':=by
  unfold nY
  by_cases hm:B.gi k 51=2
  ·rw[if_pos hm]
   exact sF w1 F X g k B H1.out ho hk hk2 hm
  ·rw[if_neg hm]
   exact sG w1 F X g k B H1.out ho hk hk2 (by simpa using hm)
 refine hc.mono ?_
 rintro e w2 ⟨rfl,hB,hm⟩
 have HB:=hD hB
 have HQ:=hD (HM.out.trans hm)
 clear hB hm hc
 go_wp2_with fail
 go_ret
 exact⟨rfl,HB.out,HQ.out⟩
theorem aF6(w:World)(F:Nat→Prop)(X g k:Nat)(B:Br)(h:BrG w F X g B)(ho:B.ok)(hk:k<B.np)(hk2:k<1000):
    Calls Tryz.prog 37 #[.pointer (some ⟨X,0,none⟩),.int .i64 k] w (aN w F X g (tD B k)):=by
 have h3:rxS B k=0∨rxS B k=1∨rxS B k=2:=by
  unfold rxS gP
  split<;>(try split)<;>(try split)<;>simp
 unfold tD
 rcases h3 with hs|hs|hs
 ·rw[if_neg (by omega),if_neg (by omega)]
  exact aDH w F X g k B h ho hk hk2 hs
 ·rw[if_pos hs]
  exact aDI w F X g k B h ho hk hk2 hs
 ·rw[if_neg (by omega),if_pos hs]
  exact aDJ w F X g k B h ho hk hk2 hs
end Go.Proofs.YtpanapepcbbagaaGreat
