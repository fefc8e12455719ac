/- Part 8 of what BridgeRests stands on. No statement is proved here. -/
import Derived.Test.YtpanapepcbbagaaGreatBxg
set_option linter.unusedVariables false
set_option linter.unusedSimpArgs false
set_option maxRecDepth 100000
set_option maxHeartbeats 8000000
namespace Go.Proofs.YtpanapepcbbagaaGreat
open Go.RowKit Go.BigFrame Go.WideShapes Go.ChangeShapes Go.Deep
theorem vQ{N:Nat→Prop}{X g k:Nat}{w:World}{B:Br}(h:WB N X g B w)(ho:B.ok)(hk:k<B.np)(hn:B.np≤1000):Calls Tryz.prog 27 #[.pointer (some ⟨X,0,none⟩),.int .i64 (k:Int)] w fun e w'=>e=.returned (.pointer (some ⟨g,k*89,none⟩))∧w=w':=by
 obtain⟨cap,c17,hc1,hc2⟩:=BrG.cell17 h ho
 have d0:decide ((k:Int)<0)=false:=by simp
 have d1:decide ((k:Int)≥(B.np:Int))=false:=by simp;omega
 go_enter Tryz.func27,Tryz.ntmps27
 go_wp2_with fail
 go_ret
 exact⟨by simp,rfl⟩
theorem WB.setp{N:Nat→Prop}{X g k j:Nat}{w:World}{B:Br}(h:WB N X g B w)(hk:k<B.np)(hj:j<89)(v:Value):WB N X g (B.setp k j v) (w.setCell ⟨g,k*89+j,none⟩ v) :=
 (BrG.setp h hk hj v).mono (fun n hn=>by simpa using hn)
theorem qB{N:Nat→Prop}{X g k:Nat}{w:World}{B:Br}(h:WB N X g B w)(ho:B.ok)(hk:k<B.np)(hn:B.np≤1000)(b:Bool):Calls Tryz.prog 18 #[.pointer (some ⟨X,0,none⟩),.int .i64 (k:Int),.bool b] w (So N X g (fun d B'=>(B.gb k 2=b∧d=false∧B'=B)∨(B.gb k 2≠b∧d=true∧B'=B.setp k 2 (.bool b))) w):=by
 have c2:w.cell? ⟨g,k*89+2,none⟩=some (.bool (B.gb k 2)):=(BrG.cellg h (i:=k*89+2) (by omega)).trans (ho.gb hk 2 rfl)
 have f2:w.frozen? ⟨g,k*89+2,none⟩=false:=BrG.frozen h (k*89+2)
 have HP:=hD (vQ h ho hk hn)
 have H:=hD h
 obtain⟨x,hx⟩:∃x,B.gb k 2=x:=⟨_,rfl⟩
 rw[hx]at c2 ⊢
 clear h hx
 go_enter Tryz.func18,Tryz.ntmps18
 go_wp2_with fail
 refine HP.out.mono ?_
 rintro e w' ⟨rfl,rfl⟩
 clear HP
 cases x<;>cases b
 ·go_wp2_with fail
  go_ret
  exact⟨_,_,rfl,H.out,Mut.refl _ w,by simp⟩
 ·go_wp2_with fail
  go_ret
  exact⟨_,_,rfl,WB.setp H.out hk (by decide) _,(Mut.refl _ w).setCell (.inl (BrG.F2 H.out).1) _,.inr ⟨by decide,rfl,rfl⟩⟩
 ·go_wp2_with fail
  go_ret
  exact⟨_,_,rfl,WB.setp H.out hk (by decide) _,(Mut.refl _ w).setCell (.inl (BrG.F2 H.out).1) _,.inr ⟨by decide,rfl,rfl⟩⟩
 ·go_wp2_with fail
  go_ret
  exact⟨_,_,rfl,H.out,Mut.refl _ w,by simp⟩
theorem WB.ext{N:Nat→Prop}{X g:Nat}{w w':World}{B:Br}(h:WB N X g B w)(hx:Ext w w'):WB N X g B w' :=
 (BrG.ext h hx).mono (fun n hn=>⟨hn.1,nL hn.2 hx.size⟩)
theorem aFM{N:Nat→Prop}{X g:Nat}{w:World}{B:Br}(h:WB N X g B w)(ho:B.ok)(hn:B.np<1000)(i:Int){m:List Value}(hm:Typed ML m):Calls Tryz.prog 20 #[.pointer (some ⟨X,0,none⟩),.int .i64 i,.agg m.toArray] w (So N X g (fun d B'=>B'=(kH B i m).2) w):=by
 have hml:m.length=17:=hm.1
 have HM:=hD hm
 have HI:=hD (show(Tryz.prog.info? 46).map (·.size)=some m.toArray.size by rw[List.size_toArray,hml];exact fI)
 have H:=hD h
 clear h
 go_enter Tryz.func20,Tryz.ntmps20
 go_wp2_with (first
  | fail
  | ((with_reducible refine bP 46 ?_);refine bQ rfl 46 _ rfl m.toArray rfl ?_
     intro Y w1 hY hsz hx1
     have HY:=hD hY
     have HX:=hD hx1
     clear hY hsz hx1)
  | ((with_reducible refine aG 46 ?_);refine wpList_load_row rfl 46 _ rfl Y rfl 46 m.toArray (0,0) _ HY.out Tryz.underlying46 rfl HI.out ?_))
 refine(aEQ w1 _ X g B (WB.ext H.out HX.out) ho m HM.out hn i).mono ?_
 rintro e w2 hh
 obtain⟨d,B',rfl,hB,hm2,hR⟩:=So.of (R:=fun d B'=>B'=(kH B i m).2) hh rfl
 have HB:=hD hB
 have HMU:=hD ((HX.out.mut _).trans hm2)
 clear hB hm2 hh
 go_wp2_with fail
 go_ret
 exact⟨d,B',rfl,HB.out,HMU.out,hR⟩
theorem aL3:zd.ok:=zd_ki.ok
def TmW:Array Value:=#[.int .i64 0,.int .i64 20,.int .i64 2,.int .i64 15]
def TmZ:Array Value:=#[.int .i64 0,.int .i64 0,.int .i64 0,.int .i64 0]
theorem aIW:Tryz.prog.built 24 [(1,.int .i64 20),(2,.int .i64 2),(3,.int .i64 15)]=some TmW:=by kernel_rfl
theorem aAL:∀w,(zeroValue 24).run Tryz.prog w=.ok (.agg TmZ) w:=(zero_of_info (P:=Tryz.prog) (t:=24) (v:=.agg TmZ) (n:=4) (by kernel_rfl)).1
theorem aL5:Tryz.prog.built 73 [(0,.int .u16 1),(1,.int .u32 5),(3,.bool true)]=some #[.int .u16 1,.int .u32 5,.bool false,.bool true,.bool false]:=by kernel_rfl
theorem aL6:oG 7 true 0 20 2 15 6 [⟨1,5,false,true,false⟩]=zd:=rfl
theorem aAM{P:List Pt}(h:P.length≤32):lM (oG 7 true 0 20 2 15 6 P):=(pZ (id:=7) (hold:=6) (rst:=true) (P:=P) h).2 (by omega)
theorem aKL{P:Program}{ops:Array Oper}{rest:List Oper}{a:Act}{w:World}{Q:Exit→Act→World→Prop}(T:TypeId){d:Option Tmp}{n:Nat}{x:Array (Nat × Operand)}{ty:TypeId}{pos:String}{af:Array Edge}(h:wpList P ops Q ({ dst:=d,op:=.buildSlice T n x,type:=ty,pos:=pos,after:=af,guard:=none } :: rest) a w):wpList P ops Q ({ dst:=d,op:=.buildSlice T n x,type:=ty,pos:=pos,after:=af,guard:=none } :: rest) a w:=h
theorem aFN{w:World}{N:Nat→Prop}{X base:Nat}{u:Value}{B:Br}(hX:w.heap[X]?=some (.cells (B.hd++[u,.slice none 0 0,.slice none 0 0]).toArray 35 (0,0)))(ho:w.ownsRow base 60 89 u B.np B.ps)(hp:0<B.np)(hb:∀n,base≤n→N n)(hNX:N X)(h0:B.no=0∧B.os=[]∧B.nf=0∧B.fl=[]):∃g,WB N X g B w:=by
 obtain⟨h1,h2,h3,h4⟩:=h0
 rcases ho.2 with ⟨e,e2⟩|⟨g,cap,cur,rfl,hb2,hg,hn2,hm,hs,ht⟩
 ·omega
 ·refine⟨g,⟨hNX,aC hX⟩,⟨hb _ (by omega),aC hg⟩,cap,cur,_,_,hX,hg,hs,hn2,hm,ht,?_,?_,fun h hh=>(by cases hh),fun h hh=>(by cases hh)⟩
  ·rw[h1,h2];exact⟨by simp,.inl ⟨rfl,rfl⟩⟩
  ·rw[h3,h4];exact⟨by simp,.inl ⟨rfl,rfl⟩⟩
theorem aCP(w:World):Calls Tryz.prog 10 #[] w fun e w'=>e=.returned (.bool true)∧Ext w w':=by
 obtain⟨i3,hi9,hz9,hs9,hb9⟩:=info_parts aAK
 have I3:=hD (And.intro hi9 (And.intro hz9 (And.intro hs9 hb9)))
 clear hi9 hz9 hs9 hb9
 go_enter Tryz.func10,Tryz.ntmps10
 go_wp2_with (first
  | fail
  | ((with_reducible refine cJ 24 ?_);refine bG rfl 24 _ rfl _ rfl _ aIW ?_)
  | ((with_reducible refine bS 24 ?_);refine b6 rfl 24 rfl TmZ aAL ?_
     intro Y w1 hq hsz hx)
  | ((with_reducible refine aD 24 ?_);refine dS rfl rfl 24 _ _ rfl Y 0 _ TmW TmZ TmW 24 rfl rfl rfl hq (by exact(by decide:0+4≤4)) (by kernel_rfl) rfl rfl ?_
     intro w2 hq2 hm2
     have HY:=hD hq2
     have HX:=hD (show Ext w w2 from hx.mutE hm2 (fun g hg h=>by have h2:g=Y:=h;omega))
     clear hq hsz hx hq2 hm2 w1)
  | ((with_reducible refine aG 24 ?_);refine wpList_load_row rfl 24 _ rfl Y rfl 24 TmW (0,0) _ HY.out Tryz.underlying24 rfl mX ?_))
 refine(nP 7 0 20 2 15 6 true (.slice none 0 0) [] w2 ⟨none,0,rfl,by decide,fun h=>absurd h (by decide)⟩ (by decide) (by decide) (by decide) (fun p hp=>by cases hp) rfl rfl rfl rfl).mono ?_
 rintro e w3 ⟨c,ok,rfl,hok,hnew,hx3⟩
 obtain rfl:ok=true:=hok.2 (aAM (by decide))
 rcases hnew with ⟨-,u,rfl,hown⟩|⟨h,-⟩
 case inr=>cases h
 obtain⟨a,cp,rfl⟩:=fB hown
 have HY3:=hD ((hx3.block Y (aC HY.out)).trans HY.out)
 have HX3:=hD (HX.out.trans hx3)
 clear hok hown hx3 HX HY
 go_wp2_with (first
  | fail
  | ((with_reducible refine bS 35 ?_);refine b6 rfl 35 rfl oR jK ?_
     intro X w4 hq hsz hx)
  | ((with_reducible refine aD 35 ?_);refine dS rfl rfl 35 _ _ rfl X 0 _ #[.int .u64 7,.bool true,.int .i64 0,.int .i64 20,.int .i64 2,.int .i64 15,.int .i64 6,.int .u64 7,.int .u32 0,.int .u64 7,.int .u16 0,.int .u16 0,.int .i64 (-1),.int .i64 0,.int .i64 20,.int .i64 2,.int .i64 15,.slice a 0 cp,.slice none 0 0,.slice none 0 0] oR #[.int .u64 7,.bool true,.int .i64 0,.int .i64 20,.int .i64 2,.int .i64 15,.int .i64 6,.int .u64 7,.int .u32 0,.int .u64 7,.int .u16 0,.int .u16 0,.int .i64 (-1),.int .i64 0,.int .i64 20,.int .i64 2,.int .i64 15,.slice a 0 cp,.slice none 0 0,.slice none 0 0] 35 rfl rfl rfl hq (by exact(by decide:0+20≤20)) (by kernel_rfl) rfl rfl ?_
     intro w5 hq5 hm5
     have c17:w5.cell? ⟨X,17,none⟩=some (.slice a 0 cp):=by rw[bA hq5];rfl
     have hx5:Ext w3 w5:=hx.mutE hm5 (fun g hg h=>by have h2:g=X:=h;omega)
     have HY5:=hD ((hx5.block Y (aC HY3.out)).trans HY3.out)
     have HX5:=hD (HX3.out.trans hx5)
     clear hq hsz hx hq5 hm5 hx5 HY3 HX3 w4))
 refine(aFL w5 X c17).mono ?_
 rintro e w' ⟨rfl,rfl⟩
 clear c17
 go_wp2_with (first
  | fail
  | ((with_reducible refine aG 24 ?_);refine wpList_load_row rfl 24 _ rfl Y rfl 24 TmW (0,0) _ HY5.out Tryz.underlying24 rfl mX ?_)
  | ((with_reducible refine cJ 73 ?_);refine bG rfl 73 _ rfl _ rfl _ aL5 ?_)
  | ((with_reducible refine aKL 38 ?_);refine wpList_buildSlice rfl 38 73 1 _ rfl #[.int .u16 1,.int .u32 5,.bool false,.bool true,.bool false] i3 (.agg SUZ) Tryz.underlying38 I3.out.1 I3.out.2.1 (by rw[I3.out.2.2.1];decide) (by rw[I3.out.2.2.1];decide) (by rw[I3.out.2.2.1,Array.toList_map];exact aIV _ _ _ _ _) ?_
     have hq6:=heap_alloc_new w5 (.cells #[.int .u16 1,.int .u32 5,.bool false,.bool true,.bool false] 73)
     have hx6:Ext w5 (w5.alloc (.cells #[.int .u16 1,.int .u32 5,.bool false,.bool true,.bool false] 73)):=(Ext.refl _).alloc _
     obtain⟨V,hV⟩:∃Z,w5.heap.size=Z:=⟨_,rfl⟩
     rw[hV]at hq6 ⊢
     obtain⟨w6,hw6⟩:∃W,w5.alloc (.cells #[.int .u16 1,.int .u32 5,.bool false,.bool true,.bool false] 73)=W:=⟨_,rfl⟩
     rw[hw6]at hq6 hx6 ⊢
     have HX6:=hD (HX5.out.trans hx6)
     have HQ6:=hD hq6
     clear hw6 hV hx6 hq6 HX5 HY5))
 refine (nP 7 0 20 2 15 6 true (.slice (some ⟨V,0,none⟩) 1 1) [⟨1,5,false,true,false⟩] w6 ⟨_,1,rfl,by decide,fun _=>⟨V,0,rfl,aC HQ6.out,by decide,by decide,fun i hi=>?hr⟩⟩ (by decide) (by decide) (by decide) (fun p hp=>by
  obtain rfl:p=⟨1,5,false,true,false⟩:=by simpa using hp
  exact⟨by decide,by decide,by decide⟩) rfl rfl rfl rfl).mono ?_
 case hr =>
  obtain rfl:i=0:=by have h1:i<1:=hi;omega
  intro j v hv
  rw[show(0+0*5+j)=j from by omega,bA HQ6.out,List.getElem?_toArray]
  exact hv
 rintro e w7 ⟨c,ok,rfl,hok,hnew,hx7⟩
 obtain rfl:ok=true:=hok.2 (aAM (by decide))
 have HSZ:=hD hnew.sz
 rcases hnew with ⟨-,u,hc,hown⟩|⟨h,-⟩
 case inr=>cases h
 rw[aL6]at hown hc
 have HC:=hD hc
 have HO7:=hD hown
 have HX7:=hD hx7
 clear hok hown hx7 HQ6 hc
 go_wp2_with (first
  | fail
  | ((with_reducible refine bS 35 ?_);refine b6 rfl 35 rfl oR jK ?_
     intro X w8 hq hsz hx)
  | ((with_reducible refine aD 35 ?_);refine nQ rfl rfl 35 _ _ rfl X c oR 35 rfl rfl hq HSZ.out.1 fP HSZ.out.2 ?_
     intro w9 hq9 hm9
     have HQ9:=hD hq9
     have HO9:=hD (lB (j2 HO7.out hx) hm9 (fun g h1 h2=>by have h3:g=X:=h2;have h4:=(gO HO7.out h1).2;omega))
     have HX9:=hD (show Ext w6 w9 from HX7.out.trans (hx.mutE hm9 (fun g hg h=>by have h2:g=X:=h;omega)))
     have HXN:=hD (show w6.heap.size≤X from by have:=HX7.out.size;omega)
     clear hq hsz hx hq9 hm9 HO7 HX7))
 obtain⟨g,hB⟩:=aFN (N:=fun n=>w6.heap.size≤n) (B:=zd) (HC.out▸HQ9.out) HO9.out (by decide) (fun n hn=>hn) HXN.out ⟨rfl,rfl,rfl,rfl⟩
 clear HQ9 HO9 HXN HC HSZ
 obtain⟨N,hN⟩:∃N,w6.heap.size=N:=⟨_,rfl⟩
 rw[hN]at hB
 have HN9:=hD (show N≤w9.heap.size from by rw[←hN];exact HX9.out.size)
 refine(qB (k:=0) hB aL3 (by decide) (by decide) true).mono ?_
 rintro e w10 ⟨d,B',rfl,hB10,hm10,hR⟩
 rcases hR with ⟨h,-⟩|⟨-,rfl,rfl⟩
 ·exact absurd h (by decide +kernel)
 clear hB
 go_wp2_with fail
 refine(aLZ (fun n hn=>by have h1:=HN9.out;have h2:=hm10.size;show N≤n;omega) hB10).mono ?_
 rintro e w11 ⟨k,rfl,hB11,hz6,hm11⟩
 obtain⟨cap,c17,hc1,hc2⟩:=BrG.cell17 hB11 hz6
 rw[show(zs 6).np=1 from rfl]at c17 hc1
 have c87:w11.cell? ⟨g,87,none⟩=some (.int .i64 4):=(BrG.cellg hB11 (i:=87) (by decide)).trans rfl
 have c27:w11.cell? ⟨g,27,none⟩=some (.bool true):=(BrG.cellg hB11 (i:=27) (by decide)).trans rfl
 have HE:=hD (show Ext w w11 from(HX6.out.trans HX9.out).mutE (hm10.trans hm11) (fun j hj h=>by have h2:N≤j:=h;have h3:=HX6.out.size;omega))
 clear hB10 hB11 hm10 hm11 hz6
 go_wp2_with fail
 go_ret
 exact⟨rfl,HE.out⟩
def dwn(n:Int):Int:=if 0<n then n - 1 else n
theorem aH0(B:Br)(k j:Nat):(jS B k j).hd=B.hd:=by unfold jS;split<;>rfl
theorem aFO(B:Br)(k j:Nat):(jS B k j).ps.length=B.ps.length:=by unfold jS;split<;>simp
theorem vR(B:Br)(k:Nat):∀j,(eN B k j).hd=B.hd
 | 0=>rfl
 | j+1=>(aH0 _ _ _).trans (vR B k j)
theorem rV(B:Br)(k:Nat):∀j,(eN B k j).ps.length=B.ps.length
 | 0=>rfl
 | j+1=>(aFO _ _ _).trans (rV B k j)
theorem vS(B:Br):∀n,(eO B n).hd=B.hd
 | 0=>rfl
 | n+1=>(vR _ _ _).trans (vS B n)
theorem aFP(B:Br):(iE B).np=B.np:=jT B _
theorem aFQ{B:Br}(ho:B.ok):(iE B).ok:=mN ho _ (Nat.le_refl _)
theorem aCQ(B:Br)(k j:Nat):(jS B k j).no=B.no∧(jS B k j).os=B.os∧(jS B k j).nf=B.nf∧(jS B k j).fl=B.fl:=by
 unfold jS
 split<;>exact⟨rfl,rfl,rfl,rfl⟩
theorem qC(B:Br)(k:Nat):∀j,(eN B k j).no=B.no∧(eN B k j).os=B.os∧(eN B k j).nf=B.nf∧(eN B k j).fl=B.fl
 | 0=>⟨rfl,rfl,rfl,rfl⟩
 | j+1=>by
  obtain⟨a,b,c,d⟩:=aCQ (eN B k j) k j
  obtain⟨a',b',c',d'⟩:=qC B k j
  exact⟨a.trans a',b.trans b',c.trans c',d.trans d'⟩
theorem aH1(B:Br)(k j i:Nat)(h:k*89+89≤B.ps.length)(hj:j<9)(hc:B.ps[k*89+(6+j)]?=some (.int .i64 (B.gi k (6+j)))):(jS B k j).ps[i]?=if i=k*89+(6+j)then some (.int .i64 (dwn (B.gi k (6+j))))else B.ps[i]?:=by
 unfold jS dwn
 by_cases h0:0<B.gi k (6+j)
 ·rw[if_pos h0,if_pos h0]
  show(B.ps.set _ _)[i]?=_
  by_cases e:i=k*89+(6+j)
  ·rw[if_pos e,e,List.getElem?_set_self (by omega)]
  ·rw[if_neg e,List.getElem?_set_ne (by omega)]
 ·rw[if_neg h0,if_neg h0]
  by_cases e:i=k*89+(6+j)
  ·rw[if_pos e,e,hc]
  ·rw[if_neg e]
theorem vT{B:Br}(ho:B.ok){k:Nat}(hk:k<B.np):∀j,j≤9→∀i,(eN B k j).ps[i]?=if k*89+6≤i∧i<k*89+6+j then some (.int .i64 (dwn (B.gi k (i - k*89))))else B.ps[i]?
 | 0,_,i=>by rw[if_neg (by omega)];rfl
 | j+1,hj,i=>by
  have ih:=vT ho hk j (by omega)
  have okj:=mM ho hk j (by omega)
  have hkj:k<(eN B k j).np:=by rw[kS];exact hk
  show(jS (eN B k j) k j).ps[i]?=_
  rw[aH1 _ _ _ _ (by rw[rV];exact fH ho hk) (by omega) (okj.gi hkj (6+j) (aD5 j (by omega)))]
  have hg:(eN B k j).gi k (6+j)=B.gi k (6+j):=by
   unfold Br.gi
   rw[ih,if_neg (by omega)]
  rw[hg,ih]
  by_cases e:i=k*89+(6+j)
  ·rw[if_pos e,if_pos (by omega),show i - k*89=6+j by omega]
  ·rw[if_neg e]
   by_cases a:k*89+6≤i∧i<k*89+6+j
   ·rw[if_pos a,if_pos (by omega)]
   ·rw[if_neg a,if_neg (by omega)]
theorem aFR{A B:Br}{k j:Nat}(h:A.ps[k*89+j]?=B.ps[k*89+j]?):A.gi k j=B.gi k j:=by unfold Br.gi;rw[h]
theorem vU{B:Br}(ho:B.ok):∀n,n≤B.np→∀k j,k<B.np→j<89→(eO B n).ps[k*89+j]?=if k<n∧6≤j∧j<15 then some (.int .i64 (dwn (B.gi k j)))else B.ps[k*89+j]?
 | 0,_,k,j,_,_=>by
  rw[if_neg (by omega)]
  rfl
 | n+1,hn,k,j,hk,hj=>by
  have ih:=vU ho n (by omega)
  have okn:=mN ho n (by omega)
  have hnn:n<(eO B n).np:=by rw[jT];omega
  show(eN (eO B n) n 9).ps[k*89+j]?=_
  rw[vT okn hnn 9 (Nat.le_refl _)]
  by_cases e:k=n
  ·subst e
   have hg:(eO B k).gi k j=B.gi k j:=aFR (by rw[ih k j hk hj,if_neg (by omega)])
   by_cases h:6≤j∧j<15
   ·rw[if_pos (by omega),if_pos (by omega),show k*89+j - k*89=j by omega,hg]
   ·rw[if_neg (by omega),if_neg (by omega),ih k j hk hj,if_neg (by omega)]
  ·rw[if_neg (by omega),ih k j hk hj]
   by_cases h:k<n∧6≤j∧j<15
   ·rw[if_pos h,if_pos (by omega)]
   ·rw[if_neg h,if_neg (by omega)]
theorem qD{B:Br}(ho:B.ok){k j:Nat}(hk:k<B.np)(hj:j<89):(iE B).ps[k*89+j]?=if 6≤j∧j<15 then some (.int .i64 (dwn (B.gi k j)))else B.ps[k*89+j]?:=by
 unfold iE
 rw[vU ho B.np (Nat.le_refl _) k j hk hj]
 by_cases h:6≤j∧j<15
 ·rw[if_pos ⟨hk,h.1,h.2⟩,if_pos h]
 ·rw[if_neg (fun h2=>h ⟨h2.2.1,h2.2.2⟩),if_neg h]
theorem qE(B:Br):∀n,(eO B n).no=B.no∧(eO B n).os=B.os∧(eO B n).nf=B.nf∧(eO B n).fl=B.fl
 | 0=>⟨rfl,rfl,rfl,rfl⟩
 | n+1=>by
  obtain⟨a,b,c,d⟩:=qC (eO B n) n 9
  obtain⟨a',b',c',d'⟩:=qE B n
  exact⟨a.trans a',b.trans b',c.trans c',d.trans d'⟩
theorem aAN{B:Br}(ho:B.ok){k:Nat}(hk:k<B.np){j:Nat}(hj:j<6∨15≤j):pc (iE B) k j=pc B k j:=by
 by_cases h:j<89
 ·rw[jZ h,jZ h,qD ho hk h,if_neg (by omega)]
 ·rw[iB (by omega),iB (by omega)]
theorem KI.tick{n M:Nat}{B:Br}(h:KI n M (fun _=>0) B)(h0:B.no=0):KI n M (fun _=>0) (iE B):=by
 have e:∀k j,k<n→(j<6∨15≤j)→j<89→(iE B).gi k j=B.gi k j:=fun k j hk hj h2=>by
  unfold Br.gi
  rw[qD h.ok (by rw[h.np];exact hk) h2,if_neg (by omega)]
 have e14:∀k,k<n→(iE B).gi k 14=dwn (B.gi k 14):=fun k hk=>by
  unfold Br.gi
  rw[qD h.ok (by rw[h.np];exact hk) (by decide),if_pos (by decide)]
  rfl
 have hd:(iE B).hd=B.hd:=vS B _
 have hh:∀j,(iE B).hi j=B.hi j:=fun j=>by unfold Br.hi;rw[hd]
 obtain⟨r1,r2,r3,r4⟩:=qE B B.np
 refine⟨aFQ h.ok,(aFP B).trans h.np,by rw[hh,hh,hh,hh,hh];exact h.hs,by rw[hh];exact h.h13,fun k hk=>?_,⟨[],⟨?_,fun i x hx=>(by simp at hx)⟩,fun x hx=>(by simp at hx),fun k hk=>?_⟩,?_⟩
 ·have hp:=h.pt k hk
  unfold PI at hp ⊢
  rw[e14 k hk,e k 64 hk (by omega) (by decide),e k 65 hk (by omega) (by decide),e k 66 hk (by omega) (by decide),e k 67 hk (by omega) (by decide),e k 78 hk (by omega) (by decide),e k 86 hk (by omega) (by decide),e k 82 hk (by omega) (by decide)]
  unfold dwn
  split<;>omega
 ·exact h0.symm.trans r1.symm
 ·have hp:=(h.pt k hk).1
  rw[e14 k hk]
  unfold dwn
  split<;>simp<;>omega
 ·exact Nat.le_trans (Nat.le_of_eq r3) h.nf
theorem yU{N:Nat→Prop}{X g:Nat}{w:World}{B:Br}(h:WB N X g B w)(ho:B.ok)(hn:B.np<1000):Calls Tryz.prog 19 #[.pointer (some ⟨X,0,none⟩)] w fun e w'=>e=.returned (.tuple #[])∧WB N X g (iE B) w'∧Mut (fun n=>N n) w w':=by
 have HC:=hD (aD6 w _ X g B h ho hn)
 clear h
 go_enter Tryz.func19,Tryz.ntmps19
 go_wp2_with fail
 refine HC.out.mono ?_
 rintro e w' ⟨rfl,hB,hm⟩
 have HB:=hD (show WB N X g (iE B) w' from BrG.mono hB (fun n hn=>⟨hn.1,nL hn.2 hm.size⟩))
 have HM:=hD (hm.mono (fun n _ hn=>hn.1))
 clear hB hm HC
 go_wp2_with fail
 go_end0
 exact⟨rfl,HB.out,HM.out⟩
theorem aCR{N:Nat→Prop}{X g k:Nat}{w:World}{B:Br}(h:WB N X g B w)(ho:B.ok)(hk:k<B.np)(hn:B.np≤1000):Calls Tryz.prog 25 #[.pointer (some ⟨X,0,none⟩),.int .i64 (k:Int)] w (So N X g (fun _ B'=>B'=B∨B'=B.setp k 30 (.bool true)) w):=by
 have c1:=(BrG.cellX h ho (i:=1) (by omega)).trans (ho.hb 1 rfl)
 have f2:w.frozen? ⟨g,k*89+22+8,none⟩=false:=BrG.frozen h (k*89+22+8)
 have c2:w.cell? ⟨g,k*89+22+8,none⟩=some (.bool (B.gb k 30)):=(BrG.cellg h (i:=k*89+30) (by omega)).trans (ho.gb hk 30 rfl)
 have HP:=hD (vQ h ho hk hn)
 have H:=hD h
 obtain⟨x,hx⟩:∃x,B.hb 1=x:=⟨_,rfl⟩
 rw[hx]at c1
 clear h hx
 go_enter Tryz.func25,Tryz.ntmps25
 go_wp2_with fail
 refine HP.out.mono ?_
 rintro e w' ⟨rfl,rfl⟩
 clear HP
 cases x
 ·go_wp2_with fail
  go_ret
  exact⟨_,_,rfl,H.out,Mut.refl _ w,.inl rfl⟩
 ·go_wp2_with fail
  go_ret
  exact⟨_,_,rfl,WB.setp (j:=30) H.out hk (by decide) (.bool true),(Mut.refl _ w).setCell (.inl (BrG.F2 H.out).1) _,.inr rfl⟩
theorem KI.chk{n M:Nat}{s:Nat→Nat}{B:Br}(h:KI n M s B){k:Nat}(hk:k<n)(b:Bool):KI n M s (B.setp k 30 (.bool b)):=by
 have hkp:k<B.np:=by rw[h.np];exact hk
 exact h.fr0 ((Fr.rf _ B).setp (by decide) (by decide)) (h.ok.setB (k:=k) hkp 30 b rfl) rfl
theorem tC{c d:Pc}(h:WW c)(hd:∀j,(j=15∨j=18∨j=19∨j=26∨j=28∨j=36)∨(j=43∨j=44∨j=50∨j=86∨j=87∨j=88)→d j=c j)(h35:gB d 35=true→gB d 2=true∧gB c 2=true):ZZ d:=by
 obtain⟨⟨ha,hy,hq,-,h50,h18⟩,-⟩:=h
 have e:(gB d 26=gB c 26∧gB d 28=gB c 28∧gB d 36=gB c 36∧gB d 43=gB c 43∧gB d 44=gB c 44∧gB d 50=gB c 50)∧gI d 15=gI c 15∧gI d 18=gI c 18∧gI d 19=gI c 19∧gI d 86=gI c 86∧gI d 87=gI c 87∧gI d 88=gI c 88:=by
  unfold gB gI
  rw[hd 15 (by omega),hd 18 (by omega),hd 19 (by omega),hd 26 (by omega),hd 28 (by omega),hd 36 (by omega),hd 43 (by omega),hd 44 (by omega),hd 50 (by omega),hd 86 (by omega),hd 87 (by omega),hd 88 (by omega)]
  exact⟨⟨rfl,rfl,rfl,rfl,rfl,rfl⟩,rfl,rfl,rfl,rfl,rfl,rfl⟩
 obtain⟨⟨b26,b28,b36,b43,b44,b50⟩,i15,i18,i19,i86,i87,i88⟩:=e
 refine⟨?_,?_,?_,?_,fun h=>⟨(h35 h).1,?_⟩,?_⟩
 ·unfold AI RS at ha ⊢
  rw[b26,b28,b43,b44,b50,i15,i18,i19,i86,i87,i88]
  exact ha
 ·unfold QQ at hq ⊢
  rw[b43,b44]
  exact hq
 ·rw[b36]
  exact hy.2.1
 ·rw[b50]
  exact h50
 ·have h2:=(h35 h).2
  rw[i18]
  have h3:=hy.2.2.1
  rw[h2]at h3
  unfold AI at ha
  grind
 ·rw[i18]
  exact h18
theorem oU{c:Pc}(h:WW c):ZZ c:=tC h (fun _ _=>rfl) (fun h2=>by rw[h.1.2.1.1]at h2;cases h2)
theorem aH2{B:Br}(ho:B.ok){k:Nat}(hk:k<B.np)(h:WW (pc B k)):ZZ (pc (iE B) k) :=
 tC h (fun j hj=>aAN ho hk (by omega)) (fun h2=>by
  unfold gB at h2
  rw[aAN ho hk (by decide)]at h2
  have h3:=h.1.2.1.1
  unfold gB at h3
  rw[h3]at h2
  cases h2)
theorem aAO{B:Br}{k i j:Nat}{v:Value}(hl:Lk k B)(hj:j=2∨j=30)(h:WW (pc B i)):ZZ (pc (B.setp k j v) i):=by
 by_cases hik:i=k
 ·subst hik
  rw[a8 hl (by omega)]
  refine tC h (fun x hx=>a5 _ _ (by omega)) (fun h2=>?_)
  rw[bE,if_neg (by omega),h.1.2.1.1]at h2
  cases h2
 ·rw[aK hik (by omega)]
  exact oU h
theorem aH3{n M:Nat}{s:Nat→Nat}{B:Br}(hK:KI n M s B)(q:Int){m:List Value}(hm:Typed ML m){i:Nat}(h:WW (pc B i)):ZZ (pc (kH B q m).2 i):=by
 unfold kH
 split
 ·rename_i hq
  split
  ·exact oU h
  ·rename_i hb
   obtain⟨k,hk⟩:∃k,q.toNat=k:=⟨_,rfl⟩
   rw[hk]at hq hb ⊢
   have hl:Lk k B:=mT hK.ok hq.2
   have hml:m.length=17:=hm.1
   have hb2:B.gb k 2=true:=by
    cases h:B.gb k 2
    ·rw[h]at hb
     simp at hb
    ·rfl
   have cell:∀j,j<89→(i≠k∨j≠35)→(j<51∨68≤j)→(fE B k m).ps[i*89+j]?=B.ps[i*89+j]?:=fun j hj hne h51=>by
    show((B.setr k 51 m).ps.set (k*89+35) _)[i*89+j]?=_
    unfold Lk at hl
    rw[List.getElem?_set_ne (by omega),rL (by omega),if_neg (by omega)]
   have cellp:∀j,(i≠k∨j≠35)→(j<51∨68≤j)→pc (fE B k m) i j=pc B i j:=fun j hne h51=>by
    by_cases hj:j<89
    ·rw[jZ hj,jZ hj,cell j hj hne h51]
    ·rw[iB (by omega),iB (by omega)]
   show ZZ (pc (fE B k m) i)
   refine tC h (fun j hj=>cellp j (by omega) (by omega)) (fun h2=>?_)
   have e2:gB (pc (fE B k m) i) 2=gB (pc B i) 2:=by
    unfold gB
    rw[cellp 2 (by omega) (by decide)]
   rw[e2]
   by_cases hik:i=k
   ·subst hik
    rw[←cM (by decide),hb2]
    exact⟨rfl,rfl⟩
   ·exfalso
    have e:gB (pc (fE B k m) i) 35=gB (pc B i) 35:=by
     unfold gB
     rw[cellp 35 (by omega) (by decide)]
    rw[e,h.1.2.1.1]at h2
    cases h2
 ·exact oU h
def Br.nil(B:Br):Br:={ B with no:=0,os:=[],nf:=0,fl:=[] }
theorem KI.nil{n M:Nat}{s:Nat→Nat}{B:Br}(h:KI n M s B):KI n 0 (fun _=>0) B.nil :=
 ⟨⟨h.ok.hd,h.ok.ps,⟨rfl,fun i hi=>absurd hi (Nat.not_lt_zero _)⟩,⟨rfl,fun i hi=>absurd hi (Nat.not_lt_zero _)⟩⟩,h.np,h.hs,h.h13,h.pt,⟨[],⟨rfl,fun i x hx=>(by simp at hx)⟩,fun x hx=>(by simp at hx),fun k hk=>(by have:=(h.pt k hk).1;show((0+0:Nat):Int)≤B.gi k 14;omega)⟩,Nat.le_refl 0⟩
theorem KI.nil0{n M:Nat}{s:Nat→Nat}{B:Br}(h:KI n M s B):KI n M (fun _=>0) { B with no:=0,os:=[] } :=
 ⟨⟨h.ok.hd,h.ok.ps,⟨rfl,fun i hi=>absurd hi (Nat.not_lt_zero _)⟩,h.ok.fl⟩,h.np,h.hs,h.h13,h.pt,⟨[],⟨rfl,fun i x hx=>(by simp at hx)⟩,fun x hx=>(by simp at hx),fun k hk=>(by have:=(h.pt k hk).1;show((0+0:Nat):Int)≤B.gi k 14;omega)⟩,h.nf⟩
theorem yV(n:Nat)(s:Nat→Nat):Keeps n s (fun _=>True):=⟨fun _ _ _ _ _=>trivial,fun _ _ _ _ _ _ _ _ _=>trivial⟩
end Go.Proofs.YtpanapepcbbagaaGreat
namespace Go.Proofs.YtpanapepcbbagaaGreat
open Go.RowKit Go.BigFrame Go.WideShapes Go.ChangeShapes Go.Deep
variable {c d:Pc} {n M:Nat} {s:Nat→Nat} {B:Br}
def DN(c:Pc):Prop:=AY c∧gB c 2=false∧gI c 87=0∧gI c 88=0
theorem aFS:CP DN:=fun c d h hp=>by
 obtain⟨⟨b2,-⟩,-,-,-,-,-,-,i87,i88⟩:=aFD h
 exact⟨aFE _ _ h hp.1,b2.trans hp.2.1,i87.trans hp.2.2.1,i88.trans hp.2.2.2⟩
theorem aKM(h:DN c):eX c=0:=by
 obtain⟨⟨ha,y1,y2,y3,y4⟩,h2,-,-⟩:=h
 unfold AI at ha
 unfold eX bX
 grind
theorem ph5:Ph (fun _=>DN):=by
 refine⟨fun _ _=>aFS,fun _ _ c h=>h.1.1,fun c d h h2=>oS aFS h.1.2 h2 h,fun _ _ _ h=>h,fun c d h h2=>?_,fun c d e h h44 h50 h2=>?_,fun _ h _=>h⟩
 ·obtain⟨d0,h1,h3⟩:=h2
  have h0:=aKM h
  rcases h3 with ⟨-,rfl⟩|⟨h3,-⟩|⟨h3,-⟩|⟨h3,-⟩|⟨h3,-⟩
  ·exact aFS _ _ h1 h
  all_goals omega
 ·obtain⟨t1,-,-,-,-,-,-,t8⟩:=vP h.1.1 h.1.2 h44 h50 h2
  obtain⟨⟨b2,-⟩,-,-,-,-,i88⟩:=kts h2.kt
  exact⟨t1,b2.trans h.2.1,t8.trans (i88.trans h.2.2.2),i88.trans h.2.2.2⟩
theorem aKN(h:DN c)(h2:SeR c d):DN d:=by
 have h0:=(yP h.1.1 h.1.2 h2).1
 obtain⟨d0,r,u,h1,rfl,-,-,hr,-,-⟩:=h2
 obtain⟨⟨b2,-⟩,-,-,-,-,-,-,i87,i88⟩:=aFD h1
 refine⟨⟨h0.1,h0.2.1⟩,?_,?_,?_⟩
 ·rw[b2]
  simp only[bE,Nat.reduceEqDiff,if_false]
  exact h.2.1
 ·rw[i87]
  simp only[aV,Nat.reduceEqDiff,if_false]
  exact h.2.2.1
 ·rw[i88]
  simp only[aV,Nat.reduceEqDiff,if_false,if_true,aA6]
  exact hr.2 (h.1.2.2.2.1.2 h.2.1)
theorem aKO(B:Br):(gA B).2.no=B.no:=by
 unfold gA
 split
 ·exact(nJ _ _).1.trans (kW B 43 _ _).1
 ·exact(kW B 43 _ _).1
theorem aL7{k:Nat}(h:B.gi k 87=0):(wC B k).2.no=B.no:=by
 have e:fR (B.gb k 45) (B.gi k 87)=false:=by
  rw[h]
  cases B.gb k 45<;>rfl
 unfold wC
 split
 ·unfold gM
  split<;>rfl
 ·split
  ·rename_i h1 h2
   unfold kV at h2
   rw[e]at h2
   simp at h2
   (repeat' split at h2)<;>omega
  ·rfl
theorem aKP{j k:Nat}(hj:j<7):(fF j B k).2.no=B.no:=by
 rcases(by omega:j=0∨j=1∨j=2∨j=3∨j=4∨j=5∨j=6)with rfl|rfl|rfl|rfl|rfl|rfl|rfl
 ·exact(aIH B k).no
 ·exact(aET B k).no
 ·exact(zQ B k).no
 ·rfl
 ·exact(aII B k).no
 ·exact(aEU B k).no
 ·exact(aEV B k).no
def aIY(n:Nat)(B:Br):Prop:=B.no=0∧∀i,i<n→DN (pc B i)
theorem aFT(hn:n<1000):Keeps n s (aIY n):=by
 refine⟨fun M B hK ha h=>?_,fun M k j B hK hk hj ha h=>?_⟩
 ·have hR:∀k,k<B.np→0≤B.gi k 78∧B.gi k 78≤65535:=fun k hk=>by
   have:=hK.pt k (by rw[←hK.np];exact hk)
   unfold PI at this
   omega
  refine⟨(aKO B).trans h.1,fun i hi=>?_⟩
  rcases s9 hK.ok hK.np hn hR (fun i hi=>(ha i hi).2.2.1)with ⟨e,-⟩|⟨-,e⟩
  ·rw[e]
   exact h.2 i hi
  ·exact aKN (h.2 i hi) (e i hi)
 ·have hP:=aAG ph5 hK hk hj (show PJ (fun _=>DN) n k j B from fun i hi=>⟨fun _=>h.2 i hi,fun _=>h.2 i hi,fun _=>h.2 i hi⟩)
  refine⟨?_,fun i hi=>?_⟩
  ·by_cases h7:j<7
   ·exact(aKP h7).trans h.1
   ·obtain rfl:j=7:=by omega
    exact(aL7 ((gN (by decide)).trans (h.2 k hk).2.2.1)).trans h.1
  ·obtain⟨a,b,c⟩:=hP i hi
   rcases Nat.lt_trichotomy i k with e|e|e
   ·exact a e
   ·exact b e
   ·exact c e
theorem aL8{rst:Bool}{P:List Pt}(hP:P.length=n){i:Nat}(hi:i<n):DN (pc (NB rst P) i):=by
 subst hP
 have cell:∀j x,j<89→(pL rst 20 2 15 (P.getD i default))[j]?=some x→pc (NB rst P) i j=some x:=fun j x hj hx=>by
  rw[jZ hj]
  exact aAD hi hx
 have b:∀j z,j<89→(pL rst 20 2 15 (P.getD i default))[j]?=some (.bool z)→gB (pc (NB rst P) i) j=z:=fun j z hj hx=>by
  unfold gB
  rw[cell j _ hj hx]
 have g:∀j z,j<89→(pL rst 20 2 15 (P.getD i default))[j]?=some (.int .i64 z)→gI (pc (NB rst P) i) j=z:=fun j z hj hx=>by
  unfold gI
  rw[cell j _ hj hx]
 unfold DN AY AI YY RS
 rw [b 2 false (by decide) rfl,b 26 false (by decide) rfl,b 28 false (by decide) rfl,b 35 false (by decide) rfl,b 36 false (by decide) rfl,b 43 true (by decide) rfl,b 44 false (by decide) rfl,b 50 false (by decide) rfl,
  g 6 3 (by decide) rfl,g 15 0 (by decide) rfl,g 18 0 (by decide) rfl,g 19 0 (by decide) rfl,g 86 0 (by decide) rfl,g 87 0 (by decide) rfl,g 88 0 (by decide) rfl]
 simp
theorem aKQ(j k:Nat)(hj:j<8):(fF j B.nil k).1=(fF j B k).1:=by
 rcases(by omega:j=0∨j=1∨j=2∨j=3∨j=4∨j=5∨j=6∨j=7)with rfl|rfl|rfl|rfl|rfl|rfl|rfl|rfl
 ·show(tD B.nil k).1=(tD B k).1
  unfold tD
  simp only[apply_ite Prod.fst]
  rfl
 ·show(gD B.nil k).1=(gD B k).1
  unfold gD
  simp only[apply_ite Prod.fst]
  rfl
 ·show(fM B.nil k).1=(fM B k).1
  unfold fM
  simp only[apply_ite Prod.fst]
  rfl
 ·rfl
 ·show(oM B.nil k).1=(oM B k).1
  unfold oM mO
  simp only[apply_ite Prod.fst]
  rfl
 ·show(gT B.nil k).1=(gT B k).1
  unfold gT
  simp only[apply_ite Prod.fst]
  rfl
 ·show(jN B.nil k).1=(jN B k).1
  unfold jN pJ
  simp only[apply_ite Prod.fst]
  rfl
 ·show(wC B.nil k).1=(wC B k).1
  unfold wC
  simp only[apply_ite Prod.fst]
  rfl
theorem AtRest.nil(hn:n<1000)(h:AtRest n s M B):AtRest n (fun _=>0) 0 B.nil:=by
 have hK:=h.1.nil
 refine⟨hK,h.2.1,rS hK (fun i hi=>(h.ww hn hi).1.1.2.2.1.1),fun k j hk hj=>?_⟩
 refine aFH hK hk hj (h.2.1 k hk).1 ?_
 rw[aKQ j k hj,h.2.2.2 k j hk hj]
theorem AtRest.mono(h:AtRest n s M B){M':Nat}(hM:M≤M'):AtRest n s M' B:=⟨h.1.mono hM,h.2⟩
def RQ(n:Nat)(B:Br):Prop:=AtRest n (fun _=>0) 50000 B∧B.no=0
structure rW (n:Nat) (J:Br→Prop):Prop where
 run:Keeps n (fun _=>0) J
 tick:∀B,RQ n B→J B→J (iE B)
 en:∀B k b,RQ n B→k<n→J B→J (B.setp k 2 (.bool b))
 take:∀B q m,RQ n B→MT m→J B→J (kH B q m).2
 chk:∀B k,RQ n B→k<n→J B→J (B.setp k 30 (.bool true))
 nil:∀B,J B→J B.nil
theorem yW(n:Nat):rW n (fun _=>True):=⟨yV n _,fun _ _ _=>trivial,fun _ _ _ _ _ _=>trivial,fun _ _ _ _ _ _=>trivial,fun _ _ _ _ _=>trivial,fun _ _=>trivial⟩
theorem Keeps.and{I J:Br→Prop}(h:Keeps n s I)(h':Keeps n s J):Keeps n s (fun B=>I B∧J B) :=
 ⟨fun M B a b c=>⟨h.sel M B a b c.1,h'.sel M B a b c.2⟩,fun M k j B a b c d e=>⟨h.st M k j B a b c d e.1,h'.st M k j B a b c d e.2⟩⟩
def AR0(n:Nat)(J:Br→Prop)(B:Br):Prop:=KI n 50000 (fun _=>0) B∧(∀i,i<n→ZZ (pc B i))∧J B
theorem RQ.tick{J:Br→Prop}(hn:n<1000)(hJ:rW n J)(h:RQ n B)(h':J B):AR0 n J (iE B) :=
 ⟨h.1.1.tick h.2,fun i hi=>aH2 h.1.1.ok (by rw[h.1.1.np];exact hi) (h.1.ww hn hi).1,hJ.tick B h h'⟩
theorem RQ.en{J:Br→Prop}(hn:n<1000)(hJ:rW n J)(h:RQ n B)(h':J B){k:Nat}(hk:k<n)(b:Bool):AR0 n J (B.setp k 2 (.bool b)) :=
 ⟨h.1.1.en hk b,fun i hi=>aAO (mT h.1.1.ok (by rw[h.1.1.np];exact hk)) (.inl rfl) (h.1.ww hn hi).1,hJ.en B k b h hk h'⟩
theorem RQ.chk{J:Br→Prop}(hn:n<1000)(hJ:rW n J)(h:RQ n B)(h':J B){k:Nat}(hk:k<n):AR0 n J (B.setp k 30 (.bool true)) :=
 ⟨h.1.1.chk hk true,fun i hi=>aAO (mT h.1.1.ok (by rw[h.1.1.np];exact hk)) (.inr rfl) (h.1.ww hn hi).1,hJ.chk B k h hk h'⟩
theorem RQ.take{J:Br→Prop}(hn:n<1000)(hJ:rW n J)(h:RQ n B)(h':J B)(q:Int){m:List Value}(hm:MT m):AR0 n J (kH B q m).2 :=
 ⟨h.1.1.take q hm,fun i hi=>aH3 h.1.1 q hm.1 (h.1.ww hn hi).1,hJ.take B q m h hm h'⟩
theorem RQ.same{J:Br→Prop}(hn:n<1000)(h:RQ n B)(h':J B):AR0 n J B:=⟨h.1.1,fun i hi=>oU (h.1.ww hn hi).1,h'⟩
end Go.Proofs.YtpanapepcbbagaaGreat
namespace Go.Proofs.YtpanapepcbbagaaGreat
open Go.RowKit Go.BigFrame Go.WideShapes Go.ChangeShapes Go.Deep
def VB(w:World)(base:Nat)(c:Array Value)(B:Br):Prop :=
 ∃g cap cur s2 s3,c=(B.hd++[.slice (some ⟨g,0,none⟩) B.np cap,s2,s3]).toArray∧base≤g∧w.heap[g]?=some (.cells cur 60 (0,0))∧cur.size=cap*89∧B.np≤cap∧cap≤maxLen∧cur.toList.take (B.np*89)=B.ps∧w.ownsRow base 71 18 s2 B.no B.os∧w.ownsRow base 3 1 s3 B.nf B.fl
theorem vV{w:World}{base m n:Nat}{e:TypeId}{v:Value}{xs:List Value}(h:w.ownsRow 0 e m v n xs)(hb:∀k,v.ownBlock=some k→base≤k):w.ownsRow base e m v n xs:=by
 refine⟨h.1,?_⟩
 rcases h.2 with hn|⟨g,cap,cur,rfl,hb0,rest⟩
 ·exact .inl hn
 ·exact .inr ⟨g,cap,cur,rfl,hb g rfl,rest⟩
theorem jO{w:World}{base m n k:Nat}{e:TypeId}{v:Value}{xs:List Value}(h:w.ownsRow base e m v n xs)(hk:v.ownBlock=some k):base≤k∧k<w.heap.size:=gO h hk
theorem vW{w:World}{base m n:Nat}{e:TypeId}{v:Value}{xs:List Value}(h:w.ownsRow base e m v n xs):w.ownsRow 0 e m v n xs:=by
 refine⟨h.1,?_⟩
 rcases h.2 with hn|⟨g,cap,cur,rfl,hb0,rest⟩
 ·exact .inl hn
 ·exact .inr ⟨g,cap,cur,rfl,Nat.zero_le _,rest⟩
theorem WB.vb{N X g:Nat}{w:World}{B:Br}(h:WB (fun n=>N≤n) X g B w):∃c,w.heap[X]?=some (.cells c 35 (0,0))∧VB w N c B:=by
 obtain⟨h1,h2,cap,cur,s2,s3,a,b,c,d,e,f,p,q,r,s⟩:=h
 exact⟨_,a,g,cap,cur,s2,s3,rfl,h2.1,b,c,d,e,f,vV p (fun k hk=>(r k hk).1),vV q (fun k hk=>(s k hk).1)⟩
theorem VB.wb{w:World}{base X:Nat}{c:Array Value}{B:Br}{N:Nat→Prop}(h:VB w base c B)(hX:w.heap[X]?=some (.cells c 35 (0,0)))(hN:∀n,base≤n→n<w.heap.size→N n)(hNX:N X):∃g,WB N X g B w:=by
 obtain⟨g,cap,cur,s2,s3,rfl,hb,a,b,d,e,f,p,q⟩:=h
 exact⟨g,⟨hNX,aC hX⟩,⟨hN _ hb (aC a),aC a⟩,cap,cur,s2,s3,hX,a,b,d,e,f,vW p,vW q,fun k hk=>⟨hN _ (jO p hk).1 (jO p hk).2,(jO p hk).2⟩,fun k hk=>⟨hN _ (jO q hk).1 (jO q hk).2,(jO q hk).2⟩⟩
theorem VB.mut{w w':World}{base:Nat}{c:Array Value}{B:Br}{F:Nat→Prop}(h:VB w base c B)(hm:Mut F w w')(hF:∀n,base≤n→n<w.heap.size→¬F n):VB w' base c B:=by
 obtain⟨g,cap,cur,s2,s3,rfl,hb,a,b,d,e,f,p,q⟩:=h
 exact⟨g,cap,cur,s2,s3,rfl,hb,(hm.heap (aC a) (hF g hb (aC a))).trans a,b,d,e,f,lB p hm (fun k hk=>hF k (jO p hk).1 (jO p hk).2),lB q hm (fun k hk=>hF k (jO q hk).1 (jO q hk).2)⟩
theorem VB.sz{w:World}{base:Nat}{c:Array Value}{B:Br}(h:VB w base c B)(ho:B.ok):c.size=20∧c.toList.all (·.oneCell')=true:=by
 obtain⟨g,cap,cur,s2,s3,rfl,hb,a,b,d,e,f,p,q⟩:=h
 obtain⟨a2,c2,rfl⟩:=fB p
 obtain⟨a3,c3,rfl⟩:=fB q
 have hl:B.hd.length=17:=ho.hd.1
 have h1:B.hd.all (·.oneCell')=true:=List.all_eq_true.2 (fun u hu=>ho.hd.one u hu)
 refine⟨by simp[hl],?_⟩
 show(B.hd++[Value.slice (some ⟨g,0,none⟩) B.np cap,Value.slice a2 B.no c2,Value.slice a3 B.nf c3]).all (·.oneCell')=true
 rw[List.all_append,h1]
 rfl
theorem aH4{rst:Bool}{P:List Pt}(h:P.length≤32):lM (NB rst P):=(pZ (id:=7) (hold:=6) (rst:=rst) (P:=P) h).2 (by omega)
theorem aL9{w w':World}{v:Value}{P:List Pt}(h:PtsAt w v P)(hx:Ext w w'):PtsAt w' v P:=RowAt.ext h hx
theorem yX(m:List Value)(hm:Typed ML m)(w:World):Calls Tryz.prog 15 #[.agg m.toArray] w fun e w'=>∃d,e=.returned (.bool d)∧(d=true→MT m)∧Ext w w':=by
 have hml:m.length=17:=hm.1
 obtain⟨a,ha,-⟩:=hm.int 13 .i64 rfl
 obtain⟨b,hb,-⟩:=hm.int 14 .i64 rfl
 obtain⟨c,hc,-⟩:=hm.int 15 .i64 rfl
 obtain⟨d,hd,-⟩:=hm.int 16 .i64 rfl
 have HC:=hD (And.intro ha (And.intro hb (And.intro hc hd)))
 have HT:=hD hm
 obtain⟨x1,h1⟩:∃x,decide (a≥0)=x:=⟨_,rfl⟩
 obtain⟨x2,h2⟩:∃x,decide (a≤256)=x:=⟨_,rfl⟩
 obtain⟨x3,h3⟩:∃x,decide (b≥0)=x:=⟨_,rfl⟩
 obtain⟨x4,h4⟩:∃x,decide (b≤256)=x:=⟨_,rfl⟩
 obtain⟨x5,h5⟩:∃x,decide (c≥0)=x:=⟨_,rfl⟩
 obtain⟨x6,h6⟩:∃x,decide (c≤256)=x:=⟨_,rfl⟩
 obtain⟨x7,h7⟩:∃x,decide (d≥0)=x:=⟨_,rfl⟩
 obtain⟨x8,h8⟩:∃x,decide (d≤256)=x:=⟨_,rfl⟩
 clear ha hb hc hd
 go_enter Tryz.func15,Tryz.ntmps15
 go_upto_region 2 with (first
  | fail
  | ((with_reducible refine bP 46 ?_);refine bQ rfl 46 _ rfl m.toArray rfl ?_
     intro Y w1 hY hsz hx1
     have HR:=hD (show w1.rangeAt Y 13 [.int .i64 a,.int .i64 b,.int .i64 c,.int .i64 d]from fun j v hv=>by
      rw[bA hY,List.getElem?_toArray]
      match j,hv with
      | 0,hv=>exact HC.out.1.trans hv
      | 1,hv=>exact HC.out.2.1.trans hv
      | 2,hv=>exact HC.out.2.2.1.trans hv
      | 3,hv=>exact HC.out.2.2.2.trans hv
      | j+4,hv=>simp at hv)
     have HX:=hD hx1
     clear hY hsz hx1)
  | ((with_reducible refine aG 24 ?_);refine wpList_load_mid rfl 24 _ rfl Y 13 rfl [.int .i64 a,.int .i64 b,.int .i64 c,.int .i64 d] _ HR.out Tryz.underlying24 rfl (by kernel_rfl) ?_)
  | ((with_reducible refine bS 24 ?_);refine b6 rfl 24 rfl TmZ aAL ?_
     intro T w2 hq hsz hx)
  | ((with_reducible refine aD 24 ?_);refine dS rfl rfl 24 _ _ rfl T 0 _ #[.int .i64 a,.int .i64 b,.int .i64 c,.int .i64 d] TmZ #[.int .i64 a,.int .i64 b,.int .i64 c,.int .i64 d] 24 rfl rfl rfl hq (by exact(by decide:0+4≤4)) (by kernel_rfl) rfl rfl ?_
     intro w3 hq3 hm3
     have t0:w3.cell? ⟨T,0,none⟩=some (.int .i64 a):=by rw[bA hq3];rfl
     have t1:w3.cell? ⟨T,1,none⟩=some (.int .i64 b):=by rw[bA hq3];rfl
     have t2:w3.cell? ⟨T,2,none⟩=some (.int .i64 c):=by rw[bA hq3];rfl
     have t3:w3.cell? ⟨T,3,none⟩=some (.int .i64 d):=by rw[bA hq3];rfl
     have HX3:=hD (HX.out.trans (hx.mutE hm3 (fun g hg h=>by have h2:g=T:=h;omega)))
     clear hq hsz hx hq3 hm3))
 cases x1
 ·go_wp2_with fail
  go_ret
  exact⟨_,rfl,(fun h=>by cases h),HX3.out⟩
 cases x2
 ·go_wp2_with fail
  go_ret
  exact⟨_,rfl,(fun h=>by cases h),HX3.out⟩
 cases x3
 ·go_wp2_with fail
  go_ret
  exact⟨_,rfl,(fun h=>by cases h),HX3.out⟩
 cases x4
 ·go_wp2_with fail
  go_ret
  exact⟨_,rfl,(fun h=>by cases h),HX3.out⟩
 cases x5
 ·go_wp2_with fail
  go_ret
  exact⟨_,rfl,(fun h=>by cases h),HX3.out⟩
 cases x6
 ·go_wp2_with fail
  go_ret
  exact⟨_,rfl,(fun h=>by cases h),HX3.out⟩
 cases x7
 ·go_wp2_with fail
  go_ret
  exact⟨_,rfl,(fun h=>by cases h),HX3.out⟩
 have g1:=of_decide_eq_true h1
 have g2:=of_decide_eq_true h2
 have g3:=of_decide_eq_true h3
 have g4:=of_decide_eq_true h4
 have g5:=of_decide_eq_true h5
 have g6:=of_decide_eq_true h6
 have g7:=of_decide_eq_true h7
 have HG:=hD (And.intro g1 (And.intro g2 (And.intro g3 (And.intro g4 (And.intro g5 (And.intro g6 g7))))))
 clear g1 g2 g3 g4 g5 g6 g7
 cases x8
 ·go_wp2_with fail
  go_ret
  exact⟨_,rfl,(fun h=>by cases h),HX3.out⟩
 have H8:=hD (of_decide_eq_true h8)
 go_wp2_with fail
 go_ret
 refine⟨_,rfl,(fun _=>⟨HT.out,fun j hj hj2=>?_⟩),HX3.out⟩
 obtain⟨g1,g2,g3,g4,g5,g6,g7⟩:=HG.out
 have g8:=H8.out
 obtain⟨c1,c2,c3,c4⟩:=HC.out
 rcases(by omega:j=13∨j=14∨j=15∨j=16)with rfl|rfl|rfl|rfl
 ·exact⟨a,c1,g1,g2⟩
 ·exact⟨b,c2,g3,g4⟩
 ·exact⟨c,c3,g5,g6⟩
 ·exact⟨d,c4,g7,g8⟩
end Go.Proofs.YtpanapepcbbagaaGreat
