/- Part 3 of what BridgeBetter stands on. No statement is proved here. -/
import Derived.Test.YtpanapepcbbagaaGreatBbb
set_option linter.unusedVariables false
set_option linter.unusedSimpArgs false
set_option maxRecDepth 100000
set_option maxHeartbeats 8000000
namespace Go.Proofs.YtpanapepcbbagaaGreat
open Go.RowKit Go.BigFrame Go.WideShapes Go.ChangeShapes Go.Deep
theorem aKZ{N:Nat→Prop}{X g:Nat}{w:World}{B:Br}(h:WB N X g B w)(ho:B.ok)(hn:B.np<1000)(i:Int){m:List Value}(hm:Typed ML m):Calls Tryz.prog 20 #[.pointer (some ⟨X,0,none⟩),.int .i64 i,.agg m.toArray] w (So N X g (fun d B'=>d=(kH B i m).1∧B'=(kH B i m).2) w):=by
 have hml:m.length=17:=hm.1
 have HM:=hD hm
 have HI:=hD (show(Tryz.prog.info? 46).map (·.size)=some m.toArray.size by rw[List.size_toArray,hml];exact fI)
 have H:=hD h
 clear h
 go_enter Tryz.func20,Tryz.ntmps20
 go_wp2_with (first
  | fail
  | ((with_reducible refine bP 46 ?_);refine bQ rfl 46 _ rfl m.toArray rfl ?_
     intro Y w1 hY hsz hx1
     have HY:=hD hY
     have HX:=hD hx1
     clear hY hsz hx1)
  | ((with_reducible refine aG 46 ?_);refine wpList_load_row rfl 46 _ rfl Y rfl 46 m.toArray (0,0) _ HY.out Tryz.underlying46 rfl HI.out ?_))
 refine(aEQ w1 _ X g B (WB.ext H.out HX.out) ho m HM.out hn i).mono ?_
 rintro e w2 hh
 obtain⟨d,B',rfl,hB,hm2,hR⟩:=So.of (R:=fun d B'=>d=(kH B i m).1∧B'=(kH B i m).2) hh ⟨rfl,rfl⟩
 have HB:=hD hB
 have HMU:=hD ((HX.out.mut _).trans hm2)
 have HR:=hD hR
 clear hB hm2 hh hR
 go_wp2_with fail
 go_ret
 exact⟨d,B',rfl,HB.out,HMU.out,HR.out⟩
def Up(n i:Nat)(C D:Br):Prop:=∀p,p<n→(pc D p=pc C p∨pc D p=up (pc C p) 2 (.bool true))∧(p<i→gB (pc D p) 2=true)
theorem Up.zz{n i:Nat}{C D:Br}(h:Up n i C D)(hw:∀p,p<n→WW (pc C p)):∀p,p<n→ZZ (pc D p):=fun p hp=>by
 rcases(h p hp).1 with e|e
 ·rw[e]
  exact oU (hw p hp)
 ·rw[e]
  refine tC (hw p hp) (fun x hx=>a5 _ _ (by omega)) (fun h2=>?_)
  rw[bE,if_neg (by omega),(hw p hp).1.2.1.1]at h2
  cases h2
theorem Up.low{n i:Nat}{C D:Br}(h:Up n i C D)(hl:Lk i D):Up n (i+1) C (D.setp i 2 (.bool true)):=fun p hp=>by
 obtain⟨h1,h2⟩:=h p hp
 by_cases e:p=i
 ·subst e
  rw[a8 hl (by decide)]
  refine⟨.inr ?_,fun _=>by rw[bE,if_pos rfl];rfl⟩
  rcases h1 with e|e
  ·rw[e]
  ·rw[e]
   funext x
   unfold up
   split<;>rfl
 ·rw[aK e (by decide)]
  exact⟨h1,fun h=>h2 (by omega)⟩
theorem Up.stay{n i:Nat}{C D:Br}(h:Up n i C D)(h2:i<n→gB (pc D i) 2=true):Up n (i+1) C D:=fun p hp=>by
 refine⟨(h p hp).1,fun hlt=>?_⟩
 by_cases e:p=i
 ·subst e
  exact h2 hp
 ·exact(h p hp).2 (by omega)
theorem aM0{n i:Nat}{D:Br}(h:IE n D)(hl:Lk i D)(v:Value):IE n (D.setp i 2 v):=by
 refine⟨h.1,h.2.1,fun p hp=>?_⟩
 by_cases e:p=i
 ·subst e
  rw[a8 hl (by decide)]
  have:=h.2.2 p hp
  unfold EP at this ⊢
  simp only[bE,aV,Nat.reduceEqDiff,if_false]
  exact this
 ·rw[aK e (by decide)]
  exact h.2.2 p hp
theorem aM1{rst:Bool}{P:List Pt}{n:Nat}(hP:P.length=n):IE n (NB rst P):=by
 refine⟨rfl,rfl,fun i hi=>?_⟩
 obtain⟨⟨ha,y1,y2,y3,y4⟩,h2,h87,h88⟩:=aL8 (rst:=rst) hP hi
 have h86:=y3.2 h2
 have h44:gB (pc (NB rst P) i) 44=false:=by
  subst hP
  unfold gB
  rw[jZ (by decide),aAD (j:=44) (x:=.bool false) hi rfl]
 exact⟨y1,y2,by omega,fun h=>(by rw[h44]at h;cases h),fun h=>(by rw[h44]at h;cases h)⟩
theorem aKV{n M:Nat}{s:Nat→Nat}{B:Br}(hn:n<1000)(h:AtRest n s M B)(hE:IE n B)(h2:∀i,i<n→gB (pc B i) 2=true){i:Nat}(hi:i<n):OA (pc B i)∧gI (pc B i) 68=7:=by
 obtain⟨⟨ha,⟨y1,y2,y3,y4⟩,hq,hd,h50,h18⟩,h87⟩:=(h.ww hn hi).1
 obtain⟨p1,p2,p3,p4,p5⟩:=hE.2.2 i hi
 have u2:=h2 i hi
 obtain⟨a1,a2,a3,a4_,a5_,a6,a7_,a8_,a9_,a10,a11⟩:=ha
 have n0:gI (pc B i) 86≠0:=fun e=>by rw[y3.1 e]at u2;cases u2
 have n1:gI (pc B i) 86≠1:=fun e=>by rw[a10 hq.2 e]at h50;cases h50
 have e86:gI (pc B i) 86=2:=by omega
 have e18:gI (pc B i) 18=2:=by omega
 exact⟨⟨⟨u2,y1,y2,e86,e18,hq.1⟩,h50⟩,p5 hq.2 e86 h50⟩
def mgL(r c:Int):List Value:=[.int .i64 0,.bool false,.bool false,.bool false,.bool false,.bool false,.bool false,.int .i64 4,.int .u64 r,.int .u32 c,.int .u64 9,.int .u16 1,.int .u16 0,.int .i64 1,.int .i64 20,.int .i64 2,.int .i64 15]
theorem aM2{r c:Int}(hr:0≤r∧r<7)(hc:0≤c∧c<65536):MT (mgL r c):=by
 have w1:(Lit.int .u64 r).wf=true:=by simp[Lit.wf,IntKind.min,IntKind.max,IntKind.signed,IntKind.bits];omega
 have w2:(Lit.int .u32 c).wf=true:=by simp[Lit.wf,IntKind.min,IntKind.max,IntKind.signed,IntKind.bits];omega
 refine⟨nO ⟨⟨_,rfl,by decide⟩,⟨_,rfl⟩,⟨_,rfl⟩,⟨_,rfl⟩,⟨_,rfl⟩,⟨_,rfl⟩,⟨_,rfl⟩,⟨_,rfl,by decide⟩,⟨_,rfl,w1⟩,⟨_,rfl,w2⟩,⟨_,rfl,by decide⟩,⟨_,rfl,by decide⟩,⟨_,rfl,by decide⟩,⟨_,rfl,by decide⟩,⟨_,rfl,by decide⟩,⟨_,rfl,by decide⟩,⟨_,rfl,by decide⟩,trivial⟩,fun j h1 h2=>?_⟩
 rcases(by omega:j=13∨j=14∨j=15∨j=16)with rfl|rfl|rfl|rfl
 ·exact⟨1,rfl,by decide,by decide⟩
 ·exact⟨20,rfl,by decide,by decide⟩
 ·exact⟨2,rfl,by decide,by decide⟩
 ·exact⟨15,rfl,by decide,by decide⟩
theorem aMC{n M k:Nat}{s:Nat→Nat}{B:Br}{r c:Int}(hn:n<1000)(h:AtRest n s M B)(hE:IE n B)(h2:∀i,i<n→gB (pc B i) 2=true)(hk:k<n)(hr:0≤r∧r<7)(hc:0≤c∧c<65536):(kH B (k:Int) (mgL r c)).1=true∧IH k r n (kH B (k:Int) (mgL r c)).2:=by
 have hkp:k<B.np:=by rw[h.1.np];exact hk
 have hl:Lk k B:=mT h.1.ok hkp
 have e2:B.gb k 2=true:=(cM (by decide)).trans (h2 k hk)
 obtain⟨⟨⟨p2,p35,p36,p86,p18,p43⟩,p50⟩,p68⟩:=aKV hn h hE h2 hk
 have e35:B.gb k 35=false:=(cM (by decide)).trans p35
 have et:kH B (k:Int) (mgL r c)=(true,fE B k (mgL r c)):=by
  unfold kH
  rw [if_pos ⟨by omega,by omega⟩,show((k:Nat):Int).toNat=k from by omega,e2,e35,if_neg (by
   show ¬((!true || false || ((0:Int) == 2) && !B.hb 1)=true)
   simp)]
 rw[et]
 unfold Lk at hl
 have other:∀i,i≠k→pc (fE B k (mgL r c)) i=pc B i:=fun i hi=>aEZ fun x hx=>by
  show((B.setr k 51 (mgL r c)).ps.set (k*89+35) _)[i*89+x]?=_
  rw[List.getElem?_set_ne (by omega),rL (by show k*89+51+17≤_;omega),if_neg (by show ¬(_∧_<k*89+51+17);omega)]
 have own:∀x,x≠35→x<89→pc (fE B k (mgL r c)) k x=if 51≤x∧x<68 then(mgL r c)[x - 51]? else pc B k x:=fun x hne hx=>by
  rw[jZ hx,jZ hx]
  show((B.setr k 51 (mgL r c)).ps.set (k*89+35) _)[k*89+x]?=_
  rw[List.getElem?_set_ne (by omega),rL (by show k*89+51+17≤_;omega)]
  by_cases hh:51≤x∧x<68
  ·rw[if_pos (by show _∧_<k*89+51+17;omega),if_pos hh,show k*89+x - (k*89+51)=x - 51 from by omega]
  ·rw[if_neg (by show ¬(_∧_<k*89+51+17);omega),if_neg hh]
 have oI_:∀x,x≠35→x<89→¬(51≤x∧x<68)→gI (pc (fE B k (mgL r c)) k) x=gI (pc B k) x:=fun x a b c=>by unfold gI;rw[own x a b,if_neg c]
 have oB_:∀x,x≠35→x<89→¬(51≤x∧x<68)→gB (pc (fE B k (mgL r c)) k) x=gB (pc B k) x:=fun x a b c=>by unfold gB;rw[own x a b,if_neg c]
 have mI_:∀x z q,x<89→x≠35→(51≤x∧x<68)→(mgL r c)[x - 51]?=some (.int q z)→gI (pc (fE B k (mgL r c)) k) x=z:=fun x z q a b cc d=>by unfold gI;rw[own x b a,if_pos cc,d]
 have o35:gB (pc (fE B k (mgL r c)) k) 35=true:=by
  unfold gB
  rw[jZ (by decide)]
  show(match ((B.setr k 51 (mgL r c)).ps.set (k*89+35) (.bool true))[k*89+35]? with|some (.bool z)=>z|_=>false)=true
  have hlen:(B.setr k 51 (mgL r c)).ps.length=B.ps.length:=fJ (by show k*89+51+17≤_;omega)
  rw[List.getElem?_set_self (by rw[hlen];omega)]
 refine⟨rfl,hE.1,.inl ⟨fun i hi hne=>by show OA (pc (fE B k (mgL r c)) i);rw[other i hne];exact(aKV hn h hE h2 hi).1,?_⟩⟩
 exact ⟨⟨mI_ 51 0 .i64 (by decide) (by decide) (by decide) rfl,mI_ 58 4 .i64 (by decide) (by decide) (by decide) rfl,mI_ 59 r .u64 (by decide) (by decide) (by decide) rfl,mI_ 61 9 .u64 (by decide) (by decide) (by decide) rfl,mI_ 64 1 .i64 (by decide) (by decide) (by decide) rfl,mI_ 65 20 .i64 (by decide) (by decide) (by decide) rfl,mI_ 66 2 .i64 (by decide) (by decide) (by decide) rfl⟩,
  (oB_ 2 (by decide) (by decide) (by decide)).trans p2,(oI_ 86 (by decide) (by decide) (by decide)).trans p86,(oI_ 18 (by decide) (by decide) (by decide)).trans p18,(oI_ 68 (by decide) (by decide) (by decide)).trans p68,(oB_ 43 (by decide) (by decide) (by decide)).trans p43,(oB_ 50 (by decide) (by decide) (by decide)).trans p50,.inl ⟨o35,(oB_ 36 (by decide) (by decide) (by decide)).trans p36⟩⟩
theorem aMN{n M k:Nat}{s:Nat→Nat}{B:Br}{R:Int}(hn:n<1000)(h:AtRest n s M B)(hI:IH k R n B)(hk:k<n):B.hi 12=k∧B.hi 7=R∧B.hi 13=2∧(∀i,i<n→i≠k→gI (pc B i) 87=4∧gI (pc B i) 68=R)∧gI (pc B k) 87=3:=by
 have w:∀i,i<n→gB (pc B i) 35=false∧gB (pc B i) 36=false∧gB (pc B i) 43=false∧gB (pc B i) 50=false∧gI (pc B i) 87=gI (pc B i) 88:=fun i hi=>by
  obtain⟨⟨ha,⟨y1,y2,-⟩,hq,hd,h50,-⟩,h87⟩:=(h.ww hn hi).1
  exact⟨y1,y2,hq.1,h50,h87⟩
 obtain⟨w35,w36,w43,-,w87⟩:=w k hk
 rcases hI.2 with ⟨-,hA⟩|⟨-,-,h43⟩|⟨e12,e7,e13,hO_,-,-,h88⟩
 ·exfalso
  rcases hA.2.2.2.2.2.2.2 with h1|h1
  ·rw[h1.1]at w35;cases w35
  ·rw[h1.2]at w36;cases w36
 ·rw[h43]at w43;cases w43
 ·refine⟨e12,e7,e13,fun i hi hne=>?_,w87.trans h88⟩
  obtain⟨-,-,-,o88,o5_⟩:=hO_ i hi hne
  obtain⟨-,-,-,v50,v87⟩:=w i hi
  refine⟨v87.trans o88,o5_.elim (fun h=>by rw[h]at v50;cases v50) id⟩
theorem aMO(r c:Int):Tryz.prog.built 30 [(0,.int .u64 r),(1,.int .u32 c),(2,.int .u64 9),(3,.int .u16 1)]=some #[.int .u64 r,.int .u32 c,.int .u64 9,.int .u16 1,.int .u16 0]:=by kernel_rfl
theorem aMP:Tryz.prog.built 24 [(0,.int .i64 1),(1,.int .i64 20),(2,.int .i64 2),(3,.int .i64 15)]=some #[.int .i64 1,.int .i64 20,.int .i64 2,.int .i64 15]:=by kernel_rfl
theorem aMQ(r c:Int):Tryz.prog.built 46 [(0,.int .i64 0),(7,.int .i64 4),(8,.agg #[.int .u64 r,.int .u32 c,.int .u64 9,.int .u16 1,.int .u16 0]),(9,.agg #[.int .i64 1,.int .i64 20,.int .i64 2,.int .i64 15])]=some (mgL r c).toArray:=by kernel_rfl
def MgZ:Array Value:=(mgL 0 0).set 7 (.int .i64 0) |>.set 10 (.int .u64 0) |>.set 11 (.int .u16 0) |>.set 13 (.int .i64 0) |>.set 14 (.int .i64 0) |>.set 15 (.int .i64 0) |>.set 16 (.int .i64 0) |>.toArray
theorem aLV:∀w,(zeroValue 46).run Tryz.prog w=.ok (.agg MgZ) w:=(zero_of_info (P:=Tryz.prog) (t:=46) (v:=.agg MgZ) (n:=17) (by kernel_rfl)).1
theorem aCG{w:World}(rst:Bool)(v:Value)(P:List Pt)(hP:SusAt w v P)(hpr:∀p∈P,PtR p)(at_ ro co:Nat)(hat:at_<256)(hro:ro<256)(hco:co<65536):
    Calls Tryz.prog 6 #[.bool rst,v,.int .u8 (at_:Int),.int .u8 (ro:Int),.int .u16 (co:Int)] w fun e w'=>e=.returned (.bool true)∧Ext w w':=by
 have HP:=hD hP
 have HR:=hD hpr
 obtain⟨pa,pcap,rfl,hpm,-⟩:=hP
 clear hpr
 go_enter Tryz.func6,Tryz.ntmps6
 go_wp2_with fail
 refine(aCP w).mono ?_
 rintro e w1 ⟨rfl,hx⟩
 have HX1:=hD hx
 clear hx
 by_cases h5:P.length≤5
 case neg =>
  have d5:decide ((P.length:Int) > 5)=true:=by simp;omega
  go_wp2_with fail
  go_ret
  exact⟨rfl,HX1.out⟩
 have d5:decide ((P.length:Int) > 5)=false:=by simp;omega
 by_cases h1:0<P.length
 case neg =>
  have d1:decide ((P.length:Int)<1)=true:=by simp;omega
  go_wp2_with fail
  go_ret
  exact⟨rfl,HX1.out⟩
 have d1:decide ((P.length:Int)<1)=false:=by simp;omega
 go_wp2_with fail
 clear d5 d1
 refine(aKW (J:=IE P.length) rst _ P w1 (aL9 (HP.out.pts (by omega)) HX1.out) HR.out h1 h5 (aIE (by omega)) (aM1 rfl)).mono ?_
 rintro e w2 ⟨c,B,rfl,hvb,hQ,hJ,hx2⟩
 have HSZ:=hD (hvb.sz hQ.1.1.ok)
 have HVB:=hD hvb
 have HQ:=hD hQ
 have HJ:=hD hJ
 have HX2:=hD hx2
 clear hvb hQ hJ hx2
 go_wp2_with (first
  | fail
  | ((with_reducible refine bS 35 ?_);refine b6 rfl 35 rfl oR jK ?_
     intro X w3 hq hsz hx)
  | ((with_reducible refine aD 35 ?_);refine nQ rfl rfl 35 _ _ rfl X c oR 35 rfl rfl hq HSZ.out.1 fP HSZ.out.2 ?_
     intro w4 hq4 hm4
     have HQ4:=hD hq4
     have HV4:=hD (HVB.out.mut ((hx.mut (fun n=>n=X)).trans hm4) (fun n h1 h2 h3=>by have h4:n=X:=h3;omega))
     have HX4:=hD (show Ext w1 w4 from HX2.out.trans (hx.mutE hm4 (fun g hg h=>by have h2:g=X:=h;omega)))
     have HXW:=hD (show w1.heap.size≤X from by have:=HX2.out.size;omega)
     clear hq hsz hx hq4 hm4 HVB HX2))
 obtain⟨g,hB⟩:=VB.wb (N:=fun n=>w1.heap.size≤n) HV4.out HQ4.out (fun n hn _=>hn) HXW.out
 have HB:=hD hB
 clear hB HV4 HQ4 HSZ
 go_loopw [14] (fun si wl=>∃(i:Nat) (D:Br),si=.int .i64 i∧i≤P.length∧WB (fun n=>w1.heap.size≤n) X g D wl∧KI P.length 50000 (fun _=>0) D∧Up P.length i B D∧IE P.length D∧Mut (fun n=>w1.heap.size≤n) w4 wl) (fun si _=>P.length - (intOf si).toNat)
 case atStart=>exact⟨0,B,rfl,by omega,HB.out,HQ.out.1.1,fun p _=>⟨.inl rfl,fun h=>absurd h (by omega)⟩,HJ.out,Mut.refl _ w4⟩
 case round =>
  clear HB HJ
  obtain⟨i,D,rfl,hi,hB,hK,hU_,hJ,hm⟩:=hrel
  rename World=>wl
  have HB:=hD hB
  have HK:=hD hK
  have HU:=hD hU_
  have HJ:=hD hJ
  have HM:=hD hm
  clear hB hK hU_ hJ hm
  by_cases hlt:i<P.length
  ·have dlt:decide ((i:Int)<(P.length:Int))=true:=by simp;omega
   have hupk:IntKind.i64.wrap ((i:Int)+1)=((i+1:Nat):Int):=by rw[IntKind.wrap_i64];omega
   go_wp2_with fail
   refine(qB (k:=i) HB.out HK.out.ok (by rw[HK.out.np];exact hlt) (by rw[HK.out.np];omega) true).mono ?_
   rintro e w7 ⟨d7,D7,rfl,hB7,hm7,hR⟩
   have hl7:Lk i D:=mT HK.out.ok (by rw[HK.out.np];exact hlt)
   have HD7:=hD (show KI P.length 50000 (fun _=>0) D7∧Up P.length (i+1) B D7∧IE P.length D7 from by
    rcases hR with ⟨h2,-,rfl⟩|⟨-,-,rfl⟩
    ·exact⟨HK.out,HU.out.stay (fun _=>(cM (by decide)).symm.trans h2),HJ.out⟩
    ·exact⟨HK.out.en hlt true,HU.out.low hl7,aM0 HJ.out hl7 _⟩)
   have HB7:=hD hB7
   have HM7:=hD (HM.out.trans hm7)
   clear hB7 hm7 hR hl7
   go_wp2_with fail
   go_roundw
   case rel=>exact⟨i+1,D7,by go_num,hlt,HB7.out,HD7.out.1,HD7.out.2.1,HD7.out.2.2,HM7.out⟩
   case measure=>simp[intOf]<;>omega
  ·obtain rfl:i=P.length:=by omega
   have dlt:decide ((P.length:Int)<(P.length:Int))=false:=by simp
   go_wp2_with fail
   refine(rT (M:=50000) (f:=0) ((aIE (by omega)).and ((aMS true).keeps (by omega))) (by decide) h5 h1 (by decide) D wl (fun n hn=>Nat.le_trans (Nat.le_trans HX4.out.size HM.out.size) hn) HB.out HK.out (fun _=>HU.out.zz (fun p hp=>(HQ.out.1.ww (by omega) hp).1)) (fun h=>by cases h) ⟨HJ.out,fun p hp=>(HU.out p hp).2 hp⟩).mono ?_
   rintro e w5 ⟨k5,B5,rfl,hB5,hm5,hR5,hJ5,hU5⟩
   have HB5:=hD hB5
   have HR5:=hD hR5
   have HJ5:=hD hJ5
   have HU5:=hD hU5
   have HM5:=hD (HM.out.trans hm5)
   clear hB5 hm5 hR5 hJ5 hU5 HB HK HU HJ HM HQ dlt
   obtain⟨q,hq⟩:∃q,Int.tmod (at_:Int) (P.length:Int)=q:=⟨_,rfl⟩
   obtain ⟨k,hkq⟩:∃kq:Nat,q=(kq:Int)∧kq<P.length:=by
    rw[←hq,Int.tmod_eq_emod_of_nonneg (show(0:Int)≤(at_:Int) by omega)]
    have h1:=Int.emod_nonneg (at_:Int) (show(P.length:Int)≠0 by omega)
    have h2:=Int.emod_lt_of_pos (at_:Int) (show(0:Int)<P.length by omega)
    exact⟨((at_:Int) % P.length).toNat,by omega,by omega⟩
   obtain⟨rfl,hkl⟩:=hkq
   have hwp:IntKind.i64.wrap (at_:Int)=(at_:Int):=by rw[IntKind.wrap_i64];omega
   have hn0:((P.length:Int) == 0)=false:=by simp;intro h;simp[h]at h1
   have hwq:IntKind.i64.wrap (k:Int)=(k:Int):=by rw[IntKind.wrap_i64];omega
   obtain⟨r,hr⟩:∃r,Int.tmod (ro:Int) 7=r:=⟨_,rfl⟩
   have hrr:0≤r∧r<7:=by
    rw[←hr,Int.tmod_eq_emod_of_nonneg (show(0:Int)≤(ro:Int) by omega)]
    omega
   have hw8:IntKind.u8.wrap r=r:=by
    have:∀x:Int,0≤x∧x<7→IntKind.u8.wrap x=x:=fun x hx=>by
     rcases(by omega:x=0∨x=1∨x=2∨x=3∨x=4∨x=5∨x=6)with rfl|rfl|rfl|rfl|rfl|rfl|rfl<;>rfl
    exact this r hrr
   have hw64:IntKind.u64.wrap r=r:=by
    have:∀x:Int,0≤x∧x<7→IntKind.u64.wrap x=x:=fun x hx=>by
     rcases(by omega:x=0∨x=1∨x=2∨x=3∨x=4∨x=5∨x=6)with rfl|rfl|rfl|rfl|rfl|rfl|rfl<;>rfl
    exact this r hrr
   have hw32:IntKind.u32.wrap (co:Int)=(co:Int):=by simp[IntKind.wrap,IntKind.signed,IntKind.bits,IntKind.min,IntKind.max];omega
   have HRR:=hD hrr
   have HCO:=hD hco
   have hmt:=aM2 (r:=r) (c:=(co:Int)) hrr ⟨by omega,by omega⟩
   have HMT:=hD hmt
   have HMS:=hD (show(Tryz.prog.info? 46).map (·.size)=some (mgL r (co:Int)).toArray.size from fI)
   clear hmt hrr hco
   go_wp2_with (first
    | fail
    | ((with_reducible refine cJ 30 ?_);refine bG rfl 30 _ rfl _ rfl _ (aMO r (co:Int)) ?_)
    | ((with_reducible refine cJ 24 ?_);refine bG rfl 24 _ rfl _ rfl _ aMP ?_)
    | ((with_reducible refine cJ 46 ?_);refine bG rfl 46 _ rfl _ rfl _ (aMQ r (co:Int)) ?_)
    | ((with_reducible refine bS 46 ?_);refine b6 rfl 46 rfl MgZ aLV ?_
       intro Y wa hqa hsa hxa)
    | ((with_reducible refine aD 46 ?_);refine nQ rfl rfl 46 _ _ rfl Y (mgL r (co:Int)).toArray MgZ 46 rfl rfl hqa rfl fI rfl ?_
       intro wb hqb hmb
       have HQB:=hD hqb
       have HXB:=hD (show Ext w5 wb from hxa.mutE hmb (fun g hg h=>by have h2:g=Y:=h;omega))
       clear hqa hsa hxa hqb hmb)
    | ((with_reducible refine aG 46 ?_);refine wpList_load_row rfl 46 _ rfl Y rfl 46 (mgL r (co:Int)).toArray (0,0) _ HQB.out Tryz.underlying46 rfl HMS.out ?_))
   refine(aKZ (WB.ext HB5.out HXB.out) HR5.out.1.ok (by rw[HR5.out.1.np];omega) (k:Int) HMT.out.1).mono ?_
   rintro e w6 ⟨d6,B6,rfl,hB6,hm6,rfl,rfl⟩
   obtain⟨hd6,hI6⟩:=aMC (r:=r) (c:=(co:Int)) (by omega) HR5.out HJ5.out HU5.out hkl HRR.out ⟨by omega,by have:=HCO.out;omega⟩
   rw[hd6]
   have HB6:=hD hB6
   have HI6:=hD hI6
   have HM6:=hD (HM5.out.trans ((HXB.out.mut _).trans hm6))
   have HK6:=hD (HR5.out.1.take (k:Int) HMT.out)
   have HZ6:=hD (fun i (hi:i<P.length)=>aH3 HR5.out.1 (k:Int) HMT.out.1 (HR5.out.ww (by omega) hi).1)
   clear hB6 hm6 hd6 hI6 HB5 HJ5 HU5 HM5 HXB HQB HMT HMS
   obtain⟨B7,hB7⟩:∃B7,(kH B5 (k:Int) (mgL r (co:Int))).2=B7:=⟨_,rfl⟩
   rw[hB7]at HB6 HI6 HK6 HZ6
   clear hB7 HR5
   go_wp2_with fail
   refine(rT (M:=100000) (f:=0) (aK8 (R:=r) (by omega) hkl HRR.out.2) (by decide) h5 h1 (by decide) B7 w6 (fun n hn=>Nat.le_trans (Nat.le_trans HX4.out.size HM6.out.size) hn) HB6.out HK6.out (fun _=>HZ6.out) (fun h=>by cases h) HI6.out).mono ?_
   rintro e w8 ⟨k8,B8,rfl,hB8,hm8,hR8,hI8⟩
   have HE:=hD (aMN (by omega) hR8 hI8 hkl)
   have HOK:=hD hR8.1.ok
   have HNP:=hD hR8.1.np
   obtain⟨cap,c17,hcp,hcm⟩:=BrG.cell17 hB8 hR8.1.ok
   rw[hR8.1.np]at c17 hcp
   have HB8:=hD hB8
   have HX8:=hD (show Ext w w8 from HX1.out.trans (HX4.out.mutE (HM6.out.trans hm8) (fun j hj h=>by have h2:w1.heap.size≤j:=h;omega)))
   have hne:((P.length:Int) != (P.length:Int))=false:=by simp
   clear hB8 hm8 hR8 hI8 HB6 HI6 HK6 HZ6 HM6 hq hwp hwq hw32
   go_wp2_with fail
   clear c17 hcp hcm
   go_loopw [22] (fun si wl=>∃i:Nat,si=.int .i64 i∧i≤P.length∧WB (fun n=>w1.heap.size≤n) X g B8 wl∧Ext w wl) (fun si _=>P.length - (intOf si).toNat)
   case atStart=>exact⟨0,rfl,by omega,HB8.out,HX8.out⟩
   case round =>
    clear HB8 HX8
    obtain⟨i,rfl,hi,hB,hx⟩:=hrel
    rename World=>wl
    have HB:=hD hB
    have HX:=hD hx
    obtain⟨cap,c17,hcp,hcm⟩:=BrG.cell17 hB HOK.out
    rw[HNP.out]at c17 hcp
    by_cases hlt:i<P.length
    ·have dlt:decide ((i:Int)<(P.length:Int))=true:=by simp;omega
     have hupk:IntKind.i64.wrap ((i:Int)+1)=((i+1:Nat):Int):=by rw[IntKind.wrap_i64];omega
     have hin:i<B8.np:=by rw[HNP.out];exact hlt
     have hpt:=dI HOK.out hin
     have f87:=aR hpt 87 rfl
     have f68:=aR hpt 68 rfl
     rw[show pI (a9 B8.ps i) 87=gI (pc B8 i) 87 from rfl]at f87
     rw[show pI (a9 B8.ps i) 68=gI (pc B8 i) 68 from rfl]at f68
     have HRG:=hD (aLL HB.out hin)
     have HP1:=hD (aLO HOK.out hin)
     have HPL:=hD hpt.1
     have HFC:=hD (And.intro f87 f68)
     obtain⟨F,hF⟩:∃F,a9 B8.ps i=F:=⟨_,rfl⟩
     rw[hF]at HRG HP1 HPL HFC
     have HSF:=hD (show(Tryz.prog.info? 60).map (·.size)=some F.length by rw[HPL.out];exact gQ)
     clear hB hx hpt f87 f68 hF hin
     obtain⟨y87,hy87⟩:∃y,gI (pc B8 i) 87=y:=⟨_,rfl⟩
     obtain⟨y68,hy68⟩:∃y,gI (pc B8 i) 68=y:=⟨_,rfl⟩
     rw[hy87,hy68]at HFC
     have HY:=hD (And.intro hy87 hy68)
     clear hy87 hy68
     go_upto_region 20 with (first
      | fail
      | ((with_reducible refine aG 60 ?_);refine wpList_load_mid rfl 60 _ rfl g (i*89) rfl F _ HRG.out Tryz.underlying60 rfl HSF.out ?_)
      | ((with_reducible refine bS 60 ?_);refine b6 rfl 60 rfl PortZ oP ?_
         intro Y wa hqa hsa hxa)
      | ((with_reducible refine aD 60 ?_);refine nQ rfl rfl 60 _ _ rfl Y F.toArray PortZ 60 rfl rfl hqa (by rw[List.size_toArray];exact HPL.out) gQ HP1.out ?_
         intro wb hqb hmb
         have c87:wb.cell? ⟨Y,87,none⟩=some (.int .i64 y87):=by rw[bA hqb,List.getElem?_toArray];exact HFC.out.1
         have c68:wb.cell? ⟨Y,68,none⟩=some (.int .u64 y68):=by rw[bA hqb,List.getElem?_toArray];exact HFC.out.2
         have HXB:=hD (show Ext wl wb from hxa.mutE hmb (fun g hg h=>by have h2:g=Y:=h;omega))
         clear hqa hsa hxa hqb hmb))
     clear HRG HP1 HPL HSF HFC c17 hcp hcm
     by_cases hik:i=k
     ·subst hik
      have e87:y87=3:=HY.out.1.symm.trans HE.out.2.2.2.2
      subst e87
      have b1:((i:Int) == (i:Int))=true:=by simp
      have b2:((i:Int) != (i:Int))=false:=by simp
      go_wp2_with fail
      go_roundw
      case rel=>exact⟨i+1,by go_num,hlt,WB.ext HB.out HXB.out,HX.out.trans HXB.out⟩
      case measure=>simp[intOf]<;>omega
     ·obtain⟨g87,g68⟩:=HE.out.2.2.2.1 i hlt hik
      have e87:y87=4:=HY.out.1.symm.trans g87
      have e68:y68=r:=HY.out.2.symm.trans g68
      subst e87
      subst e68
      have b1:((i:Int) == (k:Int))=false:=by simp;omega
      have b2:((i:Int) != (k:Int))=true:=by simp;omega
      have b3:(y68 != y68)=false:=by simp
      clear g87 g68
      go_wp2_with fail
      go_roundw
      case rel=>exact⟨i+1,by go_num,hlt,WB.ext HB.out HXB.out,HX.out.trans HXB.out⟩
      case measure=>simp[intOf]<;>omega
    ·obtain rfl:i=P.length:=by omega
     have dlt:decide ((P.length:Int)<(P.length:Int))=false:=by simp
     obtain⟨e12,e7,e13,-,-⟩:=HE.out
     have c12:=(BrG.cellX hB HOK.out (i:=12) (by omega)).trans (HOK.out.hi 12 rfl)
     have c7:=(BrG.cellX hB HOK.out (i:=7) (by omega)).trans (HOK.out.hi 7 rfl)
     have c13:=(BrG.cellX hB HOK.out (i:=13) (by omega)).trans (HOK.out.hi 13 rfl)
     rw[e12]at c12
     rw[e7]at c7
     rw[e13]at c13
     have b4:(r == r)=true:=by simp
     have b5:((k:Int) == (k:Int))=true:=by simp
     clear e12 e7 e13 hB hx
     go_wp2_with fail
     go_ret
     exact⟨rfl,HX.out⟩
theorem law_BridgeBetter{w:World}(rst:Bool)(v:Value)(P:List Pt)(hP:SusAt w v P)(hpr:∀p∈P,PtR p)(a:Int)(ha:0≤a∧a<256)(r:Int)(hr:0≤r∧r<256)(c:Int)(hc:0≤c∧c<65536):
    Calls Tryz.prog 6 #[.bool rst,v,.int .u8 a,.int .u8 r,.int .u16 c] w fun e w'=>e=.returned (.bool true)∧Ext w w':=by
 obtain⟨x,rfl⟩:∃x:Nat,a=x:=⟨a.toNat,by omega⟩
 obtain⟨y,rfl⟩:∃x:Nat,r=x:=⟨r.toNat,by omega⟩
 obtain⟨z,rfl⟩:∃x:Nat,c=x:=⟨c.toNat,by omega⟩
 exact aCG rst v P hP hpr x y z (by omega) (by omega) (by omega)
end Go.Proofs.YtpanapepcbbagaaGreat
