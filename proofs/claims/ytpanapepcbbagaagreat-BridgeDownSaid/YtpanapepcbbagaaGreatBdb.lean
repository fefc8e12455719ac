/- Part 2 of what BridgeDown stands on. No statement is proved here. -/
import Derived.Test.YtpanapepcbbagaaGreatBxi
import Derived.Test.YtpanapepcbbagaaGreatBda
set_option linter.unusedVariables false
set_option linter.unusedSimpArgs false
set_option maxRecDepth 100000
set_option maxHeartbeats 8000000
namespace Go.Proofs.YtpanapepcbbagaaGreat
open Go.RowKit Go.BigFrame Go.WideShapes Go.ChangeShapes Go.Deep
theorem wf_u8{n:Int}(h:(Lit.int .u8 n).wf=true):0≤n∧n<256:=by simp[Lit.wf,IntKind.min,IntKind.max,IntKind.signed,IntKind.bits]at h;omega
theorem aKX{N:Nat→Prop}{X g k:Nat}{w:World}{B:Br}(h:WB N X g B w)(hk:k<B.np):w.rangeAt g (k*89) (a9 B.ps k):=fun j v hv=>by
 have hj:j<89:=by
  have:=(List.getElem?_eq_some_iff.1 hv).1
  unfold a9 at this
  rw[List.length_take]at this
  omega
 rw[BrG.cellg h (i:=k*89+j) (by omega),←hv,aI hj]
theorem aKZ{B:Br}(ho:B.ok){k:Nat}(hk:k<B.np):(a9 B.ps k).toArray.toList.all (·.oneCell')=true:=by
 show(a9 B.ps k).all _=true
 rw[List.all_eq_true]
 exact fun u hu=>(dI ho hk).one u hu
def Lw(n i:Nat)(C D:Br):Prop:=∀p,p<n→(pc D p=pc C p∨pc D p=up (pc C p) 2 (.bool false))∧(p<i→gB (pc D p) 2=false)
theorem Lw.zz{n i:Nat}{C D:Br}(h:Lw n i C D)(hw:∀p,p<n→WW (pc C p)):∀p,p<n→ZZ (pc D p):=fun p hp=>by
 rcases(h p hp).1 with e|e
 ·rw[e]
  exact oU (hw p hp)
 ·rw[e]
  refine tC (hw p hp) (fun x hx=>a5 _ _ (by omega)) (fun h2=>?_)
  rw[bE,if_neg (by omega),(hw p hp).1.2.1.1]at h2
  cases h2
theorem Lw.low{n i:Nat}{C D:Br}(h:Lw n i C D)(hl:Lk i D):Lw n (i+1) C (D.setp i 2 (.bool false)):=fun p hp=>by
 obtain⟨h1,h2⟩:=h p hp
 by_cases e:p=i
 ·subst e
  rw[a8 hl (by decide)]
  refine⟨.inr ?_,fun _=>by rw[bE,if_pos rfl];rfl⟩
  rcases h1 with e|e
  ·rw[e]
  ·rw[e]
   funext x
   unfold up
   split<;>rfl
 ·rw[aK e (by decide)]
  exact⟨h1,fun h=>h2 (by omega)⟩
theorem Lw.stay{n i:Nat}{C D:Br}(h:Lw n i C D)(h2:i<n→gB (pc D i) 2=false):Lw n (i+1) C D:=fun p hp=>by
 refine⟨(h p hp).1,fun hlt=>?_⟩
 by_cases e:p=i
 ·subst e
  exact h2 hp
 ·exact(h p hp).2 (by omega)
structure Tk (n M:Nat) (B:Br):Prop where
 ki:KI n M (fun _=>0) B
 no:B.no=0
 ww:∀i,i<n→WW (pc B i)
 d0:∀i,i<n→D0 (pc B i)
 jd:JD n B
theorem Tk.tick{n M:Nat}{B:Br}(h:Tk n M B):KI n M (fun _=>0) (iE B)∧(∀i,i<n→ZZ (pc (iE B) i))∧aLL n (iE B)∧JD n (iE B):=by
 have hkn:∀i,i<n→i<B.np:=fun i hi=>by rw[h.ki.np];exact hi
 refine⟨h.ki.tick h.no,fun i hi=>aH2 h.ki.ok (hkn i hi) (h.ww i hi),⟨(qE B B.np).1.trans h.no,fun i hi=>?_⟩,aCG (vS B _) (fun i j hi hj=>aAN h.ki.ok (hkn i hi) (by unfold UA at hj;omega)) h.jd⟩
 have h0:=h.d0 i hi
 unfold D0 gB gI at h0 ⊢
 rw[aAN h.ki.ok (hkn i hi) (by decide),aAN h.ki.ok (hkn i hi) (by decide),aAN h.ki.ok (hkn i hi) (by decide),aAN h.ki.ok (hkn i hi) (by decide),aAN h.ki.ok (hkn i hi) (by decide),aAN h.ki.ok (hkn i hi) (by decide)]
 exact h0
theorem Tk.root{n M:Nat}{B:Br}(h:Tk n M B):B.hi 12=-1∧B.hi 7=7:=by
 rcases h.jd.1.2.2 with h1|⟨k,hk,-,h3⟩
 ·exact h1
 ·rw[(h.d0 k hk).2.2.2.2.2]at h3
  cases h3
theorem aCV{w:World}(rst:Bool)(v:Value)(P:List Pt)(hP:SusAt w v P)(hpr:∀p∈P,PtR p)(va:Value)(m:Nat)(xs:List Value)(hA:ActsAt w va m xs)(at_:Nat)(hat:at_<256):
    Calls Tryz.prog 8 #[.bool rst,v,va,.int .u8 (at_:Int)] w fun e w'=>e=.returned (.bool true)∧Ext w w':=by
 have HP:=hD hP
 have HR:=hD hpr
 have HA:=hD hA
 obtain⟨pa,pcap,rfl,hpm,-⟩:=hP
 obtain⟨aa,acap,rfl,ham,hrt,haf⟩:=hA
 have HAF:=hD haf
 have HRT:=hD hrt
 clear hpr haf hrt
 go_enter Tryz.func8,Tryz.ntmps8
 go_wp2_with fail
 refine(aCP w).mono ?_
 rintro e w1 ⟨rfl,hx⟩
 have HX1:=hD hx
 clear hx
 by_cases h5:P.length≤5
 case neg =>
  have d5:decide ((P.length:Int) > 5)=true:=by simp;omega
  go_wp2_with fail
  go_ret
  exact⟨rfl,HX1.out⟩
 have d5:decide ((P.length:Int) > 5)=false:=by simp;omega
 by_cases h1:0<P.length
 case neg =>
  have d1:decide ((P.length:Int)<1)=true:=by simp;omega
  go_wp2_with fail
  go_ret
  exact⟨rfl,HX1.out⟩
 have d1:decide ((P.length:Int)<1)=false:=by simp;omega
 by_cases h40:m≤40
 case neg =>
  have d40:decide ((m:Int) > 40)=true:=by simp;omega
  go_wp2_with fail
  go_ret
  exact⟨rfl,HX1.out⟩
 have d40:decide ((m:Int) > 40)=false:=by simp;omega
 go_wp2_with fail
 clear d5 d1 d40
 go_loopw [10] (fun sl wr=>∃i:Nat,sl=.int .i64 i∧i≤m∧(∀j,j<i→MT ((xs.drop (j*20+3)).take 17))∧Ext w wr) (fun sl _=>m - (intOf sl).toNat)
 case atStart=>exact⟨0,rfl,by omega,fun j hj=>absurd hj (by omega),HX1.out⟩
 case round =>
  obtain⟨i,rfl,hi,hmt,hx⟩:=hrel
  rename World=>wr
  have HMT:=hD hmt
  have HXR:=hD hx
  clear hmt hx HX1
  by_cases hlm:i<m
  ·have dlm:decide ((i:Int)<(m:Int))=true:=by simp;omega
   have hupi:IntKind.i64.wrap ((i:Int)+1)=((i+1:Nat):Int):=by rw[IntKind.wrap_i64];omega
   obtain⟨b,off,rfl,hb,hc1,hc2,hrg⟩:=HAF.out (by omega)
   obtain⟨mL,hmL⟩:∃l,(xs.drop (i*20+3)).take 17=l:=⟨_,rfl⟩
   have HML:=hD (aH7 HRT.out hlm hrg HXR.out hb hmL)
   have HME:=hD hmL
   clear hrg hmL
   go_wp2_with (first
    | fail
    | ((with_reducible refine aG 46 ?_);refine wpList_load_mid rfl 46 _ rfl b (off+i*20+3) rfl mL _ HML.out.1 Tryz.underlying46 rfl HML.out.2.2 ?_))
   refine(yX mL HML.out.2.1 wr).mono ?_
   rintro e w7 ⟨d7,rfl,htd,hx7⟩
   have HX7:=hD (HXR.out.trans hx7)
   have HTD:=hD htd
   clear hx7 htd
   cases d7
   ·go_wp2_with fail
    go_ret
    exact⟨rfl,HX7.out⟩
   ·go_wp2_with fail
    go_roundw
    case rel =>
     refine⟨i+1,by go_num,hlm,fun j hj=>?_,HX7.out⟩
     by_cases hji:j=i
     ·subst hji
      rw[HME.out]
      first|exact HTD.out rfl|exact HTD.out trivial
     ·exact HMT.out j (by omega)
    case measure=>simp[intOf]<;>omega
  ·obtain rfl:i=m:=by omega
   have dlm:decide ((i:Int)<(i:Int))=false:=by simp
   obtain⟨q,hq⟩:∃q,Int.tmod (at_:Int) (P.length:Int)=q:=⟨_,rfl⟩
   obtain ⟨k,hkq⟩:∃kq:Nat,q=(kq:Int)∧kq<P.length:=by
    rw[←hq,Int.tmod_eq_emod_of_nonneg (show(0:Int)≤(at_:Int) by omega)]
    have h1:=Int.emod_nonneg (at_:Int) (show(P.length:Int)≠0 by omega)
    have h2:=Int.emod_lt_of_pos (at_:Int) (show(0:Int)<P.length by omega)
    exact⟨((at_:Int) % P.length).toNat,by omega,by omega⟩
   obtain⟨rfl,hkl⟩:=hkq
   have hwp:IntKind.i64.wrap (at_:Int)=(at_:Int):=by rw[IntKind.wrap_i64];omega
   have hn0:((P.length:Int) == 0)=false:=by simp;intro h;simp[h]at h1
   have hwq:IntKind.i64.wrap (k:Int)=(k:Int):=by rw[IntKind.wrap_i64];omega
   have hne:((P.length:Int) != (P.length:Int))=false:=by simp
   go_wp2_with fail
   refine(y7 (J:=JD P.length) rst _ P wr (aL9 (HP.out.pts (by omega)) HXR.out) HR.out h1 h5 _ i xs (HA.out.ext HXR.out) HMT.out (k5 (by omega)) (aMK rfl)).mono ?_
   rintro e w2 ⟨c,B,rfl,hvb,hQ,hJ,hx2⟩
   have HSZ:=hD (hvb.sz hQ.1.1.ok)
   have HVB:=hD hvb
   have HQ:=hD hQ
   have HJ:=hD hJ
   have HX2:=hD hx2
   clear hvb hQ hJ hx2 dlm
   go_upto_region 11 with (first
    | fail
    | ((with_reducible refine bS 35 ?_);refine b6 rfl 35 rfl oR jK ?_
       intro X w3 hq3 hsz hx)
    | ((with_reducible refine aD 35 ?_);refine nQ rfl rfl 35 _ _ rfl X c oR 35 rfl rfl hq3 HSZ.out.1 fP HSZ.out.2 ?_
       intro w4 hq4 hm4
       have HQ4:=hD hq4
       have HV4:=hD (HVB.out.mut ((hx.mut (fun n=>n=X)).trans hm4) (fun n h1 h2 h3=>by have h4:n=X:=h3;omega))
       have HX4:=hD (show Ext wr w4 from HX2.out.trans (hx.mutE hm4 (fun g hg h=>by have h2:g=X:=h;omega)))
       have HXW:=hD (show wr.heap.size≤X from by have:=HX2.out.size;omega)
       clear hq3 hsz hx hq4 hm4 HVB HX2))
   obtain⟨g,hB⟩:=VB.wb (N:=fun n=>wr.heap.size≤n) HV4.out HQ4.out (fun n hn _=>hn) HXW.out
   have hnp:B.np=P.length:=HQ.out.1.1.np
   have hkn:k<B.np:=by rw[hnp];exact hkl
   obtain⟨cap,c17,hcp,hcm⟩:=BrG.cell17 hB HQ.out.1.1.ok
   rw[hnp]at c17 hcp
   have c2:w4.cell? ⟨g,k*89+2,none⟩=some (.bool (B.gb k 2)):=(BrG.cellg hB (i:=k*89+2) (by omega)).trans (HQ.out.1.1.ok.gb hkn 2 rfl)
   have HB:=hD hB
   have HNP:=hD hnp
   obtain⟨x,hx⟩:∃x,B.gb k 2=x:=⟨_,rfl⟩
   rw[hx]at c2
   have HGX:=hD hx
   clear hB HV4 HQ4 hnp hkn hx
   go_wp2_with fail
   refine(qB (k:=k) HB.out HQ.out.1.1.ok (by rw[HNP.out];exact hkl) (by rw[HNP.out];omega) false).mono ?_
   rintro e w5 ⟨d,C,rfl,hB5,hm5,hR⟩
   have hAR:d=x∧AR0 P.length (JD P.length) C∧gB (pc C k) 2=false:=by
    rw[HGX.out]at hR
    rcases hR with ⟨h2,rfl,rfl⟩|⟨h2,rfl,rfl⟩
    ·exact⟨h2.symm,HQ.out.same (by omega) HJ.out,by rw[←cM (by decide),HGX.out];exact h2⟩
    ·refine⟨by cases x<;>first|rfl|exact absurd rfl h2,HQ.out.en (by omega) (k5 (by omega)) HJ.out hkl false,?_⟩
     rw[a8 (mT HQ.out.1.1.ok (by rw[HNP.out];exact hkl)) (by decide),bE,if_pos rfl]
     rfl
   obtain⟨rfl,hA,h2⟩:=hAR
   have HB5:=hD hB5
   have HA5:=hD hA
   have HL5:=hD h2
   have HM5:=hD hm5
   clear hB5 hA h2 hm5 hR c17 c2 HGX HB HJ
   go_wp2_with fail
   refine(rT (M:=50000) (f:=0) (((k5 (by omega)).run).and (l2_kp.keep1 (by omega) hkl)) (by decide) h5 h1 (by decide) C w5 (fun n hn=>Nat.le_trans (Nat.le_trans HX4.out.size HM5.out.size) hn) HB5.out HA5.out.1 (fun _=>HA5.out.2.1) (fun h=>by cases h) ⟨HA5.out.2.2,HL5.out⟩).mono ?_
   rintro e w6 ⟨k6,C6,rfl,hB6,hm6,hR6,hJ6,hL6⟩
   have hnp6:C6.np=P.length:=hR6.1.np
   have hkn6:k<C6.np:=by rw[hnp6];exact hkl
   obtain⟨hd0,h27,h28,h29⟩:=aHR (by omega) hR6 hkl (hJ6.2 k hkl) hL6
   obtain⟨cap6,c17,hcp6,hcm6⟩:=BrG.cell17 hB6 hR6.1.ok
   rw[hnp6]at c17 hcp6
   have hpt:=dI hR6.1.ok hkn6
   have pcell:∀j,(a9 C6.ps k)[j]?=pc C6 k j:=fun j=>rfl
   have f87:(a9 C6.ps k)[87]?=some (.int .i64 0):=by
    have h:=aR hpt 87 rfl
    rw[show pI (a9 C6.ps k) 87=gI (pc C6 k) 87 from rfl,hd0.2.2.2.2.1]at h
    exact h
   have fB:∀j,PL[j]?=some none→gB (pc C6 k) j=false→(a9 C6.ps k)[j]?=some (.bool false):=fun j hj h0=>by
    have h:=fG hpt j hj
    rw[show pB (a9 C6.ps k) j=gB (pc C6 k) j from rfl,h0]at h
    exact h
   have HFC:=hD (And.intro f87 (And.intro (fB 27 rfl h27) (And.intro (fB 28 rfl h28) (fB 29 rfl h29))))
   have HRG:=hD (aKX hB6 hkn6)
   have HP1:=hD (aKZ hR6.1.ok hkn6)
   have HPL:=hD hpt.1
   obtain⟨F,hF⟩:∃F,a9 C6.ps k=F:=⟨_,rfl⟩
   rw[hF]at HFC HRG HP1 HPL
   have HSF:=hD (show(Tryz.prog.info? 60).map (·.size)=some F.length by rw[HPL.out];exact gQ)
   have HB6:=hD hB6
   have HR6:=hD hR6
   have HJ6:=hD hJ6
   have HM6:=hD (HM5.out.trans hm6)
   clear hB6 hm6 hR6 hJ6 hL6 hnp6 hkn6 hd0 h27 h28 h29 hpt pcell f87 fB hF HA5 HL5 HB5 HM5
   go_wp2_with (first
    | fail
    | ((with_reducible refine aG 60 ?_);refine wpList_load_mid rfl 60 _ rfl g (k*89) rfl F _ HRG.out Tryz.underlying60 rfl HSF.out ?_)
    | ((with_reducible refine bS 60 ?_);refine b6 rfl 60 rfl PortZ oP ?_
       intro Y wa hqa hsa hxa)
    | ((with_reducible refine aD 60 ?_);refine nQ rfl rfl 60 _ _ rfl Y F.toArray PortZ 60 rfl rfl hqa (by rw[List.size_toArray];exact HPL.out) gQ HP1.out ?_
       intro wb hqb hmb
       obtain⟨f87,f27,f28,f29⟩:=HFC.out
       have c87:wb.cell? ⟨Y,87,none⟩=some (.int .i64 0):=by rw[bA hqb,List.getElem?_toArray];exact f87
       have c27:wb.cell? ⟨Y,27,none⟩=some (.bool false):=by rw[bA hqb,List.getElem?_toArray];exact f27
       have c28:wb.cell? ⟨Y,28,none⟩=some (.bool false):=by rw[bA hqb,List.getElem?_toArray];exact f28
       have c29:wb.cell? ⟨Y,29,none⟩=some (.bool false):=by rw[bA hqb,List.getElem?_toArray];exact f29
       have HXB:=hD (show Ext w6 wb from hxa.mutE hmb (fun g hg h=>by have h2:g=Y:=h;omega))
       clear hqa hsa hxa hqb hmb f87 f27 f28 f29))
   have HBB:=hD (WB.ext HB6.out HXB.out)
   have HMB:=hD (HM6.out.trans (HXB.out.mut _))
   clear HB6 HM6 HFC HRG HP1 HPL HSF c17 c87 c27 c28 c29 HXB hwp hwq hq
   go_loopw [18] (fun si wl=>∃(i:Nat) (D:Br),si=.int .i64 i∧i≤P.length∧WB (fun n=>wr.heap.size≤n) X g D wl∧KI P.length 100000 (fun _=>0) D∧Lw P.length i C6 D∧JD P.length D∧Mut (fun n=>wr.heap.size≤n) w4 wl) (fun si _=>P.length - (intOf si).toNat)
   case atStart=>exact⟨0,C6,rfl,by omega,HBB.out,HR6.out.1,fun p _=>⟨.inl rfl,fun h=>absurd h (by omega)⟩,HJ6.out,HMB.out⟩
   case round =>
    clear HBB HMB HJ6
    obtain⟨i',D,rfl,hi',hB,hK,hLw,hJ,hm⟩:=hrel
    rename World=>wl
    have HB:=hD hB
    have HK:=hD hK
    have HLw:=hD hLw
    have HJ:=hD hJ
    have HM:=hD hm
    clear hB hK hLw hJ hm
    by_cases hlt:i'<P.length
    ·have dlt:decide ((i':Int)<(P.length:Int))=true:=by simp;omega
     have hupk:IntKind.i64.wrap ((i':Int)+1)=((i'+1:Nat):Int):=by rw[IntKind.wrap_i64];omega
     go_wp2_with fail
     refine(qB (k:=i') HB.out HK.out.ok (by rw[HK.out.np];exact hlt) (by rw[HK.out.np];omega) false).mono ?_
     rintro e w7 ⟨d7,D7,rfl,hB7,hm7,hR⟩
     have hl7:Lk i' D:=mT HK.out.ok (by rw[HK.out.np];exact hlt)
     have HD7:=hD (show KI P.length 100000 (fun _=>0) D7∧Lw P.length (i'+1) C6 D7∧JD P.length D7 from by
      rcases hR with ⟨h2,-,rfl⟩|⟨-,-,rfl⟩
      ·exact⟨HK.out,HLw.out.stay (fun _=>(cM (by decide)).symm.trans h2),HJ.out⟩
      ·exact⟨HK.out.en hlt false,HLw.out.low hl7,aCG (B:=D) rfl (fun i j _ hj=>aCU hl7 (.inl rfl) i hj) HJ.out⟩)
     have HB7:=hD hB7
     have HM7:=hD (HM.out.trans hm7)
     clear hB7 hm7 hR hl7
     go_wp2_with fail
     go_roundw
     case rel=>exact⟨i'+1,D7,by go_num,hlt,HB7.out,HD7.out.1,HD7.out.2.1,HD7.out.2.2,HM7.out⟩
     case measure=>simp[intOf]<;>omega
    ·obtain rfl:i'=P.length:=by omega
     have dlt:decide ((P.length:Int)<(P.length:Int))=false:=by simp
     go_wp2_with fail
     refine(rT (M:=100000) (f:=0) (((k5 (by omega)).run).and (l2_kp.keeps (by omega))) (by decide) h5 h1 (by decide) D wl (fun n hn=>Nat.le_trans (Nat.le_trans HX4.out.size HM.out.size) hn) HB.out HK.out (fun _=>HLw.out.zz (fun p hp=>(HR6.out.ww (by omega) hp).1)) (fun h=>by cases h) ⟨HJ.out,fun p hp=>(HLw.out p hp).2 hp⟩).mono ?_
     rintro e w8 ⟨k8,B8,rfl,hB8,hm8,hR8,hJ8,hL8⟩
     have HM8:=hD (HM.out.trans hm8)
     have HT8:=hD (show Tk P.length 150000 { B8 with no:=0,os:=[] } from⟨hR8.1.nil0,rfl,fun i hi=>(hR8.ww (by omega) hi).1,fun i hi=>(aHR (by omega) hR8 hi (hJ8.2 i hi) (hL8 i hi)).1,hJ8⟩)
     obtain⟨rx,hrx,hrz,hre⟩:=WB.nilOut hB8 hR8.1.ok
     have HRE:=hD hre
     have HRX:=hD hrx
     have HRZ:=hD hrz
     clear hB8 hm8 hR8 hJ8 hL8 hrx hrz hre HM HB HK HLw HJ dlt HR6
     go_wp2_with (first
      | fail
      | ((with_reducible refine aD 32 ?_);refine aAP rfl rfl 32 _ _ rfl X 18 (.slice none 0 0) rx 35 rfl rfl HRX.out (by rw[HRZ.out];decide) rfl (by kernel_rfl) rfl ?_
         intro wy hqy hmy
         have HBY:=hD (HRE.out wy hqy hmy)
         have HMY:=hD (HM8.out.trans (hmy.mono (fun n _ h=>by have h2:n=X:=h;have h3:=HXW.out;omega)))
         clear hqy hmy))
     go_loopw [19] (fun si wl=>∃(t:Nat) (D:Br),si=.int .i64 t∧t≤5∧WB (fun n=>wr.heap.size≤n) X g D wl∧Tk P.length (150000+50000*t) D∧Mut (fun n=>wr.heap.size≤n) w4 wl) (fun si _=>5 - (intOf si).toNat)
     case atStart=>exact⟨0,_,rfl,by omega,HBY.out,HT8.out,HMY.out⟩
     case round =>
      clear HBY HMY HT8 HM8 HRE HRX HRZ
      obtain⟨t,D9,rfl,ht,hB,hT,hm⟩:=hrel
      rename World=>wt
      have HB:=hD hB
      have HT:=hD hT
      have HM:=hD hm
      clear hB hT hm
      by_cases hlt:t<5
      ·have dlt:decide ((t:Int)<5)=true:=by simp;omega
       have hupk:IntKind.i64.wrap ((t:Int)+1)=((t+1:Nat):Int):=by rw[IntKind.wrap_i64];omega
       go_wp2_with fail
       refine(yU HB.out HT.out.ki.ok (by rw[HT.out.ki.np];omega)).mono ?_
       rintro e wu ⟨rfl,hBu,hmu⟩
       have HBu:=hD hBu
       have HMu:=hD (HM.out.trans hmu)
       have HTu:=hD HT.out.tick
       clear hBu hmu
       go_wp2_with fail
       refine(rT (M:=150000+50000*t) (f:=0) ((aKU (by omega)).and (k5 (by omega)).run) (by decide) h5 h1 (by omega) _ wu (fun n hn=>Nat.le_trans (Nat.le_trans HX4.out.size HMu.out.size) hn) HBu.out HTu.out.1 (fun _=>HTu.out.2.1) (fun h=>by cases h) HTu.out.2.2).mono ?_
       rintro e wv ⟨kv,Bv,rfl,hBv,hmv,hRv,hDv,hJv⟩
       have HBv:=hD hBv
       have HMv:=hD (HMu.out.trans hmv)
       have HTv:=hD (show Tk P.length (150000+50000*(t+1)) Bv from⟨hRv.1.mono (by omega),hDv.1,fun i hi=>(hRv.ww (by omega) hi).1,hDv.2,hJv⟩)
       clear hBv hmv hRv hDv hJv
       go_wp2_with fail
       go_roundw
       case rel=>exact⟨t+1,Bv,by go_num,hlt,HBv.out,HTv.out,HMv.out⟩
       case measure=>simp[intOf]<;>omega
      ·obtain rfl:t=5:=by omega
       have dlt:decide ((5:Int)<5)=false:=by decide
       obtain⟨r12,r7⟩:=HT.out.root
       have c12:=(BrG.cellX HB.out HT.out.ki.ok (i:=12) (by omega)).trans (HT.out.ki.ok.hi 12 rfl)
       have c7:=(BrG.cellX HB.out HT.out.ki.ok (i:=7) (by omega)).trans (HT.out.ki.ok.hi 7 rfl)
       rw[r12]at c12
       rw[r7]at c7
       obtain⟨oa,ocap,c18,-,-,-⟩:=WB.out HB.out HT.out.ki.ok
       rw[HT.out.no]at c18
       have HXE:=hD (show Ext w wt from HXR.out.trans (HX4.out.mutE HM.out (fun j hj h=>by have h2:wr.heap.size≤j:=h;omega)))
       clear r12 r7
       go_wp2_with fail
       go_ret
       exact⟨rfl,HXE.out⟩
theorem law_BridgeDown{w:World}(rst:Bool)(v:Value)(P:List Pt)(hP:SusAt w v P)(hpr:∀p∈P,PtR p)(va:Value)(m:Nat)(xs:List Value)(hA:ActsAt w va m xs)(z:Int)(hz:0≤z∧z<256):
    Calls Tryz.prog 8 #[.bool rst,v,va,.int .u8 z] w fun e w'=>e=.returned (.bool true)∧Ext w w':=by
 obtain⟨a,rfl⟩:∃a:Nat,z=a:=⟨z.toNat,by omega⟩
 exact aCV rst v P hP hpr va m xs hA a (by omega)
end Go.Proofs.YtpanapepcbbagaaGreat
