/- Part 10 of what BridgeRests stands on. No statement is proved here. -/
import Derived.Test.YtpanapepcbbagaaGreatBxi
set_option linter.unusedVariables false
set_option linter.unusedSimpArgs false
set_option maxRecDepth 100000
set_option maxHeartbeats 8000000
namespace Go.Proofs.YtpanapepcbbagaaGreat
open Go.RowKit Go.BigFrame Go.WideShapes Go.ChangeShapes Go.Deep
theorem law_BridgeRests{w:World}(rst:Bool)(v:Value)(P:List Pt)(hP:SusAt w v P)(hpr:∀p∈P,PtR p)(va:Value)(m:Nat)(xs:List Value)(hA:ActsAt w va m xs):
    Calls Tryz.prog 4 #[.bool rst,v,va] w fun e w'=>e=.returned (.bool true)∧Ext w w':=by
 have HP:=hD hP
 have HR:=hD hpr
 have HA:=hD hA
 obtain⟨pa,pcap,rfl,hpm,-⟩:=hP
 obtain⟨aa,acap,rfl,ham,hrt,haf⟩:=hA
 have HAF:=hD haf
 have HRT:=hD hrt
 clear hpr haf hrt
 go_enter Tryz.func4,Tryz.ntmps4
 go_wp2_with fail
 refine(aCP w).mono ?_
 rintro e w1 ⟨rfl,hx⟩
 have HX1:=hD hx
 clear hx
 by_cases h5:P.length≤5
 case neg =>
  have d5:decide ((P.length:Int) > 5)=true:=by simp;omega
  go_wp2_with fail
  go_ret
  exact⟨rfl,HX1.out⟩
 have d5:decide ((P.length:Int) > 5)=false:=by simp;omega
 by_cases h1:0<P.length
 case neg =>
  have d1:decide ((P.length:Int)<1)=true:=by simp;omega
  go_wp2_with fail
  go_ret
  exact⟨rfl,HX1.out⟩
 have d1:decide ((P.length:Int)<1)=false:=by simp;omega
 by_cases h40:m≤40
 case neg =>
  have d40:decide ((m:Int) > 40)=true:=by simp;omega
  go_wp2_with fail
  go_ret
  exact⟨rfl,HX1.out⟩
 have d40:decide ((m:Int) > 40)=false:=by simp;omega
 go_wp2_with fail
 clear d5 d1 d40
 go_loopw [8] (fun sl wr=>∃i:Nat,sl=.int .i64 i∧i≤m∧(∀j,j<i→MT ((xs.drop (j*20+3)).take 17))∧Ext w wr) (fun sl _=>m - (intOf sl).toNat)
 case atStart=>exact⟨0,rfl,by omega,fun j hj=>absurd hj (by omega),HX1.out⟩
 case round =>
  obtain⟨i,rfl,hi,hmt,hx⟩:=hrel
  rename World=>wr
  have HMT:=hD hmt
  have HXR:=hD hx
  clear hmt hx HX1
  by_cases hlm:i<m
  ·have dlm:decide ((i:Int)<(m:Int))=true:=by simp;omega
   have hupi:IntKind.i64.wrap ((i:Int)+1)=((i+1:Nat):Int):=by rw[IntKind.wrap_i64];omega
   obtain⟨b,off,rfl,hb,hc1,hc2,hrg⟩:=HAF.out (by omega)
   obtain⟨mL,hmL⟩:∃l,(xs.drop (i*20+3)).take 17=l:=⟨_,rfl⟩
   have HML:=hD (aH7 HRT.out hlm hrg HXR.out hb hmL)
   have HME:=hD hmL
   clear hrg hmL
   go_wp2_with (first
    | fail
    | ((with_reducible refine aG 46 ?_);refine wpList_load_mid rfl 46 _ rfl b (off+i*20+3) rfl mL _ HML.out.1 Tryz.underlying46 rfl HML.out.2.2 ?_))
   refine(yX mL HML.out.2.1 wr).mono ?_
   rintro e w7 ⟨d7,rfl,htd,hx7⟩
   have HX7:=hD (HXR.out.trans hx7)
   have HTD:=hD htd
   clear hx7 htd
   cases d7
   ·go_wp2_with fail
    go_ret
    exact⟨rfl,HX7.out⟩
   ·go_wp2_with fail
    go_roundw
    case rel =>
     refine⟨i+1,by go_num,hlm,fun j hj=>?_,HX7.out⟩
     by_cases hji:j=i
     ·subst hji
      rw[HME.out]
      first|exact HTD.out rfl|exact HTD.out trivial
     ·exact HMT.out j (by omega)
    case measure=>simp[intOf]<;>omega
  ·obtain rfl:i=m:=by omega
   have dlm:decide ((i:Int)<(i:Int))=false:=by simp
   go_wp2_with fail
   refine(y7 (J:=fun _=>True) rst _ P wr (aL9 (HP.out.pts (by omega)) HXR.out) HR.out h1 h5 _ i xs (HA.out.ext HXR.out) HMT.out (yW _) trivial).mono ?_
   rintro e w2 ⟨c,B,rfl,hvb,hQ,-,hx2⟩
   have HSZ:=hD (hvb.sz hQ.1.1.ok)
   have HVB:=hD hvb
   have HQ:=hD hQ
   have HX2:=hD hx2
   clear hvb hQ hx2 dlm
   go_wp2_with (first
    | fail
    | ((with_reducible refine bS 35 ?_);refine b6 rfl 35 rfl oR jK ?_
       intro X w3 hq hsz hx)
    | ((with_reducible refine aD 35 ?_);refine nQ rfl rfl 35 _ _ rfl X c oR 35 rfl rfl hq HSZ.out.1 fP HSZ.out.2 ?_
       intro w4 hq4 hm4
       have HQ4:=hD hq4
       have HV4:=hD (HVB.out.mut ((hx.mut (fun n=>n=X)).trans hm4) (fun n h1 h2 h3=>by have h4:n=X:=h3;omega))
       have HX4:=hD (show Ext wr w4 from HX2.out.trans (hx.mutE hm4 (fun g hg h=>by have h2:g=X:=h;omega)))
       have HXW:=hD (show wr.heap.size≤X from by have:=HX2.out.size;omega)
       clear hq hsz hx hq4 hm4 HVB HX2))
   obtain⟨g,hB⟩:=VB.wb (N:=fun n=>wr.heap.size≤n) HV4.out HQ4.out (fun n hn _=>hn) HXW.out
   refine(aCL h5 h1 (by decide) B w4 (fun n hn=>Nat.le_trans HX4.out.size hn) hB HQ.out.1).mono ?_
   rintro e w5 ⟨k5,rfl,rfl,hB5,hm5⟩
   have HB5:=hD hB5
   have HX5:=hD (show Ext w w5 from HXR.out.trans (HX4.out.mutE hm5 (fun j hj h=>by have h2:wr.heap.size≤j:=h;omega)))
   have HNP:=hD (show B.np=P.length from HQ.out.1.1.np)
   clear hB hB5 hm5 HV4 HQ4 HX4
   go_wp2_with fail
   go_loopw [14] (fun sl wl=>∃k:Nat,sl=.int .i64 k∧k≤P.length∧WB (fun n=>wr.heap.size≤n) X g B wl∧Ext w wl) (fun sl _=>P.length - (intOf sl).toNat)
   case atStart=>exact⟨0,rfl,by omega,HB5.out,HX5.out⟩
   case round =>
    clear HB5 HX5
    obtain⟨k,rfl,hk,hB,hx⟩:=hrel
    rename World=>wl
    have HB:=hD hB
    have HX:=hD hx
    obtain⟨cap,c17,hcp,hcm⟩:=BrG.cell17 hB HQ.out.1.1.ok
    rw[HNP.out]at c17 hcp
    clear hB hx
    by_cases hkl:k<P.length
    ·have dkl:decide ((k:Int)<(P.length:Int))=true:=by simp;omega
     have hupk:IntKind.i64.wrap ((k:Int)+1)=((k+1:Nat):Int):=by rw[IntKind.wrap_i64];omega
     have hkn:k<B.np:=by rw[HNP.out];exact hkl
     obtain⟨hfl,hfc,hf1⟩:=aKT HQ.out.1.1.ok hkn
     obtain⟨⟨⟨-,⟨y35,y36,-⟩,⟨y43,y44⟩,-,y50,-⟩,-⟩,y25⟩:WW (pc B k)∧gB (pc B k) 25=false:=HQ.out.1.ww (by omega) hkl
     rw[←cM (by decide)]at y35 y36 y43 y44 y50 y25
     have f3:=hfc 3 (by decide)
     have f13:=hfc 13 (by decide)
     have f14:=hfc 14 (by decide)
     have f21:=hfc 21 (by decide)
     have f22:=hfc 22 (by decide)
     have f28:=hfc 28 (by decide)
     rw[show B.gb k (22+3)=false from y25]at f3
     rw[show B.gb k (22+13)=false from y35]at f13
     rw[show B.gb k (22+14)=false from y36]at f14
     rw[show B.gb k (22+21)=false from y43]at f21
     rw[show B.gb k (22+22)=true from y44]at f22
     rw[show B.gb k (22+28)=false from y50]at f28
     have HRG:=hD (aH8 HB.out hkn)
     obtain⟨F,hF⟩:∃F,flL B k=F:=⟨_,rfl⟩
     rw[hF]at hfl hf1 f3 f13 f14 f21 f22 f28 HRG
     have HSF:=hD (show(Tryz.prog.info? 58).map (·.size)=some F.length by rw[hfl];exact wA)
     have HFL:=hD hfl
     have HF1:=hD hf1
     have HFC:=hD (And.intro f3 (And.intro f13 (And.intro f14 (And.intro f21 (And.intro f22 f28)))))
     clear hfl hfc hf1 f3 f13 f14 f21 f22 f28 hF y25 y35 y36 y43 y44 y50
     go_wp2_with (first
      | fail
      | ((with_reducible refine aG 58 ?_);refine wpList_load_mid rfl 58 _ rfl g (k*89+22) rfl F _ HRG.out Tryz.underlying58 rfl HSF.out ?_)
      | ((with_reducible refine bS 58 ?_);refine b6 rfl 58 rfl FlZ aF0 ?_
         intro Y wa hqa hsa hxa)
      | ((with_reducible refine aD 58 ?_);refine nQ rfl rfl 58 _ _ rfl Y F.toArray FlZ 58 rfl rfl hqa (by rw[List.size_toArray];exact HFL.out) wA HF1.out ?_
         intro wb hqb hmb
         obtain⟨f3,f13,f14,f21,f22,f28⟩:=HFC.out
         have c3:wb.cell? ⟨Y,3,none⟩=some (.bool false):=by rw[bA hqb,List.getElem?_toArray];exact f3
         have c13:wb.cell? ⟨Y,13,none⟩=some (.bool false):=by rw[bA hqb,List.getElem?_toArray];exact f13
         have c14:wb.cell? ⟨Y,14,none⟩=some (.bool false):=by rw[bA hqb,List.getElem?_toArray];exact f14
         have c21:wb.cell? ⟨Y,21,none⟩=some (.bool false):=by rw[bA hqb,List.getElem?_toArray];exact f21
         have c22:wb.cell? ⟨Y,22,none⟩=some (.bool true):=by rw[bA hqb,List.getElem?_toArray];exact f22
         have c28:wb.cell? ⟨Y,28,none⟩=some (.bool false):=by rw[bA hqb,List.getElem?_toArray];exact f28
         have HXB:=hD (show Ext wl wb from hxa.mutE hmb (fun g hg h=>by have h2:g=Y:=h;omega))
         clear hqa hsa hxa hqb hmb f3 f13 f14 f21 f22 f28))
     go_roundw
     case rel=>exact⟨k+1,by go_num,hkl,WB.ext HB.out HXB.out,HX.out.trans HXB.out⟩
     case measure=>simp[intOf]<;>omega
    ·obtain rfl:k=P.length:=by omega
     have dkl:decide ((P.length:Int)<(P.length:Int))=false:=by simp
     go_wp2_with fail
     go_ret
     exact⟨rfl,HX.out⟩
end Go.Proofs.YtpanapepcbbagaaGreat
