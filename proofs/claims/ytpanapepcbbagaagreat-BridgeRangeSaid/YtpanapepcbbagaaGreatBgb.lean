/- Part 2 of what BridgeRange stands on. No statement is proved here. -/
import Derived.Test.YtpanapepcbbagaaGreatBga
set_option linter.unusedVariables false
set_option linter.unusedSimpArgs false
set_option maxRecDepth 100000
set_option maxHeartbeats 8000000
namespace Go.Proofs.YtpanapepcbbagaaGreat
open Go.RowKit Go.BigFrame Go.WideShapes Go.ChangeShapes Go.Deep
def aH5:Array Value:=#[.int .u8 0,.int .u8 0,.bool false,.int .i64 0,.bool false,.bool false,.bool false,.bool false,.bool false,.bool false,.int .i64 0,.int .u64 0,.int .u32 0,.int .u64 0,.int .u16 0,.int .u16 0,.int .i64 0,.int .i64 0,.int .i64 0,.int .i64 0]
theorem aFZ:∀w,(zeroValue 48).run Tryz.prog w=.ok (.agg aH5) w:=(zero_of_info (P:=Tryz.prog) (t:=48) (v:=.agg aH5) (n:=20) (by kernel_rfl)).1
theorem vZ:(Tryz.prog.info? 48).map (·.size)=some 20:=by kernel_rfl
theorem aH6{m:Nat}{xs:List Value}(ht:RowTyped AL m xs){i:Nat}(hi:i<m):∃(u p:Nat) (b:Bool) (l:List Value),u<256∧p<256∧l.length=17∧Typed ML l∧l=(xs.drop (i*20+3)).take 17∧(xs.drop (i*20)).take 20=.int .u8 (u:Int) :: .int .u8 (p:Int) :: .bool b :: l:=by
 have h2:=ht.2 i hi
 rw[show AL.length=20 from rfl]at h2
 have h3:=(aFY ht hi).2
 have u8:∀{j:Nat},AL[j]?=some (some .u8)→∃u:Nat,u<256∧((xs.drop (i*20)).take 20)[j]?=some (.int .u8 (u:Int)):=fun {j} hj=>by
  obtain⟨z,hz,hw⟩:=h2.int j .u8 hj
  have hr:0≤z∧z<256:=by simp[Lit.wf,IntKind.min,IntKind.max,IntKind.signed,IntKind.bits]at hw;omega
  exact⟨z.toNat,by omega,by rw[hz,show((z.toNat:Nat):Int)=z by omega]⟩
 obtain⟨u,hu,c0⟩:=u8 (j:=0) rfl
 obtain⟨p,hp,c1⟩:=u8 (j:=1) rfl
 obtain⟨b,c2⟩:=h2.bool 2 rfl
 have hl:((xs.drop (i*20+3)).take 17).length=17:=h3.1
 refine⟨u,p,b,_,hu,hp,hl,h3,rfl,?_⟩
 apply List.ext_getElem?
 intro j
 match j with
 | 0=>exact c0
 | 1=>exact c1
 | 2=>exact c2
 | j+3 =>
  show _=((xs.drop (i*20+3)).take 17)[j]?
  rw[List.getElem?_take,List.getElem?_take,List.getElem?_drop,List.getElem?_drop]
  by_cases h:j<17
  ·rw[if_pos (by omega),if_pos h,show i*20+(j+3)=i*20+3+j from by omega]
  ·rw[if_neg (by omega),if_neg h]
theorem y7{J:Br→Prop}(rst:Bool)(v:Value)(P:List Pt)(w:World)(hP:PtsAt w v P)(hr:∀p∈P,PtR p)(h0:0<P.length)(h5:P.length≤5)(va:Value)(m:Nat)(xs:List Value)(hA:ActsAt w va m xs)(hM:∀i,i<m→MT ((xs.drop (i*20+3)).take 17))(hJ:rW P.length J)(hJ0:J (NB rst P)):
    Calls Tryz.prog 16 #[.bool rst,v,va] w fun e w'=>∃c B,e=.returned (.tuple #[.agg c,.bool true])∧VB w' w.heap.size c B∧RQ P.length B∧J B∧Ext w w':=by
 have HP:=hD hP
 have HR:=hD hr
 have HJ:=hD hJ
 have HJ0:=hD hJ0
 have HMT:=hD hM
 obtain⟨pa,pcap,rfl,-,-⟩:=hP
 obtain⟨aa,acap,rfl,ham,hrt,haf⟩:=hA
 have HAF:=hD haf
 have HRT:=hD hrt
 clear hr hJ hJ0 hM haf hrt
 go_enter Tryz.func16,Tryz.ntmps16
 go_wp2_with (first
  | fail
  | ((with_reducible refine bS 35 ?_);refine b6 rfl 35 rfl oR jK ?_
     intro RB w1 hq hsz hx
     have HRB:=hD hq
     have HX1:=hD hx
     have HRW:=hD (show w.heap.size≤RB from Nat.le_of_eq hsz)
     clear hq hsz hx)
  | ((with_reducible refine cJ 24 ?_);refine bG rfl 24 _ rfl _ rfl _ aIW ?_))
 refine(yT w1 _ P (aL9 HP.out HX1.out) (by omega)).mono ?_
 rintro e w2 ⟨v2,rfl,hP2,hx2⟩
 have HP2:=hD hP2
 have HX2:=hD hx2
 clear hP2 hx2
 go_wp2_with fail
 refine(nP 7 0 20 2 15 6 rst v2 P w2 HP2.out (by omega) (by decide) (by decide) HR.out rfl rfl rfl rfl).mono ?_
 rintro e w3 ⟨c,ok,rfl,hok,hnew,hx3⟩
 obtain rfl:ok=true:=hok.2 (aH4 (by omega))
 have HSZ:=hD hnew.sz
 rcases hnew with ⟨-,u,hc,hown⟩|⟨h,-⟩
 case inr=>cases h
 have HC:=hD hc
 have HO3:=hD hown
 have HX3:=hD hx3
 clear hok hown hx3 hc
 go_wp2_with (first
  | fail
  | ((with_reducible refine bS 35 ?_);refine b6 rfl 35 rfl oR jK ?_
     intro X w4 hq hsz hx)
  | ((with_reducible refine aD 35 ?_);refine nQ rfl rfl 35 _ _ rfl X c oR 35 rfl rfl hq HSZ.out.1 fP HSZ.out.2 ?_
     intro w5 hq5 hm5
     have HQ5:=hD hq5
     have HO5:=hD (lB (j2 HO3.out hx) hm5 (fun g h1 h2=>by have h3:g=X:=h2;have h4:=(gO HO3.out h1).2;omega))
     have HX5:=hD (show Ext w2 w5 from HX3.out.trans (hx.mutE hm5 (fun g hg h=>by have h2:g=X:=h;omega)))
     have HXN:=hD (show w2.heap.size≤X from by have:=HX3.out.size;omega)
     clear hq hsz hx hq5 hm5 HO3 HX3))
 have hRB5:=((HX2.out.trans HX5.out).block RB (aC HRB.out)).trans HRB.out
 have HRB2:=hD ((HX2.out.block RB (aC HRB.out)).trans HRB.out)
 have HRN:=hD (show RB<w2.heap.size from nL (aC HRB.out) HX2.out.size)
 obtain⟨g,hB⟩:=aFN (N:=fun n=>w2.heap.size≤n) (B:=NB rst P) (HC.out▸HQ5.out) HO5.out h0 (fun n hn=>hn) HXN.out ⟨rfl,rfl,rfl,rfl⟩
 have hdn:aIY P.length (NB rst P):=⟨rfl,fun i hi=>aL8 rfl hi⟩
 refine(rT (M:=0) (f:=1) ((aFT (by omega)).and HJ.out.run) (by decide) h5 h0 (by decide) (NB rst P) w5 (fun n hn=>Nat.le_trans HX5.out.size hn) hB (aIS HR.out rfl) (fun h=>by cases h) (fun _ i hi=>(hdn.2 i hi).1) ⟨hdn,HJ0.out⟩).mono ?_
 rintro e w6 ⟨k,B',rfl,hB6,hm6,hK,hDN,hJ6⟩
 have HRB6:=hD ((hm6.heap (aC hRB5) (fun h=>by have h1:w2.heap.size≤RB:=h;have h2:=HRN.out;omega)).trans hRB5)
 have HX6:=hD (show Ext w w2 from HX1.out.trans HX2.out)
 have HM6:=hD (show Mut (fun n=>w2.heap.size≤n) w2 w6 from(HX5.out.mut _).trans hm6)
 have HB6:=hD hB6
 have HRQ:=hD (show RQ P.length B' from⟨hK.mono (by omega),hDN.1⟩)
 have HJ6:=hD hJ6
 clear hB hB6 hm6 hK hDN hJ6 hRB5 HQ5 HO5 HC HSZ hdn HX1 HX2 HX5 HP2 HJ0
 go_wp2_with fail
 go_loopw [12,11] (fun si sr wr=>∃(i:Nat) (C:Br),si=.int .i64 i∧sr=.bool true∧i≤m∧WB (fun n=>w2.heap.size≤n) X g C wr∧RQ P.length C∧J C∧Mut (fun n=>w2.heap.size≤n) w2 wr) (fun si _ _=>m - (intOf si).toNat)
 case atStart=>exact⟨0,B',rfl,rfl,by omega,HB6.out,HRQ.out,HJ6.out,HM6.out⟩
 case round =>
  have hRBs:=HM6.out.size
  clear HB6 HRQ HJ6
  obtain⟨i,C,rfl,rfl,hi,hB,hQ,hj,hm⟩:=hrel
  rename World=>wl
  have HB:=hD hB
  have HQ:=hD hQ
  have HJC:=hD hj
  have HM:=hD hm
  clear hB hQ hj hm
  have hpp:decide ((P.length:Int) > 0)=true:=by simp;omega
  by_cases hlm:i<m
  ·have dlm:decide ((i:Int)<(m:Int))=true:=by simp;omega
   have hupi:IntKind.i64.wrap ((i:Int)+1)=((i+1:Nat):Int):=by rw[IntKind.wrap_i64];omega
   obtain⟨b,off,rfl,hb,hc1,hc2,hrg⟩:=HAF.out (by omega)
   obtain⟨u,p,bo,l,hu,hp,hl17,hlt,hle,hrow⟩:=aH6 HRT.out hlm
   have HML:=hD (show MT l from hle▸HMT.out i hlm)
   obtain⟨L,hL⟩:∃L,.int .u8 (u:Int) :: .int .u8 (p:Int) :: .bool bo :: l=L:=⟨_,rfl⟩
   have hL20:L.length=20:=by rw[←hL];simp[hl17]
   have HL:=hD hL
   have HL20:=hD hL20
   have HL1:=hD (show L.toArray.toList.all (·.oneCell')=true from by
    have h2:=HRT.out.one
    show L.all _=true
    rw[List.all_eq_true]
    intro x hx
    refine h2 x ?_
    rw[←hL,←hrow]at hx
    exact List.mem_of_mem_drop (List.mem_of_mem_take hx))
   have HAR:=hD (show wl.rangeAt b (off+i*20) L from fun j v hv=>by
    have hb2:b<w2.heap.size:=nL hb HX6.out.size
    have h3:wl.cell? ⟨b,off+(i*20+j),none⟩=w.cell? ⟨b,off+(i*20+j),none⟩:=(HM.out.cell (p:=⟨b,off+(i*20+j),none⟩) hb2 (fun h=>by have h4:w2.heap.size≤b:=h;omega)).trans (HX6.out.cell (p:=⟨b,off+(i*20+j),none⟩) hb)
    rw[show off+i*20+j=off+(i*20+j)from by omega,h3]
    refine hrg (i*20+j) v ?_
    rw[←hL,←hrow,List.getElem?_take]at hv
    split at hv
    ·rw[List.getElem?_drop]at hv;exact hv
    ·cases hv)
   have HSI:=hD (show(Tryz.prog.info? 48).map (·.size)=some L.length by rw[hL20];exact vZ)
   have HMS:=hD (show(Tryz.prog.info? 46).map (·.size)=some l.length by rw[hl17];exact fI)
   clear hrg hle hrow hL hL20 hlt hl17
   obtain⟨q,hq⟩:∃q,Int.tmod (p:Int) (P.length:Int)=q:=⟨_,rfl⟩
   obtain ⟨kq,hkq⟩:∃kq:Nat,q=(kq:Int)∧kq<P.length:=by
    rw[←hq,Int.tmod_eq_emod_of_nonneg (show(0:Int)≤(p:Int) by omega)]
    have h1:=Int.emod_nonneg (p:Int) (show(P.length:Int)≠0 by omega)
    have h2:=Int.emod_lt_of_pos (p:Int) (show(0:Int)<P.length by omega)
    exact⟨((p:Int) % P.length).toNat,by omega,by omega⟩
   obtain⟨rfl,hkl⟩:=hkq
   have hwp:IntKind.i64.wrap (p:Int)=(p:Int):=by rw[IntKind.wrap_i64];omega
   have hn0:((P.length:Int) == 0)=false:=by simp;intro h;simp[h]at h0
   have hwq:IntKind.i64.wrap (kq:Int)=(kq:Int):=by rw[IntKind.wrap_i64];omega
   obtain⟨r,hr4⟩:∃r,Int.tmod (u:Int) 4=r:=⟨_,rfl⟩
   have hr:r=0∨r=1∨r=2∨r=3:=by
    rw[←hr4,Int.tmod_eq_emod_of_nonneg (show(0:Int)≤(u:Int) by omega)]
    omega
   have hwr:IntKind.u8.wrap r=r:=by rcases hr with rfl|rfl|rfl|rfl<;>rfl
   have HR4:=hD hr
   clear hr
   go_upto_region 12 with (first
    | fail
    | ((with_reducible refine aG 48 ?_);refine wpList_load_mid rfl 48 _ rfl b (off+i*20) rfl L _ HAR.out Tryz.underlying48 rfl HSI.out ?_)
    | ((with_reducible refine bS 48 ?_);refine b6 rfl 48 rfl aH5 aFZ ?_
       intro Y wa hqa hsa hxa)
    | ((with_reducible refine aD 48 ?_);refine nQ rfl rfl 48 _ _ rfl Y L.toArray aH5 48 rfl rfl hqa (by rw[List.size_toArray];exact HL20.out) vZ HL1.out ?_
       intro wb hqb hmb
       have hlen:=HL20.out
       have c0:wb.cell? ⟨Y,0,none⟩=some (.int .u8 (u:Int)):=by rw[bA hqb,←HL.out];rfl
       have c1:wb.cell? ⟨Y,1,none⟩=some (.int .u8 (p:Int)):=by rw[bA hqb,←HL.out];rfl
       have c2:wb.cell? ⟨Y,2,none⟩=some (.bool bo):=by rw[bA hqb,←HL.out];rfl
       have HRM:=hD (show wb.rangeAt Y 3 l from fun j v hv=>by
        rw[bA hqb,←HL.out,List.getElem?_toArray,show 3+j=j+3 from by omega]
        exact hv)
       have HXB:=hD (show Ext wl wb from hxa.mutE hmb (fun g hg h=>by have h2:g=Y:=h;omega))
       clear hqa hsa hxa hqb hmb hlen))
   have hnp:C.np=P.length:=HQ.out.1.1.np
   have hok:=HQ.out.1.1.ok
   have HBB:=hD (WB.ext HB.out HXB.out)
   have HMB:=hD (HM.out.trans (HXB.out.mut _))
   have HNP:=hD hnp
   have HOK:=hD hok
   clear HB HM hnp hok hq hr4
   rcases HR4.out with rfl|rfl|rfl|rfl
   case' inl =>
    clear HR4
    go_wp2_with fail
    refine(yU HBB.out HOK.out (by rw[HNP.out];omega)).mono ?_
    rintro e w7 ⟨rfl,hBc,hmc⟩
    have HE:=hD (show ∃D,WB (fun n=>w2.heap.size≤n) X g D w7∧AR0 P.length J D∧Mut (fun n=>w2.heap.size≤n) w2 w7 from⟨_,hBc,HQ.out.tick (by omega) HJ.out HJC.out,HMB.out.trans hmc⟩)
    clear hBc hmc
   case' inr.inl =>
    clear HR4
    go_wp2_with fail
    refine(qB (k:=kq) HBB.out HOK.out (by rw[HNP.out];exact hkl) (by rw[HNP.out];omega) bo).mono ?_
    rintro e w7 ⟨d,C',rfl,hBc,hmc,hR⟩
    have HC:=hD (show AR0 P.length J C' from by
     rcases hR with ⟨-,-,rfl⟩|⟨-,-,rfl⟩
     ·exact HQ.out.same (by omega) HJC.out
     ·exact HQ.out.en (by omega) HJ.out HJC.out hkl bo)
    have HE:=hD (show ∃D,WB (fun n=>w2.heap.size≤n) X g D w7∧AR0 P.length J D∧Mut (fun n=>w2.heap.size≤n) w2 w7 from⟨_,hBc,HC.out,HMB.out.trans hmc⟩)
    clear hBc hmc hR HC
   case' inr.inr.inl =>
    clear HR4
    go_wp2_with (first
     | fail
     | ((with_reducible refine aG 46 ?_);refine wpList_load_mid rfl 46 _ rfl Y 3 rfl l _ HRM.out Tryz.underlying46 rfl HMS.out ?_))
    refine(aFM HBB.out HOK.out (by rw[HNP.out];omega) (kq:Int) HML.out.1).mono ?_
    rintro e w7 ⟨d,C',rfl,hBc,hmc,rfl⟩
    have HE:=hD (show ∃D,WB (fun n=>w2.heap.size≤n) X g D w7∧AR0 P.length J D∧Mut (fun n=>w2.heap.size≤n) w2 w7 from⟨_,hBc,HQ.out.take (by omega) HJ.out HJC.out (kq:Int) HML.out,HMB.out.trans hmc⟩)
    clear hBc hmc
   case' inr.inr.inr =>
    clear HR4
    go_wp2_with fail
    refine(aCR (k:=kq) HBB.out HOK.out (by rw[HNP.out];exact hkl) (by rw[HNP.out];omega)).mono ?_
    rintro e w7 ⟨d,C',rfl,hBc,hmc,hR⟩
    have HC:=hD (show AR0 P.length J C' from by
     rcases hR with rfl|rfl
     ·exact HQ.out.same (by omega) HJC.out
     ·exact HQ.out.chk (by omega) HJ.out HJC.out hkl)
    have HE:=hD (show ∃D,WB (fun n=>w2.heap.size≤n) X g D w7∧AR0 P.length J D∧Mut (fun n=>w2.heap.size≤n) w2 w7 from⟨_,hBc,HC.out,HMB.out.trans hmc⟩)
    clear hBc hmc hR HC
   all_goals
    obtain⟨D,hB,hA,hm⟩:=HE.out
    clear HE HQ HJC HXB
    have HM7:=hD hm
    go_wp2_with fail
    refine(rT (M:=50000) (f:=0) HJ.out.run (by decide) h5 h0 (by decide) D w7 (fun n hn=>Nat.le_trans HM7.out.size hn) hB hA.1 (fun _=>hA.2.1) (fun h=>by cases h) hA.2.2).mono ?_
    rintro e w8 ⟨k8,B8,rfl,hB8,hm8,hR8,hJ8⟩
    have HM8:=hD (HM7.out.trans hm8)
    have HR8:=hD hR8
    have HJ8:=hD hJ8
    obtain⟨rx,hrx,hrz,hre⟩:=WB.nilOut hB8 hR8.1.ok
    have HRE:=hD hre
    have HRX:=hD hrx
    have HRZ:=hD hrz
    clear hB hA hm hB8 hm8 hR8 hJ8 hrx hrz hre HM7
    go_wp2_with (first
     | fail
     | ((with_reducible refine aD 32 ?_);refine aAP rfl rfl 32 _ _ rfl X 18 (.slice none 0 0) rx 35 rfl rfl HRX.out (by rw[HRZ.out];decide) rfl (by kernel_rfl) rfl ?_
        intro wy hqy hmy
        have HBY:=hD (HRE.out wy hqy hmy)
        obtain⟨ry,hry,hrw,hrf⟩:=WB.nilFl HBY.out HR8.out.1.nil0.ok
        have HRF:=hD hrf
        have HRY:=hD hry
        have HRV:=hD hrw
        have HMY:=hD (HM8.out.trans (hmy.mono (fun n _ h=>by have h2:n=X:=h;have h3:=HXN.out;omega)))
        clear hqy hmy hry hrw hrf)
     | ((with_reducible refine aD 33 ?_);refine aAP rfl rfl 33 _ _ rfl X 19 (.slice none 0 0) ry 35 rfl rfl HRY.out (by rw[HRV.out];decide) rfl (by kernel_rfl) rfl ?_
        intro wz hqz hmz
        have HBZ:=hD (HRF.out wz hqz hmz)
        have HMZ:=hD (HMY.out.trans (hmz.mono (fun n _ h=>by have h2:n=X:=h;have h3:=HXN.out;omega)))
        clear hqz hmz))
    go_roundw
    case rel =>
     exact⟨i+1,B8.nil,by go_num,rfl,hlm,HBZ.out,⟨(HR8.out.nil (by omega)).mono (by omega),rfl⟩,HJ.out.nil _ HJ8.out,HMZ.out⟩
    case measure=>simp[intOf]<;>omega
  ·obtain rfl:i=m:=by omega
   have dlm:decide ((i:Int)<(i:Int))=false:=by simp
   obtain⟨c6,hrow,hvb⟩:=WB.vb HB.out
   have HSZ6:=hD (hvb.sz HQ.out.1.1.ok)
   have HROW:=hD hrow
   have HVB:=hD hvb
   have HRBL:=hD (show wl.heap[RB]?=some (.cells oR 35 (0,0))from(HM.out.heap (aC HRB2.out) (fun h=>by have h1:w2.heap.size≤RB:=h;have h2:=HRN.out;omega)).trans HRB2.out)
   have HXL:=hD (show Ext w wl from HX6.out.mutE HM.out (fun j hj h=>by have h2:w2.heap.size≤j:=h;have h3:=HX6.out.size;omega))
   clear hrow hvb
   go_wp2_with (first
    | fail
    | ((with_reducible refine aG 35 ?_);refine wpList_load_row rfl 35 _ rfl X rfl 35 c6 (0,0) _ HROW.out Tryz.underlying35 rfl (by rw[HSZ6.out.1];exact fP) ?_)
    | ((with_reducible refine aD 35 ?_);refine nQ rfl rfl 35 _ _ rfl RB c6 oR 35 rfl rfl HRBL.out HSZ6.out.1 fP HSZ6.out.2 ?_
       intro wz hqz hmz
       have HRZ:=hD hqz
       have HMZ:=hD hmz
       clear hqz hmz))
   refine bodyPost_ret (eS rfl _ _ RB _ _ (0,0) _ rfl HRZ.out Tryz.underlying35 rfl (by rw[HSZ6.out.1];exact fP)) rfl ?_
   refine⟨c6,C,rfl,?_,HQ.out,HJC.out,HXL.out.mutE HMZ.out (fun n h1 h2=>by have h3:n=RB:=h2;have h4:=HRW.out;omega)⟩
   have hv:=HVB.out.mut HMZ.out (fun n h1 _ h2=>by have h3:n=RB:=h2;have h4:=HRN.out;omega)
   obtain⟨g',cap,cur,s2,s3,e1,hb,a,b,d,e,f,p,q⟩:=hv
   have hw:w.heap.size≤w2.heap.size:=HX6.out.size
   exact⟨g',cap,cur,s2,s3,e1,Nat.le_trans hw hb,a,b,d,e,f,p0 p hw,p0 q hw⟩
theorem aH7{w wr:World}{b off m i:Nat}{xs mL:List Value}(hrt:RowTyped AL m xs)(hlm:i<m)(hrg:w.rangeAt b off xs)(hx:Ext w wr)(hb:b<w.heap.size)(hmL:(xs.drop (i*20+3)).take 17=mL):
    wr.rangeAt b (off+i*20+3) mL∧Typed ML mL∧(Tryz.prog.info? 46).map (·.size)=some mL.length:=by
 have hmt:=(aFY hrt hlm).2
 rw[hmL]at hmt
 refine⟨fun j v hv=>?_,hmt,by rw[hmt.1];exact fI⟩
 have h2:=aFX hrg hx hb (i*20+3+j) v (by
  rw[←hmL,List.getElem?_take]at hv
  split at hv
  ·rw[List.getElem?_drop]at hv;exact hv
  ·cases hv)
 rw[show off+i*20+3+j=off+(i*20+3+j)from by omega]
 exact h2
theorem ActsAt.ext{w w':World}{v:Value}{m:Nat}{xs:List Value}(h:ActsAt w v m xs)(hx:Ext w w'):ActsAt w' v m xs:=by
 obtain⟨a,cap,e,h1,h2,h3⟩:=h
 refine⟨a,cap,e,h1,h2,fun h0=>?_⟩
 obtain⟨b,off,r1,r2,r3,r4,r5⟩:=h3 h0
 exact⟨b,off,r1,nL r2 hx.size,r3,r4,aFX r5 hx r2⟩
def FlZ:Array Value:=Array.replicate 29 (.bool false)
def flL(B:Br)(k:Nat):List Value:=(B.ps.drop (k*89+22)).take 29
section
variable {c d:Pc} {n M:Nat} {s:Nat→Nat} {B C:Br}
def GA(j:Nat):Bool:=!(j == 20 || j == 27 || j == 29)
theorem aM9(B:Br)(k:Nat):Fr GA B (tD B k).2:=by
 unfold tD lP nY nD nE
 repeat' split
 all_goals repeat (first|exact Fr.rf _ B|refine Fr.setp ?_ (by decide) (by decide))
theorem aMT(B:Br)(k:Nat):Fr GA B (gD B k).2:=by
 unfold gD cX dW fL
 repeat' split
 all_goals repeat (first|exact Fr.rf _ B|refine Fr.setp ?_ (by decide) (by decide))
theorem aML(B:Br)(k:Nat):Fr GA B (fM B k).2:=by
 unfold fM iM j6
 repeat' split
 all_goals repeat (first|exact Fr.rf _ B|refine Fr.setp ?_ (by decide) (by decide))
theorem aIX(B:Br)(k r:Nat):Fr GA B (dY B k r):=by
 unfold dY kT eG jU oL gF iN jV
 split
 all_goals repeat (first|exact Fr.rf _ B|refine Fr.setp ?_ (by decide) (by decide)|refine Fr.upd ?_ (by decide) (by decide) _)
theorem aNA(B:Br)(k:Nat):Fr GA B (oM B k).2:=by
 unfold oM mO
 repeat' split
 all_goals first|exact Fr.rf _ B|exact aIX B k _|exact(aIX B k _).setp (by decide) (by decide)
theorem aCT(B:Br)(k:Nat):Fr GA B (bF B k):=by
 unfold bF
 repeat' split
 all_goals repeat (first|exact Fr.rf _ B|refine Fr.setp ?_ (by decide) (by decide))
theorem aIC(h:Fr GA B C)(k:Nat):Fr GA B (dM C k):=by
 unfold dM dH
 refine Fr.tcpn ?_ (by decide) _
 repeat (first|exact h|refine Fr.setp ?_ (by decide) (by decide))
theorem aMU(B:Br)(k:Nat):Fr GA B (jN B k).2:=by
 unfold jN
 split
 ·have h:Fr GA B (B.flush k):=⟨rfl,rfl,rfl,rfl,Nat.le_refl _,fun _ _ _ _=>rfl⟩
  exact Fr.setp (k:=k) (j:=25) (v:=.bool false) h (by decide) (by decide)
 ·unfold pJ dR fT i5 gG pH
  repeat' split
  all_goals repeat (first
   | exact Fr.rf _ B
   | exact aCT B k
   | exact aIC (Fr.rf _ B) k
   | exact aIC (aCT B k) k
   | exact Fr.tcpn (aCT B k) (by decide) _
   | refine Fr.setp ?_ (by decide) (by decide))
theorem aNB(B:Br)(k i:Nat){j:Nat}(hj:GA j=false):(wC B k).2.ps[i*89+j]?=B.ps[i*89+j]?:=by
 have hlt:j<89:=by unfold GA at hj;simp at hj;omega
 have st:∀(D:Br) (x:Nat) (v:Value),x<89→GA x=true→(D.setp k x v).ps[i*89+j]?=D.ps[i*89+j]?:=fun D x v hx hA=>by
  have hne:x≠j:=fun e=>by subst e;rw[hA]at hj;cases hj
  exact List.getElem?_set_ne (by omega)
 unfold wC gM kE dZ
 repeat' split
 all_goals repeat (first|rfl|refine(st _ _ _ (by decide) (by decide)).trans ?_)
def KL(L M:List Value):Prop:=M.length=89∧∀x,x=20∨x=27∨x=29→M[x]?=L[x]?
variable {L N:List Value}
theorem KL.set(h:KL L N){j:Nat}{v:Value}(hj:j≠20∧j≠27∧j≠29:=by decide):KL L (N.set j v):=⟨by rw[List.length_set];exact h.1,fun x hx=>(List.getElem?_set_ne (by omega)).trans (h.2 x hx)⟩
theorem KL.row(h:KL L N){j:Nat}{l:List Value}(hj:(j=68∧l.length=5)∨(j=78∧l.length=4)):KL L (setL N j l):=⟨bH h.1 (by omega),fun x hx=>(eD h.1 (by omega) (by omega)).trans (h.2 x hx)⟩
theorem KL.prop(h:KL L N)(p:Bool):KL L (dU p N):=by
 cases p
 ·exact h
 ·exact h.set
theorem KL.agr(h:KL L N)(p:Bool):KL L (iF p N):=by
 cases p
 ·exact h.set
 ·exact h.set.set
theorem KL.chg(h:KL L N)(p q:Bool):KL L (l8 p q N):=h.set.set
theorem KL.inf(h:KL L N)(p:Bool):KL L (aAW p N):=by
 cases p
 ·exact h
 ·exact h.set.set
theorem KL.oth(h:KL L N)(p:Bool):KL L (aAX p N):=by
 cases p
 ·exact h
 ·exact h.set
theorem aK6(hl:L.length=89)(rst:Bool):KL L (lD rst L).2:=by
 have h0:KL L L:=⟨hl,fun _ _=>rfl⟩
 have hle:=aE8 (pB L 2) (pI L 86 == 0) (pI L 18 == 0) (pB L 36) (pI L 18 == 1) (pI L 18 == 2) (pB L 44) (pB L 50) (pI L 86 == 3) (pI L 11 == 0)
 unfold lD
 rcases(by unfold iZ;omega:iZ L=0∨iZ L=1∨iZ L=2∨iZ L=3∨iZ L=4)with h|h|h|h|h<;>rw[h]
 ·exact h0
 ·show KL L (qI L)
  unfold qI nB
  exact h0.set.set.set.set.set.set.set.set.set.set
 ·show KL L (qJ L)
  unfold qJ nB
  exact h0.set.set.set.set
 ·show KL L (lK L)
  unfold lK aGG aDV
  exact(((h0.set.set.set.set.row (.inl ⟨rfl,rfl⟩)).row (.inr ⟨rfl,rfl⟩)).set.set.set).set
 ·show KL L (j7 rst L)
  unfold j7 lJ
  split
  ·unfold aDU nB
   exact(((((((h0.set.set.prop _).chg _ _).set.agr _).set.row (.inl ⟨rfl,rfl⟩)).row (.inr ⟨rfl,rfl⟩)).set.set.set.set).set).set
  ·exact((((h0.prop _).chg _ _).agr _).set).set.set
  ·exact(h0.inf _).set.set
  ·exact((h0.agr _).chg _ _).set.set
  ·exact(h0.oth _).set.set
theorem aNC(hK:KI n M s B){k j:Nat}(hk:k<n)(hj:j<8)(h5:j≠5)(i:Nat){x:Nat}(hx:x=20∨x=27∨x=29):pc (fF j B k).2 i x=pc B i x:=by
 have hkp:k<B.np:=by rw[hK.np];exact hk
 have hx9:x<89:=by omega
 have hA:GA x=false:=by rcases hx with rfl|rfl|rfl<;>rfl
 have go:∀{D:Br},Fr GA B D→pc D i x=pc B i x:=fun h=>by rw[jZ hx9,jZ hx9,h.ps i x hx9 hA]
 rcases(by omega:j=0∨j=1∨j=2∨j=3∨j=4∨j=6∨j=7)with rfl|rfl|rfl|rfl|rfl|rfl|rfl
 ·exact go (aM9 B k)
 ·exact go (aMT B k)
 ·exact go (aML B k)
 ·have hl:=nT (dI hK.ok hkp)
  obtain⟨h1,h2⟩:=aK6 hl (B.hb 1)
  show pc (B.setPort k (lD (B.hb 1) (a9 B.ps k)).2) i x=_
  rw[pV h1 (mT hK.ok hkp)]
  split
  ·rename_i e
   rw[e]
   exact h2 x hx
  ·rfl
 ·exact go (aNA B k)
 ·exact go (aMU B k)
 ·rw[jZ hx9,jZ hx9]
  exact aNB B k i hA
def PSc(c:Pc):Prop:=(gI c 20=0∧gB c 27=false∧gB c 29=false)∨(gI c 20=1∧gB c 27=false)∨gI c 20=2
theorem aCW(h:∀x,x=20∨x=27∨x=29→d x=c x)(hp:PSc c):PSc d:=by
 unfold PSc gI gB at hp ⊢
 rw[h 20 (by omega),h 27 (by omega),h 29 (by omega)]
 exact hp
theorem aMV{k:Nat}(hk:Lk k B)(h:PSc (pc B k)):PSc (pc (gT B k).2 k):=by
 have l:pc (fN B k) k=up (up (pc B k) 29 (.bool true)) 20 (.int .i64 1):=by
  simp (disch:=first|decide|exact hk|(simp only[bC];exact hk))only[fN,a8]
 have t:pc (fA B k) k=up (up (up (pc B k) 29 (.bool false)) 27 (.bool false)) 20 (.int .i64 0):=by
  simp (disch:=first|decide|exact hk|(simp only[bC];exact hk))only[fA,a8]
 have f:pc (dN B k) k=up (up (pc B k) 27 (.bool true)) 20 (.int .i64 2):=by
  simp (disch:=first|decide|exact hk|(simp only[bC];exact hk))only[dN,a8]
 unfold gT
 rw[gN (j:=20) (by decide)]
 unfold PSc at h ⊢
 split
 ·rename_i h0
  split
  ·show _∨_∨_
   rw[l]
   simp[aV,bE,aA6,aCF]
   grind
  ·exact h
 split
 ·split
  ·rw[t]
   simp[aV,bE,aA6,aCF]
  ·split
   ·rw[f]
    simp[aV,aA6]
   ·exact h
 split
 ·split
  ·rw[t]
   simp[aV,bE,aA6,aCF]
  ·exact h
 ·exact h
theorem aK7(hK:KI n M s B)(hn:n<1000){i j:Nat}(hi:i<n)(hj:j<89)(hne:j≠43∧j≠44∧j≠88∧j≠50∧(j<73∨78≤j)∧(j<82∨86≤j)):pc (gA B).2 i j=pc B i j:=by
 have ho:=hK.ok
 have hl:B.np*89≤B.ps.length:=by rw[ho.len];exact Nat.le_refl _
 have hi2:i<B.np:=by rw[hK.np];exact hi
 have e0:(lW B B.np).ps[i*89+j]?=B.ps[i*89+j]?:=by
  show(B.upd 43 (fun _=>.bool false) B.np).ps[i*89+j]?=_
  rw[l6 B (by decide) _ hl hj,if_neg (by omega)]
 unfold gA
 split
 ·have okN:=o4 ho (Nat.le_refl B.np)
  have npN:(lW B B.np).np=B.np:=gS B 43 _ _
  have ok2:(dO (lW B B.np)).ok:=pR okN (by rw[npN,hK.np];exact hn) (fun k hk=>by
   rw[wM ho (by decide) (by decide)]
   have:=hK.pt k (by rw[←hK.np,←npN];exact hk)
   unfold PI at this
   omega)
  have iD:i<(dO (lW B B.np)).np:=by show i<(lW B B.np).np;rw[npN];exact hi2
  show pc (eF (dO (lW B B.np)) B.np) i j=_
  rw[jZ hj,jZ hj,rQ ok2 B.np (by show B.np≤(lW B B.np).np;rw[npN];exact Nat.le_refl _) i j iD hj,if_pos hi2,aJ3 (nT (dI ok2 iD)) ⟨by omega,by omega,by omega,by omega,by omega⟩,aI hj]
  exact e0
 ·show pc (lW B B.np) i j=_
  rw[jZ hj,jZ hj]
  exact e0
theorem aK8(hn:n<1000):Keeps n s (fun B=>∀i,i<n→PSc (pc B i)):=by
 refine⟨fun M B hK ha h i hi=>aCW (fun x hx=>aK7 hK hn hi (by omega) (by omega)) (h i hi),fun M k j B hK hk hj ha h i hi=>?_⟩
 by_cases h5:j=5
 ·subst h5
  have hl:=mT hK.ok (show k<B.np by rw[hK.np];exact hk)
  by_cases hik:i=k
  ·subst hik
   exact aMV hl (h i hi)
  ·exact aCW (fun x _=>by show pc (gT B k).2 i x=_;rw[((s5 hl).core (fun h=>h.1)).2 i hik]) (h i hi)
 ·exact aCW (fun x hx=>aNC hK hk hj h5 i hx) (h i hi)
theorem aLL(hK:KI n M s B){k j:Nat}(hk:k<n)(hj:j<8)(ha:AI (pc B k)):(eV (pc B k) (pc (fF j B k).2 k)∨RxR (pc B k) (pc (fF j B k).2 k)∨InR (pc B k) (pc (fF j B k).2 k)∨∃e,TrO (pc B k) (pc (fF j B k).2 k) e)∧∀i,i≠k→eV (pc B i) (pc (fF j B k).2 i):=by
 have hkp:k<B.np:=by rw[hK.np];exact hk
 have hl:=mT hK.ok hkp
 have same:∀{C:Br},(∀i,i≠k→pc C i=pc B i)→∀i,i≠k→eV (pc B i) (pc C i):=fun h i hi=>by rw[h i hi];exact bJ _
 rcases(by omega:j=0∨j=1∨j=2∨j=3∨j=4∨j=5∨j=6∨j=7)with rfl|rfl|rfl|rfl|rfl|rfl|rfl|rfl
 ·obtain⟨-,h1,h2⟩:=aE7 hl
  exact⟨.inr (.inl h1),same h2⟩
 ·obtain⟨h1,h2⟩:=(sZ hl).core (fun h=>h.1)
  exact⟨.inl h1,same h2⟩
 ·obtain⟨h1,h2⟩:=(pX hl).core (fun h=>h.1)
  exact⟨.inl h1,same h2⟩
 ·obtain⟨-,-,h1,h2⟩:=s8 hK.ok hkp (hK.timR hk)
  exact⟨.inr (.inr (.inl h1)),same h2⟩
 ·rcases yK hK.ok hkp hK.hs.2.1 hK.hs.2.2.1 hK.hs.2.2.2.1 ha.2.1 with e|⟨-,⟨h1,h2⟩|⟨h1,h2⟩⟩
  ·have e2:(fF 4 B k).2=B:=by show(oM B k).2=B;rw[e]
   rw[e2]
   exact⟨.inl (bJ _),fun i _=>bJ _⟩
  ·exact⟨.inr (.inr (.inr ⟨_,h1⟩)),same h2⟩
  ·exact⟨.inr (.inr (.inr ⟨_,h1⟩)),fun i hi=>(h2 i hi).elim (fun h=>by show eV _ (pc (oM B k).2 i);rw[h];exact bJ _) (fun h=>(aE1 h).1)⟩
 ·obtain⟨h1,h2⟩:=(s5 hl).core (fun h=>h.1)
  exact⟨.inl h1,same h2⟩
 ·rcases s7 hK.ok hkp (yQ ha)with h1|⟨-,h1,h2⟩
  ·obtain⟨h1,h2⟩:=h1.core (fun h=>h.1)
   exact⟨.inl h1,same h2⟩
  ·exact⟨.inl h1.1,fun i hi=>(h2 i hi).elim (fun h=>by show eV _ (pc (jN B k).2 i);rw[h];exact bJ _) (fun h=>(zV h).1)⟩
 ·obtain⟨h1,h2⟩:=(yH hl hK.hs.2.2.1 hK.hs.2.2.2.2).core (fun h=>h.1)
  exact⟨.inl h1,same h2⟩
structure Kp (p:Pc→Prop):Prop where
 cp:CP p
 rx:∀c d,AI c→p c→RxR c d→p d
 inf:∀c d,AI c→p c→InR c d→p d
 tr:∀c d e,AI c→p c→TrO c d e→p d
 se:∀c d,AI c→p c→SeR c d→p d
theorem aMW(hK:KI n M s B)(hn:n<1000)(ha:∀i,i<n→AI (pc B i)):(gA B=(false,B)∧∀i,i<n→gB (pc B i) 43=false)∨((gA B).1=true∧∀i,i<n→SeR (pc B i) (pc (gA B).2 i)) :=
 s9 hK.ok hK.np hn (fun k hk=>by
  have:=hK.pt k (by rw[←hK.np];exact hk)
  unfold PI at this
  omega) (fun i hi=>(ha i hi).2.2.1)
def L2(c:Pc):Prop:=gB c 2=false
def D0(c:Pc):Prop:=gB c 2=false∧gB c 35=false∧gB c 36=false∧gI c 86=0∧gI c 87=0∧gI c 88=0
def AllD0(n:Nat)(B:Br):Prop:=B.no=0∧∀i,i<n→D0 (pc B i)
end
section
variable {c d:Pc} {n M:Nat} {s:Nat→Nat} {B C:Br}
theorem aMR{j k:Nat}(hj:j<8):(fF j B k).2.hd=B.hd:=by
 rcases(by omega:j=0∨j=1∨j=2∨j=3∨j=4∨j=5∨j=6∨j=7)with rfl|rfl|rfl|rfl|rfl|rfl|rfl|rfl
 ·exact(aIH B k).hd
 ·exact(aET B k).hd
 ·exact(zQ B k).hd
 ·rfl
 ·exact(aII B k).hd
 ·exact(aEU B k).hd
 ·exact(aEV B k).hd
 ·show(wC B k).2.hd=B.hd
  unfold wC gM kE dZ
  (repeat' split)<;>rfl
theorem aND(hK:KI n M s B){k j:Nat}(hk:k<n)(hj:j<8)(ha:AI (pc B k))(i:Nat):gI (pc (fF j B k).2 i) 88=gI (pc B i) 88:=by
 have co:∀{c d:Pc},eV c d→gI d 88=gI c 88:=fun h=>(aFD h).2.2.2.2.2.2.2.2
 obtain⟨h1,h2⟩:=aLL hK hk hj ha
 by_cases hik:i=k
 ·subst hik
  rcases h1 with h1|⟨d0,h1,h3⟩|⟨d0,h1,h3⟩|⟨e,h1⟩
  ·exact co h1
  ·refine(co h1).trans ?_
   rcases h3 with ⟨rfl,-⟩|⟨rfl,-⟩|⟨rfl,-⟩
   ·rfl
   all_goals simp only[aV,Nat.reduceEqDiff,if_false]
  ·refine(co h1).trans ?_
   rcases h3 with ⟨-,rfl⟩|⟨-,rfl⟩|⟨-,rfl⟩|⟨-,rfl⟩|⟨-,e,rfl,rfl|⟨z,rfl⟩|⟨z,rfl⟩⟩
   ·rfl
   all_goals simp only[oO,aV,Nat.reduceEqDiff,if_false]
  ·exact(kts h1.kt).2.2.2.2.2
 ·exact co (h2 i hik)
theorem aLO(a b:Bool){X:List Value}(h:X.length=89):(dsL a b X)[88]?=some (.int .i64 4):=by
 unfold dsL
 split
 ·exact cE h (by decide)
 ·exact(aF (by decide)).trans (cE h (by decide))
theorem aNE{L:List Value}(hl:L.length=89)(h86:0≤pI L 86∧pI L 86≤3)(k:Nat)(rp id:Int):∃x:Int,(chL k rp id L)[88]?=some (.int .i64 x)∧(x=3↔pI L 86=3∧(k:Int)=rp):=by
 unfold chL
 split
 ·exact⟨0,cE hl (by decide),by omega⟩
 split
 ·rename_i h0 h3
  split
  ·rename_i hc
   refine⟨_,(aF (by decide)).trans (cE hl (by decide)),?_⟩
   unfold kN
   by_cases e:(k:Int)=rp
   ·rw[if_pos (by simpa using e)]
    exact⟨fun _=>⟨h3,e⟩,fun _=>rfl⟩
   ·rw[if_neg (by simpa using e)]
    refine⟨fun h=>?_,fun h=>absurd h.2 e⟩
    split at h<;>omega
  ·rename_i hc
   refine⟨4,aLO _ _ (by rw[List.length_set];exact hl),fun h=>by omega,fun h=>?_⟩
   exact absurd (show((k:Int) == rp || !lsL L)=true by rw[Bool.or_eq_true];exact .inl (by simpa using h.2)) hc
 split
 ·exact⟨4,aLO _ _ (by rw[List.length_set];exact hl),by omega⟩
 split
 ·exact⟨4,aLO _ _ hl,by omega⟩
 ·omega
theorem aFU(B:Br):∀m,(fC B m).at_=-1→(fC B m).r=B.hi 0
 | 0,_=>rfl
 | m+1,h=>by
  unfold fC at h ⊢
  split
  ·rename_i hc
   rw[if_pos hc]at h
   have h2:(m:Int)=-1:=h
   omega
  ·rename_i hc
   rw[if_neg hc]at h
   exact aFU B m h
def RPB(n:Nat)(C:Br):Prop:=C.hi 0=7∧(∀i,i<n→gI (pc C i) 88=3→C.hi 12=i)∧((C.hi 12=-1∧C.hi 7=7)∨∃k:Nat,k<n∧C.hi 12=k∧gI (pc C k) 88=3)
theorem aJA(hd:C.hd=B.hd)(h88:∀i,i<n→gI (pc C i) 88=gI (pc B i) 88)(h:RPB n B):RPB n C:=by
 obtain⟨h1,h2,h3⟩:=h
 have hh:∀j,C.hi j=B.hi j:=fun j=>by unfold Br.hi;rw[hd]
 refine⟨(hh 0).trans h1,fun i hi e=>by rw[hh];exact h2 i hi ((h88 i hi).symm.trans e),?_⟩
 rw[hh,hh]
 rcases h3 with h3|⟨k,hk,h4,h5⟩
 ·exact .inl h3
 ·exact .inr ⟨k,hk,h4,(h88 k hk).trans h5⟩
theorem aMY(hK:KI n M s B)(hn:n<1000)(ha:∀i,i<n→AI (pc B i))(h:RPB n B):RPB n (gA B).2:=by
 have ho:=hK.ok
 have hl:B.np*89≤B.ps.length:=by rw[ho.len];exact Nat.le_refl _
 rcases aMW hK hn ha with ⟨e,-⟩|⟨e,-⟩
 ·rw[e]
  exact h
 unfold gA at e ⊢
 split at e
 case isFalse=>cases e
 rename_i hany
 rw[if_pos hany]
 have okN:=o4 ho (Nat.le_refl B.np)
 have npN:(lW B B.np).np=B.np:=gS B 43 _ _
 have ok2:(dO (lW B B.np)).ok:=pR okN (by rw[npN,hK.np];exact hn) (fun k hk=>by
  rw[wM ho (by decide) (by decide)]
  have:=hK.pt k (by rw[←hK.np,←npN];exact hk)
  unfold PI at this
  omega)
 have g86:∀i,i<n→(lW B B.np).gi i 86=gI (pc B i) 86:=fun i hi=>by
  rw[wM ho (by decide) (by decide)]
  exact gN (by decide)
 have hdN:(lW B B.np).hd=B.hd:=aEL B 43 _ _
 obtain⟨N,hN⟩:∃N,lW B B.np=N:=⟨_,rfl⟩
 rw[hN]at okN npN ok2 g86 hdN ⊢
 have hl17:N.hd.length=17:=okN.hd.1
 have hV:(iX N).cells.toList.length=5:=rfl
 have hr4:(wK (cR N) (iX N).at_).length=4:=by unfold wK;split<;>rfl
 have ha1:(setL N.hd 7 (iX N).cells.toList).length=17:=by rw[fJ (by rw[hl17,hV];decide),hl17]
 have hb1:(setL (setL N.hd 7 (iX N).cells.toList) 12 [Value.int IntKind.i64 (iX N).at_]).length=17:=by
  rw[fJ (by rw[ha1];exact(by decide:12+1≤17)),ha1]
 have hcell:∀j,j<13→(dO N).hd[j]?=if 12≤j∧j<12+1 then([Value.int IntKind.i64 (iX N).at_]:List Value)[j - 12]? else if 7≤j∧j<7+5 then(iX N).cells.toList[j - 7]? else N.hd[j]?:=fun j hj=>by
  show(setL (setL (setL N.hd 7 (iX N).cells.toList) 12 [Value.int IntKind.i64 (iX N).at_]) 13 (wK (cR N) (iX N).at_))[j]?=_
  rw[eB (by rw[hb1,hr4];omega),if_neg (by omega),eB (by rw[ha1];exact(by decide:12+1≤17)),eB (by rw[hl17,hV];decide)]
  rfl
 have e0:(dO N).hi 0=7:=by
  unfold Br.hi
  rw[hcell 0 (by decide),if_neg (by decide),if_neg (by decide),hdN]
  exact h.1
 have e12:(dO N).hi 12=(fC N N.np).at_:=by
  unfold Br.hi
  rw[hcell 12 (by decide),if_pos (by decide)]
  rfl
 have e7:(dO N).hi 7=(fC N N.np).r:=by
  unfold Br.hi
  rw[hcell 7 (by decide),if_neg (by decide),if_pos (by decide)]
  rfl
 have eN0:N.hi 0=7:=by
  unfold Br.hi
  rw[hdN]
  exact h.1
 have hp:∀j,(eF (dO N) B.np).hi j=(dO N).hi j:=fun j=>by unfold Br.hi;rw[oK]
 have np2:(dO N).np=n:=npN.trans hK.np
 have role:∀i,i<n→∃x:Int,gI (pc (eF (dO N) B.np) i) 88=x∧(x=3↔gI (pc B i) 86=3∧(i:Int)=(fC N N.np).at_):=fun i hi=>by
  have iD:i<(dO N).np:=by rw[np2];exact hi
  have hT:=dI ok2 iD
  have hl:=nT hT
  have hTt:=kO ok2 hT
  have htl:=nT hTt
  have e86:pI (lI (dO N) (a9 (dO N).ps i)) 86=gI (pc B i) 86:=by
   rw[←g86 i hi]
   have h1:(lI (dO N) (a9 (dO N).ps i))[86]?=(a9 (dO N).ps i)[86]?:=by
    unfold lI
    rw[aF (by decide),eD (bH hl (by exact(by decide:73+5≤89))) (by exact(by decide:82+4≤89)) (by exact .inr (by decide:82+4≤86)),eD hl (by exact(by decide:73+5≤89)) (by exact .inr (by decide:73+5≤86))]
   rw[zS h1]
   exact jI (by decide)
  obtain⟨x,hx,hx3⟩:=aNE htl (by rw[e86];exact(ha i hi).2.2.1) i ((dO N).hi 12) ((dO N).hi 0)
  rw[e86,e12]at hx3
  refine⟨x,?_,hx3⟩
  have hc:pc (eF (dO N) B.np) i 88=some (.int .i64 x):=by
   rw[jZ (by decide),rQ ok2 B.np (by rw[np2,hK.np];exact Nat.le_refl _) i 88 iD (by decide),if_pos (by rw[hK.np];exact hi)]
   unfold stL
   rw[aF (by decide)]
   exact hx
  unfold gI
  rw[hc]
 show RPB n (eF (dO N) B.np)
 refine⟨by rw[hp];exact e0,fun i hi e=>?_,?_⟩
 ·obtain⟨x,h1,h2⟩:=role i hi
  rw[hp,e12]
  exact(h2.1 (h1.symm.trans e)).2.symm
 ·rw [hp,hp,e12,e7]
  rcases vL N N.np with h1|⟨k,hk,h1,h2⟩
  ·exact .inl ⟨h1,(aFU N _ h1).trans eN0⟩
  ·have hkn:k<n:=by rw[←np2];exact hk
   obtain⟨x,h3,h4⟩:=role k hkn
   exact .inr ⟨k,hkn,h1,h3.trans (h4.2 ⟨(g86 k hkn).symm.trans h2,h1.symm⟩)⟩
theorem aLV(hn:n<1000):Keeps n s (RPB n) :=
 ⟨fun M B hK ha h=>aMY hK hn ha h,fun M k j B hK hk hj ha h=>aJA (aMR hj) (fun i _=>aND hK hk hj (ha k hk) i) h⟩
def JD(n:Nat)(B:Br):Prop:=RPB n B∧∀i,i<n→PSc (pc B i)
def UA(j:Nat):Prop:=j=20∨j=27∨j=29∨j=88
theorem aE5(hd:C.hd=B.hd)(hc:∀i j,i<n→UA j→pc C i j=pc B i j)(h:JD n B):JD n C:=by
 refine⟨aJA hd (fun i hi=>?_) h.1,fun i hi=>aCW (fun x hx=>hc i x hi (by unfold UA;omega)) (h.2 i hi)⟩
 unfold gI
 rw[hc i 88 hi (by unfold UA;omega)]
theorem aKV(hK:KI n M s B)(q:Int){m:List Value}(hm:Typed ML m)(i:Nat){j:Nat}(hj:j≠35∧(j<51∨68≤j)):pc (kH B q m).2 i j=pc B i j:=by
 unfold kH
 split
 ·rename_i hq
  split
  ·rfl
  ·obtain ⟨k,hk⟩:∃k,q.toNat=k:=⟨_,rfl⟩
   rw[hk]at hq ⊢
   have hl:Lk k B:=mT hK.ok hq.2
   have hml:m.length=17:=hm.1
   by_cases h89:j<89
   ·rw[jZ h89,jZ h89]
    show((B.setr k 51 m).ps.set (k*89+35) _)[i*89+j]?=_
    unfold Lk at hl
    rw[List.getElem?_set_ne (by omega),rL (by omega),if_neg (by omega)]
   ·rw[iB (by omega),iB (by omega)]
 ·rfl
theorem aJB(q:Int)(m:List Value):(kH B q m).2.hd=B.hd:=by
 unfold kH
 (repeat' split)<;>rfl
theorem aHR{k j:Nat}{v:Value}(hl:Lk k B)(hj:j=2∨j=30)(i:Nat){x:Nat}(hx:UA x):pc (B.setp k j v) i x=pc B i x:=by
 unfold UA at hx
 by_cases hik:i=k
 ·subst hik
  rw[a8 hl (by omega),a5 _ _ (by omega)]
 ·rw[aK hik (by omega)]
theorem aL4(hn:n<1000):rW n (JD n):=by
 refine⟨(aLV hn).and (aK8 hn),fun B hQ h=>?_,fun B k b hQ hk h=>?_,fun B q m hQ hm h=>?_,fun B k hQ hk h=>?_,fun B h=>h⟩
 ·exact aE5 (vS B _) (fun i j hi hj=>aAN hQ.1.1.ok (by rw[hQ.1.1.np];exact hi) (by unfold UA at hj;omega)) h
 ·exact aE5 (B:=B) rfl (fun i j _ hj=>aHR (mT hQ.1.1.ok (by rw[hQ.1.1.np];exact hk)) (.inl rfl) i hj) h
 ·exact aE5 (aJB q m) (fun i j _ hj=>aKV hQ.1.1 q hm.1 i (by unfold UA at hj;omega)) h
 ·exact aE5 (B:=B) rfl (fun i j _ hj=>aHR (mT hQ.1.1.ok (by rw[hQ.1.1.np];exact hk)) (.inr rfl) i hj) h
theorem aNF{rst:Bool}{P:List Pt}(hP:P.length=n):JD n (NB rst P):=by
 have hg:∀i,i<n→PSc (pc (NB rst P) i)∧gI (pc (NB rst P) i) 88=0:=fun i hi=>by
  have h88:=(aL8 (rst:=rst) hP hi).2.2.2
  refine⟨.inl ?_,h88⟩
  subst hP
  unfold gI gB
  rw[jZ (by decide),jZ (by decide),jZ (by decide),aAD (j:=20) (x:=.int .i64 0) hi rfl,aAD (j:=27) (x:=.bool false) hi rfl,aAD (j:=29) (x:=.bool false) hi rfl]
  exact⟨rfl,rfl,rfl⟩
 exact⟨⟨rfl,fun i hi h=>(by rw[(hg i hi).2]at h;cases h),.inl ⟨rfl,rfl⟩⟩,fun i hi=>(hg i hi).1⟩
end
theorem aMA{N:Nat→Prop}{X g k:Nat}{w:World}{B:Br}(h:WB N X g B w)(hk:k<B.np):w.rangeAt g (k*89) (a9 B.ps k):=fun j v hv=>by
 have hj:j<89:=by
  have:=(List.getElem?_eq_some_iff.1 hv).1
  unfold a9 at this
  rw[List.length_take]at this
  omega
 rw[BrG.cellg h (i:=k*89+j) (by omega),←hv,aI hj]
theorem aMB{B:Br}(ho:B.ok){k:Nat}(hk:k<B.np):(a9 B.ps k).toArray.toList.all (·.oneCell')=true:=by
 show(a9 B.ps k).all _=true
 rw[List.all_eq_true]
 exact fun u hu=>(dI ho hk).one u hu
def Lw(n i:Nat)(C D:Br):Prop:=∀p,p<n→(pc D p=pc C p∨pc D p=up (pc C p) 2 (.bool false))∧(p<i→gB (pc D p) 2=false)
structure Tk (n M:Nat) (B:Br):Prop where
 ki:KI n M (fun _=>0) B
 no:B.no=0
 ww:∀i,i<n→WW (pc B i)
 d0:∀i,i<n→D0 (pc B i)
 jd:JD n B
section
variable {n M:Nat} {s:Nat→Nat} {B C:Br}
def rg(j:Nat):Int:=if 6≤j∧j<14 then 1000 else if j=16∨j=21 then 2 else if j=17 then 1 else if(79≤j∧j<82)∨(83≤j∧j<86)then 65535 else -1
def RV(j:Nat)(v:Value):Prop:=rg j<0∨(0≤vI v∧vI v≤rg j)
theorem RV.i{j:Nat}{q:IntKind}{z u:Int}(hu:rg j=u)(h:0≤z∧z≤u):RV j (.int q z):=.inr (by rw[hu];exact h)
def LG(L:List Value):Prop:=∀j v,L[j]?=some v→RV j v
theorem LG.set{L:List Value}(h:LG L){j:Nat}{v:Value}(hv:RV j v):LG (L.set j v):=fun x u hu=>by
 rw[List.getElem?_set]at hu
 split at hu
 ·rename_i e
  split at hu
  ·cases hu
   rw[←e]
   exact hv
  ·cases hu
 ·exact h x u hu
theorem LG.sk{L:List Value}(h:LG L){j:Nat}{v:Value}(hv:rg j<0:=by decide):LG (L.set j v):=h.set (.inl hv)
theorem LG.row{L:List Value}(h:LG L){j:Nat}{l:List Value}(hj:j+l.length≤L.length)(hl:∀i v,l[i]?=some v→RV (j+i) v):LG (setL L j l):=fun x u hu=>by
 rw[eB hj]at hu
 split at hu
 ·rename_i e
  have:=hl _ u hu
  rw[show j+(x - j)=x by omega]at this
  exact this
 ·exact h x u hu
theorem LG.gi{L:List Value}(h:LG L)(j:Nat){u:Int}(hu:rg j=u)(h0:0≤u):0≤pI L j∧pI L j≤u:=by
 unfold pI
 cases e:L[j]? with
 | none=>exact⟨Int.le_refl _,h0⟩
 | some v =>
  have h1:=h j v e
  cases v with
  | int q z =>
   rcases h1 with h1|h1
   ·omega
   ·rw[hu]at h1
    exact h1
  | _=>exact⟨Int.le_refl _,h0⟩
def PG(B:Br):Prop:=∀i j v,j<89→B.ps[i*89+j]?=some v→RV j v
theorem PG.set(h:PG B){k j:Nat}{v:Value}(hj:j<89)(hv:RV j v):PG (B.setp k j v):=fun i x u hx hu=>by
 have hu2:(B.ps.set (k*89+j) v)[i*89+x]?=some u:=hu
 rw[List.getElem?_set]at hu2
 split at hu2
 ·rename_i e
  obtain rfl:j=x:=by omega
  split at hu2
  ·cases hu2
   exact hv
  ·cases hu2
 ·exact h i x u hx hu2
theorem PG.sk(h:PG B){k j:Nat}{v:Value}(hj:j<89:=by decide)(hv:rg j<0:=by decide):PG (B.setp k j v):=h.set hj (.inl hv)
theorem PG.upd(h:PG B){j:Nat}{v:Nat→Value}(hj:j<89)(hv:rg j<0):∀n,PG (B.upd j v n)
 | 0=>h
 | n+1=>(PG.upd h hj hv n).set hj (.inl hv)
theorem PG.tcpn(h:PG B)(k:Nat):∀n,PG (kL B k n)
 | 0=>h
 | n+1=>by
  unfold kL
  split
  ·exact PG.tcpn h k n
  ·exact(PG.tcpn h k n).sk
theorem PG.lg(h:PG B)(k:Nat):LG (a9 B.ps k):=fun j v hv=>by
 by_cases hj:j<89
 ·rw[aI hj]at hv
  exact h k j v hj hv
 ·rw[List.getElem?_eq_none (by simp[a9];omega)]at hv
  cases hv
theorem PG.setPort(h:PG B){k:Nat}{l:List Value}(hl:l.length=89)(hk:k*89+89≤B.ps.length)(hg:LG l):PG (B.setPort k l):=fun i j v hj hv=>by
 rw[eR hl hk]at hv
 split at hv
 ·have:=hg _ v hv
  rw[show i*89+j - k*89=j by omega]at this
  exact this
 ·exact h i j v hj hv
theorem PG.ps(h:PG B)(e:C.ps=B.ps):PG C:=fun i j v hj hv=>h i j v hj (by rw[←e];exact hv)
section
variable {k:Nat} (h:PG B) (hs:B.hi 2=0∧B.hi 3=20∧B.hi 4=2∧B.hi 5=15∧B.hi 6=6)
include h
theorem aNG:PG (tD B k).2:=by
 unfold tD lP nY nD nE
 repeat' split
 all_goals repeat (first|exact h|refine PG.sk ?_|refine PG.set ?_ (by decide) (.inr ⟨by decide,by decide⟩))
theorem aMZ:PG (gD B k).2:=by
 unfold gD cX dW fL
 repeat' split
 all_goals repeat (first|exact h|refine PG.sk ?_|refine PG.set ?_ (by decide) (.inr ⟨by decide,by decide⟩))
theorem aMM:PG (fM B k).2:=by
 unfold fM iM j6
 repeat' split
 all_goals repeat (first|exact h|refine PG.sk ?_|refine PG.set ?_ (by decide) (.inr ⟨by decide,by decide⟩))
theorem aM0:PG (gT B k).2:=by
 unfold gT fN fA dN
 repeat' split
 all_goals repeat (first|exact h|refine PG.sk ?_)
include hs
theorem aJ7(r:Nat):PG (dY B k r):=by
 have w:0≤cD B k∧cD B k≤1000:=by
  unfold cD
  split<;>omega
 have w2:0≤sQ B k∧sQ B k≤1000:=by
  unfold sQ
  split<;>omega
 unfold dY kT eG jU oL gF iN jV
 split
 all_goals repeat (first|exact h|refine PG.sk ?_|refine PG.upd ?_ (by decide) (by decide) _|refine PG.set ?_ (by decide) (.inr ⟨by decide,by decide⟩)|refine PG.set ?_ (by decide) (RV.i (u:=1000) rfl (by omega)))
theorem aNH:PG (oM B k).2:=by
 unfold oM mO
 repeat' split
 all_goals first|exact h|exact aJ7 h hs _|exact(aJ7 h hs _).sk
theorem aCU:PG (bF B k):=by
 unfold bF
 repeat' split
 all_goals repeat (first|exact h|refine PG.sk ?_|refine PG.set ?_ (by decide) (RV.i (u:=1000) rfl (by omega)))
omit hs in
theorem aID:PG (dM B k):=by
 unfold dM dH
 refine PG.tcpn ?_ _ _
 repeat (first|exact h|refine PG.sk ?_)
theorem aM1:PG (jN B k).2:=by
 unfold jN
 split
 ·exact(PG.ps (B:=B) h rfl).sk
 ·unfold pJ dR fT i5 gG pH
  repeat' split
  all_goals repeat (first
   | exact h
   | exact aCU h hs
   | exact aID h
   | exact aID (aCU h hs)
   | exact PG.tcpn (aCU h hs) _ _
   | refine PG.sk ?_
   | refine PG.set ?_ (by decide) (.inr ⟨by decide,by decide⟩))
theorem aNI:PG (wC B k).2:=by
 have h8:∀{D:Br},PG D→PG (D.setp k 8 (.int .i64 (B.hi 4))):=fun hD=>hD.set (by decide) (RV.i (u:=1000) rfl (by omega))
 unfold wC gM kE dZ
 repeat' split
 all_goals first
  | exact h
  | exact h8 h.sk
  | exact h8 h
  | exact h8 (((PG.ps (B:=B) h rfl).sk).sk)
  | exact h8 ((((PG.ps (B:=B) h rfl).sk).sk).sk)
end
section
variable {L:List Value}
theorem LG.prop(h:LG L)(p:Bool):LG (dU p L):=by
 cases p
 ·exact h
 ·exact h.sk
theorem LG.agr(h:LG L)(p:Bool):LG (iF p L):=by
 cases p
 ·exact h.sk
 ·exact h.sk.sk
theorem LG.chg(h:LG L)(p q:Bool):LG (l8 p q L):=h.sk.sk
theorem LG.inf(h:LG L)(p:Bool):LG (aAW p L):=by
 cases p
 ·exact h
 ·exact h.sk.sk
theorem LG.oth(h:LG L)(p:Bool):LG (aAX p L):=by
 cases p
 ·exact h
 ·exact h.sk
theorem aMC{a b c d e:Value}:∀i v,([a,b,c,d,e]:List Value)[i]?=some v→RV (68+i) v:=fun i v hv=>by
 have hi:i<5:=(List.getElem?_eq_some_iff.1 hv).1
 refine .inl ?_
 rcases(by omega:i=0∨i=1∨i=2∨i=3∨i=4)with rfl|rfl|rfl|rfl|rfl<;>decide
theorem aMD{a b c d:Int}(hb:0≤b∧b≤65535)(hc:0≤c∧c≤65535)(hd:0≤d∧d≤65535):∀i v,([.int .i64 a,.int .i64 b,.int .i64 c,.int .i64 d]:List Value)[i]?=some v→RV (78+i) v:=fun i v hv=>by
 have hi:i<4:=(List.getElem?_eq_some_iff.1 hv).1
 rcases(by omega:i=0∨i=1∨i=2∨i=3)with rfl|rfl|rfl|rfl<;>cases hv
 ·exact .inl (by decide)
 ·exact RV.i rfl hb
 ·exact RV.i rfl hc
 ·exact RV.i rfl hd
theorem aM2(hl:L.length=89)(h:LG L)(h4:∀j,64≤j→j<68→0≤pI L j∧pI L j≤256)(rst:Bool):LG (lD rst L).2:=by
 have hle:=aE8 (pB L 2) (pI L 86 == 0) (pI L 18 == 0) (pB L 36) (pI L 18 == 1) (pI L 18 == 2) (pB L 44) (pB L 50) (pI L 86 == 3) (pI L 11 == 0)
 have wt:0≤dT (pI L 64) (pI L 65) (pI L 66)∧dT (pI L 64) (pI L 65) (pI L 66)≤1000:=by
  have h66:=h4 66 (by decide) (by decide)
  unfold dT
  split<;>omega
 obtain⟨z,hz⟩:∃z,dT (pI L 64) (pI L 65) (pI L 66)=z:=⟨_,rfl⟩
 have ln:∀{N:List Value} {j:Nat} {v:Value},N.length=89→(N.set j v).length=89:=fun h=>by rw[List.length_set];exact h
 unfold lD
 rcases(by unfold iZ;omega:iZ L=0∨iZ L=1∨iZ L=2∨iZ L=3∨iZ L=4)with e|e|e|e|e<;>rw[e]
 ·exact h
 ·show LG (qI L)
  unfold qI nB
  exact(((((((h.sk).sk).sk).sk).sk).set (.inr ⟨by decide,by decide⟩)).sk).sk.sk.sk
 ·show LG (qJ L)
  unfold qJ nB
  exact h.sk.sk.sk.sk
 ·show LG (lK L)
  unfold lK aGG aDV
  refine LG.sk (LG.sk (LG.sk (LG.sk (LG.row (LG.row ?_ ?_ aMC) ?_ (aMD (h.gi 83 rfl (by decide)) (h.gi 84 rfl (by decide)) (h.gi 85 rfl (by decide)))))))
  ·exact h.sk.sk.sk.sk
  ·rw[ln (ln (ln (ln hl)))]
   exact(by decide:68+5≤89)
  ·rw[bH (ln (ln (ln (ln hl)))) (by exact(by decide:68+5≤89))]
   exact(by decide:78+4≤89)
 ·show LG (j7 rst L)
  unfold j7 lJ
  rw[hz]at wt ⊢
  refine LG.sk (LG.sk ?_)
  split
  ·unfold aDU nB
   have l1:(iF (rst && !(pB L 3) && ((pI L 51) == 2) && (pB L 55)) ((l8 ((pB L 39) || (pB L 52)) ((pB L 40) || (pB L 53)) (dU (((pI L 51) == 2) && ((pI L 58) == 4) && (pB L 54)) ((L.set 23 (.bool false)).set 34 (.bool false)))).set 22 (.bool ((pB L 22) && ((pI L 86) == 3) && !(decide ((c4 (pI L 68) (pI L 69) (pI L 70) (pI L 71) (pI L 59) (pI L 60) (pI L 61) (pI L 62))<0)))))).length=89:=cS (ln (ln (ln (bM (ln (ln hl))))))
   refine LG.sk (LG.sk (LG.sk (LG.set (LG.row (LG.row (LG.sk (LG.agr (LG.sk (LG.chg (LG.prop h.sk.sk _) _ _)) _)) ?_ aMC) ?_ (aMD ?_ ?_ ?_)) (RV.i (u:=1000) rfl wt))))
   ·rw[ln l1]
    exact(by decide:68+5≤89)
   ·rw[bH (ln l1) (by exact(by decide:68+5≤89))]
    exact(by decide:78+4≤89)
   ·have:=h4 65 (by decide) (by decide);omega
   ·have:=h4 66 (by decide) (by decide);omega
   ·have:=h4 67 (by decide) (by decide);omega
  ·exact LG.set (((h.prop _).chg _ _).agr _) (RV.i (u:=1000) rfl wt)
  ·exact h.inf _
  ·exact(h.agr _).chg _ _
  ·exact h.oth _
end
theorem aNJ(hK:KI n M s B){k j:Nat}(hk:k<n)(hj:j<8)(h:PG B):PG (fF j B k).2:=by
 have hkp:k<B.np:=by rw[hK.np];exact hk
 rcases(by omega:j=0∨j=1∨j=2∨j=3∨j=4∨j=5∨j=6∨j=7)with rfl|rfl|rfl|rfl|rfl|rfl|rfl|rfl
 ·exact aNG h
 ·exact aMZ h
 ·exact aMM h
 ·have hl:=nT (dI hK.ok hkp)
  refine h.setPort (aK6 hl (B.hb 1)).1 (mT hK.ok hkp) (aM2 hl (h.lg k) (fun j h1 h2=>?_) (B.hb 1))
  have hp:=hK.pt k hk
  unfold PI at hp
  rw[jI (by omega)]
  rcases(by omega:j=64∨j=65∨j=66∨j=67)with rfl|rfl|rfl|rfl<;>omega
 ·exact aNH h hK.hs
 ·exact aM0 h
 ·exact aM1 h hK.hs
 ·exact aNI h hK.hs
end
section
variable {n M:Nat} {s:Nat→Nat} {B C D:Br}
theorem aNK{L:List Value}(h:LG L)(k:Nat)(rp id:Int):LG (chL k rp id L):=by
 unfold chL dsL
 repeat' split
 all_goals repeat (first|exact h|refine LG.sk ?_)
theorem aM3{a b c d e:Value}:∀i v,([a,b,c,d,e]:List Value)[i]?=some v→RV (73+i) v:=fun i v hv=>by
 have hi:i<5:=(List.getElem?_eq_some_iff.1 hv).1
 refine .inl ?_
 rcases(by omega:i=0∨i=1∨i=2∨i=3∨i=4)with rfl|rfl|rfl|rfl|rfl<;>decide
theorem aNL{a b c d:Int}(hb:0≤b∧b≤65535)(hc:0≤c∧c≤65535)(hd:0≤d∧d≤65535):∀i v,([.int .i64 a,.int .i64 b,.int .i64 c,.int .i64 d]:List Value)[i]?=some v→RV (82+i) v:=fun i v hv=>by
 have hi:i<4:=(List.getElem?_eq_some_iff.1 hv).1
 rcases(by omega:i=0∨i=1∨i=2∨i=3)with rfl|rfl|rfl|rfl<;>cases hv
 ·exact .inl (by decide)
 ·exact RV.i rfl hb
 ·exact RV.i rfl hc
 ·exact RV.i rfl hd
def HG(B:Br):Prop:=∀j,14≤j→j<17→0≤B.hi j∧B.hi j≤65535
theorem aMN{L:List Value}(hl:L.length=89)(h:LG L)(hh:HG D)(h4:D.hi 4=2):LG (lI D L):=by
 unfold lI
 refine LG.set (LG.row (LG.row h ?_ aM3) ?_ (aNL (hh 14 (by decide) (by decide)) (hh 15 (by decide) (by decide)) (hh 16 (by decide) (by decide)))) (RV.i (u:=65535) rfl (by omega))
 ·rw[hl]
  exact(by decide:73+5≤89)
 ·rw[bH hl (by exact(by decide:73+5≤89))]
  exact(by decide:82+4≤89)
theorem aKU(ho:D.ok)(h:PG D)(hh:HG D)(h4:D.hi 4=2):∀m,m≤D.np→PG (eF D m)
 | 0,_=>h
 | m+1,hm=>by
  have ih:=aKU ho h hh h4 m (by omega)
  have okm:=k6 ho m (by omega)
  have hmk:m<(eF D m).np:=by rw[j5];omega
  have hT:=dI okm hmk
  have hl:=nT hT
  exact ih.setPort (nT (k4 ho hT)) (fH okm hmk) ((aNK (aMN hl (ih.lg m) hh h4) _ _ _).sk)
def RG(B:Br):Prop:=PG B∧HG B
theorem aM4(hK:KI n M s B)(hn:n<1000)(h:RG B):RG (gA B).2:=by
 have ho:=hK.ok
 have hl:B.np*89≤B.ps.length:=by rw[ho.len];exact Nat.le_refl _
 have hN0:PG (lW B B.np):=PG.upd h.1 (by decide) (by decide) _
 have hdN:(lW B B.np).hd=B.hd:=aEL B 43 _ _
 unfold gA
 split
 case isFalse=>exact⟨hN0,fun j h1 h2=>by unfold Br.hi;rw[hdN];exact h.2 j h1 h2⟩
 have okN:=o4 ho (Nat.le_refl B.np)
 have npN:(lW B B.np).np=B.np:=gS B 43 _ _
 have ok2:(dO (lW B B.np)).ok:=pR okN (by rw[npN,hK.np];exact hn) (fun k hk=>by
  rw[wM ho (by decide) (by decide)]
  have:=hK.pt k (by rw[←hK.np,←npN];exact hk)
  unfold PI at this
  omega)
 obtain⟨N,hN⟩:∃N,lW B B.np=N:=⟨_,rfl⟩
 rw[hN]at okN npN ok2 hN0 hdN ⊢
 have hl17:N.hd.length=17:=okN.hd.1
 have hV:(iX N).cells.toList.length=5:=rfl
 have hr4:(wK (cR N) (iX N).at_).length=4:=by unfold wK;split<;>rfl
 have ha1:(setL N.hd 7 (iX N).cells.toList).length=17:=by rw[fJ (by rw[hl17,hV];decide),hl17]
 have hb1:(setL (setL N.hd 7 (iX N).cells.toList) 12 [Value.int IntKind.i64 (iX N).at_]).length=17:=by
  rw[fJ (by rw[ha1];exact(by decide:12+1≤17)),ha1]
 have hlow:∀j,j<7→(dO N).hi j=B.hi j:=fun j hj=>by
  have e:(dO N).hd[j]?=B.hd[j]?:=by
   show(setL (setL (setL N.hd 7 (iX N).cells.toList) 12 [Value.int IntKind.i64 (iX N).at_]) 13 (wK (cR N) (iX N).at_))[j]?=_
   rw[eB (by rw[hb1,hr4];omega),if_neg (by omega),eB (by rw[ha1];exact(by decide:12+1≤17)),if_neg (by omega),eB (by rw[hl17,hV];decide),if_neg (by omega),hdN]
  unfold Br.hi
  rw[e]
 have hlow1:∀j,j<7→(cR N).hi j=B.hi j:=fun j hj=>by
  have e:(cR N).hd[j]?=B.hd[j]?:=by
   show(setL (setL N.hd 7 (iX N).cells.toList) 12 [Value.int IntKind.i64 (iX N).at_])[j]?=_
   rw[eB (by rw[ha1];exact(by decide:12+1≤17)),if_neg (fun h=>absurd h.1 (by omega)),eB (by rw[hl17,hV];decide),if_neg (fun h=>absurd h.1 (by omega)),hdN]
  unfold Br.hi
  rw[e]
 have hh:HG (dO N):=fun j h1 h2=>by
  have e:(dO N).hi j=pI (wK (cR N) (iX N).at_) (j - 13):=nW hb1 (by rw[hr4];decide) (by omega) (by rw[hr4];omega)
  rw[e]
  obtain⟨-,k3_,k4_,k5,-⟩:=hK.hs
  unfold wK
  split
  ·rw[hlow1 3 (by decide),hlow1 4 (by decide),hlow1 5 (by decide),k3_,k4_,k5]
   rcases(by omega:j=14∨j=15∨j=16)with rfl|rfl|rfl
   ·exact(by decide:(0:Int)≤20∧(20:Int)≤65535)
   ·exact(by decide:(0:Int)≤2∧(2:Int)≤65535)
   ·exact(by decide:(0:Int)≤15∧(15:Int)≤65535)
  ·have g:∀x,79≤x→x<82→0≤(cR N).gi (iX N).at_.toNat x∧(cR N).gi (iX N).at_.toNat x≤65535:=fun x h1 h2=>by
    have h3:(cR N).gi (iX N).at_.toNat x=pI (a9 N.ps (iX N).at_.toNat) x:=(jI (B:=cR N) (by omega)).symm
    rw[h3]
    exact(hN0.lg _).gi x (by rcases(by omega:x=79∨x=80∨x=81)with rfl|rfl|rfl<;>rfl) (by decide)
   rcases(by omega:j=14∨j=15∨j=16)with rfl|rfl|rfl
   ·exact g 79 (by decide) (by decide)
   ·exact g 80 (by decide) (by decide)
   ·exact g 81 (by decide) (by decide)
 refine⟨aKU ok2 (PG.ps (B:=N) hN0 rfl) hh ((hlow 4 (by decide)).trans hK.hs.2.2.1) B.np (by show B.np≤N.np;rw[npN];exact Nat.le_refl _),fun j h1 h2=>?_⟩
 have e:(eF (dO N) B.np).hi j=(dO N).hi j:=by unfold Br.hi;rw[oK]
 show 0≤(eF (dO N) B.np).hi j∧(eF (dO N) B.np).hi j≤65535
 rw[e]
 exact hh j h1 h2
theorem aME(hn:n<1000):Keeps n s RG :=
 ⟨fun M B hK _ h=>aM4 hK hn h,fun M k j B hK hk hj _ h=>⟨aNJ hK hk hj h.1,fun i h1 h2=>by unfold Br.hi;rw[aMR hj];exact h.2 i h1 h2⟩⟩
theorem aM5{j:Nat}(h1:51≤j)(h2:j<68):rg j<0:=by
 unfold rg
 rw[if_neg (by omega),if_neg (by omega),if_neg (by omega),if_neg (by omega)]
 decide
theorem aMO(ho:B.ok)(h:PG B):PG (iE B):=fun i j v hj hv=>by
 by_cases hi:i<B.np
 ·rw [qD ho hi hj]at hv
  split at hv
  ·rename_i e
   cases hv
   by_cases h14:j=14
   ·subst h14
    exact .inl (by decide)
   ·have hr:rg j=1000:=by unfold rg;rw[if_pos (by omega)]
    have h1:=(h.lg i).gi j hr (by decide)
    rw[jI hj]at h1
    refine RV.i hr ?_
    unfold dwn
    split<;>omega
  ·exact h i j v hj hv
 ·have hl:(iE B).ps.length=B.np*89:=by rw[←ho.len];exact aFI B _
  rw[List.getElem?_eq_none (by rw[hl];have:B.np*89≤i*89:=Nat.mul_le_mul_right 89 (by omega);omega)]at hv
  cases hv
theorem aMP(hK:KI n M s B)(q:Int){m:List Value}(hm:Typed ML m)(h:PG B):PG (kH B q m).2:=by
 unfold kH
 split
 ·rename_i hq
  split
  ·exact h
  ·obtain⟨k,hk⟩:∃k,q.toNat=k:=⟨_,rfl⟩
   rw[hk]at hq ⊢
   have hl:Lk k B:=mT hK.ok hq.2
   have hml:m.length=17:=hm.1
   unfold Lk at hl
   show PG (fE B k m)
   refine PG.sk (B:=B.setr k 51 m) (fun i j v hj hv=>?_)
   rw[rL (by omega)]at hv
   split at hv
   ·exact .inl (aM5 (by omega) (by omega))
   ·exact h i j v hj hv
 ·exact h
theorem aMS(h:HG B)(e:C.hd=B.hd):HG C:=fun j h1 h2=>by unfold Br.hi;rw[e];exact h j h1 h2
theorem aMF(hn:n<1000):rW n RG :=
 ⟨aME hn,fun B hQ h=>⟨aMO hQ.1.1.ok h.1,aMS h.2 (vS B _)⟩,fun B k b _ _ h=>⟨h.1.sk,h.2⟩,fun B q m hQ hm h=>⟨aMP hQ.1.1 q hm.1 h.1,aMS h.2 (aJB q m)⟩,fun B k _ _ h=>⟨h.1.sk,h.2⟩,fun B h=>h⟩
theorem aNM{rst:Bool}{P:List Pt}(hP:P.length=n):RG (NB rst P):=by
 have okl:(NB rst P).ps.length=P.length*89:=by
  show(P.flatMap (pL rst 20 2 15)).length=_
  rw [List.length_flatMap,show P.map (fun p=>(pL rst 20 2 15 p).length)=List.replicate P.length 89 from by
   rw[List.eq_replicate_iff]
   exact⟨by simp,fun b hb=>by obtain⟨p,_,rfl⟩:=List.mem_map.1 hb;rfl⟩]
  simp
 refine⟨fun i j v hj hv=>?_,fun j h1 h2=>?_⟩
 rotate_left
 ·rcases(by omega:j=14∨j=15∨j=16)with rfl|rfl|rfl
  ·exact(by decide:(0:Int)≤20∧(20:Int)≤65535)
  ·exact(by decide:(0:Int)≤2∧(2:Int)≤65535)
  ·exact(by decide:(0:Int)≤15∧(15:Int)≤65535)
 have hi:i<P.length:=by
  have:=(List.getElem?_eq_some_iff.1 hv).1
  rw[okl]at this
  omega
 have go:∀{z:Int},(pL rst 20 2 15 (P.getD i default))[j]?=some (.int .i64 z)→0≤z→(rg j<0∨z≤rg j)→RV j v:=fun h0 h1 h2=>by
  rw[aAD hi h0]at hv
  cases hv
  exact h2.imp id (fun h=>⟨h1,h⟩)
 by_cases hr:rg j<0
 ·exact .inl hr
 ·have hj2:(6≤j∧j<14)∨j=16∨j=21∨j=17∨(79≤j∧j<82)∨(83≤j∧j<86):=by
   unfold rg at hr
   split at hr
   ·omega
   split at hr
   ·omega
   split at hr
   ·omega
   split at hr
   ·omega
   ·exact absurd (by decide) hr
  rcases(by omega:(j=6∨j=7∨j=8∨j=9∨j=10∨j=11∨j=12∨j=13)∨(j=16∨j=21∨j=79∨j=80∨j=81∨j=83∨j=84∨j=85)∨j=17)with (rfl|rfl|rfl|rfl|rfl|rfl|rfl|rfl)|(rfl|rfl|rfl|rfl|rfl|rfl|rfl|rfl)|rfl
  all_goals first
   | exact go rfl (by decide) (.inr (by decide))
   | skip
  have h0:(pL rst 20 2 15 (P.getD i default))[17]?=some (.int .i64 (if(P.getD i default).ad=true then 0 else 1)):=rfl
  obtain⟨b,hb⟩:∃b,(P.getD i default).ad=b:=⟨_,rfl⟩
  rw[hb]at h0
  cases b<;>exact go h0 (by decide) (.inr (by decide))
structure PtOk (B:Br) (k:Nat) (en fw:Bool) (r q x m e f t p o c:Int):Prop where
 c2:B.gb k 2=en
 c27:B.gb k 27=fw
 c87:B.gi k 87=r
 c88:B.gi k 88=r
 c86:B.gi k 86=q
 c15:B.gi k 15=x
 c16:B.gi k 16=m
 c17:B.gi k 17=e
 c18:B.gi k 18=f
 c19:B.gi k 19=t
 c20:B.gi k 20=p
 c21:B.gi k 21=o
 c14:B.gi k 14=c
 rr:0≤r∧r≤4
 rq:0≤q∧q≤3
 rx:0≤x∧x≤1
 rm:0≤m∧m≤2
 re:0≤e∧e≤1
 rf:0≤f∧f≤2
 rt:0≤t∧t≤5
 rp:0≤p∧p≤2
 ro:0≤o∧o≤2
 rc:0≤c∧c≤6
 fr:fw=true→3≤r
 dis:r=0↔en=false
theorem aNN(hn:n<1000)(h:AtRest n s M B){k:Nat}(hk:k<n)(hJ:JD n B)(hG:RG B):∃en fw r q x m e f t p o c,PtOk B k en fw r q x m e f t p o c:=by
 have hw:=(h.ww hn hk).1
 obtain⟨⟨ha,⟨y1,y2,y3,y4⟩,hq,hd,h50,h18⟩,h87⟩:=hw
 have g:∀j,j<89→B.gi k j=gI (pc B k) j:=fun j hj=>gN hj
 have gg:∀j u,j<89→rg j=u→0≤u→0≤B.gi k j∧B.gi k j≤u:=fun j u hj hu h0=>by
  have:=(hG.1.lg k).gi j hu h0
  rw[jI hj]at this
  exact this
 have h88:=ha.2.2.2.2.2.2.2.1 hq.2
 have hrs:=ha.1
 unfold RS at hrs
 have hps:=hJ.2 k hk
 have hp:gT B k=(false,B):=h.2.2.2 k 5 hk (by decide)
 refine⟨_,_,B.gi k 87,_,_,_,_,_,_,_,_,_,rfl,rfl,rfl,?_,rfl,rfl,rfl,rfl,rfl,rfl,rfl,rfl,rfl,?_,?_,?_,gg 16 2 (by decide) rfl (by decide),gg 17 1 (by decide) rfl (by decide),?_,?_,?_,gg 21 2 (by decide) rfl (by decide),(h.1.pt k hk).1,?_,?_⟩
 ·rw[g 88 (by decide),g 87 (by decide)]
  exact h87.symm
 ·rw[g 87 (by decide),h87]
  exact ha.2.1
 ·rw[g 86 (by decide)]
  exact ha.2.2.1
 ·rw[g 15 (by decide)]
  have:=ha.2.2.2.2.2.2.2.2.2.2
  omega
 ·rw[g 18 (by decide)]
  exact ha.2.2.2.1
 ·rw[g 19 (by decide)]
  omega
 ·rw[g 20 (by decide)]
  unfold PSc at hps
  omega
 ·intro hf
  rw[cM (by decide)]at hf
  rw[g 87 (by decide)]
  have hr0:0≤gI (pc B k) 87:=by rw[h87];exact ha.2.1.1
  refine Classical.byContradiction (fun hlt=>?_)
  obtain⟨h26,h28⟩:=hrs.2 (by omega) (by omega)
  unfold gT at hp
  rw[gN (by decide),cM (by decide),cM (by decide),h26,h28]at hp
  rcases hps with h1|h1|h1
  ·rw[h1.2.1]at hf;cases hf
  ·rw[h1.1]at hp
   simp at hp
  ·rw[h1]at hp
   simp at hp
 ·rw[g 87 (by decide),cM (by decide),h87]
  exact h88.trans y3
theorem aMG(hn:n≤32)(h:AtRest n s M B)(hJ:JD n B)(hG:RG B):lM B:=by
 have hK:=h.1
 obtain⟨-,-,h3⟩:=hJ.1
 have h14:=hG.2 14 (by decide) (by decide)
 have h15:=hG.2 15 (by decide) (by decide)
 have h16:=hG.2 16 (by decide) (by decide)
 have h13:=hK.h13
 obtain⟨e2,e3,e4,e5,e6⟩:=hK.hs
 refine⟨⟨hK.tr,?_,e2,by omega,by omega,by rw[hK.np];exact hn,?_,?_⟩,fun k hk=>?_⟩
 ·unfold TF
  omega
 ·rcases h3 with h3|⟨k,hk,h4,-⟩<;>omega
 ·rw[hK.np]
  rcases h3 with h3|⟨k,hk,h4,-⟩<;>omega
 ·have hkn:k<n:=by rw[←hK.np];exact hk
  have hp:=hK.pt k hkn
  have gg:∀j u,j<89→rg j=u→0≤u→0≤B.gi k j∧B.gi k j≤u:=fun j u hj hu h0=>by
   have:=(hG.1.lg k).gi j hu h0
   rw[jI hj]at this
   exact this
  have t1:=gg 79 65535 (by decide) rfl (by decide)
  have t2:=gg 80 65535 (by decide) rfl (by decide)
  have t3:=gg 81 65535 (by decide) rfl (by decide)
  have d1:=gg 83 65535 (by decide) rfl (by decide)
  have d2:=gg 84 65535 (by decide) rfl (by decide)
  have d3:=gg 85 65535 (by decide) rfl (by decide)
  unfold PI at hp
  refine⟨fun j hj=>?_,?_,?_,?_⟩
  ·by_cases h8:j=8
   ·subst h8
    show 0≤B.gi k 14∧B.gi k 14≤1000
    omega
   ·exact gg (6+j) 1000 (by omega) (by unfold rg;rw[if_pos (by omega)]) (by decide)
  ·unfold TF;omega
  ·unfold TF;omega
  ·unfold TF;omega
theorem aMH(h:AtRest n s M B)(hn:n<1000)(hJ:JD n B){i k:Nat}(hi:i<n)(hk:k<n)(h1:B.gi i 87=3)(h2:B.gi k 87=3):i=k:=by
 have go:∀x,x<n→B.gi x 87=3→B.hi 12=x:=fun x hx e=>by
  refine hJ.1.2.1 x hx ?_
  rw[←(h.ww hn hx).1.2,←gN (by decide)]
  exact e
 have e1:=go i hi h1
 have e2:=go k hk h2
 omega
end
end Go.Proofs.YtpanapepcbbagaaGreat
namespace Go.Proofs.YtpanapepcbbagaaGreat
open Go.RowKit Go.WideShapes Go.ChangeShapes Go.Deep
theorem aCV{P:Program}{ops:Array Oper}{rest:List Oper}{op:Oper}{a:Act}{w:World}{Q:Exit→Act→World→Prop}(hgd:op.guard=none)(t:TypeId)(x y:Operand)(ho:op.op=.store t x y)(c c':Array Value)(hx:a.eval x=.pointer (some ⟨w.heap.size,0,none⟩))(hy:a.eval y=.agg c')(hi:(P.info? t).map (·.size)=some c'.size)(hs:c.size=c'.size)(h1:c'.all (·.oneCell')=true)(h:wpList P ops Q rest (a.put op.dst undef) (w.alloc (.cells c' t))):wpList P ops Q (op :: rest) a (w.alloc (.cells c t)) :=
 wpList_plain hgd fun K hK=>by
  unfold Oper.wp execOp
  simp only[ho,hx,hy,Instr.storeAt,Instr.sureAddr,Sem.run_bind,Sem.run_pure,Result.andThen_ok,run_storeVar_new w t c c' hi hs h1]
  exact hK _ _ h
theorem pq{B:Br}{k:Nat}{q:IntKind}(ho:B.ok)(hk:k<B.np)(j:Nat)(hp:PL[j]?=some (some q))(hj:j<89:=by decide):(a9 B.ps k)[j]?=some (.int q (B.gi k j)):=(aI (B:=B) (k:=k) (j:=j) hj).trans (ho.gi hk j hp)
def PZ:Array Value:=(PL.map zc).toArray
theorem aMQ:PZ.size=89:=by kernel_rfl
theorem aKW:∀w,(zeroValue 60).run Tryz.prog w=.ok (.agg PZ) w:=(zero_of_info (P:=Tryz.prog) (t:=60) (v:=.agg PZ) (n:=89) (by kernel_rfl)).1
theorem aIE(a m h d:Int)(w:World):Calls Tryz.prog 30 #[.agg #[.int .i64 a,.int .i64 m,.int .i64 h,.int .i64 d]] w (qT w (TR a m h d)):=by
 go_enter Tryz.func30,Tryz.ntmps30
 go_wp2
 all_goals (go_ret;refine⟨_,rfl,(Ext.refl w).alloc _,?_⟩;unfold TR)
 all_goals first
  | (simp;omega)
  | skip
theorem aCG(a m h d:Int)(w:World):Calls Tryz.prog 31 #[.agg #[.int .i64 a,.int .i64 m,.int .i64 h,.int .i64 d]] w (qT w (TF a m h d)):=by
 go_enter Tryz.func31,Tryz.ntmps31
 go_wp2
 all_goals (go_ret;refine⟨_,rfl,(Ext.refl w).alloc _,?_⟩;unfold TF)
 all_goals first
  | (simp;omega)
  | skip
theorem aKX(c:Array Value)(B:Br)(w:World)(hb:BrC w c B)(ho:B.ok):Calls Tryz.prog 21 #[.agg c] w (qT w (lM B)):=by
 obtain⟨s1,s2,s3,hz,hhd,c17,c18,c19,r1,-,-⟩:=hb.facts ho.hd.1
 obtain⟨a1,k1,rfl,m1,hrow⟩:=r1.form
 have HR:=hD hrow
 have HHD:=hD hhd
 have h2:=(hhd 2 (by decide)).trans (ho.hi 2 rfl)
 have h3:=(hhd 3 (by decide)).trans (ho.hi 3 rfl)
 have h4:=(hhd 4 (by decide)).trans (ho.hi 4 rfl)
 have h5:=(hhd 5 (by decide)).trans (ho.hi 5 rfl)
 have h6:=(hhd 6 (by decide)).trans (ho.hi 6 rfl)
 have h12:=(hhd 12 (by decide)).trans (ho.hi 12 rfl)
 have h13:=(hhd 13 (by decide)).trans (ho.hi 13 rfl)
 have h14:=(hhd 14 (by decide)).trans (ho.hi 14 rfl)
 have h15:=(hhd 15 (by decide)).trans (ho.hi 15 rfl)
 have h16:=(hhd 16 (by decide)).trans (ho.hi 16 rfl)
 clear hz hhd hb r1 hrow c18 c19
 have hzp:=aKW
 go_enter Tryz.func21,Tryz.ntmps21
 go_wp2_with fail
 refine(aIE _ _ _ _ _).mono ?_
 rintro e w1 ⟨f,rfl,hx1,hf⟩
 have hbx1:=kM hx1
 have HF:=hD hf
 clear hf
 go_wp2_with fail
 refine(aCG _ _ _ _ _).mono ?_
 rintro e w2 ⟨g,rfl,hx2,hg⟩
 have hx3:=hx1.trans hx2
 have hbx2:=kM hx3
 have HG:=hD hg
 clear hg hbx1 hx1 hx2
 go_wp2_with fail
 all_goals first
  | (go_ret
     refine⟨false,rfl,((Ext.refl w).alloc _).trans hx3,⟨(fun h=>by cases h),(fun h=>?_)⟩⟩
     obtain⟨⟨ht,hg',e⟩,-⟩:=h
     first
      | exact absurd (HF.out.2 ht) ‹_›
      | exact absurd (HG.out.2 hg') ‹_›
      | omega)
  | skip
 have HH:Hid (HdR B):=hD ⟨HF.out.1 ‹_›,HG.out.1 ‹_›,by omega,by omega,by omega,by omega,by omega,by omega⟩
 clear HF HG h2 h3 h4 h5 h6 h12 h13 h14 h15 h16
 go_loopw [5] (fun i wr=>∃j:Nat,j≤B.np∧i=.int .i64 j∧Ext (w.alloc (.cells c 35)) wr∧Hid (∀k,k<j→aH9 B k)) (fun i _=>B.np - (intOf i).toNat)
 case atStart=>exact⟨0,by omega,rfl,hx3,hD (fun k hk=>by omega)⟩
 case round =>
  clear hx3 hbx2
  obtain⟨j,hj,rfl,hxr,hall⟩:=hrel
  have hbx:=kM hxr
  by_cases hlt:j<B.np
  ·obtain ⟨b,off,rfl,hb,hlc,hcm,hc⟩:=HR.out (by omega)
   have hpr:=hD (cO (aQ (aQ hc ((Ext.refl w).alloc _) hb) hxr (by simp;omega)) j)
   have hpt:=hD (gR ho hlt)
   have p6:=pq ho hlt 6 rfl
   have p7:=pq ho hlt 7 rfl
   have p8:=pq ho hlt 8 rfl
   have p9:=pq ho hlt 9 rfl
   have p10:=pq ho hlt 10 rfl
   have p11:=pq ho hlt 11 rfl
   have p12:=pq ho hlt 12 rfl
   have p13:=pq ho hlt 13 rfl
   have p14:=pq ho hlt 14 rfl
   have q78:=hD (pq ho hlt 78 rfl)
   have q79:=hD (pq ho hlt 79 rfl)
   have q80:=hD (pq ho hlt 80 rfl)
   have q81:=hD (pq ho hlt 81 rfl)
   have q82:=hD (pq ho hlt 82 rfl)
   have q83:=hD (pq ho hlt 83 rfl)
   have q84:=hD (pq ho hlt 84 rfl)
   have q85:=hD (pq ho hlt 85 rfl)
   have q64:=hD (pq ho hlt 64 rfl)
   have q65:=hD (pq ho hlt 65 rfl)
   have q66:=hD (pq ho hlt 66 rfl)
   have q67:=hD (pq ho hlt 67 rfl)
   obtain⟨p,hp⟩:∃p,a9 B.ps j=p:=⟨_,rfl⟩
   rw[hp]at hpr hpt p6 p7 p8 p9 p10 p11 p12 p13 p14 q78 q79 q80 q81 q82 q83 q84 q85 q64 q65 q66 q67
   have hpz:=hD (show(Tryz.prog.info? 60).map (·.size)=some p.length by rw[hpt.out.1];exact gQ)
   clear hc hp
   have hps:=hD (show(Tryz.prog.info? 60).map (·.size)=some p.toArray.size by rw[List.size_toArray];exact hpz.out)
   have hpl:=hD (show PZ.size=p.toArray.size by rw[aMQ,List.size_toArray];exact hpt.out.1.symm)
   have hpo:=hD (all_oneCell_toArray hpt.out.one)
   go_wp2_with (first|fail|((with_reducible refine aG 60 ?_);refine wpList_load_mid rfl 60 _ rfl b (off+j*89) rfl p _ hpr.out Tryz.underlying60 rfl hpz.out ?_)|((with_reducible refine aD 60 ?_);refine aCV rfl 60 _ _ rfl PZ p.toArray rfl rfl hps.out hpl.out hpo.out ?_))
   have hk9:Hid (∀k,k<9→[Value.int .i64 (B.gi j 6),Value.int .i64 (B.gi j 7),Value.int .i64 (B.gi j 8),Value.int .i64 (B.gi j 9),Value.int .i64 (B.gi j 10),Value.int .i64 (B.gi j 11),Value.int .i64 (B.gi j 12),Value.int .i64 (B.gi j 13),Value.int .i64 (B.gi j 14)][k]?=some (.int .i64 (B.gi j (6+k)))):=hD (fun k hk =>
    match k,hk with
    | 0,_=>rfl|1,_=>rfl|2,_=>rfl|3,_=>rfl|4,_=>rfl|5,_=>rfl|6,_=>rfl|7,_=>rfl|8,_=>rfl)
   have hx9:Hid (Ext (w.alloc (.cells c 35)) (((wr.alloc (.cells p.toArray 60)).alloc (.cells #[.int .i64 (B.gi j 6),.int .i64 (B.gi j 7),.int .i64 (B.gi j 8),.int .i64 (B.gi j 9),.int .i64 (B.gi j 10),.int .i64 (B.gi j 11),.int .i64 (B.gi j 12),.int .i64 (B.gi j 13),.int .i64 (B.gi j 14)] 54)).alloc (.cells #[.int .i64 (B.gi j 6),.int .i64 (B.gi j 7),.int .i64 (B.gi j 8),.int .i64 (B.gi j 9),.int .i64 (B.gi j 10),.int .i64 (B.gi j 11),.int .i64 (B.gi j 12),.int .i64 (B.gi j 13),.int .i64 (B.gi j 14)] 3))):=hD (((hxr.alloc _).alloc _).alloc _)
   have hpx:=hD (show ∀w':World,Ext ((wr.alloc (.cells p.toArray 60)).alloc (.cells #[.int .i64 (B.gi j 6),.int .i64 (B.gi j 7),.int .i64 (B.gi j 8),.int .i64 (B.gi j 9),.int .i64 (B.gi j 10),.int .i64 (B.gi j 11),.int .i64 (B.gi j 12),.int .i64 (B.gi j 13),.int .i64 (B.gi j 14)] 54)) w'→∀j,w'.cell? ⟨wr.heap.size,j,none⟩=p[j]? from
    fun w' hx j=>(hx.cell (by simp;omega)).trans ((World.cell?_alloc_past _ _ _ (by simp)).trans ((World.cell?_alloc_at _ _ _ _ rfl).trans (by simp))))
   clear p6 p7 p8 p9 p10 p11 p12 p13 p14
   go_loop [9] (fun i=>∃k:Nat,k≤9∧i=.int .i64 k∧Hid (∀n,n<k→0≤B.gi j (6+n)∧B.gi j (6+n)≤1000)) (fun i=>9 - (intOf i).toNat)
   case atStart=>exact⟨0,by omega,rfl,hD (fun n hn=>by omega)⟩
   case round =>
    obtain⟨k,hk,rfl,hn⟩:=hrel
    by_cases hlk:k<9
    ·have hz:=hk9.out k hlk
     obtain⟨hlz,hz'⟩:=List.getElem?_eq_some_iff.1 hz
     obtain⟨z,hze⟩:∃z,B.gi j (6+k)=z:=⟨_,rfl⟩
     rw[hze]at hz hz'
     have HZ:=hD hze
     clear hze
     go_wp2_with fail
     all_goals first
      | (go_ret
         refine⟨false,rfl,((Ext.refl w).alloc _).trans hx9.out,⟨(fun h=>by cases h),(fun h=>?_)⟩⟩
         have h1:=(h.2 j hlt).1 k hlk
         rw[HZ.out]at h1
         omega)
      | skip
     go_round
     case rel =>
      refine⟨k+1,by omega,by go_num,hD (fun n hn'=>?_)⟩
      by_cases e:n=k
      ·subst e
       rw[HZ.out]
       omega
      ·exact hn.out n (by omega)
     case measure=>simp[intOf];omega
    ·have hclk:Hid (ClkR B j):=hD (fun n hn'=>hn.out n (by omega))
     have a78:=q78.out
     have a79:=q79.out
     have a80:=q80.out
     have a81:=q81.out
     go_wp2_with fail
     refine(aCG _ _ _ _ _).mono ?_
     rintro e w5 ⟨f5_,rfl,hx5,hf5⟩
     have hb5:=hpx.out w5 ((Ext.refl _).alloc _ |>.trans hx5)
     have HF5:=hD hf5
     clear hf5 a78 a79 a80 a81
     have a82:=q82.out
     have a83:=q83.out
     have a84:=q84.out
     have a85:=q85.out
     go_wp2_with fail
     refine(aCG _ _ _ _ _).mono ?_
     rintro e w6 ⟨f6,rfl,hx6,hf6⟩
     have hb6:=hpx.out w6 (((Ext.refl _).alloc _ |>.trans hx5).trans hx6)
     have HF6:=hD hf6
     clear hf6 a82 a83 a84 a85 hb5
     have a64:=q64.out
     have a65:=q65.out
     have a66:=q66.out
     have a67:=q67.out
     go_wp2_with fail
     refine(aCG _ _ _ _ _).mono ?_
     rintro e w7 ⟨f7_,rfl,hx7,hf7⟩
     have HF7:=hD hf7
     clear hf7 a64 a65 a66 a67 hb6
     have hx8:=hx9.out.trans (hx5.trans (hx6.trans hx7))
     clear hx5 hx6 hx7
     cases f5_<;>cases f6<;>cases f7_
     all_goals
      go_wp2_with fail
     all_goals first
      | (go_ret
         refine⟨false,rfl,((Ext.refl w).alloc _).trans hx8,⟨(fun h=>by cases h),(fun h=>?_)⟩⟩
         obtain⟨h1,h2,h3,h4⟩:=h.2 j hlt
         first|exact HF5.out.2 h2|exact HF6.out.2 h3|exact HF7.out.2 h4)
      | skip
     go_roundw
     case rel =>
      refine⟨j+1,by omega,by go_num,hx8,hD (fun n hn'=>?_)⟩
      by_cases e:n=j
      ·subst e
       exact⟨hclk.out,HF5.out.1 trivial,HF6.out.1 trivial,HF7.out.1 trivial⟩
      ·exact hall.out n (by omega)
     case measure=>simp[intOf];omega
  ·go_wp2_with fail
   go_ret
   exact⟨true,rfl,((Ext.refl w).alloc _).trans hxr,⟨fun _=>⟨HH.out,fun k hk=>hall.out k (by omega)⟩,fun _=>rfl⟩⟩
end Go.Proofs.YtpanapepcbbagaaGreat
namespace Go.Proofs.YtpanapepcbbagaaGreat
open Go.RowKit Go.BigFrame Go.WideShapes Go.ChangeShapes Go.Deep
theorem rW.and{n:Nat}{I J:Br→Prop}(h:rW n I)(h':rW n J):rW n (fun B=>I B∧J B) :=
 ⟨h.run.and h'.run,fun B a b=>⟨h.tick B a b.1,h'.tick B a b.2⟩,fun B k b a c d=>⟨h.en B k b a c d.1,h'.en B k b a c d.2⟩,fun B q m a b c=>⟨h.take B q m a b c.1,h'.take B q m a b c.2⟩,fun B k a b c=>⟨h.chk B k a b c.1,h'.chk B k a b c.2⟩,fun B a=>⟨h.nil B a.1,h'.nil B a.2⟩⟩
theorem cy{w:World}{Y j:Nat}{L:List Value}{t:TypeId}{v:Value}(h:w.heap[Y]?=some (.cells L.toArray t (0,0)))(hv:L[j]?=some v):w.cell? ⟨Y,j,none⟩=some v:=by rw[bA h,List.getElem?_toArray];exact hv
theorem lf{a b:Int}(h:b≤a):decide (a<b)=false:=by simp;omega
theorem gf{a b:Int}(h:a≤b):decide (a > b)=false:=by simp;omega
theorem xcl{w w':World}{b o:Nat}{v:Value}(h:Ext w w')(hb:b<w.heap.size)(hv:w.cell? ⟨b,o,none⟩=some v):w'.cell? ⟨b,o,none⟩=some v:=(h.cell hb).trans hv
def StZ:Array Value:=#[.int .i64 0,.int .i64 0,.int .i64 0,.int .i64 0,.int .i64 0,.int .i64 0,.int .i64 0]
theorem aMI:∀w,(zeroValue 56).run Tryz.prog w=.ok (.agg StZ) w:=(zero_of_info (P:=Tryz.prog) (t:=56) (v:=.agg StZ) (n:=7) (by kernel_rfl)).1
theorem law_BridgeRange{w:World}(rst:Bool)(v:Value)(P:List Pt)(hP:SusAt w v P)(hpr:∀p∈P,PtR p)(va:Value)(m:Nat)(xs:List Value)(hA:ActsAt w va m xs):
    Calls Tryz.prog 7 #[.bool rst,v,va] w fun e w'=>e=.returned (.bool true)∧Ext w w':=by
 have HP:=hD hP
 have HR:=hD hpr
 have HA:=hD hA
 obtain⟨pa,pcap,rfl,hpm,-⟩:=hP
 obtain⟨aa,acap,rfl,ham,hrt,haf⟩:=hA
 have HAF:=hD haf
 have HRT:=hD hrt
 clear hpr haf hrt
 go_enter Tryz.func7,Tryz.ntmps7
 go_wp2_with fail
 refine(aCP w).mono ?_
 rintro e w1 ⟨rfl,hx⟩
 have HX1:=hD hx
 clear hx
 by_cases h5:P.length≤5
 case neg =>
  have d5:decide ((P.length:Int) > 5)=true:=by simp;omega
  go_wp2_with fail
  go_ret
  exact⟨rfl,HX1.out⟩
 have d5:decide ((P.length:Int) > 5)=false:=by simp;omega
 by_cases h1:0<P.length
 case neg =>
  have d1:decide ((P.length:Int)<1)=true:=by simp;omega
  go_wp2_with fail
  go_ret
  exact⟨rfl,HX1.out⟩
 have d1:decide ((P.length:Int)<1)=false:=by simp;omega
 by_cases h40:m≤40
 case neg =>
  have d40:decide ((m:Int) > 40)=true:=by simp;omega
  go_wp2_with fail
  go_ret
  exact⟨rfl,HX1.out⟩
 have d40:decide ((m:Int) > 40)=false:=by simp;omega
 go_wp2_with fail
 clear d5 d1 d40
 go_loopw [8] (fun sl wr=>∃i:Nat,sl=.int .i64 i∧i≤m∧(∀j,j<i→MT ((xs.drop (j*20+3)).take 17))∧Ext w wr) (fun sl _=>m - (intOf sl).toNat)
 case atStart=>exact⟨0,rfl,by omega,fun j hj=>absurd hj (by omega),HX1.out⟩
 case round =>
  obtain⟨i,rfl,hi,hmt,hx⟩:=hrel
  rename World=>wr
  have HMT:=hD hmt
  have HXR:=hD hx
  clear hmt hx HX1
  by_cases hlm:i<m
  ·have dlm:decide ((i:Int)<(m:Int))=true:=by simp;omega
   have hupi:IntKind.i64.wrap ((i:Int)+1)=((i+1:Nat):Int):=by rw[IntKind.wrap_i64];omega
   obtain⟨b,off,rfl,hb,hc1,hc2,hrg⟩:=HAF.out (by omega)
   obtain⟨mL,hmL⟩:∃l,(xs.drop (i*20+3)).take 17=l:=⟨_,rfl⟩
   have HML:=hD (aH7 HRT.out hlm hrg HXR.out hb hmL)
   have HME:=hD hmL
   clear hrg hmL
   go_wp2_with (first
    | fail
    | ((with_reducible refine aG 46 ?_);refine wpList_load_mid rfl 46 _ rfl b (off+i*20+3) rfl mL _ HML.out.1 Tryz.underlying46 rfl HML.out.2.2 ?_))
   refine(yX mL HML.out.2.1 wr).mono ?_
   rintro e w7 ⟨d7,rfl,htd,hx7⟩
   have HX7:=hD (HXR.out.trans hx7)
   have HTD:=hD htd
   clear hx7 htd
   cases d7
   ·go_wp2_with fail
    go_ret
    exact⟨rfl,HX7.out⟩
   ·go_wp2_with fail
    go_roundw
    case rel =>
     refine⟨i+1,by go_num,hlm,fun j hj=>?_,HX7.out⟩
     by_cases hji:j=i
     ·subst hji
      rw[HME.out]
      first|exact HTD.out rfl|exact HTD.out trivial
     ·exact HMT.out j (by omega)
    case measure=>simp[intOf]<;>omega
  ·obtain rfl:i=m:=by omega
   have dlm:decide ((i:Int)<(i:Int))=false:=by simp
   go_wp2_with fail
   refine(y7 (J:=fun B=>JD P.length B∧RG B) rst _ P wr (aL9 (HP.out.pts (by omega)) HXR.out) HR.out h1 h5 _ i xs (HA.out.ext HXR.out) HMT.out ((aL4 (by omega)).and (aMF (by omega))) ⟨aNF rfl,aNM rfl⟩).mono ?_
   rintro e w2 ⟨c,B,rfl,hvb,hQ,hJ,hx2⟩
   have HSZ:=hD (hvb.sz hQ.1.1.ok)
   have HVB:=hD hvb
   have HQ:=hD hQ
   have HJ:=hD hJ
   have HX2:=hD hx2
   clear hvb hQ hJ hx2 dlm
   go_upto_region 11 with (first
    | fail
    | ((with_reducible refine bS 35 ?_);refine b6 rfl 35 rfl oR jK ?_
       intro X w3 hq hsz hx)
    | ((with_reducible refine aD 35 ?_);refine nQ rfl rfl 35 _ _ rfl X c oR 35 rfl rfl hq HSZ.out.1 fP HSZ.out.2 ?_
       intro w4 hq4 hm4
       have HQ4:=hD hq4
       have HV4:=hD (HVB.out.mut ((hx.mut (fun n=>n=X)).trans hm4) (fun n h1 h2 h3=>by have h4:n=X:=h3;omega))
       have HX4:=hD (show Ext wr w4 from HX2.out.trans (hx.mutE hm4 (fun g hg h=>by have h2:g=X:=h;omega)))
       have HXW:=hD (show wr.heap.size≤X from by have:=HX2.out.size;omega)
       clear hq hsz hx hq4 hm4 HVB HX2))
   obtain⟨g,hB⟩:=VB.wb (N:=fun n=>wr.heap.size≤n) HV4.out HQ4.out (fun n hn _=>hn) HXW.out
   obtain⟨C,hC,hbr,hCs⟩:=BrG.br hB (by rw[HQ.out.1.1.np];exact h1)
   have HC:=hD hC
   have HCS:=hD (show(Tryz.prog.info? 35).map (·.size)=some C.size by rw[hCs,HQ.out.1.1.ok.hd.1];exact fP)
   have HB:=hD hB
   have HBR:=hD hbr
   clear hB hC hCs hbr HV4 HQ4 HSZ
   go_wp2_with (first
    | fail
    | ((with_reducible refine aG 35 ?_);refine wpList_load_row rfl 35 _ rfl X rfl 35 C (0,0) _ HC.out Tryz.underlying35 rfl HCS.out ?_))
   refine(aKX C B w4 HBR.out HQ.out.1.1.ok).mono ?_
   rintro e w5 ⟨f,rfl,hx5,hf⟩
   obtain rfl:f=true:=hf.2 (aMG (by omega) HQ.out.1 HJ.out.1 HJ.out.2)
   have HB5:=hD (WB.ext HB.out hx5)
   have HX5:=hD (show Ext w w5 from HXR.out.trans (HX4.out.trans hx5))
   clear hx5 hf HB HBR HC HCS
   go_wp2_with fail
   go_loopw [14,13] (fun si sr wl=>∃k d:Nat,si=.int .i64 k∧sr=.int .i64 d∧k≤P.length∧((d=0∧∀j,j<k→B.gi j 87≠3)∨(d=1∧∃j,j<k∧B.gi j 87=3))∧WB (fun n=>wr.heap.size≤n) X g B wl∧Ext w wl) (fun si _ _=>P.length - (intOf si).toNat)
   case atStart=>exact⟨0,0,rfl,rfl,by omega,.inl ⟨rfl,fun j hj=>absurd hj (by omega)⟩,HB5.out,HX5.out⟩
   case round =>
    clear HB5 HX5
    obtain⟨k,d,rfl,rfl,hk,hd,hB,hx⟩:=hrel
    rename World=>wl
    have HB:=hD hB
    have HX:=hD hx
    have HD:=hD hd
    have hnp:B.np=P.length:=HQ.out.1.1.np
    obtain⟨cap,c17,hcp,hcm⟩:=BrG.cell17 hB HQ.out.1.1.ok
    rw[hnp]at c17 hcp
    have c6:=(BrG.cellX hB HQ.out.1.1.ok (i:=6) (by omega)).trans (HQ.out.1.1.ok.hi 6 rfl)
    rw[HQ.out.1.1.hs.2.2.2.2]at c6
    have hd1:d≤1:=by omega
    have HNP:=hD hnp
    clear hB hx hd hnp
    by_cases hkl:k<P.length
    ·have dkl:decide ((k:Int)<(P.length:Int))=true:=by simp;omega
     have hupk:IntKind.i64.wrap ((k:Int)+1)=((k+1:Nat):Int):=by rw[IntKind.wrap_i64];omega
     have hupd:IntKind.i64.wrap ((d:Int)+1)=((d+1:Nat):Int):=by rw[IntKind.wrap_i64];omega
     have hkn:k<B.np:=by rw[HNP.out];exact hkl
     obtain⟨en,fw,r,q,x,m',e',f',t,p,o,c',hpo⟩:=aNN (by omega) HQ.out.1 hkl HJ.out.1 HJ.out.2
     have hpt:=dI HQ.out.1.1.ok hkn
     have fI_:∀j v,j<89→PL[j]?=some (some .i64)→B.gi k j=v→(a9 B.ps k)[j]?=some (.int .i64 v):=fun j v hj hp hv=>by
      have h:=aR hpt j hp
      rw[jI hj,hv]at h
      exact h
     have fB_:∀j v,j<89→PL[j]?=some none→B.gb k j=v→(a9 B.ps k)[j]?=some (.bool v):=fun j v hj hp hv=>by
      have h:=fG hpt j hp
      rw[aHB hj,hv]at h
      exact h
     have HFC:=hD (And.intro (fB_ 2 _ (by decide) rfl hpo.c2) (And.intro (fB_ 27 _ (by decide) rfl hpo.c27) (And.intro (fI_ 87 _ (by decide) rfl hpo.c87) (And.intro (fI_ 88 _ (by decide) rfl hpo.c88) (And.intro (fI_ 86 _ (by decide) rfl hpo.c86) (fI_ 14 _ (by decide) rfl hpo.c14))))))
     have HFS:=hD (show ∀j v,([.int .i64 x,.int .i64 m',.int .i64 e',.int .i64 f',.int .i64 t,.int .i64 p,.int .i64 o]:List Value)[j]?=some v→(a9 B.ps k)[15+j]?=some v from fun j v hv=>by
      match j,hv with
      | 0,hv=>cases hv;exact fI_ 15 _ (by decide) rfl hpo.c15
      | 1,hv=>cases hv;exact fI_ 16 _ (by decide) rfl hpo.c16
      | 2,hv=>cases hv;exact fI_ 17 _ (by decide) rfl hpo.c17
      | 3,hv=>cases hv;exact fI_ 18 _ (by decide) rfl hpo.c18
      | 4,hv=>cases hv;exact fI_ 19 _ (by decide) rfl hpo.c19
      | 5,hv=>cases hv;exact fI_ 20 _ (by decide) rfl hpo.c20
      | 6,hv=>cases hv;exact fI_ 21 _ (by decide) rfl hpo.c21
      | j+7,hv=>simp at hv)
     have HRG:=hD (aMA HB.out hkn)
     have HP1:=hD (aMB HQ.out.1.1.ok hkn)
     have HPL:=hD hpt.1
     have HPO:=hD hpo
     obtain⟨F,hF⟩:∃F,a9 B.ps k=F:=⟨_,rfl⟩
     rw[hF]at HFC HFS HRG HP1 HPL
     have HSF:=hD (show(Tryz.prog.info? 60).map (·.size)=some F.length by rw[HPL.out];exact gQ)
     obtain⟨-,-,-,-,-,-,-,-,-,-,-,-,-,rr,rq,rx,rm,re,rf,rt,rp,ro,rc,hfr,hdis⟩:=hpo
     have b1:=lf rr.1
     have b2:=gf rr.2
     have b3:(r != r)=false:=by simp
     have b4:=lf rq.1
     have b5:=gf rq.2
     have b6_:=lf rx.1
     have b7_:=gf rx.2
     have b8_:=lf rm.1
     have b9_:=gf rm.2
     have b10:=lf re.1
     have b11:=gf re.2
     have b12:=lf rf.1
     have b13:=gf rf.2
     have b14:=lf rt.1
     have b15:=gf rt.2
     have b16:=lf rp.1
     have b17:=gf rp.2
     have b18:=lf ro.1
     have b19:=gf ro.2
     have b20:=gf rc.2
     have HFR:=hD (And.intro hfr hdis)
     clear hF hpt fI_ fB_ hkn rr rq rx rm re rf rt rp ro rc hfr hdis
     go_upto_region 20 with (first
      | fail
      | ((with_reducible refine aG 60 ?_);refine wpList_load_mid rfl 60 _ rfl g (k*89) rfl F _ HRG.out Tryz.underlying60 rfl HSF.out ?_)
      | ((with_reducible refine bS 60 ?_);refine b6 rfl 60 rfl PortZ oP ?_
         intro Y wa hqa hsa hxa)
      | ((with_reducible refine aD 60 ?_);refine nQ rfl rfl 60 _ _ rfl Y F.toArray PortZ 60 rfl rfl hqa (by rw[List.size_toArray];exact HPL.out) gQ HP1.out ?_
         intro wb hqb hmb
         obtain⟨f2,f27,f87,f88,f86,f14⟩:=HFC.out
         have c2:=cy hqb f2
         have c27:=cy hqb f27
         have c87:=cy hqb f87
         have c88:=cy hqb f88
         have c86:=cy hqb f86
         have c14:=cy hqb f14
         have HRS:=hD (show wb.rangeAt Y 15 [.int .i64 x,.int .i64 m',.int .i64 e',.int .i64 f',.int .i64 t,.int .i64 p,.int .i64 o]from fun j v hv=>by
          rw[bA hqb,List.getElem?_toArray]
          exact HFS.out j v hv)
         have HYB:=hD (aC hqb)
         have HXB:=hD (show Ext wl wb from hxa.mutE hmb (fun g hg h=>by have h2:g=Y:=h;omega))
         have C:=hD (And.intro c2 (And.intro c27 (And.intro c87 (And.intro c88 (And.intro c86 c14)))))
         clear hqa hsa hxa hqb hmb f2 f27 f87 f88 f86 f14 c2 c27 c87 c88 c86 c14)
      | ((with_reducible refine aG 56 ?_);refine wpList_load_mid rfl 56 _ rfl Y 15 rfl [.int .i64 x,.int .i64 m',.int .i64 e',.int .i64 f',.int .i64 t,.int .i64 p,.int .i64 o] _ HRS.out Tryz.underlying56 rfl (by kernel_rfl) ?_)
      | ((with_reducible refine bS 56 ?_);refine b6 rfl 56 rfl StZ aMI ?_
         intro S wa hqa hsa hxa)
      | ((with_reducible refine aD 56 ?_);refine nQ rfl rfl 56 _ _ rfl S #[.int .i64 x,.int .i64 m',.int .i64 e',.int .i64 f',.int .i64 t,.int .i64 p,.int .i64 o] StZ 56 rfl rfl hqa rfl (by kernel_rfl) rfl ?_
         intro ws hqs hms
         have hxs:Ext wb ws:=hxa.mutE hms (fun g hg h=>by have h2:g=S:=h;omega)
         have s0:ws.cell? ⟨S,0,none⟩=some (.int .i64 x):=by rw[bA hqs];rfl
         have s1:ws.cell? ⟨S,1,none⟩=some (.int .i64 m'):=by rw[bA hqs];rfl
         have s2:ws.cell? ⟨S,2,none⟩=some (.int .i64 e'):=by rw[bA hqs];rfl
         have s3:ws.cell? ⟨S,3,none⟩=some (.int .i64 f'):=by rw[bA hqs];rfl
         have s4:ws.cell? ⟨S,4,none⟩=some (.int .i64 t):=by rw[bA hqs];rfl
         have s5_:ws.cell? ⟨S,5,none⟩=some (.int .i64 p):=by rw[bA hqs];rfl
         have s6:ws.cell? ⟨S,6,none⟩=some (.int .i64 o):=by rw[bA hqs];rfl
         have c2:=xcl hxs HYB.out C.out.1
         have c27:=xcl hxs HYB.out C.out.2.1
         have c87:=xcl hxs HYB.out C.out.2.2.1
         have c88:=xcl hxs HYB.out C.out.2.2.2.1
         have c86:=xcl hxs HYB.out C.out.2.2.2.2.1
         have c14:=xcl hxs HYB.out C.out.2.2.2.2.2
         have HXS:=hD (HXB.out.trans hxs)
         have cx6:=(HXS.out.cell (p:=⟨X,6,none⟩) (BrG.lt HB.out).1).trans c6
         clear hqa hsa hxa hqs hms hxs C HRS HYB HXB))
     clear b1 b2 b3 b4 b5 b6_ b7_ b8_ b9_ b10 b11 b12 b13 b14 b15 b16 b17 b18 b19 HFC HFS HRG HP1 HPL HSF c6 s0 s1 s2 s3 s4 s5_ s6 c17
     obtain⟨hfr,hdis⟩:=HFR.out
     obtain⟨z0,hz0⟩:∃z,(r == 0)=z:=⟨_,rfl⟩
     obtain⟨z3,hz3⟩:∃z,(r == 3)=z:=⟨_,rfl⟩
     have he:z0=!en:=by
      rw[←hz0]
      cases en
      ·simpa using hdis.2 rfl
      ·simp
       intro h
       exact absurd (hdis.1 h) (by decide)
     subst he
     have hf3:fw=true→decide (r<3)=false:=fun h=>by have:=hfr h;simp;omega
     have HW3:=hD hz3
     clear hfr hdis HFR
     have fin:∀w',Ext wl w'→Ext w w'∧WB (fun n=>wr.heap.size≤n) X g B w':=fun w' h=>⟨HX.out.trans h,WB.ext HB.out h⟩
     have HFN:=hD fin
     clear fin
     cases z3<;>cases fw<;>cases en
     all_goals
      have hq3:=hf3
      clear hf3
      try have d3:=hq3 rfl
      clear hq3
      go_wp2_with fail
      go_roundw
      case rel =>
       have hh:=HFN.out _ HXS.out
       have h3:=HW3.out
       have hr:=HPO.out.c87
       first
        | (refine ⟨k+1,d,by go_num,rfl,hkl,?_,hh.2,hh.1⟩
           have hne:r≠3:=fun h=>by rw[h]at h3;exact absurd h3 (by decide)
           rcases HD.out with ⟨a,b⟩|⟨a,j,b,b2⟩
           ·refine .inl ⟨a,fun j hj=>?_⟩
            by_cases e:j=k
            ·rw[e,hr];exact hne
            ·exact b j (by omega)
           ·exact .inr ⟨a,j,by omega,b2⟩)
        | (have he:r=3:=by simpa using h3
           have hr3:B.gi k 87=3:=hr.trans he
           have hd0:d=0:=by
            rcases HD.out with ⟨a,b⟩|⟨a,j,b,b2⟩
            ·exact a
            ·have:=aMH HQ.out.1 (by omega) HJ.out.1 (Nat.lt_trans b hkl) hkl b2 hr3
             omega
           exact⟨k+1,d+1,by go_num,by go_num,hkl,.inr ⟨by omega,k,by omega,hr3⟩,hh.2,hh.1⟩)
      case measure=>simp[intOf]<;>omega
    ·obtain rfl:k=P.length:=by omega
     have dkl:decide ((P.length:Int)<(P.length:Int))=false:=by simp
     have dd:decide ((d:Int)≤1)=true:=by simp;omega
     go_wp2_with fail
     go_ret
     exact⟨rfl,HX.out⟩
end Go.Proofs.YtpanapepcbbagaaGreat
