/- Part 3 of what BridgeAlone stands on. No statement is proved here. -/
import Derived.Test.YtpanapepcbbagaaGreatBab
set_option linter.unusedVariables false
set_option linter.unusedSimpArgs false
set_option maxRecDepth 100000
set_option maxHeartbeats 8000000
namespace Go.Proofs.YtpanapepcbbagaaGreat
open Go.RowKit Go.BigFrame Go.WideShapes Go.ChangeShapes Go.Deep
section
variable {c d:Pc} {n M k:Nat} {s:Nat→Nat} {B C:Br} {t:Int}
def PS2(c:Pc):Prop:=(gI c 20=0∧gB c 27=false∧gB c 29=false)∨(gI c 20=1∧gB c 27=false∧gB c 29=true)∨(gI c 20=2∧gB c 27=true∧gB c 29=true)
theorem mL(h:∀x,x=20∨x=27∨x=29→d x=c x)(hp:PS2 c):PS2 d:=by
 unfold PS2 gI gB at hp ⊢
 rw[h 20 (by omega),h 27 (by omega),h 29 (by omega)]
 exact hp
theorem aMU(h:PS2 c):PSc c:=h.elim .inl (fun h=>h.elim (fun h=>.inr (.inl ⟨h.1,h.2.1⟩)) (fun h=>.inr (.inr h.1)))
theorem aMM{k:Nat}(hk:Lk k B)(h:PS2 (pc B k)):PS2 (pc (gT B k).2 k):=by
 have l:pc (fN B k) k=up (up (pc B k) 29 (.bool true)) 20 (.int .i64 1):=by
  simp (disch:=first|decide|exact hk|(simp only[bC];exact hk))only[fN,a8]
 have t:pc (fA B k) k=up (up (up (pc B k) 29 (.bool false)) 27 (.bool false)) 20 (.int .i64 0):=by
  simp (disch:=first|decide|exact hk|(simp only[bC];exact hk))only[fA,a8]
 have f:pc (dN B k) k=up (up (pc B k) 27 (.bool true)) 20 (.int .i64 2):=by
  simp (disch:=first|decide|exact hk|(simp only[bC];exact hk))only[dN,a8]
 unfold gT
 rw[gN (j:=20) (by decide)]
 unfold PS2 at h ⊢
 split
 ·rename_i h0
  split
  ·show _∨_∨_
   rw[l]
   simp[aV,bE,aA6,aCF]
   grind
  ·exact h
 split
 ·split
  ·rw[t]
   simp[aV,bE,aA6,aCF]
  ·split
   ·rw[f]
    simp[aV,bE,aA6,aCF]
    grind
   ·exact h
 split
 ·split
  ·rw[t]
   simp[aV,bE,aA6,aCF]
  ·exact h
 ·exact h
theorem aE5(hn:n<1000):Keeps n s (fun B=>∀i,i<n→PS2 (pc B i)):=by
 refine⟨fun M B hK ha h i hi=>mL (fun x hx=>aCW hK hn hi (by omega) (by omega)) (h i hi),fun M k j B hK hk hj ha h i hi=>?_⟩
 by_cases h5:j=5
 ·subst h5
  have hl:=mT hK.ok (show k<B.np by rw[hK.np];exact hk)
  by_cases hik:i=k
  ·subst hik
   exact aMM hl (h i hi)
  ·exact mL (fun x _=>by show pc (gT B k).2 i x=_;rw[((s5 hl).core (fun h=>h.1)).2 i hik]) (h i hi)
 ·exact mL (fun x hx=>aNG hK hk hj h5 i hx) (h i hi)
theorem aID{k:Nat}(hl:Lk k B)(h87:gI (pc B k) 87=0)(h88:gI (pc B k) 88=0)(h19:gI (pc B k) 19=0∨gI (pc B k) 19=1)(h3:B.hi 3=20):(∀i,i≠k→pc (oM B k).2 i=pc B i)∧(pc (oM B k).2 k=pc B k∨∃v,pc (oM B k).2 k=up (up (up (up (up (up (pc B k) 7 (.int .i64 20)) 12 (.int .i64 0)) 47 (.bool true)) 46 (.bool false)) 42 (.bool false)) 19 v)∧(oM B k=(false,B)→gB (pc B k) 44=true→gB (pc B k) 50=false→gB (pc B k) 29=false→gB (pc B k) 27=false→gI (pc B k) 7=20∧gB (pc B k) 46=false∧gB (pc B k) 42=false):=by
 have g87:=(gN (B:=B) (k:=k) (j:=87) (by decide)).trans h87
 have g88:=(gN (B:=B) (k:=k) (j:=88) (by decide)).trans h88
 have a0:cQ B k 0=false:=by unfold cQ;rw[g88,g87];rfl
 have a1:cQ B k 1=false:=by unfold cQ;rw[g88];rfl
 have a2:cQ B k 2=false:=by unfold cQ;rw[g88];rfl
 have a3:cQ B k 3=false:=by unfold cQ;rw[g88];rfl
 have hR:zL B k=if B.gi k 19=0 then(if cQ B k 4=true then 4 else 24)else if B.gi k 19=1 then(if cQ B k 5=true then 5 else 24)else zL B k:=by
  rcases h19 with e|e
  ·have g19:=(gN (B:=B) (k:=k) (j:=19) (by decide)).trans e
   rw[g19,if_pos rfl]
   unfold zL
   rw[a0,a1,a2,a3,g19]
   simp
  ·have g19:=(gN (B:=B) (k:=k) (j:=19) (by decide)).trans e
   rw[g19,if_neg (by decide),if_pos rfl]
   unfold zL
   rw[a0,a1,a2,a3,g19]
   simp
 have set:∀v,(∀i,i≠k→pc ((eG B k (B.hi 3)).setp k 19 v) i=pc B i)∧pc ((eG B k (B.hi 3)).setp k 19 v) k=up (up (up (up (up (up (pc B k) 7 (.int .i64 20)) 12 (.int .i64 0)) 47 (.bool true)) 46 (.bool false)) 42 (.bool false)) 19 v:=fun v=>by
  rw[h3]
  refine⟨fun i hi=>?_,?_⟩
  ·simp (disch:=first|decide|exact hi)only[eG,aK]
  ·simp (disch:=first|decide|exact hl|(simp only[bC];exact hl))only[eG,a8]
 unfold oM
 split
 case isFalse h=>exact⟨fun _ _=>rfl,.inl rfl,fun _ a b=>absurd ⟨(cM (by decide)).trans a,(cM (by decide)).trans b⟩ h⟩
 unfold mO
 rcases h19 with e|e
 ·have g19:=(gN (B:=B) (k:=k) (j:=19) (by decide)).trans e
  have hR':zL B k=if cQ B k 4=true then 4 else 24:=by rw[hR,if_pos g19]
  rw[hR']
  by_cases b4:cQ B k 4=true
  ·rw[if_pos b4,if_neg (by decide),if_neg (by decide)]
   exact⟨(set _).1,.inr ⟨_,(set _).2⟩,fun h=>by cases congrArg Prod.fst h⟩
  ·rw[if_neg b4,if_pos rfl]
   refine⟨fun _ _=>rfl,.inl rfl,fun _ _ _ h29 h27=>?_⟩
   exfalso
   have b4':¬((!B.gb k 29 && !B.gb k 27)=true):=b4
   rw[cM (by decide),cM (by decide),h29,h27]at b4'
   exact b4' rfl
 ·have g19:=(gN (B:=B) (k:=k) (j:=19) (by decide)).trans e
  have hR':zL B k=if cQ B k 5=true then 5 else 24:=by rw[hR,if_neg (by omega),if_pos g19]
  rw[hR']
  by_cases b5:cQ B k 5=true
  ·rw[if_pos b5,if_neg (by decide),if_neg (by decide)]
   exact⟨(set _).1,.inr ⟨_,(set _).2⟩,fun h=>by cases congrArg Prod.fst h⟩
  ·rw[if_neg b5,if_pos rfl]
   refine⟨fun _ _=>rfl,.inl rfl,fun _ _ _ _ _=>?_⟩
   have b5':¬((B.gi k 7 != B.hi 3 || B.gb k 46 || B.gb k 42 || !B.gb k 47)=true):=b5
   rw[gN (by decide),cM (by decide),cM (by decide),cM (by decide),h3]at b5'
   simp at b5'
   exact⟨b5'.1.1.1,b5'.1.1.2,b5'.1.2⟩
theorem aM6{k:Nat}(hl:Lk k B)(h87:gI (pc B k) 87=0)(h88:gI (pc B k) 88=4):(∀i,i≠k→pc (oM B k).2 i=pc B i)∧∀x,UC x→pc (oM B k).2 k x=pc B k x:=by
 have g87:=(gN (B:=B) (k:=k) (j:=87) (by decide)).trans h87
 have g88:=(gN (B:=B) (k:=k) (j:=88) (by decide)).trans h88
 have hR:zL B k=2:=by
  unfold zL
  have a0:cQ B k 0=false:=by unfold cQ;rw[g88];rfl
  have a1:cQ B k 1=false:=by unfold cQ;rw[g88];rfl
  have a2:cQ B k 2=true:=by unfold cQ;rw[g88,g87];rfl
  rw[a0,a1,a2]
  simp
 unfold oM
 split
 ·rw [hR]
  unfold mO
  rw[if_neg (by decide),if_neg (by decide)]
  unfold dY
  refine⟨fun i hi=>?_,fun x hx=>?_⟩
  ·show pc ((B.setp k 87 _).setp k 19 _) i=_
   rw[aK hi (by decide),aK hi (by decide)]
  ·unfold UC at hx
   show pc ((B.setp k 87 _).setp k 19 _) k x=_
   rw[a8 (bC.2 hl) (by decide),a8 hl (by decide),a5 _ _ (by omega),a5 _ _ (by omega)]
 ·exact⟨fun _ _=>rfl,fun _ _=>rfl⟩
def U0(t:Int)(c:Pc):Prop:=UP t c∧(gI c 88=0∨gI c 88=4)∧((gI c 87=0∧gI c 7=20∧35≤t)∨(gI c 87=4∧gI c 88=4))∧(gI c 88=4→gI c 86≠0)
def PO(t:Int)(c:Pc):Prop:=(gB c 2=false→D0 c∧gB c 24=false)∧(gB c 2=true→U0 t c)
def HX(B:Br):Prop:=B.hi 8=0∧B.hi 9=7∧B.hi 10=0∧B.hi 11=0∧B.hi 12=-1
def J2(t:Int)(n:Nat)(B:Br):Prop:=IE n B∧HX B∧∀i,i<n→PO t (pc B i)
theorem aKX(hn:n<1000):Keeps n s (J2 t n):=by
 refine⟨fun M B hK ha h=>⟨(aKV hn).sel M B hK ha h.1,?_,fun i hi=>?_⟩,fun M k j B hK hk hj ha h=>⟨(aKV hn).st M k j B hK hk hj ha h.1,?_,fun i hi=>?_⟩⟩
 ·obtain ⟨hE,hH,-⟩:=h
  rcases aHR hK hn ha with ⟨e,-⟩|⟨e,-⟩
  ·rw[e];exact hH
  ·obtain⟨N,hnp,hhd,hg,e0,e12,e7,-,eC,-⟩:=aIC hK hn e
   have hN0:N.hi 0=7:=by unfold Br.hi;rw[hhd];exact hE.1
   have hr:=x6 N n (fun i hi=>by rw[hg i 86 (by decide) (by decide)];exact(hE.2.2 i hi).2.2.1)
   rw[hr,hN0]at eC
   rw[hr]at e12
   exact⟨eC 8 (by decide) (by decide),eC 9 (by decide) (by decide),eC 10 (by decide) (by decide),eC 11 (by decide) (by decide),e12⟩
 ·obtain ⟨hE,-,hP⟩:=h
  rcases aHR hK hn ha with ⟨e,-⟩|⟨e,hS⟩
  ·rw[e];exact hP i hi
  ·obtain ⟨N,-,-,-,-,-,-,-,-,hT⟩:=aIC hK hn e
   obtain⟨-,t2,-,t4⟩:=hT i hi
   have hc:∀x,UC x∨x=2→pc (gA B).2 i x=pc B i x:=fun x hx=>aCW hK hn hi (by unfold UC at hx;omega) (by unfold UC at hx;omega)
   have hSi:=hS i hi
   obtain⟨d0,r,u,hco,rfl,r0,r4,hr,-,-⟩:=hSi
   obtain⟨⟨b2,-⟩,-,-,-,-,-,i86,i87,i88⟩:=aFD hco
   simp only[bE,aV,aA6,Nat.reduceEqDiff,if_false,if_true]at b2 i86 i87 i88
   refine⟨fun h2=>?_,fun h2=>?_⟩
   ·obtain⟨p1,p2⟩:=(hP i hi).1 (b2.symm.trans h2)
    refine⟨d0_kp.se _ _ (ha i hi) p1 (hS i hi),?_⟩
    unfold gB
    rw[hc 24 (.inl (by unfold UC;omega))]
    exact p2
   ·obtain ⟨p1,p2,p3,p4⟩:=(hP i hi).2 (b2.symm.trans h2)
    have e7:gI (pc (gA B).2 i) 7=gI (pc B i) 7:=by unfold gI;rw[hc 7 (.inl (by unfold UC;omega))]
    have h86:=(ha i hi).2.2.1
    have n3:=(hE.2.2 i hi).2.2.1
    have h88:(gI (pc B i) 86=0∧gI (pc (gA B).2 i) 88=0)∨(gI (pc B i) 86≠0∧gI (pc (gA B).2 i) 88=4):=by
     rcases(by omega:gI (pc B i) 86=0∨gI (pc B i) 86=1∨gI (pc B i) 86=2)with h|h|h
     ·exact .inl ⟨h,i88.trans (hr.2 h)⟩
     ·exact .inr ⟨by omega,t4 h⟩
     ·exact .inr ⟨by omega,(t2 h).1⟩
    refine⟨k5 (fun x hx=>hc x (.inl hx)) p1,by omega,?_,by rw[i86];omega⟩
    rw[i87,e7]
    rcases p3 with p3|p3
    ·exact .inl p3
    ·refine .inr ⟨p3.1,?_⟩
     have:=p4 p3.2
     omega
 ·have hd:=aMP (B:=B) (k:=k) hj
  have hh:∀j',(fF j B k).2.hi j'=B.hi j':=fun j'=>by unfold Br.hi;rw[hd]
  unfold HX
  rw[hh,hh,hh,hh,hh]
  exact h.2.1
 ·obtain ⟨hE,-,hP⟩:=h
  have hkp:k<B.np:=by rw[hK.np];exact hk
  have hl:=mT hK.ok hkp
  obtain⟨c1,c2⟩:=aCG hK hk hj (ha k hk)
  have h88:=aMQ hK hk hj (ha k hk) i
  have e2:gB (pc (fF j B k).2 i) 2=gB (pc B i) 2:=by
   have:=(aJA (gB (pc B i) 2)).keep1 (n:=n) (s:=s) hn hi
   exact this.st M k j B hK hk hj ha rfl
  have hD:gB (pc B i) 2=false→D0 (pc (fF j B k).2 i):=fun h2=>(d0_kp.keep1 (n:=n) (s:=s) hn hi).st M k j B hK hk hj ha ((hP i hi).1 h2).1
  by_cases h4:j=4
  ·subst h4
   have hai:=ha k hk
   have hrs:=hai.1
   unfold RS at hrs
   have own:(∀i,i≠k→pc (oM B k).2 i=pc B i)∧PO t (pc (oM B k).2 k):=by
    have e2k:gB (pc (oM B k).2 k) 2=gB (pc B k) 2:=by
     have:=(aJA (gB (pc B k) 2)).keep1 (n:=n) (s:=s) hn hk
     exact this.st M k 4 B hK hk hj ha rfl
    have e88:gI (pc (oM B k).2 k) 88=gI (pc B k) 88:=aMQ hK hk hj hai k
    have tr:=yK hK.ok hkp hK.hs.2.1 hK.hs.2.2.1 hK.hs.2.2.2.1 hai.2.1
    have e86:gI (pc (oM B k).2 k) 86=gI (pc B k) 86:=by
     rcases c1 with h|⟨h,-⟩|⟨h,-⟩|⟨-,e,h⟩
     ·exact(aFD h).2.2.2.2.2.2.1
     ·cases h
     ·cases h
     ·exact(kts h.kt).2.2.2.2.1
    cases h2:gB (pc B k) 2
    ·obtain ⟨p1,p2⟩:=(hP k hk).1 h2
     obtain⟨o,v,-⟩:=aID hl p1.2.2.2.2.1 p1.2.2.2.2.2 (by have:=p1.2.2.2.2.1;omega) hK.hs.2.1
     refine⟨o,fun _=>⟨(d0_kp.keep1 (n:=n) (s:=s) hn hk).st M k 4 B hK hk hj ha p1,?_⟩,fun h=>by rw[e2k,h2]at h;cases h⟩
     rcases v with v|⟨v,hv⟩
     ·rw[v];exact p2
     ·rw[hv]
      simp only[bE,Nat.reduceEqDiff,if_false]
      exact p2
    ·obtain ⟨p1,p2,p3,p4⟩:=(hP k hk).2 h2
     rcases p3 with ⟨p87,p7,pt⟩|⟨p87,p88⟩
     ·rcases p2 with p88|p88
      ·obtain ⟨o,v,-⟩:=aID hl p87 p88 (by omega) hK.hs.2.1
       refine⟨o,(fun h=>by rw[e2k,h2]at h;cases h),fun _=>?_⟩
       obtain⟨r1,r2⟩:=hrs.2 (by omega) (by omega)
       rcases v with v|⟨v,hv⟩
       ·rw[v]
        exact⟨p1,.inl p88,.inl ⟨p87,p7,pt⟩,p4⟩
       ·rw[hv]
        unfold U0 UP TT
        simp only[bE,aV,aCF,aA6,Nat.reduceEqDiff,if_false,if_true]
        rw[r1,r2,if_neg (by decide),if_neg (by decide)]
        exact⟨⟨p1.1,trivial,trivial,fun h=>(by cases h),by omega,by omega⟩,.inl p88,.inl ⟨p87,trivial,pt⟩,p4⟩
      ·obtain ⟨o,v⟩:=aM6 hl p87 p88
       refine⟨o,(fun h=>by rw[e2k,h2]at h;cases h),fun _=>?_⟩
       have e7:gI (pc (oM B k).2 k) 7=gI (pc B k) 7:=by unfold gI;rw[v 7 (.inl rfl)]
       refine⟨k5 v p1,by rw[e88];exact .inr p88,?_,by rw[e88,e86];exact p4⟩
       rw[e88,e7]
       rcases tr with e|⟨-,⟨h1,-⟩|⟨h1,-⟩⟩
       ·rw[show(oM B k).2=B by rw[e]]
        exact .inl ⟨p87,p7,pt⟩
       ·exact .inr ⟨(h1.ne (by omega)).trans p88,p88⟩
       ·exact .inr ⟨(h1.ne (by omega)).trans p88,p88⟩
     ·obtain ⟨o,v,-⟩:=aME hl ⟨hK.hs.2.2.1,hK.hs.2.2.2.1⟩ p87 p88 (by omega) p1
      refine⟨o,(fun h=>by rw[e2k,h2]at h;cases h),fun _=>⟨v,by rw[e88];exact .inr p88,?_,by rw[e88,e86];exact p4⟩⟩
      rw[e88]
      rcases tr with e|⟨-,⟨h1,-⟩|⟨h1,-⟩⟩
      ·rw[show(oM B k).2=B by rw[e]]
       exact .inr ⟨p87,p88⟩
      ·exact .inr ⟨(h1.eq (by omega)).1.trans p87,p88⟩
      ·exact .inr ⟨(h1.eq (by omega)).1.trans p87,p88⟩
   by_cases hik:i=k
   ·subst hik
    exact own.2
   ·show PO t (pc (oM B k).2 i)
    rw[own.1 i hik]
    exact hP i hi
  ·have hu:∀x,UC x→pc (fF j B k).2 i x=pc B i x:=fun x hx=>aNP hK hk hj h4 (hE.2.2 k hk).2.1 i hx
   refine⟨fun h2=>⟨hD (e2.symm.trans h2),?_⟩,fun h2=>?_⟩
   ·unfold gB
    rw[hu 24 (by unfold UC;omega)]
    exact((hP i hi).1 (e2.symm.trans h2)).2
   ·have h:=(hP i hi).2 (e2.symm.trans h2)
    have key:gI (pc (fF j B k).2 i) 87=gI (pc B i) 87∧(gI (pc (fF j B k).2 i) 86=gI (pc B i) 86∨gI (pc (fF j B k).2 i) 86≠0):=by
     by_cases hik:i=k
     ·subst hik
      rcases c1 with h1|⟨-,d0,h1,h3⟩|⟨-,d0,h1,h3⟩|⟨e,-⟩
      ·exact⟨(aFD h1).2.2.2.2.2.2.2.1,.inl (aFD h1).2.2.2.2.2.2.1⟩
      ·obtain ⟨-,-,-,-,-,-,i86,i87,-⟩:=aFD h1
       rcases h3 with ⟨rfl,-⟩|⟨rfl,-⟩|⟨rfl,-⟩
       ·exact⟨i87,.inl i86⟩
       all_goals
        simp only[aV,Nat.reduceEqDiff,if_false]at i86 i87
        exact⟨i87,.inl i86⟩
      ·obtain ⟨-,-,-,-,-,-,i86,i87,-⟩:=aFD h1
       have u2:=e2.symm.trans h2
       have u36:=(hE.2.2 i hi).2.1
       rcases h3 with ⟨-,rfl⟩|⟨e,rfl⟩|⟨e,rfl⟩|⟨e,rfl⟩|⟨e,-⟩
       ·exact⟨i87,.inl i86⟩
       ·exfalso
        rcases yL e with h|h
        ·rw[u2]at h;cases h.1
        ·rw[u36]at h;cases h.2
       ·simp only[oO,aV,aA6,Nat.reduceEqDiff,if_false,if_true]at i86 i87
        exact⟨i87,.inr (by rw[i86];decide)⟩
       ·simp only[aV,aA6,Nat.reduceEqDiff,if_false,if_true]at i86 i87
        exact⟨i87,.inr (by rw[i86];decide)⟩
       ·exfalso
        rw[(yO e).2.2.1]at u36
        cases u36
      ·exact absurd e h4
     ·exact⟨(aFD (c2 i hik)).2.2.2.2.2.2.2.1,.inl (aFD (c2 i hik)).2.2.2.2.2.2.1⟩
    have e7:gI (pc (fF j B k).2 i) 7=gI (pc B i) 7:=by unfold gI;rw[hu 7 (.inl rfl)]
    obtain⟨p1,p2,p3,p4⟩:=h
    refine⟨k5 hu p1,by rw[h88];exact p2,by rw[key.1,h88,e7];exact p3,?_⟩
    rw[h88]
    intro h8
    rcases key.2 with h|h
    ·rw[h];exact p4 h8
    ·exact h
end
section
variable {c d:Pc} {n M k:Nat} {s:Nat→Nat} {B C D:Br} {t:Int}
theorem aM7(hn:n<1000)(h:AtRest n s M B)(hk:k<n)(hJ:J2 t n B)(hP:PS2 (pc B k))(h2:gB (pc B k) 2=false):UP 35 (pc B k)∧gI (pc B k) 7=20∧D0 (pc B k)∧gB (pc B k) 27=false∧gB (pc B k) 29=false:=by
 obtain⟨hd,h27,-,h29⟩:=aJB hn h hk (aMU hP) h2
 obtain⟨⟨ha,hy,hq,-,h50,-⟩,-⟩:=(h.ww hn hk).1
 have hrs:=ha.1
 unfold RS at hrs
 have h87:=hd.2.2.2.2.1
 obtain⟨r26,r28⟩:=hrs.2 (by omega) (by omega)
 obtain⟨a,b,e⟩:=(aID (mT h.1.ok (show k<B.np by rw[h.1.np];exact hk)) h87 hd.2.2.2.2.2 (by omega) h.1.hs.2.1).2.2 (h.2.2.2 k 4 hk (by decide)) hq.2 h50 h29 h27
 refine⟨⟨((hJ.2.2 k hk).1 h2).2,e,b,fun h=>(by rw[r26]at h;cases h),by omega,?_⟩,a,hd,h27,h29⟩
 unfold TT
 rw[r26,r28,if_neg (by decide),if_neg (by decide)]
 omega
def Lu(u:Nat→Bool)(n i:Nat)(C D:Br):Prop:=∀p,p<n→(pc D p=pc C p∨∃b,pc D p=up (pc C p) 2 (.bool b))∧(p<i→gB (pc D p) 2=u p)
theorem Lu.low{u:Nat→Bool}{i:Nat}(h:Lu u n i C D)(hl:Lk i D):Lu u n (i+1) C (D.setp i 2 (.bool (u i))):=fun p hp=>by
 obtain⟨h1,h2⟩:=h p hp
 by_cases e:p=i
 ·subst e
  rw[a8 hl (by decide)]
  refine⟨.inr ⟨u p,?_⟩,fun _=>by rw[bE,if_pos rfl];rfl⟩
  rcases h1 with e|⟨b,e⟩
  ·rw[e]
  ·rw[e]
   funext x
   unfold up
   split<;>rfl
 ·rw[aK e (by decide)]
  exact⟨h1,fun h=>h2 (by omega)⟩
theorem Lu.stay{u:Nat→Bool}{i:Nat}(h:Lu u n i C D)(h2:i<n→gB (pc D i) 2=u i):Lu u n (i+1) C D:=fun p hp=>by
 refine⟨(h p hp).1,fun hlt=>?_⟩
 by_cases e:p=i
 ·subst e
  exact h2 hp
 ·exact(h p hp).2 (by omega)
theorem Lu.zz{u:Nat→Bool}{i:Nat}(h:Lu u n i C D)(hw:∀p,p<n→WW (pc C p)):∀p,p<n→ZZ (pc D p):=fun p hp=>by
 rcases(h p hp).1 with e|⟨b,e⟩
 ·rw[e]
  exact oU (hw p hp)
 ·rw[e]
  refine tC (hw p hp) (fun x hx=>a5 _ _ (by omega)) (fun h2=>?_)
  rw[bE,if_neg (by omega),(hw p hp).1.2.1.1]at h2
  cases h2
theorem Lu.j2{u:Nat→Bool}{i:Nat}(hn:n<1000)(h:Lu u n i C D)(hC:AtRest n s M C)(hJ:J2 t n C)(hP:∀p,p<n→PS2 (pc C p))(h0:∀p,p<n→gB (pc C p) 2=false)(hd:D.hd=C.hd):J2 35 n D∧∀p,p<n→PS2 (pc D p):=by
 have hh:∀j,D.hi j=C.hi j:=fun j=>by unfold Br.hi;rw[hd]
 refine⟨⟨⟨(hh 0).trans hJ.1.1,(hh 7).trans hJ.1.2.1,fun p hp=>?_⟩,?_,fun p hp=>?_⟩,fun p hp=>?_⟩
 ·have hE:=hJ.1.2.2 p hp
  rcases(h p hp).1 with e|⟨b,e⟩<;>rw[e]
  ·exact hE
  ·unfold EP at hE ⊢
   simp only[bE,aV,Nat.reduceEqDiff,if_false]
   exact hE
 ·unfold HX
  rw[hh,hh,hh,hh,hh]
  exact hJ.2.1
 ·obtain ⟨a1,a2,a3,-,-⟩:=aM7 hn hC hp hJ (hP p hp) (h0 p hp)
  have a24:=((hJ.2.2 p hp).1 (h0 p hp)).2
  rcases(h p hp).1 with e|⟨b,e⟩<;>rw[e]
  ·exact⟨fun _=>⟨a3,a24⟩,fun h=>by rw[h0 p hp]at h;cases h⟩
  ·refine ⟨fun hb=>?_,fun _=>?_⟩
   ·unfold D0 at a3 ⊢
    rw[bE,if_pos rfl]at hb
    simp only[bE,aV,Nat.reduceEqDiff,if_false,if_true]
    exact⟨⟨hb,a3.2⟩,a24⟩
   ·refine ⟨k5 (fun x hx=>a5 _ _ (by unfold UC at hx;omega)) a1,?_,?_,?_⟩
    all_goals simp only[aV,Nat.reduceEqDiff,if_false]
    ·exact .inl a3.2.2.2.2.2
    ·exact .inl ⟨a3.2.2.2.2.1,a2,by omega⟩
    ·intro h8
     rw[a3.2.2.2.2.2]at h8
     cases h8
 ·rcases(h p hp).1 with e|⟨b,e⟩<;>rw[e]
  ·exact hP p hp
  ·exact mL (fun x hx=>a5 _ _ (by omega)) (hP p hp)
theorem aMV(hn:n<1000)(h:AtRest n s M B)(hk:k<n)(hJ:J2 t n B)(h2:gB (pc B k) 2=true):UP t (pc B k)∧gI (pc B k) 87=4∧gI (pc B k) 88=4∧gI (pc B k) 86≠0∧(gB (pc B k) 26=true∨0<gI (pc B k) 7):=by
 obtain⟨⟨ha,⟨y1,y2,y3,y4⟩,hq,-,h50,-⟩,h87⟩:=(h.ww hn hk).1
 obtain⟨p1,p2,p3,p4⟩:=(hJ.2.2 k hk).2 h2
 have h86:gI (pc B k) 86≠0:=fun e=>by rw[y3.1 e]at h2;cases h2
 have h88:gI (pc B k) 88=4:=by
  rcases p2 with e|e
  ·exact absurd ((ha.2.2.2.2.2.2.2.1 hq.2).1 e) h86
  ·exact e
 have hrs:=ha.1
 unfold RS at hrs
 have e87:gI (pc B k) 87=4:=h87.trans h88
 exact⟨p1,e87,h88,h86,(aME (mT h.1.ok (show k<B.np by rw[h.1.np];exact hk)) ⟨h.1.hs.2.2.1,h.1.hs.2.2.2.1⟩ e87 h88 (by omega) p1).2.2 (h.2.2.2 k 4 hk (by decide)) hq.2 h50⟩
theorem aMN{t':Int}(hn:n<1000)(h:AtRest n s M B)(hJ:J2 t n B)(hP:∀i,i<n→PS2 (pc B i))(ht:t - 1≤t'∧0≤t'):J2 t' n (iE B)∧(∀i,i<n→PS2 (pc (iE B) i))∧∀i,i<n→gB (pc (iE B) i) 2=gB (pc B i) 2:=by
 have hkn:∀i,i<n→i<B.np:=fun i hi=>by rw[h.1.np];exact hi
 have hh:∀j,(iE B).hi j=B.hi j:=fun j=>by unfold Br.hi;rw[show(iE B).hd=B.hd from vS B _]
 have e:∀i,i<n→∀x,x<6∨15≤x→pc (iE B) i x=pc B i x:=fun i hi x hx=>aAN h.1.ok (hkn i hi) hx
 have eB_:∀i,i<n→∀x,x<6∨15≤x→gB (pc (iE B) i) x=gB (pc B i) x:=fun i hi x hx=>by unfold gB;rw[e i hi x hx]
 have eI_:∀i,i<n→∀x,x<6∨15≤x→gI (pc (iE B) i) x=gI (pc B i) x:=fun i hi x hx=>by unfold gI;rw[e i hi x hx]
 have e7:∀i,i<n→gI (pc (iE B) i) 7=dwn (gI (pc B i) 7):=fun i hi=>by
  unfold gI
  rw[jZ (by decide),qD h.1.ok (hkn i hi) (by decide),if_pos (by decide)]
  show dwn (B.gi i 7)=_
  rw[gN (by decide)]
  rfl
 refine⟨⟨⟨(hh 0).trans hJ.1.1,(hh 7).trans hJ.1.2.1,fun i hi=>?_⟩,?_,fun i hi=>?_⟩,fun i hi=>mL (fun x hx=>e i hi x (by omega)) (hP i hi),fun i hi=>eB_ i hi 2 (by omega)⟩
 ·have hE:=hJ.1.2.2 i hi
  unfold EP at hE ⊢
  rw[eB_ i hi 35 (by omega),eB_ i hi 36 (by omega),eI_ i hi 86 (by omega),eB_ i hi 44 (by omega),eI_ i hi 73 (by omega),eB_ i hi 50 (by omega),eI_ i hi 68 (by omega)]
  exact hE
 ·unfold HX
  rw[hh,hh,hh,hh,hh]
  exact hJ.2.1
 ·refine ⟨fun h2=>?_,fun h2=>?_⟩
  ·obtain⟨p1,p2⟩:=(hJ.2.2 i hi).1 ((eB_ i hi 2 (by omega)).symm.trans h2)
   unfold D0 at p1 ⊢
   rw[eB_ i hi 2 (by omega),eB_ i hi 35 (by omega),eB_ i hi 36 (by omega),eI_ i hi 86 (by omega),eI_ i hi 87 (by omega),eI_ i hi 88 (by omega),eB_ i hi 24 (by omega)]
   exact⟨p1,p2⟩
  ·obtain ⟨⟨u24,u42,u46,u26,u7_,uT_⟩,u87,u88,u86,ur⟩:=aMV hn h hi hJ ((eB_ i hi 2 (by omega)).symm.trans h2)
   unfold U0 UP TT
   unfold TT at uT_
   rw[eB_ i hi 24 (by omega),eB_ i hi 42 (by omega),eB_ i hi 46 (by omega),eB_ i hi 26 (by omega),eB_ i hi 28 (by omega),eI_ i hi 86 (by omega),eI_ i hi 87 (by omega),eI_ i hi 88 (by omega),e7 i hi]
   refine⟨⟨u24,u42,u46,u26,?_,?_⟩,.inr u88,.inr ⟨u87,u88⟩,fun _=>u86⟩
   ·unfold dwn
    split<;>omega
   ·cases h26:gB (pc B i) 26
    ·rw [h26]at ur uT_
     have h7:0<gI (pc B i) 7:=ur.elim (fun h=>by cases h) id
     rw[if_neg (by decide)]at uT_ ⊢
     unfold dwn
     rw[if_pos h7]
     split at uT_
     ·rename_i h28
      rw[if_pos h28]
      omega
     ·rename_i h28
      rw[if_neg h28]
      omega
    ·rw[if_pos rfl]
     exact ht.2
theorem aM8(hn:n<1000)(h:AtRest n s M B)(hk:k<n)(hJ:J2 0 n B)(hP:PS2 (pc B k))(h2:gB (pc B k) 2=true):gI (pc B k) 87=4∧gB (pc B k) 27=true∧gB (pc B k) 29=true:=by
 obtain⟨⟨-,-,-,u26,u7_,uT_⟩,u87,-,-,ur⟩:=aMV hn h hk hJ h2
 have h26:gB (pc B k) 26=true:=by
  rcases ur with e|e
  ·exact e
  ·unfold TT at uT_
   split at uT_
   ·assumption
   ·split at uT_<;>omega
 have h28:=u26 h26
 have hp:gT B k=(false,B):=h.2.2.2 k 5 hk (by decide)
 unfold gT at hp
 rw[gN (by decide),cM (by decide),cM (by decide),h26,h28]at hp
 rcases hP with h1|h1|h1
 ·rw[h1.1]at hp
  simp at hp
 ·rw[h1.1]at hp
  simp at hp
 ·exact⟨u87,h1.2.1,h1.2.2⟩
theorem aMF(B:Br)(k j:Nat):jS { B with no:=0,os:=[] } k j={ jS B k j with no:=0,os:=[] }:=by
 unfold jS
 split
 ·rename_i h
  rw[if_pos (show 0<B.gi k (6+j)from h)]
  rfl
 ·rename_i h
  rw[if_neg (show ¬0<B.gi k (6+j)from h)]
theorem aFI(B:Br)(k:Nat):∀j,eN { B with no:=0,os:=[] } k j={ eN B k j with no:=0,os:=[] }
 | 0=>rfl
 | j+1=>by
  show jS (eN { B with no:=0,os:=[] } k j) k j=_
  rw[aFI B k j,aMF]
  rfl
theorem aFU(B:Br):∀n,eO { B with no:=0,os:=[] } n={ eO B n with no:=0,os:=[] }
 | 0=>rfl
 | n+1=>by
  show eN (eO { B with no:=0,os:=[] } n) n 9=_
  rw[aFU B n,aFI]
  rfl
theorem aNQ{rst:Bool}{P:List Pt}(hP:P.length=n):J2 35 n (NB rst P)∧(∀i,i<n→PS2 (pc (NB rst P) i))∧∀i,i<n→gB (pc (NB rst P) i) 2=false:=by
 refine⟨⟨aNM hP,⟨rfl,rfl,rfl,rfl,rfl⟩,fun i hi=>?_⟩,fun i hi=>?_,fun i hi=>(aL8 (rst:=rst) hP hi).2.1⟩
 ·obtain⟨⟨ha,y1,y2,y3,y4⟩,h2,h87,h88⟩:=aL8 (rst:=rst) hP hi
  have h86:=y3.2 h2
  refine⟨fun _=>⟨⟨h2,y1,y2,h86,h87,h88⟩,?_⟩,fun h=>by rw[h2]at h;cases h⟩
  subst hP
  unfold gB
  rw[jZ (by decide),aAD (j:=24) (x:=.bool false) hi rfl]
 ·refine .inl ?_
  subst hP
  unfold gI gB
  rw[jZ (by decide),jZ (by decide),jZ (by decide),aAD (j:=20) (x:=.int .i64 0) hi rfl,aAD (j:=27) (x:=.bool false) hi rfl,aAD (j:=29) (x:=.bool false) hi rfl]
  exact⟨rfl,rfl,rfl⟩
end
theorem aMG{N:Nat→Prop}{X g k:Nat}{w:World}{B:Br}(h:WB N X g B w)(hk:k<B.np):w.rangeAt g (k*89) (a9 B.ps k):=fun j v hv=>by
 have hj:j<89:=by
  have:=(List.getElem?_eq_some_iff.1 hv).1
  unfold a9 at this
  rw[List.length_take]at this
  omega
 rw[BrG.cellg h (i:=k*89+j) (by omega),←hv,aI hj]
theorem aMH{B:Br}(ho:B.ok){k:Nat}(hk:k<B.np):(a9 B.ps k).toArray.toList.all (·.oneCell')=true:=by
 show(a9 B.ps k).all _=true
 rw[List.all_eq_true]
 exact fun u hu=>(dI ho hk).one u hu
def Lw(n i:Nat)(C D:Br):Prop:=∀p,p<n→(pc D p=pc C p∨pc D p=up (pc C p) 2 (.bool false))∧(p<i→gB (pc D p) 2=false)
structure Tk (n M:Nat) (B:Br):Prop where
 ki:KI n M (fun _=>0) B
 no:B.no=0
 ww:∀i,i<n→WW (pc B i)
 d0:∀i,i<n→D0 (pc B i)
 jd:JD n B
def aNR(w:World)(v:Value)(m:Nat)(xs:List Value):Prop:=∃a cap,v=.slice a m cap∧m≤9223372036854775807∧RowTyped [none] m xs∧(0<m→∃b off,a=some ⟨b,off,none⟩∧b<w.heap.size∧m≤cap∧cap≤9223372036854775807∧w.rangeAt b off xs)
theorem aKZ:tE Tryz.prog 6 4=some [none]:=by kernel_rfl
theorem open_bools18{H:Type}{enc:TypeId × Value→H}{w:World}{r:Reach}{b0:Nat}{v:Value}{d:DataW H}{p:List MemPlace}(hv:Value.okWide Tryz.prog w r b0 62 v)(h:DataW.Trod enc Tryz.prog w 0 (fun _=>true) true 62 v d p):∃(m:Nat) (xs:List Value),aNR w v m xs:=by
 obtain⟨fuel,hf⟩:=h
 obtain⟨a0,l0,c0,rfl⟩:=okWide_slice Tryz.underlying62 hv
 obtain⟨m,xs,hr,ht⟩:=vY Tryz.underlying62 aKZ (by decide) hf
 refine⟨m,xs,?_⟩
 rcases hr.2 with ⟨h0,h1|⟨a,cap,h1⟩⟩|⟨b,off,cap,h1,g0,g1,g2,h2,h3⟩
 ·cases h1
  exact⟨_,0,by rw[h0],by omega,ht,fun h=>by omega⟩
 ·cases h1
  exact⟨_,c0,by rw[h0],by omega,ht,fun h=>by omega⟩
 ·cases h1
  unfold maxLen at g2
  exact⟨_,c0,rfl,by omega,ht,fun _=>⟨b,off,rfl,h2,g1,by omega,h3⟩⟩
def uF_(xs:List Value)(i:Nat):Bool:=match xs[i]? with|some (.bool z)=>z|_=>false
theorem aM9{m:Nat}{xs:List Value}(h:RowTyped [none] m xs){i:Nat}(hi:i<m):xs[i]?=some (.bool (uF_ xs i)):=by
 obtain⟨z,hz⟩:=(h.2 i hi).bool 0 rfl
 rw[List.getElem?_take,if_pos (by decide),List.getElem?_drop]at hz
 have e:xs[i]?=some (.bool z):=by rw[←hz];congr 1;simp
 unfold uF_
 rw[e]
theorem aMO{n:Nat}{s:Nat→Nat}(u:Nat→Bool)(hn:n<1000):Keeps n s (fun B=>∀i,i<n→gB (pc B i) 2=u i) :=
 ⟨fun M B hK ha h0 i hi=>((aJA (u i)).keep1 hn hi).sel M B hK ha (h0 i hi),fun M k j B hK hk hj ha h0 i hi=>((aJA (u i)).keep1 hn hi).st M k j B hK hk hj ha (h0 i hi)⟩
theorem aNA{n M k:Nat}{s:Nat→Nat}{B:Br}{z:Bool}(hn:n<1000)(h:AtRest n s M B)(hk:k<n)(hJ:J2 0 n B)(hP:PS2 (pc B k))(h2:gB (pc B k) 2=z):gI (pc B k) 87=(if z=true then 4 else 0)∧gB (pc B k) 27=z∧gB (pc B k) 29=z:=by
 cases z
 ·obtain⟨hd,h27,-,h29⟩:=aJB hn h hk (aMU hP) h2
  exact⟨hd.2.2.2.2.1,h27,h29⟩
 ·exact aM8 hn h hk hJ hP h2
theorem aNB(w:World):(binOp .eql 30 (.agg #[.int .u64 7,.int .u32 0,.int .u64 7,.int .u16 0,.int .u16 0]) (.agg #[.int .u64 7,.int .u32 0,.int .u64 7,.int .u16 0,.int .u16 0])).run Tryz.prog w=.ok (.bool true) w:=by kernel_rfl
theorem law_BridgeAlone{w:World}(rst:Bool)(v:Value)(P:List Pt)(hP:SusAt w v P)(hpr:∀p∈P,PtR p)(vu:Value)(m:Nat)(xs:List Value)(hU_:aNR w vu m xs):
    Calls Tryz.prog 5 #[.bool rst,v,vu] w fun e w'=>e=.returned (.bool true)∧Ext w w':=by
 have HP:=hD hP
 have HR:=hD hpr
 obtain⟨pa,pcap,rfl,hpm,-⟩:=hP
 obtain⟨ua,ucap,rfl,hum,hut,huf⟩:=hU_
 have HUF:=hD huf
 have HUT:=hD hut
 clear hpr hut huf
 go_enter Tryz.func5,Tryz.ntmps5
 go_wp2_with fail
 refine(aCP w).mono ?_
 rintro e w1 ⟨rfl,hx⟩
 have HX1:=hD hx
 clear hx
 by_cases h5:P.length≤5
 case neg =>
  have d5:decide ((P.length:Int) > 5)=true:=by simp;omega
  go_wp2_with fail
  go_ret
  exact⟨rfl,HX1.out⟩
 have d5:decide ((P.length:Int) > 5)=false:=by simp;omega
 by_cases h1:0<P.length
 case neg =>
  have d1:decide ((P.length:Int)<1)=true:=by simp;omega
  go_wp2_with fail
  go_ret
  exact⟨rfl,HX1.out⟩
 have d1:decide ((P.length:Int)<1)=false:=by simp;omega
 by_cases hml:P.length≤m
 case neg =>
  have dm:decide ((m:Int)<(P.length:Int))=true:=by simp;omega
  go_wp2_with fail
  go_ret
  exact⟨rfl,HX1.out⟩
 have dm:decide ((m:Int)<(P.length:Int))=false:=by simp;omega
 obtain⟨b,off,rfl,hb,hc1,hc2,hrg⟩:=HUF.out (by omega)
 have HUB:=hD hb
 have HUR:=hD (fun i (hi:i<m)=>(hrg i (.bool (uF_ xs i)) (aM9 HUT.out hi)))
 go_wp2_with fail
 clear d5 d1 dm hrg HUF HUT hb
 refine(aLO (J:=fun B=>J2 35 P.length B∧(∀i,i<P.length→PS2 (pc B i))∧∀i,i<P.length→gB (pc B i) 2=false) rst _ P w1 (aL9 (HP.out.pts (by omega)) HX1.out) HR.out h1 h5 ((aKX (by omega)).and ((aE5 (by omega)).and ((aJA false).keeps (by omega)))) (aNQ rfl)).mono ?_
 rintro e w2 ⟨c,B,rfl,hvb,hQ,hJ,hx2⟩
 have HSZ:=hD (hvb.sz hQ.1.1.ok)
 have HVB:=hD hvb
 have HQ:=hD hQ
 have HJ:=hD hJ
 have HX2:=hD hx2
 clear hvb hQ hJ hx2
 go_wp2_with (first
  | fail
  | ((with_reducible refine bS 35 ?_);refine b6 rfl 35 rfl oR jK ?_
     intro X w3 hq hsz hx)
  | ((with_reducible refine aD 35 ?_);refine nQ rfl rfl 35 _ _ rfl X c oR 35 rfl rfl hq HSZ.out.1 fP HSZ.out.2 ?_
     intro w4 hq4 hm4
     have HQ4:=hD hq4
     have HV4:=hD (HVB.out.mut ((hx.mut (fun n=>n=X)).trans hm4) (fun n h1 h2 h3=>by have h4:n=X:=h3;omega))
     have HX4:=hD (show Ext w1 w4 from HX2.out.trans (hx.mutE hm4 (fun g hg h=>by have h2:g=X:=h;omega)))
     have HXW:=hD (show w1.heap.size≤X from by have:=HX2.out.size;omega)
     clear hq hsz hx hq4 hm4 HVB HX2))
 obtain⟨g,hB⟩:=VB.wb (N:=fun n=>w1.heap.size≤n) HV4.out HQ4.out (fun n hn _=>hn) HXW.out
 have HB:=hD hB
 clear hB HV4 HQ4 HSZ
 go_loopw [10] (fun si wl=>∃(i:Nat) (D:Br),si=.int .i64 i∧i≤P.length∧WB (fun n=>w1.heap.size≤n) X g D wl∧KI P.length 50000 (fun _=>0) D∧D.no=0∧D.hd=B.hd∧Lu (uF_ xs) P.length i B D∧Mut (fun n=>w1.heap.size≤n) w4 wl) (fun si _=>P.length - (intOf si).toNat)
 case atStart=>exact⟨0,B,rfl,by omega,HB.out,HQ.out.1.1,HQ.out.2,rfl,fun p _=>⟨.inl rfl,fun h=>absurd h (by omega)⟩,Mut.refl _ w4⟩
 case round =>
  clear HB
  obtain⟨i,D,rfl,hi,hB,hK,h0,hd,hU_,hm⟩:=hrel
  rename World=>wl
  have HB:=hD hB
  have HK:=hD hK
  have HN:=hD h0
  have HD:=hD hd
  have HU:=hD hU_
  have HM:=hD hm
  clear hB hK hU_ hm h0 hd
  by_cases hlt:i<P.length
  ·have dlt:decide ((i:Int)<(P.length:Int))=true:=by simp;omega
   have hupk:IntKind.i64.wrap ((i:Int)+1)=((i+1:Nat):Int):=by rw[IntKind.wrap_i64];omega
   have him:i<m:=by omega
   have cu:wl.cell? ⟨b,off+i,none⟩=some (.bool (uF_ xs i)):=(HM.out.cell (p:=⟨b,off+i,none⟩) (by have h1:=HX1.out.size;have h2:=HX4.out.size;have h3:=HUB.out;show b<_;omega) (fun h=>by have h1:w1.heap.size≤b:=h;have h2:=HX1.out.size;have h3:=HUB.out;omega)).trans (((HX1.out.trans HX4.out).cell (p:=⟨b,off+i,none⟩) HUB.out).trans (HUR.out i him))
   obtain⟨z,hz⟩:∃z,uF_ xs i=z:=⟨_,rfl⟩
   rw[hz]at cu
   have HZ:=hD hz
   clear hz
   go_wp2_with fail
   refine(qB (k:=i) HB.out HK.out.ok (by rw[HK.out.np];exact hlt) (by rw[HK.out.np];omega) z).mono ?_
   rintro e w7 ⟨d7,D7,rfl,hB7,hm7,hR⟩
   have hl7:Lk i D:=mT HK.out.ok (by rw[HK.out.np];exact hlt)
   have HD7:=hD (show KI P.length 50000 (fun _=>0) D7∧D7.no=0∧D7.hd=B.hd∧Lu (uF_ xs) P.length (i+1) B D7 from by
    rw[←HZ.out]at hR
    rcases hR with ⟨h2,-,rfl⟩|⟨-,-,rfl⟩
    ·exact⟨HK.out,HN.out,HD.out,HU.out.stay (fun _=>(cM (by decide)).symm.trans h2)⟩
    ·exact⟨HK.out.en hlt _,HN.out,HD.out,HU.out.low hl7⟩)
   have HB7:=hD hB7
   have HM7:=hD (HM.out.trans hm7)
   clear hB7 hm7 hR hl7 cu
   go_wp2_with fail
   go_roundw
   case rel=>exact⟨i+1,D7,by go_num,hlt,HB7.out,HD7.out.1,HD7.out.2.1,HD7.out.2.2.1,HD7.out.2.2.2,HM7.out⟩
   case measure=>simp[intOf]<;>omega
  ·obtain rfl:i=P.length:=by omega
   have dlt:decide ((P.length:Int)<(P.length:Int))=false:=by simp
   have HJ2:=hD (HU.out.j2 (by omega) HQ.out.1 HJ.out.1 HJ.out.2.1 HJ.out.2.2 HD.out)
   have HZZ:=hD (HU.out.zz (fun p hp=>(HQ.out.1.ww (by omega) hp).1))
   go_wp2_with fail
   go_loopw [11,9] (fun si sr wl=>∃(q:Nat) (E:Br),si=.int .i64 q∧sr=.bool true∧q≤38∧WB (fun n=>w1.heap.size≤n) X g E wl∧KI P.length (50000+50000*q) (fun _=>0) E∧(∀i,i<P.length→ZZ (pc E i))∧J2 (max (35 - (q:Int)) 0) P.length E∧(∀i,i<P.length→PS2 (pc E i))∧(∀i,i<P.length→gB (pc E i) 2=uF_ xs i)∧Mut (fun n=>w1.heap.size≤n) w4 wl) (fun si _ _=>38 - (intOf si).toNat)
   case atStart=>exact⟨0,D,rfl,rfl,by omega,HB.out,HK.out,HZZ.out,HJ2.out.1,HJ2.out.2,fun p hp=>(HU.out p hp).2 hp,HM.out⟩
   case round =>
    clear HB HK HN HD HU HM HJ2 HZZ HJ HQ
    obtain⟨q,E,rfl,rfl,hq,hB,hK,hz,hJ,hP2,hu,hm⟩:=hrel
    rename World=>wt
    have HB:=hD hB
    have HK:=hD hK
    have HZ:=hD hz
    have HJ:=hD hJ
    have HP2:=hD hP2
    have HU:=hD hu
    have HM:=hD hm
    clear hB hK hz hJ hP2 hu hm
    have HRUN:=hD (rT (M:=50000+50000*q) (f:=0) ((aKX (t:=max (35 - (q:Int)) 0) (by omega)).and ((aE5 (by omega)).and (aMO (uF_ xs) (by omega)))) (by decide) h5 h1 (by omega) E wt (fun n hn=>Nat.le_trans (Nat.le_trans HX4.out.size HM.out.size) hn) HB.out HK.out (fun _=>HZ.out) (fun h=>by cases h) ⟨HJ.out,HP2.out,HU.out⟩)
    clear HB HK HZ HJ HP2 HU dlt
    by_cases hlq:q<38
    ·have dlq:decide ((q:Int)<38)=true:=by simp;omega
     have hupq:IntKind.i64.wrap ((q:Int)+1)=((q+1:Nat):Int):=by rw[IntKind.wrap_i64];omega
     go_wp2_with fail
     refine HRUN.out.mono ?_
     rintro e w8 ⟨k8,B8,rfl,hB8,hm8,hR8,hJ8,hP8,hU8⟩
     have HR8:=hD hR8
     have HT8:=hD (aMN (t':=max (35 - ((q+1:Nat):Int)) 0) (by omega) hR8 hJ8 hP8 (by omega))
     have HU8:=hD hU8
     have HM8:=hD (HM.out.trans hm8)
     have HB8:=hD hB8
     clear hB8 hm8 hR8 hJ8 hP8 hU8 HRUN HM
     go_wp2_with fail
     refine(yU HB8.out HR8.out.1.ok (by rw[HR8.out.1.np];omega)).mono ?_
     rintro e w9 ⟨rfl,hB9,hm9⟩
     obtain⟨rx,hrx,hrz,hre⟩:=WB.nilOut hB9 (aFQ HR8.out.1.ok)
     have HRE:=hD hre
     have HRX:=hD hrx
     have HRZ:=hD hrz
     have HM9:=hD (HM8.out.trans hm9)
     clear hB9 hm9 hrx hrz hre HB8 HM8
     go_wp2_with (first
      | fail
      | ((with_reducible refine aD 32 ?_);refine aAP rfl rfl 32 _ _ rfl X 18 (.slice none 0 0) rx 35 rfl rfl HRX.out (by rw[HRZ.out];decide) rfl (by kernel_rfl) rfl ?_
         intro wy hqy hmy
         have HBY:=hD (HRE.out wy hqy hmy)
         have HMY:=hD (HM9.out.trans (hmy.mono (fun n _ h=>by have h2:n=X:=h;have h3:=HXW.out;omega)))
         clear hqy hmy))
     have HKY:=hD (show KI P.length (50000+50000*(q+1)) (fun _=>0) { iE B8 with no:=0,os:=[] } from by
      have h:=(HR8.out.1.nil0.tick rfl).mono (M':=50000+50000*(q+1)) (by omega)
      rw[show iE { B8 with no:=0,os:=[] }={ iE B8 with no:=0,os:=[] } from aFU B8 _]at h
      exact h)
     go_roundw
     case rel=>exact⟨q+1,{ iE B8 with no:=0,os:=[] },by go_num,rfl,hlq,HBY.out,HKY.out,fun p hp=>aH2 HR8.out.1.ok (by rw[HR8.out.1.np];exact hp) (HR8.out.ww (by omega) hp).1,HT8.out.1,HT8.out.2.1,fun p hp=>(HT8.out.2.2 p hp).trans (HU8.out p hp),HMY.out⟩
     case measure=>simp[intOf]<;>omega
    ·obtain rfl:q=38:=by omega
     have dlq:decide ((38:Int)<38)=false:=by decide
     go_wp2_with fail
     refine HRUN.out.mono ?_
     rintro e w8 ⟨k8,B8,rfl,hB8,hm8,hR8,hJ8,hP8,hU8⟩
     have hJ0:J2 0 P.length B8:=hJ8
     have HE:=hD (fun i (hi:i<P.length)=>aNA (by omega) hR8 hi hJ0 (hP8 i hi) (hU8 i hi))
     have HHD:=hD (show B8.hi 7=7∧HX B8∧B8.ok from⟨hJ0.1.2.1,hJ0.2.1,hR8.1.ok⟩)
     have HNP:=hD hR8.1.np
     obtain⟨cap,c17,hcp,hcm⟩:=BrG.cell17 hB8 hR8.1.ok
     rw[hR8.1.np]at c17 hcp
     have HB8:=hD hB8
     have HM8:=hD (HM.out.trans hm8)
     have hne:((P.length:Int) != (P.length:Int))=false:=by simp
     clear hB8 hm8 hR8 hJ8 hP8 hU8 hJ0 HRUN HM
     go_wp2_with fail
     clear c17 hcp hcm
     go_loopw [14] (fun si wl=>∃i:Nat,si=.int .i64 i∧i≤P.length∧WB (fun n=>w1.heap.size≤n) X g B8 wl∧Mut (fun n=>w1.heap.size≤n) w4 wl) (fun si _=>P.length - (intOf si).toNat)
     case atStart=>exact⟨0,rfl,by omega,HB8.out,HM8.out⟩
     case round =>
      clear HB8 HM8
      obtain⟨i,rfl,hi,hB,hm⟩:=hrel
      rename World=>wl
      have HB:=hD hB
      have HM:=hD hm
      obtain⟨cap,c17,hcp,hcm⟩:=BrG.cell17 hB HHD.out.2.2
      rw[HNP.out]at c17 hcp
      by_cases hlt:i<P.length
      ·have dlt:decide ((i:Int)<(P.length:Int))=true:=by simp;omega
       have hupk:IntKind.i64.wrap ((i:Int)+1)=((i+1:Nat):Int):=by rw[IntKind.wrap_i64];omega
       have him:i<m:=by omega
       have HBW:=hD (show b<wl.heap.size∧¬w1.heap.size≤b from by have h1:=HX1.out.size;have h2:=HX4.out.size;have h3:=HUB.out;have h4:=hm.size;omega)
       have HCU:=hD (show wl.cell? ⟨b,off+i,none⟩=some (.bool (uF_ xs i))from(HM.out.cell (p:=⟨b,off+i,none⟩) (by have h1:=HX1.out.size;have h2:=HX4.out.size;have h3:=HUB.out;show b<_;omega) (fun h=>by have h1:w1.heap.size≤b:=h;have h2:=HX1.out.size;have h3:=HUB.out;omega)).trans (((HX1.out.trans HX4.out).cell (p:=⟨b,off+i,none⟩) HUB.out).trans (HUR.out i him)))
       have hin:i<B8.np:=by rw[HNP.out];exact hlt
       have hpt:=dI HHD.out.2.2 hin
       have f87:=aR hpt 87 rfl
       have f27:=fG hpt 27 rfl
       have f29:=fG hpt 29 rfl
       obtain⟨g87,g27,g29⟩:=HE.out i hlt
       rw[show pI (a9 B8.ps i) 87=gI (pc B8 i) 87 from rfl,g87]at f87
       rw[show pB (a9 B8.ps i) 27=gB (pc B8 i) 27 from rfl,g27]at f27
       rw[show pB (a9 B8.ps i) 29=gB (pc B8 i) 29 from rfl,g29]at f29
       have HRG:=hD (aMG HB.out hin)
       have HP1:=hD (aMH HHD.out.2.2 hin)
       have HPL:=hD hpt.1
       obtain⟨z,hz⟩:∃z,uF_ xs i=z:=⟨_,rfl⟩
       rw[hz]at HCU f87 f27 f29
       have HFC:=hD (And.intro f87 (And.intro f27 f29))
       obtain⟨F,hF⟩:∃F,a9 B8.ps i=F:=⟨_,rfl⟩
       rw[hF]at HRG HP1 HPL HFC
       have HSF:=hD (show(Tryz.prog.info? 60).map (·.size)=some F.length by rw[HPL.out];exact gQ)
       clear hB hm hpt f87 f27 f29 g87 g27 g29 hF hin hz
       go_upto_region 23 with (first
        | fail
        | ((with_reducible refine aG 60 ?_);refine wpList_load_mid rfl 60 _ rfl g (i*89) rfl F _ HRG.out Tryz.underlying60 rfl HSF.out ?_)
        | ((with_reducible refine bS 60 ?_);refine b6 rfl 60 rfl PortZ oP ?_
           intro Y wa hqa hsa hxa)
        | ((with_reducible refine aD 60 ?_);refine nQ rfl rfl 60 _ _ rfl Y F.toArray PortZ 60 rfl rfl hqa (by rw[List.size_toArray];exact HPL.out) gQ HP1.out ?_
           intro wb hqb hmb
           have c87:wb.cell? ⟨Y,87,none⟩=some (.int .i64 (if z=true then 4 else 0)):=by rw[bA hqb,List.getElem?_toArray];exact HFC.out.1
           have c27:wb.cell? ⟨Y,27,none⟩=some (.bool z):=by rw[bA hqb,List.getElem?_toArray];exact HFC.out.2.1
           have c29:wb.cell? ⟨Y,29,none⟩=some (.bool z):=by rw[bA hqb,List.getElem?_toArray];exact HFC.out.2.2
           have HXB:=hD (show Ext wl wb from hxa.mutE hmb (fun g hg h=>by have h2:g=Y:=h;omega))
           have cu:wb.cell? ⟨b,off+i,none⟩=some (.bool z):=(HXB.out.cell (p:=⟨b,off+i,none⟩) HBW.out.1).trans HCU.out
           clear hqa hsa hxa hqb hmb))
       clear HRG HP1 HPL HSF HFC c17 hcp hcm HCU
       cases z
       all_goals
        rw[show(if _=true then(4:Int)else 0)=_ from by first|exact if_pos rfl|exact if_neg (by decide)]at c87
        go_wp2_with fail
        go_quiet (fail)
        go_wp2_with fail
        go_roundw
        case rel=>exact⟨i+1,by go_num,hlt,WB.ext HB.out (HXB.out.drewN _),HM.out.trans ((HXB.out.drewN _).mut _)⟩
        case measure=>simp[intOf]<;>omega
      ·obtain rfl:i=P.length:=by omega
       have dlt:decide ((P.length:Int)<(P.length:Int))=false:=by simp
       obtain⟨e7,⟨e8,e9,e10,e11,e12⟩,hok⟩:=HHD.out
       have c12:=(BrG.cellX hB hok (i:=12) (by omega)).trans (hok.hi 12 rfl)
       rw[e12]at c12
       have HRV:=hD (show wl.rangeAt X 7 [.int .u64 7,.int .u32 0,.int .u64 7,.int .u16 0,.int .u16 0]from fun j v hv=>by
        match j,hv with
        | 0,hv=>cases hv;exact((BrG.cellX hB hok (i:=7) (by omega)).trans (hok.hi 7 rfl)).trans (by rw[e7])
        | 1,hv=>cases hv;exact((BrG.cellX hB hok (i:=8) (by omega)).trans (hok.hi 8 rfl)).trans (by rw[e8])
        | 2,hv=>cases hv;exact((BrG.cellX hB hok (i:=9) (by omega)).trans (hok.hi 9 rfl)).trans (by rw[e9])
        | 3,hv=>cases hv;exact((BrG.cellX hB hok (i:=10) (by omega)).trans (hok.hi 10 rfl)).trans (by rw[e10])
        | 4,hv=>cases hv;exact((BrG.cellX hB hok (i:=11) (by omega)).trans (hok.hi 11 rfl)).trans (by rw[e11])
        | j+5,hv=>simp at hv)
       have heq:=aNB
       have HXE:=hD (show Ext w wl from HX1.out.trans (HX4.out.mutE hm (fun j hj h=>by have h2:w1.heap.size≤j:=h;omega)))
       clear e7 e8 e9 e10 e11 e12 hok hB hm
       go_wp2_with (first
        | fail
        | ((with_reducible refine aW 30 ?_);refine aU rfl 30 _ rfl X 7 rfl [.int .u64 7,.int .u32 0,.int .u64 7,.int .u16 0,.int .u16 0] _ HRV.out Tryz.underlying30 rfl (by kernel_rfl) ?_)
        | ((with_reducible refine aG 30 ?_);refine wpList_load_mid rfl 30 _ rfl X 7 rfl [.int .u64 7,.int .u32 0,.int .u64 7,.int .u16 0,.int .u16 0] _ HRV.out Tryz.underlying30 rfl (by kernel_rfl) ?_))
       go_ret
       exact⟨rfl,HXE.out⟩
end Go.Proofs.YtpanapepcbbagaaGreat
