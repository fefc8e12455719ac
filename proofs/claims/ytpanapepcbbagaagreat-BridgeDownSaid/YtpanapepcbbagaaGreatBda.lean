/- Part 1 of what BridgeDown stands on. No statement is proved here. -/
import Derived.Test.YtpanapepcbbagaaGreatBxh
set_option linter.unusedVariables false
set_option linter.unusedSimpArgs false
set_option maxRecDepth 100000
set_option maxHeartbeats 8000000
namespace Go.Proofs.YtpanapepcbbagaaGreat
open Go.RowKit Go.BigFrame Go.WideShapes Go.ChangeShapes Go.Deep
theorem WB.out{N:Nat→Prop}{X g:Nat}{w:World}{B:Br}(h:WB N X g B w)(ho:B.ok):∃a cap,w.cell? ⟨X,18,none⟩=some (.slice a B.no cap)∧B.no≤cap∧cap≤9223372036854775807∧(0<B.no→∃b,a=some ⟨b,0,none⟩∧N b∧b<w.heap.size∧∀j,j<B.no*18→w.cell? ⟨b,j,none⟩=B.os[j]?):=by
 obtain⟨h1,h2,cap,cur,s2,s3,a,b,c,d,e,f,p,q,r,s⟩:=h
 have hl:B.hd.length=17:=ho.hd.1
 have c18:w.cell? ⟨X,18,none⟩=some s2:=by
  rw[cell_of_row _ _ _ _ _ _ a]
  simp[hl]
 rcases p.2 with ⟨e0,e1⟩|⟨g2,cap2,cur2,rfl,hb,hg,hn2,hm,hs,ht⟩
 ·refine⟨none,0,?_,by omega,by omega,fun h0=>by omega⟩
  rw[c18,e0,e1]
 ·refine⟨_,cap2,c18,hn2,by unfold maxLen at hm;omega,fun h0=>⟨g2,rfl,(r g2 rfl).1,aC hg,fun j hj=>?_⟩⟩
  rw[cell_of_row _ _ _ _ _ _ hg,←ht,List.getElem?_take,if_pos hj]
  simp
end Go.Proofs.YtpanapepcbbagaaGreat
namespace Go.Proofs.YtpanapepcbbagaaGreat
open Go.RowKit Go.BigFrame Go.WideShapes Go.ChangeShapes Go.Deep
variable {c d:Pc} {n M:Nat} {s:Nat→Nat} {B C:Br}
def GA(j:Nat):Bool:=!(j == 20 || j == 27 || j == 29)
theorem aMD(B:Br)(k:Nat):Fr GA B (tD B k).2:=by
 unfold tD lP nY nD nE
 repeat' split
 all_goals repeat (first|exact Fr.rf _ B|refine Fr.setp ?_ (by decide) (by decide))
theorem aLO(B:Br)(k:Nat):Fr GA B (gD B k).2:=by
 unfold gD cX dW fL
 repeat' split
 all_goals repeat (first|exact Fr.rf _ B|refine Fr.setp ?_ (by decide) (by decide))
theorem aK7(B:Br)(k:Nat):Fr GA B (fM B k).2:=by
 unfold fM iM j6
 repeat' split
 all_goals repeat (first|exact Fr.rf _ B|refine Fr.setp ?_ (by decide) (by decide))
theorem aIC(B:Br)(k r:Nat):Fr GA B (dY B k r):=by
 unfold dY kT eG jU oL gF iN jV
 split
 all_goals repeat (first|exact Fr.rf _ B|refine Fr.setp ?_ (by decide) (by decide)|refine Fr.upd ?_ (by decide) (by decide) _)
theorem aME(B:Br)(k:Nat):Fr GA B (oM B k).2:=by
 unfold oM mO
 repeat' split
 all_goals first|exact Fr.rf _ B|exact aIC B k _|exact(aIC B k _).setp (by decide) (by decide)
theorem aCT(B:Br)(k:Nat):Fr GA B (bF B k):=by
 unfold bF
 repeat' split
 all_goals repeat (first|exact Fr.rf _ B|refine Fr.setp ?_ (by decide) (by decide))
theorem aFI(h:Fr GA B C)(k:Nat):Fr GA B (dM C k):=by
 unfold dM dH
 refine Fr.tcpn ?_ (by decide) _
 repeat (first|exact h|refine Fr.setp ?_ (by decide) (by decide))
theorem aLV(B:Br)(k:Nat):Fr GA B (jN B k).2:=by
 unfold jN
 split
 ·have h:Fr GA B (B.flush k):=⟨rfl,rfl,rfl,rfl,Nat.le_refl _,fun _ _ _ _=>rfl⟩
  exact Fr.setp (k:=k) (j:=25) (v:=.bool false) h (by decide) (by decide)
 ·unfold pJ dR fT i5 gG pH
  repeat' split
  all_goals repeat (first
   | exact Fr.rf _ B
   | exact aCT B k
   | exact aFI (Fr.rf _ B) k
   | exact aFI (aCT B k) k
   | exact Fr.tcpn (aCT B k) (by decide) _
   | refine Fr.setp ?_ (by decide) (by decide))
theorem aMF(B:Br)(k i:Nat){j:Nat}(hj:GA j=false):(wC B k).2.ps[i*89+j]?=B.ps[i*89+j]?:=by
 have hlt:j<89:=by unfold GA at hj;simp at hj;omega
 have st:∀(D:Br) (x:Nat) (v:Value),x<89→GA x=true→(D.setp k x v).ps[i*89+j]?=D.ps[i*89+j]?:=fun D x v hx hA=>by
  have hne:x≠j:=fun e=>by subst e;rw[hA]at hj;cases hj
  exact List.getElem?_set_ne (by omega)
 unfold wC gM kE dZ
 repeat' split
 all_goals repeat (first|rfl|refine(st _ _ _ (by decide) (by decide)).trans ?_)
def KL(L M:List Value):Prop:=M.length=89∧∀x,x=20∨x=27∨x=29→M[x]?=L[x]?
variable {L N:List Value}
theorem KL.set(h:KL L N){j:Nat}{v:Value}(hj:j≠20∧j≠27∧j≠29:=by decide):KL L (N.set j v):=⟨by rw[List.length_set];exact h.1,fun x hx=>(List.getElem?_set_ne (by omega)).trans (h.2 x hx)⟩
theorem KL.row(h:KL L N){j:Nat}{l:List Value}(hj:(j=68∧l.length=5)∨(j=78∧l.length=4)):KL L (setL N j l):=⟨bH h.1 (by omega),fun x hx=>(eD h.1 (by omega) (by omega)).trans (h.2 x hx)⟩
theorem KL.prop(h:KL L N)(p:Bool):KL L (dU p N):=by
 cases p
 ·exact h
 ·exact h.set
theorem KL.agr(h:KL L N)(p:Bool):KL L (iF p N):=by
 cases p
 ·exact h.set
 ·exact h.set.set
theorem KL.chg(h:KL L N)(p q:Bool):KL L (l8 p q N):=h.set.set
theorem KL.inf(h:KL L N)(p:Bool):KL L (aAW p N):=by
 cases p
 ·exact h
 ·exact h.set.set
theorem KL.oth(h:KL L N)(p:Bool):KL L (aAX p N):=by
 cases p
 ·exact h
 ·exact h.set
theorem aL4(hl:L.length=89)(rst:Bool):KL L (lD rst L).2:=by
 have h0:KL L L:=⟨hl,fun _ _=>rfl⟩
 have hle:=aE8 (pB L 2) (pI L 86 == 0) (pI L 18 == 0) (pB L 36) (pI L 18 == 1) (pI L 18 == 2) (pB L 44) (pB L 50) (pI L 86 == 3) (pI L 11 == 0)
 unfold lD
 rcases(by unfold iZ;omega:iZ L=0∨iZ L=1∨iZ L=2∨iZ L=3∨iZ L=4)with h|h|h|h|h<;>rw[h]
 ·exact h0
 ·show KL L (qI L)
  unfold qI nB
  exact h0.set.set.set.set.set.set.set.set.set.set
 ·show KL L (qJ L)
  unfold qJ nB
  exact h0.set.set.set.set
 ·show KL L (lK L)
  unfold lK aGG aDV
  exact(((h0.set.set.set.set.row (.inl ⟨rfl,rfl⟩)).row (.inr ⟨rfl,rfl⟩)).set.set.set).set
 ·show KL L (j7 rst L)
  unfold j7 lJ
  split
  ·unfold aDU nB
   exact(((((((h0.set.set.prop _).chg _ _).set.agr _).set.row (.inl ⟨rfl,rfl⟩)).row (.inr ⟨rfl,rfl⟩)).set.set.set.set).set).set
  ·exact((((h0.prop _).chg _ _).agr _).set).set.set
  ·exact(h0.inf _).set.set
  ·exact((h0.agr _).chg _ _).set.set
  ·exact(h0.oth _).set.set
theorem aMG(hK:KI n M s B){k j:Nat}(hk:k<n)(hj:j<8)(h5:j≠5)(i:Nat){x:Nat}(hx:x=20∨x=27∨x=29):pc (fF j B k).2 i x=pc B i x:=by
 have hkp:k<B.np:=by rw[hK.np];exact hk
 have hx9:x<89:=by omega
 have hA:GA x=false:=by rcases hx with rfl|rfl|rfl<;>rfl
 have go:∀{D:Br},Fr GA B D→pc D i x=pc B i x:=fun h=>by rw[jZ hx9,jZ hx9,h.ps i x hx9 hA]
 rcases(by omega:j=0∨j=1∨j=2∨j=3∨j=4∨j=6∨j=7)with rfl|rfl|rfl|rfl|rfl|rfl|rfl
 ·exact go (aMD B k)
 ·exact go (aLO B k)
 ·exact go (aK7 B k)
 ·have hl:=nT (dI hK.ok hkp)
  obtain⟨h1,h2⟩:=aL4 hl (B.hb 1)
  show pc (B.setPort k (lD (B.hb 1) (a9 B.ps k)).2) i x=_
  rw[pV h1 (mT hK.ok hkp)]
  split
  ·rename_i e
   rw[e]
   exact h2 x hx
  ·rfl
 ·exact go (aME B k)
 ·exact go (aLV B k)
 ·rw[jZ hx9,jZ hx9]
  exact aMF B k i hA
def PSc(c:Pc):Prop:=(gI c 20=0∧gB c 27=false∧gB c 29=false)∨(gI c 20=1∧gB c 27=false)∨gI c 20=2
theorem aCW(h:∀x,x=20∨x=27∨x=29→d x=c x)(hp:PSc c):PSc d:=by
 unfold PSc gI gB at hp ⊢
 rw[h 20 (by omega),h 27 (by omega),h 29 (by omega)]
 exact hp
theorem aMA{k:Nat}(hk:Lk k B)(h:PSc (pc B k)):PSc (pc (gT B k).2 k):=by
 have l:pc (fN B k) k=up (up (pc B k) 29 (.bool true)) 20 (.int .i64 1):=by
  simp (disch:=first|decide|exact hk|(simp only[bC];exact hk))only[fN,a8]
 have t:pc (fA B k) k=up (up (up (pc B k) 29 (.bool false)) 27 (.bool false)) 20 (.int .i64 0):=by
  simp (disch:=first|decide|exact hk|(simp only[bC];exact hk))only[fA,a8]
 have f:pc (dN B k) k=up (up (pc B k) 27 (.bool true)) 20 (.int .i64 2):=by
  simp (disch:=first|decide|exact hk|(simp only[bC];exact hk))only[dN,a8]
 unfold gT
 rw[gN (j:=20) (by decide)]
 unfold PSc at h ⊢
 split
 ·rename_i h0
  split
  ·show _∨_∨_
   rw[l]
   simp[aV,bE,aA6,aCF]
   grind
  ·exact h
 split
 ·split
  ·rw[t]
   simp[aV,bE,aA6,aCF]
  ·split
   ·rw[f]
    simp[aV,aA6]
   ·exact h
 split
 ·split
  ·rw[t]
   simp[aV,bE,aA6,aCF]
  ·exact h
 ·exact h
theorem aJA(hK:KI n M s B)(hn:n<1000){i j:Nat}(hi:i<n)(hj:j<89)(hne:j≠43∧j≠44∧j≠88∧j≠50∧(j<73∨78≤j)∧(j<82∨86≤j)):pc (gA B).2 i j=pc B i j:=by
 have ho:=hK.ok
 have hl:B.np*89≤B.ps.length:=by rw[ho.len];exact Nat.le_refl _
 have hi2:i<B.np:=by rw[hK.np];exact hi
 have e0:(lW B B.np).ps[i*89+j]?=B.ps[i*89+j]?:=by
  show(B.upd 43 (fun _=>.bool false) B.np).ps[i*89+j]?=_
  rw[l6 B (by decide) _ hl hj,if_neg (by omega)]
 unfold gA
 split
 ·have okN:=o4 ho (Nat.le_refl B.np)
  have npN:(lW B B.np).np=B.np:=gS B 43 _ _
  have ok2:(dO (lW B B.np)).ok:=pR okN (by rw[npN,hK.np];exact hn) (fun k hk=>by
   rw[wM ho (by decide) (by decide)]
   have:=hK.pt k (by rw[←hK.np,←npN];exact hk)
   unfold PI at this
   omega)
  have iD:i<(dO (lW B B.np)).np:=by show i<(lW B B.np).np;rw[npN];exact hi2
  show pc (eF (dO (lW B B.np)) B.np) i j=_
  rw[jZ hj,jZ hj,rQ ok2 B.np (by show B.np≤(lW B B.np).np;rw[npN];exact Nat.le_refl _) i j iD hj,if_pos hi2,aJ3 (nT (dI ok2 iD)) ⟨by omega,by omega,by omega,by omega,by omega⟩,aI hj]
  exact e0
 ·show pc (lW B B.np) i j=_
  rw[jZ hj,jZ hj]
  exact e0
theorem aJB(hn:n<1000):Keeps n s (fun B=>∀i,i<n→PSc (pc B i)):=by
 refine⟨fun M B hK ha h i hi=>aCW (fun x hx=>aJA hK hn hi (by omega) (by omega)) (h i hi),fun M k j B hK hk hj ha h i hi=>?_⟩
 by_cases h5:j=5
 ·subst h5
  have hl:=mT hK.ok (show k<B.np by rw[hK.np];exact hk)
  by_cases hik:i=k
  ·subst hik
   exact aMA hl (h i hi)
  ·exact aCW (fun x _=>by show pc (gT B k).2 i x=_;rw[((s5 hl).core (fun h=>h.1)).2 i hik]) (h i hi)
 ·exact aCW (fun x hx=>aMG hK hk hj h5 i hx) (h i hi)
theorem aFU(hK:KI n M s B){k j:Nat}(hk:k<n)(hj:j<8)(ha:AI (pc B k)):(eV (pc B k) (pc (fF j B k).2 k)∨RxR (pc B k) (pc (fF j B k).2 k)∨InR (pc B k) (pc (fF j B k).2 k)∨∃e,TrO (pc B k) (pc (fF j B k).2 k) e)∧∀i,i≠k→eV (pc B i) (pc (fF j B k).2 i):=by
 have hkp:k<B.np:=by rw[hK.np];exact hk
 have hl:=mT hK.ok hkp
 have same:∀{C:Br},(∀i,i≠k→pc C i=pc B i)→∀i,i≠k→eV (pc B i) (pc C i):=fun h i hi=>by rw[h i hi];exact bJ _
 rcases(by omega:j=0∨j=1∨j=2∨j=3∨j=4∨j=5∨j=6∨j=7)with rfl|rfl|rfl|rfl|rfl|rfl|rfl|rfl
 ·obtain⟨-,h1,h2⟩:=aE7 hl
  exact⟨.inr (.inl h1),same h2⟩
 ·obtain⟨h1,h2⟩:=(sZ hl).core (fun h=>h.1)
  exact⟨.inl h1,same h2⟩
 ·obtain⟨h1,h2⟩:=(pX hl).core (fun h=>h.1)
  exact⟨.inl h1,same h2⟩
 ·obtain⟨-,-,h1,h2⟩:=s8 hK.ok hkp (hK.timR hk)
  exact⟨.inr (.inr (.inl h1)),same h2⟩
 ·rcases yK hK.ok hkp hK.hs.2.1 hK.hs.2.2.1 hK.hs.2.2.2.1 ha.2.1 with e|⟨-,⟨h1,h2⟩|⟨h1,h2⟩⟩
  ·have e2:(fF 4 B k).2=B:=by show(oM B k).2=B;rw[e]
   rw[e2]
   exact⟨.inl (bJ _),fun i _=>bJ _⟩
  ·exact⟨.inr (.inr (.inr ⟨_,h1⟩)),same h2⟩
  ·exact⟨.inr (.inr (.inr ⟨_,h1⟩)),fun i hi=>(h2 i hi).elim (fun h=>by show eV _ (pc (oM B k).2 i);rw[h];exact bJ _) (fun h=>(aE1 h).1)⟩
 ·obtain⟨h1,h2⟩:=(s5 hl).core (fun h=>h.1)
  exact⟨.inl h1,same h2⟩
 ·rcases s7 hK.ok hkp (yQ ha)with h1|⟨-,h1,h2⟩
  ·obtain⟨h1,h2⟩:=h1.core (fun h=>h.1)
   exact⟨.inl h1,same h2⟩
  ·exact⟨.inl h1.1,fun i hi=>(h2 i hi).elim (fun h=>by show eV _ (pc (jN B k).2 i);rw[h];exact bJ _) (fun h=>(zV h).1)⟩
 ·obtain⟨h1,h2⟩:=(yH hl hK.hs.2.2.1 hK.hs.2.2.2.2).core (fun h=>h.1)
  exact⟨.inl h1,same h2⟩
structure Kp (p:Pc→Prop):Prop where
 cp:CP p
 rx:∀c d,AI c→p c→RxR c d→p d
 inf:∀c d,AI c→p c→InR c d→p d
 tr:∀c d e,AI c→p c→TrO c d e→p d
 se:∀c d,AI c→p c→SeR c d→p d
theorem aJ7(hK:KI n M s B)(hn:n<1000)(ha:∀i,i<n→AI (pc B i)):(gA B=(false,B)∧∀i,i<n→gB (pc B i) 43=false)∨((gA B).1=true∧∀i,i<n→SeR (pc B i) (pc (gA B).2 i)) :=
 s9 hK.ok hK.np hn (fun k hk=>by
  have:=hK.pt k (by rw[←hK.np];exact hk)
  unfold PI at this
  omega) (fun i hi=>(ha i hi).2.2.1)
theorem Kp.keep1{p:Pc→Prop}(h:Kp p)(hn:n<1000){i:Nat}(hi:i<n):Keeps n s (fun B=>p (pc B i)):=by
 refine⟨fun M B hK ha h0=>?_,fun M k j B hK hk hj ha h0=>?_⟩
 ·rcases aJ7 hK hn ha with ⟨e,-⟩|⟨-,e⟩
  ·rw[e]
   exact h0
  ·exact h.se _ _ (ha i hi) h0 (e i hi)
 ·obtain ⟨h1,h2⟩:=aFU hK hk hj (ha k hk)
  by_cases hik:i=k
  ·subst hik
   rcases h1 with h1|h1|h1|⟨e,h1⟩
   ·exact h.cp _ _ h1 h0
   ·exact h.rx _ _ (ha i hi) h0 h1
   ·exact h.inf _ _ (ha i hi) h0 h1
   ·exact h.tr _ _ _ (ha i hi) h0 h1
  ·exact h.cp _ _ (h2 i hik) h0
theorem Kp.keeps{p:Pc→Prop}(h:Kp p)(hn:n<1000):Keeps n s (fun B=>∀i,i<n→p (pc B i)) :=
 ⟨fun M B hK ha h0 i hi=>(h.keep1 hn hi).sel M B hK ha (h0 i hi),fun M k j B hK hk hj ha h0 i hi=>(h.keep1 hn hi).st M k j B hK hk hj ha (h0 i hi)⟩
def L2(c:Pc):Prop:=gB c 2=false
theorem l2_kp:Kp L2:=by
 refine⟨fun c d h hp=>(aFD h).1.1.trans hp,fun c d _ hp h=>?_,fun c d _ hp h=>?_,fun c d e _ hp h=>(kts h.kt).1.1.trans hp,fun c d _ hp h=>?_⟩
 ·obtain ⟨d0,h1,h2⟩:=h
  refine(aFD h1).1.1.trans ?_
  rcases h2 with ⟨rfl,-⟩|⟨rfl,-⟩|⟨rfl,-⟩
  ·exact hp
  all_goals
   simp only[bE,Nat.reduceEqDiff,if_false]
   exact hp
 ·obtain ⟨d0,h1,h2⟩:=h
  refine(aFD h1).1.1.trans ?_
  rcases h2 with ⟨-,rfl⟩|⟨-,rfl⟩|⟨-,rfl⟩|⟨-,rfl⟩|⟨-,e,rfl,rfl|⟨z,rfl⟩|⟨z,rfl⟩⟩
  ·exact hp
  all_goals
   simp only[oO,bE,Nat.reduceEqDiff,if_false]
   exact hp
 ·obtain⟨d0,r,u,h1,rfl,-⟩:=h
  refine(aFD h1).1.1.trans ?_
  simp only[bE,Nat.reduceEqDiff,if_false]
  exact hp
def D0(c:Pc):Prop:=gB c 2=false∧gB c 35=false∧gB c 36=false∧gI c 86=0∧gI c 87=0∧gI c 88=0
theorem aID:CP D0:=fun c d h hp=>by
 obtain⟨⟨b2,-,-,b35,b36,-⟩,-,-,-,-,-,i86,i87,i88⟩:=aFD h
 exact⟨b2.trans hp.1,b35.trans hp.2.1,b36.trans hp.2.2.1,i86.trans hp.2.2.2.1,i87.trans hp.2.2.2.2.1,i88.trans hp.2.2.2.2.2⟩
theorem d0_kp:Kp D0:=by
 refine⟨aID,fun c d ha hp h=>?_,fun c d ha hp h=>?_,fun c d e ha hp h=>?_,fun c d ha hp h=>?_⟩
 ·obtain ⟨d0,h1,h2⟩:=h
  refine aID _ _ h1 ?_
  rcases h2 with ⟨rfl,-⟩|⟨rfl,-⟩|⟨rfl,h2⟩
  ·exact hp
  ·unfold D0 at hp ⊢
   simp only[bE,aV,aCF,aA6,Nat.reduceEqDiff,if_true,if_false]
   exact⟨hp.1,trivial,trivial,hp.2.2.2⟩
  ·exfalso
   unfold gP at h2
   rw[hp.1,hp.2.1]at h2
   simp at h2
   (repeat' split at h2)<;>omega
 ·obtain ⟨d0,h1,h3⟩:=h
  have h0:eX c=0:=by
   unfold AI at ha
   unfold D0 at hp
   unfold eX bX
   grind
  rcases h3 with ⟨-,rfl⟩|⟨h3,-⟩|⟨h3,-⟩|⟨h3,-⟩|⟨h3,-⟩
  ·exact aID _ _ h1 hp
  all_goals omega
 ·obtain⟨⟨b2,b35,b36,-⟩,-,-,-,i86,i88⟩:=kts h.kt
  have e:gI c 88=gI c 87:=by rw[hp.2.2.2.2.1,hp.2.2.2.2.2]
  exact⟨b2.trans hp.1,b35.trans hp.2.1,b36.trans hp.2.2.1,i86.trans hp.2.2.2.1,(h.eq e).1.trans hp.2.2.2.2.1,i88.trans hp.2.2.2.2.2⟩
 ·obtain⟨d0,r,u,h1,rfl,-,-,hr,-,-⟩:=h
  refine aID _ _ h1 ?_
  unfold D0 at hp ⊢
  simp only[bE,aV,aCF,aA6,Nat.reduceEqDiff,if_true,if_false]
  exact⟨hp.1,hp.2.1,hp.2.2.1,hp.2.2.2.1,hp.2.2.2.2.1,hr.2 hp.2.2.2.1⟩
def aLL(n:Nat)(B:Br):Prop:=B.no=0∧∀i,i<n→D0 (pc B i)
theorem aKU(hn:n<1000):Keeps n s (aLL n):=by
 have hk:=d0_kp.keeps (s:=s) hn
 refine⟨fun M B hK ha h=>⟨(aKO B).trans h.1,hk.sel M B hK ha h.2⟩,fun M k j B hK hk' hj ha h=>⟨?_,hk.st M k j B hK hk' hj ha h.2⟩⟩
 by_cases h7:j<7
 ·exact(aKP h7).trans h.1
 ·obtain rfl:j=7:=by omega
  exact(aL7 ((gN (by decide)).trans (h.2 k hk').2.2.2.2.1)).trans h.1
end Go.Proofs.YtpanapepcbbagaaGreat
namespace Go.Proofs.YtpanapepcbbagaaGreat
open Go.RowKit Go.BigFrame Go.WideShapes Go.ChangeShapes Go.Deep
variable {c d:Pc} {n M:Nat} {s:Nat→Nat} {B C:Br}
theorem aMH{j k:Nat}(hj:j<8):(fF j B k).2.hd=B.hd:=by
 rcases(by omega:j=0∨j=1∨j=2∨j=3∨j=4∨j=5∨j=6∨j=7)with rfl|rfl|rfl|rfl|rfl|rfl|rfl|rfl
 ·exact(aIH B k).hd
 ·exact(aET B k).hd
 ·exact(zQ B k).hd
 ·rfl
 ·exact(aII B k).hd
 ·exact(aEU B k).hd
 ·exact(aEV B k).hd
 ·show(wC B k).2.hd=B.hd
  unfold wC gM kE dZ
  (repeat' split)<;>rfl
theorem aMI(hK:KI n M s B){k j:Nat}(hk:k<n)(hj:j<8)(ha:AI (pc B k))(i:Nat):gI (pc (fF j B k).2 i) 88=gI (pc B i) 88:=by
 have co:∀{c d:Pc},eV c d→gI d 88=gI c 88:=fun h=>(aFD h).2.2.2.2.2.2.2.2
 obtain⟨h1,h2⟩:=aFU hK hk hj ha
 by_cases hik:i=k
 ·subst hik
  rcases h1 with h1|⟨d0,h1,h3⟩|⟨d0,h1,h3⟩|⟨e,h1⟩
  ·exact co h1
  ·refine(co h1).trans ?_
   rcases h3 with ⟨rfl,-⟩|⟨rfl,-⟩|⟨rfl,-⟩
   ·rfl
   all_goals simp only[aV,Nat.reduceEqDiff,if_false]
  ·refine(co h1).trans ?_
   rcases h3 with ⟨-,rfl⟩|⟨-,rfl⟩|⟨-,rfl⟩|⟨-,rfl⟩|⟨-,e,rfl,rfl|⟨z,rfl⟩|⟨z,rfl⟩⟩
   ·rfl
   all_goals simp only[oO,aV,Nat.reduceEqDiff,if_false]
  ·exact(kts h1.kt).2.2.2.2.2
 ·exact co (h2 i hik)
theorem aKV(a b:Bool){X:List Value}(h:X.length=89):(dsL a b X)[88]?=some (.int .i64 4):=by
 unfold dsL
 split
 ·exact cE h (by decide)
 ·exact(aF (by decide)).trans (cE h (by decide))
theorem aMJ{L:List Value}(hl:L.length=89)(h86:0≤pI L 86∧pI L 86≤3)(k:Nat)(rp id:Int):∃x:Int,(chL k rp id L)[88]?=some (.int .i64 x)∧(x=3↔pI L 86=3∧(k:Int)=rp):=by
 unfold chL
 split
 ·exact⟨0,cE hl (by decide),by omega⟩
 split
 ·rename_i h0 h3
  split
  ·rename_i hc
   refine⟨_,(aF (by decide)).trans (cE hl (by decide)),?_⟩
   unfold kN
   by_cases e:(k:Int)=rp
   ·rw[if_pos (by simpa using e)]
    exact⟨fun _=>⟨h3,e⟩,fun _=>rfl⟩
   ·rw[if_neg (by simpa using e)]
    refine⟨fun h=>?_,fun h=>absurd h.2 e⟩
    split at h<;>omega
  ·rename_i hc
   refine⟨4,aKV _ _ (by rw[List.length_set];exact hl),fun h=>by omega,fun h=>?_⟩
   exact absurd (show((k:Int) == rp || !lsL L)=true by rw[Bool.or_eq_true];exact .inl (by simpa using h.2)) hc
 split
 ·exact⟨4,aKV _ _ (by rw[List.length_set];exact hl),by omega⟩
 split
 ·exact⟨4,aKV _ _ hl,by omega⟩
 ·omega
theorem aE5(B:Br):∀m,(fC B m).at_=-1→(fC B m).r=B.hi 0
 | 0,_=>rfl
 | m+1,h=>by
  unfold fC at h ⊢
  split
  ·rename_i hc
   rw[if_pos hc]at h
   have h2:(m:Int)=-1:=h
   omega
  ·rename_i hc
   rw[if_neg hc]at h
   exact aE5 B m h
def RPB(n:Nat)(C:Br):Prop:=C.hi 0=7∧(∀i,i<n→gI (pc C i) 88=3→C.hi 12=i)∧((C.hi 12=-1∧C.hi 7=7)∨∃k:Nat,k<n∧C.hi 12=k∧gI (pc C k) 88=3)
theorem aIE(hd:C.hd=B.hd)(h88:∀i,i<n→gI (pc C i) 88=gI (pc B i) 88)(h:RPB n B):RPB n C:=by
 obtain⟨h1,h2,h3⟩:=h
 have hh:∀j,C.hi j=B.hi j:=fun j=>by unfold Br.hi;rw[hd]
 refine⟨(hh 0).trans h1,fun i hi e=>by rw[hh];exact h2 i hi ((h88 i hi).symm.trans e),?_⟩
 rw[hh,hh]
 rcases h3 with h3|⟨k,hk,h4,h5⟩
 ·exact .inl h3
 ·exact .inr ⟨k,hk,h4,(h88 k hk).trans h5⟩
theorem aMC(hK:KI n M s B)(hn:n<1000)(ha:∀i,i<n→AI (pc B i))(h:RPB n B):RPB n (gA B).2:=by
 have ho:=hK.ok
 have hl:B.np*89≤B.ps.length:=by rw[ho.len];exact Nat.le_refl _
 rcases aJ7 hK hn ha with ⟨e,-⟩|⟨e,-⟩
 ·rw[e]
  exact h
 unfold gA at e ⊢
 split at e
 case isFalse=>cases e
 rename_i hany
 rw[if_pos hany]
 have okN:=o4 ho (Nat.le_refl B.np)
 have npN:(lW B B.np).np=B.np:=gS B 43 _ _
 have ok2:(dO (lW B B.np)).ok:=pR okN (by rw[npN,hK.np];exact hn) (fun k hk=>by
  rw[wM ho (by decide) (by decide)]
  have:=hK.pt k (by rw[←hK.np,←npN];exact hk)
  unfold PI at this
  omega)
 have g86:∀i,i<n→(lW B B.np).gi i 86=gI (pc B i) 86:=fun i hi=>by
  rw[wM ho (by decide) (by decide)]
  exact gN (by decide)
 have hdN:(lW B B.np).hd=B.hd:=aEL B 43 _ _
 obtain⟨N,hN⟩:∃N,lW B B.np=N:=⟨_,rfl⟩
 rw[hN]at okN npN ok2 g86 hdN ⊢
 have hl17:N.hd.length=17:=okN.hd.1
 have hV:(iX N).cells.toList.length=5:=rfl
 have hr4:(wK (cR N) (iX N).at_).length=4:=by unfold wK;split<;>rfl
 have ha1:(setL N.hd 7 (iX N).cells.toList).length=17:=by rw[fJ (by rw[hl17,hV];decide),hl17]
 have hb1:(setL (setL N.hd 7 (iX N).cells.toList) 12 [Value.int IntKind.i64 (iX N).at_]).length=17:=by
  rw[fJ (by rw[ha1];exact(by decide:12+1≤17)),ha1]
 have hcell:∀j,j<13→(dO N).hd[j]?=if 12≤j∧j<12+1 then([Value.int IntKind.i64 (iX N).at_]:List Value)[j - 12]? else if 7≤j∧j<7+5 then(iX N).cells.toList[j - 7]? else N.hd[j]?:=fun j hj=>by
  show(setL (setL (setL N.hd 7 (iX N).cells.toList) 12 [Value.int IntKind.i64 (iX N).at_]) 13 (wK (cR N) (iX N).at_))[j]?=_
  rw[eB (by rw[hb1,hr4];omega),if_neg (by omega),eB (by rw[ha1];exact(by decide:12+1≤17)),eB (by rw[hl17,hV];decide)]
  rfl
 have e0:(dO N).hi 0=7:=by
  unfold Br.hi
  rw[hcell 0 (by decide),if_neg (by decide),if_neg (by decide),hdN]
  exact h.1
 have e12:(dO N).hi 12=(fC N N.np).at_:=by
  unfold Br.hi
  rw[hcell 12 (by decide),if_pos (by decide)]
  rfl
 have e7:(dO N).hi 7=(fC N N.np).r:=by
  unfold Br.hi
  rw[hcell 7 (by decide),if_neg (by decide),if_pos (by decide)]
  rfl
 have eN0:N.hi 0=7:=by
  unfold Br.hi
  rw[hdN]
  exact h.1
 have hp:∀j,(eF (dO N) B.np).hi j=(dO N).hi j:=fun j=>by unfold Br.hi;rw[oK]
 have np2:(dO N).np=n:=npN.trans hK.np
 have role:∀i,i<n→∃x:Int,gI (pc (eF (dO N) B.np) i) 88=x∧(x=3↔gI (pc B i) 86=3∧(i:Int)=(fC N N.np).at_):=fun i hi=>by
  have iD:i<(dO N).np:=by rw[np2];exact hi
  have hT:=dI ok2 iD
  have hl:=nT hT
  have hTt:=kO ok2 hT
  have htl:=nT hTt
  have e86:pI (lI (dO N) (a9 (dO N).ps i)) 86=gI (pc B i) 86:=by
   rw[←g86 i hi]
   have h1:(lI (dO N) (a9 (dO N).ps i))[86]?=(a9 (dO N).ps i)[86]?:=by
    unfold lI
    rw[aF (by decide),eD (bH hl (by exact(by decide:73+5≤89))) (by exact(by decide:82+4≤89)) (by exact .inr (by decide:82+4≤86)),eD hl (by exact(by decide:73+5≤89)) (by exact .inr (by decide:73+5≤86))]
   rw[zS h1]
   exact jI (by decide)
  obtain⟨x,hx,hx3⟩:=aMJ htl (by rw[e86];exact(ha i hi).2.2.1) i ((dO N).hi 12) ((dO N).hi 0)
  rw[e86,e12]at hx3
  refine⟨x,?_,hx3⟩
  have hc:pc (eF (dO N) B.np) i 88=some (.int .i64 x):=by
   rw[jZ (by decide),rQ ok2 B.np (by rw[np2,hK.np];exact Nat.le_refl _) i 88 iD (by decide),if_pos (by rw[hK.np];exact hi)]
   unfold stL
   rw[aF (by decide)]
   exact hx
  unfold gI
  rw[hc]
 show RPB n (eF (dO N) B.np)
 refine⟨by rw[hp];exact e0,fun i hi e=>?_,?_⟩
 ·obtain⟨x,h1,h2⟩:=role i hi
  rw[hp,e12]
  exact(h2.1 (h1.symm.trans e)).2.symm
 ·rw [hp,hp,e12,e7]
  rcases vL N N.np with h1|⟨k,hk,h1,h2⟩
  ·exact .inl ⟨h1,(aE5 N _ h1).trans eN0⟩
  ·have hkn:k<n:=by rw[←np2];exact hk
   obtain⟨x,h3,h4⟩:=role k hkn
   exact .inr ⟨k,hkn,h1,h3.trans (h4.2 ⟨(g86 k hkn).symm.trans h2,h1.symm⟩)⟩
theorem aKW(hn:n<1000):Keeps n s (RPB n) :=
 ⟨fun M B hK ha h=>aMC hK hn ha h,fun M k j B hK hk hj ha h=>aIE (aMH hj) (fun i _=>aMI hK hk hj (ha k hk) i) h⟩
def JD(n:Nat)(B:Br):Prop:=RPB n B∧∀i,i<n→PSc (pc B i)
def UA(j:Nat):Prop:=j=20∨j=27∨j=29∨j=88
theorem aCG(hd:C.hd=B.hd)(hc:∀i j,i<n→UA j→pc C i j=pc B i j)(h:JD n B):JD n C:=by
 refine⟨aIE hd (fun i hi=>?_) h.1,fun i hi=>aCW (fun x hx=>hc i x hi (by unfold UA;omega)) (h.2 i hi)⟩
 unfold gI
 rw[hc i 88 hi (by unfold UA;omega)]
theorem aIX(hK:KI n M s B)(q:Int){m:List Value}(hm:Typed ML m)(i:Nat){j:Nat}(hj:j≠35∧(j<51∨68≤j)):pc (kH B q m).2 i j=pc B i j:=by
 unfold kH
 split
 ·rename_i hq
  split
  ·rfl
  ·obtain ⟨k,hk⟩:∃k,q.toNat=k:=⟨_,rfl⟩
   rw[hk]at hq ⊢
   have hl:Lk k B:=mT hK.ok hq.2
   have hml:m.length=17:=hm.1
   by_cases h89:j<89
   ·rw[jZ h89,jZ h89]
    show((B.setr k 51 m).ps.set (k*89+35) _)[i*89+j]?=_
    unfold Lk at hl
    rw[List.getElem?_set_ne (by omega),rL (by omega),if_neg (by omega)]
   ·rw[iB (by omega),iB (by omega)]
 ·rfl
theorem aK8(q:Int)(m:List Value):(kH B q m).2.hd=B.hd:=by
 unfold kH
 (repeat' split)<;>rfl
theorem aCU{k j:Nat}{v:Value}(hl:Lk k B)(hj:j=2∨j=30)(i:Nat){x:Nat}(hx:UA x):pc (B.setp k j v) i x=pc B i x:=by
 unfold UA at hx
 by_cases hik:i=k
 ·subst hik
  rw[a8 hl (by omega),a5 _ _ (by omega)]
 ·rw[aK hik (by omega)]
theorem k5(hn:n<1000):rW n (JD n):=by
 refine⟨(aKW hn).and (aJB hn),fun B hQ h=>?_,fun B k b hQ hk h=>?_,fun B q m hQ hm h=>?_,fun B k hQ hk h=>?_,fun B h=>h⟩
 ·exact aCG (vS B _) (fun i j hi hj=>aAN hQ.1.1.ok (by rw[hQ.1.1.np];exact hi) (by unfold UA at hj;omega)) h
 ·exact aCG (B:=B) rfl (fun i j _ hj=>aCU (mT hQ.1.1.ok (by rw[hQ.1.1.np];exact hk)) (.inl rfl) i hj) h
 ·exact aCG (aK8 q m) (fun i j _ hj=>aIX hQ.1.1 q hm.1 i (by unfold UA at hj;omega)) h
 ·exact aCG (B:=B) rfl (fun i j _ hj=>aCU (mT hQ.1.1.ok (by rw[hQ.1.1.np];exact hk)) (.inr rfl) i hj) h
theorem aMK{rst:Bool}{P:List Pt}(hP:P.length=n):JD n (NB rst P):=by
 have hg:∀i,i<n→PSc (pc (NB rst P) i)∧gI (pc (NB rst P) i) 88=0:=fun i hi=>by
  have h88:=(aL8 (rst:=rst) hP hi).2.2.2
  refine⟨.inl ?_,h88⟩
  subst hP
  unfold gI gB
  rw[jZ (by decide),jZ (by decide),jZ (by decide),aAD (j:=20) (x:=.int .i64 0) hi rfl,aAD (j:=27) (x:=.bool false) hi rfl,aAD (j:=29) (x:=.bool false) hi rfl]
  exact⟨rfl,rfl,rfl⟩
 exact⟨⟨rfl,fun i hi h=>(by rw[(hg i hi).2]at h;cases h),.inl ⟨rfl,rfl⟩⟩,fun i hi=>(hg i hi).1⟩
theorem aHR(hn:n<1000)(h:AtRest n s M B){k:Nat}(hk:k<n)(hP:PSc (pc B k))(h2:gB (pc B k) 2=false):D0 (pc B k)∧gB (pc B k) 27=false∧gB (pc B k) 28=false∧gB (pc B k) 29=false:=by
 have hw:=(h.ww hn hk).1
 obtain⟨⟨ha,⟨y1,y2,y3,y4⟩,hq,hd,h50,h18⟩,h87⟩:=hw
 have h86:=y3.2 h2
 have h88:gI (pc B k) 88=0:=(ha.2.2.2.2.2.2.2.1 hq.2).2 h86
 have h870:gI (pc B k) 87=0:=h87.trans h88
 have hr:=ha.1
 unfold RS at hr
 have h19:gI (pc B k) 19=0∨gI (pc B k) 19=1:=by omega
 obtain⟨h26,h28⟩:=hr.2 (by omega) (by omega)
 have hp:gT B k=(false,B):=h.2.2.2 k 5 hk (by decide)
 unfold gT at hp
 rw[gN (by decide),cM (by decide),cM (by decide),h26,h28]at hp
 have h20:gI (pc B k) 20=0:=by
  rcases hP with h|h|h
  ·exact h.1
  ·rw[h.1]at hp
   simp at hp
  ·rw[h]at hp
   simp at hp
 rcases hP with h|h|h
 ·exact⟨⟨h2,y1,y2,h86,h870,h88⟩,h.2.1,h28,h.2.2⟩
 ·omega
 ·omega
end Go.Proofs.YtpanapepcbbagaaGreat
