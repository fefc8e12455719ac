/- Part 6 of what BridgeRests stands on. No statement is proved here. -/
import Derived.Test.YtpanapepcbbagaaGreatBxe
set_option linter.unusedVariables false
set_option linter.unusedSimpArgs false
set_option maxRecDepth 100000
set_option maxHeartbeats 8000000
namespace Go.Proofs.YtpanapepcbbagaaGreat
open Go.RowKit Go.BigFrame Go.WideShapes Go.ChangeShapes Go.Deep
theorem rS{n M:Nat}{s:Nat→Nat}{B:Br}(hK:KI n M s B)(h:∀i,i<n→gB (pc B i) 43=false):gA B=(false,B):=by
 have h43:∀i,i<B.np→B.gb i 43=false:=fun i hi=>(cM (by decide)).trans (h i (by rw[←hK.np];exact hi))
 unfold gA
 rw[rP B.np h43,aFC hK.ok h43]
 rfl
theorem tB{N:Nat→Prop}{X g n M:Nat}{s:Nat→Nat}{p:Nat→Pc→Prop}{q:Pc→Prop}{E:Nat→Br→Prop}(hp:Ph p)(hn:n≤5)(hn0:0<n)(hM:M≤900000000)(hq:∀c,q c→AI c)(hs:∀B,KI n M s B→(∀i,i<n→q (pc B i))→(gA B).1=true→(∀i,i<n→SeR (pc B i) (pc (gA B).2 i))→∀i,i<n→p 0 (pc (gA B).2 i))(hsn:∀c,q c→gB c 43=false→p 0 c)(hE0:∀B,(∀i,i<n→q (pc B i))→KI n M s B→E 0 B→E (gA B).1.toNat (gA B).2)(hE:∀M k j c B,KI n M s B→k<n→j<8→PJ p n k j B→E c B→E (c+(fF j B k).1.toNat) (fF j B k).2):
    Rel N X g n (fun B=>KI n M s B∧(∀i,i<n→q (pc B i))∧E 0 B) (fun k j c B=>k≤n∧KI n (M+8*k+j) s B∧PJ p n k j B∧(c=0→gA B=(false,B)∧NS n k j B)∧E c B):=by
 refine⟨fun B h=>⟨h.1.ok,h.1.np⟩,fun B w hQ hS h=>?_,fun k j c B w hQ hk hj hJ h=>?_,fun k c B hk hJ=>?_,fun k c B hJ=>⟨hJ.2.1.ok,hJ.2.1.np⟩⟩
 ·obtain ⟨hK,hA,hE1⟩:=hS
  have hR:∀k,k<B.np→0≤B.gi k 78∧B.gi k 78≤65535:=fun k hk=>by
   have:=hK.pt k (by rw[←hK.np];exact hk)
   unfold PI at this
   omega
  have h0:=hE0 B hA hK hE1
  refine(o6 w _ X g B h hK.ok (by rw[hK.np];omega) (by rw[hK.np];exact hn0) hR).mono (fun e w' hh=>So.of hh ⟨by omega,(hK.sel (by omega)).mono (by omega),fun i hi=>⟨fun h=>by omega,fun e=>?_,fun _=>?_⟩,fun hc=>?_,h0⟩)
  all_goals rcases s9 hK.ok hK.np (by omega) hR (fun i hi=>(hq _ (hA i hi)).2.2.1)with ⟨e1,e2⟩|⟨e1,e2⟩
  ·rw[e1]
   exact hsn _ (hA i hi) (e2 i hi)
  ·exact hs B hK hA e1 e2 i hi
  ·rw[e1]
   exact hsn _ (hA i hi) (e2 i hi)
  ·exact hs B hK hA e1 e2 i hi
  ·rw[e1]
   exact⟨e1,fun k' j' _ _ h=>by omega⟩
  ·rw[e1]at hc
   cases hc
 ·obtain ⟨hkn,hK,hP,hN,hc⟩:=hJ
  obtain⟨h1,h2⟩:=qA hn (by omega) hQ hk hj hK h
  refine h2.mono (fun e w' hh=>?_)
  obtain⟨d,B',a1,a2,a3,rfl,rfl⟩:=hh
  refine⟨_,_,a1,a2,a3,hkn,h1.mono (by omega),aAG hp hK hk hj hP,fun hz=>?_,hE _ k j c B hK hk hj hP hc⟩
  have hd:(fF j B k).1=false:=by
   cases h:(fF j B k).1
   ·rfl
   ·rw[h]at hz
    simp at hz
  have e:=aFH hK hk hj (hP.ai hp (by omega) hk) hd
  have hz0:c=0:=by omega
  obtain⟨n1,n2⟩:=hN hz0
  rw[e]
  refine⟨n1,fun k' j' a b h=>?_⟩
  by_cases hh:k'=k∧j'=j
  ·rw[hh.1,hh.2];exact e
  ·exact n2 k' j' a b (by omega)
 ·obtain⟨hkn,hK,hP,hN,hc⟩:=hJ
  refine⟨by omega,hK.mono (by omega),hP.next,fun hz=>?_,hc⟩
  obtain⟨n1,n2⟩:=hN hz
  exact⟨n1,fun k' j' a b h=>n2 k' j' a b (by omega)⟩
def p1(j:Nat):Pc→Prop:=if j=0 then ZZ else if j≤3 then Z1 else AY
def p2(j:Nat):Pc→Prop:=if j≤3 then AQ else VV
def p3(j:Nat):Pc→Prop:=if j≤3 then AD else if j=4 then UU else WW
def p4(_:Nat):Pc→Prop:=WW
theorem j9{j:Nat}(h:j≤8):j=0∨j=1∨j=2∨j=3∨j=4∨j=5∨j=6∨j=7∨j=8:=by omega
theorem ph1:Ph p1:=by
 refine⟨fun j hj=>?_,fun j hj=>?_,fun c d h h2=>aLW h h2,fun j c hj=>?_,fun c d h h2=>aKD h h2,fun c d e h h44 h50 h2=>(vP h.1 h.2 h44 h50 h2).1,fun c h _=>h⟩
 ·rcases j9 hj with rfl|rfl|rfl|rfl|rfl|rfl|rfl|rfl|rfl
  ·exact dD.2.2.2.2.1
  ·exact dD.2.2.2.2.2.1
  ·exact dD.2.2.2.2.2.1
  ·exact dD.2.2.2.2.2.1
  all_goals exact aFE
 ·rcases j9 hj with rfl|rfl|rfl|rfl|rfl|rfl|rfl|rfl|rfl<;>exact fun c h=>h.1
 ·rcases hj with rfl|rfl|rfl|rfl|rfl<;>exact id
theorem ph2:Ph p2:=by
 refine⟨fun j hj=>?_,fun j hj=>?_,fun c d h h2=>oS rR h.2.1 h2 h,fun j c hj=>?_,fun c d h h2=>aKE h h2,fun c d e h h44 h50 h2=>?_,fun c h _=>h⟩
 ·rcases j9 hj with rfl|rfl|rfl|rfl|rfl|rfl|rfl|rfl|rfl
  ·exact rR
  ·exact rR
  ·exact rR
  ·exact rR
  all_goals exact dD.2.2.2.2.2.2.1
 ·rcases j9 hj with rfl|rfl|rfl|rfl|rfl|rfl|rfl|rfl|rfl<;>exact fun c h=>h.1
 ·rcases hj with rfl|rfl|rfl|rfl|rfl<;>exact id
 ·obtain⟨a,b,dd,x⟩:=h
  obtain⟨t1,t2,t3,t4,t5,t6,-⟩:=vP a b h44 h50 h2
  refine⟨t1.1,t1.2,t3 dd,.inl ⟨?_,t5,t4⟩⟩
  rcases x with x|x
  ·rw[t6];exact x.1
  ·rw[x]at h44;cases h44
theorem ph3:Ph p3:=by
 refine⟨fun j hj=>?_,fun j hj=>?_,fun c d h h2=>oS vO h.2.1 h2 h,fun j c hj=>?_,fun c d h h2=>aKF h h2,fun c d e h h44 h50 h2=>?_,fun c h h2=>⟨h,h2 h.2.2.1.2 h.2.2.2.2.1⟩⟩
 ·rcases j9 hj with rfl|rfl|rfl|rfl|rfl|rfl|rfl|rfl|rfl
  ·exact vO
  ·exact vO
  ·exact vO
  ·exact vO
  ·exact dD.2.2.2.2.2.2.2.1
  all_goals exact dD.2.2.2.2.2.2.2.2
 ·rcases j9 hj with rfl|rfl|rfl|rfl|rfl|rfl|rfl|rfl|rfl<;>first|exact fun c h=>h.1|exact fun c h=>h.1.1
 ·rcases hj with rfl|rfl|rfl|rfl|rfl<;>exact id
 ·obtain⟨a,b,q,dd,e50,e18⟩:=h
  obtain⟨t1,t2,t3,t4,t5,t6,t7,t8⟩:=vP a b h44 h50 h2
  exact⟨⟨t1.1,t1.2,t2 q,t3 dd,t4,by rw[t7];exact e18⟩,t8⟩
theorem aKG{c d:Pc}(h:WW c)(h2:InR c d):WW d:=by
 obtain⟨d0,h1,h3⟩:=h2
 have h0:=aFF h
 rcases h3 with ⟨-,rfl⟩|⟨h3,-⟩|⟨h3,-⟩|⟨h3,-⟩|⟨h3,-⟩
 ·exact dD.2.2.2.2.2.2.2.2 _ _ h1 h
 all_goals omega
theorem ph4:Ph p4:=by
 refine⟨fun j hj=>dD.2.2.2.2.2.2.2.2,fun j hj c h=>h.1.1,fun c d h h2=>oS dD.2.2.2.2.2.2.2.2 h.1.2.1 h2 h,fun j c hj h=>h,fun c d h h2=>aKG h h2,fun c d e h h44 h50 h2=>?_,fun c h _=>h⟩
 obtain⟨⟨a,b,q,dd,e50,e18⟩,e87⟩:=h
 obtain⟨t1,t2,t3,t4,t5,t6,t7,t8⟩:=vP a b h44 h50 h2
 exact⟨⟨t1.1,t1.2,t2 q,t3 dd,t4,by rw[t7];exact e18⟩,t8⟩
def oH(f:Nat→Nat):Nat→Nat|0=>0|n+1=>oH f n+f n
theorem aAH{f f':Nat→Nat}{k e:Nat}:∀n,(∀i,i<n→i≠k→f' i≤f i+e)→(k<n→oH f' n+f k≤oH f n+f' k+e*(n - 1))∧(n≤k→oH f' n≤oH f n+e*n)
 | 0,_=>⟨fun h=>absurd h (by omega),fun _=>Nat.le_refl _⟩
 | n+1,h=>by
  obtain⟨a,b⟩:=aAH n (fun i hi hk=>h i (by omega) hk)
  refine⟨fun hk=>?_,fun hk=>?_⟩
  ·show oH f' n+f' n+f k≤oH f n+f n+f' k+e*n
   by_cases e1:k=n
   ·subst e1
    have:=b (Nat.le_refl _)
    omega
   ·have h1:=a (by omega)
    have h2:=h n (by omega) (fun h=>e1 h.symm)
    have h3:e*(n - 1)+e=e*n:=by
     obtain⟨m,rfl⟩:∃m,n=m+1:=⟨n - 1,by omega⟩
     rw[Nat.add_sub_cancel,Nat.mul_succ]
    omega
  ·show oH f' n+f' n≤oH f n+f n+e*(n+1)
   have h1:=b (by omega)
   have h2:=h n (by omega) (by omega)
   rw[Nat.mul_succ]
   omega
def Phi(n:Nat)(B:Br):Nat:=oH (fun i=>fz (pc B i)) n
theorem hO{n k e d:Nat}{B C:Br}(hn:n≤5)(hk:k<n)(ho:∀i,i<n→i≠k→fz (pc C i)≤fz (pc B i)+e)(hd:fz (pc C k)+d≤fz (pc B k))(h:4*e+1≤d):Phi n C+1≤Phi n B:=by
 have h1:=(aAH (f:=fun i=>fz (pc B i)) (f':=fun i=>fz (pc C i)) (k:=k) (e:=e) n ho).1 hk
 have h2:e*(n - 1)≤e*4:=Nat.mul_le_mul_left e (by omega)
 unfold Phi
 omega
theorem aLX{c:Pc}(h:0≤gI c 14):fz c≤161:=by
 have b:=bt1
 have h1:fm c≤2:=by unfold fm;(repeat' split)<;>omega
 have h2:fe c≤2:=by
  have:=b (fea c)
  unfold fe
  (repeat' split)<;>omega
 have h3:fs c≤113:=by
  have:=b (gB c 46);have:=b (gB c 42);have:=b (!gB c 47);have:=b (gI c 7 != 20);have:=b (gI c 7 != wt c);have:=b (gB c 33);have:=b (!gB c 22);have:=b (gI c 87 == 2 && gI c 10 != 4);have:=b (!gB c 26 && !gB c 42);have:=b (gI c 12 != 15);have:=b (!gB c 34);have:=b (gB c 46 && !gB c 47 && (gB c 28 || gB c 26));have:=b (gB c 42 && gI c 12 != 0 && (gB c 28 || gB c 26));have:=b (gB c 24)
  unfold fs
  (repeat' split)<;>omega
 have h4:=zY c
 have h5:ft c≤33:=by
  have:=b (gB c 25);have:=b (gB c 49);have:=b (gB c 39);have:=b (gB c 41);have:=b (gB c 40)
  unfold ft
  (repeat' split)<;>omega
 have h6:fx c≤7:=by
  have:=b (gI c 8 == 0)
  unfold fx
  omega
 unfold fz
 omega
theorem aKH{n M:Nat}{s:Nat→Nat}{B:Br}(hK:KI n M s B)(hn:n≤5):Phi n B≤805:=by
 have h:∀m,m≤n→oH (fun i=>fz (pc B i)) m≤161*m:=fun m=>by
  induction m with
  | zero=>intro _;exact Nat.le_refl _
  | succ m ih =>
   intro h
   have h1:=ih (by omega)
   have h2:fz (pc B m)≤161:=aLX (by
    rw[←gN (by decide)]
    exact(hK.pt m (by omega)).1.1)
   show oH _ m+fz (pc B m)≤_
   omega
 have:=h n (Nat.le_refl _)
 unfold Phi
 omega
theorem aKI{c:Pc}(h:WW c):EY c:=by
 obtain⟨⟨ha,⟨y1,y2,y3,y4⟩,hq,hd,h50,h18⟩,h87⟩:=h
 intro h2
 refine⟨y4 h2,?_⟩
 have h86:=y3.2 h2
 have h88:=(ha.2.2.2.2.2.2.2.1 hq.2).2 h86
 unfold kY
 rw[h87,h88]
 rfl
theorem aFJ{n M k j c P:Nat}{s:Nat→Nat}{B:Br}(hn:n≤5)(hK:KI n M s B)(hk:k<n)(hj:j<8)(hP:PJ p4 n k j B)(hE:Phi n B+c≤P):Phi n (fF j B k).2+(c+(fF j B k).1.toNat)≤P:=by
 have hkp:k<B.np:=by rw[hK.np];exact hk
 have hl:=mT hK.ok hkp
 have own:WW (pc B k):=(hP k hk).2.1 rfl
 have ha:=own.1.1
 cases hd:(fF j B k).1
 ·rw[aFH hK hk hj ha hd]
  exact hE
 ·have key:Phi n (fF j B k).2+1≤Phi n B:=by
   have same:∀{C:Br},(∀i,i≠k→pc C i=pc B i)→∀i,i<n→i≠k→fz (pc C i)≤fz (pc B i)+0:=fun h i _ hi=>by rw[h i hi];exact Nat.le_refl _
   rcases(by omega:j=0∨j=1∨j=2∨j=3∨j=4∨j=5∨j=6∨j=7)with rfl|rfl|rfl|rfl|rfl|rfl|rfl|rfl
   ·exfalso
    have h0:=aIT own.1.2.1
    have e:tD B k=(false,B):=by
     unfold tD rxS
     rw[cM (by decide),cM (by decide),cM (by decide),gN (by decide),gN (by decide),h0]
     rfl
    rw[show fF 0 B k=tD B k from rfl,e]at hd
    cases hd
   ·have h:=sZ hl
    exact hO (d:=1) hn hk (same (h.core (fun h=>h.1)).2) (h.own hd).2 (by omega)
   ·have h:=pX hl
    exact hO (d:=1) hn hk (same (h.core (fun h=>h.1)).2) ((h.own hd).2 (aKI own)) (by omega)
   ·exact absurd (aFF own) ((s8 hK.ok hkp (hK.timR hk)).2.1 hd)
   ·rcases yK hK.ok hkp hK.hs.2.1 hK.hs.2.2.1 hK.hs.2.2.2.1 ha.2.1 with e|⟨-,⟨h1,h2⟩|⟨h1,h2⟩⟩
    ·rw[show fF 4 B k=oM B k from rfl,e]at hd
     cases hd
    ·exact hO (d:=1) hn hk (same h2) (h1.eq own.2.symm).2 (by omega)
    ·refine hO (e:=10) hn hk (fun i _ hi=>?_) (h1.eq own.2.symm).2 (by omega)
     rcases h2 i hi with h|h
     ·show fz (pc (oM B k).2 i)≤_
      rw[h]
      omega
     ·exact(aE1 h).2
   ·have h:=s5 hl
    exact hO (d:=1) hn hk (same (h.core (fun h=>h.1)).2) (h.own hd).2 (by omega)
   ·rcases s7 hK.ok hkp (yQ ha)with h|⟨-,h1,h2⟩
    ·exact hO (d:=1) hn hk (same (h.core (fun h=>h.1)).2) (h.own hd).2 (by omega)
    ·refine hO (e:=2) hn hk (fun i _ hi=>?_) h1.2 (by omega)
     rcases h2 i hi with h|h
     ·show fz (pc (jN B k).2 i)≤_
      rw[h]
      omega
     ·exact(zV h).2
   ·have h:=yH hl hK.hs.2.2.1 hK.hs.2.2.2.2
    exact hO (d:=1) hn hk (same (h.core (fun h=>h.1)).2) (h.own hd).2 (by omega)
  show _+(c+1)≤P
  omega
structure Keeps (n:Nat) (s:Nat→Nat) (I:Br→Prop):Prop where
 sel:∀M B,KI n M s B→(∀i,i<n→AI (pc B i))→I B→I (gA B).2
 st:∀M k j B,KI n M s B→k<n→j<8→(∀i,i<n→AI (pc B i))→I B→I (fF j B k).2
def SR(n:Nat)(s:Nat→Nat)(M:Nat)(f:Nat)(I:Br→Prop)(r:Nat)(B:Br):Prop:=r≤1000∧KI n (M+40*r) s B∧(r+f=0→∀i,i<n→ZZ (pc B i))∧(r+f=1→∀i,i<n→AY (pc B i))∧(r+f=2→∀i,i<n→VV (pc B i))∧(3≤r+f→(∀i,i<n→WW (pc B i))∧Phi n B+r+f≤808)∧I B
def AtRest(n:Nat)(s:Nat→Nat)(M:Nat)(B:Br):Prop:=KI n M s B∧(∀i,i<n→AY (pc B i))∧gA B=(false,B)∧∀k j,k<n→j<8→fF j B k=(false,B)
theorem oT{n M k:Nat}{s:Nat→Nat}{p:Nat→Pc→Prop}{B:Br}(hM:KI n M s B)(hP:PJ p n n 0 B)(hy:∀c,p 8 c→AY c)(hN:gA B=(false,B)∧NS n n 0 B):AtRest n s M B :=
 ⟨hM,fun i hi=>hy _ ((hP i hi).1 hi),hN.1,fun k j a b=>hN.2 k j a b (.inl a)⟩
theorem rT{N:Nat→Prop}{X g n M:Nat}{s:Nat→Nat}{I:Br→Prop}(hI:Keeps n s I){f:Nat}(hf:f≤1)(hn:n≤5)(hn0:0<n)(hM:M≤800000000)(B:Br)(w:World)(hQ:∀n,w.heap.size≤n→N n)(h:WB N X g B w)(hK:KI n M s B)(h0:f=0→∀i,i<n→ZZ (pc B i))(h1:f=1→∀i,i<n→AY (pc B i))(hIB:I B):
    Calls Tryz.prog 17 #[.pointer (some ⟨X,0,none⟩)] w fun e w'=>∃(k:Nat) (B':Br),e=.returned (.tuple #[.int .i64 (k:Int),.bool true])∧WB N X g B' w'∧Mut (fun n=>N n) w w'∧AtRest n s (M+50000) B'∧I B':=by
 refine(aAB (n:=n) (SR n s M f I) (fun B=>AtRest n s (M+50000) B∧I B) w hQ B h ⟨by omega,hK,fun e=>h0 (by omega),fun e=>h1 (by omega),fun e=>by omega,fun e=>by omega,hIB⟩ (fun r C w hQ hr hS hw=>?_)).mono ?_
 ·obtain ⟨-,hK,z0,z1,z2,z3,hIC⟩:=hS
  have no:∀{B:Br},KI n (M+40*r) s B→(∀i,i<n→QQ (pc B i))→gA B=(false,B):=fun hK h=>rS hK (fun i hi=>(h i hi).1)
  rcases(by omega:r+f=0∨r+f=1∨r+f=2∨3≤r+f)with e|e|e|e
  ·refine (iT (tB (M:=M+40*r) (p:=p1) (q:=ZZ) (E:=fun _ B=>I B) ph1 hn hn0 (by omega) (fun c h=>h.1) (fun B hK h h2=>?_) (fun c h _=>h) (fun B h hK hE=>hI.sel _ B hK (fun i hi=>(h i hi).1) hE) (fun M' k j c B hK hk hj hP hE=>hI.st _ k j B hK hk hj (fun i hi=>hP.ai ph1 (by omega) hi) hE)) hn hn0 C w hQ hw ⟨hK,z0 e,hIC⟩).mono ?_
   ·rw[no hK (fun i hi=>(h i hi).2.1)]at h2
    cases h2
   ·rintro e' w' ⟨c,B',hc,he,hB,hm,-,hK',hP,hN,hIB'⟩
    exact⟨c,B',hc,he,hB,hm,fun h=>⟨oT (k:=0) (hK'.mono (by omega)) hP (fun c h=>h) (hN h),hIB'⟩,fun h=>⟨by omega,hK'.mono (by omega),fun e=>by omega,fun _ i hi=>(hP i hi).1 hi,fun e=>by omega,fun e=>by omega,hIB'⟩⟩
  ·refine(iT (tB (M:=M+40*r) (p:=p2) (q:=AY) (E:=fun _ B=>I B) ph2 hn hn0 (by omega) (fun c h=>h.1) (fun B hK h h2 h3 i hi=>(yP (h i hi).1 (h i hi).2 (h3 i hi)).1) (fun c h h2=>⟨h.1,h.2,aFG h.1 h2⟩) (fun B h hK hE=>hI.sel _ B hK (fun i hi=>(h i hi).1) hE) (fun M' k j c B hK hk hj hP hE=>hI.st _ k j B hK hk hj (fun i hi=>hP.ai ph2 (by omega) hi) hE)) hn hn0 C w hQ hw ⟨hK,z1 e,hIC⟩).mono ?_
   rintro e' w' ⟨c,B',hc,he,hB,hm,-,hK',hP,hN,hIB'⟩
   exact⟨c,B',hc,he,hB,hm,fun h=>⟨oT (k:=0) (hK'.mono (by omega)) hP (fun c h=>⟨h.1,h.2.1⟩) (hN h),hIB'⟩,fun h=>⟨by omega,hK'.mono (by omega),fun e=>by omega,fun e=>by omega,fun _ i hi=>(hP i hi).1 hi,fun e=>by omega,hIB'⟩⟩
  ·refine (iT (tB (M:=M+40*r) (p:=p3) (q:=VV) (E:=fun _ B=>I B) ph3 hn hn0 (by omega) (fun c h=>h.1) (fun B hK h h2 h3 i hi=>?_) (fun c h h2=>⟨h.1,h.2.1,aFG h.1 h2,h.2.2.1⟩) (fun B h hK hE=>hI.sel _ B hK (fun i hi=>(h i hi).1) hE) (fun M' k j c B hK hk hj hP hE=>hI.st _ k j B hK hk hj (fun i hi=>hP.ai ph3 (by omega) hi) hE)) hn hn0 C w hQ hw ⟨hK,z2 e,hIC⟩).mono ?_
   ·obtain⟨a,b⟩:=yP (h i hi).1 (h i hi).2.1 (h3 i hi)
    exact⟨a.1,a.2.1,a.2.2,b (h i hi).2.2.1⟩
   ·rintro e' w' ⟨c,B',hc,he,hB,hm,-,hK',hP,hN,hIB'⟩
    refine⟨c,B',hc,he,hB,hm,fun h=>⟨oT (k:=0) (hK'.mono (by omega)) hP (fun c h=>⟨h.1.1,h.1.2.1⟩) (hN h),hIB'⟩,fun h=>⟨by omega,hK'.mono (by omega),fun e=>by omega,fun e=>by omega,fun e=>by omega,fun _=>⟨fun i hi=>(hP i hi).1 hi,?_⟩,hIB'⟩⟩
    have:=aKH hK' hn
    omega
  ·obtain ⟨hW,hE⟩:=z3 e
   refine(iT (tB (M:=M+40*r) (p:=p4) (q:=WW) (E:=fun c B=>I B∧Phi n B+c≤808 - (r+f)) ph4 hn hn0 (by omega) (fun c h=>h.1.1) (fun B hK h h2=>?_) (fun c h _=>h) (fun B h hK hE=>⟨hI.sel _ B hK (fun i hi=>(h i hi).1.1) hE.1,?_⟩) (fun M' k j c B hK hk hj hP hE=>⟨hI.st _ k j B hK hk hj (fun i hi=>hP.ai ph4 (by omega) hi) hE.1,aFJ hn hK hk hj hP hE.2⟩)) hn hn0 C w hQ hw ⟨hK,hW,hIC,by omega⟩).mono ?_
   ·rw[no hK (fun i hi=>(h i hi).1.2.2.1)]at h2
    cases h2
   ·rw[no hK (fun i hi=>(h i hi).1.2.2.1)]
    exact hE.2
   ·rintro e' w' ⟨c,B',hc,he,hB,hm,-,hK',hP,hN,hIB',hE'⟩
    exact⟨c,B',hc,he,hB,hm,fun h=>⟨oT (k:=0) (hK'.mono (by omega)) hP (fun c h=>⟨h.1.1,h.1.2.1⟩) (hN h),hIB'⟩,fun h=>⟨by omega,hK'.mono (by omega),fun e=>by omega,fun e=>by omega,fun e=>by omega,fun _=>⟨fun i hi=>(hP i hi).1 hi,by omega⟩,hIB'⟩⟩
 ·rintro e w' ⟨k,d,B',he,hB,hm,h1,h2⟩
  cases d
  ·obtain⟨-,-,-,-,-,h3,-⟩:=h2 rfl
   have:=(h3 (by omega)).2
   omega
  ·exact⟨k,B',he,hB,hm,h1 rfl⟩
def AR(n:Nat)(s:Nat→Nat)(M:Nat)(C:Br)(B:Br):Prop:=AtRest n s M B∧B=C
theorem aFK{N:Nat→Prop}{X g n M:Nat}{s:Nat→Nat}{C:Br}(hn:n≤5)(hn0:0<n)(hM:M≤900000000):Rel N X g n (AR n s M C) (fun k _ c B=>c=0∧k≤n∧AR n s M C B):=by
 refine⟨fun B h=>⟨h.1.1.ok,h.1.1.np⟩,fun B w hQ hS h=>?_,fun k j c B w hQ hk hj hJ h=>?_,fun k c B hk hJ=>⟨hJ.1,by omega,hJ.2.2⟩,fun k c B hJ=>⟨hJ.2.2.1.1.ok,hJ.2.2.1.1.np⟩⟩
 ·have hK:=hS.1.1
  have e:=hS.1.2.2.1
  refine(o6 w _ X g B h hK.ok (by rw[hK.np];omega) (by rw[hK.np];exact hn0) (fun k hk=>?_)).mono (fun e' w' hh=>So.of (by rw[e]at hh;exact hh) ⟨rfl,by omega,hS⟩)
  have:=hK.pt k (by rw[←hK.np];exact hk)
  unfold PI at this
  omega
 ·obtain⟨rfl,hkn,hS⟩:=hJ
  obtain⟨-,h2⟩:=qA hn (by omega) hQ hk hj hS.1.1 h
  refine h2.mono (fun e w' hh=>?_)
  obtain⟨d,B',a1,a2,a3,rfl,rfl⟩:=hh
  rw[hS.1.2.2.2 k j hk hj]at a1 a2
  exact⟨_,_,a1,a2,a3,rfl,hkn,hS⟩
theorem aCL{N:Nat→Prop}{X g n M:Nat}{s:Nat→Nat}(hn:n≤5)(hn0:0<n)(hM:M≤800000000)(B:Br)(w:World)(hQ:∀n,w.heap.size≤n→N n)(h:WB N X g B w)(hR:AtRest n s M B):
    Calls Tryz.prog 17 #[.pointer (some ⟨X,0,none⟩)] w fun e w'=>∃k:Nat,e=.returned (.tuple #[.int .i64 (k:Int),.bool true])∧k=0∧WB N X g B w'∧Mut (fun n=>N n) w w':=by
 refine(vM (n:=n) (fun r B'=>r=0∧AR n s M B B') (fun B'=>B'=B) w hQ B h ⟨rfl,hR,rfl⟩ (fun r C w hQ hr hS hw=>?_)).mono ?_
 ·refine(iT (aFK (M:=M) hn hn0 (by omega)) hn hn0 C w hQ hw hS.2).mono ?_
  rintro e w' ⟨c,B',hc,he,hB,hm,h0,-,h1⟩
  exact⟨c,B',hc,he,hB,hm,fun _=>h1.2,fun h=>absurd h0 h⟩
 ·rintro e w' ⟨k,d,B',he,hB,hm,h1,h2,h3⟩
  have hk:k=0:=h3.elim id (fun⟨_,h,_⟩=>absurd h (by decide))
  cases d
  ·exact absurd (h2 rfl).1 (by decide)
  ·obtain rfl:=h1 rfl
   exact⟨k,he,hk,hB,hm⟩
theorem AtRest.ww{n M k:Nat}{s:Nat→Nat}{B:Br}(hn:n<1000)(h:AtRest n s M B)(hk:k<n):WW (pc B k)∧gB (pc B k) 25=false:=by
 obtain⟨hK,hA,hs,hf⟩:=h
 have hkp:k<B.np:=by rw[hK.np];exact hk
 obtain⟨ha,hy⟩:=hA k hk
 have hR:∀k,k<B.np→0≤B.gi k 78∧B.gi k 78≤65535:=fun k hk=>by
  have:=hK.pt k (by rw[←hK.np];exact hk)
  unfold PI at this
  omega
 have h43:gB (pc B k) 43=false:=by
  rcases s9 hK.ok hK.np hn hR (fun i hi=>(hA i hi).1.2.2.1)with ⟨-,e⟩|⟨e,-⟩
  ·exact e k hk
  ·rw[hs]at e;cases e
 have hq:=aFG ha h43
 have h0:eX (pc B k)=0:=((s8 hK.ok hkp (hK.timR hk)).1 (by rw[show mJ B k=fF 3 B k from rfl,hf k 3 hk (by decide)])).2
 have h1:=tA h0
 have h50:gB (pc B k) 50=false:=by
  unfold AI at ha
  unfold QQ at hq
  grind
 have h87:=aAE ha.2.1 (by rw[show oM B k=fF 4 B k from rfl,hf k 4 hk (by decide)]) hq.2 h50
 have h25:gB (pc B k) 25=false:=by
  cases h:gB (pc B k) 25
  ·rfl
  ·have e:=aHS (B:=B) (k:=k) ((cM (by decide)).trans h)
   rw[show jN B k=fF 6 B k from rfl,hf k 6 hk (by decide)]at e
   cases congrArg Prod.fst e
 refine⟨⟨⟨ha,hy,hq,?_,h50,?_⟩,h87⟩,h25⟩
 ·unfold DD
  unfold AI at ha
  unfold YY at hy
  grind
 ·unfold AI at ha
  unfold QQ at hq
  grind
def okv(k:Option IntKind)(v:Value):Bool:=match k,v with
 | none,.bool _=>true
 | some q,.int p z=>(p == q) && (Lit.int q z).wf
 | _,_=>false
def okl:List (Option IntKind)→List Value→Bool
 | [],[]=>true
 | k :: l,v :: cs=>okv k v && okl l cs
 | _,_=>false
def part(B:Br):Nat→Nat × Br
 | 0=>((gA B).1.toNat,(gA B).2)
 | j+1=>((part B j).1+(fF j (part B j).2 0).1.toNat,(fF j (part B j).2 0).2)
def PtJ(M:Nat)(C:Br)(k j c:Nat)(B:Br):Prop:=k≤1∧KI 1 (M+8*k+j) (fun _=>0) B∧(c,B)=part C (8*k+j)
theorem aLY{N:Nat→Prop}{X g M:Nat}{C:Br}(hM:M≤900000000):Rel N X g 1 (fun B=>KI 1 M (fun _=>0) B∧B=C) (PtJ M C):=by
 refine⟨fun B h=>⟨h.1.ok,h.1.np⟩,fun B w hQ hS h=>?_,fun k j c B w hQ hk hj hJ h=>?_,fun k c B hk hJ=>?_,fun k c B hJ=>⟨hJ.2.1.ok,hJ.2.1.np⟩⟩
 ·obtain⟨hK,rfl⟩:=hS
  refine(o6 w _ X g B h hK.ok (by rw[hK.np];omega) (by rw[hK.np];decide) (fun k hk=>?_)).mono (fun e w' hh=>So.of hh ⟨by omega,(hK.sel (by omega)).mono (by omega),rfl⟩)
  have:=hK.pt k (by rw[←hK.np];exact hk)
  unfold PI at this
  omega
 ·obtain⟨-,hK,hc⟩:=hJ
  obtain rfl:k=0:=by omega
  obtain⟨h1,h2⟩:=qA (by decide) (by omega) hQ hk hj hK h
  refine h2.mono (fun e w' hh=>?_)
  obtain⟨d,B',a1,a2,a3,rfl,rfl⟩:=hh
  refine⟨_,_,a1,a2,a3,by omega,h1.mono (by omega),?_⟩
  rw[show 8*0+(j+1)=(8*0+j)+1 from by omega]
  unfold part
  rw[←hc,show 8*0+j=j from by omega]
 ·obtain⟨-,hK,hc⟩:=hJ
  obtain rfl:k=0:=by omega
  exact⟨by omega,hK.mono (by omega),hc⟩
def aCM(B:Br)(l:List (Nat × Value)):Br:={ B with ps:=l.foldl (fun p x=>p.set x.1 x.2) B.ps }
def zd:Br:=NB true [⟨1,5,false,true,false⟩]
def z0:Br:=zd.setp 0 2 (.bool true)
def z1:Br:={ aCM z0 [(18,.int .i64 1),(25,.bool false),(73,.int .u64 7),(75,.int .u64 7),(76,.int .u16 1),(83,.int .i64 20),(84,.int .i64 2),(85,.int .i64 15),(86,.int .i64 1)]with nf:=1,fl:=[.int .i64 0] }
def z2:Br:={ aCM z1 [(14,.int .i64 1),(18,.int .i64 2),(19,.int .i64 3),(31,.bool false),(43,.bool false),(44,.bool true),(68,.int .u64 7),(70,.int .u64 7),(71,.int .u16 1),(79,.int .i64 20),(80,.int .i64 2),(81,.int .i64 15),(86,.int .i64 2),(87,.int .i64 4),(88,.int .i64 4)]with no:=1,os:=[.int .i64 0,.int .i64 2,.bool false,.bool false,.bool false,.bool false,.bool false,.bool false,.int .i64 4,.int .u64 7,.int .u32 0,.int .u64 7,.int .u16 1,.int .u16 0,.int .i64 0,.int .i64 20,.int .i64 2,.int .i64 15] }
def z3:Br:=aCM z2 [(12,.int .i64 0),(46,.bool false),(47,.bool true)]
def z4:Br:=aCM z3 [(42,.bool false)]
def z5:Br:=aCM z4 [(7,.int .i64 2),(20,.int .i64 1),(21,.int .i64 1),(28,.bool true),(29,.bool true)]
def z6:Br:=aCM z5 [(7,.int .i64 0),(20,.int .i64 2),(23,.bool true),(26,.bool true),(27,.bool true)]
def zs:Nat→Br|0=>z0|1=>z1|2=>z2|3=>z3|4=>z4|5=>z5|_=>z6
theorem pt_0:part (zs 0) 8=(3,zs 1):=by kernel_rfl
theorem pt_1:part (zs 1) 8=(4,zs 2):=by kernel_rfl
theorem pt_2:part (zs 2) 8=(1,zs 3):=by kernel_rfl
theorem pt_3:part (zs 3) 8=(1,zs 4):=by kernel_rfl
theorem pt_4:part (zs 4) 8=(3,zs 5):=by kernel_rfl
theorem pt_5:part (zs 5) 8=(2,zs 6):=by kernel_rfl
theorem pt_6:part (zs 6) 8=(0,zs 6):=by kernel_rfl
theorem aHU{r:Nat}(hr:r≤6){c:Nat}{B:Br}(h:(c,B)=part (zs r) 8):(c=0→B=zs 6)∧(c≠0→r<6∧B=zs (r+1)):=by
 rcases(by omega:r=0∨r=1∨r=2∨r=3∨r=4∨r=5∨r=6)with rfl|rfl|rfl|rfl|rfl|rfl|rfl
 ·rw[pt_0]at h;cases h;exact⟨fun h=>absurd h (by decide),fun _=>⟨by decide,rfl⟩⟩
 ·rw[pt_1]at h;cases h;exact⟨fun h=>absurd h (by decide),fun _=>⟨by decide,rfl⟩⟩
 ·rw[pt_2]at h;cases h;exact⟨fun h=>absurd h (by decide),fun _=>⟨by decide,rfl⟩⟩
 ·rw[pt_3]at h;cases h;exact⟨fun h=>absurd h (by decide),fun _=>⟨by decide,rfl⟩⟩
 ·rw[pt_4]at h;cases h;exact⟨fun h=>absurd h (by decide),fun _=>⟨by decide,rfl⟩⟩
 ·rw[pt_5]at h;cases h;exact⟨fun h=>absurd h (by decide),fun _=>⟨by decide,rfl⟩⟩
 ·rw[pt_6]at h;cases h;exact⟨fun _=>rfl,fun h=>absurd rfl h⟩
theorem zd_ki:KI 1 0 (fun _=>0) zd:=aIS (fun p hp=>by
 obtain rfl:p=⟨1,5,false,true,false⟩:=by simpa using hp
 exact⟨by decide,by decide,by decide⟩) rfl
theorem aLZ{N:Nat→Prop}{X g:Nat}{w:World}(hQ:∀n,w.heap.size≤n→N n)(h:WB N X g z0 w):Calls Tryz.prog 17 #[.pointer (some ⟨X,0,none⟩)] w fun e w'=>∃k:Nat,e=.returned (.tuple #[.int .i64 (k:Int),.bool true])∧WB N X g (zs 6) w'∧(zs 6).ok∧Mut (fun n=>N n) w w':=by
 refine(aAB (n:=1) (fun r B=>r≤6∧KI 1 (40*r) (fun _=>0) B∧B=zs r) (fun B=>B.ok∧B=zs 6) w hQ z0 h ⟨by omega,zd_ki.en (by decide) true,rfl⟩ (fun r C w hQ hr hS hw=>?_)).mono ?_
 ·obtain⟨hr6,hK,rfl⟩:=hS
  refine(iT (aLY (M:=40*r) (C:=zs r) (by omega)) (by decide) (by decide) _ w hQ hw ⟨hK,rfl⟩).mono ?_
  rintro e w' ⟨c,B',hc,he,hB,hm,-,hK',hJ⟩
  obtain⟨h1,h2⟩:=aHU hr6 hJ
  exact⟨c,B',hc,he,hB,hm,fun h=>⟨hK'.ok,h1 h⟩,fun h=>⟨(h2 h).1,hK'.mono (by omega),(h2 h).2⟩⟩
 ·rintro e w' ⟨k,d,B',he,hB,hm,h1,h2⟩
  cases d
  ·exact absurd (h2 rfl).1 (by decide)
  ·obtain⟨ho,rfl⟩:=h1 rfl
   exact⟨k,he,hB,ho,hm⟩
theorem yR(w:World)(X:Nat){a17:Option Addr}{c17:Nat}(h17:w.cell? ⟨X,17,none⟩=some (.slice a17 0 c17)):Calls Tryz.prog 47 #[.pointer (some ⟨X,0,none⟩)] w fun e w'=>e=.returned (.bool false)∧w=w':=by
 go_enter Tryz.func47,Tryz.ntmps47
 go_wp2_with fail
 refine wp_loop_rounds 1 ?_
 rw[rounds_succ]
 go_wp2_with fail
 go_ret
 exact⟨rfl,rfl⟩
theorem aCN(w:World)(X:Nat){a17:Option Addr}{c17:Nat}(h17:w.cell? ⟨X,17,none⟩=some (.slice a17 0 c17)):Calls Tryz.prog 36 #[.pointer (some ⟨X,0,none⟩)] w fun e w'=>e=.returned (.bool false)∧w=w':=by
 go_enter Tryz.func36,Tryz.ntmps36
 go_wp2_with fail
 refine(yR w X h17).mono ?_
 rintro e w' ⟨rfl,rfl⟩
 go_wp2_with fail
 go_ret
 exact⟨rfl,rfl⟩
theorem yS(w:World)(X:Nat){a17:Option Addr}{c17:Nat}(h17:w.cell? ⟨X,17,none⟩=some (.slice a17 0 c17)):Calls Tryz.prog 26 #[.pointer (some ⟨X,0,none⟩)] w fun e w'=>e=.returned (.int .i64 0)∧w=w':=by
 go_enter Tryz.func26,Tryz.ntmps26
 go_wp2_with fail
 refine(aCN w X h17).mono ?_
 rintro e w' ⟨rfl,rfl⟩
 go_wp2_with fail
 refine wp_loop_rounds 1 ?_
 rw[rounds_succ]
 go_wp2_with fail
 go_ret
 exact⟨rfl,rfl⟩
theorem aFL(w:World)(X:Nat){a17:Option Addr}{c17:Nat}(h17:w.cell? ⟨X,17,none⟩=some (.slice a17 0 c17)):Calls Tryz.prog 17 #[.pointer (some ⟨X,0,none⟩)] w fun e w'=>e=.returned (.tuple #[.int .i64 0,.bool true])∧w=w':=by
 go_enter Tryz.func17,Tryz.ntmps17
 go_wp2_with fail
 refine wp_loop_rounds 1 ?_
 rw[rounds_succ]
 go_wp2_with fail
 refine(yS w X h17).mono ?_
 rintro e w' ⟨rfl,rfl⟩
 go_wp2_with fail
 go_ret2
 exact⟨rfl,rfl⟩
end Go.Proofs.YtpanapepcbbagaaGreat
