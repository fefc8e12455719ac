/- Part 2 of what BridgeRests stands on. No statement is proved here. -/
import Derived.Test.YtpanapepcbbagaaGreatBxa
set_option linter.unusedVariables false
set_option linter.unusedSimpArgs false
set_option maxRecDepth 100000
set_option maxHeartbeats 8000000
namespace Go.Proofs.YtpanapepcbbagaaGreat
open Go.RowKit Go.BigFrame Go.WideShapes Go.ChangeShapes Go.Deep
def fm(c:Pc):Nat:=if gI c 16=0 then(if gI c 9=0 then 2 else if gI c 9≠3∧gB c 2=false then 1 else 0)else if gI c 16=2 then 1 else if gI c 16=1 then(if gI c 9=0∨gB c 2=false∨gB c 30=true then 2 else 0)else 0
def fea(c:Pc):Bool:=(!gB c 2 && gB c 4) || gI c 6 == 0
def fe(c:Pc):Nat:=if gI c 17=1 then(fea c).toNat else if gI c 17=0 then(if(!gB c 32 || (!gB c 2 && !gB c 4))=true then 1+(fea c).toNat else 0)else 0
def wt(c:Pc):Int:=if gB c 45=true then 2 else 15
def pW(c:Pc):Nat:=(gB c 28).toNat+(gB c 26).toNat
def fs(c:Pc):Nat:=(gB c 46).toNat+(gB c 42).toNat+(!gB c 47).toNat +
 (if gI c 19=0 then 1+(gI c 7 != 20).toNat else if gI c 19=1 then(gI c 7 != 20).toNat
 else if gI c 19=4 then 1+((gI c 7 != wt c).toNat+51*(gB c 33).toNat+(!gB c 22).toNat+(gI c 87 == 2 && gI c 10 != 4).toNat)
 else if gI c 19=5 then(gI c 7 != wt c).toNat+51*(gB c 33).toNat+(!gB c 22).toNat+(gI c 87 == 2 && gI c 10 != 4).toNat
 else if gI c 19=2 then 51*(gB c 33).toNat+(!gB c 22).toNat+51*(!gB c 26 && !gB c 42).toNat+3*(2 - pW c)+(gI c 12 != 15).toNat
 else if gI c 19=3 then(!gB c 34).toNat+9*(gB c 46 && !gB c 47 && (gB c 28 || gB c 26)).toNat+9*(gB c 42 && gI c 12 != 0 && (gB c 28 || gB c 26)).toNat+9*(gB c 24).toNat+3*(2 - pW c)
 else 0)
def fp(c:Pc):Nat:=if gI c 20=0 then(if gB c 28=true then 1+(gB c 26).toNat else 0)else if gI c 20=1 then(!gB c 28 || gB c 26).toNat else if gI c 20=2 then(if gB c 26=true then 0 else 1+(gB c 28).toNat)else 0
def kY(c:Pc):Bool:=gI c 87 == 3 || gI c 87 == 4
def ft(c:Pc):Nat:=(gB c 25).toNat+2*(gB c 49).toNat+9*(gB c 39).toNat+9*(gB c 41).toNat+(gB c 40).toNat +
 (if gI c 21=0 then(if kY c=true then(if gB c 32=true then 1 else 11)else 0)else if gI c 21=1 then(if kY c=true then(if gB c 32=true then 0 else 10)else 2)else if gI c 21=2 then(if kY c=true then 1 else 3)else 0)
def fx(c:Pc):Nat:=(gI c 8 == 0).toNat+(6 - gI c 14).toNat
def fz(c:Pc):Nat:=2*fm c+fe c+fs c+fp c+ft c+fx c
def eV(c d:Pc):Prop:=∀j,(j=2∨j=6∨j=11∨j=15∨j=18∨j=19∨j=26∨j=28∨j=35∨j=36∨j=43∨j=44∨j=50∨j=86∨j=87∨j=88)→d j=c j
theorem aP{c d:Pc}{j:Nat}{v:Value}(h:eV c d)(hj:¬(j=2∨j=6∨j=11∨j=15∨j=18∨j=19∨j=26∨j=28∨j=35∨j=36∨j=43∨j=44∨j=50∨j=86∨j=87∨j=88):=by decide):eV c (up d j v):=fun x hx=>by
 rw[a5 _ _ (fun e=>hj (by rw[←e];exact hx))]
 exact h x hx
theorem bJ(c:Pc):eV c c:=fun _ _=>rfl
def nN(c d:Pc):Prop:=eV c d∧fz d<fz c
variable {c:Pc} {v:Value} {j:Nat}
theorem cT(h:¬(j=16∨j=9∨j=2∨j=30)):fm (up c j v)=fm c:=by
 simp only[not_or]at h
 simp only[fm,aV,bE,if_neg (Ne.symm h.1),if_neg (Ne.symm h.2.1),if_neg (Ne.symm h.2.2.1),if_neg (Ne.symm h.2.2.2)]
theorem cN(h:¬(j=17∨j=2∨j=4∨j=6∨j=32)):fe (up c j v)=fe c:=by
 simp only[not_or]at h
 simp only[fe,fea,aV,bE,if_neg (Ne.symm h.1),if_neg (Ne.symm h.2.1),if_neg (Ne.symm h.2.2.1),if_neg (Ne.symm h.2.2.2.1),if_neg (Ne.symm h.2.2.2.2)]
theorem eW(h:¬(j=46∨j=42∨j=47∨j=19∨j=7∨j=45∨j=33∨j=22∨j=87∨j=10∨j=26∨j=28∨j=12∨j=34∨j=24)):fs (up c j v)=fs c:=by
 simp only[not_or]at h
 obtain⟨h1,h2,h3,h4,h5,h6,h7,h8,h9,h10,h11,h12,h13,h14,h15⟩:=h
 simp only[fs,wt,pW,aV,bE,if_neg (Ne.symm h1),if_neg (Ne.symm h2),if_neg (Ne.symm h3),if_neg (Ne.symm h4),if_neg (Ne.symm h5),if_neg (Ne.symm h6),if_neg (Ne.symm h7),if_neg (Ne.symm h8),if_neg (Ne.symm h9),if_neg (Ne.symm h10),if_neg (Ne.symm h11),if_neg (Ne.symm h12),if_neg (Ne.symm h13),if_neg (Ne.symm h14),if_neg (Ne.symm h15)]
theorem dG(h:¬(j=20∨j=28∨j=26)):fp (up c j v)=fp c:=by
 simp only[not_or]at h
 simp only[fp,aV,bE,if_neg (Ne.symm h.1),if_neg (Ne.symm h.2.1),if_neg (Ne.symm h.2.2)]
theorem dP(h:¬(j=25∨j=49∨j=39∨j=41∨j=40∨j=21∨j=87∨j=32)):ft (up c j v)=ft c:=by
 simp only[not_or]at h
 obtain⟨h1,h2,h3,h4,h5,h6,h7,h8⟩:=h
 simp only[ft,kY,aV,bE,if_neg (Ne.symm h1),if_neg (Ne.symm h2),if_neg (Ne.symm h3),if_neg (Ne.symm h4),if_neg (Ne.symm h5),if_neg (Ne.symm h6),if_neg (Ne.symm h7),if_neg (Ne.symm h8)]
 rfl
theorem cW(h:¬(j=8∨j=14)):fx (up c j v)=fx c:=by
 simp only[not_or]at h
 simp only[fx,aV,if_neg (Ne.symm h.1),if_neg (Ne.symm h.2)]
theorem bt1(b:Bool):b.toNat≤1:=by cases b<;>decide
theorem aIJ:fs (up c 45 v)≤fs c+1:=by
 have h:=bt1 (gI c 7 != wt (up c 45 v))
 simp only[fs,pW,aV,bE,Nat.reduceEqDiff,if_false]
 split
 ·omega
 split
 ·omega
 split
 ·omega
 split
 ·omega
 omega
def No(_ _:Pc):Prop:=False
theorem sZ{B:Br}{k:Nat}(hk:Lk k B):Did k B (gD B k) nN No:=by
 have e:∀j,j<89→B.gi k j=gI (pc B k) j:=fun j hj=>gN hj
 have b:∀j,j<89→B.gb k j=gB (pc B k) j:=fun j hj=>cM hj
 have l:pc (cX B k) k=up (up (up (pc B k) 37 (.bool false)) 38 (.bool false)) 16 (.int .i64 2):=by
  simp (disch:=first|decide|exact hk|(simp only[bC];exact hk))only[cX,a8]
 have g:pc (dW B k) k=up (up (up (up (pc B k) 30 (.bool false)) 45 (.bool (B.hb 1))) 9 (.int .i64 3)) 16 (.int .i64 0):=by
  simp (disch:=first|decide|exact hk|(simp only[bC];exact hk))only[dW,a8]
 have y:pc (fL B k) k=up (up (up (pc B k) 45 (.bool false)) 9 (.int .i64 3)) 16 (.int .i64 1):=by
  simp (disch:=first|decide|exact hk|(simp only[bC];exact hk))only[fL,a8]
 have l':∀i,i≠k→pc (cX B k) i=pc B i:=fun i hi=>by simp (disch:=first|decide|exact hi)only[cX,aK]
 have g':∀i,i≠k→pc (dW B k) i=pc B i:=fun i hi=>by simp (disch:=first|decide|exact hi)only[dW,aK]
 have y':∀i,i≠k→pc (fL B k) i=pc B i:=fun i hi=>by simp (disch:=first|decide|exact hi)only[fL,aK]
 unfold gD mh1 mh2 mh3 mh4 mh5
 rw[e 16 (by decide),e 9 (by decide),b 2 (by decide),b 30 (by decide),b 37 (by decide),b 45 (by decide),b 38 (by decide)]
 obtain⟨c,hc⟩:∃c,pc B k=c:=⟨_,rfl⟩
 rw[hc]at l g y ⊢
 have L:2≤fm c→Did k B (true,cX B k) nN No:=fun h=>by
  refine .yes ?_ l'
  rw[l,hc]
  refine⟨aP (aP (aP (bJ c))),?_⟩
  have h1:fm (up (up (up c 37 (.bool false)) 38 (.bool false)) 16 (.int .i64 2))=1:=by simp[fm,aV,aA6]
  unfold fz
  rw[h1]
  simp (disch:=decide)only[cN,eW,dG,dP,cW]
  omega
 have G:1≤fm c→Did k B (true,dW B k) nN No:=fun h=>by
  refine .yes ?_ g'
  rw[g,hc]
  refine⟨aP (aP (aP (aP (bJ c)))),?_⟩
  have h1:fm (up (up (up (up c 30 (.bool false)) 45 (.bool (B.hb 1))) 9 (.int .i64 3)) 16 (.int .i64 0))=0:=by simp[fm,aV,aA6]
  have h2:=aIJ (c:=up c 30 (.bool false)) (v:=.bool (B.hb 1))
  unfold fz
  rw[h1]
  simp (disch:=decide)only[cN,eW,dG,dP,cW]at h2 ⊢
  omega
 have Y:1≤fm c→gB c 2=true→gB c 30=false→Did k B (true,fL B k) nN No:=fun h a b=>by
  refine .yes ?_ y'
  rw[y,hc]
  refine⟨aP (aP (aP (bJ c))),?_⟩
  have h1:fm (up (up (up c 45 (.bool false)) 9 (.int .i64 3)) 16 (.int .i64 1))=0:=by simp[fm,aV,bE,aA6,a,b]
  have h2:=aIJ (c:=c) (v:=.bool false)
  unfold fz
  rw[h1]
  simp (disch:=decide)only[cN,eW,dG,dP,cW]at h2 ⊢
  omega
 by_cases h0:gI c 16=0
 ·rw [if_pos h0]
  by_cases h9:gI c 9=0
  ·rw[if_pos (by simp[h9])]
   exact L (by simp[fm,h0,h9])
  ·rw [if_neg (by simp[h9])]
   split
   ·rename_i h
    simp only[bne_iff_ne,Bool.and_eq_true,Bool.not_eq_true',ne_eq]at h
    exact G (by simp[fm,h0,h9,h])
   ·exact .none
 ·rw [if_neg h0]
  by_cases h2:gI c 16=2
  ·rw [if_pos h2]
   have h1:1≤fm c:=by simp[fm,h2]
   split
   ·exact G h1
   ·rename_i h
    split
    ·exact Y h1 (by cases h3:gB c 2<;>simp[h3]at h ⊢) (by cases h3:gB c 30<;>simp[h3]at h ⊢)
    ·exact .none
  ·rw [if_neg h2]
   split
   ·split
    ·rename_i h1 h
     exact L (by
      simp only[Bool.or_eq_true,beq_iff_eq,Bool.not_eq_true']at h
      unfold fm
      rw[if_neg h0,if_neg h2,if_pos h1,if_pos (by rcases h with (h|h)|h<;>simp[h])]
      exact Nat.le_refl 2)
    ·exact .none
   ·exact .none
theorem aIK{b:Bool}(h:kY c=false∨b=true∨b=gB c 32):ft (up c 32 (.bool b))≤ft c:=by
 have e:kY (up c 32 (.bool b))=kY c:=by simp[kY,aV]
 have e2:gB (up c 32 (.bool b)) 32=b:=by simp[bE,aCF]
 unfold ft
 rw[e,e2]
 simp only[bE,aV,Nat.reduceEqDiff,if_false]
 rcases h with h|h|h
 ·simp[h]
 ·subst h
  cases kY c<;>cases gB c 32<;>simp<;>(repeat' split)<;>omega
 ·rw[h]
  exact Nat.le_refl _
def EY(c:Pc):Prop:=gB c 2=false→gI c 6=3∧kY c=false
theorem pX{B:Br}{k:Nat}(hk:Lk k B):Did k B (fM B k) (fun c d=>eV c d∧(EY c→fz d<fz c)) No:=by
 have f:pc (iM B k) k=up (up (pc B k) 32 (.bool false)) 17 (.int .i64 1):=by
  simp (disch:=first|decide|exact hk|(simp only[bC];exact hk))only[iM,a8]
 have o:pc (j6 B k) k=up (up (pc B k) 32 (.bool true)) 17 (.int .i64 0):=by
  simp (disch:=first|decide|exact hk|(simp only[bC];exact hk))only[j6,a8]
 have f':∀i,i≠k→pc (iM B k) i=pc B i:=fun i hi=>by simp (disch:=first|decide|exact hi)only[iM,aK]
 have o':∀i,i≠k→pc (j6 B k) i=pc B i:=fun i hi=>by simp (disch:=first|decide|exact hi)only[j6,aK]
 unfold fM el0 el1
 rw[gN (j:=17) (by decide),gN (j:=6) (by decide),cM (j:=2) (by decide),cM (j:=4) (by decide),cM (j:=5) (by decide),cM (j:=32) (by decide),cM (j:=34) (by decide),cM (j:=45) (by decide)]
 obtain⟨c,hc⟩:∃c,pc B k=c:=⟨_,rfl⟩
 rw[hc]at f o ⊢
 split
 ·rename_i h0
  split
  ·rename_i h
   refine .yes ?_ f'
   rw[f,hc]
   refine⟨aP (aP (bJ c)),fun hY=>?_⟩
   have h1:fe (up (up c 32 (.bool false)) 17 (.int .i64 1))+1≤fe c:=by
    unfold fe
    rw[if_neg (c:=gI c 17=1) (by rw[h0];decide),if_pos h0,if_pos h]
    simp[fea,aV,bE,aA6]
    omega
   have h2:=aIK (c:=c) (b:=false) (by
    cases h2:gB c 2
    ·exact .inl (hY h2).2
    ·rw[h2]at h
     simp at h
     exact .inr (.inr h.symm))
   unfold fz
   simp (disch:=decide)only[cT,eW,dG,dP,cW]at h2 ⊢
   omega
  ·exact .none
 ·rename_i h0
  split
  ·rename_i h1
   split
   ·rename_i h
    refine .yes ?_ o'
    rw[o,hc]
    refine⟨aP (aP (bJ c)),fun hY=>?_⟩
    have h3:fe (up (up c 32 (.bool true)) 17 (.int .i64 0))+1≤fe c:=by
     have ha:fea c=true:=by
      unfold fea
      cases h2:gB c 2<;>rw[h2]at h<;>simp at h ⊢
      ·rcases h with h|h
       ·exact .inl h
       ·exact .inr h.1.1.1
      ·exact h.1.1.1
     unfold fe
     rw[if_pos h1,ha]
     cases h2:gB c 2
     ·have h3:=(hY h2).1
      simp[h2,h3]at h
      simp[aV,bE,aA6,aCF,h2,h]
     ·simp[aV,bE,aA6,aCF,h2]
    have h2:=aIK (c:=c) (b:=true) (.inr (.inl rfl))
    unfold fz
    simp (disch:=decide)only[cT,eW,dG,dP,cW]at h2 ⊢
    omega
   ·exact .none
  ·exact .none
theorem s5{B:Br}{k:Nat}(hk:Lk k B):Did k B (gT B k) nN No:=by
 have l:pc (fN B k) k=up (up (pc B k) 29 (.bool true)) 20 (.int .i64 1):=by
  simp (disch:=first|decide|exact hk|(simp only[bC];exact hk))only[fN,a8]
 have t:pc (fA B k) k=up (up (up (pc B k) 29 (.bool false)) 27 (.bool false)) 20 (.int .i64 0):=by
  simp (disch:=first|decide|exact hk|(simp only[bC];exact hk))only[fA,a8]
 have f:pc (dN B k) k=up (up (pc B k) 27 (.bool true)) 20 (.int .i64 2):=by
  simp (disch:=first|decide|exact hk|(simp only[bC];exact hk))only[dN,a8]
 have l':∀i,i≠k→pc (fN B k) i=pc B i:=fun i hi=>by simp (disch:=first|decide|exact hi)only[fN,aK]
 have t':∀i,i≠k→pc (fA B k) i=pc B i:=fun i hi=>by simp (disch:=first|decide|exact hi)only[fA,aK]
 have f':∀i,i≠k→pc (dN B k) i=pc B i:=fun i hi=>by simp (disch:=first|decide|exact hi)only[dN,aK]
 unfold gT
 rw[gN (j:=20) (by decide),cM (j:=28) (by decide),cM (j:=26) (by decide)]
 obtain⟨c,hc⟩:∃c,pc B k=c:=⟨_,rfl⟩
 rw[hc]at l t f ⊢
 have Z:∀d,eV c d→fp d+1≤fp c→fm d=fm c→fe d=fe c→fs d=fs c→ft d=ft c→fx d=fx c→nN c d:=fun d h h1 h2 h3 h4 h5 h6=>⟨h,by unfold fz;omega⟩
 have L:fp (up (up c 29 (.bool true)) 20 (.int .i64 1))+1≤fp c→Did k B (true,fN B k) nN No:=fun h=>by
  refine .yes ?_ l'
  rw[l,hc]
  refine Z _ (aP (aP (bJ c))) h ?_ ?_ ?_ ?_ ?_<;>simp (disch:=decide)only[cT,cN,eW,dP,cW]
 have T:fp (up (up (up c 29 (.bool false)) 27 (.bool false)) 20 (.int .i64 0))+1≤fp c→Did k B (true,fA B k) nN No:=fun h=>by
  refine .yes ?_ t'
  rw[t,hc]
  refine Z _ (aP (aP (aP (bJ c)))) h ?_ ?_ ?_ ?_ ?_<;>simp (disch:=decide)only[cT,cN,eW,dP,cW]
 have F:fp (up (up c 27 (.bool true)) 20 (.int .i64 2))+1≤fp c→Did k B (true,dN B k) nN No:=fun h=>by
  refine .yes ?_ f'
  rw[f,hc]
  refine Z _ (aP (aP (bJ c))) h ?_ ?_ ?_ ?_ ?_<;>simp (disch:=decide)only[cT,cN,eW,dP,cW]
 repeat' split
 all_goals first|exact .none|skip
 all_goals (first|refine L ?_|refine T ?_|refine F ?_)<;>simp_all[fp,aV,bE,aA6]
 all_goals (cases gB c 26<;>cases gB c 28<;>decide)
theorem yH{B:Br}{k:Nat}(hk:Lk k B)(h4:B.hi 4=2)(h6:B.hi 6=6):Did k B (wC B k) nN No:=by
 have hs:∀kd,Lk k (B.sent k kd):=fun _=>hk
 have ps:∀kd i,pc (B.sent k kd) i=pc B i:=fun _ _=>rfl
 have Z:∀c d,eV c d→fx d+1≤fx c→fm d=fm c→fe d=fe c→fs d=fs c→ft d=ft c→fp d=fp c→nN c d:=fun c d h h1 h2 h3 h4 h5 h6=>⟨h,by unfold fz;omega⟩
 unfold wC
 have s1:kV B k=1→gI (pc B k) 8=0:=fun h=>by
  unfold kV at h
  rw[gN (j:=8) (by decide)]at h
  split at h
  ·cases h
  split at h
  ·assumption
  split at h<;>cases h
 have s2:kV B k=2→gI (pc B k) 8≠0∧gI (pc B k) 14<6:=fun h=>by
  unfold kV at h
  rw[gN (j:=8) (by decide),gN (j:=14) (by decide),h6]at h
  split at h
  ·cases h
  split at h
  ·cases h
  rename_i h8
  split at h
  ·rename_i hc
   simp at hc
   exact⟨h8,hc.2⟩
  ·cases h
 split
 ·rename_i h
  refine .yes ?_ (fun i hi=>?_)
  ·unfold gM
   rw[h4,a8 (by split<;>(try simp only[bC])<;>exact hk) (by decide)]
   split
   ·rw [a8 hk (by decide)]
    refine Z _ _ (aP (aP (bJ _))) ?_ ?_ ?_ ?_ ?_ ?_
    ·simp[fx,aV,aA6,s1 h]
     omega
    all_goals simp (disch:=decide)only[cT,cN,eW,dP,dG]
   ·refine Z _ _ (aP (bJ _)) ?_ ?_ ?_ ?_ ?_ ?_
    ·simp[fx,aV,aA6,s1 h]
     omega
    all_goals simp (disch:=decide)only[cT,cN,eW,dP,dG]
  ·unfold gM
   rw[aK hi (by decide)]
   split
   ·exact aK hi (by decide)
   ·rfl
 ·split
  ·rename_i h
   obtain⟨h8,h14⟩:=s2 h
   refine .yes ?_ (fun i hi=>?_)
   ·unfold kE dZ
    rw[h4,gN (j:=14) (by decide)]
    split
    ·simp (disch:=first|decide|exact hs _|(simp only[bC];exact hs _))only[a8,ps]
     refine Z _ _ (aP (aP (aP (bJ _)))) ?_ ?_ ?_ ?_ ?_ ?_
     ·simp[fx,aV,aA6,h8]
      omega
     all_goals simp (disch:=decide)only[cT,cN,eW,dP,dG]
    ·simp (disch:=first|decide|exact hs _|(simp only[bC];exact hs _))only[a8,ps]
     refine Z _ _ (aP (aP (aP (aP (bJ _))))) ?_ ?_ ?_ ?_ ?_ ?_
     ·simp[fx,aV,aA6,h8]
      omega
     all_goals simp (disch:=decide)only[cT,cN,eW,dP,dG]
   ·unfold kE dZ
    split<;>simp (disch:=first|decide|exact hi)only[aK,ps]
  ·exact .none
def aHL(c d:Pc):Prop:=d=up c 49 (.bool true)
theorem zV{d:Pc}(h:aHL c d):eV c d∧fz d≤fz c+2:=by
 subst h
 refine⟨aP (bJ c),?_⟩
 have h1:ft (up c 49 (.bool true))≤ft c+2:=by
  simp only[ft,kY,aV,bE,Nat.reduceEqDiff,if_false,if_true,aCF]
  cases gB c 49<;>simp<;>omega
 unfold fz
 simp (disch:=decide)only[cT,cN,eW,dG,cW]
 omega
def zW(c d:Pc):Prop:=eV c d∧fz d+9≤fz c
def aJ5(k:Nat)(B:Br)(r:Bool × Br):Prop:=Did k B r nN No∨(r.1=true∧zW (pc B k) (pc r.2 k)∧∀i,i≠k→pc r.2 i=pc B i∨aHL (pc B i) (pc r.2 i))
theorem aCH{B:Br}{k:Nat}(hk:Lk k B):Lk k (bF B k)∧(bF B k).ps.length=B.ps.length∧(bF B k).np=B.np∧(∀i,i≠k→pc (bF B k) i=pc B i)∧eV (pc B k) (pc (bF B k) k)∧(∀j,j≠13→j≠31→pc (bF B k) k j=pc B k j):=by
 unfold bF
 split
 ·split
  ·refine ⟨by simp only[bC];exact hk,by simp[Br.setp],rfl,fun i hi=>by simp (disch:=first|decide|exact hi)only[aK],?_,fun j h1 h2=>?_⟩
   ·simp (disch:=first|decide|exact hk|(simp only[bC];exact hk))only[a8]
    exact aP (aP (bJ _))
   ·simp (disch:=first|decide|exact hk|(simp only[bC];exact hk))only[a8]
    rw[a5 _ _ h2,a5 _ _ h1]
  ·refine ⟨by simp only[bC];exact hk,by simp[Br.setp],rfl,fun i hi=>by simp (disch:=first|decide|exact hi)only[aK],?_,fun j h1 h2=>?_⟩
   ·rw[a8 hk (by decide)]
    exact aP (bJ _)
   ·rw[a8 hk (by decide),a5 _ _ h1]
 ·exact⟨hk,rfl,rfl,fun _ _=>rfl,bJ _,fun _ _ _=>rfl⟩
theorem zX{d:Pc}(h:∀j,j≠13→j≠31→d j=c j):fm d=fm c∧fe d=fe c∧fs d=fs c∧fp d=fp c∧ft d=ft c∧fx d=fx c:=by
 have b:∀j,j≠13→j≠31→gB d j=gB c j:=fun j h1 h2=>by unfold gB;rw[h j h1 h2]
 have i:∀j,j≠13→j≠31→gI d j=gI c j:=fun j h1 h2=>by unfold gI;rw[h j h1 h2]
 refine⟨?_,?_,?_,?_,?_,?_⟩
 ·simp (disch:=decide)only[fm,b,i]
 ·simp (disch:=decide)only[fe,fea,b,i]
 ·simp (disch:=decide)only[fs,wt,pW,b,i]
 ·simp (disch:=decide)only[fp,b,i]
 ·simp (disch:=decide)only[ft,kY,b,i]
  rfl
 ·simp (disch:=decide)only[fx,b,i]
theorem tz{c d:Pc}(h:eV c d){e:Nat}(h1:ft d+e≤ft c)(h2:fm d=fm c)(h3:fe d=fe c)(h4:fs d=fs c)(h5:fp d=fp c)(h6:fx d=fx c):eV c d∧fz d+e≤fz c:=⟨h,by unfold fz;omega⟩
theorem tz1{c d:Pc}(h:eV c d)(h1:ft d+1≤ft c)(h2:fm d=fm c)(h3:fe d=fe c)(h4:fs d=fs c)(h5:fp d=fp c)(h6:fx d=fx c):nN c d:=tz h h1 h2 h3 h4 h5 h6
theorem tz9{c d:Pc}(h:eV c d)(h1:ft d+9≤ft c)(h2:fm d=fm c)(h3:fe d=fe c)(h4:fs d=fs c)(h5:fp d=fp c)(h6:fx d=fx c):zW c d:=tz h h1 h2 h3 h4 h5 h6
theorem ls1:∀a b c d e f:Bool,eH a b c d e f=1→a=true∧b=true∧c=false:=by decide
theorem ls2:∀a b c d e f:Bool,eH a b c d e f=2→a=false:=by decide
theorem ls3:∀a b c d e f:Bool,eH a b c d e f=3→f=true:=by decide
theorem as1:∀a b c d e f:Bool,fS a b c d e f=1→a=false∨b=true:=by decide
theorem as2:∀a b c d e f:Bool,(fS a b c d e f=2→c=true)∧(fS a b c d e f=3→d=true)∧(fS a b c d e f=4→e=true)∧(fS a b c d e f=5→f=true):=by decide
theorem s7{B:Br}{k:Nat}(ho:B.ok)(hkn:k<B.np)(hA:kY (pc B k)=false→gB (pc B k) 28=false):aJ5 k B (jN B k):=by
 have hk:=mT ho hkn
 have hl:B.np*89≤B.ps.length:=by rw[ho.len];exact Nat.le_refl _
 have F:ft (up (up (up (up (up (pc B k) 39 (.bool false)) 41 (.bool false)) 40 (.bool false)) 49 (.bool false)) 21 (.int .i64 1))+1≤ft (pc B k)→aJ5 k B (true,dR B k):=fun h=>by
  refine .inl (.yes ?_ (fun i hi=>by simp (disch:=first|decide|exact hi)only[dR,aK]))
  simp (disch:=first|decide|exact hk|(simp only[bC];exact hk))only[dR,a8]
  refine tz1 (aP (aP (aP (aP (aP (bJ _)))))) h ?_ ?_ ?_ ?_ ?_<;>simp (disch:=decide)only[cT,cN,eW,dG,cW]
 have P:∀C,Lk k C→C.ps.length=B.ps.length→C.np=B.np→(∀i,i≠k→pc C i=pc B i)→eV (pc B k) (pc C k)→(∀j,j≠13→j≠31→pc C k j=pc B k j)→(gB (pc B k) 39=true∨gB (pc B k) 41=true)→aJ5 k B (true,dM C k):=fun C h1 h2 h3 h4 h5 h6 h7=>by
  have e:∀i,pc (dM C k) i=if i<C.np∧i≠k then up (pc (dH C k) i) 49 (.bool true)else pc (dH C k) i:=fun i=>yG C.np (by
   have:(dH C k).ps.length=C.ps.length:=by simp[dH,Br.setp]
   rw[this,h2,h3];exact hl)
  refine .inr ⟨rfl,?_,fun i hi=>?_⟩
  ·show zW (pc B k) (pc (dM C k) k)
   rw[e k,if_neg (fun h=>h.2 rfl)]
   simp (disch:=first|decide|exact h1|(simp only[bC];exact h1))only[dH,a8]
   obtain⟨g1,g2,g3,g4,g5,g6⟩:=zX h6
   refine tz9 (aP (aP (aP h5))) ?_ ?_ ?_ ?_ ?_ ?_
   ·rw[←g5]
    have b39:gB (pc C k) 39=gB (pc B k) 39:=by unfold gB;rw[h6 39 (by decide) (by decide)]
    have b41:gB (pc C k) 41=gB (pc B k) 41:=by unfold gB;rw[h6 41 (by decide) (by decide)]
    simp only[ft,kY,aV,bE,Nat.reduceEqDiff,if_false,if_true,aCF,b39,b41]
    rcases h7 with h7|h7<;>rw[h7]<;>simp<;>omega
   all_goals simp (disch:=decide)only[cT,cN,eW,dG,cW]
   all_goals assumption
  ·have e0:pc (dH C k) i=pc B i:=by
    rw[←h4 i hi]
    simp (disch:=first|decide|exact hi)only[dH,aK]
   show pc (dM C k) i=_∨aHL (pc B i) (pc (dM C k) i)
   rw[e i,e0]
   split
   ·exact .inr rfl
   ·exact .inl rfl
 obtain⟨t1,t2,t3,t4,t5,t6⟩:=aCH hk
 obtain⟨g1,g2,g3,g4,g5,g6⟩:=zX t6
 unfold jN
 split
 ·rename_i h
  rw[cM (by decide)]at h
  have hs:Lk k (B.flush k):=hk
  have ps:∀i,pc (B.flush k) i=pc B i:=fun _=>rfl
  refine .inl (.yes ?_ (fun i hi=>by simp (disch:=first|decide|exact hi)only[aK,ps]))
  rw[a8 hs (by decide),ps]
  refine tz1 (aP (bJ _)) ?_ ?_ ?_ ?_ ?_ ?_
  ·simp only[ft,kY,aV,bE,Nat.reduceEqDiff,if_false,if_true,aCF,h]
   simp
   omega
  all_goals simp (disch:=decide)only[cT,cN,eW,dG,cW]
 ·unfold pJ lG jX uX
  rw[gN (j:=21) (by decide),gN (j:=87) (by decide),cM (j:=28) (by decide),cM (j:=26) (by decide),cM (j:=32) (by decide),cM (j:=29) (by decide),cM (j:=39) (by decide),cM (j:=41) (by decide),cM (j:=40) (by decide),cM (j:=49) (by decide)]
  obtain⟨q,hq⟩:∃q,kY (pc B k)=q:=⟨_,rfl⟩
  have hq':(gI (pc B k) 87 == 3 || gI (pc B k) 87 == 4)=q:=hq
  rw[hq']
  split
  ·rename_i h0
   split
   ·rename_i h28
    refine F ?_
    cases q
    ·rw[hA hq]at h28;cases h28
    ·simp only[ft,aV,bE,Nat.reduceEqDiff,if_false,if_true,aCF,aA6,h0,hq]
     have e:∀d,kY (up d 21 (.int .i64 1))=kY d:=fun d=>by simp[kY,aV]
     simp[kY,aV,hq']
     cases gB (pc B k) 32<;>simp<;>omega
   ·exact .inl .none
  split
  ·rename_i h0 h1
   split
   ·rename_i hs
    have hc:=ls1 _ _ _ _ _ _ hs
    have hL:Lk k (kL (bF B k) k B.np):=by unfold Lk;rw[zU];exact t1
    have e:∀i,pc (kL (bF B k) k B.np) i=if i<B.np∧i≠k then up (pc (bF B k) i) 49 (.bool true)else pc (bF B k) i:=fun i=>yG B.np (by rw[t2];exact hl)
    refine .inr ⟨rfl,?_,fun i hi=>?_⟩
    ·show zW (pc B k) (pc (fT B k) k)
     unfold fT
     simp (disch:=first|decide|exact hL|(simp only[bC];exact hL))only[a8]
     rw[e k,if_neg (fun h=>h.2 rfl)]
     refine tz9 (aP (aP t5)) ?_ ?_ ?_ ?_ ?_ ?_
     ·rw[←g5]
      have e21:gI (pc (bF B k) k) 21=1:=by unfold gI;rw[t6 21 (by decide) (by decide)];exact h1
      have e32:gB (pc (bF B k) k) 32=false:=by unfold gB;rw[t6 32 (by decide) (by decide)];exact hc.2.2
      have ec:kY (pc (bF B k) k)=true:=by unfold kY gI;rw[t6 87 (by decide) (by decide)];exact hq'.trans hc.1
      have ec2:∀a b,kY (up (up (pc (bF B k) k) 31 a) 21 b)=true:=fun a b=>by rw[←ec];simp[kY,aV]
      simp[ft,aV,bE,aA6,e21,e32,ec,ec2]
     all_goals simp (disch:=decide)only[cT,cN,eW,dG,cW]
     all_goals assumption
    ·show pc (fT B k) i=_∨aHL (pc B i) (pc (fT B k) i)
     have e0:pc (fT B k) i=pc (kL (bF B k) k B.np) i:=by
      unfold fT
      simp (disch:=first|decide|exact hi)only[aK]
     rw[e0,e i,t4 i hi]
     split
     ·exact .inr rfl
     ·exact .inl rfl
   split
   ·rename_i hs
    have hc:=ls2 _ _ _ _ _ _ hs
    refine .inl (.yes ?_ (fun i hi=>by simp (disch:=first|decide|exact hi)only[i5,aK]))
    simp (disch:=first|decide|exact hk|(simp only[bC];exact hk))only[i5,a8]
    refine tz1 (aP (aP (aP (aP (bJ _))))) ?_ ?_ ?_ ?_ ?_ ?_
    ·have ec2:∀a b d e,kY (up (up (up (up (pc B k) 25 a) 48 b) 13 d) 21 e)=false:=fun a b d e=>by rw[←hc,←hq];simp[kY,aV]
     simp[ft,aV,bE,aA6,aCF,h1,hq,hc,ec2]
     omega
    all_goals simp (disch:=decide)only[cT,cN,eW,dG,cW]
   split
   ·rename_i hs
    refine F ?_
    have ht:=ls3 _ _ _ _ _ _ hs
    simp only[Bool.or_eq_true]at ht
    have ec2:∀a b d e f,kY (up (up (up (up (up (pc B k) 39 a) 41 b) 40 d) 49 e) 21 f)=q:=fun a b d e f=>by rw[←hq];simp[kY,aV]
    simp[ft,aV,bE,aA6,aCF,h1,hq,ec2]
    rcases ht with ((h|h)|h)|h<;>rw[h]<;>simp<;>omega
   ·exact .inl .none
  split
  ·rename_i h0 h1 h2
   split
   ·rename_i hs
    refine F ?_
    have hc:=as1 _ _ _ _ _ _ hs
    have ec2:∀a b d e f,kY (up (up (up (up (up (pc B k) 39 a) 41 b) 40 d) 49 e) 21 f)=q:=fun a b d e f=>by rw[←hq];simp[kY,aV]
    simp[ft,aV,bE,aA6,aCF,h2,hq,ec2]
    rcases hc with h|h<;>rw[h]<;>simp<;>(try split)<;>omega
   split
   ·rename_i hs
    exact P (bF B k) t1 t2 t3 t4 t5 t6 (.inr ((as2 _ _ _ _ _ _).1 hs))
   split
   ·rename_i hs
    exact P B hk rfl rfl (fun _ _=>rfl) (bJ _) (fun _ _ _=>rfl) (.inl ((as2 _ _ _ _ _ _).2.1 hs))
   split
   ·rename_i hs
    have h49:=(as2 _ _ _ _ _ _).2.2.1 hs
    refine .inl (.yes ?_ (fun i hi=>by simp (disch:=first|decide|exact hi)only[gG,aK,t4 i hi]))
    simp (disch:=first|decide|exact t1|(simp only[bC];exact t1))only[gG,a8]
    refine tz1 (aP (aP t5)) ?_ ?_ ?_ ?_ ?_ ?_
    ·rw[←g5]
     have e49:gB (pc (bF B k) k) 49=true:=by unfold gB;rw[t6 49 (by decide) (by decide)];exact h49
     simp only[ft,kY,aV,bE,Nat.reduceEqDiff,if_false,if_true,aCF,e49]
     simp
     omega
    all_goals simp (disch:=decide)only[cT,cN,eW,dG,cW]
    all_goals assumption
   split
   ·rename_i hs
    have h40:=(as2 _ _ _ _ _ _).2.2.2 hs
    refine .inl (.yes ?_ (fun i hi=>by simp (disch:=first|decide|exact hi)only[pH,aK]))
    simp (disch:=first|decide|exact hk|(simp only[bC];exact hk))only[pH,a8]
    refine tz1 (aP (aP (bJ _))) ?_ ?_ ?_ ?_ ?_ ?_
    ·simp only[ft,kY,aV,bE,Nat.reduceEqDiff,if_false,if_true,aCF,h40]
     simp
     omega
    all_goals simp (disch:=decide)only[cT,cN,eW,dG,cW]
   ·exact .inl .none
  ·exact .inl .none
end Go.Proofs.YtpanapepcbbagaaGreat
namespace Go.Proofs.YtpanapepcbbagaaGreat
open Go.RowKit Go.BigFrame Go.WideShapes Go.ChangeShapes Go.Deep
variable {c:Pc} {v:Value} {j:Nat}
theorem zY(c:Pc):fp c≤2:=by
 have:=bt1 (gB c 26)
 have:=bt1 (gB c 28)
 have:=bt1 (!gB c 28 || gB c 26)
 unfold fp
 (repeat' split)<;>omega
theorem zsk{d:Pc}{e:Nat}(h:fs d+fp d+e≤fs c+fp c)(h1:fm d=fm c)(h2:fe d≤fe c)(h3:ft d=ft c)(h4:fx d=fx c):fz d+e≤fz c:=by
 unfold fz
 omega
theorem aE0{j:Nat}(hj:j=46∨j=42):fs (up c j (.bool true))≤fs c+10:=by
 have b1:=bt1 (gB c 46)
 have b2:=bt1 (gB c 42)
 rcases hj with rfl|rfl
 ·simp only[fs,wt,pW,aV,bE,aCF,Nat.reduceEqDiff,if_true,if_false]
  have b3:=bt1 (true && !gB c 47 && (gB c 28 || gB c 26))
  simp only[Bool.toNat_true]
  (repeat' split)<;>omega
 ·simp only[fs,wt,pW,aV,bE,aCF,Nat.reduceEqDiff,if_true,if_false]
  have b3:=bt1 (true && gI c 12 != 0 && (gB c 28 || gB c 26))
  have b4:=bt1 (!gB c 26 && !true)
  simp only[Bool.toNat_true,Bool.not_true,Bool.and_false,Bool.toNat_false]
  (repeat' split)<;>omega
def Ask(c d:Pc):Prop:=d=up c 46 (.bool true)∨d=up c 42 (.bool true)
theorem aE1{d:Pc}(h:Ask c d):eV c d∧fz d≤fz c+10:=by
 rcases h with rfl|rfl
 ·refine⟨aP (bJ c),?_⟩
  have h:=aE0 (c:=c) (j:=46) (.inl rfl)
  unfold fz
  simp (disch:=decide)only[cT,cN,dP,dG,cW]
  omega
 ·refine⟨aP (bJ c),?_⟩
  have h:=aE0 (c:=c) (j:=42) (.inr rfl)
  unfold fz
  simp (disch:=decide)only[cT,cN,dP,dG,cW]
  omega
theorem fe_6{x:Int}(h:x≠0):fe (up c 6 (.int .i64 x))≤fe c:=by
 have e:fea (up c 6 (.int .i64 x))=(!gB c 2 && gB c 4):=by simp[fea,aV,bE,aA6,h]
 have l:(fea (up c 6 (.int .i64 x))).toNat≤(fea c).toNat:=by
  rw[e]
  unfold fea
  cases (!gB c 2 && gB c 4)<;>simp
 unfold fe
 simp only[aV,bE,Nat.reduceEqDiff,if_false]
 (repeat' split)<;>omega
theorem aHM{x:Int}(c:Pc)(hx:x≠0):fe (up (up (up c 34 (.bool true)) 31 (.bool true)) 6 (.int .i64 x))≤fe c:=by
 have h:=fe_6 (c:=up (up c 34 (.bool true)) 31 (.bool true)) hx
 simp (disch:=decide)only[cN]at h ⊢
 exact h
theorem aE2{s s' fd:Int}(h19:gI c 19=s)(hs:(s=0∧s'=1∧fd=20)∨(s=1∧s'=1∧fd=20∧(gI c 7 != 20 || gB c 46 || gB c 42 || !gB c 47)=true)∨(s=4∧s'=5∧fd=wt c)∨(s=5∧s'=5∧fd=wt c∧(gI c 7 != wt c || gB c 46 || gB c 42 || !gB c 47)=true)):
    fz (up (up (up (up (up (up c 7 (.int .i64 fd)) 12 (.int .i64 0)) 47 (.bool true)) 46 (.bool false)) 42 (.bool false)) 19 (.int .i64 s'))+1≤fz c:=by
 refine zsk ?_ ?_ ?_ ?_ ?_
 ·have w:∀a b d e f g,wt (up (up (up (up (up (up c 7 a) 12 b) 47 d) 46 e) 42 f) 19 g)=wt c:=fun _ _ _ _ _ _=>by simp[wt,bE]
  simp (disch:=decide)only[dG]
  unfold fs
  simp only[w,pW,aV,bE,aCF,aA6,Nat.reduceEqDiff,if_true,if_false,h19]
  rcases hs with ⟨rfl,rfl,rfl⟩|⟨rfl,rfl,rfl,h⟩|⟨rfl,rfl,rfl⟩|⟨rfl,rfl,rfl,h⟩
  ·simp
   omega
  ·generalize (gI c 7 != 20)=b at h ⊢
   revert h
   cases b<;>cases gB c 46<;>cases gB c 42<;>cases gB c 47<;>simp<;>omega
  ·simp
   omega
  ·generalize (gI c 7 != wt c)=b at h ⊢
   revert h
   cases b<;>cases gB c 46<;>cases gB c 42<;>cases gB c 47<;>simp<;>omega
 all_goals simp (disch:=decide)only[cT,cN,dP,cW]
 all_goals exact Nat.le_refl _
theorem zZ{s:Int}(h19:gI c 19=s)(hs:s=2∨s=5)(h:gB c 22=false∨gB c 33=true):fz (up (up (up c 33 (.bool false)) 22 (.bool true)) 31 (.bool true))+1≤fz c:=by
 refine zsk ?_ ?_ ?_ ?_ ?_
 ·simp (disch:=decide)only[dG,eW]
  unfold fs
  simp only[wt,pW,aV,bE,aCF,aA6,Nat.reduceEqDiff,if_true,if_false,h19]
  revert h
  rcases hs with rfl|rfl<;>cases gB c 33<;>cases gB c 22<;>simp<;>omega
 all_goals simp (disch:=decide)only[cT,cN,dP,cW]
 all_goals exact Nat.le_refl _
theorem aLM:fz (up c 46 (.bool false))≤fz c:=by
 have h:fs (up c 46 (.bool false))≤fs c:=by
  unfold fs
  simp only[wt,pW,aV,bE,aCF,aA6,Nat.reduceEqDiff,if_true,if_false]
  simp only[Bool.toNat_false,Bool.false_and]
  (repeat' split)<;>omega
 unfold fz
 simp (disch:=decide)only[cT,cN,dP,dG,cW]
 omega
theorem aE3(h19:gI c 19=5)(h:(gI c 87 == 2 && gI c 10 != 4)=true):fz (up c 10 (.int .i64 4))+1≤fz c:=by
 refine zsk ?_ ?_ ?_ ?_ ?_
 ·simp (disch:=decide)only[dG]
  unfold fs
  simp only[wt,pW,aV,bE,aCF,aA6,Nat.reduceEqDiff,if_true,if_false,h19,h]
  simp
  omega
 all_goals simp (disch:=decide)only[cT,cN,dP,cW]
 all_goals exact Nat.le_refl _
theorem aHN{s:Int}(h19:gI c 19=s)(hs:s=2∨s=5)(h:gB c 33=true):fz (up (up c 46 (.bool true)) 33 (.bool false))+50≤fz c:=by
 refine zsk ?_ ?_ ?_ ?_ ?_
 ·simp (disch:=decide)only[dG]
  have:=bt1 (gB c 46)
  unfold fs
  simp only[wt,pW,aV,bE,aCF,aA6,Nat.reduceEqDiff,if_true,if_false,h19,h]
  rcases hs with rfl|rfl<;>simp<;>omega
 all_goals simp (disch:=decide)only[cT,cN,dP,cW]
 all_goals exact Nat.le_refl _
theorem aHO(h19:gI c 19=2)(h:gB c 26=false)(h2:gB c 42=false):fz (up c 42 (.bool true))+50≤fz c:=by
 refine zsk ?_ ?_ ?_ ?_ ?_
 ·simp (disch:=decide)only[dG]
  unfold fs
  simp only[wt,pW,aV,bE,aCF,aA6,Nat.reduceEqDiff,if_true,if_false,h19,h,h2]
  simp
  omega
 all_goals simp (disch:=decide)only[cT,cN,dP,cW]
 all_goals exact Nat.le_refl _
theorem aAA{x:Value}(hs:gI c 19=2∨(gI c 19=3∧gB c 46=false∧(gB c 42=false∨gI c 12=0)))(h:gB c 28=false):fz (up (up c 28 (.bool true)) 7 x)+1≤fz c:=by
 refine zsk ?_ ?_ ?_ ?_ ?_
 ·have h1:=zY (up (up c 28 (.bool true)) 7 x)
  have h2:fs (up (up c 28 (.bool true)) 7 x)+3≤fs c:=by
   have:=bt1 (gB c 26)
   unfold fs
   rcases hs with h3|⟨h3,h4,h5⟩
   ·simp only[pW,aV,bE,aCF,aA6,Nat.reduceEqDiff,if_true,if_false,h3,h]
    simp
    omega
   ·simp only[pW,aV,bE,aCF,aA6,Nat.reduceEqDiff,if_true,if_false,h3,h,h4]
    rcases h5 with h5|h5<;>rw[h5]<;>simp<;>omega
  omega
 all_goals simp (disch:=decide)only[cT,cN,dP,cW]
 all_goals exact Nat.le_refl _
theorem aIL{x:Value}(hs:gI c 19=2∨(gI c 19=3∧gB c 46=false∧(gB c 42=false∨gI c 12=0)))(h:gB c 26=false):fz (up (up c 26 (.bool true)) 7 x)+1≤fz c:=by
 refine zsk ?_ ?_ ?_ ?_ ?_
 ·have h1:=zY (up (up c 26 (.bool true)) 7 x)
  have h2:fs (up (up c 26 (.bool true)) 7 x)+3≤fs c:=by
   have:=bt1 (gB c 28)
   unfold fs
   rcases hs with h3|⟨h3,h4,h5⟩
   ·simp only[pW,aV,bE,aCF,aA6,Nat.reduceEqDiff,if_true,if_false,h3,h]
    simp
    omega
   ·simp only[pW,aV,bE,aCF,aA6,Nat.reduceEqDiff,if_true,if_false,h3,h,h4]
    rcases h5 with h5|h5<;>rw[h5]<;>simp<;>omega
  omega
 all_goals simp (disch:=decide)only[cT,cN,dP,cW]
 all_goals exact Nat.le_refl _
theorem aLN{v:Value}:fz (up c 23 v)=fz c:=by
 unfold fz
 simp (disch:=decide)only[cT,cN,eW,dP,dG,cW]
theorem pY(hs:(gI c 19=2∧gB c 26=true)∨gI c 19=3)(h:gB c 42=true):fz (up c 42 (.bool false))+1≤fz c:=by
 refine zsk ?_ ?_ ?_ ?_ ?_
 ·simp (disch:=decide)only[dG]
  unfold fs
  rcases hs with ⟨h3,h4⟩|h3
  ·simp only[wt,pW,aV,bE,aCF,aA6,Nat.reduceEqDiff,if_true,if_false,h3,h4,h]
   simp
   omega
  ·simp only[wt,pW,aV,bE,aCF,aA6,Nat.reduceEqDiff,if_true,if_false,h3,h]
   simp
   omega
 all_goals simp (disch:=decide)only[cT,cN,dP,cW]
 all_goals exact Nat.le_refl _
theorem yI(h19:gI c 19=2)(h:gI c 12≠15):fz (up c 12 (.int .i64 15))+1≤fz c:=by
 refine zsk ?_ ?_ ?_ ?_ ?_
 ·simp (disch:=decide)only[dG]
  have h2:(gI c 12 != 15)=true:=by simpa using h
  unfold fs
  simp only[wt,pW,aV,bE,aCF,aA6,Nat.reduceEqDiff,if_true,if_false,h19,h2]
  simp
  omega
 all_goals simp (disch:=decide)only[cT,cN,dP,cW]
 all_goals exact Nat.le_refl _
theorem aCI{x:Int}(h19:gI c 19=3)(h:gB c 34=false)(hx:x≠0):fz (up (up (up c 34 (.bool true)) 31 (.bool true)) 6 (.int .i64 x))+1≤fz c:=by
 refine zsk ?_ ?_ ?_ ?_ ?_
 ·simp (disch:=decide)only[dG,eW]
  unfold fs
  simp only[wt,pW,aV,bE,aCF,aA6,Nat.reduceEqDiff,if_true,if_false,h19,h]
  simp
  omega
 ·simp (disch:=decide)only[cT]
 ·exact aHM _ hx
 all_goals simp (disch:=decide)only[dP,cW]
theorem aJ6(h19:gI c 19=3)(h:gB c 46=true∨gB c 47=false):fz (up (up (up c 12 (.int .i64 0)) 47 (.bool true)) 46 (.bool false))+1≤fz c:=by
 refine zsk ?_ ?_ ?_ ?_ ?_
 ·simp (disch:=decide)only[dG]
  unfold fs
  simp only[wt,pW,aV,bE,aCF,aA6,Nat.reduceEqDiff,if_true,if_false,h19]
  revert h
  cases gB c 46<;>cases gB c 47<;>simp<;>omega
 all_goals simp (disch:=decide)only[cT,cN,dP,cW]
 all_goals exact Nat.le_refl _
theorem aE4{x:Value}(h19:gI c 19=3)(hl:(gB c 28 || gB c 26)=true)(h:((gB c 46 && !gB c 47) || (gB c 42 && gI c 12 != 0) || gB c 24)=true):fz (up (up (up (up c 28 (.bool false)) 26 (.bool false)) 24 (.bool false)) 7 x)+1≤fz c:=by
 refine zsk ?_ ?_ ?_ ?_ ?_
 ·have h1:=zY (up (up (up (up c 28 (.bool false)) 26 (.bool false)) 24 (.bool false)) 7 x)
  have h2:fs (up (up (up (up c 28 (.bool false)) 26 (.bool false)) 24 (.bool false)) 7 x)+3≤fs c:=by
   unfold fs
   simp only[wt,pW,aV,bE,aCF,aA6,Nat.reduceEqDiff,if_true,if_false,h19,hl]
   generalize (gB c 46 && !gB c 47)=b1 at h ⊢
   generalize (gB c 42 && gI c 12 != 0)=b2 at h ⊢
   revert h
   cases b1<;>cases b2<;>cases gB c 24<;>simp<;>omega
  omega
 all_goals simp (disch:=decide)only[cT,cN,dP,cW]
 all_goals exact Nat.le_refl _
def RS(c:Pc):Prop:=((gI c 87=0∧(gI c 19=0∨gI c 19=1))∨(gI c 87=3∧gI c 19=2)∨(gI c 87=4∧gI c 19=3)∨((gI c 87=1∨gI c 87=2)∧(gI c 19=4∨gI c 19=5)))∧(gI c 19≠2→gI c 19≠3→gB c 26=false∧gB c 28=false)
def KT(j:Nat):Prop:=j=2∨j=11∨j=15∨j=18∨j=35∨j=36∨j=43∨j=44∨j=50∨j=86∨j=88
def Kt(c d:Pc):Prop:=∀j,KT j→d j=c j
theorem bR{c d:Pc}{j:Nat}{v:Value}(h:Kt c d)(hj:¬(j=2∨j=11∨j=15∨j=18∨j=35∨j=36∨j=43∨j=44∨j=50∨j=86∨j=88):=by decide):Kt c (up d j v):=fun x hx=>by
 rw[a5 _ _ (fun e=>hj (by rw[←e];exact hx))]
 exact h x hx
theorem f7(c:Pc):Kt c c:=fun _ _=>rfl
structure TrO (c d:Pc) (e:Nat):Prop where
 kt:Kt c d
 six:d 6=c 6∨(gI c 88=gI c 87∧gI c 19=3)
 rs:RS c→RS d
 eq:gI c 88=gI c 87→gI d 87=gI c 87∧fz d+e≤fz c
 ne:gI c 88≠gI c 87→gI d 87=gI c 88
def TrR(k:Nat)(B:Br)(r:Bool × Br):Prop:=r=(false,B)∨(r.1=true∧((TrO (pc B k) (pc r.2 k) 1∧∀i,i≠k→pc r.2 i=pc B i)∨(TrO (pc B k) (pc r.2 k) 41∧∀i,i≠k→pc r.2 i=pc B i∨Ask (pc B i) (pc r.2 i))))
theorem dC{c d:Pc}{e:Nat}(hk:Kt c d)(h6:d 6=c 6∨gI c 19=3)(h19:d 19=c 19)(h87:d 87=c 87)(hl:(d 26=c 26∧d 28=c 28)∨gI c 19=2∨gI c 19=3)(he:gI c 88=gI c 87)(hz:fz d+e≤fz c):TrO c d e:=by
 have e19:gI d 19=gI c 19:=by unfold gI;rw[h19]
 have e87:gI d 87=gI c 87:=by unfold gI;rw[h87]
 refine⟨hk,h6.imp id (fun h=>⟨he,h⟩),fun h=>?_,fun _=>⟨e87,hz⟩,fun h=>absurd he h⟩
 unfold RS at h ⊢
 rw[e19,e87]
 refine⟨h.1,fun a b=>?_⟩
 rcases hl with ⟨l1,l2⟩|l|l
 ·have:=h.2 a b
  unfold gB at this ⊢
  rw[l1,l2]
  exact this
 ·exact absurd l a
 ·exact absurd l b
theorem yJ{c d:Pc}{s:Int}(hk:Kt c d)(h6:d 6=c 6)(h19:gI d 19=s)(hs:((gI c 19=0∨gI c 19=1)∧s=1)∨((gI c 19=4∨gI c 19=5)∧s=5))(h87:d 87=c 87)(hl:d 26=c 26∧d 28=c 28)(he:gI c 88=gI c 87)(hz:fz d+1≤fz c):TrO c d 1:=by
 have e87:gI d 87=gI c 87:=by unfold gI;rw[h87]
 refine⟨hk,.inl h6,fun h=>?_,fun _=>⟨e87,hz⟩,fun h=>absurd he h⟩
 unfold RS at h ⊢
 have e26:gB d 26=gB c 26:=by unfold gB;rw[hl.1]
 have e28:gB d 28=gB c 28:=by unfold gB;rw[hl.2]
 rw[h19,e87,e26,e28]
 exact⟨by omega,fun _ _=>h.2 (by omega) (by omega)⟩
theorem mU{c d:Pc}{s:Int}(hk:Kt c d)(h6:d 6=c 6)(h19:gI d 19=s)(h87:gI d 87=gI c 88)(hne:gI c 88≠gI c 87)(hs:(gI c 88=0∧s=0∧gB d 26=false∧gB d 28=false)∨(gI c 88=3∧s=2)∨(gI c 88=4∧s=3)∨((gI c 88=1∨gI c 88=2)∧s=4∧gB d 26=false∧gB d 28=false)):TrO c d 1:=by
 refine⟨hk,.inl h6,fun h=>?_,fun h=>absurd h hne,fun _=>h87⟩
 unfold RS
 rw[h19,h87]
 rcases hs with ⟨a,b,l⟩|⟨a,b⟩|⟨a,b⟩|⟨a,b,l⟩
 ·exact⟨by omega,fun _ _=>l⟩
 ·exact⟨by omega,fun a _=>absurd b a⟩
 ·exact⟨by omega,fun _ a=>absurd b a⟩
 ·exact⟨by omega,fun _ _=>l⟩
end Go.Proofs.YtpanapepcbbagaaGreat
