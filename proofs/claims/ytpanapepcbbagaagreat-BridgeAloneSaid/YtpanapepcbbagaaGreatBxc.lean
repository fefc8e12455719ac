/- Part 3 of what BridgeRests stands on. No statement is proved here. -/
import Derived.Test.YtpanapepcbbagaaGreatBxb
set_option linter.unusedVariables false
set_option linter.unusedSimpArgs false
set_option maxRecDepth 100000
set_option maxHeartbeats 8000000
namespace Go.Proofs.YtpanapepcbbagaaGreat
open Go.RowKit Go.BigFrame Go.WideShapes Go.ChangeShapes Go.Deep
theorem yK{B:Br}{k:Nat}(ho:B.ok)(hkn:k<B.np)(h3:B.hi 3=20)(h4:B.hi 4=2)(h5:B.hi 5=15)(h88:0≤gI (pc B k) 88∧gI (pc B k) 88≤4):TrR k B (oM B k):=by
 have hk:=mT ho hkn
 have hl:B.np*89≤B.ps.length:=by rw[ho.len];exact Nat.le_refl _
 unfold oM
 split
 case isFalse=>exact .inl rfl
 unfold mO
 split
 ·exact .inl rfl
 rename_i h24
 have hlt:zL B k<24:=by have:=sR (B:=B) (k:=k);omega
 obtain⟨hS,hH⟩:=zM hlt
 have hno:=xC (B:=B) (k:=k)
 obtain⟨r,hr⟩:∃r,zL B k=r:=⟨_,rfl⟩
 rw[hr]at hlt hS hH hno ⊢
 have g:∀j,j<89→B.gi k j=gI (pc B k) j:=fun j hj=>gN hj
 have b:∀j,j<89→B.gb k j=gB (pc B k) j:=fun j hj=>cM hj
 have he:4≤r→gI (pc B k) 88=gI (pc B k) 87:=fun h=>by
  have h0:=hno 0 (by omega)
  have h1:=hno 1 (by omega)
  have h2:=hno 2 (by omega)
  have h3:=hno 3 (by omega)
  simp[wB,cQ,g 88 (by decide),g 87 (by decide)]at h0 h1 h2 h3
  omega
 have w:cD B k=wt (pc B k):=by
  unfold cD wt
  rw[b 45 (by decide),h4,h5]
 obtain⟨c,hc⟩:∃c,pc B k=c:=⟨_,rfl⟩
 clear hno hr h24
 -- a step that only a9 k sees
 have one:∀{C d},pc C k=d→(∀i,i≠k→pc C i=pc B i)→TrO (pc B k) d 1→TrR k B (true,C):=fun h1 h2 h3=>.inr ⟨rfl,.inl ⟨by show TrO _ (pc _ k) 1;rw[h1];exact h3,h2⟩⟩
 have settle:∀(fd s':Int),(gI (pc B k) 88=gI (pc B k) 87)→((gI (pc B k) 19=0∧s'=1∧fd=20)∨(gI (pc B k) 19=1∧s'=1∧fd=20∧(gI (pc B k) 7 != 20 || gB (pc B k) 46 || gB (pc B k) 42 || !gB (pc B k) 47)=true)∨(gI (pc B k) 19=4∧s'=5∧fd=wt (pc B k))∨(gI (pc B k) 19=5∧s'=5∧fd=wt (pc B k)∧(gI (pc B k) 7 != wt (pc B k) || gB (pc B k) 46 || gB (pc B k) 42 || !gB (pc B k) 47)=true))→TrR k B (true,(eG B k fd).setp k 19 (.int .i64 s')):=fun fd s' he hs=>by
  refine one (d:=up (up (up (up (up (up (pc B k) 7 (.int .i64 fd)) 12 (.int .i64 0)) 47 (.bool true)) 46 (.bool false)) 42 (.bool false)) 19 (.int .i64 s')) (by simp (disch:=first|decide|exact hk|(simp only[bC];exact hk))only[eG,a8]) (fun i hi=>by simp (disch:=first|decide|exact hi)only[eG,aK]) ?_
  refine yJ (s:=s') (bR (bR (bR (bR (bR (bR (f7 _))))))) (by simp (disch:=decide)only[a5]) (by simp[aV,aA6]) ?_ (by simp (disch:=decide)only[a5]) ⟨by simp (disch:=decide)only[a5],by simp (disch:=decide)only[a5]⟩ he (aE2 rfl hs)
  rcases hs with ⟨a,b,-⟩|⟨a,b,-⟩|⟨a,b,-⟩|⟨a,b,-⟩
  ·exact .inl ⟨.inl a,b⟩
  ·exact .inl ⟨.inr a,b⟩
  ·exact .inr ⟨.inl a,b⟩
  ·exact .inr ⟨.inr a,b⟩
 have asked:∀s,gI (pc B k) 19=s→(s=2∨s=5)→gB (pc B k) 33=true→gI (pc B k) 88=gI (pc B k) 87→TrR k B (true,jU B k):=fun s h19 hs h33 he=>by
  have hu:∀i,pc (B.upd 46 (fun _=>.bool true) B.np) i=if i<B.np then up (pc B i) 46 (.bool true)else pc B i:=fun i=>yF (by decide) _ hl
  have hLu:Lk k (B.upd 46 (fun _=>.bool true) B.np):=by
   unfold Lk
   rw[r7]
   exact hk
  refine .inr ⟨rfl,.inr ⟨?_,fun i hi=>?_⟩⟩
  ·show TrO (pc B k) (pc ((B.upd 46 (fun _=>.bool true) B.np).setp k 33 (.bool false)) k) 41
   rw[a8 hLu (by decide),hu k,if_pos hkn]
   exact dC (bR (bR (f7 _))) (.inl (by simp (disch:=decide)only[a5])) (by simp (disch:=decide)only[a5]) (by simp (disch:=decide)only[a5]) (.inl ⟨by simp (disch:=decide)only[a5],by simp (disch:=decide)only[a5]⟩) he (by have:=aHN h19 hs h33;omega)
  ·show pc ((B.upd 46 (fun _=>.bool true) B.np).setp k 33 (.bool false)) i=_∨Ask (pc B i) (pc ((B.upd 46 (fun _=>.bool true) B.np).setp k 33 (.bool false)) i)
   rw[aK hi (by decide),hu i]
   split
   ·exact .inr (.inl rfl)
   ·exact .inl rfl
 rcases(by omega:r=0∨r=1∨r=2∨r=3∨r=4∨r=5∨r=6∨r=7∨r=8∨r=9∨r=10∨r=11∨r=12∨r=13∨r=14∨r=15∨r=16∨r=17∨r=18∨r=19∨r=20∨r=21∨r=22∨r=23)with rfl|rfl|rfl|rfl|rfl|rfl|rfl|rfl|rfl|rfl|rfl|rfl|rfl|rfl|rfl|rfl|rfl|rfl|rfl|rfl|rfl|rfl|rfl|rfl
 ·have hH:=hH
  simp only[cQ,dK,eT,dX,dF,h3,h4,h5,w,g 88 (by decide),g 87 (by decide),g 7 (by decide),g 10 (by decide),g 12 (by decide),b 46 (by decide),b 42 (by decide),b 47 (by decide),b 33 (by decide),b 22 (by decide),b 26 (by decide),b 28 (by decide),b 23 (by decide),b 24 (by decide),b 27 (by decide),b 29 (by decide),b 32 (by decide),b 34 (by decide),Bool.and_eq_true,Bool.or_eq_true,Bool.not_eq_true',beq_iff_eq,bne_iff_ne,ne_eq]at hH
  refine one (C:=_) (d:=up (up (up (up (pc B k) 28 (.bool false)) 26 (.bool false)) 87 (.int .i64 (gI (pc B k) 88))) 19 (.int .i64 0)) (by simp (disch:=first|decide|exact hk|(simp only[bC];exact hk))only[dY,uF,kT,a8,w,g 88 (by decide),b 45 (by decide)]) (fun i hi=>by simp (disch:=first|decide|exact hi)only[dY,kT,aK]) ?_
  refine mU (s:=0) (bR (bR (bR (bR (f7 _))))) (by simp (disch:=decide)only[a5]) (by simp[aV,aA6]) (by simp[aV,aA6]) (by omega) ?_
  exact .inl ⟨hH.1,rfl,by simp[bE,aCF],by simp[bE,aCF]⟩
 ·have hH:=hH
  simp only[cQ,dK,eT,dX,dF,h3,h4,h5,w,g 88 (by decide),g 87 (by decide),g 7 (by decide),g 10 (by decide),g 12 (by decide),b 46 (by decide),b 42 (by decide),b 47 (by decide),b 33 (by decide),b 22 (by decide),b 26 (by decide),b 28 (by decide),b 23 (by decide),b 24 (by decide),b 27 (by decide),b 29 (by decide),b 32 (by decide),b 34 (by decide),Bool.and_eq_true,Bool.or_eq_true,Bool.not_eq_true',beq_iff_eq,bne_iff_ne,ne_eq]at hH
  refine one (C:=_) (d:=up (up (up (pc B k) 87 (.int .i64 (gI (pc B k) 88))) 12 (.int .i64 (B.hi 5))) 19 (.int .i64 2)) (by simp (disch:=first|decide|exact hk|(simp only[bC];exact hk))only[dY,uF,a8,w,g 88 (by decide),b 45 (by decide)]) (fun i hi=>by simp (disch:=first|decide|exact hi)only[dY,aK]) ?_
  refine mU (s:=2) (bR (bR (bR (f7 _)))) (by simp (disch:=decide)only[a5]) (by simp[aV,aA6]) (by simp[aV,aA6]) (by omega) ?_
  exact .inr (.inl ⟨hH.1,rfl⟩)
 ·have hH:=hH
  simp only[cQ,dK,eT,dX,dF,h3,h4,h5,w,g 88 (by decide),g 87 (by decide),g 7 (by decide),g 10 (by decide),g 12 (by decide),b 46 (by decide),b 42 (by decide),b 47 (by decide),b 33 (by decide),b 22 (by decide),b 26 (by decide),b 28 (by decide),b 23 (by decide),b 24 (by decide),b 27 (by decide),b 29 (by decide),b 32 (by decide),b 34 (by decide),Bool.and_eq_true,Bool.or_eq_true,Bool.not_eq_true',beq_iff_eq,bne_iff_ne,ne_eq]at hH
  refine one (C:=_) (d:=up (up (pc B k) 87 (.int .i64 (gI (pc B k) 88))) 19 (.int .i64 3)) (by simp (disch:=first|decide|exact hk|(simp only[bC];exact hk))only[dY,uF,a8,w,g 88 (by decide),b 45 (by decide)]) (fun i hi=>by simp (disch:=first|decide|exact hi)only[dY,aK]) ?_
  refine mU (s:=3) (bR (bR (f7 _))) (by simp (disch:=decide)only[a5]) (by simp[aV,aA6]) (by simp[aV,aA6]) (by omega) ?_
  exact .inr (.inr (.inl ⟨hH.1,rfl⟩))
 ·have hH:=hH
  simp only[cQ,dK,eT,dX,dF,h3,h4,h5,w,g 88 (by decide),g 87 (by decide),g 7 (by decide),g 10 (by decide),g 12 (by decide),b 46 (by decide),b 42 (by decide),b 47 (by decide),b 33 (by decide),b 22 (by decide),b 26 (by decide),b 28 (by decide),b 23 (by decide),b 24 (by decide),b 27 (by decide),b 29 (by decide),b 32 (by decide),b 34 (by decide),Bool.and_eq_true,Bool.or_eq_true,Bool.not_eq_true',beq_iff_eq,bne_iff_ne,ne_eq]at hH
  refine one (C:=_) (d:=up (up (up (up (pc B k) 28 (.bool false)) 26 (.bool false)) 87 (.int .i64 (gI (pc B k) 88))) 19 (.int .i64 4)) (by simp (disch:=first|decide|exact hk|(simp only[bC];exact hk))only[dY,uF,kT,a8,w,g 88 (by decide),b 45 (by decide)]) (fun i hi=>by simp (disch:=first|decide|exact hi)only[dY,kT,aK]) ?_
  refine mU (s:=4) (bR (bR (bR (bR (f7 _))))) (by simp (disch:=decide)only[a5]) (by simp[aV,aA6]) (by simp[aV,aA6]) (by omega) ?_
  exact .inr (.inr (.inr ⟨by omega,rfl,by simp[bE,aCF],by simp[bE,aCF]⟩))
 ·have h19:=hS.resolve_left (by decide)
  rw[g 19 (by decide)]at h19
  replace h19:gI (pc B k) 19=0:=h19.symm
  have:=settle 20 1 (he (by omega)) (.inl ⟨h19,rfl,rfl⟩)
  rw[←h3]at this
  exact this
 ·have h19:=hS.resolve_left (by decide)
  rw[g 19 (by decide)]at h19
  replace h19:gI (pc B k) 19=1:=h19.symm
  have hH:=hH
  simp only[cQ,dK,h3,g 7 (by decide),b 46 (by decide),b 42 (by decide),b 47 (by decide)]at hH
  have:=settle 20 1 (he (by omega)) (.inr (.inl ⟨h19,rfl,rfl,hH⟩))
  rw[←h3]at this
  exact this
 ·have h19:=hS.resolve_left (by decide)
  rw[g 19 (by decide)]at h19
  replace h19:gI (pc B k) 19=4:=h19.symm
  have:=settle (wt (pc B k)) 5 (he (by omega)) (.inr (.inr (.inl ⟨h19,rfl,rfl⟩)))
  rw[←w]at this
  exact this
 ·have h19:=hS.resolve_left (by decide)
  rw[g 19 (by decide)]at h19
  replace h19:gI (pc B k) 19=5:=h19.symm
  simp only[cQ,dK,eT,dX,dF,h3,h4,h5,w,g 88 (by decide),g 87 (by decide),g 7 (by decide),g 10 (by decide),g 12 (by decide),b 46 (by decide),b 42 (by decide),b 47 (by decide),b 33 (by decide),b 22 (by decide),b 26 (by decide),b 28 (by decide),b 23 (by decide),b 24 (by decide),b 27 (by decide),b 29 (by decide),b 32 (by decide),b 34 (by decide),Bool.and_eq_true,Bool.or_eq_true,Bool.not_eq_true',beq_iff_eq,bne_iff_ne,ne_eq]at hH
  exact asked 5 h19 (by omega) hH.1 (he (by omega))
 ·have h19:=hS.resolve_left (by decide)
  rw[g 19 (by decide)]at h19
  replace h19:gI (pc B k) 19=5:=h19.symm
  simp only[cQ,dK,eT,dX,dF,h3,h4,h5,w,g 88 (by decide),g 87 (by decide),g 7 (by decide),g 10 (by decide),g 12 (by decide),b 46 (by decide),b 42 (by decide),b 47 (by decide),b 33 (by decide),b 22 (by decide),b 26 (by decide),b 28 (by decide),b 23 (by decide),b 24 (by decide),b 27 (by decide),b 29 (by decide),b 32 (by decide),b 34 (by decide),Bool.and_eq_true,Bool.or_eq_true,Bool.not_eq_true',beq_iff_eq,bne_iff_ne,ne_eq]at hH
  refine one (C:=_) (d:=up (up (up (pc B k) 33 (.bool false)) 22 (.bool true)) 31 (.bool true)) (by simp (disch:=first|decide|exact hk|(simp only[bC];exact hk))only[dY,gF,a8,w,g 88 (by decide),b 45 (by decide)]) (fun i hi=>by simp (disch:=first|decide|exact hi)only[dY,gF,aK]) ?_
  exact dC (bR (bR (bR (f7 _)))) (.inl (by simp (disch:=decide)only[a5])) (by simp (disch:=decide)only[a5]) (by simp (disch:=decide)only[a5]) (.inl ⟨by simp (disch:=decide)only[a5],by simp (disch:=decide)only[a5]⟩) (he (by omega)) (zZ h19 (by omega) (hH.imp (fun h=>h.2) (fun h=>h.1)))
 ·have h19:=hS.resolve_left (by decide)
  rw[g 19 (by decide)]at h19
  replace h19:gI (pc B k) 19=5:=h19.symm
  simp only[cQ,dK,eT,dX,dF,h3,h4,h5,w,g 88 (by decide),g 87 (by decide),g 7 (by decide),g 10 (by decide),g 12 (by decide),b 46 (by decide),b 42 (by decide),b 47 (by decide),b 33 (by decide),b 22 (by decide),b 26 (by decide),b 28 (by decide),b 23 (by decide),b 24 (by decide),b 27 (by decide),b 29 (by decide),b 32 (by decide),b 34 (by decide),Bool.and_eq_true,Bool.or_eq_true,Bool.not_eq_true',beq_iff_eq,bne_iff_ne,ne_eq]at hH
  refine one (C:=_) (d:=up (pc B k) 10 (.int .i64 4)) (by simp (disch:=first|decide|exact hk|(simp only[bC];exact hk))only[dY,h4,Int.reduceMul,a8,w,g 88 (by decide),b 45 (by decide)]) (fun i hi=>by simp (disch:=first|decide|exact hi)only[dY,h4,Int.reduceMul,aK]) ?_
  exact dC (bR (f7 _)) (.inl (by simp (disch:=decide)only[a5])) (by simp (disch:=decide)only[a5]) (by simp (disch:=decide)only[a5]) (.inl ⟨by simp (disch:=decide)only[a5],by simp (disch:=decide)only[a5]⟩) (he (by omega)) (aE3 h19 (by simp[hH.1];have:=hH.2;omega))
 ·have h19:=hS.resolve_left (by decide)
  rw[g 19 (by decide)]at h19
  replace h19:gI (pc B k) 19=5:=h19.symm
  have hH:=hH
  simp only[cQ,dK,w,g 7 (by decide),b 46 (by decide),b 42 (by decide),b 47 (by decide)]at hH
  have:=settle (wt (pc B k)) 5 (he (by omega)) (.inr (.inr (.inr ⟨h19,rfl,rfl,hH⟩)))
  rw[←w]at this
  exact this
 ·have h19:=hS.resolve_left (by decide)
  rw[g 19 (by decide)]at h19
  replace h19:gI (pc B k) 19=2:=h19.symm
  simp only[cQ,dK,eT,dX,dF,h3,h4,h5,w,g 88 (by decide),g 87 (by decide),g 7 (by decide),g 10 (by decide),g 12 (by decide),b 46 (by decide),b 42 (by decide),b 47 (by decide),b 33 (by decide),b 22 (by decide),b 26 (by decide),b 28 (by decide),b 23 (by decide),b 24 (by decide),b 27 (by decide),b 29 (by decide),b 32 (by decide),b 34 (by decide),Bool.and_eq_true,Bool.or_eq_true,Bool.not_eq_true',beq_iff_eq,bne_iff_ne,ne_eq]at hH
  exact asked 2 h19 (by omega) hH.1 (he (by omega))
 ·have h19:=hS.resolve_left (by decide)
  rw[g 19 (by decide)]at h19
  replace h19:gI (pc B k) 19=2:=h19.symm
  simp only[cQ,dK,eT,dX,dF,h3,h4,h5,w,g 88 (by decide),g 87 (by decide),g 7 (by decide),g 10 (by decide),g 12 (by decide),b 46 (by decide),b 42 (by decide),b 47 (by decide),b 33 (by decide),b 22 (by decide),b 26 (by decide),b 28 (by decide),b 23 (by decide),b 24 (by decide),b 27 (by decide),b 29 (by decide),b 32 (by decide),b 34 (by decide),Bool.and_eq_true,Bool.or_eq_true,Bool.not_eq_true',beq_iff_eq,bne_iff_ne,ne_eq]at hH
  refine one (C:=_) (d:=up (up (up (up (pc B k) 33 (.bool false)) 22 (.bool true)) 31 (.bool true)) 46 (.bool false)) (by simp (disch:=first|decide|exact hk|(simp only[bC];exact hk))only[dY,gF,a8,w,g 88 (by decide),b 45 (by decide)]) (fun i hi=>by simp (disch:=first|decide|exact hi)only[dY,gF,aK]) ?_
  exact dC (bR (bR (bR (bR (f7 _))))) (.inl (by simp (disch:=decide)only[a5])) (by simp (disch:=decide)only[a5]) (by simp (disch:=decide)only[a5]) (.inl ⟨by simp (disch:=decide)only[a5],by simp (disch:=decide)only[a5]⟩) (he (by omega)) (by have h1:=zZ h19 (by omega) (hH.imp (fun h=>h.2) (fun h=>h.1));have h2:=aLM (c:=up (up (up (pc B k) 33 (.bool false)) 22 (.bool true)) 31 (.bool true));omega)
 ·have h19:=hS.resolve_left (by decide)
  rw[g 19 (by decide)]at h19
  replace h19:gI (pc B k) 19=2:=h19.symm
  simp only[cQ,dK,eT,dX,dF,h3,h4,h5,w,g 88 (by decide),g 87 (by decide),g 7 (by decide),g 10 (by decide),g 12 (by decide),b 46 (by decide),b 42 (by decide),b 47 (by decide),b 33 (by decide),b 22 (by decide),b 26 (by decide),b 28 (by decide),b 23 (by decide),b 24 (by decide),b 27 (by decide),b 29 (by decide),b 32 (by decide),b 34 (by decide),Bool.and_eq_true,Bool.or_eq_true,Bool.not_eq_true',beq_iff_eq,bne_iff_ne,ne_eq]at hH
  have hu:∀i,pc (B.upd 42 (fun _=>.bool true) B.np) i=if i<B.np then up (pc B i) 42 (.bool true)else pc B i:=fun i=>yF (by decide) _ hl
  refine .inr ⟨rfl,.inr ⟨?_,fun i hi=>?_⟩⟩
  ·show TrO (pc B k) (pc (B.upd 42 (fun _=>.bool true) B.np) k) 41
   rw[hu k,if_pos hkn]
   exact dC (bR (f7 _)) (.inl (by simp (disch:=decide)only[a5])) (by simp (disch:=decide)only[a5]) (by simp (disch:=decide)only[a5]) (.inl ⟨by simp (disch:=decide)only[a5],by simp (disch:=decide)only[a5]⟩) (he (by omega)) (by have:=aHO h19 hH.1 hH.2;omega)
  ·show pc (B.upd 42 (fun _=>.bool true) B.np) i=_∨Ask (pc B i) (pc (B.upd 42 (fun _=>.bool true) B.np) i)
   rw[hu i]
   split
   ·exact .inr (.inr rfl)
   ·exact .inl rfl
 ·have h19:=hS.resolve_left (by decide)
  rw[g 19 (by decide)]at h19
  replace h19:gI (pc B k) 19=2:=h19.symm
  simp only[cQ,dK,eT,dX,dF,h3,h4,h5,w,g 88 (by decide),g 87 (by decide),g 7 (by decide),g 10 (by decide),g 12 (by decide),b 46 (by decide),b 42 (by decide),b 47 (by decide),b 33 (by decide),b 22 (by decide),b 26 (by decide),b 28 (by decide),b 23 (by decide),b 24 (by decide),b 27 (by decide),b 29 (by decide),b 32 (by decide),b 34 (by decide),Bool.and_eq_true,Bool.or_eq_true,Bool.not_eq_true',beq_iff_eq,bne_iff_ne,ne_eq]at hH
  refine one (C:=_) (d:=up (up (pc B k) 28 (.bool true)) 7 (.int .i64 (wt (pc B k)))) (by simp (disch:=first|decide|exact hk|(simp only[bC];exact hk))only[dY,iN,a8,w,g 88 (by decide),b 45 (by decide)]) (fun i hi=>by simp (disch:=first|decide|exact hi)only[dY,iN,aK]) ?_
  exact dC (bR (bR (f7 _))) (.inl (by simp (disch:=decide)only[a5])) (by simp (disch:=decide)only[a5]) (by simp (disch:=decide)only[a5]) (.inr (.inl h19)) (he (by omega)) (aAA (.inl h19) hH.2)
 ·have h19:=hS.resolve_left (by decide)
  rw[g 19 (by decide)]at h19
  replace h19:gI (pc B k) 19=2:=h19.symm
  simp only[cQ,dK,eT,dX,dF,h3,h4,h5,w,g 88 (by decide),g 87 (by decide),g 7 (by decide),g 10 (by decide),g 12 (by decide),b 46 (by decide),b 42 (by decide),b 47 (by decide),b 33 (by decide),b 22 (by decide),b 26 (by decide),b 28 (by decide),b 23 (by decide),b 24 (by decide),b 27 (by decide),b 29 (by decide),b 32 (by decide),b 34 (by decide),Bool.and_eq_true,Bool.or_eq_true,Bool.not_eq_true',beq_iff_eq,bne_iff_ne,ne_eq]at hH
  refine one (C:=_) (d:=up (up (pc B k) 26 (.bool true)) 7 (.int .i64 0)) (by simp (disch:=first|decide|exact hk|(simp only[bC];exact hk))only[dY,jV,a8,w,g 88 (by decide),b 45 (by decide)]) (fun i hi=>by simp (disch:=first|decide|exact hi)only[dY,jV,aK]) ?_
  exact dC (bR (bR (f7 _))) (.inl (by simp (disch:=decide)only[a5])) (by simp (disch:=decide)only[a5]) (by simp (disch:=decide)only[a5]) (.inr (.inl h19)) (he (by omega)) (aIL (.inl h19) hH.2)
 ·have h19:=hS.resolve_left (by decide)
  rw[g 19 (by decide)]at h19
  replace h19:gI (pc B k) 19=2:=h19.symm
  simp only[cQ,dK,eT,dX,dF,h3,h4,h5,w,g 88 (by decide),g 87 (by decide),g 7 (by decide),g 10 (by decide),g 12 (by decide),b 46 (by decide),b 42 (by decide),b 47 (by decide),b 33 (by decide),b 22 (by decide),b 26 (by decide),b 28 (by decide),b 23 (by decide),b 24 (by decide),b 27 (by decide),b 29 (by decide),b 32 (by decide),b 34 (by decide),Bool.and_eq_true,Bool.or_eq_true,Bool.not_eq_true',beq_iff_eq,bne_iff_ne,ne_eq]at hH
  refine one (C:=_) (d:=up (pc B k) 42 (.bool false)) (by simp (disch:=first|decide|exact hk|(simp only[bC];exact hk))only[dY,a8,w,g 88 (by decide),b 45 (by decide)]) (fun i hi=>by simp (disch:=first|decide|exact hi)only[dY,aK]) ?_
  exact dC (bR (f7 _)) (.inl (by simp (disch:=decide)only[a5])) (by simp (disch:=decide)only[a5]) (by simp (disch:=decide)only[a5]) (.inl ⟨by simp (disch:=decide)only[a5],by simp (disch:=decide)only[a5]⟩) (he (by omega)) (pY (.inl ⟨h19,hH.2⟩) hH.1)
 ·have h19:=hS.resolve_left (by decide)
  rw[g 19 (by decide)]at h19
  replace h19:gI (pc B k) 19=2:=h19.symm
  simp only[cQ,dK,eT,dX,dF,h3,h4,h5,w,g 88 (by decide),g 87 (by decide),g 7 (by decide),g 10 (by decide),g 12 (by decide),b 46 (by decide),b 42 (by decide),b 47 (by decide),b 33 (by decide),b 22 (by decide),b 26 (by decide),b 28 (by decide),b 23 (by decide),b 24 (by decide),b 27 (by decide),b 29 (by decide),b 32 (by decide),b 34 (by decide),Bool.and_eq_true,Bool.or_eq_true,Bool.not_eq_true',beq_iff_eq,bne_iff_ne,ne_eq]at hH
  refine one (C:=_) (d:=up (pc B k) 12 (.int .i64 15)) (by simp (disch:=first|decide|exact hk|(simp only[bC];exact hk))only[dY,h5,a8,w,g 88 (by decide),b 45 (by decide)]) (fun i hi=>by simp (disch:=first|decide|exact hi)only[dY,h5,aK]) ?_
  exact dC (bR (f7 _)) (.inl (by simp (disch:=decide)only[a5])) (by simp (disch:=decide)only[a5]) (by simp (disch:=decide)only[a5]) (.inl ⟨by simp (disch:=decide)only[a5],by simp (disch:=decide)only[a5]⟩) (he (by omega)) (yI h19 hH)
 ·have h19:=hS.resolve_left (by decide)
  rw[g 19 (by decide)]at h19
  replace h19:gI (pc B k) 19=3:=h19.symm
  simp only[cQ,dK,eT,dX,dF,h3,h4,h5,w,g 88 (by decide),g 87 (by decide),g 7 (by decide),g 10 (by decide),g 12 (by decide),b 46 (by decide),b 42 (by decide),b 47 (by decide),b 33 (by decide),b 22 (by decide),b 26 (by decide),b 28 (by decide),b 23 (by decide),b 24 (by decide),b 27 (by decide),b 29 (by decide),b 32 (by decide),b 34 (by decide),Bool.and_eq_true,Bool.or_eq_true,Bool.not_eq_true',beq_iff_eq,bne_iff_ne,ne_eq]at hH
  refine one (C:=_) (d:=up (up (up (pc B k) 34 (.bool true)) 31 (.bool true)) 6 (.int .i64 (sQ B k))) (by simp (disch:=first|decide|exact hk|(simp only[bC];exact hk))only[dY,a8,w,g 88 (by decide),b 45 (by decide)]) (fun i hi=>by simp (disch:=first|decide|exact hi)only[dY,aK]) ?_
  exact dC (bR (bR (bR (f7 _)))) (.inr h19) (by simp (disch:=decide)only[a5]) (by simp (disch:=decide)only[a5]) (.inl ⟨by simp (disch:=decide)only[a5],by simp (disch:=decide)only[a5]⟩) (he (by omega)) (aCI h19 hH.1.2 (by unfold sQ;rw[h3];split<;>decide))
 ·have h19:=hS.resolve_left (by decide)
  rw[g 19 (by decide)]at h19
  replace h19:gI (pc B k) 19=3:=h19.symm
  simp only[cQ,dK,eT,dX,dF,h3,h4,h5,w,g 88 (by decide),g 87 (by decide),g 7 (by decide),g 10 (by decide),g 12 (by decide),b 46 (by decide),b 42 (by decide),b 47 (by decide),b 33 (by decide),b 22 (by decide),b 26 (by decide),b 28 (by decide),b 23 (by decide),b 24 (by decide),b 27 (by decide),b 29 (by decide),b 32 (by decide),b 34 (by decide),Bool.and_eq_true,Bool.or_eq_true,Bool.not_eq_true',beq_iff_eq,bne_iff_ne,ne_eq]at hH
  have hq:gB (pc B k) 46=true∨gB (pc B k) 47=false:=by
   cases h47:gB (pc B k) 47
   ·exact .inr rfl
   ·rw[h47,if_pos rfl]at hH;exact .inl hH
  refine one (C:=_) (d:=up (up (up (pc B k) 12 (.int .i64 0)) 47 (.bool true)) 46 (.bool false)) (by simp (disch:=first|decide|exact hk|(simp only[bC];exact hk))only[dY,a8,w,g 88 (by decide),b 45 (by decide)]) (fun i hi=>by simp (disch:=first|decide|exact hi)only[dY,aK]) ?_
  exact dC (bR (bR (bR (f7 _)))) (.inl (by simp (disch:=decide)only[a5])) (by simp (disch:=decide)only[a5]) (by simp (disch:=decide)only[a5]) (.inl ⟨by simp (disch:=decide)only[a5],by simp (disch:=decide)only[a5]⟩) (he (by omega)) (aJ6 h19 hq)
 ·have h19:=hS.resolve_left (by decide)
  rw[g 19 (by decide)]at h19
  replace h19:gI (pc B k) 19=3:=h19.symm
  simp only[cQ,dK,eT,dX,dF,h3,h4,h5,w,g 88 (by decide),g 87 (by decide),g 7 (by decide),g 10 (by decide),g 12 (by decide),b 46 (by decide),b 42 (by decide),b 47 (by decide),b 33 (by decide),b 22 (by decide),b 26 (by decide),b 28 (by decide),b 23 (by decide),b 24 (by decide),b 27 (by decide),b 29 (by decide),b 32 (by decide),b 34 (by decide),Bool.and_eq_true,Bool.or_eq_true,Bool.not_eq_true',beq_iff_eq,bne_iff_ne,ne_eq]at hH
  refine one (C:=_) (d:=up (pc B k) 42 (.bool false)) (by simp (disch:=first|decide|exact hk|(simp only[bC];exact hk))only[dY,a8,w,g 88 (by decide),b 45 (by decide)]) (fun i hi=>by simp (disch:=first|decide|exact hi)only[dY,aK]) ?_
  exact dC (bR (f7 _)) (.inl (by simp (disch:=decide)only[a5])) (by simp (disch:=decide)only[a5]) (by simp (disch:=decide)only[a5]) (.inl ⟨by simp (disch:=decide)only[a5],by simp (disch:=decide)only[a5]⟩) (he (by omega)) (pY (.inr h19) hH.1)
 ·have h19:=hS.resolve_left (by decide)
  rw[g 19 (by decide)]at h19
  replace h19:gI (pc B k) 19=3:=h19.symm
  simp only[cQ,g 12 (by decide),b 46 (by decide),b 42 (by decide),b 47 (by decide),b 26 (by decide),b 28 (by decide),b 24 (by decide),b 32 (by decide)]at hH
  rw[Bool.and_eq_true,Bool.and_eq_true]at hH
  refine one (C:=_) (d:=up (up (up (up (pc B k) 28 (.bool false)) 26 (.bool false)) 24 (.bool false)) 7 (.int .i64 (wt (pc B k)))) (by simp (disch:=first|decide|exact hk|(simp only[bC];exact hk))only[dY,a8,w,g 88 (by decide),b 45 (by decide)]) (fun i hi=>by simp (disch:=first|decide|exact hi)only[dY,aK]) ?_
  exact dC (bR (bR (bR (bR (f7 _))))) (.inl (by simp (disch:=decide)only[a5])) (by simp (disch:=decide)only[a5]) (by simp (disch:=decide)only[a5]) (.inr (.inr h19)) (he (by omega)) (aE4 h19 hH.1.1 hH.2)
 ·have h19:=hS.resolve_left (by decide)
  rw[g 19 (by decide)]at h19
  replace h19:gI (pc B k) 19=3:=h19.symm
  simp only[cQ,dK,eT,dX,dF,h3,h4,h5,w,g 88 (by decide),g 87 (by decide),g 7 (by decide),g 10 (by decide),g 12 (by decide),b 46 (by decide),b 42 (by decide),b 47 (by decide),b 33 (by decide),b 22 (by decide),b 26 (by decide),b 28 (by decide),b 23 (by decide),b 24 (by decide),b 27 (by decide),b 29 (by decide),b 32 (by decide),b 34 (by decide),Bool.and_eq_true,Bool.or_eq_true,Bool.not_eq_true',beq_iff_eq,bne_iff_ne,ne_eq]at hH
  refine one (C:=_) (d:=up (up (pc B k) 28 (.bool true)) 7 (.int .i64 (wt (pc B k)))) (by simp (disch:=first|decide|exact hk|(simp only[bC];exact hk))only[dY,iN,a8,w,g 88 (by decide),b 45 (by decide)]) (fun i hi=>by simp (disch:=first|decide|exact hi)only[dY,iN,aK]) ?_
  exact dC (bR (bR (f7 _))) (.inl (by simp (disch:=decide)only[a5])) (by simp (disch:=decide)only[a5]) (by simp (disch:=decide)only[a5]) (.inr (.inr h19)) (he (by omega)) (aAA (.inr ⟨h19,hH.1.2,hH.1.1.2⟩) hH.2)
 ·have h19:=hS.resolve_left (by decide)
  rw[g 19 (by decide)]at h19
  replace h19:gI (pc B k) 19=3:=h19.symm
  simp only[cQ,dK,eT,dX,dF,h3,h4,h5,w,g 88 (by decide),g 87 (by decide),g 7 (by decide),g 10 (by decide),g 12 (by decide),b 46 (by decide),b 42 (by decide),b 47 (by decide),b 33 (by decide),b 22 (by decide),b 26 (by decide),b 28 (by decide),b 23 (by decide),b 24 (by decide),b 27 (by decide),b 29 (by decide),b 32 (by decide),b 34 (by decide),Bool.and_eq_true,Bool.or_eq_true,Bool.not_eq_true',beq_iff_eq,bne_iff_ne,ne_eq]at hH
  refine one (C:=_) (d:=up (up (up (pc B k) 26 (.bool true)) 7 (.int .i64 0)) 23 (.bool (gB (pc B k) 45))) (by simp (disch:=first|decide|exact hk|(simp only[bC];exact hk))only[dY,jV,a8,w,g 88 (by decide),b 45 (by decide)]) (fun i hi=>by simp (disch:=first|decide|exact hi)only[dY,jV,aK]) ?_
  exact dC (bR (bR (bR (f7 _)))) (.inl (by simp (disch:=decide)only[a5])) (by simp (disch:=decide)only[a5]) (by simp (disch:=decide)only[a5]) (.inr (.inr h19)) (he (by omega)) (by have h1:=aIL (x:=.int .i64 0) (.inr ⟨h19,hH.1.1.2,hH.1.1.1.2⟩) hH.2;have h2:=aLN (c:=up (up (pc B k) 26 (.bool true)) 7 (.int .i64 0)) (v:=.bool (gB (pc B k) 45));omega)
theorem eI{c d:Pc}(h:eV c d)(j:Nat)(v:Value):eV (up c j v) (up d j v):=fun x hx=>by
 unfold up
 split
 ·rfl
 ·exact h x hx
def RxR(c d:Pc):Prop:=∃d0,eV d0 d∧((d0=c∧gP (gB c 2) (gB c 35) (gB c 36) (gI c 6) (gI c 15)=0)∨(d0=up (up (up (up c 35 (.bool false)) 36 (.bool false)) 6 (.int .i64 3)) 15 (.int .i64 0)∧gP (gB c 2) (gB c 35) (gB c 36) (gI c 6) (gI c 15)=1)∨(d0=up (up (up (up c 35 (.bool false)) 36 (.bool true)) 6 (.int .i64 3)) 15 (.int .i64 1)∧gP (gB c 2) (gB c 35) (gB c 36) (gI c 6) (gI c 15)=2))
theorem aE6(en bpdu msg:Bool)(ed rx:Int):gP en bpdu msg ed rx≤2:=by
 unfold gP
 (repeat' split)<;>omega
theorem aE7{B:Br}{k:Nat}(hk:Lk k B):((tD B k).1=false→(tD B k).2=B)∧RxR (pc B k) (pc (tD B k).2 k)∧∀i,i≠k→pc (tD B k).2 i=pc B i:=by
 have e:rxS B k=gP (gB (pc B k) 2) (gB (pc B k) 35) (gB (pc B k) 36) (gI (pc B k) 6) (gI (pc B k) 15):=by
  unfold rxS
  rw[cM (by decide),cM (by decide),cM (by decide),gN (by decide),gN (by decide)]
 have hle:=aE6 (gB (pc B k) 2) (gB (pc B k) 35) (gB (pc B k) 36) (gI (pc B k) 6) (gI (pc B k) 15)
 unfold tD
 rw[e]
 split
 ·rename_i h
  refine⟨fun h=>(by cases h),⟨_,?_,.inr (.inl ⟨rfl,h⟩)⟩,fun i hi=>?_⟩
  ·simp (disch:=first|decide|exact hk|(simp only[bC];exact hk))only[lP,a8]
   refine eI (eI (eI ?_ 36 _) 6 _) 15 _
   exact aP (aP (bJ _))
  ·simp (disch:=first|decide|exact hi)only[lP,aK]
 ·rename_i h1
  split
  ·rename_i h
   refine⟨fun h=>(by cases h),⟨_,?_,.inr (.inr ⟨rfl,h⟩)⟩,fun i hi=>?_⟩
   ·unfold nY
    split
    ·simp (disch:=first|decide|exact hk|(simp only[bC];exact hk))only[nD,a8]
     refine eI (eI (eI (eI ?_ 35 _) 36 _) 6 _) 15 _
     exact aP (aP (bJ _))
    ·simp (disch:=first|decide|exact hk|(simp only[bC];exact hk))only[nE,a8]
     refine eI (eI (eI (eI ?_ 35 _) 36 _) 6 _) 15 _
     exact aP (aP (bJ _))
   ·unfold nY
    split
    ·simp (disch:=first|decide|exact hi)only[nD,aK]
    ·simp (disch:=first|decide|exact hi)only[nE,aK]
  ·rename_i h2
   exact⟨fun _=>rfl,⟨_,bJ _,.inl ⟨rfl,by omega⟩⟩,fun _ _=>rfl⟩
def CL(c:Pc)(M:List Value):Prop:=M.length=89∧eV c (cf M)
theorem CL.set{c:Pc}{M:List Value}(h:CL c M){j:Nat}{v:Value}(hj:j<89:=by decide):CL (up c j v) (M.set j v):=⟨by rw[List.length_set];exact h.1,by rw[aEY (by rw[h.1];exact hj)];exact eI h.2 j v⟩
theorem CL.skip{c:Pc}{M:List Value}(h:CL c M){j:Nat}{v:Value}(hj:j<89:=by decide)(hc:¬(j=2∨j=6∨j=11∨j=15∨j=18∨j=19∨j=26∨j=28∨j=35∨j=36∨j=43∨j=44∨j=50∨j=86∨j=87∨j=88):=by decide):CL c (M.set j v) :=
 ⟨by rw[List.length_set];exact h.1,by rw[aEY (by rw[h.1];exact hj)];exact aP h.2 hc⟩
theorem CL.row{c:Pc}{M l:List Value}(h:CL c M){j:Nat}(hj:(j=68∧l.length=5)∨(j=78∧l.length=4)):CL c (setL M j l):=by
 refine⟨bH h.1 (by omega),fun x hx=>?_⟩
 rw[←h.2 x hx]
 exact eD h.1 (by omega) (by omega)
theorem CL.prop{c:Pc}{M:List Value}(h:CL c M)(p:Bool):CL c (dU p M):=by
 cases p
 ·exact h
 ·exact h.skip
theorem CL.agr{c:Pc}{M:List Value}(h:CL c M)(p:Bool):CL c (iF p M):=by
 cases p
 ·exact h.skip
 ·exact h.skip.skip
theorem CL.chg{c:Pc}{M:List Value}(h:CL c M)(p q:Bool):CL c (l8 p q M):=h.skip.skip
theorem CL.inf{c:Pc}{M:List Value}(h:CL c M)(p:Bool):CL c (aAW p M):=by
 cases p
 ·exact h
 ·exact h.skip.skip
theorem CL.oth{c:Pc}{M:List Value}(h:CL c M)(p:Bool):CL c (aAX p M):=by
 cases p
 ·exact h
 ·exact h.skip
def eX(c:Pc):Nat:=bX (gB c 2) (gI c 86 == 0) (gI c 18 == 0) (gB c 36) (gI c 18 == 1) (gI c 18 == 2) (gB c 44) (gB c 50) (gI c 86 == 3) (gI c 11 == 0)
def oO(c:Pc):Pc:=up (up c 43 (.bool true)) 44 (.bool false)
def InR(c d:Pc):Prop:=∃d0,eV d0 d∧((eX c=0∧d0=c)∨(eX c=1∧d0=up (oO (up (up (up c 36 (.bool false)) 11 (.int .i64 0)) 86 (.int .i64 0))) 18 (.int .i64 0))∨(eX c=2∧d0=up (oO (up c 86 (.int .i64 1))) 18 (.int .i64 1))∨(eX c=3∧d0=up (up (up c 50 (.bool false)) 86 (.int .i64 2)) 18 (.int .i64 2)) ∨
 (eX c=4∧∃e,d0=up (up e 36 (.bool false)) 18 (.int .i64 2)∧(e=c∨(∃z,e=up c 11 (.int .i64 z))∨∃z,e=oO (up (up c 11 (.int .i64 z)) 86 (.int .i64 3)))))
theorem aE8(a b c d e f g h i j:Bool):bX a b c d e f g h i j≤4:=by
 unfold bX
 (repeat' split)<;>omega
theorem s8{B:Br}{k:Nat}(ho:B.ok)(hkn:k<B.np)(hR:lE (a9 B.ps k)):((mJ B k).1=false→(mJ B k).2=B∧eX (pc B k)=0)∧((mJ B k).1=true→eX (pc B k)≠0)∧InR (pc B k) (pc (mJ B k).2 k)∧∀i,i≠k→pc (mJ B k).2 i=pc B i:=by
 have hk:=mT ho hkn
 have hT:=dI ho hkn
 have hl:=nT hT
 have hl':=nT (lT hT hR (B.hb 1))
 have e:iZ (a9 B.ps k)=eX (pc B k):=rfl
 have h0:CL (pc B k) (a9 B.ps k):=⟨hl,bJ _⟩
 have hle:=aE8 (gB (pc B k) 2) (gI (pc B k) 86 == 0) (gI (pc B k) 18 == 0) (gB (pc B k) 36) (gI (pc B k) 18 == 1) (gI (pc B k) 18 == 2) (gB (pc B k) 44) (gB (pc B k) 50) (gI (pc B k) 86 == 3) (gI (pc B k) 11 == 0)
 have own:pc (mJ B k).2 k=cf (lD (B.hb 1) (a9 B.ps k)).2:=by
  show pc (B.setPort k _) k=_
  rw[pV hl' hk,if_pos rfl]
 have oth:∀i,i≠k→pc (mJ B k).2 i=pc B i:=fun i hi=>by
  show pc (B.setPort k _) i=_
  rw[pV hl' hk,if_neg hi]
 refine⟨?_,?_,?_,oth⟩
 ·show(lD (B.hb 1) (a9 B.ps k)).1=false→B.setPort k (lD (B.hb 1) (a9 B.ps k)).2=B∧_
  unfold lD
  rw[e]
  rcases(by unfold eX;omega:eX (pc B k)=0∨eX (pc B k)=1∨eX (pc B k)=2∨eX (pc B k)=3∨eX (pc B k)=4)with h|h|h|h|h<;>rw[h]<;>intro h2
  ·exact⟨eA (fH ho hkn),rfl⟩
  all_goals cases h2
 ·show(lD (B.hb 1) (a9 B.ps k)).1=true→_
  unfold lD
  rw[e]
  intro h2 h
  rw[h]at h2
  cases h2
 ·rw [own]
  unfold lD
  rw[e]
  rcases(by unfold eX;omega:eX (pc B k)=0∨eX (pc B k)=1∨eX (pc B k)=2∨eX (pc B k)=3∨eX (pc B k)=4)with h|h|h|h|h<;>rw[h]
  ·exact⟨_,bJ _,.inl ⟨h,rfl⟩⟩
  ·refine⟨_,?_,.inr (.inl ⟨h,rfl⟩)⟩
   show eV _ (cf (qI (a9 B.ps k)))
   unfold qI nB oO
   exact(h0.set.skip.skip.skip.skip.set.set.set.set.set).2
  ·refine⟨_,?_,.inr (.inr (.inl ⟨h,rfl⟩))⟩
   show eV _ (cf (qJ (a9 B.ps k)))
   unfold qJ nB oO
   exact(h0.set.set.set.set).2
  ·refine⟨_,?_,.inr (.inr (.inr (.inl ⟨h,rfl⟩)))⟩
   show eV _ (cf (lK (a9 B.ps k)))
   unfold lK aGG aDV
   exact((((h0.skip.skip.skip.skip.row (.inl ⟨rfl,rfl⟩)).row (.inr ⟨rfl,rfl⟩)).set.set.skip).set).2
  ·show InR (pc B k) (cf (j7 (B.hb 1) (a9 B.ps k)))
   unfold j7 lJ
   split
   ·refine⟨_,?_,.inr (.inr (.inr (.inr ⟨h,_,rfl,.inr (.inr ⟨dT (pI (a9 B.ps k) 64) (pI (a9 B.ps k) 65) (pI (a9 B.ps k) 66),rfl⟩)⟩)))⟩
    unfold aDU nB oO
    exact((((((((h0.skip.skip.prop _).chg _ _).skip.agr _).skip.row (.inl ⟨rfl,rfl⟩)).row (.inr ⟨rfl,rfl⟩)).set.set.set.set).set).set).2
   ·refine⟨_,?_,.inr (.inr (.inr (.inr ⟨h,_,rfl,.inr (.inl ⟨dT (pI (a9 B.ps k) 64) (pI (a9 B.ps k) 65) (pI (a9 B.ps k) 66),rfl⟩)⟩)))⟩
    exact(((((h0.prop _).chg _ _).agr _).set).set.set).2
   ·refine⟨_,?_,.inr (.inr (.inr (.inr ⟨h,_,rfl,.inl rfl⟩)))⟩
    exact((h0.inf _).set.set).2
   ·refine⟨_,?_,.inr (.inr (.inr (.inr ⟨h,_,rfl,.inl rfl⟩)))⟩
    exact(((h0.agr _).chg _ _).set.set).2
   ·refine⟨_,?_,.inr (.inr (.inr (.inr ⟨h,_,rfl,.inl rfl⟩)))⟩
    exact((h0.oth _).set.set).2
end Go.Proofs.YtpanapepcbbagaaGreat
