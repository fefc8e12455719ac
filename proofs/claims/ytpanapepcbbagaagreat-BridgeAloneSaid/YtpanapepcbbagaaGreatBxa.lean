/- Part 1 of what BridgeRests stands on. No statement is proved here. -/
import Derived.Test.YtpanapepcbbagaaGreatBvw
set_option linter.unusedVariables false
set_option linter.unusedSimpArgs false
set_option maxRecDepth 100000
set_option maxHeartbeats 8000000
namespace Go.Proofs.YtpanapepcbbagaaGreat
open Go.RowKit Go.BigFrame Go.WideShapes Go.ChangeShapes Go.Deep
def PI(B:Br)(k:Nat):Prop:=(0≤B.gi k 14∧B.gi k 14≤6)∧(0≤B.gi k 64∧B.gi k 64≤256)∧(0≤B.gi k 65∧B.gi k 65≤256)∧(0≤B.gi k 66∧B.gi k 66≤256)∧(0≤B.gi k 67∧B.gi k 67≤256)∧(0≤B.gi k 78∧B.gi k 78≤257)∧(B.gi k 86=3→B.gi k 78≤256)∧0≤B.gi k 82∧B.gi k 82≤257
def aLK(B:Br)(l:List Nat):Prop:=l.length=B.no∧∀(i x:Nat),l[i]?=some x→B.os[i*18]?=some (.int .i64 (x:Int))
structure KI (n M:Nat) (s:Nat→Nat) (B:Br):Prop where
 ok:B.ok
 np:B.np=n
 hs:B.hi 2=0∧B.hi 3=20∧B.hi 4=2∧B.hi 5=15∧B.hi 6=6
 h13:0≤B.hi 13∧B.hi 13≤257
 pt:∀k,k<n→PI B k
 out:∃l:List Nat,aLK B l∧(∀x,x∈l→x<n)∧∀k,k<n→((s k+l.count k:Nat):Int)≤B.gi k 14
 nf:B.nf≤M
variable {n M:Nat} {s:Nat→Nat} {B C:Br}
theorem KI.mono(h:KI n M s B){M':Nat}(hM:M≤M'):KI n M' s B:={ h with nf:=Nat.le_trans h.nf hM }
theorem KI.tr(h:KI n M s B):TR (B.hi 2) (B.hi 3) (B.hi 4) (B.hi 5):=by
 obtain⟨a,b,c,d,-⟩:=h.hs
 rw[a,b,c,d]
 unfold TR
 omega
theorem rK:∀(n:Nat) (l:List Nat),(∀x,x∈l→x<n)→(∀k,k<n→l.count k≤6)→l.length≤6*n
 | 0,l,h,_=>by
  cases l with
  | nil=>simp
  | cons x l=>exact absurd (h x (by simp)) (by omega)
 | n+1,l,h,hc=>by
  have h1:=rK n (l.filter (fun x=>x != n)) (fun x hx=>by
   have h2:=List.mem_filter.1 hx
   have h3:=h x h2.1
   have h4:x≠n:=by simpa using h2.2
   omega) (fun k hk=>Nat.le_trans (List.Sublist.count_le k List.filter_sublist) (hc k (by omega)))
  have h3:l.countP (fun a=>decide (¬(a != n)=true))=l.count n:=by
   unfold List.count
   congr 1
   funext x
   by_cases e:x=n<;>simp[e]
  have h2:l.length=l.countP (fun x=>x != n)+l.count n:=by
   rw[←h3]
   exact List.length_eq_countP_add_countP _
  rw[←List.countP_eq_length_filter]at h1
  have h4:=hc n (by omega)
  omega
theorem KI.few(h:KI n M s B)(hn:n≤5):B.no≤30:=by
 obtain⟨l,h1,h2,h3⟩:=h.out
 have:=rK n l h2 (fun k hk=>by
  have h4:=h3 k hk
  have h5:=(h.pt k hk).1.2
  omega)
 rw[h1.1]at this
 omega
theorem PI.fr{k:Nat}(h:PI B k)(hf:Fr FA B C):PI C k:=by
 unfold PI at h ⊢
 rw[hf.gi k (j:=14) (by decide) (by decide),hf.gi k (j:=64) (by decide) (by decide),hf.gi k (j:=65) (by decide) (by decide),hf.gi k (j:=66) (by decide) (by decide),hf.gi k (j:=67) (by decide) (by decide),hf.gi k (j:=78) (by decide) (by decide),hf.gi k (j:=86) (by decide) (by decide),hf.gi k (j:=82) (by decide) (by decide)]
 exact h
theorem KI.fr(h:KI n M s B)(hf:Fr FA B C)(ok:C.ok):KI n (M+1) s C:=by
 obtain⟨l,⟨h1,h1'⟩,h2,h3⟩:=h.out
 refine⟨ok,hf.np.trans h.np,?_,?_,fun k hk=>(h.pt k hk).fr hf,⟨l,⟨by rw[hf.no];exact h1,fun i x hx=>by rw[hf.os];exact h1' i x hx⟩,h2,fun k hk=>?_⟩,Nat.le_trans hf.nf (by have:=h.nf;omega)⟩
 ·rw[hf.hi,hf.hi,hf.hi,hf.hi,hf.hi];exact h.hs
 ·rw[hf.hi];exact h.h13
 ·rw[hf.gi k (j:=14) (by decide) (by decide)];exact h3 k hk
theorem KI.fr0(h:KI n M s B)(hf:Fr FA B C)(ok:C.ok)(hnf:C.nf=B.nf):KI n M s C:={ h.fr hf ok with nf:=by rw[hnf];exact h.nf }
theorem gX{k i j:Nat}{l:List Value}(hl:l.length=89)(hk:k*89+89≤B.ps.length)(hj:j<89)(hi:i≠k):(B.setPort k l).gi i j=B.gi i j:=by
 unfold Br.gi
 rw[eR hl hk,if_neg (by omega)]
theorem zS{L L':List Value}{j:Nat}(h:L'[j]?=L[j]?):pI L' j=pI L j:=by unfold pI;rw[h]
theorem pU{L:List Value}{j:Nat}{x:Int}(h:L[j]?=some (.int .i64 x)):pI L j=x:=by unfold pI;rw[h]
theorem KI.inf(h:KI n M s B){k:Nat}(hk:k<n):KI n M s (mJ B k).2:=by
 have hkp:k<B.np:=by rw[h.np];exact hk
 have hp:=h.pt k hk
 have hT:=dI h.ok hkp
 have hl:=nT hT
 have h89:=fH h.ok hkp
 have e:∀j,j<89→pI (a9 B.ps k) j=B.gi k j:=fun j hj=>jI hj
 have hR:lE (a9 B.ps k):=by
  unfold lE TF
  rw[e 64 (by decide),e 65 (by decide),e 66 (by decide),e 67 (by decide)]
  unfold PI at hp
  omega
 have hT':=lT hT hR (B.hb 1)
 have hl':=nT hT'
 obtain⟨hc,hi⟩:=aJ2 hl (B.hb 1)
 obtain⟨M',hM⟩:∃M',(lD (B.hb 1) (a9 B.ps k)).2=M':=⟨_,rfl⟩
 have hok:=aHE h.ok hkp hR
 have hF:(mJ B k).2=B.setPort k M':=by rw[←hM];rfl
 rw[hF]at hok ⊢
 rw[hM]at hl' hc hi
 have g:∀j,j<89→(B.setPort k M').gi k j=pI M' j:=fun j hj=>lU hl' h89 hj
 have gc:∀j,KC j→(B.setPort k M').gi k j=B.gi k j:=fun j hj=>by
  have hj89:j<89:=by unfold KC at hj;omega
  rw[g j hj89,zS (hc j hj),e j hj89]
 have go:∀i j,i≠k→j<89→(B.setPort k M').gi i j=B.gi i j:=fun i j hi hj=>gX hl' h89 hj hi
 obtain⟨l,⟨h1,h1'⟩,h2,h3⟩:=h.out
 refine⟨hok,h.np,h.hs,h.h13,fun i hi'=>?_,⟨l,⟨h1,h1'⟩,h2,fun i hi'=>?_⟩,h.nf⟩
 ·by_cases hik:i=k
  ·subst hik
   unfold PI at hp ⊢
   rw[gc 14 (by unfold KC;omega),gc 64 (by unfold KC;omega),gc 65 (by unfold KC;omega),gc 66 (by unfold KC;omega),gc 67 (by unfold KC;omega),gc 82 (by unfold KC;omega),g 78 (by decide),g 86 (by decide)]
   rcases hi with ⟨a,b⟩|⟨a,b⟩|⟨a,b⟩
   ·rw[zS a,e 78 (by decide)]
    rcases b with b|b|b
    ·rw[zS b,e 86 (by decide)];exact hp
    ·rw[pU b];omega
    ·rw[pU b];omega
   ·rw[pU a,pU b,e 82 (by decide)];omega
   ·rw[pU a,pU b,e 64 (by decide)];omega
  ·have hq:=h.pt i hi'
   unfold PI at hq ⊢
   rw[go i 14 hik (by decide),go i 64 hik (by decide),go i 65 hik (by decide),go i 66 hik (by decide),go i 67 hik (by decide),go i 82 hik (by decide),go i 78 hik (by decide),go i 86 hik (by decide)]
   exact hq
 ·by_cases hik:i=k
  ·subst hik;rw[gc 14 (by unfold KC;omega)];exact h3 i hi'
  ·rw[go i 14 hik (by decide)];exact h3 i hi'
theorem aEX{k:Nat}{rp id:Int}{L:List Value}{j:Nat}(h:88≠j)(h2:50≠j):(chL k rp id L)[j]?=L[j]?:=by
 have d:∀(a b:Bool) (X:List Value),(dsL a b X)[j]?=X[j]?:=fun a b X=>by
  unfold dsL
  split
  ·exact aF h
  ·exact(aF h2).trans (aF h)
 unfold chL
 repeat' split
 all_goals first|exact aF h|exact(aF h2).trans (aF h)|exact(d _ _ _).trans (aF h2)|exact d _ _ _|rfl
theorem aJ3{k:Nat}{L:List Value}(hl:L.length=89){j:Nat}(hj:j≠44∧j≠88∧j≠50∧(j<73∨78≤j)∧(j<82∨86≤j)):(stL B k L)[j]?=L[j]?:=by
 unfold stL lI
 rw[aF (by omega),aEX (by omega) (by omega),aF (by omega),eD (bH hl (by exact(by decide:73+5≤89))) (by exact(by decide:82+4≤89)) (by show j<82∨82+4≤j;omega),eD hl (by exact(by decide:73+5≤89)) (by show j<73∨73+5≤j;omega)]
theorem aJ4{k:Nat}{L:List Value}(hl:L.length=89):(stL B k L)[82]?=some (.int .i64 (B.hi 13)):=by
 unfold stL lI
 rw[aF (by decide),aEX (by decide) (by decide),aF (by decide),eB (by rw[bH hl (by exact(by decide:73+5≤89))];exact(by decide:82+4≤89)),if_pos (by exact(by decide:82≤82∧82<82+4))]
 rfl
theorem zT(ho:B.ok):∀m,m≤B.np→(∀i j,i<B.np→(j=14∨(51≤j∧j<73)∨j=78∨j=86)→(eF B m).gi i j=B.gi i j)∧(∀i,i<m→(eF B m).gi i 82=B.hi 13)∧(∀i,m≤i→i<B.np→(eF B m).gi i 82=B.gi i 82)
 | 0,_=>⟨fun _ _ _ _=>rfl,fun i hi=>absurd hi (by omega),fun _ _ _=>rfl⟩
 | m+1,hm=>by
  obtain⟨a,b,c⟩:=zT ho m (by omega)
  have okm:=k6 ho m (by omega)
  have hnp:=j5 B m
  have hmk:m<(eF B m).np:=by rw[hnp];omega
  have hl:=nT (dI okm hmk)
  have h89:=fH okm hmk
  have hl':(stL B m (a9 (eF B m).ps m)).length=89:=nT (k4 ho (dI okm hmk))
  have e:(eF B (m+1))=(eF B m).setPort m (stL B m (a9 (eF B m).ps m)):=rfl
  rw[e]
  refine⟨fun i j hi hj=>?_,fun i hi=>?_,fun i hi hi2=>?_⟩
  ·have hj89:j<89:=by omega
   by_cases him:i=m
   ·subst him
    rw[lU hl' h89 hj89,zS (aJ3 hl (by omega)),jI hj89]
    exact a i j hi hj
   ·rw[gX hl' h89 hj89 him]
    exact a i j hi hj
  ·by_cases him:i=m
   ·subst him
    rw[lU hl' h89 (by decide),pU (aJ4 hl)]
   ·rw[gX hl' h89 (by decide) him]
    exact b i (by omega)
  ·rw[gX hl' h89 (by decide) (by omega)]
   exact c i (by omega) hi2
theorem vL(B:Br):∀m,(fC B m).at_=-1∨∃k:Nat,k<m∧(fC B m).at_=k∧B.gi k 86=3
 | 0=>.inl rfl
 | m+1=>by
  unfold fC
  split
  ·rename_i h
   refine .inr ⟨m,by omega,rfl,?_⟩
   simp only[Bool.and_eq_true,hZ,beq_iff_eq]at h
   exact h.1.1
  ·rcases vL B m with h|⟨k,hk,h1,h2⟩
   ·exact .inl h
   ·exact .inr ⟨k,by omega,h1,h2⟩
theorem KI.sel(h:KI n M s B)(hn:n<1000):KI n M s (gA B).2:=by
 have hR:∀k,k<B.np→0≤B.gi k 78∧B.gi k 78≤65535:=fun k hk=>by
  have:=h.pt k (by rw[←h.np];exact hk)
  unfold PI at this
  omega
 have hok:=aHF h.ok (by rw[h.np];exact hn) hR
 have hf:Fr FA B (lW B B.np):=Fr.upd (Fr.rf _ B) (by decide) (by decide) _
 have okN:=o4 h.ok (Nat.le_refl B.np)
 have hN:=h.fr0 hf okN ((kW B 43 _ _).2.2.1)
 unfold gA at hok ⊢
 split
 ·rename_i hany
  rw[if_pos hany]at hok
  obtain⟨N,hNe⟩:∃N,lW B B.np=N:=⟨_,rfl⟩
  rw[hNe]at hok hN okN ⊢
  have hnp:B.np=N.np:=by rw[h.np,hN.np]
  rw[hnp]at hok ⊢
  have npN:=hN.np
  have ok2:(dO N).ok:=pR okN (by rw[npN];exact hn) (fun k hk=>by
   have:=hN.pt k (by rw[←npN];exact hk)
   unfold PI at this
   omega)
  have hl17:N.hd.length=17:=okN.hd.1
  have hl17b:(cR N).hd.length=17:=by
   unfold cR Br.sethr
   show(setL (setL N.hd 7 _) 12 _).length=17
   rw[fJ (by rw[fJ (by rw[hl17];exact(by decide:7+5≤17))];rw[hl17];exact(by decide:12+1≤17)),fJ (by rw[hl17];exact(by decide:7+5≤17)),hl17]
  have hlt:∀j,j<7→(dO N).hi j=N.hi j:=fun j hj=>by
   unfold Br.hi
   have e:(dO N).hd[j]?=N.hd[j]?:=by
    show(setL (setL (setL N.hd 7 _) 12 _) 13 (wK (cR N) (iX N).at_))[j]?=_
    have hr4:(wK (cR N) (iX N).at_).length=4:=by unfold wK;split<;>rfl
    have hb:(setL (setL N.hd 7 (iX N).cells.toList) 12 [Value.int IntKind.i64 (iX N).at_]).length=17:=hl17b
    have ha:(setL N.hd 7 (iX N).cells.toList).length=17:=by rw[fJ (by rw[hl17];exact(by decide:7+5≤17)),hl17]
    rw[eB (by rw[hb,hr4];omega),if_neg (by omega),eB (by rw[ha];exact(by decide:12+1≤17)),if_neg (by omega),eB (by rw[hl17];exact(by decide:7+5≤17)),if_neg (by omega)]
   rw[e]
  have h13:0≤(dO N).hi 13∧(dO N).hi 13≤257:=by
   have hr4:(wK (cR N) (iX N).at_).length=4:=by unfold wK;split<;>rfl
   have e:(dO N).hi 13=pI (wK (cR N) (iX N).at_) 0:=nW hl17b (by rw[hr4];decide) (by decide) (by rw[hr4];decide)
   rw[e]
   unfold wK
   split
   ·show 0≤(cR N).hi 2∧(cR N).hi 2≤257
    have e2:(cR N).hi 2=N.hi 2:=by
     unfold Br.hi
     have ha:(setL N.hd 7 (iX N).cells.toList).length=17:=by rw[fJ (by rw[hl17];exact(by decide:7+5≤17)),hl17]
     have e3:(cR N).hd[2]?=N.hd[2]?:=by
      show(setL (setL N.hd 7 _) 12 _)[2]?=_
      rw[eB (by rw[ha];exact(by decide:12+1≤17)),if_neg (fun h=>absurd h.1 (by decide)),eB (by rw[hl17];exact(by decide:7+5≤17)),if_neg (fun h=>absurd h.1 (by decide))]
     rw[e3]
    rw[e2,hN.hs.1]
    omega
   ·rename_i hneg
    rcases vL N N.np with h1|⟨k,hk,h1,h2⟩
    ·exact absurd (show(iX N).at_<0 by unfold iX;rw[h1];omega) hneg
    ·have e4:(iX N).at_.toNat=k:=by unfold iX;rw[h1];rfl
     show 0≤(cR N).gi (iX N).at_.toNat 78+1∧(cR N).gi (iX N).at_.toNat 78+1≤257
     rw[e4]
     have e5:(cR N).gi k 78=N.gi k 78:=rfl
     rw[e5]
     have:=hN.pt k (by rw[←npN];exact hk)
     unfold PI at this
     omega
  obtain⟨ga,gb,-⟩:=zT ok2 N.np (Nat.le_refl _)
  have np2:(dO N).np=N.np:=rfl
  have gs:∀i j,(dO N).gi i j=N.gi i j:=fun _ _=>rfl
  obtain⟨l,⟨h1,h1'⟩,h2,h3⟩:=hN.out
  have hrest:=nJ (dO N) N.np
  refine⟨hok,(j5 _ _).trans (np2.trans npN),?_,?_,fun k hk=>?_,⟨l,⟨by rw[hrest.1];exact h1,fun i x hx=>by rw[hrest.2.1];exact h1' i x hx⟩,h2,fun k hk=>?_⟩,by rw[hrest.2.2.1];exact hN.nf⟩
  ·have e:∀j,(eF (dO N) N.np).hi j=(dO N).hi j:=fun j=>by unfold Br.hi;rw[oK]
   rw[e,e,e,e,e,hlt 2 (by decide),hlt 3 (by decide),hlt 4 (by decide),hlt 5 (by decide),hlt 6 (by decide)]
   exact hN.hs
  ·have e:(eF (dO N) N.np).hi 13=(dO N).hi 13:=by unfold Br.hi;rw[oK]
   rw[e]
   exact h13
  ·have hk2:k<(dO N).np:=by rw[np2,npN];exact hk
   have hp:=hN.pt k hk
   unfold PI at hp ⊢
   rw[ga k 14 hk2 (by omega),ga k 64 hk2 (by omega),ga k 65 hk2 (by omega),ga k 66 hk2 (by omega),ga k 67 hk2 (by omega),ga k 78 hk2 (by omega),ga k 86 hk2 (by omega),gb k (by rw[npN];exact hk),gs,gs,gs,gs,gs,gs,gs]
   omega
  ·have hk2:k<(dO N).np:=by rw[np2,npN];exact hk
   rw[ga k 14 hk2 (by omega),gs]
   exact h3 k hk
 ·exact hN
theorem KI.txc(h:KI n M s B){k:Nat}(hk:k<n):KI n M s (gM B k):=by
 have hkp:k<B.np:=by rw[h.np];exact hk
 refine h.fr0 ?_ (yE h.ok hkp) ?_
 ·unfold gM
  split
  ·exact((Fr.rf _ B).setp (by decide) (by decide)).setp (by decide) (by decide)
  ·exact(Fr.rf _ B).setp (by decide) (by decide)
 ·unfold gM
  split<;>rfl
theorem gi_sent(B:Br)(k:Nat)(kd:Int)(i j:Nat):(B.sent k kd).gi i j=B.gi i j:=rfl
theorem KI.txn(h:KI n M s B){k:Nat}(hk:k<n)(hlt:B.gi k 14<6)(hn:n<1000):KI n M s (kE B k):=by
 have hkp:k<B.np:=by rw[h.np];exact hk
 have hp:=(h.pt k hk).1
 have hok:=aCD h.ok hkp (by omega) (by omega)
 obtain⟨kd,hkd⟩:∃x,iA (B.gb k 45) (B.gi k 87)=x:=⟨_,rfl⟩
 have e:∃C,Fr FA (B.sent k kd) C∧C.nf=B.nf∧kE B k=(C.setp k 14 (.int .i64 (B.gi k 14+1))).setp k 8 (.int .i64 (B.hi 4)):=by
  unfold kE dZ
  rw[hkd]
  split
  ·exact⟨_,(Fr.rf _ _).setp (by decide) (by decide),rfl,rfl⟩
  ·exact⟨_,((Fr.rf _ _).setp (by decide) (by decide)).setp (by decide) (by decide),rfl,rfl⟩
 obtain⟨C,hf,hnf,hE⟩:=e
 rw[hE]at hok ⊢
 obtain⟨y,hy⟩:∃y,B.gi k 14+1=y:=⟨_,rfl⟩
 rw[hy]at hok ⊢
 have l89:=fH h.ok hkp
 have lC:k*89+14<C.ps.length:=by
  have h1:=hf.ps k 14 (by decide) (by decide)
  have h2:(B.sent k kd).ps[k*89+14]?=B.ps[k*89+14]?:=rfl
  have h3:=List.getElem?_eq_getElem (l:=B.ps) (i:=k*89+14) (by omega)
  rw[h2,h3]at h1
  exact(List.getElem?_eq_some_iff.1 h1).1
 have g:∀i j,j<89→FA j=false→(i≠k∨j≠14)→((C.setp k 14 (.int .i64 y)).setp k 8 (.int .i64 (B.hi 4))).gi i j=B.gi i j:=fun i j hj hA hne=>by
  have h8:j≠8:=fun e=>by subst e;exact absurd hA (by decide)
  have e1:((C.setp k 14 (.int .i64 y)).setp k 8 (.int .i64 (B.hi 4))).ps[i*89+j]?=C.ps[i*89+j]?:=by
   show((C.ps.set (k*89+14) _).set (k*89+8) _)[i*89+j]?=_
   rw[List.getElem?_set_ne (by omega),List.getElem?_set_ne (by omega)]
  unfold Br.gi
  rw[e1,hf.ps i j hj hA]
  rfl
 have g14:((C.setp k 14 (.int .i64 y)).setp k 8 (.int .i64 (B.hi 4))).gi k 14=y:=by
  unfold Br.gi
  have e1:((C.setp k 14 (.int .i64 y)).setp k 8 (.int .i64 (B.hi 4))).ps[k*89+14]?=some (.int .i64 y):=by
   show((C.ps.set (k*89+14) _).set (k*89+8) _)[k*89+14]?=_
   rw[List.getElem?_set_ne (by omega),List.getElem?_set_self lC]
  rw[e1]
 obtain⟨l,⟨h1,h1'⟩,h2,h3⟩:=h.out
 refine⟨hok,hf.np.trans h.np,?_,?_,fun i hi=>?_,⟨l++[k],⟨?_,fun i x hx=>?_⟩,fun x hx=>?_,fun i hi=>?_⟩,?_⟩
 ·show C.hi 2=0∧C.hi 3=20∧C.hi 4=2∧C.hi 5=15∧C.hi 6=6
  rw[hf.hi,hf.hi,hf.hi,hf.hi,hf.hi]
  exact h.hs
 ·show 0≤C.hi 13∧C.hi 13≤257
  rw[hf.hi]
  exact h.h13
 ·have hq:=h.pt i hi
  unfold PI at hq ⊢
  rw[g i 64 (by decide) (by decide) (by omega),g i 65 (by decide) (by decide) (by omega),g i 66 (by decide) (by decide) (by omega),g i 67 (by decide) (by decide) (by omega),g i 78 (by decide) (by decide) (by omega),g i 86 (by decide) (by decide) (by omega),g i 82 (by decide) (by decide) (by omega)]
  by_cases hik:i=k
  ·subst hik
   rw[g14]
   omega
  ·rw[g i 14 (by decide) (by decide) (.inl hik)]
   exact hq
 ·show(l++[k]).length=C.no
  rw[hf.no,List.length_append,h1]
  rfl
 ·show C.os[i*18]?=_
  rw[hf.os]
  show(B.os++dB k (aZ B k kd))[i*18]?=_
  have ho:=h.ok.os.1
  have h18:B.os.length=B.no*18:=ho
  by_cases hil:i<l.length
  ·rw[List.getElem?_append_left (by omega)]
   rw[List.getElem?_append_left hil]at hx
   exact h1' i x hx
  ·rw [List.getElem?_append_right (by omega)]at hx
   have hi0:i - l.length=0:=by
    have:=(List.getElem?_eq_some_iff.1 hx).1
    simp at this
    omega
   rw[hi0]at hx
   obtain rfl:k=x:=by simpa using hx
   rw[List.getElem?_append_right (by omega),show i*18 - B.os.length=0 from by omega]
   rfl
 ·rcases List.mem_append.1 hx with hx|hx
  ·exact h2 x hx
  ·obtain rfl:x=k:=by simpa using hx
   exact hk
 ·rw [List.count_append,List.count_singleton]
  have h4:=h3 i hi
  by_cases hik:i=k
  ·subst hik
   rw[g14]
   simp
   omega
  ·rw[g i 14 (by decide) (by decide) (.inl hik),if_neg (by simpa using fun e:k=i=>hik e.symm)]
   exact h4
 ·show C.nf≤M
  rw[hnf]
  exact h.nf
theorem KI.tx(h:KI n M s B){k:Nat}(hk:k<n)(hn:n<1000):KI n M s (wC B k).2:=by
 rcases aCE B k with e|e|⟨e,hlt⟩
 ·rw[e];exact h
 ·rw[e];exact h.txc hk
 ·rw[e]
  rw[h.hs.2.2.2.2]at hlt
  exact h.txn hk hlt hn
end Go.Proofs.YtpanapepcbbagaaGreat
namespace Go.Proofs.YtpanapepcbbagaaGreat
open Go.RowKit Go.BigFrame Go.WideShapes Go.ChangeShapes Go.Deep
abbrev Pc:=Nat→Option Value
def gB(c:Pc)(j:Nat):Bool:=match c j with|some (.bool z)=>z|_=>false
def gI(c:Pc)(j:Nat):Int:=match c j with|some (.int _ z)=>z|_=>0
def up(c:Pc)(j:Nat)(v:Value):Pc:=fun x=>if x=j then some v else c x
def cf(L:List Value):Pc:=fun j=>L[j]?
def pc(B:Br)(k:Nat):Pc:=cf (a9 B.ps k)
theorem a5(c:Pc){j x:Nat}(v:Value)(h:x≠j):up c j v x=c x:=if_neg h
def vB:Value→Bool|.bool z=>z|_=>false
def vI:Value→Int|.int _ z=>z|_=>0
theorem aCF(z:Bool):vB (.bool z)=z:=rfl
theorem aA6(K:IntKind)(z:Int):vI (.int K z)=z:=rfl
theorem bE(c:Pc)(j x:Nat)(v:Value):gB (up c j v) x=if x=j then vB v else gB c x:=by
 unfold gB up
 by_cases h:x=j
 ·rw[if_pos h,if_pos h]
  cases v<;>rfl
 ·rw[if_neg h,if_neg h]
theorem aV(c:Pc)(j x:Nat)(v:Value):gI (up c j v) x=if x=j then vI v else gI c x:=by
 unfold gI up
 by_cases h:x=j
 ·rw[if_pos h,if_pos h]
  cases v<;>rfl
 ·rw[if_neg h,if_neg h]
theorem cM{B:Br}{k j:Nat}(hj:j<89):B.gb k j=gB (pc B k) j:=(aHB hj).symm
theorem gN{B:Br}{k j:Nat}(hj:j<89):B.gi k j=gI (pc B k) j:=(jI hj).symm
theorem aEY{L:List Value}{j:Nat}(h:j<L.length)(v:Value):cf (L.set j v)=up (cf L) j v:=by
 funext x
 unfold cf up
 rw[List.getElem?_set]
 by_cases e:x=j
 ·subst e
  rw[if_pos rfl,if_pos rfl,if_pos h]
 ·rw[if_neg e,if_neg (fun h=>e h.symm)]
theorem jZ{B:Br}{k j:Nat}(hj:j<89):pc B k j=B.ps[k*89+j]?:=aI hj
theorem iB{B:Br}{k j:Nat}(hj:89≤j):pc B k j=none:=List.getElem?_eq_none (by simp[a9];omega)
theorem aEZ{B C:Br}{i k:Nat}(h:∀j,j<89→C.ps[i*89+j]?=B.ps[k*89+j]?):pc C i=pc B k:=by
 funext j
 by_cases hj:j<89
 ·rw[jZ hj,jZ hj,h j hj]
 ·rw[iB (by omega),iB (by omega)]
def Lk(k:Nat)(B:Br):Prop:=k*89+89≤B.ps.length
theorem bC{k i j:Nat}{v:Value}{B:Br}:Lk k (B.setp i j v)↔Lk k B:=by
 unfold Lk Br.setp
 rw[List.length_set]
theorem a8{B:Br}{k j:Nat}{v:Value}(h:Lk k B)(hj:j<89):pc (B.setp k j v) k=up (pc B k) j v:=by
 funext x
 unfold up Lk at *
 by_cases hx:x<89
 ·rw [jZ hx]
  show(B.ps.set (k*89+j) v)[k*89+x]?=_
  by_cases e:x=j
  ·subst e
   rw[if_pos rfl,List.getElem?_set_self (by omega)]
  ·rw[if_neg e,List.getElem?_set_ne (by omega),jZ hx]
 ·rw[iB (by omega),if_neg (by omega),iB (by omega)]
theorem aK{B:Br}{k i j:Nat}{v:Value}(h:i≠k)(hj:j<89):pc (B.setp k j v) i=pc B i :=
 aEZ fun x hx=>List.getElem?_set_ne (by omega)
theorem yF{B:Br}{j:Nat}(hj:j<89)(v:Value){n i:Nat}(h:n*89≤B.ps.length):pc (B.upd j (fun _=>v) n) i=if i<n then up (pc B i) j v else pc B i:=by
 funext x
 by_cases hx:x<89
 ·rw [jZ hx,l6 B hj _ h hx]
  by_cases hi:i<n
  ·rw[if_pos hi]
   unfold up
   by_cases e:x=j
   ·rw[if_pos ⟨e,hi⟩,if_pos e]
   ·rw[if_neg (fun h=>e h.1),if_neg e,jZ hx]
  ·rw[if_neg (fun h=>hi h.2),if_neg hi,jZ hx]
 ·rw[iB (by omega)]
  split
  ·rw[a5 _ _ (by omega),iB (by omega)]
  ·rw[iB (by omega)]
theorem zU{B:Br}{k:Nat}(m:Nat):(kL B k m).ps.length=B.ps.length:=by
 induction m with
 | zero=>rfl
 | succ m ih =>
  unfold kL
  split
  ·exact ih
  ·show(List.set _ _ _).length=_
   rw[List.length_set,ih]
theorem yG{B:Br}{k i:Nat}:∀n,n*89≤B.ps.length→pc (kL B k n) i=if i<n∧i≠k then up (pc B i) 49 (.bool true)else pc B i
 | 0,_=>by
  rw[if_neg (by omega)]
  rfl
 | n+1,h=>by
  have hl:∀m,(kL B k m).ps.length=B.ps.length:=zU
  have IH:=yG (B:=B) (k:=k) (i:=i) n (by omega)
  unfold kL
  by_cases hnk:n=k
  ·rw[if_pos hnk,IH]
   by_cases hi:i<n∧i≠k
   ·rw[if_pos hi,if_pos ⟨by omega,hi.2⟩]
   ·rw[if_neg hi,if_neg (by omega)]
  ·rw [if_neg hnk]
   by_cases hin:i=n
   ·subst hin
    rw[a8 (by unfold Lk;rw[hl];omega) (by decide),IH,if_neg (by omega),if_pos ⟨by omega,hnk⟩]
   ·rw[aK hin (by decide),IH]
    by_cases hi:i<n∧i≠k
    ·rw[if_pos hi,if_pos ⟨by omega,hi.2⟩]
    ·rw[if_neg hi,if_neg (by omega)]
theorem pV{B:Br}{k i:Nat}{l:List Value}(hl:l.length=89)(hk:Lk k B):pc (B.setPort k l) i=if i=k then cf l else pc B i:=by
 unfold Lk at hk
 by_cases hi:i=k
 ·subst hi
  rw[if_pos rfl]
  unfold pc
  rw[mS hl hk]
 ·rw[if_neg hi]
  exact aEZ fun x hx=>by rw[eR hl hk,if_neg (by omega)]
theorem mT{B:Br}(ho:B.ok){k:Nat}(hk:k<B.np):Lk k B:=fH ho hk
structure Did (k:Nat) (B:Br) (r:Bool × Br) (R:Pc→Pc→Prop) (E:Pc→Pc→Prop):Prop where
 no:r.1=false→r.2=B
 own:r.1=true→R (pc B k) (pc r.2 k)
 oth:∀i,i≠k→pc r.2 i=pc B i∨(r.1=true∧E (pc B i) (pc r.2 i))
theorem Did.none{k:Nat}{B:Br}{R E:Pc→Pc→Prop}:Did k B (false,B) R E:=⟨fun _=>rfl,fun h=>(by cases h),fun _ _=>.inl rfl⟩
theorem Did.yes{k:Nat}{B C:Br}{R E:Pc→Pc→Prop}(h:R (pc B k) (pc C k))(ho:∀i,i≠k→pc C i=pc B i):Did k B (true,C) R E:=⟨fun h=>(by cases h),fun _=>h,fun i hi=>.inl (ho i hi)⟩
end Go.Proofs.YtpanapepcbbagaaGreat
