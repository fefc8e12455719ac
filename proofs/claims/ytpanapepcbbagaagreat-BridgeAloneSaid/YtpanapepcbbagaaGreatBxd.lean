/- Part 4 of what BridgeRests stands on. No statement is proved here. -/
import Derived.Maps.AppendAt
import Derived.Laws.ComplexArith
import Derived.ChangeSlices
import Derived.Deep.OwnRows
import Derived.Sort.AssemblyPlain
import Derived.Deep.CutRange
import Derived.Sort.LotC
import Derived.Sort.LotD5
import Derived.Laws.Bits64
import Derived.Laws.Bits64b
import Derived.Sort.LotD4
import Derived.Shelf.Slices.CompactI
import Derived.Shelf.Slices.Clone
import Derived.DeepKeys5
import Derived.Laws.Rows
import Derived.Laws.FloatArith
import Derived.Test.YtpanapepcbbagaaGreatBxc
set_option linter.unusedVariables false
set_option linter.unusedSimpArgs false
set_option maxRecDepth 100000
set_option maxHeartbeats 8000000
namespace Go.Proofs.YtpanapepcbbagaaGreat
open Go.RowKit Go.BigFrame Go.WideShapes Go.ChangeShapes Go.Deep
def WB(N:Nat→Prop)(X g:Nat)(B:Br)(w:World):Prop:=BrG w (fun n=>N n∧n<w.heap.size) X g B
def stF:Nat→FuncId
 | 0=>37
 | 1=>38
 | 2=>39
 | 3=>40
 | 4=>41
 | 5=>42
 | 6=>43
 | _=>44
def aIM:Array Value:=#[.func (.func 37) #[] #[],.func (.func 38) #[] #[],.func (.func 39) #[] #[],.func (.func 40) #[] #[],.func (.func 41) #[] #[],.func (.func 42) #[] #[],.func (.func 43) #[] #[],.func (.func 44) #[] #[]]
theorem aLP(j:Nat)(hj:j<8)(w:World):(Instr.index 85 (.agg aIM) (.int .i64 (j:Int))).run Tryz.prog w=.ok (.func (.func (stF j)) #[] #[]) w:=by
 rcases(by omega:j=0∨j=1∨j=2∨j=3∨j=4∨j=5∨j=6∨j=7)with rfl|rfl|rfl|rfl|rfl|rfl|rfl|rfl<;>kernel_rfl
theorem aHP(j:Nat)(hj:j<8)(v u:Value)(w:World):(callFunc (stF j) #[v,u]).run Tryz.prog w=.ok (Next.enter (stF j) #[v,u]) w:=by
 rcases(by omega:j=0∨j=1∨j=2∨j=3∨j=4∨j=5∨j=6∨j=7)with rfl|rfl|rfl|rfl|rfl|rfl|rfl|rfl<;>kernel_rfl
theorem aE9:Tryz.prog.built 85 [(0,.func (.func 37) #[] #[]),(1,.func (.func 38) #[] #[]),(2,.func (.func 39) #[] #[]),(3,.func (.func 40) #[] #[]),(4,.func (.func 41) #[] #[]),(5,.func (.func 42) #[] #[]),(6,.func (.func 43) #[] #[]),(7,.func (.func 44) #[] #[])]=some aIM:=by kernel_rfl
def So(N:Nat→Prop)(X g:Nat)(R:Bool→Br→Prop)(w:World)(e:Ending)(w':World):Prop:=∃d B,e=.returned (.bool d)∧WB N X g B w'∧Mut (fun n=>N n) w w'∧R d B
structure Rel (N:Nat→Prop) (X g n:Nat) (S:Br→Prop) (J:Nat→Nat→Nat→Br→Prop):Prop where
 pre:∀B,S B→B.ok∧B.np=n
 sel:∀B w,(∀n,w.heap.size≤n→N n)→S B→WB N X g B w→Calls Tryz.prog 36 #[.pointer (some ⟨X,0,none⟩)] w (So N X g (fun d B'=>J 0 0 d.toNat B') w)
 st:∀k j c B w,(∀n,w.heap.size≤n→N n)→k<n→j<8→J k j c B→WB N X g B w→Calls Tryz.prog (stF j) #[.pointer (some ⟨X,0,none⟩),.int .i64 (k:Int)] w (So N X g (fun d B'=>J k (j+1) (c+d.toNat) B') w)
 next:∀k c B,k<n→J k 8 c B→J (k+1) 0 c B
 okJ:∀k c B,J k 0 c B→B.ok∧B.np=n
theorem iT{N:Nat→Prop}{X g n:Nat}{S:Br→Prop}{J:Nat→Nat→Nat→Br→Prop}(hJ:Rel N X g n S J)(hn:n≤5)(hn0:0<n)(B:Br)(w:World)(hQ:∀n,w.heap.size≤n→N n)(h:WB N X g B w)(hS:S B):
    Calls Tryz.prog 26 #[.pointer (some ⟨X,0,none⟩)] w fun e w'=>∃c B',c≤41∧e=.returned (.int .i64 (c:Nat))∧WB N X g B' w'∧Mut (fun n=>N n) w w'∧J n 0 c B':=by
 have HJ:=hD hJ
 have HQ:=hD hQ
 go_enter Tryz.func26,Tryz.ntmps26
 go_wp2_with fail
 refine(hJ.sel B w hQ hS h).mono ?_
 rintro e w1 ⟨d0,B1,rfl,hB,hm,hj⟩
 have HB:=hD hB
 have HM:=hD hm
 obtain⟨hok,hnp⟩:=hJ.okJ 0 _ B1 hj
 obtain⟨cap,c17,hc1,hc2⟩:=BrG.cell17 hB hok
 rw[hnp]at c17 hc1
 have HJ1:=hD hj
 clear h hJ hB hm hj hS hok hnp hQ
 cases d0
 all_goals
  go_wp2_with fail
  go_loopw [16,3] (fun v a wr=>∃(k c:Nat) (C:Br),k≤n∧c≤1+8*k∧v=.int .i64 k∧a=.int .i64 (c:Nat)∧WB N X g C wr∧J k 0 c C∧Mut (fun n=>N n) w wr) (fun v _ _=>n - (intOf v).toNat)
  case atStart=>exact⟨0,_,B1,by omega,by simp,rfl,rfl,HB.out,HJ1.out,HM.out⟩
  case round =>
   clear HJ1 HB HM
   obtain⟨k,c,C,hk,hc,rfl,rfl,hB,hj,hm⟩:=hrel
   have HB:=hD hB
   have HM:=hD hm
   have HJ1:=hD hj
   clear hB hm hj
   by_cases hlt:k<n
   ·have dlt:decide ((k:Int)<(n:Int))=true:=by simp;omega
    go_wp2_with (first
     | fail
     | ((with_reducible refine cJ 85 ?_);refine bG rfl 85 _ rfl _ rfl _ aE9 ?_))
    go_loopw [20,3] (fun v a wr=>∃(j c':Nat) (D:Br),j≤8∧c'≤c+j∧v=.int .i64 j∧a=.int .i64 (c':Nat)∧WB N X g D wr∧J k j c' D∧Mut (fun n=>N n) w wr) (fun v _ _=>8 - (intOf v).toNat)
    case atStart=>exact⟨0,c,C,by omega,by omega,rfl,rfl,HB.out,HJ1.out,HM.out⟩
    case round =>
     clear HB HM HJ1 C
     obtain⟨j,c',D,hj,hc',rfl,rfl,hB,hjj,hm⟩:=hrel
     have HB:=hD hB
     have HM:=hD hm
     have HJ1:=hD hjj
     clear hB hm hjj
     by_cases hl8:j<8
     ·have dlt8:decide ((j:Int)<8)=true:=by simp;omega
      have hix:=aLP j hl8
      have hcf:=aHP j hl8
      go_wp2_with fail
      refine(HJ.out.st k j c' D _ (fun n hn=>HQ.out n (Nat.le_trans HM.out.size hn)) hlt hl8 HJ1.out HB.out).mono ?_
      rintro e w2 ⟨d,E,rfl,hB2,hm2,hj2⟩
      have HB2:=hD hB2
      have HM2:=hD (HM.out.trans hm2)
      have HJ2:=hD hj2
      clear hB2 hm2 hix hcf hj2
      have hup:IntKind.i64.wrap ((c':Int)+1)=((c'+1:Nat):Int):=by rw[IntKind.wrap_i64];omega
      have hupj:IntKind.i64.wrap ((j:Int)+1)=((j+1:Nat):Int):=by rw[IntKind.wrap_i64];omega
      cases d
      ·go_wp2_with fail
       go_roundw
       case rel=>exact⟨j+1,c',E,by omega,by omega,by go_num,rfl,HB2.out,HJ2.out,HM2.out⟩
       case measure=>simp[intOf];omega
      ·go_wp2_with fail
       go_roundw
       case rel=>exact⟨j+1,c'+1,E,by omega,by omega,by go_num,congrArg (Value.int .i64) (by omega),HB2.out,HJ2.out,HM2.out⟩
       case measure=>simp[intOf];omega
     ·obtain rfl:j=8:=by omega
      have hupk:IntKind.i64.wrap ((k:Int)+1)=((k+1:Nat):Int):=by rw[IntKind.wrap_i64];omega
      go_wp2_with fail
      go_roundw
      case rel=>exact⟨k+1,c',D,by omega,by omega,by go_num,rfl,HB.out,HJ.out.next k c' D hlt HJ1.out,HM.out⟩
      case measure=>simp[intOf];omega
   ·obtain rfl:k=n:=by omega
    have dlt:decide ((k:Int)<(k:Int))=false:=by simp
    go_wp2_with fail
    go_ret
    exact⟨c,C,by omega,rfl,HB.out,HM.out,HJ1.out⟩
theorem vM{N:Nat→Prop}{X g n:Nat}(S:Nat→Br→Prop)(T:Br→Prop)(w:World)(hQ:∀n,w.heap.size≤n→N n)(B:Br)(h:WB N X g B w)(hS:S 0 B)(hr:∀r B w,(∀n,w.heap.size≤n→N n)→r<1000→S r B→WB N X g B w→Calls Tryz.prog 26 #[.pointer (some ⟨X,0,none⟩)] w fun e w'=>∃c B',c≤41∧e=.returned (.int .i64 (c:Nat))∧WB N X g B' w'∧Mut (fun n=>N n) w w'∧(c=0→T B')∧(c≠0→S (r+1) B')):
    Calls Tryz.prog 17 #[.pointer (some ⟨X,0,none⟩)] w fun e w'=>∃(k:Nat) (d:Bool) (B':Br),e=.returned (.tuple #[.int .i64 (k:Int),.bool d])∧WB N X g B' w'∧Mut (fun n=>N n) w w'∧(d=true→T B')∧(d=false→S 1000 B')∧(k=0∨∃C1,S 1 C1):=by
 have HR:=hD hr
 have HQ:=hD hQ
 have H:=hD h
 have HS:=hD hS
 clear hr h hS hQ
 go_enter Tryz.func17,Tryz.ntmps17
 go_wp2_with fail
 go_loopw [5,2] (fun v a wr=>∃(r k:Nat) (C:Br),r≤1000∧k≤r*100∧v=.int .i64 r∧a=.int .i64 k∧WB N X g C wr∧S r C∧Mut (fun n=>N n) w wr∧((r=0∧k=0)∨∃C1,S 1 C1)) (fun v _ _=>1000 - (intOf v).toNat)
 case atStart=>exact⟨0,0,B,by omega,by omega,rfl,rfl,H.out,HS.out,Mut.refl _ w,.inl ⟨rfl,rfl⟩⟩
 case round =>
  clear H HS
  obtain⟨r,k,C,hrm,hk,rfl,rfl,hB,hs,hm,hz⟩:=hrel
  have HZ:=hD hz
  have HB:=hD hB
  have HM:=hD hm
  have HS:=hD hs
  clear hB hm hs hz
  by_cases hlt:r<1000
  ·have dlt:decide ((r:Int)<1000)=true:=by simp;omega
   go_wp2_with fail
   refine(HR.out r C _ (fun n hn=>HQ.out n (Nat.le_trans HM.out.size hn)) hlt HS.out HB.out).mono ?_
   rintro e w2 ⟨q,D,hq,rfl,hB2,hm2,h0,h1⟩
   have HB2:=hD hB2
   have HM2:=hD (HM.out.trans hm2)
   have H0:=hD h0
   have H1:=hD h1
   clear hB2 hm2 h0 h1
   by_cases hz:q=0
   ·subst hz
    go_wp2_with fail
    go_ret2
    exact⟨k,true,D,rfl,HB2.out,HM2.out,(fun _=>by simpa using H0.out),(fun h=>by cases h),HZ.out.imp (fun h=>h.2) id⟩
   ·have dq:((q:Int) == 0)=false:=by simpa using hz
    have hup:IntKind.i64.wrap ((k:Int)+(q:Int))=((k+q:Nat):Int):=by rw[IntKind.wrap_i64];omega
    go_wp2_with fail
    go_roundw
    case rel=>exact⟨r+1,k+q,D,by omega,by omega,by go_num,congrArg (Value.int .i64) (by omega),HB2.out,H1.out hz,HM2.out,.inr (HZ.out.elim (fun h=>⟨D,by have h2:=H1.out hz;rw[h.1]at h2;exact h2⟩) id)⟩
    case measure=>simp[intOf];omega
  ·obtain rfl:r=1000:=by omega
   have dlt:decide ((1000:Int)<1000)=false:=by decide
   go_wp2_with fail
   go_ret2
   exact⟨k,false,C,rfl,HB.out,HM.out,(fun h=>by cases h),(fun _=>HS.out),HZ.out.imp (fun h=>h.2) id⟩
theorem aAB{N:Nat→Prop}{X g n:Nat}(S:Nat→Br→Prop)(T:Br→Prop)(w:World)(hQ:∀n,w.heap.size≤n→N n)(B:Br)(h:WB N X g B w)(hS:S 0 B)(hr:∀r B w,(∀n,w.heap.size≤n→N n)→r<1000→S r B→WB N X g B w→Calls Tryz.prog 26 #[.pointer (some ⟨X,0,none⟩)] w fun e w'=>∃c B',c≤41∧e=.returned (.int .i64 (c:Nat))∧WB N X g B' w'∧Mut (fun n=>N n) w w'∧(c=0→T B')∧(c≠0→S (r+1) B')):
    Calls Tryz.prog 17 #[.pointer (some ⟨X,0,none⟩)] w fun e w'=>∃(k:Nat) (d:Bool) (B':Br),e=.returned (.tuple #[.int .i64 (k:Int),.bool d])∧WB N X g B' w'∧Mut (fun n=>N n) w w'∧(d=true→T B')∧(d=false→S 1000 B') :=
 (vM (n:=n) S T w hQ B h hS hr).mono fun e w' ⟨k,d,B',a,b,c,p,q,_⟩=>⟨k,d,B',a,b,c,p,q⟩
theorem So.of{N:Nat→Prop}{X g:Nat}{R:Bool→Br→Prop}{w:World}{r:Bool × Br}{e:Ending}{w':World}(h:aN w (fun n=>N n∧n<w.heap.size) X g r e w')(hR:R r.1 r.2):So N X g R w e w' :=
 ⟨r.1,r.2,h.1,h.2.1.mono (fun n hn=>⟨hn.1,nL hn.2 h.2.2.size⟩),h.2.2.mono (fun n _ hn=>hn.1),hR⟩
theorem So.ofW{N:Nat→Prop}{X g:Nat}{R:Bool→Br→Prop}{w:World}{r:Bool × Br}{e:Ending}{w':World}(h:e=.returned (.bool r.1)∧BrG w' (fun n=>N n∧n<w'.heap.size) X g r.2∧Mut (fun n=>N n) w w')(hR:R r.1 r.2):So N X g R w e w' :=
 ⟨r.1,r.2,h.1,h.2.1,h.2.2,hR⟩
theorem rL{B:Br}{k j:Nat}{l:List Value}(h:k*89+j+l.length≤B.ps.length)(i:Nat):(B.setr k j l).ps[i]?=if k*89+j≤i∧i<k*89+j+l.length then l[i - (k*89+j)]? else B.ps[i]? :=
 eB (L:=B.ps) (j:=k*89+j) (vs:=l) h i
def MT(m:List Value):Prop:=Typed ML m∧∀j,13≤j→j<17→∃z:Int,m[j]?=some (.int .i64 z)∧0≤z∧z≤256
theorem KI.take{n M:Nat}{s:Nat→Nat}{B:Br}(h:KI n M s B)(i:Int){m:List Value}(hm:MT m):KI n M s (kH B i m).2:=by
 have hok:=aEP h.ok i hm.1
 unfold kH at hok ⊢
 by_cases h1:0≤i∧i.toNat<B.np
 ·rw [if_pos h1]at hok ⊢
  obtain⟨k,hk⟩:∃k,i.toNat=k:=⟨_,rfl⟩
  rw[hk]at hok h1 ⊢
  split
  ·exact h
  ·rename_i hc
   rw[if_neg hc]at hok
   have hkn:k<n:=by rw[←h.np];exact h1.2
   have h89:=fH h.ok h1.2
   have hml:m.length=17:=hm.1.1
   have cell:∀i j,j<89→j≠35→(fE B k m).ps[i*89+j]?=if i=k∧51≤j∧j<68 then m[j - 51]? else B.ps[i*89+j]?:=fun i j hj hne=>by
    show((B.setr k 51 m).ps.set (k*89+35) _)[i*89+j]?=_
    rw[List.getElem?_set_ne (by omega),rL (by omega)]
    by_cases hik:i=k∧51≤j∧j<68
    ·rw[if_pos (by omega),if_pos hik]
     congr 1
     omega
    ·rw[if_neg (by omega),if_neg hik]
   have gi:∀i j,j<89→j≠35→¬(i=k∧51≤j∧j<68)→(fE B k m).gi i j=B.gi i j:=fun i j hj hne hik=>by
    unfold Br.gi
    rw[cell i j hj hne,if_neg hik]
   have gm:∀j,64≤j→j<68→0≤(fE B k m).gi k j∧(fE B k m).gi k j≤256:=fun j h64 h68=>by
    obtain⟨z,hz,z1,z2⟩:=hm.2 (j - 51) (by omega) (by omega)
    have e:(fE B k m).gi k j=z:=by
     unfold Br.gi
     rw[cell k j (by omega) (by omega),if_pos ⟨rfl,by omega,by omega⟩,hz]
    rw[e]
    exact⟨z1,z2⟩
   obtain⟨l,ho,h2,h3⟩:=h.out
   refine⟨hok,h.np,h.hs,h.h13,fun i hi=>?_,⟨l,ho,h2,fun i hi=>?_⟩,h.nf⟩
   ·have hp:=h.pt i hi
    show PI (fE B k m) i
    unfold PI at hp ⊢
    rw[gi i 14 (by decide) (by decide) (by omega),gi i 78 (by decide) (by decide) (by omega),gi i 86 (by decide) (by decide) (by omega),gi i 82 (by decide) (by decide) (by omega)]
    by_cases hik:i=k
    ·subst hik
     have g1:=gm 64 (by decide) (by decide)
     have g2:=gm 65 (by decide) (by decide)
     have g3:=gm 66 (by decide) (by decide)
     have g4:=gm 67 (by decide) (by decide)
     omega
    ·rw[gi i 64 (by decide) (by decide) (by omega),gi i 65 (by decide) (by decide) (by omega),gi i 66 (by decide) (by decide) (by omega),gi i 67 (by decide) (by decide) (by omega)]
     exact hp
   ·show((s i+l.count i:Nat):Int)≤(fE B k m).gi i 14
    rw[gi i 14 (by decide) (by decide) (by omega)]
    exact h3 i hi
 ·rw[if_neg h1]
  exact h
theorem KI.en{n M:Nat}{s:Nat→Nat}{B:Br}(h:KI n M s B){k:Nat}(hk:k<n)(b:Bool):KI n M s (B.setp k 2 (.bool b)):=by
 have hkp:k<B.np:=by rw[h.np];exact hk
 exact h.fr0 ((Fr.rf _ B).setp (by decide) (by decide)) (h.ok.setB (k:=k) hkp 2 b rfl) rfl
structure Hp where
 f:Int
 t:Int
 c:Int
def Hp.L(h:Hp):List Value:=[.int .i64 h.f,.int .i64 h.t,.int .u32 h.c]
def Hp.ok(n:Nat)(h:Hp):Bool:=decide (0≤h.f) && decide (h.f<n) && decide (0≤h.t) && decide (h.t<n)
theorem lV{w w':World}{b off:Nat}{xs:List Value}(h:w.rangeAt b off xs)(hx:Ext w w')(hb:b<w.heap.size):w'.rangeAt b off xs:=fun j v hv=>(hx.cell hb).trans (h j v hv)
theorem gO{w:World}{base size n:Nat}{e:TypeId}{v:Value}{xs:List Value}(h:w.ownsRow base e size v n xs){g:Nat}(hg:v.ownBlock=some g):base≤g∧g<w.heap.size:=by
 rcases h.2 with ⟨rfl,-⟩|⟨g2,cap,cur,rfl,e2,e3,-⟩
 ·simp[Value.ownBlock]at hg
 ·obtain rfl:g2=g:=by simpa[Value.ownBlock]using hg
  exact⟨e2,aC e3⟩
theorem fB{w:World}{base m n:Nat}{e:TypeId}{v:Value}{xs:List Value}(h:w.ownsRow base e m v n xs):∃a cap,v=.slice a n cap:=by
 obtain⟨h0,⟨rfl,rfl⟩|⟨g,cap,cur,rfl,hb,hg,hn,hm,hs,ht⟩⟩:=h
 ·exact⟨_,_,rfl⟩
 ·exact⟨_,_,rfl⟩
theorem jB{P:Program}{o:Oper}{a:Act}{w:World}{K:Act→World→Prop}{Q:Exit→Act→World→Prop}(s x:Operand)(t:TypeId)(ho:o.op=.call { callee:=.builtin .append,args:=#[s,x],argTypes:=#[t,t] })(base:Nat)(e:TypeId)(i:TypeInfo)(z:Value)(size bytes:Nat)(ht:P.underlying t=some (.slice e))(hi:P.info? e=some i)(hz:i.zero=some z)(hsize:i.size=size)(hby:i.bytes=bytes)(hzs:z.cells.size=size)(hsz:0<size)(v:Value)(n:Nat)(xs:List Value)(hs:a.eval s=v)(hown:w.ownsRow base e size v n xs)(ad:Addr)(m c:Nat)(news:List Value)(hx:a.eval x=.slice (some ad) m c)(hl:news.length=m*size)(hnews:∀j u,news[j]?=some u→w.cell? (ad.add j)=some u)(h1:∀u∈news,u.oneCell'=true)(h63:n+m≤maxLen)(hbytes:(n+m)*bytes≤140737488355328)(hbase:base≤w.heap.size)(h:∀v' w',w'.ownsRow base e size v' (n+m) (xs++news)→w.grownBy w' v.ownBlock→(v'.ownBlock=v.ownBlock∨v'.ownBlock=some w.heap.size)→K (a.put o.dst v') w'):Oper.wp P o a w K Q:=by
 obtain⟨v',w',hr,h2,h3,h4,h5⟩:=run_append_own_at (P:=P) w base t o.type e i z size bytes ht hi hz hsize hby hzs hsz v n xs hown ad m c news hl hnews h1 h63 hbytes hbase
 unfold Oper.wp execOp
 simp only[ho,resolve,invoke,builtin,Sem.run_bind,Sem.run_pure,Result.andThen_ok,List.map_toArray,List.map_cons,List.map_nil,hs,hx,hr]
 exact h v' w' h2 h3 h5
def Hp.wf(h:Hp):Prop:=(-9223372036854775808≤h.f∧h.f<9223372036854775808)∧(-9223372036854775808≤h.t∧h.t<9223372036854775808)∧0≤h.c∧h.c<4294967296
theorem bA{w:World}{g:Nat}{cs:Array Value}{e:TypeId}{fr:Nat × Nat}(h:w.heap[g]?=some (.cells cs e fr))(i:Nat):w.cell? ⟨g,i,none⟩=cs[i]?:=by simp[World.cell?,h]
def RowAt(w:World)(v:Value)(n m:Nat)(f:Nat→List Value):Prop:=∃a cap,v=.slice a n cap∧n≤100000∧(0<n→∃b off,a=some ⟨b,off,none⟩∧b<w.heap.size∧n≤cap∧cap≤9223372036854775807∧∀i,i<n→w.rangeAt b (off+i*m) (f i))
theorem RowAt.ext{w w':World}{v:Value}{n m:Nat}{f:Nat→List Value}(h:RowAt w v n m f)(hx:Ext w w'):RowAt w' v n m f:=by
 obtain⟨a,cap,e,hm,hf⟩:=h
 refine⟨a,cap,e,hm,fun h0=>?_⟩
 obtain⟨b,off,e1,hb,h1,h2,h3⟩:=hf h0
 exact⟨b,off,e1,nL hb hx.size,h1,h2,fun i hi=>lV (h3 i hi) hx hb⟩
structure Pt where
 pid:Int
 cost:Int
 sh:Bool
 ad:Bool
 au:Bool
 deriving Inhabited,DecidableEq
def Pt.L(p:Pt):List Value:=[.int .u16 p.pid,.int .u32 p.cost,.bool p.sh,.bool p.ad,.bool p.au]
structure Nd where
 id:Int
 rst:Bool
 ports:List Pt
 deriving Inhabited,DecidableEq
abbrev Pl:=Int × Int
def PtsAt(w:World)(v:Value)(P:List Pt):Prop:=RowAt w v P.length 5 (fun i=>(P.getD i default).L)
theorem j2{w w':World}{base m n:Nat}{e:TypeId}{v:Value}{xs:List Value}(h:w.ownsRow base e m v n xs)(hx:Ext w w'):w'.ownsRow base e m v n xs:=by
 refine⟨h.1,?_⟩
 rcases h.2 with hn|⟨g,cap,cur,rfl,hb,hg,rest⟩
 ·exact .inl hn
 ·exact .inr ⟨g,cap,cur,rfl,hb,(hx.block g (aC hg)).trans hg,rest⟩
theorem aCJ{w0 w1 w2:World}{base m n:Nat}{e:TypeId}{v:Value}{xs:List Value}(hx:Ext w0 w1)(ho:w1.ownsRow base e m v n xs)(hb:w0.heap.size≤base)(hg:w1.grownBy w2 v.ownBlock):Ext w0 w2 :=
 Mut.ext (F:=fun _=>False) ⟨hg.os.trans hx.os,hg.tape.trans hx.tape,hg.output.trans hx.output,Nat.le_trans hx.size hg.size,fun k hk _=>(hg.block k (nL hk hx.size) (fun e=>by have:=(gO ho e.symm).1;omega)).trans (hx.block k hk)⟩ (fun _ _ h=>h)
def aLQ(N:List Nd)(p:Pl):Int:=((N.getD p.1.toNat default).ports.getD p.2.toNat default).cost
def h3(N:List Nd)(f:Int)(seg:List Pl):List Hp:=(seg.filter (fun p=>!(p.1 == f))).map (fun p=>(⟨f,p.1,aLQ N p⟩:Hp))
def h2(N:List Nd)(seg:List Pl)(fs:List Int):List Hp:=fs.flatMap (fun f=>h3 N f seg)
theorem rM{α:Type}(l:List α)(d:α){k:Nat}(h:k<l.length):l.take (k+1)=l.take k++[l.getD k d]:=by
 rw[List.take_succ_eq_append_getElem h]
 congr 2
 simp[List.getD_eq_getElem?_getD,h]
theorem wf64{x:Int}(h:-9223372036854775808≤x∧x<9223372036854775808):(Lit.int .i64 x).wf=true:=by
 have e1:IntKind.i64.min=-9223372036854775808:=rfl
 have e2:IntKind.i64.max=9223372036854775807:=rfl
 simp only[Lit.wf,e1,e2,Bool.and_eq_true,decide_eq_true_eq]
 omega
theorem lB{w w':World}{base m n:Nat}{e:TypeId}{v:Value}{xs:List Value}{F:Nat→Prop}(h:w.ownsRow base e m v n xs)(hm:Mut F w w')(hF:∀g,v.ownBlock=some g→¬F g):w'.ownsRow base e m v n xs:=by
 refine⟨h.1,?_⟩
 rcases h.2 with hn|⟨g,cap,cur,rfl,hb,hg,rest⟩
 ·exact .inl hn
 ·exact .inr ⟨g,cap,cur,rfl,hb,(hm.heap (aC hg) (hF g rfl)).trans hg,rest⟩
theorem rN{w w':World}{row:Option Nat}(hg:w.grownBy w' row):Mut (fun g=>row=some g) w w':=⟨hg.os,hg.tape,hg.output,hg.size,fun k hk h=>hg.block k hk (fun e=>h e.symm)⟩
theorem aJ8{wl wn wa ws:World}{u:Value}{box:Nat}(h1:Ext wl wn)(h2:wn.grownBy wa u.ownBlock)(h3:Mut (fun g=>g=box) wa ws):Mut (fun g=>g=box∨u.ownBlock=some g) wl ws :=
 ((h1.mut _).trans ((rN h2).mono (fun _ _ h=>.inr h))).trans (h3.mono (fun _ _ h=>.inl h))
theorem Ext.app{w0 wl ws:World}{u:Value}{box base m n:Nat}{e:TypeId}{xs:List Value}(h0:Ext w0 wl)(hb:w0.heap.size≤box)(hw:wl.ownsRow base e m u n xs)(hbase:w0.heap.size≤base)(hm:Mut (fun g=>g=box∨u.ownBlock=some g) wl ws):Ext w0 ws :=
 h0.mutE hm (fun k hk h=>by
  rcases h with h|h
  ·omega
  ·have:=(gO hw h).1
   omega)
theorem mV{α:Type}(f:α→List Value)(m:Nat)(hf:∀a,(f a).length=m)(d:α):∀(l:List α) (i j:Nat) (x:Value),i<l.length→(f (l.getD i d))[j]?=some x→(l.flatMap f)[i*m+j]?=some x
 | [],i,_,_,hi,_=>by simp at hi
 | a :: l,0,j,x,_,hj=>by
  have hj2:j<(f a).length:=(List.getElem?_eq_some_iff.1 hj).1
  rw[List.flatMap_cons,Nat.zero_mul,Nat.zero_add,List.getElem?_append_left hj2]
  exact hj
 | a :: l,i+1,j,x,hi,hj=>by
  rw[List.flatMap_cons,List.getElem?_append_right (by rw[hf,Nat.succ_mul];omega),hf,show(i+1)*m+j - m=i*m+j by rw[Nat.succ_mul];omega]
  exact mV f m hf d l i j x (by simpa using hi) hj
def SUZ:Array Value:=#[.int .u16 0,.int .u32 0,.bool false,.bool false,.bool false]
def PortZ:Array Value:=#[.int .u16 0,.int .u32 0,.bool false,.bool false,.bool false,.bool false,.int .i64 0,.int .i64 0,.int .i64 0,.int .i64 0,.int .i64 0,.int .i64 0,.int .i64 0,.int .i64 0,.int .i64 0,.int .i64 0,.int .i64 0,.int .i64 0,.int .i64 0,.int .i64 0,.int .i64 0,.int .i64 0,.bool false,.bool false,.bool false,.bool false,.bool false,.bool false,.bool false,.bool false,.bool false,.bool false,.bool false,.bool false,.bool false,.bool false,.bool false,.bool false,.bool false,.bool false,.bool false,.bool false,.bool false,.bool false,.bool false,.bool false,.bool false,.bool false,.bool false,.bool false,.bool false,.int .i64 0,.bool false,.bool false,.bool false,.bool false,.bool false,.bool false,.int .i64 0,.int .u64 0,.int .u32 0,.int .u64 0,.int .u16 0,.int .u16 0,.int .i64 0,.int .i64 0,.int .i64 0,.int .i64 0,.int .u64 0,.int .u32 0,.int .u64 0,.int .u16 0,.int .u16 0,.int .u64 0,.int .u32 0,.int .u64 0,.int .u16 0,.int .u16 0,.int .i64 0,.int .i64 0,.int .i64 0,.int .i64 0,.int .i64 0,.int .i64 0,.int .i64 0,.int .i64 0,.int .i64 0,.int .i64 0,.int .i64 0]
theorem oP:∀w,(zeroValue 60).run Tryz.prog w=.ok (.agg PortZ) w:=(zero_of_info (P:=Tryz.prog) (t:=60) (v:=.agg PortZ) (n:=89) (by kernel_rfl)).1
theorem oQ:(Tryz.prog.info? 60).map (·.size)=some 89:=by kernel_rfl
def dQ(a b:Int)(x y z r:Bool)(mx hl dl e:Int):Array Value:=#[.int .u16 a,.int .u32 b,.bool false,.bool x,.bool y,.bool z,.int .i64 3,.int .i64 mx,.int .i64 hl,.int .i64 3,.int .i64 0,.int .i64 0,.int .i64 dl,.int .i64 0,.int .i64 0,.int .i64 0,.int .i64 0,.int .i64 e,.int .i64 0,.int .i64 0,.int .i64 0,.int .i64 0,.bool false,.bool false,.bool false,.bool true,.bool false,.bool false,.bool false,.bool false,.bool false,.bool true,.bool y,.bool false,.bool false,.bool false,.bool false,.bool false,.bool false,.bool false,.bool false,.bool false,.bool true,.bool true,.bool false,.bool r,.bool true,.bool false,.bool false,.bool false,.bool false,.int .i64 0,.bool false,.bool false,.bool false,.bool false,.bool false,.bool false,.int .i64 0,.int .u64 0,.int .u32 0,.int .u64 0,.int .u16 0,.int .u16 0,.int .i64 0,.int .i64 0,.int .i64 0,.int .i64 0,.int .u64 0,.int .u32 0,.int .u64 0,.int .u16 0,.int .u16 0,.int .u64 0,.int .u32 0,.int .u64 0,.int .u16 0,.int .u16 0,.int .i64 0,.int .i64 0,.int .i64 0,.int .i64 0,.int .i64 0,.int .i64 0,.int .i64 0,.int .i64 0,.int .i64 0,.int .i64 0,.int .i64 0]
theorem aIN(m h d:Int):Tryz.prog.built 54 [(0,.int .i64 3),(3,.int .i64 3),(2,.int .i64 h),(6,.int .i64 d),(1,.int .i64 m)]=some #[.int .i64 3,.int .i64 m,.int .i64 h,.int .i64 3,.int .i64 0,.int .i64 0,.int .i64 d,.int .i64 0,.int .i64 0]:=by kernel_rfl
theorem aIO:Tryz.prog.built 56 [(3,.int .i64 0),(2,.int .i64 1)]=some #[.int .i64 0,.int .i64 0,.int .i64 1,.int .i64 0,.int .i64 0,.int .i64 0,.int .i64 0]:=by kernel_rfl
theorem aIP(r y:Bool):Tryz.prog.built 58 [(21,.bool true),(24,.bool true),(20,.bool true),(3,.bool true),(9,.bool true),(23,.bool r),(10,.bool y)]=some #[.bool false,.bool false,.bool false,.bool true,.bool false,.bool false,.bool false,.bool false,.bool false,.bool true,.bool y,.bool false,.bool false,.bool false,.bool false,.bool false,.bool false,.bool false,.bool false,.bool false,.bool true,.bool true,.bool false,.bool r,.bool true,.bool false,.bool false,.bool false,.bool false]:=by kernel_rfl
theorem aIQ(a b:Int)(x y z r:Bool)(m h d:Int):Tryz.prog.built 60 [(0,.int .u16 a),(1,.int .u32 b),(3,.bool x),(4,.bool y),(5,.bool z),(6,.agg #[.int .i64 3,.int .i64 m,.int .i64 h,.int .i64 3,.int .i64 0,.int .i64 0,.int .i64 d,.int .i64 0,.int .i64 0]),(7,.agg #[.int .i64 0,.int .i64 0,.int .i64 1,.int .i64 0,.int .i64 0,.int .i64 0,.int .i64 0]),(8,.agg #[.bool false,.bool false,.bool false,.bool true,.bool false,.bool false,.bool false,.bool false,.bool false,.bool true,.bool y,.bool false,.bool false,.bool false,.bool false,.bool false,.bool false,.bool false,.bool false,.bool false,.bool true,.bool true,.bool false,.bool r,.bool true,.bool false,.bool false,.bool false,.bool false]),(14,.int .i64 0)]=some (dQ a b x y z r m h d 1):=by kernel_rfl
theorem vN{ta:Int}(a b mx hl dl:Int)(x y z r:Bool)(w:World):
    Calls Tryz.prog 23 #[.agg #[.int .u16 a,.int .u32 b,.bool x,.bool y,.bool z],.bool r,.agg #[.int .i64 ta,.int .i64 mx,.int .i64 hl,.int .i64 dl]] w fun e w'=>e=.returned (.agg (dQ a b x y z r mx hl dl (if y then 0 else 1)))∧Ext w w':=by
 go_enter Tryz.func23,Tryz.ntmps23
 cases y with
 | false =>
  go_wp2_with (first
   | fail
   | ((with_reducible refine bP 73 ?_);refine bQ rfl 73 _ rfl #[.int .u16 a,.int .u32 b,.bool x,.bool false,.bool z] rfl ?_
      intro X wa hX hsz hx1
      have HXa:=hD hX
      have HEa:=hD hx1
      clear hX hsz hx1)
   | ((with_reducible refine bP 24 ?_);refine bQ rfl 24 _ rfl #[.int .i64 ta,.int .i64 mx,.int .i64 hl,.int .i64 dl] rfl ?_
      intro Y wb hX hsz hx1
      have HYb:=hD hX
      have HEb:=hD (HEa.out.trans hx1)
      have HXb:=hD ((hx1.block X (aC HXa.out)).trans HXa.out)
      clear hX hsz hx1 HEa HXa)
   | ((with_reducible refine bS 60 ?_);have h0:=HEb.out;refine b6 rfl 60 rfl PortZ oP ?_
      intro RB w1 hq hsz hx
      have HRB:=hD hq
      have HE1:=hD (HEb.out.trans hx)
      have HRW:=hD (show w.heap.size≤RB from by have:=HEb.out.size;omega)
      have HX1:=(hx.block X (aC HXb.out)).trans HXb.out
      have HY1:=(hx.block Y (aC HYb.out)).trans HYb.out
      have x0:w1.cell? ⟨X,0,none⟩=some (.int .u16 a):=by rw[bA HX1];rfl
      have x1:w1.cell? ⟨X,1,none⟩=some (.int .u32 b):=by rw[bA HX1];rfl
      have x2:w1.cell? ⟨X,2,none⟩=some (.bool x):=by rw[bA HX1];rfl
      have x3:w1.cell? ⟨X,3,none⟩=some (.bool false):=by rw[bA HX1];rfl
      have x4:w1.cell? ⟨X,4,none⟩=some (.bool z):=by rw[bA HX1];rfl
      have y1:w1.cell? ⟨Y,1,none⟩=some (.int .i64 mx):=by rw[bA HY1];rfl
      have y2:w1.cell? ⟨Y,2,none⟩=some (.int .i64 hl):=by rw[bA HY1];rfl
      have y3:w1.cell? ⟨Y,3,none⟩=some (.int .i64 dl):=by rw[bA HY1];rfl
      clear HXb HYb
      have HX1:=hD HX1
      clear HY1 hq hsz hx h0 HEb)
   | ((with_reducible refine cJ 54 ?_);refine bG rfl 54 _ rfl _ rfl _ (aIN mx hl dl) ?_)
   | ((with_reducible refine cJ 56 ?_);refine bG rfl 56 _ rfl _ rfl _ aIO ?_)
   | ((with_reducible refine cJ 58 ?_);refine bG rfl 58 _ rfl _ rfl _ (aIP r false) ?_)
   | ((with_reducible refine cJ 60 ?_);refine bG rfl 60 _ rfl _ rfl _ (aIQ a b x false z r mx hl dl) ?_)
   | ((with_reducible refine bS 60 ?_);have h0:=HE1.out;refine b6 rfl 60 rfl PortZ oP ?_
      intro G w3 hq3 hsz3 hx3)
   | ((with_reducible refine aD 60 ?_);refine dS rfl rfl 60 _ _ rfl G 0 _ (dQ a b x false z r mx hl dl 1) PortZ (dQ a b x false z r mx hl dl 1) 60 rfl rfl rfl hq3 (by exact(by decide:0+89≤89)) (by kernel_rfl) (by kernel_rfl) (by kernel_rfl) ?_
      intro w4 hq4 hm4
      have hx14:Ext w1 w4:=hx3.mutE hm4 (fun g hg h=>by have h2:g=G:=h;omega)
      have HE4:=hD (HE1.out.trans hx14)
      have HG:=hD hq4
      have HGW:=hD (show w1.heap.size≤G from by omega)
      have HRB4:=hD ((hx14.block RB (aC HRB.out)).trans HRB.out)
      have x3:w4.cell? ⟨X,3,none⟩=some (.bool false):=by rw[bA ((hx14.block X (aC HX1.out)).trans HX1.out)];rfl
      clear hq3 hsz3 hx3 hq4 hm4 hx14 h0 x0 x1 x2 x4 y1 y2 y3)
   | ((with_reducible refine aG 60 ?_);refine wpList_load_row rfl 60 _ rfl G rfl 60 (dQ a b x false z r mx hl dl 1) (0,0) _ HG.out Tryz.underlying60 rfl oQ ?_)
   | ((with_reducible refine aD 60 ?_);refine dS rfl rfl 60 _ _ rfl RB 0 _ (dQ a b x false z r mx hl dl 1) PortZ (dQ a b x false z r mx hl dl 1) 60 rfl rfl rfl HRB4.out (by exact(by decide:0+89≤89)) (by kernel_rfl) (by kernel_rfl) (by kernel_rfl) ?_
      intro wz hqz hmz
      have HRZ:=hD hqz
      have HMZ:=hD hmz
      clear hqz hmz))
  refine bodyPost_ret (results_cell_row rfl _ _ RB _ _ (0,0) _ rfl HRZ.out Tryz.underlying60 rfl oQ) rfl ?_
  exact⟨rfl,HE4.out.mutE HMZ.out (fun g h1 h2=>by have h3:g=RB:=h2;have h4:=HRW.out;omega)⟩
 | true =>
  go_wp2_with (first
   | fail
   | ((with_reducible refine bP 73 ?_);refine bQ rfl 73 _ rfl #[.int .u16 a,.int .u32 b,.bool x,.bool true,.bool z] rfl ?_
      intro X wa hX hsz hx1
      have HXa:=hD hX
      have HEa:=hD hx1
      clear hX hsz hx1)
   | ((with_reducible refine bP 24 ?_);refine bQ rfl 24 _ rfl #[.int .i64 ta,.int .i64 mx,.int .i64 hl,.int .i64 dl] rfl ?_
      intro Y wb hX hsz hx1
      have HYb:=hD hX
      have HEb:=hD (HEa.out.trans hx1)
      have HXb:=hD ((hx1.block X (aC HXa.out)).trans HXa.out)
      clear hX hsz hx1 HEa HXa)
   | ((with_reducible refine bS 60 ?_);have h0:=HEb.out;refine b6 rfl 60 rfl PortZ oP ?_
      intro RB w1 hq hsz hx
      have HRB:=hD hq
      have HE1:=hD (HEb.out.trans hx)
      have HRW:=hD (show w.heap.size≤RB from by have:=HEb.out.size;omega)
      have HX1:=(hx.block X (aC HXb.out)).trans HXb.out
      have HY1:=(hx.block Y (aC HYb.out)).trans HYb.out
      have x0:w1.cell? ⟨X,0,none⟩=some (.int .u16 a):=by rw[bA HX1];rfl
      have x1:w1.cell? ⟨X,1,none⟩=some (.int .u32 b):=by rw[bA HX1];rfl
      have x2:w1.cell? ⟨X,2,none⟩=some (.bool x):=by rw[bA HX1];rfl
      have x3:w1.cell? ⟨X,3,none⟩=some (.bool true):=by rw[bA HX1];rfl
      have x4:w1.cell? ⟨X,4,none⟩=some (.bool z):=by rw[bA HX1];rfl
      have y1:w1.cell? ⟨Y,1,none⟩=some (.int .i64 mx):=by rw[bA HY1];rfl
      have y2:w1.cell? ⟨Y,2,none⟩=some (.int .i64 hl):=by rw[bA HY1];rfl
      have y3:w1.cell? ⟨Y,3,none⟩=some (.int .i64 dl):=by rw[bA HY1];rfl
      clear HXb HYb
      have HX1:=hD HX1
      clear HY1 hq hsz hx h0 HEb)
   | ((with_reducible refine cJ 54 ?_);refine bG rfl 54 _ rfl _ rfl _ (aIN mx hl dl) ?_)
   | ((with_reducible refine cJ 56 ?_);refine bG rfl 56 _ rfl _ rfl _ aIO ?_)
   | ((with_reducible refine cJ 58 ?_);refine bG rfl 58 _ rfl _ rfl _ (aIP r true) ?_)
   | ((with_reducible refine cJ 60 ?_);refine bG rfl 60 _ rfl _ rfl _ (aIQ a b x true z r mx hl dl) ?_)
   | ((with_reducible refine bS 60 ?_);have h0:=HE1.out;refine b6 rfl 60 rfl PortZ oP ?_
      intro G w3 hq3 hsz3 hx3)
   | ((with_reducible refine aD 60 ?_);refine dS rfl rfl 60 _ _ rfl G 0 _ (dQ a b x true z r mx hl dl 1) PortZ (dQ a b x true z r mx hl dl 1) 60 rfl rfl rfl hq3 (by exact(by decide:0+89≤89)) (by kernel_rfl) (by kernel_rfl) (by kernel_rfl) ?_
      intro w4 hq4 hm4
      have hx14:Ext w1 w4:=hx3.mutE hm4 (fun g hg h=>by have h2:g=G:=h;omega)
      have HE4:=hD (HE1.out.trans hx14)
      have HG:=hD hq4
      have HGW:=hD (show w1.heap.size≤G from by omega)
      have HRB4:=hD ((hx14.block RB (aC HRB.out)).trans HRB.out)
      have x3:w4.cell? ⟨X,3,none⟩=some (.bool true):=by rw[bA ((hx14.block X (aC HX1.out)).trans HX1.out)];rfl
      clear hq3 hsz3 hx3 hq4 hm4 hx14 h0 x0 x1 x2 x4 y1 y2 y3)
   | ((with_reducible refine aD 3 ?_);refine dS rfl rfl 3 _ _ rfl G 17 _ #[.int .i64 0] (dQ a b x true z r mx hl dl 1) (dQ a b x true z r mx hl dl 0) 60 rfl rfl rfl HG.out (by exact(by decide:17+1≤89)) (by kernel_rfl) rfl (by kernel_rfl) ?_
      intro w5 hq5 hm5
      have HG5:=hD hq5
      have HE5:=hD (HE4.out.mutE hm5 (fun g h1 h2=>by have h3:g=G:=h2;have h4:=HGW.out;have h5:=HE1.out.size;omega))
      have HRB5:=hD ((hm5.heap (aC HRB4.out) (fun h=>by have h3:RB=G:=h;have h4:=aC HRB.out;have h5:=HGW.out;omega)).trans HRB4.out)
      clear hq5 hm5)
   | ((with_reducible refine aG 60 ?_);refine wpList_load_row rfl 60 _ rfl G rfl 60 (dQ a b x true z r mx hl dl 0) (0,0) _ HG5.out Tryz.underlying60 rfl oQ ?_)
   | ((with_reducible refine aD 60 ?_);refine dS rfl rfl 60 _ _ rfl RB 0 _ (dQ a b x true z r mx hl dl 0) PortZ (dQ a b x true z r mx hl dl 0) 60 rfl rfl rfl HRB5.out (by exact(by decide:0+89≤89)) (by kernel_rfl) (by kernel_rfl) (by kernel_rfl) ?_
      intro wz hqz hmz
      have HRZ:=hD hqz
      have HMZ:=hD hmz
      clear hqz hmz))
  refine bodyPost_ret (results_cell_row rfl _ _ RB _ _ (0,0) _ rfl HRZ.out Tryz.underlying60 rfl oQ) rfl ?_
  exact⟨rfl,HE5.out.mutE HMZ.out (fun g h1 h2=>by have h3:g=RB:=h2;have h4:=HRW.out;omega)⟩
def aIR:List (Option IntKind)→List Value→Prop
 | [],[]=>True
 | k :: l,v :: cs=>jL k v∧aIR l cs
 | _,_=>False
theorem nO:∀{l:List (Option IntKind)} {cs:List Value},aIR l cs→Typed l cs
 | [],[],_=>⟨rfl,fun j k h=>by simp at h⟩
 | k :: l,v :: cs,⟨h1,h2⟩=>by
  obtain⟨e,h3⟩:=nO h2
  refine⟨by simp[e],fun j q hj=>?_⟩
  cases j with
  | zero =>
   simp only[List.getElem?_cons_zero,Option.some.injEq]at hj
   subst hj
   exact⟨v,rfl,h1⟩
  | succ j =>
   rw[List.getElem?_cons_succ]at hj ⊢
   exact h3 j q hj
 | [],_ :: _,h=>h.elim
 | _ :: _,[],h=>h.elim
theorem aLR{x:Int}(h:0≤x∧x<65536):(Lit.int .u16 x).wf=true:=by
 have e1:IntKind.u16.min=0:=rfl
 have e2:IntKind.u16.max=65535:=rfl
 simp only[Lit.wf,e1,e2,Bool.and_eq_true,decide_eq_true_eq]
 omega
theorem aLS{x:Int}(h:0≤x∧x<4294967296):(Lit.int .u32 x).wf=true:=by
 have e1:IntKind.u32.min=0:=rfl
 have e2:IntKind.u32.max=4294967295:=rfl
 simp only[Lit.wf,e1,e2,Bool.and_eq_true,decide_eq_true_eq]
 omega
theorem aLT{x:Int}(h:0≤x∧x<18446744073709551616):(Lit.int .u64 x).wf=true:=by
 have e1:IntKind.u64.min=0:=rfl
 have e2:IntKind.u64.max=18446744073709551615:=rfl
 simp only[Lit.wf,e1,e2,Bool.and_eq_true,decide_eq_true_eq]
 omega
theorem aJ9:PL=[some .u16,some .u32,none,none,none,none,some .i64,some .i64,some .i64,some .i64,some .i64,some .i64,some .i64,some .i64,some .i64,some .i64,some .i64,some .i64,some .i64,some .i64,some .i64,some .i64,none,none,none,none,none,none,none,none,none,none,none,none,none,none,none,none,none,none,none,none,none,none,none,none,none,none,none,none,none,some .i64,none,none,none,none,none,none,some .i64,some .u64,some .u32,some .u64,some .u16,some .u16,some .i64,some .i64,some .i64,some .i64,some .u64,some .u32,some .u64,some .u16,some .u16,some .u64,some .u32,some .u64,some .u16,some .u16,some .i64,some .i64,some .i64,some .i64,some .i64,some .i64,some .i64,some .i64,some .i64,some .i64,some .i64]:=rfl
theorem aKA:HL=[some .u64,none,some .i64,some .i64,some .i64,some .i64,some .i64,some .u64,some .u32,some .u64,some .u16,some .u16,some .i64,some .i64,some .i64,some .i64,some .i64]:=rfl
theorem aFA{a b mx hl dl e:Int}{x y z r:Bool}(ha:(Lit.int .u16 a).wf=true)(hb:(Lit.int .u32 b).wf=true)(hm:(Lit.int .i64 mx).wf=true)(hh:(Lit.int .i64 hl).wf=true)(hd:(Lit.int .i64 dl).wf=true)(he:(Lit.int .i64 e).wf=true):Typed PL (dQ a b x y z r mx hl dl e).toList:=by
 rw[aJ9]
 exact nO ⟨⟨_,rfl,ha⟩,⟨_,rfl,hb⟩,⟨_,rfl⟩,⟨_,rfl⟩,⟨_,rfl⟩,⟨_,rfl⟩,⟨_,rfl,rfl⟩,⟨_,rfl,hm⟩,⟨_,rfl,hh⟩,⟨_,rfl,rfl⟩,⟨_,rfl,rfl⟩,⟨_,rfl,rfl⟩,⟨_,rfl,hd⟩,⟨_,rfl,rfl⟩,⟨_,rfl,rfl⟩,⟨_,rfl,rfl⟩,⟨_,rfl,rfl⟩,⟨_,rfl,he⟩,⟨_,rfl,rfl⟩,⟨_,rfl,rfl⟩,⟨_,rfl,rfl⟩,⟨_,rfl,rfl⟩,⟨_,rfl⟩,⟨_,rfl⟩,⟨_,rfl⟩,⟨_,rfl⟩,⟨_,rfl⟩,⟨_,rfl⟩,⟨_,rfl⟩,⟨_,rfl⟩,⟨_,rfl⟩,⟨_,rfl⟩,⟨_,rfl⟩,⟨_,rfl⟩,⟨_,rfl⟩,⟨_,rfl⟩,⟨_,rfl⟩,⟨_,rfl⟩,⟨_,rfl⟩,⟨_,rfl⟩,⟨_,rfl⟩,⟨_,rfl⟩,⟨_,rfl⟩,⟨_,rfl⟩,⟨_,rfl⟩,⟨_,rfl⟩,⟨_,rfl⟩,⟨_,rfl⟩,⟨_,rfl⟩,⟨_,rfl⟩,⟨_,rfl⟩,⟨_,rfl,rfl⟩,⟨_,rfl⟩,⟨_,rfl⟩,⟨_,rfl⟩,⟨_,rfl⟩,⟨_,rfl⟩,⟨_,rfl⟩,⟨_,rfl,rfl⟩,⟨_,rfl,rfl⟩,⟨_,rfl,rfl⟩,⟨_,rfl,rfl⟩,⟨_,rfl,rfl⟩,⟨_,rfl,rfl⟩,⟨_,rfl,rfl⟩,⟨_,rfl,rfl⟩,⟨_,rfl,rfl⟩,⟨_,rfl,rfl⟩,⟨_,rfl,rfl⟩,⟨_,rfl,rfl⟩,⟨_,rfl,rfl⟩,⟨_,rfl,rfl⟩,⟨_,rfl,rfl⟩,⟨_,rfl,rfl⟩,⟨_,rfl,rfl⟩,⟨_,rfl,rfl⟩,⟨_,rfl,rfl⟩,⟨_,rfl,rfl⟩,⟨_,rfl,rfl⟩,⟨_,rfl,rfl⟩,⟨_,rfl,rfl⟩,⟨_,rfl,rfl⟩,⟨_,rfl,rfl⟩,⟨_,rfl,rfl⟩,⟨_,rfl,rfl⟩,⟨_,rfl,rfl⟩,⟨_,rfl,rfl⟩,⟨_,rfl,rfl⟩,⟨_,rfl,rfl⟩,trivial⟩
def hdL(id:Int)(rst:Bool)(mx hl dl hold:Int):List Value:=[.int .u64 id,.bool rst,.int .i64 0,.int .i64 mx,.int .i64 hl,.int .i64 dl,.int .i64 hold,.int .u64 id,.int .u32 0,.int .u64 id,.int .u16 0,.int .u16 0,.int .i64 (-1),.int .i64 0,.int .i64 mx,.int .i64 hl,.int .i64 dl]
def pL(rst:Bool)(mx hl dl:Int)(p:Pt):List Value:=(dQ p.pid p.cost p.sh p.ad p.au rst mx hl dl (if p.ad then 0 else 1)).toList
def aHQ(id:Int)(rst:Bool)(mx hl dl hold:Int)(P:List Pt):Br:=⟨hdL id rst mx hl dl hold,P.length,P.flatMap (pL rst mx hl dl),0,[],0,[]⟩
def PtR(p:Pt):Prop:=(0≤p.pid∧p.pid<65536)∧0≤p.cost∧p.cost<4294967296
theorem aFB(rst:Bool)(mx hl dl:Int)(p:Pt):(pL rst mx hl dl p).length=89:=rfl
theorem aCK{id mx hl dl hold:Int}{rst:Bool}{P:List Pt}{k j:Nat}{x:Value}(hk:k<P.length)(hx:(pL rst mx hl dl (P.getD k default))[j]?=some x):(aHQ id rst mx hl dl hold P).ps[k*89+j]?=some x :=
 mV (pL rst mx hl dl) 89 (aFB rst mx hl dl) default P k j x hk hx
theorem cI{id hold:Int}{rst:Bool}{P:List Pt}{k j:Nat}{q:IntKind}{x:Int}(hk:k<P.length)(hx:(pL rst 20 2 15 (P.getD k default))[j]?=some (.int q x)):(aHQ id rst 20 2 15 hold P).gi k j=x:=by
 unfold Br.gi
 rw[aCK hk hx]
theorem pZ{id hold:Int}{rst:Bool}{P:List Pt}(hn:P.length≤32):lM (aHQ id rst 20 2 15 hold P)↔1≤hold∧hold≤10:=by
 constructor
 ·rintro⟨⟨_,_,_,h1,h2,_⟩,_⟩
  exact⟨h1,h2⟩
 ·rintro⟨h1,h2⟩
  have e:∀j x,(hdL id rst 20 2 15 hold)[j]?=some (.int .i64 x)→(aHQ id rst 20 2 15 hold P).hi j=x:=fun j x h=>by
   unfold Br.hi
   show(match (hdL id rst 20 2 15 hold)[j]? with|some (.int _ z)=>z|_=>0)=x
   rw[h]
  refine⟨⟨?_,?_,e 2 0 rfl,?_,?_,hn,?_,?_⟩,fun k hk=>⟨fun j hj=>?_,?_,?_,?_⟩⟩
  ·rw[e 2 0 rfl,e 3 20 rfl,e 4 2 rfl,e 5 15 rfl];unfold TR;omega
  ·rw[e 13 0 rfl,e 14 20 rfl,e 15 2 rfl,e 16 15 rfl];unfold TF;omega
  ·rw[e 6 hold rfl];exact h1
  ·rw[e 6 hold rfl];exact h2
  ·rw[e 12 (-1) rfl];omega
  ·rw[e 12 (-1) rfl];show(-1:Int)<(P.length:Int);omega
  ·have hc:j=0∨j=1∨j=2∨j=3∨j=4∨j=5∨j=6∨j=7∨j=8:=by omega
   rcases hc with rfl|rfl|rfl|rfl|rfl|rfl|rfl|rfl|rfl
   ·rw[cI (q:=.i64) (x:=3) hk rfl];omega
   ·rw[cI (q:=.i64) (x:=20) hk rfl];omega
   ·rw[cI (q:=.i64) (x:=2) hk rfl];omega
   ·rw[cI (q:=.i64) (x:=3) hk rfl];omega
   ·rw[cI (q:=.i64) (x:=0) hk rfl];omega
   ·rw[cI (q:=.i64) (x:=0) hk rfl];omega
   ·rw[cI (q:=.i64) (x:=15) hk rfl];omega
   ·rw[cI (q:=.i64) (x:=0) hk rfl];omega
   ·rw[cI (q:=.i64) (x:=0) hk rfl];omega
  ·rw[cI (q:=.i64) (x:=0) hk rfl,cI (q:=.i64) (x:=0) hk rfl,cI (q:=.i64) (x:=0) hk rfl,cI (q:=.i64) (x:=0) hk rfl];unfold TF;omega
  ·rw[cI (q:=.i64) (x:=0) hk rfl,cI (q:=.i64) (x:=0) hk rfl,cI (q:=.i64) (x:=0) hk rfl,cI (q:=.i64) (x:=0) hk rfl];unfold TF;omega
  ·rw[cI (q:=.i64) (x:=0) hk rfl,cI (q:=.i64) (x:=0) hk rfl,cI (q:=.i64) (x:=0) hk rfl,cI (q:=.i64) (x:=0) hk rfl];unfold TF;omega
end Go.Proofs.YtpanapepcbbagaaGreat
