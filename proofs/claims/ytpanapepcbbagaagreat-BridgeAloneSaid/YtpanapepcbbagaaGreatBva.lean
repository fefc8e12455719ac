/- Part 1 of what BridgeRests stands on. No statement is proved here. -/
import Derived.WalkKit
import Derived.ProofKit
import Derived.OpenShut
import Derived.BigQuiet
import Derived.Lib.Hide
import Derived.LoopN
import Derived.ChangeSame
import Derived.Deep.Draws
import Derived.Deep.Fields
import Derived.WideKeyArgs
import Derived.Test.YtpanapepcbbagaaGreatRows
import Derived.Laws.StructEq
import Derived.Deep.MidRow
import Derived.Deep.Slices
import Derived.Laws.AppendOwn
import Derived.Deep.WholeRow
import Derived.Deep.AppendLies
import Derived.Laws.AppendOwnNone
import Derived.OwnWalk
import Derived.StillTailTactics
import Derived.Deep.RegionHeld3
import Derived.Great.BuildSlice
import Derived.Deep.Light
set_option linter.unusedVariables false
set_option linter.unusedSimpArgs false
set_option maxRecDepth 100000
set_option maxHeartbeats 8000000
namespace Go.Proofs.YtpanapepcbbagaaGreat
open Go.RowKit Go.WideShapes Go.ChangeShapes Go.WideElems Go.Deep
theorem hD {p : Prop} (h : p) : Hid p := Lib.hid h
theorem nL {a b c : Nat} (h : a < b) (h2 : b ≤ c) : a < c := Nat.lt_of_lt_of_le h h2
theorem aAQ{B:Nat}{a w:World}(h:Below B a w)(n:Nat):Below B a (w.drewN n):=⟨h.os,h.tape,h.output,h.size,h.block⟩
def Ext(a b:World):Prop:=Below a.heap.size a b
theorem Ext.refl(a:World):Ext a a:=Below.refl _ a
theorem Ext.trans{a b c:World}(h:Ext a b)(k:Ext b c):Ext a c:=Below.trans h (Below.mono k h.size)
theorem Ext.drew{a b:World}(h:Ext a b):Ext a b.drew:=Below.drew h
theorem Ext.drewN{a b:World}(h:Ext a b)(n:Nat):Ext a (b.drewN n):=aAQ h n
theorem Ext.alloc{a b:World}(h:Ext a b)(o:Obj):Ext a (b.alloc o):=Below.alloc h h.size o
theorem Ext.cell{a b:World}(h:Ext a b){p:Addr}(hp:p.block<a.heap.size):b.cell? p=a.cell? p:=Below.cell h hp
theorem xc{w w':World}{b o:Nat}{v:Value}(h:Ext w w')(hb:b<w.heap.size)(hv:w.cell? ⟨b,o,none⟩=some v):w'.cell? ⟨b,o,none⟩=some v:=(h.cell hb).trans hv
theorem qG{P:Program}{f:FuncId}{args:Array Value}{w:World}{v v':Value}{R:World→Prop}(h:Calls P f args w fun e w'=>e=.returned v∧R w')(hv:v=v'):
    Calls P f args w fun e w'=>e=.returned v'∧R w':=h.mono fun _ _ ⟨he,hr⟩=>⟨by rw[he,hv],hr⟩
theorem qS{P:Program}{f:FuncId}{args:Array Value}{w:World}{k:IntKind}{x y:Int}{R:World→Prop}(h:Calls P f args w fun e w'=>e=.returned (.int k x)∧R w')(hv:x=y):
    Calls P f args w fun e w'=>e=.returned (.int k y)∧R w':=h.mono fun _ _ ⟨he,hr⟩=>⟨by rw[he,hv],hr⟩
theorem eM{P:Program}{f:FuncId}{args:Array Value}{w:World}{x y:Bool}{R:World→Prop}(h:Calls P f args w fun e w'=>e=.returned (.bool x)∧R w')(hv:x=y):
    Calls P f args w fun e w'=>e=.returned (.bool y)∧R w':=h.mono fun _ _ ⟨he,hr⟩=>⟨by rw[he,hv],hr⟩
theorem lL{k:IntKind}{a b:Int}(h:a=b):Ending.returned (.int k a)=.returned (.int k b):=by rw[h]
theorem lY{a b:Bool}(h:a=b):Ending.returned (.bool a)=.returned (.bool b):=by rw[h]
theorem eP{P:Program}{f:FuncId}{args:Array Value}{w:World}{n:Nat}{v:Value}(h:Calls P f args (w.drewN n) fun e w'=>e=.returned v∧w.drewN n=w'):Calls P f args (w.drewN n) fun e w''=>e=.returned v∧∃m,w''=w.drewN m :=
 h.mono fun _ _ ⟨he,hm⟩=>⟨he,n,hm.symm⟩
theorem aCX(n b:Nat)(hn:n<18446744073709551616)(hb:b<64):
    bits .and .u64 (n:Int) (IntKind.u64.wrap (IntKind.u64.wrap (2 ^ b) - 1))=((n % 2 ^ b:Nat):Int):=by
 have h1:(2:Nat) ^ b<18446744073709551616:=by
  have:=Nat.pow_lt_pow_right (show 1<2 by decide) hb
  exact nL this (by decide)
 have h0:0<(2:Nat) ^ b:=Nat.two_pow_pos b
 have e1:IntKind.u64.wrap ((2:Int) ^ b)=((2 ^ b:Nat):Int):=by
  rw[IntKind.wrap_u64]
  have:((2:Int) ^ b)=((2 ^ b:Nat):Int):=by push_cast;rfl
  rw[this];omega
 rw[e1]
 have e2:IntKind.u64.wrap (((2 ^ b:Nat):Int) - 1)=((2 ^ b - 1:Nat):Int):=by
  rw[IntKind.wrap_u64];omega
 rw[e2,u64_and_nat n (2 ^ b - 1) hn (by omega),Nat.and_two_pow_sub_one_eq_mod]
theorem wD{n:Int}(h:(Lit.int .u16 n).wf=true):0≤n∧n<65536:=by simp[Lit.wf,IntKind.min,IntKind.max,IntKind.signed,IntKind.bits]at h;omega
theorem oV{n:Int}(h:(Lit.int .u32 n).wf=true):0≤n∧n<4294967296:=by simp[Lit.wf,IntKind.min,IntKind.max,IntKind.signed,IntKind.bits]at h;omega
theorem mY{n:Int}(h:(Lit.int .u64 n).wf=true):0≤n∧n<18446744073709551616:=by simp[Lit.wf,IntKind.min,IntKind.max,IntKind.signed,IntKind.bits]at h;omega
theorem aIZ{n:Int}(h:(Lit.int .i64 n).wf=true):-9223372036854775808≤n∧n≤9223372036854775807:=by simp[Lit.wf,IntKind.min,IntKind.max,IntKind.signed,IntKind.bits]at h;omega
end Go.Proofs.YtpanapepcbbagaaGreat
namespace Go.Proofs.YtpanapepcbbagaaGreat
open Go.RowKit Go.WideShapes Go.ChangeShapes Go.Deep
def jL:Option IntKind→Value→Prop
 | none,v=>∃b,v=.bool b
 | some k,v=>∃z,v=.int k z∧(Lit.int k z).wf=true
def Typed(l:List (Option IntKind))(cs:List Value):Prop:=cs.length=l.length∧∀(j:Nat) (k:Option IntKind),l[j]?=some k→∃v,cs[j]?=some v∧jL k v
theorem wE{k:Option IntKind}{v:Value}(h:jL k v):v.oneCell'=true:=by
 cases k with
 | none=>obtain⟨b,rfl⟩:=h;rfl
 | some k=>obtain⟨z,rfl,_⟩:=h;rfl
theorem Typed.one{l:List (Option IntKind)}{cs:List Value}(h:Typed l cs):∀v∈cs,v.oneCell'=true:=by
 intro v hv
 obtain⟨j,hj,rfl⟩:=List.getElem_of_mem hv
 obtain⟨u,hu,ho⟩:=h.2 j _ (List.getElem?_eq_getElem (by rw[←h.1];exact hj))
 rw[List.getElem?_eq_getElem hj]at hu
 cases hu
 exact wE ho
theorem Typed.bool{l:List (Option IntKind)}{cs:List Value}(h:Typed l cs)(j:Nat)(hj:l[j]?=some none):∃b,cs[j]?=some (.bool b):=by
 obtain⟨v,hv,b,rfl⟩:=h.2 j _ hj
 exact⟨b,hv⟩
theorem Typed.int{l:List (Option IntKind)}{cs:List Value}(h:Typed l cs)(j:Nat)(k:IntKind)(hj:l[j]?=some (some k)):∃z,cs[j]?=some (.int k z)∧(Lit.int k z).wf=true:=by
 obtain⟨v,hv,z,rfl,hz⟩:=h.2 j _ hj
 exact⟨z,hv,hz⟩
theorem Typed.set{l:List (Option IntKind)}{cs:List Value}(h:Typed l cs)(j:Nat)(v:Value)(hv:∀k,l[j]?=some k→jL k v):Typed l (cs.set j v):=by
 refine⟨by simpa using h.1,fun i k hi=>?_⟩
 by_cases e:j=i
 ·subst e
  have hl:j<l.length:=(List.getElem?_eq_some_iff.1 hi).1
  exact⟨v,by simp[h.1,hl],hv k hi⟩
 ·obtain⟨u,hu,ho⟩:=h.2 i k hi
  exact⟨u,by simp[e,hu],ho⟩
theorem Typed.append{l l2:List (Option IntKind)}{cs cs2:List Value}(h:Typed l cs)(h2:Typed l2 cs2):Typed (l++l2) (cs++cs2):=by
 have a:=h.1;have b:=h2.1
 refine⟨by simp;omega,fun j k hj=>?_⟩
 by_cases hl:j<l.length
 ·obtain⟨v,hv,ho⟩:=h.2 j k (by rw[List.getElem?_append_left hl]at hj;exact hj)
  exact⟨v,by rw[List.getElem?_append_left (by omega)];exact hv,ho⟩
 ·obtain⟨v,hv,ho⟩:=h2.2 (j - l.length) k (by rw[List.getElem?_append_right (by omega)]at hj;exact hj)
  exact⟨v,by rw[List.getElem?_append_right (by omega),a];exact hv,ho⟩
section
variable {P:Program}
theorem aAR{t:TypeId}{q:TypeDesc}(hu:P.underlying t=some q)(w:World):(isAgg t).run P w=.ok q.isRow w:=by
 unfold isAgg
 rw[Sem.run_bind,run_underlying hu w]
 cases q<;>rfl
variable {H:Type} {enc:TypeId × Value→H} {w:World} {base:Nat} {spare:Nat→Bool} {held:Bool}
end
def IsRow(w:World)(m:Nat)(v:Value)(n:Nat)(xs:List Value):Prop :=
 xs.length=n*m∧((n=0∧(v=.slice none 0 0∨∃a cap,v=.slice (some a) 0 cap)) ∨
  ∃b off cap,v=.slice (some ⟨b,off,none⟩) n cap∧0<n∧n≤cap∧cap≤maxLen∧b<w.heap.size∧w.rangeAt b off xs)
def RowTyped(l:List (Option IntKind))(n:Nat)(xs:List Value):Prop:=xs.length=n*l.length∧∀i,i<n→Typed l ((xs.drop (i*l.length)).take l.length)
theorem aQ{w w':World}{b off:Nat}{xs:List Value}(h:w.rangeAt b off xs)(hx:Ext w w')(hb:b<w.heap.size):w'.rangeAt b off xs:=fun j v hv=>(hx.cell hb).trans (h j v hv)
theorem IsRow.ext{w w':World}{m n:Nat}{v:Value}{xs:List Value}(h:IsRow w m v n xs)(hx:Ext w w'):IsRow w' m v n xs:=by
 obtain⟨h0,h|⟨b,off,cap,h1,g0,g1,g2,h2,h3⟩⟩:=h
 ·exact⟨h0,.inl h⟩
 ·exact⟨h0,.inr ⟨b,off,cap,h1,g0,g1,g2,nL h2 hx.size,aQ h3 hx h2⟩⟩
theorem oW(xs:List Value)(i m:Nat):(xs.take ((i+1)*m)).drop (i*m)=(xs.drop (i*m)).take m:=by
 rw[List.drop_take]
 congr 1
 rw[Nat.add_mul,Nat.one_mul]
 omega
theorem RowTyped.one{l:List (Option IntKind)}:∀{n:Nat} {xs:List Value},RowTyped l n xs→∀v∈xs,v.oneCell'=true
 | 0,xs,h,v,hv=>by
  have:=h.1
  rw[Nat.zero_mul]at this
  rw[List.length_eq_zero_iff.1 this]at hv
  cases hv
 | n+1,xs,h,v,hv=>by
  obtain⟨h1,h2⟩:=h
  rw[Nat.add_mul,Nat.one_mul]at h1
  have e:xs=xs.take (n*l.length)++(xs.drop (n*l.length)).take l.length:=by
   rw[List.take_of_length_le (l:=xs.drop (n*l.length)) (by simp;omega),List.take_append_drop]
  rw[e]at hv
  rcases List.mem_append.1 hv with hv|hv
  ·have hlen:(xs.take (n*l.length)).length=n*l.length:=by rw[List.length_take];exact Nat.min_eq_left (by omega)
   refine RowTyped.one (n:=n) (xs:=xs.take (n*l.length)) ⟨hlen,fun i hi=>?_⟩ v hv
   have:=h2 i (by omega)
   have hle:(i+1)*l.length≤n*l.length:=Nat.mul_le_mul_right _ hi
   rw[←oW]at this ⊢
   rwa [List.take_take,Nat.min_eq_left hle]
  ·exact(h2 n (by omega)).one v hv
section
variable {P:Program} {H:Type} {enc:TypeId × Value→H} {w:World}
end
def HL:List (Option IntKind):=[some .u64,none,some .i64,some .i64,some .i64,some .i64,some .i64,some .u64,some .u32,some .u64,some .u16,some .u16,some .i64,some .i64,some .i64,some .i64,some .i64]
def ML:List (Option IntKind):=[some .i64,none,none,none,none,none,none,some .i64,some .u64,some .u32,some .u64,some .u16,some .u16,some .i64,some .i64,some .i64,some .i64]
def PL:List (Option IntKind):=[some .u16,some .u32,none,none,none,none]++List.replicate 16 (some .i64)++List.replicate 29 none++ML++[some .u64,some .u32,some .u64,some .u16,some .u16,some .u64,some .u32,some .u64,some .u16,some .u16]++List.replicate 11 (some .i64)
def SL:List (Option IntKind):=some .i64 :: ML
structure Br where
 hd:List Value
 np:Nat
 ps:List Value
 no:Nat
 os:List Value
 nf:Nat
 fl:List Value
structure Br.ok (B:Br):Prop where
 hd:Typed HL B.hd
 ps:RowTyped PL B.np B.ps
 os:RowTyped SL B.no B.os
 fl:RowTyped [some .i64] B.nf B.fl
def BrC(w:World)(c:Array Value)(B:Br):Prop :=
 ∃s1 s2 s3,c=(B.hd++[s1,s2,s3]).toArray∧IsRow w 89 s1 B.np B.ps∧IsRow w 18 s2 B.no B.os∧IsRow w 1 s3 B.nf B.fl
theorem BrC.ext{w w':World}{c:Array Value}{B:Br}(h:BrC w c B)(hx:Ext w w'):BrC w' c B:=by
 obtain⟨s1,s2,s3,h0,h1,h2,h3⟩:=h
 exact⟨s1,s2,s3,h0,h1.ext hx,h2.ext hx,h3.ext hx⟩
theorem IsRow.form{w:World}{m n:Nat}{v:Value}{xs:List Value}(h:IsRow w m v n xs):∃a cap,v=.slice a n cap∧n≤9223372036854775807∧(0<n→∃b off,a=some ⟨b,off,none⟩∧b<w.heap.size∧n≤cap∧cap≤9223372036854775807∧w.rangeAt b off xs):=by
 obtain⟨_,⟨rfl,rfl|⟨a,cap,rfl⟩⟩|⟨b,off,cap,rfl,h0,h1,h2,h3,h4⟩⟩:=h
 ·exact⟨none,0,rfl,by simp,fun h=>by simp at h⟩
 ·exact⟨some a,cap,rfl,by simp,fun h=>by simp at h⟩
 ·unfold maxLen at h2
  exact⟨_,cap,rfl,by omega,fun _=>⟨b,off,rfl,h3,h1,h2,h4⟩⟩
theorem BrC.facts{w:World}{c:Array Value}{B:Br}(h:BrC w c B)(hl:B.hd.length=17):∃s1 s2 s3,c.size=20∧(∀j,j<17→c[j]?=B.hd[j]?)∧c[17]?=some s1∧c[18]?=some s2∧c[19]?=some s3∧IsRow w 89 s1 B.np B.ps∧IsRow w 18 s2 B.no B.os∧IsRow w 1 s3 B.nf B.fl:=by
 obtain⟨s1,s2,s3,rfl,h1,h2,h3⟩:=h
 refine⟨s1,s2,s3,by simp[hl],fun j hj=>?_,?_,?_,?_,h1,h2,h3⟩
 ·simp only[List.getElem?_toArray]
  exact List.getElem?_append_left (by omega)
 ·simp[hl]
 ·simp[hl]
 ·simp[hl]
theorem kM{w w':World}{c:Array Value}{t:TypeId}(hx:Ext (w.alloc (.cells c t)) w'):∀j,w'.cell? ⟨w.heap.size,j,none⟩=c[j]? :=
 fun j=>(hx.cell (by simp)).trans (World.cell?_alloc_at _ _ _ _ rfl)
theorem kZ:(Tryz.prog.info? 35).map (·.size)=some 20:=by kernel_rfl
theorem gQ:(Tryz.prog.info? 60).map (·.size)=some 89:=by kernel_rfl
def zc:Option IntKind→Value
 | none=>.bool false
 | some k=>.int k 0
theorem aG(T:TypeId){P:Program}{ops:Array Oper}{rest:List Oper}{a:Act}{w:World}{Q:Exit→Act→World→Prop}{d:Option Tmp}{x:Operand}{ty:TypeId}{pos:String}{af:Array Edge}(h:wpList P ops Q ({ dst:=d,op:=.load T x,type:=ty,pos:=pos,after:=af,guard:=none } :: rest) a w):wpList P ops Q ({ dst:=d,op:=.load T x,type:=ty,pos:=pos,after:=af,guard:=none } :: rest) a w:=h
theorem aD(T:TypeId){P:Program}{ops:Array Oper}{rest:List Oper}{a:Act}{w:World}{Q:Exit→Act→World→Prop}{d:Option Tmp}{x y:Operand}{ty:TypeId}{pos:String}{af:Array Edge}(h:wpList P ops Q ({ dst:=d,op:=.store T x y,type:=ty,pos:=pos,after:=af,guard:=none } :: rest) a w):wpList P ops Q ({ dst:=d,op:=.store T x y,type:=ty,pos:=pos,after:=af,guard:=none } :: rest) a w:=h
theorem aW(T:TypeId){P:Program}{ops:Array Oper}{rest:List Oper}{a:Act}{w:World}{Q:Exit→Act→World→Prop}{d:Option Tmp}{x:Operand}{ty:TypeId}{pos:String}{af:Array Edge}{gd:Nat × Bool}(h:wpList P ops Q ({ dst:=d,op:=.load T x,type:=ty,pos:=pos,after:=af,guard:=some gd } :: rest) a w):wpList P ops Q ({ dst:=d,op:=.load T x,type:=ty,pos:=pos,after:=af,guard:=some gd } :: rest) a w:=h
theorem aL{P:Program}{ops:Array Oper}{rest:List Oper}{o:Oper}{a:Act}{w:World}{Q:Exit→Act→World→Prop}(hw:Region.wanted o (yielded ops a.tmps)=true)(ty:TypeId)(x:Operand)(ho:o.op=.load ty x)(g:Nat)(hx:a.eval x=.pointer (some ⟨g,0,none⟩))(t:TypeId)(cs:Array Value)(fr:Nat × Nat)(d:TypeDesc)(hg:w.heap[g]?=some (.cells cs t fr))(hu:P.underlying ty=some d)(hd:(match d with|.struct _|.array _ _=>true|_=>false)=true)(hi:(P.info? ty).map (·.size)=some cs.size)(h:wpList P ops Q rest (a.put o.dst (.agg cs)) w):wpList P ops Q (o :: rest) a w :=
 BigFrame.wpList_want hw fun _ hK=>wp_load_row ty x ho g hx t cs fr d hg hu hd hi (hK _ _ h)
theorem aU{P:Program}{ops:Array Oper}{rest:List Oper}{op:Oper}{a:Act}{w:World}{Q:Exit→Act→World→Prop}(hw:Region.wanted op (yielded ops a.tmps)=true)(ty:TypeId)(x:Operand)(ho:op.op=.load ty x)(b o:Nat)(hx:a.eval x=.pointer (some ⟨b,o,none⟩))(cs:List Value)(d:TypeDesc)(hc:w.rangeAt b o cs)(hu:P.underlying ty=some d)(hd:d.isRow=true)(hi:(P.info? ty).map (·.size)=some cs.length)(h:wpList P ops Q rest (a.put op.dst (.agg cs.toArray)) w):wpList P ops Q (op :: rest) a w :=
 BigFrame.wpList_want hw fun _ hK=>wp_load_mid ty x ho b o hx cs d hc hu hd hi (hK _ _ h)
theorem aE{P:Program}{ops:Array Oper}{rest:List Oper}{op:Oper}{a:Act}{w:World}{Q:Exit→Act→World→Prop}(hgd:op.guard=none)(hdst:op.dst=none)(t t0:TypeId)(x y:Operand)(ho:op.op=.store t x y)(c c':Array Value)(n:Nat)(hx:a.eval x=.pointer (some ⟨n,0,none⟩))(hn:n=w.heap.size)(hy:a.eval y=.agg c')(hi:(P.info? t).map (·.size)=some c'.size)(hs:c.size=c'.size)(h1:c'.toList.all (·.oneCell')=true)(h:wpList P ops Q rest a (w.alloc (.cells c' t0))):wpList P ops Q (op :: rest) a (w.alloc (.cells c t0)) :=
 wpList_plain hgd fun K hK=>by
  subst hn
  unfold Oper.wp execOp
  simp only[ho,hx,hy,Instr.storeAt,Instr.sureAddr,Sem.run_bind,Sem.run_pure,Result.andThen_ok,run_storeVar_row _ _ t0 t c c' (heap_alloc_new w _) hi hs (by rw[←Array.all_toList];exact h1),World.setRow_alloc_new]
  exact hK _ _ (by rw[show a.put op.dst undef=a by rw[hdst];rfl];exact h)
theorem cL{P:Program}{ops:Array Oper}{rest:List Oper}{op:Oper}{a:Act}{w:World}{Q:Exit→Act→World→Prop}(hgd:op.guard=none)(hdst:op.dst=none)(t t0:TypeId)(x y:Operand)(ho:op.op=.store t x y)(c c':Array Value)(n:Nat)(hx:a.eval x=.pointer (some ⟨n,0,none⟩))(hn:n=w.heap.size)(hy:a.eval y=.agg c')(hi:(P.info? t).map (·.size)=some c'.size)(hs:c.size=c'.size)(h1:c'.toList.all (·.oneCell')=true)(h:∀w':World,w'=w.alloc (.cells c' t0)→wpList P ops Q rest a w'):wpList P ops Q (op :: rest) a (w.alloc (.cells c t0)) :=
 wpList_plain hgd fun K hK=>by
  subst hn
  unfold Oper.wp execOp
  simp only[ho,hx,hy,Instr.storeAt,Instr.sureAddr,Sem.run_bind,Sem.run_pure,Result.andThen_ok,run_storeVar_row _ _ t0 t c c' (heap_alloc_new w _) hi hs (by rw[←Array.all_toList];exact h1),World.setRow_alloc_new]
  exact hK _ _ (by rw[show a.put op.dst undef=a by rw[hdst];rfl];exact h _ rfl)
def a9(ps:List Value)(i:Nat):List Value:=(ps.drop (i*89)).take 89
theorem gR{B:Br}(ho:B.ok){i:Nat}(hi:i<B.np):Typed PL (a9 B.ps i):=ho.ps.2 i hi
theorem cO{w:World}{b off:Nat}{ps:List Value}(h:w.rangeAt b off ps)(i:Nat):w.rangeAt b (off+i*89) (a9 ps i):=fun j v hv=>by
 unfold a9 at hv
 rw[List.getElem?_take]at hv
 split at hv
 ·rw[List.getElem?_drop]at hv
  have:=h _ _ hv
  rwa [←Nat.add_assoc]at this
 ·cases hv
theorem rY{w:World}{base m n:Nat}{e:TypeId}{v:Value}{xs:List Value}(h:w.ownsRow base e m v n xs):IsRow w m v n xs:=by
 obtain⟨h0,⟨rfl,rfl⟩|⟨g,cap,cur,rfl,hb,hg,hn,hm,hs,ht⟩⟩:=h
 ·exact⟨h0,.inl ⟨rfl,.inl rfl⟩⟩
 ·refine ⟨h0,?_⟩
  by_cases hz:n=0
  ·exact .inl ⟨hz,.inr ⟨_,cap,by rw[hz]⟩⟩
  ·refine .inr ⟨g,0,cap,rfl,by omega,hn,hm,(Array.getElem?_eq_some_iff.1 hg).1,fun j v hv=>?_⟩
   rw[←ht,List.getElem?_take]at hv
   split at hv
   ·rw[Nat.zero_add,cell_of_row w g j cur e (0,0) hg]
    simpa using hv
   ·cases hv
theorem lZ{w:World}{base m n:Nat}{e:TypeId}{v:Value}{xs:List Value}(h:w.ownsRow base e m v n xs):∃a cap,v=.slice a n cap:=by
 obtain⟨h0,⟨rfl,rfl⟩|⟨g,cap,cur,rfl,hb,hg,hn,hm,hs,ht⟩⟩:=h
 ·exact⟨_,_,rfl⟩
 ·exact⟨_,_,rfl⟩
theorem y8{P:Program}{t:TypeId}{z:Value}{n b:Nat}(h:(P.info? t).map (fun i=>(i.zero,i.size,i.bytes))=some (some z,n,b)):∃i,P.info? t=some i∧i.zero=some z∧i.size=n∧i.bytes=b:=by
 obtain⟨i,hi,he⟩:=Option.map_eq_some_iff.1 h
 simp only[Prod.mk.injEq]at he
 exact⟨i,hi,he.1,he.2.1,he.2.2⟩
def SZ:Array Value:=(SL.map zc).toArray
theorem rZ:SZ.size=18:=by kernel_rfl
theorem aAS:(Tryz.prog.info? 71).map (fun i=>(i.zero,i.size,i.bytes))=some (some (.agg SZ),18,96):=by kernel_rfl
theorem aCY:(Tryz.prog.info? 3).map (fun i=>(i.zero,i.size,i.bytes))=some (some (.int .i64 0),1,8):=by kernel_rfl
theorem aC{w:World}{X:Nat}{o:Obj}(h:w.heap[X]?=some o):X<w.heap.size:=(Array.getElem?_eq_some_iff.1 h).1
theorem cV{w:World}{H:Nat}{a b:Value}{t:TypeId}(h:w.heap[H]?=some (.cells #[a,b] t (0,0))):w.cell? ⟨H,0,none⟩=some a:=(cell_of_row _ _ _ _ _ _ h).trans rfl
theorem dA {w:World} {H:Nat} {a b:Value} {t:TypeId} (h:w.heap[H]?=some (.cells #[a,b] t (0,0))):w.cell? ⟨H,1,none⟩=some b:=(cell_of_row _ _ _ _ _ _ h).trans rfl
theorem k3{w:World}{base m n:Nat}{e:TypeId}{v:Value}{xs:List Value}(h:w.ownsRow base e m v n xs){X j:Nat}{C:Array Value}{t:TypeId}{fr:Nat × Nat}(hX:w.heap[X]?=some (.cells C t fr))(ht:t≠e)(u:Value):
    (w.setCell ⟨X,j,none⟩ u).ownsRow base e m v n xs:=by
 refine⟨h.1,?_⟩
 rcases h.2 with hn|⟨g,cap,cur,rfl,hb,hg,rest⟩
 ·exact .inl hn
 ·refine .inr ⟨g,cap,cur,rfl,hb,?_,rest⟩
  rw[Below.heap_setCell _ _ _ _ (fun e'=>?_)]
  ·exact hg
  ·subst e'
   rw[hg]at hX
   cases hX
   exact ht rfl
theorem eQ{a w:World}(h:Ext a w){g:Nat}(hg:a.heap.size≤g)(cs:Array Value):Ext a (w.setRow g cs) :=
 Below.trans h ⟨rfl,rfl,rfl,by simp,fun k hk=>setRow_other w g k cs (by omega)⟩
theorem aS{P:Program}{id:Nat}{Q:Exit→Act→World→Prop}{a:Act}{w:World}{l:List Oper}(n:Nat)(hm:P.follows .mixedOrders=true)(hB:Region.lexTailB .any l.toArray n=true)(h:∀w2:World,w2=w.drew→wpStill P l.toArray w2 (fun a'=>wpList P l.toArray Q (l.drop n) a' w2) (l.take n) a):(Code.region id l.toArray true).wp P Q a w :=
 wp_region_still_tail n hm hB (h _ rfl)
def Br.setp(B:Br)(k j:Nat)(v:Value):Br:={ B with ps:=B.ps.set (k*89+j) v }
def Br.gi(B:Br)(k j:Nat):Int:=match B.ps[k*89+j]? with|some (.int _ z)=>z|_=>0
def Br.gb(B:Br)(k j:Nat):Bool:=match B.ps[k*89+j]? with|some (.bool z)=>z|_=>false
def Br.hi(B:Br)(j:Nat):Int:=match B.hd[j]? with|some (.int _ z)=>z|_=>0
def Br.hb(B:Br)(j:Nat):Bool:=match B.hd[j]? with|some (.bool z)=>z|_=>false
theorem bY{l:List (Option IntKind)}{n:Nat}{xs:List Value}:RowTyped l n xs↔xs.length=n*l.length∧∀i,i<n→∀j c,l[j]?=some c→∃v,xs[i*l.length+j]?=some v∧jL c v:=by
 constructor
 ·rintro⟨h1,h2⟩
  refine⟨h1,fun i hi j c hj=>?_⟩
  obtain⟨v,hv,ho⟩:=(h2 i hi).2 j c hj
  refine⟨v,?_,ho⟩
  rw[List.getElem?_take]at hv
  split at hv
  ·simpa using hv
  ·cases hv
 ·rintro⟨h1,h2⟩
  refine⟨h1,fun i hi=>⟨?_,fun j c hj=>?_⟩⟩
  ·have hle:(i+1)*l.length≤n*l.length:=Nat.mul_le_mul_right _ hi
   rw[Nat.add_mul,Nat.one_mul]at hle
   simp;omega
  ·obtain⟨v,hv,ho⟩:=h2 i hi j c hj
   refine⟨v,?_,ho⟩
   have hl:j<l.length:=(List.getElem?_eq_some_iff.1 hj).1
   rw[List.getElem?_take,if_pos hl]
   simpa using hv
theorem Br.ok.len{B:Br}(ho:B.ok):B.ps.length=B.np*89:=ho.ps.1
theorem Br.ok.cell{B:Br}(ho:B.ok){k:Nat}(hk:k<B.np){j:Nat}{c:Option IntKind}(hj:PL[j]?=some c):∃v,B.ps[k*89+j]?=some v∧jL c v :=
 (bY.1 ho.ps).2 k hk j c hj
theorem Br.ok.gi{B:Br}(ho:B.ok){k:Nat}(hk:k<B.np)(j:Nat){K:IntKind}(hj:PL[j]?=some (some K)):B.ps[k*89+j]?=some (.int K (B.gi k j)):=by
 obtain⟨v,hv,z,rfl,_⟩:=ho.cell hk hj
 rw[hv,Br.gi,hv]
theorem Br.ok.gw{B:Br}(ho:B.ok){k:Nat}(hk:k<B.np)(j:Nat){K:IntKind}(hj:PL[j]?=some (some K)):(Lit.int K (B.gi k j)).wf=true:=by
 obtain⟨v,hv,z,rfl,hz⟩:=ho.cell hk hj
 rw[Br.gi,hv]
 exact hz
theorem Br.ok.gb{B:Br}(ho:B.ok){k:Nat}(hk:k<B.np)(j:Nat)(hj:PL[j]?=some none):B.ps[k*89+j]?=some (.bool (B.gb k j)):=by
 obtain⟨v,hv,z,rfl⟩:=ho.cell hk hj
 rw[hv,Br.gb,hv]
theorem Br.ok.hi{B:Br}(ho:B.ok)(j:Nat){K:IntKind}(hj:HL[j]?=some (some K)):B.hd[j]?=some (.int K (B.hi j)):=by
 obtain⟨z,hv,_⟩:=ho.hd.int j K hj
 rw[hv,Br.hi,hv]
theorem Br.ok.hw{B:Br}(ho:B.ok)(j:Nat){K:IntKind}(hj:HL[j]?=some (some K)):(Lit.int K (B.hi j)).wf=true:=by
 obtain⟨z,hv,hz⟩:=ho.hd.int j K hj
 rw[Br.hi,hv]
 exact hz
theorem Br.ok.hb{B:Br}(ho:B.ok)(j:Nat)(hj:HL[j]?=some none):B.hd[j]?=some (.bool (B.hb j)):=by
 obtain⟨z,hv⟩:=ho.hd.bool j hj
 rw[hv,Br.hb,hv]
theorem Br.ok.setp{B:Br}(ho:B.ok){k j:Nat}{v:Value}(hk:k<B.np)(hj:j<89)(hv:∀c,PL[j]?=some c→jL c v):(B.setp k j v).ok:=by
 refine⟨ho.hd,?_,ho.os,ho.fl⟩
 obtain⟨h1,h2⟩:=bY.1 ho.ps
 refine bY.2 ⟨by simpa[Br.setp]using h1,fun i hi j' c hj'=>?_⟩
 obtain⟨u,hu,hc⟩:=h2 i hi j' c hj'
 have hl:j'<89:=(List.getElem?_eq_some_iff.1 hj').1
 have hlen:PL.length=89:=rfl
 rw[hlen]at hu ⊢
 by_cases e:k*89+j=i*89+j'
 ·have e1:i=k:=by omega
  have e2:j'=j:=by omega
  subst e1;subst e2
  refine⟨v,?_,hv c hj'⟩
  show(B.ps.set _ v)[_]?=_
  rw[List.getElem?_set_self (List.getElem?_eq_some_iff.1 hu).1]
 ·refine⟨u,?_,hc⟩
  show(B.ps.set _ v)[_]?=_
  rw[List.getElem?_set_ne e]
  exact hu
theorem Br.ok.setI{B:Br}(ho:B.ok){k:Nat}(hk:k<B.np)(j:Nat)(K:IntKind)(z:Int)(hj:PL[j]?=some (some K))(hz:(Lit.int K z).wf=true):(B.setp k j (.int K z)).ok :=
 ho.setp hk (List.getElem?_eq_some_iff.1 hj).1 (fun c hc=>by rw[hj]at hc;cases hc;exact⟨z,rfl,hz⟩)
theorem Br.ok.setB{B:Br}(ho:B.ok){k:Nat}(hk:k<B.np)(j:Nat)(z:Bool)(hj:PL[j]?=some none):(B.setp k j (.bool z)).ok :=
 ho.setp hk (List.getElem?_eq_some_iff.1 hj).1 (fun c hc=>by rw[hj]at hc;cases hc;exact⟨z,rfl⟩)
@[simp] theorem np_setp(B:Br)(k j:Nat)(v:Value):(B.setp k j v).np=B.np:=rfl
@[simp] theorem no_setp(B:Br)(k j:Nat)(v:Value):(B.setp k j v).no=B.no:=rfl
@[simp] theorem nf_setp(B:Br)(k j:Nat)(v:Value):(B.setp k j v).nf=B.nf:=rfl
@[simp] theorem os_setp(B:Br)(k j:Nat)(v:Value):(B.setp k j v).os=B.os:=rfl
@[simp] theorem fl_setp(B:Br)(k j:Nat)(v:Value):(B.setp k j v).fl=B.fl:=rfl
@[simp] theorem hd_setp(B:Br)(k j:Nat)(v:Value):(B.setp k j v).hd=B.hd:=rfl
@[simp] theorem hi_setp(B:Br)(k j i:Nat)(v:Value):(B.setp k j v).hi i=B.hi i:=rfl
@[simp] theorem hb_setp(B:Br)(k j i:Nat)(v:Value):(B.setp k j v).hb i=B.hb i:=rfl
@[simp] theorem aCZ(B:Br)(k j:Nat)(v:Value):(B.setp k j v).ps.length=B.ps.length:=by simp[Br.setp]
theorem l4(B:Br)(k j j':Nat)(v:Value)(h:j≠j'):(B.setp k j v).ps[k*89+j']?=B.ps[k*89+j']?:=by simp[Br.setp,h]
theorem oX(B:Br)(k j j':Nat)(v:Value)(h:j≠j'):(B.setp k j v).gi k j'=B.gi k j':=by rw[Br.gi,l4 _ _ _ _ _ h];rfl
theorem iU(B:Br)(k j j':Nat)(v:Value)(h:j≠j'):(B.setp k j v).gb k j'=B.gb k j':=by rw[Br.gb,l4 _ _ _ _ _ h];rfl
def Br.seth(B:Br)(j:Nat)(v:Value):Br:={ B with hd:=B.hd.set j v }
@[simp] theorem np_seth(B:Br)(j:Nat)(v:Value):(B.seth j v).np=B.np:=rfl
@[simp] theorem aK0(B:Br)(j:Nat)(v:Value):(B.seth j v).ps.length=B.ps.length:=rfl
@[simp] theorem gi_seth(B:Br)(k i j:Nat)(v:Value):(B.seth j v).gi k i=B.gi k i:=rfl
@[simp] theorem gb_seth(B:Br)(k i j:Nat)(v:Value):(B.seth j v).gb k i=B.gb k i:=rfl
def Br.setPort(B:Br)(k:Nat)(l:List Value):Br:={ B with ps:=B.ps.take (k*89)++l++B.ps.drop (k*89+89) }
theorem eR{B:Br}{k:Nat}{l:List Value}(hl:l.length=89)(hk:k*89+89≤B.ps.length)(i:Nat):
    (B.setPort k l).ps[i]?=if k*89≤i∧i<k*89+89 then l[i - k*89]? else B.ps[i]?:=by
 show(B.ps.take (k*89)++l++B.ps.drop (k*89+89))[i]?=_
 have h1:(B.ps.take (k*89)).length=k*89:=by rw[List.length_take];omega
 rw[List.append_assoc]
 by_cases a:i<k*89
 ·rw[List.getElem?_append_left (by omega),List.getElem?_take,if_pos a,if_neg (by omega)]
 ·rw [List.getElem?_append_right (by omega),h1]
  by_cases b:i<k*89+89
  ·rw[List.getElem?_append_left (by omega),if_pos ⟨by omega,b⟩]
  ·rw[List.getElem?_append_right (by omega),List.getElem?_drop,if_neg (by omega),hl]
   congr 1;omega
theorem Br.ext_ps{B C:Br}(h1:B.hd=C.hd)(h2:B.np=C.np)(h3:∀i:Nat,B.ps[i]?=C.ps[i]?)(h4:B.no=C.no)(h5:B.os=C.os)(h6:B.nf=C.nf)(h7:B.fl=C.fl):B=C:=by
 obtain⟨⟩:=B;obtain⟨⟩:=C
 simp only[Br.mk.injEq]
 exact⟨h1,h2,List.ext_getElem? h3,h4,h5,h6,h7⟩
theorem eA{B:Br}{k:Nat}(hk:k*89+89≤B.ps.length):B.setPort k (a9 B.ps k)=B:=by
 refine Br.ext_ps rfl rfl (fun i=>?_) rfl rfl rfl rfl
 rw[eR (by simp[a9];omega) hk]
 split
 ·rename_i h
  unfold a9
  rw[List.getElem?_take,if_pos (by omega),List.getElem?_drop]
  congr 1;omega
 ·rfl
theorem aC0{B:Br}{k:Nat}(hk:k*89+89≤B.ps.length):(a9 B.ps k).length=89:=by simp[a9];omega
theorem aI{B:Br}{k j:Nat}(hj:j<89):(a9 B.ps k)[j]?=B.ps[k*89+j]?:=by
 unfold a9
 rw[List.getElem?_take,if_pos hj,List.getElem?_drop]
def Mut(F:Nat→Prop)(w w':World):Prop:=w'.os=w.os∧w'.tape=w.tape∧w'.output=w.output∧w.heap.size≤w'.heap.size∧∀k,k<w.heap.size→¬F k→w'.heap[k]?=w.heap[k]?
theorem Mut.refl(F:Nat→Prop)(w:World):Mut F w w:=⟨rfl,rfl,rfl,Nat.le_refl _,fun _ _ _=>rfl⟩
theorem Mut.mono{F G:Nat→Prop}{w w':World}(h:Mut F w w')(hFG:∀k,k<w.heap.size→F k→G k):Mut G w w' :=
 ⟨h.1,h.2.1,h.2.2.1,h.2.2.2.1,fun k hk hg=>h.2.2.2.2 k hk (fun hf=>hg (hFG k hk hf))⟩
theorem Mut.trans{F:Nat→Prop}{a b c:World}(h:Mut F a b)(k:Mut F b c):Mut F a c :=
 ⟨k.1.trans h.1,k.2.1.trans h.2.1,k.2.2.1.trans h.2.2.1,Nat.le_trans h.2.2.2.1 k.2.2.2.1,fun i hi hf=>(k.2.2.2.2 i (nL hi h.2.2.2.1) hf).trans (h.2.2.2.2 i hi hf)⟩
theorem Ext.mut{a b:World}(h:Ext a b)(F:Nat→Prop):Mut F a b:=⟨h.os,h.tape,h.output,h.size,fun k hk _=>h.block k hk⟩
theorem Mut.ext{a b:World}{F:Nat→Prop}(h:Mut F a b)(hF:∀k,k<a.heap.size→¬F k):Ext a b:=⟨h.1,h.2.1,h.2.2.1,h.2.2.2.1,fun k hk=>h.2.2.2.2 k hk (hF k hk)⟩
theorem Mut.alloc{F:Nat→Prop}{a b:World}(h:Mut F a b)(o:Obj):Mut F a (b.alloc o):=h.trans (((Ext.refl b).alloc o).mut F)
theorem Mut.setCell{F:Nat→Prop}{a b:World}(h:Mut F a b){p:Addr}(hp:F p.block∨a.heap.size≤p.block)(v:Value):Mut F a (b.setCell p v) :=
 ⟨h.1,h.2.1,h.2.2.1,by simpa using h.2.2.2.1,fun k hk hf=>by
  rw[Below.heap_setCell _ _ _ _ (fun e=>?_)]
  ·exact h.2.2.2.2 k hk hf
  ·rcases hp with hp|hp
   ·exact hf (e▸hp)
   ·omega⟩
theorem Mut.setCells{F:Nat→Prop}{a:World}{g:Nat}(hp:F g∨a.heap.size≤g):∀(vs:List Value) (o:Nat) {b:World},Mut F a b→Mut F a (b.setCells g o vs)
 | [],_,_,h=>h
 | v :: r,o,_,h=>Mut.setCells hp r (o+1) (h.setCell hp v)
theorem Mut.heap{F:Nat→Prop}{a b:World}(h:Mut F a b){k:Nat}(hk:k<a.heap.size)(hf:¬F k):b.heap[k]?=a.heap[k]?:=h.2.2.2.2 k hk hf
theorem Mut.size{F:Nat→Prop}{a b:World}(h:Mut F a b):a.heap.size≤b.heap.size:=h.2.2.2.1
theorem Mut.cell{F:Nat→Prop}{a b:World}(h:Mut F a b){p:Addr}(hk:p.block<a.heap.size)(hf:¬F p.block):b.cell? p=a.cell? p:=by
 simp only[World.cell?,h.heap hk hf]
def BrG(w:World)(F:Nat→Prop)(X g:Nat)(B:Br):Prop :=
 F X∧F g∧∃cap cur s2 s3,w.heap[X]?=some (.cells (B.hd++[.slice (some ⟨g,0,none⟩) B.np cap,s2,s3]).toArray 35 (0,0)) ∧
  w.heap[g]?=some (.cells cur 60 (0,0))∧cur.size=cap*89∧B.np≤cap∧cap≤maxLen∧cur.toList.take (B.np*89)=B.ps ∧
  w.ownsRow 0 71 18 s2 B.no B.os∧w.ownsRow 0 3 1 s3 B.nf B.fl∧(∀h,s2.ownBlock=some h→F h)∧(∀h,s3.ownBlock=some h→F h)
theorem iP{w w':World}{base m n:Nat}{e:TypeId}{v:Value}{xs:List Value}(h:w.ownsRow base e m v n xs)(hk:∀g,v.ownBlock=some g→g<w.heap.size→w'.heap[g]?=w.heap[g]?):w'.ownsRow base e m v n xs:=by
 refine⟨h.1,?_⟩
 rcases h.2 with hn|⟨g,cap,cur,rfl,hb,hg,rest⟩
 ·exact .inl hn
 ·exact .inr ⟨g,cap,cur,rfl,hb,(hk g rfl (aC hg)).trans hg,rest⟩
theorem BrG.mono{w:World}{F G:Nat→Prop}{X g:Nat}{B:Br}(h:BrG w F X g B)(hFG:∀k,F k→G k):BrG w G X g B:=by
 obtain⟨h1,h2,cap,cur,s2,s3,a,b,c,d,e,f,p,q,r,s⟩:=h
 exact⟨hFG _ h1,hFG _ h2,cap,cur,s2,s3,a,b,c,d,e,f,p,q,fun k hk=>hFG _ (r k hk),fun k hk=>hFG _ (s k hk)⟩
theorem BrG.keep{w w':World}{F:Nat→Prop}{X g:Nat}{B:Br}(h:BrG w F X g B)(hk:∀k,F k→k<w.heap.size→w'.heap[k]?=w.heap[k]?):BrG w' F X g B:=by
 obtain⟨h1,h2,cap,cur,s2,s3,a,b,c,d,e,f,p,q,r,s⟩:=h
 exact⟨h1,h2,cap,cur,s2,s3,(hk X h1 (aC a)).trans a,(hk g h2 (aC b)).trans b,c,d,e,f,iP p (fun k hk' hl=>hk k (r k hk') hl),iP q (fun k hk' hl=>hk k (s k hk') hl),r,s⟩
theorem BrG.ext{w w':World}{F:Nat→Prop}{X g:Nat}{B:Br}(h:BrG w F X g B)(hx:Ext w w'):BrG w' F X g B:=h.keep fun k _ hk=>hx.block k hk
theorem BrG.alloc{w:World}{F:Nat→Prop}{X g:Nat}{B:Br}(h:BrG w F X g B)(o:Obj):BrG (w.alloc o) F X g B:=h.ext ((Ext.refl w).alloc o)
theorem BrG.lt{w:World}{F:Nat→Prop}{X g:Nat}{B:Br}(h:BrG w F X g B):X<w.heap.size∧g<w.heap.size∧X≠g:=by
 obtain⟨h1,h2,cap,cur,s2,s3,a,b,_⟩:=h
 refine⟨aC a,aC b,fun e=>?_⟩
 subst e
 rw[b]at a
 simp at a
theorem BrG.F1{w:World}{F:Nat→Prop}{X g:Nat}{B:Br}(h:BrG w F X g B):F X:=h.1
theorem BrG.F2{w:World}{F:Nat→Prop}{X g:Nat}{B:Br}(h:BrG w F X g B):F g:=h.2.1
theorem BrG.setCell{w:World}{F:Nat→Prop}{X g:Nat}{B:Br}(h:BrG w F X g B)(i:Nat)(hi:i<B.np*89)(v:Value):BrG (w.setCell ⟨g,i,none⟩ v) F X g { B with ps:=B.ps.set i v }:=by
 have hne:=h.lt.2.2
 obtain⟨h1,h2,cap,cur,s2,s3,a,b,c,d,e,f,p,q,r,s⟩:=h
 refine⟨h1,h2,cap,cur.setIfInBounds i v,s2,s3,(heap_setCell_other _ _ _ _ hne).trans a,heap_setCell_same _ _ _ _ _ _ b,by simpa using c,d,e,?_,k3 p b (by decide) v,k3 q b (by decide) v,r,s⟩
 show(cur.setIfInBounds i v).toList.take (B.np*89)=B.ps.set i v
 rw[←f,Array.toList_setIfInBounds,List.take_set]
theorem BrG.setp{w:World}{F:Nat→Prop}{X g:Nat}{B:Br}(h:BrG w F X g B){k j:Nat}(hk:k<B.np)(hj:j<89)(v:Value):BrG (w.setCell ⟨g,k*89+j,none⟩ v) F X g (B.setp k j v) :=
 h.setCell _ (by omega) v
theorem fH{B:Br}(ho:B.ok){k:Nat}(hk:k<B.np):k*89+89≤B.ps.length:=by rw[ho.len];omega
theorem BrG.frozen{w:World}{F:Nat→Prop}{X g:Nat}{B:Br}(h:BrG w F X g B)(i:Nat):w.frozen? ⟨g,i,none⟩=false:=by
 obtain⟨h1,h2,cap,cur,s2,s3,a,b,_⟩:=h
 exact frozen_of_row _ _ _ _ _ b
theorem BrG.cellg{w:World}{F:Nat→Prop}{X g:Nat}{B:Br}(h:BrG w F X g B){i:Nat}(hi:i<B.np*89):w.cell? ⟨g,i,none⟩=B.ps[i]?:=by
 obtain⟨h1,h2,cap,cur,s2,s3,a,b,c,d,e,f,_⟩:=h
 rw[cell_of_row _ _ _ _ _ _ b,←f,List.getElem?_take,if_pos hi]
 simp
theorem BrG.cellX{w:World}{F:Nat→Prop}{X g:Nat}{B:Br}(h:BrG w F X g B)(ho:B.ok){i:Nat}(hi:i<17):w.cell? ⟨X,i,none⟩=B.hd[i]?:=by
 obtain⟨h1,h2,cap,cur,s2,s3,a,b,_⟩:=h
 have hl:B.hd.length=17:=ho.hd.1
 rw[cell_of_row _ _ _ _ _ _ a]
 simp only[List.getElem?_toArray]
 exact List.getElem?_append_left (by omega)
theorem qb{w:World}{F:Nat→Prop}{X g k:Nat}{B:Br}(h:BrG w F X g B)(ho:B.ok)(hk:k<B.np)(j:Nat)(hj:j<89:=by decide)(hl:PL[j]?=some none:=by rfl):w.cell? ⟨g,k*89+j,none⟩=some (.bool (B.gb k j)):=(h.cellg (i:=k*89+j) (by omega)).trans (ho.gb hk j hl)
theorem qi {w:World} {F:Nat→Prop} {X g k:Nat} {B:Br} {q:IntKind} (h:BrG w F X g B) (ho:B.ok) (hk:k<B.np) (j:Nat) (hl:PL[j]?=some (some q)) (hj:j<89:=by decide):w.cell? ⟨g,k*89+j,none⟩=some (.int q (B.gi k j)):=(h.cellg (i:=k*89+j) (by omega)).trans (ho.gi hk j hl)
theorem BrG.cell17{w:World}{F:Nat→Prop}{X g:Nat}{B:Br}(h:BrG w F X g B)(ho:B.ok):∃cap,w.cell? ⟨X,17,none⟩=some (.slice (some ⟨g,0,none⟩) B.np cap)∧B.np≤cap∧cap≤9223372036854775807:=by
 obtain⟨h1,h2,cap,cur,s2,s3,a,b,_,d,e,_⟩:=h
 have hl:B.hd.length=17:=ho.hd.1
 unfold maxLen at e
 refine⟨cap,?_,d,by omega⟩
 rw[cell_of_row _ _ _ _ _ _ a]
 simp[hl]
theorem BrG.range{w:World}{F:Nat→Prop}{X g:Nat}{B:Br}(h:BrG w F X g B){k:Nat}(hk:k<B.np):w.rangeAt g (k*89) (a9 B.ps k):=fun j v hv=>by
 have hj:j<89:=by
  have:=(List.getElem?_eq_some_iff.1 hv).1
  simp[a9]at this;omega
 rw[h.cellg (by omega),←aI hj]
 exact hv
theorem BrG.setCellsFrom{F:Nat→Prop}{X g:Nat}:∀(vs:List Value) (i:Nat) (w:World) (B:Br),BrG w F X g B→i+vs.length≤B.np*89→BrG (w.setCells g i vs) F X g { B with ps:=B.ps.take i++vs++B.ps.drop (i+vs.length) }
 | [],i,w,B,h,_=>by
  have e:B.ps.take i++[]++B.ps.drop (i+0)=B.ps:=by simp
  show BrG w F X g { B with ps:=B.ps.take i++[]++B.ps.drop (i+0) }
  rw[e]
  exact h
 | v :: r,i,w,B,h,hi=>by
  have hl:B.ps.length=B.np*89:=by
   obtain⟨h1,h2,cap,cur,s2,s3,a,b,c,d,e,f,_⟩:=h
   have:B.np*89≤cap*89:=Nat.mul_le_mul_right _ d
   rw[←f];simp;omega
  have hi':i+(r.length+1)≤B.np*89:=by simpa using hi
  have:=BrG.setCellsFrom r (i+1) _ _ (h.setCell i (by omega) v) (by show i+1+r.length≤B.np*89;omega)
  have e:({ B with ps:=B.ps.take i++(v :: r)++B.ps.drop (i+(v :: r).length) }:Br)={ B with ps:=(B.ps.set i v).take (i+1)++r++(B.ps.set i v).drop (i+1+r.length) }:=by
   congr 1
   rw[List.drop_set_of_lt (by omega),List.take_set,List.take_succ_eq_append_getElem (by omega),List.set_append_right _ _ (by simp;omega)]
   have:i - (List.take i B.ps).length=0:=by simp;omega
   simp only[this,List.set_cons_zero,List.append_assoc,List.cons_append,List.length_cons]
   rw[show i+1+r.length=i+(r.length+1) by omega,List.nil_append]
  rw[e]
  exact this
theorem BrG.br{w:World}{F:Nat→Prop}{X g:Nat}{B:Br}(h:BrG w F X g B)(hp:0<B.np):∃C:Array Value,w.heap[X]?=some (.cells C 35 (0,0))∧BrC w C B∧C.size=B.hd.length+3:=by
 obtain⟨h1,h2,cap,cur,s2,s3,a,b,c,d,e,f,p,q,r,s⟩:=h
 refine⟨_,a,⟨_,s2,s3,rfl,?_,rY p,rY q⟩,by simp⟩
 have hle:B.np*89≤cap*89:=Nat.mul_le_mul_right _ d
 refine⟨by rw[←f];simp;omega,.inr ⟨g,0,cap,rfl,hp,d,e,aC b,fun j v hv=>?_⟩⟩
 rw[←f,List.getElem?_take]at hv
 split at hv
 ·rw[Nat.zero_add,cell_of_row _ _ _ _ _ _ b]
  simpa using hv
 ·cases hv
def qT(w:World)(R:Prop)(e:Ending)(w':World):Prop:=∃f:Bool,e=.returned (.bool f)∧Ext w w'∧(f=true↔R)
def TR(a m h d:Int):Prop:=0≤a∧a≤255∧6≤m∧m≤40∧1≤h∧h≤10∧4≤d∧d≤30∧m≤2*(d - 1)∧2*(h+1)≤m
def TF(a m h d:Int):Prop:=0≤a∧a≤65535∧0≤m∧m≤65535∧0≤h∧h≤65535∧0≤d∧d≤65535
def HdR(B:Br):Prop:=TR (B.hi 2) (B.hi 3) (B.hi 4) (B.hi 5)∧TF (B.hi 13) (B.hi 14) (B.hi 15) (B.hi 16)∧B.hi 2=0∧1≤B.hi 6∧B.hi 6≤10∧B.np≤32∧-1≤B.hi 12∧B.hi 12<B.np
def ClkR(B:Br)(k:Nat):Prop:=∀j,j<9→0≤B.gi k (6+j)∧B.gi k (6+j)≤1000
def aH9(B:Br)(k:Nat):Prop:=ClkR B k∧TF (B.gi k 78) (B.gi k 79) (B.gi k 80) (B.gi k 81)∧TF (B.gi k 82) (B.gi k 83) (B.gi k 84) (B.gi k 85)∧TF (B.gi k 64) (B.gi k 65) (B.gi k 66) (B.gi k 67)
def lM(B:Br):Prop:=HdR B∧∀k,k<B.np→aH9 B k
theorem Ext.mutE{a b c:World}{F:Nat→Prop}(h:Ext a b)(m:Mut F b c)(hF:∀k,k<a.heap.size→¬F k):Ext a c :=
 ⟨m.1.trans h.os,m.2.1.trans h.tape,m.2.2.1.trans h.output,Nat.le_trans h.size m.2.2.2.1,fun k hk=>(m.2.2.2.2 k (nL hk h.size) (hF k hk)).trans (h.block k hk)⟩
theorem bZ{k N j:Nat}(hk:k<N)(hj:j<89):k*89+j<N*89:=by omega
def aN(w:World)(F:Nat→Prop)(X g:Nat)(r:Bool × Br)(e:Ending)(w':World):Prop:=e=.returned (.bool r.1)∧BrG w' F X g r.2∧Mut F w w'
theorem jC{P:Program}{ops:Array Oper}{wz:World}{op:Oper}{a:Act}(hw:Region.wanted op (yielded ops a.tmps)=true)(ty:TypeId)(x:Operand)(ho:op.op=.load ty x)(X:Nat)(hx:a.eval x=.pointer (some ⟨X,0,none⟩))(C:Array Value)(t:TypeId)(d:TypeDesc)(hX:wz.heap[X]?=some (.cells C t (0,0)))(hu:P.underlying ty=some d)(hd:(match d with|.struct _|.array _ _=>true|_=>false)=true)(hi:(P.info? ty).map (·.size)=some C.size):YieldsIf P ops (fun W'=>Ext wz W') op (.agg C) a :=
 .inl ⟨hw,fun W' hW'=>by
  have h:=((show Ext wz W' from hW').block X (aC hX)).trans hX
  unfold execOp
  simp only[ho,hx,Instr.loadAt,Instr.sureAddr,Sem.run_bind,Sem.run_pure,Result.andThen_ok,run_loadVar_row W' X t ty C (0,0) d h hu hd hi]⟩
theorem cJ(T:TypeId){P:Program}{ops:Array Oper}{rest:List Oper}{a:Act}{w:World}{Q:Exit→Act→World→Prop}{d:Option Tmp}{x:Array (Nat × Operand)}{ty:TypeId}{pos:String}{af:Array Edge}(h:wpList P ops Q ({ dst:=d,op:=.build T x,type:=ty,pos:=pos,after:=af,guard:=none } :: rest) a w):wpList P ops Q ({ dst:=d,op:=.build T x,type:=ty,pos:=pos,after:=af,guard:=none } :: rest) a w:=h
theorem bG{P:Program}{ops:Array Oper}{rest:List Oper}{o:Oper}{a:Act}{w:World}{Q:Exit→Act→World→Prop}(hg:o.guard=none)(t:TypeId)(parts:Array (Nat × Operand))(ho:o.op=.build t parts)(vals:List (Nat × Value))(hv:parts.toList.map (fun x=>(x.1,a.eval x.2))=vals)(cells:Array Value)(hb:P.built t vals=some cells)(h:wpList P ops Q rest (a.put o.dst (.agg cells)) w):wpList P ops Q (o :: rest) a w:=by
 have e:(parts.map fun(i,x)=>(i,a.eval x)).toList=vals:=by rw[Array.toList_map];exact hv
 exact wpList_build hg t parts ho (by rw[e,hb];rfl) (by rw[e,hb];exact h)
def hz:List Value:=HL.map zc
end Go.Proofs.YtpanapepcbbagaaGreat
namespace Go.Proofs.YtpanapepcbbagaaGreat
open Go.RowKit Go.BigFrame Go.WideShapes Go.ChangeShapes Go.Deep
theorem oB{P:Program}(w:World)(ty:TypeId)(p:Addr)(v:Value)(d:TypeDesc)(hu:P.underlying ty=some d)(hd:d.isRow=false)(hc:w.cell? p=some v):
    (Instr.loadAt ty (.pointer (some p))).run P w=.ok v w:=by
 simp[Instr.loadAt,Instr.sureAddr,loadVar,Sem.run_bind,aAR hu,hd,hc,Result.andThen]
theorem aA{P:Program}{ops:Array Oper}{S:World→Prop}{op:Oper}{a:Act}(hw:Region.wanted op (yielded ops a.tmps)=true)(ty:TypeId)(x:Operand)(ho:op.op=.load ty x)(p:Addr)(hx:a.eval x=.pointer (some p))(v:Value)(d:TypeDesc)(hS:∀w,S w→w.cell? p=some v)(hu:P.underlying ty=some d)(hd:d.isRow=false):YieldsIf P ops S op v a :=
 .inl ⟨hw,fun w hw'=>by
  unfold execOp
  simp only[ho,hx,Sem.run_bind,oB w ty p v d hu hd (hS w hw'),Result.andThen_ok]
  rfl⟩
theorem gU{P:Program}{op:Oper}{a:Act}{w:World}{K:Act→World→Prop}{Q:Exit→Act→World→Prop}(ty:TypeId)(ho:op.op=.alloc ty)(z:Array Value)(hz:(zeroValue ty).run P w=.ok (.agg z) w)(h:K (a.put op.dst (.pointer (some ⟨w.heap.size,0,none⟩))) (w.alloc (.cells z ty))):op.wp P a w K Q:=by
 unfold Oper.wp execOp
 simp only[ho,Instr.alloc,newVar,newRow,Sem.run_bind,hz,Result.andThen_ok]
 go_simp
 exact h
theorem l5{P:Program}{op:Oper}{a:Act}{w:World}{K:Act→World→Prop}{Q:Exit→Act→World→Prop}(t:TypeId)(x y:Operand)(ho:op.op=.store t x y)(g:Nat)(t0:TypeId)(old cs:Array Value)(hx:a.eval x=.pointer (some ⟨g,0,none⟩))(hy:a.eval y=.agg cs)(hg:w.heap[g]?=some (.cells old t0 (0,0)))(hi:(P.info? t).map (·.size)=some cs.size)(hs:old.size=cs.size)(h1:cs.all (·.oneCell')=true)(h:K (a.put op.dst undef) (w.setRow g cs)):op.wp P a w K Q:=by
 unfold Oper.wp execOp
 simp only[ho,hx,hy,Instr.storeAt,Instr.sureAddr,Sem.run_bind,Sem.run_pure,Result.andThen_ok,run_storeVar_row w g t0 t old cs hg hi hs h1]
 exact h
theorem aT{P:Program}{Q:Exit→Act→World→Prop}{S:World→Prop}{id:Nat}{ops:Array Oper}{a:Act}{w:World}(hm:P.follows .mixedOrders=true)(h:∀wd:World,Ext w wd→wpAnyH P .any ops Q S ops.size (Array.replicate ops.size false) a wd):(Code.region id ops true).wp P Q a w :=
 wp_region_held hm (h w.drew (Ext.refl w).drew)
theorem aC1{P:Program}{md:Region.Mode}{Q:Exit→Act→World→Prop}{S:World→Prop}{l rest:List Oper}{i:Nat}{oi:Oper}{v:Value}{fuel:Nat}{listed:Array Bool}{a:Act}{w:World}(hi:l.drop i=oi :: rest)(hs:Region.noSelect l.toArray=true)(hf:Region.free md l.toArray listed i=true)(hr:(Region.ready md l.toArray listed).contains i=true)(hQ:∀c a w,Q (.panic c) (a.put oi.dst v) w→Q (.panic c) a w)(hy:YieldsIf P l.toArray S oi v a)(hS:S w)(h:wpAnyH P md l.toArray Q S fuel (listed.setIfInBounds i true) (a.put oi.dst v) w):wpAnyH P md l.toArray Q S (fuel+1) listed a w :=
 wpAnyH_take (by
  have e:(l.drop i)[0]?=some oi:=by rw[hi];rfl
  rw[List.getElem?_drop,Nat.add_zero]at e
  simpa using e) hs hf hr hQ hy hS h
theorem ps:(∀(a:Act) (d:Nat) (v:Value),a.put (some d) v={ a with tmps:=a.tmps.setIfInBounds d v })∧(∀(a:Act) (v:Value),a.put none v=a)∧(∀(l:List Value) (i:Nat) (v:Value),l.toArray.setIfInBounds i v=(l.set i v).toArray) ∧
    (∀(x v:Value) (l:List Value),(x :: l).set 0 v=v :: l)∧(∀(x v:Value) (l:List Value) (n:Nat),(x :: l).set (n+1) v=x :: l.set n v) :=
 ⟨fun _ _ _=>rfl,fun _ _=>rfl,fun _ _ _=>List.setIfInBounds_toArray ..,fun _ _ _=>rfl,fun _ _ _ _=>rfl⟩
theorem tL{P:Program}{md:Region.Mode}{Q:Exit→Act→World→Prop}{S:World→Prop}{l rest:List Oper}{oi:Oper}{fuel:Nat}{listed:Array Bool}{a a':Act}{w:World}(i:Nat)(v:Value)(hi:l.drop i=oi :: rest)(hy:YieldsIf P l.toArray S oi v a)(hS:S w)(h:wpAnyH P md l.toArray Q S fuel (listed.setIfInBounds i true) a' w)(ha:a.put oi.dst v=a':=by(try simp only[ps]);exact rfl)(hs:Region.noSelect l.toArray=true:=by kernel_rfl)(hf:Region.free md l.toArray listed i=true:=by kernel_rfl)(hr:(Region.ready md l.toArray listed).contains i=true:=by kernel_rfl)(hQ:∀c a w,Q (.panic c) (a.put oi.dst v) w→Q (.panic c) a w:=by exact fun _ _ _ h=>h):wpAnyH P md l.toArray Q S (fuel+1) listed a w:=aC1 hi hs hf hr hQ hy hS (ha▸h)
theorem bO{P:Program}{md:Region.Mode}{Q:Exit→Act→World→Prop}{S:World→Prop}{l rest:List Oper}{oi:Oper}{fuel:Nat}{listed:Array Bool}{a a':Act}{w:World}(i:Nat)(v:Value)(hi:l.drop i=oi :: rest)(hS:S w)(h:wpAnyH P md l.toArray Q S fuel (listed.setIfInBounds i true) a' w)(ha:a.put oi.dst v=a':=by(try simp only[ps]);exact rfl)(hs:Region.noSelect l.toArray=true:=by kernel_rfl)(hf:Region.free md l.toArray listed i=true:=by kernel_rfl)(hr:(Region.ready md l.toArray listed).contains i=true:=by kernel_rfl)(hQ:∀c a w,Q (.panic c) (a.put oi.dst v) w→Q (.panic c) a w:=by exact fun _ _ _ h=>h)(hy:YieldsIf P l.toArray S oi v a:=by exact Or.inl ⟨rfl,fun _ _=>rfl⟩):wpAnyH P md l.toArray Q S (fuel+1) listed a w:=aC1 hi hs hf hr hQ hy hS (ha▸h)
theorem aH{P:Program}{md:Region.Mode}{Q:Exit→Act→World→Prop}{S:World→Prop}{l rest:List Oper}{oi:Oper}{fuel:Nat}{listed:Array Bool}{a a':Act}{w:World}(i:Nat)(vb vo:Nat)(hi:l.drop i=oi :: rest)(hS:S w)(h:wpAnyH P md l.toArray Q S fuel (listed.setIfInBounds i true) a' w)(ha:a.put oi.dst (.pointer (some ⟨vb,vo,none⟩))=a':=by(try simp only[ps]);exact rfl)(hs:Region.noSelect l.toArray=true:=by kernel_rfl)(hf:Region.free md l.toArray listed i=true:=by kernel_rfl)(hr:(Region.ready md l.toArray listed).contains i=true:=by kernel_rfl)(hQ:∀c a w,Q (.panic c) (a.put oi.dst (.pointer (some ⟨vb,vo,none⟩))) w→Q (.panic c) a w:=by exact fun _ _ _ h=>h)(hy:YieldsIf P l.toArray S oi (.pointer (some ⟨vb,vo,none⟩)) a:=by exact Or.inl ⟨rfl,fun _ _=>rfl⟩):wpAnyH P md l.toArray Q S (fuel+1) listed a w:=aC1 hi hs hf hr hQ hy hS (ha▸h)
theorem bB{P:Program}{md:Region.Mode}{Q:Exit→Act→World→Prop}{S:World→Prop}{l rest:List Oper}{i:Nat}{oi:Oper}{fuel:Nat}{listed:Array Bool}{a:Act}{w:World}(hi:l.drop i=oi :: rest)(hg:oi.guard=none)(hr:Region.ready md l.toArray listed=[i])(h:∀K':Act→World→Prop,Shut (∀a w,S w→(S w→wpAnyH P md l.toArray Q S fuel (listed.setIfInBounds i true) a w)→K' a w)→Oper.wp P oi a w K' Q):wpAnyH P md l.toArray Q S (fuel+1) listed a w:=by
 refine wpAnyH_ready hr (by simp) (AllReadyH.cons (o:=oi) ?_ (fun K hK=>?_) AllReadyH.nil)
 ·have e:(l.drop i)[0]?=some oi:=by rw[hi];rfl
  rw[List.getElem?_drop,Nat.add_zero]at e
  simpa using e
 ·rw[if_pos (by simp[Region.wanted,hg])]
  exact h K hK
def FZ:Array Value:=Array.replicate 29 (.bool false)
theorem iV:∀w,(zeroValue 58).run Tryz.prog w=.ok (.agg FZ) w:=(zero_of_info (P:=Tryz.prog) (t:=58) (v:=.agg FZ) (n:=29) (by kernel_rfl)).1
theorem b7:(Tryz.prog.info? 58).map (·.size)=some 29:=by kernel_rfl
theorem fI:(Tryz.prog.info? 46).map (·.size)=some 17:=by kernel_rfl
def cH(ps:List Value)(k:Nat):List Value:=(ps.drop (k*89+22)).take 29
def msgOf(ps:List Value)(k:Nat):List Value:=(ps.drop (k*89+51)).take 17
theorem bK{B:Br}{k j:Nat}(hj:j<29):(cH B.ps k)[j]?=B.ps[k*89+(22+j)]?:=by
 unfold cH
 rw[List.getElem?_take,if_pos hj,List.getElem?_drop,Nat.add_assoc]
theorem fU{B:Br}(ho:B.ok){k:Nat}(hk:k<B.np):(cH B.ps k).length=29:=by
 have:=fH ho hk
 unfold cH
 simp;omega
theorem fV{B:Br}(ho:B.ok)(k:Nat):∀v∈cH B.ps k,v.oneCell'=true:=fun v hv=>ho.ps.one v (List.mem_of_mem_drop (List.mem_of_mem_take hv))
theorem BrG.flags{w:World}{F:Nat→Prop}{X g:Nat}{B:Br}(h:BrG w F X g B){k:Nat}(hk:k<B.np):w.rangeAt g (k*89+22) (cH B.ps k):=fun j v hv=>by
 have hj:j<29:=by
  have:=(List.getElem?_eq_some_iff.1 hv).1
  simp[cH]at this;omega
 rw[show k*89+22+j=k*89+(22+j)from Nat.add_assoc _ _ _,h.cellg (by omega),←bK hj]
 exact hv
def Br.setr(B:Br)(k j:Nat)(l:List Value):Br:={ B with ps:=B.ps.take (k*89+j)++l++B.ps.drop (k*89+j+l.length) }
theorem BrG.setr{w:World}{F:Nat→Prop}{X g:Nat}{B:Br}(h:BrG w F X g B){k j:Nat}(hk:k<B.np){l:List Value}(hj:j+l.length≤89):BrG (w.setCells g (k*89+j) l) F X g (B.setr k j l) :=
 BrG.setCellsFrom l (k*89+j) w B h (by omega)
theorem aF1{B:Br}{k j:Nat}{l:List Value}(hk:k*89+89≤B.ps.length)(hj:j+l.length≤89)(i:Nat):
    (B.setr k j l).ps[i]?=if k*89+j≤i∧i<k*89+j+l.length then l[i - (k*89+j)]? else B.ps[i]?:=by
 show(B.ps.take (k*89+j)++l++B.ps.drop (k*89+j+l.length))[i]?=_
 have hz:(B.ps.take (k*89+j)).length=k*89+j:=by rw[List.length_take];omega
 rw[List.append_assoc]
 by_cases h1:i<k*89+j
 ·rw[List.getElem?_append_left (by omega),List.getElem?_take,if_pos h1,if_neg (by omega)]
 ·rw [List.getElem?_append_right (by omega),hz]
  by_cases h2:i<k*89+j+l.length
  ·rw[List.getElem?_append_left (by omega),if_pos (by omega)]
  ·rw[List.getElem?_append_right (by omega),if_neg (by omega),List.getElem?_drop]
   congr 1;omega
@[simp] theorem y9(B:Br)(k j:Nat)(l:List Value):(B.setr k j l).np=B.np:=rfl
@[simp] theorem hd_setr(B:Br)(k j:Nat)(l:List Value):(B.setr k j l).hd=B.hd:=rfl
theorem aC2{B:Br}{k j:Nat}{l:List Value}(hk:k*89+89≤B.ps.length)(hj:j+l.length≤89):(B.setr k j l).ps.length=B.ps.length:=by
 show(B.ps.take (k*89+j)++l++B.ps.drop (k*89+j+l.length)).length=_
 simp;omega
theorem Br.ok.setr{B:Br}(ho:B.ok){k j:Nat}{l:List Value}(hk:k<B.np)(hj:j+l.length≤89)(hl:∀i v,l[i]?=some v→∀c,PL[j+i]?=some c→jL c v):(B.setr k j l).ok:=by
 have h89:=fH ho hk
 refine⟨ho.hd,?_,ho.os,ho.fl⟩
 obtain⟨h1,h2⟩:=bY.1 ho.ps
 refine bY.2 ⟨by rw[aC2 h89 hj];exact h1,fun i hi j' c hj'=>?_⟩
 have hl':j'<89:=(List.getElem?_eq_some_iff.1 hj').1
 have hlen:PL.length=89:=rfl
 obtain⟨u,hu,hc⟩:=h2 i hi j' c hj'
 rw[hlen]at hu ⊢
 rw[aF1 h89 hj]
 split
 ·rename_i hin
  have e1:i=k:=by omega
  subst e1
  obtain⟨v,hv⟩:∃v,l[i*89+j' - (i*89+j)]?=some v:=⟨_,List.getElem?_eq_getElem (by omega)⟩
  refine⟨v,hv,hl _ v hv c ?_⟩
  rw[show j+(i*89+j' - (i*89+j))=j' by omega]
  exact hj'
 ·exact⟨u,hu,hc⟩
def Br.upd(B:Br)(j:Nat)(v:Nat→Value):Nat→Br
 | 0=>B
 | n+1=>(B.upd j v n).setp n j (v n)
theorem gS(B:Br)(j:Nat)(v:Nat→Value):∀n,(B.upd j v n).np=B.np
 | 0=>rfl
 | n+1=>gS B j v n
theorem r7(B:Br)(j:Nat)(v:Nat→Value):∀n,(B.upd j v n).ps.length=B.ps.length
 | 0=>rfl
 | n+1=>by
  show((B.upd j v n).setp n j (v n)).ps.length=_
  rw[aCZ]
  exact r7 B j v n
theorem oY{B:Br}(ho:B.ok){j:Nat}(hj:j<89){v:Nat→Value}(hv:∀i c,PL[j]?=some c→jL c (v i)):∀n,n≤B.np→(B.upd j v n).ok
 | 0,_=>ho
 | n+1,h=>(oY ho hj hv n (by omega)).setp (by rw[gS];omega) hj (hv n)
theorem aC3(B:Br){j:Nat}(hj:j<89)(v:Nat→Value):∀n,n*89≤B.ps.length→∀i,(B.upd j v n).ps[i]?=if i % 89=j∧i / 89<n then some (v (i / 89))else B.ps[i]?
 | 0,_,i=>by rw[if_neg (by omega)];rfl
 | n+1,h,i=>by
  have ih:=aC3 B hj v n (by omega) i
  show((B.upd j v n).ps.set (n*89+j) (v n))[i]?=_
  by_cases e:i=n*89+j
  ·subst e
   rw[List.getElem?_set_self (by rw[r7];omega),if_pos (by omega),show(n*89+j) / 89=n by omega]
  ·rw[List.getElem?_set_ne (by omega),ih]
   by_cases a:i % 89=j∧i / 89<n
   ·rw[if_pos a,if_pos (by omega)]
   ·rw[if_neg a,if_neg (by omega)]
theorem l6(B:Br){j:Nat}(hj:j<89)(v:Nat→Value){n:Nat}(h:n*89≤B.ps.length){k j':Nat}(hj':j'<89):(B.upd j v n).ps[k*89+j']?=if j'=j∧k<n then some (v k)else B.ps[k*89+j']?:=by
 rw[aC3 B hj v n h,show(k*89+j') % 89=j' by omega,show(k*89+j') / 89=k by omega]
theorem aAT(B:Br){j:Nat}(hj:j<89)(v:Nat→Value){n:Nat}(h:n*89≤B.ps.length){k j':Nat}(hj':j'<89)(hne:j'≠j):(B.upd j v n).gi k j'=B.gi k j':=by
 unfold Br.gi
 rw[l6 B hj _ h hj',if_neg (by omega)]
end Go.Proofs.YtpanapepcbbagaaGreat
