/- Part 21 of what BridgeHold stands on. No statement is proved here. -/
import Derived.ArgAppend
import Derived.Deep.RegionLawGrows
import Derived.Great.BuildSlice
import Derived.ScopeJumps
import Derived.Test.YtpanapepcbbagaaGreatBpt
set_option linter.unusedVariables false
set_option linter.unusedSimpArgs false
set_option maxRecDepth 100000
set_option maxHeartbeats 8000000
namespace Go.Proofs.YtpanapepcbbagaaGreat
open Go.RowKit Go.BigFrame Go.WideShapes Go.ChangeShapes Go.Deep
theorem tx_clip(ao:Option Addr)(n cap:Nat)(hc:n≤cap)(hm:cap≤9223372036854775807)(h0:ao=none→n=0∧cap=0)(w:World):Calls Tryz.prog 132 #[.slice ao n cap] w fun e w'=>e=.returned (.slice ao n n)∧w=w':=by
 cases ao with
 | none =>
  obtain⟨rfl,rfl⟩:=h0 rfl
  go_enter Tryz.func132,Tryz.ntmps132
  go_wp2
  go_ret
  simp
 | some a =>
  clear h0
  go_enter Tryz.func132,Tryz.ntmps132
  go_wp2
  go_ret
  simp
section
variable {P:Program} {ops:Array Oper} {Q:Exit→Act→World→Prop} {md:Region.Mode} {S:World→Prop}
theorem readyY{l rest:List Oper}{i:Nat}{oi:Oper}{v:Value}{fuel:Nat}{listed:Array Bool}{a:Act}{w:World}{rs:List Nat}(hi:l.drop i=oi :: rest)(hy:YieldsIf P l.toArray (fun W'=>W'=w) oi v a)(hS:S w)(h:wpAnyH P md l.toArray Q S fuel (listed.setIfInBounds i true) (a.put oi.dst v) w)(hs:AllReadyH P md l.toArray Q S fuel listed a w rs):AllReadyH P md l.toArray Q S fuel listed a w (i :: rs):=fun j hj=>by
 rcases List.mem_cons.1 hj with rfl|hj
 ·refine hy.wpOp ?_ rfl ⟨hS,h⟩
  have e:(l.drop j)[0]?=some oi:=by rw[hi];rfl
  rw[List.getElem?_drop,Nat.add_zero]at e
  simpa using e
 ·exact hs j hj
theorem readyL{l rest:List Oper}{i:Nat}{oi:Oper}{fuel:Nat}{listed:Array Bool}{a:Act}{w:World}{rs:List Nat}(hi:l.drop i=oi :: rest)(hg:oi.guard=none)(h:∀K':Act→World→Prop,Shut (∀a w,S w→(S w→wpAnyH P md l.toArray Q S fuel (listed.setIfInBounds i true) a w)→K' a w)→Oper.wp P oi a w K' Q)(hs:AllReadyH P md l.toArray Q S fuel listed a w rs):AllReadyH P md l.toArray Q S fuel listed a w (i :: rs):=by
 refine AllReadyH.cons (o:=oi) ?_ (fun K hK=>?_) hs
 ·have e:(l.drop i)[0]?=some oi:=by rw[hi];rfl
  rw[List.getElem?_drop,Nat.add_zero]at e
  simpa using e
 ·rw[if_pos (by simp[Region.wanted,hg])]
  exact h K hK
end
theorem oper_append_grows{P:Program}{o:Oper}{a:Act}{w:World}{K:Act→World→Prop}{Q:Exit→Act→World→Prop}(hg:o.guard=none)(s x:Operand)(t:TypeId)(hop:o.op=Op.call { callee:=Callee.builtin Builtin.append,args:=#[s,x],argTypes:=#[t,t] })(e:TypeId)(i:TypeInfo)(z:Value)(size bytes:Nat)(h1:P.underlying t=some (.slice e))(h2:P.info? e=some i)(h3:i.zero=some z)(h4:i.size=size)(h5:i.bytes=bytes)(h6:z.cells.size=size)(h7:0<size)(ao:Option Addr)(n cap:Nat)(olds:List Value)(hs:a.eval s=.slice ao n cap)(hnone:ao=none→n=0∧cap=0)(hlo:olds.length=n*size)(holds:∀b,ao=some b→∀j u,olds[j]?=some u→w.cell? (b.add j)=some u)(ad:Addr)(m c:Nat)(news:List Value)(hx:a.eval x=.slice (some ad) m c)(hn:news.length=m*size)(hc:∀j u,news[j]?=some u→w.cell? (ad.add j)=some u)(h1c:∀u∈news,u.oneCell'=true)(hfull:cap<n+m)(b1:n+m≤maxLen)(b2:(n+m)*bytes≤140737488355328)(hK:∀v' w',w'.ownsRow w.heap.size e size v' (n+m) (olds++news)→w.grownBy w' none→K (a.put o.dst v') w'):Oper.wp P o a w K Q:=by
 have h:=step_append_grows (E:=True) (ops:=#[]) (Q:=Q) hg s x t hop e i z size bytes h1 h2 h3 h4 h5 h6 h7 ao n cap olds hs hnone hlo holds ad m c news hx hn hc h1c hfull b1 b2 hK
 rwa [if_pos (by simp[Region.wanted,hg])]at h
def sentL(k:Int)(m:Array Value):List Value:=.int .i64 k :: m.toList
def Br.sent(B:Br)(k:Nat)(kind:Int):Br:={ B with no:=B.no+1,os:=B.os++sentL k (txMsg B k kind) }
theorem txMsg_form(B:Br)(k:Nat)(kind:Int):∃(kd:Int) (ch ak pr ag ln fw:Bool) (ro a b c d e f g h i:Int),txMsg B k kind=msgA kd ch ak pr ag ln fw ro a b c d e f g h i:=by
 unfold txMsg
 split
 ·exact⟨_,_,_,_,_,_,_,_,_,_,_,_,_,_,_,_,_,rfl⟩
 split
 ·exact⟨_,_,_,_,_,_,_,_,_,_,_,_,_,_,_,_,_,rfl⟩
 split
 ·exact⟨_,_,_,_,_,_,_,_,_,_,_,_,_,_,_,_,_,rfl⟩
 ·exact⟨0,false,false,false,false,false,false,0,0,0,0,0,0,0,0,0,0,rfl⟩
theorem sent_b0(k kd:Int)(ch ak pr ag ln fw:Bool)(ro a b c d e f g h i:Int):Tryz.prog.built 71 [(0,.int .i64 k),(1,.agg (msgA kd ch ak pr ag ln fw ro a b c d e f g h i))]=some (sentL k (msgA kd ch ak pr ag ln fw ro a b c d e f g h i)).toArray:=by kernel_rfl
theorem sent_b1(k kd:Int)(ch ak pr ag ln fw:Bool)(ro a b c d e f g h i:Int):Instr.fill (fun i=>some (i*18,18)) ((Array.range (1*18)).map (SZ[· % SZ.size]!)) [(0,.agg (sentL k (msgA kd ch ak pr ag ln fw ro a b c d e f g h i)).toArray)]=some (sentL k (msgA kd ch ak pr ag ln fw ro a b c d e f g h i)).toArray:=by kernel_rfl
theorem sent_one(k:Int)(B:Br)(j:Nat)(kind:Int):∀v∈sentL k (txMsg B j kind),v.oneCell'=true:=fun v hv=>by
 rcases List.mem_cons.1 hv with rfl|hv
 ·rfl
 ·have:=txMsg_one B j kind
  rw[←Array.all_toList,List.all_eq_true]at this
  exact this v hv
theorem sent_len(k:Int)(B:Br)(j:Nat)(kind:Int):(sentL k (txMsg B j kind)).length=18:=by
 show(txMsg B j kind).toList.length+1=18
 rw[Array.length_toList,txMsg_size]
theorem msgA_typed(kd:Int)(ch ak pr ag ln fw:Bool)(ro a b c d e f g h i:Int)(w_kd:(Lit.int .i64 kd).wf=true)(w_ro:(Lit.int .i64 ro).wf=true)(w_a:(Lit.int .u64 a).wf=true)(w_b:(Lit.int .u32 b).wf=true)(w_c:(Lit.int .u64 c).wf=true)(w_d:(Lit.int .u16 d).wf=true)(w_e:(Lit.int .u16 e).wf=true)(w_f:(Lit.int .i64 f).wf=true)(w_g:(Lit.int .i64 g).wf=true)(w_h:(Lit.int .i64 h).wf=true)(w_i:(Lit.int .i64 i).wf=true):Typed ML (msgA kd ch ak pr ag ln fw ro a b c d e f g h i).toList:=⟨rfl,fun j q hj=>match j,hj with
 | 0,hj=>by cases hj;exact⟨_,rfl,_,rfl,w_kd⟩
 | 1,hj=>by cases hj;exact⟨_,rfl,_,rfl⟩
 | 2,hj=>by cases hj;exact⟨_,rfl,_,rfl⟩
 | 3,hj=>by cases hj;exact⟨_,rfl,_,rfl⟩
 | 4,hj=>by cases hj;exact⟨_,rfl,_,rfl⟩
 | 5,hj=>by cases hj;exact⟨_,rfl,_,rfl⟩
 | 6,hj=>by cases hj;exact⟨_,rfl,_,rfl⟩
 | 7,hj=>by cases hj;exact⟨_,rfl,_,rfl,w_ro⟩
 | 8,hj=>by cases hj;exact⟨_,rfl,_,rfl,w_a⟩
 | 9,hj=>by cases hj;exact⟨_,rfl,_,rfl,w_b⟩
 | 10,hj=>by cases hj;exact⟨_,rfl,_,rfl,w_c⟩
 | 11,hj=>by cases hj;exact⟨_,rfl,_,rfl,w_d⟩
 | 12,hj=>by cases hj;exact⟨_,rfl,_,rfl,w_e⟩
 | 13,hj=>by cases hj;exact⟨_,rfl,_,rfl,w_f⟩
 | 14,hj=>by cases hj;exact⟨_,rfl,_,rfl,w_g⟩
 | 15,hj=>by cases hj;exact⟨_,rfl,_,rfl,w_h⟩
 | 16,hj=>by cases hj;exact⟨_,rfl,_,rfl,w_i⟩
 | j+17,hj=>by simp[ML]at hj⟩
theorem txMsg_typed{B:Br}(ho:B.ok){k:Nat}(hk:k<B.np)(kind:Int):Typed ML (txMsg B k kind).toList:=by
 unfold txMsg
 split
 ·exact msgA_typed _ _ _ _ _ _ _ _ _ _ _ _ _ _ _ _ _ (by decide) (by decide) (ho.gw hk 73 rfl) (ho.gw hk 74 rfl) (ho.gw hk 75 rfl) (ho.gw hk 76 rfl) (by decide) (ho.gw hk 82 rfl) (ho.gw hk 83 rfl) (ho.gw hk 84 rfl) (ho.gw hk 85 rfl)
 split
 ·exact msgA_typed _ _ _ _ _ _ _ _ _ _ _ _ _ _ _ _ _ (by decide) (by decide) (by decide) (by decide) (by decide) (by decide) (by decide) (by decide) (by decide) (by decide) (by decide)
 split
 ·exact msgA_typed _ _ _ _ _ _ _ _ _ _ _ _ _ _ _ _ _ (by decide) (ho.gw hk 87 rfl) (ho.gw hk 73 rfl) (ho.gw hk 74 rfl) (ho.gw hk 75 rfl) (ho.gw hk 76 rfl) (by decide) (ho.gw hk 82 rfl) (ho.gw hk 83 rfl) (ho.gw hk 84 rfl) (ho.gw hk 85 rfl)
 ·exact msgA_typed 0 _ _ _ _ _ _ 0 0 0 0 0 0 0 0 0 0 (by decide) (by decide) (by decide) (by decide) (by decide) (by decide) (by decide) (by decide) (by decide) (by decide) (by decide)
theorem sent_typed{B:Br}(ho:B.ok){k:Nat}(hk:k<B.np)(hk8:k<1000)(kind:Int):Typed SL (sentL k (txMsg B k kind)):=by
 obtain⟨h1,h2⟩:=txMsg_typed ho hk kind
 refine⟨by show(txMsg B k kind).toList.length+1=ML.length+1;rw[h1],fun j q hj=>?_⟩
 cases j with
 | zero =>
  cases hj
  refine⟨_,rfl,_,rfl,?_⟩
  simp[Lit.wf,IntKind.min,IntKind.max,IntKind.signed,IntKind.bits]
  omega
 | succ j=>exact h2 j q hj
theorem rowTyped_snoc{l:List (Option IntKind)}{n:Nat}{xs ys:List Value}(h:RowTyped l n xs)(hy:Typed l ys):RowTyped l (n+1) (xs++ys):=by
 obtain⟨h1,h2⟩:=h
 refine⟨by rw[List.length_append,h1,hy.1,Nat.succ_mul],fun i hi=>?_⟩
 by_cases e:i<n
 ·have hle:(i+1)*l.length≤xs.length:=by rw[h1];exact Nat.mul_le_mul_right _ e
  rw[Nat.succ_mul]at hle
  rw[List.drop_append_of_le_length (by omega),List.take_append_of_le_length (by rw[List.length_drop];omega)]
  exact h2 i e
 ·obtain rfl:i=n:=by omega
  rw[List.drop_append,←h1,List.drop_length,Nat.sub_self,List.drop_zero,List.nil_append,List.take_of_length_le (by rw[hy.1];exact Nat.le_refl _)]
  exact hy
theorem sent_ok{B:Br}(ho:B.ok){k:Nat}(hk:k<B.np)(hk8:k<1000)(kind:Int):(B.sent k kind).ok:=⟨ho.hd,ho.ps,rowTyped_snoc ho.os (sent_typed ho hk hk8 kind),ho.fl⟩
theorem BrG.sended{w w2:World}{F:Nat→Prop}{X g k:Nat}{kind:Int}{B:Br}(h:BrG w F X g B)(hd:B.hd.length=17)(hs:w.heap.size≤w2.heap.size)(hb:∀n,n<w.heap.size→w2.heap[n]?=w.heap[n]?){v':Value}(hr:w2.ownsRow w.heap.size 71 18 v' (B.no+1) (B.os++sentL k (txMsg B k kind))):
    BrG (w2.setCell ⟨X,18,none⟩ v') (fun n=>F n∨(w.heap.size≤n∧n<w2.heap.size)) X g (B.sent k kind):=by
 obtain⟨h1,h2,cap,cur,s2,s3,a,b,c,d,e,f,p,q,r,s⟩:=h
 have lX:=heap_lt a
 have lg:=heap_lt b
 have hXg:X≠g:=by
  intro e0
  subst e0
  rw[a]at b
  cases b
 have aX:=(hb X lX).trans a
 have bg:=(hb g lg).trans b
 have own3:(w2.setCell ⟨X,18,none⟩ v').ownsRow 0 3 1 s3 B.nf B.fl:=own_set (owns_keep q (fun q1 _ hq=>hb q1 hq)) aX (by decide) v'
 have own2:(w2.setCell ⟨X,18,none⟩ v').ownsRow 0 71 18 v' (B.no+1) (B.os++sentL k (txMsg B k kind)):=by
  obtain⟨z1,z2⟩:=own_set hr aX (by decide) v'
  refine⟨z1,?_⟩
  rcases z2 with z2|⟨g3,c3,cu3,e1,e2,e3⟩
  ·exact .inl z2
  ·exact .inr ⟨g3,c3,cu3,e1,Nat.zero_le _,e3⟩
 refine⟨.inl h1,.inl h2,cap,cur,v',s3,?_,(heap_setCell_other _ _ _ _ (Ne.symm hXg)).trans bg,c,d,e,f,own2,own3,fun m hm=>?_,(fun m hm=>.inl (s m hm))⟩
 ·rw[heap_setCell_same _ _ _ _ _ _ aX]
  congr 2
  apply Array.ext'
  simp[Br.sent,List.set_append,hd]
 ·have:=hr.lt m hm
  exact .inr this
def txSend(B:Br)(k:Nat)(kind:Int):Br:=(if kind=1 then(B.sent k kind).setp k 31 (.bool false)else((B.sent k kind).setp k 31 (.bool false)).setp k 48 (.bool false)).setp k 14 (.int .i64 (B.gi k 14+1))
theorem tx_send(w:World)(F:Nat→Prop)(X g k:Nat)(B:Br)(kind:Int)(h:BrG w F X g B)(ho:B.ok)(hk:k<B.np)(hn:B.np<1000)(h14:0≤B.gi k 14∧B.gi k 14≤100000)(hno:B.no≤100000):Calls Tryz.prog 61 #[.pointer (some ⟨X,0,none⟩),.int .i64 k,.int .i64 kind] w fun e w'=>e=.returned (.tuple #[])∧BrG w' (fun n=>F n∨(w.heap.size≤n∧n<w'.heap.size)) X g (txSend B k kind)∧Mut F w w':=by
 obtain⟨hX,hg,hne⟩:=h.lt
 obtain⟨cap,c17,hc1,hc2⟩:=h.cell17 ho
 have H:=hD h
 have hF1:=h.F1
 have hF2:=h.F2
 obtain⟨C,hC,hCb,hCz⟩:=h.br (by omega:0<B.np)
 obtain⟨-,-,cap3,cur,s2,s3,aX,bg,-,-,-,-,q2,-,-,-⟩:=h
 have c18:w.cell? ⟨X,18,none⟩=some s2:=by
  rw[cell_of_row _ _ _ _ _ _ aX]
  simp[ho.hd.1,HL]
 have hcells:∃ao cp,s2=.slice ao B.no cp∧B.no≤cp∧cp≤9223372036854775807∧(ao=none→B.no=0∧cp=0)∧(∀b,ao=some b→b.block<w.heap.size∧∀j u,B.os[j]?=some u→w.cell? (b.add j)=some u):=by
  obtain⟨hl,⟨rfl,hz⟩|⟨g3,cp,cu,rfl,-,hg3,h1,h2,h3,h4⟩⟩:=q2
  ·exact⟨none,0,by rw[hz],by omega,by omega,fun _=>⟨hz,rfl⟩,fun b hb=>by cases hb⟩
  ·unfold maxLen at h2
   refine⟨some ⟨g3,0,none⟩,cp,rfl,h1,by omega,(fun hh=>by cases hh),fun b hb=>?_⟩
   cases hb
   refine⟨heap_lt hg3,fun j u hu=>?_⟩
   rw[Addr.add_lit,Nat.zero_add,cell_of_row _ _ _ _ _ _ hg3]
   rw[←h4,List.getElem?_take]at hu
   split at hu
   ·simpa using hu
   ·cases hu
 obtain⟨ao,cp,rfl,hcp,hcm,h0,hcl⟩:=hcells
 obtain⟨i2,hi2,hz2,hs2,hb2⟩:=info_of info_sent
 have hlen:B.os.length=B.no*18:=ho.os.1
 have hk8:k<1000:=by omega
 have HCL:=hD hcl
 have H0:=hD h0
 have HI:=hD (And.intro hi2 (And.intro hz2 (And.intro hs2 hb2)))
 have HLEN:=hD hlen
 have HHD:=hD (show B.hd.length=17 from ho.hd.1)
 have HAX:=hD aX
 have HC:=hD hC
 have HCb:=hD hCb
 have HCi:=hD (show(Tryz.prog.info? 35).map (·.size)=some C.size by rw[hCz,ho.hd.1];exact size_br)
 have P14:=hD h14
 have HSO:=hD (sent_ok ho hk hk8 kind)
 obtain⟨m0,m1,m2,m3,m4,m5,m6,m7,m8,m9,m10,m11,m12,m13,m14,m15,m16,hm⟩:=txMsg_form B k kind
 have HM:=hD hm
 have HB0:=hD (show Tryz.prog.built 71 [(0,.int .i64 (k:Int)),(1,.agg (txMsg B k kind))]=some (sentL k (txMsg B k kind)).toArray by rw[HM.out];exact sent_b0 _ _ _ _ _ _ _ _ _ _ _ _ _ _ _ _ _ _)
 have HB1:=hD (show Instr.fill (fun i=>some (i*18,18)) ((Array.range (1*18)).map (SZ[· % SZ.size]!)) [(0,.agg (sentL k (txMsg B k kind)).toArray)]=some (sentL k (txMsg B k kind)).toArray by rw[HM.out];exact sent_b1 _ _ _ _ _ _ _ _ _ _ _ _ _ _ _ _ _ _)
 clear aX bg q2 hcl h0 hi2 hz2 hs2 hb2 hlen hC hCb hm
 go_enter Tryz.func61,Tryz.ntmps61
 go_wp2_with fail
 refine beginL (S:=fun W'=>Mut F w W') (by kernel_rfl) ?_
 intro wd hqx
 have hq0:Mut F w wd:=hqx.mut _
 have C18:=hD c18
 have C17:=hD c17
 clear c18 c17
 refine tLp 0 ((.pointer (some ⟨X,0,none⟩))) rfl hq0 ?_
 refine tLp 1 ((.pointer (some ⟨X,0,none⟩))) rfl hq0 ?_
 refine tLp 2 ((.pointer (some ⟨X,0,none⟩))) rfl hq0 ?_
 refine tLp 3 ((.pointer (some ⟨X,18,none⟩))) rfl hq0 ?_
 refine tLp 6 ((.int .i64 (k:Int))) rfl hq0 ?_
 refine tLp 7 ((.pointer (some ⟨X,0,none⟩))) rfl hq0 ?_
 refine tLp 8 ((.pointer (some ⟨X,0,none⟩))) rfl hq0 ?_
 refine tLp 10 ((.int .i64 (k:Int))) rfl hq0 ?_
 refine tLp 11 ((.int .i64 kind)) rfl hq0 ?_
 refine wpAnyH_ready (by kernel_rfl) (by simp) (readyY (i:=4) (v:=(.slice ao B.no cp)) rfl (yieldsIf_cell rfl 32 _ rfl ⟨X,18,none⟩ rfl (.slice ao B.no cp) _ (fun W' hW'=>by rw[hW'];exact(hqx.cell (p:=⟨X,18,none⟩) hX).trans C18.out) Tryz.underlying32 rfl) hq0 ?g4x1 (readyY (i:=9) (v:=.agg C) rfl (yieldsIf_rowS rfl 35 _ rfl X rfl C _ _ (fun W' hW'=>by rw[hW'];exact(hqx.block X hX).trans HC.out) Tryz.underlying35 rfl HCi.out) hq0 ?g9x1 (AllReadyH.nil)))
 case g4x1 =>
  try simp only[ps]
  refine wpAnyH_ready (by kernel_rfl) (by simp) (readyL (i:=5) rfl rfl ?g5x2 (readyY (i:=9) (v:=.agg C) rfl (yieldsIf_rowS rfl 35 _ rfl X rfl C _ _ (fun W' hW'=>by rw[hW'];exact(hqx.block X hX).trans HC.out) Tryz.underlying35 rfl HCi.out) hq0 ?g9x2 (AllReadyH.nil)))
  case g5x2 =>
   intro K hK
   go_simp
   refine(tx_clip ao B.no cp hcp hcm H0.out _).mono ?_
   rintro e w9 ⟨rfl,rfl⟩
   refine hK.out _ _ hq0 (fun hHeld=>?_)
   try simp only[ps]
   clear hK K hHeld
   refine wpAnyH_ready (by kernel_rfl) (by simp) (readyY (i:=9) (v:=.agg C) rfl (yieldsIf_rowS rfl 35 _ rfl X rfl C _ _ (fun W' hW'=>by rw[hW'];exact(hqx.block X hX).trans HC.out) Tryz.underlying35 rfl HCi.out) hq0 ?g9x3 (AllReadyH.nil))
   case g9x3 =>
    try simp only[ps]
    refine runL (i:=12) rfl rfl (by kernel_rfl) (fun K hK=>?_)
    go_simp
    refine(tx_msg C B _ (HCb.out.ext hqx) ho k hk kind).mono ?_
    rintro e wm ⟨rfl,hxm0⟩
    have hxm:=hqx.trans hxm0
    clear hxm0
    have hq1:Mut F w wm:=hxm.mut _
    refine hK.out _ _ hq1 (fun hHeld=>?_)
    try simp only[ps]
    clear hK K hHeld
    refine tL 13 ((.agg (sentL k (txMsg B k kind)).toArray)) rfl (yieldsIf_build rfl 71 _ rfl [(0,.int .i64 (k:Int)),(1,.agg (txMsg B k kind))] rfl (sentL k (txMsg B k kind)).toArray HB0.out) hq1 ?_
    refine runL (i:=14) rfl rfl (by kernel_rfl) (fun K hK=>?_)
    refine wp_buildSlice 32 71 1 _ rfl (sentL k (txMsg B k kind)).toArray i2 (.agg SZ) Tryz.underlying32 HI.out.1 HI.out.2.1 (by rw[HI.out.2.2.1];decide) (by rw[HI.out.2.2.1];decide) (by rw[HI.out.2.2.1,Array.toList_map];exact HB1.out) ?_
    have hq2:=hq1.alloc (.cells (sentL k (txMsg B k kind)).toArray 71)
    refine hK.out _ _ hq2 (fun hHeld=>?_)
    try simp only[ps]
    clear hK K hHeld
    refine runL (i:=15) rfl rfl (by kernel_rfl) (fun K hK=>?_)
    refine oper_append_grows rfl _ _ 32 rfl 71 i2 (.agg SZ) 18 96 Tryz.underlying32 HI.out.1 HI.out.2.1 HI.out.2.2.1 HI.out.2.2.2 size_SZ (by decide) ao B.no B.no B.os rfl (fun hh=>⟨(H0.out hh).1,(H0.out hh).1⟩) HLEN.out ?oldst4 ⟨wm.heap.size,0,none⟩ 1 1 (sentL k (txMsg B k kind)) rfl (by rw[sent_len]) ?newst4 (sent_one _ _ _ _) (by omega) (by unfold maxLen;omega) (by omega) ?fint4
    case oldst4 =>
     intro b hb j u hu
     obtain⟨l1,l2⟩:=HCL.out b hb
     have:=l2 j u hu
     have hbk:(b.add j).block=b.block:=by unfold Addr.add;split<;>rfl
     rw[((hxm.alloc _).cell (p:=b.add j) (by rw[hbk];exact l1))]
     exact this
    case newst4 =>
     intro j u hu
     exact World.news_of_block (heap_alloc_new wm _) j u (by simpa using hu)
    case fint4 =>
     intro v' w2 hr hgb
     obtain⟨av,cv,rfl⟩:=own_form hr
     have hwl:=hxm.size
     have hsz:w.heap.size+1≤w2.heap.size:=by
      have h1:=hgb.size
      rw[World.size_alloc]at h1
      omega
     have hbl:∀n,n<w.heap.size→w2.heap[n]?=w.heap[n]?:=fun n hn'=>(hgb.block n (by rw[World.size_alloc];omega) (by simp)).trans ((heap_alloc_old _ _ (by omega)).trans (hxm.block n hn'))
     have hr0:w2.ownsRow w.heap.size 71 18 (.slice av (B.no+1) cv) (B.no+1) (B.os++sentL k (txMsg B k kind)):=by
      obtain⟨z1,z2⟩:=hr
      refine⟨z1,?_⟩
      rcases z2 with z2|⟨g3,c3,cu3,e1,e2,e3⟩
      ·exact .inl z2
      ·exact .inr ⟨g3,c3,cu3,e1,by rw[World.size_alloc]at e2;omega,e3⟩
     have HBf:=hD (H.out.sended (k:=k) (kind:=kind) HHD.out (by omega) hbl hr0)
     have hq3:Mut F w w2:=⟨hgb.os.trans hxm.os,hgb.tape.trans hxm.tape,hgb.output.trans hxm.output,by omega,fun n hn' _=>hbl n hn'⟩
     have c18':w2.cell? ⟨X,18,none⟩=some (.slice ao B.no cp):=(World.cell?_of_block (hbl X hX)).trans C18.out
     have f18':w2.frozen? ⟨X,18,none⟩=false:=frozen_of_row _ _ _ _ _ ((hbl X hX).trans HAX.out)
     refine hK.out _ _ hq3 (fun hHeld=>?_)
     try simp only[ps]
     clear hK K hHeld
     refine tLp 16 ((.pointer (some ⟨X,0,none⟩))) rfl hq3 ?_
     refine tLp 17 ((.pointer (some ⟨X,18,none⟩))) rfl hq3 ?_
     refine runL (i:=18) rfl rfl (by kernel_rfl) (fun K hK=>?_)
     go_simp
     have hq4:=hq3.setCell (p:=⟨X,18,none⟩) (.inl hF1) (.slice av (B.no+1) cv)
     refine hK.out _ _ hq4 (fun hHeld=>?_)
     try simp only[ps]
     clear hK K hHeld
     refine wpAnyH_done (by kernel_rfl) ?_ _
     have HQ4:=hD hq4
     clear hr hr0 hq0 hq1 hq2 hq3 hq4 hqx hxm hgb c18' f18' hwl
     have hsz2:w2.heap.size=(w2.setCell ⟨X,18,none⟩ (.slice av (B.no+1) cv)).heap.size:=by simp
     rw[hsz2]at HBf
     clear hsz2 hbl hsz
     generalize w2.setCell ⟨X,18,none⟩ (.slice av (B.no+1) cv)=w3 at *
     have hF3:=HBf.out.F2
     obtain⟨hXl,hgl,hne3⟩:=HBf.out.lt
     have d31:=(HBf.out.cellg (i:=k*89+31) (lt89 hk (by decide))).trans (ho.gb hk 31 rfl)
     have d48:=(HBf.out.cellg (i:=k*89+48) (lt89 hk (by decide))).trans (ho.gb hk 48 rfl)
     have d14:=(HBf.out.cellg (i:=k*89+14) (lt89 hk (by decide))).trans (ho.gi hk 14 rfl)
     have hfr:=HBf.out.frozen
     obtain⟨cap4,c17,hca4,hcb4⟩:=HBf.out.cell17 HSO.out
     have hp14:=P14.out
     have c17:w3.cell? ⟨X,17,none⟩=some (.slice (some ⟨g,0,none⟩) B.np cap4):=c17
     by_cases k1:kind=1
     ·have e1:(kind != 1)=false:=by simpa using k1
      have HB9:=hD ((HBf.out.setp (k:=k) (j:=31) hk (by decide) (.bool false)).setp (k:=k) (j:=14) hk (by decide) (.int .i64 (B.gi k 14+1)))
      have HM9:=hD ((HQ4.out.setCell (p:=⟨g,k*89+31,none⟩) (.inl hF2) (.bool false)).setCell (p:=⟨g,k*89+14,none⟩) (.inl hF2) (.int .i64 (B.gi k 14+1)))
      go_wp2_with fail
      go_end0
      unfold txSend
      rw[if_pos k1]
      exact⟨rfl,HB9.out.mono (fun n hn=>hn.imp id (fun h2=>⟨h2.1,by simp only[World.size_setCell];exact h2.2⟩)),HM9.out⟩
     ·have e1:(kind != 1)=true:=by simpa using k1
      have HB9:=hD (((HBf.out.setp (k:=k) (j:=31) hk (by decide) (.bool false)).setp (k:=k) (j:=48) hk (by decide) (.bool false)).setp (k:=k) (j:=14) hk (by decide) (.int .i64 (B.gi k 14+1)))
      have HM9:=hD (((HQ4.out.setCell (p:=⟨g,k*89+31,none⟩) (.inl hF2) (.bool false)).setCell (p:=⟨g,k*89+48,none⟩) (.inl hF2) (.bool false)).setCell (p:=⟨g,k*89+14,none⟩) (.inl hF2) (.int .i64 (B.gi k 14+1)))
      go_wp2_with fail
      go_end0
      unfold txSend
      rw[if_neg k1]
      exact⟨rfl,HB9.out.mono (fun n hn=>hn.imp id (fun h2=>⟨h2.1,by simp only[World.size_setCell];exact h2.2⟩)),HM9.out⟩
  case g9x2 =>
   try simp only[ps]
   refine wpAnyH_ready (by kernel_rfl) (by simp) (readyL (i:=5) rfl rfl ?g5x5 (AllReadyH.nil))
   case g5x5 =>
    intro K hK
    go_simp
    refine(tx_clip ao B.no cp hcp hcm H0.out _).mono ?_
    rintro e w9 ⟨rfl,rfl⟩
    refine hK.out _ _ hq0 (fun hHeld=>?_)
    try simp only[ps]
    clear hK K hHeld
    refine runL (i:=12) rfl rfl (by kernel_rfl) (fun K hK=>?_)
    go_simp
    refine(tx_msg C B _ (HCb.out.ext hqx) ho k hk kind).mono ?_
    rintro e wm ⟨rfl,hxm0⟩
    have hxm:=hqx.trans hxm0
    clear hxm0
    have hq1:Mut F w wm:=hxm.mut _
    refine hK.out _ _ hq1 (fun hHeld=>?_)
    try simp only[ps]
    clear hK K hHeld
    refine tL 13 ((.agg (sentL k (txMsg B k kind)).toArray)) rfl (yieldsIf_build rfl 71 _ rfl [(0,.int .i64 (k:Int)),(1,.agg (txMsg B k kind))] rfl (sentL k (txMsg B k kind)).toArray HB0.out) hq1 ?_
    refine runL (i:=14) rfl rfl (by kernel_rfl) (fun K hK=>?_)
    refine wp_buildSlice 32 71 1 _ rfl (sentL k (txMsg B k kind)).toArray i2 (.agg SZ) Tryz.underlying32 HI.out.1 HI.out.2.1 (by rw[HI.out.2.2.1];decide) (by rw[HI.out.2.2.1];decide) (by rw[HI.out.2.2.1,Array.toList_map];exact HB1.out) ?_
    have hq2:=hq1.alloc (.cells (sentL k (txMsg B k kind)).toArray 71)
    refine hK.out _ _ hq2 (fun hHeld=>?_)
    try simp only[ps]
    clear hK K hHeld
    refine runL (i:=15) rfl rfl (by kernel_rfl) (fun K hK=>?_)
    refine oper_append_grows rfl _ _ 32 rfl 71 i2 (.agg SZ) 18 96 Tryz.underlying32 HI.out.1 HI.out.2.1 HI.out.2.2.1 HI.out.2.2.2 size_SZ (by decide) ao B.no B.no B.os rfl (fun hh=>⟨(H0.out hh).1,(H0.out hh).1⟩) HLEN.out ?oldst6 ⟨wm.heap.size,0,none⟩ 1 1 (sentL k (txMsg B k kind)) rfl (by rw[sent_len]) ?newst6 (sent_one _ _ _ _) (by omega) (by unfold maxLen;omega) (by omega) ?fint6
    case oldst6 =>
     intro b hb j u hu
     obtain⟨l1,l2⟩:=HCL.out b hb
     have:=l2 j u hu
     have hbk:(b.add j).block=b.block:=by unfold Addr.add;split<;>rfl
     rw[((hxm.alloc _).cell (p:=b.add j) (by rw[hbk];exact l1))]
     exact this
    case newst6 =>
     intro j u hu
     exact World.news_of_block (heap_alloc_new wm _) j u (by simpa using hu)
    case fint6 =>
     intro v' w2 hr hgb
     obtain⟨av,cv,rfl⟩:=own_form hr
     have hwl:=hxm.size
     have hsz:w.heap.size+1≤w2.heap.size:=by
      have h1:=hgb.size
      rw[World.size_alloc]at h1
      omega
     have hbl:∀n,n<w.heap.size→w2.heap[n]?=w.heap[n]?:=fun n hn'=>(hgb.block n (by rw[World.size_alloc];omega) (by simp)).trans ((heap_alloc_old _ _ (by omega)).trans (hxm.block n hn'))
     have hr0:w2.ownsRow w.heap.size 71 18 (.slice av (B.no+1) cv) (B.no+1) (B.os++sentL k (txMsg B k kind)):=by
      obtain⟨z1,z2⟩:=hr
      refine⟨z1,?_⟩
      rcases z2 with z2|⟨g3,c3,cu3,e1,e2,e3⟩
      ·exact .inl z2
      ·exact .inr ⟨g3,c3,cu3,e1,by rw[World.size_alloc]at e2;omega,e3⟩
     have HBf:=hD (H.out.sended (k:=k) (kind:=kind) HHD.out (by omega) hbl hr0)
     have hq3:Mut F w w2:=⟨hgb.os.trans hxm.os,hgb.tape.trans hxm.tape,hgb.output.trans hxm.output,by omega,fun n hn' _=>hbl n hn'⟩
     have c18':w2.cell? ⟨X,18,none⟩=some (.slice ao B.no cp):=(World.cell?_of_block (hbl X hX)).trans C18.out
     have f18':w2.frozen? ⟨X,18,none⟩=false:=frozen_of_row _ _ _ _ _ ((hbl X hX).trans HAX.out)
     refine hK.out _ _ hq3 (fun hHeld=>?_)
     try simp only[ps]
     clear hK K hHeld
     refine tLp 16 ((.pointer (some ⟨X,0,none⟩))) rfl hq3 ?_
     refine tLp 17 ((.pointer (some ⟨X,18,none⟩))) rfl hq3 ?_
     refine runL (i:=18) rfl rfl (by kernel_rfl) (fun K hK=>?_)
     go_simp
     have hq4:=hq3.setCell (p:=⟨X,18,none⟩) (.inl hF1) (.slice av (B.no+1) cv)
     refine hK.out _ _ hq4 (fun hHeld=>?_)
     try simp only[ps]
     clear hK K hHeld
     refine wpAnyH_done (by kernel_rfl) ?_ _
     have HQ4:=hD hq4
     clear hr hr0 hq0 hq1 hq2 hq3 hq4 hqx hxm hgb c18' f18' hwl
     have hsz2:w2.heap.size=(w2.setCell ⟨X,18,none⟩ (.slice av (B.no+1) cv)).heap.size:=by simp
     rw[hsz2]at HBf
     clear hsz2 hbl hsz
     generalize w2.setCell ⟨X,18,none⟩ (.slice av (B.no+1) cv)=w3 at *
     have hF3:=HBf.out.F2
     obtain⟨hXl,hgl,hne3⟩:=HBf.out.lt
     have d31:=(HBf.out.cellg (i:=k*89+31) (lt89 hk (by decide))).trans (ho.gb hk 31 rfl)
     have d48:=(HBf.out.cellg (i:=k*89+48) (lt89 hk (by decide))).trans (ho.gb hk 48 rfl)
     have d14:=(HBf.out.cellg (i:=k*89+14) (lt89 hk (by decide))).trans (ho.gi hk 14 rfl)
     have hfr:=HBf.out.frozen
     obtain⟨cap4,c17,hca4,hcb4⟩:=HBf.out.cell17 HSO.out
     have hp14:=P14.out
     have c17:w3.cell? ⟨X,17,none⟩=some (.slice (some ⟨g,0,none⟩) B.np cap4):=c17
     by_cases k1:kind=1
     ·have e1:(kind != 1)=false:=by simpa using k1
      have HB9:=hD ((HBf.out.setp (k:=k) (j:=31) hk (by decide) (.bool false)).setp (k:=k) (j:=14) hk (by decide) (.int .i64 (B.gi k 14+1)))
      have HM9:=hD ((HQ4.out.setCell (p:=⟨g,k*89+31,none⟩) (.inl hF2) (.bool false)).setCell (p:=⟨g,k*89+14,none⟩) (.inl hF2) (.int .i64 (B.gi k 14+1)))
      go_wp2_with fail
      go_end0
      unfold txSend
      rw[if_pos k1]
      exact⟨rfl,HB9.out.mono (fun n hn=>hn.imp id (fun h2=>⟨h2.1,by simp only[World.size_setCell];exact h2.2⟩)),HM9.out⟩
     ·have e1:(kind != 1)=true:=by simpa using k1
      have HB9:=hD (((HBf.out.setp (k:=k) (j:=31) hk (by decide) (.bool false)).setp (k:=k) (j:=48) hk (by decide) (.bool false)).setp (k:=k) (j:=14) hk (by decide) (.int .i64 (B.gi k 14+1)))
      have HM9:=hD (((HQ4.out.setCell (p:=⟨g,k*89+31,none⟩) (.inl hF2) (.bool false)).setCell (p:=⟨g,k*89+48,none⟩) (.inl hF2) (.bool false)).setCell (p:=⟨g,k*89+14,none⟩) (.inl hF2) (.int .i64 (B.gi k 14+1)))
      go_wp2_with fail
      go_end0
      unfold txSend
      rw[if_neg k1]
      exact⟨rfl,HB9.out.mono (fun n hn=>hn.imp id (fun h2=>⟨h2.1,by simp only[World.size_setCell];exact h2.2⟩)),HM9.out⟩
 case g9x1 =>
  try simp only[ps]
  refine wpAnyH_ready (by kernel_rfl) (by simp) (readyY (i:=4) (v:=(.slice ao B.no cp)) rfl (yieldsIf_cell rfl 32 _ rfl ⟨X,18,none⟩ rfl (.slice ao B.no cp) _ (fun W' hW'=>by rw[hW'];exact(hqx.cell (p:=⟨X,18,none⟩) hX).trans C18.out) Tryz.underlying32 rfl) hq0 ?g4x7 (AllReadyH.nil))
  case g4x7 =>
   try simp only[ps]
   refine wpAnyH_ready (by kernel_rfl) (by simp) (readyL (i:=5) rfl rfl ?g5x8 (AllReadyH.nil))
   case g5x8 =>
    intro K hK
    go_simp
    refine(tx_clip ao B.no cp hcp hcm H0.out _).mono ?_
    rintro e w9 ⟨rfl,rfl⟩
    refine hK.out _ _ hq0 (fun hHeld=>?_)
    try simp only[ps]
    clear hK K hHeld
    refine runL (i:=12) rfl rfl (by kernel_rfl) (fun K hK=>?_)
    go_simp
    refine(tx_msg C B _ (HCb.out.ext hqx) ho k hk kind).mono ?_
    rintro e wm ⟨rfl,hxm0⟩
    have hxm:=hqx.trans hxm0
    clear hxm0
    have hq1:Mut F w wm:=hxm.mut _
    refine hK.out _ _ hq1 (fun hHeld=>?_)
    try simp only[ps]
    clear hK K hHeld
    refine tL 13 ((.agg (sentL k (txMsg B k kind)).toArray)) rfl (yieldsIf_build rfl 71 _ rfl [(0,.int .i64 (k:Int)),(1,.agg (txMsg B k kind))] rfl (sentL k (txMsg B k kind)).toArray HB0.out) hq1 ?_
    refine runL (i:=14) rfl rfl (by kernel_rfl) (fun K hK=>?_)
    refine wp_buildSlice 32 71 1 _ rfl (sentL k (txMsg B k kind)).toArray i2 (.agg SZ) Tryz.underlying32 HI.out.1 HI.out.2.1 (by rw[HI.out.2.2.1];decide) (by rw[HI.out.2.2.1];decide) (by rw[HI.out.2.2.1,Array.toList_map];exact HB1.out) ?_
    have hq2:=hq1.alloc (.cells (sentL k (txMsg B k kind)).toArray 71)
    refine hK.out _ _ hq2 (fun hHeld=>?_)
    try simp only[ps]
    clear hK K hHeld
    refine runL (i:=15) rfl rfl (by kernel_rfl) (fun K hK=>?_)
    refine oper_append_grows rfl _ _ 32 rfl 71 i2 (.agg SZ) 18 96 Tryz.underlying32 HI.out.1 HI.out.2.1 HI.out.2.2.1 HI.out.2.2.2 size_SZ (by decide) ao B.no B.no B.os rfl (fun hh=>⟨(H0.out hh).1,(H0.out hh).1⟩) HLEN.out ?oldst9 ⟨wm.heap.size,0,none⟩ 1 1 (sentL k (txMsg B k kind)) rfl (by rw[sent_len]) ?newst9 (sent_one _ _ _ _) (by omega) (by unfold maxLen;omega) (by omega) ?fint9
    case oldst9 =>
     intro b hb j u hu
     obtain⟨l1,l2⟩:=HCL.out b hb
     have:=l2 j u hu
     have hbk:(b.add j).block=b.block:=by unfold Addr.add;split<;>rfl
     rw[((hxm.alloc _).cell (p:=b.add j) (by rw[hbk];exact l1))]
     exact this
    case newst9 =>
     intro j u hu
     exact World.news_of_block (heap_alloc_new wm _) j u (by simpa using hu)
    case fint9 =>
     intro v' w2 hr hgb
     obtain⟨av,cv,rfl⟩:=own_form hr
     have hwl:=hxm.size
     have hsz:w.heap.size+1≤w2.heap.size:=by
      have h1:=hgb.size
      rw[World.size_alloc]at h1
      omega
     have hbl:∀n,n<w.heap.size→w2.heap[n]?=w.heap[n]?:=fun n hn'=>(hgb.block n (by rw[World.size_alloc];omega) (by simp)).trans ((heap_alloc_old _ _ (by omega)).trans (hxm.block n hn'))
     have hr0:w2.ownsRow w.heap.size 71 18 (.slice av (B.no+1) cv) (B.no+1) (B.os++sentL k (txMsg B k kind)):=by
      obtain⟨z1,z2⟩:=hr
      refine⟨z1,?_⟩
      rcases z2 with z2|⟨g3,c3,cu3,e1,e2,e3⟩
      ·exact .inl z2
      ·exact .inr ⟨g3,c3,cu3,e1,by rw[World.size_alloc]at e2;omega,e3⟩
     have HBf:=hD (H.out.sended (k:=k) (kind:=kind) HHD.out (by omega) hbl hr0)
     have hq3:Mut F w w2:=⟨hgb.os.trans hxm.os,hgb.tape.trans hxm.tape,hgb.output.trans hxm.output,by omega,fun n hn' _=>hbl n hn'⟩
     have c18':w2.cell? ⟨X,18,none⟩=some (.slice ao B.no cp):=(World.cell?_of_block (hbl X hX)).trans C18.out
     have f18':w2.frozen? ⟨X,18,none⟩=false:=frozen_of_row _ _ _ _ _ ((hbl X hX).trans HAX.out)
     refine hK.out _ _ hq3 (fun hHeld=>?_)
     try simp only[ps]
     clear hK K hHeld
     refine tLp 16 ((.pointer (some ⟨X,0,none⟩))) rfl hq3 ?_
     refine tLp 17 ((.pointer (some ⟨X,18,none⟩))) rfl hq3 ?_
     refine runL (i:=18) rfl rfl (by kernel_rfl) (fun K hK=>?_)
     go_simp
     have hq4:=hq3.setCell (p:=⟨X,18,none⟩) (.inl hF1) (.slice av (B.no+1) cv)
     refine hK.out _ _ hq4 (fun hHeld=>?_)
     try simp only[ps]
     clear hK K hHeld
     refine wpAnyH_done (by kernel_rfl) ?_ _
     have HQ4:=hD hq4
     clear hr hr0 hq0 hq1 hq2 hq3 hq4 hqx hxm hgb c18' f18' hwl
     have hsz2:w2.heap.size=(w2.setCell ⟨X,18,none⟩ (.slice av (B.no+1) cv)).heap.size:=by simp
     rw[hsz2]at HBf
     clear hsz2 hbl hsz
     generalize w2.setCell ⟨X,18,none⟩ (.slice av (B.no+1) cv)=w3 at *
     have hF3:=HBf.out.F2
     obtain⟨hXl,hgl,hne3⟩:=HBf.out.lt
     have d31:=(HBf.out.cellg (i:=k*89+31) (lt89 hk (by decide))).trans (ho.gb hk 31 rfl)
     have d48:=(HBf.out.cellg (i:=k*89+48) (lt89 hk (by decide))).trans (ho.gb hk 48 rfl)
     have d14:=(HBf.out.cellg (i:=k*89+14) (lt89 hk (by decide))).trans (ho.gi hk 14 rfl)
     have hfr:=HBf.out.frozen
     obtain⟨cap4,c17,hca4,hcb4⟩:=HBf.out.cell17 HSO.out
     have hp14:=P14.out
     have c17:w3.cell? ⟨X,17,none⟩=some (.slice (some ⟨g,0,none⟩) B.np cap4):=c17
     by_cases k1:kind=1
     ·have e1:(kind != 1)=false:=by simpa using k1
      have HB9:=hD ((HBf.out.setp (k:=k) (j:=31) hk (by decide) (.bool false)).setp (k:=k) (j:=14) hk (by decide) (.int .i64 (B.gi k 14+1)))
      have HM9:=hD ((HQ4.out.setCell (p:=⟨g,k*89+31,none⟩) (.inl hF2) (.bool false)).setCell (p:=⟨g,k*89+14,none⟩) (.inl hF2) (.int .i64 (B.gi k 14+1)))
      go_wp2_with fail
      go_end0
      unfold txSend
      rw[if_pos k1]
      exact⟨rfl,HB9.out.mono (fun n hn=>hn.imp id (fun h2=>⟨h2.1,by simp only[World.size_setCell];exact h2.2⟩)),HM9.out⟩
     ·have e1:(kind != 1)=true:=by simpa using k1
      have HB9:=hD (((HBf.out.setp (k:=k) (j:=31) hk (by decide) (.bool false)).setp (k:=k) (j:=48) hk (by decide) (.bool false)).setp (k:=k) (j:=14) hk (by decide) (.int .i64 (B.gi k 14+1)))
      have HM9:=hD (((HQ4.out.setCell (p:=⟨g,k*89+31,none⟩) (.inl hF2) (.bool false)).setCell (p:=⟨g,k*89+48,none⟩) (.inl hF2) (.bool false)).setCell (p:=⟨g,k*89+14,none⟩) (.inl hF2) (.int .i64 (B.gi k 14+1)))
      go_wp2_with fail
      go_end0
      unfold txSend
      rw[if_neg k1]
      exact⟨rfl,HB9.out.mono (fun n hn=>hn.imp id (fun h2=>⟨h2.1,by simp only[World.size_setCell];exact h2.2⟩)),HM9.out⟩
def jumpN(P:Program)(c:Code)(Q:Exit→Act→World→Prop):Nat→Exit→Act→World→Prop
 | 0,.goto _,_,_=>False
 | n+1,.goto l,a,w=>∃rest,findLabel c l=some rest∧rest.wp P (jumpN P c Q n) a w
 | _,e,a,w=>Q e a w
theorem wp_scope_n{P:Program}{a:Act}{w:World}{Q:Exit→Act→World→Prop}{c:Code}(n:Nat)(h:c.wp P (jumpN P c Q n) a w):(Code.scope c).wp P Q a w:=by
 intro b k cs
 have key:∀n (rest:Code) a w,rest.wp P (jumpN P c Q n) a w→∃e a' w',Q e a' w'∧Arrives P (lone (b.at a (.code rest :: .inScope c :: k)) cs w) b k cs e a' w':=by
  intro n
  induction n with
  | zero =>
   intro rest a w h
   obtain⟨e,a₁,w₁,hq,harr⟩:=h b (.inScope c :: k) cs
   cases e with
   | normal=>exact⟨.normal,a₁,w₁,hq,Steps.trans harr (.one step_inScope)⟩
   | exit id=>exact⟨.exit id,a₁,w₁,hq,fun k' hk=>harr k' (by simp[exitTo,hk])⟩
   | goto l=>exact hq.elim
   | ret=>exact⟨_,a₁,w₁,hq,harr⟩
   | panic ch=>exact⟨_,a₁,w₁,hq,harr⟩
   | outgrown=>exact⟨_,a₁,w₁,hq,harr⟩
  | succ n ih =>
   intro rest a w h
   obtain⟨e,a₁,w₁,hq,harr⟩:=h b (.inScope c :: k) cs
   cases e with
   | normal=>exact⟨.normal,a₁,w₁,hq,Steps.trans harr (.one step_inScope)⟩
   | exit id=>exact⟨.exit id,a₁,w₁,hq,fun k' hk=>harr k' (by simp[exitTo,hk])⟩
   | goto l =>
    obtain⟨r2,hf,h2⟩:=hq
    obtain⟨e₂,a₂,w₂,hq₂,harr₂⟩:=ih r2 a₁ w₁ h2
    exact⟨e₂,a₂,w₂,hq₂,.of_steps (harr _ (by simp[gotoIn,hf])) harr₂⟩
   | ret=>exact⟨_,a₁,w₁,hq,harr⟩
   | panic ch=>exact⟨_,a₁,w₁,hq,harr⟩
   | outgrown=>exact⟨_,a₁,w₁,hq,harr⟩
 obtain⟨e,a₁,w₁,hq,harr⟩:=key n c a w h
 exact⟨e,a₁,w₁,hq,.of_steps (.one step_scope) harr⟩
theorem scope_hid{P:Program}{a:Act}{w:World}{Q:Exit→Act→World→Prop}{c:Code}(n:Nat)(h:∀J,Hid (J=jumpN P c Q n)→c.wp P J a w):(Code.scope c).wp P Q a w :=
 wp_scope_n n (h _ (hD rfl))
theorem jump_hid{P:Program}{a:Act}{w:World}{Q:Exit→Act→World→Prop}{c rest:Code}{n l:Nat}{J:Exit→Act→World→Prop}(hJ:Hid (J=jumpN P c Q (n+1)))(hf:findLabel c l=some rest)(h:∀J',Hid (J'=jumpN P c Q n)→rest.wp P J' a w):J (.goto l) a w:=by
 rw[hJ.out]
 exact⟨rest,hf,h _ (hD rfl)⟩
theorem jump_ret{P:Program}{a:Act}{w:World}{Q:Exit→Act→World→Prop}{c:Code}{n:Nat}{J:Exit→Act→World→Prop}(hJ:Hid (J=jumpN P c Q n))(h:Q .ret a w):J .ret a w:=by
 rw[hJ.out]
 cases n<;>exact h
def txClock(B:Br)(k:Nat):Br:=(if(B.gi k 87 == 4 || (B.gi k 87 == 3 && B.gi k 13 != 0))=true then B.setp k 31 (.bool true)else B).setp k 8 (.int .i64 (B.hi 4))
def txNews(B:Br)(k:Nat):Br:=(txSend B k (txKind (B.gb k 45) (B.gi k 87))).setp k 8 (.int .i64 (B.hi 4))
def txSel(B:Br)(k:Nat):Nat :=
 if(!B.gb k 44 || B.gb k 50)=true then 0 else if B.gi k 8=0 then 1 else if(txTells (B.gb k 45) (B.gi k 87) && B.gb k 31 && decide (B.gi k 14<B.hi 6))=true then 2 else 0
def txF(B:Br)(k:Nat):Bool × Br:=if txSel B k=1 then(true,txClock B k)else if txSel B k=2 then(true,txNews B k)else(false,B)
theorem txSend_np(B:Br)(k:Nat)(kind:Int):(txSend B k kind).np=B.np:=by unfold txSend;split<;>rfl
theorem txSend_hd(B:Br)(k:Nat)(kind:Int):(txSend B k kind).hd=B.hd:=by unfold txSend;split<;>rfl
theorem txSend_ok{B:Br}(ho:B.ok){k:Nat}(hk:k<B.np)(hk8:k<1000)(kind:Int)(h14:0≤B.gi k 14∧B.gi k 14≤100000):(txSend B k kind).ok:=by
 have hs:=sent_ok ho hk hk8 kind
 have hw:(Lit.int .i64 (B.gi k 14+1)).wf=true:=by
  simp[Lit.wf,IntKind.min,IntKind.max,IntKind.signed,IntKind.bits]
  omega
 unfold txSend
 split
 ·exact(hs.setB (k:=k) hk 31 false rfl).setI (k:=k) hk 14 .i64 _ rfl hw
 ·exact((hs.setB (k:=k) hk 31 false rfl).setB (k:=k) hk 48 false rfl).setI (k:=k) hk 14 .i64 _ rfl hw
theorem tx_s0(w:World)(N:Nat→Prop)(X g k:Nat)(B:Br)(h:BrG w (fun n=>N n∧n<w.heap.size) X g B)(ho:B.ok)(hk:k<B.np)(hn:B.np<1000)(h44:B.gb k 44=false):
    Calls Tryz.prog 44 #[.pointer (some ⟨X,0,none⟩),.int .i64 k] w (fun e w'=>e=.returned (.bool false)∧BrG w' (fun n=>N n∧n<w'.heap.size) X g (B)∧Mut (fun n=>N n) w w'):=by
 obtain⟨hX,hg,hne⟩:=h.lt
 obtain⟨cap,c17,hc1,hc2⟩:=h.cell17 ho
 have p44:=(h.cellg (i:=k*89+44) (lt89 hk (by decide))).trans (ho.gb hk 44 rfl)
 have p50:=(h.cellg (i:=k*89+50) (lt89 hk (by decide))).trans (ho.gb hk 50 rfl)
 have p45:=(h.cellg (i:=k*89+45) (lt89 hk (by decide))).trans (ho.gb hk 45 rfl)
 have p87:=(h.cellg (i:=k*89+87) (lt89 hk (by decide))).trans (ho.gi hk 87 rfl)
 have p8:=(h.cellg (i:=k*89+8) (lt89 hk (by decide))).trans (ho.gi hk 8 rfl)
 have p31:=(h.cellg (i:=k*89+31) (lt89 hk (by decide))).trans (ho.gb hk 31 rfl)
 have p14:=(h.cellg (i:=k*89+14) (lt89 hk (by decide))).trans (ho.gi hk 14 rfl)
 have p13:=(h.cellg (i:=k*89+13) (lt89 hk (by decide))).trans (ho.gi hk 13 rfl)
 have q4:=(h.cellX ho (i:=4) (by omega)).trans (ho.hi 4 rfl)
 have q6:=(h.cellX ho (i:=6) (by omega)).trans (ho.hi 6 rfl)
 rw[h44]at p44
 have hF1:=h.F1
 have hF2:=h.F2
 have hfr:=h.frozen
 have H:=hD h
 clear h
 have HK:=hD (tx_kind g (k*89) _ _ w p45 p87)
 go_enter Tryz.func44,Tryz.ntmps44
 go_wp2_with fail
 refine scope_hid 3 (fun J0 hJ0=>?_)
 go_wp2_with fail
 refine HK.out.mono ?_
 rintro e w1 ⟨rfl,hx1⟩
 have HX1:=hD hx1
 clear HK
 have r44:=(hx1.cell (p:=⟨g,k*89+44,none⟩) hg).trans p44
 have r50:=(hx1.cell (p:=⟨g,k*89+50,none⟩) hg).trans p50
 have r45:=(hx1.cell (p:=⟨g,k*89+45,none⟩) hg).trans p45
 have r87:=(hx1.cell (p:=⟨g,k*89+87,none⟩) hg).trans p87
 have r8:=(hx1.cell (p:=⟨g,k*89+8,none⟩) hg).trans p8
 have r31:=(hx1.cell (p:=⟨g,k*89+31,none⟩) hg).trans p31
 have r14:=(hx1.cell (p:=⟨g,k*89+14,none⟩) hg).trans p14
 have r13:=(hx1.cell (p:=⟨g,k*89+13,none⟩) hg).trans p13
 have s4:=(hx1.cell (p:=⟨X,4,none⟩) hX).trans q4
 have s6:=(hx1.cell (p:=⟨X,6,none⟩) hX).trans q6
 have d17:=(hx1.cell (p:=⟨X,17,none⟩) hX).trans c17
 have hgr:∀j,w1.frozen? ⟨g,j,none⟩=false:=fun j=>(H.out.ext hx1).frozen j
 clear hx1 c17 hfr q4 q6 p44 p50 p45 p87 p8 p31 p14 p13
 go_wp2_with fail
 refine jump_ret hJ0 ?_
 go_ret
 exact⟨rfl,(H.out.ext HX1.out).mono (fun n hn=>⟨hn.1,nL hn.2 (Below.size HX1.out)⟩),(Ext.mut HX1.out _)⟩
theorem tx_s0b(w:World)(N:Nat→Prop)(X g k:Nat)(B:Br)(h:BrG w (fun n=>N n∧n<w.heap.size) X g B)(ho:B.ok)(hk:k<B.np)(hn:B.np<1000)(h44:B.gb k 44=true)(h50:B.gb k 50=true):
    Calls Tryz.prog 44 #[.pointer (some ⟨X,0,none⟩),.int .i64 k] w (fun e w'=>e=.returned (.bool false)∧BrG w' (fun n=>N n∧n<w'.heap.size) X g (B)∧Mut (fun n=>N n) w w'):=by
 obtain⟨hX,hg,hne⟩:=h.lt
 obtain⟨cap,c17,hc1,hc2⟩:=h.cell17 ho
 have p44:=(h.cellg (i:=k*89+44) (lt89 hk (by decide))).trans (ho.gb hk 44 rfl)
 have p50:=(h.cellg (i:=k*89+50) (lt89 hk (by decide))).trans (ho.gb hk 50 rfl)
 have p45:=(h.cellg (i:=k*89+45) (lt89 hk (by decide))).trans (ho.gb hk 45 rfl)
 have p87:=(h.cellg (i:=k*89+87) (lt89 hk (by decide))).trans (ho.gi hk 87 rfl)
 have p8:=(h.cellg (i:=k*89+8) (lt89 hk (by decide))).trans (ho.gi hk 8 rfl)
 have p31:=(h.cellg (i:=k*89+31) (lt89 hk (by decide))).trans (ho.gb hk 31 rfl)
 have p14:=(h.cellg (i:=k*89+14) (lt89 hk (by decide))).trans (ho.gi hk 14 rfl)
 have p13:=(h.cellg (i:=k*89+13) (lt89 hk (by decide))).trans (ho.gi hk 13 rfl)
 have q4:=(h.cellX ho (i:=4) (by omega)).trans (ho.hi 4 rfl)
 have q6:=(h.cellX ho (i:=6) (by omega)).trans (ho.hi 6 rfl)
 rw[h44]at p44
 rw[h50]at p50
 have hF1:=h.F1
 have hF2:=h.F2
 have hfr:=h.frozen
 have H:=hD h
 clear h
 have HK:=hD (tx_kind g (k*89) _ _ w p45 p87)
 go_enter Tryz.func44,Tryz.ntmps44
 go_wp2_with fail
 refine scope_hid 3 (fun J0 hJ0=>?_)
 go_wp2_with fail
 refine HK.out.mono ?_
 rintro e w1 ⟨rfl,hx1⟩
 have HX1:=hD hx1
 clear HK
 have r44:=(hx1.cell (p:=⟨g,k*89+44,none⟩) hg).trans p44
 have r50:=(hx1.cell (p:=⟨g,k*89+50,none⟩) hg).trans p50
 have r45:=(hx1.cell (p:=⟨g,k*89+45,none⟩) hg).trans p45
 have r87:=(hx1.cell (p:=⟨g,k*89+87,none⟩) hg).trans p87
 have r8:=(hx1.cell (p:=⟨g,k*89+8,none⟩) hg).trans p8
 have r31:=(hx1.cell (p:=⟨g,k*89+31,none⟩) hg).trans p31
 have r14:=(hx1.cell (p:=⟨g,k*89+14,none⟩) hg).trans p14
 have r13:=(hx1.cell (p:=⟨g,k*89+13,none⟩) hg).trans p13
 have s4:=(hx1.cell (p:=⟨X,4,none⟩) hX).trans q4
 have s6:=(hx1.cell (p:=⟨X,6,none⟩) hX).trans q6
 have d17:=(hx1.cell (p:=⟨X,17,none⟩) hX).trans c17
 have hgr:∀j,w1.frozen? ⟨g,j,none⟩=false:=fun j=>(H.out.ext hx1).frozen j
 clear hx1 c17 hfr q4 q6 p44 p50 p45 p87 p8 p31 p14 p13
 go_wp2_with fail
 refine jump_ret hJ0 ?_
 go_ret
 exact⟨rfl,(H.out.ext HX1.out).mono (fun n hn=>⟨hn.1,nL hn.2 (Below.size HX1.out)⟩),(Ext.mut HX1.out _)⟩
theorem tx_c4(w:World)(N:Nat→Prop)(X g k:Nat)(B:Br)(h:BrG w (fun n=>N n∧n<w.heap.size) X g B)(ho:B.ok)(hk:k<B.np)(hn:B.np<1000)(h44:B.gb k 44=true)(h50:B.gb k 50=false)(h8:B.gi k 8=0)(h87:B.gi k 87=4):
    Calls Tryz.prog 44 #[.pointer (some ⟨X,0,none⟩),.int .i64 k] w (fun e w'=>e=.returned (.bool true)∧BrG w' (fun n=>N n∧n<w'.heap.size) X g (((B.setp k 31 (.bool true)).setp k 8 (.int .i64 (B.hi 4))))∧Mut (fun n=>N n) w w'):=by
 obtain⟨hX,hg,hne⟩:=h.lt
 obtain⟨cap,c17,hc1,hc2⟩:=h.cell17 ho
 have p44:=(h.cellg (i:=k*89+44) (lt89 hk (by decide))).trans (ho.gb hk 44 rfl)
 have p50:=(h.cellg (i:=k*89+50) (lt89 hk (by decide))).trans (ho.gb hk 50 rfl)
 have p45:=(h.cellg (i:=k*89+45) (lt89 hk (by decide))).trans (ho.gb hk 45 rfl)
 have p87:=(h.cellg (i:=k*89+87) (lt89 hk (by decide))).trans (ho.gi hk 87 rfl)
 have p8:=(h.cellg (i:=k*89+8) (lt89 hk (by decide))).trans (ho.gi hk 8 rfl)
 have p31:=(h.cellg (i:=k*89+31) (lt89 hk (by decide))).trans (ho.gb hk 31 rfl)
 have p14:=(h.cellg (i:=k*89+14) (lt89 hk (by decide))).trans (ho.gi hk 14 rfl)
 have p13:=(h.cellg (i:=k*89+13) (lt89 hk (by decide))).trans (ho.gi hk 13 rfl)
 have q4:=(h.cellX ho (i:=4) (by omega)).trans (ho.hi 4 rfl)
 have q6:=(h.cellX ho (i:=6) (by omega)).trans (ho.hi 6 rfl)
 rw[h44]at p44
 rw[h50]at p50
 rw[h8]at p8
 rw[h87]at p87
 have hF1:=h.F1
 have hF2:=h.F2
 have hfr:=h.frozen
 have H:=hD h
 clear h
 have HK:=hD (tx_kind g (k*89) _ _ w p45 p87)
 go_enter Tryz.func44,Tryz.ntmps44
 go_wp2_with fail
 refine scope_hid 3 (fun J0 hJ0=>?_)
 go_wp2_with fail
 refine HK.out.mono ?_
 rintro e w1 ⟨rfl,hx1⟩
 have HX1:=hD hx1
 clear HK
 have r44:=(hx1.cell (p:=⟨g,k*89+44,none⟩) hg).trans p44
 have r50:=(hx1.cell (p:=⟨g,k*89+50,none⟩) hg).trans p50
 have r45:=(hx1.cell (p:=⟨g,k*89+45,none⟩) hg).trans p45
 have r87:=(hx1.cell (p:=⟨g,k*89+87,none⟩) hg).trans p87
 have r8:=(hx1.cell (p:=⟨g,k*89+8,none⟩) hg).trans p8
 have r31:=(hx1.cell (p:=⟨g,k*89+31,none⟩) hg).trans p31
 have r14:=(hx1.cell (p:=⟨g,k*89+14,none⟩) hg).trans p14
 have r13:=(hx1.cell (p:=⟨g,k*89+13,none⟩) hg).trans p13
 have s4:=(hx1.cell (p:=⟨X,4,none⟩) hX).trans q4
 have s6:=(hx1.cell (p:=⟨X,6,none⟩) hX).trans q6
 have d17:=(hx1.cell (p:=⟨X,17,none⟩) hX).trans c17
 have hgr:∀j,w1.frozen? ⟨g,j,none⟩=false:=fun j=>(H.out.ext hx1).frozen j
 clear hx1 c17 hfr q4 q6 p44 p50 p45 p87 p8 p31 p14 p13
 go_wp2_with fail
 try go_step3
 show J0 (Exit.goto 0) _ _
 refine jump_hid hJ0 rfl (fun J1 hJ1=>?_)
 clear hJ0
 go_wp2_with fail
 try go_step3
 show J1 (Exit.goto 2) _ _
 refine jump_hid hJ1 rfl (fun J2 hJ2=>?_)
 clear hJ1
 go_wp2_with fail
 have hfin:=(((H.out.ext HX1.out).setp (k:=k) (j:=31) hk (by decide) (.bool true)).setp (k:=k) (j:=8) hk (by decide) (.int .i64 (B.hi 4)))
 have hmut:=((((Ext.mut HX1.out (fun n=>N n∧n<w.heap.size))).setCell (p:=⟨g,k*89+31,none⟩) (.inl hF2) (.bool true)).setCell (p:=⟨g,k*89+8,none⟩) (.inl hF2) (.int .i64 (B.hi 4)))
 refine jump_ret hJ2 ?_
 go_ret
 exact⟨rfl,hfin.mono (fun n hn=>⟨hn.1,by simp only[World.size_setCell];exact nL hn.2 (Below.size HX1.out)⟩),hmut.mono (fun n _ hn=>hn.1)⟩
theorem tx_c3t(w:World)(N:Nat→Prop)(X g k:Nat)(B:Br)(h:BrG w (fun n=>N n∧n<w.heap.size) X g B)(ho:B.ok)(hk:k<B.np)(hn:B.np<1000)(h44:B.gb k 44=true)(h50:B.gb k 50=false)(h8:B.gi k 8=0)(h87:B.gi k 87=3)(h13:(B.gi k 13 != 0)=true):
    Calls Tryz.prog 44 #[.pointer (some ⟨X,0,none⟩),.int .i64 k] w (fun e w'=>e=.returned (.bool true)∧BrG w' (fun n=>N n∧n<w'.heap.size) X g (((B.setp k 31 (.bool true)).setp k 8 (.int .i64 (B.hi 4))))∧Mut (fun n=>N n) w w'):=by
 obtain⟨hX,hg,hne⟩:=h.lt
 obtain⟨cap,c17,hc1,hc2⟩:=h.cell17 ho
 have p44:=(h.cellg (i:=k*89+44) (lt89 hk (by decide))).trans (ho.gb hk 44 rfl)
 have p50:=(h.cellg (i:=k*89+50) (lt89 hk (by decide))).trans (ho.gb hk 50 rfl)
 have p45:=(h.cellg (i:=k*89+45) (lt89 hk (by decide))).trans (ho.gb hk 45 rfl)
 have p87:=(h.cellg (i:=k*89+87) (lt89 hk (by decide))).trans (ho.gi hk 87 rfl)
 have p8:=(h.cellg (i:=k*89+8) (lt89 hk (by decide))).trans (ho.gi hk 8 rfl)
 have p31:=(h.cellg (i:=k*89+31) (lt89 hk (by decide))).trans (ho.gb hk 31 rfl)
 have p14:=(h.cellg (i:=k*89+14) (lt89 hk (by decide))).trans (ho.gi hk 14 rfl)
 have p13:=(h.cellg (i:=k*89+13) (lt89 hk (by decide))).trans (ho.gi hk 13 rfl)
 have q4:=(h.cellX ho (i:=4) (by omega)).trans (ho.hi 4 rfl)
 have q6:=(h.cellX ho (i:=6) (by omega)).trans (ho.hi 6 rfl)
 rw[h44]at p44
 rw[h50]at p50
 rw[h8]at p8
 rw[h87]at p87
 have hF1:=h.F1
 have hF2:=h.F2
 have hfr:=h.frozen
 have H:=hD h
 clear h
 have HK:=hD (tx_kind g (k*89) _ _ w p45 p87)
 go_enter Tryz.func44,Tryz.ntmps44
 go_wp2_with fail
 refine scope_hid 3 (fun J0 hJ0=>?_)
 go_wp2_with fail
 refine HK.out.mono ?_
 rintro e w1 ⟨rfl,hx1⟩
 have HX1:=hD hx1
 clear HK
 have r44:=(hx1.cell (p:=⟨g,k*89+44,none⟩) hg).trans p44
 have r50:=(hx1.cell (p:=⟨g,k*89+50,none⟩) hg).trans p50
 have r45:=(hx1.cell (p:=⟨g,k*89+45,none⟩) hg).trans p45
 have r87:=(hx1.cell (p:=⟨g,k*89+87,none⟩) hg).trans p87
 have r8:=(hx1.cell (p:=⟨g,k*89+8,none⟩) hg).trans p8
 have r31:=(hx1.cell (p:=⟨g,k*89+31,none⟩) hg).trans p31
 have r14:=(hx1.cell (p:=⟨g,k*89+14,none⟩) hg).trans p14
 have r13:=(hx1.cell (p:=⟨g,k*89+13,none⟩) hg).trans p13
 have s4:=(hx1.cell (p:=⟨X,4,none⟩) hX).trans q4
 have s6:=(hx1.cell (p:=⟨X,6,none⟩) hX).trans q6
 have d17:=(hx1.cell (p:=⟨X,17,none⟩) hX).trans c17
 have hgr:∀j,w1.frozen? ⟨g,j,none⟩=false:=fun j=>(H.out.ext hx1).frozen j
 clear hx1 c17 hfr q4 q6 p44 p50 p45 p87 p8 p31 p14 p13
 go_wp2_with fail
 try go_step3
 show J0 (Exit.goto 0) _ _
 refine jump_hid hJ0 rfl (fun J1 hJ1=>?_)
 clear hJ0
 go_wp2_with fail
 try go_step3
 show J1 (Exit.goto 2) _ _
 refine jump_hid hJ1 rfl (fun J2 hJ2=>?_)
 clear hJ1
 go_wp2_with fail
 have hfin:=(((H.out.ext HX1.out).setp (k:=k) (j:=31) hk (by decide) (.bool true)).setp (k:=k) (j:=8) hk (by decide) (.int .i64 (B.hi 4)))
 have hmut:=((((Ext.mut HX1.out (fun n=>N n∧n<w.heap.size))).setCell (p:=⟨g,k*89+31,none⟩) (.inl hF2) (.bool true)).setCell (p:=⟨g,k*89+8,none⟩) (.inl hF2) (.int .i64 (B.hi 4)))
 refine jump_ret hJ2 ?_
 go_ret
 exact⟨rfl,hfin.mono (fun n hn=>⟨hn.1,by simp only[World.size_setCell];exact nL hn.2 (Below.size HX1.out)⟩),hmut.mono (fun n _ hn=>hn.1)⟩
theorem tx_c3f(w:World)(N:Nat→Prop)(X g k:Nat)(B:Br)(h:BrG w (fun n=>N n∧n<w.heap.size) X g B)(ho:B.ok)(hk:k<B.np)(hn:B.np<1000)(h44:B.gb k 44=true)(h50:B.gb k 50=false)(h8:B.gi k 8=0)(h87:B.gi k 87=3)(h13:B.gi k 13=0):
    Calls Tryz.prog 44 #[.pointer (some ⟨X,0,none⟩),.int .i64 k] w (fun e w'=>e=.returned (.bool true)∧BrG w' (fun n=>N n∧n<w'.heap.size) X g ((B.setp k 8 (.int .i64 (B.hi 4))))∧Mut (fun n=>N n) w w'):=by
 obtain⟨hX,hg,hne⟩:=h.lt
 obtain⟨cap,c17,hc1,hc2⟩:=h.cell17 ho
 have p44:=(h.cellg (i:=k*89+44) (lt89 hk (by decide))).trans (ho.gb hk 44 rfl)
 have p50:=(h.cellg (i:=k*89+50) (lt89 hk (by decide))).trans (ho.gb hk 50 rfl)
 have p45:=(h.cellg (i:=k*89+45) (lt89 hk (by decide))).trans (ho.gb hk 45 rfl)
 have p87:=(h.cellg (i:=k*89+87) (lt89 hk (by decide))).trans (ho.gi hk 87 rfl)
 have p8:=(h.cellg (i:=k*89+8) (lt89 hk (by decide))).trans (ho.gi hk 8 rfl)
 have p31:=(h.cellg (i:=k*89+31) (lt89 hk (by decide))).trans (ho.gb hk 31 rfl)
 have p14:=(h.cellg (i:=k*89+14) (lt89 hk (by decide))).trans (ho.gi hk 14 rfl)
 have p13:=(h.cellg (i:=k*89+13) (lt89 hk (by decide))).trans (ho.gi hk 13 rfl)
 have q4:=(h.cellX ho (i:=4) (by omega)).trans (ho.hi 4 rfl)
 have q6:=(h.cellX ho (i:=6) (by omega)).trans (ho.hi 6 rfl)
 rw[h44]at p44
 rw[h50]at p50
 rw[h8]at p8
 rw[h87]at p87
 rw[h13]at p13
 have hF1:=h.F1
 have hF2:=h.F2
 have hfr:=h.frozen
 have H:=hD h
 clear h
 have HK:=hD (tx_kind g (k*89) _ _ w p45 p87)
 go_enter Tryz.func44,Tryz.ntmps44
 go_wp2_with fail
 refine scope_hid 3 (fun J0 hJ0=>?_)
 go_wp2_with fail
 refine HK.out.mono ?_
 rintro e w1 ⟨rfl,hx1⟩
 have HX1:=hD hx1
 clear HK
 have r44:=(hx1.cell (p:=⟨g,k*89+44,none⟩) hg).trans p44
 have r50:=(hx1.cell (p:=⟨g,k*89+50,none⟩) hg).trans p50
 have r45:=(hx1.cell (p:=⟨g,k*89+45,none⟩) hg).trans p45
 have r87:=(hx1.cell (p:=⟨g,k*89+87,none⟩) hg).trans p87
 have r8:=(hx1.cell (p:=⟨g,k*89+8,none⟩) hg).trans p8
 have r31:=(hx1.cell (p:=⟨g,k*89+31,none⟩) hg).trans p31
 have r14:=(hx1.cell (p:=⟨g,k*89+14,none⟩) hg).trans p14
 have r13:=(hx1.cell (p:=⟨g,k*89+13,none⟩) hg).trans p13
 have s4:=(hx1.cell (p:=⟨X,4,none⟩) hX).trans q4
 have s6:=(hx1.cell (p:=⟨X,6,none⟩) hX).trans q6
 have d17:=(hx1.cell (p:=⟨X,17,none⟩) hX).trans c17
 have hgr:∀j,w1.frozen? ⟨g,j,none⟩=false:=fun j=>(H.out.ext hx1).frozen j
 clear hx1 c17 hfr q4 q6 p44 p50 p45 p87 p8 p31 p14 p13
 go_wp2_with fail
 try go_step3
 show J0 (Exit.goto 0) _ _
 refine jump_hid hJ0 rfl (fun J1 hJ1=>?_)
 clear hJ0
 go_wp2_with fail
 try go_step3
 show J1 (Exit.goto 2) _ _
 refine jump_hid hJ1 rfl (fun J2 hJ2=>?_)
 clear hJ1
 go_wp2_with fail
 have hfin:=((H.out.ext HX1.out).setp (k:=k) (j:=8) hk (by decide) (.int .i64 (B.hi 4)))
 have hmut:=(((Ext.mut HX1.out (fun n=>N n∧n<w.heap.size))).setCell (p:=⟨g,k*89+8,none⟩) (.inl hF2) (.int .i64 (B.hi 4)))
 refine jump_ret hJ2 ?_
 go_ret
 exact⟨rfl,hfin.mono (fun n hn=>⟨hn.1,by simp only[World.size_setCell];exact nL hn.2 (Below.size HX1.out)⟩),hmut.mono (fun n _ hn=>hn.1)⟩
theorem tx_cx(w:World)(N:Nat→Prop)(X g k:Nat)(B:Br)(h:BrG w (fun n=>N n∧n<w.heap.size) X g B)(ho:B.ok)(hk:k<B.np)(hn:B.np<1000)(h44:B.gb k 44=true)(h50:B.gb k 50=false)(h8:B.gi k 8=0)(n4:(B.gi k 87 == 4)=false)(n3:(B.gi k 87 == 3)=false):
    Calls Tryz.prog 44 #[.pointer (some ⟨X,0,none⟩),.int .i64 k] w (fun e w'=>e=.returned (.bool true)∧BrG w' (fun n=>N n∧n<w'.heap.size) X g ((B.setp k 8 (.int .i64 (B.hi 4))))∧Mut (fun n=>N n) w w'):=by
 obtain⟨hX,hg,hne⟩:=h.lt
 obtain⟨cap,c17,hc1,hc2⟩:=h.cell17 ho
 have p44:=(h.cellg (i:=k*89+44) (lt89 hk (by decide))).trans (ho.gb hk 44 rfl)
 have p50:=(h.cellg (i:=k*89+50) (lt89 hk (by decide))).trans (ho.gb hk 50 rfl)
 have p45:=(h.cellg (i:=k*89+45) (lt89 hk (by decide))).trans (ho.gb hk 45 rfl)
 have p87:=(h.cellg (i:=k*89+87) (lt89 hk (by decide))).trans (ho.gi hk 87 rfl)
 have p8:=(h.cellg (i:=k*89+8) (lt89 hk (by decide))).trans (ho.gi hk 8 rfl)
 have p31:=(h.cellg (i:=k*89+31) (lt89 hk (by decide))).trans (ho.gb hk 31 rfl)
 have p14:=(h.cellg (i:=k*89+14) (lt89 hk (by decide))).trans (ho.gi hk 14 rfl)
 have p13:=(h.cellg (i:=k*89+13) (lt89 hk (by decide))).trans (ho.gi hk 13 rfl)
 have q4:=(h.cellX ho (i:=4) (by omega)).trans (ho.hi 4 rfl)
 have q6:=(h.cellX ho (i:=6) (by omega)).trans (ho.hi 6 rfl)
 rw[h44]at p44
 rw[h50]at p50
 rw[h8]at p8
 have hF1:=h.F1
 have hF2:=h.F2
 have hfr:=h.frozen
 have H:=hD h
 clear h
 have HK:=hD (tx_kind g (k*89) _ _ w p45 p87)
 go_enter Tryz.func44,Tryz.ntmps44
 go_wp2_with fail
 refine scope_hid 3 (fun J0 hJ0=>?_)
 go_wp2_with fail
 refine HK.out.mono ?_
 rintro e w1 ⟨rfl,hx1⟩
 have HX1:=hD hx1
 clear HK
 have r44:=(hx1.cell (p:=⟨g,k*89+44,none⟩) hg).trans p44
 have r50:=(hx1.cell (p:=⟨g,k*89+50,none⟩) hg).trans p50
 have r45:=(hx1.cell (p:=⟨g,k*89+45,none⟩) hg).trans p45
 have r87:=(hx1.cell (p:=⟨g,k*89+87,none⟩) hg).trans p87
 have r8:=(hx1.cell (p:=⟨g,k*89+8,none⟩) hg).trans p8
 have r31:=(hx1.cell (p:=⟨g,k*89+31,none⟩) hg).trans p31
 have r14:=(hx1.cell (p:=⟨g,k*89+14,none⟩) hg).trans p14
 have r13:=(hx1.cell (p:=⟨g,k*89+13,none⟩) hg).trans p13
 have s4:=(hx1.cell (p:=⟨X,4,none⟩) hX).trans q4
 have s6:=(hx1.cell (p:=⟨X,6,none⟩) hX).trans q6
 have d17:=(hx1.cell (p:=⟨X,17,none⟩) hX).trans c17
 have hgr:∀j,w1.frozen? ⟨g,j,none⟩=false:=fun j=>(H.out.ext hx1).frozen j
 clear hx1 c17 hfr q4 q6 p44 p50 p45 p87 p8 p31 p14 p13
 go_wp2_with fail
 try go_step3
 show J0 (Exit.goto 0) _ _
 refine jump_hid hJ0 rfl (fun J1 hJ1=>?_)
 clear hJ0
 go_wp2_with fail
 try go_step3
 show J1 (Exit.goto 2) _ _
 refine jump_hid hJ1 rfl (fun J2 hJ2=>?_)
 clear hJ1
 go_wp2_with fail
 have hfin:=((H.out.ext HX1.out).setp (k:=k) (j:=8) hk (by decide) (.int .i64 (B.hi 4)))
 have hmut:=(((Ext.mut HX1.out (fun n=>N n∧n<w.heap.size))).setCell (p:=⟨g,k*89+8,none⟩) (.inl hF2) (.int .i64 (B.hi 4)))
 refine jump_ret hJ2 ?_
 go_ret
 exact⟨rfl,hfin.mono (fun n hn=>⟨hn.1,by simp only[World.size_setCell];exact nL hn.2 (Below.size HX1.out)⟩),hmut.mono (fun n _ hn=>hn.1)⟩
theorem tx_n1(w:World)(N:Nat→Prop)(X g k:Nat)(B:Br)(h:BrG w (fun n=>N n∧n<w.heap.size) X g B)(ho:B.ok)(hk:k<B.np)(hn:B.np<1000)(h44:B.gb k 44=true)(h50:B.gb k 50=false)(n8:(B.gi k 8 == 0)=false)(ht:txTells (B.gb k 45) (B.gi k 87)=false):
    Calls Tryz.prog 44 #[.pointer (some ⟨X,0,none⟩),.int .i64 k] w (fun e w'=>e=.returned (.bool false)∧BrG w' (fun n=>N n∧n<w'.heap.size) X g (B)∧Mut (fun n=>N n) w w'):=by
 obtain⟨hX,hg,hne⟩:=h.lt
 obtain⟨cap,c17,hc1,hc2⟩:=h.cell17 ho
 have p44:=(h.cellg (i:=k*89+44) (lt89 hk (by decide))).trans (ho.gb hk 44 rfl)
 have p50:=(h.cellg (i:=k*89+50) (lt89 hk (by decide))).trans (ho.gb hk 50 rfl)
 have p45:=(h.cellg (i:=k*89+45) (lt89 hk (by decide))).trans (ho.gb hk 45 rfl)
 have p87:=(h.cellg (i:=k*89+87) (lt89 hk (by decide))).trans (ho.gi hk 87 rfl)
 have p8:=(h.cellg (i:=k*89+8) (lt89 hk (by decide))).trans (ho.gi hk 8 rfl)
 have p31:=(h.cellg (i:=k*89+31) (lt89 hk (by decide))).trans (ho.gb hk 31 rfl)
 have p14:=(h.cellg (i:=k*89+14) (lt89 hk (by decide))).trans (ho.gi hk 14 rfl)
 have p13:=(h.cellg (i:=k*89+13) (lt89 hk (by decide))).trans (ho.gi hk 13 rfl)
 have q4:=(h.cellX ho (i:=4) (by omega)).trans (ho.hi 4 rfl)
 have q6:=(h.cellX ho (i:=6) (by omega)).trans (ho.hi 6 rfl)
 rw[h44]at p44
 rw[h50]at p50
 have hF1:=h.F1
 have hF2:=h.F2
 have hfr:=h.frozen
 have H:=hD h
 clear h
 have HK0:=tx_kind g (k*89) _ _ w p45 p87
 rw[ht]at HK0
 have HK:=hD HK0
 clear HK0 ht
 go_enter Tryz.func44,Tryz.ntmps44
 go_wp2_with fail
 refine scope_hid 3 (fun J0 hJ0=>?_)
 go_wp2_with fail
 refine HK.out.mono ?_
 rintro e w1 ⟨rfl,hx1⟩
 have HX1:=hD hx1
 clear HK
 have r44:=(hx1.cell (p:=⟨g,k*89+44,none⟩) hg).trans p44
 have r50:=(hx1.cell (p:=⟨g,k*89+50,none⟩) hg).trans p50
 have r45:=(hx1.cell (p:=⟨g,k*89+45,none⟩) hg).trans p45
 have r87:=(hx1.cell (p:=⟨g,k*89+87,none⟩) hg).trans p87
 have r8:=(hx1.cell (p:=⟨g,k*89+8,none⟩) hg).trans p8
 have r31:=(hx1.cell (p:=⟨g,k*89+31,none⟩) hg).trans p31
 have r14:=(hx1.cell (p:=⟨g,k*89+14,none⟩) hg).trans p14
 have r13:=(hx1.cell (p:=⟨g,k*89+13,none⟩) hg).trans p13
 have s4:=(hx1.cell (p:=⟨X,4,none⟩) hX).trans q4
 have s6:=(hx1.cell (p:=⟨X,6,none⟩) hX).trans q6
 have d17:=(hx1.cell (p:=⟨X,17,none⟩) hX).trans c17
 have hgr:∀j,w1.frozen? ⟨g,j,none⟩=false:=fun j=>(H.out.ext hx1).frozen j
 clear hx1 c17 hfr q4 q6 p44 p50 p45 p87 p8 p31 p14 p13
 go_wp2_with fail
 go_quiet (fail)
 go_wp2_with fail
 refine jump_ret hJ0 ?_
 go_ret
 exact⟨rfl,(H.out.ext ((Ext.trans HX1.out ((Ext.refl _).drewN _)))).mono (fun n hn=>⟨hn.1,nL hn.2 (Below.size (Ext.trans HX1.out ((Ext.refl _).drewN _)))⟩),(Ext.mut (Ext.trans HX1.out ((Ext.refl _).drewN _)) _)⟩
theorem tx_n2(w:World)(N:Nat→Prop)(X g k:Nat)(B:Br)(h:BrG w (fun n=>N n∧n<w.heap.size) X g B)(ho:B.ok)(hk:k<B.np)(hn:B.np<1000)(h44:B.gb k 44=true)(h50:B.gb k 50=false)(n8:(B.gi k 8 == 0)=false)(ht:txTells (B.gb k 45) (B.gi k 87)=true)(h31:B.gb k 31=false):
    Calls Tryz.prog 44 #[.pointer (some ⟨X,0,none⟩),.int .i64 k] w (fun e w'=>e=.returned (.bool false)∧BrG w' (fun n=>N n∧n<w'.heap.size) X g (B)∧Mut (fun n=>N n) w w'):=by
 obtain⟨hX,hg,hne⟩:=h.lt
 obtain⟨cap,c17,hc1,hc2⟩:=h.cell17 ho
 have p44:=(h.cellg (i:=k*89+44) (lt89 hk (by decide))).trans (ho.gb hk 44 rfl)
 have p50:=(h.cellg (i:=k*89+50) (lt89 hk (by decide))).trans (ho.gb hk 50 rfl)
 have p45:=(h.cellg (i:=k*89+45) (lt89 hk (by decide))).trans (ho.gb hk 45 rfl)
 have p87:=(h.cellg (i:=k*89+87) (lt89 hk (by decide))).trans (ho.gi hk 87 rfl)
 have p8:=(h.cellg (i:=k*89+8) (lt89 hk (by decide))).trans (ho.gi hk 8 rfl)
 have p31:=(h.cellg (i:=k*89+31) (lt89 hk (by decide))).trans (ho.gb hk 31 rfl)
 have p14:=(h.cellg (i:=k*89+14) (lt89 hk (by decide))).trans (ho.gi hk 14 rfl)
 have p13:=(h.cellg (i:=k*89+13) (lt89 hk (by decide))).trans (ho.gi hk 13 rfl)
 have q4:=(h.cellX ho (i:=4) (by omega)).trans (ho.hi 4 rfl)
 have q6:=(h.cellX ho (i:=6) (by omega)).trans (ho.hi 6 rfl)
 rw[h44]at p44
 rw[h50]at p50
 rw[h31]at p31
 have hF1:=h.F1
 have hF2:=h.F2
 have hfr:=h.frozen
 have H:=hD h
 clear h
 have HK0:=tx_kind g (k*89) _ _ w p45 p87
 rw[ht]at HK0
 have HK:=hD HK0
 clear HK0 ht
 go_enter Tryz.func44,Tryz.ntmps44
 go_wp2_with fail
 refine scope_hid 3 (fun J0 hJ0=>?_)
 go_wp2_with fail
 refine HK.out.mono ?_
 rintro e w1 ⟨rfl,hx1⟩
 have HX1:=hD hx1
 clear HK
 have r44:=(hx1.cell (p:=⟨g,k*89+44,none⟩) hg).trans p44
 have r50:=(hx1.cell (p:=⟨g,k*89+50,none⟩) hg).trans p50
 have r45:=(hx1.cell (p:=⟨g,k*89+45,none⟩) hg).trans p45
 have r87:=(hx1.cell (p:=⟨g,k*89+87,none⟩) hg).trans p87
 have r8:=(hx1.cell (p:=⟨g,k*89+8,none⟩) hg).trans p8
 have r31:=(hx1.cell (p:=⟨g,k*89+31,none⟩) hg).trans p31
 have r14:=(hx1.cell (p:=⟨g,k*89+14,none⟩) hg).trans p14
 have r13:=(hx1.cell (p:=⟨g,k*89+13,none⟩) hg).trans p13
 have s4:=(hx1.cell (p:=⟨X,4,none⟩) hX).trans q4
 have s6:=(hx1.cell (p:=⟨X,6,none⟩) hX).trans q6
 have d17:=(hx1.cell (p:=⟨X,17,none⟩) hX).trans c17
 have hgr:∀j,w1.frozen? ⟨g,j,none⟩=false:=fun j=>(H.out.ext hx1).frozen j
 clear hx1 c17 hfr q4 q6 p44 p50 p45 p87 p8 p31 p14 p13
 go_wp2_with fail
 go_quiet (fail)
 go_wp2_with fail
 refine jump_ret hJ0 ?_
 go_ret
 exact⟨rfl,(H.out.ext ((Ext.trans HX1.out ((Ext.refl _).drewN _)))).mono (fun n hn=>⟨hn.1,nL hn.2 (Below.size (Ext.trans HX1.out ((Ext.refl _).drewN _)))⟩),(Ext.mut (Ext.trans HX1.out ((Ext.refl _).drewN _)) _)⟩
theorem tx_n3(w:World)(N:Nat→Prop)(X g k:Nat)(B:Br)(h:BrG w (fun n=>N n∧n<w.heap.size) X g B)(ho:B.ok)(hk:k<B.np)(hn:B.np<1000)(h44:B.gb k 44=true)(h50:B.gb k 50=false)(n8:(B.gi k 8 == 0)=false)(ht:txTells (B.gb k 45) (B.gi k 87)=true)(h31:B.gb k 31=true)(hlt:¬B.gi k 14<B.hi 6):
    Calls Tryz.prog 44 #[.pointer (some ⟨X,0,none⟩),.int .i64 k] w (fun e w'=>e=.returned (.bool false)∧BrG w' (fun n=>N n∧n<w'.heap.size) X g (B)∧Mut (fun n=>N n) w w'):=by
 obtain⟨hX,hg,hne⟩:=h.lt
 obtain⟨cap,c17,hc1,hc2⟩:=h.cell17 ho
 have p44:=(h.cellg (i:=k*89+44) (lt89 hk (by decide))).trans (ho.gb hk 44 rfl)
 have p50:=(h.cellg (i:=k*89+50) (lt89 hk (by decide))).trans (ho.gb hk 50 rfl)
 have p45:=(h.cellg (i:=k*89+45) (lt89 hk (by decide))).trans (ho.gb hk 45 rfl)
 have p87:=(h.cellg (i:=k*89+87) (lt89 hk (by decide))).trans (ho.gi hk 87 rfl)
 have p8:=(h.cellg (i:=k*89+8) (lt89 hk (by decide))).trans (ho.gi hk 8 rfl)
 have p31:=(h.cellg (i:=k*89+31) (lt89 hk (by decide))).trans (ho.gb hk 31 rfl)
 have p14:=(h.cellg (i:=k*89+14) (lt89 hk (by decide))).trans (ho.gi hk 14 rfl)
 have p13:=(h.cellg (i:=k*89+13) (lt89 hk (by decide))).trans (ho.gi hk 13 rfl)
 have q4:=(h.cellX ho (i:=4) (by omega)).trans (ho.hi 4 rfl)
 have q6:=(h.cellX ho (i:=6) (by omega)).trans (ho.hi 6 rfl)
 rw[h44]at p44
 rw[h50]at p50
 rw[h31]at p31
 have hF1:=h.F1
 have hF2:=h.F2
 have hfr:=h.frozen
 have H:=hD h
 clear h
 have HK0:=tx_kind g (k*89) _ _ w p45 p87
 rw[ht]at HK0
 have HK:=hD HK0
 clear HK0 ht
 have hlt2:decide (B.gi k 14<B.hi 6)=false:=by simpa using hlt
 go_enter Tryz.func44,Tryz.ntmps44
 go_wp2_with fail
 refine scope_hid 3 (fun J0 hJ0=>?_)
 go_wp2_with fail
 refine HK.out.mono ?_
 rintro e w1 ⟨rfl,hx1⟩
 have HX1:=hD hx1
 clear HK
 have r44:=(hx1.cell (p:=⟨g,k*89+44,none⟩) hg).trans p44
 have r50:=(hx1.cell (p:=⟨g,k*89+50,none⟩) hg).trans p50
 have r45:=(hx1.cell (p:=⟨g,k*89+45,none⟩) hg).trans p45
 have r87:=(hx1.cell (p:=⟨g,k*89+87,none⟩) hg).trans p87
 have r8:=(hx1.cell (p:=⟨g,k*89+8,none⟩) hg).trans p8
 have r31:=(hx1.cell (p:=⟨g,k*89+31,none⟩) hg).trans p31
 have r14:=(hx1.cell (p:=⟨g,k*89+14,none⟩) hg).trans p14
 have r13:=(hx1.cell (p:=⟨g,k*89+13,none⟩) hg).trans p13
 have s4:=(hx1.cell (p:=⟨X,4,none⟩) hX).trans q4
 have s6:=(hx1.cell (p:=⟨X,6,none⟩) hX).trans q6
 have d17:=(hx1.cell (p:=⟨X,17,none⟩) hX).trans c17
 have hgr:∀j,w1.frozen? ⟨g,j,none⟩=false:=fun j=>(H.out.ext hx1).frozen j
 clear hx1 c17 hfr q4 q6 p44 p50 p45 p87 p8 p31 p14 p13
 go_wp2_with fail
 go_quiet (fail)
 go_wp2_with fail
 refine jump_ret hJ0 ?_
 go_ret
 exact⟨rfl,(H.out.ext ((Ext.trans HX1.out ((Ext.refl _).drewN _)))).mono (fun n hn=>⟨hn.1,nL hn.2 (Below.size (Ext.trans HX1.out ((Ext.refl _).drewN _)))⟩),(Ext.mut (Ext.trans HX1.out ((Ext.refl _).drewN _)) _)⟩
theorem tx_news(w:World)(N:Nat→Prop)(X g k:Nat)(B:Br)(h:BrG w (fun n=>N n∧n<w.heap.size) X g B)(ho:B.ok)(hk:k<B.np)(hn:B.np<1000)(hQ:∀n,w.heap.size≤n→N n)(h44:B.gb k 44=true)(h50:B.gb k 50=false)(n8:(B.gi k 8 == 0)=false)(ht:txTells (B.gb k 45) (B.gi k 87)=true)(h31:B.gb k 31=true)(hlt:B.gi k 14<B.hi 6)(h14:0≤B.gi k 14∧B.gi k 14≤100000)(hno:B.no≤100000):
    Calls Tryz.prog 44 #[.pointer (some ⟨X,0,none⟩),.int .i64 k] w (fun e w'=>e=.returned (.bool true)∧BrG w' (fun n=>N n∧n<w'.heap.size) X g (txNews B k)∧Mut (fun n=>N n) w w'):=by
 obtain⟨hX,hg,hne⟩:=h.lt
 obtain⟨cap,c17,hc1,hc2⟩:=h.cell17 ho
 have p44:=(h.cellg (i:=k*89+44) (lt89 hk (by decide))).trans (ho.gb hk 44 rfl)
 have p50:=(h.cellg (i:=k*89+50) (lt89 hk (by decide))).trans (ho.gb hk 50 rfl)
 have p45:=(h.cellg (i:=k*89+45) (lt89 hk (by decide))).trans (ho.gb hk 45 rfl)
 have p87:=(h.cellg (i:=k*89+87) (lt89 hk (by decide))).trans (ho.gi hk 87 rfl)
 have p8:=(h.cellg (i:=k*89+8) (lt89 hk (by decide))).trans (ho.gi hk 8 rfl)
 have p31:=(h.cellg (i:=k*89+31) (lt89 hk (by decide))).trans (ho.gb hk 31 rfl)
 have p14:=(h.cellg (i:=k*89+14) (lt89 hk (by decide))).trans (ho.gi hk 14 rfl)
 have p13:=(h.cellg (i:=k*89+13) (lt89 hk (by decide))).trans (ho.gi hk 13 rfl)
 have q4:=(h.cellX ho (i:=4) (by omega)).trans (ho.hi 4 rfl)
 have q6:=(h.cellX ho (i:=6) (by omega)).trans (ho.hi 6 rfl)
 rw[h44]at p44
 rw[h50]at p50
 rw[h31]at p31
 have hF1:=h.F1
 have hF2:=h.F2
 have hfr:=h.frozen
 have H:=hD h
 clear h
 have HK0:=tx_kind g (k*89) _ _ w p45 p87
 rw[ht]at HK0
 have HK:=hD HK0
 clear HK0 ht
 have hlt2:decide (B.gi k 14<B.hi 6)=true:=by simpa using hlt
 go_enter Tryz.func44,Tryz.ntmps44
 go_wp2_with fail
 refine scope_hid 3 (fun J0 hJ0=>?_)
 go_wp2_with fail
 refine HK.out.mono ?_
 rintro e w1 ⟨rfl,hx1⟩
 have HX1:=hD hx1
 clear HK
 have r44:=(hx1.cell (p:=⟨g,k*89+44,none⟩) hg).trans p44
 have r50:=(hx1.cell (p:=⟨g,k*89+50,none⟩) hg).trans p50
 have r45:=(hx1.cell (p:=⟨g,k*89+45,none⟩) hg).trans p45
 have r87:=(hx1.cell (p:=⟨g,k*89+87,none⟩) hg).trans p87
 have r8:=(hx1.cell (p:=⟨g,k*89+8,none⟩) hg).trans p8
 have r31:=(hx1.cell (p:=⟨g,k*89+31,none⟩) hg).trans p31
 have r14:=(hx1.cell (p:=⟨g,k*89+14,none⟩) hg).trans p14
 have r13:=(hx1.cell (p:=⟨g,k*89+13,none⟩) hg).trans p13
 have s4:=(hx1.cell (p:=⟨X,4,none⟩) hX).trans q4
 have s6:=(hx1.cell (p:=⟨X,6,none⟩) hX).trans q6
 have d17:=(hx1.cell (p:=⟨X,17,none⟩) hX).trans c17
 have hgr:∀j,w1.frozen? ⟨g,j,none⟩=false:=fun j=>(H.out.ext hx1).frozen j
 clear hx1 c17 hfr q4 q6 p44 p50 p45 p87 p8 p31 p14 p13
 go_wp2_with fail
 go_quiet (fail)
 go_wp2_with fail
 try go_step3
 show J0 (Exit.goto 1) _ _
 refine jump_hid hJ0 rfl (fun J1 hJ1=>?_)
 clear hJ0
 go_wp2_with fail
 have HXn:∀q,Ext w (w1.drewN q):=fun q=>Ext.trans HX1.out ((Ext.refl _).drewN q)
 clear hgr d17 r44 r50 r45 r87 r8 r31 r14 r13 s4 s6
 refine(tx_send _ (fun n=>N n∧n<w.heap.size) X g k B (txKind (B.gb k 45) (B.gi k 87)) (H.out.ext (HXn _)) ho hk hn h14 hno).mono ?_
 rintro e w2 ⟨rfl,hB2,hM2⟩
 have okS:=txSend_ok ho hk (by omega:k<1000) (txKind (B.gb k 45) (B.gi k 87)) h14
 have hkS:k<(txSend B k (txKind (B.gb k 45) (B.gi k 87))).np:=by rw[txSend_np];exact hk
 have HB2:=hD hB2
 have HM2:=hD ((Ext.mut (HXn _) (fun n=>N n∧n<w.heap.size)).trans hM2)
 have hsz:w.heap.size≤w2.heap.size:=Nat.le_trans (Below.size (HXn _)) hM2.2.2.2.1
 have HMo:=hD (show BrG w2 (fun n=>N n∧n<w2.heap.size) X g (txSend B k (txKind (B.gb k 45) (B.gi k 87)))from hB2.mono (fun n hn=>hn.elim (fun hn=>⟨hn.1,by have:=hn.2;omega⟩) (fun hn=>⟨hQ n (Nat.le_trans (Below.size (HXn _)) hn.1),hn.2⟩)))
 clear hB2 hM2 hsz
 obtain⟨hX2,hg2,hne2⟩:=HMo.out.lt
 have t4:=(HMo.out.cellX okS (i:=4) (by omega)).trans (okS.hi 4 rfl)
 rw[show(txSend B k (txKind (B.gb k 45) (B.gi k 87))).hi 4=B.hi 4 by unfold Br.hi;rw[txSend_hd]]at t4
 have t8:=(HMo.out.cellg (i:=k*89+8) (lt89 hkS (by decide))).trans (okS.gi hkS 8 rfl)
 have hf2:=HMo.out.frozen
 have hfin:=hD (HMo.out.setp (k:=k) (j:=8) hkS (by decide) (.int .i64 (B.hi 4)))
 have hmut:=hD (HM2.out.setCell (p:=⟨g,k*89+8,none⟩) (.inl hF2) (.int .i64 (B.hi 4)))
 go_wp2_with fail
 try go_step3
 go_wp2_with fail
 refine jump_ret hJ1 ?_
 go_ret
 exact⟨rfl,hfin.out.mono (fun n hn=>⟨hn.1,by simp only[World.size_setCell];exact hn.2⟩),hmut.out.mono (fun n _ hn=>hn.1)⟩
theorem tx_stepW(w:World)(N:Nat→Prop)(X g k:Nat)(B:Br)(h:BrG w (fun n=>N n∧n<w.heap.size) X g B)(ho:B.ok)(hk:k<B.np)(hn:B.np<1000)(hQ:∀n,w.heap.size≤n→N n)(h14:0≤B.gi k 14∧B.gi k 14≤100000)(hno:B.no≤100000):
    Calls Tryz.prog 44 #[.pointer (some ⟨X,0,none⟩),.int .i64 k] w fun e w'=>e=.returned (.bool (txF B k).1)∧BrG w' (fun n=>N n∧n<w'.heap.size) X g (txF B k).2∧Mut (fun n=>N n) w w':=by
 unfold txF txSel
 cases h44:B.gb k 44
 ·exact tx_s0 w N X g k B h ho hk hn h44
 cases h50:B.gb k 50
 case true=>exact tx_s0b w N X g k B h ho hk hn h44 h50
 rw[if_neg (show ¬((!true || false)=true) by simp)]
 by_cases h8:B.gi k 8=0
 ·rw [if_pos h8]
  unfold txClock
  by_cases h4:B.gi k 87=4
  ·rw[h4]
   exact tx_c4 w N X g k B h ho hk hn h44 h50 h8 h4
  by_cases h3:B.gi k 87=3
  ·rw [h3]
   by_cases h13:B.gi k 13=0
   ·rw[h13]
    exact tx_c3f w N X g k B h ho hk hn h44 h50 h8 h3 h13
   ·have h13b:(B.gi k 13 != 0)=true:=by simpa using h13
    rw[h13b]
    exact tx_c3t w N X g k B h ho hk hn h44 h50 h8 h3 h13b
  have n4:(B.gi k 87 == 4)=false:=by simpa using h4
  have n3:(B.gi k 87 == 3)=false:=by simpa using h3
  rw[n4,n3]
  exact tx_cx w N X g k B h ho hk hn h44 h50 h8 n4 n3
 have n8:(B.gi k 8 == 0)=false:=by simpa using h8
 rw[if_neg h8]
 cases ht:txTells (B.gb k 45) (B.gi k 87)
 ·exact tx_n1 w N X g k B h ho hk hn h44 h50 n8 ht
 cases h31:B.gb k 31
 ·exact tx_n2 w N X g k B h ho hk hn h44 h50 n8 ht h31
 by_cases hlt:B.gi k 14<B.hi 6
 ·have e:decide (B.gi k 14<B.hi 6)=true:=by simpa using hlt
  rw[e]
  exact tx_news w N X g k B h ho hk hn hQ h44 h50 n8 ht h31 hlt h14 hno
 ·have e:decide (B.gi k 14<B.hi 6)=false:=by simpa using hlt
  rw[e]
  exact tx_n3 w N X g k B h ho hk hn h44 h50 n8 ht h31 hlt
end Go.Proofs.YtpanapepcbbagaaGreat
