/- Part 9 of what BridgeRests stands on. No statement is proved here. -/
import Derived.Test.YtpanapepcbbagaaGreatBxh
set_option linter.unusedVariables false
set_option linter.unusedSimpArgs false
set_option maxRecDepth 100000
set_option maxHeartbeats 8000000
namespace Go.Proofs.YtpanapepcbbagaaGreat
open Go.RowKit Go.BigFrame Go.WideShapes Go.ChangeShapes Go.WideElems Go.ChangeAt Go.Deep
theorem ownK:ownKnob Tryz.prog.godebug=none:=by kernel_rfl
theorem aKR{H:Type}{enc:TypeId × Value→H}{P:Program}{f:Func}{s:ChangeSpec}{apart fresh handsOn again:Bool}{W W':World}{args:Array Value}{v:Value}{ds gs:List (DataW H)}{before pa pv:List MemPlace}(hW:DataW.Whole enc P f.params.toList s.vars apart W args.toList ds gs before)(hres:∀(b:Nat) (sp:Nat→Bool) (hd:Bool),DataW.TrodAll enc P W' b sp hd f.resultTypes.toList (v.resultList f.resultTypes.size) (s.fn H (ds++gs)).results [])(hargs:∀sp:Nat→Bool,(∀p∈before,sp p.block=true)→DataW.TrodAll enc P W' 0 sp true f.params.toList args.toList (s.fn H (ds++gs)).args pa)(hvars:∀sp:Nat→Bool,(∀p∈before,sp p.block=true)→DataW.TrodVars enc P W' sp s.vars (s.fn H (ds++gs)).vars pv)(hps:before=pa++pv)(hb:Below W.heap.size W W')(hok:∀(j:Nat) (t:TypeId) (r:Value),f.resultTypes[j]?=some t→(v.resultList f.resultTypes.size)[j]?=some r→Value.okWide P W' .any 0 t r):
    s.post enc P f apart fresh handsOn again W args v W':=by
 have lt:∀p∈before,p.block<W.heap.size:=fun p hp=>hW.lt p hp
 have old:∀p∈before,(fun b=>decide (b<W.heap.size)) p.block=true:=fun p hp=>decide_eq_true (lt p hp)
 have keep:W.keptBut W' fun p=>p∈before∧(p∈([]:List MemPlace)∨p∈pa++pv) :=
  World.keptBut_mono (fun p hp=>⟨hp,Or.inr (hps▸hp)⟩) (hb.frame (·∈before))
 refine⟨ds,gs,before,[],pa,pv,hW,hres _ _ _,hargs _ old,hvars _ old,?_,fun _=>?_⟩
 ·refine World.keptBut_mono (fun p hp=>⟨hp.1,?_⟩) keep
  rcases List.mem_append.1 (hps▸hp.1)with h|h
  ·exact Or.inr (Or.inl h)
  ·exact Or.inr (Or.inr h)
 ·obtain ⟨_,_,_,_,_,hz,hn⟩:=hW
  refine⟨hok,_,_,([]++pa)++pv,⟨[]++pa,pv,trodAll_append (hargs _ (fun _ _=>rfl)) (hres _ _ _),hvars _ (fun _ _=>rfl),rfl,?_,?_⟩,?_⟩
  ·intro b off hp
   have hin:MemPlace.cell b off∈before:=by rw[hps];simpa using hp
   rw[hb.frozen (lt _ hin)]
   exact hz b off hin
  ·intro ha
   have:=hn ha
   rw[hps]at this
   simpa using this
  ·intro p hp _
   rw[hps]
   simpa using hp
theorem rX{H:Type}{enc:TypeId × Value→H}{P:Program}(hl:laidOutB P=true){W W':World}(hb:Ext W W')(sp:Nat→Bool):
    ∀ (ts:List TypeId) (vs:List Value) (ds:List (DataW H)) (ps:List MemPlace),(ts.all fun t=>P.readableRec t && decide (t<P.types.size))=true →
     DataW.TrodAll enc P W 0 (fun _=>true) true ts vs ds ps→(∀p∈ps,p.block<W.heap.size)→(∀p∈ps,sp p.block=true)→DataW.TrodAll enc P W' 0 sp true ts vs ds ps
 | [],vs,ds,ps,_,h,_,_=>by
  obtain⟨rfl,rfl,rfl⟩:=trodAll_nil h
  exact trodAll_mk0
 | t :: ts,vs,ds,ps,hts,h,hlt,hsp=>by
  simp only[List.all_cons,Bool.and_eq_true,decide_eq_true_eq]at hts
  obtain⟨v,vs',d,ds',p,q,rfl,rfl,rfl,h0,r0⟩:=trodAll_cons h
  refine trodAll_cons_mk (Trod_stays hl hts.1.1 hts.1.2 h0 (fun x hx=>Below.same hb (hlt x (by simp[hx]))) (fun x hx=>hsp x (by simp[hx]))) ?_
  exact rX hl hb sp ts vs' ds' q (by simpa using hts.2) r0 (fun x hx=>hlt x (by simp[hx])) (fun x hx=>hsp x (by simp[hx]))
theorem ends{H:Type}{enc:TypeId × Value→H}{P:Program}{k:FuncId}{f:Func}{s:ChangeSpec}{tb:TypeId}(hl:laidOutB P=true)(hts:(f.params.toList.all fun t=>P.readableRec t && decide (t<P.types.size))=true)(hv:s.vars=[])(hres:f.resultTypes=#[tb])(htb:P.underlying tb=some .bool){W:World}{args:Array Value}{ds gs:List (DataW H)}{before:List MemPlace}(hW:DataW.Whole enc P f.params.toList s.vars false W args.toList ds gs before)(hspec:s.fn H (ds++gs)={ results:=[.lit (.bool true)],args:=ds })(walk:Calls P k args W fun e w'=>e=.returned (.bool true)∧Ext W w'):
    Calls P k args W fun e W'=>∃v,e=.returned v∧s.post enc P f false true false false W args v W':=by
 refine walk.mono fun e W' ⟨he,hb⟩=>⟨_,he,?_⟩
 have hW':=hW
 obtain⟨p,q,hA,hV,rfl,_,_⟩:=hW
 have hV':=hV
 rw[hv]at hV
 obtain⟨rfl,rfl⟩:=trodVars_none hV
 refine aKR (pa:=p) (pv:=[]) hW' ?_ ?_ ?_ rfl hb (ok_one hres rfl (okWide_bool_mk htb _))
 ·intro b sp hd
  rw[hspec,hres]
  exact trodAll_cons_mk (shut_bool htb _) trodAll_mk0
 ·intro sp hsp
  rw[hspec]
  exact rX hl hb sp _ _ _ _ hts hA (fun x hx=>hW'.lt x (by simp[hx])) (fun x hx=>hsp x (by simp[hx]))
 ·intro sp _
  rw[hspec,hv]
  rfl
theorem laidO:laidOutB Tryz.prog=true:=by kernel_rfl
section
variable {P:Program}
variable {H:Type} {enc:TypeId × Value→H} {w:World} {base:Nat} {spare:Nat→Bool} {held:Bool}
def oA(F:TypeId→Option (List (Option IntKind))):List Field→Nat→Option (List (Option IntKind))
 | [],_=>some []
 | f :: fs, off => if f.name ≠ "_" ∧ f.offset = off then (F f.type).bind fun l => (oA F fs (off + l.length)).map (l ++ ·) else none
def tE(P:Program):Nat→TypeId→Option (List (Option IntKind))
 | 0,_=>none
 | d+1,t =>
  match P.underlying t with
  | some .bool=>if(P.info? t).map (·.size)=some 1 then some [none]else none
  | some (.int k)=>if(P.info? t).map (·.size)=some 1 then some [some k]else none
  | some (.struct fs)=>(oA (tE P d) fs.toList 0).bind fun l=>if P.stoodInHeld t=false∧(P.info? t).map (·.size)=some l.length then some l else none
  | _=>none
theorem Typed.part{l l2:List (Option IntKind)}{cs:List Value}(h:Typed (l++l2) cs):Typed l (cs.take l.length)∧Typed l2 (cs.drop l.length):=by
 have hlen:cs.length=l.length+l2.length:=by simpa using h.1
 refine⟨⟨by simp;omega,fun j k hj=>?_⟩,⟨by simp;omega,fun j k hj=>?_⟩⟩
 ·have hl:j<l.length:=(List.getElem?_eq_some_iff.1 hj).1
  obtain⟨v,hv,ho⟩:=h.2 j k (by rw[List.getElem?_append_left hl];exact hj)
  exact⟨v,by rw[List.getElem?_take];simp[hl,hv],ho⟩
 ·obtain⟨v,hv,ho⟩:=h.2 (l.length+j) k (by rw[List.getElem?_append_right (by omega)];simpa using hj)
  exact⟨v,by simpa using hv,ho⟩
theorem yY{F:TypeId→Option (List (Option IntKind))}{f:Field}{fs:List Field}{off:Nat}{l:List (Option IntKind)}(h:oA F (f :: fs) off=some l):
    f.name ≠ "_" ∧ f.offset = off ∧ ∃ l1 l2, F f.type = some l1 ∧ oA F fs (off + l1.length) = some l2 ∧ l = l1 ++ l2 := by
 simp only[oA]at h
 split at h
 ·rename_i hc
  obtain⟨l1,h1,h2⟩:=Option.bind_eq_some_iff.1 h
  obtain⟨l2,h3,h4⟩:=Option.map_eq_some_iff.1 h2
  exact⟨hc.1,hc.2,l1,l2,h1,h3,h4.symm⟩
 ·cases h
theorem yZ{d:Nat}{t:TypeId}{fs:Array Field}{l:List (Option IntKind)}(hu:P.underlying t=some (.struct fs))(h:tE P (d+1) t=some l):
    oA (tE P d) fs.toList 0=some l∧P.stoodInHeld t=false∧(P.info? t).map (·.size)=some l.length:=by
 simp only[tE,hu]at h
 obtain⟨l1,h1,h2⟩:=Option.bind_eq_some_iff.1 h
 split at h2
 ·rename_i hc
  cases h2
  exact⟨h1,hc.1,hc.2⟩
 ·cases h2
theorem aFV{d:Nat}{t:TypeId}{l:List (Option IntKind)}(h:tE P d t=some l):(P.info? t).map (·.size)=some l.length:=by
 cases d with
 | zero=>simp[tE]at h
 | succ d =>
  cases hu:P.underlying t with
  | none=>simp[tE,hu]at h
  | some q =>
   cases q<;>simp[tE,hu]at h
   case bool=>obtain⟨h1,rfl⟩:=h;simpa using h1
   case int=>obtain⟨h1,rfl⟩:=h;simpa using h1
   case struct fs =>
    obtain⟨l1,h1,h2⟩:=Option.bind_eq_some_iff.1 h
    split at h2
    ·rename_i hc
     cases h2
     simpa using hc.2
    ·cases h2
theorem nR{d:Nat}{t:TypeId}{l:List (Option IntKind)}(h:tE P d t=some l):P.cellsOf t=l.length:=by
 simp[Program.cellsOf,aFV h]
theorem vX{d n:Nat}{cs:List Value}(IH:∀(t:TypeId) (l:List (Option IntKind)) (cs:List Value) (x:DataW H × List MemPlace),tE P d t=some l→DataW.trod enc P w base spare held n t cs=some x→Typed l cs):
    ∀(fs:List Field) (off:Nat) (l:List (Option IntKind)),oA (tE P d) fs off=some l→(∀f∈fs,∃y,DataW.trod enc P w base spare held n f.type ((cs.drop f.offset).take (P.cellsOf f.type))=some y)→Typed l ((cs.drop off).take l.length)
 | [],off,l,h,_=>by
  simp only[oA]at h
  cases h
  exact⟨by simp,fun j k hj=>by simp at hj⟩
 | f :: fs,off,l,h,hy=>by
  obtain⟨_,ho,l1,l2,h1,h2,rfl⟩:=yY h
  obtain⟨y,hy1⟩:=hy f (by simp)
  have t1:=IH f.type l1 _ y h1 hy1
  rw[nR h1,ho]at t1
  have t2:=vX IH fs (off+l1.length) l2 h2 (fun g hg=>hy g (by simp[hg]))
  have:=t1.append t2
  rw[List.length_append,List.take_add,List.drop_drop]
  exact this
theorem qF:∀(d:Nat) (t:TypeId) (l:List (Option IntKind)) (n:Nat) (cs:List Value) (x:DataW H × List MemPlace),tE P d t=some l→DataW.trod enc P w base spare held n t cs=some x→Typed l cs
 | 0,_,_,_,_,_,h,_=>by simp[tE]at h
 | d+1,t,l,n,cs,x,h,hx=>by
  cases hu:P.underlying t with
  | none=>simp[tE,hu]at h
  | some q =>
   have h':=h
   cases q<;>simp[tE,hu]at h
   case bool =>
    obtain⟨_,rfl⟩:=h
    obtain⟨b,rfl,_⟩:=DataW.trod_bool hu hx
    refine⟨rfl,fun j k hj=>?_⟩
    match j,hj with
    | 0,hj=>cases hj;exact⟨_,rfl,b,rfl⟩
   case int k =>
    obtain⟨_,rfl⟩:=h
    obtain⟨z,rfl,_,hz⟩:=DataW.trod_int hu hx
    refine⟨rfl,fun j k' hj=>?_⟩
    match j,hj with
    | 0,hj=>cases hj;exact⟨_,rfl,z,rfl,hz⟩
   case struct fs =>
    obtain⟨h1,_,hz⟩:=yZ hu h'
    obtain⟨xs,m,_,_,hl,hlen,hf⟩:=DataW.trod_struct hu hx
    have hl':cs.length=l.length:=by rw[hl];exact nR h'
    have:=vX (cs:=cs) (fun t l cs x h hx=>qF d t l m cs x h hx) fs.toList 0 l h1 (fun f hf'=>by
     obtain⟨i,hi,rfl⟩:=List.getElem_of_mem hf'
     have hi':i<fs.size:=by simpa using hi
     have:=hf i fs[i] (by simp[hi'])
     rw[List.getElem?_eq_getElem (by omega)]at this
     exact⟨_,this⟩)
    rw[List.drop_zero,List.take_of_length_le (by omega)]at this
    exact this
end
section
variable {P:Program} {H:Type} {enc:TypeId × Value→H} {w:World}
theorem vY{d n:Nat}{t e:TypeId}{l:List (Option IntKind)}{c:Value}{x:DataW H × List MemPlace}(ht:P.underlying t=some (.slice e))(he:tE P d e=some l)(hl:0<l.length)(h:DataW.trod enc P w 0 (fun _=>true) true n t [c]=some x):∃m xs,IsRow w l.length c m xs∧RowTyped l m xs:=by
 rcases DataW.trod_slice ht h with ⟨hc,_⟩|⟨a,len,cap,elems,rest,k,_,hc,_,_,hlc,hm,hlen,hel,_,_⟩
 ·refine⟨0,[],⟨by simp,.inl ⟨rfl,.inl (by simpa using hc)⟩⟩,by simp,fun i hi=>by omega⟩
 ·have hc':c=.slice (some a) len cap:=by simpa using hc
  rw[nR he]at hel
  by_cases h0:len=0
  ·subst h0
   exact⟨0,[],⟨by simp,.inl ⟨rfl,.inr ⟨a,cap,hc'⟩⟩⟩,by simp,fun i hi=>by omega⟩
  ·have each:∀i,i<len→∃cs,(∀j,j<l.length→w.cell? ((a.add (i*l.length)).add j)=cs[j]?)∧Typed l cs:=by
    intro i hi
    have:=hel i hi
    rw[List.getElem?_eq_getElem (by omega)]at this
    obtain⟨cs,h1,h2⟩:=Option.bind_eq_some_iff.1 this
    obtain⟨_,_,h3⟩:=World.cells?_some h1
    exact⟨cs,h3,qF d e l k cs _ he h2⟩
   obtain⟨b,off,spot⟩:=a
   have hspot:spot=none:=by
    obtain⟨cs,h1,h2⟩:=each 0 (by omega)
    have:=h1 0 hl
    obtain⟨v,hv⟩:∃v,cs[0]?=some v:=⟨cs[0]'(by rw[h2.1];exact hl),by simp⟩
    rw[hv]at this
    simpa[Addr.add]using World.cell?_spot this
   subst hspot
   have cell:∀i,i<len→∃cs,(∀j,j<l.length→w.cell? ⟨b,off+(i*l.length+j),none⟩=cs[j]?)∧Typed l cs:=by
    intro i hi
    obtain⟨cs,h1,h2⟩:=each i hi
    refine⟨cs,fun j hj=>?_,h2⟩
    have:=h1 j hj
    rw[Addr.add_mid,Addr.add_mid,Nat.add_assoc]at this
    exact this
   have hb:b<w.heap.size:=by
    obtain⟨cs,h1,h2⟩:=cell 0 (by omega)
    have:=h1 0 hl
    obtain⟨v,hv⟩:∃v,cs[0]?=some v:=⟨cs[0]'(by rw[h2.1];exact hl),by simp⟩
    rw[hv]at this
    exact World.block_lt_of_cell? w _ this
   have part:∀i,i<len→Typed l ((((List.range (len*l.length)).map fun j=>(w.cell? ⟨b,off+j,none⟩).getD undef).drop (i*l.length)).take l.length)∧∀j,j<l.length→∃v,w.cell? ⟨b,off+(i*l.length+j),none⟩=some v:=by
    intro i hi
    obtain⟨cs,h1,h2⟩:=cell i hi
    have hle:(i+1)*l.length≤len*l.length:=Nat.mul_le_mul_right _ hi
    rw[Nat.add_mul,Nat.one_mul]at hle
    have e:(((List.range (len*l.length)).map fun j=>(w.cell? ⟨b,off+j,none⟩).getD undef).drop (i*l.length)).take l.length=cs:=by
     apply List.ext_getElem?
     intro j
     by_cases hj:j<l.length
     ·have hr:i*l.length+j<len*l.length:=by omega
      rw[List.getElem?_take,if_pos hj,List.getElem?_drop,List.getElem?_map,List.getElem?_range hr]
      simp only[Option.map_some]
      rw[h1 j hj,List.getElem?_eq_getElem (by rw[h2.1];exact hj)]
      rfl
     ·rw[List.getElem?_eq_none (by simp;omega),List.getElem?_eq_none (by rw[h2.1];omega)]
    refine⟨e▸h2,fun j hj=>⟨cs[j]'(by rw[h2.1];exact hj),?_⟩⟩
    rw[h1 j hj]
    simp
   refine⟨len,(List.range (len*l.length)).map fun j=>(w.cell? ⟨b,off+j,none⟩).getD undef,⟨by simp,.inr ⟨b,off,cap,hc',by omega,hlc,hm,hb,fun j v hv=>?_⟩⟩,by simp,fun i hi=>(part i hi).1⟩
   have hj:j<len*l.length:=by simpa using(List.getElem?_eq_some_iff.1 hv).1
   have hi:j / l.length<len:=Nat.div_lt_of_lt_mul (by rw[Nat.mul_comm];exact hj)
   obtain⟨u,hu⟩:=(part _ hi).2 (j % l.length) (Nat.mod_lt _ hl)
   have e:j / l.length*l.length+j % l.length=j:=by rw[Nat.mul_comm];exact Nat.div_add_mod j _
   rw[e]at hu
   simp[List.getElem?_map,List.getElem?_range hj,hu]at hv
   rw[hu,hv]
end
theorem y6(h:Pt)(l:List Pt):rU (h :: l)=h.L++rU l:=by simp[rU]
def SusAt(w:World)(v:Value)(L:List Pt):Prop:=∃a cap,v=.slice a L.length cap∧L.length≤9223372036854775807∧(0<L.length→∃b off,a=some ⟨b,off,none⟩∧b<w.heap.size∧L.length≤cap∧cap≤9223372036854775807∧w.rangeAt b off (rU L))
theorem SusAt.pts{w:World}{v:Value}{L:List Pt}(h:SusAt w v L)(hL:L.length≤1000):PtsAt w v L:=by
 obtain⟨a,cap,e,hm,hf⟩:=h
 refine⟨a,cap,e,by omega,fun h0=>?_⟩
 obtain⟨b,off,e1,hb,h1,h2,h3⟩:=hf h0
 refine⟨b,off,e1,hb,h1,h2,fun i hi j v hv=>?_⟩
 have h4:=h3 (i*5+j) v (mV Pt.L 5 (fun _=>rfl) default L i j v hi hv)
 rw[Nat.add_assoc]
 exact h4
theorem aKS:tE Tryz.prog 6 76=some [some .u16,some .u32,none,none,none]:=by kernel_rfl
theorem aFW:∀(m:Nat) (xs:List Value),RowTyped [some .u16,some .u32,none,none,none] m xs→∃L:List Pt,L.length=m∧rU L=xs∧∀h∈L,PtR h
 | 0,xs,h=>⟨[],rfl,by
     have:=h.1
     rw[Nat.zero_mul]at this
     rw[List.length_eq_zero_iff.1 this]
     rfl,fun h hh=>by cases hh⟩
 | m+1,xs,h=>by
  obtain⟨h1,h2⟩:=h
  have e3:([some .u16,some .u32,none,none,none]:List (Option IntKind)).length=5:=rfl
  rw[e3]at h1 h2
  obtain ⟨L,l1,l2,l3⟩:=aFW m (xs.drop 5) ⟨by rw[e3,List.length_drop];omega,fun i hi=>by
   rw[e3,List.drop_drop]
   have:=h2 (i+1) (by omega)
   rw[show 5+i*5=(i+1)*5 by omega]
   exact this⟩
  have ht:=h2 0 (by omega)
  rw[Nat.zero_mul,List.drop_zero]at ht
  obtain⟨z0,c0,w0⟩:=ht.int 0 .u16 rfl
  obtain⟨z1,c1,w1⟩:=ht.int 1 .u32 rfl
  obtain⟨z2,c2⟩:=ht.bool 2 rfl
  obtain⟨z3,c3⟩:=ht.bool 3 rfl
  obtain⟨z4,c4⟩:=ht.bool 4 rfl
  refine⟨⟨z0,z1,z2,z3,z4⟩ :: L,by simp[l1],?_,fun h hh=>?_⟩
  ·rw[y6,l2,←List.take_append_drop 5 xs,List.drop_append,List.length_take,Nat.min_eq_left (by omega),Nat.sub_self,List.drop_zero,List.drop_eq_nil_of_le (by rw[List.length_take];omega),List.nil_append]
   congr 1
   apply List.ext_getElem?
   intro j
   match j with
   | 0=>exact c0.symm
   | 1=>exact c1.symm
   | 2=>exact c2.symm
   | 3=>exact c3.symm
   | 4=>exact c4.symm
   | j+5=>rw[List.getElem?_eq_none (by show 5≤_;omega),List.getElem?_eq_none (by rw[List.length_take];omega)]
  ·rcases List.mem_cons.1 hh with rfl|hh
   ·have h0:=wD w0
    have h1:=oV w1
    unfold PtR
    dsimp only
    omega
   ·exact l3 h hh
theorem open_sus{H:Type}{enc:TypeId × Value→H}{w:World}{r:Reach}{b0:Nat}{v:Value}{d:DataW H}{p:List MemPlace}(hv:Value.okWide Tryz.prog w r b0 25 v)(h:DataW.Trod enc Tryz.prog w 0 (fun _=>true) true 25 v d p):∃L:List Pt,SusAt w v L∧∀h∈L,PtR h:=by
 obtain⟨fuel,hf⟩:=h
 obtain⟨a0,l0,c0,rfl⟩:=okWide_slice Tryz.underlying25 hv
 obtain⟨m,xs,hr,ht⟩:=vY Tryz.underlying25 aKS (by decide) hf
 obtain⟨L,rfl,rfl,hw⟩:=aFW m xs ht
 refine⟨L,?_,hw⟩
 rcases hr.2 with ⟨h0,h1|⟨a,cap,h1⟩⟩|⟨b,off,cap,h1,g0,g1,g2,h2,h3⟩
 ·cases h1
  exact⟨_,0,by rw[h0],by omega,fun h=>by omega⟩
 ·cases h1
  exact⟨_,c0,by rw[h0],by omega,fun h=>by omega⟩
 ·cases h1
  unfold maxLen at g2
  exact⟨_,c0,rfl,by omega,fun _=>⟨b,off,rfl,h2,g1,by omega,h3⟩⟩
def AL:List (Option IntKind):=[some .u8,some .u8,none]++ML
def ActsAt(w:World)(v:Value)(m:Nat)(xs:List Value):Prop:=∃a cap,v=.slice a m cap∧m≤9223372036854775807∧RowTyped AL m xs∧(0<m→∃b off,a=some ⟨b,off,none⟩∧b<w.heap.size∧m≤cap∧cap≤9223372036854775807∧w.rangeAt b off xs)
theorem aCS:tE Tryz.prog 6 48=some AL:=by kernel_rfl
theorem open_acts18{H:Type}{enc:TypeId × Value→H}{w:World}{r:Reach}{b0:Nat}{v:Value}{d:DataW H}{p:List MemPlace}(hv:Value.okWide Tryz.prog w r b0 43 v)(h:DataW.Trod enc Tryz.prog w 0 (fun _=>true) true 43 v d p):∃(m:Nat) (xs:List Value),ActsAt w v m xs:=by
 obtain⟨fuel,hf⟩:=h
 obtain⟨a0,l0,c0,rfl⟩:=okWide_slice Tryz.underlying43 hv
 obtain⟨m,xs,hr,ht⟩:=vY Tryz.underlying43 aCS (by decide) hf
 refine⟨m,xs,?_⟩
 rcases hr.2 with ⟨h0,h1|⟨a,cap,h1⟩⟩|⟨b,off,cap,h1,g0,g1,g2,h2,h3⟩
 ·cases h1
  exact⟨_,0,by rw[h0],by omega,ht,fun h=>by omega⟩
 ·cases h1
  exact⟨_,c0,by rw[h0],by omega,ht,fun h=>by omega⟩
 ·cases h1
  unfold maxLen at g2
  exact⟨_,c0,rfl,by omega,ht,fun _=>⟨b,off,rfl,h2,g1,by omega,h3⟩⟩
end Go.Proofs.YtpanapepcbbagaaGreat
namespace Go.Proofs.YtpanapepcbbagaaGreat
open Go.RowKit Go.BigFrame Go.WideShapes Go.ChangeShapes Go.Deep
theorem aAP{P:Program}{ops:Array Oper}{rest:List Oper}{op:Oper}{a:Act}{w:World}{Q:Exit→Act→World→Prop}(hgd:op.guard=none)(hdst:op.dst=none)(ty:TypeId)(x y:Operand)(ho:op.op=.store ty x y)(g o:Nat)(u:Value)(cs:Array Value)(t:TypeId)(hx:a.eval x=.pointer (some ⟨g,o,none⟩))(hy:a.eval y=u)(hX:w.heap[g]?=some (.cells cs t (0,0)))(hl:o<cs.size)(hv:u.cells=#[u])(hi:(P.info? ty).map (·.size)=some 1)(h1:u.oneCell'=true)(h:∀w',w'.heap[g]?=some (.cells (cs.setIfInBounds o u) t (0,0))→Mut (fun n=>n=g) w w'→wpList P ops Q rest a w'):wpList P ops Q (op :: rest) a w:=by
 have hl2:o+1≤cs.size:=hl
 refine dS hgd hdst ty x y ho g o u #[u] cs (cs.setIfInBounds o u) t hx hy hv hX hl2 (by simpa using hi) (by simpa using h1) ?_ h
 apply Array.ext'
 simp only[Array.toList_setIfInBounds,List.size_toArray,List.length_cons,List.length_nil]
 rw[List.set_eq_take_append_cons_drop,if_pos (by rw[Array.length_toList];exact hl2)]
 simp
theorem WB.nilOut{N:Nat→Prop}{X g:Nat}{w:World}{B:Br}(h:WB N X g B w)(ho:B.ok):∃cs,w.heap[X]?=some (.cells cs 35 (0,0))∧cs.size=20∧∀w',w'.heap[X]?=some (.cells (cs.setIfInBounds 18 (.slice none 0 0)) 35 (0,0))→Mut (fun n=>n=X) w w'→WB N X g { B with no:=0,os:=[] } w':=by
 have hne:=BrG.lt h
 obtain⟨h1,h2,cap,cur,s2,s3,a,b,c,d,e,f,p,q,r,s⟩:=h
 have hl:B.hd.length=17:=ho.hd.1
 refine⟨_,a,by simp[hl],fun w' hX hm=>?_⟩
 have hk:∀k,k≠X→k<w.heap.size→w'.heap[k]?=w.heap[k]?:=fun k hk hl=>hm.heap hl (fun h=>hk h)
 have hsz:=hm.size
 have q':w'.ownsRow 0 3 1 s3 B.nf B.fl:=iP q (fun k hk' hl=>hk k (fun e=>by
  subst e
  rcases q.2 with hn|⟨g3,cap3,cur3,rfl,hb3,hg3,-⟩
  ·rw[hn.1]at hk';cases hk'
  ·obtain rfl:g3=k:=by simpa[Value.ownBlock]using hk'
   rw[a]at hg3
   simp at hg3) hl)
 refine⟨⟨h1.1,nL h1.2 hsz⟩,⟨h2.1,nL h2.2 hsz⟩,cap,cur,.slice none 0 0,s3,?_,(hk g (fun e=>hne.2.2 e.symm) (aC b)).trans b,c,d,e,f,⟨by simp,.inl ⟨rfl,rfl⟩⟩,q',fun k hk'=>(by cases hk'),fun k hk'=>⟨(s k hk').1,nL (s k hk').2 hsz⟩⟩
 rw[hX]
 congr 2
 apply Array.ext'
 rw[Array.toList_setIfInBounds]
 show(B.hd++[.slice (some ⟨g,0,none⟩) B.np cap,s2,s3]).set 18 _=B.hd++[.slice (some ⟨g,0,none⟩) B.np cap,.slice none 0 0,s3]
 rw[List.set_append_right _ _ (by omega),hl]
 rfl
theorem aFX{w w':World}{b off:Nat}{xs:List Value}(h:w.rangeAt b off xs)(hx:Ext w w')(hb:b<w.heap.size):w'.rangeAt b off xs:=fun j v hv=>(hx.cell hb).trans (h j v hv)
theorem aFY{m:Nat}{xs:List Value}(ht:RowTyped AL m xs){i:Nat}(hi:i<m):(∃p:Nat,p<256∧xs[i*20+1]?=some (.int .u8 (p:Int)))∧Typed ML ((xs.drop (i*20+3)).take 17):=by
 have h2:=ht.2 i hi
 rw[show AL.length=20 from rfl]at h2
 constructor
 ·obtain⟨z,hz,hw⟩:=h2.int 1 .u8 rfl
  have hr:0≤z∧z<256:=by simp[Lit.wf,IntKind.min,IntKind.max,IntKind.signed,IntKind.bits]at hw;omega
  refine⟨z.toNat,by omega,?_⟩
  rw[show((z.toNat:Nat):Int)=z by omega]
  rw[List.getElem?_take,if_pos (by decide),List.getElem?_drop]at hz
  exact hz
 ·have h3:=(Typed.part (l:=AL.take 3) (l2:=ML) (show Typed (AL.take 3++ML) _ from h2)).2
  rw[show(AL.take 3).length=3 from rfl,List.drop_take,List.drop_drop]at h3
  exact h3
theorem WB.nilFl{N:Nat→Prop}{X g:Nat}{w:World}{B:Br}(h:WB N X g B w)(ho:B.ok):∃cs,w.heap[X]?=some (.cells cs 35 (0,0))∧cs.size=20∧∀w',w'.heap[X]?=some (.cells (cs.setIfInBounds 19 (.slice none 0 0)) 35 (0,0))→Mut (fun n=>n=X) w w'→WB N X g { B with nf:=0,fl:=[] } w':=by
 have hne:=BrG.lt h
 obtain⟨h1,h2,cap,cur,s2,s3,a,b,c,d,e,f,p,q,r,s⟩:=h
 have hl:B.hd.length=17:=ho.hd.1
 refine⟨_,a,by simp[hl],fun w' hX hm=>?_⟩
 have hk:∀k,k≠X→k<w.heap.size→w'.heap[k]?=w.heap[k]?:=fun k hk hl=>hm.heap hl (fun h=>hk h)
 have hsz:=hm.size
 have p':w'.ownsRow 0 71 18 s2 B.no B.os:=iP p (fun k hk' hl=>hk k (fun e=>by
  subst e
  rcases p.2 with hn|⟨g3,cap3,cur3,rfl,hb3,hg3,-⟩
  ·rw[hn.1]at hk';cases hk'
  ·obtain rfl:g3=k:=by simpa[Value.ownBlock]using hk'
   rw[a]at hg3
   simp at hg3) hl)
 refine⟨⟨h1.1,nL h1.2 hsz⟩,⟨h2.1,nL h2.2 hsz⟩,cap,cur,s2,.slice none 0 0,?_,(hk g (fun e=>hne.2.2 e.symm) (aC b)).trans b,c,d,e,f,p',⟨by simp,.inl ⟨rfl,rfl⟩⟩,fun k hk'=>⟨(r k hk').1,nL (r k hk').2 hsz⟩,fun k hk'=>(by cases hk')⟩
 rw[hX]
 congr 2
 apply Array.ext'
 rw[Array.toList_setIfInBounds]
 show(B.hd++[.slice (some ⟨g,0,none⟩) B.np cap,s2,s3]).set 19 _=B.hd++[.slice (some ⟨g,0,none⟩) B.np cap,s2,.slice none 0 0]
 rw[List.set_append_right _ _ (by omega),hl]
 rfl
def aH5:Array Value:=#[.int .u8 0,.int .u8 0,.bool false,.int .i64 0,.bool false,.bool false,.bool false,.bool false,.bool false,.bool false,.int .i64 0,.int .u64 0,.int .u32 0,.int .u64 0,.int .u16 0,.int .u16 0,.int .i64 0,.int .i64 0,.int .i64 0,.int .i64 0]
theorem aFZ:∀w,(zeroValue 48).run Tryz.prog w=.ok (.agg aH5) w:=(zero_of_info (P:=Tryz.prog) (t:=48) (v:=.agg aH5) (n:=20) (by kernel_rfl)).1
theorem vZ:(Tryz.prog.info? 48).map (·.size)=some 20:=by kernel_rfl
theorem aH6{m:Nat}{xs:List Value}(ht:RowTyped AL m xs){i:Nat}(hi:i<m):∃(u p:Nat) (b:Bool) (l:List Value),u<256∧p<256∧l.length=17∧Typed ML l∧l=(xs.drop (i*20+3)).take 17∧(xs.drop (i*20)).take 20=.int .u8 (u:Int) :: .int .u8 (p:Int) :: .bool b :: l:=by
 have h2:=ht.2 i hi
 rw[show AL.length=20 from rfl]at h2
 have h3:=(aFY ht hi).2
 have u8:∀{j:Nat},AL[j]?=some (some .u8)→∃u:Nat,u<256∧((xs.drop (i*20)).take 20)[j]?=some (.int .u8 (u:Int)):=fun {j} hj=>by
  obtain⟨z,hz,hw⟩:=h2.int j .u8 hj
  have hr:0≤z∧z<256:=by simp[Lit.wf,IntKind.min,IntKind.max,IntKind.signed,IntKind.bits]at hw;omega
  exact⟨z.toNat,by omega,by rw[hz,show((z.toNat:Nat):Int)=z by omega]⟩
 obtain⟨u,hu,c0⟩:=u8 (j:=0) rfl
 obtain⟨p,hp,c1⟩:=u8 (j:=1) rfl
 obtain⟨b,c2⟩:=h2.bool 2 rfl
 have hl:((xs.drop (i*20+3)).take 17).length=17:=h3.1
 refine⟨u,p,b,_,hu,hp,hl,h3,rfl,?_⟩
 apply List.ext_getElem?
 intro j
 match j with
 | 0=>exact c0
 | 1=>exact c1
 | 2=>exact c2
 | j+3 =>
  show _=((xs.drop (i*20+3)).take 17)[j]?
  rw[List.getElem?_take,List.getElem?_take,List.getElem?_drop,List.getElem?_drop]
  by_cases h:j<17
  ·rw[if_pos (by omega),if_pos h,show i*20+(j+3)=i*20+3+j from by omega]
  ·rw[if_neg (by omega),if_neg h]
theorem y7{J:Br→Prop}(rst:Bool)(v:Value)(P:List Pt)(w:World)(hP:PtsAt w v P)(hr:∀p∈P,PtR p)(h0:0<P.length)(h5:P.length≤5)(va:Value)(m:Nat)(xs:List Value)(hA:ActsAt w va m xs)(hM:∀i,i<m→MT ((xs.drop (i*20+3)).take 17))(hJ:rW P.length J)(hJ0:J (NB rst P)):
    Calls Tryz.prog 16 #[.bool rst,v,va] w fun e w'=>∃c B,e=.returned (.tuple #[.agg c,.bool true])∧VB w' w.heap.size c B∧RQ P.length B∧J B∧Ext w w':=by
 have HP:=hD hP
 have HR:=hD hr
 have HJ:=hD hJ
 have HJ0:=hD hJ0
 have HMT:=hD hM
 obtain⟨pa,pcap,rfl,-,-⟩:=hP
 obtain⟨aa,acap,rfl,ham,hrt,haf⟩:=hA
 have HAF:=hD haf
 have HRT:=hD hrt
 clear hr hJ hJ0 hM haf hrt
 go_enter Tryz.func16,Tryz.ntmps16
 go_wp2_with (first
  | fail
  | ((with_reducible refine bS 35 ?_);refine b6 rfl 35 rfl oR jK ?_
     intro RB w1 hq hsz hx
     have HRB:=hD hq
     have HX1:=hD hx
     have HRW:=hD (show w.heap.size≤RB from Nat.le_of_eq hsz)
     clear hq hsz hx)
  | ((with_reducible refine cJ 24 ?_);refine bG rfl 24 _ rfl _ rfl _ aIW ?_))
 refine(yT w1 _ P (aL9 HP.out HX1.out) (by omega)).mono ?_
 rintro e w2 ⟨v2,rfl,hP2,hx2⟩
 have HP2:=hD hP2
 have HX2:=hD hx2
 clear hP2 hx2
 go_wp2_with fail
 refine(nP 7 0 20 2 15 6 rst v2 P w2 HP2.out (by omega) (by decide) (by decide) HR.out rfl rfl rfl rfl).mono ?_
 rintro e w3 ⟨c,ok,rfl,hok,hnew,hx3⟩
 obtain rfl:ok=true:=hok.2 (aH4 (by omega))
 have HSZ:=hD hnew.sz
 rcases hnew with ⟨-,u,hc,hown⟩|⟨h,-⟩
 case inr=>cases h
 have HC:=hD hc
 have HO3:=hD hown
 have HX3:=hD hx3
 clear hok hown hx3 hc
 go_wp2_with (first
  | fail
  | ((with_reducible refine bS 35 ?_);refine b6 rfl 35 rfl oR jK ?_
     intro X w4 hq hsz hx)
  | ((with_reducible refine aD 35 ?_);refine nQ rfl rfl 35 _ _ rfl X c oR 35 rfl rfl hq HSZ.out.1 fP HSZ.out.2 ?_
     intro w5 hq5 hm5
     have HQ5:=hD hq5
     have HO5:=hD (lB (j2 HO3.out hx) hm5 (fun g h1 h2=>by have h3:g=X:=h2;have h4:=(gO HO3.out h1).2;omega))
     have HX5:=hD (show Ext w2 w5 from HX3.out.trans (hx.mutE hm5 (fun g hg h=>by have h2:g=X:=h;omega)))
     have HXN:=hD (show w2.heap.size≤X from by have:=HX3.out.size;omega)
     clear hq hsz hx hq5 hm5 HO3 HX3))
 have hRB5:=((HX2.out.trans HX5.out).block RB (aC HRB.out)).trans HRB.out
 have HRB2:=hD ((HX2.out.block RB (aC HRB.out)).trans HRB.out)
 have HRN:=hD (show RB<w2.heap.size from nL (aC HRB.out) HX2.out.size)
 obtain⟨g,hB⟩:=aFN (N:=fun n=>w2.heap.size≤n) (B:=NB rst P) (HC.out▸HQ5.out) HO5.out h0 (fun n hn=>hn) HXN.out ⟨rfl,rfl,rfl,rfl⟩
 have hdn:aIY P.length (NB rst P):=⟨rfl,fun i hi=>aL8 rfl hi⟩
 refine(rT (M:=0) (f:=1) ((aFT (by omega)).and HJ.out.run) (by decide) h5 h0 (by decide) (NB rst P) w5 (fun n hn=>Nat.le_trans HX5.out.size hn) hB (aIS HR.out rfl) (fun h=>by cases h) (fun _ i hi=>(hdn.2 i hi).1) ⟨hdn,HJ0.out⟩).mono ?_
 rintro e w6 ⟨k,B',rfl,hB6,hm6,hK,hDN,hJ6⟩
 have HRB6:=hD ((hm6.heap (aC hRB5) (fun h=>by have h1:w2.heap.size≤RB:=h;have h2:=HRN.out;omega)).trans hRB5)
 have HX6:=hD (show Ext w w2 from HX1.out.trans HX2.out)
 have HM6:=hD (show Mut (fun n=>w2.heap.size≤n) w2 w6 from(HX5.out.mut _).trans hm6)
 have HB6:=hD hB6
 have HRQ:=hD (show RQ P.length B' from⟨hK.mono (by omega),hDN.1⟩)
 have HJ6:=hD hJ6
 clear hB hB6 hm6 hK hDN hJ6 hRB5 HQ5 HO5 HC HSZ hdn HX1 HX2 HX5 HP2 HJ0
 go_wp2_with fail
 go_loopw [12,11] (fun si sr wr=>∃(i:Nat) (C:Br),si=.int .i64 i∧sr=.bool true∧i≤m∧WB (fun n=>w2.heap.size≤n) X g C wr∧RQ P.length C∧J C∧Mut (fun n=>w2.heap.size≤n) w2 wr) (fun si _ _=>m - (intOf si).toNat)
 case atStart=>exact⟨0,B',rfl,rfl,by omega,HB6.out,HRQ.out,HJ6.out,HM6.out⟩
 case round =>
  have hRBs:=HM6.out.size
  clear HB6 HRQ HJ6
  obtain⟨i,C,rfl,rfl,hi,hB,hQ,hj,hm⟩:=hrel
  rename World=>wl
  have HB:=hD hB
  have HQ:=hD hQ
  have HJC:=hD hj
  have HM:=hD hm
  clear hB hQ hj hm
  have hpp:decide ((P.length:Int) > 0)=true:=by simp;omega
  by_cases hlm:i<m
  ·have dlm:decide ((i:Int)<(m:Int))=true:=by simp;omega
   have hupi:IntKind.i64.wrap ((i:Int)+1)=((i+1:Nat):Int):=by rw[IntKind.wrap_i64];omega
   obtain⟨b,off,rfl,hb,hc1,hc2,hrg⟩:=HAF.out (by omega)
   obtain⟨u,p,bo,l,hu,hp,hl17,hlt,hle,hrow⟩:=aH6 HRT.out hlm
   have HML:=hD (show MT l from hle▸HMT.out i hlm)
   obtain⟨L,hL⟩:∃L,.int .u8 (u:Int) :: .int .u8 (p:Int) :: .bool bo :: l=L:=⟨_,rfl⟩
   have hL20:L.length=20:=by rw[←hL];simp[hl17]
   have HL:=hD hL
   have HL20:=hD hL20
   have HL1:=hD (show L.toArray.toList.all (·.oneCell')=true from by
    have h2:=HRT.out.one
    show L.all _=true
    rw[List.all_eq_true]
    intro x hx
    refine h2 x ?_
    rw[←hL,←hrow]at hx
    exact List.mem_of_mem_drop (List.mem_of_mem_take hx))
   have HAR:=hD (show wl.rangeAt b (off+i*20) L from fun j v hv=>by
    have hb2:b<w2.heap.size:=nL hb HX6.out.size
    have h3:wl.cell? ⟨b,off+(i*20+j),none⟩=w.cell? ⟨b,off+(i*20+j),none⟩:=(HM.out.cell (p:=⟨b,off+(i*20+j),none⟩) hb2 (fun h=>by have h4:w2.heap.size≤b:=h;omega)).trans (HX6.out.cell (p:=⟨b,off+(i*20+j),none⟩) hb)
    rw[show off+i*20+j=off+(i*20+j)from by omega,h3]
    refine hrg (i*20+j) v ?_
    rw[←hL,←hrow,List.getElem?_take]at hv
    split at hv
    ·rw[List.getElem?_drop]at hv;exact hv
    ·cases hv)
   have HSI:=hD (show(Tryz.prog.info? 48).map (·.size)=some L.length by rw[hL20];exact vZ)
   have HMS:=hD (show(Tryz.prog.info? 46).map (·.size)=some l.length by rw[hl17];exact fI)
   clear hrg hle hrow hL hL20 hlt hl17
   obtain⟨q,hq⟩:∃q,Int.tmod (p:Int) (P.length:Int)=q:=⟨_,rfl⟩
   obtain ⟨kq,hkq⟩:∃kq:Nat,q=(kq:Int)∧kq<P.length:=by
    rw[←hq,Int.tmod_eq_emod_of_nonneg (show(0:Int)≤(p:Int) by omega)]
    have h1:=Int.emod_nonneg (p:Int) (show(P.length:Int)≠0 by omega)
    have h2:=Int.emod_lt_of_pos (p:Int) (show(0:Int)<P.length by omega)
    exact⟨((p:Int) % P.length).toNat,by omega,by omega⟩
   obtain⟨rfl,hkl⟩:=hkq
   have hwp:IntKind.i64.wrap (p:Int)=(p:Int):=by rw[IntKind.wrap_i64];omega
   have hn0:((P.length:Int) == 0)=false:=by simp;intro h;simp[h]at h0
   have hwq:IntKind.i64.wrap (kq:Int)=(kq:Int):=by rw[IntKind.wrap_i64];omega
   obtain⟨r,hr4⟩:∃r,Int.tmod (u:Int) 4=r:=⟨_,rfl⟩
   have hr:r=0∨r=1∨r=2∨r=3:=by
    rw[←hr4,Int.tmod_eq_emod_of_nonneg (show(0:Int)≤(u:Int) by omega)]
    omega
   have hwr:IntKind.u8.wrap r=r:=by rcases hr with rfl|rfl|rfl|rfl<;>rfl
   have HR4:=hD hr
   clear hr
   go_upto_region 12 with (first
    | fail
    | ((with_reducible refine aG 48 ?_);refine wpList_load_mid rfl 48 _ rfl b (off+i*20) rfl L _ HAR.out Tryz.underlying48 rfl HSI.out ?_)
    | ((with_reducible refine bS 48 ?_);refine b6 rfl 48 rfl aH5 aFZ ?_
       intro Y wa hqa hsa hxa)
    | ((with_reducible refine aD 48 ?_);refine nQ rfl rfl 48 _ _ rfl Y L.toArray aH5 48 rfl rfl hqa (by rw[List.size_toArray];exact HL20.out) vZ HL1.out ?_
       intro wb hqb hmb
       have hlen:=HL20.out
       have c0:wb.cell? ⟨Y,0,none⟩=some (.int .u8 (u:Int)):=by rw[bA hqb,←HL.out];rfl
       have c1:wb.cell? ⟨Y,1,none⟩=some (.int .u8 (p:Int)):=by rw[bA hqb,←HL.out];rfl
       have c2:wb.cell? ⟨Y,2,none⟩=some (.bool bo):=by rw[bA hqb,←HL.out];rfl
       have HRM:=hD (show wb.rangeAt Y 3 l from fun j v hv=>by
        rw[bA hqb,←HL.out,List.getElem?_toArray,show 3+j=j+3 from by omega]
        exact hv)
       have HXB:=hD (show Ext wl wb from hxa.mutE hmb (fun g hg h=>by have h2:g=Y:=h;omega))
       clear hqa hsa hxa hqb hmb hlen))
   have hnp:C.np=P.length:=HQ.out.1.1.np
   have hok:=HQ.out.1.1.ok
   have HBB:=hD (WB.ext HB.out HXB.out)
   have HMB:=hD (HM.out.trans (HXB.out.mut _))
   have HNP:=hD hnp
   have HOK:=hD hok
   clear HB HM hnp hok hq hr4
   rcases HR4.out with rfl|rfl|rfl|rfl
   case' inl =>
    clear HR4
    go_wp2_with fail
    refine(yU HBB.out HOK.out (by rw[HNP.out];omega)).mono ?_
    rintro e w7 ⟨rfl,hBc,hmc⟩
    have HE:=hD (show ∃D,WB (fun n=>w2.heap.size≤n) X g D w7∧AR0 P.length J D∧Mut (fun n=>w2.heap.size≤n) w2 w7 from⟨_,hBc,HQ.out.tick (by omega) HJ.out HJC.out,HMB.out.trans hmc⟩)
    clear hBc hmc
   case' inr.inl =>
    clear HR4
    go_wp2_with fail
    refine(qB (k:=kq) HBB.out HOK.out (by rw[HNP.out];exact hkl) (by rw[HNP.out];omega) bo).mono ?_
    rintro e w7 ⟨d,C',rfl,hBc,hmc,hR⟩
    have HC:=hD (show AR0 P.length J C' from by
     rcases hR with ⟨-,-,rfl⟩|⟨-,-,rfl⟩
     ·exact HQ.out.same (by omega) HJC.out
     ·exact HQ.out.en (by omega) HJ.out HJC.out hkl bo)
    have HE:=hD (show ∃D,WB (fun n=>w2.heap.size≤n) X g D w7∧AR0 P.length J D∧Mut (fun n=>w2.heap.size≤n) w2 w7 from⟨_,hBc,HC.out,HMB.out.trans hmc⟩)
    clear hBc hmc hR HC
   case' inr.inr.inl =>
    clear HR4
    go_wp2_with (first
     | fail
     | ((with_reducible refine aG 46 ?_);refine wpList_load_mid rfl 46 _ rfl Y 3 rfl l _ HRM.out Tryz.underlying46 rfl HMS.out ?_))
    refine(aFM HBB.out HOK.out (by rw[HNP.out];omega) (kq:Int) HML.out.1).mono ?_
    rintro e w7 ⟨d,C',rfl,hBc,hmc,rfl⟩
    have HE:=hD (show ∃D,WB (fun n=>w2.heap.size≤n) X g D w7∧AR0 P.length J D∧Mut (fun n=>w2.heap.size≤n) w2 w7 from⟨_,hBc,HQ.out.take (by omega) HJ.out HJC.out (kq:Int) HML.out,HMB.out.trans hmc⟩)
    clear hBc hmc
   case' inr.inr.inr =>
    clear HR4
    go_wp2_with fail
    refine(aCR (k:=kq) HBB.out HOK.out (by rw[HNP.out];exact hkl) (by rw[HNP.out];omega)).mono ?_
    rintro e w7 ⟨d,C',rfl,hBc,hmc,hR⟩
    have HC:=hD (show AR0 P.length J C' from by
     rcases hR with rfl|rfl
     ·exact HQ.out.same (by omega) HJC.out
     ·exact HQ.out.chk (by omega) HJ.out HJC.out hkl)
    have HE:=hD (show ∃D,WB (fun n=>w2.heap.size≤n) X g D w7∧AR0 P.length J D∧Mut (fun n=>w2.heap.size≤n) w2 w7 from⟨_,hBc,HC.out,HMB.out.trans hmc⟩)
    clear hBc hmc hR HC
   all_goals
    obtain⟨D,hB,hA,hm⟩:=HE.out
    clear HE HQ HJC HXB
    have HM7:=hD hm
    go_wp2_with fail
    refine(rT (M:=50000) (f:=0) HJ.out.run (by decide) h5 h0 (by decide) D w7 (fun n hn=>Nat.le_trans HM7.out.size hn) hB hA.1 (fun _=>hA.2.1) (fun h=>by cases h) hA.2.2).mono ?_
    rintro e w8 ⟨k8,B8,rfl,hB8,hm8,hR8,hJ8⟩
    have HM8:=hD (HM7.out.trans hm8)
    have HR8:=hD hR8
    have HJ8:=hD hJ8
    obtain⟨rx,hrx,hrz,hre⟩:=WB.nilOut hB8 hR8.1.ok
    have HRE:=hD hre
    have HRX:=hD hrx
    have HRZ:=hD hrz
    clear hB hA hm hB8 hm8 hR8 hJ8 hrx hrz hre HM7
    go_wp2_with (first
     | fail
     | ((with_reducible refine aD 32 ?_);refine aAP rfl rfl 32 _ _ rfl X 18 (.slice none 0 0) rx 35 rfl rfl HRX.out (by rw[HRZ.out];decide) rfl (by kernel_rfl) rfl ?_
        intro wy hqy hmy
        have HBY:=hD (HRE.out wy hqy hmy)
        obtain⟨ry,hry,hrw,hrf⟩:=WB.nilFl HBY.out HR8.out.1.nil0.ok
        have HRF:=hD hrf
        have HRY:=hD hry
        have HRV:=hD hrw
        have HMY:=hD (HM8.out.trans (hmy.mono (fun n _ h=>by have h2:n=X:=h;have h3:=HXN.out;omega)))
        clear hqy hmy hry hrw hrf)
     | ((with_reducible refine aD 33 ?_);refine aAP rfl rfl 33 _ _ rfl X 19 (.slice none 0 0) ry 35 rfl rfl HRY.out (by rw[HRV.out];decide) rfl (by kernel_rfl) rfl ?_
        intro wz hqz hmz
        have HBZ:=hD (HRF.out wz hqz hmz)
        have HMZ:=hD (HMY.out.trans (hmz.mono (fun n _ h=>by have h2:n=X:=h;have h3:=HXN.out;omega)))
        clear hqz hmz))
    go_roundw
    case rel =>
     exact⟨i+1,B8.nil,by go_num,rfl,hlm,HBZ.out,⟨(HR8.out.nil (by omega)).mono (by omega),rfl⟩,HJ.out.nil _ HJ8.out,HMZ.out⟩
    case measure=>simp[intOf]<;>omega
  ·obtain rfl:i=m:=by omega
   have dlm:decide ((i:Int)<(i:Int))=false:=by simp
   obtain⟨c6,hrow,hvb⟩:=WB.vb HB.out
   have HSZ6:=hD (hvb.sz HQ.out.1.1.ok)
   have HROW:=hD hrow
   have HVB:=hD hvb
   have HRBL:=hD (show wl.heap[RB]?=some (.cells oR 35 (0,0))from(HM.out.heap (aC HRB2.out) (fun h=>by have h1:w2.heap.size≤RB:=h;have h2:=HRN.out;omega)).trans HRB2.out)
   have HXL:=hD (show Ext w wl from HX6.out.mutE HM.out (fun j hj h=>by have h2:w2.heap.size≤j:=h;have h3:=HX6.out.size;omega))
   clear hrow hvb
   go_wp2_with (first
    | fail
    | ((with_reducible refine aG 35 ?_);refine wpList_load_row rfl 35 _ rfl X rfl 35 c6 (0,0) _ HROW.out Tryz.underlying35 rfl (by rw[HSZ6.out.1];exact fP) ?_)
    | ((with_reducible refine aD 35 ?_);refine nQ rfl rfl 35 _ _ rfl RB c6 oR 35 rfl rfl HRBL.out HSZ6.out.1 fP HSZ6.out.2 ?_
       intro wz hqz hmz
       have HRZ:=hD hqz
       have HMZ:=hD hmz
       clear hqz hmz))
   refine bodyPost_ret (eS rfl _ _ RB _ _ (0,0) _ rfl HRZ.out Tryz.underlying35 rfl (by rw[HSZ6.out.1];exact fP)) rfl ?_
   refine⟨c6,C,rfl,?_,HQ.out,HJC.out,HXL.out.mutE HMZ.out (fun n h1 h2=>by have h3:n=RB:=h2;have h4:=HRW.out;omega)⟩
   have hv:=HVB.out.mut HMZ.out (fun n h1 _ h2=>by have h3:n=RB:=h2;have h4:=HRN.out;omega)
   obtain⟨g',cap,cur,s2,s3,e1,hb,a,b,d,e,f,p,q⟩:=hv
   have hw:w.heap.size≤w2.heap.size:=HX6.out.size
   exact⟨g',cap,cur,s2,s3,e1,Nat.le_trans hw hb,a,b,d,e,f,p0 p hw,p0 q hw⟩
theorem aH7{w wr:World}{b off m i:Nat}{xs mL:List Value}(hrt:RowTyped AL m xs)(hlm:i<m)(hrg:w.rangeAt b off xs)(hx:Ext w wr)(hb:b<w.heap.size)(hmL:(xs.drop (i*20+3)).take 17=mL):
    wr.rangeAt b (off+i*20+3) mL∧Typed ML mL∧(Tryz.prog.info? 46).map (·.size)=some mL.length:=by
 have hmt:=(aFY hrt hlm).2
 rw[hmL]at hmt
 refine⟨fun j v hv=>?_,hmt,by rw[hmt.1];exact fI⟩
 have h2:=aFX hrg hx hb (i*20+3+j) v (by
  rw[←hmL,List.getElem?_take]at hv
  split at hv
  ·rw[List.getElem?_drop]at hv;exact hv
  ·cases hv)
 rw[show off+i*20+3+j=off+(i*20+3+j)from by omega]
 exact h2
theorem ActsAt.ext{w w':World}{v:Value}{m:Nat}{xs:List Value}(h:ActsAt w v m xs)(hx:Ext w w'):ActsAt w' v m xs:=by
 obtain⟨a,cap,e,h1,h2,h3⟩:=h
 refine⟨a,cap,e,h1,h2,fun h0=>?_⟩
 obtain⟨b,off,r1,r2,r3,r4,r5⟩:=h3 h0
 exact⟨b,off,r1,nL r2 hx.size,r3,r4,aFX r5 hx r2⟩
theorem wA:(Tryz.prog.info? 58).map (·.size)=some 29:=by kernel_rfl
def FlZ:Array Value:=Array.replicate 29 (.bool false)
theorem aF0:∀w,(zeroValue 58).run Tryz.prog w=.ok (.agg FlZ) w:=(zero_of_info (P:=Tryz.prog) (t:=58) (v:=.agg FlZ) (n:=29) (by kernel_rfl)).1
def flL(B:Br)(k:Nat):List Value:=(B.ps.drop (k*89+22)).take 29
theorem aKT{B:Br}(ho:B.ok){k:Nat}(hk:k<B.np):(flL B k).length=29∧(∀j,j<29→(flL B k)[j]?=some (.bool (B.gb k (22+j))))∧(flL B k).toArray.toList.all (·.oneCell')=true:=by
 have h89:=fH ho hk
 have hl:(flL B k).length=29:=by
  unfold flL
  rw[List.length_take,List.length_drop]
  omega
 have hc:∀j,j<29→(flL B k)[j]?=some (.bool (B.gb k (22+j))):=fun j hj=>by
  unfold flL
  rw[List.getElem?_take,if_pos hj,List.getElem?_drop,show k*89+22+j=k*89+(22+j)from by omega]
  refine ho.gb hk (22+j) ?_
  rcases(by omega:j<10∨(10≤j∧j<20)∨20≤j)with h|h|h
  ·rcases(by omega:j=0∨j=1∨j=2∨j=3∨j=4∨j=5∨j=6∨j=7∨j=8∨j=9)with rfl|rfl|rfl|rfl|rfl|rfl|rfl|rfl|rfl|rfl<;>rfl
  ·rcases(by omega:j=10∨j=11∨j=12∨j=13∨j=14∨j=15∨j=16∨j=17∨j=18∨j=19)with rfl|rfl|rfl|rfl|rfl|rfl|rfl|rfl|rfl|rfl<;>rfl
  ·rcases(by omega:j=20∨j=21∨j=22∨j=23∨j=24∨j=25∨j=26∨j=27∨j=28)with rfl|rfl|rfl|rfl|rfl|rfl|rfl|rfl|rfl<;>rfl
 refine⟨hl,hc,?_⟩
 show(flL B k).all _=true
 rw[List.all_eq_true]
 intro v hv
 obtain⟨j,hj⟩:=List.mem_iff_getElem?.1 hv
 have hjl:j<29:=by rw[←hl];exact(List.getElem?_eq_some_iff.1 hj).1
 rw[hc j hjl]at hj
 obtain rfl:Value.bool _=v:=Option.some.inj hj
 rfl
theorem aH8{N:Nat→Prop}{X g k:Nat}{w:World}{B:Br}(h:WB N X g B w)(hk:k<B.np):w.rangeAt g (k*89+22) (flL B k):=fun j v hv=>by
 have hj:j<29:=by
  have:=(List.getElem?_eq_some_iff.1 hv).1
  unfold flL at this
  rw[List.length_take]at this
  omega
 rw[BrG.cellg h (i:=k*89+22+j) (by omega),←hv]
 unfold flL
 rw[List.getElem?_take,if_pos hj,List.getElem?_drop]
end Go.Proofs.YtpanapepcbbagaaGreat
