/- Part 2 of what BridgeAlone stands on. No statement is proved here. -/
import Derived.Test.YtpanapepcbbagaaGreatBaa
set_option linter.unusedVariables false
set_option linter.unusedSimpArgs false
set_option maxRecDepth 100000
set_option maxHeartbeats 8000000
namespace Go.Proofs.YtpanapepcbbagaaGreat
open Go.RowKit Go.BigFrame Go.WideShapes Go.ChangeShapes Go.WideElems Go.ChangeAt Go.Deep
theorem ownK:ownKnob Tryz.prog.godebug=none:=by kernel_rfl
theorem aKR{H:Type}{enc:TypeId × Value→H}{P:Program}{f:Func}{s:ChangeSpec}{apart fresh handsOn again:Bool}{W W':World}{args:Array Value}{v:Value}{ds gs:List (DataW H)}{before pa pv:List MemPlace}(hW:DataW.Whole enc P f.params.toList s.vars apart W args.toList ds gs before)(hres:∀(b:Nat) (sp:Nat→Bool) (hd:Bool),DataW.TrodAll enc P W' b sp hd f.resultTypes.toList (v.resultList f.resultTypes.size) (s.fn H (ds++gs)).results [])(hargs:∀sp:Nat→Bool,(∀p∈before,sp p.block=true)→DataW.TrodAll enc P W' 0 sp true f.params.toList args.toList (s.fn H (ds++gs)).args pa)(hvars:∀sp:Nat→Bool,(∀p∈before,sp p.block=true)→DataW.TrodVars enc P W' sp s.vars (s.fn H (ds++gs)).vars pv)(hps:before=pa++pv)(hb:Below W.heap.size W W')(hok:∀(j:Nat) (t:TypeId) (r:Value),f.resultTypes[j]?=some t→(v.resultList f.resultTypes.size)[j]?=some r→Value.okWide P W' .any 0 t r):
    s.post enc P f apart fresh handsOn again W args v W':=by
 have lt:∀p∈before,p.block<W.heap.size:=fun p hp=>hW.lt p hp
 have old:∀p∈before,(fun b=>decide (b<W.heap.size)) p.block=true:=fun p hp=>decide_eq_true (lt p hp)
 have keep:W.keptBut W' fun p=>p∈before∧(p∈([]:List MemPlace)∨p∈pa++pv) :=
  World.keptBut_mono (fun p hp=>⟨hp,Or.inr (hps▸hp)⟩) (hb.frame (·∈before))
 refine⟨ds,gs,before,[],pa,pv,hW,hres _ _ _,hargs _ old,hvars _ old,?_,fun _=>?_⟩
 ·refine World.keptBut_mono (fun p hp=>⟨hp.1,?_⟩) keep
  rcases List.mem_append.1 (hps▸hp.1)with h|h
  ·exact Or.inr (Or.inl h)
  ·exact Or.inr (Or.inr h)
 ·obtain ⟨_,_,_,_,_,hz,hn⟩:=hW
  refine⟨hok,_,_,([]++pa)++pv,⟨[]++pa,pv,trodAll_append (hargs _ (fun _ _=>rfl)) (hres _ _ _),hvars _ (fun _ _=>rfl),rfl,?_,?_⟩,?_⟩
  ·intro b off hp
   have hin:MemPlace.cell b off∈before:=by rw[hps];simpa using hp
   rw[hb.frozen (lt _ hin)]
   exact hz b off hin
  ·intro ha
   have:=hn ha
   rw[hps]at this
   simpa using this
  ·intro p hp _
   rw[hps]
   simpa using hp
theorem rX{H:Type}{enc:TypeId × Value→H}{P:Program}(hl:laidOutB P=true){W W':World}(hb:Ext W W')(sp:Nat→Bool):
    ∀ (ts:List TypeId) (vs:List Value) (ds:List (DataW H)) (ps:List MemPlace),(ts.all fun t=>P.readableRec t && decide (t<P.types.size))=true →
     DataW.TrodAll enc P W 0 (fun _=>true) true ts vs ds ps→(∀p∈ps,p.block<W.heap.size)→(∀p∈ps,sp p.block=true)→DataW.TrodAll enc P W' 0 sp true ts vs ds ps
 | [],vs,ds,ps,_,h,_,_=>by
  obtain⟨rfl,rfl,rfl⟩:=trodAll_nil h
  exact trodAll_mk0
 | t :: ts,vs,ds,ps,hts,h,hlt,hsp=>by
  simp only[List.all_cons,Bool.and_eq_true,decide_eq_true_eq]at hts
  obtain⟨v,vs',d,ds',p,q,rfl,rfl,rfl,h0,r0⟩:=trodAll_cons h
  refine trodAll_cons_mk (Trod_stays hl hts.1.1 hts.1.2 h0 (fun x hx=>Below.same hb (hlt x (by simp[hx]))) (fun x hx=>hsp x (by simp[hx]))) ?_
  exact rX hl hb sp ts vs' ds' q (by simpa using hts.2) r0 (fun x hx=>hlt x (by simp[hx])) (fun x hx=>hsp x (by simp[hx]))
theorem ends{H:Type}{enc:TypeId × Value→H}{P:Program}{k:FuncId}{f:Func}{s:ChangeSpec}{tb:TypeId}(hl:laidOutB P=true)(hts:(f.params.toList.all fun t=>P.readableRec t && decide (t<P.types.size))=true)(hv:s.vars=[])(hres:f.resultTypes=#[tb])(htb:P.underlying tb=some .bool){W:World}{args:Array Value}{ds gs:List (DataW H)}{before:List MemPlace}(hW:DataW.Whole enc P f.params.toList s.vars false W args.toList ds gs before)(hspec:s.fn H (ds++gs)={ results:=[.lit (.bool true)],args:=ds })(walk:Calls P k args W fun e w'=>e=.returned (.bool true)∧Ext W w'):
    Calls P k args W fun e W'=>∃v,e=.returned v∧s.post enc P f false true false false W args v W':=by
 refine walk.mono fun e W' ⟨he,hb⟩=>⟨_,he,?_⟩
 have hW':=hW
 obtain⟨p,q,hA,hV,rfl,_,_⟩:=hW
 have hV':=hV
 rw[hv]at hV
 obtain⟨rfl,rfl⟩:=trodVars_none hV
 refine aKR (pa:=p) (pv:=[]) hW' ?_ ?_ ?_ rfl hb (ok_one hres rfl (okWide_bool_mk htb _))
 ·intro b sp hd
  rw[hspec,hres]
  exact trodAll_cons_mk (shut_bool htb _) trodAll_mk0
 ·intro sp hsp
  rw[hspec]
  exact rX hl hb sp _ _ _ _ hts hA (fun x hx=>hW'.lt x (by simp[hx])) (fun x hx=>hsp x (by simp[hx]))
 ·intro sp _
  rw[hspec,hv]
  rfl
theorem laidO:laidOutB Tryz.prog=true:=by kernel_rfl
section
variable {P:Program}
variable {H:Type} {enc:TypeId × Value→H} {w:World} {base:Nat} {spare:Nat→Bool} {held:Bool}
def oA(F:TypeId→Option (List (Option IntKind))):List Field→Nat→Option (List (Option IntKind))
 | [],_=>some []
 | f :: fs, off => if f.name ≠ "_" ∧ f.offset = off then (F f.type).bind fun l => (oA F fs (off + l.length)).map (l ++ ·) else none
def tE(P:Program):Nat→TypeId→Option (List (Option IntKind))
 | 0,_=>none
 | d+1,t =>
  match P.underlying t with
  | some .bool=>if(P.info? t).map (·.size)=some 1 then some [none]else none
  | some (.int k)=>if(P.info? t).map (·.size)=some 1 then some [some k]else none
  | some (.struct fs)=>(oA (tE P d) fs.toList 0).bind fun l=>if P.stoodInHeld t=false∧(P.info? t).map (·.size)=some l.length then some l else none
  | _=>none
theorem yY{F:TypeId→Option (List (Option IntKind))}{f:Field}{fs:List Field}{off:Nat}{l:List (Option IntKind)}(h:oA F (f :: fs) off=some l):
    f.name ≠ "_" ∧ f.offset = off ∧ ∃ l1 l2, F f.type = some l1 ∧ oA F fs (off + l1.length) = some l2 ∧ l = l1 ++ l2 := by
 simp only[oA]at h
 split at h
 ·rename_i hc
  obtain⟨l1,h1,h2⟩:=Option.bind_eq_some_iff.1 h
  obtain⟨l2,h3,h4⟩:=Option.map_eq_some_iff.1 h2
  exact⟨hc.1,hc.2,l1,l2,h1,h3,h4.symm⟩
 ·cases h
theorem yZ{d:Nat}{t:TypeId}{fs:Array Field}{l:List (Option IntKind)}(hu:P.underlying t=some (.struct fs))(h:tE P (d+1) t=some l):
    oA (tE P d) fs.toList 0=some l∧P.stoodInHeld t=false∧(P.info? t).map (·.size)=some l.length:=by
 simp only[tE,hu]at h
 obtain⟨l1,h1,h2⟩:=Option.bind_eq_some_iff.1 h
 split at h2
 ·rename_i hc
  cases h2
  exact⟨h1,hc.1,hc.2⟩
 ·cases h2
theorem aFV{d:Nat}{t:TypeId}{l:List (Option IntKind)}(h:tE P d t=some l):(P.info? t).map (·.size)=some l.length:=by
 cases d with
 | zero=>simp[tE]at h
 | succ d =>
  cases hu:P.underlying t with
  | none=>simp[tE,hu]at h
  | some q =>
   cases q<;>simp[tE,hu]at h
   case bool=>obtain⟨h1,rfl⟩:=h;simpa using h1
   case int=>obtain⟨h1,rfl⟩:=h;simpa using h1
   case struct fs =>
    obtain⟨l1,h1,h2⟩:=Option.bind_eq_some_iff.1 h
    split at h2
    ·rename_i hc
     cases h2
     simpa using hc.2
    ·cases h2
theorem nR{d:Nat}{t:TypeId}{l:List (Option IntKind)}(h:tE P d t=some l):P.cellsOf t=l.length:=by
 simp[Program.cellsOf,aFV h]
theorem vX{d n:Nat}{cs:List Value}(IH:∀(t:TypeId) (l:List (Option IntKind)) (cs:List Value) (x:DataW H × List MemPlace),tE P d t=some l→DataW.trod enc P w base spare held n t cs=some x→Typed l cs):
    ∀(fs:List Field) (off:Nat) (l:List (Option IntKind)),oA (tE P d) fs off=some l→(∀f∈fs,∃y,DataW.trod enc P w base spare held n f.type ((cs.drop f.offset).take (P.cellsOf f.type))=some y)→Typed l ((cs.drop off).take l.length)
 | [],off,l,h,_=>by
  simp only[oA]at h
  cases h
  exact⟨by simp,fun j k hj=>by simp at hj⟩
 | f :: fs,off,l,h,hy=>by
  obtain⟨_,ho,l1,l2,h1,h2,rfl⟩:=yY h
  obtain⟨y,hy1⟩:=hy f (by simp)
  have t1:=IH f.type l1 _ y h1 hy1
  rw[nR h1,ho]at t1
  have t2:=vX IH fs (off+l1.length) l2 h2 (fun g hg=>hy g (by simp[hg]))
  have:=t1.append t2
  rw[List.length_append,List.take_add,List.drop_drop]
  exact this
theorem qF:∀(d:Nat) (t:TypeId) (l:List (Option IntKind)) (n:Nat) (cs:List Value) (x:DataW H × List MemPlace),tE P d t=some l→DataW.trod enc P w base spare held n t cs=some x→Typed l cs
 | 0,_,_,_,_,_,h,_=>by simp[tE]at h
 | d+1,t,l,n,cs,x,h,hx=>by
  cases hu:P.underlying t with
  | none=>simp[tE,hu]at h
  | some q =>
   have h':=h
   cases q<;>simp[tE,hu]at h
   case bool =>
    obtain⟨_,rfl⟩:=h
    obtain⟨b,rfl,_⟩:=DataW.trod_bool hu hx
    refine⟨rfl,fun j k hj=>?_⟩
    match j,hj with
    | 0,hj=>cases hj;exact⟨_,rfl,b,rfl⟩
   case int k =>
    obtain⟨_,rfl⟩:=h
    obtain⟨z,rfl,_,hz⟩:=DataW.trod_int hu hx
    refine⟨rfl,fun j k' hj=>?_⟩
    match j,hj with
    | 0,hj=>cases hj;exact⟨_,rfl,z,rfl,hz⟩
   case struct fs =>
    obtain⟨h1,_,hz⟩:=yZ hu h'
    obtain⟨xs,m,_,_,hl,hlen,hf⟩:=DataW.trod_struct hu hx
    have hl':cs.length=l.length:=by rw[hl];exact nR h'
    have:=vX (cs:=cs) (fun t l cs x h hx=>qF d t l m cs x h hx) fs.toList 0 l h1 (fun f hf'=>by
     obtain⟨i,hi,rfl⟩:=List.getElem_of_mem hf'
     have hi':i<fs.size:=by simpa using hi
     have:=hf i fs[i] (by simp[hi'])
     rw[List.getElem?_eq_getElem (by omega)]at this
     exact⟨_,this⟩)
    rw[List.drop_zero,List.take_of_length_le (by omega)]at this
    exact this
end
section
variable {P:Program} {H:Type} {enc:TypeId × Value→H} {w:World}
theorem vY{d n:Nat}{t e:TypeId}{l:List (Option IntKind)}{c:Value}{x:DataW H × List MemPlace}(ht:P.underlying t=some (.slice e))(he:tE P d e=some l)(hl:0<l.length)(h:DataW.trod enc P w 0 (fun _=>true) true n t [c]=some x):∃m xs,IsRow w l.length c m xs∧RowTyped l m xs:=by
 rcases DataW.trod_slice ht h with ⟨hc,_⟩|⟨a,len,cap,elems,rest,k,_,hc,_,_,hlc,hm,hlen,hel,_,_⟩
 ·refine⟨0,[],⟨by simp,.inl ⟨rfl,.inl (by simpa using hc)⟩⟩,by simp,fun i hi=>by omega⟩
 ·have hc':c=.slice (some a) len cap:=by simpa using hc
  rw[nR he]at hel
  by_cases h0:len=0
  ·subst h0
   exact⟨0,[],⟨by simp,.inl ⟨rfl,.inr ⟨a,cap,hc'⟩⟩⟩,by simp,fun i hi=>by omega⟩
  ·have each:∀i,i<len→∃cs,(∀j,j<l.length→w.cell? ((a.add (i*l.length)).add j)=cs[j]?)∧Typed l cs:=by
    intro i hi
    have:=hel i hi
    rw[List.getElem?_eq_getElem (by omega)]at this
    obtain⟨cs,h1,h2⟩:=Option.bind_eq_some_iff.1 this
    obtain⟨_,_,h3⟩:=World.cells?_some h1
    exact⟨cs,h3,qF d e l k cs _ he h2⟩
   obtain⟨b,off,spot⟩:=a
   have hspot:spot=none:=by
    obtain⟨cs,h1,h2⟩:=each 0 (by omega)
    have:=h1 0 hl
    obtain⟨v,hv⟩:∃v,cs[0]?=some v:=⟨cs[0]'(by rw[h2.1];exact hl),by simp⟩
    rw[hv]at this
    simpa[Addr.add]using World.cell?_spot this
   subst hspot
   have cell:∀i,i<len→∃cs,(∀j,j<l.length→w.cell? ⟨b,off+(i*l.length+j),none⟩=cs[j]?)∧Typed l cs:=by
    intro i hi
    obtain⟨cs,h1,h2⟩:=each i hi
    refine⟨cs,fun j hj=>?_,h2⟩
    have:=h1 j hj
    rw[Addr.add_mid,Addr.add_mid,Nat.add_assoc]at this
    exact this
   have hb:b<w.heap.size:=by
    obtain⟨cs,h1,h2⟩:=cell 0 (by omega)
    have:=h1 0 hl
    obtain⟨v,hv⟩:∃v,cs[0]?=some v:=⟨cs[0]'(by rw[h2.1];exact hl),by simp⟩
    rw[hv]at this
    exact World.block_lt_of_cell? w _ this
   have part:∀i,i<len→Typed l ((((List.range (len*l.length)).map fun j=>(w.cell? ⟨b,off+j,none⟩).getD undef).drop (i*l.length)).take l.length)∧∀j,j<l.length→∃v,w.cell? ⟨b,off+(i*l.length+j),none⟩=some v:=by
    intro i hi
    obtain⟨cs,h1,h2⟩:=cell i hi
    have hle:(i+1)*l.length≤len*l.length:=Nat.mul_le_mul_right _ hi
    rw[Nat.add_mul,Nat.one_mul]at hle
    have e:(((List.range (len*l.length)).map fun j=>(w.cell? ⟨b,off+j,none⟩).getD undef).drop (i*l.length)).take l.length=cs:=by
     apply List.ext_getElem?
     intro j
     by_cases hj:j<l.length
     ·have hr:i*l.length+j<len*l.length:=by omega
      rw[List.getElem?_take,if_pos hj,List.getElem?_drop,List.getElem?_map,List.getElem?_range hr]
      simp only[Option.map_some]
      rw[h1 j hj,List.getElem?_eq_getElem (by rw[h2.1];exact hj)]
      rfl
     ·rw[List.getElem?_eq_none (by simp;omega),List.getElem?_eq_none (by rw[h2.1];omega)]
    refine⟨e▸h2,fun j hj=>⟨cs[j]'(by rw[h2.1];exact hj),?_⟩⟩
    rw[h1 j hj]
    simp
   refine⟨len,(List.range (len*l.length)).map fun j=>(w.cell? ⟨b,off+j,none⟩).getD undef,⟨by simp,.inr ⟨b,off,cap,hc',by omega,hlc,hm,hb,fun j v hv=>?_⟩⟩,by simp,fun i hi=>(part i hi).1⟩
   have hj:j<len*l.length:=by simpa using(List.getElem?_eq_some_iff.1 hv).1
   have hi:j / l.length<len:=Nat.div_lt_of_lt_mul (by rw[Nat.mul_comm];exact hj)
   obtain⟨u,hu⟩:=(part _ hi).2 (j % l.length) (Nat.mod_lt _ hl)
   have e:j / l.length*l.length+j % l.length=j:=by rw[Nat.mul_comm];exact Nat.div_add_mod j _
   rw[e]at hu
   simp[List.getElem?_map,List.getElem?_range hj,hu]at hv
   rw[hu,hv]
end
theorem y6(h:Pt)(l:List Pt):rU (h :: l)=h.L++rU l:=by simp[rU]
def SusAt(w:World)(v:Value)(L:List Pt):Prop:=∃a cap,v=.slice a L.length cap∧L.length≤9223372036854775807∧(0<L.length→∃b off,a=some ⟨b,off,none⟩∧b<w.heap.size∧L.length≤cap∧cap≤9223372036854775807∧w.rangeAt b off (rU L))
theorem SusAt.pts{w:World}{v:Value}{L:List Pt}(h:SusAt w v L)(hL:L.length≤1000):PtsAt w v L:=by
 obtain⟨a,cap,e,hm,hf⟩:=h
 refine⟨a,cap,e,by omega,fun h0=>?_⟩
 obtain⟨b,off,e1,hb,h1,h2,h3⟩:=hf h0
 refine⟨b,off,e1,hb,h1,h2,fun i hi j v hv=>?_⟩
 have h4:=h3 (i*5+j) v (mV Pt.L 5 (fun _=>rfl) default L i j v hi hv)
 rw[Nat.add_assoc]
 exact h4
theorem aKS:tE Tryz.prog 6 76=some [some .u16,some .u32,none,none,none]:=by kernel_rfl
theorem aFW:∀(m:Nat) (xs:List Value),RowTyped [some .u16,some .u32,none,none,none] m xs→∃L:List Pt,L.length=m∧rU L=xs∧∀h∈L,PtR h
 | 0,xs,h=>⟨[],rfl,by
     have:=h.1
     rw[Nat.zero_mul]at this
     rw[List.length_eq_zero_iff.1 this]
     rfl,fun h hh=>by cases hh⟩
 | m+1,xs,h=>by
  obtain⟨h1,h2⟩:=h
  have e3:([some .u16,some .u32,none,none,none]:List (Option IntKind)).length=5:=rfl
  rw[e3]at h1 h2
  obtain ⟨L,l1,l2,l3⟩:=aFW m (xs.drop 5) ⟨by rw[e3,List.length_drop];omega,fun i hi=>by
   rw[e3,List.drop_drop]
   have:=h2 (i+1) (by omega)
   rw[show 5+i*5=(i+1)*5 by omega]
   exact this⟩
  have ht:=h2 0 (by omega)
  rw[Nat.zero_mul,List.drop_zero]at ht
  obtain⟨z0,c0,w0⟩:=ht.int 0 .u16 rfl
  obtain⟨z1,c1,w1⟩:=ht.int 1 .u32 rfl
  obtain⟨z2,c2⟩:=ht.bool 2 rfl
  obtain⟨z3,c3⟩:=ht.bool 3 rfl
  obtain⟨z4,c4⟩:=ht.bool 4 rfl
  refine⟨⟨z0,z1,z2,z3,z4⟩ :: L,by simp[l1],?_,fun h hh=>?_⟩
  ·rw[y6,l2,←List.take_append_drop 5 xs,List.drop_append,List.length_take,Nat.min_eq_left (by omega),Nat.sub_self,List.drop_zero,List.drop_eq_nil_of_le (by rw[List.length_take];omega),List.nil_append]
   congr 1
   apply List.ext_getElem?
   intro j
   match j with
   | 0=>exact c0.symm
   | 1=>exact c1.symm
   | 2=>exact c2.symm
   | 3=>exact c3.symm
   | 4=>exact c4.symm
   | j+5=>rw[List.getElem?_eq_none (by show 5≤_;omega),List.getElem?_eq_none (by rw[List.length_take];omega)]
  ·rcases List.mem_cons.1 hh with rfl|hh
   ·have h0:=wD w0
    have h1:=oV w1
    unfold PtR
    dsimp only
    omega
   ·exact l3 h hh
theorem open_sus{H:Type}{enc:TypeId × Value→H}{w:World}{r:Reach}{b0:Nat}{v:Value}{d:DataW H}{p:List MemPlace}(hv:Value.okWide Tryz.prog w r b0 25 v)(h:DataW.Trod enc Tryz.prog w 0 (fun _=>true) true 25 v d p):∃L:List Pt,SusAt w v L∧∀h∈L,PtR h:=by
 obtain⟨fuel,hf⟩:=h
 obtain⟨a0,l0,c0,rfl⟩:=okWide_slice Tryz.underlying25 hv
 obtain⟨m,xs,hr,ht⟩:=vY Tryz.underlying25 aKS (by decide) hf
 obtain⟨L,rfl,rfl,hw⟩:=aFW m xs ht
 refine⟨L,?_,hw⟩
 rcases hr.2 with ⟨h0,h1|⟨a,cap,h1⟩⟩|⟨b,off,cap,h1,g0,g1,g2,h2,h3⟩
 ·cases h1
  exact⟨_,0,by rw[h0],by omega,fun h=>by omega⟩
 ·cases h1
  exact⟨_,c0,by rw[h0],by omega,fun h=>by omega⟩
 ·cases h1
  unfold maxLen at g2
  exact⟨_,c0,rfl,by omega,fun _=>⟨b,off,rfl,h2,g1,by omega,h3⟩⟩
def AL:List (Option IntKind):=[some .u8,some .u8,none]++ML
def ActsAt(w:World)(v:Value)(m:Nat)(xs:List Value):Prop:=∃a cap,v=.slice a m cap∧m≤9223372036854775807∧RowTyped AL m xs∧(0<m→∃b off,a=some ⟨b,off,none⟩∧b<w.heap.size∧m≤cap∧cap≤9223372036854775807∧w.rangeAt b off xs)
end Go.Proofs.YtpanapepcbbagaaGreat
namespace Go.Proofs.YtpanapepcbbagaaGreat
open Go.RowKit Go.BigFrame Go.WideShapes Go.ChangeShapes Go.Deep
theorem aAP{P:Program}{ops:Array Oper}{rest:List Oper}{op:Oper}{a:Act}{w:World}{Q:Exit→Act→World→Prop}(hgd:op.guard=none)(hdst:op.dst=none)(ty:TypeId)(x y:Operand)(ho:op.op=.store ty x y)(g o:Nat)(u:Value)(cs:Array Value)(t:TypeId)(hx:a.eval x=.pointer (some ⟨g,o,none⟩))(hy:a.eval y=u)(hX:w.heap[g]?=some (.cells cs t (0,0)))(hl:o<cs.size)(hv:u.cells=#[u])(hi:(P.info? ty).map (·.size)=some 1)(h1:u.oneCell'=true)(h:∀w',w'.heap[g]?=some (.cells (cs.setIfInBounds o u) t (0,0))→Mut (fun n=>n=g) w w'→wpList P ops Q rest a w'):wpList P ops Q (op :: rest) a w:=by
 have hl2:o+1≤cs.size:=hl
 refine dS hgd hdst ty x y ho g o u #[u] cs (cs.setIfInBounds o u) t hx hy hv hX hl2 (by simpa using hi) (by simpa using h1) ?_ h
 apply Array.ext'
 simp only[Array.toList_setIfInBounds,List.size_toArray,List.length_cons,List.length_nil]
 rw[List.set_eq_take_append_cons_drop,if_pos (by rw[Array.length_toList];exact hl2)]
 simp
theorem WB.nilOut{N:Nat→Prop}{X g:Nat}{w:World}{B:Br}(h:WB N X g B w)(ho:B.ok):∃cs,w.heap[X]?=some (.cells cs 35 (0,0))∧cs.size=20∧∀w',w'.heap[X]?=some (.cells (cs.setIfInBounds 18 (.slice none 0 0)) 35 (0,0))→Mut (fun n=>n=X) w w'→WB N X g { B with no:=0,os:=[] } w':=by
 have hne:=BrG.lt h
 obtain⟨h1,h2,cap,cur,s2,s3,a,b,c,d,e,f,p,q,r,s⟩:=h
 have hl:B.hd.length=17:=ho.hd.1
 refine⟨_,a,by simp[hl],fun w' hX hm=>?_⟩
 have hk:∀k,k≠X→k<w.heap.size→w'.heap[k]?=w.heap[k]?:=fun k hk hl=>hm.heap hl (fun h=>hk h)
 have hsz:=hm.size
 have q':w'.ownsRow 0 3 1 s3 B.nf B.fl:=iP q (fun k hk' hl=>hk k (fun e=>by
  subst e
  rcases q.2 with hn|⟨g3,cap3,cur3,rfl,hb3,hg3,-⟩
  ·rw[hn.1]at hk';cases hk'
  ·obtain rfl:g3=k:=by simpa[Value.ownBlock]using hk'
   rw[a]at hg3
   simp at hg3) hl)
 refine⟨⟨h1.1,nL h1.2 hsz⟩,⟨h2.1,nL h2.2 hsz⟩,cap,cur,.slice none 0 0,s3,?_,(hk g (fun e=>hne.2.2 e.symm) (aC b)).trans b,c,d,e,f,⟨by simp,.inl ⟨rfl,rfl⟩⟩,q',fun k hk'=>(by cases hk'),fun k hk'=>⟨(s k hk').1,nL (s k hk').2 hsz⟩⟩
 rw[hX]
 congr 2
 apply Array.ext'
 rw[Array.toList_setIfInBounds]
 show(B.hd++[.slice (some ⟨g,0,none⟩) B.np cap,s2,s3]).set 18 _=B.hd++[.slice (some ⟨g,0,none⟩) B.np cap,.slice none 0 0,s3]
 rw[List.set_append_right _ _ (by omega),hl]
 rfl
def aH5:Array Value:=#[.int .u8 0,.int .u8 0,.bool false,.int .i64 0,.bool false,.bool false,.bool false,.bool false,.bool false,.bool false,.int .i64 0,.int .u64 0,.int .u32 0,.int .u64 0,.int .u16 0,.int .u16 0,.int .i64 0,.int .i64 0,.int .i64 0,.int .i64 0]
def FlZ:Array Value:=Array.replicate 29 (.bool false)
def flL(B:Br)(k:Nat):List Value:=(B.ps.drop (k*89+22)).take 29
section
variable {c d:Pc} {n M:Nat} {s:Nat→Nat} {B C:Br}
def GA(j:Nat):Bool:=!(j == 20 || j == 27 || j == 29)
theorem aND(B:Br)(k:Nat):Fr GA B (tD B k).2:=by
 unfold tD lP nY nD nE
 repeat' split
 all_goals repeat (first|exact Fr.rf _ B|refine Fr.setp ?_ (by decide) (by decide))
theorem aMW(B:Br)(k:Nat):Fr GA B (gD B k).2:=by
 unfold gD cX dW fL
 repeat' split
 all_goals repeat (first|exact Fr.rf _ B|refine Fr.setp ?_ (by decide) (by decide))
theorem aMI(B:Br)(k:Nat):Fr GA B (fM B k).2:=by
 unfold fM iM j6
 repeat' split
 all_goals repeat (first|exact Fr.rf _ B|refine Fr.setp ?_ (by decide) (by decide))
theorem aK6(B:Br)(k r:Nat):Fr GA B (dY B k r):=by
 unfold dY kT eG jU oL gF iN jV
 split
 all_goals repeat (first|exact Fr.rf _ B|refine Fr.setp ?_ (by decide) (by decide)|refine Fr.upd ?_ (by decide) (by decide) _)
theorem aNE(B:Br)(k:Nat):Fr GA B (oM B k).2:=by
 unfold oM mO
 repeat' split
 all_goals first|exact Fr.rf _ B|exact aK6 B k _|exact(aK6 B k _).setp (by decide) (by decide)
theorem aCT(B:Br)(k:Nat):Fr GA B (bF B k):=by
 unfold bF
 repeat' split
 all_goals repeat (first|exact Fr.rf _ B|refine Fr.setp ?_ (by decide) (by decide))
theorem aIX(h:Fr GA B C)(k:Nat):Fr GA B (dM C k):=by
 unfold dM dH
 refine Fr.tcpn ?_ (by decide) _
 repeat (first|exact h|refine Fr.setp ?_ (by decide) (by decide))
theorem aMX(B:Br)(k:Nat):Fr GA B (jN B k).2:=by
 unfold jN
 split
 ·have h:Fr GA B (B.flush k):=⟨rfl,rfl,rfl,rfl,Nat.le_refl _,fun _ _ _ _=>rfl⟩
  exact Fr.setp (k:=k) (j:=25) (v:=.bool false) h (by decide) (by decide)
 ·unfold pJ dR fT i5 gG pH
  repeat' split
  all_goals repeat (first
   | exact Fr.rf _ B
   | exact aCT B k
   | exact aIX (Fr.rf _ B) k
   | exact aIX (aCT B k) k
   | exact Fr.tcpn (aCT B k) (by decide) _
   | refine Fr.setp ?_ (by decide) (by decide))
theorem aNF(B:Br)(k i:Nat){j:Nat}(hj:GA j=false):(wC B k).2.ps[i*89+j]?=B.ps[i*89+j]?:=by
 have hlt:j<89:=by unfold GA at hj;simp at hj;omega
 have st:∀(D:Br) (x:Nat) (v:Value),x<89→GA x=true→(D.setp k x v).ps[i*89+j]?=D.ps[i*89+j]?:=fun D x v hx hA=>by
  have hne:x≠j:=fun e=>by subst e;rw[hA]at hj;cases hj
  exact List.getElem?_set_ne (by omega)
 unfold wC gM kE dZ
 repeat' split
 all_goals repeat (first|rfl|refine(st _ _ _ (by decide) (by decide)).trans ?_)
def KL(L M:List Value):Prop:=M.length=89∧∀x,x=20∨x=27∨x=29→M[x]?=L[x]?
variable {L N:List Value}
theorem KL.set(h:KL L N){j:Nat}{v:Value}(hj:j≠20∧j≠27∧j≠29:=by decide):KL L (N.set j v):=⟨by rw[List.length_set];exact h.1,fun x hx=>(List.getElem?_set_ne (by omega)).trans (h.2 x hx)⟩
theorem KL.row(h:KL L N){j:Nat}{l:List Value}(hj:(j=68∧l.length=5)∨(j=78∧l.length=4)):KL L (setL N j l):=⟨bH h.1 (by omega),fun x hx=>(eD h.1 (by omega) (by omega)).trans (h.2 x hx)⟩
theorem KL.prop(h:KL L N)(p:Bool):KL L (dU p N):=by
 cases p
 ·exact h
 ·exact h.set
theorem KL.agr(h:KL L N)(p:Bool):KL L (iF p N):=by
 cases p
 ·exact h.set
 ·exact h.set.set
theorem KL.chg(h:KL L N)(p q:Bool):KL L (l8 p q N):=h.set.set
theorem KL.inf(h:KL L N)(p:Bool):KL L (aAW p N):=by
 cases p
 ·exact h
 ·exact h.set.set
theorem KL.oth(h:KL L N)(p:Bool):KL L (aAX p N):=by
 cases p
 ·exact h
 ·exact h.set
theorem aMA(hl:L.length=89)(rst:Bool):KL L (lD rst L).2:=by
 have h0:KL L L:=⟨hl,fun _ _=>rfl⟩
 have hle:=aE8 (pB L 2) (pI L 86 == 0) (pI L 18 == 0) (pB L 36) (pI L 18 == 1) (pI L 18 == 2) (pB L 44) (pB L 50) (pI L 86 == 3) (pI L 11 == 0)
 unfold lD
 rcases(by unfold iZ;omega:iZ L=0∨iZ L=1∨iZ L=2∨iZ L=3∨iZ L=4)with h|h|h|h|h<;>rw[h]
 ·exact h0
 ·show KL L (qI L)
  unfold qI nB
  exact h0.set.set.set.set.set.set.set.set.set.set
 ·show KL L (qJ L)
  unfold qJ nB
  exact h0.set.set.set.set
 ·show KL L (lK L)
  unfold lK aGG aDV
  exact(((h0.set.set.set.set.row (.inl ⟨rfl,rfl⟩)).row (.inr ⟨rfl,rfl⟩)).set.set.set).set
 ·show KL L (j7 rst L)
  unfold j7 lJ
  split
  ·unfold aDU nB
   exact(((((((h0.set.set.prop _).chg _ _).set.agr _).set.row (.inl ⟨rfl,rfl⟩)).row (.inr ⟨rfl,rfl⟩)).set.set.set.set).set).set
  ·exact((((h0.prop _).chg _ _).agr _).set).set.set
  ·exact(h0.inf _).set.set
  ·exact((h0.agr _).chg _ _).set.set
  ·exact(h0.oth _).set.set
theorem aNG(hK:KI n M s B){k j:Nat}(hk:k<n)(hj:j<8)(h5:j≠5)(i:Nat){x:Nat}(hx:x=20∨x=27∨x=29):pc (fF j B k).2 i x=pc B i x:=by
 have hkp:k<B.np:=by rw[hK.np];exact hk
 have hx9:x<89:=by omega
 have hA:GA x=false:=by rcases hx with rfl|rfl|rfl<;>rfl
 have go:∀{D:Br},Fr GA B D→pc D i x=pc B i x:=fun h=>by rw[jZ hx9,jZ hx9,h.ps i x hx9 hA]
 rcases(by omega:j=0∨j=1∨j=2∨j=3∨j=4∨j=6∨j=7)with rfl|rfl|rfl|rfl|rfl|rfl|rfl
 ·exact go (aND B k)
 ·exact go (aMW B k)
 ·exact go (aMI B k)
 ·have hl:=nT (dI hK.ok hkp)
  obtain⟨h1,h2⟩:=aMA hl (B.hb 1)
  show pc (B.setPort k (lD (B.hb 1) (a9 B.ps k)).2) i x=_
  rw[pV h1 (mT hK.ok hkp)]
  split
  ·rename_i e
   rw[e]
   exact h2 x hx
  ·rfl
 ·exact go (aNE B k)
 ·exact go (aMX B k)
 ·rw[jZ hx9,jZ hx9]
  exact aNF B k i hA
def PSc(c:Pc):Prop:=(gI c 20=0∧gB c 27=false∧gB c 29=false)∨(gI c 20=1∧gB c 27=false)∨gI c 20=2
theorem aCW(hK:KI n M s B)(hn:n<1000){i j:Nat}(hi:i<n)(hj:j<89)(hne:j≠43∧j≠44∧j≠88∧j≠50∧(j<73∨78≤j)∧(j<82∨86≤j)):pc (gA B).2 i j=pc B i j:=by
 have ho:=hK.ok
 have hl:B.np*89≤B.ps.length:=by rw[ho.len];exact Nat.le_refl _
 have hi2:i<B.np:=by rw[hK.np];exact hi
 have e0:(lW B B.np).ps[i*89+j]?=B.ps[i*89+j]?:=by
  show(B.upd 43 (fun _=>.bool false) B.np).ps[i*89+j]?=_
  rw[l6 B (by decide) _ hl hj,if_neg (by omega)]
 unfold gA
 split
 ·have okN:=o4 ho (Nat.le_refl B.np)
  have npN:(lW B B.np).np=B.np:=gS B 43 _ _
  have ok2:(dO (lW B B.np)).ok:=pR okN (by rw[npN,hK.np];exact hn) (fun k hk=>by
   rw[wM ho (by decide) (by decide)]
   have:=hK.pt k (by rw[←hK.np,←npN];exact hk)
   unfold PI at this
   omega)
  have iD:i<(dO (lW B B.np)).np:=by show i<(lW B B.np).np;rw[npN];exact hi2
  show pc (eF (dO (lW B B.np)) B.np) i j=_
  rw[jZ hj,jZ hj,rQ ok2 B.np (by show B.np≤(lW B B.np).np;rw[npN];exact Nat.le_refl _) i j iD hj,if_pos hi2,aJ3 (nT (dI ok2 iD)) ⟨by omega,by omega,by omega,by omega,by omega⟩,aI hj]
  exact e0
 ·show pc (lW B B.np) i j=_
  rw[jZ hj,jZ hj]
  exact e0
theorem aCG(hK:KI n M s B){k j:Nat}(hk:k<n)(hj:j<8)(ha:AI (pc B k)):(eV (pc B k) (pc (fF j B k).2 k)∨(j=0∧RxR (pc B k) (pc (fF j B k).2 k))∨(j=3∧InR (pc B k) (pc (fF j B k).2 k))∨(j=4∧∃e,TrO (pc B k) (pc (fF j B k).2 k) e))∧∀i,i≠k→eV (pc B i) (pc (fF j B k).2 i):=by
 have hkp:k<B.np:=by rw[hK.np];exact hk
 have hl:=mT hK.ok hkp
 have same:∀{C:Br},(∀i,i≠k→pc C i=pc B i)→∀i,i≠k→eV (pc B i) (pc C i):=fun h i hi=>by rw[h i hi];exact bJ _
 rcases(by omega:j=0∨j=1∨j=2∨j=3∨j=4∨j=5∨j=6∨j=7)with rfl|rfl|rfl|rfl|rfl|rfl|rfl|rfl
 ·obtain⟨-,h1,h2⟩:=aE7 hl
  exact⟨.inr (.inl ⟨rfl,h1⟩),same h2⟩
 ·obtain⟨h1,h2⟩:=(sZ hl).core (fun h=>h.1)
  exact⟨.inl h1,same h2⟩
 ·obtain⟨h1,h2⟩:=(pX hl).core (fun h=>h.1)
  exact⟨.inl h1,same h2⟩
 ·obtain⟨-,-,h1,h2⟩:=s8 hK.ok hkp (hK.timR hk)
  exact⟨.inr (.inr (.inl ⟨rfl,h1⟩)),same h2⟩
 ·rcases yK hK.ok hkp hK.hs.2.1 hK.hs.2.2.1 hK.hs.2.2.2.1 ha.2.1 with e|⟨-,⟨h1,h2⟩|⟨h1,h2⟩⟩
  ·have e2:(fF 4 B k).2=B:=by show(oM B k).2=B;rw[e]
   rw[e2]
   exact⟨.inl (bJ _),fun i _=>bJ _⟩
  ·exact⟨.inr (.inr (.inr ⟨rfl,_,h1⟩)),same h2⟩
  ·exact⟨.inr (.inr (.inr ⟨rfl,_,h1⟩)),fun i hi=>(h2 i hi).elim (fun h=>by show eV _ (pc (oM B k).2 i);rw[h];exact bJ _) (fun h=>(aE1 h).1)⟩
 ·obtain⟨h1,h2⟩:=(s5 hl).core (fun h=>h.1)
  exact⟨.inl h1,same h2⟩
 ·rcases s7 hK.ok hkp (yQ ha)with h1|⟨-,h1,h2⟩
  ·obtain⟨h1,h2⟩:=h1.core (fun h=>h.1)
   exact⟨.inl h1,same h2⟩
  ·exact⟨.inl h1.1,fun i hi=>(h2 i hi).elim (fun h=>by show eV _ (pc (jN B k).2 i);rw[h];exact bJ _) (fun h=>(zV h).1)⟩
 ·obtain⟨h1,h2⟩:=(yH hl hK.hs.2.2.1 hK.hs.2.2.2.2).core (fun h=>h.1)
  exact⟨.inl h1,same h2⟩
structure Kp (p:Pc→Prop):Prop where
 cp:CP p
 rx:∀c d,AI c→p c→RxR c d→p d
 inf:∀c d,AI c→p c→InR c d→p d
 tr:∀c d e,AI c→p c→TrO c d e→p d
 se:∀c d,AI c→p c→SeR c d→p d
theorem aHR(hK:KI n M s B)(hn:n<1000)(ha:∀i,i<n→AI (pc B i)):(gA B=(false,B)∧∀i,i<n→gB (pc B i) 43=false)∨((gA B).1=true∧∀i,i<n→SeR (pc B i) (pc (gA B).2 i)) :=
 s9 hK.ok hK.np hn (fun k hk=>by
  have:=hK.pt k (by rw[←hK.np];exact hk)
  unfold PI at this
  omega) (fun i hi=>(ha i hi).2.2.1)
theorem Kp.keep1{p:Pc→Prop}(h:Kp p)(hn:n<1000){i:Nat}(hi:i<n):Keeps n s (fun B=>p (pc B i)):=by
 refine⟨fun M B hK ha h0=>?_,fun M k j B hK hk hj ha h0=>?_⟩
 ·rcases aHR hK hn ha with ⟨e,-⟩|⟨-,e⟩
  ·rw[e]
   exact h0
  ·exact h.se _ _ (ha i hi) h0 (e i hi)
 ·obtain ⟨h1,h2⟩:=aCG hK hk hj (ha k hk)
  by_cases hik:i=k
  ·subst hik
   rcases h1 with h1|⟨-,h1⟩|⟨-,h1⟩|⟨-,e,h1⟩
   ·exact h.cp _ _ h1 h0
   ·exact h.rx _ _ (ha i hi) h0 h1
   ·exact h.inf _ _ (ha i hi) h0 h1
   ·exact h.tr _ _ _ (ha i hi) h0 h1
  ·exact h.cp _ _ (h2 i hik) h0
theorem Kp.keeps{p:Pc→Prop}(h:Kp p)(hn:n<1000):Keeps n s (fun B=>∀i,i<n→p (pc B i)) :=
 ⟨fun M B hK ha h0 i hi=>(h.keep1 hn hi).sel M B hK ha (h0 i hi),fun M k j B hK hk hj ha h0 i hi=>(h.keep1 hn hi).st M k j B hK hk hj ha (h0 i hi)⟩
def L2(c:Pc):Prop:=gB c 2=false
theorem aJA(v:Bool):Kp (fun c=>gB c 2=v):=by
 refine⟨fun c d h hp=>(aFD h).1.1.trans hp,fun c d _ hp h=>?_,fun c d _ hp h=>?_,fun c d e _ hp h=>(kts h.kt).1.1.trans hp,fun c d _ hp h=>?_⟩
 ·obtain ⟨d0,h1,h2⟩:=h
  refine(aFD h1).1.1.trans ?_
  rcases h2 with ⟨rfl,-⟩|⟨rfl,-⟩|⟨rfl,-⟩
  ·exact hp
  all_goals
   simp only[bE,Nat.reduceEqDiff,if_false]
   exact hp
 ·obtain ⟨d0,h1,h2⟩:=h
  refine(aFD h1).1.1.trans ?_
  rcases h2 with ⟨-,rfl⟩|⟨-,rfl⟩|⟨-,rfl⟩|⟨-,rfl⟩|⟨-,e,rfl,rfl|⟨z,rfl⟩|⟨z,rfl⟩⟩
  ·exact hp
  all_goals
   simp only[oO,bE,Nat.reduceEqDiff,if_false]
   exact hp
 ·obtain⟨d0,r,u,h1,rfl,-⟩:=h
  refine(aFD h1).1.1.trans ?_
  simp only[bE,Nat.reduceEqDiff,if_false]
  exact hp
def D0(c:Pc):Prop:=gB c 2=false∧gB c 35=false∧gB c 36=false∧gI c 86=0∧gI c 87=0∧gI c 88=0
theorem aK7:CP D0:=fun c d h hp=>by
 obtain⟨⟨b2,-,-,b35,b36,-⟩,-,-,-,-,-,i86,i87,i88⟩:=aFD h
 exact⟨b2.trans hp.1,b35.trans hp.2.1,b36.trans hp.2.2.1,i86.trans hp.2.2.2.1,i87.trans hp.2.2.2.2.1,i88.trans hp.2.2.2.2.2⟩
theorem d0_kp:Kp D0:=by
 refine⟨aK7,fun c d ha hp h=>?_,fun c d ha hp h=>?_,fun c d e ha hp h=>?_,fun c d ha hp h=>?_⟩
 ·obtain ⟨d0,h1,h2⟩:=h
  refine aK7 _ _ h1 ?_
  rcases h2 with ⟨rfl,-⟩|⟨rfl,-⟩|⟨rfl,h2⟩
  ·exact hp
  ·unfold D0 at hp ⊢
   simp only[bE,aV,aCF,aA6,Nat.reduceEqDiff,if_true,if_false]
   exact⟨hp.1,trivial,trivial,hp.2.2.2⟩
  ·exfalso
   unfold gP at h2
   rw[hp.1,hp.2.1]at h2
   simp at h2
   (repeat' split at h2)<;>omega
 ·obtain ⟨d0,h1,h3⟩:=h
  have h0:eX c=0:=by
   unfold AI at ha
   unfold D0 at hp
   unfold eX bX
   grind
  rcases h3 with ⟨-,rfl⟩|⟨h3,-⟩|⟨h3,-⟩|⟨h3,-⟩|⟨h3,-⟩
  ·exact aK7 _ _ h1 hp
  all_goals omega
 ·obtain⟨⟨b2,b35,b36,-⟩,-,-,-,i86,i88⟩:=kts h.kt
  have e:gI c 88=gI c 87:=by rw[hp.2.2.2.2.1,hp.2.2.2.2.2]
  exact⟨b2.trans hp.1,b35.trans hp.2.1,b36.trans hp.2.2.1,i86.trans hp.2.2.2.1,(h.eq e).1.trans hp.2.2.2.2.1,i88.trans hp.2.2.2.2.2⟩
 ·obtain⟨d0,r,u,h1,rfl,-,-,hr,-,-⟩:=h
  refine aK7 _ _ h1 ?_
  unfold D0 at hp ⊢
  simp only[bE,aV,aCF,aA6,Nat.reduceEqDiff,if_true,if_false]
  exact⟨hp.1,hp.2.1,hp.2.2.1,hp.2.2.2.1,hp.2.2.2.2.1,hr.2 hp.2.2.2.1⟩
def AllD0(n:Nat)(B:Br):Prop:=B.no=0∧∀i,i<n→D0 (pc B i)
end
section
variable {c d:Pc} {n M:Nat} {s:Nat→Nat} {B C:Br}
theorem aMP{j k:Nat}(hj:j<8):(fF j B k).2.hd=B.hd:=by
 rcases(by omega:j=0∨j=1∨j=2∨j=3∨j=4∨j=5∨j=6∨j=7)with rfl|rfl|rfl|rfl|rfl|rfl|rfl|rfl
 ·exact(aIH B k).hd
 ·exact(aET B k).hd
 ·exact(zQ B k).hd
 ·rfl
 ·exact(aII B k).hd
 ·exact(aEU B k).hd
 ·exact(aEV B k).hd
 ·show(wC B k).2.hd=B.hd
  unfold wC gM kE dZ
  (repeat' split)<;>rfl
theorem aMQ(hK:KI n M s B){k j:Nat}(hk:k<n)(hj:j<8)(ha:AI (pc B k))(i:Nat):gI (pc (fF j B k).2 i) 88=gI (pc B i) 88:=by
 have co:∀{c d:Pc},eV c d→gI d 88=gI c 88:=fun h=>(aFD h).2.2.2.2.2.2.2.2
 obtain⟨h1,h2⟩:=aCG hK hk hj ha
 by_cases hik:i=k
 ·subst hik
  rcases h1 with h1|⟨-,d0,h1,h3⟩|⟨-,d0,h1,h3⟩|⟨-,e,h1⟩
  ·exact co h1
  ·refine(co h1).trans ?_
   rcases h3 with ⟨rfl,-⟩|⟨rfl,-⟩|⟨rfl,-⟩
   ·rfl
   all_goals simp only[aV,Nat.reduceEqDiff,if_false]
  ·refine(co h1).trans ?_
   rcases h3 with ⟨-,rfl⟩|⟨-,rfl⟩|⟨-,rfl⟩|⟨-,rfl⟩|⟨-,e,rfl,rfl|⟨z,rfl⟩|⟨z,rfl⟩⟩
   ·rfl
   all_goals simp only[oO,aV,Nat.reduceEqDiff,if_false]
  ·exact(kts h1.kt).2.2.2.2.2
 ·exact co (h2 i hik)
theorem aMR(a b:Bool){X:List Value}(h:X.length=89):(dsL a b X)[88]?=some (.int .i64 4):=by
 unfold dsL
 split
 ·exact cE h (by decide)
 ·exact(aF (by decide)).trans (cE h (by decide))
def RPB(n:Nat)(C:Br):Prop:=C.hi 0=7∧(∀i,i<n→gI (pc C i) 88=3→C.hi 12=i)∧((C.hi 12=-1∧C.hi 7=7)∨∃k:Nat,k<n∧C.hi 12=k∧gI (pc C k) 88=3)
def JD(n:Nat)(B:Br):Prop:=RPB n B∧∀i,i<n→PSc (pc B i)
def UA(j:Nat):Prop:=j=20∨j=27∨j=29∨j=88
theorem aJB(hn:n<1000)(h:AtRest n s M B){k:Nat}(hk:k<n)(hP:PSc (pc B k))(h2:gB (pc B k) 2=false):D0 (pc B k)∧gB (pc B k) 27=false∧gB (pc B k) 28=false∧gB (pc B k) 29=false:=by
 have hw:=(h.ww hn hk).1
 obtain⟨⟨ha,⟨y1,y2,y3,y4⟩,hq,hd,h50,h18⟩,h87⟩:=hw
 have h86:=y3.2 h2
 have h88:gI (pc B k) 88=0:=(ha.2.2.2.2.2.2.2.1 hq.2).2 h86
 have h870:gI (pc B k) 87=0:=h87.trans h88
 have hr:=ha.1
 unfold RS at hr
 have h19:gI (pc B k) 19=0∨gI (pc B k) 19=1:=by omega
 obtain⟨h26,h28⟩:=hr.2 (by omega) (by omega)
 have hp:gT B k=(false,B):=h.2.2.2 k 5 hk (by decide)
 unfold gT at hp
 rw[gN (by decide),cM (by decide),cM (by decide),h26,h28]at hp
 have h20:gI (pc B k) 20=0:=by
  rcases hP with h|h|h
  ·exact h.1
  ·rw[h.1]at hp
   simp at hp
  ·rw[h]at hp
   simp at hp
 rcases hP with h|h|h
 ·exact⟨⟨h2,y1,y2,h86,h870,h88⟩,h.2.1,h28,h.2.2⟩
 ·omega
 ·omega
end
theorem aLO{J:Br→Prop}(rst:Bool)(v:Value)(P:List Pt)(w:World)(hP:PtsAt w v P)(hr:∀p∈P,PtR p)(h0:0<P.length)(h5:P.length≤5)(hJ:Keeps P.length (fun _=>0) J)(hJ0:J (NB rst P)):
    Calls Tryz.prog 16 #[.bool rst,v,.slice none 0 0] w fun e w'=>∃c B,e=.returned (.tuple #[.agg c,.bool true])∧VB w' w.heap.size c B∧RQ P.length B∧J B∧Ext w w':=by
 have HP:=hD hP
 have HR:=hD hr
 obtain⟨pa,pcap,rfl,-,-⟩:=hP
 have HJ:=hD hJ
 have HJ0:=hD hJ0
 clear hr hJ hJ0
 go_enter Tryz.func16,Tryz.ntmps16
 go_wp2_with (first
  | fail
  | ((with_reducible refine bS 35 ?_);refine b6 rfl 35 rfl oR jK ?_
     intro RB w1 hq hsz hx
     have HRB:=hD hq
     have HX1:=hD hx
     have HRW:=hD (show w.heap.size≤RB from Nat.le_of_eq hsz)
     clear hq hsz hx)
  | ((with_reducible refine cJ 24 ?_);refine bG rfl 24 _ rfl _ rfl _ aIW ?_))
 refine(yT w1 _ P (aL9 HP.out HX1.out) (by omega)).mono ?_
 rintro e w2 ⟨v2,rfl,hP2,hx2⟩
 have HP2:=hD hP2
 have HX2:=hD hx2
 clear hP2 hx2
 go_wp2_with fail
 refine(nP 7 0 20 2 15 6 rst v2 P w2 HP2.out (by omega) (by decide) (by decide) HR.out rfl rfl rfl rfl).mono ?_
 rintro e w3 ⟨c,ok,rfl,hok,hnew,hx3⟩
 obtain rfl:ok=true:=hok.2 (aH4 (by omega))
 have HSZ:=hD hnew.sz
 rcases hnew with ⟨-,u,hc,hown⟩|⟨h,-⟩
 case inr=>cases h
 have HC:=hD hc
 have HO3:=hD hown
 have HX3:=hD hx3
 clear hok hown hx3 hc
 go_wp2_with (first
  | fail
  | ((with_reducible refine bS 35 ?_);refine b6 rfl 35 rfl oR jK ?_
     intro X w4 hq hsz hx)
  | ((with_reducible refine aD 35 ?_);refine nQ rfl rfl 35 _ _ rfl X c oR 35 rfl rfl hq HSZ.out.1 fP HSZ.out.2 ?_
     intro w5 hq5 hm5
     have HQ5:=hD hq5
     have HO5:=hD (lB (j2 HO3.out hx) hm5 (fun g h1 h2=>by have h3:g=X:=h2;have h4:=(gO HO3.out h1).2;omega))
     have HX5:=hD (show Ext w2 w5 from HX3.out.trans (hx.mutE hm5 (fun g hg h=>by have h2:g=X:=h;omega)))
     have HXN:=hD (show w2.heap.size≤X from by have:=HX3.out.size;omega)
     clear hq hsz hx hq5 hm5 HO3 HX3))
 have hRB5:=((HX2.out.trans HX5.out).block RB (aC HRB.out)).trans HRB.out
 have HRN:=hD (show RB<w2.heap.size from nL (aC HRB.out) HX2.out.size)
 obtain⟨g,hB⟩:=aFN (N:=fun n=>w2.heap.size≤n) (B:=NB rst P) (HC.out▸HQ5.out) HO5.out h0 (fun n hn=>hn) HXN.out ⟨rfl,rfl,rfl,rfl⟩
 have hdn:aIY P.length (NB rst P):=⟨rfl,fun i hi=>aL8 rfl hi⟩
 refine(rT (M:=0) (f:=1) ((aFT (by omega)).and HJ.out) (by decide) h5 h0 (by decide) (NB rst P) w5 (fun n hn=>Nat.le_trans HX5.out.size hn) hB (aIS HR.out rfl) (fun h=>by cases h) (fun _ i hi=>(hdn.2 i hi).1) ⟨hdn,HJ0.out⟩).mono ?_
 rintro e w6 ⟨k,B',rfl,hB6,hm6,hR6,hDN,hJ6⟩
 have HRB6:=hD ((hm6.heap (aC hRB5) (fun h=>by have h1:w2.heap.size≤RB:=h;have h2:=HRN.out;omega)).trans hRB5)
 obtain⟨c6,hrow,hvb⟩:=WB.vb hB6
 have HSZ6:=hD (hvb.sz hR6.1.ok)
 have HROW:=hD hrow
 have HVB:=hD hvb
 have HRQ:=hD (show RQ P.length B' from⟨hR6.mono (by omega),hDN.1⟩)
 have HJ6:=hD hJ6
 have HX6:=hD (show Ext w w6 from((HX1.out.trans HX2.out).trans HX5.out).mutE hm6 (fun j hj h=>by have h2:w2.heap.size≤j:=h;have h3:=(HX1.out.trans HX2.out).size;omega))
 clear hdn hR6 hDN hJ6 hB hB6 hm6 hrow hvb hRB5 HQ5 HO5 HXN HC HSZ
 go_wp2_with fail
 refine wp_loop_rounds 1 ?_
 rw[rounds_succ]
 go_wp2_with (first
  | fail
  | ((with_reducible refine aG 35 ?_);refine wpList_load_row rfl 35 _ rfl X rfl 35 c6 (0,0) _ HROW.out Tryz.underlying35 rfl (by rw[HSZ6.out.1];exact fP) ?_)
  | ((with_reducible refine aD 35 ?_);refine nQ rfl rfl 35 _ _ rfl RB c6 oR 35 rfl rfl HRB6.out HSZ6.out.1 fP HSZ6.out.2 ?_
     intro wz hqz hmz
     have HRZ:=hD hqz
     have HMZ:=hD hmz
     clear hqz hmz))
 refine bodyPost_ret (eS rfl _ _ RB _ _ (0,0) _ rfl HRZ.out Tryz.underlying35 rfl (by rw[HSZ6.out.1];exact fP)) rfl ?_
 refine⟨c6,B',rfl,?_,HRQ.out,HJ6.out,HX6.out.mutE HMZ.out (fun n h1 h2=>by have h3:n=RB:=h2;have h4:=HRW.out;omega)⟩
 have hv:=HVB.out.mut HMZ.out (fun n h1 _ h2=>by have h3:n=RB:=h2;have h4:=HRN.out;omega)
 obtain⟨g',cap,cur,s2,s3,e1,hb,a,b,d,e,f,p,q⟩:=hv
 have hw:w.heap.size≤w2.heap.size:=(HX1.out.trans HX2.out).size
 exact⟨g',cap,cur,s2,s3,e1,Nat.le_trans hw hb,a,b,d,e,f,p0 p hw,p0 q hw⟩
section
variable {B C:Br}
def AB(j:Nat):Bool:=decide (j<51) || j == 87
theorem aNH(B:Br)(k:Nat):Fr AB B (tD B k).2:=by
 unfold tD lP nY nD nE
 repeat' split
 all_goals repeat (first|exact Fr.rf _ B|refine Fr.setp ?_ (by decide) (by decide))
theorem aMY(B:Br)(k:Nat):Fr AB B (gD B k).2:=by
 unfold gD cX dW fL
 repeat' split
 all_goals repeat (first|exact Fr.rf _ B|refine Fr.setp ?_ (by decide) (by decide))
theorem aMJ(B:Br)(k:Nat):Fr AB B (fM B k).2:=by
 unfold fM iM j6
 repeat' split
 all_goals repeat (first|exact Fr.rf _ B|refine Fr.setp ?_ (by decide) (by decide))
theorem aMZ(B:Br)(k:Nat):Fr AB B (gT B k).2:=by
 unfold gT fN fA dN
 repeat' split
 all_goals repeat (first|exact Fr.rf _ B|refine Fr.setp ?_ (by decide) (by decide))
theorem aK8(B:Br)(k r:Nat):Fr AB B (dY B k r):=by
 unfold dY kT eG jU oL gF iN jV
 split
 all_goals repeat (first|exact Fr.rf _ B|refine Fr.setp ?_ (by decide) (by decide)|refine Fr.upd ?_ (by decide) (by decide) _)
theorem aNI(B:Br)(k:Nat):Fr AB B (oM B k).2:=by
 unfold oM mO
 repeat' split
 all_goals first|exact Fr.rf _ B|exact aK8 B k _|exact(aK8 B k _).setp (by decide) (by decide)
theorem aCU(B:Br)(k:Nat):Fr AB B (bF B k):=by
 unfold bF
 repeat' split
 all_goals repeat (first|exact Fr.rf _ B|refine Fr.setp ?_ (by decide) (by decide))
theorem aJ7(h:Fr AB B C)(k:Nat):Fr AB B (dM C k):=by
 unfold dM dH
 refine Fr.tcpn ?_ (by decide) _
 repeat (first|exact h|refine Fr.setp ?_ (by decide) (by decide))
theorem aM0(B:Br)(k:Nat):Fr AB B (jN B k).2:=by
 unfold jN
 split
 ·have h:Fr AB B (B.flush k):=⟨rfl,rfl,rfl,rfl,Nat.le_refl _,fun _ _ _ _=>rfl⟩
  exact Fr.setp (k:=k) (j:=25) (v:=.bool false) h (by decide) (by decide)
 ·unfold pJ dR fT i5 gG pH
  repeat' split
  all_goals repeat (first
   | exact Fr.rf _ B
   | exact aCU B k
   | exact aJ7 (Fr.rf _ B) k
   | exact aJ7 (aCU B k) k
   | exact Fr.tcpn (aCU B k) (by decide) _
   | refine Fr.setp ?_ (by decide) (by decide))
theorem aNJ(B:Br)(k i:Nat){j:Nat}(h89:j<89)(hj:AB j=false):(wC B k).2.ps[i*89+j]?=B.ps[i*89+j]?:=by
 have st:∀(D:Br) (x:Nat) (v:Value),x<89→AB x=true→(D.setp k x v).ps[i*89+j]?=D.ps[i*89+j]?:=fun D x v hx hA=>by
  have hne:x≠j:=fun e=>by subst e;rw[hA]at hj;cases hj
  exact List.getElem?_set_ne (by omega)
 unfold wC gM kE dZ
 repeat' split
 all_goals repeat (first|rfl|refine(st _ _ _ (by decide) (by decide)).trans ?_)
end
section
variable {c d:Pc} {n M:Nat} {s:Nat→Nat} {B C:Br}
def UB(x:Nat):Prop:=51≤x∧x<87
theorem aMS{k j:Nat}(hj:j<8)(h3:j≠3)(i:Nat){x:Nat}(hx:UB x):pc (fF j B k).2 i x=pc B i x:=by
 unfold UB at hx
 have hx9:x<89:=by omega
 have hA:AB x=false:=by unfold AB;simp;omega
 have go:∀{D:Br},Fr AB B D→pc D i x=pc B i x:=fun h=>by rw[jZ hx9,jZ hx9,h.ps i x hx9 hA]
 rcases(by omega:j=0∨j=1∨j=2∨j=4∨j=5∨j=6∨j=7)with rfl|rfl|rfl|rfl|rfl|rfl|rfl
 ·exact go (aNH B k)
 ·exact go (aMY B k)
 ·exact go (aMJ B k)
 ·exact go (aNI B k)
 ·exact go (aMZ B k)
 ·exact go (aM0 B k)
 ·rw[jZ hx9,jZ hx9]
  exact aNJ B k i hx9 hA
theorem aMK{r c b p r' c' b' p':Int}(h:c4 r c b p r' c' b' p'=0):r=r':=by
 unfold c4 cU at h
 split at h
 ·rename_i e
  unfold bV at e
  split at e
  ·cases e
  ·split at e
   ·cases e
   ·omega
 ·rename_i e
  exact absurd h e
structure aMT (R rp:Int) (i:Nat) (c d:Pc):Prop where
 des:gI d 73=R
 mine:gI c 86=2→gI d 88=4∧(gB d 50=true∨gI c 68=R)
 root:gI c 86=3→(i:Int)=rp→gI d 88=3∧gB d 50=false
 aged:gI c 86=1→gI d 88=4
theorem aMB{D:Br}{L:List Value}{i:Nat}{c d:Pc}(hl:L.length=89)(hc:∀x,x≠43→L[x]?=c x)(hd:∀x,x<89→d x=(stL D i L)[x]?):aMT (D.hi 7) (D.hi 12) i c d:=by
 have tl:(lI D L).length=89:=by
  unfold lI
  exact aB (bH (bH hl (by exact(by decide:73+5≤89))) (by exact(by decide:82+4≤89)))
 have t73:(lI D L)[73]?=some (.int .u64 (D.hi 7)):=by
  unfold lI
  rw[aF (by decide),eD (bH hl (by exact(by decide:73+5≤89))) (by exact(by decide:82+4≤89)) (by exact .inl (by decide:73<82)),eB (by rw[hl];exact(by decide:73+5≤89)),if_pos (by exact(by decide:73≤73∧73<73+5))]
  rfl
 have tn:∀x,x<73→(lI D L)[x]?=L[x]?:=fun x hx=>by
  unfold lI
  rw[aF (by omega),eD (bH hl (by exact(by decide:73+5≤89))) (by exact(by decide:82+4≤89)) (by exact .inl (by omega)),eD hl (by exact(by decide:73+5≤89)) (by exact .inl hx)]
 have t86:(lI D L)[86]?=L[86]?:=by
  unfold lI
  rw[aF (by decide),eD (bH hl (by exact(by decide:73+5≤89))) (by exact(by decide:82+4≤89)) (by exact .inr (by decide:82+4≤86)),eD hl (by exact(by decide:73+5≤89)) (by exact .inr (by decide:73+5≤86))]
 have e86:pI (lI D L) 86=gI c 86:=by
  unfold pI gI
  rw[t86,hc 86 (by decide)]
  rfl
 have e68:pI (lI D L) 68=gI c 68:=by
  unfold pI gI
  rw[tn 68 (by decide),hc 68 (by decide)]
  rfl
 have d88:d 88=(chL i (D.hi 12) (D.hi 0) (lI D L))[88]?:=(hd 88 (by decide)).trans (aF (by decide))
 have d50:d 50=(chL i (D.hi 12) (D.hi 0) (lI D L))[50]?:=(hd 50 (by decide)).trans (aF (by decide))
 refine⟨?_,fun h2=>?_,fun h3 hi=>?_,fun h1=>?_⟩
 rotate_left 3
 ·have h1':=e86.trans h1
  unfold chL at d88
  rw[if_neg (by omega),if_neg (by omega),if_pos h1',aMR _ _ (by rw[List.length_set];exact tl)]at d88
  unfold gI
  rw[d88]
 ·unfold gI
  rw[hd 73 (by decide)]
  unfold stL
  rw[aF (by decide),aEX (by decide) (by decide),t73]
 ·have h2':=e86.trans h2
  unfold chL at d88 d50
  rw[if_neg (by omega),if_neg (by omega),if_neg (by omega),if_pos h2']at d88 d50
  rw[aMR _ _ tl]at d88
  refine⟨by unfold gI;rw[d88],?_⟩
  unfold dsL at d50
  split at d50
  ·rename_i e1 e2
   right
   unfold smL at e1
   have h0:=aMK (by simpa using e1)
   rw[e68]at h0
   rw[h0]
   unfold pI
   rw[t73]
  ·left
   unfold gB
   rw[d50,cE (by rw[List.length_set];exact tl) (by decide)]
 ·have h3':=e86.trans h3
  unfold chL at d88 d50
  rw[if_neg (by omega),if_pos h3',if_pos (by rw[Bool.or_eq_true];exact .inl (by simpa using hi))]at d88 d50
  rw[aF (by decide),cE tl (by decide)]at d88
  rw[cE (by rw[List.length_set];exact tl) (by decide)]at d50
  unfold gI gB
  rw[d88,d50]
  unfold kN
  rw[if_pos (by simpa using hi)]
  exact⟨rfl,rfl⟩
theorem aIC(hK:KI n M s B)(hn:n<1000)(hs:(gA B).1=true):∃N:Br,N.np=n∧N.hd=B.hd∧(∀i j,j<89→j≠43→N.gi i j=gI (pc B i) j)∧(gA B).2.hi 0=B.hi 0∧(gA B).2.hi 12=(fC N n).at_∧(gA B).2.hi 7=(fC N n).r∧((fC N n).at_≥0→(gA B).2.hi 13=gI (pc B (fC N n).at_.toNat) 78+1)∧(∀j,7≤j→j<12→(gA B).2.hi j=pI (fC N n).cells.toList (j - 7))∧∀i,i<n→aMT (fC N n).r (fC N n).at_ i (pc B i) (pc (gA B).2 i):=by
 have ho:=hK.ok
 have hl:B.np*89≤B.ps.length:=by rw[ho.len];exact Nat.le_refl _
 unfold gA at hs ⊢
 split at hs
 case isFalse=>cases hs
 rename_i hany
 rw[if_pos hany]
 have okN:=o4 ho (Nat.le_refl B.np)
 have npN:(lW B B.np).np=B.np:=gS B 43 _ _
 have ok2:(dO (lW B B.np)).ok:=pR okN (by rw[npN,hK.np];exact hn) (fun k hk=>by
  rw[wM ho (by decide) (by decide)]
  have:=hK.pt k (by rw[←hK.np,←npN];exact hk)
  unfold PI at this
  omega)
 have gN_:∀i j,j<89→j≠43→(lW B B.np).gi i j=gI (pc B i) j:=fun i j hj hne=>by
  rw[wM ho hj hne]
  exact gN hj
 have pN_:∀i x,x<89→x≠43→(lW B B.np).ps[i*89+x]?=B.ps[i*89+x]?:=fun i x hx hne=>by
  show(B.upd 43 (fun _=>.bool false) B.np).ps[i*89+x]?=_
  rw[l6 B (by decide) _ hl hx,if_neg (by omega)]
 have hdN:(lW B B.np).hd=B.hd:=aEL B 43 _ _
 obtain⟨N,hN⟩:∃N,lW B B.np=N:=⟨_,rfl⟩
 rw[hN]at okN npN ok2 gN_ pN_ hdN ⊢
 have npn:N.np=n:=npN.trans hK.np
 have hl17:N.hd.length=17:=okN.hd.1
 have hV:(iX N).cells.toList.length=5:=rfl
 have hr4:(wK (cR N) (iX N).at_).length=4:=by unfold wK;split<;>rfl
 have ha1:(setL N.hd 7 (iX N).cells.toList).length=17:=by rw[fJ (by rw[hl17,hV];decide),hl17]
 have hb1:(setL (setL N.hd 7 (iX N).cells.toList) 12 [Value.int IntKind.i64 (iX N).at_]).length=17:=by
  rw[fJ (by rw[ha1];exact(by decide:12+1≤17)),ha1]
 have hcell:∀j,j<13→(dO N).hd[j]?=if 12≤j∧j<12+1 then([Value.int IntKind.i64 (iX N).at_]:List Value)[j - 12]? else if 7≤j∧j<7+5 then(iX N).cells.toList[j - 7]? else N.hd[j]?:=fun j hj=>by
  show(setL (setL (setL N.hd 7 (iX N).cells.toList) 12 [Value.int IntKind.i64 (iX N).at_]) 13 (wK (cR N) (iX N).at_))[j]?=_
  rw[eB (by rw[hb1,hr4];omega),if_neg (by omega),eB (by rw[ha1];exact(by decide:12+1≤17)),eB (by rw[hl17,hV];decide)]
  rfl
 have e0:(dO N).hi 0=B.hi 0:=by
  unfold Br.hi
  rw[hcell 0 (by decide),if_neg (by decide),if_neg (by decide),hdN]
 have eV_:iX N=fC N n:=by unfold iX;rw[npn]
 have e12:(dO N).hi 12=(fC N n).at_:=by
  rw[←eV_]
  unfold Br.hi
  rw[hcell 12 (by decide),if_pos (by decide)]
  rfl
 have e7:(dO N).hi 7=(fC N n).r:=by
  rw[←eV_]
  unfold Br.hi
  rw[hcell 7 (by decide),if_neg (by decide),if_pos (by decide)]
  rfl
 have e13:(fC N n).at_≥0→(dO N).hi 13=gI (pc B (fC N n).at_.toNat) 78+1:=fun h0=>by
  have e:(dO N).hi 13=pI (wK (cR N) (iX N).at_) 0:=nW hb1 (by rw[hr4];decide) (by decide) (by rw[hr4];decide)
  rw[e,eV_]
  unfold wK
  rw[if_neg (by omega)]
  show(cR N).gi (fC N n).at_.toNat 78+1=_
  rw[←gN_ _ 78 (by decide) (by decide)]
  rfl
 have hp:∀j,(eF (dO N) B.np).hi j=(dO N).hi j:=fun j=>by unfold Br.hi;rw[oK]
 have eC:∀j,7≤j→j<12→(dO N).hi j=pI (fC N n).cells.toList (j - 7):=fun j h1 h2=>by
  rw[←eV_]
  unfold Br.hi pI
  rw[hcell j (by omega),if_neg (by omega),if_pos (by omega)]
  rfl
 have np2:(dO N).np=n:=npn
 refine⟨N,npn,hdN,gN_,(hp 0).trans e0,(hp 12).trans e12,(hp 7).trans e7,fun h=>(hp 13).trans (e13 h),fun j h1 h2=>(hp j).trans (eC j h1 h2),fun i hi=>?_⟩
 have iD:i<(dO N).np:=by rw[np2];exact hi
 have hT:=dI ok2 iD
 have key:=aMB (D:=dO N) (L:=a9 (dO N).ps i) (i:=i) (c:=pc B i) (d:=pc (eF (dO N) B.np) i) (nT hT) (fun x hne=>?_) (fun x hx=>?_)
 ·rw[e7,e12]at key
  exact key
 ·by_cases hx:x<89
  ·rw[aI hx,jZ hx]
   exact pN_ i x hx hne
  ·rw[iB (by omega)]
   exact List.getElem?_eq_none (by simp[a9];omega)
 ·rw[jZ hx,rQ ok2 B.np (by rw[np2,hK.np];exact Nat.le_refl _) i x iD hx,if_pos (by rw[hK.np];exact hi)]
theorem aMC(hK:KI n M s B){k:Nat}(hk:k<n)(h:eX (pc B k)=0):(fF 3 B k).2=B:=by
 obtain⟨h1,h2,-⟩:=s8 hK.ok (show k<B.np by rw[hK.np];exact hk) (hK.timR hk)
 cases e:(mJ B k).1
 ·exact(h1 e).1
 ·exact absurd h (h2 e)
theorem aLL(hK:KI n M s B){k:Nat}(hk:k<n):pc (fF 3 B k).2 k=cf (lD (B.hb 1) (a9 B.ps k)).2∧∀i,i≠k→pc (fF 3 B k).2 i=pc B i:=by
 have hkp:k<B.np:=by rw[hK.np];exact hk
 have hl:=nT (dI hK.ok hkp)
 have h1:=(aMA hl (B.hb 1)).1
 refine⟨?_,fun i hi=>?_⟩
 ·show pc (B.setPort k _) k=_
  rw[pV h1 (mT hK.ok hkp),if_pos rfl]
 ·show pc (B.setPort k _) i=_
  rw[pV h1 (mT hK.ok hkp),if_neg hi]
theorem aLV{L:List Value}(hl:L.length=89)(rst:Bool)(h:iZ L=3):gI (cf (lD rst L).2) 68=pI L 73∧(lD rst L).2[73]?=L[73]?:=by
 have e:(lD rst L).2=lK L:=by unfold lD;rw[h];rfl
 rw[e]
 unfold lK aGG aDV
 have l0:∀{N:List Value} {j:Nat} {v:Value},N.length=89→(N.set j v).length=89:=fun h=>by rw[List.length_set];exact h
 refine⟨?_,?_⟩
 ·unfold gI cf
  rw[aF (by decide),aF (by decide),aF (by decide),aF (by decide),eD (bH (l0 (l0 (l0 (l0 hl)))) (by exact(by decide:68+5≤89))) (by exact(by decide:78+4≤89)) (by exact .inl (by decide:68<78)),eB (by rw[l0 (l0 (l0 (l0 hl)))];exact(by decide:68+5≤89)),if_pos (by exact(by decide:68≤68∧68<68+5))]
  rfl
 ·rw[aF (by decide),aF (by decide),aF (by decide),aF (by decide),eD (bH (l0 (l0 (l0 (l0 hl)))) (by exact(by decide:68+5≤89))) (by exact(by decide:78+4≤89)) (by exact .inl (by decide:73<78)),eD (l0 (l0 (l0 (l0 hl)))) (by exact(by decide:68+5≤89)) (by exact .inr (by decide:68+5≤73)),aF (by decide),aF (by decide),aF (by decide),aF (by decide)]
end
section
variable {c d:Pc} {n M k:Nat} {s:Nat→Nat} {B C:Br} {R:Int}
theorem aMD{N:Br}{i:Nat}(h:N.gi i 86≠3):hZ N i=false:=by
 unfold hZ
 rw[Bool.and_eq_false_iff]
 exact .inl (by simpa using h)
theorem x6(N:Br):∀m,(∀i,i<m→N.gi i 86≠3)→fC N m=⟨N.hi 0,0,N.hi 0,0,0,-1⟩
 | 0,_=>rfl
 | m+1,h=>by
  unfold fC
  rw[aMD (h m (by omega)),Bool.false_and,if_neg (by decide)]
  exact x6 N m (fun i hi=>h i (by omega))
def EP(c:Pc):Prop:=gB c 35=false∧gB c 36=false∧gI c 86≠3∧(gB c 44=true→gI c 73=7)∧(gB c 44=true→gI c 86=2→gB c 50=false→gI c 68=7)
def IE(n:Nat)(B:Br):Prop:=B.hi 0=7∧B.hi 7=7∧∀i,i<n→EP (pc B i)
structure EqH (c d:Pc):Prop where
 b2:gB d 2=gB c 2
 b35:gB d 35=gB c 35
 b36:gB d 36=gB c 36
 b43:gB d 43=gB c 43
 b44:gB d 44=gB c 44
 b50:gB d 50=gB c 50
 i11:gI d 11=gI c 11
 i18:gI d 18=gI c 18
 i86:gI d 86=gI c 86
 i88:gI d 88=gI c 88
 u:∀x,UB x→gI d x=gI c x
theorem aKU(h:eV c d)(hu:∀x,UB x→d x=c x):EqH c d:=by
 obtain⟨⟨b2,-,-,b35,b36,b43,b44,b50⟩,-,i11,-,i18,-,i86,-,i88⟩:=aFD h
 exact⟨b2,b35,b36,b43,b44,b50,i11,i18,i86,i88,fun x hx=>by unfold gI;rw[hu x hx]⟩
theorem aM1(h:Kt c d)(hu:∀x,UB x→d x=c x):EqH c d:=by
 obtain⟨⟨b2,b35,b36,b43,b44,b50⟩,i11,-,i18,i86,i88⟩:=kts h
 exact⟨b2,b35,b36,b43,b44,b50,i11,i18,i86,i88,fun x hx=>by unfold gI;rw[hu x hx]⟩
theorem ub(x:Nat)(h:51≤x∧x<87:=by decide):UB x:=h
theorem aNK(hK:KI n M s B){k j:Nat}(hk:k<n)(hj:j<8)(h3:j≠3)(ha:AI (pc B k))(i:Nat):EqH (pc B i) (pc (fF j B k).2 i)∨(i=k∧j=0∧RxR (pc B k) (pc (fF j B k).2 k)):=by
 have hu:∀x,UB x→pc (fF j B k).2 i x=pc B i x:=fun x hx=>aMS hj h3 i hx
 obtain⟨h1,h2⟩:=aCG hK hk hj ha
 by_cases hik:i=k
 ·subst hik
  rcases h1 with h1|h1|⟨h1,-⟩|⟨-,e,h1⟩
  ·exact .inl (aKU h1 hu)
  ·exact .inr ⟨rfl,h1⟩
  ·exact absurd h1 h3
  ·exact .inl (aM1 h1.kt hu)
 ·exact .inl (aKU (h2 i hik) hu)
theorem EP.same(h:EqH c d)(hp:EP c):EP d:=by
 unfold EP at hp ⊢
 rw[h.b35,h.b36,h.i86,h.b44,h.b50,h.u 73 (ub 73),h.u 68 (ub 68)]
 exact hp
theorem aNL(h:gB c 35=false)(hr:RxR c d):∃d0,eV d0 d∧(d0=c∨d0=up (up (up (up c 35 (.bool false)) 36 (.bool false)) 6 (.int .i64 3)) 15 (.int .i64 0)):=by
 obtain⟨d0,h1,h2⟩:=hr
 refine⟨d0,h1,?_⟩
 rcases h2 with ⟨rfl,-⟩|⟨rfl,-⟩|⟨rfl,h2⟩
 ·exact .inl rfl
 ·exact .inr rfl
 ·exfalso
  unfold gP at h2
  rw[h]at h2
  simp at h2
  (repeat' split at h2)<;>omega
theorem aKV(hn:n<1000):Keeps n s (IE n):=by
 refine⟨fun M B hK ha h=>?_,fun M k j B hK hk hj ha h=>?_⟩
 ·rcases aHR hK hn ha with ⟨e,-⟩|⟨e,hS⟩
  ·rw[e]
   exact h
  ·obtain⟨h0,h7,hE⟩:=h
   obtain⟨N,hnp,hhd,hg,e0,-,e7,-,-,hT⟩:=aIC hK hn e
   have hN0:N.hi 0=7:=by unfold Br.hi;rw[hhd];exact h0
   have hr:=x6 N n (fun i hi=>by rw[hg i 86 (by decide) (by decide)];exact(hE i hi).2.2.1)
   rw[hr]at e7 hT
   refine⟨e0.trans h0,e7.trans hN0,fun i hi=>?_⟩
   have hc68:gI (pc (gA B).2 i) 68=gI (pc B i) 68:=by unfold gI;rw[aCW hK hn hi (by decide) (by decide)]
   obtain⟨t1,t2,-,-⟩:=hT i hi
   obtain⟨d0,r,u,hc,rfl,-⟩:=hS i hi
   obtain⟨⟨-,-,-,b35,b36,-,-,-⟩,-,-,-,-,-,i86,-,-⟩:=aFD hc
   simp only[bE,aV,Nat.reduceEqDiff,if_false]at b35 b36 i86
   obtain⟨p1,p2,p3,p4,p5⟩:=hE i hi
   refine⟨b35.trans p1,b36.trans p2,by rw[i86];exact p3,fun _=>t1.trans hN0,fun _ h2 h50=>?_⟩
   rw[hc68]
   rcases(t2 (i86.symm.trans h2)).2 with h|h
   ·rw[h]at h50;cases h50
   ·exact h.trans hN0
 ·have hd:=aMP (B:=B) (k:=k) hj
  have hh:∀j',(fF j B k).2.hi j'=B.hi j':=fun j'=>by unfold Br.hi;rw[hd]
  refine⟨(hh 0).trans h.1,(hh 7).trans h.2.1,fun i hi=>?_⟩
  have hE:=h.2.2 i hi
  by_cases h3:j=3
  ·subst h3
   obtain⟨o1_,o2_⟩:=aLL hK hk
   by_cases hik:i=k
   ·subst hik
    obtain⟨p1,p2,p3,p4,p5⟩:=hE
    obtain⟨-,-,hI,-⟩:=s8 hK.ok (show i<B.np by rw[hK.np];exact hk) (hK.timR hk)
    obtain⟨d0,hc,hI⟩:=hI
    have hc':eV d0 (pc (fF 3 B i).2 i):=hc
    obtain⟨⟨-,-,-,b35,b36,-,b44,b50⟩,-,-,-,-,-,i86,-,-⟩:=aFD hc'
    rcases hI with ⟨e,-⟩|⟨e,rfl⟩|⟨e,rfl⟩|⟨e,rfl⟩|⟨e,-⟩
    ·rw[aMC hK hk e]
     exact⟨p1,p2,p3,p4,p5⟩
    ·simp only[oO,bE,aV,aCF,aA6,Nat.reduceEqDiff,if_false,if_true]at b35 b36 b44 b50 i86
     exact⟨b35.trans p1,b36,by rw[i86];decide,fun h=>(by rw[b44]at h;cases h),fun h=>(by rw[b44]at h;cases h)⟩
    ·simp only[oO,bE,aV,aCF,aA6,Nat.reduceEqDiff,if_false,if_true]at b35 b36 b44 b50 i86
     exact⟨b35.trans p1,b36.trans p2,by rw[i86];decide,fun h=>(by rw[b44]at h;cases h),fun h=>(by rw[b44]at h;cases h)⟩
    ·simp only[bE,aV,aCF,aA6,Nat.reduceEqDiff,if_false,if_true]at b35 b36 b44 b50 i86
     obtain⟨u1,u2⟩:=aLV (nT (dI hK.ok (show i<B.np by rw[hK.np];exact hk))) (B.hb 1) e
     have h73:gI (pc B i) 73=7:=p4 (yN e).2.2.1
     refine⟨b35.trans p1,b36.trans p2,by rw[i86];decide,fun _=>?_,fun _ _ _=>?_⟩
     ·rw[o1_]
      unfold gI at h73 ⊢
      unfold cf
      rw[u2]
      exact h73
     ·rw[o1_]
      exact u1.trans h73
    ·exfalso
     rw[(yO e).2.2.1]at p2
     cases p2
   ·rw[o2_ i hik]
    exact hE
  ·rcases aNK hK hk hj h3 (ha k hk) i with h1|⟨rfl,rfl,h1⟩
   ·exact hE.same h1
   ·have hu:∀x,UB x→pc (fF 0 B i).2 i x=pc B i x:=fun x hx=>aMS (by decide) (by decide) i hx
    obtain⟨d0,hc,h2⟩:=aNL hE.1 h1
    obtain⟨⟨-,-,-,b35,b36,-,b44,b50⟩,-,-,-,-,-,i86,-,-⟩:=aFD hc
    have e73:gI (pc (fF 0 B i).2 i) 73=gI (pc B i) 73:=by unfold gI;rw[hu 73 (ub 73)]
    have e68:gI (pc (fF 0 B i).2 i) 68=gI (pc B i) 68:=by unfold gI;rw[hu 68 (ub 68)]
    unfold EP at hE ⊢
    rw[e73,e68,b35,b36,b44,b50,i86]
    rcases h2 with rfl|rfl
    ·exact hE
    ·simp only[bE,aV,aCF,aA6,Nat.reduceEqDiff,if_false,if_true]
     exact⟨trivial,trivial,hE.2.2⟩
theorem aNM{rst:Bool}{P:List Pt}{n:Nat}(hP:P.length=n):IE n (NB rst P):=by
 refine⟨rfl,rfl,fun i hi=>?_⟩
 obtain⟨⟨ha,y1,y2,y3,y4⟩,h2,h87,h88⟩:=aL8 (rst:=rst) hP hi
 have h86:=y3.2 h2
 have h44:gB (pc (NB rst P) i) 44=false:=by
  subst hP
  unfold gB
  rw[jZ (by decide),aAD (j:=44) (x:=.bool false) hi rfl]
 exact⟨y1,y2,by omega,fun h=>(by rw[h44]at h;cases h),fun h=>(by rw[h44]at h;cases h)⟩
def MS(R:Int)(c:Pc):Prop:=gI c 51=0∧gI c 58=4∧gI c 59=R∧gI c 61=9∧gI c 64=1∧gI c 65=20∧gI c 66=2
def OT(c:Pc):Prop:=gB c 2=true∧gB c 35=false∧gB c 36=false∧gI c 86=2∧gI c 18=2∧gB c 43=false
def KP(R:Int)(c:Pc):Prop:=gB c 2=true∧gB c 35=false∧gB c 36=false∧gI c 86=3∧gI c 18=2∧gI c 11≠0∧gB c 50=false∧gI c 68=R∧gI c 70=9∧gI c 78=1
def OA(c:Pc):Prop:=OT c∧gB c 50=false
def KA(R:Int)(c:Pc):Prop:=MS R c∧gB c 2=true∧gI c 86=2∧gI c 18=2∧gI c 68=7∧gB c 43=false∧gB c 50=false∧((gB c 35=true∧gB c 36=false)∨(gB c 35=false∧gB c 36=true))
def OC(R:Int)(c:Pc):Prop:=OT c∧gB c 44=true∧gI c 73=R∧gI c 88=4∧(gB c 50=true∨gI c 68=R)
def KC2(R:Int)(c:Pc):Prop:=KP R c∧gB c 43=false∧gI c 88=3
def IH(k:Nat)(R:Int)(n:Nat)(B:Br):Prop:=B.hi 0=7 ∧
 (((∀i,i<n→i≠k→OA (pc B i))∧KA R (pc B k))∨((∀i,i<n→i≠k→OA (pc B i))∧KP R (pc B k)∧gB (pc B k) 43=true) ∨
  (B.hi 12=k∧B.hi 7=R∧B.hi 13=2∧(∀i,i<n→i≠k→OC R (pc B i))∧KC2 R (pc B k)))
end
section
variable {B C:Br}
def AC(j:Nat):Bool:=!(j == 7 || j == 24 || j == 26 || j == 28 || j == 42 || j == 46)
theorem aNN(B:Br)(k:Nat):Fr AC B (tD B k).2:=by
 unfold tD lP nY nD nE
 repeat' split
 all_goals repeat (first|exact Fr.rf _ B|refine Fr.setp ?_ (by decide) (by decide))
theorem aM2(B:Br)(k:Nat):Fr AC B (gD B k).2:=by
 unfold gD cX dW fL
 repeat' split
 all_goals repeat (first|exact Fr.rf _ B|refine Fr.setp ?_ (by decide) (by decide))
theorem aML(B:Br)(k:Nat):Fr AC B (fM B k).2:=by
 unfold fM iM j6
 repeat' split
 all_goals repeat (first|exact Fr.rf _ B|refine Fr.setp ?_ (by decide) (by decide))
theorem aM3(B:Br)(k:Nat):Fr AC B (gT B k).2:=by
 unfold gT fN fA dN
 repeat' split
 all_goals repeat (first|exact Fr.rf _ B|refine Fr.setp ?_ (by decide) (by decide))
theorem aCV(B:Br)(k:Nat):Fr AC B (bF B k):=by
 unfold bF
 repeat' split
 all_goals repeat (first|exact Fr.rf _ B|refine Fr.setp ?_ (by decide) (by decide))
theorem aKW(h:Fr AC B C)(k:Nat):Fr AC B (dM C k):=by
 unfold dM dH
 refine Fr.tcpn ?_ (by decide) _
 repeat (first|exact h|refine Fr.setp ?_ (by decide) (by decide))
theorem aM4(B:Br)(k:Nat):Fr AC B (jN B k).2:=by
 unfold jN
 split
 ·have h:Fr AC B (B.flush k):=⟨rfl,rfl,rfl,rfl,Nat.le_refl _,fun _ _ _ _=>rfl⟩
  exact Fr.setp (k:=k) (j:=25) (v:=.bool false) h (by decide) (by decide)
 ·unfold pJ dR fT i5 gG pH
  repeat' split
  all_goals repeat (first
   | exact Fr.rf _ B
   | exact aCV B k
   | exact aKW (Fr.rf _ B) k
   | exact aKW (aCV B k) k
   | exact Fr.tcpn (aCV B k) (by decide) _
   | refine Fr.setp ?_ (by decide) (by decide))
theorem aNO(B:Br)(k i:Nat){j:Nat}(h89:j<89)(hj:AC j=false):(wC B k).2.ps[i*89+j]?=B.ps[i*89+j]?:=by
 have st:∀(D:Br) (x:Nat) (v:Value),x<89→AC x=true→(D.setp k x v).ps[i*89+j]?=D.ps[i*89+j]?:=fun D x v hx hA=>by
  have hne:x≠j:=fun e=>by subst e;rw[hA]at hj;cases hj
  exact List.getElem?_set_ne (by omega)
 unfold wC gM kE dZ
 repeat' split
 all_goals repeat (first|rfl|refine(st _ _ _ (by decide) (by decide)).trans ?_)
end
section
variable {c d:Pc} {n M:Nat} {s:Nat→Nat} {B C:Br}
def UC(x:Nat):Prop:=x=7∨x=24∨x=26∨x=28∨x=42∨x=46
theorem aM5{L:List Value}(hl:L.length=89)(rst:Bool)(h4:iZ L≠4){x:Nat}(hx:UC x):(lD rst L).2[x]?=L[x]?:=by
 unfold UC at hx
 have hle:=aE8 (pB L 2) (pI L 86 == 0) (pI L 18 == 0) (pB L 36) (pI L 18 == 1) (pI L 18 == 2) (pB L 44) (pB L 50) (pI L 86 == 3) (pI L 11 == 0)
 have l0:∀{N:List Value} {j:Nat} {v:Value},N.length=89→(N.set j v).length=89:=fun h=>by rw[List.length_set];exact h
 unfold lD
 rcases(by unfold iZ at h4 ⊢;omega:iZ L=0∨iZ L=1∨iZ L=2∨iZ L=3)with e|e|e|e<;>rw[e]
 ·rfl
 ·show(qI L)[x]?=_
  unfold qI nB
  rw[aF (by omega),aF (by omega),aF (by omega),aF (by omega),aF (by omega),aF (by omega),aF (by omega),aF (by omega),aF (by omega),aF (by omega)]
 ·show(qJ L)[x]?=_
  unfold qJ nB
  rw[aF (by omega),aF (by omega),aF (by omega),aF (by omega)]
 ·show(lK L)[x]?=_
  unfold lK aGG aDV
  rw[aF (by omega),aF (by omega),aF (by omega),aF (by omega),eD (bH (l0 (l0 (l0 (l0 hl)))) (by exact(by decide:68+5≤89))) (by exact(by decide:78+4≤89)) (by exact .inl (by omega)),eD (l0 (l0 (l0 (l0 hl)))) (by exact(by decide:68+5≤89)) (by exact .inl (by omega)),aF (by omega),aF (by omega),aF (by omega),aF (by omega)]
theorem aNP(hK:KI n M s B){k j:Nat}(hk:k<n)(hj:j<8)(h4:j≠4)(h36:gB (pc B k) 36=false)(i:Nat){x:Nat}(hx:UC x):pc (fF j B k).2 i x=pc B i x:=by
 have hkp:k<B.np:=by rw[hK.np];exact hk
 have hx0:=hx
 unfold UC at hx
 have hx9:x<89:=by omega
 have hA:AC x=false:=by rcases hx with rfl|rfl|rfl|rfl|rfl|rfl<;>rfl
 have go:∀{D:Br},Fr AC B D→pc D i x=pc B i x:=fun h=>by rw[jZ hx9,jZ hx9,h.ps i x hx9 hA]
 rcases(by omega:j=0∨j=1∨j=2∨j=3∨j=5∨j=6∨j=7)with rfl|rfl|rfl|rfl|rfl|rfl|rfl
 ·exact go (aNN B k)
 ·exact go (aM2 B k)
 ·exact go (aML B k)
 ·obtain ⟨o1_,o2_⟩:=aLL hK hk
  by_cases hik:i=k
  ·subst hik
   rw[o1_]
   refine aM5 (nT (dI hK.ok hkp)) _ (fun e=>?_) hx0
   have:=(yO (c:=pc B i) e).2.2.1
   rw[h36]at this
   cases this
  ·rw[o2_ i hik]
 ·exact go (aM3 B k)
 ·exact go (aM4 B k)
 ·rw[jZ hx9,jZ hx9]
  exact aNO B k i hx9 hA
def TT(c:Pc):Int:=if gB c 26=true then 0 else if gB c 28=true then gI c 7 else gI c 7+15
def UP(t:Int)(c:Pc):Prop:=gB c 24=false∧gB c 42=false∧gB c 46=false∧(gB c 26=true→gB c 28=true)∧0≤gI c 7∧TT c≤t
theorem k5{t:Int}(h:∀x,UC x→d x=c x)(hp:UP t c):UP t d:=by
 unfold UP TT gB gI at hp ⊢
 rw[h 24 (by unfold UC;omega),h 42 (by unfold UC;omega),h 46 (by unfold UC;omega),h 26 (by unfold UC;omega),h 28 (by unfold UC;omega),h 7 (by unfold UC;omega)]
 exact hp
theorem aME{k:Nat}(hl:Lk k B)(hs:B.hi 4=2∧B.hi 5=15)(h87:gI (pc B k) 87=4)(h88:gI (pc B k) 88=4)(h19:gI (pc B k) 19=3){t:Int}(ht:UP t (pc B k)):(∀i,i≠k→pc (oM B k).2 i=pc B i)∧UP t (pc (oM B k).2 k)∧(oM B k=(false,B)→gB (pc B k) 44=true→gB (pc B k) 50=false→gB (pc B k) 26=true∨0<gI (pc B k) 7):=by
 obtain⟨h24,h42,h46,h26,h7,hT⟩:=ht
 have wt:0≤cD B k∧cD B k≤15:=by
  unfold cD
  split<;>omega
 have g24:=(cM (B:=B) (k:=k) (j:=24) (by decide)).trans h24
 have g42:=(cM (B:=B) (k:=k) (j:=42) (by decide)).trans h42
 have g46:=(cM (B:=B) (k:=k) (j:=46) (by decide)).trans h46
 have g87:=(gN (B:=B) (k:=k) (j:=87) (by decide)).trans h87
 have g88:=(gN (B:=B) (k:=k) (j:=88) (by decide)).trans h88
 have g19:=(gN (B:=B) (k:=k) (j:=19) (by decide)).trans h19
 have e26:=cM (B:=B) (k:=k) (j:=26) (by decide)
 have e28:=cM (B:=B) (k:=k) (j:=28) (by decide)
 have e7:=gN (B:=B) (k:=k) (j:=7) (by decide)
 have hR:zL B k=if cQ B k 18=true then 18 else if cQ B k 19=true then 19 else if cQ B k 22=true then 22 else if cQ B k 23=true then 23 else 24:=by
  unfold zL
  have a0:cQ B k 0=false:=by unfold cQ;rw[g88];rfl
  have a1:cQ B k 1=false:=by unfold cQ;rw[g88];rfl
  have a2:cQ B k 2=false:=by unfold cQ;rw[g88,g87];rfl
  have a3:cQ B k 3=false:=by unfold cQ;rw[g88];rfl
  have a20:cQ B k 20=false:=by unfold cQ;rw[g42];rfl
  have a21:cQ B k 21=false:=by unfold cQ;rw[g42,g46,g24];simp
  rw[a0,a1,a2,a3,a20,a21,g19]
  simp
 have base:UP t (pc B k):=⟨h24,h42,h46,h26,h7,hT⟩
 have sk:∀{D:Br} {x:Nat} {v:Value},Lk k D→x<89→¬UC x→UP t (pc D k)→UP t (pc (D.setp k x v) k):=fun hD hx hn hp=>by
  rw[a8 hD hx]
  exact k5 (fun y hy=>a5 _ _ (fun e=>hn (by rw[←e];exact hy))) hp
 have nu:∀x,¬(x=7∨x=24∨x=26∨x=28∨x=42∨x=46)→¬UC x:=fun x h=>h
 have lk:∀{D:Br} {x:Nat} {v:Value},Lk k D→Lk k (D.setp k x v):=fun h=>bC.2 h
 have oth:∀{D:Br} {x:Nat} {v:Value},x<89→(∀i,i≠k→pc D i=pc B i)→∀i,i≠k→pc (D.setp k x v) i=pc B i:=fun hx h i hi=>(aK hi hx).trans (h i hi)
 have o0_:∀i,i≠k→pc B i=pc B i:=fun _ _=>rfl
 unfold oM
 split
 case isFalse h =>
  refine⟨o0_,base,fun _ a b=>absurd ⟨(cM (by decide)).trans a,(cM (by decide)).trans b⟩ h⟩
 rw[hR]
 unfold mO
 by_cases b18:cQ B k 18=true
 ·rw[if_pos b18,if_neg (by decide),if_pos (by decide)]
  unfold dY
  exact⟨oth (by decide) (oth (by decide) (oth (by decide) o0_)),sk (lk (lk hl)) (by decide) (nu _ (by decide)) (sk (lk hl) (by decide) (nu _ (by decide)) (sk hl (by decide) (nu _ (by decide)) base)),fun h=>by cases congrArg Prod.fst h⟩
 rw[if_neg b18]
 by_cases b19:cQ B k 19=true
 ·rw[if_pos b19,if_neg (by decide),if_pos (by decide)]
  unfold dY
  refine⟨oth (by decide) (oth (by decide) (oth (by decide) o0_)),?_,fun h=>by cases congrArg Prod.fst h⟩
  show UP t (pc (((B.setp k 12 _).setp k 47 _).setp k 46 (.bool false)) k)
  have h2:=sk (lk hl) (by decide:47<89) (v:=.bool true) (nu _ (by decide)) (sk hl (by decide:12<89) (v:=.int .i64 0) (nu _ (by decide)) base)
  rw[a8 (lk (lk hl)) (by decide)]
  unfold UP TT at h2 ⊢
  simp only[bE,aV,aCF,Nat.reduceEqDiff,if_false,if_true]
  exact⟨h2.1,h2.2.1,trivial,h2.2.2.2⟩
 rw[if_neg b19]
 by_cases b22:cQ B k 22=true
 ·rw [if_pos b22,if_neg (by decide),if_pos (by decide)]
  unfold dY iN
  refine⟨oth (by decide) (oth (by decide) o0_),?_,fun h=>by cases congrArg Prod.fst h⟩
  have n28:gB (pc B k) 28=false:=by
   have b22':(dX B k && !B.gb k 28)=true:=b22
   rw[Bool.and_eq_true]at b22'
   rw[←e28]
   simpa using b22'.2
  have n26:gB (pc B k) 26=false:=by
   cases h:gB (pc B k) 26
   ·rfl
   ·rw[h26 h]at n28;cases n28
  obtain⟨q,hq⟩:∃q,cD B k=q:=⟨_,rfl⟩
  rw[hq]at wt
  have ew:cD (B.setp k 28 (.bool true)) k=cD B k:=by
   unfold cD
   rw[iU _ _ _ _ _ (by decide)]
   rfl
  show UP t (pc ((B.setp k 28 (.bool true)).setp k 7 (.int .i64 (cD B k))) k)
  rw[hq,a8 (lk hl) (by decide),a8 hl (by decide)]
  unfold TT at hT
  rw[n26,n28,if_neg (by decide),if_neg (by decide)]at hT
  unfold UP TT
  simp only[bE,aV,aCF,aA6,Nat.reduceEqDiff,if_false,if_true]
  rw[n26,if_neg (by decide)]
  exact⟨h24,h42,h46,fun _=>trivial,by omega,by omega⟩
 rw[if_neg b22]
 by_cases b23:cQ B k 23=true
 ·rw [if_pos b23,if_neg (by decide),if_pos (by decide)]
  have n28:gB (pc B k) 28=true:=by
   have b23':(dX B k && B.gb k 28 && !B.gb k 26)=true:=b23
   rw[Bool.and_eq_true,Bool.and_eq_true]at b23'
   rw[←e28]
   exact b23'.1.2
  unfold dY jV
  refine⟨oth (by decide) (oth (by decide) (oth (by decide) o0_)),?_,fun h=>by cases congrArg Prod.fst h⟩
  show UP t (pc (((B.setp k 26 (.bool true)).setp k 7 (.int .i64 0)).setp k 23 _) k)
  refine sk (lk (lk hl)) (by decide) (nu _ (by decide)) ?_
  rw[a8 (lk hl) (by decide),a8 hl (by decide)]
  have h0:0≤t:=by
   unfold TT at hT
   (repeat' split at hT)<;>omega
  unfold UP TT
  simp only[bE,aV,aCF,aA6,Nat.reduceEqDiff,if_false,if_true]
  exact⟨h24,h42,h46,fun _=>n28,by omega,h0⟩
 rw[if_neg b23,if_pos (by rfl)]
 refine⟨o0_,base,fun _ _ _=>?_⟩
 cases h:gB (pc B k) 26
 ·right
  refine Classical.byContradiction (fun h0=>?_)
  have hz:gI (pc B k) 7=0:=by omega
  have td:dX B k=true:=by
   unfold dX
   rw[e7,hz,g42,g46]
   simp
  have b22':¬((dX B k && !B.gb k 28)=true):=b22
  have b23':¬((dX B k && B.gb k 28 && !B.gb k 26)=true):=b23
  rw[td,e28]at b22'
  rw[td,e28,e26,h]at b23'
  cases h8:gB (pc B k) 28<;>rw[h8]at b22' b23'<;>simp at b22' b23'
 ·exact .inl rfl
end
end Go.Proofs.YtpanapepcbbagaaGreat
