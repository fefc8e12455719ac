/- Part 1 of what PlanVersions stands on. No statement is proved here. -/
import Derived.Test.YtamnmjckhicapaaRows
import Derived.WalkKit
import Derived.ProofKit
import Derived.OpenShut
import Derived.BigQuiet
import Derived.Lib.Hide
import Derived.LoopN
import Derived.ChangeSame
import Derived.Deep.Draws
import Derived.Deep.Fields
import Derived.WideKeyArgs
import Derived.Laws.StructEq
import Derived.Deep.MidRow
import Derived.Deep.Slices
import Derived.Laws.AppendOwn
import Derived.Deep.WholeRow
import Derived.Laws.ComplexArith
import Derived.ChangeSlices
import Derived.Deep.AppendLies
import Derived.Laws.AppendOwnNone
import Derived.OwnWalk
namespace Go.Proofs.Ytamnmjckhicapaa
open Go.RowKit Go.WideShapes Go.ChangeShapes Go.WideElems Go.Deep
set_option linter.unusedVariables false
set_option linter.unusedSimpArgs false
theorem ownK:ownKnob Try.prog.godebug=none:=by kernel_rfl
theorem bel_drewN {B:Nat} {a w:World} (h:Below B a w) (n:Nat):Below B a (w.drewN n):=⟨h.os,h.tape,h.output,h.size,h.block⟩
theorem closes {H:Type} {enc:TypeId × Value→H} {P:Program} {f:Func} {s:ChangeSpec} {apart fresh handsOn again:Bool} {W W':World} {args:Array Value} {v:Value} {ds gs:List (DataW H)} {before pa pv:List MemPlace}
    (hW:DataW.Whole enc P f.params.toList s.vars apart W args.toList ds gs before)
    (hres:∀ (b:Nat) (sp:Nat→Bool) (hd:Bool),DataW.TrodAll enc P W' b sp hd f.resultTypes.toList (v.resultList f.resultTypes.size) (s.fn H (ds ++ gs)).results [])
    (hargs:∀ sp:Nat→Bool,(∀ p ∈ before,sp p.block=true)→DataW.TrodAll enc P W' 0 sp true f.params.toList args.toList (s.fn H (ds ++ gs)).args pa)
    (hvars:∀ sp:Nat→Bool,(∀ p ∈ before,sp p.block=true)→DataW.TrodVars enc P W' sp s.vars (s.fn H (ds ++ gs)).vars pv)
    (hps:before=pa ++ pv) (hb:Below W.heap.size W W')
    (hok:∀ (j:Nat) (t:TypeId) (r:Value),f.resultTypes[j]?=some t→(v.resultList f.resultTypes.size)[j]?=some r→Value.okWide P W' .any 0 t r) :
    s.post enc P f apart fresh handsOn again W args v W':=by
 have lt:∀ p ∈ before,p.block < W.heap.size:=fun p hp=>hW.lt p hp
 have old:∀ p ∈ before,(fun b=>decide (b < W.heap.size)) p.block=true:=fun p hp=>decide_eq_true (lt p hp)
 have keep:W.keptBut W' fun p=>p ∈ before∧(p ∈ ([]:List MemPlace)∨p ∈ pa ++ pv) :=
  World.keptBut_mono (fun p hp=>⟨hp,Or.inr (hps ▸ hp)⟩) (hb.frame (· ∈ before))
 refine ⟨ds,gs,before,[],pa,pv,hW,hres _ _ _,hargs _ old,hvars _ old,?_,fun _=>?_⟩
 ·refine World.keptBut_mono (fun p hp=>⟨hp.1,?_⟩) keep
  rcases List.mem_append.1 (hps ▸ hp.1) with h | h
  ·exact Or.inr (Or.inl h)
  ·exact Or.inr (Or.inr h)
 ·obtain ⟨_,_,_,_,_,hz,hn⟩:=hW
  refine ⟨hok,_,_,([] ++ pa) ++ pv,⟨[] ++ pa,pv,trodAll_append (hargs _ (fun _ _=>rfl)) (hres _ _ _),hvars _ (fun _ _=>rfl),rfl,?_,?_⟩,?_⟩
  ·intro b off hp
   have hin:MemPlace.cell b off ∈ before:=by rw [hps]; simpa using hp
   rw [hb.frozen (lt _ hin)]
   exact hz b off hin
  ·intro ha
   have:=hn ha
   rw [hps] at this
   simpa using this
  ·intro p hp _
   rw [hps]
   simpa using hp
def Ext (a b:World):Prop:=Below a.heap.size a b
theorem Ext.refl (a:World):Ext a a:=Below.refl _ a
theorem Ext.trans {a b c:World} (h:Ext a b) (k:Ext b c):Ext a c:=Below.trans h (Below.mono k h.size)
theorem Ext.drew {a b:World} (h:Ext a b):Ext a b.drew:=Below.drew h
theorem Ext.drewN {a b:World} (h:Ext a b) (n:Nat):Ext a (b.drewN n):=bel_drewN h n
theorem Ext.alloc {a b:World} (h:Ext a b) (o:Obj):Ext a (b.alloc o):=Below.alloc h h.size o
theorem Ext.setCell {a b:World} (h:Ext a b) {p:Addr} (hp:a.heap.size≤p.block) (u:Value):Ext a (b.setCell p u):=Below.setCell h hp u
theorem Ext.cell {a b:World} (h:Ext a b) {p:Addr} (hp:p.block < a.heap.size):b.cell? p=a.cell? p:=Below.cell h hp
theorem asb {P:Program} {f:FuncId} {args:Array Value} {w:World} {x y:Bool} {R:World→Prop} (h:Calls P f args w fun e w'=>e=.returned (.bool x)∧R w') (hv:x=y) :
    Calls P f args w fun e w'=>e=.returned (.bool y)∧R w':=h.mono fun _ _ ⟨he,hr⟩=>⟨by rw [he,hv],hr⟩
theorem retI {k:IntKind} {a b:Int} (h:a=b):Ending.returned (.int k a)=.returned (.int k b):=by rw [h]
theorem retB {a b:Bool} (h:a=b):Ending.returned (.bool a)=.returned (.bool b):=by rw [h]
theorem quietL {P:Program} {f:FuncId} {args:Array Value} {w:World} {n:Nat} {v:Value}
    (h:Calls P f args (w.drewN n) fun e w'=>e=.returned v∧w.drewN n=w'):Calls P f args (w.drewN n) fun e w''=>e=.returned v∧∃ m,w''=w.drewN m :=
 h.mono fun _ _ ⟨he,hm⟩=>⟨he,n,hm.symm⟩
theorem quietA {P:Program} {f:FuncId} {args:Array Value} {w:World} {a n:Nat} {v:Value}
    (h:Calls P f args (w.drewN (a+n)) fun e w'=>e=.returned v∧w.drewN (a+n)=w'):Calls P f args (w.drewN (a+n)) fun e w''=>e=.returned v∧∃ m,w''=w.drewN (a+m) :=
 h.mono fun _ _ ⟨he,hm⟩=>⟨he,n,hm.symm⟩
theorem and_mask (n b:Nat) (hn:n < 18446744073709551616) (hb:b < 64) :
    bits .and .u64 (n:Int) (IntKind.u64.wrap (IntKind.u64.wrap (2 ^ b) - 1))=((n % 2 ^ b:Nat):Int):=by
 have h1:(2:Nat) ^ b < 18446744073709551616:=by
  have:=Nat.pow_lt_pow_right (show 1 < 2 by decide) hb
  exact Nat.lt_of_lt_of_le this (by decide)
 have h0:0 < (2:Nat) ^ b:=Nat.two_pow_pos b
 have e1:IntKind.u64.wrap ((2:Int) ^ b)=((2 ^ b:Nat):Int):=by
  rw [IntKind.wrap_u64]
  have:((2:Int) ^ b)=((2 ^ b:Nat):Int):=by push_cast; rfl
  rw [this]; omega
 rw [e1]
 have e2:IntKind.u64.wrap (((2 ^ b:Nat):Int) - 1)=((2 ^ b - 1:Nat):Int):=by
  rw [IntKind.wrap_u64]; omega
 rw [e2,u64_and_nat n (2 ^ b - 1) hn (by omega),Nat.and_two_pow_sub_one_eq_mod]
theorem wf_u8 {n:Int} (h:(Lit.int .u8 n).wf=true):0≤n∧n < 256:=by simp [Lit.wf,IntKind.min,IntKind.max,IntKind.signed,IntKind.bits] at h; omega
theorem carry_all {H:Type} {enc:TypeId × Value→H} {P:Program} (hl:laidOutB P=true) {W W':World} (hb:Ext W W') (sp:Nat→Bool) :
    ∀ (ts:List TypeId) (vs:List Value) (ds:List (DataW H)) (ps:List MemPlace),(ts.all fun t=>P.readableRec t && decide (t < P.types.size))=true →
     DataW.TrodAll enc P W 0 (fun _=>true) true ts vs ds ps→(∀ p ∈ ps,p.block < W.heap.size)→(∀ p ∈ ps,sp p.block=true)→DataW.TrodAll enc P W' 0 sp true ts vs ds ps
 | [],vs,ds,ps,_,h,_,_=>by
  obtain ⟨rfl,rfl,rfl⟩:=trodAll_nil h
  exact trodAll_mk0
 | t :: ts,vs,ds,ps,hts,h,hlt,hsp=>by
  simp only [List.all_cons,Bool.and_eq_true,decide_eq_true_eq] at hts
  obtain ⟨v,vs',d,ds',p,q,rfl,rfl,rfl,h0,r0⟩:=trodAll_cons h
  refine trodAll_cons_mk (Trod_stays hl hts.1.1 hts.1.2 h0 (fun x hx=>Below.same hb (hlt x (by simp [hx]))) (fun x hx=>hsp x (by simp [hx]))) ?_
  exact carry_all hl hb sp ts vs' ds' q (by simpa using hts.2) r0 (fun x hx=>hlt x (by simp [hx])) (fun x hx=>hsp x (by simp [hx]))
theorem ends {H:Type} {enc:TypeId × Value→H} {P:Program} {k:FuncId} {f:Func} {s:ChangeSpec} {tb:TypeId} (hl:laidOutB P=true)
    (hts:(f.params.toList.all fun t=>P.readableRec t && decide (t < P.types.size))=true) (hv:s.vars=[]) (hres:f.resultTypes=#[tb]) (htb:P.underlying tb=some .bool)
    {W:World} {args:Array Value} {ds gs:List (DataW H)} {before:List MemPlace} (hW:DataW.Whole enc P f.params.toList s.vars false W args.toList ds gs before)
    (hspec:s.fn H (ds ++ gs)={ results:=[.lit (.bool true)],args:=ds }) (walk:Calls P k args W fun e w'=>e=.returned (.bool true)∧Ext W w') :
    Calls P k args W fun e W'=>∃ v,e=.returned v∧s.post enc P f false true false false W args v W':=by
 refine walk.mono fun e W' ⟨he,hb⟩=>⟨_,he,?_⟩
 have hW':=hW
 obtain ⟨p,q,hA,hV,rfl,_,_⟩:=hW
 have hV':=hV
 rw [hv] at hV
 obtain ⟨rfl,rfl⟩:=trodVars_none hV
 refine closes (pa:=p) (pv:=[]) hW' ?_ ?_ ?_ rfl hb (ok_one hres rfl (okWide_bool_mk htb _))
 ·intro b sp hd
  rw [hspec,hres]
  exact trodAll_cons_mk (shut_bool htb _) trodAll_mk0
 ·intro sp hsp
  rw [hspec]
  exact carry_all hl hb sp _ _ _ _ hts hA (fun x hx=>hW'.lt x (by simp [hx])) (fun x hx=>hsp x (by simp [hx]))
 ·intro sp _
  rw [hspec,hv]
  rfl
theorem laidO:laidOutB Try.prog=true:=by kernel_rfl
end Go.Proofs.Ytamnmjckhicapaa
namespace Go.Proofs.Ytamnmjckhicapaa
open Go.RowKit Go.WideShapes Go.ChangeShapes Go.Deep
set_option linter.unusedVariables false
set_option linter.unusedSimpArgs false
def layFs (F:TypeId→Option (List (Option IntKind))):List Field→Nat→Option (List (Option IntKind))
 | [],_=>some []
 | f :: fs, off => if f.name ≠ "_" ∧ f.offset = off then (F f.type).bind fun l => (layFs F fs (off + l.length)).map (l ++ ·) else none
def lay (P:Program):Nat→TypeId→Option (List (Option IntKind))
 | 0,_=>none
 | d+1,t =>
  match P.underlying t with
  | some .bool=>if (P.info? t).map (·.size)=some 1 then some [none] else none
  | some (.int k)=>if (P.info? t).map (·.size)=some 1 then some [some k] else none
  | some (.struct fs)=>(layFs (lay P d) fs.toList 0).bind fun l=>if P.stoodInHeld t=false∧(P.info? t).map (·.size)=some l.length then some l else none
  | _=>none
def cellOk:Option IntKind→Value→Prop
 | none,v=>∃ b,v=.bool b
 | some k,v=>∃ z,v=.int k z∧(Lit.int k z).wf=true
def Typed (l:List (Option IntKind)) (cs:List Value):Prop:=cs.length=l.length∧∀ (j:Nat) (k:Option IntKind),l[j]?=some k→∃ v,cs[j]?=some v∧cellOk k v
theorem Typed.int {l:List (Option IntKind)} {cs:List Value} (h:Typed l cs) (j:Nat) (k:IntKind) (hj:l[j]?=some (some k)):∃ z,cs[j]?=some (.int k z)∧(Lit.int k z).wf=true:=by
 obtain ⟨v,hv,z,rfl,hz⟩:=h.2 j _ hj
 exact ⟨z,hv,hz⟩
theorem Typed.append {l l2:List (Option IntKind)} {cs cs2:List Value} (h:Typed l cs) (h2:Typed l2 cs2):Typed (l ++ l2) (cs ++ cs2):=by
 have a:=h.1; have b:=h2.1
 refine ⟨by simp; omega,fun j k hj=>?_⟩
 by_cases hl:j < l.length
 ·obtain ⟨v,hv,ho⟩:=h.2 j k (by rw [List.getElem?_append_left hl] at hj; exact hj)
  exact ⟨v,by rw [List.getElem?_append_left (by omega)]; exact hv,ho⟩
 ·obtain ⟨v,hv,ho⟩:=h2.2 (j - l.length) k (by rw [List.getElem?_append_right (by omega)] at hj; exact hj)
  exact ⟨v,by rw [List.getElem?_append_right (by omega),a]; exact hv,ho⟩
section
variable {P:Program}
theorem layFs_cons {F:TypeId→Option (List (Option IntKind))} {f:Field} {fs:List Field} {off:Nat} {l:List (Option IntKind)} (h:layFs F (f :: fs) off=some l) :
    f.name ≠ "_" ∧ f.offset = off ∧ ∃ l1 l2, F f.type = some l1 ∧ layFs F fs (off + l1.length) = some l2 ∧ l = l1 ++ l2 := by
 simp only [layFs] at h
 split at h
 ·rename_i hc
  obtain ⟨l1,h1,h2⟩:=Option.bind_eq_some_iff.1 h
  obtain ⟨l2,h3,h4⟩:=Option.map_eq_some_iff.1 h2
  exact ⟨hc.1,hc.2,l1,l2,h1,h3,h4.symm⟩
 ·cases h
theorem lay_struct {d:Nat} {t:TypeId} {fs:Array Field} {l:List (Option IntKind)} (hu:P.underlying t=some (.struct fs)) (h:lay P (d+1) t=some l) :
    layFs (lay P d) fs.toList 0=some l∧P.stoodInHeld t=false∧(P.info? t).map (·.size)=some l.length:=by
 simp only [lay,hu] at h
 obtain ⟨l1,h1,h2⟩:=Option.bind_eq_some_iff.1 h
 split at h2
 ·rename_i hc
  cases h2
  exact ⟨h1,hc.1,hc.2⟩
 ·cases h2
theorem lay_size {d:Nat} {t:TypeId} {l:List (Option IntKind)} (h:lay P d t=some l):(P.info? t).map (·.size)=some l.length:=by
 cases d with
 | zero=>simp [lay] at h
 | succ d =>
  cases hu:P.underlying t with
  | none=>simp [lay,hu] at h
  | some q =>
   cases q <;> simp [lay,hu] at h
   case bool=>obtain ⟨h1,rfl⟩:=h; simpa using h1
   case int=>obtain ⟨h1,rfl⟩:=h; simpa using h1
   case struct fs =>
    obtain ⟨l1,h1,h2⟩:=Option.bind_eq_some_iff.1 h
    split at h2
    ·rename_i hc
     cases h2
     simpa using hc.2
    ·cases h2
theorem lay_cells {d:Nat} {t:TypeId} {l:List (Option IntKind)} (h:lay P d t=some l):P.cellsOf t=l.length:=by
 simp [Program.cellsOf,lay_size h]
theorem run_isAgg {t:TypeId} {q:TypeDesc} (hu:P.underlying t=some q) (w:World):(isAgg t).run P w=.ok q.isRow w:=by
 unfold isAgg
 rw [Sem.run_bind,run_underlying hu w]
 cases q <;> rfl
variable {H:Type} {enc:TypeId × Value→H} {w:World} {base:Nat} {spare:Nat→Bool} {held:Bool}
theorem fs_typed {d n:Nat} {cs:List Value} (IH:∀ (t:TypeId) (l:List (Option IntKind)) (cs:List Value) (x:DataW H × List MemPlace),lay P d t=some l→DataW.trod enc P w base spare held n t cs=some x→Typed l cs) :
    ∀ (fs:List Field) (off:Nat) (l:List (Option IntKind)),layFs (lay P d) fs off=some l→(∀ f ∈ fs,∃ y,DataW.trod enc P w base spare held n f.type ((cs.drop f.offset).take (P.cellsOf f.type))=some y)→Typed l ((cs.drop off).take l.length)
 | [],off,l,h,_=>by
  simp only [layFs] at h
  cases h
  exact ⟨by simp,fun j k hj=>by simp at hj⟩
 | f :: fs,off,l,h,hy=>by
  obtain ⟨_,ho,l1,l2,h1,h2,rfl⟩:=layFs_cons h
  obtain ⟨y,hy1⟩:=hy f (by simp)
  have t1:=IH f.type l1 _ y h1 hy1
  rw [lay_cells h1,ho] at t1
  have t2:=fs_typed IH fs (off+l1.length) l2 h2 (fun g hg=>hy g (by simp [hg]))
  have:=t1.append t2
  rw [List.length_append,List.take_add,List.drop_drop]
  exact this
theorem trod_typed:∀ (d:Nat) (t:TypeId) (l:List (Option IntKind)) (n:Nat) (cs:List Value) (x:DataW H × List MemPlace),lay P d t=some l→DataW.trod enc P w base spare held n t cs=some x→Typed l cs
 | 0,_,_,_,_,_,h,_=>by simp [lay] at h
 | d+1,t,l,n,cs,x,h,hx=>by
  cases hu:P.underlying t with
  | none=>simp [lay,hu] at h
  | some q =>
   have h':=h
   cases q <;> simp [lay,hu] at h
   case bool =>
    obtain ⟨_,rfl⟩:=h
    obtain ⟨b,rfl,_⟩:=DataW.trod_bool hu hx
    refine ⟨rfl,fun j k hj=>?_⟩
    match j,hj with
    | 0,hj=>cases hj; exact ⟨_,rfl,b,rfl⟩
   case int k =>
    obtain ⟨_,rfl⟩:=h
    obtain ⟨z,rfl,_,hz⟩:=DataW.trod_int hu hx
    refine ⟨rfl,fun j k' hj=>?_⟩
    match j,hj with
    | 0,hj=>cases hj; exact ⟨_,rfl,z,rfl,hz⟩
   case struct fs =>
    obtain ⟨h1,_,hz⟩:=lay_struct hu h'
    obtain ⟨xs,m,_,_,hl,hlen,hf⟩:=DataW.trod_struct hu hx
    have hl':cs.length=l.length:=by rw [hl]; exact lay_cells h'
    have:=fs_typed (cs:=cs) (fun t l cs x h hx=>trod_typed d t l m cs x h hx) fs.toList 0 l h1 (fun f hf'=>by
     obtain ⟨i,hi,rfl⟩:=List.getElem_of_mem hf'
     have hi':i < fs.size:=by simpa using hi
     have:=hf i fs[i] (by simp [hi'])
     rw [List.getElem?_eq_getElem (by omega)] at this
     exact ⟨_,this⟩)
    rw [List.drop_zero,List.take_of_length_le (by omega)] at this
    exact this
end
end Go.Proofs.Ytamnmjckhicapaa
namespace Go.Proofs.Ytamnmjckhicapaa
open Go.RowKit Go.WideShapes Go.ChangeShapes Go.Deep
set_option linter.unusedVariables false
set_option linter.unusedSimpArgs false
def IsRow (w:World) (m:Nat) (v:Value) (n:Nat) (xs:List Value):Prop :=
 xs.length=n*m∧((n=0∧(v=.slice none 0 0∨∃ a cap,v=.slice (some a) 0 cap)) ∨
  ∃ b off cap,v=.slice (some ⟨b,off,none⟩) n cap∧0 < n∧n≤cap∧cap≤maxLen∧b < w.heap.size∧w.rangeAt b off xs)
def RowTyped (l:List (Option IntKind)) (n:Nat) (xs:List Value):Prop:=xs.length=n*l.length∧∀ i,i < n→Typed l ((xs.drop (i*l.length)).take l.length)
theorem rangeAt_ext {w w':World} {b off:Nat} {xs:List Value} (h:w.rangeAt b off xs) (hx:Ext w w') (hb:b < w.heap.size):w'.rangeAt b off xs:=fun j v hv=>(hx.cell hb).trans (h j v hv)
section
variable {P:Program} {H:Type} {enc:TypeId × Value→H} {w:World}
theorem open_row {d n:Nat} {t e:TypeId} {l:List (Option IntKind)} {c:Value} {x:DataW H × List MemPlace} (ht:P.underlying t=some (.slice e)) (he:lay P d e=some l) (hl:0 < l.length)
    (h:DataW.trod enc P w 0 (fun _=>true) true n t [c]=some x):∃ m xs,IsRow w l.length c m xs∧RowTyped l m xs:=by
 rcases DataW.trod_slice ht h with ⟨hc,_⟩ | ⟨a,len,cap,elems,rest,k,_,hc,_,_,hlc,hm,hlen,hel,_,_⟩
 ·refine ⟨0,[],⟨by simp,.inl ⟨rfl,.inl (by simpa using hc)⟩⟩,by simp,fun i hi=>by omega⟩
 ·have hc':c=.slice (some a) len cap:=by simpa using hc
  rw [lay_cells he] at hel
  by_cases h0:len=0
  ·subst h0
   exact ⟨0,[],⟨by simp,.inl ⟨rfl,.inr ⟨a,cap,hc'⟩⟩⟩,by simp,fun i hi=>by omega⟩
  ·have each:∀ i,i < len→∃ cs,(∀ j,j < l.length→w.cell? ((a.add (i*l.length)).add j)=cs[j]?)∧Typed l cs:=by
    intro i hi
    have:=hel i hi
    rw [List.getElem?_eq_getElem (by omega)] at this
    obtain ⟨cs,h1,h2⟩:=Option.bind_eq_some_iff.1 this
    obtain ⟨_,_,h3⟩:=World.cells?_some h1
    exact ⟨cs,h3,trod_typed d e l k cs _ he h2⟩
   obtain ⟨b,off,spot⟩:=a
   have hspot:spot=none:=by
    obtain ⟨cs,h1,h2⟩:=each 0 (by omega)
    have:=h1 0 hl
    obtain ⟨v,hv⟩:∃ v,cs[0]?=some v:=⟨cs[0]'(by rw [h2.1]; exact hl),by simp⟩
    rw [hv] at this
    simpa [Addr.add] using World.cell?_spot this
   subst hspot
   have cell:∀ i,i < len→∃ cs,(∀ j,j < l.length→w.cell? ⟨b,off+(i*l.length+j),none⟩=cs[j]?)∧Typed l cs:=by
    intro i hi
    obtain ⟨cs,h1,h2⟩:=each i hi
    refine ⟨cs,fun j hj=>?_,h2⟩
    have:=h1 j hj
    rw [Addr.add_mid,Addr.add_mid,Nat.add_assoc] at this
    exact this
   have hb:b < w.heap.size:=by
    obtain ⟨cs,h1,h2⟩:=cell 0 (by omega)
    have:=h1 0 hl
    obtain ⟨v,hv⟩:∃ v,cs[0]?=some v:=⟨cs[0]'(by rw [h2.1]; exact hl),by simp⟩
    rw [hv] at this
    exact World.block_lt_of_cell? w _ this
   have part:∀ i,i < len→Typed l ((((List.range (len*l.length)).map fun j=>(w.cell? ⟨b,off+j,none⟩).getD undef).drop (i*l.length)).take l.length)∧∀ j,j < l.length→∃ v,w.cell? ⟨b,off+(i*l.length+j),none⟩=some v:=by
    intro i hi
    obtain ⟨cs,h1,h2⟩:=cell i hi
    have hle:(i+1)*l.length≤len*l.length:=Nat.mul_le_mul_right _ hi
    rw [Nat.add_mul,Nat.one_mul] at hle
    have e:(((List.range (len*l.length)).map fun j=>(w.cell? ⟨b,off+j,none⟩).getD undef).drop (i*l.length)).take l.length=cs:=by
     apply List.ext_getElem?
     intro j
     by_cases hj:j < l.length
     ·have hr:i*l.length+j < len*l.length:=by omega
      rw [List.getElem?_take,if_pos hj,List.getElem?_drop,List.getElem?_map,List.getElem?_range hr]
      simp only [Option.map_some]
      rw [h1 j hj,List.getElem?_eq_getElem (by rw [h2.1]; exact hj)]
      rfl
     ·rw [List.getElem?_eq_none (by simp; omega),List.getElem?_eq_none (by rw [h2.1]; omega)]
    refine ⟨e ▸ h2,fun j hj=>⟨cs[j]'(by rw [h2.1]; exact hj),?_⟩⟩
    rw [h1 j hj]
    simp
   refine ⟨len,(List.range (len*l.length)).map fun j=>(w.cell? ⟨b,off+j,none⟩).getD undef,⟨by simp,.inr ⟨b,off,cap,hc',by omega,hlc,hm,hb,fun j v hv=>?_⟩⟩,by simp,fun i hi=>(part i hi).1⟩
   have hj:j < len*l.length:=by simpa using (List.getElem?_eq_some_iff.1 hv).1
   have hi:j / l.length < len:=Nat.div_lt_of_lt_mul (by rw [Nat.mul_comm]; exact hj)
   obtain ⟨u,hu⟩:=(part _ hi).2 (j % l.length) (Nat.mod_lt _ hl)
   have e:j / l.length*l.length+j % l.length=j:=by rw [Nat.mul_comm]; exact Nat.div_add_mod j _
   rw [e] at hu
   simp [List.getElem?_map,List.getElem?_range hj,hu] at hv
   rw [hu,hv]
end
def HL:List (Option IntKind):=[some .u64,none,some .i64,some .i64,some .i64,some .i64,some .i64,some .u64,some .u32,some .u64,some .u16,some .u16,some .i64,some .i64,some .i64,some .i64,some .i64]
def ML:List (Option IntKind):=[some .i64,none,none,none,none,none,none,some .i64,some .u64,some .u32,some .u64,some .u16,some .u16,some .i64,some .i64,some .i64,some .i64]
def PL:List (Option IntKind):=[some .u16,some .u32,none,none,none,none] ++ List.replicate 16 (some .i64) ++ List.replicate 29 none ++ ML ++ [some .u64,some .u32,some .u64,some .u16,some .u16,some .u64,some .u32,some .u64,some .u16,some .u16] ++ List.replicate 11 (some .i64)
def SL:List (Option IntKind):=some .i64 :: ML
structure Br where
 hd:List Value
 np:Nat
 ps:List Value
 no:Nat
 os:List Value
 nf:Nat
 fl:List Value
structure Br.ok (B:Br):Prop where
 hd:Typed HL B.hd
 ps:RowTyped PL B.np B.ps
 os:RowTyped SL B.no B.os
 fl:RowTyped [some .i64] B.nf B.fl
def BrC (w:World) (c:Array Value) (B:Br):Prop :=
 ∃ s1 s2 s3,c=(B.hd ++ [s1,s2,s3]).toArray∧IsRow w 89 s1 B.np B.ps∧IsRow w 18 s2 B.no B.os∧IsRow w 1 s3 B.nf B.fl
end Go.Proofs.Ytamnmjckhicapaa
namespace Go.Proofs.Ytamnmjckhicapaa
open Go.RowKit Go.WideShapes Go.ChangeShapes Go.Deep
set_option linter.unusedVariables false
set_option linter.unusedSimpArgs false
theorem IsRow.form {w:World} {m n:Nat} {v:Value} {xs:List Value} (h:IsRow w m v n xs):∃ a cap,v=.slice a n cap∧n≤9223372036854775807∧(0 < n→∃ b off,a=some ⟨b,off,none⟩∧b < w.heap.size∧n≤cap∧cap≤9223372036854775807∧w.rangeAt b off xs):=by
 obtain ⟨_,⟨rfl,rfl | ⟨a,cap,rfl⟩⟩ | ⟨b,off,cap,rfl,h0,h1,h2,h3,h4⟩⟩:=h
 ·exact ⟨none,0,rfl,by simp,fun h=>by simp at h⟩
 ·exact ⟨some a,cap,rfl,by simp,fun h=>by simp at h⟩
 ·unfold maxLen at h2
  exact ⟨_,cap,rfl,by omega,fun _=>⟨b,off,rfl,h3,h1,h2,h4⟩⟩
theorem BrC.facts {w:World} {c:Array Value} {B:Br} (h:BrC w c B) (hl:B.hd.length=17):∃ s1 s2 s3,c.size=20∧(∀ j,j < 17→c[j]?=B.hd[j]?)∧c[17]?=some s1∧c[18]?=some s2∧c[19]?=some s3∧IsRow w 89 s1 B.np B.ps∧IsRow w 18 s2 B.no B.os∧IsRow w 1 s3 B.nf B.fl:=by
 obtain ⟨s1,s2,s3,rfl,h1,h2,h3⟩:=h
 refine ⟨s1,s2,s3,by simp [hl],fun j hj=>?_,?_,?_,?_,h1,h2,h3⟩
 ·simp only [List.getElem?_toArray]
  exact List.getElem?_append_left (by omega)
 ·simp [hl]
 ·simp [hl]
 ·simp [hl]
theorem box_cell {w w':World} {c:Array Value} {t:TypeId} (hx:Ext (w.alloc (.cells c t)) w'):∀ j,w'.cell? ⟨w.heap.size,j,none⟩=c[j]? :=
 fun j=>(hx.cell (by simp)).trans (World.cell?_alloc_at _ _ _ _ rfl)
theorem at_load (T:TypeId) {P:Program} {ops:Array Oper} {rest:List Oper} {a:Act} {w:World} {Q:Exit→Act→World→Prop} {d:Option Tmp} {x:Operand} {ty:TypeId} {pos:String} {af:Array Edge}
    (h:wpList P ops Q ({ dst:=d,op:=.load T x,type:=ty,pos:=pos,after:=af,guard:=none } :: rest) a w):wpList P ops Q ({ dst:=d,op:=.load T x,type:=ty,pos:=pos,after:=af,guard:=none } :: rest) a w:=h
theorem at_store (T:TypeId) {P:Program} {ops:Array Oper} {rest:List Oper} {a:Act} {w:World} {Q:Exit→Act→World→Prop} {d:Option Tmp} {x y:Operand} {ty:TypeId} {pos:String} {af:Array Edge}
    (h:wpList P ops Q ({ dst:=d,op:=.store T x y,type:=ty,pos:=pos,after:=af,guard:=none } :: rest) a w):wpList P ops Q ({ dst:=d,op:=.store T x y,type:=ty,pos:=pos,after:=af,guard:=none } :: rest) a w:=h
theorem at_loadG (T:TypeId) {P:Program} {ops:Array Oper} {rest:List Oper} {a:Act} {w:World} {Q:Exit→Act→World→Prop} {d:Option Tmp} {x:Operand} {ty:TypeId} {pos:String} {af:Array Edge} {gd:Nat × Bool}
    (h:wpList P ops Q ({ dst:=d,op:=.load T x,type:=ty,pos:=pos,after:=af,guard:=some gd } :: rest) a w):wpList P ops Q ({ dst:=d,op:=.load T x,type:=ty,pos:=pos,after:=af,guard:=some gd } :: rest) a w:=h
theorem wpList_load_midG {P:Program} {ops:Array Oper} {rest:List Oper} {op:Oper} {a:Act} {w:World} {Q:Exit→Act→World→Prop} (hw:Region.wanted op (yielded ops a.tmps)=true) (ty:TypeId) (x:Operand) (ho:op.op=.load ty x)
    (b o:Nat) (hx:a.eval x=.pointer (some ⟨b,o,none⟩)) (cs:List Value) (d:TypeDesc) (hc:w.rangeAt b o cs)
    (hu:P.underlying ty=some d) (hd:d.isRow=true) (hi:(P.info? ty).map (·.size)=some cs.length)
    (h:wpList P ops Q rest (a.put op.dst (.agg cs.toArray)) w):wpList P ops Q (op :: rest) a w :=
 BigFrame.wpList_want hw fun _ hK=>wp_load_mid ty x ho b o hx cs d hc hu hd hi (hK _ _ h)
theorem wpList_store_new3 {P:Program} {ops:Array Oper} {rest:List Oper} {op:Oper} {a:Act} {w:World} {Q:Exit→Act→World→Prop} (hgd:op.guard=none) (hdst:op.dst=none) (t t0:TypeId) (x y:Operand) (ho:op.op=.store t x y)
    (c c':Array Value) (n:Nat) (hx:a.eval x=.pointer (some ⟨n,0,none⟩)) (hn:n=w.heap.size) (hy:a.eval y=.agg c') (hi:(P.info? t).map (·.size)=some c'.size) (hs:c.size=c'.size) (h1:c'.toList.all (·.oneCell')=true)
    (h:∀ w':World,w'=w.alloc (.cells c' t0)→wpList P ops Q rest a w'):wpList P ops Q (op :: rest) a (w.alloc (.cells c t0)) :=
 wpList_plain hgd fun K hK=>by
  subst hn
  unfold Oper.wp execOp
  simp only [ho,hx,hy,Instr.storeAt,Instr.sureAddr,Sem.run_bind,Sem.run_pure,Result.andThen_ok,run_storeVar_row _ _ t0 t c c' (heap_alloc_new w _) hi hs (by rw [← Array.all_toList]; exact h1),World.setRow_alloc_new]
  exact hK _ _ (by rw [show a.put op.dst undef=a by rw [hdst]; rfl]; exact h _ rfl)
def port (ps:List Value) (i:Nat):List Value:=(ps.drop (i*89)).take 89
theorem port_range {w:World} {b off:Nat} {ps:List Value} (h:w.rangeAt b off ps) (i:Nat):w.rangeAt b (off+i*89) (port ps i):=fun j v hv=>by
 unfold port at hv
 rw [List.getElem?_take] at hv
 split at hv
 ·rw [List.getElem?_drop] at hv
  have:=h _ _ hv
  rwa [← Nat.add_assoc] at this
 ·cases hv
end Go.Proofs.Ytamnmjckhicapaa
namespace Go.Proofs.Ytamnmjckhicapaa
open Go.RowKit Go.BigFrame Go.WideShapes Go.ChangeShapes Go.Deep
set_option linter.unusedVariables false
set_option linter.unusedSimpArgs false
set_option maxRecDepth 100000
set_option maxRecDepth 10000
def fl (n:Nat):Nat:=Ieee.double.nearest false n 0
theorem f_lp:Ieee.double.leastPlace=-1074:=by decide
theorem f_bin:Ieee.double.binade=4503599627370496:=by decide
theorem f_inf:Ieee.double.infRung=9218868437227405312:=by decide
theorem f_sgn:Ieee.double.signWeight=9223372036854775808:=by decide
theorem f_frac:Ieee.double.fractionBits=52:=rfl
theorem near_0 (p:Int):Ieee.double.nearest false 0 p=0:=by
 unfold Ieee.Format.nearest
 rw [if_pos rfl]
 rfl
theorem fl_zero:fl 0=0:=near_0 0
theorem f_log {n:Nat} (h0:n ≠ 0) (h:n < 2 ^ 53):n.log2≤52:=by
 have:=(Nat.log2_lt h0).2 h
 omega
def fm (n:Nat):Nat:=n*2 ^ (52 - n.log2)
theorem fm_rg {n:Nat} (h0:n ≠ 0) (h:n < 2 ^ 53):2 ^ 52≤fm n∧fm n < 2 ^ 53:=by
 have hl:=f_log h0 h
 have h1:=Nat.log2_self_le h0
 have h2:=@Nat.lt_log2_self n
 have e1:2 ^ 52=2 ^ n.log2*2 ^ (52 - n.log2):=by rw [← Nat.pow_add]; congr 1; omega
 have e2:2 ^ 53=2 ^ (n.log2+1)*2 ^ (52 - n.log2):=by rw [← Nat.pow_add]; congr 1; omega
 unfold fm
 constructor
 ·rw [e1]; exact Nat.mul_le_mul_right _ h1
 ·rw [e2]; exact Nat.mul_lt_mul_of_pos_right h2 (Nat.two_pow_pos _)
theorem cut_none (neg:Bool) (n:Nat):Ieee.Toward.even.cut neg n 0=n:=by
 unfold Ieee.Toward.cut
 simp [Nat.mod_one]
theorem cut_even (m d:Nat) (h:d≤(m*2 ^ d).log2+2):Ieee.Toward.even.cut false (m*2 ^ d) d=m:=by
 unfold Ieee.Toward.cut
 rw [Nat.min_eq_left h,Nat.shiftLeft_eq,Nat.one_mul]
 have hp:0 < 2 ^ d:=Nat.two_pow_pos d
 simp only [Nat.mul_div_cancel _ hp,Nat.mul_mod_left]
 have h2:(2 ^ d == 2*0)=false:=by simp
 simp [h2]
theorem log2_mul_pow {n:Nat} (h0:n ≠ 0) (b:Nat):(n*2 ^ b).log2=n.log2+b:=by
 have hp:0 < 2 ^ b:=Nat.two_pow_pos b
 have hne:n*2 ^ b ≠ 0:=Nat.mul_ne_zero h0 (by omega)
 have h1:=Nat.log2_self_le h0
 have h2:=@Nat.lt_log2_self n
 have a:n.log2+b≤(n*2 ^ b).log2:=by
  rw [Nat.le_log2 hne,Nat.pow_add]
  exact Nat.mul_le_mul_right _ h1
 have c:(n*2 ^ b).log2 < n.log2+b+1:=by
  rw [Nat.log2_lt hne,show n.log2+b+1=n.log2+1+b by omega,Nat.pow_add]
  exact Nat.mul_lt_mul_of_pos_right h2 hp
 omega
theorem near_any {n:Nat} (h0:n ≠ 0) (h:n < 2 ^ 53) (b:Nat) (hb:b≤1074):Ieee.double.nearest false (n*2 ^ b) (-(b:Int))=(n.log2+1022)*4503599627370496+fm n:=by
 have hl:=f_log h0 h
 have hr:=fm_rg h0 h
 have hne:n*2 ^ b ≠ 0:=Nat.mul_ne_zero h0 (by have:=Nat.two_pow_pos b; omega)
 unfold Ieee.Format.nearest
 rw [if_neg hne,log2_mul_pow h0,f_lp,f_bin,f_inf,f_frac]
 have el:max (-(b:Int)+(n.log2+b:Nat) - (52:Nat)) (-1074)=(n.log2:Int) - 52:=by omega
 rw [el]
 have ek:Ieee.Toward.even.cut false ((n*2 ^ b) <<< (-(b:Int) - ((n.log2:Int) - 52)).toNat) (((n.log2:Int) - 52 - -(b:Int)).toNat)=fm n:=by
  by_cases hc:b≤52 - n.log2
  ·rw [show (-(b:Int) - ((n.log2:Int) - 52)).toNat=52 - n.log2 - b by omega,show ((n.log2:Int) - 52 - -(b:Int)).toNat=0 by omega,cut_none,Nat.shiftLeft_eq,Nat.mul_assoc,← Nat.pow_add]
   unfold fm
   congr 2; omega
  ·rw [show (-(b:Int) - ((n.log2:Int) - 52)).toNat=0 by omega,show ((n.log2:Int) - 52 - -(b:Int)).toNat=b - (52 - n.log2) by omega,Nat.shiftLeft_zero]
   have e:n*2 ^ b=fm n*2 ^ (b - (52 - n.log2)):=by
    unfold fm
    rw [Nat.mul_assoc,← Nat.pow_add]
    congr 2; omega
   rw [e]
   refine cut_even _ _ ?_
   rw [← e,log2_mul_pow h0]
   omega
 simp only [ek]
 unfold Ieee.Format.word
 rw [if_neg (by decide),show ((n.log2:Int) - 52 - -1074).toNat=n.log2+1022 by omega,Nat.min_eq_left (by omega)]
theorem fl_eq {n:Nat} (h0:n ≠ 0) (h:n < 2 ^ 53):fl n=(n.log2+1022)*4503599627370496+fm n:=by
 have:=near_any h0 h 0 (by omega)
 unfold fl
 rw [Nat.pow_zero,Nat.mul_one] at this
 exact this
theorem fl_lt {n:Nat} (h:n < 2 ^ 53):fl n < 9218868437227405312:=by
 by_cases h0:n=0
 ·subst h0; decide
 ·have hl:=f_log h0 h
  have hr:=fm_rg h0 h
  rw [fl_eq h0 h]
  omega
theorem fl_read {n:Nat} (h0:n ≠ 0) (h:n < 2 ^ 53):Ieee.double.read (fl n)=.number false (fm n) ((n.log2:Int) - 52):=by
 have hl:=f_log h0 h
 have hr:=fm_rg h0 h
 have hlt:=fl_lt h
 have he:=fl_eq h0 h
 unfold Ieee.Format.read
 rw [f_sgn,f_bin,f_inf,f_lp]
 have e1:(fl n / 9223372036854775808 % 2 == 1)=false:=by
  rw [Nat.div_eq_of_lt (by omega)]
  rfl
 have e2:fl n % 9223372036854775808=fl n:=Nat.mod_eq_of_lt (by omega)
 simp only [e1,e2]
 rw [if_neg (by omega),if_pos hlt]
 have e3:fl n % 4503599627370496=fm n - 4503599627370496:=by omega
 have e4:fl n / 4503599627370496=n.log2+1023:=by omega
 rw [e3,e4,show 4503599627370496+(fm n - 4503599627370496)=fm n by omega,show (-1074:Int)+((n.log2+1023 - 1:Nat):Int)=(n.log2:Int) - 52 by omega]
theorem fl_read0:Ieee.double.read (fl 0)=.number false 0 (-1074):=by decide
theorem fl_units {n b:Nat} (h:n < 2 ^ 53):∃ m p,Ieee.double.read (fl n)=.number false m p∧p≤0∧-1074≤p∧∀ base:Int,base≤p→base≤0→(m <<< (p - base).toNat:Nat)=n*2 ^ (-base).toNat:=by
 by_cases h0:n=0
 ·subst h0
  exact ⟨0,-1074,fl_read0,by omega,by omega,fun base _ _=>by simp⟩
 ·have hl:=f_log h0 h
  refine ⟨fm n,(n.log2:Int) - 52,fl_read h0 h,by omega,by omega,fun base h1 h2=>?_⟩
  rw [Nat.shiftLeft_eq]
  unfold fm
  rw [Nat.mul_assoc,← Nat.pow_add]
  congr 2
  omega
theorem fl_add {n m:Nat} (h:n+m < 2 ^ 53):Ieee.double.add (fl n) (fl m)=some (fl (n+m)):=by
 obtain ⟨a,p,e1,p1,p2,u1⟩:=fl_units (n:=n) (b:=0) (by omega)
 obtain ⟨c,q,e2,q1,q2,u2⟩:=fl_units (n:=m) (b:=0) (by omega)
 unfold Ieee.Format.add
 rw [e1,e2]
 unfold Ieee.Datum.sum
 have hb0:min p q≤0:=by omega
 have k1:=u1 (min p q) (by omega) hb0
 have k2:=u2 (min p q) (by omega) hb0
 have et:(Ieee.signed false a (p - min p q).toNat+Ieee.signed false c (q - min p q).toNat)=(((n+m)*2 ^ (-(min p q)).toNat:Nat):Int):=by
  unfold Ieee.signed
  simp only [Bool.false_eq_true,if_false]
  rw [k1,k2,Nat.add_mul]
  push_cast
  rfl
 simp only [et]
 by_cases hz:n+m=0
 ·rw [hz]
  simp only [Nat.zero_mul]
  show some (Ieee.double.nearest false 0 _)=some (fl 0)
  rw [near_0,fl_zero]
 ·have hne:¬ ((((n+m)*2 ^ (-(min p q)).toNat:Nat):Int)=0):=by
   have:=Nat.mul_ne_zero hz (Nat.pos_iff_ne_zero.1 (Nat.two_pow_pos (-(min p q)).toNat))
   omega
  rw [if_neg hne,show decide ((((n+m)*2 ^ (-(min p q)).toNat:Nat):Int) < 0)=false from decide_eq_false (Int.not_lt.2 (Int.natCast_nonneg _))]
  show some (Ieee.double.nearest false ((((n+m)*2 ^ (-(min p q)).toNat:Nat):Int).natAbs) (min p q))=_
  rw [Int.natAbs_natCast]
  have hm:=near_any hz h (-(min p q)).toNat (by omega)
  rw [show -(((-(min p q)).toNat:Nat):Int)=min p q by omega] at hm
  rw [hm,fl_eq hz h]
theorem fl_order {n m:Nat} (h1:n < 2 ^ 53) (h2:m < 2 ^ 53):Ieee.double.order (fl n) (fl m)=some (compare n m):=by
 obtain ⟨a,p,e1,p1,p2,u1⟩:=fl_units (n:=n) (b:=0) h1
 obtain ⟨c,q,e2,q1,q2,u2⟩:=fl_units (n:=m) (b:=0) h2
 unfold Ieee.Format.order
 rw [e1,e2]
 unfold Ieee.Datum.order
 have hb0:min p q≤0:=by omega
 have k1:=u1 (min p q) (by omega) hb0
 have k2:=u2 (min p q) (by omega) hb0
 have hp:=Nat.two_pow_pos (-(min p q)).toNat
 unfold Ieee.signed
 simp only [Bool.false_eq_true,if_false,k1,k2]
 refine congrArg some ?_
 show compareOfLessAndEq (((n*2 ^ (-(min p q)).toNat:Nat):Int)) (((m*2 ^ (-(min p q)).toNat:Nat):Int))=compareOfLessAndEq n m
 unfold compareOfLessAndEq
 rcases Nat.lt_trichotomy n m with h | h | h
 ·have h3:=Nat.mul_lt_mul_of_pos_right h hp
  rw [if_pos h,if_pos (by omega)]
 ·subst h
  rw [if_neg (by omega),if_pos rfl,if_neg (by omega),if_pos rfl]
 ·have h3:=Nat.mul_lt_mul_of_pos_right h hp
  rw [if_neg (by omega),if_neg (by omega),if_neg (by omega),if_neg (by omega)]
end Go.Proofs.Ytamnmjckhicapaa
namespace Go.Proofs.Ytamnmjckhicapaa
open Go.RowKit Go.BigFrame Go.WideShapes Go.ChangeShapes Go.Deep
set_option linter.unusedVariables false
set_option linter.unusedSimpArgs false
set_option maxRecDepth 100000
def fneg:Nat:=13830554455654793216
abbrev Way:=Option (Nat × Nat)
def cvW:Way→Value
 | none=>.complex .f64 fneg fneg
 | some (c,h)=>.complex .f64 (fl c) (fl h)
def Way.fits:Way→Prop
 | none=>True
 | some (c,h)=>c < 2 ^ 53∧h < 2 ^ 53
theorem fl_one:fl 1=4607182418800017408:=by decide
theorem f_ord {n m:Nat} (h1:n < 2 ^ 53) (h2:m < 2 ^ 53):FloatKind.f64.format.order (fl n) (fl m)=some (compare n m):=fl_order h1 h2
theorem f_neg_read:Ieee.double.read fneg=.number true 4503599627370496 (-52):=by decide
theorem f_ord_neg {n:Nat} (h:n < 2 ^ 53):FloatKind.f64.format.order (fl n) fneg=some .gt:=by
 obtain ⟨a,p,e1,p1,p2,u1⟩:=fl_units (n:=n) (b:=0) h
 show Ieee.double.order (fl n) fneg=some .gt
 unfold Ieee.Format.order
 rw [e1,f_neg_read]
 have hp:0 < 4503599627370496 <<< (-52 - min p (-52)).toNat:=by
  rw [Nat.shiftLeft_eq]
  exact Nat.mul_pos (by decide) (Nat.two_pow_pos _)
 have key:∀ x y:Nat,0 < y→compareOfLessAndEq ((x:Nat):Int) (-((y:Nat):Int))=.gt:=fun x y hy=>by
  unfold compareOfLessAndEq
  rw [if_neg (by omega),if_neg (by omega)]
 exact congrArg some (key (a <<< (p - min p (-52)).toNat) (4503599627370496 <<< (-52 - min p (-52)).toNat) hp)
theorem f_ord_nn:FloatKind.f64.format.order fneg fneg=some .eq:=by decide
theorem f_int {c:Int} (h:0≤c):floatOfInt .f64 c=fl c.toNat:=by
 show Ieee.double.nearest (decide (c < 0)) c.natAbs 0=fl c.toNat
 rw [decide_eq_false (by omega),show c.natAbs=c.toNat by omega]
 rfl
theorem f_add {n m:Nat} (h:n+m < 2 ^ 53):floatBits .add .f64 (fl n) (fl m)=some (fl (n+m)):=fl_add h
theorem cmp_eq (n m:Nat):(some (compare n m) == some Ordering.eq)=(n == m):=by
 show ((some (compareOfLessAndEq n m)) == some Ordering.eq)=_
 unfold compareOfLessAndEq
 rcases Nat.lt_trichotomy n m with h | h | h
 ·rw [if_pos h,show (n == m)=false by simpa using Nat.ne_of_lt h]; rfl
 ·subst h; rw [if_neg (by omega),if_pos rfl,show (n == n)=true by simp]; rfl
 ·rw [if_neg (by omega),if_neg (by omega),show (n == m)=false by simpa using Nat.ne_of_gt h]; rfl
theorem cmp_lt (n m:Nat):(some (compare n m) == some Ordering.lt)=decide (n < m):=by
 show ((some (compareOfLessAndEq n m)) == some Ordering.lt)=_
 unfold compareOfLessAndEq
 rcases Nat.lt_trichotomy n m with h | h | h
 ·rw [if_pos h,decide_eq_true h]; rfl
 ·subst h; rw [if_neg (by omega),if_pos rfl,decide_eq_false (by omega)]; rfl
 ·rw [if_neg (by omega),if_neg (by omega),decide_eq_false (by omega)]; rfl
theorem rlen_any (c:Int) (w:World) (h:0≤c):Calls Try.prog 56 #[.int .u32 c] w fun e w'=>e=.returned (cvW (some (c.toNat,1)))∧w=w':=by
 have hf:=f_int h
 have h1:=fl_one
 go_enter Try.func56,Try.ntmps56
 go_wp2
 go_ret
 exact ⟨by simp [cvW,hf,h1],rfl⟩
theorem rnone_any (v:Way) (w:World) (h:v.fits):Calls Try.prog 46 #[cvW v] w fun e w'=>e=.returned (.bool v.isNone)∧w=w':=by
 cases v with
 | none =>
  have h1:FloatKind.f64.format.order 13830554455654793216 13830554455654793216=some .eq:=f_ord_nn
  unfold cvW fneg
  go_enter Try.func46,Try.ntmps46
  go_wp2
  go_ret
  exact ⟨by simp,rfl⟩
 | some q =>
  obtain ⟨c,b⟩:=q
  have h1:FloatKind.f64.format.order (fl c) 13830554455654793216=some .gt:=f_ord_neg h.1
  unfold cvW
  go_enter Try.func46,Try.ntmps46
  go_wp2
  go_ret
  exact ⟨by simp,rfl⟩
def ltW (a b c d:Nat):Bool:=decide (a < c) || (a == c && decide (b < d))
theorem rless_any (a b c d:Nat) (w:World) (ha:a < 2 ^ 53) (hb:b < 2 ^ 53) (hc:c < 2 ^ 53) (hd:d < 2 ^ 53):Calls Try.prog 74 #[cvW (some (a,b)),cvW (some (c,d))] w fun e w'=>e=.returned (.bool (ltW a b c d))∧w=w':=by
 have h1:(FloatKind.f64.format.order (fl a) (fl c) == some Ordering.lt)=decide (a < c):=by rw [f_ord ha hc,cmp_lt]
 have h2:(FloatKind.f64.format.order (fl a) (fl c) == some Ordering.eq)=(a == c):=by rw [f_ord ha hc,cmp_eq]
 have h3:(FloatKind.f64.format.order (fl b) (fl d) == some Ordering.lt)=decide (b < d):=by rw [f_ord hb hd,cmp_lt]
 unfold cvW ltW
 cases e1:decide (a < c)
 ·cases e2:(a == c)
  all_goals
   rw [e1] at h1
   rw [e2] at h2
   clear e1 e2
   go_enter Try.func74,Try.ntmps74
   go_wp2
   go_ret
   exact ⟨by simp [h3],rfl⟩
 ·rw [e1] at h1
  clear e1
  go_enter Try.func74,Try.ntmps74
  go_wp2
  go_ret
  exact ⟨by simp,rfl⟩
end Go.Proofs.Ytamnmjckhicapaa
namespace Go.Proofs.Ytamnmjckhicapaa
open Go.RowKit Go.WideShapes Go.ChangeShapes
set_option linter.unusedVariables false
set_option linter.unusedSimpArgs false
set_option maxRecDepth 100000
end Go.Proofs.Ytamnmjckhicapaa
namespace Go.Proofs.Ytamnmjckhicapaa
open Go.RowKit Go.BigFrame Go.WideShapes Go.ChangeShapes Go.Deep
set_option linter.unusedVariables false
set_option linter.unusedSimpArgs false
set_option maxRecDepth 100000
def shW (a b:Nat):Way→Bool
 | none=>true
 | some (c,d)=>ltW a b c d
theorem rshorter_any (a b:Nat) (v:Way) (w:World) (ha:a < 2 ^ 53) (hb:b < 2 ^ 53) (hv:v.fits):Calls Try.prog 57 #[cvW (some (a,b)),cvW v] w fun e w'=>e=.returned (.bool (shW a b v))∧w=w':=by
 have HN:=Lib.hid (rnone_any v w hv)
 cases v with
 | none =>
  obtain ⟨x,hx⟩:∃ x,cvW none=x:=⟨_,rfl⟩
  obtain ⟨y,hy⟩:∃ x,cvW (some (a,b))=x:=⟨_,rfl⟩
  rw [hx] at HN ⊢
  rw [hy]
  clear hx hy
  go_enter Try.func57,Try.ntmps57
  go_wp2_with fail
  refine HN.out.mono ?_
  rintro e w1 ⟨rfl,rfl⟩
  go_wp2_with fail
  go_ret
  exact ⟨rfl,rfl⟩
 | some q =>
  obtain ⟨c,d⟩:=q
  have HL:=Lib.hid (rless_any a b c d w ha hb hv.1 hv.2)
  obtain ⟨t,ht⟩:∃ t,ltW a b c d=t:=⟨_,rfl⟩
  have HT:=Lib.hid (show shW a b (some (c,d))=t from ht)
  rw [ht] at HL
  rw [HT.out]
  clear ht
  obtain ⟨x,hx⟩:∃ x,cvW (some (c,d))=x:=⟨_,rfl⟩
  obtain ⟨y,hy⟩:∃ x,cvW (some (a,b))=x:=⟨_,rfl⟩
  rw [hx] at HN HL ⊢
  rw [hy] at HL ⊢
  clear hx hy HT
  go_enter Try.func57,Try.ntmps57
  go_wp2_with fail
  refine HN.out.mono ?_
  rintro e w1 ⟨rfl,rfl⟩
  go_wp2_with fail
  refine HL.out.mono ?_
  rintro e w1 ⟨rfl,rfl⟩
  go_wp2_with fail
  go_ret
  exact ⟨rfl,rfl⟩
theorem radd_run {P:Program} (w:World) (t:TypeId) (a b c d:Nat) (h1:a+c < 2 ^ 53) (h2:b+d < 2 ^ 53):(binOp .add t (cvW (some (a,b))) (cvW (some (c,d)))).run P w=.ok (cvW (some (a+c,b+d))) w :=
 run_complex_sum w .add (.inl rfl) t .f64 _ _ _ _ _ _ (by unfold cSumBits; rw [f_add h1,f_add h2]; rfl)
end Go.Proofs.Ytamnmjckhicapaa
namespace Go.Proofs.Ytamnmjckhicapaa
open Go.RowKit Go.BigFrame Go.WideShapes Go.ChangeShapes Go.Deep
set_option linter.unusedVariables false
set_option linter.unusedSimpArgs false
set_option maxRecDepth 100000
def nearB (D:List Way) (dn:List Bool) (at_:Int) (i:Nat):Bool :=
 !dn.getD i false && match D.getD i none with
  | none=>false
  | some (a,b)=>decide (at_ < 0) || match D.getD at_.toNat none with
   | none=>false
   | some (c,d)=>ltW a b c d
def nearF (D:List Way) (dn:List Bool):Nat→Int
 | 0=>-1
 | i+1=>if nearB D dn (nearF D dn i) i=true then i else nearF D dn i
theorem nearF_rg (D:List Way) (dn:List Bool):∀ i,nearF D dn i=-1∨∃ k:Nat,k < i∧nearF D dn i=k∧dn.getD k false=false∧∃ q,D.getD k none=some q
 | 0=>.inl rfl
 | i+1=>by
  unfold nearF
  split
  ·rename_i h
   refine .inr ⟨i,by omega,rfl,?_,?_⟩
   ·unfold nearB at h
    cases hd:dn.getD i false
    ·rfl
    ·rw [hd] at h; simp at h
   ·unfold nearB at h
    cases hq:D.getD i none with
    | none=>rw [hq] at h; simp at h
    | some q=>exact ⟨q,rfl⟩
  ·rcases nearF_rg D dn i with h | ⟨k,hk,h⟩
   ·exact .inl h
   ·exact .inr ⟨k,by omega,h⟩
def WayAt (w:World) (g:Nat) (D:List Way):Prop:=g < w.heap.size∧∀ i,i < D.length→w.cell? ⟨g,i,none⟩=some (cvW (D.getD i none))
def BoolAt (w:World) (g:Nat) (D:List Bool):Prop:=g < w.heap.size∧∀ i,i < D.length→w.cell? ⟨g,i,none⟩=some (.bool (D.getD i false))
set_option maxRecDepth 100000 in
set_option maxHeartbeats 1000000 in
theorem rnearest_any (g1 g2:Nat) (D:List Way) (dn:List Bool) (n c1 c2:Nat) (w:World) (h1:WayAt w g1 D) (h2:BoolAt w g2 dn) (l1:D.length=n) (l2:dn.length=n) (hn:n≤1000) (hc1:n≤c1) (hc2:n≤c2) (hm1:c1≤9223372036854775807) (hm2:c2≤9223372036854775807) (hf:∀ i,(D.getD i none).fits) :
    Calls Try.prog 55 #[.slice (some ⟨g1,0,none⟩) n c1,.slice (some ⟨g2,0,none⟩) n c2] w fun e w'=>e=.returned (.int .i64 (nearF D dn n))∧w=w':=by
 have H1:=Lib.hid h1.2
 have H2:=Lib.hid h2.2
 have HF:=Lib.hid hf
 clear h1 h2 hf
 go_enter Try.func55,Try.ntmps55
 go_wp2_with fail
 go_loopw [10,5] (fun i s wr=>∃ k:Nat,k≤n∧i=.int .i64 k∧s=.int .i64 (nearF D dn k)∧w=wr) (fun i _ _=>n - (intOf i).toNat)
 case atStart=>exact ⟨0,by omega,rfl,rfl,rfl⟩
 case round =>
  obtain ⟨k,hk,rfl,rfl,rfl⟩:=hrel
  by_cases hlt:k < n
  ·have HS:=Lib.hid (show nearF D dn (k+1)=if nearB D dn (nearF D dn k) k=true then (k:Int) else nearF D dn k from rfl)
   have hrg:=nearF_rg D dn k
   obtain ⟨z,hz⟩:∃ z,nearF D dn k=z:=⟨_,rfl⟩
   rw [hz] at HS hrg ⊢
   clear hz
   have d1:=H1.out k (by omega)
   have d2:=H2.out k (by omega)
   have hfk:=HF.out k
   obtain ⟨q,hq⟩:∃ q,D.getD k none=q:=⟨_,rfl⟩
   obtain ⟨b,hb⟩:∃ b,dn.getD k false=b:=⟨_,rfl⟩
   rw [hq] at d1 hfk
   rw [hb] at d2
   have HQ:=Lib.hid hq
   have HB:=Lib.hid hb
   have hk8:k < 1000:=by omega
   clear hq hb
   obtain ⟨x,hx⟩:∃ x,cvW q=x:=⟨_,rfl⟩
   have HX:=Lib.hid hx
   rw [hx] at d1
   clear hx
   cases b
   ·cases q with
    | none =>
     have HV:=Lib.hid (show nearF D dn (k+1)=z by rw [HS.out,if_neg]; unfold nearB; rw [HB.out,HQ.out]; simp)
     have HC:=Lib.hid (fun w:World=>by have h:=rnone_any none w trivial; rw [HX.out] at h; exact h)
     go_wp2_with fail
     refine (HC.out _).mono ?_
     rintro e w1 ⟨rfl,rfl⟩
     go_wp2_with fail
     go_roundw
     case rel=>exact ⟨k+1,by omega,by go_num,by rw [HV.out],by first | rfl | trivial⟩
     case measure=>simp [intOf]; omega
    | some p =>
     obtain ⟨pa,pb⟩:=p
     have HC:=Lib.hid (fun w:World=>by have h:=rnone_any (some (pa,pb)) w hfk; rw [HX.out] at h; exact h)
     rcases hrg with rfl | ⟨m,hm,rfl,hmd,⟨⟨qa,qb⟩,hmq⟩⟩
     ·have HV:=Lib.hid (show nearF D dn (k+1)=k by rw [HS.out,if_pos]; unfold nearB; rw [HB.out,HQ.out]; simp)
      go_wp2_with fail
      refine (HC.out _).mono ?_
      rintro e w1 ⟨rfl,rfl⟩
      go_wp2_with fail
      go_roundw
      case rel=>exact ⟨k+1,by omega,by go_num,by rw [HV.out],by first | rfl | trivial⟩
      case measure=>simp [intOf]; omega
     ·have hm8:m < 1000:=by omega
      have hfm:=HF.out m
      have dm:=H1.out m (by omega)
      rw [hmq] at hfm dm
      have HMQ:=Lib.hid hmq
      obtain ⟨t,ht⟩:∃ t,ltW pa pb qa qb=t:=⟨_,rfl⟩
      have HLS:=Lib.hid (fun w:World=>by have h:=rless_any pa pb qa qb w hfk.1 hfk.2 hfm.1 hfm.2; rw [HX.out,ht] at h; exact h)
      have HV:=Lib.hid (show nearF D dn (k+1)=if t=true then (k:Int) else m by
       rw [HS.out]
       unfold nearB
       rw [HB.out,HQ.out,Int.toNat_natCast,HMQ.out,← ht]
       simp [show ¬ ((m:Int) < 0) by omega])
      obtain ⟨y,hy⟩:∃ x,cvW (some (qa,qb))=x:=⟨_,rfl⟩
      rw [hy] at dm HLS
      clear hy ht hmq hmd
      go_wp2_with fail
      refine (HC.out _).mono ?_
      rintro e w1 ⟨rfl,rfl⟩
      go_wp2_with fail
      refine (HLS.out _).mono ?_
      rintro e w1 ⟨rfl,rfl⟩
      cases t
      ·go_wp2_with fail
       go_roundw
       case rel=>exact ⟨k+1,by omega,by go_num,by rw [HV.out]; rfl,by first | rfl | trivial⟩
       case measure=>simp [intOf]; omega
      ·go_wp2_with fail
       go_roundw
       case rel=>exact ⟨k+1,by omega,by go_num,by rw [HV.out]; rfl,by first | rfl | trivial⟩
       case measure=>simp [intOf]; omega
   ·have HV:=Lib.hid (show nearF D dn (k+1)=z by rw [HS.out,if_neg]; unfold nearB; rw [HB.out]; simp)
    go_wp2_with fail
    go_roundw
    case rel=>exact ⟨k+1,by omega,by go_num,by rw [HV.out],by first | rfl | trivial⟩
    case measure=>simp [intOf]; omega
  ·obtain rfl:k=n:=by omega
   go_wp2_with fail
   go_ret
   exact ⟨rfl,by first | rfl | trivial⟩
end Go.Proofs.Ytamnmjckhicapaa
namespace Go.Proofs.Ytamnmjckhicapaa
open Go.RowKit Go.WideShapes Go.ChangeShapes Go.Deep
set_option linter.unusedVariables false
set_option linter.unusedSimpArgs false
set_option maxRecDepth 100000
theorem own_row {w:World} {base m n:Nat} {e:TypeId} {v:Value} {xs:List Value} (h:w.ownsRow base e m v n xs):IsRow w m v n xs:=by
 obtain ⟨h0,⟨rfl,rfl⟩ | ⟨g,cap,cur,rfl,hb,hg,hn,hm,hs,ht⟩⟩:=h
 ·exact ⟨h0,.inl ⟨rfl,.inl rfl⟩⟩
 ·refine ⟨h0,?_⟩
  by_cases hz:n=0
  ·exact .inl ⟨hz,.inr ⟨_,cap,by rw [hz]⟩⟩
  ·refine .inr ⟨g,0,cap,rfl,by omega,hn,hm,(Array.getElem?_eq_some_iff.1 hg).1,fun j v hv=>?_⟩
   rw [← ht,List.getElem?_take] at hv
   split at hv
   ·rw [Nat.zero_add,cell_of_row w g j cur e (0,0) hg]
    simpa using hv
   ·cases hv
theorem info_int:(Try.prog.info? 3).map (fun i=>(i.zero,i.size,i.bytes))=some (some (.int .i64 0),1,8):=by kernel_rfl
theorem heap_lt {w:World} {X:Nat} {o:Obj} (h:w.heap[X]?=some o):X < w.heap.size:=(Array.getElem?_eq_some_iff.1 h).1
theorem ext_setRow {a w:World} (h:Ext a w) {g:Nat} (hg:a.heap.size≤g) (cs:Array Value):Ext a (w.setRow g cs) :=
 Below.trans h ⟨rfl,rfl,rfl,by simp,fun k hk=>setRow_other w g k cs (by omega)⟩
end Go.Proofs.Ytamnmjckhicapaa
