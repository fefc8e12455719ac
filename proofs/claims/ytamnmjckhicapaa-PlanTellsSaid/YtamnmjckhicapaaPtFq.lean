/- Part 17 of what PlanVersions stands on. No statement is proved here. -/
import Derived.Laws.Rows
import Derived.Test.YtamnmjckhicapaaPtFp
namespace Go.Proofs.Ytamnmjckhicapaa
open Go.RowKit Go.BigFrame Go.WideShapes Go.ChangeShapes Go.Deep
set_option linter.unusedVariables false
set_option linter.unusedSimpArgs false
set_option maxRecDepth 100000
theorem info_bool:(Try.prog.info? 4).map (fun i=>(i.zero,i.size,i.bytes))=some (some (.bool false),1,1):=by kernel_rfl
def upsF (u:Int) (i:Nat):Bool:=decide (u / 2 ^ i % 2=1)
def upsL (u:Int):List Bool:=(List.range 6).map (upsF u)
theorem and1:∀ x:Nat,x < 256→(bits BinOp.and IntKind.u8 (x:Int) 1 == 1)=decide ((x:Int) % 2=1):=by decide +kernel
def bv (l:List Bool):List Value:=l.map Value.bool
theorem BoolsAt.own {w:World} {base n:Nat} {e:TypeId} {v:Value} {l:List Bool} (h:w.ownsRow base e 1 v n (bv l)) (hl:l.length=n) (hn:n≤1000):BoolsAt w v l:=by
 unfold BoolsAt
 rw [hl]
 refine RowAt.own h hn (fun i hi=>⟨.bool (l.getD i false),?_,rfl⟩)
 unfold bv
 rw [List.getElem?_map,List.getD_eq_getElem?_getD,List.getElem?_eq_getElem (by omega)]
 rfl
set_option maxRecDepth 100000 in
set_option maxHeartbeats 4000000 in
theorem ups_any (u:Int) (w:World) (hu:0≤u∧u < 256):Calls Try.prog 11 #[.int .u8 u] w fun e w'=>∃ v,e=.returned v∧BoolsAt w' v (upsL u)∧Ext w w':=by
 obtain ⟨i1,hi1,hz1,hs1,hb1⟩:=info_parts info_bool
 have I1:=Lib.hid (And.intro hi1 (And.intro hz1 (And.intro hs1 hb1)))
 have HU:=Lib.hid hu
 clear hi1 hz1 hs1 hb1 hu
 go_enter Try.func11,Try.ntmps11
 go_wp2_with fail
 go_loopw [3,4] (fun s t wr=>∃ (k:Nat) (u0:Value) (wo:World),wo=wr∧u0=s∧t=.int .i64 k∧k≤6∧wo.ownsRow w.heap.size 4 1 u0 k (bv ((List.range k).map (upsF u)))∧Ext w wo) (fun _ t _=>6 - (intOf t).toNat)
 case atStart=>exact ⟨0,_,_,rfl,rfl,rfl,by omega,⟨rfl,.inl ⟨rfl,rfl⟩⟩,Ext.refl _⟩
 case round =>
  obtain ⟨k,u0,wo,rfl,rfl,rfl,hk,ho,hx⟩:=hrel
  rename World=>wl
  have HO:=Lib.hid ho
  have HX:=Lib.hid hx
  clear ho hx
  by_cases hlt:k < 6
  ·have dlt:decide ((k:Int) < 6)=true:=by simp; omega
   have hup:IntKind.i64.wrap ((k:Int)+1)=((k+1:Nat):Int):=by rw [IntKind.wrap_i64]; omega
   obtain ⟨a,c,rfl⟩:=own_form2 HO.out
   have hbt:(bits BinOp.and IntKind.u8 (u / 2 ^ k) 1 == 1)=upsF u k:=by
    have h1:=HU.out
    have h2:0≤u / 2 ^ k:=Int.ediv_nonneg h1.1 (by exact_mod_cast Nat.zero_le _)
    have h3:u / 2 ^ k≤u:=Int.ediv_le_self _ h1.1
    obtain ⟨x,hx⟩:∃ x:Nat,u / 2 ^ k=x:=⟨(u / 2 ^ k).toNat,by omega⟩
    unfold upsF
    rw [hx]
    exact and1 x (by omega)
   have HS:=Lib.hid (show bv ((List.range (k+1)).map (upsF u))=bv ((List.range k).map (upsF u)) ++ [.bool (bits BinOp.and IntKind.u8 (u / 2 ^ k) 1 == 1)] from by rw [hbt]; simp [bv,List.range_succ])
   clear hbt
   obtain ⟨b,hb⟩:∃ b,(bits BinOp.and IntKind.u8 (u / 2 ^ k) 1 == 1)=b:=⟨_,rfl⟩
   have HB:=Lib.hid hb
   rw [hb] at HS
   have HO6:=Lib.hid (HO.out.alloc (.cells #[.bool b] 4))
   have HNW:=Lib.hid (fun (j:Nat) (u:Value) (hu:[Value.bool b][j]?=some u)=>World.news_of_block (heap_alloc_new wl (.cells #[.bool b] 4)) j u (by simpa using hu))
   clear hb
   go_wp2_with (first
    | fail
    | (at_builtin; rw [HB.out]; refine wpList_append_own_at _ rfl _ _ 35 rfl w.heap.size 4 i1 (.bool false) 1 1 Try.underlying35 I1.out.1 I1.out.2.1 I1.out.2.2.1 I1.out.2.2.2 rfl (by decide) _ k (bv ((List.range k).map (upsF u))) rfl HO6.out ⟨wl.heap.size,0,none⟩ 1 1 [.bool b] rfl rfl HNW.out (by simp; rfl) (by unfold maxLen; omega) (by omega) (by have:=HX.out.size; simp; omega) ?_
       intro v7 w7 ho7 hg7 _ hb7
       have HX7:=Lib.hid (ext_grown (HX.out.alloc (.cells #[.bool b] 4)) HO6.out (Nat.le_refl _) hg7)
       have HO7:=Lib.hid (show w7.ownsRow w.heap.size 4 1 v7 (k+1) (bv ((List.range (k+1)).map (upsF u))) from by rw [HS.out]; exact ho7)
       clear ho7 hg7 hb7))
   go_roundw
   case rel=>exact ⟨k+1,_,_,rfl,rfl,by go_num,by omega,HO7.out,HX7.out⟩
   case measure=>simp [intOf] <;> omega
  ·have dlt:decide ((k:Int) < 6)=false:=by simp; omega
   obtain rfl:k=6:=by omega
   go_wp2_with fail
   go_ret
   exact ⟨_,rfl,BoolsAt.own HO.out (by simp [upsL]) (by omega),HX.out⟩
end Go.Proofs.Ytamnmjckhicapaa
namespace Go.Proofs.Ytamnmjckhicapaa
open Go.RowKit Go.BigFrame Go.WideShapes Go.ChangeShapes Go.Deep
set_option linter.unusedVariables false
set_option linter.unusedSimpArgs false
set_option maxRecDepth 100000
theorem results_crt {P:Program} {fn:Func} {p u:Tmp} {ty:TypeId} (h:fn.results=#[.cell p ty,.tmp u]) (tmps:Array Value) (w:World) (g:Nat) (t:TypeId) (cs:Array Value) (fr:Nat × Nat) (d:TypeDesc)
    (hp:tmps.getD p undef=.pointer (some ⟨g,0,none⟩)) (hg:w.heap[g]?=some (.cells cs t fr))
    (hu:P.underlying ty=some d) (hd:(match d with | .struct _ | .array _ _=>true | _=>false)=true) (hi:(P.info? ty).map (·.size)=some cs.size) :
    (results fn tmps).run P w=.ok (.tuple #[.agg cs,tmps.getD u undef]) w:=by
 have hp':tmps[p]?.getD undef=.pointer (some ⟨g,0,none⟩):=by simpa using hp
 simp only [results,h]
 simp [Sem.run_bind,Result.andThen,hp',asAddr,run_loadVar_row w g t ty cs fr d hg hu hd hi]
structure OS where
 v:Value
 e:TypeId
 m:Nat
 n:Nat
 xs:List Value
def OS.at (o:OS) (w:World) (B:Nat):Prop:=w.ownsRow B o.e o.m o.v o.n o.xs
def Fam (w:World) (B n:Nat) (F:Nat→OS):Prop:=(∀ k,k < n→(F k).at w B)∧∀ j k,j < n→k < n→j ≠ k→∀ g,(F j).v.ownBlock=some g→(F k).v.ownBlock ≠ some g
def upd (F:Nat→OS) (k:Nat) (o:OS):Nat→OS:=fun j=>if j=k then o else F j
theorem upd_same (F:Nat→OS) (k:Nat) (o:OS):upd F k o k=o:=if_pos rfl
theorem upd_other {F:Nat→OS} {k j:Nat} {o:OS} (h:j ≠ k):upd F k o j=F j:=if_neg h
theorem Fam.ext {w w':World} {B n:Nat} {F:Nat→OS} (h:Fam w B n F) (hx:Ext w w'):Fam w' B n F:=⟨fun k hk=>ownR_ext (h.1 k hk) hx,h.2⟩
theorem Fam.mut {w w':World} {B n:Nat} {F:Nat→OS} {G:Nat→Prop} (h:Fam w B n F) (hm:Mut G w w') (hG:∀ j,j < n→∀ g,(F j).v.ownBlock=some g→¬ G g):Fam w' B n F:=⟨fun k hk=>own_mut (h.1 k hk) hm (fun g hg=>hG k hk g hg),h.2⟩
theorem Fam.set {w w':World} {B n k s:Nat} {F:Nat→OS} {G:Nat→Prop} {o:OS} (h:Fam w B n F) (hk:k < n) (hm:Mut (fun g=>G g∨(F k).v.ownBlock=some g) w w') (hG:∀ j,j < n→∀ g,(F j).v.ownBlock=some g→¬ G g) (ho:o.at w' B)
    (hs:w.heap.size≤s) (hl:o.v.ownBlock=(F k).v.ownBlock∨o.v.ownBlock=some s):Fam w' B n (upd F k o):=by
 refine ⟨fun j hj=>?_,fun i j hi hj hij g h1 h2=>?_⟩
 ·by_cases e:j=k
  ·subst e; rw [upd_same]; exact ho
  ·rw [upd_other e]
   exact own_mut (h.1 j hj) hm (fun g hg hh=>by
    rcases hh with hh | hh
    ·exact hG j hj g hg hh
    ·exact h.2 j k hj hk e g hg hh)
 ·have key:∀ a,a < n→a ≠ k→∀ g,(F a).v.ownBlock=some g→o.v.ownBlock ≠ some g:=fun a ha hak g e1 e2=>by
   rcases hl with hl | hl
   ·exact h.2 a k ha hk hak g e1 (hl ▸ e2)
   ·have h3:=(own_lt2 (h.1 a ha) e1).2
    rw [hl] at e2
    have h4:s=g:=by simpa using e2
    omega
  by_cases ei:i=k
  ·subst ei
   rw [upd_same] at h1
   rw [upd_other (Ne.symm hij)] at h2
   exact key j hj (Ne.symm hij) g h2 h1
  ·rw [upd_other ei] at h1
   by_cases ej:j=k
   ·subst ej
    rw [upd_same] at h2
    exact key i hi ei g h1 h2
   ·rw [upd_other ej] at h2
    exact h.2 i j hi hj hij g h1 h2
theorem Fam.nil {w:World} {B n:Nat} {F:Nat→OS} (h:Fam w B n F) (e:TypeId) (m:Nat):Fam w B (n+1) (upd F n ⟨.slice none 0 0,e,m,0,[]⟩):=by
 have hb:∀ g,(Value.slice none 0 0).ownBlock ≠ some g:=fun g=>by simp [Value.ownBlock]
 refine ⟨fun j hj=>?_,fun i j hi hj hij g h1 h2=>?_⟩
 ·by_cases e2:j=n
  ·subst e2; rw [upd_same]; exact ⟨by simp,.inl ⟨rfl,rfl⟩⟩
  ·rw [upd_other e2]; exact h.1 j (by omega)
 ·by_cases ei:i=n
  ·subst ei; rw [upd_same] at h1; exact hb g h1
  ·by_cases ej:j=n
   ·subst ej; rw [upd_same] at h2; exact hb g h2
   ·rw [upd_other ei] at h1
    rw [upd_other ej] at h2
    exact h.2 i j (by omega) (by omega) hij g h1 h2
structure Tn where
 rst:Int
 prio:List Int
 ports:List (List Int)
 edge:Int
def ptT (t:Tn) (i k:Nat):Pt:=⟨32769+k,1+at0 (t.ports.getD i []) k / 8 % 4,false,false,upsF t.edge k⟩
def ptsT (t:Tn) (i:Nat):List Pt:=(List.range (t.ports.getD i []).length).map (ptT t i)
def idT (t:Tn) (i:Nat):Int:=(i+1:Nat)+(if i < t.prio.length then at0 t.prio i % 4*281474976710656 else 0)
def ndT (t:Tn) (i:Nat):Nd:=⟨idT t i,upsF t.rst i,ptsT t i⟩
def nodesT (t:Tn):List Nd:=(List.range t.ports.length).map (ndT t)
def addS (S:List (List Pl)) (v:Int) (i k:Nat):List (List Pl):=if v % 8 < 6 then S.set (v % 8).toNat (S.getD (v % 8).toNat [] ++ [((i:Int),(k:Int))]) else S
def segI (l:List Int) (i:Nat) (S:List (List Pl)):Nat→List (List Pl)
 | 0=>S
 | k+1=>addS (segI l i S k) (at0 l k) i k
def segN (t:Tn):Nat→List (List Pl)
 | 0=>List.replicate 6 []
 | i+1=>segI (t.ports.getD i []) i (segN t i) (t.ports.getD i []).length
def segsT (t:Tn):List (List Pl):=segN t t.ports.length
def okT (t:Tn):Bool:=decide (1≤t.ports.length∧t.ports.length≤5∧∀ l ∈ t.ports,l.length≤4)
theorem addS_len (S:List (List Pl)) (v:Int) (i k:Nat):(addS S v i k).length=S.length:=by unfold addS; split <;> simp
theorem segI_len (l:List Int) (i:Nat) (S:List (List Pl)):∀ k,(segI l i S k).length=S.length
 | 0=>rfl
 | k+1=>by
  show (addS (segI l i S k) (at0 l k) i k).length=_
  rw [addS_len,segI_len l i S k]
theorem segN_len (t:Tn):∀ i,(segN t i).length=6
 | 0=>rfl
 | i+1=>by
  show (segI _ i (segN t i) _).length=_
  rw [segI_len,segN_len t i]
theorem addS_small (S:List (List Pl)) (v:Int) (i k s:Nat):((addS S v i k).getD s []).length≤(S.getD s []).length+1:=by
 unfold addS
 split
 ·by_cases h:(v % 8).toNat=s
  ·subst h
   by_cases hl:(v % 8).toNat < S.length
   ·simp [List.getD_eq_getElem?_getD,hl]
   ·simp [List.getD_eq_getElem?_getD,hl]
  ·rw [List.getD_eq_getElem?_getD,List.getElem?_set_ne h,← List.getD_eq_getElem?_getD]
   omega
 ·omega
theorem segI_small (l:List Int) (i:Nat) (S:List (List Pl)) (s:Nat):∀ k,((segI l i S k).getD s []).length≤(S.getD s []).length+k
 | 0=>by show (S.getD s []).length≤_; omega
 | k+1=>by
  have h1:=addS_small (segI l i S k) (at0 l k) i k s
  have h2:=segI_small l i S s k
  show ((addS (segI l i S k) (at0 l k) i k).getD s []).length≤_
  omega
theorem segN_small (t:Tn) (s:Nat):∀ i,(∀ j,j < i→(t.ports.getD j []).length≤4)→((segN t i).getD s []).length≤4*i
 | 0,_=>by
  show ((List.replicate 6 ([]:List Pl)).getD s []).length≤_
  rw [List.getD_eq_getElem?_getD,List.getElem?_replicate]
  split <;> simp
 | i+1,h=>by
  have h1:=segI_small (t.ports.getD i []) i (segN t i) s (t.ports.getD i []).length
  have h2:=segN_small t s i (fun j hj=>h j (by omega))
  have h3:=h i (by omega)
  show ((segI (t.ports.getD i []) i (segN t i) (t.ports.getD i []).length).getD s []).length≤_
  omega
def BytA (w:World) (v:Value) (L:List Int):Prop:=∃ a cap,v=.slice a L.length cap∧(0 < L.length→∃ b off,a=some ⟨b,off,none⟩∧b < w.heap.size∧∀ i,i < L.length→w.cell? ⟨b,off+i,none⟩=some (.int .u8 (at0 L i))∧0≤at0 L i∧at0 L i < 256)
theorem BytA.ext {w w':World} {v:Value} {L:List Int} (h:BytA w v L) (hx:Ext w w'):BytA w' v L:=by
 obtain ⟨a,cap,e,hf⟩:=h
 refine ⟨a,cap,e,fun h0=>?_⟩
 obtain ⟨b,off,e1,hb,hr⟩:=hf h0
 exact ⟨b,off,e1,Nat.lt_of_lt_of_le hb hx.size,fun i hi=>⟨(hx.cell (p:=⟨b,off+i,none⟩) hb).trans (hr i hi).1,(hr i hi).2⟩⟩
def BytsA (w:World) (v:Value) (L:List (List Int)):Prop:=∃ (pv:Nat→Value),(∃ a cap,v=.slice a L.length cap∧(0 < L.length→∃ b off,a=some ⟨b,off,none⟩∧b < w.heap.size∧∀ i,i < L.length→w.cell? ⟨b,off+i,none⟩=some (pv i)))∧∀ i,i < L.length→BytA w (pv i) (L.getD i [])
theorem BytsA.ext {w w':World} {v:Value} {L:List (List Int)} (h:BytsA w v L) (hx:Ext w w'):BytsA w' v L:=by
 obtain ⟨pv,⟨a,cap,e,hf⟩,h2⟩:=h
 refine ⟨pv,⟨a,cap,e,fun h0=>?_⟩,fun i hi=>(h2 i hi).ext hx⟩
 obtain ⟨b,off,e1,hb,hr⟩:=hf h0
 exact ⟨b,off,e1,Nat.lt_of_lt_of_le hb hx.size,fun i hi=>(hx.cell (p:=⟨b,off+i,none⟩) hb).trans (hr i hi)⟩
def TinyA (w:World) (v:Value) (t:Tn):Prop:=∃ a b,v=.agg #[.int .u8 t.rst,a,b,.int .u8 t.edge]∧BytA w a t.prio∧BytsA w b t.ports∧(0≤t.rst∧t.rst < 256)∧0≤t.edge∧t.edge < 256
def flatT (l:List Pt):List Value:=l.flatMap Pt.L
theorem flatT_snoc (l:List Pt) (h:Pt):flatT (l ++ [h])=flatT l ++ h.L:=by simp [flatT]
theorem Fam.apart {n k s G:Nat} {F:Nat→OS} {o:OS} (h:∀ j,j < n→∀ g,(F j).v.ownBlock=some g→g ≠ G) (hk:k < n) (hG:G < s) (hl:o.v.ownBlock=(F k).v.ownBlock∨o.v.ownBlock=some s):∀ j,j < n→∀ g,(upd F k o j).v.ownBlock=some g→g ≠ G:=fun j hj g hg=>by
 by_cases e:j=k
 ·subst e
  rw [upd_same] at hg
  rcases hl with hl | hl
  ·exact h j hj g (hl ▸ hg)
  ·rw [hl] at hg
   have h4:s=g:=by simpa using hg
   omega
 ·rw [upd_other e] at hg
  exact h j hj g hg
def ncL (t:Tn) (pv:Nat→Value) (i:Nat):List Value:=(List.range i).flatMap (fun j=>[.int .u64 (idT t j),.bool (upsF t.rst j),pv j])
theorem ncL_snoc (t:Tn) (pv:Nat→Value) (i:Nat):ncL t pv (i+1)=ncL t pv i ++ [.int .u64 (idT t i),.bool (upsF t.rst i),pv i]:=by simp [ncL,List.range_succ]
theorem ncL_congr (t:Tn) {pv qv:Nat→Value}:∀ {i:Nat},(∀ j,j < i→pv j=qv j)→ncL t pv i=ncL t qv i
 | 0,_=>rfl
 | i+1,h=>by rw [ncL_snoc,ncL_snoc,ncL_congr t (fun j hj=>h j (by omega)),h i (by omega)]
structure FamT (NT ST PT:TypeId) (F:Nat→OS) (t:Tn) (i:Nat) (S:List (List Pl)):Prop where
 nd:F 0=⟨(F 0).v,NT,3,i,ncL t (fun j=>(F (7+j)).v) i⟩
 sg:∀ s,s < 6→F (1+s)=⟨(F (1+s)).v,PT,2,(S.getD s []).length,flatP (S.getD s [])⟩
 pt:∀ j,j < i→F (7+j)=⟨(F (7+j)).v,ST,5,(ptsT t j).length,flatT (ptsT t j)⟩
theorem FamT.seg {NT ST PT:TypeId} {F:Nat→OS} {t:Tn} {i r:Nat} {S:List (List Pl)} {v:Value} {L:List Pl} (h:FamT NT ST PT F t i S) (hS:S.length=6) (hr:r < 6):FamT NT ST PT (upd F (1+r) ⟨v,PT,2,L.length,flatP L⟩) t i (S.set r L):=by
 refine ⟨?_,fun s hs=>?_,fun j hj=>?_⟩
 ·rw [upd_other (by omega)]
  refine h.nd.trans ?_
  congr 1
  exact ncL_congr t (fun j _=>by rw [upd_other (by omega)])
 ·by_cases e:s=r
  ·subst e
   rw [upd_same]
   simp [List.getD_eq_getElem?_getD,hS,hr]
  ·rw [upd_other (by omega),List.getD_eq_getElem?_getD,List.getElem?_set_ne (Ne.symm e),← List.getD_eq_getElem?_getD]
   exact h.sg s hs
 ·rw [upd_other (by omega)]
  exact h.pt j hj
theorem FamT.port {NT ST PT:TypeId} {F:Nat→OS} {t:Tn} {i:Nat} {S:List (List Pl)} {o:OS} (h:FamT NT ST PT F t i S):FamT NT ST PT (upd F (7+i) o) t i S:=by
 refine ⟨?_,fun s hs=>?_,fun j hj=>?_⟩
 ·rw [upd_other (by omega)]
  refine h.nd.trans ?_
  congr 1
  exact ncL_congr t (fun j hj=>by rw [upd_other (by omega)])
 ·rw [upd_other (by omega)]
  exact h.sg s hs
 ·rw [upd_other (by omega)]
  exact h.pt j hj
theorem FamT.node {NT ST PT:TypeId} {F:Nat→OS} {t:Tn} {i:Nat} {S:List (List Pl)} {v:Value} (h:FamT NT ST PT F t i S) (hp:F (7+i)=⟨(F (7+i)).v,ST,5,(ptsT t i).length,flatT (ptsT t i)⟩) :
    FamT NT ST PT (upd F 0 ⟨v,NT,3,i+1,ncL t (fun j=>(F (7+j)).v) i ++ [.int .u64 (idT t i),.bool (upsF t.rst i),(F (7+i)).v]⟩) t (i+1) S:=by
 refine ⟨?_,fun s hs=>?_,fun j hj=>?_⟩
 ·rw [upd_same,ncL_snoc]
  congr 2
  ·exact ncL_congr t (fun j hj=>by rw [upd_other (by omega)])
  ·rw [upd_other (by omega)]
 ·rw [upd_other (by omega)]
  exact h.sg s hs
 ·rw [upd_other (by omega)]
  by_cases e:j=i
  ·subst e; exact hp
  ·exact h.pt j (by omega)
def F0T (ND PT:TypeId):Nat→OS:=fun k=>if k=0 then ⟨.slice none 0 0,ND,3,0,[]⟩ else ⟨.slice none 0 0,PT,2,0,[]⟩
theorem F0T_fam (ND PT:TypeId) (w:World) (B:Nat):Fam w B 7 (F0T ND PT):=by
 refine ⟨fun k hk=>?_,fun j k hj hk hjk g h1 h2=>?_⟩
 ·unfold OS.at F0T
  by_cases h:k=0
  ·simp only [h,if_true]; exact ⟨by simp,.inl ⟨rfl,rfl⟩⟩
  ·simp only [h,if_false]; exact ⟨by simp,.inl ⟨rfl,rfl⟩⟩
 ·unfold F0T at h1
  by_cases h:j=0 <;> simp [h,Value.ownBlock] at h1
theorem F0T_t (ND ST PT:TypeId) (t:Tn):FamT ND ST PT (F0T ND PT) t 0 (segN t 0):=by
 have e:∀ s,s < 6→(List.replicate 6 ([]:List Pl)).getD s []=[]:=fun s hs=>by rw [List.getD_eq_getElem?_getD,List.getElem?_replicate,if_pos hs]; rfl
 refine ⟨rfl,fun s hs=>?_,fun j hj=>by omega⟩
 show F0T ND PT (1+s)=OS.mk _ _ _ ((List.replicate 6 ([]:List Pl)).getD s []).length (flatP ((List.replicate 6 ([]:List Pl)).getD s []))
 rw [e s hs]
 unfold F0T
 rw [if_neg (by omega)]
 rfl
theorem F0T_row (ND PT:TypeId):(List.range 6).map (fun s=>(F0T ND PT (1+s)).v)=List.replicate 6 (.slice none 0 0):=by rfl
theorem RowAt.ownG {w:World} {base n m:Nat} {e:TypeId} {v:Value} {xs:List Value} {f:Nat→List Value} (h:w.ownsRow base e m v n xs) (hn:n≤1000) (hxs:∀ i,i < n→∀ j x,(f i)[j]?=some x→xs[i*m+j]?=some x):RowAt w v n m f:=by
 obtain ⟨a,cap,rfl⟩:=own_form2 h
 refine ⟨a,cap,rfl,by omega,fun h0=>?_⟩
 rcases h.2 with ⟨e,e2⟩ | ⟨g,cap2,cur,e,hb,hg,hn2,hm,hs,ht⟩
 ·omega
 ·cases e
  refine ⟨g,0,rfl,heap_lt hg,hn2,by unfold maxLen at hm; omega,fun i hi j v hv=>?_⟩
  have h2:=own_range h (i*m+j) v (hxs i hi j v hv)
  rw [Nat.zero_add] at h2 ⊢
  exact h2
theorem flat_at {α:Type} (f:α→List Value) (m:Nat) (hf:∀ a,(f a).length=m) (d:α):∀ (l:List α) (i j:Nat) (x:Value),i < l.length→(f (l.getD i d))[j]?=some x→(l.flatMap f)[i*m+j]?=some x
 | [],i,_,_,hi,_=>by simp at hi
 | a :: l,0,j,x,_,hj=>by
  have hj2:j < (f a).length:=(List.getElem?_eq_some_iff.1 hj).1
  rw [List.flatMap_cons,Nat.zero_mul,Nat.zero_add,List.getElem?_append_left hj2]
  exact hj
 | a :: l,i+1,j,x,hi,hj=>by
  rw [List.flatMap_cons,List.getElem?_append_right (by rw [hf,Nat.succ_mul]; omega),hf,show (i+1)*m+j - m=i*m+j by rw [Nat.succ_mul]; omega]
  exact flat_at f m hf d l i j x (by simpa using hi) hj
theorem ncL_at (t:Tn) (pv:Nat→Value) (n i j:Nat) (x:Value) (hi:i < n) (hx:[Value.int .u64 (idT t i),.bool (upsF t.rst i),pv i][j]?=some x):(ncL t pv n)[i*3+j]?=some x:=by
 refine flat_at (fun j=>[Value.int .u64 (idT t j),.bool (upsF t.rst j),pv j]) 3 (fun _=>rfl) 0 (List.range n) i j x (by simpa using hi) ?_
 rw [show (List.range n).getD i 0=i from by simp [List.getD_eq_getElem?_getD,hi]]
 exact hx
theorem PtsAt.own {w:World} {base:Nat} {e:TypeId} {v:Value} {L:List Pt} (h:w.ownsRow base e 5 v L.length (flatT L)) (hL:L.length≤1000):PtsAt w v L :=
 RowAt.ownG h hL (fun i hi j x hx=>flat_at Pt.L 5 (fun _=>rfl) default L i j x hi hx)
theorem PlAt.ownE {w:World} {base:Nat} {e:TypeId} {v:Value} {L:List Pl} (h:w.ownsRow base e 2 v L.length (flatP L)) (hL:L.length≤1000):PlAt w v L :=
 RowAt.ownG h hL (fun i hi j x hx=>flat_at plL 2 (fun _=>rfl) (0,0) L i j x hi hx)
theorem nodesT_at (t:Tn) (i:Nat) (hi:i < t.ports.length):(nodesT t).getD i default=ndT t i:=by simp [nodesT,List.getD_eq_getElem?_getD,hi]
theorem nodesT_len (t:Tn):(nodesT t).length=t.ports.length:=by simp [nodesT]
theorem segsT_len (t:Tn):(segsT t).length=6:=segN_len t _
theorem famT_at {w:World} {B SB:Nat} {F:Nat→OS} {t:Tn} {ND ST PT PS:TypeId} (hfm:Fam w B (7+t.ports.length) F) (hft:FamT ND ST PT F t t.ports.length (segsT t)) (hn:t.ports.length≤5) (hl:∀ j,j < t.ports.length→(t.ports.getD j []).length≤4)
    (hs:w.heap[SB]?=some (.cells ((List.range 6).map (fun s=>(F (1+s)).v)).toArray PS (0,0))):NodesAt w (F 0).v (nodesT t)∧SegsAt w (.slice (some ⟨SB,0,none⟩) 6 6) (segsT t):=by
 refine ⟨⟨fun j=>(F (7+j)).v,?_,fun i hi=>?_⟩,⟨fun s=>(F (1+s)).v,?_,fun s hs2=>?_⟩⟩
 ·have h0:=hfm.1 0 (by omega)
  rw [hft.nd] at h0
  rw [nodesT_len]
  refine RowAt.ownG h0 (by show t.ports.length≤1000; omega) (fun i hi j x hx=>ncL_at t _ _ i j x hi ?_)
  rw [nodesT_at t i hi] at hx
  exact hx
 ·have hi2:i < t.ports.length:=by rw [nodesT_len] at hi; exact hi
  have h0:=hfm.1 (7+i) (by omega)
  rw [hft.pt i hi2] at h0
  rw [nodesT_at t i hi2]
  have h4:=hl i hi2
  exact PtsAt.own h0 (by show (ptsT t i).length≤1000; unfold ptsT; rw [List.length_map,List.length_range]; omega)
 ·rw [segsT_len]
  refine ⟨_,_,rfl,by omega,fun _=>⟨SB,0,rfl,heap_lt hs,Nat.le_refl _,by omega,fun i hi j x hx=>?_⟩⟩
  have hj:j=0:=by
   have:=(List.getElem?_eq_some_iff.1 hx).1
   simp at this
   exact this
  subst hj
  simp only [List.getElem?_cons_zero,Option.some.injEq] at hx
  subst hx
  rw [cell_row hs]
  simp [hi]
 ·have hs6:s < 6:=by rw [segsT_len] at hs2; exact hs2
  have h0:=hfm.1 (1+s) (by omega)
  rw [hft.sg s hs6] at h0
  have h4:=segN_small t s t.ports.length hl
  exact PlAt.ownE h0 (by show ((segsT t).getD s []).length≤1000; unfold segsT; omega)
theorem range_set {α:Type} (n:Nat) (f g:Nat→α) (k:Nat) (v:α) (hk:k < n) (h1:g k=v) (h2:∀ j,j ≠ k→g j=f j):((List.range n).map f).set k v=(List.range n).map g:=by
 refine List.ext_getElem (by simp) (fun i q1 q2=>?_)
 by_cases e:i=k
 ·subst e; simp [h1]
 ·simp [List.getElem_set,Ne.symm e,h2 i e]
end Go.Proofs.Ytamnmjckhicapaa
