/- Part 22 of what PlanVersions stands on. No statement is proved here. -/
import Derived.Test.YtamnmjckhicapaaPtFu
namespace Go.Proofs.Ytamnmjckhicapaa
open Go.RowKit Go.BigFrame Go.WideShapes Go.ChangeShapes Go.Deep
set_option linter.unusedVariables false
set_option linter.unusedSimpArgs false
set_option maxRecDepth 100000
def TnR (t:Tn):Prop:=(∀ i k,0≤at0 (t.ports.getD i []) k∧at0 (t.ports.getD i []) k < 256)∧∀ i,0≤at0 t.prio i∧at0 t.prio i < 256
def PlT (t:Tn) (s:Nat) (p:Pl):Prop:=0≤p.1∧p.1 < t.ports.length∧0≤p.2∧p.2 < ((t.ports.getD p.1.toNat []).length:Int)∧at0 (t.ports.getD p.1.toNat []) p.2.toNat % 8=s
def plLt (p q:Pl):Prop:=p.1 < q.1∨p.1=q.1∧p.2 < q.2
theorem addS_get (S:List (List Pl)) (v:Int) (i k s:Nat) (hv:0≤v) (hs:s < S.length):(addS S v i k).getD s []=S.getD s [] ++ if v % 8=s∧s < 6 then [((i:Int),(k:Int))] else []:=by
 unfold addS
 by_cases h:v % 8 < 6
 ·rw [if_pos h]
  by_cases e:v % 8=s
  ·rw [if_pos ⟨e,by omega⟩,show (v % 8).toNat=s by omega,List.getD_eq_getElem?_getD,List.getElem?_set_self hs]
   rfl
  ·rw [if_neg (fun h=>e h.1),List.append_nil,List.getD_eq_getElem?_getD,List.getElem?_set_ne (by omega),← List.getD_eq_getElem?_getD]
 ·rw [if_neg h,if_neg (by omega),List.append_nil]
theorem segI_ok (t:Tn) (hr:TnR t) (i:Nat) (hi:i < t.ports.length) (S:List (List Pl)) (hS:S.length=6) (s:Nat) (hs:s < 6) (h1:∀ p ∈ S.getD s [],PlT t s p∧p.1 < i) (h2:(S.getD s []).Pairwise plLt) :
    ∀ k,k≤(t.ports.getD i []).length→(∀ p ∈ (segI (t.ports.getD i []) i S k).getD s [],PlT t s p∧(p.1 < i∨p.1=i∧p.2 < k))∧((segI (t.ports.getD i []) i S k).getD s []).Pairwise plLt
 | 0,_=>⟨fun p hp=>⟨(h1 p hp).1,.inl (h1 p hp).2⟩,h2⟩
 | k+1,hk=>by
  obtain ⟨a,b⟩:=segI_ok t hr i hi S hS s hs h1 h2 k (by omega)
  have e:=addS_get (segI (t.ports.getD i []) i S k) (at0 (t.ports.getD i []) k) i k s (hr.1 i k).1 (by rw [segI_len,hS]; exact hs)
  show (∀ p ∈ (addS (segI (t.ports.getD i []) i S k) (at0 (t.ports.getD i []) k) i k).getD s [],_)∧((addS (segI (t.ports.getD i []) i S k) (at0 (t.ports.getD i []) k) i k).getD s []).Pairwise plLt
  rw [e]
  by_cases hc:at0 (t.ports.getD i []) k % 8=s∧s < 6
  ·rw [if_pos hc]
   refine ⟨fun p hp=>?_,List.pairwise_append.2 ⟨b,List.pairwise_singleton _ _,fun p hp q hq=>?_⟩⟩
   ·rcases List.mem_append.1 hp with hp | hp
    ·obtain ⟨q1,q2⟩:=a p hp
     exact ⟨q1,by omega⟩
    ·obtain rfl:p=((i:Int),(k:Int)):=by simpa using hp
     refine ⟨⟨by simp,by simp; omega,by simp,?_,?_⟩,.inr ⟨rfl,by simp; omega⟩⟩
     ·show (k:Int) < ((t.ports.getD (i:Int).toNat []).length:Int)
      rw [Int.toNat_natCast]
      omega
     ·show at0 (t.ports.getD (i:Int).toNat []) (k:Int).toNat % 8=s
      rw [Int.toNat_natCast,Int.toNat_natCast]
      exact hc.1
   ·obtain rfl:q=((i:Int),(k:Int)):=by simpa using hq
    have:=(a p hp).2
    unfold plLt
    show p.1 < (i:Int)∨p.1=(i:Int)∧p.2 < (k:Int)
    omega
  ·rw [if_neg hc,List.append_nil]
   exact ⟨fun p hp=>⟨(a p hp).1,by have:=(a p hp).2; omega⟩,b⟩
theorem segN_ok (t:Tn) (hr:TnR t) (s:Nat) (hs:s < 6):∀ i,i≤t.ports.length→(∀ p ∈ (segN t i).getD s [],PlT t s p∧p.1 < i)∧((segN t i).getD s []).Pairwise plLt
 | 0,_=>by
  have e:(segN t 0).getD s []=[]:=by
   show (List.replicate 6 ([]:List Pl)).getD s []=[]
   rw [List.getD_eq_getElem?_getD,List.getElem?_replicate,if_pos hs]
   rfl
  rw [e]
  exact ⟨fun p hp=>(by cases hp),List.Pairwise.nil⟩
 | i+1,hi=>by
  obtain ⟨a,b⟩:=segN_ok t hr s hs i (by omega)
  obtain ⟨c,d⟩:=segI_ok t hr i (by omega) (segN t i) (segN_len t i) s hs a b (t.ports.getD i []).length (Nat.le_refl _)
  exact ⟨fun p hp=>⟨(c p hp).1,by have:=(c p hp).2; omega⟩,d⟩
theorem segsT_ok (t:Tn) (hr:TnR t) (s:Nat) (hs:s < 6):(∀ p ∈ (segsT t).getD s [],PlT t s p)∧((segsT t).getD s []).Pairwise plLt:=by
 obtain ⟨a,b⟩:=segN_ok t hr s hs t.ports.length (Nat.le_refl _)
 exact ⟨fun p hp=>(a p hp).1,b⟩
theorem mem_getD {α:Type} {L:List (List α)} {l:List α} (h:l ∈ L):∃ s,s < L.length∧L.getD s []=l:=by
 obtain ⟨s,hs,rfl⟩:=List.getElem_of_mem h
 exact ⟨s,hs,by rw [List.getD_eq_getElem?_getD,List.getElem?_eq_getElem hs]; rfl⟩
theorem segsT_mem {t:Tn} (hr:TnR t) {p:Pl} (h:p ∈ (segsT t).flatten):∃ s,s < 6∧p ∈ (segsT t).getD s []∧PlT t s p:=by
 obtain ⟨l,hl,hp⟩:=List.mem_flatten.1 h
 obtain ⟨s,hs,rfl⟩:=mem_getD hl
 rw [segsT_len] at hs
 exact ⟨s,hs,hp,(segsT_ok t hr s hs).1 p hp⟩
theorem segsT_nodup {t:Tn} (hr:TnR t):(segsT t).flatten.Nodup:=by
 rw [List.nodup_iff_pairwise_ne,List.pairwise_flatten]
 refine ⟨fun l hl=>?_,?_⟩
 ·obtain ⟨s,hs,rfl⟩:=mem_getD hl
  rw [segsT_len] at hs
  exact ((segsT_ok t hr s hs).2).imp (fun {a b} h e=>by subst e; unfold plLt at h; omega)
 ·rw [List.pairwise_iff_getElem]
  intro a b ha hb hab p hp q hq e
  have ha6:a < 6:=by rw [segsT_len] at ha; exact ha
  have hb6:b < 6:=by rw [segsT_len] at hb; exact hb
  have g:∀ s (hs:s < (segsT t).length),(segsT t)[s]=(segsT t).getD s []:=fun s hs=>by rw [List.getD_eq_getElem?_getD,List.getElem?_eq_getElem hs]; rfl
  rw [g a ha] at hp
  rw [g b hb] at hq
  have h1:=((segsT_ok t hr a ha6).1 p hp).2.2.2.2
  have h2:=((segsT_ok t hr b hb6).1 q hq).2.2.2.2
  rw [e] at h1
  omega
theorem ptsT_len (t:Tn) (i:Nat):(ptsT t i).length=(t.ports.getD i []).length:=by simp [ptsT]
theorem nodesT_ports (t:Tn) {i:Nat} (hi:i < t.ports.length):((nodesT t).getD i default).ports=ptsT t i:=by rw [nodesT_at t i hi]; rfl
theorem okT_spec {t:Tn} (h:okT t=true):1≤t.ports.length∧t.ports.length≤5∧∀ i,i < t.ports.length→(t.ports.getD i []).length≤4:=by
 unfold okT at h
 rw [decide_eq_true_eq] at h
 exact ⟨h.1,h.2.1,fun i hi=>h.2.2 _ (by rw [List.getD_eq_getElem?_getD,List.getElem?_eq_getElem hi]; exact List.getElem_mem hi)⟩
theorem idT_mod {t:Tn} (hr:TnR t) {i:Nat} (hi:i < 5):idT t i % 281474976710656=(i+1:Nat):=by
 have:=hr.2 i
 unfold idT
 split <;> omega
theorem idT_rg {t:Tn} (hr:TnR t) {i:Nat} (hi:i < 5):0≤idT t i∧idT t i < 18446744073709551616:=by
 have:=hr.2 i
 unfold idT
 split <;> omega
theorem ptT_rg {t:Tn} (hr:TnR t) {i k:Nat} (hk:k < 4):PtR (ptT t i k)∧1≤(ptT t i k).cost∧(ptT t i k).cost≤4:=by
 have:=hr.1 i k
 unfold PtR ptT
 simp only
 omega
theorem tiny_ok {t:Tn} (hr:TnR t) (hok:okT t=true):NetOk (nodesT t) (segsT t):=by
 obtain ⟨h1,h5,h4⟩:=okT_spec hok
 refine ⟨⟨fun x hx=>?_,?_⟩,by rw [nodesT_len]; exact ⟨h1,h5⟩,by rw [segsT_len]; omega,fun j hj=>?_,?_,fun p hp=>?_,segsT_nodup hr⟩
 ·unfold nodesT at hx
  obtain ⟨i,hi,rfl⟩:=List.mem_map.1 hx
  have hi2:=List.mem_range.1 hi
  have hl:=h4 i hi2
  refine ⟨idT_rg hr (by omega),by show (ptsT t i).length≤32; rw [ptsT_len]; omega,fun p hp=>?_,?_⟩
  ·have hp2:p ∈ ptsT t i:=hp
   unfold ptsT at hp2
   obtain ⟨k,hk,rfl⟩:=List.mem_map.1 hp2
   have hk2:=List.mem_range.1 hk
   obtain ⟨a,b,c⟩:=ptT_rg hr (i:=i) (k:=k) (by omega)
   exact ⟨a,b,by omega⟩
  ·show ((ptsT t i).map (fun p=>p.pid % 4096)).Nodup
   unfold ptsT
   rw [List.map_map,List.nodup_iff_pairwise_ne,List.pairwise_map]
   refine List.Pairwise.imp_of_mem ?_ List.pairwise_lt_range
   intro a b ha hb hab e
   have ha2:=List.mem_range.1 ha
   have hb2:=List.mem_range.1 hb
   simp only [Function.comp,ptT] at e
   omega
 ·unfold nodesT
  rw [List.map_map,List.nodup_iff_pairwise_ne,List.pairwise_map]
  refine List.Pairwise.imp_of_mem ?_ List.pairwise_lt_range
  intro a b ha hb hab e
  have ha2:=List.mem_range.1 ha
  have hb2:=List.mem_range.1 hb
  have e2:idT t a % 281474976710656=idT t b % 281474976710656:=e
  rw [idT_mod hr (by omega),idT_mod hr (by omega)] at e2
  omega
 ·have:=segN_small t j t.ports.length h4
  unfold segsT
  omega
 ·have h:=flat_len (fun l:List Pl=>l) 20 (segsT t) (fun l hl=>by
   obtain ⟨s,hs,rfl⟩:=mem_getD hl
   have:=segN_small t s t.ports.length h4
   unfold segsT
   omega)
  rw [segsT_len] at h
  rw [List.flatMap_id'] at h
  omega
 ·obtain ⟨s,hs,hm,a1,a2,a3,a4,a5⟩:=segsT_mem hr hp
  have hi:p.1.toNat < t.ports.length:=by omega
  refine ⟨a1,by rw [nodesT_len]; exact a2,a3,?_⟩
  rw [nodesT_ports t hi,ptsT_len]
  exact a4
end Go.Proofs.Ytamnmjckhicapaa
namespace Go.Proofs.Ytamnmjckhicapaa
open Go.RowKit Go.BigFrame Go.WideShapes Go.ChangeShapes Go.Deep
set_option linter.unusedVariables false
set_option linter.unusedSimpArgs false
set_option maxRecDepth 100000
def IntsA (w:World) (v:Value) (L:List Int):Prop:=∃ a cap,v=.slice a L.length cap∧(0 < L.length→∃ b off,a=some ⟨b,off,none⟩∧b < w.heap.size∧∀ i (hi:i < L.length),w.cell? ⟨b,off+i,none⟩=some (.int .i64 (L[i]'hi)))
theorem IntsA.ext {w w':World} {v:Value} {L:List Int} (h:IntsA w v L) (hx:Ext w w'):IntsA w' v L:=by
 obtain ⟨a,cap,e,hf⟩:=h
 refine ⟨a,cap,e,fun h0=>?_⟩
 obtain ⟨b,off,e1,hb,hr⟩:=hf h0
 exact ⟨b,off,e1,Nat.lt_of_lt_of_le hb hx.size,fun i hi=>(hx.cell (p:=⟨b,off+i,none⟩) hb).trans (hr i hi)⟩
theorem IntsR.a {w:World} {b:Nat} {v:Value} {l:List Int} (h:IntsR w b v l):IntsA w v l:=by
 rcases h with ⟨rfl,rfl⟩ | ⟨g,cap,rfl,h2,h3,h4⟩
 ·exact ⟨none,0,rfl,fun h=>by simp at h⟩
 ·refine ⟨_,cap,rfl,fun _=>⟨g,0,rfl,h2.lt,fun i hi=>?_⟩⟩
  rw [Nat.zero_add,h2.cell hi]
  simp [at0,List.getD_eq_getElem?_getD,hi]
set_option maxRecDepth 100000 in
set_option maxHeartbeats 8000000 in
theorem ints_any (w:World) (v u:Value) (L:List Int) (hv:IntsA w v L) (hu:IntsA w u L) (hl:L.length≤10000):Calls Try.prog 15 #[v,u] w fun e w'=>e=.returned (.bool true)∧Ext w w':=by
 obtain ⟨a,cap,rfl,ha⟩:=hv
 obtain ⟨b,cap2,rfl,hb⟩:=hu
 obtain ⟨n,hn⟩:∃ n,L.length=n:=⟨_,rfl⟩
 rw [hn]
 have HN:=Lib.hid hn
 have HA:=Lib.hid ha
 have HB:=Lib.hid hb
 rw [hn] at hl
 clear ha hb hn
 go_enter Try.func15,Try.ntmps15
 go_wp2_with fail
 go_loopw [5] (fun s wr=>∃ i:Nat,i≤n∧s=.int .i64 i∧Ext w wr) (fun s _=>n - (intOf s).toNat)
 case atStart=>exact ⟨0,by omega,rfl,Ext.refl _⟩
 case round =>
  obtain ⟨i,hi,rfl,hx⟩:=hrel
  rename World=>wr
  have HX:=Lib.hid hx
  clear hx
  by_cases hlt:i < n
  ·have dlt:decide ((i:Int) < (n:Int))=true:=by simp; omega
   have hiL:i < L.length:=by rw [HN.out]; exact hlt
   obtain ⟨b1,o1,rfl,hb1,hr1⟩:=HA.out (by omega)
   obtain ⟨b2,o2,rfl,hb2,hr2⟩:=HB.out (by omega)
   obtain ⟨y,he⟩:∃ y,L[i]=y:=⟨_,rfl⟩
   have c0:wr.cell? ⟨b1,o1+i,none⟩=some (.int .i64 y):=by rw [← he]; exact (HX.out.cell (p:=⟨b1,o1+i,none⟩) hb1).trans (hr1 i hiL)
   have d0:wr.cell? ⟨b2,o2+i,none⟩=some (.int .i64 y):=by rw [← he]; exact (HX.out.cell (p:=⟨b2,o2+i,none⟩) hb2).trans (hr2 i hiL)
   have hup:IntKind.i64.wrap ((i:Int)+1)=((i+1:Nat):Int):=by rw [IntKind.wrap_i64]; omega
   clear hr1 hr2 he
   go_wp2_with fail
   go_quiet (fail)
   go_wp2_with fail
   go_roundw
   case rel=>exact ⟨i+1,by omega,by go_num,HX.out.drewN _⟩
   case measure=>simp [intOf] <;> omega
  ·obtain rfl:i=n:=by omega
   have dlt:decide ((i:Int) < (i:Int))=false:=by simp
   go_wp2_with fail
   go_ret
   exact ⟨rfl,HX.out⟩
theorem SegsAt.one {w:World} {v:Value} {S:List (List Pl)} (h:SegsAt w v S):v.oneCell'=true:=by
 obtain ⟨_,⟨_,_,e,_⟩,_⟩:=h
 rw [e]
 rfl
structure NetA (w:World) (nv sv:Value) (N:List Nd) (S:List (List Pl)):Prop where
 nodes:NodesAt w nv N
 segs:SegsAt w sv S
 ok:NetOk N S
 seg1:1≤S.length
theorem NetA.ext {w w':World} {nv sv:Value} {N:List Nd} {S:List (List Pl)} (h:NetA w nv sv N S) (hx:Ext w w'):NetA w' nv sv N S:=⟨h.nodes.ext hx,h.segs.ext hx,h.ok,h.seg1⟩
theorem NodesAt.form {w:World} {nv:Value} {N:List Nd} (h:NodesAt w nv N) (h1:1≤N.length):∃ nb no ncap,nv=.slice (some ⟨nb,no,none⟩) N.length ncap:=by
 obtain ⟨pv,⟨na,ncap,rfl,hnm,hnf⟩,hpt⟩:=h
 obtain ⟨nb,no,rfl,_⟩:=hnf (by omega)
 exact ⟨nb,no,ncap,rfl⟩
theorem NetOk.p1000 {N:List Nd} {S:List (List Pl)} (h:NetOk N S):∀ x ∈ N,x.ports.length≤60:=fun x hx=>by have:=(h.nodes.1 x hx).2.1; omega
theorem NetOk.sok {N:List Nd} {S:List (List Pl)} (h:NetOk N S):∀ seg ∈ S,∀ p ∈ seg,PlOk N p:=fun seg hs p hp=>h.ok p (List.mem_flatten.2 ⟨seg,hs,hp⟩)
theorem NetOk.s60 {N:List Nd} {S:List (List Pl)} (h:NetOk N S):∀ seg ∈ S,seg.length≤60:=fun seg hm=>by
 obtain ⟨s,hs,rfl⟩:=mem_getD hm
 exact h.seg60 s hs
theorem NetOk.cost {N:List Nd} {S:List (List Pl)} (h:NetOk N S):CostOk N:=fun x hx q hq=>by
 obtain ⟨a,b,c⟩:=(h.nodes.1 x hx).2.2.1 q hq
 omega
theorem right_a (h:Int) (r:Bool) (hr:h=6∧r=true∨h=0∧r=false) (nv sv:Value) (N:List Nd) (S:List (List Pl)) (w:World) (hN:NetA w nv sv N S):Calls Try.prog 17 #[.agg #[.int .i64 0,.int .i64 20,.int .i64 2,.int .i64 15,.int .i64 h,.int .i64 20,.int .i64 300,nv,sv]] w fun e w'=>e=.returned (.bool r)∧Ext w w':=by
 obtain ⟨nb,no,ncap,rfl⟩:=hN.nodes.form hN.ok.one.1
 rcases hr with ⟨rfl,rfl⟩ | ⟨rfl,rfl⟩
 ·exact right6_any nb no N.length ncap sv N S w hN.nodes rfl hN.segs hN.ok (fun x hx=>Nat.le_trans (hN.ok.p1000 x hx) (by omega)) hN.segs.one
 ·exact right0_any nb no N.length ncap sv N S w hN.nodes rfl hN.segs hN.ok (fun x hx=>Nat.le_trans (hN.ok.p1000 x hx) (by omega)) hN.segs.one
theorem plan_any (nv sv uv:Value) (N:List Nd) (S:List (List Pl)) (U:List Bool) (w:World) (hN:NetA w nv sv N S) (hU:BoolsAt w uv U) :
    Calls Try.prog 12 #[.agg #[.int .i64 0,.int .i64 20,.int .i64 2,.int .i64 15,.int .i64 6,.int .i64 20,.int .i64 300,nv,sv],uv] w fun e w'=>∃ v,e=.returned v∧PlanAt w' v (planF N (raisedL U S))∧Ext w w':=by
 obtain ⟨nb,no,ncap,rfl⟩:=hN.nodes.form hN.ok.one.1
 exact of_any 0 20 2 15 6 20 300 nb no N.length ncap sv uv N S U 200000000 w (fun w' hx=>right_a 6 true (.inl ⟨rfl,rfl⟩) _ sv N S w' (hN.ext hx)) hN.nodes hN.ok.one hN.segs ⟨hN.seg1,hN.ok.segs⟩ hN.ok.s60 hU hN.ok.sok hN.ok.cost (fun x hx q hq=>((hN.ok.nodes.1 x hx).2.2.1 q hq).2.2) (by have:=hN.ok.one.2; omega) hN.ok.p1000
end Go.Proofs.Ytamnmjckhicapaa
namespace Go.Proofs.Ytamnmjckhicapaa
open Go.RowKit Go.BigFrame Go.WideShapes Go.ChangeShapes Go.Deep
set_option linter.unusedVariables false
set_option linter.unusedSimpArgs false
set_option maxRecDepth 100000
def tA:Tn:=⟨0,[],[[0,1],[0,2],[1,2]],0⟩
def sA:List (List Pl):=[[(0,0),(1,0)],[(0,1),(2,0)],[(1,1),(2,1)],[],[],[]]
theorem sA_eq:raisedL [true,true,true] (segsT tA)=sA:=by decide +kernel
theorem br01:brF [(0,0),(1,0)]=[0,1]:=by unfold brF; rw [List.mergeSort_of_pairwise (by decide)]; decide +kernel
theorem br02:brF [(0,1),(2,0)]=[0,2]:=by unfold brF; rw [List.mergeSort_of_pairwise (by decide)]; decide +kernel
theorem br12:brF [(1,1),(2,1)]=[1,2]:=by unfold brF; rw [List.mergeSort_of_pairwise (by decide)]; decide +kernel
theorem br0:brF []=[]:=by unfold brF; rw [List.mergeSort_of_pairwise (by decide)]; decide +kernel
def hA:List Hp:=[⟨0,1,1⟩,⟨1,0,1⟩,⟨0,2,1⟩,⟨2,0,1⟩,⟨1,2,1⟩,⟨2,1,1⟩]
theorem hopsA:hopsF (nodesT tA) sA=hA:=by
 unfold hopsF sA
 simp only [List.flatMap_cons,List.flatMap_nil,br0,br01,br02,br12]
 kernel_rfl
theorem rootsA:rootsOf (nodesT tA) sA=[0,0,0]:=by
 unfold rootsOf
 rw [hopsA]
 decide +kernel
theorem waysA:waysOf (nodesT tA) sA=[some (0,0),some (1,1),some (1,1)]:=by
 have h:=rootsA
 unfold rootsOf at h
 unfold waysOf
 rw [h,hopsA]
 decide +kernel
theorem planA:planF (nodesT tA) sA=⟨[1,1,1],[0,1,1],[(0,0),(0,1),(1,1),(-1,-1),(-1,-1),(-1,-1)],[[4,4],[3,4],[3,1]]⟩:=by
 unfold planF byOf
 rw [rootsA,waysA]
 decide +kernel
theorem wpList_bs {P:Program} {ops:Array Oper} {rest:List Oper} {o:Oper} {a:Act} {w:World} {Q:Exit→Act→World→Prop} (hg:o.guard=none) (t e:TypeId) (len:Nat) (parts:Array (Nat × Operand)) (ho:o.op=.buildSlice t len parts)
    (cells:Array Value) (ie:TypeInfo) (z:Value)
    (hu:P.underlying t=some (.slice e)) (hie:P.info? e=some ie) (hz:ie.zero=some z) (hsmall:¬ len*ie.size > 2 ^ 24) (hpos:¬ len*ie.size=0)
    (hf:Instr.fill (fun i=>some (i*ie.size,ie.size)) ((Array.range (len*ie.size)).map (z.cells[· % z.cells.size]!)) (parts.map fun (i,x)=>(i,a.eval x)).toList=some cells)
    (h:∀ b w',w'.heap[b]?=some (.cells cells e (0,0))→w.heap.size=b→Ext w w'→wpList P ops Q rest (a.put o.dst (.slice (some ⟨b,0,none⟩) len len)) w'):wpList P ops Q (o :: rest) a w :=
 wpList_buildSlice hg t e len parts ho cells ie z hu hie hz hsmall hpos hf (h _ _ (heap_alloc_new _ _) rfl ((Ext.refl _).alloc _))
theorem info_u8:(Try.prog.info? 5).map (fun i=>(i.zero,i.size,i.bytes))=some (some (.int .u8 0),1,1):=by kernel_rfl
theorem info_us:(Try.prog.info? 22).map (fun i=>(i.zero,i.size,i.bytes))=some (some (.slice none 0 0),1,24):=by kernel_rfl
theorem b2_u8 (x y:Int):Instr.fill (fun i=>some (i*1,1)) ((Array.range (2*1)).map ((Value.int .u8 0).cells[· % (Value.int .u8 0).cells.size]!)) [(0,.int .u8 x),(1,.int .u8 y)]=some #[.int .u8 x,.int .u8 y]:=by kernel_rfl
theorem b2_i64 (x y:Int):Instr.fill (fun i=>some (i*1,1)) ((Array.range (2*1)).map ((Value.int .i64 0).cells[· % (Value.int .i64 0).cells.size]!)) [(0,.int .i64 x),(1,.int .i64 y)]=some #[.int .i64 x,.int .i64 y]:=by kernel_rfl
theorem b3_us (a b c:Nat):Instr.fill (fun i=>some (i*1,1)) ((Array.range (3*1)).map ((Value.slice none 0 0).cells[· % (Value.slice none 0 0).cells.size]!)) [(0,.slice (some ⟨a,0,none⟩) 2 2),(1,.slice (some ⟨b,0,none⟩) 2 2),(2,.slice (some ⟨c,0,none⟩) 2 2)]=some #[.slice (some ⟨a,0,none⟩) 2 2,.slice (some ⟨b,0,none⟩) 2 2,.slice (some ⟨c,0,none⟩) 2 2]:=by kernel_rfl
theorem b3_bo:Instr.fill (fun i=>some (i*1,1)) ((Array.range (3*1)).map ((Value.bool false).cells[· % (Value.bool false).cells.size]!)) [(0,.bool true),(1,.bool true),(2,.bool true)]=some #[.bool true,.bool true,.bool true]:=by kernel_rfl
theorem bl_ti (v:Option Addr):Try.prog.built 25 [(2,.slice v 3 3)]=some #[.int .u8 0,.slice none 0 0,.slice v 3 3,.int .u8 0]:=by kernel_rfl
theorem byt2 {w:World} {b:Nat} {x y:Int} (h:w.heap[b]?=some (.cells #[.int .u8 x,.int .u8 y] 5 (0,0))) (hx:0≤x∧x < 256) (hy:0≤y∧y < 256):BytA w (.slice (some ⟨b,0,none⟩) 2 2) [x,y]:=by
 refine ⟨_,2,rfl,fun _=>⟨b,0,rfl,heap_lt h,fun i hi=>?_⟩⟩
 have hc:i=0∨i=1:=by simp at hi; omega
 rcases hc with rfl | rfl
 ·exact ⟨by rw [cell_row h]; rfl,hx⟩
 ·exact ⟨by rw [cell_row h]; rfl,hy⟩
theorem ints2 {w:World} {b:Nat} {x y:Int} (h:w.heap[b]?=some (.cells #[.int .i64 x,.int .i64 y] 3 (0,0))):IntsA w (.slice (some ⟨b,0,none⟩) 2 2) [x,y]:=by
 refine ⟨_,2,rfl,fun _=>⟨b,0,rfl,heap_lt h,fun i hi=>?_⟩⟩
 have hc:i=0∨i=1:=by simp at hi; omega
 rcases hc with rfl | rfl
 ·rw [cell_row h]; rfl
 ·rw [cell_row h]; rfl
theorem tA_at {w:World} {a b c d:Nat} (ha:w.heap[a]?=some (.cells #[.int .u8 0,.int .u8 1] 5 (0,0))) (hb:w.heap[b]?=some (.cells #[.int .u8 0,.int .u8 2] 5 (0,0))) (hc:w.heap[c]?=some (.cells #[.int .u8 1,.int .u8 2] 5 (0,0)))
    (hd:w.heap[d]?=some (.cells #[.slice (some ⟨a,0,none⟩) 2 2,.slice (some ⟨b,0,none⟩) 2 2,.slice (some ⟨c,0,none⟩) 2 2] 22 (0,0))):TinyA w (.agg #[.int .u8 0,.slice none 0 0,.slice (some ⟨d,0,none⟩) 3 3,.int .u8 0]) tA:=by
 refine ⟨_,_,rfl,⟨none,0,rfl,fun h=>by simp [tA] at h⟩,⟨fun i=>if i=0 then .slice (some ⟨a,0,none⟩) 2 2 else if i=1 then .slice (some ⟨b,0,none⟩) 2 2 else .slice (some ⟨c,0,none⟩) 2 2,⟨some ⟨d,0,none⟩,3,rfl,fun _=>⟨d,0,rfl,heap_lt hd,fun i hi=>?_⟩⟩,fun i hi=>?_⟩,by simp [tA],by simp [tA]⟩
 ·have hi3:i=0∨i=1∨i=2:=by simp [tA] at hi; omega
  rcases hi3 with rfl | rfl | rfl <;> rw [cell_row hd] <;> rfl
 ·have hi3:i=0∨i=1∨i=2:=by simp [tA] at hi; omega
  rcases hi3 with rfl | rfl | rfl
  ·exact byt2 ha (by omega) (by omega)
  ·exact byt2 hb (by omega) (by omega)
  ·exact byt2 hc (by omega) (by omega)
theorem tA_ok:okT tA=true:=by decide
theorem tA_r:TnR tA:=by
 have h3:∀ i k,at0 (tA.ports.getD i []) k=0∨at0 (tA.ports.getD i []) k=1∨at0 (tA.ports.getD i []) k=2:=fun i k=>by
  have hc:i=0∨i=1∨i=2∨3≤i:=by omega
  have hk:k=0∨k=1∨2≤k:=by omega
  have e:∀ l:List Int,l.length≤k→at0 l k=0:=fun l hl=>by simp [at0,List.getD_eq_getElem?_getD,List.getElem?_eq_none hl]
  have e3:3≤i→tA.ports.getD i []=[]:=fun h=>by rw [List.getD_eq_getElem?_getD,List.getElem?_eq_none (by simpa [tA] using h)]; rfl
  rcases hc with rfl | rfl | rfl | hc
  ·rcases hk with rfl | rfl | hk
   ·decide
   ·decide
   ·exact .inl (e _ (by simpa [tA] using hk))
  ·rcases hk with rfl | rfl | hk
   ·decide
   ·decide
   ·exact .inl (e _ (by simpa [tA] using hk))
  ·rcases hk with rfl | rfl | hk
   ·decide
   ·decide
   ·exact .inl (e _ (by simpa [tA] using hk))
  ·rw [e3 hc]
   exact .inl (e _ (by simp))
 exact ⟨fun i k=>by rcases h3 i k with h | h | h <;> omega,fun i=>by simp [tA,at0]⟩
theorem planA_at {w:World} {v:Value} (h:PlanAt w v ⟨[1,1,1],[0,1,1],[(0,0),(0,1),(1,1),(-1,-1),(-1,-1),(-1,-1)],[[4,4],[3,4],[3,1]]⟩) :
    ∃ (aa ab:Option Addr) (acap bcap ccap dcap cb co db dof:Nat) (r0 r1 r2:Value),v=.agg #[.slice aa 3 acap,.slice ab 3 bcap,.slice (some ⟨cb,co,none⟩) 6 ccap,.slice (some ⟨db,dof,none⟩) 3 dcap]∧cb < w.heap.size∧db < w.heap.size∧w.cell? ⟨cb,co+4,none⟩=some (.int .i64 1)∧w.cell? ⟨cb,co+5,none⟩=some (.int .i64 1) ∧
     w.cell? ⟨db,dof,none⟩=some r0∧w.cell? ⟨db,dof+1,none⟩=some r1∧w.cell? ⟨db,dof+2,none⟩=some r2∧IntsA w r0 [4,4]∧IntsA w r1 [3,4]∧IntsA w r2 [3,1]:=by
 obtain ⟨pa,pb,pc,pd,rfl,⟨aa,acap,rfl,-,-⟩,⟨ab,bcap,rfl,-,-⟩,⟨ca,ccap,rfl,-,hcf⟩,⟨rv,⟨da,dcap,rfl,-,hdf⟩,hrv⟩⟩:=h
 obtain ⟨cb,co,rfl,hcb,-,-,hc4⟩:=hcf (by decide)
 obtain ⟨db,dof,rfl,hdb,-,-,hd4⟩:=hdf (by decide)
 have h2:=hc4 2 (by decide)
 have d0:=hd4 0 (by decide) 0 _ rfl
 have d1:=hd4 1 (by decide) 0 _ rfl
 have d2:=hd4 2 (by decide) 0 _ rfl
 exact ⟨aa,ab,acap,bcap,ccap,dcap,cb,co,db,dof,rv 0,rv 1,rv 2,rfl,hcb,hdb,h2 0 _ rfl,h2 1 _ rfl,d0,d1,d2,(hrv 0 (by decide)).a,(hrv 1 (by decide)).a,(hrv 2 (by decide)).a⟩
theorem netT {w:World} {nv sv:Value} {t:Tn} (h1:NodesAt w nv (nodesT t)) (h2:SegsAt w sv (segsT t)) (hr:TnR t) (hok:okT t=true):NetA w nv sv (nodesT t) (segsT t):=⟨h1,h2,tiny_ok hr hok,by rw [segsT_len]; omega⟩
theorem mynet_any (nv sv:Value) (t:Tn) (w:World) (h1:NodesAt w nv (nodesT t)) (h2:SegsAt w sv (segsT t)) (hr:TnR t) (hok:okT t=true) :
    Calls Try.prog 13 #[.agg #[.int .i64 0,.int .i64 20,.int .i64 2,.int .i64 15,.int .i64 6,.int .i64 20,.int .i64 300,nv,sv]] w fun e w'=>∃ nv' sv',e=.returned (.agg #[.int .i64 0,.int .i64 20,.int .i64 2,.int .i64 15,.int .i64 6,.int .i64 20,.int .i64 300,nv',sv'])∧NetA w' nv' sv' (nodesT t) (segsT t)∧nv'.oneCell'=true∧sv'.oneCell'=true∧Ext w w':=by
 obtain ⟨o1,o5,o4⟩:=okT_spec hok
 have ok:=tiny_ok hr hok
 refine (net_any nv sv (nodesT t) (segsT t) w h1 h2 (by rw [nodesT_len]; exact o5) (fun j hj=>?_) (by rw [segsT_len]; omega) ok.seg60).mono ?_
 ·rw [nodesT_len] at hj
  rw [nodesT_ports t hj,ptsT_len]
  have:=o4 j hj
  omega
 ·rintro e w' ⟨nv',sv',rfl,g1,g2,h3,h4,hx⟩
  exact ⟨nv',sv',rfl,netT h3 h4 hr hok,g1,g2,hx⟩
set_option maxRecDepth 100000 in
set_option maxHeartbeats 8000000 in
theorem awake_any (w:World):Calls Try.prog 9 #[] w fun e w'=>e=.returned (.bool true)∧Ext w w':=by
 obtain ⟨i8,hi8,hz8,hs8,hb8⟩:=info_parts info_u8
 have I8:=Lib.hid (And.intro hi8 (And.intro hz8 (And.intro hs8 hb8)))
 obtain ⟨iu,hiu,hzu,hsu,hbu⟩:=info_parts info_us
 have IU:=Lib.hid (And.intro hiu (And.intro hzu (And.intro hsu hbu)))
 obtain ⟨ib,hib,hzb,hsb,hbb⟩:=info_parts info_bool
 have IB:=Lib.hid (And.intro hib (And.intro hzb (And.intro hsb hbb)))
 obtain ⟨ii,hii,hzi,hsi,hbi⟩:=info_parts info_int
 have II:=Lib.hid (And.intro hii (And.intro hzi (And.intro hsi hbi)))
 clear hi8 hz8 hs8 hb8 hiu hzu hsu hbu hib hzb hsb hbb hii hzi hsi hbi
 go_enter Try.func9,Try.ntmps9
 go_wp2_with (first
  | fail
  | ((with_reducible refine at_slice 22 ?_); refine wpList_bs rfl 22 5 2 _ rfl #[.int .u8 0,.int .u8 1] i8 (.int .u8 0) Try.underlying22 I8.out.1 I8.out.2.1 (by rw [I8.out.2.2.1]; decide) (by rw [I8.out.2.2.1]; decide) (by rw [I8.out.2.2.1,Array.toList_map]; exact b2_u8 0 1) ?_
     intro ba wa hqa hsa hxa)
  | ((with_reducible refine at_slice 22 ?_); refine wpList_bs rfl 22 5 2 _ rfl #[.int .u8 0,.int .u8 2] i8 (.int .u8 0) Try.underlying22 I8.out.1 I8.out.2.1 (by rw [I8.out.2.2.1]; decide) (by rw [I8.out.2.2.1]; decide) (by rw [I8.out.2.2.1,Array.toList_map]; exact b2_u8 0 2) ?_
     intro bb wb hqb hsb hxb)
  | ((with_reducible refine at_slice 22 ?_); refine wpList_bs rfl 22 5 2 _ rfl #[.int .u8 1,.int .u8 2] i8 (.int .u8 0) Try.underlying22 I8.out.1 I8.out.2.1 (by rw [I8.out.2.2.1]; decide) (by rw [I8.out.2.2.1]; decide) (by rw [I8.out.2.2.1,Array.toList_map]; exact b2_u8 1 2) ?_
     intro bc wc hqc hsc hxc)
  | ((with_reducible refine at_slice 23 ?_); refine wpList_bs rfl 23 22 3 _ rfl #[.slice (some ⟨ba,0,none⟩) 2 2,.slice (some ⟨bb,0,none⟩) 2 2,.slice (some ⟨bc,0,none⟩) 2 2] iu (.slice none 0 0) Try.underlying23 IU.out.1 IU.out.2.1 (by rw [IU.out.2.2.1]; decide) (by rw [IU.out.2.2.1]; decide) (by rw [IU.out.2.2.1,Array.toList_map]; exact b3_us ba bb bc) ?_
     intro bd wd hqd hsd hxd
     have hab:=(hxb.block ba (heap_lt hqa)).trans hqa
     have hac:=(hxc.block ba (heap_lt hab)).trans hab
     have hbc:=(hxc.block bb (heap_lt hqb)).trans hqb
     have HTA:=Lib.hid (tA_at ((hxd.block ba (heap_lt hac)).trans hac) ((hxd.block bb (heap_lt hbc)).trans hbc) ((hxd.block bc (heap_lt hqc)).trans hqc) hqd)
     have HXD:=Lib.hid (((hxa.trans hxb).trans hxc).trans hxd)
     clear hab hac hbc hqa hsa hxa hqb hsb hxb hqc hsc hxc hqd hsd hxd)
  | ((with_reducible refine at_build 25 ?_); refine wpList_build2 rfl 25 _ rfl [(2,.slice (some ⟨bd,0,none⟩) 3 3)] rfl _ (bl_ti _) ?_))
 refine (tiny_any _ tA wd HTA.out).mono ?_
 rintro e w2 ⟨nv,sv,rfl,h1,h2,h3,hx2⟩
 have h3:=h3 tA_ok
 have HNA:=Lib.hid h3.1
 have HSA:=Lib.hid h3.2
 have HE2:=Lib.hid (HXD.out.trans hx2)
 rw [tA_ok]
 have HON:=Lib.hid (show (#[.int .i64 0,.int .i64 20,.int .i64 2,.int .i64 15,.int .i64 6,.int .i64 20,.int .i64 300,nv,sv]:Array Value).toList.all (·.oneCell')=true from by
  show (true && (true && (true && (true && (true && (true && (true && (nv.oneCell' && (sv.oneCell' && true)))))))))=true
  rw [h1,h2]
  rfl)
 clear h1 h2 h3 hx2
 go_wp2_with (first
  | fail
  | ((with_reducible refine at_alloc 32 ?_); refine al_zero rfl 32 rfl NZ zero_rn ?_
     intro V w3 hq3 hsz3 hx3)
  | ((with_reducible refine at_store 32 ?_); refine st_at rfl rfl 32 _ _ rfl V 0 _ #[.int .i64 0,.int .i64 20,.int .i64 2,.int .i64 15,.int .i64 6,.int .i64 20,.int .i64 300,nv,sv] NZ #[.int .i64 0,.int .i64 20,.int .i64 2,.int .i64 15,.int .i64 6,.int .i64 20,.int .i64 300,nv,sv] 32 rfl rfl rfl hq3 (by exact (by decide:0+9≤9)) (by kernel_rfl) HON.out rfl ?_
     intro w4 hq4 hm4
     have E4:Ext w2 w4:=hx3.mutE hm4 (fun g hg h=>by have h2:g=V:=h; omega)
     have HV:=Lib.hid (show BoxAt w4 V #[.int .i64 0,.int .i64 20,.int .i64 2,.int .i64 15,.int .i64 6,.int .i64 20,.int .i64 300,nv,sv] 32 from hq4)
     have HE4:=Lib.hid (HE2.out.trans E4)
     have HN4:=Lib.hid (HNA.out.ext E4)
     have HS4:=Lib.hid (HSA.out.ext E4)
     clear hq3 hsz3 hx3 hq4 hm4 E4 w3)
  | ((with_reducible refine at_load 32 ?_); refine wpList_load_row rfl 32 _ rfl V rfl 32 #[.int .i64 0,.int .i64 20,.int .i64 2,.int .i64 15,.int .i64 6,.int .i64 20,.int .i64 300,nv,sv] (0,0) _ HV.out Try.underlying32 rfl size_rn ?_))
 refine (mynet_any nv sv tA w4 HN4.out HS4.out tA_r tA_ok).mono ?_
 rintro e w5 ⟨nv5,sv5,rfl,hnet,-,-,hx5⟩
 have HNET:=Lib.hid hnet
 have HE5:=Lib.hid (HE4.out.trans hx5)
 clear hnet hx5
 go_wp2_with (first
  | fail
  | ((with_reducible refine at_slice 35 ?_); refine wpList_bs rfl 35 4 3 _ rfl #[.bool true,.bool true,.bool true] ib (.bool false) Try.underlying35 IB.out.1 IB.out.2.1 (by rw [IB.out.2.2.1]; decide) (by rw [IB.out.2.2.1]; decide) (by rw [IB.out.2.2.1,Array.toList_map]; exact b3_bo) ?_
     intro bu w6 hq6 hs6 hx6
     have HU:=Lib.hid (show BoolsAt w6 (.slice (some ⟨bu,0,none⟩) 3 3) [true,true,true] from ⟨_,3,rfl,by decide,fun _=>⟨bu,0,rfl,heap_lt hq6,by decide,by decide,fun i hi j v hv=>by
      have hj:j=0:=by
       have:=(List.getElem?_eq_some_iff.1 hv).1
       simp at this
       exact this
      subst hj
      simp only [List.getElem?_cons_zero,Option.some.injEq] at hv
      subst hv
      rw [cell_row hq6]
      have hi3:i=0∨i=1∨i=2:=by simp at hi; omega
      rcases hi3 with rfl | rfl | rfl <;> rfl⟩⟩)
     have HNE6:=Lib.hid (HNET.out.ext hx6)
     have HE6:=Lib.hid (HE5.out.trans hx6)
     clear hq6 hs6 hx6))
 refine (plan_any nv5 sv5 (.slice (some ⟨bu,0,none⟩) 3 3) _ _ _ w6 HNE6.out HU.out).mono ?_
 rintro e w7 ⟨v7,rfl,hp7,hx7⟩
 rw [sA_eq,planA] at hp7
 have HE7:=Lib.hid (HE6.out.trans hx7)
 obtain ⟨aa,ab,acap,bcap,ccap,dcap,cb,co,db,dof,r0,r1,r2,rfl,hcb,hdb,hc4,hc5,hd0,hd1,hd2,hi0,hi1,hi2⟩:=planA_at hp7
 have HI0:=Lib.hid hi0
 have HI1:=Lib.hid hi1
 have HI2:=Lib.hid hi2
 have HCD:=Lib.hid (show ∀ W',Ext w7 W'→W'.cell? ⟨cb,co+4,none⟩=some (.int .i64 1)∧W'.cell? ⟨cb,co+5,none⟩=some (.int .i64 1)∧W'.cell? ⟨db,dof,none⟩=some r0∧W'.cell? ⟨db,dof+1,none⟩=some r1∧W'.cell? ⟨db,dof+2,none⟩=some r2 from fun W' h=>⟨(h.cell hcb).trans hc4,(h.cell hcb).trans hc5,(h.cell hdb).trans hd0,(h.cell hdb).trans hd1,(h.cell hdb).trans hd2⟩)
 clear hp7 hx7 hcb hdb hc4 hc5 hd0 hd1 hd2 hi0 hi1 hi2
 go_wp2_with (first
  | fail
  | ((with_reducible refine at_alloc 42 ?_); refine al_zero rfl 42 rfl PNZ zero_pn ?_
     intro PX w8 hq8 hsz8 hx8)
  | ((with_reducible refine at_store 42 ?_); refine st_at rfl rfl 42 _ _ rfl PX 0 _ #[.slice aa 3 acap,.slice ab 3 bcap,.slice (some ⟨cb,co,none⟩) 6 ccap,.slice (some ⟨db,dof,none⟩) 3 dcap] PNZ #[.slice aa 3 acap,.slice ab 3 bcap,.slice (some ⟨cb,co,none⟩) 6 ccap,.slice (some ⟨db,dof,none⟩) 3 dcap] 42 rfl rfl rfl hq8 (by exact (by decide:0+4≤4)) (by kernel_rfl) rfl rfl ?_
     intro w9 hq9 hm9
     have E9:Ext w7 w9:=hx8.mutE hm9 (fun g hg h=>by have h2:g=PX:=h; omega)
     have HPX:=Lib.hid (show BoxAt w9 PX #[.slice aa 3 acap,.slice ab 3 bcap,.slice (some ⟨cb,co,none⟩) 6 ccap,.slice (some ⟨db,dof,none⟩) 3 dcap] 42 from hq9)
     have HX9:=Lib.hid E9
     have p2:w9.cell? ⟨PX,2,none⟩=some (.slice (some ⟨cb,co,none⟩) 6 ccap):=by rw [cell_row hq9]; rfl
     have p3:w9.cell? ⟨PX,3,none⟩=some (.slice (some ⟨db,dof,none⟩) 3 dcap):=by rw [cell_row hq9]; rfl
     obtain ⟨f4,f5,f0,f1,f2⟩:=HCD.out w9 E9
     clear hq8 hsz8 hx8 hq9 hm9 E9 w8)
  | ((with_reducible refine at_slice 56 ?_); refine wpList_bs rfl 56 3 2 _ rfl #[.int .i64 4,.int .i64 4] ii (.int .i64 0) Try.underlying56 II.out.1 II.out.2.1 (by rw [II.out.2.2.1]; decide) (by rw [II.out.2.2.1]; decide) (by rw [II.out.2.2.1,Array.toList_map]; exact b2_i64 4 4) ?_
     intro b0 w10 hq10 hs10 hx10
     have HB0:=Lib.hid (ints2 hq10)
     have HX10:=Lib.hid (HX9.out.trans hx10)
     have HP10:=Lib.hid (HPX.out.ext hx10)
     clear hq10 hs10 hx10))
 refine (ints_any w10 r0 (.slice (some ⟨b0,0,none⟩) 2 2) [4,4] (HI0.out.ext HX10.out) HB0.out (by decide)).mono ?_
 rintro e w11 ⟨rfl,hx11⟩
 have HX11:=Lib.hid (HX10.out.trans hx11)
 have HP11:=Lib.hid (HP10.out.ext hx11)
 clear hx11 p2 p3 f4 f5 f0 f1 f2
 have p3:w11.cell? ⟨PX,3,none⟩=some (.slice (some ⟨db,dof,none⟩) 3 dcap):=HP11.out.cell 3 rfl
 obtain ⟨f4,f5,f0,f1,f2⟩:=HCD.out w11 HX11.out
 go_wp2_with fail
 have hn12:=heap_alloc_new w11 (.cells #[.int .i64 3,.int .i64 4] 3)
 have hx12:Ext w11 (w11.alloc (.cells #[.int .i64 3,.int .i64 4] 3)):=(Ext.refl _).alloc _
 obtain ⟨w12,hw12⟩:∃ W,w11.alloc (.cells #[.int .i64 3,.int .i64 4] 3)=W:=⟨_,rfl⟩
 obtain ⟨b1,hb1⟩:∃ b,w11.heap.size=b:=⟨_,rfl⟩
 rw [hw12] at hn12 hx12 ⊢
 rw [hb1] at hn12 ⊢
 refine (ints_any w12 r1 (.slice (some ⟨b1,0,none⟩) 2 2) [3,4] (HI1.out.ext (HX11.out.trans hx12)) (ints2 hn12) (by decide)).mono ?_
 rintro e w13 ⟨rfl,hx13⟩
 have HX13:=Lib.hid (HX11.out.trans (hx12.trans hx13))
 have HP13:=Lib.hid (HP11.out.ext (hx12.trans hx13))
 clear hx13 hx12 hn12 hw12 hb1 p3 f4 f5 f0 f1 f2
 have p3:w13.cell? ⟨PX,3,none⟩=some (.slice (some ⟨db,dof,none⟩) 3 dcap):=HP13.out.cell 3 rfl
 obtain ⟨f4,f5,f0,f1,f2⟩:=HCD.out w13 HX13.out
 go_wp2_with fail
 have hn14:=heap_alloc_new w13 (.cells #[.int .i64 3,.int .i64 1] 3)
 have hx14:Ext w13 (w13.alloc (.cells #[.int .i64 3,.int .i64 1] 3)):=(Ext.refl _).alloc _
 obtain ⟨w14,hw14⟩:∃ W,w13.alloc (.cells #[.int .i64 3,.int .i64 1] 3)=W:=⟨_,rfl⟩
 obtain ⟨b2,hb2⟩:∃ b,w13.heap.size=b:=⟨_,rfl⟩
 rw [hw14] at hn14 hx14 ⊢
 rw [hb2] at hn14 ⊢
 refine (ints_any w14 r2 (.slice (some ⟨b2,0,none⟩) 2 2) [3,1] (HI2.out.ext (HX13.out.trans hx14)) (ints2 hn14) (by decide)).mono ?_
 rintro e w15 ⟨rfl,hx15⟩
 have HX15:=Lib.hid (HX13.out.trans (hx14.trans hx15))
 have HP15:=Lib.hid (HP13.out.ext (hx14.trans hx15))
 clear hx15 hx14 hn14 hw14 hb2 p3 f4 f5 f0 f1 f2
 have p2:w15.cell? ⟨PX,2,none⟩=some (.slice (some ⟨cb,co,none⟩) 6 ccap):=HP15.out.cell 2 rfl
 obtain ⟨f4,f5,f0,f1,f2⟩:=HCD.out w15 HX15.out
 go_wp2_with fail
 go_ret
 exact ⟨rfl,HE7.out.trans HX15.out⟩
end Go.Proofs.Ytamnmjckhicapaa
namespace Go.Proofs.Ytamnmjckhicapaa
open Go.RowKit Go.BigFrame Go.WideShapes Go.ChangeShapes Go.Deep
set_option linter.unusedVariables false
set_option linter.unusedSimpArgs false
set_option maxRecDepth 100000
def zv:Value→Int
 | .int _ z=>z
 | _=>0
theorem byt_row {w:World} {v:Value} {m:Nat} {xs:List Value} (h:IsRow w 1 v m xs) (ht:RowTyped [some .u8] m xs):∃ L:List Int,BytA w v L∧∀ x ∈ L,0≤x∧x < 256:=by
 have each:∀ i,i < m→∃ z:Int,xs[i]?=some (.int .u8 z)∧0≤z∧z < 256:=fun i hi=>by
  obtain ⟨v,hv,z,rfl,hw⟩:=(rowTyped_iff.1 ht).2 i hi 0 (some .u8) rfl
  have e1:IntKind.u8.min=0:=rfl
  have e2:IntKind.u8.max=255:=rfl
  simp only [Lit.wf,e1,e2,Bool.and_eq_true,decide_eq_true_eq] at hw
  refine ⟨z,?_,by omega,by omega⟩
  have e:i*[some IntKind.u8].length+0=i:=by simp
  rw [e] at hv
  exact hv
 have hl:(xs.map zv).length=m:=by rw [List.length_map,h.1,Nat.mul_one]
 have hz:∀ i,i < m→∃ z:Int,xs[i]?=some (.int .u8 z)∧at0 (xs.map zv) i=z∧0≤z∧z < 256:=fun i hi=>by
  obtain ⟨z,h1,h2,h3⟩:=each i hi
  exact ⟨z,h1,by simp [at0,List.getD_eq_getElem?_getD,List.getElem?_map,h1,zv],h2,h3⟩
 refine ⟨xs.map zv,?_,fun x hx=>?_⟩
 ·rcases h.2 with ⟨rfl,h0⟩ | ⟨b,off,cap,rfl,h0,h1,h2,h3,h4⟩
  ·rcases h0 with rfl | ⟨a,cap,rfl⟩
   ·exact ⟨none,0,by rw [hl],fun h=>by rw [hl] at h; omega⟩
   ·exact ⟨some a,cap,by rw [hl],fun h=>by rw [hl] at h; omega⟩
  ·refine ⟨_,cap,by rw [hl],fun _=>⟨b,off,rfl,h3,fun i hi=>?_⟩⟩
   rw [hl] at hi
   obtain ⟨z,e1,e2,e3⟩:=hz i hi
   rw [e2]
   exact ⟨h4 i _ e1,e3⟩
 ·obtain ⟨i,hi,rfl⟩:=List.getElem_of_mem hx
  rw [hl] at hi
  obtain ⟨z,e1,e2,e3⟩:=hz i hi
  have e4:(xs.map zv)[i]=z:=by
   rw [← e2]
   simp [at0,List.getD_eq_getElem?_getD,show i < xs.length by rw [h.1]; omega]
  rw [e4]
  exact e3
theorem lay_u8:lay Try.prog 6 5=some [some .u8]:=by kernel_rfl
theorem open_rows {H:Type} {enc:TypeId × Value→H} {w:World} {n:Nat} {c:Value} {x:DataW H × List MemPlace}
    (h:DataW.trod enc Try.prog w 0 (fun _=>true) true n 23 [c]=some x):∃ L:List (List Int),BytsA w c L∧∀ l ∈ L,∀ x ∈ l,0≤x∧x < 256:=by
 have hcell:Try.prog.cellsOf 22=1:=by kernel_rfl
 rcases DataW.trod_slice Try.underlying23 h with ⟨hc,_⟩ | ⟨a,len,cap,elems,rest,k,_,hc,_,_,hlc,hm,hlen,hel,_,_⟩
 ·obtain rfl:c=.slice none 0 0:=by simpa using hc
  exact ⟨[],⟨fun _=>undef,⟨none,0,rfl,fun h=>by simp at h⟩,fun i hi=>by simp at hi⟩,fun l hl=>by cases hl⟩
 ·have hc':c=.slice (some a) len cap:=by simpa using hc
  subst hc'
  rw [hcell] at hel
  have each:∀ i,i < len→∃ s L,w.cell? (a.add i)=some s∧BytA w s L∧∀ x ∈ L,0≤x∧x < 256:=fun i hi=>by
   have:=hel i hi
   rw [List.getElem?_eq_getElem (by omega)] at this
   obtain ⟨cs,h1,h2⟩:=Option.bind_eq_some_iff.1 this
   obtain ⟨g1,g2,h3⟩:=World.cells?_some h1
   rw [Nat.mul_one] at h3
   have h4:=h3 0 (by omega)
   have hcs:cs.length=1:=g2
   obtain ⟨s,rfl⟩:∃ s,cs=[s]:=by
    match cs,hcs with
    | [s],_=>exact ⟨s,rfl⟩
   obtain ⟨m,xs,r1,r2⟩:=open_row Try.underlying22 lay_u8 (by decide) h2
   obtain ⟨L,r3,r4⟩:=byt_row r1 r2
   refine ⟨s,L,?_,r3,r4⟩
   have e:(a.add i).add 0=a.add i:=by simp [Addr.add]
   rw [e] at h4
   simpa using h4
  have hch:∀ i,∃ q:Value × List Int,i < len→w.cell? (a.add i)=some q.1∧BytA w q.1 q.2∧∀ x ∈ q.2,0≤x∧x < 256:=fun i=>by
   by_cases hi:i < len
   ·obtain ⟨s,L,h1,h2,h3⟩:=each i hi
    exact ⟨(s,L),fun _=>⟨h1,h2,h3⟩⟩
   ·exact ⟨(undef,[]),fun h=>absurd h hi⟩
  obtain ⟨f,hf⟩:=Classical.skolem.1 hch
  have hL:((List.range len).map (fun i=>(f i).2)).length=len:=by simp
  have hg:∀ i,i < len→((List.range len).map (fun i=>(f i).2)).getD i []=(f i).2:=fun i hi=>by
   rw [List.getD_eq_getElem?_getD,List.getElem?_map,List.getElem?_range hi]
   rfl
  refine ⟨(List.range len).map (fun i=>(f i).2),⟨fun i=>(f i).1,⟨some a,cap,by rw [hL],fun h0=>?_⟩,fun i hi=>?_⟩,fun l hl x hx=>?_⟩
  ·rw [hL] at h0
   obtain ⟨b,off,spot⟩:=a
   have h1:=(hf 0 h0).1
   have hspot:spot=none:=by simpa [Addr.add] using World.cell?_spot h1
   subst hspot
   have hb:b < w.heap.size:=by
    have e:(⟨b,off,none⟩:Addr).add 0=⟨b,off,none⟩:=by simp [Addr.add]
    rw [e] at h1
    exact World.block_lt_of_cell? w _ h1
   refine ⟨b,off,rfl,hb,fun i hi=>?_⟩
   rw [hL] at hi
   have h2:=(hf i hi).1
   rw [show (⟨b,off,none⟩:Addr).add i=⟨b,off+i,none⟩ from by unfold Addr.add; split <;> simp_all] at h2
   exact h2
  ·rw [hL] at hi
   rw [hg i hi]
   exact (hf i hi).2.1
  ·obtain ⟨i,hi,rfl⟩:=List.mem_map.1 hl
   exact (hf i (List.mem_range.1 hi)).2.2 x hx
theorem at0_rg {l:List Int} (h:∀ x ∈ l,0≤x∧x < 256) (i:Nat):0≤at0 l i∧at0 l i < 256:=by
 by_cases hi:i < l.length
 ·have:=h l[i] (List.getElem_mem hi)
  simpa [at0,List.getD_eq_getElem?_getD,hi] using this
 ·simp [at0,List.getD_eq_getElem?_getD,List.getElem?_eq_none (Nat.le_of_not_lt hi)]
theorem open_tiny {H:Type} {enc:TypeId × Value→H} {w:World} {r:Reach} {b0:Nat} {v:Value} {d:DataW H} {p:List MemPlace} (hv:Value.okWide Try.prog w r b0 25 v)
    (h:DataW.Trod enc Try.prog w 0 (fun _=>true) true 25 v d p):∃ t,TinyA w v t∧TnR t:=by
 obtain ⟨cs,rfl,hsz⟩:=okWide_struct Try.underlying25 hv
 obtain ⟨fuel,hf⟩:=h
 obtain ⟨xs,n,_,hx,hl,hlen,hg⟩:=DataW.trod_struct Try.underlying25 hf
 have hc:Try.prog.cellsOf 25=4:=by kernel_rfl
 rw [hc] at hsz hl
 have hv:(Value.agg cs).cells.toList=cs.toList:=rfl
 rw [hv] at hg hl
 have some_of:∀ (i:Nat) (f:Field),(Try.prog.fieldsOf 25)[i]?=some f→∃ y,DataW.trod enc Try.prog w 0 (fun _=>true) true n f.type ((cs.toList.drop f.offset).take (Try.prog.cellsOf f.type))=some y:=by
  intro i f hi
  have hi':=hi
  rw [show Try.prog.fieldsOf 25=_ from by rw [Program.fieldsOf,Try.underlying25]] at hi'
  have h1:=hg i f hi'
  have:i < xs.length:=by rw [hlen]; exact (Array.getElem?_eq_some_iff.1 hi').1
  rw [List.getElem?_eq_getElem this] at h1
  exact ⟨_,h1⟩
 have one:∀ (i:Nat) (t:TypeId),(Try.prog.fieldsOf 25)[i]?.map (fun f:Field=>(f.type,f.offset,Try.prog.cellsOf f.type))=some (t,i,1)→∃ s y,cs[i]?=some s∧DataW.trod enc Try.prog w 0 (fun _=>true) true n t [s]=some y:=by
  intro i t ht
  obtain ⟨f,hf,he⟩:=Option.map_eq_some_iff.1 ht
  obtain ⟨y,hy⟩:=some_of i f hf
  simp only [Prod.mk.injEq] at he
  obtain ⟨e1,e2,e3⟩:=he
  rw [e1] at e3
  rw [e1,e3,e2] at hy
  have hlt:i < cs.size:=by
   have:=(Array.getElem?_eq_some_iff.1 hf).1
   have hz:(Try.prog.fieldsOf 25).size=4:=by kernel_rfl
   omega
  have e:(cs.toList.drop i).take 1=[cs[i]]:=by
   rw [List.drop_eq_getElem_cons (by simpa using hlt)]
   simp
  rw [e] at hy
  exact ⟨cs[i],y,by simp [hlt],hy⟩
 obtain ⟨s0,y0,c0,t0⟩:=one 0 5 (by kernel_rfl)
 obtain ⟨s1,y1,c1,t1⟩:=one 1 22 (by kernel_rfl)
 obtain ⟨s2,y2,c2,t2⟩:=one 2 23 (by kernel_rfl)
 obtain ⟨s3,y3,c3,t3⟩:=one 3 5 (by kernel_rfl)
 have byte:∀ {s:Value} {y:DataW H × List MemPlace},DataW.trod enc Try.prog w 0 (fun _=>true) true n 5 [s]=some y→∃ z:Int,s=.int .u8 z∧0≤z∧z < 256:=fun {s y} ht=>by
  obtain ⟨v,hv,z,rfl,hw⟩:=(trod_typed 6 5 [some .u8] n [s] y lay_u8 ht).2 0 (some .u8) rfl
  have e1:IntKind.u8.min=0:=rfl
  have e2:IntKind.u8.max=255:=rfl
  simp only [Lit.wf,e1,e2,Bool.and_eq_true,decide_eq_true_eq] at hw
  exact ⟨z,by simpa using hv,by omega,by omega⟩
 obtain ⟨rst,rfl,hr⟩:=byte t0
 obtain ⟨edge,rfl,he⟩:=byte t3
 obtain ⟨m1,x1,r1,q1⟩:=open_row Try.underlying22 lay_u8 (by decide) t1
 obtain ⟨prio,hp1,hp2⟩:=byt_row r1 q1
 obtain ⟨ports,hq1,hq2⟩:=open_rows t2
 refine ⟨⟨rst,prio,ports,edge⟩,⟨s1,s2,?_,hp1,hq1,hr,he⟩,fun i k=>?_,fun i=>at0_rg hp2 i⟩
 ·congr 1
  apply Array.ext'
  show cs.toList=[.int .u8 rst,s1,s2,.int .u8 edge]
  apply List.ext_getElem?
  intro j
  match j with
  | 0=>simpa using c0
  | 1=>simpa using c1
  | 2=>simpa using c2
  | 3=>simpa using c3
  | j+4=>rw [List.getElem?_eq_none (by simp; omega)]; simp
 ·by_cases hi:i < ports.length
  ·exact at0_rg (hq2 _ (by show ports.getD i [] ∈ ports; rw [List.getD_eq_getElem?_getD,List.getElem?_eq_getElem hi]; exact List.getElem_mem hi)) k
  ·have e:ports.getD i []=[]:=by rw [List.getD_eq_getElem?_getD,List.getElem?_eq_none (Nat.le_of_not_lt hi)]; rfl
   show 0≤at0 (ports.getD i []) k∧at0 (ports.getD i []) k < 256
   rw [e]
   simp [at0]
end Go.Proofs.Ytamnmjckhicapaa
namespace Go.Proofs.Ytamnmjckhicapaa
open Go.RowKit Go.BigFrame Go.WideShapes Go.ChangeShapes Go.Deep
set_option linter.unusedVariables false
set_option linter.unusedSimpArgs false
set_option maxRecDepth 100000
theorem planF_root_len (N:List Nd) (S:List (List Pl)):(planF N S).root.length=N.length:=by
 show ((rootsOf N S).map _).length=_
 rw [List.length_map,rootsOf_len]
theorem planF_cost_len (N:List Nd) (S:List (List Pl)):(planF N S).cost.length=N.length:=by
 show ((List.range N.length).map _).length=_
 simp
theorem planF_roles_len (N:List Nd) (S:List (List Pl)):(planF N S).roles.length=N.length:=by
 show ((List.range N.length).map _).length=_
 simp
end Go.Proofs.Ytamnmjckhicapaa
namespace Go.Proofs.Ytamnmjckhicapaa
open Go.RowKit Go.BigFrame Go.WideShapes Go.ChangeShapes Go.Deep
set_option linter.unusedVariables false
set_option linter.unusedSimpArgs false
set_option maxRecDepth 100000
theorem size_ti:(Try.prog.info? 25).map (·.size)=some 4:=by kernel_rfl
theorem planF_role_len {N:List Nd} {S:List (List Pl)} {i:Nat} (hi:i < N.length):((planF N S).roles.getD i []).length=(N.getD i default).ports.length:=by
 have e:(planF N S).roles.getD i []=roleF N (waysOf N S) (rootsOf N S) (segF S) (byOf N S) i:=by
  show ((List.range N.length).map _).getD i []=_
  rw [List.getD_eq_getElem?_getD,List.getElem?_map,List.getElem?_range hi]
  rfl
 rw [e]
 unfold roleF
 simp only
 split
 ·rw [List.length_set,alL_len]
 ·exact alL_len _ _ _ _
end Go.Proofs.Ytamnmjckhicapaa
