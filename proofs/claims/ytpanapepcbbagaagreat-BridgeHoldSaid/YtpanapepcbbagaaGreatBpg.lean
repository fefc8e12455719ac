/- Part 7 of what BridgeHold stands on. No statement is proved here. -/
import Derived.StillTailTactics
import Derived.Test.YtpanapepcbbagaaGreatBpf
set_option linter.unusedVariables false
set_option linter.unusedSimpArgs false
set_option maxRecDepth 100000
set_option maxHeartbeats 8000000
namespace Go.Proofs.YtpanapepcbbagaaGreat
open Go.RowKit Go.BigFrame Go.WideShapes Go.ChangeShapes Go.Deep
theorem sy_nil:Typed [] []:=⟨rfl,fun j k h=>by cases h⟩
theorem sy_cons{l:List (Option IntKind)}{L:List Value}{K:IntKind}{z:Int}(h:Typed l L)(hz:(Lit.int K z).wf=true):Typed (some K :: l) (.int K z :: L):=⟨by simp[h.1],fun j k hj=>by
 cases j with
 | zero =>
  obtain rfl:some K=k:=by simpa using hj
  exact⟨.int K z,rfl,z,rfl,hz⟩
 | succ n=>exact h.2 n k hj⟩
theorem sy_set{L vs:List Value}(h:Typed PL L)(j m:Nat)(hj:(decide (j+m≤89))=true)(hz:vs.length=m)(hv:Typed ((PL.drop j).take m) vs):Typed PL (setL L j vs) :=
 Typed.setL h (j:=j) (by rw[hz];exact(show j+m≤89 by simpa using hj)) (by rw[hz];exact hv)
theorem s_len_setPort{B:Br}{k:Nat}{l:List Value}(hl:l.length=89)(hk:k*89+89≤B.ps.length):(B.setPort k l).ps.length=B.ps.length:=by
 simp[Br.setPort,hl];omega
theorem s_setPort_ok{B:Br}(ho:B.ok){k:Nat}(hk:k<B.np){l:List Value}(hl:Typed PL l):(B.setPort k l).ok:=by
 have h89:=len89 ho hk
 obtain⟨a,b,c,d⟩:=ho
 refine⟨a,?_,c,d⟩
 refine(rowTyped_iff (l:=PL)).2 ⟨?_,fun i hi j cc hj=>?_⟩
 ·rw[s_len_setPort (tpL hl) h89]
  exact b.1
 ·have hj89:j<89:=(List.getElem?_eq_some_iff.1 hj).1
  have hb:=((rowTyped_iff (l:=PL)).1 b).2 i hi j cc hj
  rw[show PL.length=89 from rfl]at hb ⊢
  rw[setPort_at (tpL hl) h89]
  by_cases e:i=k
  ·subst e
   rw[if_pos (by omega)]
   obtain⟨v,hv,hc⟩:=hl.2 j cc hj
   exact⟨v,by rw[←hv];congr 1;omega,hc⟩
  ·rw[if_neg (by omega)]
   exact hb
theorem chL_typed{k:Nat}{rp id:Int}{L:List Value}(hT:Typed PL L):Typed PL (chL k rp id L):=by
 have d:∀(a b:Bool) (M:List Value),Typed PL M→Typed PL (dsL a b M):=fun a b M h=>by
  cases a<;>cases b
  ·exact tset_b (tset_i h 88 .i64 4 rfl (by decide)) 50 _ rfl
  ·exact tset_b (tset_i h 88 .i64 4 rfl (by decide)) 50 _ rfl
  ·exact tset_b (tset_i h 88 .i64 4 rfl (by decide)) 50 _ rfl
  ·exact tset_i h 88 .i64 4 rfl (by decide)
 have hr:(Lit.int .i64 (roleF k rp (pI L 70) id)).wf=true:=by
  unfold roleF
  split
  ·decide
  ·split<;>decide
 unfold chL
 split
 ·exact tset_i hT 88 .i64 0 rfl (by decide)
 ·split
  ·split
   ·exact tset_b (tset_i hT 88 .i64 _ rfl hr) 50 _ rfl
   ·exact d _ _ _ (tset_b hT 50 _ rfl)
  ·split
   ·exact d _ _ _ (tset_b hT 50 _ rfl)
   ·split
    ·exact d _ _ _ hT
    ·exact hT
def tellL(B:Br)(L:List Value):List Value:=(setL (setL L 73 [.int .u64 (B.hi 7),.int .u32 (B.hi 8),.int .u64 (B.hi 0),.int .u16 (pI L 0),.int .u16 0]) 82 [.int .i64 (B.hi 13),.int .i64 (B.hi 14),.int .i64 (B.hi 15),.int .i64 (B.hi 16)]).set 84 (.int .i64 (B.hi 4))
theorem tellL_typed{B:Br}(ho:B.ok){L:List Value}(hT:Typed PL L):Typed PL (tellL B L) :=
 tset_i (sy_set (sy_set hT 73 5 (by decide) rfl (sy_cons (sy_cons (sy_cons (sy_cons (sy_cons sy_nil (by decide)) (tpW hT 0 rfl)) (ho.hw 0 rfl)) (ho.hw 8 rfl)) (ho.hw 7 rfl))) 82 4 (by decide) rfl (sy_cons (sy_cons (sy_cons (sy_cons sy_nil (ho.hw 16 rfl)) (ho.hw 15 rfl)) (ho.hw 14 rfl)) (ho.hw 13 rfl))) 84 .i64 _ rfl (ho.hw 4 rfl)
def stL(B:Br)(k:Nat)(L:List Value):List Value:=(chL k (B.hi 12) (B.hi 0) (tellL B L)).set 44 (.bool true)
theorem stL_typed{B:Br}(ho:B.ok){k:Nat}{L:List Value}(hT:Typed PL L):Typed PL (stL B k L):=tset_b (chL_typed (tellL_typed ho hT)) 44 _ rfl
def psel(B:Br):Nat→Br|0=>B|n+1=>(psel B n).setPort n (stL B n (port (psel B n).ps n))
theorem psel_np(B:Br):∀n,(psel B n).np=B.np|0=>rfl|n+1=>psel_np B n
theorem psel_hd(B:Br):∀n,(psel B n).hd=B.hd|0=>rfl|n+1=>psel_hd B n
theorem psel_ok{B:Br}(ho:B.ok):∀n,n≤B.np→(psel B n).ok
 | 0,_=>ho
 | n+1,h=>s_setPort_ok (psel_ok ho n (by omega)) (by rw[psel_np];omega) (stL_typed ho (br_typed (psel_ok ho n (by omega)) (by rw[psel_np];omega)))
theorem psel_hi(B:Br)(n j:Nat):(psel B n).hi j=B.hi j:=by unfold Br.hi;rw[psel_hd]
theorem rootF_rg(B:Br):∀n,(rootF B n).at_=-1∨∃k:Nat,k<n∧(rootF B n).at_=k
 | 0=>.inl rfl
 | n+1=>by
  unfold rootF
  split
  ·exact .inr ⟨n,by omega,rfl⟩
  ·rcases rootF_rg B n with h|⟨k,hk,h⟩
   ·exact .inl h
   ·exact .inr ⟨k,by omega,h⟩
theorem sethr_ok{B:Br}(ho:B.ok){j m:Nat}{vs:List Value}(hj:(decide (j+m≤17))=true)(hz:vs.length=m)(hv:Typed ((HL.drop j).take m) vs):(B.sethr j vs).ok:=by
 obtain⟨a,b,c,d⟩:=ho
 exact⟨Typed.setL a (j:=j) (by rw[hz];exact(show j+m≤17 by simpa using hj)) (by rw[hz];exact hv),b,c,d⟩
theorem hi_sethr_in{B:Br}(hl:B.hd.length=17){j i:Nat}{vs:List Value}(hj:j+vs.length≤17)(h1:j≤i)(h2:i<j+vs.length):(B.sethr j vs).hi i=pI vs (i - j):=by
 unfold Br.hi Br.sethr pI
 show(match (setL B.hd j vs)[i]? with|some (.int _ z)=>z|_=>0)=_
 rw[setL_at (by omega),if_pos ⟨h1,h2⟩]
 rfl
def rtL(B:Br)(a:Int):List Value:=if a<0 then [.int .i64 (B.hi 2),.int .i64 (B.hi 3),.int .i64 (B.hi 4),.int .i64 (B.hi 5)]else [.int .i64 (B.gi a.toNat 78+1),.int .i64 (B.gi a.toNat 79),.int .i64 (B.gi a.toNat 80),.int .i64 (B.gi a.toNat 81)]
def selV(C:Br):R5:=rootF C C.np
def selB1(C:Br):Br:=(C.sethr 7 (selV C).cells.toList).sethr 12 [.int .i64 (selV C).at_]
def selB2(C:Br):Br:=(selB1 C).sethr 13 (rtL (selB1 C) (selV C).at_)
def R5.wf(v:R5):Prop:=(Lit.int .u64 v.r).wf=true∧(Lit.int .u32 v.c).wf=true∧(Lit.int .u64 v.b).wf=true∧(Lit.int .u16 v.p).wf=true∧(Lit.int .u16 v.x).wf=true
theorem thr_wf{c q:Int}(hc:0≤c∧c<4294967296)(hq:0≤q∧q<4294967296):(Lit.int .u32 (thr c q)).wf=true:=by
 have:0≤thr c q∧thr c q≤4294967295:=by
  unfold thr
  split<;>omega
 simp[Lit.wf,IntKind.min,IntKind.max,IntKind.signed,IntKind.bits]
 omega
theorem rootF_wf{B:Br}(ho:B.ok):∀n,n≤B.np→(rootF B n).wf
 | 0,_=>⟨ho.hw 0 rfl,(show(Lit.int .u32 0).wf=true by decide),ho.hw 0 rfl,(show(Lit.int .u16 0).wf=true by decide),(show(Lit.int .u16 0).wf=true by decide)⟩
 | n+1,h=>by
  unfold rootF
  split
  ·exact⟨ho.gw (by omega) 68 rfl,thr_wf (wf_u32 (ho.gw (by omega) 69 rfl)) (wf_u32 (ho.gw (by omega) 1 rfl)),ho.gw (by omega) 70 rfl,ho.gw (by omega) 71 rfl,ho.gw (by omega) 0 rfl⟩
  ·exact rootF_wf ho n (by omega)
theorem selB1_ok{C:Br}(ho:C.ok)(hn:C.np<1000):(selB1 C).ok:=by
 obtain⟨a,b,c,d,e⟩:=rootF_wf ho C.np (Nat.le_refl _)
 have hw:(Lit.int .i64 (selV C).at_).wf=true:=by
  rcases rootF_rg C C.np with h|⟨k,hk,h⟩
  ·rw[show(selV C).at_=-1 from h];decide
  ·rw[show(selV C).at_=k from h]
   simp[Lit.wf,IntKind.min,IntKind.max,IntKind.signed,IntKind.bits]
   omega
 exact sethr_ok (sethr_ok ho (j:=7) (m:=5) (by decide) rfl (sy_cons (sy_cons (sy_cons (sy_cons (sy_cons sy_nil e) d) c) b) a)) (j:=12) (m:=1) (by decide) rfl (sy_cons sy_nil hw)
theorem selB1_12{C:Br}(ho:C.ok):(selB1 C).hi 12=(selV C).at_:=by
 have hl:(C.sethr 7 (selV C).cells.toList).hd.length=17:=by
  show(setL C.hd 7 _).length=17
  have:=ho.hd.1
  rw[setL_len (by rw[show(selV C).cells.toList.length=5 from rfl,this];decide),this]
  rfl
 unfold selB1
 rw[hi_sethr_in hl (by exact(by decide:12+1≤17)) (by decide) (by exact(by decide:12<12+1))]
 rfl
theorem rtL_typed{B:Br}(ho:B.ok){a:Int}(ha:a=-1∨∃k:Nat,k<B.np∧a=k)(hR:∀k,k<B.np→0≤B.gi k 78∧B.gi k 78≤65535):Typed ((HL.drop 13).take 4) (rtL B a)∧(rtL B a).length=4:=by
 unfold rtL
 rcases ha with rfl|⟨k,hk,rfl⟩
 ·rw[if_pos (by decide)]
  exact⟨sy_cons (sy_cons (sy_cons (sy_cons sy_nil (ho.hw 5 rfl)) (ho.hw 4 rfl)) (ho.hw 3 rfl)) (ho.hw 2 rfl),rfl⟩
 ·rw [if_neg (by omega),Int.toNat_natCast]
  have h1:=hR k hk
  have hw:(Lit.int .i64 (B.gi k 78+1)).wf=true:=by
   simp[Lit.wf,IntKind.min,IntKind.max,IntKind.signed,IntKind.bits]
   omega
  exact⟨sy_cons (sy_cons (sy_cons (sy_cons sy_nil (ho.gw hk 81 rfl)) (ho.gw hk 80 rfl)) (ho.gw hk 79 rfl)) hw,rfl⟩
theorem rtimes_any(w:World)(F:Nat→Prop)(X g:Nat)(B:Br)(h:BrG w F X g B)(ho:B.ok)(hn:B.np<1000)(ha:B.hi 12=-1∨∃k:Nat,k<B.np∧B.hi 12=k)(hR:∀k,k<B.np→0≤B.gi k 78∧B.gi k 78≤65535):
    Calls Tryz.prog 49 #[.pointer (some ⟨X,0,none⟩)] w fun e w'=>e=.returned (.agg (rtL B (B.hi 12)).toArray)∧Ext w w':=by
 unfold rtL
 rcases ha with e|⟨k,hk,e⟩
 ·rw[if_pos (by omega)]
  exact rtimes_own w F X g B h ho (by omega)
 ·rw[e,if_neg (by omega),Int.toNat_natCast]
  exact rtimes_at w F X g B h ho k e hk hn (hR k hk)
theorem noR_gi{B:Br}(ho:B.ok){k j:Nat}(hj:j<89)(hne:j≠43):(noR B B.np).gi k j=B.gi k j:=upd_gi_ne B (by decide) _ (by rw[ho.len];exact Nat.le_refl _) hj hne
def selF(B:Br):Bool × Br:=if anyR B B.np=true then(true,psel (selB2 (noR B B.np)) B.np)else(false,noR B B.np)
def offV(B:Br)(n:Nat):Array Value:=if offers B n=true then #[.int .u64 (B.gi n 68),.int .u32 (thr (B.gi n 69) (B.gi n 1)),.int .u64 (B.gi n 70),.int .u16 (B.gi n 71),.int .u16 (B.gi n 0)]else VZ
theorem offer_B{w:World}(B:Br)(ho:B.ok)(n:Nat)(hn:n<B.np)(G o X:Nat)(hP:Pr w G o (port B.ps n))(hid0:w.cell? ⟨X,0,none⟩=some (.int .u64 (B.hi 0)))(hXl:X<w.heap.size):
    Calls Tryz.prog 62 #[.pointer (some ⟨X,0,none⟩),.pointer (some ⟨G,o,none⟩)] w fun e w'=>e=.returned (.tuple #[.agg (offV B n),.bool (offers B n)])∧Ext w w':=by
 have c0:(port B.ps n)[0]?=some (.int .u16 (B.gi n 0)):=(port_at (by decide)).trans (ho.gi hn 0 rfl)
 have c1:(port B.ps n)[1]?=some (.int .u32 (B.gi n 1)):=(port_at (by decide)).trans (ho.gi hn 1 rfl)
 have c68:(port B.ps n)[68]?=some (.int .u64 (B.gi n 68)):=(port_at (by decide)).trans (ho.gi hn 68 rfl)
 have c69:(port B.ps n)[69]?=some (.int .u32 (B.gi n 69)):=(port_at (by decide)).trans (ho.gi hn 69 rfl)
 have c70:(port B.ps n)[70]?=some (.int .u64 (B.gi n 70)):=(port_at (by decide)).trans (ho.gi hn 70 rfl)
 have c71:(port B.ps n)[71]?=some (.int .u16 (B.gi n 71)):=(port_at (by decide)).trans (ho.gi hn 71 rfl)
 have c72:(port B.ps n)[72]?=some (.int .u16 (B.gi n 72)):=(port_at (by decide)).trans (ho.gi hn 72 rfl)
 have c86:(port B.ps n)[86]?=some (.int .i64 (B.gi n 86)):=(port_at (by decide)).trans (ho.gi hn 86 rfl)
 have gid:=wf_u64 (ho.hw 0 (K:=.u64) rfl)
 have g70:=wf_u64 (ho.gw hn 70 (K:=.u64) rfl)
 have g69:=wf_u32 (ho.gw hn 69 (K:=.u32) rfl)
 have g1:=wf_u32 (ho.gw hn 1 (K:=.u32) rfl)
 have hl:=hP.2.1
 unfold offV
 by_cases e3:B.gi n 86=3
 ·cases hs:sameA (B.gi n 70) (B.hi 0)
  ·have ht:offers B n=true:=by simp[offers,e3,hs]
   rw[ht,if_pos rfl]
   rw[e3]at c86
   exact offer_yes G o _ hP hl X (B.hi 0) hid0 hXl gid _ c0 _ c1 _ c68 _ c69 _ c70 _ c71 _ c72 c86 g70 g69 g1 hs
  ·have ht:offers B n=false:=by simp[offers,hs]
   rw[ht,if_neg (by simp)]
   rw[e3]at c86
   exact offer_own G o _ hP hl X (B.hi 0) hid0 hXl gid _ c0 _ c1 _ c68 _ c69 _ c70 _ c71 _ c72 c86 g70 g69 g1 hs
 ·have ht:offers B n=false:=by
   unfold offers
   rw[ne_b e3]
   rfl
  rw[ht,if_neg (by simp)]
  exact offer_is3 G o _ hP hl X (B.hi 0) hid0 hXl gid _ c0 _ c1 _ c68 _ c69 _ c70 _ c71 _ c72 _ c86 g70 g69 g1 (by simpa using e3)
theorem root_any(c:Array Value)(B:Br)(w:World)(hb:BrC w c B)(ho:B.ok)(hn:B.np<1000):
    Calls Tryz.prog 48 #[.agg c] w fun e w'=>e=.returned (.tuple #[.agg (rootF B B.np).cells,.int .i64 (rootF B B.np).at_])∧Ext w w':=by
 obtain⟨s1,s2,s3,hz,hhd,c17,c18,c19,r1,-,-⟩:=hb.facts ho.hd.1
 obtain⟨a1,k1,rfl,m1,f1⟩:=r1.form
 have c0:=(hhd 0 (by decide)).trans (ho.hi 0 rfl)
 have F1:=hD f1
 have C17:=hD c17
 have hzv:=zero_vec
 clear hz hhd c17 c18 c19 r1 f1 hb
 go_enter Tryz.func48,Tryz.ntmps48
 go_wp2_with (first
  | fail
  | ((with_reducible refine at_box 35 ?_);refine bx_row rfl 35 _ rfl c rfl ?_
     intro X0 z1 hq hs hx
     have HX1:=hD hq
     have HE1:=hD hx
     have HXw:=hD (show w.heap.size≤X0 by omega)
     clear hq hs hx)
  | ((with_reducible refine at_alloc 30 ?_);refine al_zero rfl 30 rfl VZ zero_vec ?_
     intro R0 z2 hq hs hx
     have HR2:=hD hq
     have hX2:=(hx.block _ (heap_lt HX1.out)).trans HX1.out
     have HX2:=hD hX2
     have HE2:=hD (HE1.out.trans hx)
     have HRw:=hD (show w.heap.size≤R0 by have:=HE1.out.size;omega)
     have hne:X0≠R0:=by have:=heap_lt HX1.out;omega
     have x0:z2.cell? ⟨X0,0,none⟩=some (.int .u64 (B.hi 0)):=(cell_of_row _ _ _ _ _ _ hX2).trans c0
     clear hq hs hx hX2 HE1))
 refine(vown_any (B.hi 0) _).mono ?_
 rintro e z3 ⟨rfl,hx⟩
 have HR3:=hD ((hx.block _ (heap_lt HR2.out)).trans HR2.out)
 have HX3:=hD ((hx.block _ (heap_lt HX2.out)).trans HX2.out)
 have HE3:=hD (HE2.out.trans hx)
 clear hx x0 HR2 HX2 HE2 HX1
 go_wp2_with (first
  | fail
  | ((with_reducible refine at_store 30 ?_);refine st_at rfl rfl 30 _ _ rfl R0 0 _ #[.int .u64 (B.hi 0),.int .u32 0,.int .u64 (B.hi 0),.int .u16 0,.int .u16 0] _ #[.int .u64 (B.hi 0),.int .u32 0,.int .u64 (B.hi 0),.int .u16 0,.int .u16 0] _ rfl rfl rfl HR3.out (by exact(by decide:0+5≤5)) (by kernel_rfl) rfl rfl ?_
     intro z4 hq hm
     have HR4:=hD hq
     have hX4:=(hm.heap (heap_lt HX3.out) (show ¬X0=R0 from hne)).trans HX3.out
     have HX4:=hD hX4
     have HE4:=hD (Ext.mutE HE3.out hm (fun n hn h=>by have h2:n=R0:=h;have:=HRw.out;omega))
     have x17:z4.cell? ⟨X0,17,none⟩=some (.slice a1 B.np k1):=(cell_of_row _ _ _ _ _ _ hX4).trans C17.out
     clear hq hm hX4))
 go_loopw [13,3] (fun v a wr=>∃n:Nat,n≤B.np∧v=.int .i64 n∧a=.int .i64 (rootF B n).at_∧wr.heap[R0]?=some (.cells (rootF B n).cells 30 (0,0))∧Mut (fun n=>n=R0) z4 wr) (fun v _ _=>B.np - (intOf v).toNat)
 case atStart=>exact⟨0,by omega,rfl,rfl,HR4.out,Mut.refl _ _⟩
 case round =>
  clear x17
  obtain⟨n,hn2,rfl,rfl,hR,hm⟩:=hrel
  have HR:=hD hR
  have HM:=hD hm
  have HX:=hD ((hm.heap (heap_lt HX4.out) (show ¬X0=R0 from hne)).trans HX4.out)
  have HE:=hD (Ext.mutE HE4.out hm (fun n hn h=>by have h2:n=R0:=h;have:=HRw.out;omega))
  clear hR hm
  have x17:=(cell_of_row _ _ 17 _ _ _ HX.out).trans C17.out
  obtain⟨v,hv⟩:∃v,rootF B n=v:=⟨_,rfl⟩
  by_cases hlt:n<B.np
  ·have HS:=hD (show rootF B (n+1)=if(offers B n && (rootF B n).lt (B.gi n 68) (thr (B.gi n 69) (B.gi n 1)) (B.gi n 70) (B.gi n 71) (B.gi n 0))=true then⟨B.gi n 68,thr (B.gi n 69) (B.gi n 1),B.gi n 70,B.gi n 71,B.gi n 0,n⟩else rootF B n from rfl)
   rw[hv]at HS HR ⊢
   clear hv
   obtain⟨bb,off,rfl,hbl,hlc,hcm,hrg⟩:=F1.out (by omega)
   have hXr:X0<wr.heap.size:=heap_lt HX.out
   have hPr:Pr wr bb (off+n*89) (port B.ps n):=⟨nL hbl HE.out.size,port_len (len89 ho hlt),rangeAt_ext (port_range hrg n) HE.out hbl⟩
   have HP:=hD hPr
   have hi0:=hD ((cell_of_row _ _ 0 _ _ _ HX.out).trans c0)
   clear hrg hPr
   go_wp2_with fail
   refine(offer_B B ho n hlt bb (off+n*89) X0 HP.out hi0.out hXr).mono ?_
   rintro e y1 ⟨rfl,hx⟩
   have HR1:=hD ((hx.block _ (heap_lt HR.out)).trans HR.out)
   have HM1:=hD (HM.out.trans (hx.mut _))
   clear hx HP hi0 x17 hXr
   obtain⟨ok,hok⟩:∃b,offers B n=b:=⟨_,rfl⟩
   have HOV:=hD (show offV B n=if ok=true then #[.int .u64 (B.gi n 68),.int .u32 (thr (B.gi n 69) (B.gi n 1)),.int .u64 (B.gi n 70),.int .u16 (B.gi n 71),.int .u16 (B.gi n 0)]else VZ by unfold offV;rw[hok])
   rw[hok]at HS ⊢
   clear hok
   cases ok
   ·rw [show offV B n=VZ from HOV.out]
    go_wp2_with (first
     | fail
     | ((with_reducible refine at_alloc 30 ?_);refine al_zero rfl 30 rfl VZ zero_vec ?_
        intro V0 y2 hq hs hx
        have HV2:=hD hq
        have HR2:=hD ((hx.block _ (heap_lt HR1.out)).trans HR1.out)
        have HM2:=hD (HM1.out.trans (hx.mut _))
        have hnv:V0≠R0:=by have:=heap_lt HR1.out;omega
        have hvz:z4.heap.size≤V0:=by have:=HM1.out.size;omega
        clear hq hs hx)
     | ((with_reducible refine at_store 30 ?_);refine st_at rfl rfl 30 _ _ rfl V0 0 _ VZ _ VZ _ rfl rfl rfl HV2.out (by exact(by decide:0+5≤5)) (by kernel_rfl) rfl rfl ?_
        intro y3 hq hm
        have HV3:=hD hq
        have HR3:=hD ((hm.heap (heap_lt HR2.out) (show ¬R0=V0 from Ne.symm hnv)).trans HR2.out)
        have HM3:=hD (mut_new HM2.out hm hvz)
        clear hq hm))
    go_roundw
    case rel=>exact⟨n+1,by omega,by go_num,by rw[HS.out];rfl,by rw[HS.out];exact HR3.out,HM3.out⟩
    case measure=>simp[intOf];omega
   ·rw [show offV B n=#[.int .u64 (B.gi n 68),.int .u32 (thr (B.gi n 69) (B.gi n 1)),.int .u64 (B.gi n 70),.int .u16 (B.gi n 71),.int .u16 (B.gi n 0)]from HOV.out]
    obtain⟨lt,hlt2⟩:∃b,v.lt (B.gi n 68) (thr (B.gi n 69) (B.gi n 1)) (B.gi n 70) (B.gi n 71) (B.gi n 0)=b:=⟨_,rfl⟩
    rw[hlt2]at HS
    have HLT:=hD (show decide (c5 (B.gi n 68) (thr (B.gi n 69) (B.gi n 1)) (B.gi n 70) (B.gi n 71) (B.gi n 0) v.r v.c v.b v.p v.x<0)=lt from hlt2)
    have HVC:=hD (show v.cells=#[.int .u64 v.r,.int .u32 v.c,.int .u64 v.b,.int .u16 v.p,.int .u16 v.x]from rfl)
    rw[HVC.out]at HR1
    clear hlt2
    go_wp2_with (first
     | fail
     | ((with_reducible refine at_alloc 30 ?_);refine al_zero rfl 30 rfl VZ zero_vec ?_
        intro V0 y2 hq hs hx
        have HV2:=hD hq
        have HR2:=hD ((hx.block _ (heap_lt HR1.out)).trans HR1.out)
        have HM2:=hD (HM1.out.trans (hx.mut _))
        have hnv:V0≠R0:=by have:=heap_lt HR1.out;omega
        have hvz:z4.heap.size≤V0:=by have:=HM1.out.size;omega
        clear hq hs hx)
     | ((with_reducible refine at_store 30 ?_);refine st_at rfl rfl 30 _ _ rfl V0 0 _ #[.int .u64 (B.gi n 68),.int .u32 (thr (B.gi n 69) (B.gi n 1)),.int .u64 (B.gi n 70),.int .u16 (B.gi n 71),.int .u16 (B.gi n 0)] _ #[.int .u64 (B.gi n 68),.int .u32 (thr (B.gi n 69) (B.gi n 1)),.int .u64 (B.gi n 70),.int .u16 (B.gi n 71),.int .u16 (B.gi n 0)] _ rfl rfl rfl HV2.out (by exact(by decide:0+5≤5)) (by kernel_rfl) rfl rfl ?_
        intro y3 hq hm
        have HV3:=hD hq
        have HR3:=hD ((hm.heap (heap_lt HR2.out) (show ¬R0=V0 from Ne.symm hnv)).trans HR2.out)
        have HM3:=hD (mut_new HM2.out hm hvz)
        clear hq hm)
     | ((with_reducible refine at_loadG 30 ?_);refine wpList_load_rowG rfl 30 _ rfl V0 rfl 30 #[.int .u64 (B.gi n 68),.int .u32 (thr (B.gi n 69) (B.gi n 1)),.int .u64 (B.gi n 70),.int .u16 (B.gi n 71),.int .u16 (B.gi n 0)] (0,0) _ HV3.out Tryz.underlying30 rfl (by kernel_rfl) ?_)
     | ((with_reducible refine at_loadG 30 ?_);refine wpList_load_rowG rfl 30 _ rfl R0 rfl 30 #[.int .u64 v.r,.int .u32 v.c,.int .u64 v.b,.int .u16 v.p,.int .u16 v.x] (0,0) _ HR3.out Tryz.underlying30 rfl (by kernel_rfl) ?_))
    refine(asb (vbetter_any _ _ _ _ _ _ _ _ _ _ _) HLT.out).mono ?_
    rintro e y4 ⟨rfl,hx⟩
    have HV4:=hD ((hx.block _ (heap_lt HV3.out)).trans HV3.out)
    have HR4b:=hD ((hx.block _ (heap_lt HR3.out)).trans HR3.out)
    have HM4:=hD (HM3.out.trans (hx.mut _))
    clear hx
    cases lt
    ·go_wp2_with fail
     go_roundw
     case rel=>exact⟨n+1,by omega,by go_num,by rw[HS.out];rfl,by rw[HS.out];exact HR4b.out,HM4.out⟩
     case measure=>simp[intOf];omega
    ·go_wp2_with (first
      | fail
      | ((with_reducible refine at_load 30 ?_);refine wpList_load_row rfl 30 _ rfl V0 rfl 30 #[.int .u64 (B.gi n 68),.int .u32 (thr (B.gi n 69) (B.gi n 1)),.int .u64 (B.gi n 70),.int .u16 (B.gi n 71),.int .u16 (B.gi n 0)] (0,0) _ HV4.out Tryz.underlying30 rfl (by kernel_rfl) ?_)
      | ((with_reducible refine at_store 30 ?_);refine st_at rfl rfl 30 _ _ rfl R0 0 _ #[.int .u64 (B.gi n 68),.int .u32 (thr (B.gi n 69) (B.gi n 1)),.int .u64 (B.gi n 70),.int .u16 (B.gi n 71),.int .u16 (B.gi n 0)] _ #[.int .u64 (B.gi n 68),.int .u32 (thr (B.gi n 69) (B.gi n 1)),.int .u64 (B.gi n 70),.int .u16 (B.gi n 71),.int .u16 (B.gi n 0)] _ rfl rfl rfl HR4b.out (by exact(by decide:0+5≤5)) (by kernel_rfl) rfl rfl ?_
         intro y5 hq hm
         have HR5:=hD hq
         have HM5:=hD (HM4.out.trans hm)
         clear hq hm))
     go_roundw
     case rel=>exact⟨n+1,by omega,by go_num,by rw[HS.out];rfl,by rw[HS.out];exact HR5.out,HM5.out⟩
     case measure=>simp[intOf];omega
  ·obtain rfl:n=B.np:=by omega
   have HVC:=hD (show v.cells=#[.int .u64 v.r,.int .u32 v.c,.int .u64 v.b,.int .u16 v.p,.int .u16 v.x]from rfl)
   rw[hv]at HR ⊢
   rw[HVC.out]at HR
   have HV:=hD hv
   clear hv
   go_wp2_with (first
    | fail
    | ((with_reducible refine at_load 30 ?_);refine wpList_load_row rfl 30 _ rfl R0 rfl 30 #[.int .u64 v.r,.int .u32 v.c,.int .u64 v.b,.int .u16 v.p,.int .u16 v.x] (0,0) _ HR.out Tryz.underlying30 rfl (by kernel_rfl) ?_)
    | ((with_reducible refine at_store 30 ?_);refine st_at rfl rfl 30 _ _ rfl R0 0 _ #[.int .u64 v.r,.int .u32 v.c,.int .u64 v.b,.int .u16 v.p,.int .u16 v.x] _ #[.int .u64 v.r,.int .u32 v.c,.int .u64 v.b,.int .u16 v.p,.int .u16 v.x] _ rfl rfl rfl HR.out (by exact(by decide:0+5≤5)) (by kernel_rfl) rfl rfl ?_
       intro y5 hq hm
       have HR5:=hD hq
       have HE5:=hD (Ext.mutE HE.out hm (fun n hn h=>by have h2:n=R0:=h;have:=HRw.out;omega))
       clear hq hm))
   refine bodyPost_ret (results_crt rfl _ _ _ _ _ (0,0) _ rfl HR5.out Tryz.underlying30 rfl (by kernel_rfl)) rfl ?_
   rw[HV.out]
   exact⟨rfl,HE5.out⟩
theorem sel_step(w:World)(F:Nat→Prop)(X g:Nat)(B:Br)(h:BrG w F X g B)(ho:B.ok)(hn:B.np<1000)(hp:0<B.np)(hR0:∀k,k<B.np→0≤B.gi k 78∧B.gi k 78≤65535):
    Calls Tryz.prog 36 #[.pointer (some ⟨X,0,none⟩)] w (Stepped w F X g (selF B)):=by
 unfold selF
 obtain⟨an,han⟩:∃b,anyR B B.np=b:=⟨_,rfl⟩
 rw[han]
 have HAN:=hD han
 have okC:=noR_ok ho (Nat.le_refl B.np)
 have npC:(noR B B.np).np=B.np:=upd_np B 43 _ _
 have hRC:∀k,k<(noR B B.np).np→0≤(noR B B.np).gi k 78∧(noR B B.np).gi k 78≤65535:=fun k hk=>by
  rw[noR_gi ho (by decide) (by decide)]
  exact hR0 k (by rw[npC]at hk;exact hk)
 have HAS:=hD (asked_any w F X g B h ho hn)
 obtain⟨C,hC⟩:∃C,noR B B.np=C:=⟨_,rfl⟩
 rw[hC]at okC npC hRC HAS ⊢
 clear hC han
 have ok1:=selB1_ok okC (by rw[npC];exact hn)
 have h12:=selB1_12 okC
 have np1:(selB1 C).np=B.np:=npC
 have hrg:(selB1 C).hi 12=-1∨∃k:Nat,k<(selB1 C).np∧(selB1 C).hi 12=k:=by
  rw[h12,np1,←npC]
  exact rootF_rg C C.np
 have hR1:∀k,k<(selB1 C).np→0≤(selB1 C).gi k 78∧(selB1 C).gi k 78≤65535:=hRC
 obtain⟨ht2,hz2⟩:=rtL_typed ok1 hrg hR1
 have ok2:(selB2 C).ok:=by
  unfold selB2
  rw[h12]at ht2 hz2
  exact sethr_ok ok1 (j:=13) (m:=4) (by decide) hz2 ht2
 have HB2:=hD (show selB2 C=(selB1 C).sethr 13 (rtL (selB1 C) ((selB1 C).hi 12)) by rw[h12];rfl)
 have np2:(selB2 C).np=B.np:=npC
 have HVE:=hD (show selB1 C=(C.sethr 7 (rootF C C.np).cells.toList).sethr 12 [.int .i64 (rootF C C.np).at_]from rfl)
 have HRT:=hD (fun(w':World) (hB:BrG w' F X g (selB1 C))=>rtimes_any w' F X g (selB1 C) hB ok1 (by rw[np1];exact hn) hrg hR1)
 obtain⟨D,hD0⟩:∃D,selB2 C=D:=⟨_,rfl⟩
 obtain⟨B1,hB1⟩:∃B1,selB1 C=B1:=⟨_,rfl⟩
 rw[hB1]at ok1 ht2 hz2 HB2 HVE HRT h12
 rw[hD0]at ok2 np2 HB2 ⊢
 obtain⟨rt,hrt⟩:∃l,rtL B1 (B1.hi 12)=l:=⟨_,rfl⟩
 rw[hrt]at ht2 hz2 HB2 HRT
 obtain⟨v,hv⟩:∃v,rootF C C.np=v:=⟨_,rfl⟩
 rw[hv]at HVE
 have HV:=hD hv
 have HT2:=hD (show rt.toArray.toList.all (·.oneCell')=true by simpa using all_oneCell_toArray ht2.one)
 have hl1:=ok1.hd.1
 obtain⟨res,hres⟩:∃r,(if an=true then(true,psel D B.np)else(false,C))=r:=⟨_,rfl⟩
 rw[hres]
 have HRES:=hD hres
 clear hres
 clear hD0 hB1 hrt hv hrg hR1 h12 np1 hRC hR0 h ht2
 go_enter Tryz.func36,Tryz.ntmps36
 go_wp2_with fail
 refine HAS.out.mono ?_
 rintro e w1 ⟨rfl,hB,hm⟩
 rw[HAN.out]
 have HC:=hD hB
 have HM:=hD hm
 clear hB hm HAS
 cases an
 ·go_wp2_with fail
  go_ret
  rw[show res=(false,C)from HRES.out.symm]
  exact⟨rfl,HC.out,HM.out⟩
 have HRS:=hD (show res=(true,psel D B.np)from HRES.out.symm)
 clear HRES
 obtain⟨Cr,hCr,hCb,hCz⟩:=HC.out.br (by rw[npC];exact hp)
 have HCr:=hD hCr
 have HCi:=hD (show(Tryz.prog.info? 35).map (·.size)=some Cr.size by rw[hCz,okC.hd.1];exact size_br)
 have HCb:=hD hCb
 clear hCr hCz hCb
 go_wp2_with (first
  | fail
  | ((with_reducible refine at_load 35 ?_);refine wpList_load_row rfl 35 _ rfl X rfl 35 Cr (0,0) _ HCr.out Tryz.underlying35 rfl HCi.out ?_))
 refine(root_any Cr C _ HCb.out okC (by rw[npC];exact hn)).mono ?_
 rintro e w2 ⟨rfl,hx⟩
 rw[HV.out]
 have HC2:=hD (HC.out.ext hx)
 have HM2:=hD (HM.out.trans (hx.mut F))
 clear hx HCr HCb HC HM
 have hl7:(C.sethr 7 v.cells.toList).hd.length=17:=by
  have:=okC.hd.1
  show(setL C.hd 7 _).length=17
  rw[setL_len (by rw[show v.cells.toList.length=5 from rfl,this];decide),this]
  rfl
 go_wp2_with (first
  | fail
  | ((with_reducible refine at_store 30 ?_);refine st_hd rfl rfl 30 _ _ rfl F X g C HC2.out okC.hd.1 7 _ v.cells rfl rfl rfl (by exact(by decide:7+5≤17)) (by kernel_rfl) rfl ?_
     intro w3 hB3 hm3
     have HC3:=hD hB3
     have HM3:=hD (HM2.out.trans (hm3.mono (fun n _ e=>by have h2:n=X:=e;rw[h2];exact HC2.out.F1)))
     clear hB3 hm3)
  | ((with_reducible refine at_store 3 ?_);refine st_hd rfl rfl 3 _ _ rfl F X g (C.sethr 7 v.cells.toList) HC3.out hl7 12 _ #[.int .i64 v.at_] rfl rfl rfl (by exact(by decide:12+1≤17)) (by kernel_rfl) rfl ?_
     intro w4 hB4 hm4
     have HC4:=hD (show BrG w4 F X g B1 by rw[HVE.out];exact hB4)
     have HM4:=hD (HM3.out.trans (hm4.mono (fun n _ e=>by have h2:n=X:=e;rw[h2];exact HC3.out.F1)))
     clear hB4 hm4))
 refine(HRT.out _ HC4.out).mono ?_
 rintro e w5 ⟨rfl,hx⟩
 have HC5:=hD (HC4.out.ext hx)
 have HM5:=hD (HM4.out.trans (hx.mut F))
 clear hx
 go_upto_region 6 with (first
  | fail
  | ((with_reducible refine at_store 24 ?_);refine st_hd rfl rfl 24 _ _ rfl F X g B1 HC5.out hl1 13 _ rt.toArray rfl rfl rfl (by rw[List.size_toArray,hz2];decide) (by rw[List.size_toArray,hz2];kernel_rfl) HT2.out ?_
     intro w6 hB6 hm6
     have HC6:=hD (show BrG w6 F X g D by rw[HB2.out];exact hB6)
     have HM6:=hD (HM5.out.trans (hm6.mono (fun n _ e=>by have h2:n=X:=e;rw[h2];exact HC5.out.F1)))
     obtain⟨cap,c17,hca,hcb⟩:=HC6.out.cell17 ok2
     rw[np2]at c17 hca
     clear hB6 hm6))
 go_loopw [31] (fun v wr=>∃n:Nat,n≤B.np∧v=.int .i64 n∧BrG wr F X g (psel D n)∧Mut F w wr) (fun v _=>B.np - (intOf v).toNat)
 case atStart=>exact⟨0,by omega,rfl,HC6.out,HM6.out⟩
 case round =>
  clear c17
  obtain⟨n,hn2,rfl,hB,hm⟩:=hrel
  have HB:=hD hB
  have HM:=hD hm
  clear hB hm
  have okn:=psel_ok ok2 n (by omega)
  have npn:(psel D n).np=B.np:=(psel_np D n).trans np2
  by_cases hlt:n<B.np
  ·have hkn:n<(psel D n).np:=by rw[npn];exact hlt
   have hn8:n<1000:=by omega
   obtain⟨hX,hg,hne⟩:=HB.out.lt
   obtain⟨cap2,c17,hc3,hc4⟩:=HB.out.cell17 okn
   rw[npn]at c17 hc3
   have x0:wr.cell? ⟨X,0,none⟩=some (.int .u64 (D.hi 0)):=by
    have:=(HB.out.cellX okn (i:=0) (by decide)).trans (okn.hi 0 rfl)
    rw[psel_hi]at this
    exact this
   have x4:wr.cell? ⟨X,4,none⟩=some (.int .i64 (D.hi 4)):=by
    have:=(HB.out.cellX okn (i:=4) (by decide)).trans (okn.hi 4 rfl)
    rw[psel_hi]at this
    exact this
   have x7:wr.cell? ⟨X,7,none⟩=some (.int .u64 (D.hi 7)):=by
    have:=(HB.out.cellX okn (i:=7) (by decide)).trans (okn.hi 7 rfl)
    rw[psel_hi]at this
    exact this
   have x8:wr.cell? ⟨X,8,none⟩=some (.int .u32 (D.hi 8)):=by
    have:=(HB.out.cellX okn (i:=8) (by decide)).trans (okn.hi 8 rfl)
    rw[psel_hi]at this
    exact this
   have x12:wr.cell? ⟨X,12,none⟩=some (.int .i64 (D.hi 12)):=by
    have:=(HB.out.cellX okn (i:=12) (by decide)).trans (okn.hi 12 rfl)
    rw[psel_hi]at this
    exact this
   have x13:wr.cell? ⟨X,13,none⟩=some (.int .i64 (D.hi 13)):=by
    have:=(HB.out.cellX okn (i:=13) (by decide)).trans (okn.hi 13 rfl)
    rw[psel_hi]at this
    exact this
   have x14:wr.cell? ⟨X,14,none⟩=some (.int .i64 (D.hi 14)):=by
    have:=(HB.out.cellX okn (i:=14) (by decide)).trans (okn.hi 14 rfl)
    rw[psel_hi]at this
    exact this
   have x15:wr.cell? ⟨X,15,none⟩=some (.int .i64 (D.hi 15)):=by
    have:=(HB.out.cellX okn (i:=15) (by decide)).trans (okn.hi 15 rfl)
    rw[psel_hi]at this
    exact this
   have x16:wr.cell? ⟨X,16,none⟩=some (.int .i64 (D.hi 16)):=by
    have:=(HB.out.cellX okn (i:=16) (by decide)).trans (okn.hi 16 rfl)
    rw[psel_hi]at this
    exact this
   have HS:=hD (show psel D (n+1)=(psel D n).setPort n ((chL n (D.hi 12) (D.hi 0) (tellL D (port (psel D n).ps n))).set 44 (.bool true))from rfl)
   have hPz:=HB.out.pv (k:=n) hkn
   have hT:=br_typed okn hkn
   obtain⟨L,hL⟩:∃L,port (psel D n).ps n=L:=⟨_,rfl⟩
   rw[hL]at HS hPz hT
   clear hL
   have gid:=wf_u64 (ok2.hw 0 (K:=.u64) rfl)
   have HLEN:=hD (tpL hT)
   have HL_0:=hD (tpI hT 0 rfl)
   have HT:=hD (tellL_typed ok2 hT)
   have hG:=hPz.lt
   have hP_wr:Pv wr g (n*89) L:=hPz
   clear hPz hT
   go_wp2_with fail
   refine beginW (S:=fun W'=>Ext wr W') (S2:=fun W'=>Pm g (n*89) wr W') 22 (by kernel_rfl) ?_
   intro wd hqx
   have hq0:Ext wr wd:=hqx
   refine tWp 0 22 ((.pointer (some ⟨g,(n*89),none⟩))) rfl rfl hq0 ?_
   refine tWp 1 22 ((.pointer (some ⟨X,0,none⟩))) rfl rfl hq0 ?_
   refine tWp 2 22 ((.pointer (some ⟨X,0,none⟩))) rfl rfl hq0 ?_
   refine tWp 3 22 ((.pointer (some ⟨X,7,none⟩))) rfl rfl hq0 ?_
   refine tWp 4 22 ((.pointer (some ⟨X,7,none⟩))) rfl rfl hq0 ?_
   refine tW 5 22 (_) rfl rfl (yieldsIf_cell rfl 22 _ rfl ⟨X,7,none⟩ rfl (.int .u64 (D.hi 7)) _ (fun W' hW'=>(hW'.cell (p:=⟨X,7,none⟩) hX).trans x7) Tryz.underlying22 rfl) hq0 ?_
   refine tWp 6 22 ((.pointer (some ⟨X,0,none⟩))) rfl rfl hq0 ?_
   refine tWp 7 22 ((.pointer (some ⟨X,0,none⟩))) rfl rfl hq0 ?_
   refine tWp 8 22 ((.pointer (some ⟨X,7,none⟩))) rfl rfl hq0 ?_
   refine tWp 9 22 ((.pointer (some ⟨X,8,none⟩))) rfl rfl hq0 ?_
   refine tW 10 22 (_) rfl rfl (yieldsIf_cell rfl 27 _ rfl ⟨X,8,none⟩ rfl (.int .u32 (D.hi 8)) _ (fun W' hW'=>(hW'.cell (p:=⟨X,8,none⟩) hX).trans x8) Tryz.underlying27 rfl) hq0 ?_
   refine tWp 11 22 ((.pointer (some ⟨X,0,none⟩))) rfl rfl hq0 ?_
   refine tWp 12 22 ((.pointer (some ⟨X,0,none⟩))) rfl rfl hq0 ?_
   refine tWp 13 22 ((.pointer (some ⟨X,0,none⟩))) rfl rfl hq0 ?_
   refine tW 14 22 (_) rfl rfl (yieldsIf_cell rfl 22 _ rfl ⟨X,0,none⟩ rfl (.int .u64 (D.hi 0)) _ (fun W' hW'=>(hW'.cell (p:=⟨X,0,none⟩) hX).trans x0) Tryz.underlying22 rfl) hq0 ?_
   refine tWp 15 22 ((.pointer (some ⟨g,(n*89),none⟩))) rfl rfl hq0 ?_
   refine tWp 16 22 ((.pointer (some ⟨g,(n*89),none⟩))) rfl rfl hq0 ?_
   refine tWp 17 22 ((.pointer (some ⟨g,(n*89),none⟩))) rfl rfl hq0 ?_
   refine tW 18 22 (_) rfl rfl (yieldsIf_cell rfl 28 _ rfl ⟨g,(n*89),none⟩ rfl (.int .u16 (pI L 0)) _ (fun W' hW'=>((hP_wr.ext hW').cell (j:=0) (by decide)).trans HL_0.out) Tryz.underlying28 rfl) hq0 ?_
   refine tW 19 22 ((.agg #[.int .u64 (D.hi 7),.int .u32 (D.hi 8),.int .u64 (D.hi 0),.int .u16 (pI L 0),.int .u16 0])) rfl rfl (yieldsIf_build rfl 30 _ rfl [(0,.int .u64 (D.hi 7)),(1,.int .u32 (D.hi 8)),(2,.int .u64 (D.hi 0)),(3,.int .u16 (pI L 0))] rfl #[.int .u64 (D.hi 7),.int .u32 (D.hi 8),.int .u64 (D.hi 0),.int .u16 (pI L 0),.int .u16 0] (by kernel_rfl)) hq0 ?_
   refine tVp 20 22 ((.pointer (some ⟨g,(n*89),none⟩))) rfl hq0 ?_
   refine tWp 21 22 ((.pointer (some ⟨g,(n*89)+73,none⟩))) rfl rfl hq0 ?_
   refine runWl (z:=22) rfl rfl (by kernel_rfl) (fun K hK=>?_)
   refine wp_st_pv rfl 30 _ _ rfl g (n*89) 73 _ (hP_wr.ext hq0) _ #[.int .u64 (D.hi 7),.int .u32 (D.hi 8),.int .u64 (D.hi 0),.int .u16 (pI L 0),.int .u16 0] rfl rfl rfl (by exact(by decide:73+5≤89)) (by kernel_rfl) rfl (fun ws22 hp22 hm22=>?_)
   have hr22:Pm g (n*89) wr ws22:=(Ext.pm hq0 g (n*89)).trans hm22
   refine hK.out _ _ hr22 (fun _=>?_)
   try simp only[ps]
   clear hK K
   refine wpAnyH_done (by kernel_rfl) ?_ _
   generalize ws22=z1 at *
   have hP_z1:Pv z1 g (n*89) (setL L 73 [.int .u64 (D.hi 7),.int .u32 (D.hi 8),.int .u64 (D.hi 0),.int .u16 (pI L 0),.int .u16 0]):=hp22
   have E_z1:Pm g (n*89) wr z1:=(Ext.pm hq0 g (n*89)).trans hm22
   clear hP_wr
   clear hq0 hqx hm22 hp22 hr22
   have RXz:=hD (show z1.rangeAt X 13 [.int .i64 (D.hi 13),.int .i64 (D.hi 14),.int .i64 (D.hi 15),.int .i64 (D.hi 16)]from(rcons ((E_z1.1.cell (p:=⟨X,13,none⟩) hX hne).trans x13) (rcons ((E_z1.1.cell (p:=⟨X,14,none⟩) hX hne).trans x14) (rcons ((E_z1.1.cell (p:=⟨X,15,none⟩) hX hne).trans x15) (rcons ((E_z1.1.cell (p:=⟨X,16,none⟩) hX hne).trans x16) rnil)))))
   go_wp2_with (first
    | fail
    | ((with_reducible refine at_load 24 ?_);refine wpList_load_mid rfl 24 _ rfl X 13 rfl [.int .i64 (D.hi 13),.int .i64 (D.hi 14),.int .i64 (D.hi 15),.int .i64 (D.hi 16)] _ RXz.out Tryz.underlying24 rfl (by kernel_rfl) ?_)
    | ((with_reducible refine at_store 24 ?_);refine st_pv rfl rfl 24 _ _ rfl g (n*89) 82 _ hP_z1 _ #[.int .i64 (D.hi 13),.int .i64 (D.hi 14),.int .i64 (D.hi 15),.int .i64 (D.hi 16)] rfl rfl rfl (by exact(by decide:82+4≤89)) (by kernel_rfl) rfl ?_
       intro z2 hp hm
       have hP_z2:Pv z2 g (n*89) (setL (setL L 73 [.int .u64 (D.hi 7),.int .u32 (D.hi 8),.int .u64 (D.hi 0),.int .u16 (pI L 0),.int .u16 0]) 82 [.int .i64 (D.hi 13),.int .i64 (D.hi 14),.int .i64 (D.hi 15),.int .i64 (D.hi 16)]):=hp
       have E_z2:Pm g (n*89) wr z2:=E_z1.trans hm
       clear hP_z1 E_z1
       clear hp hm
       have x4z:z2.cell? ⟨X,4,none⟩=some (.int .i64 (D.hi 4)):=(E_z2.1.cell (p:=⟨X,4,none⟩) hX hne).trans x4)
    | ((with_reducible refine at_store 3 ?_);refine st_pv rfl rfl 3 _ _ rfl g (n*89) 84 _ hP_z2 _ #[.int .i64 (D.hi 4)] rfl rfl rfl (by exact(by decide:84+1≤89)) (by kernel_rfl) rfl ?_
       intro z3 hp hm
       replace hp:=pv_one hp (len_setL (len_setL HLEN.out (by exact(by decide:73+5≤89))) (by exact(by decide:82+4≤89))) (by decide)
       have hP_z3:=hp
       have E_z3:Pm g (n*89) wr z3:=E_z2.trans hm
       clear hP_z2 E_z2
       clear hp hm))
   have hP_z3:Pv z3 g (n*89) (tellL D L):=hP_z3
   refine(choose_any g n _ hP_z3 HT.out X (D.hi 0) (D.hi 12) B.np cap2 ((E_z3.1.cell (p:=⟨X,0,none⟩) hX hne).trans x0) ((E_z3.1.cell (p:=⟨X,12,none⟩) hX hne).trans x12) ((E_z3.1.cell (p:=⟨X,17,none⟩) hX hne).trans c17) (nL hX E_z3.1.size) hne hlt hn gid).mono ?_
   rintro e z4 ⟨rfl,hp,hm⟩
   have hP_z4:Pv z4 g (n*89) (chL n (D.hi 12) (D.hi 0) (tellL D L)):=hp
   have E_z4:Pm g (n*89) wr z4:=E_z3.trans hm
   clear hP_z3 E_z3
   clear hp hm
   obtain⟨M,hM⟩:∃M,chL n (D.hi 12) (D.hi 0) (tellL D L)=M:=⟨_,rfl⟩
   rw[hM]at hP_z4 HS
   clear hM
   have HLEN:=hD hP_z4.len
   go_wp2_with (first
    | fail
    | ((with_reducible refine at_store 4 ?_);refine st_pv rfl rfl 4 _ _ rfl g (n*89) 44 _ hP_z4 _ #[.bool true] rfl rfl rfl (by exact(by decide:44+1≤89)) (by kernel_rfl) rfl ?_
       intro z5 hp hm
       replace hp:=pv_one hp HLEN.out (by decide)
       have hP_z5:=hp
       have E_z5:Pm g (n*89) wr z5:=E_z4.trans hm
       clear hP_z4 E_z4
       clear hp hm))
   have hBn:=HB.out.pm (k:=n) hkn E_z5 hP_z5
   have HBn:=hD hBn
   have HMn:=hD (HM.out.trans (E_z5.mutF (F:=F) HB.out.F2))
   clear hBn
   go_roundw
   case rel=>exact⟨n+1,by omega,by go_num,by rw[HS.out];exact HBn.out,HMn.out⟩
   case measure=>simp[intOf];omega
  ·obtain rfl:n=B.np:=by omega
   go_wp2_with fail
   go_ret
   rw[HRS.out]
   exact⟨rfl,HB.out,HM.out⟩
def rxSel(en bpdu msg:Bool)(ed rx:Int):Nat :=
 if(!en && (bpdu || (ed != 3)))=true then 1 else if(!en || !bpdu)=true then 0 else if(rx == 0 || ((rx == 1) && !msg))=true then 2 else 0
def rxFun(n:Nat)(p:Value):Value:=if n=1 then .func (.func 68) #[.agg #[p]] #[]else if n=2 then .func (.func 69) #[.agg #[p]] #[]else Value.nilFunc
theorem rx_row(g o:Nat)(w:World)(en bpdu msg:Bool)(ed rx:Int)(fl:List Value)(h2:w.cell? ⟨g,o+2,none⟩=some (.bool en))(h6:w.cell? ⟨g,o+6,none⟩=some (.int .i64 ed))(h15:w.cell? ⟨g,o+15,none⟩=some (.int .i64 rx))(hfl:w.rangeAt g (o+22) fl)(hfn:fl.length=29)(hone:∀v∈fl,v.oneCell'=true)(f13:fl[13]?=some (.bool bpdu))(f14:fl[14]?=some (.bool msg))(hg:g<w.heap.size):
    Calls Tryz.prog 51 #[.agg #[.pointer (some ⟨g,o,none⟩)]] w fun e w'=>e=.returned (rxFun (rxSel en bpdu msg ed rx) (.pointer (some ⟨g,o,none⟩)))∧Ext w w':=by
 have HF:=hD hfl
 have HO:=hD hone
 have HN:=hD hfn
 have F13:=hD f13
 have F14:=hD f14
 have H2:=hD h2
 have H6:=hD h6
 have H15:=hD h15
 clear hfl hone hfn f13 f14 h2 h6 h15
 go_enter Tryz.func51,Tryz.ntmps51
 go_wp2
 have hw0:=(Ext.refl w).alloc (.cells #[.pointer (some ⟨g,o,none⟩)] 98)
 have z0:(w.alloc (.cells #[.pointer (some ⟨g,o,none⟩)] 98)).cell? ⟨w.heap.size,0,none⟩=some (.pointer (some ⟨g,o,none⟩)):=(World.cell?_alloc_at _ _ _ _ rfl).trans rfl
 have hb0:w.heap.size<(w.alloc (.cells #[.pointer (some ⟨g,o,none⟩)] 98)).heap.size:=by simp
 generalize w.alloc (.cells #[.pointer (some ⟨g,o,none⟩)] 98)=wz at *
 obtain⟨b0,hb00⟩:∃b,w.heap.size=b:=⟨_,rfl⟩
 rw[hb00]at z0 hb0 ⊢
 have hgz:g<wz.heap.size:=nL hg hw0.size
 have hfl:=rangeAt_ext HF.out hw0 hg
 have h15:=(hw0.cell (p:=⟨g,o+15,none⟩) hg).trans H15.out
 have hfn:=HN.out
 have hone:=HO.out
 have hfi:(Tryz.prog.info? 58).map (·.size)=some fl.length:=by rw[hfn];exact size_flags
 refine beginL (S:=fun W'=>Ext wz W') (by kernel_rfl) ?_
 intro wd hrf
 refine tLp 0 ((.pointer (some ⟨b0,0,none⟩))) rfl hrf ?_
 refine tL 1 (_) rfl (yieldsIf_cell rfl 79 _ rfl ⟨b0,0,none⟩ rfl (.pointer (some ⟨g,o,none⟩)) _ (fun W' hW'=>(hW'.cell (p:=⟨b0,0,none⟩) hb0).trans z0) Tryz.underlying79 rfl) hrf ?_
 refine tLp 2 ((.pointer (some ⟨g,o,none⟩))) rfl hrf ?_
 refine tLp 3 ((.pointer (some ⟨g,o+22,none⟩))) rfl hrf ?_
 refine tL 4 (_) rfl (yieldsIf_load_mid rfl 58 _ rfl g (o+22) rfl (fl) _ (fun W' hW'=>rangeAt_ext hfl hW' hgz) Tryz.underlying58 rfl hfi) hrf ?_
 refine tLp 5 ((.pointer (some ⟨b0,0,none⟩))) rfl hrf ?_
 refine tL 6 (_) rfl (yieldsIf_cell rfl 79 _ rfl ⟨b0,0,none⟩ rfl (.pointer (some ⟨g,o,none⟩)) _ (fun W' hW'=>(hW'.cell (p:=⟨b0,0,none⟩) hb0).trans z0) Tryz.underlying79 rfl) hrf ?_
 refine tLp 7 ((.pointer (some ⟨g,o,none⟩))) rfl hrf ?_
 refine tLp 8 ((.pointer (some ⟨g,o+15,none⟩))) rfl hrf ?_
 refine tLp 9 ((.pointer (some ⟨g,o+15,none⟩))) rfl hrf ?_
 refine tL 10 (_) rfl (yieldsIf_cell rfl 3 _ rfl ⟨g,o+15,none⟩ rfl (.int .i64 rx) _ (fun W' hW'=>(hW'.cell (p:=⟨g,o+15,none⟩) hgz).trans h15) Tryz.underlying3 rfl) hrf ?_
 refine runL (i:=11) rfl rfl (by kernel_rfl) (fun K hK=>?_)
 refine wp_alloc_zero 58 rfl FZ (zero_flags _) ?_
 refine hK.out _ _ (hrf.alloc _) (fun hHeld=>?_)
 try simp only[ps]
 clear hK K
 refine runL (i:=12) rfl rfl (by kernel_rfl) (fun K hK=>?_)
 refine wp_store_row 58 _ _ rfl wd.heap.size _ FZ fl.toArray rfl rfl (heap_alloc_new _ _) (by rw[List.size_toArray];exact hfi) (by rw[List.size_toArray];exact hfn.symm) (all_oneCell_toArray hone) ?_
 refine hK.out _ _ (ext_setRow (hrf.alloc _) hrf.size _) (fun hHeld=>?_)
 try simp only[ps]
 clear hK K
 refine tLp 13 ((.int .i64 rx)) rfl hHeld ?_
 refine wpAnyH_done (by kernel_rfl) ?_ _
 have hX:=setRow_heap _ _ _ fl.toArray _ _ (heap_alloc_new wd (.cells FZ 58))
 generalize hw2:(wd.alloc (.cells FZ 58)).setRow wd.heap.size fl.toArray=w2 at *
 have hE:=Ext.trans hw0 hHeld
 have y0:=(hHeld.cell (p:=⟨b0,0,none⟩) hb0).trans z0
 have q2:=(hE.cell (p:=⟨g,o+2,none⟩) hg).trans H2.out
 have q6:=(hE.cell (p:=⟨g,o+6,none⟩) hg).trans H6.out
 have q13:w2.cell? ⟨wd.heap.size,13,none⟩=some (.bool bpdu):=by rw[cell_of_row _ _ _ _ _ _ hX];simpa using F13.out
 have q14:w2.cell? ⟨wd.heap.size,14,none⟩=some (.bool msg):=by rw[cell_of_row _ _ _ _ _ _ hX];simpa using F14.out
 generalize wd.heap.size=n1 at *
 have HE:=hD hE
 clear hHeld hE z0 hfl h15 hfn hone hfi hrf hX hw0 hb0 hgz hw2
 go_wp2
 all_goals
  go_ret
  refine⟨?_,HE.out⟩
  simp_all[rxSel,rxFun]
def rxDisc(B:Br)(k:Nat):Br:=((((((B.setp k 35 (.bool false)).setp k 37 (.bool false)).setp k 38 (.bool false)).setp k 36 (.bool false)).setp k 6 (.int .i64 3)).setp k 15 (.int .i64 0))
def rxRcvR(B:Br)(k:Nat):Br:=((((((B.setp k 37 (.bool true)).setp k 32 (.bool false)).setp k 35 (.bool false)).setp k 36 (.bool true)).setp k 6 (.int .i64 3)).setp k 15 (.int .i64 1))
def rxRcvS(B:Br)(k:Nat):Br:=((((((B.setp k 38 (.bool true)).setp k 32 (.bool false)).setp k 35 (.bool false)).setp k 36 (.bool true)).setp k 6 (.int .i64 3)).setp k 15 (.int .i64 1))
def rxRcv(B:Br)(k:Nat):Br:=if B.gi k 51=2 then rxRcvR B k else rxRcvS B k
def rxS(B:Br)(k:Nat):Nat:=rxSel (B.gb k 2) (B.gb k 35) (B.gb k 36) (B.gi k 6) (B.gi k 15)
def rxF(B:Br)(k:Nat):Bool × Br:=if rxS B k=1 then(true,rxDisc B k)else if rxS B k=2 then(true,rxRcv B k)else(false,B)
theorem fn_eq(f:FuncId)(cs:Array Value)(w:World):(binOp BinOp.eql 1 (Value.func (Fn.func f) cs #[]) Value.nilFunc).run Tryz.prog w=.ok (.bool false) w:=by kernel_rfl
theorem fn_eq0(w:World):(binOp BinOp.eql 1 Value.nilFunc Value.nilFunc).run Tryz.prog w=.ok (.bool true) w:=by kernel_rfl
theorem rx_discard(w:World)(g o:Nat)(u35 u37 u38 u36 u6 u15:Value)(h35:w.cell? ⟨g,o+35,none⟩=some u35)(h37:w.cell? ⟨g,o+37,none⟩=some u37)(h38:w.cell? ⟨g,o+38,none⟩=some u38)(h36:w.cell? ⟨g,o+36,none⟩=some u36)(h6:w.cell? ⟨g,o+6,none⟩=some u6)(h15:w.cell? ⟨g,o+15,none⟩=some u15)(hf:∀j,w.frozen? ⟨g,j,none⟩=false)(hg:g<w.heap.size):Calls Tryz.prog 68 #[.agg #[.pointer (some ⟨g,o,none⟩)]] w fun e w'=>e=.returned (.tuple #[])∧w'=((((((w.setCell ⟨g,o+35,none⟩ (.bool false)).setCell ⟨g,o+37,none⟩ (.bool false)).setCell ⟨g,o+38,none⟩ (.bool false)).setCell ⟨g,o+36,none⟩ (.bool false)).setCell ⟨g,o+6,none⟩ (.int .i64 3)).setCell ⟨g,o+15,none⟩ (.int .i64 0)).alloc (.cells #[.pointer (some ⟨g,o,none⟩)] 98):=by
 have hn1:w.heap.size≠g:=by omega
 have hn2:g≠w.heap.size:=by omega
 go_enter Tryz.func68,Tryz.ntmps68
 go_wp2
 go_end0
 exact⟨rfl,rfl⟩
theorem rx_receiveR(w:World)(g o:Nat)(u37 u32 u35 u36 u6 u15:Value)(m:Int)(hm:m=2)(h37:w.cell? ⟨g,o+37,none⟩=some u37)(h32:w.cell? ⟨g,o+32,none⟩=some u32)(h35:w.cell? ⟨g,o+35,none⟩=some u35)(h36:w.cell? ⟨g,o+36,none⟩=some u36)(h6:w.cell? ⟨g,o+6,none⟩=some u6)(h15:w.cell? ⟨g,o+15,none⟩=some u15)(h51:w.cell? ⟨g,o+51,none⟩=some (.int .i64 m))(hf:∀j,w.frozen? ⟨g,j,none⟩=false)(hg:g<w.heap.size):Calls Tryz.prog 69 #[.agg #[.pointer (some ⟨g,o,none⟩)]] w fun e w'=>e=.returned (.tuple #[])∧w'=((((((w.setCell ⟨g,o+37,none⟩ (.bool true)).setCell ⟨g,o+32,none⟩ (.bool false)).setCell ⟨g,o+35,none⟩ (.bool false)).setCell ⟨g,o+36,none⟩ (.bool true)).setCell ⟨g,o+6,none⟩ (.int .i64 3)).setCell ⟨g,o+15,none⟩ (.int .i64 1)).alloc (.cells #[.pointer (some ⟨g,o,none⟩)] 98):=by
 have hn1:w.heap.size≠g:=by omega
 have hn2:g≠w.heap.size:=by omega
 subst hm
 go_enter Tryz.func69,Tryz.ntmps69
 go_wp2
 go_end0
 exact⟨rfl,rfl⟩
theorem rx_receiveS(w:World)(g o:Nat)(u38 u32 u35 u36 u6 u15:Value)(m:Int)(hm:(m == 2)=false)(h38:w.cell? ⟨g,o+38,none⟩=some u38)(h32:w.cell? ⟨g,o+32,none⟩=some u32)(h35:w.cell? ⟨g,o+35,none⟩=some u35)(h36:w.cell? ⟨g,o+36,none⟩=some u36)(h6:w.cell? ⟨g,o+6,none⟩=some u6)(h15:w.cell? ⟨g,o+15,none⟩=some u15)(h51:w.cell? ⟨g,o+51,none⟩=some (.int .i64 m))(hf:∀j,w.frozen? ⟨g,j,none⟩=false)(hg:g<w.heap.size):Calls Tryz.prog 69 #[.agg #[.pointer (some ⟨g,o,none⟩)]] w fun e w'=>e=.returned (.tuple #[])∧w'=((((((w.setCell ⟨g,o+38,none⟩ (.bool true)).setCell ⟨g,o+32,none⟩ (.bool false)).setCell ⟨g,o+35,none⟩ (.bool false)).setCell ⟨g,o+36,none⟩ (.bool true)).setCell ⟨g,o+6,none⟩ (.int .i64 3)).setCell ⟨g,o+15,none⟩ (.int .i64 1)).alloc (.cells #[.pointer (some ⟨g,o,none⟩)] 98):=by
 have hn1:w.heap.size≠g:=by omega
 have hn2:g≠w.heap.size:=by omega
 go_enter Tryz.func69,Tryz.ntmps69
 go_wp2
 go_end0
 exact⟨rfl,rfl⟩
theorem rx_step0(w:World)(F:Nat→Prop)(X g k:Nat)(B:Br)(h:BrG w F X g B)(ho:B.ok)(hk:k<B.np)(hk2:k<1000)(hs:rxS B k=0):
    Calls Tryz.prog 37 #[.pointer (some ⟨X,0,none⟩),.int .i64 k] w (Stepped w F X g (false,B)):=by
 obtain⟨hX,hg,hne⟩:=h.lt
 obtain⟨cap,c17,hc1,hc2⟩:=h.cell17 ho
 have hr:=(rx_row g (k*89) w (B.gb k 2) (B.gb k 35) (B.gb k 36) (B.gi k 6) (B.gi k 15) (flagsOf B.ps k) ((h.cellg (i:=k*89+2) (lt89 hk (by decide))).trans (ho.gb hk 2 rfl)) ((h.cellg (i:=k*89+6) (lt89 hk (by decide))).trans (ho.gi hk 6 rfl)) ((h.cellg (i:=k*89+15) (lt89 hk (by decide))).trans (ho.gi hk 15 rfl))
  (h.flags hk) (flagsOf_len ho hk) (flagsOf_one ho k) ((flagsOf_at (B:=B) (k:=k) (j:=13) (by decide)).trans (ho.gb hk 35 rfl)) ((flagsOf_at (B:=B) (k:=k) (j:=14) (by decide)).trans (ho.gb hk 36 rfl)) hg)
 rw[show rxSel (B.gb k 2) (B.gb k 35) (B.gb k 36) (B.gi k 6) (B.gi k 15)=0 from hs]at hr
 have HR:=hD hr
 have H:=hD h
 have HS:=hD hs
 clear h hr hs
 go_enter Tryz.func37,Tryz.ntmps37
 go_wp2_with fail
 refine(asv (v':=rxFun 0 (.pointer (some ⟨g,k*89,none⟩))) HR.out rfl).mono ?_
 rintro e w1 ⟨rfl,hx1⟩
 have H1:=hD (H.out.ext hx1)
 have HM:=hD (hx1.mut F)
 clear hx1 c17 HR
 unfold rxFun
 have q0:=fn_eq0
 have q1:=fn_eq 68
 have q2:=fn_eq 69
 go_wp2_with fail
 go_ret
 exact⟨rfl,H1.out,HM.out⟩
theorem rx_discardB(w:World)(F:Nat→Prop)(X g k:Nat)(B:Br)(h:BrG w F X g B)(ho:B.ok)(hk:k<B.np)(hk2:k<1000):Calls Tryz.prog 68 #[.agg #[.pointer (some ⟨g,k*89,none⟩)]] w fun e w'=>e=.returned (.tuple #[])∧BrG w' F X g (rxDisc B k)∧Mut F w w':=by
 refine(rx_discard w g (k*89) _ _ _ _ _ _  ((h.cellg (i:=k*89+35) (lt89 hk (by decide))).trans (ho.gb hk 35 rfl)) ((h.cellg (i:=k*89+37) (lt89 hk (by decide))).trans (ho.gb hk 37 rfl)) ((h.cellg (i:=k*89+38) (lt89 hk (by decide))).trans (ho.gb hk 38 rfl)) ((h.cellg (i:=k*89+36) (lt89 hk (by decide))).trans (ho.gb hk 36 rfl)) ((h.cellg (i:=k*89+6) (lt89 hk (by decide))).trans (ho.gi hk 6 rfl)) ((h.cellg (i:=k*89+15) (lt89 hk (by decide))).trans (ho.gi hk 15 rfl)) h.frozen h.lt.2.1).mono ?_
 rintro e w' ⟨rfl,rfl⟩
 exact⟨rfl,((((((h.setp (j:=35) hk (by decide) (.bool false)).setp (j:=37) hk (by decide) (.bool false)).setp (j:=38) hk (by decide) (.bool false)).setp (j:=36) hk (by decide) (.bool false)).setp (j:=6) hk (by decide) (.int .i64 3)).setp (j:=15) hk (by decide) (.int .i64 0)).alloc _,(((((((Mut.refl F w).setCell (.inl h.F2) _).setCell (.inl h.F2) _).setCell (.inl h.F2) _).setCell (.inl h.F2) _).setCell (.inl h.F2) _).setCell (.inl h.F2) _).alloc _⟩
theorem rx_receiveRB(w:World)(F:Nat→Prop)(X g k:Nat)(B:Br)(h:BrG w F X g B)(ho:B.ok)(hk:k<B.np)(hk2:k<1000)(hm:B.gi k 51=2):Calls Tryz.prog 69 #[.agg #[.pointer (some ⟨g,k*89,none⟩)]] w fun e w'=>e=.returned (.tuple #[])∧BrG w' F X g (rxRcvR B k)∧Mut F w w':=by
 refine(rx_receiveR w g (k*89) _ _ _ _ _ _ _ hm ((h.cellg (i:=k*89+37) (lt89 hk (by decide))).trans (ho.gb hk 37 rfl)) ((h.cellg (i:=k*89+32) (lt89 hk (by decide))).trans (ho.gb hk 32 rfl)) ((h.cellg (i:=k*89+35) (lt89 hk (by decide))).trans (ho.gb hk 35 rfl)) ((h.cellg (i:=k*89+36) (lt89 hk (by decide))).trans (ho.gb hk 36 rfl)) ((h.cellg (i:=k*89+6) (lt89 hk (by decide))).trans (ho.gi hk 6 rfl)) ((h.cellg (i:=k*89+15) (lt89 hk (by decide))).trans (ho.gi hk 15 rfl)) ((h.cellg (i:=k*89+51) (lt89 hk (by decide))).trans (ho.gi hk 51 rfl)) h.frozen h.lt.2.1).mono ?_
 rintro e w' ⟨rfl,rfl⟩
 exact⟨rfl,((((((h.setp (j:=37) hk (by decide) (.bool true)).setp (j:=32) hk (by decide) (.bool false)).setp (j:=35) hk (by decide) (.bool false)).setp (j:=36) hk (by decide) (.bool true)).setp (j:=6) hk (by decide) (.int .i64 3)).setp (j:=15) hk (by decide) (.int .i64 1)).alloc _,(((((((Mut.refl F w).setCell (.inl h.F2) _).setCell (.inl h.F2) _).setCell (.inl h.F2) _).setCell (.inl h.F2) _).setCell (.inl h.F2) _).setCell (.inl h.F2) _).alloc _⟩
theorem rx_receiveSB(w:World)(F:Nat→Prop)(X g k:Nat)(B:Br)(h:BrG w F X g B)(ho:B.ok)(hk:k<B.np)(hk2:k<1000)(hm:(B.gi k 51 == 2)=false):Calls Tryz.prog 69 #[.agg #[.pointer (some ⟨g,k*89,none⟩)]] w fun e w'=>e=.returned (.tuple #[])∧BrG w' F X g (rxRcvS B k)∧Mut F w w':=by
 refine(rx_receiveS w g (k*89) _ _ _ _ _ _ _ hm ((h.cellg (i:=k*89+38) (lt89 hk (by decide))).trans (ho.gb hk 38 rfl)) ((h.cellg (i:=k*89+32) (lt89 hk (by decide))).trans (ho.gb hk 32 rfl)) ((h.cellg (i:=k*89+35) (lt89 hk (by decide))).trans (ho.gb hk 35 rfl)) ((h.cellg (i:=k*89+36) (lt89 hk (by decide))).trans (ho.gb hk 36 rfl)) ((h.cellg (i:=k*89+6) (lt89 hk (by decide))).trans (ho.gi hk 6 rfl)) ((h.cellg (i:=k*89+15) (lt89 hk (by decide))).trans (ho.gi hk 15 rfl)) ((h.cellg (i:=k*89+51) (lt89 hk (by decide))).trans (ho.gi hk 51 rfl)) h.frozen h.lt.2.1).mono ?_
 rintro e w' ⟨rfl,rfl⟩
 exact⟨rfl,((((((h.setp (j:=38) hk (by decide) (.bool true)).setp (j:=32) hk (by decide) (.bool false)).setp (j:=35) hk (by decide) (.bool false)).setp (j:=36) hk (by decide) (.bool true)).setp (j:=6) hk (by decide) (.int .i64 3)).setp (j:=15) hk (by decide) (.int .i64 1)).alloc _,(((((((Mut.refl F w).setCell (.inl h.F2) _).setCell (.inl h.F2) _).setCell (.inl h.F2) _).setCell (.inl h.F2) _).setCell (.inl h.F2) _).setCell (.inl h.F2) _).alloc _⟩
theorem rx_step1(w:World)(F:Nat→Prop)(X g k:Nat)(B:Br)(h:BrG w F X g B)(ho:B.ok)(hk:k<B.np)(hk2:k<1000)(hs:rxS B k=1):
    Calls Tryz.prog 37 #[.pointer (some ⟨X,0,none⟩),.int .i64 k] w (Stepped w F X g (true,rxDisc B k)):=by
 obtain⟨hX,hg,hne⟩:=h.lt
 obtain⟨cap,c17,hc1,hc2⟩:=h.cell17 ho
 have hr:=(rx_row g (k*89) w (B.gb k 2) (B.gb k 35) (B.gb k 36) (B.gi k 6) (B.gi k 15) (flagsOf B.ps k) ((h.cellg (i:=k*89+2) (lt89 hk (by decide))).trans (ho.gb hk 2 rfl)) ((h.cellg (i:=k*89+6) (lt89 hk (by decide))).trans (ho.gi hk 6 rfl)) ((h.cellg (i:=k*89+15) (lt89 hk (by decide))).trans (ho.gi hk 15 rfl))
  (h.flags hk) (flagsOf_len ho hk) (flagsOf_one ho k) ((flagsOf_at (B:=B) (k:=k) (j:=13) (by decide)).trans (ho.gb hk 35 rfl)) ((flagsOf_at (B:=B) (k:=k) (j:=14) (by decide)).trans (ho.gb hk 36 rfl)) hg)
 rw[show rxSel (B.gb k 2) (B.gb k 35) (B.gb k 36) (B.gi k 6) (B.gi k 15)=1 from hs]at hr
 have HR:=hD hr
 have H:=hD h
 have HS:=hD hs
 clear h hr hs
 go_enter Tryz.func37,Tryz.ntmps37
 go_wp2_with fail
 refine(asv (v':=rxFun 1 (.pointer (some ⟨g,k*89,none⟩))) HR.out rfl).mono ?_
 rintro e w1 ⟨rfl,hx1⟩
 have H1:=hD (H.out.ext hx1)
 have HM:=hD (hx1.mut F)
 clear hx1 c17 HR
 unfold rxFun
 have q0:=fn_eq0
 have q1:=fn_eq 68
 have q2:=fn_eq 69
 go_wp2_with fail
 refine(rx_discardB w1 F X g k B H1.out ho hk hk2).mono ?_
 rintro e w2 ⟨rfl,hB,hm⟩
 have HB:=hD hB
 have HQ:=hD (HM.out.trans hm)
 clear hB hm
 go_wp2_with fail
 go_ret
 exact⟨rfl,HB.out,HQ.out⟩
theorem rx_step2(w:World)(F:Nat→Prop)(X g k:Nat)(B:Br)(h:BrG w F X g B)(ho:B.ok)(hk:k<B.np)(hk2:k<1000)(hs:rxS B k=2):
    Calls Tryz.prog 37 #[.pointer (some ⟨X,0,none⟩),.int .i64 k] w (Stepped w F X g (true,rxRcv B k)):=by
 obtain⟨hX,hg,hne⟩:=h.lt
 obtain⟨cap,c17,hc1,hc2⟩:=h.cell17 ho
 have hr:=(rx_row g (k*89) w (B.gb k 2) (B.gb k 35) (B.gb k 36) (B.gi k 6) (B.gi k 15) (flagsOf B.ps k) ((h.cellg (i:=k*89+2) (lt89 hk (by decide))).trans (ho.gb hk 2 rfl)) ((h.cellg (i:=k*89+6) (lt89 hk (by decide))).trans (ho.gi hk 6 rfl)) ((h.cellg (i:=k*89+15) (lt89 hk (by decide))).trans (ho.gi hk 15 rfl))
  (h.flags hk) (flagsOf_len ho hk) (flagsOf_one ho k) ((flagsOf_at (B:=B) (k:=k) (j:=13) (by decide)).trans (ho.gb hk 35 rfl)) ((flagsOf_at (B:=B) (k:=k) (j:=14) (by decide)).trans (ho.gb hk 36 rfl)) hg)
 rw[show rxSel (B.gb k 2) (B.gb k 35) (B.gb k 36) (B.gi k 6) (B.gi k 15)=2 from hs]at hr
 have HR:=hD hr
 have H:=hD h
 have HS:=hD hs
 clear h hr hs
 go_enter Tryz.func37,Tryz.ntmps37
 go_wp2_with fail
 refine(asv (v':=rxFun 2 (.pointer (some ⟨g,k*89,none⟩))) HR.out rfl).mono ?_
 rintro e w1 ⟨rfl,hx1⟩
 have H1:=hD (H.out.ext hx1)
 have HM:=hD (hx1.mut F)
 clear hx1 c17 HR
 unfold rxFun
 have q0:=fn_eq0
 have q1:=fn_eq 68
 have q2:=fn_eq 69
 go_wp2_with fail
 have hc:Calls Tryz.prog 69 #[.agg #[.pointer (some ⟨g,k*89,none⟩)]] w1 fun e w'=>e=.returned (.tuple #[])∧BrG w' F X g (rxRcv B k)∧Mut F w1 w':=by
  unfold rxRcv
  by_cases hm:B.gi k 51=2
  ·rw[if_pos hm]
   exact rx_receiveRB w1 F X g k B H1.out ho hk hk2 hm
  ·rw[if_neg hm]
   exact rx_receiveSB w1 F X g k B H1.out ho hk hk2 (by simpa using hm)
 refine hc.mono ?_
 rintro e w2 ⟨rfl,hB,hm⟩
 have HB:=hD hB
 have HQ:=hD (HM.out.trans hm)
 clear hB hm hc
 go_wp2_with fail
 go_ret
 exact⟨rfl,HB.out,HQ.out⟩
theorem rx_step(w:World)(F:Nat→Prop)(X g k:Nat)(B:Br)(h:BrG w F X g B)(ho:B.ok)(hk:k<B.np)(hk2:k<1000):
    Calls Tryz.prog 37 #[.pointer (some ⟨X,0,none⟩),.int .i64 k] w (Stepped w F X g (rxF B k)):=by
 have h3:rxS B k=0∨rxS B k=1∨rxS B k=2:=by
  unfold rxS rxSel
  split<;>(try split)<;>(try split)<;>simp
 unfold rxF
 rcases h3 with hs|hs|hs
 ·rw[if_neg (by omega),if_neg (by omega)]
  exact rx_step0 w F X g k B h ho hk hk2 hs
 ·rw[if_pos hs]
  exact rx_step1 w F X g k B h ho hk hk2 hs
 ·rw[if_neg (by omega),if_pos hs]
  exact rx_step2 w F X g k B h ho hk hk2 hs
def mi(l:List Value)(j:Nat):Int:=match l[j]? with|some (.int _ z)=>z|_=>0
def mb(l:List Value)(j:Nat):Bool:=match l[j]? with|some (.bool z)=>z|_=>false
theorem Typed.gi{L:List (Option IntKind)}{l:List Value}(h:Typed L l)(j:Nat){K:IntKind}(hj:L[j]?=some (some K)):l[j]?=some (.int K (mi l j)):=by
 obtain⟨z,hv,_⟩:=h.int j K hj
 rw[hv,mi,hv]
theorem rxt_lo(w:World)(F:Nat→Prop)(X g:Nat)(B:Br)(h:BrG w F X g B)(ho:B.ok)(m:List Value)(hm:Typed ML m)(i:Int)(hi:i<0):Calls Tryz.prog 29 #[.pointer (some ⟨X,0,none⟩),.int .i64 i,.agg m.toArray] w (Stepped w F X g (false,B)):=by
 obtain⟨hX,hg,hne⟩:=h.lt
 obtain⟨cap,c17,hc1,hc2⟩:=h.cell17 ho
 have H:=hD h
 clear h
 go_enter Tryz.func29,Tryz.ntmps29
 go_wp2
 go_ret
 exact⟨rfl,H.out.alloc _,(Mut.refl F w).alloc _⟩
theorem rxt_hi(w:World)(F:Nat→Prop)(X g:Nat)(B:Br)(h:BrG w F X g B)(ho:B.ok)(m:List Value)(hm:Typed ML m)(i:Int)(hi0:0≤i)(hi:((B.np:Nat):Int)≤i):Calls Tryz.prog 29 #[.pointer (some ⟨X,0,none⟩),.int .i64 i,.agg m.toArray] w (Stepped w F X g (false,B)):=by
 obtain⟨hX,hg,hne⟩:=h.lt
 obtain⟨cap,c17,hc1,hc2⟩:=h.cell17 ho
 have H:=hD h
 clear h
 go_enter Tryz.func29,Tryz.ntmps29
 go_wp2
 go_ret
 exact⟨rfl,H.out.alloc _,(Mut.refl F w).alloc _⟩
theorem rxt_a(w:World)(F:Nat→Prop)(X g:Nat)(B:Br)(h:BrG w F X g B)(ho:B.ok)(m:List Value)(hm:Typed ML m)(k:Nat)(hk:k<B.np)(hk2:k<1000)(e2:B.gb k 2=false):Calls Tryz.prog 29 #[.pointer (some ⟨X,0,none⟩),.int .i64 k,.agg m.toArray] w (Stepped w F X g (false,B)):=by
 obtain⟨hX,hg,hne⟩:=h.lt
 obtain⟨cap,c17,hc1,hc2⟩:=h.cell17 ho
 have p2:=(h.cellg (i:=k*89+2) (lt89 hk (by decide))).trans (ho.gb hk 2 rfl)
 have p35:=(h.cellg (i:=k*89+35) (lt89 hk (by decide))).trans (ho.gb hk 35 rfl)
 have q1:=(h.cellX ho (i:=1) (by omega)).trans (ho.hb 1 rfl)
 have m0:=hm.gi 0 rfl
 rw[e2]at p2
 have hf:=h.frozen
 have H:=hD h
 have HTM:=hD hm
 have hmn:=hD (show m.length=17 from hm.1)
 have hmi:=hD (show(Tryz.prog.info? 46).map (·.size)=some m.toArray.size by rw[List.size_toArray,hmn.out];exact size_msg)
 have hmo:=hD (all_oneCell_toArray hm.one)
 clear h hm e2
 go_enter Tryz.func29,Tryz.ntmps29
 go_wp2_with (first|fail|((with_reducible refine at_load 46 ?_);refine wpList_load_row rfl 46 _ rfl _ rfl 46 m.toArray (0,0) _ (heap_alloc_new _ _) Tryz.underlying46 rfl hmi.out ?_))
 go_ret
 exact⟨rfl,H.out.alloc _,(Mut.refl F w).alloc _⟩
theorem rxt_b(w:World)(F:Nat→Prop)(X g:Nat)(B:Br)(h:BrG w F X g B)(ho:B.ok)(m:List Value)(hm:Typed ML m)(k:Nat)(hk:k<B.np)(hk2:k<1000)(e2:B.gb k 2=true)(e35:B.gb k 35=true):Calls Tryz.prog 29 #[.pointer (some ⟨X,0,none⟩),.int .i64 k,.agg m.toArray] w (Stepped w F X g (false,B)):=by
 obtain⟨hX,hg,hne⟩:=h.lt
 obtain⟨cap,c17,hc1,hc2⟩:=h.cell17 ho
 have p2:=(h.cellg (i:=k*89+2) (lt89 hk (by decide))).trans (ho.gb hk 2 rfl)
 have p35:=(h.cellg (i:=k*89+35) (lt89 hk (by decide))).trans (ho.gb hk 35 rfl)
 have q1:=(h.cellX ho (i:=1) (by omega)).trans (ho.hb 1 rfl)
 have m0:=hm.gi 0 rfl
 rw[e2]at p2
 rw[e35]at p35
 have hf:=h.frozen
 have H:=hD h
 have HTM:=hD hm
 have hmn:=hD (show m.length=17 from hm.1)
 have hmi:=hD (show(Tryz.prog.info? 46).map (·.size)=some m.toArray.size by rw[List.size_toArray,hmn.out];exact size_msg)
 have hmo:=hD (all_oneCell_toArray hm.one)
 clear h hm e2 e35
 go_enter Tryz.func29,Tryz.ntmps29
 go_wp2_with (first|fail|((with_reducible refine at_load 46 ?_);refine wpList_load_row rfl 46 _ rfl _ rfl 46 m.toArray (0,0) _ (heap_alloc_new _ _) Tryz.underlying46 rfl hmi.out ?_))
 go_ret
 exact⟨rfl,H.out.alloc _,(Mut.refl F w).alloc _⟩
theorem rxt_c(w:World)(F:Nat→Prop)(X g:Nat)(B:Br)(h:BrG w F X g B)(ho:B.ok)(m:List Value)(hm:Typed ML m)(k:Nat)(hk:k<B.np)(hk2:k<1000)(e2:B.gb k 2=true)(e35:B.gb k 35=false)(em:mi m 0=2)(er:B.hb 1=false):Calls Tryz.prog 29 #[.pointer (some ⟨X,0,none⟩),.int .i64 k,.agg m.toArray] w (Stepped w F X g (false,B)):=by
 obtain⟨hX,hg,hne⟩:=h.lt
 obtain⟨cap,c17,hc1,hc2⟩:=h.cell17 ho
 have p2:=(h.cellg (i:=k*89+2) (lt89 hk (by decide))).trans (ho.gb hk 2 rfl)
 have p35:=(h.cellg (i:=k*89+35) (lt89 hk (by decide))).trans (ho.gb hk 35 rfl)
 have q1:=(h.cellX ho (i:=1) (by omega)).trans (ho.hb 1 rfl)
 have m0:=hm.gi 0 rfl
 rw[e2]at p2
 rw[e35]at p35
 rw[em]at m0
 rw[er]at q1
 have hf:=h.frozen
 have H:=hD h
 have HTM:=hD hm
 have hmn:=hD (show m.length=17 from hm.1)
 have hmi:=hD (show(Tryz.prog.info? 46).map (·.size)=some m.toArray.size by rw[List.size_toArray,hmn.out];exact size_msg)
 have hmo:=hD (all_oneCell_toArray hm.one)
 clear h hm e2 e35 em er
 go_enter Tryz.func29,Tryz.ntmps29
 go_wp2_with (first|fail|((with_reducible refine at_load 46 ?_);refine wpList_load_row rfl 46 _ rfl _ rfl 46 m.toArray (0,0) _ (heap_alloc_new _ _) Tryz.underlying46 rfl hmi.out ?_))
 go_ret
 exact⟨rfl,H.out.alloc _,(Mut.refl F w).alloc _⟩
theorem mig_h1(r:Bool)(g o:Nat)(m:Int)(w:World)(h9:w.cell? ⟨g,o+9,none⟩=some (.int .i64 m)):
    Calls Tryz.prog 70 #[.bool r,.pointer (some ⟨g,o,none⟩)] w fun e w'=>e=.returned (.bool (m == 0))∧w=w':=by
 go_enter Tryz.func70,Tryz.ntmps70
 go_wp2
 go_ret
 exact⟨rfl,rfl⟩
theorem mig_h2(r:Bool)(g o:Nat)(m:Int)(en:Bool)(w:World)(h9:w.cell? ⟨g,o+9,none⟩=some (.int .i64 m))(h2:w.cell? ⟨g,o+2,none⟩=some (.bool en)):
    Calls Tryz.prog 72 #[.bool r,.pointer (some ⟨g,o,none⟩)] w fun e w'=>e=.returned (.bool ((m != 3) && !en))∧w=w':=by
 go_enter Tryz.func72,Tryz.ntmps72
 go_wp2
 all_goals (go_ret;exact⟨retB (by simp[*]),rfl⟩)
theorem mig_h3(r:Bool)(g o:Nat)(en mc rr sr:Bool)(w:World)(h2:w.cell? ⟨g,o+2,none⟩=some (.bool en))(h30:w.cell? ⟨g,o+30,none⟩=some (.bool mc))(h37:w.cell? ⟨g,o+37,none⟩=some (.bool rr))(h45:w.cell? ⟨g,o+45,none⟩=some (.bool sr)):
    Calls Tryz.prog 74 #[.bool r,.pointer (some ⟨g,o,none⟩)] w fun e w'=>e=.returned (.bool (!en || mc || r && rr && !sr))∧w=w':=by
 cases en<;>cases mc<;>cases r<;>cases rr
 all_goals
  go_enter Tryz.func74,Tryz.ntmps74
  go_wp2
  go_ret
  exact⟨retB (by simp),rfl⟩
theorem mig_h4(r:Bool)(g o:Nat)(sr rp:Bool)(w:World)(h45:w.cell? ⟨g,o+45,none⟩=some (.bool sr))(h38:w.cell? ⟨g,o+38,none⟩=some (.bool rp)):
    Calls Tryz.prog 75 #[.bool r,.pointer (some ⟨g,o,none⟩)] w fun e w'=>e=.returned (.bool (sr && rp))∧w=w':=by
 cases sr
 all_goals
  go_enter Tryz.func75,Tryz.ntmps75
  go_wp2
  go_ret
  exact⟨retB (by simp),rfl⟩
theorem mig_h5(r:Bool)(g o:Nat)(m:Int)(en mc:Bool)(w:World)(h9:w.cell? ⟨g,o+9,none⟩=some (.int .i64 m))(h2:w.cell? ⟨g,o+2,none⟩=some (.bool en))(h30:w.cell? ⟨g,o+30,none⟩=some (.bool mc)):
    Calls Tryz.prog 77 #[.bool r,.pointer (some ⟨g,o,none⟩)] w fun e w'=>e=.returned (.bool ((m == 0) || !en || mc))∧w=w':=by
 cases en
 all_goals
  go_enter Tryz.func77,Tryz.ntmps77
  go_wp2
  all_goals (go_ret;exact⟨retB (by simp[*]),rfl⟩)
theorem mig_listen(r:Bool)(g o:Nat)(u v:Value)(w:World)(h37:w.cell? ⟨g,o+37,none⟩=some u)(h38:w.cell? ⟨g,o+38,none⟩=some v)(hf:∀j,w.frozen? ⟨g,j,none⟩=false):
    Calls Tryz.prog 71 #[.bool r,.pointer (some ⟨g,o,none⟩)] w fun e w'=>e=.returned (.tuple #[])∧w'=(w.setCell ⟨g,o+37,none⟩ (.bool false)).setCell ⟨g,o+38,none⟩ (.bool false):=by
 go_enter Tryz.func71,Tryz.ntmps71
 go_wp2
 go_end0
 exact⟨rfl,rfl⟩
theorem mig_begin(r:Bool)(g o:Nat)(u v x:Value)(w:World)(h9:w.cell? ⟨g,o+9,none⟩=some x)(h30:w.cell? ⟨g,o+30,none⟩=some u)(h45:w.cell? ⟨g,o+45,none⟩=some v)(hf:∀j,w.frozen? ⟨g,j,none⟩=false):
    Calls Tryz.prog 73 #[.bool r,.pointer (some ⟨g,o,none⟩)] w fun e w'=>e=.returned (.tuple #[])∧w'=((w.setCell ⟨g,o+30,none⟩ (.bool false)).setCell ⟨g,o+45,none⟩ (.bool r)).setCell ⟨g,o+9,none⟩ (.int .i64 3):=by
 go_enter Tryz.func73,Tryz.ntmps73
 go_wp2
 go_end0
 exact⟨rfl,rfl⟩
theorem mig_yield(r:Bool)(g o:Nat)(v x:Value)(w:World)(h9:w.cell? ⟨g,o+9,none⟩=some x)(h45:w.cell? ⟨g,o+45,none⟩=some v)(hf:∀j,w.frozen? ⟨g,j,none⟩=false):
    Calls Tryz.prog 76 #[.bool r,.pointer (some ⟨g,o,none⟩)] w fun e w'=>e=.returned (.tuple #[])∧w'=(w.setCell ⟨g,o+45,none⟩ (.bool false)).setCell ⟨g,o+9,none⟩ (.int .i64 3):=by
 go_enter Tryz.func76,Tryz.ntmps76
 go_wp2
 go_end0
 exact⟨rfl,rfl⟩
def migRows:Array Value:=#[.int .i64 0,.func (.func 70) #[] #[],.func (.func 71) #[] #[],.int .i64 2,.int .i64 0,.func (.func 72) #[] #[],.func (.func 73) #[] #[],.int .i64 0,.int .i64 2,.func (.func 74) #[] #[],.func (.func 73) #[] #[],.int .i64 0,.int .i64 2,.func (.func 75) #[] #[],.func (.func 76) #[] #[],.int .i64 1,.int .i64 1,.func (.func 77) #[] #[],.func (.func 71) #[] #[],.int .i64 2]
theorem size_mrows:(Tryz.prog.info? 104).map (·.size)=some migRows.size:=by kernel_rfl
theorem mig_rows(w:World):Calls Tryz.prog 52 #[] w fun e w'=>e=.returned (.agg migRows)∧Ext w w':=by
 have hi:=hD size_mrows
 go_enter Tryz.func52,Tryz.ntmps52
 go_wp2_with (first|fail|((with_reducible refine at_store 104 ?_);refine wpList_store_new2 rfl rfl 104 _ _ _ rfl _ migRows _ rfl ?_ rfl hi.out rfl rfl ?_;· rfl))
 exact bodyPost_ret (results_cell_row rfl _ _ _ _ migRows (0,0) _ rfl (heap_alloc_new _ _) Tryz.underlying104 rfl hi.out) rfl ⟨rfl,(Ext.refl w).alloc _⟩
theorem size_mrow:(Tryz.prog.info? 103).map (·.size)=some 4:=by kernel_rfl
theorem mig_ix0(w:World):(Instr.index 104 (.agg migRows) (.int .i64 0)).run Tryz.prog w=.ok (.agg #[.int .i64 0,.func (.func 70) #[] #[],.func (.func 71) #[] #[],.int .i64 2]) w:=by kernel_rfl
theorem mig_ix1(w:World):(Instr.index 104 (.agg migRows) (.int .i64 1)).run Tryz.prog w=.ok (.agg #[.int .i64 0,.func (.func 72) #[] #[],.func (.func 73) #[] #[],.int .i64 0]) w:=by kernel_rfl
theorem mig_ix2(w:World):(Instr.index 104 (.agg migRows) (.int .i64 2)).run Tryz.prog w=.ok (.agg #[.int .i64 2,.func (.func 74) #[] #[],.func (.func 73) #[] #[],.int .i64 0]) w:=by kernel_rfl
theorem mig_ix3(w:World):(Instr.index 104 (.agg migRows) (.int .i64 3)).run Tryz.prog w=.ok (.agg #[.int .i64 2,.func (.func 75) #[] #[],.func (.func 76) #[] #[],.int .i64 1]) w:=by kernel_rfl
theorem mig_ix4(w:World):(Instr.index 104 (.agg migRows) (.int .i64 4)).run Tryz.prog w=.ok (.agg #[.int .i64 1,.func (.func 77) #[] #[],.func (.func 71) #[] #[],.int .i64 2]) w:=by kernel_rfl
def migListen(B:Br)(k:Nat):Br:=((B.setp k 37 (.bool false)).setp k 38 (.bool false)).setp k 16 (.int .i64 2)
def migBegin(B:Br)(k:Nat):Br:=(((B.setp k 30 (.bool false)).setp k 45 (.bool (B.hb 1))).setp k 9 (.int .i64 3)).setp k 16 (.int .i64 0)
def migYield(B:Br)(k:Nat):Br:=((B.setp k 45 (.bool false)).setp k 9 (.int .i64 3)).setp k 16 (.int .i64 1)
def mh1(B:Br)(k:Nat):Bool:=B.gi k 9 == 0
def mh2(B:Br)(k:Nat):Bool:=(B.gi k 9 != 3) && !B.gb k 2
def mh3(B:Br)(k:Nat):Bool:=!B.gb k 2 || B.gb k 30 || B.hb 1 && B.gb k 37 && !B.gb k 45
def mh4(B:Br)(k:Nat):Bool:=B.gb k 45 && B.gb k 38
def mh5(B:Br)(k:Nat):Bool:=(B.gi k 9 == 0) || !B.gb k 2 || B.gb k 30
def migF(B:Br)(k:Nat):Bool × Br :=
 if B.gi k 16=0 then if mh1 B k=true then(true,migListen B k)else if mh2 B k=true then(true,migBegin B k)else(false,B)
 else if B.gi k 16=2 then if mh3 B k=true then(true,migBegin B k)else if mh4 B k=true then(true,migYield B k)else(false,B)
 else if B.gi k 16=1 then if mh5 B k=true then(true,migListen B k)else(false,B)
 else(false,B)
end Go.Proofs.YtpanapepcbbagaaGreat
