/- What PlanTells stands on, behind its chain. No statement is proved here. -/
import Derived.Test.YtamnmjckhicapaaPtFv
import Derived.Laws.BitsAllLaws
namespace Go.Proofs.Ytamnmjckhicapaa
open Go.RowKit Go.BigFrame Go.WideShapes Go.ChangeShapes Go.Deep
set_option linter.unusedVariables false
set_option linter.unusedSimpArgs false
set_option maxRecDepth 100000
theorem asv {P:Program} {f:FuncId} {args:Array Value} {w:World} {v v':Value} {R:World→Prop} (h:Calls P f args w fun e w'=>e=.returned v∧R w') (hv:v=v') :
    Calls P f args w fun e w'=>e=.returned v'∧R w':=h.mono fun _ _ ⟨he,hr⟩=>⟨by rw [he,hv],hr⟩
theorem asi {P:Program} {f:FuncId} {args:Array Value} {w:World} {k:IntKind} {x y:Int} {R:World→Prop} (h:Calls P f args w fun e w'=>e=.returned (.int k x)∧R w') (hv:x=y) :
    Calls P f args w fun e w'=>e=.returned (.int k y)∧R w':=h.mono fun _ _ ⟨he,hr⟩=>⟨by rw [he,hv],hr⟩
theorem planF_by_len (N:List Nd) (S:List (List Pl)):(planF N S).by_.length=S.length:=byOf_len N S
theorem pigeon:∀ (n m:Nat) (f:Nat→Nat),(∀ i,i < m→f i < n)→(∀ i j,i < m→j < m→f i=f j→i=j)→m≤n
 | 0,m,f,h1,_=>by
  cases m with
  | zero=>exact Nat.le_refl _
  | succ m=>exact absurd (h1 0 (by omega)) (by omega)
 | n+1,0,f,_,_=>by omega
 | n+1,m+1,f,h1,h2=>by
  have ih:=pigeon n m (fun i=>if f i=n then f m else f i) (fun i hi=>?_) (fun i j hi hj e=>?_)
  ·omega
  ·try dsimp only
   have a:=h1 m (by omega)
   have b:=h1 i (by omega)
   split
   ·rename_i h
    have:f m ≠ n:=fun h3=>by have:=h2 i m (by omega) (by omega) (h.trans h3.symm); omega
    omega
   ·omega
  ·try dsimp only at e
   by_cases c1:f i=n
   ·by_cases c2:f j=n
    ·exact h2 i j (by omega) (by omega) (c1.trans c2.symm)
    ·rw [if_pos c1,if_neg c2] at e
     have:=h2 m j (by omega) (by omega) e
     omega
   ·by_cases c2:f j=n
    ·rw [if_neg c1,if_pos c2] at e
     have:=h2 i m (by omega) (by omega) e
     omega
    ·rw [if_neg c1,if_neg c2] at e
     exact h2 i j (by omega) (by omega) e
theorem least_of {p:Nat→Prop}:∀ m,p m→∃ d,p d∧∀ e,p e→d≤e:=fun m=>by
 induction m using Nat.strongRecOn with
 | _ m ih =>
  intro hm
  by_cases h:∃ e,e < m∧p e
  ·obtain ⟨e,he,hp⟩:=h
   exact ih e he hp
  ·exact ⟨m,hm,fun e hp=>Nat.le_of_not_lt fun hl=>h ⟨e,hl,hp⟩⟩
def Far (n:Nat) (L:List Hp) (s k d:Nat):Prop:=(∃ q,Walk n L s k q∧q.2=d)∧∀ q,Walk n L s k q→d≤q.2
theorem walk_lt {n:Nat} {L:List Hp} {s k:Nat} {q:Nat × Nat} (hs:s < n) (h:Walk n L s k q):k < n:=by
 cases h with
 | here=>exact hs
 | hop _ _ h2 _=>have:=ok_t h2; omega
theorem far_back {n:Nat} {L:List Hp} {s:Nat}:∀ d k,Far n L s k d→∀ e,e≤d→∃ v,Far n L s v e
 | 0,k,h,e,he=>by
  obtain rfl:e=0:=by omega
  exact ⟨k,h⟩
 | d+1,k,h,e,he=>by
  by_cases hd:e=d+1
  ·subst hd
   exact ⟨k,h⟩
  ·obtain ⟨⟨q,hw,hq⟩,hmin⟩:=h
   cases hw with
   | here=>simp at hq
   | @hop i q' g hw' h1 h2 h3 =>
    have hq':q'.2=d:=by
     have e1:(hopW q' g).2=q'.2+1:=rfl
     omega
    refine far_back d i ⟨⟨q',hw',hq'⟩,fun q2 hw2=>?_⟩ e (by omega)
    have:=hmin _ (.hop hw2 h1 h2 h3)
    have e1:(hopW q2 g).2=q2.2+1:=rfl
    omega
theorem far_short {n:Nat} {L:List Hp} {s k d:Nat} (hs:s < n) (h:Far n L s k d):d+1≤n:=by
 have hv:∀ e,∃ v,e≤d→Far n L s v e:=fun e=>by
  by_cases he:e≤d
  ·obtain ⟨v,hv⟩:=far_back d k h e he
   exact ⟨v,fun _=>hv⟩
  ·exact ⟨0,fun h=>absurd h he⟩
 refine pigeon n (d+1) (fun e=>Classical.choose (hv e)) (fun e he=>?_) (fun e e' he he' hh=>?_)
 ·obtain ⟨⟨q,hw,_⟩,_⟩:=Classical.choose_spec (hv e) (by omega)
  exact walk_lt hs hw
 ·have a:=Classical.choose_spec (hv e) (by omega)
  have b:=Classical.choose_spec (hv e') (by omega)
  try dsimp only at hh
  rw [hh] at a
  obtain ⟨⟨q,hw,hq⟩,hm⟩:=a
  obtain ⟨⟨q',hw',hq'⟩,hm'⟩:=b
  have:=hm _ hw'
  have:=hm' _ hw
  omega
theorem far_conn {n:Nat} {L:List Hp} {s k:Nat} (hs:s < n) (h:Conn n L s k):((farF n L s).getD k Option.none).isNone=false:=by
 obtain ⟨q,hw⟩:=h
 obtain ⟨d,⟨q',hw',hd⟩,hm⟩:=least_of (p:=fun d=>∃ q,Walk n L s k q∧q.2=d) q.2 ⟨q,hw,rfl⟩
 have hf:Far n L s k d:=⟨⟨q',hw',hd⟩,fun q2 h2=>hm q2.2 ⟨q2,h2,rfl⟩⟩
 have:=far_short hs hf
 obtain ⟨y,hy,_⟩:=(rnds_best hs n (L:=L)).2 k q' hw' (by omega)
 have hy':(farF n L s).getD k Option.none=Option.some y:=hy
 rw [hy']
 rfl
theorem far_iff {n:Nat} {L:List Hp} {s k:Nat} (hs:s < n):((farF n L s).getD k Option.none).isNone=false↔Conn n L s k:=⟨fun h=>by
 cases hq:(farF n L s).getD k Option.none with
 | none=>rw [hq] at h; simp at h
 | some q=>exact ⟨q,(far_walk hs hq).1⟩,far_conn hs⟩
theorem partK_same (n:Nat) (L:List Hp) (hs:Sym n L):∀ i,i≤n→∀ j k,j < n→k < n→Conn n L j k→at0 (partK n L i) j=at0 (partK n L i) k
 | 0,_,j,k,hj,hk,_=>by
  simp [partK,at0,List.getD_eq_getElem?_getD,hj,hk]
 | i+1,hi,j,k,hj,hk,hc=>by
  have ih:=partK_same n L hs i (by omega) j k hj hk hc
  have hl:=partK_len n L i
  unfold partK
  split
  ·exact ih
  ·rw [markK_at i (farF n L i) (partK n L i) j n (by omega),markK_at i (farF n L i) (partK n L i) k n (by omega)]
   have e:Conn n L i j↔Conn n L i k:=⟨fun h=>h.trans hc,fun h=>h.trans (hc.symm hs)⟩
   by_cases h:Conn n L i j
   ·rw [if_pos ⟨hj,far_conn (by omega) h⟩,if_pos ⟨hk,far_conn (by omega) (e.1 h)⟩]
   ·rw [if_neg (fun x=>h ((far_iff (by omega)).1 x.2)),if_neg (fun x=>h (e.2 ((far_iff (by omega)).1 x.2)))]
    exact ih
theorem partF_same {n:Nat} {L:List Hp} (hs:Sym n L) {j k:Nat} (hj:j < n) (hk:k < n) (hc:Conn n L j k):at0 (partF n L) j=at0 (partF n L) k:=partK_same n L hs n (Nat.le_refl _) j k hj hk hc
theorem partF_idem {n:Nat} {L:List Hp} (hs:Sym n L) {j:Nat} (hj:j < n):at0 (partF n L) (at0 (partF n L) j).toNat=at0 (partF n L) j:=by
 have hb:=partF_rng n L j hj
 exact partF_same hs (by omega) hj (partF_conn n L j hj)
theorem rootA_least (N:List Nd) (F:List Int) (n:Nat) (hF:Rng n F) (hl:F.length=n):∀ i,i≤n→∀ j k,j < n→k < i→at0 F k=at0 F j→idA N (at0 (rootA N F i) (at0 F j).toNat).toNat≤idA N k
 | 0,_,j,k,_,hk,_=>by omega
 | i+1,hi,j,k,hj,hk,e=>by
  have hbi:=hF i (by omega)
  have hbj:=hF j hj
  have ih:=rootA_least N F n hF hl i (by omega)
  unfold rootA
  by_cases hc:idA N i < idA N (at0 (rootA N F i) (at0 F i).toNat).toNat
  ·rw [if_pos hc,at_set _ _ _ _ (by rw [rootA_len]; omega)]
   by_cases e2:(at0 F j).toNat=(at0 F i).toNat
   ·rw [if_pos e2,Int.toNat_natCast]
    by_cases e3:k=i
    ·subst e3; exact Int.le_refl _
    ·have:=ih j k hj (by omega) e
     rw [e2] at this
     omega
   ·rw [if_neg e2]
    have e3:k ≠ i:=fun h=>e2 (by rw [← e,h])
    exact ih j k hj (by omega) e
  ·rw [if_neg hc]
   by_cases e3:k=i
   ·subst e3
    rw [← e]
    omega
   ·exact ih j k hj (by omega) e
theorem rootB_at (F A:List Int) (n:Nat) (hF:Rng n F) (hA:A.length=n) (hid:∀ j,j < n→at0 F (at0 F j).toNat=at0 F j):∀ i,i≤n→(∀ c,c < n→at0 F c=c→at0 (rootB F A i) c=at0 A c)∧∀ k,k < i→at0 (rootB F A i) k=at0 A (at0 F k).toNat
 | 0,_=>⟨fun _ _ _=>rfl,fun k hk=>by omega⟩
 | i+1,hi=>by
  obtain ⟨h1,h2⟩:=rootB_at F A n hF hA hid i (by omega)
  have hb:=hF i (by omega)
  have hv:at0 (rootB F A i) (at0 F i).toNat=at0 A (at0 F i).toNat:=h1 _ (by omega) (by rw [hid i (by omega)]; omega)
  unfold rootB
  refine ⟨fun c hc e=>?_,fun k hk=>?_⟩
  ·rw [at_set _ _ _ _ (by rw [rootB_len]; omega),hv]
   by_cases ec:c=i
   ·subst ec
    rw [if_pos rfl,e,Int.toNat_natCast]
   ·rw [if_neg ec]
    exact h1 c hc e
  ·rw [at_set _ _ _ _ (by rw [rootB_len]; omega),hv]
   by_cases ek:k=i
   ·subst ek
    rw [if_pos rfl]
   ·rw [if_neg ek]
    exact h2 k (by omega)
theorem rootF_least (N:List Nd) (n:Nat) (L:List Hp) (hs:Sym n L) {j k:Nat} (hj:j < n) (hk:k < n) (hc:Conn n L j k):idA N (at0 (rootF N (partF n L)) j).toNat≤idA N k:=by
 unfold rootF
 rw [partF_len,(rootB_at (partF n L) _ n (partF_rng n L) (by rw [rootA_len,partF_len]) (fun j hj=>partF_idem hs hj) n (Nat.le_refl _)).2 j hj]
 exact rootA_least N _ n (partF_rng n L) (partF_len n L) n (Nat.le_refl _) j k hj hk (partF_same hs hk hj (hc.symm hs))
theorem root_at {N:List Nd} {S:List (List Pl)} {i:Nat} (hi:i < N.length):at0 (planF N S).root i=idA N (at0 (rootsOf N S) i).toNat:=by
 show at0 ((rootsOf N S).map _) i=_
 unfold at0
 rw [List.getD_eq_getElem?_getD,List.getElem?_map,List.getD_eq_getElem?_getD,List.getElem?_eq_getElem (by rw [rootsOf_len]; exact hi)]
 rfl
theorem cost_at {N:List Nd} {S:List (List Pl)} {i:Nat} (hi:i < N.length):at0 (planF N S).cost i=((costW (waysOf N S) i:Nat):Int):=by
 show at0 ((List.range N.length).map _) i=_
 unfold at0
 rw [List.getD_eq_getElem?_getD,List.getElem?_map,List.getElem?_range hi]
 rfl
theorem rootF_at (N:List Nd) {n:Nat} {L:List Hp} (hs:Sym n L) {j:Nat} (hj:j < n):at0 (rootF N (partF n L)) j=at0 (rootA N (partF n L) n) (at0 (partF n L) j).toNat:=by
 unfold rootF
 rw [partF_len]
 exact (rootB_at (partF n L) _ n (partF_rng n L) (by rw [rootA_len,partF_len]) (fun j hj=>partF_idem hs hj) n (Nat.le_refl _)).2 j hj
theorem seg_part (N:List Nd) (S:List (List Pl)) {seg:List Pl} (hS:seg ∈ S) {p q:Pl} (hp:p ∈ seg) (hq:q ∈ seg) (h1:0≤p.1∧p.1 < N.length) (h2:0≤q.1∧q.1 < N.length) :
    at0 (partF N.length (hopsF N S)) p.1.toNat=at0 (partF N.length (hopsF N S)) q.1.toNat:=by
 by_cases e:q.1=p.1
 ·rw [e]
 ·refine partF_same (hopsF_sym _ _ _) (by omega) (by omega) ?_
  refine ⟨_,Walk.hop (h:=⟨p.1,q.1,costA N q⟩) .here (mem_hopsF.2 ⟨seg,hS,mem_brF.2 ⟨p,hp,rfl⟩,q,hq,e,rfl⟩) ?_ ?_⟩
  ·simp only [Hp.ok,Bool.and_eq_true,decide_eq_true_eq]
   omega
  ·show p.1=_
   omega
theorem bools_open {w:World} {uv:Value} {U:List Bool} (h:BoolsAt w uv U) (h1:1≤U.length):∃ ub uo ucap,uv=.slice (some ⟨ub,uo,none⟩) U.length ucap∧∀ W',Ext w W'→∀ i,i < U.length→W'.cell? ⟨ub,uo+i,none⟩=some (.bool (U.getD i false)):=by
 obtain ⟨ua,ucap,rfl,hm,hf⟩:=h
 obtain ⟨ub,uo,rfl,hb,-,-,h3⟩:=hf (by omega)
 refine ⟨ub,uo,ucap,rfl,fun W' hx i hi=>?_⟩
 have:=h3 i hi 0 _ rfl
 rw [Nat.add_zero,Nat.mul_one] at this
 exact (hx.cell hb).trans this
theorem upsL_len (u:Int):(upsL u).length=6:=by simp [upsL]
theorem NetOk.ids {N:List Nd} {S:List (List Pl)} (h:NetOk N S):∀ i j,i < N.length→j < N.length→idA N i=idA N j→i=j:=fun i j hi hj e=>by
 have hn:=h.nodes.2
 rw [List.nodup_iff_pairwise_ne,List.pairwise_map,List.pairwise_iff_getElem] at hn
 have g:∀ k (hk:k < N.length),idA N k=N[k].id:=fun k hk=>by unfold idA; rw [List.getD_eq_getElem?_getD,List.getElem?_eq_getElem hk]; rfl
 rw [g i hi,g j hj] at e
 rcases Nat.lt_trichotomy i j with h1 | h1 | h1
 ·exact absurd (by rw [e]) (hn i j hi hj h1)
 ·exact h1
 ·exact absurd (by rw [e]) (hn j i hj hi h1)
def Bst (n:Nat) (L:List Hp) (s k:Nat) (q:Nat × Nat):Prop:=Walk n L s k q∧∀ q',Walk n L s k q'→Le q q'
theorem Le.anti2 {x y:Nat × Nat} (h:Le x y) (k:Le y x):x=y:=by
 unfold Le at *
 exact Prod.ext (by omega) (by omega)
theorem bst_of {n:Nat} {L:List Hp} {s k:Nat} (h:Conn n L s k):∃ q,Bst n L s k q:=by
 obtain ⟨q,hw⟩:=h
 obtain ⟨c,⟨h1,hw1⟩,hm1⟩:=least_of (p:=fun c=>∃ h,Walk n L s k (c,h)) q.1 ⟨q.2,hw⟩
 obtain ⟨d,hw2,hm2⟩:=least_of (p:=fun d=>Walk n L s k (c,d)) h1 hw1
 refine ⟨(c,d),hw2,fun q' hw'=>?_⟩
 have h3:=hm1 q'.1 ⟨q'.2,hw'⟩
 unfold Le
 dsimp only
 by_cases e:q'.1=c
 ·have:=hm2 q'.2 (by rw [← e]; exact hw')
  omega
 ·omega
theorem Bst.back {n:Nat} {L:List Hp} {s i:Nat} {q:Nat × Nat} {g:Hp} (h:Bst n L s g.t.toNat (hopW q g)) (hw:Walk n L s i q) (h1:g ∈ L) (h2:g.ok n=true) (h3:g.f=i):Bst n L s i q:=by
 refine ⟨hw,fun q2 hw2=>?_⟩
 have:=h.2 _ (.hop hw2 h1 h2 h3)
 unfold Le hopW at *
 dsimp only at this
 omega
theorem bst_back {n:Nat} {L:List Hp} {s:Nat}:∀ d k c,Bst n L s k (c,d)→∀ e,e≤d→∃ v c',Bst n L s v (c',e)
 | 0,k,c,h,e,he=>by
  obtain rfl:e=0:=by omega
  exact ⟨k,c,h⟩
 | d+1,k,c,h,e,he=>by
  by_cases hd:e=d+1
  ·subst hd
   exact ⟨k,c,h⟩
  ·obtain ⟨q,hq⟩:∃ q,q=(c,d+1):=⟨_,rfl⟩
   rw [← hq] at h
   have hw:=h.1
   cases hw with
   | here=>simp at hq
   | @hop i q' g hw' h1 h2 h3 =>
    have e1:(hopW q' g).2=q'.2+1:=rfl
    have e2:(hopW q' g).2=d+1:=by rw [hq]
    have hb:=h.back hw' h1 h2 h3
    obtain ⟨a,b⟩:=q'
    dsimp only at e1
    obtain rfl:b=d:=by omega
    exact bst_back b i a hb e (by omega)
theorem bst_short {n:Nat} {L:List Hp} {s k:Nat} {q:Nat × Nat} (hs:s < n) (h:Bst n L s k q):q.2+1≤n:=by
 obtain ⟨c,d⟩:=q
 have hv:∀ e,∃ v,e≤d→∃ c',Bst n L s v (c',e):=fun e=>by
  by_cases he:e≤d
  ·obtain ⟨v,c',hv⟩:=bst_back d k c h e he
   exact ⟨v,fun _=>⟨c',hv⟩⟩
  ·exact ⟨0,fun h=>absurd h he⟩
 refine pigeon n (d+1) (fun e=>Classical.choose (hv e)) (fun e he=>?_) (fun e e' he he' hh=>?_)
 ·obtain ⟨c',hw,_⟩:=Classical.choose_spec (hv e) (by omega)
  exact walk_lt hs hw
 ·have a:=Classical.choose_spec (hv e) (by omega)
  have b:=Classical.choose_spec (hv e') (by omega)
  try dsimp only at hh
  rw [hh] at a
  obtain ⟨c1,hw,hm⟩:=a
  obtain ⟨c2,hw',hm'⟩:=b
  have:=(hm _ hw').anti2 (hm' _ hw)
  exact (Prod.mk.inj this).2
theorem far_best {n:Nat} {L:List Hp} {s k:Nat} {q:Nat × Nat} (hs:s < n) (h:Bst n L s k q):(farF n L s).getD k Option.none=Option.some q:=by
 have h1:=bst_short hs h
 obtain ⟨y,hy,hle⟩:=(rnds_best hs n (L:=L)).2 k q h.1 (by omega)
 have hy':(farF n L s).getD k Option.none=Option.some y:=hy
 rw [hy',(h.2 y (far_walk hs hy').1).anti2 hle]
theorem wayA_at (r:Nat) (R:List Int) (D W:List Way) (j:Nat) (hj:j < W.length):∀ k,(wayA r R D W k).getD j Option.none=if j < k∧at0 R j=r then D.getD j Option.none else W.getD j Option.none
 | 0=>by rw [if_neg (by omega)]; rfl
 | k+1=>by
  have ih:=wayA_at r R D W j hj k
  unfold wayA
  split
  ·rename_i h
   rw [getD_setW]
   by_cases e:k=j
   ·subst e
    rw [if_pos ⟨rfl,by rw [wayA_len]; exact hj⟩,if_pos ⟨by omega,h⟩]
   ·rw [if_neg (fun x=>e (by first | exact x.1 | exact x.1.symm)),ih]
    by_cases h2:j < k∧at0 R j=r
    ·rw [if_pos h2,if_pos ⟨by omega,h2.2⟩]
    ·rw [if_neg h2,if_neg (fun x=>h2 ⟨by omega,x.2⟩)]
  ·rename_i h
   rw [ih]
   by_cases h2:j < k∧at0 R j=r
   ·rw [if_pos h2,if_pos ⟨by omega,h2.2⟩]
   ·rw [if_neg h2,if_neg (fun x=>h2 ⟨by
     by_cases e:j=k
     ·exact absurd (by rw [← e]; exact x.2) h
     ·omega,x.2⟩)]
theorem wayK_at (n:Nat) (L:List Hp) (R:List Int) {j r:Nat} (hj:j < n) (hr:at0 R j=r) (hrr:at0 R r=r):∀ i,i≤n→r < i→(wayK n L R i).getD j Option.none=(farF n L r).getD j Option.none
 | 0,_,h=>by omega
 | i+1,hi,h=>by
  unfold wayK
  split
  ·rename_i hc
   rw [wayA_at i R _ _ j (by rw [wayK_len]; exact hj) n]
   by_cases e:r=i
   ·subst e
    rw [if_pos ⟨hj,hr⟩]
   ·rw [if_neg (fun x=>e (by omega))]
    exact wayK_at n L R hj hr hrr i (by omega) (by omega)
  ·rename_i hc
   have e:r ≠ i:=fun e=>hc (by rw [← e]; exact hrr)
   exact wayK_at n L R hj hr hrr i (by omega) (by omega)
theorem roots_same {N:List Nd} {S:List (List Pl)} {j k:Nat} (hj:j < N.length) (hk:k < N.length) (h:Conn N.length (hopsF N S) j k):at0 (rootsOf N S) j=at0 (rootsOf N S) k:=by
 unfold rootsOf
 rw [rootF_at N (hopsF_sym _ _ _) hj,rootF_at N (hopsF_sym _ _ _) hk,partF_same (hopsF_sym _ _ _) hj hk h]
theorem cost_best {N:List Nd} {S:List (List Pl)} {j:Nat} (hj:j < N.length):∃ r q,at0 (rootsOf N S) j=(r:Nat)∧r < N.length∧Bst N.length (hopsF N S) r j q∧costW (waysOf N S) j=q.1:=by
 have hb:=rootsOf_rng N S j hj
 obtain ⟨r,hr⟩:∃ r:Nat,at0 (rootsOf N S) j=r:=⟨_,(Int.toNat_of_nonneg hb.1).symm⟩
 have hc:=rootsOf_conn N S j hj
 rw [hr] at hb hc
 rw [Int.toNat_natCast] at hc
 obtain ⟨q,hq⟩:=bst_of hc
 have hrn:r < N.length:=by omega
 have hrr:at0 (rootsOf N S) r=r:=by rw [roots_same hrn hj hc]; exact hr
 refine ⟨r,q,hr,hrn,hq,?_⟩
 have e:=wayK_at N.length (hopsF N S) (rootsOf N S) hj hr hrr N.length (Nat.le_refl _) hrn
 rw [far_best hrn hq] at e
 have e2:(waysOf N S).getD j Option.none=Option.some q:=e
 unfold costW
 rw [e2]
theorem hop_conn {n:Nat} {L:List Hp} {h:Hp} (hh:h ∈ L) (hok:h.ok n=true):Conn n L h.f.toNat h.t.toNat:=⟨_,.hop .here hh hok (by have:=hok; unfold Hp.ok at this; simp only [Bool.and_eq_true,decide_eq_true_eq] at this; omega)⟩
theorem near_le {N:List Nd} {S:List (List Pl)} {h:Hp} (hh:h ∈ hopsF N S) (hok:h.ok N.length=true):at0 (rootsOf N S) h.f.toNat=at0 (rootsOf N S) h.t.toNat∧costW (waysOf N S) h.t.toNat≤costW (waysOf N S) h.f.toNat+h.c.toNat:=by
 have hk:=hok
 unfold Hp.ok at hk
 simp only [Bool.and_eq_true,decide_eq_true_eq] at hk
 have e:=roots_same (N:=N) (S:=S) (by omega) (by omega) (hop_conn hh hok)
 refine ⟨e,?_⟩
 obtain ⟨r1,q1,e1,l1,b1,c1⟩:=cost_best (N:=N) (S:=S) (j:=h.f.toNat) (by omega)
 obtain ⟨r2,q2,e2,l2,b2,c2⟩:=cost_best (N:=N) (S:=S) (j:=h.t.toNat) (by omega)
 obtain rfl:r1=r2:=by omega
 have:=b2.2 _ (.hop b1.1 hh hok (by omega))
 unfold Le hopW at this
 dsimp only at this
 omega
theorem near_by {N:List Nd} {S:List (List Pl)} {i:Nat} (hi:i < N.length) (hr:¬ at0 (rootsOf N S) i=i):∃ h ∈ hopsF N S,h.ok N.length=true∧h.t.toNat=i∧costW (waysOf N S) i=costW (waysOf N S) h.f.toNat+h.c.toNat:=by
 obtain ⟨r,q,e,l,b,c⟩:=cost_best (N:=N) (S:=S) hi
 have hw:=b.1
 cases hw with
 | here=>exact absurd e hr
 | @hop j q' g hw' h1 h2 h3 =>
  refine ⟨g,h1,h2,rfl,?_⟩
  have hb:=b.back hw' h1 h2 h3
  have hj:=walk_lt l hw'
  obtain ⟨r2,q2,e2,l2,b2,c2⟩:=cost_best (N:=N) (S:=S) hj
  have hrr:at0 (rootsOf N S) r=at0 (rootsOf N S) j:=roots_same l hj ⟨_,hw'⟩
  have hcr:=roots_same (N:=N) (S:=S) hj hi ⟨_,.hop .here h1 h2 h3⟩
  obtain rfl:r2=r:=by omega
  have:=(hb.2 _ b2.1).anti2 (b2.2 _ hb.1)
  rw [h3,Int.toNat_natCast,c2,c,← this]
  rfl
def Uniq (S:List (List Pl)):Prop:=∀ s s' p,s < S.length→s' < S.length→p ∈ S.getD s []→p ∈ S.getD s' []→s=s'
theorem NetOk.uniq {N:List Nd} {S:List (List Pl)} (h:NetOk N S):Uniq S:=fun s s' p hs hs' hp hp'=>by
 have hn:=h.nodup
 rw [List.nodup_iff_pairwise_ne,List.pairwise_flatten] at hn
 have h2:=hn.2
 rw [List.pairwise_iff_getElem] at h2
 have g:∀ k (hk:k < S.length),S.getD k []=S[k]:=fun k hk=>by rw [List.getD_eq_getElem?_getD,List.getElem?_eq_getElem hk]; rfl
 rw [g s hs] at hp
 rw [g s' hs'] at hp'
 rcases Nat.lt_trichotomy s s' with h1 | h1 | h1
 ·exact absurd rfl (h2 s s' hs hs' h1 p hp p hp')
 ·exact h1
 ·exact absurd rfl (h2 s' s hs' hs h1 p hp' p hp)
theorem raised_in {U:List Bool} {S:List (List Pl)} {s:Nat} {p:Pl} (hs:s < S.length) (h:p ∈ (raisedL U S).getD s []):U.getD s false=true∧p ∈ S.getD s []:=by
 rw [raisedL_at U S hs] at h
 unfold raisedF at h
 split at h
 ·rename_i e
  exact ⟨e,h⟩
 ·cases h
theorem Uniq.raised {S:List (List Pl)} (h:Uniq S) (U:List Bool):Uniq (raisedL U S):=fun s s' p hs hs' hp hp'=>by
 rw [raisedL_len] at hs hs'
 exact h s s' p hs hs' (raised_in hs hp).2 (raised_in hs' hp').2
theorem putS_out (s:Int):∀ (l:List Pl) (f:Pl→Option Int) (x:Pl),x ∉ l→putS s f l x=f x
 | [],_,_,_=>rfl
 | a :: l,f,x,h=>by
  rw [List.mem_cons,not_or] at h
  show putS s _ l x=f x
  rw [putS_out s l _ x h.2,if_neg h.1]
theorem putS_in (s:Int):∀ (l:List Pl) (f:Pl→Option Int) (x:Pl),x ∈ l→putS s f l x=some s
 | a :: l,f,x,h=>by
  show putS s _ l x=some s
  by_cases hx:x ∈ l
  ·exact putS_in s l _ x hx
  ·rw [putS_out s l _ x hx,if_pos]
   rcases List.mem_cons.1 h with e | e
   ·exact e
   ·exact absurd e hx
theorem segK_at {S:List (List Pl)} (hu:Uniq S) {s:Nat} {p:Pl} (hp:p ∈ S.getD s []):∀ k,k≤S.length→s < k→segK S k p=some (s:Int)
 | 0,_,h=>by omega
 | k+1,hk,h=>by
  show putS k (segK S k) (S.getD k []) p=_
  by_cases e:s=k
  ·subst e
   exact putS_in _ _ _ _ hp
  ·rw [putS_out _ _ _ _ (fun hx=>e (hu s k p (by omega) (by omega) hp hx))]
   exact segK_at hu hp k (by omega) (by omega)
theorem segF_at {S:List (List Pl)} (hu:Uniq S) {s:Nat} {p:Pl} (hs:s < S.length) (hp:p ∈ S.getD s []):segF S p=some (s:Int):=segK_at hu hp S.length (Nat.le_refl _) hs
theorem minK_least (cf:Pl→Pl→Int) (f:Pl→Nat) (h1:∀ a b,cf a b < 0→f a≤f b) (h2:∀ a b,¬ cf a b < 0→f b≤f a) (S:List Pl):∀ k j,j≤k→f (minK cf S k)≤f (S.getD j (0,0))
 | 0,j,h=>by
  obtain rfl:j=0:=by omega
  exact Nat.le_refl _
 | k+1,j,h=>by
  have ih:=minK_least cf f h1 h2 S k
  unfold minK
  split
  ·rename_i hc
   by_cases e:j=k+1
   ·rw [e]
    exact Nat.le_refl _
   ·exact Nat.le_trans (h1 _ _ hc) (ih j (by omega))
  ·rename_i hc
   by_cases e:j=k+1
   ·rw [e]
    exact h2 _ _ hc
   ·exact ih j (by omega)
theorem minF_least (cf:Pl→Pl→Int) (f:Pl→Nat) (h1:∀ a b,cf a b < 0→f a≤f b) (h2:∀ a b,¬ cf a b < 0→f b≤f a) {S:List Pl} {x:Pl} (hx:x ∈ S):f (minF cf S)≤f x:=by
 obtain ⟨j,hj,rfl⟩:=List.getElem_of_mem hx
 have e:S.getD j (0,0)=S[j]:=by rw [List.getD_eq_getElem?_getD,List.getElem?_eq_getElem hj]; rfl
 rw [← e]
 exact minK_least cf f h1 h2 S (S.length - 1) j (by omega)
theorem offer_le (N:List Nd) (D:List Way) (p q r s more than:Nat):(offerF N D p q r s more than < 0→costW D p+more≤costW D r+than)∧(¬ offerF N D p q r s more than < 0→costW D r+than≤costW D p+more)∧(offerF N D p q r s more than=0→costW D p+more=costW D r+than):=by
 unfold offerF orI
 rcases cmpI_cases ((costW D p+more:Nat):Int) ((costW D r+than:Nat):Int) with ⟨h,e⟩ | ⟨h,h',e⟩ | ⟨h,h',e⟩
 ·rw [e,if_neg (by decide)]
  omega
 ·rw [e,if_neg (by decide)]
  omega
 ·rw [e,if_pos rfl]
  omega
def nearK (N:List Nd) (D:List Way) (f:Pl→Option Int) (By:List Pl) (a:Pl):Nat:=costW D (By.getD ((f a).getD 0).toNat (0,0)).1.toNat+(costA N a).toNat
theorem nearP_le (N:List Nd) (D:List Way) (f:Pl→Option Int) (By:List Pl) (a b:Pl):(nearP N D f By a b < 0→nearK N D f By a≤nearK N D f By b)∧(¬ nearP N D f By a b < 0→nearK N D f By b≤nearK N D f By a):=by
 unfold nearP
 have h:=offer_le N D (By.getD ((f a).getD 0).toNat (0,0)).1.toNat (By.getD ((f a).getD 0).toNat (0,0)).2.toNat (By.getD ((f b).getD 0).toNat (0,0)).1.toNat (By.getD ((f b).getD 0).toNat (0,0)).2.toNat (ptA N a.1.toNat a.2.toNat).cost.toNat (ptA N b.1.toNat b.2.toNat).cost.toNat
 have ea:nearK N D f By a=costW D (By.getD ((f a).getD 0).toNat (0,0)).1.toNat+(ptA N a.1.toNat a.2.toNat).cost.toNat:=rfl
 have eb:nearK N D f By b=costW D (By.getD ((f b).getD 0).toNat (0,0)).1.toNat+(ptA N b.1.toNat b.2.toNat).cost.toNat:=rfl
 rw [ea,eb]
 generalize offerF N D (By.getD ((f a).getD 0).toNat (0,0)).1.toNat (By.getD ((f a).getD 0).toNat (0,0)).2.toNat (By.getD ((f b).getD 0).toNat (0,0)).1.toNat (By.getD ((f b).getD 0).toNat (0,0)).2.toNat (ptA N a.1.toNat a.2.toNat).cost.toNat (ptA N b.1.toNat b.2.toNat).cost.toNat=o at h ⊢
 unfold orI
 by_cases h0:o=0
 ·have:=h.2.2 h0
  omega
 ·rw [if_neg h0]
  exact ⟨h.1,h.2.1⟩
theorem des_least {N:List Nd} {D:List Way} {seg:List Pl} {x:Pl} (hx:x ∈ seg):costW D (desF N D seg).1.toNat≤costW D x.1.toNat:=by
 unfold desF
 have h1:0 < seg.length:=List.length_pos_of_mem hx
 rw [if_neg (by omega)]
 refine minF_least (offerP N D) (fun a=>costW D a.1.toNat) (fun a b h=>?_) (fun a b h=>?_) hx
 ·have:=(offer_le N D a.1.toNat a.2.toNat b.1.toNat b.2.toNat 0 0).1 h
  omega
 ·have:=(offer_le N D a.1.toNat a.2.toNat b.1.toNat b.2.toNat 0 0).2.1 h
  omega
theorem alL_at (f:Pl→Option Int) (By:List Pl) (i:Nat) {k np:Nat} (hk:k < np):at0 (alL f By i np) k=alK f By i k:=by
 unfold at0 alL
 rw [List.getD_eq_getElem?_getD,List.getElem?_map,List.getElem?_range hk]
 rfl
theorem mem_waL {f:Pl→Option Int} {By:List Pl} {i np:Nat} {p:Pl}:p ∈ waL f By i np↔∃ j,j < np∧alK f By i j=1∧p=((i:Int),(j:Int)):=by
 unfold waL
 rw [List.mem_map]
 constructor
 ·rintro ⟨j,hj,rfl⟩
  obtain ⟨h1,h2⟩:=List.mem_filter.1 hj
  exact ⟨j,List.mem_range.1 h1,by simpa using h2,rfl⟩
 ·rintro ⟨j,h1,h2,rfl⟩
  exact ⟨j,List.mem_filter.2 ⟨List.mem_range.2 h1,by simpa using h2⟩,rfl⟩
theorem alone_one {f:Pl→Option Int} {By:List Pl} {a:Pl} (h:aloneF f By a=1):∃ s,f a=some s∧(By.getD s.toNat (0,0)).1 ≠ a.1:=by
 unfold aloneF at h
 split at h
 ·cases h
 ·rename_i s e
  split at h
  ·cases h
  ·split at h
   ·cases h
   ·rename_i h2
    exact ⟨s,e,h2⟩
abbrev rolesOf (N:List Nd) (S:List (List Pl)) (i:Nat):List Int:=roleF N (waysOf N S) (rootsOf N S) (segF S) (byOf N S) i
abbrev npA (N:List Nd) (i:Nat):Nat:=(N.getD i default).ports.length
theorem alone_eq {f:Pl→Option Int} {By:List Pl} {a:Pl} {s:Int} (h:f a=some s):aloneF f By a=if By.getD s.toNat (0,0)=a then 4 else if (By.getD s.toNat (0,0)).1=a.1 then 2 else 1:=by
 unfold aloneF
 rw [h]
structure RootAt (N:List Nd) (S:List (List Pl)) (i k s j:Nat):Prop where
 port:k < npA N i
 al:alK (segF S) (byOf N S) i k=1
 role:rolesOf N S i=(alL (segF S) (byOf N S) i (npA N i)).set k 3
 seg:s < S.length
 mem:(((i:Int),(k:Int)):Pl) ∈ S.getD s []
 by_:((byOf N S).getD s (0,0)).1=(j:Nat)
 lt:j < N.length
 root:at0 (rootsOf N S) j=at0 (rootsOf N S) i
 cost:costW (waysOf N S) i=costW (waysOf N S) j+(costA N ((i:Int),(k:Int))).toNat
 one:1≤costA N ((i:Int),(k:Int))
theorem role_own {N:List Nd} {S:List (List Pl)} {i:Nat} (h:at0 (rootsOf N S) i=i):rolesOf N S i=alL (segF S) (byOf N S) i (npA N i):=by
 unfold rolesOf roleF
 dsimp only
 rw [if_neg (fun x=>x.1 h)]
theorem role_root {N:List Nd} {S:List (List Pl)} (hok:∀ seg ∈ S,∀ p ∈ seg,PlOk N p) (hu:Uniq S) (hpos:∀ p,PlOk N p→1≤costA N p) {i:Nat} (hi:i < N.length) (hr:¬ at0 (rootsOf N S) i=i):∃ k s j,RootAt N S i k s j:=by
 obtain ⟨h,hh,hk,ht,hc⟩:=near_by hi hr
 obtain ⟨seg,hs,hf,p,hp,hne,he⟩:=mem_hopsF.1 hh
 obtain ⟨p',hp',hpe⟩:=mem_brF.1 hf
 have okp:=hok _ hs p hp
 obtain ⟨s0,hs0,rfl⟩:=mem_getD hs
 have fs:=segF_at hu hs0 hp
 have ec:h.c=costA N p:=by rw [he]
 have et:h.t=p.1:=by rw [he]
 have pos:=hpos p okp
 have hrg:=ok_t hk
 have hby:(byOf N S).getD s0 (0,0)=desF N (waysOf N S) (S.getD s0 []):=byOf_at N S hs0
 have hdl:=des_least (N:=N) (D:=waysOf N S) hp'
 rw [hpe] at hdl
 have hdm:=desF_mem (N:=N) (D:=waysOf N S) (seg:=S.getD s0 []) (List.length_pos_of_mem hp)
 have okd:=hok _ hs _ hdm
 obtain ⟨pi,pk⟩:=p
 obtain ⟨o1,o2,o3,o4⟩:=okp
 dsimp only at o1 o2 o3 o4 et
 obtain ⟨k0,rfl⟩:∃ k0:Nat,pk=k0:=⟨_,(Int.toNat_of_nonneg o3).symm⟩
 obtain rfl:pi=(i:Int):=by omega
 rw [Int.toNat_natCast] at o4
 have al0:alK (segF S) (byOf N S) i k0=1:=by
  have hn:(desF N (waysOf N S) (S.getD s0 [])).1 ≠ (i:Int):=fun e=>by
   rw [e,Int.toNat_natCast] at hdl
   omega
  unfold alK
  rw [alone_eq fs,Int.toNat_natCast,hby,if_neg (fun e=>hn (by rw [e])),if_neg hn]
 have hm0:(((i:Int),(k0:Int)):Pl) ∈ waL (segF S) (byOf N S) i (npA N i):=mem_waL.2 ⟨k0,by unfold npA; omega,al0,rfl⟩
 have hlen:=List.length_pos_of_mem hm0
 have hmm:=minF_mem (nearP N (waysOf N S) (segF S) (byOf N S)) _ hlen
 have hle:=minF_least (nearP N (waysOf N S) (segF S) (byOf N S)) (nearK N (waysOf N S) (segF S) (byOf N S)) (fun a b=>(nearP_le _ _ _ _ a b).1) (fun a b=>(nearP_le _ _ _ _ a b).2) hm0
 obtain ⟨k,hkn,hal,hke⟩:=mem_waL.1 hmm
 rw [hke] at hle
 obtain ⟨v,hv,hvn⟩:=alone_one hal
 obtain ⟨s,rfl,hsl,hsm⟩:=segK_some S S.length _ v hv
 have hby2:(byOf N S).getD s (0,0)=desF N (waysOf N S) (S.getD s []):=byOf_at N S hsl
 have hsS:S.getD s [] ∈ S:=by
  rw [List.getD_eq_getElem?_getD,List.getElem?_eq_getElem hsl]
  exact List.getElem_mem hsl
 have hdm2:=desF_mem (N:=N) (D:=waysOf N S) (seg:=S.getD s []) (List.length_pos_of_mem hsm)
 rw [Int.toNat_natCast,hby2] at hvn
 dsimp only at hvn
 obtain ⟨d1,d2,d3,d4⟩:=hok _ hsS _ hdm2
 have okm:=hok _ hsS _ hsm
 have pos2:=hpos _ okm
 obtain ⟨j,hj⟩:∃ j:Nat,(desF N (waysOf N S) (S.getD s [])).1=j:=⟨_,(Int.toNat_of_nonneg d1).symm⟩
 have hl2:=near_le (N:=N) (S:=S) (h:=⟨(desF N (waysOf N S) (S.getD s [])).1,(i:Int),costA N ((i:Int),(k:Int))⟩) (mem_hopsF.2 ⟨S.getD s [],hsS,mem_brF.2 ⟨_,hdm2,rfl⟩,_,hsm,fun e=>hvn e.symm,rfl⟩) (by
  unfold Hp.ok
  simp only [Bool.and_eq_true,decide_eq_true_eq]
  omega)
 dsimp only at hl2
 have n1:nearK N (waysOf N S) (segF S) (byOf N S) ((i:Int),(k:Int))=costW (waysOf N S) j+(costA N ((i:Int),(k:Int))).toNat:=by
  have hv':segF S ((i:Int),(k:Int))=some (s:Int):=hv
  unfold nearK
  rw [hv',Option.getD_some,Int.toNat_natCast,hby2,hj,Int.toNat_natCast]
 have n2:nearK N (waysOf N S) (segF S) (byOf N S) ((i:Int),(k0:Int))≤costW (waysOf N S) i:=by
  unfold nearK
  rw [fs,Option.getD_some,Int.toNat_natCast,hby]
  omega
 rw [hj,Int.toNat_natCast,Int.toNat_natCast] at hl2
 refine ⟨k,s,j,hkn,hal,?_,hsl,hsm,by rw [hby2,hj],by omega,hl2.1,by omega,pos2⟩
 unfold rolesOf roleF
 dsimp only
 rw [if_pos ⟨hr,hlen⟩,hke,Int.toNat_natCast]
theorem zero_fp:∀ w,(zeroValue 59).run Try.prog w=.ok (.agg PZ2) w:=(zero_of_info (P:=Try.prog) (t:=59) (v:=.agg PZ2) (n:=2) (by kernel_rfl)).1
theorem size_fp:(Try.prog.info? 59).map (·.size)=some 2:=by kernel_rfl
theorem node_open {w:World} {nv:Value} {N:List Nd} (h:NodesAt w nv N) (h1:1≤N.length):∃ nb no ncap,nv=.slice (some ⟨nb,no,none⟩) N.length ncap∧(∀ W',Ext w W'→∀ i,i < N.length→W'.cell? ⟨nb,no+i*3,none⟩=some (.int .u64 (idA N i))) ∧
    ∀ i,i < N.length→∃ a cap,(∀ W',Ext w W'→W'.cell? ⟨nb,no+i*3+2,none⟩=some (.slice a (npA N i) cap))∧(0 < npA N i→∃ pb po,a=some ⟨pb,po,none⟩∧∀ W',Ext w W'→∀ k,k < npA N i→W'.cell? ⟨pb,po+k*5+1,none⟩=some (.int .u32 (ptA N i k).cost)):=by
 obtain ⟨pv,⟨na,ncap,rfl,hnm,hnf⟩,hpt⟩:=h
 obtain ⟨nb,no,rfl,hb,-,-,h3⟩:=hnf (by omega)
 refine ⟨nb,no,ncap,rfl,fun W' hx i hi=>?_,fun i hi=>?_⟩
 ·have:=h3 i hi 0 _ rfl
  rw [Nat.add_zero] at this
  exact (hx.cell hb).trans this
 ·obtain ⟨a,cap,e,-,hf⟩:=hpt i hi
  refine ⟨a,cap,fun W' hx=>?_,fun h0=>?_⟩
  ·have:=h3 i hi 2 _ rfl
   rw [e] at this
   exact (hx.cell hb).trans this
  ·obtain ⟨pb,po,e1,hpb,-,-,h4⟩:=hf h0
   exact ⟨pb,po,e1,fun W' hx k hk=>(hx.cell hpb).trans (h4 k hk 1 _ rfl)⟩
theorem segs_open {w:World} {sv:Value} {S:List (List Pl)} (h:SegsAt w sv S) (h1:1≤S.length):∃ sb so scap,sv=.slice (some ⟨sb,so,none⟩) S.length scap ∧
    ∀ i,i < S.length→∃ a cap,(∀ W',Ext w W'→W'.cell? ⟨sb,so+i,none⟩=some (.slice a (S.getD i []).length cap))∧(0 < (S.getD i []).length→∃ pb po,a=some ⟨pb,po,none⟩∧∀ W',Ext w W'→∀ k,k < (S.getD i []).length→W'.rangeAt pb (po+k*2) (plL ((S.getD i []).getD k (0,0)))):=by
 obtain ⟨pv,⟨sa,scap,rfl,hsm,hsf⟩,hpl⟩:=h
 obtain ⟨sb,so,rfl,hb,-,-,h3⟩:=hsf (by omega)
 refine ⟨sb,so,scap,rfl,fun i hi=>?_⟩
 obtain ⟨a,cap,e,-,hf⟩:=hpl i hi
 refine ⟨a,cap,fun W' hx=>?_,fun h0=>?_⟩
 ·have:=h3 i hi 0 _ rfl
  rw [Nat.add_zero,Nat.mul_one,e] at this
  exact (hx.cell hb).trans this
 ·obtain ⟨pb,po,e1,hpb,-,-,h4⟩:=hf h0
  exact ⟨pb,po,e1,fun W' hx k hk=>rangeR_ext (h4 k hk) hx hpb⟩
theorem NetOk.pos {N:List Nd} {S:List (List Pl)} (h:NetOk N S):∀ p,PlOk N p→1≤costA N p:=fun p hp=>by
 obtain ⟨h1,h2,h3,h4⟩:=hp
 have hi:p.1.toNat < N.length:=by omega
 have hN:N.getD p.1.toNat default ∈ N:=by
  rw [List.getD_eq_getElem?_getD,List.getElem?_eq_getElem hi]
  exact List.getElem_mem hi
 have hk:p.2.toNat < (N.getD p.1.toNat default).ports.length:=by omega
 have hP:(N.getD p.1.toNat default).ports.getD p.2.toNat default ∈ (N.getD p.1.toNat default).ports:=by
  rw [List.getD_eq_getElem?_getD (l:=(N.getD p.1.toNat default).ports),List.getElem?_eq_getElem hk]
  exact List.getElem_mem hk
 obtain ⟨a,b,c⟩:=(h.nodes.1 _ hN).2.2.1 _ hP
 unfold costA
 omega
theorem at0_put (l:List Int) (k j:Nat) (x:Int) (hk:k < l.length):at0 (l.set k x) j=if k=j then x else at0 l j:=by
 unfold at0
 rw [List.getD_eq_getElem?_getD,List.getD_eq_getElem?_getD,List.getElem?_set]
 by_cases e:k=j
 ·subst e
  rw [if_pos rfl,if_pos rfl,if_pos hk]
  rfl
 ·rw [if_neg e,if_neg e]
theorem cost_own {N:List Nd} {S0:List (List Pl)} (h:NetOk N S0) (U:List Bool) {i:Nat} (hi:i < N.length) (hr:at0 (planF N (raisedL U S0)).root i=idA N i):at0 (planF N (raisedL U S0)).cost i=0:=by
 rw [root_at hi] at hr
 have hrg:=rootsOf_rng N (raisedL U S0) i hi
 have e2:=h.ids _ _ (by omega) hi hr
 rw [cost_at hi]
 obtain ⟨r,q,e,l,b,c⟩:=cost_best (N:=N) (S:=raisedL U S0) hi
 obtain rfl:r=i:=by omega
 have:=b.2 _ .here
 unfold Le at this
 dsimp only at this
 omega
def cmpV (x y:Int):Int:=if x < y then -1 else if y < x then 1 else 0
def firstNZ:List Int→Int
 | []=>0
 | x :: l=>if x=0 then firstNZ l else x
theorem two_held (r c b p x r' c' b' p' x':Int) {w:World} {t:TypeId} {w':World} (hx:Ext ((w.alloc (.cells #[.int .u64 r,.int .u32 c,.int .u64 b,.int .u16 p,.int .u16 x] t)).alloc (.cells #[.int .u64 r',.int .u32 c',.int .u64 b',.int .u16 p',.int .u16 x'] t)) w') :
    (w'.cell? ⟨w.heap.size,0,none⟩=some (.int .u64 r)∧w'.cell? ⟨w.heap.size,1,none⟩=some (.int .u32 c)∧w'.cell? ⟨w.heap.size,2,none⟩=some (.int .u64 b)∧w'.cell? ⟨w.heap.size,3,none⟩=some (.int .u16 p)∧w'.cell? ⟨w.heap.size,4,none⟩=some (.int .u16 x))∧(w'.cell? ⟨w.heap.size+1,0,none⟩=some (.int .u64 r')∧w'.cell? ⟨w.heap.size+1,1,none⟩=some (.int .u32 c')∧w'.cell? ⟨w.heap.size+1,2,none⟩=some (.int .u64 b')∧w'.cell? ⟨w.heap.size+1,3,none⟩=some (.int .u16 p')∧w'.cell? ⟨w.heap.size+1,4,none⟩=some (.int .u16 x')):=by
 have o:∀ j,w'.cell? ⟨w.heap.size,j,none⟩=#[.int .u64 r,.int .u32 c,.int .u64 b,.int .u16 p,.int .u16 x][j]?:=fun j=>(hx.cell (by simp; omega)).trans ((World.cell?_alloc_past _ _ _ (by simp)).trans (World.cell?_alloc_at _ _ _ _ rfl))
 have n:∀ j,w'.cell? ⟨w.heap.size+1,j,none⟩=#[.int .u64 r',.int .u32 c',.int .u64 b',.int .u16 p',.int .u16 x'][j]?:=fun j=>(hx.cell (by simp)).trans (World.cell?_alloc_at _ _ _ _ (by simp))
 exact ⟨⟨o 0,o 1,o 2,o 3,o 4⟩,n 0,n 1,n 2,n 3,n 4⟩
def c4 (r c b p r' c' b' p':Int):Int:=firstNZ [cmpV r r',cmpV c c',cmpV b b',cmpV p p']
def c5 (r c b p x r' c' b' p' x':Int):Int:=firstNZ [cmpV r r',cmpV c c',cmpV b b',cmpV p p',cmpV x x']
theorem cmpV_rg (x y:Int):-1≤cmpV x y∧cmpV x y≤1∧(cmpV x y < 0↔x < y)∧(cmpV x y=0↔x=y)∧(0 < cmpV x y↔y < x):=by unfold cmpV; (repeat' split) <;> omega
theorem c4_rg (r c b p r' c' b' p':Int):-1≤c4 r c b p r' c' b' p'∧c4 r c b p r' c' b' p'≤1∧(c4 r c b p r' c' b' p' < 0↔r < r'∨r=r'∧(c < c'∨c=c'∧(b < b'∨b=b'∧p < p')))∧(c4 r c b p r' c' b' p'=0↔r=r'∧c=c'∧b=b'∧p=p'):=by
 have h1:=cmpV_rg r r'
 have h2:=cmpV_rg c c'
 have h3:=cmpV_rg b b'
 have h4:=cmpV_rg p p'
 unfold c4
 simp only [firstNZ]
 generalize cmpV r r'=q1 at *
 generalize cmpV c c'=q2 at *
 generalize cmpV b b'=q3 at *
 generalize cmpV p p'=q4 at *
 (repeat' split) <;> omega
theorem c5_c4 (r c b p x r' c' b' p' x':Int):c5 r c b p x r' c' b' p' x'=if c4 r c b p r' c' b' p'=0 then cmpV x x' else c4 r c b p r' c' b' p':=by
 unfold c5 c4
 simp only [firstNZ]
 (repeat' split) <;> simp_all
theorem c5_rg (r c b p x r' c' b' p' x':Int):-1≤c5 r c b p x r' c' b' p' x'∧c5 r c b p x r' c' b' p' x'≤1∧(c5 r c b p x r' c' b' p' x' < 0↔r < r'∨r=r'∧(c < c'∨c=c'∧(b < b'∨b=b'∧(p < p'∨p=p'∧x < x'))))∧(c5 r c b p x r' c' b' p' x'=0↔r=r'∧c=c'∧b=b'∧p=p'∧x=x'):=by
 have h1:=c4_rg r c b p r' c' b' p'
 have h2:=cmpV_rg x x'
 rw [c5_c4]
 generalize c4 r c b p r' c' b' p'=q1 at *
 generalize cmpV x x'=q2 at *
 split <;> omega
def thr (c q:Int):Int:=if c+q≤4294967295 then c+q else 4294967295
theorem ref_same (r c b p x r' c' b' p' x':Int) (w:World) :
    Calls Try.prog 44 #[.agg #[.int .u64 r,.int .u32 c,.int .u64 b,.int .u16 p,.int .u16 x],.agg #[.int .u64 r',.int .u32 c',.int .u64 b',.int .u16 p',.int .u16 x']] w fun e w'=>e=.returned (.bool (c4 r c b p r' c' b' p' == 0))∧Ext w w':=by
 have g4:=c4_rg r c b p r' c' b' p'
 cases f1:(r == r') <;> cases f2:(c == c') <;> cases f3:(b == b')
 all_goals
  refine asb (x:=(r == r') && (c == c') && (b == b') && (p == p')) ?_ (by rw [Bool.eq_iff_iff]; simp only [Bool.and_eq_true,beq_iff_eq]; omega)
  rw [f1,f2,f3]
  clear g4
  go_enter Try.func44,Try.ntmps44
  go_wp2
  go_ret
  exact ⟨retB (by simp),((Ext.refl w).alloc _).alloc _⟩
theorem ref_less (r c b p x r' c' b' p' x':Int) (w:World) :
    Calls Try.prog 43 #[.agg #[.int .u64 r,.int .u32 c,.int .u64 b,.int .u16 p,.int .u16 x],.agg #[.int .u64 r',.int .u32 c',.int .u64 b',.int .u16 p',.int .u16 x']] w fun e w'=>e=.returned (.bool (decide (c4 r c b p r' c' b' p' < 0)))∧Ext w w':=by
 have g4:=c4_rg r c b p r' c' b' p'
 by_cases h1:r=r'
 ·subst h1
  by_cases h2:c=c'
  ·subst h2
   by_cases h3:b=b'
   ·subst h3
    refine asb (x:=decide (p < p')) ?_ (by rw [decide_eq_decide]; omega)
    clear g4
    go_enter Try.func43,Try.ntmps43
    go_wp2
    go_ret
    exact ⟨rfl,((Ext.refl w).alloc _).alloc _⟩
   ·refine asb (x:=decide (b < b')) ?_ (by rw [decide_eq_decide]; omega)
    have hn:(b != b')=true:=by simpa using h3
    clear g4
    go_enter Try.func43,Try.ntmps43
    go_wp2
    go_ret
    exact ⟨rfl,((Ext.refl w).alloc _).alloc _⟩
  ·refine asb (x:=decide (c < c')) ?_ (by rw [decide_eq_decide]; omega)
   have hn:(c != c')=true:=by simpa using h2
   clear g4
   go_enter Try.func43,Try.ntmps43
   go_wp2
   go_ret
   exact ⟨rfl,((Ext.refl w).alloc _).alloc _⟩
 ·refine asb (x:=decide (r < r')) ?_ (by rw [decide_eq_decide]; omega)
  have hn:(r != r')=true:=by simpa using h1
  clear g4
  go_enter Try.func43,Try.ntmps43
  go_wp2
  go_ret
  exact ⟨rfl,((Ext.refl w).alloc _).alloc _⟩
set_option maxHeartbeats 1600000 in
theorem ref_cmp (r c b p x r' c' b' p' x':Int) (w:World) :
    Calls Try.prog 28 #[.agg #[.int .u64 r,.int .u32 c,.int .u64 b,.int .u16 p,.int .u16 x],.agg #[.int .u64 r',.int .u32 c',.int .u64 b',.int .u16 p',.int .u16 x']] w fun e w'=>e=.returned (.int .i64 (c5 r c b p x r' c' b' p' x'))∧Ext w w':=by
 have hS:=Lib.hid (fun w' (hx:Ext ((w.alloc (.cells #[.int .u64 r,.int .u32 c,.int .u64 b,.int .u16 p,.int .u16 x] 90)).alloc (.cells #[.int .u64 r',.int .u32 c',.int .u64 b',.int .u16 p',.int .u16 x'] 90)) w')=>two_held r c b p x r' c' b' p' x' hx)
 have g4:=c4_rg r c b p r' c' b' p'
 have g5:=c5_rg r c b p x r' c' b' p' x'
 obtain ⟨z,hz⟩:∃ z:Int,c5 r c b p x r' c' b' p' x'=z:=⟨_,rfl⟩
 rw [hz] at g5 ⊢
 clear hz
 obtain ⟨e1,f1⟩:∃ e1:Bool,decide (c4 r c b p r' c' b' p' < 0)=e1:=⟨_,rfl⟩
 obtain ⟨e2,f2⟩:∃ e2:Bool,(c4 r c b p r' c' b' p' == 0)=e2:=⟨_,rfl⟩
 obtain ⟨e3,f3⟩:∃ e3:Bool,decide (x < x')=e3:=⟨_,rfl⟩
 obtain ⟨e4,f4⟩:∃ e4:Bool,(x == x')=e4:=⟨_,rfl⟩
 have hz:z=if (e1 || e2 && e3)=true then -1 else if (e2 && e4)=true then 0 else 1:=by
  subst f1 f2 f3 f4
  simp only [Bool.or_eq_true,Bool.and_eq_true,decide_eq_true_eq,beq_iff_eq]
  split
  ·omega
  ·split <;> omega
 have F1:=Lib.hid f1
 have F2:=Lib.hid f2
 have HZ:=Lib.hid hz
 clear g4 g5 f1 f2 hz
 cases e1 <;> cases e2 <;> cases e3 <;> cases e4
 all_goals
  go_enter Try.func28,Try.ntmps28
  go_wp2_with fail
  refine (asb (ref_less _ _ _ _ _ _ _ _ _ _ _) F1.out).mono ?_
  rintro e w1 ⟨rfl,h1⟩
  have K:=hS.out _ h1
  go_wp2_with fail
  refine (asb (ref_same _ _ _ _ _ _ _ _ _ _ _) F2.out).mono ?_
  rintro e w2 ⟨rfl,h2⟩
  clear K
  have K:=hS.out _ (h1.trans h2)
  go_wp2
  go_ret
  exact ⟨retI (by rw [HZ.out]; rfl),(((Ext.refl w).alloc _).alloc _).trans (h1.trans h2)⟩
theorem ref_through (r c b p x q z:Int) (w:World) (hc:0≤c∧c < 4294967296) (hq:0≤q∧q < 4294967296) :
    Calls Try.prog 26 #[.agg #[.int .u64 r,.int .u32 c,.int .u64 b,.int .u16 p,.int .u16 x],.int .u32 q,.int .u16 z] w fun e w'=>e=.returned (.agg #[.int .u64 r,.int .u32 (thr c q),.int .u64 b,.int .u16 p,.int .u16 z])∧Ext w w':=by
 obtain ⟨hc0,hc1⟩:=hc
 obtain ⟨hq0,hq1⟩:=hq
 by_cases h:c+q≤4294967295
 ·refine asv (v:=.agg #[.int .u64 r,.int .u32 (c+q),.int .u64 b,.int .u16 p,.int .u16 z]) ?_ (by simp [thr,h])
  go_enter Try.func26,Try.ntmps26
  go_wp2
  exact bodyPost_ret (v:=.agg #[.int .u64 r,.int .u32 (c+q),.int .u64 b,.int .u16 p,.int .u16 z]) (by simp [results,Try.results26,go_sem]) rfl ⟨rfl,((Ext.refl w).alloc _).alloc _⟩
 ·refine asv (v:=.agg #[.int .u64 r,.int .u32 4294967295,.int .u64 b,.int .u16 p,.int .u16 z]) ?_ (by simp [thr,h])
  go_enter Try.func26,Try.ntmps26
  go_wp2
  exact bodyPost_ret (v:=.agg #[.int .u64 r,.int .u32 4294967295,.int .u64 b,.int .u16 p,.int .u16 z]) (by simp [results,Try.results26,go_sem]) rfl ⟨rfl,((Ext.refl w).alloc _).alloc _⟩
structure Vc where
 root:Int
 cost:Int
 br:Int
 port:Int
 rx:Int
 deriving Inhabited,DecidableEq
def vcL (v:Vc):List Value:=[.int .u64 v.root,.int .u32 v.cost,.int .u64 v.br,.int .u16 v.port,.int .u16 v.rx]
def vcA (v:Vc):Array Value:=#[.int .u64 v.root,.int .u32 v.cost,.int .u64 v.br,.int .u16 v.port,.int .u16 v.rx]
def VsAt (w:World) (v:Value) (V:List Vc):Prop:=RowAt w v V.length 5 (fun i=>vcL (V.getD i default))
def VZ5:Array Value:=#[.int .u64 0,.int .u32 0,.int .u64 0,.int .u16 0,.int .u16 0]
theorem zero_vc:∀ w,(zeroValue 90).run Try.prog w=.ok (.agg VZ5) w:=(zero_of_info (P:=Try.prog) (t:=90) (v:=.agg VZ5) (n:=5) (by kernel_rfl)).1
theorem size_vc:(Try.prog.info? 90).map (·.size)=some 5:=by kernel_rfl
theorem bl_tell (a b c d:Int):Try.prog.built 90 [(0,.int .u64 a),(1,.int .u32 b),(2,.int .u64 c),(3,.int .u16 d)]=some #[.int .u64 a,.int .u32 b,.int .u64 c,.int .u16 d,.int .u16 0]:=by kernel_rfl
def NDZ3:Array Value:=#[.int .u64 0,.bool false,.slice none 0 0]
theorem zero_nd3:∀ w,(zeroValue 63).run Try.prog w=.ok (.agg NDZ3) w:=(zero_of_info (P:=Try.prog) (t:=63) (v:=.agg NDZ3) (n:=3) (by kernel_rfl)).1
theorem size_nd3:(Try.prog.info? 63).map (·.size)=some 3:=by kernel_rfl
theorem size_rn3:(Try.prog.info? 32).map (·.size)=some 9:=by kernel_rfl
def tellF (N:List Nd) (V:List Vc) (p:Pl):Vc:=⟨(V.getD p.1.toNat default).root,(V.getD p.1.toNat default).cost,idA N p.1.toNat,(ptA N p.1.toNat p.2.toNat).pid,0⟩
def c4V (a b:Vc):Int:=c4 a.root a.cost a.br a.port b.root b.cost b.br b.port
def cfV (N:List Nd) (V:List Vc) (a b:Pl):Int:=c4V (tellF N V a) (tellF N V b)
def bestF (N:List Nd) (V:List Vc) (seg:List Pl):Pl:=minF (cfV N V) seg
theorem node_row {w:World} {nb no n ncap:Nat} {N:List Nd} (h:NodesAt w (.slice (some ⟨nb,no,none⟩) n ncap) N) (hn:N.length=n) {i:Nat} (hi:i < n):∃ rst pa pcap,(∀ W',Ext w W'→W'.rangeAt nb (no+i*3) [.int .u64 (idA N i),.bool rst,.slice pa (npA N i) pcap]) ∧
    (0 < npA N i→∃ pb po,pa=some ⟨pb,po,none⟩∧∀ W',Ext w W'→∀ k,k < npA N i→W'.rangeAt pb (po+k*5) (ptA N i k).L):=by
 obtain ⟨pv,⟨na,ncap',e,hnm,hnf⟩,hpt⟩:=h
 obtain ⟨nb',no',rfl,hb,-,-,h3⟩:=hnf (by omega)
 simp only [Value.slice.injEq,Option.some.injEq,Addr.mk.injEq] at e
 obtain ⟨⟨rfl,rfl,-⟩,-,rfl⟩:=e
 obtain ⟨a,cap,e2,-,hf⟩:=hpt i (by omega)
 refine ⟨(N.getD i default).rst,a,cap,fun W' hx=>?_,fun h0=>?_⟩
 ·have h4:w.rangeAt nb (no+i*3) [.int .u64 (N.getD i default).id,.bool (N.getD i default).rst,pv i]:=h3 i (by omega)
  rw [e2] at h4
  exact rangeR_ext h4 hx hb
 ·obtain ⟨pb,po,e1,hpb,-,-,h4⟩:=hf h0
  exact ⟨pb,po,e1,fun W' hx k hk=>rangeR_ext (h4 k hk) hx hpb⟩
theorem vec_row {w:World} {vv:Value} {V:List Vc} (h:VsAt w vv V) (h1:1≤V.length):∃ vb vo vcap,vv=.slice (some ⟨vb,vo,none⟩) V.length vcap∧∀ W',Ext w W'→∀ i,i < V.length→W'.rangeAt vb (vo+i*5) (vcL (V.getD i default)):=by
 obtain ⟨a,cap,rfl,-,hf⟩:=h
 obtain ⟨b,off,rfl,hb,-,-,h3⟩:=hf (by omega)
 exact ⟨b,off,cap,rfl,fun W' hx i hi=>rangeR_ext (h3 i hi) hx hb⟩
set_option maxRecDepth 100000 in
set_option maxHeartbeats 4000000 in
theorem ftold_any (t0 t1 t2 t3 hold room age:Int) (nb no n ncap i k:Nat) (sv vv:Value) (N:List Nd) (V:List Vc) (w:World) (hN:NodesAt w (.slice (some ⟨nb,no,none⟩) n ncap) N) (hn:N.length=n) (hV:VsAt w vv V) (hVn:V.length=n) (hi:i < n) (hk:k < npA N i) (hs1:sv.oneCell'=true) :
    Calls Try.prog 27 #[.agg #[.int .i64 t0,.int .i64 t1,.int .i64 t2,.int .i64 t3,.int .i64 hold,.int .i64 room,.int .i64 age,.slice (some ⟨nb,no,none⟩) n ncap,sv],vv,.agg #[.int .i64 (i:Int),.int .i64 (k:Int)]] w fun e w'=>e=.returned (.agg (vcA (tellF N V ((i:Int),(k:Int)))))∧Ext w w':=by
 obtain ⟨vb,vo,vcap,rfl,hvr⟩:=vec_row hV (by omega)
 rw [hVn] at hvr ⊢
 obtain ⟨rst,pa,pcap,hnr,hpr⟩:=node_row hN hn hi
 obtain ⟨pb,po,rfl,hpk⟩:=hpr (by omega)
 obtain ⟨va,hva⟩:∃ v,V.getD i default=v:=⟨_,rfl⟩
 have hv1:∀ W',Ext w W'→W'.rangeAt vb (vo+i*5) (vcL va):=fun W' hx=>by rw [← hva]; exact hvr W' hx i hi
 have hp1:∀ W',Ext w W'→W'.rangeAt pb (po+k*5) (ptA N i k).L:=fun W' hx=>hpk W' hx k hk
 have HE0:tellF N V ((i:Int),(k:Int))=⟨va.root,va.cost,idA N i,(ptA N i k).pid,0⟩:=by
  unfold tellF
  rw [Int.toNat_natCast,Int.toNat_natCast,hva]
 rw [HE0]
 show Calls Try.prog 27 _ w fun e w'=>e=.returned (.agg #[.int .u64 va.root,.int .u32 va.cost,.int .u64 (idA N i),.int .u16 (ptA N i k).pid,.int .u16 0])∧Ext w w'
 obtain ⟨id,hid⟩:∃ x,idA N i=x:=⟨_,rfl⟩
 obtain ⟨pt,hpt⟩:∃ x,ptA N i k=x:=⟨_,rfl⟩
 obtain ⟨np,hnp⟩:∃ x,npA N i=x:=⟨_,rfl⟩
 rw [hid,hnp] at hnr
 rw [hpt] at hp1
 rw [hid,hpt]
 rw [hnp] at hk
 have HNR:=Lib.hid hnr
 have HV1:=Lib.hid hv1
 have HP1:=Lib.hid hp1
 have HS1:=Lib.hid hs1
 clear hN hn hV hVn hvr hnr hpr hpk hva hv1 hp1 HE0 hs1 hid hpt hnp
 go_enter Try.func27,Try.ntmps27
 go_wp2_with (first
  | fail
  | ((with_reducible refine at_box 32 ?_); refine bx_row rfl 32 _ rfl #[.int .i64 t0,.int .i64 t1,.int .i64 t2,.int .i64 t3,.int .i64 hold,.int .i64 room,.int .i64 age,.slice (some ⟨nb,no,none⟩) n ncap,sv] rfl ?_
     intro X w1 hX hsz hx1
     have HX1:=Lib.hid (show BoxAt w1 X #[.int .i64 t0,.int .i64 t1,.int .i64 t2,.int .i64 t3,.int .i64 hold,.int .i64 room,.int .i64 age,.slice (some ⟨nb,no,none⟩) n ncap,sv] 32 from hX)
     have HE1:=Lib.hid hx1
     clear hX hsz hx1)
  | ((with_reducible refine at_box 59 ?_); refine bx_row rfl 59 _ rfl #[.int .i64 (i:Int),.int .i64 (k:Int)] rfl ?_
     intro Y w2 hY hsz hx2
     have HY2:=Lib.hid (show BoxAt w2 Y #[.int .i64 (i:Int),.int .i64 (k:Int)] 59 from hY)
     have HX2:=Lib.hid (HX1.out.ext hx2)
     have HE2:=Lib.hid (HE1.out.trans hx2)
     clear hY hsz hx2)
  | ((with_reducible refine at_alloc 90 ?_); refine al_zero rfl 90 rfl VZ5 zero_vc ?_
     intro R w3 hq hsz hx
     have HR3:=Lib.hid (show BoxAt w3 R VZ5 90 from hq)
     have HX3:=Lib.hid (HX2.out.ext hx)
     have HY3:=Lib.hid (HY2.out.ext hx)
     have HRW:=Lib.hid (show w.heap.size≤R from by have:=HE2.out.size; omega)
     have HE3:=Lib.hid (HE2.out.trans hx)
     have x7:w3.cell? ⟨X,7,none⟩=some (.slice (some ⟨nb,no,none⟩) n ncap):=HX3.out.cell 7 rfl
     have y0:w3.cell? ⟨Y,0,none⟩=some (.int .i64 (i:Int)):=HY3.out.cell 0 rfl
     clear hq hsz hx)
  | ((with_reducible refine at_load 63 ?_); refine wpList_load_mid rfl 63 _ rfl nb (no+i*3) rfl [.int .u64 id,.bool rst,.slice (some ⟨pb,po,none⟩) np pcap] _ (HNR.out _ HE3.out) Try.underlying63 rfl size_nd3 ?_)
  | ((with_reducible refine at_alloc 63 ?_); refine al_zero rfl 63 rfl NDZ3 zero_nd3 ?_
     intro G w4 hq4 hsz4 hx4)
  | ((with_reducible refine at_store 63 ?_); refine st_at rfl rfl 63 _ _ rfl G 0 _ #[.int .u64 id,.bool rst,.slice (some ⟨pb,po,none⟩) np pcap] NDZ3 #[.int .u64 id,.bool rst,.slice (some ⟨pb,po,none⟩) np pcap] 63 rfl rfl rfl hq4 (by exact (by decide:0+3≤3)) (by kernel_rfl) rfl rfl ?_
     intro w5 hq5 hm5
     have E5:Ext w3 w5:=hx4.mutE hm5 (fun j hj h=>by have h2:j=G:=h; omega)
     have HG:=Lib.hid (show BoxAt w5 G #[.int .u64 id,.bool rst,.slice (some ⟨pb,po,none⟩) np pcap] 63 from hq5)
     have HR5:=Lib.hid (HR3.out.ext E5)
     have HX5:=Lib.hid (HX3.out.ext E5)
     have HY5:=Lib.hid (HY3.out.ext E5)
     have HE5:=Lib.hid (HE3.out.trans E5)
     clear hq4 hsz4 hx4 hq5 hm5 E5 x7 y0 HR3 HX3 HY3 HE3 HX1 HX2 HY2 HE1 HE2))
 refine beginZ (S:=fun W'=>Ext w5 W'∧W'.heap[R]?=some (.cells VZ5 90 (0,0))) 22 (by kernel_rfl) ?_
 intro wd hqx
 have hq0:Ext w5 wd∧wd.heap[R]?=some (.cells VZ5 90 (0,0)):=⟨hqx,(hqx.block R (heap_lt HR5.out)).trans HR5.out⟩
 refine takeZ (i:=0) (z:=22) (v:=(.slice (some ⟨vb,vo,none⟩) n vcap)) rfl rfl (by kernel_rfl) (by kernel_rfl) (by kernel_rfl) (by kernel_rfl) (by kernel_rfl) (by kernel_rfl) (fun _ _ _ h=>h) (Or.inl ⟨rfl,fun _ _=>rfl⟩) hq0 ?_
 simp only [ps]
 refine takeZ (i:=1) (z:=22) (v:=(.pointer (some ⟨Y,0,none⟩))) rfl rfl (by kernel_rfl) (by kernel_rfl) (by kernel_rfl) (by kernel_rfl) (by kernel_rfl) (by kernel_rfl) (fun _ _ _ h=>h) (Or.inl ⟨rfl,fun _ _=>rfl⟩) hq0 ?_
 simp only [ps]
 refine takeZ (i:=2) (z:=22) (v:=_) rfl rfl (by kernel_rfl) (by kernel_rfl) (by kernel_rfl) (by kernel_rfl) (by kernel_rfl) (by kernel_rfl) (fun _ _ _ h=>h) (yieldsIf_cell rfl 3 _ rfl ⟨Y,0,none⟩ rfl (.int .i64 (i:Int)) _ (fun W' hW'=>(HY5.out.ext hW'.1).cell 0 rfl) Try.underlying3 rfl) hq0 ?_
 simp only [ps]
 refine takeZ (i:=3) (z:=22) (v:=(.pointer (some ⟨vb,vo+i*5,none⟩))) rfl rfl (by kernel_rfl) (by kernel_rfl) (by kernel_rfl) (by kernel_rfl) (by kernel_rfl) (by kernel_rfl) (fun _ _ _ h=>h) (Or.inl ⟨rfl,fun W' _=>by go_simp <;> (intro h; omega)⟩) hq0 ?_
 simp only [ps]
 refine takeZ (i:=4) (z:=22) (v:=(.pointer (some ⟨vb,vo+i*5,none⟩))) rfl rfl (by kernel_rfl) (by kernel_rfl) (by kernel_rfl) (by kernel_rfl) (by kernel_rfl) (by kernel_rfl) (fun _ _ _ h=>h) (Or.inl ⟨rfl,fun _ _=>rfl⟩) hq0 ?_
 simp only [ps]
 refine takeZ (i:=5) (z:=22) (v:=_) rfl rfl (by kernel_rfl) (by kernel_rfl) (by kernel_rfl) (by kernel_rfl) (by kernel_rfl) (by kernel_rfl) (fun _ _ _ h=>h) (yieldsIf_cell rfl 53 _ rfl ⟨vb,vo+i*5,none⟩ rfl (.int .u64 va.root) _ (fun W' hW'=>by have h:=HV1.out W' (HE5.out.trans hW'.1) 0 _ rfl; simpa using h) Try.underlying53 rfl) hq0 ?_
 simp only [ps]
 refine takeZ (i:=6) (z:=22) (v:=(.slice (some ⟨vb,vo,none⟩) n vcap)) rfl rfl (by kernel_rfl) (by kernel_rfl) (by kernel_rfl) (by kernel_rfl) (by kernel_rfl) (by kernel_rfl) (fun _ _ _ h=>h) (Or.inl ⟨rfl,fun _ _=>rfl⟩) hq0 ?_
 simp only [ps]
 refine takeZ (i:=7) (z:=22) (v:=(.pointer (some ⟨Y,0,none⟩))) rfl rfl (by kernel_rfl) (by kernel_rfl) (by kernel_rfl) (by kernel_rfl) (by kernel_rfl) (by kernel_rfl) (fun _ _ _ h=>h) (Or.inl ⟨rfl,fun _ _=>rfl⟩) hq0 ?_
 simp only [ps]
 refine takeZ (i:=8) (z:=22) (v:=_) rfl rfl (by kernel_rfl) (by kernel_rfl) (by kernel_rfl) (by kernel_rfl) (by kernel_rfl) (by kernel_rfl) (fun _ _ _ h=>h) (yieldsIf_cell rfl 3 _ rfl ⟨Y,0,none⟩ rfl (.int .i64 (i:Int)) _ (fun W' hW'=>(HY5.out.ext hW'.1).cell 0 rfl) Try.underlying3 rfl) hq0 ?_
 simp only [ps]
 refine takeZ (i:=9) (z:=22) (v:=(.pointer (some ⟨vb,vo+i*5,none⟩))) rfl rfl (by kernel_rfl) (by kernel_rfl) (by kernel_rfl) (by kernel_rfl) (by kernel_rfl) (by kernel_rfl) (fun _ _ _ h=>h) (Or.inl ⟨rfl,fun W' _=>by go_simp <;> (intro h; omega)⟩) hq0 ?_
 simp only [ps]
 refine takeZ (i:=10) (z:=22) (v:=(.pointer (some ⟨vb,vo+i*5+1,none⟩))) rfl rfl (by kernel_rfl) (by kernel_rfl) (by kernel_rfl) (by kernel_rfl) (by kernel_rfl) (by kernel_rfl) (fun _ _ _ h=>h) (Or.inl ⟨rfl,fun _ _=>rfl⟩) hq0 ?_
 simp only [ps]
 refine takeZ (i:=11) (z:=22) (v:=_) rfl rfl (by kernel_rfl) (by kernel_rfl) (by kernel_rfl) (by kernel_rfl) (by kernel_rfl) (by kernel_rfl) (fun _ _ _ h=>h) (yieldsIf_cell rfl 54 _ rfl ⟨vb,vo+i*5+1,none⟩ rfl (.int .u32 va.cost) _ (fun W' hW'=>by have h:=HV1.out W' (HE5.out.trans hW'.1) 1 _ rfl; simpa using h) Try.underlying54 rfl) hq0 ?_
 simp only [ps]
 refine takeZ (i:=12) (z:=22) (v:=(.pointer (some ⟨G,0,none⟩))) rfl rfl (by kernel_rfl) (by kernel_rfl) (by kernel_rfl) (by kernel_rfl) (by kernel_rfl) (by kernel_rfl) (fun _ _ _ h=>h) (Or.inl ⟨rfl,fun _ _=>rfl⟩) hq0 ?_
 simp only [ps]
 refine takeZ (i:=13) (z:=22) (v:=_) rfl rfl (by kernel_rfl) (by kernel_rfl) (by kernel_rfl) (by kernel_rfl) (by kernel_rfl) (by kernel_rfl) (fun _ _ _ h=>h) (yieldsIf_cell rfl 53 _ rfl ⟨G,0,none⟩ rfl (.int .u64 id) _ (fun W' hW'=>(HG.out.ext hW'.1).cell 0 rfl) Try.underlying53 rfl) hq0 ?_
 simp only [ps]
 refine takeZ (i:=14) (z:=22) (v:=(.pointer (some ⟨G,2,none⟩))) rfl rfl (by kernel_rfl) (by kernel_rfl) (by kernel_rfl) (by kernel_rfl) (by kernel_rfl) (by kernel_rfl) (fun _ _ _ h=>h) (Or.inl ⟨rfl,fun _ _=>rfl⟩) hq0 ?_
 simp only [ps]
 refine takeZ (i:=15) (z:=22) (v:=_) rfl rfl (by kernel_rfl) (by kernel_rfl) (by kernel_rfl) (by kernel_rfl) (by kernel_rfl) (by kernel_rfl) (fun _ _ _ h=>h) (yieldsIf_cell rfl 61 _ rfl ⟨G,2,none⟩ rfl (.slice (some ⟨pb,po,none⟩) np pcap) _ (fun W' hW'=>(HG.out.ext hW'.1).cell 2 rfl) Try.underlying61 rfl) hq0 ?_
 simp only [ps]
 refine takeZ (i:=16) (z:=22) (v:=(.pointer (some ⟨Y,1,none⟩))) rfl rfl (by kernel_rfl) (by kernel_rfl) (by kernel_rfl) (by kernel_rfl) (by kernel_rfl) (by kernel_rfl) (fun _ _ _ h=>h) (Or.inl ⟨rfl,fun _ _=>rfl⟩) hq0 ?_
 simp only [ps]
 refine takeZ (i:=17) (z:=22) (v:=_) rfl rfl (by kernel_rfl) (by kernel_rfl) (by kernel_rfl) (by kernel_rfl) (by kernel_rfl) (by kernel_rfl) (fun _ _ _ h=>h) (yieldsIf_cell rfl 3 _ rfl ⟨Y,1,none⟩ rfl (.int .i64 (k:Int)) _ (fun W' hW'=>(HY5.out.ext hW'.1).cell 1 rfl) Try.underlying3 rfl) hq0 ?_
 simp only [ps]
 refine takeZ (i:=18) (z:=22) (v:=(.pointer (some ⟨pb,po+k*5,none⟩))) rfl rfl (by kernel_rfl) (by kernel_rfl) (by kernel_rfl) (by kernel_rfl) (by kernel_rfl) (by kernel_rfl) (fun _ _ _ h=>h) (Or.inl ⟨rfl,fun W' _=>by go_simp <;> (intro h; omega)⟩) hq0 ?_
 simp only [ps]
 refine takeZ (i:=19) (z:=22) (v:=(.pointer (some ⟨pb,po+k*5,none⟩))) rfl rfl (by kernel_rfl) (by kernel_rfl) (by kernel_rfl) (by kernel_rfl) (by kernel_rfl) (by kernel_rfl) (fun _ _ _ h=>h) (Or.inl ⟨rfl,fun _ _=>rfl⟩) hq0 ?_
 simp only [ps]
 refine takeZ (i:=20) (z:=22) (v:=_) rfl rfl (by kernel_rfl) (by kernel_rfl) (by kernel_rfl) (by kernel_rfl) (by kernel_rfl) (by kernel_rfl) (fun _ _ _ h=>h) (yieldsIf_cell rfl 65 _ rfl ⟨pb,po+k*5,none⟩ rfl (.int .u16 pt.pid) _ (fun W' hW'=>by have h:=HP1.out W' (HE5.out.trans hW'.1) 0 _ rfl; simpa using h) Try.underlying65 rfl) hq0 ?_
 simp only [ps]
 refine takeZ (i:=21) (z:=22) (v:=(.agg #[.int .u64 va.root,.int .u32 va.cost,.int .u64 id,.int .u16 pt.pid,.int .u16 0])) rfl rfl (by kernel_rfl) (by kernel_rfl) (by kernel_rfl) (by kernel_rfl) (by kernel_rfl) (by kernel_rfl) (fun _ _ _ h=>h) (yieldsIf_build rfl 90 _ rfl [(0,.int .u64 va.root),(1,.int .u32 va.cost),(2,.int .u64 id),(3,.int .u16 pt.pid)] rfl #[.int .u64 va.root,.int .u32 va.cost,.int .u64 id,.int .u16 pt.pid,.int .u16 0] (bl_tell _ _ _ _)) hq0 ?_
 simp only [ps]
 refine runZl (z:=22) rfl rfl (by kernel_rfl) (fun K hK=>?_)
 refine wp_st_at rfl 90 _ _ rfl R 0 _ #[.int .u64 va.root,.int .u32 va.cost,.int .u64 id,.int .u16 pt.pid,.int .u16 0] _ #[.int .u64 va.root,.int .u32 va.cost,.int .u64 id,.int .u16 pt.pid,.int .u16 0] _ rfl rfl rfl hq0.2 (by exact (by decide:0+5≤5)) (by kernel_rfl) rfl rfl (fun ws22 hrow22 hm22=>?_)
 refine hK.out _ _ ?_
 try simp only [ps]
 clear hK K
 refine wpAnyH_done (by kernel_rfl) ?_ _
 go_wp2_with fail
 refine bodyPost_ret (results_cell_row rfl _ _ R _ _ (0,0) _ rfl hrow22 Try.underlying90 rfl size_vc) rfl ?_
 exact ⟨rfl,(HE5.out.trans hqx).mutE hm22 (fun j hj h=>by have h2:j=R:=h; have:=HRW.out; omega)⟩
theorem ftold_at (t0 t1 t2 t3 hold room age:Int) (nb no n ncap i k:Nat) (sv vv:Value) (N:List Nd) (V:List Vc) (tv:Vc) (w:World) (ht:tellF N V ((i:Int),(k:Int))=tv) (hN:NodesAt w (.slice (some ⟨nb,no,none⟩) n ncap) N) (hn:N.length=n) (hV:VsAt w vv V) (hVn:V.length=n) (hi:i < n) (hk:k < npA N i) (hs1:sv.oneCell'=true) :
    Calls Try.prog 27 #[.agg #[.int .i64 t0,.int .i64 t1,.int .i64 t2,.int .i64 t3,.int .i64 hold,.int .i64 room,.int .i64 age,.slice (some ⟨nb,no,none⟩) n ncap,sv],vv,.agg #[.int .i64 (i:Int),.int .i64 (k:Int)]] w fun e w'=>e=.returned (.agg #[.int .u64 tv.root,.int .u32 tv.cost,.int .u64 tv.br,.int .u16 tv.port,.int .u16 tv.rx])∧Ext w w':=by
 subst ht
 exact ftold_any t0 t1 t2 t3 hold room age nb no n ncap i k sv vv N V w hN hn hV hVn hi hk hs1
set_option maxRecDepth 100000 in
set_option maxHeartbeats 4000000 in
theorem fbest_any (t0 t1 t2 t3 hold room age:Int) (nb no n ncap sb so m cap:Nat) (sv vv:Value) (N:List Nd) (V:List Vc) (S:List Pl) (w:World) (hN:NodesAt w (.slice (some ⟨nb,no,none⟩) n ncap) N) (hn:N.length=n) (hV:VsAt w vv V) (hVn:V.length=n) (hs1:sv.oneCell'=true)
    (hS:PlAt w (.slice (some ⟨sb,so,none⟩) m cap) S) (hm:S.length=m) (hm1:1≤m∧m≤60) (hok:∀ p ∈ S,PlOk N p) :
    Calls Try.prog 25 #[.agg #[.int .i64 t0,.int .i64 t1,.int .i64 t2,.int .i64 t3,.int .i64 hold,.int .i64 room,.int .i64 age,.slice (some ⟨nb,no,none⟩) n ncap,sv],vv,.slice (some ⟨sb,so,none⟩) m cap] w fun e w'=>e=.returned (.agg #[.int .i64 (bestF N V S).1,.int .i64 (bestF N V S).2])∧Ext w w':=by
 obtain ⟨pa,pcap,hpe,hpm,hpf⟩:=hS
 obtain ⟨pb,po,rfl,hpb,hpc,hpc2,hp4⟩:=hpf (by omega)
 simp only [Value.slice.injEq,Option.some.injEq,Addr.mk.injEq] at hpe
 obtain ⟨⟨rfl,rfl,-⟩,-,rfl⟩:=hpe
 obtain ⟨cf,hcf⟩:∃ cf,cfV N V=cf:=⟨_,rfl⟩
 have hr0:=hp4 0 (by omega)
 obtain ⟨s0,hs0⟩:∃ s0,S.getD 0 (0,0)=s0:=⟨_,rfl⟩
 have HMF:=Lib.hid (show bestF N V S=minK cf S (m - 1) from by unfold bestF minF; rw [hm,hcf])
 have HR0:=Lib.hid (show w.rangeAt sb so [.int .i64 s0.1,.int .i64 s0.2] from by
  have h:=hr0
  rw [Nat.zero_mul,Nat.add_zero] at h
  rw [← hs0]
  exact h)
 have HS0:=Lib.hid hs0
 have HSB:=Lib.hid hpb
 have H4:=Lib.hid hp4
 have HM0:=Lib.hid hm
 have HN:=Lib.hid hN
 have HNN:=Lib.hid hn
 have HV:=Lib.hid hV
 have HVN:=Lib.hid hVn
 have HS1:=Lib.hid hs1
 have HOK:=Lib.hid hok
 have HCF:=Lib.hid hcf
 have hmm:=hm1.1
 have hm60:=hm1.2
 have HA0:=Lib.hid True.intro
 clear hr0 hs0 hpb hp4 hm hm1 hpf hN hn hV hVn hs1 hok hcf
 go_enter Try.func25,Try.ntmps25
 go_wp2_with (first
  | fail
  | ((with_reducible refine at_box 32 ?_); refine bx_row rfl 32 _ rfl #[.int .i64 t0,.int .i64 t1,.int .i64 t2,.int .i64 t3,.int .i64 hold,.int .i64 room,.int .i64 age,.slice (some ⟨nb,no,none⟩) n ncap,sv] rfl ?_
     intro X w0 hX hsz hx0
     have HX0:=Lib.hid (show BoxAt w0 X #[.int .i64 t0,.int .i64 t1,.int .i64 t2,.int .i64 t3,.int .i64 hold,.int .i64 room,.int .i64 age,.slice (some ⟨nb,no,none⟩) n ncap,sv] 32 from hX)
     have HE0:=Lib.hid hx0
     clear hX hsz hx0)
  | ((with_reducible refine at_alloc 59 ?_); have:=HA0.out; clear HA0; refine al_zero rfl 59 rfl PZ2 zero_fp ?_
     intro R w1 hq hsz hx
     have HR1:=Lib.hid (show BoxAt w1 R PZ2 59 from hq)
     have HX1:=Lib.hid (HX0.out.ext hx)
     have HRW:=Lib.hid (show w.heap.size≤R from by have:=HE0.out.size; omega)
     have HE1:=Lib.hid (HE0.out.trans hx)
     clear hq hsz hx)
  | ((with_reducible refine at_alloc 59 ?_); refine al_zero rfl 59 rfl PZ2 zero_fp ?_
     intro M w2 hq hsz hx
     have HM1:=Lib.hid hq
     have HR2:=Lib.hid (HR1.out.ext hx)
     have HX2:=Lib.hid (HX1.out.ext hx)
     have HE2:=Lib.hid (HE1.out.trans hx)
     have HMW:=Lib.hid (show w.heap.size≤M from by have:=HE1.out.size; omega)
     have HRM:=Lib.hid (show R ≠ M from by have:=heap_lt HR1.out; omega)
     have HXM:=Lib.hid (show X ≠ M from by have:=heap_lt HX1.out; omega)
     clear hq hsz hx HE1)
  | ((with_reducible refine at_load 59 ?_); refine wpList_load_mid rfl 59 _ rfl sb so rfl [.int .i64 s0.1,.int .i64 s0.2] _ (rangeR_ext HR0.out HE1.out HSB.out) Try.underlying59 rfl size_fp ?_)
  | ((with_reducible refine at_store 59 ?_); refine st_at rfl rfl 59 _ _ rfl M 0 _ #[.int .i64 s0.1,.int .i64 s0.2] PZ2 #[.int .i64 s0.1,.int .i64 s0.2] 59 rfl rfl rfl HM1.out (by exact (by decide:0+2≤2)) (by kernel_rfl) rfl rfl ?_
     intro w3 hq hm
     have HM3:=Lib.hid hq
     have HR3:=Lib.hid (show BoxAt w3 R PZ2 59 from (hm.heap (heap_lt HR2.out) (fun h=>HRM.out h)).trans HR2.out)
     have HX3:=Lib.hid (show BoxAt w3 X #[.int .i64 t0,.int .i64 t1,.int .i64 t2,.int .i64 t3,.int .i64 hold,.int .i64 room,.int .i64 age,.slice (some ⟨nb,no,none⟩) n ncap,sv] 32 from (hm.heap (heap_lt HX2.out) (fun h=>HXM.out h)).trans HX2.out)
     have HE3:=Lib.hid (HE2.out.mutE hm (fun j hj h=>by have h2:j=M:=h; have:=HMW.out; omega))
     clear hq hm HR1 HR2 HM1 HE2 HX1 HX2 HX0 HE0))
 go_loopw [8] (fun s wr=>∃ (k:Nat),s=.int .i64 ((k+1:Nat):Int)∧k+1≤m∧wr.heap[M]?=some (.cells #[.int .i64 (minK cf S k).1,.int .i64 (minK cf S k).2] 59 (0,0))∧BoxAt wr R PZ2 59∧BoxAt wr X #[.int .i64 t0,.int .i64 t1,.int .i64 t2,.int .i64 t3,.int .i64 hold,.int .i64 room,.int .i64 age,.slice (some ⟨nb,no,none⟩) n ncap,sv] 32∧Ext w wr) (fun s _=>m - (intOf s).toNat)
 case atStart=>exact ⟨0,rfl,by omega,by rw [show minK cf S 0=s0 from HS0.out]; exact HM3.out,HR3.out,HX3.out,HE3.out⟩
 case round =>
  obtain ⟨k,rfl,hk,hm,hr,hxb,hx⟩:=hrel
  rename World=>wl
  have HR:=Lib.hid hr
  have HX:=Lib.hid hxb
  have HXL:=Lib.hid hx
  have HMK:=Lib.hid (show ∀ j,j≤k→minK cf S j ∈ S from fun j hj=>minK_mem cf S j (by rw [HM0.out]; omega))
  obtain ⟨mm,hmk⟩:∃ m,minK cf S k=m:=⟨_,rfl⟩
  have okm:=HOK.out mm (by rw [← hmk]; exact HMK.out k (Nat.le_refl _))
  rw [hmk] at hm
  clear hr hx hxb HM3 HR3 HE3 HX3 HMK
  obtain ⟨mi,mk⟩:=mm
  obtain ⟨o1,o2,o3,o4⟩:=okm
  dsimp only at o1 o2 o3 o4 hm
  obtain ⟨mi,rfl⟩:∃ b:Nat,mi=b:=⟨_,(Int.toNat_of_nonneg o1).symm⟩
  obtain ⟨mk,rfl⟩:∃ b:Nat,mk=b:=⟨_,(Int.toNat_of_nonneg o3).symm⟩
  rw [Int.toNat_natCast] at o4
  have HM:=Lib.hid hm
  have LM:=Lib.hid (show mi < n∧mk < npA N mi from ⟨by have:=HNN.out; omega,by unfold npA; omega⟩)
  clear hm o1 o2 o3 o4
  by_cases hlt:k+1 < m
  ·have dlt:decide (((k+1:Nat):Int) < (m:Int))=true:=by simp; omega
   have hup:IntKind.i64.wrap (((k+1:Nat):Int)+1)=((k+1+1:Nat):Int):=by rw [IntKind.wrap_i64]; omega
   have hra:w.rangeAt sb (so+(k+1)*2) (plL (S.getD (k+1) (0,0))):=H4.out (k+1) (by rw [HM0.out]; exact hlt)
   have hlk:k+1 < S.length:=by rw [HM0.out]; exact hlt
   have oka:=HOK.out (S.getD (k+1) (0,0)) (by
    rw [List.getD_eq_getElem?_getD,List.getElem?_eq_getElem hlk]
    exact List.getElem_mem hlk)
   obtain ⟨a,ha⟩:∃ a,S.getD (k+1) (0,0)=a:=⟨_,rfl⟩
   have HST:=Lib.hid (show minK cf S (k+1)=if cf a ((mi:Int),(mk:Int)) < 0 then a else ((mi:Int),(mk:Int)) from by rw [← ha,← hmk]; rfl)
   rw [ha] at hra oka
   clear ha hmk hlk
   obtain ⟨ai,ak⟩:=a
   obtain ⟨o1,o2,o3,o4⟩:=oka
   dsimp only at o1 o2 o3 o4
   obtain ⟨ai,rfl⟩:∃ b:Nat,ai=b:=⟨_,(Int.toNat_of_nonneg o1).symm⟩
   obtain ⟨ak,rfl⟩:∃ b:Nat,ak=b:=⟨_,(Int.toNat_of_nonneg o3).symm⟩
   rw [Int.toNat_natCast] at o4
   have LA:=Lib.hid (show ai < n∧ak < npA N ai from ⟨by have:=HNN.out; omega,by unfold npA; omega⟩)
   have RS:=Lib.hid (show wl.rangeAt sb (so+(k+1)*2) [.int .i64 (ai:Int),.int .i64 (ak:Int)] from rangeR_ext hra HXL.out HSB.out)
   have HSW:=Lib.hid (show sb < wl.heap.size from Nat.lt_of_lt_of_le HSB.out HXL.out.size)
   obtain ⟨ta,hta⟩:∃ v,tellF N V ((ai:Int),(ak:Int))=v:=⟨_,rfl⟩
   obtain ⟨tm,htm⟩:∃ v,tellF N V ((mi:Int),(mk:Int))=v:=⟨_,rfl⟩
   have HCE:=Lib.hid (show cf ((ai:Int),(ak:Int)) ((mi:Int),(mk:Int))=c4 ta.root ta.cost ta.br ta.port tm.root tm.cost tm.br tm.port from by rw [← HCF.out,← hta,← htm]; rfl)
   have HTA:=Lib.hid hta
   have HTM:=Lib.hid htm
   clear hra o1 o2 o3 o4 hta htm
   obtain ⟨d,hd⟩:∃ d,decide (c4 ta.root ta.cost ta.br ta.port tm.root tm.cost tm.br tm.port < 0)=d:=⟨_,rfl⟩
   have HD:=Lib.hid hd
   clear hd
   go_wp2_with fail
   refine beginL (S:=fun W'=>Ext wl W') (by kernel_rfl) ?_
   intro wd hqx
   have hq0:Ext wl wd:=hqx
   refine tL 0 (_) rfl (yieldsIf_rowS rfl 32 _ rfl X rfl #[.int .i64 t0,.int .i64 t1,.int .i64 t2,.int .i64 t3,.int .i64 hold,.int .i64 room,.int .i64 age,.slice (some ⟨nb,no,none⟩) n ncap,sv] _ _ (fun W' hW'=>HX.out.ext hW') Try.underlying32 rfl size_rn3) hq0 ?_
   simp only [ps]
   refine tLp 1 (vv) rfl hq0 ?_
   simp only [ps]
   refine tLp 2 ((.slice (some ⟨sb,so,none⟩) m cap)) rfl hq0 ?_
   simp only [ps]
   refine tLp 3 ((.int .i64 ((k+1:Nat):Int))) rfl hq0 ?_
   simp only [ps]
   refine tL 4 ((.pointer (some ⟨sb,so+(k+1)*2,none⟩))) rfl (Or.inl ⟨rfl,fun W' _=>by go_simp <;> (intro h; omega)⟩) hq0 ?_
   simp only [ps]
   refine tL 5 (_) rfl (yieldsIf_load_mid rfl 59 _ rfl sb (so+(k+1)*2) rfl ([.int .i64 (ai:Int),.int .i64 (ak:Int)]) _ (fun W' hW'=>rangeR_ext RS.out hW' HSW.out) Try.underlying59 rfl size_fp) hq0 ?_
   simp only [ps]
   refine tL 7 (_) rfl (yieldsIf_rowS rfl 32 _ rfl X rfl #[.int .i64 t0,.int .i64 t1,.int .i64 t2,.int .i64 t3,.int .i64 hold,.int .i64 room,.int .i64 age,.slice (some ⟨nb,no,none⟩) n ncap,sv] _ _ (fun W' hW'=>HX.out.ext hW') Try.underlying32 rfl size_rn3) hq0 ?_
   simp only [ps]
   refine tLp 8 (vv) rfl hq0 ?_
   simp only [ps]
   refine tL 9 (_) rfl (yieldsIf_rowS rfl 59 _ rfl M rfl #[.int .i64 (mi:Int),.int .i64 (mk:Int)] _ _ (fun W' hW'=>(hW'.block M (heap_lt HM.out)).trans HM.out) Try.underlying59 rfl size_fp) hq0 ?_
   simp only [ps]
   refine runL (i:=6) rfl rfl (by kernel_rfl) (fun K hK=>?_)
   go_simp
   refine (ftold_at t0 t1 t2 t3 hold room age nb no n ncap ai ak sv vv N V ta wd HTA.out (HN.out.ext (HXL.out.trans (by assumption))) HNN.out (HV.out.ext (HXL.out.trans (by assumption))) HVN.out LA.out.1 LA.out.2 HS1.out).mono ?_
   rintro e wc1 ⟨rfl,hx⟩
   have hq1:=hq0.trans hx
   refine hK.out _ _ hq1 (fun hHeld=>?_)
   try simp only [ps]
   clear hK K hHeld
   refine runL (i:=10) rfl rfl (by kernel_rfl) (fun K hK=>?_)
   go_simp
   refine (ftold_at t0 t1 t2 t3 hold room age nb no n ncap mi mk sv vv N V tm wc1 HTM.out (HN.out.ext (HXL.out.trans (by assumption))) HNN.out (HV.out.ext (HXL.out.trans (by assumption))) HVN.out LM.out.1 LM.out.2 HS1.out).mono ?_
   rintro e wc2 ⟨rfl,hx⟩
   have hq2:=hq1.trans hx
   refine hK.out _ _ hq2 (fun hHeld=>?_)
   try simp only [ps]
   clear hK K hHeld
   refine runL (i:=11) rfl rfl (by kernel_rfl) (fun K hK=>?_)
   go_simp
   refine (asb (ref_less ta.root ta.cost ta.br ta.port ta.rx tm.root tm.cost tm.br tm.port tm.rx wc2) HD.out).mono ?_
   rintro e wc3 ⟨rfl,hx⟩
   have hq3:=hq2.trans hx
   refine hK.out _ _ hq3 (fun hHeld=>?_)
   try simp only [ps]
   clear hK K hHeld
   refine tLp 12 ((.bool d)) rfl hq3 ?_
   simp only [ps]
   have hqz:=hq3
   refine wpAnyH_done (by kernel_rfl) ?_ _
   have HM5:=Lib.hid ((hqz.block M (heap_lt HM.out)).trans HM.out)
   have HR5:=Lib.hid (HR.out.ext hqz)
   have HX5:=Lib.hid (HX.out.ext hqz)
   have HL5:=Lib.hid (HXL.out.trans hqz)
   have RS5:=Lib.hid (rangeR_ext RS.out hqz HSW.out)
   clear hqx hqz
   cases d with
   | true =>
    have HSN:=Lib.hid (show minK cf S (k+1)=((ai:Int),(ak:Int)) from by rw [HST.out,if_pos (by rw [HCE.out]; exact of_decide_eq_true HD.out)])
    go_wp2_with (first
     | fail
     | ((with_reducible refine at_load 59 ?_); refine wpList_load_mid rfl 59 _ rfl sb (so+(k+1)*2) rfl [.int .i64 (ai:Int),.int .i64 (ak:Int)] _ RS5.out Try.underlying59 rfl size_fp ?_)
     | ((with_reducible refine at_store 59 ?_); refine st_at rfl rfl 59 _ _ rfl M 0 _ #[.int .i64 (ai:Int),.int .i64 (ak:Int)] #[.int .i64 (mi:Int),.int .i64 (mk:Int)] #[.int .i64 (ai:Int),.int .i64 (ak:Int)] 59 rfl rfl rfl HM5.out (by exact (by decide:0+2≤2)) (by kernel_rfl) rfl rfl ?_
        intro w7 hq7 hm7
        have HM7:=Lib.hid hq7
        have HR7:=Lib.hid (show BoxAt w7 R PZ2 59 from (hm7.heap (heap_lt HR5.out) (fun h=>HRM.out h)).trans HR5.out)
        have HX7:=Lib.hid (show BoxAt w7 X #[.int .i64 t0,.int .i64 t1,.int .i64 t2,.int .i64 t3,.int .i64 hold,.int .i64 room,.int .i64 age,.slice (some ⟨nb,no,none⟩) n ncap,sv] 32 from (hm7.heap (heap_lt HX5.out) (fun h=>HXM.out h)).trans HX5.out)
        have HL7:=Lib.hid (HL5.out.mutE hm7 (fun j hj h=>by have h2:j=M:=h; have:=HMW.out; omega))
        clear hq7 hm7))
    go_roundw
    case rel=>exact ⟨k+1,by go_num,by omega,by rw [HSN.out]; exact HM7.out,HR7.out,HX7.out,HL7.out⟩
    case measure=>simp [intOf] <;> omega
   | false =>
    have HSN:=Lib.hid (show minK cf S (k+1)=((mi:Int),(mk:Int)) from by rw [HST.out,if_neg (by rw [HCE.out]; exact of_decide_eq_false HD.out)])
    go_wp2_with fail
    go_roundw
    case rel=>exact ⟨k+1,by go_num,by omega,by rw [HSN.out]; exact HM5.out,HR5.out,HX5.out,HL5.out⟩
    case measure=>simp [intOf] <;> omega
  ·have dlt:decide (((k+1:Nat):Int) < (m:Int))=false:=by simp; omega
   have HKN:=Lib.hid (show bestF N V S=((mi:Int),(mk:Int)) from by rw [HMF.out,← hmk,show m - 1=k by omega])
   clear hmk
   go_wp2_with (first
    | fail
    | ((with_reducible refine at_load 59 ?_); refine wpList_load_row rfl 59 _ rfl M rfl 59 #[.int .i64 (mi:Int),.int .i64 (mk:Int)] (0,0) _ HM.out Try.underlying59 rfl size_fp ?_)
    | ((with_reducible refine at_store 59 ?_); refine st_at rfl rfl 59 _ _ rfl R 0 _ #[.int .i64 (mi:Int),.int .i64 (mk:Int)] PZ2 #[.int .i64 (mi:Int),.int .i64 (mk:Int)] 59 rfl rfl rfl HR.out (by exact (by decide:0+2≤2)) (by kernel_rfl) rfl rfl ?_
       intro w7 hq7 hm7
       have HR7:=Lib.hid hq7
       have HX7:=Lib.hid (HXL.out.mutE hm7 (fun j hj h=>by have h2:j=R:=h; have:=HRW.out; omega))
       clear hq7 hm7))
   refine bodyPost_ret (results_cell_row rfl _ _ R _ _ (0,0) _ rfl HR7.out Try.underlying59 rfl size_fp) rfl ?_
   exact ⟨by rw [HKN.out],HX7.out⟩
def roleD (f:Pl→Option Int) (By:List Pl) (via p:Pl):Int:=match f p with
 | none=>0
 | some s=>if By.getD s.toNat (0,0)=p then 4 else if (By.getD s.toNat (0,0)).1=p.1 then 2 else if via=p then 3 else 1
theorem eq_fp (a1 a2 b1 b2:Int) (w:World):(binOp .eql 59 (.agg #[.int .i64 a1,.int .i64 a2]) (.agg #[.int .i64 b1,.int .i64 b2])).run Try.prog w=.ok (.bool (a1 == b1 && a2 == b2)) w:=by
 have k1:Try.prog.stoodInHeld 59=false:=by kernel_rfl
 simp [go_sem,k1,Try.underlying59]
 by_cases h2:a2=b2 <;> split <;> simp_all
theorem ne_fp (a1 a2 b1 b2:Int) (w:World):(binOp .neq 59 (.agg #[.int .i64 a1,.int .i64 a2]) (.agg #[.int .i64 b1,.int .i64 b2])).run Try.prog w=.ok (.bool (!(a1 == b1 && a2 == b2))) w:=by
 have k1:Try.prog.stoodInHeld 59=false:=by kernel_rfl
 simp [go_sem,k1,Try.underlying59]
 by_cases h2:a2=b2 <;> split <;> simp_all
theorem guard_fp:Try.prog.eqGuardType Try.prog.depth 59=false:=by kernel_rfl
theorem bools_row {w:World} {uv:Value} {U:List Bool} (h:BoolsAt w uv U):∃ ua ucap,uv=.slice ua U.length ucap∧(0 < U.length→∃ ub uo,ua=some ⟨ub,uo,none⟩∧∀ W',Ext w W'→∀ i,i < U.length→W'.cell? ⟨ub,uo+i,none⟩=some (.bool (U.getD i false))):=by
 obtain ⟨ua,ucap,rfl,hm,hf⟩:=h
 refine ⟨ua,ucap,rfl,fun h0=>?_⟩
 obtain ⟨ub,uo,rfl,hb,-,-,h3⟩:=hf h0
 refine ⟨ub,uo,rfl,fun W' hx i hi=>?_⟩
 have:=h3 i hi 0 _ rfl
 rw [Nat.add_zero,Nat.mul_one] at this
 exact (hx.cell hb).trans this
theorem places_row {w:World} {v:Value} {S:List Pl} (h:PlAt w v S):∃ a cap,v=.slice a S.length cap∧(0 < S.length→∃ b o,a=some ⟨b,o,none⟩∧∀ W',Ext w W'→∀ i,i < S.length→W'.rangeAt b (o+i*2) (plL (S.getD i (0,0)))):=by
 obtain ⟨a,cap,rfl,hm,hf⟩:=h
 refine ⟨a,cap,rfl,fun h0=>?_⟩
 obtain ⟨b,o,rfl,hb,-,-,h3⟩:=hf h0
 exact ⟨b,o,rfl,fun W' hx i hi=>rangeR_ext (h3 i hi) hx hb⟩
theorem segF_none {S:List (List Pl)} {p:Pl} (h:∀ s,s < S.length→p ∉ S.getD s []):segF S p=none:=by
 cases hv:segF S p with
 | none=>rfl
 | some v =>
  obtain ⟨s,rfl,h1,h2⟩:=segK_some S _ _ v hv
  exact absurd h2 (h s h1)
set_option maxRecDepth 100000 in
set_option maxHeartbeats 8000000 in
theorem frole_any (t0 t1 t2 t3 hold room age v1 v2 i k:Int) (nv sv uv bv:Value) (N:List Nd) (S:List (List Pl)) (U:List Bool) (By:List Pl) (w:World) (hS:SegsAt w sv S) (hm:1≤S.length∧S.length≤20) (hs60:∀ seg ∈ S,seg.length≤60) (hU:BoolsAt w uv U) (hul:U.length≤1000)
    (hB:PlAt w bv By) (hbl:By.length=S.length) (hu:Uniq S) (hn1:nv.oneCell'=true) :
    Calls Try.prog 29 #[bv,.agg #[.int .i64 v1,.int .i64 v2],.agg #[.int .i64 t0,.int .i64 t1,.int .i64 t2,.int .i64 t3,.int .i64 hold,.int .i64 room,.int .i64 age,nv,sv],uv,.agg #[.int .i64 i,.int .i64 k]] w fun e w'=>e=.returned (.int .i64 (roleD (segF (raisedL U S)) By (v1,v2) (i,k)))∧Ext w w':=by
 obtain ⟨sb,so,scap,rfl,hsg⟩:=segs_open hS hm.1
 obtain ⟨ya,ycap,rfl,hyr⟩:=places_row hB
 obtain ⟨yb,yo,rfl,hyc⟩:=hyr (by omega)
 obtain ⟨ua,ucap,rfl,huc⟩:=bools_row hU
 rw [hbl] at hyc ⊢
 obtain ⟨m,hm0⟩:∃ m,S.length=m:=⟨_,rfl⟩
 obtain ⟨ul,hul0⟩:∃ m,U.length=m:=⟨_,rfl⟩
 have hsg2:∀ W',Ext w W'→∀ s,s < m→∃ a cap,W'.cell? ⟨sb,so+s,none⟩=some (.slice a (S.getD s []).length cap)∧(0 < (S.getD s []).length→∃ pb po,a=some ⟨pb,po,none⟩∧∀ W',Ext w W'→∀ k,k < (S.getD s []).length→W'.rangeAt pb (po+k*2) (plL ((S.getD s []).getD k (0,0)))):=fun W' hx s hs=>by
  obtain ⟨a,cap,h1,h2⟩:=hsg s (by omega)
  exact ⟨a,cap,h1 W' hx,h2⟩
 have hlen:∀ s,s < m→(S.getD s []).length≤60:=fun s hs=>hs60 _ (by
  rw [List.getD_eq_getElem?_getD,List.getElem?_eq_getElem (by omega:s < S.length)]
  exact List.getElem_mem _)
 rw [hul0] at hul huc ⊢
 rw [hm0] at hm hyc ⊢
 have HM0:=Lib.hid hm0
 have HUL:=Lib.hid hul0
 have HSG:=Lib.hid hsg2
 have HLEN:=Lib.hid hlen
 have HYC:=Lib.hid hyc
 have HUC:=Lib.hid huc
 have HUQ:=Lib.hid (hu.raised U)
 have HN1:=Lib.hid hn1
 have hE:=eq_fp
 have hF:=ne_fp
 have hG:=guard_fp
 obtain ⟨hm1,hm20⟩:=hm
 clear hS hs60 hU hB hbl hu hsg hyr huc hyc hsg2 hlen hm0 hul0 hn1
 go_enter Try.func29,Try.ntmps29
 go_wp2_with (first
  | fail
  | ((with_reducible refine at_box 59 ?_); refine bx_row rfl 59 _ rfl #[.int .i64 v1,.int .i64 v2] rfl ?_
     intro A w1 hA hsz hx1
     have HA1:=Lib.hid (show BoxAt w1 A #[.int .i64 v1,.int .i64 v2] 59 from hA)
     have HE1:=Lib.hid hx1
     clear hA hsz hx1)
  | ((with_reducible refine at_box 32 ?_); refine bx_row rfl 32 _ rfl #[.int .i64 t0,.int .i64 t1,.int .i64 t2,.int .i64 t3,.int .i64 hold,.int .i64 room,.int .i64 age,nv,.slice (some ⟨sb,so,none⟩) m scap] rfl ?_
     intro X w2 hX hsz hx2
     have HX2:=Lib.hid (show BoxAt w2 X #[.int .i64 t0,.int .i64 t1,.int .i64 t2,.int .i64 t3,.int .i64 hold,.int .i64 room,.int .i64 age,nv,.slice (some ⟨sb,so,none⟩) m scap] 32 from hX)
     have HA2:=Lib.hid (HA1.out.ext hx2)
     have HE2:=Lib.hid (HE1.out.trans hx2)
     clear hX hsz hx2)
  | ((with_reducible refine at_box 59 ?_); refine bx_row rfl 59 _ rfl #[.int .i64 i,.int .i64 k] rfl ?_
     intro Y w3 hY hsz hx3
     have HY:=Lib.hid (show BoxAt w3 Y #[.int .i64 i,.int .i64 k] 59 from hY)
     have HX:=Lib.hid (HX2.out.ext hx3)
     have HA:=Lib.hid (HA2.out.ext hx3)
     have HE:=Lib.hid (HE2.out.trans hx3)
     clear hY hsz hx3 HX2 HA2 HE2 HA1 HE1))
 go_loopw [11] (fun s wr=>∃ (j:Nat) (wo:World),wo=wr∧s=.int .i64 j∧j≤m∧(∀ s,s < j→((i,k):Pl) ∉ (raisedL U S).getD s [])∧Ext w3 wo) (fun s _=>m - (intOf s).toNat)
 case atStart=>exact ⟨0,_,rfl,rfl,by omega,fun s hs=>by omega,Ext.refl _⟩
 case round =>
  obtain ⟨s,wo,rfl,rfl,hs,hnot,hx⟩:=hrel
  rename World=>wl
  have HXL:=Lib.hid hx
  have HNOT:=Lib.hid hnot
  have x8:wl.cell? ⟨X,8,none⟩=some (.slice (some ⟨sb,so,none⟩) m scap):=(HX.out.ext hx).cell 8 rfl
  have hup:IntKind.i64.wrap ((s:Int)+1)=((s+1:Nat):Int):=by rw [IntKind.wrap_i64]; omega
  clear hx hnot
  by_cases hlt:s < m∧s < ul
  ·have HLT:=Lib.hid hlt
   have dlt:decide ((s:Int) < (m:Int))=true:=by simp; omega
   have dlu:decide ((s:Int) < (ul:Int))=true:=by simp; omega
   have hsu:s < ul:=hlt.2
   have hsm:s < m:=hlt.1
   obtain ⟨ub,uo,rfl,hub⟩:=HUC.out (by omega)
   have hu0:=hub wl (HE.out.trans HXL.out) s hlt.2
   have hra:=raisedL_at U S (i:=s) (by rw [HM0.out]; exact hlt.1)
   unfold raisedF at hra
   clear hub hlt
   cases hb:U.getD s false with
   | false =>
    rw [hb] at hu0 hra
    have HRA:=Lib.hid hra
    clear hra hb
    go_wp2_with fail
    go_roundw
    case rel=>exact ⟨s+1,_,rfl,by go_num,HLT.out.1,fun j hj hin=>by
     by_cases e:j=s
     ·subst e
      rw [HRA.out] at hin
      cases hin
     ·exact HNOT.out j (by omega) hin,HXL.out⟩
    case measure=>simp [intOf] <;> omega
   | true =>
    rw [hb] at hu0 hra
    have HRA:=Lib.hid (show (raisedL U S).getD s []=S.getD s [] from hra)
    clear hra hb
    obtain ⟨sa,cap,hc,hpl⟩:=HSG.out wl (HE.out.trans HXL.out) s hsm
    have hl60:=HLEN.out s hsm
    obtain ⟨L,hL⟩:∃ L,S.getD s []=L:=⟨_,rfl⟩
    rw [hL] at hc hpl hl60 HRA
    obtain ⟨ll,hll⟩:∃ l,L.length=l:=⟨_,rfl⟩
    rw [hll] at hc hpl hl60
    have HLL:=Lib.hid hll
    have HPL:=Lib.hid hpl
    have HC:=Lib.hid hc
    clear hpl hL hll hc
    go_wp2_with fail
    go_loopw [12] (fun s wr=>∃ (j:Nat) (wo:World),wo=wr∧s=.int .i64 j∧j≤ll∧(∀ q,q < j→L.getD q (0,0) ≠ (i,k))∧Ext wl wo) (fun s _=>ll - (intOf s).toNat)
    case atStart=>exact ⟨0,_,rfl,rfl,by omega,fun s hs=>by omega,Ext.refl _⟩
    case round =>
     obtain ⟨q,wo,rfl,rfl,hq,hnq,hx⟩:=hrel
     rename World=>wk
     have HXK:=Lib.hid (HXL.out.trans hx)
     have HXK0:=Lib.hid hx
     have HNQ:=Lib.hid hnq
     have x8:wk.cell? ⟨X,8,none⟩=some (.slice (some ⟨sb,so,none⟩) m scap):=(HX.out.ext HXK.out).cell 8 rfl
     have hc:wk.cell? ⟨sb,so+s,none⟩=some (.slice sa ll cap):=(hx.cell (World.block_lt_of_cell? wl _ HC.out)).trans HC.out
     have hupq:IntKind.i64.wrap ((q:Int)+1)=((q+1:Nat):Int):=by rw [IntKind.wrap_i64]; omega
     clear hx hnq
     by_cases hql:q < ll
     ·have dql:decide ((q:Int) < (ll:Int))=true:=by simp; omega
      obtain ⟨pb,po,rfl,hpk⟩:=HPL.out (by omega)
      obtain ⟨p,hp⟩:∃ p,L.getD q (0,0)=p:=⟨_,rfl⟩
      have RS:=Lib.hid (show ∀ W',Ext wk W'→W'.rangeAt pb (po+q*2) [.int .i64 p.1,.int .i64 p.2] from fun W' hw=>by
       have h:=hpk W' (HE.out.trans (HXK.out.trans hw)) q hql
       rw [hp] at h
       exact h)
      have KC:=Lib.hid (show ∀ W',Ext wk W'→W'.cell? ⟨sb,so+s,none⟩=some (.slice (some ⟨pb,po,none⟩) ll cap) from fun W' hw=>(hw.cell (World.block_lt_of_cell? wk _ hc)).trans hc)
      have KY:=Lib.hid (show ∀ W',Ext wk W'→BoxAt W' Y #[.int .i64 i,.int .i64 k] 59 from fun W' hw=>HY.out.ext (HXK.out.trans hw))
      clear hpk
      by_cases hpe:p.1=i∧p.2=k
      ·have hpe2:p=(i,k):=Prod.ext hpe.1 hpe.2
       have hmem:((i,k):Pl) ∈ L:=by
        rw [← hpe2,← hp,List.getD_eq_getElem?_getD,List.getElem?_eq_getElem (by rw [HLL.out]; exact hql)]
        exact List.getElem_mem _
       have hsf:segF (raisedL U S) (i,k)=some (s:Int):=segF_at HUQ.out (by rw [raisedL_len,HM0.out]; exact hsm) (by rw [HRA.out]; exact hmem)
       have HRD:=Lib.hid (show roleD (segF (raisedL U S)) By (v1,v2) (i,k)=if By.getD s (0,0)=(i,k) then 4 else if (By.getD s (0,0)).1=i then 2 else if (v1,v2)=(i,k) then 3 else 1 from by unfold roleD; rw [hsf]; simp only [Int.toNat_natCast])
       obtain ⟨b,hb⟩:∃ b,By.getD s (0,0)=b:=⟨_,rfl⟩
       have RB:=Lib.hid (show ∀ W',Ext wk W'→W'.rangeAt yb (yo+s*2) [.int .i64 b.1,.int .i64 b.2] from fun W' hw=>by
        have h:=HYC.out W' (HE.out.trans (HXK.out.trans hw)) s hsm
        rw [hb] at h
        exact h)
       rw [hb] at HRD
       have e1:(p.1 == i)=true:=by simpa using hpe.1
       have e2:(p.2 == k)=true:=by simpa using hpe.2
       clear hmem hsf hb hpe hpe2 hp
       go_wp2_with fail
       refine beginL (S:=fun W'=>Ext wk W') (by kernel_rfl) ?_
       intro wd hqx
       have hq0:Ext wk wd:=hqx
       refine tLp 0 ((.pointer (some ⟨X,8,none⟩))) rfl hq0 ?_
       simp only [ps]
       refine tL 1 (_) rfl (yieldsIf_cell rfl 30 _ rfl ⟨X,8,none⟩ rfl (.slice (some ⟨sb,so,none⟩) m scap) _ (fun W' hW'=>(HX.out.ext (HXK.out.trans hW')).cell 8 rfl) Try.underlying30 rfl) hq0 ?_
       simp only [ps]
       refine tLp 2 ((.int .i64 (s:Int))) rfl hq0 ?_
       simp only [ps]
       refine tL 3 ((.pointer (some ⟨sb,so+s,none⟩))) rfl (Or.inl ⟨rfl,fun W' _=>by go_simp <;> (intro h; omega)⟩) hq0 ?_
       simp only [ps]
       refine tL 4 (_) rfl (yieldsIf_cell rfl 49 _ rfl ⟨sb,so+s,none⟩ rfl (.slice (some ⟨pb,po,none⟩) ll cap) _ (fun W' hW'=>KC.out W' hW') Try.underlying49 rfl) hq0 ?_
       simp only [ps]
       refine tLp 5 ((.int .i64 (q:Int))) rfl hq0 ?_
       simp only [ps]
       refine tL 6 ((.pointer (some ⟨pb,po+q*2,none⟩))) rfl (Or.inl ⟨rfl,fun W' _=>by go_simp <;> (intro h; omega)⟩) hq0 ?_
       simp only [ps]
       refine tL 7 (_) rfl (yieldsIf_load_mid rfl 59 _ rfl pb (po+q*2) rfl ([.int .i64 p.1,.int .i64 p.2]) _ (fun W' hW'=>RS.out W' hW') Try.underlying59 rfl size_fp) hq0 ?_
       simp only [ps]
       refine tL 8 (_) rfl (yieldsIf_rowS rfl 59 _ rfl Y rfl #[.int .i64 i,.int .i64 k] _ _ (fun W' hW'=>KY.out W' hW') Try.underlying59 rfl size_fp) hq0 ?_
       simp only [ps]
       refine tL 9 ((.bool false)) rfl (Or.inl ⟨rfl,fun W' _=>by go_simp⟩) hq0 ?_
       simp only [ps]
       refine wpAnyH_done (by kernel_rfl) ?_ _
       have HQ8:=Lib.hid hq0
       clear hq0 hqx
       go_wp2_with fail
       by_cases hbe:b.1=i∧b.2=k
       ·have f1:(b.1 == i)=true:=by simpa using hbe.1
        have f2:(b.2 == k)=true:=by simpa using hbe.2
        have HRE:=Lib.hid (show roleD (segF (raisedL U S)) By (v1,v2) (i,k)=4 from by rw [HRD.out,if_pos (Prod.ext hbe.1 hbe.2)])
        clear hbe
        refine beginL (S:=fun W'=>Ext wk W') (by kernel_rfl) ?_
        intro wd hqx
        have hq0:Ext wk wd:=HQ8.out.trans hqx
        refine tLp 0 ((.slice (some ⟨yb,yo,none⟩) m ycap)) rfl hq0 ?_
        simp only [ps]
        refine tLp 1 ((.int .i64 (s:Int))) rfl hq0 ?_
        simp only [ps]
        refine tL 2 ((.pointer (some ⟨yb,yo+s*2,none⟩))) rfl (Or.inl ⟨rfl,fun W' _=>by go_simp <;> (intro h; omega)⟩) hq0 ?_
        simp only [ps]
        refine tL 3 (_) rfl (yieldsIf_load_mid rfl 59 _ rfl yb (yo+s*2) rfl ([.int .i64 b.1,.int .i64 b.2]) _ (fun W' hW'=>RB.out W' hW') Try.underlying59 rfl size_fp) hq0 ?_
        simp only [ps]
        refine tL 4 (_) rfl (yieldsIf_rowS rfl 59 _ rfl Y rfl #[.int .i64 i,.int .i64 k] _ _ (fun W' hW'=>KY.out W' hW') Try.underlying59 rfl size_fp) hq0 ?_
        simp only [ps]
        refine tL 5 ((.bool true)) rfl (Or.inl ⟨rfl,fun W' _=>by go_simp⟩) hq0 ?_
        simp only [ps]
        refine tLp 6 ((.bool true)) rfl hq0 ?_
        simp only [ps]
        refine wpAnyH_done (by kernel_rfl) ?_ _
        have HQ9:=Lib.hid hq0
        clear hq0 hqx
        go_wp2_with fail
        go_ret
        exact ⟨by rw [HRE.out]; rfl,HE.out.trans (HXK.out.trans HQ9.out)⟩
       ·have hbf:(b.1 == i && b.2 == k)=false:=by
         rw [Bool.eq_false_iff]
         intro h
         rw [Bool.and_eq_true] at h
         exact hbe ⟨by simpa using h.1,by simpa using h.2⟩
        have HBE:=Lib.hid hbe
        clear hbe
        refine beginL (S:=fun W'=>Ext wk W') (by kernel_rfl) ?_
        intro wd hqx
        have hq0:Ext wk wd:=HQ8.out.trans hqx
        refine tLp 0 ((.slice (some ⟨yb,yo,none⟩) m ycap)) rfl hq0 ?_
        simp only [ps]
        refine tLp 1 ((.int .i64 (s:Int))) rfl hq0 ?_
        simp only [ps]
        refine tL 2 ((.pointer (some ⟨yb,yo+s*2,none⟩))) rfl (Or.inl ⟨rfl,fun W' _=>by go_simp <;> (intro h; omega)⟩) hq0 ?_
        simp only [ps]
        refine tL 3 (_) rfl (yieldsIf_load_mid rfl 59 _ rfl yb (yo+s*2) rfl ([.int .i64 b.1,.int .i64 b.2]) _ (fun W' hW'=>RB.out W' hW') Try.underlying59 rfl size_fp) hq0 ?_
        simp only [ps]
        refine tL 4 (_) rfl (yieldsIf_rowS rfl 59 _ rfl Y rfl #[.int .i64 i,.int .i64 k] _ _ (fun W' hW'=>KY.out W' hW') Try.underlying59 rfl size_fp) hq0 ?_
        simp only [ps]
        refine tL 5 ((.bool false)) rfl (Or.inl ⟨rfl,fun W' _=>by go_simp⟩) hq0 ?_
        simp only [ps]
        refine tLp 6 ((.bool false)) rfl hq0 ?_
        simp only [ps]
        refine wpAnyH_done (by kernel_rfl) ?_ _
        have HQ9:=Lib.hid hq0
        clear hq0 hqx
        go_wp2_with fail
        by_cases hb1:b.1=i
        ·have f1:(b.1 == i)=true:=by simpa using hb1
         have HRE:=Lib.hid (show roleD (segF (raisedL U S)) By (v1,v2) (i,k)=2 from by rw [HRD.out,if_neg (fun e=>HBE.out ⟨congrArg Prod.fst e,congrArg Prod.snd e⟩),if_pos hb1])
         have g1:decide (b.1=i)=true:=decide_eq_true hb1
         clear hb1
         refine beginL (S:=fun W'=>Ext wk W') (by kernel_rfl) ?_
         intro wd hqx
         have hq0:Ext wk wd:=HQ9.out.trans hqx
         refine tLp 0 ((.slice (some ⟨yb,yo,none⟩) m ycap)) rfl hq0 ?_
         simp only [ps]
         refine tLp 1 ((.int .i64 (s:Int))) rfl hq0 ?_
         simp only [ps]
         refine tL 2 ((.pointer (some ⟨yb,yo+s*2,none⟩))) rfl (Or.inl ⟨rfl,fun W' _=>by go_simp <;> (intro h; omega)⟩) hq0 ?_
         simp only [ps]
         refine tLp 3 ((.pointer (some ⟨yb,yo+s*2,none⟩))) rfl hq0 ?_
         simp only [ps]
         refine tL 4 (_) rfl (yieldsIf_cell rfl 3 _ rfl ⟨yb,yo+s*2,none⟩ rfl (.int .i64 b.1) _ (fun W' hW'=>by have h:=RB.out W' hW' 0 _ rfl; simpa using h) Try.underlying3 rfl) hq0 ?_
         simp only [ps]
         refine tLp 5 ((.pointer (some ⟨Y,0,none⟩))) rfl hq0 ?_
         simp only [ps]
         refine tL 6 (_) rfl (yieldsIf_cell rfl 3 _ rfl ⟨Y,0,none⟩ rfl (.int .i64 i) _ (fun W' hW'=>(KY.out W' hW').cell 0 rfl) Try.underlying3 rfl) hq0 ?_
         simp only [ps]
         refine tL 7 ((.bool true)) rfl (Or.inl ⟨rfl,fun W' _=>by go_simp⟩) hq0 ?_
         simp only [ps]
         refine tLp 8 ((.bool true)) rfl hq0 ?_
         simp only [ps]
         refine wpAnyH_done (by kernel_rfl) ?_ _
         have HQ11:=Lib.hid hq0
         clear hq0 hqx
         go_wp2_with fail
         go_ret
         exact ⟨by rw [HRE.out]; rfl,HE.out.trans (HXK.out.trans HQ11.out)⟩
        ·have f1:(b.1 == i)=false:=by simpa using hb1
         have g1:decide (b.1=i)=false:=decide_eq_false hb1
         have HRE:=Lib.hid (show roleD (segF (raisedL U S)) By (v1,v2) (i,k)=if (v1,v2)=(i,k) then 3 else 1 from by rw [HRD.out,if_neg (fun e=>HBE.out ⟨congrArg Prod.fst e,congrArg Prod.snd e⟩),if_neg hb1])
         clear hb1
         refine beginL (S:=fun W'=>Ext wk W') (by kernel_rfl) ?_
         intro wd hqx
         have hq0:Ext wk wd:=HQ9.out.trans hqx
         refine tLp 0 ((.slice (some ⟨yb,yo,none⟩) m ycap)) rfl hq0 ?_
         simp only [ps]
         refine tLp 1 ((.int .i64 (s:Int))) rfl hq0 ?_
         simp only [ps]
         refine tL 2 ((.pointer (some ⟨yb,yo+s*2,none⟩))) rfl (Or.inl ⟨rfl,fun W' _=>by go_simp <;> (intro h; omega)⟩) hq0 ?_
         simp only [ps]
         refine tLp 3 ((.pointer (some ⟨yb,yo+s*2,none⟩))) rfl hq0 ?_
         simp only [ps]
         refine tL 4 (_) rfl (yieldsIf_cell rfl 3 _ rfl ⟨yb,yo+s*2,none⟩ rfl (.int .i64 b.1) _ (fun W' hW'=>by have h:=RB.out W' hW' 0 _ rfl; simpa using h) Try.underlying3 rfl) hq0 ?_
         simp only [ps]
         refine tLp 5 ((.pointer (some ⟨Y,0,none⟩))) rfl hq0 ?_
         simp only [ps]
         refine tL 6 (_) rfl (yieldsIf_cell rfl 3 _ rfl ⟨Y,0,none⟩ rfl (.int .i64 i) _ (fun W' hW'=>(KY.out W' hW').cell 0 rfl) Try.underlying3 rfl) hq0 ?_
         simp only [ps]
         refine tL 7 ((.bool false)) rfl (Or.inl ⟨rfl,fun W' _=>by go_simp⟩) hq0 ?_
         simp only [ps]
         refine tLp 8 ((.bool false)) rfl hq0 ?_
         simp only [ps]
         refine wpAnyH_done (by kernel_rfl) ?_ _
         have HQ11:=Lib.hid hq0
         clear hqx
         by_cases hve:v1=i∧v2=k
         ·have g2:(v1 == i && v2 == k)=true:=by rw [Bool.and_eq_true]; exact ⟨by simpa using hve.1,by simpa using hve.2⟩
          have HRF:=Lib.hid (show roleD (segF (raisedL U S)) By (v1,v2) (i,k)=3 from by rw [HRE.out,if_pos (by rw [hve.1,hve.2])])
          clear hve
          go_wp2_with (first
           | fail
           | ((with_reducible refine at_load 59 ?_); refine wpList_load_row rfl 59 _ rfl A rfl 59 #[.int .i64 v1,.int .i64 v2] (0,0) _ (HA.out.ext (HXK.out.trans HQ11.out)) Try.underlying59 rfl size_fp ?_)
           | ((with_reducible refine at_load 59 ?_); refine wpList_load_row rfl 59 _ rfl Y rfl 59 #[.int .i64 i,.int .i64 k] (0,0) _ (KY.out _ HQ11.out) Try.underlying59 rfl size_fp ?_))
          go_ret
          exact ⟨by rw [HRF.out]; rfl,HE.out.trans (HXK.out.trans HQ11.out)⟩
         ·have g2:(v1 == i && v2 == k)=false:=by
           rw [Bool.eq_false_iff]
           intro h
           rw [Bool.and_eq_true] at h
           exact hve ⟨by simpa using h.1,by simpa using h.2⟩
          have HRF:=Lib.hid (show roleD (segF (raisedL U S)) By (v1,v2) (i,k)=1 from by rw [HRE.out,if_neg (fun e=>hve ⟨congrArg Prod.fst e,congrArg Prod.snd e⟩)])
          clear hve
          go_wp2_with (first
           | fail
           | ((with_reducible refine at_load 59 ?_); refine wpList_load_row rfl 59 _ rfl A rfl 59 #[.int .i64 v1,.int .i64 v2] (0,0) _ (HA.out.ext (HXK.out.trans HQ11.out)) Try.underlying59 rfl size_fp ?_)
           | ((with_reducible refine at_load 59 ?_); refine wpList_load_row rfl 59 _ rfl Y rfl 59 #[.int .i64 i,.int .i64 k] (0,0) _ (KY.out _ HQ11.out) Try.underlying59 rfl size_fp ?_))
          go_ret
          exact ⟨by rw [HRF.out]; rfl,HE.out.trans (HXK.out.trans HQ11.out)⟩
      ·have hpf:(p.1 == i && p.2 == k)=false:=by
        rw [Bool.eq_false_iff]
        intro h
        rw [Bool.and_eq_true] at h
        exact hpe ⟨by simpa using h.1,by simpa using h.2⟩
       have HPE:=Lib.hid (show L.getD q (0,0) ≠ (i,k) from by rw [hp]; exact fun e=>hpe ⟨congrArg Prod.fst e,congrArg Prod.snd e⟩)
       clear hpe hp
       go_wp2_with fail
       refine beginL (S:=fun W'=>Ext wk W') (by kernel_rfl) ?_
       intro wd hqx
       have hq0:Ext wk wd:=hqx
       refine tLp 0 ((.pointer (some ⟨X,8,none⟩))) rfl hq0 ?_
       simp only [ps]
       refine tL 1 (_) rfl (yieldsIf_cell rfl 30 _ rfl ⟨X,8,none⟩ rfl (.slice (some ⟨sb,so,none⟩) m scap) _ (fun W' hW'=>(HX.out.ext (HXK.out.trans hW')).cell 8 rfl) Try.underlying30 rfl) hq0 ?_
       simp only [ps]
       refine tLp 2 ((.int .i64 (s:Int))) rfl hq0 ?_
       simp only [ps]
       refine tL 3 ((.pointer (some ⟨sb,so+s,none⟩))) rfl (Or.inl ⟨rfl,fun W' _=>by go_simp <;> (intro h; omega)⟩) hq0 ?_
       simp only [ps]
       refine tL 4 (_) rfl (yieldsIf_cell rfl 49 _ rfl ⟨sb,so+s,none⟩ rfl (.slice (some ⟨pb,po,none⟩) ll cap) _ (fun W' hW'=>KC.out W' hW') Try.underlying49 rfl) hq0 ?_
       simp only [ps]
       refine tLp 5 ((.int .i64 (q:Int))) rfl hq0 ?_
       simp only [ps]
       refine tL 6 ((.pointer (some ⟨pb,po+q*2,none⟩))) rfl (Or.inl ⟨rfl,fun W' _=>by go_simp <;> (intro h; omega)⟩) hq0 ?_
       simp only [ps]
       refine tL 7 (_) rfl (yieldsIf_load_mid rfl 59 _ rfl pb (po+q*2) rfl ([.int .i64 p.1,.int .i64 p.2]) _ (fun W' hW'=>RS.out W' hW') Try.underlying59 rfl size_fp) hq0 ?_
       simp only [ps]
       refine tL 8 (_) rfl (yieldsIf_rowS rfl 59 _ rfl Y rfl #[.int .i64 i,.int .i64 k] _ _ (fun W' hW'=>KY.out W' hW') Try.underlying59 rfl size_fp) hq0 ?_
       simp only [ps]
       refine tL 9 ((.bool true)) rfl (Or.inl ⟨rfl,fun W' _=>by go_simp⟩) hq0 ?_
       simp only [ps]
       refine wpAnyH_done (by kernel_rfl) ?_ _
       have HQ8:=Lib.hid hq0
       clear hq0 hqx
       go_wp2_with fail
       go_roundw
       case rel=>exact ⟨q+1,_,rfl,by go_num,by omega,fun j hj=>by
        by_cases e:j=q
        ·subst e
         exact HPE.out
        ·exact HNQ.out j (by omega),HXK0.out.trans HQ8.out⟩
       case measure=>simp [intOf] <;> omega
     ·have dql:decide ((q:Int) < (ll:Int))=false:=by simp; omega
      obtain rfl:ll=q:=by omega
      go_wp2_with fail
      go_roundw
      case rel=>exact ⟨s+1,_,rfl,by go_num,hsm,fun j hj hin=>by
       by_cases e:j=s
       ·subst e
        rw [HRA.out] at hin
        obtain ⟨z,hz,he⟩:=List.getElem_of_mem hin
        refine HNQ.out z (by rw [← HLL.out]; exact hz) ?_
        rw [List.getD_eq_getElem?_getD,List.getElem?_eq_getElem hz]
        exact he
       ·exact HNOT.out j (by omega) hin,HXK.out⟩
      case measure=>simp [intOf] <;> omega
  ·have HRE:=Lib.hid (show roleD (segF (raisedL U S)) By (v1,v2) (i,k)=0 from by
    unfold roleD
    rw [segF_none]
    intro s' hs' hin
    rw [raisedL_len,HM0.out] at hs'
    by_cases h:s' < s
    ·exact HNOT.out s' h hin
    ·have h2:=(raised_in (by rw [HM0.out]; exact hs') hin).1
     rw [List.getD_eq_getElem?_getD,List.getElem?_eq_none (by rw [HUL.out]; omega)] at h2
     cases h2)
   by_cases hsm:s < m
   ·have dlt:decide ((s:Int) < (m:Int))=true:=by simp; omega
    have dlu:decide ((s:Int) < (ul:Int))=false:=by simp; omega
    go_wp2_with fail
    go_ret
    exact ⟨by rw [HRE.out]; rfl,HE.out.trans HXL.out⟩
   ·have dlt:decide ((s:Int) < (m:Int))=false:=by simp; omega
    go_wp2_with fail
    go_ret
    exact ⟨by rw [HRE.out]; rfl,HE.out.trans HXL.out⟩
def flatG {α:Type} (f:α→List Value) (l:List α):List Value:=l.flatMap f
theorem flatG_cons {α:Type} (f:α→List Value) (x:α) (l:List α):flatG f (x :: l)=f x ++ flatG f l:=by simp [flatG]
theorem flatG_snoc {α:Type} (f:α→List Value) (l:List α) (x:α):flatG f (l ++ [x])=flatG f l ++ f x:=by simp [flatG]
theorem flatG_len {α:Type} {f:α→List Value} {m:Nat} (hf:∀ x,(f x).length=m):∀ l:List α,(flatG f l).length=l.length*m
 | []=>by simp [flatG]
 | x :: l=>by
  rw [flatG_cons,List.length_append,flatG_len hf l,hf,List.length_cons,Nat.succ_mul]
  omega
theorem flatG_at {α:Type} {f:α→List Value} {m:Nat} (hf:∀ x,(f x).length=m) (d:α):∀ (l:List α) (i j:Nat),i < l.length→j < m→(flatG f l)[i*m+j]?=(f (l.getD i d))[j]?
 | [],i,j,hi,_=>by simp at hi
 | x :: l,0,j,_,hj=>by
  rw [flatG_cons,Nat.zero_mul,Nat.zero_add,List.getElem?_append_left (by rw [hf]; exact hj)]
  rfl
 | x :: l,i+1,j,hi,hj=>by
  have e:(i+1)*m=i*m+m:=Nat.succ_mul i m
  rw [flatG_cons,List.getElem?_append_right (by rw [hf]; omega),hf,show (i+1)*m+j - m=i*m+j by omega]
  exact flatG_at hf d l i j (by simpa using hi) hj
theorem flatG_set {α:Type} {f:α→List Value} {m:Nat} (hf:∀ x,(f x).length=m):∀ (l:List α) (j:Nat) (q:α),j < l.length→(flatG f l).take (j*m) ++ f q ++ (flatG f l).drop (j*m+m)=flatG f (l.set j q)
 | [],j,q,hj=>by simp at hj
 | x :: l,0,q,hj=>by
  rw [List.set_cons_zero,flatG_cons,flatG_cons,Nat.zero_mul,Nat.zero_add,List.take_zero,List.nil_append,List.drop_append,hf,List.drop_eq_nil_of_le (by rw [hf]; exact Nat.le_refl _),Nat.sub_self,List.drop_zero,List.nil_append]
 | x :: l,j+1,q,hj=>by
  have ih:=flatG_set hf l j q (by simpa using hj)
  have e:(j+1)*m=j*m+m:=Nat.succ_mul j m
  rw [List.set_cons_succ,flatG_cons,flatG_cons,← ih,List.take_append,List.drop_append,hf,List.take_of_length_le (by rw [hf]; omega),List.drop_eq_nil_of_le (by rw [hf]; omega),show (j+1)*m - m=j*m by omega,show (j+1)*m+m - m=j*m+m by omega,List.nil_append,List.append_assoc,List.append_assoc,List.append_assoc]
structure GAt {α:Type} (ty:TypeId) (m:Nat) (f:α→List Value) (w:World) (g n cap:Nat) (D:List α):Prop where
 len:D.length=n
 row:∃ cur,w.heap[g]?=some (.cells cur ty (0,0))∧cur.size=cap*m∧cur.toList.take (n*m)=flatG f D
 cap1:n≤cap
 cap2:cap≤maxLen
theorem GAt.lt {α:Type} {ty:TypeId} {m:Nat} {f:α→List Value} {w:World} {g n cap:Nat} {D:List α} (h:GAt ty m f w g n cap D):g < w.heap.size:=by
 obtain ⟨cur,h1,-⟩:=h.row
 exact heap_lt h1
theorem GAt.keep {α:Type} {ty:TypeId} {m:Nat} {f:α→List Value} {w w':World} {g n cap:Nat} {D:List α} (h:GAt ty m f w g n cap D) (hk:w'.heap[g]?=w.heap[g]?):GAt ty m f w' g n cap D:=by
 obtain ⟨cur,h1,h2⟩:=h.row
 exact ⟨h.len,⟨cur,hk.trans h1,h2⟩,h.cap1,h.cap2⟩
theorem GAt.ext {α:Type} {ty:TypeId} {m:Nat} {f:α→List Value} {w w':World} {g n cap:Nat} {D:List α} (h:GAt ty m f w g n cap D) (hx:Ext w w'):GAt ty m f w' g n cap D:=h.keep (hx.block _ h.lt)
theorem GAt.mut {α:Type} {ty:TypeId} {m:Nat} {f:α→List Value} {w w':World} {g n cap:Nat} {D:List α} {F:Nat→Prop} (h:GAt ty m f w g n cap D) (hm:Mut F w w') (hF:¬ F g):GAt ty m f w' g n cap D:=h.keep (hm.heap h.lt hF)
theorem GAt.range {α:Type} {ty:TypeId} {m:Nat} {f:α→List Value} (hf:∀ x,(f x).length=m) (d:α) {w:World} {g n cap:Nat} {D:List α} (h:GAt ty m f w g n cap D) {j:Nat} (hj:j < n):w.rangeAt g (j*m) (f (D.getD j d)):=fun i v hv=>by
 have hi:i < m:=by
  have:=(List.getElem?_eq_some_iff.1 hv).1
  rw [hf] at this
  exact this
 obtain ⟨cur,h1,h2,h3⟩:=h.row
 have hb:j*m+i < n*m:=Nat.lt_of_lt_of_le (show j*m+i < (j+1)*m by have e:(j+1)*m=j*m+m:=Nat.succ_mul j m; omega) (Nat.mul_le_mul_right m hj)
 have h4:=flatG_at hf d D j i (by rw [h.len]; exact hj) hi
 rw [← h3,List.getElem?_take,if_pos hb] at h4
 rw [cell_row h1]
 have h5:cur[j*m+i]?=cur.toList[j*m+i]?:=by simp
 rw [h5,h4,hv]
theorem GAt.rowAt {α:Type} {ty:TypeId} {m:Nat} {f:α→List Value} (hf:∀ x,(f x).length=m) (d:α) {w:World} {g n cap:Nat} {D:List α} (h:GAt ty m f w g n cap D) (hn:n≤100000):RowAt w (.slice (some ⟨g,0,none⟩) n cap) n m (fun i=>f (D.getD i d)) :=
 ⟨_,cap,rfl,hn,fun _=>⟨g,0,rfl,h.lt,h.cap1,by have:=h.cap2; unfold maxLen at this; omega,fun i hi=>by rw [Nat.zero_add]; exact h.range hf d hi⟩⟩
theorem GAt.of_own {α:Type} {ty:TypeId} {m:Nat} {f:α→List Value} {w:World} {base n:Nat} {v:Value} {D:List α} (hn:0 < n) (hl:D.length=n) (h:w.ownsRow base ty m v n (flatG f D)):∃ g cap,v=.slice (some ⟨g,0,none⟩) n cap∧base≤g∧GAt ty m f w g n cap D:=by
 rcases h.2 with ⟨-,h0⟩ | ⟨g,cap,cur,rfl,hb,hg,hc,hm,hs,ht⟩
 ·omega
 ·exact ⟨g,cap,rfl,hb,hl,⟨cur,hg,hs,ht⟩,hc,hm⟩
theorem take_setG {cur:Array Value} {n k m:Nat} (hk:k+m≤n) (hc:n≤cur.size) (vs:List Value) (hv:vs.length=m):((cur.toList.take k ++ vs ++ cur.toList.drop (k+m)).toArray).toList.take n=(cur.toList.take n).take k ++ vs ++ (cur.toList.take n).drop (k+m):=by
 simp only [List.take_take,Nat.min_eq_left (show k≤n by omega)]
 rw [List.take_append,List.take_append,List.drop_take,List.take_take,List.length_append,List.length_take,hv,Array.length_toList,Nat.min_eq_left (show k≤cur.size by omega),show min n k=k from Nat.min_eq_right (by omega),List.take_of_length_le (show vs.length≤n - k by omega)]
theorem GAt.put {α:Type} {ty:TypeId} {m:Nat} {f:α→List Value} (hf:∀ x,(f x).length=m) {w w':World} {g n cap:Nat} {D:List α} (h:GAt ty m f w g n cap D) {j:Nat} (hj:j < n) (q:α) {cur cur':Array Value} (h1:w.heap[g]?=some (.cells cur ty (0,0))) (hq:w'.heap[g]?=some (.cells cur' ty (0,0)))
    (hc:(cur.toList.take (j*m) ++ f q ++ cur.toList.drop (j*m+m)).toArray=cur'):GAt ty m f w' g n cap (D.set j q):=by
 obtain ⟨cur2,h2,h3,h4⟩:=h.row
 rw [h1] at h2
 cases h2
 have hcap:=h.cap1
 have b1:j*m+m≤n*m:=by have e:(j+1)*m=j*m+m:=Nat.succ_mul j m; have e2:(j+1)*m≤n*m:=Nat.mul_le_mul_right m hj; omega
 have b2:n*m≤cap*m:=Nat.mul_le_mul_right m hcap
 refine ⟨by rw [List.length_set]; exact h.len,⟨cur',hq,?_,?_⟩,h.cap1,h.cap2⟩
 ·rw [← hc]
  simp [hf]
  omega
 ·rw [← hc,take_setG (k:=j*m) (m:=m) (n:=n*m) b1 (by omega) (f q) (hf q),h4]
  exact flatG_set hf D j q (by rw [h.len]; exact hj)
theorem GAt.news {α:Type} {ty:TypeId} {m:Nat} {f:α→List Value} {w:World} {g n cap:Nat} {D:List α} (h:GAt ty m f w g n cap D):∀ j u,(flatG f D)[j]?=some u→w.cell? ((⟨g,0,none⟩:Addr).add j)=some u:=fun j u hu=>by
 obtain ⟨cur,h1,h2,h3⟩:=h.row
 have hp:(⟨g,0,none⟩:Addr).add j=⟨g,j,none⟩:=by unfold Addr.add; split <;> simp_all
 rw [hp,cell_row h1]
 rw [← h3,List.getElem?_take] at hu
 split at hu
 ·simpa using hu
 ·cases hu
theorem vcL_len (x:Vc):(vcL x).length=5:=rfl
theorem plL_len (x:Pl):(plL x).length=2:=rfl
theorem flatV_one (D:List Vc):∀ u ∈ flatG vcL D,u.oneCell'=true:=fun u hu=>by
 obtain ⟨q,-,hq⟩:=List.mem_flatMap.1 hu
 simp only [vcL,List.mem_cons,List.not_mem_nil,or_false] at hq
 rcases hq with rfl | rfl | rfl | rfl | rfl <;> rfl
theorem made_places (n:Nat):(madeCells (Value.agg PZ2).cells (n*2)).toList=flatG plL (List.replicate n ((0,0):Pl)):=by
 have h:∀ n:Nat,flatG plL (List.replicate n ((0,0):Pl))=List.replicate (n*2) (.int .i64 0):=fun n=>by
  induction n with
  | zero=>rfl
  | succ n ih =>
   rw [List.replicate_succ,flatG_cons,ih,show (n+1)*2=n*2+1+1 by omega,List.replicate_succ,List.replicate_succ]
   rfl
 rw [h]
 simp only [madeCells,PZ2,Value.cells]
 refine List.ext_getElem (by simp) (fun i h1 h2=>?_)
 have h3:i % 2=0∨i % 2=1:=by omega
 rcases h3 with e | e <;> simp [e]
theorem VsAt.of {ty:TypeId} {w:World} {g n cap:Nat} {D:List Vc} (h:GAt ty 5 vcL w g n cap D) (hn:n≤100000):VsAt w (.slice (some ⟨g,0,none⟩) n cap) D:=by
 have h2:=h.rowAt vcL_len default hn
 unfold VsAt
 rw [h.len]
 exact h2
def ownV (N:List Nd) (i:Nat):Vc:=⟨idA N i,0,idA N i,0,0⟩
def ownL (N:List Nd) (n:Nat):List Vc:=(List.range n).map (ownV N)
def thrV (t:Vc) (c x:Int):Vc:=⟨t.root,thr t.cost c,t.br,t.port,x⟩
def c5V (a b:Vc):Int:=c5 a.root a.cost a.br a.port a.rx b.root b.cost b.br b.port b.rx
abbrev St:=List Vc × List Pl
def newV (N:List Nd) (V:List Vc) (by_ p:Pl):Vc:=thrV (tellF N V by_) (ptA N p.1.toNat p.2.toNat).cost (ptA N p.1.toNat p.2.toNat).pid
def put1 (N:List Nd) (V:List Vc) (by_:Pl) (st:St) (p:Pl):St :=
 if p.1=by_.1 then st else if c5V (newV N V by_ p) (st.1.getD p.1.toNat default) < 0 then (st.1.set p.1.toNat (newV N V by_ p),st.2.set p.1.toNat p) else st
def segP (N:List Nd) (V:List Vc) (st:St) (seg:List Pl):St:=seg.foldl (put1 N V (bestF N V seg)) st
def rndP (N:List Nd) (S:List (List Pl)) (V:List Vc):St:=S.foldl (segP N V) (ownL N N.length,List.replicate N.length (-1,-1))
def rP (N:List Nd) (S:List (List Pl)):Nat→St
 | 0=>(ownL N N.length,List.replicate N.length (0,0))
 | r+1=>rndP N S (rP N S r).1
def byD (N:List Nd) (V:List Vc) (seg:List Pl):Pl:=if seg.length=0 then (-1,-1) else bestF N V seg
def endP (N:List Nd) (S:List (List Pl)):St:=rP N S (N.length+1)
def docF (N:List Nd) (S:List (List Pl)):Pn :=
 ⟨(endP N S).1.map Vc.root,(endP N S).1.map Vc.cost,S.map (byD N (endP N S).1),(List.range N.length).map (fun i=>(List.range (npA N i)).map (fun k:Nat=>roleD (segF S) (S.map (byD N (endP N S).1)) ((endP N S).2.getD i (0,0)) ((i:Int),(k:Int))))⟩
structure StOk (n:Nat) (st:St):Prop where
 len1:st.1.length=n
 len2:st.2.length=n
 cost:∀ v ∈ st.1,0≤v.cost∧v.cost < 4294967296
theorem thr_rg {c q:Int} (hc:0≤c) (hq:0≤q):0≤thr c q∧thr c q < 4294967296:=by
 unfold thr
 split <;> omega
theorem getV_cost {V:List Vc} (h:∀ v ∈ V,0≤v.cost∧v.cost < 4294967296) (i:Nat):0≤(V.getD i default).cost∧(V.getD i default).cost < 4294967296:=by
 by_cases hi:i < V.length
 ·rw [List.getD_eq_getElem?_getD,List.getElem?_eq_getElem hi]
  exact h _ (List.getElem_mem hi)
 ·rw [List.getD_eq_getElem?_getD,List.getElem?_eq_none (by omega)]
  exact ⟨by decide,by decide⟩
theorem put1_ok {N:List Nd} {V:List Vc} {by_ p:Pl} {n:Nat} {st:St} (h:StOk n st) (hV:∀ v ∈ V,0≤v.cost∧v.cost < 4294967296) (hp:0≤(ptA N p.1.toNat p.2.toNat).cost):StOk n (put1 N V by_ st p):=by
 unfold put1
 split
 ·exact h
 ·split
  ·refine ⟨by rw [List.length_set]; exact h.len1,by rw [List.length_set]; exact h.len2,fun v hv=>?_⟩
   rcases List.mem_or_eq_of_mem_set hv with hv | rfl
   ·exact h.cost v hv
   ·exact thr_rg (getV_cost hV by_.1.toNat).1 hp
  ·exact h
theorem fold_ok {N:List Nd} {V:List Vc} {by_:Pl} {n:Nat} (hV:∀ v ∈ V,0≤v.cost∧v.cost < 4294967296):∀ (seg:List Pl) (st:St),(∀ p ∈ seg,0≤(ptA N p.1.toNat p.2.toNat).cost)→StOk n st→StOk n (seg.foldl (put1 N V by_) st)
 | [],_,_,h=>h
 | p :: seg,st,hp,h=>fold_ok hV seg _ (fun q hq=>hp q (List.mem_cons_of_mem _ hq)) (put1_ok h hV (hp p List.mem_cons_self))
theorem segs_ok {N:List Nd} {V:List Vc} {n:Nat} (hV:∀ v ∈ V,0≤v.cost∧v.cost < 4294967296):∀ (S:List (List Pl)) (st:St),(∀ seg ∈ S,∀ p ∈ seg,0≤(ptA N p.1.toNat p.2.toNat).cost)→StOk n st→StOk n (S.foldl (segP N V) st)
 | [],_,_,h=>h
 | seg :: S,st,hp,h=>segs_ok hV S _ (fun s hs=>hp s (List.mem_cons_of_mem _ hs)) (fold_ok hV seg st (hp seg List.mem_cons_self) h)
theorem own_ok (N:List Nd) (P:List Pl) (hP:P.length=N.length):StOk N.length (ownL N N.length,P):=by
 refine ⟨by simp [ownL],hP,fun v hv=>?_⟩
 obtain ⟨i,-,rfl⟩:=List.mem_map.1 hv
 exact ⟨by show (0:Int)≤0; omega,by show (0:Int) < _; omega⟩
theorem rP_ok {N:List Nd} {S:List (List Pl)} (hp:∀ seg ∈ S,∀ p ∈ seg,0≤(ptA N p.1.toNat p.2.toNat).cost):∀ r,StOk N.length (rP N S r)
 | 0=>own_ok N _ (by simp)
 | r+1=>segs_ok (rP_ok hp r).cost S _ hp (own_ok N _ (by simp))
theorem ownL_at (N:List Nd) {n i:Nat} (hi:i < n):(ownL N n).getD i default=ownV N i:=by
 unfold ownL
 rw [List.getD_eq_getElem?_getD,List.getElem?_map,List.getElem?_range hi]
 rfl
theorem take_putD {α:Type} (A B:List α) (d:α) {i:Nat} (h1:i < A.length) (h2:A.length=B.length):(A.take i ++ B.drop i).set i (A.getD i d)=A.take (i+1) ++ B.drop (i+1):=by
 have e:(A.take i).length=i:=by simp; omega
 rw [List.set_append_right _ _ (by omega),e,Nat.sub_self,List.take_add_one,List.getD_eq_getElem?_getD,List.getElem?_eq_getElem h1,List.append_assoc]
 congr 1
 have h3:i < B.length:=by omega
 rw [List.drop_eq_getElem_cons h3,List.set_cons_zero]
 rfl
theorem c5V_lt (a b:Vc):c5V a b < 0↔a.root < b.root∨a.root=b.root∧(a.cost < b.cost∨a.cost=b.cost∧(a.br < b.br∨a.br=b.br∧(a.port < b.port∨a.port=b.port∧a.rx < b.rx))):=(c5_rg a.root a.cost a.br a.port a.rx b.root b.cost b.br b.port b.rx).2.2.1
theorem c4V_lt (a b:Vc):c4V a b < 0↔a.root < b.root∨a.root=b.root∧(a.cost < b.cost∨a.cost=b.cost∧(a.br < b.br∨a.br=b.br∧a.port < b.port)):=(c4_rg a.root a.cost a.br a.port b.root b.cost b.br b.port).2.2.1
def pairs (N:List Nd) (S:List (List Pl)) (V:List Vc):List (Pl × Pl):=S.flatMap (fun seg=>seg.map (fun p=>(bestF N V seg,p)))
def putX (N:List Nd) (V:List Vc) (st:St) (x:Pl × Pl):St:=put1 N V x.1 st x.2
theorem seg_pairs (N:List Nd) (V:List Vc) (b:Pl):∀ (seg:List Pl) (st:St),(seg.map (fun p=>(b,p))).foldl (putX N V) st=seg.foldl (put1 N V b) st
 | [],_=>rfl
 | p :: seg,st=>seg_pairs N V b seg _
theorem rnd_pairs (N:List Nd) (V:List Vc):∀ (S:List (List Pl)) (st:St),(pairs N S V).foldl (putX N V) st=S.foldl (segP N V) st
 | [],_=>rfl
 | seg :: S,st=>by
  show ((seg.map (fun p=>(bestF N V seg,p))) ++ pairs N S V).foldl (putX N V) st=_
  rw [List.foldl_append,seg_pairs,rnd_pairs N V S]
  rfl
theorem mem_pairs {N:List Nd} {S:List (List Pl)} {V:List Vc} {b p:Pl}:(b,p) ∈ pairs N S V↔∃ seg ∈ S,p ∈ seg∧b=bestF N V seg:=by
 unfold pairs
 rw [List.mem_flatMap]
 constructor
 ·rintro ⟨seg,hs,h⟩
  obtain ⟨q,hq,e⟩:=List.mem_map.1 h
  cases e
  exact ⟨seg,hs,hq,rfl⟩
 ·rintro ⟨seg,hs,hp,rfl⟩
  exact ⟨seg,hs,List.mem_map.2 ⟨p,hp,rfl⟩⟩
structure RndI (N:List Nd) (V:List Vc) (X:Pl × Pl→Prop) (i:Nat) (v:Vc) (p:Pl):Prop where
 src:(v=ownV N i∧p=(-1,-1))∨∃ b,X (b,p)∧p.1=i∧b.1 ≠ p.1∧v=newV N V b p
 least:∀ b q,X (b,q)→q.1=i→b.1 ≠ q.1→¬ c5V (newV N V b q) v < 0
 own:¬ c5V (ownV N i) v < 0
theorem getV_set (l:List Vc) (k j:Nat) (x:Vc) (hk:k < l.length):(l.set k x).getD j default=if k=j then x else l.getD j default:=by
 rw [List.getD_eq_getElem?_getD,List.getD_eq_getElem?_getD,List.getElem?_set]
 by_cases e:k=j
 ·subst e
  rw [if_pos rfl,if_pos rfl,if_pos hk]
  rfl
 ·rw [if_neg e,if_neg e]
theorem getP_set (l:List Pl) (k j:Nat) (x:Pl) (hk:k < l.length):(l.set k x).getD j (0,0)=if k=j then x else l.getD j (0,0):=by
 rw [List.getD_eq_getElem?_getD,List.getD_eq_getElem?_getD,List.getElem?_set]
 by_cases e:k=j
 ·subst e
  rw [if_pos rfl,if_pos rfl,if_pos hk]
  rfl
 ·rw [if_neg e,if_neg e]
theorem put_inv {N:List Nd} {V:List Vc} {X:Pl × Pl→Prop} {st:St} {x:Pl × Pl} {n:Nat} (h1:st.1.length=n) (h2:st.2.length=n) (hx:0≤x.2.1∧x.2.1 < n) (hi:∀ i,i < n→RndI N V X i (st.1.getD i default) (st.2.getD i (0,0))) :
    (putX N V st x).1.length=n∧(putX N V st x).2.length=n∧∀ i,i < n→RndI N V (fun y=>X y∨y=x) i ((putX N V st x).1.getD i default) ((putX N V st x).2.getD i (0,0)):=by
 obtain ⟨b,p⟩:=x
 have hpn:p.1.toNat < n:=by have:=hx.1; have:=hx.2; dsimp only at *; omega
 have keep:(∀ i,i < n→p.1=i→b.1 ≠ p.1→¬ c5V (newV N V b p) (st.1.getD i default) < 0)→∀ i,i < n→RndI N V (fun y=>X y∨y=(b,p)) i (st.1.getD i default) (st.2.getD i (0,0)):=fun hk i hin=>by
  have h:=hi i hin
  refine ⟨?_,fun b' q hq e1 e2=>?_,h.own⟩
  ·rcases h.src with h3 | ⟨b',h3,h4,h5,h6⟩
   ·exact .inl h3
   ·exact .inr ⟨b',.inl h3,h4,h5,h6⟩
  ·rcases hq with hq | hq
   ·exact h.least b' q hq e1 e2
   ·cases hq
    exact hk i hin e1 e2
 unfold putX put1
 dsimp only
 by_cases hb:p.1=b.1
 ·rw [if_pos hb]
  exact ⟨h1,h2,keep (fun i _ _ h=>absurd hb.symm h)⟩
 ·rw [if_neg hb]
  by_cases hc:c5V (newV N V b p) (st.1.getD p.1.toNat default) < 0
  ·rw [if_pos hc]
   refine ⟨by rw [List.length_set]; exact h1,by rw [List.length_set]; exact h2,fun i hin=>?_⟩
   dsimp only
   rw [getV_set _ _ _ _ (by rw [h1]; exact hpn),getP_set _ _ _ _ (by rw [h2]; exact hpn)]
   by_cases e:p.1.toNat=i
   ·rw [if_pos e,if_pos e]
    subst e
    have h:=hi _ hin
    have hlt:=(c5V_lt _ _).1 hc
    refine ⟨.inr ⟨b,.inr rfl,by have:=hx.1; dsimp only at this; omega,fun x=>hb x.symm,rfl⟩,fun b' q hq e1 e2 hn=>?_,fun hn=>?_⟩
    ·rcases hq with hq | hq
     ·refine h.least b' q hq e1 e2 ((c5V_lt _ _).2 ?_)
      have hn2:=(c5V_lt _ _).1 hn
      omega
     ·cases hq
      have hn2:=(c5V_lt _ _).1 hn
      omega
    ·refine h.own ((c5V_lt _ _).2 ?_)
     have hn2:=(c5V_lt _ _).1 hn
     omega
   ·rw [if_neg e,if_neg e]
    have h:=hi i hin
    refine ⟨?_,fun b' q hq e1 e2=>?_,h.own⟩
    ·rcases h.src with h3 | ⟨b',h3,h4,h5,h6⟩
     ·exact .inl h3
     ·exact .inr ⟨b',.inl h3,h4,h5,h6⟩
    ·rcases hq with hq | hq
     ·exact h.least b' q hq e1 e2
     ·cases hq
      exact absurd (by omega) e
  ·rw [if_neg hc]
   exact ⟨h1,h2,keep (fun i _ e _ hn=>hc (by
    have e2:p.1.toNat=i:=by omega
    rw [e2]
    exact hn))⟩
theorem fold_inv {N:List Nd} {V:List Vc} {n:Nat}:∀ (ps:List (Pl × Pl)) (X:Pl × Pl→Prop) (st:St),st.1.length=n→st.2.length=n→(∀ x ∈ ps,0≤x.2.1∧x.2.1 < n)→(∀ i,i < n→RndI N V X i (st.1.getD i default) (st.2.getD i (0,0))) →
    ∀ i,i < n→RndI N V (fun y=>X y∨y ∈ ps) i ((ps.foldl (putX N V) st).1.getD i default) ((ps.foldl (putX N V) st).2.getD i (0,0))
 | [],X,st,_,_,_,h,i,hi=>by
  have h3:=h i hi
  refine ⟨?_,fun b q hq=>h3.least b q (by rcases hq with hq | hq; exact hq; cases hq),h3.own⟩
  rcases h3.src with h4 | ⟨b,h4,h5⟩
  ·exact .inl h4
  ·exact .inr ⟨b,.inl h4,h5⟩
 | x :: ps,X,st,h1,h2,hr,h,i,hi=>by
  obtain ⟨a,b,c⟩:=put_inv h1 h2 (hr x List.mem_cons_self) h
  have h3:=fold_inv ps _ _ a b (fun y hy=>hr y (List.mem_cons_of_mem _ hy)) c i hi
  refine ⟨?_,fun b' q hq=>h3.least b' q ?_,h3.own⟩
  ·rcases h3.src with h4 | ⟨b',h4,h5⟩
   ·exact .inl h4
   ·refine .inr ⟨b',?_,h5⟩
    rcases h4 with (h4 | h4) | h4
    ·exact .inl h4
    ·exact .inr (List.mem_cons.2 (.inl h4))
    ·exact .inr (List.mem_cons_of_mem _ h4)
  ·rcases hq with hq | hq
   ·exact .inl (.inl hq)
   ·rcases List.mem_cons.1 hq with hq | hq
    ·exact .inl (.inr hq)
    ·exact .inr hq
theorem rnd_inv {N:List Nd} {S:List (List Pl)} (hok:∀ seg ∈ S,∀ p ∈ seg,PlOk N p) (V:List Vc) {i:Nat} (hi:i < N.length):RndI N V (fun y=>y ∈ pairs N S V) i ((rndP N S V).1.getD i default) ((rndP N S V).2.getD i (0,0)):=by
 have h0:∀ i,i < N.length→RndI N V (fun _=>False) i ((ownL N N.length).getD i default) ((List.replicate N.length ((-1,-1):Pl)).getD i (0,0)):=fun i hi=>by
  rw [ownL_at N hi]
  refine ⟨.inl ⟨rfl,?_⟩,fun _ _ h=>absurd h id,fun h=>?_⟩
  ·rw [List.getD_eq_getElem?_getD,List.getElem?_replicate,if_pos hi]
   rfl
  ·have:=(c5V_lt _ _).1 h
   omega
 have h:=fold_inv (n:=N.length) (pairs N S V) (fun _=>False) (ownL N N.length,List.replicate N.length (-1,-1)) (by simp [ownL]) (by simp) (fun x hx=>by
  obtain ⟨b,p⟩:=x
  obtain ⟨seg,hs,hp,-⟩:=mem_pairs.1 hx
  have:=hok seg hs p hp
  exact ⟨this.1,this.2.1⟩) h0 i hi
 rw [rnd_pairs] at h
 refine ⟨?_,fun b q hq=>h.least b q (.inr hq),h.own⟩
 rcases h.src with h4 | ⟨b,h4,h5⟩
 ·exact .inl h4
 ·exact .inr ⟨b,h4.resolve_left id,h5⟩
structure Good (N:List Nd) (S:List (List Pl)) (r i:Nat) (v:Vc):Prop where
 way:∃ s q,s < N.length∧Walk N.length (hopsF N S) s i q∧q.2≤r∧v.root=idA N s∧v.cost=q.1
 least:∀ s q,s < N.length→Walk N.length (hopsF N S) s i q→q.2≤r→v.root < idA N s∨v.root=idA N s∧v.cost≤q.1
theorem minK_best (cf:Pl→Pl→Int) (A B C D:Pl→Int) (hcf:∀ a b,cf a b < 0↔A a < A b∨A a=A b∧(B a < B b∨B a=B b∧(C a < C b∨C a=C b∧D a < D b))) (S:List Pl):∀ k j,j≤k→¬ cf (S.getD j (0,0)) (minK cf S k) < 0
 | 0,j,h=>by
  obtain rfl:j=0:=by omega
  intro hn
  have:=(hcf _ _).1 hn
  unfold minK at this
  omega
 | k+1,j,h=>by
  have ih:=minK_best cf A B C D hcf S k
  unfold minK
  split
  ·rename_i hc
   have hc2:=(hcf _ _).1 hc
   intro hn
   have hn2:=(hcf _ _).1 hn
   by_cases e:j=k+1
   ·subst e
    omega
   ·exact ih j (by omega) ((hcf _ _).2 (by omega))
  ·rename_i hc
   by_cases e:j=k+1
   ·subst e
    exact hc
   ·exact ih j (by omega)
theorem minF_best (cf:Pl→Pl→Int) (A B C D:Pl→Int) (hcf:∀ a b,cf a b < 0↔A a < A b∨A a=A b∧(B a < B b∨B a=B b∧(C a < C b∨C a=C b∧D a < D b))) {S:List Pl} {x:Pl} (hx:x ∈ S):¬ cf x (minF cf S) < 0:=by
 obtain ⟨j,hj,rfl⟩:=List.getElem_of_mem hx
 have e:S.getD j (0,0)=S[j]:=by rw [List.getD_eq_getElem?_getD,List.getElem?_eq_getElem hj]; rfl
 rw [← e]
 exact minK_best cf A B C D hcf S (S.length - 1) j (by omega)
theorem cfV_best (N:List Nd) (V:List Vc) {seg:List Pl} {x:Pl} (hx:x ∈ seg):¬ cfV N V x (bestF N V seg) < 0:=by
 unfold bestF
 exact minF_best (cfV N V) (fun p=>(tellF N V p).root) (fun p=>(tellF N V p).cost) (fun p=>(tellF N V p).br) (fun p=>(tellF N V p).port) (fun a b=>c4V_lt _ _) hx
theorem best_le (N:List Nd) (V:List Vc) {seg:List Pl} {x:Pl} (hx:x ∈ seg):(V.getD (bestF N V seg).1.toNat default).root < (V.getD x.1.toNat default).root∨(V.getD (bestF N V seg).1.toNat default).root=(V.getD x.1.toNat default).root∧(V.getD (bestF N V seg).1.toNat default).cost≤(V.getD x.1.toNat default).cost:=by
 have h:=cfV_best N V hx
 unfold cfV at h
 rw [c4V_lt] at h
 unfold tellF at h
 dsimp only at h
 omega
theorem good_step {N:List Nd} {S0:List (List Pl)} (h:NetOk N S0) (U:List Bool) {r:Nat} (hr:r≤10) {V:List Vc} (hV:∀ i,i < N.length→Good N (raisedL U S0) r i (V.getD i default)) {i:Nat} (hi:i < N.length) {v:Vc} {p:Pl} (hv:RndI N V (fun y=>y ∈ pairs N (raisedL U S0) V) i v p):Good N (raisedL U S0) (r+1) i v:=by
 have hok:=raisedL_ok (U:=U) h.sok
 have hM:=hopsF_cost (M:=200000000) hok (fun x hx q hq=>((h.nodes.1 x hx).2.2.1 q hq).2.2)
 have small:∀ j,j < N.length→0≤(V.getD j default).cost∧(V.getD j default).cost≤2000000000:=fun j hj=>by
  obtain ⟨s,q,hs,hw,hq,-,hc⟩:=(hV j hj).way
  have h1:=walk_cost hw hM
  have h2:q.2*200000000≤10*200000000:=Nat.mul_le_mul_right _ (by omega)
  rw [hc]
  omega
 have hpos:=h.pos
 have hc5:∀ p,PlOk N p→1≤costA N p∧costA N p < 1000000000:=fun p hp=>by
  refine ⟨hpos p hp,?_⟩
  obtain ⟨h1,h2,h3,h4⟩:=hp
  have hi:p.1.toNat < N.length:=by omega
  have hN:N.getD p.1.toNat default ∈ N:=by
   rw [List.getD_eq_getElem?_getD,List.getElem?_eq_getElem hi]
   exact List.getElem_mem hi
  have hk:p.2.toNat < (N.getD p.1.toNat default).ports.length:=by omega
  have hP:(N.getD p.1.toNat default).ports.getD p.2.toNat default ∈ (N.getD p.1.toNat default).ports:=by
   rw [List.getD_eq_getElem?_getD (l:=(N.getD p.1.toNat default).ports),List.getElem?_eq_getElem hk]
   exact List.getElem_mem hk
  have:=((h.nodes.1 _ hN).2.2.1 _ hP).2.2
  unfold costA
  omega
 have new:∀ seg ∈ raisedL U S0,∀ q ∈ seg,(newV N V (bestF N V seg) q).root=(V.getD (bestF N V seg).1.toNat default).root∧(newV N V (bestF N V seg) q).cost=(V.getD (bestF N V seg).1.toNat default).cost+costA N q∧PlOk N (bestF N V seg)∧bestF N V seg ∈ seg:=fun seg hs q hq=>by
  have hb:bestF N V seg ∈ seg:=minF_mem _ _ (List.length_pos_of_mem hq)
  have okb:=hok seg hs _ hb
  have s1:=small (bestF N V seg).1.toNat (by have:=okb.1; have:=okb.2.1; omega)
  have s2:=hc5 q (hok seg hs q hq)
  refine ⟨rfl,?_,okb,hb⟩
  show thr (V.getD (bestF N V seg).1.toNat default).cost (ptA N q.1.toNat q.2.toNat).cost=_
  have e:(ptA N q.1.toNat q.2.toNat).cost=costA N q:=rfl
  rw [e]
  unfold thr
  rw [if_pos (by omega)]
 have hop:∀ seg ∈ raisedL U S0,∀ a ∈ seg,∀ q ∈ seg,q.1 ≠ a.1→(⟨a.1,q.1,costA N q⟩:Hp) ∈ hopsF N (raisedL U S0)∧(⟨a.1,q.1,costA N q⟩:Hp).ok N.length=true:=fun seg hs a ha q hq hne=>by
  refine ⟨mem_hopsF.2 ⟨seg,hs,mem_brF.2 ⟨a,ha,rfl⟩,q,hq,hne,rfl⟩,?_⟩
  have o1:=hok seg hs a ha
  have o2:=hok seg hs q hq
  unfold Hp.ok
  simp only [Bool.and_eq_true,decide_eq_true_eq]
  exact ⟨⟨⟨o1.1,o1.2.1⟩,o2.1⟩,o2.2.1⟩
 -- what a walk's last hop tells
 have last:∀ {j:Nat} {q':Nat × Nat} {g:Hp} {s:Nat},s < N.length→Walk N.length (hopsF N (raisedL U S0)) s j q'→q'.2≤r→g ∈ hopsF N (raisedL U S0)→g.ok N.length=true→g.f=j→g.t.toNat=i →
     (v.root < idA N s∨v.root=idA N s∧v.cost≤((q'.1+g.c.toNat:Nat):Int))∨((V.getD i default).root < idA N s∨(V.getD i default).root=idA N s∧(V.getD i default).cost≤q'.1):=fun {j q' g s} hs hw hq hg hgo hgf hgt=>by
  obtain ⟨seg,hS,hf,p2,hp2,hne,he⟩:=mem_hopsF.1 hg
  obtain ⟨p3,hp3,hpe⟩:=mem_brF.1 hf
  obtain ⟨n1,n2,n3,n4⟩:=new seg hS p2 hp2
  have hj:=walk_lt hs hw
  have gl:=(hV j hj).least s q' hs hw hq
  have bl:=best_le N V hp3
  have ej:p3.1.toNat=j:=by rw [hpe,hgf]; omega
  rw [ej] at bl
  have ec:g.c=costA N p2:=by rw [he]
  have et:g.t=p2.1:=by rw [he]
  have ok2:=hok seg hS p2 hp2
  have c2:=hc5 p2 ok2
  by_cases hb:(bestF N V seg).1=p2.1
  ·have e3:(bestF N V seg).1.toNat=i:=by rw [hb,← et]; exact hgt
   rw [e3] at bl
   right
   omega
  ·left
   have hl:=hv.least (bestF N V seg) p2 (mem_pairs.2 ⟨seg,hS,hp2,rfl⟩) (by have:=ok2.1; omega) hb
   rw [c5V_lt] at hl
   rw [n1,n2] at hl
   rw [ec]
   omega
 have own:=hv.own
 rw [c5V_lt] at own
 have ownr:(ownV N i).root=idA N i:=rfl
 have ownc:(ownV N i).cost=0:=rfl
 rw [ownr,ownc] at own
 -- never worse than before
 have mono:v.root < (V.getD i default).root∨v.root=(V.getD i default).root∧v.cost≤(V.getD i default).cost:=by
  obtain ⟨s,q,hs,hw,hq,hr1,hc1⟩:=(hV i hi).way
  cases hw with
  | here =>
   rw [hr1,hc1]
   have e:(((0,0):Nat × Nat).1:Int)=0:=rfl
   omega
  | @hop j q' g hw' h1 h2 h3 =>
   have hq2:q'.2≤r:=by
    have e:(hopW q' g).2=q'.2+1:=rfl
    omega
   have ec:(hopW q' g).1=q'.1+g.c.toNat:=rfl
   have hgc:1≤g.c.toNat:=by
    obtain ⟨seg,hS,hf,p2,hp2,hne,he⟩:=mem_hopsF.1 h1
    have ec:g.c=costA N p2:=by rw [he]
    have:=hc5 p2 (hok seg hS p2 hp2)
    omega
   rcases last hs hw' hq2 h1 h2 h3 rfl with h4 | h4
   ·rw [hr1,hc1,ec]
    exact h4
   ·rw [hr1,hc1,ec] at h4
    omega
 refine ⟨?_,fun s q hs hw hq=>?_⟩
 ·rcases hv.src with ⟨rfl,-⟩ | ⟨b,hX,hp,hne,rfl⟩
  ·exact ⟨i,(0,0),hi,.here,by show 0≤r+1; omega,rfl,rfl⟩
  ·obtain ⟨seg,hS,hps,rfl⟩:=mem_pairs.1 hX
   obtain ⟨n1,n2,n3,n4⟩:=new seg hS p hps
   have hj:(bestF N V seg).1.toNat < N.length:=by have:=n3.1; have:=n3.2.1; omega
   obtain ⟨s,q,hs,hw,hq,hr1,hc1⟩:=(hV _ hj).way
   obtain ⟨g1,g2⟩:=hop seg hS _ n4 p hps (fun e=>hne e.symm)
   have c2:=hc5 p (hok seg hS p hps)
   have hw2:=Walk.hop hw g1 g2 (by show (bestF N V seg).1=_; have:=n3.1; omega)
   have e:(⟨(bestF N V seg).1,p.1,costA N p⟩:Hp).t.toNat=i:=by show p.1.toNat=i; omega
   rw [e] at hw2
   refine ⟨s,_,hs,hw2,by show q.2+1≤r+1; omega,by rw [n1]; exact hr1,?_⟩
   rw [n2,hc1]
   show _=((q.1+(costA N p).toNat:Nat):Int)
   omega
 ·cases hw with
  | here =>
   have e:(((0,0):Nat × Nat).1:Int)=0:=rfl
   omega
  | @hop j q' g hw' h1 h2 h3 =>
   have hq2:q'.2≤r:=by
    have e:(hopW q' g).2=q'.2+1:=rfl
    omega
   have ec:(hopW q' g).1=q'.1+g.c.toNat:=rfl
   rcases last hs hw' hq2 h1 h2 h3 rfl with h4 | h4
   ·rw [ec]
    exact h4
   ·rw [ec]
    omega
theorem good_final {N:List Nd} {S0:List (List Pl)} (h:NetOk N S0) (U:List Bool) {r i:Nat} (hr:N.length≤r+1) (hi:i < N.length) {v:Vc} (hv:Good N (raisedL U S0) r i v):v.root=idA N (at0 (rootsOf N (raisedL U S0)) i).toNat∧v.cost=((costW (waysOf N (raisedL U S0)) i:Nat):Int):=by
 obtain ⟨r0,q0,e,l,b,c⟩:=cost_best (N:=N) (S:=raisedL U S0) hi
 obtain ⟨s,q,hs,hw,hq,hr1,hc1⟩:=hv.way
 have hb:=bst_short l b
 have h1:=hv.least r0 q0 l b.1 (by omega)
 have h2:idA N (at0 (rootsOf N (raisedL U S0)) i).toNat≤idA N s:=rootF_least N N.length (hopsF N (raisedL U S0)) (hopsF_sym _ _ _) hi hs (Conn.symm (hopsF_sym _ _ _) ⟨q,hw⟩)
 rw [e,Int.toNat_natCast] at h2 ⊢
 have e1:idA N s=idA N r0:=by omega
 obtain rfl:=h.ids s r0 hs l e1
 have h3:=b.2 q hw
 unfold Le at h3
 rw [c]
 omega
theorem rP_good {N:List Nd} {S0:List (List Pl)} (h:NetOk N S0) (U:List Bool):∀ r,r≤11→∀ i,i < N.length→Good N (raisedL U S0) r i ((rP N (raisedL U S0) r).1.getD i default)
 | 0,_,i,hi=>by
  show Good _ _ 0 i ((ownL N N.length).getD i default)
  rw [ownL_at N hi]
  refine ⟨⟨i,(0,0),hi,.here,Nat.le_refl _,rfl,rfl⟩,fun s q hs hw hq=>?_⟩
  cases hw with
  | here=>exact .inr ⟨rfl,by show (0:Int)≤0; omega⟩
  | @hop j q' g hw' h1 h2 h3 =>
   have e:(hopW q' g).2=q'.2+1:=rfl
   omega
 | r+1,hr,i,hi=>good_step h U (by omega) (rP_good h U r (by omega)) hi (rnd_inv (raisedL_ok h.sok) _ hi)
theorem rP_final {N:List Nd} {S0:List (List Pl)} (h:NetOk N S0) (U:List Bool) {r:Nat} (hr:N.length≤r+1) (hr2:r≤11) {i:Nat} (hi:i < N.length):((rP N (raisedL U S0) r).1.getD i default).root=idA N (at0 (rootsOf N (raisedL U S0)) i).toNat∧((rP N (raisedL U S0) r).1.getD i default).cost=((costW (waysOf N (raisedL U S0)) i:Nat):Int) :=
 good_final h U hr hi (rP_good h U r hr2 i hi)
theorem minK_congr {cf cf':Pl→Pl→Int} {S:List Pl} (h:∀ a ∈ S,∀ b ∈ S,(cf a b < 0↔cf' a b < 0)):∀ k,k < S.length→minK cf S k=minK cf' S k
 | 0,_=>rfl
 | k+1,hk=>by
  have ih:=minK_congr h k (by omega)
  unfold minK
  rw [ih]
  have e:=h _ (getD_mem S (k+1) hk) _ (minK_mem cf' S k (by omega))
  by_cases hc:cf' (S.getD (k+1) (0,0)) (minK cf' S k) < 0
  ·rw [if_pos hc,if_pos (e.2 hc)]
  ·rw [if_neg hc,if_neg (fun x=>hc (e.1 x))]
theorem minF_congr {cf cf':Pl→Pl→Int} {S:List Pl} (h1:1≤S.length) (h:∀ a ∈ S,∀ b ∈ S,(cf a b < 0↔cf' a b < 0)):minF cf S=minF cf' S:=minK_congr h _ (by omega)
theorem orI_lt (x y:Int) (l:List Int):orI (cmpI x y :: l) < 0↔x < y∨x=y∧orI l < 0:=by
 show (if cmpI x y=0 then orI l else cmpI x y) < 0↔_
 rcases cmpI_cases x y with ⟨h,e⟩ | ⟨h,h',e⟩ | ⟨h,h',e⟩
 ·rw [e,if_neg (by decide)]
  omega
 ·rw [e,if_neg (by decide)]
  omega
 ·rw [e,if_pos rfl]
  omega
theorem orI_zero (x y:Int) (l:List Int):orI (cmpI x y :: l)=0↔x=y∧orI l=0:=by
 show (if cmpI x y=0 then orI l else cmpI x y)=0↔_
 rcases cmpI_cases x y with ⟨h,e⟩ | ⟨h,h',e⟩ | ⟨h,h',e⟩
 ·rw [e,if_neg (by decide)]
  omega
 ·rw [e,if_neg (by decide)]
  omega
 ·rw [e,if_pos rfl]
  omega
theorem offer_lt (N:List Nd) (D:List Way) (p q r s m t:Nat):offerF N D p q r s m t < 0↔costW D p+m < costW D r+t∨costW D p+m=costW D r+t∧(idA N p < idA N r∨idA N p=idA N r∧(ptA N p q).pid < (ptA N r s).pid):=by
 unfold offerF
 rw [orI_lt,orI_lt,orI_lt]
 have e:orI []=0:=rfl
 rw [e]
 omega
theorem offer_zero (N:List Nd) (D:List Way) (p q r s m t:Nat):offerF N D p q r s m t=0↔costW D p+m=costW D r+t∧idA N p=idA N r∧(ptA N p q).pid=(ptA N r s).pid:=by
 unfold offerF
 rw [orI_zero,orI_zero,orI_zero]
 have e:orI []=0:=rfl
 rw [e]
 omega
def byA (f:Pl→Option Int) (By:List Pl) (a:Pl):Pl:=By.getD ((f a).getD 0).toNat (0,0)
theorem near_lt (N:List Nd) (D:List Way) (f:Pl→Option Int) (By:List Pl) (a b:Pl):nearP N D f By a b < 0↔(nearK N D f By a:Int) < nearK N D f By b∨(nearK N D f By a:Int)=nearK N D f By b ∧
    (idA N (byA f By a).1.toNat < idA N (byA f By b).1.toNat∨idA N (byA f By a).1.toNat=idA N (byA f By b).1.toNat ∧
    ((ptA N (byA f By a).1.toNat (byA f By a).2.toNat).pid < (ptA N (byA f By b).1.toNat (byA f By b).2.toNat).pid∨(ptA N (byA f By a).1.toNat (byA f By a).2.toNat).pid=(ptA N (byA f By b).1.toNat (byA f By b).2.toNat).pid∧(ptA N a.1.toNat a.2.toNat).pid < (ptA N b.1.toNat b.2.toNat).pid)):=by
 have h1:=offer_lt N D (byA f By a).1.toNat (byA f By a).2.toNat (byA f By b).1.toNat (byA f By b).2.toNat (ptA N a.1.toNat a.2.toNat).cost.toNat (ptA N b.1.toNat b.2.toNat).cost.toNat
 have h2:=offer_zero N D (byA f By a).1.toNat (byA f By a).2.toNat (byA f By b).1.toNat (byA f By b).2.toNat (ptA N a.1.toNat a.2.toNat).cost.toNat (ptA N b.1.toNat b.2.toNat).cost.toNat
 have ka:nearK N D f By a=costW D (byA f By a).1.toNat+(ptA N a.1.toNat a.2.toNat).cost.toNat:=rfl
 have kb:nearK N D f By b=costW D (byA f By b).1.toNat+(ptA N b.1.toNat b.2.toNat).cost.toNat:=rfl
 have e:nearP N D f By a b=orI [offerF N D (byA f By a).1.toNat (byA f By a).2.toNat (byA f By b).1.toNat (byA f By b).2.toNat (ptA N a.1.toNat a.2.toNat).cost.toNat (ptA N b.1.toNat b.2.toNat).cost.toNat,cmpI (ptA N a.1.toNat a.2.toNat).pid (ptA N b.1.toNat b.2.toNat).pid]:=rfl
 have h3:=orI_lt (ptA N a.1.toNat a.2.toNat).pid (ptA N b.1.toNat b.2.toNat).pid []
 rw [e,ka,kb]
 generalize offerF N D (byA f By a).1.toNat (byA f By a).2.toNat (byA f By b).1.toNat (byA f By b).2.toNat (ptA N a.1.toNat a.2.toNat).cost.toNat (ptA N b.1.toNat b.2.toNat).cost.toNat=o at h1 h2 ⊢
 show (if o=0 then orI [cmpI (ptA N a.1.toNat a.2.toNat).pid (ptA N b.1.toNat b.2.toNat).pid] else o) < 0↔_
 have e0:orI []=0:=rfl
 rw [e0] at h3
 by_cases h0:o=0
 ·rw [if_pos h0,h3]
  have h4:=h2.1 h0
  omega
 ·rw [if_neg h0,h1]
  have h4:¬ _:=fun x=>h0 (h2.2 x)
  omega
theorem seg_root {N:List Nd} {S:List (List Pl)} (hok:∀ seg ∈ S,∀ p ∈ seg,PlOk N p) {seg:List Pl} (hs:seg ∈ S) {a b:Pl} (ha:a ∈ seg) (hb:b ∈ seg):at0 (rootsOf N S) a.1.toNat=at0 (rootsOf N S) b.1.toNat:=by
 have o1:=hok seg hs a ha
 have o2:=hok seg hs b hb
 unfold rootsOf
 rw [rootF_at N (hopsF_sym _ _ _) (by have:=o1.1; have:=o1.2.1; omega),rootF_at N (hopsF_sym _ _ _) (by have:=o2.1; have:=o2.2.1; omega),seg_part N S hs ha hb ⟨o1.1,o1.2.1⟩ ⟨o2.1,o2.2.1⟩]
theorem best_des {N:List Nd} {S0:List (List Pl)} (h:NetOk N S0) (U:List Bool) {r:Nat} (hr:N.length≤r+1) (hr2:r≤11) {seg:List Pl} (hs:seg ∈ raisedL U S0) (h1:1≤seg.length):bestF N (rP N (raisedL U S0) r).1 seg=desF N (waysOf N (raisedL U S0)) seg:=by
 have hok:=raisedL_ok (U:=U) h.sok
 unfold desF bestF
 rw [if_neg (by omega)]
 refine minF_congr h1 (fun a ha b hb=>?_)
 have o1:=hok seg hs a ha
 have o2:=hok seg hs b hb
 obtain ⟨ra,ca⟩:=rP_final h U hr hr2 (i:=a.1.toNat) (by have:=o1.1; have:=o1.2.1; omega)
 obtain ⟨rb,cb⟩:=rP_final h U hr hr2 (i:=b.1.toNat) (by have:=o2.1; have:=o2.2.1; omega)
 rw [seg_root hok hs ha hb] at ra
 unfold cfV
 rw [c4V_lt]
 unfold offerP
 rw [offer_lt]
 unfold tellF
 dsimp only
 rw [ra,rb,ca,cb]
 omega
theorem byD_eq {N:List Nd} {S0:List (List Pl)} (h:NetOk N S0) (U:List Bool):(raisedL U S0).map (byD N (endP N (raisedL U S0)).1)=byOf N (raisedL U S0):=by
 have h5:=h.one.2
 unfold byOf
 refine List.map_congr_left (fun seg hs=>?_)
 unfold byD
 by_cases h0:seg.length=0
 ·rw [if_pos h0]
  unfold desF
  rw [if_pos h0]
 ·rw [if_neg h0]
  exact best_des h U (by omega) (by omega) hs (by omega)
theorem pid_inj {N:List Nd} {S0:List (List Pl)} (h:NetOk N S0) {i k m:Nat} (hi:i < N.length) (hk:k < npA N i) (hm:m < npA N i) (e:(ptA N i k).pid=(ptA N i m).pid):k=m:=by
 have hN:N.getD i default ∈ N:=by
  rw [List.getD_eq_getElem?_getD,List.getElem?_eq_getElem hi]
  exact List.getElem_mem hi
 have hp:=(h.nodes.1 _ hN).2.2.2
 rw [List.nodup_iff_pairwise_ne,List.pairwise_map,List.pairwise_iff_getElem] at hp
 have g:∀ j (hj:j < npA N i),ptA N i j=(N.getD i default).ports[j]'hj:=fun j hj=>by
  unfold ptA
  rw [List.getD_eq_getElem?_getD,List.getElem?_eq_getElem hj]
  rfl
 rw [g k hk,g m hm] at e
 rcases Nat.lt_trichotomy k m with h1 | h1 | h1
 ·exact absurd (by rw [e]) (hp k m hk hm h1)
 ·exact h1
 ·exact absurd (by rw [e]) (hp m k hm hk h1)
theorem via_is {N:List Nd} {S0:List (List Pl)} (h:NetOk N S0) (U:List Bool) {i:Nat} (hi:i < N.length) :
    (at0 (rootsOf N (raisedL U S0)) i=i→(endP N (raisedL U S0)).2.getD i (0,0)=(-1,-1)) ∧
    (¬ at0 (rootsOf N (raisedL U S0)) i=i→(endP N (raisedL U S0)).2.getD i (0,0)=minF (nearP N (waysOf N (raisedL U S0)) (segF (raisedL U S0)) (byOf N (raisedL U S0))) (waL (segF (raisedL U S0)) (byOf N (raisedL U S0)) i (npA N i))):=by
 have h5:=h.one.2
 have hok:=raisedL_ok (U:=U) h.sok
 have hu:=h.uniq.raised U
 have hv:=rnd_inv hok (rP N (raisedL U S0) N.length).1 hi
 have fin:=rP_final h U (r:=N.length+1) (by omega) (by omega) hi
 have fin:((rndP N (raisedL U S0) (rP N (raisedL U S0) N.length).1).1.getD i default).root=_∧((rndP N (raisedL U S0) (rP N (raisedL U S0) N.length).1).1.getD i default).cost=_:=fin
 show (_→(rndP N (raisedL U S0) (rP N (raisedL U S0) N.length).1).2.getD i (0,0)=_)∧(_→(rndP N (raisedL U S0) (rP N (raisedL U S0) N.length).1).2.getD i (0,0)=_)
 generalize (rndP N (raisedL U S0) (rP N (raisedL U S0) N.length).1).1.getD i default=v at hv fin
 generalize (rndP N (raisedL U S0) (rP N (raisedL U S0) N.length).1).2.getD i (0,0)=p at hv
 have hrg:=rootsOf_rng N (raisedL U S0) i hi
 -- what is told through a place
 have new:∀ seg ∈ raisedL U S0,∀ q ∈ seg,bestF N (rP N (raisedL U S0) N.length).1 seg=desF N (waysOf N (raisedL U S0)) seg∧(newV N (rP N (raisedL U S0) N.length).1 (bestF N (rP N (raisedL U S0) N.length).1 seg) q).root=idA N (at0 (rootsOf N (raisedL U S0)) q.1.toNat).toNat ∧
     (newV N (rP N (raisedL U S0) N.length).1 (bestF N (rP N (raisedL U S0) N.length).1 seg) q).cost=thr ((costW (waysOf N (raisedL U S0)) (desF N (waysOf N (raisedL U S0)) seg).1.toNat:Nat):Int) (costA N q):=fun seg hs q hq=>by
  have h1:=List.length_pos_of_mem hq
  have e:=best_des h U (r:=N.length) (by omega) (by omega) hs h1
  have hb:=desF_mem (N:=N) (D:=waysOf N (raisedL U S0)) h1
  have okb:=hok seg hs _ hb
  obtain ⟨rb,cb⟩:=rP_final h U (r:=N.length) (by omega) (by omega) (i:=(desF N (waysOf N (raisedL U S0)) seg).1.toNat) (by have:=okb.1; have:=okb.2.1; omega)
  rw [seg_root hok hs hb hq] at rb
  refine ⟨e,?_,?_⟩
  ·rw [e]
   exact rb
  ·rw [e]
   show thr ((rP N (raisedL U S0) N.length).1.getD _ default).cost _=_
   rw [cb]
   rfl
 have thrp:∀ seg ∈ raisedL U S0,∀ q ∈ seg,thr ((costW (waysOf N (raisedL U S0)) (desF N (waysOf N (raisedL U S0)) seg).1.toNat:Nat):Int) (costA N q)=((costW (waysOf N (raisedL U S0)) (desF N (waysOf N (raisedL U S0)) seg).1.toNat:Nat):Int)+costA N q∧1≤costA N q:=fun seg hs q hq=>by
  have h1:=List.length_pos_of_mem hq
  have hb:=desF_mem (N:=N) (D:=waysOf N (raisedL U S0)) h1
  have okb:=hok seg hs _ hb
  have okq:=hok seg hs _ hq
  have pos:=h.pos q okq
  obtain ⟨r0,q0,e0,l0,b0,c0⟩:=cost_best (N:=N) (S:=raisedL U S0) (j:=(desF N (waysOf N (raisedL U S0)) seg).1.toNat) (by have:=okb.1; have:=okb.2.1; omega)
  have w0:=walk_cost b0.1 (hopsF_cost (M:=200000000) hok (fun x hx q hq=>((h.nodes.1 x hx).2.2.1 q hq).2.2))
  have s0:=bst_short l0 b0
  have w1:q0.2*200000000≤4*200000000:=Nat.mul_le_mul_right _ (by omega)
  have cq:costA N q≤200000000:=by
   obtain ⟨h1,h2,h3,h4⟩:=okq
   have hi:q.1.toNat < N.length:=by omega
   have hN:N.getD q.1.toNat default ∈ N:=by
    rw [List.getD_eq_getElem?_getD,List.getElem?_eq_getElem hi]
    exact List.getElem_mem hi
   have hk:q.2.toNat < (N.getD q.1.toNat default).ports.length:=by omega
   have hP:(N.getD q.1.toNat default).ports.getD q.2.toNat default ∈ (N.getD q.1.toNat default).ports:=by
    rw [List.getD_eq_getElem?_getD (l:=(N.getD q.1.toNat default).ports),List.getElem?_eq_getElem hk]
    exact List.getElem_mem hk
   exact ((h.nodes.1 _ hN).2.2.1 _ hP).2.2
  refine ⟨?_,pos⟩
  unfold thr
  rw [if_pos (by omega)]
 constructor
 ·intro hr
  rcases hv.src with ⟨-,e⟩ | ⟨b,hX,hp,hne,e⟩
  ·exact e
  ·exfalso
   obtain ⟨seg,hs,hps,rfl⟩:=mem_pairs.1 hX
   obtain ⟨n1,n2,n3⟩:=new seg hs p hps
   obtain ⟨t1,t2⟩:=thrp seg hs p hps
   rw [e] at fin
   have hc0:costW (waysOf N (raisedL U S0)) i=0:=by
    have hr1:at0 (planF N (raisedL U S0)).root i=idA N i:=by rw [root_at hi,hr,Int.toNat_natCast]
    have:=cost_own h U hi hr1
    rw [cost_at hi] at this
    omega
   rw [hc0] at fin
   omega
 ·intro hr
  rcases hv.src with ⟨e,-⟩ | ⟨b,hX,hp,hne,e⟩
  ·exfalso
   rw [e] at fin
   have e1:idA N i=idA N (at0 (rootsOf N (raisedL U S0)) i).toNat:=fin.1
   have:=h.ids _ _ hi (by omega) e1
   omega
  ·obtain ⟨seg,hs,hps,rfl⟩:=mem_pairs.1 hX
   obtain ⟨n1,n2,n3⟩:=new seg hs p hps
   obtain ⟨t1,-⟩:=thrp seg hs p hps
   -- both are ways on: candidates
   have cand:∀ q seg,seg ∈ raisedL U S0→q ∈ seg→q.1=i→(desF N (waysOf N (raisedL U S0)) seg).1 ≠ q.1→q ∈ waL (segF (raisedL U S0)) (byOf N (raisedL U S0)) i (npA N i)∧byA (segF (raisedL U S0)) (byOf N (raisedL U S0)) q=desF N (waysOf N (raisedL U S0)) seg:=fun q seg hs hq e1 e2=>by
    obtain ⟨s,hsl,rfl⟩:=mem_getD hs
    have okq:=hok _ hs q hq
    have fs:=segF_at hu hsl hq
    obtain ⟨qi,qk⟩:=q
    obtain ⟨o1,o2,o3,o4⟩:=okq
    dsimp only at e1 e2 o1 o2 o3 o4
    subst e1
    obtain ⟨k,rfl⟩:∃ k:Nat,qk=k:=⟨_,(Int.toNat_of_nonneg o3).symm⟩
    rw [Int.toNat_natCast] at o4
    have eb:=byOf_at N (raisedL U S0) hsl
    refine ⟨mem_waL.2 ⟨k,by unfold npA; omega,?_,rfl⟩,?_⟩
    ·unfold alK
     rw [alone_eq fs,Int.toNat_natCast,eb,if_neg (fun x=>e2 (by rw [x])),if_neg e2]
    ·unfold byA
     rw [fs,Option.getD_some,Int.toNat_natCast,eb]
   have hne2:(desF N (waysOf N (raisedL U S0)) seg).1 ≠ p.1:=by rw [← n1]; exact hne
   obtain ⟨c1,c2⟩:=cand p seg hs hps hp hne2
   have hlen:=List.length_pos_of_mem c1
   have hm:=minF_mem (nearP N (waysOf N (raisedL U S0)) (segF (raisedL U S0)) (byOf N (raisedL U S0))) _ hlen
   have hb1:=minF_best (nearP N (waysOf N (raisedL U S0)) (segF (raisedL U S0)) (byOf N (raisedL U S0))) (fun a=>(nearK N (waysOf N (raisedL U S0)) (segF (raisedL U S0)) (byOf N (raisedL U S0)) a:Int)) (fun a=>idA N (byA (segF (raisedL U S0)) (byOf N (raisedL U S0)) a).1.toNat)
    (fun a=>(ptA N (byA (segF (raisedL U S0)) (byOf N (raisedL U S0)) a).1.toNat (byA (segF (raisedL U S0)) (byOf N (raisedL U S0)) a).2.toNat).pid) (fun a=>(ptA N a.1.toNat a.2.toNat).pid) (fun a b=>near_lt _ _ _ _ a b) c1
   generalize minF (nearP N (waysOf N (raisedL U S0)) (segF (raisedL U S0)) (byOf N (raisedL U S0))) (waL (segF (raisedL U S0)) (byOf N (raisedL U S0)) i (npA N i))=mm at hm hb1 ⊢
   obtain ⟨km,hkm,hal,hme⟩:=mem_waL.1 hm
   obtain ⟨sv,hsv,hbn⟩:=alone_one hal
   obtain ⟨s2,rfl,hs2,hm2⟩:=segK_some _ _ _ sv hsv
   have hS2:(raisedL U S0).getD s2 [] ∈ raisedL U S0:=by
    rw [List.getD_eq_getElem?_getD,List.getElem?_eq_getElem hs2]
    exact List.getElem_mem hs2
   rw [Int.toNat_natCast,byOf_at N _ hs2] at hbn
   rw [← hme] at hm2 hbn
   have hmi:mm.1=i:=by rw [hme]
   obtain ⟨d1,d2⟩:=cand mm _ hS2 hm2 hmi hbn
   obtain ⟨m1,m2,m3⟩:=new _ hS2 mm hm2
   obtain ⟨t3,-⟩:=thrp _ hS2 mm hm2
   have hl:=hv.least _ mm (mem_pairs.2 ⟨_,hS2,hm2,rfl⟩) hmi (by rw [m1]; exact hbn)
   rw [e,c5V_lt,m2,m3,n2,n3,t1,t3,m1,n1] at hl
   rw [near_lt] at hb1
   have kp:(nearK N (waysOf N (raisedL U S0)) (segF (raisedL U S0)) (byOf N (raisedL U S0)) p:Int)=((costW (waysOf N (raisedL U S0)) (desF N (waysOf N (raisedL U S0)) seg).1.toNat:Nat):Int)+costA N p:=by
    have:=(thrp seg hs p hps).2
    have e2:nearK N (waysOf N (raisedL U S0)) (segF (raisedL U S0)) (byOf N (raisedL U S0)) p=costW (waysOf N (raisedL U S0)) (byA (segF (raisedL U S0)) (byOf N (raisedL U S0)) p).1.toNat+(costA N p).toNat:=rfl
    rw [e2,c2]
    omega
   have km2:(nearK N (waysOf N (raisedL U S0)) (segF (raisedL U S0)) (byOf N (raisedL U S0)) mm:Int)=((costW (waysOf N (raisedL U S0)) (desF N (waysOf N (raisedL U S0)) ((raisedL U S0).getD s2 [])).1.toNat:Nat):Int)+costA N mm:=by
    have:=(thrp _ hS2 mm hm2).2
    have e2:nearK N (waysOf N (raisedL U S0)) (segF (raisedL U S0)) (byOf N (raisedL U S0)) mm=costW (waysOf N (raisedL U S0)) (byA (segF (raisedL U S0)) (byOf N (raisedL U S0)) mm).1.toNat+(costA N mm).toNat:=rfl
    rw [e2,d2]
    omega
   rw [kp,km2,c2,d2] at hb1
   obtain ⟨kp0,hkp0,-,hpe⟩:=mem_waL.1 c1
   have b1:∀ (a q:Pl),(newV N (rP N (raisedL U S0) N.length).1 a q).br=idA N a.1.toNat∧(newV N (rP N (raisedL U S0) N.length).1 a q).port=(ptA N a.1.toNat a.2.toNat).pid∧(newV N (rP N (raisedL U S0) N.length).1 a q).rx=(ptA N q.1.toNat q.2.toNat).pid:=fun a q=>⟨rfl,rfl,rfl⟩
   obtain ⟨x1,x2,x3⟩:=b1 (desF N (waysOf N (raisedL U S0)) seg) p
   obtain ⟨y1,y2,y3⟩:=b1 (desF N (waysOf N (raisedL U S0)) ((raisedL U S0).getD s2 [])) mm
   rw [x1,x2,x3,y1,y2,y3] at hl
   have er:idA N (at0 (rootsOf N (raisedL U S0)) mm.1.toNat).toNat=idA N (at0 (rootsOf N (raisedL U S0)) p.1.toNat).toNat:=by rw [hmi,hp]
   have key:(ptA N p.1.toNat p.2.toNat).pid=(ptA N mm.1.toNat mm.2.toNat).pid:=by omega
   rw [hpe,hme] at key
   dsimp only at key
   rw [Int.toNat_natCast,Int.toNat_natCast,Int.toNat_natCast] at key
   obtain rfl:=pid_inj h hi hkp0 hkm key
   rw [hpe,hme]
theorem doc_plan {N:List Nd} {S0:List (List Pl)} (h:NetOk N S0) (U:List Bool):docF N (raisedL U S0)=planF N (raisedL U S0):=by
 have h5:=h.one.2
 have hp:∀ seg ∈ raisedL U S0,∀ p ∈ seg,0≤(ptA N p.1.toNat p.2.toNat).cost:=fun seg hs p hp=>by
  have:=h.pos p (raisedL_ok h.sok seg hs p hp)
  unfold costA at this
  unfold ptA
  omega
 have hlen:=(rP_ok hp (N.length+1)).len1
 have hb:=byD_eq h U
 have fin:∀ i (hi:i < (endP N (raisedL U S0)).1.length),((endP N (raisedL U S0)).1[i]).root=idA N (at0 (rootsOf N (raisedL U S0)) i).toNat∧((endP N (raisedL U S0)).1[i]).cost=((costW (waysOf N (raisedL U S0)) i:Nat):Int):=fun i hi=>by
  have hi2:i < N.length:=by rw [← hlen]; exact hi
  have:=rP_final h U (r:=N.length+1) (by omega) (by omega) hi2
  have e:(endP N (raisedL U S0)).1.getD i default=(endP N (raisedL U S0)).1[i]:=by rw [List.getD_eq_getElem?_getD,List.getElem?_eq_getElem hi]; rfl
  rw [← e]
  exact this
 unfold docF planF
 rw [hb]
 congr 1
 ·refine List.ext_getElem (by rw [List.length_map,List.length_map,rootsOf_len]; exact hlen) (fun i h1 h2=>?_)
  have hi:i < (endP N (raisedL U S0)).1.length:=by simpa using h1
  have hi3:i < (rootsOf N (raisedL U S0)).length:=by simpa using h2
  rw [List.getElem_map,List.getElem_map,(fin i hi).1]
  have e:at0 (rootsOf N (raisedL U S0)) i=(rootsOf N (raisedL U S0))[i]:=by unfold at0; rw [List.getD_eq_getElem?_getD,List.getElem?_eq_getElem hi3]; rfl
  rw [e]
 ·refine List.ext_getElem (by rw [List.length_map,List.length_map,List.length_range]; exact hlen) (fun i h1 h2=>?_)
  have hi:i < (endP N (raisedL U S0)).1.length:=by simpa using h1
  rw [List.getElem_map,List.getElem_map,List.getElem_range]
  exact (fin i hi).2
 ·refine List.map_congr_left (fun i him=>?_)
  have hi:=List.mem_range.1 him
  obtain ⟨v1,v2⟩:=via_is h U hi
  refine List.ext_getElem (by
   rw [List.length_map,List.length_range]
   unfold roleF
   dsimp only
   split
   ·rw [List.length_set,alL_len]
   ·rw [alL_len]) (fun k h1 h2=>?_)
  have hk:k < npA N i:=by simpa using h1
  rw [List.getElem_map,List.getElem_range]
  have e:(roleF N (waysOf N (raisedL U S0)) (rootsOf N (raisedL U S0)) (segF (raisedL U S0)) (byOf N (raisedL U S0)) i)[k]=at0 (rolesOf N (raisedL U S0) i) k:=by
   unfold at0
   rw [List.getD_eq_getElem?_getD (l:=rolesOf N (raisedL U S0) i),List.getElem?_eq_getElem h2]
   rfl
  rw [e]
  have rd:∀ via:Pl,via ≠ ((i:Int),(k:Int))→roleD (segF (raisedL U S0)) (byOf N (raisedL U S0)) via ((i:Int),(k:Int))=alK (segF (raisedL U S0)) (byOf N (raisedL U S0)) i k:=fun via hv=>by
   unfold roleD alK aloneF
   cases segF (raisedL U S0) ((i:Int),(k:Int)) with
   | none=>rfl
   | some s =>
    dsimp only
    rw [if_neg hv]
  by_cases hr:at0 (rootsOf N (raisedL U S0)) i=i
  ·rw [v1 hr,role_own hr,alL_at _ _ _ hk,rd _ (fun x=>by have:=congrArg Prod.fst x; dsimp only at this; omega)]
  ·obtain ⟨km,s,j,ra⟩:=role_root (raisedL_ok h.sok) (h.uniq.raised U) h.pos hi hr
   have hmem:(((i:Int),(km:Int)):Pl) ∈ waL (segF (raisedL U S0)) (byOf N (raisedL U S0)) i (npA N i):=mem_waL.2 ⟨km,ra.port,ra.al,rfl⟩
   have hl:=List.length_pos_of_mem hmem
   have hm:=minF_mem (nearP N (waysOf N (raisedL U S0)) (segF (raisedL U S0)) (byOf N (raisedL U S0))) _ hl
   obtain ⟨k2,hk2,hal,hme⟩:=mem_waL.1 hm
   have er:rolesOf N (raisedL U S0) i=(alL (segF (raisedL U S0)) (byOf N (raisedL U S0)) i (npA N i)).set k2 3:=by
    unfold rolesOf roleF
    dsimp only
    rw [if_pos ⟨hr,hl⟩,hme,Int.toNat_natCast]
   rw [v2 hr,hme,er,at0_put _ _ _ _ (by rw [alL_len]; exact hk2),alL_at _ _ _ hk]
   by_cases ek:k2=k
   ·subst ek
    rw [if_pos rfl]
    unfold alK at hal
    obtain ⟨sv,hsv,hbn⟩:=alone_one hal
    unfold roleD
    rw [hsv]
    dsimp only
    rw [if_neg (fun x=>hbn (by rw [x])),if_neg hbn,if_pos rfl]
   ·rw [if_neg ek]
    exact rd _ (fun x=>ek (by have:=congrArg Prod.snd x; dsimp only at this; omega))
theorem info_vc:(Try.prog.info? 90).map (fun i=>(i.zero,i.size,i.bytes))=some (some (.agg VZ5),5,32):=by kernel_rfl
theorem info_fp:(Try.prog.info? 59).map (fun i=>(i.zero,i.size,i.bytes))=some (some (.agg PZ2),2,16):=by kernel_rfl
theorem b1_vc (r c b p x:Int):Instr.fill (fun i=>some (i*5,5)) ((Array.range (1*5)).map (VZ5[· % VZ5.size]!)) [(0,.agg #[.int .u64 r,.int .u32 c,.int .u64 b,.int .u16 p,.int .u16 x])]=some #[.int .u64 r,.int .u32 c,.int .u64 b,.int .u16 p,.int .u16 x]:=by kernel_rfl
theorem zero_dp:∀ w,(zeroValue 51).run Try.prog w=.ok (.agg PNZ) w:=(zero_of_info (P:=Try.prog) (t:=51) (v:=.agg PNZ) (n:=4) (by kernel_rfl)).1
theorem size_dp:(Try.prog.info? 51).map (·.size)=some 4:=by kernel_rfl
theorem bl_own (a:Int):Try.prog.built 90 [(0,.int .u64 a),(2,.int .u64 a)]=some #[.int .u64 a,.int .u32 0,.int .u64 a,.int .u16 0,.int .u16 0]:=by kernel_rfl
def STZ:Array Value:=#[.int .u16 0,.int .u32 0,.bool false,.bool false,.bool false]
theorem zero_stp:∀ w,(zeroValue 67).run Try.prog w=.ok (.agg STZ) w:=(zero_of_info (P:=Try.prog) (t:=67) (v:=.agg STZ) (n:=5) (by kernel_rfl)).1
theorem size_stp:(Try.prog.info? 67).map (·.size)=some 5:=by kernel_rfl
theorem segs_pl {w:World} {sv:Value} {S:List (List Pl)} (h:SegsAt w sv S) (h1:1≤S.length):∃ sb so scap,sv=.slice (some ⟨sb,so,none⟩) S.length scap ∧
    ∀ i,i < S.length→∃ a cap,(∀ W',Ext w W'→W'.cell? ⟨sb,so+i,none⟩=some (.slice a (S.getD i []).length cap))∧PlAt w (.slice a (S.getD i []).length cap) (S.getD i []):=by
 obtain ⟨pv,⟨sa,scap,rfl,hsm,hsf⟩,hpl⟩:=h
 obtain ⟨sb,so,rfl,hb,-,-,h3⟩:=hsf (by omega)
 refine ⟨sb,so,scap,rfl,fun i hi=>?_⟩
 have h5:=hpl i hi
 obtain ⟨a,cap,e,-,-⟩:=id h5
 rw [e] at h5
 refine ⟨a,cap,fun W' hx=>?_,h5⟩
 have:=h3 i hi 0 _ rfl
 rw [Nat.add_zero,Nat.mul_one,e] at this
 exact (hx.cell hb).trans this
def foldS (N:List Nd) (S:List (List Pl)) (D:List Vc) (s:Nat):St:=(S.take s).foldl (segP N D) (ownL N N.length,List.replicate N.length (-1,-1))
theorem foldS_step (N:List Nd) (S:List (List Pl)) (D:List Vc) {s:Nat} (hs:s < S.length):foldS N S D (s+1)=segP N D (foldS N S D s) (S.getD s []):=by
 unfold foldS
 rw [take_snoc S [] hs,List.foldl_append]
 rfl
theorem foldS_rest (N:List Nd) (S:List (List Pl)) (D:List Vc):∀ d s,S.length=s+d→(∀ j,s≤j→j < S.length→S.getD j []=[])→foldS N S D s=rndP N S D
 | 0,s,h,_=>by
  unfold foldS rndP
  rw [List.take_of_length_le (by omega)]
 | d+1,s,h,he=>by
  have h2:=foldS_rest N S D d (s+1) (by omega) (fun j hj=>he j (by omega))
  rw [foldS_step N S D (by omega),he s (Nat.le_refl _) (by omega)] at h2
  exact h2
def foldP (N:List Nd) (D:List Vc) (st:St) (L:List Pl) (k:Nat):St:=(L.take k).foldl (put1 N D (bestF N D L)) st
theorem foldP_step (N:List Nd) (D:List Vc) (st:St) (L:List Pl) {k:Nat} (hk:k < L.length):foldP N D st L (k+1)=put1 N D (bestF N D L) (foldP N D st L k) (L.getD k (0,0)):=by
 unfold foldP
 rw [take_snoc L (0,0) hk,List.foldl_append]
 rfl
theorem foldP_all (N:List Nd) (D:List Vc) (st:St) (L:List Pl):foldP N D st L L.length=segP N D st L:=by
 unfold foldP segP
 rw [List.take_length]
theorem ptA_cost {N:List Nd} {S:List (List Pl)} (h:NetOk N S) (U:List Bool):∀ seg ∈ raisedL U S,∀ p ∈ seg,0≤(ptA N p.1.toNat p.2.toNat).cost:=fun seg hs p hp=>by
 have:=h.pos p (raisedL_ok h.sok seg hs p hp)
 unfold costA at this
 unfold ptA
 omega
theorem foldS_ok {N:List Nd} {S:List (List Pl)} {D:List Vc} (hD:∀ v ∈ D,0≤v.cost∧v.cost < 4294967296) (hp:∀ seg ∈ S,∀ p ∈ seg,0≤(ptA N p.1.toNat p.2.toNat).cost) (s:Nat):StOk N.length (foldS N S D s) :=
 segs_ok hD _ _ (fun seg hs=>hp seg (List.mem_of_mem_take hs)) (own_ok N _ (by simp))
theorem foldP_ok {N:List Nd} {D:List Vc} {n:Nat} {st:St} (hD:∀ v ∈ D,0≤v.cost∧v.cost < 4294967296) (h:StOk n st) {L:List Pl} (hp:∀ p ∈ L,0≤(ptA N p.1.toNat p.2.toNat).cost) (k:Nat):StOk n (foldP N D st L k) :=
 fold_ok hD _ _ (fun p hm=>hp p (List.mem_of_mem_take hm)) h
theorem fbest_at (t0 t1 t2 t3 hold room age:Int) (nb no n ncap sb so m cap bi bk:Nat) (sv vv:Value) (N:List Nd) (V:List Vc) (S:List Pl) (w:World) (hb:bestF N V S=((bi:Int),(bk:Int))) (hN:NodesAt w (.slice (some ⟨nb,no,none⟩) n ncap) N) (hn:N.length=n) (hV:VsAt w vv V) (hVn:V.length=n) (hs1:sv.oneCell'=true)
    (hS:PlAt w (.slice (some ⟨sb,so,none⟩) m cap) S) (hm:S.length=m) (hm1:1≤m∧m≤60) (hok:∀ p ∈ S,PlOk N p) :
    Calls Try.prog 25 #[.agg #[.int .i64 t0,.int .i64 t1,.int .i64 t2,.int .i64 t3,.int .i64 hold,.int .i64 room,.int .i64 age,.slice (some ⟨nb,no,none⟩) n ncap,sv],vv,.slice (some ⟨sb,so,none⟩) m cap] w fun e w'=>e=.returned (.agg #[.int .i64 (bi:Int),.int .i64 (bk:Int)])∧Ext w w':=by
 have h:=fbest_any t0 t1 t2 t3 hold room age nb no n ncap sb so m cap sv vv N V S w hN hn hV hVn hs1 hS hm hm1 hok
 rw [hb] at h
 exact h
theorem fthr_at (r c b p x q z nc:Int) (w:World) (hnc:thr c q=nc) (hc:0≤c∧c < 4294967296) (hq:0≤q∧q < 4294967296) :
    Calls Try.prog 26 #[.agg #[.int .u64 r,.int .u32 c,.int .u64 b,.int .u16 p,.int .u16 x],.int .u32 q,.int .u16 z] w fun e w'=>e=.returned (.agg #[.int .u64 r,.int .u32 nc,.int .u64 b,.int .u16 p,.int .u16 z])∧Ext w w':=by
 have h:=ref_through r c b p x q z w hc hq
 rw [hnc] at h
 exact h
theorem PlAt.ownF {w:World} {base:Nat} {v:Value} {L:List Pl} (h:w.ownsRow base 59 2 v L.length (flatP L)) (hL:L.length≤1000):PlAt w v L:=by
 obtain ⟨a,cap,rfl⟩:=own_form2 h
 refine ⟨a,cap,rfl,by omega,fun h0=>?_⟩
 rcases h.2 with ⟨e,e2⟩ | ⟨g,cap2,cur,e,hb,hg,hn,hm,hs,ht⟩
 ·omega
 ·cases e
  refine ⟨g,0,rfl,heap_lt hg,hn,by unfold maxLen at hm; omega,fun i hi j v hv=>?_⟩
  have hj:j < 2:=by
   have:=(List.getElem?_eq_some_iff.1 hv).1
   exact this
  have h2:=own_range h (i*2+j) v (by rw [flatP_at L i j hi hj]; exact hv)
  rw [Nat.zero_add] at h2 ⊢
  exact h2
structure FamD (F:Nat→OS) (byv:Value) (BY:List Pl) (R C:List Int) (rl:Nat→List Int) (a b c:Nat):Prop where
 h0:F 0=⟨byv,59,2,BY.length,flatP BY⟩
 h1:F 1=⟨(F 1).v,53,1,a,kv .u64 (R.take a)⟩
 h2:F 2=⟨(F 2).v,54,1,b,kv .u32 (C.take b)⟩
 h3:F 3=⟨(F 3).v,56,1,c,(List.range c).map (fun j=>(F (4+j)).v)⟩
 h4:∀ j,j < c→F (4+j)=⟨(F (4+j)).v,3,1,(rl j).length,iv (rl j)⟩
theorem FamD.root {F:Nat→OS} {byv v:Value} {BY:List Pl} {R C:List Int} {rl:Nat→List Int} {a b c:Nat} (h:FamD F byv BY R C rl a b c):FamD (upd F 1 ⟨v,53,1,a+1,kv .u64 (R.take (a+1))⟩) byv BY R C rl (a+1) b c:=by
 refine ⟨by rw [upd_other (by omega)]; exact h.h0,by rw [upd_same],by rw [upd_other (by omega)]; exact h.h2,?_,fun j hj=>by rw [upd_other (by omega)]; exact h.h4 j hj⟩
 rw [upd_other (by omega),h.h3]
 congr 1
 exact List.map_congr_left (fun j _=>by rw [upd_other (by omega)])
theorem FamD.cost {F:Nat→OS} {byv v:Value} {BY:List Pl} {R C:List Int} {rl:Nat→List Int} {a b c:Nat} (h:FamD F byv BY R C rl a b c):FamD (upd F 2 ⟨v,54,1,b+1,kv .u32 (C.take (b+1))⟩) byv BY R C rl a (b+1) c:=by
 refine ⟨by rw [upd_other (by omega)]; exact h.h0,by rw [upd_other (by omega)]; exact h.h1,by rw [upd_same],?_,fun j hj=>by rw [upd_other (by omega)]; exact h.h4 j hj⟩
 rw [upd_other (by omega),h.h3]
 congr 1
 exact List.map_congr_left (fun j _=>by rw [upd_other (by omega)])
theorem FamD.fresh {F:Nat→OS} {byv:Value} {o:OS} {BY:List Pl} {R C:List Int} {rl:Nat→List Int} {a b c:Nat} (h:FamD F byv BY R C rl a b c):FamD (upd F (4+c) o) byv BY R C rl a b c:=by
 refine ⟨by rw [upd_other (by omega)]; exact h.h0,by rw [upd_other (by omega)]; exact h.h1,by rw [upd_other (by omega)]; exact h.h2,?_,fun j hj=>by rw [upd_other (by omega)]; exact h.h4 j hj⟩
 rw [upd_other (by omega),h.h3]
 congr 1
 exact List.map_congr_left (fun j hj=>by rw [upd_other (by have:=List.mem_range.1 hj; omega)])
theorem FamD.role {F:Nat→OS} {byv v:Value} {BY:List Pl} {R C:List Int} {rl:Nat→List Int} {a b c:Nat} (h:FamD F byv BY R C rl a b c) (hr:F (4+c)=⟨(F (4+c)).v,3,1,(rl c).length,iv (rl c)⟩) :
    FamD (upd F 3 ⟨v,56,1,c+1,(List.range c).map (fun j=>(F (4+j)).v) ++ [(F (4+c)).v]⟩) byv BY R C rl a b (c+1):=by
 refine ⟨by rw [upd_other (by omega)]; exact h.h0,by rw [upd_other (by omega)]; exact h.h1,by rw [upd_other (by omega)]; exact h.h2,?_,fun j hj=>?_⟩
 ·rw [upd_same,List.range_succ,List.map_append]
  congr 1
  refine congr (congrArg _ ?_) ?_
  ·exact List.map_congr_left (fun j _=>by rw [upd_other (by omega)])
  ·show [(F (4+c)).v]=[(upd F 3 _ (4+c)).v]
   rw [upd_other (by omega)]
 ·rw [upd_other (by omega)]
  by_cases e:j=c
  ·rw [e]
   exact hr
  ·exact h.h4 j (by omega)
theorem frole_at (t0 t1 t2 t3 hold room age v1 v2 i k r:Int) (nv sv uv bv:Value) (N:List Nd) (S:List (List Pl)) (U:List Bool) (By:List Pl) (w:World) (hr:roleD (segF (raisedL U S)) By (v1,v2) (i,k)=r) (hS:SegsAt w sv S) (hm:1≤S.length∧S.length≤20) (hs60:∀ seg ∈ S,seg.length≤60) (hU:BoolsAt w uv U) (hul:U.length≤1000)
    (hB:PlAt w bv By) (hbl:By.length=S.length) (hu:Uniq S) (hn1:nv.oneCell'=true) :
    Calls Try.prog 29 #[bv,.agg #[.int .i64 v1,.int .i64 v2],.agg #[.int .i64 t0,.int .i64 t1,.int .i64 t2,.int .i64 t3,.int .i64 hold,.int .i64 room,.int .i64 age,nv,sv],uv,.agg #[.int .i64 i,.int .i64 k]] w fun e w'=>e=.returned (.int .i64 r)∧Ext w w':=by
 have h:=frole_any t0 t1 t2 t3 hold room age v1 v2 i k nv sv uv bv N S U By w hS hm hs60 hU hul hB hbl hu hn1
 rw [hr] at h
 exact h
theorem IntsR.of_own {w:World} {base:Nat} {v:Value} {l:List Int} (h:w.ownsRow base 3 1 v l.length (iv l)):IntsR w 0 v l:=by
 rcases h.2 with ⟨hv,h0⟩ | ⟨g,cap,cur,rfl,-⟩
 ·exact .inl ⟨List.eq_nil_of_length_eq_zero h0,hv⟩
 ·obtain ⟨p1,p2,p3⟩:=nums_own h rfl
  exact .inr ⟨g,cap,rfl,p1,p3,Nat.zero_le _⟩
theorem b1_int (x:Int):Instr.fill (fun i=>some (i*1,1)) ((Array.range (1*1)).map ((Value.int .i64 0).cells[· % (Value.int .i64 0).cells.size]!)) [(0,.int .i64 x)]=some #[.int .i64 x]:=by kernel_rfl
end Go.Proofs.Ytamnmjckhicapaa
