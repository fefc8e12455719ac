/- Part 12 of what PlanVersions stands on. No statement is proved here. -/
import Derived.Laws.CopyRow
import Derived.Great.BuildSlice
import Derived.Test.YtamnmjckhicapaaPtFk
namespace Go.Proofs.Ytamnmjckhicapaa
open Go.RowKit Go.BigFrame Go.WideShapes Go.ChangeShapes Go.Deep
set_option linter.unusedVariables false
set_option linter.unusedSimpArgs false
set_option maxRecDepth 100000
def rnd1 (n:Nat) (now:List Way) (next:List Way) (h:Hp):List Way :=
 if h.ok n=true then match now.getD h.f.toNat Option.none with
  | .none=>next
  | .some q=>if shW (hopW q h).1 (hopW q h).2 (next.getD h.t.toNat Option.none)=true then next.set h.t.toNat (Option.some (hopW q h)) else next
 else next
def rndA (n:Nat) (now next:List Way) (L:List Hp):List Way:=L.foldl (rnd1 n now) next
def rnds (n:Nat) (L:List Hp) (s:Nat):Nat→List Way
 | 0=>(List.replicate n Option.none).set s (Option.some (0,0))
 | t+1=>rndA n (rnds n L s t) (rnds n L s t) L
theorem rnd1_len (n:Nat) (now next:List Way) (h:Hp):(rnd1 n now next h).length=next.length:=by
 unfold rnd1
 split
 ·split
  ·rfl
  ·split
   ·rw [List.length_set]
   ·rfl
 ·rfl
theorem rndA_len (n:Nat) (now:List Way):∀ (L:List Hp) (next:List Way),(rndA n now next L).length=next.length
 | [],_=>rfl
 | h :: L,next=>by
  show (rndA n now (rnd1 n now next h) L).length=_
  rw [rndA_len n now L,rnd1_len]
theorem rnds_len (n:Nat) (L:List Hp) (s:Nat):∀ t,(rnds n L s t).length=n
 | 0=>by simp [rnds]
 | t+1=>by
  unfold rnds
  rw [rndA_len,rnds_len n L s t]
theorem rnd1_spec {n:Nat} {now next:List Way} {h:Hp} (hl:next.length=n) :
    (∀ i,(rnd1 n now next h).getD i Option.none=next.getD i Option.none∨∃ q,h.ok n=true∧now.getD h.f.toNat Option.none=Option.some q∧h.t.toNat=i∧(rnd1 n now next h).getD i Option.none=Option.some (hopW q h)∧∀ x,next.getD i Option.none=Option.some x→Le (hopW q h) x) ∧
    ∀ q,h.ok n=true→now.getD h.f.toNat Option.none=Option.some q→∃ y,(rnd1 n now next h).getD h.t.toNat Option.none=Option.some y∧Le y (hopW q h):=by
 unfold rnd1
 by_cases hk:h.ok n=true
 ·have hr:=ok_t hk
  rw [if_pos hk]
  cases hq:now.getD h.f.toNat Option.none with
  | none=>exact ⟨fun i=>.inl rfl,fun q _ h2=>by cases h2⟩
  | some q =>
   dsimp only
   by_cases hs:shW (hopW q h).1 (hopW q h).2 (next.getD h.t.toNat Option.none)=true
   ·rw [if_pos hs]
    have hset:(next.set h.t.toNat (Option.some (hopW q h))).getD h.t.toNat Option.none=Option.some (hopW q h):=by rw [getD_setW,if_pos ⟨rfl,by omega⟩]
    refine ⟨fun i=>?_,fun q2 _ h2=>?_⟩
    ·by_cases e:h.t.toNat=i
     ·subst e
      refine .inr ⟨q,hk,rfl,rfl,hset,fun x hx=>?_⟩
      rw [hx] at hs
      exact Le.total (ltW_iff.1 hs)
     ·left
      rw [getD_setW,if_neg (fun h=>e h.1)]
    ·cases h2
     exact ⟨_,hset,Le.rfl'⟩
   ·rw [if_neg hs]
    refine ⟨fun i=>.inl rfl,fun q2 _ h2=>?_⟩
    cases h2
    cases hx:next.getD h.t.toNat Option.none with
    | none=>rw [hx] at hs; exact absurd rfl hs
    | some y =>
     rw [hx] at hs
     exact ⟨y,rfl,Classical.not_not.1 (fun h=>hs (ltW_iff.2 h))⟩
 ·rw [if_neg hk]
  exact ⟨fun i=>.inl rfl,fun q h1=>absurd h1 hk⟩
theorem rndA_spec {n:Nat} {now:List Way}:∀ (L:List Hp) (next:List Way),next.length=n →
    (∀ i,(rndA n now next L).getD i Option.none=next.getD i Option.none∨∃ h ∈ L,∃ q,h.ok n=true∧now.getD h.f.toNat Option.none=Option.some q∧h.t.toNat=i∧(rndA n now next L).getD i Option.none=Option.some (hopW q h)) ∧
    (∀ i x,next.getD i Option.none=Option.some x→∃ y,(rndA n now next L).getD i Option.none=Option.some y∧Le y x) ∧
    ∀ h ∈ L,∀ q,h.ok n=true→now.getD h.f.toNat Option.none=Option.some q→∃ y,(rndA n now next L).getD h.t.toNat Option.none=Option.some y∧Le y (hopW q h)
 | [],next,_=>⟨fun i=>.inl rfl,fun i x hx=>⟨x,hx,Le.rfl'⟩,fun h hh=>by cases hh⟩
 | h :: L,next,hl=>by
  obtain ⟨s1,s2⟩:=rnd1_spec (now:=now) (h:=h) hl
  obtain ⟨t1,t2,t3⟩:=rndA_spec (n:=n) (now:=now) L (rnd1 n now next h) (by rw [rnd1_len]; exact hl)
  have e:rndA n now next (h :: L)=rndA n now (rnd1 n now next h) L:=rfl
  rw [e]
  refine ⟨fun i=>?_,fun i x hx=>?_,fun g hg q h1 h2=>?_⟩
  ·rcases t1 i with h1 | ⟨g,hg,q,h1⟩
   ·rw [h1]
    rcases s1 i with h2 | ⟨q,h2,h3,h4,h5,-⟩
    ·exact .inl h2
    ·exact .inr ⟨h,List.mem_cons_self,q,h2,h3,h4,h5⟩
   ·exact .inr ⟨g,List.mem_cons_of_mem _ hg,q,h1⟩
  ·rcases s1 i with h2 | ⟨q,h2,h3,h4,h5,h6⟩
   ·exact t2 i x (h2.trans hx)
   ·obtain ⟨y,hy,hl2⟩:=t2 i _ h5
    exact ⟨y,hy,hl2.trans (h6 x hx)⟩
  ·rcases List.mem_cons.1 hg with rfl | hg
   ·obtain ⟨y,hy,hl1⟩:=s2 q h1 h2
    obtain ⟨z,hz,hl2⟩:=t2 _ y hy
    exact ⟨z,hz,hl2.trans hl1⟩
   ·exact t3 g hg q h1 h2
theorem rnds_best {n:Nat} {L:List Hp} {s:Nat} (hs:s < n):∀ t,(∀ i q,(rnds n L s t).getD i Option.none=Option.some q→Walk n L s i q∧q.2≤t) ∧
    (∀ i q,Walk n L s i q→q.2≤t→∃ y,(rnds n L s t).getD i Option.none=Option.some y∧Le y q)
 | 0=>by
  have h0:∀ i,(rnds n L s 0).getD i Option.none=if s=i then Option.some (0,0) else Option.none:=fun i=>by
   unfold rnds
   rw [getD_setW]
   by_cases e:s=i
   ·rw [if_pos ⟨e,by simpa using hs⟩,if_pos e]
   ·rw [if_neg (fun h=>e h.1),if_neg e]
    simp only [List.getD_eq_getElem?_getD,List.getElem?_replicate]
    split <;> rfl
  refine ⟨fun i q hq=>?_,fun i q hw hq=>?_⟩
  ·rw [h0] at hq
   split at hq
   ·rename_i e
    cases hq
    subst e
    exact ⟨.here,Nat.le_refl _⟩
   ·cases hq
  ·cases hw with
   | here=>exact ⟨(0,0),by rw [h0,if_pos rfl],Le.rfl'⟩
   | hop _ _ _ _=>unfold hopW at hq; simp at hq
 | t+1=>by
  obtain ⟨ih1,ih2⟩:=rnds_best hs t (L:=L)
  obtain ⟨t1,t2,t3⟩:=rndA_spec (n:=n) (now:=rnds n L s t) L (rnds n L s t) (rnds_len n L s t)
  have e:rnds n L s (t+1)=rndA n (rnds n L s t) (rnds n L s t) L:=rfl
  rw [e]
  refine ⟨fun i q hq=>?_,fun i q hw hq=>?_⟩
  ·rcases t1 i with h1 | ⟨g,hg,p,h1,h2,h3,h4⟩
   ·obtain ⟨w1,w2⟩:=ih1 i q (h1.symm.trans hq)
    exact ⟨w1,by omega⟩
   ·rw [h4] at hq
    cases hq
    obtain ⟨w1,w2⟩:=ih1 _ p h2
    have hr:=ok_t h1
    subst h3
    exact ⟨.hop w1 hg h1 (by omega),by show p.2+1≤t+1; omega⟩
  ·cases hw with
   | here =>
    obtain ⟨y,hy,hl⟩:=ih2 s (0,0) .here (Nat.zero_le _)
    obtain ⟨z,hz,hl2⟩:=t2 s y hy
    exact ⟨z,hz,hl2.trans hl⟩
   | @hop j p g hw2 hg hok hf =>
    have hp:p.2≤t:=by unfold hopW at hq; dsimp only at hq; omega
    obtain ⟨y,hy,hl⟩:=ih2 j p hw2 hp
    obtain ⟨z,hz,hl2⟩:=t3 g hg y hok (by rw [hf,Int.toNat_natCast]; exact hy)
    refine ⟨z,hz,hl2.trans ?_⟩
    unfold Le hopW at *
    dsimp only
    omega
theorem Le.anti {x y:Nat × Nat} (h:Le x y) (k:Le y x):x=y:=by
 obtain ⟨a,b⟩:=x
 obtain ⟨c,d⟩:=y
 unfold Le at h k
 dsimp only at h k
 have h1:a=c:=by omega
 have h2:b=d:=by omega
 rw [h1,h2]
theorem Rch.same {n:Nat} {L:List Hp} {s t:Nat} {D:List Way} {dn:List Bool} (h:Rch n L s t D dn (-1)) (hs:s < n) (hw:∀ h ∈ L,h.wf):D=rnds n L s n:=by
 have hf:=h.fin hs
 have hb:=h.bound hs hw
 have hsm:=(h.facts hs hw).1.small
 obtain ⟨b1,b2⟩:=rnds_best hs n (L:=L)
 have key:∀ i,D.getD i Option.none=(rnds n L s n).getD i Option.none:=fun i=>by
  cases hd:D.getD i Option.none with
  | none =>
   cases hr:(rnds n L s n).getD i Option.none with
   | none=>rfl
   | some y =>
    obtain ⟨z,hz,-⟩:=hf.least (b1 i y hr).1
    rw [hd] at hz
    cases hz
  | some q =>
   have hq2:q.2≤n:=Nat.le_trans (hsm i q.1 q.2 hd).1 hb
   obtain ⟨y,hy,hl⟩:=b2 i q (hf.walk q.2 i q (Nat.le_refl _) hd) hq2
   obtain ⟨z,hz,hl2⟩:=hf.least (b1 i y hy).1
   rw [hd] at hz
   cases hz
   rw [hy,hl.anti hl2]
 apply List.ext_getElem?
 intro i
 have h1:=hf.len
 have h2:=rnds_len n L s n
 by_cases hi:i < n
 ·have:=key i
  rw [List.getD_eq_getElem?_getD,List.getD_eq_getElem?_getD,List.getElem?_eq_getElem (by omega),List.getElem?_eq_getElem (by omega)] at this
  rw [List.getElem?_eq_getElem (by omega),List.getElem?_eq_getElem (by omega)]
  exact congrArg some this
 ·rw [List.getElem?_eq_none (by omega),List.getElem?_eq_none (by omega)]
end Go.Proofs.Ytamnmjckhicapaa
namespace Go.Proofs.Ytamnmjckhicapaa
open Go.RowKit Go.BigFrame Go.WideShapes Go.ChangeShapes Go.Deep
set_option linter.unusedVariables false
set_option linter.unusedSimpArgs false
set_option maxRecDepth 100000
set_option maxRecDepth 100000 in
set_option maxHeartbeats 8000000 in
theorem mul64_any (n:Nat) (hn:1≤n∧n≤5) (w:World):Calls Try.prog 79 #[.int .u64 1,.int .u64 n] w fun e w'=>e=.returned (.tuple #[.int .u64 0,.int .u64 n])∧w'=w:=by
 have hc:n=1∨n=2∨n=3∨n=4∨n=5:=by omega
 clear hn
 rcases hc with rfl | rfl | rfl | rfl | rfl <;>
 ·go_enter Try.func79,Try.ntmps79
  go_wp2
  go_ret2
  exact ⟨rfl,rfl⟩
theorem mul_any (n:Nat) (hn:1≤n∧n≤5) (w:World):Calls Try.prog 65 #[.int .u64 1,.int .u64 n] w fun e w'=>e=.returned (.tuple #[.int .u64 0,.int .u64 n])∧w'=w:=by
 have hw:IntKind.u64.wrap (n:Int)=n:=by rw [IntKind.wrap_u64]; omega
 go_enter Try.func65,Try.ntmps65
 go_wp2_with fail
 refine (mul64_any n hn _).mono ?_
 rintro e w1 ⟨rfl,rfl⟩
 go_wp2_with fail
 go_ret2
 exact ⟨rfl,rfl⟩
theorem oper_copy {P:Program} {o:Oper} {a:Act} {w:World} {K:Act→World→Prop} {Q:Exit→Act→World→Prop} (d s:Operand) (dT sT:TypeId) (ho:o.op=.call { callee:=.builtin .copy,args:=#[d,s],argTypes:=#[dT,sT] })
    (x y:Value) (hd:a.eval d=x) (hs:a.eval s=y) (k:Nat) (w':World) (hr:∀ ty,(Builtin.copy_ #[dT,sT] ty #[x,y]).run P w=.ok (goInt k) w') (h:K (a.put o.dst (goInt k)) w'):Oper.wp P o a w K Q:=by
 subst hd hs
 unfold Oper.wp execOp
 simp only [ho,resolve,invoke,builtin,Sem.run_bind,Sem.run_pure,Result.andThen_ok,List.map_toArray,List.map_cons,List.map_nil,hr]
 exact h
theorem wpList_copy1 {P:Program} {ops:Array Oper} {rest:List Oper} {o:Oper} {a:Act} {w:World} {Q:Exit→Act→World→Prop} (hgd:o.guard=none) (d s:Operand) (dT sT:TypeId) (ho:o.op=.call { callee:=.builtin .copy,args:=#[d,s],argTypes:=#[dT,sT] })
    (x y:Value) (hd:a.eval d=x) (hs:a.eval s=y) (k:Nat) (w':World) (hr:∀ ty,(Builtin.copy_ #[dT,sT] ty #[x,y]).run P w=.ok (goInt k) w') (h:wpList P ops Q rest (a.put o.dst (goInt k)) w'):wpList P ops Q (o :: rest) a w :=
 wpList_plain hgd fun _ hK=>oper_copy d s dT sT ho x y hd hs k w' hr (hK _ _ h)
theorem at_copy {P:Program} {ops:Array Oper} {rest:List Oper} {a:Act} {w:World} {Q:Exit→Act→World→Prop} {dd:Option Tmp} {d s:Operand} {ty dT sT:TypeId} {pos:String} {af:Array Edge}
    (h:wpList P ops Q ({ dst:=dd,op:=.call { callee:=.builtin .copy,args:=#[d,s],argTypes:=#[dT,sT] },type:=ty,pos:=pos,after:=af,guard:=none } :: rest) a w):wpList P ops Q ({ dst:=dd,op:=.call { callee:=.builtin .copy,args:=#[d,s],argTypes:=#[dT,sT] },type:=ty,pos:=pos,after:=af,guard:=none } :: rest) a w:=h
def half (n c:Nat):List Value:=List.replicate c (Value.int .i64 (-1)) ++ List.replicate (n - c) (Value.int .i64 0)
theorem half_len (n c:Nat) (h:c≤n):(half n c).length=n:=by simp [half]; omega
theorem half_at (n c i:Nat) (h:i < c):(half n c)[i]?=some (.int .i64 (-1)):=by
 unfold half
 rw [List.getElem?_append_left (by simpa using h)]
 simp [h]
theorem half_step (n c k:Nat) (h:c+k≤n):((half n c).take c ++ List.replicate k (Value.int .i64 (-1)) ++ (half n c).drop (c+k))=half n (c+k):=by
 unfold half
 rw [List.take_left' (by simp),List.drop_append]
 simp only [List.length_replicate,List.drop_replicate]
 rw [show c - (c+k)=0 by omega,List.replicate_zero,List.nil_append,show c+k - c=k by omega,List.append_assoc,← List.append_assoc,List.replicate_append_replicate,show n - c - k=n - (c+k) by omega]
theorem copy_half {w:World} {g n c bx:Nat} {o:Nat} (hg:w.heap[g]?=some (.cells (half n c).toArray 3 (0,0))) (hc:c≤n) (k dl dc sl sc:Nat) (hk:k=Nat.min sl dl) (hd:c+k≤n) (hsrc:∀ j:Nat,j < k→w.cell? ((⟨bx,o,none⟩:Addr).add j)=some (.int .i64 (-1))) :
    (∀ ty,(Builtin.copy_ #[56,56] ty #[.slice (some ⟨g,c,none⟩) dl dc,.slice (some ⟨bx,o,none⟩) sl sc]).run Try.prog w=.ok (goInt k) (w.setRow g (half n (c+k)).toArray))∧(w.setRow g (half n (c+k)).toArray).heap[g]?=some (.cells (half n (c+k)).toArray 3 (0,0))∧Mut (fun m=>m=g) w (w.setRow g (half n (c+k)).toArray):=by
 refine ⟨fun ty=>?_,setRow_heap _ _ _ _ _ _ hg,mut_setRow w g _⟩
 have h:=run_copy_row (P:=Try.prog) w 56 56 ty 3 g c dl dc ⟨bx,o,none⟩ sl sc (half n c).toArray 3 (List.replicate k (Value.int .i64 (-1))) Try.underlying56 (by kernel_rfl) hg (by simpa using hk) (fun j v hv=>by
  have hj:j < k:=by simpa using (List.getElem?_eq_some_iff.1 hv).1
  have e:v=.int .i64 (-1):=by simpa [hj] using hv.symm
  rw [e]
  exact hsrc j hj) (by simp [half_len n c hc,hd]) (fun v hv=>by rw [List.eq_of_mem_replicate hv]; rfl)
 rw [List.length_replicate] at h
 rw [h]
 simp only [List.toList_toArray,half_step n c k hd]
set_option maxRecDepth 100000 in
set_option maxHeartbeats 4000000 in
theorem repeat_any (n bx:Nat) (hn:1≤n∧n≤5) (w:World) (hc:w.cell? ⟨bx,0,none⟩=some (.int .i64 (-1))) (hb:bx < w.heap.size) :
    Calls Try.prog 45 #[.slice (some ⟨bx,0,none⟩) 1 1,.int .i64 n] w fun e w'=>∃ g,e=.returned (.slice (some ⟨g,0,none⟩) n n)∧w'.heap[g]?=some (.cells (half n n).toArray 3 (0,0))∧w.heap.size≤g∧Ext w w':=by
 obtain ⟨i3,hi3,hz3,hs3,hb3⟩:=info_parts info_int
 have I3:=Lib.hid (And.intro hi3 (And.intro hz3 (And.intro hs3 hb3)))
 have hw:IntKind.u64.wrap (n:Int)=n:=by rw [IntKind.wrap_u64]; omega
 have hwi:IntKind.i64.wrap (n:Int)=n:=by rw [IntKind.wrap_i64]; omega
 have hn1:=hn.1
 have hn5:=hn.2
 have d0:decide ((n:Int) < 0)=false:=by simp
 have d1:decide ((n:Int) > 9223372036854775807)=false:=by simp; omega
 have d2:decide ((9223372036854775807:Int) < (n:Int))=false:=by simp; omega
 have HC:=Lib.hid hc
 have HN:=Lib.hid hn
 clear hi3 hz3 hs3 hb3 hc hn
 go_enter Try.func45,Try.ntmps45
 go_wp2_with fail
 refine (mul_any n HN.out _).mono ?_
 rintro e w1 ⟨rfl,rfl⟩
 go_wp2_with (first
  | fail
  | (at_make; refine wpList_make_row _ rfl _ _ 56 rfl 3 i3 (.int .i64 0) Try.underlying56 I3.out.1 I3.out.2.1 I3.out.2.2.1 rfl .i64 .i64 n rfl rfl (by rw [I3.out.2.2.2]; omega) (by omega) ?_
     have hy:Ext w1 (w1.alloc (.cells (madeCells #[.int .i64 0] n) 3)):=(Ext.refl _).alloc _
     have hq:=heap_alloc_new w1 (.cells (madeCells #[.int .i64 0] n) 3)
     obtain ⟨w2,hw2⟩:∃ w2,w1.alloc (.cells (madeCells #[.int .i64 0] n) 3)=w2:=⟨_,rfl⟩
     obtain ⟨T,hT⟩:∃ T,w1.heap.size=T:=⟨_,rfl⟩
     rw [hw2] at hy hq ⊢
     rw [hT] at hq ⊢
     have HCP:=Lib.hid (copy_half (w:=w2) (g:=T) (n:=n) (c:=0) (bx:=bx) (o:=0) (by rw [made_rep] at hq; simpa [half] using hq) (Nat.zero_le _) 1 n n 1 1 (Nat.min_eq_left hn1).symm (by omega) (fun j hj=>by
      have:j=0:=by omega
      subst this
      rw [add_plain]
      exact (hy.cell hb).trans HC.out))
     have HTW:=Lib.hid (show w1.heap.size≤T by omega)
     have HY:=Lib.hid hy
     clear hy hq hw2 hT)
  | ((with_reducible refine at_copy ?_); refine wpList_copy1 rfl _ _ 56 56 rfl _ _ rfl rfl 1 _ HCP.out.1 ?_
     have hq3:=HCP.out.2.1
     have hm3:=HCP.out.2.2
     obtain ⟨w3,hw3⟩:∃ w3,w2.setRow T (half n (0+1)).toArray=w3:=⟨_,rfl⟩
     rw [hw3] at hq3 hm3 ⊢
     have HQ3:=Lib.hid (show w3.heap[T]?=some (.cells (half n 1).toArray 3 (0,0)) from hq3)
     have HX3:=Lib.hid (HY.out.mutE hm3 (fun k hk h=>by have h2:k=T:=h; have:=HTW.out; omega))
     clear hq3 hm3 hw3))
 go_loopw [8] (fun s wr=>∃ (c:Nat),s=.int .i64 c∧1≤c∧c≤n∧wr.heap[T]?=some (.cells (half n c).toArray 3 (0,0))∧Ext w1 wr) (fun s _=>n - (intOf s).toNat)
 case atStart=>exact ⟨1,rfl,by omega,hn1,HQ3.out,HX3.out⟩
 case round =>
  obtain ⟨c,rfl,hc1,hc,hq,hx⟩:=hrel
  rename World=>wl
  have HQ4:=Lib.hid hq
  clear hq HCP HQ3 HX3 HC
  by_cases hlt:c < n
  ·have dlt:decide ((c:Int) < (n:Int))=true:=by simp; omega
   go_wp2_with fail
   refine beginL (S:=fun W'=>Mut (fun n=>n=T) wl W') (by kernel_rfl) ?_
   intro wd hqx
   have hq0:Mut (fun n=>n=T) wl wd:=hqx.mut _
   refine tLp 0 ((.int .i64 (c:Int))) rfl hq0 ?_
   simp only [ps]
   refine tLp 1 ((.slice (some ⟨T,0,none⟩) n n)) rfl hq0 ?_
   simp only [ps]
   refine tLp 2 ((.int .i64 (c:Int))) rfl hq0 ?_
   simp only [ps]
   refine tL 3 ((.slice (some ⟨T,c,none⟩) (n - c) (n - c))) rfl (Or.inl ⟨rfl,fun W' _=>by go_simp <;> (intro h; omega)⟩) hq0 ?_
   simp only [ps]
   refine tLp 4 ((.slice (some ⟨T,0,none⟩) n n)) rfl hq0 ?_
   simp only [ps]
   refine tLp 5 ((.int .i64 (c:Int))) rfl hq0 ?_
   simp only [ps]
   refine tL 6 ((.slice (some ⟨T,0,none⟩) c n)) rfl (Or.inl ⟨rfl,fun W' _=>by go_simp <;> (intro h; omega)⟩) hq0 ?_
   simp only [ps]
   refine runL (i:=7) rfl rfl (by kernel_rfl) (fun K hK=>?_)
   have hqd:=(hqx.block T (heap_lt HQ4.out)).trans HQ4.out
   obtain ⟨hr,hq5,hm5⟩:=copy_half (w:=wd) (g:=T) (n:=n) (c:=c) (bx:=T) (o:=0) hqd hc (Nat.min c (n - c)) (n - c) (n - c) c n rfl (by have:Nat.min c (n - c)≤n - c:=Nat.min_le_right c (n - c); omega) (fun j hj=>by
    have hjc:j < c:=Nat.lt_of_lt_of_le hj (Nat.min_le_left _ _)
    rw [add_plain,Nat.zero_add]
    exact (cell_row hqd j).trans (by simpa using half_at n c j hjc))
   refine oper_copy _ _ 56 56 rfl _ _ rfl rfl _ _ hr ?_
   refine hK.out _ _ (hq0.trans hm5) (fun _=>?_)
   try simp only [ps]
   clear hK K hr
   obtain ⟨k,hk⟩:∃ k,Nat.min c (n - c)=k:=⟨_,rfl⟩
   rw [hk] at hq5 hm5 ⊢
   have hk1:1≤k:=by
    rw [← hk]
    exact Nat.le_min.2 ⟨hc1,by omega⟩
   have hkn:c+k≤n:=by
    have:=Nat.min_le_right c (n - c)
    rw [← hk]
    have h2:Nat.min c (n - c)≤n - c:=this
    omega
   have hup:IntKind.i64.wrap ((c:Int)+(k:Int))=((c+k:Nat):Int):=by rw [IntKind.wrap_i64]; omega
   obtain ⟨w5,hw5⟩:∃ w5,wd.setRow T (half n (c+k)).toArray=w5:=⟨_,rfl⟩
   rw [hw5] at hq5 hm5 ⊢
   refine tL 8 ((.int .i64 ((c+k:Nat):Int))) rfl (Or.inl ⟨rfl,fun W' _=>by go_simp⟩) (hq0.trans hm5) ?_
   simp only [ps]
   refine tL 9 ((.int .i64 ((c+k:Nat):Int))) rfl (Or.inl ⟨rfl,fun _ _=>rfl⟩) (hq0.trans hm5) ?_
   simp only [ps]
   refine wpAnyH_done (by kernel_rfl) ?_ _
   have HX5:=Lib.hid (hx.mutE (hq0.trans hm5) (fun m hm h=>by have h2:m=T:=h; have:=HTW.out; omega))
   clear hqd hm5 hq0 hqx hx
   go_roundw
   case rel=>exact ⟨_,_,_,_,_,_,_,_,_,_,_,_,_,_,⟨c+k,rfl,by omega,hkn,hq5,HX5.out⟩,rfl⟩
   case measure=>simp [intOf] <;> omega
  ·have dlt:decide ((c:Int) < (n:Int))=false:=by simp; omega
   have hcn:c=n:=by omega
   subst hcn
   go_wp2_with fail
   go_ret
   exact ⟨T,rfl,HQ4.out,HTW.out,hx⟩
end Go.Proofs.Ytamnmjckhicapaa
namespace Go.Proofs.Ytamnmjckhicapaa
open Go.RowKit Go.BigFrame Go.WideShapes Go.ChangeShapes Go.Deep
set_option linter.unusedVariables false
set_option linter.unusedSimpArgs false
set_option maxRecDepth 100000
def farF (n:Nat) (L:List Hp) (i:Nat):List Way:=rnds n L i n
def markK (i:Nat) (D:List Way) (l:List Int):Nat→List Int
 | 0=>l
 | k+1=>if (D.getD k Option.none).isNone then markK i D l k else (markK i D l k).set k i
def partK (n:Nat) (L:List Hp):Nat→List Int
 | 0=>List.replicate n (-1)
 | i+1=>if 0≤at0 (partK n L i) i then partK n L i else markK i (farF n L i) (partK n L i) n
def partF (n:Nat) (L:List Hp):List Int:=partK n L n
theorem markK_len (i:Nat) (D:List Way) (l:List Int) (k:Nat):(markK i D l k).length=l.length:=by
 induction k with
 | zero=>rfl
 | succ k ih=>unfold markK; split <;> simp [ih]
theorem partK_len (n:Nat) (L:List Hp) (k:Nat):(partK n L k).length=n:=by
 induction k with
 | zero=>simp [partK]
 | succ k ih=>unfold partK; split <;> simp [markK_len,ih]
theorem iv_len (l:List Int):(iv l).length=l.length:=by simp [iv]
theorem iv_at (l:List Int) (i:Nat) (h:i < l.length):(iv l)[i]?=some (.int .i64 (at0 l i)):=by simp [iv,h,at0,List.getD]
theorem iv_set (l:List Int) (i:Nat) (v:Int):(iv l).set i (.int .i64 v)=iv (l.set i v):=by simp [iv,List.map_set]
def IRow (w:World) (g:Nat) (l:List Int):Prop:=w.heap[g]?=some (.cells (iv l).toArray 3 (0,0))
theorem IRow.cell {w:World} {g:Nat} {l:List Int} (h:IRow w g l) {i:Nat} (hi:i < l.length):w.cell? ⟨g,i,none⟩=some (.int .i64 (at0 l i)):=(cell_row h i).trans (by simpa using iv_at l i hi)
theorem IRow.ext {w w':World} {g:Nat} {l:List Int} (h:IRow w g l) (hx:Ext w w'):IRow w' g l:=(hx.block g (heap_lt h)).trans h
theorem far_any (n s:Nat) (v:Value) (L:List Hp) (w:World) (h:HopsAt w v L) (hn:1≤n) (hn2:n≤1000) (hs:s < n) (hL:L.length≤100000) (hwf:∀ h ∈ L,h.wf) :
    Calls Try.prog 36 #[.int .i64 n,v,.int .i64 s] w fun e w'=>∃ g,e=.returned (.slice (some ⟨g,0,none⟩) n n)∧(farF n L s).length=n∧(∀ i,((farF n L s).getD i Option.none).fits)∧w'.heap[g]?=some (.cells ((farF n L s).map cvW).toArray 84 (0,0))∧w.heap.size≤g∧Ext w w':=by
 refine (rfar_any n s v L w h hn hn2 hs hL hwf).mono ?_
 rintro e w1 ⟨g,t,D,dn,he,hr,hrow,hg,hx⟩
 obtain ⟨hk,-,-,-⟩:=hr.facts hs hwf
 have ht:=hr.bound hs hwf
 have hD:=hr.same hs hwf
 subst hD
 exact ⟨g,he,hk.len,fun i=>hk.fits (by omega) i,hrow,hg,hx⟩
theorem far_cell {w:World} {g n:Nat} {D:List Way} (h:w.heap[g]?=some (.cells (D.map cvW).toArray 84 (0,0))) (hl:D.length=n) {k:Nat} (hk:k < n):w.cell? ⟨g,k,none⟩=some (cvW (D.getD k Option.none)):=by
 refine (cell_row h k).trans ?_
 simp [List.getD,hl,hk]
set_option maxRecDepth 100000 in
set_option maxHeartbeats 8000000 in
theorem parts_any (t0 t1 t2 t3 hold room age:Int) (na:Option Addr) (n ncap:Nat) (sv lv:Value) (L:List Hp) (w:World) (hn:1≤n∧n≤5) (hv:HopsAt w lv L) (hL:L.length≤100000) (hwf:∀ h ∈ L,h.wf) :
    Calls Try.prog 30 #[(.agg #[.int .i64 t0,.int .i64 t1,.int .i64 t2,.int .i64 t3,.int .i64 hold,.int .i64 room,.int .i64 age,.slice na n ncap,sv]),lv] w fun e w'=>∃ g,e=.returned (.slice (some ⟨g,0,none⟩) n n)∧IRow w' g (partF n L)∧w.heap.size≤g∧Ext w w':=by
 obtain ⟨i3,hi3,hz3,hs3,hb3⟩:=info_parts info_int
 have I3:=Lib.hid (And.intro hi3 (And.intro hz3 (And.intro hs3 hb3)))
 have HN:=Lib.hid hn
 have hn1:=hn.1
 have hn5:=hn.2
 have HV:=Lib.hid hv
 have HW:=Lib.hid hwf
 clear hi3 hz3 hs3 hb3 hn hv hwf
 go_enter Try.func30,Try.ntmps30
 go_wp2_with (first
  | fail
  | ((with_reducible refine at_box 47 ?_); refine bx_row rfl 47 _ rfl #[.int .i64 t0,.int .i64 t1,.int .i64 t2,.int .i64 t3,.int .i64 hold,.int .i64 room,.int .i64 age,.slice na n ncap,sv] rfl ?_
     intro X wb hX hsz hx1
     have cN:wb.cell? ⟨X,7,none⟩=some (.slice na n ncap):=(show BoxAt wb X #[.int .i64 t0,.int .i64 t1,.int .i64 t2,.int .i64 t3,.int .i64 hold,.int .i64 room,.int .i64 age,.slice na n ncap,sv] 47 from hX).cell 7 rfl
     have HX:=Lib.hid (show BoxAt wb X #[.int .i64 t0,.int .i64 t1,.int .i64 t2,.int .i64 t3,.int .i64 hold,.int .i64 room,.int .i64 age,.slice na n ncap,sv] 47 from hX)
     have HE:=Lib.hid hx1
     clear hX hsz hx1)
  | ((with_reducible refine at_slice 56 ?_); refine wpList_buildSlice rfl 56 3 1 _ rfl #[.int .i64 (-1)] i3 (.int .i64 0) Try.underlying56 I3.out.1 I3.out.2.1 (by rw [I3.out.2.2.1]; decide) (by rw [I3.out.2.2.1]; decide) (by rw [I3.out.2.2.1]; kernel_rfl) ?_
     have hy:Ext wb (wb.alloc (.cells #[.int .i64 (-1)] 3)):=(Ext.refl _).alloc _
     have hq:=heap_alloc_new wb (.cells #[.int .i64 (-1)] 3)
     obtain ⟨w2,hw2⟩:∃ w2,wb.alloc (.cells #[.int .i64 (-1)] 3)=w2:=⟨_,rfl⟩
     obtain ⟨T,hT⟩:∃ T,wb.heap.size=T:=⟨_,rfl⟩
     rw [hw2] at hy hq ⊢
     rw [hT] at hq ⊢
     have cN2:w2.cell? ⟨X,7,none⟩=some (.slice na n ncap):=(HX.out.ext hy).cell 7 rfl
     have HQ2:=Lib.hid hq
     have HE2:=Lib.hid (HE.out.trans hy)
     clear hy hq hw2 hT cN))
 refine (repeat_any n T HN.out w2 (cell_row HQ2.out 0) (heap_lt HQ2.out)).mono ?_
 rintro e w3 ⟨g,rfl,hq3,hg3,hx3⟩
 have HQ3:=Lib.hid (show IRow w3 g (partK n L 0) from by
  have:half n n=iv (partK n L 0):=by simp [half,iv,partK]
  rw [this] at hq3
  exact hq3)
 have HX3:=Lib.hid (HE2.out.trans hx3)
 have HG:=Lib.hid (show w.heap.size≤g from Nat.le_trans HE2.out.size hg3)
 clear hq3 hx3 cN2 hg3 HQ2 HE2 HX HE
 go_wp2_with fail
 go_loopw [16] (fun s wr=>∃ (i:Nat),s=.int .i64 i∧i≤n∧IRow wr g (partK n L i)∧Ext w wr) (fun s _=>n - (intOf s).toNat)
 case atStart=>exact ⟨0,rfl,by omega,HQ3.out,HX3.out⟩
 case round =>
  obtain ⟨i,rfl,hi,hq,hx⟩:=hrel
  rename World=>wl
  have HQ:=Lib.hid hq
  have HXL:=Lib.hid hx
  clear hq hx HQ3 HX3
  by_cases hlt:i < n
  ·have dlt:decide ((i:Int) < (n:Int))=true:=by simp; omega
   obtain ⟨l,hl⟩:∃ l,partK n L i=l:=⟨_,rfl⟩
   have hll:l.length=n:=by rw [← hl]; exact partK_len n L i
   have HS:=Lib.hid (show partK n L (i+1)=if 0≤at0 l i then l else markK i (farF n L i) l n from by rw [← hl]; rfl)
   rw [hl] at HQ
   clear hl
   obtain ⟨z,hz⟩:∃ z,at0 l i=z:=⟨_,rfl⟩
   have ci:wl.cell? ⟨g,i,none⟩=some (.int .i64 z):=by rw [← hz]; exact HQ.out.cell (by omega)
   have hup:IntKind.i64.wrap ((i:Int)+1)=((i+1:Nat):Int):=by rw [IntKind.wrap_i64]; omega
   rw [hz] at HS
   clear hz
   by_cases hz0:0≤z
   ·have dz:decide (z ≥ 0)=true:=by simpa using hz0
    have dz2:decide ((0:Int)≤z)=true:=by simpa using hz0
    have HS1:=Lib.hid (show partK n L (i+1)=l from by rw [HS.out,if_pos hz0])
    clear HS hz0
    go_wp2_with fail
    go_roundw
    case rel=>exact ⟨i+1,by go_num,by omega,by rw [HS1.out]; exact HQ.out,HXL.out⟩
    case measure=>simp [intOf] <;> omega
   ·have dz:decide (z ≥ 0)=false:=by simpa using hz0
    have dz2:decide ((0:Int)≤z)=false:=by simpa using hz0
    have HS1:=Lib.hid (show partK n L (i+1)=markK i (farF n L i) l n from by rw [HS.out,if_neg hz0])
    clear HS hz0
    go_wp2_with fail
    refine (far_any n i lv L wl (HV.out.ext HXL.out) hn1 (by omega) hlt hL HW.out).mono ?_
    rintro e w4 ⟨gf,rfl,hdl,hdf,hrow,hgf,hx4⟩
    obtain ⟨D,hD⟩:∃ D,farF n L i=D:=⟨_,rfl⟩
    rw [hD] at hdl hdf hrow HS1
    have HDL:=Lib.hid hdl
    have HDF:=Lib.hid hdf
    have HR4:=Lib.hid hrow
    have HQ4:=Lib.hid (HQ.out.ext hx4)
    have HX4:=Lib.hid (HXL.out.trans hx4)
    have HGF:=Lib.hid (show gf ≠ g from by have:=heap_lt HQ.out; omega)
    have HLL:=Lib.hid hll
    clear hdl hdf hrow hgf hx4 hD ci hll
    go_wp2_with fail
    go_loopw [30] (fun s wr=>∃ (k:Nat),s=.int .i64 k∧k≤n∧IRow wr g (markK i D l k)∧wr.heap[gf]?=some (.cells (D.map cvW).toArray 84 (0,0))∧Ext w wr) (fun s _=>n - (intOf s).toNat)
    case atStart=>exact ⟨0,rfl,by omega,HQ4.out,HR4.out,HX4.out⟩
    case round =>
     obtain ⟨k,rfl,hk,hq,hrw,hx⟩:=hrel
     rename World=>wm
     have HQ5:=Lib.hid hq
     have HR5:=Lib.hid hrw
     have HX5:=Lib.hid hx
     clear hq hrw hx HQ4 HR4 HX4
     by_cases hkt:k < n
     ·have dkt:decide ((k:Int) < (n:Int))=true:=by simp; omega
      have hupk:IntKind.i64.wrap ((k:Int)+1)=((k+1:Nat):Int):=by rw [IntKind.wrap_i64]; omega
      obtain ⟨d,hd⟩:∃ d,D.getD k Option.none=d:=⟨_,rfl⟩
      have hdf:=HDF.out k
      rw [hd] at hdf
      obtain ⟨x,hx⟩:∃ x,cvW d=x:=⟨_,rfl⟩
      have ck:wm.cell? ⟨gf,k,none⟩=some x:=by rw [← hx,← hd]; exact far_cell HR5.out HDL.out hkt
      have HC:=Lib.hid (fun w:World=>by have h:=rnone_any d w hdf; rw [hx] at h; exact h)
      obtain ⟨b,hb⟩:∃ b,d.isNone=b:=⟨_,rfl⟩
      rw [hb] at HC
      obtain ⟨m,hm⟩:∃ m,markK i D l k=m:=⟨_,rfl⟩
      have HM:=Lib.hid (show markK i D l (k+1)=if b then m else m.set k i from by rw [← hb,← hd,← hm]; rfl)
      have hml:m.length=n:=by rw [← hm,markK_len]; exact HLL.out
      rw [hm] at HQ5
      clear hd hdf hx hb hm
      cases b with
      | true =>
       go_wp2_with fail
       refine (HC.out _).mono ?_
       rintro e w6 ⟨rfl,rfl⟩
       go_wp2_with fail
       go_roundw
       case rel=>exact ⟨k+1,by go_num,by omega,by rw [HM.out]; exact HQ5.out,HR5.out,HX5.out⟩
       case measure=>simp [intOf] <;> omega
      | false =>
       go_wp2_with fail
       refine (HC.out _).mono ?_
       rintro e w6 ⟨rfl,rfl⟩
       have hroom:k+(#[Value.int .i64 (i:Int)]:Array Value).size≤(iv m).toArray.size:=by simp [iv_len]; omega
       have hset:=set_row (l:=iv m) (f:=k) (v:=.int .i64 (i:Int)) (by rw [iv_len]; omega)
       have HSR:=Lib.hid (And.intro hroom hset)
       clear hroom hset
       go_wp2_with (first
        | fail
        | ((with_reducible refine at_store 3 ?_); refine st_at rfl rfl 3 _ _ rfl g k _ #[.int .i64 (i:Int)] (iv m).toArray ((iv m).set k (.int .i64 (i:Int))).toArray 3 rfl rfl rfl HQ5.out HSR.out.1 (by kernel_rfl) rfl HSR.out.2 ?_
           intro w7 hq7 hm7
           have HQ7:=Lib.hid (show IRow w7 g (m.set k i) from by rw [iv_set] at hq7; exact hq7)
           have HR7:=Lib.hid ((hm7.heap (heap_lt HR5.out) (fun h=>HGF.out h)).trans HR5.out)
           have HX7:=Lib.hid (HX5.out.mutE hm7 (fun j hj h=>by have h2:j=g:=h; have:=HG.out; omega))
           clear hq7 hm7))
       go_roundw
       case rel=>exact ⟨k+1,by go_num,by omega,by rw [HM.out]; exact HQ7.out,HR7.out,HX7.out⟩
       case measure=>simp [intOf] <;> omega
     ·have dkt:decide ((k:Int) < (n:Int))=false:=by simp; omega
      have hkn:k=n:=by omega
      subst hkn
      go_wp2_with fail
      go_roundw
      case rel=>exact ⟨i+1,by go_num,by omega,by rw [HS1.out]; exact HQ5.out,HX5.out⟩
      case measure=>simp [intOf] <;> omega
  ·have dlt:decide ((i:Int) < (n:Int))=false:=by simp; omega
   have hin:i=n:=by omega
   subst hin
   go_wp2_with fail
   go_ret
   exact ⟨g,rfl,HQ.out,HG.out,HXL.out⟩
end Go.Proofs.Ytamnmjckhicapaa
namespace Go.Proofs.Ytamnmjckhicapaa
open Go.RowKit Go.BigFrame Go.WideShapes Go.ChangeShapes Go.Deep
set_option linter.unusedVariables false
set_option linter.unusedSimpArgs false
set_option maxRecDepth 100000
theorem rnd1_some (n:Nat) (now next:List Way) (h:Hp) (i:Nat) (hi:(next.getD i Option.none).isSome):((rnd1 n now next h).getD i Option.none).isSome:=by
 unfold rnd1
 split
 ·split
  ·exact hi
  ·split
   ·rw [getD_setW]
    split
    ·rfl
    ·exact hi
   ·exact hi
 ·exact hi
theorem rndA_some (n:Nat) (now:List Way) (i:Nat):∀ (L:List Hp) (next:List Way),(next.getD i Option.none).isSome→((rndA n now next L).getD i Option.none).isSome
 | [],_,h=>h
 | x :: L,next,h=>rndA_some n now i L (rnd1 n now next x) (rnd1_some n now next x i h)
theorem rnds_some (n:Nat) (L:List Hp) (s:Nat) (hs:s < n):∀ t,((rnds n L s t).getD s Option.none).isSome
 | 0=>by simp [rnds,List.getD,hs]
 | t+1=>rndA_some n _ s L _ (rnds_some n L s hs t)
theorem farF_self (n:Nat) (L:List Hp) (s:Nat) (hs:s < n):((farF n L s).getD s Option.none).isNone=false:=by
 have:=rnds_some n L s hs n
 unfold farF
 cases h:(rnds n L s n).getD s Option.none with
 | none=>rw [h] at this; cases this
 | some q=>rfl
theorem markK_at (i:Nat) (D:List Way) (l:List Int) (j:Nat):∀ k,k≤l.length→at0 (markK i D l k) j=if j < k∧(D.getD j Option.none).isNone=false then (i:Int) else at0 l j
 | 0,_=>by simp [markK]
 | k+1,hk=>by
  have ih:=markK_at i D l j k (by omega)
  have e:∀ b:Bool,j ≠ k→((j < k+1∧b=false)↔(j < k∧b=false)):=fun b h=>⟨fun h2=>⟨by omega,h2.2⟩,fun h2=>⟨by omega,h2.2⟩⟩
  cases hn:(D.getD k Option.none).isNone with
  | true =>
   unfold markK
   rw [if_pos hn,ih]
   by_cases hjk:j=k
   ·subst hjk
    rw [if_neg (by omega),if_neg (by rw [hn]; simp)]
   ·simp only [e _ hjk]
  | false =>
   unfold markK
   rw [if_neg (by rw [hn]; simp),at_set _ _ _ _ (by rw [markK_len]; omega),ih]
   by_cases hjk:j=k
   ·subst hjk
    rw [if_pos rfl,if_pos ⟨by omega,hn⟩]
   ·rw [if_neg hjk]
    simp only [e _ hjk]
def Rng (n:Nat) (l:List Int):Prop:=∀ j,j < n→0≤at0 l j∧at0 l j < n
theorem partK_ok (n:Nat) (L:List Hp):∀ i,i≤n→(∀ j,j < n→-1≤at0 (partK n L i) j∧at0 (partK n L i) j < n)∧∀ j,j < i→0≤at0 (partK n L i) j
 | 0,_=>⟨fun j hj=>by simp [partK,at0,List.getD,hj]; omega,fun j hj=>by omega⟩
 | i+1,hi=>by
  obtain ⟨h1,h2⟩:=partK_ok n L i (by omega)
  have hl:=partK_len n L i
  unfold partK
  split
  ·rename_i h0
   refine ⟨h1,fun j hj=>?_⟩
   by_cases hji:j=i
   ·subst hji
    exact h0
   ·exact h2 j (by omega)
  ·have hm:=fun j=>markK_at i (farF n L i) (partK n L i) j n (by omega)
   refine ⟨fun j hj=>?_,fun j hj=>?_⟩
   ·rw [hm j]
    split
    ·omega
    ·exact h1 j hj
   ·rw [hm j]
    by_cases hji:j=i
    ·subst hji
     rw [if_pos ⟨by omega,farF_self n L j (by omega)⟩]
     omega
    ·split
     ·omega
     ·exact h2 j (by omega)
theorem partF_rng (n:Nat) (L:List Hp):Rng n (partF n L):=fun j hj=>⟨(partK_ok n L n (Nat.le_refl _)).2 j hj,((partK_ok n L n (Nat.le_refl _)).1 j hj).2⟩
theorem partF_len (n:Nat) (L:List Hp):(partF n L).length=n:=partK_len n L n
def idA (N:List Nd) (i:Nat):Int:=(N.getD i default).id
def rootA (N:List Nd) (F:List Int):Nat→List Int
 | 0=>F
 | i+1=>if idA N i < idA N (at0 (rootA N F i) (at0 F i).toNat).toNat then (rootA N F i).set (at0 F i).toNat i else rootA N F i
def rootB (F A:List Int):Nat→List Int
 | 0=>A
 | k+1=>(rootB F A k).set k (at0 (rootB F A k) (at0 F k).toNat)
def rootF (N:List Nd) (F:List Int):List Int:=rootB F (rootA N F F.length) F.length
theorem rootA_len (N:List Nd) (F:List Int) (i:Nat):(rootA N F i).length=F.length:=by
 induction i with
 | zero=>rfl
 | succ i ih=>unfold rootA; split <;> simp [ih]
theorem rootB_len (F A:List Int) (i:Nat):(rootB F A i).length=A.length:=by
 induction i with
 | zero=>rfl
 | succ i ih=>unfold rootB; simp [ih]
theorem Rng.set {n:Nat} {l:List Int} (h:Rng n l) (hl:l.length=n) {p:Nat} {v:Int} (hv:0≤v∧v < n) (hp:p < n):Rng n (l.set p v):=fun j hj=>by
 rw [at_set _ _ _ _ (by omega)]
 split
 ·exact hv
 ·exact h j hj
theorem rootA_rng (N:List Nd) (F:List Int) (n:Nat) (hF:Rng n F) (hl:F.length=n):∀ i,i≤n→Rng n (rootA N F i)
 | 0,_=>hF
 | i+1,hi=>by
  have ih:=rootA_rng N F n hF hl i (by omega)
  have hb:=hF i (by omega)
  unfold rootA
  split
  ·exact ih.set (by rw [rootA_len,hl]) (by omega) (by omega)
  ·exact ih
theorem rootB_rng (F A:List Int) (n:Nat) (hF:Rng n F) (hA:Rng n A) (hl:A.length=n):∀ i,i≤n→Rng n (rootB F A i)
 | 0,_=>hA
 | i+1,hi=>by
  have ih:=rootB_rng F A n hF hA hl i (by omega)
  have hb:=hF i (by omega)
  unfold rootB
  exact ih.set (by rw [rootB_len,hl]) (ih _ (by omega)) (by omega)
theorem rootF_len (N:List Nd) (F:List Int):(rootF N F).length=F.length:=by unfold rootF; rw [rootB_len,rootA_len]
theorem rootF_rng (N:List Nd) (F:List Int) (n:Nat) (hF:Rng n F) (hl:F.length=n):Rng n (rootF N F):=by
 unfold rootF
 subst hl
 exact rootB_rng F _ _ hF (rootA_rng N F _ hF rfl _ (Nat.le_refl _)) (rootA_len N F _) _ (Nat.le_refl _)
end Go.Proofs.Ytamnmjckhicapaa
namespace Go.Proofs.Ytamnmjckhicapaa
open Go.RowKit Go.BigFrame Go.WideShapes Go.ChangeShapes Go.Deep
set_option linter.unusedVariables false
set_option linter.unusedSimpArgs false
set_option maxRecDepth 100000
theorem size_net:(Try.prog.info? 47).map (·.size)=some 9:=by kernel_rfl
set_option maxRecDepth 100000 in
set_option maxHeartbeats 8000000 in
theorem roots_any (t0 t1 t2 t3 hold room age:Int) (nb no n ncap:Nat) (sv lv:Value) (N:List Nd) (L:List Hp) (w:World) (hn:1≤n∧n≤5) (hnl:N.length=n) (hnc:n≤ncap) (hv:HopsAt w lv L) (hL:L.length≤100000) (hwf:∀ h ∈ L,h.wf) (hnb:nb < w.heap.size)
    (hid:∀ i,i < n→w.cell? ⟨nb,no+i*3,none⟩=some (.int .u64 (idA N i))) :
    Calls Try.prog 20 #[(.agg #[.int .i64 t0,.int .i64 t1,.int .i64 t2,.int .i64 t3,.int .i64 hold,.int .i64 room,.int .i64 age,.slice (some ⟨nb,no,none⟩) n ncap,sv]),lv] w fun e w'=>∃ g cap,e=.returned (.slice (some ⟨g,0,none⟩) n cap)∧n≤cap∧Nums w' g (rootF N (partF n L))∧w.heap.size≤g∧Ext w w':=by
 have HN:=Lib.hid hn
 have hn1:=hn.1
 have hn5:=hn.2
 have HV:=Lib.hid hv
 have HW:=Lib.hid hwf
 have HID:=Lib.hid hid
 have HNB:=Lib.hid hnb
 clear hn hv hwf hid hnb
 go_enter Try.func20,Try.ntmps20
 go_wp2_with (first
  | fail
  | ((with_reducible refine at_box 47 ?_); refine bx_row rfl 47 _ rfl #[.int .i64 t0,.int .i64 t1,.int .i64 t2,.int .i64 t3,.int .i64 hold,.int .i64 room,.int .i64 age,.slice (some ⟨nb,no,none⟩) n ncap,sv] rfl ?_
     intro X wb hX hsz hx1
     have HX:=Lib.hid (show BoxAt wb X #[.int .i64 t0,.int .i64 t1,.int .i64 t2,.int .i64 t3,.int .i64 hold,.int .i64 room,.int .i64 age,.slice (some ⟨nb,no,none⟩) n ncap,sv] 47 from hX)
     have HE:=Lib.hid hx1
     clear hX hsz hx1)
  | ((with_reducible refine at_load 47 ?_); refine wpList_load_row rfl 47 _ rfl X rfl 47 #[.int .i64 t0,.int .i64 t1,.int .i64 t2,.int .i64 t3,.int .i64 hold,.int .i64 room,.int .i64 age,.slice (some ⟨nb,no,none⟩) n ncap,sv] (0,0) _ HX.out Try.underlying47 rfl size_net ?_))
 refine (parts_any t0 t1 t2 t3 hold room age (some ⟨nb,no,none⟩) n ncap sv lv L wb HN.out (HV.out.ext HE.out) hL HW.out).mono ?_
 rintro e wp ⟨g,rfl,hq3,hg3,hx3⟩
 have hrg:=partF_rng n L
 have hfl:=partF_len n L
 obtain ⟨F,hF⟩:∃ F,partF n L=F:=⟨_,rfl⟩
 rw [hF] at hq3 hrg hfl
 have HFE:=Lib.hid hF
 have HQF:=Lib.hid hq3
 have HXP:=Lib.hid (HE.out.trans hx3)
 have HXB:=Lib.hid (HX.out.ext hx3)
 have HRG:=Lib.hid hrg
 have HFL:=Lib.hid hfl
 have HGL:=Lib.hid (show w.heap.size≤wp.heap.size from (HE.out.trans hx3).size)
 clear hq3 hg3 hx3 HX HE hF hrg hfl
 go_wp2_with fail
 refine (Any.slices_Clone_int lays_renK g 0 n n F wp (by rw [HFL.out]; omega) (by omega) (fun j hj=>by rw [Nat.zero_add]; exact HQF.out.cell hj)).mono ?_
 rintro e wc ⟨v',rfl,hown,hne,hbl⟩
 obtain ⟨gb,bcap,rfl,hgb,hcb,hnu⟩:∃ gb bcap,v'=.slice (some ⟨gb,0,none⟩) n bcap∧wp.heap.size≤gb∧n≤bcap∧Nums wc gb (rootA N F 0):=by
  rcases hown.2 with ⟨h0,h1⟩ | ⟨g',cap',cur,hv,hb,hg,h1,h2,h3,h4⟩
  ·exact absurd h0 hne
  ·subst hv
   have hn2:=nums_own (ss:=F) (by
    have e:F.take n=F:=List.take_of_length_le (by rw [HFL.out]; omega)
    have h5:=hown
    rw [e] at h5
    exact h5) HFL.out.symm
   exact ⟨g',cap',rfl,hn2.2.1,hn2.2.2,hn2.1⟩
 have HXC:=Lib.hid (show Ext wp wc from hbl)
 have HNU:=Lib.hid hnu
 have HGB:=Lib.hid hgb
 clear hown hne hbl hnu hgb
 go_wp2_with fail
 go_loopw [18] (fun s wr=>∃ (i:Nat),s=.int .i64 i∧i≤n∧Nums wr gb (rootA N F i)∧Ext wp wr) (fun s _=>n - (intOf s).toNat)
 case atStart=>exact ⟨0,rfl,by omega,HNU.out,HXC.out⟩
 case round =>
  obtain ⟨i,rfl,hi,hq,hx⟩:=hrel
  rename World=>wl
  have HQ:=Lib.hid hq
  have HXL:=Lib.hid hx
  clear hq hx HNU HXC
  by_cases hlt:i < n
  ·have dlt:decide ((i:Int) < (n:Int))=true:=by simp; omega
   have hup:IntKind.i64.wrap ((i:Int)+1)=((i+1:Nat):Int):=by rw [IntKind.wrap_i64]; omega
   have hbl:(rootA N F i).length=n:=by rw [rootA_len]; exact HFL.out
   have hbr:=rootA_rng N F n HRG.out HFL.out i hi
   obtain ⟨b,hb⟩:∃ b,rootA N F i=b:=⟨_,rfl⟩
   obtain ⟨p,hp,hpe⟩:∃ p:Nat,p < n∧at0 F i=p:=by
    have:=HRG.out i hlt
    exact ⟨(at0 F i).toNat,by omega,by omega⟩
   rw [hb] at hbl hbr HQ
   obtain ⟨q,hq,hqe⟩:∃ q:Nat,q < n∧at0 b p=q:=by
    have:=hbr p hp
    exact ⟨(at0 b p).toNat,by omega,by omega⟩
   have HS:=Lib.hid (show rootA N F (i+1)=if idA N i < idA N q then b.set p i else b from by
    show (if idA N i < idA N (at0 (rootA N F i) (at0 F i).toNat).toNat then (rootA N F i).set (at0 F i).toNat i else rootA N F i)=_
    rw [hb,hpe,Int.toNat_natCast,hqe,Int.toNat_natCast])
   have ci:wl.cell? ⟨g,i,none⟩=some (.int .i64 (p:Int)):=by rw [← hpe]; exact (HQF.out.ext HXL.out).cell (by rw [HFL.out]; exact hlt)
   have HBQ:=Lib.hid (show wl.cell? ⟨gb,p,none⟩=some (.int .i64 (q:Int)) from by rw [← hqe]; exact HQ.out.cell (by omega))
   have HBL:=Lib.hid (HQ.out.lt)
   have HCI:=Lib.hid (show wp.cell? ⟨nb,no+i*3,none⟩=some (.int .u64 (idA N i)) from (HXP.out.cell HNB.out).trans (HID.out i hlt))
   have HCQ:=Lib.hid (show wp.cell? ⟨nb,no+q*3,none⟩=some (.int .u64 (idA N q)) from (HXP.out.cell HNB.out).trans (HID.out q hq))
   have HNP:=Lib.hid (Nat.lt_of_lt_of_le HNB.out HGL.out)
   obtain ⟨ida,hida⟩:∃ x,idA N i=x:=⟨_,rfl⟩
   obtain ⟨idq,hidq⟩:∃ x,idA N q=x:=⟨_,rfl⟩
   rw [hida] at HS HCI
   rw [hidq] at HS HCQ
   have HBN:=Lib.hid hbl
   clear hb hpe hqe hbr hida hidq hbl
   by_cases hc:ida < idq
   ·have dc:decide (ida < idq)=true:=by simpa using hc
    have HS1:=Lib.hid (show rootA N F (i+1)=b.set p i from by rw [HS.out,if_pos hc])
    clear HS hc
    go_wp2_with fail
    refine beginL (S:=fun W'=>Ext wl W') (by kernel_rfl) ?_
    intro wd hqx
    have hq0:Ext wl wd:=hqx
    refine tLp 0 ((.pointer (some ⟨X,7,none⟩))) rfl hq0 ?_
    simp only [ps]
    refine tL 1 (_) rfl (yieldsIf_cell rfl 44 _ rfl ⟨X,7,none⟩ rfl (.slice (some ⟨nb,no,none⟩) n ncap) _ (fun W' hW'=>(HXB.out.ext (HXL.out.trans hW')).cell 7 rfl) Try.underlying44 rfl) hq0 ?_
    simp only [ps]
    refine tLp 2 ((.int .i64 (i:Int))) rfl hq0 ?_
    simp only [ps]
    refine tL 3 ((.pointer (some ⟨nb,no+i*3,none⟩))) rfl (Or.inl ⟨rfl,fun W' _=>by go_simp <;> (intro h; omega)⟩) hq0 ?_
    simp only [ps]
    refine tLp 4 ((.pointer (some ⟨nb,no+i*3,none⟩))) rfl hq0 ?_
    simp only [ps]
    refine tL 5 (_) rfl (yieldsIf_cell rfl 53 _ rfl ⟨nb,no+i*3,none⟩ rfl (.int .u64 ida) _ (fun W' hW'=>((HXL.out.trans hW').cell HNP.out).trans HCI.out) Try.underlying53 rfl) hq0 ?_
    simp only [ps]
    refine tLp 6 ((.pointer (some ⟨X,7,none⟩))) rfl hq0 ?_
    simp only [ps]
    refine tL 7 (_) rfl (yieldsIf_cell rfl 44 _ rfl ⟨X,7,none⟩ rfl (.slice (some ⟨nb,no,none⟩) n ncap) _ (fun W' hW'=>(HXB.out.ext (HXL.out.trans hW')).cell 7 rfl) Try.underlying44 rfl) hq0 ?_
    simp only [ps]
    refine tLp 8 ((.slice (some ⟨gb,0,none⟩) n bcap)) rfl hq0 ?_
    simp only [ps]
    refine tLp 9 ((.int .i64 (p:Int))) rfl hq0 ?_
    simp only [ps]
    refine tL 10 ((.pointer (some ⟨gb,p,none⟩))) rfl (Or.inl ⟨rfl,fun W' _=>by go_simp <;> (intro h; omega)⟩) hq0 ?_
    simp only [ps]
    refine tL 11 (_) rfl (yieldsIf_cell rfl 3 _ rfl ⟨gb,p,none⟩ rfl (.int .i64 (q:Int)) _ (fun W' hW'=>(hW'.cell HBL.out).trans HBQ.out) Try.underlying3 rfl) hq0 ?_
    simp only [ps]
    refine tL 12 ((.pointer (some ⟨nb,no+q*3,none⟩))) rfl (Or.inl ⟨rfl,fun W' _=>by go_simp <;> (intro h; omega)⟩) hq0 ?_
    simp only [ps]
    refine tLp 13 ((.pointer (some ⟨nb,no+q*3,none⟩))) rfl hq0 ?_
    simp only [ps]
    refine tL 14 (_) rfl (yieldsIf_cell rfl 53 _ rfl ⟨nb,no+q*3,none⟩ rfl (.int .u64 idq) _ (fun W' hW'=>((HXL.out.trans hW').cell HNP.out).trans HCQ.out) Try.underlying53 rfl) hq0 ?_
    simp only [ps]
    refine tL 15 ((.bool true)) rfl (Or.inl ⟨rfl,fun W' _=>by go_simp⟩) hq0 ?_
    simp only [ps]
    refine wpAnyH_done (by kernel_rfl) ?_ _
    have hcp:wd.cell? ⟨gb,p,none⟩=some (.int .i64 (q:Int)):=(hq0.cell HBL.out).trans HBQ.out
    have hce:=HQ.out.ext hq0
    have hfp:=hce.froz p
    have HX5:=Lib.hid ((HXL.out.trans hq0).setCell (p:=⟨gb,p,none⟩) HGB.out (.int .i64 (i:Int)))
    have HN5:=Lib.hid (hce.set (p:=p) (by rw [HBN.out]; exact hp) (i:Int))
    clear hce hqx hq0
    go_wp2_with fail
    go_roundw
    case rel=>exact ⟨i+1,by go_num,by omega,by rw [HS1.out]; exact HN5.out,HX5.out⟩
    case measure=>simp [intOf] <;> omega
   ·have dc:decide (ida < idq)=false:=by simpa using hc
    have HS1:=Lib.hid (show rootA N F (i+1)=b from by rw [HS.out,if_neg hc])
    clear HS hc
    go_wp2_with fail
    refine beginL (S:=fun W'=>Ext wl W') (by kernel_rfl) ?_
    intro wd hqx
    have hq0:Ext wl wd:=hqx
    refine tLp 0 ((.pointer (some ⟨X,7,none⟩))) rfl hq0 ?_
    simp only [ps]
    refine tL 1 (_) rfl (yieldsIf_cell rfl 44 _ rfl ⟨X,7,none⟩ rfl (.slice (some ⟨nb,no,none⟩) n ncap) _ (fun W' hW'=>(HXB.out.ext (HXL.out.trans hW')).cell 7 rfl) Try.underlying44 rfl) hq0 ?_
    simp only [ps]
    refine tLp 2 ((.int .i64 (i:Int))) rfl hq0 ?_
    simp only [ps]
    refine tL 3 ((.pointer (some ⟨nb,no+i*3,none⟩))) rfl (Or.inl ⟨rfl,fun W' _=>by go_simp <;> (intro h; omega)⟩) hq0 ?_
    simp only [ps]
    refine tLp 4 ((.pointer (some ⟨nb,no+i*3,none⟩))) rfl hq0 ?_
    simp only [ps]
    refine tL 5 (_) rfl (yieldsIf_cell rfl 53 _ rfl ⟨nb,no+i*3,none⟩ rfl (.int .u64 ida) _ (fun W' hW'=>((HXL.out.trans hW').cell HNP.out).trans HCI.out) Try.underlying53 rfl) hq0 ?_
    simp only [ps]
    refine tLp 6 ((.pointer (some ⟨X,7,none⟩))) rfl hq0 ?_
    simp only [ps]
    refine tL 7 (_) rfl (yieldsIf_cell rfl 44 _ rfl ⟨X,7,none⟩ rfl (.slice (some ⟨nb,no,none⟩) n ncap) _ (fun W' hW'=>(HXB.out.ext (HXL.out.trans hW')).cell 7 rfl) Try.underlying44 rfl) hq0 ?_
    simp only [ps]
    refine tLp 8 ((.slice (some ⟨gb,0,none⟩) n bcap)) rfl hq0 ?_
    simp only [ps]
    refine tLp 9 ((.int .i64 (p:Int))) rfl hq0 ?_
    simp only [ps]
    refine tL 10 ((.pointer (some ⟨gb,p,none⟩))) rfl (Or.inl ⟨rfl,fun W' _=>by go_simp <;> (intro h; omega)⟩) hq0 ?_
    simp only [ps]
    refine tL 11 (_) rfl (yieldsIf_cell rfl 3 _ rfl ⟨gb,p,none⟩ rfl (.int .i64 (q:Int)) _ (fun W' hW'=>(hW'.cell HBL.out).trans HBQ.out) Try.underlying3 rfl) hq0 ?_
    simp only [ps]
    refine tL 12 ((.pointer (some ⟨nb,no+q*3,none⟩))) rfl (Or.inl ⟨rfl,fun W' _=>by go_simp <;> (intro h; omega)⟩) hq0 ?_
    simp only [ps]
    refine tLp 13 ((.pointer (some ⟨nb,no+q*3,none⟩))) rfl hq0 ?_
    simp only [ps]
    refine tL 14 (_) rfl (yieldsIf_cell rfl 53 _ rfl ⟨nb,no+q*3,none⟩ rfl (.int .u64 idq) _ (fun W' hW'=>((HXL.out.trans hW').cell HNP.out).trans HCQ.out) Try.underlying53 rfl) hq0 ?_
    simp only [ps]
    refine tL 15 ((.bool false)) rfl (Or.inl ⟨rfl,fun W' _=>by go_simp⟩) hq0 ?_
    simp only [ps]
    refine wpAnyH_done (by kernel_rfl) ?_ _
    have HN5:=Lib.hid (HQ.out.ext hq0)
    have HX5:=Lib.hid (HXL.out.trans hq0)
    clear hqx hq0
    go_wp2_with fail
    go_roundw
    case rel=>exact ⟨i+1,by go_num,by omega,by rw [HS1.out]; exact HN5.out,HX5.out⟩
    case measure=>simp [intOf] <;> omega
  ·have dlt:decide ((i:Int) < (n:Int))=false:=by simp; omega
   have hin:i=n:=by omega
   have HA:=Lib.hid (show Nums wl gb (rootB F (rootA N F n) 0) from by rw [hin] at HQ; exact HQ.out)
   have HXA:=HXL
   have HAL:=Lib.hid (show (rootA N F n).length=n from by rw [rootA_len]; exact HFL.out)
   have HAR:=Lib.hid (rootA_rng N F n HRG.out HFL.out n (Nat.le_refl _))
   have HRF:=Lib.hid (show rootF N F=rootB F (rootA N F n) n from by unfold rootF; rw [HFL.out])
   clear hin HQ HXL
   go_wp2_with fail
   go_loopw [46] (fun s wr=>∃ (k:Nat),s=.int .i64 k∧k≤n∧Nums wr gb (rootB F (rootA N F n) k)∧Ext wp wr) (fun s _=>n - (intOf s).toNat)
   case atStart=>exact ⟨0,rfl,by omega,HA.out,HXA.out⟩
   case round =>
    obtain ⟨k,rfl,hk,hq,hx⟩:=hrel
    rename World=>wm
    have HQ:=Lib.hid hq
    have HXL:=Lib.hid hx
    clear hq hx HA HXA
    by_cases hlt:k < n
    ·have dlk:decide ((k:Int) < (n:Int))=true:=by simp; omega
     have hup:IntKind.i64.wrap ((k:Int)+1)=((k+1:Nat):Int):=by rw [IntKind.wrap_i64]; omega
     have hbl:(rootB F (rootA N F n) k).length=n:=by rw [rootB_len]; exact HAL.out
     obtain ⟨b,hb⟩:∃ b,rootB F (rootA N F n) k=b:=⟨_,rfl⟩
     obtain ⟨p,hp,hpe⟩:∃ p:Nat,p < n∧at0 F k=p:=by
      have:=HRG.out k hlt
      exact ⟨(at0 F k).toNat,by omega,by omega⟩
     rw [hb] at hbl HQ
     obtain ⟨q,hqe⟩:∃ q,at0 b p=q:=⟨_,rfl⟩
     have HS1:=Lib.hid (show rootB F (rootA N F n) (k+1)=b.set k q from by
      show (rootB F (rootA N F n) k).set k (at0 (rootB F (rootA N F n) k) (at0 F k).toNat)=_
      rw [hb,hpe,Int.toNat_natCast,hqe])
     have ci:wm.cell? ⟨g,k,none⟩=some (.int .i64 (p:Int)):=by rw [← hpe]; exact (HQF.out.ext HXL.out).cell (by rw [HFL.out]; exact hlt)
     have cq:wm.cell? ⟨gb,p,none⟩=some (.int .i64 q):=by rw [← hqe]; exact HQ.out.cell (by omega)
     have ck:wm.cell? ⟨gb,k,none⟩=some (.int .i64 (at0 b k)):=HQ.out.cell (by omega)
     have hfk:=HQ.out.froz k
     have HX5:=Lib.hid (HXL.out.setCell (p:=⟨gb,k,none⟩) HGB.out (.int .i64 q))
     have HN5:=Lib.hid (HQ.out.set (p:=k) (by omega) q)
     clear hb hpe hqe hbl
     go_wp2_with fail
     go_roundw
     case rel=>exact ⟨k+1,by go_num,by omega,by rw [HS1.out]; exact HN5.out,HX5.out⟩
     case measure=>simp [intOf] <;> omega
    ·have dlk:decide ((k:Int) < (n:Int))=false:=by simp; omega
     have hkn:k=n:=by omega
     have HQ9:=Lib.hid (show Nums wm gb (rootB F (rootA N F n) n) from by have:=HQ.out; rw [hkn] at this; exact this)
     clear hkn
     go_wp2_with fail
     go_ret
     exact ⟨gb,bcap,rfl,hcb,by rw [HFE.out,HRF.out]; exact HQ9.out,Nat.le_trans HGL.out HGB.out,HXP.out.trans HXL.out⟩
end Go.Proofs.Ytamnmjckhicapaa
namespace Go.Proofs.Ytamnmjckhicapaa
open Go.RowKit Go.BigFrame Go.WideShapes Go.ChangeShapes Go.Deep
set_option linter.unusedVariables false
set_option linter.unusedSimpArgs false
set_option maxRecDepth 100000
def wayA (r:Nat) (R:List Int) (D W:List Way):Nat→List Way
 | 0=>W
 | k+1=>if at0 R k=r then (wayA r R D W k).set k (D.getD k Option.none) else wayA r R D W k
def wayK (n:Nat) (L:List Hp) (R:List Int):Nat→List Way
 | 0=>List.replicate n (Option.some (0,0))
 | i+1=>if at0 R i=i then wayA i R (farF n L i) (wayK n L R i) n else wayK n L R i
def wayF (n:Nat) (L:List Hp) (R:List Int):List Way:=wayK n L R n
theorem wayA_len (r:Nat) (R:List Int) (D W:List Way) (k:Nat):(wayA r R D W k).length=W.length:=by
 induction k with
 | zero=>rfl
 | succ k ih=>unfold wayA; split <;> simp [ih]
theorem wayK_len (n:Nat) (L:List Hp) (R:List Int) (k:Nat):(wayK n L R k).length=n:=by
 induction k with
 | zero=>simp [wayK]
 | succ k ih=>unfold wayK; split <;> simp [wayA_len,ih]
def WRow (w:World) (g:Nat) (W:List Way):Prop:=w.heap[g]?=some (.cells (W.map cvW).toArray 84 (0,0))
theorem WRow.ext {w w':World} {g:Nat} {W:List Way} (h:WRow w g W) (hx:Ext w w'):WRow w' g W:=(hx.block g (heap_lt h)).trans h
theorem cv_zero:cvW (Option.some (0,0))=.complex .f64 0 0:=rfl
theorem cv_cells (d:Way):(cvW d).cells=#[cvW d]:=by cases d <;> rfl
theorem cv_one (d:Way):(#[cvW d]:Array Value).toList.all (·.oneCell')=true:=by cases d <;> rfl
theorem far_any2 (n s:Nat) (v:Value) (L:List Hp) (w:World) (h:HopsAt w v L) (hn:1≤n) (hn2:n≤1000) (hs:s < n) (hL:L.length≤100000) (hwf:∀ h ∈ L,h.wf) :
    Calls Try.prog 36 #[.int .i64 n,v,.int .i64 s] w fun e w'=>∃ g,e=.returned (.slice (some ⟨g,0,none⟩) n n)∧(farF n L s).length=n∧(∀ k q,Walk n L s k q→∃ y,(farF n L s).getD k Option.none=Option.some y)∧w'.heap[g]?=some (.cells ((farF n L s).map cvW).toArray 84 (0,0))∧w.heap.size≤g∧Ext w w':=by
 refine (rfar_any n s v L w h hn hn2 hs hL hwf).mono ?_
 rintro e w1 ⟨g,t,D,dn,he,hr,hrow,hg,hx⟩
 obtain ⟨hk,-,-,-⟩:=hr.facts hs hwf
 have hf:=hr.fin hs
 have hD:=hr.same hs hwf
 subst hD
 exact ⟨g,he,hk.len,fun k q hw=>let ⟨y,hy,_⟩:=hf.least hw; ⟨y,hy⟩,hrow,hg,hx⟩
theorem some_set {W:List Way} {n k:Nat} {d:Way} (h:∀ j,j < n→∃ x,W.getD j Option.none=Option.some x) (hd:∃ x,d=Option.some x):∀ j,j < n→∃ x,(W.set k d).getD j Option.none=Option.some x:=fun j hj=>by
 rw [getD_setW]
 split
 ·exact hd
 ·exact h j hj
set_option maxRecDepth 100000 in
set_option maxHeartbeats 8000000 in
theorem ways_any (t0 t1 t2 t3 hold room age:Int) (na:Option Addr) (n ncap gr rcap:Nat) (sv lv:Value) (L:List Hp) (R:List Int) (w:World) (hn:1≤n∧n≤5) (hv:HopsAt w lv L) (hL:L.length≤100000) (hwf:∀ h ∈ L,h.wf) (hR:Nums w gr R) (hrl:R.length=n) (hrc:n≤rcap) (hrr:Rng n R) (hcn:∀ k,k < n→∃ q,Walk n L (at0 R k).toNat k q) :
    Calls Try.prog 21 #[(.agg #[.int .i64 t0,.int .i64 t1,.int .i64 t2,.int .i64 t3,.int .i64 hold,.int .i64 room,.int .i64 age,.slice na n ncap,sv]),lv,.slice (some ⟨gr,0,none⟩) n rcap] w fun e w'=>∃ g,e=.returned (.slice (some ⟨g,0,none⟩) n n)∧WRow w' g (wayF n L R)∧(∀ k,k < n→∃ x,(wayF n L R).getD k Option.none=Option.some x)∧w.heap.size≤g∧Ext w w':=by
 obtain ⟨i3,hi3,hz3,hs3,hb3⟩:=info_parts info_cpx
 have I3:=Lib.hid (And.intro hi3 (And.intro hz3 (And.intro hs3 hb3)))
 have HN:=Lib.hid hn
 have hn1:=hn.1
 have hn5:=hn.2
 have HV:=Lib.hid hv
 have HW:=Lib.hid hwf
 have HR:=Lib.hid hR
 have HRL:=Lib.hid hrl
 have HRR:=Lib.hid hrr
 have HCN:=Lib.hid hcn
 clear hi3 hz3 hs3 hb3 hn hv hwf hR hrl hrr hcn
 go_enter Try.func21,Try.ntmps21
 go_wp2_with (first
  | fail
  | ((with_reducible refine at_box 47 ?_); refine bx_row rfl 47 _ rfl #[.int .i64 t0,.int .i64 t1,.int .i64 t2,.int .i64 t3,.int .i64 hold,.int .i64 room,.int .i64 age,.slice na n ncap,sv] rfl ?_
     intro X wb hX hsz hx1
     have HE:=Lib.hid hx1
     clear hX hsz hx1)
  | (at_make; refine wpList_make_row _ rfl _ _ 75 rfl 84 i3 (.complex .f64 0 0) Try.underlying75 I3.out.1 I3.out.2.1 I3.out.2.2.1 rfl .i64 .i64 n rfl rfl (by rw [I3.out.2.2.2]; omega) (by omega) ?_
     have hy:Ext wb (wb.alloc (.cells (madeCells #[.complex .f64 0 0] n) 84)):=(Ext.refl _).alloc _
     have hq:=heap_alloc_new wb (.cells (madeCells #[.complex .f64 0 0] n) 84)
     obtain ⟨w2,hw2⟩:∃ w2,wb.alloc (.cells (madeCells #[.complex .f64 0 0] n) 84)=w2:=⟨_,rfl⟩
     obtain ⟨g,hT⟩:∃ T,wb.heap.size=T:=⟨_,rfl⟩
     rw [hw2] at hy hq ⊢
     rw [hT] at hq ⊢
     rw [made_rep] at hq
     have HQ2:=Lib.hid (show WRow w2 g (wayK n L R 0) from by
      have:List.replicate n (Value.complex .f64 0 0)=(wayK n L R 0).map cvW:=by rw [show wayK n L R 0=List.replicate n (Option.some (0,0)) from rfl,List.map_replicate,cv_zero]
      rw [this] at hq
      exact hq)
     have HE2:=Lib.hid (HE.out.trans hy)
     have HG:=Lib.hid (show w.heap.size≤g from by rw [← hT]; exact HE.out.size)
     clear hy hq hw2 hT))
 go_loopw [17] (fun s wr=>∃ (i:Nat),s=.int .i64 i∧i≤n∧WRow wr g (wayK n L R i)∧(∀ k,k < n→∃ x,(wayK n L R i).getD k Option.none=Option.some x)∧Ext w wr) (fun s _=>n - (intOf s).toNat)
 case atStart=>exact ⟨0,rfl,by omega,HQ2.out,fun k hk=>⟨(0,0),by simp [wayK,List.getD,hk]⟩,HE2.out⟩
 case round =>
  obtain ⟨i,rfl,hi,hq,hso,hx⟩:=hrel
  rename World=>wl
  have HQ:=Lib.hid hq
  have HSO:=Lib.hid hso
  clear hso
  have HXL:=Lib.hid hx
  clear hq hx HQ2 HE2 HE
  by_cases hlt:i < n
  ·have dlt:decide ((i:Int) < (n:Int))=true:=by simp; omega
   have hup:IntKind.i64.wrap ((i:Int)+1)=((i+1:Nat):Int):=by rw [IntKind.wrap_i64]; omega
   obtain ⟨W,hW⟩:∃ W,wayK n L R i=W:=⟨_,rfl⟩
   have hwl:W.length=n:=by rw [← hW]; exact wayK_len n L R i
   have HS:=Lib.hid (show wayK n L R (i+1)=if at0 R i=i then wayA i R (farF n L i) W n else W from by rw [← hW]; rfl)
   rw [hW] at HQ HSO
   clear hW
   obtain ⟨r,hr,hre⟩:∃ r:Nat,r < n∧at0 R i=r:=by
    have:=HRR.out i hlt
    exact ⟨(at0 R i).toNat,by omega,by omega⟩
   have ci:wl.cell? ⟨gr,i,none⟩=some (.int .i64 (r:Int)):=by rw [← hre]; exact (HR.out.ext HXL.out).cell (by rw [HRL.out]; exact hlt)
   rw [hre] at HS
   clear hre
   by_cases hir:r=i
   ·have HS1:=Lib.hid (show wayK n L R (i+1)=wayA i R (farF n L i) W n from by rw [HS.out,if_pos (by omega)])
    subst hir
    have dz:decide ((r:Int) ≠ (r:Int))=false:=by simp
    clear HS
    go_wp2_with fail
    refine (far_any2 n r lv L wl (HV.out.ext HXL.out) hn1 (by omega) hr hL HW.out).mono ?_
    rintro e w4 ⟨gf,rfl,hdl,hwk,hrow,hgf,hx4⟩
    obtain ⟨D,hD⟩:∃ D,farF n L r=D:=⟨_,rfl⟩
    rw [hD] at hdl hwk hrow HS1
    have HSD:=Lib.hid (show ∀ k,k < n→at0 R k=(r:Int)→∃ x,D.getD k Option.none=Option.some x from fun k hk he=>by
     obtain ⟨q,hq⟩:=HCN.out k hk
     rw [he,Int.toNat_natCast] at hq
     exact hwk k q hq)
    have HDL:=Lib.hid hdl
    have HR4:=Lib.hid hrow
    have HQ4:=Lib.hid (HQ.out.ext hx4)
    have HX4:=Lib.hid (HXL.out.trans hx4)
    have HGF:=Lib.hid (show gf ≠ g from by have:=heap_lt HQ.out; omega)
    have HWL:=Lib.hid hwl
    clear hdl hwk hrow hgf hx4 hD ci hwl dz
    go_wp2_with fail
    go_loopw [31] (fun s wr=>∃ (k:Nat),s=.int .i64 k∧k≤n∧WRow wr g (wayA r R D W k)∧(∀ j,j < n→∃ x,(wayA r R D W k).getD j Option.none=Option.some x)∧wr.heap[gf]?=some (.cells (D.map cvW).toArray 84 (0,0))∧Ext w wr) (fun s _=>n - (intOf s).toNat)
    case atStart=>exact ⟨0,rfl,by omega,HQ4.out,HSO.out,HR4.out,HX4.out⟩
    case round =>
     obtain ⟨k,rfl,hk,hq,hsi,hrw,hx⟩:=hrel
     rename World=>wm
     have HSI:=Lib.hid hsi
     clear hsi
     have HQ5:=Lib.hid hq
     have HR5:=Lib.hid hrw
     have HX5:=Lib.hid hx
     clear hq hrw hx HQ4 HR4 HX4
     by_cases hkt:k < n
     ·have dkt:decide ((k:Int) < (n:Int))=true:=by simp; omega
      have hupk:IntKind.i64.wrap ((k:Int)+1)=((k+1:Nat):Int):=by rw [IntKind.wrap_i64]; omega
      obtain ⟨d,hd⟩:∃ d,D.getD k Option.none=d:=⟨_,rfl⟩
      obtain ⟨m,hm⟩:∃ m,wayA r R D W k=m:=⟨_,rfl⟩
      have HM:=Lib.hid (show wayA r R D W (k+1)=if at0 R k=r then m.set k d else m from by rw [← hd,← hm]; rfl)
      have hml:m.length=n:=by rw [← hm,wayA_len]; exact HWL.out
      have hc1:=cv_cells d
      have hc2:=cv_one d
      have hset0:(m.map cvW).set k (cvW d)=(m.set k d).map cvW:=by rw [List.map_set]
      have ck:wm.cell? ⟨gf,k,none⟩=some (cvW d):=by rw [← hd]; exact far_cell HR5.out HDL.out hkt
      obtain ⟨x,hx⟩:∃ x,cvW d=x:=⟨_,rfl⟩
      rw [hx] at hc1 hc2 hset0 ck
      rw [hm] at HQ5 HSI
      have HSD1:=Lib.hid (show at0 R k=(r:Int)→∃ x,d=Option.some x from fun he=>by rw [← hd]; exact HSD.out k hkt he)
      obtain ⟨p,hp⟩:∃ p,at0 R k=p:=⟨_,rfl⟩
      have cr:wm.cell? ⟨gr,k,none⟩=some (.int .i64 p):=by rw [← hp]; exact (HR.out.ext HX5.out).cell (by rw [HRL.out]; exact hkt)
      rw [hp] at HM HSD1
      clear hd hx hm hp
      by_cases hpr:p=(r:Int)
      ·have HM1:=Lib.hid (show wayA r R D W (k+1)=m.set k d from by rw [HM.out,if_pos hpr])
       subst hpr
       have hroom:k+(#[x]:Array Value).size≤(m.map cvW).toArray.size:=by simp; omega
       have hset:=set_row (l:=m.map cvW) (f:=k) (v:=x) (by rw [List.length_map]; omega)
       rw [hset0] at hset
       have HSR:=Lib.hid (And.intro hroom (And.intro hset (And.intro hc1 hc2)))
       clear hroom hset hset0 hc1 hc2 HM
       go_wp2_with (first
        | fail
        | ((with_reducible refine at_store 84 ?_); refine st_at rfl rfl 84 _ _ rfl g k _ #[x] (m.map cvW).toArray ((m.set k d).map cvW).toArray 84 rfl rfl HSR.out.2.2.1 HQ5.out HSR.out.1 (by kernel_rfl) HSR.out.2.2.2 HSR.out.2.1 ?_
           intro w7 hq7 hm7
           have HQ7:=Lib.hid (show WRow w7 g (m.set k d) from hq7)
           have HR7:=Lib.hid ((hm7.heap (heap_lt HR5.out) (fun h=>HGF.out h)).trans HR5.out)
           have HX7:=Lib.hid (HX5.out.mutE hm7 (fun j hj h=>by have h2:j=g:=h; have:=HG.out; omega))
           clear hq7 hm7))
       go_roundw
       case rel=>exact ⟨k+1,by go_num,by omega,by rw [HM1.out]; exact HQ7.out,by rw [HM1.out]; exact some_set HSI.out (HSD1.out rfl),HR7.out,HX7.out⟩
       case measure=>simp [intOf] <;> omega
      ·have HM1:=Lib.hid (show wayA r R D W (k+1)=m from by rw [HM.out,if_neg hpr])
       have dpr:decide (p=(r:Int))=false:=by simpa using hpr
       have bpr:(p == (r:Int))=false:=by simpa using hpr
       clear HM hset0 hc1 hc2
       go_wp2_with fail
       go_roundw
       case rel=>exact ⟨k+1,by go_num,by omega,by rw [HM1.out]; exact HQ5.out,by rw [HM1.out]; exact HSI.out,HR5.out,HX5.out⟩
       case measure=>simp [intOf] <;> omega
     ·have dkt:decide ((k:Int) < (n:Int))=false:=by simp; omega
      have hkn:k=n:=by omega
      have HQ9:=Lib.hid (show WRow wm g (wayK n L R (r+1)) from by
       have:=HQ5.out
       rw [hkn] at this
       rw [HS1.out]
       exact this)
      have HSO9:=Lib.hid (show ∀ j,j < n→∃ x,(wayK n L R (r+1)).getD j Option.none=Option.some x from by
       have:=HSI.out
       rw [hkn] at this
       rw [HS1.out]
       exact this)
      clear hkn
      go_wp2_with fail
      go_roundw
      case rel=>exact ⟨r+1,by go_num,by omega,HQ9.out,HSO9.out,HX5.out⟩
      case measure=>simp [intOf] <;> omega
   ·have HS1:=Lib.hid (show wayK n L R (i+1)=W from by rw [HS.out,if_neg (by omega)])
    have hir2:¬ i=r:=fun h=>hir h.symm
    have dir:decide ((i:Int)=(r:Int))=false:=by simp; omega
    have bir:((i:Int) == (r:Int))=false:=by simp; omega
    have dz:decide ((i:Int) ≠ (r:Int))=true:=by simp; omega
    clear HS
    go_wp2_with fail
    go_roundw
    case rel=>exact ⟨i+1,by go_num,by omega,by rw [HS1.out]; exact HQ.out,by rw [HS1.out]; exact HSO.out,HXL.out⟩
    case measure=>simp [intOf] <;> omega
  ·have dlt:decide ((i:Int) < (n:Int))=false:=by simp; omega
   have hin:i=n:=by omega
   have HQ9:=Lib.hid (show WRow wl g (wayK n L R n) from by have:=HQ.out; rw [hin] at this; exact this)
   have HSO9:=Lib.hid (show ∀ k,k < n→∃ x,(wayK n L R n).getD k Option.none=Option.some x from by have:=HSO.out; rw [hin] at this; exact this)
   clear hin
   go_wp2_with fail
   go_ret
   exact ⟨g,rfl,HQ9.out,HSO9.out,HG.out,HXL.out⟩
end Go.Proofs.Ytamnmjckhicapaa
