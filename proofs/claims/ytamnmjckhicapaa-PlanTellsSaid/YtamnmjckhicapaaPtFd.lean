/- Part 4 of what PlanVersions stands on. No statement is proved here. -/
import Derived.Deep.DeepCutAuto
import Derived.Test.YtamnmjckhicapaaPtFc
namespace Go.Proofs.Ytamnmjckhicapaa
open Go.RowKit Go.BigFrame Go.WideShapes Go.ChangeShapes Go.Deep
set_option linter.unusedVariables false
set_option linter.unusedSimpArgs false
set_option maxRecDepth 100000
section
variable {P:Program} {md:Region.Mode} {Q:Exit→Act→World→Prop} {S:World→Prop}
theorem readyL {l rest:List Oper} {i:Nat} {oi:Oper} {fuel:Nat} {listed:Array Bool} {a:Act} {w:World} {rs:List Nat} (hi:l.drop i=oi :: rest) (hg:oi.guard=none)
    (h:∀ K':Act→World→Prop,Shut (∀ a w,S w→(S w→wpAnyH P md l.toArray Q S fuel (listed.setIfInBounds i true) a w)→K' a w)→Oper.wp P oi a w K' Q)
    (hs:AllReadyH P md l.toArray Q S fuel listed a w rs):AllReadyH P md l.toArray Q S fuel listed a w (i :: rs):=by
 refine AllReadyH.cons (o:=oi) ?_ (fun K hK=>?_) hs
 ·have e:(l.drop i)[0]?=some oi:=by rw [hi]; rfl
  rw [List.getElem?_drop,Nat.add_zero] at e
  simpa using e
 ·rw [if_pos (by simp [Region.wanted,hg])]
  exact h K hK
end
theorem oper_make {P:Program} {o:Oper} {a:Act} {w:World} {K:Act→World→Prop} {Q:Exit→Act→World→Prop} (l c:Operand) (t:TypeId) (hop:o.op=Op.makeSlice t l c)
    (e:TypeId) (i:TypeInfo) (z:Value) (ht:P.underlying t=some (.slice e)) (hi:P.info? e=some i) (hz:i.zero=some z) (hsize:i.size=1) (hz1:z.cells=#[z])
    (kl kc:IntKind) (n:Nat) (hl:a.eval l=.int kl (n:Int)) (hc:a.eval c=.int kc (n:Int)) (hbytes:i.bytes*n≤281474976710656) (h63:n≤9223372036854775807)
    (hK:K (a.put o.dst (.slice (some ⟨w.heap.size,0,none⟩) n n)) (w.alloc (.cells (madeCells #[z] n) e))):Oper.wp P o a w K Q:=by
 have hrun:=run_make_row (P:=P) t e i z ht hi hz hsize hz1 kl kc n hbytes h63 w
 unfold Oper.wp
 simp [execOp,hop,hl,hc,hrun,Result.andThen]
 exact hK
theorem info_cpx:(Try.prog.info? 84).map (fun i=>(i.zero,i.size,i.bytes))=some (some (.complex .f64 0 0),1,16):=by kernel_rfl
theorem info_boo:(Try.prog.info? 4).map (fun i=>(i.zero,i.size,i.bytes))=some (some (.bool false),1,1):=by kernel_rfl
set_option maxRecDepth 100000 in
set_option maxHeartbeats 8000000 in
theorem rfar_any (n s:Nat) (v:Value) (L:List Hp) (w:World) (h:HopsAt w v L) (hn:1≤n) (hn2:n≤1000) (hs:s < n) (hL:L.length≤100000) (hwf:∀ h ∈ L,h.wf) :
    Calls Try.prog 36 #[.int .i64 n,v,.int .i64 s] w fun e w'=>∃ g1 t D dn,e=.returned (.slice (some ⟨g1,0,none⟩) n n)∧Rch n L s t D dn (-1)∧w'.heap[g1]?=some (.cells (D.map cvW).toArray 84 (0,0))∧w.heap.size≤g1∧Ext w w':=by
 obtain ⟨i3,hi3,hz3,hs3,hb3⟩:=info_parts info_cpx
 obtain ⟨i4,hi4,hz4,hs4,hb4⟩:=info_parts info_boo
 have I3:=Lib.hid (And.intro hi3 (And.intro hz3 (And.intro hs3 hb3)))
 have I4:=Lib.hid (And.intro hi4 (And.intro hz4 (And.intro hs4 hb4)))
 have HH:=Lib.hid h
 have HW:=Lib.hid hwf
 have HZH:=Lib.hid zero_hop
 have hs8:s < 1000:=by omega
 clear hi3 hz3 hs3 hb3 hi4 hz4 hs4 hb4 h hwf
 go_enter Try.func36,Try.ntmps36
 go_upto_region 3 with fail
 go_cut [7,8,9] (fun x y z wx=>∃ g1 g2 T vs,x=.slice (some ⟨g1,0,none⟩) n n∧y=.slice (some ⟨g2,0,none⟩) n n∧z=.slice (some ⟨T,0,none⟩) n n∧FarM wx g1 g2 T n (leaveF n L) vs (List.replicate n (Option.some (0,0))) (List.replicate n false)∧Ext w wx∧w.heap.size≤g1∧w.heap.size≤g2∧w.heap.size≤T)
 case first =>
  refine beginL (S:=fun W'=>Ext w W') (by kernel_rfl) ?_
  intro wd hqx
  have hq0:Ext w wd:=hqx
  refine tLp 0 ((.int .i64 (n:Int))) rfl hq0 ?_
  simp only [ps]
  refine tLp 2 ((.int .i64 (n:Int))) rfl hq0 ?_
  simp only [ps]
  refine tLp 4 ((.int .i64 (n:Int))) rfl hq0 ?_
  simp only [ps]
  refine tLp 5 (v) rfl hq0 ?_
  simp only [ps]
  refine wpAnyH_ready (by kernel_rfl) (by simp) (readyL (i:=1) rfl rfl ?qx_1 (readyL (i:=3) rfl rfl ?qx_3 (readyL (i:=6) rfl rfl ?qx_6 AllReadyH.nil)))
  case qx_1 =>
   intro K hK
   refine oper_make _ _ 75 rfl 84 i3 (.complex .f64 0 0) Try.underlying75 I3.out.1 I3.out.2.1 I3.out.2.2.1 rfl .i64 .i64 n rfl rfl (by rw [I3.out.2.2.2]; omega) (by omega) ?_
   have hy1:Ext wd (wd.alloc (.cells (madeCells #[(.complex .f64 0 0)] n) 84)):=(Ext.refl _).alloc _
   have hz1:=heap_alloc_new wd (.cells (madeCells #[(.complex .f64 0 0)] n) 84)
   obtain ⟨x1,hW1⟩:∃ W,wd.alloc (.cells (madeCells #[(.complex .f64 0 0)] n) 84)=W:=⟨_,rfl⟩
   obtain ⟨g1,hN1⟩:∃ m,wd.heap.size=m:=⟨_,rfl⟩
   rw [hW1] at hy1 hz1 ⊢
   rw [hN1] at hz1 ⊢
   clear hW1
   have hg1_x1:=hz1
   have hsg1:w.heap.size≤g1∧wd.heap.size=g1:=⟨by rw [← hN1]; exact hq0.size,hN1⟩
   clear hz1 hN1
   have hp1:=hq0.trans hy1
   have hzz1:=hy1.size
   refine hK.out _ _ hp1 (fun _=>?_)
   try simp only [ps]
   clear hK K
   refine wpAnyH_ready (by kernel_rfl) (by simp) (readyL (i:=3) rfl rfl ?q1_3 (readyL (i:=6) rfl rfl ?q1_6 AllReadyH.nil))
   case q1_3 =>
    intro K hK
    refine oper_make _ _ 35 rfl 4 i4 (.bool false) Try.underlying35 I4.out.1 I4.out.2.1 I4.out.2.2.1 rfl .i64 .i64 n rfl rfl (by rw [I4.out.2.2.2]; omega) (by omega) ?_
    have hy2:Ext x1 (x1.alloc (.cells (madeCells #[(.bool false)] n) 4)):=(Ext.refl _).alloc _
    have hz2:=heap_alloc_new x1 (.cells (madeCells #[(.bool false)] n) 4)
    obtain ⟨x2,hW2⟩:∃ W,x1.alloc (.cells (madeCells #[(.bool false)] n) 4)=W:=⟨_,rfl⟩
    obtain ⟨g2,hN2⟩:∃ m,x1.heap.size=m:=⟨_,rfl⟩
    rw [hW2] at hy2 hz2 ⊢
    rw [hN2] at hz2 ⊢
    clear hW2
    have hg2_x2:=hz2
    have hsg2:w.heap.size≤g2∧x1.heap.size=g2:=⟨by rw [← hN2]; exact hp1.size,hN2⟩
    clear hz2 hN2
    have hp2:=hp1.trans hy2
    have hzz2:=hy2.size
    have hg1_x2:=(hy2.block _ (heap_lt hg1_x1)).trans hg1_x1
    have hl1_2:=heap_lt hg1_x1
    refine hK.out _ _ hp2 (fun _=>?_)
    try simp only [ps]
    clear hK K
    refine runL (i:=6) rfl rfl (by kernel_rfl) (fun K hK=>?_)
    go_simp
    refine (rleaving_any n v L _ (HH.out.ext hp2) hn hn2 hL HW.out).mono ?_
    rintro e x3 ⟨T,vs,rfl,hsT,hT_x3,hy3⟩
    have hO:∀ f m,f < n→(vs.getD f undef).ownBlock=some m→T < m∧m < x3.heap.size:=fun f m hf hm=>own_lt2 (hT_x3.own f hf) hm
    have hsT2:w.heap.size≤T:=Nat.le_trans hp2.size hsT
    have hTl:=heap_lt hT_x3.row
    have hp3:=hp2.trans hy3
    have hzz3:=hy3.size
    have hg1_x3:=(hy3.block _ (heap_lt hg1_x2)).trans hg1_x2
    have hl1_3:=heap_lt hg1_x2
    have hg2_x3:=(hy3.block _ (heap_lt hg2_x2)).trans hg2_x2
    have hl2_3:=heap_lt hg2_x2
    refine hK.out _ _ hp3 (fun _=>?_)
    try simp only [ps]
    clear hK K
    refine tLp 7 ((.slice (some ⟨g1,0,none⟩) n n)) rfl hp3 ?_
    simp only [ps]
    refine tLp 8 ((.slice (some ⟨g2,0,none⟩) n n)) rfl hp3 ?_
    simp only [ps]
    refine tLp 9 ((.slice (some ⟨T,0,none⟩) n n)) rfl hp3 ?_
    simp only [ps]
    refine wpAnyH_done (by kernel_rfl) ?_ _
    have hmk1:madeCells #[Value.complex .f64 0 0] n=((List.replicate n (Option.some (0,0):Way)).map cvW).toArray:=by rw [made_rep,List.map_replicate,cv00]
    have hmk2:madeCells #[Value.bool false] n=((List.replicate n false).map Value.bool).toArray:=by rw [made_rep,List.map_replicate]
    rw [hmk1] at hg1_x3
    rw [hmk2] at hg2_x3
    have hFM:FarM x3 g1 g2 T n (leaveF n L) vs (List.replicate n (Option.some (0,0))) (List.replicate n false):=⟨hg1_x3,hg2_x3,hT_x3,by omega,by constructor <;> omega,fun f m hf hm=>by have:=hO f m hf hm; constructor <;> omega⟩
    go_wp2_with fail
    go_meet
    exact ⟨g1,g2,T,vs,rfl,rfl,rfl,hFM,hp3,hsg1.1,hsg2.1,hsT2⟩
   case q1_6 =>
    intro K hK
    go_simp
    refine (rleaving_any n v L _ (HH.out.ext hp1) hn hn2 hL HW.out).mono ?_
    rintro e x4 ⟨T,vs,rfl,hsT,hT_x4,hy4⟩
    have hO:∀ f m,f < n→(vs.getD f undef).ownBlock=some m→T < m∧m < x4.heap.size:=fun f m hf hm=>own_lt2 (hT_x4.own f hf) hm
    have hsT2:w.heap.size≤T:=Nat.le_trans hp1.size hsT
    have hTl:=heap_lt hT_x4.row
    have hp4:=hp1.trans hy4
    have hzz4:=hy4.size
    have hg1_x4:=(hy4.block _ (heap_lt hg1_x1)).trans hg1_x1
    have hl1_4:=heap_lt hg1_x1
    refine hK.out _ _ hp4 (fun _=>?_)
    try simp only [ps]
    clear hK K
    refine tLp 7 ((.slice (some ⟨g1,0,none⟩) n n)) rfl hp4 ?_
    simp only [ps]
    refine runL (i:=3) rfl rfl (by kernel_rfl) (fun K hK=>?_)
    refine oper_make _ _ 35 rfl 4 i4 (.bool false) Try.underlying35 I4.out.1 I4.out.2.1 I4.out.2.2.1 rfl .i64 .i64 n rfl rfl (by rw [I4.out.2.2.2]; omega) (by omega) ?_
    have hy5:Ext x4 (x4.alloc (.cells (madeCells #[(.bool false)] n) 4)):=(Ext.refl _).alloc _
    have hz5:=heap_alloc_new x4 (.cells (madeCells #[(.bool false)] n) 4)
    obtain ⟨x5,hW5⟩:∃ W,x4.alloc (.cells (madeCells #[(.bool false)] n) 4)=W:=⟨_,rfl⟩
    obtain ⟨g2,hN5⟩:∃ m,x4.heap.size=m:=⟨_,rfl⟩
    rw [hW5] at hy5 hz5 ⊢
    rw [hN5] at hz5 ⊢
    clear hW5
    have hg2_x5:=hz5
    have hsg2:w.heap.size≤g2∧x4.heap.size=g2:=⟨by rw [← hN5]; exact hp4.size,hN5⟩
    clear hz5 hN5
    have hp5:=hp4.trans hy5
    have hzz5:=hy5.size
    have hg1_x5:=(hy5.block _ (heap_lt hg1_x4)).trans hg1_x4
    have hl1_5:=heap_lt hg1_x4
    have hT_x5:=hT_x4.ext hy5
    refine hK.out _ _ hp5 (fun _=>?_)
    try simp only [ps]
    clear hK K
    refine tLp 8 ((.slice (some ⟨g2,0,none⟩) n n)) rfl hp5 ?_
    simp only [ps]
    refine tLp 9 ((.slice (some ⟨T,0,none⟩) n n)) rfl hp5 ?_
    simp only [ps]
    refine wpAnyH_done (by kernel_rfl) ?_ _
    have hmk1:madeCells #[Value.complex .f64 0 0] n=((List.replicate n (Option.some (0,0):Way)).map cvW).toArray:=by rw [made_rep,List.map_replicate,cv00]
    have hmk2:madeCells #[Value.bool false] n=((List.replicate n false).map Value.bool).toArray:=by rw [made_rep,List.map_replicate]
    rw [hmk1] at hg1_x5
    rw [hmk2] at hg2_x5
    have hFM:FarM x5 g1 g2 T n (leaveF n L) vs (List.replicate n (Option.some (0,0))) (List.replicate n false):=⟨hg1_x5,hg2_x5,hT_x5,by omega,by constructor <;> omega,fun f m hf hm=>by have:=hO f m hf hm; constructor <;> omega⟩
    go_wp2_with fail
    go_meet
    exact ⟨g1,g2,T,vs,rfl,rfl,rfl,hFM,hp5,hsg1.1,hsg2.1,hsT2⟩
  case qx_3 =>
   intro K hK
   refine oper_make _ _ 35 rfl 4 i4 (.bool false) Try.underlying35 I4.out.1 I4.out.2.1 I4.out.2.2.1 rfl .i64 .i64 n rfl rfl (by rw [I4.out.2.2.2]; omega) (by omega) ?_
   have hy6:Ext wd (wd.alloc (.cells (madeCells #[(.bool false)] n) 4)):=(Ext.refl _).alloc _
   have hz6:=heap_alloc_new wd (.cells (madeCells #[(.bool false)] n) 4)
   obtain ⟨x6,hW6⟩:∃ W,wd.alloc (.cells (madeCells #[(.bool false)] n) 4)=W:=⟨_,rfl⟩
   obtain ⟨g2,hN6⟩:∃ m,wd.heap.size=m:=⟨_,rfl⟩
   rw [hW6] at hy6 hz6 ⊢
   rw [hN6] at hz6 ⊢
   clear hW6
   have hg2_x6:=hz6
   have hsg2:w.heap.size≤g2∧wd.heap.size=g2:=⟨by rw [← hN6]; exact hq0.size,hN6⟩
   clear hz6 hN6
   have hp6:=hq0.trans hy6
   have hzz6:=hy6.size
   refine hK.out _ _ hp6 (fun _=>?_)
   try simp only [ps]
   clear hK K
   refine wpAnyH_ready (by kernel_rfl) (by simp) (readyL (i:=1) rfl rfl ?q3_1 (readyL (i:=6) rfl rfl ?q3_6 AllReadyH.nil))
   case q3_1 =>
    intro K hK
    refine oper_make _ _ 75 rfl 84 i3 (.complex .f64 0 0) Try.underlying75 I3.out.1 I3.out.2.1 I3.out.2.2.1 rfl .i64 .i64 n rfl rfl (by rw [I3.out.2.2.2]; omega) (by omega) ?_
    have hy7:Ext x6 (x6.alloc (.cells (madeCells #[(.complex .f64 0 0)] n) 84)):=(Ext.refl _).alloc _
    have hz7:=heap_alloc_new x6 (.cells (madeCells #[(.complex .f64 0 0)] n) 84)
    obtain ⟨x7,hW7⟩:∃ W,x6.alloc (.cells (madeCells #[(.complex .f64 0 0)] n) 84)=W:=⟨_,rfl⟩
    obtain ⟨g1,hN7⟩:∃ m,x6.heap.size=m:=⟨_,rfl⟩
    rw [hW7] at hy7 hz7 ⊢
    rw [hN7] at hz7 ⊢
    clear hW7
    have hg1_x7:=hz7
    have hsg1:w.heap.size≤g1∧x6.heap.size=g1:=⟨by rw [← hN7]; exact hp6.size,hN7⟩
    clear hz7 hN7
    have hp7:=hp6.trans hy7
    have hzz7:=hy7.size
    have hg2_x7:=(hy7.block _ (heap_lt hg2_x6)).trans hg2_x6
    have hl2_7:=heap_lt hg2_x6
    refine hK.out _ _ hp7 (fun _=>?_)
    try simp only [ps]
    clear hK K
    refine runL (i:=6) rfl rfl (by kernel_rfl) (fun K hK=>?_)
    go_simp
    refine (rleaving_any n v L _ (HH.out.ext hp7) hn hn2 hL HW.out).mono ?_
    rintro e x8 ⟨T,vs,rfl,hsT,hT_x8,hy8⟩
    have hO:∀ f m,f < n→(vs.getD f undef).ownBlock=some m→T < m∧m < x8.heap.size:=fun f m hf hm=>own_lt2 (hT_x8.own f hf) hm
    have hsT2:w.heap.size≤T:=Nat.le_trans hp7.size hsT
    have hTl:=heap_lt hT_x8.row
    have hp8:=hp7.trans hy8
    have hzz8:=hy8.size
    have hg2_x8:=(hy8.block _ (heap_lt hg2_x7)).trans hg2_x7
    have hl2_8:=heap_lt hg2_x7
    have hg1_x8:=(hy8.block _ (heap_lt hg1_x7)).trans hg1_x7
    have hl1_8:=heap_lt hg1_x7
    refine hK.out _ _ hp8 (fun _=>?_)
    try simp only [ps]
    clear hK K
    refine tLp 7 ((.slice (some ⟨g1,0,none⟩) n n)) rfl hp8 ?_
    simp only [ps]
    refine tLp 8 ((.slice (some ⟨g2,0,none⟩) n n)) rfl hp8 ?_
    simp only [ps]
    refine tLp 9 ((.slice (some ⟨T,0,none⟩) n n)) rfl hp8 ?_
    simp only [ps]
    refine wpAnyH_done (by kernel_rfl) ?_ _
    have hmk1:madeCells #[Value.complex .f64 0 0] n=((List.replicate n (Option.some (0,0):Way)).map cvW).toArray:=by rw [made_rep,List.map_replicate,cv00]
    have hmk2:madeCells #[Value.bool false] n=((List.replicate n false).map Value.bool).toArray:=by rw [made_rep,List.map_replicate]
    rw [hmk1] at hg1_x8
    rw [hmk2] at hg2_x8
    have hFM:FarM x8 g1 g2 T n (leaveF n L) vs (List.replicate n (Option.some (0,0))) (List.replicate n false):=⟨hg1_x8,hg2_x8,hT_x8,by omega,by constructor <;> omega,fun f m hf hm=>by have:=hO f m hf hm; constructor <;> omega⟩
    go_wp2_with fail
    go_meet
    exact ⟨g1,g2,T,vs,rfl,rfl,rfl,hFM,hp8,hsg1.1,hsg2.1,hsT2⟩
   case q3_6 =>
    intro K hK
    go_simp
    refine (rleaving_any n v L _ (HH.out.ext hp6) hn hn2 hL HW.out).mono ?_
    rintro e x9 ⟨T,vs,rfl,hsT,hT_x9,hy9⟩
    have hO:∀ f m,f < n→(vs.getD f undef).ownBlock=some m→T < m∧m < x9.heap.size:=fun f m hf hm=>own_lt2 (hT_x9.own f hf) hm
    have hsT2:w.heap.size≤T:=Nat.le_trans hp6.size hsT
    have hTl:=heap_lt hT_x9.row
    have hp9:=hp6.trans hy9
    have hzz9:=hy9.size
    have hg2_x9:=(hy9.block _ (heap_lt hg2_x6)).trans hg2_x6
    have hl2_9:=heap_lt hg2_x6
    refine hK.out _ _ hp9 (fun _=>?_)
    try simp only [ps]
    clear hK K
    refine runL (i:=1) rfl rfl (by kernel_rfl) (fun K hK=>?_)
    refine oper_make _ _ 75 rfl 84 i3 (.complex .f64 0 0) Try.underlying75 I3.out.1 I3.out.2.1 I3.out.2.2.1 rfl .i64 .i64 n rfl rfl (by rw [I3.out.2.2.2]; omega) (by omega) ?_
    have hy10:Ext x9 (x9.alloc (.cells (madeCells #[(.complex .f64 0 0)] n) 84)):=(Ext.refl _).alloc _
    have hz10:=heap_alloc_new x9 (.cells (madeCells #[(.complex .f64 0 0)] n) 84)
    obtain ⟨x10,hW10⟩:∃ W,x9.alloc (.cells (madeCells #[(.complex .f64 0 0)] n) 84)=W:=⟨_,rfl⟩
    obtain ⟨g1,hN10⟩:∃ m,x9.heap.size=m:=⟨_,rfl⟩
    rw [hW10] at hy10 hz10 ⊢
    rw [hN10] at hz10 ⊢
    clear hW10
    have hg1_x10:=hz10
    have hsg1:w.heap.size≤g1∧x9.heap.size=g1:=⟨by rw [← hN10]; exact hp9.size,hN10⟩
    clear hz10 hN10
    have hp10:=hp9.trans hy10
    have hzz10:=hy10.size
    have hg2_x10:=(hy10.block _ (heap_lt hg2_x9)).trans hg2_x9
    have hl2_10:=heap_lt hg2_x9
    have hT_x10:=hT_x9.ext hy10
    refine hK.out _ _ hp10 (fun _=>?_)
    try simp only [ps]
    clear hK K
    refine tLp 7 ((.slice (some ⟨g1,0,none⟩) n n)) rfl hp10 ?_
    simp only [ps]
    refine tLp 8 ((.slice (some ⟨g2,0,none⟩) n n)) rfl hp10 ?_
    simp only [ps]
    refine tLp 9 ((.slice (some ⟨T,0,none⟩) n n)) rfl hp10 ?_
    simp only [ps]
    refine wpAnyH_done (by kernel_rfl) ?_ _
    have hmk1:madeCells #[Value.complex .f64 0 0] n=((List.replicate n (Option.some (0,0):Way)).map cvW).toArray:=by rw [made_rep,List.map_replicate,cv00]
    have hmk2:madeCells #[Value.bool false] n=((List.replicate n false).map Value.bool).toArray:=by rw [made_rep,List.map_replicate]
    rw [hmk1] at hg1_x10
    rw [hmk2] at hg2_x10
    have hFM:FarM x10 g1 g2 T n (leaveF n L) vs (List.replicate n (Option.some (0,0))) (List.replicate n false):=⟨hg1_x10,hg2_x10,hT_x10,by omega,by constructor <;> omega,fun f m hf hm=>by have:=hO f m hf hm; constructor <;> omega⟩
    go_wp2_with fail
    go_meet
    exact ⟨g1,g2,T,vs,rfl,rfl,rfl,hFM,hp10,hsg1.1,hsg2.1,hsT2⟩
  case qx_6 =>
   intro K hK
   go_simp
   refine (rleaving_any n v L _ (HH.out.ext hq0) hn hn2 hL HW.out).mono ?_
   rintro e x11 ⟨T,vs,rfl,hsT,hT_x11,hy11⟩
   have hO:∀ f m,f < n→(vs.getD f undef).ownBlock=some m→T < m∧m < x11.heap.size:=fun f m hf hm=>own_lt2 (hT_x11.own f hf) hm
   have hsT2:w.heap.size≤T:=Nat.le_trans hq0.size hsT
   have hTl:=heap_lt hT_x11.row
   have hp11:=hq0.trans hy11
   have hzz11:=hy11.size
   refine hK.out _ _ hp11 (fun _=>?_)
   try simp only [ps]
   clear hK K
   refine wpAnyH_ready (by kernel_rfl) (by simp) (readyL (i:=1) rfl rfl ?q6_1 (readyL (i:=3) rfl rfl ?q6_3 AllReadyH.nil))
   case q6_1 =>
    intro K hK
    refine oper_make _ _ 75 rfl 84 i3 (.complex .f64 0 0) Try.underlying75 I3.out.1 I3.out.2.1 I3.out.2.2.1 rfl .i64 .i64 n rfl rfl (by rw [I3.out.2.2.2]; omega) (by omega) ?_
    have hy12:Ext x11 (x11.alloc (.cells (madeCells #[(.complex .f64 0 0)] n) 84)):=(Ext.refl _).alloc _
    have hz12:=heap_alloc_new x11 (.cells (madeCells #[(.complex .f64 0 0)] n) 84)
    obtain ⟨x12,hW12⟩:∃ W,x11.alloc (.cells (madeCells #[(.complex .f64 0 0)] n) 84)=W:=⟨_,rfl⟩
    obtain ⟨g1,hN12⟩:∃ m,x11.heap.size=m:=⟨_,rfl⟩
    rw [hW12] at hy12 hz12 ⊢
    rw [hN12] at hz12 ⊢
    clear hW12
    have hg1_x12:=hz12
    have hsg1:w.heap.size≤g1∧x11.heap.size=g1:=⟨by rw [← hN12]; exact hp11.size,hN12⟩
    clear hz12 hN12
    have hp12:=hp11.trans hy12
    have hzz12:=hy12.size
    have hT_x12:=hT_x11.ext hy12
    refine hK.out _ _ hp12 (fun _=>?_)
    try simp only [ps]
    clear hK K
    refine tLp 7 ((.slice (some ⟨g1,0,none⟩) n n)) rfl hp12 ?_
    simp only [ps]
    refine runL (i:=3) rfl rfl (by kernel_rfl) (fun K hK=>?_)
    refine oper_make _ _ 35 rfl 4 i4 (.bool false) Try.underlying35 I4.out.1 I4.out.2.1 I4.out.2.2.1 rfl .i64 .i64 n rfl rfl (by rw [I4.out.2.2.2]; omega) (by omega) ?_
    have hy13:Ext x12 (x12.alloc (.cells (madeCells #[(.bool false)] n) 4)):=(Ext.refl _).alloc _
    have hz13:=heap_alloc_new x12 (.cells (madeCells #[(.bool false)] n) 4)
    obtain ⟨x13,hW13⟩:∃ W,x12.alloc (.cells (madeCells #[(.bool false)] n) 4)=W:=⟨_,rfl⟩
    obtain ⟨g2,hN13⟩:∃ m,x12.heap.size=m:=⟨_,rfl⟩
    rw [hW13] at hy13 hz13 ⊢
    rw [hN13] at hz13 ⊢
    clear hW13
    have hg2_x13:=hz13
    have hsg2:w.heap.size≤g2∧x12.heap.size=g2:=⟨by rw [← hN13]; exact hp12.size,hN13⟩
    clear hz13 hN13
    have hp13:=hp12.trans hy13
    have hzz13:=hy13.size
    have hT_x13:=hT_x12.ext hy13
    have hg1_x13:=(hy13.block _ (heap_lt hg1_x12)).trans hg1_x12
    have hl1_13:=heap_lt hg1_x12
    refine hK.out _ _ hp13 (fun _=>?_)
    try simp only [ps]
    clear hK K
    refine tLp 8 ((.slice (some ⟨g2,0,none⟩) n n)) rfl hp13 ?_
    simp only [ps]
    refine tLp 9 ((.slice (some ⟨T,0,none⟩) n n)) rfl hp13 ?_
    simp only [ps]
    refine wpAnyH_done (by kernel_rfl) ?_ _
    have hmk1:madeCells #[Value.complex .f64 0 0] n=((List.replicate n (Option.some (0,0):Way)).map cvW).toArray:=by rw [made_rep,List.map_replicate,cv00]
    have hmk2:madeCells #[Value.bool false] n=((List.replicate n false).map Value.bool).toArray:=by rw [made_rep,List.map_replicate]
    rw [hmk1] at hg1_x13
    rw [hmk2] at hg2_x13
    have hFM:FarM x13 g1 g2 T n (leaveF n L) vs (List.replicate n (Option.some (0,0))) (List.replicate n false):=⟨hg1_x13,hg2_x13,hT_x13,by omega,by constructor <;> omega,fun f m hf hm=>by have:=hO f m hf hm; constructor <;> omega⟩
    go_wp2_with fail
    go_meet
    exact ⟨g1,g2,T,vs,rfl,rfl,rfl,hFM,hp13,hsg1.1,hsg2.1,hsT2⟩
   case q6_3 =>
    intro K hK
    refine oper_make _ _ 35 rfl 4 i4 (.bool false) Try.underlying35 I4.out.1 I4.out.2.1 I4.out.2.2.1 rfl .i64 .i64 n rfl rfl (by rw [I4.out.2.2.2]; omega) (by omega) ?_
    have hy14:Ext x11 (x11.alloc (.cells (madeCells #[(.bool false)] n) 4)):=(Ext.refl _).alloc _
    have hz14:=heap_alloc_new x11 (.cells (madeCells #[(.bool false)] n) 4)
    obtain ⟨x14,hW14⟩:∃ W,x11.alloc (.cells (madeCells #[(.bool false)] n) 4)=W:=⟨_,rfl⟩
    obtain ⟨g2,hN14⟩:∃ m,x11.heap.size=m:=⟨_,rfl⟩
    rw [hW14] at hy14 hz14 ⊢
    rw [hN14] at hz14 ⊢
    clear hW14
    have hg2_x14:=hz14
    have hsg2:w.heap.size≤g2∧x11.heap.size=g2:=⟨by rw [← hN14]; exact hp11.size,hN14⟩
    clear hz14 hN14
    have hp14:=hp11.trans hy14
    have hzz14:=hy14.size
    have hT_x14:=hT_x11.ext hy14
    refine hK.out _ _ hp14 (fun _=>?_)
    try simp only [ps]
    clear hK K
    refine runL (i:=1) rfl rfl (by kernel_rfl) (fun K hK=>?_)
    refine oper_make _ _ 75 rfl 84 i3 (.complex .f64 0 0) Try.underlying75 I3.out.1 I3.out.2.1 I3.out.2.2.1 rfl .i64 .i64 n rfl rfl (by rw [I3.out.2.2.2]; omega) (by omega) ?_
    have hy15:Ext x14 (x14.alloc (.cells (madeCells #[(.complex .f64 0 0)] n) 84)):=(Ext.refl _).alloc _
    have hz15:=heap_alloc_new x14 (.cells (madeCells #[(.complex .f64 0 0)] n) 84)
    obtain ⟨x15,hW15⟩:∃ W,x14.alloc (.cells (madeCells #[(.complex .f64 0 0)] n) 84)=W:=⟨_,rfl⟩
    obtain ⟨g1,hN15⟩:∃ m,x14.heap.size=m:=⟨_,rfl⟩
    rw [hW15] at hy15 hz15 ⊢
    rw [hN15] at hz15 ⊢
    clear hW15
    have hg1_x15:=hz15
    have hsg1:w.heap.size≤g1∧x14.heap.size=g1:=⟨by rw [← hN15]; exact hp14.size,hN15⟩
    clear hz15 hN15
    have hp15:=hp14.trans hy15
    have hzz15:=hy15.size
    have hT_x15:=hT_x14.ext hy15
    have hg2_x15:=(hy15.block _ (heap_lt hg2_x14)).trans hg2_x14
    have hl2_15:=heap_lt hg2_x14
    refine hK.out _ _ hp15 (fun _=>?_)
    try simp only [ps]
    clear hK K
    refine tLp 7 ((.slice (some ⟨g1,0,none⟩) n n)) rfl hp15 ?_
    simp only [ps]
    refine tLp 8 ((.slice (some ⟨g2,0,none⟩) n n)) rfl hp15 ?_
    simp only [ps]
    refine tLp 9 ((.slice (some ⟨T,0,none⟩) n n)) rfl hp15 ?_
    simp only [ps]
    refine wpAnyH_done (by kernel_rfl) ?_ _
    have hmk1:madeCells #[Value.complex .f64 0 0] n=((List.replicate n (Option.some (0,0):Way)).map cvW).toArray:=by rw [made_rep,List.map_replicate,cv00]
    have hmk2:madeCells #[Value.bool false] n=((List.replicate n false).map Value.bool).toArray:=by rw [made_rep,List.map_replicate]
    rw [hmk1] at hg1_x15
    rw [hmk2] at hg2_x15
    have hFM:FarM x15 g1 g2 T n (leaveF n L) vs (List.replicate n (Option.some (0,0))) (List.replicate n false):=⟨hg1_x15,hg2_x15,hT_x15,by omega,by constructor <;> omega,fun f m hf hm=>by have:=hO f m hf hm; constructor <;> omega⟩
    go_wp2_with fail
    go_meet
    exact ⟨g1,g2,T,vs,rfl,rfl,rfl,hFM,hp15,hsg1.1,hsg2.1,hsT2⟩
 case rest =>
  obtain ⟨g1,g2,T,vs,rfl,rfl,rfl,hM,hE,hg1,hg2,hgT⟩:=hcut
  have HM0:=Lib.hid hM
  have HE0:=Lib.hid hE
  clear hM hE
  go_wp2_with fail
  go_loopw [39] (fun i wr=>∃ k:Nat,k≤n∧i=.int .i64 k∧FarM wr g1 g2 T n (leaveF n L) vs (List.replicate k Option.none ++ List.replicate (n - k) (Option.some (0,0))) (List.replicate n false)∧Ext w wr) (fun i _=>n - (intOf i).toNat)
  case atStart=>exact ⟨0,by omega,rfl,HM0.out,HE0.out⟩
  case round =>
   clear HM0 HE0
   obtain ⟨k,hk,rfl,hM,hE⟩:=hrel
   have HM:=Lib.hid hM
   have HE:=Lib.hid hE
   clear hM hE
   by_cases hlt:k < n
   ·have hl:(List.replicate k (Option.none:Way) ++ List.replicate (n - k) (Option.some (0,0))).length=n:=by simp; omega
    have HP:=Lib.hid (rep_step (Option.none:Way) (Option.some (0,0)) n k hlt)
    obtain ⟨D,hD⟩:∃ D,(List.replicate k (Option.none:Way) ++ List.replicate (n - k) (Option.some (0,0)))=D:=⟨_,rfl⟩
    rw [hD] at HM hl HP
    have hk8:k < 1000:=by omega
    clear hD
    go_wp2_with (first
     | fail
     | ((with_reducible refine at_store 84 ?_); refine st_at rfl rfl 84 _ _ rfl g1 k _ #[cvW Option.none] _ ((D.set k Option.none).map cvW).toArray _ rfl rfl rfl HM.out.way (by show k+1≤(D.map cvW).toArray.size; rw [List.size_toArray,List.length_map,hl]; exact hlt) (by kernel_rfl) rfl (way_row Option.none (by rw [hl]; exact hlt)) ?_
        intro w2 hq hm
        have HM2:=Lib.hid (HM.out.setWay hq hm)
        have HE2:=Lib.hid (Ext.mutE HE.out hm (fun m h1 h2=>by have h3:m=g1:=h2; omega))
        clear hq hm))
    go_roundw
    case rel=>exact ⟨k+1,by omega,by go_num,by rw [← HP.out]; exact HM2.out,HE2.out⟩
    case measure=>simp [intOf]; omega
   ·obtain rfl:k=n:=by omega
    have hD0:(List.replicate k (Option.none:Way) ++ List.replicate (k - k) (Option.some (0,0)))=List.replicate k Option.none:=by simp
    rw [hD0] at HM
    have hl:(List.replicate k (Option.none:Way)).length=k:=by simp
    obtain ⟨D0,hD⟩:∃ D,List.replicate k (Option.none:Way)=D:=⟨_,rfl⟩
    have HRC:=Lib.hid (show Rch k L s 0 (D0.set s (Option.some (0,0))) (List.replicate k false) s by rw [← hD]; exact Rch.zero)
    rw [hD] at HM hl
    clear hD hD0
    have h00:=cv00
    have H00:=Lib.hid h00
    clear h00
    obtain ⟨dn0,hdn0⟩:∃ d,List.replicate k false=d:=⟨_,rfl⟩
    rw [hdn0] at HM HRC
    clear hdn0
    go_wp2_with (first
     | fail
     | ((with_reducible refine at_store 84 ?_); refine st_at rfl rfl 84 _ _ rfl g1 s _ #[cvW (Option.some (0,0))] _ ((D0.set s (Option.some (0,0))).map cvW).toArray _ rfl rfl (by rw [H00.out]; rfl) HM.out.way (by show s+1≤(D0.map cvW).toArray.size; rw [List.size_toArray,List.length_map,hl]; exact hs) (by kernel_rfl) rfl (way_row _ (by rw [hl]; exact hs)) ?_
        intro w2 hq hm
        have HM2:=Lib.hid (HM.out.setWay hq hm)
        have HE2:=Lib.hid (Ext.mutE HE.out hm (fun m h1 h2=>by have h3:m=g1:=h2; omega))
        clear hq hm HM HE))
    go_loopw [11] (fun a wr=>∃ (t:Nat) (D:List Way) (dn:List Bool) (z:Int),a=.int .i64 z∧Rch k L s t D dn z∧FarM wr g1 g2 T k (leaveF k L) vs D dn∧Ext w wr) (fun _ wr=>k+1 - cnt (readB wr g2 k))
    case atStart=>exact ⟨0,_,_,s,rfl,HRC.out,HM2.out,HE2.out⟩
    case round =>
     clear HRC HM2 HE2
     obtain ⟨t,D,dn,z,rfl,hR,hM,hE⟩:=hrel
     obtain ⟨wk,hdl,hcn,hat⟩:=hR.facts hs HW.out
     have htb:=hR.bound hs HW.out
     have HR:=Lib.hid hR
     have HM:=Lib.hid hM
     have HE:=Lib.hid hE
     have HWK:=Lib.hid wk
     clear hR hM hE wk
     rcases hat with rfl | ⟨a,ha,rfl,had,⟨qa,qb⟩,haq⟩
     ·go_wp2_with fail
      go_ret
      exact ⟨g1,t,D,dn,rfl,HR.out,HM.out.way,hg1,HE.out⟩
     have ha8:a < 1000:=by omega
     have hdn2:(dn.set a true).length=k:=by rw [List.length_set]; exact hdl
     have hcn2:cnt (dn.set a true)=t+1:=by rw [cnt_set _ _ (by omega) had,hcn]
     have hown:=HM.out.rows.own a ha
     obtain ⟨av,cv,hvf⟩:=own_form2 hown
     have HOW:=Lib.hid hown
     have HVF:=Lib.hid hvf
     obtain ⟨m,hm0⟩:∃ m,(leaveF k L a).length=m:=⟨_,rfl⟩
     have hm1:m≤100000:=by rw [← hm0]; exact Nat.le_trans (leaveF_len _ _ _) hL
     have HM0:=Lib.hid hm0
     have hcT:=HM.out.cellT ha
     rw [hvf,hm0] at hcT
     have HCT:=Lib.hid hcT
     have HAQ:=Lib.hid haq
     have HAD:=Lib.hid had
     have htk:t < k:=by
      have h1:=cnt_le (dn.set a true)
      omega
     clear hown hvf hm0 hcT haq had
     have hrdb:=readB_eq HM.out.boolAt hdl
     have HRB:=Lib.hid (show k+1 - cnt (readB wr g2 k)=k+1 - t by rw [hrdb,hcn])
     clear hrdb
     go_wp2_with (first
      | fail
      | ((with_reducible refine at_store 4 ?_); refine st_at rfl rfl 4 _ _ rfl g2 a _ #[.bool true] _ ((dn.set a true).map Value.bool).toArray _ rfl rfl rfl HM.out.don (by show a+1≤(dn.map Value.bool).toArray.size; rw [List.size_toArray,List.length_map,hdl]; exact ha) (by kernel_rfl) rfl (bool_row true (by rw [hdl]; exact ha)) ?_
         intro w2 hq hm
         have HM2:=Lib.hid (HM.out.setDone hq hm)
         have HE2:=Lib.hid (Ext.mutE HE.out hm (fun m h1 h2=>by have h3:m=g2:=h2; omega))
         have cT:w2.cell? ⟨T,a,none⟩=some (.slice av m cv):=(hm.cell (p:=⟨T,a,none⟩) (heap_lt HM.out.rows.row) HM.out.nT.2).trans HCT.out
         clear hq hm))
     clear cT
     go_loopw [63] (fun i wq=>∃ j:Nat,j≤m∧i=.int .i64 j∧FarM wq g1 g2 T k (leaveF k L) vs (relA a D ((leaveF k L a).take j)) (dn.set a true)∧Ext w wq) (fun i _=>m - (intOf i).toNat)
     case atStart=>exact ⟨0,by omega,rfl,HM2.out,HE2.out⟩
     case round =>
      obtain ⟨j,hj,rfl,hMj,hEj⟩:=hrel
      have HMJ:=Lib.hid hMj
      have HEJ:=Lib.hid hEj
      clear hMj hEj
      have hlc:=leave_c HW.out a (n:=k)
      by_cases hlt2:j < m
      ·obtain ⟨h,hh⟩:∃ h,(leaveF k L a)[j]?=some h:=⟨_,List.getElem?_eq_getElem (by rw [HM0.out]; exact hlt2)⟩
       have hmem:=List.mem_of_getElem? hh
       have hcl:=hlc h hmem
       have hhw:=HW.out h (List.mem_filter.1 hmem).1
       have hok:=(List.mem_filter.1 hmem).2
       simp only [Hp.ok,Bool.and_eq_true,decide_eq_true_eq] at hok
       obtain ⟨tn,htn⟩:∃ tn:Nat,h.t=tn:=⟨h.t.toNat,by omega⟩
       obtain ⟨cn,hcn3⟩:∃ cn:Nat,h.c=cn:=⟨h.c.toNat,by have:=hhw.2.2.1; omega⟩
       have htl:tn < k:=by omega
       have htn8:tn < 1000:=by omega
       have hown2:=HMJ.out.rows.own a ha
       rw [HVF.out,HM0.out] at hown2
       obtain ⟨g,cap4,hav⟩:∃ g cap,(Value.slice av m cv)=.slice (some ⟨g,0,none⟩) m cap:=by
        rcases hown2.2 with ⟨e,e2⟩ | ⟨g,cap,cur,e,-⟩
        ·omega
        ·exact ⟨g,cap,e⟩
       cases hav
       have hrg0:=own_range hown2
       have hcvm:m≤cv∧cv≤9223372036854775807:=by
        rcases hown2.2 with ⟨e,-⟩ | ⟨g5,cap5,cur5,e,-,-,e5,e6,-⟩
        ·cases e
        ·cases e
         unfold maxLen at e6
         exact ⟨e5,by omega⟩
       have HRG:=Lib.hid (show wr.rangeAt g (j*3) [.int .i64 h.f,.int .i64 h.t,.int .u32 h.c] from by
        have hx:h.L=[.int .i64 h.f,.int .i64 h.t,.int .u32 h.c]:=rfl
        rw [← hx,← flatH_at _ j h hh]
        intro i u hu
        rw [List.getElem?_take] at hu
        split at hu
        ·rw [List.getElem?_drop] at hu
         have:=hrg0 _ _ hu
         rw [Nat.zero_add] at this
         exact this
        ·cases hu)
       have HDS:=Lib.hid (show relA a D ((leaveF k L a).take (j+1))=rel1 a (relA a D ((leaveF k L a).take j)) h by
        rw [List.take_add_one,hh]
        exact relA_snoc _ _ _ _)
       have hself:=relA_self ((leaveF k L a).take j) D HAQ.out
       have hsm:=HWK.out.small a qa qb HAQ.out
       have hsm2:=relA_small hsm ((leaveF k L a).take j) D (fun x hx=>hlc x (List.mem_of_mem_take hx)) HAQ.out (fun i x y hi=>by have:=HWK.out.small i x y hi; omega)
       have hDl:(relA a D ((leaveF k L a).take j)).length=k:=by rw [relA_len]; exact HWK.out.len
       obtain ⟨D2,hD2⟩:∃ D2,relA a D ((leaveF k L a).take j)=D2:=⟨_,rfl⟩
       rw [hD2] at HMJ HDS hself hsm2 hDl
       have hf1:qa+cn < 2 ^ 53∧qb+1 < 2 ^ 53:=by
        have h1:cn≤4294967295:=by omega
        constructor <;> omega
       obtain ⟨p,hp⟩:∃ p,D2.getD tn Option.none=p:=⟨_,rfl⟩
       have hpf:p.fits:=by
        cases p with
        | none=>trivial
        | some q =>
         obtain ⟨x,y⟩:=q
         have:=hsm2 tn x y hp
         exact ⟨by show x < 2 ^ 53; omega,by show y < 2 ^ 53; omega⟩
       have w1:=HMJ.out.wayAt.2 a (by omega)
       have w2c:=HMJ.out.wayAt.2 tn (by omega)
       rw [hself] at w1
       rw [hp] at w2c
       obtain ⟨b,hb⟩:∃ b,shW (qa+cn) (qb+1) p=b:=⟨_,rfl⟩
       have HDN:=Lib.hid (show relA a D ((leaveF k L a).take (j+1))=if b=true then D2.set tn (Option.some (qa+cn,qb+1)) else D2 by
        rw [HDS.out]
        unfold rel1
        rw [hself,htn,hcn3]
        dsimp only
        rw [Int.toNat_natCast,Int.toNat_natCast,hp,hb])
       have HADD:=Lib.hid (fun w:World=>radd_run (P:=Try.prog) w 84 qa qb cn 1 hf1.1 hf1.2)
       have HLEN:=Lib.hid (fun w:World=>by have h:=rlen_any (cn:Int) w (by omega); rw [Int.toNat_natCast] at h; exact h)
       have HSH:=Lib.hid (fun w:World=>by have h:=rshorter_any (qa+cn) (qb+1) p w hf1.1 hf1.2 hpf; rw [hb] at h; exact h)
       obtain ⟨x1,hx1⟩:∃ x,cvW (Option.some (qa,qb))=x:=⟨_,rfl⟩
       obtain ⟨x2,hx2⟩:∃ x,cvW (Option.some (cn,1))=x:=⟨_,rfl⟩
       obtain ⟨x3,hx3⟩:∃ x,cvW (Option.some (qa+cn,qb+1))=x:=⟨_,rfl⟩
       obtain ⟨x4,hx4⟩:∃ x,cvW p=x:=⟨_,rfl⟩
       have HX3:=Lib.hid hx3
       rw [hx1] at w1 HADD
       rw [hx2] at HADD HLEN
       rw [hx3] at HADD HSH
       rw [hx4] at w2c HSH
       have W1:=Lib.hid w1
       have W2:=Lib.hid w2c
       clear hh hmem hcl hok hown2 hrg0 HDS hself hsm hsm2 hD2 hp hpf hb hx1 hx2 hx3 hx4 w1 w2c hlc
       have hzh:=HZH.out
       have hg1l:=Lib.hid (heap_lt HMJ.out.way)
       rw [htn] at HRG
       rw [hcn3] at HRG
       go_upto_region 17 with (first
        | fail
        | ((with_reducible refine at_load 100 ?_); refine wpList_load_mid rfl 100 _ rfl g (j*3) rfl [.int .i64 h.f,.int .i64 (tn:Int),.int .u32 (cn:Int)] _ HRG.out Try.underlying100 rfl (by kernel_rfl) ?_)
        | ((with_reducible refine at_store 100 ?_); refine wpList_store_new3 rfl rfl 100 _ _ _ rfl HZ #[.int .i64 h.f,.int .i64 (tn:Int),.int .u32 (cn:Int)] _ rfl ?_ rfl (by kernel_rfl) rfl rfl ?_; · rfl
           intro z1 hz1
           have hy1:Ext wr z1:=by rw [hz1]; exact (Ext.refl _).alloc _
           have hq:=heap_alloc_new wr (.cells #[.int .i64 h.f,.int .i64 (tn:Int),.int .u32 (cn:Int)] 100)
           rw [← hz1] at hq
           obtain ⟨H0,hH0⟩:∃ m,wr.heap.size=m:=⟨_,rfl⟩
           rw [hH0] at hq ⊢
           have HQ:=Lib.hid hq
           have HE1:=Lib.hid (HEJ.out.trans hy1)
           have HM1:=Lib.hid (HMJ.out.ext hy1)
           have W1z:=Lib.hid ((hy1.cell (p:=⟨g1,a,none⟩) hg1l.out).trans W1.out)
           have W2z:=Lib.hid ((hy1.cell (p:=⟨g1,tn,none⟩) hg1l.out).trans W2.out)
           have hgz:g1 < z1.heap.size:=Nat.lt_of_lt_of_le hg1l.out hy1.size
           have hHz:H0 < z1.heap.size:=heap_lt hq
           have c1:z1.cell? ⟨H0,1,none⟩=some (.int .i64 (tn:Int)):=(cell_of_row _ _ _ _ _ _ hq).trans rfl
           have c2:z1.cell? ⟨H0,2,none⟩=some (.int .u32 (cn:Int)):=(cell_of_row _ _ _ _ _ _ hq).trans rfl
           clear hz1 hy1 hq hH0))
       have w1:=W1z.out
       have hadd:=HADD.out
       refine beginL (S:=fun W'=>Ext z1 W') (by kernel_rfl) ?_
       intro wd hqx
       have hq0:Ext z1 wd:=hqx
       refine tLp 0 ((.slice (some ⟨g1,0,none⟩) k k)) rfl hq0 ?_
       simp only [ps]
       refine tLp 1 ((.int .i64 (a:Int))) rfl hq0 ?_
       simp only [ps]
       refine tL 2 ((.pointer (some ⟨g1,a,none⟩))) rfl (Or.inl ⟨rfl,fun W' _=>by go_simp⟩) hq0 ?_
       simp only [ps]
       refine tL 3 (_) rfl (yieldsIf_cell rfl 84 _ rfl ⟨g1,a,none⟩ rfl x1 _ (fun W' hW'=>(hW'.cell (p:=⟨g1,a,none⟩) hgz).trans w1) Try.underlying84 rfl) hq0 ?_
       simp only [ps]
       refine tLp 4 ((.pointer (some ⟨H0,2,none⟩))) rfl hq0 ?_
       simp only [ps]
       refine tL 5 (_) rfl (yieldsIf_cell rfl 54 _ rfl ⟨H0,2,none⟩ rfl (.int .u32 (cn:Int)) _ (fun W' hW'=>(hW'.cell (p:=⟨H0,2,none⟩) hHz).trans c2) Try.underlying54 rfl) hq0 ?_
       simp only [ps]
       refine runL (i:=6) rfl rfl (by kernel_rfl) (fun K hK=>?_)
       go_simp
       refine (HLEN.out _).mono ?_
       rintro e wc1 ⟨rfl,hx9⟩
       have hq1:=hq0.trans (by rw [hx9]; exact Ext.refl _)
       refine hK.out _ _ hq1 (fun hHeld=>?_)
       try simp only [ps]
       clear hK K hHeld
       refine tL 7 (x3) rfl (Or.inl ⟨rfl,fun W' _=>by go_simp⟩) hq1 ?_
       simp only [ps]
       refine tLp 8 (x3) rfl hq1 ?_
       simp only [ps]
       refine wpAnyH_done (by kernel_rfl) ?_ _
       have w1b:=(hq1.cell (p:=⟨g1,tn,none⟩) hgz).trans W2z.out
       have HM3:=Lib.hid (HM1.out.ext hq1)
       have HE3:=Lib.hid (HE1.out.trans hq1)
       have c1b:=(hq1.cell (p:=⟨H0,1,none⟩) hHz).trans c1
       generalize wc1=z3 at *
       clear w1 c1 c2 hzh hadd
       go_wp2_with fail
       refine (HSH.out _).mono ?_
       rintro e z4 ⟨rfl,rfl⟩
       cases b
       ·have HV:=Lib.hid (show relA a D ((leaveF k L a).take (j+1))=D2 from HDN.out)
        go_wp2_with fail
        go_roundw
        case rel=>exact ⟨j+1,by omega,by go_num,by rw [HV.out]; exact HM3.out,HE3.out⟩
        case measure=>simp [intOf]; omega
       ·have HV:=Lib.hid (show relA a D ((leaveF k L a).take (j+1))=D2.set tn (Option.some (qa+cn,qb+1)) from HDN.out)
        have HXC:=Lib.hid (show x3.cells=#[cvW (Option.some (qa+cn,qb+1))] by rw [← HX3.out]; exact cvW_cells _)
        go_wp2_with (first
         | fail
         | ((with_reducible refine at_store 84 ?_); refine st_at rfl rfl 84 _ _ rfl g1 tn _ #[cvW (Option.some (qa+cn,qb+1))] _ ((D2.set tn (Option.some (qa+cn,qb+1))).map cvW).toArray _ rfl rfl HXC.out HM3.out.way (by show tn+1≤(D2.map cvW).toArray.size; rw [List.size_toArray,List.length_map,hDl]; exact htl) (by kernel_rfl) rfl (way_row _ (by rw [hDl]; exact htl)) ?_
            intro w5 hq hm
            have HM5:=Lib.hid (HM3.out.setWay hq hm)
            have HE5:=Lib.hid (Ext.mutE HE3.out hm (fun m h1 h2=>by have h3:m=g1:=h2; omega))
            clear hq hm))
        go_roundw
        case rel=>exact ⟨j+1,by omega,by go_num,by rw [HV.out]; exact HM5.out,HE5.out⟩
        case measure=>simp [intOf]; omega
      ·obtain rfl:j=m:=by omega
       have hT:(leaveF k L a).take j=leaveF k L a:=List.take_of_length_le (by rw [HM0.out]; exact Nat.le_refl _)
       rw [hT] at HMJ
       have HST:=Lib.hid (Rch.step HR.out ha)
       have hff:=HST.out.facts hs HW.out
       have hbd:=HST.out.bound hs HW.out
       have hnear:=Lib.hid (rnearest_any g1 g2 _ _ k k k wr HMJ.out.wayAt HMJ.out.boolAt hff.1.len hff.2.1 hn2 (Nat.le_refl _) (Nat.le_refl _) (by omega) (by omega) (fun i=>hff.1.fits (by omega) i))
       have hrd2:=readB_eq HMJ.out.boolAt hff.2.1
       have HRB2:=Lib.hid (show k+1 - cnt (readB wr g2 k)=k+1 - (t+1) by rw [hrd2,hff.2.2.1])
       clear hff hrd2 hT
       go_wp2_with fail
       refine hnear.out.mono ?_
       rintro e z9 ⟨rfl,rfl⟩
       go_wp2_with fail
       go_roundw
       case rel=>exact ⟨t+1,_,_,_,rfl,HST.out,HMJ.out,HEJ.out⟩
       case measure =>
        rw [HRB2.out,HRB.out]
        omega
end Go.Proofs.Ytamnmjckhicapaa
namespace Go.Proofs.Ytamnmjckhicapaa
open Go.RowKit Go.BigFrame Go.WideShapes Go.ChangeShapes Go.Deep
set_option linter.unusedVariables false
set_option linter.unusedSimpArgs false
set_option maxRecDepth 100000
def Le (x y:Nat × Nat):Prop:=x.1 < y.1∨(x.1=y.1∧x.2≤y.2)
theorem Le.rfl' {x:Nat × Nat}:Le x x:=.inr ⟨rfl,Nat.le_refl _⟩
theorem Le.trans {x y z:Nat × Nat} (h:Le x y) (k:Le y z):Le x z:=by unfold Le at *; omega
theorem Le.total {x y:Nat × Nat} (h:¬ Le x y):Le y x:=by unfold Le at *; omega
def hopW (q:Nat × Nat) (h:Hp):Nat × Nat:=(q.1+h.c.toNat,q.2+1)
theorem le_hop (q:Nat × Nat) (h:Hp):Le q (hopW q h):=by unfold Le hopW; dsimp only; omega
theorem ltW_iff {a b c d:Nat}:ltW a b c d=true↔¬ Le (c,d) (a,b):=by
 unfold ltW Le
 simp only [Bool.or_eq_true,decide_eq_true_eq,Bool.and_eq_true,beq_iff_eq]
 omega
theorem nearF_min (D:List Way) (dn:List Bool):∀ i,(nearF D dn i=-1→∀ j,j < i→dn.getD j false=false→D.getD j Option.none=Option.none) ∧
    (∀ k:Nat,nearF D dn i=k→∀ q,D.getD k Option.none=Option.some q→∀ j,j < i→dn.getD j false=false→∀ x,D.getD j Option.none=Option.some x→Le q x)
 | 0=>⟨fun _ j hj=>by omega,fun k hk=>by unfold nearF at hk; omega⟩
 | i+1=>by
  obtain ⟨ih1,ih2⟩:=nearF_min D dn i
  have hrg:=nearF_rg D dn i
  unfold nearF
  by_cases hb:nearB D dn (nearF D dn i) i=true
  ·rw [if_pos hb]
   refine ⟨fun h=>by omega,fun k hk q hq j hj hd x hx=>?_⟩
   obtain rfl:k=i:=by omega
   unfold nearB at hb
   rw [hq] at hb
   by_cases e:j=k
   ·subst e
    rw [hq] at hx
    cases hx
    exact Le.rfl'
   ·rcases hrg with h | ⟨m,hm,hme,hmd,⟨⟨a,b⟩,hr⟩⟩
    ·rw [ih1 h j (by omega) hd] at hx
     cases hx
    ·have h1:=ih2 m hme _ hr j (by omega) hd x hx
     obtain ⟨qa,qb⟩:=q
     rw [hme,Int.toNat_natCast,hr] at hb
     simp only [Bool.and_eq_true,Bool.or_eq_true,decide_eq_true_eq] at hb
     rcases hb.2 with h2 | h2
     ·omega
     ·exact (Le.total (ltW_iff.1 h2)).trans h1
  ·rw [if_neg hb]
   refine ⟨fun h j hj hd=>?_,fun k hk q hq j hj hd x hx=>?_⟩
   ·by_cases e:j=i
    ·subst e
     unfold nearB at hb
     rw [hd,h] at hb
     cases hx:D.getD j Option.none with
     | none=>rfl
     | some y=>rw [hx] at hb; simp at hb
    ·exact ih1 h j (by omega) hd
   ·by_cases e:j=i
    ·subst e
     obtain ⟨qa,qb⟩:=q
     obtain ⟨xa,xb⟩:=x
     unfold nearB at hb
     rw [hd,hx,hk,Int.toNat_natCast,hq] at hb
     have h2:¬ ltW xa xb qa qb=true:=fun h=>hb (by simp [h])
     exact Classical.not_not.1 (fun h=>h2 (ltW_iff.2 h))
    ·exact ih2 k hk q hq j (by omega) hd x hx
theorem rel1_spec {k:Nat} {D:List Way} {h:Hp} {q:Nat × Nat} (hq:D.getD k Option.none=Option.some q) (ht:h.t.toNat < D.length) :
    (∀ i,(rel1 k D h).getD i Option.none=D.getD i Option.none∨(h.t.toNat=i∧(rel1 k D h).getD i Option.none=Option.some (hopW q h)∧∀ x,D.getD i Option.none=Option.some x→¬ Le x (hopW q h))) ∧
    ∃ y,(rel1 k D h).getD h.t.toNat Option.none=Option.some y∧Le y (hopW q h):=by
 obtain ⟨a,b⟩:=q
 unfold rel1
 rw [hq]
 dsimp only
 by_cases hs:shW (a+h.c.toNat) (b+1) (D.getD h.t.toNat Option.none)=true
 ·rw [if_pos hs]
  refine ⟨fun i=>?_,_,by rw [getD_setW,if_pos ⟨rfl,ht⟩]; rfl,Le.rfl'⟩
  rw [getD_setW]
  by_cases e:h.t.toNat=i
  ·subst e
   refine .inr ⟨rfl,by rw [if_pos ⟨rfl,ht⟩]; rfl,fun x hx=>?_⟩
   rw [hx] at hs
   exact ltW_iff.1 hs
  ·rw [if_neg (fun h=>e h.1)]
   exact .inl rfl
 ·rw [if_neg hs]
  refine ⟨fun i=>.inl rfl,?_⟩
  cases hx:D.getD h.t.toNat Option.none with
  | none=>rw [hx] at hs; exact absurd rfl hs
  | some y =>
   rw [hx] at hs
   exact ⟨y,rfl,Classical.not_not.1 (fun h=>hs (ltW_iff.2 h))⟩
theorem relA_spec {k:Nat} {q:Nat × Nat}:∀ (hs:List Hp) (D:List Way),D.getD k Option.none=Option.some q→(∀ h ∈ hs,h.t.toNat < D.length) →
    (∀ i,(relA k D hs).getD i Option.none=D.getD i Option.none∨∃ h ∈ hs,h.t.toNat=i∧(relA k D hs).getD i Option.none=Option.some (hopW q h)∧∀ x,D.getD i Option.none=Option.some x→¬ Le x (hopW q h)) ∧
    ∀ h ∈ hs,∃ y,(relA k D hs).getD h.t.toNat Option.none=Option.some y∧Le y (hopW q h)
 | [],D,_,_=>⟨fun i=>.inl rfl,fun h hh=>by cases hh⟩
 | h :: hs,D,hq,ht=>by
  obtain ⟨s1,y1,hy1,l1⟩:=rel1_spec hq (ht h List.mem_cons_self)
  obtain ⟨t1,t2⟩:=relA_spec hs (rel1 k D h) (rel1_self hq) (fun x hx=>by rw [rel1_len]; exact ht x (List.mem_cons_of_mem _ hx))
  have e:relA k D (h :: hs)=relA k (rel1 k D h) hs:=rfl
  rw [e]
  refine ⟨fun i=>?_,fun x hx=>?_⟩
  ·rcases t1 i with h1 | ⟨g,hg,hgi,hgv,hgx⟩
   ·rw [h1]
    rcases s1 i with h2 | ⟨h2,h3,h4⟩
    ·exact .inl h2
    ·exact .inr ⟨h,List.mem_cons_self,h2,h3,h4⟩
   ·refine .inr ⟨g,List.mem_cons_of_mem _ hg,hgi,hgv,fun x hx=>?_⟩
    rcases s1 i with h2 | ⟨h2,h3,h4⟩
    ·exact hgx x (h2.trans hx)
    ·intro hl
     exact h4 x hx (hl.trans (Le.total (hgx _ h3)))
  ·rcases List.mem_cons.1 hx with rfl | hx
   ·rcases t1 x.t.toNat with h1 | ⟨g,hg,hgi,hgv,hgx⟩
    ·exact ⟨y1,h1.trans hy1,l1⟩
    ·exact ⟨_,hgv,(Le.total (hgx _ hy1)).trans l1⟩
   ·exact t2 x hx
structure DInv (n:Nat) (L:List Hp) (s:Nat) (D:List Way) (dn:List Bool):Prop where
 len:D.length=n
 dl:dn.length=n
 src:D.getD s Option.none=Option.some (0,0)
 rch:∀ k,dn.getD k false=true→∃ q,D.getD k Option.none=Option.some q
 rel:∀ k q,dn.getD k false=true→D.getD k Option.none=Option.some q→∀ h ∈ leaveF n L k,∃ y,D.getD h.t.toNat Option.none=Option.some y∧Le y (hopW q h)
 ord:∀ k j a b,dn.getD k false=true→dn.getD j false=false→D.getD k Option.none=Option.some a→D.getD j Option.none=Option.some b→Le a b
 att:∀ i q,i ≠ s→D.getD i Option.none=Option.some q→∃ k h p,dn.getD k false=true∧h ∈ leaveF n L k∧h.t.toNat=i∧D.getD k Option.none=Option.some p∧q=hopW p h
theorem leave_ok {n:Nat} {L:List Hp} {k:Nat} {h:Hp} (hh:h ∈ leaveF n L k):h ∈ L∧h.ok n=true∧h.f=k:=by
 obtain ⟨h1,h2⟩:=List.mem_filter.1 hh
 rw [Bool.and_eq_true] at h2
 exact ⟨h1,h2.1,by simpa using h2.2⟩
theorem ok_t {n:Nat} {h:Hp} (hk:h.ok n=true):(0≤h.f∧h.f < n)∧(0≤h.t∧h.t < n):=by
 simp only [Hp.ok,Bool.and_eq_true,decide_eq_true_eq] at hk
 omega
theorem getD_setB {l:List Bool} {i j:Nat} (hi:i < l.length):(l.set i true).getD j false=if i=j then true else l.getD j false:=by
 simp only [List.getD_eq_getElem?_getD,List.getElem?_set]
 by_cases e:i=j
 ·subst e
  rw [if_pos rfl,if_pos hi,if_pos rfl]
  rfl
 ·rw [if_neg e,if_neg e]
theorem DInv.step {n:Nat} {L:List Hp} {s:Nat} {D:List Way} {dn:List Bool} {k:Nat} {q:Nat × Nat} (h:DInv n L s D dn) (hk:k < n) (hd:dn.getD k false=false) (hq:D.getD k Option.none=Option.some q)
    (hmin:∀ j,dn.getD j false=false→∀ x,D.getD j Option.none=Option.some x→Le q x):DInv n L s (relA k D (leaveF n L k)) (dn.set k true):=by
 obtain ⟨s1,s2⟩:=relA_spec (leaveF n L k) D hq (fun g hg=>by
  have:=ok_t (leave_ok hg).2.1
  rw [h.len]
  omega)
 have hself:=relA_self (leaveF n L k) D hq
 have hdn:∀ j,(dn.set k true).getD j false=if k=j then true else dn.getD j false:=fun j=>getD_setB (by rw [h.dl]; exact hk)
 have hmono:∀ i x,D.getD i Option.none=Option.some x→∃ y,(relA k D (leaveF n L k)).getD i Option.none=Option.some y∧Le y x:=fun i x hx=>by
  rcases s1 i with h1 | ⟨g,-,-,hv,hl⟩
  ·exact ⟨x,h1.trans hx,Le.rfl'⟩
  ·exact ⟨_,hv,Le.total (hl x hx)⟩
 have hfix:∀ j,dn.getD j false=true→(relA k D (leaveF n L k)).getD j Option.none=D.getD j Option.none:=fun j hj=>by
  rcases s1 j with h1 | ⟨g,-,-,hv,hl⟩
  ·exact h1
  ·obtain ⟨x,hx⟩:=h.rch j hj
   exact absurd ((h.ord j k x q hj hd hx hq).trans (le_hop q g)) (hl x hx)
 refine ⟨by rw [relA_len]; exact h.len,by rw [List.length_set]; exact h.dl,?_,fun j hj=>?_,fun j x hj hx g hg=>?_,fun j i a b hj hi ha hb=>?_,fun i r his hr=>?_⟩
 ·obtain ⟨y,hy,hl⟩:=hmono s _ h.src
  rw [hy]
  obtain ⟨y1,y2⟩:=y
  unfold Le at hl
  dsimp only at hl
  congr 2 <;> omega
 ·rw [hdn] at hj
  by_cases e:k=j
  ·subst e; exact ⟨q,hself⟩
  ·rw [if_neg e] at hj
   obtain ⟨x,hx⟩:=h.rch j hj
   exact ⟨x,(hfix j hj).trans hx⟩
 ·rw [hdn] at hj
  by_cases e:k=j
  ·subst e
   rw [hself] at hx
   cases hx
   exact s2 g hg
  ·rw [if_neg e] at hj
   rw [hfix j hj] at hx
   obtain ⟨y,hy,hl⟩:=h.rel j x hj hx g hg
   obtain ⟨y2,hy2,hl2⟩:=hmono _ y hy
   exact ⟨y2,hy2,hl2.trans hl⟩
 ·rw [hdn] at hj hi
  have hki:¬ k=i:=fun e=>by rw [if_pos e] at hi; cases hi
  rw [if_neg hki] at hi
  have haq:Le a q:=by
   by_cases e:k=j
   ·subst e
    rw [hself] at ha
    cases ha
    exact Le.rfl'
   ·rw [if_neg e] at hj
    rw [hfix j hj] at ha
    exact h.ord j k a q hj hd ha hq
  rcases s1 i with h1 | ⟨g,-,-,hv,hl⟩
  ·exact haq.trans (hmin i hi b (h1.symm.trans hb))
  ·rw [hv] at hb
   cases hb
   exact haq.trans (le_hop q g)
 ·rcases s1 i with h1 | ⟨g,hg,hgi,hv,hl⟩
  ·obtain ⟨j,g,p,hj,hg,hgi,hp,e⟩:=h.att i r his (h1.symm.trans hr)
   have hkj:¬ k=j:=fun e=>by rw [e,hj] at hd; cases hd
   exact ⟨j,g,p,by rw [hdn,if_neg hkj]; exact hj,hg,hgi,(hfix j hj).trans hp,e⟩
  ·rw [hv] at hr
   cases hr
   exact ⟨k,g,q,by rw [hdn,if_pos rfl],hg,hgi,hself,rfl⟩
theorem Rch.inv {n:Nat} {L:List Hp} {s t:Nat} {D:List Way} {dn:List Bool} {z:Int} (h:Rch n L s t D dn z) (hs:s < n) :
    DInv n L s D dn∧((z=-1∧∀ j,j < n→dn.getD j false=false→D.getD j Option.none=Option.none)∨∃ k:Nat,z=k∧k < n∧dn.getD k false=false∧∃ q,D.getD k Option.none=Option.some q∧∀ j,dn.getD j false=false→∀ x,D.getD j Option.none=Option.some x→Le q x):=by
 induction h with
 | zero =>
  have h0:∀ i,((List.replicate n (Option.none:Way)).set s (Option.some (0,0))).getD i Option.none=if s=i then Option.some (0,0) else Option.none:=fun i=>by
   rw [getD_setW]
   by_cases e:s=i
   ·rw [if_pos ⟨e,by simpa using hs⟩,if_pos e]
   ·rw [if_neg (fun h=>e h.1),if_neg e]
    simp only [List.getD_eq_getElem?_getD,List.getElem?_replicate]
    split <;> rfl
  have hd0:∀ i,(List.replicate n false).getD i false=false:=fun i=>by
   simp only [List.getD_eq_getElem?_getD,List.getElem?_replicate]
   split <;> rfl
  refine ⟨⟨by simp,by simp,by rw [h0,if_pos rfl],fun k hk=>absurd ((hd0 k).symm.trans hk) (by decide),fun k q hk=>absurd ((hd0 k).symm.trans hk) (by decide),fun k j a b hk=>absurd ((hd0 k).symm.trans hk) (by decide),fun i q his hi=>absurd (((h0 i).trans (if_neg (Ne.symm his))).symm.trans hi) (by simp)⟩,.inr ⟨s,rfl,hs,hd0 s,(0,0),by rw [h0,if_pos rfl],fun j _ x hx=>?_⟩⟩
  rw [h0] at hx
  split at hx
  ·cases hx; exact Le.rfl'
  ·cases hx
 | step hr hk ih =>
  rename_i t D dn k
  obtain ⟨hi,h2⟩:=ih
  rcases h2 with ⟨h2,-⟩ | ⟨k2,e,-,hd,q,hq,hmin⟩
  ·omega
  ·obtain rfl:k=k2:=by omega
   have hn:=hi.step hk hd hq hmin
   refine ⟨hn,?_⟩
   obtain ⟨m1,m2⟩:=nearF_min (relA k D (leaveF n L k)) (dn.set k true) n
   rcases nearF_rg (relA k D (leaveF n L k)) (dn.set k true) n with h3 | ⟨m,hm,hme,hmd,r,hr⟩
   ·exact .inl ⟨h3,m1 h3⟩
   ·refine .inr ⟨m,hme,hm,hmd,r,hr,fun j hj x hx=>m2 m hme r hr j ?_ hj x hx⟩
    rcases Nat.lt_or_ge j n with h4 | h4
    ·exact h4
    ·rw [List.getD_eq_getElem?_getD,List.getElem?_eq_none (by rw [hn.len]; exact h4)] at hx
     cases hx
structure Fin (n:Nat) (L:List Hp) (s:Nat) (D:List Way):Prop where
 len:D.length=n
 src:D.getD s Option.none=Option.some (0,0)
 rel:∀ h ∈ L,h.ok n=true→∀ q,D.getD h.f.toNat Option.none=Option.some q→∃ y,D.getD h.t.toNat Option.none=Option.some y∧Le y (hopW q h)
 att:∀ i q,i ≠ s→D.getD i Option.none=Option.some q→∃ h ∈ L,h.ok n=true∧h.t.toNat=i∧∃ p,D.getD h.f.toNat Option.none=Option.some p∧q=hopW p h
theorem Rch.fin {n:Nat} {L:List Hp} {s t:Nat} {D:List Way} {dn:List Bool} (h:Rch n L s t D dn (-1)) (hs:s < n):Fin n L s D:=by
 obtain ⟨hi,h2⟩:=h.inv hs
 rcases h2 with ⟨-,h2⟩ | ⟨k,e,-⟩
 ·refine ⟨hi.len,hi.src,fun g hg hok q hq=>?_,fun i q his hiq=>?_⟩
  ·have hrg:=ok_t hok
   refine hi.rel g.f.toNat q ?_ hq g (List.mem_filter.2 ⟨hg,by rw [hok,Bool.true_and]; simp; omega⟩)
   cases hd:dn.getD g.f.toNat false
   ·rw [h2 _ (by omega) hd] at hq
    cases hq
   ·rfl
  ·obtain ⟨k,g,p,hk,hg,hgi,hp,e⟩:=hi.att i q his hiq
   obtain ⟨h1,h3,h4⟩:=leave_ok hg
   exact ⟨g,h1,h3,hgi,p,by rw [h4,Int.toNat_natCast]; exact hp,e⟩
 ·omega
inductive Walk (n:Nat) (L:List Hp) (s:Nat):Nat→Nat × Nat→Prop
 | here:Walk n L s s (0,0)
 | hop {i:Nat} {q:Nat × Nat} {h:Hp}:Walk n L s i q→h ∈ L→h.ok n=true→h.f=i→Walk n L s h.t.toNat (hopW q h)
theorem Fin.least {n:Nat} {L:List Hp} {s:Nat} {D:List Way} (h:Fin n L s D) {i:Nat} {q:Nat × Nat} (hw:Walk n L s i q):∃ y,D.getD i Option.none=Option.some y∧Le y q:=by
 induction hw with
 | here=>exact ⟨_,h.src,Le.rfl'⟩
 | @hop i q g _ h1 h2 h3 ih =>
  obtain ⟨y,hy,hl⟩:=ih
  obtain ⟨z,hz,hl2⟩:=h.rel g h1 h2 y (by rw [h3,Int.toNat_natCast]; exact hy)
  refine ⟨z,hz,hl2.trans ?_⟩
  unfold Le hopW at *
  dsimp only
  omega
theorem Fin.walk {n:Nat} {L:List Hp} {s:Nat} {D:List Way} (h:Fin n L s D):∀ (m i:Nat) (q:Nat × Nat),q.2≤m→D.getD i Option.none=Option.some q→Walk n L s i q
 | m,i,q,hm,hq=>by
  by_cases e:i=s
  ·subst e
   rw [h.src] at hq
   cases hq
   exact .here
  ·obtain ⟨g,h1,h2,h3,p,hp,e2⟩:=h.att i q e hq
   cases m with
   | zero=>rw [e2] at hm; unfold hopW at hm; simp at hm
   | succ m =>
    have:=h.walk m g.f.toNat p (by rw [e2] at hm; unfold hopW at hm; dsimp only at hm; omega) hp
    have hk:=ok_t h2
    rw [← h3,e2]
    exact .hop this h1 h2 (by omega)
end Go.Proofs.Ytamnmjckhicapaa
namespace Go.Proofs.Ytamnmjckhicapaa
open Go.RowKit Go.BigFrame Go.WideShapes Go.ChangeShapes Go.Deep
set_option linter.unusedVariables false
set_option linter.unusedSimpArgs false
set_option maxRecDepth 100000
section
variable {P:Program} {ops:Array Oper} {Q:Exit→Act→World→Prop} {md:Region.Mode} {S:World→Prop} {z:Nat}
theorem wpAnyZ_first0 {i:Nat} {oi:Oper} {v:Value} (hi:ops[i]?=some oi) (hne:z ≠ i)
    (hsel:∀ (j:Nat) (o:Oper) cs b,ops[j]?=some o→o.op ≠ .select cs b) (hQ:∀ c a w,Q (.panic c) (a.put oi.dst v) w→Q (.panic c) a w) :
    ∀ (fuel:Nat) (listed:Array Bool) (a:Act) (w:World),
     (∀ j oj,ops[j]?=some oj→j ≠ i→listed.getD j true=false→(∀ e ∈ oj.after,Region.binds md e=true→e.on ≠ i)→oi.apart ops oj=true) →
     i ∈ Region.ready md ops listed→YieldsIf P ops (fun _=>True) oi v a→(listed.getD z true=false→S w) →
     wpAnyZ P md ops Q S z fuel (listed.setIfInBounds i true) (a.put oi.dst v) w→wpAnyZ P md ops Q S z (fuel+1) listed a w:=by
 have same:∀ (l:Array Bool),(l.setIfInBounds i true).getD z true=false→l.getD z true=false:=fun l h=>by
  rw [getD_set_ne true (Ne.symm hne)] at h; exact h
 have same':∀ (l:Array Bool),l.getD z true=false→(l.setIfInBounds i true).getD z true=false:=fun l h=>by
  rw [getD_set_ne true (Ne.symm hne)]; exact h
 intro fuel
 induction fuel with
 | zero =>
  intro listed a w _ hr hy hS H
  refine ⟨fun h=>(by rw [h] at hr; cases hr),fun j hj=>?_⟩
  by_cases hji:j=i
  ·subst hji; exact hy.wpOp hi trivial ⟨fun h=>hS (same _ h),H⟩
  ·have:=ready_mono hj hji
   rw [H.1] at this
   cases this
 | succ fuel ih =>
  intro listed a w hfree hr hy hS H
  refine ⟨fun h=>(by rw [h] at hr; cases hr),fun j hj=>?_⟩
  by_cases hji:j=i
  ·subst hji; exact hy.wpOp hi trivial ⟨fun h=>hS (same _ h),H⟩
  ·have h1:=H.2 j (ready_mono hj hji)
   obtain ⟨hjun,oj,hoj,hall⟩:=mem_ready.1 hj
   have hnot:∀ e ∈ oj.after,Region.binds md e=true→e.on ≠ i:=fun e he hb heq=>by
    have h1:=hall e he hb
    have h0:=(mem_ready.1 hr).1
    rw [heq] at h1
    rcases Nat.lt_or_ge i listed.size with h' | h'
    ·simp [h'] at h0 h1; rw [h0] at h1; cases h1
    ·simp [Array.getElem?_eq_none h'] at h1
   have h2:=wpOp_putIf hoj (hfree j oj hoj hji hjun hnot) (fun cs b=>hsel i oi cs b hi) (fun cs b=>hsel j oj cs b hoj) hQ hy h1
   have hfree':∀ k ok,ops[k]?=some ok→k ≠ i→(listed.setIfInBounds j true).getD k true=false →
       (∀ e ∈ ok.after,Region.binds md e=true→e.on ≠ i)→oi.apart ops ok=true:=fun k ok hk hki hun hno=>by
    refine hfree k ok hk hki ?_ hno
    by_cases hjk:j=k
    ·subst hjk; exact hjun
    ·rw [getD_set_ne true hjk] at hun; exact hun
   refine wpOp_mono (fun a' w' h3=>?_) h2
   have hS':(listed.setIfInBounds j true).getD z true=false→S w':=fun h=>h3.2.1 (by rw [Array.setIfInBounds_comm _ _ (Ne.symm hji)]; exact same' _ h)
   refine ⟨hS',ih (listed.setIfInBounds j true) a' w' hfree' (ready_mono hr (Ne.symm hji)) h3.1 hS' ?_⟩
   rw [Array.setIfInBounds_comm _ _ hji]
   exact h3.2.2
end
theorem takeY {P:Program} {md:Region.Mode} {Q:Exit→Act→World→Prop} {S:World→Prop} {l rest:List Oper} {i z:Nat} {oi:Oper} {v:Value} {fuel:Nat} {listed:Array Bool} {a:Act} {w:World} (hi:l.drop i=oi :: rest)
    (hne:(z == i)=false) (hs:Region.noSelect l.toArray=true) (hf:Region.free md l.toArray listed i=true) (hr:(Region.ready md l.toArray listed).contains i=true)
    (hQ:∀ c a w,Q (.panic c) (a.put oi.dst v) w→Q (.panic c) a w) (hy:YieldsIf P l.toArray (fun _=>True) oi v a) (hS:S w)
    (h:wpAnyZ P md l.toArray Q S z fuel (listed.setIfInBounds i true) (a.put oi.dst v) w):wpAnyZ P md l.toArray Q S z (fuel+1) listed a w :=
 wpAnyZ_first0 (at_drop hi) (by simpa using hne) (Region.noSelect_spec hs) hQ fuel listed a w (Region.free_spec (at_drop hi) hf) (by simpa using hr) hy (fun _=>hS) h
def at0 (l:List Int) (i:Nat):Int:=l.getD i 0
def swp (l:List Int) (q:Nat):List Int:=(l.set (q+1) (at0 l q)).set q (at0 l (q+1))
theorem at_set (l:List Int) (p i:Nat) (v:Int) (h:p < l.length):at0 (l.set p v) i=if i=p then v else at0 l i:=by
 unfold at0
 by_cases hi:i=p
 ·subst hi; simp [List.getD,h]
 ·rw [if_neg hi]; simp [List.getD,List.getElem?_set_ne (Ne.symm hi)]
end Go.Proofs.Ytamnmjckhicapaa
