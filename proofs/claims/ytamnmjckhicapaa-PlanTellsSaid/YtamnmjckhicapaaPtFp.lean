/- Part 16 of what PlanVersions stands on. No statement is proved here. -/
import Derived.Laws.Rows
import Derived.Test.YtamnmjckhicapaaPtFo
namespace Go.Proofs.Ytamnmjckhicapaa
open Go.RowKit Go.BigFrame Go.WideShapes Go.ChangeShapes Go.Deep
set_option linter.unusedVariables false
set_option linter.unusedSimpArgs false
set_option maxRecDepth 100000
def PNZ:Array Value:=#[.slice none 0 0,.slice none 0 0,.slice none 0 0,.slice none 0 0]
theorem zero_pn:∀ w,(zeroValue 42).run Try.prog w=.ok (.agg PNZ) w:=(zero_of_info (P:=Try.prog) (t:=42) (v:=.agg PNZ) (n:=4) (by kernel_rfl)).1
theorem runL3 {P:Program} {md:Region.Mode} {Q:Exit→Act→World→Prop} {S:World→Prop} {l r1 r2 r3:List Oper} {i j k:Nat} {oi oj ok:Oper} {fuel:Nat} {listed:Array Bool} {a:Act} {w:World} (hi:l.drop i=oi :: r1) (hgi:oi.guard=none)
    (hj:l.drop j=oj :: r2) (hgj:oj.guard=none) (hk:l.drop k=ok :: r3) (hgk:ok.guard=none) (hr:Region.ready md l.toArray listed=[i,j,k])
    (h1:∀ K':Act→World→Prop,Shut (∀ a w,S w→(S w→wpAnyH P md l.toArray Q S fuel (listed.setIfInBounds i true) a w)→K' a w)→Oper.wp P oi a w K' Q)
    (h2:∀ K':Act→World→Prop,Shut (∀ a w,S w→(S w→wpAnyH P md l.toArray Q S fuel (listed.setIfInBounds j true) a w)→K' a w)→Oper.wp P oj a w K' Q)
    (h3:∀ K':Act→World→Prop,Shut (∀ a w,S w→(S w→wpAnyH P md l.toArray Q S fuel (listed.setIfInBounds k true) a w)→K' a w)→Oper.wp P ok a w K' Q):wpAnyH P md l.toArray Q S (fuel+1) listed a w:=by
 have at_:∀ {n:Nat} {o:Oper} {r:List Oper},l.drop n=o :: r→l.toArray[n]?=some o:=fun {n o r} h=>by
  have e:(l.drop n)[0]?=some o:=by rw [h]; rfl
  rw [List.getElem?_drop,Nat.add_zero] at e
  simpa using e
 refine wpAnyH_ready hr (by simp) (AllReadyH.cons (o:=oi) (at_ hi) (fun K hK=>?_) (AllReadyH.cons (o:=oj) (at_ hj) (fun K hK=>?_) (AllReadyH.cons (o:=ok) (at_ hk) (fun K hK=>?_) AllReadyH.nil)))
 ·rw [if_pos (by simp [Region.wanted,hgi])]
  exact h1 K hK
 ·rw [if_pos (by simp [Region.wanted,hgj])]
  exact h2 K hK
 ·rw [if_pos (by simp [Region.wanted,hgk])]
  exact h3 K hK
theorem oper_makeMap {P:Program} {o:Oper} {a:Act} {w:World} {K:Act→World→Prop} {Q:Exit→Act→World→Prop} (t:TypeId) (ho:o.op=.makeMap t none) (hmk:(Instr.makeMap t none).run P w=.ok (.map (some w.heap.size)) (w.alloc (.map #[] 0)))
    (h:∀ b w',w'.heap[b]?=(w.alloc (.map #[] 0)).heap[b]?→w.heap.size=b→w'=w.alloc (.map #[] 0)→K (a.put o.dst (.map (some b))) w'):Oper.wp P o a w K Q:=by
 unfold Oper.wp execOp
 simp only [ho,Option.map,Sem.run_bind,hmk,Result.andThen_ok]
 exact h _ _ rfl rfl rfl
def VZ:Array Value:=#[.int .i64 0,.int .i64 0,.int .i64 0,.int .i64 0,.int .i64 0,.int .i64 0,.int .i64 0,.slice none 0 0,.slice none 0 0,.slice none 0 0,.slice none 0 0,.map none,.slice none 0 0]
theorem zero_view:∀ w,(zeroValue 79).run Try.prog w=.ok (.agg VZ) w:=(zero_of_info (P:=Try.prog) (t:=79) (v:=.agg VZ) (n:=13) (by kernel_rfl)).1
theorem one_view {t0 t1 t2 t3 hold room age:Int} {nb no n ncap gr rcap gf mb:Nat} {sv:Value} (h:sv.oneCell'=true):(#[.int .i64 t0,.int .i64 t1,.int .i64 t2,.int .i64 t3,.int .i64 hold,.int .i64 room,.int .i64 age,.slice (some ⟨nb,no,none⟩) n ncap,sv,.slice (some ⟨gr,0,none⟩) n rcap,.slice (some ⟨gf,0,none⟩) n n,.map (some mb),.slice none 0 0]:Array Value).toList.all (·.oneCell')=true:=by
 show (true && (true && (true && (true && (true && (true && (true && (true && (sv.oneCell' && true)))))))))=true
 rw [h]
 rfl
theorem SegM.blk {w w':World} {b n:Nat} {f:Pl→Option Int} (h:SegM w b n f) (hx:w'.heap[b]?=w.heap[b]?):SegM w' b n f:=by
 obtain ⟨D,hm,h1,h2⟩:=h
 obtain ⟨es,clock,hb,F,hs,e⟩:=hm
 exact ⟨D,⟨es,clock,hx.trans hb,F,hs,e⟩,h1,h2⟩
theorem built_view (t0 t1 t2 t3 hold room age:Int) (nb no n ncap gr rcap gf mb:Nat) (sv:Value):Try.prog.built 79 [(0,.agg #[.int .i64 t0,.int .i64 t1,.int .i64 t2,.int .i64 t3,.int .i64 hold,.int .i64 room,.int .i64 age,.slice (some ⟨nb,no,none⟩) n ncap,sv]),(1,.slice (some ⟨gr,0,none⟩) n rcap),(2,.slice (some ⟨gf,0,none⟩) n n),(3,.map (some mb))]=some #[.int .i64 t0,.int .i64 t1,.int .i64 t2,.int .i64 t3,.int .i64 hold,.int .i64 room,.int .i64 age,.slice (some ⟨nb,no,none⟩) n ncap,sv,.slice (some ⟨gr,0,none⟩) n rcap,.slice (some ⟨gf,0,none⟩) n n,.map (some mb),.slice none 0 0]:=by kernel_rfl
theorem info_is:(Try.prog.info? 56).map (fun i=>(i.zero,i.size,i.bytes))=some (some (.slice none 0 0),1,24):=by kernel_rfl
theorem b1_pl (x y:Int):Instr.fill (fun i=>some (i*2,2)) ((Array.range (1*2)).map (PZ2[· % PZ2.size]!)) [(0,.agg #[.int .i64 x,.int .i64 y])]=some #[.int .i64 x,.int .i64 y]:=by kernel_rfl
theorem b1_is (a:Option Addr) (n c:Nat):Instr.fill (fun i=>some (i*1,1)) ((Array.range (1*1)).map ((Value.slice none 0 0).cells[· % (Value.slice none 0 0).cells.size]!)) [(0,.slice a n c)]=some #[.slice a n c]:=by kernel_rfl
theorem info_u64:(Try.prog.info? 53).map (fun i=>(i.zero,i.size,i.bytes))=some (some (.int .u64 0),1,8):=by kernel_rfl
theorem b1_u64 (x:Int):Instr.fill (fun i=>some (i*1,1)) ((Array.range (1*1)).map ((Value.int .u64 0).cells[· % (Value.int .u64 0).cells.size]!)) [(0,.int .u64 x)]=some #[.int .u64 x]:=by kernel_rfl
theorem b1_u32 (x:Int):Instr.fill (fun i=>some (i*1,1)) ((Array.range (1*1)).map ((Value.int .u32 0).cells[· % (Value.int .u32 0).cells.size]!)) [(0,.int .u32 x)]=some #[.int .u32 x]:=by kernel_rfl
theorem info_u32:(Try.prog.info? 54).map (fun i=>(i.zero,i.size,i.bytes))=some (some (.int .u32 0),1,4):=by kernel_rfl
theorem size_pn:(Try.prog.info? 42).map (·.size)=some 4:=by kernel_rfl
set_option maxRecDepth 100000 in
set_option maxHeartbeats 8000000 in
theorem of_any (t0 t1 t2 t3 hold room age:Int) (nb no n ncap:Nat) (sv uv:Value) (N:List Nd) (S:List (List Pl)) (U:List Bool) (M:Nat) (w:World)
    (hright:∀ w',Ext w w'→Calls Try.prog 17 #[(.agg #[.int .i64 t0,.int .i64 t1,.int .i64 t2,.int .i64 t3,.int .i64 hold,.int .i64 room,.int .i64 age,.slice (some ⟨nb,no,none⟩) n ncap,sv])] w' fun e w''=>e=.returned (.bool true)∧Ext w' w'')
    (hN:NodesAt w (.slice (some ⟨nb,no,none⟩) n ncap) N) (hn:1≤n∧n≤5) (hs:SegsAt w sv S) (hsl:1≤S.length∧S.length≤20) (hs60:∀ seg ∈ S,seg.length≤60) (hu:BoolsAt w uv U)
    (hok:∀ seg ∈ S,∀ p ∈ seg,PlOk N p) (hco:CostOk N) (hM:∀ x ∈ N,∀ q ∈ x.ports,q.cost≤M) (hnM:n*M < 4294967296) (hP60:∀ x ∈ N,x.ports.length≤60) :
    Calls Try.prog 12 #[(.agg #[.int .i64 t0,.int .i64 t1,.int .i64 t2,.int .i64 t3,.int .i64 hold,.int .i64 room,.int .i64 age,.slice (some ⟨nb,no,none⟩) n ncap,sv]),uv] w fun e w'=>∃ v,e=.returned v∧PlanAt w' v (planF N (raisedL U S))∧Ext w w':=by
 obtain ⟨hnb,hnc,hnl,hids⟩:=hN.ids hn.1
 have HRT:=Lib.hid hright
 have HN:=Lib.hid hN
 have HNN:=Lib.hid hn
 have HS:=Lib.hid hs
 have HU:=Lib.hid hu
 have HOK:=Lib.hid hok
 have HSL:=Lib.hid hsl
 have HS6:=Lib.hid hs60
 have HCO:=Lib.hid hco
 have HMM:=Lib.hid hM
 have HNL:=Lib.hid hnl
 have HNB:=Lib.hid hnb
 have HNC:=Lib.hid hnc
 have HID:=Lib.hid hids
 have HA0:=Lib.hid True.intro
 have HP6:=Lib.hid hP60
 clear hP60 hright hN hn hs hu hok hsl hs60 hco hM hnl hnb hnc hids
 go_enter Try.func12,Try.ntmps12
 go_wp2_with (first
  | fail
  | ((with_reducible refine at_box 47 ?_); refine bx_row rfl 47 _ rfl #[.int .i64 t0,.int .i64 t1,.int .i64 t2,.int .i64 t3,.int .i64 hold,.int .i64 room,.int .i64 age,.slice (some ⟨nb,no,none⟩) n ncap,sv] rfl ?_
     intro X w1 hX hsz hx1
     have HX1:=Lib.hid (show BoxAt w1 X #[.int .i64 t0,.int .i64 t1,.int .i64 t2,.int .i64 t3,.int .i64 hold,.int .i64 room,.int .i64 age,.slice (some ⟨nb,no,none⟩) n ncap,sv] 47 from hX)
     have HE1:=Lib.hid hx1
     clear hX hsz hx1)
  | ((with_reducible refine at_alloc 42 ?_); have:=HA0.out; clear HA0; refine al_zero rfl 42 rfl PNZ zero_pn ?_
     intro RB wb hq hsz hx
     have HRB:=Lib.hid (show BoxAt wb RB PNZ 42 from hq)
     have HE:=Lib.hid (HE1.out.trans hx)
     have HRBW:=Lib.hid (show w.heap.size≤RB from by have:=HE1.out.size; omega)
     have HX:=Lib.hid (HX1.out.ext hx)
     clear hq hsz hx HX1)
  | ((with_reducible refine at_load 47 ?_); refine wpList_load_row rfl 47 _ rfl X rfl 47 #[.int .i64 t0,.int .i64 t1,.int .i64 t2,.int .i64 t3,.int .i64 hold,.int .i64 room,.int .i64 age,.slice (some ⟨nb,no,none⟩) n ncap,sv] (0,0) _ HX.out Try.underlying47 rfl size_net ?_))
 refine (HRT.out _ HE.out).mono ?_
 rintro e w2 ⟨rfl,hx2⟩
 have HE2:=Lib.hid hx2
 have HX2:=Lib.hid (HX.out.ext hx2)
 clear hx2
 go_wp2_with (first
  | fail
  | ((with_reducible refine at_load 47 ?_); refine wpList_load_row rfl 47 _ rfl X rfl 47 #[.int .i64 t0,.int .i64 t1,.int .i64 t2,.int .i64 t3,.int .i64 hold,.int .i64 room,.int .i64 age,.slice (some ⟨nb,no,none⟩) n ncap,sv] (0,0) _ HX2.out Try.underlying47 rfl size_net ?_))
 refine (raised_any t0 t1 t2 t3 hold room age (.slice (some ⟨nb,no,none⟩) n ncap) sv uv S U w2 (HS.out.ext (HE.out.trans HE2.out)) (RowAt.ext HU.out (HE.out.trans HE2.out)) ⟨HSL.out.1,by have:=HSL.out.2; omega⟩).mono ?_
 rintro e w3 ⟨xv,rfl,hsg,hx3⟩
 have hrl:=raisedL_len U S
 have hro:=raisedL_ok (U:=U) HOK.out
 have hrs:=raisedL_small (U:=U) HS6.out
 obtain ⟨SS,hSS⟩:∃ SS,raisedL U S=SS:=⟨_,rfl⟩
 rw [hSS] at hsg hrl hro hrs
 have HSS:=Lib.hid hSS
 have HSG:=Lib.hid hsg
 have HRO:=Lib.hid hro
 have HRS:=Lib.hid hrs
 have HRL:=Lib.hid hrl
 have HE3:=Lib.hid (HE2.out.trans hx3)
 have HX3:=Lib.hid (HX2.out.ext hx3)
 clear hsg hx3 hrl hro hrs hSS HE2 HX2
 go_wp2_with (first
  | fail
  | ((with_reducible refine at_load 47 ?_); refine wpList_load_row rfl 47 _ rfl X rfl 47 #[.int .i64 t0,.int .i64 t1,.int .i64 t2,.int .i64 t3,.int .i64 hold,.int .i64 room,.int .i64 age,.slice (some ⟨nb,no,none⟩) n ncap,sv] (0,0) _ HX3.out Try.underlying47 rfl size_net ?_))
 refine (hops_any t0 t1 t2 t3 hold room age (.slice (some ⟨nb,no,none⟩) n ncap) sv xv N SS w3 (HN.out.ext (HE.out.trans HE3.out)) (by rw [HNL.out]; exact HNN.out.1) HSG.out ⟨by rw [HRL.out]; exact HSL.out.2,HRS.out⟩ HRO.out HCO.out).mono ?_
 rintro e w4 ⟨lv,rfl,hho,hx4⟩
 have hll:=hopsF_len N SS 60 HRS.out
 have hlw:=hopsF_wf HRO.out HCO.out (by rw [HNL.out]; have:=HNN.out.2; omega)
 obtain ⟨L,hL⟩:∃ L,hopsF N SS=L:=⟨_,rfl⟩
 rw [hL] at hho hll hlw
 have HL:=Lib.hid hL
 have HHO:=Lib.hid hho
 have HLL:=Lib.hid (show L.length≤100000 from by have h1:=HRL.out; have h2:=HSL.out.2; have h3:SS.length*(60*60)≤20*(60*60):=Nat.mul_le_mul_right _ (by omega); omega)
 have HLW:=Lib.hid hlw
 have HE4:=Lib.hid (HE3.out.trans hx4)
 have HX4:=Lib.hid (HX3.out.ext hx4)
 have HSG4:=Lib.hid (HSG.out.ext hx4)
 clear hho hx4 hll hlw hL HE3 HX3 HSG
 go_wp2_with (first
  | fail
  | ((with_reducible refine at_load 47 ?_); refine wpList_load_row rfl 47 _ rfl X rfl 47 #[.int .i64 t0,.int .i64 t1,.int .i64 t2,.int .i64 t3,.int .i64 hold,.int .i64 room,.int .i64 age,.slice (some ⟨nb,no,none⟩) n ncap,sv] (0,0) _ HX4.out Try.underlying47 rfl size_net ?_))
 refine (roots_any t0 t1 t2 t3 hold room age nb no n ncap sv lv N L w4 HNN.out HNL.out HNC.out HHO.out HLL.out HLW.out (Nat.lt_of_lt_of_le HNB.out (HE.out.trans HE4.out).size) (fun i hi=>((HE.out.trans HE4.out).cell HNB.out).trans (HID.out i hi))).mono ?_
 rintro e w5 ⟨gr,rcap,rfl,hrc,hnu,hgr,hx5⟩
 have HSV:=Lib.hid (show sv.oneCell'=true from by obtain ⟨_,⟨_,_,e,_⟩,_⟩:=HS.out; rw [e]; rfl)
 have HX5:=Lib.hid hx5
 have HRN:=Lib.hid (show Nums w5 gr (rootsOf N SS) from by unfold rootsOf; rw [HL.out,HNL.out]; exact hnu)
 have HRO5:=Lib.hid (show (rootsOf N SS).length=n from by rw [rootsOf_len]; exact HNL.out)
 have HRC:=Lib.hid hrc
 have HRG:=Lib.hid (show Rng n (rootsOf N SS) from by have h:=rootsOf_rng N SS; rw [HNL.out] at h; exact h)
 have HCN:=Lib.hid (show ∀ k,k < n→∃ q,Walk n L (at0 (rootsOf N SS) k).toNat k q from by have h:=rootsOf_conn N SS; rw [HNL.out,HL.out] at h; exact h)
 have HX5b:=Lib.hid (HX4.out.ext hx5)
 have HWO:=Lib.hid (show waysOf N SS=wayF n L (rootsOf N SS) from by unfold waysOf rootsOf; rw [HNL.out,HL.out])
 clear hx5 hnu hrc
 go_wp2_with fail
 go_cut [8] from 30 to 38 (fun s wx=>∃ V gf mb,s=.pointer (some ⟨V,0,none⟩)∧BoxAt wx V #[.int .i64 t0,.int .i64 t1,.int .i64 t2,.int .i64 t3,.int .i64 hold,.int .i64 room,.int .i64 age,.slice (some ⟨nb,no,none⟩) n ncap,sv,.slice (some ⟨gr,0,none⟩) n rcap,.slice (some ⟨gf,0,none⟩) n n,.map (some mb),.slice none 0 0] 79∧WRow wx gf (waysOf N SS)∧SegM wx mb 0 (fun _=>none)∧(∀ k,k < n→∃ x,(waysOf N SS).getD k Option.none=Option.some x)∧Ext w5 wx∧w5.heap.size≤V∧w5.heap.size≤gf∧w5.heap.size≤mb∧V ≠ gf∧V ≠ mb)
 case rest =>
  obtain ⟨V,gf,mb,rfl,hbv,hwf,hsm,hso,hx6,hv1,hg1,hm1,hne1,hne2⟩:=hcut
  rename World=>w6
  have HBV:=Lib.hid hbv
  have HWF:=Lib.hid hwf
  have HSM:=Lib.hid hsm
  have HSO:=Lib.hid hso
  have HX6:=Lib.hid hx6
  have HAP:=Lib.hid (And.intro hv1 (And.intro hg1 (And.intro hm1 (And.intro hne1 hne2))))
  clear hbv hwf hsm hso hx6 hv1 hg1 hm1 hne1 hne2
  go_wp2_with (first
   | fail
   | ((with_reducible refine at_alloc 42 ?_); refine al_zero rfl 42 rfl PNZ zero_pn ?_
      intro PB w7 hq hsz hx
      have HPB:=Lib.hid (show BoxAt w7 PB PNZ 42 from hq)
      have HX7:=Lib.hid hx
      have HPW:=Lib.hid (show w6.heap.size=PB from hsz)
      clear hq hsz hx))
  obtain ⟨R,hR⟩:∃ R,rootsOf N SS=R:=⟨_,rfl⟩
  obtain ⟨W,hW⟩:∃ W,waysOf N SS=W:=⟨_,rfl⟩
  have HWK:=Lib.hid (waysOf_ok HRO.out HMM.out (by rw [HNL.out]; exact hnM) (by rw [HNL.out]; exact HSO.out))
  rw [hR] at HRN HRO5 HRG
  rw [hW] at HWF HWK
  have HWL:=Lib.hid (show W.length=n from by rw [← hW,waysOf_len]; exact HNL.out)
  rw [HNL.out] at HWK
  have HRR:=Lib.hid hR
  have HWW:=Lib.hid hW
  have HID6:=Lib.hid (show ∀ r,r < n→∀ W',Ext w6 W'→W'.cell? ⟨nb,no+r*3,none⟩=some (.int .u64 (idA N r)) from fun r hr W' h=>(((HE.out.trans HE4.out).trans (HX5.out.trans (HX6.out.trans h))).cell HNB.out).trans (HID.out r hr))
  clear hR hW HCN HWO HSO
  obtain ⟨B,hB⟩:∃ B,w7.heap.size=B:=⟨_,rfl⟩
  have HB0:=Lib.hid (Nat.le_of_eq hB.symm)
  have HB6:=Lib.hid (show w6.heap.size≤B from by rw [← hB]; exact HX7.out.size)
  have HPL:=Lib.hid (show PB < B from by rw [← hB]; exact heap_lt HPB.out)
  have HBB:=HB6
  clear hB
  obtain ⟨fR,hfR⟩:∃ fR:Nat→Int,(fun j=>idA N (at0 R j).toNat)=fR:=⟨_,rfl⟩
  obtain ⟨fC,hfC⟩:∃ fC:Nat→Int,(fun j=>((costW W j:Nat):Int))=fC:=⟨_,rfl⟩
  have HFRR:=Lib.hid hfR
  have HFCC:=Lib.hid hfC
  obtain ⟨i6,hi6,hz6,hs6,hb6⟩:=info_parts info_u64
  have I6:=Lib.hid (And.intro hi6 (And.intro hz6 (And.intro hs6 hb6)))
  obtain ⟨i5,hi5,hz5,hs5,hb5⟩:=info_parts info_u32
  have I5:=Lib.hid (And.intro hi5 (And.intro hz5 (And.intro hs5 hb5)))
  clear hi6 hz6 hs6 hb6 hi5 hz5 hs5 hb5 hfR hfC
  have hn1:=HNN.out.1
  have hn5:=HNN.out.2
  go_loopw [40] (fun s wr=>∃ (k:Nat) (rs cs:Value) (wo:World),wo=wr∧s=.int .i64 k∧k≤n∧BoxAt wo PB #[rs,cs,.slice none 0 0,.slice none 0 0] 42∧wo.ownsRow B 53 1 rs k (kv .u64 ((List.range k).map fR))∧wo.ownsRow B 54 1 cs k (kv .u32 ((List.range k).map fC))∧(∀ g,rs.ownBlock=some g→cs.ownBlock ≠ some g)∧Ext w6 wo∧B≤wo.heap.size) (fun s _=>n - (intOf s).toNat)
  case atStart=>exact ⟨0,_,_,_,rfl,rfl,by omega,HPB.out,⟨rfl,.inl ⟨rfl,rfl⟩⟩,⟨rfl,.inl ⟨rfl,rfl⟩⟩,fun g h=>by simp [Value.ownBlock] at h,HX7.out,HB0.out⟩
  case round =>
   obtain ⟨k,rs,cs,wo,rfl,rfl,hk,hp,ho1,ho2,hd,hx,hbl⟩:=hrel
   rename World=>wl
   have HPR:=Lib.hid hp
   have HO1:=Lib.hid ho1
   have HO2:=Lib.hid ho2
   have HD:=Lib.hid hd
   have HXL:=Lib.hid hx
   have HBL:=Lib.hid hbl
   clear hp ho1 ho2 hd hx hbl
   obtain ⟨a1,c1,rfl⟩:=own_form2 HO1.out
   obtain ⟨a2,c2,rfl⟩:=own_form2 HO2.out
   by_cases hlt:k < n
   ·have dlt:decide ((k:Int) < (n:Int))=true:=by simp; omega
    have hup:IntKind.i64.wrap ((k:Int)+1)=((k+1:Nat):Int):=by rw [IntKind.wrap_i64]; omega
    obtain ⟨r,hr⟩:∃ r:Nat,at0 R k=r:=⟨(at0 R k).toNat,by have:=(HRG.out k hlt).1; omega⟩
    have hrn:r < n:=by have:=(HRG.out k hlt).2; omega
    have ck:wl.cell? ⟨gr,k,none⟩=some (.int .i64 (r:Int)):=by rw [← hr]; exact (HRN.out.ext (HX6.out.trans HXL.out)).cell (by rw [HRO5.out]; exact hlt)
    obtain ⟨id,hid⟩:∃ id,idA N r=id:=⟨_,rfl⟩
    have HIR:=Lib.hid (show ∀ W',Ext w6 W'→W'.cell? ⟨nb,no+r*3,none⟩=some (.int .u64 id) from fun W' h=>by rw [← hid]; exact HID6.out r hrn W' h)
    obtain ⟨x,hx1,hx2⟩:=HWK.out k hlt
    obtain ⟨c,h⟩:=x
    have HC:=Lib.hid (show c < 4294967296 from hx2)
    have HS1:=Lib.hid (show kv .u64 ((List.range (k+1)).map fR)=kv .u64 ((List.range k).map fR) ++ [.int .u64 id] from by
     have e:fR k=id:=by
      rw [← HFRR.out]
      show idA N (at0 R k).toNat=id
      rw [hr]
      exact hid
     rw [rtl_step,e])
    have HS2:=Lib.hid (show kv .u32 ((List.range (k+1)).map fC)=kv .u32 ((List.range k).map fC) ++ [.int .u32 (c:Int)] from by
     have e:fC k=c:=by
      rw [← HFCC.out]
      show ((costW W k:Nat):Int)=c
      simp only [costW,hx1]
     rw [rtl_step,e])
    have HCF:=Lib.hid (show ∀ W',Ext w6 W'→W'.cell? ⟨gf,k,none⟩=some (cvW (Option.some (c,h))) from fun W' h5=>by
     rw [cell_row (HWF.out.ext h5)]
     have h6:k < W.length:=by rw [HWL.out]; exact hlt
     have h7:W[k]=Option.some (c,h):=by rw [List.getD_eq_getElem?_getD,List.getElem?_eq_getElem h6] at hx1; exact hx1
     simp [h6,h7])
    clear hid hr hx1 hx2
    go_wp2_with fail
    refine beginZ (S:=fun W'=>Ext w6 W'∧W'.heap[PB]?=some (.cells #[(.slice a1 k c1),(.slice a2 k c2),.slice none 0 0,.slice none 0 0] 42 (0,0))) 11 (by kernel_rfl) ?_
    intro wd hqx
    have hq0:(fun W'=>Ext w6 W'∧W'.heap[PB]?=some (.cells #[(.slice a1 k c1),(.slice a2 k c2),.slice none 0 0,.slice none 0 0] 42 (0,0))) wd:=⟨HXL.out.trans hqx,(hqx.block PB (heap_lt (HPR.out))).trans (HPR.out)⟩
    refine takeZ (i:=0) (z:=11) (v:=(.pointer (some ⟨PB,0,none⟩))) rfl rfl (by kernel_rfl) (by kernel_rfl) (by kernel_rfl) (by kernel_rfl) (by kernel_rfl) (by kernel_rfl) (fun _ _ _ h=>h) (Or.inl ⟨rfl,fun _ _=>rfl⟩) hq0 ?_
    simp only [ps]
    refine takeZ (i:=1) (z:=11) (v:=_) rfl rfl (by kernel_rfl) (by kernel_rfl) (by kernel_rfl) (by kernel_rfl) (by kernel_rfl) (by kernel_rfl) (fun _ _ _ h=>h) (yieldsIf_cell rfl 37 _ rfl ⟨PB,0,none⟩ rfl (.slice a1 k c1) _ (fun W' hW'=>(show W'.cell? ⟨PB,0,none⟩=_ by rw [cell_row hW'.2]; rfl)) Try.underlying37 rfl) hq0 ?_
    simp only [ps]
    refine takeZ (i:=2) (z:=11) (v:=(.pointer (some ⟨X,7,none⟩))) rfl rfl (by kernel_rfl) (by kernel_rfl) (by kernel_rfl) (by kernel_rfl) (by kernel_rfl) (by kernel_rfl) (fun _ _ _ h=>h) (Or.inl ⟨rfl,fun _ _=>rfl⟩) hq0 ?_
    simp only [ps]
    refine takeZ (i:=3) (z:=11) (v:=_) rfl rfl (by kernel_rfl) (by kernel_rfl) (by kernel_rfl) (by kernel_rfl) (by kernel_rfl) (by kernel_rfl) (fun _ _ _ h=>h) (yieldsIf_cell rfl 44 _ rfl ⟨X,7,none⟩ rfl (.slice (some ⟨nb,no,none⟩) n ncap) _ (fun W' hW'=>(HX5b.out.ext (HX6.out.trans hW'.1)).cell 7 rfl) Try.underlying44 rfl) hq0 ?_
    simp only [ps]
    refine takeZ (i:=4) (z:=11) (v:=(.int .i64 (r:Int))) rfl rfl (by kernel_rfl) (by kernel_rfl) (by kernel_rfl) (by kernel_rfl) (by kernel_rfl) (by kernel_rfl) (fun _ _ _ h=>h) (Or.inl ⟨rfl,fun _ _=>rfl⟩) hq0 ?_
    simp only [ps]
    refine takeZ (i:=5) (z:=11) (v:=(.pointer (some ⟨nb,no+r*3,none⟩))) rfl rfl (by kernel_rfl) (by kernel_rfl) (by kernel_rfl) (by kernel_rfl) (by kernel_rfl) (by kernel_rfl) (fun _ _ _ h=>h) (Or.inl ⟨rfl,fun W' _=>by go_simp <;> (intro h; omega)⟩) hq0 ?_
    simp only [ps]
    refine takeZ (i:=6) (z:=11) (v:=(.pointer (some ⟨nb,no+r*3,none⟩))) rfl rfl (by kernel_rfl) (by kernel_rfl) (by kernel_rfl) (by kernel_rfl) (by kernel_rfl) (by kernel_rfl) (fun _ _ _ h=>h) (Or.inl ⟨rfl,fun _ _=>rfl⟩) hq0 ?_
    simp only [ps]
    refine takeZ (i:=7) (z:=11) (v:=_) rfl rfl (by kernel_rfl) (by kernel_rfl) (by kernel_rfl) (by kernel_rfl) (by kernel_rfl) (by kernel_rfl) (fun _ _ _ h=>h) (yieldsIf_cell rfl 53 _ rfl ⟨nb,no+r*3,none⟩ rfl (.int .u64 id) _ (fun W' hW'=>HIR.out W' hW'.1) Try.underlying53 rfl) hq0 ?_
    simp only [ps]
    refine runZ (i:=8) rfl rfl (by kernel_rfl) (fun K hK=>?_)
    refine wp_buildSlice 37 53 1 _ rfl #[.int .u64 id] i6 (.int .u64 0) Try.underlying37 I6.out.1 I6.out.2.1 (by rw [I6.out.2.2.1]; decide) (by rw [I6.out.2.2.1]; decide) (by rw [I6.out.2.2.1,Array.toList_map]; exact b1_u64 _) ?_
    have hy:Ext wd (wd.alloc (.cells #[.int .u64 id] 53)):=(Ext.refl _).alloc _
    have hnw:=heap_alloc_new wd (.cells #[.int .u64 id] 53)
    obtain ⟨wn,hwa⟩:∃ W,wd.alloc (.cells #[.int .u64 id] 53)=W:=⟨_,rfl⟩
    obtain ⟨bn,hnb⟩:∃ m,wd.heap.size=m:=⟨_,rfl⟩
    rw [hwa] at hnw hy ⊢
    rw [hnb] at hnw ⊢
    clear hwa hnb
    have hq1:(fun W'=>Ext w6 W'∧W'.heap[PB]?=some (.cells #[(.slice a1 k c1),(.slice a2 k c2),.slice none 0 0,.slice none 0 0] 42 (0,0))) wn:=⟨hq0.1.trans hy,(hy.block PB (heap_lt hq0.2)).trans hq0.2⟩
    have hxn:Ext wl wn:=(hqx).trans hy
    have hO2:=ownR_ext HO1.out hxn
    have hbw:B≤wn.heap.size:=Nat.le_trans HBL.out hxn.size
    refine hK.out _ _ hq1 (fun _=>?_)
    try simp only [ps]
    clear hK K
    refine runZ (i:=9) rfl rfl (by kernel_rfl) (fun K hK=>?_)
    refine oper_append_own_at _ _ 37 rfl B 53 i6 (.int .u64 0) 1 8 Try.underlying37 I6.out.1 I6.out.2.1 I6.out.2.2.1 I6.out.2.2.2 rfl (by decide) ((.slice a1 k c1)) k (kv .u64 ((List.range k).map fR)) rfl hO2 ⟨bn,0,none⟩ 1 1 [.int .u64 id] rfl rfl ?hnews (fun u hu=>by
        have hu2:=hu
        simp only [List.mem_cons,List.not_mem_nil,or_false] at hu2
        first | (subst hu2; rfl) | (rcases hu2 with rfl | rfl <;> rfl)) (by unfold maxLen; omega) (by omega) hbw ?hfin
    case hnews=>exact fun j u hu=>World.news_of_block hnw j u (by simpa using hu)
    case hfin =>
    intro v6 wa ho6 hg6 hloc
    have hrw0:wa.heap[PB]?=some (.cells #[(.slice a1 k c1),(.slice a2 k c2),.slice none 0 0,.slice none 0 0] 42 (0,0)):=(hg6.block PB (heap_lt hq1.2) (fun e=>by have h1:=(own_lt2 hO2 e.symm).1; have h2:=HPL.out; omega)).trans hq1.2
    have hq6:(fun W'=>Ext w6 W'∧W'.heap[PB]?=some (.cells #[(.slice a1 k c1),(.slice a2 k c2),.slice none 0 0,.slice none 0 0] 42 (0,0))) wa:=⟨ext_grown hq1.1 hO2 HBB.out hg6,hrw0⟩
    obtain ⟨a6,c6,rfl⟩:=own_form2 ho6
    refine hK.out _ _ hq6 (fun _=>?_)
    try simp only [ps]
    clear hK K
    refine takeZ (i:=10) (z:=11) (v:=(.pointer (some ⟨PB,0,none⟩))) rfl rfl (by kernel_rfl) (by kernel_rfl) (by kernel_rfl) (by kernel_rfl) (by kernel_rfl) (by kernel_rfl) (fun _ _ _ h=>h) (Or.inl ⟨rfl,fun _ _=>rfl⟩) hq6 ?_
    simp only [ps]
    refine runZl (z:=11) rfl rfl (by kernel_rfl) (fun K hK=>?_)
    refine wp_st_at rfl 37 _ _ rfl PB 0 _ #[.slice a6 (k+1) c6] (#[(.slice a1 k c1),(.slice a2 k c2),.slice none 0 0,.slice none 0 0]) (#[.slice a6 (k+1) c6,(.slice a2 k c2),.slice none 0 0,.slice none 0 0]) 42 rfl rfl rfl hrw0 (by exact (by decide:0+1≤4)) (by kernel_rfl) rfl rfl (fun ws hrow hm=>?_)
    have HFR:=app_fr hxn hg6 hm
    have HROW:=Lib.hid hrow
    have hown6:ws.ownsRow B 53 1 (.slice a6 (k+1) c6) (k+1) (kv .u64 ((List.range k).map fR) ++ [.int .u64 id]):=own_mut ho6 hm (fun g h1 h2=>by have h3:=(own_lt2 ho6 h1).1; have h4:=HPL.out; omega)
    have HSZ:wl.heap.size≤wn.heap.size:=hxn.size
    refine hK.out _ _ ?_
    try simp only [ps]
    clear hK K
    have HX8:=Lib.hid (HXL.out.app (by have:=HPW.out; omega) HO1.out HB6.out HFR)
    have HOA:=Lib.hid (show ws.ownsRow B 53 1 (.slice a6 (k+1) c6) (k+1) (kv .u64 ((List.range (k+1)).map fR)) from by rw [HS1.out]; exact hown6)
    have HOB:=Lib.hid (own_mut HO2.out HFR (fun g h1 h2=>by
     rcases h2 with h2 | h2
     ·have h3:=(own_lt2 HO2.out h1).1; have h4:=HPL.out; omega
     ·exact HD.out g h2 h1))
    have HDA:=Lib.hid (app_dis HD.out HO2.out HSZ hloc)
    have HBL2:=Lib.hid (Nat.le_trans HBL.out HFR.size)
    clear HFR hown6 HSZ hloc
    clear hrow hm ho6 hg6 hq6 hq1 hq0 hqx hy hnw hO2 hbw hxn hrw0
    refine wpAnyH_done (by kernel_rfl) ?_ _
    go_wp2_with fail
    refine beginZ (S:=fun W'=>Ext w6 W'∧W'.heap[PB]?=some (.cells #[.slice a6 (k+1) c6,(.slice a2 k c2),.slice none 0 0,.slice none 0 0] 42 (0,0))) 11 (by kernel_rfl) ?_
    intro wd hqx
    have hq0:(fun W'=>Ext w6 W'∧W'.heap[PB]?=some (.cells #[.slice a6 (k+1) c6,(.slice a2 k c2),.slice none 0 0,.slice none 0 0] 42 (0,0))) wd:=⟨HX8.out.trans hqx,(hqx.block PB (heap_lt (HROW.out))).trans (HROW.out)⟩
    refine takeZ (i:=0) (z:=11) (v:=(.pointer (some ⟨PB,1,none⟩))) rfl rfl (by kernel_rfl) (by kernel_rfl) (by kernel_rfl) (by kernel_rfl) (by kernel_rfl) (by kernel_rfl) (fun _ _ _ h=>h) (Or.inl ⟨rfl,fun _ _=>rfl⟩) hq0 ?_
    simp only [ps]
    refine takeZ (i:=1) (z:=11) (v:=_) rfl rfl (by kernel_rfl) (by kernel_rfl) (by kernel_rfl) (by kernel_rfl) (by kernel_rfl) (by kernel_rfl) (fun _ _ _ h=>h) (yieldsIf_cell rfl 38 _ rfl ⟨PB,1,none⟩ rfl (.slice a2 k c2) _ (fun W' hW'=>(show W'.cell? ⟨PB,1,none⟩=_ by rw [cell_row hW'.2]; rfl)) Try.underlying38 rfl) hq0 ?_
    simp only [ps]
    refine takeZ (i:=2) (z:=11) (v:=(.pointer (some ⟨V,10,none⟩))) rfl rfl (by kernel_rfl) (by kernel_rfl) (by kernel_rfl) (by kernel_rfl) (by kernel_rfl) (by kernel_rfl) (fun _ _ _ h=>h) (Or.inl ⟨rfl,fun _ _=>rfl⟩) hq0 ?_
    simp only [ps]
    refine takeZ (i:=3) (z:=11) (v:=_) rfl rfl (by kernel_rfl) (by kernel_rfl) (by kernel_rfl) (by kernel_rfl) (by kernel_rfl) (by kernel_rfl) (fun _ _ _ h=>h) (yieldsIf_cell rfl 75 _ rfl ⟨V,10,none⟩ rfl (.slice (some ⟨gf,0,none⟩) n n) _ (fun W' hW'=>(HBV.out.ext hW'.1).cell 10 rfl) Try.underlying75 rfl) hq0 ?_
    simp only [ps]
    refine takeZ (i:=4) (z:=11) (v:=(.int .i64 (k:Int))) rfl rfl (by kernel_rfl) (by kernel_rfl) (by kernel_rfl) (by kernel_rfl) (by kernel_rfl) (by kernel_rfl) (fun _ _ _ h=>h) (Or.inl ⟨rfl,fun _ _=>rfl⟩) hq0 ?_
    simp only [ps]
    refine takeZ (i:=5) (z:=11) (v:=(.pointer (some ⟨gf,k,none⟩))) rfl rfl (by kernel_rfl) (by kernel_rfl) (by kernel_rfl) (by kernel_rfl) (by kernel_rfl) (by kernel_rfl) (fun _ _ _ h=>h) (Or.inl ⟨rfl,fun W' _=>by go_simp <;> (intro h; omega)⟩) hq0 ?_
    simp only [ps]
    refine takeZ (i:=6) (z:=11) (v:=_) rfl rfl (by kernel_rfl) (by kernel_rfl) (by kernel_rfl) (by kernel_rfl) (by kernel_rfl) (by kernel_rfl) (fun _ _ _ h=>h) (yieldsIf_cell rfl 84 _ rfl ⟨gf,k,none⟩ rfl (cvW (Option.some (c,h))) _ (fun W' hW'=>HCF.out W' hW'.1) Try.underlying84 rfl) hq0 ?_
    simp only [ps]
    refine runZ (i:=7) rfl rfl (by kernel_rfl) (fun K hK=>?_)
    go_simp
    refine (cost_any c h wd HC.out).mono ?_
    rintro e wc ⟨rfl,hwc⟩
    rw [show wc=wd from hwc]
    refine hK.out _ _ hq0 (fun _=>?_)
    try simp only [ps]
    clear hK K
    refine runZ (i:=8) rfl rfl (by kernel_rfl) (fun K hK=>?_)
    refine wp_buildSlice 38 54 1 _ rfl #[.int .u32 (c:Int)] i5 (.int .u32 0) Try.underlying38 I5.out.1 I5.out.2.1 (by rw [I5.out.2.2.1]; decide) (by rw [I5.out.2.2.1]; decide) (by rw [I5.out.2.2.1,Array.toList_map]; exact b1_u32 _) ?_
    have hy:Ext wd (wd.alloc (.cells #[.int .u32 (c:Int)] 54)):=(Ext.refl _).alloc _
    have hnw:=heap_alloc_new wd (.cells #[.int .u32 (c:Int)] 54)
    obtain ⟨wn,hwa⟩:∃ W,wd.alloc (.cells #[.int .u32 (c:Int)] 54)=W:=⟨_,rfl⟩
    obtain ⟨bn,hnb⟩:∃ m,wd.heap.size=m:=⟨_,rfl⟩
    rw [hwa] at hnw hy ⊢
    rw [hnb] at hnw ⊢
    clear hwa hnb
    have hq1:(fun W'=>Ext w6 W'∧W'.heap[PB]?=some (.cells #[.slice a6 (k+1) c6,(.slice a2 k c2),.slice none 0 0,.slice none 0 0] 42 (0,0))) wn:=⟨hq0.1.trans hy,(hy.block PB (heap_lt hq0.2)).trans hq0.2⟩
    have hxn:Ext ws wn:=(hqx).trans hy
    have hO2:=ownR_ext HOB.out hxn
    have hbw:B≤wn.heap.size:=Nat.le_trans HBL2.out hxn.size
    refine hK.out _ _ hq1 (fun _=>?_)
    try simp only [ps]
    clear hK K
    refine runZ (i:=9) rfl rfl (by kernel_rfl) (fun K hK=>?_)
    refine oper_append_own_at _ _ 38 rfl B 54 i5 (.int .u32 0) 1 4 Try.underlying38 I5.out.1 I5.out.2.1 I5.out.2.2.1 I5.out.2.2.2 rfl (by decide) ((.slice a2 k c2)) k (kv .u32 ((List.range k).map fC)) rfl hO2 ⟨bn,0,none⟩ 1 1 [.int .u32 (c:Int)] rfl rfl ?hnews (fun u hu=>by
        have hu2:=hu
        simp only [List.mem_cons,List.not_mem_nil,or_false] at hu2
        first | (subst hu2; rfl) | (rcases hu2 with rfl | rfl <;> rfl)) (by unfold maxLen; omega) (by omega) hbw ?hfin
    case hnews=>exact fun j u hu=>World.news_of_block hnw j u (by simpa using hu)
    case hfin =>
    intro v6 wa ho6 hg6 hloc
    have hrw0:wa.heap[PB]?=some (.cells #[.slice a6 (k+1) c6,(.slice a2 k c2),.slice none 0 0,.slice none 0 0] 42 (0,0)):=(hg6.block PB (heap_lt hq1.2) (fun e=>by have h1:=(own_lt2 hO2 e.symm).1; have h2:=HPL.out; omega)).trans hq1.2
    have hq6:(fun W'=>Ext w6 W'∧W'.heap[PB]?=some (.cells #[.slice a6 (k+1) c6,(.slice a2 k c2),.slice none 0 0,.slice none 0 0] 42 (0,0))) wa:=⟨ext_grown hq1.1 hO2 HBB.out hg6,hrw0⟩
    obtain ⟨a7,c7,rfl⟩:=own_form2 ho6
    refine hK.out _ _ hq6 (fun _=>?_)
    try simp only [ps]
    clear hK K
    refine takeZ (i:=10) (z:=11) (v:=(.pointer (some ⟨PB,1,none⟩))) rfl rfl (by kernel_rfl) (by kernel_rfl) (by kernel_rfl) (by kernel_rfl) (by kernel_rfl) (by kernel_rfl) (fun _ _ _ h=>h) (Or.inl ⟨rfl,fun _ _=>rfl⟩) hq6 ?_
    simp only [ps]
    refine runZl (z:=11) rfl rfl (by kernel_rfl) (fun K hK=>?_)
    refine wp_st_at rfl 38 _ _ rfl PB 1 _ #[.slice a7 (k+1) c7] (#[.slice a6 (k+1) c6,(.slice a2 k c2),.slice none 0 0,.slice none 0 0]) (#[.slice a6 (k+1) c6,.slice a7 (k+1) c7,.slice none 0 0,.slice none 0 0]) 42 rfl rfl rfl hrw0 (by exact (by decide:1+1≤4)) (by kernel_rfl) rfl rfl (fun wz hrow hm=>?_)
    have HFR:=app_fr hxn hg6 hm
    have HROX:=Lib.hid hrow
    have hown6:wz.ownsRow B 54 1 (.slice a7 (k+1) c7) (k+1) (kv .u32 ((List.range k).map fC) ++ [.int .u32 (c:Int)]):=own_mut ho6 hm (fun g h1 h2=>by have h3:=(own_lt2 ho6 h1).1; have h4:=HPL.out; omega)
    have HSZ:ws.heap.size≤wn.heap.size:=hxn.size
    refine hK.out _ _ ?_
    try simp only [ps]
    clear hK K
    have HX9:=Lib.hid (HX8.out.app (by have:=HPW.out; omega) HOB.out HB6.out HFR)
    have HOD:=Lib.hid (show wz.ownsRow B 54 1 (.slice a7 (k+1) c7) (k+1) (kv .u32 ((List.range (k+1)).map fC)) from by rw [HS2.out]; exact hown6)
    have HOE:=Lib.hid (own_mut HOA.out HFR (fun g h1 h2=>by
     rcases h2 with h2 | h2
     ·have h3:=(own_lt2 HOA.out h1).1; have h4:=HPL.out; omega
     ·exact HDA.out g h1 h2))
    have HDB:=Lib.hid (app_dis2 HDA.out HOA.out HSZ hloc)
    have HBL3:=Lib.hid (Nat.le_trans HBL2.out HFR.size)
    clear HFR hown6 HSZ hloc
    clear hrow hm ho6 hg6 hq6 hq1 hq0 hqx hy hnw hO2 hbw hxn hrw0
    refine wpAnyH_done (by kernel_rfl) ?_ _
    go_wp2_with fail
    go_roundw
    case rel=>exact ⟨k+1,_,_,_,rfl,by go_num,by omega,HROX.out,HOE.out,HOD.out,HDB.out,HX9.out,HBL3.out⟩
    case measure=>simp [intOf] <;> omega
   ·have dlt:decide ((k:Int) < (n:Int))=false:=by simp; omega
    obtain rfl:n=k:=by omega
    rename World=>w8
    obtain ⟨sg,⟨xa,xcap,hxe,hxm,hxf⟩,hpl⟩:=HSG4.out
    obtain ⟨ns,hns⟩:∃ ns,SS.length=ns:=⟨_,rfl⟩
    rw [hns] at hxe hxm hxf hpl
    subst hxe
    have hns1:1≤ns:=by rw [← hns,HRL.out]; exact HSL.out.1
    have hns2:ns≤20:=by rw [← hns,HRL.out]; exact HSL.out.2
    obtain ⟨xb,xo,rfl,hxb,hxc,-,hx4⟩:=hxf (by omega)
    have HXB:=Lib.hid hxb
    have HXC:=Lib.hid hx4
    have HPP:=Lib.hid hpl
    have HNS:=Lib.hid hns
    have HX8:=Lib.hid (HX6.out.trans HXL.out)
    have HP8:=HPR
    have HOA8:=HO1
    have HOB8:=HO2
    have HWF8:=Lib.hid (HWF.out.ext HXL.out)
    have HSM8:=Lib.hid (HSM.out.ext HXL.out)
    have HVR8:=Lib.hid (HBV.out.ext HXL.out)
    have HMG0:=Lib.hid (show mb ≠ gf from fun e=>by
     obtain ⟨D,⟨es,clock,hb,_⟩,_⟩:=HSM.out
     have h1:w6.heap[gf]?=some (.cells (W.map cvW).toArray 84 (0,0)):=HWF.out
     rw [← e,hb] at h1
     cases h1)
    have HVP:=Lib.hid (show V < PB∧gf < PB∧mb < PB from by
     have h1:=heap_lt HBV.out; have h2:=heap_lt HWF.out; have h3:=HSM.out.lt; have h4:=HPW.out
     exact ⟨by omega,by omega,by omega⟩)
    obtain ⟨B2,hB2⟩:∃ B,w8.heap.size=B:=⟨_,rfl⟩
    have HB2:=Lib.hid hB2
    have HB5:=Lib.hid (show w5.heap.size≤B2 from by rw [← hB2]; exact HX8.out.size)
    have HPB8:=Lib.hid (show PB < B2 from by rw [← hB2]; exact heap_lt HPR.out)
    have HVB:=Lib.hid (show V < B2 from by have h1:=HVP.out.1; have h2:=HPB8.out; omega)
    have HMB:=Lib.hid (show mb < B2 from by have h1:=HVP.out.2.2; have h2:=HPB8.out; omega)
    have HGB:=Lib.hid (show gf < B2 from by have h1:=HVP.out.2.1; have h2:=HPB8.out; omega)
    obtain ⟨i2,hi2,hz2,hs2,hb2⟩:=info_parts info_pl
    have I2:=Lib.hid (And.intro hi2 (And.intro hz2 (And.intro hs2 hb2)))
    obtain ⟨i4,hi4,hz4,hs4,hb4⟩:=info_parts info_is
    have I4:=Lib.hid (And.intro hi4 (And.intro hz4 (And.intro hs4 hb4)))
    clear hB2 hxb hx4 hpl hns hxf hi2 hz2 hs2 hb2 hi4 hz4 hs4 hb4 HXL HPR HO1 HO2 HD HBL HWF HSM HBV HB0 HBB HSG4
    go_wp2_with fail
    go_loopw [70] (fun s wr=>∃ (k:Nat) (bs:Value) (mn:Nat) (wo:World),wo=wr∧s=.int .i64 k∧k≤ns∧BoxAt wo V #[.int .i64 t0,.int .i64 t1,.int .i64 t2,.int .i64 t3,.int .i64 hold,.int .i64 room,.int .i64 age,.slice (some ⟨nb,no,none⟩) n ncap,sv,.slice (some ⟨gr,0,none⟩) n rcap,.slice (some ⟨gf,0,none⟩) n n,.map (some mb),bs] 79∧WRow wo gf W∧SegM wo mb mn (segK SS k)∧mn≤60*k∧wo.ownsRow B2 58 2 bs k (flatP ((byOf N SS).take k))∧Mut (fun g=>g=V∨g=mb) w8 wo) (fun s _=>ns - (intOf s).toNat)
    case atStart=>exact ⟨0,_,0,_,rfl,rfl,by omega,HVR8.out,HWF8.out,HSM8.out,by omega,⟨rfl,.inl ⟨rfl,rfl⟩⟩,Mut.refl _ _⟩
    case round =>
     obtain ⟨k,bs,mn,wo,rfl,rfl,hk,hv,hwf,hsm,hmn,hob,hml⟩:=hrel
     rename World=>wl
     have HVR:=Lib.hid hv
     have HWFL:=Lib.hid hwf
     have HSML:=Lib.hid hsm
     have HOB:=Lib.hid hob
     have HML:=Lib.hid hml
     have HXL:=Lib.hid (HX8.out.mutE hml (fun g h1 h2=>by
      rcases h2 with h2 | h2
      ·have:=HAP.out.1; omega
      ·have:=HAP.out.2.2.1; omega))
     have HBL:=Lib.hid (show B2≤wl.heap.size from by rw [← HB2.out]; exact hml.size)
     clear hv hwf hsm hob hml
     obtain ⟨a3,c3,rfl⟩:=own_form2 HOB.out
     by_cases hlt:k < ns
     ·have dlt:decide ((k:Int) < (ns:Int))=true:=by simp; omega
      have hup:IntKind.i64.wrap ((k:Int)+1)=((k+1:Nat):Int):=by rw [IntKind.wrap_i64]; omega
      obtain ⟨seg,hseg⟩:∃ seg,SS.getD k []=seg:=⟨_,rfl⟩
      have hkl:k < SS.length:=by rw [HNS.out]; exact hlt
      have hmem:seg ∈ SS:=by
       rw [← hseg,List.getD_eq_getElem?_getD,List.getElem?_eq_getElem hkl]
       exact List.getElem_mem hkl
      have hplk:=HPP.out k hlt
      rw [hseg] at hplk
      have hls60:=HRS.out seg hmem
      obtain ⟨qa,qcap,hqe,hqm,hqf⟩:=id hplk
      obtain ⟨ls,hls⟩:∃ ls,seg.length=ls:=⟨_,rfl⟩
      rw [hls] at hqe hqm hqf hls60
      have ck:wl.cell? ⟨xb,xo+k,none⟩=some (.slice qa ls qcap):=by
       have h5:=HXC.out k hlt
       rw [Nat.mul_one] at h5
       rw [← hqe]
       exact ((HX5.out.trans HXL.out).cell HXB.out).trans (range_one h5 (j:=0) rfl)
      rw [hqe] at hplk
      have HSGK:=Lib.hid (RowAt.ext hplk (HX5.out.trans HXL.out):PlAt wl (.slice qa ls qcap) seg)
      have HQF:=Lib.hid (show 0 < ls→∃ b off,qa=some ⟨b,off,none⟩∧b < w4.heap.size∧ls≤qcap∧qcap≤9223372036854775807∧∀ i,i < ls→w4.rangeAt b (off+i*2) (plL (seg.getD i (0,0))) from hqf)
      have HPO:=Lib.hid (HRO.out seg hmem)
      have HLS:=Lib.hid hls
      have HSEG:=Lib.hid hseg
      clear hplk hqe hqm hqf hls hseg hmem hkl
      go_wp2_with fail
      refine beginZ (S:=fun W'=>Ext w5 W'∧W'.heap[V]?=some (.cells #[.int .i64 t0,.int .i64 t1,.int .i64 t2,.int .i64 t3,.int .i64 hold,.int .i64 room,.int .i64 age,.slice (some ⟨nb,no,none⟩) n ncap,sv,.slice (some ⟨gr,0,none⟩) n rcap,.slice (some ⟨gf,0,none⟩) n n,.map (some mb),(.slice a3 k c3)] 79 (0,0))) 8 (by kernel_rfl) ?_
      intro wd hqx
      have hq0:(fun W'=>Ext w5 W'∧W'.heap[V]?=some (.cells #[.int .i64 t0,.int .i64 t1,.int .i64 t2,.int .i64 t3,.int .i64 hold,.int .i64 room,.int .i64 age,.slice (some ⟨nb,no,none⟩) n ncap,sv,.slice (some ⟨gr,0,none⟩) n rcap,.slice (some ⟨gf,0,none⟩) n n,.map (some mb),(.slice a3 k c3)] 79 (0,0))) wd:=⟨HXL.out.trans hqx,(hqx.block V (heap_lt (HVR.out))).trans (HVR.out)⟩
      refine takeZ (i:=0) (z:=8) (v:=(.pointer (some ⟨V,12,none⟩))) rfl rfl (by kernel_rfl) (by kernel_rfl) (by kernel_rfl) (by kernel_rfl) (by kernel_rfl) (by kernel_rfl) (fun _ _ _ h=>h) (Or.inl ⟨rfl,fun _ _=>rfl⟩) hq0 ?_
      simp only [ps]
      refine takeZ (i:=1) (z:=8) (v:=_) rfl rfl (by kernel_rfl) (by kernel_rfl) (by kernel_rfl) (by kernel_rfl) (by kernel_rfl) (by kernel_rfl) (fun _ _ _ h=>h) (yieldsIf_cell rfl 39 _ rfl ⟨V,12,none⟩ rfl (.slice a3 k c3) _ (fun W' hW'=>(show W'.cell? ⟨V,12,none⟩=_ by rw [cell_row hW'.2]; rfl)) Try.underlying39 rfl) hq0 ?_
      simp only [ps]
      refine takeZ (i:=2) (z:=8) (v:=_) rfl rfl (by kernel_rfl) (by kernel_rfl) (by kernel_rfl) (by kernel_rfl) (by kernel_rfl) (by kernel_rfl) (fun _ _ _ h=>h) (yieldsIf_rowS rfl 79 _ rfl V rfl #[.int .i64 t0,.int .i64 t1,.int .i64 t2,.int .i64 t3,.int .i64 hold,.int .i64 room,.int .i64 age,.slice (some ⟨nb,no,none⟩) n ncap,sv,.slice (some ⟨gr,0,none⟩) n rcap,.slice (some ⟨gf,0,none⟩) n n,.map (some mb),(.slice a3 k c3)] _ _ (fun W' hW'=>hW'.2) Try.underlying79 rfl size_view) hq0 ?_
      simp only [ps]
      refine takeZ (i:=3) (z:=8) (v:=(.slice qa ls qcap)) rfl rfl (by kernel_rfl) (by kernel_rfl) (by kernel_rfl) (by kernel_rfl) (by kernel_rfl) (by kernel_rfl) (fun _ _ _ h=>h) (Or.inl ⟨rfl,fun _ _=>rfl⟩) hq0 ?_
      simp only [ps]
      refine runZ (i:=4) rfl rfl (by kernel_rfl) (fun K hK=>?_)
      go_simp
      refine (des_any t0 t1 t2 t3 hold room age nb no n ncap gf sv (.slice (some ⟨gr,0,none⟩) n rcap) (.map (some mb)) (.slice a3 k c3) N W seg (.slice qa ls qcap) wd (HN.out.ext ((HE.out.trans HE4.out).trans (HX5.out.trans (HXL.out.trans hqx)))) HNL.out hn5 (HWFL.out.ext hqx) HWL.out HWK.out (RowAt.ext HSGK.out hqx) (by rw [HLS.out]; exact hls60) HPO.out).mono ?_
      rintro e wc ⟨rfl,hwc⟩
      obtain ⟨d1,hd1⟩:∃ d,(desF N W seg).1=d:=⟨_,rfl⟩
      obtain ⟨d2,hd2⟩:∃ d,(desF N W seg).2=d:=⟨_,rfl⟩
      rw [hd1,hd2]
      have HTS:=Lib.hid (show flatP ((byOf N SS).take (k+1))=flatP ((byOf N SS).take k) ++ [.int .i64 d1,.int .i64 d2] from by
       rw [take_snoc (byOf N SS) (0,0) (by rw [byOf_len,HNS.out]; exact hlt),byOf_at N SS (by rw [HNS.out]; exact hlt),HWW.out,HSEG.out,flatP_snoc,← hd1,← hd2]
       rfl)
      have hqc:(fun W'=>Ext w5 W'∧W'.heap[V]?=some (.cells #[.int .i64 t0,.int .i64 t1,.int .i64 t2,.int .i64 t3,.int .i64 hold,.int .i64 room,.int .i64 age,.slice (some ⟨nb,no,none⟩) n ncap,sv,.slice (some ⟨gr,0,none⟩) n rcap,.slice (some ⟨gf,0,none⟩) n n,.map (some mb),(.slice a3 k c3)] 79 (0,0))) wc:=⟨hq0.1.trans hwc,(hwc.block V (heap_lt hq0.2)).trans hq0.2⟩
      refine hK.out _ _ hqc (fun _=>?_)
      try simp only [ps]
      clear hK K hd1 hd2
      refine runZ (i:=5) rfl rfl (by kernel_rfl) (fun K hK=>?_)
      refine wp_buildSlice 39 58 1 _ rfl #[.int .i64 d1,.int .i64 d2] i2 (.agg PZ2) Try.underlying39 I2.out.1 I2.out.2.1 (by rw [I2.out.2.2.1]; decide) (by rw [I2.out.2.2.1]; decide) (by rw [I2.out.2.2.1,Array.toList_map]; exact b1_pl _ _) ?_
      have hy:Ext wc (wc.alloc (.cells #[.int .i64 d1,.int .i64 d2] 58)):=(Ext.refl _).alloc _
      have hnw:=heap_alloc_new wc (.cells #[.int .i64 d1,.int .i64 d2] 58)
      obtain ⟨wn,hwa⟩:∃ W,wc.alloc (.cells #[.int .i64 d1,.int .i64 d2] 58)=W:=⟨_,rfl⟩
      obtain ⟨bn,hnb⟩:∃ m,wc.heap.size=m:=⟨_,rfl⟩
      rw [hwa] at hnw hy ⊢
      rw [hnb] at hnw ⊢
      clear hwa hnb
      have hq1:(fun W'=>Ext w5 W'∧W'.heap[V]?=some (.cells #[.int .i64 t0,.int .i64 t1,.int .i64 t2,.int .i64 t3,.int .i64 hold,.int .i64 room,.int .i64 age,.slice (some ⟨nb,no,none⟩) n ncap,sv,.slice (some ⟨gr,0,none⟩) n rcap,.slice (some ⟨gf,0,none⟩) n n,.map (some mb),(.slice a3 k c3)] 79 (0,0))) wn:=⟨hqc.1.trans hy,(hy.block V (heap_lt hqc.2)).trans hqc.2⟩
      have hxn:Ext wl wn:=(hqx.trans hwc).trans hy
      have hO2:=ownR_ext HOB.out hxn
      have hbw:B2≤wn.heap.size:=Nat.le_trans HBL.out hxn.size
      refine hK.out _ _ hq1 (fun _=>?_)
      try simp only [ps]
      clear hK K
      refine runZ (i:=6) rfl rfl (by kernel_rfl) (fun K hK=>?_)
      refine oper_append_own_at _ _ 39 rfl B2 58 i2 (.agg PZ2) 2 16 Try.underlying39 I2.out.1 I2.out.2.1 I2.out.2.2.1 I2.out.2.2.2 rfl (by decide) ((.slice a3 k c3)) k (flatP ((byOf N SS).take k)) rfl hO2 ⟨bn,0,none⟩ 1 1 [.int .i64 d1,.int .i64 d2] rfl rfl ?hnews (fun u hu=>by
          have hu2:=hu
          simp only [List.mem_cons,List.not_mem_nil,or_false] at hu2
          first | (subst hu2; rfl) | (rcases hu2 with rfl | rfl <;> rfl)) (by unfold maxLen; omega) (by omega) hbw ?hfin
      case hnews=>exact fun j u hu=>World.news_of_block hnw j u (by simpa using hu)
      case hfin =>
      intro v6 wa ho6 hg6 hloc
      have hrw0:wa.heap[V]?=some (.cells #[.int .i64 t0,.int .i64 t1,.int .i64 t2,.int .i64 t3,.int .i64 hold,.int .i64 room,.int .i64 age,.slice (some ⟨nb,no,none⟩) n ncap,sv,.slice (some ⟨gr,0,none⟩) n rcap,.slice (some ⟨gf,0,none⟩) n n,.map (some mb),(.slice a3 k c3)] 79 (0,0)):=(hg6.block V (heap_lt hq1.2) (fun e=>by have h1:=(own_lt2 hO2 e.symm).1; have h2:=HVB.out; omega)).trans hq1.2
      have hq6:(fun W'=>Ext w5 W'∧W'.heap[V]?=some (.cells #[.int .i64 t0,.int .i64 t1,.int .i64 t2,.int .i64 t3,.int .i64 hold,.int .i64 room,.int .i64 age,.slice (some ⟨nb,no,none⟩) n ncap,sv,.slice (some ⟨gr,0,none⟩) n rcap,.slice (some ⟨gf,0,none⟩) n n,.map (some mb),(.slice a3 k c3)] 79 (0,0))) wa:=⟨ext_grown hq1.1 hO2 HB5.out hg6,hrw0⟩
      obtain ⟨a6,c6,rfl⟩:=own_form2 ho6
      refine hK.out _ _ hq6 (fun _=>?_)
      try simp only [ps]
      clear hK K
      refine takeZ (i:=7) (z:=8) (v:=(.pointer (some ⟨V,12,none⟩))) rfl rfl (by kernel_rfl) (by kernel_rfl) (by kernel_rfl) (by kernel_rfl) (by kernel_rfl) (by kernel_rfl) (fun _ _ _ h=>h) (Or.inl ⟨rfl,fun _ _=>rfl⟩) hq6 ?_
      simp only [ps]
      refine runZl (z:=8) rfl rfl (by kernel_rfl) (fun K hK=>?_)
      refine wp_st_at rfl 39 _ _ rfl V 12 _ #[.slice a6 (k+1) c6] (#[.int .i64 t0,.int .i64 t1,.int .i64 t2,.int .i64 t3,.int .i64 hold,.int .i64 room,.int .i64 age,.slice (some ⟨nb,no,none⟩) n ncap,sv,.slice (some ⟨gr,0,none⟩) n rcap,.slice (some ⟨gf,0,none⟩) n n,.map (some mb),(.slice a3 k c3)]) (#[.int .i64 t0,.int .i64 t1,.int .i64 t2,.int .i64 t3,.int .i64 hold,.int .i64 room,.int .i64 age,.slice (some ⟨nb,no,none⟩) n ncap,sv,.slice (some ⟨gr,0,none⟩) n rcap,.slice (some ⟨gf,0,none⟩) n n,.map (some mb),.slice a6 (k+1) c6]) 79 rfl rfl rfl hrw0 (by exact (by decide:12+1≤13)) (by kernel_rfl) rfl rfl (fun ws hrow hm=>?_)
      have HFR:=app_fr hxn hg6 hm
      have HROW:=Lib.hid hrow
      have hown6:ws.ownsRow B2 58 2 (.slice a6 (k+1) c6) (k+1) (flatP ((byOf N SS).take k) ++ [.int .i64 d1,.int .i64 d2]):=own_mut ho6 hm (fun g h1 h2=>by have h3:=(own_lt2 ho6 h1).1; have h4:=HVB.out; omega)
      have HSZ:wl.heap.size≤wn.heap.size:=hxn.size
      refine hK.out _ _ ?_
      try simp only [ps]
      clear hK K
      have HXS:=Lib.hid (HXL.out.app HAP.out.1 HOB.out HB5.out HFR)
      have HMS:=Lib.hid (HML.out.app HFR (fun g h1 h2=>by
       rcases h2 with h2 | h2
       ·exact .inl h2
       ·have h3:=(own_lt2 HOB.out h2).1; have h4:=HB2.out; omega))
      have HSMS:=Lib.hid (HSML.out.blk (HFR.heap HSML.out.lt (fun h2=>by
       rcases h2 with h2 | h2
       ·exact HAP.out.2.2.2.2 h2.symm
       ·have h3:=(own_lt2 HOB.out h2).1; have h4:=HMB.out; omega)))
      have HWFS:=Lib.hid (HWFL.out.mut HFR (fun h2=>by
       rcases h2 with h2 | h2
       ·exact HAP.out.2.2.2.1 h2.symm
       ·have h3:=(own_lt2 HOB.out h2).1; have h4:=HGB.out; omega))
      have HOBS:=Lib.hid (show ws.ownsRow B2 58 2 (.slice a6 (k+1) c6) (k+1) (flatP ((byOf N SS).take (k+1))) from by rw [HTS.out]; exact hown6)
      clear HFR hown6 HSZ hloc hwc
      clear hrow hm ho6 hg6 hq6 hq1 hq0 hqx hy hnw hO2 hbw hxn hrw0
      refine wpAnyH_done (by kernel_rfl) ?_ _
      clear ck
      go_wp2_with fail
      go_loopw [85] (fun s wr=>∃ (j:Nat) (wo:World),wo=wr∧s=.int .i64 j∧j≤ls∧BoxAt wo V #[.int .i64 t0,.int .i64 t1,.int .i64 t2,.int .i64 t3,.int .i64 hold,.int .i64 room,.int .i64 age,.slice (some ⟨nb,no,none⟩) n ncap,sv,.slice (some ⟨gr,0,none⟩) n rcap,.slice (some ⟨gf,0,none⟩) n n,.map (some mb),.slice a6 (k+1) c6] 79∧WRow wo gf W∧SegM wo mb (mn+j) (putS k (segK SS k) (seg.take j))∧wo.ownsRow B2 58 2 (.slice a6 (k+1) c6) (k+1) (flatP ((byOf N SS).take (k+1)))∧Mut (fun g=>g=V∨g=mb) w8 wo) (fun s _=>ls - (intOf s).toNat)
      case atStart=>exact ⟨0,_,rfl,rfl,by omega,HROW.out,HWFS.out,by simpa [putS] using HSMS.out,HOBS.out,HMS.out⟩
      case round =>
       clear HROW HWFS HSMS HOBS HMS HXS
       obtain ⟨j,wo,rfl,rfl,hj,hv,hwf,hsm,hob,hml⟩:=hrel
       rename World=>wk
       have HVRk:=Lib.hid hv
       have HWFk:=Lib.hid hwf
       have HSMk:=Lib.hid hsm
       have HOBk:=Lib.hid hob
       have HMLk:=Lib.hid hml
       have HXLk:=Lib.hid (HX8.out.mutE hml (fun g h1 h2=>by
        rcases h2 with h2 | h2
        ·have:=HAP.out.1; omega
        ·have:=HAP.out.2.2.1; omega))
       clear hv hwf hsm hob hml
       by_cases hlt2:j < ls
       ·have dlt2:decide ((j:Int) < (ls:Int))=true:=by simp; omega
        have hup2:IntKind.i64.wrap ((j:Int)+1)=((j+1:Nat):Int):=by rw [IntKind.wrap_i64]; omega
        obtain ⟨qb,qo,rfl,hqb,hq2,hq3,hq4⟩:=HQF.out (by omega)
        obtain ⟨p,hp⟩:∃ p,seg.getD j (0,0)=p:=⟨_,rfl⟩
        have RS:=Lib.hid (show wk.rangeAt qb (qo+j*2) [.int .i64 p.1,.int .i64 p.2] from by
         have h4:=rangeR_ext (hq4 j hlt2) (HX5.out.trans HXLk.out) hqb
         rw [hp] at h4
         exact h4)
        have hjl:j < seg.length:=by rw [HLS.out]; exact hlt2
        have hpok:=HPO.out p (by
         rw [← hp,List.getD_eq_getElem?_getD,List.getElem?_eq_getElem hjl]
         exact List.getElem_mem hjl)
        have HPG:=Lib.hid (show PRg p from by
         obtain ⟨e1,e2,e3,e4⟩:=hpok
         have e5:p.1.toNat < N.length:=by omega
         have e6:(N.getD p.1.toNat default).ports.length≤60:=by
          rw [List.getD_eq_getElem?_getD,List.getElem?_eq_getElem e5]
          exact HP6.out _ (List.getElem_mem e5)
         have e7:=HNL.out
         unfold PRg
         omega)
        have HTK:=Lib.hid (show putS k (segK SS k) (seg.take (j+1))=fun x=>if x=p then some (k:Int) else putS k (segK SS k) (seg.take j) x from by
         rw [take_snoc seg (0,0) hjl,hp,putS_snoc])
        clear hq4 hp hjl hpok
        go_wp2_with (first
         | fail
         | ((with_reducible refine at_load 58 ?_); refine wpList_load_mid rfl 58 _ rfl qb (qo+j*2) rfl [.int .i64 p.1,.int .i64 p.2] _ RS.out Try.underlying58 rfl size_pl ?_)
         | ((with_reducible refine at_alloc 58 ?_); refine al_zero rfl 58 rfl PZ2 zero_pl ?_
            intro G w9 hq9 hsz9 hx9)
         | ((with_reducible refine at_store 58 ?_); refine st_at rfl rfl 58 _ _ rfl G 0 _ #[.int .i64 p.1,.int .i64 p.2] PZ2 #[.int .i64 p.1,.int .i64 p.2] 58 rfl rfl rfl hq9 (by exact (by decide:0+2≤2)) (by kernel_rfl) rfl rfl ?_
            intro wg hqg hmg
            have E5:Ext wk wg:=hx9.mutE hmg (fun n hn h=>by have h2:n=G:=h; omega)
            have HGG:=Lib.hid (show BoxAt wg G #[.int .i64 p.1,.int .i64 p.2] 58 from hqg)
            have HVG:=Lib.hid (HVRk.out.ext E5)
            have c11:wg.cell? ⟨V,11,none⟩=some (.map (some mb)):=HVG.out.cell 11 rfl
            have HWG:=Lib.hid (HWFk.out.ext E5)
            have HSG:=Lib.hid (HSMk.out.ext E5)
            have HOG:=Lib.hid (ownR_ext HOBk.out E5)
            have HMG:=Lib.hid (HMLk.out.trans (E5.mut _))
            clear hq9 hsz9 hx9 hqg hmg E5 w9)
         | ((with_reducible refine at_load 58 ?_); refine wpList_load_row rfl 58 _ rfl G rfl 58 #[.int .i64 p.1,.int .i64 p.2] (0,0) _ HGG.out Try.underlying58 rfl size_pl ?_)
         | (at_mapUpdate; refine wpList_mapU rfl _ _ _ rfl mb p (k:Int) rfl rfl rfl HSG.out (by unfold maxLen; omega) HPG.out (by omega) ?_
            intro w9 hs9 hg9
            have hgm:=grown_mut hg9
            have HV9:=Lib.hid (HVG.out.mut hgm (fun h=>by have h2:mb=V:=(by simpa using h); exact HAP.out.2.2.2.2 h2.symm))
            have HW9:=Lib.hid (HWG.out.mut hgm (fun h=>by have h2:mb=gf:=(by simpa using h); exact HMG0.out h2))
            have HS9:=Lib.hid (show SegM w9 mb (mn+(j+1)) (putS k (segK SS k) (seg.take (j+1))) from by rw [HTK.out]; exact hs9)
            have HO9:=Lib.hid (own_mut HOG.out hgm (fun g h1 h=>by have h2:mb=g:=(by simpa using h); have h3:=(own_lt2 HOG.out h1).1; have h4:=HMB.out; omega))
            have HM9:=Lib.hid (HMG.out.trans (hgm.mono (fun g _ h=>by have h2:mb=g:=(by simpa using h); exact .inr h2.symm)))
            clear hs9 hg9 hgm c11 HVG HWG HSG HOG HMG HGG wg))
        go_roundw
        case rel=>exact ⟨j+1,_,rfl,by go_num,by omega,HV9.out,HW9.out,HS9.out,HO9.out,HM9.out⟩
        case measure=>simp [intOf] <;> omega
       ·have dlt2:decide ((j:Int) < (ls:Int))=false:=by simp; omega
        obtain rfl:j=ls:=by omega
        go_wp2_with fail
        go_roundw
        case rel=>exact ⟨k+1,_,mn+j,_,rfl,by go_num,by omega,HVRk.out,HWFk.out,by
         have h1:=HSMk.out
         rw [List.take_of_length_le (by rw [HLS.out]; exact Nat.le_refl _)] at h1
         show SegM _ mb _ (putS k (segK SS k) (SS.getD k []))
         rw [HSEG.out]
         exact h1,by omega,HOBk.out,HMLk.out⟩
        case measure=>simp [intOf] <;> omega
     ·have dlt:decide ((k:Int) < (ns:Int))=false:=by simp; omega
      obtain rfl:ns=k:=by omega
      have hby:(byOf N SS).take ns=byOf N SS:=List.take_of_length_le (by rw [byOf_len,HNS.out]; exact Nat.le_refl _)
      rw [hby] at HOB
      have hbl:(byOf N SS).length=ns:=by rw [byOf_len,HNS.out]
      have hfb:∀ a s,segF SS a=some s→0≤s∧s < ns∧PlOk N ((byOf N SS).getD s.toNat (0,0)):=fun a s h=>by
       obtain ⟨q1,q2,q3⟩:=segF_ok HRO.out h
       rw [HNS.out] at q2
       exact ⟨q1,q2,q3⟩
      have hbr:=byOf_rg HRO.out (by rw [HNL.out]; omega) (fun x hx=>Nat.le_trans (HP6.out x hx) (by omega))
      obtain ⟨By,hBy⟩:∃ By,byOf N SS=By:=⟨_,rfl⟩
      rw [hBy] at HOB hbl hfb hbr
      have HBY:=Lib.hid hBy
      have HBYN:=Lib.hid hbl
      have HFB:=Lib.hid hfb
      have HBR:=Lib.hid hbr
      have hsg:segF SS=segK SS ns:=by unfold segF; rw [HNS.out]
      rw [← hsg] at HSML
      obtain ⟨yb,ycap,hye,hyb,hpy⟩:=PlAt.form (by rw [hbl]; exact HOB.out) (by rw [hbl]; exact hns1) (by rw [hbl]; omega)
      rw [hbl] at hye hpy
      simp only [Value.slice.injEq,true_and] at hye
      obtain ⟨rfl,hyc⟩:=hye
      obtain rfl:=hyc.symm
      have HYB:=Lib.hid hyb
      have HPY:=Lib.hid hpy
      have HPBL:=Lib.hid (HP8.out.mut HML.out (fun h=>by
       rcases h with h | h
       ·have:=HVP.out.1; omega
       ·have:=HVP.out.2.2; omega))
      have hown:∀ {e:TypeId} {m q:Nat} {v:Value} {xs:List Value},w8.ownsRow B e m v q xs→wl.ownsRow B e m v q xs:=fun h=>own_mut h HML.out (fun g h1 h2=>by
       have h3:=(own_lt2 h h1).1
       have h4:=HPL.out
       rcases h2 with h2 | h2
       ·have:=HVP.out.1; omega
       ·have:=HVP.out.2.2; omega)
      have HOAL:=Lib.hid (hown HOA8.out)
      have HOBL:=Lib.hid (hown HOB8.out)
      have HPB5:=Lib.hid (show w5.heap.size≤PB from by have h1:=HX6.out.size; have h2:=HPW.out; omega)
      have c12:wl.cell? ⟨V,12,none⟩=some (.slice (some ⟨yb,0,none⟩) ns ycap):=HVR.out.cell 12 rfl
      clear hby hbl hfb hbr hBy hsg hyb hpy hown
      go_wp2_with (first
       | fail
       | ((with_reducible refine at_store 39 ?_); refine st_at rfl rfl 39 _ _ rfl PB 2 _ #[.slice (some ⟨yb,0,none⟩) ns ycap] #[.slice a1 n c1,.slice a2 n c2,.slice none 0 0,.slice none 0 0] #[.slice a1 n c1,.slice a2 n c2,.slice (some ⟨yb,0,none⟩) ns ycap,.slice none 0 0] 42 rfl rfl rfl HPBL.out (by exact (by decide:2+1≤4)) (by kernel_rfl) rfl rfl ?_
          intro w9 hq9 hm9
          have HX9:=Lib.hid (HXL.out.mutE hm9 (fun g h1 h2=>by have h3:g=PB:=h2; have h4:=HPB5.out; omega))
          have HP9:=Lib.hid (show BoxAt w9 PB #[.slice a1 n c1,.slice a2 n c2,.slice (some ⟨yb,0,none⟩) ns ycap,.slice none 0 0] 42 from hq9)
          have HV9:=Lib.hid (HVR.out.mut hm9 (fun h=>by have h2:V=PB:=h; have:=HVP.out.1; omega))
          have HW9:=Lib.hid (HWFL.out.mut hm9 (fun h=>by have h2:gf=PB:=h; have:=HVP.out.2.1; omega))
          have HS9:=Lib.hid (HSML.out.blk (hm9.heap HSML.out.lt (fun h=>by have h2:mb=PB:=h; have:=HVP.out.2.2; omega)))
          have HY9:=Lib.hid (show PlAt w9 (.slice (some ⟨yb,0,none⟩) ns ycap) By from RowAt.mut HPY.out hm9 (fun a o n c h h2=>by
           have h3:a=PB:=h2
           simp only [Value.slice.injEq,Option.some.injEq,Addr.mk.injEq] at h
           have h4:=h.1.1
           have h5:=HYB.out
           have h6:=HPB8.out
           omega))
          have HOA9:=Lib.hid (own_mut HOAL.out hm9 (fun g h1 h2=>by have h3:=(own_lt2 HOAL.out h1).1; have h4:=HPL.out; have h5:g=PB:=h2; omega))
          have HOB9:=Lib.hid (own_mut HOBL.out hm9 (fun g h1 h2=>by have h3:=(own_lt2 HOBL.out h1).1; have h4:=HPL.out; have h5:g=PB:=h2; omega))
          have HOC9:=Lib.hid (own_mut HOB.out hm9 (fun g h1 h2=>by have h3:=(own_lt2 HOB.out h1).1; have h4:=HPB8.out; have h5:g=PB:=h2; omega))
          have c7:w9.cell? ⟨X,7,none⟩=some (.slice (some ⟨nb,no,none⟩) n ncap):=(HX5b.out.ext HX9.out).cell 7 rfl
          obtain ⟨B4,hB4⟩:∃ B,w9.heap.size=B:=⟨_,rfl⟩
          have HB4:=Lib.hid hB4
          have HPB4:=Lib.hid (show PB < B4 from by rw [← hB4]; exact heap_lt hq9)
          have HVB4:=Lib.hid (show V < B4 from by rw [← hB4]; exact heap_lt HV9.out)
          have HB59:=Lib.hid (show w5.heap.size≤B4 from by rw [← hB4]; exact HX9.out.size)
          clear hq9 hm9 c12 hB4 HVR HWFL HSML HOB HML HXL HBL HB5))
      rename Hid (w5.heap.size≤B4)=>HB5
      clear c7
      go_loopw [101] (fun s wr=>∃ (k:Nat) (ds:Value) (xs:List Value) (wo:World),wo=wr∧s=.int .i64 k∧k≤n∧BoxAt wo PB #[.slice a1 n c1,.slice a2 n c2,.slice (some ⟨yb,0,none⟩) ns ycap,ds] 42∧wo.ownsRow B4 56 1 ds k xs∧(∀ i,i < k→∃ rv,xs[i]?=some rv∧IntsR wo B4 rv (roleF N W R (segF SS) By i)∧∀ g,rv.ownBlock=some g→ds.ownBlock ≠ some g)∧Mut (fun g=>g=PB) w9 wo) (fun s _=>n - (intOf s).toNat)
      case atStart=>exact ⟨0,_,[],_,rfl,rfl,by omega,HP9.out,⟨rfl,.inl ⟨rfl,rfl⟩⟩,fun i hi=>by omega,Mut.refl _ _⟩
      case round =>
       obtain ⟨k,ds,xs,wo,rfl,rfl,hk,hp,hod,hrl4,hml⟩:=hrel
       rename World=>wl
       have HPR:=Lib.hid hp
       have HOD:=Lib.hid hod
       have HRL4:=Lib.hid hrl4
       have HML:=Lib.hid hml
       have HXL:=Lib.hid (HX9.out.mutE hml (fun g h1 h2=>by have h3:g=PB:=h2; have h4:=HPB5.out; omega))
       have HVR:=Lib.hid (HV9.out.mut hml (fun h=>by have h2:V=PB:=h; have:=HVP.out.1; omega))
       have HWFL:=Lib.hid (HW9.out.mut hml (fun h=>by have h2:gf=PB:=h; have:=HVP.out.2.1; omega))
       have HSML:=Lib.hid (HS9.out.blk (hml.heap HS9.out.lt (fun h=>by have h2:mb=PB:=h; have:=HVP.out.2.2; omega)))
       have HBYL:=Lib.hid (show PlAt wl (.slice (some ⟨yb,0,none⟩) ns ycap) By from RowAt.mut HY9.out hml (fun a o n c h h2=>by
        have h3:a=PB:=h2
        simp only [Value.slice.injEq,Option.some.injEq,Addr.mk.injEq] at h
        have h4:=h.1.1
        have h5:=HYB.out
        have h6:=HPB8.out
        omega))
       have HBL:=Lib.hid (show B4≤wl.heap.size from by rw [← HB4.out]; exact hml.size)
       clear hp hod hrl4 hml
       obtain ⟨a4,c4,rfl⟩:=own_form2 HOD.out
       by_cases hlt:k < n
       ·have dlt:decide ((k:Int) < (n:Int))=true:=by simp; omega
        have hup:IntKind.i64.wrap ((k:Int)+1)=((k+1:Nat):Int):=by rw [IntKind.wrap_i64]; omega
        go_wp2_with fail
        refine beginZ (S:=fun W'=>Ext w5 W'∧W'.heap[PB]?=some (.cells #[.slice a1 n c1,.slice a2 n c2,.slice (some ⟨yb,0,none⟩) ns ycap,(.slice a4 k c4)] 42 (0,0))∧W'.heap[V]?=some (.cells #[.int .i64 t0,.int .i64 t1,.int .i64 t2,.int .i64 t3,.int .i64 hold,.int .i64 room,.int .i64 age,.slice (some ⟨nb,no,none⟩) n ncap,sv,.slice (some ⟨gr,0,none⟩) n rcap,.slice (some ⟨gf,0,none⟩) n n,.map (some mb),.slice (some ⟨yb,0,none⟩) ns ycap] 79 (0,0))) 8 (by kernel_rfl) ?_
        intro wd hqx
        have hq0:(fun W'=>Ext w5 W'∧W'.heap[PB]?=some (.cells #[.slice a1 n c1,.slice a2 n c2,.slice (some ⟨yb,0,none⟩) ns ycap,(.slice a4 k c4)] 42 (0,0))∧W'.heap[V]?=some (.cells #[.int .i64 t0,.int .i64 t1,.int .i64 t2,.int .i64 t3,.int .i64 hold,.int .i64 room,.int .i64 age,.slice (some ⟨nb,no,none⟩) n ncap,sv,.slice (some ⟨gr,0,none⟩) n rcap,.slice (some ⟨gf,0,none⟩) n n,.map (some mb),.slice (some ⟨yb,0,none⟩) ns ycap] 79 (0,0))) wd:=⟨HXL.out.trans hqx,(hqx.block PB (heap_lt (HPR.out))).trans (HPR.out),(hqx.block V (heap_lt (HVR.out))).trans (HVR.out)⟩
        refine takeZ (i:=0) (z:=8) (v:=(.pointer (some ⟨PB,3,none⟩))) rfl rfl (by kernel_rfl) (by kernel_rfl) (by kernel_rfl) (by kernel_rfl) (by kernel_rfl) (by kernel_rfl) (fun _ _ _ h=>h) (Or.inl ⟨rfl,fun _ _=>rfl⟩) hq0 ?_
        simp only [ps]
        refine takeZ (i:=1) (z:=8) (v:=_) rfl rfl (by kernel_rfl) (by kernel_rfl) (by kernel_rfl) (by kernel_rfl) (by kernel_rfl) (by kernel_rfl) (fun _ _ _ h=>h) (yieldsIf_cell rfl 40 _ rfl ⟨PB,3,none⟩ rfl (.slice a4 k c4) _ (fun W' hW'=>(show W'.cell? ⟨PB,3,none⟩=_ by rw [cell_row hW'.2.1]; rfl)) Try.underlying40 rfl) hq0 ?_
        simp only [ps]
        refine takeZ (i:=2) (z:=8) (v:=_) rfl rfl (by kernel_rfl) (by kernel_rfl) (by kernel_rfl) (by kernel_rfl) (by kernel_rfl) (by kernel_rfl) (fun _ _ _ h=>h) (yieldsIf_rowS rfl 79 _ rfl V rfl #[.int .i64 t0,.int .i64 t1,.int .i64 t2,.int .i64 t3,.int .i64 hold,.int .i64 room,.int .i64 age,.slice (some ⟨nb,no,none⟩) n ncap,sv,.slice (some ⟨gr,0,none⟩) n rcap,.slice (some ⟨gf,0,none⟩) n n,.map (some mb),.slice (some ⟨yb,0,none⟩) ns ycap] _ _ (fun W' hW'=>hW'.2.2) Try.underlying79 rfl size_view) hq0 ?_
        simp only [ps]
        refine takeZ (i:=3) (z:=8) (v:=(.int .i64 (k:Int))) rfl rfl (by kernel_rfl) (by kernel_rfl) (by kernel_rfl) (by kernel_rfl) (by kernel_rfl) (by kernel_rfl) (fun _ _ _ h=>h) (Or.inl ⟨rfl,fun _ _=>rfl⟩) hq0 ?_
        simp only [ps]
        refine runZ (i:=4) rfl rfl (by kernel_rfl) (fun K hK=>?_)
        go_simp
        refine (roles_any t0 t1 t2 t3 hold room age nb no n ncap gr rcap gf mb mn yb 0 ns ycap k sv N W R (segF SS) By wd (HN.out.ext ((HE.out.trans HE4.out).trans (HX5.out.trans (HXL.out.trans hqx)))) HNL.out hn5 (HWFL.out.ext hqx) HWL.out HWK.out HCO.out (HSML.out.ext hqx) (RowAt.ext HBYL.out hqx) HBYN.out HFB.out HBR.out (HRN.out.ext (HXL.out.trans hqx)) HRO5.out HRC.out hlt (by rw [List.getD_eq_getElem?_getD,List.getElem?_eq_getElem (by rw [HNL.out]; exact hlt)]; exact HP6.out _ (List.getElem_mem _))).mono ?_
        rintro e wc ⟨rv,rfl,hro,hwc⟩
        obtain ⟨rl,hrl⟩:∃ l,roleF N W R (segF SS) By k=l:=⟨_,rfl⟩
        rw [hrl] at hro
        obtain ⟨ra,rc,rfl⟩:=hro.one
        obtain ⟨rn,hrn⟩:∃ m,rl.length=m:=⟨_,rfl⟩
        rw [hrn] at hro ⊢
        have HRLK:=Lib.hid hrl
        have hqc:(fun W'=>Ext w5 W'∧W'.heap[PB]?=some (.cells #[.slice a1 n c1,.slice a2 n c2,.slice (some ⟨yb,0,none⟩) ns ycap,(.slice a4 k c4)] 42 (0,0))∧W'.heap[V]?=some (.cells #[.int .i64 t0,.int .i64 t1,.int .i64 t2,.int .i64 t3,.int .i64 hold,.int .i64 room,.int .i64 age,.slice (some ⟨nb,no,none⟩) n ncap,sv,.slice (some ⟨gr,0,none⟩) n rcap,.slice (some ⟨gf,0,none⟩) n n,.map (some mb),.slice (some ⟨yb,0,none⟩) ns ycap] 79 (0,0))) wc:=⟨hq0.1.trans hwc,(hwc.block PB (heap_lt hq0.2.1)).trans hq0.2.1,(hwc.block V (heap_lt hq0.2.2)).trans hq0.2.2⟩
        refine hK.out _ _ hqc (fun _=>?_)
        try simp only [ps]
        clear hK K hrn hrl
        refine runZ (i:=5) rfl rfl (by kernel_rfl) (fun K hK=>?_)
        refine wp_buildSlice 40 56 1 _ rfl #[.slice ra rn rc] i4 (.slice none 0 0) Try.underlying40 I4.out.1 I4.out.2.1 (by rw [I4.out.2.2.1]; decide) (by rw [I4.out.2.2.1]; decide) (by rw [I4.out.2.2.1,Array.toList_map]; exact b1_is _ _ _) ?_
        have hy:Ext wc (wc.alloc (.cells #[.slice ra rn rc] 56)):=(Ext.refl _).alloc _
        have hnw:=heap_alloc_new wc (.cells #[.slice ra rn rc] 56)
        obtain ⟨wn,hwa⟩:∃ W,wc.alloc (.cells #[.slice ra rn rc] 56)=W:=⟨_,rfl⟩
        obtain ⟨bn,hnb⟩:∃ m,wc.heap.size=m:=⟨_,rfl⟩
        rw [hwa] at hnw hy ⊢
        rw [hnb] at hnw ⊢
        clear hwa hnb
        have hq1:(fun W'=>Ext w5 W'∧W'.heap[PB]?=some (.cells #[.slice a1 n c1,.slice a2 n c2,.slice (some ⟨yb,0,none⟩) ns ycap,(.slice a4 k c4)] 42 (0,0))∧W'.heap[V]?=some (.cells #[.int .i64 t0,.int .i64 t1,.int .i64 t2,.int .i64 t3,.int .i64 hold,.int .i64 room,.int .i64 age,.slice (some ⟨nb,no,none⟩) n ncap,sv,.slice (some ⟨gr,0,none⟩) n rcap,.slice (some ⟨gf,0,none⟩) n n,.map (some mb),.slice (some ⟨yb,0,none⟩) ns ycap] 79 (0,0))) wn:=⟨hqc.1.trans hy,(hy.block PB (heap_lt hqc.2.1)).trans hqc.2.1,(hy.block V (heap_lt hqc.2.2)).trans hqc.2.2⟩
        have hxn:Ext wl wn:=(hqx.trans hwc).trans hy
        have hO2:=ownR_ext HOD.out hxn
        have hbw:B4≤wn.heap.size:=Nat.le_trans HBL.out hxn.size
        refine hK.out _ _ hq1 (fun _=>?_)
        try simp only [ps]
        clear hK K
        refine runZ (i:=6) rfl rfl (by kernel_rfl) (fun K hK=>?_)
        refine oper_append_own_at _ _ 40 rfl B4 56 i4 (.slice none 0 0) 1 24 Try.underlying40 I4.out.1 I4.out.2.1 I4.out.2.2.1 I4.out.2.2.2 rfl (by decide) ((.slice a4 k c4)) k (xs) rfl hO2 ⟨bn,0,none⟩ 1 1 [.slice ra rn rc] rfl rfl ?hnews (fun u hu=>by
            have hu2:=hu
            simp only [List.mem_cons,List.not_mem_nil,or_false] at hu2
            first | (subst hu2; rfl) | (rcases hu2 with rfl | rfl <;> rfl)) (by unfold maxLen; omega) (by omega) hbw ?hfin
        case hnews=>exact fun j u hu=>World.news_of_block hnw j u (by simpa using hu)
        case hfin =>
        intro v6 wa ho6 hg6 hloc
        have hrw0:wa.heap[PB]?=some (.cells #[.slice a1 n c1,.slice a2 n c2,.slice (some ⟨yb,0,none⟩) ns ycap,(.slice a4 k c4)] 42 (0,0)):=(hg6.block PB (heap_lt hq1.2.1) (fun e=>by have h1:=(own_lt2 hO2 e.symm).1; have h2:=HPB4.out; omega)).trans hq1.2.1
        have hrw1:wa.heap[V]?=some (.cells #[.int .i64 t0,.int .i64 t1,.int .i64 t2,.int .i64 t3,.int .i64 hold,.int .i64 room,.int .i64 age,.slice (some ⟨nb,no,none⟩) n ncap,sv,.slice (some ⟨gr,0,none⟩) n rcap,.slice (some ⟨gf,0,none⟩) n n,.map (some mb),.slice (some ⟨yb,0,none⟩) ns ycap] 79 (0,0)):=(hg6.block V (heap_lt hq1.2.2) (fun e=>by have h1:=(own_lt2 hO2 e.symm).1; have h2:=HVB4.out; omega)).trans hq1.2.2
        have hq6:(fun W'=>Ext w5 W'∧W'.heap[PB]?=some (.cells #[.slice a1 n c1,.slice a2 n c2,.slice (some ⟨yb,0,none⟩) ns ycap,(.slice a4 k c4)] 42 (0,0))∧W'.heap[V]?=some (.cells #[.int .i64 t0,.int .i64 t1,.int .i64 t2,.int .i64 t3,.int .i64 hold,.int .i64 room,.int .i64 age,.slice (some ⟨nb,no,none⟩) n ncap,sv,.slice (some ⟨gr,0,none⟩) n rcap,.slice (some ⟨gf,0,none⟩) n n,.map (some mb),.slice (some ⟨yb,0,none⟩) ns ycap] 79 (0,0))) wa:=⟨ext_grown hq1.1 hO2 HB5.out hg6,hrw0,hrw1⟩
        obtain ⟨a6,c6,rfl⟩:=own_form2 ho6
        refine hK.out _ _ hq6 (fun _=>?_)
        try simp only [ps]
        clear hK K
        refine takeZ (i:=7) (z:=8) (v:=(.pointer (some ⟨PB,3,none⟩))) rfl rfl (by kernel_rfl) (by kernel_rfl) (by kernel_rfl) (by kernel_rfl) (by kernel_rfl) (by kernel_rfl) (fun _ _ _ h=>h) (Or.inl ⟨rfl,fun _ _=>rfl⟩) hq6 ?_
        simp only [ps]
        refine runZl (z:=8) rfl rfl (by kernel_rfl) (fun K hK=>?_)
        refine wp_st_at rfl 40 _ _ rfl PB 3 _ #[.slice a6 (k+1) c6] (#[.slice a1 n c1,.slice a2 n c2,.slice (some ⟨yb,0,none⟩) ns ycap,(.slice a4 k c4)]) (#[.slice a1 n c1,.slice a2 n c2,.slice (some ⟨yb,0,none⟩) ns ycap,.slice a6 (k+1) c6]) 42 rfl rfl rfl hrw0 (by exact (by decide:3+1≤4)) (by kernel_rfl) rfl rfl (fun ws hrow hm=>?_)
        have HFR:=app_fr hxn hg6 hm
        have HROW:=Lib.hid hrow
        have hown6:ws.ownsRow B4 56 1 (.slice a6 (k+1) c6) (k+1) (xs ++ [.slice ra rn rc]):=own_mut ho6 hm (fun g h1 h2=>by have h3:=(own_lt2 ho6 h1).1; have h4:=HPB4.out; omega)
        have HSZ:wl.heap.size≤wn.heap.size:=hxn.size
        refine hK.out _ _ ?_
        try simp only [ps]
        clear hK K
        have HXS:=Lib.hid (HXL.out.app HPB5.out HOD.out HB5.out HFR)
        have HMS:=Lib.hid (HML.out.app HFR (fun g h1 h2=>by
         rcases h2 with h2 | h2
         ·exact h2
         ·have h3:=(own_lt2 HOD.out h2).1; have h4:=HB4.out; omega))
        have HXN:=Lib.hid (show xs.length=k from by have h1:=HOD.out.1; omega)
        have HODS:=Lib.hid (show ws.ownsRow B4 56 1 (.slice a6 (k+1) c6) (k+1) (xs ++ [.slice ra rn rc]) from hown6)
        have hsw:wl.heap.size≤wd.heap.size:=hqx.size
        have hsc:wc.heap.size≤wn.heap.size:=hy.size
        have HNEW:=Lib.hid (show IntsR ws B4 (.slice ra rn rc) rl∧∀ g,Value.ownBlock (.slice ra rn rc)=some g→Value.ownBlock (.slice a6 (k+1) c6) ≠ some g from by
         refine ⟨?_,fun g h1 h2=>?_⟩
         ·have h3:=((hro.ext hy).mut (grown_mut hg6) (fun g h1 h2=>by have h4:=(own_lt2 HOD.out h2).2; have h5:=(hro.blk h1).1; omega)).mut hm (fun g h1 h2=>by have h5:=(hro.blk h1).1; have h6:=HPB4.out; have h7:=HBL.out; omega)
          rcases h3 with h3 | ⟨g,cap,p1,p2,p3,p4⟩
          ·exact .inl h3
          ·exact .inr ⟨g,cap,p1,p2,p3,by have h7:=HBL.out; omega⟩
         ·have h5:=hro.blk h1
          rcases hloc with h3 | h3
          ·rw [h3] at h2
           have h4:=(own_lt2 HOD.out h2).2
           omega
          ·rw [h3] at h2
           have h4:wn.heap.size=g:=by simpa using h2
           omega)
        have HOLD:=Lib.hid (show ∀ i,i < k→∃ rv,xs[i]?=some rv∧IntsR ws B4 rv (roleF N W R (segF SS) By i)∧∀ g,rv.ownBlock=some g→Value.ownBlock (.slice a6 (k+1) c6) ≠ some g from fun i hi=>by
         obtain ⟨rv,q1,q2,q3⟩:=HRL4.out i hi
         refine ⟨rv,q1,q2.mut HFR (fun g h1 h2=>?_),fun g h1 h2=>?_⟩
         ·rcases h2 with h2 | h2
          ·have h5:=(q2.blk h1).1; have h6:=HPB4.out; omega
          ·exact q3 g h1 h2
         ·have h5:=(q2.blk h1).2
          rcases hloc with h3 | h3
          ·exact q3 g h1 (h3 ▸ h2)
          ·rw [h3] at h2
           have h4:wn.heap.size=g:=by simpa using h2
           omega)
        clear HFR hown6 HSZ hloc hwc hro hsw hsc
        clear hrow hm ho6 hg6 hq6 hq1 hq0 hqx hy hnw hO2 hbw hxn hrw0 hrw1
        refine wpAnyH_done (by kernel_rfl) ?_ _
        go_wp2_with fail
        go_roundw
        case rel=>exact ⟨k+1,_,xs ++ [.slice ra rn rc],_,rfl,by go_num,by omega,HROW.out,HODS.out,fun i hi=>by
         by_cases hik:i < k
         ·obtain ⟨rv,q1,q2,q3⟩:=HOLD.out i hik
          exact ⟨rv,by rw [List.getElem?_append_left (by rw [HXN.out]; exact hik)]; exact q1,q2,q3⟩
         ·obtain rfl:i=k:=by omega
          refine ⟨_,by rw [List.getElem?_append_right (by rw [HXN.out]; exact Nat.le_refl _),HXN.out,Nat.sub_self]; rfl,?_,HNEW.out.2⟩
          rw [HRLK.out]
          exact HNEW.out.1,HMS.out⟩
        case measure=>simp [intOf] <;> omega
       ·have dlt:decide ((k:Int) < (n:Int))=false:=by simp; omega
        obtain rfl:n=k:=by omega
        have HRBL:=Lib.hid (HRB.out.ext (HE4.out.trans (HX5.out.trans HXL.out)))
        have HRB5:=Lib.hid (show RB < w5.heap.size from Nat.lt_of_lt_of_le (heap_lt HRB.out) (HE4.out.trans HX5.out).size)
        go_wp2_with (first
         | fail
         | ((with_reducible refine at_load 42 ?_); refine wpList_load_row rfl 42 _ rfl PB rfl 42 #[.slice a1 n c1,.slice a2 n c2,.slice (some ⟨yb,0,none⟩) ns ycap,.slice a4 n c4] (0,0) _ HPR.out Try.underlying42 rfl size_pn ?_)
         | ((with_reducible refine at_store 42 ?_); refine st_at rfl rfl 42 _ _ rfl RB 0 _ #[.slice a1 n c1,.slice a2 n c2,.slice (some ⟨yb,0,none⟩) ns ycap,.slice a4 n c4] PNZ #[.slice a1 n c1,.slice a2 n c2,.slice (some ⟨yb,0,none⟩) ns ycap,.slice a4 n c4] 42 rfl rfl rfl HRBL.out (by exact (by decide:0+4≤4)) (by kernel_rfl) rfl rfl ?_
            intro wz hqz hmz
            have HRZ:=Lib.hid hqz
            have HMZ:=Lib.hid hmz
            clear hqz hmz))
        refine bodyPost_ret (results_cell_row rfl _ _ RB _ _ (0,0) _ rfl HRZ.out Try.underlying42 rfl size_pn) rfl ?_
        have HXZ:=((HE.out.trans HE4.out).trans (HX5.out.trans HXL.out)).mutE HMZ.out (fun g h1 h2=>by have h3:g=RB:=h2; have h4:=HRBW.out; omega)
        have hlow:∀ {b g:Nat},w5.heap.size≤b→b≤g→¬ g=RB:=fun h1 h2=>by have h3:=HRB5.out; omega
        have h5B:w5.heap.size≤B:=Nat.le_trans HX6.out.size HB6.out
        have h5B2:w5.heap.size≤B2:=by have h1:=HPB8.out; have h2:=HPB5.out; omega
        have hfin:∀ {e:TypeId} {m q b:Nat} {v:Value} {xs:List Value},w9.ownsRow b e m v q xs→w5.heap.size≤b→PB < b→wz.ownsRow b e m v q xs:=fun h hb hp=>own_mut (own_mut h HML.out (fun g h1 h2=>by have h3:=(own_lt2 h h1).1; have h4:g=PB:=h2; omega)) HMZ.out (fun g h1 h2=>hlow hb (own_lt2 h h1).1 h2)
        have hA:=hfin HOA9.out h5B HPL.out
        have hB:=hfin HOB9.out h5B HPL.out
        have hC:=hfin HOC9.out h5B2 HPB8.out
        have hD:=own_mut HOD.out HMZ.out (fun g h1 h2=>hlow HB5.out (own_lt2 HOD.out h1).1 h2)
        have e1:(List.range n).map fR=(rootsOf N SS).map (fun r=>idA N r.toNat):=by rw [HRR.out,← HFRR.out,← range_at0,HRO5.out]
        have e2:(List.range n).map fC=(List.range N.length).map (fun i=>((costW (waysOf N SS) i:Nat):Int)):=by rw [HNL.out,HWW.out,← HFCC.out]
        have e4:(List.range N.length).map (roleF N (waysOf N SS) (rootsOf N SS) (segF SS) (byOf N SS))=(List.range n).map (roleF N W R (segF SS) By):=by rw [HNL.out,HWW.out,HRR.out,HBY.out]
        refine ⟨_,rfl,?_,HXZ⟩
        rw [HSS.out]
        refine ⟨_,_,_,_,rfl,?_,?_,?_,?_⟩
        ·show IntAt .u64 wz _ ((rootsOf N SS).map (fun r=>idA N r.toNat))
         rw [← e1]
         exact IntAt.own hA (by simp) (by omega)
        ·show IntAt .u32 wz _ ((List.range N.length).map (fun i=>((costW (waysOf N SS) i:Nat):Int)))
         rw [← e2]
         exact IntAt.own hB (by simp) (by omega)
        ·show PlAt wz _ (byOf N SS)
         rw [HBY.out]
         exact PlAt.own (by rw [HBYN.out]; exact hC) (by rw [HBYN.out]; omega)
        ·show RolesAt wz _ ((List.range N.length).map (roleF N (waysOf N SS) (rootsOf N SS) (segF SS) (byOf N SS)))
         rw [e4]
         refine ⟨fun i=>(xs[i]?).getD undef,?_,fun i hi=>?_⟩
         ·rw [List.length_map,List.length_range]
          exact RowAt.own hD (by omega) (fun i hi=>by
           obtain ⟨rv,q1,-,-⟩:=HRL4.out i hi
           exact ⟨rv,q1,by show [(xs[i]?).getD undef]=[rv]; rw [q1]; rfl⟩)
         ·have hi2:i < n:=by simpa using hi
          obtain ⟨rv,q1,q2,-⟩:=HRL4.out i hi2
          show IntsR wz 0 ((xs[i]?).getD undef) _
          rw [q1]
          have e5:((List.range n).map (roleF N W R (segF SS) By)).getD i []=roleF N W R (segF SS) By i:=by simp [List.getD_eq_getElem?_getD,hi2]
          rw [e5]
          exact (q2.mut HMZ.out (fun g h1 h2=>hlow HB5.out (q2.blk h1).1 h2)).low
 refine beginL (S:=fun W'=>Ext w5 W') (by kernel_rfl) ?_
 intro wd hqx
 have hq0:Ext w5 wd:=hqx
 refine tL 0 (_) rfl (yieldsIf_rowS rfl 47 _ rfl X rfl #[.int .i64 t0,.int .i64 t1,.int .i64 t2,.int .i64 t3,.int .i64 hold,.int .i64 room,.int .i64 age,.slice (some ⟨nb,no,none⟩) n ncap,sv] _ _ (fun W' hW'=>(HX5b.out.ext hW')) Try.underlying47 rfl size_net) hq0 ?_
 simp only [ps]
 refine tLp 1 ((.slice (some ⟨gr,0,none⟩) n rcap)) rfl hq0 ?_
 simp only [ps]
 refine tL 2 (_) rfl (yieldsIf_rowS rfl 47 _ rfl X rfl #[.int .i64 t0,.int .i64 t1,.int .i64 t2,.int .i64 t3,.int .i64 hold,.int .i64 room,.int .i64 age,.slice (some ⟨nb,no,none⟩) n ncap,sv] _ _ (fun W' hW'=>(HX5b.out.ext hW')) Try.underlying47 rfl size_net) hq0 ?_
 simp only [ps]
 refine tLp 3 (lv) rfl hq0 ?_
 simp only [ps]
 refine tLp 4 ((.slice (some ⟨gr,0,none⟩) n rcap)) rfl hq0 ?_
 simp only [ps]
 refine runL3 (i:=5) (j:=6) (k:=8) rfl rfl rfl rfl rfl rfl (by kernel_rfl) (fun K hK=>?_) (fun K hK=>?_) (fun K hK=>?_)
 ·go_simp
  refine (ways_any t0 t1 t2 t3 hold room age (some ⟨nb,no,none⟩) n ncap gr rcap sv lv L (rootsOf N SS) wd HNN.out (HHO.out.ext (HX5.out.trans hq0)) HLL.out HLW.out (HRN.out.ext hq0) HRO5.out HRC.out HRG.out HCN.out).mono ?_
  rintro e wc6 ⟨gf,rfl,hwf,hso,hgf,hx⟩
  have hsc0:=hq0.trans hx
  have hgf2:w5.heap.size≤gf:=Nat.le_trans hq0.size hgf
  refine hK.out _ _ hsc0 (fun _=>?_)
  try simp only [ps]
  clear hK K hx
  refine runL2 (i:=6) (j:=8) rfl rfl rfl rfl (by kernel_rfl) (fun K hK=>?_) (fun K hK=>?_)
  ·refine oper_makeMap 77 rfl rfl (fun mb wm7 hbk hsz hw=>?_)
   have hx:Ext wc6 wm7:=by rw [hw]; exact (Ext.refl _).alloc _
   have hsm:SegM wm7 mb 0 (fun _=>none):=by rw [hw,← hsz]; exact SegM.made _
   have hmb:w5.heap.size≤mb:=by have:=hsc0.size; omega
   have hmbl:mb < wm7.heap.size:=by rw [hw]; simp; omega
   have hsm1:=hsc0.trans hx
   clear hbk hw hsz
   replace hwf:=WRow.ext hwf hx
   refine hK.out _ _ hsm1 (fun _=>?_)
   try simp only [ps]
   clear hK K hx
   refine tL 7 ((.agg #[.int .i64 t0,.int .i64 t1,.int .i64 t2,.int .i64 t3,.int .i64 hold,.int .i64 room,.int .i64 age,.slice (some ⟨nb,no,none⟩) n ncap,sv,.slice (some ⟨gr,0,none⟩) n rcap,.slice (some ⟨gf,0,none⟩) n n,.map (some mb),.slice none 0 0])) rfl (yieldsIf_build rfl 79 _ rfl [(0,.agg #[.int .i64 t0,.int .i64 t1,.int .i64 t2,.int .i64 t3,.int .i64 hold,.int .i64 room,.int .i64 age,.slice (some ⟨nb,no,none⟩) n ncap,sv]),(1,.slice (some ⟨gr,0,none⟩) n rcap),(2,.slice (some ⟨gf,0,none⟩) n n),(3,.map (some mb))] rfl #[.int .i64 t0,.int .i64 t1,.int .i64 t2,.int .i64 t3,.int .i64 hold,.int .i64 room,.int .i64 age,.slice (some ⟨nb,no,none⟩) n ncap,sv,.slice (some ⟨gr,0,none⟩) n rcap,.slice (some ⟨gf,0,none⟩) n n,.map (some mb),.slice none 0 0] (built_view t0 t1 t2 t3 hold room age nb no n ncap gr rcap gf mb sv)) hsm1 ?_
   simp only [ps]
   refine runL (i:=8) rfl rfl (by kernel_rfl) (fun K hK=>?_)
   refine wp_al_zero 79 rfl VZ zero_view (fun V wa8 hvb hsz hx=>?_)
   have hsa2:=hsm1.trans hx
   have hvw:w5.heap.size≤V:=by have:=hsm1.size; omega
   have hvl:V < wa8.heap.size:=heap_lt hvb
   clear hsz
   replace hwf:=WRow.ext hwf hx
   replace hsm:=SegM.ext hsm hx
   replace hmbl:=Nat.lt_of_lt_of_le hmbl hx.size
   refine hK.out _ _ hsa2 (fun _=>?_)
   try simp only [ps]
   clear hK K hx
   refine runL (i:=9) rfl rfl (by kernel_rfl) (fun K hK=>?_)
   refine wp_st_at rfl 79 _ _ rfl V 0 _ #[.int .i64 t0,.int .i64 t1,.int .i64 t2,.int .i64 t3,.int .i64 hold,.int .i64 room,.int .i64 age,.slice (some ⟨nb,no,none⟩) n ncap,sv,.slice (some ⟨gr,0,none⟩) n rcap,.slice (some ⟨gf,0,none⟩) n n,.map (some mb),.slice none 0 0] VZ #[.int .i64 t0,.int .i64 t1,.int .i64 t2,.int .i64 t3,.int .i64 hold,.int .i64 room,.int .i64 age,.slice (some ⟨nb,no,none⟩) n ncap,sv,.slice (some ⟨gr,0,none⟩) n rcap,.slice (some ⟨gf,0,none⟩) n n,.map (some mb),.slice none 0 0] 79 rfl rfl rfl hvb (by exact (by decide:0+13≤13)) (by kernel_rfl) (one_view HSV.out) rfl (fun wz hrow hm=>?_)
   have hxz:Ext w5 wz:=Ext.mutE hsa2 hm (fun j hj h=>by have h2:j=V:=h; omega)
   refine hK.out _ _ hxz (fun _=>?_)
   try simp only [ps]
   clear hK K
   refine wpAnyH_done (by kernel_rfl) ?_ _
   have hn1:V ≠ gf:=fun h=>by
    have h1:=hvb
    rw [h] at h1
    have h2:=h1.symm.trans hwf
    simp only [Option.some.injEq,Obj.cells.injEq] at h2
    exact absurd h2.2.1 (by decide)
   have hn2:V ≠ mb:=fun h=>by
    obtain ⟨D,⟨es,clock,hb,_⟩,_⟩:=hsm
    have h1:=hvb
    rw [h,hb] at h1
    cases h1
   have HLF:=Lib.hid (And.intro hrow (And.intro ((hm.heap (heap_lt hwf) (fun h=>hn1 h.symm)).trans hwf) (And.intro (hsm.blk (hm.heap hmbl (fun h=>hn2 h.symm))) (And.intro hxz (And.intro hn1 hn2)))))
   have HLG:=Lib.hid (And.intro hvw (And.intro hgf2 (And.intro hmb hso)))
   clear hrow hwf hsm hxz hn1 hn2 hm hvb hso hvw hgf2 hmb
   go_wp2_with fail
   go_meet
   exact ⟨V,gf,mb,rfl,HLF.out.1,by rw [HWO.out]; exact HLF.out.2.1,HLF.out.2.2.1,by rw [HWO.out]; exact HLG.out.2.2.2,HLF.out.2.2.2.1,HLG.out.1,HLG.out.2.1,HLG.out.2.2.1,HLF.out.2.2.2.2.1,HLF.out.2.2.2.2.2⟩
  ·refine wp_al_zero 79 rfl VZ zero_view (fun V wa7 hvb hsz hx=>?_)
   have hsa1:=hsc0.trans hx
   have hvw:w5.heap.size≤V:=by have:=hsc0.size; omega
   have hvl:V < wa7.heap.size:=heap_lt hvb
   clear hsz
   replace hwf:=WRow.ext hwf hx
   refine hK.out _ _ hsa1 (fun _=>?_)
   try simp only [ps]
   clear hK K hx
   refine runL (i:=6) rfl rfl (by kernel_rfl) (fun K hK=>?_)
   refine oper_makeMap 77 rfl rfl (fun mb wm8 hbk hsz hw=>?_)
   have hx:Ext wa7 wm8:=by rw [hw]; exact (Ext.refl _).alloc _
   have hsm:SegM wm8 mb 0 (fun _=>none):=by rw [hw,← hsz]; exact SegM.made _
   have hmb:w5.heap.size≤mb:=by have:=hsa1.size; omega
   have hmbl:mb < wm8.heap.size:=by rw [hw]; simp; omega
   have hsm2:=hsa1.trans hx
   clear hbk hw hsz
   replace hwf:=WRow.ext hwf hx
   replace hvb:=(hx.block V hvl).trans hvb
   replace hvl:=Nat.lt_of_lt_of_le hvl hx.size
   refine hK.out _ _ hsm2 (fun _=>?_)
   try simp only [ps]
   clear hK K hx
   refine tL 7 ((.agg #[.int .i64 t0,.int .i64 t1,.int .i64 t2,.int .i64 t3,.int .i64 hold,.int .i64 room,.int .i64 age,.slice (some ⟨nb,no,none⟩) n ncap,sv,.slice (some ⟨gr,0,none⟩) n rcap,.slice (some ⟨gf,0,none⟩) n n,.map (some mb),.slice none 0 0])) rfl (yieldsIf_build rfl 79 _ rfl [(0,.agg #[.int .i64 t0,.int .i64 t1,.int .i64 t2,.int .i64 t3,.int .i64 hold,.int .i64 room,.int .i64 age,.slice (some ⟨nb,no,none⟩) n ncap,sv]),(1,.slice (some ⟨gr,0,none⟩) n rcap),(2,.slice (some ⟨gf,0,none⟩) n n),(3,.map (some mb))] rfl #[.int .i64 t0,.int .i64 t1,.int .i64 t2,.int .i64 t3,.int .i64 hold,.int .i64 room,.int .i64 age,.slice (some ⟨nb,no,none⟩) n ncap,sv,.slice (some ⟨gr,0,none⟩) n rcap,.slice (some ⟨gf,0,none⟩) n n,.map (some mb),.slice none 0 0] (built_view t0 t1 t2 t3 hold room age nb no n ncap gr rcap gf mb sv)) hsm2 ?_
   simp only [ps]
   refine runL (i:=9) rfl rfl (by kernel_rfl) (fun K hK=>?_)
   refine wp_st_at rfl 79 _ _ rfl V 0 _ #[.int .i64 t0,.int .i64 t1,.int .i64 t2,.int .i64 t3,.int .i64 hold,.int .i64 room,.int .i64 age,.slice (some ⟨nb,no,none⟩) n ncap,sv,.slice (some ⟨gr,0,none⟩) n rcap,.slice (some ⟨gf,0,none⟩) n n,.map (some mb),.slice none 0 0] VZ #[.int .i64 t0,.int .i64 t1,.int .i64 t2,.int .i64 t3,.int .i64 hold,.int .i64 room,.int .i64 age,.slice (some ⟨nb,no,none⟩) n ncap,sv,.slice (some ⟨gr,0,none⟩) n rcap,.slice (some ⟨gf,0,none⟩) n n,.map (some mb),.slice none 0 0] 79 rfl rfl rfl hvb (by exact (by decide:0+13≤13)) (by kernel_rfl) (one_view HSV.out) rfl (fun wz hrow hm=>?_)
   have hxz:Ext w5 wz:=Ext.mutE hsm2 hm (fun j hj h=>by have h2:j=V:=h; omega)
   refine hK.out _ _ hxz (fun _=>?_)
   try simp only [ps]
   clear hK K
   refine wpAnyH_done (by kernel_rfl) ?_ _
   have hn1:V ≠ gf:=fun h=>by
    have h1:=hvb
    rw [h] at h1
    have h2:=h1.symm.trans hwf
    simp only [Option.some.injEq,Obj.cells.injEq] at h2
    exact absurd h2.2.1 (by decide)
   have hn2:V ≠ mb:=fun h=>by
    obtain ⟨D,⟨es,clock,hb,_⟩,_⟩:=hsm
    have h1:=hvb
    rw [h,hb] at h1
    cases h1
   have HLF:=Lib.hid (And.intro hrow (And.intro ((hm.heap (heap_lt hwf) (fun h=>hn1 h.symm)).trans hwf) (And.intro (hsm.blk (hm.heap hmbl (fun h=>hn2 h.symm))) (And.intro hxz (And.intro hn1 hn2)))))
   have HLG:=Lib.hid (And.intro hvw (And.intro hgf2 (And.intro hmb hso)))
   clear hrow hwf hsm hxz hn1 hn2 hm hvb hso hvw hgf2 hmb
   go_wp2_with fail
   go_meet
   exact ⟨V,gf,mb,rfl,HLF.out.1,by rw [HWO.out]; exact HLF.out.2.1,HLF.out.2.2.1,by rw [HWO.out]; exact HLG.out.2.2.2,HLF.out.2.2.2.1,HLG.out.1,HLG.out.2.1,HLG.out.2.2.1,HLF.out.2.2.2.2.1,HLF.out.2.2.2.2.2⟩
 ·refine oper_makeMap 77 rfl rfl (fun mb wm6 hbk hsz hw=>?_)
  have hx:Ext wd wm6:=by rw [hw]; exact (Ext.refl _).alloc _
  have hsm:SegM wm6 mb 0 (fun _=>none):=by rw [hw,← hsz]; exact SegM.made _
  have hmb:w5.heap.size≤mb:=by have:=hq0.size; omega
  have hmbl:mb < wm6.heap.size:=by rw [hw]; simp; omega
  have hsm0:=hq0.trans hx
  clear hbk hw hsz
  refine hK.out _ _ hsm0 (fun _=>?_)
  try simp only [ps]
  clear hK K hx
  refine runL2 (i:=5) (j:=8) rfl rfl rfl rfl (by kernel_rfl) (fun K hK=>?_) (fun K hK=>?_)
  ·go_simp
   refine (ways_any t0 t1 t2 t3 hold room age (some ⟨nb,no,none⟩) n ncap gr rcap sv lv L (rootsOf N SS) wm6 HNN.out (HHO.out.ext (HX5.out.trans hsm0)) HLL.out HLW.out (HRN.out.ext hsm0) HRO5.out HRC.out HRG.out HCN.out).mono ?_
   rintro e wc7 ⟨gf,rfl,hwf,hso,hgf,hx⟩
   have hsc1:=hsm0.trans hx
   have hgf2:w5.heap.size≤gf:=Nat.le_trans hsm0.size hgf
   replace hsm:=SegM.ext hsm hx
   replace hmbl:=Nat.lt_of_lt_of_le hmbl hx.size
   refine hK.out _ _ hsc1 (fun _=>?_)
   try simp only [ps]
   clear hK K hx
   refine tL 7 ((.agg #[.int .i64 t0,.int .i64 t1,.int .i64 t2,.int .i64 t3,.int .i64 hold,.int .i64 room,.int .i64 age,.slice (some ⟨nb,no,none⟩) n ncap,sv,.slice (some ⟨gr,0,none⟩) n rcap,.slice (some ⟨gf,0,none⟩) n n,.map (some mb),.slice none 0 0])) rfl (yieldsIf_build rfl 79 _ rfl [(0,.agg #[.int .i64 t0,.int .i64 t1,.int .i64 t2,.int .i64 t3,.int .i64 hold,.int .i64 room,.int .i64 age,.slice (some ⟨nb,no,none⟩) n ncap,sv]),(1,.slice (some ⟨gr,0,none⟩) n rcap),(2,.slice (some ⟨gf,0,none⟩) n n),(3,.map (some mb))] rfl #[.int .i64 t0,.int .i64 t1,.int .i64 t2,.int .i64 t3,.int .i64 hold,.int .i64 room,.int .i64 age,.slice (some ⟨nb,no,none⟩) n ncap,sv,.slice (some ⟨gr,0,none⟩) n rcap,.slice (some ⟨gf,0,none⟩) n n,.map (some mb),.slice none 0 0] (built_view t0 t1 t2 t3 hold room age nb no n ncap gr rcap gf mb sv)) hsc1 ?_
   simp only [ps]
   refine runL (i:=8) rfl rfl (by kernel_rfl) (fun K hK=>?_)
   refine wp_al_zero 79 rfl VZ zero_view (fun V wa8 hvb hsz hx=>?_)
   have hsa2:=hsc1.trans hx
   have hvw:w5.heap.size≤V:=by have:=hsc1.size; omega
   have hvl:V < wa8.heap.size:=heap_lt hvb
   clear hsz
   replace hwf:=WRow.ext hwf hx
   replace hsm:=SegM.ext hsm hx
   replace hmbl:=Nat.lt_of_lt_of_le hmbl hx.size
   refine hK.out _ _ hsa2 (fun _=>?_)
   try simp only [ps]
   clear hK K hx
   refine runL (i:=9) rfl rfl (by kernel_rfl) (fun K hK=>?_)
   refine wp_st_at rfl 79 _ _ rfl V 0 _ #[.int .i64 t0,.int .i64 t1,.int .i64 t2,.int .i64 t3,.int .i64 hold,.int .i64 room,.int .i64 age,.slice (some ⟨nb,no,none⟩) n ncap,sv,.slice (some ⟨gr,0,none⟩) n rcap,.slice (some ⟨gf,0,none⟩) n n,.map (some mb),.slice none 0 0] VZ #[.int .i64 t0,.int .i64 t1,.int .i64 t2,.int .i64 t3,.int .i64 hold,.int .i64 room,.int .i64 age,.slice (some ⟨nb,no,none⟩) n ncap,sv,.slice (some ⟨gr,0,none⟩) n rcap,.slice (some ⟨gf,0,none⟩) n n,.map (some mb),.slice none 0 0] 79 rfl rfl rfl hvb (by exact (by decide:0+13≤13)) (by kernel_rfl) (one_view HSV.out) rfl (fun wz hrow hm=>?_)
   have hxz:Ext w5 wz:=Ext.mutE hsa2 hm (fun j hj h=>by have h2:j=V:=h; omega)
   refine hK.out _ _ hxz (fun _=>?_)
   try simp only [ps]
   clear hK K
   refine wpAnyH_done (by kernel_rfl) ?_ _
   have hn1:V ≠ gf:=fun h=>by
    have h1:=hvb
    rw [h] at h1
    have h2:=h1.symm.trans hwf
    simp only [Option.some.injEq,Obj.cells.injEq] at h2
    exact absurd h2.2.1 (by decide)
   have hn2:V ≠ mb:=fun h=>by
    obtain ⟨D,⟨es,clock,hb,_⟩,_⟩:=hsm
    have h1:=hvb
    rw [h,hb] at h1
    cases h1
   have HLF:=Lib.hid (And.intro hrow (And.intro ((hm.heap (heap_lt hwf) (fun h=>hn1 h.symm)).trans hwf) (And.intro (hsm.blk (hm.heap hmbl (fun h=>hn2 h.symm))) (And.intro hxz (And.intro hn1 hn2)))))
   have HLG:=Lib.hid (And.intro hvw (And.intro hgf2 (And.intro hmb hso)))
   clear hrow hwf hsm hxz hn1 hn2 hm hvb hso hvw hgf2 hmb
   go_wp2_with fail
   go_meet
   exact ⟨V,gf,mb,rfl,HLF.out.1,by rw [HWO.out]; exact HLF.out.2.1,HLF.out.2.2.1,by rw [HWO.out]; exact HLG.out.2.2.2,HLF.out.2.2.2.1,HLG.out.1,HLG.out.2.1,HLG.out.2.2.1,HLF.out.2.2.2.2.1,HLF.out.2.2.2.2.2⟩
  ·refine wp_al_zero 79 rfl VZ zero_view (fun V wa7 hvb hsz hx=>?_)
   have hsa1:=hsm0.trans hx
   have hvw:w5.heap.size≤V:=by have:=hsm0.size; omega
   have hvl:V < wa7.heap.size:=heap_lt hvb
   clear hsz
   replace hsm:=SegM.ext hsm hx
   replace hmbl:=Nat.lt_of_lt_of_le hmbl hx.size
   refine hK.out _ _ hsa1 (fun _=>?_)
   try simp only [ps]
   clear hK K hx
   refine runL (i:=5) rfl rfl (by kernel_rfl) (fun K hK=>?_)
   go_simp
   refine (ways_any t0 t1 t2 t3 hold room age (some ⟨nb,no,none⟩) n ncap gr rcap sv lv L (rootsOf N SS) wa7 HNN.out (HHO.out.ext (HX5.out.trans hsa1)) HLL.out HLW.out (HRN.out.ext hsa1) HRO5.out HRC.out HRG.out HCN.out).mono ?_
   rintro e wc8 ⟨gf,rfl,hwf,hso,hgf,hx⟩
   have hsc2:=hsa1.trans hx
   have hgf2:w5.heap.size≤gf:=Nat.le_trans hsa1.size hgf
   replace hsm:=SegM.ext hsm hx
   replace hmbl:=Nat.lt_of_lt_of_le hmbl hx.size
   replace hvb:=(hx.block V hvl).trans hvb
   replace hvl:=Nat.lt_of_lt_of_le hvl hx.size
   refine hK.out _ _ hsc2 (fun _=>?_)
   try simp only [ps]
   clear hK K hx
   refine tL 7 ((.agg #[.int .i64 t0,.int .i64 t1,.int .i64 t2,.int .i64 t3,.int .i64 hold,.int .i64 room,.int .i64 age,.slice (some ⟨nb,no,none⟩) n ncap,sv,.slice (some ⟨gr,0,none⟩) n rcap,.slice (some ⟨gf,0,none⟩) n n,.map (some mb),.slice none 0 0])) rfl (yieldsIf_build rfl 79 _ rfl [(0,.agg #[.int .i64 t0,.int .i64 t1,.int .i64 t2,.int .i64 t3,.int .i64 hold,.int .i64 room,.int .i64 age,.slice (some ⟨nb,no,none⟩) n ncap,sv]),(1,.slice (some ⟨gr,0,none⟩) n rcap),(2,.slice (some ⟨gf,0,none⟩) n n),(3,.map (some mb))] rfl #[.int .i64 t0,.int .i64 t1,.int .i64 t2,.int .i64 t3,.int .i64 hold,.int .i64 room,.int .i64 age,.slice (some ⟨nb,no,none⟩) n ncap,sv,.slice (some ⟨gr,0,none⟩) n rcap,.slice (some ⟨gf,0,none⟩) n n,.map (some mb),.slice none 0 0] (built_view t0 t1 t2 t3 hold room age nb no n ncap gr rcap gf mb sv)) hsc2 ?_
   simp only [ps]
   refine runL (i:=9) rfl rfl (by kernel_rfl) (fun K hK=>?_)
   refine wp_st_at rfl 79 _ _ rfl V 0 _ #[.int .i64 t0,.int .i64 t1,.int .i64 t2,.int .i64 t3,.int .i64 hold,.int .i64 room,.int .i64 age,.slice (some ⟨nb,no,none⟩) n ncap,sv,.slice (some ⟨gr,0,none⟩) n rcap,.slice (some ⟨gf,0,none⟩) n n,.map (some mb),.slice none 0 0] VZ #[.int .i64 t0,.int .i64 t1,.int .i64 t2,.int .i64 t3,.int .i64 hold,.int .i64 room,.int .i64 age,.slice (some ⟨nb,no,none⟩) n ncap,sv,.slice (some ⟨gr,0,none⟩) n rcap,.slice (some ⟨gf,0,none⟩) n n,.map (some mb),.slice none 0 0] 79 rfl rfl rfl hvb (by exact (by decide:0+13≤13)) (by kernel_rfl) (one_view HSV.out) rfl (fun wz hrow hm=>?_)
   have hxz:Ext w5 wz:=Ext.mutE hsc2 hm (fun j hj h=>by have h2:j=V:=h; omega)
   refine hK.out _ _ hxz (fun _=>?_)
   try simp only [ps]
   clear hK K
   refine wpAnyH_done (by kernel_rfl) ?_ _
   have hn1:V ≠ gf:=fun h=>by
    have h1:=hvb
    rw [h] at h1
    have h2:=h1.symm.trans hwf
    simp only [Option.some.injEq,Obj.cells.injEq] at h2
    exact absurd h2.2.1 (by decide)
   have hn2:V ≠ mb:=fun h=>by
    obtain ⟨D,⟨es,clock,hb,_⟩,_⟩:=hsm
    have h1:=hvb
    rw [h,hb] at h1
    cases h1
   have HLF:=Lib.hid (And.intro hrow (And.intro ((hm.heap (heap_lt hwf) (fun h=>hn1 h.symm)).trans hwf) (And.intro (hsm.blk (hm.heap hmbl (fun h=>hn2 h.symm))) (And.intro hxz (And.intro hn1 hn2)))))
   have HLG:=Lib.hid (And.intro hvw (And.intro hgf2 (And.intro hmb hso)))
   clear hrow hwf hsm hxz hn1 hn2 hm hvb hso hvw hgf2 hmb
   go_wp2_with fail
   go_meet
   exact ⟨V,gf,mb,rfl,HLF.out.1,by rw [HWO.out]; exact HLF.out.2.1,HLF.out.2.2.1,by rw [HWO.out]; exact HLG.out.2.2.2,HLF.out.2.2.2.1,HLG.out.1,HLG.out.2.1,HLG.out.2.2.1,HLF.out.2.2.2.2.1,HLF.out.2.2.2.2.2⟩
 ·refine wp_al_zero 79 rfl VZ zero_view (fun V wa6 hvb hsz hx=>?_)
  have hsa0:=hq0.trans hx
  have hvw:w5.heap.size≤V:=by have:=hq0.size; omega
  have hvl:V < wa6.heap.size:=heap_lt hvb
  clear hsz
  refine hK.out _ _ hsa0 (fun _=>?_)
  try simp only [ps]
  clear hK K hx
  refine runL2 (i:=5) (j:=6) rfl rfl rfl rfl (by kernel_rfl) (fun K hK=>?_) (fun K hK=>?_)
  ·go_simp
   refine (ways_any t0 t1 t2 t3 hold room age (some ⟨nb,no,none⟩) n ncap gr rcap sv lv L (rootsOf N SS) wa6 HNN.out (HHO.out.ext (HX5.out.trans hsa0)) HLL.out HLW.out (HRN.out.ext hsa0) HRO5.out HRC.out HRG.out HCN.out).mono ?_
   rintro e wc7 ⟨gf,rfl,hwf,hso,hgf,hx⟩
   have hsc1:=hsa0.trans hx
   have hgf2:w5.heap.size≤gf:=Nat.le_trans hsa0.size hgf
   replace hvb:=(hx.block V hvl).trans hvb
   replace hvl:=Nat.lt_of_lt_of_le hvl hx.size
   refine hK.out _ _ hsc1 (fun _=>?_)
   try simp only [ps]
   clear hK K hx
   refine runL (i:=6) rfl rfl (by kernel_rfl) (fun K hK=>?_)
   refine oper_makeMap 77 rfl rfl (fun mb wm8 hbk hsz hw=>?_)
   have hx:Ext wc7 wm8:=by rw [hw]; exact (Ext.refl _).alloc _
   have hsm:SegM wm8 mb 0 (fun _=>none):=by rw [hw,← hsz]; exact SegM.made _
   have hmb:w5.heap.size≤mb:=by have:=hsc1.size; omega
   have hmbl:mb < wm8.heap.size:=by rw [hw]; simp; omega
   have hsm2:=hsc1.trans hx
   clear hbk hw hsz
   replace hwf:=WRow.ext hwf hx
   replace hvb:=(hx.block V hvl).trans hvb
   replace hvl:=Nat.lt_of_lt_of_le hvl hx.size
   refine hK.out _ _ hsm2 (fun _=>?_)
   try simp only [ps]
   clear hK K hx
   refine tL 7 ((.agg #[.int .i64 t0,.int .i64 t1,.int .i64 t2,.int .i64 t3,.int .i64 hold,.int .i64 room,.int .i64 age,.slice (some ⟨nb,no,none⟩) n ncap,sv,.slice (some ⟨gr,0,none⟩) n rcap,.slice (some ⟨gf,0,none⟩) n n,.map (some mb),.slice none 0 0])) rfl (yieldsIf_build rfl 79 _ rfl [(0,.agg #[.int .i64 t0,.int .i64 t1,.int .i64 t2,.int .i64 t3,.int .i64 hold,.int .i64 room,.int .i64 age,.slice (some ⟨nb,no,none⟩) n ncap,sv]),(1,.slice (some ⟨gr,0,none⟩) n rcap),(2,.slice (some ⟨gf,0,none⟩) n n),(3,.map (some mb))] rfl #[.int .i64 t0,.int .i64 t1,.int .i64 t2,.int .i64 t3,.int .i64 hold,.int .i64 room,.int .i64 age,.slice (some ⟨nb,no,none⟩) n ncap,sv,.slice (some ⟨gr,0,none⟩) n rcap,.slice (some ⟨gf,0,none⟩) n n,.map (some mb),.slice none 0 0] (built_view t0 t1 t2 t3 hold room age nb no n ncap gr rcap gf mb sv)) hsm2 ?_
   simp only [ps]
   refine runL (i:=9) rfl rfl (by kernel_rfl) (fun K hK=>?_)
   refine wp_st_at rfl 79 _ _ rfl V 0 _ #[.int .i64 t0,.int .i64 t1,.int .i64 t2,.int .i64 t3,.int .i64 hold,.int .i64 room,.int .i64 age,.slice (some ⟨nb,no,none⟩) n ncap,sv,.slice (some ⟨gr,0,none⟩) n rcap,.slice (some ⟨gf,0,none⟩) n n,.map (some mb),.slice none 0 0] VZ #[.int .i64 t0,.int .i64 t1,.int .i64 t2,.int .i64 t3,.int .i64 hold,.int .i64 room,.int .i64 age,.slice (some ⟨nb,no,none⟩) n ncap,sv,.slice (some ⟨gr,0,none⟩) n rcap,.slice (some ⟨gf,0,none⟩) n n,.map (some mb),.slice none 0 0] 79 rfl rfl rfl hvb (by exact (by decide:0+13≤13)) (by kernel_rfl) (one_view HSV.out) rfl (fun wz hrow hm=>?_)
   have hxz:Ext w5 wz:=Ext.mutE hsm2 hm (fun j hj h=>by have h2:j=V:=h; omega)
   refine hK.out _ _ hxz (fun _=>?_)
   try simp only [ps]
   clear hK K
   refine wpAnyH_done (by kernel_rfl) ?_ _
   have hn1:V ≠ gf:=fun h=>by
    have h1:=hvb
    rw [h] at h1
    have h2:=h1.symm.trans hwf
    simp only [Option.some.injEq,Obj.cells.injEq] at h2
    exact absurd h2.2.1 (by decide)
   have hn2:V ≠ mb:=fun h=>by
    obtain ⟨D,⟨es,clock,hb,_⟩,_⟩:=hsm
    have h1:=hvb
    rw [h,hb] at h1
    cases h1
   have HLF:=Lib.hid (And.intro hrow (And.intro ((hm.heap (heap_lt hwf) (fun h=>hn1 h.symm)).trans hwf) (And.intro (hsm.blk (hm.heap hmbl (fun h=>hn2 h.symm))) (And.intro hxz (And.intro hn1 hn2)))))
   have HLG:=Lib.hid (And.intro hvw (And.intro hgf2 (And.intro hmb hso)))
   clear hrow hwf hsm hxz hn1 hn2 hm hvb hso hvw hgf2 hmb
   go_wp2_with fail
   go_meet
   exact ⟨V,gf,mb,rfl,HLF.out.1,by rw [HWO.out]; exact HLF.out.2.1,HLF.out.2.2.1,by rw [HWO.out]; exact HLG.out.2.2.2,HLF.out.2.2.2.1,HLG.out.1,HLG.out.2.1,HLG.out.2.2.1,HLF.out.2.2.2.2.1,HLF.out.2.2.2.2.2⟩
  ·refine oper_makeMap 77 rfl rfl (fun mb wm7 hbk hsz hw=>?_)
   have hx:Ext wa6 wm7:=by rw [hw]; exact (Ext.refl _).alloc _
   have hsm:SegM wm7 mb 0 (fun _=>none):=by rw [hw,← hsz]; exact SegM.made _
   have hmb:w5.heap.size≤mb:=by have:=hsa0.size; omega
   have hmbl:mb < wm7.heap.size:=by rw [hw]; simp; omega
   have hsm1:=hsa0.trans hx
   clear hbk hw hsz
   replace hvb:=(hx.block V hvl).trans hvb
   replace hvl:=Nat.lt_of_lt_of_le hvl hx.size
   refine hK.out _ _ hsm1 (fun _=>?_)
   try simp only [ps]
   clear hK K hx
   refine runL (i:=5) rfl rfl (by kernel_rfl) (fun K hK=>?_)
   go_simp
   refine (ways_any t0 t1 t2 t3 hold room age (some ⟨nb,no,none⟩) n ncap gr rcap sv lv L (rootsOf N SS) wm7 HNN.out (HHO.out.ext (HX5.out.trans hsm1)) HLL.out HLW.out (HRN.out.ext hsm1) HRO5.out HRC.out HRG.out HCN.out).mono ?_
   rintro e wc8 ⟨gf,rfl,hwf,hso,hgf,hx⟩
   have hsc2:=hsm1.trans hx
   have hgf2:w5.heap.size≤gf:=Nat.le_trans hsm1.size hgf
   replace hsm:=SegM.ext hsm hx
   replace hmbl:=Nat.lt_of_lt_of_le hmbl hx.size
   replace hvb:=(hx.block V hvl).trans hvb
   replace hvl:=Nat.lt_of_lt_of_le hvl hx.size
   refine hK.out _ _ hsc2 (fun _=>?_)
   try simp only [ps]
   clear hK K hx
   refine tL 7 ((.agg #[.int .i64 t0,.int .i64 t1,.int .i64 t2,.int .i64 t3,.int .i64 hold,.int .i64 room,.int .i64 age,.slice (some ⟨nb,no,none⟩) n ncap,sv,.slice (some ⟨gr,0,none⟩) n rcap,.slice (some ⟨gf,0,none⟩) n n,.map (some mb),.slice none 0 0])) rfl (yieldsIf_build rfl 79 _ rfl [(0,.agg #[.int .i64 t0,.int .i64 t1,.int .i64 t2,.int .i64 t3,.int .i64 hold,.int .i64 room,.int .i64 age,.slice (some ⟨nb,no,none⟩) n ncap,sv]),(1,.slice (some ⟨gr,0,none⟩) n rcap),(2,.slice (some ⟨gf,0,none⟩) n n),(3,.map (some mb))] rfl #[.int .i64 t0,.int .i64 t1,.int .i64 t2,.int .i64 t3,.int .i64 hold,.int .i64 room,.int .i64 age,.slice (some ⟨nb,no,none⟩) n ncap,sv,.slice (some ⟨gr,0,none⟩) n rcap,.slice (some ⟨gf,0,none⟩) n n,.map (some mb),.slice none 0 0] (built_view t0 t1 t2 t3 hold room age nb no n ncap gr rcap gf mb sv)) hsc2 ?_
   simp only [ps]
   refine runL (i:=9) rfl rfl (by kernel_rfl) (fun K hK=>?_)
   refine wp_st_at rfl 79 _ _ rfl V 0 _ #[.int .i64 t0,.int .i64 t1,.int .i64 t2,.int .i64 t3,.int .i64 hold,.int .i64 room,.int .i64 age,.slice (some ⟨nb,no,none⟩) n ncap,sv,.slice (some ⟨gr,0,none⟩) n rcap,.slice (some ⟨gf,0,none⟩) n n,.map (some mb),.slice none 0 0] VZ #[.int .i64 t0,.int .i64 t1,.int .i64 t2,.int .i64 t3,.int .i64 hold,.int .i64 room,.int .i64 age,.slice (some ⟨nb,no,none⟩) n ncap,sv,.slice (some ⟨gr,0,none⟩) n rcap,.slice (some ⟨gf,0,none⟩) n n,.map (some mb),.slice none 0 0] 79 rfl rfl rfl hvb (by exact (by decide:0+13≤13)) (by kernel_rfl) (one_view HSV.out) rfl (fun wz hrow hm=>?_)
   have hxz:Ext w5 wz:=Ext.mutE hsc2 hm (fun j hj h=>by have h2:j=V:=h; omega)
   refine hK.out _ _ hxz (fun _=>?_)
   try simp only [ps]
   clear hK K
   refine wpAnyH_done (by kernel_rfl) ?_ _
   have hn1:V ≠ gf:=fun h=>by
    have h1:=hvb
    rw [h] at h1
    have h2:=h1.symm.trans hwf
    simp only [Option.some.injEq,Obj.cells.injEq] at h2
    exact absurd h2.2.1 (by decide)
   have hn2:V ≠ mb:=fun h=>by
    obtain ⟨D,⟨es,clock,hb,_⟩,_⟩:=hsm
    have h1:=hvb
    rw [h,hb] at h1
    cases h1
   have HLF:=Lib.hid (And.intro hrow (And.intro ((hm.heap (heap_lt hwf) (fun h=>hn1 h.symm)).trans hwf) (And.intro (hsm.blk (hm.heap hmbl (fun h=>hn2 h.symm))) (And.intro hxz (And.intro hn1 hn2)))))
   have HLG:=Lib.hid (And.intro hvw (And.intro hgf2 (And.intro hmb hso)))
   clear hrow hwf hsm hxz hn1 hn2 hm hvb hso hvw hgf2 hmb
   go_wp2_with fail
   go_meet
   exact ⟨V,gf,mb,rfl,HLF.out.1,by rw [HWO.out]; exact HLF.out.2.1,HLF.out.2.2.1,by rw [HWO.out]; exact HLG.out.2.2.2,HLF.out.2.2.2.1,HLG.out.1,HLG.out.2.1,HLG.out.2.2.1,HLF.out.2.2.2.2.1,HLF.out.2.2.2.2.2⟩
end Go.Proofs.Ytamnmjckhicapaa
