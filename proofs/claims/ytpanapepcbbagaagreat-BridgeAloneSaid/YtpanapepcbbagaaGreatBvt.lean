/- Part 20 of what BridgeRests stands on. No statement is proved here. -/
import Derived.Maps.Own
import Derived.Maps.Views
import Derived.Deep.QuietTactic
import Derived.WalkMore
import Derived.ScopeJumps
import Derived.Test.YtpanapepcbbagaaGreatBvr
set_option linter.unusedVariables false
set_option linter.unusedSimpArgs false
set_option maxRecDepth 100000
set_option maxHeartbeats 8000000
namespace Go.Proofs.YtpanapepcbbagaaGreat
open Go.RowKit Go.BigFrame Go.WideShapes Go.ChangeShapes Go.Deep
theorem aY:(Tryz.prog.info? 130).map (·.size)=some 6:=by kernel_rfl
def uX(B:Br)(k:Nat):Bool:=B.gb k 39 || B.gb k 41 || B.gb k 40 || B.gb k 49
def eH(cnt fwd edge lrn lrng tld:Bool):Nat:=if(cnt && fwd && !edge)=true then 1 else if(!cnt && !lrn && !lrng && !tld)=true then 2 else if tld=true then 3 else 0
def gJ(n:Nat)(m:Value):Value:=if n=1 then .func (.func 155) #[m] #[]else if n=2 then .func (.func 157) #[m] #[]else if n=3 then .func (.func 129) #[m] #[]else Value.nilFunc
def lG(B:Br)(k:Nat):Nat:=eH ((B.gi k 87 == 3) || (B.gi k 87 == 4)) (B.gb k 26) (B.gb k 32) (B.gb k 28) (B.gb k 29) (uX B k)
theorem i7(w:World)(F:Nat→Prop)(X g k:Nat)(B:Br)(h:BrG w F X g B)(ho:B.ok)(hk:k<B.np)(b1 b2:Nat):Calls Tryz.prog 156 #[.agg #[.pointer (some ⟨g,k*89,none⟩),.int .i64 (B.hi 2),.int .i64 (B.hi 3),.int .i64 (B.hi 4),.int .i64 (B.hi 5),.func (.func 128) #[] #[.pointer (some ⟨b1,0,none⟩),.pointer (some ⟨b2,0,none⟩)]]] w fun e w'=>e=.returned (.bool (uX B k))∧Ext w w':=by
 obtain⟨hX,hg,hne⟩:=h.lt
 unfold uX
 obtain⟨x39,e39⟩:∃b,B.gb k 39=b:=⟨_,rfl⟩
 have HE39:=hD e39
 clear e39
 obtain⟨x41,e41⟩:∃b,B.gb k 41=b:=⟨_,rfl⟩
 have HE41:=hD e41
 clear e41
 obtain⟨x40,e40⟩:∃b,B.gb k 40=b:=⟨_,rfl⟩
 have HE40:=hD e40
 clear e40
 obtain⟨x49,e49⟩:∃b,B.gb k 49=b:=⟨_,rfl⟩
 have HE49:=hD e49
 clear e49
 rw[HE39.out,HE41.out,HE40.out,HE49.out]
 have h0:=h.alloc (.cells #[.pointer (some ⟨g,k*89,none⟩),.int .i64 (B.hi 2),.int .i64 (B.hi 3),.int .i64 (B.hi 4),.int .i64 (B.hi 5),.func (.func 128) #[] #[.pointer (some ⟨b1,0,none⟩),.pointer (some ⟨b2,0,none⟩)]] 130)
 have hflr:=hD (h0.flags hk)
 have hfn:=fU ho hk
 have f39:(cH B.ps k)[17]?=some (.bool x39):=by rw[bK (by decide)];exact(ho.gb hk 39 rfl).trans (by rw[HE39.out])
 have f41:(cH B.ps k)[19]?=some (.bool x41):=by rw[bK (by decide)];exact(ho.gb hk 41 rfl).trans (by rw[HE41.out])
 have f40:(cH B.ps k)[18]?=some (.bool x40):=by rw[bK (by decide)];exact(ho.gb hk 40 rfl).trans (by rw[HE40.out])
 have f49:(cH B.ps k)[27]?=some (.bool x49):=by rw[bK (by decide)];exact(ho.gb hk 49 rfl).trans (by rw[HE49.out])
 have hflo:=hD (all_oneCell_toArray (fV ho k))
 obtain⟨fl,hfl⟩:∃fl,cH B.ps k=fl:=⟨_,rfl⟩
 rw[hfl]at hflr hfn hflo f39 f41 f40 f49
 have hfli:=hD (show(Tryz.prog.info? 58).map (·.size)=some fl.length by rw[hfn];exact b7)
 have hfli2:=hD (show(Tryz.prog.info? 58).map (·.size)=some fl.toArray.size by rw[List.size_toArray,hfn];exact b7)
 have hfls:=hD (show FZ.size=fl.toArray.size by rw[List.size_toArray];exact hfn.symm)
 clear hfl hfn
 have hzf:=iV
 replace f39:fl.toArray[17]?=some (.bool x39):=by simpa using f39
 replace f41:fl.toArray[19]?=some (.bool x41):=by simpa using f41
 replace f40:fl.toArray[18]?=some (.bool x40):=by simpa using f40
 replace f49:fl.toArray[27]?=some (.bool x49):=by simpa using f49
 clear h h0
 cases x39
 ·cases x41
  ·cases x40
   ·go_enter Tryz.func156,Tryz.ntmps156
    go_wp2_with (first
     | fail
     | ((with_reducible refine aG 58 ?_);refine wpList_load_mid rfl 58 _ rfl g (k*89+22) rfl fl _ hflr.out Tryz.underlying58 rfl hfli.out ?_)
     | ((with_reducible refine aD 58 ?_);refine cL rfl rfl 58 _ _ _ rfl FZ fl.toArray _ rfl ?_ rfl hfli2.out hfls.out (by rw[Array.all_toList];exact hflo.out) ?_;· simp
        intro wf hwf
        have HBX:=hD (show wf.heap[w.heap.size+1]?=some (.cells fl.toArray 58 (0,0))from by rw[hwf];exact heap_alloc2_new _ _ _)
        have HMX:=hD (show wf.heap[w.heap.size]?=some (.cells #[.pointer (some ⟨g,k*89,none⟩),.int .i64 (B.hi 2),.int .i64 (B.hi 3),.int .i64 (B.hi 4),.int .i64 (B.hi 5),.func (.func 128) #[] #[.pointer (some ⟨b1,0,none⟩),.pointer (some ⟨b2,0,none⟩)]] 130 (0,0))from by rw[hwf];exact(heap_alloc_old _ _ (by simp)).trans (heap_alloc_new _ _))
        have HEX:=hD (show Ext w wf from by rw[hwf];exact((Ext.refl w).alloc _).alloc _)
        clear hwf
        have q39:=(cell_of_row _ _ 17 _ _ _ HBX.out).trans f39
        have q41:=(cell_of_row _ _ 19 _ _ _ HBX.out).trans f41
        have q40:=(cell_of_row _ _ 18 _ _ _ HBX.out).trans f40
        have q49:=(cell_of_row _ _ 27 _ _ _ HBX.out).trans f49
        clear f39 f41 f40 f49))
    go_ret
    exact⟨by simp,HEX.out⟩
   ·go_enter Tryz.func156,Tryz.ntmps156
    go_wp2_with (first
     | fail
     | ((with_reducible refine aG 58 ?_);refine wpList_load_mid rfl 58 _ rfl g (k*89+22) rfl fl _ hflr.out Tryz.underlying58 rfl hfli.out ?_)
     | ((with_reducible refine aD 58 ?_);refine cL rfl rfl 58 _ _ _ rfl FZ fl.toArray _ rfl ?_ rfl hfli2.out hfls.out (by rw[Array.all_toList];exact hflo.out) ?_;· simp
        intro wf hwf
        have HBX:=hD (show wf.heap[w.heap.size+1]?=some (.cells fl.toArray 58 (0,0))from by rw[hwf];exact heap_alloc2_new _ _ _)
        have HMX:=hD (show wf.heap[w.heap.size]?=some (.cells #[.pointer (some ⟨g,k*89,none⟩),.int .i64 (B.hi 2),.int .i64 (B.hi 3),.int .i64 (B.hi 4),.int .i64 (B.hi 5),.func (.func 128) #[] #[.pointer (some ⟨b1,0,none⟩),.pointer (some ⟨b2,0,none⟩)]] 130 (0,0))from by rw[hwf];exact(heap_alloc_old _ _ (by simp)).trans (heap_alloc_new _ _))
        have HEX:=hD (show Ext w wf from by rw[hwf];exact((Ext.refl w).alloc _).alloc _)
        clear hwf
        have q39:=(cell_of_row _ _ 17 _ _ _ HBX.out).trans f39
        have q41:=(cell_of_row _ _ 19 _ _ _ HBX.out).trans f41
        have q40:=(cell_of_row _ _ 18 _ _ _ HBX.out).trans f40
        have q49:=(cell_of_row _ _ 27 _ _ _ HBX.out).trans f49
        clear f39 f41 f40 f49))
    go_ret
    exact⟨by simp,HEX.out⟩
  ·go_enter Tryz.func156,Tryz.ntmps156
   go_wp2_with (first
    | fail
    | ((with_reducible refine aG 58 ?_);refine wpList_load_mid rfl 58 _ rfl g (k*89+22) rfl fl _ hflr.out Tryz.underlying58 rfl hfli.out ?_)
    | ((with_reducible refine aD 58 ?_);refine cL rfl rfl 58 _ _ _ rfl FZ fl.toArray _ rfl ?_ rfl hfli2.out hfls.out (by rw[Array.all_toList];exact hflo.out) ?_;· simp
       intro wf hwf
       have HBX:=hD (show wf.heap[w.heap.size+1]?=some (.cells fl.toArray 58 (0,0))from by rw[hwf];exact heap_alloc2_new _ _ _)
       have HMX:=hD (show wf.heap[w.heap.size]?=some (.cells #[.pointer (some ⟨g,k*89,none⟩),.int .i64 (B.hi 2),.int .i64 (B.hi 3),.int .i64 (B.hi 4),.int .i64 (B.hi 5),.func (.func 128) #[] #[.pointer (some ⟨b1,0,none⟩),.pointer (some ⟨b2,0,none⟩)]] 130 (0,0))from by rw[hwf];exact(heap_alloc_old _ _ (by simp)).trans (heap_alloc_new _ _))
       have HEX:=hD (show Ext w wf from by rw[hwf];exact((Ext.refl w).alloc _).alloc _)
       clear hwf
       have q39:=(cell_of_row _ _ 17 _ _ _ HBX.out).trans f39
       have q41:=(cell_of_row _ _ 19 _ _ _ HBX.out).trans f41
       have q40:=(cell_of_row _ _ 18 _ _ _ HBX.out).trans f40
       have q49:=(cell_of_row _ _ 27 _ _ _ HBX.out).trans f49
       clear f39 f41 f40 f49))
   go_ret
   exact⟨by simp,HEX.out⟩
 ·go_enter Tryz.func156,Tryz.ntmps156
  go_wp2_with (first
   | fail
   | ((with_reducible refine aG 58 ?_);refine wpList_load_mid rfl 58 _ rfl g (k*89+22) rfl fl _ hflr.out Tryz.underlying58 rfl hfli.out ?_)
   | ((with_reducible refine aD 58 ?_);refine cL rfl rfl 58 _ _ _ rfl FZ fl.toArray _ rfl ?_ rfl hfli2.out hfls.out (by rw[Array.all_toList];exact hflo.out) ?_;· simp
      intro wf hwf
      have HBX:=hD (show wf.heap[w.heap.size+1]?=some (.cells fl.toArray 58 (0,0))from by rw[hwf];exact heap_alloc2_new _ _ _)
      have HMX:=hD (show wf.heap[w.heap.size]?=some (.cells #[.pointer (some ⟨g,k*89,none⟩),.int .i64 (B.hi 2),.int .i64 (B.hi 3),.int .i64 (B.hi 4),.int .i64 (B.hi 5),.func (.func 128) #[] #[.pointer (some ⟨b1,0,none⟩),.pointer (some ⟨b2,0,none⟩)]] 130 (0,0))from by rw[hwf];exact(heap_alloc_old _ _ (by simp)).trans (heap_alloc_new _ _))
      have HEX:=hD (show Ext w wf from by rw[hwf];exact((Ext.refl w).alloc _).alloc _)
      clear hwf
      have q39:=(cell_of_row _ _ 17 _ _ _ HBX.out).trans f39
      have q41:=(cell_of_row _ _ 19 _ _ _ HBX.out).trans f41
      have q40:=(cell_of_row _ _ 18 _ _ _ HBX.out).trans f40
      have q49:=(cell_of_row _ _ 27 _ _ _ HBX.out).trans f49
      clear f39 f41 f40 f49))
  go_ret
  exact⟨by simp,HEX.out⟩
theorem sV(w:World)(F:Nat→Prop)(X g k:Nat)(B:Br)(h:BrG w F X g B)(ho:B.ok)(hk:k<B.np)(b1 b2:Nat):Calls Tryz.prog 130 #[.agg #[.pointer (some ⟨g,k*89,none⟩),.int .i64 (B.hi 2),.int .i64 (B.hi 3),.int .i64 (B.hi 4),.int .i64 (B.hi 5),.func (.func 128) #[] #[.pointer (some ⟨b1,0,none⟩),.pointer (some ⟨b2,0,none⟩)]]] w fun e w'=>e=.returned (gJ (lG B k) (.agg #[.pointer (some ⟨g,k*89,none⟩),.int .i64 (B.hi 2),.int .i64 (B.hi 3),.int .i64 (B.hi 4),.int .i64 (B.hi 5),.func (.func 128) #[] #[.pointer (some ⟨b1,0,none⟩),.pointer (some ⟨b2,0,none⟩)]]))∧Ext w w':=by
 obtain⟨hX,hg,hne⟩:=h.lt
 unfold lG
 obtain⟨x26,e26⟩:∃b,B.gb k 26=b:=⟨_,rfl⟩
 have HE26:=hD e26
 clear e26
 obtain⟨x32,e32⟩:∃b,B.gb k 32=b:=⟨_,rfl⟩
 have HE32:=hD e32
 clear e32
 obtain⟨x28,e28⟩:∃b,B.gb k 28=b:=⟨_,rfl⟩
 have HE28:=hD e28
 clear e28
 obtain⟨x29,e29⟩:∃b,B.gb k 29=b:=⟨_,rfl⟩
 have HE29:=hD e29
 clear e29
 obtain⟨cnt,hcnt⟩:∃b,((B.gi k 87 == 3) || (B.gi k 87 == 4))=b:=⟨_,rfl⟩
 have HCN:=hD hcnt
 clear hcnt
 obtain⟨tld,htld⟩:∃b,uX B k=b:=⟨_,rfl⟩
 have HTL:=hD htld
 clear htld
 rw[HCN.out,HTL.out,HE26.out,HE32.out,HE28.out,HE29.out]
 have H:=hD h
 have h0:=h.alloc (.cells #[.pointer (some ⟨g,k*89,none⟩),.int .i64 (B.hi 2),.int .i64 (B.hi 3),.int .i64 (B.hi 4),.int .i64 (B.hi 5),.func (.func 128) #[] #[.pointer (some ⟨b1,0,none⟩),.pointer (some ⟨b2,0,none⟩)]] 130)
 have hflr:=hD (h0.flags hk)
 have hfn:=fU ho hk
 have f26:(cH B.ps k)[4]?=some (.bool x26):=by rw[bK (by decide)];exact(ho.gb hk 26 rfl).trans (by rw[HE26.out])
 have f32:(cH B.ps k)[10]?=some (.bool x32):=by rw[bK (by decide)];exact(ho.gb hk 32 rfl).trans (by rw[HE32.out])
 have f28:(cH B.ps k)[6]?=some (.bool x28):=by rw[bK (by decide)];exact(ho.gb hk 28 rfl).trans (by rw[HE28.out])
 have f29:(cH B.ps k)[7]?=some (.bool x29):=by rw[bK (by decide)];exact(ho.gb hk 29 rfl).trans (by rw[HE29.out])
 have hflo:=hD (all_oneCell_toArray (fV ho k))
 obtain⟨fl,hfl⟩:∃fl,cH B.ps k=fl:=⟨_,rfl⟩
 rw[hfl]at hflr hfn hflo f26 f32 f28 f29
 have hfli:=hD (show(Tryz.prog.info? 58).map (·.size)=some fl.length by rw[hfn];exact b7)
 have hfli2:=hD (show(Tryz.prog.info? 58).map (·.size)=some fl.toArray.size by rw[List.size_toArray,hfn];exact b7)
 have hfls:=hD (show FZ.size=fl.toArray.size by rw[List.size_toArray];exact hfn.symm)
 clear hfl hfn
 have hzf:=iV
 replace f26:fl.toArray[4]?=some (.bool x26):=by simpa using f26
 replace f32:fl.toArray[10]?=some (.bool x32):=by simpa using f32
 replace f28:fl.toArray[6]?=some (.bool x28):=by simpa using f28
 replace f29:fl.toArray[7]?=some (.bool x29):=by simpa using f29
 clear h h0
 go_enter Tryz.func130,Tryz.ntmps130
 go_wp2_with (first
  | fail
  | ((with_reducible refine aG 58 ?_);refine wpList_load_mid rfl 58 _ rfl g (k*89+22) rfl fl _ hflr.out Tryz.underlying58 rfl hfli.out ?_)
  | ((with_reducible refine aD 58 ?_);refine cL rfl rfl 58 _ _ _ rfl FZ fl.toArray _ rfl ?_ rfl hfli2.out hfls.out (by rw[Array.all_toList];exact hflo.out) ?_;· simp
     intro wf hwf
     have HBX:=hD (show wf.heap[w.heap.size+1]?=some (.cells fl.toArray 58 (0,0))from by rw[hwf];exact heap_alloc2_new _ _ _)
     have HMX:=hD (show wf.heap[w.heap.size]?=some (.cells #[.pointer (some ⟨g,k*89,none⟩),.int .i64 (B.hi 2),.int .i64 (B.hi 3),.int .i64 (B.hi 4),.int .i64 (B.hi 5),.func (.func 128) #[] #[.pointer (some ⟨b1,0,none⟩),.pointer (some ⟨b2,0,none⟩)]] 130 (0,0))from by rw[hwf];exact(heap_alloc_old _ _ (by simp)).trans (heap_alloc_new _ _))
     have HEX:=hD (show Ext w wf from by rw[hwf];exact((Ext.refl w).alloc _).alloc _)
     clear hwf
     have q26:=(cell_of_row _ _ 4 _ _ _ HBX.out).trans f26
     have q32:=(cell_of_row _ _ 10 _ _ _ HBX.out).trans f32
     have q28:=(cell_of_row _ _ 6 _ _ _ HBX.out).trans f28
     have q29:=(cell_of_row _ _ 7 _ _ _ HBX.out).trans f29
     clear f26 f32 f28 f29)
  | ((with_reducible refine aG 130 ?_);refine wpList_load_row rfl 130 _ rfl w.heap.size rfl 130 #[.pointer (some ⟨g,k*89,none⟩),.int .i64 (B.hi 2),.int .i64 (B.hi 3),.int .i64 (B.hi 4),.int .i64 (B.hi 5),.func (.func 128) #[] #[.pointer (some ⟨b1,0,none⟩),.pointer (some ⟨b2,0,none⟩)]] (0,0) _ HMX.out Tryz.underlying130 rfl aY ?_)
  | ((with_reducible refine aW 130 ?_);refine aL rfl 130 _ rfl w.heap.size rfl 130 #[.pointer (some ⟨g,k*89,none⟩),.int .i64 (B.hi 2),.int .i64 (B.hi 3),.int .i64 (B.hi 4),.int .i64 (B.hi 5),.func (.func 128) #[] #[.pointer (some ⟨b1,0,none⟩),.pointer (some ⟨b2,0,none⟩)]] (0,0) _ HMX.out Tryz.underlying130 rfl aY ?_))
 refine(eM (eU g (k*89) (B.hi 2) (B.hi 3) (B.hi 4) (B.hi 5) b1 b2 (B.gi k 87) wf (nL hg HEX.out.size) (((H.out.ext HEX.out).cellg (i:=k*89+87) (bZ hk (by decide))).trans (ho.gi hk 87 rfl))) HCN.out).mono ?_
 rintro e v0 ⟨rfl,hx⟩
 have HM0:=hD ((hx.block _ (aC HMX.out)).trans HMX.out)
 have HB0:=hD ((hx.block _ (aC HBX.out)).trans HBX.out)
 have HE0_:=hD (HEX.out.trans hx)
 replace q26:=xc hx (aC HBX.out) q26
 replace q32:=xc hx (aC HBX.out) q32
 replace q28:=xc hx (aC HBX.out) q28
 replace q29:=xc hx (aC HBX.out) q29
 clear hx
 cases cnt
 ·cases x28
  ·cases x29
   ·cases tld
    ·go_wp2_with (first
      | fail
      | ((with_reducible refine aG 130 ?_);refine wpList_load_row rfl 130 _ rfl w.heap.size rfl 130 #[.pointer (some ⟨g,k*89,none⟩),.int .i64 (B.hi 2),.int .i64 (B.hi 3),.int .i64 (B.hi 4),.int .i64 (B.hi 5),.func (.func 128) #[] #[.pointer (some ⟨b1,0,none⟩),.pointer (some ⟨b2,0,none⟩)]] (0,0) _ HM0.out Tryz.underlying130 rfl aY ?_)
      | ((with_reducible refine aW 130 ?_);refine aL rfl 130 _ rfl w.heap.size rfl 130 #[.pointer (some ⟨g,k*89,none⟩),.int .i64 (B.hi 2),.int .i64 (B.hi 3),.int .i64 (B.hi 4),.int .i64 (B.hi 5),.func (.func 128) #[] #[.pointer (some ⟨b1,0,none⟩),.pointer (some ⟨b2,0,none⟩)]] (0,0) _ HM0.out Tryz.underlying130 rfl aY ?_))
     refine(eM (eU g (k*89) (B.hi 2) (B.hi 3) (B.hi 4) (B.hi 5) b1 b2 (B.gi k 87) v0 (nL hg HE0_.out.size) (((H.out.ext HE0_.out).cellg (i:=k*89+87) (bZ hk (by decide))).trans (ho.gi hk 87 rfl))) HCN.out).mono ?_
     rintro e v1 ⟨rfl,hx⟩
     have HM1:=hD ((hx.block _ (aC HM0.out)).trans HM0.out)
     have HB1:=hD ((hx.block _ (aC HB0.out)).trans HB0.out)
     have HE1_:=hD (HE0_.out.trans hx)
     replace q26:=xc hx (aC HB0.out) q26
     replace q32:=xc hx (aC HB0.out) q32
     replace q28:=xc hx (aC HB0.out) q28
     replace q29:=xc hx (aC HB0.out) q29
     clear hx
     go_wp2_with (first
      | fail
      | ((with_reducible refine aG 130 ?_);refine wpList_load_row rfl 130 _ rfl w.heap.size rfl 130 #[.pointer (some ⟨g,k*89,none⟩),.int .i64 (B.hi 2),.int .i64 (B.hi 3),.int .i64 (B.hi 4),.int .i64 (B.hi 5),.func (.func 128) #[] #[.pointer (some ⟨b1,0,none⟩),.pointer (some ⟨b2,0,none⟩)]] (0,0) _ HM1.out Tryz.underlying130 rfl aY ?_)
      | ((with_reducible refine aW 130 ?_);refine aL rfl 130 _ rfl w.heap.size rfl 130 #[.pointer (some ⟨g,k*89,none⟩),.int .i64 (B.hi 2),.int .i64 (B.hi 3),.int .i64 (B.hi 4),.int .i64 (B.hi 5),.func (.func 128) #[] #[.pointer (some ⟨b1,0,none⟩),.pointer (some ⟨b2,0,none⟩)]] (0,0) _ HM1.out Tryz.underlying130 rfl aY ?_))
     refine(eM (i7 v1 F X g k B (H.out.ext HE1_.out) ho hk b1 b2) HTL.out).mono ?_
     rintro e v2 ⟨rfl,hx⟩
     have HM2:=hD ((hx.block _ (aC HM1.out)).trans HM1.out)
     have HB2:=hD ((hx.block _ (aC HB1.out)).trans HB1.out)
     have HE2_:=hD (HE1_.out.trans hx)
     replace q26:=xc hx (aC HB1.out) q26
     replace q32:=xc hx (aC HB1.out) q32
     replace q28:=xc hx (aC HB1.out) q28
     replace q29:=xc hx (aC HB1.out) q29
     clear hx
     go_wp2_with (first
      | fail
      | ((with_reducible refine aG 130 ?_);refine wpList_load_row rfl 130 _ rfl w.heap.size rfl 130 #[.pointer (some ⟨g,k*89,none⟩),.int .i64 (B.hi 2),.int .i64 (B.hi 3),.int .i64 (B.hi 4),.int .i64 (B.hi 5),.func (.func 128) #[] #[.pointer (some ⟨b1,0,none⟩),.pointer (some ⟨b2,0,none⟩)]] (0,0) _ HM2.out Tryz.underlying130 rfl aY ?_)
      | ((with_reducible refine aW 130 ?_);refine aL rfl 130 _ rfl w.heap.size rfl 130 #[.pointer (some ⟨g,k*89,none⟩),.int .i64 (B.hi 2),.int .i64 (B.hi 3),.int .i64 (B.hi 4),.int .i64 (B.hi 5),.func (.func 128) #[] #[.pointer (some ⟨b1,0,none⟩),.pointer (some ⟨b2,0,none⟩)]] (0,0) _ HM2.out Tryz.underlying130 rfl aY ?_))
     go_ret
     exact⟨by simp[gJ,eH],HE2_.out⟩
    ·go_wp2_with (first
      | fail
      | ((with_reducible refine aG 130 ?_);refine wpList_load_row rfl 130 _ rfl w.heap.size rfl 130 #[.pointer (some ⟨g,k*89,none⟩),.int .i64 (B.hi 2),.int .i64 (B.hi 3),.int .i64 (B.hi 4),.int .i64 (B.hi 5),.func (.func 128) #[] #[.pointer (some ⟨b1,0,none⟩),.pointer (some ⟨b2,0,none⟩)]] (0,0) _ HM0.out Tryz.underlying130 rfl aY ?_)
      | ((with_reducible refine aW 130 ?_);refine aL rfl 130 _ rfl w.heap.size rfl 130 #[.pointer (some ⟨g,k*89,none⟩),.int .i64 (B.hi 2),.int .i64 (B.hi 3),.int .i64 (B.hi 4),.int .i64 (B.hi 5),.func (.func 128) #[] #[.pointer (some ⟨b1,0,none⟩),.pointer (some ⟨b2,0,none⟩)]] (0,0) _ HM0.out Tryz.underlying130 rfl aY ?_))
     refine(eM (eU g (k*89) (B.hi 2) (B.hi 3) (B.hi 4) (B.hi 5) b1 b2 (B.gi k 87) v0 (nL hg HE0_.out.size) (((H.out.ext HE0_.out).cellg (i:=k*89+87) (bZ hk (by decide))).trans (ho.gi hk 87 rfl))) HCN.out).mono ?_
     rintro e v1 ⟨rfl,hx⟩
     have HM1:=hD ((hx.block _ (aC HM0.out)).trans HM0.out)
     have HB1:=hD ((hx.block _ (aC HB0.out)).trans HB0.out)
     have HE1_:=hD (HE0_.out.trans hx)
     replace q26:=xc hx (aC HB0.out) q26
     replace q32:=xc hx (aC HB0.out) q32
     replace q28:=xc hx (aC HB0.out) q28
     replace q29:=xc hx (aC HB0.out) q29
     clear hx
     go_wp2_with (first
      | fail
      | ((with_reducible refine aG 130 ?_);refine wpList_load_row rfl 130 _ rfl w.heap.size rfl 130 #[.pointer (some ⟨g,k*89,none⟩),.int .i64 (B.hi 2),.int .i64 (B.hi 3),.int .i64 (B.hi 4),.int .i64 (B.hi 5),.func (.func 128) #[] #[.pointer (some ⟨b1,0,none⟩),.pointer (some ⟨b2,0,none⟩)]] (0,0) _ HM1.out Tryz.underlying130 rfl aY ?_)
      | ((with_reducible refine aW 130 ?_);refine aL rfl 130 _ rfl w.heap.size rfl 130 #[.pointer (some ⟨g,k*89,none⟩),.int .i64 (B.hi 2),.int .i64 (B.hi 3),.int .i64 (B.hi 4),.int .i64 (B.hi 5),.func (.func 128) #[] #[.pointer (some ⟨b1,0,none⟩),.pointer (some ⟨b2,0,none⟩)]] (0,0) _ HM1.out Tryz.underlying130 rfl aY ?_))
     refine(eM (i7 v1 F X g k B (H.out.ext HE1_.out) ho hk b1 b2) HTL.out).mono ?_
     rintro e v2 ⟨rfl,hx⟩
     have HM2:=hD ((hx.block _ (aC HM1.out)).trans HM1.out)
     have HB2:=hD ((hx.block _ (aC HB1.out)).trans HB1.out)
     have HE2_:=hD (HE1_.out.trans hx)
     replace q26:=xc hx (aC HB1.out) q26
     replace q32:=xc hx (aC HB1.out) q32
     replace q28:=xc hx (aC HB1.out) q28
     replace q29:=xc hx (aC HB1.out) q29
     clear hx
     go_wp2_with (first
      | fail
      | ((with_reducible refine aG 130 ?_);refine wpList_load_row rfl 130 _ rfl w.heap.size rfl 130 #[.pointer (some ⟨g,k*89,none⟩),.int .i64 (B.hi 2),.int .i64 (B.hi 3),.int .i64 (B.hi 4),.int .i64 (B.hi 5),.func (.func 128) #[] #[.pointer (some ⟨b1,0,none⟩),.pointer (some ⟨b2,0,none⟩)]] (0,0) _ HM2.out Tryz.underlying130 rfl aY ?_)
      | ((with_reducible refine aW 130 ?_);refine aL rfl 130 _ rfl w.heap.size rfl 130 #[.pointer (some ⟨g,k*89,none⟩),.int .i64 (B.hi 2),.int .i64 (B.hi 3),.int .i64 (B.hi 4),.int .i64 (B.hi 5),.func (.func 128) #[] #[.pointer (some ⟨b1,0,none⟩),.pointer (some ⟨b2,0,none⟩)]] (0,0) _ HM2.out Tryz.underlying130 rfl aY ?_))
     refine(eM (i7 v2 F X g k B (H.out.ext HE2_.out) ho hk b1 b2) HTL.out).mono ?_
     rintro e v3 ⟨rfl,hx⟩
     have HM3:=hD ((hx.block _ (aC HM2.out)).trans HM2.out)
     have HB3:=hD ((hx.block _ (aC HB2.out)).trans HB2.out)
     have HE3_:=hD (HE2_.out.trans hx)
     replace q26:=xc hx (aC HB2.out) q26
     replace q32:=xc hx (aC HB2.out) q32
     replace q28:=xc hx (aC HB2.out) q28
     replace q29:=xc hx (aC HB2.out) q29
     clear hx
     go_wp2_with (first
      | fail
      | ((with_reducible refine aG 130 ?_);refine wpList_load_row rfl 130 _ rfl w.heap.size rfl 130 #[.pointer (some ⟨g,k*89,none⟩),.int .i64 (B.hi 2),.int .i64 (B.hi 3),.int .i64 (B.hi 4),.int .i64 (B.hi 5),.func (.func 128) #[] #[.pointer (some ⟨b1,0,none⟩),.pointer (some ⟨b2,0,none⟩)]] (0,0) _ HM3.out Tryz.underlying130 rfl aY ?_)
      | ((with_reducible refine aW 130 ?_);refine aL rfl 130 _ rfl w.heap.size rfl 130 #[.pointer (some ⟨g,k*89,none⟩),.int .i64 (B.hi 2),.int .i64 (B.hi 3),.int .i64 (B.hi 4),.int .i64 (B.hi 5),.func (.func 128) #[] #[.pointer (some ⟨b1,0,none⟩),.pointer (some ⟨b2,0,none⟩)]] (0,0) _ HM3.out Tryz.underlying130 rfl aY ?_))
     go_ret
     exact⟨by simp[gJ,eH],HE3_.out⟩
   ·cases tld
    all_goals
     go_wp2_with (first
      | fail
      | ((with_reducible refine aG 130 ?_);refine wpList_load_row rfl 130 _ rfl w.heap.size rfl 130 #[.pointer (some ⟨g,k*89,none⟩),.int .i64 (B.hi 2),.int .i64 (B.hi 3),.int .i64 (B.hi 4),.int .i64 (B.hi 5),.func (.func 128) #[] #[.pointer (some ⟨b1,0,none⟩),.pointer (some ⟨b2,0,none⟩)]] (0,0) _ HM0.out Tryz.underlying130 rfl aY ?_)
      | ((with_reducible refine aW 130 ?_);refine aL rfl 130 _ rfl w.heap.size rfl 130 #[.pointer (some ⟨g,k*89,none⟩),.int .i64 (B.hi 2),.int .i64 (B.hi 3),.int .i64 (B.hi 4),.int .i64 (B.hi 5),.func (.func 128) #[] #[.pointer (some ⟨b1,0,none⟩),.pointer (some ⟨b2,0,none⟩)]] (0,0) _ HM0.out Tryz.underlying130 rfl aY ?_))
     refine(eM (eU g (k*89) (B.hi 2) (B.hi 3) (B.hi 4) (B.hi 5) b1 b2 (B.gi k 87) v0 (nL hg HE0_.out.size) (((H.out.ext HE0_.out).cellg (i:=k*89+87) (bZ hk (by decide))).trans (ho.gi hk 87 rfl))) HCN.out).mono ?_
     rintro e v1 ⟨rfl,hx⟩
     have HM1:=hD ((hx.block _ (aC HM0.out)).trans HM0.out)
     have HB1:=hD ((hx.block _ (aC HB0.out)).trans HB0.out)
     have HE1_:=hD (HE0_.out.trans hx)
     replace q26:=xc hx (aC HB0.out) q26
     replace q32:=xc hx (aC HB0.out) q32
     replace q28:=xc hx (aC HB0.out) q28
     replace q29:=xc hx (aC HB0.out) q29
     clear hx
     go_wp2_with (first
      | fail
      | ((with_reducible refine aG 130 ?_);refine wpList_load_row rfl 130 _ rfl w.heap.size rfl 130 #[.pointer (some ⟨g,k*89,none⟩),.int .i64 (B.hi 2),.int .i64 (B.hi 3),.int .i64 (B.hi 4),.int .i64 (B.hi 5),.func (.func 128) #[] #[.pointer (some ⟨b1,0,none⟩),.pointer (some ⟨b2,0,none⟩)]] (0,0) _ HM1.out Tryz.underlying130 rfl aY ?_)
      | ((with_reducible refine aW 130 ?_);refine aL rfl 130 _ rfl w.heap.size rfl 130 #[.pointer (some ⟨g,k*89,none⟩),.int .i64 (B.hi 2),.int .i64 (B.hi 3),.int .i64 (B.hi 4),.int .i64 (B.hi 5),.func (.func 128) #[] #[.pointer (some ⟨b1,0,none⟩),.pointer (some ⟨b2,0,none⟩)]] (0,0) _ HM1.out Tryz.underlying130 rfl aY ?_))
     refine(eM (i7 v1 F X g k B (H.out.ext HE1_.out) ho hk b1 b2) HTL.out).mono ?_
     rintro e v2 ⟨rfl,hx⟩
     have HM2:=hD ((hx.block _ (aC HM1.out)).trans HM1.out)
     have HB2:=hD ((hx.block _ (aC HB1.out)).trans HB1.out)
     have HE2_:=hD (HE1_.out.trans hx)
     replace q26:=xc hx (aC HB1.out) q26
     replace q32:=xc hx (aC HB1.out) q32
     replace q28:=xc hx (aC HB1.out) q28
     replace q29:=xc hx (aC HB1.out) q29
     clear hx
     go_wp2_with (first
      | fail
      | ((with_reducible refine aG 130 ?_);refine wpList_load_row rfl 130 _ rfl w.heap.size rfl 130 #[.pointer (some ⟨g,k*89,none⟩),.int .i64 (B.hi 2),.int .i64 (B.hi 3),.int .i64 (B.hi 4),.int .i64 (B.hi 5),.func (.func 128) #[] #[.pointer (some ⟨b1,0,none⟩),.pointer (some ⟨b2,0,none⟩)]] (0,0) _ HM2.out Tryz.underlying130 rfl aY ?_)
      | ((with_reducible refine aW 130 ?_);refine aL rfl 130 _ rfl w.heap.size rfl 130 #[.pointer (some ⟨g,k*89,none⟩),.int .i64 (B.hi 2),.int .i64 (B.hi 3),.int .i64 (B.hi 4),.int .i64 (B.hi 5),.func (.func 128) #[] #[.pointer (some ⟨b1,0,none⟩),.pointer (some ⟨b2,0,none⟩)]] (0,0) _ HM2.out Tryz.underlying130 rfl aY ?_))
     go_ret
     exact⟨by simp[gJ,eH],HE2_.out⟩
  ·cases tld
   all_goals
    go_wp2_with (first
     | fail
     | ((with_reducible refine aG 130 ?_);refine wpList_load_row rfl 130 _ rfl w.heap.size rfl 130 #[.pointer (some ⟨g,k*89,none⟩),.int .i64 (B.hi 2),.int .i64 (B.hi 3),.int .i64 (B.hi 4),.int .i64 (B.hi 5),.func (.func 128) #[] #[.pointer (some ⟨b1,0,none⟩),.pointer (some ⟨b2,0,none⟩)]] (0,0) _ HM0.out Tryz.underlying130 rfl aY ?_)
     | ((with_reducible refine aW 130 ?_);refine aL rfl 130 _ rfl w.heap.size rfl 130 #[.pointer (some ⟨g,k*89,none⟩),.int .i64 (B.hi 2),.int .i64 (B.hi 3),.int .i64 (B.hi 4),.int .i64 (B.hi 5),.func (.func 128) #[] #[.pointer (some ⟨b1,0,none⟩),.pointer (some ⟨b2,0,none⟩)]] (0,0) _ HM0.out Tryz.underlying130 rfl aY ?_))
    refine(eM (eU g (k*89) (B.hi 2) (B.hi 3) (B.hi 4) (B.hi 5) b1 b2 (B.gi k 87) v0 (nL hg HE0_.out.size) (((H.out.ext HE0_.out).cellg (i:=k*89+87) (bZ hk (by decide))).trans (ho.gi hk 87 rfl))) HCN.out).mono ?_
    rintro e v1 ⟨rfl,hx⟩
    have HM1:=hD ((hx.block _ (aC HM0.out)).trans HM0.out)
    have HB1:=hD ((hx.block _ (aC HB0.out)).trans HB0.out)
    have HE1_:=hD (HE0_.out.trans hx)
    replace q26:=xc hx (aC HB0.out) q26
    replace q32:=xc hx (aC HB0.out) q32
    replace q28:=xc hx (aC HB0.out) q28
    replace q29:=xc hx (aC HB0.out) q29
    clear hx
    go_wp2_with (first
     | fail
     | ((with_reducible refine aG 130 ?_);refine wpList_load_row rfl 130 _ rfl w.heap.size rfl 130 #[.pointer (some ⟨g,k*89,none⟩),.int .i64 (B.hi 2),.int .i64 (B.hi 3),.int .i64 (B.hi 4),.int .i64 (B.hi 5),.func (.func 128) #[] #[.pointer (some ⟨b1,0,none⟩),.pointer (some ⟨b2,0,none⟩)]] (0,0) _ HM1.out Tryz.underlying130 rfl aY ?_)
     | ((with_reducible refine aW 130 ?_);refine aL rfl 130 _ rfl w.heap.size rfl 130 #[.pointer (some ⟨g,k*89,none⟩),.int .i64 (B.hi 2),.int .i64 (B.hi 3),.int .i64 (B.hi 4),.int .i64 (B.hi 5),.func (.func 128) #[] #[.pointer (some ⟨b1,0,none⟩),.pointer (some ⟨b2,0,none⟩)]] (0,0) _ HM1.out Tryz.underlying130 rfl aY ?_))
    refine(eM (i7 v1 F X g k B (H.out.ext HE1_.out) ho hk b1 b2) HTL.out).mono ?_
    rintro e v2 ⟨rfl,hx⟩
    have HM2:=hD ((hx.block _ (aC HM1.out)).trans HM1.out)
    have HB2:=hD ((hx.block _ (aC HB1.out)).trans HB1.out)
    have HE2_:=hD (HE1_.out.trans hx)
    replace q26:=xc hx (aC HB1.out) q26
    replace q32:=xc hx (aC HB1.out) q32
    replace q28:=xc hx (aC HB1.out) q28
    replace q29:=xc hx (aC HB1.out) q29
    clear hx
    go_wp2_with (first
     | fail
     | ((with_reducible refine aG 130 ?_);refine wpList_load_row rfl 130 _ rfl w.heap.size rfl 130 #[.pointer (some ⟨g,k*89,none⟩),.int .i64 (B.hi 2),.int .i64 (B.hi 3),.int .i64 (B.hi 4),.int .i64 (B.hi 5),.func (.func 128) #[] #[.pointer (some ⟨b1,0,none⟩),.pointer (some ⟨b2,0,none⟩)]] (0,0) _ HM2.out Tryz.underlying130 rfl aY ?_)
     | ((with_reducible refine aW 130 ?_);refine aL rfl 130 _ rfl w.heap.size rfl 130 #[.pointer (some ⟨g,k*89,none⟩),.int .i64 (B.hi 2),.int .i64 (B.hi 3),.int .i64 (B.hi 4),.int .i64 (B.hi 5),.func (.func 128) #[] #[.pointer (some ⟨b1,0,none⟩),.pointer (some ⟨b2,0,none⟩)]] (0,0) _ HM2.out Tryz.underlying130 rfl aY ?_))
    go_ret
    exact⟨by simp[gJ,eH],HE2_.out⟩
 ·cases x26
  ·cases tld
   all_goals
    go_wp2_with (first
     | fail
     | ((with_reducible refine aG 130 ?_);refine wpList_load_row rfl 130 _ rfl w.heap.size rfl 130 #[.pointer (some ⟨g,k*89,none⟩),.int .i64 (B.hi 2),.int .i64 (B.hi 3),.int .i64 (B.hi 4),.int .i64 (B.hi 5),.func (.func 128) #[] #[.pointer (some ⟨b1,0,none⟩),.pointer (some ⟨b2,0,none⟩)]] (0,0) _ HM0.out Tryz.underlying130 rfl aY ?_)
     | ((with_reducible refine aW 130 ?_);refine aL rfl 130 _ rfl w.heap.size rfl 130 #[.pointer (some ⟨g,k*89,none⟩),.int .i64 (B.hi 2),.int .i64 (B.hi 3),.int .i64 (B.hi 4),.int .i64 (B.hi 5),.func (.func 128) #[] #[.pointer (some ⟨b1,0,none⟩),.pointer (some ⟨b2,0,none⟩)]] (0,0) _ HM0.out Tryz.underlying130 rfl aY ?_))
    refine(eM (eU g (k*89) (B.hi 2) (B.hi 3) (B.hi 4) (B.hi 5) b1 b2 (B.gi k 87) v0 (nL hg HE0_.out.size) (((H.out.ext HE0_.out).cellg (i:=k*89+87) (bZ hk (by decide))).trans (ho.gi hk 87 rfl))) HCN.out).mono ?_
    rintro e v1 ⟨rfl,hx⟩
    have HM1:=hD ((hx.block _ (aC HM0.out)).trans HM0.out)
    have HB1:=hD ((hx.block _ (aC HB0.out)).trans HB0.out)
    have HE1_:=hD (HE0_.out.trans hx)
    replace q26:=xc hx (aC HB0.out) q26
    replace q32:=xc hx (aC HB0.out) q32
    replace q28:=xc hx (aC HB0.out) q28
    replace q29:=xc hx (aC HB0.out) q29
    clear hx
    go_wp2_with (first
     | fail
     | ((with_reducible refine aG 130 ?_);refine wpList_load_row rfl 130 _ rfl w.heap.size rfl 130 #[.pointer (some ⟨g,k*89,none⟩),.int .i64 (B.hi 2),.int .i64 (B.hi 3),.int .i64 (B.hi 4),.int .i64 (B.hi 5),.func (.func 128) #[] #[.pointer (some ⟨b1,0,none⟩),.pointer (some ⟨b2,0,none⟩)]] (0,0) _ HM1.out Tryz.underlying130 rfl aY ?_)
     | ((with_reducible refine aW 130 ?_);refine aL rfl 130 _ rfl w.heap.size rfl 130 #[.pointer (some ⟨g,k*89,none⟩),.int .i64 (B.hi 2),.int .i64 (B.hi 3),.int .i64 (B.hi 4),.int .i64 (B.hi 5),.func (.func 128) #[] #[.pointer (some ⟨b1,0,none⟩),.pointer (some ⟨b2,0,none⟩)]] (0,0) _ HM1.out Tryz.underlying130 rfl aY ?_))
    refine(eM (i7 v1 F X g k B (H.out.ext HE1_.out) ho hk b1 b2) HTL.out).mono ?_
    rintro e v2 ⟨rfl,hx⟩
    have HM2:=hD ((hx.block _ (aC HM1.out)).trans HM1.out)
    have HB2:=hD ((hx.block _ (aC HB1.out)).trans HB1.out)
    have HE2_:=hD (HE1_.out.trans hx)
    replace q26:=xc hx (aC HB1.out) q26
    replace q32:=xc hx (aC HB1.out) q32
    replace q28:=xc hx (aC HB1.out) q28
    replace q29:=xc hx (aC HB1.out) q29
    clear hx
    go_wp2_with (first
     | fail
     | ((with_reducible refine aG 130 ?_);refine wpList_load_row rfl 130 _ rfl w.heap.size rfl 130 #[.pointer (some ⟨g,k*89,none⟩),.int .i64 (B.hi 2),.int .i64 (B.hi 3),.int .i64 (B.hi 4),.int .i64 (B.hi 5),.func (.func 128) #[] #[.pointer (some ⟨b1,0,none⟩),.pointer (some ⟨b2,0,none⟩)]] (0,0) _ HM2.out Tryz.underlying130 rfl aY ?_)
     | ((with_reducible refine aW 130 ?_);refine aL rfl 130 _ rfl w.heap.size rfl 130 #[.pointer (some ⟨g,k*89,none⟩),.int .i64 (B.hi 2),.int .i64 (B.hi 3),.int .i64 (B.hi 4),.int .i64 (B.hi 5),.func (.func 128) #[] #[.pointer (some ⟨b1,0,none⟩),.pointer (some ⟨b2,0,none⟩)]] (0,0) _ HM2.out Tryz.underlying130 rfl aY ?_))
    go_ret
    exact⟨by simp[gJ,eH],HE2_.out⟩
  ·cases x32
   ·go_wp2_with (first
     | fail
     | ((with_reducible refine aG 130 ?_);refine wpList_load_row rfl 130 _ rfl w.heap.size rfl 130 #[.pointer (some ⟨g,k*89,none⟩),.int .i64 (B.hi 2),.int .i64 (B.hi 3),.int .i64 (B.hi 4),.int .i64 (B.hi 5),.func (.func 128) #[] #[.pointer (some ⟨b1,0,none⟩),.pointer (some ⟨b2,0,none⟩)]] (0,0) _ HM0.out Tryz.underlying130 rfl aY ?_)
     | ((with_reducible refine aW 130 ?_);refine aL rfl 130 _ rfl w.heap.size rfl 130 #[.pointer (some ⟨g,k*89,none⟩),.int .i64 (B.hi 2),.int .i64 (B.hi 3),.int .i64 (B.hi 4),.int .i64 (B.hi 5),.func (.func 128) #[] #[.pointer (some ⟨b1,0,none⟩),.pointer (some ⟨b2,0,none⟩)]] (0,0) _ HM0.out Tryz.underlying130 rfl aY ?_))
    go_ret
    exact⟨by simp[gJ,eH],HE0_.out⟩
   ·cases tld
    all_goals
     go_wp2_with (first
      | fail
      | ((with_reducible refine aG 130 ?_);refine wpList_load_row rfl 130 _ rfl w.heap.size rfl 130 #[.pointer (some ⟨g,k*89,none⟩),.int .i64 (B.hi 2),.int .i64 (B.hi 3),.int .i64 (B.hi 4),.int .i64 (B.hi 5),.func (.func 128) #[] #[.pointer (some ⟨b1,0,none⟩),.pointer (some ⟨b2,0,none⟩)]] (0,0) _ HM0.out Tryz.underlying130 rfl aY ?_)
      | ((with_reducible refine aW 130 ?_);refine aL rfl 130 _ rfl w.heap.size rfl 130 #[.pointer (some ⟨g,k*89,none⟩),.int .i64 (B.hi 2),.int .i64 (B.hi 3),.int .i64 (B.hi 4),.int .i64 (B.hi 5),.func (.func 128) #[] #[.pointer (some ⟨b1,0,none⟩),.pointer (some ⟨b2,0,none⟩)]] (0,0) _ HM0.out Tryz.underlying130 rfl aY ?_))
     refine(eM (eU g (k*89) (B.hi 2) (B.hi 3) (B.hi 4) (B.hi 5) b1 b2 (B.gi k 87) v0 (nL hg HE0_.out.size) (((H.out.ext HE0_.out).cellg (i:=k*89+87) (bZ hk (by decide))).trans (ho.gi hk 87 rfl))) HCN.out).mono ?_
     rintro e v1 ⟨rfl,hx⟩
     have HM1:=hD ((hx.block _ (aC HM0.out)).trans HM0.out)
     have HB1:=hD ((hx.block _ (aC HB0.out)).trans HB0.out)
     have HE1_:=hD (HE0_.out.trans hx)
     replace q26:=xc hx (aC HB0.out) q26
     replace q32:=xc hx (aC HB0.out) q32
     replace q28:=xc hx (aC HB0.out) q28
     replace q29:=xc hx (aC HB0.out) q29
     clear hx
     go_wp2_with (first
      | fail
      | ((with_reducible refine aG 130 ?_);refine wpList_load_row rfl 130 _ rfl w.heap.size rfl 130 #[.pointer (some ⟨g,k*89,none⟩),.int .i64 (B.hi 2),.int .i64 (B.hi 3),.int .i64 (B.hi 4),.int .i64 (B.hi 5),.func (.func 128) #[] #[.pointer (some ⟨b1,0,none⟩),.pointer (some ⟨b2,0,none⟩)]] (0,0) _ HM1.out Tryz.underlying130 rfl aY ?_)
      | ((with_reducible refine aW 130 ?_);refine aL rfl 130 _ rfl w.heap.size rfl 130 #[.pointer (some ⟨g,k*89,none⟩),.int .i64 (B.hi 2),.int .i64 (B.hi 3),.int .i64 (B.hi 4),.int .i64 (B.hi 5),.func (.func 128) #[] #[.pointer (some ⟨b1,0,none⟩),.pointer (some ⟨b2,0,none⟩)]] (0,0) _ HM1.out Tryz.underlying130 rfl aY ?_))
     refine(eM (i7 v1 F X g k B (H.out.ext HE1_.out) ho hk b1 b2) HTL.out).mono ?_
     rintro e v2 ⟨rfl,hx⟩
     have HM2:=hD ((hx.block _ (aC HM1.out)).trans HM1.out)
     have HB2:=hD ((hx.block _ (aC HB1.out)).trans HB1.out)
     have HE2_:=hD (HE1_.out.trans hx)
     replace q26:=xc hx (aC HB1.out) q26
     replace q32:=xc hx (aC HB1.out) q32
     replace q28:=xc hx (aC HB1.out) q28
     replace q29:=xc hx (aC HB1.out) q29
     clear hx
     go_wp2_with (first
      | fail
      | ((with_reducible refine aG 130 ?_);refine wpList_load_row rfl 130 _ rfl w.heap.size rfl 130 #[.pointer (some ⟨g,k*89,none⟩),.int .i64 (B.hi 2),.int .i64 (B.hi 3),.int .i64 (B.hi 4),.int .i64 (B.hi 5),.func (.func 128) #[] #[.pointer (some ⟨b1,0,none⟩),.pointer (some ⟨b2,0,none⟩)]] (0,0) _ HM2.out Tryz.underlying130 rfl aY ?_)
      | ((with_reducible refine aW 130 ?_);refine aL rfl 130 _ rfl w.heap.size rfl 130 #[.pointer (some ⟨g,k*89,none⟩),.int .i64 (B.hi 2),.int .i64 (B.hi 3),.int .i64 (B.hi 4),.int .i64 (B.hi 5),.func (.func 128) #[] #[.pointer (some ⟨b1,0,none⟩),.pointer (some ⟨b2,0,none⟩)]] (0,0) _ HM2.out Tryz.underlying130 rfl aY ?_))
     go_ret
     exact⟨by simp[gJ,eH],HE2_.out⟩
theorem aB0(w:World)(F:Nat→Prop)(X g k:Nat)(B:Br)(h:BrG w F X g B)(ho:B.ok)(hk:k<B.np)(b1 b2:Nat)(hs:B.gi k 21=0)(hl:B.gb k 28=true):Calls Tryz.prog 59 #[.agg #[.pointer (some ⟨g,k*89,none⟩),.int .i64 (B.hi 2),.int .i64 (B.hi 3),.int .i64 (B.hi 4),.int .i64 (B.hi 5),.func (.func 128) #[] #[.pointer (some ⟨b1,0,none⟩),.pointer (some ⟨b2,0,none⟩)]]] w fun e w'=>e=.returned (gJ 3 (.agg #[.pointer (some ⟨g,k*89,none⟩),.int .i64 (B.hi 2),.int .i64 (B.hi 3),.int .i64 (B.hi 4),.int .i64 (B.hi 5),.func (.func 128) #[] #[.pointer (some ⟨b1,0,none⟩),.pointer (some ⟨b2,0,none⟩)]]))∧Ext w w':=by
 obtain⟨hX,hg,hne⟩:=h.lt
 have p21:=qi h ho hk 21 rfl
 have p28:=qb h ho hk 28
 rw[hs]at p21
 rw[hl]at p28
 have H:=hD h
 clear h
 go_enter Tryz.func59,Tryz.ntmps59
 go_wp2_with fail
 go_ret
 exact⟨by simp[gJ],(Ext.refl w).alloc _⟩
theorem aB1(w:World)(F:Nat→Prop)(X g k:Nat)(B:Br)(h:BrG w F X g B)(ho:B.ok)(hk:k<B.np)(b1 b2:Nat)(hs:B.gi k 21=0)(hl:B.gb k 28=false):Calls Tryz.prog 59 #[.agg #[.pointer (some ⟨g,k*89,none⟩),.int .i64 (B.hi 2),.int .i64 (B.hi 3),.int .i64 (B.hi 4),.int .i64 (B.hi 5),.func (.func 128) #[] #[.pointer (some ⟨b1,0,none⟩),.pointer (some ⟨b2,0,none⟩)]]] w fun e w'=>e=.returned Value.nilFunc∧Ext w w':=by
 obtain⟨hX,hg,hne⟩:=h.lt
 have p21:=qi h ho hk 21 rfl
 have p28:=qb h ho hk 28
 rw[hs]at p21
 rw[hl]at p28
 have H:=hD h
 clear h
 go_enter Tryz.func59,Tryz.ntmps59
 go_wp2_with fail
 go_ret
 exact⟨rfl,(Ext.refl w).alloc _⟩
theorem mR(w:World)(F:Nat→Prop)(X g k:Nat)(B:Br)(h:BrG w F X g B)(ho:B.ok)(hk:k<B.np)(b1 b2:Nat)(hs:B.gi k 21=1):Calls Tryz.prog 59 #[.agg #[.pointer (some ⟨g,k*89,none⟩),.int .i64 (B.hi 2),.int .i64 (B.hi 3),.int .i64 (B.hi 4),.int .i64 (B.hi 5),.func (.func 128) #[] #[.pointer (some ⟨b1,0,none⟩),.pointer (some ⟨b2,0,none⟩)]]] w fun e w'=>e=.returned (gJ (lG B k) (.agg #[.pointer (some ⟨g,k*89,none⟩),.int .i64 (B.hi 2),.int .i64 (B.hi 3),.int .i64 (B.hi 4),.int .i64 (B.hi 5),.func (.func 128) #[] #[.pointer (some ⟨b1,0,none⟩),.pointer (some ⟨b2,0,none⟩)]]))∧Ext w w':=by
 obtain⟨hX,hg,hne⟩:=h.lt
 have p21:=qi h ho hk 21 rfl
 rw[hs]at p21
 have H:=hD h
 clear h
 go_enter Tryz.func59,Tryz.ntmps59
 go_wp2_with fail
 refine(sV _ F X g k B (H.out.alloc _) ho hk b1 b2).mono ?_
 rintro e w1 ⟨rfl,hx⟩
 have HX:=hD (((Ext.refl w).alloc _).trans hx)
 clear hx
 go_wp2_with fail
 go_ret
 exact⟨rfl,HX.out⟩
theorem aEH(w:World)(F:Nat→Prop)(X g k:Nat)(B:Br)(h:BrG w F X g B)(ho:B.ok)(hk:k<B.np)(b1 b2:Nat)(h0:B.gi k 21≠0)(h1:B.gi k 21≠1)(h2:B.gi k 21≠2):Calls Tryz.prog 59 #[.agg #[.pointer (some ⟨g,k*89,none⟩),.int .i64 (B.hi 2),.int .i64 (B.hi 3),.int .i64 (B.hi 4),.int .i64 (B.hi 5),.func (.func 128) #[] #[.pointer (some ⟨b1,0,none⟩),.pointer (some ⟨b2,0,none⟩)]]] w fun e w'=>e=.returned Value.nilFunc∧Ext w w':=by
 obtain⟨hX,hg,hne⟩:=h.lt
 have p21:=qi h ho hk 21 rfl
 have b0:(B.gi k 21 == 0)=false:=by simpa using h0
 have b1_:(B.gi k 21 == 1)=false:=by simpa using h1
 have b2_:(B.gi k 21 == 2)=false:=by simpa using h2
 have H:=hD h
 clear h
 go_enter Tryz.func59,Tryz.ntmps59
 go_wp2_with fail
 go_ret
 exact⟨rfl,(Ext.refl w).alloc _⟩
end Go.Proofs.YtpanapepcbbagaaGreat
