/- Part 22 of what BridgeRests stands on. No statement is proved here. -/
import Derived.Deep.QuietTactic
import Derived.WalkMore
import Derived.ScopeJumps
import Derived.ArgAppend
import Derived.Deep.RegionLawGrows
import Derived.Test.YtpanapepcbbagaaGreatBvn
set_option linter.unusedVariables false
set_option linter.unusedSimpArgs false
set_option maxRecDepth 100000
set_option maxHeartbeats 8000000
namespace Go.Proofs.YtpanapepcbbagaaGreat
open Go.RowKit Go.BigFrame Go.WideShapes Go.ChangeShapes Go.Deep
theorem eE{w:World}{b o:Nat}{v:Value}{l:List Value}(h0:w.cell? ⟨b,o,none⟩=some v)(h:w.rangeAt b (o+1) l):w.rangeAt b o (v :: l):=fun j u hu=>by
 cases j with
 | zero =>
  obtain rfl:v=u:=by simpa using hu
  exact h0
 | succ j =>
  rw[show o+(j+1)=o+1+j by omega]
  exact h j u (by simpa using hu)
theorem rG{w:World}{b o:Nat}:w.rangeAt b o []:=fun j u hu=>by simp at hu
def i8(kd:Int)(ch ak pr ag ln fw:Bool)(ro:Int)(a:Int)(b:Int)(c:Int)(d:Int)(e:Int)(f g h i:Int):Array Value :=
 #[.int .i64 kd,.bool ch,.bool ak,.bool pr,.bool ag,.bool ln,.bool fw,.int .i64 ro,.int .u64 a,.int .u32 b,.int .u64 c,.int .u16 d,.int .u16 e,.int .i64 f,.int .i64 g,.int .i64 h,.int .i64 i]
def aZ(B:Br)(k:Nat)(kind:Int):Array Value :=
 if kind=0 then i8 0 (B.gi k 13 != 0) (B.gb k 48) false false false false 4 (B.gi k 73) (B.gi k 74) (B.gi k 75) (B.gi k 76) 0 (B.gi k 82) (B.gi k 83) (B.gi k 84) (B.gi k 85)
 else if kind=1 then i8 1 false false false false false false 0 0 0 0 0 0 0 0 0 0
 else if kind=2 then i8 2 (B.gi k 13 != 0) false (B.gb k 34) (B.gb k 22) (B.gb k 29) (B.gb k 27) (B.gi k 87) (B.gi k 73) (B.gi k 74) (B.gi k 75) (B.gi k 76) 0 (B.gi k 82) (B.gi k 83) (B.gi k 84) (B.gi k 85)
 else MZ
theorem aJK(kd:Int)(ch:Bool)(a b c d e f g h i:Int):Tryz.prog.built 46 [(0,.int .i64 kd),(1,.bool ch),(8,.agg [Value.int .u64 a,.int .u32 b,.int .u64 c,.int .u16 d,.int .u16 e].toArray),(9,.agg [Value.int .i64 f,.int .i64 g,.int .i64 h,.int .i64 i].toArray)]=some (i8 kd ch false false false false false 0 a b c d e f g h i):=by kernel_rfl
theorem aJL:Tryz.prog.built 46 [(0,.int .i64 1)]=some (i8 1 false false false false false false 0 0 0 0 0 0 0 0 0 0):=by kernel_rfl
theorem aJM:Tryz.prog.built 46 []=some MZ:=by kernel_rfl
theorem oN(kd:Int)(ch ak pr ag ln fw:Bool)(ro a b c d e f g h i:Int):(i8 kd ch ak pr ag ln fw ro a b c d e f g h i).all (·.oneCell')=true:=by rw[←Array.all_toList];rfl
theorem aJN:MZ.all (·.oneCell')=true:=by rw[←Array.all_toList];rfl
theorem jA(B:Br)(k:Nat)(kind:Int):(aZ B k kind).size=17:=by
 unfold aZ
 split
 ·rfl
 split
 ·rfl
 split<;>rfl
theorem rH(B:Br)(k:Nat)(kind:Int):(aZ B k kind).all (·.oneCell')=true:=by
 unfold aZ
 split
 ·exact oN ..
 split
 ·exact oN ..
 split
 ·exact oN ..
 ·exact aJN
theorem aEJ:(Tryz.prog.info? 30).map (·.size)=some 5:=by kernel_rfl
theorem xR(c:Array Value)(B:Br)(w:World)(hb:BrC w c B)(ho:B.ok)(k:Nat)(hk:k<B.np)(kind:Int):Calls Tryz.prog 133 #[.agg c,.int .i64 k,.int .i64 kind] w fun e w'=>e=.returned (.agg (aZ B k kind))∧Ext w w':=by
 obtain⟨s1,s2,s3,hz,hhd,c17,c18,c19,r1,-,-⟩:=hb.facts ho.hd.1
 obtain⟨a1,k1,rfl,m1,hrow⟩:=r1.form
 obtain⟨bb,off,rfl,hbl,hlc,hcm,hc⟩:=hrow (by omega)
 have HC:=hD hc
 have HBL:=hD hbl
 clear hz hhd hb r1 hrow c18 c19 hc hbl
 have hzm:=mG
 go_enter Tryz.func133,Tryz.ntmps133
 go_wp2_with fail
 have hx0:Ext w ((w.alloc (.cells c 35)).alloc (.cells MZ 46)):=((Ext.refl w).alloc _).alloc _
 have hr6:((w.alloc (.cells c 35)).alloc (.cells MZ 46)).heap[w.heap.size+1]?=some (.cells MZ 46 (0,0)):=heap_alloc2_new _ _ _
 have hwl:w.heap.size+1<((w.alloc (.cells c 35)).alloc (.cells MZ 46)).heap.size:=aC hr6
 generalize ((w.alloc (.cells c 35)).alloc (.cells MZ 46))=W0 at *
 obtain⟨t6,h6⟩:∃n,w.heap.size+1=n:=⟨_,rfl⟩
 rw[h6]at hr6 hwl ⊢
 have hw6:w.heap.size≤t6:=by omega
 clear h6
 have hL:=aQ HC.out hx0 HBL.out
 have HBW:=hD (nL HBL.out hx0.size)
 have pr:=cO hL k
 have q13:W0.cell? ⟨bb,off+k*89+13,none⟩=some _:=pr 13 _ ((aI (B:=B) (k:=k) (j:=13) (by decide)).trans (ho.gi hk 13 rfl))
 have q48:W0.cell? ⟨bb,off+k*89+48,none⟩=some _:=pr 48 _ ((aI (B:=B) (k:=k) (j:=48) (by decide)).trans (ho.gb hk 48 rfl))
 have q34:W0.cell? ⟨bb,off+k*89+34,none⟩=some _:=pr 34 _ ((aI (B:=B) (k:=k) (j:=34) (by decide)).trans (ho.gb hk 34 rfl))
 have q22:W0.cell? ⟨bb,off+k*89+22,none⟩=some _:=pr 22 _ ((aI (B:=B) (k:=k) (j:=22) (by decide)).trans (ho.gb hk 22 rfl))
 have q29:W0.cell? ⟨bb,off+k*89+29,none⟩=some _:=pr 29 _ ((aI (B:=B) (k:=k) (j:=29) (by decide)).trans (ho.gb hk 29 rfl))
 have q27:W0.cell? ⟨bb,off+k*89+27,none⟩=some _:=pr 27 _ ((aI (B:=B) (k:=k) (j:=27) (by decide)).trans (ho.gb hk 27 rfl))
 have q87:W0.cell? ⟨bb,off+k*89+87,none⟩=some _:=pr 87 _ ((aI (B:=B) (k:=k) (j:=87) (by decide)).trans (ho.gi hk 87 rfl))
 have q73:W0.cell? ⟨bb,off+k*89+73,none⟩=some _:=pr 73 _ ((aI (B:=B) (k:=k) (j:=73) (by decide)).trans (ho.gi hk 73 rfl))
 have q74:W0.cell? ⟨bb,off+k*89+74,none⟩=some _:=pr 74 _ ((aI (B:=B) (k:=k) (j:=74) (by decide)).trans (ho.gi hk 74 rfl))
 have q75:W0.cell? ⟨bb,off+k*89+75,none⟩=some _:=pr 75 _ ((aI (B:=B) (k:=k) (j:=75) (by decide)).trans (ho.gi hk 75 rfl))
 have q76:W0.cell? ⟨bb,off+k*89+76,none⟩=some _:=pr 76 _ ((aI (B:=B) (k:=k) (j:=76) (by decide)).trans (ho.gi hk 76 rfl))
 have q77:W0.cell? ⟨bb,off+k*89+77,none⟩=some _:=pr 77 _ ((aI (B:=B) (k:=k) (j:=77) (by decide)).trans (ho.gi hk 77 rfl))
 have q82:W0.cell? ⟨bb,off+k*89+82,none⟩=some _:=pr 82 _ ((aI (B:=B) (k:=k) (j:=82) (by decide)).trans (ho.gi hk 82 rfl))
 have q83:W0.cell? ⟨bb,off+k*89+83,none⟩=some _:=pr 83 _ ((aI (B:=B) (k:=k) (j:=83) (by decide)).trans (ho.gi hk 83 rfl))
 have q84:W0.cell? ⟨bb,off+k*89+84,none⟩=some _:=pr 84 _ ((aI (B:=B) (k:=k) (j:=84) (by decide)).trans (ho.gi hk 84 rfl))
 have q85:W0.cell? ⟨bb,off+k*89+85,none⟩=some _:=pr 85 _ ((aI (B:=B) (k:=k) (j:=85) (by decide)).trans (ho.gi hk 85 rfl))
 have RV:=hD (show W0.rangeAt bb (off+k*89+73) [Value.int .u64 (B.gi k 73),.int .u32 (B.gi k 74),.int .u64 (B.gi k 75),.int .u16 (B.gi k 76),.int .u16 (B.gi k 77)]from eE q73 (eE q74 (eE q75 (eE q76 (eE q77 rG)))))
 have RT:=hD (show W0.rangeAt bb (off+k*89+82) [Value.int .i64 (B.gi k 82),.int .i64 (B.gi k 83),.int .i64 (B.gi k 84),.int .i64 (B.gi k 85)]from eE q82 (eE q83 (eE q84 (eE q85 rG))))
 clear pr hL c17 q73 q74 q75 q76 q77 q82 q83 q84 q85
 refine aT (S:=fun W'=>Ext W0 W') (by kernel_rfl) ?_
 intro wd hqx
 have hq0:Ext W0 wd:=hqx
 refine bO 0 ((.int .i64 kind)) rfl hq0 ?_
 refine aH 1 bb (off+k*89) rfl hq0 ?_
 refine aH 2 bb (off+k*89) rfl hq0 ?_
 refine aH 3 bb (off+k*89+6) rfl hq0 ?_
 refine aH 4 bb (off+k*89+13) rfl hq0 ?_
 refine tL 5 (_) rfl (aA rfl 3 _ rfl ⟨bb,off+k*89+13,none⟩ rfl (.int .i64 (B.gi k 13)) _ (fun W' hW'=>(hW'.cell (p:=⟨bb,off+k*89+13,none⟩) HBW.out).trans q13) Tryz.underlying3 rfl) hq0 ?_
 refine tL 6 ((.bool (B.gi k 13 != 0))) rfl (Or.inl ⟨rfl,fun W' _=>by go_simp⟩) hq0 ?_
 refine aH 7 bb (off+k*89) rfl hq0 ?_
 refine aH 8 bb (off+k*89) rfl hq0 ?_
 refine aH 9 bb (off+k*89+73) rfl hq0 ?_
 refine tL 10 (_) rfl (yieldsIf_load_mid rfl 30 _ rfl bb (off+k*89+73) rfl ([Value.int .u64 (B.gi k 73),.int .u32 (B.gi k 74),.int .u64 (B.gi k 75),.int .u16 (B.gi k 76),.int .u16 (B.gi k 77)]) _ (fun W' hW'=>aQ RV.out hW' HBW.out) Tryz.underlying30 rfl aEJ) hq0 ?_
 refine aH 11 bb (off+k*89) rfl hq0 ?_
 refine aH 12 bb (off+k*89) rfl hq0 ?_
 refine aH 13 bb (off+k*89+82) rfl hq0 ?_
 refine tL 14 (_) rfl (yieldsIf_load_mid rfl 24 _ rfl bb (off+k*89+82) rfl ([Value.int .i64 (B.gi k 82),.int .i64 (B.gi k 83),.int .i64 (B.gi k 84),.int .i64 (B.gi k 85)]) _ (fun W' hW'=>aQ RT.out hW' HBW.out) Tryz.underlying24 rfl j8) hq0 ?_
 refine tL 15 ((.agg (i8 kind (B.gi k 13 != 0) false false false false false 0 (B.gi k 73) (B.gi k 74) (B.gi k 75) (B.gi k 76) (B.gi k 77) (B.gi k 82) (B.gi k 83) (B.gi k 84) (B.gi k 85)))) rfl (bL rfl 46 _ rfl [(0,.int .i64 kind),(1,.bool (B.gi k 13 != 0)),(8,.agg [Value.int .u64 (B.gi k 73),.int .u32 (B.gi k 74),.int .u64 (B.gi k 75),.int .u16 (B.gi k 76),.int .u16 (B.gi k 77)].toArray),(9,.agg [Value.int .i64 (B.gi k 82),.int .i64 (B.gi k 83),.int .i64 (B.gi k 84),.int .i64 (B.gi k 85)].toArray)] rfl (i8 kind (B.gi k 13 != 0) false false false false false 0 (B.gi k 73) (B.gi k 74) (B.gi k 75) (B.gi k 76) (B.gi k 77) (B.gi k 82) (B.gi k 83) (B.gi k 84) (B.gi k 85)) (aJK _ _ _ _ _ _ _ _ _ _ _)) hq0 ?_
 refine bB (i:=16) rfl rfl (by kernel_rfl) (fun K hK=>?_)
 refine gU 46 rfl MZ (mG _) ?_
 have hq1:=hq0.alloc (.cells MZ 46)
 refine hK.out _ _ hq1 (fun hHeld=>?_)
 try simp only[ps]
 clear hK K hHeld
 refine bB (i:=17) rfl rfl (by kernel_rfl) (fun K hK=>?_)
 refine l5 46 _ _ rfl wd.heap.size 46 MZ (i8 kind (B.gi k 13 != 0) false false false false false 0 (B.gi k 73) (B.gi k 74) (B.gi k 75) (B.gi k 76) (B.gi k 77) (B.gi k 82) (B.gi k 83) (B.gi k 84) (B.gi k 85)) rfl rfl (heap_alloc_new _ _) fI rfl (oN _ _ _ _ _ _ _ _ _ _ _ _ _ _ _ _ _) ?_
 rw[World.setRow_alloc_new]
 have hq2:=hq0.alloc (.cells (i8 kind (B.gi k 13 != 0) false false false false false 0 (B.gi k 73) (B.gi k 74) (B.gi k 75) (B.gi k 76) (B.gi k 77) (B.gi k 82) (B.gi k 83) (B.gi k 84) (B.gi k 85)) 46)
 refine hK.out _ _ hq2 (fun hHeld=>?_)
 try simp only[ps]
 clear hK K hHeld
 refine wpAnyH_done (by kernel_rfl) ?_ _
 have hr8:(wd.alloc (.cells (i8 kind (B.gi k 13 != 0) false false false false false 0 (B.gi k 73) (B.gi k 74) (B.gi k 75) (B.gi k 76) (B.gi k 77) (B.gi k 82) (B.gi k 83) (B.gi k 84) (B.gi k 85)) 46)).heap[wd.heap.size]?=some (.cells (i8 kind (B.gi k 13 != 0) false false false false false 0 (B.gi k 73) (B.gi k 74) (B.gi k 75) (B.gi k 76) (B.gi k 77) (B.gi k 82) (B.gi k 83) (B.gi k 84) (B.gi k 85)) 46 (0,0)):=heap_alloc_new _ _
 have hE8:Ext W0 (wd.alloc (.cells (i8 kind (B.gi k 13 != 0) false false false false false 0 (B.gi k 73) (B.gi k 74) (B.gi k 75) (B.gi k 76) (B.gi k 77) (B.gi k 82) (B.gi k 83) (B.gi k 84) (B.gi k 85)) 46)):=hq0.alloc _
 have hl8:W0.heap.size≤wd.heap.size:=hq0.size
 clear hqx hq0 hq1 hq2
 generalize wd.alloc (.cells (i8 kind (B.gi k 13 != 0) false false false false false 0 (B.gi k 73) (B.gi k 74) (B.gi k 75) (B.gi k 76) (B.gi k 77) (B.gi k 82) (B.gi k 83) (B.gi k 84) (B.gi k 85)) 46)=u1 at *
 obtain⟨h8,hh8⟩:∃n,wd.heap.size=n:=⟨_,rfl⟩
 rw[hh8]at hr8 hl8 ⊢
 clear hh8 wd
 have hr6:=(hE8.block _ hwl).trans hr6
 have HR6:=hD hr6
 have HR8:=hD hr8
 have hf8:∀j,u1.frozen? ⟨h8,j,none⟩=false:=fun j=>frozen_of_row _ _ _ _ _ hr8
 have c8:∀j,u1.cell? ⟨h8,j,none⟩=(i8 kind (B.gi k 13 != 0) false false false false false 0 (B.gi k 73) (B.gi k 74) (B.gi k 75) (B.gi k 76) (B.gi k 77) (B.gi k 82) (B.gi k 83) (B.gi k 84) (B.gi k 85))[j]?:=fun j=>cell_of_row _ _ _ _ _ _ hr8
 have hne:h8≠t6:=by omega
 have HEX:=hD (hx0.trans hE8)
 have p13:=(hE8.cell (p:=⟨bb,off+k*89+13,none⟩) HBW.out).trans q13
 have p48:=(hE8.cell (p:=⟨bb,off+k*89+48,none⟩) HBW.out).trans q48
 have p34:=(hE8.cell (p:=⟨bb,off+k*89+34,none⟩) HBW.out).trans q34
 have p22:=(hE8.cell (p:=⟨bb,off+k*89+22,none⟩) HBW.out).trans q22
 have p29:=(hE8.cell (p:=⟨bb,off+k*89+29,none⟩) HBW.out).trans q29
 have p27:=(hE8.cell (p:=⟨bb,off+k*89+27,none⟩) HBW.out).trans q27
 have p87:=(hE8.cell (p:=⟨bb,off+k*89+87,none⟩) HBW.out).trans q87
 clear q13 q48 q34 q22 q29 q27 q87
 have HBU:=hD (nL HBW.out hE8.size)
 have hwh:w.heap.size≤h8:=by omega
 clear hr6 hr8 hx0 hE8 hwl hl8
 have d12:u1.cell? ⟨h8,12,none⟩=some (.int .u16 (B.gi k 77)):=c8 12
 have d2:u1.cell? ⟨h8,2,none⟩=some (.bool false):=c8 2
 have d7:u1.cell? ⟨h8,7,none⟩=some (.int .i64 0):=c8 7
 have d3:u1.cell? ⟨h8,3,none⟩=some (.bool false):=c8 3
 have d4:u1.cell? ⟨h8,4,none⟩=some (.bool false):=c8 4
 have d5:u1.cell? ⟨h8,5,none⟩=some (.bool false):=c8 5
 have d6:u1.cell? ⟨h8,6,none⟩=some (.bool false):=c8 6
 clear c8
 have hbne:bb≠h8:=by have:=HBW.out;have:=HBL.out;omega
 have HIm:=hD (show(Tryz.prog.info? 46).map (·.size)=some (aZ B k kind).size by rw[jA];exact fI)
 have HSm:=hD (show MZ.size=(aZ B k kind).size by rw[jA];rfl)
 have HOm:=hD (rH B k kind)
 by_cases k0:kind=0
 ·have e0:(kind == 0)=true:=by simpa using k0
  have eC:(((i8 kind (B.gi k 13 != 0) false false false false false 0 (B.gi k 73) (B.gi k 74) (B.gi k 75) (B.gi k 76) (B.gi k 77) (B.gi k 82) (B.gi k 83) (B.gi k 84) (B.gi k 85)).setIfInBounds 12 (Value.int .u16 0)).setIfInBounds 2 (Value.bool (B.gb k 48))).setIfInBounds 7 (Value.int .i64 4)=aZ B k kind:=by subst k0;rfl
  have H8:=hD (show(((u1.setCell ⟨h8,12,none⟩ (.int .u16 0)).setCell ⟨h8,2,none⟩ (.bool (B.gb k 48))).setCell ⟨h8,7,none⟩ (.int .i64 4)).heap[h8]?=some (.cells (aZ B k kind) 46 (0,0))from(by rw[←eC];exact heap_setCell_same _ _ _ _ _ _ (heap_setCell_same _ _ _ _ _ _ (heap_setCell_same _ _ _ _ _ _ HR8.out))))
  have H6:=hD (show(((u1.setCell ⟨h8,12,none⟩ (.int .u16 0)).setCell ⟨h8,2,none⟩ (.bool (B.gb k 48))).setCell ⟨h8,7,none⟩ (.int .i64 4)).heap[t6]?=some (.cells MZ 46 (0,0))from(heap_setCell_other _ _ _ _ (Ne.symm hne)).trans ((heap_setCell_other _ _ _ _ (Ne.symm hne)).trans ((heap_setCell_other _ _ _ _ (Ne.symm hne)).trans HR6.out)))
  have HE:=hD (show Ext w ((((u1.setCell ⟨h8,12,none⟩ (.int .u16 0)).setCell ⟨h8,2,none⟩ (.bool (B.gb k 48))).setCell ⟨h8,7,none⟩ (.int .i64 4)).setRow t6 (aZ B k kind))from eQ (Below.setCell (Below.setCell (Below.setCell HEX.out hwh _) hwh _) hwh _) hw6 _)
  have HY:=hD (setRow_heap _ _ _ (aZ B k kind) _ _ H6.out)
  clear eC
  go_wp2_with (first
   | fail
   | ((with_reducible refine aG 46 ?_);refine wpList_load_row rfl 46 _ rfl h8 rfl 46 (aZ B k kind) (0,0) _ H8.out Tryz.underlying46 rfl HIm.out ?_)
   | ((with_reducible refine aD 46 ?_);refine wpList_store_row rfl 46 _ _ rfl t6 (aZ B k kind) rfl rfl 46 MZ H6.out HIm.out HSm.out HOm.out ?_))
  refine bodyPost_ret (results_cell_row rfl _ _ _ _ (aZ B k kind) (0,0) _ rfl HY.out Tryz.underlying46 rfl HIm.out) rfl ?_
  exact⟨rfl,HE.out⟩
 by_cases k1:kind=1
 ·have n0:(kind == 0)=false:=by simpa using k0
  have e1:(kind == 1)=true:=by simpa using k1
  have HB1:=hD (show Tryz.prog.built 46 [(0,.int .i64 1)]=some (aZ B k kind) by rw[k1];exact aJL)
  have H8:=hD (show((u1.setCell ⟨h8,12,none⟩ (.int .u16 0)).setRow h8 (aZ B k kind)).heap[h8]?=some (.cells (aZ B k kind) 46 (0,0))from setRow_heap _ _ _ _ _ _ (heap_setCell_same _ _ _ _ _ _ HR8.out))
  have H6:=hD (show((u1.setCell ⟨h8,12,none⟩ (.int .u16 0)).setRow h8 (aZ B k kind)).heap[t6]?=some (.cells MZ 46 (0,0))from(setRow_other _ _ _ _ (Ne.symm hne)).trans ((heap_setCell_other _ _ _ _ (Ne.symm hne)).trans HR6.out))
  have HE:=hD (show Ext w (((u1.setCell ⟨h8,12,none⟩ (.int .u16 0)).setRow h8 (aZ B k kind)).setRow t6 (aZ B k kind))from eQ (eQ (Below.setCell HEX.out hwh _) hwh _) hw6 _)
  have HY:=hD (setRow_heap _ _ _ (aZ B k kind) _ _ H6.out)
  have HZ8:=hD (show(u1.setCell ⟨h8,12,none⟩ (.int .u16 0)).heap[h8]?=some (.cells _ 46 (0,0))from heap_setCell_same _ _ _ _ _ _ HR8.out)
  go_wp2_with (first
   | fail
   | ((with_reducible refine cJ 46 ?_);refine bG rfl 46 _ rfl [(0,.int .i64 1)] rfl (aZ B k kind) HB1.out ?_)
   | ((with_reducible refine aG 46 ?_);refine wpList_load_row rfl 46 _ rfl h8 rfl 46 (aZ B k kind) (0,0) _ H8.out Tryz.underlying46 rfl HIm.out ?_)
   | ((with_reducible refine aD 46 ?_);refine wpList_store_row rfl 46 _ _ rfl h8 (aZ B k kind) rfl rfl 46 _ HZ8.out HIm.out (by rw[jA];rfl) HOm.out ?_)
   | ((with_reducible refine aD 46 ?_);refine wpList_store_row rfl 46 _ _ rfl t6 (aZ B k kind) rfl rfl 46 MZ H6.out HIm.out HSm.out HOm.out ?_))
  refine bodyPost_ret (results_cell_row rfl _ _ _ _ (aZ B k kind) (0,0) _ rfl HY.out Tryz.underlying46 rfl HIm.out) rfl ?_
  exact⟨rfl,HE.out⟩
 by_cases k2:kind=2
 ·have n0:(kind == 0)=false:=by simpa using k0
  have n1:(kind == 1)=false:=by simpa using k1
  have e2:(kind == 2)=true:=by simpa using k2
  go_wp2_with fail
  have hr8:(u1.setCell ⟨h8,12,none⟩ (.int .u16 0)).heap[h8]?=some (.cells _ 46 (0,0)):=heap_setCell_same _ _ _ _ _ _ HR8.out
  have hr6:(u1.setCell ⟨h8,12,none⟩ (.int .u16 0)).heap[t6]?=some (.cells MZ 46 (0,0)):=(heap_setCell_other _ _ _ _ (Ne.symm hne)).trans HR6.out
  have hEX:Ext w (u1.setCell ⟨h8,12,none⟩ (.int .u16 0)):=Below.setCell HEX.out hwh _
  have r34:(u1.setCell ⟨h8,12,none⟩ (.int .u16 0)).cell? ⟨bb,off+k*89+34,none⟩=some _:=(World.cell?_setCell_far _ _ _ _ (Ne.symm hbne)).trans p34
  have r22:(u1.setCell ⟨h8,12,none⟩ (.int .u16 0)).cell? ⟨bb,off+k*89+22,none⟩=some _:=(World.cell?_setCell_far _ _ _ _ (Ne.symm hbne)).trans p22
  have r29:(u1.setCell ⟨h8,12,none⟩ (.int .u16 0)).cell? ⟨bb,off+k*89+29,none⟩=some _:=(World.cell?_setCell_far _ _ _ _ (Ne.symm hbne)).trans p29
  have r27:(u1.setCell ⟨h8,12,none⟩ (.int .u16 0)).cell? ⟨bb,off+k*89+27,none⟩=some _:=(World.cell?_setCell_far _ _ _ _ (Ne.symm hbne)).trans p27
  have r87:(u1.setCell ⟨h8,12,none⟩ (.int .u16 0)).cell? ⟨bb,off+k*89+87,none⟩=some _:=(World.cell?_setCell_far _ _ _ _ (Ne.symm hbne)).trans p87
  clear hf8 d12 d2 d7 d3 d4 d5 d6 HR8 HR6 HEX HBU p13 p48 p34 p22 p29 p27 p87
  generalize (u1.setCell ⟨h8,12,none⟩ (.int .u16 0))=u2 at *
  obtain⟨R2,hR2⟩:∃R,(i8 kind (B.gi k 13 != 0) false false false false false 0 (B.gi k 73) (B.gi k 74) (B.gi k 75) (B.gi k 76) (B.gi k 77) (B.gi k 82) (B.gi k 83) (B.gi k 84) (B.gi k 85)).setIfInBounds 12 (Value.int .u16 0)=R:=⟨_,rfl⟩
  rw[hR2]at hr8
  have hbu:bb<u2.heap.size:=nL HBL.out hEX.size
  have h8u:h8<u2.heap.size:=aC hr8
  have h6u:t6<u2.heap.size:=aC hr6
  have Q34:=hD r34
  have Q22:=hD r22
  clear r34 r22
  refine aT (S:=fun W'=>Mut (fun n=>n=h8) u2 W') (by kernel_rfl) ?_
  intro wd hqx
  have hq0:Mut (fun n=>n=h8) u2 wd:=hqx.mut _
  have hrd:=(hqx.block _ h8u).trans hr8
  have hfd:∀j,wd.frozen? ⟨h8,j,none⟩=false:=fun j=>frozen_of_row _ _ _ _ _ hrd
  have e3:wd.cell? ⟨h8,3,none⟩=some (.bool false):=(cell_of_row _ _ _ _ _ _ hrd).trans (by subst k2;rw[←hR2];rfl)
  have e4:wd.cell? ⟨h8,4,none⟩=some (.bool false):=(cell_of_row _ _ _ _ _ _ hrd).trans (by subst k2;rw[←hR2];rfl)
  clear hrd
  refine aH 0 bb (off+k*89) rfl hq0 ?_
  refine aH 1 bb (off+k*89) rfl hq0 ?_
  refine aH 2 bb (off+k*89+22) rfl hq0 ?_
  refine aH 3 bb (off+k*89+34) rfl hq0 ?_
  refine tL 4 (_) rfl (aA rfl 4 _ rfl ⟨bb,off+k*89+34,none⟩ rfl (.bool (B.gb k 34)) _ (fun W' hW'=>(hW'.cell (p:=⟨bb,off+k*89+34,none⟩) hbu hbne).trans Q34.out) Tryz.underlying4 rfl) hq0 ?_
  refine aH 5 bb (off+k*89) rfl hq0 ?_
  refine aH 6 bb (off+k*89) rfl hq0 ?_
  refine aH 7 bb (off+k*89+22) rfl hq0 ?_
  refine aH 8 bb (off+k*89+22) rfl hq0 ?_
  refine tL 9 (_) rfl (aA rfl 4 _ rfl ⟨bb,off+k*89+22,none⟩ rfl (.bool (B.gb k 22)) _ (fun W' hW'=>(hW'.cell (p:=⟨bb,off+k*89+22,none⟩) hbu hbne).trans Q22.out) Tryz.underlying4 rfl) hq0 ?_
  refine aH 10 h8 3 rfl hq0 ?_
  refine bB (i:=11) rfl rfl (by kernel_rfl) (fun K hK=>?_)
  go_simp
  have hq1:=hq0.setCell (p:=⟨h8,3,none⟩) (.inl rfl) (.bool (B.gb k 34))
  refine hK.out _ _ hq1 (fun hHeld=>?_)
  try simp only[ps]
  clear hK K hHeld
  refine aH 12 h8 4 rfl hq1 ?_
  refine bB (i:=13) rfl rfl (by kernel_rfl) (fun K hK=>?_)
  go_simp
  have hq2:=hq1.setCell (p:=⟨h8,4,none⟩) (.inl rfl) (.bool (B.gb k 22))
  refine hK.out _ _ hq2 (fun hHeld=>?_)
  try simp only[ps]
  clear hK K hHeld
  refine wpAnyH_done (by kernel_rfl) ?_ _
  have hr8n:((wd.setCell ⟨h8,3,none⟩ (.bool (B.gb k 34))).setCell ⟨h8,4,none⟩ (.bool (B.gb k 22))).heap[h8]?=some (.cells ((R2.setIfInBounds 3 (Value.bool (B.gb k 34))).setIfInBounds 4 (Value.bool (B.gb k 22))) 46 (0,0)):=heap_setCell_same _ _ _ _ _ _ (heap_setCell_same _ _ _ _ _ _ ((hqx.block _ h8u).trans hr8))
  have hr6n:((wd.setCell ⟨h8,3,none⟩ (.bool (B.gb k 34))).setCell ⟨h8,4,none⟩ (.bool (B.gb k 22))).heap[t6]?=some (.cells MZ 46 (0,0)):=(heap_setCell_other _ _ _ _ (Ne.symm hne)).trans ((heap_setCell_other _ _ _ _ (Ne.symm hne)).trans ((hqx.block _ h6u).trans hr6))
  have hEXn:Ext w ((wd.setCell ⟨h8,3,none⟩ (.bool (B.gb k 34))).setCell ⟨h8,4,none⟩ (.bool (B.gb k 22))):=Below.setCell (Below.setCell (hEX.trans hqx) hwh _) hwh _
  have rn29:((wd.setCell ⟨h8,3,none⟩ (.bool (B.gb k 34))).setCell ⟨h8,4,none⟩ (.bool (B.gb k 22))).cell? ⟨bb,off+k*89+29,none⟩=some _:=(World.cell?_setCell_far _ _ _ _ (Ne.symm hbne)).trans ((World.cell?_setCell_far _ _ _ _ (Ne.symm hbne)).trans ((hqx.cell (p:=⟨bb,off+k*89+29,none⟩) hbu).trans r29))
  have rn27:((wd.setCell ⟨h8,3,none⟩ (.bool (B.gb k 34))).setCell ⟨h8,4,none⟩ (.bool (B.gb k 22))).cell? ⟨bb,off+k*89+27,none⟩=some _:=(World.cell?_setCell_far _ _ _ _ (Ne.symm hbne)).trans ((World.cell?_setCell_far _ _ _ _ (Ne.symm hbne)).trans ((hqx.cell (p:=⟨bb,off+k*89+27,none⟩) hbu).trans r27))
  have rn87:((wd.setCell ⟨h8,3,none⟩ (.bool (B.gb k 34))).setCell ⟨h8,4,none⟩ (.bool (B.gb k 22))).cell? ⟨bb,off+k*89+87,none⟩=some _:=(World.cell?_setCell_far _ _ _ _ (Ne.symm hbne)).trans ((World.cell?_setCell_far _ _ _ _ (Ne.symm hbne)).trans ((hqx.cell (p:=⟨bb,off+k*89+87,none⟩) hbu).trans r87))
  clear hr8 hr6 hEX hqx hq0 hq1 hq2 hbu h8u h6u hfd e3 e4 Q34 Q22 r29 r27 r87
  generalize ((wd.setCell ⟨h8,3,none⟩ (.bool (B.gb k 34))).setCell ⟨h8,4,none⟩ (.bool (B.gb k 22)))=u3 at *
  clear wd
  have hr8:=hr8n
  have hr6:=hr6n
  have hEX:=hEXn
  have r29:=rn29
  have r27:=rn27
  have r87:=rn87
  clear hr8n hr6n hEXn rn29 rn27 rn87
  obtain⟨R3,hR3⟩:∃R,((R2.setIfInBounds 3 (Value.bool (B.gb k 34))).setIfInBounds 4 (Value.bool (B.gb k 22)))=R:=⟨_,rfl⟩
  rw[hR3]at hr8
  go_wp2_with fail
  have hbu:bb<u3.heap.size:=nL HBL.out hEX.size
  have h8u:h8<u3.heap.size:=aC hr8
  have h6u:t6<u3.heap.size:=aC hr6
  have Q29:=hD r29
  have Q27:=hD r27
  clear r29 r27
  refine aT (S:=fun W'=>Mut (fun n=>n=h8) u3 W') (by kernel_rfl) ?_
  intro wd hqx
  have hq0:Mut (fun n=>n=h8) u3 wd:=hqx.mut _
  have hrd:=(hqx.block _ h8u).trans hr8
  have hfd:∀j,wd.frozen? ⟨h8,j,none⟩=false:=fun j=>frozen_of_row _ _ _ _ _ hrd
  have e5:wd.cell? ⟨h8,5,none⟩=some (.bool false):=(cell_of_row _ _ _ _ _ _ hrd).trans (by subst k2;rw[←hR3,←hR2];rfl)
  have e6:wd.cell? ⟨h8,6,none⟩=some (.bool false):=(cell_of_row _ _ _ _ _ _ hrd).trans (by subst k2;rw[←hR3,←hR2];rfl)
  clear hrd
  refine aH 0 bb (off+k*89) rfl hq0 ?_
  refine aH 1 bb (off+k*89) rfl hq0 ?_
  refine aH 2 bb (off+k*89+22) rfl hq0 ?_
  refine aH 3 bb (off+k*89+29) rfl hq0 ?_
  refine tL 4 (_) rfl (aA rfl 4 _ rfl ⟨bb,off+k*89+29,none⟩ rfl (.bool (B.gb k 29)) _ (fun W' hW'=>(hW'.cell (p:=⟨bb,off+k*89+29,none⟩) hbu hbne).trans Q29.out) Tryz.underlying4 rfl) hq0 ?_
  refine aH 5 bb (off+k*89) rfl hq0 ?_
  refine aH 6 bb (off+k*89) rfl hq0 ?_
  refine aH 7 bb (off+k*89+22) rfl hq0 ?_
  refine aH 8 bb (off+k*89+27) rfl hq0 ?_
  refine tL 9 (_) rfl (aA rfl 4 _ rfl ⟨bb,off+k*89+27,none⟩ rfl (.bool (B.gb k 27)) _ (fun W' hW'=>(hW'.cell (p:=⟨bb,off+k*89+27,none⟩) hbu hbne).trans Q27.out) Tryz.underlying4 rfl) hq0 ?_
  refine aH 10 h8 5 rfl hq0 ?_
  refine bB (i:=11) rfl rfl (by kernel_rfl) (fun K hK=>?_)
  go_simp
  have hq1:=hq0.setCell (p:=⟨h8,5,none⟩) (.inl rfl) (.bool (B.gb k 29))
  refine hK.out _ _ hq1 (fun hHeld=>?_)
  try simp only[ps]
  clear hK K hHeld
  refine aH 12 h8 6 rfl hq1 ?_
  refine bB (i:=13) rfl rfl (by kernel_rfl) (fun K hK=>?_)
  go_simp
  have hq2:=hq1.setCell (p:=⟨h8,6,none⟩) (.inl rfl) (.bool (B.gb k 27))
  refine hK.out _ _ hq2 (fun hHeld=>?_)
  try simp only[ps]
  clear hK K hHeld
  refine wpAnyH_done (by kernel_rfl) ?_ _
  have hr8n:((wd.setCell ⟨h8,5,none⟩ (.bool (B.gb k 29))).setCell ⟨h8,6,none⟩ (.bool (B.gb k 27))).heap[h8]?=some (.cells ((R3.setIfInBounds 5 (Value.bool (B.gb k 29))).setIfInBounds 6 (Value.bool (B.gb k 27))) 46 (0,0)):=heap_setCell_same _ _ _ _ _ _ (heap_setCell_same _ _ _ _ _ _ ((hqx.block _ h8u).trans hr8))
  have hr6n:((wd.setCell ⟨h8,5,none⟩ (.bool (B.gb k 29))).setCell ⟨h8,6,none⟩ (.bool (B.gb k 27))).heap[t6]?=some (.cells MZ 46 (0,0)):=(heap_setCell_other _ _ _ _ (Ne.symm hne)).trans ((heap_setCell_other _ _ _ _ (Ne.symm hne)).trans ((hqx.block _ h6u).trans hr6))
  have hEXn:Ext w ((wd.setCell ⟨h8,5,none⟩ (.bool (B.gb k 29))).setCell ⟨h8,6,none⟩ (.bool (B.gb k 27))):=Below.setCell (Below.setCell (hEX.trans hqx) hwh _) hwh _
  have rn87:((wd.setCell ⟨h8,5,none⟩ (.bool (B.gb k 29))).setCell ⟨h8,6,none⟩ (.bool (B.gb k 27))).cell? ⟨bb,off+k*89+87,none⟩=some _:=(World.cell?_setCell_far _ _ _ _ (Ne.symm hbne)).trans ((World.cell?_setCell_far _ _ _ _ (Ne.symm hbne)).trans ((hqx.cell (p:=⟨bb,off+k*89+87,none⟩) hbu).trans r87))
  clear hr8 hr6 hEX hqx hq0 hq1 hq2 hbu h8u h6u hfd e5 e6 Q29 Q27 r87
  generalize ((wd.setCell ⟨h8,5,none⟩ (.bool (B.gb k 29))).setCell ⟨h8,6,none⟩ (.bool (B.gb k 27)))=u4 at *
  clear wd
  have hr8:=hr8n
  have hr6:=hr6n
  have hEX:=hEXn
  have r87:=rn87
  clear hr8n hr6n hEXn rn87
  obtain⟨R4,hR4⟩:∃R,((R3.setIfInBounds 5 (Value.bool (B.gb k 29))).setIfInBounds 6 (Value.bool (B.gb k 27)))=R:=⟨_,rfl⟩
  rw[hR4]at hr8
  have hf8:∀j,u4.frozen? ⟨h8,j,none⟩=false:=fun j=>frozen_of_row _ _ _ _ _ hr8
  have hR5:R4.setIfInBounds 7 (Value.int .i64 (B.gi k 87))=aZ B k kind:=by
   subst k2
   rw[←hR4,←hR3,←hR2]
   rfl
  have d7:∃v,u4.cell? ⟨h8,7,none⟩=some v:=⟨.int .i64 0,(cell_of_row _ _ _ _ _ _ hr8).trans (by subst k2;rw[←hR4,←hR3,←hR2];rfl)⟩
  obtain⟨v7,d7⟩:=d7
  have H8:=hD (show(u4.setCell ⟨h8,7,none⟩ (.int .i64 (B.gi k 87))).heap[h8]?=some (.cells (aZ B k kind) 46 (0,0))from(by rw[←hR5];exact heap_setCell_same _ _ _ _ _ _ hr8))
  have H6:=hD (show(u4.setCell ⟨h8,7,none⟩ (.int .i64 (B.gi k 87))).heap[t6]?=some (.cells MZ 46 (0,0))from(heap_setCell_other _ _ _ _ (Ne.symm hne)).trans hr6)
  have HE:=hD (show Ext w ((u4.setCell ⟨h8,7,none⟩ (.int .i64 (B.gi k 87))).setRow t6 (aZ B k kind))from eQ (Below.setCell hEX hwh _) hw6 _)
  have HY:=hD (setRow_heap _ _ _ (aZ B k kind) _ _ H6.out)
  clear hR5 hR4 hR3 hR2 hr8 hr6 hEX
  go_wp2_with (first
   | fail
   | ((with_reducible refine aG 46 ?_);refine wpList_load_row rfl 46 _ rfl h8 rfl 46 (aZ B k kind) (0,0) _ H8.out Tryz.underlying46 rfl HIm.out ?_)
   | ((with_reducible refine aD 46 ?_);refine wpList_store_row rfl 46 _ _ rfl t6 (aZ B k kind) rfl rfl 46 MZ H6.out HIm.out HSm.out HOm.out ?_))
  refine bodyPost_ret (results_cell_row rfl _ _ _ _ (aZ B k kind) (0,0) _ rfl HY.out Tryz.underlying46 rfl HIm.out) rfl ?_
  exact⟨rfl,HE.out⟩
 ·have n0:(kind == 0)=false:=by simpa using k0
  have n1:(kind == 1)=false:=by simpa using k1
  have n2:(kind == 2)=false:=by simpa using k2
  have HB1:=hD (show Tryz.prog.built 46 []=some (aZ B k kind) by unfold aZ;rw[if_neg k0,if_neg k1,if_neg k2];exact aJM)
  have H8:=hD (show((u1.setCell ⟨h8,12,none⟩ (.int .u16 0)).setRow h8 (aZ B k kind)).heap[h8]?=some (.cells (aZ B k kind) 46 (0,0))from setRow_heap _ _ _ _ _ _ (heap_setCell_same _ _ _ _ _ _ HR8.out))
  have H6:=hD (show((u1.setCell ⟨h8,12,none⟩ (.int .u16 0)).setRow h8 (aZ B k kind)).heap[t6]?=some (.cells MZ 46 (0,0))from(setRow_other _ _ _ _ (Ne.symm hne)).trans ((heap_setCell_other _ _ _ _ (Ne.symm hne)).trans HR6.out))
  have HE:=hD (show Ext w (((u1.setCell ⟨h8,12,none⟩ (.int .u16 0)).setRow h8 (aZ B k kind)).setRow t6 (aZ B k kind))from eQ (eQ (Below.setCell HEX.out hwh _) hwh _) hw6 _)
  have HY:=hD (setRow_heap _ _ _ (aZ B k kind) _ _ H6.out)
  have HZ8:=hD (show(u1.setCell ⟨h8,12,none⟩ (.int .u16 0)).heap[h8]?=some (.cells _ 46 (0,0))from heap_setCell_same _ _ _ _ _ _ HR8.out)
  go_wp2_with (first
   | fail
   | ((with_reducible refine cJ 46 ?_);refine bG rfl 46 _ rfl [] rfl (aZ B k kind) HB1.out ?_)
   | ((with_reducible refine aG 46 ?_);refine wpList_load_row rfl 46 _ rfl h8 rfl 46 (aZ B k kind) (0,0) _ H8.out Tryz.underlying46 rfl HIm.out ?_)
   | ((with_reducible refine aD 46 ?_);refine wpList_store_row rfl 46 _ _ rfl h8 (aZ B k kind) rfl rfl 46 _ HZ8.out HIm.out (by rw[jA];rfl) HOm.out ?_)
   | ((with_reducible refine aD 46 ?_);refine wpList_store_row rfl 46 _ _ rfl t6 (aZ B k kind) rfl rfl 46 MZ H6.out HIm.out HSm.out HOm.out ?_))
  refine bodyPost_ret (results_cell_row rfl _ _ _ _ (aZ B k kind) (0,0) _ rfl HY.out Tryz.underlying46 rfl HIm.out) rfl ?_
  exact⟨rfl,HE.out⟩
theorem sW(ao:Option Addr)(n cap:Nat)(hc:n≤cap)(hm:cap≤9223372036854775807)(h0:ao=none→n=0∧cap=0)(w:World):Calls Tryz.prog 132 #[.slice ao n cap] w fun e w'=>e=.returned (.slice ao n n)∧w=w':=by
 cases ao with
 | none =>
  obtain⟨rfl,rfl⟩:=h0 rfl
  go_enter Tryz.func132,Tryz.ntmps132
  go_wp2
  go_ret
  simp
 | some a =>
  clear h0
  go_enter Tryz.func132,Tryz.ntmps132
  go_wp2
  go_ret
  simp
section
variable {P:Program} {ops:Array Oper} {Q:Exit→Act→World→Prop} {md:Region.Mode} {S:World→Prop}
theorem pN{l rest:List Oper}{i:Nat}{oi:Oper}{v:Value}{fuel:Nat}{listed:Array Bool}{a:Act}{w:World}{rs:List Nat}(hi:l.drop i=oi :: rest)(hy:YieldsIf P l.toArray (fun W'=>W'=w) oi v a)(hS:S w)(h:wpAnyH P md l.toArray Q S fuel (listed.setIfInBounds i true) (a.put oi.dst v) w)(hs:AllReadyH P md l.toArray Q S fuel listed a w rs):AllReadyH P md l.toArray Q S fuel listed a w (i :: rs):=fun j hj=>by
 rcases List.mem_cons.1 hj with rfl|hj
 ·refine hy.wpOp ?_ rfl ⟨hS,h⟩
  have e:(l.drop j)[0]?=some oi:=by rw[hi];rfl
  rw[List.getElem?_drop,Nat.add_zero]at e
  simpa using e
 ·exact hs j hj
theorem xS{l rest:List Oper}{i:Nat}{oi:Oper}{fuel:Nat}{listed:Array Bool}{a:Act}{w:World}{rs:List Nat}(hi:l.drop i=oi :: rest)(hg:oi.guard=none)(h:∀K':Act→World→Prop,Shut (∀a w,S w→(S w→wpAnyH P md l.toArray Q S fuel (listed.setIfInBounds i true) a w)→K' a w)→Oper.wp P oi a w K' Q)(hs:AllReadyH P md l.toArray Q S fuel listed a w rs):AllReadyH P md l.toArray Q S fuel listed a w (i :: rs):=by
 refine AllReadyH.cons (o:=oi) ?_ (fun K hK=>?_) hs
 ·have e:(l.drop i)[0]?=some oi:=by rw[hi];rfl
  rw[List.getElem?_drop,Nat.add_zero]at e
  simpa using e
 ·rw[if_pos (by simp[Region.wanted,hg])]
  exact h K hK
end
theorem gK{P:Program}{o:Oper}{a:Act}{w:World}{K:Act→World→Prop}{Q:Exit→Act→World→Prop}(hg:o.guard=none)(s x:Operand)(t:TypeId)(hop:o.op=Op.call { callee:=Callee.builtin Builtin.append,args:=#[s,x],argTypes:=#[t,t] })(e:TypeId)(i:TypeInfo)(z:Value)(size bytes:Nat)(h1:P.underlying t=some (.slice e))(h2:P.info? e=some i)(h3:i.zero=some z)(h4:i.size=size)(h5:i.bytes=bytes)(h6:z.cells.size=size)(h7:0<size)(ao:Option Addr)(n cap:Nat)(olds:List Value)(hs:a.eval s=.slice ao n cap)(hnone:ao=none→n=0∧cap=0)(hlo:olds.length=n*size)(holds:∀b,ao=some b→∀j u,olds[j]?=some u→w.cell? (b.add j)=some u)(ad:Addr)(m c:Nat)(news:List Value)(hx:a.eval x=.slice (some ad) m c)(hn:news.length=m*size)(hc:∀j u,news[j]?=some u→w.cell? (ad.add j)=some u)(h1c:∀u∈news,u.oneCell'=true)(hfull:cap<n+m)(b1:n+m≤maxLen)(b2:(n+m)*bytes≤140737488355328)(hK:∀v' w',w'.ownsRow w.heap.size e size v' (n+m) (olds++news)→w.grownBy w' none→K (a.put o.dst v') w'):Oper.wp P o a w K Q:=by
 have h:=step_append_grows (E:=True) (ops:=#[]) (Q:=Q) hg s x t hop e i z size bytes h1 h2 h3 h4 h5 h6 h7 ao n cap olds hs hnone hlo holds ad m c news hx hn hc h1c hfull b1 b2 hK
 rwa [if_pos (by simp[Region.wanted,hg])]at h
def dB(k:Int)(m:Array Value):List Value:=.int .i64 k :: m.toList
def Br.sent(B:Br)(k:Nat)(kind:Int):Br:={ B with no:=B.no+1,os:=B.os++dB k (aZ B k kind) }
theorem xT(B:Br)(k:Nat)(kind:Int):∃(kd:Int) (ch ak pr ag ln fw:Bool) (ro a b c d e f g h i:Int),aZ B k kind=i8 kd ch ak pr ag ln fw ro a b c d e f g h i:=by
 unfold aZ
 split
 ·exact⟨_,_,_,_,_,_,_,_,_,_,_,_,_,_,_,_,_,rfl⟩
 split
 ·exact⟨_,_,_,_,_,_,_,_,_,_,_,_,_,_,_,_,_,rfl⟩
 split
 ·exact⟨_,_,_,_,_,_,_,_,_,_,_,_,_,_,_,_,_,rfl⟩
 ·exact⟨0,false,false,false,false,false,false,0,0,0,0,0,0,0,0,0,0,rfl⟩
theorem aG6(k kd:Int)(ch ak pr ag ln fw:Bool)(ro a b c d e f g h i:Int):Tryz.prog.built 71 [(0,.int .i64 k),(1,.agg (i8 kd ch ak pr ag ln fw ro a b c d e f g h i))]=some (dB k (i8 kd ch ak pr ag ln fw ro a b c d e f g h i)).toArray:=by kernel_rfl
theorem aG7(k kd:Int)(ch ak pr ag ln fw:Bool)(ro a b c d e f g h i:Int):Instr.fill (fun i=>some (i*18,18)) ((Array.range (1*18)).map (SZ[· % SZ.size]!)) [(0,.agg (dB k (i8 kd ch ak pr ag ln fw ro a b c d e f g h i)).toArray)]=some (dB k (i8 kd ch ak pr ag ln fw ro a b c d e f g h i)).toArray:=by kernel_rfl
theorem pO(k:Int)(B:Br)(j:Nat)(kind:Int):∀v∈dB k (aZ B j kind),v.oneCell'=true:=fun v hv=>by
 rcases List.mem_cons.1 hv with rfl|hv
 ·rfl
 ·have:=rH B j kind
  rw[←Array.all_toList,List.all_eq_true]at this
  exact this v hv
theorem pP(k:Int)(B:Br)(j:Nat)(kind:Int):(dB k (aZ B j kind)).length=18:=by
 show(aZ B j kind).toList.length+1=18
 rw[Array.length_toList,jA]
theorem kD(kd:Int)(ch ak pr ag ln fw:Bool)(ro a b c d e f g h i:Int)(w_kd:(Lit.int .i64 kd).wf=true)(w_ro:(Lit.int .i64 ro).wf=true)(w_a:(Lit.int .u64 a).wf=true)(w_b:(Lit.int .u32 b).wf=true)(w_c:(Lit.int .u64 c).wf=true)(w_d:(Lit.int .u16 d).wf=true)(w_e:(Lit.int .u16 e).wf=true)(w_f:(Lit.int .i64 f).wf=true)(w_g:(Lit.int .i64 g).wf=true)(w_h:(Lit.int .i64 h).wf=true)(w_i:(Lit.int .i64 i).wf=true):Typed ML (i8 kd ch ak pr ag ln fw ro a b c d e f g h i).toList:=⟨rfl,fun j q hj=>match j,hj with
 | 0,hj=>by cases hj;exact⟨_,rfl,_,rfl,w_kd⟩
 | 1,hj=>by cases hj;exact⟨_,rfl,_,rfl⟩
 | 2,hj=>by cases hj;exact⟨_,rfl,_,rfl⟩
 | 3,hj=>by cases hj;exact⟨_,rfl,_,rfl⟩
 | 4,hj=>by cases hj;exact⟨_,rfl,_,rfl⟩
 | 5,hj=>by cases hj;exact⟨_,rfl,_,rfl⟩
 | 6,hj=>by cases hj;exact⟨_,rfl,_,rfl⟩
 | 7,hj=>by cases hj;exact⟨_,rfl,_,rfl,w_ro⟩
 | 8,hj=>by cases hj;exact⟨_,rfl,_,rfl,w_a⟩
 | 9,hj=>by cases hj;exact⟨_,rfl,_,rfl,w_b⟩
 | 10,hj=>by cases hj;exact⟨_,rfl,_,rfl,w_c⟩
 | 11,hj=>by cases hj;exact⟨_,rfl,_,rfl,w_d⟩
 | 12,hj=>by cases hj;exact⟨_,rfl,_,rfl,w_e⟩
 | 13,hj=>by cases hj;exact⟨_,rfl,_,rfl,w_f⟩
 | 14,hj=>by cases hj;exact⟨_,rfl,_,rfl,w_g⟩
 | 15,hj=>by cases hj;exact⟨_,rfl,_,rfl,w_h⟩
 | 16,hj=>by cases hj;exact⟨_,rfl,_,rfl,w_i⟩
 | j+17,hj=>by simp[ML]at hj⟩
theorem vA{B:Br}(ho:B.ok){k:Nat}(hk:k<B.np)(kind:Int):Typed ML (aZ B k kind).toList:=by
 unfold aZ
 split
 ·exact kD _ _ _ _ _ _ _ _ _ _ _ _ _ _ _ _ _ (by decide) (by decide) (ho.gw hk 73 rfl) (ho.gw hk 74 rfl) (ho.gw hk 75 rfl) (ho.gw hk 76 rfl) (by decide) (ho.gw hk 82 rfl) (ho.gw hk 83 rfl) (ho.gw hk 84 rfl) (ho.gw hk 85 rfl)
 split
 ·exact kD _ _ _ _ _ _ _ _ _ _ _ _ _ _ _ _ _ (by decide) (by decide) (by decide) (by decide) (by decide) (by decide) (by decide) (by decide) (by decide) (by decide) (by decide)
 split
 ·exact kD _ _ _ _ _ _ _ _ _ _ _ _ _ _ _ _ _ (by decide) (ho.gw hk 87 rfl) (ho.gw hk 73 rfl) (ho.gw hk 74 rfl) (ho.gw hk 75 rfl) (ho.gw hk 76 rfl) (by decide) (ho.gw hk 82 rfl) (ho.gw hk 83 rfl) (ho.gw hk 84 rfl) (ho.gw hk 85 rfl)
 ·exact kD 0 _ _ _ _ _ _ 0 0 0 0 0 0 0 0 0 0 (by decide) (by decide) (by decide) (by decide) (by decide) (by decide) (by decide) (by decide) (by decide) (by decide) (by decide)
theorem xU{B:Br}(ho:B.ok){k:Nat}(hk:k<B.np)(hk8:k<1000)(kind:Int):Typed SL (dB k (aZ B k kind)):=by
 obtain⟨h1,h2⟩:=vA ho hk kind
 refine⟨by show(aZ B k kind).toList.length+1=ML.length+1;rw[h1],fun j q hj=>?_⟩
 cases j with
 | zero =>
  cases hj
  refine⟨_,rfl,_,rfl,?_⟩
  simp[Lit.wf,IntKind.min,IntKind.max,IntKind.signed,IntKind.bits]
  omega
 | succ j=>exact h2 j q hj
theorem qR{l:List (Option IntKind)}{n:Nat}{xs ys:List Value}(h:RowTyped l n xs)(hy:Typed l ys):RowTyped l (n+1) (xs++ys):=by
 obtain⟨h1,h2⟩:=h
 refine⟨by rw[List.length_append,h1,hy.1,Nat.succ_mul],fun i hi=>?_⟩
 by_cases e:i<n
 ·have hle:(i+1)*l.length≤xs.length:=by rw[h1];exact Nat.mul_le_mul_right _ e
  rw[Nat.succ_mul]at hle
  rw[List.drop_append_of_le_length (by omega),List.take_append_of_le_length (by rw[List.length_drop];omega)]
  exact h2 i e
 ·obtain rfl:i=n:=by omega
  rw[List.drop_append,←h1,List.drop_length,Nat.sub_self,List.drop_zero,List.nil_append,List.take_of_length_le (by rw[hy.1];exact Nat.le_refl _)]
  exact hy
theorem zO{B:Br}(ho:B.ok){k:Nat}(hk:k<B.np)(hk8:k<1000)(kind:Int):(B.sent k kind).ok:=⟨ho.hd,ho.ps,qR ho.os (xU ho hk hk8 kind),ho.fl⟩
theorem BrG.sended{w w2:World}{F:Nat→Prop}{X g k:Nat}{kind:Int}{B:Br}(h:BrG w F X g B)(hd:B.hd.length=17)(hs:w.heap.size≤w2.heap.size)(hb:∀n,n<w.heap.size→w2.heap[n]?=w.heap[n]?){v':Value}(hr:w2.ownsRow w.heap.size 71 18 v' (B.no+1) (B.os++dB k (aZ B k kind))):
    BrG (w2.setCell ⟨X,18,none⟩ v') (fun n=>F n∨(w.heap.size≤n∧n<w2.heap.size)) X g (B.sent k kind):=by
 obtain⟨h1,h2,cap,cur,s2,s3,a,b,c,d,e,f,p,q,r,s⟩:=h
 have lX:=aC a
 have lg:=aC b
 have hXg:X≠g:=by
  intro e0
  subst e0
  rw[a]at b
  cases b
 have aX:=(hb X lX).trans a
 have bg:=(hb g lg).trans b
 have own3:(w2.setCell ⟨X,18,none⟩ v').ownsRow 0 3 1 s3 B.nf B.fl:=k3 (iP q (fun q1 _ hq=>hb q1 hq)) aX (by decide) v'
 have own2:(w2.setCell ⟨X,18,none⟩ v').ownsRow 0 71 18 v' (B.no+1) (B.os++dB k (aZ B k kind)):=by
  obtain⟨z1,z2⟩:=k3 hr aX (by decide) v'
  refine⟨z1,?_⟩
  rcases z2 with z2|⟨g3,c3,cu3,e1,e2,e3⟩
  ·exact .inl z2
  ·exact .inr ⟨g3,c3,cu3,e1,Nat.zero_le _,e3⟩
 refine⟨.inl h1,.inl h2,cap,cur,v',s3,?_,(heap_setCell_other _ _ _ _ (Ne.symm hXg)).trans bg,c,d,e,f,own2,own3,fun m hm=>?_,(fun m hm=>.inl (s m hm))⟩
 ·rw[heap_setCell_same _ _ _ _ _ _ aX]
  congr 2
  apply Array.ext'
  simp[Br.sent,List.set_append,hd]
 ·have:=hr.lt m hm
  exact .inr this
def dZ(B:Br)(k:Nat)(kind:Int):Br:=(if kind=1 then(B.sent k kind).setp k 31 (.bool false)else((B.sent k kind).setp k 31 (.bool false)).setp k 48 (.bool false)).setp k 14 (.int .i64 (B.gi k 14+1))
theorem aG8(w:World)(F:Nat→Prop)(X g k:Nat)(B:Br)(kind:Int)(h:BrG w F X g B)(ho:B.ok)(hk:k<B.np)(hn:B.np<1000)(h14:0≤B.gi k 14∧B.gi k 14≤100000)(hno:B.no≤100000):Calls Tryz.prog 61 #[.pointer (some ⟨X,0,none⟩),.int .i64 k,.int .i64 kind] w fun e w'=>e=.returned (.tuple #[])∧BrG w' (fun n=>F n∨(w.heap.size≤n∧n<w'.heap.size)) X g (dZ B k kind)∧Mut F w w':=by
 obtain⟨hX,hg,hne⟩:=h.lt
 obtain⟨cap,c17,hc1,hc2⟩:=h.cell17 ho
 have H:=hD h
 have hF1:=h.F1
 have hF2:=h.F2
 obtain⟨C,hC,hCb,hCz⟩:=h.br (by omega:0<B.np)
 obtain⟨-,-,cap3,cur,s2,s3,aX,bg,-,-,-,-,q2,-,-,-⟩:=h
 have c18:w.cell? ⟨X,18,none⟩=some s2:=by
  rw[cell_of_row _ _ _ _ _ _ aX]
  simp[ho.hd.1,HL]
 have hcells:∃ao cp,s2=.slice ao B.no cp∧B.no≤cp∧cp≤9223372036854775807∧(ao=none→B.no=0∧cp=0)∧(∀b,ao=some b→b.block<w.heap.size∧∀j u,B.os[j]?=some u→w.cell? (b.add j)=some u):=by
  obtain⟨hl,⟨rfl,hz⟩|⟨g3,cp,cu,rfl,-,hg3,h1,h2,h3,h4⟩⟩:=q2
  ·exact⟨none,0,by rw[hz],by omega,by omega,fun _=>⟨hz,rfl⟩,fun b hb=>by cases hb⟩
  ·unfold maxLen at h2
   refine⟨some ⟨g3,0,none⟩,cp,rfl,h1,by omega,(fun hh=>by cases hh),fun b hb=>?_⟩
   cases hb
   refine⟨aC hg3,fun j u hu=>?_⟩
   rw[Addr.add_lit,Nat.zero_add,cell_of_row _ _ _ _ _ _ hg3]
   rw[←h4,List.getElem?_take]at hu
   split at hu
   ·simpa using hu
   ·cases hu
 obtain⟨ao,cp,rfl,hcp,hcm,h0,hcl⟩:=hcells
 obtain⟨i2,hi2,hz2,hs2,hb2⟩:=y8 aAS
 have hlen:B.os.length=B.no*18:=ho.os.1
 have hk8:k<1000:=by omega
 have HCL:=hD hcl
 have H0:=hD h0
 have HI:=hD (And.intro hi2 (And.intro hz2 (And.intro hs2 hb2)))
 have HLEN:=hD hlen
 have HHD:=hD (show B.hd.length=17 from ho.hd.1)
 have HAX:=hD aX
 have HC:=hD hC
 have HCb:=hD hCb
 have HCi:=hD (show(Tryz.prog.info? 35).map (·.size)=some C.size by rw[hCz,ho.hd.1];exact kZ)
 have P14:=hD h14
 have HSO:=hD (zO ho hk hk8 kind)
 obtain⟨m0,m1,m2,m3,m4,m5,m6,m7,m8,m9,m10,m11,m12,m13,m14,m15,m16,hm⟩:=xT B k kind
 have HM:=hD hm
 have HB0:=hD (show Tryz.prog.built 71 [(0,.int .i64 (k:Int)),(1,.agg (aZ B k kind))]=some (dB k (aZ B k kind)).toArray by rw[HM.out];exact aG6 _ _ _ _ _ _ _ _ _ _ _ _ _ _ _ _ _ _)
 have HB1:=hD (show Instr.fill (fun i=>some (i*18,18)) ((Array.range (1*18)).map (SZ[· % SZ.size]!)) [(0,.agg (dB k (aZ B k kind)).toArray)]=some (dB k (aZ B k kind)).toArray by rw[HM.out];exact aG7 _ _ _ _ _ _ _ _ _ _ _ _ _ _ _ _ _ _)
 clear aX bg q2 hcl h0 hi2 hz2 hs2 hb2 hlen hC hCb hm
 go_enter Tryz.func61,Tryz.ntmps61
 go_wp2_with fail
 refine aT (S:=fun W'=>Mut F w W') (by kernel_rfl) ?_
 intro wd hqx
 have hq0:Mut F w wd:=hqx.mut _
 have C18:=hD c18
 have C17:=hD c17
 clear c18 c17
 refine aH 0 X 0 rfl hq0 ?_
 refine aH 1 X 0 rfl hq0 ?_
 refine aH 2 X 0 rfl hq0 ?_
 refine aH 3 X 18 rfl hq0 ?_
 refine bO 6 ((.int .i64 (k:Int))) rfl hq0 ?_
 refine aH 7 X 0 rfl hq0 ?_
 refine aH 8 X 0 rfl hq0 ?_
 refine bO 10 ((.int .i64 (k:Int))) rfl hq0 ?_
 refine bO 11 ((.int .i64 kind)) rfl hq0 ?_
 refine wpAnyH_ready (by kernel_rfl) (by simp) (pN (i:=4) (v:=(.slice ao B.no cp)) rfl (aA rfl 32 _ rfl ⟨X,18,none⟩ rfl (.slice ao B.no cp) _ (fun W' hW'=>by rw[hW'];exact(hqx.cell (p:=⟨X,18,none⟩) hX).trans C18.out) Tryz.underlying32 rfl) hq0 ?g4x1 (pN (i:=9) (v:=.agg C) rfl (a4 rfl 35 _ rfl X rfl C _ _ (fun W' hW'=>by rw[hW'];exact(hqx.block X hX).trans HC.out) Tryz.underlying35 rfl HCi.out) hq0 ?g9x1 (AllReadyH.nil)))
 case g4x1 =>
  try simp only[ps]
  refine wpAnyH_ready (by kernel_rfl) (by simp) (xS (i:=5) rfl rfl ?g5x2 (pN (i:=9) (v:=.agg C) rfl (a4 rfl 35 _ rfl X rfl C _ _ (fun W' hW'=>by rw[hW'];exact(hqx.block X hX).trans HC.out) Tryz.underlying35 rfl HCi.out) hq0 ?g9x2 (AllReadyH.nil)))
  case g5x2 =>
   intro K hK
   go_simp
   refine(sW ao B.no cp hcp hcm H0.out _).mono ?_
   rintro e w9 ⟨rfl,rfl⟩
   refine hK.out _ _ hq0 (fun hHeld=>?_)
   try simp only[ps]
   clear hK K hHeld
   refine wpAnyH_ready (by kernel_rfl) (by simp) (pN (i:=9) (v:=.agg C) rfl (a4 rfl 35 _ rfl X rfl C _ _ (fun W' hW'=>by rw[hW'];exact(hqx.block X hX).trans HC.out) Tryz.underlying35 rfl HCi.out) hq0 ?g9x3 (AllReadyH.nil))
   case g9x3 =>
    try simp only[ps]
    refine bB (i:=12) rfl rfl (by kernel_rfl) (fun K hK=>?_)
    go_simp
    refine(xR C B _ (HCb.out.ext hqx) ho k hk kind).mono ?_
    rintro e wm ⟨rfl,hxm0⟩
    have hxm:=hqx.trans hxm0
    clear hxm0
    have hq1:Mut F w wm:=hxm.mut _
    refine hK.out _ _ hq1 (fun hHeld=>?_)
    try simp only[ps]
    clear hK K hHeld
    refine tL 13 ((.agg (dB k (aZ B k kind)).toArray)) rfl (bL rfl 71 _ rfl [(0,.int .i64 (k:Int)),(1,.agg (aZ B k kind))] rfl (dB k (aZ B k kind)).toArray HB0.out) hq1 ?_
    refine bB (i:=14) rfl rfl (by kernel_rfl) (fun K hK=>?_)
    refine wp_buildSlice 32 71 1 _ rfl (dB k (aZ B k kind)).toArray i2 (.agg SZ) Tryz.underlying32 HI.out.1 HI.out.2.1 (by rw[HI.out.2.2.1];decide) (by rw[HI.out.2.2.1];decide) (by rw[HI.out.2.2.1,Array.toList_map];exact HB1.out) ?_
    have hq2:=hq1.alloc (.cells (dB k (aZ B k kind)).toArray 71)
    refine hK.out _ _ hq2 (fun hHeld=>?_)
    try simp only[ps]
    clear hK K hHeld
    refine bB (i:=15) rfl rfl (by kernel_rfl) (fun K hK=>?_)
    refine gK rfl _ _ 32 rfl 71 i2 (.agg SZ) 18 96 Tryz.underlying32 HI.out.1 HI.out.2.1 HI.out.2.2.1 HI.out.2.2.2 rZ (by decide) ao B.no B.no B.os rfl (fun hh=>⟨(H0.out hh).1,(H0.out hh).1⟩) HLEN.out ?oldst4 ⟨wm.heap.size,0,none⟩ 1 1 (dB k (aZ B k kind)) rfl (by rw[pP]) ?newst4 (pO _ _ _ _) (by omega) (by unfold maxLen;omega) (by omega) ?fint4
    case oldst4 =>
     intro b hb j u hu
     obtain⟨l1,l2⟩:=HCL.out b hb
     have:=l2 j u hu
     have hbk:(b.add j).block=b.block:=by unfold Addr.add;split<;>rfl
     rw[((hxm.alloc _).cell (p:=b.add j) (by rw[hbk];exact l1))]
     exact this
    case newst4 =>
     intro j u hu
     exact World.news_of_block (heap_alloc_new wm _) j u (by simpa using hu)
    case fint4 =>
     intro v' w2 hr hgb
     obtain⟨av,cv,rfl⟩:=lZ hr
     have hwl:=hxm.size
     have hsz:w.heap.size+1≤w2.heap.size:=by
      have h1:=hgb.size
      rw[World.size_alloc]at h1
      omega
     have hbl:∀n,n<w.heap.size→w2.heap[n]?=w.heap[n]?:=fun n hn'=>(hgb.block n (by rw[World.size_alloc];omega) (by simp)).trans ((heap_alloc_old _ _ (by omega)).trans (hxm.block n hn'))
     have hr0:w2.ownsRow w.heap.size 71 18 (.slice av (B.no+1) cv) (B.no+1) (B.os++dB k (aZ B k kind)):=by
      obtain⟨z1,z2⟩:=hr
      refine⟨z1,?_⟩
      rcases z2 with z2|⟨g3,c3,cu3,e1,e2,e3⟩
      ·exact .inl z2
      ·exact .inr ⟨g3,c3,cu3,e1,by rw[World.size_alloc]at e2;omega,e3⟩
     have HBf:=hD (H.out.sended (k:=k) (kind:=kind) HHD.out (by omega) hbl hr0)
     have hq3:Mut F w w2:=⟨hgb.os.trans hxm.os,hgb.tape.trans hxm.tape,hgb.output.trans hxm.output,by omega,fun n hn' _=>hbl n hn'⟩
     have c18':w2.cell? ⟨X,18,none⟩=some (.slice ao B.no cp):=(World.cell?_of_block (hbl X hX)).trans C18.out
     have f18':w2.frozen? ⟨X,18,none⟩=false:=frozen_of_row _ _ _ _ _ ((hbl X hX).trans HAX.out)
     refine hK.out _ _ hq3 (fun hHeld=>?_)
     try simp only[ps]
     clear hK K hHeld
     refine aH 16 X 0 rfl hq3 ?_
     refine aH 17 X 18 rfl hq3 ?_
     refine bB (i:=18) rfl rfl (by kernel_rfl) (fun K hK=>?_)
     go_simp
     have hq4:=hq3.setCell (p:=⟨X,18,none⟩) (.inl hF1) (.slice av (B.no+1) cv)
     refine hK.out _ _ hq4 (fun hHeld=>?_)
     try simp only[ps]
     clear hK K hHeld
     refine wpAnyH_done (by kernel_rfl) ?_ _
     have HQ4:=hD hq4
     clear hr hr0 hq0 hq1 hq2 hq3 hq4 hqx hxm hgb c18' f18' hwl
     have hsz2:w2.heap.size=(w2.setCell ⟨X,18,none⟩ (.slice av (B.no+1) cv)).heap.size:=by simp
     rw[hsz2]at HBf
     clear hsz2 hbl hsz
     generalize w2.setCell ⟨X,18,none⟩ (.slice av (B.no+1) cv)=w3 at *
     have hF3:=HBf.out.F2
     obtain⟨hXl,hgl,hne3⟩:=HBf.out.lt
     have d31:=(HBf.out.cellg (i:=k*89+31) (bZ hk (by decide))).trans (ho.gb hk 31 rfl)
     have d48:=(HBf.out.cellg (i:=k*89+48) (bZ hk (by decide))).trans (ho.gb hk 48 rfl)
     have d14:=(HBf.out.cellg (i:=k*89+14) (bZ hk (by decide))).trans (ho.gi hk 14 rfl)
     have hfr:=HBf.out.frozen
     obtain⟨cap4,c17,hca4,hcb4⟩:=HBf.out.cell17 HSO.out
     have hp14:=P14.out
     have c17:w3.cell? ⟨X,17,none⟩=some (.slice (some ⟨g,0,none⟩) B.np cap4):=c17
     by_cases k1:kind=1
     ·have e1:(kind != 1)=false:=by simpa using k1
      have HB9:=hD ((HBf.out.setp (k:=k) (j:=31) hk (by decide) (.bool false)).setp (k:=k) (j:=14) hk (by decide) (.int .i64 (B.gi k 14+1)))
      have HM9:=hD ((HQ4.out.setCell (p:=⟨g,k*89+31,none⟩) (.inl hF2) (.bool false)).setCell (p:=⟨g,k*89+14,none⟩) (.inl hF2) (.int .i64 (B.gi k 14+1)))
      go_wp2_with fail
      go_end0
      unfold dZ
      rw[if_pos k1]
      exact⟨rfl,HB9.out.mono (fun n hn=>hn.imp id (fun h2=>⟨h2.1,by simp only[World.size_setCell];exact h2.2⟩)),HM9.out⟩
     ·have e1:(kind != 1)=true:=by simpa using k1
      have HB9:=hD (((HBf.out.setp (k:=k) (j:=31) hk (by decide) (.bool false)).setp (k:=k) (j:=48) hk (by decide) (.bool false)).setp (k:=k) (j:=14) hk (by decide) (.int .i64 (B.gi k 14+1)))
      have HM9:=hD (((HQ4.out.setCell (p:=⟨g,k*89+31,none⟩) (.inl hF2) (.bool false)).setCell (p:=⟨g,k*89+48,none⟩) (.inl hF2) (.bool false)).setCell (p:=⟨g,k*89+14,none⟩) (.inl hF2) (.int .i64 (B.gi k 14+1)))
      go_wp2_with fail
      go_end0
      unfold dZ
      rw[if_neg k1]
      exact⟨rfl,HB9.out.mono (fun n hn=>hn.imp id (fun h2=>⟨h2.1,by simp only[World.size_setCell];exact h2.2⟩)),HM9.out⟩
  case g9x2 =>
   try simp only[ps]
   refine wpAnyH_ready (by kernel_rfl) (by simp) (xS (i:=5) rfl rfl ?g5x5 (AllReadyH.nil))
   case g5x5 =>
    intro K hK
    go_simp
    refine(sW ao B.no cp hcp hcm H0.out _).mono ?_
    rintro e w9 ⟨rfl,rfl⟩
    refine hK.out _ _ hq0 (fun hHeld=>?_)
    try simp only[ps]
    clear hK K hHeld
    refine bB (i:=12) rfl rfl (by kernel_rfl) (fun K hK=>?_)
    go_simp
    refine(xR C B _ (HCb.out.ext hqx) ho k hk kind).mono ?_
    rintro e wm ⟨rfl,hxm0⟩
    have hxm:=hqx.trans hxm0
    clear hxm0
    have hq1:Mut F w wm:=hxm.mut _
    refine hK.out _ _ hq1 (fun hHeld=>?_)
    try simp only[ps]
    clear hK K hHeld
    refine tL 13 ((.agg (dB k (aZ B k kind)).toArray)) rfl (bL rfl 71 _ rfl [(0,.int .i64 (k:Int)),(1,.agg (aZ B k kind))] rfl (dB k (aZ B k kind)).toArray HB0.out) hq1 ?_
    refine bB (i:=14) rfl rfl (by kernel_rfl) (fun K hK=>?_)
    refine wp_buildSlice 32 71 1 _ rfl (dB k (aZ B k kind)).toArray i2 (.agg SZ) Tryz.underlying32 HI.out.1 HI.out.2.1 (by rw[HI.out.2.2.1];decide) (by rw[HI.out.2.2.1];decide) (by rw[HI.out.2.2.1,Array.toList_map];exact HB1.out) ?_
    have hq2:=hq1.alloc (.cells (dB k (aZ B k kind)).toArray 71)
    refine hK.out _ _ hq2 (fun hHeld=>?_)
    try simp only[ps]
    clear hK K hHeld
    refine bB (i:=15) rfl rfl (by kernel_rfl) (fun K hK=>?_)
    refine gK rfl _ _ 32 rfl 71 i2 (.agg SZ) 18 96 Tryz.underlying32 HI.out.1 HI.out.2.1 HI.out.2.2.1 HI.out.2.2.2 rZ (by decide) ao B.no B.no B.os rfl (fun hh=>⟨(H0.out hh).1,(H0.out hh).1⟩) HLEN.out ?oldst6 ⟨wm.heap.size,0,none⟩ 1 1 (dB k (aZ B k kind)) rfl (by rw[pP]) ?newst6 (pO _ _ _ _) (by omega) (by unfold maxLen;omega) (by omega) ?fint6
    case oldst6 =>
     intro b hb j u hu
     obtain⟨l1,l2⟩:=HCL.out b hb
     have:=l2 j u hu
     have hbk:(b.add j).block=b.block:=by unfold Addr.add;split<;>rfl
     rw[((hxm.alloc _).cell (p:=b.add j) (by rw[hbk];exact l1))]
     exact this
    case newst6 =>
     intro j u hu
     exact World.news_of_block (heap_alloc_new wm _) j u (by simpa using hu)
    case fint6 =>
     intro v' w2 hr hgb
     obtain⟨av,cv,rfl⟩:=lZ hr
     have hwl:=hxm.size
     have hsz:w.heap.size+1≤w2.heap.size:=by
      have h1:=hgb.size
      rw[World.size_alloc]at h1
      omega
     have hbl:∀n,n<w.heap.size→w2.heap[n]?=w.heap[n]?:=fun n hn'=>(hgb.block n (by rw[World.size_alloc];omega) (by simp)).trans ((heap_alloc_old _ _ (by omega)).trans (hxm.block n hn'))
     have hr0:w2.ownsRow w.heap.size 71 18 (.slice av (B.no+1) cv) (B.no+1) (B.os++dB k (aZ B k kind)):=by
      obtain⟨z1,z2⟩:=hr
      refine⟨z1,?_⟩
      rcases z2 with z2|⟨g3,c3,cu3,e1,e2,e3⟩
      ·exact .inl z2
      ·exact .inr ⟨g3,c3,cu3,e1,by rw[World.size_alloc]at e2;omega,e3⟩
     have HBf:=hD (H.out.sended (k:=k) (kind:=kind) HHD.out (by omega) hbl hr0)
     have hq3:Mut F w w2:=⟨hgb.os.trans hxm.os,hgb.tape.trans hxm.tape,hgb.output.trans hxm.output,by omega,fun n hn' _=>hbl n hn'⟩
     have c18':w2.cell? ⟨X,18,none⟩=some (.slice ao B.no cp):=(World.cell?_of_block (hbl X hX)).trans C18.out
     have f18':w2.frozen? ⟨X,18,none⟩=false:=frozen_of_row _ _ _ _ _ ((hbl X hX).trans HAX.out)
     refine hK.out _ _ hq3 (fun hHeld=>?_)
     try simp only[ps]
     clear hK K hHeld
     refine aH 16 X 0 rfl hq3 ?_
     refine aH 17 X 18 rfl hq3 ?_
     refine bB (i:=18) rfl rfl (by kernel_rfl) (fun K hK=>?_)
     go_simp
     have hq4:=hq3.setCell (p:=⟨X,18,none⟩) (.inl hF1) (.slice av (B.no+1) cv)
     refine hK.out _ _ hq4 (fun hHeld=>?_)
     try simp only[ps]
     clear hK K hHeld
     refine wpAnyH_done (by kernel_rfl) ?_ _
     have HQ4:=hD hq4
     clear hr hr0 hq0 hq1 hq2 hq3 hq4 hqx hxm hgb c18' f18' hwl
     have hsz2:w2.heap.size=(w2.setCell ⟨X,18,none⟩ (.slice av (B.no+1) cv)).heap.size:=by simp
     rw[hsz2]at HBf
     clear hsz2 hbl hsz
     generalize w2.setCell ⟨X,18,none⟩ (.slice av (B.no+1) cv)=w3 at *
     have hF3:=HBf.out.F2
     obtain⟨hXl,hgl,hne3⟩:=HBf.out.lt
     have d31:=(HBf.out.cellg (i:=k*89+31) (bZ hk (by decide))).trans (ho.gb hk 31 rfl)
     have d48:=(HBf.out.cellg (i:=k*89+48) (bZ hk (by decide))).trans (ho.gb hk 48 rfl)
     have d14:=(HBf.out.cellg (i:=k*89+14) (bZ hk (by decide))).trans (ho.gi hk 14 rfl)
     have hfr:=HBf.out.frozen
     obtain⟨cap4,c17,hca4,hcb4⟩:=HBf.out.cell17 HSO.out
     have hp14:=P14.out
     have c17:w3.cell? ⟨X,17,none⟩=some (.slice (some ⟨g,0,none⟩) B.np cap4):=c17
     by_cases k1:kind=1
     ·have e1:(kind != 1)=false:=by simpa using k1
      have HB9:=hD ((HBf.out.setp (k:=k) (j:=31) hk (by decide) (.bool false)).setp (k:=k) (j:=14) hk (by decide) (.int .i64 (B.gi k 14+1)))
      have HM9:=hD ((HQ4.out.setCell (p:=⟨g,k*89+31,none⟩) (.inl hF2) (.bool false)).setCell (p:=⟨g,k*89+14,none⟩) (.inl hF2) (.int .i64 (B.gi k 14+1)))
      go_wp2_with fail
      go_end0
      unfold dZ
      rw[if_pos k1]
      exact⟨rfl,HB9.out.mono (fun n hn=>hn.imp id (fun h2=>⟨h2.1,by simp only[World.size_setCell];exact h2.2⟩)),HM9.out⟩
     ·have e1:(kind != 1)=true:=by simpa using k1
      have HB9:=hD (((HBf.out.setp (k:=k) (j:=31) hk (by decide) (.bool false)).setp (k:=k) (j:=48) hk (by decide) (.bool false)).setp (k:=k) (j:=14) hk (by decide) (.int .i64 (B.gi k 14+1)))
      have HM9:=hD (((HQ4.out.setCell (p:=⟨g,k*89+31,none⟩) (.inl hF2) (.bool false)).setCell (p:=⟨g,k*89+48,none⟩) (.inl hF2) (.bool false)).setCell (p:=⟨g,k*89+14,none⟩) (.inl hF2) (.int .i64 (B.gi k 14+1)))
      go_wp2_with fail
      go_end0
      unfold dZ
      rw[if_neg k1]
      exact⟨rfl,HB9.out.mono (fun n hn=>hn.imp id (fun h2=>⟨h2.1,by simp only[World.size_setCell];exact h2.2⟩)),HM9.out⟩
 case g9x1 =>
  try simp only[ps]
  refine wpAnyH_ready (by kernel_rfl) (by simp) (pN (i:=4) (v:=(.slice ao B.no cp)) rfl (aA rfl 32 _ rfl ⟨X,18,none⟩ rfl (.slice ao B.no cp) _ (fun W' hW'=>by rw[hW'];exact(hqx.cell (p:=⟨X,18,none⟩) hX).trans C18.out) Tryz.underlying32 rfl) hq0 ?g4x7 (AllReadyH.nil))
  case g4x7 =>
   try simp only[ps]
   refine wpAnyH_ready (by kernel_rfl) (by simp) (xS (i:=5) rfl rfl ?g5x8 (AllReadyH.nil))
   case g5x8 =>
    intro K hK
    go_simp
    refine(sW ao B.no cp hcp hcm H0.out _).mono ?_
    rintro e w9 ⟨rfl,rfl⟩
    refine hK.out _ _ hq0 (fun hHeld=>?_)
    try simp only[ps]
    clear hK K hHeld
    refine bB (i:=12) rfl rfl (by kernel_rfl) (fun K hK=>?_)
    go_simp
    refine(xR C B _ (HCb.out.ext hqx) ho k hk kind).mono ?_
    rintro e wm ⟨rfl,hxm0⟩
    have hxm:=hqx.trans hxm0
    clear hxm0
    have hq1:Mut F w wm:=hxm.mut _
    refine hK.out _ _ hq1 (fun hHeld=>?_)
    try simp only[ps]
    clear hK K hHeld
    refine tL 13 ((.agg (dB k (aZ B k kind)).toArray)) rfl (bL rfl 71 _ rfl [(0,.int .i64 (k:Int)),(1,.agg (aZ B k kind))] rfl (dB k (aZ B k kind)).toArray HB0.out) hq1 ?_
    refine bB (i:=14) rfl rfl (by kernel_rfl) (fun K hK=>?_)
    refine wp_buildSlice 32 71 1 _ rfl (dB k (aZ B k kind)).toArray i2 (.agg SZ) Tryz.underlying32 HI.out.1 HI.out.2.1 (by rw[HI.out.2.2.1];decide) (by rw[HI.out.2.2.1];decide) (by rw[HI.out.2.2.1,Array.toList_map];exact HB1.out) ?_
    have hq2:=hq1.alloc (.cells (dB k (aZ B k kind)).toArray 71)
    refine hK.out _ _ hq2 (fun hHeld=>?_)
    try simp only[ps]
    clear hK K hHeld
    refine bB (i:=15) rfl rfl (by kernel_rfl) (fun K hK=>?_)
    refine gK rfl _ _ 32 rfl 71 i2 (.agg SZ) 18 96 Tryz.underlying32 HI.out.1 HI.out.2.1 HI.out.2.2.1 HI.out.2.2.2 rZ (by decide) ao B.no B.no B.os rfl (fun hh=>⟨(H0.out hh).1,(H0.out hh).1⟩) HLEN.out ?oldst9 ⟨wm.heap.size,0,none⟩ 1 1 (dB k (aZ B k kind)) rfl (by rw[pP]) ?newst9 (pO _ _ _ _) (by omega) (by unfold maxLen;omega) (by omega) ?fint9
    case oldst9 =>
     intro b hb j u hu
     obtain⟨l1,l2⟩:=HCL.out b hb
     have:=l2 j u hu
     have hbk:(b.add j).block=b.block:=by unfold Addr.add;split<;>rfl
     rw[((hxm.alloc _).cell (p:=b.add j) (by rw[hbk];exact l1))]
     exact this
    case newst9 =>
     intro j u hu
     exact World.news_of_block (heap_alloc_new wm _) j u (by simpa using hu)
    case fint9 =>
     intro v' w2 hr hgb
     obtain⟨av,cv,rfl⟩:=lZ hr
     have hwl:=hxm.size
     have hsz:w.heap.size+1≤w2.heap.size:=by
      have h1:=hgb.size
      rw[World.size_alloc]at h1
      omega
     have hbl:∀n,n<w.heap.size→w2.heap[n]?=w.heap[n]?:=fun n hn'=>(hgb.block n (by rw[World.size_alloc];omega) (by simp)).trans ((heap_alloc_old _ _ (by omega)).trans (hxm.block n hn'))
     have hr0:w2.ownsRow w.heap.size 71 18 (.slice av (B.no+1) cv) (B.no+1) (B.os++dB k (aZ B k kind)):=by
      obtain⟨z1,z2⟩:=hr
      refine⟨z1,?_⟩
      rcases z2 with z2|⟨g3,c3,cu3,e1,e2,e3⟩
      ·exact .inl z2
      ·exact .inr ⟨g3,c3,cu3,e1,by rw[World.size_alloc]at e2;omega,e3⟩
     have HBf:=hD (H.out.sended (k:=k) (kind:=kind) HHD.out (by omega) hbl hr0)
     have hq3:Mut F w w2:=⟨hgb.os.trans hxm.os,hgb.tape.trans hxm.tape,hgb.output.trans hxm.output,by omega,fun n hn' _=>hbl n hn'⟩
     have c18':w2.cell? ⟨X,18,none⟩=some (.slice ao B.no cp):=(World.cell?_of_block (hbl X hX)).trans C18.out
     have f18':w2.frozen? ⟨X,18,none⟩=false:=frozen_of_row _ _ _ _ _ ((hbl X hX).trans HAX.out)
     refine hK.out _ _ hq3 (fun hHeld=>?_)
     try simp only[ps]
     clear hK K hHeld
     refine aH 16 X 0 rfl hq3 ?_
     refine aH 17 X 18 rfl hq3 ?_
     refine bB (i:=18) rfl rfl (by kernel_rfl) (fun K hK=>?_)
     go_simp
     have hq4:=hq3.setCell (p:=⟨X,18,none⟩) (.inl hF1) (.slice av (B.no+1) cv)
     refine hK.out _ _ hq4 (fun hHeld=>?_)
     try simp only[ps]
     clear hK K hHeld
     refine wpAnyH_done (by kernel_rfl) ?_ _
     have HQ4:=hD hq4
     clear hr hr0 hq0 hq1 hq2 hq3 hq4 hqx hxm hgb c18' f18' hwl
     have hsz2:w2.heap.size=(w2.setCell ⟨X,18,none⟩ (.slice av (B.no+1) cv)).heap.size:=by simp
     rw[hsz2]at HBf
     clear hsz2 hbl hsz
     generalize w2.setCell ⟨X,18,none⟩ (.slice av (B.no+1) cv)=w3 at *
     have hF3:=HBf.out.F2
     obtain⟨hXl,hgl,hne3⟩:=HBf.out.lt
     have d31:=(HBf.out.cellg (i:=k*89+31) (bZ hk (by decide))).trans (ho.gb hk 31 rfl)
     have d48:=(HBf.out.cellg (i:=k*89+48) (bZ hk (by decide))).trans (ho.gb hk 48 rfl)
     have d14:=(HBf.out.cellg (i:=k*89+14) (bZ hk (by decide))).trans (ho.gi hk 14 rfl)
     have hfr:=HBf.out.frozen
     obtain⟨cap4,c17,hca4,hcb4⟩:=HBf.out.cell17 HSO.out
     have hp14:=P14.out
     have c17:w3.cell? ⟨X,17,none⟩=some (.slice (some ⟨g,0,none⟩) B.np cap4):=c17
     by_cases k1:kind=1
     ·have e1:(kind != 1)=false:=by simpa using k1
      have HB9:=hD ((HBf.out.setp (k:=k) (j:=31) hk (by decide) (.bool false)).setp (k:=k) (j:=14) hk (by decide) (.int .i64 (B.gi k 14+1)))
      have HM9:=hD ((HQ4.out.setCell (p:=⟨g,k*89+31,none⟩) (.inl hF2) (.bool false)).setCell (p:=⟨g,k*89+14,none⟩) (.inl hF2) (.int .i64 (B.gi k 14+1)))
      go_wp2_with fail
      go_end0
      unfold dZ
      rw[if_pos k1]
      exact⟨rfl,HB9.out.mono (fun n hn=>hn.imp id (fun h2=>⟨h2.1,by simp only[World.size_setCell];exact h2.2⟩)),HM9.out⟩
     ·have e1:(kind != 1)=true:=by simpa using k1
      have HB9:=hD (((HBf.out.setp (k:=k) (j:=31) hk (by decide) (.bool false)).setp (k:=k) (j:=48) hk (by decide) (.bool false)).setp (k:=k) (j:=14) hk (by decide) (.int .i64 (B.gi k 14+1)))
      have HM9:=hD (((HQ4.out.setCell (p:=⟨g,k*89+31,none⟩) (.inl hF2) (.bool false)).setCell (p:=⟨g,k*89+48,none⟩) (.inl hF2) (.bool false)).setCell (p:=⟨g,k*89+14,none⟩) (.inl hF2) (.int .i64 (B.gi k 14+1)))
      go_wp2_with fail
      go_end0
      unfold dZ
      rw[if_neg k1]
      exact⟨rfl,HB9.out.mono (fun n hn=>hn.imp id (fun h2=>⟨h2.1,by simp only[World.size_setCell];exact h2.2⟩)),HM9.out⟩
end Go.Proofs.YtpanapepcbbagaaGreat
