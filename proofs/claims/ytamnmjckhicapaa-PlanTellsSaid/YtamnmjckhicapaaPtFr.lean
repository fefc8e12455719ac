/- Part 18 of what PlanVersions stands on. No statement is proved here. -/
import Derived.Test.YtamnmjckhicapaaPtFq
namespace Go.Proofs.Ytamnmjckhicapaa
open Go.RowKit Go.BigFrame Go.WideShapes Go.ChangeShapes Go.Deep
set_option linter.unusedVariables false
set_option linter.unusedSimpArgs false
set_option maxRecDepth 100000
def NZ:Array Value:=#[.int .i64 0,.int .i64 0,.int .i64 0,.int .i64 0,.int .i64 0,.int .i64 0,.int .i64 0,.slice none 0 0,.slice none 0 0]
theorem zero_rn:∀ w,(zeroValue 32).run Try.prog w=.ok (.agg NZ) w:=(zero_of_info (P:=Try.prog) (t:=32) (v:=.agg NZ) (n:=9) (by kernel_rfl)).1
theorem size_rn:(Try.prog.info? 32).map (·.size)=some 9:=by kernel_rfl
def NDZ:Array Value:=#[.int .u64 0,.bool false,.slice none 0 0]
theorem zero_nd:∀ w,(zeroValue 63).run Try.prog w=.ok (.agg NDZ) w:=(zero_of_info (P:=Try.prog) (t:=63) (v:=.agg NDZ) (n:=3) (by kernel_rfl)).1
theorem size_nd:(Try.prog.info? 63).map (·.size)=some 3:=by kernel_rfl
def SUZ:Array Value:=#[.int .u16 0,.int .u32 0,.bool false,.bool false,.bool false]
theorem info_st:(Try.prog.info? 67).map (fun i=>(i.zero,i.size,i.bytes))=some (some (.agg SUZ),5,12):=by kernel_rfl
theorem info_rp:(Try.prog.info? 59).map (fun i=>(i.zero,i.size,i.bytes))=some (some (.agg PZ2),2,16):=by kernel_rfl
theorem info_rn:(Try.prog.info? 63).map (fun i=>(i.zero,i.size,i.bytes))=some (some (.agg NDZ),3,40):=by kernel_rfl
theorem b1_st (a b:Int) (x y z:Bool):Instr.fill (fun i=>some (i*5,5)) ((Array.range (1*5)).map (SUZ[· % SUZ.size]!)) [(0,.agg #[.int .u16 a,.int .u32 b,.bool x,.bool y,.bool z])]=some #[.int .u16 a,.int .u32 b,.bool x,.bool y,.bool z]:=by kernel_rfl
theorem b1_rp (x y:Int):Instr.fill (fun i=>some (i*2,2)) ((Array.range (1*2)).map (PZ2[· % PZ2.size]!)) [(0,.agg #[.int .i64 x,.int .i64 y])]=some #[.int .i64 x,.int .i64 y]:=by kernel_rfl
theorem bl_st (a b:Int) (z:Bool):Try.prog.built 67 [(0,.int .u16 a),(1,.int .u32 b),(4,.bool z)]=some #[.int .u16 a,.int .u32 b,.bool false,.bool false,.bool z]:=by kernel_rfl
theorem bl_rp (a b:Int):Try.prog.built 59 [(0,.int .i64 a),(1,.int .i64 b)]=some #[.int .i64 a,.int .i64 b]:=by kernel_rfl
theorem bl_nd (a:Int) (b:Bool):Try.prog.built 63 [(0,.int .u64 a),(1,.bool b)]=some #[.int .u64 a,.bool b,.slice none 0 0]:=by kernel_rfl
theorem bit1 (u:Int) (k:Nat) (h1:0≤u∧u < 256):(bits BinOp.and IntKind.u8 (u / 2 ^ k) 1 == 1)=upsF u k:=by
 have h2:0≤u / 2 ^ k:=Int.ediv_nonneg h1.1 (by exact_mod_cast Nat.zero_le _)
 have h3:u / 2 ^ k≤u:=Int.ediv_le_self _ h1.1
 obtain ⟨x,hx⟩:∃ x:Nat,u / 2 ^ k=x:=⟨(u / 2 ^ k).toNat,by omega⟩
 unfold upsF
 rw [hx]
 exact and1 x (by omega)
theorem info_seg:(Try.prog.info? 49).map (fun i=>(i.zero,i.size,i.bytes))=some (some (.slice none 0 0),1,24):=by kernel_rfl
set_option maxRecDepth 100000 in
set_option maxHeartbeats 8000000 in
theorem tiny_any (tv:Value) (t:Tn) (w:World) (ht:TinyA w tv t) :
    Calls Try.prog 10 #[tv] w fun e w'=>∃ nv sv,e=.returned (.tuple #[.agg #[.int .i64 0,.int .i64 20,.int .i64 2,.int .i64 15,.int .i64 6,.int .i64 20,.int .i64 300,nv,sv],.bool (okT t)])∧nv.oneCell'=true∧sv.oneCell'=true∧(okT t=true→NodesAt w' nv (nodesT t)∧SegsAt w' sv (segsT t))∧Ext w w':=by
 obtain ⟨pv,qv,rfl,⟨pa,pcap,rfl,hpf⟩,⟨bv',⟨qa,qcap,rfl,hqf⟩,hbb⟩,hrst,hedge⟩:=ht
 obtain ⟨pn,hpn⟩:∃ m,t.prio.length=m:=⟨_,rfl⟩
 obtain ⟨n,hn⟩:∃ m,t.ports.length=m:=⟨_,rfl⟩
 rw [hpn] at hpf ⊢
 rw [hn] at hqf hbb ⊢
 obtain ⟨i4,hi4,hz4,hs4,hb4⟩:=info_parts info_seg
 have I4:=Lib.hid (And.intro hi4 (And.intro hz4 (And.intro hs4 hb4)))
 have HPF:=Lib.hid hpf
 have HQF:=Lib.hid hqf
 have HBB:=Lib.hid hbb
 have HRS:=Lib.hid hrst
 have HED:=Lib.hid hedge
 have HPN:=Lib.hid hpn
 have HN:=Lib.hid hn
 obtain ⟨i3,hi3,hz3,hs3,hb3⟩:=info_parts info_st
 have I3:=Lib.hid (And.intro hi3 (And.intro hz3 (And.intro hs3 hb3)))
 obtain ⟨i2,hi2,hz2,hs2,hb2⟩:=info_parts info_rp
 have I2:=Lib.hid (And.intro hi2 (And.intro hz2 (And.intro hs2 hb2)))
 obtain ⟨i6,hi6,hz6,hs6,hb6⟩:=info_parts info_rn
 have I6:=Lib.hid (And.intro hi6 (And.intro hz6 (And.intro hs6 hb6)))
 clear hi3 hz3 hs3 hb3 hi2 hz2 hs2 hb2 hi6 hz6 hs6 hb6
 clear hpf hqf hbb hrst hedge hpn hn hi4 hz4 hs4 hb4
 go_enter Try.func10,Try.ntmps10
 by_cases hgt:n > 5
 ·have d1:decide ((n:Int) > 5)=true:=by simp; omega
  go_wp2_with (first
   | fail
   | ((with_reducible refine at_box 25 ?_); refine bx_row rfl 25 _ rfl #[.int .u8 t.rst,.slice pa pn pcap,.slice qa n qcap,.int .u8 t.edge] rfl ?_
      intro X wa hX hsz hx1
      have HXa:=Lib.hid (show BoxAt wa X #[.int .u8 t.rst,.slice pa pn pcap,.slice qa n qcap,.int .u8 t.edge] 25 from hX)
      have HEa:=Lib.hid hx1
      clear hX hsz hx1)
   | ((with_reducible refine at_alloc 32 ?_); have h0:=HEa.out; refine al_zero rfl 32 rfl NZ zero_rn ?_
      intro RB w1 hq hsz hx
      have HRB:=Lib.hid (show BoxAt w1 RB NZ 32 from hq)
      have HE1:=Lib.hid (HEa.out.trans hx)
      have HRW:=Lib.hid (show w.heap.size≤RB from by have:=HEa.out.size; omega)
      have HX1:=Lib.hid (HXa.out.ext hx)
      clear hq hsz hx h0 HEa HXa)
   | (at_make; refine wpList_make_row _ rfl _ _ 30 rfl 49 i4 (.slice none 0 0) Try.underlying30 I4.out.1 I4.out.2.1 I4.out.2.2.1 rfl .i64 .i64 6 rfl rfl (by rw [I4.out.2.2.2]; omega) (by omega) ?_
      have hy:Ext w1 (w1.alloc (.cells (madeCells #[.slice none 0 0] 6) 49)):=(Ext.refl _).alloc _
      have hq:=heap_alloc_new w1 (.cells (madeCells #[.slice none 0 0] 6) 49)
      obtain ⟨w2,hw2⟩:∃ w2,w1.alloc (.cells (madeCells #[.slice none 0 0] 6) 49)=w2:=⟨_,rfl⟩
      obtain ⟨SB,hT⟩:∃ T,w1.heap.size=T:=⟨_,rfl⟩
      rw [hw2] at hy hq ⊢
      rw [hT] at hq ⊢
      rw [made_rep] at hq
      have HSB:=Lib.hid hq
      have HE2:=Lib.hid hy
      have HSW1:=Lib.hid (show w1.heap.size≤SB from Nat.le_of_eq hT)
      clear hy hq hw2 hT)
   | ((with_reducible refine at_alloc 32 ?_); have h0:=HE2.out; refine al_zero rfl 32 rfl NZ zero_rn ?_
      intro XB w3 hq3 hsz3 hx3)
   | ((with_reducible refine at_store 32 ?_); refine st_at rfl rfl 32 _ _ rfl XB 0 _ #[.int .i64 0,.int .i64 20,.int .i64 2,.int .i64 15,.int .i64 6,.int .i64 20,.int .i64 300,.slice none 0 0,.slice (some ⟨SB,0,none⟩) 6 6] NZ #[.int .i64 0,.int .i64 20,.int .i64 2,.int .i64 15,.int .i64 6,.int .i64 20,.int .i64 300,.slice none 0 0,.slice (some ⟨SB,0,none⟩) 6 6] 32 rfl rfl rfl hq3 (by exact (by decide:0+9≤9)) (by kernel_rfl) rfl rfl ?_
      intro w4 hq4 hm4
      have hx24:Ext w2 w4:=hx3.mutE hm4 (fun g hg h=>by have h2:g=XB:=h; omega)
      have HE4:=Lib.hid (HE2.out.trans hx24)
      have HXB:=Lib.hid (show BoxAt w4 XB #[.int .i64 0,.int .i64 20,.int .i64 2,.int .i64 15,.int .i64 6,.int .i64 20,.int .i64 300,.slice none 0 0,.slice (some ⟨SB,0,none⟩) 6 6] 32 from hq4)
      have HSB4:=Lib.hid ((hx24.block SB (heap_lt HSB.out)).trans HSB.out)
      have HXS:=Lib.hid (show SB < XB∧w1.heap.size≤XB from by
       have h1:=heap_lt HSB.out
       have h2:=HE2.out.size
       exact ⟨by omega,by omega⟩)
      have c2:w4.cell? ⟨X,2,none⟩=some (.slice qa n qcap):=(HX1.out.ext HE4.out).cell 2 rfl
      clear hq3 hsz3 hx3 hq4 hm4 hx24 h0 HE2 HSB)
   | ((with_reducible refine at_load 32 ?_); refine wpList_load_row rfl 32 _ rfl XB rfl 32 #[.int .i64 0,.int .i64 20,.int .i64 2,.int .i64 15,.int .i64 6,.int .i64 20,.int .i64 300,.slice none 0 0,.slice (some ⟨SB,0,none⟩) 6 6] (0,0) _ HXB.out Try.underlying32 rfl size_rn ?_)
   | ((with_reducible refine at_store 32 ?_); refine st_at rfl rfl 32 _ _ rfl RB 0 _ #[.int .i64 0,.int .i64 20,.int .i64 2,.int .i64 15,.int .i64 6,.int .i64 20,.int .i64 300,.slice none 0 0,.slice (some ⟨SB,0,none⟩) 6 6] NZ #[.int .i64 0,.int .i64 20,.int .i64 2,.int .i64 15,.int .i64 6,.int .i64 20,.int .i64 300,.slice none 0 0,.slice (some ⟨SB,0,none⟩) 6 6] 32 rfl rfl rfl (HRB.out.ext HE4.out) (by exact (by decide:0+9≤9)) (by kernel_rfl) (rfl) rfl ?_
      intro wz hqz hmz
      have HRZ:=Lib.hid hqz
      have HMZ:=Lib.hid hmz
      clear hqz hmz))
  refine bodyPost_ret (results_crt rfl _ _ RB _ _ (0,0) _ rfl HRZ.out Try.underlying32 rfl size_rn) rfl ?_
  have hX:=(HE1.out.trans HE4.out).mutE HMZ.out (fun g h1 h2=>by have h3:g=RB:=h2; have h4:=HRW.out; omega)
  have hok:okT t=false:=by
   unfold okT
   rw [decide_eq_false_iff_not,HN.out]
   omega
  refine ⟨_,_,by rw [hok]; rfl,rfl,rfl,?_,hX⟩
  intro h
  rw [hok] at h
  cases h
 ·have d1:decide ((n:Int) > 5)=false:=by simp; omega
  by_cases hlt1:n < 1
  ·have d2:decide ((n:Int) < 1)=true:=by simp; omega
   go_wp2_with (first
    | fail
    | ((with_reducible refine at_box 25 ?_); refine bx_row rfl 25 _ rfl #[.int .u8 t.rst,.slice pa pn pcap,.slice qa n qcap,.int .u8 t.edge] rfl ?_
       intro X wa hX hsz hx1
       have HXa:=Lib.hid (show BoxAt wa X #[.int .u8 t.rst,.slice pa pn pcap,.slice qa n qcap,.int .u8 t.edge] 25 from hX)
       have HEa:=Lib.hid hx1
       clear hX hsz hx1)
    | ((with_reducible refine at_alloc 32 ?_); have h0:=HEa.out; refine al_zero rfl 32 rfl NZ zero_rn ?_
       intro RB w1 hq hsz hx
       have HRB:=Lib.hid (show BoxAt w1 RB NZ 32 from hq)
       have HE1:=Lib.hid (HEa.out.trans hx)
       have HRW:=Lib.hid (show w.heap.size≤RB from by have:=HEa.out.size; omega)
       have HX1:=Lib.hid (HXa.out.ext hx)
       clear hq hsz hx h0 HEa HXa)
    | (at_make; refine wpList_make_row _ rfl _ _ 30 rfl 49 i4 (.slice none 0 0) Try.underlying30 I4.out.1 I4.out.2.1 I4.out.2.2.1 rfl .i64 .i64 6 rfl rfl (by rw [I4.out.2.2.2]; omega) (by omega) ?_
       have hy:Ext w1 (w1.alloc (.cells (madeCells #[.slice none 0 0] 6) 49)):=(Ext.refl _).alloc _
       have hq:=heap_alloc_new w1 (.cells (madeCells #[.slice none 0 0] 6) 49)
       obtain ⟨w2,hw2⟩:∃ w2,w1.alloc (.cells (madeCells #[.slice none 0 0] 6) 49)=w2:=⟨_,rfl⟩
       obtain ⟨SB,hT⟩:∃ T,w1.heap.size=T:=⟨_,rfl⟩
       rw [hw2] at hy hq ⊢
       rw [hT] at hq ⊢
       rw [made_rep] at hq
       have HSB:=Lib.hid hq
       have HE2:=Lib.hid hy
       have HSW1:=Lib.hid (show w1.heap.size≤SB from Nat.le_of_eq hT)
       clear hy hq hw2 hT)
    | ((with_reducible refine at_alloc 32 ?_); have h0:=HE2.out; refine al_zero rfl 32 rfl NZ zero_rn ?_
       intro XB w3 hq3 hsz3 hx3)
    | ((with_reducible refine at_store 32 ?_); refine st_at rfl rfl 32 _ _ rfl XB 0 _ #[.int .i64 0,.int .i64 20,.int .i64 2,.int .i64 15,.int .i64 6,.int .i64 20,.int .i64 300,.slice none 0 0,.slice (some ⟨SB,0,none⟩) 6 6] NZ #[.int .i64 0,.int .i64 20,.int .i64 2,.int .i64 15,.int .i64 6,.int .i64 20,.int .i64 300,.slice none 0 0,.slice (some ⟨SB,0,none⟩) 6 6] 32 rfl rfl rfl hq3 (by exact (by decide:0+9≤9)) (by kernel_rfl) rfl rfl ?_
       intro w4 hq4 hm4
       have hx24:Ext w2 w4:=hx3.mutE hm4 (fun g hg h=>by have h2:g=XB:=h; omega)
       have HE4:=Lib.hid (HE2.out.trans hx24)
       have HXB:=Lib.hid (show BoxAt w4 XB #[.int .i64 0,.int .i64 20,.int .i64 2,.int .i64 15,.int .i64 6,.int .i64 20,.int .i64 300,.slice none 0 0,.slice (some ⟨SB,0,none⟩) 6 6] 32 from hq4)
       have HSB4:=Lib.hid ((hx24.block SB (heap_lt HSB.out)).trans HSB.out)
       have HXS:=Lib.hid (show SB < XB∧w1.heap.size≤XB from by
        have h1:=heap_lt HSB.out
        have h2:=HE2.out.size
        exact ⟨by omega,by omega⟩)
       have c2:w4.cell? ⟨X,2,none⟩=some (.slice qa n qcap):=(HX1.out.ext HE4.out).cell 2 rfl
       clear hq3 hsz3 hx3 hq4 hm4 hx24 h0 HE2 HSB)
    | ((with_reducible refine at_load 32 ?_); refine wpList_load_row rfl 32 _ rfl XB rfl 32 #[.int .i64 0,.int .i64 20,.int .i64 2,.int .i64 15,.int .i64 6,.int .i64 20,.int .i64 300,.slice none 0 0,.slice (some ⟨SB,0,none⟩) 6 6] (0,0) _ HXB.out Try.underlying32 rfl size_rn ?_)
    | ((with_reducible refine at_store 32 ?_); refine st_at rfl rfl 32 _ _ rfl RB 0 _ #[.int .i64 0,.int .i64 20,.int .i64 2,.int .i64 15,.int .i64 6,.int .i64 20,.int .i64 300,.slice none 0 0,.slice (some ⟨SB,0,none⟩) 6 6] NZ #[.int .i64 0,.int .i64 20,.int .i64 2,.int .i64 15,.int .i64 6,.int .i64 20,.int .i64 300,.slice none 0 0,.slice (some ⟨SB,0,none⟩) 6 6] 32 rfl rfl rfl (HRB.out.ext HE4.out) (by exact (by decide:0+9≤9)) (by kernel_rfl) (rfl) rfl ?_
       intro wz hqz hmz
       have HRZ:=Lib.hid hqz
       have HMZ:=Lib.hid hmz
       clear hqz hmz))
   refine bodyPost_ret (results_crt rfl _ _ RB _ _ (0,0) _ rfl HRZ.out Try.underlying32 rfl size_rn) rfl ?_
   have hX:=(HE1.out.trans HE4.out).mutE HMZ.out (fun g h1 h2=>by have h3:g=RB:=h2; have h4:=HRW.out; omega)
   have hok:okT t=false:=by
    unfold okT
    rw [decide_eq_false_iff_not,HN.out]
    omega
   refine ⟨_,_,by rw [hok]; rfl,rfl,rfl,?_,hX⟩
   intro h
   rw [hok] at h
   cases h
  ·have d2:decide ((n:Int) < 1)=false:=by simp; omega
   go_wp2_with (first
    | fail
    | ((with_reducible refine at_box 25 ?_); refine bx_row rfl 25 _ rfl #[.int .u8 t.rst,.slice pa pn pcap,.slice qa n qcap,.int .u8 t.edge] rfl ?_
       intro X wa hX hsz hx1
       have HXa:=Lib.hid (show BoxAt wa X #[.int .u8 t.rst,.slice pa pn pcap,.slice qa n qcap,.int .u8 t.edge] 25 from hX)
       have HEa:=Lib.hid hx1
       clear hX hsz hx1)
    | ((with_reducible refine at_alloc 32 ?_); have h0:=HEa.out; refine al_zero rfl 32 rfl NZ zero_rn ?_
       intro RB w1 hq hsz hx
       have HRB:=Lib.hid (show BoxAt w1 RB NZ 32 from hq)
       have HE1:=Lib.hid (HEa.out.trans hx)
       have HRW:=Lib.hid (show w.heap.size≤RB from by have:=HEa.out.size; omega)
       have HX1:=Lib.hid (HXa.out.ext hx)
       clear hq hsz hx h0 HEa HXa)
    | (at_make; refine wpList_make_row _ rfl _ _ 30 rfl 49 i4 (.slice none 0 0) Try.underlying30 I4.out.1 I4.out.2.1 I4.out.2.2.1 rfl .i64 .i64 6 rfl rfl (by rw [I4.out.2.2.2]; omega) (by omega) ?_
       have hy:Ext w1 (w1.alloc (.cells (madeCells #[.slice none 0 0] 6) 49)):=(Ext.refl _).alloc _
       have hq:=heap_alloc_new w1 (.cells (madeCells #[.slice none 0 0] 6) 49)
       obtain ⟨w2,hw2⟩:∃ w2,w1.alloc (.cells (madeCells #[.slice none 0 0] 6) 49)=w2:=⟨_,rfl⟩
       obtain ⟨SB,hT⟩:∃ T,w1.heap.size=T:=⟨_,rfl⟩
       rw [hw2] at hy hq ⊢
       rw [hT] at hq ⊢
       rw [made_rep] at hq
       have HSB:=Lib.hid hq
       have HE2:=Lib.hid hy
       have HSW1:=Lib.hid (show w1.heap.size≤SB from Nat.le_of_eq hT)
       clear hy hq hw2 hT)
    | ((with_reducible refine at_alloc 32 ?_); have h0:=HE2.out; refine al_zero rfl 32 rfl NZ zero_rn ?_
       intro XB w3 hq3 hsz3 hx3)
    | ((with_reducible refine at_store 32 ?_); refine st_at rfl rfl 32 _ _ rfl XB 0 _ #[.int .i64 0,.int .i64 20,.int .i64 2,.int .i64 15,.int .i64 6,.int .i64 20,.int .i64 300,.slice none 0 0,.slice (some ⟨SB,0,none⟩) 6 6] NZ #[.int .i64 0,.int .i64 20,.int .i64 2,.int .i64 15,.int .i64 6,.int .i64 20,.int .i64 300,.slice none 0 0,.slice (some ⟨SB,0,none⟩) 6 6] 32 rfl rfl rfl hq3 (by exact (by decide:0+9≤9)) (by kernel_rfl) rfl rfl ?_
       intro w4 hq4 hm4
       have hx24:Ext w2 w4:=hx3.mutE hm4 (fun g hg h=>by have h2:g=XB:=h; omega)
       have HE4:=Lib.hid (HE2.out.trans hx24)
       have HXB:=Lib.hid (show BoxAt w4 XB #[.int .i64 0,.int .i64 20,.int .i64 2,.int .i64 15,.int .i64 6,.int .i64 20,.int .i64 300,.slice none 0 0,.slice (some ⟨SB,0,none⟩) 6 6] 32 from hq4)
       have HSB4:=Lib.hid ((hx24.block SB (heap_lt HSB.out)).trans HSB.out)
       have HXS:=Lib.hid (show SB < XB∧w1.heap.size≤XB from by
        have h1:=heap_lt HSB.out
        have h2:=HE2.out.size
        exact ⟨by omega,by omega⟩)
       have c2:w4.cell? ⟨X,2,none⟩=some (.slice qa n qcap):=(HX1.out.ext HE4.out).cell 2 rfl
       clear hq3 hsz3 hx3 hq4 hm4 hx24 h0 HE2 HSB))
   obtain ⟨B,hB⟩:∃ B,w4.heap.size=B:=⟨_,rfl⟩
   have HB:=Lib.hid hB
   have HXBB:=Lib.hid (show XB < B from by rw [← hB]; exact heap_lt HXB.out)
   have HB1:=Lib.hid (show w1.heap.size≤B from by rw [← hB]; exact HE4.out.size)
   clear hB c2
   go_loopw [5] (fun s wr=>∃ (i:Nat) (F:Nat→OS) (wo:World),wo=wr∧s=.int .i64 i∧i≤n∧(∀ j,j < i→(t.ports.getD j []).length≤4)∧BoxAt wo XB #[.int .i64 0,.int .i64 20,.int .i64 2,.int .i64 15,.int .i64 6,.int .i64 20,.int .i64 300,(F 0).v,.slice (some ⟨SB,0,none⟩) 6 6] 32∧wo.heap[SB]?=some (.cells ((List.range 6).map (fun s=>(F (1+s)).v)).toArray 49 (0,0))∧Fam wo B (7+i) F∧FamT 63 67 59 F t i (segN t i)∧Ext w1 wo∧B≤wo.heap.size) (fun s _=>n - (intOf s).toNat)
   case atStart=>exact ⟨0,F0T 63 59,_,rfl,rfl,by omega,fun j hj=>by omega,HXB.out,by rw [F0T_row]; exact HSB4.out,F0T_fam _ _ _ _,F0T_t _ _ _ _,HE4.out,Nat.le_of_eq HB.out.symm⟩
   case round =>
    clear HXB HSB4
    obtain ⟨i,F,wo,rfl,rfl,hi,hls,hxb,hsb,hfm,hft,hx,hbl⟩:=hrel
    rename World=>wl
    have HXB:=Lib.hid hxb
    have HSB:=Lib.hid hsb
    have HFM:=Lib.hid hfm
    have HFT:=Lib.hid hft
    have HXL:=Lib.hid hx
    have HLS:=Lib.hid hls
    have HBL:=Lib.hid hbl
    clear hbl
    clear hxb hsb hfm hft hx hls
    have c0:wl.cell? ⟨X,0,none⟩=some (.int .u8 t.rst):=(HX1.out.ext HXL.out).cell 0 rfl
    have c1:wl.cell? ⟨X,1,none⟩=some (.slice pa pn pcap):=(HX1.out.ext HXL.out).cell 1 rfl
    have c2:wl.cell? ⟨X,2,none⟩=some (.slice qa n qcap):=(HX1.out.ext HXL.out).cell 2 rfl
    by_cases hlt:i < n
    ·have dlt:decide ((i:Int) < (n:Int))=true:=by simp; omega
     have hup:IntKind.i64.wrap ((i:Int)+1)=((i+1:Nat):Int):=by rw [IntKind.wrap_i64]; omega
     have hup2:IntKind.u64.wrap ((i+1:Nat):Int)=((i+1:Nat):Int):=by rw [IntKind.wrap_u64]; omega
     obtain ⟨qb,qo,rfl,hqb,hqc⟩:=HQF.out (by omega)
     obtain ⟨l,hl⟩:∃ l,t.ports.getD i []=l:=⟨_,rfl⟩
     have hby:=HBB.out i hlt
     rw [hl] at hby
     obtain ⟨la,lcap,hle,hlf⟩:=hby
     obtain ⟨ln,hln⟩:∃ m,l.length=m:=⟨_,rfl⟩
     rw [hln] at hle hlf
     have cq:wl.cell? ⟨qb,qo+i,none⟩=some (.slice la ln lcap):=by
      rw [← hle]
      exact ((HE1.out.trans HXL.out).cell hqb).trans (hqc i hlt)
     by_cases h4:ln > 4
     ·have d4:decide ((ln:Int) > 4)=true:=by simp; omega
      have hn0:=HFM.out.1 0 (by omega)
      rw [HFT.out.nd] at hn0
      have hn1:wl.ownsRow B 63 3 (F 0).v i (ncL t (fun j=>(F (7+j)).v) i):=hn0
      have hone:(F 0).v.oneCell'=true:=by
       obtain ⟨a,c,e⟩:=own_form2 hn1
       rw [e]
       rfl
      have HONE:=Lib.hid hone
      have HRBL:=Lib.hid (HRB.out.ext HXL.out)
      have hones:(#[.int .i64 0,.int .i64 20,.int .i64 2,.int .i64 15,.int .i64 6,.int .i64 20,.int .i64 300,(F 0).v,.slice (some ⟨SB,0,none⟩) 6 6]:Array Value).toList.all (·.oneCell')=true:=by
       show (true && (true && (true && (true && (true && (true && (true && ((F 0).v.oneCell' && true))))))))=true
       rw [hone]
       rfl
      have HONS:=Lib.hid hones
      clear hn0 hn1 hone hones
      go_wp2_with (first
       | fail
       | ((with_reducible refine at_load 32 ?_); refine wpList_load_row rfl 32 _ rfl XB rfl 32 #[.int .i64 0,.int .i64 20,.int .i64 2,.int .i64 15,.int .i64 6,.int .i64 20,.int .i64 300,(F 0).v,.slice (some ⟨SB,0,none⟩) 6 6] (0,0) _ HXB.out Try.underlying32 rfl size_rn ?_)
       | ((with_reducible refine at_store 32 ?_); refine st_at rfl rfl 32 _ _ rfl RB 0 _ #[.int .i64 0,.int .i64 20,.int .i64 2,.int .i64 15,.int .i64 6,.int .i64 20,.int .i64 300,(F 0).v,.slice (some ⟨SB,0,none⟩) 6 6] NZ #[.int .i64 0,.int .i64 20,.int .i64 2,.int .i64 15,.int .i64 6,.int .i64 20,.int .i64 300,(F 0).v,.slice (some ⟨SB,0,none⟩) 6 6] 32 rfl rfl rfl HRBL.out (by exact (by decide:0+9≤9)) (by kernel_rfl) (HONS.out) rfl ?_
          intro wz hqz hmz
          have HRZ:=Lib.hid hqz
          have HMZ:=Lib.hid hmz
          clear hqz hmz))
      refine bodyPost_ret (results_crt rfl _ _ RB _ _ (0,0) _ rfl HRZ.out Try.underlying32 rfl size_rn) rfl ?_
      have hX:=(HE1.out.trans HXL.out).mutE HMZ.out (fun g h1 h2=>by have h3:g=RB:=h2; have h4:=HRW.out; omega)
      have hok:okT t=false:=by
       unfold okT
       rw [decide_eq_false_iff_not,HN.out]
       rintro ⟨_,_,h⟩
       have hil:i < t.ports.length:=by rw [HN.out]; exact hlt
       have h2:=h (t.ports.getD i []) (by rw [List.getD_eq_getElem?_getD,List.getElem?_eq_getElem hil]; exact List.getElem_mem hil)
       rw [hl,hln] at h2
       omega
      refine ⟨_,_,by rw [hok]; rfl,HONE.out,rfl,?_,hX⟩
      intro h
      rw [hok] at h
      cases h
     ·have d4:decide ((ln:Int) > 4)=false:=by simp; omega
      obtain ⟨rb,hrb⟩:∃ rb,(bits BinOp.and IntKind.u8 (t.rst / 2 ^ i) 1 == 1)=rb:=⟨_,rfl⟩
      have hrb2:rb=upsF t.rst i:=by rw [← hrb]; exact bit1 _ _ HRS.out
      have HRB1:=Lib.hid hrb
      have HRB2:=Lib.hid hrb2
      obtain ⟨pc,hpc⟩:∃ c,decide ((i:Int) < (pn:Int))=c:=⟨_,rfl⟩
      clear hrb hrb2
      go_upto_if 52 with (first
          | fail
          | ((with_reducible refine at_build 63 ?_); rw [HRB1.out]; refine wpList_build2 rfl 63 _ rfl [(0,.int .u64 ((i:Int)+1)),(1,.bool rb)] rfl #[.int .u64 ((i:Int)+1),.bool rb,.slice none 0 0] (bl_nd _ _) ?_)
          | ((with_reducible refine at_alloc 63 ?_); refine al_zero rfl 63 rfl NDZ zero_nd ?_
             intro G wg hq5 hsz5 hx5)
          | ((with_reducible refine at_store 63 ?_); refine st_at rfl rfl 63 _ _ rfl G 0 _ #[.int .u64 ((i:Int)+1),.bool rb,.slice none 0 0] NDZ #[.int .u64 ((i:Int)+1),.bool rb,.slice none 0 0] 63 rfl rfl rfl hq5 (by exact (by decide:0+3≤3)) (by kernel_rfl) rfl rfl ?_
             intro wh hqh hmh
             have E5:Ext wl wh:=hx5.mutE hmh (fun g hg h=>by have h2:g=G:=h; omega)
             have HG:=Lib.hid (show BoxAt wh G #[.int .u64 ((i:Int)+1),.bool rb,.slice none 0 0] 63 from hqh)
             have HX5:=Lib.hid E5
             have HGW:=Lib.hid (show wl.heap.size≤G from Nat.le_of_eq hsz5)
             have c1:wh.cell? ⟨X,1,none⟩=some (.slice pa pn pcap):=(HX1.out.ext (HXL.out.trans E5)).cell 1 rfl
             clear hq5 hsz5 hx5 hqh hmh E5 wg))
      have HPC:=Lib.hid hpc
      clear hpc
      go_cut [6] from 53 to 63 (fun s wx=>s=.pointer (some ⟨G,0,none⟩)∧BoxAt wx G #[.int .u64 (idT t i),.bool (upsF t.rst i),.slice none 0 0] 63∧Ext wl wx)
      case rest =>
       obtain ⟨rfl,hg,hx⟩:=hcut
       rename World=>w5
       have HGB:=Lib.hid hg
       have HXC:=Lib.hid hx
       have HGW2:=Lib.hid (show B≤G from by have h1:=HGW.out; have h2:=HBL.out; omega)
       have HX5L:=Lib.hid (HXL.out.trans hx)
       have HXB5:=Lib.hid (HXB.out.ext hx)
       have HSB5:=Lib.hid ((hx.block SB (heap_lt HSB.out)).trans HSB.out)
       have HFM5:=Lib.hid ((HFM.out.ext hx).nil 67 5)
       have HFT5:=Lib.hid (show FamT 63 67 59 (upd F (7+i) ⟨.slice none 0 0,67,5,0,[]⟩) t i (segN t i) from HFT.out.port)
       have HNE5:=Lib.hid (show ∀ j,j < 7+i+1→∀ g,(upd F (7+i) ⟨.slice none 0 0,67,5,0,[]⟩ j).v.ownBlock=some g→g ≠ G from fun j hj g h1 e=>by
        by_cases hji:j=7+i
        ·subst hji; rw [upd_same] at h1; simp [Value.ownBlock] at h1
        ·rw [upd_other hji] at h1
         have h2:=(own_lt2 (HFM.out.1 j (by omega)) h1).2
         have h3:=HGW.out
         omega)
       have hnv:(F 0).v=(upd F (7+i) (⟨.slice none 0 0,67,5,0,[]⟩:OS) 0).v:=by rw [upd_other (by omega)]
       have hnw:((List.range 6).map (fun s=>(F (1+s)).v))=((List.range 6).map (fun s=>(upd F (7+i) (⟨.slice none 0 0,67,5,0,[]⟩:OS) (1+s)).v)):=List.map_congr_left (fun s hs=>by rw [upd_other (by have:=List.mem_range.1 hs; omega)])
       rw [hnv] at HXB5
       rw [hnw] at HSB5
       have HG5:=Lib.hid (show BoxAt w5 G #[.int .u64 (idT t i),.bool (upsF t.rst i),(upd F (7+i) (⟨.slice none 0 0,67,5,0,[]⟩:OS) (7+i)).v] 63 from by rw [upd_same]; exact hg)
       have HK5:=Lib.hid (show upd F (7+i) (⟨.slice none 0 0,67,5,0,[]⟩:OS) (7+i)=⟨(upd F (7+i) (⟨.slice none 0 0,67,5,0,[]⟩:OS) (7+i)).v,67,5,0,flatT ((List.range 0).map (ptT t i))⟩ from by rw [upd_same]; rfl)
       obtain ⟨F5,hF5⟩:∃ F5,upd F (7+i) (⟨.slice none 0 0,67,5,0,[]⟩:OS)=F5:=⟨_,rfl⟩
       rw [hF5] at HFM5 HFT5 HNE5 HXB5 HSB5 HG5 HK5
       obtain ⟨id,hid⟩:∃ id,idT t i=id:=⟨_,rfl⟩
       have HIDT:=Lib.hid hid
       rw [hid] at HG5
       clear hg hx hnv hnw hF5 hid HXB HSB HFM HFT HGB HXC
       go_wp2_with fail
       go_loopw [7] (fun s wr=>∃ (k:Nat) (F:Nat→OS) (wo:World),wo=wr∧s=.int .i64 k∧k≤ln∧BoxAt wo XB #[.int .i64 0,.int .i64 20,.int .i64 2,.int .i64 15,.int .i64 6,.int .i64 20,.int .i64 300,(F 0).v,.slice (some ⟨SB,0,none⟩) 6 6] 32∧wo.heap[SB]?=some (.cells ((List.range 6).map (fun s=>(F (1+s)).v)).toArray 49 (0,0))∧BoxAt wo G #[.int .u64 id,.bool rb,(F (7+i)).v] 63∧Fam wo B (7+i+1) F∧FamT 63 67 59 F t i (segI l i (segN t i) k)∧F (7+i)=⟨(F (7+i)).v,67,5,k,flatT ((List.range k).map (ptT t i))⟩∧(∀ j,j < 7+i+1→∀ g,(F j).v.ownBlock=some g→g ≠ G)∧Ext w1 wo∧G < wo.heap.size) (fun s _=>ln - (intOf s).toNat)
       case atStart=>exact ⟨0,F5,_,rfl,rfl,by omega,HXB5.out,HSB5.out,by rw [HRB2.out]; exact HG5.out,HFM5.out,HFT5.out,HK5.out,HNE5.out,HX5L.out,heap_lt HG5.out⟩
       case round =>
        clear HXB5 HSB5 HG5 HFM5 HFT5 HK5 HNE5 HX5L
        obtain ⟨k,F6,wo,rfl,rfl,hk,hxb,hsb,hgb,hfm,hft,hkk,hne,hx,hgl⟩:=hrel
        rename World=>wl
        have ho:=hfm.1 (7+i) (by omega)
        rw [hkk] at ho
        have ho2:wl.ownsRow B 67 5 (F6 (7+i)).v k (flatT ((List.range k).map (ptT t i))):=ho
        obtain ⟨u,hu⟩:∃ u,(F6 (7+i)).v=u:=⟨_,rfl⟩
        rw [hu] at ho2 hgb
        obtain ⟨a3,c3,rfl⟩:=own_form2 ho2
        have HUV:=Lib.hid hu
        have HO:=Lib.hid ho2
        have HXB:=Lib.hid hxb
        have HSB:=Lib.hid hsb
        have HGB:=Lib.hid hgb
        have HFM:=Lib.hid hfm
        have HFT:=Lib.hid hft
        have HKK:=Lib.hid hkk
        have HNE:=Lib.hid hne
        have HXL:=Lib.hid hx
        have HGL:=Lib.hid hgl
        have HBL:=Lib.hid (show B≤wl.heap.size from by have:=HGW2.out; omega)
        have c2:wl.cell? ⟨X,2,none⟩=some (.slice (some ⟨qb,qo,none⟩) n qcap):=(HX1.out.ext hx).cell 2 rfl
        have cq:wl.cell? ⟨qb,qo+i,none⟩=some (.slice la ln lcap):=by
         rw [← hle]
         exact ((HE1.out.trans hx).cell hqb).trans (hqc i hlt)
        clear ho ho2 hu hxb hsb hgb hfm hft hkk hne hx hgl
        by_cases hlt2:k < ln
        ·have dlt2:decide ((k:Int) < (ln:Int))=true:=by simp; omega
         have hup3:IntKind.i64.wrap ((k:Int)+1)=((k+1:Nat):Int):=by rw [IntKind.wrap_i64]; omega
         obtain ⟨lb,lo,rfl,hlb,hlc⟩:=hlf (by omega)
         obtain ⟨hb1,hb2,hb3⟩:=hlc k hlt2
         obtain ⟨x,hx⟩:∃ x:Nat,at0 l k=x:=⟨(at0 l k).toNat,by omega⟩
         rw [hx] at hb1 hb2 hb3
         have hx256:x < 256:=by omega
         have HBY:=Lib.hid (show ∀ W',Ext w W'→W'.cell? ⟨lb,lo+k,none⟩=some (.int .u8 (x:Int)) from fun W' h=>(h.cell hlb).trans hb1)
         have cb:wl.cell? ⟨lb,lo+k,none⟩=some (.int .u8 (x:Int)):=HBY.out _ (HE1.out.trans HXL.out)
         obtain ⟨q,hq⟩:∃ q:Nat,x / 8=q:=⟨_,rfl⟩
         obtain ⟨r,hr⟩:∃ r:Nat,q % 4=r:=⟨_,rfl⟩
         obtain ⟨r8,hr8⟩:∃ r:Nat,x % 8=r:=⟨_,rfl⟩
         have hr4:r < 4:=by omega
         have hr88:r8 < 8:=by omega
         have hq32:q < 32:=by omega
         have hq1:Int.tdiv (x:Int) 8=(q:Int):=by rw [← hq]; rfl
         have hq2:(x:Int) / 8=(q:Int):=by omega
         have hr1:Int.tmod (q:Int) 4=(r:Int):=by rw [← hr]; rfl
         have hr2:(q:Int) % 4=(r:Int):=by omega
         have h81:Int.tmod (x:Int) 8=(r8:Int):=by rw [← hr8]; rfl
         have h82:(x:Int) % 8=(r8:Int):=by omega
         have hw1:IntKind.i64.wrap (32769+(k:Int))=32769+(k:Int):=by rw [IntKind.wrap_i64]; omega
         have hw2:IntKind.u16.wrap (32769+(k:Int))=32769+(k:Int):=by rw [IntKind.wrap_u16]; omega
         have hw3:IntKind.u32.wrap (r:Int)=(r:Int):=by rw [IntKind.wrap_u32]; omega
         have hw4:IntKind.u32.wrap (1+(r:Int))=1+(r:Int):=by rw [IntKind.wrap_u32]; omega
         have hw5:IntKind.u8.wrap (q:Int)=(q:Int):=by rw [IntKind.wrap_u8]; omega
         have HNU:=Lib.hid (show ∀ g,Value.ownBlock (.slice a3 k c3)=some g→g ≠ G from fun g h=>HNE.out (7+i) (by omega) g (by rw [HUV.out]; exact h))
         obtain ⟨eb,heb⟩:∃ eb,(bits BinOp.and IntKind.u8 (t.edge / 2 ^ k) 1 == 1)=eb:=⟨_,rfl⟩
         have HS1:=Lib.hid (show flatT ((List.range (k+1)).map (ptT t i))=flatT ((List.range k).map (ptT t i)) ++ [.int .u16 (32769+(k:Int)),.int .u32 (1+(r:Int)),.bool false,.bool false,.bool eb] from by
          rw [List.range_succ,List.map_append,List.map_cons,List.map_nil,flatT_snoc]
          congr 1
          unfold ptT
          rw [hl,hx,hq2,hr2,← heb,bit1 t.edge k HED.out]
          rfl)
         have HAD:=Lib.hid (show segI l i (segN t i) (k+1)=if r8 < 6 then (segI l i (segN t i) k).set r8 ((segI l i (segN t i) k).getD r8 [] ++ [((i:Int),(k:Int))]) else segI l i (segN t i) k from by
          show addS (segI l i (segN t i) k) (at0 l k) i k=_
          unfold addS
          rw [hx,h82,Int.toNat_natCast]
          by_cases h:r8 < 6
          ·rw [if_pos h,if_pos (by omega)]
          ·rw [if_neg h,if_neg (by omega)])
         have hsm:((segI l i (segN t i) k).getD r8 []).length≤24:=by
          have h1:=segI_small l i (segN t i) r8 k
          have h2:=segN_small t r8 i HLS.out
          omega
         have HSI:=Lib.hid (show (segI l i (segN t i) k).length=6 from by rw [segI_len,segN_len])
         clear hb1 hb2 hb3 hlb hlc hx hq hr hr8
         go_wp2_with fail
         refine beginZ (S:=fun W'=>Ext w1 W'∧W'.heap[G]?=some (.cells #[.int .u64 id,.bool rb,.slice a3 k c3] 63 (0,0))) 20 (by kernel_rfl) ?_
         intro wd hqx
         have hq0:(fun W'=>Ext w1 W'∧W'.heap[G]?=some (.cells #[.int .u64 id,.bool rb,.slice a3 k c3] 63 (0,0))) wd:=⟨HXL.out.trans hqx,(hqx.block G (heap_lt (HGB.out))).trans (HGB.out)⟩
         refine takeZ (i:=0) (z:=20) (v:=(.pointer (some ⟨G,2,none⟩))) rfl rfl (by kernel_rfl) (by kernel_rfl) (by kernel_rfl) (by kernel_rfl) (by kernel_rfl) (by kernel_rfl) (fun _ _ _ h=>h) (Or.inl ⟨rfl,fun _ _=>rfl⟩) hq0 ?_
         simp only [ps]
         refine takeZ (i:=1) (z:=20) (v:=_) rfl rfl (by kernel_rfl) (by kernel_rfl) (by kernel_rfl) (by kernel_rfl) (by kernel_rfl) (by kernel_rfl) (fun _ _ _ h=>h) (yieldsIf_cell rfl 61 _ rfl ⟨G,2,none⟩ rfl (.slice a3 k c3) _ (fun W' hW'=>(show W'.cell? ⟨G,2,none⟩=_ by rw [cell_row hW'.2]; rfl)) Try.underlying61 rfl) hq0 ?_
         simp only [ps]
         refine takeZ (i:=2) (z:=20) (v:=(.int .i64 (k:Int))) rfl rfl (by kernel_rfl) (by kernel_rfl) (by kernel_rfl) (by kernel_rfl) (by kernel_rfl) (by kernel_rfl) (fun _ _ _ h=>h) (Or.inl ⟨rfl,fun _ _=>rfl⟩) hq0 ?_
         simp only [ps]
         refine takeZ (i:=3) (z:=20) (v:=(.int .i64 (32769+(k:Int)))) rfl rfl (by kernel_rfl) (by kernel_rfl) (by kernel_rfl) (by kernel_rfl) (by kernel_rfl) (by kernel_rfl) (fun _ _ _ h=>h) (Or.inl ⟨rfl,fun W' _=>by go_simp <;> exact hw1⟩) hq0 ?_
         simp only [ps]
         refine takeZ (i:=4) (z:=20) (v:=(.int .u16 (32769+(k:Int)))) rfl rfl (by kernel_rfl) (by kernel_rfl) (by kernel_rfl) (by kernel_rfl) (by kernel_rfl) (by kernel_rfl) (fun _ _ _ h=>h) (Or.inl ⟨rfl,fun W' _=>by go_simp <;> exact hw2⟩) hq0 ?_
         simp only [ps]
         refine takeZ (i:=5) (z:=20) (v:=(.int .u8 (x:Int))) rfl rfl (by kernel_rfl) (by kernel_rfl) (by kernel_rfl) (by kernel_rfl) (by kernel_rfl) (by kernel_rfl) (fun _ _ _ h=>h) (Or.inl ⟨rfl,fun _ _=>rfl⟩) hq0 ?_
         simp only [ps]
         refine takeZ (i:=6) (z:=20) (v:=(.int .u8 (q:Int))) rfl rfl (by kernel_rfl) (by kernel_rfl) (by kernel_rfl) (by kernel_rfl) (by kernel_rfl) (by kernel_rfl) (fun _ _ _ h=>h) (Or.inl ⟨rfl,fun W' _=>by go_simp <;> exact hw5⟩) hq0 ?_
         simp only [ps]
         refine takeZ (i:=7) (z:=20) (v:=(.int .u8 (r:Int))) rfl rfl (by kernel_rfl) (by kernel_rfl) (by kernel_rfl) (by kernel_rfl) (by kernel_rfl) (by kernel_rfl) (fun _ _ _ h=>h) (Or.inl ⟨rfl,fun W' _=>by go_simp⟩) hq0 ?_
         simp only [ps]
         refine takeZ (i:=8) (z:=20) (v:=(.int .u32 (r:Int))) rfl rfl (by kernel_rfl) (by kernel_rfl) (by kernel_rfl) (by kernel_rfl) (by kernel_rfl) (by kernel_rfl) (fun _ _ _ h=>h) (Or.inl ⟨rfl,fun W' _=>by go_simp <;> exact hw3⟩) hq0 ?_
         simp only [ps]
         refine takeZ (i:=9) (z:=20) (v:=(.int .u32 (1+(r:Int)))) rfl rfl (by kernel_rfl) (by kernel_rfl) (by kernel_rfl) (by kernel_rfl) (by kernel_rfl) (by kernel_rfl) (fun _ _ _ h=>h) (Or.inl ⟨rfl,fun W' _=>by go_simp <;> exact hw4⟩) hq0 ?_
         simp only [ps]
         refine takeZ (i:=10) (z:=20) (v:=(.pointer (some ⟨X,3,none⟩))) rfl rfl (by kernel_rfl) (by kernel_rfl) (by kernel_rfl) (by kernel_rfl) (by kernel_rfl) (by kernel_rfl) (fun _ _ _ h=>h) (Or.inl ⟨rfl,fun _ _=>rfl⟩) hq0 ?_
         simp only [ps]
         refine takeZ (i:=11) (z:=20) (v:=_) rfl rfl (by kernel_rfl) (by kernel_rfl) (by kernel_rfl) (by kernel_rfl) (by kernel_rfl) (by kernel_rfl) (fun _ _ _ h=>h) (yieldsIf_cell rfl 5 _ rfl ⟨X,3,none⟩ rfl (.int .u8 t.edge) _ (fun W' hW'=>(HX1.out.ext hW'.1).cell 3 rfl) Try.underlying5 rfl) hq0 ?_
         simp only [ps]
         refine takeZ (i:=12) (z:=20) (v:=(.int .i64 (k:Int))) rfl rfl (by kernel_rfl) (by kernel_rfl) (by kernel_rfl) (by kernel_rfl) (by kernel_rfl) (by kernel_rfl) (fun _ _ _ h=>h) (Or.inl ⟨rfl,fun _ _=>rfl⟩) hq0 ?_
         simp only [ps]
         refine takeZ (i:=13) (z:=20) (v:=(.int .u8 (t.edge / 2 ^ k))) rfl rfl (by kernel_rfl) (by kernel_rfl) (by kernel_rfl) (by kernel_rfl) (by kernel_rfl) (by kernel_rfl) (fun _ _ _ h=>h) (Or.inl ⟨rfl,fun W' _=>by go_simp⟩) hq0 ?_
         simp only [ps]
         refine takeZ (i:=14) (z:=20) (v:=(.int .u8 (bits BinOp.and IntKind.u8 (t.edge / 2 ^ k) 1))) rfl rfl (by kernel_rfl) (by kernel_rfl) (by kernel_rfl) (by kernel_rfl) (by kernel_rfl) (by kernel_rfl) (fun _ _ _ h=>h) (Or.inl ⟨rfl,fun W' _=>by go_simp⟩) hq0 ?_
         simp only [ps]
         refine takeZ (i:=15) (z:=20) (v:=(.bool eb)) rfl rfl (by kernel_rfl) (by kernel_rfl) (by kernel_rfl) (by kernel_rfl) (by kernel_rfl) (by kernel_rfl) (fun _ _ _ h=>h) (Or.inl ⟨rfl,fun W' _=>by go_simp <;> exact heb⟩) hq0 ?_
         simp only [ps]
         refine takeZ (i:=16) (z:=20) (v:=(.agg #[.int .u16 (32769+(k:Int)),.int .u32 (1+(r:Int)),.bool false,.bool false,.bool eb])) rfl rfl (by kernel_rfl) (by kernel_rfl) (by kernel_rfl) (by kernel_rfl) (by kernel_rfl) (by kernel_rfl) (fun _ _ _ h=>h) (yieldsIf_build rfl 67 _ rfl [(0,.int .u16 (32769+(k:Int))),(1,.int .u32 (1+(r:Int))),(4,.bool eb)] rfl #[.int .u16 (32769+(k:Int)),.int .u32 (1+(r:Int)),.bool false,.bool false,.bool eb] (bl_st _ _ _)) hq0 ?_
         simp only [ps]
         refine runZ (i:=17) rfl rfl (by kernel_rfl) (fun K hK=>?_)
         refine wp_buildSlice 61 67 1 _ rfl #[.int .u16 (32769+(k:Int)),.int .u32 (1+(r:Int)),.bool false,.bool false,.bool eb] i3 (.agg SUZ) Try.underlying61 I3.out.1 I3.out.2.1 (by rw [I3.out.2.2.1]; decide) (by rw [I3.out.2.2.1]; decide) (by rw [I3.out.2.2.1,Array.toList_map]; exact b1_st _ _ _ _ _) ?_
         have hy:Ext wd (wd.alloc (.cells #[.int .u16 (32769+(k:Int)),.int .u32 (1+(r:Int)),.bool false,.bool false,.bool eb] 67)):=(Ext.refl _).alloc _
         have hnw:=heap_alloc_new wd (.cells #[.int .u16 (32769+(k:Int)),.int .u32 (1+(r:Int)),.bool false,.bool false,.bool eb] 67)
         obtain ⟨wn,hwa⟩:∃ W,wd.alloc (.cells #[.int .u16 (32769+(k:Int)),.int .u32 (1+(r:Int)),.bool false,.bool false,.bool eb] 67)=W:=⟨_,rfl⟩
         obtain ⟨bn,hnb⟩:∃ m,wd.heap.size=m:=⟨_,rfl⟩
         rw [hwa] at hnw hy ⊢
         rw [hnb] at hnw ⊢
         clear hwa hnb
         have hq1:(fun W'=>Ext w1 W'∧W'.heap[G]?=some (.cells #[.int .u64 id,.bool rb,.slice a3 k c3] 63 (0,0))) wn:=⟨hq0.1.trans hy,(hy.block G (heap_lt hq0.2)).trans hq0.2⟩
         have hxn:Ext wl wn:=(hqx).trans hy
         have hO2:=ownR_ext HO.out hxn
         have hbw:B≤wn.heap.size:=Nat.le_trans HBL.out hxn.size
         refine hK.out _ _ hq1 (fun _=>?_)
         try simp only [ps]
         clear hK K
         refine runZ (i:=18) rfl rfl (by kernel_rfl) (fun K hK=>?_)
         refine oper_append_own_at _ _ 61 rfl B 67 i3 (.agg SUZ) 5 12 Try.underlying61 I3.out.1 I3.out.2.1 I3.out.2.2.1 I3.out.2.2.2 rfl (by decide) (.slice a3 k c3) k (flatT ((List.range k).map (ptT t i))) rfl hO2 ⟨bn,0,none⟩ 1 1 [.int .u16 (32769+(k:Int)),.int .u32 (1+(r:Int)),.bool false,.bool false,.bool eb] rfl rfl ?hnews (fun u hu=>by
             have hu2:=hu
             simp only [List.mem_cons,List.not_mem_nil,or_false] at hu2
             first | (subst hu2; rfl) | (rcases hu2 with rfl | rfl <;> rfl) | (rcases hu2 with rfl | rfl | rfl <;> rfl) | (rcases hu2 with rfl | rfl | rfl | rfl | rfl <;> rfl)) (by unfold maxLen; omega) (by omega) hbw ?hfin
         case hnews=>exact fun j u hu=>World.news_of_block hnw j u (by simpa using hu)
         case hfin =>
         intro v6 wa ho6 hg6 hloc
         have hrw0:wa.heap[G]?=some (.cells #[.int .u64 id,.bool rb,.slice a3 k c3] 63 (0,0)):=(hg6.block G (heap_lt hq1.2) (fun e=>(HNU.out) _ e.symm rfl)).trans hq1.2
         have hq6:(fun W'=>Ext w1 W'∧W'.heap[G]?=some (.cells #[.int .u64 id,.bool rb,.slice a3 k c3] 63 (0,0))) wa:=⟨ext_grown hq1.1 hO2 HB1.out hg6,hrw0⟩
         obtain ⟨a6,c6,rfl⟩:=own_form2 ho6
         refine hK.out _ _ hq6 (fun _=>?_)
         try simp only [ps]
         clear hK K
         refine takeZ (i:=19) (z:=20) (v:=(.pointer (some ⟨G,2,none⟩))) rfl rfl (by kernel_rfl) (by kernel_rfl) (by kernel_rfl) (by kernel_rfl) (by kernel_rfl) (by kernel_rfl) (fun _ _ _ h=>h) (Or.inl ⟨rfl,fun _ _=>rfl⟩) hq6 ?_
         simp only [ps]
         refine runZl (z:=20) rfl rfl (by kernel_rfl) (fun K hK=>?_)
         refine wp_st_at rfl 61 _ _ rfl G 2 _ #[.slice a6 (k+1) c6] (#[.int .u64 id,.bool rb,.slice a3 k c3]) (#[.int .u64 id,.bool rb,.slice a6 (k+1) c6]) 63 rfl rfl rfl hrw0 (by exact (by decide:2+1≤3)) (by kernel_rfl) rfl rfl (fun ws hrow hm=>?_)
         have HFR:=app_fr hxn hg6 hm
         have HROW:=Lib.hid hrow
         have hown6:ws.ownsRow B 67 5 (.slice a6 (k+1) c6) (k+1) (flatT ((List.range k).map (ptT t i)) ++ [.int .u16 (32769+(k:Int)),.int .u32 (1+(r:Int)),.bool false,.bool false,.bool eb]):=own_mut ho6 hm (fun g h1 h2=>by
          rcases hloc with h | h
          ·rw [h] at h1; exact (HNU.out) g h1 h2
          ·rw [h] at h1
           have h4:wn.heap.size=g:=by simpa using h1
           have h5:=HGL.out
           have h6:=hxn.size
           have h7:g=G:=h2
           omega)
         have HSZ:wl.heap.size≤wn.heap.size:=hxn.size
         refine hK.out _ _ ?_
         try simp only [ps]
         clear hK K
         have HFR2:Mut (fun g=>g=G∨(F6 (7+i)).v.ownBlock=some g) wl ws:=by rw [HUV.out]; exact HFR
         have hloc2:Value.ownBlock (.slice a6 (k+1) c6)=(F6 (7+i)).v.ownBlock∨Value.ownBlock (.slice a6 (k+1) c6)=some wn.heap.size:=by rw [HUV.out]; exact hloc
         have hown7:OS.at ⟨.slice a6 (k+1) c6,67,5,k+1,flatT ((List.range (k+1)).map (ptT t i))⟩ ws B:=by
          show ws.ownsRow B 67 5 _ (k+1) (flatT ((List.range (k+1)).map (ptT t i)))
          rw [HS1.out]
          exact hown6
         have HFM7:=Lib.hid (HFM.out.set (k:=7+i) (G:=fun g=>g=G) (by omega) HFR2 HNE.out hown7 HSZ hloc2)
         have HFT7:=Lib.hid (show FamT 63 67 59 (upd F6 (7+i) (⟨.slice a6 (k+1) c6,67,5,k+1,flatT ((List.range (k+1)).map (ptT t i))⟩:OS)) t i (segI l i (segN t i) k) from HFT.out.port)
         have HK7:=Lib.hid (show upd F6 (7+i) (⟨.slice a6 (k+1) c6,67,5,k+1,flatT ((List.range (k+1)).map (ptT t i))⟩:OS) (7+i)=⟨(upd F6 (7+i) (⟨.slice a6 (k+1) c6,67,5,k+1,flatT ((List.range (k+1)).map (ptT t i))⟩:OS) (7+i)).v,67,5,k+1,flatT ((List.range (k+1)).map (ptT t i))⟩ from by rw [upd_same])
         have HNE7:=Lib.hid (Fam.apart (o:=⟨.slice a6 (k+1) c6,67,5,k+1,flatT ((List.range (k+1)).map (ptT t i))⟩) HNE.out (k:=7+i) (by omega) (Nat.lt_of_lt_of_le HGL.out HSZ) hloc2)
         have hold:∀ g,g < B→¬ (g=G∨(F6 (7+i)).v.ownBlock=some g):=fun g h1 h2=>by
          rcases h2 with h2 | h2
          ·have:=HGW2.out; omega
          ·have:=(own_lt2 (HFM.out.1 (7+i) (by omega)) h2).1; omega
         have HXB7:=Lib.hid (show BoxAt ws XB #[.int .i64 0,.int .i64 20,.int .i64 2,.int .i64 15,.int .i64 6,.int .i64 20,.int .i64 300,(upd F6 (7+i) (⟨.slice a6 (k+1) c6,67,5,k+1,flatT ((List.range (k+1)).map (ptT t i))⟩:OS) 0).v,.slice (some ⟨SB,0,none⟩) 6 6] 32 from by
          rw [upd_other (by omega)]
          exact HXB.out.mut HFR2 (hold XB HXBB.out))
         have HSB7:=Lib.hid (show ws.heap[SB]?=some (.cells ((List.range 6).map (fun s=>(upd F6 (7+i) (⟨.slice a6 (k+1) c6,67,5,k+1,flatT ((List.range (k+1)).map (ptT t i))⟩:OS) (1+s)).v)).toArray 49 (0,0)) from by
          rw [show ((List.range 6).map (fun s=>(upd F6 (7+i) (⟨.slice a6 (k+1) c6,67,5,k+1,flatT ((List.range (k+1)).map (ptT t i))⟩:OS) (1+s)).v))=(List.range 6).map (fun s=>(F6 (1+s)).v) from List.map_congr_left (fun s hs=>by rw [upd_other (by have:=List.mem_range.1 hs; omega)])]
          exact (HFR2.heap (heap_lt HSB.out) (hold SB (by have h1:=HXS.out.1; have h2:=HXBB.out; omega))).trans HSB.out)
         have HG7:=Lib.hid (show BoxAt ws G #[.int .u64 id,.bool rb,(upd F6 (7+i) (⟨.slice a6 (k+1) c6,67,5,k+1,flatT ((List.range (k+1)).map (ptT t i))⟩:OS) (7+i)).v] 63 from by rw [upd_same]; exact hrow)
         have HX7:=Lib.hid (HXL.out.mutE HFR2 (fun g h1=>hold g (by have:=HB1.out; omega)))
         have HGL7:=Lib.hid (Nat.lt_of_lt_of_le HGL.out HFR.size)
         clear HFR2 hloc2 hown7 hold HFR hown6 HSZ hloc
         clear hrow hm ho6 hg6 hq6 hq1 hq0 hqx hy hnw hO2 hbw hxn hrw0
         refine wpAnyH_done (by kernel_rfl) ?_ _
         obtain ⟨F7,hF7⟩:∃ F7,upd F6 (7+i) (⟨.slice a6 (k+1) c6,67,5,k+1,flatT ((List.range (k+1)).map (ptT t i))⟩:OS)=F7:=⟨_,rfl⟩
         rw [hF7] at HFM7 HFT7 HK7 HNE7 HXB7 HSB7 HG7
         clear hF7 hq1 hq2 hr1 hr2 hw1 hw2 hw3 hw4 heb cb
         by_cases h6:r8 < 6
         ·have d6:decide ((r8:Int) < 6)=true:=by simp; omega
          go_wp2_with fail
          have ho8:=HFM7.out.1 (1+r8) (by omega)
          rw [HFT7.out.sg r8 h6] at ho8
          have ho9:ws.ownsRow B 59 2 (F7 (1+r8)).v ((segI l i (segN t i) k).getD r8 []).length (flatP ((segI l i (segN t i) k).getD r8 [])):=ho8
          obtain ⟨L8,hL8⟩:∃ L,(segI l i (segN t i) k).getD r8 []=L:=⟨_,rfl⟩
          rw [hL8] at ho9 hsm
          obtain ⟨m8,hm8⟩:∃ m,L8.length=m:=⟨_,rfl⟩
          rw [hm8] at ho9 hsm
          obtain ⟨u8,hu8⟩:∃ u,(F7 (1+r8)).v=u:=⟨_,rfl⟩
          rw [hu8] at ho9
          obtain ⟨a5,c5,rfl⟩:=own_form2 ho9
          have HO8:=Lib.hid ho9
          have HL8:=Lib.hid hL8
          have HM8:=Lib.hid hm8
          have HU8:=Lib.hid hu8
          have HC8:=Lib.hid (show ((List.range 6).map (fun s=>(F7 (1+s)).v)).toArray[r8]?=some (.slice a5 m8 c5) from by
           rw [List.getElem?_toArray,List.getElem?_map,List.getElem?_range h6]
           exact congrArg some hu8)
          have HSBB:=Lib.hid (show SB < B from by have h1:=HXS.out.1; have h2:=HXBB.out; omega)
          have HBL7:=Lib.hid (show B≤ws.heap.size from by have h1:=HGL7.out; have h2:=HGW2.out; omega)
          have HH8:=Lib.hid (And.intro h81 h82)
          clear ho8 ho9 hL8 hm8 hu8 hw5 hup2 h81 h82 d6 hx256 hr4 hr88 hq32
          refine beginZ (S:=fun W'=>Ext w1 W'∧W'.heap[XB]?=some (.cells #[.int .i64 0,.int .i64 20,.int .i64 2,.int .i64 15,.int .i64 6,.int .i64 20,.int .i64 300,(F7 0).v,.slice (some ⟨SB,0,none⟩) 6 6] 32 (0,0))∧W'.heap[SB]?=some (.cells ((List.range 6).map (fun s=>(F7 (1+s)).v)).toArray 49 (0,0))) 16 (by kernel_rfl) ?_
          intro wd hqx
          have hq0:(fun W'=>Ext w1 W'∧W'.heap[XB]?=some (.cells #[.int .i64 0,.int .i64 20,.int .i64 2,.int .i64 15,.int .i64 6,.int .i64 20,.int .i64 300,(F7 0).v,.slice (some ⟨SB,0,none⟩) 6 6] 32 (0,0))∧W'.heap[SB]?=some (.cells ((List.range 6).map (fun s=>(F7 (1+s)).v)).toArray 49 (0,0))) wd:=⟨HX7.out.trans hqx,(hqx.block XB (heap_lt (HXB7.out))).trans (HXB7.out),(hqx.block SB (heap_lt (HSB7.out))).trans (HSB7.out)⟩
          refine takeZ (i:=0) (z:=16) (v:=(.pointer (some ⟨XB,8,none⟩))) rfl rfl (by kernel_rfl) (by kernel_rfl) (by kernel_rfl) (by kernel_rfl) (by kernel_rfl) (by kernel_rfl) (fun _ _ _ h=>h) (Or.inl ⟨rfl,fun _ _=>rfl⟩) hq0 ?_
          simp only [ps]
          refine takeZ (i:=1) (z:=16) (v:=_) rfl rfl (by kernel_rfl) (by kernel_rfl) (by kernel_rfl) (by kernel_rfl) (by kernel_rfl) (by kernel_rfl) (fun _ _ _ h=>h) (yieldsIf_cell rfl 30 _ rfl ⟨XB,8,none⟩ rfl (.slice (some ⟨SB,0,none⟩) 6 6) _ (fun W' hW'=>(show W'.cell? ⟨XB,8,none⟩=_ by rw [cell_row hW'.2.1]; rfl)) Try.underlying30 rfl) hq0 ?_
          simp only [ps]
          refine takeZ (i:=2) (z:=16) (v:=(.int .u8 (x:Int))) rfl rfl (by kernel_rfl) (by kernel_rfl) (by kernel_rfl) (by kernel_rfl) (by kernel_rfl) (by kernel_rfl) (fun _ _ _ h=>h) (Or.inl ⟨rfl,fun _ _=>rfl⟩) hq0 ?_
          simp only [ps]
          refine takeZ (i:=3) (z:=16) (v:=(.int .u8 (r8:Int))) rfl rfl (by kernel_rfl) (by kernel_rfl) (by kernel_rfl) (by kernel_rfl) (by kernel_rfl) (by kernel_rfl) (fun _ _ _ h=>h) (Or.inl ⟨rfl,fun W' _=>by go_simp <;> first | exact HH8.out.1 | exact HH8.out.2⟩) hq0 ?_
          simp only [ps]
          refine takeZ (i:=4) (z:=16) (v:=(.pointer (some ⟨XB,8,none⟩))) rfl rfl (by kernel_rfl) (by kernel_rfl) (by kernel_rfl) (by kernel_rfl) (by kernel_rfl) (by kernel_rfl) (fun _ _ _ h=>h) (Or.inl ⟨rfl,fun _ _=>rfl⟩) hq0 ?_
          simp only [ps]
          refine takeZ (i:=5) (z:=16) (v:=_) rfl rfl (by kernel_rfl) (by kernel_rfl) (by kernel_rfl) (by kernel_rfl) (by kernel_rfl) (by kernel_rfl) (fun _ _ _ h=>h) (yieldsIf_cell rfl 30 _ rfl ⟨XB,8,none⟩ rfl (.slice (some ⟨SB,0,none⟩) 6 6) _ (fun W' hW'=>(show W'.cell? ⟨XB,8,none⟩=_ by rw [cell_row hW'.2.1]; rfl)) Try.underlying30 rfl) hq0 ?_
          simp only [ps]
          refine takeZ (i:=6) (z:=16) (v:=(.int .u8 (x:Int))) rfl rfl (by kernel_rfl) (by kernel_rfl) (by kernel_rfl) (by kernel_rfl) (by kernel_rfl) (by kernel_rfl) (fun _ _ _ h=>h) (Or.inl ⟨rfl,fun _ _=>rfl⟩) hq0 ?_
          simp only [ps]
          refine takeZ (i:=7) (z:=16) (v:=(.int .u8 (r8:Int))) rfl rfl (by kernel_rfl) (by kernel_rfl) (by kernel_rfl) (by kernel_rfl) (by kernel_rfl) (by kernel_rfl) (fun _ _ _ h=>h) (Or.inl ⟨rfl,fun W' _=>by go_simp <;> first | exact HH8.out.1 | exact HH8.out.2⟩) hq0 ?_
          simp only [ps]
          refine takeZ (i:=8) (z:=16) (v:=(.pointer (some ⟨SB,r8,none⟩))) rfl rfl (by kernel_rfl) (by kernel_rfl) (by kernel_rfl) (by kernel_rfl) (by kernel_rfl) (by kernel_rfl) (fun _ _ _ h=>h) (Or.inl ⟨rfl,fun W' _=>by go_simp <;> (intro h; omega)⟩) hq0 ?_
          simp only [ps]
          refine takeZ (i:=9) (z:=16) (v:=_) rfl rfl (by kernel_rfl) (by kernel_rfl) (by kernel_rfl) (by kernel_rfl) (by kernel_rfl) (by kernel_rfl) (fun _ _ _ h=>h) (yieldsIf_cell rfl 49 _ rfl ⟨SB,r8,none⟩ rfl (.slice a5 m8 c5) _ (fun W' hW'=>(show W'.cell? ⟨SB,r8,none⟩=_ by rw [cell_row hW'.2.2]; exact HC8.out)) Try.underlying49 rfl) hq0 ?_
          simp only [ps]
          refine takeZ (i:=10) (z:=16) (v:=(.int .i64 (i:Int))) rfl rfl (by kernel_rfl) (by kernel_rfl) (by kernel_rfl) (by kernel_rfl) (by kernel_rfl) (by kernel_rfl) (fun _ _ _ h=>h) (Or.inl ⟨rfl,fun _ _=>rfl⟩) hq0 ?_
          simp only [ps]
          refine takeZ (i:=11) (z:=16) (v:=(.int .i64 (k:Int))) rfl rfl (by kernel_rfl) (by kernel_rfl) (by kernel_rfl) (by kernel_rfl) (by kernel_rfl) (by kernel_rfl) (fun _ _ _ h=>h) (Or.inl ⟨rfl,fun _ _=>rfl⟩) hq0 ?_
          simp only [ps]
          refine takeZ (i:=12) (z:=16) (v:=(.agg #[.int .i64 (i:Int),.int .i64 (k:Int)])) rfl rfl (by kernel_rfl) (by kernel_rfl) (by kernel_rfl) (by kernel_rfl) (by kernel_rfl) (by kernel_rfl) (fun _ _ _ h=>h) (yieldsIf_build rfl 59 _ rfl [(0,.int .i64 (i:Int)),(1,.int .i64 (k:Int))] rfl #[.int .i64 (i:Int),.int .i64 (k:Int)] (bl_rp _ _)) hq0 ?_
          simp only [ps]
          refine runZ (i:=13) rfl rfl (by kernel_rfl) (fun K hK=>?_)
          refine wp_buildSlice 49 59 1 _ rfl #[.int .i64 (i:Int),.int .i64 (k:Int)] i2 (.agg PZ2) Try.underlying49 I2.out.1 I2.out.2.1 (by rw [I2.out.2.2.1]; decide) (by rw [I2.out.2.2.1]; decide) (by rw [I2.out.2.2.1,Array.toList_map]; exact b1_rp _ _) ?_
          have hy:Ext wd (wd.alloc (.cells #[.int .i64 (i:Int),.int .i64 (k:Int)] 59)):=(Ext.refl _).alloc _
          have hnw:=heap_alloc_new wd (.cells #[.int .i64 (i:Int),.int .i64 (k:Int)] 59)
          obtain ⟨wn,hwa⟩:∃ W,wd.alloc (.cells #[.int .i64 (i:Int),.int .i64 (k:Int)] 59)=W:=⟨_,rfl⟩
          obtain ⟨bn,hnb⟩:∃ m,wd.heap.size=m:=⟨_,rfl⟩
          rw [hwa] at hnw hy ⊢
          rw [hnb] at hnw ⊢
          clear hwa hnb
          have hq1:(fun W'=>Ext w1 W'∧W'.heap[XB]?=some (.cells #[.int .i64 0,.int .i64 20,.int .i64 2,.int .i64 15,.int .i64 6,.int .i64 20,.int .i64 300,(F7 0).v,.slice (some ⟨SB,0,none⟩) 6 6] 32 (0,0))∧W'.heap[SB]?=some (.cells ((List.range 6).map (fun s=>(F7 (1+s)).v)).toArray 49 (0,0))) wn:=⟨hq0.1.trans hy,(hy.block XB (heap_lt hq0.2.1)).trans hq0.2.1,(hy.block SB (heap_lt hq0.2.2)).trans hq0.2.2⟩
          have hxn:Ext ws wn:=(hqx).trans hy
          have hO2:=ownR_ext HO8.out hxn
          have hbw:B≤wn.heap.size:=Nat.le_trans HBL7.out hxn.size
          refine hK.out _ _ hq1 (fun _=>?_)
          try simp only [ps]
          clear hK K
          refine runZ (i:=14) rfl rfl (by kernel_rfl) (fun K hK=>?_)
          refine oper_append_own_at _ _ 49 rfl B 59 i2 (.agg PZ2) 2 16 Try.underlying49 I2.out.1 I2.out.2.1 I2.out.2.2.1 I2.out.2.2.2 rfl (by decide) (.slice a5 m8 c5) m8 (flatP L8) rfl hO2 ⟨bn,0,none⟩ 1 1 [.int .i64 (i:Int),.int .i64 (k:Int)] rfl rfl ?hnews (fun u hu=>by
              have hu2:=hu
              simp only [List.mem_cons,List.not_mem_nil,or_false] at hu2
              first | (subst hu2; rfl) | (rcases hu2 with rfl | rfl <;> rfl) | (rcases hu2 with rfl | rfl | rfl <;> rfl) | (rcases hu2 with rfl | rfl | rfl | rfl | rfl <;> rfl)) (by unfold maxLen; omega) (by omega) hbw ?hfin
          case hnews=>exact fun j u hu=>World.news_of_block hnw j u (by simpa using hu)
          case hfin =>
          intro v6 wa ho6 hg6 hloc
          have hrw0:wa.heap[XB]?=some (.cells #[.int .i64 0,.int .i64 20,.int .i64 2,.int .i64 15,.int .i64 6,.int .i64 20,.int .i64 300,(F7 0).v,.slice (some ⟨SB,0,none⟩) 6 6] 32 (0,0)):=(hg6.block XB (heap_lt hq1.2.1) (fun e=>by have h1:=(own_lt2 hO2 e.symm).1; have h2:=HXBB.out; omega)).trans hq1.2.1
          have hrw1:wa.heap[SB]?=some (.cells ((List.range 6).map (fun s=>(F7 (1+s)).v)).toArray 49 (0,0)):=(hg6.block SB (heap_lt hq1.2.2) (fun e=>by have h1:=(own_lt2 hO2 e.symm).1; have h2:=HSBB.out; omega)).trans hq1.2.2
          have hq6:(fun W'=>Ext w1 W'∧W'.heap[XB]?=some (.cells #[.int .i64 0,.int .i64 20,.int .i64 2,.int .i64 15,.int .i64 6,.int .i64 20,.int .i64 300,(F7 0).v,.slice (some ⟨SB,0,none⟩) 6 6] 32 (0,0))∧W'.heap[SB]?=some (.cells ((List.range 6).map (fun s=>(F7 (1+s)).v)).toArray 49 (0,0))) wa:=⟨ext_grown hq1.1 hO2 HB1.out hg6,hrw0,hrw1⟩
          obtain ⟨a7,c7,rfl⟩:=own_form2 ho6
          refine hK.out _ _ hq6 (fun _=>?_)
          try simp only [ps]
          clear hK K
          refine takeZ (i:=15) (z:=16) (v:=(.pointer (some ⟨SB,r8,none⟩))) rfl rfl (by kernel_rfl) (by kernel_rfl) (by kernel_rfl) (by kernel_rfl) (by kernel_rfl) (by kernel_rfl) (fun _ _ _ h=>h) (Or.inl ⟨rfl,fun W' _=>by go_simp <;> (intro h; omega)⟩) hq6 ?_
          simp only [ps]
          refine runZl (z:=16) rfl rfl (by kernel_rfl) (fun K hK=>?_)
          refine wp_st_at rfl 49 _ _ rfl SB r8 _ #[.slice a7 (m8+1) c7] (((List.range 6).map (fun s=>(F7 (1+s)).v)).toArray) ((((List.range 6).map (fun s=>(F7 (1+s)).v)).set r8 (.slice a7 (m8+1) c7)).toArray) 49 rfl rfl rfl hrw1 (by show r8+1≤(List.toArray _).size; simp; omega) (by kernel_rfl) rfl (set_row (by simp; omega)) (fun wz hrow hm=>?_)
          have HFR:=app_fr hxn hg6 hm
          have HROX:=Lib.hid hrow
          have hown6:wz.ownsRow B 59 2 (.slice a7 (m8+1) c7) (m8+1) (flatP L8 ++ [.int .i64 (i:Int),.int .i64 (k:Int)]):=own_mut ho6 hm (fun g h1 h2=>by have h3:=(own_lt2 ho6 h1).1; have h4:=HSBB.out; omega)
          have HSZ:ws.heap.size≤wn.heap.size:=hxn.size
          refine hK.out _ _ ?_
          try simp only [ps]
          clear hK K
          have HFR2:Mut (fun g=>g=SB∨(F7 (1+r8)).v.ownBlock=some g) ws wz:=by rw [HU8.out]; exact HFR
          have hloc2:Value.ownBlock (.slice a7 (m8+1) c7)=(F7 (1+r8)).v.ownBlock∨Value.ownBlock (.slice a7 (m8+1) c7)=some wn.heap.size:=by rw [HU8.out]; exact hloc
          have hown7:OS.at (⟨.slice a7 (m8+1) c7,59,2,(L8 ++ [((i:Int),(k:Int))]).length,flatP (L8 ++ [((i:Int),(k:Int))])⟩:OS) wz B:=by
           show wz.ownsRow B 59 2 _ (L8 ++ [((i:Int),(k:Int))]).length (flatP (L8 ++ [((i:Int),(k:Int))]))
           have e:(L8 ++ [((i:Int),(k:Int))]).length=m8+1:=by simp [HM8.out]
           rw [e,flatP_snoc]
           exact hown6
          have hold:∀ g,(g < B∧g ≠ SB)∨g=G→¬ (g=SB∨(F7 (1+r8)).v.ownBlock=some g):=fun g h1 h2=>by
           have h3:=HSBB.out
           have h4:=HGW2.out
           rcases h2 with h2 | h2
           ·omega
           ·have h5:=(own_lt2 (HFM7.out.1 (1+r8) (by omega)) h2).1
            rcases h1 with h1 | h1
            ·omega
            ·exact HNE7.out (1+r8) (by omega) g h2 h1
          have HFM8:=Lib.hid (HFM7.out.set (k:=1+r8) (G:=fun g=>g=SB) (by omega) HFR2 (fun j hj g h1 e=>by have h2:=(own_lt2 (HFM7.out.1 j hj) h1).1; have h3:=HSBB.out; have h4:g=SB:=e; omega) hown7 HSZ hloc2)
          have HFT8:=Lib.hid (show FamT 63 67 59 (upd F7 (1+r8) (⟨.slice a7 (m8+1) c7,59,2,(L8 ++ [((i:Int),(k:Int))]).length,flatP (L8 ++ [((i:Int),(k:Int))])⟩:OS)) t i (segI l i (segN t i) (k+1)) from by rw [HAD.out,if_pos h6,HL8.out]; exact HFT7.out.seg HSI.out h6)
          have HNE8:=Lib.hid (Fam.apart (o:=(⟨.slice a7 (m8+1) c7,59,2,(L8 ++ [((i:Int),(k:Int))]).length,flatP (L8 ++ [((i:Int),(k:Int))])⟩:OS)) HNE7.out (k:=1+r8) (by omega) (Nat.lt_of_lt_of_le HGL7.out HSZ) hloc2)
          have HK8:=Lib.hid (show upd F7 (1+r8) (⟨.slice a7 (m8+1) c7,59,2,(L8 ++ [((i:Int),(k:Int))]).length,flatP (L8 ++ [((i:Int),(k:Int))])⟩:OS) (7+i)=⟨(upd F7 (1+r8) (⟨.slice a7 (m8+1) c7,59,2,(L8 ++ [((i:Int),(k:Int))]).length,flatP (L8 ++ [((i:Int),(k:Int))])⟩:OS) (7+i)).v,67,5,k+1,flatT ((List.range (k+1)).map (ptT t i))⟩ from by rw [upd_other (by omega)]; exact HK7.out)
          have HXB8:=Lib.hid (show BoxAt wz XB #[.int .i64 0,.int .i64 20,.int .i64 2,.int .i64 15,.int .i64 6,.int .i64 20,.int .i64 300,(upd F7 (1+r8) (⟨.slice a7 (m8+1) c7,59,2,(L8 ++ [((i:Int),(k:Int))]).length,flatP (L8 ++ [((i:Int),(k:Int))])⟩:OS) 0).v,.slice (some ⟨SB,0,none⟩) 6 6] 32 from by
           rw [upd_other (by omega)]
           exact HXB7.out.mut HFR2 (hold XB (.inl ⟨HXBB.out,by have:=HXS.out.1; omega⟩)))
          have HSB8:=Lib.hid (show wz.heap[SB]?=some (.cells ((List.range 6).map (fun s=>(upd F7 (1+r8) (⟨.slice a7 (m8+1) c7,59,2,(L8 ++ [((i:Int),(k:Int))]).length,flatP (L8 ++ [((i:Int),(k:Int))])⟩:OS) (1+s)).v)).toArray 49 (0,0)) from by
           rw [← range_set 6 (fun s=>(F7 (1+s)).v) (fun s=>(upd F7 (1+r8) (⟨.slice a7 (m8+1) c7,59,2,(L8 ++ [((i:Int),(k:Int))]).length,flatP (L8 ++ [((i:Int),(k:Int))])⟩:OS) (1+s)).v) r8 (.slice a7 (m8+1) c7) h6 (by show (upd F7 (1+r8) _ (1+r8)).v=_; rw [upd_same]) (fun j hj=>by show (upd F7 (1+r8) _ (1+j)).v=_; rw [upd_other (by omega)])]
           exact hrow)
          have HG8:=Lib.hid (show BoxAt wz G #[.int .u64 id,.bool rb,(upd F7 (1+r8) (⟨.slice a7 (m8+1) c7,59,2,(L8 ++ [((i:Int),(k:Int))]).length,flatP (L8 ++ [((i:Int),(k:Int))])⟩:OS) (7+i)).v] 63 from by
           rw [upd_other (by omega)]
           exact HG7.out.mut HFR2 (hold G (.inr rfl)))
          have HX8:=Lib.hid (HX7.out.mutE HFR2 (fun g h1=>hold g (.inl ⟨by have:=HB1.out; omega,by have:=HSW1.out; omega⟩)))
          have HGL8:=Lib.hid (Nat.lt_of_lt_of_le HGL7.out HFR.size)
          clear HFR2 hloc2 hown7 hold HFR hown6 HSZ hloc
          clear hrow hm ho6 hg6 hq6 hq1 hq0 hqx hy hnw hO2 hbw hxn hrw0 hrw1
          refine wpAnyH_done (by kernel_rfl) ?_ _
          obtain ⟨F8,hF8⟩:∃ F8,upd F7 (1+r8) (⟨.slice a7 (m8+1) c7,59,2,(L8 ++ [((i:Int),(k:Int))]).length,flatP (L8 ++ [((i:Int),(k:Int))])⟩:OS)=F8:=⟨_,rfl⟩
          rw [hF8] at HFM8 HFT8 HK8 HNE8 HXB8 HSB8 HG8
          clear hF8
          go_wp2_with fail
          go_roundw
          case rel=>exact ⟨k+1,F8,_,rfl,by go_num,hlt2,HXB8.out,HSB8.out,HG8.out,HFM8.out,HFT8.out,HK8.out,HNE8.out,HX8.out,HGL8.out⟩
          case measure=>simp [intOf] <;> omega
         ·have d6:decide ((r8:Int) < 6)=false:=by simp; omega
          have HAD7:FamT 63 67 59 F7 t i (segI l i (segN t i) (k+1)):=by rw [HAD.out,if_neg h6]; exact HFT7.out
          go_wp2_with fail
          clear h81 h82 hw5 hup2
          go_roundw
          case rel=>exact ⟨k+1,F7,_,rfl,by go_num,hlt2,HXB7.out,HSB7.out,HG7.out,HFM7.out,HAD7,HK7.out,HNE7.out,HX7.out,HGL7.out⟩
          case measure=>simp [intOf] <;> omega
        ·have dlt2:decide ((k:Int) < (ln:Int))=false:=by simp; omega
         obtain rfl:ln=k:=by omega
         have hn0:=HFM.out.1 0 (by omega)
         rw [HFT.out.nd] at hn0
         have hn1:wl.ownsRow B 63 3 (F6 0).v i (ncL t (fun j=>(F6 (7+j)).v) i):=hn0
         obtain ⟨u9,hu9⟩:∃ u,(F6 0).v=u:=⟨_,rfl⟩
         rw [hu9] at hn1 HXB
         obtain ⟨a9,c9,rfl⟩:=own_form2 hn1
         have HU9:=Lib.hid hu9
         have HN9:=Lib.hid (hn1.alloc (.cells #[.int .u64 id,.bool rb,.slice a3 ln c3] 63))
         have HN1:=Lib.hid hn1
         have HNW:=Lib.hid (fun (j:Nat) (u:Value) (hu:[Value.int .u64 id,.bool rb,.slice a3 ln c3][j]?=some u)=>World.news_of_block (heap_alloc_new wl (.cells #[.int .u64 id,.bool rb,.slice a3 ln c3] 63)) j u (by simpa using hu))
         have HP9:=Lib.hid (show F6 (7+i)=⟨(F6 (7+i)).v,67,5,(ptsT t i).length,flatT (ptsT t i)⟩ from by
          have e:ptsT t i=(List.range ln).map (ptT t i):=by unfold ptsT; rw [hl,hln]
          rw [e,List.length_map,List.length_range]
          exact HKK.out)
         have HSG9:=Lib.hid (show segN t (i+1)=segI l i (segN t i) ln from by
          show segI (t.ports.getD i []) i (segN t i) (t.ports.getD i []).length=_
          rw [hl,hln])
         have HLS9:=Lib.hid (show ∀ j,j < i+1→(t.ports.getD j []).length≤4 from fun j hj=>by
          by_cases e:j=i
          ·subst e; rw [hl,hln]; omega
          ·exact HLS.out j (by omega))
         have hBZ:B≤(wl.alloc (.cells #[.int .u64 id,.bool rb,.slice a3 ln c3] 63)).heap.size:=by have:=HBL.out; simp; omega
         have c7:wl.cell? ⟨XB,7,none⟩=some (.slice a9 i c9):=HXB.out.cell 7 rfl
         clear hn0 hn1 hu9
         go_wp2_with (first
          | fail
          | ((with_reducible refine at_load 63 ?_); refine wpList_load_row rfl 63 _ rfl G rfl 63 #[.int .u64 id,.bool rb,.slice a3 ln c3] (0,0) _ HGB.out Try.underlying63 rfl size_nd ?_)
          | (at_builtin; refine wpList_append_own_at _ rfl _ _ 29 rfl B 63 i6 (.agg NDZ) 3 40 Try.underlying29 I6.out.1 I6.out.2.1 I6.out.2.2.1 I6.out.2.2.2 rfl (by decide) _ i (ncL t (fun j=>(F6 (7+j)).v) i) rfl HN9.out ⟨wl.heap.size,0,none⟩ 1 1 [.int .u64 id,.bool rb,.slice a3 ln c3] rfl rfl HNW.out (by
               intro u hu
               simp only [List.mem_cons,List.not_mem_nil,or_false] at hu
               rcases hu with rfl | rfl | rfl <;> rfl) (by unfold maxLen; omega) (by omega) hBZ ?_
             intro v7 wa ho7 hg7 _ hb7
             obtain ⟨a7,c7',rfl⟩:=own_form2 ho7
             have hxw:wa.heap[XB]?=some (.cells #[.int .i64 0,.int .i64 20,.int .i64 2,.int .i64 15,.int .i64 6,.int .i64 20,.int .i64 300,.slice a9 i c9,.slice (some ⟨SB,0,none⟩) 6 6] 32 (0,0)):=(hg7.block XB (Nat.lt_of_lt_of_le (heap_lt HXB.out) (by simp)) (fun e=>by have h1:=(own_lt2 HN1.out e.symm).1; have h2:=HXBB.out; omega)).trans ((heap_alloc_old _ _ (heap_lt HXB.out)).trans HXB.out))
          | ((with_reducible refine at_store 29 ?_); refine st_at rfl rfl 29 _ _ rfl XB 7 _ #[.slice a7 (i+1) c7'] #[.int .i64 0,.int .i64 20,.int .i64 2,.int .i64 15,.int .i64 6,.int .i64 20,.int .i64 300,.slice a9 i c9,.slice (some ⟨SB,0,none⟩) 6 6] #[.int .i64 0,.int .i64 20,.int .i64 2,.int .i64 15,.int .i64 6,.int .i64 20,.int .i64 300,.slice a7 (i+1) c7',.slice (some ⟨SB,0,none⟩) 6 6] 32 rfl rfl rfl hxw (by exact (by decide:7+1≤9)) (by kernel_rfl) rfl rfl ?_
             intro ws hrow hm
             have HFR:=app_fr ((Ext.refl wl).alloc (.cells #[.int .u64 id,.bool rb,.slice a3 ln c3] 63)) hg7 hm
             have HROW:=Lib.hid hrow
             have hown6:=own_mut ho7 hm (fun g h1 h2=>by have h3:=(own_lt2 ho7 h1).1; have h4:=HXBB.out; have h5:g=XB:=h2; omega)
             have HFR2:Mut (fun g=>g=XB∨(F6 0).v.ownBlock=some g) wl ws:=by rw [HU9.out]; exact HFR
             have hloc2:Value.ownBlock (.slice a7 (i+1) c7')=(F6 0).v.ownBlock∨Value.ownBlock (.slice a7 (i+1) c7')=some (wl.alloc (.cells #[.int .u64 id,.bool rb,.slice a3 ln c3] 63)).heap.size:=by rw [HU9.out]; exact hb7
             have hown7:OS.at (⟨.slice a7 (i+1) c7',63,3,i+1,ncL t (fun j=>(F6 (7+j)).v) i ++ [.int .u64 (idT t i),.bool (upsF t.rst i),(F6 (7+i)).v]⟩:OS) ws B:=by
              show ws.ownsRow B 63 3 _ (i+1) (ncL t (fun j=>(F6 (7+j)).v) i ++ [.int .u64 (idT t i),.bool (upsF t.rst i),(F6 (7+i)).v])
              rw [HIDT.out,← HRB2.out,HUV.out]
              exact hown6
             have HFMN:=Lib.hid (HFM.out.set (k:=0) (s:=(wl.alloc (.cells #[.int .u64 id,.bool rb,.slice a3 ln c3] 63)).heap.size) (G:=fun g=>g=XB) (by omega) HFR2 (fun j hj g h1 e=>by have h2:=(own_lt2 (HFM.out.1 j hj) h1).1; have h3:=HXBB.out; have h4:g=XB:=e; omega) hown7 (by simp) hloc2)
             have HFTN:=Lib.hid (show FamT 63 67 59 (upd F6 0 (⟨.slice a7 (i+1) c7',63,3,i+1,ncL t (fun j=>(F6 (7+j)).v) i ++ [.int .u64 (idT t i),.bool (upsF t.rst i),(F6 (7+i)).v]⟩:OS)) t (i+1) (segN t (i+1)) from by rw [HSG9.out]; exact HFT.out.node HP9.out)
             have HXBN:=Lib.hid (show BoxAt ws XB #[.int .i64 0,.int .i64 20,.int .i64 2,.int .i64 15,.int .i64 6,.int .i64 20,.int .i64 300,(upd F6 0 (⟨.slice a7 (i+1) c7',63,3,i+1,ncL t (fun j=>(F6 (7+j)).v) i ++ [.int .u64 (idT t i),.bool (upsF t.rst i),(F6 (7+i)).v]⟩:OS) 0).v,.slice (some ⟨SB,0,none⟩) 6 6] 32 from by rw [upd_same]; exact hrow)
             have HSBN:=Lib.hid (show ws.heap[SB]?=some (.cells ((List.range 6).map (fun s=>(upd F6 0 (⟨.slice a7 (i+1) c7',63,3,i+1,ncL t (fun j=>(F6 (7+j)).v) i ++ [.int .u64 (idT t i),.bool (upsF t.rst i),(F6 (7+i)).v]⟩:OS) (1+s)).v)).toArray 49 (0,0)) from by
              rw [show ((List.range 6).map (fun s=>(upd F6 0 (⟨.slice a7 (i+1) c7',63,3,i+1,ncL t (fun j=>(F6 (7+j)).v) i ++ [.int .u64 (idT t i),.bool (upsF t.rst i),(F6 (7+i)).v]⟩:OS) (1+s)).v))=(List.range 6).map (fun s=>(F6 (1+s)).v) from List.map_congr_left (fun s hs=>by rw [upd_other (by omega)])]
              exact (HFR2.heap (heap_lt HSB.out) (fun h=>by
               have h5:=HXS.out.1
               have h6:=HXBB.out
               rcases h with h | h
               ·omega
               ·have h7:=(own_lt2 (HFM.out.1 0 (by omega)) h).1
                omega)).trans HSB.out)
             have HXN:=Lib.hid (HXL.out.mutE HFR2 (fun g h1 h=>by
              have h5:=HXS.out.2
              have h6:=HB1.out
              rcases h with h | h
              ·omega
              ·have h7:=(own_lt2 (HFM.out.1 0 (by omega)) h).1
               omega))
             have HBN:=Lib.hid (Nat.le_trans HBL.out HFR.size)
             clear hrow hm ho7 hg7 hb7 hxw hown6 hown7 hloc2 HFR HFR2))
         go_wp2_with fail
         go_roundw
         case rel=>exact ⟨i+1,_,_,rfl,by go_num,hlt,HLS9.out,HXBN.out,HSBN.out,HFMN.out,HFTN.out,HXN.out,HBN.out⟩
         case measure=>simp [intOf] <;> omega
      cases pc with
      | true =>
       have hpr:i < pn:=by have:=HPC.out; simp only [decide_eq_true_eq] at this; omega
       obtain ⟨pb,po,rfl,hpb,hpc⟩:=HPF.out (by omega)
       obtain ⟨hp1,hp2,hp3⟩:=hpc i hpr
       obtain ⟨x,hx⟩:∃ x:Nat,at0 t.prio i=x:=⟨(at0 t.prio i).toNat,by omega⟩
       obtain ⟨y,hy⟩:∃ y:Nat,x % 4=y:=⟨_,rfl⟩
       have hy4:y < 4:=by omega
       have hmx:Int.tmod (x:Int) 4=(y:Int):=by rw [← hy]; rfl
       have hmy:(x:Int) % 4=(y:Int):=by omega
       have HIDT:=Lib.hid (show idT t i=(i:Int)+1+(y:Int)*281474976710656 from by
        unfold idT
        rw [HPN.out,if_pos hpr,hx]
        omega)
       rw [hx] at hp1
       have HPC2:=Lib.hid (show ∀ W',Ext w W'→W'.cell? ⟨pb,po+i,none⟩=some (.int .u8 (x:Int)) from fun W' h=>(h.cell hpb).trans hp1)
       have hx256:x < 256:=by omega
       have hwy:IntKind.u64.wrap (y:Int)=(y:Int):=by rw [IntKind.wrap_u64]; omega
       have hwy1:IntKind.u64.wrap ((y:Int)*281474976710656)=(y:Int)*281474976710656:=by rw [IntKind.wrap_u64]; omega
       have hwy2:IntKind.u64.wrap ((i:Int)+1+(y:Int)*281474976710656)=(i:Int)+1+(y:Int)*281474976710656:=by rw [IntKind.wrap_u64]; omega
       clear hp1 hp2 hp3 hpc hpb hx hy
       go_wp2_with fail
       refine beginZ (S:=fun W'=>Ext wh W'∧W'.heap[G]?=some (.cells #[.int .u64 ((i:Int)+1),.bool rb,.slice none 0 0] 63 (0,0))) 12 (by kernel_rfl) ?_
       intro wd hqx
       have hq0:(fun W'=>Ext wh W'∧W'.heap[G]?=some (.cells #[.int .u64 ((i:Int)+1),.bool rb,.slice none 0 0] 63 (0,0))) wd:=⟨hqx,(hqx.block G (heap_lt (HG.out))).trans (HG.out)⟩
       refine takeZ (i:=0) (z:=12) (v:=(.pointer (some ⟨G,0,none⟩))) rfl rfl (by kernel_rfl) (by kernel_rfl) (by kernel_rfl) (by kernel_rfl) (by kernel_rfl) (by kernel_rfl) (fun _ _ _ h=>h) (Or.inl ⟨rfl,fun _ _=>rfl⟩) hq0 ?_
       simp only [ps]
       refine takeZ (i:=1) (z:=12) (v:=_) rfl rfl (by kernel_rfl) (by kernel_rfl) (by kernel_rfl) (by kernel_rfl) (by kernel_rfl) (by kernel_rfl) (fun _ _ _ h=>h) (yieldsIf_cell rfl 53 _ rfl ⟨G,0,none⟩ rfl (.int .u64 ((i:Int)+1)) _ (fun W' hW'=>(show W'.cell? ⟨G,0,none⟩=_ by rw [cell_row hW'.2]; rfl)) Try.underlying53 rfl) hq0 ?_
       simp only [ps]
       refine takeZ (i:=2) (z:=12) (v:=(.pointer (some ⟨X,1,none⟩))) rfl rfl (by kernel_rfl) (by kernel_rfl) (by kernel_rfl) (by kernel_rfl) (by kernel_rfl) (by kernel_rfl) (fun _ _ _ h=>h) (Or.inl ⟨rfl,fun _ _=>rfl⟩) hq0 ?_
       simp only [ps]
       refine takeZ (i:=3) (z:=12) (v:=_) rfl rfl (by kernel_rfl) (by kernel_rfl) (by kernel_rfl) (by kernel_rfl) (by kernel_rfl) (by kernel_rfl) (fun _ _ _ h=>h) (yieldsIf_cell rfl 22 _ rfl ⟨X,1,none⟩ rfl (.slice (some ⟨pb,po,none⟩) pn pcap) _ (fun W' hW'=>(HX1.out.ext (HXL.out.trans (HX5.out.trans hW'.1))).cell 1 rfl) Try.underlying22 rfl) hq0 ?_
       simp only [ps]
       refine takeZ (i:=4) (z:=12) (v:=(.int .i64 (i:Int))) rfl rfl (by kernel_rfl) (by kernel_rfl) (by kernel_rfl) (by kernel_rfl) (by kernel_rfl) (by kernel_rfl) (fun _ _ _ h=>h) (Or.inl ⟨rfl,fun _ _=>rfl⟩) hq0 ?_
       simp only [ps]
       refine takeZ (i:=5) (z:=12) (v:=(.pointer (some ⟨pb,po+i,none⟩))) rfl rfl (by kernel_rfl) (by kernel_rfl) (by kernel_rfl) (by kernel_rfl) (by kernel_rfl) (by kernel_rfl) (fun _ _ _ h=>h) (Or.inl ⟨rfl,fun W' _=>by go_simp <;> (intro h; omega)⟩) hq0 ?_
       simp only [ps]
       refine takeZ (i:=6) (z:=12) (v:=_) rfl rfl (by kernel_rfl) (by kernel_rfl) (by kernel_rfl) (by kernel_rfl) (by kernel_rfl) (by kernel_rfl) (fun _ _ _ h=>h) (yieldsIf_cell rfl 5 _ rfl ⟨pb,po+i,none⟩ rfl (.int .u8 (x:Int)) _ (fun W' hW'=>HPC2.out W' (HE1.out.trans (HXL.out.trans (HX5.out.trans hW'.1)))) Try.underlying5 rfl) hq0 ?_
       simp only [ps]
       refine takeZ (i:=7) (z:=12) (v:=(.int .u8 (y:Int))) rfl rfl (by kernel_rfl) (by kernel_rfl) (by kernel_rfl) (by kernel_rfl) (by kernel_rfl) (by kernel_rfl) (fun _ _ _ h=>h) (Or.inl ⟨rfl,fun W' _=>by go_simp <;> omega⟩) hq0 ?_
       simp only [ps]
       refine takeZ (i:=8) (z:=12) (v:=(.int .u64 (y:Int))) rfl rfl (by kernel_rfl) (by kernel_rfl) (by kernel_rfl) (by kernel_rfl) (by kernel_rfl) (by kernel_rfl) (fun _ _ _ h=>h) (Or.inl ⟨rfl,fun W' _=>by go_simp <;> exact hwy⟩) hq0 ?_
       simp only [ps]
       refine takeZ (i:=9) (z:=12) (v:=(.int .u64 ((y:Int)*281474976710656))) rfl rfl (by kernel_rfl) (by kernel_rfl) (by kernel_rfl) (by kernel_rfl) (by kernel_rfl) (by kernel_rfl) (fun _ _ _ h=>h) (Or.inl ⟨rfl,fun W' _=>by go_simp <;> exact hwy1⟩) hq0 ?_
       simp only [ps]
       refine takeZ (i:=10) (z:=12) (v:=(.int .u64 ((i:Int)+1+(y:Int)*281474976710656))) rfl rfl (by kernel_rfl) (by kernel_rfl) (by kernel_rfl) (by kernel_rfl) (by kernel_rfl) (by kernel_rfl) (fun _ _ _ h=>h) (Or.inl ⟨rfl,fun W' _=>by go_simp <;> exact hwy2⟩) hq0 ?_
       simp only [ps]
       refine takeZ (i:=11) (z:=12) (v:=(.pointer (some ⟨G,0,none⟩))) rfl rfl (by kernel_rfl) (by kernel_rfl) (by kernel_rfl) (by kernel_rfl) (by kernel_rfl) (by kernel_rfl) (fun _ _ _ h=>h) (Or.inl ⟨rfl,fun _ _=>rfl⟩) hq0 ?_
       simp only [ps]
       refine runZl (z:=12) rfl rfl (by kernel_rfl) (fun K hK=>?_)
       refine wp_st_at rfl 53 _ _ rfl G 0 _ #[.int .u64 ((i:Int)+1+(y:Int)*281474976710656)] _ #[.int .u64 ((i:Int)+1+(y:Int)*281474976710656),.bool rb,.slice none 0 0] _ rfl rfl rfl hq0.2 (by exact (by decide:0+1≤3)) (by kernel_rfl) rfl rfl (fun ws12 hrow12 hm12=>?_)
       refine hK.out _ _ ?_
       try simp only [ps]
       clear hK K
       have HR11:=Lib.hid hrow12
       have HX11:=Lib.hid ((HX5.out.trans hqx).mutE hm12 (fun g h1 h2=>by have h3:g=G:=h2; have h4:=HGW.out; omega))
       clear hrow12 hm12 hq0 hqx
       refine wpAnyH_done (by kernel_rfl) ?_ _
       go_wp2_with fail
       go_meet
       exact ⟨rfl,by rw [HIDT.out,← HRB2.out]; exact HR11.out,HX11.out⟩
      | false =>
       have hpr:¬ i < pn:=by have:=HPC.out; simp only [decide_eq_false_iff_not] at this; omega
       have HIDT:=Lib.hid (show idT t i=(i:Int)+1 from by
        unfold idT
        rw [HPN.out,if_neg hpr]
        omega)
       go_wp2_with fail
       go_meet
       exact ⟨rfl,by rw [HIDT.out,← HRB2.out]; exact HG.out,HX5.out⟩
    ·have dlt:decide ((i:Int) < (n:Int))=false:=by simp; omega
     obtain rfl:n=i:=by omega
     have hn0:=HFM.out.1 0 (by omega)
     rw [HFT.out.nd] at hn0
     have hn1:wl.ownsRow B 63 3 (F 0).v n (ncL t (fun j=>(F (7+j)).v) n):=hn0
     have hone:(F 0).v.oneCell'=true:=by
      obtain ⟨a,c,e⟩:=own_form2 hn1
      rw [e]
      rfl
     have HONE:=Lib.hid hone
     have HRBL:=Lib.hid (HRB.out.ext HXL.out)
     have hones:(#[.int .i64 0,.int .i64 20,.int .i64 2,.int .i64 15,.int .i64 6,.int .i64 20,.int .i64 300,(F 0).v,.slice (some ⟨SB,0,none⟩) 6 6]:Array Value).toList.all (·.oneCell')=true:=by
      show (true && (true && (true && (true && (true && (true && (true && ((F 0).v.oneCell' && true))))))))=true
      rw [hone]
      rfl
     have HONS:=Lib.hid hones
     clear hn0 hn1 hone hones
     go_wp2_with (first
      | fail
      | ((with_reducible refine at_load 32 ?_); refine wpList_load_row rfl 32 _ rfl XB rfl 32 #[.int .i64 0,.int .i64 20,.int .i64 2,.int .i64 15,.int .i64 6,.int .i64 20,.int .i64 300,(F 0).v,.slice (some ⟨SB,0,none⟩) 6 6] (0,0) _ HXB.out Try.underlying32 rfl size_rn ?_)
      | ((with_reducible refine at_store 32 ?_); refine st_at rfl rfl 32 _ _ rfl RB 0 _ #[.int .i64 0,.int .i64 20,.int .i64 2,.int .i64 15,.int .i64 6,.int .i64 20,.int .i64 300,(F 0).v,.slice (some ⟨SB,0,none⟩) 6 6] NZ #[.int .i64 0,.int .i64 20,.int .i64 2,.int .i64 15,.int .i64 6,.int .i64 20,.int .i64 300,(F 0).v,.slice (some ⟨SB,0,none⟩) 6 6] 32 rfl rfl rfl HRBL.out (by exact (by decide:0+9≤9)) (by kernel_rfl) (HONS.out) rfl ?_
         intro wz hqz hmz
         have HRZ:=Lib.hid hqz
         have HMZ:=Lib.hid hmz
         clear hqz hmz))
     refine bodyPost_ret (results_crt rfl _ _ RB _ _ (0,0) _ rfl HRZ.out Try.underlying32 rfl size_rn) rfl ?_
     have hrb1:RB < w1.heap.size:=heap_lt HRB.out
     have hX:=(HE1.out.trans HXL.out).mutE HMZ.out (fun g h1 h2=>by have h3:g=RB:=h2; have h4:=HRW.out; omega)
     have hok:okT t=true:=by
      unfold okT
      rw [decide_eq_true_eq,HN.out]
      refine ⟨by omega,by omega,fun l hl=>?_⟩
      obtain ⟨j,hj,rfl⟩:=List.getElem_of_mem hl
      have h2:=HLS.out j (by rw [HN.out] at hj; exact hj)
      rw [List.getD_eq_getElem?_getD,List.getElem?_eq_getElem hj] at h2
      exact h2
     have hfz:Fam wz B (7+n) F:=HFM.out.mut HMZ.out (fun j hj g h1 h2=>by have h3:g=RB:=h2; have h4:=(own_lt2 (HFM.out.1 j hj) h1).1; have h5:=HB1.out; omega)
     have hsz:wz.heap[SB]?=some (.cells ((List.range 6).map (fun s=>(F (1+s)).v)).toArray 49 (0,0)):=(HMZ.out.heap (heap_lt HSB.out) (fun h=>by have h3:SB=RB:=h; have h4:=HSW1.out; omega)).trans HSB.out
     refine ⟨_,_,by rw [hok]; rfl,HONE.out,rfl,fun _=>?_,hX⟩
     have hft:=HFT.out
     rw [← HN.out] at hfz hft
     exact famT_at hfz hft (by rw [HN.out]; omega) (by rw [HN.out]; exact HLS.out) hsz
end Go.Proofs.Ytamnmjckhicapaa
