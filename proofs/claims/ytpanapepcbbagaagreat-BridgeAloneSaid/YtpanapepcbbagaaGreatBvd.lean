/- Part 4 of what BridgeRests stands on. No statement is proved here. -/
import Derived.Test.YtpanapepcbbagaaGreatBvc
set_option linter.unusedVariables false
set_option linter.unusedSimpArgs false
set_option maxRecDepth 100000
set_option maxHeartbeats 8000000
namespace Go.Proofs.YtpanapepcbbagaaGreat
open Go.RowKit Go.BigFrame Go.WideShapes Go.ChangeShapes Go.Deep
def nB(L:List Value):List Value:=(L.set 43 (.bool true)).set 44 (.bool false)
def qI(L:List Value):List Value:=(nB (((((((L.set 36 (.bool false)).set 34 (.bool false)).set 33 (.bool false)).set 22 (.bool false)).set 23 (.bool false)).set 11 (.int .i64 0)).set 86 (.int .i64 0))).set 18 (.int .i64 0)
def qJ(L:List Value):List Value:=(nB (L.set 86 (.int .i64 1))).set 18 (.int .i64 1)
def lO(kd ro:Int):Bool:=(kd == 0) || ((kd == 2) && (ro == 4))
def aDA(kd ro:Int):Bool:=(kd == 2) && ((ro == 3) || (ro == 1) || (ro == 2))
def dU(p:Bool)(L:List Value):List Value:=match p with|true=>L.set 33 (.bool true)|false=>L
def iF(a:Bool)(L:List Value):List Value:=match a with|true=>(L.set 23 (.bool true)).set 34 (.bool false)|false=>L.set 23 (.bool false)
def l8(a b:Bool)(L:List Value):List Value:=(L.set 39 (.bool a)).set 40 (.bool b)
def aAW(d:Bool)(L:List Value):List Value:=match d with|true=>(L.set 24 (.bool true)).set 23 (.bool false)|false=>L
def aAX(t:Bool)(L:List Value):List Value:=match t with|true=>L.set 41 (.bool true)|false=>L
theorem jM{x y:Int}(h:¬x=y):(x == y)=false:=by simpa using h
theorem dV(kd ro r c b p x a m h d:Int)(ch ak pr ag ln fw:Bool)(w:World):Calls Tryz.prog 173 #[.agg #[.int .i64 kd,.bool ch,.bool ak,.bool pr,.bool ag,.bool ln,.bool fw,.int .i64 ro,.int .u64 r,.int .u32 c,.int .u64 b,.int .u16 p,.int .u16 x,.int .i64 a,.int .i64 m,.int .i64 h,.int .i64 d]] w fun e w'=>e=.returned (.bool (lO kd ro))∧Ext w w':=by
 unfold lO
 by_cases h0:kd=0
 ·subst h0
  go_enter Tryz.func173,Tryz.ntmps173
  go_wp2
  go_ret
  exact⟨rfl,(Ext.refl w).alloc _⟩
 have b0:(kd == 0)=false:=by simpa using h0
 by_cases h2:kd=2
 ·subst h2
  clear h0
  go_enter Tryz.func173,Tryz.ntmps173
  go_wp2
  go_ret
  exact⟨by simp,(Ext.refl w).alloc _⟩
 ·have b2:(kd == 2)=false:=by simpa using h2
  clear h0 h2
  go_enter Tryz.func173,Tryz.ntmps173
  go_wp2
  go_ret
  exact⟨by simp[b0,b2],(Ext.refl w).alloc _⟩
theorem tJ(kd ro r c b p x a m h d:Int)(ch ak pr ag ln fw:Bool)(w:World):Calls Tryz.prog 175 #[.agg #[.int .i64 kd,.bool ch,.bool ak,.bool pr,.bool ag,.bool ln,.bool fw,.int .i64 ro,.int .u64 r,.int .u32 c,.int .u64 b,.int .u16 p,.int .u16 x,.int .i64 a,.int .i64 m,.int .i64 h,.int .i64 d]] w fun e w'=>e=.returned (.bool (aDA kd ro))∧Ext w w':=by
 unfold aDA
 by_cases h2:kd=2
 ·subst h2
  by_cases r3:ro=3
  ·subst r3
   go_enter Tryz.func175,Tryz.ntmps175
   go_wp2
   go_ret
   exact⟨rfl,(Ext.refl w).alloc _⟩
  have c3:(ro == 3)=false:=by simpa using r3
  by_cases r1:ro=1
  ·subst r1
   clear r3
   go_enter Tryz.func175,Tryz.ntmps175
   go_wp2
   go_ret
   exact⟨rfl,(Ext.refl w).alloc _⟩
  have c1:(ro == 1)=false:=by simpa using r1
  clear r3 r1
  go_enter Tryz.func175,Tryz.ntmps175
  go_wp2
  go_ret
  exact⟨by simp[c1,c3],(Ext.refl w).alloc _⟩
 ·have b2:(kd == 2)=false:=by simpa using h2
  have b3:(kd != 2)=true:=by simpa using h2
  clear h2
  go_enter Tryz.func175,Tryz.ntmps175
  go_wp2
  go_ret
  exact⟨by simp[b2],(Ext.refl w).alloc _⟩
theorem sC{w:World}(G o:Nat)(L:List Value)(hP_w:Pv w G o L)(hl:L.length=89)(rst:Bool):Calls Tryz.prog 138 #[.agg #[.pointer (some ⟨G,o,none⟩),.bool rst]] w fun e w'=>e=.returned (.tuple #[])∧Pv w' G o (nB L)∧Pm G o w w':=by
 have hG:=hP_w.lt
 have HLEN:=hD hl
 clear hl
 go_enter Tryz.func138,Tryz.ntmps138
 go_wp2_with (first
  | fail
  | ((with_reducible refine bP 110 ?_);refine bQ rfl 110 _ rfl #[.pointer (some ⟨G,o,none⟩),.bool rst] rfl ?_
     intro H0 z1 hq hs hx
     have E_z1:Pm G o w z1:=Ext.pm hx G o
     have hP_z1:Pv z1 G o L:=hP_w.ext hx
     have hH_z1:z1.heap[H0]?=some (.cells #[.pointer (some ⟨G,o,none⟩),.bool rst] 110 (0,0)):=hq
     have hb_H0:w.heap.size≤H0:=by omega
     have hn_H0G:H0≠G:=by omega
     have rH0_z1:=cV hH_z1
     have rH1_z1:=dA hH_z1
     clear hP_w
     clear hq hs hx))
 refine fD (S:=fun W'=>Ext z1 W') (S2:=fun W'=>Pm G o z1 W') 7 (by kernel_rfl) ?_
 intro wd hqx
 have hq0:Ext z1 wd:=hqx
 refine cA 0 7 H0 0 rfl rfl hq0 ?_
 refine tW 1 7 (_) rfl rfl (aA rfl 79 _ rfl ⟨H0,0,none⟩ rfl (.pointer (some ⟨G,o,none⟩)) _ (fun W' hW'=>(cell_of_row _ _ _ _ _ _ ((hW'.block _ (aC hH_z1)).trans hH_z1)).trans rfl) Tryz.underlying79 rfl) hq0 ?_
 refine gV 2 7 H0 0 rfl hq0 ?_
 refine tV 3 7 (_) rfl (aA rfl 79 _ rfl ⟨H0,0,none⟩ rfl (.pointer (some ⟨G,o,none⟩)) _ (fun W' hW'=>(cell_of_row _ _ _ _ _ _ (Pm.row hW' hH_z1 (show H0≠G by omega))).trans rfl) Tryz.underlying79 rfl) hq0 ?_
 refine gV 4 7 G o rfl hq0 ?_
 refine gV 5 7 G (o+22) rfl hq0 ?_
 refine cA 6 7 G (o+43) rfl rfl hq0 ?_
 refine iC (z:=7) rfl rfl (by kernel_rfl) (fun K hK=>?_)
 refine bT rfl 4 _ _ rfl G o 43 _ (hP_z1.ext hq0) _ #[.bool true] rfl rfl rfl (by exact(by decide:43+1≤89)) (by kernel_rfl) rfl (fun ws7 hp7 hm7=>?_)
 replace hp7:=aO hp7 HLEN.out (by decide)
 have hr7:Pm G o z1 ws7:=(Ext.pm hq0 G o).trans hm7
 refine hK.out _ _ hr7 (fun _=>?_)
 try simp only[ps]
 clear hK K
 refine aH 8 G o rfl hr7 ?_
 refine aH 9 G (o+22) rfl hr7 ?_
 refine aH 10 G (o+44) rfl hr7 ?_
 refine bB (i:=11) rfl rfl (by kernel_rfl) (fun K hK=>?_)
 refine bT rfl 4 _ _ rfl G o 44 _ hp7 _ #[.bool false] rfl rfl rfl (by exact(by decide:44+1≤89)) (by kernel_rfl) rfl (fun ws11 hp11 hm11=>?_)
 replace hp11:=aO hp11 (aB HLEN.out) (by decide)
 have hr11:Pm G o z1 ws11:=hr7.trans hm11
 refine hK.out _ _ hr11 (fun _=>?_)
 try simp only[ps]
 clear hK K
 refine wpAnyH_done (by kernel_rfl) ?_ _
 generalize ws11=z2 at *
 have hP_z2:Pv z2 G o ((L.set 43 (.bool true)).set 44 (.bool false)):=hp11
 have hH_z2:z2.heap[H0]?=some (.cells #[.pointer (some ⟨G,o,none⟩),.bool rst] 110 (0,0)):=(hm11.row (hm7.row ((hq0.block _ (aC hH_z1)).trans hH_z1) (show H0≠G by omega)) (show H0≠G by omega))
 have E_z2:Pm G o w z2:=((E_z1.ext hq0).trans hm7).trans hm11
 have rH0_z2:=cV hH_z2
 have rH1_z2:=dA hH_z2
 clear hH_z1 hP_z1 E_z1 rH0_z1 rH1_z1
 clear hq0 hqx hm7 hm11 hp7 hp11 hr7 hr11
 go_wp2_with fail
 go_end0
 exact⟨rfl,hP_z2,E_z2⟩
theorem tK{w:World}(G o:Nat)(L:List Value)(hP_w:Pv w G o L)(hl:L.length=89)(rst:Bool):Calls Tryz.prog 78 #[.agg #[.pointer (some ⟨G,o,none⟩),.bool rst]] w fun e w'=>e=.returned (.tuple #[])∧Pv w' G o (qI L)∧Pm G o w w':=by
 have hG:=hP_w.lt
 have HLEN:=hD hl
 clear hl
 go_enter Tryz.func78,Tryz.ntmps78
 go_wp2_with (first
  | fail
  | ((with_reducible refine bP 110 ?_);refine bQ rfl 110 _ rfl #[.pointer (some ⟨G,o,none⟩),.bool rst] rfl ?_
     intro H0 z1 hq hs hx
     have E_z1:Pm G o w z1:=Ext.pm hx G o
     have hP_z1:Pv z1 G o L:=hP_w.ext hx
     have hH_z1:z1.heap[H0]?=some (.cells #[.pointer (some ⟨G,o,none⟩),.bool rst] 110 (0,0)):=hq
     have hb_H0:w.heap.size≤H0:=by omega
     have hn_H0G:H0≠G:=by omega
     have rH0_z1:=cV hH_z1
     have rH1_z1:=dA hH_z1
     clear hP_w
     clear hq hs hx)
  | ((with_reducible refine aD 4 ?_);refine bI rfl rfl 4 _ _ rfl G o 36 _ hP_z1 _ #[.bool false] rfl rfl rfl (by exact(by decide:36+1≤89)) (by kernel_rfl) rfl ?_
     intro z2 hp hm
     replace hp:=aO hp HLEN.out (by decide)
     have hP_z2:=hp
     have hH_z2:=hm.row hH_z1 (show H0≠G by omega)
     have E_z2:Pm G o w z2:=E_z1.trans hm
     have rH0_z2:=cV hH_z2
     have rH1_z2:=dA hH_z2
     clear hH_z1 hP_z1 E_z1 rH0_z1 rH1_z1
     clear hp hm)
  | ((with_reducible refine aD 4 ?_);refine bI rfl rfl 4 _ _ rfl G o 34 _ hP_z2 _ #[.bool false] rfl rfl rfl (by exact(by decide:34+1≤89)) (by kernel_rfl) rfl ?_
     intro z3 hp hm
     replace hp:=aO hp (aB HLEN.out) (by decide)
     have hP_z3:=hp
     have hH_z3:=hm.row hH_z2 (show H0≠G by omega)
     have E_z3:Pm G o w z3:=E_z2.trans hm
     have rH0_z3:=cV hH_z3
     have rH1_z3:=dA hH_z3
     clear hH_z2 hP_z2 E_z2 rH0_z2 rH1_z2
     clear hp hm)
  | ((with_reducible refine aD 4 ?_);refine bI rfl rfl 4 _ _ rfl G o 33 _ hP_z3 _ #[.bool false] rfl rfl rfl (by exact(by decide:33+1≤89)) (by kernel_rfl) rfl ?_
     intro z4 hp hm
     replace hp:=aO hp (aB (aB HLEN.out)) (by decide)
     have hP_z4:=hp
     have hH_z4:=hm.row hH_z3 (show H0≠G by omega)
     have E_z4:Pm G o w z4:=E_z3.trans hm
     have rH0_z4:=cV hH_z4
     have rH1_z4:=dA hH_z4
     clear hH_z3 hP_z3 E_z3 rH0_z3 rH1_z3
     clear hp hm)
  | ((with_reducible refine aD 4 ?_);refine bI rfl rfl 4 _ _ rfl G o 22 _ hP_z4 _ #[.bool false] rfl rfl rfl (by exact(by decide:22+1≤89)) (by kernel_rfl) rfl ?_
     intro z5 hp hm
     replace hp:=aO hp (aB (aB (aB HLEN.out))) (by decide)
     have hP_z5:=hp
     have hH_z5:=hm.row hH_z4 (show H0≠G by omega)
     have E_z5:Pm G o w z5:=E_z4.trans hm
     have rH0_z5:=cV hH_z5
     have rH1_z5:=dA hH_z5
     clear hH_z4 hP_z4 E_z4 rH0_z4 rH1_z4
     clear hp hm)
  | ((with_reducible refine aD 4 ?_);refine bI rfl rfl 4 _ _ rfl G o 23 _ hP_z5 _ #[.bool false] rfl rfl rfl (by exact(by decide:23+1≤89)) (by kernel_rfl) rfl ?_
     intro z6 hp hm
     replace hp:=aO hp (aB (aB (aB (aB HLEN.out)))) (by decide)
     have hP_z6:=hp
     have hH_z6:=hm.row hH_z5 (show H0≠G by omega)
     have E_z6:Pm G o w z6:=E_z5.trans hm
     have rH0_z6:=cV hH_z6
     have rH1_z6:=dA hH_z6
     clear hH_z5 hP_z5 E_z5 rH0_z5 rH1_z5
     clear hp hm)
  | ((with_reducible refine aD 3 ?_);refine bI rfl rfl 3 _ _ rfl G o 11 _ hP_z6 _ #[.int .i64 0] rfl rfl rfl (by exact(by decide:11+1≤89)) (by kernel_rfl) rfl ?_
     intro z7 hp hm
     replace hp:=aO hp (aB (aB (aB (aB (aB HLEN.out))))) (by decide)
     have hP_z7:=hp
     have hH_z7:=hm.row hH_z6 (show H0≠G by omega)
     have E_z7:Pm G o w z7:=E_z6.trans hm
     have rH0_z7:=cV hH_z7
     have rH1_z7:=dA hH_z7
     clear hH_z6 hP_z6 E_z6 rH0_z6 rH1_z6
     clear hp hm)
  | ((with_reducible refine aD 3 ?_);refine bI rfl rfl 3 _ _ rfl G o 86 _ hP_z7 _ #[.int .i64 0] rfl rfl rfl (by exact(by decide:86+1≤89)) (by kernel_rfl) rfl ?_
     intro z8 hp hm
     replace hp:=aO hp (aB (aB (aB (aB (aB (aB HLEN.out)))))) (by decide)
     have hP_z8:=hp
     have hH_z8:=hm.row hH_z7 (show H0≠G by omega)
     have E_z8:Pm G o w z8:=E_z7.trans hm
     have rH0_z8:=cV hH_z8
     have rH1_z8:=dA hH_z8
     clear hH_z7 hP_z7 E_z7 rH0_z7 rH1_z7
     clear hp hm)
  | ((with_reducible refine aG 110 ?_);refine wpList_load_row rfl 110 _ rfl H0 rfl 110 #[.pointer (some ⟨G,o,none⟩),.bool rst] (0,0) _ hH_z8 Tryz.underlying110 rfl (by kernel_rfl) ?_))
 refine(sC G o _ hP_z8 (aB (aB (aB (aB (aB (aB (aB HLEN.out))))))) rst).mono ?_
 rintro e z9 ⟨rfl,hp,hm⟩
 have hP_z9:Pv z9 G o (((((((((L.set 36 (.bool false)).set 34 (.bool false)).set 33 (.bool false)).set 22 (.bool false)).set 23 (.bool false)).set 11 (.int .i64 0)).set 86 (.int .i64 0)).set 43 (.bool true)).set 44 (.bool false)):=hp
 have hH_z9:=hm.row hH_z8 (show H0≠G by omega)
 have E_z9:Pm G o w z9:=E_z8.trans hm
 have rH0_z9:=cV hH_z9
 have rH1_z9:=dA hH_z9
 clear hH_z8 hP_z8 E_z8 rH0_z8 rH1_z8
 clear hp hm
 go_wp2_with (first
  | fail
  | ((with_reducible refine aD 3 ?_);refine bI rfl rfl 3 _ _ rfl G o 18 _ hP_z9 _ #[.int .i64 0] rfl rfl rfl (by exact(by decide:18+1≤89)) (by kernel_rfl) rfl ?_
     intro z10 hp hm
     replace hp:=aO hp (aB (aB (aB (aB (aB (aB (aB (aB (aB HLEN.out))))))))) (by decide)
     have hP_z10:=hp
     have hH_z10:=hm.row hH_z9 (show H0≠G by omega)
     have E_z10:Pm G o w z10:=E_z9.trans hm
     have rH0_z10:=cV hH_z10
     have rH1_z10:=dA hH_z10
     clear hH_z9 hP_z9 E_z9 rH0_z9 rH1_z9
     clear hp hm))
 go_end0
 exact⟨rfl,hP_z10,E_z10⟩
theorem aF4{w:World}(G o:Nat)(L:List Value)(hP_w:Pv w G o L)(hl:L.length=89)(rst:Bool):Calls Tryz.prog 79 #[.agg #[.pointer (some ⟨G,o,none⟩),.bool rst]] w fun e w'=>e=.returned (.tuple #[])∧Pv w' G o (qJ L)∧Pm G o w w':=by
 have hG:=hP_w.lt
 have HLEN:=hD hl
 clear hl
 go_enter Tryz.func79,Tryz.ntmps79
 go_wp2_with (first
  | fail
  | ((with_reducible refine bP 110 ?_);refine bQ rfl 110 _ rfl #[.pointer (some ⟨G,o,none⟩),.bool rst] rfl ?_
     intro H0 z1 hq hs hx
     have E_z1:Pm G o w z1:=Ext.pm hx G o
     have hP_z1:Pv z1 G o L:=hP_w.ext hx
     have hH_z1:z1.heap[H0]?=some (.cells #[.pointer (some ⟨G,o,none⟩),.bool rst] 110 (0,0)):=hq
     have hb_H0:w.heap.size≤H0:=by omega
     have hn_H0G:H0≠G:=by omega
     have rH0_z1:=cV hH_z1
     have rH1_z1:=dA hH_z1
     clear hP_w
     clear hq hs hx)
  | ((with_reducible refine aD 3 ?_);refine bI rfl rfl 3 _ _ rfl G o 86 _ hP_z1 _ #[.int .i64 1] rfl rfl rfl (by exact(by decide:86+1≤89)) (by kernel_rfl) rfl ?_
     intro z2 hp hm
     replace hp:=aO hp HLEN.out (by decide)
     have hP_z2:=hp
     have hH_z2:=hm.row hH_z1 (show H0≠G by omega)
     have E_z2:Pm G o w z2:=E_z1.trans hm
     have rH0_z2:=cV hH_z2
     have rH1_z2:=dA hH_z2
     clear hH_z1 hP_z1 E_z1 rH0_z1 rH1_z1
     clear hp hm)
  | ((with_reducible refine aG 110 ?_);refine wpList_load_row rfl 110 _ rfl H0 rfl 110 #[.pointer (some ⟨G,o,none⟩),.bool rst] (0,0) _ hH_z2 Tryz.underlying110 rfl (by kernel_rfl) ?_))
 refine(sC G o _ hP_z2 (aB HLEN.out) rst).mono ?_
 rintro e z3 ⟨rfl,hp,hm⟩
 have hP_z3:Pv z3 G o (((L.set 86 (.int .i64 1)).set 43 (.bool true)).set 44 (.bool false)):=hp
 have hH_z3:=hm.row hH_z2 (show H0≠G by omega)
 have E_z3:Pm G o w z3:=E_z2.trans hm
 have rH0_z3:=cV hH_z3
 have rH1_z3:=dA hH_z3
 clear hH_z2 hP_z2 E_z2 rH0_z2 rH1_z2
 clear hp hm
 go_wp2_with (first
  | fail
  | ((with_reducible refine aD 3 ?_);refine bI rfl rfl 3 _ _ rfl G o 18 _ hP_z3 _ #[.int .i64 1] rfl rfl rfl (by exact(by decide:18+1≤89)) (by kernel_rfl) rfl ?_
     intro z4 hp hm
     replace hp:=aO hp (aB (aB (aB HLEN.out))) (by decide)
     have hP_z4:=hp
     have hH_z4:=hm.row hH_z3 (show H0≠G by omega)
     have E_z4:Pm G o w z4:=E_z3.trans hm
     have rH0_z4:=cV hH_z4
     have rH1_z4:=dA hH_z4
     clear hH_z3 hP_z3 E_z3 rH0_z3 rH1_z3
     clear hp hm))
 go_end0
 exact⟨rfl,hP_z4,E_z4⟩
theorem tM{w:World}(G o:Nat)(L:List Value)(hP_w:Pv w G o L)(hl:L.length=89)(rst:Bool)(x64:Int)(h64:L[64]?=some (.int .i64 x64))(x65:Int)(h65:L[65]?=some (.int .i64 x65))(x66:Int)(h66:L[66]?=some (.int .i64 x66))(x67:Int)(h67:L[67]?=some (.int .i64 x67))(r1:0≤x64)(r2:x64≤65535)(r3:0≤x65)(r4:x65≤65535)(r5:0≤x66)(r6:x66≤65535):Calls Tryz.prog 172 #[.agg #[.pointer (some ⟨G,o,none⟩),.bool rst]] w fun e w'=>e=.returned (.tuple #[])∧Pv w' G o (L.set 11 (.int .i64 (dT x64 x65 x66)))∧Pm G o w w':=by
 have hG:=hP_w.lt
 have HLEN:=hD hl
 have HL_64:=hD h64
 have HL_65:=hD h65
 have HL_66:=hD h66
 have HL_67:=hD h67
 have HS_64:=hD (a7 (L:=L) (j:=64) (l:=[.int .i64 x64,.int .i64 x65,.int .i64 x66,.int .i64 x67]) (by rw[hl];exact(by decide:64+4≤89)) (fun i hi=>by
  match i,hi with
  | 0,_=>exact HL_64.out
  | 1,_=>exact HL_65.out
  | 2,_=>exact HL_66.out
  | 3,_=>exact HL_67.out
  | i+4,hi=>simp at hi;omega))
 clear hl h64 h65 h66 h67
 go_enter Tryz.func172,Tryz.ntmps172
 go_wp2_with (first
  | fail
  | ((with_reducible refine bP 110 ?_);refine bQ rfl 110 _ rfl #[.pointer (some ⟨G,o,none⟩),.bool rst] rfl ?_
     intro H0 z1 hq hs hx
     have E_z1:Pm G o w z1:=Ext.pm hx G o
     have hP_z1:Pv z1 G o L:=hP_w.ext hx
     have hH_z1:z1.heap[H0]?=some (.cells #[.pointer (some ⟨G,o,none⟩),.bool rst] 110 (0,0)):=hq
     have hb_H0:w.heap.size≤H0:=by omega
     have hn_H0G:H0≠G:=by omega
     have rH0_z1:=cV hH_z1
     have rH1_z1:=dA hH_z1
     clear hP_w
     clear hq hs hx))
 refine fD (S:=fun W'=>Ext z1 W') (S2:=fun W'=>Pm G o z1 W') 12 (by kernel_rfl) ?_
 intro wd hqx
 have hq0:Ext z1 wd:=hqx
 refine cA 0 12 H0 0 rfl rfl hq0 ?_
 refine tW 1 12 (_) rfl rfl (aA rfl 79 _ rfl ⟨H0,0,none⟩ rfl (.pointer (some ⟨G,o,none⟩)) _ (fun W' hW'=>(cell_of_row _ _ _ _ _ _ ((hW'.block _ (aC hH_z1)).trans hH_z1)).trans rfl) Tryz.underlying79 rfl) hq0 ?_
 refine cA 2 12 H0 0 rfl rfl hq0 ?_
 refine tW 3 12 (_) rfl rfl (aA rfl 79 _ rfl ⟨H0,0,none⟩ rfl (.pointer (some ⟨G,o,none⟩)) _ (fun W' hW'=>(cell_of_row _ _ _ _ _ _ ((hW'.block _ (aC hH_z1)).trans hH_z1)).trans rfl) Tryz.underlying79 rfl) hq0 ?_
 refine cA 4 12 G o rfl rfl hq0 ?_
 refine cA 5 12 G (o+51) rfl rfl hq0 ?_
 refine cA 6 12 G (o+64) rfl rfl hq0 ?_
 refine tW 7 12 (_) rfl rfl (yieldsIf_load_mid rfl 24 _ rfl G (o+64) rfl ([.int .i64 x64,.int .i64 x65,.int .i64 x66,.int .i64 x67]) _ (fun W' hW'=>(hP_z1.ext hW').range (j:=64) (n:=4) HS_64.out (by decide)) Tryz.underlying24 rfl (by kernel_rfl)) hq0 ?_
 refine runW (i:=8) rfl rfl (by kernel_rfl) (fun _ h=>Ext.pm h G o) (fun K hK=>?_)
 go_simp
 refine(aAV x64 x65 x66 x67 _ r1 r2 r3 r4 r5 r6).mono ?_
 rintro e wc1 ⟨rfl,hx⟩
 have hq1:=hq0.trans hx
 clear hx
 refine hK.out _ _ hq1 (fun hHeld=>?_)
 try simp only[ps]
 clear hK K hHeld
 refine gV 9 12 G o rfl hq1 ?_
 refine gV 10 12 G (o+6) rfl hq1 ?_
 refine cA 11 12 G (o+11) rfl rfl hq1 ?_
 refine iC (z:=12) rfl rfl (by kernel_rfl) (fun K hK=>?_)
 refine bT rfl 3 _ _ rfl G o 11 _ (hP_z1.ext hq1) _ #[.int .i64 (dT x64 x65 x66)] rfl rfl rfl (by exact(by decide:11+1≤89)) (by kernel_rfl) rfl (fun ws12 hp12 hm12=>?_)
 replace hp12:=aO hp12 HLEN.out (by decide)
 have hr12:Pm G o z1 ws12:=(Ext.pm hq1 G o).trans hm12
 refine hK.out _ _ hr12 (fun _=>?_)
 try simp only[ps]
 clear hK K
 refine wpAnyH_done (by kernel_rfl) ?_ _
 generalize ws12=z2 at *
 have hP_z2:Pv z2 G o (L.set 11 (.int .i64 (dT x64 x65 x66))):=hp12
 have hH_z2:z2.heap[H0]?=some (.cells #[.pointer (some ⟨G,o,none⟩),.bool rst] 110 (0,0)):=(hm12.row ((hq1.block _ (aC hH_z1)).trans hH_z1) (show H0≠G by omega))
 have E_z2:Pm G o w z2:=(E_z1.ext hq1).trans hm12
 have rH0_z2:=cV hH_z2
 have rH1_z2:=dA hH_z2
 clear hH_z1 hP_z1 E_z1 rH0_z1 rH1_z1
 clear hq0 hq1 hqx hm12 hp12 hr12
 go_wp2_with fail
 go_end0
 exact⟨rfl,hP_z2,E_z2⟩
theorem f8{P:Program}{f:FuncId}{args:Array Value}{w:World}{G o:Nat}{L1 L2:List Value}(h:Calls P f args w fun e w'=>e=.returned (.tuple #[])∧Pv w' G o L1∧Pm G o w w')(e:L1=L2):Calls P f args w fun e w'=>e=.returned (.tuple #[])∧Pv w' G o L2∧Pm G o w w':=e▸h
theorem jQ{w:World}(G o:Nat)(L:List Value)(hP_w:Pv w G o L)(hl:L.length=89)(rst:Bool)(x51:Int)(h51:L[51]?=some (.int .i64 x51))(x52:Bool)(h52:L[52]?=some (.bool x52))(x53:Bool)(h53:L[53]?=some (.bool x53))(x54:Bool)(h54:L[54]?=some (.bool x54))(x55:Bool)(h55:L[55]?=some (.bool x55))(x56:Bool)(h56:L[56]?=some (.bool x56))(x57:Bool)(h57:L[57]?=some (.bool x57))(x58:Int)(h58:L[58]?=some (.int .i64 x58))(x59:Int)(h59:L[59]?=some (.int .u64 x59))(x60:Int)(h60:L[60]?=some (.int .u32 x60))(x61:Int)(h61:L[61]?=some (.int .u64 x61))(x62:Int)(h62:L[62]?=some (.int .u16 x62))(x63:Int)(h63:L[63]?=some (.int .u16 x63))(x64:Int)(h64:L[64]?=some (.int .i64 x64))(x65:Int)(h65:L[65]?=some (.int .i64 x65))(x66:Int)(h66:L[66]?=some (.int .i64 x66))(x67:Int)(h67:L[67]?=some (.int .i64 x67)):Calls Tryz.prog 169 #[.agg #[.pointer (some ⟨G,o,none⟩),.bool rst]] w fun e w'=>e=.returned (.tuple #[])∧Pv w' G o (dU ((x51 == 2) && (x58 == 4) && x54) L)∧Pm G o w w':=by
 by_cases e51:x51=2
 ·subst e51
  by_cases e58:x58=4
  ·subst e58
   cases x54
   ·refine f8 (L1:=L) ?_ rfl
    have hG:=hP_w.lt
    have HLEN:=hD hl
    have HL_51:=hD h51
    have HL_52:=hD h52
    have HL_53:=hD h53
    have HL_54:=hD h54
    have HL_55:=hD h55
    have HL_56:=hD h56
    have HL_57:=hD h57
    have HL_58:=hD h58
    have HL_59:=hD h59
    have HL_60:=hD h60
    have HL_61:=hD h61
    have HL_62:=hD h62
    have HL_63:=hD h63
    have HL_64:=hD h64
    have HL_65:=hD h65
    have HL_66:=hD h66
    have HL_67:=hD h67
    have HS_51:=hD (a7 (L:=L) (j:=51) (l:=[.int .i64 2,.bool x52,.bool x53,.bool false,.bool x55,.bool x56,.bool x57,.int .i64 4,.int .u64 x59,.int .u32 x60,.int .u64 x61,.int .u16 x62,.int .u16 x63,.int .i64 x64,.int .i64 x65,.int .i64 x66,.int .i64 x67]) (by rw[hl];exact(by decide:51+17≤89)) (fun i hi=>by
     match i,hi with
     | 0,_=>exact HL_51.out
     | 1,_=>exact HL_52.out
     | 2,_=>exact HL_53.out
     | 3,_=>exact HL_54.out
     | 4,_=>exact HL_55.out
     | 5,_=>exact HL_56.out
     | 6,_=>exact HL_57.out
     | 7,_=>exact HL_58.out
     | 8,_=>exact HL_59.out
     | 9,_=>exact HL_60.out
     | 10,_=>exact HL_61.out
     | 11,_=>exact HL_62.out
     | 12,_=>exact HL_63.out
     | 13,_=>exact HL_64.out
     | 14,_=>exact HL_65.out
     | 15,_=>exact HL_66.out
     | 16,_=>exact HL_67.out
     | i+17,hi=>simp at hi;omega))
    clear hl h51 h52 h53 h54 h55 h56 h57 h58 h59 h60 h61 h62 h63 h64 h65 h66 h67
    go_enter Tryz.func169,Tryz.ntmps169
    go_wp2_with (first
     | fail
     | ((with_reducible refine bP 110 ?_);refine bQ rfl 110 _ rfl #[.pointer (some ⟨G,o,none⟩),.bool rst] rfl ?_
        intro H0 z1 hq hs hx
        have E_z1:Pm G o w z1:=Ext.pm hx G o
        have hP_z1:Pv z1 G o L:=hP_w.ext hx
        have hH_z1:z1.heap[H0]?=some (.cells #[.pointer (some ⟨G,o,none⟩),.bool rst] 110 (0,0)):=hq
        have hb_H0:w.heap.size≤H0:=by omega
        have hn_H0G:H0≠G:=by omega
        have rH0_z1:=cV hH_z1
        have rH1_z1:=dA hH_z1
        have p51_z1:z1.cell? ⟨G,o+51,none⟩=some (.int .i64 2):=(hP_z1.cell (j:=51) (by decide)).trans HL_51.out
        have p54_z1:z1.cell? ⟨G,o+54,none⟩=some (.bool false):=(hP_z1.cell (j:=54) (by decide)).trans HL_54.out
        clear hP_w
        clear hq hs hx)
     | ((with_reducible refine aG 46 ?_);refine wpList_load_mid rfl 46 _ rfl G (o+51) rfl [.int .i64 2,.bool x52,.bool x53,.bool false,.bool x55,.bool x56,.bool x57,.int .i64 4,.int .u64 x59,.int .u32 x60,.int .u64 x61,.int .u16 x62,.int .u16 x63,.int .i64 x64,.int .i64 x65,.int .i64 x66,.int .i64 x67] _ (hP_z1.range (j:=51) (n:=17) HS_51.out (by decide)) Tryz.underlying46 rfl (by kernel_rfl) ?_))
    refine(eM (dV _ _ _ _ _ _ _ _ _ _ _ _ _ _ _ _ _ _) (show _=true from rfl)).mono ?_
    rintro e z2 ⟨rfl,hx⟩
    have E_z2:Pm G o w z2:=E_z1.ext hx
    have hH_z2:z2.heap[H0]?=some (.cells #[.pointer (some ⟨G,o,none⟩),.bool rst] 110 (0,0)):=(hx.block _ (aC hH_z1)).trans hH_z1
    have hP_z2:Pv z2 G o L:=hP_z1.ext hx
    have rH0_z2:=cV hH_z2
    have rH1_z2:=dA hH_z2
    have p51_z2:z2.cell? ⟨G,o+51,none⟩=some (.int .i64 2):=(hP_z2.cell (j:=51) (by decide)).trans HL_51.out
    have p54_z2:z2.cell? ⟨G,o+54,none⟩=some (.bool false):=(hP_z2.cell (j:=54) (by decide)).trans HL_54.out
    clear hH_z1 hP_z1 E_z1 rH0_z1 rH1_z1 p51_z1 p54_z1
    clear hx
    go_wp2_with fail
    go_end0
    exact⟨rfl,hP_z2,E_z2⟩
   ·refine f8 (L1:=L.set 33 (.bool true)) ?_ rfl
    have hG:=hP_w.lt
    have HLEN:=hD hl
    have HL_51:=hD h51
    have HL_52:=hD h52
    have HL_53:=hD h53
    have HL_54:=hD h54
    have HL_55:=hD h55
    have HL_56:=hD h56
    have HL_57:=hD h57
    have HL_58:=hD h58
    have HL_59:=hD h59
    have HL_60:=hD h60
    have HL_61:=hD h61
    have HL_62:=hD h62
    have HL_63:=hD h63
    have HL_64:=hD h64
    have HL_65:=hD h65
    have HL_66:=hD h66
    have HL_67:=hD h67
    have HS_51:=hD (a7 (L:=L) (j:=51) (l:=[.int .i64 2,.bool x52,.bool x53,.bool true,.bool x55,.bool x56,.bool x57,.int .i64 4,.int .u64 x59,.int .u32 x60,.int .u64 x61,.int .u16 x62,.int .u16 x63,.int .i64 x64,.int .i64 x65,.int .i64 x66,.int .i64 x67]) (by rw[hl];exact(by decide:51+17≤89)) (fun i hi=>by
     match i,hi with
     | 0,_=>exact HL_51.out
     | 1,_=>exact HL_52.out
     | 2,_=>exact HL_53.out
     | 3,_=>exact HL_54.out
     | 4,_=>exact HL_55.out
     | 5,_=>exact HL_56.out
     | 6,_=>exact HL_57.out
     | 7,_=>exact HL_58.out
     | 8,_=>exact HL_59.out
     | 9,_=>exact HL_60.out
     | 10,_=>exact HL_61.out
     | 11,_=>exact HL_62.out
     | 12,_=>exact HL_63.out
     | 13,_=>exact HL_64.out
     | 14,_=>exact HL_65.out
     | 15,_=>exact HL_66.out
     | 16,_=>exact HL_67.out
     | i+17,hi=>simp at hi;omega))
    clear hl h51 h52 h53 h54 h55 h56 h57 h58 h59 h60 h61 h62 h63 h64 h65 h66 h67
    go_enter Tryz.func169,Tryz.ntmps169
    go_wp2_with (first
     | fail
     | ((with_reducible refine bP 110 ?_);refine bQ rfl 110 _ rfl #[.pointer (some ⟨G,o,none⟩),.bool rst] rfl ?_
        intro H0 z1 hq hs hx
        have E_z1:Pm G o w z1:=Ext.pm hx G o
        have hP_z1:Pv z1 G o L:=hP_w.ext hx
        have hH_z1:z1.heap[H0]?=some (.cells #[.pointer (some ⟨G,o,none⟩),.bool rst] 110 (0,0)):=hq
        have hb_H0:w.heap.size≤H0:=by omega
        have hn_H0G:H0≠G:=by omega
        have rH0_z1:=cV hH_z1
        have rH1_z1:=dA hH_z1
        have p51_z1:z1.cell? ⟨G,o+51,none⟩=some (.int .i64 2):=(hP_z1.cell (j:=51) (by decide)).trans HL_51.out
        have p54_z1:z1.cell? ⟨G,o+54,none⟩=some (.bool true):=(hP_z1.cell (j:=54) (by decide)).trans HL_54.out
        clear hP_w
        clear hq hs hx)
     | ((with_reducible refine aG 46 ?_);refine wpList_load_mid rfl 46 _ rfl G (o+51) rfl [.int .i64 2,.bool x52,.bool x53,.bool true,.bool x55,.bool x56,.bool x57,.int .i64 4,.int .u64 x59,.int .u32 x60,.int .u64 x61,.int .u16 x62,.int .u16 x63,.int .i64 x64,.int .i64 x65,.int .i64 x66,.int .i64 x67] _ (hP_z1.range (j:=51) (n:=17) HS_51.out (by decide)) Tryz.underlying46 rfl (by kernel_rfl) ?_))
    refine(eM (dV _ _ _ _ _ _ _ _ _ _ _ _ _ _ _ _ _ _) (show _=true from rfl)).mono ?_
    rintro e z2 ⟨rfl,hx⟩
    have E_z2:Pm G o w z2:=E_z1.ext hx
    have hH_z2:z2.heap[H0]?=some (.cells #[.pointer (some ⟨G,o,none⟩),.bool rst] 110 (0,0)):=(hx.block _ (aC hH_z1)).trans hH_z1
    have hP_z2:Pv z2 G o L:=hP_z1.ext hx
    have rH0_z2:=cV hH_z2
    have rH1_z2:=dA hH_z2
    have p51_z2:z2.cell? ⟨G,o+51,none⟩=some (.int .i64 2):=(hP_z2.cell (j:=51) (by decide)).trans HL_51.out
    have p54_z2:z2.cell? ⟨G,o+54,none⟩=some (.bool true):=(hP_z2.cell (j:=54) (by decide)).trans HL_54.out
    clear hH_z1 hP_z1 E_z1 rH0_z1 rH1_z1 p51_z1 p54_z1
    clear hx
    go_wp2_with (first
     | fail
     | ((with_reducible refine aD 4 ?_);refine bI rfl rfl 4 _ _ rfl G o 33 _ hP_z2 _ #[.bool true] rfl rfl rfl (by exact(by decide:33+1≤89)) (by kernel_rfl) rfl ?_
        intro z3 hp hm
        replace hp:=aO hp HLEN.out (by decide)
        have hP_z3:=hp
        have hH_z3:=hm.row hH_z2 (show H0≠G by omega)
        have E_z3:Pm G o w z3:=E_z2.trans hm
        have rH0_z3:=cV hH_z3
        have rH1_z3:=dA hH_z3
        have p51_z3:z3.cell? ⟨G,o+51,none⟩=some (.int .i64 2):=(hP_z3.cell (j:=51) (by decide)).trans ((aF (by decide)).trans HL_51.out)
        have p54_z3:z3.cell? ⟨G,o+54,none⟩=some (.bool true):=(hP_z3.cell (j:=54) (by decide)).trans ((aF (by decide)).trans HL_54.out)
        clear hH_z2 hP_z2 E_z2 rH0_z2 rH1_z2 p51_z2 p54_z2
        clear hp hm))
    go_end0
    exact⟨rfl,hP_z3,E_z3⟩
  ·refine f8 (L1:=L) ?_ (by rw[jM e58];cases x54<;>rfl)
   have c4:(x58 == 4)=false:=by simpa using e58
   clear e58
   have hG:=hP_w.lt
   have HLEN:=hD hl
   have HL_51:=hD h51
   have HL_52:=hD h52
   have HL_53:=hD h53
   have HL_54:=hD h54
   have HL_55:=hD h55
   have HL_56:=hD h56
   have HL_57:=hD h57
   have HL_58:=hD h58
   have HL_59:=hD h59
   have HL_60:=hD h60
   have HL_61:=hD h61
   have HL_62:=hD h62
   have HL_63:=hD h63
   have HL_64:=hD h64
   have HL_65:=hD h65
   have HL_66:=hD h66
   have HL_67:=hD h67
   have HS_51:=hD (a7 (L:=L) (j:=51) (l:=[.int .i64 2,.bool x52,.bool x53,.bool x54,.bool x55,.bool x56,.bool x57,.int .i64 x58,.int .u64 x59,.int .u32 x60,.int .u64 x61,.int .u16 x62,.int .u16 x63,.int .i64 x64,.int .i64 x65,.int .i64 x66,.int .i64 x67]) (by rw[hl];exact(by decide:51+17≤89)) (fun i hi=>by
    match i,hi with
    | 0,_=>exact HL_51.out
    | 1,_=>exact HL_52.out
    | 2,_=>exact HL_53.out
    | 3,_=>exact HL_54.out
    | 4,_=>exact HL_55.out
    | 5,_=>exact HL_56.out
    | 6,_=>exact HL_57.out
    | 7,_=>exact HL_58.out
    | 8,_=>exact HL_59.out
    | 9,_=>exact HL_60.out
    | 10,_=>exact HL_61.out
    | 11,_=>exact HL_62.out
    | 12,_=>exact HL_63.out
    | 13,_=>exact HL_64.out
    | 14,_=>exact HL_65.out
    | 15,_=>exact HL_66.out
    | 16,_=>exact HL_67.out
    | i+17,hi=>simp at hi;omega))
   clear hl h51 h52 h53 h54 h55 h56 h57 h58 h59 h60 h61 h62 h63 h64 h65 h66 h67
   go_enter Tryz.func169,Tryz.ntmps169
   go_wp2_with (first
    | fail
    | ((with_reducible refine bP 110 ?_);refine bQ rfl 110 _ rfl #[.pointer (some ⟨G,o,none⟩),.bool rst] rfl ?_
       intro H0 z1 hq hs hx
       have E_z1:Pm G o w z1:=Ext.pm hx G o
       have hP_z1:Pv z1 G o L:=hP_w.ext hx
       have hH_z1:z1.heap[H0]?=some (.cells #[.pointer (some ⟨G,o,none⟩),.bool rst] 110 (0,0)):=hq
       have hb_H0:w.heap.size≤H0:=by omega
       have hn_H0G:H0≠G:=by omega
       have rH0_z1:=cV hH_z1
       have rH1_z1:=dA hH_z1
       have p51_z1:z1.cell? ⟨G,o+51,none⟩=some (.int .i64 2):=(hP_z1.cell (j:=51) (by decide)).trans HL_51.out
       have p54_z1:z1.cell? ⟨G,o+54,none⟩=some (.bool x54):=(hP_z1.cell (j:=54) (by decide)).trans HL_54.out
       clear hP_w
       clear hq hs hx)
    | ((with_reducible refine aG 46 ?_);refine wpList_load_mid rfl 46 _ rfl G (o+51) rfl [.int .i64 2,.bool x52,.bool x53,.bool x54,.bool x55,.bool x56,.bool x57,.int .i64 x58,.int .u64 x59,.int .u32 x60,.int .u64 x61,.int .u16 x62,.int .u16 x63,.int .i64 x64,.int .i64 x65,.int .i64 x66,.int .i64 x67] _ (hP_z1.range (j:=51) (n:=17) HS_51.out (by decide)) Tryz.underlying46 rfl (by kernel_rfl) ?_))
   refine(eM (dV _ _ _ _ _ _ _ _ _ _ _ _ _ _ _ _ _ _) (show _=false from by simp[lO,c4])).mono ?_
   rintro e z2 ⟨rfl,hx⟩
   have E_z2:Pm G o w z2:=E_z1.ext hx
   have hH_z2:z2.heap[H0]?=some (.cells #[.pointer (some ⟨G,o,none⟩),.bool rst] 110 (0,0)):=(hx.block _ (aC hH_z1)).trans hH_z1
   have hP_z2:Pv z2 G o L:=hP_z1.ext hx
   have rH0_z2:=cV hH_z2
   have rH1_z2:=dA hH_z2
   have p51_z2:z2.cell? ⟨G,o+51,none⟩=some (.int .i64 2):=(hP_z2.cell (j:=51) (by decide)).trans HL_51.out
   have p54_z2:z2.cell? ⟨G,o+54,none⟩=some (.bool x54):=(hP_z2.cell (j:=54) (by decide)).trans HL_54.out
   clear hH_z1 hP_z1 E_z1 rH0_z1 rH1_z1 p51_z1 p54_z1
   clear hx
   go_wp2_with fail
   go_end0
   exact⟨rfl,hP_z2,E_z2⟩
 ·refine f8 (L1:=L) ?_ (by rw[jM e51];rfl)
  have c2:(x51 == 2)=false:=by simpa using e51
  clear e51
  have hG:=hP_w.lt
  have HLEN:=hD hl
  have HL_51:=hD h51
  have HL_52:=hD h52
  have HL_53:=hD h53
  have HL_54:=hD h54
  have HL_55:=hD h55
  have HL_56:=hD h56
  have HL_57:=hD h57
  have HL_58:=hD h58
  have HL_59:=hD h59
  have HL_60:=hD h60
  have HL_61:=hD h61
  have HL_62:=hD h62
  have HL_63:=hD h63
  have HL_64:=hD h64
  have HL_65:=hD h65
  have HL_66:=hD h66
  have HL_67:=hD h67
  have HS_51:=hD (a7 (L:=L) (j:=51) (l:=[.int .i64 x51,.bool x52,.bool x53,.bool x54,.bool x55,.bool x56,.bool x57,.int .i64 x58,.int .u64 x59,.int .u32 x60,.int .u64 x61,.int .u16 x62,.int .u16 x63,.int .i64 x64,.int .i64 x65,.int .i64 x66,.int .i64 x67]) (by rw[hl];exact(by decide:51+17≤89)) (fun i hi=>by
   match i,hi with
   | 0,_=>exact HL_51.out
   | 1,_=>exact HL_52.out
   | 2,_=>exact HL_53.out
   | 3,_=>exact HL_54.out
   | 4,_=>exact HL_55.out
   | 5,_=>exact HL_56.out
   | 6,_=>exact HL_57.out
   | 7,_=>exact HL_58.out
   | 8,_=>exact HL_59.out
   | 9,_=>exact HL_60.out
   | 10,_=>exact HL_61.out
   | 11,_=>exact HL_62.out
   | 12,_=>exact HL_63.out
   | 13,_=>exact HL_64.out
   | 14,_=>exact HL_65.out
   | 15,_=>exact HL_66.out
   | 16,_=>exact HL_67.out
   | i+17,hi=>simp at hi;omega))
  clear hl h51 h52 h53 h54 h55 h56 h57 h58 h59 h60 h61 h62 h63 h64 h65 h66 h67
  go_enter Tryz.func169,Tryz.ntmps169
  go_wp2_with (first
   | fail
   | ((with_reducible refine bP 110 ?_);refine bQ rfl 110 _ rfl #[.pointer (some ⟨G,o,none⟩),.bool rst] rfl ?_
      intro H0 z1 hq hs hx
      have E_z1:Pm G o w z1:=Ext.pm hx G o
      have hP_z1:Pv z1 G o L:=hP_w.ext hx
      have hH_z1:z1.heap[H0]?=some (.cells #[.pointer (some ⟨G,o,none⟩),.bool rst] 110 (0,0)):=hq
      have hb_H0:w.heap.size≤H0:=by omega
      have hn_H0G:H0≠G:=by omega
      have rH0_z1:=cV hH_z1
      have rH1_z1:=dA hH_z1
      have p51_z1:z1.cell? ⟨G,o+51,none⟩=some (.int .i64 x51):=(hP_z1.cell (j:=51) (by decide)).trans HL_51.out
      have p54_z1:z1.cell? ⟨G,o+54,none⟩=some (.bool x54):=(hP_z1.cell (j:=54) (by decide)).trans HL_54.out
      clear hP_w
      clear hq hs hx)
   | ((with_reducible refine aG 46 ?_);refine wpList_load_mid rfl 46 _ rfl G (o+51) rfl [.int .i64 x51,.bool x52,.bool x53,.bool x54,.bool x55,.bool x56,.bool x57,.int .i64 x58,.int .u64 x59,.int .u32 x60,.int .u64 x61,.int .u16 x62,.int .u16 x63,.int .i64 x64,.int .i64 x65,.int .i64 x66,.int .i64 x67] _ (hP_z1.range (j:=51) (n:=17) HS_51.out (by decide)) Tryz.underlying46 rfl (by kernel_rfl) ?_))
  refine(eM (dV _ _ _ _ _ _ _ _ _ _ _ _ _ _ _ _ _ _) (show _=(x51 == 0)from by simp[lO,c2])).mono ?_
  rintro e z2 ⟨rfl,hx⟩
  have E_z2:Pm G o w z2:=E_z1.ext hx
  have hH_z2:z2.heap[H0]?=some (.cells #[.pointer (some ⟨G,o,none⟩),.bool rst] 110 (0,0)):=(hx.block _ (aC hH_z1)).trans hH_z1
  have hP_z2:Pv z2 G o L:=hP_z1.ext hx
  have rH0_z2:=cV hH_z2
  have rH1_z2:=dA hH_z2
  have p51_z2:z2.cell? ⟨G,o+51,none⟩=some (.int .i64 x51):=(hP_z2.cell (j:=51) (by decide)).trans HL_51.out
  have p54_z2:z2.cell? ⟨G,o+54,none⟩=some (.bool x54):=(hP_z2.cell (j:=54) (by decide)).trans HL_54.out
  clear hH_z1 hP_z1 E_z1 rH0_z1 rH1_z1 p51_z1 p54_z1
  clear hx
  cases (x51 == 0)
  go_wp2_with fail
  all_goals
   go_end0
   exact⟨rfl,hP_z2,E_z2⟩
theorem f9{w:World}(G o:Nat)(L:List Value)(hP_w:Pv w G o L)(hl:L.length=89)(rst:Bool)(x3:Bool)(h3:L[3]?=some (.bool x3))(x51:Int)(h51:L[51]?=some (.int .i64 x51))(x55:Bool)(h55:L[55]?=some (.bool x55)):Calls Tryz.prog 171 #[.agg #[.pointer (some ⟨G,o,none⟩),.bool rst]] w fun e w'=>e=.returned (.tuple #[])∧Pv w' G o (iF (rst && !x3 && (x51 == 2) && x55) L)∧Pm G o w w':=by
 cases rst
 ·refine f8 (L1:=L.set 23 (.bool false)) ?_ rfl
  have hG:=hP_w.lt
  have HLEN:=hD hl
  have HL_3:=hD h3
  have HL_51:=hD h51
  have HL_55:=hD h55
  clear hl h3 h51 h55
  go_enter Tryz.func171,Tryz.ntmps171
  go_wp2_with (first
   | fail
   | ((with_reducible refine bP 110 ?_);refine bQ rfl 110 _ rfl #[.pointer (some ⟨G,o,none⟩),.bool false] rfl ?_
      intro H0 z1 hq hs hx
      have E_z1:Pm G o w z1:=Ext.pm hx G o
      have hP_z1:Pv z1 G o L:=hP_w.ext hx
      have hH_z1:z1.heap[H0]?=some (.cells #[.pointer (some ⟨G,o,none⟩),.bool false] 110 (0,0)):=hq
      have hb_H0:w.heap.size≤H0:=by omega
      have hn_H0G:H0≠G:=by omega
      have rH0_z1:=cV hH_z1
      have rH1_z1:=dA hH_z1
      have p3_z1:z1.cell? ⟨G,o+3,none⟩=some (.bool x3):=(hP_z1.cell (j:=3) (by decide)).trans HL_3.out
      have p51_z1:z1.cell? ⟨G,o+51,none⟩=some (.int .i64 x51):=(hP_z1.cell (j:=51) (by decide)).trans HL_51.out
      have p55_z1:z1.cell? ⟨G,o+55,none⟩=some (.bool x55):=(hP_z1.cell (j:=55) (by decide)).trans HL_55.out
      clear hP_w
      clear hq hs hx)
   | ((with_reducible refine aD 4 ?_);refine bI rfl rfl 4 _ _ rfl G o 23 _ hP_z1 _ #[.bool false] rfl rfl rfl (by exact(by decide:23+1≤89)) (by kernel_rfl) rfl ?_
      intro z2 hp hm
      replace hp:=aO hp HLEN.out (by decide)
      have hP_z2:=hp
      have hH_z2:=hm.row hH_z1 (show H0≠G by omega)
      have E_z2:Pm G o w z2:=E_z1.trans hm
      have rH0_z2:=cV hH_z2
      have rH1_z2:=dA hH_z2
      have p23_z2:z2.cell? ⟨G,o+23,none⟩=some (.bool false):=(hP_z2.cell (j:=23) (by decide)).trans (cE HLEN.out (by decide))
      clear hH_z1 hP_z1 E_z1 rH0_z1 rH1_z1 p3_z1 p51_z1 p55_z1
      clear hp hm))
  go_end0
  exact⟨rfl,hP_z2,E_z2⟩
 cases x3
 ·by_cases e51:x51=2
  ·subst e51
   cases x55
   ·refine f8 (L1:=L.set 23 (.bool false)) ?_ rfl
    have hG:=hP_w.lt
    have HLEN:=hD hl
    have HL_3:=hD h3
    have HL_51:=hD h51
    have HL_55:=hD h55
    clear hl h3 h51 h55
    go_enter Tryz.func171,Tryz.ntmps171
    go_wp2_with (first
     | fail
     | ((with_reducible refine bP 110 ?_);refine bQ rfl 110 _ rfl #[.pointer (some ⟨G,o,none⟩),.bool true] rfl ?_
        intro H0 z1 hq hs hx
        have E_z1:Pm G o w z1:=Ext.pm hx G o
        have hP_z1:Pv z1 G o L:=hP_w.ext hx
        have hH_z1:z1.heap[H0]?=some (.cells #[.pointer (some ⟨G,o,none⟩),.bool true] 110 (0,0)):=hq
        have hb_H0:w.heap.size≤H0:=by omega
        have hn_H0G:H0≠G:=by omega
        have rH0_z1:=cV hH_z1
        have rH1_z1:=dA hH_z1
        have p3_z1:z1.cell? ⟨G,o+3,none⟩=some (.bool false):=(hP_z1.cell (j:=3) (by decide)).trans HL_3.out
        have p51_z1:z1.cell? ⟨G,o+51,none⟩=some (.int .i64 2):=(hP_z1.cell (j:=51) (by decide)).trans HL_51.out
        have p55_z1:z1.cell? ⟨G,o+55,none⟩=some (.bool false):=(hP_z1.cell (j:=55) (by decide)).trans HL_55.out
        clear hP_w
        clear hq hs hx)
     | ((with_reducible refine aD 4 ?_);refine bI rfl rfl 4 _ _ rfl G o 23 _ hP_z1 _ #[.bool false] rfl rfl rfl (by exact(by decide:23+1≤89)) (by kernel_rfl) rfl ?_
        intro z2 hp hm
        replace hp:=aO hp HLEN.out (by decide)
        have hP_z2:=hp
        have hH_z2:=hm.row hH_z1 (show H0≠G by omega)
        have E_z2:Pm G o w z2:=E_z1.trans hm
        have rH0_z2:=cV hH_z2
        have rH1_z2:=dA hH_z2
        have p23_z2:z2.cell? ⟨G,o+23,none⟩=some (.bool false):=(hP_z2.cell (j:=23) (by decide)).trans (cE HLEN.out (by decide))
        clear hH_z1 hP_z1 E_z1 rH0_z1 rH1_z1 p3_z1 p51_z1 p55_z1
        clear hp hm))
    go_end0
    exact⟨rfl,hP_z2,E_z2⟩
   ·refine f8 (L1:=(L.set 23 (.bool true)).set 34 (.bool false)) ?_ rfl
    have hG:=hP_w.lt
    have HLEN:=hD hl
    have HL_3:=hD h3
    have HL_51:=hD h51
    have HL_55:=hD h55
    clear hl h3 h51 h55
    go_enter Tryz.func171,Tryz.ntmps171
    go_wp2_with (first
     | fail
     | ((with_reducible refine bP 110 ?_);refine bQ rfl 110 _ rfl #[.pointer (some ⟨G,o,none⟩),.bool true] rfl ?_
        intro H0 z1 hq hs hx
        have E_z1:Pm G o w z1:=Ext.pm hx G o
        have hP_z1:Pv z1 G o L:=hP_w.ext hx
        have hH_z1:z1.heap[H0]?=some (.cells #[.pointer (some ⟨G,o,none⟩),.bool true] 110 (0,0)):=hq
        have hb_H0:w.heap.size≤H0:=by omega
        have hn_H0G:H0≠G:=by omega
        have rH0_z1:=cV hH_z1
        have rH1_z1:=dA hH_z1
        have p3_z1:z1.cell? ⟨G,o+3,none⟩=some (.bool false):=(hP_z1.cell (j:=3) (by decide)).trans HL_3.out
        have p51_z1:z1.cell? ⟨G,o+51,none⟩=some (.int .i64 2):=(hP_z1.cell (j:=51) (by decide)).trans HL_51.out
        have p55_z1:z1.cell? ⟨G,o+55,none⟩=some (.bool true):=(hP_z1.cell (j:=55) (by decide)).trans HL_55.out
        clear hP_w
        clear hq hs hx)
     | ((with_reducible refine aD 4 ?_);refine bI rfl rfl 4 _ _ rfl G o 23 _ hP_z1 _ #[.bool true] rfl rfl rfl (by exact(by decide:23+1≤89)) (by kernel_rfl) rfl ?_
        intro z2 hp hm
        replace hp:=aO hp HLEN.out (by decide)
        have hP_z2:=hp
        have hH_z2:=hm.row hH_z1 (show H0≠G by omega)
        have E_z2:Pm G o w z2:=E_z1.trans hm
        have rH0_z2:=cV hH_z2
        have rH1_z2:=dA hH_z2
        have p23_z2:z2.cell? ⟨G,o+23,none⟩=some (.bool true):=(hP_z2.cell (j:=23) (by decide)).trans (cE HLEN.out (by decide))
        clear hH_z1 hP_z1 E_z1 rH0_z1 rH1_z1 p3_z1 p51_z1 p55_z1
        clear hp hm)
     | ((with_reducible refine aD 4 ?_);refine bI rfl rfl 4 _ _ rfl G o 34 _ hP_z2 _ #[.bool false] rfl rfl rfl (by exact(by decide:34+1≤89)) (by kernel_rfl) rfl ?_
        intro z3 hp hm
        replace hp:=aO hp (aB HLEN.out) (by decide)
        have hP_z3:=hp
        have hH_z3:=hm.row hH_z2 (show H0≠G by omega)
        have E_z3:Pm G o w z3:=E_z2.trans hm
        have rH0_z3:=cV hH_z3
        have rH1_z3:=dA hH_z3
        have p23_z3:z3.cell? ⟨G,o+23,none⟩=some (.bool true):=(hP_z3.cell (j:=23) (by decide)).trans ((aF (by decide)).trans (cE HLEN.out (by decide)))
        clear hH_z2 hP_z2 E_z2 rH0_z2 rH1_z2 p23_z2
        clear hp hm))
    go_end0
    exact⟨rfl,hP_z3,E_z3⟩
  ·refine f8 (L1:=L.set 23 (.bool false)) ?_ (by rw[jM e51];cases x55<;>rfl)
   have c2:(x51 == 2)=false:=by simpa using e51
   clear e51
   have hG:=hP_w.lt
   have HLEN:=hD hl
   have HL_3:=hD h3
   have HL_51:=hD h51
   have HL_55:=hD h55
   clear hl h3 h51 h55
   go_enter Tryz.func171,Tryz.ntmps171
   go_wp2_with (first
    | fail
    | ((with_reducible refine bP 110 ?_);refine bQ rfl 110 _ rfl #[.pointer (some ⟨G,o,none⟩),.bool true] rfl ?_
       intro H0 z1 hq hs hx
       have E_z1:Pm G o w z1:=Ext.pm hx G o
       have hP_z1:Pv z1 G o L:=hP_w.ext hx
       have hH_z1:z1.heap[H0]?=some (.cells #[.pointer (some ⟨G,o,none⟩),.bool true] 110 (0,0)):=hq
       have hb_H0:w.heap.size≤H0:=by omega
       have hn_H0G:H0≠G:=by omega
       have rH0_z1:=cV hH_z1
       have rH1_z1:=dA hH_z1
       have p3_z1:z1.cell? ⟨G,o+3,none⟩=some (.bool false):=(hP_z1.cell (j:=3) (by decide)).trans HL_3.out
       have p51_z1:z1.cell? ⟨G,o+51,none⟩=some (.int .i64 x51):=(hP_z1.cell (j:=51) (by decide)).trans HL_51.out
       have p55_z1:z1.cell? ⟨G,o+55,none⟩=some (.bool x55):=(hP_z1.cell (j:=55) (by decide)).trans HL_55.out
       clear hP_w
       clear hq hs hx)
    | ((with_reducible refine aD 4 ?_);refine bI rfl rfl 4 _ _ rfl G o 23 _ hP_z1 _ #[.bool false] rfl rfl rfl (by exact(by decide:23+1≤89)) (by kernel_rfl) rfl ?_
       intro z2 hp hm
       replace hp:=aO hp HLEN.out (by decide)
       have hP_z2:=hp
       have hH_z2:=hm.row hH_z1 (show H0≠G by omega)
       have E_z2:Pm G o w z2:=E_z1.trans hm
       have rH0_z2:=cV hH_z2
       have rH1_z2:=dA hH_z2
       have p23_z2:z2.cell? ⟨G,o+23,none⟩=some (.bool false):=(hP_z2.cell (j:=23) (by decide)).trans (cE HLEN.out (by decide))
       clear hH_z1 hP_z1 E_z1 rH0_z1 rH1_z1 p3_z1 p51_z1 p55_z1
       clear hp hm))
   go_end0
   exact⟨rfl,hP_z2,E_z2⟩
 ·refine f8 (L1:=L.set 23 (.bool false)) ?_ rfl
  have hG:=hP_w.lt
  have HLEN:=hD hl
  have HL_3:=hD h3
  have HL_51:=hD h51
  have HL_55:=hD h55
  clear hl h3 h51 h55
  go_enter Tryz.func171,Tryz.ntmps171
  go_wp2_with (first
   | fail
   | ((with_reducible refine bP 110 ?_);refine bQ rfl 110 _ rfl #[.pointer (some ⟨G,o,none⟩),.bool true] rfl ?_
      intro H0 z1 hq hs hx
      have E_z1:Pm G o w z1:=Ext.pm hx G o
      have hP_z1:Pv z1 G o L:=hP_w.ext hx
      have hH_z1:z1.heap[H0]?=some (.cells #[.pointer (some ⟨G,o,none⟩),.bool true] 110 (0,0)):=hq
      have hb_H0:w.heap.size≤H0:=by omega
      have hn_H0G:H0≠G:=by omega
      have rH0_z1:=cV hH_z1
      have rH1_z1:=dA hH_z1
      have p3_z1:z1.cell? ⟨G,o+3,none⟩=some (.bool true):=(hP_z1.cell (j:=3) (by decide)).trans HL_3.out
      have p51_z1:z1.cell? ⟨G,o+51,none⟩=some (.int .i64 x51):=(hP_z1.cell (j:=51) (by decide)).trans HL_51.out
      have p55_z1:z1.cell? ⟨G,o+55,none⟩=some (.bool x55):=(hP_z1.cell (j:=55) (by decide)).trans HL_55.out
      clear hP_w
      clear hq hs hx)
   | ((with_reducible refine aD 4 ?_);refine bI rfl rfl 4 _ _ rfl G o 23 _ hP_z1 _ #[.bool false] rfl rfl rfl (by exact(by decide:23+1≤89)) (by kernel_rfl) rfl ?_
      intro z2 hp hm
      replace hp:=aO hp HLEN.out (by decide)
      have hP_z2:=hp
      have hH_z2:=hm.row hH_z1 (show H0≠G by omega)
      have E_z2:Pm G o w z2:=E_z1.trans hm
      have rH0_z2:=cV hH_z2
      have rH1_z2:=dA hH_z2
      have p23_z2:z2.cell? ⟨G,o+23,none⟩=some (.bool false):=(hP_z2.cell (j:=23) (by decide)).trans (cE HLEN.out (by decide))
      clear hH_z1 hP_z1 E_z1 rH0_z1 rH1_z1 p3_z1 p51_z1 p55_z1
      clear hp hm))
  go_end0
  exact⟨rfl,hP_z2,E_z2⟩
theorem hU{w:World}(G o:Nat)(L:List Value)(hP_w:Pv w G o L)(hl:L.length=89)(rst:Bool)(x39:Bool)(h39:L[39]?=some (.bool x39))(x40:Bool)(h40:L[40]?=some (.bool x40))(x52:Bool)(h52:L[52]?=some (.bool x52))(x53:Bool)(h53:L[53]?=some (.bool x53)):Calls Tryz.prog 170 #[.agg #[.pointer (some ⟨G,o,none⟩),.bool rst]] w fun e w'=>e=.returned (.tuple #[])∧Pv w' G o (l8 (x39 || x52) (x40 || x53) L)∧Pm G o w w':=by
 unfold l8
 cases x39
 ·cases x40
  ·simp only[Bool.false_or]
   have hG:=hP_w.lt
   have HLEN:=hD hl
   have HL_39:=hD h39
   have HL_40:=hD h40
   have HL_52:=hD h52
   have HL_53:=hD h53
   clear hl h39 h40 h52 h53
   go_enter Tryz.func170,Tryz.ntmps170
   go_wp2_with (first
    | fail
    | ((with_reducible refine bP 110 ?_);refine bQ rfl 110 _ rfl #[.pointer (some ⟨G,o,none⟩),.bool rst] rfl ?_
       intro H0 z1 hq hs hx
       have E_z1:Pm G o w z1:=Ext.pm hx G o
       have hP_z1:Pv z1 G o L:=hP_w.ext hx
       have hH_z1:z1.heap[H0]?=some (.cells #[.pointer (some ⟨G,o,none⟩),.bool rst] 110 (0,0)):=hq
       have hb_H0:w.heap.size≤H0:=by omega
       have hn_H0G:H0≠G:=by omega
       have rH0_z1:=cV hH_z1
       have rH1_z1:=dA hH_z1
       clear hP_w
       clear hq hs hx))
   refine fD (S:=fun W'=>Ext z1 W') (S2:=fun W'=>Pm G o z1 W') 28 (by kernel_rfl) ?_
   intro wd hqx
   have hq0:Ext z1 wd:=hqx
   refine cA 0 28 G (o+22) rfl rfl hq0 ?_
   refine gV 1 28 G (o+22) rfl hq0 ?_
   refine cA 2 28 G (o+22) rfl rfl hq0 ?_
   refine cA 3 28 G (o+22) rfl rfl hq0 ?_
   refine cA 4 28 G (o+39) rfl rfl hq0 ?_
   refine tW 5 28 (_) rfl rfl (aA rfl 4 _ rfl ⟨G,o+39,none⟩ rfl (.bool false) _ (fun W' hW'=>((hP_z1.ext hW').cell (j:=39) (by decide)).trans HL_39.out) Tryz.underlying4 rfl) hq0 ?_
   refine kK 6 28 ((.bool false)) rfl rfl hq0 ?_
   refine cA 7 28 H0 0 rfl rfl hq0 ?_
   refine tW 8 28 (_) rfl rfl (aA rfl 79 _ rfl ⟨H0,0,none⟩ rfl (.pointer (some ⟨G,o,none⟩)) _ (fun W' hW'=>(cell_of_row _ _ _ _ _ _ ((hW'.block _ (aC hH_z1)).trans hH_z1)).trans rfl) Tryz.underlying79 rfl) hq0 ?_
   refine cA 9 28 G o rfl rfl hq0 ?_
   refine cA 10 28 G (o+51) rfl rfl hq0 ?_
   refine cA 11 28 G (o+52) rfl rfl hq0 ?_
   refine tW 12 28 (_) rfl rfl (aA rfl 4 _ rfl ⟨G,o+52,none⟩ rfl (.bool x52) _ (fun W' hW'=>((hP_z1.ext hW').cell (j:=52) (by decide)).trans HL_52.out) Tryz.underlying4 rfl) hq0 ?_
   refine kK 13 28 ((.bool x52)) rfl rfl hq0 ?_
   refine gV 14 28 G (o+22) rfl hq0 ?_
   refine gV 15 28 G (o+22) rfl hq0 ?_
   refine gV 16 28 G (o+40) rfl hq0 ?_
   refine tW 17 28 (_) rfl rfl (aA rfl 4 _ rfl ⟨G,o+40,none⟩ rfl (.bool false) _ (fun W' hW'=>((hP_z1.ext hW').cell (j:=40) (by decide)).trans HL_40.out) Tryz.underlying4 rfl) hq0 ?_
   refine kK 18 28 ((.bool false)) rfl rfl hq0 ?_
   refine gV 19 28 H0 0 rfl hq0 ?_
   refine tV 20 28 (_) rfl (aA rfl 79 _ rfl ⟨H0,0,none⟩ rfl (.pointer (some ⟨G,o,none⟩)) _ (fun W' hW'=>(cell_of_row _ _ _ _ _ _ (Pm.row hW' hH_z1 (show H0≠G by omega))).trans rfl) Tryz.underlying79 rfl) hq0 ?_
   refine gV 21 28 G o rfl hq0 ?_
   refine gV 22 28 G (o+51) rfl hq0 ?_
   refine gV 23 28 G (o+53) rfl hq0 ?_
   refine tW 24 28 (_) rfl rfl (aA rfl 4 _ rfl ⟨G,o+53,none⟩ rfl (.bool x53) _ (fun W' hW'=>((hP_z1.ext hW').cell (j:=53) (by decide)).trans HL_53.out) Tryz.underlying4 rfl) hq0 ?_
   refine tVp 25 28 ((.bool x53)) rfl hq0 ?_
   refine gV 26 28 G (o+22) rfl hq0 ?_
   refine cA 27 28 G (o+39) rfl rfl hq0 ?_
   refine iC (z:=28) rfl rfl (by kernel_rfl) (fun K hK=>?_)
   refine bT rfl 4 _ _ rfl G o 39 _ (hP_z1.ext hq0) _ #[.bool x52] rfl rfl rfl (by exact(by decide:39+1≤89)) (by kernel_rfl) rfl (fun ws28 hp28 hm28=>?_)
   replace hp28:=aO hp28 HLEN.out (by decide)
   have hr28:Pm G o z1 ws28:=(Ext.pm hq0 G o).trans hm28
   refine hK.out _ _ hr28 (fun _=>?_)
   try simp only[ps]
   clear hK K
   refine aH 29 G (o+22) rfl hr28 ?_
   refine aH 30 G (o+40) rfl hr28 ?_
   refine bB (i:=31) rfl rfl (by kernel_rfl) (fun K hK=>?_)
   refine bT rfl 4 _ _ rfl G o 40 _ hp28 _ #[.bool x53] rfl rfl rfl (by exact(by decide:40+1≤89)) (by kernel_rfl) rfl (fun ws31 hp31 hm31=>?_)
   replace hp31:=aO hp31 (aB HLEN.out) (by decide)
   have hr31:Pm G o z1 ws31:=hr28.trans hm31
   refine hK.out _ _ hr31 (fun _=>?_)
   try simp only[ps]
   clear hK K
   refine wpAnyH_done (by kernel_rfl) ?_ _
   generalize ws31=z2 at *
   have hP_z2:Pv z2 G o ((L.set 39 (.bool x52)).set 40 (.bool x53)):=hp31
   have hH_z2:z2.heap[H0]?=some (.cells #[.pointer (some ⟨G,o,none⟩),.bool rst] 110 (0,0)):=(hm31.row (hm28.row ((hq0.block _ (aC hH_z1)).trans hH_z1) (show H0≠G by omega)) (show H0≠G by omega))
   have E_z2:Pm G o w z2:=((E_z1.ext hq0).trans hm28).trans hm31
   have rH0_z2:=cV hH_z2
   have rH1_z2:=dA hH_z2
   clear hH_z1 hP_z1 E_z1 rH0_z1 rH1_z1
   clear hq0 hqx hm28 hm31 hp28 hp31 hr28 hr31
   go_wp2_with fail
   go_end0
   exact⟨rfl,hP_z2,E_z2⟩
  ·simp only[Bool.false_or,Bool.true_or]
   have hG:=hP_w.lt
   have HLEN:=hD hl
   have HL_39:=hD h39
   have HL_40:=hD h40
   have HL_52:=hD h52
   have HL_53:=hD h53
   clear hl h39 h40 h52 h53
   go_enter Tryz.func170,Tryz.ntmps170
   go_wp2_with (first
    | fail
    | ((with_reducible refine bP 110 ?_);refine bQ rfl 110 _ rfl #[.pointer (some ⟨G,o,none⟩),.bool rst] rfl ?_
       intro H0 z1 hq hs hx
       have E_z1:Pm G o w z1:=Ext.pm hx G o
       have hP_z1:Pv z1 G o L:=hP_w.ext hx
       have hH_z1:z1.heap[H0]?=some (.cells #[.pointer (some ⟨G,o,none⟩),.bool rst] 110 (0,0)):=hq
       have hb_H0:w.heap.size≤H0:=by omega
       have hn_H0G:H0≠G:=by omega
       have rH0_z1:=cV hH_z1
       have rH1_z1:=dA hH_z1
       clear hP_w
       clear hq hs hx))
   refine fD (S:=fun W'=>Ext z1 W') (S2:=fun W'=>Pm G o z1 W') 28 (by kernel_rfl) ?_
   intro wd hqx
   have hq0:Ext z1 wd:=hqx
   refine cA 0 28 G (o+22) rfl rfl hq0 ?_
   refine gV 1 28 G (o+22) rfl hq0 ?_
   refine cA 2 28 G (o+22) rfl rfl hq0 ?_
   refine cA 3 28 G (o+22) rfl rfl hq0 ?_
   refine cA 4 28 G (o+39) rfl rfl hq0 ?_
   refine tW 5 28 (_) rfl rfl (aA rfl 4 _ rfl ⟨G,o+39,none⟩ rfl (.bool false) _ (fun W' hW'=>((hP_z1.ext hW').cell (j:=39) (by decide)).trans HL_39.out) Tryz.underlying4 rfl) hq0 ?_
   refine kK 6 28 ((.bool false)) rfl rfl hq0 ?_
   refine cA 7 28 H0 0 rfl rfl hq0 ?_
   refine tW 8 28 (_) rfl rfl (aA rfl 79 _ rfl ⟨H0,0,none⟩ rfl (.pointer (some ⟨G,o,none⟩)) _ (fun W' hW'=>(cell_of_row _ _ _ _ _ _ ((hW'.block _ (aC hH_z1)).trans hH_z1)).trans rfl) Tryz.underlying79 rfl) hq0 ?_
   refine cA 9 28 G o rfl rfl hq0 ?_
   refine cA 10 28 G (o+51) rfl rfl hq0 ?_
   refine cA 11 28 G (o+52) rfl rfl hq0 ?_
   refine tW 12 28 (_) rfl rfl (aA rfl 4 _ rfl ⟨G,o+52,none⟩ rfl (.bool x52) _ (fun W' hW'=>((hP_z1.ext hW').cell (j:=52) (by decide)).trans HL_52.out) Tryz.underlying4 rfl) hq0 ?_
   refine kK 13 28 ((.bool x52)) rfl rfl hq0 ?_
   refine gV 14 28 G (o+22) rfl hq0 ?_
   refine gV 15 28 G (o+22) rfl hq0 ?_
   refine gV 16 28 G (o+40) rfl hq0 ?_
   refine tW 17 28 (_) rfl rfl (aA rfl 4 _ rfl ⟨G,o+40,none⟩ rfl (.bool true) _ (fun W' hW'=>((hP_z1.ext hW').cell (j:=40) (by decide)).trans HL_40.out) Tryz.underlying4 rfl) hq0 ?_
   refine kK 18 28 ((.bool true)) rfl rfl hq0 ?_
   refine tV 19 28 (undef) rfl (Or.inr ⟨rfl,rfl⟩) hq0 ?_
   refine tV 20 28 (undef) rfl (Or.inr ⟨rfl,rfl⟩) hq0 ?_
   refine tV 21 28 (undef) rfl (Or.inr ⟨rfl,rfl⟩) hq0 ?_
   refine tV 22 28 (undef) rfl (Or.inr ⟨rfl,rfl⟩) hq0 ?_
   refine tV 23 28 (undef) rfl (Or.inr ⟨rfl,rfl⟩) hq0 ?_
   refine tW 24 28 (undef) rfl rfl (Or.inr ⟨rfl,rfl⟩) hq0 ?_
   refine tVp 25 28 ((.bool true)) rfl hq0 ?_
   refine gV 26 28 G (o+22) rfl hq0 ?_
   refine cA 27 28 G (o+39) rfl rfl hq0 ?_
   refine iC (z:=28) rfl rfl (by kernel_rfl) (fun K hK=>?_)
   refine bT rfl 4 _ _ rfl G o 39 _ (hP_z1.ext hq0) _ #[.bool x52] rfl rfl rfl (by exact(by decide:39+1≤89)) (by kernel_rfl) rfl (fun ws28 hp28 hm28=>?_)
   replace hp28:=aO hp28 HLEN.out (by decide)
   have hr28:Pm G o z1 ws28:=(Ext.pm hq0 G o).trans hm28
   refine hK.out _ _ hr28 (fun _=>?_)
   try simp only[ps]
   clear hK K
   refine aH 29 G (o+22) rfl hr28 ?_
   refine aH 30 G (o+40) rfl hr28 ?_
   refine bB (i:=31) rfl rfl (by kernel_rfl) (fun K hK=>?_)
   refine bT rfl 4 _ _ rfl G o 40 _ hp28 _ #[.bool true] rfl rfl rfl (by exact(by decide:40+1≤89)) (by kernel_rfl) rfl (fun ws31 hp31 hm31=>?_)
   replace hp31:=aO hp31 (aB HLEN.out) (by decide)
   have hr31:Pm G o z1 ws31:=hr28.trans hm31
   refine hK.out _ _ hr31 (fun _=>?_)
   try simp only[ps]
   clear hK K
   refine wpAnyH_done (by kernel_rfl) ?_ _
   generalize ws31=z2 at *
   have hP_z2:Pv z2 G o ((L.set 39 (.bool x52)).set 40 (.bool true)):=hp31
   have hH_z2:z2.heap[H0]?=some (.cells #[.pointer (some ⟨G,o,none⟩),.bool rst] 110 (0,0)):=(hm31.row (hm28.row ((hq0.block _ (aC hH_z1)).trans hH_z1) (show H0≠G by omega)) (show H0≠G by omega))
   have E_z2:Pm G o w z2:=((E_z1.ext hq0).trans hm28).trans hm31
   have rH0_z2:=cV hH_z2
   have rH1_z2:=dA hH_z2
   clear hH_z1 hP_z1 E_z1 rH0_z1 rH1_z1
   clear hq0 hqx hm28 hm31 hp28 hp31 hr28 hr31
   go_wp2_with fail
   go_end0
   exact⟨rfl,hP_z2,E_z2⟩
 ·cases x40
  ·simp only[Bool.false_or,Bool.true_or]
   have hG:=hP_w.lt
   have HLEN:=hD hl
   have HL_39:=hD h39
   have HL_40:=hD h40
   have HL_52:=hD h52
   have HL_53:=hD h53
   clear hl h39 h40 h52 h53
   go_enter Tryz.func170,Tryz.ntmps170
   go_wp2_with (first
    | fail
    | ((with_reducible refine bP 110 ?_);refine bQ rfl 110 _ rfl #[.pointer (some ⟨G,o,none⟩),.bool rst] rfl ?_
       intro H0 z1 hq hs hx
       have E_z1:Pm G o w z1:=Ext.pm hx G o
       have hP_z1:Pv z1 G o L:=hP_w.ext hx
       have hH_z1:z1.heap[H0]?=some (.cells #[.pointer (some ⟨G,o,none⟩),.bool rst] 110 (0,0)):=hq
       have hb_H0:w.heap.size≤H0:=by omega
       have hn_H0G:H0≠G:=by omega
       have rH0_z1:=cV hH_z1
       have rH1_z1:=dA hH_z1
       clear hP_w
       clear hq hs hx))
   refine fD (S:=fun W'=>Ext z1 W') (S2:=fun W'=>Pm G o z1 W') 28 (by kernel_rfl) ?_
   intro wd hqx
   have hq0:Ext z1 wd:=hqx
   refine cA 0 28 G (o+22) rfl rfl hq0 ?_
   refine gV 1 28 G (o+22) rfl hq0 ?_
   refine cA 2 28 G (o+22) rfl rfl hq0 ?_
   refine cA 3 28 G (o+22) rfl rfl hq0 ?_
   refine cA 4 28 G (o+39) rfl rfl hq0 ?_
   refine tW 5 28 (_) rfl rfl (aA rfl 4 _ rfl ⟨G,o+39,none⟩ rfl (.bool true) _ (fun W' hW'=>((hP_z1.ext hW').cell (j:=39) (by decide)).trans HL_39.out) Tryz.underlying4 rfl) hq0 ?_
   refine kK 6 28 ((.bool true)) rfl rfl hq0 ?_
   refine tW 7 28 (undef) rfl rfl (Or.inr ⟨rfl,rfl⟩) hq0 ?_
   refine tW 8 28 (undef) rfl rfl (Or.inr ⟨rfl,rfl⟩) hq0 ?_
   refine tW 9 28 (undef) rfl rfl (Or.inr ⟨rfl,rfl⟩) hq0 ?_
   refine tW 10 28 (undef) rfl rfl (Or.inr ⟨rfl,rfl⟩) hq0 ?_
   refine tW 11 28 (undef) rfl rfl (Or.inr ⟨rfl,rfl⟩) hq0 ?_
   refine tW 12 28 (undef) rfl rfl (Or.inr ⟨rfl,rfl⟩) hq0 ?_
   refine kK 13 28 ((.bool true)) rfl rfl hq0 ?_
   refine gV 14 28 G (o+22) rfl hq0 ?_
   refine gV 15 28 G (o+22) rfl hq0 ?_
   refine gV 16 28 G (o+40) rfl hq0 ?_
   refine tW 17 28 (_) rfl rfl (aA rfl 4 _ rfl ⟨G,o+40,none⟩ rfl (.bool false) _ (fun W' hW'=>((hP_z1.ext hW').cell (j:=40) (by decide)).trans HL_40.out) Tryz.underlying4 rfl) hq0 ?_
   refine kK 18 28 ((.bool false)) rfl rfl hq0 ?_
   refine gV 19 28 H0 0 rfl hq0 ?_
   refine tV 20 28 (_) rfl (aA rfl 79 _ rfl ⟨H0,0,none⟩ rfl (.pointer (some ⟨G,o,none⟩)) _ (fun W' hW'=>(cell_of_row _ _ _ _ _ _ (Pm.row hW' hH_z1 (show H0≠G by omega))).trans rfl) Tryz.underlying79 rfl) hq0 ?_
   refine gV 21 28 G o rfl hq0 ?_
   refine gV 22 28 G (o+51) rfl hq0 ?_
   refine gV 23 28 G (o+53) rfl hq0 ?_
   refine tW 24 28 (_) rfl rfl (aA rfl 4 _ rfl ⟨G,o+53,none⟩ rfl (.bool x53) _ (fun W' hW'=>((hP_z1.ext hW').cell (j:=53) (by decide)).trans HL_53.out) Tryz.underlying4 rfl) hq0 ?_
   refine tVp 25 28 ((.bool x53)) rfl hq0 ?_
   refine gV 26 28 G (o+22) rfl hq0 ?_
   refine cA 27 28 G (o+39) rfl rfl hq0 ?_
   refine iC (z:=28) rfl rfl (by kernel_rfl) (fun K hK=>?_)
   refine bT rfl 4 _ _ rfl G o 39 _ (hP_z1.ext hq0) _ #[.bool true] rfl rfl rfl (by exact(by decide:39+1≤89)) (by kernel_rfl) rfl (fun ws28 hp28 hm28=>?_)
   replace hp28:=aO hp28 HLEN.out (by decide)
   have hr28:Pm G o z1 ws28:=(Ext.pm hq0 G o).trans hm28
   refine hK.out _ _ hr28 (fun _=>?_)
   try simp only[ps]
   clear hK K
   refine aH 29 G (o+22) rfl hr28 ?_
   refine aH 30 G (o+40) rfl hr28 ?_
   refine bB (i:=31) rfl rfl (by kernel_rfl) (fun K hK=>?_)
   refine bT rfl 4 _ _ rfl G o 40 _ hp28 _ #[.bool x53] rfl rfl rfl (by exact(by decide:40+1≤89)) (by kernel_rfl) rfl (fun ws31 hp31 hm31=>?_)
   replace hp31:=aO hp31 (aB HLEN.out) (by decide)
   have hr31:Pm G o z1 ws31:=hr28.trans hm31
   refine hK.out _ _ hr31 (fun _=>?_)
   try simp only[ps]
   clear hK K
   refine wpAnyH_done (by kernel_rfl) ?_ _
   generalize ws31=z2 at *
   have hP_z2:Pv z2 G o ((L.set 39 (.bool true)).set 40 (.bool x53)):=hp31
   have hH_z2:z2.heap[H0]?=some (.cells #[.pointer (some ⟨G,o,none⟩),.bool rst] 110 (0,0)):=(hm31.row (hm28.row ((hq0.block _ (aC hH_z1)).trans hH_z1) (show H0≠G by omega)) (show H0≠G by omega))
   have E_z2:Pm G o w z2:=((E_z1.ext hq0).trans hm28).trans hm31
   have rH0_z2:=cV hH_z2
   have rH1_z2:=dA hH_z2
   clear hH_z1 hP_z1 E_z1 rH0_z1 rH1_z1
   clear hq0 hqx hm28 hm31 hp28 hp31 hr28 hr31
   go_wp2_with fail
   go_end0
   exact⟨rfl,hP_z2,E_z2⟩
  ·simp only[Bool.true_or]
   have hG:=hP_w.lt
   have HLEN:=hD hl
   have HL_39:=hD h39
   have HL_40:=hD h40
   have HL_52:=hD h52
   have HL_53:=hD h53
   clear hl h39 h40 h52 h53
   go_enter Tryz.func170,Tryz.ntmps170
   go_wp2_with (first
    | fail
    | ((with_reducible refine bP 110 ?_);refine bQ rfl 110 _ rfl #[.pointer (some ⟨G,o,none⟩),.bool rst] rfl ?_
       intro H0 z1 hq hs hx
       have E_z1:Pm G o w z1:=Ext.pm hx G o
       have hP_z1:Pv z1 G o L:=hP_w.ext hx
       have hH_z1:z1.heap[H0]?=some (.cells #[.pointer (some ⟨G,o,none⟩),.bool rst] 110 (0,0)):=hq
       have hb_H0:w.heap.size≤H0:=by omega
       have hn_H0G:H0≠G:=by omega
       have rH0_z1:=cV hH_z1
       have rH1_z1:=dA hH_z1
       clear hP_w
       clear hq hs hx))
   refine fD (S:=fun W'=>Ext z1 W') (S2:=fun W'=>Pm G o z1 W') 28 (by kernel_rfl) ?_
   intro wd hqx
   have hq0:Ext z1 wd:=hqx
   refine cA 0 28 G (o+22) rfl rfl hq0 ?_
   refine gV 1 28 G (o+22) rfl hq0 ?_
   refine cA 2 28 G (o+22) rfl rfl hq0 ?_
   refine cA 3 28 G (o+22) rfl rfl hq0 ?_
   refine cA 4 28 G (o+39) rfl rfl hq0 ?_
   refine tW 5 28 (_) rfl rfl (aA rfl 4 _ rfl ⟨G,o+39,none⟩ rfl (.bool true) _ (fun W' hW'=>((hP_z1.ext hW').cell (j:=39) (by decide)).trans HL_39.out) Tryz.underlying4 rfl) hq0 ?_
   refine kK 6 28 ((.bool true)) rfl rfl hq0 ?_
   refine tW 7 28 (undef) rfl rfl (Or.inr ⟨rfl,rfl⟩) hq0 ?_
   refine tW 8 28 (undef) rfl rfl (Or.inr ⟨rfl,rfl⟩) hq0 ?_
   refine tW 9 28 (undef) rfl rfl (Or.inr ⟨rfl,rfl⟩) hq0 ?_
   refine tW 10 28 (undef) rfl rfl (Or.inr ⟨rfl,rfl⟩) hq0 ?_
   refine tW 11 28 (undef) rfl rfl (Or.inr ⟨rfl,rfl⟩) hq0 ?_
   refine tW 12 28 (undef) rfl rfl (Or.inr ⟨rfl,rfl⟩) hq0 ?_
   refine kK 13 28 ((.bool true)) rfl rfl hq0 ?_
   refine gV 14 28 G (o+22) rfl hq0 ?_
   refine gV 15 28 G (o+22) rfl hq0 ?_
   refine gV 16 28 G (o+40) rfl hq0 ?_
   refine tW 17 28 (_) rfl rfl (aA rfl 4 _ rfl ⟨G,o+40,none⟩ rfl (.bool true) _ (fun W' hW'=>((hP_z1.ext hW').cell (j:=40) (by decide)).trans HL_40.out) Tryz.underlying4 rfl) hq0 ?_
   refine kK 18 28 ((.bool true)) rfl rfl hq0 ?_
   refine tV 19 28 (undef) rfl (Or.inr ⟨rfl,rfl⟩) hq0 ?_
   refine tV 20 28 (undef) rfl (Or.inr ⟨rfl,rfl⟩) hq0 ?_
   refine tV 21 28 (undef) rfl (Or.inr ⟨rfl,rfl⟩) hq0 ?_
   refine tV 22 28 (undef) rfl (Or.inr ⟨rfl,rfl⟩) hq0 ?_
   refine tV 23 28 (undef) rfl (Or.inr ⟨rfl,rfl⟩) hq0 ?_
   refine tW 24 28 (undef) rfl rfl (Or.inr ⟨rfl,rfl⟩) hq0 ?_
   refine tVp 25 28 ((.bool true)) rfl hq0 ?_
   refine gV 26 28 G (o+22) rfl hq0 ?_
   refine cA 27 28 G (o+39) rfl rfl hq0 ?_
   refine iC (z:=28) rfl rfl (by kernel_rfl) (fun K hK=>?_)
   refine bT rfl 4 _ _ rfl G o 39 _ (hP_z1.ext hq0) _ #[.bool true] rfl rfl rfl (by exact(by decide:39+1≤89)) (by kernel_rfl) rfl (fun ws28 hp28 hm28=>?_)
   replace hp28:=aO hp28 HLEN.out (by decide)
   have hr28:Pm G o z1 ws28:=(Ext.pm hq0 G o).trans hm28
   refine hK.out _ _ hr28 (fun _=>?_)
   try simp only[ps]
   clear hK K
   refine aH 29 G (o+22) rfl hr28 ?_
   refine aH 30 G (o+40) rfl hr28 ?_
   refine bB (i:=31) rfl rfl (by kernel_rfl) (fun K hK=>?_)
   refine bT rfl 4 _ _ rfl G o 40 _ hp28 _ #[.bool true] rfl rfl rfl (by exact(by decide:40+1≤89)) (by kernel_rfl) rfl (fun ws31 hp31 hm31=>?_)
   replace hp31:=aO hp31 (aB HLEN.out) (by decide)
   have hr31:Pm G o z1 ws31:=hr28.trans hm31
   refine hK.out _ _ hr31 (fun _=>?_)
   try simp only[ps]
   clear hK K
   refine wpAnyH_done (by kernel_rfl) ?_ _
   generalize ws31=z2 at *
   have hP_z2:Pv z2 G o ((L.set 39 (.bool true)).set 40 (.bool true)):=hp31
   have hH_z2:z2.heap[H0]?=some (.cells #[.pointer (some ⟨G,o,none⟩),.bool rst] 110 (0,0)):=(hm31.row (hm28.row ((hq0.block _ (aC hH_z1)).trans hH_z1) (show H0≠G by omega)) (show H0≠G by omega))
   have E_z2:Pm G o w z2:=((E_z1.ext hq0).trans hm28).trans hm31
   have rH0_z2:=cV hH_z2
   have rH1_z2:=dA hH_z2
   clear hH_z1 hP_z1 E_z1 rH0_z1 rH1_z1
   clear hq0 hqx hm28 hm31 hp28 hp31 hr28 hr31
   go_wp2_with fail
   go_end0
   exact⟨rfl,hP_z2,E_z2⟩
theorem sD{w:World}(G o:Nat)(L:List Value)(hP_w:Pv w G o L)(hl:L.length=89)(rst:Bool)(x51:Int)(h51:L[51]?=some (.int .i64 x51))(x56:Bool)(h56:L[56]?=some (.bool x56)):Calls Tryz.prog 142 #[.agg #[.pointer (some ⟨G,o,none⟩),.bool rst]] w fun e w'=>e=.returned (.tuple #[])∧Pv w' G o (aAW ((x51 == 2) && x56) L)∧Pm G o w w':=by
 by_cases e51:x51=2
 ·subst e51
  cases x56
  ·refine f8 (L1:=L) ?_ rfl
   have hG:=hP_w.lt
   have HLEN:=hD hl
   have HL_51:=hD h51
   have HL_56:=hD h56
   clear hl h51 h56
   go_enter Tryz.func142,Tryz.ntmps142
   go_wp2_with (first
    | fail
    | ((with_reducible refine bP 110 ?_);refine bQ rfl 110 _ rfl #[.pointer (some ⟨G,o,none⟩),.bool rst] rfl ?_
       intro H0 z1 hq hs hx
       have E_z1:Pm G o w z1:=Ext.pm hx G o
       have hP_z1:Pv z1 G o L:=hP_w.ext hx
       have hH_z1:z1.heap[H0]?=some (.cells #[.pointer (some ⟨G,o,none⟩),.bool rst] 110 (0,0)):=hq
       have hb_H0:w.heap.size≤H0:=by omega
       have hn_H0G:H0≠G:=by omega
       have rH0_z1:=cV hH_z1
       have rH1_z1:=dA hH_z1
       have p51_z1:z1.cell? ⟨G,o+51,none⟩=some (.int .i64 2):=(hP_z1.cell (j:=51) (by decide)).trans HL_51.out
       have p56_z1:z1.cell? ⟨G,o+56,none⟩=some (.bool false):=(hP_z1.cell (j:=56) (by decide)).trans HL_56.out
       clear hP_w
       clear hq hs hx))
   go_end0
   exact⟨rfl,hP_z1,E_z1⟩
  ·refine f8 (L1:=(L.set 24 (.bool true)).set 23 (.bool false)) ?_ rfl
   have hG:=hP_w.lt
   have HLEN:=hD hl
   have HL_51:=hD h51
   have HL_56:=hD h56
   clear hl h51 h56
   go_enter Tryz.func142,Tryz.ntmps142
   go_wp2_with (first
    | fail
    | ((with_reducible refine bP 110 ?_);refine bQ rfl 110 _ rfl #[.pointer (some ⟨G,o,none⟩),.bool rst] rfl ?_
       intro H0 z1 hq hs hx
       have E_z1:Pm G o w z1:=Ext.pm hx G o
       have hP_z1:Pv z1 G o L:=hP_w.ext hx
       have hH_z1:z1.heap[H0]?=some (.cells #[.pointer (some ⟨G,o,none⟩),.bool rst] 110 (0,0)):=hq
       have hb_H0:w.heap.size≤H0:=by omega
       have hn_H0G:H0≠G:=by omega
       have rH0_z1:=cV hH_z1
       have rH1_z1:=dA hH_z1
       have p51_z1:z1.cell? ⟨G,o+51,none⟩=some (.int .i64 2):=(hP_z1.cell (j:=51) (by decide)).trans HL_51.out
       have p56_z1:z1.cell? ⟨G,o+56,none⟩=some (.bool true):=(hP_z1.cell (j:=56) (by decide)).trans HL_56.out
       clear hP_w
       clear hq hs hx))
   refine fD (S:=fun W'=>Ext z1 W') (S2:=fun W'=>Pm G o z1 W') 7 (by kernel_rfl) ?_
   intro wd hqx
   have hq0:Ext z1 wd:=hqx
   refine cA 0 7 H0 0 rfl rfl hq0 ?_
   refine tW 1 7 (_) rfl rfl (aA rfl 79 _ rfl ⟨H0,0,none⟩ rfl (.pointer (some ⟨G,o,none⟩)) _ (fun W' hW'=>(cell_of_row _ _ _ _ _ _ ((hW'.block _ (aC hH_z1)).trans hH_z1)).trans rfl) Tryz.underlying79 rfl) hq0 ?_
   refine gV 2 7 H0 0 rfl hq0 ?_
   refine tV 3 7 (_) rfl (aA rfl 79 _ rfl ⟨H0,0,none⟩ rfl (.pointer (some ⟨G,o,none⟩)) _ (fun W' hW'=>(cell_of_row _ _ _ _ _ _ (Pm.row hW' hH_z1 (show H0≠G by omega))).trans rfl) Tryz.underlying79 rfl) hq0 ?_
   refine gV 4 7 G o rfl hq0 ?_
   refine gV 5 7 G (o+22) rfl hq0 ?_
   refine cA 6 7 G (o+24) rfl rfl hq0 ?_
   refine iC (z:=7) rfl rfl (by kernel_rfl) (fun K hK=>?_)
   refine bT rfl 4 _ _ rfl G o 24 _ (hP_z1.ext hq0) _ #[.bool true] rfl rfl rfl (by exact(by decide:24+1≤89)) (by kernel_rfl) rfl (fun ws7 hp7 hm7=>?_)
   replace hp7:=aO hp7 HLEN.out (by decide)
   have hr7:Pm G o z1 ws7:=(Ext.pm hq0 G o).trans hm7
   refine hK.out _ _ hr7 (fun _=>?_)
   try simp only[ps]
   clear hK K
   refine aH 8 G o rfl hr7 ?_
   refine aH 9 G (o+22) rfl hr7 ?_
   refine aH 10 G (o+23) rfl hr7 ?_
   refine bB (i:=11) rfl rfl (by kernel_rfl) (fun K hK=>?_)
   refine bT rfl 4 _ _ rfl G o 23 _ hp7 _ #[.bool false] rfl rfl rfl (by exact(by decide:23+1≤89)) (by kernel_rfl) rfl (fun ws11 hp11 hm11=>?_)
   replace hp11:=aO hp11 (aB HLEN.out) (by decide)
   have hr11:Pm G o z1 ws11:=hr7.trans hm11
   refine hK.out _ _ hr11 (fun _=>?_)
   try simp only[ps]
   clear hK K
   refine wpAnyH_done (by kernel_rfl) ?_ _
   generalize ws11=z2 at *
   have hP_z2:Pv z2 G o ((L.set 24 (.bool true)).set 23 (.bool false)):=hp11
   have hH_z2:z2.heap[H0]?=some (.cells #[.pointer (some ⟨G,o,none⟩),.bool rst] 110 (0,0)):=(hm11.row (hm7.row ((hq0.block _ (aC hH_z1)).trans hH_z1) (show H0≠G by omega)) (show H0≠G by omega))
   have E_z2:Pm G o w z2:=((E_z1.ext hq0).trans hm7).trans hm11
   have rH0_z2:=cV hH_z2
   have rH1_z2:=dA hH_z2
   have p51_z2:z2.cell? ⟨G,o+51,none⟩=some (.int .i64 2):=(hP_z2.cell (j:=51) (by decide)).trans ((aF (by decide)).trans ((aF (by decide)).trans HL_51.out))
   have p56_z2:z2.cell? ⟨G,o+56,none⟩=some (.bool true):=(hP_z2.cell (j:=56) (by decide)).trans ((aF (by decide)).trans ((aF (by decide)).trans HL_56.out))
   clear hH_z1 hP_z1 E_z1 rH0_z1 rH1_z1 p51_z1 p56_z1
   clear hq0 hqx hm7 hm11 hp7 hp11 hr7 hr11
   go_wp2_with fail
   go_end0
   exact⟨rfl,hP_z2,E_z2⟩
 ·refine f8 (L1:=L) ?_ (by rw[jM e51];rfl)
  have c2:(x51 == 2)=false:=by simpa using e51
  clear e51
  have hG:=hP_w.lt
  have HLEN:=hD hl
  have HL_51:=hD h51
  have HL_56:=hD h56
  clear hl h51 h56
  go_enter Tryz.func142,Tryz.ntmps142
  go_wp2_with (first
   | fail
   | ((with_reducible refine bP 110 ?_);refine bQ rfl 110 _ rfl #[.pointer (some ⟨G,o,none⟩),.bool rst] rfl ?_
      intro H0 z1 hq hs hx
      have E_z1:Pm G o w z1:=Ext.pm hx G o
      have hP_z1:Pv z1 G o L:=hP_w.ext hx
      have hH_z1:z1.heap[H0]?=some (.cells #[.pointer (some ⟨G,o,none⟩),.bool rst] 110 (0,0)):=hq
      have hb_H0:w.heap.size≤H0:=by omega
      have hn_H0G:H0≠G:=by omega
      have rH0_z1:=cV hH_z1
      have rH1_z1:=dA hH_z1
      have p51_z1:z1.cell? ⟨G,o+51,none⟩=some (.int .i64 x51):=(hP_z1.cell (j:=51) (by decide)).trans HL_51.out
      have p56_z1:z1.cell? ⟨G,o+56,none⟩=some (.bool x56):=(hP_z1.cell (j:=56) (by decide)).trans HL_56.out
      clear hP_w
      clear hq hs hx))
  go_end0
  exact⟨rfl,hP_z1,E_z1⟩
theorem aAY{w:World}(G o:Nat)(L:List Value)(hP_w:Pv w G o L)(hl:L.length=89)(rst:Bool)(x51:Int)(h51:L[51]?=some (.int .i64 x51)):Calls Tryz.prog 144 #[.agg #[.pointer (some ⟨G,o,none⟩),.bool rst]] w fun e w'=>e=.returned (.tuple #[])∧Pv w' G o (aAX (x51 == 1) L)∧Pm G o w w':=by
 by_cases e51:x51=1
 ·subst e51
  refine f8 (L1:=L.set 41 (.bool true)) ?_ rfl
  have hG:=hP_w.lt
  have HLEN:=hD hl
  have HL_51:=hD h51
  clear hl h51
  go_enter Tryz.func144,Tryz.ntmps144
  go_wp2_with (first
   | fail
   | ((with_reducible refine bP 110 ?_);refine bQ rfl 110 _ rfl #[.pointer (some ⟨G,o,none⟩),.bool rst] rfl ?_
      intro H0 z1 hq hs hx
      have E_z1:Pm G o w z1:=Ext.pm hx G o
      have hP_z1:Pv z1 G o L:=hP_w.ext hx
      have hH_z1:z1.heap[H0]?=some (.cells #[.pointer (some ⟨G,o,none⟩),.bool rst] 110 (0,0)):=hq
      have hb_H0:w.heap.size≤H0:=by omega
      have hn_H0G:H0≠G:=by omega
      have rH0_z1:=cV hH_z1
      have rH1_z1:=dA hH_z1
      have p51_z1:z1.cell? ⟨G,o+51,none⟩=some (.int .i64 1):=(hP_z1.cell (j:=51) (by decide)).trans HL_51.out
      clear hP_w
      clear hq hs hx)
   | ((with_reducible refine aD 4 ?_);refine bI rfl rfl 4 _ _ rfl G o 41 _ hP_z1 _ #[.bool true] rfl rfl rfl (by exact(by decide:41+1≤89)) (by kernel_rfl) rfl ?_
      intro z2 hp hm
      replace hp:=aO hp HLEN.out (by decide)
      have hP_z2:=hp
      have hH_z2:=hm.row hH_z1 (show H0≠G by omega)
      have E_z2:Pm G o w z2:=E_z1.trans hm
      have rH0_z2:=cV hH_z2
      have rH1_z2:=dA hH_z2
      have p51_z2:z2.cell? ⟨G,o+51,none⟩=some (.int .i64 1):=(hP_z2.cell (j:=51) (by decide)).trans ((aF (by decide)).trans HL_51.out)
      clear hH_z1 hP_z1 E_z1 rH0_z1 rH1_z1 p51_z1
      clear hp hm))
  go_end0
  exact⟨rfl,hP_z2,E_z2⟩
 ·refine f8 (L1:=L) ?_ (by rw[jM e51];rfl)
  have c2:(x51 == 1)=false:=by simpa using e51
  clear e51
  have hG:=hP_w.lt
  have HLEN:=hD hl
  have HL_51:=hD h51
  clear hl h51
  go_enter Tryz.func144,Tryz.ntmps144
  go_wp2_with (first
   | fail
   | ((with_reducible refine bP 110 ?_);refine bQ rfl 110 _ rfl #[.pointer (some ⟨G,o,none⟩),.bool rst] rfl ?_
      intro H0 z1 hq hs hx
      have E_z1:Pm G o w z1:=Ext.pm hx G o
      have hP_z1:Pv z1 G o L:=hP_w.ext hx
      have hH_z1:z1.heap[H0]?=some (.cells #[.pointer (some ⟨G,o,none⟩),.bool rst] 110 (0,0)):=hq
      have hb_H0:w.heap.size≤H0:=by omega
      have hn_H0G:H0≠G:=by omega
      have rH0_z1:=cV hH_z1
      have rH1_z1:=dA hH_z1
      have p51_z1:z1.cell? ⟨G,o+51,none⟩=some (.int .i64 x51):=(hP_z1.cell (j:=51) (by decide)).trans HL_51.out
      clear hP_w
      clear hq hs hx))
  go_end0
  exact⟨rfl,hP_z1,E_z1⟩
end Go.Proofs.YtpanapepcbbagaaGreat
