/- Part 23 of what BridgeHold stands on. No statement is proved here. -/
import Derived.Deep.DeepCutAuto
import Derived.StillTailTactics
import Derived.Deep.AppendLies
import Derived.Laws.AppendOwnNone
import Derived.OwnWalk
import Derived.BigQuiet
import Derived.Sort.AssemblyPlain
import Derived.Deep.CutRange
import Derived.Sort.LotC
import Derived.Sort.LotD5
import Derived.Laws.Bits64
import Derived.Laws.Bits64b
import Derived.Sort.LotD4
import Derived.Deep.RegionHeld3
import Derived.Deep.QuietTactic
import Derived.Shelf.Slices.CompactI
import Derived.Shelf.Slices.Clone
import Derived.DeepKeys5
import Derived.Maps.Own
import Derived.Maps.Views
import Derived.Laws.StructEq
import Derived.Laws.Rows
import Derived.Laws.FloatArith
import Derived.Great.BuildSlice
import Derived.Laws.CopyRow
import Derived.Test.YtpanapepcbbagaaGreatBpv
set_option linter.unusedVariables false
set_option linter.unusedSimpArgs false
set_option maxRecDepth 100000
set_option maxHeartbeats 8000000
namespace Go.Proofs.YtpanapepcbbagaaGreat
open Go.RowKit Go.BigFrame Go.WideShapes Go.ChangeShapes Go.Deep
def RowAt(w:World)(v:Value)(n m:Nat)(f:Nat→List Value):Prop:=∃a cap,v=.slice a n cap∧n≤100000∧(0<n→∃b off,a=some ⟨b,off,none⟩∧b<w.heap.size∧n≤cap∧cap≤9223372036854775807∧∀i,i<n→w.rangeAt b (off+i*m) (f i))
theorem RowAt.ext{w w':World}{v:Value}{n m:Nat}{f:Nat→List Value}(h:RowAt w v n m f)(hx:Ext w w'):RowAt w' v n m f:=by
 obtain⟨a,cap,e,hm,hf⟩:=h
 refine⟨a,cap,e,hm,fun h0=>?_⟩
 obtain⟨b,off,e1,hb,h1,h2,h3⟩:=hf h0
 exact⟨b,off,e1,nL hb hx.size,h1,h2,fun i hi=>rangeR_ext (h3 i hi) hx hb⟩
structure Pt where
 pid:Int
 cost:Int
 sh:Bool
 ad:Bool
 au:Bool
 deriving Inhabited,DecidableEq
def Pt.L(p:Pt):List Value:=[.int .u16 p.pid,.int .u32 p.cost,.bool p.sh,.bool p.ad,.bool p.au]
structure Nd where
 id:Int
 rst:Bool
 ports:List Pt
 deriving Inhabited,DecidableEq
abbrev Pl:=Int × Int
def PtsAt(w:World)(v:Value)(P:List Pt):Prop:=RowAt w v P.length 5 (fun i=>(P.getD i default).L)
theorem ownR_ext{w w':World}{base m n:Nat}{e:TypeId}{v:Value}{xs:List Value}(h:w.ownsRow base e m v n xs)(hx:Ext w w'):w'.ownsRow base e m v n xs:=by
 refine⟨h.1,?_⟩
 rcases h.2 with hn|⟨g,cap,cur,rfl,hb,hg,rest⟩
 ·exact .inl hn
 ·exact .inr ⟨g,cap,cur,rfl,hb,(hx.block g (heap_lt hg)).trans hg,rest⟩
theorem ext_grown{w0 w1 w2:World}{base m n:Nat}{e:TypeId}{v:Value}{xs:List Value}(hx:Ext w0 w1)(ho:w1.ownsRow base e m v n xs)(hb:w0.heap.size≤base)(hg:w1.grownBy w2 v.ownBlock):Ext w0 w2 :=
 Mut.ext (F:=fun _=>False) ⟨hg.os.trans hx.os,hg.tape.trans hx.tape,hg.output.trans hx.output,Nat.le_trans hx.size hg.size,fun k hk _=>(hg.block k (nL hk hx.size) (fun e=>by have:=(own_lt2 ho e.symm).1;omega)).trans (hx.block k hk)⟩ (fun _ _ h=>h)
def costA(N:List Nd)(p:Pl):Int:=((N.getD p.1.toNat default).ports.getD p.2.toNat default).cost
def h3(N:List Nd)(f:Int)(seg:List Pl):List Hp:=(seg.filter (fun p=>!(p.1 == f))).map (fun p=>(⟨f,p.1,costA N p⟩:Hp))
def h2(N:List Nd)(seg:List Pl)(fs:List Int):List Hp:=fs.flatMap (fun f=>h3 N f seg)
theorem take_snoc{α:Type}(l:List α)(d:α){k:Nat}(h:k<l.length):l.take (k+1)=l.take k++[l.getD k d]:=by
 rw[List.take_succ_eq_append_getElem h]
 congr 2
 simp[List.getD_eq_getElem?_getD,h]
theorem wf64{x:Int}(h:-9223372036854775808≤x∧x<9223372036854775808):(Lit.int .i64 x).wf=true:=by
 have e1:IntKind.i64.min=-9223372036854775808:=rfl
 have e2:IntKind.i64.max=9223372036854775807:=rfl
 simp only[Lit.wf,e1,e2,Bool.and_eq_true,decide_eq_true_eq]
 omega
theorem own_mut{w w':World}{base m n:Nat}{e:TypeId}{v:Value}{xs:List Value}{F:Nat→Prop}(h:w.ownsRow base e m v n xs)(hm:Mut F w w')(hF:∀g,v.ownBlock=some g→¬F g):w'.ownsRow base e m v n xs:=by
 refine⟨h.1,?_⟩
 rcases h.2 with hn|⟨g,cap,cur,rfl,hb,hg,rest⟩
 ·exact .inl hn
 ·exact .inr ⟨g,cap,cur,rfl,hb,(hm.heap (heap_lt hg) (hF g rfl)).trans hg,rest⟩
theorem grown_mut{w w':World}{row:Option Nat}(hg:w.grownBy w' row):Mut (fun g=>row=some g) w w':=⟨hg.os,hg.tape,hg.output,hg.size,fun k hk h=>hg.block k hk (fun e=>h e.symm)⟩
theorem app_fr{wl wn wa ws:World}{u:Value}{box:Nat}(h1:Ext wl wn)(h2:wn.grownBy wa u.ownBlock)(h3:Mut (fun g=>g=box) wa ws):Mut (fun g=>g=box∨u.ownBlock=some g) wl ws :=
 ((h1.mut _).trans ((grown_mut h2).mono (fun _ _ h=>.inr h))).trans (h3.mono (fun _ _ h=>.inl h))
theorem Ext.app{w0 wl ws:World}{u:Value}{box base m n:Nat}{e:TypeId}{xs:List Value}(h0:Ext w0 wl)(hb:w0.heap.size≤box)(hw:wl.ownsRow base e m u n xs)(hbase:w0.heap.size≤base)(hm:Mut (fun g=>g=box∨u.ownBlock=some g) wl ws):Ext w0 ws :=
 h0.mutE hm (fun k hk h=>by
  rcases h with h|h
  ·omega
  ·have:=(own_lt2 hw h).1
   omega)
theorem flat_at{α:Type}(f:α→List Value)(m:Nat)(hf:∀a,(f a).length=m)(d:α):∀(l:List α) (i j:Nat) (x:Value),i<l.length→(f (l.getD i d))[j]?=some x→(l.flatMap f)[i*m+j]?=some x
 | [],i,_,_,hi,_=>by simp at hi
 | a :: l,0,j,x,_,hj=>by
  have hj2:j<(f a).length:=(List.getElem?_eq_some_iff.1 hj).1
  rw[List.flatMap_cons,Nat.zero_mul,Nat.zero_add,List.getElem?_append_left hj2]
  exact hj
 | a :: l,i+1,j,x,hi,hj=>by
  rw[List.flatMap_cons,List.getElem?_append_right (by rw[hf,Nat.succ_mul];omega),hf,show(i+1)*m+j - m=i*m+j by rw[Nat.succ_mul];omega]
  exact flat_at f m hf d l i j x (by simpa using hi) hj
def SUZ:Array Value:=#[.int .u16 0,.int .u32 0,.bool false,.bool false,.bool false]
def PortZ:Array Value:=#[.int .u16 0,.int .u32 0,.bool false,.bool false,.bool false,.bool false,.int .i64 0,.int .i64 0,.int .i64 0,.int .i64 0,.int .i64 0,.int .i64 0,.int .i64 0,.int .i64 0,.int .i64 0,.int .i64 0,.int .i64 0,.int .i64 0,.int .i64 0,.int .i64 0,.int .i64 0,.int .i64 0,.bool false,.bool false,.bool false,.bool false,.bool false,.bool false,.bool false,.bool false,.bool false,.bool false,.bool false,.bool false,.bool false,.bool false,.bool false,.bool false,.bool false,.bool false,.bool false,.bool false,.bool false,.bool false,.bool false,.bool false,.bool false,.bool false,.bool false,.bool false,.bool false,.int .i64 0,.bool false,.bool false,.bool false,.bool false,.bool false,.bool false,.int .i64 0,.int .u64 0,.int .u32 0,.int .u64 0,.int .u16 0,.int .u16 0,.int .i64 0,.int .i64 0,.int .i64 0,.int .i64 0,.int .u64 0,.int .u32 0,.int .u64 0,.int .u16 0,.int .u16 0,.int .u64 0,.int .u32 0,.int .u64 0,.int .u16 0,.int .u16 0,.int .i64 0,.int .i64 0,.int .i64 0,.int .i64 0,.int .i64 0,.int .i64 0,.int .i64 0,.int .i64 0,.int .i64 0,.int .i64 0,.int .i64 0]
theorem zero_po:∀w,(zeroValue 60).run Tryz.prog w=.ok (.agg PortZ) w:=(zero_of_info (P:=Tryz.prog) (t:=60) (v:=.agg PortZ) (n:=89) (by kernel_rfl)).1
theorem size_po:(Tryz.prog.info? 60).map (·.size)=some 89:=by kernel_rfl
def portL(a b:Int)(x y z r:Bool)(mx hl dl e:Int):Array Value:=#[.int .u16 a,.int .u32 b,.bool false,.bool x,.bool y,.bool z,.int .i64 3,.int .i64 mx,.int .i64 hl,.int .i64 3,.int .i64 0,.int .i64 0,.int .i64 dl,.int .i64 0,.int .i64 0,.int .i64 0,.int .i64 0,.int .i64 e,.int .i64 0,.int .i64 0,.int .i64 0,.int .i64 0,.bool false,.bool false,.bool false,.bool true,.bool false,.bool false,.bool false,.bool false,.bool false,.bool true,.bool y,.bool false,.bool false,.bool false,.bool false,.bool false,.bool false,.bool false,.bool false,.bool false,.bool true,.bool true,.bool false,.bool r,.bool true,.bool false,.bool false,.bool false,.bool false,.int .i64 0,.bool false,.bool false,.bool false,.bool false,.bool false,.bool false,.int .i64 0,.int .u64 0,.int .u32 0,.int .u64 0,.int .u16 0,.int .u16 0,.int .i64 0,.int .i64 0,.int .i64 0,.int .i64 0,.int .u64 0,.int .u32 0,.int .u64 0,.int .u16 0,.int .u16 0,.int .u64 0,.int .u32 0,.int .u64 0,.int .u16 0,.int .u16 0,.int .i64 0,.int .i64 0,.int .i64 0,.int .i64 0,.int .i64 0,.int .i64 0,.int .i64 0,.int .i64 0,.int .i64 0,.int .i64 0,.int .i64 0]
theorem bl_ck(m h d:Int):Tryz.prog.built 54 [(0,.int .i64 3),(3,.int .i64 3),(2,.int .i64 h),(6,.int .i64 d),(1,.int .i64 m)]=some #[.int .i64 3,.int .i64 m,.int .i64 h,.int .i64 3,.int .i64 0,.int .i64 0,.int .i64 d,.int .i64 0,.int .i64 0]:=by kernel_rfl
theorem bl_sa:Tryz.prog.built 56 [(3,.int .i64 0),(2,.int .i64 1)]=some #[.int .i64 0,.int .i64 0,.int .i64 1,.int .i64 0,.int .i64 0,.int .i64 0,.int .i64 0]:=by kernel_rfl
theorem bl_fl(r y:Bool):Tryz.prog.built 58 [(21,.bool true),(24,.bool true),(20,.bool true),(3,.bool true),(9,.bool true),(23,.bool r),(10,.bool y)]=some #[.bool false,.bool false,.bool false,.bool true,.bool false,.bool false,.bool false,.bool false,.bool false,.bool true,.bool y,.bool false,.bool false,.bool false,.bool false,.bool false,.bool false,.bool false,.bool false,.bool false,.bool true,.bool true,.bool false,.bool r,.bool true,.bool false,.bool false,.bool false,.bool false]:=by kernel_rfl
theorem bl_po(a b:Int)(x y z r:Bool)(m h d:Int):Tryz.prog.built 60 [(0,.int .u16 a),(1,.int .u32 b),(3,.bool x),(4,.bool y),(5,.bool z),(6,.agg #[.int .i64 3,.int .i64 m,.int .i64 h,.int .i64 3,.int .i64 0,.int .i64 0,.int .i64 d,.int .i64 0,.int .i64 0]),(7,.agg #[.int .i64 0,.int .i64 0,.int .i64 1,.int .i64 0,.int .i64 0,.int .i64 0,.int .i64 0]),(8,.agg #[.bool false,.bool false,.bool false,.bool true,.bool false,.bool false,.bool false,.bool false,.bool false,.bool true,.bool y,.bool false,.bool false,.bool false,.bool false,.bool false,.bool false,.bool false,.bool false,.bool false,.bool true,.bool true,.bool false,.bool r,.bool true,.bool false,.bool false,.bool false,.bool false]),(14,.int .i64 0)]=some (portL a b x y z r m h d 1):=by kernel_rfl
theorem newport_any{ta:Int}(a b mx hl dl:Int)(x y z r:Bool)(w:World):
    Calls Tryz.prog 23 #[.agg #[.int .u16 a,.int .u32 b,.bool x,.bool y,.bool z],.bool r,.agg #[.int .i64 ta,.int .i64 mx,.int .i64 hl,.int .i64 dl]] w fun e w'=>e=.returned (.agg (portL a b x y z r mx hl dl (if y then 0 else 1)))∧Ext w w':=by
 go_enter Tryz.func23,Tryz.ntmps23
 cases y with
 | false =>
  go_wp2_with (first
   | fail
   | ((with_reducible refine at_box 73 ?_);refine bx_row rfl 73 _ rfl #[.int .u16 a,.int .u32 b,.bool x,.bool false,.bool z] rfl ?_
      intro X wa hX hsz hx1
      have HXa:=hD hX
      have HEa:=hD hx1
      clear hX hsz hx1)
   | ((with_reducible refine at_box 24 ?_);refine bx_row rfl 24 _ rfl #[.int .i64 ta,.int .i64 mx,.int .i64 hl,.int .i64 dl] rfl ?_
      intro Y wb hX hsz hx1
      have HYb:=hD hX
      have HEb:=hD (HEa.out.trans hx1)
      have HXb:=hD ((hx1.block X (heap_lt HXa.out)).trans HXa.out)
      clear hX hsz hx1 HEa HXa)
   | ((with_reducible refine at_alloc 60 ?_);have h0:=HEb.out;refine al_zero rfl 60 rfl PortZ zero_po ?_
      intro RB w1 hq hsz hx
      have HRB:=hD hq
      have HE1:=hD (HEb.out.trans hx)
      have HRW:=hD (show w.heap.size≤RB from by have:=HEb.out.size;omega)
      have HX1:=(hx.block X (heap_lt HXb.out)).trans HXb.out
      have HY1:=(hx.block Y (heap_lt HYb.out)).trans HYb.out
      have x0:w1.cell? ⟨X,0,none⟩=some (.int .u16 a):=by rw[cell_row HX1];rfl
      have x1:w1.cell? ⟨X,1,none⟩=some (.int .u32 b):=by rw[cell_row HX1];rfl
      have x2:w1.cell? ⟨X,2,none⟩=some (.bool x):=by rw[cell_row HX1];rfl
      have x3:w1.cell? ⟨X,3,none⟩=some (.bool false):=by rw[cell_row HX1];rfl
      have x4:w1.cell? ⟨X,4,none⟩=some (.bool z):=by rw[cell_row HX1];rfl
      have y1:w1.cell? ⟨Y,1,none⟩=some (.int .i64 mx):=by rw[cell_row HY1];rfl
      have y2:w1.cell? ⟨Y,2,none⟩=some (.int .i64 hl):=by rw[cell_row HY1];rfl
      have y3:w1.cell? ⟨Y,3,none⟩=some (.int .i64 dl):=by rw[cell_row HY1];rfl
      clear HXb HYb
      have HX1:=hD HX1
      clear HY1 hq hsz hx h0 HEb)
   | ((with_reducible refine at_build 54 ?_);refine wpList_build2 rfl 54 _ rfl _ rfl _ (bl_ck mx hl dl) ?_)
   | ((with_reducible refine at_build 56 ?_);refine wpList_build2 rfl 56 _ rfl _ rfl _ bl_sa ?_)
   | ((with_reducible refine at_build 58 ?_);refine wpList_build2 rfl 58 _ rfl _ rfl _ (bl_fl r false) ?_)
   | ((with_reducible refine at_build 60 ?_);refine wpList_build2 rfl 60 _ rfl _ rfl _ (bl_po a b x false z r mx hl dl) ?_)
   | ((with_reducible refine at_alloc 60 ?_);have h0:=HE1.out;refine al_zero rfl 60 rfl PortZ zero_po ?_
      intro G w3 hq3 hsz3 hx3)
   | ((with_reducible refine at_store 60 ?_);refine st_at rfl rfl 60 _ _ rfl G 0 _ (portL a b x false z r mx hl dl 1) PortZ (portL a b x false z r mx hl dl 1) 60 rfl rfl rfl hq3 (by exact(by decide:0+89≤89)) (by kernel_rfl) (by kernel_rfl) (by kernel_rfl) ?_
      intro w4 hq4 hm4
      have hx14:Ext w1 w4:=hx3.mutE hm4 (fun g hg h=>by have h2:g=G:=h;omega)
      have HE4:=hD (HE1.out.trans hx14)
      have HG:=hD hq4
      have HGW:=hD (show w1.heap.size≤G from by omega)
      have HRB4:=hD ((hx14.block RB (heap_lt HRB.out)).trans HRB.out)
      have x3:w4.cell? ⟨X,3,none⟩=some (.bool false):=by rw[cell_row ((hx14.block X (heap_lt HX1.out)).trans HX1.out)];rfl
      clear hq3 hsz3 hx3 hq4 hm4 hx14 h0 x0 x1 x2 x4 y1 y2 y3)
   | ((with_reducible refine at_load 60 ?_);refine wpList_load_row rfl 60 _ rfl G rfl 60 (portL a b x false z r mx hl dl 1) (0,0) _ HG.out Tryz.underlying60 rfl size_po ?_)
   | ((with_reducible refine at_store 60 ?_);refine st_at rfl rfl 60 _ _ rfl RB 0 _ (portL a b x false z r mx hl dl 1) PortZ (portL a b x false z r mx hl dl 1) 60 rfl rfl rfl HRB4.out (by exact(by decide:0+89≤89)) (by kernel_rfl) (by kernel_rfl) (by kernel_rfl) ?_
      intro wz hqz hmz
      have HRZ:=hD hqz
      have HMZ:=hD hmz
      clear hqz hmz))
  refine bodyPost_ret (results_cell_row rfl _ _ RB _ _ (0,0) _ rfl HRZ.out Tryz.underlying60 rfl size_po) rfl ?_
  exact⟨rfl,HE4.out.mutE HMZ.out (fun g h1 h2=>by have h3:g=RB:=h2;have h4:=HRW.out;omega)⟩
 | true =>
  go_wp2_with (first
   | fail
   | ((with_reducible refine at_box 73 ?_);refine bx_row rfl 73 _ rfl #[.int .u16 a,.int .u32 b,.bool x,.bool true,.bool z] rfl ?_
      intro X wa hX hsz hx1
      have HXa:=hD hX
      have HEa:=hD hx1
      clear hX hsz hx1)
   | ((with_reducible refine at_box 24 ?_);refine bx_row rfl 24 _ rfl #[.int .i64 ta,.int .i64 mx,.int .i64 hl,.int .i64 dl] rfl ?_
      intro Y wb hX hsz hx1
      have HYb:=hD hX
      have HEb:=hD (HEa.out.trans hx1)
      have HXb:=hD ((hx1.block X (heap_lt HXa.out)).trans HXa.out)
      clear hX hsz hx1 HEa HXa)
   | ((with_reducible refine at_alloc 60 ?_);have h0:=HEb.out;refine al_zero rfl 60 rfl PortZ zero_po ?_
      intro RB w1 hq hsz hx
      have HRB:=hD hq
      have HE1:=hD (HEb.out.trans hx)
      have HRW:=hD (show w.heap.size≤RB from by have:=HEb.out.size;omega)
      have HX1:=(hx.block X (heap_lt HXb.out)).trans HXb.out
      have HY1:=(hx.block Y (heap_lt HYb.out)).trans HYb.out
      have x0:w1.cell? ⟨X,0,none⟩=some (.int .u16 a):=by rw[cell_row HX1];rfl
      have x1:w1.cell? ⟨X,1,none⟩=some (.int .u32 b):=by rw[cell_row HX1];rfl
      have x2:w1.cell? ⟨X,2,none⟩=some (.bool x):=by rw[cell_row HX1];rfl
      have x3:w1.cell? ⟨X,3,none⟩=some (.bool true):=by rw[cell_row HX1];rfl
      have x4:w1.cell? ⟨X,4,none⟩=some (.bool z):=by rw[cell_row HX1];rfl
      have y1:w1.cell? ⟨Y,1,none⟩=some (.int .i64 mx):=by rw[cell_row HY1];rfl
      have y2:w1.cell? ⟨Y,2,none⟩=some (.int .i64 hl):=by rw[cell_row HY1];rfl
      have y3:w1.cell? ⟨Y,3,none⟩=some (.int .i64 dl):=by rw[cell_row HY1];rfl
      clear HXb HYb
      have HX1:=hD HX1
      clear HY1 hq hsz hx h0 HEb)
   | ((with_reducible refine at_build 54 ?_);refine wpList_build2 rfl 54 _ rfl _ rfl _ (bl_ck mx hl dl) ?_)
   | ((with_reducible refine at_build 56 ?_);refine wpList_build2 rfl 56 _ rfl _ rfl _ bl_sa ?_)
   | ((with_reducible refine at_build 58 ?_);refine wpList_build2 rfl 58 _ rfl _ rfl _ (bl_fl r true) ?_)
   | ((with_reducible refine at_build 60 ?_);refine wpList_build2 rfl 60 _ rfl _ rfl _ (bl_po a b x true z r mx hl dl) ?_)
   | ((with_reducible refine at_alloc 60 ?_);have h0:=HE1.out;refine al_zero rfl 60 rfl PortZ zero_po ?_
      intro G w3 hq3 hsz3 hx3)
   | ((with_reducible refine at_store 60 ?_);refine st_at rfl rfl 60 _ _ rfl G 0 _ (portL a b x true z r mx hl dl 1) PortZ (portL a b x true z r mx hl dl 1) 60 rfl rfl rfl hq3 (by exact(by decide:0+89≤89)) (by kernel_rfl) (by kernel_rfl) (by kernel_rfl) ?_
      intro w4 hq4 hm4
      have hx14:Ext w1 w4:=hx3.mutE hm4 (fun g hg h=>by have h2:g=G:=h;omega)
      have HE4:=hD (HE1.out.trans hx14)
      have HG:=hD hq4
      have HGW:=hD (show w1.heap.size≤G from by omega)
      have HRB4:=hD ((hx14.block RB (heap_lt HRB.out)).trans HRB.out)
      have x3:w4.cell? ⟨X,3,none⟩=some (.bool true):=by rw[cell_row ((hx14.block X (heap_lt HX1.out)).trans HX1.out)];rfl
      clear hq3 hsz3 hx3 hq4 hm4 hx14 h0 x0 x1 x2 x4 y1 y2 y3)
   | ((with_reducible refine at_store 3 ?_);refine st_at rfl rfl 3 _ _ rfl G 17 _ #[.int .i64 0] (portL a b x true z r mx hl dl 1) (portL a b x true z r mx hl dl 0) 60 rfl rfl rfl HG.out (by exact(by decide:17+1≤89)) (by kernel_rfl) rfl (by kernel_rfl) ?_
      intro w5 hq5 hm5
      have HG5:=hD hq5
      have HE5:=hD (HE4.out.mutE hm5 (fun g h1 h2=>by have h3:g=G:=h2;have h4:=HGW.out;have h5:=HE1.out.size;omega))
      have HRB5:=hD ((hm5.heap (heap_lt HRB4.out) (fun h=>by have h3:RB=G:=h;have h4:=heap_lt HRB.out;have h5:=HGW.out;omega)).trans HRB4.out)
      clear hq5 hm5)
   | ((with_reducible refine at_load 60 ?_);refine wpList_load_row rfl 60 _ rfl G rfl 60 (portL a b x true z r mx hl dl 0) (0,0) _ HG5.out Tryz.underlying60 rfl size_po ?_)
   | ((with_reducible refine at_store 60 ?_);refine st_at rfl rfl 60 _ _ rfl RB 0 _ (portL a b x true z r mx hl dl 0) PortZ (portL a b x true z r mx hl dl 0) 60 rfl rfl rfl HRB5.out (by exact(by decide:0+89≤89)) (by kernel_rfl) (by kernel_rfl) (by kernel_rfl) ?_
      intro wz hqz hmz
      have HRZ:=hD hqz
      have HMZ:=hD hmz
      clear hqz hmz))
  refine bodyPost_ret (results_cell_row rfl _ _ RB _ _ (0,0) _ rfl HRZ.out Tryz.underlying60 rfl size_po) rfl ?_
  exact⟨rfl,HE5.out.mutE HMZ.out (fun g h1 h2=>by have h3:g=RB:=h2;have h4:=HRW.out;omega)⟩
def AllOk:List (Option IntKind)→List Value→Prop
 | [],[]=>True
 | k :: l,v :: cs=>cellOk k v∧AllOk l cs
 | _,_=>False
theorem typed_all:∀{l:List (Option IntKind)} {cs:List Value},AllOk l cs→Typed l cs
 | [],[],_=>⟨rfl,fun j k h=>by simp at h⟩
 | k :: l,v :: cs,⟨h1,h2⟩=>by
  obtain⟨e,h3⟩:=typed_all h2
  refine⟨by simp[e],fun j q hj=>?_⟩
  cases j with
  | zero =>
   simp only[List.getElem?_cons_zero,Option.some.injEq]at hj
   subst hj
   exact⟨v,rfl,h1⟩
  | succ j =>
   rw[List.getElem?_cons_succ]at hj ⊢
   exact h3 j q hj
 | [],_ :: _,h=>h.elim
 | _ :: _,[],h=>h.elim
theorem wfu16{x:Int}(h:0≤x∧x<65536):(Lit.int .u16 x).wf=true:=by
 have e1:IntKind.u16.min=0:=rfl
 have e2:IntKind.u16.max=65535:=rfl
 simp only[Lit.wf,e1,e2,Bool.and_eq_true,decide_eq_true_eq]
 omega
theorem wfu32{x:Int}(h:0≤x∧x<4294967296):(Lit.int .u32 x).wf=true:=by
 have e1:IntKind.u32.min=0:=rfl
 have e2:IntKind.u32.max=4294967295:=rfl
 simp only[Lit.wf,e1,e2,Bool.and_eq_true,decide_eq_true_eq]
 omega
theorem wfu64{x:Int}(h:0≤x∧x<18446744073709551616):(Lit.int .u64 x).wf=true:=by
 have e1:IntKind.u64.min=0:=rfl
 have e2:IntKind.u64.max=18446744073709551615:=rfl
 simp only[Lit.wf,e1,e2,Bool.and_eq_true,decide_eq_true_eq]
 omega
theorem PL_lit:PL=[some .u16,some .u32,none,none,none,none,some .i64,some .i64,some .i64,some .i64,some .i64,some .i64,some .i64,some .i64,some .i64,some .i64,some .i64,some .i64,some .i64,some .i64,some .i64,some .i64,none,none,none,none,none,none,none,none,none,none,none,none,none,none,none,none,none,none,none,none,none,none,none,none,none,none,none,none,none,some .i64,none,none,none,none,none,none,some .i64,some .u64,some .u32,some .u64,some .u16,some .u16,some .i64,some .i64,some .i64,some .i64,some .u64,some .u32,some .u64,some .u16,some .u16,some .u64,some .u32,some .u64,some .u16,some .u16,some .i64,some .i64,some .i64,some .i64,some .i64,some .i64,some .i64,some .i64,some .i64,some .i64,some .i64]:=rfl
theorem HL_lit:HL=[some .u64,none,some .i64,some .i64,some .i64,some .i64,some .i64,some .u64,some .u32,some .u64,some .u16,some .u16,some .i64,some .i64,some .i64,some .i64,some .i64]:=rfl
theorem portL_ok{a b mx hl dl e:Int}{x y z r:Bool}(ha:(Lit.int .u16 a).wf=true)(hb:(Lit.int .u32 b).wf=true)(hm:(Lit.int .i64 mx).wf=true)(hh:(Lit.int .i64 hl).wf=true)(hd:(Lit.int .i64 dl).wf=true)(he:(Lit.int .i64 e).wf=true):Typed PL (portL a b x y z r mx hl dl e).toList:=by
 rw[PL_lit]
 exact typed_all ⟨⟨_,rfl,ha⟩,⟨_,rfl,hb⟩,⟨_,rfl⟩,⟨_,rfl⟩,⟨_,rfl⟩,⟨_,rfl⟩,⟨_,rfl,rfl⟩,⟨_,rfl,hm⟩,⟨_,rfl,hh⟩,⟨_,rfl,rfl⟩,⟨_,rfl,rfl⟩,⟨_,rfl,rfl⟩,⟨_,rfl,hd⟩,⟨_,rfl,rfl⟩,⟨_,rfl,rfl⟩,⟨_,rfl,rfl⟩,⟨_,rfl,rfl⟩,⟨_,rfl,he⟩,⟨_,rfl,rfl⟩,⟨_,rfl,rfl⟩,⟨_,rfl,rfl⟩,⟨_,rfl,rfl⟩,⟨_,rfl⟩,⟨_,rfl⟩,⟨_,rfl⟩,⟨_,rfl⟩,⟨_,rfl⟩,⟨_,rfl⟩,⟨_,rfl⟩,⟨_,rfl⟩,⟨_,rfl⟩,⟨_,rfl⟩,⟨_,rfl⟩,⟨_,rfl⟩,⟨_,rfl⟩,⟨_,rfl⟩,⟨_,rfl⟩,⟨_,rfl⟩,⟨_,rfl⟩,⟨_,rfl⟩,⟨_,rfl⟩,⟨_,rfl⟩,⟨_,rfl⟩,⟨_,rfl⟩,⟨_,rfl⟩,⟨_,rfl⟩,⟨_,rfl⟩,⟨_,rfl⟩,⟨_,rfl⟩,⟨_,rfl⟩,⟨_,rfl⟩,⟨_,rfl,rfl⟩,⟨_,rfl⟩,⟨_,rfl⟩,⟨_,rfl⟩,⟨_,rfl⟩,⟨_,rfl⟩,⟨_,rfl⟩,⟨_,rfl,rfl⟩,⟨_,rfl,rfl⟩,⟨_,rfl,rfl⟩,⟨_,rfl,rfl⟩,⟨_,rfl,rfl⟩,⟨_,rfl,rfl⟩,⟨_,rfl,rfl⟩,⟨_,rfl,rfl⟩,⟨_,rfl,rfl⟩,⟨_,rfl,rfl⟩,⟨_,rfl,rfl⟩,⟨_,rfl,rfl⟩,⟨_,rfl,rfl⟩,⟨_,rfl,rfl⟩,⟨_,rfl,rfl⟩,⟨_,rfl,rfl⟩,⟨_,rfl,rfl⟩,⟨_,rfl,rfl⟩,⟨_,rfl,rfl⟩,⟨_,rfl,rfl⟩,⟨_,rfl,rfl⟩,⟨_,rfl,rfl⟩,⟨_,rfl,rfl⟩,⟨_,rfl,rfl⟩,⟨_,rfl,rfl⟩,⟨_,rfl,rfl⟩,⟨_,rfl,rfl⟩,⟨_,rfl,rfl⟩,⟨_,rfl,rfl⟩,⟨_,rfl,rfl⟩,⟨_,rfl,rfl⟩,trivial⟩
def hdL(id:Int)(rst:Bool)(mx hl dl hold:Int):List Value:=[.int .u64 id,.bool rst,.int .i64 0,.int .i64 mx,.int .i64 hl,.int .i64 dl,.int .i64 hold,.int .u64 id,.int .u32 0,.int .u64 id,.int .u16 0,.int .u16 0,.int .i64 (-1),.int .i64 0,.int .i64 mx,.int .i64 hl,.int .i64 dl]
def pL(rst:Bool)(mx hl dl:Int)(p:Pt):List Value:=(portL p.pid p.cost p.sh p.ad p.au rst mx hl dl (if p.ad then 0 else 1)).toList
def newB(id:Int)(rst:Bool)(mx hl dl hold:Int)(P:List Pt):Br:=⟨hdL id rst mx hl dl hold,P.length,P.flatMap (pL rst mx hl dl),0,[],0,[]⟩
def PtR(p:Pt):Prop:=(0≤p.pid∧p.pid<65536)∧0≤p.cost∧p.cost<4294967296
theorem pL_len(rst:Bool)(mx hl dl:Int)(p:Pt):(pL rst mx hl dl p).length=89:=rfl
theorem newB_cell{id mx hl dl hold:Int}{rst:Bool}{P:List Pt}{k j:Nat}{x:Value}(hk:k<P.length)(hx:(pL rst mx hl dl (P.getD k default))[j]?=some x):(newB id rst mx hl dl hold P).ps[k*89+j]?=some x :=
 flat_at (pL rst mx hl dl) 89 (pL_len rst mx hl dl) default P k j x hk hx
theorem newB_gi{id hold:Int}{rst:Bool}{P:List Pt}{k j:Nat}{q:IntKind}{x:Int}(hk:k<P.length)(hx:(pL rst 20 2 15 (P.getD k default))[j]?=some (.int q x)):(newB id rst 20 2 15 hold P).gi k j=x:=by
 unfold Br.gi
 rw[newB_cell hk hx]
theorem newB_right{id hold:Int}{rst:Bool}{P:List Pt}(hn:P.length≤32):RightP (newB id rst 20 2 15 hold P)↔1≤hold∧hold≤10:=by
 constructor
 ·rintro⟨⟨_,_,_,h1,h2,_⟩,_⟩
  exact⟨h1,h2⟩
 ·rintro⟨h1,h2⟩
  have e:∀j x,(hdL id rst 20 2 15 hold)[j]?=some (.int .i64 x)→(newB id rst 20 2 15 hold P).hi j=x:=fun j x h=>by
   unfold Br.hi
   show(match (hdL id rst 20 2 15 hold)[j]? with|some (.int _ z)=>z|_=>0)=x
   rw[h]
  refine⟨⟨?_,?_,e 2 0 rfl,?_,?_,hn,?_,?_⟩,fun k hk=>⟨fun j hj=>?_,?_,?_,?_⟩⟩
  ·rw[e 2 0 rfl,e 3 20 rfl,e 4 2 rfl,e 5 15 rfl];unfold TR;omega
  ·rw[e 13 0 rfl,e 14 20 rfl,e 15 2 rfl,e 16 15 rfl];unfold TF;omega
  ·rw[e 6 hold rfl];exact h1
  ·rw[e 6 hold rfl];exact h2
  ·rw[e 12 (-1) rfl];omega
  ·rw[e 12 (-1) rfl];show(-1:Int)<(P.length:Int);omega
  ·have hc:j=0∨j=1∨j=2∨j=3∨j=4∨j=5∨j=6∨j=7∨j=8:=by omega
   rcases hc with rfl|rfl|rfl|rfl|rfl|rfl|rfl|rfl|rfl
   ·rw[newB_gi (q:=.i64) (x:=3) hk rfl];omega
   ·rw[newB_gi (q:=.i64) (x:=20) hk rfl];omega
   ·rw[newB_gi (q:=.i64) (x:=2) hk rfl];omega
   ·rw[newB_gi (q:=.i64) (x:=3) hk rfl];omega
   ·rw[newB_gi (q:=.i64) (x:=0) hk rfl];omega
   ·rw[newB_gi (q:=.i64) (x:=0) hk rfl];omega
   ·rw[newB_gi (q:=.i64) (x:=15) hk rfl];omega
   ·rw[newB_gi (q:=.i64) (x:=0) hk rfl];omega
   ·rw[newB_gi (q:=.i64) (x:=0) hk rfl];omega
  ·rw[newB_gi (q:=.i64) (x:=0) hk rfl,newB_gi (q:=.i64) (x:=0) hk rfl,newB_gi (q:=.i64) (x:=0) hk rfl,newB_gi (q:=.i64) (x:=0) hk rfl];unfold TF;omega
  ·rw[newB_gi (q:=.i64) (x:=0) hk rfl,newB_gi (q:=.i64) (x:=0) hk rfl,newB_gi (q:=.i64) (x:=0) hk rfl,newB_gi (q:=.i64) (x:=0) hk rfl];unfold TF;omega
  ·rw[newB_gi (q:=.i64) (x:=0) hk rfl,newB_gi (q:=.i64) (x:=0) hk rfl,newB_gi (q:=.i64) (x:=0) hk rfl,newB_gi (q:=.i64) (x:=0) hk rfl];unfold TF;omega
end Go.Proofs.YtpanapepcbbagaaGreat
