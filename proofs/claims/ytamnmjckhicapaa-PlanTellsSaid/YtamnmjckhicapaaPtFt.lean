/- Part 20 of what PlanVersions stands on. No statement is proved here. -/
import Derived.Test.YtamnmjckhicapaaPtFs
namespace Go.Proofs.Ytamnmjckhicapaa
open Go.RowKit Go.BigFrame Go.WideShapes Go.ChangeShapes Go.Deep
set_option linter.unusedVariables false
set_option linter.unusedSimpArgs false
set_option maxRecDepth 100000
def PortZ:Array Value:=#[.int .u16 0,.int .u32 0,.bool false,.bool false,.bool false,.bool false,.int .i64 0,.int .i64 0,.int .i64 0,.int .i64 0,.int .i64 0,.int .i64 0,.int .i64 0,.int .i64 0,.int .i64 0,.int .i64 0,.int .i64 0,.int .i64 0,.int .i64 0,.int .i64 0,.int .i64 0,.int .i64 0,.bool false,.bool false,.bool false,.bool false,.bool false,.bool false,.bool false,.bool false,.bool false,.bool false,.bool false,.bool false,.bool false,.bool false,.bool false,.bool false,.bool false,.bool false,.bool false,.bool false,.bool false,.bool false,.bool false,.bool false,.bool false,.bool false,.bool false,.bool false,.bool false,.int .i64 0,.bool false,.bool false,.bool false,.bool false,.bool false,.bool false,.int .i64 0,.int .u64 0,.int .u32 0,.int .u64 0,.int .u16 0,.int .u16 0,.int .i64 0,.int .i64 0,.int .i64 0,.int .i64 0,.int .u64 0,.int .u32 0,.int .u64 0,.int .u16 0,.int .u16 0,.int .u64 0,.int .u32 0,.int .u64 0,.int .u16 0,.int .u16 0,.int .i64 0,.int .i64 0,.int .i64 0,.int .i64 0,.int .i64 0,.int .i64 0,.int .i64 0,.int .i64 0,.int .i64 0,.int .i64 0,.int .i64 0]
theorem zero_po:∀ w,(zeroValue 155).run Try.prog w=.ok (.agg PortZ) w:=(zero_of_info (P:=Try.prog) (t:=155) (v:=.agg PortZ) (n:=89) (by kernel_rfl)).1
theorem size_po:(Try.prog.info? 155).map (·.size)=some 89:=by kernel_rfl
def portL (a b:Int) (x y z r:Bool) (mx hl dl e:Int):Array Value:=#[.int .u16 a,.int .u32 b,.bool false,.bool x,.bool y,.bool z,.int .i64 3,.int .i64 mx,.int .i64 hl,.int .i64 3,.int .i64 0,.int .i64 0,.int .i64 dl,.int .i64 0,.int .i64 0,.int .i64 0,.int .i64 0,.int .i64 e,.int .i64 0,.int .i64 0,.int .i64 0,.int .i64 0,.bool false,.bool false,.bool false,.bool true,.bool false,.bool false,.bool false,.bool false,.bool false,.bool true,.bool y,.bool false,.bool false,.bool false,.bool false,.bool false,.bool false,.bool false,.bool false,.bool false,.bool true,.bool true,.bool false,.bool r,.bool true,.bool false,.bool false,.bool false,.bool false,.int .i64 0,.bool false,.bool false,.bool false,.bool false,.bool false,.bool false,.int .i64 0,.int .u64 0,.int .u32 0,.int .u64 0,.int .u16 0,.int .u16 0,.int .i64 0,.int .i64 0,.int .i64 0,.int .i64 0,.int .u64 0,.int .u32 0,.int .u64 0,.int .u16 0,.int .u16 0,.int .u64 0,.int .u32 0,.int .u64 0,.int .u16 0,.int .u16 0,.int .i64 0,.int .i64 0,.int .i64 0,.int .i64 0,.int .i64 0,.int .i64 0,.int .i64 0,.int .i64 0,.int .i64 0,.int .i64 0,.int .i64 0]
theorem bl_ck (m h d:Int):Try.prog.built 147 [(0,.int .i64 3),(3,.int .i64 3),(2,.int .i64 h),(6,.int .i64 d),(1,.int .i64 m)]=some #[.int .i64 3,.int .i64 m,.int .i64 h,.int .i64 3,.int .i64 0,.int .i64 0,.int .i64 d,.int .i64 0,.int .i64 0]:=by kernel_rfl
theorem bl_sa:Try.prog.built 149 [(3,.int .i64 0),(2,.int .i64 1)]=some #[.int .i64 0,.int .i64 0,.int .i64 1,.int .i64 0,.int .i64 0,.int .i64 0,.int .i64 0]:=by kernel_rfl
theorem bl_fl (r y:Bool):Try.prog.built 151 [(21,.bool true),(24,.bool true),(20,.bool true),(3,.bool true),(9,.bool true),(23,.bool r),(10,.bool y)]=some #[.bool false,.bool false,.bool false,.bool true,.bool false,.bool false,.bool false,.bool false,.bool false,.bool true,.bool y,.bool false,.bool false,.bool false,.bool false,.bool false,.bool false,.bool false,.bool false,.bool false,.bool true,.bool true,.bool false,.bool r,.bool true,.bool false,.bool false,.bool false,.bool false]:=by kernel_rfl
theorem bl_po (a b:Int) (x y z r:Bool) (m h d:Int):Try.prog.built 155 [(0,.int .u16 a),(1,.int .u32 b),(3,.bool x),(4,.bool y),(5,.bool z),(6,.agg #[.int .i64 3,.int .i64 m,.int .i64 h,.int .i64 3,.int .i64 0,.int .i64 0,.int .i64 d,.int .i64 0,.int .i64 0]),(7,.agg #[.int .i64 0,.int .i64 0,.int .i64 1,.int .i64 0,.int .i64 0,.int .i64 0,.int .i64 0]),(8,.agg #[.bool false,.bool false,.bool false,.bool true,.bool false,.bool false,.bool false,.bool false,.bool false,.bool true,.bool y,.bool false,.bool false,.bool false,.bool false,.bool false,.bool false,.bool false,.bool false,.bool false,.bool true,.bool true,.bool false,.bool r,.bool true,.bool false,.bool false,.bool false,.bool false]),(14,.int .i64 0)]=some (portL a b x y z r m h d 1):=by kernel_rfl
set_option maxRecDepth 100000 in
set_option maxHeartbeats 4000000 in
theorem newport_any (a b mx hl dl:Int) (x y z r:Bool) (w:World) :
    Calls Try.prog 68 #[.agg #[.int .u16 a,.int .u32 b,.bool x,.bool y,.bool z],.bool r,.agg #[.int .i64 0,.int .i64 mx,.int .i64 hl,.int .i64 dl]] w fun e w'=>e=.returned (.agg (portL a b x y z r mx hl dl (if y then 0 else 1)))∧Ext w w':=by
 go_enter Try.func68,Try.ntmps68
 cases y with
 | false =>
  go_wp2_with (first
   | fail
   | ((with_reducible refine at_box 87 ?_); refine bx_row rfl 87 _ rfl #[.int .u16 a,.int .u32 b,.bool x,.bool false,.bool z] rfl ?_
      intro X wa hX hsz hx1
      have HXa:=Lib.hid hX
      have HEa:=Lib.hid hx1
      clear hX hsz hx1)
   | ((with_reducible refine at_box 28 ?_); refine bx_row rfl 28 _ rfl #[.int .i64 0,.int .i64 mx,.int .i64 hl,.int .i64 dl] rfl ?_
      intro Y wb hX hsz hx1
      have HYb:=Lib.hid hX
      have HEb:=Lib.hid (HEa.out.trans hx1)
      have HXb:=Lib.hid ((hx1.block X (heap_lt HXa.out)).trans HXa.out)
      clear hX hsz hx1 HEa HXa)
   | ((with_reducible refine at_alloc 155 ?_); have h0:=HEb.out; refine al_zero rfl 155 rfl PortZ zero_po ?_
      intro RB w1 hq hsz hx
      have HRB:=Lib.hid hq
      have HE1:=Lib.hid (HEb.out.trans hx)
      have HRW:=Lib.hid (show w.heap.size≤RB from by have:=HEb.out.size; omega)
      have HX1:=(hx.block X (heap_lt HXb.out)).trans HXb.out
      have HY1:=(hx.block Y (heap_lt HYb.out)).trans HYb.out
      have x0:w1.cell? ⟨X,0,none⟩=some (.int .u16 a):=by rw [cell_row HX1]; rfl
      have x1:w1.cell? ⟨X,1,none⟩=some (.int .u32 b):=by rw [cell_row HX1]; rfl
      have x2:w1.cell? ⟨X,2,none⟩=some (.bool x):=by rw [cell_row HX1]; rfl
      have x3:w1.cell? ⟨X,3,none⟩=some (.bool false):=by rw [cell_row HX1]; rfl
      have x4:w1.cell? ⟨X,4,none⟩=some (.bool z):=by rw [cell_row HX1]; rfl
      have y1:w1.cell? ⟨Y,1,none⟩=some (.int .i64 mx):=by rw [cell_row HY1]; rfl
      have y2:w1.cell? ⟨Y,2,none⟩=some (.int .i64 hl):=by rw [cell_row HY1]; rfl
      have y3:w1.cell? ⟨Y,3,none⟩=some (.int .i64 dl):=by rw [cell_row HY1]; rfl
      clear HXb HYb
      have HX1:=Lib.hid HX1
      clear HY1 hq hsz hx h0 HEb)
   | ((with_reducible refine at_build 147 ?_); refine wpList_build2 rfl 147 _ rfl _ rfl _ (bl_ck mx hl dl) ?_)
   | ((with_reducible refine at_build 149 ?_); refine wpList_build2 rfl 149 _ rfl _ rfl _ bl_sa ?_)
   | ((with_reducible refine at_build 151 ?_); refine wpList_build2 rfl 151 _ rfl _ rfl _ (bl_fl r false) ?_)
   | ((with_reducible refine at_build 155 ?_); refine wpList_build2 rfl 155 _ rfl _ rfl _ (bl_po a b x false z r mx hl dl) ?_)
   | ((with_reducible refine at_alloc 155 ?_); have h0:=HE1.out; refine al_zero rfl 155 rfl PortZ zero_po ?_
      intro G w3 hq3 hsz3 hx3)
   | ((with_reducible refine at_store 155 ?_); refine st_at rfl rfl 155 _ _ rfl G 0 _ (portL a b x false z r mx hl dl 1) PortZ (portL a b x false z r mx hl dl 1) 155 rfl rfl rfl hq3 (by exact (by decide:0+89≤89)) (by kernel_rfl) (by kernel_rfl) (by kernel_rfl) ?_
      intro w4 hq4 hm4
      have hx14:Ext w1 w4:=hx3.mutE hm4 (fun g hg h=>by have h2:g=G:=h; omega)
      have HE4:=Lib.hid (HE1.out.trans hx14)
      have HG:=Lib.hid hq4
      have HGW:=Lib.hid (show w1.heap.size≤G from by omega)
      have HRB4:=Lib.hid ((hx14.block RB (heap_lt HRB.out)).trans HRB.out)
      have x3:w4.cell? ⟨X,3,none⟩=some (.bool false):=by rw [cell_row ((hx14.block X (heap_lt HX1.out)).trans HX1.out)]; rfl
      clear hq3 hsz3 hx3 hq4 hm4 hx14 h0 x0 x1 x2 x4 y1 y2 y3)
   | ((with_reducible refine at_load 155 ?_); refine wpList_load_row rfl 155 _ rfl G rfl 155 (portL a b x false z r mx hl dl 1) (0,0) _ HG.out Try.underlying155 rfl size_po ?_)
   | ((with_reducible refine at_store 155 ?_); refine st_at rfl rfl 155 _ _ rfl RB 0 _ (portL a b x false z r mx hl dl 1) PortZ (portL a b x false z r mx hl dl 1) 155 rfl rfl rfl HRB4.out (by exact (by decide:0+89≤89)) (by kernel_rfl) (by kernel_rfl) (by kernel_rfl) ?_
      intro wz hqz hmz
      have HRZ:=Lib.hid hqz
      have HMZ:=Lib.hid hmz
      clear hqz hmz))
  refine bodyPost_ret (results_cell_row rfl _ _ RB _ _ (0,0) _ rfl HRZ.out Try.underlying155 rfl size_po) rfl ?_
  exact ⟨rfl,HE4.out.mutE HMZ.out (fun g h1 h2=>by have h3:g=RB:=h2; have h4:=HRW.out; omega)⟩
 | true =>
  go_wp2_with (first
   | fail
   | ((with_reducible refine at_box 87 ?_); refine bx_row rfl 87 _ rfl #[.int .u16 a,.int .u32 b,.bool x,.bool true,.bool z] rfl ?_
      intro X wa hX hsz hx1
      have HXa:=Lib.hid hX
      have HEa:=Lib.hid hx1
      clear hX hsz hx1)
   | ((with_reducible refine at_box 28 ?_); refine bx_row rfl 28 _ rfl #[.int .i64 0,.int .i64 mx,.int .i64 hl,.int .i64 dl] rfl ?_
      intro Y wb hX hsz hx1
      have HYb:=Lib.hid hX
      have HEb:=Lib.hid (HEa.out.trans hx1)
      have HXb:=Lib.hid ((hx1.block X (heap_lt HXa.out)).trans HXa.out)
      clear hX hsz hx1 HEa HXa)
   | ((with_reducible refine at_alloc 155 ?_); have h0:=HEb.out; refine al_zero rfl 155 rfl PortZ zero_po ?_
      intro RB w1 hq hsz hx
      have HRB:=Lib.hid hq
      have HE1:=Lib.hid (HEb.out.trans hx)
      have HRW:=Lib.hid (show w.heap.size≤RB from by have:=HEb.out.size; omega)
      have HX1:=(hx.block X (heap_lt HXb.out)).trans HXb.out
      have HY1:=(hx.block Y (heap_lt HYb.out)).trans HYb.out
      have x0:w1.cell? ⟨X,0,none⟩=some (.int .u16 a):=by rw [cell_row HX1]; rfl
      have x1:w1.cell? ⟨X,1,none⟩=some (.int .u32 b):=by rw [cell_row HX1]; rfl
      have x2:w1.cell? ⟨X,2,none⟩=some (.bool x):=by rw [cell_row HX1]; rfl
      have x3:w1.cell? ⟨X,3,none⟩=some (.bool true):=by rw [cell_row HX1]; rfl
      have x4:w1.cell? ⟨X,4,none⟩=some (.bool z):=by rw [cell_row HX1]; rfl
      have y1:w1.cell? ⟨Y,1,none⟩=some (.int .i64 mx):=by rw [cell_row HY1]; rfl
      have y2:w1.cell? ⟨Y,2,none⟩=some (.int .i64 hl):=by rw [cell_row HY1]; rfl
      have y3:w1.cell? ⟨Y,3,none⟩=some (.int .i64 dl):=by rw [cell_row HY1]; rfl
      clear HXb HYb
      have HX1:=Lib.hid HX1
      clear HY1 hq hsz hx h0 HEb)
   | ((with_reducible refine at_build 147 ?_); refine wpList_build2 rfl 147 _ rfl _ rfl _ (bl_ck mx hl dl) ?_)
   | ((with_reducible refine at_build 149 ?_); refine wpList_build2 rfl 149 _ rfl _ rfl _ bl_sa ?_)
   | ((with_reducible refine at_build 151 ?_); refine wpList_build2 rfl 151 _ rfl _ rfl _ (bl_fl r true) ?_)
   | ((with_reducible refine at_build 155 ?_); refine wpList_build2 rfl 155 _ rfl _ rfl _ (bl_po a b x true z r mx hl dl) ?_)
   | ((with_reducible refine at_alloc 155 ?_); have h0:=HE1.out; refine al_zero rfl 155 rfl PortZ zero_po ?_
      intro G w3 hq3 hsz3 hx3)
   | ((with_reducible refine at_store 155 ?_); refine st_at rfl rfl 155 _ _ rfl G 0 _ (portL a b x true z r mx hl dl 1) PortZ (portL a b x true z r mx hl dl 1) 155 rfl rfl rfl hq3 (by exact (by decide:0+89≤89)) (by kernel_rfl) (by kernel_rfl) (by kernel_rfl) ?_
      intro w4 hq4 hm4
      have hx14:Ext w1 w4:=hx3.mutE hm4 (fun g hg h=>by have h2:g=G:=h; omega)
      have HE4:=Lib.hid (HE1.out.trans hx14)
      have HG:=Lib.hid hq4
      have HGW:=Lib.hid (show w1.heap.size≤G from by omega)
      have HRB4:=Lib.hid ((hx14.block RB (heap_lt HRB.out)).trans HRB.out)
      have x3:w4.cell? ⟨X,3,none⟩=some (.bool true):=by rw [cell_row ((hx14.block X (heap_lt HX1.out)).trans HX1.out)]; rfl
      clear hq3 hsz3 hx3 hq4 hm4 hx14 h0 x0 x1 x2 x4 y1 y2 y3)
   | ((with_reducible refine at_store 3 ?_); refine st_at rfl rfl 3 _ _ rfl G 17 _ #[.int .i64 0] (portL a b x true z r mx hl dl 1) (portL a b x true z r mx hl dl 0) 155 rfl rfl rfl HG.out (by exact (by decide:17+1≤89)) (by kernel_rfl) rfl (by kernel_rfl) ?_
      intro w5 hq5 hm5
      have HG5:=Lib.hid hq5
      have HE5:=Lib.hid (HE4.out.mutE hm5 (fun g h1 h2=>by have h3:g=G:=h2; have h4:=HGW.out; have h5:=HE1.out.size; omega))
      have HRB5:=Lib.hid ((hm5.heap (heap_lt HRB4.out) (fun h=>by have h3:RB=G:=h; have h4:=heap_lt HRB.out; have h5:=HGW.out; omega)).trans HRB4.out)
      clear hq5 hm5)
   | ((with_reducible refine at_load 155 ?_); refine wpList_load_row rfl 155 _ rfl G rfl 155 (portL a b x true z r mx hl dl 0) (0,0) _ HG5.out Try.underlying155 rfl size_po ?_)
   | ((with_reducible refine at_store 155 ?_); refine st_at rfl rfl 155 _ _ rfl RB 0 _ (portL a b x true z r mx hl dl 0) PortZ (portL a b x true z r mx hl dl 0) 155 rfl rfl rfl HRB5.out (by exact (by decide:0+89≤89)) (by kernel_rfl) (by kernel_rfl) (by kernel_rfl) ?_
      intro wz hqz hmz
      have HRZ:=Lib.hid hqz
      have HMZ:=Lib.hid hmz
      clear hqz hmz))
  refine bodyPost_ret (results_cell_row rfl _ _ RB _ _ (0,0) _ rfl HRZ.out Try.underlying155 rfl size_po) rfl ?_
  exact ⟨rfl,HE5.out.mutE HMZ.out (fun g h1 h2=>by have h3:g=RB:=h2; have h4:=HRW.out; omega)⟩
end Go.Proofs.Ytamnmjckhicapaa
namespace Go.Proofs.Ytamnmjckhicapaa
open Go.RowKit Go.BigFrame Go.WideShapes Go.ChangeShapes Go.Deep
set_option linter.unusedVariables false
set_option linter.unusedSimpArgs false
set_option maxRecDepth 100000
def AllOk:List (Option IntKind)→List Value→Prop
 | [],[]=>True
 | k :: l,v :: cs=>cellOk k v∧AllOk l cs
 | _,_=>False
theorem typed_all:∀ {l:List (Option IntKind)} {cs:List Value},AllOk l cs→Typed l cs
 | [],[],_=>⟨rfl,fun j k h=>by simp at h⟩
 | k :: l,v :: cs,⟨h1,h2⟩=>by
  obtain ⟨e,h3⟩:=typed_all h2
  refine ⟨by simp [e],fun j q hj=>?_⟩
  cases j with
  | zero =>
   simp only [List.getElem?_cons_zero,Option.some.injEq] at hj
   subst hj
   exact ⟨v,rfl,h1⟩
  | succ j =>
   rw [List.getElem?_cons_succ] at hj ⊢
   exact h3 j q hj
 | [],_ :: _,h=>h.elim
 | _ :: _,[],h=>h.elim
theorem wfu16 {x:Int} (h:0≤x∧x < 65536):(Lit.int .u16 x).wf=true:=by
 have e1:IntKind.u16.min=0:=rfl
 have e2:IntKind.u16.max=65535:=rfl
 simp only [Lit.wf,e1,e2,Bool.and_eq_true,decide_eq_true_eq]
 omega
theorem wfu32 {x:Int} (h:0≤x∧x < 4294967296):(Lit.int .u32 x).wf=true:=by
 have e1:IntKind.u32.min=0:=rfl
 have e2:IntKind.u32.max=4294967295:=rfl
 simp only [Lit.wf,e1,e2,Bool.and_eq_true,decide_eq_true_eq]
 omega
theorem wfu64 {x:Int} (h:0≤x∧x < 18446744073709551616):(Lit.int .u64 x).wf=true:=by
 have e1:IntKind.u64.min=0:=rfl
 have e2:IntKind.u64.max=18446744073709551615:=rfl
 simp only [Lit.wf,e1,e2,Bool.and_eq_true,decide_eq_true_eq]
 omega
theorem PL_lit:PL=[some .u16,some .u32,none,none,none,none,some .i64,some .i64,some .i64,some .i64,some .i64,some .i64,some .i64,some .i64,some .i64,some .i64,some .i64,some .i64,some .i64,some .i64,some .i64,some .i64,none,none,none,none,none,none,none,none,none,none,none,none,none,none,none,none,none,none,none,none,none,none,none,none,none,none,none,none,none,some .i64,none,none,none,none,none,none,some .i64,some .u64,some .u32,some .u64,some .u16,some .u16,some .i64,some .i64,some .i64,some .i64,some .u64,some .u32,some .u64,some .u16,some .u16,some .u64,some .u32,some .u64,some .u16,some .u16,some .i64,some .i64,some .i64,some .i64,some .i64,some .i64,some .i64,some .i64,some .i64,some .i64,some .i64]:=rfl
theorem HL_lit:HL=[some .u64,none,some .i64,some .i64,some .i64,some .i64,some .i64,some .u64,some .u32,some .u64,some .u16,some .u16,some .i64,some .i64,some .i64,some .i64,some .i64]:=rfl
theorem portL_ok {a b mx hl dl e:Int} {x y z r:Bool} (ha:(Lit.int .u16 a).wf=true) (hb:(Lit.int .u32 b).wf=true) (hm:(Lit.int .i64 mx).wf=true) (hh:(Lit.int .i64 hl).wf=true) (hd:(Lit.int .i64 dl).wf=true) (he:(Lit.int .i64 e).wf=true):Typed PL (portL a b x y z r mx hl dl e).toList:=by
 rw [PL_lit]
 exact typed_all ⟨⟨_,rfl,ha⟩,⟨_,rfl,hb⟩,⟨_,rfl⟩,⟨_,rfl⟩,⟨_,rfl⟩,⟨_,rfl⟩,⟨_,rfl,rfl⟩,⟨_,rfl,hm⟩,⟨_,rfl,hh⟩,⟨_,rfl,rfl⟩,⟨_,rfl,rfl⟩,⟨_,rfl,rfl⟩,⟨_,rfl,hd⟩,⟨_,rfl,rfl⟩,⟨_,rfl,rfl⟩,⟨_,rfl,rfl⟩,⟨_,rfl,rfl⟩,⟨_,rfl,he⟩,⟨_,rfl,rfl⟩,⟨_,rfl,rfl⟩,⟨_,rfl,rfl⟩,⟨_,rfl,rfl⟩,⟨_,rfl⟩,⟨_,rfl⟩,⟨_,rfl⟩,⟨_,rfl⟩,⟨_,rfl⟩,⟨_,rfl⟩,⟨_,rfl⟩,⟨_,rfl⟩,⟨_,rfl⟩,⟨_,rfl⟩,⟨_,rfl⟩,⟨_,rfl⟩,⟨_,rfl⟩,⟨_,rfl⟩,⟨_,rfl⟩,⟨_,rfl⟩,⟨_,rfl⟩,⟨_,rfl⟩,⟨_,rfl⟩,⟨_,rfl⟩,⟨_,rfl⟩,⟨_,rfl⟩,⟨_,rfl⟩,⟨_,rfl⟩,⟨_,rfl⟩,⟨_,rfl⟩,⟨_,rfl⟩,⟨_,rfl⟩,⟨_,rfl⟩,⟨_,rfl,rfl⟩,⟨_,rfl⟩,⟨_,rfl⟩,⟨_,rfl⟩,⟨_,rfl⟩,⟨_,rfl⟩,⟨_,rfl⟩,⟨_,rfl,rfl⟩,⟨_,rfl,rfl⟩,⟨_,rfl,rfl⟩,⟨_,rfl,rfl⟩,⟨_,rfl,rfl⟩,⟨_,rfl,rfl⟩,⟨_,rfl,rfl⟩,⟨_,rfl,rfl⟩,⟨_,rfl,rfl⟩,⟨_,rfl,rfl⟩,⟨_,rfl,rfl⟩,⟨_,rfl,rfl⟩,⟨_,rfl,rfl⟩,⟨_,rfl,rfl⟩,⟨_,rfl,rfl⟩,⟨_,rfl,rfl⟩,⟨_,rfl,rfl⟩,⟨_,rfl,rfl⟩,⟨_,rfl,rfl⟩,⟨_,rfl,rfl⟩,⟨_,rfl,rfl⟩,⟨_,rfl,rfl⟩,⟨_,rfl,rfl⟩,⟨_,rfl,rfl⟩,⟨_,rfl,rfl⟩,⟨_,rfl,rfl⟩,⟨_,rfl,rfl⟩,⟨_,rfl,rfl⟩,⟨_,rfl,rfl⟩,⟨_,rfl,rfl⟩,⟨_,rfl,rfl⟩,trivial⟩
def hdL (id:Int) (rst:Bool) (mx hl dl hold:Int):List Value:=[.int .u64 id,.bool rst,.int .i64 0,.int .i64 mx,.int .i64 hl,.int .i64 dl,.int .i64 hold,.int .u64 id,.int .u32 0,.int .u64 id,.int .u16 0,.int .u16 0,.int .i64 (-1),.int .i64 0,.int .i64 mx,.int .i64 hl,.int .i64 dl]
theorem hdL_ok {id mx hl dl hold:Int} {rst:Bool} (hi:(Lit.int .u64 id).wf=true) (hm:(Lit.int .i64 mx).wf=true) (hh:(Lit.int .i64 hl).wf=true) (hd:(Lit.int .i64 dl).wf=true) (ho:(Lit.int .i64 hold).wf=true):Typed HL (hdL id rst mx hl dl hold):=by
 rw [HL_lit]
 exact typed_all ⟨⟨_,rfl,hi⟩,⟨_,rfl⟩,⟨_,rfl,rfl⟩,⟨_,rfl,hm⟩,⟨_,rfl,hh⟩,⟨_,rfl,hd⟩,⟨_,rfl,ho⟩,⟨_,rfl,hi⟩,⟨_,rfl,rfl⟩,⟨_,rfl,hi⟩,⟨_,rfl,rfl⟩,⟨_,rfl,rfl⟩,⟨_,rfl,rfl⟩,⟨_,rfl,rfl⟩,⟨_,rfl,hm⟩,⟨_,rfl,hh⟩,⟨_,rfl,hd⟩,trivial⟩
def pL (rst:Bool) (mx hl dl:Int) (p:Pt):List Value:=(portL p.pid p.cost p.sh p.ad p.au rst mx hl dl (if p.ad then 0 else 1)).toList
def newB (id:Int) (rst:Bool) (mx hl dl hold:Int) (P:List Pt):Br:=⟨hdL id rst mx hl dl hold,P.length,P.flatMap (pL rst mx hl dl),0,[],0,[]⟩
def PtR (p:Pt):Prop:=(0≤p.pid∧p.pid < 65536)∧0≤p.cost∧p.cost < 4294967296
theorem pL_len (rst:Bool) (mx hl dl:Int) (p:Pt):(pL rst mx hl dl p).length=89:=rfl
theorem newB_cell {id mx hl dl hold:Int} {rst:Bool} {P:List Pt} {k j:Nat} {x:Value} (hk:k < P.length) (hx:(pL rst mx hl dl (P.getD k default))[j]?=some x):(newB id rst mx hl dl hold P).ps[k*89+j]?=some x :=
 flat_at (pL rst mx hl dl) 89 (pL_len rst mx hl dl) default P k j x hk hx
theorem newB_ok {id hold:Int} {rst:Bool} {P:List Pt} (hi:0≤id∧id < 18446744073709551616) (ho:(Lit.int .i64 hold).wf=true) (hP:∀ p ∈ P,PtR p):(newB id rst 20 2 15 hold P).ok:=by
 refine ⟨hdL_ok (wfu64 hi) rfl rfl rfl ho,rowTyped_iff.2 ⟨?_,fun i hi j c hc=>?_⟩,⟨rfl,fun i hi=>by exact absurd hi (Nat.not_lt_zero _)⟩,⟨rfl,fun i hi=>by exact absurd hi (Nat.not_lt_zero _)⟩⟩
 ·show (P.flatMap (pL rst 20 2 15)).length=P.length*PL.length
  rw [List.length_flatMap,show PL.length=89 from rfl]
  have:P.map (fun p=>(pL rst 20 2 15 p).length)=List.replicate P.length 89:=by
   rw [List.eq_replicate_iff]
   exact ⟨by simp,fun b hb=>by obtain ⟨p,_,rfl⟩:=List.mem_map.1 hb; rfl⟩
  rw [this,List.sum_replicate_nat]
 ·have hk:i < P.length:=hi
  have hp:=hP (P.getD i default) (by rw [List.getD_eq_getElem?_getD,List.getElem?_eq_getElem hk]; exact List.getElem_mem hk)
  have ht:Typed PL (pL rst 20 2 15 (P.getD i default)):=portL_ok (wfu16 hp.1) (wfu32 hp.2) rfl rfl rfl (by split <;> rfl)
  obtain ⟨v,hv,hcv⟩:=ht.2 j c hc
  exact ⟨v,newB_cell hk hv,hcv⟩
theorem newB_gi {id hold:Int} {rst:Bool} {P:List Pt} {k j:Nat} {q:IntKind} {x:Int} (hk:k < P.length) (hx:(pL rst 20 2 15 (P.getD k default))[j]?=some (.int q x)):(newB id rst 20 2 15 hold P).gi k j=x:=by
 unfold Br.gi
 rw [newB_cell hk hx]
theorem newB_right {id hold:Int} {rst:Bool} {P:List Pt} (hn:P.length≤32):RightP (newB id rst 20 2 15 hold P)↔1≤hold∧hold≤10:=by
 constructor
 ·rintro ⟨⟨_,_,_,h1,h2,_⟩,_⟩
  exact ⟨h1,h2⟩
 ·rintro ⟨h1,h2⟩
  have e:∀ j x,(hdL id rst 20 2 15 hold)[j]?=some (.int .i64 x)→(newB id rst 20 2 15 hold P).hi j=x:=fun j x h=>by
   unfold Br.hi
   show (match (hdL id rst 20 2 15 hold)[j]? with | some (.int _ z)=>z | _=>0)=x
   rw [h]
  refine ⟨⟨?_,?_,e 2 0 rfl,?_,?_,hn,?_,?_⟩,fun k hk=>⟨fun j hj=>?_,?_,?_,?_⟩⟩
  ·rw [e 2 0 rfl,e 3 20 rfl,e 4 2 rfl,e 5 15 rfl]; unfold TR; omega
  ·rw [e 13 0 rfl,e 14 20 rfl,e 15 2 rfl,e 16 15 rfl]; unfold TF; omega
  ·rw [e 6 hold rfl]; exact h1
  ·rw [e 6 hold rfl]; exact h2
  ·rw [e 12 (-1) rfl]; omega
  ·rw [e 12 (-1) rfl]; show (-1:Int) < (P.length:Int); omega
  ·have hc:j=0∨j=1∨j=2∨j=3∨j=4∨j=5∨j=6∨j=7∨j=8:=by omega
   rcases hc with rfl | rfl | rfl | rfl | rfl | rfl | rfl | rfl | rfl
   ·rw [newB_gi (q:=.i64) (x:=3) hk rfl]; omega
   ·rw [newB_gi (q:=.i64) (x:=20) hk rfl]; omega
   ·rw [newB_gi (q:=.i64) (x:=2) hk rfl]; omega
   ·rw [newB_gi (q:=.i64) (x:=3) hk rfl]; omega
   ·rw [newB_gi (q:=.i64) (x:=0) hk rfl]; omega
   ·rw [newB_gi (q:=.i64) (x:=0) hk rfl]; omega
   ·rw [newB_gi (q:=.i64) (x:=15) hk rfl]; omega
   ·rw [newB_gi (q:=.i64) (x:=0) hk rfl]; omega
   ·rw [newB_gi (q:=.i64) (x:=0) hk rfl]; omega
  ·rw [newB_gi (q:=.i64) (x:=0) hk rfl,newB_gi (q:=.i64) (x:=0) hk rfl,newB_gi (q:=.i64) (x:=0) hk rfl,newB_gi (q:=.i64) (x:=0) hk rfl]; unfold TF; omega
  ·rw [newB_gi (q:=.i64) (x:=0) hk rfl,newB_gi (q:=.i64) (x:=0) hk rfl,newB_gi (q:=.i64) (x:=0) hk rfl,newB_gi (q:=.i64) (x:=0) hk rfl]; unfold TF; omega
  ·rw [newB_gi (q:=.i64) (x:=0) hk rfl,newB_gi (q:=.i64) (x:=0) hk rfl,newB_gi (q:=.i64) (x:=0) hk rfl,newB_gi (q:=.i64) (x:=0) hk rfl]; unfold TF; omega
end Go.Proofs.Ytamnmjckhicapaa
namespace Go.Proofs.Ytamnmjckhicapaa
open Go.RowKit Go.BigFrame Go.WideShapes Go.ChangeShapes Go.Deep
set_option linter.unusedVariables false
set_option linter.unusedSimpArgs false
set_option maxRecDepth 100000
def VecZ:Array Value:=#[.int .u64 0,.int .u32 0,.int .u64 0,.int .u16 0,.int .u16 0]
theorem zero_ve:∀ w,(zeroValue 90).run Try.prog w=.ok (.agg VecZ) w:=(zero_of_info (P:=Try.prog) (t:=90) (v:=.agg VecZ) (n:=5) (by kernel_rfl)).1
theorem size_ve:(Try.prog.info? 90).map (·.size)=some 5:=by kernel_rfl
theorem bl_ve (id:Int):Try.prog.built 90 [(0,.int .u64 id),(2,.int .u64 id)]=some #[.int .u64 id,.int .u32 0,.int .u64 id,.int .u16 0,.int .u16 0]:=by kernel_rfl
def BrZ:Array Value:=#[.int .u64 0,.bool false,.int .i64 0,.int .i64 0,.int .i64 0,.int .i64 0,.int .i64 0,.int .u64 0,.int .u32 0,.int .u64 0,.int .u16 0,.int .u16 0,.int .i64 0,.int .i64 0,.int .i64 0,.int .i64 0,.int .i64 0,.slice none 0 0,.slice none 0 0,.slice none 0 0]
theorem zero_br:∀ w,(zeroValue 120).run Try.prog w=.ok (.agg BrZ) w:=(zero_of_info (P:=Try.prog) (t:=120) (v:=.agg BrZ) (n:=20) (by kernel_rfl)).1
theorem size_brg:(Try.prog.info? 120).map (·.size)=some 20:=by kernel_rfl
theorem size_tm:(Try.prog.info? 28).map (·.size)=some 4:=by kernel_rfl
theorem size_bt:(Try.prog.info? 87).map (·.size)=some 5:=by kernel_rfl
theorem zero_bt:∀ w,(zeroValue 87).run Try.prog w=.ok (.agg SUZ) w:=(zero_of_info (P:=Try.prog) (t:=87) (v:=.agg SUZ) (n:=5) (by kernel_rfl)).1
theorem info_po:(Try.prog.info? 155).map (fun i=>(i.zero,i.size,i.bytes))=some (some (.agg PortZ),89,416):=by kernel_rfl
theorem bl_br (id mx hl dl hold:Int) (rst:Bool):Try.prog.built 120 [(0,.int .u64 id),(1,.bool rst),(2,.agg #[.int .i64 0,.int .i64 mx,.int .i64 hl,.int .i64 dl]),(3,.int .i64 hold),(4,.agg #[.int .u64 id,.int .u32 0,.int .u64 id,.int .u16 0,.int .u16 0]),(5,.int .i64 (-1)),(6,.agg #[.int .i64 0,.int .i64 mx,.int .i64 hl,.int .i64 dl])]=some #[.int .u64 id,.bool rst,.int .i64 0,.int .i64 mx,.int .i64 hl,.int .i64 dl,.int .i64 hold,.int .u64 id,.int .u32 0,.int .u64 id,.int .u16 0,.int .u16 0,.int .i64 (-1),.int .i64 0,.int .i64 mx,.int .i64 hl,.int .i64 dl,.slice none 0 0,.slice none 0 0,.slice none 0 0]:=by kernel_rfl
theorem bl_br0:Try.prog.built 120 []=some BrZ:=by kernel_rfl
theorem b1_po (a b mx hl dl e:Int) (x y z r:Bool):Instr.fill (fun i=>some (i*89,89)) ((Array.range (1*89)).map (PortZ[· % PortZ.size]!)) [(0,.agg (portL a b x y z r mx hl dl e))]=some (portL a b x y z r mx hl dl e):=by kernel_rfl
set_option maxRecDepth 100000 in
set_option maxHeartbeats 4000000 in
theorem pL_one {rst:Bool} {mx hl dl e a b:Int} {x y z:Bool} (h:pL rst mx hl dl ⟨a,b,x,y,z⟩=(portL a b x y z rst mx hl dl e).toList):∀ u ∈ (portL a b x y z rst mx hl dl e).toList,u.oneCell'=true:=by
 have h2:((portL a b x y z rst mx hl dl e).toList.all (·.oneCell'))=true:=rfl
 exact fun u hu=>List.all_eq_true.1 h2 u hu
theorem own_any (id:Int) (w:World):Calls Try.prog 67 #[.int .u64 id] w fun e w'=>e=.returned (.agg #[.int .u64 id,.int .u32 0,.int .u64 id,.int .u16 0,.int .u16 0])∧Ext w w':=by
 go_enter Try.func67,Try.ntmps67
 go_wp2_with (first
  | fail
  | ((with_reducible refine at_alloc 90 ?_); refine al_zero rfl 90 rfl VecZ zero_ve ?_
     intro RB w1 hq hsz hx)
  | ((with_reducible refine at_build 90 ?_); refine wpList_build2 rfl 90 _ rfl _ rfl _ (bl_ve id) ?_)
  | ((with_reducible refine at_store 90 ?_); refine st_at rfl rfl 90 _ _ rfl RB 0 _ #[.int .u64 id,.int .u32 0,.int .u64 id,.int .u16 0,.int .u16 0] VecZ #[.int .u64 id,.int .u32 0,.int .u64 id,.int .u16 0,.int .u16 0] 90 rfl rfl rfl hq (by exact (by decide:0+5≤5)) (by kernel_rfl) rfl rfl ?_
     intro wz hqz hmz
     have HRZ:=Lib.hid hqz
     have HXZ:=Lib.hid (hx.mutE hmz (fun g h1 h2=>by have h3:g=RB:=h2; omega))
     clear hqz hmz))
 refine bodyPost_ret (results_cell_row rfl _ _ RB _ _ (0,0) _ rfl HRZ.out Try.underlying90 rfl size_ve) rfl ?_
 exact ⟨rfl,HXZ.out⟩
set_option maxRecDepth 100000 in
set_option maxHeartbeats 8000000 in
theorem newbr_any (id hold:Int) (rst:Bool) (pv:Value) (P:List Pt) (w:World) (hP:PtsAt w pv P) (hn:P.length≤32) (hi:0≤id∧id < 18446744073709551616) (ho:-9223372036854775808≤hold∧hold < 9223372036854775808) (hpr:∀ p ∈ P,PtR p) :
    Calls Try.prog 48 #[.int .u64 id,.bool rst,.agg #[.int .i64 0,.int .i64 20,.int .i64 2,.int .i64 15],.int .i64 hold,pv] w fun e w'=>∃ c:Array Value,e=.returned (.tuple #[.agg c,.bool (decide (1≤hold∧hold≤10))])∧c.size=20∧c.toList.all (·.oneCell')=true∧Ext w w':=by
 obtain ⟨mx,hmx⟩:∃ x:Int,x=20:=⟨_,rfl⟩
 obtain ⟨hl,hhl⟩:∃ x:Int,x=2:=⟨_,rfl⟩
 obtain ⟨dl,hdl⟩:∃ x:Int,x=15:=⟨_,rfl⟩
 rw [← hmx,← hhl,← hdl]
 have HVS:=Lib.hid (And.intro hmx (And.intro hhl hdl))
 have HI:=Lib.hid hi
 have HHO:=Lib.hid ho
 have HPR:=Lib.hid hpr
 obtain ⟨pa,pcap,hpe,hpm,hpf⟩:=hP
 obtain ⟨n,hn0⟩:∃ m,P.length=m:=⟨_,rfl⟩
 rw [hn0] at hpe hpm hpf hn
 subst hpe
 have HPF:=Lib.hid (show 0 < n→∃ b off,pa=some ⟨b,off,none⟩∧b < w.heap.size∧n≤pcap∧pcap≤9223372036854775807∧∀ i,i < n→w.rangeAt b (off+i*5) (P.getD i default).L from hpf)
 have HNN:=Lib.hid hn0
 obtain ⟨i9,hi9,hz9,hs9,hb9⟩:=info_parts info_po
 have I9:=Lib.hid (And.intro hi9 (And.intro hz9 (And.intro hs9 hb9)))
 clear hi9 hz9 hs9 hb9 hmx hhl hdl hi ho hpr hpf hn0 hpm
 go_enter Try.func48,Try.ntmps48
 go_wp2_with (first
  | fail
  | ((with_reducible refine at_box 28 ?_); refine bx_row rfl 28 _ rfl #[.int .i64 0,.int .i64 mx,.int .i64 hl,.int .i64 dl] rfl ?_
     intro Y wa hX hsz hx1
     have HYa:=Lib.hid hX
     have HEa:=Lib.hid hx1
     clear hX hsz hx1)
  | ((with_reducible refine at_alloc 120 ?_); have h0:=HEa.out; refine al_zero rfl 120 rfl BrZ zero_br ?_
     intro RB w1 hq hsz hx
     have HRB:=Lib.hid hq
     have HE1:=Lib.hid (HEa.out.trans hx)
     have HRW:=Lib.hid (show w.heap.size≤RB from by have:=HEa.out.size; omega)
     have HY1:=Lib.hid ((hx.block Y (heap_lt HYa.out)).trans HYa.out)
     clear hq hsz hx h0 HEa HYa))
 go_cut [12] from 15 to 22 (fun s wx=>∃ BB,s=.pointer (some ⟨BB,0,none⟩)∧wx.heap[BB]?=some (.cells #[.int .u64 id,.bool rst,.int .i64 0,.int .i64 mx,.int .i64 hl,.int .i64 dl,.int .i64 hold,.int .u64 id,.int .u32 0,.int .u64 id,.int .u16 0,.int .u16 0,.int .i64 (-1),.int .i64 0,.int .i64 mx,.int .i64 hl,.int .i64 dl,.slice none 0 0,.slice none 0 0,.slice none 0 0] 120 (0,0))∧Ext w1 wx∧w1.heap.size≤BB)
 case rest =>
  obtain ⟨BB,rfl,hbb,hx2,hbw⟩:=hcut
  rename World=>w2
  have HBB:=Lib.hid hbb
  have HX2:=Lib.hid hx2
  have HBW:=Lib.hid hbw
  have HY2:=Lib.hid ((hx2.block Y (heap_lt HY1.out)).trans HY1.out)
  obtain ⟨B,hB⟩:∃ B,w2.heap.size=B:=⟨_,rfl⟩
  have HB0:=Lib.hid (Nat.le_of_eq hB.symm)
  have HB1:=Lib.hid (show w1.heap.size≤B from by rw [← hB]; exact hx2.size)
  have HBBB:=Lib.hid (show BB < B from by rw [← hB]; exact heap_lt hbb)
  have HYB:=Lib.hid (show Y < w1.heap.size from heap_lt HY1.out)
  clear hbb hx2 hbw hB
  go_wp2_with fail
  go_loopw [25] (fun s wr=>∃ (k:Nat) (u:Value) (wo:World),wo=wr∧s=.int .i64 k∧k≤n∧wo.heap[BB]?=some (.cells #[.int .u64 id,.bool rst,.int .i64 0,.int .i64 mx,.int .i64 hl,.int .i64 dl,.int .i64 hold,.int .u64 id,.int .u32 0,.int .u64 id,.int .u16 0,.int .u16 0,.int .i64 (-1),.int .i64 0,.int .i64 mx,.int .i64 hl,.int .i64 dl,u,.slice none 0 0,.slice none 0 0] 120 (0,0))∧wo.ownsRow B 155 89 u k ((P.take k).flatMap (pL rst mx hl dl))∧Ext w1 wo∧B≤wo.heap.size) (fun s _=>n - (intOf s).toNat)
  case atStart=>exact ⟨0,_,_,rfl,rfl,by omega,HBB.out,⟨by simp,.inl ⟨rfl,rfl⟩⟩,HX2.out,HB0.out⟩
  case round =>
   clear HBB HX2
   obtain ⟨k,u,wo,rfl,rfl,hk,hbb,hown,hx,hbl⟩:=hrel
   rename World=>wl
   obtain ⟨a3,c3,rfl⟩:=own_form2 hown
   have HBR:=Lib.hid hbb
   have HO:=Lib.hid hown
   have HXL:=Lib.hid hx
   have HBL:=Lib.hid hbl
   clear hbb hown hx hbl
   by_cases hlt:k < n
   ·have dlt:decide ((k:Int) < (n:Int))=true:=by simp; omega
    have hup:IntKind.i64.wrap ((k:Int)+1)=((k+1:Nat):Int):=by rw [IntKind.wrap_i64]; omega
    obtain ⟨pb,po,rfl,hpb,-,-,hp4⟩:=HPF.out (by omega)
    obtain ⟨p,hp⟩:∃ p,P.getD k default=p:=⟨_,rfl⟩
    have RS:=Lib.hid (show wl.rangeAt pb (po+k*5) p.L from by
     have h4:=rangeR_ext (hp4 k hlt) (HE1.out.trans HXL.out) hpb
     rw [hp] at h4
     exact h4)
    have HTK:=Lib.hid (show (P.take (k+1)).flatMap (pL rst mx hl dl)=(P.take k).flatMap (pL rst mx hl dl) ++ pL rst mx hl dl p from by
     rw [take_snoc P default (by rw [HNN.out]; exact hlt),hp,List.flatMap_append]
     simp)
    obtain ⟨p1,p2,p3,p4,p5⟩:=p
    have HTL:=Lib.hid (show pL rst mx hl dl ⟨p1,p2,p3,p4,p5⟩=(portL p1 p2 p3 p4 p5 rst mx hl dl (if p4 then 0 else 1)).toList from rfl)
    obtain ⟨e,he⟩:∃ e:Int,(if p4 then (0:Int) else 1)=e:=⟨_,rfl⟩
    have HEE:=Lib.hid he
    rw [he] at HTL
    clear hp4 hp hpb he
    go_wp2_with (first
     | fail
     | ((with_reducible refine at_load 87 ?_); refine wpList_load_mid rfl 87 _ rfl pb (po+k*5) rfl [.int .u16 p1,.int .u32 p2,.bool p3,.bool p4,.bool p5] _ RS.out Try.underlying87 rfl size_bt ?_)
     | ((with_reducible refine at_alloc 87 ?_); refine al_zero rfl 87 rfl SUZ zero_bt ?_
        intro H wh hqh hszh hxh)
     | ((with_reducible refine at_store 87 ?_); refine st_at rfl rfl 87 _ _ rfl H 0 _ #[.int .u16 p1,.int .u32 p2,.bool p3,.bool p4,.bool p5] SUZ #[.int .u16 p1,.int .u32 p2,.bool p3,.bool p4,.bool p5] 87 rfl rfl rfl hqh (by exact (by decide:0+5≤5)) (by kernel_rfl) rfl rfl ?_
        intro wk hqk hmk
        have E5:Ext wl wk:=hxh.mutE hmk (fun g hg h=>by have h2:g=H:=h; omega)
        have HHK:=Lib.hid hqk
        have HHW:=Lib.hid (show wl.heap.size≤H from Nat.le_of_eq hszh)
        have HOK:=Lib.hid (ownR_ext HO.out E5)
        have HBK:=Lib.hid ((E5.block BB (heap_lt HBR.out)).trans HBR.out)
        have HXK:=Lib.hid (HXL.out.trans E5)
        have HBLK:=Lib.hid (Nat.le_trans HBL.out E5.size)
        have HNE:=Lib.hid (show ∀ g,Value.ownBlock (.slice a3 k c3)=some g→g ≠ H from fun g h1 h2=>by have h3:=(own_lt2 HO.out h1).2; have h4:wl.heap.size=H:=hszh; omega)
        clear hqh hszh hxh hqk hmk E5 wh))
    refine beginZ (S:=fun W'=>Ext w1 W'∧W'.heap[BB]?=some (.cells #[.int .u64 id,.bool rst,.int .i64 0,.int .i64 mx,.int .i64 hl,.int .i64 dl,.int .i64 hold,.int .u64 id,.int .u32 0,.int .u64 id,.int .u16 0,.int .u16 0,.int .i64 (-1),.int .i64 0,.int .i64 mx,.int .i64 hl,.int .i64 dl,.slice a3 k c3,.slice none 0 0,.slice none 0 0] 120 (0,0))∧W'.heap[H]?=some (.cells #[.int .u16 p1,.int .u32 p2,.bool p3,.bool p4,.bool p5] 87 (0,0))) 9 (by kernel_rfl) ?_
    intro wd hqx
    have hq0:(fun W'=>Ext w1 W'∧W'.heap[BB]?=some (.cells #[.int .u64 id,.bool rst,.int .i64 0,.int .i64 mx,.int .i64 hl,.int .i64 dl,.int .i64 hold,.int .u64 id,.int .u32 0,.int .u64 id,.int .u16 0,.int .u16 0,.int .i64 (-1),.int .i64 0,.int .i64 mx,.int .i64 hl,.int .i64 dl,.slice a3 k c3,.slice none 0 0,.slice none 0 0] 120 (0,0))∧W'.heap[H]?=some (.cells #[.int .u16 p1,.int .u32 p2,.bool p3,.bool p4,.bool p5] 87 (0,0))) wd:=⟨HXK.out.trans hqx,(hqx.block BB (heap_lt (HBK.out))).trans (HBK.out),(hqx.block H (heap_lt (HHK.out))).trans (HHK.out)⟩
    refine takeZ (i:=0) (z:=9) (v:=(.pointer (some ⟨BB,17,none⟩))) rfl rfl (by kernel_rfl) (by kernel_rfl) (by kernel_rfl) (by kernel_rfl) (by kernel_rfl) (by kernel_rfl) (fun _ _ _ h=>h) (Or.inl ⟨rfl,fun _ _=>rfl⟩) hq0 ?_
    simp only [ps]
    refine takeZ (i:=1) (z:=9) (v:=_) rfl rfl (by kernel_rfl) (by kernel_rfl) (by kernel_rfl) (by kernel_rfl) (by kernel_rfl) (by kernel_rfl) (fun _ _ _ h=>h) (yieldsIf_cell rfl 117 _ rfl ⟨BB,17,none⟩ rfl (.slice a3 k c3) _ (fun W' hW'=>(show W'.cell? ⟨BB,17,none⟩=_ by rw [cell_row hW'.2.1]; rfl)) Try.underlying117 rfl) hq0 ?_
    simp only [ps]
    refine takeZ (i:=2) (z:=9) (v:=_) rfl rfl (by kernel_rfl) (by kernel_rfl) (by kernel_rfl) (by kernel_rfl) (by kernel_rfl) (by kernel_rfl) (fun _ _ _ h=>h) (yieldsIf_rowS rfl 87 _ rfl H rfl #[.int .u16 p1,.int .u32 p2,.bool p3,.bool p4,.bool p5] _ _ (fun W' hW'=>hW'.2.2) Try.underlying87 rfl size_bt) hq0 ?_
    simp only [ps]
    refine takeZ (i:=3) (z:=9) (v:=(.bool rst)) rfl rfl (by kernel_rfl) (by kernel_rfl) (by kernel_rfl) (by kernel_rfl) (by kernel_rfl) (by kernel_rfl) (fun _ _ _ h=>h) (Or.inl ⟨rfl,fun _ _=>rfl⟩) hq0 ?_
    simp only [ps]
    refine takeZ (i:=4) (z:=9) (v:=_) rfl rfl (by kernel_rfl) (by kernel_rfl) (by kernel_rfl) (by kernel_rfl) (by kernel_rfl) (by kernel_rfl) (fun _ _ _ h=>h) (yieldsIf_rowS rfl 28 _ rfl Y rfl #[.int .i64 0,.int .i64 mx,.int .i64 hl,.int .i64 dl] _ _ (fun W' hW'=>(hW'.1.block Y HYB.out).trans HY1.out) Try.underlying28 rfl size_tm) hq0 ?_
    simp only [ps]
    refine runZ (i:=5) rfl rfl (by kernel_rfl) (fun K hK=>?_)
    go_simp
    refine (newport_any p1 p2 mx hl dl p3 p4 p5 rst wd).mono ?_
    rintro e' wc ⟨rfl,hwc⟩
    rw [HEE.out]
    have hqc:(fun W'=>Ext w1 W'∧W'.heap[BB]?=some (.cells #[.int .u64 id,.bool rst,.int .i64 0,.int .i64 mx,.int .i64 hl,.int .i64 dl,.int .i64 hold,.int .u64 id,.int .u32 0,.int .u64 id,.int .u16 0,.int .u16 0,.int .i64 (-1),.int .i64 0,.int .i64 mx,.int .i64 hl,.int .i64 dl,.slice a3 k c3,.slice none 0 0,.slice none 0 0] 120 (0,0))∧W'.heap[H]?=some (.cells #[.int .u16 p1,.int .u32 p2,.bool p3,.bool p4,.bool p5] 87 (0,0))) wc:=⟨hq0.1.trans hwc,(hwc.block BB (heap_lt hq0.2.1)).trans hq0.2.1,(hwc.block H (heap_lt hq0.2.2)).trans hq0.2.2⟩
    refine hK.out _ _ hqc (fun _=>?_)
    try simp only [ps]
    clear hK K
    refine runZ (i:=6) rfl rfl (by kernel_rfl) (fun K hK=>?_)
    refine wp_buildSlice 117 155 1 _ rfl (portL p1 p2 p3 p4 p5 rst mx hl dl e) i9 (.agg PortZ) Try.underlying117 I9.out.1 I9.out.2.1 (by rw [I9.out.2.2.1]; decide) (by rw [I9.out.2.2.1]; decide) (by rw [I9.out.2.2.1,Array.toList_map]; exact b1_po _ _ _ _ _ _ _ _ _ _) ?_
    have hy:Ext wc (wc.alloc (.cells (portL p1 p2 p3 p4 p5 rst mx hl dl e) 155)):=(Ext.refl _).alloc _
    have hnw:=heap_alloc_new wc (.cells (portL p1 p2 p3 p4 p5 rst mx hl dl e) 155)
    obtain ⟨wn,hwa⟩:∃ W,wc.alloc (.cells (portL p1 p2 p3 p4 p5 rst mx hl dl e) 155)=W:=⟨_,rfl⟩
    obtain ⟨bn,hnb⟩:∃ m,wc.heap.size=m:=⟨_,rfl⟩
    rw [hwa] at hnw hy ⊢
    rw [hnb] at hnw ⊢
    clear hwa hnb
    have hq1:(fun W'=>Ext w1 W'∧W'.heap[BB]?=some (.cells #[.int .u64 id,.bool rst,.int .i64 0,.int .i64 mx,.int .i64 hl,.int .i64 dl,.int .i64 hold,.int .u64 id,.int .u32 0,.int .u64 id,.int .u16 0,.int .u16 0,.int .i64 (-1),.int .i64 0,.int .i64 mx,.int .i64 hl,.int .i64 dl,.slice a3 k c3,.slice none 0 0,.slice none 0 0] 120 (0,0))∧W'.heap[H]?=some (.cells #[.int .u16 p1,.int .u32 p2,.bool p3,.bool p4,.bool p5] 87 (0,0))) wn:=⟨hqc.1.trans hy,(hy.block BB (heap_lt hqc.2.1)).trans hqc.2.1,(hy.block H (heap_lt hqc.2.2)).trans hqc.2.2⟩
    have hxn:Ext wk wn:=(hqx.trans hwc).trans hy
    have hO2:=ownR_ext HOK.out hxn
    have hbw:B≤wn.heap.size:=Nat.le_trans HBLK.out hxn.size
    refine hK.out _ _ hq1 (fun _=>?_)
    try simp only [ps]
    clear hK K
    refine runZ (i:=7) rfl rfl (by kernel_rfl) (fun K hK=>?_)
    refine oper_append_own_at _ _ 117 rfl B 155 i9 (.agg PortZ) 89 416 Try.underlying117 I9.out.1 I9.out.2.1 I9.out.2.2.1 I9.out.2.2.2 rfl (by decide) (.slice a3 k c3) k ((P.take k).flatMap (pL rst mx hl dl)) rfl hO2 ⟨bn,0,none⟩ 1 1 ((portL p1 p2 p3 p4 p5 rst mx hl dl e)).toList rfl rfl ?hnews (fun u hu=>pL_one HTL.out u hu) (by unfold maxLen; omega) (by omega) hbw ?hfin
    case hnews=>exact fun j u hu=>World.news_of_block hnw j u (by simpa using hu)
    case hfin =>
    intro v6 wa ho6 hg6 hloc
    have hrw0:wa.heap[BB]?=some (.cells #[.int .u64 id,.bool rst,.int .i64 0,.int .i64 mx,.int .i64 hl,.int .i64 dl,.int .i64 hold,.int .u64 id,.int .u32 0,.int .u64 id,.int .u16 0,.int .u16 0,.int .i64 (-1),.int .i64 0,.int .i64 mx,.int .i64 hl,.int .i64 dl,.slice a3 k c3,.slice none 0 0,.slice none 0 0] 120 (0,0)):=(hg6.block BB (heap_lt hq1.2.1) (fun e=>by have h1:=(own_lt2 hO2 e.symm).1; have h2:=HBBB.out; omega)).trans hq1.2.1
    have hrw1:wa.heap[H]?=some (.cells #[.int .u16 p1,.int .u32 p2,.bool p3,.bool p4,.bool p5] 87 (0,0)):=(hg6.block H (heap_lt hq1.2.2) (fun e=>(HNE.out) _ e.symm rfl)).trans hq1.2.2
    have hq6:(fun W'=>Ext w1 W'∧W'.heap[BB]?=some (.cells #[.int .u64 id,.bool rst,.int .i64 0,.int .i64 mx,.int .i64 hl,.int .i64 dl,.int .i64 hold,.int .u64 id,.int .u32 0,.int .u64 id,.int .u16 0,.int .u16 0,.int .i64 (-1),.int .i64 0,.int .i64 mx,.int .i64 hl,.int .i64 dl,.slice a3 k c3,.slice none 0 0,.slice none 0 0] 120 (0,0))∧W'.heap[H]?=some (.cells #[.int .u16 p1,.int .u32 p2,.bool p3,.bool p4,.bool p5] 87 (0,0))) wa:=⟨ext_grown hq1.1 hO2 HB1.out hg6,hrw0,hrw1⟩
    obtain ⟨a6,c6,rfl⟩:=own_form2 ho6
    refine hK.out _ _ hq6 (fun _=>?_)
    try simp only [ps]
    clear hK K
    refine takeZ (i:=8) (z:=9) (v:=(.pointer (some ⟨BB,17,none⟩))) rfl rfl (by kernel_rfl) (by kernel_rfl) (by kernel_rfl) (by kernel_rfl) (by kernel_rfl) (by kernel_rfl) (fun _ _ _ h=>h) (Or.inl ⟨rfl,fun _ _=>rfl⟩) hq6 ?_
    simp only [ps]
    refine runZl (z:=9) rfl rfl (by kernel_rfl) (fun K hK=>?_)
    refine wp_st_at rfl 117 _ _ rfl BB 17 _ #[.slice a6 (k+1) c6] (#[.int .u64 id,.bool rst,.int .i64 0,.int .i64 mx,.int .i64 hl,.int .i64 dl,.int .i64 hold,.int .u64 id,.int .u32 0,.int .u64 id,.int .u16 0,.int .u16 0,.int .i64 (-1),.int .i64 0,.int .i64 mx,.int .i64 hl,.int .i64 dl,.slice a3 k c3,.slice none 0 0,.slice none 0 0]) (#[.int .u64 id,.bool rst,.int .i64 0,.int .i64 mx,.int .i64 hl,.int .i64 dl,.int .i64 hold,.int .u64 id,.int .u32 0,.int .u64 id,.int .u16 0,.int .u16 0,.int .i64 (-1),.int .i64 0,.int .i64 mx,.int .i64 hl,.int .i64 dl,.slice a6 (k+1) c6,.slice none 0 0,.slice none 0 0]) 120 rfl rfl rfl hrw0 (by exact (by decide:17+1≤20)) (by kernel_rfl) rfl rfl (fun ws hrow hm=>?_)
    have HFR:=app_fr hxn hg6 hm
    have HROW:=Lib.hid hrow
    have hown6:ws.ownsRow B 155 89 (.slice a6 (k+1) c6) (k+1) ((P.take k).flatMap (pL rst mx hl dl) ++ ((portL p1 p2 p3 p4 p5 rst mx hl dl e)).toList):=own_mut ho6 hm (fun g h1 h2=>by have h3:=(own_lt2 ho6 h1).1; have h4:=HBBB.out; omega)
    have HSZ:wk.heap.size≤wn.heap.size:=hxn.size
    refine hK.out _ _ ?_
    try simp only [ps]
    clear hK K
    have HOS:=Lib.hid (show ws.ownsRow B 155 89 (.slice a6 (k+1) c6) (k+1) ((P.take (k+1)).flatMap (pL rst mx hl dl)) from by rw [HTK.out,HTL.out]; exact hown6)
    have HXS:=Lib.hid (HXK.out.app HBW.out HOK.out HB1.out HFR)
    have HBS:=Lib.hid (Nat.le_trans HBLK.out HFR.size)
    clear HFR hown6 HSZ hloc hwc hqc
    clear hrow hm ho6 hg6 hq6 hq1 hq0 hqx hy hnw hO2 hbw hxn hrw0 hrw1
    refine wpAnyH_done (by kernel_rfl) ?_ _
    go_wp2_with fail
    go_roundw
    case rel=>exact ⟨k+1,_,_,rfl,by go_num,hlt,HROW.out,HOS.out,HXS.out,HBS.out⟩
    case measure=>simp [intOf] <;> omega
   ·have dlt:decide ((k:Int) < (n:Int))=false:=by simp; omega
    obtain rfl:n=k:=by omega
    have htk:P.take n=P:=List.take_of_length_le (by rw [HNN.out]; exact Nat.le_refl _)
    have hbr:BrC wl #[.int .u64 id,.bool rst,.int .i64 0,.int .i64 mx,.int .i64 hl,.int .i64 dl,.int .i64 hold,.int .u64 id,.int .u32 0,.int .u64 id,.int .u16 0,.int .u16 0,.int .i64 (-1),.int .i64 0,.int .i64 mx,.int .i64 hl,.int .i64 dl,.slice a3 n c3,.slice none 0 0,.slice none 0 0] (newB id rst 20 2 15 hold P):=by
     obtain ⟨e1,e2,e3⟩:=HVS.out
     have h1:=HO.out
     rw [htk] at h1
     rw [e1,e2,e3] at h1 ⊢
     exact ⟨.slice a3 n c3,.slice none 0 0,.slice none 0 0,rfl,by rw [show (newB id rst 20 2 15 hold P).np=n from HNN.out]; exact own_row h1,⟨rfl,.inl ⟨rfl,.inl rfl⟩⟩,⟨rfl,.inl ⟨rfl,.inl rfl⟩⟩⟩
    have HBRC:=Lib.hid hbr
    have HOKB:=Lib.hid (newB_ok (rst:=rst) HI.out (wf64 HHO.out) HPR.out)
    have HRBL:=Lib.hid ((HXL.out.block RB (heap_lt HRB.out)).trans HRB.out)
    clear htk hbr
    go_wp2_with (first
     | fail
     | ((with_reducible refine at_load 120 ?_); refine wpList_load_row rfl 120 _ rfl BB rfl 120 #[.int .u64 id,.bool rst,.int .i64 0,.int .i64 mx,.int .i64 hl,.int .i64 dl,.int .i64 hold,.int .u64 id,.int .u32 0,.int .u64 id,.int .u16 0,.int .u16 0,.int .i64 (-1),.int .i64 0,.int .i64 mx,.int .i64 hl,.int .i64 dl,.slice a3 n c3,.slice none 0 0,.slice none 0 0] (0,0) _ HBR.out Try.underlying120 rfl size_brg ?_))
    refine (cright_any #[.int .u64 id,.bool rst,.int .i64 0,.int .i64 mx,.int .i64 hl,.int .i64 dl,.int .i64 hold,.int .u64 id,.int .u32 0,.int .u64 id,.int .u16 0,.int .u16 0,.int .i64 (-1),.int .i64 0,.int .i64 mx,.int .i64 hl,.int .i64 dl,.slice a3 n c3,.slice none 0 0,.slice none 0 0] (newB id rst 20 2 15 hold P) wl HBRC.out HOKB.out).mono ?_
    rintro e w6 ⟨fb,rfl,hx6,hfb⟩
    have hrr:=hfb.trans (newB_right (by rw [HNN.out]; exact hn))
    have HB6:=Lib.hid ((hx6.block BB (heap_lt HBR.out)).trans HBR.out)
    have HR6:=Lib.hid ((hx6.block RB (heap_lt HRBL.out)).trans HRBL.out)
    have HX6:=Lib.hid (HXL.out.trans hx6)
    cases fb with
    | true =>
     have hdec:decide (1≤hold∧hold≤10)=true:=by rw [decide_eq_true_eq]; exact hrr.1 rfl
     have HDE:=Lib.hid hdec
     clear hx6 hfb hrr hdec
     go_wp2_with (first
      | fail
      | ((with_reducible refine at_load 120 ?_); refine wpList_load_row rfl 120 _ rfl BB rfl 120 #[.int .u64 id,.bool rst,.int .i64 0,.int .i64 mx,.int .i64 hl,.int .i64 dl,.int .i64 hold,.int .u64 id,.int .u32 0,.int .u64 id,.int .u16 0,.int .u16 0,.int .i64 (-1),.int .i64 0,.int .i64 mx,.int .i64 hl,.int .i64 dl,.slice a3 n c3,.slice none 0 0,.slice none 0 0] (0,0) _ HB6.out Try.underlying120 rfl size_brg ?_)
      | ((with_reducible refine at_store 120 ?_); refine st_at rfl rfl 120 _ _ rfl RB 0 _ #[.int .u64 id,.bool rst,.int .i64 0,.int .i64 mx,.int .i64 hl,.int .i64 dl,.int .i64 hold,.int .u64 id,.int .u32 0,.int .u64 id,.int .u16 0,.int .u16 0,.int .i64 (-1),.int .i64 0,.int .i64 mx,.int .i64 hl,.int .i64 dl,.slice a3 n c3,.slice none 0 0,.slice none 0 0] BrZ #[.int .u64 id,.bool rst,.int .i64 0,.int .i64 mx,.int .i64 hl,.int .i64 dl,.int .i64 hold,.int .u64 id,.int .u32 0,.int .u64 id,.int .u16 0,.int .u16 0,.int .i64 (-1),.int .i64 0,.int .i64 mx,.int .i64 hl,.int .i64 dl,.slice a3 n c3,.slice none 0 0,.slice none 0 0] 120 rfl rfl rfl HR6.out (by exact (by decide:0+20≤20)) (by kernel_rfl) rfl rfl ?_
         intro wz hqz hmz
         have HRZ:=Lib.hid hqz
         have HMZ:=Lib.hid hmz
         clear hqz hmz))
     refine bodyPost_ret (results_crt rfl _ _ RB _ _ (0,0) _ rfl HRZ.out Try.underlying120 rfl size_brg) rfl ?_
     exact ⟨_,by rw [HDE.out]; rfl,rfl,rfl,(HE1.out.trans HX6.out).mutE HMZ.out (fun g h1 h2=>by have h3:g=RB:=h2; have h4:=HRW.out; omega)⟩
    | false =>
     have hdec:decide (1≤hold∧hold≤10)=false:=by
      rw [decide_eq_false_iff_not]
      intro h
      have:=hrr.2 h
      cases this
     have HDE:=Lib.hid hdec
     clear hx6 hfb hrr hdec
     go_wp2_with (first
      | fail
      | ((with_reducible refine at_build 120 ?_); refine wpList_build2 rfl 120 _ rfl _ rfl _ bl_br0 ?_)
      | ((with_reducible refine at_store 120 ?_); refine st_at rfl rfl 120 _ _ rfl RB 0 _ BrZ BrZ BrZ 120 rfl rfl rfl HR6.out (by exact (by decide:0+20≤20)) (by kernel_rfl) (by kernel_rfl) (by kernel_rfl) ?_
         intro wz hqz hmz
         have HRZ:=Lib.hid hqz
         have HMZ:=Lib.hid hmz
         clear hqz hmz))
     refine bodyPost_ret (results_crt rfl _ _ RB _ _ (0,0) _ rfl HRZ.out Try.underlying120 rfl size_brg) rfl ?_
     exact ⟨_,by rw [HDE.out]; rfl,rfl,rfl,(HE1.out.trans HX6.out).mutE HMZ.out (fun g h1 h2=>by have h3:g=RB:=h2; have h4:=HRW.out; omega)⟩
 refine beginL (S:=fun W'=>Ext w1 W') (by kernel_rfl) ?_
 intro wd hqx
 have hq0:Ext w1 wd:=hqx
 refine tLp 0 ((.int .u64 id)) rfl hq0 ?_
 simp only [ps]
 refine tLp 1 ((.bool rst)) rfl hq0 ?_
 simp only [ps]
 refine tL 2 (_) rfl (yieldsIf_rowS rfl 28 _ rfl Y rfl #[.int .i64 0,.int .i64 mx,.int .i64 hl,.int .i64 dl] _ _ (fun W' hW'=>(hW'.block Y (heap_lt HY1.out)).trans HY1.out) Try.underlying28 rfl size_tm) hq0 ?_
 simp only [ps]
 refine tLp 3 ((.int .i64 hold)) rfl hq0 ?_
 simp only [ps]
 refine tLp 4 ((.int .u64 id)) rfl hq0 ?_
 simp only [ps]
 refine tL 6 (_) rfl (yieldsIf_rowS rfl 28 _ rfl Y rfl #[.int .i64 0,.int .i64 mx,.int .i64 hl,.int .i64 dl] _ _ (fun W' hW'=>(hW'.block Y (heap_lt HY1.out)).trans HY1.out) Try.underlying28 rfl size_tm) hq0 ?_
 simp only [ps]
 refine runL2 (i:=5) (j:=8) rfl rfl rfl rfl (by kernel_rfl) (fun K hK=>?_) (fun K hK=>?_)
 ·go_simp
  refine (own_any id wd).mono ?_
  rintro e wc ⟨rfl,hx⟩
  have hq1:Ext w1 wc:=hq0.trans hx
  clear hx
  refine hK.out _ _ hq1 (fun _=>?_)
  try simp only [ps]
  clear hK K
  refine tL 7 ((.agg #[.int .u64 id,.bool rst,.int .i64 0,.int .i64 mx,.int .i64 hl,.int .i64 dl,.int .i64 hold,.int .u64 id,.int .u32 0,.int .u64 id,.int .u16 0,.int .u16 0,.int .i64 (-1),.int .i64 0,.int .i64 mx,.int .i64 hl,.int .i64 dl,.slice none 0 0,.slice none 0 0,.slice none 0 0])) rfl (yieldsIf_build rfl 120 _ rfl [(0,.int .u64 id),(1,.bool rst),(2,.agg #[.int .i64 0,.int .i64 mx,.int .i64 hl,.int .i64 dl]),(3,.int .i64 hold),(4,.agg #[.int .u64 id,.int .u32 0,.int .u64 id,.int .u16 0,.int .u16 0]),(5,.int .i64 (-1)),(6,.agg #[.int .i64 0,.int .i64 mx,.int .i64 hl,.int .i64 dl])] rfl #[.int .u64 id,.bool rst,.int .i64 0,.int .i64 mx,.int .i64 hl,.int .i64 dl,.int .i64 hold,.int .u64 id,.int .u32 0,.int .u64 id,.int .u16 0,.int .u16 0,.int .i64 (-1),.int .i64 0,.int .i64 mx,.int .i64 hl,.int .i64 dl,.slice none 0 0,.slice none 0 0,.slice none 0 0] (bl_br _ _ _ _ _ _)) hq1 ?_
  simp only [ps]
  refine runL (i:=8) rfl rfl (by kernel_rfl) (fun K hK=>?_)
  refine wp_al_zero 120 rfl BrZ zero_br (fun BB wv hvb hsz hx=>?_)
  have hq2:Ext w1 wv:=hq1.trans hx
  have hbw:w1.heap.size≤BB:=by have:=hq1.size; omega
  clear hsz
  clear hx
  refine hK.out _ _ hq2 (fun _=>?_)
  try simp only [ps]
  clear hK K
  refine runL (i:=9) rfl rfl (by kernel_rfl) (fun K hK=>?_)
  refine wp_st_at rfl 120 _ _ rfl BB 0 _ #[.int .u64 id,.bool rst,.int .i64 0,.int .i64 mx,.int .i64 hl,.int .i64 dl,.int .i64 hold,.int .u64 id,.int .u32 0,.int .u64 id,.int .u16 0,.int .u16 0,.int .i64 (-1),.int .i64 0,.int .i64 mx,.int .i64 hl,.int .i64 dl,.slice none 0 0,.slice none 0 0,.slice none 0 0] BrZ #[.int .u64 id,.bool rst,.int .i64 0,.int .i64 mx,.int .i64 hl,.int .i64 dl,.int .i64 hold,.int .u64 id,.int .u32 0,.int .u64 id,.int .u16 0,.int .u16 0,.int .i64 (-1),.int .i64 0,.int .i64 mx,.int .i64 hl,.int .i64 dl,.slice none 0 0,.slice none 0 0,.slice none 0 0] 120 rfl rfl rfl hvb (by exact (by decide:0+20≤20)) (by kernel_rfl) rfl rfl (fun wz hrow hm=>?_)
  have hxz:Ext w1 wz:=Ext.mutE hq2 hm (fun j hj h=>by have h2:j=BB:=h; omega)
  refine hK.out _ _ hxz (fun _=>?_)
  try simp only [ps]
  clear hK K
  refine wpAnyH_done (by kernel_rfl) ?_ _
  go_wp2_with fail
  go_meet
  exact ⟨BB,rfl,hrow,hxz,hbw⟩
 ·refine wp_al_zero 120 rfl BrZ zero_br (fun BB wv hvb hsz hx=>?_)
  have hq1:Ext w1 wv:=hq0.trans hx
  have hbw:w1.heap.size≤BB:=by have:=hq0.size; omega
  clear hsz
  clear hx
  refine hK.out _ _ hq1 (fun _=>?_)
  try simp only [ps]
  clear hK K
  refine runL (i:=5) rfl rfl (by kernel_rfl) (fun K hK=>?_)
  go_simp
  refine (own_any id wv).mono ?_
  rintro e wc ⟨rfl,hx⟩
  have hq2:Ext w1 wc:=hq1.trans hx
  replace hvb:=(hx.block BB (heap_lt hvb)).trans hvb
  clear hx
  refine hK.out _ _ hq2 (fun _=>?_)
  try simp only [ps]
  clear hK K
  refine tL 7 ((.agg #[.int .u64 id,.bool rst,.int .i64 0,.int .i64 mx,.int .i64 hl,.int .i64 dl,.int .i64 hold,.int .u64 id,.int .u32 0,.int .u64 id,.int .u16 0,.int .u16 0,.int .i64 (-1),.int .i64 0,.int .i64 mx,.int .i64 hl,.int .i64 dl,.slice none 0 0,.slice none 0 0,.slice none 0 0])) rfl (yieldsIf_build rfl 120 _ rfl [(0,.int .u64 id),(1,.bool rst),(2,.agg #[.int .i64 0,.int .i64 mx,.int .i64 hl,.int .i64 dl]),(3,.int .i64 hold),(4,.agg #[.int .u64 id,.int .u32 0,.int .u64 id,.int .u16 0,.int .u16 0]),(5,.int .i64 (-1)),(6,.agg #[.int .i64 0,.int .i64 mx,.int .i64 hl,.int .i64 dl])] rfl #[.int .u64 id,.bool rst,.int .i64 0,.int .i64 mx,.int .i64 hl,.int .i64 dl,.int .i64 hold,.int .u64 id,.int .u32 0,.int .u64 id,.int .u16 0,.int .u16 0,.int .i64 (-1),.int .i64 0,.int .i64 mx,.int .i64 hl,.int .i64 dl,.slice none 0 0,.slice none 0 0,.slice none 0 0] (bl_br _ _ _ _ _ _)) hq2 ?_
  simp only [ps]
  refine runL (i:=9) rfl rfl (by kernel_rfl) (fun K hK=>?_)
  refine wp_st_at rfl 120 _ _ rfl BB 0 _ #[.int .u64 id,.bool rst,.int .i64 0,.int .i64 mx,.int .i64 hl,.int .i64 dl,.int .i64 hold,.int .u64 id,.int .u32 0,.int .u64 id,.int .u16 0,.int .u16 0,.int .i64 (-1),.int .i64 0,.int .i64 mx,.int .i64 hl,.int .i64 dl,.slice none 0 0,.slice none 0 0,.slice none 0 0] BrZ #[.int .u64 id,.bool rst,.int .i64 0,.int .i64 mx,.int .i64 hl,.int .i64 dl,.int .i64 hold,.int .u64 id,.int .u32 0,.int .u64 id,.int .u16 0,.int .u16 0,.int .i64 (-1),.int .i64 0,.int .i64 mx,.int .i64 hl,.int .i64 dl,.slice none 0 0,.slice none 0 0,.slice none 0 0] 120 rfl rfl rfl hvb (by exact (by decide:0+20≤20)) (by kernel_rfl) rfl rfl (fun wz hrow hm=>?_)
  have hxz:Ext w1 wz:=Ext.mutE hq2 hm (fun j hj h=>by have h2:j=BB:=h; omega)
  refine hK.out _ _ hxz (fun _=>?_)
  try simp only [ps]
  clear hK K
  refine wpAnyH_done (by kernel_rfl) ?_ _
  go_wp2_with fail
  go_meet
  exact ⟨BB,rfl,hrow,hxz,hbw⟩
end Go.Proofs.Ytamnmjckhicapaa
namespace Go.Proofs.Ytamnmjckhicapaa
open Go.RowKit
set_option linter.unusedVariables false
set_option linter.unusedSimpArgs false
theorem low_nat (n b:Nat) (w:World) (hn:n < 18446744073709551616) (hb:b < 64) :
    Calls Try.prog 66 #[.int .u64 n,.int .u64 b] w fun e w'=>e=.returned (.int .u64 ((n % 2 ^ b:Nat):Int))∧w=w':=by
 have hm:=and_mask n b hn hb
 go_enter Try.func66,Try.ntmps66
 go_wp2
 go_ret
 refine ⟨?_,rfl⟩
 show Ending.returned (Value.int .u64 _)=_
 exact congrArg (fun x=>Ending.returned (.int .u64 x)) (by simp)
theorem addr_any (x:Int) (w:World) (h2:0≤x) (h3:x < 18446744073709551616) :
    Calls Try.prog 47 #[.int .u64 x] w fun e w'=>e=.returned (.int .u64 (x % 281474976710656))∧w=w':=by
 obtain ⟨x,rfl⟩:=Int.eq_ofNat_of_zero_le h2
 go_enter Try.func47,Try.ntmps47
 go_wp2_with fail
 refine (low_nat x 48 _ (by omega) (by decide)).mono ?_
 rintro e w1 ⟨rfl,rfl⟩
 go_wp2
 go_ret
 exact ⟨retI (by omega),rfl⟩
theorem num_any (x:Int) (w:World) (h2:0≤x) (h3:x < 65536) :
    Calls Try.prog 70 #[.int .u16 x] w fun e w'=>e=.returned (.int .u16 (x % 4096))∧w=w':=by
 obtain ⟨x,rfl⟩:=Int.eq_ofNat_of_zero_le h2
 go_enter Try.func70,Try.ntmps70
 go_wp2_with fail
 refine (low_nat x 12 _ (by omega) (by decide)).mono ?_
 rintro e w1 ⟨rfl,rfl⟩
 go_wp2
 go_ret
 exact ⟨retI (by omega),rfl⟩
end Go.Proofs.Ytamnmjckhicapaa
