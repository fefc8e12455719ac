/- Part 25 of what BridgeHold stands on. No statement is proved here. -/
import Derived.Test.YtpanapepcbbagaaGreatBpx
set_option linter.unusedVariables false
set_option linter.unusedSimpArgs false
set_option maxRecDepth 100000
set_option maxHeartbeats 8000000
namespace Go.Proofs.YtpanapepcbbagaaGreat
open Go.RowKit Go.BigFrame Go.WideShapes Go.ChangeShapes Go.Deep
def VecZ:Array Value:=#[.int .u64 0,.int .u32 0,.int .u64 0,.int .u16 0,.int .u16 0]
theorem zero_ve:∀w,(zeroValue 30).run Tryz.prog w=.ok (.agg VecZ) w:=(zero_of_info (P:=Tryz.prog) (t:=30) (v:=.agg VecZ) (n:=5) (by kernel_rfl)).1
theorem size_ve:(Tryz.prog.info? 30).map (·.size)=some 5:=by kernel_rfl
theorem bl_ve(id:Int):Tryz.prog.built 30 [(0,.int .u64 id),(2,.int .u64 id)]=some #[.int .u64 id,.int .u32 0,.int .u64 id,.int .u16 0,.int .u16 0]:=by kernel_rfl
theorem zero_br:∀w,(zeroValue 35).run Tryz.prog w=.ok (.agg BrZ) w:=(zero_of_info (P:=Tryz.prog) (t:=35) (v:=.agg BrZ) (n:=20) (by kernel_rfl)).1
theorem size_brg:(Tryz.prog.info? 35).map (·.size)=some 20:=by kernel_rfl
theorem size_tm:(Tryz.prog.info? 24).map (·.size)=some 4:=by kernel_rfl
theorem size_bt:(Tryz.prog.info? 73).map (·.size)=some 5:=by kernel_rfl
theorem zero_bt:∀w,(zeroValue 73).run Tryz.prog w=.ok (.agg SUZ) w:=(zero_of_info (P:=Tryz.prog) (t:=73) (v:=.agg SUZ) (n:=5) (by kernel_rfl)).1
theorem info_po:(Tryz.prog.info? 60).map (fun i=>(i.zero,i.size,i.bytes))=some (some (.agg PortZ),89,416):=by kernel_rfl
theorem bl_br(id ta mx hl dl hold:Int)(rst:Bool):Tryz.prog.built 35 [(0,.int .u64 id),(1,.bool rst),(2,.agg #[.int .i64 ta,.int .i64 mx,.int .i64 hl,.int .i64 dl]),(3,.int .i64 hold),(4,.agg #[.int .u64 id,.int .u32 0,.int .u64 id,.int .u16 0,.int .u16 0]),(5,.int .i64 (-1)),(6,.agg #[.int .i64 ta,.int .i64 mx,.int .i64 hl,.int .i64 dl])]=some #[.int .u64 id,.bool rst,.int .i64 ta,.int .i64 mx,.int .i64 hl,.int .i64 dl,.int .i64 hold,.int .u64 id,.int .u32 0,.int .u64 id,.int .u16 0,.int .u16 0,.int .i64 (-1),.int .i64 ta,.int .i64 mx,.int .i64 hl,.int .i64 dl,.slice none 0 0,.slice none 0 0,.slice none 0 0]:=by kernel_rfl
theorem bl_br0:Tryz.prog.built 35 []=some BrZ:=by kernel_rfl
theorem b1_po(a b mx hl dl e:Int)(x y z r:Bool):Instr.fill (fun i=>some (i*89,89)) ((Array.range (1*89)).map (PortZ[· % PortZ.size]!)) [(0,.agg (portL a b x y z r mx hl dl e))]=some (portL a b x y z r mx hl dl e):=by kernel_rfl
theorem pL_one{rst:Bool}{mx hl dl e a b:Int}{x y z:Bool}(h:pL rst mx hl dl ⟨a,b,x,y,z⟩=(portL a b x y z rst mx hl dl e).toList):∀u∈(portL a b x y z rst mx hl dl e).toList,u.oneCell'=true:=by
 have h2:((portL a b x y z rst mx hl dl e).toList.all (·.oneCell'))=true:=rfl
 exact fun u hu=>List.all_eq_true.1 h2 u hu
theorem own_any(id:Int)(w:World):Calls Tryz.prog 22 #[.int .u64 id] w fun e w'=>e=.returned (.agg #[.int .u64 id,.int .u32 0,.int .u64 id,.int .u16 0,.int .u16 0])∧Ext w w':=by
 go_enter Tryz.func22,Tryz.ntmps22
 go_wp2_with (first
  | fail
  | ((with_reducible refine at_alloc 30 ?_);refine al_zero rfl 30 rfl VecZ zero_ve ?_
     intro RB w1 hq hsz hx)
  | ((with_reducible refine at_build 30 ?_);refine wpList_build2 rfl 30 _ rfl _ rfl _ (bl_ve id) ?_)
  | ((with_reducible refine at_store 30 ?_);refine st_at rfl rfl 30 _ _ rfl RB 0 _ #[.int .u64 id,.int .u32 0,.int .u64 id,.int .u16 0,.int .u16 0] VecZ #[.int .u64 id,.int .u32 0,.int .u64 id,.int .u16 0,.int .u16 0] 30 rfl rfl rfl hq (by exact(by decide:0+5≤5)) (by kernel_rfl) rfl rfl ?_
     intro wz hqz hmz
     have HRZ:=hD hqz
     have HXZ:=hD (hx.mutE hmz (fun g h1 h2=>by have h3:g=RB:=h2;omega))
     clear hqz hmz))
 refine bodyPost_ret (results_cell_row rfl _ _ RB _ _ (0,0) _ rfl HRZ.out Tryz.underlying30 rfl size_ve) rfl ?_
 exact⟨rfl,HXZ.out⟩
theorem newbr_gen(id ta mx hl dl hold:Int)(rst:Bool)(pv:Value)(P:List Pt)(w:World)(hP:PtsAt w pv P)(hn:P.length≤40)(hi:0≤id∧id<18446744073709551616)(ho:-9223372036854775808≤hold∧hold<9223372036854775808)(hpr:∀p∈P,PtR p)(hta:(Lit.int .i64 ta).wf=true)(hmx:(Lit.int .i64 mx).wf=true)(hhl:(Lit.int .i64 hl).wf=true)(hdl:(Lit.int .i64 dl).wf=true):
    Calls Tryz.prog 11 #[.int .u64 id,.bool rst,.agg #[.int .i64 ta,.int .i64 mx,.int .i64 hl,.int .i64 dl],.int .i64 hold,pv] w fun e w'=>∃(c:Array Value) (ok:Bool),e=.returned (.tuple #[.agg c,.bool ok])∧(ok=true↔RightP (newA id rst ta mx hl dl hold P))∧NewIs w w' c ok (newA id rst ta mx hl dl hold P)∧Ext w w':=by
 have HI:=hD hi
 have HHO:=hD ho
 have HPR:=hD hpr
 have HT:=hD (And.intro hta (And.intro hmx (And.intro hhl hdl)))
 obtain⟨pa,pcap,hpe,hpm,hpf⟩:=hP
 obtain⟨n,hn0⟩:∃m,P.length=m:=⟨_,rfl⟩
 rw[hn0]at hpe hpm hpf hn
 subst hpe
 have HPF:=hD (show 0<n→∃b off,pa=some ⟨b,off,none⟩∧b<w.heap.size∧n≤pcap∧pcap≤9223372036854775807∧∀i,i<n→w.rangeAt b (off+i*5) (P.getD i default).L from hpf)
 have HNN:=hD hn0
 obtain⟨i9,hi9,hz9,hs9,hb9⟩:=info_parts info_po
 have I9:=hD (And.intro hi9 (And.intro hz9 (And.intro hs9 hb9)))
 clear hi9 hz9 hs9 hb9 hta hmx hhl hdl hi ho hpr hpf hn0 hpm
 go_enter Tryz.func11,Tryz.ntmps11
 go_wp2_with (first
  | fail
  | ((with_reducible refine at_box 24 ?_);refine bx_row rfl 24 _ rfl #[.int .i64 ta,.int .i64 mx,.int .i64 hl,.int .i64 dl] rfl ?_
     intro Y wa hX hsz hx1
     have HYa:=hD hX
     have HEa:=hD hx1
     clear hX hsz hx1)
  | ((with_reducible refine at_alloc 35 ?_);have h0:=HEa.out;refine al_zero rfl 35 rfl BrZ zero_br ?_
     intro RB w1 hq hsz hx
     have HRB:=hD hq
     have HE1:=hD (HEa.out.trans hx)
     have HRW:=hD (show w.heap.size≤RB from by have:=HEa.out.size;omega)
     have HY1:=hD ((hx.block Y (heap_lt HYa.out)).trans HYa.out)
     clear hq hsz hx h0 HEa HYa))
 go_cut [12]from 15 to 22 (fun s wx=>∃BB,s=.pointer (some ⟨BB,0,none⟩)∧wx.heap[BB]?=some (.cells #[.int .u64 id,.bool rst,.int .i64 ta,.int .i64 mx,.int .i64 hl,.int .i64 dl,.int .i64 hold,.int .u64 id,.int .u32 0,.int .u64 id,.int .u16 0,.int .u16 0,.int .i64 (-1),.int .i64 ta,.int .i64 mx,.int .i64 hl,.int .i64 dl,.slice none 0 0,.slice none 0 0,.slice none 0 0] 35 (0,0))∧Ext w1 wx∧w1.heap.size≤BB)
 case rest =>
  obtain⟨BB,rfl,hbb,hx2,hbw⟩:=hcut
  rename World=>w2
  have HBB:=hD hbb
  have HX2:=hD hx2
  have HBW:=hD hbw
  have HY2:=hD ((hx2.block Y (heap_lt HY1.out)).trans HY1.out)
  obtain⟨B,hB⟩:∃B,w2.heap.size=B:=⟨_,rfl⟩
  have HB0:=hD (Nat.le_of_eq hB.symm)
  have HB1:=hD (show w1.heap.size≤B from by rw[←hB];exact hx2.size)
  have HBBB:=hD (show BB<B from by rw[←hB];exact heap_lt hbb)
  have HYB:=hD (show Y<w1.heap.size from heap_lt HY1.out)
  clear hbb hx2 hbw hB
  go_wp2_with fail
  go_loopw [25] (fun s wr=>∃(k:Nat) (u:Value) (wo:World),wo=wr∧s=.int .i64 k∧k≤n∧wo.heap[BB]?=some (.cells #[.int .u64 id,.bool rst,.int .i64 ta,.int .i64 mx,.int .i64 hl,.int .i64 dl,.int .i64 hold,.int .u64 id,.int .u32 0,.int .u64 id,.int .u16 0,.int .u16 0,.int .i64 (-1),.int .i64 ta,.int .i64 mx,.int .i64 hl,.int .i64 dl,u,.slice none 0 0,.slice none 0 0] 35 (0,0))∧wo.ownsRow B 60 89 u k ((P.take k).flatMap (pL rst mx hl dl))∧Ext w1 wo∧B≤wo.heap.size) (fun s _=>n - (intOf s).toNat)
  case atStart=>exact⟨0,_,_,rfl,rfl,by omega,HBB.out,⟨by simp,.inl ⟨rfl,rfl⟩⟩,HX2.out,HB0.out⟩
  case round =>
   clear HBB HX2
   obtain⟨k,u,wo,rfl,rfl,hk,hbb,hown,hx,hbl⟩:=hrel
   rename World=>wl
   obtain⟨a3,c3,rfl⟩:=own_form2 hown
   have HBR:=hD hbb
   have HO:=hD hown
   have HXL:=hD hx
   have HBL:=hD hbl
   clear hbb hown hx hbl
   by_cases hlt:k<n
   ·have dlt:decide ((k:Int)<(n:Int))=true:=by simp;omega
    have hup:IntKind.i64.wrap ((k:Int)+1)=((k+1:Nat):Int):=by rw[IntKind.wrap_i64];omega
    obtain⟨pb,po,rfl,hpb,-,-,hp4⟩:=HPF.out (by omega)
    obtain⟨p,hp⟩:∃p,P.getD k default=p:=⟨_,rfl⟩
    have RS:=hD (show wl.rangeAt pb (po+k*5) p.L from by
     have h4:=rangeR_ext (hp4 k hlt) (HE1.out.trans HXL.out) hpb
     rw[hp]at h4
     exact h4)
    have HTK:=hD (show(P.take (k+1)).flatMap (pL rst mx hl dl)=(P.take k).flatMap (pL rst mx hl dl)++pL rst mx hl dl p from by
     rw[take_snoc P default (by rw[HNN.out];exact hlt),hp,List.flatMap_append]
     simp)
    obtain⟨p1,p2,p3,p4,p5⟩:=p
    have HTL:=hD (show pL rst mx hl dl ⟨p1,p2,p3,p4,p5⟩=(portL p1 p2 p3 p4 p5 rst mx hl dl (if p4 then 0 else 1)).toList from rfl)
    obtain⟨e,he⟩:∃e:Int,(if p4 then(0:Int)else 1)=e:=⟨_,rfl⟩
    have HEE:=hD he
    rw[he]at HTL
    clear hp4 hp hpb he
    go_wp2_with (first
     | fail
     | ((with_reducible refine at_load 73 ?_);refine wpList_load_mid rfl 73 _ rfl pb (po+k*5) rfl [.int .u16 p1,.int .u32 p2,.bool p3,.bool p4,.bool p5] _ RS.out Tryz.underlying73 rfl size_bt ?_)
     | ((with_reducible refine at_alloc 73 ?_);refine al_zero rfl 73 rfl SUZ zero_bt ?_
        intro H wh hqh hszh hxh)
     | ((with_reducible refine at_store 73 ?_);refine st_at rfl rfl 73 _ _ rfl H 0 _ #[.int .u16 p1,.int .u32 p2,.bool p3,.bool p4,.bool p5] SUZ #[.int .u16 p1,.int .u32 p2,.bool p3,.bool p4,.bool p5] 73 rfl rfl rfl hqh (by exact(by decide:0+5≤5)) (by kernel_rfl) rfl rfl ?_
        intro wk hqk hmk
        have E5:Ext wl wk:=hxh.mutE hmk (fun g hg h=>by have h2:g=H:=h;omega)
        have HHK:=hD hqk
        have HHW:=hD (show wl.heap.size≤H from Nat.le_of_eq hszh)
        have HOK:=hD (ownR_ext HO.out E5)
        have HBK:=hD ((E5.block BB (heap_lt HBR.out)).trans HBR.out)
        have HXK:=hD (HXL.out.trans E5)
        have HBLK:=hD (Nat.le_trans HBL.out E5.size)
        have HNE:=hD (show ∀g,Value.ownBlock (.slice a3 k c3)=some g→g≠H from fun g h1 h2=>by have h3:=(own_lt2 HO.out h1).2;have h4:wl.heap.size=H:=hszh;omega)
        clear hqh hszh hxh hqk hmk E5 wh))
    refine beginZ (S:=fun W'=>Ext w1 W'∧W'.heap[BB]?=some (.cells #[.int .u64 id,.bool rst,.int .i64 ta,.int .i64 mx,.int .i64 hl,.int .i64 dl,.int .i64 hold,.int .u64 id,.int .u32 0,.int .u64 id,.int .u16 0,.int .u16 0,.int .i64 (-1),.int .i64 ta,.int .i64 mx,.int .i64 hl,.int .i64 dl,.slice a3 k c3,.slice none 0 0,.slice none 0 0] 35 (0,0))∧W'.heap[H]?=some (.cells #[.int .u16 p1,.int .u32 p2,.bool p3,.bool p4,.bool p5] 73 (0,0))) 9 (by kernel_rfl) ?_
    intro wd hqx
    have hq0:(fun W'=>Ext w1 W'∧W'.heap[BB]?=some (.cells #[.int .u64 id,.bool rst,.int .i64 ta,.int .i64 mx,.int .i64 hl,.int .i64 dl,.int .i64 hold,.int .u64 id,.int .u32 0,.int .u64 id,.int .u16 0,.int .u16 0,.int .i64 (-1),.int .i64 ta,.int .i64 mx,.int .i64 hl,.int .i64 dl,.slice a3 k c3,.slice none 0 0,.slice none 0 0] 35 (0,0))∧W'.heap[H]?=some (.cells #[.int .u16 p1,.int .u32 p2,.bool p3,.bool p4,.bool p5] 73 (0,0))) wd:=⟨HXK.out.trans hqx,(hqx.block BB (heap_lt (HBK.out))).trans (HBK.out),(hqx.block H (heap_lt (HHK.out))).trans (HHK.out)⟩
    refine takeZ (i:=0) (z:=9) (v:=(.pointer (some ⟨BB,17,none⟩))) rfl rfl (by kernel_rfl) (by kernel_rfl) (by kernel_rfl) (by kernel_rfl) (by kernel_rfl) (by kernel_rfl) (fun _ _ _ h=>h) (Or.inl ⟨rfl,fun _ _=>rfl⟩) hq0 ?_
    simp only[ps]
    refine takeZ (i:=1) (z:=9) (v:=_) rfl rfl (by kernel_rfl) (by kernel_rfl) (by kernel_rfl) (by kernel_rfl) (by kernel_rfl) (by kernel_rfl) (fun _ _ _ h=>h) (yieldsIf_cell rfl 31 _ rfl ⟨BB,17,none⟩ rfl (.slice a3 k c3) _ (fun W' hW'=>(show W'.cell? ⟨BB,17,none⟩=_ by rw[cell_row hW'.2.1];rfl)) Tryz.underlying31 rfl) hq0 ?_
    simp only[ps]
    refine takeZ (i:=2) (z:=9) (v:=_) rfl rfl (by kernel_rfl) (by kernel_rfl) (by kernel_rfl) (by kernel_rfl) (by kernel_rfl) (by kernel_rfl) (fun _ _ _ h=>h) (yieldsIf_rowS rfl 73 _ rfl H rfl #[.int .u16 p1,.int .u32 p2,.bool p3,.bool p4,.bool p5] _ _ (fun W' hW'=>hW'.2.2) Tryz.underlying73 rfl size_bt) hq0 ?_
    simp only[ps]
    refine takeZ (i:=3) (z:=9) (v:=(.bool rst)) rfl rfl (by kernel_rfl) (by kernel_rfl) (by kernel_rfl) (by kernel_rfl) (by kernel_rfl) (by kernel_rfl) (fun _ _ _ h=>h) (Or.inl ⟨rfl,fun _ _=>rfl⟩) hq0 ?_
    simp only[ps]
    refine takeZ (i:=4) (z:=9) (v:=_) rfl rfl (by kernel_rfl) (by kernel_rfl) (by kernel_rfl) (by kernel_rfl) (by kernel_rfl) (by kernel_rfl) (fun _ _ _ h=>h) (yieldsIf_rowS rfl 24 _ rfl Y rfl #[.int .i64 ta,.int .i64 mx,.int .i64 hl,.int .i64 dl] _ _ (fun W' hW'=>(hW'.1.block Y HYB.out).trans HY1.out) Tryz.underlying24 rfl size_tm) hq0 ?_
    simp only[ps]
    refine runZ (i:=5) rfl rfl (by kernel_rfl) (fun K hK=>?_)
    go_simp
    refine(newport_any p1 p2 mx hl dl p3 p4 p5 rst wd).mono ?_
    rintro e' wc ⟨rfl,hwc⟩
    rw[HEE.out]
    have hqc:(fun W'=>Ext w1 W'∧W'.heap[BB]?=some (.cells #[.int .u64 id,.bool rst,.int .i64 ta,.int .i64 mx,.int .i64 hl,.int .i64 dl,.int .i64 hold,.int .u64 id,.int .u32 0,.int .u64 id,.int .u16 0,.int .u16 0,.int .i64 (-1),.int .i64 ta,.int .i64 mx,.int .i64 hl,.int .i64 dl,.slice a3 k c3,.slice none 0 0,.slice none 0 0] 35 (0,0))∧W'.heap[H]?=some (.cells #[.int .u16 p1,.int .u32 p2,.bool p3,.bool p4,.bool p5] 73 (0,0))) wc:=⟨hq0.1.trans hwc,(hwc.block BB (heap_lt hq0.2.1)).trans hq0.2.1,(hwc.block H (heap_lt hq0.2.2)).trans hq0.2.2⟩
    refine hK.out _ _ hqc (fun _=>?_)
    try simp only[ps]
    clear hK K
    refine runZ (i:=6) rfl rfl (by kernel_rfl) (fun K hK=>?_)
    refine wp_buildSlice 31 60 1 _ rfl (portL p1 p2 p3 p4 p5 rst mx hl dl e) i9 (.agg PortZ) Tryz.underlying31 I9.out.1 I9.out.2.1 (by rw[I9.out.2.2.1];decide) (by rw[I9.out.2.2.1];decide) (by rw[I9.out.2.2.1,Array.toList_map];exact b1_po _ _ _ _ _ _ _ _ _ _) ?_
    have hy:Ext wc (wc.alloc (.cells (portL p1 p2 p3 p4 p5 rst mx hl dl e) 60)):=(Ext.refl _).alloc _
    have hnw:=heap_alloc_new wc (.cells (portL p1 p2 p3 p4 p5 rst mx hl dl e) 60)
    obtain⟨wn,hwa⟩:∃W,wc.alloc (.cells (portL p1 p2 p3 p4 p5 rst mx hl dl e) 60)=W:=⟨_,rfl⟩
    obtain⟨bn,hnb⟩:∃m,wc.heap.size=m:=⟨_,rfl⟩
    rw[hwa]at hnw hy ⊢
    rw[hnb]at hnw ⊢
    clear hwa hnb
    have hq1:(fun W'=>Ext w1 W'∧W'.heap[BB]?=some (.cells #[.int .u64 id,.bool rst,.int .i64 ta,.int .i64 mx,.int .i64 hl,.int .i64 dl,.int .i64 hold,.int .u64 id,.int .u32 0,.int .u64 id,.int .u16 0,.int .u16 0,.int .i64 (-1),.int .i64 ta,.int .i64 mx,.int .i64 hl,.int .i64 dl,.slice a3 k c3,.slice none 0 0,.slice none 0 0] 35 (0,0))∧W'.heap[H]?=some (.cells #[.int .u16 p1,.int .u32 p2,.bool p3,.bool p4,.bool p5] 73 (0,0))) wn:=⟨hqc.1.trans hy,(hy.block BB (heap_lt hqc.2.1)).trans hqc.2.1,(hy.block H (heap_lt hqc.2.2)).trans hqc.2.2⟩
    have hxn:Ext wk wn:=(hqx.trans hwc).trans hy
    have hO2:=ownR_ext HOK.out hxn
    have hbw:B≤wn.heap.size:=Nat.le_trans HBLK.out hxn.size
    refine hK.out _ _ hq1 (fun _=>?_)
    try simp only[ps]
    clear hK K
    refine runZ (i:=7) rfl rfl (by kernel_rfl) (fun K hK=>?_)
    refine oper_append_own_at _ _ 31 rfl B 60 i9 (.agg PortZ) 89 416 Tryz.underlying31 I9.out.1 I9.out.2.1 I9.out.2.2.1 I9.out.2.2.2 rfl (by decide) (.slice a3 k c3) k ((P.take k).flatMap (pL rst mx hl dl)) rfl hO2 ⟨bn,0,none⟩ 1 1 ((portL p1 p2 p3 p4 p5 rst mx hl dl e)).toList rfl rfl ?hnews (fun u hu=>pL_one HTL.out u hu) (by unfold maxLen;omega) (by omega) hbw ?hfin
    case hnews=>exact fun j u hu=>World.news_of_block hnw j u (by simpa using hu)
    case hfin =>
    intro v6 wa ho6 hg6 hloc
    have hrw0:wa.heap[BB]?=some (.cells #[.int .u64 id,.bool rst,.int .i64 ta,.int .i64 mx,.int .i64 hl,.int .i64 dl,.int .i64 hold,.int .u64 id,.int .u32 0,.int .u64 id,.int .u16 0,.int .u16 0,.int .i64 (-1),.int .i64 ta,.int .i64 mx,.int .i64 hl,.int .i64 dl,.slice a3 k c3,.slice none 0 0,.slice none 0 0] 35 (0,0)):=(hg6.block BB (heap_lt hq1.2.1) (fun e=>by have h1:=(own_lt2 hO2 e.symm).1;have h2:=HBBB.out;omega)).trans hq1.2.1
    have hrw1:wa.heap[H]?=some (.cells #[.int .u16 p1,.int .u32 p2,.bool p3,.bool p4,.bool p5] 73 (0,0)):=(hg6.block H (heap_lt hq1.2.2) (fun e=>(HNE.out) _ e.symm rfl)).trans hq1.2.2
    have hq6:(fun W'=>Ext w1 W'∧W'.heap[BB]?=some (.cells #[.int .u64 id,.bool rst,.int .i64 ta,.int .i64 mx,.int .i64 hl,.int .i64 dl,.int .i64 hold,.int .u64 id,.int .u32 0,.int .u64 id,.int .u16 0,.int .u16 0,.int .i64 (-1),.int .i64 ta,.int .i64 mx,.int .i64 hl,.int .i64 dl,.slice a3 k c3,.slice none 0 0,.slice none 0 0] 35 (0,0))∧W'.heap[H]?=some (.cells #[.int .u16 p1,.int .u32 p2,.bool p3,.bool p4,.bool p5] 73 (0,0))) wa:=⟨ext_grown hq1.1 hO2 HB1.out hg6,hrw0,hrw1⟩
    obtain⟨a6,c6,rfl⟩:=own_form2 ho6
    refine hK.out _ _ hq6 (fun _=>?_)
    try simp only[ps]
    clear hK K
    refine takeZ (i:=8) (z:=9) (v:=(.pointer (some ⟨BB,17,none⟩))) rfl rfl (by kernel_rfl) (by kernel_rfl) (by kernel_rfl) (by kernel_rfl) (by kernel_rfl) (by kernel_rfl) (fun _ _ _ h=>h) (Or.inl ⟨rfl,fun _ _=>rfl⟩) hq6 ?_
    simp only[ps]
    refine runZl (z:=9) rfl rfl (by kernel_rfl) (fun K hK=>?_)
    refine wp_st_at rfl 31 _ _ rfl BB 17 _ #[.slice a6 (k+1) c6] (#[.int .u64 id,.bool rst,.int .i64 ta,.int .i64 mx,.int .i64 hl,.int .i64 dl,.int .i64 hold,.int .u64 id,.int .u32 0,.int .u64 id,.int .u16 0,.int .u16 0,.int .i64 (-1),.int .i64 ta,.int .i64 mx,.int .i64 hl,.int .i64 dl,.slice a3 k c3,.slice none 0 0,.slice none 0 0]) (#[.int .u64 id,.bool rst,.int .i64 ta,.int .i64 mx,.int .i64 hl,.int .i64 dl,.int .i64 hold,.int .u64 id,.int .u32 0,.int .u64 id,.int .u16 0,.int .u16 0,.int .i64 (-1),.int .i64 ta,.int .i64 mx,.int .i64 hl,.int .i64 dl,.slice a6 (k+1) c6,.slice none 0 0,.slice none 0 0]) 35 rfl rfl rfl hrw0 (by exact(by decide:17+1≤20)) (by kernel_rfl) rfl rfl (fun ws hrow hm=>?_)
    have HFR:=app_fr hxn hg6 hm
    have HROW:=hD hrow
    have hown6:ws.ownsRow B 60 89 (.slice a6 (k+1) c6) (k+1) ((P.take k).flatMap (pL rst mx hl dl)++((portL p1 p2 p3 p4 p5 rst mx hl dl e)).toList):=own_mut ho6 hm (fun g h1 h2=>by have h3:=(own_lt2 ho6 h1).1;have h4:=HBBB.out;omega)
    have HSZ:wk.heap.size≤wn.heap.size:=hxn.size
    refine hK.out _ _ ?_
    try simp only[ps]
    clear hK K
    have HOS:=hD (show ws.ownsRow B 60 89 (.slice a6 (k+1) c6) (k+1) ((P.take (k+1)).flatMap (pL rst mx hl dl))from by rw[HTK.out,HTL.out];exact hown6)
    have HXS:=hD (HXK.out.app HBW.out HOK.out HB1.out HFR)
    have HBS:=hD (Nat.le_trans HBLK.out HFR.size)
    clear HFR hown6 HSZ hloc hwc hqc
    clear hrow hm ho6 hg6 hq6 hq1 hq0 hqx hy hnw hO2 hbw hxn hrw0 hrw1
    refine wpAnyH_done (by kernel_rfl) ?_ _
    go_wp2_with fail
    go_roundw
    case rel=>exact⟨k+1,_,_,rfl,by go_num,hlt,HROW.out,HOS.out,HXS.out,HBS.out⟩
    case measure=>simp[intOf]<;>omega
   ·have dlt:decide ((k:Int)<(n:Int))=false:=by simp;omega
    obtain rfl:n=k:=by omega
    have htk:P.take n=P:=List.take_of_length_le (by rw[HNN.out];exact Nat.le_refl _)
    have hbr:BrC wl #[.int .u64 id,.bool rst,.int .i64 ta,.int .i64 mx,.int .i64 hl,.int .i64 dl,.int .i64 hold,.int .u64 id,.int .u32 0,.int .u64 id,.int .u16 0,.int .u16 0,.int .i64 (-1),.int .i64 ta,.int .i64 mx,.int .i64 hl,.int .i64 dl,.slice a3 n c3,.slice none 0 0,.slice none 0 0] (newA id rst ta mx hl dl hold P):=by
     have h1:=HO.out
     rw[htk]at h1
     exact⟨.slice a3 n c3,.slice none 0 0,.slice none 0 0,rfl,by rw[show(newA id rst ta mx hl dl hold P).np=n from HNN.out];exact own_row h1,⟨rfl,.inl ⟨rfl,.inl rfl⟩⟩,⟨rfl,.inl ⟨rfl,.inl rfl⟩⟩⟩
    have HBRC:=hD hbr
    have HOKB:=hD (newA_ok (rst:=rst) (wfu64 HI.out) HT.out.1 HT.out.2.1 HT.out.2.2.1 HT.out.2.2.2 (wf64 HHO.out) HPR.out)
    have HRBL:=hD ((HXL.out.block RB (heap_lt HRB.out)).trans HRB.out)
    clear htk hbr
    go_wp2_with (first
     | fail
     | ((with_reducible refine at_load 35 ?_);refine wpList_load_row rfl 35 _ rfl BB rfl 35 #[.int .u64 id,.bool rst,.int .i64 ta,.int .i64 mx,.int .i64 hl,.int .i64 dl,.int .i64 hold,.int .u64 id,.int .u32 0,.int .u64 id,.int .u16 0,.int .u16 0,.int .i64 (-1),.int .i64 ta,.int .i64 mx,.int .i64 hl,.int .i64 dl,.slice a3 n c3,.slice none 0 0,.slice none 0 0] (0,0) _ HBR.out Tryz.underlying35 rfl size_brg ?_))
    refine(cright_any #[.int .u64 id,.bool rst,.int .i64 ta,.int .i64 mx,.int .i64 hl,.int .i64 dl,.int .i64 hold,.int .u64 id,.int .u32 0,.int .u64 id,.int .u16 0,.int .u16 0,.int .i64 (-1),.int .i64 ta,.int .i64 mx,.int .i64 hl,.int .i64 dl,.slice a3 n c3,.slice none 0 0,.slice none 0 0] (newA id rst ta mx hl dl hold P) wl HBRC.out HOKB.out).mono ?_
    rintro e w6 ⟨fb,rfl,hx6,hfb⟩
    have HFB:=hD hfb
    have HOW:=hD (show w6.ownsRow B 60 89 (.slice a3 n c3) n (P.flatMap (pL rst mx hl dl))from by
     have h1:=ownR_ext HO.out hx6
     rw[List.take_of_length_le (by rw[HNN.out];exact Nat.le_refl _)]at h1
     exact h1)
    have HB6:=hD ((hx6.block BB (heap_lt HBR.out)).trans HBR.out)
    have HR6:=hD ((hx6.block RB (heap_lt HRBL.out)).trans HRBL.out)
    have HX6:=hD (HXL.out.trans hx6)
    cases fb with
    | true =>
     clear hx6 hfb
     go_wp2_with (first
      | fail
      | ((with_reducible refine at_load 35 ?_);refine wpList_load_row rfl 35 _ rfl BB rfl 35 #[.int .u64 id,.bool rst,.int .i64 ta,.int .i64 mx,.int .i64 hl,.int .i64 dl,.int .i64 hold,.int .u64 id,.int .u32 0,.int .u64 id,.int .u16 0,.int .u16 0,.int .i64 (-1),.int .i64 ta,.int .i64 mx,.int .i64 hl,.int .i64 dl,.slice a3 n c3,.slice none 0 0,.slice none 0 0] (0,0) _ HB6.out Tryz.underlying35 rfl size_brg ?_)
      | ((with_reducible refine at_store 35 ?_);refine st_at rfl rfl 35 _ _ rfl RB 0 _ #[.int .u64 id,.bool rst,.int .i64 ta,.int .i64 mx,.int .i64 hl,.int .i64 dl,.int .i64 hold,.int .u64 id,.int .u32 0,.int .u64 id,.int .u16 0,.int .u16 0,.int .i64 (-1),.int .i64 ta,.int .i64 mx,.int .i64 hl,.int .i64 dl,.slice a3 n c3,.slice none 0 0,.slice none 0 0] BrZ #[.int .u64 id,.bool rst,.int .i64 ta,.int .i64 mx,.int .i64 hl,.int .i64 dl,.int .i64 hold,.int .u64 id,.int .u32 0,.int .u64 id,.int .u16 0,.int .u16 0,.int .i64 (-1),.int .i64 ta,.int .i64 mx,.int .i64 hl,.int .i64 dl,.slice a3 n c3,.slice none 0 0,.slice none 0 0] 35 rfl rfl rfl HR6.out (by exact(by decide:0+20≤20)) (by kernel_rfl) rfl rfl ?_
         intro wz hqz hmz
         have HRZ:=hD hqz
         have HMZ:=hD hmz
         clear hqz hmz))
     refine bodyPost_ret (results_crt rfl _ _ RB _ _ (0,0) _ rfl HRZ.out Tryz.underlying35 rfl size_brg) rfl ?_
     have hsz:w.heap.size≤B:=Nat.le_trans HE1.out.size HB1.out
     refine⟨_,true,rfl,by simpa using HFB.out,.inl ⟨rfl,_,rfl,?_⟩,(HE1.out.trans HX6.out).mutE HMZ.out (fun g h1 h2=>by have h3:g=RB:=h2;have h4:=HRW.out;omega)⟩
     have h5:=own_mut HOW.out HMZ.out (fun g h1 h2=>by have h3:g=RB:=h2;have h4:=(own_lt2 HOW.out h1).1;have h5:=heap_lt HRB.out;have h6:=HB1.out;omega)
     rw[show(newA id rst ta mx hl dl hold P).np=n from HNN.out]
     exact own_base h5 hsz
    | false =>
     clear hx6 hfb
     go_wp2_with (first
      | fail
      | ((with_reducible refine at_build 35 ?_);refine wpList_build2 rfl 35 _ rfl _ rfl _ bl_br0 ?_)
      | ((with_reducible refine at_store 35 ?_);refine st_at rfl rfl 35 _ _ rfl RB 0 _ BrZ BrZ BrZ 35 rfl rfl rfl HR6.out (by exact(by decide:0+20≤20)) (by kernel_rfl) (by kernel_rfl) (by kernel_rfl) ?_
         intro wz hqz hmz
         have HRZ:=hD hqz
         have HMZ:=hD hmz
         clear hqz hmz))
     refine bodyPost_ret (results_crt rfl _ _ RB _ _ (0,0) _ rfl HRZ.out Tryz.underlying35 rfl size_brg) rfl ?_
     exact⟨_,false,rfl,HFB.out,.inr ⟨rfl,rfl⟩,(HE1.out.trans HX6.out).mutE HMZ.out (fun g h1 h2=>by have h3:g=RB:=h2;have h4:=HRW.out;omega)⟩
 refine beginL (S:=fun W'=>Ext w1 W') (by kernel_rfl) ?_
 intro wd hqx
 have hq0:Ext w1 wd:=hqx
 refine tLp 0 ((.int .u64 id)) rfl hq0 ?_
 refine tLp 1 ((.bool rst)) rfl hq0 ?_
 refine tL 2 (_) rfl (yieldsIf_rowS rfl 24 _ rfl Y rfl #[.int .i64 ta,.int .i64 mx,.int .i64 hl,.int .i64 dl] _ _ (fun W' hW'=>(hW'.block Y (heap_lt HY1.out)).trans HY1.out) Tryz.underlying24 rfl size_tm) hq0 ?_
 refine tLp 3 ((.int .i64 hold)) rfl hq0 ?_
 refine tLp 4 ((.int .u64 id)) rfl hq0 ?_
 refine tL 6 (_) rfl (yieldsIf_rowS rfl 24 _ rfl Y rfl #[.int .i64 ta,.int .i64 mx,.int .i64 hl,.int .i64 dl] _ _ (fun W' hW'=>(hW'.block Y (heap_lt HY1.out)).trans HY1.out) Tryz.underlying24 rfl size_tm) hq0 ?_
 refine runL2 (i:=5) (j:=8) rfl rfl rfl rfl (by kernel_rfl) (fun K hK=>?_) (fun K hK=>?_)
 ·go_simp
  refine(own_any id wd).mono ?_
  rintro e wc ⟨rfl,hx⟩
  have hq1:Ext w1 wc:=hq0.trans hx
  clear hx
  refine hK.out _ _ hq1 (fun _=>?_)
  try simp only[ps]
  clear hK K
  refine tL 7 ((.agg #[.int .u64 id,.bool rst,.int .i64 ta,.int .i64 mx,.int .i64 hl,.int .i64 dl,.int .i64 hold,.int .u64 id,.int .u32 0,.int .u64 id,.int .u16 0,.int .u16 0,.int .i64 (-1),.int .i64 ta,.int .i64 mx,.int .i64 hl,.int .i64 dl,.slice none 0 0,.slice none 0 0,.slice none 0 0])) rfl (yieldsIf_build rfl 35 _ rfl [(0,.int .u64 id),(1,.bool rst),(2,.agg #[.int .i64 ta,.int .i64 mx,.int .i64 hl,.int .i64 dl]),(3,.int .i64 hold),(4,.agg #[.int .u64 id,.int .u32 0,.int .u64 id,.int .u16 0,.int .u16 0]),(5,.int .i64 (-1)),(6,.agg #[.int .i64 ta,.int .i64 mx,.int .i64 hl,.int .i64 dl])] rfl #[.int .u64 id,.bool rst,.int .i64 ta,.int .i64 mx,.int .i64 hl,.int .i64 dl,.int .i64 hold,.int .u64 id,.int .u32 0,.int .u64 id,.int .u16 0,.int .u16 0,.int .i64 (-1),.int .i64 ta,.int .i64 mx,.int .i64 hl,.int .i64 dl,.slice none 0 0,.slice none 0 0,.slice none 0 0] (bl_br _ _ _ _ _ _ _)) hq1 ?_
  refine runL (i:=8) rfl rfl (by kernel_rfl) (fun K hK=>?_)
  refine wp_al_zero 35 rfl BrZ zero_br (fun BB wv hvb hsz hx=>?_)
  have hq2:Ext w1 wv:=hq1.trans hx
  have hbw:w1.heap.size≤BB:=by have:=hq1.size;omega
  clear hsz
  clear hx
  refine hK.out _ _ hq2 (fun _=>?_)
  try simp only[ps]
  clear hK K
  refine runL (i:=9) rfl rfl (by kernel_rfl) (fun K hK=>?_)
  refine wp_st_at rfl 35 _ _ rfl BB 0 _ #[.int .u64 id,.bool rst,.int .i64 ta,.int .i64 mx,.int .i64 hl,.int .i64 dl,.int .i64 hold,.int .u64 id,.int .u32 0,.int .u64 id,.int .u16 0,.int .u16 0,.int .i64 (-1),.int .i64 ta,.int .i64 mx,.int .i64 hl,.int .i64 dl,.slice none 0 0,.slice none 0 0,.slice none 0 0] BrZ #[.int .u64 id,.bool rst,.int .i64 ta,.int .i64 mx,.int .i64 hl,.int .i64 dl,.int .i64 hold,.int .u64 id,.int .u32 0,.int .u64 id,.int .u16 0,.int .u16 0,.int .i64 (-1),.int .i64 ta,.int .i64 mx,.int .i64 hl,.int .i64 dl,.slice none 0 0,.slice none 0 0,.slice none 0 0] 35 rfl rfl rfl hvb (by exact(by decide:0+20≤20)) (by kernel_rfl) rfl rfl (fun wz hrow hm=>?_)
  have hxz:Ext w1 wz:=Ext.mutE hq2 hm (fun j hj h=>by have h2:j=BB:=h;omega)
  refine hK.out _ _ hxz (fun _=>?_)
  try simp only[ps]
  clear hK K
  refine wpAnyH_done (by kernel_rfl) ?_ _
  go_wp2_with fail
  go_meet
  exact⟨BB,rfl,hrow,hxz,hbw⟩
 ·refine wp_al_zero 35 rfl BrZ zero_br (fun BB wv hvb hsz hx=>?_)
  have hq1:Ext w1 wv:=hq0.trans hx
  have hbw:w1.heap.size≤BB:=by have:=hq0.size;omega
  clear hsz
  clear hx
  refine hK.out _ _ hq1 (fun _=>?_)
  try simp only[ps]
  clear hK K
  refine runL (i:=5) rfl rfl (by kernel_rfl) (fun K hK=>?_)
  go_simp
  refine(own_any id wv).mono ?_
  rintro e wc ⟨rfl,hx⟩
  have hq2:Ext w1 wc:=hq1.trans hx
  replace hvb:=(hx.block BB (heap_lt hvb)).trans hvb
  clear hx
  refine hK.out _ _ hq2 (fun _=>?_)
  try simp only[ps]
  clear hK K
  refine tL 7 ((.agg #[.int .u64 id,.bool rst,.int .i64 ta,.int .i64 mx,.int .i64 hl,.int .i64 dl,.int .i64 hold,.int .u64 id,.int .u32 0,.int .u64 id,.int .u16 0,.int .u16 0,.int .i64 (-1),.int .i64 ta,.int .i64 mx,.int .i64 hl,.int .i64 dl,.slice none 0 0,.slice none 0 0,.slice none 0 0])) rfl (yieldsIf_build rfl 35 _ rfl [(0,.int .u64 id),(1,.bool rst),(2,.agg #[.int .i64 ta,.int .i64 mx,.int .i64 hl,.int .i64 dl]),(3,.int .i64 hold),(4,.agg #[.int .u64 id,.int .u32 0,.int .u64 id,.int .u16 0,.int .u16 0]),(5,.int .i64 (-1)),(6,.agg #[.int .i64 ta,.int .i64 mx,.int .i64 hl,.int .i64 dl])] rfl #[.int .u64 id,.bool rst,.int .i64 ta,.int .i64 mx,.int .i64 hl,.int .i64 dl,.int .i64 hold,.int .u64 id,.int .u32 0,.int .u64 id,.int .u16 0,.int .u16 0,.int .i64 (-1),.int .i64 ta,.int .i64 mx,.int .i64 hl,.int .i64 dl,.slice none 0 0,.slice none 0 0,.slice none 0 0] (bl_br _ _ _ _ _ _ _)) hq2 ?_
  refine runL (i:=9) rfl rfl (by kernel_rfl) (fun K hK=>?_)
  refine wp_st_at rfl 35 _ _ rfl BB 0 _ #[.int .u64 id,.bool rst,.int .i64 ta,.int .i64 mx,.int .i64 hl,.int .i64 dl,.int .i64 hold,.int .u64 id,.int .u32 0,.int .u64 id,.int .u16 0,.int .u16 0,.int .i64 (-1),.int .i64 ta,.int .i64 mx,.int .i64 hl,.int .i64 dl,.slice none 0 0,.slice none 0 0,.slice none 0 0] BrZ #[.int .u64 id,.bool rst,.int .i64 ta,.int .i64 mx,.int .i64 hl,.int .i64 dl,.int .i64 hold,.int .u64 id,.int .u32 0,.int .u64 id,.int .u16 0,.int .u16 0,.int .i64 (-1),.int .i64 ta,.int .i64 mx,.int .i64 hl,.int .i64 dl,.slice none 0 0,.slice none 0 0,.slice none 0 0] 35 rfl rfl rfl hvb (by exact(by decide:0+20≤20)) (by kernel_rfl) rfl rfl (fun wz hrow hm=>?_)
  have hxz:Ext w1 wz:=Ext.mutE hq2 hm (fun j hj h=>by have h2:j=BB:=h;omega)
  refine hK.out _ _ hxz (fun _=>?_)
  try simp only[ps]
  clear hK K
  refine wpAnyH_done (by kernel_rfl) ?_ _
  go_wp2_with fail
  go_meet
  exact⟨BB,rfl,hrow,hxz,hbw⟩
theorem own_range{w:World}{base size n g cap:Nat}{e:TypeId}{xs:List Value}(h:w.ownsRow base e size (.slice (some ⟨g,0,none⟩) n cap) n xs):w.rangeAt g 0 xs:=fun j v hv=>by
 rcases h.2 with ⟨h0,-⟩|⟨g2,cap2,cur,e1,e2,e3,e4,e5,e6,e7⟩
 ·cases h0
 ·cases e1
  rw[Nat.zero_add,cell_of_row _ _ _ _ _ _ e3]
  rw[←e7,List.getElem?_take]at hv
  split at hv
  ·simpa using hv
  ·cases hv
def readB(w:World)(g n:Nat):List Bool:=(List.range n).map fun i=>match w.cell? ⟨g,i,none⟩with|some (.bool b)=>b|_=>false
theorem RowAt.ownG{w:World}{base n m:Nat}{e:TypeId}{v:Value}{xs:List Value}{f:Nat→List Value}(h:w.ownsRow base e m v n xs)(hn:n≤1000)(hxs:∀i,i<n→∀j x,(f i)[j]?=some x→xs[i*m+j]?=some x):RowAt w v n m f:=by
 obtain⟨a,cap,rfl⟩:=own_form2 h
 refine⟨a,cap,rfl,by omega,fun h0=>?_⟩
 rcases h.2 with ⟨e,e2⟩|⟨g,cap2,cur,e,hb,hg,hn2,hm,hs,ht⟩
 ·omega
 ·cases e
  refine⟨g,0,rfl,heap_lt hg,hn2,by unfold maxLen at hm;omega,fun i hi j v hv=>?_⟩
  have h2:=own_range h (i*m+j) v (hxs i hi j v hv)
  rw[Nat.zero_add]at h2 ⊢
  exact h2
def flatT(l:List Pt):List Value:=l.flatMap Pt.L
theorem PtsAt.own{w:World}{base:Nat}{e:TypeId}{v:Value}{L:List Pt}(h:w.ownsRow base e 5 v L.length (flatT L))(hL:L.length≤1000):PtsAt w v L :=
 RowAt.ownG h hL (fun i hi j x hx=>flat_at Pt.L 5 (fun _=>rfl) default L i j x hi hx)
theorem info_su:(Tryz.prog.info? 73).map (fun i=>(i.zero,i.size,i.bytes))=some (some (.agg SUZ),5,12):=by kernel_rfl
theorem bl_su(a b:Int)(x y z:Bool):Tryz.prog.built 73 [(0,.int .u16 a),(1,.int .u32 b),(2,.bool x),(3,.bool y),(4,.bool z)]=some #[.int .u16 a,.int .u32 b,.bool x,.bool y,.bool z]:=by kernel_rfl
theorem b1_su(a b:Int)(x y z:Bool):Instr.fill (fun i=>some (i*5,5)) ((Array.range (1*5)).map (SUZ[· % SUZ.size]!)) [(0,.agg #[.int .u16 a,.int .u32 b,.bool x,.bool y,.bool z])]=some #[.int .u16 a,.int .u32 b,.bool x,.bool y,.bool z]:=by kernel_rfl
theorem setups_any(w:World)(pv:Value)(P:List Pt)(hP:PtsAt w pv P)(hn:P.length≤40):Calls Tryz.prog 12 #[pv] w fun e w'=>∃v,e=.returned v∧PtsAt w' v P∧Ext w w':=by
 obtain⟨pa,pcap,hpe,hpm,hpf⟩:=hP
 obtain⟨n,hn0⟩:∃m,P.length=m:=⟨_,rfl⟩
 rw[hn0]at hpe hpm hpf hn
 subst hpe
 have HPF:=hD (show 0<n→∃b off,pa=some ⟨b,off,none⟩∧b<w.heap.size∧n≤pcap∧pcap≤9223372036854775807∧∀i,i<n→w.rangeAt b (off+i*5) (P.getD i default).L from hpf)
 have HNN:=hD hn0
 obtain⟨i3,hi9,hz9,hs9,hb9⟩:=info_parts info_su
 have I3:=hD (And.intro hi9 (And.intro hz9 (And.intro hs9 hb9)))
 clear hi9 hz9 hs9 hb9 hpf hn0 hpm
 go_enter Tryz.func12,Tryz.ntmps12
 go_wp2_with fail
 go_loopw [4,3] (fun s u wr=>∃(k:Nat) (v:Value) (wo:World),wo=wr∧v=u∧s=.int .i64 k∧k≤n∧wo.ownsRow w.heap.size 73 5 v k ((P.take k).flatMap Pt.L)∧Ext w wo) (fun s _ _=>n - (intOf s).toNat)
 case atStart=>exact⟨0,_,_,rfl,rfl,rfl,by omega,⟨by simp,.inl ⟨rfl,rfl⟩⟩,Ext.refl w⟩
 case round =>
  obtain⟨k,u,wo,rfl,rfl,rfl,hk,hown,hx⟩:=hrel
  rename World=>wl
  obtain⟨a3,c3,rfl⟩:=own_form2 hown
  have HO:=hD hown
  have HXL:=hD hx
  have HBL:=hD hx.size
  clear hown hx
  by_cases hlt:k<n
  ·have dlt:decide ((k:Int)<(n:Int))=true:=by simp;omega
   have hup:IntKind.i64.wrap ((k:Int)+1)=((k+1:Nat):Int):=by rw[IntKind.wrap_i64];omega
   obtain⟨pb,po,rfl,hpb,hcp1,hcp2,hp4⟩:=HPF.out (by omega)
   obtain⟨p,hp⟩:∃p,P.getD k default=p:=⟨_,rfl⟩
   have RS:=hD (show wl.rangeAt pb (po+k*5) p.L from by
    have h4:=rangeR_ext (hp4 k hlt) HXL.out hpb
    rw[hp]at h4
    exact h4)
   have HPB:=hD (show pb<wl.heap.size from nL hpb HBL.out)
   have HPW:=hD hpb
   have HTK:=hD (show(P.take (k+1)).flatMap Pt.L=(P.take k).flatMap Pt.L++p.L from by
    rw[take_snoc P default (by rw[HNN.out];exact hlt),hp,List.flatMap_append]
    simp)
   obtain⟨p1,p2,p3,p4,p5⟩:=p
   clear hp4 hp hpb
   go_wp2_with fail
   have HCELL:=hD (show ∀W',Mut (fun g=>Value.ownBlock (.slice a3 k c3)=some g) wl W'→∀p:Addr,p.block=pb→W'.cell? p=wl.cell? p from fun W' h p hp=>h.cell (p:=p) (by rw[hp];exact HPB.out) (fun h2=>by rw[hp]at h2;have h3:=(own_lt2 HO.out h2).1;have h4:=HPW.out;omega))
   refine beginL (S:=fun W'=>Mut (fun g=>Value.ownBlock (.slice a3 k c3)=some g) wl W') (by kernel_rfl) ?_
   intro wd hqx
   have hq0:Mut (fun g=>Value.ownBlock (.slice a3 k c3)=some g) wl wd:=hqx.mut _
   refine tLp 0 ((.slice a3 k c3)) rfl hq0 ?_
   refine tLp 1 ((.slice (some ⟨pb,po,none⟩) n pcap)) rfl hq0 ?_
   refine tLp 2 ((.int .i64 (k:Int))) rfl hq0 ?_
   refine tL 3 ((.pointer (some ⟨pb,po+k*5,none⟩))) rfl (Or.inl ⟨rfl,fun W' _=>by go_simp<;>(intro h;omega)⟩) hq0 ?_
   refine tLp 4 ((.pointer (some ⟨pb,po+k*5,none⟩))) rfl hq0 ?_
   refine tL 5 (_) rfl (yieldsIf_cell rfl 28 _ rfl ⟨pb,po+k*5,none⟩ rfl (.int .u16 p1) _ (fun W' hW'=>(show W'.cell? ⟨pb,po+k*5+0,none⟩=_ from(HCELL.out W' hW' ⟨pb,po+k*5+0,none⟩ rfl).trans (RS.out 0 _ rfl))) Tryz.underlying28 rfl) hq0 ?_
   refine tLp 6 ((.slice (some ⟨pb,po,none⟩) n pcap)) rfl hq0 ?_
   refine tLp 7 ((.int .i64 (k:Int))) rfl hq0 ?_
   refine tL 8 ((.pointer (some ⟨pb,po+k*5,none⟩))) rfl (Or.inl ⟨rfl,fun W' _=>by go_simp<;>(intro h;omega)⟩) hq0 ?_
   refine tLp 9 ((.pointer (some ⟨pb,po+k*5+1,none⟩))) rfl hq0 ?_
   refine tL 10 (_) rfl (yieldsIf_cell rfl 27 _ rfl ⟨pb,po+k*5+1,none⟩ rfl (.int .u32 p2) _ (fun W' hW'=>(show W'.cell? ⟨pb,po+k*5+1,none⟩=_ from(HCELL.out W' hW' ⟨pb,po+k*5+1,none⟩ rfl).trans (RS.out 1 _ rfl))) Tryz.underlying27 rfl) hq0 ?_
   refine tLp 11 ((.slice (some ⟨pb,po,none⟩) n pcap)) rfl hq0 ?_
   refine tLp 12 ((.int .i64 (k:Int))) rfl hq0 ?_
   refine tL 13 ((.pointer (some ⟨pb,po+k*5,none⟩))) rfl (Or.inl ⟨rfl,fun W' _=>by go_simp<;>(intro h;omega)⟩) hq0 ?_
   refine tLp 14 ((.pointer (some ⟨pb,po+k*5+2,none⟩))) rfl hq0 ?_
   refine tL 15 (_) rfl (yieldsIf_cell rfl 4 _ rfl ⟨pb,po+k*5+2,none⟩ rfl (.bool p3) _ (fun W' hW'=>(show W'.cell? ⟨pb,po+k*5+2,none⟩=_ from(HCELL.out W' hW' ⟨pb,po+k*5+2,none⟩ rfl).trans (RS.out 2 _ rfl))) Tryz.underlying4 rfl) hq0 ?_
   refine tLp 16 ((.slice (some ⟨pb,po,none⟩) n pcap)) rfl hq0 ?_
   refine tLp 17 ((.int .i64 (k:Int))) rfl hq0 ?_
   refine tL 18 ((.pointer (some ⟨pb,po+k*5,none⟩))) rfl (Or.inl ⟨rfl,fun W' _=>by go_simp<;>(intro h;omega)⟩) hq0 ?_
   refine tLp 19 ((.pointer (some ⟨pb,po+k*5+3,none⟩))) rfl hq0 ?_
   refine tL 20 (_) rfl (yieldsIf_cell rfl 4 _ rfl ⟨pb,po+k*5+3,none⟩ rfl (.bool p4) _ (fun W' hW'=>(show W'.cell? ⟨pb,po+k*5+3,none⟩=_ from(HCELL.out W' hW' ⟨pb,po+k*5+3,none⟩ rfl).trans (RS.out 3 _ rfl))) Tryz.underlying4 rfl) hq0 ?_
   refine tLp 21 ((.slice (some ⟨pb,po,none⟩) n pcap)) rfl hq0 ?_
   refine tLp 22 ((.int .i64 (k:Int))) rfl hq0 ?_
   refine tL 23 ((.pointer (some ⟨pb,po+k*5,none⟩))) rfl (Or.inl ⟨rfl,fun W' _=>by go_simp<;>(intro h;omega)⟩) hq0 ?_
   refine tLp 24 ((.pointer (some ⟨pb,po+k*5+4,none⟩))) rfl hq0 ?_
   refine tL 25 (_) rfl (yieldsIf_cell rfl 4 _ rfl ⟨pb,po+k*5+4,none⟩ rfl (.bool p5) _ (fun W' hW'=>(show W'.cell? ⟨pb,po+k*5+4,none⟩=_ from(HCELL.out W' hW' ⟨pb,po+k*5+4,none⟩ rfl).trans (RS.out 4 _ rfl))) Tryz.underlying4 rfl) hq0 ?_
   refine tL 26 ((.agg #[.int .u16 p1,.int .u32 p2,.bool p3,.bool p4,.bool p5])) rfl (yieldsIf_build rfl 73 _ rfl [(0,.int .u16 p1),(1,.int .u32 p2),(2,.bool p3),(3,.bool p4),(4,.bool p5)] rfl #[.int .u16 p1,.int .u32 p2,.bool p3,.bool p4,.bool p5] (bl_su _ _ _ _ _)) hq0 ?_
   refine runL (i:=27) rfl rfl (by kernel_rfl) (fun K hK=>?_)
   refine wp_buildSlice 38 73 1 _ rfl #[.int .u16 p1,.int .u32 p2,.bool p3,.bool p4,.bool p5] i3 (.agg SUZ) Tryz.underlying38 I3.out.1 I3.out.2.1 (by rw[I3.out.2.2.1];decide) (by rw[I3.out.2.2.1];decide) (by rw[I3.out.2.2.1,Array.toList_map];exact b1_su _ _ _ _ _) ?_
   have hy:Ext wd (wd.alloc (.cells #[.int .u16 p1,.int .u32 p2,.bool p3,.bool p4,.bool p5] 73)):=(Ext.refl _).alloc _
   have hnw:=heap_alloc_new wd (.cells #[.int .u16 p1,.int .u32 p2,.bool p3,.bool p4,.bool p5] 73)
   obtain⟨wn,hwa⟩:∃W,wd.alloc (.cells #[.int .u16 p1,.int .u32 p2,.bool p3,.bool p4,.bool p5] 73)=W:=⟨_,rfl⟩
   obtain⟨bn,hnb⟩:∃m,wd.heap.size=m:=⟨_,rfl⟩
   rw[hwa]at hnw hy ⊢
   rw[hnb]at hnw ⊢
   clear hwa hnb
   have hxn:Ext wl wn:=hqx.trans hy
   have hO2:=ownR_ext HO.out hxn
   have hbw:w.heap.size≤wn.heap.size:=Nat.le_trans HBL.out hxn.size
   refine hK.out _ _ (hxn.mut _) (fun _=>?_)
   try simp only[ps]
   clear hK K
   refine runL (i:=28) rfl rfl (by kernel_rfl) (fun K hK=>?_)
   refine oper_append_own_at _ _ 38 rfl w.heap.size 73 i3 (.agg SUZ) 5 12 Tryz.underlying38 I3.out.1 I3.out.2.1 I3.out.2.2.1 I3.out.2.2.2 rfl (by decide) (.slice a3 k c3) k ((P.take k).flatMap Pt.L) rfl hO2 ⟨bn,0,none⟩ 1 1 [.int .u16 p1,.int .u32 p2,.bool p3,.bool p4,.bool p5] rfl rfl ?hnews (fun u hu=>by
       have hu2:=hu
       simp only[List.mem_cons,List.not_mem_nil,or_false]at hu2
       rcases hu2 with rfl|rfl|rfl|rfl|rfl<;>rfl) (by unfold maxLen;omega) (by omega) hbw ?hfin
   case hnews=>exact fun j u hu=>World.news_of_block hnw j u (by simpa using hu)
   case hfin =>
   intro v6 wa ho6 hg6 hloc
   have hfr:Mut (fun g=>Value.ownBlock (.slice a3 k c3)=some g) wl wa:=(hxn.mut _).trans (grown_mut hg6)
   obtain⟨a6,c6,rfl⟩:=own_form2 ho6
   have HO6:=hD (show wa.ownsRow w.heap.size 73 5 (.slice a6 (k+1) c6) (k+1) ((P.take (k+1)).flatMap Pt.L)from by rw[HTK.out];exact ho6)
   have HX6:=hD (show Ext w wa from HXL.out.mutE hfr (fun g h1 h2=>by have h3:=(own_lt2 HO.out h2).1;omega))
   refine hK.out _ _ hfr (fun _=>?_)
   try simp only[ps]
   clear hK K
   refine tLp 29 ((.slice a6 (k+1) c6)) rfl hfr ?_
   clear hfr hloc ho6 hg6 hbw hO2 hxn hy hnw hq0 hqx
   refine wpAnyH_done (by kernel_rfl) ?_ _
   go_wp2_with fail
   go_roundw
   case rel=>exact⟨k+1,_,_,rfl,rfl,by go_num,hlt,HO6.out,HX6.out⟩
   case measure=>simp[intOf];omega
  ·have dlt:decide ((k:Int)<(n:Int))=false:=by simp;omega
   obtain rfl:n=k:=by omega
   have hown:=HO.out
   rw[List.take_of_length_le (by rw[HNN.out];exact Nat.le_refl _)]at hown
   have HP:=hD (show PtsAt wl (.slice a3 n c3) P from by
    have h2:=hown
    rw[←HNN.out]at h2 ⊢
    exact PtsAt.own h2 (by rw[HNN.out];omega))
   clear hown
   go_wp2_with fail
   go_ret
   exact⟨_,rfl,HP.out,HXL.out⟩
theorem wp_st_all{P:Program}{op:Oper}{a:Act}{w:World}{K:Act→World→Prop}{Q:Exit→Act→World→Prop}(hdst:op.dst=none)(ty:TypeId)(x y:Operand)(ho:op.op=.store ty x y)(g:Nat)(vs cs:Array Value)(t:TypeId)(hx:a.eval x=.pointer (some ⟨g,0,none⟩))(hy:a.eval y=.agg vs)(hX:w.heap[g]?=some (.cells cs t (0,0)))(hn:vs.size=cs.size)(hi:(P.info? ty).map (·.size)=some cs.size)(h1:vs.toList.all (·.oneCell')=true)(h:∀w',w'.heap[g]?=some (.cells vs t (0,0))→Mut (fun n=>n=g) w w'→K a w'):op.wp P a w K Q :=
 wp_st_at hdst ty x y ho g 0 (.agg vs) vs cs vs t hx hy rfl hX (by omega) (by rw[hn];exact hi) h1 (by
  rw[List.drop_eq_nil_of_le (by rw[Array.length_toList];omega)]
  simp) h
theorem st_all{P:Program}{ops:Array Oper}{rest:List Oper}{op:Oper}{a:Act}{w:World}{Q:Exit→Act→World→Prop}(hgd:op.guard=none)(hdst:op.dst=none)(ty:TypeId)(x y:Operand)(ho:op.op=.store ty x y)(g:Nat)(vs cs:Array Value)(t:TypeId)(hx:a.eval x=.pointer (some ⟨g,0,none⟩))(hy:a.eval y=.agg vs)(hX:w.heap[g]?=some (.cells cs t (0,0)))(hn:vs.size=cs.size)(hi:(P.info? ty).map (·.size)=some cs.size)(h1:vs.toList.all (·.oneCell')=true)(h:∀w',w'.heap[g]?=some (.cells vs t (0,0))→Mut (fun n=>n=g) w w'→wpList P ops Q rest a w'):wpList P ops Q (op :: rest) a w :=
 st_at hgd hdst ty x y ho g 0 (.agg vs) vs cs vs t hx hy rfl hX (by omega) (by rw[hn];exact hi) h1 (by
  rw[List.drop_eq_nil_of_le (by rw[Array.length_toList];omega)]
  simp) h
def zB:Br:=⟨[.int .u64 0,.bool false,.int .i64 0,.int .i64 0,.int .i64 0,.int .i64 0,.int .i64 0,.int .u64 0,.int .u32 0,.int .u64 0,.int .u16 0,.int .u16 0,.int .i64 0,.int .i64 0,.int .i64 0,.int .i64 0,.int .i64 0],0,[],0,[],0,[]⟩
def pick(ok:Bool)(B:Br):Br:=if ok=true then B else zB
theorem NewIs.sz{w w':World}{c:Array Value}{ok rst:Bool}{id ta mx hl dl hold:Int}{P:List Pt}(h:NewIs w w' c ok (newA id rst ta mx hl dl hold P)):c.size=20∧c.toList.all (·.oneCell')=true:=by
 rcases h with ⟨rfl,u,rfl,hown⟩|⟨rfl,rfl⟩
 ·obtain⟨a,cp,rfl⟩:=own_form2 hown
  exact⟨rfl,rfl⟩
 ·exact⟨rfl,rfl⟩
theorem port_any{N:Nat→Prop}{X g k:Nat}{w:World}{B:Br}(h:WB N X g B w)(ho:B.ok)(hk:k<B.np)(hn:B.np≤1000):Calls Tryz.prog 27 #[.pointer (some ⟨X,0,none⟩),.int .i64 (k:Int)] w fun e w'=>e=.returned (.pointer (some ⟨g,k*89,none⟩))∧w=w':=by
 obtain⟨cap,c17,hc1,hc2⟩:=BrG.cell17 h ho
 have d0:decide ((k:Int)<0)=false:=by simp
 have d1:decide ((k:Int)≥(B.np:Int))=false:=by simp;omega
 go_enter Tryz.func27,Tryz.ntmps27
 go_wp2_with fail
 go_ret
 exact⟨by simp,rfl⟩
theorem WB.setp{N:Nat→Prop}{X g k j:Nat}{w:World}{B:Br}(h:WB N X g B w)(hk:k<B.np)(hj:j<89)(v:Value):WB N X g (B.setp k j v) (w.setCell ⟨g,k*89+j,none⟩ v) :=
 (BrG.setp h hk hj v).mono (fun n hn=>by simpa using hn)
theorem enable_any{N:Nat→Prop}{X g k:Nat}{w:World}{B:Br}(h:WB N X g B w)(ho:B.ok)(hk:k<B.np)(hn:B.np≤1000)(b:Bool):Calls Tryz.prog 18 #[.pointer (some ⟨X,0,none⟩),.int .i64 (k:Int),.bool b] w (So N X g (fun d B'=>(B.gb k 2=b∧d=false∧B'=B)∨(B.gb k 2≠b∧d=true∧B'=B.setp k 2 (.bool b))) w):=by
 have c2:w.cell? ⟨g,k*89+2,none⟩=some (.bool (B.gb k 2)):=(BrG.cellg h (i:=k*89+2) (by omega)).trans (ho.gb hk 2 rfl)
 have f2:w.frozen? ⟨g,k*89+2,none⟩=false:=BrG.frozen h (k*89+2)
 have HP:=hD (port_any h ho hk hn)
 have H:=hD h
 obtain⟨x,hx⟩:∃x,B.gb k 2=x:=⟨_,rfl⟩
 rw[hx]at c2 ⊢
 clear h hx
 go_enter Tryz.func18,Tryz.ntmps18
 go_wp2_with fail
 refine HP.out.mono ?_
 rintro e w' ⟨rfl,rfl⟩
 clear HP
 cases x<;>cases b
 ·go_wp2_with fail
  go_ret
  exact⟨_,_,rfl,H.out,Mut.refl _ w,by simp⟩
 ·go_wp2_with fail
  go_ret
  exact⟨_,_,rfl,WB.setp H.out hk (by decide) _,(Mut.refl _ w).setCell (.inl (BrG.F2 H.out).1) _,.inr ⟨by decide,rfl,rfl⟩⟩
 ·go_wp2_with fail
  go_ret
  exact⟨_,_,rfl,WB.setp H.out hk (by decide) _,(Mut.refl _ w).setCell (.inl (BrG.F2 H.out).1) _,.inr ⟨by decide,rfl,rfl⟩⟩
 ·go_wp2_with fail
  go_ret
  exact⟨_,_,rfl,H.out,Mut.refl _ w,by simp⟩
theorem WB.ext{N:Nat→Prop}{X g:Nat}{w w':World}{B:Br}(h:WB N X g B w)(hx:Ext w w'):WB N X g B w' :=
 (BrG.ext h hx).mono (fun n hn=>⟨hn.1,nL hn.2 hx.size⟩)
theorem hear_any{N:Nat→Prop}{X g:Nat}{w:World}{B:Br}(h:WB N X g B w)(ho:B.ok)(hn:B.np<1000)(i:Int){m:List Value}(hm:Typed ML m):Calls Tryz.prog 20 #[.pointer (some ⟨X,0,none⟩),.int .i64 i,.agg m.toArray] w (So N X g (fun d B'=>B'=(takeF B i m).2) w):=by
 have hml:m.length=17:=hm.1
 have HM:=hD hm
 have HI:=hD (show(Tryz.prog.info? 46).map (·.size)=some m.toArray.size by rw[List.size_toArray,hml];exact size_msg)
 have H:=hD h
 clear h
 go_enter Tryz.func20,Tryz.ntmps20
 go_wp2_with (first
  | fail
  | ((with_reducible refine at_box 46 ?_);refine bx_row rfl 46 _ rfl m.toArray rfl ?_
     intro Y w1 hY hsz hx1
     have HY:=hD hY
     have HX:=hD hx1
     clear hY hsz hx1)
  | ((with_reducible refine at_load 46 ?_);refine wpList_load_row rfl 46 _ rfl Y rfl 46 m.toArray (0,0) _ HY.out Tryz.underlying46 rfl HI.out ?_))
 refine(rxt_take w1 _ X g B (WB.ext H.out HX.out) ho m HM.out hn i).mono ?_
 rintro e w2 hh
 obtain⟨d,B',rfl,hB,hm2,hR⟩:=So.of (R:=fun d B'=>B'=(takeF B i m).2) hh rfl
 have HB:=hD hB
 have HMU:=hD ((HX.out.mut _).trans hm2)
 clear hB hm2 hh
 go_wp2_with fail
 go_ret
 exact⟨d,B',rfl,HB.out,HMU.out,hR⟩
def zd:Br:=z0.setp 0 2 (.bool false)
theorem zd_ok:zd.ok:=z0_ok.setp (k:=0) (j:=2) (by decide) (by decide) (fun c hc=>by cases hc;exact⟨_,rfl⟩)
theorem zd_up:zd.setp 0 2 (.bool true)=z0:=by kernel_rfl
def TmW:Array Value:=#[.int .i64 0,.int .i64 20,.int .i64 2,.int .i64 15]
def TmZ:Array Value:=#[.int .i64 0,.int .i64 0,.int .i64 0,.int .i64 0]
theorem bl_tw:Tryz.prog.built 24 [(1,.int .i64 20),(2,.int .i64 2),(3,.int .i64 15)]=some TmW:=by kernel_rfl
theorem zero_tw:∀w,(zeroValue 24).run Tryz.prog w=.ok (.agg TmZ) w:=(zero_of_info (P:=Tryz.prog) (t:=24) (v:=.agg TmZ) (n:=4) (by kernel_rfl)).1
theorem bl_s1:Tryz.prog.built 73 [(0,.int .u16 1),(1,.int .u32 5),(3,.bool true)]=some #[.int .u16 1,.int .u32 5,.bool false,.bool true,.bool false]:=by kernel_rfl
theorem new_1:newA 7 true 0 20 2 15 6 [⟨1,5,false,true,false⟩]=zd:=by kernel_rfl
theorem right_1{P:List Pt}(h:P.length≤32):RightP (newA 7 true 0 20 2 15 6 P):=(newB_right (id:=7) (hold:=6) (rst:=true) (P:=P) h).2 (by omega)
theorem at_slc{P:Program}{ops:Array Oper}{rest:List Oper}{a:Act}{w:World}{Q:Exit→Act→World→Prop}(T:TypeId){d:Option Tmp}{n:Nat}{x:Array (Nat × Operand)}{ty:TypeId}{pos:String}{af:Array Edge}(h:wpList P ops Q ({ dst:=d,op:=.buildSlice T n x,type:=ty,pos:=pos,after:=af,guard:=none } :: rest) a w):wpList P ops Q ({ dst:=d,op:=.buildSlice T n x,type:=ty,pos:=pos,after:=af,guard:=none } :: rest) a w:=h
theorem wb_new{w:World}{N:Nat→Prop}{X base:Nat}{u:Value}{B:Br}(hX:w.heap[X]?=some (.cells (B.hd++[u,.slice none 0 0,.slice none 0 0]).toArray 35 (0,0)))(ho:w.ownsRow base 60 89 u B.np B.ps)(hp:0<B.np)(hb:∀n,base≤n→N n)(hNX:N X)(h0:B.no=0∧B.os=[]∧B.nf=0∧B.fl=[]):∃g,WB N X g B w:=by
 obtain⟨h1,h2,h3,h4⟩:=h0
 rcases ho.2 with ⟨e,e2⟩|⟨g,cap,cur,rfl,hb2,hg,hn2,hm,hs,ht⟩
 ·omega
 ·refine⟨g,⟨hNX,heap_lt hX⟩,⟨hb _ (by omega),heap_lt hg⟩,cap,cur,_,_,hX,hg,hs,hn2,hm,ht,?_,?_,fun h hh=>(by cases hh),fun h hh=>(by cases hh)⟩
  ·rw[h1,h2];exact⟨by simp,.inl ⟨rfl,rfl⟩⟩
  ·rw[h3,h4];exact⟨by simp,.inl ⟨rfl,rfl⟩⟩
theorem awake_any(w:World):Calls Tryz.prog 10 #[] w fun e w'=>e=.returned (.bool true)∧Ext w w':=by
 obtain⟨i3,hi9,hz9,hs9,hb9⟩:=info_parts info_su
 have I3:=hD (And.intro hi9 (And.intro hz9 (And.intro hs9 hb9)))
 clear hi9 hz9 hs9 hb9
 go_enter Tryz.func10,Tryz.ntmps10
 go_wp2_with (first
  | fail
  | ((with_reducible refine at_build 24 ?_);refine wpList_build2 rfl 24 _ rfl _ rfl _ bl_tw ?_)
  | ((with_reducible refine at_alloc 24 ?_);refine al_zero rfl 24 rfl TmZ zero_tw ?_
     intro Y w1 hq hsz hx)
  | ((with_reducible refine at_store 24 ?_);refine st_at rfl rfl 24 _ _ rfl Y 0 _ TmW TmZ TmW 24 rfl rfl rfl hq (by exact(by decide:0+4≤4)) (by kernel_rfl) rfl rfl ?_
     intro w2 hq2 hm2
     have HY:=hD hq2
     have HX:=hD (show Ext w w2 from hx.mutE hm2 (fun g hg h=>by have h2:g=Y:=h;omega))
     clear hq hsz hx hq2 hm2 w1)
  | ((with_reducible refine at_load 24 ?_);refine wpList_load_row rfl 24 _ rfl Y rfl 24 TmW (0,0) _ HY.out Tryz.underlying24 rfl size_tm ?_))
 refine(newbr_gen 7 0 20 2 15 6 true (.slice none 0 0) [] w2 ⟨none,0,rfl,by decide,fun h=>absurd h (by decide)⟩ (by decide) (by decide) (by decide) (fun p hp=>by cases hp) rfl rfl rfl rfl).mono ?_
 rintro e w3 ⟨c,ok,rfl,hok,hnew,hx3⟩
 obtain rfl:ok=true:=hok.2 (right_1 (by decide))
 rcases hnew with ⟨-,u,rfl,hown⟩|⟨h,-⟩
 case inr=>cases h
 obtain⟨a,cp,rfl⟩:=own_form2 hown
 have HY3:=hD ((hx3.block Y (heap_lt HY.out)).trans HY.out)
 have HX3:=hD (HX.out.trans hx3)
 clear hok hown hx3 HX HY
 go_wp2_with (first
  | fail
  | ((with_reducible refine at_alloc 35 ?_);refine al_zero rfl 35 rfl BrZ zero_br ?_
     intro X w4 hq hsz hx)
  | ((with_reducible refine at_store 35 ?_);refine st_at rfl rfl 35 _ _ rfl X 0 _ #[.int .u64 7,.bool true,.int .i64 0,.int .i64 20,.int .i64 2,.int .i64 15,.int .i64 6,.int .u64 7,.int .u32 0,.int .u64 7,.int .u16 0,.int .u16 0,.int .i64 (-1),.int .i64 0,.int .i64 20,.int .i64 2,.int .i64 15,.slice a 0 cp,.slice none 0 0,.slice none 0 0] BrZ #[.int .u64 7,.bool true,.int .i64 0,.int .i64 20,.int .i64 2,.int .i64 15,.int .i64 6,.int .u64 7,.int .u32 0,.int .u64 7,.int .u16 0,.int .u16 0,.int .i64 (-1),.int .i64 0,.int .i64 20,.int .i64 2,.int .i64 15,.slice a 0 cp,.slice none 0 0,.slice none 0 0] 35 rfl rfl rfl hq (by exact(by decide:0+20≤20)) (by kernel_rfl) rfl rfl ?_
     intro w5 hq5 hm5
     have c17:w5.cell? ⟨X,17,none⟩=some (.slice a 0 cp):=by rw[cell_row hq5];rfl
     have hx5:Ext w3 w5:=hx.mutE hm5 (fun g hg h=>by have h2:g=X:=h;omega)
     have HY5:=hD ((hx5.block Y (heap_lt HY3.out)).trans HY3.out)
     have HX5:=hD (HX3.out.trans hx5)
     clear hq hsz hx hq5 hm5 hx5 HY3 HX3 w4))
 refine(none_run w5 X c17).mono ?_
 rintro e w' ⟨rfl,rfl⟩
 clear c17
 go_wp2_with (first
  | fail
  | ((with_reducible refine at_load 24 ?_);refine wpList_load_row rfl 24 _ rfl Y rfl 24 TmW (0,0) _ HY5.out Tryz.underlying24 rfl size_tm ?_)
  | ((with_reducible refine at_build 73 ?_);refine wpList_build2 rfl 73 _ rfl _ rfl _ bl_s1 ?_)
  | ((with_reducible refine at_slc 38 ?_);refine wpList_buildSlice rfl 38 73 1 _ rfl #[.int .u16 1,.int .u32 5,.bool false,.bool true,.bool false] i3 (.agg SUZ) Tryz.underlying38 I3.out.1 I3.out.2.1 (by rw[I3.out.2.2.1];decide) (by rw[I3.out.2.2.1];decide) (by rw[I3.out.2.2.1,Array.toList_map];exact b1_su _ _ _ _ _) ?_
     have hq6:=heap_alloc_new w5 (.cells #[.int .u16 1,.int .u32 5,.bool false,.bool true,.bool false] 73)
     have hx6:Ext w5 (w5.alloc (.cells #[.int .u16 1,.int .u32 5,.bool false,.bool true,.bool false] 73)):=(Ext.refl _).alloc _
     obtain⟨V,hV⟩:∃Z,w5.heap.size=Z:=⟨_,rfl⟩
     rw[hV]at hq6 ⊢
     obtain⟨w6,hw6⟩:∃W,w5.alloc (.cells #[.int .u16 1,.int .u32 5,.bool false,.bool true,.bool false] 73)=W:=⟨_,rfl⟩
     rw[hw6]at hq6 hx6 ⊢
     have HX6:=hD (HX5.out.trans hx6)
     have HQ6:=hD hq6
     clear hw6 hV hx6 hq6 HX5 HY5))
 refine (newbr_gen 7 0 20 2 15 6 true (.slice (some ⟨V,0,none⟩) 1 1) [⟨1,5,false,true,false⟩] w6 ⟨_,1,rfl,by decide,fun _=>⟨V,0,rfl,heap_lt HQ6.out,by decide,by decide,fun i hi=>?hr⟩⟩ (by decide) (by decide) (by decide) (fun p hp=>by
  obtain rfl:p=⟨1,5,false,true,false⟩:=by simpa using hp
  exact⟨by decide,by decide,by decide⟩) rfl rfl rfl rfl).mono ?_
 case hr =>
  obtain rfl:i=0:=by have h1:i<1:=hi;omega
  intro j v hv
  rw[show(0+0*5+j)=j from by omega,cell_row HQ6.out,List.getElem?_toArray]
  exact hv
 rintro e w7 ⟨c,ok,rfl,hok,hnew,hx7⟩
 obtain rfl:ok=true:=hok.2 (right_1 (by decide))
 have HSZ:=hD hnew.sz
 rcases hnew with ⟨-,u,hc,hown⟩|⟨h,-⟩
 case inr=>cases h
 rw[new_1]at hown hc
 have HC:=hD hc
 have HO7:=hD hown
 have HX7:=hD hx7
 clear hok hown hx7 HQ6 hc
 go_wp2_with (first
  | fail
  | ((with_reducible refine at_alloc 35 ?_);refine al_zero rfl 35 rfl BrZ zero_br ?_
     intro X w8 hq hsz hx)
  | ((with_reducible refine at_store 35 ?_);refine st_all rfl rfl 35 _ _ rfl X c BrZ 35 rfl rfl hq HSZ.out.1 size_brg HSZ.out.2 ?_
     intro w9 hq9 hm9
     have HQ9:=hD hq9
     have HO9:=hD (own_mut (ownR_ext HO7.out hx) hm9 (fun g h1 h2=>by have h3:g=X:=h2;have h4:=(own_lt2 HO7.out h1).2;omega))
     have HX9:=hD (show Ext w6 w9 from HX7.out.trans (hx.mutE hm9 (fun g hg h=>by have h2:g=X:=h;omega)))
     have HXN:=hD (show w6.heap.size≤X from by have:=HX7.out.size;omega)
     clear hq hsz hx hq9 hm9 HO7 HX7))
 obtain⟨g,hB⟩:=wb_new (N:=fun n=>w6.heap.size≤n) (B:=zd) (HC.out▸HQ9.out) HO9.out (by decide) (fun n hn=>hn) HXN.out ⟨rfl,rfl,rfl,rfl⟩
 clear HQ9 HO9 HXN HC HSZ
 obtain⟨N,hN⟩:∃N,w6.heap.size=N:=⟨_,rfl⟩
 rw[hN]at hB
 have HN9:=hD (show N≤w9.heap.size from by rw[←hN];exact HX9.out.size)
 refine(enable_any (k:=0) hB zd_ok (by decide) (by decide) true).mono ?_
 rintro e w10 ⟨d,B',rfl,hB10,hm10,hR⟩
 rcases hR with ⟨h,-⟩|⟨-,rfl,rfl⟩
 ·exact absurd h (by decide +kernel)
 rw[zd_up]at hB10
 clear hB
 go_wp2_with fail
 refine(run_1 (fun n hn=>by have h1:=HN9.out;have h2:=hm10.size;show N≤n;omega) hB10).mono ?_
 rintro e w11 ⟨k,rfl,hB11,hm11⟩
 obtain⟨cap,c17,hc1,hc2⟩:=BrG.cell17 hB11 z14_ok
 rw[show(z14).np=1 from rfl]at c17 hc1
 have c87:w11.cell? ⟨g,87,none⟩=some (.int .i64 4):=(BrG.cellg hB11 (i:=87) (by decide)).trans rfl
 have c27:w11.cell? ⟨g,27,none⟩=some (.bool true):=(BrG.cellg hB11 (i:=27) (by decide)).trans rfl
 have HE:=hD (show Ext w w11 from(HX6.out.trans HX9.out).mutE (hm10.trans hm11) (fun j hj h=>by have h2:N≤j:=h;have h3:=HX6.out.size;omega))
 clear hB10 hB11 hm10 hm11
 go_wp2_with fail
 go_ret
 exact⟨rfl,HE.out⟩
structure PA (B:Br) (i:Nat):Prop where
 b2:B.gb i 2=false
 b35:B.gb i 35=false
 b36:B.gb i 36=false
 g6:B.gi i 6=3
 g15:B.gi i 15=0
 g9:B.gi i 9=3
 g16:B.gi i 16=0
 ed:(B.gb i 32=true∧B.gb i 4=true∧B.gi i 17=0)∨(B.gb i 4=false∧B.gi i 17=1)
 g86:B.gi i 86=0
 g18:B.gi i 18=0
 b43:B.gb i 43=false
 b44:B.gb i 44=true
 b50:B.gb i 50=false
 g88:B.gi i 88=0
 g87:B.gi i 87=0
 b29:B.gb i 29=false
 b28:B.gb i 28=false
 b27:B.gb i 27=false
 g20:B.gi i 20=0
 g21:B.gi i 21=0
 g8:B.gi i 8=2
def AU(j:Nat):Bool:=j == 7 || j == 12 || j == 47 || j == 46 || j == 42 || j == 19 || j == 25
theorem Fr.gb{A:Nat→Bool}{B C:Br}(h:Fr A B C)(i:Nat){j:Nat}(hj:j<89)(hA:A j=false):C.gb i j=B.gb i j:=by
 unfold Br.gb
 rw[h.ps i j hj hA]
theorem PA.fr{B C:Br}{i:Nat}(h:PA B i)(hf:Fr AU B C):PA C i:=by
 have g:∀j,j<89→AU j=false→C.gi i j=B.gi i j:=fun j hj hA=>hf.gi i hj hA
 have b:∀j,j<89→AU j=false→C.gb i j=B.gb i j:=fun j hj hA=>hf.gb i hj hA
 refine⟨?_,?_,?_,?_,?_,?_,?_,?_,?_,?_,?_,?_,?_,?_,?_,?_,?_,?_,?_,?_,?_⟩
 ·rw[b 2 (by decide) (by decide)];exact h.b2
 ·rw[b 35 (by decide) (by decide)];exact h.b35
 ·rw[b 36 (by decide) (by decide)];exact h.b36
 ·rw[g 6 (by decide) (by decide)];exact h.g6
 ·rw[g 15 (by decide) (by decide)];exact h.g15
 ·rw[g 9 (by decide) (by decide)];exact h.g9
 ·rw[g 16 (by decide) (by decide)];exact h.g16
 ·rw[b 32 (by decide) (by decide),b 4 (by decide) (by decide),g 17 (by decide) (by decide)];exact h.ed
 ·rw[g 86 (by decide) (by decide)];exact h.g86
 ·rw[g 18 (by decide) (by decide)];exact h.g18
 ·rw[b 43 (by decide) (by decide)];exact h.b43
 ·rw[b 44 (by decide) (by decide)];exact h.b44
 ·rw[b 50 (by decide) (by decide)];exact h.b50
 ·rw[g 88 (by decide) (by decide)];exact h.g88
 ·rw[g 87 (by decide) (by decide)];exact h.g87
 ·rw[b 29 (by decide) (by decide)];exact h.b29
 ·rw[b 28 (by decide) (by decide)];exact h.b28
 ·rw[b 27 (by decide) (by decide)];exact h.b27
 ·rw[g 20 (by decide) (by decide)];exact h.g20
 ·rw[g 21 (by decide) (by decide)];exact h.g21
 ·rw[g 8 (by decide) (by decide)];exact h.g8
def Oth(k:Nat)(B C:Br):Prop:=∀i j,i≠k→j<89→C.ps[i*89+j]?=B.ps[i*89+j]?
theorem Oth.setp{k j:Nat}{B C:Br}{v:Value}(h:Oth k B C)(hj:j<89):Oth k B (C.setp k j v):=fun i j' hi hj'=>by
 show(C.ps.set (k*89+j) v)[i*89+j']?=_
 rw[List.getElem?_set_ne (by omega)]
 exact h i j' hi hj'
def T1(B:Br)(i:Nat):Prop:=B.gi i 19=1∧B.gi i 7=20∧B.gb i 46=false∧B.gb i 42=false∧B.gb i 47=true
theorem Oth.t0{k i:Nat}{B C:Br}(h:Oth k B C)(hi:i≠k)(ht:B.gi i 19=0):C.gi i 19=0:=by
 unfold Br.gi at ht ⊢
 rw[h i 19 hi (by decide)]
 exact ht
theorem Oth.t1{k i:Nat}{B C:Br}(h:Oth k B C)(hi:i≠k)(ht:T1 B i):T1 C i:=by
 unfold T1 Br.gi Br.gb at ht ⊢
 rw[h i 19 hi (by decide),h i 7 hi (by decide),h i 46 hi (by decide),h i 42 hi (by decide),h i 47 hi (by decide)]
 exact ht
theorem Oth.f{k i:Nat}{B C:Br}(h:Oth k B C)(hi:i≠k){x:Bool}(ht:B.gb i 25=x):C.gb i 25=x:=by
 unfold Br.gb at ht ⊢
 rw[h i 25 hi (by decide)]
 exact ht
section
variable {B:Br} {k:Nat}
theorem un_rx(h:PA B k):rxF B k=(false,B):=by
 unfold rxF rxS rxSel
 rw[h.b2,h.b35,h.g6]
 rfl
theorem un_mig(h:PA B k):migF B k=(false,B):=by
 unfold migF
 rw[if_pos h.g16]
 unfold mh1 mh2
 rw[h.g9,h.b2]
 rfl
theorem un_edge(h:PA B k):edgeF B k=(false,B):=by
 unfold edgeF
 rcases h.ed with ⟨a,b,c⟩|⟨b,c⟩
 ·rw[if_pos c]
  unfold el0
  rw[a,b]
  simp
 ·rw[if_neg (by rw[c];decide),if_pos c]
  unfold el1
  rw[h.b2,b,h.g6]
  rfl
theorem un_inf(ho:B.ok)(hk:k<B.np)(h:PA B k):infF B k=(false,B):=by
 have hl:=tpL (br_typed ho hk)
 have e:irowL (port B.ps k)=0:=by
  unfold irowL irowB
  rw[pB_port (by decide),pI_port (by decide),pI_port (by decide),pB_port (by decide),pB_port (by decide),pB_port (by decide),pI_port (by decide),h.b2,h.g86,h.g18,h.b36,h.b44,h.b50]
  rfl
 unfold infF infL
 rw[e]
 refine Prod.ext rfl ?_
 show B.setPort k (port B.ps k)=B
 exact setPort_self (len89 ho hk)
theorem un_pas(h:PA B k):pasF B k=(false,B):=by
 unfold pasF
 rw[if_pos h.g20,h.b28]
 rfl
theorem un_tx(h:PA B k):txF B k=(false,B):=by
 unfold txF txSel
 rw[h.b44,h.b50,h.g8,h.g87]
 cases B.gb k 45<;>rfl
theorem un_tr0(h:PA B k)(ht:B.gi k 19=0):trF B k=(true,(trSettle B k (B.hi 3)).setp k 19 (.int .i64 1)):=by
 have e:trR B k=4:=by
  unfold trR trHB
  rw[h.g88,h.g87,ht,h.b29,h.b27]
  rfl
 unfold trF
 rw[if_pos ⟨h.b44,h.b50⟩,e]
 rfl
theorem un_tr1(h:PA B k)(ht:T1 B k)(h3:B.hi 3=20):trF B k=(false,B):=by
 obtain⟨t1,t2,t3,t4,t5⟩:=ht
 have e:trR B k=24:=by
  unfold trR trHB trUns
  rw[h.g88,h.g87,t1,t2,t3,t4,t5,h3]
  rfl
 unfold trF
 rw[if_pos ⟨h.b44,h.b50⟩,e]
 rfl
theorem un_top0(hf:B.gb k 25=true):topF B k=(true,(B.flush k).setp k 25 (.bool false)):=by
 unfold topF
 rw[if_pos hf]
theorem un_top1(h:PA B k)(hf:B.gb k 25=false):topF B k=(false,B):=by
 unfold topF topN
 rw[hf,if_neg (by decide),if_pos h.g21,h.b28]
 rfl
end
theorem gi_self{B:Br}{k j:Nat}{q:IntKind}{z:Int}(h:k*89+j<B.ps.length):(B.setp k j (.int q z)).gi k j=z:=by
 unfold Br.gi Br.setp
 rw[List.getElem?_set_self h]
theorem gb_self{B:Br}{k j:Nat}{z:Bool}(h:k*89+j<B.ps.length):(B.setp k j (.bool z)).gb k j=z:=by
 unfold Br.gb Br.setp
 rw[List.getElem?_set_self h]
theorem settle_fr(B:Br)(k:Nat):Fr AU B ((trSettle B k (B.hi 3)).setp k 19 (.int .i64 1)):=by
 unfold trSettle
 repeat (first|exact Fr.rf _ B|refine Fr.setp ?_ (by decide) (by decide))
theorem settle_oth(B:Br)(k:Nat):Oth k B ((trSettle B k (B.hi 3)).setp k 19 (.int .i64 1)):=by
 unfold trSettle
 repeat (first|exact fun _ _ _ _=>rfl|refine Oth.setp ?_ (by decide))
theorem settle_t1{B:Br}{k:Nat}(hl:k*89+89≤B.ps.length)(h3:B.hi 3=20):T1 ((trSettle B k (B.hi 3)).setp k 19 (.int .i64 1)) k:=by
 rw[h3]
 unfold trSettle
 have l:∀(C:Br) (j:Nat) (v:Value),(C.setp k j v).ps.length=C.ps.length:=fun C j v=>List.length_set
 refine⟨gi_self (by simp only[l];omega),?_,?_,?_,?_⟩
 ·rw[gi_setp_ne _ _ _ _ _ (by decide),gi_setp_ne _ _ _ _ _ (by decide),gi_setp_ne _ _ _ _ _ (by decide),gi_setp_ne _ _ _ _ _ (by decide),gi_setp_ne _ _ _ _ _ (by decide)]
  exact gi_self (by omega)
 ·rw[gb_setp_ne _ _ _ _ _ (by decide),gb_setp_ne _ _ _ _ _ (by decide)]
  exact gb_self (by simp only[l];omega)
 ·rw[gb_setp_ne _ _ _ _ _ (by decide)]
  exact gb_self (by simp only[l];omega)
 ·rw[gb_setp_ne _ _ _ _ _ (by decide),gb_setp_ne _ _ _ _ _ (by decide),gb_setp_ne _ _ _ _ _ (by decide)]
  exact gb_self (by simp only[l];omega)
theorem flush_fr(B:Br)(k:Nat):Fr AU B ((B.flush k).setp k 25 (.bool false)):=by
 have h:Fr AU B (B.flush k):=⟨rfl,rfl,rfl,rfl,Nat.le_refl _,fun _ _ _ _=>rfl⟩
 exact Fr.setp (k:=k) (j:=25) (v:=.bool false) h (by decide) (by decide)
theorem flush_oth(B:Br)(k:Nat):Oth k B ((B.flush k).setp k 25 (.bool false)) :=
 Oth.setp (k:=k) (j:=25) (v:=.bool false) (show Oth k B (B.flush k)from fun _ _ _ _=>rfl) (by decide)
def JU(n M:Nat)(s:Nat→Nat)(k j c:Nat)(B:Br):Prop :=
 k≤n∧KI n (M+8*k+j) s B∧(∀i,i<n→PA B i)∧(∀i,i<n→(i<k∨(i=k∧5≤j)→T1 B i)∧(k<i∨(i=k∧j<5)→B.gi i 19=0)∧(i<k∨(i=k∧7≤j)→B.gb i 25=false)∧(k<i∨(i=k∧j<7)→B.gb i 25=true))
def JQ(n M:Nat)(s:Nat→Nat)(k j c:Nat)(B:Br):Prop:=c=0∧k≤n∧KI n M s B∧∀i,i<n→PA B i∧T1 B i∧B.gb i 25=false
def S0(n M:Nat)(s:Nat→Nat)(B:Br):Prop:=KI n M s B∧∀i,i<n→PA (selF B).2 i∧(selF B).2.gi i 19=0∧(selF B).2.gb i 25=true
def S1(n M:Nat)(s:Nat→Nat)(B:Br):Prop:=KI n M s B∧∀i,i<n→PA B i∧T1 B i∧B.gb i 25=false
theorem settle_25(B:Br)(k:Nat):((trSettle B k (B.hi 3)).setp k 19 (.int .i64 1)).gb k 25=B.gb k 25:=by
 unfold trSettle
 rw[gb_setp_ne _ _ _ _ _ (by decide),gb_setp_ne _ _ _ _ _ (by decide),gb_setp_ne _ _ _ _ _ (by decide),gb_setp_ne _ _ _ _ _ (by decide),gb_setp_ne _ _ _ _ _ (by decide),gb_setp_ne _ _ _ _ _ (by decide)]
theorem flush_t1{B:Br}{k:Nat}(h:T1 B k):T1 ((B.flush k).setp k 25 (.bool false)) k:=by
 obtain⟨a,b,c,d,e⟩:=h
 refine⟨?_,?_,?_,?_,?_⟩
 ·rw[gi_setp_ne _ _ _ _ _ (by decide)];exact a
 ·rw[gi_setp_ne _ _ _ _ _ (by decide)];exact b
 ·rw[gb_setp_ne _ _ _ _ _ (by decide)];exact c
 ·rw[gb_setp_ne _ _ _ _ _ (by decide)];exact d
 ·rw[gb_setp_ne _ _ _ _ _ (by decide)];exact e
theorem JU.stay{n M k j c c':Nat}{s:Nat→Nat}{B:Br}(h:JU n M s k j c B)(h4:j≠4)(h6:j≠6):JU n M s k (j+1) c' B:=by
 obtain⟨a,b,p,q⟩:=h
 refine⟨a,b.mono (by omega),p,fun i hi=>?_⟩
 obtain⟨q1,q2,q3,q4⟩:=q i hi
 exact⟨fun h=>q1 (by omega),fun h=>q2 (by omega),fun h=>q3 (by omega),fun h=>q4 (by omega)⟩
theorem rel_u{N:Nat→Prop}{X g n M:Nat}{s:Nat→Nat}(hn:n≤5)(hn0:0<n)(hM:M≤900000000):Rel N X g n (S0 n M s) (JU n M s):=by
 refine⟨fun B h=>⟨h.1.ok,h.1.np⟩,fun B w hQ hS h=>?_,fun k j c B w hQ1 hk hj hJ h=>?_,fun k c B hk hJ=>?_,fun k c B hJ=>⟨hJ.2.1.ok,hJ.2.1.np⟩⟩
 ·obtain⟨hK,hA⟩:=hS
  refine(sel_step w _ X g B h hK.ok (by rw[hK.np];omega) (by rw[hK.np];exact hn0) (fun k hk=>?_)).mono (fun e w' hh=>So.of hh ⟨by omega,(hK.sel (by omega)).mono (by omega),fun i hi=>(hA i hi).1,fun i hi=>⟨fun h=>by omega,fun _=>(hA i hi).2.1,fun h=>by omega,fun _=>(hA i hi).2.2⟩⟩)
  have:=hK.pt k (by rw[←hK.np];exact hk)
  unfold PI at this
  omega
 ·have hJ':=hJ
  obtain⟨hkn,hK,hP,hQ⟩:=hJ
  have hkp:k<B.np:=by rw[hK.np];exact hk
  have hnp:B.np<1000:=by rw[hK.np];omega
  have hk2:k<1000:=by omega
  have h4:0≤B.hi 4∧B.hi 4≤1000:=by rw[hK.hs.2.2.1];omega
  have hA:=hP k hk
  have h89:=len89 hK.ok hkp
  rcases(by omega:j=0∨j=1∨j=2∨j=3∨j=4∨j=5∨j=6∨j=7)with rfl|rfl|rfl|rfl|rfl|rfl|rfl|rfl
  ·exact(rx_step w _ X g k B h hK.ok hkp hk2).mono (fun e w' hh=>So.of (by rw[un_rx hA]at hh;exact hh) (hJ'.stay (by decide) (by decide)))
  ·exact(mig_step w _ X g k B h hK.ok hkp hk2).mono (fun e w' hh=>So.of (by rw[un_mig hA]at hh;exact hh) (hJ'.stay (by decide) (by decide)))
  ·exact(edge_step w _ X g k B h hK.ok hkp hk2).mono (fun e w' hh=>So.of (by rw[un_edge hA]at hh;exact hh) (hJ'.stay (by decide) (by decide)))
  ·refine(inf_step w _ X g k B h hK.ok hkp hnp ?_).mono (fun e w' hh=>So.of (by rw[un_inf hK.ok hkp hA]at hh;exact hh) (hJ'.stay (by decide) (by decide)))
   have hp:=hK.pt k hk
   unfold TimR TF
   rw[pI_port (by decide),pI_port (by decide),pI_port (by decide),pI_port (by decide)]
   unfold PI at hp
   omega
  ·have ht:=(hQ k hk).2.1 (.inr ⟨rfl,by decide⟩)
   have e:=un_tr0 hA ht
   have hok:=trF_ok hK.ok hkp h4
   have hfr:=tr_fr B k
   refine(trans_step w _ X g k B h hK.ok hkp hnp (fun n hn'=>hn'.2) h4).mono (fun e' w' hh=>So.of hh ?_)
   rw[e]at hok hfr ⊢
   have ho:=settle_oth B k
   refine⟨by omega,(hK.fr hfr hok).mono (by omega),fun i hi=>(hP i hi).fr (settle_fr B k),fun i hi=>?_⟩
   obtain⟨q1,q2,q3,q4⟩:=hQ i hi
   by_cases hik:i=k
   ·subst hik
    refine⟨fun _=>settle_t1 h89 hK.hs.2.1,fun h=>by omega,fun h=>by omega,fun _=>?_⟩
    show((trSettle B i (B.hi 3)).setp i 19 (.int .i64 1)).gb i 25=true
    rw[settle_25]
    exact q4 (.inr ⟨rfl,by decide⟩)
   ·exact⟨fun h=>ho.t1 hik (q1 (by omega)),fun h=>ho.t0 hik (q2 (by omega)),fun h=>ho.f hik (q3 (by omega)),fun h=>ho.f hik (q4 (by omega))⟩
  ·exact(pas_step w _ X g k B h hK.ok hkp hk2).mono (fun e w' hh=>So.of (by rw[un_pas hA]at hh;exact hh) (hJ'.stay (by decide) (by decide)))
  ·have hf:=(hQ k hk).2.2.2 (.inr ⟨rfl,by decide⟩)
   have e:=un_top0 hf
   have hok:=(topF_keeps hK.ok hkp hnp hK.tr).1
   have hfr:=top_fr B k
   refine(top_stepW w N X g k B h hK.ok hkp hnp hQ1 hK.tr (by have:=hK.nf;omega)).mono (fun e' w' hh=>So.ofW hh ?_)
   rw[e]at hok hfr ⊢
   have ho:=flush_oth B k
   refine⟨by omega,(hK.fr hfr hok).mono (by omega),fun i hi=>(hP i hi).fr (flush_fr B k),fun i hi=>?_⟩
   obtain⟨q1,q2,q3,q4⟩:=hQ i hi
   by_cases hik:i=k
   ·subst hik
    refine⟨fun _=>flush_t1 (q1 (.inr ⟨rfl,by decide⟩)),fun h=>by omega,fun _=>gb_self (by show i*89+25<B.ps.length;omega),fun h=>by omega⟩
   ·exact⟨fun h=>ho.t1 hik (q1 (by omega)),fun h=>ho.t0 hik (q2 (by omega)),fun h=>ho.f hik (q3 (by omega)),fun h=>ho.f hik (q4 (by omega))⟩
  ·refine(tx_stepW w N X g k B h hK.ok hkp hnp hQ1 ?_ (by have:=hK.few hn;omega)).mono (fun e w' hh=>So.ofW (by rw[un_tx hA]at hh;exact hh) (hJ'.stay (by decide) (by decide)))
   have hp:=hK.pt k hk
   unfold PI at hp
   omega
 ·obtain⟨a,b,p,q⟩:=hJ
  refine⟨by omega,b.mono (by omega),p,fun i hi=>?_⟩
  obtain⟨q1,q2,q3,q4⟩:=q i hi
  exact⟨fun h=>q1 (by omega),fun h=>q2 (by omega),fun h=>q3 (by omega),fun h=>q4 (by omega)⟩
theorem anyR_none{B:Br}:∀m,(∀i,i<m→B.gb i 43=false)→anyR B m=false
 | 0,_=>rfl
 | m+1,h=>by
  unfold anyR
  rw[anyR_none m (fun i hi=>h i (by omega)),h m (by omega)]
  rfl
theorem noR_id{B:Br}(ho:B.ok)(h:∀i,i<B.np→B.gb i 43=false):noR B B.np=B:=by
 have hr:=upd_rest B 43 (fun _=>.bool false) B.np
 have hl:=ho.len
 have e:(noR B B.np).ps=B.ps:=by
  apply List.ext_getElem?
  intro q
  have hq:q=q / 89*89+q % 89:=by omega
  rw[hq]
  show(B.upd 43 (fun _=>.bool false) B.np).ps[q / 89*89+q % 89]?=_
  rw[upd_cell B (by decide) _ (by rw[hl];exact Nat.le_refl _) (by omega)]
  split
  ·rename_i hc
   rw[hc.1,ho.gb hc.2 43 rfl,h _ hc.2]
  ·rfl
 have hnp:=upd_np B 43 (fun _=>.bool false) B.np
 have hhd:=upd_hd B 43 (fun _=>.bool false) B.np
 obtain⟨C,hC⟩:∃C,noR B B.np=C:=⟨_,rfl⟩
 have hC':B.upd 43 (fun _=>.bool false) B.np=C:=hC
 rw[hC]at e ⊢
 rw[hC']at hr hnp hhd
 obtain⟨r1,r2,r3,r4⟩:=hr
 cases C
 cases B
 simp only at e hnp hhd r1 r2 r3 r4
 subst e hnp hhd r1 r2 r3 r4
 rfl
theorem rel_q{N:Nat→Prop}{X g n M:Nat}{s:Nat→Nat}(hn:n≤5)(hn0:0<n)(hM:M≤900000000):Rel N X g n (S1 n M s) (JQ n M s):=by
 refine⟨fun B h=>⟨h.1.ok,h.1.np⟩,fun B w hQ hS h=>?_,fun k j c B w hQ1 hk hj hJ h=>?_,fun k c B hk hJ=>⟨hJ.1,by omega,hJ.2.2⟩,fun k c B hJ=>⟨hJ.2.2.1.ok,hJ.2.2.1.np⟩⟩
 ·obtain ⟨hK,hA⟩:=hS
  have e:selF B=(false,B):=by
   unfold selF
   rw[anyR_none B.np (fun i hi=>(hA i (by rw[←hK.np];exact hi)).1.b43),noR_id hK.ok (fun i hi=>(hA i (by rw[←hK.np];exact hi)).1.b43)]
   rfl
  refine(sel_step w _ X g B h hK.ok (by rw[hK.np];omega) (by rw[hK.np];exact hn0) (fun k hk=>?_)).mono (fun e' w' hh=>So.of (by rw[e]at hh;exact hh) ⟨rfl,by omega,hK,hA⟩)
  have:=hK.pt k (by rw[←hK.np];exact hk)
  unfold PI at this
  omega
 ·obtain ⟨rfl,hkn,hK,hQ⟩:=hJ
  have hkp:k<B.np:=by rw[hK.np];exact hk
  have hnp:B.np<1000:=by rw[hK.np];omega
  have hk2:k<1000:=by omega
  have h4:0≤B.hi 4∧B.hi 4≤1000:=by rw[hK.hs.2.2.1];omega
  obtain⟨hA,hT,hF⟩:=hQ k hk
  have st:JQ n M s k (j+1) (0+false.toNat) B:=⟨rfl,hkn,hK,hQ⟩
  rcases(by omega:j=0∨j=1∨j=2∨j=3∨j=4∨j=5∨j=6∨j=7)with rfl|rfl|rfl|rfl|rfl|rfl|rfl|rfl
  ·exact(rx_step w _ X g k B h hK.ok hkp hk2).mono (fun e w' hh=>So.of (by rw[un_rx hA]at hh;exact hh) st)
  ·exact(mig_step w _ X g k B h hK.ok hkp hk2).mono (fun e w' hh=>So.of (by rw[un_mig hA]at hh;exact hh) st)
  ·exact(edge_step w _ X g k B h hK.ok hkp hk2).mono (fun e w' hh=>So.of (by rw[un_edge hA]at hh;exact hh) st)
  ·refine(inf_step w _ X g k B h hK.ok hkp hnp ?_).mono (fun e w' hh=>So.of (by rw[un_inf hK.ok hkp hA]at hh;exact hh) st)
   have hp:=hK.pt k hk
   unfold TimR TF
   rw[pI_port (by decide),pI_port (by decide),pI_port (by decide),pI_port (by decide)]
   unfold PI at hp
   omega
  ·exact(trans_step w _ X g k B h hK.ok hkp hnp (fun n hn'=>hn'.2) h4).mono (fun e' w' hh=>So.of (by rw[un_tr1 hA hT hK.hs.2.1]at hh;exact hh) st)
  ·exact(pas_step w _ X g k B h hK.ok hkp hk2).mono (fun e w' hh=>So.of (by rw[un_pas hA]at hh;exact hh) st)
  ·exact(top_stepW w N X g k B h hK.ok hkp hnp hQ1 hK.tr (by have:=hK.nf;omega)).mono (fun e' w' hh=>So.ofW (by rw[un_top1 hA hF]at hh;exact hh) st)
  ·refine(tx_stepW w N X g k B h hK.ok hkp hnp hQ1 ?_ (by have:=hK.few hn;omega)).mono (fun e w' hh=>So.ofW (by rw[un_tx hA]at hh;exact hh) st)
   have hp:=hK.pt k hk
   unfold PI at hp
   omega
theorem run_un{N:Nat→Prop}{X g n M:Nat}{s:Nat→Nat}(hn:n≤5)(hn0:0<n)(hM:M≤800000000)(B:Br)(w:World)(hQ:∀n,w.heap.size≤n→N n)(h:WB N X g B w)(hS:S0 n M s B):
    Calls Tryz.prog 17 #[.pointer (some ⟨X,0,none⟩)] w fun e w'=>∃(k:Nat) (B':Br),e=.returned (.tuple #[.int .i64 (k:Int),.bool true])∧WB N X g B' w'∧Mut (fun n=>N n) w w'∧KI n (M+50000) s B':=by
 refine(run_rel (n:=n) (fun r B=>(r=0∧S0 n M s B)∨(r=1∧S1 n (M+40) s B)) (fun B=>KI n (M+50000) s B) w hQ B h (.inl ⟨rfl,hS⟩) (fun r C w hQ hr hS hw=>?_)).mono ?_
 ·rcases hS with ⟨rfl,hS⟩|⟨rfl,hS⟩
  ·refine(round_rel (rel_u hn hn0 (by omega)) hn hn0 C w hQ hw hS).mono ?_
   rintro e w' ⟨c,B',hc,he,hB,hm,hJ⟩
   exact⟨c,B',hc,he,hB,hm,fun _=>hJ.2.1.mono (by omega),fun _=>.inr ⟨rfl,hJ.2.1.mono (by omega),fun i hi=>⟨hJ.2.2.1 i hi,(hJ.2.2.2 i hi).1 (.inl hi),(hJ.2.2.2 i hi).2.2.1 (.inl hi)⟩⟩⟩
  ·refine(round_rel (rel_q hn hn0 (by omega)) hn hn0 C w hQ hw hS).mono ?_
   rintro e w' ⟨c,B',hc,he,hB,hm,hJ⟩
   exact⟨c,B',hc,he,hB,hm,fun _=>hJ.2.2.1.mono (by omega),fun h=>absurd hJ.1 h⟩
 ·rintro e w' ⟨k,d,B',he,hB,hm,h1,h2⟩
  cases d
  ·rcases h2 rfl with ⟨h,-⟩|⟨h,-⟩
   ·exact absurd h (by decide)
   ·exact absurd h (by decide)
  ·exact⟨k,B',he,hB,hm,h1 rfl⟩
end Go.Proofs.YtpanapepcbbagaaGreat
