/- Part 1 of what BridgeAlone stands on. No statement is proved here. -/
import Derived.Test.YtpanapepcbbagaaGreatBxf
set_option linter.unusedVariables false
set_option linter.unusedSimpArgs false
set_option maxRecDepth 100000
set_option maxHeartbeats 8000000
namespace Go.Proofs.YtpanapepcbbagaaGreat
open Go.RowKit Go.BigFrame Go.WideShapes Go.ChangeShapes Go.Deep
def aHV:Array Value:=#[.int .u64 0,.int .u32 0,.int .u64 0,.int .u16 0,.int .u16 0]
theorem aHW:∀w,(zeroValue 30).run Tryz.prog w=.ok (.agg aHV) w:=(zero_of_info (P:=Tryz.prog) (t:=30) (v:=.agg aHV) (n:=5) (by kernel_rfl)).1
theorem aHX:(Tryz.prog.info? 30).map (·.size)=some 5:=by kernel_rfl
theorem aL0(id:Int):Tryz.prog.built 30 [(0,.int .u64 id),(2,.int .u64 id)]=some #[.int .u64 id,.int .u32 0,.int .u64 id,.int .u16 0,.int .u16 0]:=by kernel_rfl
theorem jK:∀w,(zeroValue 35).run Tryz.prog w=.ok (.agg oR) w:=(zero_of_info (P:=Tryz.prog) (t:=35) (v:=.agg oR) (n:=20) (by kernel_rfl)).1
theorem fP:(Tryz.prog.info? 35).map (·.size)=some 20:=by kernel_rfl
theorem mX:(Tryz.prog.info? 24).map (·.size)=some 4:=by kernel_rfl
theorem aAI:(Tryz.prog.info? 73).map (·.size)=some 5:=by kernel_rfl
theorem aHY:∀w,(zeroValue 73).run Tryz.prog w=.ok (.agg SUZ) w:=(zero_of_info (P:=Tryz.prog) (t:=73) (v:=.agg SUZ) (n:=5) (by kernel_rfl)).1
theorem aHZ:(Tryz.prog.info? 60).map (fun i=>(i.zero,i.size,i.bytes))=some (some (.agg PortZ),89,416):=by kernel_rfl
theorem aIU(id ta mx hl dl hold:Int)(rst:Bool):Tryz.prog.built 35 [(0,.int .u64 id),(1,.bool rst),(2,.agg #[.int .i64 ta,.int .i64 mx,.int .i64 hl,.int .i64 dl]),(3,.int .i64 hold),(4,.agg #[.int .u64 id,.int .u32 0,.int .u64 id,.int .u16 0,.int .u16 0]),(5,.int .i64 (-1)),(6,.agg #[.int .i64 ta,.int .i64 mx,.int .i64 hl,.int .i64 dl])]=some #[.int .u64 id,.bool rst,.int .i64 ta,.int .i64 mx,.int .i64 hl,.int .i64 dl,.int .i64 hold,.int .u64 id,.int .u32 0,.int .u64 id,.int .u16 0,.int .u16 0,.int .i64 (-1),.int .i64 ta,.int .i64 mx,.int .i64 hl,.int .i64 dl,.slice none 0 0,.slice none 0 0,.slice none 0 0]:=by kernel_rfl
theorem aKJ:Tryz.prog.built 35 []=some oR:=by kernel_rfl
theorem aL1(a b mx hl dl e:Int)(x y z r:Bool):Instr.fill (fun i=>some (i*89,89)) ((Array.range (1*89)).map (PortZ[· % PortZ.size]!)) [(0,.agg (dQ a b x y z r mx hl dl e))]=some (dQ a b x y z r mx hl dl e):=by kernel_rfl
theorem aKK{rst:Bool}{mx hl dl e a b:Int}{x y z:Bool}(h:pL rst mx hl dl ⟨a,b,x,y,z⟩=(dQ a b x y z rst mx hl dl e).toList):∀u∈(dQ a b x y z rst mx hl dl e).toList,u.oneCell'=true:=by
 have h2:((dQ a b x y z rst mx hl dl e).toList.all (·.oneCell'))=true:=rfl
 exact fun u hu=>List.all_eq_true.1 h2 u hu
theorem aAJ(id:Int)(w:World):Calls Tryz.prog 22 #[.int .u64 id] w fun e w'=>e=.returned (.agg #[.int .u64 id,.int .u32 0,.int .u64 id,.int .u16 0,.int .u16 0])∧Ext w w':=by
 go_enter Tryz.func22,Tryz.ntmps22
 go_wp2_with (first
  | fail
  | ((with_reducible refine bS 30 ?_);refine b6 rfl 30 rfl aHV aHW ?_
     intro RB w1 hq hsz hx)
  | ((with_reducible refine cJ 30 ?_);refine bG rfl 30 _ rfl _ rfl _ (aL0 id) ?_)
  | ((with_reducible refine aD 30 ?_);refine dS rfl rfl 30 _ _ rfl RB 0 _ #[.int .u64 id,.int .u32 0,.int .u64 id,.int .u16 0,.int .u16 0] aHV #[.int .u64 id,.int .u32 0,.int .u64 id,.int .u16 0,.int .u16 0] 30 rfl rfl rfl hq (by exact(by decide:0+5≤5)) (by kernel_rfl) rfl rfl ?_
     intro wz hqz hmz
     have HRZ:=hD hqz
     have HXZ:=hD (hx.mutE hmz (fun g h1 h2=>by have h3:g=RB:=h2;omega))
     clear hqz hmz))
 refine bodyPost_ret (results_cell_row rfl _ _ RB _ _ (0,0) _ rfl HRZ.out Tryz.underlying30 rfl aHX) rfl ?_
 exact⟨rfl,HXZ.out⟩
theorem nP(id ta mx hl dl hold:Int)(rst:Bool)(pv:Value)(P:List Pt)(w:World)(hP:PtsAt w pv P)(hn:P.length≤40)(hi:0≤id∧id<18446744073709551616)(ho:-9223372036854775808≤hold∧hold<9223372036854775808)(hpr:∀p∈P,PtR p)(hta:(Lit.int .i64 ta).wf=true)(hmx:(Lit.int .i64 mx).wf=true)(hhl:(Lit.int .i64 hl).wf=true)(hdl:(Lit.int .i64 dl).wf=true):
    Calls Tryz.prog 11 #[.int .u64 id,.bool rst,.agg #[.int .i64 ta,.int .i64 mx,.int .i64 hl,.int .i64 dl],.int .i64 hold,pv] w fun e w'=>∃(c:Array Value) (ok:Bool),e=.returned (.tuple #[.agg c,.bool ok])∧(ok=true↔lM (oG id rst ta mx hl dl hold P))∧NewIs w w' c ok (oG id rst ta mx hl dl hold P)∧Ext w w':=by
 have HI:=hD hi
 have HHO:=hD ho
 have HPR:=hD hpr
 have HT:=hD (And.intro hta (And.intro hmx (And.intro hhl hdl)))
 obtain⟨pa,pcap,hpe,hpm,hpf⟩:=hP
 obtain⟨n,hn0⟩:∃m,P.length=m:=⟨_,rfl⟩
 rw[hn0]at hpe hpm hpf hn
 subst hpe
 have HPF:=hD (show 0<n→∃b off,pa=some ⟨b,off,none⟩∧b<w.heap.size∧n≤pcap∧pcap≤9223372036854775807∧∀i,i<n→w.rangeAt b (off+i*5) (P.getD i default).L from hpf)
 have HNN:=hD hn0
 obtain⟨i9,hi9,hz9,hs9,hb9⟩:=info_parts aHZ
 have I9:=hD (And.intro hi9 (And.intro hz9 (And.intro hs9 hb9)))
 clear hi9 hz9 hs9 hb9 hta hmx hhl hdl hi ho hpr hpf hn0 hpm
 go_enter Tryz.func11,Tryz.ntmps11
 go_wp2_with (first
  | fail
  | ((with_reducible refine bP 24 ?_);refine bQ rfl 24 _ rfl #[.int .i64 ta,.int .i64 mx,.int .i64 hl,.int .i64 dl] rfl ?_
     intro Y wa hX hsz hx1
     have HYa:=hD hX
     have HEa:=hD hx1
     clear hX hsz hx1)
  | ((with_reducible refine bS 35 ?_);have h0:=HEa.out;refine b6 rfl 35 rfl oR jK ?_
     intro RB w1 hq hsz hx
     have HRB:=hD hq
     have HE1:=hD (HEa.out.trans hx)
     have HRW:=hD (show w.heap.size≤RB from by have:=HEa.out.size;omega)
     have HY1:=hD ((hx.block Y (aC HYa.out)).trans HYa.out)
     clear hq hsz hx h0 HEa HYa))
 go_cut [12]from 15 to 22 (fun s wx=>∃BB,s=.pointer (some ⟨BB,0,none⟩)∧wx.heap[BB]?=some (.cells #[.int .u64 id,.bool rst,.int .i64 ta,.int .i64 mx,.int .i64 hl,.int .i64 dl,.int .i64 hold,.int .u64 id,.int .u32 0,.int .u64 id,.int .u16 0,.int .u16 0,.int .i64 (-1),.int .i64 ta,.int .i64 mx,.int .i64 hl,.int .i64 dl,.slice none 0 0,.slice none 0 0,.slice none 0 0] 35 (0,0))∧Ext w1 wx∧w1.heap.size≤BB)
 case rest =>
  obtain⟨BB,rfl,hbb,hx2,hbw⟩:=hcut
  rename World=>w2
  have HBB:=hD hbb
  have HX2:=hD hx2
  have HBW:=hD hbw
  have HY2:=hD ((hx2.block Y (aC HY1.out)).trans HY1.out)
  obtain⟨B,hB⟩:∃B,w2.heap.size=B:=⟨_,rfl⟩
  have HB0:=hD (Nat.le_of_eq hB.symm)
  have HB1:=hD (show w1.heap.size≤B from by rw[←hB];exact hx2.size)
  have HBBB:=hD (show BB<B from by rw[←hB];exact aC hbb)
  have HYB:=hD (show Y<w1.heap.size from aC HY1.out)
  clear hbb hx2 hbw hB
  go_wp2_with fail
  go_loopw [25] (fun s wr=>∃(k:Nat) (u:Value) (wo:World),wo=wr∧s=.int .i64 k∧k≤n∧wo.heap[BB]?=some (.cells #[.int .u64 id,.bool rst,.int .i64 ta,.int .i64 mx,.int .i64 hl,.int .i64 dl,.int .i64 hold,.int .u64 id,.int .u32 0,.int .u64 id,.int .u16 0,.int .u16 0,.int .i64 (-1),.int .i64 ta,.int .i64 mx,.int .i64 hl,.int .i64 dl,u,.slice none 0 0,.slice none 0 0] 35 (0,0))∧wo.ownsRow B 60 89 u k ((P.take k).flatMap (pL rst mx hl dl))∧Ext w1 wo∧B≤wo.heap.size) (fun s _=>n - (intOf s).toNat)
  case atStart=>exact⟨0,_,_,rfl,rfl,by omega,HBB.out,⟨by simp,.inl ⟨rfl,rfl⟩⟩,HX2.out,HB0.out⟩
  case round =>
   clear HBB HX2
   obtain⟨k,u,wo,rfl,rfl,hk,hbb,hown,hx,hbl⟩:=hrel
   rename World=>wl
   obtain⟨a3,c3,rfl⟩:=fB hown
   have HBR:=hD hbb
   have HO:=hD hown
   have HXL:=hD hx
   have HBL:=hD hbl
   clear hbb hown hx hbl
   by_cases hlt:k<n
   ·have dlt:decide ((k:Int)<(n:Int))=true:=by simp;omega
    have hup:IntKind.i64.wrap ((k:Int)+1)=((k+1:Nat):Int):=by rw[IntKind.wrap_i64];omega
    obtain⟨pb,po,rfl,hpb,-,-,hp4⟩:=HPF.out (by omega)
    obtain⟨p,hp⟩:∃p,P.getD k default=p:=⟨_,rfl⟩
    have RS:=hD (show wl.rangeAt pb (po+k*5) p.L from by
     have h4:=lV (hp4 k hlt) (HE1.out.trans HXL.out) hpb
     rw[hp]at h4
     exact h4)
    have HTK:=hD (show(P.take (k+1)).flatMap (pL rst mx hl dl)=(P.take k).flatMap (pL rst mx hl dl)++pL rst mx hl dl p from by
     rw[rM P default (by rw[HNN.out];exact hlt),hp,List.flatMap_append]
     simp)
    obtain⟨p1,p2,p3,p4,p5⟩:=p
    have HTL:=hD (show pL rst mx hl dl ⟨p1,p2,p3,p4,p5⟩=(dQ p1 p2 p3 p4 p5 rst mx hl dl (if p4 then 0 else 1)).toList from rfl)
    obtain⟨e,he⟩:∃e:Int,(if p4 then(0:Int)else 1)=e:=⟨_,rfl⟩
    have HEE:=hD he
    rw[he]at HTL
    clear hp4 hp hpb he
    go_wp2_with (first
     | fail
     | ((with_reducible refine aG 73 ?_);refine wpList_load_mid rfl 73 _ rfl pb (po+k*5) rfl [.int .u16 p1,.int .u32 p2,.bool p3,.bool p4,.bool p5] _ RS.out Tryz.underlying73 rfl aAI ?_)
     | ((with_reducible refine bS 73 ?_);refine b6 rfl 73 rfl SUZ aHY ?_
        intro H wh hqh hszh hxh)
     | ((with_reducible refine aD 73 ?_);refine dS rfl rfl 73 _ _ rfl H 0 _ #[.int .u16 p1,.int .u32 p2,.bool p3,.bool p4,.bool p5] SUZ #[.int .u16 p1,.int .u32 p2,.bool p3,.bool p4,.bool p5] 73 rfl rfl rfl hqh (by exact(by decide:0+5≤5)) (by kernel_rfl) rfl rfl ?_
        intro wk hqk hmk
        have E5:Ext wl wk:=hxh.mutE hmk (fun g hg h=>by have h2:g=H:=h;omega)
        have HHK:=hD hqk
        have HHW:=hD (show wl.heap.size≤H from Nat.le_of_eq hszh)
        have HOK:=hD (j2 HO.out E5)
        have HBK:=hD ((E5.block BB (aC HBR.out)).trans HBR.out)
        have HXK:=hD (HXL.out.trans E5)
        have HBLK:=hD (Nat.le_trans HBL.out E5.size)
        have HNE:=hD (show ∀g,Value.ownBlock (.slice a3 k c3)=some g→g≠H from fun g h1 h2=>by have h3:=(gO HO.out h1).2;have h4:wl.heap.size=H:=hszh;omega)
        clear hqh hszh hxh hqk hmk E5 wh))
    refine aI0 (S:=fun W'=>Ext w1 W'∧W'.heap[BB]?=some (.cells #[.int .u64 id,.bool rst,.int .i64 ta,.int .i64 mx,.int .i64 hl,.int .i64 dl,.int .i64 hold,.int .u64 id,.int .u32 0,.int .u64 id,.int .u16 0,.int .u16 0,.int .i64 (-1),.int .i64 ta,.int .i64 mx,.int .i64 hl,.int .i64 dl,.slice a3 k c3,.slice none 0 0,.slice none 0 0] 35 (0,0))∧W'.heap[H]?=some (.cells #[.int .u16 p1,.int .u32 p2,.bool p3,.bool p4,.bool p5] 73 (0,0))) 9 (by kernel_rfl) ?_
    intro wd hqx
    have hq0:(fun W'=>Ext w1 W'∧W'.heap[BB]?=some (.cells #[.int .u64 id,.bool rst,.int .i64 ta,.int .i64 mx,.int .i64 hl,.int .i64 dl,.int .i64 hold,.int .u64 id,.int .u32 0,.int .u64 id,.int .u16 0,.int .u16 0,.int .i64 (-1),.int .i64 ta,.int .i64 mx,.int .i64 hl,.int .i64 dl,.slice a3 k c3,.slice none 0 0,.slice none 0 0] 35 (0,0))∧W'.heap[H]?=some (.cells #[.int .u16 p1,.int .u32 p2,.bool p3,.bool p4,.bool p5] 73 (0,0))) wd:=⟨HXK.out.trans hqx,(hqx.block BB (aC (HBK.out))).trans (HBK.out),(hqx.block H (aC (HHK.out))).trans (HHK.out)⟩
    refine qU (i:=0) (z:=9) (v:=(.pointer (some ⟨BB,17,none⟩))) rfl rfl (by kernel_rfl) (by kernel_rfl) (by kernel_rfl) (by kernel_rfl) (by kernel_rfl) (by kernel_rfl) (fun _ _ _ h=>h) (Or.inl ⟨rfl,fun _ _=>rfl⟩) hq0 ?_
    simp only[ps]
    refine qU (i:=1) (z:=9) (v:=_) rfl rfl (by kernel_rfl) (by kernel_rfl) (by kernel_rfl) (by kernel_rfl) (by kernel_rfl) (by kernel_rfl) (fun _ _ _ h=>h) (aA rfl 31 _ rfl ⟨BB,17,none⟩ rfl (.slice a3 k c3) _ (fun W' hW'=>(show W'.cell? ⟨BB,17,none⟩=_ by rw[bA hW'.2.1];rfl)) Tryz.underlying31 rfl) hq0 ?_
    simp only[ps]
    refine qU (i:=2) (z:=9) (v:=_) rfl rfl (by kernel_rfl) (by kernel_rfl) (by kernel_rfl) (by kernel_rfl) (by kernel_rfl) (by kernel_rfl) (fun _ _ _ h=>h) (a4 rfl 73 _ rfl H rfl #[.int .u16 p1,.int .u32 p2,.bool p3,.bool p4,.bool p5] _ _ (fun W' hW'=>hW'.2.2) Tryz.underlying73 rfl aAI) hq0 ?_
    simp only[ps]
    refine qU (i:=3) (z:=9) (v:=(.bool rst)) rfl rfl (by kernel_rfl) (by kernel_rfl) (by kernel_rfl) (by kernel_rfl) (by kernel_rfl) (by kernel_rfl) (fun _ _ _ h=>h) (Or.inl ⟨rfl,fun _ _=>rfl⟩) hq0 ?_
    simp only[ps]
    refine qU (i:=4) (z:=9) (v:=_) rfl rfl (by kernel_rfl) (by kernel_rfl) (by kernel_rfl) (by kernel_rfl) (by kernel_rfl) (by kernel_rfl) (fun _ _ _ h=>h) (a4 rfl 24 _ rfl Y rfl #[.int .i64 ta,.int .i64 mx,.int .i64 hl,.int .i64 dl] _ _ (fun W' hW'=>(hW'.1.block Y HYB.out).trans HY1.out) Tryz.underlying24 rfl mX) hq0 ?_
    simp only[ps]
    refine aI1 (i:=5) rfl rfl (by kernel_rfl) (fun K hK=>?_)
    go_simp
    refine(vN p1 p2 mx hl dl p3 p4 p5 rst wd).mono ?_
    rintro e' wc ⟨rfl,hwc⟩
    rw[HEE.out]
    have hqc:(fun W'=>Ext w1 W'∧W'.heap[BB]?=some (.cells #[.int .u64 id,.bool rst,.int .i64 ta,.int .i64 mx,.int .i64 hl,.int .i64 dl,.int .i64 hold,.int .u64 id,.int .u32 0,.int .u64 id,.int .u16 0,.int .u16 0,.int .i64 (-1),.int .i64 ta,.int .i64 mx,.int .i64 hl,.int .i64 dl,.slice a3 k c3,.slice none 0 0,.slice none 0 0] 35 (0,0))∧W'.heap[H]?=some (.cells #[.int .u16 p1,.int .u32 p2,.bool p3,.bool p4,.bool p5] 73 (0,0))) wc:=⟨hq0.1.trans hwc,(hwc.block BB (aC hq0.2.1)).trans hq0.2.1,(hwc.block H (aC hq0.2.2)).trans hq0.2.2⟩
    refine hK.out _ _ hqc (fun _=>?_)
    try simp only[ps]
    clear hK K
    refine aI1 (i:=6) rfl rfl (by kernel_rfl) (fun K hK=>?_)
    refine wp_buildSlice 31 60 1 _ rfl (dQ p1 p2 p3 p4 p5 rst mx hl dl e) i9 (.agg PortZ) Tryz.underlying31 I9.out.1 I9.out.2.1 (by rw[I9.out.2.2.1];decide) (by rw[I9.out.2.2.1];decide) (by rw[I9.out.2.2.1,Array.toList_map];exact aL1 _ _ _ _ _ _ _ _ _ _) ?_
    have hy:Ext wc (wc.alloc (.cells (dQ p1 p2 p3 p4 p5 rst mx hl dl e) 60)):=(Ext.refl _).alloc _
    have hnw:=heap_alloc_new wc (.cells (dQ p1 p2 p3 p4 p5 rst mx hl dl e) 60)
    obtain⟨wn,hwa⟩:∃W,wc.alloc (.cells (dQ p1 p2 p3 p4 p5 rst mx hl dl e) 60)=W:=⟨_,rfl⟩
    obtain⟨bn,hnb⟩:∃m,wc.heap.size=m:=⟨_,rfl⟩
    rw[hwa]at hnw hy ⊢
    rw[hnb]at hnw ⊢
    clear hwa hnb
    have hq1:(fun W'=>Ext w1 W'∧W'.heap[BB]?=some (.cells #[.int .u64 id,.bool rst,.int .i64 ta,.int .i64 mx,.int .i64 hl,.int .i64 dl,.int .i64 hold,.int .u64 id,.int .u32 0,.int .u64 id,.int .u16 0,.int .u16 0,.int .i64 (-1),.int .i64 ta,.int .i64 mx,.int .i64 hl,.int .i64 dl,.slice a3 k c3,.slice none 0 0,.slice none 0 0] 35 (0,0))∧W'.heap[H]?=some (.cells #[.int .u16 p1,.int .u32 p2,.bool p3,.bool p4,.bool p5] 73 (0,0))) wn:=⟨hqc.1.trans hy,(hy.block BB (aC hqc.2.1)).trans hqc.2.1,(hy.block H (aC hqc.2.2)).trans hqc.2.2⟩
    have hxn:Ext wk wn:=(hqx.trans hwc).trans hy
    have hO2:=j2 HOK.out hxn
    have hbw:B≤wn.heap.size:=Nat.le_trans HBLK.out hxn.size
    refine hK.out _ _ hq1 (fun _=>?_)
    try simp only[ps]
    clear hK K
    refine aI1 (i:=7) rfl rfl (by kernel_rfl) (fun K hK=>?_)
    refine jB _ _ 31 rfl B 60 i9 (.agg PortZ) 89 416 Tryz.underlying31 I9.out.1 I9.out.2.1 I9.out.2.2.1 I9.out.2.2.2 rfl (by decide) (.slice a3 k c3) k ((P.take k).flatMap (pL rst mx hl dl)) rfl hO2 ⟨bn,0,none⟩ 1 1 ((dQ p1 p2 p3 p4 p5 rst mx hl dl e)).toList rfl rfl ?hnews (fun u hu=>aKK HTL.out u hu) (by unfold maxLen;omega) (by omega) hbw ?hfin
    case hnews=>exact fun j u hu=>World.news_of_block hnw j u (by simpa using hu)
    case hfin =>
    intro v6 wa ho6 hg6 hloc
    have hrw0:wa.heap[BB]?=some (.cells #[.int .u64 id,.bool rst,.int .i64 ta,.int .i64 mx,.int .i64 hl,.int .i64 dl,.int .i64 hold,.int .u64 id,.int .u32 0,.int .u64 id,.int .u16 0,.int .u16 0,.int .i64 (-1),.int .i64 ta,.int .i64 mx,.int .i64 hl,.int .i64 dl,.slice a3 k c3,.slice none 0 0,.slice none 0 0] 35 (0,0)):=(hg6.block BB (aC hq1.2.1) (fun e=>by have h1:=(gO hO2 e.symm).1;have h2:=HBBB.out;omega)).trans hq1.2.1
    have hrw1:wa.heap[H]?=some (.cells #[.int .u16 p1,.int .u32 p2,.bool p3,.bool p4,.bool p5] 73 (0,0)):=(hg6.block H (aC hq1.2.2) (fun e=>(HNE.out) _ e.symm rfl)).trans hq1.2.2
    have hq6:(fun W'=>Ext w1 W'∧W'.heap[BB]?=some (.cells #[.int .u64 id,.bool rst,.int .i64 ta,.int .i64 mx,.int .i64 hl,.int .i64 dl,.int .i64 hold,.int .u64 id,.int .u32 0,.int .u64 id,.int .u16 0,.int .u16 0,.int .i64 (-1),.int .i64 ta,.int .i64 mx,.int .i64 hl,.int .i64 dl,.slice a3 k c3,.slice none 0 0,.slice none 0 0] 35 (0,0))∧W'.heap[H]?=some (.cells #[.int .u16 p1,.int .u32 p2,.bool p3,.bool p4,.bool p5] 73 (0,0))) wa:=⟨aCJ hq1.1 hO2 HB1.out hg6,hrw0,hrw1⟩
    obtain⟨a6,c6,rfl⟩:=fB ho6
    refine hK.out _ _ hq6 (fun _=>?_)
    try simp only[ps]
    clear hK K
    refine qU (i:=8) (z:=9) (v:=(.pointer (some ⟨BB,17,none⟩))) rfl rfl (by kernel_rfl) (by kernel_rfl) (by kernel_rfl) (by kernel_rfl) (by kernel_rfl) (by kernel_rfl) (fun _ _ _ h=>h) (Or.inl ⟨rfl,fun _ _=>rfl⟩) hq6 ?_
    simp only[ps]
    refine aK2 (z:=9) rfl rfl (by kernel_rfl) (fun K hK=>?_)
    refine gY rfl 31 _ _ rfl BB 17 _ #[.slice a6 (k+1) c6] (#[.int .u64 id,.bool rst,.int .i64 ta,.int .i64 mx,.int .i64 hl,.int .i64 dl,.int .i64 hold,.int .u64 id,.int .u32 0,.int .u64 id,.int .u16 0,.int .u16 0,.int .i64 (-1),.int .i64 ta,.int .i64 mx,.int .i64 hl,.int .i64 dl,.slice a3 k c3,.slice none 0 0,.slice none 0 0]) (#[.int .u64 id,.bool rst,.int .i64 ta,.int .i64 mx,.int .i64 hl,.int .i64 dl,.int .i64 hold,.int .u64 id,.int .u32 0,.int .u64 id,.int .u16 0,.int .u16 0,.int .i64 (-1),.int .i64 ta,.int .i64 mx,.int .i64 hl,.int .i64 dl,.slice a6 (k+1) c6,.slice none 0 0,.slice none 0 0]) 35 rfl rfl rfl hrw0 (by exact(by decide:17+1≤20)) (by kernel_rfl) rfl rfl (fun ws hrow hm=>?_)
    have HFR:=aJ8 hxn hg6 hm
    have HROW:=hD hrow
    have hown6:ws.ownsRow B 60 89 (.slice a6 (k+1) c6) (k+1) ((P.take k).flatMap (pL rst mx hl dl)++((dQ p1 p2 p3 p4 p5 rst mx hl dl e)).toList):=lB ho6 hm (fun g h1 h2=>by have h3:=(gO ho6 h1).1;have h4:=HBBB.out;omega)
    have HSZ:wk.heap.size≤wn.heap.size:=hxn.size
    refine hK.out _ _ ?_
    try simp only[ps]
    clear hK K
    have HOS:=hD (show ws.ownsRow B 60 89 (.slice a6 (k+1) c6) (k+1) ((P.take (k+1)).flatMap (pL rst mx hl dl))from by rw[HTK.out,HTL.out];exact hown6)
    have HXS:=hD (HXK.out.app HBW.out HOK.out HB1.out HFR)
    have HBS:=hD (Nat.le_trans HBLK.out HFR.size)
    clear HFR hown6 HSZ hloc hwc hqc
    clear hrow hm ho6 hg6 hq6 hq1 hq0 hqx hy hnw hO2 hbw hxn hrw0 hrw1
    refine wpAnyH_done (by kernel_rfl) ?_ _
    go_wp2_with fail
    go_roundw
    case rel=>exact⟨k+1,_,_,rfl,by go_num,hlt,HROW.out,HOS.out,HXS.out,HBS.out⟩
    case measure=>simp[intOf]<;>omega
   ·have dlt:decide ((k:Int)<(n:Int))=false:=by simp;omega
    obtain rfl:n=k:=by omega
    have htk:P.take n=P:=List.take_of_length_le (by rw[HNN.out];exact Nat.le_refl _)
    have hbr:BrC wl #[.int .u64 id,.bool rst,.int .i64 ta,.int .i64 mx,.int .i64 hl,.int .i64 dl,.int .i64 hold,.int .u64 id,.int .u32 0,.int .u64 id,.int .u16 0,.int .u16 0,.int .i64 (-1),.int .i64 ta,.int .i64 mx,.int .i64 hl,.int .i64 dl,.slice a3 n c3,.slice none 0 0,.slice none 0 0] (oG id rst ta mx hl dl hold P):=by
     have h1:=HO.out
     rw[htk]at h1
     exact⟨.slice a3 n c3,.slice none 0 0,.slice none 0 0,rfl,by rw[show(oG id rst ta mx hl dl hold P).np=n from HNN.out];exact rY h1,⟨rfl,.inl ⟨rfl,.inl rfl⟩⟩,⟨rfl,.inl ⟨rfl,.inl rfl⟩⟩⟩
    have HBRC:=hD hbr
    have HOKB:=hD (aAC (rst:=rst) (aLT HI.out) HT.out.1 HT.out.2.1 HT.out.2.2.1 HT.out.2.2.2 (wf64 HHO.out) HPR.out)
    have HRBL:=hD ((HXL.out.block RB (aC HRB.out)).trans HRB.out)
    clear htk hbr
    go_wp2_with (first
     | fail
     | ((with_reducible refine aG 35 ?_);refine wpList_load_row rfl 35 _ rfl BB rfl 35 #[.int .u64 id,.bool rst,.int .i64 ta,.int .i64 mx,.int .i64 hl,.int .i64 dl,.int .i64 hold,.int .u64 id,.int .u32 0,.int .u64 id,.int .u16 0,.int .u16 0,.int .i64 (-1),.int .i64 ta,.int .i64 mx,.int .i64 hl,.int .i64 dl,.slice a3 n c3,.slice none 0 0,.slice none 0 0] (0,0) _ HBR.out Tryz.underlying35 rfl fP ?_))
    refine(wZ #[.int .u64 id,.bool rst,.int .i64 ta,.int .i64 mx,.int .i64 hl,.int .i64 dl,.int .i64 hold,.int .u64 id,.int .u32 0,.int .u64 id,.int .u16 0,.int .u16 0,.int .i64 (-1),.int .i64 ta,.int .i64 mx,.int .i64 hl,.int .i64 dl,.slice a3 n c3,.slice none 0 0,.slice none 0 0] (oG id rst ta mx hl dl hold P) wl HBRC.out HOKB.out).mono ?_
    rintro e w6 ⟨fb,rfl,hx6,hfb⟩
    have HFB:=hD hfb
    have HOW:=hD (show w6.ownsRow B 60 89 (.slice a3 n c3) n (P.flatMap (pL rst mx hl dl))from by
     have h1:=j2 HO.out hx6
     rw[List.take_of_length_le (by rw[HNN.out];exact Nat.le_refl _)]at h1
     exact h1)
    have HB6:=hD ((hx6.block BB (aC HBR.out)).trans HBR.out)
    have HR6:=hD ((hx6.block RB (aC HRBL.out)).trans HRBL.out)
    have HX6:=hD (HXL.out.trans hx6)
    cases fb with
    | true =>
     clear hx6 hfb
     go_wp2_with (first
      | fail
      | ((with_reducible refine aG 35 ?_);refine wpList_load_row rfl 35 _ rfl BB rfl 35 #[.int .u64 id,.bool rst,.int .i64 ta,.int .i64 mx,.int .i64 hl,.int .i64 dl,.int .i64 hold,.int .u64 id,.int .u32 0,.int .u64 id,.int .u16 0,.int .u16 0,.int .i64 (-1),.int .i64 ta,.int .i64 mx,.int .i64 hl,.int .i64 dl,.slice a3 n c3,.slice none 0 0,.slice none 0 0] (0,0) _ HB6.out Tryz.underlying35 rfl fP ?_)
      | ((with_reducible refine aD 35 ?_);refine dS rfl rfl 35 _ _ rfl RB 0 _ #[.int .u64 id,.bool rst,.int .i64 ta,.int .i64 mx,.int .i64 hl,.int .i64 dl,.int .i64 hold,.int .u64 id,.int .u32 0,.int .u64 id,.int .u16 0,.int .u16 0,.int .i64 (-1),.int .i64 ta,.int .i64 mx,.int .i64 hl,.int .i64 dl,.slice a3 n c3,.slice none 0 0,.slice none 0 0] oR #[.int .u64 id,.bool rst,.int .i64 ta,.int .i64 mx,.int .i64 hl,.int .i64 dl,.int .i64 hold,.int .u64 id,.int .u32 0,.int .u64 id,.int .u16 0,.int .u16 0,.int .i64 (-1),.int .i64 ta,.int .i64 mx,.int .i64 hl,.int .i64 dl,.slice a3 n c3,.slice none 0 0,.slice none 0 0] 35 rfl rfl rfl HR6.out (by exact(by decide:0+20≤20)) (by kernel_rfl) rfl rfl ?_
         intro wz hqz hmz
         have HRZ:=hD hqz
         have HMZ:=hD hmz
         clear hqz hmz))
     refine bodyPost_ret (eS rfl _ _ RB _ _ (0,0) _ rfl HRZ.out Tryz.underlying35 rfl fP) rfl ?_
     have hsz:w.heap.size≤B:=Nat.le_trans HE1.out.size HB1.out
     refine⟨_,true,rfl,by simpa using HFB.out,.inl ⟨rfl,_,rfl,?_⟩,(HE1.out.trans HX6.out).mutE HMZ.out (fun g h1 h2=>by have h3:g=RB:=h2;have h4:=HRW.out;omega)⟩
     have h5:=lB HOW.out HMZ.out (fun g h1 h2=>by have h3:g=RB:=h2;have h4:=(gO HOW.out h1).1;have h5:=aC HRB.out;have h6:=HB1.out;omega)
     rw[show(oG id rst ta mx hl dl hold P).np=n from HNN.out]
     exact p0 h5 hsz
    | false =>
     clear hx6 hfb
     go_wp2_with (first
      | fail
      | ((with_reducible refine cJ 35 ?_);refine bG rfl 35 _ rfl _ rfl _ aKJ ?_)
      | ((with_reducible refine aD 35 ?_);refine dS rfl rfl 35 _ _ rfl RB 0 _ oR oR oR 35 rfl rfl rfl HR6.out (by exact(by decide:0+20≤20)) (by kernel_rfl) (by kernel_rfl) (by kernel_rfl) ?_
         intro wz hqz hmz
         have HRZ:=hD hqz
         have HMZ:=hD hmz
         clear hqz hmz))
     refine bodyPost_ret (eS rfl _ _ RB _ _ (0,0) _ rfl HRZ.out Tryz.underlying35 rfl fP) rfl ?_
     exact⟨_,false,rfl,HFB.out,.inr ⟨rfl,rfl⟩,(HE1.out.trans HX6.out).mutE HMZ.out (fun g h1 h2=>by have h3:g=RB:=h2;have h4:=HRW.out;omega)⟩
 refine aT (S:=fun W'=>Ext w1 W') (by kernel_rfl) ?_
 intro wd hqx
 have hq0:Ext w1 wd:=hqx
 refine bO 0 ((.int .u64 id)) rfl hq0 ?_
 refine bO 1 ((.bool rst)) rfl hq0 ?_
 refine tL 2 (_) rfl (a4 rfl 24 _ rfl Y rfl #[.int .i64 ta,.int .i64 mx,.int .i64 hl,.int .i64 dl] _ _ (fun W' hW'=>(hW'.block Y (aC HY1.out)).trans HY1.out) Tryz.underlying24 rfl mX) hq0 ?_
 refine bO 3 ((.int .i64 hold)) rfl hq0 ?_
 refine bO 4 ((.int .u64 id)) rfl hq0 ?_
 refine tL 6 (_) rfl (a4 rfl 24 _ rfl Y rfl #[.int .i64 ta,.int .i64 mx,.int .i64 hl,.int .i64 dl] _ _ (fun W' hW'=>(hW'.block Y (aC HY1.out)).trans HY1.out) Tryz.underlying24 rfl mX) hq0 ?_
 refine aK1 (i:=5) (j:=8) rfl rfl rfl rfl (by kernel_rfl) (fun K hK=>?_) (fun K hK=>?_)
 ·go_simp
  refine(aAJ id wd).mono ?_
  rintro e wc ⟨rfl,hx⟩
  have hq1:Ext w1 wc:=hq0.trans hx
  clear hx
  refine hK.out _ _ hq1 (fun _=>?_)
  try simp only[ps]
  clear hK K
  refine tL 7 ((.agg #[.int .u64 id,.bool rst,.int .i64 ta,.int .i64 mx,.int .i64 hl,.int .i64 dl,.int .i64 hold,.int .u64 id,.int .u32 0,.int .u64 id,.int .u16 0,.int .u16 0,.int .i64 (-1),.int .i64 ta,.int .i64 mx,.int .i64 hl,.int .i64 dl,.slice none 0 0,.slice none 0 0,.slice none 0 0])) rfl (bL rfl 35 _ rfl [(0,.int .u64 id),(1,.bool rst),(2,.agg #[.int .i64 ta,.int .i64 mx,.int .i64 hl,.int .i64 dl]),(3,.int .i64 hold),(4,.agg #[.int .u64 id,.int .u32 0,.int .u64 id,.int .u16 0,.int .u16 0]),(5,.int .i64 (-1)),(6,.agg #[.int .i64 ta,.int .i64 mx,.int .i64 hl,.int .i64 dl])] rfl #[.int .u64 id,.bool rst,.int .i64 ta,.int .i64 mx,.int .i64 hl,.int .i64 dl,.int .i64 hold,.int .u64 id,.int .u32 0,.int .u64 id,.int .u16 0,.int .u16 0,.int .i64 (-1),.int .i64 ta,.int .i64 mx,.int .i64 hl,.int .i64 dl,.slice none 0 0,.slice none 0 0,.slice none 0 0] (aIU _ _ _ _ _ _ _)) hq1 ?_
  refine bB (i:=8) rfl rfl (by kernel_rfl) (fun K hK=>?_)
  refine lN 35 rfl oR jK (fun BB wv hvb hsz hx=>?_)
  have hq2:Ext w1 wv:=hq1.trans hx
  have hbw:w1.heap.size≤BB:=by have:=hq1.size;omega
  clear hsz
  clear hx
  refine hK.out _ _ hq2 (fun _=>?_)
  try simp only[ps]
  clear hK K
  refine bB (i:=9) rfl rfl (by kernel_rfl) (fun K hK=>?_)
  refine gY rfl 35 _ _ rfl BB 0 _ #[.int .u64 id,.bool rst,.int .i64 ta,.int .i64 mx,.int .i64 hl,.int .i64 dl,.int .i64 hold,.int .u64 id,.int .u32 0,.int .u64 id,.int .u16 0,.int .u16 0,.int .i64 (-1),.int .i64 ta,.int .i64 mx,.int .i64 hl,.int .i64 dl,.slice none 0 0,.slice none 0 0,.slice none 0 0] oR #[.int .u64 id,.bool rst,.int .i64 ta,.int .i64 mx,.int .i64 hl,.int .i64 dl,.int .i64 hold,.int .u64 id,.int .u32 0,.int .u64 id,.int .u16 0,.int .u16 0,.int .i64 (-1),.int .i64 ta,.int .i64 mx,.int .i64 hl,.int .i64 dl,.slice none 0 0,.slice none 0 0,.slice none 0 0] 35 rfl rfl rfl hvb (by exact(by decide:0+20≤20)) (by kernel_rfl) rfl rfl (fun wz hrow hm=>?_)
  have hxz:Ext w1 wz:=Ext.mutE hq2 hm (fun j hj h=>by have h2:j=BB:=h;omega)
  refine hK.out _ _ hxz (fun _=>?_)
  try simp only[ps]
  clear hK K
  refine wpAnyH_done (by kernel_rfl) ?_ _
  go_wp2_with fail
  go_meet
  exact⟨BB,rfl,hrow,hxz,hbw⟩
 ·refine lN 35 rfl oR jK (fun BB wv hvb hsz hx=>?_)
  have hq1:Ext w1 wv:=hq0.trans hx
  have hbw:w1.heap.size≤BB:=by have:=hq0.size;omega
  clear hsz
  clear hx
  refine hK.out _ _ hq1 (fun _=>?_)
  try simp only[ps]
  clear hK K
  refine bB (i:=5) rfl rfl (by kernel_rfl) (fun K hK=>?_)
  go_simp
  refine(aAJ id wv).mono ?_
  rintro e wc ⟨rfl,hx⟩
  have hq2:Ext w1 wc:=hq1.trans hx
  replace hvb:=(hx.block BB (aC hvb)).trans hvb
  clear hx
  refine hK.out _ _ hq2 (fun _=>?_)
  try simp only[ps]
  clear hK K
  refine tL 7 ((.agg #[.int .u64 id,.bool rst,.int .i64 ta,.int .i64 mx,.int .i64 hl,.int .i64 dl,.int .i64 hold,.int .u64 id,.int .u32 0,.int .u64 id,.int .u16 0,.int .u16 0,.int .i64 (-1),.int .i64 ta,.int .i64 mx,.int .i64 hl,.int .i64 dl,.slice none 0 0,.slice none 0 0,.slice none 0 0])) rfl (bL rfl 35 _ rfl [(0,.int .u64 id),(1,.bool rst),(2,.agg #[.int .i64 ta,.int .i64 mx,.int .i64 hl,.int .i64 dl]),(3,.int .i64 hold),(4,.agg #[.int .u64 id,.int .u32 0,.int .u64 id,.int .u16 0,.int .u16 0]),(5,.int .i64 (-1)),(6,.agg #[.int .i64 ta,.int .i64 mx,.int .i64 hl,.int .i64 dl])] rfl #[.int .u64 id,.bool rst,.int .i64 ta,.int .i64 mx,.int .i64 hl,.int .i64 dl,.int .i64 hold,.int .u64 id,.int .u32 0,.int .u64 id,.int .u16 0,.int .u16 0,.int .i64 (-1),.int .i64 ta,.int .i64 mx,.int .i64 hl,.int .i64 dl,.slice none 0 0,.slice none 0 0,.slice none 0 0] (aIU _ _ _ _ _ _ _)) hq2 ?_
  refine bB (i:=9) rfl rfl (by kernel_rfl) (fun K hK=>?_)
  refine gY rfl 35 _ _ rfl BB 0 _ #[.int .u64 id,.bool rst,.int .i64 ta,.int .i64 mx,.int .i64 hl,.int .i64 dl,.int .i64 hold,.int .u64 id,.int .u32 0,.int .u64 id,.int .u16 0,.int .u16 0,.int .i64 (-1),.int .i64 ta,.int .i64 mx,.int .i64 hl,.int .i64 dl,.slice none 0 0,.slice none 0 0,.slice none 0 0] oR #[.int .u64 id,.bool rst,.int .i64 ta,.int .i64 mx,.int .i64 hl,.int .i64 dl,.int .i64 hold,.int .u64 id,.int .u32 0,.int .u64 id,.int .u16 0,.int .u16 0,.int .i64 (-1),.int .i64 ta,.int .i64 mx,.int .i64 hl,.int .i64 dl,.slice none 0 0,.slice none 0 0,.slice none 0 0] 35 rfl rfl rfl hvb (by exact(by decide:0+20≤20)) (by kernel_rfl) rfl rfl (fun wz hrow hm=>?_)
  have hxz:Ext w1 wz:=Ext.mutE hq2 hm (fun j hj h=>by have h2:j=BB:=h;omega)
  refine hK.out _ _ hxz (fun _=>?_)
  try simp only[ps]
  clear hK K
  refine wpAnyH_done (by kernel_rfl) ?_ _
  go_wp2_with fail
  go_meet
  exact⟨BB,rfl,hrow,hxz,hbw⟩
theorem aCO{w:World}{base size n g cap:Nat}{e:TypeId}{xs:List Value}(h:w.ownsRow base e size (.slice (some ⟨g,0,none⟩) n cap) n xs):w.rangeAt g 0 xs:=fun j v hv=>by
 rcases h.2 with ⟨h0,-⟩|⟨g2,cap2,cur,e1,e2,e3,e4,e5,e6,e7⟩
 ·cases h0
 ·cases e1
  rw[Nat.zero_add,cell_of_row _ _ _ _ _ _ e3]
  rw[←e7,List.getElem?_take]at hv
  split at hv
  ·simpa using hv
  ·cases hv
def readB(w:World)(g n:Nat):List Bool:=(List.range n).map fun i=>match w.cell? ⟨g,i,none⟩with|some (.bool b)=>b|_=>false
theorem RowAt.ownG{w:World}{base n m:Nat}{e:TypeId}{v:Value}{xs:List Value}{f:Nat→List Value}(h:w.ownsRow base e m v n xs)(hn:n≤1000)(hxs:∀i,i<n→∀j x,(f i)[j]?=some x→xs[i*m+j]?=some x):RowAt w v n m f:=by
 obtain⟨a,cap,rfl⟩:=fB h
 refine⟨a,cap,rfl,by omega,fun h0=>?_⟩
 rcases h.2 with ⟨e,e2⟩|⟨g,cap2,cur,e,hb,hg,hn2,hm,hs,ht⟩
 ·omega
 ·cases e
  refine⟨g,0,rfl,aC hg,hn2,by unfold maxLen at hm;omega,fun i hi j v hv=>?_⟩
  have h2:=aCO h (i*m+j) v (hxs i hi j v hv)
  rw[Nat.zero_add]at h2 ⊢
  exact h2
def rU(l:List Pt):List Value:=l.flatMap Pt.L
theorem PtsAt.own{w:World}{base:Nat}{e:TypeId}{v:Value}{L:List Pt}(h:w.ownsRow base e 5 v L.length (rU L))(hL:L.length≤1000):PtsAt w v L :=
 RowAt.ownG h hL (fun i hi j x hx=>mV Pt.L 5 (fun _=>rfl) default L i j x hi hx)
theorem aAK:(Tryz.prog.info? 73).map (fun i=>(i.zero,i.size,i.bytes))=some (some (.agg SUZ),5,12):=by kernel_rfl
theorem aL2(a b:Int)(x y z:Bool):Tryz.prog.built 73 [(0,.int .u16 a),(1,.int .u32 b),(2,.bool x),(3,.bool y),(4,.bool z)]=some #[.int .u16 a,.int .u32 b,.bool x,.bool y,.bool z]:=by kernel_rfl
theorem aIV(a b:Int)(x y z:Bool):Instr.fill (fun i=>some (i*5,5)) ((Array.range (1*5)).map (SUZ[· % SUZ.size]!)) [(0,.agg #[.int .u16 a,.int .u32 b,.bool x,.bool y,.bool z])]=some #[.int .u16 a,.int .u32 b,.bool x,.bool y,.bool z]:=by kernel_rfl
theorem yT(w:World)(pv:Value)(P:List Pt)(hP:PtsAt w pv P)(hn:P.length≤40):Calls Tryz.prog 12 #[pv] w fun e w'=>∃v,e=.returned v∧PtsAt w' v P∧Ext w w':=by
 obtain⟨pa,pcap,hpe,hpm,hpf⟩:=hP
 obtain⟨n,hn0⟩:∃m,P.length=m:=⟨_,rfl⟩
 rw[hn0]at hpe hpm hpf hn
 subst hpe
 have HPF:=hD (show 0<n→∃b off,pa=some ⟨b,off,none⟩∧b<w.heap.size∧n≤pcap∧pcap≤9223372036854775807∧∀i,i<n→w.rangeAt b (off+i*5) (P.getD i default).L from hpf)
 have HNN:=hD hn0
 obtain⟨i3,hi9,hz9,hs9,hb9⟩:=info_parts aAK
 have I3:=hD (And.intro hi9 (And.intro hz9 (And.intro hs9 hb9)))
 clear hi9 hz9 hs9 hb9 hpf hn0 hpm
 go_enter Tryz.func12,Tryz.ntmps12
 go_wp2_with fail
 go_loopw [4,3] (fun s u wr=>∃(k:Nat) (v:Value) (wo:World),wo=wr∧v=u∧s=.int .i64 k∧k≤n∧wo.ownsRow w.heap.size 73 5 v k ((P.take k).flatMap Pt.L)∧Ext w wo) (fun s _ _=>n - (intOf s).toNat)
 case atStart=>exact⟨0,_,_,rfl,rfl,rfl,by omega,⟨by simp,.inl ⟨rfl,rfl⟩⟩,Ext.refl w⟩
 case round =>
  obtain⟨k,u,wo,rfl,rfl,rfl,hk,hown,hx⟩:=hrel
  rename World=>wl
  obtain⟨a3,c3,rfl⟩:=fB hown
  have HO:=hD hown
  have HXL:=hD hx
  have HBL:=hD hx.size
  clear hown hx
  by_cases hlt:k<n
  ·have dlt:decide ((k:Int)<(n:Int))=true:=by simp;omega
   have hup:IntKind.i64.wrap ((k:Int)+1)=((k+1:Nat):Int):=by rw[IntKind.wrap_i64];omega
   obtain⟨pb,po,rfl,hpb,hcp1,hcp2,hp4⟩:=HPF.out (by omega)
   obtain⟨p,hp⟩:∃p,P.getD k default=p:=⟨_,rfl⟩
   have RS:=hD (show wl.rangeAt pb (po+k*5) p.L from by
    have h4:=lV (hp4 k hlt) HXL.out hpb
    rw[hp]at h4
    exact h4)
   have HPB:=hD (show pb<wl.heap.size from nL hpb HBL.out)
   have HPW:=hD hpb
   have HTK:=hD (show(P.take (k+1)).flatMap Pt.L=(P.take k).flatMap Pt.L++p.L from by
    rw[rM P default (by rw[HNN.out];exact hlt),hp,List.flatMap_append]
    simp)
   obtain⟨p1,p2,p3,p4,p5⟩:=p
   clear hp4 hp hpb
   go_wp2_with fail
   have HCELL:=hD (show ∀W',Mut (fun g=>Value.ownBlock (.slice a3 k c3)=some g) wl W'→∀p:Addr,p.block=pb→W'.cell? p=wl.cell? p from fun W' h p hp=>h.cell (p:=p) (by rw[hp];exact HPB.out) (fun h2=>by rw[hp]at h2;have h3:=(gO HO.out h2).1;have h4:=HPW.out;omega))
   refine aT (S:=fun W'=>Mut (fun g=>Value.ownBlock (.slice a3 k c3)=some g) wl W') (by kernel_rfl) ?_
   intro wd hqx
   have hq0:Mut (fun g=>Value.ownBlock (.slice a3 k c3)=some g) wl wd:=hqx.mut _
   refine bO 0 ((.slice a3 k c3)) rfl hq0 ?_
   refine bO 1 ((.slice (some ⟨pb,po,none⟩) n pcap)) rfl hq0 ?_
   refine bO 2 ((.int .i64 (k:Int))) rfl hq0 ?_
   refine tL 3 ((.pointer (some ⟨pb,po+k*5,none⟩))) rfl (Or.inl ⟨rfl,fun W' _=>by go_simp<;>(intro h;omega)⟩) hq0 ?_
   refine aH 4 pb (po+k*5) rfl hq0 ?_
   refine tL 5 (_) rfl (aA rfl 28 _ rfl ⟨pb,po+k*5,none⟩ rfl (.int .u16 p1) _ (fun W' hW'=>(show W'.cell? ⟨pb,po+k*5+0,none⟩=_ from(HCELL.out W' hW' ⟨pb,po+k*5+0,none⟩ rfl).trans (RS.out 0 _ rfl))) Tryz.underlying28 rfl) hq0 ?_
   refine bO 6 ((.slice (some ⟨pb,po,none⟩) n pcap)) rfl hq0 ?_
   refine bO 7 ((.int .i64 (k:Int))) rfl hq0 ?_
   refine tL 8 ((.pointer (some ⟨pb,po+k*5,none⟩))) rfl (Or.inl ⟨rfl,fun W' _=>by go_simp<;>(intro h;omega)⟩) hq0 ?_
   refine aH 9 pb (po+k*5+1) rfl hq0 ?_
   refine tL 10 (_) rfl (aA rfl 27 _ rfl ⟨pb,po+k*5+1,none⟩ rfl (.int .u32 p2) _ (fun W' hW'=>(show W'.cell? ⟨pb,po+k*5+1,none⟩=_ from(HCELL.out W' hW' ⟨pb,po+k*5+1,none⟩ rfl).trans (RS.out 1 _ rfl))) Tryz.underlying27 rfl) hq0 ?_
   refine bO 11 ((.slice (some ⟨pb,po,none⟩) n pcap)) rfl hq0 ?_
   refine bO 12 ((.int .i64 (k:Int))) rfl hq0 ?_
   refine tL 13 ((.pointer (some ⟨pb,po+k*5,none⟩))) rfl (Or.inl ⟨rfl,fun W' _=>by go_simp<;>(intro h;omega)⟩) hq0 ?_
   refine aH 14 pb (po+k*5+2) rfl hq0 ?_
   refine tL 15 (_) rfl (aA rfl 4 _ rfl ⟨pb,po+k*5+2,none⟩ rfl (.bool p3) _ (fun W' hW'=>(show W'.cell? ⟨pb,po+k*5+2,none⟩=_ from(HCELL.out W' hW' ⟨pb,po+k*5+2,none⟩ rfl).trans (RS.out 2 _ rfl))) Tryz.underlying4 rfl) hq0 ?_
   refine bO 16 ((.slice (some ⟨pb,po,none⟩) n pcap)) rfl hq0 ?_
   refine bO 17 ((.int .i64 (k:Int))) rfl hq0 ?_
   refine tL 18 ((.pointer (some ⟨pb,po+k*5,none⟩))) rfl (Or.inl ⟨rfl,fun W' _=>by go_simp<;>(intro h;omega)⟩) hq0 ?_
   refine aH 19 pb (po+k*5+3) rfl hq0 ?_
   refine tL 20 (_) rfl (aA rfl 4 _ rfl ⟨pb,po+k*5+3,none⟩ rfl (.bool p4) _ (fun W' hW'=>(show W'.cell? ⟨pb,po+k*5+3,none⟩=_ from(HCELL.out W' hW' ⟨pb,po+k*5+3,none⟩ rfl).trans (RS.out 3 _ rfl))) Tryz.underlying4 rfl) hq0 ?_
   refine bO 21 ((.slice (some ⟨pb,po,none⟩) n pcap)) rfl hq0 ?_
   refine bO 22 ((.int .i64 (k:Int))) rfl hq0 ?_
   refine tL 23 ((.pointer (some ⟨pb,po+k*5,none⟩))) rfl (Or.inl ⟨rfl,fun W' _=>by go_simp<;>(intro h;omega)⟩) hq0 ?_
   refine aH 24 pb (po+k*5+4) rfl hq0 ?_
   refine tL 25 (_) rfl (aA rfl 4 _ rfl ⟨pb,po+k*5+4,none⟩ rfl (.bool p5) _ (fun W' hW'=>(show W'.cell? ⟨pb,po+k*5+4,none⟩=_ from(HCELL.out W' hW' ⟨pb,po+k*5+4,none⟩ rfl).trans (RS.out 4 _ rfl))) Tryz.underlying4 rfl) hq0 ?_
   refine tL 26 ((.agg #[.int .u16 p1,.int .u32 p2,.bool p3,.bool p4,.bool p5])) rfl (bL rfl 73 _ rfl [(0,.int .u16 p1),(1,.int .u32 p2),(2,.bool p3),(3,.bool p4),(4,.bool p5)] rfl #[.int .u16 p1,.int .u32 p2,.bool p3,.bool p4,.bool p5] (aL2 _ _ _ _ _)) hq0 ?_
   refine bB (i:=27) rfl rfl (by kernel_rfl) (fun K hK=>?_)
   refine wp_buildSlice 38 73 1 _ rfl #[.int .u16 p1,.int .u32 p2,.bool p3,.bool p4,.bool p5] i3 (.agg SUZ) Tryz.underlying38 I3.out.1 I3.out.2.1 (by rw[I3.out.2.2.1];decide) (by rw[I3.out.2.2.1];decide) (by rw[I3.out.2.2.1,Array.toList_map];exact aIV _ _ _ _ _) ?_
   have hy:Ext wd (wd.alloc (.cells #[.int .u16 p1,.int .u32 p2,.bool p3,.bool p4,.bool p5] 73)):=(Ext.refl _).alloc _
   have hnw:=heap_alloc_new wd (.cells #[.int .u16 p1,.int .u32 p2,.bool p3,.bool p4,.bool p5] 73)
   obtain⟨wn,hwa⟩:∃W,wd.alloc (.cells #[.int .u16 p1,.int .u32 p2,.bool p3,.bool p4,.bool p5] 73)=W:=⟨_,rfl⟩
   obtain⟨bn,hnb⟩:∃m,wd.heap.size=m:=⟨_,rfl⟩
   rw[hwa]at hnw hy ⊢
   rw[hnb]at hnw ⊢
   clear hwa hnb
   have hxn:Ext wl wn:=hqx.trans hy
   have hO2:=j2 HO.out hxn
   have hbw:w.heap.size≤wn.heap.size:=Nat.le_trans HBL.out hxn.size
   refine hK.out _ _ (hxn.mut _) (fun _=>?_)
   try simp only[ps]
   clear hK K
   refine bB (i:=28) rfl rfl (by kernel_rfl) (fun K hK=>?_)
   refine jB _ _ 38 rfl w.heap.size 73 i3 (.agg SUZ) 5 12 Tryz.underlying38 I3.out.1 I3.out.2.1 I3.out.2.2.1 I3.out.2.2.2 rfl (by decide) (.slice a3 k c3) k ((P.take k).flatMap Pt.L) rfl hO2 ⟨bn,0,none⟩ 1 1 [.int .u16 p1,.int .u32 p2,.bool p3,.bool p4,.bool p5] rfl rfl ?hnews (fun u hu=>by
       have hu2:=hu
       simp only[List.mem_cons,List.not_mem_nil,or_false]at hu2
       rcases hu2 with rfl|rfl|rfl|rfl|rfl<;>rfl) (by unfold maxLen;omega) (by omega) hbw ?hfin
   case hnews=>exact fun j u hu=>World.news_of_block hnw j u (by simpa using hu)
   case hfin =>
   intro v6 wa ho6 hg6 hloc
   have hfr:Mut (fun g=>Value.ownBlock (.slice a3 k c3)=some g) wl wa:=(hxn.mut _).trans (rN hg6)
   obtain⟨a6,c6,rfl⟩:=fB ho6
   have HO6:=hD (show wa.ownsRow w.heap.size 73 5 (.slice a6 (k+1) c6) (k+1) ((P.take (k+1)).flatMap Pt.L)from by rw[HTK.out];exact ho6)
   have HX6:=hD (show Ext w wa from HXL.out.mutE hfr (fun g h1 h2=>by have h3:=(gO HO.out h2).1;omega))
   refine hK.out _ _ hfr (fun _=>?_)
   try simp only[ps]
   clear hK K
   refine bO 29 ((.slice a6 (k+1) c6)) rfl hfr ?_
   clear hfr hloc ho6 hg6 hbw hO2 hxn hy hnw hq0 hqx
   refine wpAnyH_done (by kernel_rfl) ?_ _
   go_wp2_with fail
   go_roundw
   case rel=>exact⟨k+1,_,_,rfl,rfl,by go_num,hlt,HO6.out,HX6.out⟩
   case measure=>simp[intOf];omega
  ·have dlt:decide ((k:Int)<(n:Int))=false:=by simp;omega
   obtain rfl:n=k:=by omega
   have hown:=HO.out
   rw[List.take_of_length_le (by rw[HNN.out];exact Nat.le_refl _)]at hown
   have HP:=hD (show PtsAt wl (.slice a3 n c3) P from by
    have h2:=hown
    rw[←HNN.out]at h2 ⊢
    exact PtsAt.own h2 (by rw[HNN.out];omega))
   clear hown
   go_wp2_with fail
   go_ret
   exact⟨_,rfl,HP.out,HXL.out⟩
theorem aKY{P:Program}{op:Oper}{a:Act}{w:World}{K:Act→World→Prop}{Q:Exit→Act→World→Prop}(hdst:op.dst=none)(ty:TypeId)(x y:Operand)(ho:op.op=.store ty x y)(g:Nat)(vs cs:Array Value)(t:TypeId)(hx:a.eval x=.pointer (some ⟨g,0,none⟩))(hy:a.eval y=.agg vs)(hX:w.heap[g]?=some (.cells cs t (0,0)))(hn:vs.size=cs.size)(hi:(P.info? ty).map (·.size)=some cs.size)(h1:vs.toList.all (·.oneCell')=true)(h:∀w',w'.heap[g]?=some (.cells vs t (0,0))→Mut (fun n=>n=g) w w'→K a w'):op.wp P a w K Q :=
 gY hdst ty x y ho g 0 (.agg vs) vs cs vs t hx hy rfl hX (by omega) (by rw[hn];exact hi) h1 (by
  rw[List.drop_eq_nil_of_le (by rw[Array.length_toList];omega)]
  simp) h
theorem nQ{P:Program}{ops:Array Oper}{rest:List Oper}{op:Oper}{a:Act}{w:World}{Q:Exit→Act→World→Prop}(hgd:op.guard=none)(hdst:op.dst=none)(ty:TypeId)(x y:Operand)(ho:op.op=.store ty x y)(g:Nat)(vs cs:Array Value)(t:TypeId)(hx:a.eval x=.pointer (some ⟨g,0,none⟩))(hy:a.eval y=.agg vs)(hX:w.heap[g]?=some (.cells cs t (0,0)))(hn:vs.size=cs.size)(hi:(P.info? ty).map (·.size)=some cs.size)(h1:vs.toList.all (·.oneCell')=true)(h:∀w',w'.heap[g]?=some (.cells vs t (0,0))→Mut (fun n=>n=g) w w'→wpList P ops Q rest a w'):wpList P ops Q (op :: rest) a w :=
 dS hgd hdst ty x y ho g 0 (.agg vs) vs cs vs t hx hy rfl hX (by omega) (by rw[hn];exact hi) h1 (by
  rw[List.drop_eq_nil_of_le (by rw[Array.length_toList];omega)]
  simp) h
def zB:Br:=⟨[.int .u64 0,.bool false,.int .i64 0,.int .i64 0,.int .i64 0,.int .i64 0,.int .i64 0,.int .u64 0,.int .u32 0,.int .u64 0,.int .u16 0,.int .u16 0,.int .i64 0,.int .i64 0,.int .i64 0,.int .i64 0,.int .i64 0],0,[],0,[],0,[]⟩
def pick(ok:Bool)(B:Br):Br:=if ok=true then B else zB
theorem NewIs.sz{w w':World}{c:Array Value}{ok rst:Bool}{id ta mx hl dl hold:Int}{P:List Pt}(h:NewIs w w' c ok (oG id rst ta mx hl dl hold P)):c.size=20∧c.toList.all (·.oneCell')=true:=by
 rcases h with ⟨rfl,u,rfl,hown⟩|⟨rfl,rfl⟩
 ·obtain⟨a,cp,rfl⟩:=fB hown
  exact⟨rfl,rfl⟩
 ·exact⟨rfl,rfl⟩
theorem vQ{N:Nat→Prop}{X g k:Nat}{w:World}{B:Br}(h:WB N X g B w)(ho:B.ok)(hk:k<B.np)(hn:B.np≤1000):Calls Tryz.prog 27 #[.pointer (some ⟨X,0,none⟩),.int .i64 (k:Int)] w fun e w'=>e=.returned (.pointer (some ⟨g,k*89,none⟩))∧w=w':=by
 obtain⟨cap,c17,hc1,hc2⟩:=BrG.cell17 h ho
 have d0:decide ((k:Int)<0)=false:=by simp
 have d1:decide ((k:Int)≥(B.np:Int))=false:=by simp;omega
 go_enter Tryz.func27,Tryz.ntmps27
 go_wp2_with fail
 go_ret
 exact⟨by simp,rfl⟩
theorem WB.setp{N:Nat→Prop}{X g k j:Nat}{w:World}{B:Br}(h:WB N X g B w)(hk:k<B.np)(hj:j<89)(v:Value):WB N X g (B.setp k j v) (w.setCell ⟨g,k*89+j,none⟩ v) :=
 (BrG.setp h hk hj v).mono (fun n hn=>by simpa using hn)
theorem qB{N:Nat→Prop}{X g k:Nat}{w:World}{B:Br}(h:WB N X g B w)(ho:B.ok)(hk:k<B.np)(hn:B.np≤1000)(b:Bool):Calls Tryz.prog 18 #[.pointer (some ⟨X,0,none⟩),.int .i64 (k:Int),.bool b] w (So N X g (fun d B'=>(B.gb k 2=b∧d=false∧B'=B)∨(B.gb k 2≠b∧d=true∧B'=B.setp k 2 (.bool b))) w):=by
 have c2:w.cell? ⟨g,k*89+2,none⟩=some (.bool (B.gb k 2)):=(BrG.cellg h (i:=k*89+2) (by omega)).trans (ho.gb hk 2 rfl)
 have f2:w.frozen? ⟨g,k*89+2,none⟩=false:=BrG.frozen h (k*89+2)
 have HP:=hD (vQ h ho hk hn)
 have H:=hD h
 obtain⟨x,hx⟩:∃x,B.gb k 2=x:=⟨_,rfl⟩
 rw[hx]at c2 ⊢
 clear h hx
 go_enter Tryz.func18,Tryz.ntmps18
 go_wp2_with fail
 refine HP.out.mono ?_
 rintro e w' ⟨rfl,rfl⟩
 clear HP
 cases x<;>cases b
 ·go_wp2_with fail
  go_ret
  exact⟨_,_,rfl,H.out,Mut.refl _ w,by simp⟩
 ·go_wp2_with fail
  go_ret
  exact⟨_,_,rfl,WB.setp H.out hk (by decide) _,(Mut.refl _ w).setCell (.inl (BrG.F2 H.out).1) _,.inr ⟨by decide,rfl,rfl⟩⟩
 ·go_wp2_with fail
  go_ret
  exact⟨_,_,rfl,WB.setp H.out hk (by decide) _,(Mut.refl _ w).setCell (.inl (BrG.F2 H.out).1) _,.inr ⟨by decide,rfl,rfl⟩⟩
 ·go_wp2_with fail
  go_ret
  exact⟨_,_,rfl,H.out,Mut.refl _ w,by simp⟩
theorem WB.ext{N:Nat→Prop}{X g:Nat}{w w':World}{B:Br}(h:WB N X g B w)(hx:Ext w w'):WB N X g B w' :=
 (BrG.ext h hx).mono (fun n hn=>⟨hn.1,nL hn.2 hx.size⟩)
theorem aL3:zd.ok:=zd_ki.ok
def TmW:Array Value:=#[.int .i64 0,.int .i64 20,.int .i64 2,.int .i64 15]
def TmZ:Array Value:=#[.int .i64 0,.int .i64 0,.int .i64 0,.int .i64 0]
theorem aIW:Tryz.prog.built 24 [(1,.int .i64 20),(2,.int .i64 2),(3,.int .i64 15)]=some TmW:=by kernel_rfl
theorem aAL:∀w,(zeroValue 24).run Tryz.prog w=.ok (.agg TmZ) w:=(zero_of_info (P:=Tryz.prog) (t:=24) (v:=.agg TmZ) (n:=4) (by kernel_rfl)).1
theorem aL5:Tryz.prog.built 73 [(0,.int .u16 1),(1,.int .u32 5),(3,.bool true)]=some #[.int .u16 1,.int .u32 5,.bool false,.bool true,.bool false]:=by kernel_rfl
theorem aL6:oG 7 true 0 20 2 15 6 [⟨1,5,false,true,false⟩]=zd:=rfl
theorem aAM{P:List Pt}(h:P.length≤32):lM (oG 7 true 0 20 2 15 6 P):=(pZ (id:=7) (hold:=6) (rst:=true) (P:=P) h).2 (by omega)
theorem aKL{P:Program}{ops:Array Oper}{rest:List Oper}{a:Act}{w:World}{Q:Exit→Act→World→Prop}(T:TypeId){d:Option Tmp}{n:Nat}{x:Array (Nat × Operand)}{ty:TypeId}{pos:String}{af:Array Edge}(h:wpList P ops Q ({ dst:=d,op:=.buildSlice T n x,type:=ty,pos:=pos,after:=af,guard:=none } :: rest) a w):wpList P ops Q ({ dst:=d,op:=.buildSlice T n x,type:=ty,pos:=pos,after:=af,guard:=none } :: rest) a w:=h
theorem aFN{w:World}{N:Nat→Prop}{X base:Nat}{u:Value}{B:Br}(hX:w.heap[X]?=some (.cells (B.hd++[u,.slice none 0 0,.slice none 0 0]).toArray 35 (0,0)))(ho:w.ownsRow base 60 89 u B.np B.ps)(hp:0<B.np)(hb:∀n,base≤n→N n)(hNX:N X)(h0:B.no=0∧B.os=[]∧B.nf=0∧B.fl=[]):∃g,WB N X g B w:=by
 obtain⟨h1,h2,h3,h4⟩:=h0
 rcases ho.2 with ⟨e,e2⟩|⟨g,cap,cur,rfl,hb2,hg,hn2,hm,hs,ht⟩
 ·omega
 ·refine⟨g,⟨hNX,aC hX⟩,⟨hb _ (by omega),aC hg⟩,cap,cur,_,_,hX,hg,hs,hn2,hm,ht,?_,?_,fun h hh=>(by cases hh),fun h hh=>(by cases hh)⟩
  ·rw[h1,h2];exact⟨by simp,.inl ⟨rfl,rfl⟩⟩
  ·rw[h3,h4];exact⟨by simp,.inl ⟨rfl,rfl⟩⟩
theorem aCP(w:World):Calls Tryz.prog 10 #[] w fun e w'=>e=.returned (.bool true)∧Ext w w':=by
 obtain⟨i3,hi9,hz9,hs9,hb9⟩:=info_parts aAK
 have I3:=hD (And.intro hi9 (And.intro hz9 (And.intro hs9 hb9)))
 clear hi9 hz9 hs9 hb9
 go_enter Tryz.func10,Tryz.ntmps10
 go_wp2_with (first
  | fail
  | ((with_reducible refine cJ 24 ?_);refine bG rfl 24 _ rfl _ rfl _ aIW ?_)
  | ((with_reducible refine bS 24 ?_);refine b6 rfl 24 rfl TmZ aAL ?_
     intro Y w1 hq hsz hx)
  | ((with_reducible refine aD 24 ?_);refine dS rfl rfl 24 _ _ rfl Y 0 _ TmW TmZ TmW 24 rfl rfl rfl hq (by exact(by decide:0+4≤4)) (by kernel_rfl) rfl rfl ?_
     intro w2 hq2 hm2
     have HY:=hD hq2
     have HX:=hD (show Ext w w2 from hx.mutE hm2 (fun g hg h=>by have h2:g=Y:=h;omega))
     clear hq hsz hx hq2 hm2 w1)
  | ((with_reducible refine aG 24 ?_);refine wpList_load_row rfl 24 _ rfl Y rfl 24 TmW (0,0) _ HY.out Tryz.underlying24 rfl mX ?_))
 refine(nP 7 0 20 2 15 6 true (.slice none 0 0) [] w2 ⟨none,0,rfl,by decide,fun h=>absurd h (by decide)⟩ (by decide) (by decide) (by decide) (fun p hp=>by cases hp) rfl rfl rfl rfl).mono ?_
 rintro e w3 ⟨c,ok,rfl,hok,hnew,hx3⟩
 obtain rfl:ok=true:=hok.2 (aAM (by decide))
 rcases hnew with ⟨-,u,rfl,hown⟩|⟨h,-⟩
 case inr=>cases h
 obtain⟨a,cp,rfl⟩:=fB hown
 have HY3:=hD ((hx3.block Y (aC HY.out)).trans HY.out)
 have HX3:=hD (HX.out.trans hx3)
 clear hok hown hx3 HX HY
 go_wp2_with (first
  | fail
  | ((with_reducible refine bS 35 ?_);refine b6 rfl 35 rfl oR jK ?_
     intro X w4 hq hsz hx)
  | ((with_reducible refine aD 35 ?_);refine dS rfl rfl 35 _ _ rfl X 0 _ #[.int .u64 7,.bool true,.int .i64 0,.int .i64 20,.int .i64 2,.int .i64 15,.int .i64 6,.int .u64 7,.int .u32 0,.int .u64 7,.int .u16 0,.int .u16 0,.int .i64 (-1),.int .i64 0,.int .i64 20,.int .i64 2,.int .i64 15,.slice a 0 cp,.slice none 0 0,.slice none 0 0] oR #[.int .u64 7,.bool true,.int .i64 0,.int .i64 20,.int .i64 2,.int .i64 15,.int .i64 6,.int .u64 7,.int .u32 0,.int .u64 7,.int .u16 0,.int .u16 0,.int .i64 (-1),.int .i64 0,.int .i64 20,.int .i64 2,.int .i64 15,.slice a 0 cp,.slice none 0 0,.slice none 0 0] 35 rfl rfl rfl hq (by exact(by decide:0+20≤20)) (by kernel_rfl) rfl rfl ?_
     intro w5 hq5 hm5
     have c17:w5.cell? ⟨X,17,none⟩=some (.slice a 0 cp):=by rw[bA hq5];rfl
     have hx5:Ext w3 w5:=hx.mutE hm5 (fun g hg h=>by have h2:g=X:=h;omega)
     have HY5:=hD ((hx5.block Y (aC HY3.out)).trans HY3.out)
     have HX5:=hD (HX3.out.trans hx5)
     clear hq hsz hx hq5 hm5 hx5 HY3 HX3 w4))
 refine(aFL w5 X c17).mono ?_
 rintro e w' ⟨rfl,rfl⟩
 clear c17
 go_wp2_with (first
  | fail
  | ((with_reducible refine aG 24 ?_);refine wpList_load_row rfl 24 _ rfl Y rfl 24 TmW (0,0) _ HY5.out Tryz.underlying24 rfl mX ?_)
  | ((with_reducible refine cJ 73 ?_);refine bG rfl 73 _ rfl _ rfl _ aL5 ?_)
  | ((with_reducible refine aKL 38 ?_);refine wpList_buildSlice rfl 38 73 1 _ rfl #[.int .u16 1,.int .u32 5,.bool false,.bool true,.bool false] i3 (.agg SUZ) Tryz.underlying38 I3.out.1 I3.out.2.1 (by rw[I3.out.2.2.1];decide) (by rw[I3.out.2.2.1];decide) (by rw[I3.out.2.2.1,Array.toList_map];exact aIV _ _ _ _ _) ?_
     have hq6:=heap_alloc_new w5 (.cells #[.int .u16 1,.int .u32 5,.bool false,.bool true,.bool false] 73)
     have hx6:Ext w5 (w5.alloc (.cells #[.int .u16 1,.int .u32 5,.bool false,.bool true,.bool false] 73)):=(Ext.refl _).alloc _
     obtain⟨V,hV⟩:∃Z,w5.heap.size=Z:=⟨_,rfl⟩
     rw[hV]at hq6 ⊢
     obtain⟨w6,hw6⟩:∃W,w5.alloc (.cells #[.int .u16 1,.int .u32 5,.bool false,.bool true,.bool false] 73)=W:=⟨_,rfl⟩
     rw[hw6]at hq6 hx6 ⊢
     have HX6:=hD (HX5.out.trans hx6)
     have HQ6:=hD hq6
     clear hw6 hV hx6 hq6 HX5 HY5))
 refine (nP 7 0 20 2 15 6 true (.slice (some ⟨V,0,none⟩) 1 1) [⟨1,5,false,true,false⟩] w6 ⟨_,1,rfl,by decide,fun _=>⟨V,0,rfl,aC HQ6.out,by decide,by decide,fun i hi=>?hr⟩⟩ (by decide) (by decide) (by decide) (fun p hp=>by
  obtain rfl:p=⟨1,5,false,true,false⟩:=by simpa using hp
  exact⟨by decide,by decide,by decide⟩) rfl rfl rfl rfl).mono ?_
 case hr =>
  obtain rfl:i=0:=by have h1:i<1:=hi;omega
  intro j v hv
  rw[show(0+0*5+j)=j from by omega,bA HQ6.out,List.getElem?_toArray]
  exact hv
 rintro e w7 ⟨c,ok,rfl,hok,hnew,hx7⟩
 obtain rfl:ok=true:=hok.2 (aAM (by decide))
 have HSZ:=hD hnew.sz
 rcases hnew with ⟨-,u,hc,hown⟩|⟨h,-⟩
 case inr=>cases h
 rw[aL6]at hown hc
 have HC:=hD hc
 have HO7:=hD hown
 have HX7:=hD hx7
 clear hok hown hx7 HQ6 hc
 go_wp2_with (first
  | fail
  | ((with_reducible refine bS 35 ?_);refine b6 rfl 35 rfl oR jK ?_
     intro X w8 hq hsz hx)
  | ((with_reducible refine aD 35 ?_);refine nQ rfl rfl 35 _ _ rfl X c oR 35 rfl rfl hq HSZ.out.1 fP HSZ.out.2 ?_
     intro w9 hq9 hm9
     have HQ9:=hD hq9
     have HO9:=hD (lB (j2 HO7.out hx) hm9 (fun g h1 h2=>by have h3:g=X:=h2;have h4:=(gO HO7.out h1).2;omega))
     have HX9:=hD (show Ext w6 w9 from HX7.out.trans (hx.mutE hm9 (fun g hg h=>by have h2:g=X:=h;omega)))
     have HXN:=hD (show w6.heap.size≤X from by have:=HX7.out.size;omega)
     clear hq hsz hx hq9 hm9 HO7 HX7))
 obtain⟨g,hB⟩:=aFN (N:=fun n=>w6.heap.size≤n) (B:=zd) (HC.out▸HQ9.out) HO9.out (by decide) (fun n hn=>hn) HXN.out ⟨rfl,rfl,rfl,rfl⟩
 clear HQ9 HO9 HXN HC HSZ
 obtain⟨N,hN⟩:∃N,w6.heap.size=N:=⟨_,rfl⟩
 rw[hN]at hB
 have HN9:=hD (show N≤w9.heap.size from by rw[←hN];exact HX9.out.size)
 refine(qB (k:=0) hB aL3 (by decide) (by decide) true).mono ?_
 rintro e w10 ⟨d,B',rfl,hB10,hm10,hR⟩
 rcases hR with ⟨h,-⟩|⟨-,rfl,rfl⟩
 ·exact absurd h (by decide +kernel)
 clear hB
 go_wp2_with fail
 refine(aLZ (fun n hn=>by have h1:=HN9.out;have h2:=hm10.size;show N≤n;omega) hB10).mono ?_
 rintro e w11 ⟨k,rfl,hB11,hz6,hm11⟩
 obtain⟨cap,c17,hc1,hc2⟩:=BrG.cell17 hB11 hz6
 rw[show(zs 6).np=1 from rfl]at c17 hc1
 have c87:w11.cell? ⟨g,87,none⟩=some (.int .i64 4):=(BrG.cellg hB11 (i:=87) (by decide)).trans rfl
 have c27:w11.cell? ⟨g,27,none⟩=some (.bool true):=(BrG.cellg hB11 (i:=27) (by decide)).trans rfl
 have HE:=hD (show Ext w w11 from(HX6.out.trans HX9.out).mutE (hm10.trans hm11) (fun j hj h=>by have h2:N≤j:=h;have h3:=HX6.out.size;omega))
 clear hB10 hB11 hm10 hm11 hz6
 go_wp2_with fail
 go_ret
 exact⟨rfl,HE.out⟩
def dwn(n:Int):Int:=if 0<n then n - 1 else n
theorem aH0(B:Br)(k j:Nat):(jS B k j).hd=B.hd:=by unfold jS;split<;>rfl
theorem aFO(B:Br)(k j:Nat):(jS B k j).ps.length=B.ps.length:=by unfold jS;split<;>simp
theorem vR(B:Br)(k:Nat):∀j,(eN B k j).hd=B.hd
 | 0=>rfl
 | j+1=>(aH0 _ _ _).trans (vR B k j)
theorem rV(B:Br)(k:Nat):∀j,(eN B k j).ps.length=B.ps.length
 | 0=>rfl
 | j+1=>(aFO _ _ _).trans (rV B k j)
theorem vS(B:Br):∀n,(eO B n).hd=B.hd
 | 0=>rfl
 | n+1=>(vR _ _ _).trans (vS B n)
theorem aFP(B:Br):(iE B).np=B.np:=jT B _
theorem aFQ{B:Br}(ho:B.ok):(iE B).ok:=mN ho _ (Nat.le_refl _)
theorem aCQ(B:Br)(k j:Nat):(jS B k j).no=B.no∧(jS B k j).os=B.os∧(jS B k j).nf=B.nf∧(jS B k j).fl=B.fl:=by
 unfold jS
 split<;>exact⟨rfl,rfl,rfl,rfl⟩
theorem qC(B:Br)(k:Nat):∀j,(eN B k j).no=B.no∧(eN B k j).os=B.os∧(eN B k j).nf=B.nf∧(eN B k j).fl=B.fl
 | 0=>⟨rfl,rfl,rfl,rfl⟩
 | j+1=>by
  obtain⟨a,b,c,d⟩:=aCQ (eN B k j) k j
  obtain⟨a',b',c',d'⟩:=qC B k j
  exact⟨a.trans a',b.trans b',c.trans c',d.trans d'⟩
theorem aH1(B:Br)(k j i:Nat)(h:k*89+89≤B.ps.length)(hj:j<9)(hc:B.ps[k*89+(6+j)]?=some (.int .i64 (B.gi k (6+j)))):(jS B k j).ps[i]?=if i=k*89+(6+j)then some (.int .i64 (dwn (B.gi k (6+j))))else B.ps[i]?:=by
 unfold jS dwn
 by_cases h0:0<B.gi k (6+j)
 ·rw[if_pos h0,if_pos h0]
  show(B.ps.set _ _)[i]?=_
  by_cases e:i=k*89+(6+j)
  ·rw[if_pos e,e,List.getElem?_set_self (by omega)]
  ·rw[if_neg e,List.getElem?_set_ne (by omega)]
 ·rw[if_neg h0,if_neg h0]
  by_cases e:i=k*89+(6+j)
  ·rw[if_pos e,e,hc]
  ·rw[if_neg e]
theorem vT{B:Br}(ho:B.ok){k:Nat}(hk:k<B.np):∀j,j≤9→∀i,(eN B k j).ps[i]?=if k*89+6≤i∧i<k*89+6+j then some (.int .i64 (dwn (B.gi k (i - k*89))))else B.ps[i]?
 | 0,_,i=>by rw[if_neg (by omega)];rfl
 | j+1,hj,i=>by
  have ih:=vT ho hk j (by omega)
  have okj:=mM ho hk j (by omega)
  have hkj:k<(eN B k j).np:=by rw[kS];exact hk
  show(jS (eN B k j) k j).ps[i]?=_
  rw[aH1 _ _ _ _ (by rw[rV];exact fH ho hk) (by omega) (okj.gi hkj (6+j) (aD5 j (by omega)))]
  have hg:(eN B k j).gi k (6+j)=B.gi k (6+j):=by
   unfold Br.gi
   rw[ih,if_neg (by omega)]
  rw[hg,ih]
  by_cases e:i=k*89+(6+j)
  ·rw[if_pos e,if_pos (by omega),show i - k*89=6+j by omega]
  ·rw[if_neg e]
   by_cases a:k*89+6≤i∧i<k*89+6+j
   ·rw[if_pos a,if_pos (by omega)]
   ·rw[if_neg a,if_neg (by omega)]
theorem aFR{A B:Br}{k j:Nat}(h:A.ps[k*89+j]?=B.ps[k*89+j]?):A.gi k j=B.gi k j:=by unfold Br.gi;rw[h]
theorem vU{B:Br}(ho:B.ok):∀n,n≤B.np→∀k j,k<B.np→j<89→(eO B n).ps[k*89+j]?=if k<n∧6≤j∧j<15 then some (.int .i64 (dwn (B.gi k j)))else B.ps[k*89+j]?
 | 0,_,k,j,_,_=>by
  rw[if_neg (by omega)]
  rfl
 | n+1,hn,k,j,hk,hj=>by
  have ih:=vU ho n (by omega)
  have okn:=mN ho n (by omega)
  have hnn:n<(eO B n).np:=by rw[jT];omega
  show(eN (eO B n) n 9).ps[k*89+j]?=_
  rw[vT okn hnn 9 (Nat.le_refl _)]
  by_cases e:k=n
  ·subst e
   have hg:(eO B k).gi k j=B.gi k j:=aFR (by rw[ih k j hk hj,if_neg (by omega)])
   by_cases h:6≤j∧j<15
   ·rw[if_pos (by omega),if_pos (by omega),show k*89+j - k*89=j by omega,hg]
   ·rw[if_neg (by omega),if_neg (by omega),ih k j hk hj,if_neg (by omega)]
  ·rw[if_neg (by omega),ih k j hk hj]
   by_cases h:k<n∧6≤j∧j<15
   ·rw[if_pos h,if_pos (by omega)]
   ·rw[if_neg h,if_neg (by omega)]
theorem qD{B:Br}(ho:B.ok){k j:Nat}(hk:k<B.np)(hj:j<89):(iE B).ps[k*89+j]?=if 6≤j∧j<15 then some (.int .i64 (dwn (B.gi k j)))else B.ps[k*89+j]?:=by
 unfold iE
 rw[vU ho B.np (Nat.le_refl _) k j hk hj]
 by_cases h:6≤j∧j<15
 ·rw[if_pos ⟨hk,h.1,h.2⟩,if_pos h]
 ·rw[if_neg (fun h2=>h ⟨h2.2.1,h2.2.2⟩),if_neg h]
theorem qE(B:Br):∀n,(eO B n).no=B.no∧(eO B n).os=B.os∧(eO B n).nf=B.nf∧(eO B n).fl=B.fl
 | 0=>⟨rfl,rfl,rfl,rfl⟩
 | n+1=>by
  obtain⟨a,b,c,d⟩:=qC (eO B n) n 9
  obtain⟨a',b',c',d'⟩:=qE B n
  exact⟨a.trans a',b.trans b',c.trans c',d.trans d'⟩
theorem aAN{B:Br}(ho:B.ok){k:Nat}(hk:k<B.np){j:Nat}(hj:j<6∨15≤j):pc (iE B) k j=pc B k j:=by
 by_cases h:j<89
 ·rw[jZ h,jZ h,qD ho hk h,if_neg (by omega)]
 ·rw[iB (by omega),iB (by omega)]
theorem KI.tick{n M:Nat}{B:Br}(h:KI n M (fun _=>0) B)(h0:B.no=0):KI n M (fun _=>0) (iE B):=by
 have e:∀k j,k<n→(j<6∨15≤j)→j<89→(iE B).gi k j=B.gi k j:=fun k j hk hj h2=>by
  unfold Br.gi
  rw[qD h.ok (by rw[h.np];exact hk) h2,if_neg (by omega)]
 have e14:∀k,k<n→(iE B).gi k 14=dwn (B.gi k 14):=fun k hk=>by
  unfold Br.gi
  rw[qD h.ok (by rw[h.np];exact hk) (by decide),if_pos (by decide)]
  rfl
 have hd:(iE B).hd=B.hd:=vS B _
 have hh:∀j,(iE B).hi j=B.hi j:=fun j=>by unfold Br.hi;rw[hd]
 obtain⟨r1,r2,r3,r4⟩:=qE B B.np
 refine⟨aFQ h.ok,(aFP B).trans h.np,by rw[hh,hh,hh,hh,hh];exact h.hs,by rw[hh];exact h.h13,fun k hk=>?_,⟨[],⟨?_,fun i x hx=>(by simp at hx)⟩,fun x hx=>(by simp at hx),fun k hk=>?_⟩,?_⟩
 ·have hp:=h.pt k hk
  unfold PI at hp ⊢
  rw[e14 k hk,e k 64 hk (by omega) (by decide),e k 65 hk (by omega) (by decide),e k 66 hk (by omega) (by decide),e k 67 hk (by omega) (by decide),e k 78 hk (by omega) (by decide),e k 86 hk (by omega) (by decide),e k 82 hk (by omega) (by decide)]
  unfold dwn
  split<;>omega
 ·exact h0.symm.trans r1.symm
 ·have hp:=(h.pt k hk).1
  rw[e14 k hk]
  unfold dwn
  split<;>simp<;>omega
 ·exact Nat.le_trans (Nat.le_of_eq r3) h.nf
theorem yU{N:Nat→Prop}{X g:Nat}{w:World}{B:Br}(h:WB N X g B w)(ho:B.ok)(hn:B.np<1000):Calls Tryz.prog 19 #[.pointer (some ⟨X,0,none⟩)] w fun e w'=>e=.returned (.tuple #[])∧WB N X g (iE B) w'∧Mut (fun n=>N n) w w':=by
 have HC:=hD (aD6 w _ X g B h ho hn)
 clear h
 go_enter Tryz.func19,Tryz.ntmps19
 go_wp2_with fail
 refine HC.out.mono ?_
 rintro e w' ⟨rfl,hB,hm⟩
 have HB:=hD (show WB N X g (iE B) w' from BrG.mono hB (fun n hn=>⟨hn.1,nL hn.2 hm.size⟩))
 have HM:=hD (hm.mono (fun n _ hn=>hn.1))
 clear hB hm HC
 go_wp2_with fail
 go_end0
 exact⟨rfl,HB.out,HM.out⟩
theorem tC{c d:Pc}(h:WW c)(hd:∀j,(j=15∨j=18∨j=19∨j=26∨j=28∨j=36)∨(j=43∨j=44∨j=50∨j=86∨j=87∨j=88)→d j=c j)(h35:gB d 35=true→gB d 2=true∧gB c 2=true):ZZ d:=by
 obtain⟨⟨ha,hy,hq,-,h50,h18⟩,-⟩:=h
 have e:(gB d 26=gB c 26∧gB d 28=gB c 28∧gB d 36=gB c 36∧gB d 43=gB c 43∧gB d 44=gB c 44∧gB d 50=gB c 50)∧gI d 15=gI c 15∧gI d 18=gI c 18∧gI d 19=gI c 19∧gI d 86=gI c 86∧gI d 87=gI c 87∧gI d 88=gI c 88:=by
  unfold gB gI
  rw[hd 15 (by omega),hd 18 (by omega),hd 19 (by omega),hd 26 (by omega),hd 28 (by omega),hd 36 (by omega),hd 43 (by omega),hd 44 (by omega),hd 50 (by omega),hd 86 (by omega),hd 87 (by omega),hd 88 (by omega)]
  exact⟨⟨rfl,rfl,rfl,rfl,rfl,rfl⟩,rfl,rfl,rfl,rfl,rfl,rfl⟩
 obtain⟨⟨b26,b28,b36,b43,b44,b50⟩,i15,i18,i19,i86,i87,i88⟩:=e
 refine⟨?_,?_,?_,?_,fun h=>⟨(h35 h).1,?_⟩,?_⟩
 ·unfold AI RS at ha ⊢
  rw[b26,b28,b43,b44,b50,i15,i18,i19,i86,i87,i88]
  exact ha
 ·unfold QQ at hq ⊢
  rw[b43,b44]
  exact hq
 ·rw[b36]
  exact hy.2.1
 ·rw[b50]
  exact h50
 ·have h2:=(h35 h).2
  rw[i18]
  have h3:=hy.2.2.1
  rw[h2]at h3
  unfold AI at ha
  grind
 ·rw[i18]
  exact h18
theorem oU{c:Pc}(h:WW c):ZZ c:=tC h (fun _ _=>rfl) (fun h2=>by rw[h.1.2.1.1]at h2;cases h2)
theorem aH2{B:Br}(ho:B.ok){k:Nat}(hk:k<B.np)(h:WW (pc B k)):ZZ (pc (iE B) k) :=
 tC h (fun j hj=>aAN ho hk (by omega)) (fun h2=>by
  unfold gB at h2
  rw[aAN ho hk (by decide)]at h2
  have h3:=h.1.2.1.1
  unfold gB at h3
  rw[h3]at h2
  cases h2)
def Br.nil(B:Br):Br:={ B with no:=0,os:=[],nf:=0,fl:=[] }
theorem KI.nil{n M:Nat}{s:Nat→Nat}{B:Br}(h:KI n M s B):KI n 0 (fun _=>0) B.nil :=
 ⟨⟨h.ok.hd,h.ok.ps,⟨rfl,fun i hi=>absurd hi (Nat.not_lt_zero _)⟩,⟨rfl,fun i hi=>absurd hi (Nat.not_lt_zero _)⟩⟩,h.np,h.hs,h.h13,h.pt,⟨[],⟨rfl,fun i x hx=>(by simp at hx)⟩,fun x hx=>(by simp at hx),fun k hk=>(by have:=(h.pt k hk).1;show((0+0:Nat):Int)≤B.gi k 14;omega)⟩,Nat.le_refl 0⟩
theorem KI.nil0{n M:Nat}{s:Nat→Nat}{B:Br}(h:KI n M s B):KI n M (fun _=>0) { B with no:=0,os:=[] } :=
 ⟨⟨h.ok.hd,h.ok.ps,⟨rfl,fun i hi=>absurd hi (Nat.not_lt_zero _)⟩,h.ok.fl⟩,h.np,h.hs,h.h13,h.pt,⟨[],⟨rfl,fun i x hx=>(by simp at hx)⟩,fun x hx=>(by simp at hx),fun k hk=>(by have:=(h.pt k hk).1;show((0+0:Nat):Int)≤B.gi k 14;omega)⟩,h.nf⟩
section
variable {c d:Pc} {n M:Nat} {s:Nat→Nat} {B:Br}
def DN(c:Pc):Prop:=AY c∧gB c 2=false∧gI c 87=0∧gI c 88=0
theorem aFS:CP DN:=fun c d h hp=>by
 obtain⟨⟨b2,-⟩,-,-,-,-,-,-,i87,i88⟩:=aFD h
 exact⟨aFE _ _ h hp.1,b2.trans hp.2.1,i87.trans hp.2.2.1,i88.trans hp.2.2.2⟩
theorem aKM(h:DN c):eX c=0:=by
 obtain⟨⟨ha,y1,y2,y3,y4⟩,h2,-,-⟩:=h
 unfold AI at ha
 unfold eX bX
 grind
theorem ph5:Ph (fun _=>DN):=by
 refine⟨fun _ _=>aFS,fun _ _ c h=>h.1.1,fun c d h h2=>oS aFS h.1.2 h2 h,fun _ _ _ h=>h,fun c d h h2=>?_,fun c d e h h44 h50 h2=>?_,fun _ h _=>h⟩
 ·obtain⟨d0,h1,h3⟩:=h2
  have h0:=aKM h
  rcases h3 with ⟨-,rfl⟩|⟨h3,-⟩|⟨h3,-⟩|⟨h3,-⟩|⟨h3,-⟩
  ·exact aFS _ _ h1 h
  all_goals omega
 ·obtain⟨t1,-,-,-,-,-,-,t8⟩:=vP h.1.1 h.1.2 h44 h50 h2
  obtain⟨⟨b2,-⟩,-,-,-,-,i88⟩:=kts h2.kt
  exact⟨t1,b2.trans h.2.1,t8.trans (i88.trans h.2.2.2),i88.trans h.2.2.2⟩
theorem aKN(h:DN c)(h2:SeR c d):DN d:=by
 have h0:=(yP h.1.1 h.1.2 h2).1
 obtain⟨d0,r,u,h1,rfl,-,-,hr,-,-⟩:=h2
 obtain⟨⟨b2,-⟩,-,-,-,-,-,-,i87,i88⟩:=aFD h1
 refine⟨⟨h0.1,h0.2.1⟩,?_,?_,?_⟩
 ·rw[b2]
  simp only[bE,Nat.reduceEqDiff,if_false]
  exact h.2.1
 ·rw[i87]
  simp only[aV,Nat.reduceEqDiff,if_false]
  exact h.2.2.1
 ·rw[i88]
  simp only[aV,Nat.reduceEqDiff,if_false,if_true,aA6]
  exact hr.2 (h.1.2.2.2.1.2 h.2.1)
theorem aKO(B:Br):(gA B).2.no=B.no:=by
 unfold gA
 split
 ·exact(nJ _ _).1.trans (kW B 43 _ _).1
 ·exact(kW B 43 _ _).1
theorem aL7{k:Nat}(h:B.gi k 87=0):(wC B k).2.no=B.no:=by
 have e:fR (B.gb k 45) (B.gi k 87)=false:=by
  rw[h]
  cases B.gb k 45<;>rfl
 unfold wC
 split
 ·unfold gM
  split<;>rfl
 ·split
  ·rename_i h1 h2
   unfold kV at h2
   rw[e]at h2
   simp at h2
   (repeat' split at h2)<;>omega
  ·rfl
theorem aKP{j k:Nat}(hj:j<7):(fF j B k).2.no=B.no:=by
 rcases(by omega:j=0∨j=1∨j=2∨j=3∨j=4∨j=5∨j=6)with rfl|rfl|rfl|rfl|rfl|rfl|rfl
 ·exact(aIH B k).no
 ·exact(aET B k).no
 ·exact(zQ B k).no
 ·rfl
 ·exact(aII B k).no
 ·exact(aEU B k).no
 ·exact(aEV B k).no
def aIY(n:Nat)(B:Br):Prop:=B.no=0∧∀i,i<n→DN (pc B i)
theorem aFT(hn:n<1000):Keeps n s (aIY n):=by
 refine⟨fun M B hK ha h=>?_,fun M k j B hK hk hj ha h=>?_⟩
 ·have hR:∀k,k<B.np→0≤B.gi k 78∧B.gi k 78≤65535:=fun k hk=>by
   have:=hK.pt k (by rw[←hK.np];exact hk)
   unfold PI at this
   omega
  refine⟨(aKO B).trans h.1,fun i hi=>?_⟩
  rcases s9 hK.ok hK.np hn hR (fun i hi=>(ha i hi).2.2.1)with ⟨e,-⟩|⟨-,e⟩
  ·rw[e]
   exact h.2 i hi
  ·exact aKN (h.2 i hi) (e i hi)
 ·have hP:=aAG ph5 hK hk hj (show PJ (fun _=>DN) n k j B from fun i hi=>⟨fun _=>h.2 i hi,fun _=>h.2 i hi,fun _=>h.2 i hi⟩)
  refine⟨?_,fun i hi=>?_⟩
  ·by_cases h7:j<7
   ·exact(aKP h7).trans h.1
   ·obtain rfl:j=7:=by omega
    exact(aL7 ((gN (by decide)).trans (h.2 k hk).2.2.1)).trans h.1
  ·obtain⟨a,b,c⟩:=hP i hi
   rcases Nat.lt_trichotomy i k with e|e|e
   ·exact a e
   ·exact b e
   ·exact c e
theorem aL8{rst:Bool}{P:List Pt}(hP:P.length=n){i:Nat}(hi:i<n):DN (pc (NB rst P) i):=by
 subst hP
 have cell:∀j x,j<89→(pL rst 20 2 15 (P.getD i default))[j]?=some x→pc (NB rst P) i j=some x:=fun j x hj hx=>by
  rw[jZ hj]
  exact aAD hi hx
 have b:∀j z,j<89→(pL rst 20 2 15 (P.getD i default))[j]?=some (.bool z)→gB (pc (NB rst P) i) j=z:=fun j z hj hx=>by
  unfold gB
  rw[cell j _ hj hx]
 have g:∀j z,j<89→(pL rst 20 2 15 (P.getD i default))[j]?=some (.int .i64 z)→gI (pc (NB rst P) i) j=z:=fun j z hj hx=>by
  unfold gI
  rw[cell j _ hj hx]
 unfold DN AY AI YY RS
 rw [b 2 false (by decide) rfl,b 26 false (by decide) rfl,b 28 false (by decide) rfl,b 35 false (by decide) rfl,b 36 false (by decide) rfl,b 43 true (by decide) rfl,b 44 false (by decide) rfl,b 50 false (by decide) rfl,
  g 6 3 (by decide) rfl,g 15 0 (by decide) rfl,g 18 0 (by decide) rfl,g 19 0 (by decide) rfl,g 86 0 (by decide) rfl,g 87 0 (by decide) rfl,g 88 0 (by decide) rfl]
 simp
theorem AtRest.mono(h:AtRest n s M B){M':Nat}(hM:M≤M'):AtRest n s M' B:=⟨h.1.mono hM,h.2⟩
def RQ(n:Nat)(B:Br):Prop:=AtRest n (fun _=>0) 50000 B∧B.no=0
structure rW (n:Nat) (J:Br→Prop):Prop where
 run:Keeps n (fun _=>0) J
 tick:∀B,RQ n B→J B→J (iE B)
 en:∀B k b,RQ n B→k<n→J B→J (B.setp k 2 (.bool b))
 take:∀B q m,RQ n B→MT m→J B→J (kH B q m).2
 chk:∀B k,RQ n B→k<n→J B→J (B.setp k 30 (.bool true))
 nil:∀B,J B→J B.nil
theorem Keeps.and{I J:Br→Prop}(h:Keeps n s I)(h':Keeps n s J):Keeps n s (fun B=>I B∧J B) :=
 ⟨fun M B a b c=>⟨h.sel M B a b c.1,h'.sel M B a b c.2⟩,fun M k j B a b c d e=>⟨h.st M k j B a b c d e.1,h'.st M k j B a b c d e.2⟩⟩
def AR0(n:Nat)(J:Br→Prop)(B:Br):Prop:=KI n 50000 (fun _=>0) B∧(∀i,i<n→ZZ (pc B i))∧J B
end
def VB(w:World)(base:Nat)(c:Array Value)(B:Br):Prop :=
 ∃g cap cur s2 s3,c=(B.hd++[.slice (some ⟨g,0,none⟩) B.np cap,s2,s3]).toArray∧base≤g∧w.heap[g]?=some (.cells cur 60 (0,0))∧cur.size=cap*89∧B.np≤cap∧cap≤maxLen∧cur.toList.take (B.np*89)=B.ps∧w.ownsRow base 71 18 s2 B.no B.os∧w.ownsRow base 3 1 s3 B.nf B.fl
theorem vV{w:World}{base m n:Nat}{e:TypeId}{v:Value}{xs:List Value}(h:w.ownsRow 0 e m v n xs)(hb:∀k,v.ownBlock=some k→base≤k):w.ownsRow base e m v n xs:=by
 refine⟨h.1,?_⟩
 rcases h.2 with hn|⟨g,cap,cur,rfl,hb0,rest⟩
 ·exact .inl hn
 ·exact .inr ⟨g,cap,cur,rfl,hb g rfl,rest⟩
theorem jO{w:World}{base m n k:Nat}{e:TypeId}{v:Value}{xs:List Value}(h:w.ownsRow base e m v n xs)(hk:v.ownBlock=some k):base≤k∧k<w.heap.size:=gO h hk
theorem vW{w:World}{base m n:Nat}{e:TypeId}{v:Value}{xs:List Value}(h:w.ownsRow base e m v n xs):w.ownsRow 0 e m v n xs:=by
 refine⟨h.1,?_⟩
 rcases h.2 with hn|⟨g,cap,cur,rfl,hb0,rest⟩
 ·exact .inl hn
 ·exact .inr ⟨g,cap,cur,rfl,Nat.zero_le _,rest⟩
theorem WB.vb{N X g:Nat}{w:World}{B:Br}(h:WB (fun n=>N≤n) X g B w):∃c,w.heap[X]?=some (.cells c 35 (0,0))∧VB w N c B:=by
 obtain⟨h1,h2,cap,cur,s2,s3,a,b,c,d,e,f,p,q,r,s⟩:=h
 exact⟨_,a,g,cap,cur,s2,s3,rfl,h2.1,b,c,d,e,f,vV p (fun k hk=>(r k hk).1),vV q (fun k hk=>(s k hk).1)⟩
theorem VB.wb{w:World}{base X:Nat}{c:Array Value}{B:Br}{N:Nat→Prop}(h:VB w base c B)(hX:w.heap[X]?=some (.cells c 35 (0,0)))(hN:∀n,base≤n→n<w.heap.size→N n)(hNX:N X):∃g,WB N X g B w:=by
 obtain⟨g,cap,cur,s2,s3,rfl,hb,a,b,d,e,f,p,q⟩:=h
 exact⟨g,⟨hNX,aC hX⟩,⟨hN _ hb (aC a),aC a⟩,cap,cur,s2,s3,hX,a,b,d,e,f,vW p,vW q,fun k hk=>⟨hN _ (jO p hk).1 (jO p hk).2,(jO p hk).2⟩,fun k hk=>⟨hN _ (jO q hk).1 (jO q hk).2,(jO q hk).2⟩⟩
theorem VB.mut{w w':World}{base:Nat}{c:Array Value}{B:Br}{F:Nat→Prop}(h:VB w base c B)(hm:Mut F w w')(hF:∀n,base≤n→n<w.heap.size→¬F n):VB w' base c B:=by
 obtain⟨g,cap,cur,s2,s3,rfl,hb,a,b,d,e,f,p,q⟩:=h
 exact⟨g,cap,cur,s2,s3,rfl,hb,(hm.heap (aC a) (hF g hb (aC a))).trans a,b,d,e,f,lB p hm (fun k hk=>hF k (jO p hk).1 (jO p hk).2),lB q hm (fun k hk=>hF k (jO q hk).1 (jO q hk).2)⟩
theorem VB.sz{w:World}{base:Nat}{c:Array Value}{B:Br}(h:VB w base c B)(ho:B.ok):c.size=20∧c.toList.all (·.oneCell')=true:=by
 obtain⟨g,cap,cur,s2,s3,rfl,hb,a,b,d,e,f,p,q⟩:=h
 obtain⟨a2,c2,rfl⟩:=fB p
 obtain⟨a3,c3,rfl⟩:=fB q
 have hl:B.hd.length=17:=ho.hd.1
 have h1:B.hd.all (·.oneCell')=true:=List.all_eq_true.2 (fun u hu=>ho.hd.one u hu)
 refine⟨by simp[hl],?_⟩
 show(B.hd++[Value.slice (some ⟨g,0,none⟩) B.np cap,Value.slice a2 B.no c2,Value.slice a3 B.nf c3]).all (·.oneCell')=true
 rw[List.all_append,h1]
 rfl
theorem aH4{rst:Bool}{P:List Pt}(h:P.length≤32):lM (NB rst P):=(pZ (id:=7) (hold:=6) (rst:=rst) (P:=P) h).2 (by omega)
theorem aL9{w w':World}{v:Value}{P:List Pt}(h:PtsAt w v P)(hx:Ext w w'):PtsAt w' v P:=RowAt.ext h hx
end Go.Proofs.YtpanapepcbbagaaGreat
