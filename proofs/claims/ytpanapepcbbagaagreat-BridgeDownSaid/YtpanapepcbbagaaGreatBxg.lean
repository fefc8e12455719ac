/- Part 7 of what BridgeRests stands on. No statement is proved here. -/
import Derived.Test.YtpanapepcbbagaaGreatBxf
set_option linter.unusedVariables false
set_option linter.unusedSimpArgs false
set_option maxRecDepth 100000
set_option maxHeartbeats 8000000
namespace Go.Proofs.YtpanapepcbbagaaGreat
open Go.RowKit Go.BigFrame Go.WideShapes Go.ChangeShapes Go.Deep
def aHV:Array Value:=#[.int .u64 0,.int .u32 0,.int .u64 0,.int .u16 0,.int .u16 0]
theorem aHW:∀w,(zeroValue 30).run Tryz.prog w=.ok (.agg aHV) w:=(zero_of_info (P:=Tryz.prog) (t:=30) (v:=.agg aHV) (n:=5) (by kernel_rfl)).1
theorem aHX:(Tryz.prog.info? 30).map (·.size)=some 5:=by kernel_rfl
theorem aL0(id:Int):Tryz.prog.built 30 [(0,.int .u64 id),(2,.int .u64 id)]=some #[.int .u64 id,.int .u32 0,.int .u64 id,.int .u16 0,.int .u16 0]:=by kernel_rfl
theorem jK:∀w,(zeroValue 35).run Tryz.prog w=.ok (.agg oR) w:=(zero_of_info (P:=Tryz.prog) (t:=35) (v:=.agg oR) (n:=20) (by kernel_rfl)).1
theorem fP:(Tryz.prog.info? 35).map (·.size)=some 20:=by kernel_rfl
theorem mX:(Tryz.prog.info? 24).map (·.size)=some 4:=by kernel_rfl
theorem aAI:(Tryz.prog.info? 73).map (·.size)=some 5:=by kernel_rfl
theorem aHY:∀w,(zeroValue 73).run Tryz.prog w=.ok (.agg SUZ) w:=(zero_of_info (P:=Tryz.prog) (t:=73) (v:=.agg SUZ) (n:=5) (by kernel_rfl)).1
theorem aHZ:(Tryz.prog.info? 60).map (fun i=>(i.zero,i.size,i.bytes))=some (some (.agg PortZ),89,416):=by kernel_rfl
theorem aIU(id ta mx hl dl hold:Int)(rst:Bool):Tryz.prog.built 35 [(0,.int .u64 id),(1,.bool rst),(2,.agg #[.int .i64 ta,.int .i64 mx,.int .i64 hl,.int .i64 dl]),(3,.int .i64 hold),(4,.agg #[.int .u64 id,.int .u32 0,.int .u64 id,.int .u16 0,.int .u16 0]),(5,.int .i64 (-1)),(6,.agg #[.int .i64 ta,.int .i64 mx,.int .i64 hl,.int .i64 dl])]=some #[.int .u64 id,.bool rst,.int .i64 ta,.int .i64 mx,.int .i64 hl,.int .i64 dl,.int .i64 hold,.int .u64 id,.int .u32 0,.int .u64 id,.int .u16 0,.int .u16 0,.int .i64 (-1),.int .i64 ta,.int .i64 mx,.int .i64 hl,.int .i64 dl,.slice none 0 0,.slice none 0 0,.slice none 0 0]:=by kernel_rfl
theorem aKJ:Tryz.prog.built 35 []=some oR:=by kernel_rfl
theorem aL1(a b mx hl dl e:Int)(x y z r:Bool):Instr.fill (fun i=>some (i*89,89)) ((Array.range (1*89)).map (PortZ[· % PortZ.size]!)) [(0,.agg (dQ a b x y z r mx hl dl e))]=some (dQ a b x y z r mx hl dl e):=by kernel_rfl
theorem aKK{rst:Bool}{mx hl dl e a b:Int}{x y z:Bool}(h:pL rst mx hl dl ⟨a,b,x,y,z⟩=(dQ a b x y z rst mx hl dl e).toList):∀u∈(dQ a b x y z rst mx hl dl e).toList,u.oneCell'=true:=by
 have h2:((dQ a b x y z rst mx hl dl e).toList.all (·.oneCell'))=true:=rfl
 exact fun u hu=>List.all_eq_true.1 h2 u hu
theorem aAJ(id:Int)(w:World):Calls Tryz.prog 22 #[.int .u64 id] w fun e w'=>e=.returned (.agg #[.int .u64 id,.int .u32 0,.int .u64 id,.int .u16 0,.int .u16 0])∧Ext w w':=by
 go_enter Tryz.func22,Tryz.ntmps22
 go_wp2_with (first
  | fail
  | ((with_reducible refine bS 30 ?_);refine b6 rfl 30 rfl aHV aHW ?_
     intro RB w1 hq hsz hx)
  | ((with_reducible refine cJ 30 ?_);refine bG rfl 30 _ rfl _ rfl _ (aL0 id) ?_)
  | ((with_reducible refine aD 30 ?_);refine dS rfl rfl 30 _ _ rfl RB 0 _ #[.int .u64 id,.int .u32 0,.int .u64 id,.int .u16 0,.int .u16 0] aHV #[.int .u64 id,.int .u32 0,.int .u64 id,.int .u16 0,.int .u16 0] 30 rfl rfl rfl hq (by exact(by decide:0+5≤5)) (by kernel_rfl) rfl rfl ?_
     intro wz hqz hmz
     have HRZ:=hD hqz
     have HXZ:=hD (hx.mutE hmz (fun g h1 h2=>by have h3:g=RB:=h2;omega))
     clear hqz hmz))
 refine bodyPost_ret (results_cell_row rfl _ _ RB _ _ (0,0) _ rfl HRZ.out Tryz.underlying30 rfl aHX) rfl ?_
 exact⟨rfl,HXZ.out⟩
theorem nP(id ta mx hl dl hold:Int)(rst:Bool)(pv:Value)(P:List Pt)(w:World)(hP:PtsAt w pv P)(hn:P.length≤40)(hi:0≤id∧id<18446744073709551616)(ho:-9223372036854775808≤hold∧hold<9223372036854775808)(hpr:∀p∈P,PtR p)(hta:(Lit.int .i64 ta).wf=true)(hmx:(Lit.int .i64 mx).wf=true)(hhl:(Lit.int .i64 hl).wf=true)(hdl:(Lit.int .i64 dl).wf=true):
    Calls Tryz.prog 11 #[.int .u64 id,.bool rst,.agg #[.int .i64 ta,.int .i64 mx,.int .i64 hl,.int .i64 dl],.int .i64 hold,pv] w fun e w'=>∃(c:Array Value) (ok:Bool),e=.returned (.tuple #[.agg c,.bool ok])∧(ok=true↔lM (oG id rst ta mx hl dl hold P))∧NewIs w w' c ok (oG id rst ta mx hl dl hold P)∧Ext w w':=by
 have HI:=hD hi
 have HHO:=hD ho
 have HPR:=hD hpr
 have HT:=hD (And.intro hta (And.intro hmx (And.intro hhl hdl)))
 obtain⟨pa,pcap,hpe,hpm,hpf⟩:=hP
 obtain⟨n,hn0⟩:∃m,P.length=m:=⟨_,rfl⟩
 rw[hn0]at hpe hpm hpf hn
 subst hpe
 have HPF:=hD (show 0<n→∃b off,pa=some ⟨b,off,none⟩∧b<w.heap.size∧n≤pcap∧pcap≤9223372036854775807∧∀i,i<n→w.rangeAt b (off+i*5) (P.getD i default).L from hpf)
 have HNN:=hD hn0
 obtain⟨i9,hi9,hz9,hs9,hb9⟩:=info_parts aHZ
 have I9:=hD (And.intro hi9 (And.intro hz9 (And.intro hs9 hb9)))
 clear hi9 hz9 hs9 hb9 hta hmx hhl hdl hi ho hpr hpf hn0 hpm
 go_enter Tryz.func11,Tryz.ntmps11
 go_wp2_with (first
  | fail
  | ((with_reducible refine bP 24 ?_);refine bQ rfl 24 _ rfl #[.int .i64 ta,.int .i64 mx,.int .i64 hl,.int .i64 dl] rfl ?_
     intro Y wa hX hsz hx1
     have HYa:=hD hX
     have HEa:=hD hx1
     clear hX hsz hx1)
  | ((with_reducible refine bS 35 ?_);have h0:=HEa.out;refine b6 rfl 35 rfl oR jK ?_
     intro RB w1 hq hsz hx
     have HRB:=hD hq
     have HE1:=hD (HEa.out.trans hx)
     have HRW:=hD (show w.heap.size≤RB from by have:=HEa.out.size;omega)
     have HY1:=hD ((hx.block Y (aC HYa.out)).trans HYa.out)
     clear hq hsz hx h0 HEa HYa))
 go_cut [12]from 15 to 22 (fun s wx=>∃BB,s=.pointer (some ⟨BB,0,none⟩)∧wx.heap[BB]?=some (.cells #[.int .u64 id,.bool rst,.int .i64 ta,.int .i64 mx,.int .i64 hl,.int .i64 dl,.int .i64 hold,.int .u64 id,.int .u32 0,.int .u64 id,.int .u16 0,.int .u16 0,.int .i64 (-1),.int .i64 ta,.int .i64 mx,.int .i64 hl,.int .i64 dl,.slice none 0 0,.slice none 0 0,.slice none 0 0] 35 (0,0))∧Ext w1 wx∧w1.heap.size≤BB)
 case rest =>
  obtain⟨BB,rfl,hbb,hx2,hbw⟩:=hcut
  rename World=>w2
  have HBB:=hD hbb
  have HX2:=hD hx2
  have HBW:=hD hbw
  have HY2:=hD ((hx2.block Y (aC HY1.out)).trans HY1.out)
  obtain⟨B,hB⟩:∃B,w2.heap.size=B:=⟨_,rfl⟩
  have HB0:=hD (Nat.le_of_eq hB.symm)
  have HB1:=hD (show w1.heap.size≤B from by rw[←hB];exact hx2.size)
  have HBBB:=hD (show BB<B from by rw[←hB];exact aC hbb)
  have HYB:=hD (show Y<w1.heap.size from aC HY1.out)
  clear hbb hx2 hbw hB
  go_wp2_with fail
  go_loopw [25] (fun s wr=>∃(k:Nat) (u:Value) (wo:World),wo=wr∧s=.int .i64 k∧k≤n∧wo.heap[BB]?=some (.cells #[.int .u64 id,.bool rst,.int .i64 ta,.int .i64 mx,.int .i64 hl,.int .i64 dl,.int .i64 hold,.int .u64 id,.int .u32 0,.int .u64 id,.int .u16 0,.int .u16 0,.int .i64 (-1),.int .i64 ta,.int .i64 mx,.int .i64 hl,.int .i64 dl,u,.slice none 0 0,.slice none 0 0] 35 (0,0))∧wo.ownsRow B 60 89 u k ((P.take k).flatMap (pL rst mx hl dl))∧Ext w1 wo∧B≤wo.heap.size) (fun s _=>n - (intOf s).toNat)
  case atStart=>exact⟨0,_,_,rfl,rfl,by omega,HBB.out,⟨by simp,.inl ⟨rfl,rfl⟩⟩,HX2.out,HB0.out⟩
  case round =>
   clear HBB HX2
   obtain⟨k,u,wo,rfl,rfl,hk,hbb,hown,hx,hbl⟩:=hrel
   rename World=>wl
   obtain⟨a3,c3,rfl⟩:=fB hown
   have HBR:=hD hbb
   have HO:=hD hown
   have HXL:=hD hx
   have HBL:=hD hbl
   clear hbb hown hx hbl
   by_cases hlt:k<n
   ·have dlt:decide ((k:Int)<(n:Int))=true:=by simp;omega
    have hup:IntKind.i64.wrap ((k:Int)+1)=((k+1:Nat):Int):=by rw[IntKind.wrap_i64];omega
    obtain⟨pb,po,rfl,hpb,-,-,hp4⟩:=HPF.out (by omega)
    obtain⟨p,hp⟩:∃p,P.getD k default=p:=⟨_,rfl⟩
    have RS:=hD (show wl.rangeAt pb (po+k*5) p.L from by
     have h4:=lV (hp4 k hlt) (HE1.out.trans HXL.out) hpb
     rw[hp]at h4
     exact h4)
    have HTK:=hD (show(P.take (k+1)).flatMap (pL rst mx hl dl)=(P.take k).flatMap (pL rst mx hl dl)++pL rst mx hl dl p from by
     rw[rM P default (by rw[HNN.out];exact hlt),hp,List.flatMap_append]
     simp)
    obtain⟨p1,p2,p3,p4,p5⟩:=p
    have HTL:=hD (show pL rst mx hl dl ⟨p1,p2,p3,p4,p5⟩=(dQ p1 p2 p3 p4 p5 rst mx hl dl (if p4 then 0 else 1)).toList from rfl)
    obtain⟨e,he⟩:∃e:Int,(if p4 then(0:Int)else 1)=e:=⟨_,rfl⟩
    have HEE:=hD he
    rw[he]at HTL
    clear hp4 hp hpb he
    go_wp2_with (first
     | fail
     | ((with_reducible refine aG 73 ?_);refine wpList_load_mid rfl 73 _ rfl pb (po+k*5) rfl [.int .u16 p1,.int .u32 p2,.bool p3,.bool p4,.bool p5] _ RS.out Tryz.underlying73 rfl aAI ?_)
     | ((with_reducible refine bS 73 ?_);refine b6 rfl 73 rfl SUZ aHY ?_
        intro H wh hqh hszh hxh)
     | ((with_reducible refine aD 73 ?_);refine dS rfl rfl 73 _ _ rfl H 0 _ #[.int .u16 p1,.int .u32 p2,.bool p3,.bool p4,.bool p5] SUZ #[.int .u16 p1,.int .u32 p2,.bool p3,.bool p4,.bool p5] 73 rfl rfl rfl hqh (by exact(by decide:0+5≤5)) (by kernel_rfl) rfl rfl ?_
        intro wk hqk hmk
        have E5:Ext wl wk:=hxh.mutE hmk (fun g hg h=>by have h2:g=H:=h;omega)
        have HHK:=hD hqk
        have HHW:=hD (show wl.heap.size≤H from Nat.le_of_eq hszh)
        have HOK:=hD (j2 HO.out E5)
        have HBK:=hD ((E5.block BB (aC HBR.out)).trans HBR.out)
        have HXK:=hD (HXL.out.trans E5)
        have HBLK:=hD (Nat.le_trans HBL.out E5.size)
        have HNE:=hD (show ∀g,Value.ownBlock (.slice a3 k c3)=some g→g≠H from fun g h1 h2=>by have h3:=(gO HO.out h1).2;have h4:wl.heap.size=H:=hszh;omega)
        clear hqh hszh hxh hqk hmk E5 wh))
    refine aI0 (S:=fun W'=>Ext w1 W'∧W'.heap[BB]?=some (.cells #[.int .u64 id,.bool rst,.int .i64 ta,.int .i64 mx,.int .i64 hl,.int .i64 dl,.int .i64 hold,.int .u64 id,.int .u32 0,.int .u64 id,.int .u16 0,.int .u16 0,.int .i64 (-1),.int .i64 ta,.int .i64 mx,.int .i64 hl,.int .i64 dl,.slice a3 k c3,.slice none 0 0,.slice none 0 0] 35 (0,0))∧W'.heap[H]?=some (.cells #[.int .u16 p1,.int .u32 p2,.bool p3,.bool p4,.bool p5] 73 (0,0))) 9 (by kernel_rfl) ?_
    intro wd hqx
    have hq0:(fun W'=>Ext w1 W'∧W'.heap[BB]?=some (.cells #[.int .u64 id,.bool rst,.int .i64 ta,.int .i64 mx,.int .i64 hl,.int .i64 dl,.int .i64 hold,.int .u64 id,.int .u32 0,.int .u64 id,.int .u16 0,.int .u16 0,.int .i64 (-1),.int .i64 ta,.int .i64 mx,.int .i64 hl,.int .i64 dl,.slice a3 k c3,.slice none 0 0,.slice none 0 0] 35 (0,0))∧W'.heap[H]?=some (.cells #[.int .u16 p1,.int .u32 p2,.bool p3,.bool p4,.bool p5] 73 (0,0))) wd:=⟨HXK.out.trans hqx,(hqx.block BB (aC (HBK.out))).trans (HBK.out),(hqx.block H (aC (HHK.out))).trans (HHK.out)⟩
    refine qU (i:=0) (z:=9) (v:=(.pointer (some ⟨BB,17,none⟩))) rfl rfl (by kernel_rfl) (by kernel_rfl) (by kernel_rfl) (by kernel_rfl) (by kernel_rfl) (by kernel_rfl) (fun _ _ _ h=>h) (Or.inl ⟨rfl,fun _ _=>rfl⟩) hq0 ?_
    simp only[ps]
    refine qU (i:=1) (z:=9) (v:=_) rfl rfl (by kernel_rfl) (by kernel_rfl) (by kernel_rfl) (by kernel_rfl) (by kernel_rfl) (by kernel_rfl) (fun _ _ _ h=>h) (aA rfl 31 _ rfl ⟨BB,17,none⟩ rfl (.slice a3 k c3) _ (fun W' hW'=>(show W'.cell? ⟨BB,17,none⟩=_ by rw[bA hW'.2.1];rfl)) Tryz.underlying31 rfl) hq0 ?_
    simp only[ps]
    refine qU (i:=2) (z:=9) (v:=_) rfl rfl (by kernel_rfl) (by kernel_rfl) (by kernel_rfl) (by kernel_rfl) (by kernel_rfl) (by kernel_rfl) (fun _ _ _ h=>h) (a4 rfl 73 _ rfl H rfl #[.int .u16 p1,.int .u32 p2,.bool p3,.bool p4,.bool p5] _ _ (fun W' hW'=>hW'.2.2) Tryz.underlying73 rfl aAI) hq0 ?_
    simp only[ps]
    refine qU (i:=3) (z:=9) (v:=(.bool rst)) rfl rfl (by kernel_rfl) (by kernel_rfl) (by kernel_rfl) (by kernel_rfl) (by kernel_rfl) (by kernel_rfl) (fun _ _ _ h=>h) (Or.inl ⟨rfl,fun _ _=>rfl⟩) hq0 ?_
    simp only[ps]
    refine qU (i:=4) (z:=9) (v:=_) rfl rfl (by kernel_rfl) (by kernel_rfl) (by kernel_rfl) (by kernel_rfl) (by kernel_rfl) (by kernel_rfl) (fun _ _ _ h=>h) (a4 rfl 24 _ rfl Y rfl #[.int .i64 ta,.int .i64 mx,.int .i64 hl,.int .i64 dl] _ _ (fun W' hW'=>(hW'.1.block Y HYB.out).trans HY1.out) Tryz.underlying24 rfl mX) hq0 ?_
    simp only[ps]
    refine aI1 (i:=5) rfl rfl (by kernel_rfl) (fun K hK=>?_)
    go_simp
    refine(vN p1 p2 mx hl dl p3 p4 p5 rst wd).mono ?_
    rintro e' wc ⟨rfl,hwc⟩
    rw[HEE.out]
    have hqc:(fun W'=>Ext w1 W'∧W'.heap[BB]?=some (.cells #[.int .u64 id,.bool rst,.int .i64 ta,.int .i64 mx,.int .i64 hl,.int .i64 dl,.int .i64 hold,.int .u64 id,.int .u32 0,.int .u64 id,.int .u16 0,.int .u16 0,.int .i64 (-1),.int .i64 ta,.int .i64 mx,.int .i64 hl,.int .i64 dl,.slice a3 k c3,.slice none 0 0,.slice none 0 0] 35 (0,0))∧W'.heap[H]?=some (.cells #[.int .u16 p1,.int .u32 p2,.bool p3,.bool p4,.bool p5] 73 (0,0))) wc:=⟨hq0.1.trans hwc,(hwc.block BB (aC hq0.2.1)).trans hq0.2.1,(hwc.block H (aC hq0.2.2)).trans hq0.2.2⟩
    refine hK.out _ _ hqc (fun _=>?_)
    try simp only[ps]
    clear hK K
    refine aI1 (i:=6) rfl rfl (by kernel_rfl) (fun K hK=>?_)
    refine wp_buildSlice 31 60 1 _ rfl (dQ p1 p2 p3 p4 p5 rst mx hl dl e) i9 (.agg PortZ) Tryz.underlying31 I9.out.1 I9.out.2.1 (by rw[I9.out.2.2.1];decide) (by rw[I9.out.2.2.1];decide) (by rw[I9.out.2.2.1,Array.toList_map];exact aL1 _ _ _ _ _ _ _ _ _ _) ?_
    have hy:Ext wc (wc.alloc (.cells (dQ p1 p2 p3 p4 p5 rst mx hl dl e) 60)):=(Ext.refl _).alloc _
    have hnw:=heap_alloc_new wc (.cells (dQ p1 p2 p3 p4 p5 rst mx hl dl e) 60)
    obtain⟨wn,hwa⟩:∃W,wc.alloc (.cells (dQ p1 p2 p3 p4 p5 rst mx hl dl e) 60)=W:=⟨_,rfl⟩
    obtain⟨bn,hnb⟩:∃m,wc.heap.size=m:=⟨_,rfl⟩
    rw[hwa]at hnw hy ⊢
    rw[hnb]at hnw ⊢
    clear hwa hnb
    have hq1:(fun W'=>Ext w1 W'∧W'.heap[BB]?=some (.cells #[.int .u64 id,.bool rst,.int .i64 ta,.int .i64 mx,.int .i64 hl,.int .i64 dl,.int .i64 hold,.int .u64 id,.int .u32 0,.int .u64 id,.int .u16 0,.int .u16 0,.int .i64 (-1),.int .i64 ta,.int .i64 mx,.int .i64 hl,.int .i64 dl,.slice a3 k c3,.slice none 0 0,.slice none 0 0] 35 (0,0))∧W'.heap[H]?=some (.cells #[.int .u16 p1,.int .u32 p2,.bool p3,.bool p4,.bool p5] 73 (0,0))) wn:=⟨hqc.1.trans hy,(hy.block BB (aC hqc.2.1)).trans hqc.2.1,(hy.block H (aC hqc.2.2)).trans hqc.2.2⟩
    have hxn:Ext wk wn:=(hqx.trans hwc).trans hy
    have hO2:=j2 HOK.out hxn
    have hbw:B≤wn.heap.size:=Nat.le_trans HBLK.out hxn.size
    refine hK.out _ _ hq1 (fun _=>?_)
    try simp only[ps]
    clear hK K
    refine aI1 (i:=7) rfl rfl (by kernel_rfl) (fun K hK=>?_)
    refine jB _ _ 31 rfl B 60 i9 (.agg PortZ) 89 416 Tryz.underlying31 I9.out.1 I9.out.2.1 I9.out.2.2.1 I9.out.2.2.2 rfl (by decide) (.slice a3 k c3) k ((P.take k).flatMap (pL rst mx hl dl)) rfl hO2 ⟨bn,0,none⟩ 1 1 ((dQ p1 p2 p3 p4 p5 rst mx hl dl e)).toList rfl rfl ?hnews (fun u hu=>aKK HTL.out u hu) (by unfold maxLen;omega) (by omega) hbw ?hfin
    case hnews=>exact fun j u hu=>World.news_of_block hnw j u (by simpa using hu)
    case hfin =>
    intro v6 wa ho6 hg6 hloc
    have hrw0:wa.heap[BB]?=some (.cells #[.int .u64 id,.bool rst,.int .i64 ta,.int .i64 mx,.int .i64 hl,.int .i64 dl,.int .i64 hold,.int .u64 id,.int .u32 0,.int .u64 id,.int .u16 0,.int .u16 0,.int .i64 (-1),.int .i64 ta,.int .i64 mx,.int .i64 hl,.int .i64 dl,.slice a3 k c3,.slice none 0 0,.slice none 0 0] 35 (0,0)):=(hg6.block BB (aC hq1.2.1) (fun e=>by have h1:=(gO hO2 e.symm).1;have h2:=HBBB.out;omega)).trans hq1.2.1
    have hrw1:wa.heap[H]?=some (.cells #[.int .u16 p1,.int .u32 p2,.bool p3,.bool p4,.bool p5] 73 (0,0)):=(hg6.block H (aC hq1.2.2) (fun e=>(HNE.out) _ e.symm rfl)).trans hq1.2.2
    have hq6:(fun W'=>Ext w1 W'∧W'.heap[BB]?=some (.cells #[.int .u64 id,.bool rst,.int .i64 ta,.int .i64 mx,.int .i64 hl,.int .i64 dl,.int .i64 hold,.int .u64 id,.int .u32 0,.int .u64 id,.int .u16 0,.int .u16 0,.int .i64 (-1),.int .i64 ta,.int .i64 mx,.int .i64 hl,.int .i64 dl,.slice a3 k c3,.slice none 0 0,.slice none 0 0] 35 (0,0))∧W'.heap[H]?=some (.cells #[.int .u16 p1,.int .u32 p2,.bool p3,.bool p4,.bool p5] 73 (0,0))) wa:=⟨aCJ hq1.1 hO2 HB1.out hg6,hrw0,hrw1⟩
    obtain⟨a6,c6,rfl⟩:=fB ho6
    refine hK.out _ _ hq6 (fun _=>?_)
    try simp only[ps]
    clear hK K
    refine qU (i:=8) (z:=9) (v:=(.pointer (some ⟨BB,17,none⟩))) rfl rfl (by kernel_rfl) (by kernel_rfl) (by kernel_rfl) (by kernel_rfl) (by kernel_rfl) (by kernel_rfl) (fun _ _ _ h=>h) (Or.inl ⟨rfl,fun _ _=>rfl⟩) hq6 ?_
    simp only[ps]
    refine aK2 (z:=9) rfl rfl (by kernel_rfl) (fun K hK=>?_)
    refine gY rfl 31 _ _ rfl BB 17 _ #[.slice a6 (k+1) c6] (#[.int .u64 id,.bool rst,.int .i64 ta,.int .i64 mx,.int .i64 hl,.int .i64 dl,.int .i64 hold,.int .u64 id,.int .u32 0,.int .u64 id,.int .u16 0,.int .u16 0,.int .i64 (-1),.int .i64 ta,.int .i64 mx,.int .i64 hl,.int .i64 dl,.slice a3 k c3,.slice none 0 0,.slice none 0 0]) (#[.int .u64 id,.bool rst,.int .i64 ta,.int .i64 mx,.int .i64 hl,.int .i64 dl,.int .i64 hold,.int .u64 id,.int .u32 0,.int .u64 id,.int .u16 0,.int .u16 0,.int .i64 (-1),.int .i64 ta,.int .i64 mx,.int .i64 hl,.int .i64 dl,.slice a6 (k+1) c6,.slice none 0 0,.slice none 0 0]) 35 rfl rfl rfl hrw0 (by exact(by decide:17+1≤20)) (by kernel_rfl) rfl rfl (fun ws hrow hm=>?_)
    have HFR:=aJ8 hxn hg6 hm
    have HROW:=hD hrow
    have hown6:ws.ownsRow B 60 89 (.slice a6 (k+1) c6) (k+1) ((P.take k).flatMap (pL rst mx hl dl)++((dQ p1 p2 p3 p4 p5 rst mx hl dl e)).toList):=lB ho6 hm (fun g h1 h2=>by have h3:=(gO ho6 h1).1;have h4:=HBBB.out;omega)
    have HSZ:wk.heap.size≤wn.heap.size:=hxn.size
    refine hK.out _ _ ?_
    try simp only[ps]
    clear hK K
    have HOS:=hD (show ws.ownsRow B 60 89 (.slice a6 (k+1) c6) (k+1) ((P.take (k+1)).flatMap (pL rst mx hl dl))from by rw[HTK.out,HTL.out];exact hown6)
    have HXS:=hD (HXK.out.app HBW.out HOK.out HB1.out HFR)
    have HBS:=hD (Nat.le_trans HBLK.out HFR.size)
    clear HFR hown6 HSZ hloc hwc hqc
    clear hrow hm ho6 hg6 hq6 hq1 hq0 hqx hy hnw hO2 hbw hxn hrw0 hrw1
    refine wpAnyH_done (by kernel_rfl) ?_ _
    go_wp2_with fail
    go_roundw
    case rel=>exact⟨k+1,_,_,rfl,by go_num,hlt,HROW.out,HOS.out,HXS.out,HBS.out⟩
    case measure=>simp[intOf]<;>omega
   ·have dlt:decide ((k:Int)<(n:Int))=false:=by simp;omega
    obtain rfl:n=k:=by omega
    have htk:P.take n=P:=List.take_of_length_le (by rw[HNN.out];exact Nat.le_refl _)
    have hbr:BrC wl #[.int .u64 id,.bool rst,.int .i64 ta,.int .i64 mx,.int .i64 hl,.int .i64 dl,.int .i64 hold,.int .u64 id,.int .u32 0,.int .u64 id,.int .u16 0,.int .u16 0,.int .i64 (-1),.int .i64 ta,.int .i64 mx,.int .i64 hl,.int .i64 dl,.slice a3 n c3,.slice none 0 0,.slice none 0 0] (oG id rst ta mx hl dl hold P):=by
     have h1:=HO.out
     rw[htk]at h1
     exact⟨.slice a3 n c3,.slice none 0 0,.slice none 0 0,rfl,by rw[show(oG id rst ta mx hl dl hold P).np=n from HNN.out];exact rY h1,⟨rfl,.inl ⟨rfl,.inl rfl⟩⟩,⟨rfl,.inl ⟨rfl,.inl rfl⟩⟩⟩
    have HBRC:=hD hbr
    have HOKB:=hD (aAC (rst:=rst) (aLT HI.out) HT.out.1 HT.out.2.1 HT.out.2.2.1 HT.out.2.2.2 (wf64 HHO.out) HPR.out)
    have HRBL:=hD ((HXL.out.block RB (aC HRB.out)).trans HRB.out)
    clear htk hbr
    go_wp2_with (first
     | fail
     | ((with_reducible refine aG 35 ?_);refine wpList_load_row rfl 35 _ rfl BB rfl 35 #[.int .u64 id,.bool rst,.int .i64 ta,.int .i64 mx,.int .i64 hl,.int .i64 dl,.int .i64 hold,.int .u64 id,.int .u32 0,.int .u64 id,.int .u16 0,.int .u16 0,.int .i64 (-1),.int .i64 ta,.int .i64 mx,.int .i64 hl,.int .i64 dl,.slice a3 n c3,.slice none 0 0,.slice none 0 0] (0,0) _ HBR.out Tryz.underlying35 rfl fP ?_))
    refine(wZ #[.int .u64 id,.bool rst,.int .i64 ta,.int .i64 mx,.int .i64 hl,.int .i64 dl,.int .i64 hold,.int .u64 id,.int .u32 0,.int .u64 id,.int .u16 0,.int .u16 0,.int .i64 (-1),.int .i64 ta,.int .i64 mx,.int .i64 hl,.int .i64 dl,.slice a3 n c3,.slice none 0 0,.slice none 0 0] (oG id rst ta mx hl dl hold P) wl HBRC.out HOKB.out).mono ?_
    rintro e w6 ⟨fb,rfl,hx6,hfb⟩
    have HFB:=hD hfb
    have HOW:=hD (show w6.ownsRow B 60 89 (.slice a3 n c3) n (P.flatMap (pL rst mx hl dl))from by
     have h1:=j2 HO.out hx6
     rw[List.take_of_length_le (by rw[HNN.out];exact Nat.le_refl _)]at h1
     exact h1)
    have HB6:=hD ((hx6.block BB (aC HBR.out)).trans HBR.out)
    have HR6:=hD ((hx6.block RB (aC HRBL.out)).trans HRBL.out)
    have HX6:=hD (HXL.out.trans hx6)
    cases fb with
    | true =>
     clear hx6 hfb
     go_wp2_with (first
      | fail
      | ((with_reducible refine aG 35 ?_);refine wpList_load_row rfl 35 _ rfl BB rfl 35 #[.int .u64 id,.bool rst,.int .i64 ta,.int .i64 mx,.int .i64 hl,.int .i64 dl,.int .i64 hold,.int .u64 id,.int .u32 0,.int .u64 id,.int .u16 0,.int .u16 0,.int .i64 (-1),.int .i64 ta,.int .i64 mx,.int .i64 hl,.int .i64 dl,.slice a3 n c3,.slice none 0 0,.slice none 0 0] (0,0) _ HB6.out Tryz.underlying35 rfl fP ?_)
      | ((with_reducible refine aD 35 ?_);refine dS rfl rfl 35 _ _ rfl RB 0 _ #[.int .u64 id,.bool rst,.int .i64 ta,.int .i64 mx,.int .i64 hl,.int .i64 dl,.int .i64 hold,.int .u64 id,.int .u32 0,.int .u64 id,.int .u16 0,.int .u16 0,.int .i64 (-1),.int .i64 ta,.int .i64 mx,.int .i64 hl,.int .i64 dl,.slice a3 n c3,.slice none 0 0,.slice none 0 0] oR #[.int .u64 id,.bool rst,.int .i64 ta,.int .i64 mx,.int .i64 hl,.int .i64 dl,.int .i64 hold,.int .u64 id,.int .u32 0,.int .u64 id,.int .u16 0,.int .u16 0,.int .i64 (-1),.int .i64 ta,.int .i64 mx,.int .i64 hl,.int .i64 dl,.slice a3 n c3,.slice none 0 0,.slice none 0 0] 35 rfl rfl rfl HR6.out (by exact(by decide:0+20≤20)) (by kernel_rfl) rfl rfl ?_
         intro wz hqz hmz
         have HRZ:=hD hqz
         have HMZ:=hD hmz
         clear hqz hmz))
     refine bodyPost_ret (eS rfl _ _ RB _ _ (0,0) _ rfl HRZ.out Tryz.underlying35 rfl fP) rfl ?_
     have hsz:w.heap.size≤B:=Nat.le_trans HE1.out.size HB1.out
     refine⟨_,true,rfl,by simpa using HFB.out,.inl ⟨rfl,_,rfl,?_⟩,(HE1.out.trans HX6.out).mutE HMZ.out (fun g h1 h2=>by have h3:g=RB:=h2;have h4:=HRW.out;omega)⟩
     have h5:=lB HOW.out HMZ.out (fun g h1 h2=>by have h3:g=RB:=h2;have h4:=(gO HOW.out h1).1;have h5:=aC HRB.out;have h6:=HB1.out;omega)
     rw[show(oG id rst ta mx hl dl hold P).np=n from HNN.out]
     exact p0 h5 hsz
    | false =>
     clear hx6 hfb
     go_wp2_with (first
      | fail
      | ((with_reducible refine cJ 35 ?_);refine bG rfl 35 _ rfl _ rfl _ aKJ ?_)
      | ((with_reducible refine aD 35 ?_);refine dS rfl rfl 35 _ _ rfl RB 0 _ oR oR oR 35 rfl rfl rfl HR6.out (by exact(by decide:0+20≤20)) (by kernel_rfl) (by kernel_rfl) (by kernel_rfl) ?_
         intro wz hqz hmz
         have HRZ:=hD hqz
         have HMZ:=hD hmz
         clear hqz hmz))
     refine bodyPost_ret (eS rfl _ _ RB _ _ (0,0) _ rfl HRZ.out Tryz.underlying35 rfl fP) rfl ?_
     exact⟨_,false,rfl,HFB.out,.inr ⟨rfl,rfl⟩,(HE1.out.trans HX6.out).mutE HMZ.out (fun g h1 h2=>by have h3:g=RB:=h2;have h4:=HRW.out;omega)⟩
 refine aT (S:=fun W'=>Ext w1 W') (by kernel_rfl) ?_
 intro wd hqx
 have hq0:Ext w1 wd:=hqx
 refine bO 0 ((.int .u64 id)) rfl hq0 ?_
 refine bO 1 ((.bool rst)) rfl hq0 ?_
 refine tL 2 (_) rfl (a4 rfl 24 _ rfl Y rfl #[.int .i64 ta,.int .i64 mx,.int .i64 hl,.int .i64 dl] _ _ (fun W' hW'=>(hW'.block Y (aC HY1.out)).trans HY1.out) Tryz.underlying24 rfl mX) hq0 ?_
 refine bO 3 ((.int .i64 hold)) rfl hq0 ?_
 refine bO 4 ((.int .u64 id)) rfl hq0 ?_
 refine tL 6 (_) rfl (a4 rfl 24 _ rfl Y rfl #[.int .i64 ta,.int .i64 mx,.int .i64 hl,.int .i64 dl] _ _ (fun W' hW'=>(hW'.block Y (aC HY1.out)).trans HY1.out) Tryz.underlying24 rfl mX) hq0 ?_
 refine aK1 (i:=5) (j:=8) rfl rfl rfl rfl (by kernel_rfl) (fun K hK=>?_) (fun K hK=>?_)
 ·go_simp
  refine(aAJ id wd).mono ?_
  rintro e wc ⟨rfl,hx⟩
  have hq1:Ext w1 wc:=hq0.trans hx
  clear hx
  refine hK.out _ _ hq1 (fun _=>?_)
  try simp only[ps]
  clear hK K
  refine tL 7 ((.agg #[.int .u64 id,.bool rst,.int .i64 ta,.int .i64 mx,.int .i64 hl,.int .i64 dl,.int .i64 hold,.int .u64 id,.int .u32 0,.int .u64 id,.int .u16 0,.int .u16 0,.int .i64 (-1),.int .i64 ta,.int .i64 mx,.int .i64 hl,.int .i64 dl,.slice none 0 0,.slice none 0 0,.slice none 0 0])) rfl (bL rfl 35 _ rfl [(0,.int .u64 id),(1,.bool rst),(2,.agg #[.int .i64 ta,.int .i64 mx,.int .i64 hl,.int .i64 dl]),(3,.int .i64 hold),(4,.agg #[.int .u64 id,.int .u32 0,.int .u64 id,.int .u16 0,.int .u16 0]),(5,.int .i64 (-1)),(6,.agg #[.int .i64 ta,.int .i64 mx,.int .i64 hl,.int .i64 dl])] rfl #[.int .u64 id,.bool rst,.int .i64 ta,.int .i64 mx,.int .i64 hl,.int .i64 dl,.int .i64 hold,.int .u64 id,.int .u32 0,.int .u64 id,.int .u16 0,.int .u16 0,.int .i64 (-1),.int .i64 ta,.int .i64 mx,.int .i64 hl,.int .i64 dl,.slice none 0 0,.slice none 0 0,.slice none 0 0] (aIU _ _ _ _ _ _ _)) hq1 ?_
  refine bB (i:=8) rfl rfl (by kernel_rfl) (fun K hK=>?_)
  refine lN 35 rfl oR jK (fun BB wv hvb hsz hx=>?_)
  have hq2:Ext w1 wv:=hq1.trans hx
  have hbw:w1.heap.size≤BB:=by have:=hq1.size;omega
  clear hsz
  clear hx
  refine hK.out _ _ hq2 (fun _=>?_)
  try simp only[ps]
  clear hK K
  refine bB (i:=9) rfl rfl (by kernel_rfl) (fun K hK=>?_)
  refine gY rfl 35 _ _ rfl BB 0 _ #[.int .u64 id,.bool rst,.int .i64 ta,.int .i64 mx,.int .i64 hl,.int .i64 dl,.int .i64 hold,.int .u64 id,.int .u32 0,.int .u64 id,.int .u16 0,.int .u16 0,.int .i64 (-1),.int .i64 ta,.int .i64 mx,.int .i64 hl,.int .i64 dl,.slice none 0 0,.slice none 0 0,.slice none 0 0] oR #[.int .u64 id,.bool rst,.int .i64 ta,.int .i64 mx,.int .i64 hl,.int .i64 dl,.int .i64 hold,.int .u64 id,.int .u32 0,.int .u64 id,.int .u16 0,.int .u16 0,.int .i64 (-1),.int .i64 ta,.int .i64 mx,.int .i64 hl,.int .i64 dl,.slice none 0 0,.slice none 0 0,.slice none 0 0] 35 rfl rfl rfl hvb (by exact(by decide:0+20≤20)) (by kernel_rfl) rfl rfl (fun wz hrow hm=>?_)
  have hxz:Ext w1 wz:=Ext.mutE hq2 hm (fun j hj h=>by have h2:j=BB:=h;omega)
  refine hK.out _ _ hxz (fun _=>?_)
  try simp only[ps]
  clear hK K
  refine wpAnyH_done (by kernel_rfl) ?_ _
  go_wp2_with fail
  go_meet
  exact⟨BB,rfl,hrow,hxz,hbw⟩
 ·refine lN 35 rfl oR jK (fun BB wv hvb hsz hx=>?_)
  have hq1:Ext w1 wv:=hq0.trans hx
  have hbw:w1.heap.size≤BB:=by have:=hq0.size;omega
  clear hsz
  clear hx
  refine hK.out _ _ hq1 (fun _=>?_)
  try simp only[ps]
  clear hK K
  refine bB (i:=5) rfl rfl (by kernel_rfl) (fun K hK=>?_)
  go_simp
  refine(aAJ id wv).mono ?_
  rintro e wc ⟨rfl,hx⟩
  have hq2:Ext w1 wc:=hq1.trans hx
  replace hvb:=(hx.block BB (aC hvb)).trans hvb
  clear hx
  refine hK.out _ _ hq2 (fun _=>?_)
  try simp only[ps]
  clear hK K
  refine tL 7 ((.agg #[.int .u64 id,.bool rst,.int .i64 ta,.int .i64 mx,.int .i64 hl,.int .i64 dl,.int .i64 hold,.int .u64 id,.int .u32 0,.int .u64 id,.int .u16 0,.int .u16 0,.int .i64 (-1),.int .i64 ta,.int .i64 mx,.int .i64 hl,.int .i64 dl,.slice none 0 0,.slice none 0 0,.slice none 0 0])) rfl (bL rfl 35 _ rfl [(0,.int .u64 id),(1,.bool rst),(2,.agg #[.int .i64 ta,.int .i64 mx,.int .i64 hl,.int .i64 dl]),(3,.int .i64 hold),(4,.agg #[.int .u64 id,.int .u32 0,.int .u64 id,.int .u16 0,.int .u16 0]),(5,.int .i64 (-1)),(6,.agg #[.int .i64 ta,.int .i64 mx,.int .i64 hl,.int .i64 dl])] rfl #[.int .u64 id,.bool rst,.int .i64 ta,.int .i64 mx,.int .i64 hl,.int .i64 dl,.int .i64 hold,.int .u64 id,.int .u32 0,.int .u64 id,.int .u16 0,.int .u16 0,.int .i64 (-1),.int .i64 ta,.int .i64 mx,.int .i64 hl,.int .i64 dl,.slice none 0 0,.slice none 0 0,.slice none 0 0] (aIU _ _ _ _ _ _ _)) hq2 ?_
  refine bB (i:=9) rfl rfl (by kernel_rfl) (fun K hK=>?_)
  refine gY rfl 35 _ _ rfl BB 0 _ #[.int .u64 id,.bool rst,.int .i64 ta,.int .i64 mx,.int .i64 hl,.int .i64 dl,.int .i64 hold,.int .u64 id,.int .u32 0,.int .u64 id,.int .u16 0,.int .u16 0,.int .i64 (-1),.int .i64 ta,.int .i64 mx,.int .i64 hl,.int .i64 dl,.slice none 0 0,.slice none 0 0,.slice none 0 0] oR #[.int .u64 id,.bool rst,.int .i64 ta,.int .i64 mx,.int .i64 hl,.int .i64 dl,.int .i64 hold,.int .u64 id,.int .u32 0,.int .u64 id,.int .u16 0,.int .u16 0,.int .i64 (-1),.int .i64 ta,.int .i64 mx,.int .i64 hl,.int .i64 dl,.slice none 0 0,.slice none 0 0,.slice none 0 0] 35 rfl rfl rfl hvb (by exact(by decide:0+20≤20)) (by kernel_rfl) rfl rfl (fun wz hrow hm=>?_)
  have hxz:Ext w1 wz:=Ext.mutE hq2 hm (fun j hj h=>by have h2:j=BB:=h;omega)
  refine hK.out _ _ hxz (fun _=>?_)
  try simp only[ps]
  clear hK K
  refine wpAnyH_done (by kernel_rfl) ?_ _
  go_wp2_with fail
  go_meet
  exact⟨BB,rfl,hrow,hxz,hbw⟩
theorem aCO{w:World}{base size n g cap:Nat}{e:TypeId}{xs:List Value}(h:w.ownsRow base e size (.slice (some ⟨g,0,none⟩) n cap) n xs):w.rangeAt g 0 xs:=fun j v hv=>by
 rcases h.2 with ⟨h0,-⟩|⟨g2,cap2,cur,e1,e2,e3,e4,e5,e6,e7⟩
 ·cases h0
 ·cases e1
  rw[Nat.zero_add,cell_of_row _ _ _ _ _ _ e3]
  rw[←e7,List.getElem?_take]at hv
  split at hv
  ·simpa using hv
  ·cases hv
def readB(w:World)(g n:Nat):List Bool:=(List.range n).map fun i=>match w.cell? ⟨g,i,none⟩with|some (.bool b)=>b|_=>false
theorem RowAt.ownG{w:World}{base n m:Nat}{e:TypeId}{v:Value}{xs:List Value}{f:Nat→List Value}(h:w.ownsRow base e m v n xs)(hn:n≤1000)(hxs:∀i,i<n→∀j x,(f i)[j]?=some x→xs[i*m+j]?=some x):RowAt w v n m f:=by
 obtain⟨a,cap,rfl⟩:=fB h
 refine⟨a,cap,rfl,by omega,fun h0=>?_⟩
 rcases h.2 with ⟨e,e2⟩|⟨g,cap2,cur,e,hb,hg,hn2,hm,hs,ht⟩
 ·omega
 ·cases e
  refine⟨g,0,rfl,aC hg,hn2,by unfold maxLen at hm;omega,fun i hi j v hv=>?_⟩
  have h2:=aCO h (i*m+j) v (hxs i hi j v hv)
  rw[Nat.zero_add]at h2 ⊢
  exact h2
def rU(l:List Pt):List Value:=l.flatMap Pt.L
theorem PtsAt.own{w:World}{base:Nat}{e:TypeId}{v:Value}{L:List Pt}(h:w.ownsRow base e 5 v L.length (rU L))(hL:L.length≤1000):PtsAt w v L :=
 RowAt.ownG h hL (fun i hi j x hx=>mV Pt.L 5 (fun _=>rfl) default L i j x hi hx)
theorem aAK:(Tryz.prog.info? 73).map (fun i=>(i.zero,i.size,i.bytes))=some (some (.agg SUZ),5,12):=by kernel_rfl
theorem aL2(a b:Int)(x y z:Bool):Tryz.prog.built 73 [(0,.int .u16 a),(1,.int .u32 b),(2,.bool x),(3,.bool y),(4,.bool z)]=some #[.int .u16 a,.int .u32 b,.bool x,.bool y,.bool z]:=by kernel_rfl
theorem aIV(a b:Int)(x y z:Bool):Instr.fill (fun i=>some (i*5,5)) ((Array.range (1*5)).map (SUZ[· % SUZ.size]!)) [(0,.agg #[.int .u16 a,.int .u32 b,.bool x,.bool y,.bool z])]=some #[.int .u16 a,.int .u32 b,.bool x,.bool y,.bool z]:=by kernel_rfl
theorem yT(w:World)(pv:Value)(P:List Pt)(hP:PtsAt w pv P)(hn:P.length≤40):Calls Tryz.prog 12 #[pv] w fun e w'=>∃v,e=.returned v∧PtsAt w' v P∧Ext w w':=by
 obtain⟨pa,pcap,hpe,hpm,hpf⟩:=hP
 obtain⟨n,hn0⟩:∃m,P.length=m:=⟨_,rfl⟩
 rw[hn0]at hpe hpm hpf hn
 subst hpe
 have HPF:=hD (show 0<n→∃b off,pa=some ⟨b,off,none⟩∧b<w.heap.size∧n≤pcap∧pcap≤9223372036854775807∧∀i,i<n→w.rangeAt b (off+i*5) (P.getD i default).L from hpf)
 have HNN:=hD hn0
 obtain⟨i3,hi9,hz9,hs9,hb9⟩:=info_parts aAK
 have I3:=hD (And.intro hi9 (And.intro hz9 (And.intro hs9 hb9)))
 clear hi9 hz9 hs9 hb9 hpf hn0 hpm
 go_enter Tryz.func12,Tryz.ntmps12
 go_wp2_with fail
 go_loopw [4,3] (fun s u wr=>∃(k:Nat) (v:Value) (wo:World),wo=wr∧v=u∧s=.int .i64 k∧k≤n∧wo.ownsRow w.heap.size 73 5 v k ((P.take k).flatMap Pt.L)∧Ext w wo) (fun s _ _=>n - (intOf s).toNat)
 case atStart=>exact⟨0,_,_,rfl,rfl,rfl,by omega,⟨by simp,.inl ⟨rfl,rfl⟩⟩,Ext.refl w⟩
 case round =>
  obtain⟨k,u,wo,rfl,rfl,rfl,hk,hown,hx⟩:=hrel
  rename World=>wl
  obtain⟨a3,c3,rfl⟩:=fB hown
  have HO:=hD hown
  have HXL:=hD hx
  have HBL:=hD hx.size
  clear hown hx
  by_cases hlt:k<n
  ·have dlt:decide ((k:Int)<(n:Int))=true:=by simp;omega
   have hup:IntKind.i64.wrap ((k:Int)+1)=((k+1:Nat):Int):=by rw[IntKind.wrap_i64];omega
   obtain⟨pb,po,rfl,hpb,hcp1,hcp2,hp4⟩:=HPF.out (by omega)
   obtain⟨p,hp⟩:∃p,P.getD k default=p:=⟨_,rfl⟩
   have RS:=hD (show wl.rangeAt pb (po+k*5) p.L from by
    have h4:=lV (hp4 k hlt) HXL.out hpb
    rw[hp]at h4
    exact h4)
   have HPB:=hD (show pb<wl.heap.size from nL hpb HBL.out)
   have HPW:=hD hpb
   have HTK:=hD (show(P.take (k+1)).flatMap Pt.L=(P.take k).flatMap Pt.L++p.L from by
    rw[rM P default (by rw[HNN.out];exact hlt),hp,List.flatMap_append]
    simp)
   obtain⟨p1,p2,p3,p4,p5⟩:=p
   clear hp4 hp hpb
   go_wp2_with fail
   have HCELL:=hD (show ∀W',Mut (fun g=>Value.ownBlock (.slice a3 k c3)=some g) wl W'→∀p:Addr,p.block=pb→W'.cell? p=wl.cell? p from fun W' h p hp=>h.cell (p:=p) (by rw[hp];exact HPB.out) (fun h2=>by rw[hp]at h2;have h3:=(gO HO.out h2).1;have h4:=HPW.out;omega))
   refine aT (S:=fun W'=>Mut (fun g=>Value.ownBlock (.slice a3 k c3)=some g) wl W') (by kernel_rfl) ?_
   intro wd hqx
   have hq0:Mut (fun g=>Value.ownBlock (.slice a3 k c3)=some g) wl wd:=hqx.mut _
   refine bO 0 ((.slice a3 k c3)) rfl hq0 ?_
   refine bO 1 ((.slice (some ⟨pb,po,none⟩) n pcap)) rfl hq0 ?_
   refine bO 2 ((.int .i64 (k:Int))) rfl hq0 ?_
   refine tL 3 ((.pointer (some ⟨pb,po+k*5,none⟩))) rfl (Or.inl ⟨rfl,fun W' _=>by go_simp<;>(intro h;omega)⟩) hq0 ?_
   refine aH 4 pb (po+k*5) rfl hq0 ?_
   refine tL 5 (_) rfl (aA rfl 28 _ rfl ⟨pb,po+k*5,none⟩ rfl (.int .u16 p1) _ (fun W' hW'=>(show W'.cell? ⟨pb,po+k*5+0,none⟩=_ from(HCELL.out W' hW' ⟨pb,po+k*5+0,none⟩ rfl).trans (RS.out 0 _ rfl))) Tryz.underlying28 rfl) hq0 ?_
   refine bO 6 ((.slice (some ⟨pb,po,none⟩) n pcap)) rfl hq0 ?_
   refine bO 7 ((.int .i64 (k:Int))) rfl hq0 ?_
   refine tL 8 ((.pointer (some ⟨pb,po+k*5,none⟩))) rfl (Or.inl ⟨rfl,fun W' _=>by go_simp<;>(intro h;omega)⟩) hq0 ?_
   refine aH 9 pb (po+k*5+1) rfl hq0 ?_
   refine tL 10 (_) rfl (aA rfl 27 _ rfl ⟨pb,po+k*5+1,none⟩ rfl (.int .u32 p2) _ (fun W' hW'=>(show W'.cell? ⟨pb,po+k*5+1,none⟩=_ from(HCELL.out W' hW' ⟨pb,po+k*5+1,none⟩ rfl).trans (RS.out 1 _ rfl))) Tryz.underlying27 rfl) hq0 ?_
   refine bO 11 ((.slice (some ⟨pb,po,none⟩) n pcap)) rfl hq0 ?_
   refine bO 12 ((.int .i64 (k:Int))) rfl hq0 ?_
   refine tL 13 ((.pointer (some ⟨pb,po+k*5,none⟩))) rfl (Or.inl ⟨rfl,fun W' _=>by go_simp<;>(intro h;omega)⟩) hq0 ?_
   refine aH 14 pb (po+k*5+2) rfl hq0 ?_
   refine tL 15 (_) rfl (aA rfl 4 _ rfl ⟨pb,po+k*5+2,none⟩ rfl (.bool p3) _ (fun W' hW'=>(show W'.cell? ⟨pb,po+k*5+2,none⟩=_ from(HCELL.out W' hW' ⟨pb,po+k*5+2,none⟩ rfl).trans (RS.out 2 _ rfl))) Tryz.underlying4 rfl) hq0 ?_
   refine bO 16 ((.slice (some ⟨pb,po,none⟩) n pcap)) rfl hq0 ?_
   refine bO 17 ((.int .i64 (k:Int))) rfl hq0 ?_
   refine tL 18 ((.pointer (some ⟨pb,po+k*5,none⟩))) rfl (Or.inl ⟨rfl,fun W' _=>by go_simp<;>(intro h;omega)⟩) hq0 ?_
   refine aH 19 pb (po+k*5+3) rfl hq0 ?_
   refine tL 20 (_) rfl (aA rfl 4 _ rfl ⟨pb,po+k*5+3,none⟩ rfl (.bool p4) _ (fun W' hW'=>(show W'.cell? ⟨pb,po+k*5+3,none⟩=_ from(HCELL.out W' hW' ⟨pb,po+k*5+3,none⟩ rfl).trans (RS.out 3 _ rfl))) Tryz.underlying4 rfl) hq0 ?_
   refine bO 21 ((.slice (some ⟨pb,po,none⟩) n pcap)) rfl hq0 ?_
   refine bO 22 ((.int .i64 (k:Int))) rfl hq0 ?_
   refine tL 23 ((.pointer (some ⟨pb,po+k*5,none⟩))) rfl (Or.inl ⟨rfl,fun W' _=>by go_simp<;>(intro h;omega)⟩) hq0 ?_
   refine aH 24 pb (po+k*5+4) rfl hq0 ?_
   refine tL 25 (_) rfl (aA rfl 4 _ rfl ⟨pb,po+k*5+4,none⟩ rfl (.bool p5) _ (fun W' hW'=>(show W'.cell? ⟨pb,po+k*5+4,none⟩=_ from(HCELL.out W' hW' ⟨pb,po+k*5+4,none⟩ rfl).trans (RS.out 4 _ rfl))) Tryz.underlying4 rfl) hq0 ?_
   refine tL 26 ((.agg #[.int .u16 p1,.int .u32 p2,.bool p3,.bool p4,.bool p5])) rfl (bL rfl 73 _ rfl [(0,.int .u16 p1),(1,.int .u32 p2),(2,.bool p3),(3,.bool p4),(4,.bool p5)] rfl #[.int .u16 p1,.int .u32 p2,.bool p3,.bool p4,.bool p5] (aL2 _ _ _ _ _)) hq0 ?_
   refine bB (i:=27) rfl rfl (by kernel_rfl) (fun K hK=>?_)
   refine wp_buildSlice 38 73 1 _ rfl #[.int .u16 p1,.int .u32 p2,.bool p3,.bool p4,.bool p5] i3 (.agg SUZ) Tryz.underlying38 I3.out.1 I3.out.2.1 (by rw[I3.out.2.2.1];decide) (by rw[I3.out.2.2.1];decide) (by rw[I3.out.2.2.1,Array.toList_map];exact aIV _ _ _ _ _) ?_
   have hy:Ext wd (wd.alloc (.cells #[.int .u16 p1,.int .u32 p2,.bool p3,.bool p4,.bool p5] 73)):=(Ext.refl _).alloc _
   have hnw:=heap_alloc_new wd (.cells #[.int .u16 p1,.int .u32 p2,.bool p3,.bool p4,.bool p5] 73)
   obtain⟨wn,hwa⟩:∃W,wd.alloc (.cells #[.int .u16 p1,.int .u32 p2,.bool p3,.bool p4,.bool p5] 73)=W:=⟨_,rfl⟩
   obtain⟨bn,hnb⟩:∃m,wd.heap.size=m:=⟨_,rfl⟩
   rw[hwa]at hnw hy ⊢
   rw[hnb]at hnw ⊢
   clear hwa hnb
   have hxn:Ext wl wn:=hqx.trans hy
   have hO2:=j2 HO.out hxn
   have hbw:w.heap.size≤wn.heap.size:=Nat.le_trans HBL.out hxn.size
   refine hK.out _ _ (hxn.mut _) (fun _=>?_)
   try simp only[ps]
   clear hK K
   refine bB (i:=28) rfl rfl (by kernel_rfl) (fun K hK=>?_)
   refine jB _ _ 38 rfl w.heap.size 73 i3 (.agg SUZ) 5 12 Tryz.underlying38 I3.out.1 I3.out.2.1 I3.out.2.2.1 I3.out.2.2.2 rfl (by decide) (.slice a3 k c3) k ((P.take k).flatMap Pt.L) rfl hO2 ⟨bn,0,none⟩ 1 1 [.int .u16 p1,.int .u32 p2,.bool p3,.bool p4,.bool p5] rfl rfl ?hnews (fun u hu=>by
       have hu2:=hu
       simp only[List.mem_cons,List.not_mem_nil,or_false]at hu2
       rcases hu2 with rfl|rfl|rfl|rfl|rfl<;>rfl) (by unfold maxLen;omega) (by omega) hbw ?hfin
   case hnews=>exact fun j u hu=>World.news_of_block hnw j u (by simpa using hu)
   case hfin =>
   intro v6 wa ho6 hg6 hloc
   have hfr:Mut (fun g=>Value.ownBlock (.slice a3 k c3)=some g) wl wa:=(hxn.mut _).trans (rN hg6)
   obtain⟨a6,c6,rfl⟩:=fB ho6
   have HO6:=hD (show wa.ownsRow w.heap.size 73 5 (.slice a6 (k+1) c6) (k+1) ((P.take (k+1)).flatMap Pt.L)from by rw[HTK.out];exact ho6)
   have HX6:=hD (show Ext w wa from HXL.out.mutE hfr (fun g h1 h2=>by have h3:=(gO HO.out h2).1;omega))
   refine hK.out _ _ hfr (fun _=>?_)
   try simp only[ps]
   clear hK K
   refine bO 29 ((.slice a6 (k+1) c6)) rfl hfr ?_
   clear hfr hloc ho6 hg6 hbw hO2 hxn hy hnw hq0 hqx
   refine wpAnyH_done (by kernel_rfl) ?_ _
   go_wp2_with fail
   go_roundw
   case rel=>exact⟨k+1,_,_,rfl,rfl,by go_num,hlt,HO6.out,HX6.out⟩
   case measure=>simp[intOf];omega
  ·have dlt:decide ((k:Int)<(n:Int))=false:=by simp;omega
   obtain rfl:n=k:=by omega
   have hown:=HO.out
   rw[List.take_of_length_le (by rw[HNN.out];exact Nat.le_refl _)]at hown
   have HP:=hD (show PtsAt wl (.slice a3 n c3) P from by
    have h2:=hown
    rw[←HNN.out]at h2 ⊢
    exact PtsAt.own h2 (by rw[HNN.out];omega))
   clear hown
   go_wp2_with fail
   go_ret
   exact⟨_,rfl,HP.out,HXL.out⟩
theorem aKY{P:Program}{op:Oper}{a:Act}{w:World}{K:Act→World→Prop}{Q:Exit→Act→World→Prop}(hdst:op.dst=none)(ty:TypeId)(x y:Operand)(ho:op.op=.store ty x y)(g:Nat)(vs cs:Array Value)(t:TypeId)(hx:a.eval x=.pointer (some ⟨g,0,none⟩))(hy:a.eval y=.agg vs)(hX:w.heap[g]?=some (.cells cs t (0,0)))(hn:vs.size=cs.size)(hi:(P.info? ty).map (·.size)=some cs.size)(h1:vs.toList.all (·.oneCell')=true)(h:∀w',w'.heap[g]?=some (.cells vs t (0,0))→Mut (fun n=>n=g) w w'→K a w'):op.wp P a w K Q :=
 gY hdst ty x y ho g 0 (.agg vs) vs cs vs t hx hy rfl hX (by omega) (by rw[hn];exact hi) h1 (by
  rw[List.drop_eq_nil_of_le (by rw[Array.length_toList];omega)]
  simp) h
theorem nQ{P:Program}{ops:Array Oper}{rest:List Oper}{op:Oper}{a:Act}{w:World}{Q:Exit→Act→World→Prop}(hgd:op.guard=none)(hdst:op.dst=none)(ty:TypeId)(x y:Operand)(ho:op.op=.store ty x y)(g:Nat)(vs cs:Array Value)(t:TypeId)(hx:a.eval x=.pointer (some ⟨g,0,none⟩))(hy:a.eval y=.agg vs)(hX:w.heap[g]?=some (.cells cs t (0,0)))(hn:vs.size=cs.size)(hi:(P.info? ty).map (·.size)=some cs.size)(h1:vs.toList.all (·.oneCell')=true)(h:∀w',w'.heap[g]?=some (.cells vs t (0,0))→Mut (fun n=>n=g) w w'→wpList P ops Q rest a w'):wpList P ops Q (op :: rest) a w :=
 dS hgd hdst ty x y ho g 0 (.agg vs) vs cs vs t hx hy rfl hX (by omega) (by rw[hn];exact hi) h1 (by
  rw[List.drop_eq_nil_of_le (by rw[Array.length_toList];omega)]
  simp) h
def zB:Br:=⟨[.int .u64 0,.bool false,.int .i64 0,.int .i64 0,.int .i64 0,.int .i64 0,.int .i64 0,.int .u64 0,.int .u32 0,.int .u64 0,.int .u16 0,.int .u16 0,.int .i64 0,.int .i64 0,.int .i64 0,.int .i64 0,.int .i64 0],0,[],0,[],0,[]⟩
def pick(ok:Bool)(B:Br):Br:=if ok=true then B else zB
theorem NewIs.sz{w w':World}{c:Array Value}{ok rst:Bool}{id ta mx hl dl hold:Int}{P:List Pt}(h:NewIs w w' c ok (oG id rst ta mx hl dl hold P)):c.size=20∧c.toList.all (·.oneCell')=true:=by
 rcases h with ⟨rfl,u,rfl,hown⟩|⟨rfl,rfl⟩
 ·obtain⟨a,cp,rfl⟩:=fB hown
  exact⟨rfl,rfl⟩
 ·exact⟨rfl,rfl⟩
end Go.Proofs.YtpanapepcbbagaaGreat
