/- Part 12 of what BridgeRests stands on. No statement is proved here. -/
import Derived.Deep.DeepCutAuto
import Derived.Test.YtpanapepcbbagaaGreatBvj
set_option linter.unusedVariables false
set_option linter.unusedSimpArgs false
set_option maxRecDepth 100000
set_option maxHeartbeats 8000000
namespace Go.Proofs.YtpanapepcbbagaaGreat
open Go.RowKit Go.BigFrame Go.WideShapes Go.ChangeShapes Go.Deep
def aDV(v23 v47:Bool)(v t:List Value)(L:List Value):List Value :=
 ((((setL (setL ((((L.set 34 (.bool false)).set 33 (.bool false)).set 23 (.bool v23)).set 47 (.bool v47)) 68 v) 78 t).set 50 (.bool false)).set 86 (.int .i64 2)).set 31 (.bool true)).set 18 (.int .i64 2)
def aGG(g23 g47:Bool)(is:Int)(less:Bool)(v t:List Value)(L:List Value):List Value:=aDV (g23 && (is == 2) && !less) (g47 && (g23 && (is == 2) && !less)) v t L
theorem wT{w:World}(G o:Nat)(L:List Value)(hP_w:Pv w G o L)(hl:L.length=89)(rst:Bool)(x23:Bool)(h23:L[23]?=some (.bool x23))(x47:Bool)(h47:L[47]?=some (.bool x47))(x68:Int)(h68:L[68]?=some (.int .u64 x68))(x69:Int)(h69:L[69]?=some (.int .u32 x69))(x70:Int)(h70:L[70]?=some (.int .u64 x70))(x71:Int)(h71:L[71]?=some (.int .u16 x71))(x72:Int)(h72:L[72]?=some (.int .u16 x72))(x73:Int)(h73:L[73]?=some (.int .u64 x73))(x74:Int)(h74:L[74]?=some (.int .u32 x74))(x75:Int)(h75:L[75]?=some (.int .u64 x75))(x76:Int)(h76:L[76]?=some (.int .u16 x76))(x77:Int)(h77:L[77]?=some (.int .u16 x77))(x82:Int)(h82:L[82]?=some (.int .i64 x82))(x83:Int)(h83:L[83]?=some (.int .i64 x83))(x84:Int)(h84:L[84]?=some (.int .i64 x84))(x85:Int)(h85:L[85]?=some (.int .i64 x85))(x86:Int)(h86:L[86]?=some (.int .i64 x86)):Calls Tryz.prog 80 #[.agg #[.pointer (some ⟨G,o,none⟩),.bool rst]] w fun e w'=>e=.returned (.tuple #[])∧Pv w' G o (aGG x23 x47 x86 (decide ((c4 x68 x69 x70 x71 x73 x74 x75 x76)<0)) [.int .u64 x73,.int .u32 x74,.int .u64 x75,.int .u16 x76,.int .u16 x77] [.int .i64 x82,.int .i64 x83,.int .i64 x84,.int .i64 x85] L)∧Pm G o w w':=by
 have hG:=hP_w.lt
 have HLEN:=hD hl
 have HL_23:=hD h23
 have HL_47:=hD h47
 have HL_68:=hD h68
 have HL_69:=hD h69
 have HL_70:=hD h70
 have HL_71:=hD h71
 have HL_72:=hD h72
 have HL_73:=hD h73
 have HL_74:=hD h74
 have HL_75:=hD h75
 have HL_76:=hD h76
 have HL_77:=hD h77
 have HL_82:=hD h82
 have HL_83:=hD h83
 have HL_84:=hD h84
 have HL_85:=hD h85
 have HL_86:=hD h86
 have HS_68:=hD (a7 (L:=L) (j:=68) (l:=[.int .u64 x68,.int .u32 x69,.int .u64 x70,.int .u16 x71,.int .u16 x72]) (by rw[hl];exact(by decide:68+5≤89)) (fun i hi=>by
  match i,hi with
  | 0,_=>exact HL_68.out
  | 1,_=>exact HL_69.out
  | 2,_=>exact HL_70.out
  | 3,_=>exact HL_71.out
  | 4,_=>exact HL_72.out
  | i+5,hi=>simp at hi;omega))
 have HS_73:=hD (a7 (L:=L) (j:=73) (l:=[.int .u64 x73,.int .u32 x74,.int .u64 x75,.int .u16 x76,.int .u16 x77]) (by rw[hl];exact(by decide:73+5≤89)) (fun i hi=>by
  match i,hi with
  | 0,_=>exact HL_73.out
  | 1,_=>exact HL_74.out
  | 2,_=>exact HL_75.out
  | 3,_=>exact HL_76.out
  | 4,_=>exact HL_77.out
  | i+5,hi=>simp at hi;omega))
 have HS_82:=hD (a7 (L:=L) (j:=82) (l:=[.int .i64 x82,.int .i64 x83,.int .i64 x84,.int .i64 x85]) (by rw[hl];exact(by decide:82+4≤89)) (fun i hi=>by
  match i,hi with
  | 0,_=>exact HL_82.out
  | 1,_=>exact HL_83.out
  | 2,_=>exact HL_84.out
  | 3,_=>exact HL_85.out
  | i+4,hi=>simp at hi;omega))
 clear hl h23 h47 h68 h69 h70 h71 h72 h73 h74 h75 h76 h77 h82 h83 h84 h85 h86
 go_enter Tryz.func80,Tryz.ntmps80
 go_wp2_with (first
  | fail
  | ((with_reducible refine bP 110 ?_);refine bQ rfl 110 _ rfl #[.pointer (some ⟨G,o,none⟩),.bool rst] rfl ?_
     intro H0 z1 hq hs hx
     have E_z1:Pm G o w z1:=Ext.pm hx G o
     have hP_z1:Pv z1 G o L:=hP_w.ext hx
     have hH_z1:z1.heap[H0]?=some (.cells #[.pointer (some ⟨G,o,none⟩),.bool rst] 110 (0,0)):=hq
     have hb_H0:w.heap.size≤H0:=by omega
     have hn_H0G:H0≠G:=by omega
     have rH0_z1:=cV hH_z1
     have rH1_z1:=dA hH_z1
     clear hP_w
     clear hq hs hx)
  | ((with_reducible refine aD 4 ?_);refine bI rfl rfl 4 _ _ rfl G o 34 _ hP_z1 _ #[.bool false] rfl rfl rfl (by exact(by decide:34+1≤89)) (by kernel_rfl) rfl ?_
     intro z2 hp hm
     replace hp:=aO hp HLEN.out (by decide)
     have hP_z2:=hp
     have hH_z2:=hm.row hH_z1 (show H0≠G by omega)
     have E_z2:Pm G o w z2:=E_z1.trans hm
     have rH0_z2:=cV hH_z2
     have rH1_z2:=dA hH_z2
     clear hH_z1 hP_z1 E_z1 rH0_z1 rH1_z1
     clear hp hm)
  | ((with_reducible refine aD 4 ?_);refine bI rfl rfl 4 _ _ rfl G o 33 _ hP_z2 _ #[.bool false] rfl rfl rfl (by exact(by decide:33+1≤89)) (by kernel_rfl) rfl ?_
     intro z3 hp hm
     replace hp:=aO hp (aB HLEN.out) (by decide)
     have hP_z3:=hp
     have hH_z3:=hm.row hH_z2 (show H0≠G by omega)
     have E_z3:Pm G o w z3:=E_z2.trans hm
     have rH0_z3:=cV hH_z3
     have rH1_z3:=dA hH_z3
     clear hH_z2 hP_z2 E_z2 rH0_z2 rH1_z2
     clear hp hm))
 obtain⟨v23,hv23⟩:∃v:Bool,(x23 && (x86 == 2) && !(decide ((c4 x68 x69 x70 x71 x73 x74 x75 x76)<0)))=v:=⟨_,rfl⟩
 go_cut []from 13 to 41 (fun wx=>Pv wx G o (((L.set 34 (.bool false)).set 33 (.bool false)).set 23 (.bool v23))∧wx.heap[H0]?=some (.cells #[.pointer (some ⟨G,o,none⟩),.bool rst] 110 (0,0))∧Pm G o w wx)
 case rest =>
  obtain⟨hp,hh,hm⟩:=hcut
  rename World=>z4
  have hP_z4:Pv z4 G o (((L.set 34 (.bool false)).set 33 (.bool false)).set 23 (.bool v23)):=hp
  have hH_z4:z4.heap[H0]?=some (.cells #[.pointer (some ⟨G,o,none⟩),.bool rst] 110 (0,0)):=hh
  have E_z4:Pm G o w z4:=hm
  have rH0_z4:=cV hH_z4
  have rH1_z4:=dA hH_z4
  have p23_z4:z4.cell? ⟨G,o+23,none⟩=some (.bool v23):=(hP_z4.cell (j:=23) (by decide)).trans (cE (aB (aB HLEN.out)) (by decide))
  have p47_z4:z4.cell? ⟨G,o+47,none⟩=some (.bool x47):=(hP_z4.cell (j:=47) (by decide)).trans ((aF (by decide)).trans ((aF (by decide)).trans ((aF (by decide)).trans HL_47.out)))
  clear hH_z3 hP_z3 E_z3 rH0_z3 rH1_z3
  clear hp hh hm
  have HV23:=hD hv23
  clear hv23
  obtain⟨v47,hv47⟩:∃v:Bool,(x47 && v23)=v:=⟨_,rfl⟩
  go_upto_region 4 with fail
  go_cut []from 42 to 54 (fun wx=>Pv wx G o ((((L.set 34 (.bool false)).set 33 (.bool false)).set 23 (.bool v23)).set 47 (.bool v47))∧wx.heap[H0]?=some (.cells #[.pointer (some ⟨G,o,none⟩),.bool rst] 110 (0,0))∧Pm G o w wx)
  case rest =>
   obtain⟨hp,hh,hm⟩:=hcut
   rename World=>z5
   have hP_z5:Pv z5 G o ((((L.set 34 (.bool false)).set 33 (.bool false)).set 23 (.bool v23)).set 47 (.bool v47)):=hp
   have hH_z5:z5.heap[H0]?=some (.cells #[.pointer (some ⟨G,o,none⟩),.bool rst] 110 (0,0)):=hh
   have E_z5:Pm G o w z5:=hm
   have rH0_z5:=cV hH_z5
   have rH1_z5:=dA hH_z5
   clear hH_z4 hP_z4 E_z4 rH0_z4 rH1_z4 p23_z4 p47_z4
   clear hp hh hm
   have hv23:=HV23.out
   go_wp2_with fail
   refine fD (S:=fun W'=>Ext z5 W') (S2:=fun W'=>Pm G o z5 W') 16 (by kernel_rfl) ?_
   intro wd hqx
   have hq0:Ext z5 wd:=hqx
   refine cA 0 16 H0 0 rfl rfl hq0 ?_
   refine tW 1 16 (_) rfl rfl (aA rfl 79 _ rfl ⟨H0,0,none⟩ rfl (.pointer (some ⟨G,o,none⟩)) _ (fun W' hW'=>(cell_of_row _ _ _ _ _ _ ((hW'.block _ (aC hH_z5)).trans hH_z5)).trans rfl) Tryz.underlying79 rfl) hq0 ?_
   refine gV 2 16 H0 0 rfl hq0 ?_
   refine tV 3 16 (_) rfl (aA rfl 79 _ rfl ⟨H0,0,none⟩ rfl (.pointer (some ⟨G,o,none⟩)) _ (fun W' hW'=>(cell_of_row _ _ _ _ _ _ (Pm.row hW' hH_z5 (show H0≠G by omega))).trans rfl) Tryz.underlying79 rfl) hq0 ?_
   refine cA 4 16 H0 0 rfl rfl hq0 ?_
   refine tW 5 16 (_) rfl rfl (aA rfl 79 _ rfl ⟨H0,0,none⟩ rfl (.pointer (some ⟨G,o,none⟩)) _ (fun W' hW'=>(cell_of_row _ _ _ _ _ _ ((hW'.block _ (aC hH_z5)).trans hH_z5)).trans rfl) Tryz.underlying79 rfl) hq0 ?_
   refine cA 6 16 G o rfl rfl hq0 ?_
   refine cA 7 16 G (o+73) rfl rfl hq0 ?_
   refine tW 8 16 (_) rfl rfl (yieldsIf_load_mid rfl 30 _ rfl G (o+73) rfl ([.int .u64 x73,.int .u32 x74,.int .u64 x75,.int .u16 x76,.int .u16 x77]) _ (fun W' hW'=>(hP_z5.ext hW').range (j:=73) (n:=5) ((aM (by decide)).trans ((aM (by decide)).trans ((aM (by decide)).trans ((aM (by decide)).trans HS_73.out)))) (by decide)) Tryz.underlying30 rfl (by kernel_rfl)) hq0 ?_
   refine gV 9 16 H0 0 rfl hq0 ?_
   refine tV 10 16 (_) rfl (aA rfl 79 _ rfl ⟨H0,0,none⟩ rfl (.pointer (some ⟨G,o,none⟩)) _ (fun W' hW'=>(cell_of_row _ _ _ _ _ _ (Pm.row hW' hH_z5 (show H0≠G by omega))).trans rfl) Tryz.underlying79 rfl) hq0 ?_
   refine gV 11 16 G o rfl hq0 ?_
   refine gV 12 16 G (o+82) rfl hq0 ?_
   refine tW 13 16 (_) rfl rfl (yieldsIf_load_mid rfl 24 _ rfl G (o+82) rfl ([.int .i64 x82,.int .i64 x83,.int .i64 x84,.int .i64 x85]) _ (fun W' hW'=>(hP_z5.ext hW').range (j:=82) (n:=4) ((aM (by decide)).trans ((aM (by decide)).trans ((aM (by decide)).trans ((aM (by decide)).trans HS_82.out)))) (by decide)) Tryz.underlying24 rfl (by kernel_rfl)) hq0 ?_
   refine gV 14 16 G o rfl hq0 ?_
   refine cA 15 16 G (o+68) rfl rfl hq0 ?_
   refine iC (z:=16) rfl rfl (by kernel_rfl) (fun K hK=>?_)
   refine bT rfl 30 _ _ rfl G o 68 _ (hP_z5.ext hq0) _ #[.int .u64 x73,.int .u32 x74,.int .u64 x75,.int .u16 x76,.int .u16 x77] rfl rfl rfl (by exact(by decide:68+5≤89)) (by kernel_rfl) rfl (fun ws16 hp16 hm16=>?_)
   have hr16:Pm G o z5 ws16:=(Ext.pm hq0 G o).trans hm16
   refine hK.out _ _ hr16 (fun _=>?_)
   try simp only[ps]
   clear hK K
   refine aH 17 G o rfl hr16 ?_
   refine aH 18 G (o+78) rfl hr16 ?_
   refine bB (i:=19) rfl rfl (by kernel_rfl) (fun K hK=>?_)
   refine bT rfl 24 _ _ rfl G o 78 _ hp16 _ #[.int .i64 x82,.int .i64 x83,.int .i64 x84,.int .i64 x85] rfl rfl rfl (by exact(by decide:78+4≤89)) (by kernel_rfl) rfl (fun ws19 hp19 hm19=>?_)
   have hr19:Pm G o z5 ws19:=hr16.trans hm19
   refine hK.out _ _ hr19 (fun _=>?_)
   try simp only[ps]
   clear hK K
   refine wpAnyH_done (by kernel_rfl) ?_ _
   generalize ws19=z6 at *
   have hP_z6:Pv z6 G o (setL (setL ((((L.set 34 (.bool false)).set 33 (.bool false)).set 23 (.bool v23)).set 47 (.bool v47)) 68 [.int .u64 x73,.int .u32 x74,.int .u64 x75,.int .u16 x76,.int .u16 x77]) 78 [.int .i64 x82,.int .i64 x83,.int .i64 x84,.int .i64 x85]):=hp19
   have hH_z6:z6.heap[H0]?=some (.cells #[.pointer (some ⟨G,o,none⟩),.bool rst] 110 (0,0)):=(hm19.row (hm16.row ((hq0.block _ (aC hH_z5)).trans hH_z5) (show H0≠G by omega)) (show H0≠G by omega))
   have E_z6:Pm G o w z6:=((E_z5.ext hq0).trans hm16).trans hm19
   have rH0_z6:=cV hH_z6
   have rH1_z6:=dA hH_z6
   clear hH_z5 hP_z5 E_z5 rH0_z5 rH1_z5
   clear hq0 hqx hm16 hm19 hp16 hp19 hr16 hr19
   go_wp2_with (first
    | fail
    | ((with_reducible refine aD 4 ?_);refine bI rfl rfl 4 _ _ rfl G o 50 _ hP_z6 _ #[.bool false] rfl rfl rfl (by exact(by decide:50+1≤89)) (by kernel_rfl) rfl ?_
       intro z7 hp hm
       replace hp:=aO hp (bH (bH (aB (aB (aB (aB HLEN.out)))) (by exact(by decide:68+5≤89))) (by exact(by decide:78+4≤89))) (by decide)
       have hP_z7:=hp
       have hH_z7:=hm.row hH_z6 (show H0≠G by omega)
       have E_z7:Pm G o w z7:=E_z6.trans hm
       have rH0_z7:=cV hH_z7
       have rH1_z7:=dA hH_z7
       clear hH_z6 hP_z6 E_z6 rH0_z6 rH1_z6
       clear hp hm)
    | ((with_reducible refine aD 3 ?_);refine bI rfl rfl 3 _ _ rfl G o 86 _ hP_z7 _ #[.int .i64 2] rfl rfl rfl (by exact(by decide:86+1≤89)) (by kernel_rfl) rfl ?_
       intro z8 hp hm
       replace hp:=aO hp (aB (bH (bH (aB (aB (aB (aB HLEN.out)))) (by exact(by decide:68+5≤89))) (by exact(by decide:78+4≤89)))) (by decide)
       have hP_z8:=hp
       have hH_z8:=hm.row hH_z7 (show H0≠G by omega)
       have E_z8:Pm G o w z8:=E_z7.trans hm
       have rH0_z8:=cV hH_z8
       have rH1_z8:=dA hH_z8
       clear hH_z7 hP_z7 E_z7 rH0_z7 rH1_z7
       clear hp hm)
    | ((with_reducible refine aD 4 ?_);refine bI rfl rfl 4 _ _ rfl G o 31 _ hP_z8 _ #[.bool true] rfl rfl rfl (by exact(by decide:31+1≤89)) (by kernel_rfl) rfl ?_
       intro z9 hp hm
       replace hp:=aO hp (aB (aB (bH (bH (aB (aB (aB (aB HLEN.out)))) (by exact(by decide:68+5≤89))) (by exact(by decide:78+4≤89))))) (by decide)
       have hP_z9:=hp
       have hH_z9:=hm.row hH_z8 (show H0≠G by omega)
       have E_z9:Pm G o w z9:=E_z8.trans hm
       have rH0_z9:=cV hH_z9
       have rH1_z9:=dA hH_z9
       clear hH_z8 hP_z8 E_z8 rH0_z8 rH1_z8
       clear hp hm)
    | ((with_reducible refine aD 3 ?_);refine bI rfl rfl 3 _ _ rfl G o 18 _ hP_z9 _ #[.int .i64 2] rfl rfl rfl (by exact(by decide:18+1≤89)) (by kernel_rfl) rfl ?_
       intro z10 hp hm
       replace hp:=aO hp (aB (aB (aB (bH (bH (aB (aB (aB (aB HLEN.out)))) (by exact(by decide:68+5≤89))) (by exact(by decide:78+4≤89)))))) (by decide)
       have hP_z10:=hp
       have hH_z10:=hm.row hH_z9 (show H0≠G by omega)
       have E_z10:Pm G o w z10:=E_z9.trans hm
       have rH0_z10:=cV hH_z10
       have rH1_z10:=dA hH_z10
       clear hH_z9 hP_z9 E_z9 rH0_z9 rH1_z9
       clear hp hm))
   subst hv23
   subst hv47
   go_end0
   exact⟨rfl,hP_z10,E_z10⟩
  cases x47
  ·subst hv47
   go_wp2_with (first
    | fail
    | ((with_reducible refine aD 4 ?_);refine bI rfl rfl 4 _ _ rfl G o 47 _ hP_z4 _ #[.bool false] rfl rfl rfl (by exact(by decide:47+1≤89)) (by kernel_rfl) rfl ?_
       intro z5 hp hm
       replace hp:=aO hp (aB (aB (aB HLEN.out))) (by decide)
       have hP_z5:=hp
       have hH_z5:=hm.row hH_z4 (show H0≠G by omega)
       have E_z5:Pm G o w z5:=E_z4.trans hm
       have rH0_z5:=cV hH_z5
       have rH1_z5:=dA hH_z5
       clear hH_z4 hP_z4 E_z4 rH0_z4 rH1_z4 p23_z4 p47_z4
       clear hp hm))
   go_wp2_with fail
   go_meet
   exact⟨hP_z5,hH_z5,E_z5⟩
  ·subst hv47
   go_wp2_with (first
    | fail
    | ((with_reducible refine aD 4 ?_);refine bI rfl rfl 4 _ _ rfl G o 47 _ hP_z4 _ #[.bool v23] rfl rfl rfl (by exact(by decide:47+1≤89)) (by kernel_rfl) rfl ?_
       intro z5 hp hm
       replace hp:=aO hp (aB (aB (aB HLEN.out))) (by decide)
       have hP_z5:=hp
       have hH_z5:=hm.row hH_z4 (show H0≠G by omega)
       have E_z5:Pm G o w z5:=E_z4.trans hm
       have rH0_z5:=cV hH_z5
       have rH1_z5:=dA hH_z5
       clear hH_z4 hP_z4 E_z4 rH0_z4 rH1_z4 p23_z4 p47_z4
       clear hp hm))
   go_wp2_with fail
   go_meet
   exact⟨hP_z5,hH_z5,E_z5⟩
 cases x23
 ·subst hv23
  refine fD (S:=fun W'=>Ext z3 W') (S2:=fun W'=>Pm G o z3 W') 29 (by kernel_rfl) ?_
  intro wd hqx
  have hq0:Ext z3 wd:=hqx
  refine cA 0 29 G (o+22) rfl rfl hq0 ?_
  refine cA 1 29 G (o+22) rfl rfl hq0 ?_
  refine cA 2 29 G (o+22) rfl rfl hq0 ?_
  refine cA 3 29 G (o+23) rfl rfl hq0 ?_
  refine tW 4 29 (_) rfl rfl (aA rfl 4 _ rfl ⟨G,o+23,none⟩ rfl (.bool false) _ (fun W' hW'=>((hP_z3.ext hW').cell (j:=23) (by decide)).trans ((aF (by decide)).trans ((aF (by decide)).trans HL_23.out))) Tryz.underlying4 rfl) hq0 ?_
  refine kK 5 29 ((.bool false)) rfl rfl hq0 ?_
  refine tW 6 29 (undef) rfl rfl (Or.inr ⟨rfl,rfl⟩) hq0 ?_
  refine tW 7 29 (undef) rfl rfl (Or.inr ⟨rfl,rfl⟩) hq0 ?_
  refine tW 8 29 (undef) rfl rfl (Or.inr ⟨rfl,rfl⟩) hq0 ?_
  refine tW 9 29 (undef) rfl rfl (Or.inr ⟨rfl,rfl⟩) hq0 ?_
  refine tW 10 29 (undef) rfl rfl (Or.inr ⟨rfl,rfl⟩) hq0 ?_
  refine tW 11 29 (undef) rfl rfl (Or.inr ⟨rfl,rfl⟩) hq0 ?_
  refine kK 12 29 ((.bool false)) rfl rfl hq0 ?_
  refine kK 13 29 ((.bool false)) rfl rfl hq0 ?_
  refine tW 14 29 (undef) rfl rfl (Or.inr ⟨rfl,rfl⟩) hq0 ?_
  refine tW 15 29 (undef) rfl rfl (Or.inr ⟨rfl,rfl⟩) hq0 ?_
  refine tW 16 29 (undef) rfl rfl (Or.inr ⟨rfl,rfl⟩) hq0 ?_
  refine tW 17 29 (undef) rfl rfl (Or.inr ⟨rfl,rfl⟩) hq0 ?_
  refine tW 18 29 (undef) rfl rfl (Or.inr ⟨rfl,rfl⟩) hq0 ?_
  refine tW 19 29 (undef) rfl rfl (Or.inr ⟨rfl,rfl⟩) hq0 ?_
  refine tW 20 29 (undef) rfl rfl (Or.inr ⟨rfl,rfl⟩) hq0 ?_
  refine tW 21 29 (undef) rfl rfl (Or.inr ⟨rfl,rfl⟩) hq0 ?_
  refine tW 22 29 (undef) rfl rfl (Or.inr ⟨rfl,rfl⟩) hq0 ?_
  refine tW 23 29 (undef) rfl rfl (Or.inr ⟨rfl,rfl⟩) hq0 ?_
  refine tW 24 29 (undef) rfl rfl (Or.inr ⟨rfl,rfl⟩) hq0 ?_
  refine tW 25 29 (undef) rfl rfl (Or.inr ⟨rfl,rfl⟩) hq0 ?_
  refine kK 26 29 ((.bool false)) rfl rfl hq0 ?_
  refine gV 27 29 G (o+22) rfl hq0 ?_
  refine cA 28 29 G (o+23) rfl rfl hq0 ?_
  refine iC (z:=29) rfl rfl (by kernel_rfl) (fun K hK=>?_)
  refine bT rfl 4 _ _ rfl G o 23 _ (hP_z3.ext hq0) _ #[.bool false] rfl rfl rfl (by exact(by decide:23+1≤89)) (by kernel_rfl) rfl (fun ws29 hp29 hm29=>?_)
  replace hp29:=aO hp29 (aB (aB HLEN.out)) (by decide)
  have hr29:Pm G o z3 ws29:=(Ext.pm hq0 G o).trans hm29
  refine hK.out _ _ hr29 (fun _=>?_)
  try simp only[ps]
  clear hK K
  refine wpAnyH_done (by kernel_rfl) ?_ _
  generalize ws29=z4 at *
  have hP_z4:Pv z4 G o (((L.set 34 (.bool false)).set 33 (.bool false)).set 23 (.bool false)):=hp29
  have hH_z4:z4.heap[H0]?=some (.cells #[.pointer (some ⟨G,o,none⟩),.bool rst] 110 (0,0)):=(hm29.row ((hq0.block _ (aC hH_z3)).trans hH_z3) (show H0≠G by omega))
  have E_z4:Pm G o w z4:=(E_z3.ext hq0).trans hm29
  have rH0_z4:=cV hH_z4
  have rH1_z4:=dA hH_z4
  have p23_z4:z4.cell? ⟨G,o+23,none⟩=some (.bool false):=(hP_z4.cell (j:=23) (by decide)).trans (cE (aB (aB HLEN.out)) (by decide))
  have p47_z4:z4.cell? ⟨G,o+47,none⟩=some (.bool x47):=(hP_z4.cell (j:=47) (by decide)).trans ((aF (by decide)).trans ((aF (by decide)).trans ((aF (by decide)).trans HL_47.out)))
  clear hH_z3 hP_z3 E_z3 rH0_z3 rH1_z3
  clear hq0 hqx hm29 hp29 hr29
  go_wp2_with fail
  go_meet
  exact⟨hP_z4,hH_z4,E_z4⟩
 ·by_cases e86:x86=2
  ·subst e86
   subst hv23
   refine fD (S:=fun W'=>Ext z3 W') (S2:=fun W'=>Pm G o z3 W') 29 (by kernel_rfl) ?_
   intro wd hqx
   have hq0:Ext z3 wd:=hqx
   refine cA 0 29 G (o+22) rfl rfl hq0 ?_
   refine cA 1 29 G (o+22) rfl rfl hq0 ?_
   refine cA 2 29 G (o+22) rfl rfl hq0 ?_
   refine cA 3 29 G (o+23) rfl rfl hq0 ?_
   refine tW 4 29 (_) rfl rfl (aA rfl 4 _ rfl ⟨G,o+23,none⟩ rfl (.bool true) _ (fun W' hW'=>((hP_z3.ext hW').cell (j:=23) (by decide)).trans ((aF (by decide)).trans ((aF (by decide)).trans HL_23.out))) Tryz.underlying4 rfl) hq0 ?_
   refine kK 5 29 ((.bool true)) rfl rfl hq0 ?_
   refine cA 6 29 H0 0 rfl rfl hq0 ?_
   refine tW 7 29 (_) rfl rfl (aA rfl 79 _ rfl ⟨H0,0,none⟩ rfl (.pointer (some ⟨G,o,none⟩)) _ (fun W' hW'=>(cell_of_row _ _ _ _ _ _ ((hW'.block _ (aC hH_z3)).trans hH_z3)).trans rfl) Tryz.underlying79 rfl) hq0 ?_
   refine cA 8 29 G o rfl rfl hq0 ?_
   refine cA 9 29 G (o+86) rfl rfl hq0 ?_
   refine tW 10 29 (_) rfl rfl (aA rfl 3 _ rfl ⟨G,o+86,none⟩ rfl (.int .i64 2) _ (fun W' hW'=>((hP_z3.ext hW').cell (j:=86) (by decide)).trans ((aF (by decide)).trans ((aF (by decide)).trans HL_86.out))) Tryz.underlying3 rfl) hq0 ?_
   refine tW 11 29 ((.bool true)) rfl rfl (Or.inl ⟨rfl,fun W' _=>by go_simp⟩) hq0 ?_
   refine kK 12 29 ((.bool true)) rfl rfl hq0 ?_
   refine kK 13 29 ((.bool true)) rfl rfl hq0 ?_
   refine cA 14 29 H0 0 rfl rfl hq0 ?_
   refine tW 15 29 (_) rfl rfl (aA rfl 79 _ rfl ⟨H0,0,none⟩ rfl (.pointer (some ⟨G,o,none⟩)) _ (fun W' hW'=>(cell_of_row _ _ _ _ _ _ ((hW'.block _ (aC hH_z3)).trans hH_z3)).trans rfl) Tryz.underlying79 rfl) hq0 ?_
   refine cA 16 29 G o rfl rfl hq0 ?_
   refine cA 17 29 G (o+68) rfl rfl hq0 ?_
   refine tW 18 29 (_) rfl rfl (yieldsIf_load_mid rfl 30 _ rfl G (o+68) rfl ([.int .u64 x68,.int .u32 x69,.int .u64 x70,.int .u16 x71,.int .u16 x72]) _ (fun W' hW'=>(hP_z3.ext hW').range (j:=68) (n:=5) ((aM (by decide)).trans ((aM (by decide)).trans HS_68.out)) (by decide)) Tryz.underlying30 rfl (by kernel_rfl)) hq0 ?_
   refine cA 19 29 H0 0 rfl rfl hq0 ?_
   refine tW 20 29 (_) rfl rfl (aA rfl 79 _ rfl ⟨H0,0,none⟩ rfl (.pointer (some ⟨G,o,none⟩)) _ (fun W' hW'=>(cell_of_row _ _ _ _ _ _ ((hW'.block _ (aC hH_z3)).trans hH_z3)).trans rfl) Tryz.underlying79 rfl) hq0 ?_
   refine cA 21 29 G o rfl rfl hq0 ?_
   refine cA 22 29 G (o+73) rfl rfl hq0 ?_
   refine tW 23 29 (_) rfl rfl (yieldsIf_load_mid rfl 30 _ rfl G (o+73) rfl ([.int .u64 x73,.int .u32 x74,.int .u64 x75,.int .u16 x76,.int .u16 x77]) _ (fun W' hW'=>(hP_z3.ext hW').range (j:=73) (n:=5) ((aM (by decide)).trans ((aM (by decide)).trans HS_73.out)) (by decide)) Tryz.underlying30 rfl (by kernel_rfl)) hq0 ?_
   refine aIA (i:=24) rfl (by rfl) (by kernel_rfl) (fun _ h=>Ext.pm h G o) (fun K hK=>?_)
   go_simp
   refine(lQ _ _ _ _ _ _ _ _ _ _ _).mono ?_
   rintro e wc1 ⟨rfl,hx⟩
   have hq1:=hq0.trans hx
   clear hx
   refine hK.out _ _ hq1 (fun hHeld=>?_)
   try simp only[ps]
   clear hK K hHeld
   refine tW 25 29 ((.bool (!(decide ((c4 x68 x69 x70 x71 x73 x74 x75 x76)<0))))) rfl rfl (Or.inl ⟨rfl,fun W' _=>by go_simp⟩) hq1 ?_
   refine kK 26 29 ((.bool (!(decide ((c4 x68 x69 x70 x71 x73 x74 x75 x76)<0))))) rfl rfl hq1 ?_
   refine gV 27 29 G (o+22) rfl hq1 ?_
   refine cA 28 29 G (o+23) rfl rfl hq1 ?_
   refine iC (z:=29) rfl rfl (by kernel_rfl) (fun K hK=>?_)
   refine bT rfl 4 _ _ rfl G o 23 _ (hP_z3.ext hq1) _ #[.bool (!(decide ((c4 x68 x69 x70 x71 x73 x74 x75 x76)<0)))] rfl rfl rfl (by exact(by decide:23+1≤89)) (by kernel_rfl) rfl (fun ws29 hp29 hm29=>?_)
   replace hp29:=aO hp29 (aB (aB HLEN.out)) (by decide)
   have hr29:Pm G o z3 ws29:=(Ext.pm hq1 G o).trans hm29
   refine hK.out _ _ hr29 (fun _=>?_)
   try simp only[ps]
   clear hK K
   refine wpAnyH_done (by kernel_rfl) ?_ _
   generalize ws29=z4 at *
   have hP_z4:Pv z4 G o (((L.set 34 (.bool false)).set 33 (.bool false)).set 23 (.bool (!(decide ((c4 x68 x69 x70 x71 x73 x74 x75 x76)<0))))):=hp29
   have hH_z4:z4.heap[H0]?=some (.cells #[.pointer (some ⟨G,o,none⟩),.bool rst] 110 (0,0)):=(hm29.row ((hq1.block _ (aC hH_z3)).trans hH_z3) (show H0≠G by omega))
   have E_z4:Pm G o w z4:=(E_z3.ext hq1).trans hm29
   have rH0_z4:=cV hH_z4
   have rH1_z4:=dA hH_z4
   have p23_z4:z4.cell? ⟨G,o+23,none⟩=some (.bool (!(decide ((c4 x68 x69 x70 x71 x73 x74 x75 x76)<0)))):=(hP_z4.cell (j:=23) (by decide)).trans (cE (aB (aB HLEN.out)) (by decide))
   have p47_z4:z4.cell? ⟨G,o+47,none⟩=some (.bool x47):=(hP_z4.cell (j:=47) (by decide)).trans ((aF (by decide)).trans ((aF (by decide)).trans ((aF (by decide)).trans HL_47.out)))
   clear hH_z3 hP_z3 E_z3 rH0_z3 rH1_z3
   clear hq0 hq1 hqx hm29 hp29 hr29
   go_wp2_with fail
   go_meet
   exact⟨hP_z4,hH_z4,E_z4⟩
  ·have c3:(x86 == 2)=false:=by simpa using e86
   clear e86
   rw[c3]at hv23
   subst hv23
   refine fD (S:=fun W'=>Ext z3 W') (S2:=fun W'=>Pm G o z3 W') 29 (by kernel_rfl) ?_
   intro wd hqx
   have hq0:Ext z3 wd:=hqx
   refine cA 0 29 G (o+22) rfl rfl hq0 ?_
   refine cA 1 29 G (o+22) rfl rfl hq0 ?_
   refine cA 2 29 G (o+22) rfl rfl hq0 ?_
   refine cA 3 29 G (o+23) rfl rfl hq0 ?_
   refine tW 4 29 (_) rfl rfl (aA rfl 4 _ rfl ⟨G,o+23,none⟩ rfl (.bool true) _ (fun W' hW'=>((hP_z3.ext hW').cell (j:=23) (by decide)).trans ((aF (by decide)).trans ((aF (by decide)).trans HL_23.out))) Tryz.underlying4 rfl) hq0 ?_
   refine kK 5 29 ((.bool true)) rfl rfl hq0 ?_
   refine cA 6 29 H0 0 rfl rfl hq0 ?_
   refine tW 7 29 (_) rfl rfl (aA rfl 79 _ rfl ⟨H0,0,none⟩ rfl (.pointer (some ⟨G,o,none⟩)) _ (fun W' hW'=>(cell_of_row _ _ _ _ _ _ ((hW'.block _ (aC hH_z3)).trans hH_z3)).trans rfl) Tryz.underlying79 rfl) hq0 ?_
   refine cA 8 29 G o rfl rfl hq0 ?_
   refine cA 9 29 G (o+86) rfl rfl hq0 ?_
   refine tW 10 29 (_) rfl rfl (aA rfl 3 _ rfl ⟨G,o+86,none⟩ rfl (.int .i64 x86) _ (fun W' hW'=>((hP_z3.ext hW').cell (j:=86) (by decide)).trans ((aF (by decide)).trans ((aF (by decide)).trans HL_86.out))) Tryz.underlying3 rfl) hq0 ?_
   refine tW 11 29 ((.bool false)) rfl rfl (Or.inl ⟨rfl,fun W' _=>by go_simp⟩) hq0 ?_
   refine kK 12 29 ((.bool false)) rfl rfl hq0 ?_
   refine kK 13 29 ((.bool false)) rfl rfl hq0 ?_
   refine tW 14 29 (undef) rfl rfl (Or.inr ⟨rfl,rfl⟩) hq0 ?_
   refine tW 15 29 (undef) rfl rfl (Or.inr ⟨rfl,rfl⟩) hq0 ?_
   refine tW 16 29 (undef) rfl rfl (Or.inr ⟨rfl,rfl⟩) hq0 ?_
   refine tW 17 29 (undef) rfl rfl (Or.inr ⟨rfl,rfl⟩) hq0 ?_
   refine tW 18 29 (undef) rfl rfl (Or.inr ⟨rfl,rfl⟩) hq0 ?_
   refine tW 19 29 (undef) rfl rfl (Or.inr ⟨rfl,rfl⟩) hq0 ?_
   refine tW 20 29 (undef) rfl rfl (Or.inr ⟨rfl,rfl⟩) hq0 ?_
   refine tW 21 29 (undef) rfl rfl (Or.inr ⟨rfl,rfl⟩) hq0 ?_
   refine tW 22 29 (undef) rfl rfl (Or.inr ⟨rfl,rfl⟩) hq0 ?_
   refine tW 23 29 (undef) rfl rfl (Or.inr ⟨rfl,rfl⟩) hq0 ?_
   refine tW 24 29 (undef) rfl rfl (Or.inr ⟨rfl,rfl⟩) hq0 ?_
   refine tW 25 29 (undef) rfl rfl (Or.inr ⟨rfl,rfl⟩) hq0 ?_
   refine kK 26 29 ((.bool false)) rfl rfl hq0 ?_
   refine gV 27 29 G (o+22) rfl hq0 ?_
   refine cA 28 29 G (o+23) rfl rfl hq0 ?_
   refine iC (z:=29) rfl rfl (by kernel_rfl) (fun K hK=>?_)
   refine bT rfl 4 _ _ rfl G o 23 _ (hP_z3.ext hq0) _ #[.bool false] rfl rfl rfl (by exact(by decide:23+1≤89)) (by kernel_rfl) rfl (fun ws29 hp29 hm29=>?_)
   replace hp29:=aO hp29 (aB (aB HLEN.out)) (by decide)
   have hr29:Pm G o z3 ws29:=(Ext.pm hq0 G o).trans hm29
   refine hK.out _ _ hr29 (fun _=>?_)
   try simp only[ps]
   clear hK K
   refine wpAnyH_done (by kernel_rfl) ?_ _
   generalize ws29=z4 at *
   have hP_z4:Pv z4 G o (((L.set 34 (.bool false)).set 33 (.bool false)).set 23 (.bool false)):=hp29
   have hH_z4:z4.heap[H0]?=some (.cells #[.pointer (some ⟨G,o,none⟩),.bool rst] 110 (0,0)):=(hm29.row ((hq0.block _ (aC hH_z3)).trans hH_z3) (show H0≠G by omega))
   have E_z4:Pm G o w z4:=(E_z3.ext hq0).trans hm29
   have rH0_z4:=cV hH_z4
   have rH1_z4:=dA hH_z4
   have p23_z4:z4.cell? ⟨G,o+23,none⟩=some (.bool false):=(hP_z4.cell (j:=23) (by decide)).trans (cE (aB (aB HLEN.out)) (by decide))
   have p47_z4:z4.cell? ⟨G,o+47,none⟩=some (.bool x47):=(hP_z4.cell (j:=47) (by decide)).trans ((aF (by decide)).trans ((aF (by decide)).trans ((aF (by decide)).trans HL_47.out)))
   clear hH_z3 hP_z3 E_z3 rH0_z3 rH1_z3
   clear hq0 hqx hm29 hp29 hr29
   go_wp2_with fail
   go_meet
   exact⟨hP_z4,hH_z4,E_z4⟩
section
variable {P:Program} {ops:Array Oper} {Q:Exit→Act→World→Prop} {md:Region.Mode}
structure Laid (ops:Array Oper) (a0:Act) (V:Nat→Value) (listed:Array Bool) (a:Act):Prop where
 defers:a.defers=a0.defers
 size:a.tmps.size=a0.tmps.size
 at_:∀(i t:Nat) (o:Oper),ops[i]?=some o→o.dst=some t→listed.getD i false=true→t<a0.tmps.size→a.tmps[t]?=some (V i)
 old:∀t,(∀(i:Nat) (o:Oper),ops[i]?=some o→o.dst=some t→listed.getD i false=false)→a.tmps[t]?=a0.tmps[t]?
def aDW(ops:Array Oper):Prop:=∀(i j t:Nat) (oi oj:Oper),ops[i]?=some oi→ops[j]?=some oj→oi.dst=some t→oj.dst=some t→i=j
def aIF(ops:List Oper):Bool:=decide ((ops.filterMap (·.dst)).Nodup)
theorem o8:∀(l:List Oper),(l.filterMap (·.dst)).Nodup→∀(i j t:Nat) (oi oj:Oper),l[i]?=some oi→l[j]?=some oj→oi.dst=some t→oj.dst=some t→i=j
 | [],_,i,j,t,oi,oj,hi,_,_,_=>by simp at hi
 | o :: r,h,i,j,t,oi,oj,hi,hj,di,dj=>by
  have hr:(r.filterMap (·.dst)).Nodup:=by
   cases hd:o.dst with
   | none=>rw[List.filterMap_cons_none hd]at h;exact h
   | some u=>rw[List.filterMap_cons_some hd]at h;exact(List.nodup_cons.1 h).2
  have notin:∀(k:Nat) (ok:Oper),r[k]?=some ok→ok.dst=some t→o.dst=some t→False:=fun k ok hk dk d0=>by
   rw[List.filterMap_cons_some d0]at h
   exact(List.nodup_cons.1 h).1 (List.mem_filterMap.2 ⟨ok,List.mem_of_getElem? hk,dk⟩)
  match i,j with
  | 0,0=>rfl
  | 0,j+1 =>
   simp only[List.getElem?_cons_zero,Option.some.injEq,List.getElem?_cons_succ]at hi hj
   subst hi
   exact(notin j oj hj dj di).elim
  | i+1,0 =>
   simp only[List.getElem?_cons_zero,Option.some.injEq,List.getElem?_cons_succ]at hi hj
   subst hj
   exact(notin i oi hi di dj).elim
  | i+1,j+1 =>
   simp only[List.getElem?_cons_succ]at hi hj
   rw[o8 r hr i j t oi oj hi hj di dj]
theorem zF{l:List Oper}(h:aIF l=true):aDW l.toArray:=fun i j t oi oj hi hj di dj =>
 o8 l (by simpa[aIF]using h) i j t oi oj (by simpa using hi) (by simpa using hj) di dj
theorem Laid.put{a0 a:Act}{V:Nat→Value}{listed:Array Bool}(h:Laid ops a0 V listed a)(hon:aDW ops){i:Nat}{o:Oper}(hi:ops[i]?=some o)(hl:i<listed.size)(v:Value):
    Laid ops a0 (fun j=>if j=i then v else V j) (listed.setIfInBounds i true) (a.put o.dst v):=by
 have lst:∀j,(listed.setIfInBounds i true).getD j false=if i=j then true else listed.getD j false:=fun j=>by
  by_cases e:i=j
  ·subst e;simp[Array.getD,hl]
  ·rw[if_neg e,getD_set_ne false e]
 cases hd:o.dst with
 | none =>
  refine⟨h.defers,h.size,fun j t oj hj dj lj ht=>?_,fun t hf=>?_⟩
  ·have hne:j≠i:=fun e=>by subst e;rw[hi]at hj;cases hj;rw[hd]at dj;cases dj
   rw[if_neg hne]
   rw[lst,if_neg (Ne.symm hne)]at lj
   exact h.at_ j t oj hj dj lj ht
  ·refine h.old t (fun j oj hj dj=>?_)
   have:=hf j oj hj dj
   rw[lst]at this
   split at this
   ·cases this
   ·exact this
 | some d =>
  have hput:(a.put (some d) v).tmps=a.tmps.setIfInBounds d v:=rfl
  refine⟨h.defers,by rw[hput];simpa using h.size,fun j t oj hj dj lj ht=>?_,fun t hf=>?_⟩
  ·rw [hput]
   by_cases e:j=i
   ·subst e
    rw[hi]at hj;cases hj
    rw[hd]at dj;cases dj
    rw[if_pos rfl]
    have:d<a.tmps.size:=by rw[h.size];exact ht
    simp[this]
   ·rw[if_neg e]
    rw[lst,if_neg (Ne.symm e)]at lj
    have hne:d≠t:=fun e2=>by subst e2;exact e (hon j i d oj o hj hi dj hd)
    rw[Array.getElem?_setIfInBounds_ne hne]
    exact h.at_ j t oj hj dj lj ht
  ·rw [hput]
   have hne:d≠t:=fun e2=>by
    subst e2
    have:=hf i o hi hd
    rw[lst,if_pos rfl]at this
    cases this
   rw[Array.getElem?_setIfInBounds_ne hne]
   refine h.old t (fun j oj hj dj=>?_)
   have:=hf j oj hj dj
   rw[lst]at this
   split at this
   ·cases this
   ·exact this
theorem Laid.unique{a0 a b:Act}{V:Nat→Value}{listed:Array Bool}(h:Laid ops a0 V listed a)(k:Laid ops a0 V listed b):a=b:=by
 obtain⟨ta,da⟩:=a
 obtain⟨tb,db⟩:=b
 have h1:=h.defers;have k1:=k.defers
 simp only at h1 k1
 have ht:ta=tb:=by
  apply Array.ext_getElem?
  intro t
  by_cases hs:t<a0.tmps.size
  ·by_cases e:∃(i:Nat) (o:Oper),ops[i]?=some o∧o.dst=some t∧listed.getD i false=true
   ·obtain⟨i,o,hi,hd,hl⟩:=e
    exact(h.at_ i t o hi hd hl hs).trans (k.at_ i t o hi hd hl hs).symm
   ·have hf:∀(i:Nat) (o:Oper),ops[i]?=some o→o.dst=some t→listed.getD i false=false:=fun i o hi hd=>by
     cases hc:listed.getD i false with
     | false=>rfl
     | true=>exact(e ⟨i,o,hi,hd,hc⟩).elim
    exact(h.old t hf).trans (k.old t hf).symm
  ·have h2:=h.size;have k2:=k.size
   simp only at h2 k2
   rw[Array.getElem?_eq_none (by omega),Array.getElem?_eq_none (by omega)]
 rw[ht,h1.trans k1.symm]
def sJ(V:Nat→Value):List Oper→Nat→Act→Act
 | [],_,a=>a
 | o :: r,n,a=>sJ V r (n+1) (a.put o.dst (V n))
theorem nZ{l:List Oper}(hon:aDW l.toArray){a0:Act}{V:Nat→Value}:∀(r:List Oper) (n:Nat) (a:Act) (listed:Array Bool),l.drop n=r→listed.size=l.length→Laid l.toArray a0 V listed a→(∀i,n≤i→i<l.length→listed.getD i false=false)→(∀i,i<n→listed.getD i false=true) →
    ∃L2:Array Bool,L2.size=l.length∧(∀i,i<l.length→L2.getD i false=true)∧Laid l.toArray a0 V L2 (sJ V r n a)
 | [],n,a,listed,hr,hs,hL,hf,ht=>by
  have:l.length≤n:=by have:=congrArg List.length hr;simp at this;omega
  exact⟨listed,hs,fun i hi=>ht i (by omega),hL⟩
 | o :: r,n,a,listed,hr,hs,hL,hf,ht=>by
  have hn:n<l.length:=by have:=congrArg List.length hr;simp at this;omega
  have ho:l.toArray[n]?=some o:=by
   have e:(l.drop n)[0]?=some o:=by rw[hr];rfl
   rw[List.getElem?_drop,Nat.add_zero]at e
   simpa using e
  have hp:=hL.put hon ho (by omega) (V n)
  have hV:(fun j=>if j=n then V n else V j)=V:=funext fun j=>by split<;>simp_all
  rw[hV]at hp
  refine nZ hon r (n+1) _ _ ?_ (by simpa using hs) hp (fun i h1 h2=>?_) (fun i h1=>?_)
  ·rw[←List.drop_drop,hr];rfl
  ·rw[getD_set_ne false (by omega)];exact hf i (by omega) h2
  ·by_cases e:n=i
   ·subst e;simp[Array.getD,hs,hn]
   ·rw[getD_set_ne false e];exact ht i (by omega)
def Closed(md:Region.Mode)(ops:Array Oper)(listed:Array Bool):Prop:=∀(i:Nat) (o:Oper) (e:Edge),ops[i]?=some o→listed.getD i false=true→e∈o.after→Region.binds md e=true→listed.getD e.on false=true
theorem Closed.put{listed:Array Bool}(h:Closed md ops listed){i:Nat}{o:Oper}(hi:ops[i]?=some o)(hl:i<listed.size)(hdep:∀e∈o.after,Region.binds md e=true→listed.getD e.on false=true):Closed md ops (listed.setIfInBounds i true):=fun j oj e hj hlj he hb=>by
 have up:∀n,listed.getD n false=true→(listed.setIfInBounds i true).getD n false=true:=fun n hn=>by
  by_cases e2:i=n
  ·subst e2;simp[Array.getD,hl]
  ·rw[getD_set_ne false e2];exact hn
 by_cases e2:i=j
 ·subst e2
  rw[hi]at hj;cases hj
  exact up _ (hdep e he hb)
 ·rw[getD_set_ne false e2]at hlj
  exact up _ (h j oj e hj hlj he hb)
theorem aGH(n:Nat):Closed md ops (Array.replicate n false):=fun i o e _ hl _ _=>by
 by_cases h:i<n
 ·simp[Array.getD,h]at hl
 ·simp[Array.getD,h]at hl
theorem wU{a0:Act}(hon:aDW ops)(htopo:∀(i:Nat) (o:Oper) (e:Edge),ops[i]?=some o→e∈o.after→Region.binds md e=true→e.on<i)(I:Array Bool→(Nat→Value)→World→Prop)(hstep:∀(listed:Array Bool) (V:Nat→Value) (a:Act) (w:World) (i:Nat) (o:Oper),ops[i]?=some o→listed.size=ops.size→Closed md ops listed→listed.getD i true=false→(∀e∈o.after,Region.binds md e=true→listed.getD e.on false=true)→Laid ops a0 V listed a→I listed V w →
     wpOp P ops Q i (fun a' w'=>∃v,a'=a.put o.dst v∧I (listed.setIfInBounds i true) (fun j=>if j=i then v else V j) w') a w)(hend:∀(listed:Array Bool) (V:Nat→Value) (a:Act) (w:World),listed.size=ops.size→(∀i,i<ops.size→listed.getD i false=true)→Laid ops a0 V listed a→I listed V w→Q .normal a w):
    ∀(fuel:Nat) (listed:Array Bool) (V:Nat→Value) (a:Act) (w:World),listed.size=ops.size→Closed md ops listed→listed.toList.count false≤fuel→Laid ops a0 V listed a→I listed V w→wpAny P md ops Q fuel listed a w:=by
 have full:∀listed:Array Bool,listed.size=ops.size→Region.ready md ops listed=[]→∀i,i<ops.size→listed.getD i false=true:=fun listed hs hr=>by
  intro i
  induction i using Nat.strongRecOn with
  | ind i ih =>
   intro hi
   cases hc:listed.getD i false with
   | true=>rfl
   | false =>
    have ho:ops[i]?=some ops[i]:=by simp[hi]
    have:i∈Region.ready md ops listed:=mem_ready.2 ⟨by simp[Array.getD,hs,hi]at hc ⊢;exact hc,_,ho,fun e he hb=>by
     have:=htopo i _ e ho he hb
     exact ih e.on this (by omega)⟩
    rw[hr]at this
    cases this
 intro fuel
 induction fuel with
 | zero =>
  intro listed V a w hs hcl hc hL hI
  have hall:∀i,i<ops.size→listed.getD i false=true:=fun i hi=>by
   cases hcc:listed.getD i false with
   | true=>rfl
   | false =>
    exfalso
    have h0:listed.toList.count false=0:=by omega
    rw[List.count_eq_zero]at h0
    apply h0
    have hil:i<listed.size:=by omega
    simp[Array.getD,hil]at hcc
    exact List.mem_of_getElem? (i:=i) (by simp[hil,hcc])
  refine⟨?_,hend listed V a w hs hall hL hI⟩
  cases hr:Region.ready md ops listed with
  | nil=>rfl
  | cons j r =>
   exfalso
   have hj:j∈Region.ready md ops listed:=by rw[hr];simp
   obtain⟨h1,o,ho,_⟩:=mem_ready.1 hj
   have hjl:j<ops.size:=(Array.getElem?_eq_some_iff.1 ho).1
   have:=hall j hjl
   simp[Array.getD,hs,hjl]at h1 this
   rw[h1]at this
   cases this
 | succ fuel ih =>
  intro listed V a w hs hcl hc hL hI
  refine⟨fun hr=>hend listed V a w hs (full listed hs hr) hL hI,fun i hi=>?_⟩
  obtain⟨h1,o,ho,hdep⟩:=mem_ready.1 hi
  have hil:i<listed.size:=by rw[hs];exact(Array.getElem?_eq_some_iff.1 ho).1
  refine wpOp_mono (fun a' w' h=>?_) (hstep listed V a w i o ho hs hcl h1 hdep hL hI)
  obtain⟨v,rfl,hI'⟩:=h
  refine ih _ _ _ _ (by simpa using hs) (hcl.put ho hil hdep) ?_ (hL.put hon ho hil v) hI'
  have hf:listed[i]?=some false:=by
   simp[Array.getD,hil]at h1
   simp[hil,h1]
  have hcount:(listed.setIfInBounds i true).toList.count false+1=listed.toList.count false:=by
   rw[Array.toList_setIfInBounds]
   have h2:listed.toList[i]?=some false:=by simpa using hf
   have hlt:i<listed.toList.length:=by simpa using hil
   have h3:listed.toList[i]=false:=by
    rw[List.getElem?_eq_getElem hlt]at h2
    simpa using h2
   have hp:0<listed.toList.count false:=List.count_pos_iff.2 (h3▸List.getElem_mem hlt)
   rw[List.count_set hlt,h3]
   have e1:((false == false)=true):=rfl
   have e2:¬((true == false)=true):=by decide
   rw[if_pos e1,if_neg e2]
   omega
  omega
end
theorem aJC{P:Program}{Q:Exit→Act→World→Prop}{id:Nat}{ops:Array Oper}{a:Act}{w:World}(hm:P.follows .mixedOrders=true)(h:∀wd:World,Ext w wd→wpAny P .any ops Q ops.size (Array.replicate ops.size false) a wd):(Code.region id ops true).wp P Q a w :=
 wp_region_any hm (h w.drew (Ext.refl w).drew)
def aK9(md:Region.Mode)(l:List Oper):Bool:=l.zipIdx.all fun x=>x.1.after.toList.all fun e=>!Region.binds md e || decide (e.on<x.2)
theorem aGI{md:Region.Mode}{l:List Oper}(h:aK9 md l=true):∀(i:Nat) (o:Oper) (e:Edge),l.toArray[i]?=some o→e∈o.after→Region.binds md e=true→e.on<i:=fun i o e hi he hb=>by
 have h1:=List.all_eq_true.1 h (o,i) (by
  rw[List.mem_zipIdx_iff_getElem?]
  simpa using hi)
 have h2:=List.all_eq_true.1 h1 e (by simpa using he)
 simp only[hb,Bool.not_true,Bool.false_or,decide_eq_true_eq]at h2
 exact h2
section
variable {P:Program} {ops:Array Oper} {Q:Exit→Act→World→Prop}
theorem cP{i:Nat}{o:Oper}{K:Act→World→Prop}{a:Act}{w:World}(hi:ops[i]?=some o)(hg:o.guard=none)(h:o.wp P a w K Q):wpOp P ops Q i K a w:=by
 unfold wpOp
 simp only[hi]
 rw[if_pos (by simp[Region.wanted,hg])]
 exact .inl h
theorem sK{o:Oper}{K:Act→World→Prop}{a:Act}{w:World}(v:Value)(hr:(execOp a.eval o).run P w=.ok (.value v) w)(hK:K (a.put o.dst v) w):o.wp P a w K Q:=by
 unfold Oper.wp
 rw[hr]
 exact hK
theorem Laid.val{a0 a:Act}{V:Nat→Value}{listed:Array Bool}(h:Laid ops a0 V listed a){i t:Nat}{o:Oper}(hi:ops[i]?=some o)(hd:o.dst=some t)(hl:listed.getD i false=true)(ht:t<a0.tmps.size):a.eval (.tmp t)=V i:=by
 show a.tmps.getD t undef=V i
 have:=h.at_ i t o hi hd hl ht
 rw[Array.getD_eq_getD_getElem?,this]
 rfl
theorem Laid.olds{a0 a:Act}{V:Nat→Value}{listed:Array Bool}(h:Laid ops a0 V listed a){t:Nat}(hn:ops.toList.all (fun o=>o.dst != some t)=true):a.eval (.tmp t)=a0.eval (.tmp t):=by
 show a.tmps.getD t undef=a0.tmps.getD t undef
 have:=h.old t (fun i o hi hd=>by
  have h1:=List.all_eq_true.1 hn o (by
   rw[Array.mem_toList_iff]
   exact Array.mem_of_getElem? hi)
  simp[hd]at h1)
 rw[Array.getD_eq_getD_getElem?,Array.getD_eq_getD_getElem?,this]
theorem aIG(a0:Act)(V:Nat→Value)(n:Nat):Laid ops a0 V (Array.replicate n false) a0 :=
 ⟨rfl,rfl,fun i t o _ _ hl _=>(by
  by_cases h:i<n
  ·simp[Array.getD,h]at hl
  ·simp[Array.getD,h]at hl),fun _ _=>rfl⟩
theorem aDX{l:List Oper}(hon:aDW l.toArray){a0 a:Act}{V:Nat→Value}{listed:Array Bool}(h:Laid l.toArray a0 V listed a)(hs:listed.size=l.toArray.size)(hall:∀i,i<l.toArray.size→listed.getD i false=true):a=sJ V l 0 a0:=by
 obtain⟨L2,h1,h2,h3⟩:=nZ hon (a0:=a0) (V:=V) l 0 a0 (Array.replicate l.length false) rfl (by simp) (aIG _ _ _) (fun i _ hi=>by simp[Array.getD,hi]) (fun i hi=>by omega)
 have e:listed=L2:=by
  apply Array.ext
  ·simpa[h1]using hs
  ·intro i hi hj
   have a1:=hall i (by rw[←hs];exact hi)
   have a2:=h2 i (by rw[←h1];exact hj)
   simp[Array.getD,hi]at a1
   simp[Array.getD,hj]at a2
   rw[a1,a2]
 subst e
 exact h.unique h3
end
end Go.Proofs.YtpanapepcbbagaaGreat
