/- Part 11 of what BridgeRests stands on. No statement is proved here. -/
import Derived.Deep.DeepCutAuto
import Derived.Test.YtpanapepcbbagaaGreatBvj
set_option linter.unusedVariables false
set_option linter.unusedSimpArgs false
set_option maxRecDepth 100000
set_option maxHeartbeats 8000000
namespace Go.Proofs.YtpanapepcbbagaaGreat
open Go.RowKit Go.BigFrame Go.WideShapes Go.ChangeShapes Go.Deep
theorem bD{p:Bool}{L:List Value}{j:Nat}(h:33≠j):(dU p L)[j]?=L[j]?:=by
 cases p
 ·rfl
 ·exact aF h
theorem bM{p:Bool}{L:List Value}(h:L.length=89):(dU p L).length=89:=by
 cases p
 ·exact h
 ·exact aB h
theorem dE{a:Bool}{L:List Value}{j:Nat}(h:23≠j)(h2:34≠j):(iF a L)[j]?=L[j]?:=by
 cases a
 ·exact aF h
 ·exact(aF h2).trans (aF h)
theorem cS{a:Bool}{L:List Value}(h:L.length=89):(iF a L).length=89:=by
 cases a
 ·exact aB h
 ·exact aB (aB h)
theorem aGF{a:Bool}{L:List Value}(h:L.length=89):(iF a L)[23]?=some (.bool a):=by
 cases a
 ·exact cE h (by decide)
 ·exact(aF (by decide)).trans (cE h (by decide))
theorem nF{L L':List Value}{j n:Nat}(h:∀i,j≤i→i<j+n→L'[i]?=L[i]?):(L'.drop j).take n=(L.drop j).take n:=by
 apply List.ext_getElem?
 intro m
 rw[List.getElem?_take,List.getElem?_take]
 split
 ·rw[List.getElem?_drop,List.getElem?_drop,h _ (by omega) (by omega)]
 ·rfl
theorem mH{w:World}(G o:Nat)(L:List Value)(hP_w:Pv w G o L)(hl:L.length=89)(rst:Bool)(x3:Bool)(h3:L[3]?=some (.bool x3))(x39:Bool)(h39:L[39]?=some (.bool x39))(x40:Bool)(h40:L[40]?=some (.bool x40))(x51:Int)(h51:L[51]?=some (.int .i64 x51))(x52:Bool)(h52:L[52]?=some (.bool x52))(x53:Bool)(h53:L[53]?=some (.bool x53))(x55:Bool)(h55:L[55]?=some (.bool x55)):Calls Tryz.prog 143 #[.agg #[.pointer (some ⟨G,o,none⟩),.bool rst]] w fun e w'=>e=.returned (.tuple #[])∧Pv w' G o (l8 (x39 || x52) (x40 || x53) (iF (rst && !x3 && (x51 == 2) && x55) L))∧Pm G o w w':=by
 have hG:=hP_w.lt
 have HLEN:=hD hl
 have HL_3:=hD h3
 have HL_39:=hD h39
 have HL_40:=hD h40
 have HL_51:=hD h51
 have HL_52:=hD h52
 have HL_53:=hD h53
 have HL_55:=hD h55
 clear hl h3 h39 h40 h51 h52 h53 h55
 go_enter Tryz.func143,Tryz.ntmps143
 go_wp2_with (first
  | fail
  | ((with_reducible refine bP 110 ?_);refine bQ rfl 110 _ rfl #[.pointer (some ⟨G,o,none⟩),.bool rst] rfl ?_
     intro H0 z1 hq hs hx
     have E_z1:Pm G o w z1:=Ext.pm hx G o
     have hP_z1:Pv z1 G o L:=hP_w.ext hx
     have hH_z1:z1.heap[H0]?=some (.cells #[.pointer (some ⟨G,o,none⟩),.bool rst] 110 (0,0)):=hq
     have hb_H0:w.heap.size≤H0:=by omega
     have hn_H0G:H0≠G:=by omega
     have rH0_z1:=cV hH_z1
     have rH1_z1:=dA hH_z1
     clear hP_w
     clear hq hs hx)
  | ((with_reducible refine aG 110 ?_);refine wpList_load_row rfl 110 _ rfl H0 rfl 110 #[.pointer (some ⟨G,o,none⟩),.bool rst] (0,0) _ hH_z1 Tryz.underlying110 rfl (by kernel_rfl) ?_))
 refine(f9 G o _ hP_z1 HLEN.out rst _ HL_3.out _ HL_51.out _ HL_55.out).mono ?_
 rintro e z2 ⟨rfl,hp,hm⟩
 have hP_z2:Pv z2 G o (iF (rst && !x3 && (x51 == 2) && x55) L):=hp
 have hH_z2:=hm.row hH_z1 (show H0≠G by omega)
 have E_z2:Pm G o w z2:=E_z1.trans hm
 have rH0_z2:=cV hH_z2
 have rH1_z2:=dA hH_z2
 clear hH_z1 hP_z1 E_z1 rH0_z1 rH1_z1
 clear hp hm
 go_wp2_with (first
  | fail
  | ((with_reducible refine aG 110 ?_);refine wpList_load_row rfl 110 _ rfl H0 rfl 110 #[.pointer (some ⟨G,o,none⟩),.bool rst] (0,0) _ hH_z2 Tryz.underlying110 rfl (by kernel_rfl) ?_))
 refine(hU G o _ hP_z2 (cS HLEN.out) rst _ ((dE (by decide) (by decide)).trans HL_39.out) _ ((dE (by decide) (by decide)).trans HL_40.out) _ ((dE (by decide) (by decide)).trans HL_52.out) _ ((dE (by decide) (by decide)).trans HL_53.out)).mono ?_
 rintro e z3 ⟨rfl,hp,hm⟩
 have hP_z3:Pv z3 G o (((iF (rst && !x3 && (x51 == 2) && x55) L).set 39 (.bool (x39 || x52))).set 40 (.bool (x40 || x53))):=hp
 have hH_z3:=hm.row hH_z2 (show H0≠G by omega)
 have E_z3:Pm G o w z3:=E_z2.trans hm
 have rH0_z3:=cV hH_z3
 have rH1_z3:=dA hH_z3
 clear hH_z2 hP_z2 E_z2 rH0_z2 rH1_z2
 clear hp hm
 go_wp2_with fail
 go_end0
 exact⟨rfl,hP_z3,E_z3⟩
theorem sH{w:World}(G o:Nat)(L:List Value)(hP_w:Pv w G o L)(hl:L.length=89)(rst:Bool)(x3:Bool)(h3:L[3]?=some (.bool x3))(x39:Bool)(h39:L[39]?=some (.bool x39))(x40:Bool)(h40:L[40]?=some (.bool x40))(x51:Int)(h51:L[51]?=some (.int .i64 x51))(x52:Bool)(h52:L[52]?=some (.bool x52))(x53:Bool)(h53:L[53]?=some (.bool x53))(x54:Bool)(h54:L[54]?=some (.bool x54))(x55:Bool)(h55:L[55]?=some (.bool x55))(x56:Bool)(h56:L[56]?=some (.bool x56))(x57:Bool)(h57:L[57]?=some (.bool x57))(x58:Int)(h58:L[58]?=some (.int .i64 x58))(x59:Int)(h59:L[59]?=some (.int .u64 x59))(x60:Int)(h60:L[60]?=some (.int .u32 x60))(x61:Int)(h61:L[61]?=some (.int .u64 x61))(x62:Int)(h62:L[62]?=some (.int .u16 x62))(x63:Int)(h63:L[63]?=some (.int .u16 x63))(x64:Int)(h64:L[64]?=some (.int .i64 x64))(x65:Int)(h65:L[65]?=some (.int .i64 x65))(x66:Int)(h66:L[66]?=some (.int .i64 x66))(x67:Int)(h67:L[67]?=some (.int .i64 x67))(r1:0≤x64)(r2:x64≤65535)(r3:0≤x65)(r4:x65≤65535)(r5:0≤x66)(r6:x66≤65535):Calls Tryz.prog 141 #[.agg #[.pointer (some ⟨G,o,none⟩),.bool rst]] w fun e w'=>e=.returned (.tuple #[])∧Pv w' G o ((iF (rst && !x3 && (x51 == 2) && x55) (l8 (x39 || x52) (x40 || x53) (dU ((x51 == 2) && (x58 == 4) && x54) L))).set 11 (.int .i64 (dT x64 x65 x66)))∧Pm G o w w':=by
 have hG:=hP_w.lt
 have HLEN:=hD hl
 have HL_3:=hD h3
 have HL_39:=hD h39
 have HL_40:=hD h40
 have HL_51:=hD h51
 have HL_52:=hD h52
 have HL_53:=hD h53
 have HL_54:=hD h54
 have HL_55:=hD h55
 have HL_56:=hD h56
 have HL_57:=hD h57
 have HL_58:=hD h58
 have HL_59:=hD h59
 have HL_60:=hD h60
 have HL_61:=hD h61
 have HL_62:=hD h62
 have HL_63:=hD h63
 have HL_64:=hD h64
 have HL_65:=hD h65
 have HL_66:=hD h66
 have HL_67:=hD h67
 clear hl h3 h39 h40 h51 h52 h53 h54 h55 h56 h57 h58 h59 h60 h61 h62 h63 h64 h65 h66 h67
 go_enter Tryz.func141,Tryz.ntmps141
 go_wp2_with (first
  | fail
  | ((with_reducible refine bP 110 ?_);refine bQ rfl 110 _ rfl #[.pointer (some ⟨G,o,none⟩),.bool rst] rfl ?_
     intro H0 z1 hq hs hx
     have E_z1:Pm G o w z1:=Ext.pm hx G o
     have hP_z1:Pv z1 G o L:=hP_w.ext hx
     have hH_z1:z1.heap[H0]?=some (.cells #[.pointer (some ⟨G,o,none⟩),.bool rst] 110 (0,0)):=hq
     have hb_H0:w.heap.size≤H0:=by omega
     have hn_H0G:H0≠G:=by omega
     have rH0_z1:=cV hH_z1
     have rH1_z1:=dA hH_z1
     clear hP_w
     clear hq hs hx)
  | ((with_reducible refine aG 110 ?_);refine wpList_load_row rfl 110 _ rfl H0 rfl 110 #[.pointer (some ⟨G,o,none⟩),.bool rst] (0,0) _ hH_z1 Tryz.underlying110 rfl (by kernel_rfl) ?_))
 refine(jQ G o _ hP_z1 HLEN.out rst _ HL_51.out _ HL_52.out _ HL_53.out _ HL_54.out _ HL_55.out _ HL_56.out _ HL_57.out _ HL_58.out _ HL_59.out _ HL_60.out _ HL_61.out _ HL_62.out _ HL_63.out _ HL_64.out _ HL_65.out _ HL_66.out _ HL_67.out).mono ?_
 rintro e z2 ⟨rfl,hp,hm⟩
 have hP_z2:Pv z2 G o (dU ((x51 == 2) && (x58 == 4) && x54) L):=hp
 have hH_z2:=hm.row hH_z1 (show H0≠G by omega)
 have E_z2:Pm G o w z2:=E_z1.trans hm
 have rH0_z2:=cV hH_z2
 have rH1_z2:=dA hH_z2
 clear hH_z1 hP_z1 E_z1 rH0_z1 rH1_z1
 clear hp hm
 go_wp2_with (first
  | fail
  | ((with_reducible refine aG 110 ?_);refine wpList_load_row rfl 110 _ rfl H0 rfl 110 #[.pointer (some ⟨G,o,none⟩),.bool rst] (0,0) _ hH_z2 Tryz.underlying110 rfl (by kernel_rfl) ?_))
 refine(hU G o _ hP_z2 (bM HLEN.out) rst _ ((bD (by decide)).trans HL_39.out) _ ((bD (by decide)).trans HL_40.out) _ ((bD (by decide)).trans HL_52.out) _ ((bD (by decide)).trans HL_53.out)).mono ?_
 rintro e z3 ⟨rfl,hp,hm⟩
 have hP_z3:Pv z3 G o (((dU ((x51 == 2) && (x58 == 4) && x54) L).set 39 (.bool (x39 || x52))).set 40 (.bool (x40 || x53))):=hp
 have hH_z3:=hm.row hH_z2 (show H0≠G by omega)
 have E_z3:Pm G o w z3:=E_z2.trans hm
 have rH0_z3:=cV hH_z3
 have rH1_z3:=dA hH_z3
 clear hH_z2 hP_z2 E_z2 rH0_z2 rH1_z2
 clear hp hm
 go_wp2_with (first
  | fail
  | ((with_reducible refine aG 110 ?_);refine wpList_load_row rfl 110 _ rfl H0 rfl 110 #[.pointer (some ⟨G,o,none⟩),.bool rst] (0,0) _ hH_z3 Tryz.underlying110 rfl (by kernel_rfl) ?_))
 refine(f9 G o _ hP_z3 (aB (aB (bM HLEN.out))) rst _ ((aF (by decide)).trans ((aF (by decide)).trans ((bD (by decide)).trans HL_3.out))) _ ((aF (by decide)).trans ((aF (by decide)).trans ((bD (by decide)).trans HL_51.out))) _ ((aF (by decide)).trans ((aF (by decide)).trans ((bD (by decide)).trans HL_55.out)))).mono ?_
 rintro e z4 ⟨rfl,hp,hm⟩
 have hP_z4:Pv z4 G o (iF (rst && !x3 && (x51 == 2) && x55) (((dU ((x51 == 2) && (x58 == 4) && x54) L).set 39 (.bool (x39 || x52))).set 40 (.bool (x40 || x53)))):=hp
 have hH_z4:=hm.row hH_z3 (show H0≠G by omega)
 have E_z4:Pm G o w z4:=E_z3.trans hm
 have rH0_z4:=cV hH_z4
 have rH1_z4:=dA hH_z4
 clear hH_z3 hP_z3 E_z3 rH0_z3 rH1_z3
 clear hp hm
 go_wp2_with (first
  | fail
  | ((with_reducible refine aG 110 ?_);refine wpList_load_row rfl 110 _ rfl H0 rfl 110 #[.pointer (some ⟨G,o,none⟩),.bool rst] (0,0) _ hH_z4 Tryz.underlying110 rfl (by kernel_rfl) ?_))
 refine(tM G o _ hP_z4 (cS (aB (aB (bM HLEN.out)))) rst _ ((dE (by decide) (by decide)).trans ((aF (by decide)).trans ((aF (by decide)).trans ((bD (by decide)).trans HL_64.out)))) _ ((dE (by decide) (by decide)).trans ((aF (by decide)).trans ((aF (by decide)).trans ((bD (by decide)).trans HL_65.out)))) _ ((dE (by decide) (by decide)).trans ((aF (by decide)).trans ((aF (by decide)).trans ((bD (by decide)).trans HL_66.out)))) _ ((dE (by decide) (by decide)).trans ((aF (by decide)).trans ((aF (by decide)).trans ((bD (by decide)).trans HL_67.out)))) r1 r2 r3 r4 r5 r6).mono ?_
 rintro e z5 ⟨rfl,hp,hm⟩
 have hP_z5:Pv z5 G o ((iF (rst && !x3 && (x51 == 2) && x55) (((dU ((x51 == 2) && (x58 == 4) && x54) L).set 39 (.bool (x39 || x52))).set 40 (.bool (x40 || x53)))).set 11 (.int .i64 (dT x64 x65 x66))):=hp
 have hH_z5:=hm.row hH_z4 (show H0≠G by omega)
 have E_z5:Pm G o w z5:=E_z4.trans hm
 have rH0_z5:=cV hH_z5
 have rH1_z5:=dA hH_z5
 clear hH_z4 hP_z4 E_z4 rH0_z4 rH1_z4
 clear hp hm
 go_wp2_with fail
 go_end0
 exact⟨rfl,hP_z5,E_z5⟩
def aDU(g22 g47:Bool)(is:Int)(p a c1 c2 less:Bool)(v t:List Value)(k:Int)(L:List Value):List Value :=
 nB ((((setL (setL ((iF a ((l8 c1 c2 (dU p ((L.set 23 (.bool false)).set 34 (.bool false)))).set 22 (.bool (g22 && (is == 3) && !less)))).set 47 (.bool (g47 && a))) 68 v) 78 t).set 11 (.int .i64 k)).set 86 (.int .i64 3)))
theorem sI{w:World}(G o:Nat)(L:List Value)(hP_w:Pv w G o L)(hl:L.length=89)(rst:Bool)(x3:Bool)(h3:L[3]?=some (.bool x3))(x22:Bool)(h22:L[22]?=some (.bool x22))(x39:Bool)(h39:L[39]?=some (.bool x39))(x40:Bool)(h40:L[40]?=some (.bool x40))(x47:Bool)(h47:L[47]?=some (.bool x47))(x51:Int)(h51:L[51]?=some (.int .i64 x51))(x52:Bool)(h52:L[52]?=some (.bool x52))(x53:Bool)(h53:L[53]?=some (.bool x53))(x54:Bool)(h54:L[54]?=some (.bool x54))(x55:Bool)(h55:L[55]?=some (.bool x55))(x56:Bool)(h56:L[56]?=some (.bool x56))(x57:Bool)(h57:L[57]?=some (.bool x57))(x58:Int)(h58:L[58]?=some (.int .i64 x58))(x59:Int)(h59:L[59]?=some (.int .u64 x59))(x60:Int)(h60:L[60]?=some (.int .u32 x60))(x61:Int)(h61:L[61]?=some (.int .u64 x61))(x62:Int)(h62:L[62]?=some (.int .u16 x62))(x63:Int)(h63:L[63]?=some (.int .u16 x63))(x64:Int)(h64:L[64]?=some (.int .i64 x64))(x65:Int)(h65:L[65]?=some (.int .i64 x65))(x66:Int)(h66:L[66]?=some (.int .i64 x66))(x67:Int)(h67:L[67]?=some (.int .i64 x67))(x68:Int)(h68:L[68]?=some (.int .u64 x68))(x69:Int)(h69:L[69]?=some (.int .u32 x69))(x70:Int)(h70:L[70]?=some (.int .u64 x70))(x71:Int)(h71:L[71]?=some (.int .u16 x71))(x72:Int)(h72:L[72]?=some (.int .u16 x72))(x86:Int)(h86:L[86]?=some (.int .i64 x86))(r1:0≤x64)(r2:x64≤65535)(r3:0≤x65)(r4:x65≤65535)(r5:0≤x66)(r6:x66≤65535):Calls Tryz.prog 140 #[.agg #[.pointer (some ⟨G,o,none⟩),.bool rst]] w fun e w'=>e=.returned (.tuple #[])∧Pv w' G o (aDU x22 x47 x86 ((x51 == 2) && (x58 == 4) && x54) (rst && !x3 && (x51 == 2) && x55) (x39 || x52) (x40 || x53) (decide ((c4 x68 x69 x70 x71 x59 x60 x61 x62)<0)) [.int .u64 x59,.int .u32 x60,.int .u64 x61,.int .u16 x62,.int .u16 x63] [.int .i64 x64,.int .i64 x65,.int .i64 x66,.int .i64 x67] (dT x64 x65 x66) L)∧Pm G o w w':=by
 have hG:=hP_w.lt
 have HLEN:=hD hl
 have HL_3:=hD h3
 have HL_22:=hD h22
 have HL_39:=hD h39
 have HL_40:=hD h40
 have HL_47:=hD h47
 have HL_51:=hD h51
 have HL_52:=hD h52
 have HL_53:=hD h53
 have HL_54:=hD h54
 have HL_55:=hD h55
 have HL_56:=hD h56
 have HL_57:=hD h57
 have HL_58:=hD h58
 have HL_59:=hD h59
 have HL_60:=hD h60
 have HL_61:=hD h61
 have HL_62:=hD h62
 have HL_63:=hD h63
 have HL_64:=hD h64
 have HL_65:=hD h65
 have HL_66:=hD h66
 have HL_67:=hD h67
 have HL_68:=hD h68
 have HL_69:=hD h69
 have HL_70:=hD h70
 have HL_71:=hD h71
 have HL_72:=hD h72
 have HL_86:=hD h86
 have HS_59:=hD (a7 (L:=L) (j:=59) (l:=[.int .u64 x59,.int .u32 x60,.int .u64 x61,.int .u16 x62,.int .u16 x63]) (by rw[hl];exact(by decide:59+5≤89)) (fun i hi=>by
  match i,hi with
  | 0,_=>exact HL_59.out
  | 1,_=>exact HL_60.out
  | 2,_=>exact HL_61.out
  | 3,_=>exact HL_62.out
  | 4,_=>exact HL_63.out
  | i+5,hi=>simp at hi;omega))
 have HS_64:=hD (a7 (L:=L) (j:=64) (l:=[.int .i64 x64,.int .i64 x65,.int .i64 x66,.int .i64 x67]) (by rw[hl];exact(by decide:64+4≤89)) (fun i hi=>by
  match i,hi with
  | 0,_=>exact HL_64.out
  | 1,_=>exact HL_65.out
  | 2,_=>exact HL_66.out
  | 3,_=>exact HL_67.out
  | i+4,hi=>simp at hi;omega))
 have HS_68:=hD (a7 (L:=L) (j:=68) (l:=[.int .u64 x68,.int .u32 x69,.int .u64 x70,.int .u16 x71,.int .u16 x72]) (by rw[hl];exact(by decide:68+5≤89)) (fun i hi=>by
  match i,hi with
  | 0,_=>exact HL_68.out
  | 1,_=>exact HL_69.out
  | 2,_=>exact HL_70.out
  | 3,_=>exact HL_71.out
  | 4,_=>exact HL_72.out
  | i+5,hi=>simp at hi;omega))
 clear hl h3 h22 h39 h40 h47 h51 h52 h53 h54 h55 h56 h57 h58 h59 h60 h61 h62 h63 h64 h65 h66 h67 h68 h69 h70 h71 h72 h86
 go_enter Tryz.func140,Tryz.ntmps140
 go_wp2_with (first
  | fail
  | ((with_reducible refine bP 110 ?_);refine bQ rfl 110 _ rfl #[.pointer (some ⟨G,o,none⟩),.bool rst] rfl ?_
     intro H0 z1 hq hs hx
     have E_z1:Pm G o w z1:=Ext.pm hx G o
     have hP_z1:Pv z1 G o L:=hP_w.ext hx
     have hH_z1:z1.heap[H0]?=some (.cells #[.pointer (some ⟨G,o,none⟩),.bool rst] 110 (0,0)):=hq
     have hb_H0:w.heap.size≤H0:=by omega
     have hn_H0G:H0≠G:=by omega
     have rH0_z1:=cV hH_z1
     have rH1_z1:=dA hH_z1
     clear hP_w
     clear hq hs hx)
  | ((with_reducible refine aD 4 ?_);refine bI rfl rfl 4 _ _ rfl G o 23 _ hP_z1 _ #[.bool false] rfl rfl rfl (by exact(by decide:23+1≤89)) (by kernel_rfl) rfl ?_
     intro z2 hp hm
     replace hp:=aO hp HLEN.out (by decide)
     have hP_z2:=hp
     have hH_z2:=hm.row hH_z1 (show H0≠G by omega)
     have E_z2:Pm G o w z2:=E_z1.trans hm
     have rH0_z2:=cV hH_z2
     have rH1_z2:=dA hH_z2
     clear hH_z1 hP_z1 E_z1 rH0_z1 rH1_z1
     clear hp hm)
  | ((with_reducible refine aD 4 ?_);refine bI rfl rfl 4 _ _ rfl G o 34 _ hP_z2 _ #[.bool false] rfl rfl rfl (by exact(by decide:34+1≤89)) (by kernel_rfl) rfl ?_
     intro z3 hp hm
     replace hp:=aO hp (aB HLEN.out) (by decide)
     have hP_z3:=hp
     have hH_z3:=hm.row hH_z2 (show H0≠G by omega)
     have E_z3:Pm G o w z3:=E_z2.trans hm
     have rH0_z3:=cV hH_z3
     have rH1_z3:=dA hH_z3
     clear hH_z2 hP_z2 E_z2 rH0_z2 rH1_z2
     clear hp hm)
  | ((with_reducible refine aG 110 ?_);refine wpList_load_row rfl 110 _ rfl H0 rfl 110 #[.pointer (some ⟨G,o,none⟩),.bool rst] (0,0) _ hH_z3 Tryz.underlying110 rfl (by kernel_rfl) ?_))
 refine(jQ G o _ hP_z3 (aB (aB HLEN.out)) rst _ ((aF (by decide)).trans ((aF (by decide)).trans HL_51.out)) _ ((aF (by decide)).trans ((aF (by decide)).trans HL_52.out)) _ ((aF (by decide)).trans ((aF (by decide)).trans HL_53.out)) _ ((aF (by decide)).trans ((aF (by decide)).trans HL_54.out)) _ ((aF (by decide)).trans ((aF (by decide)).trans HL_55.out)) _ ((aF (by decide)).trans ((aF (by decide)).trans HL_56.out)) _ ((aF (by decide)).trans ((aF (by decide)).trans HL_57.out)) _ ((aF (by decide)).trans ((aF (by decide)).trans HL_58.out)) _ ((aF (by decide)).trans ((aF (by decide)).trans HL_59.out)) _ ((aF (by decide)).trans ((aF (by decide)).trans HL_60.out)) _ ((aF (by decide)).trans ((aF (by decide)).trans HL_61.out)) _ ((aF (by decide)).trans ((aF (by decide)).trans HL_62.out)) _ ((aF (by decide)).trans ((aF (by decide)).trans HL_63.out)) _ ((aF (by decide)).trans ((aF (by decide)).trans HL_64.out)) _ ((aF (by decide)).trans ((aF (by decide)).trans HL_65.out)) _ ((aF (by decide)).trans ((aF (by decide)).trans HL_66.out)) _ ((aF (by decide)).trans ((aF (by decide)).trans HL_67.out))).mono ?_
 rintro e z4 ⟨rfl,hp,hm⟩
 have hP_z4:Pv z4 G o (dU ((x51 == 2) && (x58 == 4) && x54) ((L.set 23 (.bool false)).set 34 (.bool false))):=hp
 have hH_z4:=hm.row hH_z3 (show H0≠G by omega)
 have E_z4:Pm G o w z4:=E_z3.trans hm
 have rH0_z4:=cV hH_z4
 have rH1_z4:=dA hH_z4
 clear hH_z3 hP_z3 E_z3 rH0_z3 rH1_z3
 clear hp hm
 go_wp2_with (first
  | fail
  | ((with_reducible refine aG 110 ?_);refine wpList_load_row rfl 110 _ rfl H0 rfl 110 #[.pointer (some ⟨G,o,none⟩),.bool rst] (0,0) _ hH_z4 Tryz.underlying110 rfl (by kernel_rfl) ?_))
 refine(hU G o _ hP_z4 (bM (aB (aB HLEN.out))) rst _ ((bD (by decide)).trans ((aF (by decide)).trans ((aF (by decide)).trans HL_39.out))) _ ((bD (by decide)).trans ((aF (by decide)).trans ((aF (by decide)).trans HL_40.out))) _ ((bD (by decide)).trans ((aF (by decide)).trans ((aF (by decide)).trans HL_52.out))) _ ((bD (by decide)).trans ((aF (by decide)).trans ((aF (by decide)).trans HL_53.out)))).mono ?_
 rintro e z5 ⟨rfl,hp,hm⟩
 have hP_z5:Pv z5 G o (((dU ((x51 == 2) && (x58 == 4) && x54) ((L.set 23 (.bool false)).set 34 (.bool false))).set 39 (.bool (x39 || x52))).set 40 (.bool (x40 || x53))):=hp
 have hH_z5:=hm.row hH_z4 (show H0≠G by omega)
 have E_z5:Pm G o w z5:=E_z4.trans hm
 have rH0_z5:=cV hH_z5
 have rH1_z5:=dA hH_z5
 clear hH_z4 hP_z4 E_z4 rH0_z4 rH1_z4
 clear hp hm
 go_wp2_with fail
 obtain⟨v22,hv22⟩:∃v:Bool,(x22 && (x86 == 3) && !(decide ((c4 x68 x69 x70 x71 x59 x60 x61 x62)<0)))=v:=⟨_,rfl⟩
 go_cut []from 17 to 46 (fun wx=>Pv wx G o ((((dU ((x51 == 2) && (x58 == 4) && x54) ((L.set 23 (.bool false)).set 34 (.bool false))).set 39 (.bool (x39 || x52))).set 40 (.bool (x40 || x53))).set 22 (.bool v22))∧wx.heap[H0]?=some (.cells #[.pointer (some ⟨G,o,none⟩),.bool rst] 110 (0,0))∧Pm G o w wx)
 case rest =>
  obtain⟨hp,hh,hm⟩:=hcut
  rename World=>z6
  have hP_z6:Pv z6 G o ((((dU ((x51 == 2) && (x58 == 4) && x54) ((L.set 23 (.bool false)).set 34 (.bool false))).set 39 (.bool (x39 || x52))).set 40 (.bool (x40 || x53))).set 22 (.bool v22)):=hp
  have hH_z6:z6.heap[H0]?=some (.cells #[.pointer (some ⟨G,o,none⟩),.bool rst] 110 (0,0)):=hh
  have E_z6:Pm G o w z6:=hm
  have rH0_z6:=cV hH_z6
  have rH1_z6:=dA hH_z6
  clear hH_z5 hP_z5 E_z5 rH0_z5 rH1_z5
  clear hp hh hm
  have HV22:=hD hv22
  clear hv22
  go_wp2_with (first
   | fail
   | ((with_reducible refine aG 110 ?_);refine wpList_load_row rfl 110 _ rfl H0 rfl 110 #[.pointer (some ⟨G,o,none⟩),.bool rst] (0,0) _ hH_z6 Tryz.underlying110 rfl (by kernel_rfl) ?_))
  refine(f9 G o _ hP_z6 (aB (aB (aB (bM (aB (aB HLEN.out)))))) rst _ ((aF (by decide)).trans ((aF (by decide)).trans ((aF (by decide)).trans ((bD (by decide)).trans ((aF (by decide)).trans ((aF (by decide)).trans HL_3.out)))))) _ ((aF (by decide)).trans ((aF (by decide)).trans ((aF (by decide)).trans ((bD (by decide)).trans ((aF (by decide)).trans ((aF (by decide)).trans HL_51.out)))))) _ ((aF (by decide)).trans ((aF (by decide)).trans ((aF (by decide)).trans ((bD (by decide)).trans ((aF (by decide)).trans ((aF (by decide)).trans HL_55.out))))))).mono ?_
  rintro e z7 ⟨rfl,hp,hm⟩
  have hP_z7:Pv z7 G o (iF (rst && !x3 && (x51 == 2) && x55) ((((dU ((x51 == 2) && (x58 == 4) && x54) ((L.set 23 (.bool false)).set 34 (.bool false))).set 39 (.bool (x39 || x52))).set 40 (.bool (x40 || x53))).set 22 (.bool v22))):=hp
  have hH_z7:=hm.row hH_z6 (show H0≠G by omega)
  have E_z7:Pm G o w z7:=E_z6.trans hm
  have rH0_z7:=cV hH_z7
  have rH1_z7:=dA hH_z7
  have p23_z7:z7.cell? ⟨G,o+23,none⟩=some (.bool (rst && !x3 && (x51 == 2) && x55)):=(hP_z7.cell (j:=23) (by decide)).trans (aGF (aB (aB (aB (bM (aB (aB HLEN.out)))))))
  have p47_z7:z7.cell? ⟨G,o+47,none⟩=some (.bool x47):=(hP_z7.cell (j:=47) (by decide)).trans ((dE (by decide) (by decide)).trans ((aF (by decide)).trans ((aF (by decide)).trans ((aF (by decide)).trans ((bD (by decide)).trans ((aF (by decide)).trans ((aF (by decide)).trans HL_47.out)))))))
  clear hH_z6 hP_z6 E_z6 rH0_z6 rH1_z6
  clear hp hm
  obtain⟨v47,hv47⟩:∃v:Bool,(x47 && (rst && !x3 && (x51 == 2) && x55))=v:=⟨_,rfl⟩
  go_upto_region 7 with fail
  go_cut []from 49 to 61 (fun wx=>Pv wx G o ((iF (rst && !x3 && (x51 == 2) && x55) ((((dU ((x51 == 2) && (x58 == 4) && x54) ((L.set 23 (.bool false)).set 34 (.bool false))).set 39 (.bool (x39 || x52))).set 40 (.bool (x40 || x53))).set 22 (.bool v22))).set 47 (.bool v47))∧wx.heap[H0]?=some (.cells #[.pointer (some ⟨G,o,none⟩),.bool rst] 110 (0,0))∧Pm G o w wx)
  case rest =>
   obtain⟨hp,hh,hm⟩:=hcut
   rename World=>z8
   have hP_z8:Pv z8 G o ((iF (rst && !x3 && (x51 == 2) && x55) ((((dU ((x51 == 2) && (x58 == 4) && x54) ((L.set 23 (.bool false)).set 34 (.bool false))).set 39 (.bool (x39 || x52))).set 40 (.bool (x40 || x53))).set 22 (.bool v22))).set 47 (.bool v47)):=hp
   have hH_z8:z8.heap[H0]?=some (.cells #[.pointer (some ⟨G,o,none⟩),.bool rst] 110 (0,0)):=hh
   have E_z8:Pm G o w z8:=hm
   have rH0_z8:=cV hH_z8
   have rH1_z8:=dA hH_z8
   clear hH_z7 hP_z7 E_z7 rH0_z7 rH1_z7 p23_z7 p47_z7
   clear hp hh hm
   have hv22:=HV22.out
   go_wp2_with fail
   refine fD (S:=fun W'=>Ext z8 W') (S2:=fun W'=>Pm G o z8 W') 18 (by kernel_rfl) ?_
   intro wd hqx
   have hq0:Ext z8 wd:=hqx
   refine cA 0 18 H0 0 rfl rfl hq0 ?_
   refine tW 1 18 (_) rfl rfl (aA rfl 79 _ rfl ⟨H0,0,none⟩ rfl (.pointer (some ⟨G,o,none⟩)) _ (fun W' hW'=>(cell_of_row _ _ _ _ _ _ ((hW'.block _ (aC hH_z8)).trans hH_z8)).trans rfl) Tryz.underlying79 rfl) hq0 ?_
   refine gV 2 18 H0 0 rfl hq0 ?_
   refine tV 3 18 (_) rfl (aA rfl 79 _ rfl ⟨H0,0,none⟩ rfl (.pointer (some ⟨G,o,none⟩)) _ (fun W' hW'=>(cell_of_row _ _ _ _ _ _ (Pm.row hW' hH_z8 (show H0≠G by omega))).trans rfl) Tryz.underlying79 rfl) hq0 ?_
   refine cA 4 18 H0 0 rfl rfl hq0 ?_
   refine tW 5 18 (_) rfl rfl (aA rfl 79 _ rfl ⟨H0,0,none⟩ rfl (.pointer (some ⟨G,o,none⟩)) _ (fun W' hW'=>(cell_of_row _ _ _ _ _ _ ((hW'.block _ (aC hH_z8)).trans hH_z8)).trans rfl) Tryz.underlying79 rfl) hq0 ?_
   refine cA 6 18 G o rfl rfl hq0 ?_
   refine cA 7 18 G (o+51) rfl rfl hq0 ?_
   refine cA 8 18 G (o+59) rfl rfl hq0 ?_
   refine tW 9 18 (_) rfl rfl (yieldsIf_load_mid rfl 30 _ rfl G (o+59) rfl ([.int .u64 x59,.int .u32 x60,.int .u64 x61,.int .u16 x62,.int .u16 x63]) _ (fun W' hW'=>(hP_z8.ext hW').range (j:=59) (n:=5) ((aM (by decide)).trans ((nF (fun i h1 h2=>dE (by omega) (by omega))).trans ((aM (by decide)).trans ((aM (by decide)).trans ((aM (by decide)).trans ((nF (fun i h1 h2=>bD (by omega))).trans ((aM (by decide)).trans ((aM (by decide)).trans HS_59.out)))))))) (by decide)) Tryz.underlying30 rfl (by kernel_rfl)) hq0 ?_
   refine gV 10 18 H0 0 rfl hq0 ?_
   refine tV 11 18 (_) rfl (aA rfl 79 _ rfl ⟨H0,0,none⟩ rfl (.pointer (some ⟨G,o,none⟩)) _ (fun W' hW'=>(cell_of_row _ _ _ _ _ _ (Pm.row hW' hH_z8 (show H0≠G by omega))).trans rfl) Tryz.underlying79 rfl) hq0 ?_
   refine gV 12 18 G o rfl hq0 ?_
   refine gV 13 18 G (o+51) rfl hq0 ?_
   refine gV 14 18 G (o+64) rfl hq0 ?_
   refine tW 15 18 (_) rfl rfl (yieldsIf_load_mid rfl 24 _ rfl G (o+64) rfl ([.int .i64 x64,.int .i64 x65,.int .i64 x66,.int .i64 x67]) _ (fun W' hW'=>(hP_z8.ext hW').range (j:=64) (n:=4) ((aM (by decide)).trans ((nF (fun i h1 h2=>dE (by omega) (by omega))).trans ((aM (by decide)).trans ((aM (by decide)).trans ((aM (by decide)).trans ((nF (fun i h1 h2=>bD (by omega))).trans ((aM (by decide)).trans ((aM (by decide)).trans HS_64.out)))))))) (by decide)) Tryz.underlying24 rfl (by kernel_rfl)) hq0 ?_
   refine gV 16 18 G o rfl hq0 ?_
   refine cA 17 18 G (o+68) rfl rfl hq0 ?_
   refine iC (z:=18) rfl rfl (by kernel_rfl) (fun K hK=>?_)
   refine bT rfl 30 _ _ rfl G o 68 _ (hP_z8.ext hq0) _ #[.int .u64 x59,.int .u32 x60,.int .u64 x61,.int .u16 x62,.int .u16 x63] rfl rfl rfl (by exact(by decide:68+5≤89)) (by kernel_rfl) rfl (fun ws18 hp18 hm18=>?_)
   have hr18:Pm G o z8 ws18:=(Ext.pm hq0 G o).trans hm18
   refine hK.out _ _ hr18 (fun _=>?_)
   try simp only[ps]
   clear hK K
   refine aH 19 G o rfl hr18 ?_
   refine aH 20 G (o+78) rfl hr18 ?_
   refine bB (i:=21) rfl rfl (by kernel_rfl) (fun K hK=>?_)
   refine bT rfl 24 _ _ rfl G o 78 _ hp18 _ #[.int .i64 x64,.int .i64 x65,.int .i64 x66,.int .i64 x67] rfl rfl rfl (by exact(by decide:78+4≤89)) (by kernel_rfl) rfl (fun ws21 hp21 hm21=>?_)
   have hr21:Pm G o z8 ws21:=hr18.trans hm21
   refine hK.out _ _ hr21 (fun _=>?_)
   try simp only[ps]
   clear hK K
   refine wpAnyH_done (by kernel_rfl) ?_ _
   generalize ws21=z9 at *
   have hP_z9:Pv z9 G o (setL (setL ((iF (rst && !x3 && (x51 == 2) && x55) ((((dU ((x51 == 2) && (x58 == 4) && x54) ((L.set 23 (.bool false)).set 34 (.bool false))).set 39 (.bool (x39 || x52))).set 40 (.bool (x40 || x53))).set 22 (.bool v22))).set 47 (.bool v47)) 68 [.int .u64 x59,.int .u32 x60,.int .u64 x61,.int .u16 x62,.int .u16 x63]) 78 [.int .i64 x64,.int .i64 x65,.int .i64 x66,.int .i64 x67]):=hp21
   have hH_z9:z9.heap[H0]?=some (.cells #[.pointer (some ⟨G,o,none⟩),.bool rst] 110 (0,0)):=(hm21.row (hm18.row ((hq0.block _ (aC hH_z8)).trans hH_z8) (show H0≠G by omega)) (show H0≠G by omega))
   have E_z9:Pm G o w z9:=((E_z8.ext hq0).trans hm18).trans hm21
   have rH0_z9:=cV hH_z9
   have rH1_z9:=dA hH_z9
   clear hH_z8 hP_z8 E_z8 rH0_z8 rH1_z8
   clear hq0 hqx hm18 hm21 hp18 hp21 hr18 hr21
   go_wp2_with (first
    | fail
    | ((with_reducible refine aG 110 ?_);refine wpList_load_row rfl 110 _ rfl H0 rfl 110 #[.pointer (some ⟨G,o,none⟩),.bool rst] (0,0) _ hH_z9 Tryz.underlying110 rfl (by kernel_rfl) ?_))
   refine(tM G o _ hP_z9 (bH (bH (aB (cS (aB (aB (aB (bM (aB (aB HLEN.out)))))))) (by exact(by decide:68+5≤89))) (by exact(by decide:78+4≤89))) rst _ ((eD (bH (aB (cS (aB (aB (aB (bM (aB (aB HLEN.out)))))))) (by exact(by decide:68+5≤89))) (by exact(by decide:78+4≤89)) (by exact(by decide:64<78∨78+4≤64))).trans ((eD (aB (cS (aB (aB (aB (bM (aB (aB HLEN.out)))))))) (by exact(by decide:68+5≤89)) (by exact(by decide:64<68∨68+5≤64))).trans ((aF (by decide)).trans ((dE (by decide) (by decide)).trans ((aF (by decide)).trans ((aF (by decide)).trans ((aF (by decide)).trans ((bD (by decide)).trans ((aF (by decide)).trans ((aF (by decide)).trans HL_64.out)))))))))) _ ((eD (bH (aB (cS (aB (aB (aB (bM (aB (aB HLEN.out)))))))) (by exact(by decide:68+5≤89))) (by exact(by decide:78+4≤89)) (by exact(by decide:65<78∨78+4≤65))).trans ((eD (aB (cS (aB (aB (aB (bM (aB (aB HLEN.out)))))))) (by exact(by decide:68+5≤89)) (by exact(by decide:65<68∨68+5≤65))).trans ((aF (by decide)).trans ((dE (by decide) (by decide)).trans ((aF (by decide)).trans ((aF (by decide)).trans ((aF (by decide)).trans ((bD (by decide)).trans ((aF (by decide)).trans ((aF (by decide)).trans HL_65.out)))))))))) _ ((eD (bH (aB (cS (aB (aB (aB (bM (aB (aB HLEN.out)))))))) (by exact(by decide:68+5≤89))) (by exact(by decide:78+4≤89)) (by exact(by decide:66<78∨78+4≤66))).trans ((eD (aB (cS (aB (aB (aB (bM (aB (aB HLEN.out)))))))) (by exact(by decide:68+5≤89)) (by exact(by decide:66<68∨68+5≤66))).trans ((aF (by decide)).trans ((dE (by decide) (by decide)).trans ((aF (by decide)).trans ((aF (by decide)).trans ((aF (by decide)).trans ((bD (by decide)).trans ((aF (by decide)).trans ((aF (by decide)).trans HL_66.out)))))))))) _ ((eD (bH (aB (cS (aB (aB (aB (bM (aB (aB HLEN.out)))))))) (by exact(by decide:68+5≤89))) (by exact(by decide:78+4≤89)) (by exact(by decide:67<78∨78+4≤67))).trans ((eD (aB (cS (aB (aB (aB (bM (aB (aB HLEN.out)))))))) (by exact(by decide:68+5≤89)) (by exact(by decide:67<68∨68+5≤67))).trans ((aF (by decide)).trans ((dE (by decide) (by decide)).trans ((aF (by decide)).trans ((aF (by decide)).trans ((aF (by decide)).trans ((bD (by decide)).trans ((aF (by decide)).trans ((aF (by decide)).trans HL_67.out)))))))))) r1 r2 r3 r4 r5 r6).mono ?_
   rintro e z10 ⟨rfl,hp,hm⟩
   have hP_z10:Pv z10 G o ((setL (setL ((iF (rst && !x3 && (x51 == 2) && x55) ((((dU ((x51 == 2) && (x58 == 4) && x54) ((L.set 23 (.bool false)).set 34 (.bool false))).set 39 (.bool (x39 || x52))).set 40 (.bool (x40 || x53))).set 22 (.bool v22))).set 47 (.bool v47)) 68 [.int .u64 x59,.int .u32 x60,.int .u64 x61,.int .u16 x62,.int .u16 x63]) 78 [.int .i64 x64,.int .i64 x65,.int .i64 x66,.int .i64 x67]).set 11 (.int .i64 (dT x64 x65 x66))):=hp
   have hH_z10:=hm.row hH_z9 (show H0≠G by omega)
   have E_z10:Pm G o w z10:=E_z9.trans hm
   have rH0_z10:=cV hH_z10
   have rH1_z10:=dA hH_z10
   clear hH_z9 hP_z9 E_z9 rH0_z9 rH1_z9
   clear hp hm
   go_wp2_with (first
    | fail
    | ((with_reducible refine aD 3 ?_);refine bI rfl rfl 3 _ _ rfl G o 86 _ hP_z10 _ #[.int .i64 3] rfl rfl rfl (by exact(by decide:86+1≤89)) (by kernel_rfl) rfl ?_
       intro z11 hp hm
       replace hp:=aO hp (aB (bH (bH (aB (cS (aB (aB (aB (bM (aB (aB HLEN.out)))))))) (by exact(by decide:68+5≤89))) (by exact(by decide:78+4≤89)))) (by decide)
       have hP_z11:=hp
       have hH_z11:=hm.row hH_z10 (show H0≠G by omega)
       have E_z11:Pm G o w z11:=E_z10.trans hm
       have rH0_z11:=cV hH_z11
       have rH1_z11:=dA hH_z11
       clear hH_z10 hP_z10 E_z10 rH0_z10 rH1_z10
       clear hp hm)
    | ((with_reducible refine aG 110 ?_);refine wpList_load_row rfl 110 _ rfl H0 rfl 110 #[.pointer (some ⟨G,o,none⟩),.bool rst] (0,0) _ hH_z11 Tryz.underlying110 rfl (by kernel_rfl) ?_))
   refine(sC G o _ hP_z11 (aB (aB (bH (bH (aB (cS (aB (aB (aB (bM (aB (aB HLEN.out)))))))) (by exact(by decide:68+5≤89))) (by exact(by decide:78+4≤89))))) rst).mono ?_
   rintro e z12 ⟨rfl,hp,hm⟩
   have hP_z12:Pv z12 G o (((((setL (setL ((iF (rst && !x3 && (x51 == 2) && x55) ((((dU ((x51 == 2) && (x58 == 4) && x54) ((L.set 23 (.bool false)).set 34 (.bool false))).set 39 (.bool (x39 || x52))).set 40 (.bool (x40 || x53))).set 22 (.bool v22))).set 47 (.bool v47)) 68 [.int .u64 x59,.int .u32 x60,.int .u64 x61,.int .u16 x62,.int .u16 x63]) 78 [.int .i64 x64,.int .i64 x65,.int .i64 x66,.int .i64 x67]).set 11 (.int .i64 (dT x64 x65 x66))).set 86 (.int .i64 3)).set 43 (.bool true)).set 44 (.bool false)):=hp
   have hH_z12:=hm.row hH_z11 (show H0≠G by omega)
   have E_z12:Pm G o w z12:=E_z11.trans hm
   have rH0_z12:=cV hH_z12
   have rH1_z12:=dA hH_z12
   clear hH_z11 hP_z11 E_z11 rH0_z11 rH1_z11
   clear hp hm
   go_wp2_with fail
   subst hv22
   subst hv47
   go_end0
   exact⟨rfl,hP_z12,E_z12⟩
  cases x47
  ·subst hv47
   go_wp2_with (first
    | fail
    | ((with_reducible refine aD 4 ?_);refine bI rfl rfl 4 _ _ rfl G o 47 _ hP_z7 _ #[.bool false] rfl rfl rfl (by exact(by decide:47+1≤89)) (by kernel_rfl) rfl ?_
       intro z8 hp hm
       replace hp:=aO hp (cS (aB (aB (aB (bM (aB (aB HLEN.out))))))) (by decide)
       have hP_z8:=hp
       have hH_z8:=hm.row hH_z7 (show H0≠G by omega)
       have E_z8:Pm G o w z8:=E_z7.trans hm
       have rH0_z8:=cV hH_z8
       have rH1_z8:=dA hH_z8
       clear hH_z7 hP_z7 E_z7 rH0_z7 rH1_z7 p23_z7 p47_z7
       clear hp hm))
   go_wp2_with fail
   go_meet
   exact⟨hP_z8,hH_z8,E_z8⟩
  ·subst hv47
   go_wp2_with (first
    | fail
    | ((with_reducible refine aD 4 ?_);refine bI rfl rfl 4 _ _ rfl G o 47 _ hP_z7 _ #[.bool (rst && !x3 && (x51 == 2) && x55)] rfl rfl rfl (by exact(by decide:47+1≤89)) (by kernel_rfl) rfl ?_
       intro z8 hp hm
       replace hp:=aO hp (cS (aB (aB (aB (bM (aB (aB HLEN.out))))))) (by decide)
       have hP_z8:=hp
       have hH_z8:=hm.row hH_z7 (show H0≠G by omega)
       have E_z8:Pm G o w z8:=E_z7.trans hm
       have rH0_z8:=cV hH_z8
       have rH1_z8:=dA hH_z8
       clear hH_z7 hP_z7 E_z7 rH0_z7 rH1_z7 p23_z7 p47_z7
       clear hp hm))
   go_wp2_with fail
   go_meet
   exact⟨hP_z8,hH_z8,E_z8⟩
 cases x22
 ·subst hv22
  refine fD (S:=fun W'=>Ext z5 W') (S2:=fun W'=>Pm G o z5 W') 30 (by kernel_rfl) ?_
  intro wd hqx
  have hq0:Ext z5 wd:=hqx
  refine cA 0 30 G (o+22) rfl rfl hq0 ?_
  refine cA 1 30 G (o+22) rfl rfl hq0 ?_
  refine cA 2 30 G (o+22) rfl rfl hq0 ?_
  refine cA 3 30 G (o+22) rfl rfl hq0 ?_
  refine tW 4 30 (_) rfl rfl (aA rfl 4 _ rfl ⟨G,o+22,none⟩ rfl (.bool false) _ (fun W' hW'=>((hP_z5.ext hW').cell (j:=22) (by decide)).trans ((aF (by decide)).trans ((aF (by decide)).trans ((bD (by decide)).trans ((aF (by decide)).trans ((aF (by decide)).trans HL_22.out)))))) Tryz.underlying4 rfl) hq0 ?_
  refine kK 5 30 ((.bool false)) rfl rfl hq0 ?_
  refine tW 6 30 (undef) rfl rfl (Or.inr ⟨rfl,rfl⟩) hq0 ?_
  refine tW 7 30 (undef) rfl rfl (Or.inr ⟨rfl,rfl⟩) hq0 ?_
  refine tW 8 30 (undef) rfl rfl (Or.inr ⟨rfl,rfl⟩) hq0 ?_
  refine tW 9 30 (undef) rfl rfl (Or.inr ⟨rfl,rfl⟩) hq0 ?_
  refine tW 10 30 (undef) rfl rfl (Or.inr ⟨rfl,rfl⟩) hq0 ?_
  refine tW 11 30 (undef) rfl rfl (Or.inr ⟨rfl,rfl⟩) hq0 ?_
  refine kK 12 30 ((.bool false)) rfl rfl hq0 ?_
  refine kK 13 30 ((.bool false)) rfl rfl hq0 ?_
  refine tW 14 30 (undef) rfl rfl (Or.inr ⟨rfl,rfl⟩) hq0 ?_
  refine tW 15 30 (undef) rfl rfl (Or.inr ⟨rfl,rfl⟩) hq0 ?_
  refine tW 16 30 (undef) rfl rfl (Or.inr ⟨rfl,rfl⟩) hq0 ?_
  refine tW 17 30 (undef) rfl rfl (Or.inr ⟨rfl,rfl⟩) hq0 ?_
  refine tW 18 30 (undef) rfl rfl (Or.inr ⟨rfl,rfl⟩) hq0 ?_
  refine tW 19 30 (undef) rfl rfl (Or.inr ⟨rfl,rfl⟩) hq0 ?_
  refine tW 20 30 (undef) rfl rfl (Or.inr ⟨rfl,rfl⟩) hq0 ?_
  refine tW 21 30 (undef) rfl rfl (Or.inr ⟨rfl,rfl⟩) hq0 ?_
  refine tW 22 30 (undef) rfl rfl (Or.inr ⟨rfl,rfl⟩) hq0 ?_
  refine tW 23 30 (undef) rfl rfl (Or.inr ⟨rfl,rfl⟩) hq0 ?_
  refine tW 24 30 (undef) rfl rfl (Or.inr ⟨rfl,rfl⟩) hq0 ?_
  refine tW 25 30 (undef) rfl rfl (Or.inr ⟨rfl,rfl⟩) hq0 ?_
  refine tW 26 30 (undef) rfl rfl (Or.inr ⟨rfl,rfl⟩) hq0 ?_
  refine kK 27 30 ((.bool false)) rfl rfl hq0 ?_
  refine gV 28 30 G (o+22) rfl hq0 ?_
  refine cA 29 30 G (o+22) rfl rfl hq0 ?_
  refine iC (z:=30) rfl rfl (by kernel_rfl) (fun K hK=>?_)
  refine bT rfl 4 _ _ rfl G o 22 _ (hP_z5.ext hq0) _ #[.bool false] rfl rfl rfl (by exact(by decide:22+1≤89)) (by kernel_rfl) rfl (fun ws30 hp30 hm30=>?_)
  replace hp30:=aO hp30 (aB (aB (bM (aB (aB HLEN.out))))) (by decide)
  have hr30:Pm G o z5 ws30:=(Ext.pm hq0 G o).trans hm30
  refine hK.out _ _ hr30 (fun _=>?_)
  try simp only[ps]
  clear hK K
  refine wpAnyH_done (by kernel_rfl) ?_ _
  generalize ws30=z6 at *
  have hP_z6:Pv z6 G o ((((dU ((x51 == 2) && (x58 == 4) && x54) ((L.set 23 (.bool false)).set 34 (.bool false))).set 39 (.bool (x39 || x52))).set 40 (.bool (x40 || x53))).set 22 (.bool false)):=hp30
  have hH_z6:z6.heap[H0]?=some (.cells #[.pointer (some ⟨G,o,none⟩),.bool rst] 110 (0,0)):=(hm30.row ((hq0.block _ (aC hH_z5)).trans hH_z5) (show H0≠G by omega))
  have E_z6:Pm G o w z6:=(E_z5.ext hq0).trans hm30
  have rH0_z6:=cV hH_z6
  have rH1_z6:=dA hH_z6
  clear hH_z5 hP_z5 E_z5 rH0_z5 rH1_z5
  clear hq0 hqx hm30 hp30 hr30
  go_wp2_with fail
  go_meet
  exact⟨hP_z6,hH_z6,E_z6⟩
 ·by_cases e86:x86=3
  ·subst e86
   subst hv22
   refine fD (S:=fun W'=>Ext z5 W') (S2:=fun W'=>Pm G o z5 W') 30 (by kernel_rfl) ?_
   intro wd hqx
   have hq0:Ext z5 wd:=hqx
   refine cA 0 30 G (o+22) rfl rfl hq0 ?_
   refine cA 1 30 G (o+22) rfl rfl hq0 ?_
   refine cA 2 30 G (o+22) rfl rfl hq0 ?_
   refine cA 3 30 G (o+22) rfl rfl hq0 ?_
   refine tW 4 30 (_) rfl rfl (aA rfl 4 _ rfl ⟨G,o+22,none⟩ rfl (.bool true) _ (fun W' hW'=>((hP_z5.ext hW').cell (j:=22) (by decide)).trans ((aF (by decide)).trans ((aF (by decide)).trans ((bD (by decide)).trans ((aF (by decide)).trans ((aF (by decide)).trans HL_22.out)))))) Tryz.underlying4 rfl) hq0 ?_
   refine kK 5 30 ((.bool true)) rfl rfl hq0 ?_
   refine cA 6 30 H0 0 rfl rfl hq0 ?_
   refine tW 7 30 (_) rfl rfl (aA rfl 79 _ rfl ⟨H0,0,none⟩ rfl (.pointer (some ⟨G,o,none⟩)) _ (fun W' hW'=>(cell_of_row _ _ _ _ _ _ ((hW'.block _ (aC hH_z5)).trans hH_z5)).trans rfl) Tryz.underlying79 rfl) hq0 ?_
   refine cA 8 30 G o rfl rfl hq0 ?_
   refine cA 9 30 G (o+86) rfl rfl hq0 ?_
   refine tW 10 30 (_) rfl rfl (aA rfl 3 _ rfl ⟨G,o+86,none⟩ rfl (.int .i64 3) _ (fun W' hW'=>((hP_z5.ext hW').cell (j:=86) (by decide)).trans ((aF (by decide)).trans ((aF (by decide)).trans ((bD (by decide)).trans ((aF (by decide)).trans ((aF (by decide)).trans HL_86.out)))))) Tryz.underlying3 rfl) hq0 ?_
   refine tW 11 30 ((.bool true)) rfl rfl (Or.inl ⟨rfl,fun W' _=>by go_simp⟩) hq0 ?_
   refine kK 12 30 ((.bool true)) rfl rfl hq0 ?_
   refine kK 13 30 ((.bool true)) rfl rfl hq0 ?_
   refine cA 14 30 H0 0 rfl rfl hq0 ?_
   refine tW 15 30 (_) rfl rfl (aA rfl 79 _ rfl ⟨H0,0,none⟩ rfl (.pointer (some ⟨G,o,none⟩)) _ (fun W' hW'=>(cell_of_row _ _ _ _ _ _ ((hW'.block _ (aC hH_z5)).trans hH_z5)).trans rfl) Tryz.underlying79 rfl) hq0 ?_
   refine cA 16 30 G o rfl rfl hq0 ?_
   refine cA 17 30 G (o+68) rfl rfl hq0 ?_
   refine tW 18 30 (_) rfl rfl (yieldsIf_load_mid rfl 30 _ rfl G (o+68) rfl ([.int .u64 x68,.int .u32 x69,.int .u64 x70,.int .u16 x71,.int .u16 x72]) _ (fun W' hW'=>(hP_z5.ext hW').range (j:=68) (n:=5) ((aM (by decide)).trans ((aM (by decide)).trans ((nF (fun i h1 h2=>bD (by omega))).trans ((aM (by decide)).trans ((aM (by decide)).trans HS_68.out))))) (by decide)) Tryz.underlying30 rfl (by kernel_rfl)) hq0 ?_
   refine cA 19 30 H0 0 rfl rfl hq0 ?_
   refine tW 20 30 (_) rfl rfl (aA rfl 79 _ rfl ⟨H0,0,none⟩ rfl (.pointer (some ⟨G,o,none⟩)) _ (fun W' hW'=>(cell_of_row _ _ _ _ _ _ ((hW'.block _ (aC hH_z5)).trans hH_z5)).trans rfl) Tryz.underlying79 rfl) hq0 ?_
   refine cA 21 30 G o rfl rfl hq0 ?_
   refine cA 22 30 G (o+51) rfl rfl hq0 ?_
   refine cA 23 30 G (o+59) rfl rfl hq0 ?_
   refine tW 24 30 (_) rfl rfl (yieldsIf_load_mid rfl 30 _ rfl G (o+59) rfl ([.int .u64 x59,.int .u32 x60,.int .u64 x61,.int .u16 x62,.int .u16 x63]) _ (fun W' hW'=>(hP_z5.ext hW').range (j:=59) (n:=5) ((aM (by decide)).trans ((aM (by decide)).trans ((nF (fun i h1 h2=>bD (by omega))).trans ((aM (by decide)).trans ((aM (by decide)).trans HS_59.out))))) (by decide)) Tryz.underlying30 rfl (by kernel_rfl)) hq0 ?_
   refine aIA (i:=25) rfl (by rfl) (by kernel_rfl) (fun _ h=>Ext.pm h G o) (fun K hK=>?_)
   go_simp
   refine(lQ _ _ _ _ _ _ _ _ _ _ _).mono ?_
   rintro e wc1 ⟨rfl,hx⟩
   have hq1:=hq0.trans hx
   clear hx
   refine hK.out _ _ hq1 (fun hHeld=>?_)
   try simp only[ps]
   clear hK K hHeld
   refine tW 26 30 ((.bool (!(decide ((c4 x68 x69 x70 x71 x59 x60 x61 x62)<0))))) rfl rfl (Or.inl ⟨rfl,fun W' _=>by go_simp⟩) hq1 ?_
   refine kK 27 30 ((.bool (!(decide ((c4 x68 x69 x70 x71 x59 x60 x61 x62)<0))))) rfl rfl hq1 ?_
   refine gV 28 30 G (o+22) rfl hq1 ?_
   refine cA 29 30 G (o+22) rfl rfl hq1 ?_
   refine iC (z:=30) rfl rfl (by kernel_rfl) (fun K hK=>?_)
   refine bT rfl 4 _ _ rfl G o 22 _ (hP_z5.ext hq1) _ #[.bool (!(decide ((c4 x68 x69 x70 x71 x59 x60 x61 x62)<0)))] rfl rfl rfl (by exact(by decide:22+1≤89)) (by kernel_rfl) rfl (fun ws30 hp30 hm30=>?_)
   replace hp30:=aO hp30 (aB (aB (bM (aB (aB HLEN.out))))) (by decide)
   have hr30:Pm G o z5 ws30:=(Ext.pm hq1 G o).trans hm30
   refine hK.out _ _ hr30 (fun _=>?_)
   try simp only[ps]
   clear hK K
   refine wpAnyH_done (by kernel_rfl) ?_ _
   generalize ws30=z6 at *
   have hP_z6:Pv z6 G o ((((dU ((x51 == 2) && (x58 == 4) && x54) ((L.set 23 (.bool false)).set 34 (.bool false))).set 39 (.bool (x39 || x52))).set 40 (.bool (x40 || x53))).set 22 (.bool (!(decide ((c4 x68 x69 x70 x71 x59 x60 x61 x62)<0))))):=hp30
   have hH_z6:z6.heap[H0]?=some (.cells #[.pointer (some ⟨G,o,none⟩),.bool rst] 110 (0,0)):=(hm30.row ((hq1.block _ (aC hH_z5)).trans hH_z5) (show H0≠G by omega))
   have E_z6:Pm G o w z6:=(E_z5.ext hq1).trans hm30
   have rH0_z6:=cV hH_z6
   have rH1_z6:=dA hH_z6
   clear hH_z5 hP_z5 E_z5 rH0_z5 rH1_z5
   clear hq0 hq1 hqx hm30 hp30 hr30
   go_wp2_with fail
   go_meet
   exact⟨hP_z6,hH_z6,E_z6⟩
  ·have c3:(x86 == 3)=false:=by simpa using e86
   clear e86
   rw[c3]at hv22
   subst hv22
   refine fD (S:=fun W'=>Ext z5 W') (S2:=fun W'=>Pm G o z5 W') 30 (by kernel_rfl) ?_
   intro wd hqx
   have hq0:Ext z5 wd:=hqx
   refine cA 0 30 G (o+22) rfl rfl hq0 ?_
   refine cA 1 30 G (o+22) rfl rfl hq0 ?_
   refine cA 2 30 G (o+22) rfl rfl hq0 ?_
   refine cA 3 30 G (o+22) rfl rfl hq0 ?_
   refine tW 4 30 (_) rfl rfl (aA rfl 4 _ rfl ⟨G,o+22,none⟩ rfl (.bool true) _ (fun W' hW'=>((hP_z5.ext hW').cell (j:=22) (by decide)).trans ((aF (by decide)).trans ((aF (by decide)).trans ((bD (by decide)).trans ((aF (by decide)).trans ((aF (by decide)).trans HL_22.out)))))) Tryz.underlying4 rfl) hq0 ?_
   refine kK 5 30 ((.bool true)) rfl rfl hq0 ?_
   refine cA 6 30 H0 0 rfl rfl hq0 ?_
   refine tW 7 30 (_) rfl rfl (aA rfl 79 _ rfl ⟨H0,0,none⟩ rfl (.pointer (some ⟨G,o,none⟩)) _ (fun W' hW'=>(cell_of_row _ _ _ _ _ _ ((hW'.block _ (aC hH_z5)).trans hH_z5)).trans rfl) Tryz.underlying79 rfl) hq0 ?_
   refine cA 8 30 G o rfl rfl hq0 ?_
   refine cA 9 30 G (o+86) rfl rfl hq0 ?_
   refine tW 10 30 (_) rfl rfl (aA rfl 3 _ rfl ⟨G,o+86,none⟩ rfl (.int .i64 x86) _ (fun W' hW'=>((hP_z5.ext hW').cell (j:=86) (by decide)).trans ((aF (by decide)).trans ((aF (by decide)).trans ((bD (by decide)).trans ((aF (by decide)).trans ((aF (by decide)).trans HL_86.out)))))) Tryz.underlying3 rfl) hq0 ?_
   refine tW 11 30 ((.bool false)) rfl rfl (Or.inl ⟨rfl,fun W' _=>by go_simp⟩) hq0 ?_
   refine kK 12 30 ((.bool false)) rfl rfl hq0 ?_
   refine kK 13 30 ((.bool false)) rfl rfl hq0 ?_
   refine tW 14 30 (undef) rfl rfl (Or.inr ⟨rfl,rfl⟩) hq0 ?_
   refine tW 15 30 (undef) rfl rfl (Or.inr ⟨rfl,rfl⟩) hq0 ?_
   refine tW 16 30 (undef) rfl rfl (Or.inr ⟨rfl,rfl⟩) hq0 ?_
   refine tW 17 30 (undef) rfl rfl (Or.inr ⟨rfl,rfl⟩) hq0 ?_
   refine tW 18 30 (undef) rfl rfl (Or.inr ⟨rfl,rfl⟩) hq0 ?_
   refine tW 19 30 (undef) rfl rfl (Or.inr ⟨rfl,rfl⟩) hq0 ?_
   refine tW 20 30 (undef) rfl rfl (Or.inr ⟨rfl,rfl⟩) hq0 ?_
   refine tW 21 30 (undef) rfl rfl (Or.inr ⟨rfl,rfl⟩) hq0 ?_
   refine tW 22 30 (undef) rfl rfl (Or.inr ⟨rfl,rfl⟩) hq0 ?_
   refine tW 23 30 (undef) rfl rfl (Or.inr ⟨rfl,rfl⟩) hq0 ?_
   refine tW 24 30 (undef) rfl rfl (Or.inr ⟨rfl,rfl⟩) hq0 ?_
   refine tW 25 30 (undef) rfl rfl (Or.inr ⟨rfl,rfl⟩) hq0 ?_
   refine tW 26 30 (undef) rfl rfl (Or.inr ⟨rfl,rfl⟩) hq0 ?_
   refine kK 27 30 ((.bool false)) rfl rfl hq0 ?_
   refine gV 28 30 G (o+22) rfl hq0 ?_
   refine cA 29 30 G (o+22) rfl rfl hq0 ?_
   refine iC (z:=30) rfl rfl (by kernel_rfl) (fun K hK=>?_)
   refine bT rfl 4 _ _ rfl G o 22 _ (hP_z5.ext hq0) _ #[.bool false] rfl rfl rfl (by exact(by decide:22+1≤89)) (by kernel_rfl) rfl (fun ws30 hp30 hm30=>?_)
   replace hp30:=aO hp30 (aB (aB (bM (aB (aB HLEN.out))))) (by decide)
   have hr30:Pm G o z5 ws30:=(Ext.pm hq0 G o).trans hm30
   refine hK.out _ _ hr30 (fun _=>?_)
   try simp only[ps]
   clear hK K
   refine wpAnyH_done (by kernel_rfl) ?_ _
   generalize ws30=z6 at *
   have hP_z6:Pv z6 G o ((((dU ((x51 == 2) && (x58 == 4) && x54) ((L.set 23 (.bool false)).set 34 (.bool false))).set 39 (.bool (x39 || x52))).set 40 (.bool (x40 || x53))).set 22 (.bool false)):=hp30
   have hH_z6:z6.heap[H0]?=some (.cells #[.pointer (some ⟨G,o,none⟩),.bool rst] 110 (0,0)):=(hm30.row ((hq0.block _ (aC hH_z5)).trans hH_z5) (show H0≠G by omega))
   have E_z6:Pm G o w z6:=(E_z5.ext hq0).trans hm30
   have rH0_z6:=cV hH_z6
   have rH1_z6:=dA hH_z6
   clear hH_z5 hP_z5 E_z5 rH0_z5 rH1_z5
   clear hq0 hqx hm30 hp30 hr30
   go_wp2_with fail
   go_meet
   exact⟨hP_z6,hH_z6,E_z6⟩
end Go.Proofs.YtpanapepcbbagaaGreat
