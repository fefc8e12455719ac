/- Part 10 of what BridgeHold stands on. No statement is proved here. -/
import Derived.Deep.DeepCutAuto
import Derived.Test.YtpanapepcbbagaaGreatBpi
set_option linter.unusedVariables false
set_option linter.unusedSimpArgs false
set_option maxRecDepth 100000
set_option maxHeartbeats 8000000
namespace Go.Proofs.YtpanapepcbbagaaGreat
open Go.RowKit Go.BigFrame Go.WideShapes Go.ChangeShapes Go.Deep
theorem iprop_ne{p:Bool}{L:List Value}{j:Nat}(h:33≠j):(iprop p L)[j]?=L[j]?:=by
 cases p
 ·rfl
 ·exact get_ne h
theorem iprop_len{p:Bool}{L:List Value}(h:L.length=89):(iprop p L).length=89:=by
 cases p
 ·exact h
 ·exact len_set' h
theorem iagr_ne{a:Bool}{L:List Value}{j:Nat}(h:23≠j)(h2:34≠j):(iagr a L)[j]?=L[j]?:=by
 cases a
 ·exact get_ne h
 ·exact(get_ne h2).trans (get_ne h)
theorem iagr_len{a:Bool}{L:List Value}(h:L.length=89):(iagr a L).length=89:=by
 cases a
 ·exact len_set' h
 ·exact len_set' (len_set' h)
theorem iagr_23{a:Bool}{L:List Value}(h:L.length=89):(iagr a L)[23]?=some (.bool a):=by
 cases a
 ·exact get_same h (by decide)
 ·exact(get_ne (by decide)).trans (get_same h (by decide))
theorem seg_fn{L L':List Value}{j n:Nat}(h:∀i,j≤i→i<j+n→L'[i]?=L[i]?):(L'.drop j).take n=(L.drop j).take n:=by
 apply List.ext_getElem?
 intro m
 rw[List.getElem?_take,List.getElem?_take]
 split
 ·rw[List.getElem?_drop,List.getElem?_drop,h _ (by omega) (by omega)]
 ·rfl
theorem inf_notDesignated{w:World}(G o:Nat)(L:List Value)(hP_w:Pv w G o L)(hl:L.length=89)(rst:Bool)(x3:Bool)(h3:L[3]?=some (.bool x3))(x39:Bool)(h39:L[39]?=some (.bool x39))(x40:Bool)(h40:L[40]?=some (.bool x40))(x51:Int)(h51:L[51]?=some (.int .i64 x51))(x52:Bool)(h52:L[52]?=some (.bool x52))(x53:Bool)(h53:L[53]?=some (.bool x53))(x55:Bool)(h55:L[55]?=some (.bool x55)):Calls Tryz.prog 143 #[.agg #[.pointer (some ⟨G,o,none⟩),.bool rst]] w fun e w'=>e=.returned (.tuple #[])∧Pv w' G o (ichg (x39 || x52) (x40 || x53) (iagr (rst && !x3 && (x51 == 2) && x55) L))∧Pm G o w w':=by
 have hG:=hP_w.lt
 have HLEN:=hD hl
 have HL_3:=hD h3
 have HL_39:=hD h39
 have HL_40:=hD h40
 have HL_51:=hD h51
 have HL_52:=hD h52
 have HL_53:=hD h53
 have HL_55:=hD h55
 clear hl h3 h39 h40 h51 h52 h53 h55
 go_enter Tryz.func143,Tryz.ntmps143
 go_wp2_with (first
  | fail
  | ((with_reducible refine at_box 110 ?_);refine bx_row rfl 110 _ rfl #[.pointer (some ⟨G,o,none⟩),.bool rst] rfl ?_
     intro H0 z1 hq hs hx
     have E_z1:Pm G o w z1:=Ext.pm hx G o
     have hP_z1:Pv z1 G o L:=hP_w.ext hx
     have hH_z1:z1.heap[H0]?=some (.cells #[.pointer (some ⟨G,o,none⟩),.bool rst] 110 (0,0)):=hq
     have hb_H0:w.heap.size≤H0:=by omega
     have hn_H0G:H0≠G:=by omega
     have rH0_z1:z1.cell? ⟨H0,0,none⟩=some (.pointer (some ⟨G,o,none⟩)):=(cell_of_row _ _ _ _ _ _ hH_z1).trans rfl
     have rH1_z1:z1.cell? ⟨H0,1,none⟩=some (.bool rst):=(cell_of_row _ _ _ _ _ _ hH_z1).trans rfl
     clear hP_w
     clear hq hs hx)
  | ((with_reducible refine at_load 110 ?_);refine wpList_load_row rfl 110 _ rfl H0 rfl 110 #[.pointer (some ⟨G,o,none⟩),.bool rst] (0,0) _ hH_z1 Tryz.underlying110 rfl (by kernel_rfl) ?_))
 refine(inf_noteAgreement G o _ hP_z1 HLEN.out rst _ HL_3.out _ HL_51.out _ HL_55.out).mono ?_
 rintro e z2 ⟨rfl,hp,hm⟩
 have hP_z2:Pv z2 G o (iagr (rst && !x3 && (x51 == 2) && x55) L):=hp
 have hH_z2:=hm.row hH_z1 (show H0≠G by omega)
 have E_z2:Pm G o w z2:=E_z1.trans hm
 have rH0_z2:z2.cell? ⟨H0,0,none⟩=some (.pointer (some ⟨G,o,none⟩)):=(cell_of_row _ _ _ _ _ _ hH_z2).trans rfl
 have rH1_z2:z2.cell? ⟨H0,1,none⟩=some (.bool rst):=(cell_of_row _ _ _ _ _ _ hH_z2).trans rfl
 clear hH_z1 hP_z1 E_z1 rH0_z1 rH1_z1
 clear hp hm
 go_wp2_with (first
  | fail
  | ((with_reducible refine at_load 110 ?_);refine wpList_load_row rfl 110 _ rfl H0 rfl 110 #[.pointer (some ⟨G,o,none⟩),.bool rst] (0,0) _ hH_z2 Tryz.underlying110 rfl (by kernel_rfl) ?_))
 refine(inf_noteChanges G o _ hP_z2 (iagr_len HLEN.out) rst _ ((iagr_ne (by decide) (by decide)).trans HL_39.out) _ ((iagr_ne (by decide) (by decide)).trans HL_40.out) _ ((iagr_ne (by decide) (by decide)).trans HL_52.out) _ ((iagr_ne (by decide) (by decide)).trans HL_53.out)).mono ?_
 rintro e z3 ⟨rfl,hp,hm⟩
 have hP_z3:Pv z3 G o (((iagr (rst && !x3 && (x51 == 2) && x55) L).set 39 (.bool (x39 || x52))).set 40 (.bool (x40 || x53))):=hp
 have hH_z3:=hm.row hH_z2 (show H0≠G by omega)
 have E_z3:Pm G o w z3:=E_z2.trans hm
 have rH0_z3:z3.cell? ⟨H0,0,none⟩=some (.pointer (some ⟨G,o,none⟩)):=(cell_of_row _ _ _ _ _ _ hH_z3).trans rfl
 have rH1_z3:z3.cell? ⟨H0,1,none⟩=some (.bool rst):=(cell_of_row _ _ _ _ _ _ hH_z3).trans rfl
 clear hH_z2 hP_z2 E_z2 rH0_z2 rH1_z2
 clear hp hm
 go_wp2_with fail
 go_end0
 exact⟨rfl,hP_z3,E_z3⟩
theorem inf_repeated{w:World}(G o:Nat)(L:List Value)(hP_w:Pv w G o L)(hl:L.length=89)(rst:Bool)(x3:Bool)(h3:L[3]?=some (.bool x3))(x39:Bool)(h39:L[39]?=some (.bool x39))(x40:Bool)(h40:L[40]?=some (.bool x40))(x51:Int)(h51:L[51]?=some (.int .i64 x51))(x52:Bool)(h52:L[52]?=some (.bool x52))(x53:Bool)(h53:L[53]?=some (.bool x53))(x54:Bool)(h54:L[54]?=some (.bool x54))(x55:Bool)(h55:L[55]?=some (.bool x55))(x56:Bool)(h56:L[56]?=some (.bool x56))(x57:Bool)(h57:L[57]?=some (.bool x57))(x58:Int)(h58:L[58]?=some (.int .i64 x58))(x59:Int)(h59:L[59]?=some (.int .u64 x59))(x60:Int)(h60:L[60]?=some (.int .u32 x60))(x61:Int)(h61:L[61]?=some (.int .u64 x61))(x62:Int)(h62:L[62]?=some (.int .u16 x62))(x63:Int)(h63:L[63]?=some (.int .u16 x63))(x64:Int)(h64:L[64]?=some (.int .i64 x64))(x65:Int)(h65:L[65]?=some (.int .i64 x65))(x66:Int)(h66:L[66]?=some (.int .i64 x66))(x67:Int)(h67:L[67]?=some (.int .i64 x67))(r1:0≤x64)(r2:x64≤65535)(r3:0≤x65)(r4:x65≤65535)(r5:0≤x66)(r6:x66≤65535):Calls Tryz.prog 141 #[.agg #[.pointer (some ⟨G,o,none⟩),.bool rst]] w fun e w'=>e=.returned (.tuple #[])∧Pv w' G o ((iagr (rst && !x3 && (x51 == 2) && x55) (ichg (x39 || x52) (x40 || x53) (iprop ((x51 == 2) && (x58 == 4) && x54) L))).set 11 (.int .i64 (waitsV x64 x65 x66)))∧Pm G o w w':=by
 have hG:=hP_w.lt
 have HLEN:=hD hl
 have HL_3:=hD h3
 have HL_39:=hD h39
 have HL_40:=hD h40
 have HL_51:=hD h51
 have HL_52:=hD h52
 have HL_53:=hD h53
 have HL_54:=hD h54
 have HL_55:=hD h55
 have HL_56:=hD h56
 have HL_57:=hD h57
 have HL_58:=hD h58
 have HL_59:=hD h59
 have HL_60:=hD h60
 have HL_61:=hD h61
 have HL_62:=hD h62
 have HL_63:=hD h63
 have HL_64:=hD h64
 have HL_65:=hD h65
 have HL_66:=hD h66
 have HL_67:=hD h67
 clear hl h3 h39 h40 h51 h52 h53 h54 h55 h56 h57 h58 h59 h60 h61 h62 h63 h64 h65 h66 h67
 go_enter Tryz.func141,Tryz.ntmps141
 go_wp2_with (first
  | fail
  | ((with_reducible refine at_box 110 ?_);refine bx_row rfl 110 _ rfl #[.pointer (some ⟨G,o,none⟩),.bool rst] rfl ?_
     intro H0 z1 hq hs hx
     have E_z1:Pm G o w z1:=Ext.pm hx G o
     have hP_z1:Pv z1 G o L:=hP_w.ext hx
     have hH_z1:z1.heap[H0]?=some (.cells #[.pointer (some ⟨G,o,none⟩),.bool rst] 110 (0,0)):=hq
     have hb_H0:w.heap.size≤H0:=by omega
     have hn_H0G:H0≠G:=by omega
     have rH0_z1:z1.cell? ⟨H0,0,none⟩=some (.pointer (some ⟨G,o,none⟩)):=(cell_of_row _ _ _ _ _ _ hH_z1).trans rfl
     have rH1_z1:z1.cell? ⟨H0,1,none⟩=some (.bool rst):=(cell_of_row _ _ _ _ _ _ hH_z1).trans rfl
     clear hP_w
     clear hq hs hx)
  | ((with_reducible refine at_load 110 ?_);refine wpList_load_row rfl 110 _ rfl H0 rfl 110 #[.pointer (some ⟨G,o,none⟩),.bool rst] (0,0) _ hH_z1 Tryz.underlying110 rfl (by kernel_rfl) ?_))
 refine(inf_noteProposal G o _ hP_z1 HLEN.out rst _ HL_51.out _ HL_52.out _ HL_53.out _ HL_54.out _ HL_55.out _ HL_56.out _ HL_57.out _ HL_58.out _ HL_59.out _ HL_60.out _ HL_61.out _ HL_62.out _ HL_63.out _ HL_64.out _ HL_65.out _ HL_66.out _ HL_67.out).mono ?_
 rintro e z2 ⟨rfl,hp,hm⟩
 have hP_z2:Pv z2 G o (iprop ((x51 == 2) && (x58 == 4) && x54) L):=hp
 have hH_z2:=hm.row hH_z1 (show H0≠G by omega)
 have E_z2:Pm G o w z2:=E_z1.trans hm
 have rH0_z2:z2.cell? ⟨H0,0,none⟩=some (.pointer (some ⟨G,o,none⟩)):=(cell_of_row _ _ _ _ _ _ hH_z2).trans rfl
 have rH1_z2:z2.cell? ⟨H0,1,none⟩=some (.bool rst):=(cell_of_row _ _ _ _ _ _ hH_z2).trans rfl
 clear hH_z1 hP_z1 E_z1 rH0_z1 rH1_z1
 clear hp hm
 go_wp2_with (first
  | fail
  | ((with_reducible refine at_load 110 ?_);refine wpList_load_row rfl 110 _ rfl H0 rfl 110 #[.pointer (some ⟨G,o,none⟩),.bool rst] (0,0) _ hH_z2 Tryz.underlying110 rfl (by kernel_rfl) ?_))
 refine(inf_noteChanges G o _ hP_z2 (iprop_len HLEN.out) rst _ ((iprop_ne (by decide)).trans HL_39.out) _ ((iprop_ne (by decide)).trans HL_40.out) _ ((iprop_ne (by decide)).trans HL_52.out) _ ((iprop_ne (by decide)).trans HL_53.out)).mono ?_
 rintro e z3 ⟨rfl,hp,hm⟩
 have hP_z3:Pv z3 G o (((iprop ((x51 == 2) && (x58 == 4) && x54) L).set 39 (.bool (x39 || x52))).set 40 (.bool (x40 || x53))):=hp
 have hH_z3:=hm.row hH_z2 (show H0≠G by omega)
 have E_z3:Pm G o w z3:=E_z2.trans hm
 have rH0_z3:z3.cell? ⟨H0,0,none⟩=some (.pointer (some ⟨G,o,none⟩)):=(cell_of_row _ _ _ _ _ _ hH_z3).trans rfl
 have rH1_z3:z3.cell? ⟨H0,1,none⟩=some (.bool rst):=(cell_of_row _ _ _ _ _ _ hH_z3).trans rfl
 clear hH_z2 hP_z2 E_z2 rH0_z2 rH1_z2
 clear hp hm
 go_wp2_with (first
  | fail
  | ((with_reducible refine at_load 110 ?_);refine wpList_load_row rfl 110 _ rfl H0 rfl 110 #[.pointer (some ⟨G,o,none⟩),.bool rst] (0,0) _ hH_z3 Tryz.underlying110 rfl (by kernel_rfl) ?_))
 refine(inf_noteAgreement G o _ hP_z3 (len_set' (len_set' (iprop_len HLEN.out))) rst _ ((get_ne (by decide)).trans ((get_ne (by decide)).trans ((iprop_ne (by decide)).trans HL_3.out))) _ ((get_ne (by decide)).trans ((get_ne (by decide)).trans ((iprop_ne (by decide)).trans HL_51.out))) _ ((get_ne (by decide)).trans ((get_ne (by decide)).trans ((iprop_ne (by decide)).trans HL_55.out)))).mono ?_
 rintro e z4 ⟨rfl,hp,hm⟩
 have hP_z4:Pv z4 G o (iagr (rst && !x3 && (x51 == 2) && x55) (((iprop ((x51 == 2) && (x58 == 4) && x54) L).set 39 (.bool (x39 || x52))).set 40 (.bool (x40 || x53)))):=hp
 have hH_z4:=hm.row hH_z3 (show H0≠G by omega)
 have E_z4:Pm G o w z4:=E_z3.trans hm
 have rH0_z4:z4.cell? ⟨H0,0,none⟩=some (.pointer (some ⟨G,o,none⟩)):=(cell_of_row _ _ _ _ _ _ hH_z4).trans rfl
 have rH1_z4:z4.cell? ⟨H0,1,none⟩=some (.bool rst):=(cell_of_row _ _ _ _ _ _ hH_z4).trans rfl
 clear hH_z3 hP_z3 E_z3 rH0_z3 rH1_z3
 clear hp hm
 go_wp2_with (first
  | fail
  | ((with_reducible refine at_load 110 ?_);refine wpList_load_row rfl 110 _ rfl H0 rfl 110 #[.pointer (some ⟨G,o,none⟩),.bool rst] (0,0) _ hH_z4 Tryz.underlying110 rfl (by kernel_rfl) ?_))
 refine(inf_keep G o _ hP_z4 (iagr_len (len_set' (len_set' (iprop_len HLEN.out)))) rst _ ((iagr_ne (by decide) (by decide)).trans ((get_ne (by decide)).trans ((get_ne (by decide)).trans ((iprop_ne (by decide)).trans HL_64.out)))) _ ((iagr_ne (by decide) (by decide)).trans ((get_ne (by decide)).trans ((get_ne (by decide)).trans ((iprop_ne (by decide)).trans HL_65.out)))) _ ((iagr_ne (by decide) (by decide)).trans ((get_ne (by decide)).trans ((get_ne (by decide)).trans ((iprop_ne (by decide)).trans HL_66.out)))) _ ((iagr_ne (by decide) (by decide)).trans ((get_ne (by decide)).trans ((get_ne (by decide)).trans ((iprop_ne (by decide)).trans HL_67.out)))) r1 r2 r3 r4 r5 r6).mono ?_
 rintro e z5 ⟨rfl,hp,hm⟩
 have hP_z5:Pv z5 G o ((iagr (rst && !x3 && (x51 == 2) && x55) (((iprop ((x51 == 2) && (x58 == 4) && x54) L).set 39 (.bool (x39 || x52))).set 40 (.bool (x40 || x53)))).set 11 (.int .i64 (waitsV x64 x65 x66))):=hp
 have hH_z5:=hm.row hH_z4 (show H0≠G by omega)
 have E_z5:Pm G o w z5:=E_z4.trans hm
 have rH0_z5:z5.cell? ⟨H0,0,none⟩=some (.pointer (some ⟨G,o,none⟩)):=(cell_of_row _ _ _ _ _ _ hH_z5).trans rfl
 have rH1_z5:z5.cell? ⟨H0,1,none⟩=some (.bool rst):=(cell_of_row _ _ _ _ _ _ hH_z5).trans rfl
 clear hH_z4 hP_z4 E_z4 rH0_z4 rH1_z4
 clear hp hm
 go_wp2_with fail
 go_end0
 exact⟨rfl,hP_z5,E_z5⟩
def isup(g22 g47:Bool)(is:Int)(p a c1 c2 less:Bool)(v t:List Value)(k:Int)(L:List Value):List Value :=
 iask ((((setL (setL ((iagr a ((ichg c1 c2 (iprop p ((L.set 23 (.bool false)).set 34 (.bool false)))).set 22 (.bool (g22 && (is == 3) && !less)))).set 47 (.bool (g47 && a))) 68 v) 78 t).set 11 (.int .i64 k)).set 86 (.int .i64 3)))
theorem inf_superior{w:World}(G o:Nat)(L:List Value)(hP_w:Pv w G o L)(hl:L.length=89)(rst:Bool)(x3:Bool)(h3:L[3]?=some (.bool x3))(x22:Bool)(h22:L[22]?=some (.bool x22))(x39:Bool)(h39:L[39]?=some (.bool x39))(x40:Bool)(h40:L[40]?=some (.bool x40))(x47:Bool)(h47:L[47]?=some (.bool x47))(x51:Int)(h51:L[51]?=some (.int .i64 x51))(x52:Bool)(h52:L[52]?=some (.bool x52))(x53:Bool)(h53:L[53]?=some (.bool x53))(x54:Bool)(h54:L[54]?=some (.bool x54))(x55:Bool)(h55:L[55]?=some (.bool x55))(x56:Bool)(h56:L[56]?=some (.bool x56))(x57:Bool)(h57:L[57]?=some (.bool x57))(x58:Int)(h58:L[58]?=some (.int .i64 x58))(x59:Int)(h59:L[59]?=some (.int .u64 x59))(x60:Int)(h60:L[60]?=some (.int .u32 x60))(x61:Int)(h61:L[61]?=some (.int .u64 x61))(x62:Int)(h62:L[62]?=some (.int .u16 x62))(x63:Int)(h63:L[63]?=some (.int .u16 x63))(x64:Int)(h64:L[64]?=some (.int .i64 x64))(x65:Int)(h65:L[65]?=some (.int .i64 x65))(x66:Int)(h66:L[66]?=some (.int .i64 x66))(x67:Int)(h67:L[67]?=some (.int .i64 x67))(x68:Int)(h68:L[68]?=some (.int .u64 x68))(x69:Int)(h69:L[69]?=some (.int .u32 x69))(x70:Int)(h70:L[70]?=some (.int .u64 x70))(x71:Int)(h71:L[71]?=some (.int .u16 x71))(x72:Int)(h72:L[72]?=some (.int .u16 x72))(x86:Int)(h86:L[86]?=some (.int .i64 x86))(r1:0≤x64)(r2:x64≤65535)(r3:0≤x65)(r4:x65≤65535)(r5:0≤x66)(r6:x66≤65535):Calls Tryz.prog 140 #[.agg #[.pointer (some ⟨G,o,none⟩),.bool rst]] w fun e w'=>e=.returned (.tuple #[])∧Pv w' G o (isup x22 x47 x86 ((x51 == 2) && (x58 == 4) && x54) (rst && !x3 && (x51 == 2) && x55) (x39 || x52) (x40 || x53) (decide ((c4 x68 x69 x70 x71 x59 x60 x61 x62)<0)) [.int .u64 x59,.int .u32 x60,.int .u64 x61,.int .u16 x62,.int .u16 x63] [.int .i64 x64,.int .i64 x65,.int .i64 x66,.int .i64 x67] (waitsV x64 x65 x66) L)∧Pm G o w w':=by
 have hG:=hP_w.lt
 have HLEN:=hD hl
 have HL_3:=hD h3
 have HL_22:=hD h22
 have HL_39:=hD h39
 have HL_40:=hD h40
 have HL_47:=hD h47
 have HL_51:=hD h51
 have HL_52:=hD h52
 have HL_53:=hD h53
 have HL_54:=hD h54
 have HL_55:=hD h55
 have HL_56:=hD h56
 have HL_57:=hD h57
 have HL_58:=hD h58
 have HL_59:=hD h59
 have HL_60:=hD h60
 have HL_61:=hD h61
 have HL_62:=hD h62
 have HL_63:=hD h63
 have HL_64:=hD h64
 have HL_65:=hD h65
 have HL_66:=hD h66
 have HL_67:=hD h67
 have HL_68:=hD h68
 have HL_69:=hD h69
 have HL_70:=hD h70
 have HL_71:=hD h71
 have HL_72:=hD h72
 have HL_86:=hD h86
 have HS_59:=hD (seg_of (L:=L) (j:=59) (l:=[.int .u64 x59,.int .u32 x60,.int .u64 x61,.int .u16 x62,.int .u16 x63]) (by rw[hl];exact(by decide:59+5≤89)) (fun i hi=>by
  match i,hi with
  | 0,_=>exact HL_59.out
  | 1,_=>exact HL_60.out
  | 2,_=>exact HL_61.out
  | 3,_=>exact HL_62.out
  | 4,_=>exact HL_63.out
  | i+5,hi=>simp at hi;omega))
 have HS_64:=hD (seg_of (L:=L) (j:=64) (l:=[.int .i64 x64,.int .i64 x65,.int .i64 x66,.int .i64 x67]) (by rw[hl];exact(by decide:64+4≤89)) (fun i hi=>by
  match i,hi with
  | 0,_=>exact HL_64.out
  | 1,_=>exact HL_65.out
  | 2,_=>exact HL_66.out
  | 3,_=>exact HL_67.out
  | i+4,hi=>simp at hi;omega))
 have HS_68:=hD (seg_of (L:=L) (j:=68) (l:=[.int .u64 x68,.int .u32 x69,.int .u64 x70,.int .u16 x71,.int .u16 x72]) (by rw[hl];exact(by decide:68+5≤89)) (fun i hi=>by
  match i,hi with
  | 0,_=>exact HL_68.out
  | 1,_=>exact HL_69.out
  | 2,_=>exact HL_70.out
  | 3,_=>exact HL_71.out
  | 4,_=>exact HL_72.out
  | i+5,hi=>simp at hi;omega))
 clear hl h3 h22 h39 h40 h47 h51 h52 h53 h54 h55 h56 h57 h58 h59 h60 h61 h62 h63 h64 h65 h66 h67 h68 h69 h70 h71 h72 h86
 go_enter Tryz.func140,Tryz.ntmps140
 go_wp2_with (first
  | fail
  | ((with_reducible refine at_box 110 ?_);refine bx_row rfl 110 _ rfl #[.pointer (some ⟨G,o,none⟩),.bool rst] rfl ?_
     intro H0 z1 hq hs hx
     have E_z1:Pm G o w z1:=Ext.pm hx G o
     have hP_z1:Pv z1 G o L:=hP_w.ext hx
     have hH_z1:z1.heap[H0]?=some (.cells #[.pointer (some ⟨G,o,none⟩),.bool rst] 110 (0,0)):=hq
     have hb_H0:w.heap.size≤H0:=by omega
     have hn_H0G:H0≠G:=by omega
     have rH0_z1:z1.cell? ⟨H0,0,none⟩=some (.pointer (some ⟨G,o,none⟩)):=(cell_of_row _ _ _ _ _ _ hH_z1).trans rfl
     have rH1_z1:z1.cell? ⟨H0,1,none⟩=some (.bool rst):=(cell_of_row _ _ _ _ _ _ hH_z1).trans rfl
     clear hP_w
     clear hq hs hx)
  | ((with_reducible refine at_store 4 ?_);refine st_pv rfl rfl 4 _ _ rfl G o 23 _ hP_z1 _ #[.bool false] rfl rfl rfl (by exact(by decide:23+1≤89)) (by kernel_rfl) rfl ?_
     intro z2 hp hm
     replace hp:=pv_one hp HLEN.out (by decide)
     have hP_z2:=hp
     have hH_z2:=hm.row hH_z1 (show H0≠G by omega)
     have E_z2:Pm G o w z2:=E_z1.trans hm
     have rH0_z2:z2.cell? ⟨H0,0,none⟩=some (.pointer (some ⟨G,o,none⟩)):=(cell_of_row _ _ _ _ _ _ hH_z2).trans rfl
     have rH1_z2:z2.cell? ⟨H0,1,none⟩=some (.bool rst):=(cell_of_row _ _ _ _ _ _ hH_z2).trans rfl
     clear hH_z1 hP_z1 E_z1 rH0_z1 rH1_z1
     clear hp hm)
  | ((with_reducible refine at_store 4 ?_);refine st_pv rfl rfl 4 _ _ rfl G o 34 _ hP_z2 _ #[.bool false] rfl rfl rfl (by exact(by decide:34+1≤89)) (by kernel_rfl) rfl ?_
     intro z3 hp hm
     replace hp:=pv_one hp (len_set' HLEN.out) (by decide)
     have hP_z3:=hp
     have hH_z3:=hm.row hH_z2 (show H0≠G by omega)
     have E_z3:Pm G o w z3:=E_z2.trans hm
     have rH0_z3:z3.cell? ⟨H0,0,none⟩=some (.pointer (some ⟨G,o,none⟩)):=(cell_of_row _ _ _ _ _ _ hH_z3).trans rfl
     have rH1_z3:z3.cell? ⟨H0,1,none⟩=some (.bool rst):=(cell_of_row _ _ _ _ _ _ hH_z3).trans rfl
     clear hH_z2 hP_z2 E_z2 rH0_z2 rH1_z2
     clear hp hm)
  | ((with_reducible refine at_load 110 ?_);refine wpList_load_row rfl 110 _ rfl H0 rfl 110 #[.pointer (some ⟨G,o,none⟩),.bool rst] (0,0) _ hH_z3 Tryz.underlying110 rfl (by kernel_rfl) ?_))
 refine(inf_noteProposal G o _ hP_z3 (len_set' (len_set' HLEN.out)) rst _ ((get_ne (by decide)).trans ((get_ne (by decide)).trans HL_51.out)) _ ((get_ne (by decide)).trans ((get_ne (by decide)).trans HL_52.out)) _ ((get_ne (by decide)).trans ((get_ne (by decide)).trans HL_53.out)) _ ((get_ne (by decide)).trans ((get_ne (by decide)).trans HL_54.out)) _ ((get_ne (by decide)).trans ((get_ne (by decide)).trans HL_55.out)) _ ((get_ne (by decide)).trans ((get_ne (by decide)).trans HL_56.out)) _ ((get_ne (by decide)).trans ((get_ne (by decide)).trans HL_57.out)) _ ((get_ne (by decide)).trans ((get_ne (by decide)).trans HL_58.out)) _ ((get_ne (by decide)).trans ((get_ne (by decide)).trans HL_59.out)) _ ((get_ne (by decide)).trans ((get_ne (by decide)).trans HL_60.out)) _ ((get_ne (by decide)).trans ((get_ne (by decide)).trans HL_61.out)) _ ((get_ne (by decide)).trans ((get_ne (by decide)).trans HL_62.out)) _ ((get_ne (by decide)).trans ((get_ne (by decide)).trans HL_63.out)) _ ((get_ne (by decide)).trans ((get_ne (by decide)).trans HL_64.out)) _ ((get_ne (by decide)).trans ((get_ne (by decide)).trans HL_65.out)) _ ((get_ne (by decide)).trans ((get_ne (by decide)).trans HL_66.out)) _ ((get_ne (by decide)).trans ((get_ne (by decide)).trans HL_67.out))).mono ?_
 rintro e z4 ⟨rfl,hp,hm⟩
 have hP_z4:Pv z4 G o (iprop ((x51 == 2) && (x58 == 4) && x54) ((L.set 23 (.bool false)).set 34 (.bool false))):=hp
 have hH_z4:=hm.row hH_z3 (show H0≠G by omega)
 have E_z4:Pm G o w z4:=E_z3.trans hm
 have rH0_z4:z4.cell? ⟨H0,0,none⟩=some (.pointer (some ⟨G,o,none⟩)):=(cell_of_row _ _ _ _ _ _ hH_z4).trans rfl
 have rH1_z4:z4.cell? ⟨H0,1,none⟩=some (.bool rst):=(cell_of_row _ _ _ _ _ _ hH_z4).trans rfl
 clear hH_z3 hP_z3 E_z3 rH0_z3 rH1_z3
 clear hp hm
 go_wp2_with (first
  | fail
  | ((with_reducible refine at_load 110 ?_);refine wpList_load_row rfl 110 _ rfl H0 rfl 110 #[.pointer (some ⟨G,o,none⟩),.bool rst] (0,0) _ hH_z4 Tryz.underlying110 rfl (by kernel_rfl) ?_))
 refine(inf_noteChanges G o _ hP_z4 (iprop_len (len_set' (len_set' HLEN.out))) rst _ ((iprop_ne (by decide)).trans ((get_ne (by decide)).trans ((get_ne (by decide)).trans HL_39.out))) _ ((iprop_ne (by decide)).trans ((get_ne (by decide)).trans ((get_ne (by decide)).trans HL_40.out))) _ ((iprop_ne (by decide)).trans ((get_ne (by decide)).trans ((get_ne (by decide)).trans HL_52.out))) _ ((iprop_ne (by decide)).trans ((get_ne (by decide)).trans ((get_ne (by decide)).trans HL_53.out)))).mono ?_
 rintro e z5 ⟨rfl,hp,hm⟩
 have hP_z5:Pv z5 G o (((iprop ((x51 == 2) && (x58 == 4) && x54) ((L.set 23 (.bool false)).set 34 (.bool false))).set 39 (.bool (x39 || x52))).set 40 (.bool (x40 || x53))):=hp
 have hH_z5:=hm.row hH_z4 (show H0≠G by omega)
 have E_z5:Pm G o w z5:=E_z4.trans hm
 have rH0_z5:z5.cell? ⟨H0,0,none⟩=some (.pointer (some ⟨G,o,none⟩)):=(cell_of_row _ _ _ _ _ _ hH_z5).trans rfl
 have rH1_z5:z5.cell? ⟨H0,1,none⟩=some (.bool rst):=(cell_of_row _ _ _ _ _ _ hH_z5).trans rfl
 clear hH_z4 hP_z4 E_z4 rH0_z4 rH1_z4
 clear hp hm
 go_wp2_with fail
 obtain⟨v22,hv22⟩:∃v:Bool,(x22 && (x86 == 3) && !(decide ((c4 x68 x69 x70 x71 x59 x60 x61 x62)<0)))=v:=⟨_,rfl⟩
 go_cut []from 17 to 46 (fun wx=>Pv wx G o ((((iprop ((x51 == 2) && (x58 == 4) && x54) ((L.set 23 (.bool false)).set 34 (.bool false))).set 39 (.bool (x39 || x52))).set 40 (.bool (x40 || x53))).set 22 (.bool v22))∧wx.heap[H0]?=some (.cells #[.pointer (some ⟨G,o,none⟩),.bool rst] 110 (0,0))∧Pm G o w wx)
 case rest =>
  obtain⟨hp,hh,hm⟩:=hcut
  rename World=>z6
  have hP_z6:Pv z6 G o ((((iprop ((x51 == 2) && (x58 == 4) && x54) ((L.set 23 (.bool false)).set 34 (.bool false))).set 39 (.bool (x39 || x52))).set 40 (.bool (x40 || x53))).set 22 (.bool v22)):=hp
  have hH_z6:z6.heap[H0]?=some (.cells #[.pointer (some ⟨G,o,none⟩),.bool rst] 110 (0,0)):=hh
  have E_z6:Pm G o w z6:=hm
  have rH0_z6:z6.cell? ⟨H0,0,none⟩=some (.pointer (some ⟨G,o,none⟩)):=(cell_of_row _ _ _ _ _ _ hH_z6).trans rfl
  have rH1_z6:z6.cell? ⟨H0,1,none⟩=some (.bool rst):=(cell_of_row _ _ _ _ _ _ hH_z6).trans rfl
  clear hH_z5 hP_z5 E_z5 rH0_z5 rH1_z5
  clear hp hh hm
  have HV22:=hD hv22
  clear hv22
  go_wp2_with (first
   | fail
   | ((with_reducible refine at_load 110 ?_);refine wpList_load_row rfl 110 _ rfl H0 rfl 110 #[.pointer (some ⟨G,o,none⟩),.bool rst] (0,0) _ hH_z6 Tryz.underlying110 rfl (by kernel_rfl) ?_))
  refine(inf_noteAgreement G o _ hP_z6 (len_set' (len_set' (len_set' (iprop_len (len_set' (len_set' HLEN.out)))))) rst _ ((get_ne (by decide)).trans ((get_ne (by decide)).trans ((get_ne (by decide)).trans ((iprop_ne (by decide)).trans ((get_ne (by decide)).trans ((get_ne (by decide)).trans HL_3.out)))))) _ ((get_ne (by decide)).trans ((get_ne (by decide)).trans ((get_ne (by decide)).trans ((iprop_ne (by decide)).trans ((get_ne (by decide)).trans ((get_ne (by decide)).trans HL_51.out)))))) _ ((get_ne (by decide)).trans ((get_ne (by decide)).trans ((get_ne (by decide)).trans ((iprop_ne (by decide)).trans ((get_ne (by decide)).trans ((get_ne (by decide)).trans HL_55.out))))))).mono ?_
  rintro e z7 ⟨rfl,hp,hm⟩
  have hP_z7:Pv z7 G o (iagr (rst && !x3 && (x51 == 2) && x55) ((((iprop ((x51 == 2) && (x58 == 4) && x54) ((L.set 23 (.bool false)).set 34 (.bool false))).set 39 (.bool (x39 || x52))).set 40 (.bool (x40 || x53))).set 22 (.bool v22))):=hp
  have hH_z7:=hm.row hH_z6 (show H0≠G by omega)
  have E_z7:Pm G o w z7:=E_z6.trans hm
  have rH0_z7:z7.cell? ⟨H0,0,none⟩=some (.pointer (some ⟨G,o,none⟩)):=(cell_of_row _ _ _ _ _ _ hH_z7).trans rfl
  have rH1_z7:z7.cell? ⟨H0,1,none⟩=some (.bool rst):=(cell_of_row _ _ _ _ _ _ hH_z7).trans rfl
  have p23_z7:z7.cell? ⟨G,o+23,none⟩=some (.bool (rst && !x3 && (x51 == 2) && x55)):=(hP_z7.cell (j:=23) (by decide)).trans (iagr_23 (len_set' (len_set' (len_set' (iprop_len (len_set' (len_set' HLEN.out)))))))
  have p47_z7:z7.cell? ⟨G,o+47,none⟩=some (.bool x47):=(hP_z7.cell (j:=47) (by decide)).trans ((iagr_ne (by decide) (by decide)).trans ((get_ne (by decide)).trans ((get_ne (by decide)).trans ((get_ne (by decide)).trans ((iprop_ne (by decide)).trans ((get_ne (by decide)).trans ((get_ne (by decide)).trans HL_47.out)))))))
  clear hH_z6 hP_z6 E_z6 rH0_z6 rH1_z6
  clear hp hm
  obtain⟨v47,hv47⟩:∃v:Bool,(x47 && (rst && !x3 && (x51 == 2) && x55))=v:=⟨_,rfl⟩
  go_upto_region 7 with fail
  go_cut []from 49 to 61 (fun wx=>Pv wx G o ((iagr (rst && !x3 && (x51 == 2) && x55) ((((iprop ((x51 == 2) && (x58 == 4) && x54) ((L.set 23 (.bool false)).set 34 (.bool false))).set 39 (.bool (x39 || x52))).set 40 (.bool (x40 || x53))).set 22 (.bool v22))).set 47 (.bool v47))∧wx.heap[H0]?=some (.cells #[.pointer (some ⟨G,o,none⟩),.bool rst] 110 (0,0))∧Pm G o w wx)
  case rest =>
   obtain⟨hp,hh,hm⟩:=hcut
   rename World=>z8
   have hP_z8:Pv z8 G o ((iagr (rst && !x3 && (x51 == 2) && x55) ((((iprop ((x51 == 2) && (x58 == 4) && x54) ((L.set 23 (.bool false)).set 34 (.bool false))).set 39 (.bool (x39 || x52))).set 40 (.bool (x40 || x53))).set 22 (.bool v22))).set 47 (.bool v47)):=hp
   have hH_z8:z8.heap[H0]?=some (.cells #[.pointer (some ⟨G,o,none⟩),.bool rst] 110 (0,0)):=hh
   have E_z8:Pm G o w z8:=hm
   have rH0_z8:z8.cell? ⟨H0,0,none⟩=some (.pointer (some ⟨G,o,none⟩)):=(cell_of_row _ _ _ _ _ _ hH_z8).trans rfl
   have rH1_z8:z8.cell? ⟨H0,1,none⟩=some (.bool rst):=(cell_of_row _ _ _ _ _ _ hH_z8).trans rfl
   clear hH_z7 hP_z7 E_z7 rH0_z7 rH1_z7 p23_z7 p47_z7
   clear hp hh hm
   have hv22:=HV22.out
   go_wp2_with fail
   refine beginW (S:=fun W'=>Ext z8 W') (S2:=fun W'=>Pm G o z8 W') 18 (by kernel_rfl) ?_
   intro wd hqx
   have hq0:Ext z8 wd:=hqx
   refine tWp 0 18 ((.pointer (some ⟨H0,0,none⟩))) rfl rfl hq0 ?_
   refine tW 1 18 (_) rfl rfl (yieldsIf_cell rfl 79 _ rfl ⟨H0,0,none⟩ rfl (.pointer (some ⟨G,o,none⟩)) _ (fun W' hW'=>(cell_of_row _ _ _ _ _ _ ((hW'.block _ (heap_lt hH_z8)).trans hH_z8)).trans rfl) Tryz.underlying79 rfl) hq0 ?_
   refine tVp 2 18 ((.pointer (some ⟨H0,0,none⟩))) rfl hq0 ?_
   refine tV 3 18 (_) rfl (yieldsIf_cell rfl 79 _ rfl ⟨H0,0,none⟩ rfl (.pointer (some ⟨G,o,none⟩)) _ (fun W' hW'=>(cell_of_row _ _ _ _ _ _ (Pm.row hW' hH_z8 (show H0≠G by omega))).trans rfl) Tryz.underlying79 rfl) hq0 ?_
   refine tWp 4 18 ((.pointer (some ⟨H0,0,none⟩))) rfl rfl hq0 ?_
   refine tW 5 18 (_) rfl rfl (yieldsIf_cell rfl 79 _ rfl ⟨H0,0,none⟩ rfl (.pointer (some ⟨G,o,none⟩)) _ (fun W' hW'=>(cell_of_row _ _ _ _ _ _ ((hW'.block _ (heap_lt hH_z8)).trans hH_z8)).trans rfl) Tryz.underlying79 rfl) hq0 ?_
   refine tWp 6 18 ((.pointer (some ⟨G,o,none⟩))) rfl rfl hq0 ?_
   refine tWp 7 18 ((.pointer (some ⟨G,o+51,none⟩))) rfl rfl hq0 ?_
   refine tWp 8 18 ((.pointer (some ⟨G,o+59,none⟩))) rfl rfl hq0 ?_
   refine tW 9 18 (_) rfl rfl (yieldsIf_load_mid rfl 30 _ rfl G (o+59) rfl ([.int .u64 x59,.int .u32 x60,.int .u64 x61,.int .u16 x62,.int .u16 x63]) _ (fun W' hW'=>(hP_z8.ext hW').range (j:=59) (n:=5) ((seg_ne (by decide)).trans ((seg_fn (fun i h1 h2=>iagr_ne (by omega) (by omega))).trans ((seg_ne (by decide)).trans ((seg_ne (by decide)).trans ((seg_ne (by decide)).trans ((seg_fn (fun i h1 h2=>iprop_ne (by omega))).trans ((seg_ne (by decide)).trans ((seg_ne (by decide)).trans HS_59.out)))))))) (by decide)) Tryz.underlying30 rfl (by kernel_rfl)) hq0 ?_
   refine tVp 10 18 ((.pointer (some ⟨H0,0,none⟩))) rfl hq0 ?_
   refine tV 11 18 (_) rfl (yieldsIf_cell rfl 79 _ rfl ⟨H0,0,none⟩ rfl (.pointer (some ⟨G,o,none⟩)) _ (fun W' hW'=>(cell_of_row _ _ _ _ _ _ (Pm.row hW' hH_z8 (show H0≠G by omega))).trans rfl) Tryz.underlying79 rfl) hq0 ?_
   refine tVp 12 18 ((.pointer (some ⟨G,o,none⟩))) rfl hq0 ?_
   refine tVp 13 18 ((.pointer (some ⟨G,o+51,none⟩))) rfl hq0 ?_
   refine tVp 14 18 ((.pointer (some ⟨G,o+64,none⟩))) rfl hq0 ?_
   refine tW 15 18 (_) rfl rfl (yieldsIf_load_mid rfl 24 _ rfl G (o+64) rfl ([.int .i64 x64,.int .i64 x65,.int .i64 x66,.int .i64 x67]) _ (fun W' hW'=>(hP_z8.ext hW').range (j:=64) (n:=4) ((seg_ne (by decide)).trans ((seg_fn (fun i h1 h2=>iagr_ne (by omega) (by omega))).trans ((seg_ne (by decide)).trans ((seg_ne (by decide)).trans ((seg_ne (by decide)).trans ((seg_fn (fun i h1 h2=>iprop_ne (by omega))).trans ((seg_ne (by decide)).trans ((seg_ne (by decide)).trans HS_64.out)))))))) (by decide)) Tryz.underlying24 rfl (by kernel_rfl)) hq0 ?_
   refine tVp 16 18 ((.pointer (some ⟨G,o,none⟩))) rfl hq0 ?_
   refine tWp 17 18 ((.pointer (some ⟨G,o+68,none⟩))) rfl rfl hq0 ?_
   refine runWl (z:=18) rfl rfl (by kernel_rfl) (fun K hK=>?_)
   refine wp_st_pv rfl 30 _ _ rfl G o 68 _ (hP_z8.ext hq0) _ #[.int .u64 x59,.int .u32 x60,.int .u64 x61,.int .u16 x62,.int .u16 x63] rfl rfl rfl (by exact(by decide:68+5≤89)) (by kernel_rfl) rfl (fun ws18 hp18 hm18=>?_)
   have hr18:Pm G o z8 ws18:=(Ext.pm hq0 G o).trans hm18
   refine hK.out _ _ hr18 (fun _=>?_)
   try simp only[ps]
   clear hK K
   refine tLp 19 ((.pointer (some ⟨G,o,none⟩))) rfl hr18 ?_
   refine tLp 20 ((.pointer (some ⟨G,o+78,none⟩))) rfl hr18 ?_
   refine runL (i:=21) rfl rfl (by kernel_rfl) (fun K hK=>?_)
   refine wp_st_pv rfl 24 _ _ rfl G o 78 _ hp18 _ #[.int .i64 x64,.int .i64 x65,.int .i64 x66,.int .i64 x67] rfl rfl rfl (by exact(by decide:78+4≤89)) (by kernel_rfl) rfl (fun ws21 hp21 hm21=>?_)
   have hr21:Pm G o z8 ws21:=hr18.trans hm21
   refine hK.out _ _ hr21 (fun _=>?_)
   try simp only[ps]
   clear hK K
   refine wpAnyH_done (by kernel_rfl) ?_ _
   generalize ws21=z9 at *
   have hP_z9:Pv z9 G o (setL (setL ((iagr (rst && !x3 && (x51 == 2) && x55) ((((iprop ((x51 == 2) && (x58 == 4) && x54) ((L.set 23 (.bool false)).set 34 (.bool false))).set 39 (.bool (x39 || x52))).set 40 (.bool (x40 || x53))).set 22 (.bool v22))).set 47 (.bool v47)) 68 [.int .u64 x59,.int .u32 x60,.int .u64 x61,.int .u16 x62,.int .u16 x63]) 78 [.int .i64 x64,.int .i64 x65,.int .i64 x66,.int .i64 x67]):=hp21
   have hH_z9:z9.heap[H0]?=some (.cells #[.pointer (some ⟨G,o,none⟩),.bool rst] 110 (0,0)):=(hm21.row (hm18.row ((hq0.block _ (heap_lt hH_z8)).trans hH_z8) (show H0≠G by omega)) (show H0≠G by omega))
   have E_z9:Pm G o w z9:=((E_z8.ext hq0).trans hm18).trans hm21
   have rH0_z9:z9.cell? ⟨H0,0,none⟩=some (.pointer (some ⟨G,o,none⟩)):=(cell_of_row _ _ _ _ _ _ hH_z9).trans rfl
   have rH1_z9:z9.cell? ⟨H0,1,none⟩=some (.bool rst):=(cell_of_row _ _ _ _ _ _ hH_z9).trans rfl
   clear hH_z8 hP_z8 E_z8 rH0_z8 rH1_z8
   clear hq0 hqx hm18 hm21 hp18 hp21 hr18 hr21
   go_wp2_with (first
    | fail
    | ((with_reducible refine at_load 110 ?_);refine wpList_load_row rfl 110 _ rfl H0 rfl 110 #[.pointer (some ⟨G,o,none⟩),.bool rst] (0,0) _ hH_z9 Tryz.underlying110 rfl (by kernel_rfl) ?_))
   refine(inf_keep G o _ hP_z9 (len_setL (len_setL (len_set' (iagr_len (len_set' (len_set' (len_set' (iprop_len (len_set' (len_set' HLEN.out)))))))) (by exact(by decide:68+5≤89))) (by exact(by decide:78+4≤89))) rst _ ((get_out (len_setL (len_set' (iagr_len (len_set' (len_set' (len_set' (iprop_len (len_set' (len_set' HLEN.out)))))))) (by exact(by decide:68+5≤89))) (by exact(by decide:78+4≤89)) (by exact(by decide:64<78∨78+4≤64))).trans ((get_out (len_set' (iagr_len (len_set' (len_set' (len_set' (iprop_len (len_set' (len_set' HLEN.out)))))))) (by exact(by decide:68+5≤89)) (by exact(by decide:64<68∨68+5≤64))).trans ((get_ne (by decide)).trans ((iagr_ne (by decide) (by decide)).trans ((get_ne (by decide)).trans ((get_ne (by decide)).trans ((get_ne (by decide)).trans ((iprop_ne (by decide)).trans ((get_ne (by decide)).trans ((get_ne (by decide)).trans HL_64.out)))))))))) _ ((get_out (len_setL (len_set' (iagr_len (len_set' (len_set' (len_set' (iprop_len (len_set' (len_set' HLEN.out)))))))) (by exact(by decide:68+5≤89))) (by exact(by decide:78+4≤89)) (by exact(by decide:65<78∨78+4≤65))).trans ((get_out (len_set' (iagr_len (len_set' (len_set' (len_set' (iprop_len (len_set' (len_set' HLEN.out)))))))) (by exact(by decide:68+5≤89)) (by exact(by decide:65<68∨68+5≤65))).trans ((get_ne (by decide)).trans ((iagr_ne (by decide) (by decide)).trans ((get_ne (by decide)).trans ((get_ne (by decide)).trans ((get_ne (by decide)).trans ((iprop_ne (by decide)).trans ((get_ne (by decide)).trans ((get_ne (by decide)).trans HL_65.out)))))))))) _ ((get_out (len_setL (len_set' (iagr_len (len_set' (len_set' (len_set' (iprop_len (len_set' (len_set' HLEN.out)))))))) (by exact(by decide:68+5≤89))) (by exact(by decide:78+4≤89)) (by exact(by decide:66<78∨78+4≤66))).trans ((get_out (len_set' (iagr_len (len_set' (len_set' (len_set' (iprop_len (len_set' (len_set' HLEN.out)))))))) (by exact(by decide:68+5≤89)) (by exact(by decide:66<68∨68+5≤66))).trans ((get_ne (by decide)).trans ((iagr_ne (by decide) (by decide)).trans ((get_ne (by decide)).trans ((get_ne (by decide)).trans ((get_ne (by decide)).trans ((iprop_ne (by decide)).trans ((get_ne (by decide)).trans ((get_ne (by decide)).trans HL_66.out)))))))))) _ ((get_out (len_setL (len_set' (iagr_len (len_set' (len_set' (len_set' (iprop_len (len_set' (len_set' HLEN.out)))))))) (by exact(by decide:68+5≤89))) (by exact(by decide:78+4≤89)) (by exact(by decide:67<78∨78+4≤67))).trans ((get_out (len_set' (iagr_len (len_set' (len_set' (len_set' (iprop_len (len_set' (len_set' HLEN.out)))))))) (by exact(by decide:68+5≤89)) (by exact(by decide:67<68∨68+5≤67))).trans ((get_ne (by decide)).trans ((iagr_ne (by decide) (by decide)).trans ((get_ne (by decide)).trans ((get_ne (by decide)).trans ((get_ne (by decide)).trans ((iprop_ne (by decide)).trans ((get_ne (by decide)).trans ((get_ne (by decide)).trans HL_67.out)))))))))) r1 r2 r3 r4 r5 r6).mono ?_
   rintro e z10 ⟨rfl,hp,hm⟩
   have hP_z10:Pv z10 G o ((setL (setL ((iagr (rst && !x3 && (x51 == 2) && x55) ((((iprop ((x51 == 2) && (x58 == 4) && x54) ((L.set 23 (.bool false)).set 34 (.bool false))).set 39 (.bool (x39 || x52))).set 40 (.bool (x40 || x53))).set 22 (.bool v22))).set 47 (.bool v47)) 68 [.int .u64 x59,.int .u32 x60,.int .u64 x61,.int .u16 x62,.int .u16 x63]) 78 [.int .i64 x64,.int .i64 x65,.int .i64 x66,.int .i64 x67]).set 11 (.int .i64 (waitsV x64 x65 x66))):=hp
   have hH_z10:=hm.row hH_z9 (show H0≠G by omega)
   have E_z10:Pm G o w z10:=E_z9.trans hm
   have rH0_z10:z10.cell? ⟨H0,0,none⟩=some (.pointer (some ⟨G,o,none⟩)):=(cell_of_row _ _ _ _ _ _ hH_z10).trans rfl
   have rH1_z10:z10.cell? ⟨H0,1,none⟩=some (.bool rst):=(cell_of_row _ _ _ _ _ _ hH_z10).trans rfl
   clear hH_z9 hP_z9 E_z9 rH0_z9 rH1_z9
   clear hp hm
   go_wp2_with (first
    | fail
    | ((with_reducible refine at_store 3 ?_);refine st_pv rfl rfl 3 _ _ rfl G o 86 _ hP_z10 _ #[.int .i64 3] rfl rfl rfl (by exact(by decide:86+1≤89)) (by kernel_rfl) rfl ?_
       intro z11 hp hm
       replace hp:=pv_one hp (len_set' (len_setL (len_setL (len_set' (iagr_len (len_set' (len_set' (len_set' (iprop_len (len_set' (len_set' HLEN.out)))))))) (by exact(by decide:68+5≤89))) (by exact(by decide:78+4≤89)))) (by decide)
       have hP_z11:=hp
       have hH_z11:=hm.row hH_z10 (show H0≠G by omega)
       have E_z11:Pm G o w z11:=E_z10.trans hm
       have rH0_z11:z11.cell? ⟨H0,0,none⟩=some (.pointer (some ⟨G,o,none⟩)):=(cell_of_row _ _ _ _ _ _ hH_z11).trans rfl
       have rH1_z11:z11.cell? ⟨H0,1,none⟩=some (.bool rst):=(cell_of_row _ _ _ _ _ _ hH_z11).trans rfl
       clear hH_z10 hP_z10 E_z10 rH0_z10 rH1_z10
       clear hp hm)
    | ((with_reducible refine at_load 110 ?_);refine wpList_load_row rfl 110 _ rfl H0 rfl 110 #[.pointer (some ⟨G,o,none⟩),.bool rst] (0,0) _ hH_z11 Tryz.underlying110 rfl (by kernel_rfl) ?_))
   refine(inf_ask G o _ hP_z11 (len_set' (len_set' (len_setL (len_setL (len_set' (iagr_len (len_set' (len_set' (len_set' (iprop_len (len_set' (len_set' HLEN.out)))))))) (by exact(by decide:68+5≤89))) (by exact(by decide:78+4≤89))))) rst).mono ?_
   rintro e z12 ⟨rfl,hp,hm⟩
   have hP_z12:Pv z12 G o (((((setL (setL ((iagr (rst && !x3 && (x51 == 2) && x55) ((((iprop ((x51 == 2) && (x58 == 4) && x54) ((L.set 23 (.bool false)).set 34 (.bool false))).set 39 (.bool (x39 || x52))).set 40 (.bool (x40 || x53))).set 22 (.bool v22))).set 47 (.bool v47)) 68 [.int .u64 x59,.int .u32 x60,.int .u64 x61,.int .u16 x62,.int .u16 x63]) 78 [.int .i64 x64,.int .i64 x65,.int .i64 x66,.int .i64 x67]).set 11 (.int .i64 (waitsV x64 x65 x66))).set 86 (.int .i64 3)).set 43 (.bool true)).set 44 (.bool false)):=hp
   have hH_z12:=hm.row hH_z11 (show H0≠G by omega)
   have E_z12:Pm G o w z12:=E_z11.trans hm
   have rH0_z12:z12.cell? ⟨H0,0,none⟩=some (.pointer (some ⟨G,o,none⟩)):=(cell_of_row _ _ _ _ _ _ hH_z12).trans rfl
   have rH1_z12:z12.cell? ⟨H0,1,none⟩=some (.bool rst):=(cell_of_row _ _ _ _ _ _ hH_z12).trans rfl
   clear hH_z11 hP_z11 E_z11 rH0_z11 rH1_z11
   clear hp hm
   go_wp2_with fail
   subst hv22
   subst hv47
   go_end0
   exact⟨rfl,hP_z12,E_z12⟩
  cases x47
  ·subst hv47
   go_wp2_with (first
    | fail
    | ((with_reducible refine at_store 4 ?_);refine st_pv rfl rfl 4 _ _ rfl G o 47 _ hP_z7 _ #[.bool false] rfl rfl rfl (by exact(by decide:47+1≤89)) (by kernel_rfl) rfl ?_
       intro z8 hp hm
       replace hp:=pv_one hp (iagr_len (len_set' (len_set' (len_set' (iprop_len (len_set' (len_set' HLEN.out))))))) (by decide)
       have hP_z8:=hp
       have hH_z8:=hm.row hH_z7 (show H0≠G by omega)
       have E_z8:Pm G o w z8:=E_z7.trans hm
       have rH0_z8:z8.cell? ⟨H0,0,none⟩=some (.pointer (some ⟨G,o,none⟩)):=(cell_of_row _ _ _ _ _ _ hH_z8).trans rfl
       have rH1_z8:z8.cell? ⟨H0,1,none⟩=some (.bool rst):=(cell_of_row _ _ _ _ _ _ hH_z8).trans rfl
       clear hH_z7 hP_z7 E_z7 rH0_z7 rH1_z7 p23_z7 p47_z7
       clear hp hm))
   go_wp2_with fail
   go_meet
   exact⟨hP_z8,hH_z8,E_z8⟩
  ·subst hv47
   go_wp2_with (first
    | fail
    | ((with_reducible refine at_store 4 ?_);refine st_pv rfl rfl 4 _ _ rfl G o 47 _ hP_z7 _ #[.bool (rst && !x3 && (x51 == 2) && x55)] rfl rfl rfl (by exact(by decide:47+1≤89)) (by kernel_rfl) rfl ?_
       intro z8 hp hm
       replace hp:=pv_one hp (iagr_len (len_set' (len_set' (len_set' (iprop_len (len_set' (len_set' HLEN.out))))))) (by decide)
       have hP_z8:=hp
       have hH_z8:=hm.row hH_z7 (show H0≠G by omega)
       have E_z8:Pm G o w z8:=E_z7.trans hm
       have rH0_z8:z8.cell? ⟨H0,0,none⟩=some (.pointer (some ⟨G,o,none⟩)):=(cell_of_row _ _ _ _ _ _ hH_z8).trans rfl
       have rH1_z8:z8.cell? ⟨H0,1,none⟩=some (.bool rst):=(cell_of_row _ _ _ _ _ _ hH_z8).trans rfl
       clear hH_z7 hP_z7 E_z7 rH0_z7 rH1_z7 p23_z7 p47_z7
       clear hp hm))
   go_wp2_with fail
   go_meet
   exact⟨hP_z8,hH_z8,E_z8⟩
 cases x22
 ·subst hv22
  refine beginW (S:=fun W'=>Ext z5 W') (S2:=fun W'=>Pm G o z5 W') 30 (by kernel_rfl) ?_
  intro wd hqx
  have hq0:Ext z5 wd:=hqx
  refine tWp 0 30 ((.pointer (some ⟨G,o+22,none⟩))) rfl rfl hq0 ?_
  refine tWp 1 30 ((.pointer (some ⟨G,o+22,none⟩))) rfl rfl hq0 ?_
  refine tWp 2 30 ((.pointer (some ⟨G,o+22,none⟩))) rfl rfl hq0 ?_
  refine tWp 3 30 ((.pointer (some ⟨G,o+22,none⟩))) rfl rfl hq0 ?_
  refine tW 4 30 (_) rfl rfl (yieldsIf_cell rfl 4 _ rfl ⟨G,o+22,none⟩ rfl (.bool false) _ (fun W' hW'=>((hP_z5.ext hW').cell (j:=22) (by decide)).trans ((get_ne (by decide)).trans ((get_ne (by decide)).trans ((iprop_ne (by decide)).trans ((get_ne (by decide)).trans ((get_ne (by decide)).trans HL_22.out)))))) Tryz.underlying4 rfl) hq0 ?_
  refine tWp 5 30 ((.bool false)) rfl rfl hq0 ?_
  refine tW 6 30 (undef) rfl rfl (Or.inr ⟨rfl,rfl⟩) hq0 ?_
  refine tW 7 30 (undef) rfl rfl (Or.inr ⟨rfl,rfl⟩) hq0 ?_
  refine tW 8 30 (undef) rfl rfl (Or.inr ⟨rfl,rfl⟩) hq0 ?_
  refine tW 9 30 (undef) rfl rfl (Or.inr ⟨rfl,rfl⟩) hq0 ?_
  refine tW 10 30 (undef) rfl rfl (Or.inr ⟨rfl,rfl⟩) hq0 ?_
  refine tW 11 30 (undef) rfl rfl (Or.inr ⟨rfl,rfl⟩) hq0 ?_
  refine tWp 12 30 ((.bool false)) rfl rfl hq0 ?_
  refine tWp 13 30 ((.bool false)) rfl rfl hq0 ?_
  refine tW 14 30 (undef) rfl rfl (Or.inr ⟨rfl,rfl⟩) hq0 ?_
  refine tW 15 30 (undef) rfl rfl (Or.inr ⟨rfl,rfl⟩) hq0 ?_
  refine tW 16 30 (undef) rfl rfl (Or.inr ⟨rfl,rfl⟩) hq0 ?_
  refine tW 17 30 (undef) rfl rfl (Or.inr ⟨rfl,rfl⟩) hq0 ?_
  refine tW 18 30 (undef) rfl rfl (Or.inr ⟨rfl,rfl⟩) hq0 ?_
  refine tW 19 30 (undef) rfl rfl (Or.inr ⟨rfl,rfl⟩) hq0 ?_
  refine tW 20 30 (undef) rfl rfl (Or.inr ⟨rfl,rfl⟩) hq0 ?_
  refine tW 21 30 (undef) rfl rfl (Or.inr ⟨rfl,rfl⟩) hq0 ?_
  refine tW 22 30 (undef) rfl rfl (Or.inr ⟨rfl,rfl⟩) hq0 ?_
  refine tW 23 30 (undef) rfl rfl (Or.inr ⟨rfl,rfl⟩) hq0 ?_
  refine tW 24 30 (undef) rfl rfl (Or.inr ⟨rfl,rfl⟩) hq0 ?_
  refine tW 25 30 (undef) rfl rfl (Or.inr ⟨rfl,rfl⟩) hq0 ?_
  refine tW 26 30 (undef) rfl rfl (Or.inr ⟨rfl,rfl⟩) hq0 ?_
  refine tWp 27 30 ((.bool false)) rfl rfl hq0 ?_
  refine tVp 28 30 ((.pointer (some ⟨G,o+22,none⟩))) rfl hq0 ?_
  refine tWp 29 30 ((.pointer (some ⟨G,o+22,none⟩))) rfl rfl hq0 ?_
  refine runWl (z:=30) rfl rfl (by kernel_rfl) (fun K hK=>?_)
  refine wp_st_pv rfl 4 _ _ rfl G o 22 _ (hP_z5.ext hq0) _ #[.bool false] rfl rfl rfl (by exact(by decide:22+1≤89)) (by kernel_rfl) rfl (fun ws30 hp30 hm30=>?_)
  replace hp30:=pv_one hp30 (len_set' (len_set' (iprop_len (len_set' (len_set' HLEN.out))))) (by decide)
  have hr30:Pm G o z5 ws30:=(Ext.pm hq0 G o).trans hm30
  refine hK.out _ _ hr30 (fun _=>?_)
  try simp only[ps]
  clear hK K
  refine wpAnyH_done (by kernel_rfl) ?_ _
  generalize ws30=z6 at *
  have hP_z6:Pv z6 G o ((((iprop ((x51 == 2) && (x58 == 4) && x54) ((L.set 23 (.bool false)).set 34 (.bool false))).set 39 (.bool (x39 || x52))).set 40 (.bool (x40 || x53))).set 22 (.bool false)):=hp30
  have hH_z6:z6.heap[H0]?=some (.cells #[.pointer (some ⟨G,o,none⟩),.bool rst] 110 (0,0)):=(hm30.row ((hq0.block _ (heap_lt hH_z5)).trans hH_z5) (show H0≠G by omega))
  have E_z6:Pm G o w z6:=(E_z5.ext hq0).trans hm30
  have rH0_z6:z6.cell? ⟨H0,0,none⟩=some (.pointer (some ⟨G,o,none⟩)):=(cell_of_row _ _ _ _ _ _ hH_z6).trans rfl
  have rH1_z6:z6.cell? ⟨H0,1,none⟩=some (.bool rst):=(cell_of_row _ _ _ _ _ _ hH_z6).trans rfl
  clear hH_z5 hP_z5 E_z5 rH0_z5 rH1_z5
  clear hq0 hqx hm30 hp30 hr30
  go_wp2_with fail
  go_meet
  exact⟨hP_z6,hH_z6,E_z6⟩
 ·by_cases e86:x86=3
  ·subst e86
   subst hv22
   refine beginW (S:=fun W'=>Ext z5 W') (S2:=fun W'=>Pm G o z5 W') 30 (by kernel_rfl) ?_
   intro wd hqx
   have hq0:Ext z5 wd:=hqx
   refine tWp 0 30 ((.pointer (some ⟨G,o+22,none⟩))) rfl rfl hq0 ?_
   refine tWp 1 30 ((.pointer (some ⟨G,o+22,none⟩))) rfl rfl hq0 ?_
   refine tWp 2 30 ((.pointer (some ⟨G,o+22,none⟩))) rfl rfl hq0 ?_
   refine tWp 3 30 ((.pointer (some ⟨G,o+22,none⟩))) rfl rfl hq0 ?_
   refine tW 4 30 (_) rfl rfl (yieldsIf_cell rfl 4 _ rfl ⟨G,o+22,none⟩ rfl (.bool true) _ (fun W' hW'=>((hP_z5.ext hW').cell (j:=22) (by decide)).trans ((get_ne (by decide)).trans ((get_ne (by decide)).trans ((iprop_ne (by decide)).trans ((get_ne (by decide)).trans ((get_ne (by decide)).trans HL_22.out)))))) Tryz.underlying4 rfl) hq0 ?_
   refine tWp 5 30 ((.bool true)) rfl rfl hq0 ?_
   refine tWp 6 30 ((.pointer (some ⟨H0,0,none⟩))) rfl rfl hq0 ?_
   refine tW 7 30 (_) rfl rfl (yieldsIf_cell rfl 79 _ rfl ⟨H0,0,none⟩ rfl (.pointer (some ⟨G,o,none⟩)) _ (fun W' hW'=>(cell_of_row _ _ _ _ _ _ ((hW'.block _ (heap_lt hH_z5)).trans hH_z5)).trans rfl) Tryz.underlying79 rfl) hq0 ?_
   refine tWp 8 30 ((.pointer (some ⟨G,o,none⟩))) rfl rfl hq0 ?_
   refine tWp 9 30 ((.pointer (some ⟨G,o+86,none⟩))) rfl rfl hq0 ?_
   refine tW 10 30 (_) rfl rfl (yieldsIf_cell rfl 3 _ rfl ⟨G,o+86,none⟩ rfl (.int .i64 3) _ (fun W' hW'=>((hP_z5.ext hW').cell (j:=86) (by decide)).trans ((get_ne (by decide)).trans ((get_ne (by decide)).trans ((iprop_ne (by decide)).trans ((get_ne (by decide)).trans ((get_ne (by decide)).trans HL_86.out)))))) Tryz.underlying3 rfl) hq0 ?_
   refine tW 11 30 ((.bool true)) rfl rfl (Or.inl ⟨rfl,fun W' _=>by go_simp⟩) hq0 ?_
   refine tWp 12 30 ((.bool true)) rfl rfl hq0 ?_
   refine tWp 13 30 ((.bool true)) rfl rfl hq0 ?_
   refine tWp 14 30 ((.pointer (some ⟨H0,0,none⟩))) rfl rfl hq0 ?_
   refine tW 15 30 (_) rfl rfl (yieldsIf_cell rfl 79 _ rfl ⟨H0,0,none⟩ rfl (.pointer (some ⟨G,o,none⟩)) _ (fun W' hW'=>(cell_of_row _ _ _ _ _ _ ((hW'.block _ (heap_lt hH_z5)).trans hH_z5)).trans rfl) Tryz.underlying79 rfl) hq0 ?_
   refine tWp 16 30 ((.pointer (some ⟨G,o,none⟩))) rfl rfl hq0 ?_
   refine tWp 17 30 ((.pointer (some ⟨G,o+68,none⟩))) rfl rfl hq0 ?_
   refine tW 18 30 (_) rfl rfl (yieldsIf_load_mid rfl 30 _ rfl G (o+68) rfl ([.int .u64 x68,.int .u32 x69,.int .u64 x70,.int .u16 x71,.int .u16 x72]) _ (fun W' hW'=>(hP_z5.ext hW').range (j:=68) (n:=5) ((seg_ne (by decide)).trans ((seg_ne (by decide)).trans ((seg_fn (fun i h1 h2=>iprop_ne (by omega))).trans ((seg_ne (by decide)).trans ((seg_ne (by decide)).trans HS_68.out))))) (by decide)) Tryz.underlying30 rfl (by kernel_rfl)) hq0 ?_
   refine tWp 19 30 ((.pointer (some ⟨H0,0,none⟩))) rfl rfl hq0 ?_
   refine tW 20 30 (_) rfl rfl (yieldsIf_cell rfl 79 _ rfl ⟨H0,0,none⟩ rfl (.pointer (some ⟨G,o,none⟩)) _ (fun W' hW'=>(cell_of_row _ _ _ _ _ _ ((hW'.block _ (heap_lt hH_z5)).trans hH_z5)).trans rfl) Tryz.underlying79 rfl) hq0 ?_
   refine tWp 21 30 ((.pointer (some ⟨G,o,none⟩))) rfl rfl hq0 ?_
   refine tWp 22 30 ((.pointer (some ⟨G,o+51,none⟩))) rfl rfl hq0 ?_
   refine tWp 23 30 ((.pointer (some ⟨G,o+59,none⟩))) rfl rfl hq0 ?_
   refine tW 24 30 (_) rfl rfl (yieldsIf_load_mid rfl 30 _ rfl G (o+59) rfl ([.int .u64 x59,.int .u32 x60,.int .u64 x61,.int .u16 x62,.int .u16 x63]) _ (fun W' hW'=>(hP_z5.ext hW').range (j:=59) (n:=5) ((seg_ne (by decide)).trans ((seg_ne (by decide)).trans ((seg_fn (fun i h1 h2=>iprop_ne (by omega))).trans ((seg_ne (by decide)).trans ((seg_ne (by decide)).trans HS_59.out))))) (by decide)) Tryz.underlying30 rfl (by kernel_rfl)) hq0 ?_
   refine runWG (i:=25) rfl (by rfl) (by kernel_rfl) (fun _ h=>Ext.pm h G o) (fun K hK=>?_)
   go_simp
   refine(better_any _ _ _ _ _ _ _ _ _ _ _).mono ?_
   rintro e wc1 ⟨rfl,hx⟩
   have hq1:=hq0.trans hx
   clear hx
   refine hK.out _ _ hq1 (fun hHeld=>?_)
   try simp only[ps]
   clear hK K hHeld
   refine tW 26 30 ((.bool (!(decide ((c4 x68 x69 x70 x71 x59 x60 x61 x62)<0))))) rfl rfl (Or.inl ⟨rfl,fun W' _=>by go_simp⟩) hq1 ?_
   refine tWp 27 30 ((.bool (!(decide ((c4 x68 x69 x70 x71 x59 x60 x61 x62)<0))))) rfl rfl hq1 ?_
   refine tVp 28 30 ((.pointer (some ⟨G,o+22,none⟩))) rfl hq1 ?_
   refine tWp 29 30 ((.pointer (some ⟨G,o+22,none⟩))) rfl rfl hq1 ?_
   refine runWl (z:=30) rfl rfl (by kernel_rfl) (fun K hK=>?_)
   refine wp_st_pv rfl 4 _ _ rfl G o 22 _ (hP_z5.ext hq1) _ #[.bool (!(decide ((c4 x68 x69 x70 x71 x59 x60 x61 x62)<0)))] rfl rfl rfl (by exact(by decide:22+1≤89)) (by kernel_rfl) rfl (fun ws30 hp30 hm30=>?_)
   replace hp30:=pv_one hp30 (len_set' (len_set' (iprop_len (len_set' (len_set' HLEN.out))))) (by decide)
   have hr30:Pm G o z5 ws30:=(Ext.pm hq1 G o).trans hm30
   refine hK.out _ _ hr30 (fun _=>?_)
   try simp only[ps]
   clear hK K
   refine wpAnyH_done (by kernel_rfl) ?_ _
   generalize ws30=z6 at *
   have hP_z6:Pv z6 G o ((((iprop ((x51 == 2) && (x58 == 4) && x54) ((L.set 23 (.bool false)).set 34 (.bool false))).set 39 (.bool (x39 || x52))).set 40 (.bool (x40 || x53))).set 22 (.bool (!(decide ((c4 x68 x69 x70 x71 x59 x60 x61 x62)<0))))):=hp30
   have hH_z6:z6.heap[H0]?=some (.cells #[.pointer (some ⟨G,o,none⟩),.bool rst] 110 (0,0)):=(hm30.row ((hq1.block _ (heap_lt hH_z5)).trans hH_z5) (show H0≠G by omega))
   have E_z6:Pm G o w z6:=(E_z5.ext hq1).trans hm30
   have rH0_z6:z6.cell? ⟨H0,0,none⟩=some (.pointer (some ⟨G,o,none⟩)):=(cell_of_row _ _ _ _ _ _ hH_z6).trans rfl
   have rH1_z6:z6.cell? ⟨H0,1,none⟩=some (.bool rst):=(cell_of_row _ _ _ _ _ _ hH_z6).trans rfl
   clear hH_z5 hP_z5 E_z5 rH0_z5 rH1_z5
   clear hq0 hq1 hqx hm30 hp30 hr30
   go_wp2_with fail
   go_meet
   exact⟨hP_z6,hH_z6,E_z6⟩
  ·have c3:(x86 == 3)=false:=by simpa using e86
   clear e86
   rw[c3]at hv22
   subst hv22
   refine beginW (S:=fun W'=>Ext z5 W') (S2:=fun W'=>Pm G o z5 W') 30 (by kernel_rfl) ?_
   intro wd hqx
   have hq0:Ext z5 wd:=hqx
   refine tWp 0 30 ((.pointer (some ⟨G,o+22,none⟩))) rfl rfl hq0 ?_
   refine tWp 1 30 ((.pointer (some ⟨G,o+22,none⟩))) rfl rfl hq0 ?_
   refine tWp 2 30 ((.pointer (some ⟨G,o+22,none⟩))) rfl rfl hq0 ?_
   refine tWp 3 30 ((.pointer (some ⟨G,o+22,none⟩))) rfl rfl hq0 ?_
   refine tW 4 30 (_) rfl rfl (yieldsIf_cell rfl 4 _ rfl ⟨G,o+22,none⟩ rfl (.bool true) _ (fun W' hW'=>((hP_z5.ext hW').cell (j:=22) (by decide)).trans ((get_ne (by decide)).trans ((get_ne (by decide)).trans ((iprop_ne (by decide)).trans ((get_ne (by decide)).trans ((get_ne (by decide)).trans HL_22.out)))))) Tryz.underlying4 rfl) hq0 ?_
   refine tWp 5 30 ((.bool true)) rfl rfl hq0 ?_
   refine tWp 6 30 ((.pointer (some ⟨H0,0,none⟩))) rfl rfl hq0 ?_
   refine tW 7 30 (_) rfl rfl (yieldsIf_cell rfl 79 _ rfl ⟨H0,0,none⟩ rfl (.pointer (some ⟨G,o,none⟩)) _ (fun W' hW'=>(cell_of_row _ _ _ _ _ _ ((hW'.block _ (heap_lt hH_z5)).trans hH_z5)).trans rfl) Tryz.underlying79 rfl) hq0 ?_
   refine tWp 8 30 ((.pointer (some ⟨G,o,none⟩))) rfl rfl hq0 ?_
   refine tWp 9 30 ((.pointer (some ⟨G,o+86,none⟩))) rfl rfl hq0 ?_
   refine tW 10 30 (_) rfl rfl (yieldsIf_cell rfl 3 _ rfl ⟨G,o+86,none⟩ rfl (.int .i64 x86) _ (fun W' hW'=>((hP_z5.ext hW').cell (j:=86) (by decide)).trans ((get_ne (by decide)).trans ((get_ne (by decide)).trans ((iprop_ne (by decide)).trans ((get_ne (by decide)).trans ((get_ne (by decide)).trans HL_86.out)))))) Tryz.underlying3 rfl) hq0 ?_
   refine tW 11 30 ((.bool false)) rfl rfl (Or.inl ⟨rfl,fun W' _=>by go_simp⟩) hq0 ?_
   refine tWp 12 30 ((.bool false)) rfl rfl hq0 ?_
   refine tWp 13 30 ((.bool false)) rfl rfl hq0 ?_
   refine tW 14 30 (undef) rfl rfl (Or.inr ⟨rfl,rfl⟩) hq0 ?_
   refine tW 15 30 (undef) rfl rfl (Or.inr ⟨rfl,rfl⟩) hq0 ?_
   refine tW 16 30 (undef) rfl rfl (Or.inr ⟨rfl,rfl⟩) hq0 ?_
   refine tW 17 30 (undef) rfl rfl (Or.inr ⟨rfl,rfl⟩) hq0 ?_
   refine tW 18 30 (undef) rfl rfl (Or.inr ⟨rfl,rfl⟩) hq0 ?_
   refine tW 19 30 (undef) rfl rfl (Or.inr ⟨rfl,rfl⟩) hq0 ?_
   refine tW 20 30 (undef) rfl rfl (Or.inr ⟨rfl,rfl⟩) hq0 ?_
   refine tW 21 30 (undef) rfl rfl (Or.inr ⟨rfl,rfl⟩) hq0 ?_
   refine tW 22 30 (undef) rfl rfl (Or.inr ⟨rfl,rfl⟩) hq0 ?_
   refine tW 23 30 (undef) rfl rfl (Or.inr ⟨rfl,rfl⟩) hq0 ?_
   refine tW 24 30 (undef) rfl rfl (Or.inr ⟨rfl,rfl⟩) hq0 ?_
   refine tW 25 30 (undef) rfl rfl (Or.inr ⟨rfl,rfl⟩) hq0 ?_
   refine tW 26 30 (undef) rfl rfl (Or.inr ⟨rfl,rfl⟩) hq0 ?_
   refine tWp 27 30 ((.bool false)) rfl rfl hq0 ?_
   refine tVp 28 30 ((.pointer (some ⟨G,o+22,none⟩))) rfl hq0 ?_
   refine tWp 29 30 ((.pointer (some ⟨G,o+22,none⟩))) rfl rfl hq0 ?_
   refine runWl (z:=30) rfl rfl (by kernel_rfl) (fun K hK=>?_)
   refine wp_st_pv rfl 4 _ _ rfl G o 22 _ (hP_z5.ext hq0) _ #[.bool false] rfl rfl rfl (by exact(by decide:22+1≤89)) (by kernel_rfl) rfl (fun ws30 hp30 hm30=>?_)
   replace hp30:=pv_one hp30 (len_set' (len_set' (iprop_len (len_set' (len_set' HLEN.out))))) (by decide)
   have hr30:Pm G o z5 ws30:=(Ext.pm hq0 G o).trans hm30
   refine hK.out _ _ hr30 (fun _=>?_)
   try simp only[ps]
   clear hK K
   refine wpAnyH_done (by kernel_rfl) ?_ _
   generalize ws30=z6 at *
   have hP_z6:Pv z6 G o ((((iprop ((x51 == 2) && (x58 == 4) && x54) ((L.set 23 (.bool false)).set 34 (.bool false))).set 39 (.bool (x39 || x52))).set 40 (.bool (x40 || x53))).set 22 (.bool false)):=hp30
   have hH_z6:z6.heap[H0]?=some (.cells #[.pointer (some ⟨G,o,none⟩),.bool rst] 110 (0,0)):=(hm30.row ((hq0.block _ (heap_lt hH_z5)).trans hH_z5) (show H0≠G by omega))
   have E_z6:Pm G o w z6:=(E_z5.ext hq0).trans hm30
   have rH0_z6:z6.cell? ⟨H0,0,none⟩=some (.pointer (some ⟨G,o,none⟩)):=(cell_of_row _ _ _ _ _ _ hH_z6).trans rfl
   have rH1_z6:z6.cell? ⟨H0,1,none⟩=some (.bool rst):=(cell_of_row _ _ _ _ _ _ hH_z6).trans rfl
   clear hH_z5 hP_z5 E_z5 rH0_z5 rH1_z5
   clear hq0 hqx hm30 hp30 hr30
   go_wp2_with fail
   go_meet
   exact⟨hP_z6,hH_z6,E_z6⟩
end Go.Proofs.YtpanapepcbbagaaGreat
