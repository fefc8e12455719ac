/- Part 7 of what BridgeRests stands on. No statement is proved here. -/
import Derived.Test.YtpanapepcbbagaaGreatBvd
import Derived.Test.YtpanapepcbbagaaGreatBvf
set_option linter.unusedVariables false
set_option linter.unusedSimpArgs false
set_option maxRecDepth 100000
set_option maxHeartbeats 8000000
namespace Go.Proofs.YtpanapepcbbagaaGreat
open Go.RowKit Go.BigFrame Go.WideShapes Go.ChangeShapes Go.Deep
theorem wG{w:World}(G k:Nat)(L:List Value)(hP_w:Pv w G (k*89) L)(hl:L.length=89)(X:Nat)(id rp:Int)(np cap:Nat)(hid0:w.cell? ⟨X,0,none⟩=some (.int .u64 id))(hrp:w.cell? ⟨X,12,none⟩=some (.int .i64 rp))(h17:w.cell? ⟨X,17,none⟩=some (.slice (some ⟨G,0,none⟩) np cap))(hXl:X<w.heap.size)(hXG:X≠G)(hk:k<np)(hn:np<1000)(gid:0≤id∧id<18446744073709551616)(x68:Int)(h68:L[68]?=some (.int .u64 x68))(x69:Int)(h69:L[69]?=some (.int .u32 x69))(x70:Int)(h70:L[70]?=some (.int .u64 x70))(x71:Int)(h71:L[71]?=some (.int .u16 x71))(x72:Int)(h72:L[72]?=some (.int .u16 x72))(x73:Int)(h73:L[73]?=some (.int .u64 x73))(x74:Int)(h74:L[74]?=some (.int .u32 x74))(x75:Int)(h75:L[75]?=some (.int .u64 x75))(x76:Int)(h76:L[76]?=some (.int .u16 x76))(x77:Int)(h77:L[77]?=some (.int .u16 x77))(x78:Int)(h78:L[78]?=some (.int .i64 x78))(x79:Int)(h79:L[79]?=some (.int .i64 x79))(x80:Int)(h80:L[80]?=some (.int .i64 x80))(x81:Int)(h81:L[81]?=some (.int .i64 x81))(x82:Int)(h82:L[82]?=some (.int .i64 x82))(x83:Int)(h83:L[83]?=some (.int .i64 x83))(x84:Int)(h84:L[84]?=some (.int .i64 x84))(x85:Int)(h85:L[85]?=some (.int .i64 x85))(h86:L[86]?=some (.int .i64 3))(g70:0≤x70∧x70<18446744073709551616)(hrb:((k:Int) == rp)=true):Calls Tryz.prog 50 #[.pointer (some ⟨X,0,none⟩),.int .i64 k] w fun e w'=>e=.returned (.tuple #[])∧Pv w' G (k*89) ((L.set 88 (.int .i64 (kN k rp x70 id))).set 50 (.bool false))∧Pm G (k*89) w w':=by
 have hk8:k<1000:=by omega
 have hG:=hP_w.lt
 have HLEN:=hD hl
 have HL_68:=hD h68
 have HL_69:=hD h69
 have HL_70:=hD h70
 have HL_71:=hD h71
 have HL_72:=hD h72
 have HL_73:=hD h73
 have HL_74:=hD h74
 have HL_75:=hD h75
 have HL_76:=hD h76
 have HL_77:=hD h77
 have HL_78:=hD h78
 have HL_79:=hD h79
 have HL_80:=hD h80
 have HL_81:=hD h81
 have HL_82:=hD h82
 have HL_83:=hD h83
 have HL_84:=hD h84
 have HL_85:=hD h85
 have HL_86:=hD h86
 have HS_68:=hD (a7 (L:=L) (j:=68) (l:=[.int .u64 x68,.int .u32 x69,.int .u64 x70,.int .u16 x71,.int .u16 x72]) (by rw[hl];exact(by decide:68+5≤89)) (fun i hi=>by
  match i,hi with
  | 0,_=>exact HL_68.out
  | 1,_=>exact HL_69.out
  | 2,_=>exact HL_70.out
  | 3,_=>exact HL_71.out
  | 4,_=>exact HL_72.out
  | i+5,hi=>simp at hi;omega))
 have HS_73:=hD (a7 (L:=L) (j:=73) (l:=[.int .u64 x73,.int .u32 x74,.int .u64 x75,.int .u16 x76,.int .u16 x77]) (by rw[hl];exact(by decide:73+5≤89)) (fun i hi=>by
  match i,hi with
  | 0,_=>exact HL_73.out
  | 1,_=>exact HL_74.out
  | 2,_=>exact HL_75.out
  | 3,_=>exact HL_76.out
  | 4,_=>exact HL_77.out
  | i+5,hi=>simp at hi;omega))
 clear hl h68 h69 h70 h71 h72 h73 h74 h75 h76 h77 h78 h79 h80 h81 h82 h83 h84 h85 h86
 have H17:=hD h17
 have H12:=hD hrp
 have H0:=hD hid0
 go_enter Tryz.func50,Tryz.ntmps50
 have p86_w:w.cell? ⟨G,(k*89)+86,none⟩=some (.int .i64 3):=(hP_w.cell (j:=86) (by decide)).trans HL_86.out
 go_wp2_with fail
 refine aT (S:=fun W'=>Ext w W') (by kernel_rfl) ?_
 intro wd hqx
 have hq0:Ext w wd:=hqx
 refine bO 0 ((.int .i64 (k:Int))) rfl hq0 ?_
 refine aH 1 X 0 rfl hq0 ?_
 refine aH 2 X 0 rfl hq0 ?_
 refine aH 3 X 12 rfl hq0 ?_
 refine tL 4 (_) rfl (aA rfl 3 _ rfl ⟨X,12,none⟩ rfl (.int .i64 rp) _ (fun W' hW'=>(hW'.cell (p:=⟨X,12,none⟩) hXl).trans H12.out) Tryz.underlying3 rfl) hq0 ?_
 refine tL 5 ((.bool true)) rfl (Or.inl ⟨rfl,fun W' _=>by go_simp⟩) hq0 ?_
 refine bO 6 ((.bool true)) rfl hq0 ?_
 refine tL 7 (undef) rfl (Or.inr ⟨rfl,rfl⟩) hq0 ?_
 refine tL 8 (undef) rfl (Or.inr ⟨rfl,rfl⟩) hq0 ?_
 refine tL 9 (undef) rfl (Or.inr ⟨rfl,rfl⟩) hq0 ?_
 refine tL 10 (undef) rfl (Or.inr ⟨rfl,rfl⟩) hq0 ?_
 refine tL 12 (undef) rfl (Or.inr ⟨rfl,rfl⟩) hq0 ?_
 refine tL 13 (undef) rfl (Or.inr ⟨rfl,rfl⟩) hq0 ?_
 refine tL 14 (undef) rfl (Or.inr ⟨rfl,rfl⟩) hq0 ?_
 refine tL 15 (undef) rfl (Or.inr ⟨rfl,rfl⟩) hq0 ?_
 refine tL 11 (undef) rfl (Or.inr ⟨rfl,rfl⟩) hq0 ?_
 refine tL 16 (undef) rfl (Or.inr ⟨rfl,rfl⟩) hq0 ?_
 refine tL 17 (undef) rfl (Or.inr ⟨rfl,rfl⟩) hq0 ?_
 refine tL 18 (undef) rfl (Or.inr ⟨rfl,rfl⟩) hq0 ?_
 refine bO 19 ((.bool true)) rfl hq0 ?_
 refine wpAnyH_done (by kernel_rfl) ?_ _
 generalize wd=z1 at *
 have hP_z1:Pv z1 G (k*89) L:=hP_w.ext hq0
 have E_z1:Pm G (k*89) w z1:=Ext.pm hq0 G (k*89)
 clear hP_w p86_w
 clear hq0
 go_wp2_with fail
 refine(qY G k L hP_z1 HLEN.out X id rp np cap ((E_z1.1.cell (p:=⟨X,0,none⟩) hXl hXG).trans H0.out) ((E_z1.1.cell (p:=⟨X,12,none⟩) hXl hXG).trans H12.out) ((E_z1.1.cell (p:=⟨X,17,none⟩) hXl hXG).trans H17.out) (nL hXl E_z1.1.size) hXG hk hn gid _ HL_70.out g70).mono ?_
 rintro e z2 ⟨rfl,hx⟩
 have E_z2:Pm G (k*89) w z2:=E_z1.ext hx
 have hP_z2:Pv z2 G (k*89) L:=hP_z1.ext hx
 clear hP_z1 E_z1
 clear hx
 go_wp2_with (first
  | fail
  | ((with_reducible refine aD 3 ?_);refine bI rfl rfl 3 _ _ rfl G (k*89) 88 _ hP_z2 _ #[.int .i64 (kN k rp x70 id)] rfl rfl rfl (by exact(by decide:88+1≤89)) (by kernel_rfl) rfl ?_
     intro z3 hp hm
     replace hp:=aO hp HLEN.out (by decide)
     have hP_z3:=hp
     have E_z3:Pm G (k*89) w z3:=E_z2.trans hm
     clear hP_z2 E_z2
     clear hp hm)
  | ((with_reducible refine aD 4 ?_);refine bI rfl rfl 4 _ _ rfl G (k*89) 50 _ hP_z3 _ #[.bool false] rfl rfl rfl (by exact(by decide:50+1≤89)) (by kernel_rfl) rfl ?_
     intro z4 hp hm
     replace hp:=aO hp (aB HLEN.out) (by decide)
     have hP_z4:=hp
     have E_z4:Pm G (k*89) w z4:=E_z3.trans hm
     clear hP_z3 E_z3
     clear hp hm))
 first
  | go_end0
  | (simp only[Exit.inBlock,Exit.then];refine bodyPost_ret (results_none rfl _ _ _) rfl ?_)
  | refine bodyPost_ret (results_none rfl _ _ _) rfl ?_
 exact⟨rfl,hP_z4,E_z4⟩
theorem wH{w:World}(G k:Nat)(L:List Value)(hP_w:Pv w G (k*89) L)(hl:L.length=89)(X:Nat)(id rp:Int)(np cap:Nat)(hid0:w.cell? ⟨X,0,none⟩=some (.int .u64 id))(hrp:w.cell? ⟨X,12,none⟩=some (.int .i64 rp))(h17:w.cell? ⟨X,17,none⟩=some (.slice (some ⟨G,0,none⟩) np cap))(hXl:X<w.heap.size)(hXG:X≠G)(hk:k<np)(hn:np<1000)(gid:0≤id∧id<18446744073709551616)(x68:Int)(h68:L[68]?=some (.int .u64 x68))(x69:Int)(h69:L[69]?=some (.int .u32 x69))(x70:Int)(h70:L[70]?=some (.int .u64 x70))(x71:Int)(h71:L[71]?=some (.int .u16 x71))(x72:Int)(h72:L[72]?=some (.int .u16 x72))(x73:Int)(h73:L[73]?=some (.int .u64 x73))(x74:Int)(h74:L[74]?=some (.int .u32 x74))(x75:Int)(h75:L[75]?=some (.int .u64 x75))(x76:Int)(h76:L[76]?=some (.int .u16 x76))(x77:Int)(h77:L[77]?=some (.int .u16 x77))(x78:Int)(h78:L[78]?=some (.int .i64 x78))(x79:Int)(h79:L[79]?=some (.int .i64 x79))(x80:Int)(h80:L[80]?=some (.int .i64 x80))(x81:Int)(h81:L[81]?=some (.int .i64 x81))(x82:Int)(h82:L[82]?=some (.int .i64 x82))(x83:Int)(h83:L[83]?=some (.int .i64 x83))(x84:Int)(h84:L[84]?=some (.int .i64 x84))(x85:Int)(h85:L[85]?=some (.int .i64 x85))(h86:L[86]?=some (.int .i64 3))(g70:0≤x70∧x70<18446744073709551616)(hrb:((k:Int) == rp)=false)(hls:(decide ((c4 x73 x74 x75 x76 x68 x69 x70 x71)<0))=false):Calls Tryz.prog 50 #[.pointer (some ⟨X,0,none⟩),.int .i64 k] w fun e w'=>e=.returned (.tuple #[])∧Pv w' G (k*89) ((L.set 88 (.int .i64 (kN k rp x70 id))).set 50 (.bool false))∧Pm G (k*89) w w':=by
 have HLS:=hD hls
 clear hls
 have hk8:k<1000:=by omega
 have hG:=hP_w.lt
 have HLEN:=hD hl
 have HL_68:=hD h68
 have HL_69:=hD h69
 have HL_70:=hD h70
 have HL_71:=hD h71
 have HL_72:=hD h72
 have HL_73:=hD h73
 have HL_74:=hD h74
 have HL_75:=hD h75
 have HL_76:=hD h76
 have HL_77:=hD h77
 have HL_78:=hD h78
 have HL_79:=hD h79
 have HL_80:=hD h80
 have HL_81:=hD h81
 have HL_82:=hD h82
 have HL_83:=hD h83
 have HL_84:=hD h84
 have HL_85:=hD h85
 have HL_86:=hD h86
 have HS_68:=hD (a7 (L:=L) (j:=68) (l:=[.int .u64 x68,.int .u32 x69,.int .u64 x70,.int .u16 x71,.int .u16 x72]) (by rw[hl];exact(by decide:68+5≤89)) (fun i hi=>by
  match i,hi with
  | 0,_=>exact HL_68.out
  | 1,_=>exact HL_69.out
  | 2,_=>exact HL_70.out
  | 3,_=>exact HL_71.out
  | 4,_=>exact HL_72.out
  | i+5,hi=>simp at hi;omega))
 have HS_73:=hD (a7 (L:=L) (j:=73) (l:=[.int .u64 x73,.int .u32 x74,.int .u64 x75,.int .u16 x76,.int .u16 x77]) (by rw[hl];exact(by decide:73+5≤89)) (fun i hi=>by
  match i,hi with
  | 0,_=>exact HL_73.out
  | 1,_=>exact HL_74.out
  | 2,_=>exact HL_75.out
  | 3,_=>exact HL_76.out
  | 4,_=>exact HL_77.out
  | i+5,hi=>simp at hi;omega))
 clear hl h68 h69 h70 h71 h72 h73 h74 h75 h76 h77 h78 h79 h80 h81 h82 h83 h84 h85 h86
 have H17:=hD h17
 have H12:=hD hrp
 have H0:=hD hid0
 go_enter Tryz.func50,Tryz.ntmps50
 have p86_w:w.cell? ⟨G,(k*89)+86,none⟩=some (.int .i64 3):=(hP_w.cell (j:=86) (by decide)).trans HL_86.out
 go_wp2_with fail
 refine aT (S:=fun W'=>Ext w W') (by kernel_rfl) ?_
 intro wd hqx
 have hq0:Ext w wd:=hqx
 refine bO 0 ((.int .i64 (k:Int))) rfl hq0 ?_
 refine aH 1 X 0 rfl hq0 ?_
 refine aH 2 X 0 rfl hq0 ?_
 refine aH 3 X 12 rfl hq0 ?_
 refine tL 4 (_) rfl (aA rfl 3 _ rfl ⟨X,12,none⟩ rfl (.int .i64 rp) _ (fun W' hW'=>(hW'.cell (p:=⟨X,12,none⟩) hXl).trans H12.out) Tryz.underlying3 rfl) hq0 ?_
 refine tL 5 ((.bool false)) rfl (Or.inl ⟨rfl,fun W' _=>by go_simp⟩) hq0 ?_
 refine bO 6 ((.bool false)) rfl hq0 ?_
 refine aH 7 G ((k*89)) rfl hq0 ?_
 refine aH 8 G ((k*89)) rfl hq0 ?_
 refine aH 9 G ((k*89)+73) rfl hq0 ?_
 refine tL 10 (_) rfl (yieldsIf_load_mid rfl 30 _ rfl G ((k*89)+73) rfl ([.int .u64 x73,.int .u32 x74,.int .u64 x75,.int .u16 x76,.int .u16 x77]) _ (fun W' hW'=>(hP_w.ext hW').range (j:=73) (n:=5) HS_73.out (by decide)) Tryz.underlying30 rfl (by kernel_rfl)) hq0 ?_
 refine aH 12 G ((k*89)) rfl hq0 ?_
 refine aH 13 G ((k*89)) rfl hq0 ?_
 refine aH 14 G ((k*89)+68) rfl hq0 ?_
 refine tL 15 (_) rfl (yieldsIf_load_mid rfl 30 _ rfl G ((k*89)+68) rfl ([.int .u64 x68,.int .u32 x69,.int .u64 x70,.int .u16 x71,.int .u16 x72]) _ (fun W' hW'=>(hP_w.ext hW').range (j:=68) (n:=5) HS_68.out (by decide)) Tryz.underlying30 rfl (by kernel_rfl)) hq0 ?_
 refine kI (i:=11) rfl (by rfl) (by kernel_rfl) (fun K hK=>?_)
 go_simp
 refine(fX _ _ _ _ _ _).mono ?_
 rintro e wc1 ⟨rfl,hx⟩
 have hq1:=hq0.trans hx
 refine hK.out _ _ hq1 (fun hHeld=>?_)
 try simp only[ps]
 clear hK K hHeld
 refine kI (i:=16) rfl (by rfl) (by kernel_rfl) (fun K hK=>?_)
 go_simp
 refine(fX _ _ _ _ _ _).mono ?_
 rintro e wc2 ⟨rfl,hx⟩
 have hq2:=hq1.trans hx
 refine hK.out _ _ hq2 (fun hHeld=>?_)
 try simp only[ps]
 clear hK K hHeld
 refine kI (i:=17) rfl (by rfl) (by kernel_rfl) (fun K hK=>?_)
 go_simp
 refine(eM (fW _ _ _ _ _ _ _ _ _ _ _) ((c50 _ _ _ _ _ _ _ _).trans HLS.out)).mono ?_
 rintro e wc3 ⟨rfl,hx⟩
 have hq3:=hq2.trans hx
 refine hK.out _ _ hq3 (fun hHeld=>?_)
 try simp only[ps]
 clear hK K hHeld
 refine bO 18 ((.bool true)) rfl hq3 ?_
 refine bO 19 ((.bool true)) rfl hq3 ?_
 refine wpAnyH_done (by kernel_rfl) ?_ _
 generalize wc3=z1 at *
 have hP_z1:Pv z1 G (k*89) L:=hP_w.ext hq3
 have E_z1:Pm G (k*89) w z1:=Ext.pm hq3 G (k*89)
 clear hP_w p86_w
 clear hq0 hq1 hq2 hq3
 go_wp2_with fail
 refine(qY G k L hP_z1 HLEN.out X id rp np cap ((E_z1.1.cell (p:=⟨X,0,none⟩) hXl hXG).trans H0.out) ((E_z1.1.cell (p:=⟨X,12,none⟩) hXl hXG).trans H12.out) ((E_z1.1.cell (p:=⟨X,17,none⟩) hXl hXG).trans H17.out) (nL hXl E_z1.1.size) hXG hk hn gid _ HL_70.out g70).mono ?_
 rintro e z2 ⟨rfl,hx⟩
 have E_z2:Pm G (k*89) w z2:=E_z1.ext hx
 have hP_z2:Pv z2 G (k*89) L:=hP_z1.ext hx
 clear hP_z1 E_z1
 clear hx
 go_wp2_with (first
  | fail
  | ((with_reducible refine aD 3 ?_);refine bI rfl rfl 3 _ _ rfl G (k*89) 88 _ hP_z2 _ #[.int .i64 (kN k rp x70 id)] rfl rfl rfl (by exact(by decide:88+1≤89)) (by kernel_rfl) rfl ?_
     intro z3 hp hm
     replace hp:=aO hp HLEN.out (by decide)
     have hP_z3:=hp
     have E_z3:Pm G (k*89) w z3:=E_z2.trans hm
     clear hP_z2 E_z2
     clear hp hm)
  | ((with_reducible refine aD 4 ?_);refine bI rfl rfl 4 _ _ rfl G (k*89) 50 _ hP_z3 _ #[.bool false] rfl rfl rfl (by exact(by decide:50+1≤89)) (by kernel_rfl) rfl ?_
     intro z4 hp hm
     replace hp:=aO hp (aB HLEN.out) (by decide)
     have hP_z4:=hp
     have E_z4:Pm G (k*89) w z4:=E_z3.trans hm
     clear hP_z3 E_z3
     clear hp hm))
 first
  | go_end0
  | (simp only[Exit.inBlock,Exit.then];refine bodyPost_ret (results_none rfl _ _ _) rfl ?_)
  | refine bodyPost_ret (results_none rfl _ _ _) rfl ?_
 exact⟨rfl,hP_z4,E_z4⟩
theorem tT{w:World}(G k:Nat)(L:List Value)(hP_w:Pv w G (k*89) L)(hl:L.length=89)(X:Nat)(id rp:Int)(np cap:Nat)(hid0:w.cell? ⟨X,0,none⟩=some (.int .u64 id))(hrp:w.cell? ⟨X,12,none⟩=some (.int .i64 rp))(h17:w.cell? ⟨X,17,none⟩=some (.slice (some ⟨G,0,none⟩) np cap))(hXl:X<w.heap.size)(hXG:X≠G)(hk:k<np)(hn:np<1000)(gid:0≤id∧id<18446744073709551616)(x68:Int)(h68:L[68]?=some (.int .u64 x68))(x69:Int)(h69:L[69]?=some (.int .u32 x69))(x70:Int)(h70:L[70]?=some (.int .u64 x70))(x71:Int)(h71:L[71]?=some (.int .u16 x71))(x72:Int)(h72:L[72]?=some (.int .u16 x72))(x73:Int)(h73:L[73]?=some (.int .u64 x73))(x74:Int)(h74:L[74]?=some (.int .u32 x74))(x75:Int)(h75:L[75]?=some (.int .u64 x75))(x76:Int)(h76:L[76]?=some (.int .u16 x76))(x77:Int)(h77:L[77]?=some (.int .u16 x77))(x78:Int)(h78:L[78]?=some (.int .i64 x78))(x79:Int)(h79:L[79]?=some (.int .i64 x79))(x80:Int)(h80:L[80]?=some (.int .i64 x80))(x81:Int)(h81:L[81]?=some (.int .i64 x81))(x82:Int)(h82:L[82]?=some (.int .i64 x82))(x83:Int)(h83:L[83]?=some (.int .i64 x83))(x84:Int)(h84:L[84]?=some (.int .i64 x84))(x85:Int)(h85:L[85]?=some (.int .i64 x85))(h86:L[86]?=some (.int .i64 3))(g70:0≤x70∧x70<18446744073709551616)(hrb:((k:Int) == rp)=false)(hls:(decide ((c4 x73 x74 x75 x76 x68 x69 x70 x71)<0))=true)(hsm:((c4 x68 x69 x70 x71 x73 x74 x75 x76) == 0)=false):Calls Tryz.prog 50 #[.pointer (some ⟨X,0,none⟩),.int .i64 k] w fun e w'=>e=.returned (.tuple #[])∧Pv w' G (k*89) (((L.set 50 (.bool true)).set 88 (.int .i64 4)).set 50 (.bool true))∧Pm G (k*89) w w':=by
 have HSM:=hD hsm
 clear hsm
 have HLS:=hD hls
 clear hls
 have hk8:k<1000:=by omega
 have hG:=hP_w.lt
 have HLEN:=hD hl
 have HL_68:=hD h68
 have HL_69:=hD h69
 have HL_70:=hD h70
 have HL_71:=hD h71
 have HL_72:=hD h72
 have HL_73:=hD h73
 have HL_74:=hD h74
 have HL_75:=hD h75
 have HL_76:=hD h76
 have HL_77:=hD h77
 have HL_78:=hD h78
 have HL_79:=hD h79
 have HL_80:=hD h80
 have HL_81:=hD h81
 have HL_82:=hD h82
 have HL_83:=hD h83
 have HL_84:=hD h84
 have HL_85:=hD h85
 have HL_86:=hD h86
 have HS_68:=hD (a7 (L:=L) (j:=68) (l:=[.int .u64 x68,.int .u32 x69,.int .u64 x70,.int .u16 x71,.int .u16 x72]) (by rw[hl];exact(by decide:68+5≤89)) (fun i hi=>by
  match i,hi with
  | 0,_=>exact HL_68.out
  | 1,_=>exact HL_69.out
  | 2,_=>exact HL_70.out
  | 3,_=>exact HL_71.out
  | 4,_=>exact HL_72.out
  | i+5,hi=>simp at hi;omega))
 have HS_73:=hD (a7 (L:=L) (j:=73) (l:=[.int .u64 x73,.int .u32 x74,.int .u64 x75,.int .u16 x76,.int .u16 x77]) (by rw[hl];exact(by decide:73+5≤89)) (fun i hi=>by
  match i,hi with
  | 0,_=>exact HL_73.out
  | 1,_=>exact HL_74.out
  | 2,_=>exact HL_75.out
  | 3,_=>exact HL_76.out
  | 4,_=>exact HL_77.out
  | i+5,hi=>simp at hi;omega))
 have HS_78:=hD (a7 (L:=L) (j:=78) (l:=[.int .i64 x78,.int .i64 x79,.int .i64 x80,.int .i64 x81]) (by rw[hl];exact(by decide:78+4≤89)) (fun i hi=>by
  match i,hi with
  | 0,_=>exact HL_78.out
  | 1,_=>exact HL_79.out
  | 2,_=>exact HL_80.out
  | 3,_=>exact HL_81.out
  | i+4,hi=>simp at hi;omega))
 have HS_82:=hD (a7 (L:=L) (j:=82) (l:=[.int .i64 x82,.int .i64 x83,.int .i64 x84,.int .i64 x85]) (by rw[hl];exact(by decide:82+4≤89)) (fun i hi=>by
  match i,hi with
  | 0,_=>exact HL_82.out
  | 1,_=>exact HL_83.out
  | 2,_=>exact HL_84.out
  | 3,_=>exact HL_85.out
  | i+4,hi=>simp at hi;omega))
 clear hl h68 h69 h70 h71 h72 h73 h74 h75 h76 h77 h78 h79 h80 h81 h82 h83 h84 h85 h86
 have H17:=hD h17
 have H12:=hD hrp
 have H0:=hD hid0
 go_enter Tryz.func50,Tryz.ntmps50
 have p86_w:w.cell? ⟨G,(k*89)+86,none⟩=some (.int .i64 3):=(hP_w.cell (j:=86) (by decide)).trans HL_86.out
 go_wp2_with fail
 refine aT (S:=fun W'=>Ext w W') (by kernel_rfl) ?_
 intro wd hqx
 have hq0:Ext w wd:=hqx
 refine bO 0 ((.int .i64 (k:Int))) rfl hq0 ?_
 refine aH 1 X 0 rfl hq0 ?_
 refine aH 2 X 0 rfl hq0 ?_
 refine aH 3 X 12 rfl hq0 ?_
 refine tL 4 (_) rfl (aA rfl 3 _ rfl ⟨X,12,none⟩ rfl (.int .i64 rp) _ (fun W' hW'=>(hW'.cell (p:=⟨X,12,none⟩) hXl).trans H12.out) Tryz.underlying3 rfl) hq0 ?_
 refine tL 5 ((.bool false)) rfl (Or.inl ⟨rfl,fun W' _=>by go_simp⟩) hq0 ?_
 refine bO 6 ((.bool false)) rfl hq0 ?_
 refine aH 7 G ((k*89)) rfl hq0 ?_
 refine aH 8 G ((k*89)) rfl hq0 ?_
 refine aH 9 G ((k*89)+73) rfl hq0 ?_
 refine tL 10 (_) rfl (yieldsIf_load_mid rfl 30 _ rfl G ((k*89)+73) rfl ([.int .u64 x73,.int .u32 x74,.int .u64 x75,.int .u16 x76,.int .u16 x77]) _ (fun W' hW'=>(hP_w.ext hW').range (j:=73) (n:=5) HS_73.out (by decide)) Tryz.underlying30 rfl (by kernel_rfl)) hq0 ?_
 refine aH 12 G ((k*89)) rfl hq0 ?_
 refine aH 13 G ((k*89)) rfl hq0 ?_
 refine aH 14 G ((k*89)+68) rfl hq0 ?_
 refine tL 15 (_) rfl (yieldsIf_load_mid rfl 30 _ rfl G ((k*89)+68) rfl ([.int .u64 x68,.int .u32 x69,.int .u64 x70,.int .u16 x71,.int .u16 x72]) _ (fun W' hW'=>(hP_w.ext hW').range (j:=68) (n:=5) HS_68.out (by decide)) Tryz.underlying30 rfl (by kernel_rfl)) hq0 ?_
 refine kI (i:=11) rfl (by rfl) (by kernel_rfl) (fun K hK=>?_)
 go_simp
 refine(fX _ _ _ _ _ _).mono ?_
 rintro e wc1 ⟨rfl,hx⟩
 have hq1:=hq0.trans hx
 refine hK.out _ _ hq1 (fun hHeld=>?_)
 try simp only[ps]
 clear hK K hHeld
 refine kI (i:=16) rfl (by rfl) (by kernel_rfl) (fun K hK=>?_)
 go_simp
 refine(fX _ _ _ _ _ _).mono ?_
 rintro e wc2 ⟨rfl,hx⟩
 have hq2:=hq1.trans hx
 refine hK.out _ _ hq2 (fun hHeld=>?_)
 try simp only[ps]
 clear hK K hHeld
 refine kI (i:=17) rfl (by rfl) (by kernel_rfl) (fun K hK=>?_)
 go_simp
 refine(eM (fW _ _ _ _ _ _ _ _ _ _ _) ((c50 _ _ _ _ _ _ _ _).trans HLS.out)).mono ?_
 rintro e wc3 ⟨rfl,hx⟩
 have hq3:=hq2.trans hx
 refine hK.out _ _ hq3 (fun hHeld=>?_)
 try simp only[ps]
 clear hK K hHeld
 refine bO 18 ((.bool false)) rfl hq3 ?_
 refine bO 19 ((.bool false)) rfl hq3 ?_
 refine wpAnyH_done (by kernel_rfl) ?_ _
 generalize wc3=z1 at *
 have hP_z1:Pv z1 G (k*89) L:=hP_w.ext hq3
 have E_z1:Pm G (k*89) w z1:=Ext.pm hq3 G (k*89)
 clear hP_w p86_w
 clear hq0 hq1 hq2 hq3
 go_wp2_with (first
  | fail
  | ((with_reducible refine aD 4 ?_);refine bI rfl rfl 4 _ _ rfl G (k*89) 50 _ hP_z1 _ #[.bool true] rfl rfl rfl (by exact(by decide:50+1≤89)) (by kernel_rfl) rfl ?_
     intro z2 hp hm
     replace hp:=aO hp HLEN.out (by decide)
     have hP_z2:=hp
     have E_z2:Pm G (k*89) w z2:=E_z1.trans hm
     clear hP_z1 E_z1
     clear hp hm)
  | ((with_reducible refine aD 3 ?_);refine bI rfl rfl 3 _ _ rfl G (k*89) 88 _ hP_z2 _ #[.int .i64 4] rfl rfl rfl (by exact(by decide:88+1≤89)) (by kernel_rfl) rfl ?_
     intro z3 hp hm
     replace hp:=aO hp (aB HLEN.out) (by decide)
     have hP_z3:=hp
     have E_z3:Pm G (k*89) w z3:=E_z2.trans hm
     clear hP_z2 E_z2
     clear hp hm))
 refine aT (S:=fun W'=>Ext z3 W') (by kernel_rfl) ?_
 intro wd hqx
 have hq0:Ext z3 wd:=hqx
 refine aH 0 G ((k*89)) rfl hq0 ?_
 refine aH 1 G ((k*89)) rfl hq0 ?_
 refine aH 2 G ((k*89)+68) rfl hq0 ?_
 refine tL 3 (_) rfl (yieldsIf_load_mid rfl 30 _ rfl G ((k*89)+68) rfl ([.int .u64 x68,.int .u32 x69,.int .u64 x70,.int .u16 x71,.int .u16 x72]) _ (fun W' hW'=>(hP_z3.ext hW').range (j:=68) (n:=5) ((aM (by decide)).trans ((aM (by decide)).trans HS_68.out)) (by decide)) Tryz.underlying30 rfl (by kernel_rfl)) hq0 ?_
 refine aH 4 G ((k*89)) rfl hq0 ?_
 refine aH 5 G ((k*89)) rfl hq0 ?_
 refine aH 6 G ((k*89)+73) rfl hq0 ?_
 refine tL 7 (_) rfl (yieldsIf_load_mid rfl 30 _ rfl G ((k*89)+73) rfl ([.int .u64 x73,.int .u32 x74,.int .u64 x75,.int .u16 x76,.int .u16 x77]) _ (fun W' hW'=>(hP_z3.ext hW').range (j:=73) (n:=5) ((aM (by decide)).trans ((aM (by decide)).trans HS_73.out)) (by decide)) Tryz.underlying30 rfl (by kernel_rfl)) hq0 ?_
 refine bB (i:=8) rfl rfl (by kernel_rfl) (fun K hK=>?_)
 go_simp
 refine(eM (eJ _ _ _ _ _ _ _ _ _ _ _) HSM.out).mono ?_
 rintro e wc1 ⟨rfl,hx⟩
 have hq1:=hq0.trans hx
 refine hK.out _ _ hq1 (fun hHeld=>?_)
 try simp only[ps]
 clear hK K hHeld
 refine bO 9 ((.bool true)) rfl hq1 ?_
 refine bO 10 ((.bool true)) rfl hq1 ?_
 refine tL 11 (undef) rfl (Or.inr ⟨rfl,rfl⟩) hq1 ?_
 refine tL 12 (undef) rfl (Or.inr ⟨rfl,rfl⟩) hq1 ?_
 refine tL 13 (undef) rfl (Or.inr ⟨rfl,rfl⟩) hq1 ?_
 refine tL 14 (undef) rfl (Or.inr ⟨rfl,rfl⟩) hq1 ?_
 refine tL 15 (undef) rfl (Or.inr ⟨rfl,rfl⟩) hq1 ?_
 refine tL 16 (undef) rfl (Or.inr ⟨rfl,rfl⟩) hq1 ?_
 refine tL 17 (undef) rfl (Or.inr ⟨rfl,rfl⟩) hq1 ?_
 refine tL 18 (undef) rfl (Or.inr ⟨rfl,rfl⟩) hq1 ?_
 refine tL 19 (undef) rfl (Or.inr ⟨rfl,rfl⟩) hq1 ?_
 refine bO 20 ((.bool true)) rfl hq1 ?_
 refine wpAnyH_done (by kernel_rfl) ?_ _
 generalize wc1=z4 at *
 have hP_z4:Pv z4 G (k*89) ((L.set 50 (.bool true)).set 88 (.int .i64 4)):=hP_z3.ext hq1
 have E_z4:Pm G (k*89) w z4:=E_z3.ext hq1
 clear hP_z3 E_z3
 clear hq0 hq1
 go_wp2_with (first
  | fail
  | ((with_reducible refine aD 4 ?_);refine bI rfl rfl 4 _ _ rfl G (k*89) 50 _ hP_z4 _ #[.bool true] rfl rfl rfl (by exact(by decide:50+1≤89)) (by kernel_rfl) rfl ?_
     intro z5 hp hm
     replace hp:=aO hp (aB (aB HLEN.out)) (by decide)
     have hP_z5:=hp
     have E_z5:Pm G (k*89) w z5:=E_z4.trans hm
     clear hP_z4 E_z4
     clear hp hm))
 first
  | go_end0
  | (simp only[Exit.inBlock,Exit.then];refine bodyPost_ret (results_none rfl _ _ _) rfl ?_)
  | refine bodyPost_ret (results_none rfl _ _ _) rfl ?_
 exact⟨rfl,hP_z5,E_z5⟩
theorem tU{w:World}(G k:Nat)(L:List Value)(hP_w:Pv w G (k*89) L)(hl:L.length=89)(X:Nat)(id rp:Int)(np cap:Nat)(hid0:w.cell? ⟨X,0,none⟩=some (.int .u64 id))(hrp:w.cell? ⟨X,12,none⟩=some (.int .i64 rp))(h17:w.cell? ⟨X,17,none⟩=some (.slice (some ⟨G,0,none⟩) np cap))(hXl:X<w.heap.size)(hXG:X≠G)(hk:k<np)(hn:np<1000)(gid:0≤id∧id<18446744073709551616)(x68:Int)(h68:L[68]?=some (.int .u64 x68))(x69:Int)(h69:L[69]?=some (.int .u32 x69))(x70:Int)(h70:L[70]?=some (.int .u64 x70))(x71:Int)(h71:L[71]?=some (.int .u16 x71))(x72:Int)(h72:L[72]?=some (.int .u16 x72))(x73:Int)(h73:L[73]?=some (.int .u64 x73))(x74:Int)(h74:L[74]?=some (.int .u32 x74))(x75:Int)(h75:L[75]?=some (.int .u64 x75))(x76:Int)(h76:L[76]?=some (.int .u16 x76))(x77:Int)(h77:L[77]?=some (.int .u16 x77))(x78:Int)(h78:L[78]?=some (.int .i64 x78))(x79:Int)(h79:L[79]?=some (.int .i64 x79))(x80:Int)(h80:L[80]?=some (.int .i64 x80))(x81:Int)(h81:L[81]?=some (.int .i64 x81))(x82:Int)(h82:L[82]?=some (.int .i64 x82))(x83:Int)(h83:L[83]?=some (.int .i64 x83))(x84:Int)(h84:L[84]?=some (.int .i64 x84))(x85:Int)(h85:L[85]?=some (.int .i64 x85))(h86:L[86]?=some (.int .i64 3))(g70:0≤x70∧x70<18446744073709551616)(hrb:((k:Int) == rp)=false)(hls:(decide ((c4 x73 x74 x75 x76 x68 x69 x70 x71)<0))=true)(hsm:((c4 x68 x69 x70 x71 x73 x74 x75 x76) == 0)=true)(hnt:∀w,(binOp .neq 24 (.agg #[.int .i64 x78,.int .i64 x79,.int .i64 x80,.int .i64 x81]) (.agg #[.int .i64 x82,.int .i64 x83,.int .i64 x84,.int .i64 x85])).run Tryz.prog w=.ok (.bool true) w):Calls Tryz.prog 50 #[.pointer (some ⟨X,0,none⟩),.int .i64 k] w fun e w'=>e=.returned (.tuple #[])∧Pv w' G (k*89) (((L.set 50 (.bool true)).set 88 (.int .i64 4)).set 50 (.bool true))∧Pm G (k*89) w w':=by
 have HSM:=hD hsm
 clear hsm
 have HLS:=hD hls
 clear hls
 have hk8:k<1000:=by omega
 have hG:=hP_w.lt
 have HLEN:=hD hl
 have HL_68:=hD h68
 have HL_69:=hD h69
 have HL_70:=hD h70
 have HL_71:=hD h71
 have HL_72:=hD h72
 have HL_73:=hD h73
 have HL_74:=hD h74
 have HL_75:=hD h75
 have HL_76:=hD h76
 have HL_77:=hD h77
 have HL_78:=hD h78
 have HL_79:=hD h79
 have HL_80:=hD h80
 have HL_81:=hD h81
 have HL_82:=hD h82
 have HL_83:=hD h83
 have HL_84:=hD h84
 have HL_85:=hD h85
 have HL_86:=hD h86
 have HS_68:=hD (a7 (L:=L) (j:=68) (l:=[.int .u64 x68,.int .u32 x69,.int .u64 x70,.int .u16 x71,.int .u16 x72]) (by rw[hl];exact(by decide:68+5≤89)) (fun i hi=>by
  match i,hi with
  | 0,_=>exact HL_68.out
  | 1,_=>exact HL_69.out
  | 2,_=>exact HL_70.out
  | 3,_=>exact HL_71.out
  | 4,_=>exact HL_72.out
  | i+5,hi=>simp at hi;omega))
 have HS_73:=hD (a7 (L:=L) (j:=73) (l:=[.int .u64 x73,.int .u32 x74,.int .u64 x75,.int .u16 x76,.int .u16 x77]) (by rw[hl];exact(by decide:73+5≤89)) (fun i hi=>by
  match i,hi with
  | 0,_=>exact HL_73.out
  | 1,_=>exact HL_74.out
  | 2,_=>exact HL_75.out
  | 3,_=>exact HL_76.out
  | 4,_=>exact HL_77.out
  | i+5,hi=>simp at hi;omega))
 have HS_78:=hD (a7 (L:=L) (j:=78) (l:=[.int .i64 x78,.int .i64 x79,.int .i64 x80,.int .i64 x81]) (by rw[hl];exact(by decide:78+4≤89)) (fun i hi=>by
  match i,hi with
  | 0,_=>exact HL_78.out
  | 1,_=>exact HL_79.out
  | 2,_=>exact HL_80.out
  | 3,_=>exact HL_81.out
  | i+4,hi=>simp at hi;omega))
 have HS_82:=hD (a7 (L:=L) (j:=82) (l:=[.int .i64 x82,.int .i64 x83,.int .i64 x84,.int .i64 x85]) (by rw[hl];exact(by decide:82+4≤89)) (fun i hi=>by
  match i,hi with
  | 0,_=>exact HL_82.out
  | 1,_=>exact HL_83.out
  | 2,_=>exact HL_84.out
  | 3,_=>exact HL_85.out
  | i+4,hi=>simp at hi;omega))
 clear hl h68 h69 h70 h71 h72 h73 h74 h75 h76 h77 h78 h79 h80 h81 h82 h83 h84 h85 h86
 have H17:=hD h17
 have H12:=hD hrp
 have H0:=hD hid0
 go_enter Tryz.func50,Tryz.ntmps50
 have p86_w:w.cell? ⟨G,(k*89)+86,none⟩=some (.int .i64 3):=(hP_w.cell (j:=86) (by decide)).trans HL_86.out
 go_wp2_with fail
 refine aT (S:=fun W'=>Ext w W') (by kernel_rfl) ?_
 intro wd hqx
 have hq0:Ext w wd:=hqx
 refine bO 0 ((.int .i64 (k:Int))) rfl hq0 ?_
 refine aH 1 X 0 rfl hq0 ?_
 refine aH 2 X 0 rfl hq0 ?_
 refine aH 3 X 12 rfl hq0 ?_
 refine tL 4 (_) rfl (aA rfl 3 _ rfl ⟨X,12,none⟩ rfl (.int .i64 rp) _ (fun W' hW'=>(hW'.cell (p:=⟨X,12,none⟩) hXl).trans H12.out) Tryz.underlying3 rfl) hq0 ?_
 refine tL 5 ((.bool false)) rfl (Or.inl ⟨rfl,fun W' _=>by go_simp⟩) hq0 ?_
 refine bO 6 ((.bool false)) rfl hq0 ?_
 refine aH 7 G ((k*89)) rfl hq0 ?_
 refine aH 8 G ((k*89)) rfl hq0 ?_
 refine aH 9 G ((k*89)+73) rfl hq0 ?_
 refine tL 10 (_) rfl (yieldsIf_load_mid rfl 30 _ rfl G ((k*89)+73) rfl ([.int .u64 x73,.int .u32 x74,.int .u64 x75,.int .u16 x76,.int .u16 x77]) _ (fun W' hW'=>(hP_w.ext hW').range (j:=73) (n:=5) HS_73.out (by decide)) Tryz.underlying30 rfl (by kernel_rfl)) hq0 ?_
 refine aH 12 G ((k*89)) rfl hq0 ?_
 refine aH 13 G ((k*89)) rfl hq0 ?_
 refine aH 14 G ((k*89)+68) rfl hq0 ?_
 refine tL 15 (_) rfl (yieldsIf_load_mid rfl 30 _ rfl G ((k*89)+68) rfl ([.int .u64 x68,.int .u32 x69,.int .u64 x70,.int .u16 x71,.int .u16 x72]) _ (fun W' hW'=>(hP_w.ext hW').range (j:=68) (n:=5) HS_68.out (by decide)) Tryz.underlying30 rfl (by kernel_rfl)) hq0 ?_
 refine kI (i:=11) rfl (by rfl) (by kernel_rfl) (fun K hK=>?_)
 go_simp
 refine(fX _ _ _ _ _ _).mono ?_
 rintro e wc1 ⟨rfl,hx⟩
 have hq1:=hq0.trans hx
 refine hK.out _ _ hq1 (fun hHeld=>?_)
 try simp only[ps]
 clear hK K hHeld
 refine kI (i:=16) rfl (by rfl) (by kernel_rfl) (fun K hK=>?_)
 go_simp
 refine(fX _ _ _ _ _ _).mono ?_
 rintro e wc2 ⟨rfl,hx⟩
 have hq2:=hq1.trans hx
 refine hK.out _ _ hq2 (fun hHeld=>?_)
 try simp only[ps]
 clear hK K hHeld
 refine kI (i:=17) rfl (by rfl) (by kernel_rfl) (fun K hK=>?_)
 go_simp
 refine(eM (fW _ _ _ _ _ _ _ _ _ _ _) ((c50 _ _ _ _ _ _ _ _).trans HLS.out)).mono ?_
 rintro e wc3 ⟨rfl,hx⟩
 have hq3:=hq2.trans hx
 refine hK.out _ _ hq3 (fun hHeld=>?_)
 try simp only[ps]
 clear hK K hHeld
 refine bO 18 ((.bool false)) rfl hq3 ?_
 refine bO 19 ((.bool false)) rfl hq3 ?_
 refine wpAnyH_done (by kernel_rfl) ?_ _
 generalize wc3=z1 at *
 have hP_z1:Pv z1 G (k*89) L:=hP_w.ext hq3
 have E_z1:Pm G (k*89) w z1:=Ext.pm hq3 G (k*89)
 clear hP_w p86_w
 clear hq0 hq1 hq2 hq3
 go_wp2_with (first
  | fail
  | ((with_reducible refine aD 4 ?_);refine bI rfl rfl 4 _ _ rfl G (k*89) 50 _ hP_z1 _ #[.bool true] rfl rfl rfl (by exact(by decide:50+1≤89)) (by kernel_rfl) rfl ?_
     intro z2 hp hm
     replace hp:=aO hp HLEN.out (by decide)
     have hP_z2:=hp
     have E_z2:Pm G (k*89) w z2:=E_z1.trans hm
     clear hP_z1 E_z1
     clear hp hm)
  | ((with_reducible refine aD 3 ?_);refine bI rfl rfl 3 _ _ rfl G (k*89) 88 _ hP_z2 _ #[.int .i64 4] rfl rfl rfl (by exact(by decide:88+1≤89)) (by kernel_rfl) rfl ?_
     intro z3 hp hm
     replace hp:=aO hp (aB HLEN.out) (by decide)
     have hP_z3:=hp
     have E_z3:Pm G (k*89) w z3:=E_z2.trans hm
     clear hP_z2 E_z2
     clear hp hm))
 refine aT (S:=fun W'=>Ext z3 W') (by kernel_rfl) ?_
 intro wd hqx
 have hq0:Ext z3 wd:=hqx
 refine aH 0 G ((k*89)) rfl hq0 ?_
 refine aH 1 G ((k*89)) rfl hq0 ?_
 refine aH 2 G ((k*89)+68) rfl hq0 ?_
 refine tL 3 (_) rfl (yieldsIf_load_mid rfl 30 _ rfl G ((k*89)+68) rfl ([.int .u64 x68,.int .u32 x69,.int .u64 x70,.int .u16 x71,.int .u16 x72]) _ (fun W' hW'=>(hP_z3.ext hW').range (j:=68) (n:=5) ((aM (by decide)).trans ((aM (by decide)).trans HS_68.out)) (by decide)) Tryz.underlying30 rfl (by kernel_rfl)) hq0 ?_
 refine aH 4 G ((k*89)) rfl hq0 ?_
 refine aH 5 G ((k*89)) rfl hq0 ?_
 refine aH 6 G ((k*89)+73) rfl hq0 ?_
 refine tL 7 (_) rfl (yieldsIf_load_mid rfl 30 _ rfl G ((k*89)+73) rfl ([.int .u64 x73,.int .u32 x74,.int .u64 x75,.int .u16 x76,.int .u16 x77]) _ (fun W' hW'=>(hP_z3.ext hW').range (j:=73) (n:=5) ((aM (by decide)).trans ((aM (by decide)).trans HS_73.out)) (by decide)) Tryz.underlying30 rfl (by kernel_rfl)) hq0 ?_
 refine bB (i:=8) rfl rfl (by kernel_rfl) (fun K hK=>?_)
 go_simp
 refine(eM (eJ _ _ _ _ _ _ _ _ _ _ _) HSM.out).mono ?_
 rintro e wc1 ⟨rfl,hx⟩
 have hq1:=hq0.trans hx
 refine hK.out _ _ hq1 (fun hHeld=>?_)
 try simp only[ps]
 clear hK K hHeld
 refine bO 9 ((.bool false)) rfl hq1 ?_
 refine bO 10 ((.bool false)) rfl hq1 ?_
 refine aH 11 G ((k*89)) rfl hq1 ?_
 refine aH 12 G ((k*89)) rfl hq1 ?_
 refine aH 13 G ((k*89)+78) rfl hq1 ?_
 refine tL 14 (_) rfl (yieldsIf_load_mid rfl 24 _ rfl G ((k*89)+78) rfl ([.int .i64 x78,.int .i64 x79,.int .i64 x80,.int .i64 x81]) _ (fun W' hW'=>(hP_z3.ext hW').range (j:=78) (n:=4) ((aM (by decide)).trans ((aM (by decide)).trans HS_78.out)) (by decide)) Tryz.underlying24 rfl (by kernel_rfl)) hq1 ?_
 refine aH 15 G ((k*89)) rfl hq1 ?_
 refine aH 16 G ((k*89)) rfl hq1 ?_
 refine aH 17 G ((k*89)+82) rfl hq1 ?_
 refine tL 18 (_) rfl (yieldsIf_load_mid rfl 24 _ rfl G ((k*89)+82) rfl ([.int .i64 x82,.int .i64 x83,.int .i64 x84,.int .i64 x85]) _ (fun W' hW'=>(hP_z3.ext hW').range (j:=82) (n:=4) ((aM (by decide)).trans ((aM (by decide)).trans HS_82.out)) (by decide)) Tryz.underlying24 rfl (by kernel_rfl)) hq1 ?_
 refine tL 19 ((.bool true)) rfl (Or.inl ⟨rfl,fun W' _=>by go_simp⟩) hq1 ?_
 refine bO 20 ((.bool true)) rfl hq1 ?_
 refine wpAnyH_done (by kernel_rfl) ?_ _
 generalize wc1=z4 at *
 have hP_z4:Pv z4 G (k*89) ((L.set 50 (.bool true)).set 88 (.int .i64 4)):=hP_z3.ext hq1
 have E_z4:Pm G (k*89) w z4:=E_z3.ext hq1
 clear hP_z3 E_z3
 clear hq0 hq1
 go_wp2_with (first
  | fail
  | ((with_reducible refine aD 4 ?_);refine bI rfl rfl 4 _ _ rfl G (k*89) 50 _ hP_z4 _ #[.bool true] rfl rfl rfl (by exact(by decide:50+1≤89)) (by kernel_rfl) rfl ?_
     intro z5 hp hm
     replace hp:=aO hp (aB (aB HLEN.out)) (by decide)
     have hP_z5:=hp
     have E_z5:Pm G (k*89) w z5:=E_z4.trans hm
     clear hP_z4 E_z4
     clear hp hm))
 first
  | go_end0
  | (simp only[Exit.inBlock,Exit.then];refine bodyPost_ret (results_none rfl _ _ _) rfl ?_)
  | refine bodyPost_ret (results_none rfl _ _ _) rfl ?_
 exact⟨rfl,hP_z5,E_z5⟩
theorem tX{w:World}(G k:Nat)(L:List Value)(hP_w:Pv w G (k*89) L)(hl:L.length=89)(X:Nat)(id rp:Int)(np cap:Nat)(hid0:w.cell? ⟨X,0,none⟩=some (.int .u64 id))(hrp:w.cell? ⟨X,12,none⟩=some (.int .i64 rp))(h17:w.cell? ⟨X,17,none⟩=some (.slice (some ⟨G,0,none⟩) np cap))(hXl:X<w.heap.size)(hXG:X≠G)(hk:k<np)(hn:np<1000)(gid:0≤id∧id<18446744073709551616)(x68:Int)(h68:L[68]?=some (.int .u64 x68))(x69:Int)(h69:L[69]?=some (.int .u32 x69))(x70:Int)(h70:L[70]?=some (.int .u64 x70))(x71:Int)(h71:L[71]?=some (.int .u16 x71))(x72:Int)(h72:L[72]?=some (.int .u16 x72))(x73:Int)(h73:L[73]?=some (.int .u64 x73))(x74:Int)(h74:L[74]?=some (.int .u32 x74))(x75:Int)(h75:L[75]?=some (.int .u64 x75))(x76:Int)(h76:L[76]?=some (.int .u16 x76))(x77:Int)(h77:L[77]?=some (.int .u16 x77))(x78:Int)(h78:L[78]?=some (.int .i64 x78))(x79:Int)(h79:L[79]?=some (.int .i64 x79))(x80:Int)(h80:L[80]?=some (.int .i64 x80))(x81:Int)(h81:L[81]?=some (.int .i64 x81))(x82:Int)(h82:L[82]?=some (.int .i64 x82))(x83:Int)(h83:L[83]?=some (.int .i64 x83))(x84:Int)(h84:L[84]?=some (.int .i64 x84))(x85:Int)(h85:L[85]?=some (.int .i64 x85))(h86:L[86]?=some (.int .i64 3))(g70:0≤x70∧x70<18446744073709551616)(hrb:((k:Int) == rp)=false)(hls:(decide ((c4 x73 x74 x75 x76 x68 x69 x70 x71)<0))=true)(hsm:((c4 x68 x69 x70 x71 x73 x74 x75 x76) == 0)=true)(hnt:∀w,(binOp .neq 24 (.agg #[.int .i64 x78,.int .i64 x79,.int .i64 x80,.int .i64 x81]) (.agg #[.int .i64 x82,.int .i64 x83,.int .i64 x84,.int .i64 x85])).run Tryz.prog w=.ok (.bool false) w):Calls Tryz.prog 50 #[.pointer (some ⟨X,0,none⟩),.int .i64 k] w fun e w'=>e=.returned (.tuple #[])∧Pv w' G (k*89) ((L.set 50 (.bool true)).set 88 (.int .i64 4))∧Pm G (k*89) w w':=by
 have HSM:=hD hsm
 clear hsm
 have HLS:=hD hls
 clear hls
 have hk8:k<1000:=by omega
 have hG:=hP_w.lt
 have HLEN:=hD hl
 have HL_68:=hD h68
 have HL_69:=hD h69
 have HL_70:=hD h70
 have HL_71:=hD h71
 have HL_72:=hD h72
 have HL_73:=hD h73
 have HL_74:=hD h74
 have HL_75:=hD h75
 have HL_76:=hD h76
 have HL_77:=hD h77
 have HL_78:=hD h78
 have HL_79:=hD h79
 have HL_80:=hD h80
 have HL_81:=hD h81
 have HL_82:=hD h82
 have HL_83:=hD h83
 have HL_84:=hD h84
 have HL_85:=hD h85
 have HL_86:=hD h86
 have HS_68:=hD (a7 (L:=L) (j:=68) (l:=[.int .u64 x68,.int .u32 x69,.int .u64 x70,.int .u16 x71,.int .u16 x72]) (by rw[hl];exact(by decide:68+5≤89)) (fun i hi=>by
  match i,hi with
  | 0,_=>exact HL_68.out
  | 1,_=>exact HL_69.out
  | 2,_=>exact HL_70.out
  | 3,_=>exact HL_71.out
  | 4,_=>exact HL_72.out
  | i+5,hi=>simp at hi;omega))
 have HS_73:=hD (a7 (L:=L) (j:=73) (l:=[.int .u64 x73,.int .u32 x74,.int .u64 x75,.int .u16 x76,.int .u16 x77]) (by rw[hl];exact(by decide:73+5≤89)) (fun i hi=>by
  match i,hi with
  | 0,_=>exact HL_73.out
  | 1,_=>exact HL_74.out
  | 2,_=>exact HL_75.out
  | 3,_=>exact HL_76.out
  | 4,_=>exact HL_77.out
  | i+5,hi=>simp at hi;omega))
 have HS_78:=hD (a7 (L:=L) (j:=78) (l:=[.int .i64 x78,.int .i64 x79,.int .i64 x80,.int .i64 x81]) (by rw[hl];exact(by decide:78+4≤89)) (fun i hi=>by
  match i,hi with
  | 0,_=>exact HL_78.out
  | 1,_=>exact HL_79.out
  | 2,_=>exact HL_80.out
  | 3,_=>exact HL_81.out
  | i+4,hi=>simp at hi;omega))
 have HS_82:=hD (a7 (L:=L) (j:=82) (l:=[.int .i64 x82,.int .i64 x83,.int .i64 x84,.int .i64 x85]) (by rw[hl];exact(by decide:82+4≤89)) (fun i hi=>by
  match i,hi with
  | 0,_=>exact HL_82.out
  | 1,_=>exact HL_83.out
  | 2,_=>exact HL_84.out
  | 3,_=>exact HL_85.out
  | i+4,hi=>simp at hi;omega))
 clear hl h68 h69 h70 h71 h72 h73 h74 h75 h76 h77 h78 h79 h80 h81 h82 h83 h84 h85 h86
 have H17:=hD h17
 have H12:=hD hrp
 have H0:=hD hid0
 go_enter Tryz.func50,Tryz.ntmps50
 have p86_w:w.cell? ⟨G,(k*89)+86,none⟩=some (.int .i64 3):=(hP_w.cell (j:=86) (by decide)).trans HL_86.out
 go_wp2_with fail
 refine aT (S:=fun W'=>Ext w W') (by kernel_rfl) ?_
 intro wd hqx
 have hq0:Ext w wd:=hqx
 refine bO 0 ((.int .i64 (k:Int))) rfl hq0 ?_
 refine aH 1 X 0 rfl hq0 ?_
 refine aH 2 X 0 rfl hq0 ?_
 refine aH 3 X 12 rfl hq0 ?_
 refine tL 4 (_) rfl (aA rfl 3 _ rfl ⟨X,12,none⟩ rfl (.int .i64 rp) _ (fun W' hW'=>(hW'.cell (p:=⟨X,12,none⟩) hXl).trans H12.out) Tryz.underlying3 rfl) hq0 ?_
 refine tL 5 ((.bool false)) rfl (Or.inl ⟨rfl,fun W' _=>by go_simp⟩) hq0 ?_
 refine bO 6 ((.bool false)) rfl hq0 ?_
 refine aH 7 G ((k*89)) rfl hq0 ?_
 refine aH 8 G ((k*89)) rfl hq0 ?_
 refine aH 9 G ((k*89)+73) rfl hq0 ?_
 refine tL 10 (_) rfl (yieldsIf_load_mid rfl 30 _ rfl G ((k*89)+73) rfl ([.int .u64 x73,.int .u32 x74,.int .u64 x75,.int .u16 x76,.int .u16 x77]) _ (fun W' hW'=>(hP_w.ext hW').range (j:=73) (n:=5) HS_73.out (by decide)) Tryz.underlying30 rfl (by kernel_rfl)) hq0 ?_
 refine aH 12 G ((k*89)) rfl hq0 ?_
 refine aH 13 G ((k*89)) rfl hq0 ?_
 refine aH 14 G ((k*89)+68) rfl hq0 ?_
 refine tL 15 (_) rfl (yieldsIf_load_mid rfl 30 _ rfl G ((k*89)+68) rfl ([.int .u64 x68,.int .u32 x69,.int .u64 x70,.int .u16 x71,.int .u16 x72]) _ (fun W' hW'=>(hP_w.ext hW').range (j:=68) (n:=5) HS_68.out (by decide)) Tryz.underlying30 rfl (by kernel_rfl)) hq0 ?_
 refine kI (i:=11) rfl (by rfl) (by kernel_rfl) (fun K hK=>?_)
 go_simp
 refine(fX _ _ _ _ _ _).mono ?_
 rintro e wc1 ⟨rfl,hx⟩
 have hq1:=hq0.trans hx
 refine hK.out _ _ hq1 (fun hHeld=>?_)
 try simp only[ps]
 clear hK K hHeld
 refine kI (i:=16) rfl (by rfl) (by kernel_rfl) (fun K hK=>?_)
 go_simp
 refine(fX _ _ _ _ _ _).mono ?_
 rintro e wc2 ⟨rfl,hx⟩
 have hq2:=hq1.trans hx
 refine hK.out _ _ hq2 (fun hHeld=>?_)
 try simp only[ps]
 clear hK K hHeld
 refine kI (i:=17) rfl (by rfl) (by kernel_rfl) (fun K hK=>?_)
 go_simp
 refine(eM (fW _ _ _ _ _ _ _ _ _ _ _) ((c50 _ _ _ _ _ _ _ _).trans HLS.out)).mono ?_
 rintro e wc3 ⟨rfl,hx⟩
 have hq3:=hq2.trans hx
 refine hK.out _ _ hq3 (fun hHeld=>?_)
 try simp only[ps]
 clear hK K hHeld
 refine bO 18 ((.bool false)) rfl hq3 ?_
 refine bO 19 ((.bool false)) rfl hq3 ?_
 refine wpAnyH_done (by kernel_rfl) ?_ _
 generalize wc3=z1 at *
 have hP_z1:Pv z1 G (k*89) L:=hP_w.ext hq3
 have E_z1:Pm G (k*89) w z1:=Ext.pm hq3 G (k*89)
 clear hP_w p86_w
 clear hq0 hq1 hq2 hq3
 go_wp2_with (first
  | fail
  | ((with_reducible refine aD 4 ?_);refine bI rfl rfl 4 _ _ rfl G (k*89) 50 _ hP_z1 _ #[.bool true] rfl rfl rfl (by exact(by decide:50+1≤89)) (by kernel_rfl) rfl ?_
     intro z2 hp hm
     replace hp:=aO hp HLEN.out (by decide)
     have hP_z2:=hp
     have E_z2:Pm G (k*89) w z2:=E_z1.trans hm
     clear hP_z1 E_z1
     clear hp hm)
  | ((with_reducible refine aD 3 ?_);refine bI rfl rfl 3 _ _ rfl G (k*89) 88 _ hP_z2 _ #[.int .i64 4] rfl rfl rfl (by exact(by decide:88+1≤89)) (by kernel_rfl) rfl ?_
     intro z3 hp hm
     replace hp:=aO hp (aB HLEN.out) (by decide)
     have hP_z3:=hp
     have E_z3:Pm G (k*89) w z3:=E_z2.trans hm
     clear hP_z2 E_z2
     clear hp hm))
 refine aT (S:=fun W'=>Ext z3 W') (by kernel_rfl) ?_
 intro wd hqx
 have hq0:Ext z3 wd:=hqx
 refine aH 0 G ((k*89)) rfl hq0 ?_
 refine aH 1 G ((k*89)) rfl hq0 ?_
 refine aH 2 G ((k*89)+68) rfl hq0 ?_
 refine tL 3 (_) rfl (yieldsIf_load_mid rfl 30 _ rfl G ((k*89)+68) rfl ([.int .u64 x68,.int .u32 x69,.int .u64 x70,.int .u16 x71,.int .u16 x72]) _ (fun W' hW'=>(hP_z3.ext hW').range (j:=68) (n:=5) ((aM (by decide)).trans ((aM (by decide)).trans HS_68.out)) (by decide)) Tryz.underlying30 rfl (by kernel_rfl)) hq0 ?_
 refine aH 4 G ((k*89)) rfl hq0 ?_
 refine aH 5 G ((k*89)) rfl hq0 ?_
 refine aH 6 G ((k*89)+73) rfl hq0 ?_
 refine tL 7 (_) rfl (yieldsIf_load_mid rfl 30 _ rfl G ((k*89)+73) rfl ([.int .u64 x73,.int .u32 x74,.int .u64 x75,.int .u16 x76,.int .u16 x77]) _ (fun W' hW'=>(hP_z3.ext hW').range (j:=73) (n:=5) ((aM (by decide)).trans ((aM (by decide)).trans HS_73.out)) (by decide)) Tryz.underlying30 rfl (by kernel_rfl)) hq0 ?_
 refine bB (i:=8) rfl rfl (by kernel_rfl) (fun K hK=>?_)
 go_simp
 refine(eM (eJ _ _ _ _ _ _ _ _ _ _ _) HSM.out).mono ?_
 rintro e wc1 ⟨rfl,hx⟩
 have hq1:=hq0.trans hx
 refine hK.out _ _ hq1 (fun hHeld=>?_)
 try simp only[ps]
 clear hK K hHeld
 refine bO 9 ((.bool false)) rfl hq1 ?_
 refine bO 10 ((.bool false)) rfl hq1 ?_
 refine aH 11 G ((k*89)) rfl hq1 ?_
 refine aH 12 G ((k*89)) rfl hq1 ?_
 refine aH 13 G ((k*89)+78) rfl hq1 ?_
 refine tL 14 (_) rfl (yieldsIf_load_mid rfl 24 _ rfl G ((k*89)+78) rfl ([.int .i64 x78,.int .i64 x79,.int .i64 x80,.int .i64 x81]) _ (fun W' hW'=>(hP_z3.ext hW').range (j:=78) (n:=4) ((aM (by decide)).trans ((aM (by decide)).trans HS_78.out)) (by decide)) Tryz.underlying24 rfl (by kernel_rfl)) hq1 ?_
 refine aH 15 G ((k*89)) rfl hq1 ?_
 refine aH 16 G ((k*89)) rfl hq1 ?_
 refine aH 17 G ((k*89)+82) rfl hq1 ?_
 refine tL 18 (_) rfl (yieldsIf_load_mid rfl 24 _ rfl G ((k*89)+82) rfl ([.int .i64 x82,.int .i64 x83,.int .i64 x84,.int .i64 x85]) _ (fun W' hW'=>(hP_z3.ext hW').range (j:=82) (n:=4) ((aM (by decide)).trans ((aM (by decide)).trans HS_82.out)) (by decide)) Tryz.underlying24 rfl (by kernel_rfl)) hq1 ?_
 refine tL 19 ((.bool false)) rfl (Or.inl ⟨rfl,fun W' _=>by go_simp⟩) hq1 ?_
 refine bO 20 ((.bool false)) rfl hq1 ?_
 refine wpAnyH_done (by kernel_rfl) ?_ _
 generalize wc1=z4 at *
 have hP_z4:Pv z4 G (k*89) ((L.set 50 (.bool true)).set 88 (.int .i64 4)):=hP_z3.ext hq1
 have E_z4:Pm G (k*89) w z4:=E_z3.ext hq1
 clear hP_z3 E_z3
 clear hq0 hq1
 go_wp2_with fail
 first
  | go_end0
  | (simp only[Exit.inBlock,Exit.then];refine bodyPost_ret (results_none rfl _ _ _) rfl ?_)
  | refine bodyPost_ret (results_none rfl _ _ _) rfl ?_
 exact⟨rfl,hP_z4,E_z4⟩
def dsL(sm te:Bool)(M:List Value):List Value:=match sm,te with|true,true=>M.set 88 (.int .i64 4)|_,_=>(M.set 88 (.int .i64 4)).set 50 (.bool true)
def smL(L:List Value):Bool:=((c4 (pI L 68) (pI L 69) (pI L 70) (pI L 71) (pI L 73) (pI L 74) (pI L 75) (pI L 76)) == 0)
def teL(L:List Value):Bool:=((pI L 78) == (pI L 82) && (pI L 79) == (pI L 83) && (pI L 80) == (pI L 84) && (pI L 81) == (pI L 85))
def lsL(L:List Value):Bool:=(decide ((c4 (pI L 73) (pI L 74) (pI L 75) (pI L 76) (pI L 68) (pI L 69) (pI L 70) (pI L 71))<0))
def chL(k:Nat)(rp id:Int)(L:List Value):List Value :=
 if pI L 86=0 then L.set 88 (.int .i64 0)
 else if pI L 86=3 then(if((k:Int) == rp || !lsL L)=true then(L.set 88 (.int .i64 (kN k rp (pI L 70) id))).set 50 (.bool false)else dsL (smL L) (teL L) (L.set 50 (.bool true)))
 else if pI L 86=1 then dsL (smL L) (teL L) (L.set 50 (.bool true))
 else if pI L 86=2 then dsL (smL L) (teL L) L
 else L
theorem wI{w:World}(G k:Nat)(L:List Value)(hP_w:Pv w G (k*89) L)(hT:Typed PL L)(X:Nat)(id rp:Int)(np cap:Nat)(hid0:w.cell? ⟨X,0,none⟩=some (.int .u64 id))(hrp:w.cell? ⟨X,12,none⟩=some (.int .i64 rp))(h17:w.cell? ⟨X,17,none⟩=some (.slice (some ⟨G,0,none⟩) np cap))(hXl:X<w.heap.size)(hXG:X≠G)(hk:k<np)(hn:np<1000)(gid:0≤id∧id<18446744073709551616):Calls Tryz.prog 50 #[.pointer (some ⟨X,0,none⟩),.int .i64 k] w fun e w'=>e=.returned (.tuple #[])∧Pv w' G (k*89) (chL k rp id L)∧Pm G (k*89) w w':=by
 have hl:=nT hT
 have g70:=mY (oI hT 70 rfl)
 have h86:=aR hT 86 rfl
 unfold chL
 by_cases e0:pI L 86=0
 ·rw[if_pos e0]
  rw[e0]at h86
  exact aDD G k L hP_w hl X id rp np cap hid0 hrp h17 hXl hXG hk hn gid _ (aR hT 68 rfl) _ (aR hT 69 rfl) _ (aR hT 70 rfl) _ (aR hT 71 rfl) _ (aR hT 72 rfl) _ (aR hT 73 rfl) _ (aR hT 74 rfl) _ (aR hT 75 rfl) _ (aR hT 76 rfl) _ (aR hT 77 rfl) _ (aR hT 78 rfl) _ (aR hT 79 rfl) _ (aR hT 80 rfl) _ (aR hT 81 rfl) _ (aR hT 82 rfl) _ (aR hT 83 rfl) _ (aR hT 84 rfl) _ (aR hT 85 rfl) h86 g70
 rw[if_neg e0]
 obtain⟨sm,hsm⟩:∃b,smL L=b:=⟨_,rfl⟩
 obtain⟨te,hte⟩:∃b,teL L=b:=⟨_,rfl⟩
 rw[hsm,hte]
 unfold smL at hsm
 unfold teL at hte
 by_cases e3:pI L 86=3
 ·rw [if_pos e3]
  rw[e3]at h86
  cases hrb:((k:Int) == rp)
  ·cases hls:lsL L
   ·simp only[Bool.false_or,Bool.not_false,if_true]
    exact wH G k L hP_w hl X id rp np cap hid0 hrp h17 hXl hXG hk hn gid _ (aR hT 68 rfl) _ (aR hT 69 rfl) _ (aR hT 70 rfl) _ (aR hT 71 rfl) _ (aR hT 72 rfl) _ (aR hT 73 rfl) _ (aR hT 74 rfl) _ (aR hT 75 rfl) _ (aR hT 76 rfl) _ (aR hT 77 rfl) _ (aR hT 78 rfl) _ (aR hT 79 rfl) _ (aR hT 80 rfl) _ (aR hT 81 rfl) _ (aR hT 82 rfl) _ (aR hT 83 rfl) _ (aR hT 84 rfl) _ (aR hT 85 rfl) h86 g70 hrb hls
   ·simp only[Bool.false_or,Bool.not_true,Bool.false_eq_true,if_false]
    cases sm
    ·exact tT G k L hP_w hl X id rp np cap hid0 hrp h17 hXl hXG hk hn gid _ (aR hT 68 rfl) _ (aR hT 69 rfl) _ (aR hT 70 rfl) _ (aR hT 71 rfl) _ (aR hT 72 rfl) _ (aR hT 73 rfl) _ (aR hT 74 rfl) _ (aR hT 75 rfl) _ (aR hT 76 rfl) _ (aR hT 77 rfl) _ (aR hT 78 rfl) _ (aR hT 79 rfl) _ (aR hT 80 rfl) _ (aR hT 81 rfl) _ (aR hT 82 rfl) _ (aR hT 83 rfl) _ (aR hT 84 rfl) _ (aR hT 85 rfl) h86 g70 hrb hls hsm
    ·cases te
     ·exact tU G k L hP_w hl X id rp np cap hid0 hrp h17 hXl hXG hk hn gid _ (aR hT 68 rfl) _ (aR hT 69 rfl) _ (aR hT 70 rfl) _ (aR hT 71 rfl) _ (aR hT 72 rfl) _ (aR hT 73 rfl) _ (aR hT 74 rfl) _ (aR hT 75 rfl) _ (aR hT 76 rfl) _ (aR hT 77 rfl) _ (aR hT 78 rfl) _ (aR hT 79 rfl) _ (aR hT 80 rfl) _ (aR hT 81 rfl) _ (aR hT 82 rfl) _ (aR hT 83 rfl) _ (aR hT 84 rfl) _ (aR hT 85 rfl) h86 g70 hrb hls hsm (fun w=>(iR w (pI L 78) (pI L 79) (pI L 80) (pI L 81) (pI L 82) (pI L 83) (pI L 84) (pI L 85)).trans (by rw[hte];rfl))
     ·exact tX G k L hP_w hl X id rp np cap hid0 hrp h17 hXl hXG hk hn gid _ (aR hT 68 rfl) _ (aR hT 69 rfl) _ (aR hT 70 rfl) _ (aR hT 71 rfl) _ (aR hT 72 rfl) _ (aR hT 73 rfl) _ (aR hT 74 rfl) _ (aR hT 75 rfl) _ (aR hT 76 rfl) _ (aR hT 77 rfl) _ (aR hT 78 rfl) _ (aR hT 79 rfl) _ (aR hT 80 rfl) _ (aR hT 81 rfl) _ (aR hT 82 rfl) _ (aR hT 83 rfl) _ (aR hT 84 rfl) _ (aR hT 85 rfl) h86 g70 hrb hls hsm (fun w=>(iR w (pI L 78) (pI L 79) (pI L 80) (pI L 81) (pI L 82) (pI L 83) (pI L 84) (pI L 85)).trans (by rw[hte];rfl))
  ·simp only[Bool.true_or,if_true]
   exact wG G k L hP_w hl X id rp np cap hid0 hrp h17 hXl hXG hk hn gid _ (aR hT 68 rfl) _ (aR hT 69 rfl) _ (aR hT 70 rfl) _ (aR hT 71 rfl) _ (aR hT 72 rfl) _ (aR hT 73 rfl) _ (aR hT 74 rfl) _ (aR hT 75 rfl) _ (aR hT 76 rfl) _ (aR hT 77 rfl) _ (aR hT 78 rfl) _ (aR hT 79 rfl) _ (aR hT 80 rfl) _ (aR hT 81 rfl) _ (aR hT 82 rfl) _ (aR hT 83 rfl) _ (aR hT 84 rfl) _ (aR hT 85 rfl) h86 g70 hrb
 rw[if_neg e3]
 by_cases e1:pI L 86=1
 ·rw [if_pos e1]
  rw[e1]at h86
  cases sm
  ·exact tQ G k L hP_w hl X id rp np cap hid0 hrp h17 hXl hXG hk hn gid _ (aR hT 68 rfl) _ (aR hT 69 rfl) _ (aR hT 70 rfl) _ (aR hT 71 rfl) _ (aR hT 72 rfl) _ (aR hT 73 rfl) _ (aR hT 74 rfl) _ (aR hT 75 rfl) _ (aR hT 76 rfl) _ (aR hT 77 rfl) _ (aR hT 78 rfl) _ (aR hT 79 rfl) _ (aR hT 80 rfl) _ (aR hT 81 rfl) _ (aR hT 82 rfl) _ (aR hT 83 rfl) _ (aR hT 84 rfl) _ (aR hT 85 rfl) h86 g70 hsm
  ·cases te
   ·exact tR G k L hP_w hl X id rp np cap hid0 hrp h17 hXl hXG hk hn gid _ (aR hT 68 rfl) _ (aR hT 69 rfl) _ (aR hT 70 rfl) _ (aR hT 71 rfl) _ (aR hT 72 rfl) _ (aR hT 73 rfl) _ (aR hT 74 rfl) _ (aR hT 75 rfl) _ (aR hT 76 rfl) _ (aR hT 77 rfl) _ (aR hT 78 rfl) _ (aR hT 79 rfl) _ (aR hT 80 rfl) _ (aR hT 81 rfl) _ (aR hT 82 rfl) _ (aR hT 83 rfl) _ (aR hT 84 rfl) _ (aR hT 85 rfl) h86 g70 hsm (fun w=>(iR w (pI L 78) (pI L 79) (pI L 80) (pI L 81) (pI L 82) (pI L 83) (pI L 84) (pI L 85)).trans (by rw[hte];rfl))
   ·exact tS G k L hP_w hl X id rp np cap hid0 hrp h17 hXl hXG hk hn gid _ (aR hT 68 rfl) _ (aR hT 69 rfl) _ (aR hT 70 rfl) _ (aR hT 71 rfl) _ (aR hT 72 rfl) _ (aR hT 73 rfl) _ (aR hT 74 rfl) _ (aR hT 75 rfl) _ (aR hT 76 rfl) _ (aR hT 77 rfl) _ (aR hT 78 rfl) _ (aR hT 79 rfl) _ (aR hT 80 rfl) _ (aR hT 81 rfl) _ (aR hT 82 rfl) _ (aR hT 83 rfl) _ (aR hT 84 rfl) _ (aR hT 85 rfl) h86 g70 hsm (fun w=>(iR w (pI L 78) (pI L 79) (pI L 80) (pI L 81) (pI L 82) (pI L 83) (pI L 84) (pI L 85)).trans (by rw[hte];rfl))
 rw[if_neg e1]
 by_cases e2:pI L 86=2
 ·rw [if_pos e2]
  rw[e2]at h86
  cases sm
  ·exact tN G k L hP_w hl X id rp np cap hid0 hrp h17 hXl hXG hk hn gid _ (aR hT 68 rfl) _ (aR hT 69 rfl) _ (aR hT 70 rfl) _ (aR hT 71 rfl) _ (aR hT 72 rfl) _ (aR hT 73 rfl) _ (aR hT 74 rfl) _ (aR hT 75 rfl) _ (aR hT 76 rfl) _ (aR hT 77 rfl) _ (aR hT 78 rfl) _ (aR hT 79 rfl) _ (aR hT 80 rfl) _ (aR hT 81 rfl) _ (aR hT 82 rfl) _ (aR hT 83 rfl) _ (aR hT 84 rfl) _ (aR hT 85 rfl) h86 g70 hsm
  ·cases te
   ·exact tO G k L hP_w hl X id rp np cap hid0 hrp h17 hXl hXG hk hn gid _ (aR hT 68 rfl) _ (aR hT 69 rfl) _ (aR hT 70 rfl) _ (aR hT 71 rfl) _ (aR hT 72 rfl) _ (aR hT 73 rfl) _ (aR hT 74 rfl) _ (aR hT 75 rfl) _ (aR hT 76 rfl) _ (aR hT 77 rfl) _ (aR hT 78 rfl) _ (aR hT 79 rfl) _ (aR hT 80 rfl) _ (aR hT 81 rfl) _ (aR hT 82 rfl) _ (aR hT 83 rfl) _ (aR hT 84 rfl) _ (aR hT 85 rfl) h86 g70 hsm (fun w=>(iR w (pI L 78) (pI L 79) (pI L 80) (pI L 81) (pI L 82) (pI L 83) (pI L 84) (pI L 85)).trans (by rw[hte];rfl))
   ·exact tP G k L hP_w hl X id rp np cap hid0 hrp h17 hXl hXG hk hn gid _ (aR hT 68 rfl) _ (aR hT 69 rfl) _ (aR hT 70 rfl) _ (aR hT 71 rfl) _ (aR hT 72 rfl) _ (aR hT 73 rfl) _ (aR hT 74 rfl) _ (aR hT 75 rfl) _ (aR hT 76 rfl) _ (aR hT 77 rfl) _ (aR hT 78 rfl) _ (aR hT 79 rfl) _ (aR hT 80 rfl) _ (aR hT 81 rfl) _ (aR hT 82 rfl) _ (aR hT 83 rfl) _ (aR hT 84 rfl) _ (aR hT 85 rfl) h86 g70 hsm (fun w=>(iR w (pI L 78) (pI L 79) (pI L 80) (pI L 81) (pI L 82) (pI L 83) (pI L 84) (pI L 85)).trans (by rw[hte];rfl))
 rw[if_neg e2]
 exact aA2 G k L hP_w hl X id rp np cap hid0 hrp h17 hXl hXG hk hn gid _ (aR hT 68 rfl) _ (aR hT 69 rfl) _ (aR hT 70 rfl) _ (aR hT 71 rfl) _ (aR hT 72 rfl) _ (aR hT 73 rfl) _ (aR hT 74 rfl) _ (aR hT 75 rfl) _ (aR hT 76 rfl) _ (aR hT 77 rfl) _ (aR hT 78 rfl) _ (aR hT 79 rfl) _ (aR hT 80 rfl) _ (aR hT 81 rfl) _ (aR hT 82 rfl) _ (aR hT 83 rfl) _ (aR hT 84 rfl) _ (aR hT 85 rfl) _ h86 g70 ⟨jM e0,jM e1,jM e2,jM e3⟩
def oD(B:Br):Nat→Bool|0=>false|n+1=>oD B n || B.gb n 43
def lW(B:Br)(n:Nat):Br:=B.upd 43 (fun _=>.bool false) n
theorem o4{B:Br}(ho:B.ok){n:Nat}(h:n≤B.np):(lW B n).ok:=oY ho (by decide) (fun i c hc=>by
 obtain rfl:c=none:=by
  have:PL[43]?=some none:=rfl
  rw[this]at hc
  cases hc
  rfl
 exact⟨false,rfl⟩) n h
theorem aI4{B:Br}(ho:B.ok){n:Nat}(h:n<B.np):(lW B n).ps[n*89+43]?=some (.bool (B.gb n 43)):=by
 unfold lW
 rw[l6 B (by decide) _ (by rw[ho.len];exact Nat.mul_le_mul_right _ (by omega)) (by decide),if_neg (by omega)]
 exact ho.gb h 43 rfl
theorem aA3(w:World)(F:Nat→Prop)(X g:Nat)(B:Br)(h:BrG w F X g B)(ho:B.ok)(hn:B.np<1000):
    Calls Tryz.prog 47 #[.pointer (some ⟨X,0,none⟩)] w fun e w'=>e=.returned (.bool (oD B B.np))∧BrG w' F X g (lW B B.np)∧Mut F w w':=by
 obtain⟨hX,hg,hne⟩:=h.lt
 obtain⟨cap,c17,hc1,hc2⟩:=h.cell17 ho
 have H:=hD h
 clear h
 go_enter Tryz.func47,Tryz.ntmps47
 go_wp2_with fail
 go_loopw [11,3] (fun v a wr=>∃n:Nat,n≤B.np∧v=.int .i64 n∧a=.bool (oD B n)∧BrG wr F X g (lW B n)∧Mut F w wr) (fun v _ _=>B.np - (intOf v).toNat)
 case atStart=>exact⟨0,by omega,rfl,rfl,H.out,Mut.refl F w⟩
 case round =>
  clear c17
  obtain⟨n,hn2,rfl,rfl,hB,hm⟩:=hrel
  have HB:=hD hB
  have HM:=hD hm
  clear hB hm
  have okn:=o4 ho hn2
  have hnp:(lW B n).np=B.np:=gS B 43 _ n
  obtain⟨cap2,c17,hc3,hc4⟩:=HB.out.cell17 okn
  rw[hnp]at c17 hc3
  by_cases hlt:n<B.np
  ·have hkn:n<(lW B n).np:=by rw[hnp];exact hlt
   have p43:=(HB.out.cellg (i:=n*89+43) (bZ hkn (by decide))).trans (aI4 ho hlt)
   have hfr:=HB.out.frozen
   have hA:oD B (n+1)=(oD B n || B.gb n 43):=rfl
   obtain⟨x,hx⟩:∃x,oD B n=x:=⟨_,rfl⟩
   rw[hx]at hA ⊢
   have HA:=hD hA
   clear hA hx
   cases x
   ·go_wp2_with fail
    go_roundw
    case rel=>exact⟨n+1,by omega,by go_num,by rw[HA.out];rfl,HB.out.setp (k:=n) (j:=43) hkn (by decide) _,HM.out.setCell (.inl HB.out.F2) _⟩
    case measure=>simp[intOf];omega
   ·go_wp2_with fail
    go_roundw
    case rel=>exact⟨n+1,by omega,by go_num,by rw[HA.out];rfl,HB.out.setp (k:=n) (j:=43) hkn (by decide) _,HM.out.setCell (.inl HB.out.F2) _⟩
    case measure=>simp[intOf];omega
  ·obtain rfl:n=B.np:=by omega
   go_wp2_with fail
   go_ret
   exact⟨rfl,HB.out,HM.out⟩
structure R5 where
 r:Int
 c:Int
 b:Int
 p:Int
 x:Int
 at_:Int
def hZ(B:Br)(i:Nat):Bool:=(B.gi i 86 == 3) && !l9 (B.gi i 70) (B.hi 0)
def R5.lt(v:R5)(r c b p x:Int):Bool:=decide (c5 r c b p x v.r v.c v.b v.p v.x<0)
def fC(B:Br):Nat→R5
 | 0=>⟨B.hi 0,0,B.hi 0,0,0,-1⟩
 | n+1=>if(hZ B n && (fC B n).lt (B.gi n 68) (oC (B.gi n 69) (B.gi n 1)) (B.gi n 70) (B.gi n 71) (B.gi n 0))=true then⟨B.gi n 68,oC (B.gi n 69) (B.gi n 1),B.gi n 70,B.gi n 71,B.gi n 0,n⟩else fC B n
def R5.cells(v:R5):Array Value:=#[.int .u64 v.r,.int .u32 v.c,.int .u64 v.b,.int .u16 v.p,.int .u16 v.x]
end Go.Proofs.YtpanapepcbbagaaGreat
