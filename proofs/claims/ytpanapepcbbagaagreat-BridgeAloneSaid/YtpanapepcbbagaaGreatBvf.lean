/- Part 6 of what BridgeRests stands on. No statement is proved here. -/
import Derived.Laws.BitsAllLaws
import Derived.Test.YtpanapepcbbagaaGreatBve
set_option linter.unusedVariables false
set_option linter.unusedSimpArgs false
set_option maxRecDepth 100000
set_option maxHeartbeats 8000000
namespace Go.Proofs.YtpanapepcbbagaaGreat
open Go.RowKit Go.BigFrame Go.WideShapes Go.ChangeShapes Go.Deep
def kN(k:Nat)(rp b id:Int):Int:=if((k:Int) == rp)=true then 3 else if l9 b id=true then 2 else 1
theorem aDB{w:World}(G k:Nat)(L:List Value)(hP_w:Pv w G (k*89) L)(hl:L.length=89)(X:Nat)(id rp:Int)(np cap:Nat)(hid0:w.cell? ⟨X,0,none⟩=some (.int .u64 id))(hrp:w.cell? ⟨X,12,none⟩=some (.int .i64 rp))(h17:w.cell? ⟨X,17,none⟩=some (.slice (some ⟨G,0,none⟩) np cap))(hXl:X<w.heap.size)(hXG:X≠G)(hk:k<np)(hn:np<1000)(gid:0≤id∧id<18446744073709551616)(hs:((k:Int) == rp)=true):Calls Tryz.prog 66 #[.pointer (some ⟨X,0,none⟩),.int .i64 k] w fun e w'=>e=.returned (.int .i64 3)∧Ext w w':=by
 have hk8:k<1000:=by omega
 go_enter Tryz.func66,Tryz.ntmps66
 go_wp2
 go_ret
 exact⟨rfl,Ext.refl _⟩
theorem aDC{w:World}(G k:Nat)(L:List Value)(hP_w:Pv w G (k*89) L)(hl:L.length=89)(X:Nat)(id rp:Int)(np cap:Nat)(hid0:w.cell? ⟨X,0,none⟩=some (.int .u64 id))(hrp:w.cell? ⟨X,12,none⟩=some (.int .i64 rp))(h17:w.cell? ⟨X,17,none⟩=some (.slice (some ⟨G,0,none⟩) np cap))(hXl:X<w.heap.size)(hXG:X≠G)(hk:k<np)(hn:np<1000)(gid:0≤id∧id<18446744073709551616)(x70:Int)(h70:L[70]?=some (.int .u64 x70))(g70:0≤x70∧x70<18446744073709551616)(hs:((k:Int) == rp)=false):Calls Tryz.prog 66 #[.pointer (some ⟨X,0,none⟩),.int .i64 k] w fun e w'=>e=.returned (.int .i64 (if l9 x70 id=true then 2 else 1))∧Ext w w':=by
 obtain⟨sm,hsm⟩:∃b,l9 x70 id=b:=⟨_,rfl⟩
 rw[hsm]
 have HSM:=hD hsm
 clear hsm
 have hk8:k<1000:=by omega
 go_enter Tryz.func66,Tryz.ntmps66
 go_wp2_with fail
 refine aT (S:=fun W'=>Ext w W') (by kernel_rfl) ?_
 intro wd hqx
 have hq0:Ext w wd:=hqx
 refine aH 0 X 0 rfl hq0 ?_
 refine aH 1 X 0 rfl hq0 ?_
 refine aH 2 X 17 rfl hq0 ?_
 refine tL 3 (_) rfl (aA rfl 31 _ rfl ⟨X,17,none⟩ rfl (.slice (some ⟨G,0,none⟩) np cap) _ (fun W' hW'=>(hW'.cell (p:=⟨X,17,none⟩) hXl).trans h17) Tryz.underlying31 rfl) hq0 ?_
 refine bO 4 ((.int .i64 (k:Int))) rfl hq0 ?_
 refine tL 5 ((.pointer (some ⟨G,(k*89),none⟩))) rfl (Or.inl ⟨rfl,fun W' _=>by go_simp⟩) hq0 ?_
 refine aH 6 G ((k*89)+68) rfl hq0 ?_
 refine aH 7 G ((k*89)+70) rfl hq0 ?_
 refine tL 8 (_) rfl (aA rfl 22 _ rfl ⟨G,(k*89)+70,none⟩ rfl (.int .u64 x70) _ (fun W' hW'=>((hP_w.ext hW').cell (j:=70) (by decide)).trans h70) Tryz.underlying22 rfl) hq0 ?_
 refine aH 9 X 0 rfl hq0 ?_
 refine aH 10 X 0 rfl hq0 ?_
 refine aH 11 X 0 rfl hq0 ?_
 refine tL 12 (_) rfl (aA rfl 22 _ rfl ⟨X,0,none⟩ rfl (.int .u64 id) _ (fun W' hW'=>(hW'.cell (p:=⟨X,0,none⟩) hXl).trans hid0) Tryz.underlying22 rfl) hq0 ?_
 refine bB (i:=13) rfl rfl (by kernel_rfl) (fun K hK=>?_)
 go_simp
 refine(eM (o3 _ _ _ g70 gid) HSM.out).mono ?_
 rintro e wc1 ⟨rfl,hx⟩
 have hq1:=hq0.trans hx
 refine hK.out _ _ hq1 (fun hHeld=>?_)
 try simp only[ps]
 clear hK K hHeld
 refine bO 14 ((.bool sm)) rfl hq1 ?_
 refine wpAnyH_done (by kernel_rfl) ?_ _
 cases sm
 ·go_wp2_with fail
  go_ret
  exact⟨rfl,hq1⟩
 ·go_wp2_with fail
  go_ret
  exact⟨rfl,hq1⟩
theorem qY{w:World}(G k:Nat)(L:List Value)(hP_w:Pv w G (k*89) L)(hl:L.length=89)(X:Nat)(id rp:Int)(np cap:Nat)(hid0:w.cell? ⟨X,0,none⟩=some (.int .u64 id))(hrp:w.cell? ⟨X,12,none⟩=some (.int .i64 rp))(h17:w.cell? ⟨X,17,none⟩=some (.slice (some ⟨G,0,none⟩) np cap))(hXl:X<w.heap.size)(hXG:X≠G)(hk:k<np)(hn:np<1000)(gid:0≤id∧id<18446744073709551616)(x70:Int)(h70:L[70]?=some (.int .u64 x70))(g70:0≤x70∧x70<18446744073709551616):Calls Tryz.prog 66 #[.pointer (some ⟨X,0,none⟩),.int .i64 k] w fun e w'=>e=.returned (.int .i64 (kN k rp x70 id))∧Ext w w':=by
 unfold kN
 cases hs:((k:Int) == rp)
 ·exact aDC G k L hP_w hl X id rp np cap hid0 hrp h17 hXl hXG hk hn gid x70 h70 g70 hs
 ·exact aDB G k L hP_w hl X id rp np cap hid0 hrp h17 hXl hXG hk hn gid hs
theorem iR(w:World)(a m h d a' m' h' d':Int):(binOp .neq 24 (.agg #[.int .i64 a,.int .i64 m,.int .i64 h,.int .i64 d]) (.agg #[.int .i64 a',.int .i64 m',.int .i64 h',.int .i64 d'])).run Tryz.prog w =
    .ok (.bool (!(a == a' && m == m' && h == h' && d == d'))) w:=by
 have k1:Tryz.prog.stoodInHeld 24=false:=by kernel_rfl
 simp[go_sem,k1,Tryz.underlying24]
 split
 ·split
  ·split
   ·split<;>simp_all
   ·simp_all
  ·simp_all
 ·simp_all
theorem c50(r c b p r' c' b' p':Int):decide (c5 r c b p 0 r' c' b' p' 0<0)=decide (c4 r c b p r' c' b' p'<0):=by
 rw[aIB]
 split
 ·rename_i h;rw[h];decide
 ·rfl
theorem aDD{w:World}(G k:Nat)(L:List Value)(hP_w:Pv w G (k*89) L)(hl:L.length=89)(X:Nat)(id rp:Int)(np cap:Nat)(hid0:w.cell? ⟨X,0,none⟩=some (.int .u64 id))(hrp:w.cell? ⟨X,12,none⟩=some (.int .i64 rp))(h17:w.cell? ⟨X,17,none⟩=some (.slice (some ⟨G,0,none⟩) np cap))(hXl:X<w.heap.size)(hXG:X≠G)(hk:k<np)(hn:np<1000)(gid:0≤id∧id<18446744073709551616)(x68:Int)(h68:L[68]?=some (.int .u64 x68))(x69:Int)(h69:L[69]?=some (.int .u32 x69))(x70:Int)(h70:L[70]?=some (.int .u64 x70))(x71:Int)(h71:L[71]?=some (.int .u16 x71))(x72:Int)(h72:L[72]?=some (.int .u16 x72))(x73:Int)(h73:L[73]?=some (.int .u64 x73))(x74:Int)(h74:L[74]?=some (.int .u32 x74))(x75:Int)(h75:L[75]?=some (.int .u64 x75))(x76:Int)(h76:L[76]?=some (.int .u16 x76))(x77:Int)(h77:L[77]?=some (.int .u16 x77))(x78:Int)(h78:L[78]?=some (.int .i64 x78))(x79:Int)(h79:L[79]?=some (.int .i64 x79))(x80:Int)(h80:L[80]?=some (.int .i64 x80))(x81:Int)(h81:L[81]?=some (.int .i64 x81))(x82:Int)(h82:L[82]?=some (.int .i64 x82))(x83:Int)(h83:L[83]?=some (.int .i64 x83))(x84:Int)(h84:L[84]?=some (.int .i64 x84))(x85:Int)(h85:L[85]?=some (.int .i64 x85))(h86:L[86]?=some (.int .i64 0))(g70:0≤x70∧x70<18446744073709551616):Calls Tryz.prog 50 #[.pointer (some ⟨X,0,none⟩),.int .i64 k] w fun e w'=>e=.returned (.tuple #[])∧Pv w' G (k*89) (L.set 88 (.int .i64 0))∧Pm G (k*89) w w':=by
 have hk8:k<1000:=by omega
 have hG:=hP_w.lt
 have HLEN:=hD hl
 have HL_68:=hD h68
 have HL_69:=hD h69
 have HL_70:=hD h70
 have HL_71:=hD h71
 have HL_72:=hD h72
 have HL_73:=hD h73
 have HL_74:=hD h74
 have HL_75:=hD h75
 have HL_76:=hD h76
 have HL_77:=hD h77
 have HL_78:=hD h78
 have HL_79:=hD h79
 have HL_80:=hD h80
 have HL_81:=hD h81
 have HL_82:=hD h82
 have HL_83:=hD h83
 have HL_84:=hD h84
 have HL_85:=hD h85
 have HL_86:=hD h86
 clear hl h68 h69 h70 h71 h72 h73 h74 h75 h76 h77 h78 h79 h80 h81 h82 h83 h84 h85 h86
 have H17:=hD h17
 have H12:=hD hrp
 have H0:=hD hid0
 go_enter Tryz.func50,Tryz.ntmps50
 have p86_w:w.cell? ⟨G,(k*89)+86,none⟩=some (.int .i64 0):=(hP_w.cell (j:=86) (by decide)).trans HL_86.out
 go_wp2_with (first
  | fail
  | ((with_reducible refine aD 3 ?_);refine bI rfl rfl 3 _ _ rfl G (k*89) 88 _ hP_w _ #[.int .i64 0] rfl rfl rfl (by exact(by decide:88+1≤89)) (by kernel_rfl) rfl ?_
     intro z1 hp hm
     replace hp:=aO hp HLEN.out (by decide)
     have hP_z1:=hp
     have E_z1:Pm G (k*89) w z1:=hm
     clear hP_w p86_w
     clear hp hm))
 first
  | go_end0
  | (simp only[Exit.inBlock,Exit.then];refine bodyPost_ret (results_none rfl _ _ _) rfl ?_)
  | refine bodyPost_ret (results_none rfl _ _ _) rfl ?_
 exact⟨rfl,hP_z1,E_z1⟩
theorem aA2{w:World}(G k:Nat)(L:List Value)(hP_w:Pv w G (k*89) L)(hl:L.length=89)(X:Nat)(id rp:Int)(np cap:Nat)(hid0:w.cell? ⟨X,0,none⟩=some (.int .u64 id))(hrp:w.cell? ⟨X,12,none⟩=some (.int .i64 rp))(h17:w.cell? ⟨X,17,none⟩=some (.slice (some ⟨G,0,none⟩) np cap))(hXl:X<w.heap.size)(hXG:X≠G)(hk:k<np)(hn:np<1000)(gid:0≤id∧id<18446744073709551616)(x68:Int)(h68:L[68]?=some (.int .u64 x68))(x69:Int)(h69:L[69]?=some (.int .u32 x69))(x70:Int)(h70:L[70]?=some (.int .u64 x70))(x71:Int)(h71:L[71]?=some (.int .u16 x71))(x72:Int)(h72:L[72]?=some (.int .u16 x72))(x73:Int)(h73:L[73]?=some (.int .u64 x73))(x74:Int)(h74:L[74]?=some (.int .u32 x74))(x75:Int)(h75:L[75]?=some (.int .u64 x75))(x76:Int)(h76:L[76]?=some (.int .u16 x76))(x77:Int)(h77:L[77]?=some (.int .u16 x77))(x78:Int)(h78:L[78]?=some (.int .i64 x78))(x79:Int)(h79:L[79]?=some (.int .i64 x79))(x80:Int)(h80:L[80]?=some (.int .i64 x80))(x81:Int)(h81:L[81]?=some (.int .i64 x81))(x82:Int)(h82:L[82]?=some (.int .i64 x82))(x83:Int)(h83:L[83]?=some (.int .i64 x83))(x84:Int)(h84:L[84]?=some (.int .i64 x84))(x85:Int)(h85:L[85]?=some (.int .i64 x85))(x86:Int)(h86:L[86]?=some (.int .i64 x86))(g70:0≤x70∧x70<18446744073709551616)(hno:(x86 == 0)=false∧(x86 == 1)=false∧(x86 == 2)=false∧(x86 == 3)=false):Calls Tryz.prog 50 #[.pointer (some ⟨X,0,none⟩),.int .i64 k] w fun e w'=>e=.returned (.tuple #[])∧Pv w' G (k*89) L∧Pm G (k*89) w w':=by
 obtain⟨n0,n1,n2,n3⟩:=hno
 have hk8:k<1000:=by omega
 have hG:=hP_w.lt
 have HLEN:=hD hl
 have HL_68:=hD h68
 have HL_69:=hD h69
 have HL_70:=hD h70
 have HL_71:=hD h71
 have HL_72:=hD h72
 have HL_73:=hD h73
 have HL_74:=hD h74
 have HL_75:=hD h75
 have HL_76:=hD h76
 have HL_77:=hD h77
 have HL_78:=hD h78
 have HL_79:=hD h79
 have HL_80:=hD h80
 have HL_81:=hD h81
 have HL_82:=hD h82
 have HL_83:=hD h83
 have HL_84:=hD h84
 have HL_85:=hD h85
 have HL_86:=hD h86
 clear hl h68 h69 h70 h71 h72 h73 h74 h75 h76 h77 h78 h79 h80 h81 h82 h83 h84 h85 h86
 have H17:=hD h17
 have H12:=hD hrp
 have H0:=hD hid0
 go_enter Tryz.func50,Tryz.ntmps50
 have p86_w:w.cell? ⟨G,(k*89)+86,none⟩=some (.int .i64 x86):=(hP_w.cell (j:=86) (by decide)).trans HL_86.out
 go_wp2_with fail
 first
  | go_end0
  | (simp only[Exit.inBlock,Exit.then];refine bodyPost_ret (results_none rfl _ _ _) rfl ?_)
  | refine bodyPost_ret (results_none rfl _ _ _) rfl ?_
 exact⟨rfl,hP_w,Pm.refl _ _ _⟩
theorem tN{w:World}(G k:Nat)(L:List Value)(hP_w:Pv w G (k*89) L)(hl:L.length=89)(X:Nat)(id rp:Int)(np cap:Nat)(hid0:w.cell? ⟨X,0,none⟩=some (.int .u64 id))(hrp:w.cell? ⟨X,12,none⟩=some (.int .i64 rp))(h17:w.cell? ⟨X,17,none⟩=some (.slice (some ⟨G,0,none⟩) np cap))(hXl:X<w.heap.size)(hXG:X≠G)(hk:k<np)(hn:np<1000)(gid:0≤id∧id<18446744073709551616)(x68:Int)(h68:L[68]?=some (.int .u64 x68))(x69:Int)(h69:L[69]?=some (.int .u32 x69))(x70:Int)(h70:L[70]?=some (.int .u64 x70))(x71:Int)(h71:L[71]?=some (.int .u16 x71))(x72:Int)(h72:L[72]?=some (.int .u16 x72))(x73:Int)(h73:L[73]?=some (.int .u64 x73))(x74:Int)(h74:L[74]?=some (.int .u32 x74))(x75:Int)(h75:L[75]?=some (.int .u64 x75))(x76:Int)(h76:L[76]?=some (.int .u16 x76))(x77:Int)(h77:L[77]?=some (.int .u16 x77))(x78:Int)(h78:L[78]?=some (.int .i64 x78))(x79:Int)(h79:L[79]?=some (.int .i64 x79))(x80:Int)(h80:L[80]?=some (.int .i64 x80))(x81:Int)(h81:L[81]?=some (.int .i64 x81))(x82:Int)(h82:L[82]?=some (.int .i64 x82))(x83:Int)(h83:L[83]?=some (.int .i64 x83))(x84:Int)(h84:L[84]?=some (.int .i64 x84))(x85:Int)(h85:L[85]?=some (.int .i64 x85))(h86:L[86]?=some (.int .i64 2))(g70:0≤x70∧x70<18446744073709551616)(hsm:((c4 x68 x69 x70 x71 x73 x74 x75 x76) == 0)=false):Calls Tryz.prog 50 #[.pointer (some ⟨X,0,none⟩),.int .i64 k] w fun e w'=>e=.returned (.tuple #[])∧Pv w' G (k*89) ((L.set 88 (.int .i64 4)).set 50 (.bool true))∧Pm G (k*89) w w':=by
 have HSM:=hD hsm
 clear hsm
 have hk8:k<1000:=by omega
 have hG:=hP_w.lt
 have HLEN:=hD hl
 have HL_68:=hD h68
 have HL_69:=hD h69
 have HL_70:=hD h70
 have HL_71:=hD h71
 have HL_72:=hD h72
 have HL_73:=hD h73
 have HL_74:=hD h74
 have HL_75:=hD h75
 have HL_76:=hD h76
 have HL_77:=hD h77
 have HL_78:=hD h78
 have HL_79:=hD h79
 have HL_80:=hD h80
 have HL_81:=hD h81
 have HL_82:=hD h82
 have HL_83:=hD h83
 have HL_84:=hD h84
 have HL_85:=hD h85
 have HL_86:=hD h86
 have HS_68:=hD (a7 (L:=L) (j:=68) (l:=[.int .u64 x68,.int .u32 x69,.int .u64 x70,.int .u16 x71,.int .u16 x72]) (by rw[hl];exact(by decide:68+5≤89)) (fun i hi=>by
  match i,hi with
  | 0,_=>exact HL_68.out
  | 1,_=>exact HL_69.out
  | 2,_=>exact HL_70.out
  | 3,_=>exact HL_71.out
  | 4,_=>exact HL_72.out
  | i+5,hi=>simp at hi;omega))
 have HS_73:=hD (a7 (L:=L) (j:=73) (l:=[.int .u64 x73,.int .u32 x74,.int .u64 x75,.int .u16 x76,.int .u16 x77]) (by rw[hl];exact(by decide:73+5≤89)) (fun i hi=>by
  match i,hi with
  | 0,_=>exact HL_73.out
  | 1,_=>exact HL_74.out
  | 2,_=>exact HL_75.out
  | 3,_=>exact HL_76.out
  | 4,_=>exact HL_77.out
  | i+5,hi=>simp at hi;omega))
 have HS_78:=hD (a7 (L:=L) (j:=78) (l:=[.int .i64 x78,.int .i64 x79,.int .i64 x80,.int .i64 x81]) (by rw[hl];exact(by decide:78+4≤89)) (fun i hi=>by
  match i,hi with
  | 0,_=>exact HL_78.out
  | 1,_=>exact HL_79.out
  | 2,_=>exact HL_80.out
  | 3,_=>exact HL_81.out
  | i+4,hi=>simp at hi;omega))
 have HS_82:=hD (a7 (L:=L) (j:=82) (l:=[.int .i64 x82,.int .i64 x83,.int .i64 x84,.int .i64 x85]) (by rw[hl];exact(by decide:82+4≤89)) (fun i hi=>by
  match i,hi with
  | 0,_=>exact HL_82.out
  | 1,_=>exact HL_83.out
  | 2,_=>exact HL_84.out
  | 3,_=>exact HL_85.out
  | i+4,hi=>simp at hi;omega))
 clear hl h68 h69 h70 h71 h72 h73 h74 h75 h76 h77 h78 h79 h80 h81 h82 h83 h84 h85 h86
 have H17:=hD h17
 have H12:=hD hrp
 have H0:=hD hid0
 go_enter Tryz.func50,Tryz.ntmps50
 have p86_w:w.cell? ⟨G,(k*89)+86,none⟩=some (.int .i64 2):=(hP_w.cell (j:=86) (by decide)).trans HL_86.out
 go_wp2_with (first
  | fail
  | ((with_reducible refine aD 3 ?_);refine bI rfl rfl 3 _ _ rfl G (k*89) 88 _ hP_w _ #[.int .i64 4] rfl rfl rfl (by exact(by decide:88+1≤89)) (by kernel_rfl) rfl ?_
     intro z1 hp hm
     replace hp:=aO hp HLEN.out (by decide)
     have hP_z1:=hp
     have E_z1:Pm G (k*89) w z1:=hm
     clear hP_w p86_w
     clear hp hm))
 refine aT (S:=fun W'=>Ext z1 W') (by kernel_rfl) ?_
 intro wd hqx
 have hq0:Ext z1 wd:=hqx
 refine aH 0 G ((k*89)) rfl hq0 ?_
 refine aH 1 G ((k*89)) rfl hq0 ?_
 refine aH 2 G ((k*89)+68) rfl hq0 ?_
 refine tL 3 (_) rfl (yieldsIf_load_mid rfl 30 _ rfl G ((k*89)+68) rfl ([.int .u64 x68,.int .u32 x69,.int .u64 x70,.int .u16 x71,.int .u16 x72]) _ (fun W' hW'=>(hP_z1.ext hW').range (j:=68) (n:=5) ((aM (by decide)).trans HS_68.out) (by decide)) Tryz.underlying30 rfl (by kernel_rfl)) hq0 ?_
 refine aH 4 G ((k*89)) rfl hq0 ?_
 refine aH 5 G ((k*89)) rfl hq0 ?_
 refine aH 6 G ((k*89)+73) rfl hq0 ?_
 refine tL 7 (_) rfl (yieldsIf_load_mid rfl 30 _ rfl G ((k*89)+73) rfl ([.int .u64 x73,.int .u32 x74,.int .u64 x75,.int .u16 x76,.int .u16 x77]) _ (fun W' hW'=>(hP_z1.ext hW').range (j:=73) (n:=5) ((aM (by decide)).trans HS_73.out) (by decide)) Tryz.underlying30 rfl (by kernel_rfl)) hq0 ?_
 refine bB (i:=8) rfl rfl (by kernel_rfl) (fun K hK=>?_)
 go_simp
 refine(eM (eJ _ _ _ _ _ _ _ _ _ _ _) HSM.out).mono ?_
 rintro e wc1 ⟨rfl,hx⟩
 have hq1:=hq0.trans hx
 refine hK.out _ _ hq1 (fun hHeld=>?_)
 try simp only[ps]
 clear hK K hHeld
 refine bO 9 ((.bool true)) rfl hq1 ?_
 refine bO 10 ((.bool true)) rfl hq1 ?_
 refine tL 11 (undef) rfl (Or.inr ⟨rfl,rfl⟩) hq1 ?_
 refine tL 12 (undef) rfl (Or.inr ⟨rfl,rfl⟩) hq1 ?_
 refine tL 13 (undef) rfl (Or.inr ⟨rfl,rfl⟩) hq1 ?_
 refine tL 14 (undef) rfl (Or.inr ⟨rfl,rfl⟩) hq1 ?_
 refine tL 15 (undef) rfl (Or.inr ⟨rfl,rfl⟩) hq1 ?_
 refine tL 16 (undef) rfl (Or.inr ⟨rfl,rfl⟩) hq1 ?_
 refine tL 17 (undef) rfl (Or.inr ⟨rfl,rfl⟩) hq1 ?_
 refine tL 18 (undef) rfl (Or.inr ⟨rfl,rfl⟩) hq1 ?_
 refine tL 19 (undef) rfl (Or.inr ⟨rfl,rfl⟩) hq1 ?_
 refine bO 20 ((.bool true)) rfl hq1 ?_
 refine wpAnyH_done (by kernel_rfl) ?_ _
 generalize wc1=z2 at *
 have hP_z2:Pv z2 G (k*89) (L.set 88 (.int .i64 4)):=hP_z1.ext hq1
 have E_z2:Pm G (k*89) w z2:=E_z1.ext hq1
 clear hP_z1 E_z1
 clear hq0 hq1
 go_wp2_with (first
  | fail
  | ((with_reducible refine aD 4 ?_);refine bI rfl rfl 4 _ _ rfl G (k*89) 50 _ hP_z2 _ #[.bool true] rfl rfl rfl (by exact(by decide:50+1≤89)) (by kernel_rfl) rfl ?_
     intro z3 hp hm
     replace hp:=aO hp (aB HLEN.out) (by decide)
     have hP_z3:=hp
     have E_z3:Pm G (k*89) w z3:=E_z2.trans hm
     clear hP_z2 E_z2
     clear hp hm))
 first
  | go_end0
  | (simp only[Exit.inBlock,Exit.then];refine bodyPost_ret (results_none rfl _ _ _) rfl ?_)
  | refine bodyPost_ret (results_none rfl _ _ _) rfl ?_
 exact⟨rfl,hP_z3,E_z3⟩
theorem tO{w:World}(G k:Nat)(L:List Value)(hP_w:Pv w G (k*89) L)(hl:L.length=89)(X:Nat)(id rp:Int)(np cap:Nat)(hid0:w.cell? ⟨X,0,none⟩=some (.int .u64 id))(hrp:w.cell? ⟨X,12,none⟩=some (.int .i64 rp))(h17:w.cell? ⟨X,17,none⟩=some (.slice (some ⟨G,0,none⟩) np cap))(hXl:X<w.heap.size)(hXG:X≠G)(hk:k<np)(hn:np<1000)(gid:0≤id∧id<18446744073709551616)(x68:Int)(h68:L[68]?=some (.int .u64 x68))(x69:Int)(h69:L[69]?=some (.int .u32 x69))(x70:Int)(h70:L[70]?=some (.int .u64 x70))(x71:Int)(h71:L[71]?=some (.int .u16 x71))(x72:Int)(h72:L[72]?=some (.int .u16 x72))(x73:Int)(h73:L[73]?=some (.int .u64 x73))(x74:Int)(h74:L[74]?=some (.int .u32 x74))(x75:Int)(h75:L[75]?=some (.int .u64 x75))(x76:Int)(h76:L[76]?=some (.int .u16 x76))(x77:Int)(h77:L[77]?=some (.int .u16 x77))(x78:Int)(h78:L[78]?=some (.int .i64 x78))(x79:Int)(h79:L[79]?=some (.int .i64 x79))(x80:Int)(h80:L[80]?=some (.int .i64 x80))(x81:Int)(h81:L[81]?=some (.int .i64 x81))(x82:Int)(h82:L[82]?=some (.int .i64 x82))(x83:Int)(h83:L[83]?=some (.int .i64 x83))(x84:Int)(h84:L[84]?=some (.int .i64 x84))(x85:Int)(h85:L[85]?=some (.int .i64 x85))(h86:L[86]?=some (.int .i64 2))(g70:0≤x70∧x70<18446744073709551616)(hsm:((c4 x68 x69 x70 x71 x73 x74 x75 x76) == 0)=true)(hnt:∀w,(binOp .neq 24 (.agg #[.int .i64 x78,.int .i64 x79,.int .i64 x80,.int .i64 x81]) (.agg #[.int .i64 x82,.int .i64 x83,.int .i64 x84,.int .i64 x85])).run Tryz.prog w=.ok (.bool true) w):Calls Tryz.prog 50 #[.pointer (some ⟨X,0,none⟩),.int .i64 k] w fun e w'=>e=.returned (.tuple #[])∧Pv w' G (k*89) ((L.set 88 (.int .i64 4)).set 50 (.bool true))∧Pm G (k*89) w w':=by
 have HSM:=hD hsm
 clear hsm
 have hk8:k<1000:=by omega
 have hG:=hP_w.lt
 have HLEN:=hD hl
 have HL_68:=hD h68
 have HL_69:=hD h69
 have HL_70:=hD h70
 have HL_71:=hD h71
 have HL_72:=hD h72
 have HL_73:=hD h73
 have HL_74:=hD h74
 have HL_75:=hD h75
 have HL_76:=hD h76
 have HL_77:=hD h77
 have HL_78:=hD h78
 have HL_79:=hD h79
 have HL_80:=hD h80
 have HL_81:=hD h81
 have HL_82:=hD h82
 have HL_83:=hD h83
 have HL_84:=hD h84
 have HL_85:=hD h85
 have HL_86:=hD h86
 have HS_68:=hD (a7 (L:=L) (j:=68) (l:=[.int .u64 x68,.int .u32 x69,.int .u64 x70,.int .u16 x71,.int .u16 x72]) (by rw[hl];exact(by decide:68+5≤89)) (fun i hi=>by
  match i,hi with
  | 0,_=>exact HL_68.out
  | 1,_=>exact HL_69.out
  | 2,_=>exact HL_70.out
  | 3,_=>exact HL_71.out
  | 4,_=>exact HL_72.out
  | i+5,hi=>simp at hi;omega))
 have HS_73:=hD (a7 (L:=L) (j:=73) (l:=[.int .u64 x73,.int .u32 x74,.int .u64 x75,.int .u16 x76,.int .u16 x77]) (by rw[hl];exact(by decide:73+5≤89)) (fun i hi=>by
  match i,hi with
  | 0,_=>exact HL_73.out
  | 1,_=>exact HL_74.out
  | 2,_=>exact HL_75.out
  | 3,_=>exact HL_76.out
  | 4,_=>exact HL_77.out
  | i+5,hi=>simp at hi;omega))
 have HS_78:=hD (a7 (L:=L) (j:=78) (l:=[.int .i64 x78,.int .i64 x79,.int .i64 x80,.int .i64 x81]) (by rw[hl];exact(by decide:78+4≤89)) (fun i hi=>by
  match i,hi with
  | 0,_=>exact HL_78.out
  | 1,_=>exact HL_79.out
  | 2,_=>exact HL_80.out
  | 3,_=>exact HL_81.out
  | i+4,hi=>simp at hi;omega))
 have HS_82:=hD (a7 (L:=L) (j:=82) (l:=[.int .i64 x82,.int .i64 x83,.int .i64 x84,.int .i64 x85]) (by rw[hl];exact(by decide:82+4≤89)) (fun i hi=>by
  match i,hi with
  | 0,_=>exact HL_82.out
  | 1,_=>exact HL_83.out
  | 2,_=>exact HL_84.out
  | 3,_=>exact HL_85.out
  | i+4,hi=>simp at hi;omega))
 clear hl h68 h69 h70 h71 h72 h73 h74 h75 h76 h77 h78 h79 h80 h81 h82 h83 h84 h85 h86
 have H17:=hD h17
 have H12:=hD hrp
 have H0:=hD hid0
 go_enter Tryz.func50,Tryz.ntmps50
 have p86_w:w.cell? ⟨G,(k*89)+86,none⟩=some (.int .i64 2):=(hP_w.cell (j:=86) (by decide)).trans HL_86.out
 go_wp2_with (first
  | fail
  | ((with_reducible refine aD 3 ?_);refine bI rfl rfl 3 _ _ rfl G (k*89) 88 _ hP_w _ #[.int .i64 4] rfl rfl rfl (by exact(by decide:88+1≤89)) (by kernel_rfl) rfl ?_
     intro z1 hp hm
     replace hp:=aO hp HLEN.out (by decide)
     have hP_z1:=hp
     have E_z1:Pm G (k*89) w z1:=hm
     clear hP_w p86_w
     clear hp hm))
 refine aT (S:=fun W'=>Ext z1 W') (by kernel_rfl) ?_
 intro wd hqx
 have hq0:Ext z1 wd:=hqx
 refine aH 0 G ((k*89)) rfl hq0 ?_
 refine aH 1 G ((k*89)) rfl hq0 ?_
 refine aH 2 G ((k*89)+68) rfl hq0 ?_
 refine tL 3 (_) rfl (yieldsIf_load_mid rfl 30 _ rfl G ((k*89)+68) rfl ([.int .u64 x68,.int .u32 x69,.int .u64 x70,.int .u16 x71,.int .u16 x72]) _ (fun W' hW'=>(hP_z1.ext hW').range (j:=68) (n:=5) ((aM (by decide)).trans HS_68.out) (by decide)) Tryz.underlying30 rfl (by kernel_rfl)) hq0 ?_
 refine aH 4 G ((k*89)) rfl hq0 ?_
 refine aH 5 G ((k*89)) rfl hq0 ?_
 refine aH 6 G ((k*89)+73) rfl hq0 ?_
 refine tL 7 (_) rfl (yieldsIf_load_mid rfl 30 _ rfl G ((k*89)+73) rfl ([.int .u64 x73,.int .u32 x74,.int .u64 x75,.int .u16 x76,.int .u16 x77]) _ (fun W' hW'=>(hP_z1.ext hW').range (j:=73) (n:=5) ((aM (by decide)).trans HS_73.out) (by decide)) Tryz.underlying30 rfl (by kernel_rfl)) hq0 ?_
 refine bB (i:=8) rfl rfl (by kernel_rfl) (fun K hK=>?_)
 go_simp
 refine(eM (eJ _ _ _ _ _ _ _ _ _ _ _) HSM.out).mono ?_
 rintro e wc1 ⟨rfl,hx⟩
 have hq1:=hq0.trans hx
 refine hK.out _ _ hq1 (fun hHeld=>?_)
 try simp only[ps]
 clear hK K hHeld
 refine bO 9 ((.bool false)) rfl hq1 ?_
 refine bO 10 ((.bool false)) rfl hq1 ?_
 refine aH 11 G ((k*89)) rfl hq1 ?_
 refine aH 12 G ((k*89)) rfl hq1 ?_
 refine aH 13 G ((k*89)+78) rfl hq1 ?_
 refine tL 14 (_) rfl (yieldsIf_load_mid rfl 24 _ rfl G ((k*89)+78) rfl ([.int .i64 x78,.int .i64 x79,.int .i64 x80,.int .i64 x81]) _ (fun W' hW'=>(hP_z1.ext hW').range (j:=78) (n:=4) ((aM (by decide)).trans HS_78.out) (by decide)) Tryz.underlying24 rfl (by kernel_rfl)) hq1 ?_
 refine aH 15 G ((k*89)) rfl hq1 ?_
 refine aH 16 G ((k*89)) rfl hq1 ?_
 refine aH 17 G ((k*89)+82) rfl hq1 ?_
 refine tL 18 (_) rfl (yieldsIf_load_mid rfl 24 _ rfl G ((k*89)+82) rfl ([.int .i64 x82,.int .i64 x83,.int .i64 x84,.int .i64 x85]) _ (fun W' hW'=>(hP_z1.ext hW').range (j:=82) (n:=4) ((aM (by decide)).trans HS_82.out) (by decide)) Tryz.underlying24 rfl (by kernel_rfl)) hq1 ?_
 refine tL 19 ((.bool true)) rfl (Or.inl ⟨rfl,fun W' _=>by go_simp⟩) hq1 ?_
 refine bO 20 ((.bool true)) rfl hq1 ?_
 refine wpAnyH_done (by kernel_rfl) ?_ _
 generalize wc1=z2 at *
 have hP_z2:Pv z2 G (k*89) (L.set 88 (.int .i64 4)):=hP_z1.ext hq1
 have E_z2:Pm G (k*89) w z2:=E_z1.ext hq1
 clear hP_z1 E_z1
 clear hq0 hq1
 go_wp2_with (first
  | fail
  | ((with_reducible refine aD 4 ?_);refine bI rfl rfl 4 _ _ rfl G (k*89) 50 _ hP_z2 _ #[.bool true] rfl rfl rfl (by exact(by decide:50+1≤89)) (by kernel_rfl) rfl ?_
     intro z3 hp hm
     replace hp:=aO hp (aB HLEN.out) (by decide)
     have hP_z3:=hp
     have E_z3:Pm G (k*89) w z3:=E_z2.trans hm
     clear hP_z2 E_z2
     clear hp hm))
 first
  | go_end0
  | (simp only[Exit.inBlock,Exit.then];refine bodyPost_ret (results_none rfl _ _ _) rfl ?_)
  | refine bodyPost_ret (results_none rfl _ _ _) rfl ?_
 exact⟨rfl,hP_z3,E_z3⟩
theorem tP{w:World}(G k:Nat)(L:List Value)(hP_w:Pv w G (k*89) L)(hl:L.length=89)(X:Nat)(id rp:Int)(np cap:Nat)(hid0:w.cell? ⟨X,0,none⟩=some (.int .u64 id))(hrp:w.cell? ⟨X,12,none⟩=some (.int .i64 rp))(h17:w.cell? ⟨X,17,none⟩=some (.slice (some ⟨G,0,none⟩) np cap))(hXl:X<w.heap.size)(hXG:X≠G)(hk:k<np)(hn:np<1000)(gid:0≤id∧id<18446744073709551616)(x68:Int)(h68:L[68]?=some (.int .u64 x68))(x69:Int)(h69:L[69]?=some (.int .u32 x69))(x70:Int)(h70:L[70]?=some (.int .u64 x70))(x71:Int)(h71:L[71]?=some (.int .u16 x71))(x72:Int)(h72:L[72]?=some (.int .u16 x72))(x73:Int)(h73:L[73]?=some (.int .u64 x73))(x74:Int)(h74:L[74]?=some (.int .u32 x74))(x75:Int)(h75:L[75]?=some (.int .u64 x75))(x76:Int)(h76:L[76]?=some (.int .u16 x76))(x77:Int)(h77:L[77]?=some (.int .u16 x77))(x78:Int)(h78:L[78]?=some (.int .i64 x78))(x79:Int)(h79:L[79]?=some (.int .i64 x79))(x80:Int)(h80:L[80]?=some (.int .i64 x80))(x81:Int)(h81:L[81]?=some (.int .i64 x81))(x82:Int)(h82:L[82]?=some (.int .i64 x82))(x83:Int)(h83:L[83]?=some (.int .i64 x83))(x84:Int)(h84:L[84]?=some (.int .i64 x84))(x85:Int)(h85:L[85]?=some (.int .i64 x85))(h86:L[86]?=some (.int .i64 2))(g70:0≤x70∧x70<18446744073709551616)(hsm:((c4 x68 x69 x70 x71 x73 x74 x75 x76) == 0)=true)(hnt:∀w,(binOp .neq 24 (.agg #[.int .i64 x78,.int .i64 x79,.int .i64 x80,.int .i64 x81]) (.agg #[.int .i64 x82,.int .i64 x83,.int .i64 x84,.int .i64 x85])).run Tryz.prog w=.ok (.bool false) w):Calls Tryz.prog 50 #[.pointer (some ⟨X,0,none⟩),.int .i64 k] w fun e w'=>e=.returned (.tuple #[])∧Pv w' G (k*89) (L.set 88 (.int .i64 4))∧Pm G (k*89) w w':=by
 have HSM:=hD hsm
 clear hsm
 have hk8:k<1000:=by omega
 have hG:=hP_w.lt
 have HLEN:=hD hl
 have HL_68:=hD h68
 have HL_69:=hD h69
 have HL_70:=hD h70
 have HL_71:=hD h71
 have HL_72:=hD h72
 have HL_73:=hD h73
 have HL_74:=hD h74
 have HL_75:=hD h75
 have HL_76:=hD h76
 have HL_77:=hD h77
 have HL_78:=hD h78
 have HL_79:=hD h79
 have HL_80:=hD h80
 have HL_81:=hD h81
 have HL_82:=hD h82
 have HL_83:=hD h83
 have HL_84:=hD h84
 have HL_85:=hD h85
 have HL_86:=hD h86
 have HS_68:=hD (a7 (L:=L) (j:=68) (l:=[.int .u64 x68,.int .u32 x69,.int .u64 x70,.int .u16 x71,.int .u16 x72]) (by rw[hl];exact(by decide:68+5≤89)) (fun i hi=>by
  match i,hi with
  | 0,_=>exact HL_68.out
  | 1,_=>exact HL_69.out
  | 2,_=>exact HL_70.out
  | 3,_=>exact HL_71.out
  | 4,_=>exact HL_72.out
  | i+5,hi=>simp at hi;omega))
 have HS_73:=hD (a7 (L:=L) (j:=73) (l:=[.int .u64 x73,.int .u32 x74,.int .u64 x75,.int .u16 x76,.int .u16 x77]) (by rw[hl];exact(by decide:73+5≤89)) (fun i hi=>by
  match i,hi with
  | 0,_=>exact HL_73.out
  | 1,_=>exact HL_74.out
  | 2,_=>exact HL_75.out
  | 3,_=>exact HL_76.out
  | 4,_=>exact HL_77.out
  | i+5,hi=>simp at hi;omega))
 have HS_78:=hD (a7 (L:=L) (j:=78) (l:=[.int .i64 x78,.int .i64 x79,.int .i64 x80,.int .i64 x81]) (by rw[hl];exact(by decide:78+4≤89)) (fun i hi=>by
  match i,hi with
  | 0,_=>exact HL_78.out
  | 1,_=>exact HL_79.out
  | 2,_=>exact HL_80.out
  | 3,_=>exact HL_81.out
  | i+4,hi=>simp at hi;omega))
 have HS_82:=hD (a7 (L:=L) (j:=82) (l:=[.int .i64 x82,.int .i64 x83,.int .i64 x84,.int .i64 x85]) (by rw[hl];exact(by decide:82+4≤89)) (fun i hi=>by
  match i,hi with
  | 0,_=>exact HL_82.out
  | 1,_=>exact HL_83.out
  | 2,_=>exact HL_84.out
  | 3,_=>exact HL_85.out
  | i+4,hi=>simp at hi;omega))
 clear hl h68 h69 h70 h71 h72 h73 h74 h75 h76 h77 h78 h79 h80 h81 h82 h83 h84 h85 h86
 have H17:=hD h17
 have H12:=hD hrp
 have H0:=hD hid0
 go_enter Tryz.func50,Tryz.ntmps50
 have p86_w:w.cell? ⟨G,(k*89)+86,none⟩=some (.int .i64 2):=(hP_w.cell (j:=86) (by decide)).trans HL_86.out
 go_wp2_with (first
  | fail
  | ((with_reducible refine aD 3 ?_);refine bI rfl rfl 3 _ _ rfl G (k*89) 88 _ hP_w _ #[.int .i64 4] rfl rfl rfl (by exact(by decide:88+1≤89)) (by kernel_rfl) rfl ?_
     intro z1 hp hm
     replace hp:=aO hp HLEN.out (by decide)
     have hP_z1:=hp
     have E_z1:Pm G (k*89) w z1:=hm
     clear hP_w p86_w
     clear hp hm))
 refine aT (S:=fun W'=>Ext z1 W') (by kernel_rfl) ?_
 intro wd hqx
 have hq0:Ext z1 wd:=hqx
 refine aH 0 G ((k*89)) rfl hq0 ?_
 refine aH 1 G ((k*89)) rfl hq0 ?_
 refine aH 2 G ((k*89)+68) rfl hq0 ?_
 refine tL 3 (_) rfl (yieldsIf_load_mid rfl 30 _ rfl G ((k*89)+68) rfl ([.int .u64 x68,.int .u32 x69,.int .u64 x70,.int .u16 x71,.int .u16 x72]) _ (fun W' hW'=>(hP_z1.ext hW').range (j:=68) (n:=5) ((aM (by decide)).trans HS_68.out) (by decide)) Tryz.underlying30 rfl (by kernel_rfl)) hq0 ?_
 refine aH 4 G ((k*89)) rfl hq0 ?_
 refine aH 5 G ((k*89)) rfl hq0 ?_
 refine aH 6 G ((k*89)+73) rfl hq0 ?_
 refine tL 7 (_) rfl (yieldsIf_load_mid rfl 30 _ rfl G ((k*89)+73) rfl ([.int .u64 x73,.int .u32 x74,.int .u64 x75,.int .u16 x76,.int .u16 x77]) _ (fun W' hW'=>(hP_z1.ext hW').range (j:=73) (n:=5) ((aM (by decide)).trans HS_73.out) (by decide)) Tryz.underlying30 rfl (by kernel_rfl)) hq0 ?_
 refine bB (i:=8) rfl rfl (by kernel_rfl) (fun K hK=>?_)
 go_simp
 refine(eM (eJ _ _ _ _ _ _ _ _ _ _ _) HSM.out).mono ?_
 rintro e wc1 ⟨rfl,hx⟩
 have hq1:=hq0.trans hx
 refine hK.out _ _ hq1 (fun hHeld=>?_)
 try simp only[ps]
 clear hK K hHeld
 refine bO 9 ((.bool false)) rfl hq1 ?_
 refine bO 10 ((.bool false)) rfl hq1 ?_
 refine aH 11 G ((k*89)) rfl hq1 ?_
 refine aH 12 G ((k*89)) rfl hq1 ?_
 refine aH 13 G ((k*89)+78) rfl hq1 ?_
 refine tL 14 (_) rfl (yieldsIf_load_mid rfl 24 _ rfl G ((k*89)+78) rfl ([.int .i64 x78,.int .i64 x79,.int .i64 x80,.int .i64 x81]) _ (fun W' hW'=>(hP_z1.ext hW').range (j:=78) (n:=4) ((aM (by decide)).trans HS_78.out) (by decide)) Tryz.underlying24 rfl (by kernel_rfl)) hq1 ?_
 refine aH 15 G ((k*89)) rfl hq1 ?_
 refine aH 16 G ((k*89)) rfl hq1 ?_
 refine aH 17 G ((k*89)+82) rfl hq1 ?_
 refine tL 18 (_) rfl (yieldsIf_load_mid rfl 24 _ rfl G ((k*89)+82) rfl ([.int .i64 x82,.int .i64 x83,.int .i64 x84,.int .i64 x85]) _ (fun W' hW'=>(hP_z1.ext hW').range (j:=82) (n:=4) ((aM (by decide)).trans HS_82.out) (by decide)) Tryz.underlying24 rfl (by kernel_rfl)) hq1 ?_
 refine tL 19 ((.bool false)) rfl (Or.inl ⟨rfl,fun W' _=>by go_simp⟩) hq1 ?_
 refine bO 20 ((.bool false)) rfl hq1 ?_
 refine wpAnyH_done (by kernel_rfl) ?_ _
 generalize wc1=z2 at *
 have hP_z2:Pv z2 G (k*89) (L.set 88 (.int .i64 4)):=hP_z1.ext hq1
 have E_z2:Pm G (k*89) w z2:=E_z1.ext hq1
 clear hP_z1 E_z1
 clear hq0 hq1
 go_wp2_with fail
 first
  | go_end0
  | (simp only[Exit.inBlock,Exit.then];refine bodyPost_ret (results_none rfl _ _ _) rfl ?_)
  | refine bodyPost_ret (results_none rfl _ _ _) rfl ?_
 exact⟨rfl,hP_z2,E_z2⟩
theorem tQ{w:World}(G k:Nat)(L:List Value)(hP_w:Pv w G (k*89) L)(hl:L.length=89)(X:Nat)(id rp:Int)(np cap:Nat)(hid0:w.cell? ⟨X,0,none⟩=some (.int .u64 id))(hrp:w.cell? ⟨X,12,none⟩=some (.int .i64 rp))(h17:w.cell? ⟨X,17,none⟩=some (.slice (some ⟨G,0,none⟩) np cap))(hXl:X<w.heap.size)(hXG:X≠G)(hk:k<np)(hn:np<1000)(gid:0≤id∧id<18446744073709551616)(x68:Int)(h68:L[68]?=some (.int .u64 x68))(x69:Int)(h69:L[69]?=some (.int .u32 x69))(x70:Int)(h70:L[70]?=some (.int .u64 x70))(x71:Int)(h71:L[71]?=some (.int .u16 x71))(x72:Int)(h72:L[72]?=some (.int .u16 x72))(x73:Int)(h73:L[73]?=some (.int .u64 x73))(x74:Int)(h74:L[74]?=some (.int .u32 x74))(x75:Int)(h75:L[75]?=some (.int .u64 x75))(x76:Int)(h76:L[76]?=some (.int .u16 x76))(x77:Int)(h77:L[77]?=some (.int .u16 x77))(x78:Int)(h78:L[78]?=some (.int .i64 x78))(x79:Int)(h79:L[79]?=some (.int .i64 x79))(x80:Int)(h80:L[80]?=some (.int .i64 x80))(x81:Int)(h81:L[81]?=some (.int .i64 x81))(x82:Int)(h82:L[82]?=some (.int .i64 x82))(x83:Int)(h83:L[83]?=some (.int .i64 x83))(x84:Int)(h84:L[84]?=some (.int .i64 x84))(x85:Int)(h85:L[85]?=some (.int .i64 x85))(h86:L[86]?=some (.int .i64 1))(g70:0≤x70∧x70<18446744073709551616)(hsm:((c4 x68 x69 x70 x71 x73 x74 x75 x76) == 0)=false):Calls Tryz.prog 50 #[.pointer (some ⟨X,0,none⟩),.int .i64 k] w fun e w'=>e=.returned (.tuple #[])∧Pv w' G (k*89) (((L.set 50 (.bool true)).set 88 (.int .i64 4)).set 50 (.bool true))∧Pm G (k*89) w w':=by
 have HSM:=hD hsm
 clear hsm
 have hk8:k<1000:=by omega
 have hG:=hP_w.lt
 have HLEN:=hD hl
 have HL_68:=hD h68
 have HL_69:=hD h69
 have HL_70:=hD h70
 have HL_71:=hD h71
 have HL_72:=hD h72
 have HL_73:=hD h73
 have HL_74:=hD h74
 have HL_75:=hD h75
 have HL_76:=hD h76
 have HL_77:=hD h77
 have HL_78:=hD h78
 have HL_79:=hD h79
 have HL_80:=hD h80
 have HL_81:=hD h81
 have HL_82:=hD h82
 have HL_83:=hD h83
 have HL_84:=hD h84
 have HL_85:=hD h85
 have HL_86:=hD h86
 have HS_68:=hD (a7 (L:=L) (j:=68) (l:=[.int .u64 x68,.int .u32 x69,.int .u64 x70,.int .u16 x71,.int .u16 x72]) (by rw[hl];exact(by decide:68+5≤89)) (fun i hi=>by
  match i,hi with
  | 0,_=>exact HL_68.out
  | 1,_=>exact HL_69.out
  | 2,_=>exact HL_70.out
  | 3,_=>exact HL_71.out
  | 4,_=>exact HL_72.out
  | i+5,hi=>simp at hi;omega))
 have HS_73:=hD (a7 (L:=L) (j:=73) (l:=[.int .u64 x73,.int .u32 x74,.int .u64 x75,.int .u16 x76,.int .u16 x77]) (by rw[hl];exact(by decide:73+5≤89)) (fun i hi=>by
  match i,hi with
  | 0,_=>exact HL_73.out
  | 1,_=>exact HL_74.out
  | 2,_=>exact HL_75.out
  | 3,_=>exact HL_76.out
  | 4,_=>exact HL_77.out
  | i+5,hi=>simp at hi;omega))
 have HS_78:=hD (a7 (L:=L) (j:=78) (l:=[.int .i64 x78,.int .i64 x79,.int .i64 x80,.int .i64 x81]) (by rw[hl];exact(by decide:78+4≤89)) (fun i hi=>by
  match i,hi with
  | 0,_=>exact HL_78.out
  | 1,_=>exact HL_79.out
  | 2,_=>exact HL_80.out
  | 3,_=>exact HL_81.out
  | i+4,hi=>simp at hi;omega))
 have HS_82:=hD (a7 (L:=L) (j:=82) (l:=[.int .i64 x82,.int .i64 x83,.int .i64 x84,.int .i64 x85]) (by rw[hl];exact(by decide:82+4≤89)) (fun i hi=>by
  match i,hi with
  | 0,_=>exact HL_82.out
  | 1,_=>exact HL_83.out
  | 2,_=>exact HL_84.out
  | 3,_=>exact HL_85.out
  | i+4,hi=>simp at hi;omega))
 clear hl h68 h69 h70 h71 h72 h73 h74 h75 h76 h77 h78 h79 h80 h81 h82 h83 h84 h85 h86
 have H17:=hD h17
 have H12:=hD hrp
 have H0:=hD hid0
 go_enter Tryz.func50,Tryz.ntmps50
 have p86_w:w.cell? ⟨G,(k*89)+86,none⟩=some (.int .i64 1):=(hP_w.cell (j:=86) (by decide)).trans HL_86.out
 go_wp2_with (first
  | fail
  | ((with_reducible refine aD 4 ?_);refine bI rfl rfl 4 _ _ rfl G (k*89) 50 _ hP_w _ #[.bool true] rfl rfl rfl (by exact(by decide:50+1≤89)) (by kernel_rfl) rfl ?_
     intro z1 hp hm
     replace hp:=aO hp HLEN.out (by decide)
     have hP_z1:=hp
     have E_z1:Pm G (k*89) w z1:=hm
     clear hP_w p86_w
     clear hp hm)
  | ((with_reducible refine aD 3 ?_);refine bI rfl rfl 3 _ _ rfl G (k*89) 88 _ hP_z1 _ #[.int .i64 4] rfl rfl rfl (by exact(by decide:88+1≤89)) (by kernel_rfl) rfl ?_
     intro z2 hp hm
     replace hp:=aO hp (aB HLEN.out) (by decide)
     have hP_z2:=hp
     have E_z2:Pm G (k*89) w z2:=E_z1.trans hm
     clear hP_z1 E_z1
     clear hp hm))
 refine aT (S:=fun W'=>Ext z2 W') (by kernel_rfl) ?_
 intro wd hqx
 have hq0:Ext z2 wd:=hqx
 refine aH 0 G ((k*89)) rfl hq0 ?_
 refine aH 1 G ((k*89)) rfl hq0 ?_
 refine aH 2 G ((k*89)+68) rfl hq0 ?_
 refine tL 3 (_) rfl (yieldsIf_load_mid rfl 30 _ rfl G ((k*89)+68) rfl ([.int .u64 x68,.int .u32 x69,.int .u64 x70,.int .u16 x71,.int .u16 x72]) _ (fun W' hW'=>(hP_z2.ext hW').range (j:=68) (n:=5) ((aM (by decide)).trans ((aM (by decide)).trans HS_68.out)) (by decide)) Tryz.underlying30 rfl (by kernel_rfl)) hq0 ?_
 refine aH 4 G ((k*89)) rfl hq0 ?_
 refine aH 5 G ((k*89)) rfl hq0 ?_
 refine aH 6 G ((k*89)+73) rfl hq0 ?_
 refine tL 7 (_) rfl (yieldsIf_load_mid rfl 30 _ rfl G ((k*89)+73) rfl ([.int .u64 x73,.int .u32 x74,.int .u64 x75,.int .u16 x76,.int .u16 x77]) _ (fun W' hW'=>(hP_z2.ext hW').range (j:=73) (n:=5) ((aM (by decide)).trans ((aM (by decide)).trans HS_73.out)) (by decide)) Tryz.underlying30 rfl (by kernel_rfl)) hq0 ?_
 refine bB (i:=8) rfl rfl (by kernel_rfl) (fun K hK=>?_)
 go_simp
 refine(eM (eJ _ _ _ _ _ _ _ _ _ _ _) HSM.out).mono ?_
 rintro e wc1 ⟨rfl,hx⟩
 have hq1:=hq0.trans hx
 refine hK.out _ _ hq1 (fun hHeld=>?_)
 try simp only[ps]
 clear hK K hHeld
 refine bO 9 ((.bool true)) rfl hq1 ?_
 refine bO 10 ((.bool true)) rfl hq1 ?_
 refine tL 11 (undef) rfl (Or.inr ⟨rfl,rfl⟩) hq1 ?_
 refine tL 12 (undef) rfl (Or.inr ⟨rfl,rfl⟩) hq1 ?_
 refine tL 13 (undef) rfl (Or.inr ⟨rfl,rfl⟩) hq1 ?_
 refine tL 14 (undef) rfl (Or.inr ⟨rfl,rfl⟩) hq1 ?_
 refine tL 15 (undef) rfl (Or.inr ⟨rfl,rfl⟩) hq1 ?_
 refine tL 16 (undef) rfl (Or.inr ⟨rfl,rfl⟩) hq1 ?_
 refine tL 17 (undef) rfl (Or.inr ⟨rfl,rfl⟩) hq1 ?_
 refine tL 18 (undef) rfl (Or.inr ⟨rfl,rfl⟩) hq1 ?_
 refine tL 19 (undef) rfl (Or.inr ⟨rfl,rfl⟩) hq1 ?_
 refine bO 20 ((.bool true)) rfl hq1 ?_
 refine wpAnyH_done (by kernel_rfl) ?_ _
 generalize wc1=z3 at *
 have hP_z3:Pv z3 G (k*89) ((L.set 50 (.bool true)).set 88 (.int .i64 4)):=hP_z2.ext hq1
 have E_z3:Pm G (k*89) w z3:=E_z2.ext hq1
 clear hP_z2 E_z2
 clear hq0 hq1
 go_wp2_with (first
  | fail
  | ((with_reducible refine aD 4 ?_);refine bI rfl rfl 4 _ _ rfl G (k*89) 50 _ hP_z3 _ #[.bool true] rfl rfl rfl (by exact(by decide:50+1≤89)) (by kernel_rfl) rfl ?_
     intro z4 hp hm
     replace hp:=aO hp (aB (aB HLEN.out)) (by decide)
     have hP_z4:=hp
     have E_z4:Pm G (k*89) w z4:=E_z3.trans hm
     clear hP_z3 E_z3
     clear hp hm))
 first
  | go_end0
  | (simp only[Exit.inBlock,Exit.then];refine bodyPost_ret (results_none rfl _ _ _) rfl ?_)
  | refine bodyPost_ret (results_none rfl _ _ _) rfl ?_
 exact⟨rfl,hP_z4,E_z4⟩
theorem tR{w:World}(G k:Nat)(L:List Value)(hP_w:Pv w G (k*89) L)(hl:L.length=89)(X:Nat)(id rp:Int)(np cap:Nat)(hid0:w.cell? ⟨X,0,none⟩=some (.int .u64 id))(hrp:w.cell? ⟨X,12,none⟩=some (.int .i64 rp))(h17:w.cell? ⟨X,17,none⟩=some (.slice (some ⟨G,0,none⟩) np cap))(hXl:X<w.heap.size)(hXG:X≠G)(hk:k<np)(hn:np<1000)(gid:0≤id∧id<18446744073709551616)(x68:Int)(h68:L[68]?=some (.int .u64 x68))(x69:Int)(h69:L[69]?=some (.int .u32 x69))(x70:Int)(h70:L[70]?=some (.int .u64 x70))(x71:Int)(h71:L[71]?=some (.int .u16 x71))(x72:Int)(h72:L[72]?=some (.int .u16 x72))(x73:Int)(h73:L[73]?=some (.int .u64 x73))(x74:Int)(h74:L[74]?=some (.int .u32 x74))(x75:Int)(h75:L[75]?=some (.int .u64 x75))(x76:Int)(h76:L[76]?=some (.int .u16 x76))(x77:Int)(h77:L[77]?=some (.int .u16 x77))(x78:Int)(h78:L[78]?=some (.int .i64 x78))(x79:Int)(h79:L[79]?=some (.int .i64 x79))(x80:Int)(h80:L[80]?=some (.int .i64 x80))(x81:Int)(h81:L[81]?=some (.int .i64 x81))(x82:Int)(h82:L[82]?=some (.int .i64 x82))(x83:Int)(h83:L[83]?=some (.int .i64 x83))(x84:Int)(h84:L[84]?=some (.int .i64 x84))(x85:Int)(h85:L[85]?=some (.int .i64 x85))(h86:L[86]?=some (.int .i64 1))(g70:0≤x70∧x70<18446744073709551616)(hsm:((c4 x68 x69 x70 x71 x73 x74 x75 x76) == 0)=true)(hnt:∀w,(binOp .neq 24 (.agg #[.int .i64 x78,.int .i64 x79,.int .i64 x80,.int .i64 x81]) (.agg #[.int .i64 x82,.int .i64 x83,.int .i64 x84,.int .i64 x85])).run Tryz.prog w=.ok (.bool true) w):Calls Tryz.prog 50 #[.pointer (some ⟨X,0,none⟩),.int .i64 k] w fun e w'=>e=.returned (.tuple #[])∧Pv w' G (k*89) (((L.set 50 (.bool true)).set 88 (.int .i64 4)).set 50 (.bool true))∧Pm G (k*89) w w':=by
 have HSM:=hD hsm
 clear hsm
 have hk8:k<1000:=by omega
 have hG:=hP_w.lt
 have HLEN:=hD hl
 have HL_68:=hD h68
 have HL_69:=hD h69
 have HL_70:=hD h70
 have HL_71:=hD h71
 have HL_72:=hD h72
 have HL_73:=hD h73
 have HL_74:=hD h74
 have HL_75:=hD h75
 have HL_76:=hD h76
 have HL_77:=hD h77
 have HL_78:=hD h78
 have HL_79:=hD h79
 have HL_80:=hD h80
 have HL_81:=hD h81
 have HL_82:=hD h82
 have HL_83:=hD h83
 have HL_84:=hD h84
 have HL_85:=hD h85
 have HL_86:=hD h86
 have HS_68:=hD (a7 (L:=L) (j:=68) (l:=[.int .u64 x68,.int .u32 x69,.int .u64 x70,.int .u16 x71,.int .u16 x72]) (by rw[hl];exact(by decide:68+5≤89)) (fun i hi=>by
  match i,hi with
  | 0,_=>exact HL_68.out
  | 1,_=>exact HL_69.out
  | 2,_=>exact HL_70.out
  | 3,_=>exact HL_71.out
  | 4,_=>exact HL_72.out
  | i+5,hi=>simp at hi;omega))
 have HS_73:=hD (a7 (L:=L) (j:=73) (l:=[.int .u64 x73,.int .u32 x74,.int .u64 x75,.int .u16 x76,.int .u16 x77]) (by rw[hl];exact(by decide:73+5≤89)) (fun i hi=>by
  match i,hi with
  | 0,_=>exact HL_73.out
  | 1,_=>exact HL_74.out
  | 2,_=>exact HL_75.out
  | 3,_=>exact HL_76.out
  | 4,_=>exact HL_77.out
  | i+5,hi=>simp at hi;omega))
 have HS_78:=hD (a7 (L:=L) (j:=78) (l:=[.int .i64 x78,.int .i64 x79,.int .i64 x80,.int .i64 x81]) (by rw[hl];exact(by decide:78+4≤89)) (fun i hi=>by
  match i,hi with
  | 0,_=>exact HL_78.out
  | 1,_=>exact HL_79.out
  | 2,_=>exact HL_80.out
  | 3,_=>exact HL_81.out
  | i+4,hi=>simp at hi;omega))
 have HS_82:=hD (a7 (L:=L) (j:=82) (l:=[.int .i64 x82,.int .i64 x83,.int .i64 x84,.int .i64 x85]) (by rw[hl];exact(by decide:82+4≤89)) (fun i hi=>by
  match i,hi with
  | 0,_=>exact HL_82.out
  | 1,_=>exact HL_83.out
  | 2,_=>exact HL_84.out
  | 3,_=>exact HL_85.out
  | i+4,hi=>simp at hi;omega))
 clear hl h68 h69 h70 h71 h72 h73 h74 h75 h76 h77 h78 h79 h80 h81 h82 h83 h84 h85 h86
 have H17:=hD h17
 have H12:=hD hrp
 have H0:=hD hid0
 go_enter Tryz.func50,Tryz.ntmps50
 have p86_w:w.cell? ⟨G,(k*89)+86,none⟩=some (.int .i64 1):=(hP_w.cell (j:=86) (by decide)).trans HL_86.out
 go_wp2_with (first
  | fail
  | ((with_reducible refine aD 4 ?_);refine bI rfl rfl 4 _ _ rfl G (k*89) 50 _ hP_w _ #[.bool true] rfl rfl rfl (by exact(by decide:50+1≤89)) (by kernel_rfl) rfl ?_
     intro z1 hp hm
     replace hp:=aO hp HLEN.out (by decide)
     have hP_z1:=hp
     have E_z1:Pm G (k*89) w z1:=hm
     clear hP_w p86_w
     clear hp hm)
  | ((with_reducible refine aD 3 ?_);refine bI rfl rfl 3 _ _ rfl G (k*89) 88 _ hP_z1 _ #[.int .i64 4] rfl rfl rfl (by exact(by decide:88+1≤89)) (by kernel_rfl) rfl ?_
     intro z2 hp hm
     replace hp:=aO hp (aB HLEN.out) (by decide)
     have hP_z2:=hp
     have E_z2:Pm G (k*89) w z2:=E_z1.trans hm
     clear hP_z1 E_z1
     clear hp hm))
 refine aT (S:=fun W'=>Ext z2 W') (by kernel_rfl) ?_
 intro wd hqx
 have hq0:Ext z2 wd:=hqx
 refine aH 0 G ((k*89)) rfl hq0 ?_
 refine aH 1 G ((k*89)) rfl hq0 ?_
 refine aH 2 G ((k*89)+68) rfl hq0 ?_
 refine tL 3 (_) rfl (yieldsIf_load_mid rfl 30 _ rfl G ((k*89)+68) rfl ([.int .u64 x68,.int .u32 x69,.int .u64 x70,.int .u16 x71,.int .u16 x72]) _ (fun W' hW'=>(hP_z2.ext hW').range (j:=68) (n:=5) ((aM (by decide)).trans ((aM (by decide)).trans HS_68.out)) (by decide)) Tryz.underlying30 rfl (by kernel_rfl)) hq0 ?_
 refine aH 4 G ((k*89)) rfl hq0 ?_
 refine aH 5 G ((k*89)) rfl hq0 ?_
 refine aH 6 G ((k*89)+73) rfl hq0 ?_
 refine tL 7 (_) rfl (yieldsIf_load_mid rfl 30 _ rfl G ((k*89)+73) rfl ([.int .u64 x73,.int .u32 x74,.int .u64 x75,.int .u16 x76,.int .u16 x77]) _ (fun W' hW'=>(hP_z2.ext hW').range (j:=73) (n:=5) ((aM (by decide)).trans ((aM (by decide)).trans HS_73.out)) (by decide)) Tryz.underlying30 rfl (by kernel_rfl)) hq0 ?_
 refine bB (i:=8) rfl rfl (by kernel_rfl) (fun K hK=>?_)
 go_simp
 refine(eM (eJ _ _ _ _ _ _ _ _ _ _ _) HSM.out).mono ?_
 rintro e wc1 ⟨rfl,hx⟩
 have hq1:=hq0.trans hx
 refine hK.out _ _ hq1 (fun hHeld=>?_)
 try simp only[ps]
 clear hK K hHeld
 refine bO 9 ((.bool false)) rfl hq1 ?_
 refine bO 10 ((.bool false)) rfl hq1 ?_
 refine aH 11 G ((k*89)) rfl hq1 ?_
 refine aH 12 G ((k*89)) rfl hq1 ?_
 refine aH 13 G ((k*89)+78) rfl hq1 ?_
 refine tL 14 (_) rfl (yieldsIf_load_mid rfl 24 _ rfl G ((k*89)+78) rfl ([.int .i64 x78,.int .i64 x79,.int .i64 x80,.int .i64 x81]) _ (fun W' hW'=>(hP_z2.ext hW').range (j:=78) (n:=4) ((aM (by decide)).trans ((aM (by decide)).trans HS_78.out)) (by decide)) Tryz.underlying24 rfl (by kernel_rfl)) hq1 ?_
 refine aH 15 G ((k*89)) rfl hq1 ?_
 refine aH 16 G ((k*89)) rfl hq1 ?_
 refine aH 17 G ((k*89)+82) rfl hq1 ?_
 refine tL 18 (_) rfl (yieldsIf_load_mid rfl 24 _ rfl G ((k*89)+82) rfl ([.int .i64 x82,.int .i64 x83,.int .i64 x84,.int .i64 x85]) _ (fun W' hW'=>(hP_z2.ext hW').range (j:=82) (n:=4) ((aM (by decide)).trans ((aM (by decide)).trans HS_82.out)) (by decide)) Tryz.underlying24 rfl (by kernel_rfl)) hq1 ?_
 refine tL 19 ((.bool true)) rfl (Or.inl ⟨rfl,fun W' _=>by go_simp⟩) hq1 ?_
 refine bO 20 ((.bool true)) rfl hq1 ?_
 refine wpAnyH_done (by kernel_rfl) ?_ _
 generalize wc1=z3 at *
 have hP_z3:Pv z3 G (k*89) ((L.set 50 (.bool true)).set 88 (.int .i64 4)):=hP_z2.ext hq1
 have E_z3:Pm G (k*89) w z3:=E_z2.ext hq1
 clear hP_z2 E_z2
 clear hq0 hq1
 go_wp2_with (first
  | fail
  | ((with_reducible refine aD 4 ?_);refine bI rfl rfl 4 _ _ rfl G (k*89) 50 _ hP_z3 _ #[.bool true] rfl rfl rfl (by exact(by decide:50+1≤89)) (by kernel_rfl) rfl ?_
     intro z4 hp hm
     replace hp:=aO hp (aB (aB HLEN.out)) (by decide)
     have hP_z4:=hp
     have E_z4:Pm G (k*89) w z4:=E_z3.trans hm
     clear hP_z3 E_z3
     clear hp hm))
 first
  | go_end0
  | (simp only[Exit.inBlock,Exit.then];refine bodyPost_ret (results_none rfl _ _ _) rfl ?_)
  | refine bodyPost_ret (results_none rfl _ _ _) rfl ?_
 exact⟨rfl,hP_z4,E_z4⟩
theorem tS{w:World}(G k:Nat)(L:List Value)(hP_w:Pv w G (k*89) L)(hl:L.length=89)(X:Nat)(id rp:Int)(np cap:Nat)(hid0:w.cell? ⟨X,0,none⟩=some (.int .u64 id))(hrp:w.cell? ⟨X,12,none⟩=some (.int .i64 rp))(h17:w.cell? ⟨X,17,none⟩=some (.slice (some ⟨G,0,none⟩) np cap))(hXl:X<w.heap.size)(hXG:X≠G)(hk:k<np)(hn:np<1000)(gid:0≤id∧id<18446744073709551616)(x68:Int)(h68:L[68]?=some (.int .u64 x68))(x69:Int)(h69:L[69]?=some (.int .u32 x69))(x70:Int)(h70:L[70]?=some (.int .u64 x70))(x71:Int)(h71:L[71]?=some (.int .u16 x71))(x72:Int)(h72:L[72]?=some (.int .u16 x72))(x73:Int)(h73:L[73]?=some (.int .u64 x73))(x74:Int)(h74:L[74]?=some (.int .u32 x74))(x75:Int)(h75:L[75]?=some (.int .u64 x75))(x76:Int)(h76:L[76]?=some (.int .u16 x76))(x77:Int)(h77:L[77]?=some (.int .u16 x77))(x78:Int)(h78:L[78]?=some (.int .i64 x78))(x79:Int)(h79:L[79]?=some (.int .i64 x79))(x80:Int)(h80:L[80]?=some (.int .i64 x80))(x81:Int)(h81:L[81]?=some (.int .i64 x81))(x82:Int)(h82:L[82]?=some (.int .i64 x82))(x83:Int)(h83:L[83]?=some (.int .i64 x83))(x84:Int)(h84:L[84]?=some (.int .i64 x84))(x85:Int)(h85:L[85]?=some (.int .i64 x85))(h86:L[86]?=some (.int .i64 1))(g70:0≤x70∧x70<18446744073709551616)(hsm:((c4 x68 x69 x70 x71 x73 x74 x75 x76) == 0)=true)(hnt:∀w,(binOp .neq 24 (.agg #[.int .i64 x78,.int .i64 x79,.int .i64 x80,.int .i64 x81]) (.agg #[.int .i64 x82,.int .i64 x83,.int .i64 x84,.int .i64 x85])).run Tryz.prog w=.ok (.bool false) w):Calls Tryz.prog 50 #[.pointer (some ⟨X,0,none⟩),.int .i64 k] w fun e w'=>e=.returned (.tuple #[])∧Pv w' G (k*89) ((L.set 50 (.bool true)).set 88 (.int .i64 4))∧Pm G (k*89) w w':=by
 have HSM:=hD hsm
 clear hsm
 have hk8:k<1000:=by omega
 have hG:=hP_w.lt
 have HLEN:=hD hl
 have HL_68:=hD h68
 have HL_69:=hD h69
 have HL_70:=hD h70
 have HL_71:=hD h71
 have HL_72:=hD h72
 have HL_73:=hD h73
 have HL_74:=hD h74
 have HL_75:=hD h75
 have HL_76:=hD h76
 have HL_77:=hD h77
 have HL_78:=hD h78
 have HL_79:=hD h79
 have HL_80:=hD h80
 have HL_81:=hD h81
 have HL_82:=hD h82
 have HL_83:=hD h83
 have HL_84:=hD h84
 have HL_85:=hD h85
 have HL_86:=hD h86
 have HS_68:=hD (a7 (L:=L) (j:=68) (l:=[.int .u64 x68,.int .u32 x69,.int .u64 x70,.int .u16 x71,.int .u16 x72]) (by rw[hl];exact(by decide:68+5≤89)) (fun i hi=>by
  match i,hi with
  | 0,_=>exact HL_68.out
  | 1,_=>exact HL_69.out
  | 2,_=>exact HL_70.out
  | 3,_=>exact HL_71.out
  | 4,_=>exact HL_72.out
  | i+5,hi=>simp at hi;omega))
 have HS_73:=hD (a7 (L:=L) (j:=73) (l:=[.int .u64 x73,.int .u32 x74,.int .u64 x75,.int .u16 x76,.int .u16 x77]) (by rw[hl];exact(by decide:73+5≤89)) (fun i hi=>by
  match i,hi with
  | 0,_=>exact HL_73.out
  | 1,_=>exact HL_74.out
  | 2,_=>exact HL_75.out
  | 3,_=>exact HL_76.out
  | 4,_=>exact HL_77.out
  | i+5,hi=>simp at hi;omega))
 have HS_78:=hD (a7 (L:=L) (j:=78) (l:=[.int .i64 x78,.int .i64 x79,.int .i64 x80,.int .i64 x81]) (by rw[hl];exact(by decide:78+4≤89)) (fun i hi=>by
  match i,hi with
  | 0,_=>exact HL_78.out
  | 1,_=>exact HL_79.out
  | 2,_=>exact HL_80.out
  | 3,_=>exact HL_81.out
  | i+4,hi=>simp at hi;omega))
 have HS_82:=hD (a7 (L:=L) (j:=82) (l:=[.int .i64 x82,.int .i64 x83,.int .i64 x84,.int .i64 x85]) (by rw[hl];exact(by decide:82+4≤89)) (fun i hi=>by
  match i,hi with
  | 0,_=>exact HL_82.out
  | 1,_=>exact HL_83.out
  | 2,_=>exact HL_84.out
  | 3,_=>exact HL_85.out
  | i+4,hi=>simp at hi;omega))
 clear hl h68 h69 h70 h71 h72 h73 h74 h75 h76 h77 h78 h79 h80 h81 h82 h83 h84 h85 h86
 have H17:=hD h17
 have H12:=hD hrp
 have H0:=hD hid0
 go_enter Tryz.func50,Tryz.ntmps50
 have p86_w:w.cell? ⟨G,(k*89)+86,none⟩=some (.int .i64 1):=(hP_w.cell (j:=86) (by decide)).trans HL_86.out
 go_wp2_with (first
  | fail
  | ((with_reducible refine aD 4 ?_);refine bI rfl rfl 4 _ _ rfl G (k*89) 50 _ hP_w _ #[.bool true] rfl rfl rfl (by exact(by decide:50+1≤89)) (by kernel_rfl) rfl ?_
     intro z1 hp hm
     replace hp:=aO hp HLEN.out (by decide)
     have hP_z1:=hp
     have E_z1:Pm G (k*89) w z1:=hm
     clear hP_w p86_w
     clear hp hm)
  | ((with_reducible refine aD 3 ?_);refine bI rfl rfl 3 _ _ rfl G (k*89) 88 _ hP_z1 _ #[.int .i64 4] rfl rfl rfl (by exact(by decide:88+1≤89)) (by kernel_rfl) rfl ?_
     intro z2 hp hm
     replace hp:=aO hp (aB HLEN.out) (by decide)
     have hP_z2:=hp
     have E_z2:Pm G (k*89) w z2:=E_z1.trans hm
     clear hP_z1 E_z1
     clear hp hm))
 refine aT (S:=fun W'=>Ext z2 W') (by kernel_rfl) ?_
 intro wd hqx
 have hq0:Ext z2 wd:=hqx
 refine aH 0 G ((k*89)) rfl hq0 ?_
 refine aH 1 G ((k*89)) rfl hq0 ?_
 refine aH 2 G ((k*89)+68) rfl hq0 ?_
 refine tL 3 (_) rfl (yieldsIf_load_mid rfl 30 _ rfl G ((k*89)+68) rfl ([.int .u64 x68,.int .u32 x69,.int .u64 x70,.int .u16 x71,.int .u16 x72]) _ (fun W' hW'=>(hP_z2.ext hW').range (j:=68) (n:=5) ((aM (by decide)).trans ((aM (by decide)).trans HS_68.out)) (by decide)) Tryz.underlying30 rfl (by kernel_rfl)) hq0 ?_
 refine aH 4 G ((k*89)) rfl hq0 ?_
 refine aH 5 G ((k*89)) rfl hq0 ?_
 refine aH 6 G ((k*89)+73) rfl hq0 ?_
 refine tL 7 (_) rfl (yieldsIf_load_mid rfl 30 _ rfl G ((k*89)+73) rfl ([.int .u64 x73,.int .u32 x74,.int .u64 x75,.int .u16 x76,.int .u16 x77]) _ (fun W' hW'=>(hP_z2.ext hW').range (j:=73) (n:=5) ((aM (by decide)).trans ((aM (by decide)).trans HS_73.out)) (by decide)) Tryz.underlying30 rfl (by kernel_rfl)) hq0 ?_
 refine bB (i:=8) rfl rfl (by kernel_rfl) (fun K hK=>?_)
 go_simp
 refine(eM (eJ _ _ _ _ _ _ _ _ _ _ _) HSM.out).mono ?_
 rintro e wc1 ⟨rfl,hx⟩
 have hq1:=hq0.trans hx
 refine hK.out _ _ hq1 (fun hHeld=>?_)
 try simp only[ps]
 clear hK K hHeld
 refine bO 9 ((.bool false)) rfl hq1 ?_
 refine bO 10 ((.bool false)) rfl hq1 ?_
 refine aH 11 G ((k*89)) rfl hq1 ?_
 refine aH 12 G ((k*89)) rfl hq1 ?_
 refine aH 13 G ((k*89)+78) rfl hq1 ?_
 refine tL 14 (_) rfl (yieldsIf_load_mid rfl 24 _ rfl G ((k*89)+78) rfl ([.int .i64 x78,.int .i64 x79,.int .i64 x80,.int .i64 x81]) _ (fun W' hW'=>(hP_z2.ext hW').range (j:=78) (n:=4) ((aM (by decide)).trans ((aM (by decide)).trans HS_78.out)) (by decide)) Tryz.underlying24 rfl (by kernel_rfl)) hq1 ?_
 refine aH 15 G ((k*89)) rfl hq1 ?_
 refine aH 16 G ((k*89)) rfl hq1 ?_
 refine aH 17 G ((k*89)+82) rfl hq1 ?_
 refine tL 18 (_) rfl (yieldsIf_load_mid rfl 24 _ rfl G ((k*89)+82) rfl ([.int .i64 x82,.int .i64 x83,.int .i64 x84,.int .i64 x85]) _ (fun W' hW'=>(hP_z2.ext hW').range (j:=82) (n:=4) ((aM (by decide)).trans ((aM (by decide)).trans HS_82.out)) (by decide)) Tryz.underlying24 rfl (by kernel_rfl)) hq1 ?_
 refine tL 19 ((.bool false)) rfl (Or.inl ⟨rfl,fun W' _=>by go_simp⟩) hq1 ?_
 refine bO 20 ((.bool false)) rfl hq1 ?_
 refine wpAnyH_done (by kernel_rfl) ?_ _
 generalize wc1=z3 at *
 have hP_z3:Pv z3 G (k*89) ((L.set 50 (.bool true)).set 88 (.int .i64 4)):=hP_z2.ext hq1
 have E_z3:Pm G (k*89) w z3:=E_z2.ext hq1
 clear hP_z2 E_z2
 clear hq0 hq1
 go_wp2_with fail
 first
  | go_end0
  | (simp only[Exit.inBlock,Exit.then];refine bodyPost_ret (results_none rfl _ _ _) rfl ?_)
  | refine bodyPost_ret (results_none rfl _ _ _) rfl ?_
 exact⟨rfl,hP_z3,E_z3⟩
end Go.Proofs.YtpanapepcbbagaaGreat
