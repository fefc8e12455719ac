/- Part 5 of what BridgeRests stands on. No statement is proved here. -/
import Derived.Laws.BitsAllLaws
import Derived.Test.YtpanapepcbbagaaGreatBvc
set_option linter.unusedVariables false
set_option linter.unusedSimpArgs false
set_option maxRecDepth 100000
set_option maxHeartbeats 8000000
namespace Go.Proofs.YtpanapepcbbagaaGreat
open Go.RowKit Go.BigFrame Go.WideShapes Go.ChangeShapes Go.Deep
def VZ:Array Value:=#[.int .u64 0,.int .u32 0,.int .u64 0,.int .u16 0,.int .u16 0]
theorem fK:∀w,(zeroValue 30).run Tryz.prog w=.ok (.agg VZ) w:=(zero_of_info (P:=Tryz.prog) (t:=30) (v:=.agg VZ) (n:=5) (by kernel_rfl)).1
theorem eS{P:Program}{fn:Func}{p u:Tmp}{ty:TypeId}(h:fn.results=#[.cell p ty,.tmp u])(tmps:Array Value)(w:World)(g:Nat)(t:TypeId)(cs:Array Value)(fr:Nat × Nat)(d:TypeDesc)(hp:tmps.getD p undef=.pointer (some ⟨g,0,none⟩))(hg:w.heap[g]?=some (.cells cs t fr))(hu:P.underlying ty=some d)(hd:(match d with|.struct _|.array _ _=>true|_=>false)=true)(hi:(P.info? ty).map (·.size)=some cs.size):
    (results fn tmps).run P w=.ok (.tuple #[.agg cs,tmps.getD u undef]) w:=by
 rw[results_cell_tmp h]
 have hp':tmps[p]?.getD undef=.pointer (some ⟨g,0,none⟩):=by simpa using hp
 simp[hp',asAddr,run_loadVar_row w g t ty cs fr d hg hu hd hi,Result.andThen]
def Pr(w:World)(G o:Nat)(L:List Value):Prop:=G<w.heap.size∧L.length=89∧w.rangeAt G o L
theorem Pr.lt{w:World}{G o:Nat}{L:List Value}(h:Pr w G o L):G<w.heap.size:=h.1
theorem Pr.cell{w:World}{G o:Nat}{L:List Value}(h:Pr w G o L){j:Nat}(hj:j<89):w.cell? ⟨G,o+j,none⟩=L[j]?:=by
 have:j<L.length:=by rw[h.2.1];exact hj
 rw[List.getElem?_eq_getElem this]
 exact h.2.2 j _ (List.getElem?_eq_getElem this)
theorem Pr.range{w:World}{G o:Nat}{L:List Value}(h:Pr w G o L){j n:Nat}{l:List Value}(hl:(L.drop j).take n=l)(hn:j+n≤89):w.rangeAt G (o+j) l:=fun i v hv=>by
 subst hl
 rw[List.getElem?_take]at hv
 split at hv
 ·rw[List.getElem?_drop]at hv
  rw[show o+j+i=o+(j+i) by omega,h.cell (by omega)]
  exact hv
 ·cases hv
theorem Pr.ext{w w':World}{G o:Nat}{L:List Value}(h:Pr w G o L)(hx:Ext w w'):Pr w' G o L:=⟨nL h.1 hx.size,h.2.1,aQ h.2.2 hx h.1⟩
theorem Pr.mut{w w':World}{G o B:Nat}{L:List Value}(h:Pr w G o L)(hm:Mut (fun n=>n=B) w w')(hne:G≠B):Pr w' G o L:=⟨nL h.1 hm.size,h.2.1,fun j v hv=>(hm.cell (p:=⟨G,o+j,none⟩) h.1 (show ¬G=B from hne)).trans (h.2.2 j v hv)⟩
def l9(a b:Int):Bool:=a % 281474976710656 == b % 281474976710656
theorem o3(a b:Int)(w:World)(ha:0≤a∧a<18446744073709551616)(hb:0≤b∧b<18446744073709551616):Calls Tryz.prog 134 #[.int .u64 a,.int .u64 b] w fun e w'=>e=.returned (.bool (l9 a b))∧Ext w w':=by
 obtain⟨a0,a1⟩:=ha
 obtain⟨b0,b1⟩:=hb
 go_enter Tryz.func134,Tryz.ntmps134
 go_wp2_with fail
 refine(jP a _ a0 a1).mono ?_
 rintro e w1 ⟨rfl,rfl⟩
 go_wp2_with fail
 refine(jP b _ b0 b1).mono ?_
 rintro e w2 ⟨rfl,rfl⟩
 go_wp2
 go_ret
 exact⟨by simp[l9],Ext.refl _⟩
theorem fX(r c b p x:Int)(w:World):Calls Tryz.prog 65 #[.agg #[.int .u64 r,.int .u32 c,.int .u64 b,.int .u16 p,.int .u16 x]] w fun e w'=>e=.returned (.agg #[.int .u64 r,.int .u32 c,.int .u64 b,.int .u16 p,.int .u16 0])∧Ext w w':=by
 go_enter Tryz.func65,Tryz.ntmps65
 go_wp2
 exact bodyPost_ret (v:=.agg #[.int .u64 r,.int .u32 c,.int .u64 b,.int .u16 p,.int .u16 0]) (by simp[results,Tryz.results65,go_sem]) rfl ⟨rfl,((Ext.refl w).alloc _).alloc _⟩
theorem aAZ{w:World}(G o:Nat)(L:List Value)(hP_w:Pr w G o L)(hl:L.length=89)(X:Nat)(id:Int)(hid0:w.cell? ⟨X,0,none⟩=some (.int .u64 id))(hXl:X<w.heap.size)(gid:0≤id∧id<18446744073709551616)(x0:Int)(h0:L[0]?=some (.int .u16 x0))(x1:Int)(h1:L[1]?=some (.int .u32 x1))(x68:Int)(h68:L[68]?=some (.int .u64 x68))(x69:Int)(h69:L[69]?=some (.int .u32 x69))(x70:Int)(h70:L[70]?=some (.int .u64 x70))(x71:Int)(h71:L[71]?=some (.int .u16 x71))(x72:Int)(h72:L[72]?=some (.int .u16 x72))(x86:Int)(h86:L[86]?=some (.int .i64 x86))(g70:0≤x70∧x70<18446744073709551616)(g69:0≤x69∧x69<4294967296)(g1:0≤x1∧x1<4294967296)(hs:(x86 != 3)=true):Calls Tryz.prog 62 #[.pointer (some ⟨X,0,none⟩),.pointer (some ⟨G,o,none⟩)] w fun e w'=>e=.returned (.tuple #[.agg #[.int .u64 0,.int .u32 0,.int .u64 0,.int .u16 0,.int .u16 0],.bool false])∧Ext w w':=by
 have hG:=hP_w.lt
 have HLEN:=hD hl
 have HL_0:=hD h0
 have HL_1:=hD h1
 have HL_68:=hD h68
 have HL_69:=hD h69
 have HL_70:=hD h70
 have HL_71:=hD h71
 have HL_72:=hD h72
 have HL_86:=hD h86
 have HS_68:=hD (a7 (L:=L) (j:=68) (l:=[.int .u64 x68,.int .u32 x69,.int .u64 x70,.int .u16 x71,.int .u16 x72]) (by rw[hl];exact(by decide:68+5≤89)) (fun i hi=>by
  match i,hi with
  | 0,_=>exact HL_68.out
  | 1,_=>exact HL_69.out
  | 2,_=>exact HL_70.out
  | 3,_=>exact HL_71.out
  | 4,_=>exact HL_72.out
  | i+5,hi=>simp at hi;omega))
 clear hl h0 h1 h68 h69 h70 h71 h72 h86
 have HID:=hD hid0
 clear hid0
 have hz:=fK
 go_enter Tryz.func62,Tryz.ntmps62
 go_wp2_with (first
  | fail
  | ((with_reducible refine bS 30 ?_);refine b6 rfl 30 rfl VZ fK ?_
     intro R0 z1 hq hs hx
     have E_z1:Ext w z1:=hx
     have hP_z1:Pr z1 G o L:=hP_w.ext hx
     have hR_z1:z1.heap[R0]?=some (.cells #[.int .u64 0,.int .u32 0,.int .u64 0,.int .u16 0,.int .u16 0] 30 (0,0)):=hq
     have hb_R0:w.heap.size≤R0:=by omega
     clear hP_w
     have hn_R0G:R0≠G:=by omega
     clear hq hs hx))
 have hXz:X<z1.heap.size:=nL hXl E_z1.size
 have hidz:=(E_z1.cell (p:=⟨X,0,none⟩) hXl).trans HID.out
 refine aT (S:=fun W'=>Ext z1 W') (by kernel_rfl) ?_
 intro wd hqx
 have hq0:Ext z1 wd:=hqx
 refine aH 0 G o rfl hq0 ?_
 refine aH 1 G o rfl hq0 ?_
 refine aH 2 G (o+86) rfl hq0 ?_
 refine tL 3 (_) rfl (aA rfl 3 _ rfl ⟨G,o+86,none⟩ rfl (.int .i64 x86) _ (fun W' hW'=>((hP_z1.ext hW').cell (j:=86) (by decide)).trans HL_86.out) Tryz.underlying3 rfl) hq0 ?_
 refine tL 4 ((.bool true)) rfl (Or.inl ⟨rfl,fun W' _=>by go_simp⟩) hq0 ?_
 refine bO 5 ((.bool true)) rfl hq0 ?_
 refine tL 6 (undef) rfl (Or.inr ⟨rfl,rfl⟩) hq0 ?_
 refine tL 7 (undef) rfl (Or.inr ⟨rfl,rfl⟩) hq0 ?_
 refine tL 8 (undef) rfl (Or.inr ⟨rfl,rfl⟩) hq0 ?_
 refine tL 9 (undef) rfl (Or.inr ⟨rfl,rfl⟩) hq0 ?_
 refine tL 10 (undef) rfl (Or.inr ⟨rfl,rfl⟩) hq0 ?_
 refine tL 11 (undef) rfl (Or.inr ⟨rfl,rfl⟩) hq0 ?_
 refine tL 12 (undef) rfl (Or.inr ⟨rfl,rfl⟩) hq0 ?_
 refine tL 13 (undef) rfl (Or.inr ⟨rfl,rfl⟩) hq0 ?_
 refine tL 14 (undef) rfl (Or.inr ⟨rfl,rfl⟩) hq0 ?_
 refine tL 15 (undef) rfl (Or.inr ⟨rfl,rfl⟩) hq0 ?_
 refine bO 16 ((.bool true)) rfl hq0 ?_
 refine wpAnyH_done (by kernel_rfl) ?_ _
 generalize wd=z2 at *
 have hR_z2:z2.heap[R0]?=some (.cells #[.int .u64 0,.int .u32 0,.int .u64 0,.int .u16 0,.int .u16 0] 30 (0,0)):=(hq0.block _ (aC hR_z1)).trans hR_z1
 have hP_z2:Pr z2 G o L:=hP_z1.ext hq0
 have E_z2:Ext w z2:=E_z1.trans hq0
 clear hR_z1 hP_z1 E_z1
 clear hq0
 go_wp2_with (first
  | fail
  | ((with_reducible refine aD 30 ?_);refine dS rfl rfl 30 _ _ rfl R0 0 _ #[.int .u64 0,.int .u32 0,.int .u64 0,.int .u16 0,.int .u16 0] _ #[.int .u64 0,.int .u32 0,.int .u64 0,.int .u16 0,.int .u16 0] _ rfl rfl rfl hR_z2 (by exact(by decide:0+5≤5)) (by kernel_rfl) rfl rfl ?_
     intro z3 hq hm
     have hR_z3:z3.heap[R0]?=some (.cells #[.int .u64 0,.int .u32 0,.int .u64 0,.int .u16 0,.int .u16 0] 30 (0,0)):=hq
     have E_z3:Ext w z3:=Ext.mutE E_z2 hm (fun n hn h=>by have h2:n=R0:=h;omega)
     have hP_z3:Pr z3 G o L:=hP_z2.mut hm (show G≠R0 by omega)
     clear hR_z2 hP_z2 E_z2
     clear hq hm))
 refine bodyPost_ret (eS rfl _ _ _ _ _ (0,0) _ rfl hR_z3 Tryz.underlying30 rfl (by kernel_rfl)) rfl ?_
 exact⟨rfl,E_z3⟩
theorem aA0{w:World}(G o:Nat)(L:List Value)(hP_w:Pr w G o L)(hl:L.length=89)(X:Nat)(id:Int)(hid0:w.cell? ⟨X,0,none⟩=some (.int .u64 id))(hXl:X<w.heap.size)(gid:0≤id∧id<18446744073709551616)(x0:Int)(h0:L[0]?=some (.int .u16 x0))(x1:Int)(h1:L[1]?=some (.int .u32 x1))(x68:Int)(h68:L[68]?=some (.int .u64 x68))(x69:Int)(h69:L[69]?=some (.int .u32 x69))(x70:Int)(h70:L[70]?=some (.int .u64 x70))(x71:Int)(h71:L[71]?=some (.int .u16 x71))(x72:Int)(h72:L[72]?=some (.int .u16 x72))(h86:L[86]?=some (.int .i64 3))(g70:0≤x70∧x70<18446744073709551616)(g69:0≤x69∧x69<4294967296)(g1:0≤x1∧x1<4294967296)(hs:l9 x70 id=true):Calls Tryz.prog 62 #[.pointer (some ⟨X,0,none⟩),.pointer (some ⟨G,o,none⟩)] w fun e w'=>e=.returned (.tuple #[.agg #[.int .u64 0,.int .u32 0,.int .u64 0,.int .u16 0,.int .u16 0],.bool false])∧Ext w w':=by
 have HSM:=hD hs
 clear hs
 have hG:=hP_w.lt
 have HLEN:=hD hl
 have HL_0:=hD h0
 have HL_1:=hD h1
 have HL_68:=hD h68
 have HL_69:=hD h69
 have HL_70:=hD h70
 have HL_71:=hD h71
 have HL_72:=hD h72
 have HL_86:=hD h86
 have HS_68:=hD (a7 (L:=L) (j:=68) (l:=[.int .u64 x68,.int .u32 x69,.int .u64 x70,.int .u16 x71,.int .u16 x72]) (by rw[hl];exact(by decide:68+5≤89)) (fun i hi=>by
  match i,hi with
  | 0,_=>exact HL_68.out
  | 1,_=>exact HL_69.out
  | 2,_=>exact HL_70.out
  | 3,_=>exact HL_71.out
  | 4,_=>exact HL_72.out
  | i+5,hi=>simp at hi;omega))
 clear hl h0 h1 h68 h69 h70 h71 h72 h86
 have HID:=hD hid0
 clear hid0
 have hz:=fK
 go_enter Tryz.func62,Tryz.ntmps62
 go_wp2_with (first
  | fail
  | ((with_reducible refine bS 30 ?_);refine b6 rfl 30 rfl VZ fK ?_
     intro R0 z1 hq hs hx
     have E_z1:Ext w z1:=hx
     have hP_z1:Pr z1 G o L:=hP_w.ext hx
     have hR_z1:z1.heap[R0]?=some (.cells #[.int .u64 0,.int .u32 0,.int .u64 0,.int .u16 0,.int .u16 0] 30 (0,0)):=hq
     have hb_R0:w.heap.size≤R0:=by omega
     clear hP_w
     have hn_R0G:R0≠G:=by omega
     clear hq hs hx))
 have hXz:X<z1.heap.size:=nL hXl E_z1.size
 have hidz:=(E_z1.cell (p:=⟨X,0,none⟩) hXl).trans HID.out
 refine aT (S:=fun W'=>Ext z1 W') (by kernel_rfl) ?_
 intro wd hqx
 have hq0:Ext z1 wd:=hqx
 refine aH 0 G o rfl hq0 ?_
 refine aH 1 G o rfl hq0 ?_
 refine aH 2 G (o+86) rfl hq0 ?_
 refine tL 3 (_) rfl (aA rfl 3 _ rfl ⟨G,o+86,none⟩ rfl (.int .i64 3) _ (fun W' hW'=>((hP_z1.ext hW').cell (j:=86) (by decide)).trans HL_86.out) Tryz.underlying3 rfl) hq0 ?_
 refine tL 4 ((.bool false)) rfl (Or.inl ⟨rfl,fun W' _=>by go_simp⟩) hq0 ?_
 refine bO 5 ((.bool false)) rfl hq0 ?_
 refine aH 6 G o rfl hq0 ?_
 refine aH 7 G o rfl hq0 ?_
 refine aH 8 G (o+68) rfl hq0 ?_
 refine aH 9 G (o+70) rfl hq0 ?_
 refine tL 10 (_) rfl (aA rfl 22 _ rfl ⟨G,o+70,none⟩ rfl (.int .u64 x70) _ (fun W' hW'=>((hP_z1.ext hW').cell (j:=70) (by decide)).trans HL_70.out) Tryz.underlying22 rfl) hq0 ?_
 refine aH 11 X 0 rfl hq0 ?_
 refine aH 12 X 0 rfl hq0 ?_
 refine aH 13 X 0 rfl hq0 ?_
 refine tL 14 (_) rfl (aA rfl 22 _ rfl ⟨X,0,none⟩ rfl (.int .u64 id) _ (fun W' hW'=>(hW'.cell (p:=⟨X,0,none⟩) hXz).trans hidz) Tryz.underlying22 rfl) hq0 ?_
 refine kI (i:=15) rfl (by rfl) (by kernel_rfl) (fun K hK=>?_)
 go_simp
 refine(eM (o3 _ _ _ g70 gid) HSM.out).mono ?_
 rintro e wc1 ⟨rfl,hx⟩
 have hq1:=hq0.trans hx
 refine hK.out _ _ hq1 (fun hHeld=>?_)
 try simp only[ps]
 clear hK K hHeld
 refine bO 16 ((.bool true)) rfl hq1 ?_
 refine wpAnyH_done (by kernel_rfl) ?_ _
 generalize wc1=z2 at *
 have hR_z2:z2.heap[R0]?=some (.cells #[.int .u64 0,.int .u32 0,.int .u64 0,.int .u16 0,.int .u16 0] 30 (0,0)):=(hq1.block _ (aC hR_z1)).trans hR_z1
 have hP_z2:Pr z2 G o L:=hP_z1.ext hq1
 have E_z2:Ext w z2:=E_z1.trans hq1
 clear hR_z1 hP_z1 E_z1
 clear hq0 hq1
 go_wp2_with (first
  | fail
  | ((with_reducible refine aD 30 ?_);refine dS rfl rfl 30 _ _ rfl R0 0 _ #[.int .u64 0,.int .u32 0,.int .u64 0,.int .u16 0,.int .u16 0] _ #[.int .u64 0,.int .u32 0,.int .u64 0,.int .u16 0,.int .u16 0] _ rfl rfl rfl hR_z2 (by exact(by decide:0+5≤5)) (by kernel_rfl) rfl rfl ?_
     intro z3 hq hm
     have hR_z3:z3.heap[R0]?=some (.cells #[.int .u64 0,.int .u32 0,.int .u64 0,.int .u16 0,.int .u16 0] 30 (0,0)):=hq
     have E_z3:Ext w z3:=Ext.mutE E_z2 hm (fun n hn h=>by have h2:n=R0:=h;omega)
     have hP_z3:Pr z3 G o L:=hP_z2.mut hm (show G≠R0 by omega)
     clear hR_z2 hP_z2 E_z2
     clear hq hm))
 refine bodyPost_ret (eS rfl _ _ _ _ _ (0,0) _ rfl hR_z3 Tryz.underlying30 rfl (by kernel_rfl)) rfl ?_
 exact⟨rfl,E_z3⟩
theorem aA1{w:World}(G o:Nat)(L:List Value)(hP_w:Pr w G o L)(hl:L.length=89)(X:Nat)(id:Int)(hid0:w.cell? ⟨X,0,none⟩=some (.int .u64 id))(hXl:X<w.heap.size)(gid:0≤id∧id<18446744073709551616)(x0:Int)(h0:L[0]?=some (.int .u16 x0))(x1:Int)(h1:L[1]?=some (.int .u32 x1))(x68:Int)(h68:L[68]?=some (.int .u64 x68))(x69:Int)(h69:L[69]?=some (.int .u32 x69))(x70:Int)(h70:L[70]?=some (.int .u64 x70))(x71:Int)(h71:L[71]?=some (.int .u16 x71))(x72:Int)(h72:L[72]?=some (.int .u16 x72))(h86:L[86]?=some (.int .i64 3))(g70:0≤x70∧x70<18446744073709551616)(g69:0≤x69∧x69<4294967296)(g1:0≤x1∧x1<4294967296)(hs:l9 x70 id=false):Calls Tryz.prog 62 #[.pointer (some ⟨X,0,none⟩),.pointer (some ⟨G,o,none⟩)] w fun e w'=>e=.returned (.tuple #[.agg #[.int .u64 x68,.int .u32 (oC x69 x1),.int .u64 x70,.int .u16 x71,.int .u16 x0],.bool true])∧Ext w w':=by
 have HSM:=hD hs
 clear hs
 have hG:=hP_w.lt
 have HLEN:=hD hl
 have HL_0:=hD h0
 have HL_1:=hD h1
 have HL_68:=hD h68
 have HL_69:=hD h69
 have HL_70:=hD h70
 have HL_71:=hD h71
 have HL_72:=hD h72
 have HL_86:=hD h86
 have HS_68:=hD (a7 (L:=L) (j:=68) (l:=[.int .u64 x68,.int .u32 x69,.int .u64 x70,.int .u16 x71,.int .u16 x72]) (by rw[hl];exact(by decide:68+5≤89)) (fun i hi=>by
  match i,hi with
  | 0,_=>exact HL_68.out
  | 1,_=>exact HL_69.out
  | 2,_=>exact HL_70.out
  | 3,_=>exact HL_71.out
  | 4,_=>exact HL_72.out
  | i+5,hi=>simp at hi;omega))
 clear hl h0 h1 h68 h69 h70 h71 h72 h86
 have HID:=hD hid0
 clear hid0
 have hz:=fK
 go_enter Tryz.func62,Tryz.ntmps62
 go_wp2_with (first
  | fail
  | ((with_reducible refine bS 30 ?_);refine b6 rfl 30 rfl VZ fK ?_
     intro R0 z1 hq hs hx
     have E_z1:Ext w z1:=hx
     have hP_z1:Pr z1 G o L:=hP_w.ext hx
     have hR_z1:z1.heap[R0]?=some (.cells #[.int .u64 0,.int .u32 0,.int .u64 0,.int .u16 0,.int .u16 0] 30 (0,0)):=hq
     have hb_R0:w.heap.size≤R0:=by omega
     clear hP_w
     have hn_R0G:R0≠G:=by omega
     clear hq hs hx))
 have hXz:X<z1.heap.size:=nL hXl E_z1.size
 have hidz:=(E_z1.cell (p:=⟨X,0,none⟩) hXl).trans HID.out
 refine aT (S:=fun W'=>Ext z1 W') (by kernel_rfl) ?_
 intro wd hqx
 have hq0:Ext z1 wd:=hqx
 refine aH 0 G o rfl hq0 ?_
 refine aH 1 G o rfl hq0 ?_
 refine aH 2 G (o+86) rfl hq0 ?_
 refine tL 3 (_) rfl (aA rfl 3 _ rfl ⟨G,o+86,none⟩ rfl (.int .i64 3) _ (fun W' hW'=>((hP_z1.ext hW').cell (j:=86) (by decide)).trans HL_86.out) Tryz.underlying3 rfl) hq0 ?_
 refine tL 4 ((.bool false)) rfl (Or.inl ⟨rfl,fun W' _=>by go_simp⟩) hq0 ?_
 refine bO 5 ((.bool false)) rfl hq0 ?_
 refine aH 6 G o rfl hq0 ?_
 refine aH 7 G o rfl hq0 ?_
 refine aH 8 G (o+68) rfl hq0 ?_
 refine aH 9 G (o+70) rfl hq0 ?_
 refine tL 10 (_) rfl (aA rfl 22 _ rfl ⟨G,o+70,none⟩ rfl (.int .u64 x70) _ (fun W' hW'=>((hP_z1.ext hW').cell (j:=70) (by decide)).trans HL_70.out) Tryz.underlying22 rfl) hq0 ?_
 refine aH 11 X 0 rfl hq0 ?_
 refine aH 12 X 0 rfl hq0 ?_
 refine aH 13 X 0 rfl hq0 ?_
 refine tL 14 (_) rfl (aA rfl 22 _ rfl ⟨X,0,none⟩ rfl (.int .u64 id) _ (fun W' hW'=>(hW'.cell (p:=⟨X,0,none⟩) hXz).trans hidz) Tryz.underlying22 rfl) hq0 ?_
 refine kI (i:=15) rfl (by rfl) (by kernel_rfl) (fun K hK=>?_)
 go_simp
 refine(eM (o3 _ _ _ g70 gid) HSM.out).mono ?_
 rintro e wc1 ⟨rfl,hx⟩
 have hq1:=hq0.trans hx
 refine hK.out _ _ hq1 (fun hHeld=>?_)
 try simp only[ps]
 clear hK K hHeld
 refine bO 16 ((.bool false)) rfl hq1 ?_
 refine wpAnyH_done (by kernel_rfl) ?_ _
 generalize wc1=z2 at *
 have hR_z2:z2.heap[R0]?=some (.cells #[.int .u64 0,.int .u32 0,.int .u64 0,.int .u16 0,.int .u16 0] 30 (0,0)):=(hq1.block _ (aC hR_z1)).trans hR_z1
 have hP_z2:Pr z2 G o L:=hP_z1.ext hq1
 have E_z2:Ext w z2:=E_z1.trans hq1
 clear hR_z1 hP_z1 E_z1
 clear hq0 hq1
 go_wp2_with fail
 have hbR:w.heap.size≤R0:=hb_R0
 refine aT (S:=fun W'=>Mut (fun n=>n=R0) z2 W') (by kernel_rfl) ?_
 intro wd hqx
 have hq0:Mut (fun n=>n=R0) z2 wd:=hqx.mut _
 have hrR:=(hqx.block _ (aC hR_z2)).trans hR_z2
 refine aH 0 G o rfl hq0 ?_
 refine aH 1 G o rfl hq0 ?_
 refine aH 2 G (o+68) rfl hq0 ?_
 refine tL 3 (_) rfl (yieldsIf_load_mid rfl 30 _ rfl G (o+68) rfl ([.int .u64 x68,.int .u32 x69,.int .u64 x70,.int .u16 x71,.int .u16 x72]) _ (fun W' hW'=>(hP_z2.mut hW' (show G≠R0 by omega)).range (j:=68) (n:=5) HS_68.out (by decide)) Tryz.underlying30 rfl (by kernel_rfl)) hq0 ?_
 refine aH 4 G o rfl hq0 ?_
 refine aH 5 G o rfl hq0 ?_
 refine aH 6 G (o+1) rfl hq0 ?_
 refine tL 7 (_) rfl (aA rfl 27 _ rfl ⟨G,o+1,none⟩ rfl (.int .u32 x1) _ (fun W' hW'=>((hP_z2.mut hW' (show G≠R0 by omega)).cell (j:=1) (by decide)).trans HL_1.out) Tryz.underlying27 rfl) hq0 ?_
 refine aH 8 G o rfl hq0 ?_
 refine aH 9 G o rfl hq0 ?_
 refine aH 10 G o rfl hq0 ?_
 refine tL 11 (_) rfl (aA rfl 28 _ rfl ⟨G,o,none⟩ rfl (.int .u16 x0) _ (fun W' hW'=>((hP_z2.mut hW' (show G≠R0 by omega)).cell (j:=0) (by decide)).trans HL_0.out) Tryz.underlying28 rfl) hq0 ?_
 refine bB (i:=12) rfl rfl (by kernel_rfl) (fun K hK=>?_)
 go_simp
 refine(sB _ _ _ _ _ _ _ _ g69 g1).mono ?_
 rintro e wc1 ⟨rfl,hx⟩
 have hq1:=hq0.trans (hx.mut _)
 have hrR:=(hx.block _ (aC hrR)).trans hrR
 refine hK.out _ _ hq1 (fun hHeld=>?_)
 try simp only[ps]
 clear hK K hHeld
 refine bB (i:=13) rfl rfl (by kernel_rfl) (fun K hK=>?_)
 refine gY rfl 30 _ _ rfl R0 0 _ #[.int .u64 x68,.int .u32 (oC x69 x1),.int .u64 x70,.int .u16 x71,.int .u16 x0] _ #[.int .u64 x68,.int .u32 (oC x69 x1),.int .u64 x70,.int .u16 x71,.int .u16 x0] _ rfl rfl rfl hrR (by exact(by decide:0+5≤5)) (by kernel_rfl) rfl rfl (fun ws13 hrow13 hm=>?_)
 have hq2:Mut (fun n=>n=R0) z2 ws13:=Mut.trans hq1 hm
 clear hm
 refine hK.out _ _ hq2 (fun hHeld=>?_)
 try simp only[ps]
 clear hK K hHeld
 refine bO 14 ((.bool true)) rfl hq2 ?_
 refine wpAnyH_done (by kernel_rfl) ?_ _
 go_wp2_with fail
 refine bodyPost_ret (eS rfl _ _ _ _ _ (0,0) _ rfl hrow13 Tryz.underlying30 rfl (by kernel_rfl)) rfl ?_
 exact⟨rfl,Ext.mutE E_z2 hq2 (fun n hn h=>by have h2:n=R0:=h;omega)⟩
end Go.Proofs.YtpanapepcbbagaaGreat
