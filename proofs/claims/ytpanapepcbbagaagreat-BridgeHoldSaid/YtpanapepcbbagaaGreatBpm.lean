/- Part 13 of what BridgeHold stands on. No statement is proved here. -/
import Derived.Deep.RegionHeld3
import Derived.Deep.QuietTactic
import Derived.WalkMore
import Derived.ScopeJumps
import Derived.StillTailTactics
import Derived.Test.YtpanapepcbbagaaGreatBpl
set_option linter.unusedVariables false
set_option linter.unusedSimpArgs false
set_option maxRecDepth 100000
set_option maxHeartbeats 8000000
namespace Go.Proofs.YtpanapepcbbagaaGreat
open Go.RowKit Go.BigFrame Go.WideShapes Go.ChangeShapes Go.Deep
def classN(kd ro c:Int)(tl te:Bool):Nat :=
 if tellsB kd ro=true then(if((c == 0) && te)=true then 1 else if(decide (c<0) || tl)=true then 0 else 2)else if(ansB kd ro && !(decide (c<0)))=true then 3 else 4
theorem classF_nat(kd ro c:Int)(tl te:Bool):classF kd ro c tl te=((classN kd ro c tl te:Nat):Int):=by
 unfold classF classN
 split
 ·split
  ·rfl
  ·split<;>rfl
 ·split<;>rfl
theorem classN_lt(kd ro c:Int)(tl te:Bool):classN kd ro c tl te<5:=by
 unfold classN
 split
 ·split
  ·decide
  ·split<;>decide
 ·split<;>decide
def clsL(L:List Value):Nat:=(classN (pI L 51) (pI L 58) (c4 (pI L 59) (pI L 60) (pI L 61) (pI L 62) (pI L 68) (pI L 69) (pI L 70) (pI L 71)) (tell (pI L 61) (pI L 62) (pI L 70) (pI L 71)) ((pI L 64) == (pI L 78) && (pI L 65) == (pI L 79) && (pI L 66) == (pI L 80) && (pI L 67) == (pI L 81)))
def hearN(n:Nat)(rst:Bool)(L:List Value):List Value:=match n with
 | 0=>(isup (pB L 22) (pB L 47) (pI L 86) (((pI L 51) == 2) && ((pI L 58) == 4) && (pB L 54)) (rst && !(pB L 3) && ((pI L 51) == 2) && (pB L 55)) ((pB L 39) || (pB L 52)) ((pB L 40) || (pB L 53)) (decide ((c4 (pI L 68) (pI L 69) (pI L 70) (pI L 71) (pI L 59) (pI L 60) (pI L 61) (pI L 62))<0)) [.int .u64 (pI L 59),.int .u32 (pI L 60),.int .u64 (pI L 61),.int .u16 (pI L 62),.int .u16 (pI L 63)] [.int .i64 (pI L 64),.int .i64 (pI L 65),.int .i64 (pI L 66),.int .i64 (pI L 67)] (waitsV (pI L 64) (pI L 65) (pI L 66)) L)
 | 1=>((iagr (rst && !(pB L 3) && ((pI L 51) == 2) && (pB L 55)) (ichg ((pB L 39) || (pB L 52)) ((pB L 40) || (pB L 53)) (iprop (((pI L 51) == 2) && ((pI L 58) == 4) && (pB L 54)) L))).set 11 (.int .i64 (waitsV (pI L 64) (pI L 65) (pI L 66))))
 | 2=>(iinf (((pI L 51) == 2) && (pB L 56)) L)
 | 3=>(ichg ((pB L 39) || (pB L 52)) ((pB L 40) || (pB L 53)) (iagr (rst && !(pB L 3) && ((pI L 51) == 2) && (pB L 55)) L))
 | _=>(ioth ((pI L 51) == 1) L)
def itakeL(rst:Bool)(L:List Value):List Value:=((hearN (clsL L) rst L).set 36 (.bool false)).set 18 (.int .i64 2)
def iupdL(L:List Value):List Value:=(iupd (pB L 23) (pB L 47) (pI L 86) (decide ((c4 (pI L 68) (pI L 69) (pI L 70) (pI L 71) (pI L 73) (pI L 74) (pI L 75) (pI L 76))<0)) [.int .u64 (pI L 73),.int .u32 (pI L 74),.int .u64 (pI L 75),.int .u16 (pI L 76),.int .u16 (pI L 77)] [.int .i64 (pI L 82),.int .i64 (pI L 83),.int .i64 (pI L 84),.int .i64 (pI L 85)] L)
def irowL(L:List Value):Nat:=(irowB (pB L 2) ((pI L 86) == 0) ((pI L 18) == 0) (pB L 36) ((pI L 18) == 1) ((pI L 18) == 2) (pB L 44) (pB L 50) ((pI L 86) == 3) ((pI L 11) == 0))
def infL(rst:Bool)(L:List Value):Bool × List Value:=match irowL L with|0=>(false,L)|1=>(true,idis L)|2=>(true,iage L)|3=>(true,iupdL L)|_=>(true,itakeL rst L)
def TimR(L:List Value):Prop:=TF (pI L 64) (pI L 65) (pI L 66) (pI L 67)
theorem class_L(w:World){L:List Value}(hT:Typed PL L):Calls Tryz.prog 145 #[.agg L.toArray] w fun e w'=>e=.returned (.int .i64 (clsL L:Nat))∧Ext w w' :=
 asi (class_any (w:=w) L (tpL hT) _ (tpI hT 51 rfl) _ (tpB hT 52 rfl) _ (tpB hT 53 rfl) _ (tpB hT 54 rfl) _ (tpB hT 55 rfl) _ (tpB hT 56 rfl) _ (tpB hT 57 rfl) _ (tpI hT 58 rfl) _ (tpI hT 59 rfl) _ (tpI hT 60 rfl) _ (tpI hT 61 rfl) _ (tpI hT 62 rfl) _ (tpI hT 63 rfl) _ (tpI hT 64 rfl) _ (tpI hT 65 rfl) _ (tpI hT 66 rfl) _ (tpI hT 67 rfl) _ (tpI hT 68 rfl) _ (tpI hT 69 rfl) _ (tpI hT 70 rfl) _ (tpI hT 71 rfl) _ (tpI hT 72 rfl) _ (tpI hT 78 rfl) _ (tpI hT 79 rfl) _ (tpI hT 80 rfl) _ (tpI hT 81 rfl) (wf_u64 (tpW hT 61 rfl)) (wf_u64 (tpW hT 70 rfl)) (wf_u16 (tpW hT 62 rfl)) (wf_u16 (tpW hT 71 rfl))) (classF_nat _ _ _ _ _)
theorem inf_hear{w:World}(G o:Nat)(L:List Value)(hP_w:Pv w G o L)(hT:Typed PL L)(rst:Bool)(hR:TimR L)(n:Nat):Calls Tryz.prog (takeId n) #[.agg #[.pointer (some ⟨G,o,none⟩),.bool rst]] w fun e w'=>e=.returned (.tuple #[])∧Pv w' G o (hearN n rst L)∧Pm G o w w':=by
 obtain⟨r1,r2,r3,r4,r5,r6,-,-⟩:=hR
 match n with
 | 0=>exact inf_superior G o L hP_w (tpL hT) rst _ (tpB hT 3 rfl) _ (tpB hT 22 rfl) _ (tpB hT 39 rfl) _ (tpB hT 40 rfl) _ (tpB hT 47 rfl) _ (tpI hT 51 rfl) _ (tpB hT 52 rfl) _ (tpB hT 53 rfl) _ (tpB hT 54 rfl) _ (tpB hT 55 rfl) _ (tpB hT 56 rfl) _ (tpB hT 57 rfl) _ (tpI hT 58 rfl) _ (tpI hT 59 rfl) _ (tpI hT 60 rfl) _ (tpI hT 61 rfl) _ (tpI hT 62 rfl) _ (tpI hT 63 rfl) _ (tpI hT 64 rfl) _ (tpI hT 65 rfl) _ (tpI hT 66 rfl) _ (tpI hT 67 rfl) _ (tpI hT 68 rfl) _ (tpI hT 69 rfl) _ (tpI hT 70 rfl) _ (tpI hT 71 rfl) _ (tpI hT 72 rfl) _ (tpI hT 86 rfl) r1 r2 r3 r4 r5 r6
 | 1=>exact inf_repeated G o L hP_w (tpL hT) rst _ (tpB hT 3 rfl) _ (tpB hT 39 rfl) _ (tpB hT 40 rfl) _ (tpI hT 51 rfl) _ (tpB hT 52 rfl) _ (tpB hT 53 rfl) _ (tpB hT 54 rfl) _ (tpB hT 55 rfl) _ (tpB hT 56 rfl) _ (tpB hT 57 rfl) _ (tpI hT 58 rfl) _ (tpI hT 59 rfl) _ (tpI hT 60 rfl) _ (tpI hT 61 rfl) _ (tpI hT 62 rfl) _ (tpI hT 63 rfl) _ (tpI hT 64 rfl) _ (tpI hT 65 rfl) _ (tpI hT 66 rfl) _ (tpI hT 67 rfl) r1 r2 r3 r4 r5 r6
 | 2=>exact inf_inferior G o L hP_w (tpL hT) rst _ (tpI hT 51 rfl) _ (tpB hT 56 rfl)
 | 3=>exact inf_notDesignated G o L hP_w (tpL hT) rst _ (tpB hT 3 rfl) _ (tpB hT 39 rfl) _ (tpB hT 40 rfl) _ (tpI hT 51 rfl) _ (tpB hT 52 rfl) _ (tpB hT 53 rfl) _ (tpB hT 55 rfl)
 | n+4=>exact inf_other G o L hP_w (tpL hT) rst _ (tpI hT 51 rfl)
theorem inf_takeL{w:World}(G o:Nat)(L:List Value)(hP_w:Pv w G o L)(hT:Typed PL L)(rst:Bool)(hR:TimR L):Calls Tryz.prog 81 #[.agg #[.pointer (some ⟨G,o,none⟩),.bool rst]] w fun e w'=>e=.returned (.tuple #[])∧Pv w' G o (itakeL rst L)∧Pm G o w w' :=
 inf_takeR G o L _ hP_w (tpL hT) rst (clsL L) (classN_lt _ _ _ _ _) (fun w=>class_L w hT) (fun w hp=>inf_hear G o L hp hT rst hR (clsL L))
theorem inf_updL{w:World}(G o:Nat)(L:List Value)(hP_w:Pv w G o L)(hT:Typed PL L)(rst:Bool):Calls Tryz.prog 80 #[.agg #[.pointer (some ⟨G,o,none⟩),.bool rst]] w fun e w'=>e=.returned (.tuple #[])∧Pv w' G o (iupdL L)∧Pm G o w w' :=
 inf_update G o L hP_w (tpL hT) rst _ (tpB hT 23 rfl) _ (tpB hT 47 rfl) _ (tpI hT 68 rfl) _ (tpI hT 69 rfl) _ (tpI hT 70 rfl) _ (tpI hT 71 rfl) _ (tpI hT 72 rfl) _ (tpI hT 73 rfl) _ (tpI hT 74 rfl) _ (tpI hT 75 rfl) _ (tpI hT 76 rfl) _ (tpI hT 77 rfl) _ (tpI hT 82 rfl) _ (tpI hT 83 rfl) _ (tpI hT 84 rfl) _ (tpI hT 85 rfl) _ (tpI hT 86 rfl)
theorem inf_rowL{w:World}(G o:Nat)(L:List Value)(hP_w:Pv w G o L)(hT:Typed PL L)(rst:Bool):Calls Tryz.prog 54 #[.agg #[.pointer (some ⟨G,o,none⟩),.bool rst]] w fun e w'=>e=.returned (rowFun (irowL L) (.agg #[.pointer (some ⟨G,o,none⟩),.bool rst]))∧Pv w' G o L∧Pm G o w w' :=
 inf_row G o L hP_w (tpL hT) rst _ (tpB hT 2 rfl) _ (tpI hT 11 rfl) _ (tpI hT 18 rfl) _ (tpB hT 22 rfl) _ (tpB hT 23 rfl) _ (tpB hT 24 rfl) _ (tpB hT 25 rfl) _ (tpB hT 26 rfl) _ (tpB hT 27 rfl) _ (tpB hT 28 rfl) _ (tpB hT 29 rfl) _ (tpB hT 30 rfl) _ (tpB hT 31 rfl) _ (tpB hT 32 rfl) _ (tpB hT 33 rfl) _ (tpB hT 34 rfl) _ (tpB hT 35 rfl) _ (tpB hT 36 rfl) _ (tpB hT 37 rfl) _ (tpB hT 38 rfl) _ (tpB hT 39 rfl) _ (tpB hT 40 rfl) _ (tpB hT 41 rfl) _ (tpB hT 42 rfl) _ (tpB hT 43 rfl) _ (tpB hT 44 rfl) _ (tpB hT 45 rfl) _ (tpB hT 46 rfl) _ (tpB hT 47 rfl) _ (tpB hT 48 rfl) _ (tpB hT 49 rfl) _ (tpB hT 50 rfl) _ (tpI hT 86 rfl)
theorem inf_rowN{w:World}(G o:Nat)(L:List Value)(hP_w:Pv w G o L)(hT:Typed PL L)(rst:Bool)(n:Nat)(hn:irowL L=n)(v:Value)(hv:rowFun n (.agg #[.pointer (some ⟨G,o,none⟩),.bool rst])=v):Calls Tryz.prog 54 #[.agg #[.pointer (some ⟨G,o,none⟩),.bool rst]] w fun e w'=>e=.returned v∧Pv w' G o L∧Pm G o w w':=by
 have:=inf_rowL G o L hP_w hT rst
 rw[hn,hv]at this
 exact this
theorem irowL_cases(L:List Value):irowL L=0∨irowL L=1∨irowL L=2∨irowL L=3∨irowL L=4:=by
 unfold irowL irowB
 repeat' split
 all_goals simp
theorem inffn_eq(f:FuncId)(cs:Array Value)(w:World):(binOp BinOp.eql 1 (Value.func (Fn.func f) cs #[]) Value.nilFunc).run Tryz.prog w=.ok (.bool false) w:=by kernel_rfl
theorem inffn_eq0(w:World):(binOp BinOp.eql 1 Value.nilFunc Value.nilFunc).run Tryz.prog w=.ok (.bool true) w:=by kernel_rfl
def infF(B:Br)(k:Nat):Bool × Br:=((infL (B.hb 1) (port B.ps k)).1,B.setPort k (infL (B.hb 1) (port B.ps k)).2)
theorem inf_step0(w:World)(F:Nat→Prop)(X g k:Nat)(B:Br)(h:BrG w F X g B)(ho:B.ok)(hk:k<B.np)(hn:B.np<1000)(hr:irowL (port B.ps k)=0):Calls Tryz.prog 40 #[.pointer (some ⟨X,0,none⟩),.int .i64 k] w (Stepped w F X g (false,B)):=by
 obtain⟨hX,hg,hne⟩:=h.lt
 obtain⟨cap,c17,hc1,hc2⟩:=h.cell17 ho
 have cr0:=(h.cellX ho (i:=1) (by decide)).trans (ho.hb 1 rfl)
 obtain⟨rs,hrs⟩:∃r,B.hb 1=r:=⟨_,rfl⟩
 have cr:w.cell? ⟨X,1,none⟩=some (.bool rs):=by rw[←hrs];exact cr0
 have HRS:=hD hrs
 have HPV:=hD (h.pv hk)
 have HTY:=hD (br_typed ho hk)
 have H:=hD h
 have HR:=hD hr
 have HO:=hD (setPort_self (len89 ho hk))
 have hk8:k<1000:=by omega
 clear h ho hr hrs cr0
 go_enter Tryz.func40,Tryz.ntmps40
 go_wp2_with fail
 refine beginL (S:=fun W'=>Pm g (k*89) w W') (by kernel_rfl) ?_
 intro wd hqx
 have hq0:Pm g (k*89) w wd:=hqx.pm g (k*89)
 have hpd:Pv wd g (k*89) (port B.ps k):=HPV.out.ext hqx
 refine tLp 0 ((.pointer (some ⟨X,0,none⟩))) rfl hq0 ?_
 refine tLp 1 ((.pointer (some ⟨X,0,none⟩))) rfl hq0 ?_
 refine tLp 2 ((.pointer (some ⟨X,17,none⟩))) rfl hq0 ?_
 refine tL 3 (_) rfl (yieldsIf_cell rfl 31 _ rfl ⟨X,17,none⟩ rfl (.slice (some ⟨g,0,none⟩) B.np cap) _ (fun W' hW'=>(hW'.1.cell (p:=⟨X,17,none⟩) hX hne).trans c17) Tryz.underlying31 rfl) hq0 ?_
 refine tLp 4 ((.int .i64 (k:Int))) rfl hq0 ?_
 refine tL 5 ((.pointer (some ⟨g,k*89,none⟩))) rfl (Or.inl ⟨rfl,fun W' _=>by go_simp⟩) hq0 ?_
 refine tLp 6 ((.pointer (some ⟨X,0,none⟩))) rfl hq0 ?_
 refine tLp 7 ((.pointer (some ⟨X,0,none⟩))) rfl hq0 ?_
 refine tLp 8 ((.pointer (some ⟨X,1,none⟩))) rfl hq0 ?_
 refine tL 9 (_) rfl (yieldsIf_cell rfl 4 _ rfl ⟨X,1,none⟩ rfl (.bool rs) _ (fun W' hW'=>(hW'.1.cell (p:=⟨X,1,none⟩) hX hne).trans cr) Tryz.underlying4 rfl) hq0 ?_
 refine tL 10 ((.agg #[.pointer (some ⟨g,k*89,none⟩),.bool rs])) rfl (yieldsIf_build rfl 110 _ rfl [(0,.pointer (some ⟨g,k*89,none⟩)),(1,.bool rs)] rfl #[.pointer (some ⟨g,k*89,none⟩),.bool rs] (by kernel_rfl)) hq0 ?_
 refine runL (i:=11) rfl rfl (by kernel_rfl) (fun K hK=>?_)
 go_simp
 refine(inf_rowN g (k*89) (port B.ps k) hpd HTY.out rs 0 HR.out _ rfl).mono ?_
 rintro e wc1 ⟨rfl,hpv,hx⟩
 have hq1:=hq0.trans hx
 refine hK.out _ _ hq1 (fun hHeld=>?_)
 try simp only[ps]
 clear hK K hHeld
 refine tLp 12 (Value.nilFunc) rfl hq1 ?_
 refine wpAnyH_done (by kernel_rfl) ?_ _
 have hBr:=H.out.pm hk hq1 hpv
 rw[HO.out]at hBr
 have HB:=hD hBr
 have HM:=hD hq1
 generalize wc1=wy at *
 clear hqx hq0 hq1 hpd hBr c17 cr
 have q0:=inffn_eq0
 go_wp2_with fail
 go_ret
 exact⟨rfl,HB.out,HM.out.mutF H.out.F2⟩
theorem inf_step1(w:World)(F:Nat→Prop)(X g k:Nat)(B:Br)(h:BrG w F X g B)(ho:B.ok)(hk:k<B.np)(hn:B.np<1000)(hr:irowL (port B.ps k)=1):Calls Tryz.prog 40 #[.pointer (some ⟨X,0,none⟩),.int .i64 k] w (Stepped w F X g (true,B.setPort k (idis (port B.ps k)))):=by
 obtain⟨hX,hg,hne⟩:=h.lt
 obtain⟨cap,c17,hc1,hc2⟩:=h.cell17 ho
 have cr0:=(h.cellX ho (i:=1) (by decide)).trans (ho.hb 1 rfl)
 obtain⟨rs,hrs⟩:∃r,B.hb 1=r:=⟨_,rfl⟩
 have cr:w.cell? ⟨X,1,none⟩=some (.bool rs):=by rw[←hrs];exact cr0
 have HRS:=hD hrs
 have HPV:=hD (h.pv hk)
 have HTY:=hD (br_typed ho hk)
 have H:=hD h
 have HR:=hD hr
 have HO:=hD (setPort_self (len89 ho hk))
 have hk8:k<1000:=by omega
 clear h ho hr hrs cr0
 go_enter Tryz.func40,Tryz.ntmps40
 go_wp2_with fail
 refine beginL (S:=fun W'=>Pm g (k*89) w W') (by kernel_rfl) ?_
 intro wd hqx
 have hq0:Pm g (k*89) w wd:=hqx.pm g (k*89)
 have hpd:Pv wd g (k*89) (port B.ps k):=HPV.out.ext hqx
 refine tLp 0 ((.pointer (some ⟨X,0,none⟩))) rfl hq0 ?_
 refine tLp 1 ((.pointer (some ⟨X,0,none⟩))) rfl hq0 ?_
 refine tLp 2 ((.pointer (some ⟨X,17,none⟩))) rfl hq0 ?_
 refine tL 3 (_) rfl (yieldsIf_cell rfl 31 _ rfl ⟨X,17,none⟩ rfl (.slice (some ⟨g,0,none⟩) B.np cap) _ (fun W' hW'=>(hW'.1.cell (p:=⟨X,17,none⟩) hX hne).trans c17) Tryz.underlying31 rfl) hq0 ?_
 refine tLp 4 ((.int .i64 (k:Int))) rfl hq0 ?_
 refine tL 5 ((.pointer (some ⟨g,k*89,none⟩))) rfl (Or.inl ⟨rfl,fun W' _=>by go_simp⟩) hq0 ?_
 refine tLp 6 ((.pointer (some ⟨X,0,none⟩))) rfl hq0 ?_
 refine tLp 7 ((.pointer (some ⟨X,0,none⟩))) rfl hq0 ?_
 refine tLp 8 ((.pointer (some ⟨X,1,none⟩))) rfl hq0 ?_
 refine tL 9 (_) rfl (yieldsIf_cell rfl 4 _ rfl ⟨X,1,none⟩ rfl (.bool rs) _ (fun W' hW'=>(hW'.1.cell (p:=⟨X,1,none⟩) hX hne).trans cr) Tryz.underlying4 rfl) hq0 ?_
 refine tL 10 ((.agg #[.pointer (some ⟨g,k*89,none⟩),.bool rs])) rfl (yieldsIf_build rfl 110 _ rfl [(0,.pointer (some ⟨g,k*89,none⟩)),(1,.bool rs)] rfl #[.pointer (some ⟨g,k*89,none⟩),.bool rs] (by kernel_rfl)) hq0 ?_
 refine runL (i:=11) rfl rfl (by kernel_rfl) (fun K hK=>?_)
 go_simp
 refine(inf_rowN g (k*89) (port B.ps k) hpd HTY.out rs 1 HR.out _ rfl).mono ?_
 rintro e wc1 ⟨rfl,hpv,hx⟩
 have hq1:=hq0.trans hx
 refine hK.out _ _ hq1 (fun hHeld=>?_)
 try simp only[ps]
 clear hK K hHeld
 refine tLp 12 ((.func (.func 78) #[.agg #[.pointer (some ⟨g,k*89,none⟩),.bool rs]] #[])) rfl hq1 ?_
 refine wpAnyH_done (by kernel_rfl) ?_ _
 have hBr:=H.out.pm hk hq1 hpv
 rw[HO.out]at hBr
 have HB:=hD hBr
 have HM:=hD hq1
 generalize wc1=wy at *
 clear hqx hq0 hq1 hpd hBr c17 cr
 have q0:=inffn_eq0
 have q1:=inffn_eq 78
 go_wp2_with fail
 refine(inf_disable g (k*89) (port B.ps k) hpv (tpL HTY.out) rs).mono ?_
 rintro e wz ⟨rfl,hp,hm⟩
 have hB2:=HB.out.pm hk hm hp
 have HB2:=hD hB2
 have HM2:=hD ((HM.out.trans hm).mutF H.out.F2)
 clear hB2 hm hp
 go_wp2_with fail
 go_ret
 refine⟨rfl,?_,HM2.out⟩
 exact HB2.out
theorem inf_step2(w:World)(F:Nat→Prop)(X g k:Nat)(B:Br)(h:BrG w F X g B)(ho:B.ok)(hk:k<B.np)(hn:B.np<1000)(hr:irowL (port B.ps k)=2):Calls Tryz.prog 40 #[.pointer (some ⟨X,0,none⟩),.int .i64 k] w (Stepped w F X g (true,B.setPort k (iage (port B.ps k)))):=by
 obtain⟨hX,hg,hne⟩:=h.lt
 obtain⟨cap,c17,hc1,hc2⟩:=h.cell17 ho
 have cr0:=(h.cellX ho (i:=1) (by decide)).trans (ho.hb 1 rfl)
 obtain⟨rs,hrs⟩:∃r,B.hb 1=r:=⟨_,rfl⟩
 have cr:w.cell? ⟨X,1,none⟩=some (.bool rs):=by rw[←hrs];exact cr0
 have HRS:=hD hrs
 have HPV:=hD (h.pv hk)
 have HTY:=hD (br_typed ho hk)
 have H:=hD h
 have HR:=hD hr
 have HO:=hD (setPort_self (len89 ho hk))
 have hk8:k<1000:=by omega
 clear h ho hr hrs cr0
 go_enter Tryz.func40,Tryz.ntmps40
 go_wp2_with fail
 refine beginL (S:=fun W'=>Pm g (k*89) w W') (by kernel_rfl) ?_
 intro wd hqx
 have hq0:Pm g (k*89) w wd:=hqx.pm g (k*89)
 have hpd:Pv wd g (k*89) (port B.ps k):=HPV.out.ext hqx
 refine tLp 0 ((.pointer (some ⟨X,0,none⟩))) rfl hq0 ?_
 refine tLp 1 ((.pointer (some ⟨X,0,none⟩))) rfl hq0 ?_
 refine tLp 2 ((.pointer (some ⟨X,17,none⟩))) rfl hq0 ?_
 refine tL 3 (_) rfl (yieldsIf_cell rfl 31 _ rfl ⟨X,17,none⟩ rfl (.slice (some ⟨g,0,none⟩) B.np cap) _ (fun W' hW'=>(hW'.1.cell (p:=⟨X,17,none⟩) hX hne).trans c17) Tryz.underlying31 rfl) hq0 ?_
 refine tLp 4 ((.int .i64 (k:Int))) rfl hq0 ?_
 refine tL 5 ((.pointer (some ⟨g,k*89,none⟩))) rfl (Or.inl ⟨rfl,fun W' _=>by go_simp⟩) hq0 ?_
 refine tLp 6 ((.pointer (some ⟨X,0,none⟩))) rfl hq0 ?_
 refine tLp 7 ((.pointer (some ⟨X,0,none⟩))) rfl hq0 ?_
 refine tLp 8 ((.pointer (some ⟨X,1,none⟩))) rfl hq0 ?_
 refine tL 9 (_) rfl (yieldsIf_cell rfl 4 _ rfl ⟨X,1,none⟩ rfl (.bool rs) _ (fun W' hW'=>(hW'.1.cell (p:=⟨X,1,none⟩) hX hne).trans cr) Tryz.underlying4 rfl) hq0 ?_
 refine tL 10 ((.agg #[.pointer (some ⟨g,k*89,none⟩),.bool rs])) rfl (yieldsIf_build rfl 110 _ rfl [(0,.pointer (some ⟨g,k*89,none⟩)),(1,.bool rs)] rfl #[.pointer (some ⟨g,k*89,none⟩),.bool rs] (by kernel_rfl)) hq0 ?_
 refine runL (i:=11) rfl rfl (by kernel_rfl) (fun K hK=>?_)
 go_simp
 refine(inf_rowN g (k*89) (port B.ps k) hpd HTY.out rs 2 HR.out _ rfl).mono ?_
 rintro e wc1 ⟨rfl,hpv,hx⟩
 have hq1:=hq0.trans hx
 refine hK.out _ _ hq1 (fun hHeld=>?_)
 try simp only[ps]
 clear hK K hHeld
 refine tLp 12 ((.func (.func 79) #[.agg #[.pointer (some ⟨g,k*89,none⟩),.bool rs]] #[])) rfl hq1 ?_
 refine wpAnyH_done (by kernel_rfl) ?_ _
 have hBr:=H.out.pm hk hq1 hpv
 rw[HO.out]at hBr
 have HB:=hD hBr
 have HM:=hD hq1
 generalize wc1=wy at *
 clear hqx hq0 hq1 hpd hBr c17 cr
 have q0:=inffn_eq0
 have q1:=inffn_eq 79
 go_wp2_with fail
 refine(inf_age g (k*89) (port B.ps k) hpv (tpL HTY.out) rs).mono ?_
 rintro e wz ⟨rfl,hp,hm⟩
 have hB2:=HB.out.pm hk hm hp
 have HB2:=hD hB2
 have HM2:=hD ((HM.out.trans hm).mutF H.out.F2)
 clear hB2 hm hp
 go_wp2_with fail
 go_ret
 refine⟨rfl,?_,HM2.out⟩
 exact HB2.out
theorem inf_step3(w:World)(F:Nat→Prop)(X g k:Nat)(B:Br)(h:BrG w F X g B)(ho:B.ok)(hk:k<B.np)(hn:B.np<1000)(hr:irowL (port B.ps k)=3):Calls Tryz.prog 40 #[.pointer (some ⟨X,0,none⟩),.int .i64 k] w (Stepped w F X g (true,B.setPort k (iupdL (port B.ps k)))):=by
 obtain⟨hX,hg,hne⟩:=h.lt
 obtain⟨cap,c17,hc1,hc2⟩:=h.cell17 ho
 have cr0:=(h.cellX ho (i:=1) (by decide)).trans (ho.hb 1 rfl)
 obtain⟨rs,hrs⟩:∃r,B.hb 1=r:=⟨_,rfl⟩
 have cr:w.cell? ⟨X,1,none⟩=some (.bool rs):=by rw[←hrs];exact cr0
 have HRS:=hD hrs
 have HPV:=hD (h.pv hk)
 have HTY:=hD (br_typed ho hk)
 have H:=hD h
 have HR:=hD hr
 have HO:=hD (setPort_self (len89 ho hk))
 have hk8:k<1000:=by omega
 clear h ho hr hrs cr0
 go_enter Tryz.func40,Tryz.ntmps40
 go_wp2_with fail
 refine beginL (S:=fun W'=>Pm g (k*89) w W') (by kernel_rfl) ?_
 intro wd hqx
 have hq0:Pm g (k*89) w wd:=hqx.pm g (k*89)
 have hpd:Pv wd g (k*89) (port B.ps k):=HPV.out.ext hqx
 refine tLp 0 ((.pointer (some ⟨X,0,none⟩))) rfl hq0 ?_
 refine tLp 1 ((.pointer (some ⟨X,0,none⟩))) rfl hq0 ?_
 refine tLp 2 ((.pointer (some ⟨X,17,none⟩))) rfl hq0 ?_
 refine tL 3 (_) rfl (yieldsIf_cell rfl 31 _ rfl ⟨X,17,none⟩ rfl (.slice (some ⟨g,0,none⟩) B.np cap) _ (fun W' hW'=>(hW'.1.cell (p:=⟨X,17,none⟩) hX hne).trans c17) Tryz.underlying31 rfl) hq0 ?_
 refine tLp 4 ((.int .i64 (k:Int))) rfl hq0 ?_
 refine tL 5 ((.pointer (some ⟨g,k*89,none⟩))) rfl (Or.inl ⟨rfl,fun W' _=>by go_simp⟩) hq0 ?_
 refine tLp 6 ((.pointer (some ⟨X,0,none⟩))) rfl hq0 ?_
 refine tLp 7 ((.pointer (some ⟨X,0,none⟩))) rfl hq0 ?_
 refine tLp 8 ((.pointer (some ⟨X,1,none⟩))) rfl hq0 ?_
 refine tL 9 (_) rfl (yieldsIf_cell rfl 4 _ rfl ⟨X,1,none⟩ rfl (.bool rs) _ (fun W' hW'=>(hW'.1.cell (p:=⟨X,1,none⟩) hX hne).trans cr) Tryz.underlying4 rfl) hq0 ?_
 refine tL 10 ((.agg #[.pointer (some ⟨g,k*89,none⟩),.bool rs])) rfl (yieldsIf_build rfl 110 _ rfl [(0,.pointer (some ⟨g,k*89,none⟩)),(1,.bool rs)] rfl #[.pointer (some ⟨g,k*89,none⟩),.bool rs] (by kernel_rfl)) hq0 ?_
 refine runL (i:=11) rfl rfl (by kernel_rfl) (fun K hK=>?_)
 go_simp
 refine(inf_rowN g (k*89) (port B.ps k) hpd HTY.out rs 3 HR.out _ rfl).mono ?_
 rintro e wc1 ⟨rfl,hpv,hx⟩
 have hq1:=hq0.trans hx
 refine hK.out _ _ hq1 (fun hHeld=>?_)
 try simp only[ps]
 clear hK K hHeld
 refine tLp 12 ((.func (.func 80) #[.agg #[.pointer (some ⟨g,k*89,none⟩),.bool rs]] #[])) rfl hq1 ?_
 refine wpAnyH_done (by kernel_rfl) ?_ _
 have hBr:=H.out.pm hk hq1 hpv
 rw[HO.out]at hBr
 have HB:=hD hBr
 have HM:=hD hq1
 generalize wc1=wy at *
 clear hqx hq0 hq1 hpd hBr c17 cr
 have q0:=inffn_eq0
 have q1:=inffn_eq 80
 go_wp2_with fail
 refine(inf_updL g (k*89) (port B.ps k) hpv HTY.out rs).mono ?_
 rintro e wz ⟨rfl,hp,hm⟩
 have hB2:=HB.out.pm hk hm hp
 have HB2:=hD hB2
 have HM2:=hD ((HM.out.trans hm).mutF H.out.F2)
 clear hB2 hm hp
 go_wp2_with fail
 go_ret
 refine⟨rfl,?_,HM2.out⟩
 exact HB2.out
theorem inf_step4(w:World)(F:Nat→Prop)(X g k:Nat)(B:Br)(h:BrG w F X g B)(ho:B.ok)(hk:k<B.np)(hn:B.np<1000)(hr:irowL (port B.ps k)=4)(hR:TimR (port B.ps k)):Calls Tryz.prog 40 #[.pointer (some ⟨X,0,none⟩),.int .i64 k] w (Stepped w F X g (true,B.setPort k (itakeL (B.hb 1) (port B.ps k)))):=by
 obtain⟨hX,hg,hne⟩:=h.lt
 obtain⟨cap,c17,hc1,hc2⟩:=h.cell17 ho
 have cr0:=(h.cellX ho (i:=1) (by decide)).trans (ho.hb 1 rfl)
 obtain⟨rs,hrs⟩:∃r,B.hb 1=r:=⟨_,rfl⟩
 have cr:w.cell? ⟨X,1,none⟩=some (.bool rs):=by rw[←hrs];exact cr0
 have HRS:=hD hrs
 have HPV:=hD (h.pv hk)
 have HTY:=hD (br_typed ho hk)
 have H:=hD h
 have HR:=hD hr
 have HO:=hD (setPort_self (len89 ho hk))
 have hk8:k<1000:=by omega
 have HTM:=hD hR
 clear hR
 clear h ho hr hrs cr0
 go_enter Tryz.func40,Tryz.ntmps40
 go_wp2_with fail
 refine beginL (S:=fun W'=>Pm g (k*89) w W') (by kernel_rfl) ?_
 intro wd hqx
 have hq0:Pm g (k*89) w wd:=hqx.pm g (k*89)
 have hpd:Pv wd g (k*89) (port B.ps k):=HPV.out.ext hqx
 refine tLp 0 ((.pointer (some ⟨X,0,none⟩))) rfl hq0 ?_
 refine tLp 1 ((.pointer (some ⟨X,0,none⟩))) rfl hq0 ?_
 refine tLp 2 ((.pointer (some ⟨X,17,none⟩))) rfl hq0 ?_
 refine tL 3 (_) rfl (yieldsIf_cell rfl 31 _ rfl ⟨X,17,none⟩ rfl (.slice (some ⟨g,0,none⟩) B.np cap) _ (fun W' hW'=>(hW'.1.cell (p:=⟨X,17,none⟩) hX hne).trans c17) Tryz.underlying31 rfl) hq0 ?_
 refine tLp 4 ((.int .i64 (k:Int))) rfl hq0 ?_
 refine tL 5 ((.pointer (some ⟨g,k*89,none⟩))) rfl (Or.inl ⟨rfl,fun W' _=>by go_simp⟩) hq0 ?_
 refine tLp 6 ((.pointer (some ⟨X,0,none⟩))) rfl hq0 ?_
 refine tLp 7 ((.pointer (some ⟨X,0,none⟩))) rfl hq0 ?_
 refine tLp 8 ((.pointer (some ⟨X,1,none⟩))) rfl hq0 ?_
 refine tL 9 (_) rfl (yieldsIf_cell rfl 4 _ rfl ⟨X,1,none⟩ rfl (.bool rs) _ (fun W' hW'=>(hW'.1.cell (p:=⟨X,1,none⟩) hX hne).trans cr) Tryz.underlying4 rfl) hq0 ?_
 refine tL 10 ((.agg #[.pointer (some ⟨g,k*89,none⟩),.bool rs])) rfl (yieldsIf_build rfl 110 _ rfl [(0,.pointer (some ⟨g,k*89,none⟩)),(1,.bool rs)] rfl #[.pointer (some ⟨g,k*89,none⟩),.bool rs] (by kernel_rfl)) hq0 ?_
 refine runL (i:=11) rfl rfl (by kernel_rfl) (fun K hK=>?_)
 go_simp
 refine(inf_rowN g (k*89) (port B.ps k) hpd HTY.out rs 4 HR.out _ rfl).mono ?_
 rintro e wc1 ⟨rfl,hpv,hx⟩
 have hq1:=hq0.trans hx
 refine hK.out _ _ hq1 (fun hHeld=>?_)
 try simp only[ps]
 clear hK K hHeld
 refine tLp 12 ((.func (.func 81) #[.agg #[.pointer (some ⟨g,k*89,none⟩),.bool rs]] #[])) rfl hq1 ?_
 refine wpAnyH_done (by kernel_rfl) ?_ _
 have hBr:=H.out.pm hk hq1 hpv
 rw[HO.out]at hBr
 have HB:=hD hBr
 have HM:=hD hq1
 generalize wc1=wy at *
 clear hqx hq0 hq1 hpd hBr c17 cr
 have q0:=inffn_eq0
 have q1:=inffn_eq 81
 go_wp2_with fail
 refine(inf_takeL g (k*89) (port B.ps k) hpv HTY.out rs HTM.out).mono ?_
 rintro e wz ⟨rfl,hp,hm⟩
 have hB2:=HB.out.pm hk hm hp
 have HB2:=hD hB2
 have HM2:=hD ((HM.out.trans hm).mutF H.out.F2)
 clear hB2 hm hp
 go_wp2_with fail
 go_ret
 refine⟨rfl,?_,HM2.out⟩
 rw[HRS.out]
 exact HB2.out
theorem inf_step(w:World)(F:Nat→Prop)(X g k:Nat)(B:Br)(h:BrG w F X g B)(ho:B.ok)(hk:k<B.np)(hn:B.np<1000)(hR:TimR (port B.ps k)):Calls Tryz.prog 40 #[.pointer (some ⟨X,0,none⟩),.int .i64 k] w (Stepped w F X g (infF B k)):=by
 unfold infF infL
 rcases irowL_cases (port B.ps k)with hr|hr|hr|hr|hr
 ·rw[hr]
  show Calls _ _ _ _ (Stepped w F X g (false,B.setPort k (port B.ps k)))
  rw[setPort_self (len89 ho hk)]
  exact inf_step0 w F X g k B h ho hk hn hr
 ·rw[hr];exact inf_step1 w F X g k B h ho hk hn hr
 ·rw[hr];exact inf_step2 w F X g k B h ho hk hn hr
 ·rw[hr];exact inf_step3 w F X g k B h ho hk hn hr
 ·rw[hr];exact inf_step4 w F X g k B h ho hk hn hr hR
theorem twithin_any(n l m:Int)(w:World):
    Calls Tryz.prog 46 #[.int .i64 n,.int .i64 l,.int .i64 m] w fun e w'=>e=.returned (.bool (decide (l≤n) && decide (n≤m)))∧w=w':=by
 by_cases h1:l≤n
 ·have e1:decide (l≤n)=true:=by simpa using h1
  go_enter Tryz.func46,Tryz.ntmps46
  go_wp2
  go_ret
  exact⟨retB (by rw[e1];rfl),rfl⟩
 ·have e1:decide (l≤n)=false:=by simpa using h1
  go_enter Tryz.func46,Tryz.ntmps46
  go_wp2
  go_ret
  exact⟨rfl,rfl⟩
theorem eq_checks(w:World)(b0 b1 b2 b3 b4 b5:Bool):(binOp .eql 91 (.agg #[.bool b0,.bool b1,.bool b2,.bool b3,.bool b4,.bool b5]) (.agg #[.bool true,.bool true,.bool true,.bool true,.bool true,.bool true])).run Tryz.prog w =
    .ok (.bool (b0 && b1 && b2 && b3 && b4 && b5)) w:=by
 have k1:Tryz.prog.stoodInHeld 91=false:=by kernel_rfl
 simp[go_sem,k1,Tryz.underlying91]
 cases b0<;>simp<;>cases b1<;>simp<;>cases b2<;>simp<;>cases b3<;>simp<;>cases b4<;>simp<;>cases b5<;>simp
theorem guard_checks:Tryz.prog.eqGuardType Tryz.prog.depth 91=false:=by kernel_rfl
def rightB(a m h d:Int):Bool:=decide (0≤a∧a≤255∧6≤m∧m≤40∧1≤h∧h≤10∧4≤d∧d≤30∧m≤2*(d - 1)∧2*(h+1)≤m)
theorem tmright_any(a m h d:Int)(w:World):
    Calls Tryz.prog 32 #[.agg #[.int .i64 a,.int .i64 m,.int .i64 h,.int .i64 d]] w fun e w'=>e=.returned (.bool (rightB a m h d))∧Ext w w':=by
 have he:=eq_checks
 have hg:=guard_checks
 go_enter Tryz.func32,Tryz.ntmps32
 go_wp2
 go_quiet ((first
  | (go_at_call 46;exact quietL (twithin_any _ _ _ _))
  | (go_at_call 46;exact quietA (twithin_any _ _ _ _))))
 go_wp2
 go_ret
 refine⟨retB ?_,((Ext.refl w).alloc _).drewN _⟩
 unfold rightB
 rw[Bool.eq_iff_iff]
 simp only[Bool.and_eq_true,decide_eq_true_eq]
 by_cases hr:(1≤h∧h≤10)∧(4≤d∧d≤30)
 ·rw[w64 (d - 1) (by omega) (by omega),w64 (2*(d - 1)) (by omega) (by omega),w64 (h+1) (by omega) (by omega),w64 (2*(h+1)) (by omega) (by omega)]
  omega
 ·omega
theorem rightB_iff(a m h d:Int):rightB a m h d=true↔TR a m h d:=by unfold rightB TR;simp
theorem cwithin_any(n l m:Int)(w:World):
    Calls Tryz.prog 33 #[.int .i64 n,.int .i64 l,.int .i64 m] w fun e w'=>e=.returned (.bool (decide (l≤n) && decide (n≤m)))∧w=w':=by
 by_cases h1:l≤n
 ·have e1:decide (l≤n)=true:=by simpa using h1
  go_enter Tryz.func33,Tryz.ntmps33
  go_wp2
  go_ret
  exact⟨retB (by rw[e1];rfl),rfl⟩
 ·have e1:decide (l≤n)=false:=by simpa using h1
  go_enter Tryz.func33,Tryz.ntmps33
  go_wp2
  go_ret
  exact⟨rfl,rfl⟩
def pick4(a m h d:Int):Nat→Int
 | 0=>a|1=>m|2=>h|_=>d
theorem told_ix(a m h d:Int)(k:Nat)(hk:k<4)(w:World):(Instr.index 92 (.agg #[.int .i64 a,.int .i64 m,.int .i64 h,.int .i64 d]) (.int .i64 (k:Int))).run Tryz.prog w=.ok (.int .i64 (pick4 a m h d k)) w:=by
 rcases(by omega:k=0∨k=1∨k=2∨k=3)with rfl|rfl|rfl|rfl
 all_goals kernel_rfl
theorem told_any(a m h d:Int)(w:World):Calls Tryz.prog 34 #[.agg #[.int .i64 a,.int .i64 m,.int .i64 h,.int .i64 d]] w (Tells w (TF a m h d)):=by
 go_enter Tryz.func34,Tryz.ntmps34
 go_wp2_with fail
 go_loop [14] (fun i=>∃k:Nat,k≤4∧i=.int .i64 k∧Hid (∀n,n<k→0≤pick4 a m h d n∧pick4 a m h d n≤65535)) (fun i=>4 - (intOf i).toNat)
 case atStart=>exact⟨0,by omega,rfl,hD (fun n hn=>by omega)⟩
 case round =>
  obtain⟨k,hk,rfl,hn⟩:=hrel
  by_cases hlt:k<4
  ·have hix:=told_ix a m h d k hlt
   obtain⟨z,hz⟩:∃z,pick4 a m h d k=z:=⟨_,rfl⟩
   rw[hz]at hix
   have HZ:=hD hz
   clear hz
   by_cases hb:0≤z∧z≤65535
   ·go_wp2_with (go_at_call 33;refine(asb (cwithin_any _ _ _ _) (y:=true) (by simp;omega)).mono ?_;rintro e w' ⟨rfl,rfl⟩)
    go_round
    case rel =>
     refine⟨k+1,by omega,by go_num,hD (fun n hn'=>?_)⟩
     by_cases e:n=k
     ·subst e;rw[HZ.out];exact hb
     ·exact hn.out n (by omega)
    case measure=>simp[intOf];omega
   ·go_wp2_with (go_at_call 33;refine(asb (cwithin_any _ _ _ _) (y:=false) (by simp;omega)).mono ?_;rintro e w' ⟨rfl,rfl⟩)
    go_ret
    refine⟨false,rfl,(Ext.refl w).alloc _,⟨(fun h=>by cases h),(fun h=>?_)⟩⟩
    exfalso
    apply hb
    rw[←HZ.out]
    unfold TF at h
    match k,hlt with
    | 0,_=>exact⟨h.1,h.2.1⟩
    | 1,_=>exact⟨h.2.2.1,h.2.2.2.1⟩
    | 2,_=>exact⟨h.2.2.2.2.1,h.2.2.2.2.2.1⟩
    | 3,_=>exact⟨h.2.2.2.2.2.2.1,h.2.2.2.2.2.2.2⟩
  ·obtain rfl:k=4:=by omega
   go_wp2_with fail
   go_ret
   have h0:=hn.out 0 (by omega)
   have h1:=hn.out 1 (by omega)
   have h2:=hn.out 2 (by omega)
   have h3:=hn.out 3 (by omega)
   exact⟨true,rfl,(Ext.refl w).alloc _,⟨fun _=>⟨h0.1,h0.2,h1.1,h1.2,h2.1,h2.2,h3.1,h3.2⟩,fun _=>rfl⟩⟩
def ptrs9(g o:Nat):Array Value:=#[.pointer (some ⟨g,o,none⟩),.pointer (some ⟨g,o+1,none⟩),.pointer (some ⟨g,o+2,none⟩),.pointer (some ⟨g,o+3,none⟩),.pointer (some ⟨g,o+4,none⟩),.pointer (some ⟨g,o+5,none⟩),.pointer (some ⟨g,o+6,none⟩),.pointer (some ⟨g,o+7,none⟩),.pointer (some ⟨g,o+8,none⟩)]
theorem size_ptrs:(Tryz.prog.info? 87).map (·.size)=some 9:=by kernel_rfl
theorem ptrs_ix(g o k:Nat)(hk:k<9)(w:World):(Instr.index 87 (.agg (ptrs9 g o)) (.int .i64 (k:Int))).run Tryz.prog w=.ok (.pointer (some ⟨g,o+k,none⟩)) w:=by
 rcases(by omega:k=0∨k=1∨k=2∨k=3∨k=4∨k=5∨k=6∨k=7∨k=8)with rfl|rfl|rfl|rfl|rfl|rfl|rfl|rfl|rfl
 all_goals kernel_rfl
theorem all_any(g o:Nat)(w:World):Calls Tryz.prog 45 #[.pointer (some ⟨g,o,none⟩)] w fun e w'=>e=.returned (.agg (ptrs9 g o))∧Ext w w':=by
 have hi:=hD (show(Tryz.prog.info? 87).map (·.size)=some (ptrs9 g o).size from size_ptrs)
 go_enter Tryz.func45,Tryz.ntmps45
 go_wp2_with fail
 refine wp_region_tail 28 (by kernel_rfl) (by kernel_rfl) ?_
 intro u hu
 have hx:Ext w u:=by
  rw[hu]
  exact((Ext.refl w).alloc _).drew
 obtain ⟨old,hb2,hsz⟩:∃old:Array Value,u.heap[w.heap.size]?=some (.cells old 87 (0,0))∧old.size=9:=by
  rw[hu]
  exact⟨_,heap_alloc_new _ _,rfl⟩
 clear hu
 simp only[List.take_succ_cons,List.take_zero,List.drop_succ_cons,List.drop_zero]
 iterate 28 still_step
 refine wpStill_nil ?_
 have hgoal:∀u':World,u'.heap[w.heap.size]?=some (.cells (ptrs9 g o) 87 (0,0))→Ext w u'→True:=fun _ _ _=>trivial
 refine wpList_store_row rfl 87 _ _ rfl w.heap.size (ptrs9 g o) rfl rfl 87 old hb2 hi.out hsz (by rw[←Array.all_toList];rfl) ?_
 have hy:=setRow_heap _ _ _ (ptrs9 g o) _ _ hb2
 have hx2:=ext_setRow hx (Nat.le_refl _) (ptrs9 g o)
 clear hb2 hx hgoal
 go_wp2_with fail
 exact bodyPost_ret (results_cell_row rfl _ _ _ _ (ptrs9 g o) (0,0) _ rfl hy Tryz.underlying87 rfl hi.out) rfl ⟨rfl,hx2⟩
theorem list4{l:List Value}{n:Nat}{a b c d:Value}(h0:l[n]?=some a)(h1:l[n+1]?=some b)(h2:l[n+2]?=some c)(h3:l[n+3]?=some d):(l.drop n).take 4=[a,b,c,d]:=by
 apply List.ext_getElem?
 intro j
 rw[List.getElem?_take]
 by_cases hj:j<4
 ·rw[if_pos hj,List.getElem?_drop]
  rcases(by omega:j=0∨j=1∨j=2∨j=3)with rfl|rfl|rfl|rfl
  ·simpa using h0
  ·simpa using h1
  ·simpa using h2
  ·simpa using h3
 ·rw[if_neg hj,List.getElem?_eq_none (by simp;omega)]
theorem rangeAt_sub{w:World}{b o:Nat}{xs:List Value}(h:w.rangeAt b o xs)(n m:Nat):w.rangeAt b (o+n) ((xs.drop n).take m):=fun j v hv=>by
 rw[List.getElem?_take]at hv
 split at hv
 ·rw[List.getElem?_drop]at hv
  have:=h _ _ hv
  rwa [←Nat.add_assoc]at this
 ·cases hv
theorem size_times:(Tryz.prog.info? 24).map (·.size)=some 4:=by kernel_rfl
theorem rport_any(g o:Nat)(cl:Nat→Int)(t0 t1 t2 t3 d0 d1 d2 d3 m0 m1 m2 m3:Int)(w:World)(hg:g<w.heap.size)(hc:∀n,n<9→w.cell? ⟨g,o+6+n,none⟩=some (.int .i64 (cl n)))(r78:w.rangeAt g (o+78) [.int .i64 t0,.int .i64 t1,.int .i64 t2,.int .i64 t3])(r82:w.rangeAt g (o+82) [.int .i64 d0,.int .i64 d1,.int .i64 d2,.int .i64 d3])(r64:w.rangeAt g (o+64) [.int .i64 m0,.int .i64 m1,.int .i64 m2,.int .i64 m3]):
    Calls Tryz.prog 35 #[.pointer (some ⟨g,o,none⟩)] w (Tells w ((∀n,n<9→0≤cl n∧cl n≤1000)∧TF t0 t1 t2 t3∧TF d0 d1 d2 d3∧TF m0 m1 m2 m3)):=by
 have HC:=hD hc
 have R78:=hD r78
 have R82:=hD r82
 have R64:=hD r64
 clear hc r78 r82 r64
 go_enter Tryz.func35,Tryz.ntmps35
 go_wp2_with fail
 refine(all_any g (o+6) w).mono ?_
 rintro e w1 ⟨rfl,hx1⟩
 have HX1:=hD hx1
 clear hx1
 go_wp2_with fail
 go_loop [9] (fun i=>∃k:Nat,k≤9∧i=.int .i64 k∧Hid (∀n,n<k→0≤cl n∧cl n≤1000)) (fun i=>9 - (intOf i).toNat)
 case atStart=>exact⟨0,by omega,rfl,hD (fun n hn=>by omega)⟩
 case round =>
  obtain⟨k,hk,rfl,hn⟩:=hrel
  by_cases hlt:k<9
  ·have hix:=ptrs_ix g (o+6) k hlt
   have hcell:=(HX1.out.cell (p:=⟨g,o+6+k,none⟩) hg).trans (HC.out k hlt)
   obtain⟨z,hz⟩:∃z,cl k=z:=⟨_,rfl⟩
   rw[hz]at hcell
   have HZ:=hD hz
   clear hz
   by_cases hb:0≤z∧z≤1000
   ·go_wp2_with (go_at_call 33;refine(asb (cwithin_any _ _ _ _) (y:=true) (by simp;omega)).mono ?_;rintro e w' ⟨rfl,rfl⟩)
    go_round
    case rel =>
     refine⟨k+1,by omega,by go_num,hD (fun n hn'=>?_)⟩
     by_cases e:n=k
     ·subst e;rw[HZ.out];exact hb
     ·exact hn.out n (by omega)
    case measure=>simp[intOf];omega
   ·go_wp2_with (go_at_call 33;refine(asb (cwithin_any _ _ _ _) (y:=false) (by simp;omega)).mono ?_;rintro e w' ⟨rfl,rfl⟩)
    go_ret
    refine⟨false,rfl,HX1.out,⟨(fun h=>by cases h),(fun h=>?_)⟩⟩
    exfalso
    apply hb
    rw[←HZ.out]
    exact h.1 k hlt
  ·have hall:=hD (show ∀n,n<9→0≤cl n∧cl n≤1000 from fun n hn'=>hn.out n (by omega))
   clear hn
   go_wp2_with (first|fail|((with_reducible refine at_load 24 ?_);refine wpList_load_mid rfl 24 _ rfl g (o+78) rfl [.int .i64 t0,.int .i64 t1,.int .i64 t2,.int .i64 t3] _ (rangeAt_ext R78.out HX1.out hg) Tryz.underlying24 rfl size_times ?_))
   refine(told_any t0 t1 t2 t3 w1).mono ?_
   rintro e w2 ⟨f2,rfl,hx2,hf2⟩
   have HX2:=hD (HX1.out.trans hx2)
   have HF2:=hD hf2
   clear hx2 hf2 HX1
   cases f2
   ·go_wp2_with fail
    go_ret
    exact⟨false,rfl,HX2.out,⟨(fun h=>by cases h),(fun h=>absurd (HF2.out.2 h.2.1) (by simp))⟩⟩
   go_wp2_with (first|fail|((with_reducible refine at_loadG 24 ?_);refine wpList_load_midG rfl 24 _ rfl g (o+82) rfl [.int .i64 d0,.int .i64 d1,.int .i64 d2,.int .i64 d3] _ (rangeAt_ext R82.out HX2.out hg) Tryz.underlying24 rfl size_times ?_))
   refine(told_any d0 d1 d2 d3 w2).mono ?_
   rintro e w3 ⟨f3,rfl,hx3,hf3⟩
   have HX3:=hD (HX2.out.trans hx3)
   have HF3:=hD hf3
   clear hx3 hf3 HX2
   cases f3
   ·go_wp2_with fail
    go_ret
    exact⟨false,rfl,HX3.out,⟨(fun h=>by cases h),(fun h=>absurd (HF3.out.2 h.2.2.1) (by simp))⟩⟩
   go_wp2_with (first|fail|((with_reducible refine at_loadG 24 ?_);refine wpList_load_midG rfl 24 _ rfl g (o+64) rfl [.int .i64 m0,.int .i64 m1,.int .i64 m2,.int .i64 m3] _ (rangeAt_ext R64.out HX3.out hg) Tryz.underlying24 rfl size_times ?_))
   refine(told_any m0 m1 m2 m3 w3).mono ?_
   rintro e w4 ⟨f4,rfl,hx4,hf4⟩
   have HX4:=hD (HX3.out.trans hx4)
   have HF4:=hD hf4
   clear hx4 hf4 HX3
   go_wp2_with fail
   go_ret
   exact⟨f4,rfl,HX4.out,⟨fun h=>⟨hall.out,HF2.out.1 trivial,HF3.out.1 trivial,HF4.out.1 h⟩,fun h=>HF4.out.2 h.2.2.2⟩⟩
def syncB(s:Bool)(r q:Int)(y:Bool):Bool:=s && (r == q) && ((r == 3) || y)
theorem synced_any(g o:Nat)(s y:Bool)(r q:Int)(w:World)(h44:w.cell? ⟨g,o+44,none⟩=some (.bool s))(h87:w.cell? ⟨g,o+87,none⟩=some (.int .i64 r))(h88:w.cell? ⟨g,o+88,none⟩=some (.int .i64 q))(h47:w.cell? ⟨g,o+47,none⟩=some (.bool y)):
    Calls Tryz.prog 177 #[.pointer (some ⟨g,o,none⟩)] w fun e w'=>e=.returned (.bool (syncB s r q y))∧Ext w w':=by
 cases s
 ·go_enter Tryz.func177,Tryz.ntmps177
  go_wp2
  go_quiet (fail)
  go_wp2
  go_ret
  exact⟨rfl,(Ext.refl w).drewN _⟩
 ·by_cases hrq:r=q
  ·subst hrq
   cases h3:(r == 3)
   ·have h3':decide (r=3)=false:=by simpa using h3
    go_enter Tryz.func177,Tryz.ntmps177
    go_wp2
    go_quiet (fail)
    go_wp2
    go_ret
    exact⟨retB (by simp[syncB,h3]),(Ext.refl w).drewN _⟩
   ·obtain rfl:r=3:=by simpa using h3
    go_enter Tryz.func177,Tryz.ntmps177
    go_wp2
    go_quiet (fail)
    go_wp2
    go_ret
    exact⟨retB (by simp[syncB]),(Ext.refl w).drewN _⟩
  ·have hb:(r == q)=false:=by simpa using hrq
   go_enter Tryz.func177,Tryz.ntmps177
   go_wp2
   go_quiet (fail)
   go_wp2
   go_ret
   exact⟨retB (by simp[syncB,hb]),(Ext.refl w).drewN _⟩
theorem four_range{w:World}{b o:Nat}{p:List Value}(h:w.rangeAt b o p)(n:Nat){x0 x1 x2 x3:Value}(he:(p.drop n).take 4=[x0,x1,x2,x3]):w.rangeAt b (o+n) [x0,x1,x2,x3]:=he▸rangeAt_sub h n 4
theorem cright_any(c:Array Value)(B:Br)(w:World)(hb:BrC w c B)(ho:B.ok):Calls Tryz.prog 24 #[.agg c] w (Tells w (RightP B)):=by
 obtain⟨s1,s2,s3,hz,hhd,c17,c18,c19,r1,-,-⟩:=hb.facts ho.hd.1
 obtain⟨a1,k1,rfl,m1,hrow⟩:=r1.form
 have HR:=hD hrow
 have h2:=(hhd 2 (by decide)).trans (ho.hi 2 rfl)
 have h3:=(hhd 3 (by decide)).trans (ho.hi 3 rfl)
 have h4:=(hhd 4 (by decide)).trans (ho.hi 4 rfl)
 have h5:=(hhd 5 (by decide)).trans (ho.hi 5 rfl)
 have h6:=(hhd 6 (by decide)).trans (ho.hi 6 rfl)
 have h12:=(hhd 12 (by decide)).trans (ho.hi 12 rfl)
 have h13:=(hhd 13 (by decide)).trans (ho.hi 13 rfl)
 have h14:=(hhd 14 (by decide)).trans (ho.hi 14 rfl)
 have h15:=(hhd 15 (by decide)).trans (ho.hi 15 rfl)
 have h16:=(hhd 16 (by decide)).trans (ho.hi 16 rfl)
 clear hz hhd hb r1 hrow c18 c19
 go_enter Tryz.func24,Tryz.ntmps24
 by_cases hn:32<B.np
 ·go_wp2_with fail
  go_ret
  exact⟨false,rfl,(Ext.refl w).alloc _,⟨(fun h=>by cases h),(fun h=>by have:=h.1.2.2.2.2.2.1;omega)⟩⟩
 have hn':¬(32<B.np):=hn
 have hn2:B.np≤32:=by omega
 clear hn
 go_wp2_with fail
 refine(tmright_any _ _ _ _ _).mono ?_
 rintro e w1 ⟨rfl,hx1⟩
 have hbx1:=box_cell hx1
 have HX1:=hD hx1
 clear hx1
 obtain⟨f1,hf1⟩:∃f,rightB (B.hi 2) (B.hi 3) (B.hi 4) (B.hi 5)=f:=⟨_,rfl⟩
 rw[hf1]
 have HF1:=hD (show f1=true↔TR (B.hi 2) (B.hi 3) (B.hi 4) (B.hi 5)from by rw[←hf1];exact rightB_iff _ _ _ _)
 clear hf1
 have no:∀w':World,Ext (w.alloc (.cells c 35)) w'→¬RightP B→Tells w (RightP B) (.returned (.bool false)) w':=fun w' hx hne=>⟨false,rfl,((Ext.refl w).alloc _).trans hx,⟨(fun h=>by cases h),(fun h=>absurd h hne)⟩⟩
 have NO:=hD no
 clear no
 cases f1
 ·go_wp2_with fail
  go_ret
  exact NO.out _ HX1.out (fun h=>absurd (HF1.out.2 h.1.1) (by simp))
 by_cases h20:B.hi 2=0
 case neg =>
  have h20b:(B.hi 2 != 0)=true:=by simpa using h20
  go_wp2_with fail
  all_goals
   go_ret
   exact NO.out _ HX1.out (fun h=>h20 h.1.2.2.1)
 have hT:=HF1.out.1 (by simp)
 unfold TR at hT
 rw[h20]at h2
 have H20:=hD h20
 clear h20
 have HT:=hD hT
 clear hT
 by_cases h6b:1≤B.hi 6∧B.hi 6≤10
 case neg =>
  go_wp2_with (go_at_call 33;refine(asb (cwithin_any _ _ _ _) (y:=false) (by simp;omega)).mono ?_;rintro e w' ⟨rfl,rfl⟩)
  all_goals
   go_ret
   exact NO.out _ HX1.out (fun h=>h6b ⟨h.1.2.2.2.1,h.1.2.2.2.2.1⟩)
 by_cases h12b:-1≤B.hi 12∧B.hi 12≤(B.np:Int) - 1
 case neg =>
  go_wp2_with fail
  refine(asb (cwithin_any _ _ _ _) (y:=true) (by simp;omega)).mono ?_
  rintro e w' ⟨rfl,rfl⟩
  go_wp2_with fail
  refine(asb (cwithin_any _ _ _ _) (y:=false) (by simp;omega)).mono ?_
  rintro e w' ⟨rfl,rfl⟩
  go_wp2_with fail
  all_goals
   go_ret
   exact NO.out _ HX1.out (fun h=>h12b ⟨h.1.2.2.2.2.2.2.1,by have:=h.1.2.2.2.2.2.2.2;omega⟩)
 go_wp2_with fail
 refine(asb (cwithin_any _ _ _ _) (y:=true) (by simp;omega)).mono ?_
 rintro e w' ⟨rfl,rfl⟩
 go_wp2_with fail
 refine(asb (cwithin_any _ _ _ _) (y:=true) (by simp;omega)).mono ?_
 rintro e w' ⟨rfl,rfl⟩
 go_wp2_with fail
 refine(told_any _ _ _ _ _).mono ?_
 rintro e w2 ⟨f2,rfl,hx2,hf2⟩
 have HX2:=hD (HX1.out.trans hx2)
 have HF2:=hD hf2
 have hbx2:=box_cell HX2.out
 clear hx2 hf2 HX1 hbx1
 cases f2
 ·go_wp2_with fail
  go_ret
  exact NO.out _ HX2.out (fun h=>absurd (HF2.out.2 h.1.2.1) (by simp))
 have HH:=hD (show HdR B from⟨HF1.out.1 (by simp),HF2.out.1 (by simp),H20.out,h6b.1,h6b.2,hn2,h12b.1,by omega⟩)
 clear HF1 HF2 h2 h3 h4 h5 h6 h12 h13 h14 h15 h16 HT H20 h6b h12b
 go_wp2_with fail
 go_loopw [43] (fun i wr=>∃j:Nat,j≤B.np∧i=.int .i64 j∧Ext (w.alloc (.cells c 35)) wr∧Hid (∀k,k<j→PortR B k)) (fun i _=>B.np - (intOf i).toNat)
 case atStart=>exact⟨0,by omega,rfl,HX2.out,hD (fun k hk=>by omega)⟩
 case round =>
  clear HX2 hbx2
  obtain⟨j,hj,rfl,hxr,hall⟩:=hrel
  have hbx:=box_cell hxr
  by_cases hlt:j<B.np
  ·obtain ⟨b,off,rfl,hb,hlc,hcm,hc⟩:=HR.out (by omega)
   have hrw:=rangeAt_ext (rangeAt_ext hc ((Ext.refl w).alloc (.cells c 35)) hb) hxr (by simp;omega)
   have hpr:=port_range hrw j
   have hcl:=hD (show ∀n,n<9→wr.cell? ⟨b,off+j*89+6+n,none⟩=some (.int .i64 (B.gi j (6+n)))from fun n hn'=>by
    rw[show off+j*89+6+n=off+j*89+(6+n) by omega]
    refine hpr (6+n) _ ((port_at (B:=B) (k:=j) (j:=6+n) (by omega)).trans (ho.gi hlt (6+n) ?_))
    rcases(by omega:n=0∨n=1∨n=2∨n=3∨n=4∨n=5∨n=6∨n=7∨n=8)with rfl|rfl|rfl|rfl|rfl|rfl|rfl|rfl|rfl<;>rfl)
   have r78:=hD (four_range hpr 78 (list4 ((port_at (B:=B) (k:=j) (j:=78) (by decide)).trans (ho.gi hlt 78 rfl)) ((port_at (B:=B) (k:=j) (j:=79) (by decide)).trans (ho.gi hlt 79 rfl)) ((port_at (B:=B) (k:=j) (j:=80) (by decide)).trans (ho.gi hlt 80 rfl)) ((port_at (B:=B) (k:=j) (j:=81) (by decide)).trans (ho.gi hlt 81 rfl))))
   have r82:=hD (four_range hpr 82 (list4 ((port_at (B:=B) (k:=j) (j:=82) (by decide)).trans (ho.gi hlt 82 rfl)) ((port_at (B:=B) (k:=j) (j:=83) (by decide)).trans (ho.gi hlt 83 rfl)) ((port_at (B:=B) (k:=j) (j:=84) (by decide)).trans (ho.gi hlt 84 rfl)) ((port_at (B:=B) (k:=j) (j:=85) (by decide)).trans (ho.gi hlt 85 rfl))))
   have r64:=hD (four_range hpr 64 (list4 ((port_at (B:=B) (k:=j) (j:=64) (by decide)).trans (ho.gi hlt 64 rfl)) ((port_at (B:=B) (k:=j) (j:=65) (by decide)).trans (ho.gi hlt 65 rfl)) ((port_at (B:=B) (k:=j) (j:=66) (by decide)).trans (ho.gi hlt 66 rfl)) ((port_at (B:=B) (k:=j) (j:=67) (by decide)).trans (ho.gi hlt 67 rfl))))
   have HXR:=hD hxr
   have hbr:=hD (show b<wr.heap.size from nL (by simp;omega) hxr.size)
   clear hrw hpr hxr hc
   go_wp2_with fail
   refine(rport_any b (off+j*89) (fun n=>B.gi j (6+n)) _ _ _ _ _ _ _ _ _ _ _ _ wr hbr.out hcl.out r78.out r82.out r64.out).mono ?_
   rintro e w3 ⟨f3,rfl,hx3,hf3⟩
   have HX3:=hD (HXR.out.trans hx3)
   have HF3:=hD hf3
   clear hx3 hf3
   cases f3
   ·go_wp2_with fail
    go_ret
    exact NO.out _ HX3.out (fun h=>absurd (HF3.out.2 ⟨(h.2 j hlt).1,(h.2 j hlt).2.1,(h.2 j hlt).2.2.1,(h.2 j hlt).2.2.2⟩) (by simp))
   ·go_wp2_with fail
    go_roundw
    case rel =>
     refine⟨j+1,by omega,by go_num,HX3.out,hD (fun n hn'=>?_)⟩
     by_cases e:n=j
     ·subst e
      exact HF3.out.1 trivial
     ·exact hall.out n (by omega)
    case measure=>simp[intOf];omega
  ·go_wp2_with fail
   go_ret
   exact⟨true,rfl,((Ext.refl w).alloc _).trans hxr,⟨fun _=>⟨HH.out,fun k hk=>hall.out k (by omega)⟩,fun _=>rfl⟩⟩
def syncP(B:Br)(k:Nat):Bool:=syncB (B.gb k 44) (B.gi k 87) (B.gi k 88) (B.gb k 47)
def AllSyn(B:Br):Prop:=∀k,k<B.np→syncP B k=true
def ReR(B:Br)(i:Int):Prop:=∀k:Nat,k<B.np→(k:Int)≠i→B.gi k 12=0
theorem allsynced_any(c:Array Value)(B:Br)(w:World)(hb:BrC w c B)(ho:B.ok):Calls Tryz.prog 150 #[.agg c] w (Tells w (AllSyn B)):=by
 obtain⟨s1,s2,s3,hz,hhd,c17,c18,c19,r1,-,-⟩:=hb.facts ho.hd.1
 obtain⟨a1,k1,rfl,m1,hrow⟩:=r1.form
 have HR:=hD hrow
 clear hz hhd hb r1 hrow c18 c19
 go_enter Tryz.func150,Tryz.ntmps150
 go_wp2_with fail
 go_loopw [7] (fun i wr=>∃j:Nat,j≤B.np∧i=.int .i64 j∧Ext (w.alloc (.cells c 35)) wr∧Hid (∀k,k<j→syncP B k=true)) (fun i _=>B.np - (intOf i).toNat)
 case atStart=>exact⟨0,by omega,rfl,Ext.refl _,hD (fun k hk=>by omega)⟩
 case round =>
  obtain⟨j,hj,rfl,hxr,hall⟩:=hrel
  have hbx:=box_cell hxr
  by_cases hlt:j<B.np
  ·obtain ⟨b,off,rfl,hb,hlc,hcm,hc⟩:=HR.out (by omega)
   have hrw:=rangeAt_ext (rangeAt_ext hc ((Ext.refl w).alloc (.cells c 35)) hb) hxr (by simp;omega)
   have p44:=(port_range hrw j 44 _ ((port_at (B:=B) (k:=j) (j:=44) (by decide)).trans (ho.gb hlt 44 rfl)))
   have p87:=(port_range hrw j 87 _ ((port_at (B:=B) (k:=j) (j:=87) (by decide)).trans (ho.gi hlt 87 rfl)))
   have p88:=(port_range hrw j 88 _ ((port_at (B:=B) (k:=j) (j:=88) (by decide)).trans (ho.gi hlt 88 rfl)))
   have p47:=(port_range hrw j 47 _ ((port_at (B:=B) (k:=j) (j:=47) (by decide)).trans (ho.gb hlt 47 rfl)))
   have HS:=hD (synced_any b (off+j*89) _ _ _ _ wr p44 p87 p88 p47)
   have HXR:=hD hxr
   clear hrw hxr hc p44 p87 p88 p47
   go_wp2_with fail
   refine HS.out.mono ?_
   rintro e w3 ⟨rfl,hx3⟩
   have HX3:=hD (HXR.out.trans hx3)
   clear hx3 HS HXR
   obtain⟨f,hf⟩:∃f,syncB (B.gb j 44) (B.gi j 87) (B.gi j 88) (B.gb j 47)=f:=⟨_,rfl⟩
   rw[hf]
   have HF:=hD hf
   clear hf
   cases f
   ·go_wp2_with fail
    go_ret
    exact⟨false,rfl,((Ext.refl w).alloc _).trans HX3.out,⟨(fun h=>by cases h),(fun h=>absurd ((h j hlt).symm.trans HF.out) (by simp))⟩⟩
   ·go_wp2_with fail
    go_roundw
    case rel =>
     refine⟨j+1,by omega,by go_num,HX3.out,hD (fun n hn'=>?_)⟩
     by_cases e:n=j
     ·subst e
      exact HF.out
     ·exact hall.out n (by omega)
    case measure=>simp[intOf];omega
  ·go_wp2_with fail
   go_ret
   exact⟨true,rfl,((Ext.refl w).alloc _).trans hxr,⟨fun _=>fun k hk=>hall.out k (by omega),fun _=>rfl⟩⟩
theorem rerooted_any(c:Array Value)(B:Br)(i:Int)(w:World)(hb:BrC w c B)(ho:B.ok):Calls Tryz.prog 178 #[.agg c,.int .i64 i] w (Tells w (ReR B i)):=by
 obtain⟨s1,s2,s3,hz,hhd,c17,c18,c19,r1,-,-⟩:=hb.facts ho.hd.1
 obtain⟨a1,k1,rfl,m1,hrow⟩:=r1.form
 have HR:=hD hrow
 clear hz hhd hb r1 hrow c18 c19
 go_enter Tryz.func178,Tryz.ntmps178
 go_wp2_with fail
 go_loopw [9] (fun v wr=>∃j:Nat,j≤B.np∧v=.int .i64 j∧Ext (w.alloc (.cells c 35)) wr∧Hid (∀k:Nat,k<j→(k:Int)≠i→B.gi k 12=0)) (fun v _=>B.np - (intOf v).toNat)
 case atStart=>exact⟨0,by omega,rfl,Ext.refl _,hD (fun k hk=>by omega)⟩
 case round =>
  obtain⟨j,hj,rfl,hxr,hall⟩:=hrel
  have hbx:=box_cell hxr
  by_cases hlt:j<B.np
  ·obtain ⟨b,off,rfl,hb,hlc,hcm,hc⟩:=HR.out (by omega)
   have hrw:=rangeAt_ext (rangeAt_ext hc ((Ext.refl w).alloc (.cells c 35)) hb) hxr (by simp;omega)
   have p12:=(port_range hrw j 12 _ ((port_at (B:=B) (k:=j) (j:=12) (by decide)).trans (ho.gi hlt 12 rfl)))
   have HXR:=hD hxr
   clear hrw hxr hc
   have step:Hid ((j:Int)≠i→B.gi j 12=0)→Hid (∀k:Nat,k<j+1→(k:Int)≠i→B.gi k 12=0):=fun h=>hD (fun k hk hne=>by
    by_cases e:k=j
    ·subst e;exact h.out hne
    ·exact hall.out k (by omega) hne)
   have STEP:=hD step
   clear step
   by_cases hji:(j:Int)=i
   ·have hb1:((j:Int) != i)=false:=by simpa using hji
    have HJ:=hD hji
    clear hji
    go_wp2_with fail
    go_roundw
    case rel=>exact⟨j+1,by omega,by go_num,HXR.out,STEP.out (hD (fun h=>absurd HJ.out h))⟩
    case measure=>simp[intOf];omega
   ·have hb1:((j:Int) != i)=true:=by simpa using hji
    have HJ:=hD hji
    clear hji
    by_cases h12:B.gi j 12=0
    ·rw[h12]at p12
     have H12:=hD h12
     clear h12
     go_wp2_with fail
     go_roundw
     case rel=>exact⟨j+1,by omega,by go_num,HXR.out,STEP.out (hD (fun h=>H12.out))⟩
     case measure=>simp[intOf];omega
    ·have hb2:(B.gi j 12 != 0)=true:=by simpa using h12
     have H12:=hD h12
     clear h12
     go_wp2_with fail
     go_ret
     exact⟨false,rfl,((Ext.refl w).alloc _).trans HXR.out,⟨(fun h=>by cases h),(fun h=>absurd (h j hlt HJ.out) H12.out)⟩⟩
  ·go_wp2_with fail
   go_ret
   exact⟨true,rfl,((Ext.refl w).alloc _).trans hxr,⟨fun _=>fun k hk hne=>hall.out k (by omega) hne,fun _=>rfl⟩⟩
theorem cfwd_t(c:Array Value)(B:Br)(k:Nat)(w:World)(hb:BrC w c B)(ho:B.ok)(hk:k<B.np)(hf:B.gb k 45=true):Calls Tryz.prog 176 #[.agg c,.int .i64 k] w fun e w'=>e=.returned (.int .i64 (B.hi 4))∧Ext w w':=by
 obtain⟨s1,s2,s3,hz,hhd,c17,c18,c19,r1,-,-⟩:=hb.facts ho.hd.1
 obtain⟨a1,k1,rfl,m1,hrow⟩:=r1.form
 have HR:=hD hrow
 have h3:=(hhd 3 (by decide)).trans (ho.hi 3 rfl)
 have h4:=(hhd 4 (by decide)).trans (ho.hi 4 rfl)
 have h5:=(hhd 5 (by decide)).trans (ho.hi 5 rfl)
 clear hz hhd hb r1 hrow c18 c19
 obtain⟨b,off,rfl,hb,hlc,hcm,hc⟩:=HR.out (by omega)
 have p:=port_range hc k 45 _ ((port_at (B:=B) (k:=k) (j:=45) (by decide)).trans (ho.gb hk 45 rfl))
 rw[hf]at p
 clear hc HR hf
 go_enter Tryz.func176,Tryz.ntmps176
 go_wp2_with fail
 go_ret
 exact⟨rfl,(Ext.refl w).alloc _⟩
theorem cfwd_f(c:Array Value)(B:Br)(k:Nat)(w:World)(hb:BrC w c B)(ho:B.ok)(hk:k<B.np)(hf:B.gb k 45=false):Calls Tryz.prog 176 #[.agg c,.int .i64 k] w fun e w'=>e=.returned (.int .i64 (B.hi 5))∧Ext w w':=by
 obtain⟨s1,s2,s3,hz,hhd,c17,c18,c19,r1,-,-⟩:=hb.facts ho.hd.1
 obtain⟨a1,k1,rfl,m1,hrow⟩:=r1.form
 have HR:=hD hrow
 have h3:=(hhd 3 (by decide)).trans (ho.hi 3 rfl)
 have h4:=(hhd 4 (by decide)).trans (ho.hi 4 rfl)
 have h5:=(hhd 5 (by decide)).trans (ho.hi 5 rfl)
 clear hz hhd hb r1 hrow c18 c19
 obtain⟨b,off,rfl,hb,hlc,hcm,hc⟩:=HR.out (by omega)
 have p:=port_range hc k 45 _ ((port_at (B:=B) (k:=k) (j:=45) (by decide)).trans (ho.gb hk 45 rfl))
 rw[hf]at p
 clear hc HR hf
 go_enter Tryz.func176,Tryz.ntmps176
 go_wp2_with fail
 go_ret
 exact⟨rfl,(Ext.refl w).alloc _⟩
theorem cfwd_any(c:Array Value)(B:Br)(k:Nat)(w:World)(hb:BrC w c B)(ho:B.ok)(hk:k<B.np):Calls Tryz.prog 176 #[.agg c,.int .i64 k] w fun e w'=>e=.returned (.int .i64 (if B.gb k 45=true then(B.hi 4)else(B.hi 5)))∧Ext w w':=by
 cases hf:B.gb k 45
 ·exact asi (cfwd_f c B k w hb ho hk hf) (by simp)
 ·exact asi (cfwd_t c B k w hb ho hk hf) (by simp)
theorem cedel_t(c:Array Value)(B:Br)(k:Nat)(w:World)(hb:BrC w c B)(ho:B.ok)(hk:k<B.np)(hf:B.gb k 3=true):Calls Tryz.prog 152 #[.agg c,.int .i64 k] w fun e w'=>e=.returned (.int .i64 (B.hi 3))∧Ext w w':=by
 obtain⟨s1,s2,s3,hz,hhd,c17,c18,c19,r1,-,-⟩:=hb.facts ho.hd.1
 obtain⟨a1,k1,rfl,m1,hrow⟩:=r1.form
 have HR:=hD hrow
 have h3:=(hhd 3 (by decide)).trans (ho.hi 3 rfl)
 have h4:=(hhd 4 (by decide)).trans (ho.hi 4 rfl)
 have h5:=(hhd 5 (by decide)).trans (ho.hi 5 rfl)
 clear hz hhd hb r1 hrow c18 c19
 obtain⟨b,off,rfl,hb,hlc,hcm,hc⟩:=HR.out (by omega)
 have p:=port_range hc k 3 _ ((port_at (B:=B) (k:=k) (j:=3) (by decide)).trans (ho.gb hk 3 rfl))
 rw[hf]at p
 clear hc HR hf
 go_enter Tryz.func152,Tryz.ntmps152
 go_wp2_with fail
 go_ret
 exact⟨rfl,(Ext.refl w).alloc _⟩
theorem cedel_f(c:Array Value)(B:Br)(k:Nat)(w:World)(hb:BrC w c B)(ho:B.ok)(hk:k<B.np)(hf:B.gb k 3=false):Calls Tryz.prog 152 #[.agg c,.int .i64 k] w fun e w'=>e=.returned (.int .i64 3)∧Ext w w':=by
 obtain⟨s1,s2,s3,hz,hhd,c17,c18,c19,r1,-,-⟩:=hb.facts ho.hd.1
 obtain⟨a1,k1,rfl,m1,hrow⟩:=r1.form
 have HR:=hD hrow
 have h3:=(hhd 3 (by decide)).trans (ho.hi 3 rfl)
 have h4:=(hhd 4 (by decide)).trans (ho.hi 4 rfl)
 have h5:=(hhd 5 (by decide)).trans (ho.hi 5 rfl)
 clear hz hhd hb r1 hrow c18 c19
 obtain⟨b,off,rfl,hb,hlc,hcm,hc⟩:=HR.out (by omega)
 have p:=port_range hc k 3 _ ((port_at (B:=B) (k:=k) (j:=3) (by decide)).trans (ho.gb hk 3 rfl))
 rw[hf]at p
 clear hc HR hf
 go_enter Tryz.func152,Tryz.ntmps152
 go_wp2_with fail
 go_ret
 exact⟨rfl,(Ext.refl w).alloc _⟩
theorem cedel_any(c:Array Value)(B:Br)(k:Nat)(w:World)(hb:BrC w c B)(ho:B.ok)(hk:k<B.np):Calls Tryz.prog 152 #[.agg c,.int .i64 k] w fun e w'=>e=.returned (.int .i64 (if B.gb k 3=true then(B.hi 3)else 3))∧Ext w w':=by
 cases hf:B.gb k 3
 ·exact asi (cedel_f c B k w hb ho hk hf) (by simp)
 ·exact asi (cedel_t c B k w hb ho hk hf) (by simp)
def trTab:Array Value:=#[.int .i64 (-1),.func (.func 82) #[] #[],.func (.func 83) #[] #[],.int .i64 0,.int .i64 (-1),.func (.func 84) #[] #[],.func (.func 85) #[] #[],.int .i64 2,.int .i64 (-1),.func (.func 86) #[] #[],.func (.func 87) #[] #[],.int .i64 3,.int .i64 (-1),.func (.func 88) #[] #[],.func (.func 83) #[] #[],.int .i64 4,.int .i64 0,.func (.func 89) #[] #[],.func (.func 90) #[] #[],.int .i64 1,.int .i64 1,.func (.func 91) #[] #[],.func (.func 90) #[] #[],.int .i64 1,.int .i64 4,.func (.func 89) #[] #[],.func (.func 92) #[] #[],.int .i64 5,.int .i64 5,.func (.func 93) #[] #[],.func (.func 94) #[] #[],.int .i64 (-2),.int .i64 5,.func (.func 95) #[] #[],.func (.func 96) #[] #[],.int .i64 (-2),.int .i64 5,.func (.func 97) #[] #[],.func (.func 98) #[] #[],.int .i64 (-2),.int .i64 5,.func (.func 99) #[] #[],.func (.func 92) #[] #[],.int .i64 5,.int .i64 2,.func (.func 93) #[] #[],.func (.func 94) #[] #[],.int .i64 (-2),.int .i64 2,.func (.func 95) #[] #[],.func (.func 100) #[] #[],.int .i64 (-2),.int .i64 2,.func (.func 101) #[] #[],.func (.func 102) #[] #[],.int .i64 (-2),.int .i64 2,.func (.func 103) #[] #[],.func (.func 104) #[] #[],.int .i64 (-2),.int .i64 2,.func (.func 105) #[] #[],.func (.func 106) #[] #[],.int .i64 (-2),.int .i64 2,.func (.func 107) #[] #[],.func (.func 108) #[] #[],.int .i64 (-2),.int .i64 2,.func (.func 109) #[] #[],.func (.func 110) #[] #[],.int .i64 (-2),.int .i64 3,.func (.func 111) #[] #[],.func (.func 112) #[] #[],.int .i64 (-2),.int .i64 3,.func (.func 113) #[] #[],.func (.func 114) #[] #[],.int .i64 (-2),.int .i64 3,.func (.func 115) #[] #[],.func (.func 108) #[] #[],.int .i64 (-2),.int .i64 3,.func (.func 116) #[] #[],.func (.func 117) #[] #[],.int .i64 (-2),.int .i64 3,.func (.func 118) #[] #[],.func (.func 104) #[] #[],.int .i64 (-2),.int .i64 3,.func (.func 119) #[] #[],.func (.func 120) #[] #[],.int .i64 (-2)]
theorem size_tr:(Tryz.prog.info? 117).map (·.size)=some trTab.size:=by kernel_rfl
theorem tr_built:Tryz.prog.built 117 [(0,.agg #[.int .i64 (-1),.func (.func 82) #[] #[],.func (.func 83) #[] #[],.int .i64 0]),(1,.agg #[.int .i64 (-1),.func (.func 84) #[] #[],.func (.func 85) #[] #[],.int .i64 2]),(2,.agg #[.int .i64 (-1),.func (.func 86) #[] #[],.func (.func 87) #[] #[],.int .i64 3]),(3,.agg #[.int .i64 (-1),.func (.func 88) #[] #[],.func (.func 83) #[] #[],.int .i64 4]),(4,.agg #[.int .i64 0,.func (.func 89) #[] #[],.func (.func 90) #[] #[],.int .i64 1]),(5,.agg #[.int .i64 1,.func (.func 91) #[] #[],.func (.func 90) #[] #[],.int .i64 1]),(6,.agg #[.int .i64 4,.func (.func 89) #[] #[],.func (.func 92) #[] #[],.int .i64 5]),(7,.agg #[.int .i64 5,.func (.func 93) #[] #[],.func (.func 94) #[] #[],.int .i64 (-2)]),(8,.agg #[.int .i64 5,.func (.func 95) #[] #[],.func (.func 96) #[] #[],.int .i64 (-2)]),(9,.agg #[.int .i64 5,.func (.func 97) #[] #[],.func (.func 98) #[] #[],.int .i64 (-2)]),(10,.agg #[.int .i64 5,.func (.func 99) #[] #[],.func (.func 92) #[] #[],.int .i64 5]),(11,.agg #[.int .i64 2,.func (.func 93) #[] #[],.func (.func 94) #[] #[],.int .i64 (-2)]),(12,.agg #[.int .i64 2,.func (.func 95) #[] #[],.func (.func 100) #[] #[],.int .i64 (-2)]),(13,.agg #[.int .i64 2,.func (.func 101) #[] #[],.func (.func 102) #[] #[],.int .i64 (-2)]),(14,.agg #[.int .i64 2,.func (.func 103) #[] #[],.func (.func 104) #[] #[],.int .i64 (-2)]),(15,.agg #[.int .i64 2,.func (.func 105) #[] #[],.func (.func 106) #[] #[],.int .i64 (-2)]),(16,.agg #[.int .i64 2,.func (.func 107) #[] #[],.func (.func 108) #[] #[],.int .i64 (-2)]),(17,.agg #[.int .i64 2,.func (.func 109) #[] #[],.func (.func 110) #[] #[],.int .i64 (-2)]),(18,.agg #[.int .i64 3,.func (.func 111) #[] #[],.func (.func 112) #[] #[],.int .i64 (-2)]),(19,.agg #[.int .i64 3,.func (.func 113) #[] #[],.func (.func 114) #[] #[],.int .i64 (-2)]),(20,.agg #[.int .i64 3,.func (.func 115) #[] #[],.func (.func 108) #[] #[],.int .i64 (-2)]),(21,.agg #[.int .i64 3,.func (.func 116) #[] #[],.func (.func 117) #[] #[],.int .i64 (-2)]),(22,.agg #[.int .i64 3,.func (.func 118) #[] #[],.func (.func 104) #[] #[],.int .i64 (-2)]),(23,.agg #[.int .i64 3,.func (.func 119) #[] #[],.func (.func 120) #[] #[],.int .i64 (-2)])]=some trTab:=by kernel_rfl
theorem tr_rows(w:World):Calls Tryz.prog 55 #[] w fun e w'=>e=.returned (.agg trTab)∧Ext w w':=by
 have hi:=hD size_tr
 go_enter Tryz.func55,Tryz.ntmps55
 go_wp2_with (first|fail|((with_reducible refine at_build 117 ?_);refine wpList_build2 rfl 117 _ rfl [(0,.agg #[.int .i64 (-1),.func (.func 82) #[] #[],.func (.func 83) #[] #[],.int .i64 0]),(1,.agg #[.int .i64 (-1),.func (.func 84) #[] #[],.func (.func 85) #[] #[],.int .i64 2]),(2,.agg #[.int .i64 (-1),.func (.func 86) #[] #[],.func (.func 87) #[] #[],.int .i64 3]),(3,.agg #[.int .i64 (-1),.func (.func 88) #[] #[],.func (.func 83) #[] #[],.int .i64 4]),(4,.agg #[.int .i64 0,.func (.func 89) #[] #[],.func (.func 90) #[] #[],.int .i64 1]),(5,.agg #[.int .i64 1,.func (.func 91) #[] #[],.func (.func 90) #[] #[],.int .i64 1]),(6,.agg #[.int .i64 4,.func (.func 89) #[] #[],.func (.func 92) #[] #[],.int .i64 5]),(7,.agg #[.int .i64 5,.func (.func 93) #[] #[],.func (.func 94) #[] #[],.int .i64 (-2)]),(8,.agg #[.int .i64 5,.func (.func 95) #[] #[],.func (.func 96) #[] #[],.int .i64 (-2)]),(9,.agg #[.int .i64 5,.func (.func 97) #[] #[],.func (.func 98) #[] #[],.int .i64 (-2)]),(10,.agg #[.int .i64 5,.func (.func 99) #[] #[],.func (.func 92) #[] #[],.int .i64 5]),(11,.agg #[.int .i64 2,.func (.func 93) #[] #[],.func (.func 94) #[] #[],.int .i64 (-2)]),(12,.agg #[.int .i64 2,.func (.func 95) #[] #[],.func (.func 100) #[] #[],.int .i64 (-2)]),(13,.agg #[.int .i64 2,.func (.func 101) #[] #[],.func (.func 102) #[] #[],.int .i64 (-2)]),(14,.agg #[.int .i64 2,.func (.func 103) #[] #[],.func (.func 104) #[] #[],.int .i64 (-2)]),(15,.agg #[.int .i64 2,.func (.func 105) #[] #[],.func (.func 106) #[] #[],.int .i64 (-2)]),(16,.agg #[.int .i64 2,.func (.func 107) #[] #[],.func (.func 108) #[] #[],.int .i64 (-2)]),(17,.agg #[.int .i64 2,.func (.func 109) #[] #[],.func (.func 110) #[] #[],.int .i64 (-2)]),(18,.agg #[.int .i64 3,.func (.func 111) #[] #[],.func (.func 112) #[] #[],.int .i64 (-2)]),(19,.agg #[.int .i64 3,.func (.func 113) #[] #[],.func (.func 114) #[] #[],.int .i64 (-2)]),(20,.agg #[.int .i64 3,.func (.func 115) #[] #[],.func (.func 108) #[] #[],.int .i64 (-2)]),(21,.agg #[.int .i64 3,.func (.func 116) #[] #[],.func (.func 117) #[] #[],.int .i64 (-2)]),(22,.agg #[.int .i64 3,.func (.func 118) #[] #[],.func (.func 104) #[] #[],.int .i64 (-2)]),(23,.agg #[.int .i64 3,.func (.func 119) #[] #[],.func (.func 120) #[] #[],.int .i64 (-2)])] rfl _ tr_built ?_)|((with_reducible refine at_store 117 ?_);refine wpList_store_new2 rfl rfl 117 _ _ _ rfl _ trTab _ rfl ?_ rfl hi.out rfl rfl ?_;· rfl))
 exact bodyPost_ret (results_cell_row rfl _ _ _ _ trTab (0,0) _ rfl (heap_alloc_new _ _) Tryz.underlying117 rfl hi.out) rfl ⟨rfl,(Ext.refl w).alloc _⟩
def trS:Nat→Int
 | 0=>(-1)
 | 1=>(-1)
 | 2=>(-1)
 | 3=>(-1)
 | 4=>0
 | 5=>1
 | 6=>4
 | 7=>5
 | 8=>5
 | 9=>5
 | 10=>5
 | 11=>2
 | 12=>2
 | 13=>2
 | 14=>2
 | 15=>2
 | 16=>2
 | 17=>2
 | 18=>3
 | 19=>3
 | 20=>3
 | 21=>3
 | 22=>3
 | _=>3
def trH:Nat→FuncId
 | 0=>82
 | 1=>84
 | 2=>86
 | 3=>88
 | 4=>89
 | 5=>91
 | 6=>89
 | 7=>93
 | 8=>95
 | 9=>97
 | 10=>99
 | 11=>93
 | 12=>95
 | 13=>101
 | 14=>103
 | 15=>105
 | 16=>107
 | 17=>109
 | 18=>111
 | 19=>113
 | 20=>115
 | 21=>116
 | 22=>118
 | _=>119
def trD:Nat→FuncId
 | 0=>83
 | 1=>85
 | 2=>87
 | 3=>83
 | 4=>90
 | 5=>90
 | 6=>92
 | 7=>94
 | 8=>96
 | 9=>98
 | 10=>92
 | 11=>94
 | 12=>100
 | 13=>102
 | 14=>104
 | 15=>106
 | 16=>108
 | 17=>110
 | 18=>112
 | 19=>114
 | 20=>108
 | 21=>117
 | 22=>104
 | _=>120
def trN:Nat→Int
 | 0=>0
 | 1=>2
 | 2=>3
 | 3=>4
 | 4=>1
 | 5=>1
 | 6=>5
 | 7=>(-2)
 | 8=>(-2)
 | 9=>(-2)
 | 10=>5
 | 11=>(-2)
 | 12=>(-2)
 | 13=>(-2)
 | 14=>(-2)
 | 15=>(-2)
 | 16=>(-2)
 | 17=>(-2)
 | 18=>(-2)
 | 19=>(-2)
 | 20=>(-2)
 | 21=>(-2)
 | 22=>(-2)
 | _=>(-2)
theorem tr_cells(j:Nat)(hj:j<24):trTab[j*4]?=some (.int .i64 (trS j))∧trTab[j*4+1]?=some (.func (.func (trH j)) #[] #[])∧trTab[j*4+2]?=some (.func (.func (trD j)) #[] #[])∧trTab[j*4+3]?=some (.int .i64 (trN j)):=by
 rcases(by omega:j=0∨j=1∨j=2∨j=3∨j=4∨j=5∨j=6∨j=7∨j=8∨j=9∨j=10∨j=11∨j=12∨j=13∨j=14∨j=15∨j=16∨j=17∨j=18∨j=19∨j=20∨j=21∨j=22∨j=23)with rfl|rfl|rfl|rfl|rfl|rfl|rfl|rfl|rfl|rfl|rfl|rfl|rfl|rfl|rfl|rfl|rfl|rfl|rfl|rfl|rfl|rfl|rfl|rfl<;>exact⟨rfl,rfl,rfl,rfl⟩
end Go.Proofs.YtpanapepcbbagaaGreat
