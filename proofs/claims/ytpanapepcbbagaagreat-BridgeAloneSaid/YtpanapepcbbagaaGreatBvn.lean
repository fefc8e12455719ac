/- Part 14 of what BridgeRests stands on. No statement is proved here. -/
import Derived.Maps.Own
import Derived.Maps.Views
import Derived.Deep.QuietTactic
import Derived.Test.YtpanapepcbbagaaGreatBvk
import Derived.Test.YtpanapepcbbagaaGreatBvm
set_option linter.unusedVariables false
set_option linter.unusedSimpArgs false
set_option maxRecDepth 100000
set_option maxHeartbeats 8000000
namespace Go.Proofs.YtpanapepcbbagaaGreat
open Go.RowKit Go.BigFrame Go.WideShapes Go.ChangeShapes Go.Deep
def o9(kd ro c:Int)(tl te:Bool):Nat :=
 if lO kd ro=true then(if((c == 0) && te)=true then 1 else if(decide (c<0) || tl)=true then 0 else 2)else if(aDA kd ro && !(decide (c<0)))=true then 3 else 4
theorem wW(kd ro c:Int)(tl te:Bool):iY kd ro c tl te=((o9 kd ro c tl te:Nat):Int):=by
 unfold iY o9
 split
 ·split
  ·rfl
  ·split<;>rfl
 ·split<;>rfl
theorem aBD(kd ro c:Int)(tl te:Bool):o9 kd ro c tl te<5:=by
 unfold o9
 split
 ·split
  ·decide
  ·split<;>decide
 ·split<;>decide
def aBE(L:List Value):Nat:=(o9 (pI L 51) (pI L 58) (c4 (pI L 59) (pI L 60) (pI L 61) (pI L 62) (pI L 68) (pI L 69) (pI L 70) (pI L 71)) (tG (pI L 61) (pI L 62) (pI L 70) (pI L 71)) ((pI L 64) == (pI L 78) && (pI L 65) == (pI L 79) && (pI L 66) == (pI L 80) && (pI L 67) == (pI L 81)))
def lJ(n:Nat)(rst:Bool)(L:List Value):List Value:=match n with
 | 0=>(aDU (pB L 22) (pB L 47) (pI L 86) (((pI L 51) == 2) && ((pI L 58) == 4) && (pB L 54)) (rst && !(pB L 3) && ((pI L 51) == 2) && (pB L 55)) ((pB L 39) || (pB L 52)) ((pB L 40) || (pB L 53)) (decide ((c4 (pI L 68) (pI L 69) (pI L 70) (pI L 71) (pI L 59) (pI L 60) (pI L 61) (pI L 62))<0)) [.int .u64 (pI L 59),.int .u32 (pI L 60),.int .u64 (pI L 61),.int .u16 (pI L 62),.int .u16 (pI L 63)] [.int .i64 (pI L 64),.int .i64 (pI L 65),.int .i64 (pI L 66),.int .i64 (pI L 67)] (dT (pI L 64) (pI L 65) (pI L 66)) L)
 | 1=>((iF (rst && !(pB L 3) && ((pI L 51) == 2) && (pB L 55)) (l8 ((pB L 39) || (pB L 52)) ((pB L 40) || (pB L 53)) (dU (((pI L 51) == 2) && ((pI L 58) == 4) && (pB L 54)) L))).set 11 (.int .i64 (dT (pI L 64) (pI L 65) (pI L 66))))
 | 2=>(aAW (((pI L 51) == 2) && (pB L 56)) L)
 | 3=>(l8 ((pB L 39) || (pB L 52)) ((pB L 40) || (pB L 53)) (iF (rst && !(pB L 3) && ((pI L 51) == 2) && (pB L 55)) L))
 | _=>(aAX ((pI L 51) == 1) L)
def j7(rst:Bool)(L:List Value):List Value:=((lJ (aBE L) rst L).set 36 (.bool false)).set 18 (.int .i64 2)
def lK(L:List Value):List Value:=(aGG (pB L 23) (pB L 47) (pI L 86) (decide ((c4 (pI L 68) (pI L 69) (pI L 70) (pI L 71) (pI L 73) (pI L 74) (pI L 75) (pI L 76))<0)) [.int .u64 (pI L 73),.int .u32 (pI L 74),.int .u64 (pI L 75),.int .u16 (pI L 76),.int .u16 (pI L 77)] [.int .i64 (pI L 82),.int .i64 (pI L 83),.int .i64 (pI L 84),.int .i64 (pI L 85)] L)
def iZ(L:List Value):Nat:=(bX (pB L 2) ((pI L 86) == 0) ((pI L 18) == 0) (pB L 36) ((pI L 18) == 1) ((pI L 18) == 2) (pB L 44) (pB L 50) ((pI L 86) == 3) ((pI L 11) == 0))
def lD(rst:Bool)(L:List Value):Bool × List Value:=match iZ L with|0=>(false,L)|1=>(true,qI L)|2=>(true,qJ L)|3=>(true,lK L)|_=>(true,j7 rst L)
def lE(L:List Value):Prop:=TF (pI L 64) (pI L 65) (pI L 66) (pI L 67)
theorem aGN(w:World){L:List Value}(hT:Typed PL L):Calls Tryz.prog 145 #[.agg L.toArray] w fun e w'=>e=.returned (.int .i64 (aBE L:Nat))∧Ext w w' :=
 qS (aBA (w:=w) L (nT hT) _ (aR hT 51 rfl) _ (fG hT 52 rfl) _ (fG hT 53 rfl) _ (fG hT 54 rfl) _ (fG hT 55 rfl) _ (fG hT 56 rfl) _ (fG hT 57 rfl) _ (aR hT 58 rfl) _ (aR hT 59 rfl) _ (aR hT 60 rfl) _ (aR hT 61 rfl) _ (aR hT 62 rfl) _ (aR hT 63 rfl) _ (aR hT 64 rfl) _ (aR hT 65 rfl) _ (aR hT 66 rfl) _ (aR hT 67 rfl) _ (aR hT 68 rfl) _ (aR hT 69 rfl) _ (aR hT 70 rfl) _ (aR hT 71 rfl) _ (aR hT 72 rfl) _ (aR hT 78 rfl) _ (aR hT 79 rfl) _ (aR hT 80 rfl) _ (aR hT 81 rfl) (mY (oI hT 61 rfl)) (mY (oI hT 70 rfl)) (wD (oI hT 62 rfl)) (wD (oI hT 71 rfl))) (wW _ _ _ _ _)
theorem aDZ{w:World}(G o:Nat)(L:List Value)(hP_w:Pv w G o L)(hT:Typed PL L)(rst:Bool)(hR:lE L)(n:Nat):Calls Tryz.prog (gE n) #[.agg #[.pointer (some ⟨G,o,none⟩),.bool rst]] w fun e w'=>e=.returned (.tuple #[])∧Pv w' G o (lJ n rst L)∧Pm G o w w':=by
 obtain⟨r1,r2,r3,r4,r5,r6,-,-⟩:=hR
 match n with
 | 0=>exact sI G o L hP_w (nT hT) rst _ (fG hT 3 rfl) _ (fG hT 22 rfl) _ (fG hT 39 rfl) _ (fG hT 40 rfl) _ (fG hT 47 rfl) _ (aR hT 51 rfl) _ (fG hT 52 rfl) _ (fG hT 53 rfl) _ (fG hT 54 rfl) _ (fG hT 55 rfl) _ (fG hT 56 rfl) _ (fG hT 57 rfl) _ (aR hT 58 rfl) _ (aR hT 59 rfl) _ (aR hT 60 rfl) _ (aR hT 61 rfl) _ (aR hT 62 rfl) _ (aR hT 63 rfl) _ (aR hT 64 rfl) _ (aR hT 65 rfl) _ (aR hT 66 rfl) _ (aR hT 67 rfl) _ (aR hT 68 rfl) _ (aR hT 69 rfl) _ (aR hT 70 rfl) _ (aR hT 71 rfl) _ (aR hT 72 rfl) _ (aR hT 86 rfl) r1 r2 r3 r4 r5 r6
 | 1=>exact sH G o L hP_w (nT hT) rst _ (fG hT 3 rfl) _ (fG hT 39 rfl) _ (fG hT 40 rfl) _ (aR hT 51 rfl) _ (fG hT 52 rfl) _ (fG hT 53 rfl) _ (fG hT 54 rfl) _ (fG hT 55 rfl) _ (fG hT 56 rfl) _ (fG hT 57 rfl) _ (aR hT 58 rfl) _ (aR hT 59 rfl) _ (aR hT 60 rfl) _ (aR hT 61 rfl) _ (aR hT 62 rfl) _ (aR hT 63 rfl) _ (aR hT 64 rfl) _ (aR hT 65 rfl) _ (aR hT 66 rfl) _ (aR hT 67 rfl) r1 r2 r3 r4 r5 r6
 | 2=>exact sD G o L hP_w (nT hT) rst _ (aR hT 51 rfl) _ (fG hT 56 rfl)
 | 3=>exact mH G o L hP_w (nT hT) rst _ (fG hT 3 rfl) _ (fG hT 39 rfl) _ (fG hT 40 rfl) _ (aR hT 51 rfl) _ (fG hT 52 rfl) _ (fG hT 53 rfl) _ (fG hT 55 rfl)
 | n+4=>exact aAY G o L hP_w (nT hT) rst _ (aR hT 51 rfl)
theorem aBF{w:World}(G o:Nat)(L:List Value)(hP_w:Pv w G o L)(hT:Typed PL L)(rst:Bool)(hR:lE L):Calls Tryz.prog 81 #[.agg #[.pointer (some ⟨G,o,none⟩),.bool rst]] w fun e w'=>e=.returned (.tuple #[])∧Pv w' G o (j7 rst L)∧Pm G o w w' :=
 aBC G o L _ hP_w (nT hT) rst (aBE L) (aBD _ _ _ _ _) (fun w=>aGN w hT) (fun w hp=>aDZ G o L hp hT rst hR (aBE L))
theorem aD0{w:World}(G o:Nat)(L:List Value)(hP_w:Pv w G o L)(hT:Typed PL L)(rst:Bool):Calls Tryz.prog 80 #[.agg #[.pointer (some ⟨G,o,none⟩),.bool rst]] w fun e w'=>e=.returned (.tuple #[])∧Pv w' G o (lK L)∧Pm G o w w' :=
 wT G o L hP_w (nT hT) rst _ (fG hT 23 rfl) _ (fG hT 47 rfl) _ (aR hT 68 rfl) _ (aR hT 69 rfl) _ (aR hT 70 rfl) _ (aR hT 71 rfl) _ (aR hT 72 rfl) _ (aR hT 73 rfl) _ (aR hT 74 rfl) _ (aR hT 75 rfl) _ (aR hT 76 rfl) _ (aR hT 77 rfl) _ (aR hT 82 rfl) _ (aR hT 83 rfl) _ (aR hT 84 rfl) _ (aR hT 85 rfl) _ (aR hT 86 rfl)
theorem aD1{w:World}(G o:Nat)(L:List Value)(hP_w:Pv w G o L)(hT:Typed PL L)(rst:Bool):Calls Tryz.prog 54 #[.agg #[.pointer (some ⟨G,o,none⟩),.bool rst]] w fun e w'=>e=.returned (wV (iZ L) (.agg #[.pointer (some ⟨G,o,none⟩),.bool rst]))∧Pv w' G o L∧Pm G o w w' :=
 aGM G o L hP_w (nT hT) rst _ (fG hT 2 rfl) _ (aR hT 11 rfl) _ (aR hT 18 rfl) _ (fG hT 22 rfl) _ (fG hT 23 rfl) _ (fG hT 24 rfl) _ (fG hT 25 rfl) _ (fG hT 26 rfl) _ (fG hT 27 rfl) _ (fG hT 28 rfl) _ (fG hT 29 rfl) _ (fG hT 30 rfl) _ (fG hT 31 rfl) _ (fG hT 32 rfl) _ (fG hT 33 rfl) _ (fG hT 34 rfl) _ (fG hT 35 rfl) _ (fG hT 36 rfl) _ (fG hT 37 rfl) _ (fG hT 38 rfl) _ (fG hT 39 rfl) _ (fG hT 40 rfl) _ (fG hT 41 rfl) _ (fG hT 42 rfl) _ (fG hT 43 rfl) _ (fG hT 44 rfl) _ (fG hT 45 rfl) _ (fG hT 46 rfl) _ (fG hT 47 rfl) _ (fG hT 48 rfl) _ (fG hT 49 rfl) _ (fG hT 50 rfl) _ (aR hT 86 rfl)
theorem kQ{w:World}(G o:Nat)(L:List Value)(hP_w:Pv w G o L)(hT:Typed PL L)(rst:Bool)(n:Nat)(hn:iZ L=n)(v:Value)(hv:wV n (.agg #[.pointer (some ⟨G,o,none⟩),.bool rst])=v):Calls Tryz.prog 54 #[.agg #[.pointer (some ⟨G,o,none⟩),.bool rst]] w fun e w'=>e=.returned v∧Pv w' G o L∧Pm G o w w':=by
 have:=aD1 G o L hP_w hT rst
 rw[hn,hv]at this
 exact this
theorem kR(L:List Value):iZ L=0∨iZ L=1∨iZ L=2∨iZ L=3∨iZ L=4:=by
 unfold iZ bX
 repeat' split
 all_goals simp
theorem mI(f:FuncId)(cs:Array Value)(w:World):(binOp BinOp.eql 1 (Value.func (Fn.func f) cs #[]) Value.nilFunc).run Tryz.prog w=.ok (.bool false) w:=by kernel_rfl
theorem jR(w:World):(binOp BinOp.eql 1 Value.nilFunc Value.nilFunc).run Tryz.prog w=.ok (.bool true) w:=by kernel_rfl
def mJ(B:Br)(k:Nat):Bool × Br:=((lD (B.hb 1) (a9 B.ps k)).1,B.setPort k (lD (B.hb 1) (a9 B.ps k)).2)
theorem aBG(w:World)(F:Nat→Prop)(X g k:Nat)(B:Br)(h:BrG w F X g B)(ho:B.ok)(hk:k<B.np)(hn:B.np<1000)(hr:iZ (a9 B.ps k)=0):Calls Tryz.prog 40 #[.pointer (some ⟨X,0,none⟩),.int .i64 k] w (aN w F X g (false,B)):=by
 obtain⟨hX,hg,hne⟩:=h.lt
 obtain⟨cap,c17,hc1,hc2⟩:=h.cell17 ho
 have cr0:=(h.cellX ho (i:=1) (by decide)).trans (ho.hb 1 rfl)
 obtain⟨rs,hrs⟩:∃r,B.hb 1=r:=⟨_,rfl⟩
 have cr:w.cell? ⟨X,1,none⟩=some (.bool rs):=by rw[←hrs];exact cr0
 have HRS:=hD hrs
 have HPV:=hD (h.pv hk)
 have HTY:=hD (dI ho hk)
 have H:=hD h
 have HR:=hD hr
 have HO:=hD (eA (fH ho hk))
 have hk8:k<1000:=by omega
 clear h ho hr hrs cr0
 go_enter Tryz.func40,Tryz.ntmps40
 go_wp2_with fail
 refine aT (S:=fun W'=>Pm g (k*89) w W') (by kernel_rfl) ?_
 intro wd hqx
 have hq0:Pm g (k*89) w wd:=hqx.pm g (k*89)
 have hpd:Pv wd g (k*89) (a9 B.ps k):=HPV.out.ext hqx
 refine aH 0 X 0 rfl hq0 ?_
 refine aH 1 X 0 rfl hq0 ?_
 refine aH 2 X 17 rfl hq0 ?_
 refine tL 3 (_) rfl (aA rfl 31 _ rfl ⟨X,17,none⟩ rfl (.slice (some ⟨g,0,none⟩) B.np cap) _ (fun W' hW'=>(hW'.1.cell (p:=⟨X,17,none⟩) hX hne).trans c17) Tryz.underlying31 rfl) hq0 ?_
 refine bO 4 ((.int .i64 (k:Int))) rfl hq0 ?_
 refine tL 5 ((.pointer (some ⟨g,k*89,none⟩))) rfl (Or.inl ⟨rfl,fun W' _=>by go_simp⟩) hq0 ?_
 refine aH 6 X 0 rfl hq0 ?_
 refine aH 7 X 0 rfl hq0 ?_
 refine aH 8 X 1 rfl hq0 ?_
 refine tL 9 (_) rfl (aA rfl 4 _ rfl ⟨X,1,none⟩ rfl (.bool rs) _ (fun W' hW'=>(hW'.1.cell (p:=⟨X,1,none⟩) hX hne).trans cr) Tryz.underlying4 rfl) hq0 ?_
 refine tL 10 ((.agg #[.pointer (some ⟨g,k*89,none⟩),.bool rs])) rfl (bL rfl 110 _ rfl [(0,.pointer (some ⟨g,k*89,none⟩)),(1,.bool rs)] rfl #[.pointer (some ⟨g,k*89,none⟩),.bool rs] (by kernel_rfl)) hq0 ?_
 refine bB (i:=11) rfl rfl (by kernel_rfl) (fun K hK=>?_)
 go_simp
 refine(kQ g (k*89) (a9 B.ps k) hpd HTY.out rs 0 HR.out _ rfl).mono ?_
 rintro e wc1 ⟨rfl,hpv,hx⟩
 have hq1:=hq0.trans hx
 refine hK.out _ _ hq1 (fun hHeld=>?_)
 try simp only[ps]
 clear hK K hHeld
 refine bO 12 (Value.nilFunc) rfl hq1 ?_
 refine wpAnyH_done (by kernel_rfl) ?_ _
 have hBr:=H.out.pm hk hq1 hpv
 rw[HO.out]at hBr
 have HB:=hD hBr
 have HM:=hD hq1
 generalize wc1=wy at *
 clear hqx hq0 hq1 hpd hBr c17 cr
 have q0:=jR
 go_wp2_with fail
 go_ret
 exact⟨rfl,HB.out,HM.out.mutF H.out.F2⟩
theorem aBH(w:World)(F:Nat→Prop)(X g k:Nat)(B:Br)(h:BrG w F X g B)(ho:B.ok)(hk:k<B.np)(hn:B.np<1000)(hr:iZ (a9 B.ps k)=1):Calls Tryz.prog 40 #[.pointer (some ⟨X,0,none⟩),.int .i64 k] w (aN w F X g (true,B.setPort k (qI (a9 B.ps k)))):=by
 obtain⟨hX,hg,hne⟩:=h.lt
 obtain⟨cap,c17,hc1,hc2⟩:=h.cell17 ho
 have cr0:=(h.cellX ho (i:=1) (by decide)).trans (ho.hb 1 rfl)
 obtain⟨rs,hrs⟩:∃r,B.hb 1=r:=⟨_,rfl⟩
 have cr:w.cell? ⟨X,1,none⟩=some (.bool rs):=by rw[←hrs];exact cr0
 have HRS:=hD hrs
 have HPV:=hD (h.pv hk)
 have HTY:=hD (dI ho hk)
 have H:=hD h
 have HR:=hD hr
 have HO:=hD (eA (fH ho hk))
 have hk8:k<1000:=by omega
 clear h ho hr hrs cr0
 go_enter Tryz.func40,Tryz.ntmps40
 go_wp2_with fail
 refine aT (S:=fun W'=>Pm g (k*89) w W') (by kernel_rfl) ?_
 intro wd hqx
 have hq0:Pm g (k*89) w wd:=hqx.pm g (k*89)
 have hpd:Pv wd g (k*89) (a9 B.ps k):=HPV.out.ext hqx
 refine aH 0 X 0 rfl hq0 ?_
 refine aH 1 X 0 rfl hq0 ?_
 refine aH 2 X 17 rfl hq0 ?_
 refine tL 3 (_) rfl (aA rfl 31 _ rfl ⟨X,17,none⟩ rfl (.slice (some ⟨g,0,none⟩) B.np cap) _ (fun W' hW'=>(hW'.1.cell (p:=⟨X,17,none⟩) hX hne).trans c17) Tryz.underlying31 rfl) hq0 ?_
 refine bO 4 ((.int .i64 (k:Int))) rfl hq0 ?_
 refine tL 5 ((.pointer (some ⟨g,k*89,none⟩))) rfl (Or.inl ⟨rfl,fun W' _=>by go_simp⟩) hq0 ?_
 refine aH 6 X 0 rfl hq0 ?_
 refine aH 7 X 0 rfl hq0 ?_
 refine aH 8 X 1 rfl hq0 ?_
 refine tL 9 (_) rfl (aA rfl 4 _ rfl ⟨X,1,none⟩ rfl (.bool rs) _ (fun W' hW'=>(hW'.1.cell (p:=⟨X,1,none⟩) hX hne).trans cr) Tryz.underlying4 rfl) hq0 ?_
 refine tL 10 ((.agg #[.pointer (some ⟨g,k*89,none⟩),.bool rs])) rfl (bL rfl 110 _ rfl [(0,.pointer (some ⟨g,k*89,none⟩)),(1,.bool rs)] rfl #[.pointer (some ⟨g,k*89,none⟩),.bool rs] (by kernel_rfl)) hq0 ?_
 refine bB (i:=11) rfl rfl (by kernel_rfl) (fun K hK=>?_)
 go_simp
 refine(kQ g (k*89) (a9 B.ps k) hpd HTY.out rs 1 HR.out _ rfl).mono ?_
 rintro e wc1 ⟨rfl,hpv,hx⟩
 have hq1:=hq0.trans hx
 refine hK.out _ _ hq1 (fun hHeld=>?_)
 try simp only[ps]
 clear hK K hHeld
 refine bO 12 ((.func (.func 78) #[.agg #[.pointer (some ⟨g,k*89,none⟩),.bool rs]] #[])) rfl hq1 ?_
 refine wpAnyH_done (by kernel_rfl) ?_ _
 have hBr:=H.out.pm hk hq1 hpv
 rw[HO.out]at hBr
 have HB:=hD hBr
 have HM:=hD hq1
 generalize wc1=wy at *
 clear hqx hq0 hq1 hpd hBr c17 cr
 have q0:=jR
 have q1:=mI 78
 go_wp2_with fail
 refine(tK g (k*89) (a9 B.ps k) hpv (nT HTY.out) rs).mono ?_
 rintro e wz ⟨rfl,hp,hm⟩
 have hB2:=HB.out.pm hk hm hp
 have HB2:=hD hB2
 have HM2:=hD ((HM.out.trans hm).mutF H.out.F2)
 clear hB2 hm hp
 go_wp2_with fail
 go_ret
 refine⟨rfl,?_,HM2.out⟩
 exact HB2.out
theorem aBI(w:World)(F:Nat→Prop)(X g k:Nat)(B:Br)(h:BrG w F X g B)(ho:B.ok)(hk:k<B.np)(hn:B.np<1000)(hr:iZ (a9 B.ps k)=2):Calls Tryz.prog 40 #[.pointer (some ⟨X,0,none⟩),.int .i64 k] w (aN w F X g (true,B.setPort k (qJ (a9 B.ps k)))):=by
 obtain⟨hX,hg,hne⟩:=h.lt
 obtain⟨cap,c17,hc1,hc2⟩:=h.cell17 ho
 have cr0:=(h.cellX ho (i:=1) (by decide)).trans (ho.hb 1 rfl)
 obtain⟨rs,hrs⟩:∃r,B.hb 1=r:=⟨_,rfl⟩
 have cr:w.cell? ⟨X,1,none⟩=some (.bool rs):=by rw[←hrs];exact cr0
 have HRS:=hD hrs
 have HPV:=hD (h.pv hk)
 have HTY:=hD (dI ho hk)
 have H:=hD h
 have HR:=hD hr
 have HO:=hD (eA (fH ho hk))
 have hk8:k<1000:=by omega
 clear h ho hr hrs cr0
 go_enter Tryz.func40,Tryz.ntmps40
 go_wp2_with fail
 refine aT (S:=fun W'=>Pm g (k*89) w W') (by kernel_rfl) ?_
 intro wd hqx
 have hq0:Pm g (k*89) w wd:=hqx.pm g (k*89)
 have hpd:Pv wd g (k*89) (a9 B.ps k):=HPV.out.ext hqx
 refine aH 0 X 0 rfl hq0 ?_
 refine aH 1 X 0 rfl hq0 ?_
 refine aH 2 X 17 rfl hq0 ?_
 refine tL 3 (_) rfl (aA rfl 31 _ rfl ⟨X,17,none⟩ rfl (.slice (some ⟨g,0,none⟩) B.np cap) _ (fun W' hW'=>(hW'.1.cell (p:=⟨X,17,none⟩) hX hne).trans c17) Tryz.underlying31 rfl) hq0 ?_
 refine bO 4 ((.int .i64 (k:Int))) rfl hq0 ?_
 refine tL 5 ((.pointer (some ⟨g,k*89,none⟩))) rfl (Or.inl ⟨rfl,fun W' _=>by go_simp⟩) hq0 ?_
 refine aH 6 X 0 rfl hq0 ?_
 refine aH 7 X 0 rfl hq0 ?_
 refine aH 8 X 1 rfl hq0 ?_
 refine tL 9 (_) rfl (aA rfl 4 _ rfl ⟨X,1,none⟩ rfl (.bool rs) _ (fun W' hW'=>(hW'.1.cell (p:=⟨X,1,none⟩) hX hne).trans cr) Tryz.underlying4 rfl) hq0 ?_
 refine tL 10 ((.agg #[.pointer (some ⟨g,k*89,none⟩),.bool rs])) rfl (bL rfl 110 _ rfl [(0,.pointer (some ⟨g,k*89,none⟩)),(1,.bool rs)] rfl #[.pointer (some ⟨g,k*89,none⟩),.bool rs] (by kernel_rfl)) hq0 ?_
 refine bB (i:=11) rfl rfl (by kernel_rfl) (fun K hK=>?_)
 go_simp
 refine(kQ g (k*89) (a9 B.ps k) hpd HTY.out rs 2 HR.out _ rfl).mono ?_
 rintro e wc1 ⟨rfl,hpv,hx⟩
 have hq1:=hq0.trans hx
 refine hK.out _ _ hq1 (fun hHeld=>?_)
 try simp only[ps]
 clear hK K hHeld
 refine bO 12 ((.func (.func 79) #[.agg #[.pointer (some ⟨g,k*89,none⟩),.bool rs]] #[])) rfl hq1 ?_
 refine wpAnyH_done (by kernel_rfl) ?_ _
 have hBr:=H.out.pm hk hq1 hpv
 rw[HO.out]at hBr
 have HB:=hD hBr
 have HM:=hD hq1
 generalize wc1=wy at *
 clear hqx hq0 hq1 hpd hBr c17 cr
 have q0:=jR
 have q1:=mI 79
 go_wp2_with fail
 refine(aF4 g (k*89) (a9 B.ps k) hpv (nT HTY.out) rs).mono ?_
 rintro e wz ⟨rfl,hp,hm⟩
 have hB2:=HB.out.pm hk hm hp
 have HB2:=hD hB2
 have HM2:=hD ((HM.out.trans hm).mutF H.out.F2)
 clear hB2 hm hp
 go_wp2_with fail
 go_ret
 refine⟨rfl,?_,HM2.out⟩
 exact HB2.out
theorem aBJ(w:World)(F:Nat→Prop)(X g k:Nat)(B:Br)(h:BrG w F X g B)(ho:B.ok)(hk:k<B.np)(hn:B.np<1000)(hr:iZ (a9 B.ps k)=3):Calls Tryz.prog 40 #[.pointer (some ⟨X,0,none⟩),.int .i64 k] w (aN w F X g (true,B.setPort k (lK (a9 B.ps k)))):=by
 obtain⟨hX,hg,hne⟩:=h.lt
 obtain⟨cap,c17,hc1,hc2⟩:=h.cell17 ho
 have cr0:=(h.cellX ho (i:=1) (by decide)).trans (ho.hb 1 rfl)
 obtain⟨rs,hrs⟩:∃r,B.hb 1=r:=⟨_,rfl⟩
 have cr:w.cell? ⟨X,1,none⟩=some (.bool rs):=by rw[←hrs];exact cr0
 have HRS:=hD hrs
 have HPV:=hD (h.pv hk)
 have HTY:=hD (dI ho hk)
 have H:=hD h
 have HR:=hD hr
 have HO:=hD (eA (fH ho hk))
 have hk8:k<1000:=by omega
 clear h ho hr hrs cr0
 go_enter Tryz.func40,Tryz.ntmps40
 go_wp2_with fail
 refine aT (S:=fun W'=>Pm g (k*89) w W') (by kernel_rfl) ?_
 intro wd hqx
 have hq0:Pm g (k*89) w wd:=hqx.pm g (k*89)
 have hpd:Pv wd g (k*89) (a9 B.ps k):=HPV.out.ext hqx
 refine aH 0 X 0 rfl hq0 ?_
 refine aH 1 X 0 rfl hq0 ?_
 refine aH 2 X 17 rfl hq0 ?_
 refine tL 3 (_) rfl (aA rfl 31 _ rfl ⟨X,17,none⟩ rfl (.slice (some ⟨g,0,none⟩) B.np cap) _ (fun W' hW'=>(hW'.1.cell (p:=⟨X,17,none⟩) hX hne).trans c17) Tryz.underlying31 rfl) hq0 ?_
 refine bO 4 ((.int .i64 (k:Int))) rfl hq0 ?_
 refine tL 5 ((.pointer (some ⟨g,k*89,none⟩))) rfl (Or.inl ⟨rfl,fun W' _=>by go_simp⟩) hq0 ?_
 refine aH 6 X 0 rfl hq0 ?_
 refine aH 7 X 0 rfl hq0 ?_
 refine aH 8 X 1 rfl hq0 ?_
 refine tL 9 (_) rfl (aA rfl 4 _ rfl ⟨X,1,none⟩ rfl (.bool rs) _ (fun W' hW'=>(hW'.1.cell (p:=⟨X,1,none⟩) hX hne).trans cr) Tryz.underlying4 rfl) hq0 ?_
 refine tL 10 ((.agg #[.pointer (some ⟨g,k*89,none⟩),.bool rs])) rfl (bL rfl 110 _ rfl [(0,.pointer (some ⟨g,k*89,none⟩)),(1,.bool rs)] rfl #[.pointer (some ⟨g,k*89,none⟩),.bool rs] (by kernel_rfl)) hq0 ?_
 refine bB (i:=11) rfl rfl (by kernel_rfl) (fun K hK=>?_)
 go_simp
 refine(kQ g (k*89) (a9 B.ps k) hpd HTY.out rs 3 HR.out _ rfl).mono ?_
 rintro e wc1 ⟨rfl,hpv,hx⟩
 have hq1:=hq0.trans hx
 refine hK.out _ _ hq1 (fun hHeld=>?_)
 try simp only[ps]
 clear hK K hHeld
 refine bO 12 ((.func (.func 80) #[.agg #[.pointer (some ⟨g,k*89,none⟩),.bool rs]] #[])) rfl hq1 ?_
 refine wpAnyH_done (by kernel_rfl) ?_ _
 have hBr:=H.out.pm hk hq1 hpv
 rw[HO.out]at hBr
 have HB:=hD hBr
 have HM:=hD hq1
 generalize wc1=wy at *
 clear hqx hq0 hq1 hpd hBr c17 cr
 have q0:=jR
 have q1:=mI 80
 go_wp2_with fail
 refine(aD0 g (k*89) (a9 B.ps k) hpv HTY.out rs).mono ?_
 rintro e wz ⟨rfl,hp,hm⟩
 have hB2:=HB.out.pm hk hm hp
 have HB2:=hD hB2
 have HM2:=hD ((HM.out.trans hm).mutF H.out.F2)
 clear hB2 hm hp
 go_wp2_with fail
 go_ret
 refine⟨rfl,?_,HM2.out⟩
 exact HB2.out
theorem aBK(w:World)(F:Nat→Prop)(X g k:Nat)(B:Br)(h:BrG w F X g B)(ho:B.ok)(hk:k<B.np)(hn:B.np<1000)(hr:iZ (a9 B.ps k)=4)(hR:lE (a9 B.ps k)):Calls Tryz.prog 40 #[.pointer (some ⟨X,0,none⟩),.int .i64 k] w (aN w F X g (true,B.setPort k (j7 (B.hb 1) (a9 B.ps k)))):=by
 obtain⟨hX,hg,hne⟩:=h.lt
 obtain⟨cap,c17,hc1,hc2⟩:=h.cell17 ho
 have cr0:=(h.cellX ho (i:=1) (by decide)).trans (ho.hb 1 rfl)
 obtain⟨rs,hrs⟩:∃r,B.hb 1=r:=⟨_,rfl⟩
 have cr:w.cell? ⟨X,1,none⟩=some (.bool rs):=by rw[←hrs];exact cr0
 have HRS:=hD hrs
 have HPV:=hD (h.pv hk)
 have HTY:=hD (dI ho hk)
 have H:=hD h
 have HR:=hD hr
 have HO:=hD (eA (fH ho hk))
 have hk8:k<1000:=by omega
 have HTM:=hD hR
 clear hR
 clear h ho hr hrs cr0
 go_enter Tryz.func40,Tryz.ntmps40
 go_wp2_with fail
 refine aT (S:=fun W'=>Pm g (k*89) w W') (by kernel_rfl) ?_
 intro wd hqx
 have hq0:Pm g (k*89) w wd:=hqx.pm g (k*89)
 have hpd:Pv wd g (k*89) (a9 B.ps k):=HPV.out.ext hqx
 refine aH 0 X 0 rfl hq0 ?_
 refine aH 1 X 0 rfl hq0 ?_
 refine aH 2 X 17 rfl hq0 ?_
 refine tL 3 (_) rfl (aA rfl 31 _ rfl ⟨X,17,none⟩ rfl (.slice (some ⟨g,0,none⟩) B.np cap) _ (fun W' hW'=>(hW'.1.cell (p:=⟨X,17,none⟩) hX hne).trans c17) Tryz.underlying31 rfl) hq0 ?_
 refine bO 4 ((.int .i64 (k:Int))) rfl hq0 ?_
 refine tL 5 ((.pointer (some ⟨g,k*89,none⟩))) rfl (Or.inl ⟨rfl,fun W' _=>by go_simp⟩) hq0 ?_
 refine aH 6 X 0 rfl hq0 ?_
 refine aH 7 X 0 rfl hq0 ?_
 refine aH 8 X 1 rfl hq0 ?_
 refine tL 9 (_) rfl (aA rfl 4 _ rfl ⟨X,1,none⟩ rfl (.bool rs) _ (fun W' hW'=>(hW'.1.cell (p:=⟨X,1,none⟩) hX hne).trans cr) Tryz.underlying4 rfl) hq0 ?_
 refine tL 10 ((.agg #[.pointer (some ⟨g,k*89,none⟩),.bool rs])) rfl (bL rfl 110 _ rfl [(0,.pointer (some ⟨g,k*89,none⟩)),(1,.bool rs)] rfl #[.pointer (some ⟨g,k*89,none⟩),.bool rs] (by kernel_rfl)) hq0 ?_
 refine bB (i:=11) rfl rfl (by kernel_rfl) (fun K hK=>?_)
 go_simp
 refine(kQ g (k*89) (a9 B.ps k) hpd HTY.out rs 4 HR.out _ rfl).mono ?_
 rintro e wc1 ⟨rfl,hpv,hx⟩
 have hq1:=hq0.trans hx
 refine hK.out _ _ hq1 (fun hHeld=>?_)
 try simp only[ps]
 clear hK K hHeld
 refine bO 12 ((.func (.func 81) #[.agg #[.pointer (some ⟨g,k*89,none⟩),.bool rs]] #[])) rfl hq1 ?_
 refine wpAnyH_done (by kernel_rfl) ?_ _
 have hBr:=H.out.pm hk hq1 hpv
 rw[HO.out]at hBr
 have HB:=hD hBr
 have HM:=hD hq1
 generalize wc1=wy at *
 clear hqx hq0 hq1 hpd hBr c17 cr
 have q0:=jR
 have q1:=mI 81
 go_wp2_with fail
 refine(aBF g (k*89) (a9 B.ps k) hpv HTY.out rs HTM.out).mono ?_
 rintro e wz ⟨rfl,hp,hm⟩
 have hB2:=HB.out.pm hk hm hp
 have HB2:=hD hB2
 have HM2:=hD ((HM.out.trans hm).mutF H.out.F2)
 clear hB2 hm hp
 go_wp2_with fail
 go_ret
 refine⟨rfl,?_,HM2.out⟩
 rw[HRS.out]
 exact HB2.out
theorem aD2(w:World)(F:Nat→Prop)(X g k:Nat)(B:Br)(h:BrG w F X g B)(ho:B.ok)(hk:k<B.np)(hn:B.np<1000)(hR:lE (a9 B.ps k)):Calls Tryz.prog 40 #[.pointer (some ⟨X,0,none⟩),.int .i64 k] w (aN w F X g (mJ B k)):=by
 unfold mJ lD
 rcases kR (a9 B.ps k)with hr|hr|hr|hr|hr
 ·rw[hr]
  show Calls _ _ _ _ (aN w F X g (false,B.setPort k (a9 B.ps k)))
  rw[eA (fH ho hk)]
  exact aBG w F X g k B h ho hk hn hr
 ·rw[hr];exact aBH w F X g k B h ho hk hn hr
 ·rw[hr];exact aBI w F X g k B h ho hk hn hr
 ·rw[hr];exact aBJ w F X g k B h ho hk hn hr
 ·rw[hr];exact aBK w F X g k B h ho hk hn hr hR
theorem n5(n l m:Int)(w:World):
    Calls Tryz.prog 46 #[.int .i64 n,.int .i64 l,.int .i64 m] w fun e w'=>e=.returned (.bool (decide (l≤n) && decide (n≤m)))∧w=w':=by
 by_cases h1:l≤n
 ·have e1:decide (l≤n)=true:=by simpa using h1
  go_enter Tryz.func46,Tryz.ntmps46
  go_wp2
  go_ret
  exact⟨lY (by rw[e1];rfl),rfl⟩
 ·have e1:decide (l≤n)=false:=by simpa using h1
  go_enter Tryz.func46,Tryz.ntmps46
  go_wp2
  go_ret
  exact⟨rfl,rfl⟩
theorem aBL(w:World)(b0 b1 b2 b3 b4 b5:Bool):(binOp .eql 91 (.agg #[.bool b0,.bool b1,.bool b2,.bool b3,.bool b4,.bool b5]) (.agg #[.bool true,.bool true,.bool true,.bool true,.bool true,.bool true])).run Tryz.prog w =
    .ok (.bool (b0 && b1 && b2 && b3 && b4 && b5)) w:=by
 have k1:Tryz.prog.stoodInHeld 91=false:=by kernel_rfl
 simp[go_sem,k1,Tryz.underlying91]
 cases b0<;>simp<;>cases b1<;>simp<;>cases b2<;>simp<;>cases b3<;>simp<;>cases b4<;>simp<;>cases b5<;>simp
theorem sM:Tryz.prog.eqGuardType Tryz.prog.depth 91=false:=by kernel_rfl
def pA(a m h d:Int):Bool:=decide (0≤a∧a≤255∧6≤m∧m≤40∧1≤h∧h≤10∧4≤d∧d≤30∧m≤2*(d - 1)∧2*(h+1)≤m)
theorem uD(a m h d:Int)(w:World):
    Calls Tryz.prog 32 #[.agg #[.int .i64 a,.int .i64 m,.int .i64 h,.int .i64 d]] w fun e w'=>e=.returned (.bool (pA a m h d))∧Ext w w':=by
 have he:=aBL
 have hg:=sM
 go_enter Tryz.func32,Tryz.ntmps32
 go_wp2
 go_quiet ((first
  | (go_at_call 46;exact eP (n5 _ _ _ _))
  | (go_at_call 46;exact quietA (n5 _ _ _ _))))
 go_wp2
 go_ret
 refine⟨lY ?_,((Ext.refl w).alloc _).drewN _⟩
 unfold pA
 rw[Bool.eq_iff_iff]
 simp only[Bool.and_eq_true,decide_eq_true_eq]
 by_cases hr:(1≤h∧h≤10)∧(4≤d∧d≤30)
 ·rw[w64 (d - 1) (by omega) (by omega),w64 (2*(d - 1)) (by omega) (by omega),w64 (h+1) (by omega) (by omega),w64 (2*(h+1)) (by omega) (by omega)]
  omega
 ·omega
theorem wX(a m h d:Int):pA a m h d=true↔TR a m h d:=by unfold pA TR;simp
theorem dJ(n l m:Int)(w:World):
    Calls Tryz.prog 33 #[.int .i64 n,.int .i64 l,.int .i64 m] w fun e w'=>e=.returned (.bool (decide (l≤n) && decide (n≤m)))∧w=w':=by
 by_cases h1:l≤n
 ·have e1:decide (l≤n)=true:=by simpa using h1
  go_enter Tryz.func33,Tryz.ntmps33
  go_wp2
  go_ret
  exact⟨lY (by rw[e1];rfl),rfl⟩
 ·have e1:decide (l≤n)=false:=by simpa using h1
  go_enter Tryz.func33,Tryz.ntmps33
  go_wp2
  go_ret
  exact⟨rfl,rfl⟩
def zG(a m h d:Int):Nat→Int
 | 0=>a|1=>m|2=>h|_=>d
theorem aGO(a m h d:Int)(k:Nat)(hk:k<4)(w:World):(Instr.index 92 (.agg #[.int .i64 a,.int .i64 m,.int .i64 h,.int .i64 d]) (.int .i64 (k:Int))).run Tryz.prog w=.ok (.int .i64 (zG a m h d k)) w:=by
 rcases(by omega:k=0∨k=1∨k=2∨k=3)with rfl|rfl|rfl|rfl
 all_goals kernel_rfl
theorem mK(a m h d:Int)(w:World):Calls Tryz.prog 34 #[.agg #[.int .i64 a,.int .i64 m,.int .i64 h,.int .i64 d]] w (qT w (TF a m h d)):=by
 go_enter Tryz.func34,Tryz.ntmps34
 go_wp2_with fail
 go_loop [14] (fun i=>∃k:Nat,k≤4∧i=.int .i64 k∧Hid (∀n,n<k→0≤zG a m h d n∧zG a m h d n≤65535)) (fun i=>4 - (intOf i).toNat)
 case atStart=>exact⟨0,by omega,rfl,hD (fun n hn=>by omega)⟩
 case round =>
  obtain⟨k,hk,rfl,hn⟩:=hrel
  by_cases hlt:k<4
  ·have hix:=aGO a m h d k hlt
   obtain⟨z,hz⟩:∃z,zG a m h d k=z:=⟨_,rfl⟩
   rw[hz]at hix
   have HZ:=hD hz
   clear hz
   by_cases hb:0≤z∧z≤65535
   ·go_wp2_with (go_at_call 33;refine(eM (dJ _ _ _ _) (y:=true) (by simp;omega)).mono ?_;rintro e w' ⟨rfl,rfl⟩)
    go_round
    case rel =>
     refine⟨k+1,by omega,by go_num,hD (fun n hn'=>?_)⟩
     by_cases e:n=k
     ·subst e;rw[HZ.out];exact hb
     ·exact hn.out n (by omega)
    case measure=>simp[intOf];omega
   ·go_wp2_with (go_at_call 33;refine(eM (dJ _ _ _ _) (y:=false) (by simp;omega)).mono ?_;rintro e w' ⟨rfl,rfl⟩)
    go_ret
    refine⟨false,rfl,(Ext.refl w).alloc _,⟨(fun h=>by cases h),(fun h=>?_)⟩⟩
    exfalso
    apply hb
    rw[←HZ.out]
    unfold TF at h
    match k,hlt with
    | 0,_=>exact⟨h.1,h.2.1⟩
    | 1,_=>exact⟨h.2.2.1,h.2.2.2.1⟩
    | 2,_=>exact⟨h.2.2.2.2.1,h.2.2.2.2.2.1⟩
    | 3,_=>exact⟨h.2.2.2.2.2.2.1,h.2.2.2.2.2.2.2⟩
  ·obtain rfl:k=4:=by omega
   go_wp2_with fail
   go_ret
   have h0:=hn.out 0 (by omega)
   have h1:=hn.out 1 (by omega)
   have h2:=hn.out 2 (by omega)
   have h3:=hn.out 3 (by omega)
   exact⟨true,rfl,(Ext.refl w).alloc _,⟨fun _=>⟨h0.1,h0.2,h1.1,h1.2,h2.1,h2.2,h3.1,h3.2⟩,fun _=>rfl⟩⟩
def n6(g o:Nat):Array Value:=#[.pointer (some ⟨g,o,none⟩),.pointer (some ⟨g,o+1,none⟩),.pointer (some ⟨g,o+2,none⟩),.pointer (some ⟨g,o+3,none⟩),.pointer (some ⟨g,o+4,none⟩),.pointer (some ⟨g,o+5,none⟩),.pointer (some ⟨g,o+6,none⟩),.pointer (some ⟨g,o+7,none⟩),.pointer (some ⟨g,o+8,none⟩)]
theorem aBM:(Tryz.prog.info? 87).map (·.size)=some 9:=by kernel_rfl
theorem zH(g o k:Nat)(hk:k<9)(w:World):(Instr.index 87 (.agg (n6 g o)) (.int .i64 (k:Int))).run Tryz.prog w=.ok (.pointer (some ⟨g,o+k,none⟩)) w:=by
 rcases(by omega:k=0∨k=1∨k=2∨k=3∨k=4∨k=5∨k=6∨k=7∨k=8)with rfl|rfl|rfl|rfl|rfl|rfl|rfl|rfl|rfl
 all_goals kernel_rfl
theorem zI(g o:Nat)(w:World):Calls Tryz.prog 45 #[.pointer (some ⟨g,o,none⟩)] w fun e w'=>e=.returned (.agg (n6 g o))∧Ext w w':=by
 have hi:=hD (show(Tryz.prog.info? 87).map (·.size)=some (n6 g o).size from aBM)
 go_enter Tryz.func45,Tryz.ntmps45
 go_wp2_with fail
 refine aS 28 (by kernel_rfl) (by kernel_rfl) ?_
 intro u hu
 have hx:Ext w u:=by
  rw[hu]
  exact((Ext.refl w).alloc _).drew
 obtain ⟨old,hb2,hsz⟩:∃old:Array Value,u.heap[w.heap.size]?=some (.cells old 87 (0,0))∧old.size=9:=by
  rw[hu]
  exact⟨_,heap_alloc_new _ _,rfl⟩
 clear hu
 simp only[List.take_succ_cons,List.take_zero,List.drop_succ_cons,List.drop_zero]
 iterate 28 still_step
 refine wpStill_nil ?_
 have hgoal:∀u':World,u'.heap[w.heap.size]?=some (.cells (n6 g o) 87 (0,0))→Ext w u'→True:=fun _ _ _=>trivial
 refine wpList_store_row rfl 87 _ _ rfl w.heap.size (n6 g o) rfl rfl 87 old hb2 hi.out hsz (by rw[←Array.all_toList];rfl) ?_
 have hy:=setRow_heap _ _ _ (n6 g o) _ _ hb2
 have hx2:=eQ hx (Nat.le_refl _) (n6 g o)
 clear hb2 hx hgoal
 go_wp2_with fail
 exact bodyPost_ret (results_cell_row rfl _ _ _ _ (n6 g o) (0,0) _ rfl hy Tryz.underlying87 rfl hi.out) rfl ⟨rfl,hx2⟩
theorem aD3{l:List Value}{n:Nat}{a b c d:Value}(h0:l[n]?=some a)(h1:l[n+1]?=some b)(h2:l[n+2]?=some c)(h3:l[n+3]?=some d):(l.drop n).take 4=[a,b,c,d]:=by
 apply List.ext_getElem?
 intro j
 rw[List.getElem?_take]
 by_cases hj:j<4
 ·rw[if_pos hj,List.getElem?_drop]
  rcases(by omega:j=0∨j=1∨j=2∨j=3)with rfl|rfl|rfl|rfl
  ·simpa using h0
  ·simpa using h1
  ·simpa using h2
  ·simpa using h3
 ·rw[if_neg hj,List.getElem?_eq_none (by simp;omega)]
theorem uE{w:World}{b o:Nat}{xs:List Value}(h:w.rangeAt b o xs)(n m:Nat):w.rangeAt b (o+n) ((xs.drop n).take m):=fun j v hv=>by
 rw[List.getElem?_take]at hv
 split at hv
 ·rw[List.getElem?_drop]at hv
  have:=h _ _ hv
  rwa [←Nat.add_assoc]at this
 ·cases hv
theorem j8:(Tryz.prog.info? 24).map (·.size)=some 4:=by kernel_rfl
theorem aBN(g o:Nat)(cl:Nat→Int)(t0 t1 t2 t3 d0 d1 d2 d3 m0 m1 m2 m3:Int)(w:World)(hg:g<w.heap.size)(hc:∀n,n<9→w.cell? ⟨g,o+6+n,none⟩=some (.int .i64 (cl n)))(r78:w.rangeAt g (o+78) [.int .i64 t0,.int .i64 t1,.int .i64 t2,.int .i64 t3])(r82:w.rangeAt g (o+82) [.int .i64 d0,.int .i64 d1,.int .i64 d2,.int .i64 d3])(r64:w.rangeAt g (o+64) [.int .i64 m0,.int .i64 m1,.int .i64 m2,.int .i64 m3]):
    Calls Tryz.prog 35 #[.pointer (some ⟨g,o,none⟩)] w (qT w ((∀n,n<9→0≤cl n∧cl n≤1000)∧TF t0 t1 t2 t3∧TF d0 d1 d2 d3∧TF m0 m1 m2 m3)):=by
 have HC:=hD hc
 have R78:=hD r78
 have R82:=hD r82
 have R64:=hD r64
 clear hc r78 r82 r64
 go_enter Tryz.func35,Tryz.ntmps35
 go_wp2_with fail
 refine(zI g (o+6) w).mono ?_
 rintro e w1 ⟨rfl,hx1⟩
 have HX1:=hD hx1
 clear hx1
 go_wp2_with fail
 go_loop [9] (fun i=>∃k:Nat,k≤9∧i=.int .i64 k∧Hid (∀n,n<k→0≤cl n∧cl n≤1000)) (fun i=>9 - (intOf i).toNat)
 case atStart=>exact⟨0,by omega,rfl,hD (fun n hn=>by omega)⟩
 case round =>
  obtain⟨k,hk,rfl,hn⟩:=hrel
  by_cases hlt:k<9
  ·have hix:=zH g (o+6) k hlt
   have hcell:=(HX1.out.cell (p:=⟨g,o+6+k,none⟩) hg).trans (HC.out k hlt)
   obtain⟨z,hz⟩:∃z,cl k=z:=⟨_,rfl⟩
   rw[hz]at hcell
   have HZ:=hD hz
   clear hz
   by_cases hb:0≤z∧z≤1000
   ·go_wp2_with (go_at_call 33;refine(eM (dJ _ _ _ _) (y:=true) (by simp;omega)).mono ?_;rintro e w' ⟨rfl,rfl⟩)
    go_round
    case rel =>
     refine⟨k+1,by omega,by go_num,hD (fun n hn'=>?_)⟩
     by_cases e:n=k
     ·subst e;rw[HZ.out];exact hb
     ·exact hn.out n (by omega)
    case measure=>simp[intOf];omega
   ·go_wp2_with (go_at_call 33;refine(eM (dJ _ _ _ _) (y:=false) (by simp;omega)).mono ?_;rintro e w' ⟨rfl,rfl⟩)
    go_ret
    refine⟨false,rfl,HX1.out,⟨(fun h=>by cases h),(fun h=>?_)⟩⟩
    exfalso
    apply hb
    rw[←HZ.out]
    exact h.1 k hlt
  ·have hall:=hD (show ∀n,n<9→0≤cl n∧cl n≤1000 from fun n hn'=>hn.out n (by omega))
   clear hn
   go_wp2_with (first|fail|((with_reducible refine aG 24 ?_);refine wpList_load_mid rfl 24 _ rfl g (o+78) rfl [.int .i64 t0,.int .i64 t1,.int .i64 t2,.int .i64 t3] _ (aQ R78.out HX1.out hg) Tryz.underlying24 rfl j8 ?_))
   refine(mK t0 t1 t2 t3 w1).mono ?_
   rintro e w2 ⟨f2,rfl,hx2,hf2⟩
   have HX2:=hD (HX1.out.trans hx2)
   have HF2:=hD hf2
   clear hx2 hf2 HX1
   cases f2
   ·go_wp2_with fail
    go_ret
    exact⟨false,rfl,HX2.out,⟨(fun h=>by cases h),(fun h=>absurd (HF2.out.2 h.2.1) (by simp))⟩⟩
   go_wp2_with (first|fail|((with_reducible refine aW 24 ?_);refine aU rfl 24 _ rfl g (o+82) rfl [.int .i64 d0,.int .i64 d1,.int .i64 d2,.int .i64 d3] _ (aQ R82.out HX2.out hg) Tryz.underlying24 rfl j8 ?_))
   refine(mK d0 d1 d2 d3 w2).mono ?_
   rintro e w3 ⟨f3,rfl,hx3,hf3⟩
   have HX3:=hD (HX2.out.trans hx3)
   have HF3:=hD hf3
   clear hx3 hf3 HX2
   cases f3
   ·go_wp2_with fail
    go_ret
    exact⟨false,rfl,HX3.out,⟨(fun h=>by cases h),(fun h=>absurd (HF3.out.2 h.2.2.1) (by simp))⟩⟩
   go_wp2_with (first|fail|((with_reducible refine aW 24 ?_);refine aU rfl 24 _ rfl g (o+64) rfl [.int .i64 m0,.int .i64 m1,.int .i64 m2,.int .i64 m3] _ (aQ R64.out HX3.out hg) Tryz.underlying24 rfl j8 ?_))
   refine(mK m0 m1 m2 m3 w3).mono ?_
   rintro e w4 ⟨f4,rfl,hx4,hf4⟩
   have HX4:=hD (HX3.out.trans hx4)
   have HF4:=hD hf4
   clear hx4 hf4 HX3
   go_wp2_with fail
   go_ret
   exact⟨f4,rfl,HX4.out,⟨fun h=>⟨hall.out,HF2.out.1 trivial,HF3.out.1 trivial,HF4.out.1 h⟩,fun h=>HF4.out.2 h.2.2.2⟩⟩
def q9(s:Bool)(r q:Int)(y:Bool):Bool:=s && (r == q) && ((r == 3) || y)
theorem wY(g o:Nat)(s y:Bool)(r q:Int)(w:World)(h44:w.cell? ⟨g,o+44,none⟩=some (.bool s))(h87:w.cell? ⟨g,o+87,none⟩=some (.int .i64 r))(h88:w.cell? ⟨g,o+88,none⟩=some (.int .i64 q))(h47:w.cell? ⟨g,o+47,none⟩=some (.bool y)):
    Calls Tryz.prog 177 #[.pointer (some ⟨g,o,none⟩)] w fun e w'=>e=.returned (.bool (q9 s r q y))∧Ext w w':=by
 cases s
 ·go_enter Tryz.func177,Tryz.ntmps177
  go_wp2
  go_quiet (fail)
  go_wp2
  go_ret
  exact⟨rfl,(Ext.refl w).drewN _⟩
 ·by_cases hrq:r=q
  ·subst hrq
   cases h3:(r == 3)
   ·have h3':decide (r=3)=false:=by simpa using h3
    go_enter Tryz.func177,Tryz.ntmps177
    go_wp2
    go_quiet (fail)
    go_wp2
    go_ret
    exact⟨lY (by simp[q9,h3]),(Ext.refl w).drewN _⟩
   ·obtain rfl:r=3:=by simpa using h3
    go_enter Tryz.func177,Tryz.ntmps177
    go_wp2
    go_quiet (fail)
    go_wp2
    go_ret
    exact⟨lY (by simp[q9]),(Ext.refl w).drewN _⟩
  ·have hb:(r == q)=false:=by simpa using hrq
   go_enter Tryz.func177,Tryz.ntmps177
   go_wp2
   go_quiet (fail)
   go_wp2
   go_ret
   exact⟨lY (by simp[q9,hb]),(Ext.refl w).drewN _⟩
theorem lR{w:World}{b o:Nat}{p:List Value}(h:w.rangeAt b o p)(n:Nat){x0 x1 x2 x3:Value}(he:(p.drop n).take 4=[x0,x1,x2,x3]):w.rangeAt b (o+n) [x0,x1,x2,x3]:=he▸uE h n 4
theorem wZ(c:Array Value)(B:Br)(w:World)(hb:BrC w c B)(ho:B.ok):Calls Tryz.prog 24 #[.agg c] w (qT w (lM B)):=by
 obtain⟨s1,s2,s3,hz,hhd,c17,c18,c19,r1,-,-⟩:=hb.facts ho.hd.1
 obtain⟨a1,k1,rfl,m1,hrow⟩:=r1.form
 have HR:=hD hrow
 have h2:=(hhd 2 (by decide)).trans (ho.hi 2 rfl)
 have h3:=(hhd 3 (by decide)).trans (ho.hi 3 rfl)
 have h4:=(hhd 4 (by decide)).trans (ho.hi 4 rfl)
 have h5:=(hhd 5 (by decide)).trans (ho.hi 5 rfl)
 have h6:=(hhd 6 (by decide)).trans (ho.hi 6 rfl)
 have h12:=(hhd 12 (by decide)).trans (ho.hi 12 rfl)
 have h13:=(hhd 13 (by decide)).trans (ho.hi 13 rfl)
 have h14:=(hhd 14 (by decide)).trans (ho.hi 14 rfl)
 have h15:=(hhd 15 (by decide)).trans (ho.hi 15 rfl)
 have h16:=(hhd 16 (by decide)).trans (ho.hi 16 rfl)
 clear hz hhd hb r1 hrow c18 c19
 go_enter Tryz.func24,Tryz.ntmps24
 by_cases hn:32<B.np
 ·go_wp2_with fail
  go_ret
  exact⟨false,rfl,(Ext.refl w).alloc _,⟨(fun h=>by cases h),(fun h=>by have:=h.1.2.2.2.2.2.1;omega)⟩⟩
 have hn':¬(32<B.np):=hn
 have hn2:B.np≤32:=by omega
 clear hn
 go_wp2_with fail
 refine(uD _ _ _ _ _).mono ?_
 rintro e w1 ⟨rfl,hx1⟩
 have hbx1:=kM hx1
 have HX1:=hD hx1
 clear hx1
 obtain⟨f1,hf1⟩:∃f,pA (B.hi 2) (B.hi 3) (B.hi 4) (B.hi 5)=f:=⟨_,rfl⟩
 rw[hf1]
 have HF1:=hD (show f1=true↔TR (B.hi 2) (B.hi 3) (B.hi 4) (B.hi 5)from by rw[←hf1];exact wX _ _ _ _)
 clear hf1
 have no:∀w':World,Ext (w.alloc (.cells c 35)) w'→¬lM B→qT w (lM B) (.returned (.bool false)) w':=fun w' hx hne=>⟨false,rfl,((Ext.refl w).alloc _).trans hx,⟨(fun h=>by cases h),(fun h=>absurd h hne)⟩⟩
 have NO:=hD no
 clear no
 cases f1
 ·go_wp2_with fail
  go_ret
  exact NO.out _ HX1.out (fun h=>absurd (HF1.out.2 h.1.1) (by simp))
 by_cases h20:B.hi 2=0
 case neg =>
  have h20b:(B.hi 2 != 0)=true:=by simpa using h20
  go_wp2_with fail
  all_goals
   go_ret
   exact NO.out _ HX1.out (fun h=>h20 h.1.2.2.1)
 have hT:=HF1.out.1 (by simp)
 unfold TR at hT
 rw[h20]at h2
 have H20:=hD h20
 clear h20
 have HT:=hD hT
 clear hT
 by_cases h6b:1≤B.hi 6∧B.hi 6≤10
 case neg =>
  go_wp2_with (go_at_call 33;refine(eM (dJ _ _ _ _) (y:=false) (by simp;omega)).mono ?_;rintro e w' ⟨rfl,rfl⟩)
  all_goals
   go_ret
   exact NO.out _ HX1.out (fun h=>h6b ⟨h.1.2.2.2.1,h.1.2.2.2.2.1⟩)
 by_cases h12b:-1≤B.hi 12∧B.hi 12≤(B.np:Int) - 1
 case neg =>
  go_wp2_with fail
  refine(eM (dJ _ _ _ _) (y:=true) (by simp;omega)).mono ?_
  rintro e w' ⟨rfl,rfl⟩
  go_wp2_with fail
  refine(eM (dJ _ _ _ _) (y:=false) (by simp;omega)).mono ?_
  rintro e w' ⟨rfl,rfl⟩
  go_wp2_with fail
  all_goals
   go_ret
   exact NO.out _ HX1.out (fun h=>h12b ⟨h.1.2.2.2.2.2.2.1,by have:=h.1.2.2.2.2.2.2.2;omega⟩)
 go_wp2_with fail
 refine(eM (dJ _ _ _ _) (y:=true) (by simp;omega)).mono ?_
 rintro e w' ⟨rfl,rfl⟩
 go_wp2_with fail
 refine(eM (dJ _ _ _ _) (y:=true) (by simp;omega)).mono ?_
 rintro e w' ⟨rfl,rfl⟩
 go_wp2_with fail
 refine(mK _ _ _ _ _).mono ?_
 rintro e w2 ⟨f2,rfl,hx2,hf2⟩
 have HX2:=hD (HX1.out.trans hx2)
 have HF2:=hD hf2
 have hbx2:=kM HX2.out
 clear hx2 hf2 HX1 hbx1
 cases f2
 ·go_wp2_with fail
  go_ret
  exact NO.out _ HX2.out (fun h=>absurd (HF2.out.2 h.1.2.1) (by simp))
 have HH:=hD (show HdR B from⟨HF1.out.1 (by simp),HF2.out.1 (by simp),H20.out,h6b.1,h6b.2,hn2,h12b.1,by omega⟩)
 clear HF1 HF2 h2 h3 h4 h5 h6 h12 h13 h14 h15 h16 HT H20 h6b h12b
 go_wp2_with fail
 go_loopw [43] (fun i wr=>∃j:Nat,j≤B.np∧i=.int .i64 j∧Ext (w.alloc (.cells c 35)) wr∧Hid (∀k,k<j→aH9 B k)) (fun i _=>B.np - (intOf i).toNat)
 case atStart=>exact⟨0,by omega,rfl,HX2.out,hD (fun k hk=>by omega)⟩
 case round =>
  clear HX2 hbx2
  obtain⟨j,hj,rfl,hxr,hall⟩:=hrel
  have hbx:=kM hxr
  by_cases hlt:j<B.np
  ·obtain ⟨b,off,rfl,hb,hlc,hcm,hc⟩:=HR.out (by omega)
   have hrw:=aQ (aQ hc ((Ext.refl w).alloc (.cells c 35)) hb) hxr (by simp;omega)
   have hpr:=cO hrw j
   have hcl:=hD (show ∀n,n<9→wr.cell? ⟨b,off+j*89+6+n,none⟩=some (.int .i64 (B.gi j (6+n)))from fun n hn'=>by
    rw[show off+j*89+6+n=off+j*89+(6+n) by omega]
    refine hpr (6+n) _ ((aI (B:=B) (k:=j) (j:=6+n) (by omega)).trans (ho.gi hlt (6+n) ?_))
    rcases(by omega:n=0∨n=1∨n=2∨n=3∨n=4∨n=5∨n=6∨n=7∨n=8)with rfl|rfl|rfl|rfl|rfl|rfl|rfl|rfl|rfl<;>rfl)
   have r78:=hD (lR hpr 78 (aD3 ((aI (B:=B) (k:=j) (j:=78) (by decide)).trans (ho.gi hlt 78 rfl)) ((aI (B:=B) (k:=j) (j:=79) (by decide)).trans (ho.gi hlt 79 rfl)) ((aI (B:=B) (k:=j) (j:=80) (by decide)).trans (ho.gi hlt 80 rfl)) ((aI (B:=B) (k:=j) (j:=81) (by decide)).trans (ho.gi hlt 81 rfl))))
   have r82:=hD (lR hpr 82 (aD3 ((aI (B:=B) (k:=j) (j:=82) (by decide)).trans (ho.gi hlt 82 rfl)) ((aI (B:=B) (k:=j) (j:=83) (by decide)).trans (ho.gi hlt 83 rfl)) ((aI (B:=B) (k:=j) (j:=84) (by decide)).trans (ho.gi hlt 84 rfl)) ((aI (B:=B) (k:=j) (j:=85) (by decide)).trans (ho.gi hlt 85 rfl))))
   have r64:=hD (lR hpr 64 (aD3 ((aI (B:=B) (k:=j) (j:=64) (by decide)).trans (ho.gi hlt 64 rfl)) ((aI (B:=B) (k:=j) (j:=65) (by decide)).trans (ho.gi hlt 65 rfl)) ((aI (B:=B) (k:=j) (j:=66) (by decide)).trans (ho.gi hlt 66 rfl)) ((aI (B:=B) (k:=j) (j:=67) (by decide)).trans (ho.gi hlt 67 rfl))))
   have HXR:=hD hxr
   have hbr:=hD (show b<wr.heap.size from nL (by simp;omega) hxr.size)
   clear hrw hpr hxr hc
   go_wp2_with fail
   refine(aBN b (off+j*89) (fun n=>B.gi j (6+n)) _ _ _ _ _ _ _ _ _ _ _ _ wr hbr.out hcl.out r78.out r82.out r64.out).mono ?_
   rintro e w3 ⟨f3,rfl,hx3,hf3⟩
   have HX3:=hD (HXR.out.trans hx3)
   have HF3:=hD hf3
   clear hx3 hf3
   cases f3
   ·go_wp2_with fail
    go_ret
    exact NO.out _ HX3.out (fun h=>absurd (HF3.out.2 ⟨(h.2 j hlt).1,(h.2 j hlt).2.1,(h.2 j hlt).2.2.1,(h.2 j hlt).2.2.2⟩) (by simp))
   ·go_wp2_with fail
    go_roundw
    case rel =>
     refine⟨j+1,by omega,by go_num,HX3.out,hD (fun n hn'=>?_)⟩
     by_cases e:n=j
     ·subst e
      exact HF3.out.1 trivial
     ·exact hall.out n (by omega)
    case measure=>simp[intOf];omega
  ·go_wp2_with fail
   go_ret
   exact⟨true,rfl,((Ext.refl w).alloc _).trans hxr,⟨fun _=>⟨HH.out,fun k hk=>hall.out k (by omega)⟩,fun _=>rfl⟩⟩
def aD4(B:Br)(k:Nat):Bool:=q9 (B.gb k 44) (B.gi k 87) (B.gi k 88) (B.gb k 47)
def xA(B:Br):Prop:=∀k,k<B.np→aD4 B k=true
def ReR(B:Br)(i:Int):Prop:=∀k:Nat,k<B.np→(k:Int)≠i→B.gi k 12=0
theorem qL(c:Array Value)(B:Br)(w:World)(hb:BrC w c B)(ho:B.ok):Calls Tryz.prog 150 #[.agg c] w (qT w (xA B)):=by
 obtain⟨s1,s2,s3,hz,hhd,c17,c18,c19,r1,-,-⟩:=hb.facts ho.hd.1
 obtain⟨a1,k1,rfl,m1,hrow⟩:=r1.form
 have HR:=hD hrow
 clear hz hhd hb r1 hrow c18 c19
 go_enter Tryz.func150,Tryz.ntmps150
 go_wp2_with fail
 go_loopw [7] (fun i wr=>∃j:Nat,j≤B.np∧i=.int .i64 j∧Ext (w.alloc (.cells c 35)) wr∧Hid (∀k,k<j→aD4 B k=true)) (fun i _=>B.np - (intOf i).toNat)
 case atStart=>exact⟨0,by omega,rfl,Ext.refl _,hD (fun k hk=>by omega)⟩
 case round =>
  obtain⟨j,hj,rfl,hxr,hall⟩:=hrel
  have hbx:=kM hxr
  by_cases hlt:j<B.np
  ·obtain ⟨b,off,rfl,hb,hlc,hcm,hc⟩:=HR.out (by omega)
   have hrw:=aQ (aQ hc ((Ext.refl w).alloc (.cells c 35)) hb) hxr (by simp;omega)
   have p44:=(cO hrw j 44 _ ((aI (B:=B) (k:=j) (j:=44) (by decide)).trans (ho.gb hlt 44 rfl)))
   have p87:=(cO hrw j 87 _ ((aI (B:=B) (k:=j) (j:=87) (by decide)).trans (ho.gi hlt 87 rfl)))
   have p88:=(cO hrw j 88 _ ((aI (B:=B) (k:=j) (j:=88) (by decide)).trans (ho.gi hlt 88 rfl)))
   have p47:=(cO hrw j 47 _ ((aI (B:=B) (k:=j) (j:=47) (by decide)).trans (ho.gb hlt 47 rfl)))
   have HS:=hD (wY b (off+j*89) _ _ _ _ wr p44 p87 p88 p47)
   have HXR:=hD hxr
   clear hrw hxr hc p44 p87 p88 p47
   go_wp2_with fail
   refine HS.out.mono ?_
   rintro e w3 ⟨rfl,hx3⟩
   have HX3:=hD (HXR.out.trans hx3)
   clear hx3 HS HXR
   obtain⟨f,hf⟩:∃f,q9 (B.gb j 44) (B.gi j 87) (B.gi j 88) (B.gb j 47)=f:=⟨_,rfl⟩
   rw[hf]
   have HF:=hD hf
   clear hf
   cases f
   ·go_wp2_with fail
    go_ret
    exact⟨false,rfl,((Ext.refl w).alloc _).trans HX3.out,⟨(fun h=>by cases h),(fun h=>absurd ((h j hlt).symm.trans HF.out) (by simp))⟩⟩
   ·go_wp2_with fail
    go_roundw
    case rel =>
     refine⟨j+1,by omega,by go_num,HX3.out,hD (fun n hn'=>?_)⟩
     by_cases e:n=j
     ·subst e
      exact HF.out
     ·exact hall.out n (by omega)
    case measure=>simp[intOf];omega
  ·go_wp2_with fail
   go_ret
   exact⟨true,rfl,((Ext.refl w).alloc _).trans hxr,⟨fun _=>fun k hk=>hall.out k (by omega),fun _=>rfl⟩⟩
theorem sN(c:Array Value)(B:Br)(i:Int)(w:World)(hb:BrC w c B)(ho:B.ok):Calls Tryz.prog 178 #[.agg c,.int .i64 i] w (qT w (ReR B i)):=by
 obtain⟨s1,s2,s3,hz,hhd,c17,c18,c19,r1,-,-⟩:=hb.facts ho.hd.1
 obtain⟨a1,k1,rfl,m1,hrow⟩:=r1.form
 have HR:=hD hrow
 clear hz hhd hb r1 hrow c18 c19
 go_enter Tryz.func178,Tryz.ntmps178
 go_wp2_with fail
 go_loopw [9] (fun v wr=>∃j:Nat,j≤B.np∧v=.int .i64 j∧Ext (w.alloc (.cells c 35)) wr∧Hid (∀k:Nat,k<j→(k:Int)≠i→B.gi k 12=0)) (fun v _=>B.np - (intOf v).toNat)
 case atStart=>exact⟨0,by omega,rfl,Ext.refl _,hD (fun k hk=>by omega)⟩
 case round =>
  obtain⟨j,hj,rfl,hxr,hall⟩:=hrel
  have hbx:=kM hxr
  by_cases hlt:j<B.np
  ·obtain ⟨b,off,rfl,hb,hlc,hcm,hc⟩:=HR.out (by omega)
   have hrw:=aQ (aQ hc ((Ext.refl w).alloc (.cells c 35)) hb) hxr (by simp;omega)
   have p12:=(cO hrw j 12 _ ((aI (B:=B) (k:=j) (j:=12) (by decide)).trans (ho.gi hlt 12 rfl)))
   have HXR:=hD hxr
   clear hrw hxr hc
   have step:Hid ((j:Int)≠i→B.gi j 12=0)→Hid (∀k:Nat,k<j+1→(k:Int)≠i→B.gi k 12=0):=fun h=>hD (fun k hk hne=>by
    by_cases e:k=j
    ·subst e;exact h.out hne
    ·exact hall.out k (by omega) hne)
   have STEP:=hD step
   clear step
   by_cases hji:(j:Int)=i
   ·have hb1:((j:Int) != i)=false:=by simpa using hji
    have HJ:=hD hji
    clear hji
    go_wp2_with fail
    go_roundw
    case rel=>exact⟨j+1,by omega,by go_num,HXR.out,STEP.out (hD (fun h=>absurd HJ.out h))⟩
    case measure=>simp[intOf];omega
   ·have hb1:((j:Int) != i)=true:=by simpa using hji
    have HJ:=hD hji
    clear hji
    by_cases h12:B.gi j 12=0
    ·rw[h12]at p12
     have H12:=hD h12
     clear h12
     go_wp2_with fail
     go_roundw
     case rel=>exact⟨j+1,by omega,by go_num,HXR.out,STEP.out (hD (fun h=>H12.out))⟩
     case measure=>simp[intOf];omega
    ·have hb2:(B.gi j 12 != 0)=true:=by simpa using h12
     have H12:=hD h12
     clear h12
     go_wp2_with fail
     go_ret
     exact⟨false,rfl,((Ext.refl w).alloc _).trans HXR.out,⟨(fun h=>by cases h),(fun h=>absurd (h j hlt HJ.out) H12.out)⟩⟩
  ·go_wp2_with fail
   go_ret
   exact⟨true,rfl,((Ext.refl w).alloc _).trans hxr,⟨fun _=>fun k hk hne=>hall.out k (by omega) hne,fun _=>rfl⟩⟩
def jS(B:Br)(k j:Nat):Br:=if 0<B.gi k (6+j)then B.setp k (6+j) (.int .i64 (B.gi k (6+j) - 1))else B
def eN(B:Br)(k:Nat):Nat→Br
 | 0=>B
 | j+1=>jS (eN B k j) k j
def eO(B:Br):Nat→Br
 | 0=>B
 | n+1=>eN (eO B n) n 9
def iE(B:Br):Br:=eO B B.np
theorem aGP(B:Br)(k j:Nat):(jS B k j).np=B.np:=by unfold jS;split<;>rfl
theorem aD5(j:Nat)(hj:j<9):PL[6+j]?=some (some .i64):=by
 rcases(by omega:j=0∨j=1∨j=2∨j=3∨j=4∨j=5∨j=6∨j=7∨j=8)with rfl|rfl|rfl|rfl|rfl|rfl|rfl|rfl|rfl<;>rfl
theorem aJE{n:Int}(h:(Lit.int .i64 n).wf=true)(h0:0<n):(Lit.int .i64 (n - 1)).wf=true:=by
 simp[Lit.wf,IntKind.min,IntKind.max,IntKind.signed,IntKind.bits]at h ⊢
 omega
theorem aGQ{B:Br}(ho:B.ok){k j:Nat}(hk:k<B.np)(hj:j<9):(jS B k j).ok:=by
 unfold jS
 split
 ·rename_i h
  exact ho.setI hk (6+j) .i64 _ (aD5 j hj) (aJE (ho.gw hk (6+j) (aD5 j hj)) h)
 ·exact ho
theorem kS(B:Br)(k:Nat):∀j,(eN B k j).np=B.np
 | 0=>rfl
 | j+1=>(aGP _ _ _).trans (kS B k j)
theorem mM{B:Br}(ho:B.ok){k:Nat}(hk:k<B.np):∀j,j≤9→(eN B k j).ok
 | 0,_=>ho
 | j+1,h=>aGQ (mM ho hk j (by omega)) (by rw[kS];exact hk) (by omega)
theorem jT(B:Br):∀n,(eO B n).np=B.np
 | 0=>rfl
 | n+1=>(kS _ _ _).trans (jT B n)
theorem mN{B:Br}(ho:B.ok):∀n,n≤B.np→(eO B n).ok
 | 0,_=>ho
 | n+1,h=>mM (mN ho n (by omega)) (by rw[jT];omega) 9 (Nat.le_refl _)
theorem aD6(w:World)(F:Nat→Prop)(X g:Nat)(B:Br)(h:BrG w F X g B)(ho:B.ok)(hn:B.np<1000):
    Calls Tryz.prog 28 #[.pointer (some ⟨X,0,none⟩)] w fun e w'=>e=.returned (.tuple #[])∧BrG w' F X g (iE B)∧Mut F w w':=by
 obtain⟨hX,hg,hne⟩:=h.lt
 obtain⟨cap,c17,hc1,hc2⟩:=h.cell17 ho
 have H:=hD h
 clear h
 go_enter Tryz.func28,Tryz.ntmps28
 go_wp2_with fail
 go_loopw [10] (fun v wr=>∃n:Nat,n≤B.np∧v=.int .i64 n∧BrG wr F X g (eO B n)∧Mut F w wr) (fun v _=>B.np - (intOf v).toNat)
 case atStart=>exact⟨0,by omega,rfl,H.out,Mut.refl F w⟩
 case round =>
  clear c17
  obtain⟨n,hn2,rfl,hB,hm⟩:=hrel
  have HB:=hD hB
  have HM:=hD hm
  clear hB hm
  by_cases hlt:n<B.np
  ·have okn:=mN ho n hn2
   obtain⟨cap2,c17,hc3,hc4⟩:=HB.out.cell17 okn
   rw[jT]at c17 hc3
   obtain⟨hX2,hg2,hne2⟩:=HB.out.lt
   have hkn:n<(eO B n).np:=by rw[jT];exact hlt
   go_wp2_with fail
   refine(zI g (n*89+6) _).mono ?_
   rintro e w2 ⟨rfl,hx2⟩
   have HB2:=hD (HB.out.ext hx2)
   have HM2:=hD (HM.out.trans (hx2.mut F))
   clear hx2 HB HM c17
   go_wp2_with fail
   go_loopw [21] (fun v wr=>∃j:Nat,j≤9∧v=.int .i64 j∧BrG wr F X g (eN (eO B n) n j)∧Mut F w wr) (fun v _=>9 - (intOf v).toNat)
   case atStart=>exact⟨0,by omega,rfl,HB2.out,HM2.out⟩
   case round =>
    clear HB2 HM2
    obtain⟨j,hj,rfl,hB,hm⟩:=hrel
    have HB:=hD hB
    have HM:=hD hm
    clear hB hm
    by_cases hjt:j<9
    ·have okj:=mM okn hkn j (by omega)
     have hkj:n<(eN (eO B n) n j).np:=by rw[kS];exact hkn
     have hix:=zH g (n*89+6) j hjt
     have pc:=(HB.out.cellg (i:=n*89+(6+j)) (bZ hkj (by omega))).trans (okj.gi hkj (6+j) (aD5 j hjt))
     rw[show n*89+(6+j)=n*89+6+j by omega]at pc
     have hfr:=HB.out.frozen
     have hwf:=aIZ (okj.gw hkj (6+j) (aD5 j hjt))
     have HE:=hD (show eN (eO B n) n (j+1)=jS (eN (eO B n) n j) n j from rfl)
     have HS:=hD (fun v=>HB.out.setp (k:=n) (j:=6+j) hkj (by omega) v)
     by_cases hpos:0<(eN (eO B n) n j).gi n (6+j)
     ·have HP:=hD hpos
      obtain⟨z,hz⟩:∃z,(eN (eO B n) n j).gi n (6+j)=z:=⟨_,rfl⟩
      rw[hz]at pc hwf hpos
      have HZ:=hD hz
      clear hz
      go_wp2_with fail
      go_roundw
      case rel =>
       refine⟨j+1,by omega,by go_num,?_,HM.out.setCell (.inl HB.out.F2) _⟩
       rw[HE.out]
       unfold jS
       rw[if_pos HP.out,HZ.out]
       have:=HS.out (.int .i64 (z - 1))
       rw[show n*89+(6+j)=n*89+6+j by omega]at this
       exact this
      case measure=>simp[intOf];omega
     ·have hneg:decide (0<(eN (eO B n) n j).gi n (6+j))=false:=by simpa using hpos
      have HP:=hD hpos
      obtain⟨z,hz⟩:∃z,(eN (eO B n) n j).gi n (6+j)=z:=⟨_,rfl⟩
      rw[hz]at pc hwf hpos hneg
      clear hz
      go_wp2_with fail
      go_roundw
      case rel =>
       refine⟨j+1,by omega,by go_num,?_,HM.out⟩
       rw[HE.out]
       unfold jS
       rw[if_neg HP.out]
       exact HB.out
      case measure=>simp[intOf];omega
    ·obtain rfl:j=9:=by omega
     go_wp2_with fail
     go_roundw
     case rel=>exact⟨n+1,by omega,by go_num,HB.out,HM.out⟩
     case measure=>simp[intOf];omega
  ·obtain rfl:n=B.np:=by omega
   go_wp2_with fail
   go_end0
   exact⟨rfl,HB.out,HM.out⟩
theorem aJF(c:Array Value)(B:Br)(k:Nat)(w:World)(hb:BrC w c B)(ho:B.ok)(hk:k<B.np)(hf:B.gb k 45=true):Calls Tryz.prog 176 #[.agg c,.int .i64 k] w fun e w'=>e=.returned (.int .i64 (B.hi 4))∧Ext w w':=by
 obtain⟨s1,s2,s3,hz,hhd,c17,c18,c19,r1,-,-⟩:=hb.facts ho.hd.1
 obtain⟨a1,k1,rfl,m1,hrow⟩:=r1.form
 have HR:=hD hrow
 have h3:=(hhd 3 (by decide)).trans (ho.hi 3 rfl)
 have h4:=(hhd 4 (by decide)).trans (ho.hi 4 rfl)
 have h5:=(hhd 5 (by decide)).trans (ho.hi 5 rfl)
 clear hz hhd hb r1 hrow c18 c19
 obtain⟨b,off,rfl,hb,hlc,hcm,hc⟩:=HR.out (by omega)
 have p:=cO hc k 45 _ ((aI (B:=B) (k:=k) (j:=45) (by decide)).trans (ho.gb hk 45 rfl))
 rw[hf]at p
 clear hc HR hf
 go_enter Tryz.func176,Tryz.ntmps176
 go_wp2_with fail
 go_ret
 exact⟨rfl,(Ext.refl w).alloc _⟩
theorem aJG(c:Array Value)(B:Br)(k:Nat)(w:World)(hb:BrC w c B)(ho:B.ok)(hk:k<B.np)(hf:B.gb k 45=false):Calls Tryz.prog 176 #[.agg c,.int .i64 k] w fun e w'=>e=.returned (.int .i64 (B.hi 5))∧Ext w w':=by
 obtain⟨s1,s2,s3,hz,hhd,c17,c18,c19,r1,-,-⟩:=hb.facts ho.hd.1
 obtain⟨a1,k1,rfl,m1,hrow⟩:=r1.form
 have HR:=hD hrow
 have h3:=(hhd 3 (by decide)).trans (ho.hi 3 rfl)
 have h4:=(hhd 4 (by decide)).trans (ho.hi 4 rfl)
 have h5:=(hhd 5 (by decide)).trans (ho.hi 5 rfl)
 clear hz hhd hb r1 hrow c18 c19
 obtain⟨b,off,rfl,hb,hlc,hcm,hc⟩:=HR.out (by omega)
 have p:=cO hc k 45 _ ((aI (B:=B) (k:=k) (j:=45) (by decide)).trans (ho.gb hk 45 rfl))
 rw[hf]at p
 clear hc HR hf
 go_enter Tryz.func176,Tryz.ntmps176
 go_wp2_with fail
 go_ret
 exact⟨rfl,(Ext.refl w).alloc _⟩
theorem aD7(c:Array Value)(B:Br)(k:Nat)(w:World)(hb:BrC w c B)(ho:B.ok)(hk:k<B.np):Calls Tryz.prog 176 #[.agg c,.int .i64 k] w fun e w'=>e=.returned (.int .i64 (if B.gb k 45=true then(B.hi 4)else(B.hi 5)))∧Ext w w':=by
 cases hf:B.gb k 45
 ·exact qS (aJG c B k w hb ho hk hf) (by simp)
 ·exact qS (aJF c B k w hb ho hk hf) (by simp)
theorem aGR(c:Array Value)(B:Br)(k:Nat)(w:World)(hb:BrC w c B)(ho:B.ok)(hk:k<B.np)(hf:B.gb k 3=true):Calls Tryz.prog 152 #[.agg c,.int .i64 k] w fun e w'=>e=.returned (.int .i64 (B.hi 3))∧Ext w w':=by
 obtain⟨s1,s2,s3,hz,hhd,c17,c18,c19,r1,-,-⟩:=hb.facts ho.hd.1
 obtain⟨a1,k1,rfl,m1,hrow⟩:=r1.form
 have HR:=hD hrow
 have h3:=(hhd 3 (by decide)).trans (ho.hi 3 rfl)
 have h4:=(hhd 4 (by decide)).trans (ho.hi 4 rfl)
 have h5:=(hhd 5 (by decide)).trans (ho.hi 5 rfl)
 clear hz hhd hb r1 hrow c18 c19
 obtain⟨b,off,rfl,hb,hlc,hcm,hc⟩:=HR.out (by omega)
 have p:=cO hc k 3 _ ((aI (B:=B) (k:=k) (j:=3) (by decide)).trans (ho.gb hk 3 rfl))
 rw[hf]at p
 clear hc HR hf
 go_enter Tryz.func152,Tryz.ntmps152
 go_wp2_with fail
 go_ret
 exact⟨rfl,(Ext.refl w).alloc _⟩
theorem aGS(c:Array Value)(B:Br)(k:Nat)(w:World)(hb:BrC w c B)(ho:B.ok)(hk:k<B.np)(hf:B.gb k 3=false):Calls Tryz.prog 152 #[.agg c,.int .i64 k] w fun e w'=>e=.returned (.int .i64 3)∧Ext w w':=by
 obtain⟨s1,s2,s3,hz,hhd,c17,c18,c19,r1,-,-⟩:=hb.facts ho.hd.1
 obtain⟨a1,k1,rfl,m1,hrow⟩:=r1.form
 have HR:=hD hrow
 have h3:=(hhd 3 (by decide)).trans (ho.hi 3 rfl)
 have h4:=(hhd 4 (by decide)).trans (ho.hi 4 rfl)
 have h5:=(hhd 5 (by decide)).trans (ho.hi 5 rfl)
 clear hz hhd hb r1 hrow c18 c19
 obtain⟨b,off,rfl,hb,hlc,hcm,hc⟩:=HR.out (by omega)
 have p:=cO hc k 3 _ ((aI (B:=B) (k:=k) (j:=3) (by decide)).trans (ho.gb hk 3 rfl))
 rw[hf]at p
 clear hc HR hf
 go_enter Tryz.func152,Tryz.ntmps152
 go_wp2_with fail
 go_ret
 exact⟨rfl,(Ext.refl w).alloc _⟩
theorem aBO(c:Array Value)(B:Br)(k:Nat)(w:World)(hb:BrC w c B)(ho:B.ok)(hk:k<B.np):Calls Tryz.prog 152 #[.agg c,.int .i64 k] w fun e w'=>e=.returned (.int .i64 (if B.gb k 3=true then(B.hi 3)else 3))∧Ext w w':=by
 cases hf:B.gb k 3
 ·exact qS (aGS c B k w hb ho hk hf) (by simp)
 ·exact qS (aGR c B k w hb ho hk hf) (by simp)
end Go.Proofs.YtpanapepcbbagaaGreat
