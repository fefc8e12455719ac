/- Part 23 of what BridgeRests stands on. No statement is proved here. -/
import Derived.ArgAppend
import Derived.Deep.RegionLawGrows
import Derived.Test.YtpanapepcbbagaaGreatBvq
import Derived.Test.YtpanapepcbbagaaGreatBvu
import Derived.Test.YtpanapepcbbagaaGreatBvv
set_option linter.unusedVariables false
set_option linter.unusedSimpArgs false
set_option maxRecDepth 100000
set_option maxHeartbeats 8000000
namespace Go.Proofs.YtpanapepcbbagaaGreat
open Go.RowKit Go.BigFrame Go.WideShapes Go.ChangeShapes Go.Deep
def pQ(P:Program)(c:Code)(Q:Exit→Act→World→Prop):Nat→Exit→Act→World→Prop
 | 0,.goto _,_,_=>False
 | n+1,.goto l,a,w=>∃rest,findLabel c l=some rest∧rest.wp P (pQ P c Q n) a w
 | _,e,a,w=>Q e a w
theorem xV{P:Program}{a:Act}{w:World}{Q:Exit→Act→World→Prop}{c:Code}(n:Nat)(h:c.wp P (pQ P c Q n) a w):(Code.scope c).wp P Q a w:=by
 intro b k cs
 have key:∀n (rest:Code) a w,rest.wp P (pQ P c Q n) a w→∃e a' w',Q e a' w'∧Arrives P (lone (b.at a (.code rest :: .inScope c :: k)) cs w) b k cs e a' w':=by
  intro n
  induction n with
  | zero =>
   intro rest a w h
   obtain⟨e,a₁,w₁,hq,harr⟩:=h b (.inScope c :: k) cs
   cases e with
   | normal=>exact⟨.normal,a₁,w₁,hq,Steps.trans harr (.one step_inScope)⟩
   | exit id=>exact⟨.exit id,a₁,w₁,hq,fun k' hk=>harr k' (by simp[exitTo,hk])⟩
   | goto l=>exact hq.elim
   | ret=>exact⟨_,a₁,w₁,hq,harr⟩
   | panic ch=>exact⟨_,a₁,w₁,hq,harr⟩
   | outgrown=>exact⟨_,a₁,w₁,hq,harr⟩
  | succ n ih =>
   intro rest a w h
   obtain⟨e,a₁,w₁,hq,harr⟩:=h b (.inScope c :: k) cs
   cases e with
   | normal=>exact⟨.normal,a₁,w₁,hq,Steps.trans harr (.one step_inScope)⟩
   | exit id=>exact⟨.exit id,a₁,w₁,hq,fun k' hk=>harr k' (by simp[exitTo,hk])⟩
   | goto l =>
    obtain⟨r2,hf,h2⟩:=hq
    obtain⟨e₂,a₂,w₂,hq₂,harr₂⟩:=ih r2 a₁ w₁ h2
    exact⟨e₂,a₂,w₂,hq₂,.of_steps (harr _ (by simp[gotoIn,hf])) harr₂⟩
   | ret=>exact⟨_,a₁,w₁,hq,harr⟩
   | panic ch=>exact⟨_,a₁,w₁,hq,harr⟩
   | outgrown=>exact⟨_,a₁,w₁,hq,harr⟩
 obtain⟨e,a₁,w₁,hq,harr⟩:=key n c a w h
 exact⟨e,a₁,w₁,hq,.of_steps (.one step_scope) harr⟩
theorem eK{P:Program}{a:Act}{w:World}{Q:Exit→Act→World→Prop}{c:Code}(n:Nat)(h:∀J,Hid (J=pQ P c Q n)→c.wp P J a w):(Code.scope c).wp P Q a w :=
 xV n (h _ (hD rfl))
theorem gL{P:Program}{a:Act}{w:World}{Q:Exit→Act→World→Prop}{c rest:Code}{n l:Nat}{J:Exit→Act→World→Prop}(hJ:Hid (J=pQ P c Q (n+1)))(hf:findLabel c l=some rest)(h:∀J',Hid (J'=pQ P c Q n)→rest.wp P J' a w):J (.goto l) a w:=by
 rw[hJ.out]
 exact⟨rest,hf,h _ (hD rfl)⟩
theorem fO{P:Program}{a:Act}{w:World}{Q:Exit→Act→World→Prop}{c:Code}{n:Nat}{J:Exit→Act→World→Prop}(hJ:Hid (J=pQ P c Q n))(h:Q .ret a w):J .ret a w:=by
 rw[hJ.out]
 cases n<;>exact h
def gM(B:Br)(k:Nat):Br:=(if(B.gi k 87 == 4 || (B.gi k 87 == 3 && B.gi k 13 != 0))=true then B.setp k 31 (.bool true)else B).setp k 8 (.int .i64 (B.hi 4))
def kE(B:Br)(k:Nat):Br:=(dZ B k (iA (B.gb k 45) (B.gi k 87))).setp k 8 (.int .i64 (B.hi 4))
def kV(B:Br)(k:Nat):Nat :=
 if(!B.gb k 44 || B.gb k 50)=true then 0 else if B.gi k 8=0 then 1 else if(fR (B.gb k 45) (B.gi k 87) && B.gb k 31 && decide (B.gi k 14<B.hi 6))=true then 2 else 0
def wC(B:Br)(k:Nat):Bool × Br:=if kV B k=1 then(true,gM B k)else if kV B k=2 then(true,kE B k)else(false,B)
theorem rI(B:Br)(k:Nat)(kind:Int):(dZ B k kind).np=B.np:=by unfold dZ;split<;>rfl
theorem aB6(B:Br)(k:Nat)(kind:Int):(dZ B k kind).hd=B.hd:=by unfold dZ;split<;>rfl
theorem rJ{B:Br}(ho:B.ok){k:Nat}(hk:k<B.np)(hk8:k<1000)(kind:Int)(h14:0≤B.gi k 14∧B.gi k 14≤100000):(dZ B k kind).ok:=by
 have hs:=zO ho hk hk8 kind
 have hw:(Lit.int .i64 (B.gi k 14+1)).wf=true:=by
  simp[Lit.wf,IntKind.min,IntKind.max,IntKind.signed,IntKind.bits]
  omega
 unfold dZ
 split
 ·exact(hs.setB (k:=k) hk 31 false rfl).setI (k:=k) hk 14 .i64 _ rfl hw
 ·exact((hs.setB (k:=k) hk 31 false rfl).setB (k:=k) hk 48 false rfl).setI (k:=k) hk 14 .i64 _ rfl hw
theorem aLC(w:World)(N:Nat→Prop)(X g k:Nat)(B:Br)(h:BrG w (fun n=>N n∧n<w.heap.size) X g B)(ho:B.ok)(hk:k<B.np)(hn:B.np<1000)(h44:B.gb k 44=false):
    Calls Tryz.prog 44 #[.pointer (some ⟨X,0,none⟩),.int .i64 k] w (fun e w'=>e=.returned (.bool false)∧BrG w' (fun n=>N n∧n<w'.heap.size) X g (B)∧Mut (fun n=>N n) w w'):=by
 obtain⟨hX,hg,hne⟩:=h.lt
 obtain⟨cap,c17,hc1,hc2⟩:=h.cell17 ho
 have p44:=qb h ho hk 44
 have p50:=qb h ho hk 50
 have p45:=qb h ho hk 45
 have p87:=qi h ho hk 87 rfl
 have p8:=qi h ho hk 8 rfl
 have p31:=qb h ho hk 31
 have p14:=qi h ho hk 14 rfl
 have p13:=qi h ho hk 13 rfl
 have q4:=(h.cellX ho (i:=4) (by omega)).trans (ho.hi 4 rfl)
 have q6:=(h.cellX ho (i:=6) (by omega)).trans (ho.hi 6 rfl)
 rw[h44]at p44
 have hF1:=h.F1
 have hF2:=h.F2
 have hfr:=h.frozen
 have H:=hD h
 clear h
 have HK:=hD (gW g (k*89) _ _ w p45 p87)
 go_enter Tryz.func44,Tryz.ntmps44
 go_wp2_with fail
 refine eK 3 (fun J0 hJ0=>?_)
 go_wp2_with fail
 refine HK.out.mono ?_
 rintro e w1 ⟨rfl,hx1⟩
 have HX1:=hD hx1
 clear HK
 have r44:=xc hx1 hg p44
 have r50:=xc hx1 hg p50
 have r45:=xc hx1 hg p45
 have r87:=xc hx1 hg p87
 have r8:=xc hx1 hg p8
 have r31:=xc hx1 hg p31
 have r14:=xc hx1 hg p14
 have r13:=xc hx1 hg p13
 have s4:=xc hx1 hX q4
 have s6:=xc hx1 hX q6
 have d17:=xc hx1 hX c17
 have hgr:∀j,w1.frozen? ⟨g,j,none⟩=false:=fun j=>(H.out.ext hx1).frozen j
 clear hx1 c17 hfr q4 q6 p44 p50 p45 p87 p8 p31 p14 p13
 go_wp2_with fail
 refine fO hJ0 ?_
 go_ret
 exact⟨rfl,(H.out.ext HX1.out).mono (fun n hn=>⟨hn.1,nL hn.2 (Below.size HX1.out)⟩),(Ext.mut HX1.out _)⟩
theorem aJO(w:World)(N:Nat→Prop)(X g k:Nat)(B:Br)(h:BrG w (fun n=>N n∧n<w.heap.size) X g B)(ho:B.ok)(hk:k<B.np)(hn:B.np<1000)(h44:B.gb k 44=true)(h50:B.gb k 50=true):
    Calls Tryz.prog 44 #[.pointer (some ⟨X,0,none⟩),.int .i64 k] w (fun e w'=>e=.returned (.bool false)∧BrG w' (fun n=>N n∧n<w'.heap.size) X g (B)∧Mut (fun n=>N n) w w'):=by
 obtain⟨hX,hg,hne⟩:=h.lt
 obtain⟨cap,c17,hc1,hc2⟩:=h.cell17 ho
 have p44:=qb h ho hk 44
 have p50:=qb h ho hk 50
 have p45:=qb h ho hk 45
 have p87:=qi h ho hk 87 rfl
 have p8:=qi h ho hk 8 rfl
 have p31:=qb h ho hk 31
 have p14:=qi h ho hk 14 rfl
 have p13:=qi h ho hk 13 rfl
 have q4:=(h.cellX ho (i:=4) (by omega)).trans (ho.hi 4 rfl)
 have q6:=(h.cellX ho (i:=6) (by omega)).trans (ho.hi 6 rfl)
 rw[h44]at p44
 rw[h50]at p50
 have hF1:=h.F1
 have hF2:=h.F2
 have hfr:=h.frozen
 have H:=hD h
 clear h
 have HK:=hD (gW g (k*89) _ _ w p45 p87)
 go_enter Tryz.func44,Tryz.ntmps44
 go_wp2_with fail
 refine eK 3 (fun J0 hJ0=>?_)
 go_wp2_with fail
 refine HK.out.mono ?_
 rintro e w1 ⟨rfl,hx1⟩
 have HX1:=hD hx1
 clear HK
 have r44:=xc hx1 hg p44
 have r50:=xc hx1 hg p50
 have r45:=xc hx1 hg p45
 have r87:=xc hx1 hg p87
 have r8:=xc hx1 hg p8
 have r31:=xc hx1 hg p31
 have r14:=xc hx1 hg p14
 have r13:=xc hx1 hg p13
 have s4:=xc hx1 hX q4
 have s6:=xc hx1 hX q6
 have d17:=xc hx1 hX c17
 have hgr:∀j,w1.frozen? ⟨g,j,none⟩=false:=fun j=>(H.out.ext hx1).frozen j
 clear hx1 c17 hfr q4 q6 p44 p50 p45 p87 p8 p31 p14 p13
 go_wp2_with fail
 refine fO hJ0 ?_
 go_ret
 exact⟨rfl,(H.out.ext HX1.out).mono (fun n hn=>⟨hn.1,nL hn.2 (Below.size HX1.out)⟩),(Ext.mut HX1.out _)⟩
theorem aLD(w:World)(N:Nat→Prop)(X g k:Nat)(B:Br)(h:BrG w (fun n=>N n∧n<w.heap.size) X g B)(ho:B.ok)(hk:k<B.np)(hn:B.np<1000)(h44:B.gb k 44=true)(h50:B.gb k 50=false)(h8:B.gi k 8=0)(h87:B.gi k 87=4):
    Calls Tryz.prog 44 #[.pointer (some ⟨X,0,none⟩),.int .i64 k] w (fun e w'=>e=.returned (.bool true)∧BrG w' (fun n=>N n∧n<w'.heap.size) X g (((B.setp k 31 (.bool true)).setp k 8 (.int .i64 (B.hi 4))))∧Mut (fun n=>N n) w w'):=by
 obtain⟨hX,hg,hne⟩:=h.lt
 obtain⟨cap,c17,hc1,hc2⟩:=h.cell17 ho
 have p44:=qb h ho hk 44
 have p50:=qb h ho hk 50
 have p45:=qb h ho hk 45
 have p87:=qi h ho hk 87 rfl
 have p8:=qi h ho hk 8 rfl
 have p31:=qb h ho hk 31
 have p14:=qi h ho hk 14 rfl
 have p13:=qi h ho hk 13 rfl
 have q4:=(h.cellX ho (i:=4) (by omega)).trans (ho.hi 4 rfl)
 have q6:=(h.cellX ho (i:=6) (by omega)).trans (ho.hi 6 rfl)
 rw[h44]at p44
 rw[h50]at p50
 rw[h8]at p8
 rw[h87]at p87
 have hF1:=h.F1
 have hF2:=h.F2
 have hfr:=h.frozen
 have H:=hD h
 clear h
 have HK:=hD (gW g (k*89) _ _ w p45 p87)
 go_enter Tryz.func44,Tryz.ntmps44
 go_wp2_with fail
 refine eK 3 (fun J0 hJ0=>?_)
 go_wp2_with fail
 refine HK.out.mono ?_
 rintro e w1 ⟨rfl,hx1⟩
 have HX1:=hD hx1
 clear HK
 have r44:=xc hx1 hg p44
 have r50:=xc hx1 hg p50
 have r45:=xc hx1 hg p45
 have r87:=xc hx1 hg p87
 have r8:=xc hx1 hg p8
 have r31:=xc hx1 hg p31
 have r14:=xc hx1 hg p14
 have r13:=xc hx1 hg p13
 have s4:=xc hx1 hX q4
 have s6:=xc hx1 hX q6
 have d17:=xc hx1 hX c17
 have hgr:∀j,w1.frozen? ⟨g,j,none⟩=false:=fun j=>(H.out.ext hx1).frozen j
 clear hx1 c17 hfr q4 q6 p44 p50 p45 p87 p8 p31 p14 p13
 go_wp2_with fail
 try go_step3
 show J0 (Exit.goto 0) _ _
 refine gL hJ0 rfl (fun J1 hJ1=>?_)
 clear hJ0
 go_wp2_with fail
 try go_step3
 show J1 (Exit.goto 2) _ _
 refine gL hJ1 rfl (fun J2 hJ2=>?_)
 clear hJ1
 go_wp2_with fail
 have hfin:=(((H.out.ext HX1.out).setp (k:=k) (j:=31) hk (by decide) (.bool true)).setp (k:=k) (j:=8) hk (by decide) (.int .i64 (B.hi 4)))
 have hmut:=((((Ext.mut HX1.out (fun n=>N n∧n<w.heap.size))).setCell (p:=⟨g,k*89+31,none⟩) (.inl hF2) (.bool true)).setCell (p:=⟨g,k*89+8,none⟩) (.inl hF2) (.int .i64 (B.hi 4)))
 refine fO hJ2 ?_
 go_ret
 exact⟨rfl,hfin.mono (fun n hn=>⟨hn.1,by simp only[World.size_setCell];exact nL hn.2 (Below.size HX1.out)⟩),hmut.mono (fun n _ hn=>hn.1)⟩
theorem aJP(w:World)(N:Nat→Prop)(X g k:Nat)(B:Br)(h:BrG w (fun n=>N n∧n<w.heap.size) X g B)(ho:B.ok)(hk:k<B.np)(hn:B.np<1000)(h44:B.gb k 44=true)(h50:B.gb k 50=false)(h8:B.gi k 8=0)(h87:B.gi k 87=3)(h13:(B.gi k 13 != 0)=true):
    Calls Tryz.prog 44 #[.pointer (some ⟨X,0,none⟩),.int .i64 k] w (fun e w'=>e=.returned (.bool true)∧BrG w' (fun n=>N n∧n<w'.heap.size) X g (((B.setp k 31 (.bool true)).setp k 8 (.int .i64 (B.hi 4))))∧Mut (fun n=>N n) w w'):=by
 obtain⟨hX,hg,hne⟩:=h.lt
 obtain⟨cap,c17,hc1,hc2⟩:=h.cell17 ho
 have p44:=qb h ho hk 44
 have p50:=qb h ho hk 50
 have p45:=qb h ho hk 45
 have p87:=qi h ho hk 87 rfl
 have p8:=qi h ho hk 8 rfl
 have p31:=qb h ho hk 31
 have p14:=qi h ho hk 14 rfl
 have p13:=qi h ho hk 13 rfl
 have q4:=(h.cellX ho (i:=4) (by omega)).trans (ho.hi 4 rfl)
 have q6:=(h.cellX ho (i:=6) (by omega)).trans (ho.hi 6 rfl)
 rw[h44]at p44
 rw[h50]at p50
 rw[h8]at p8
 rw[h87]at p87
 have hF1:=h.F1
 have hF2:=h.F2
 have hfr:=h.frozen
 have H:=hD h
 clear h
 have HK:=hD (gW g (k*89) _ _ w p45 p87)
 go_enter Tryz.func44,Tryz.ntmps44
 go_wp2_with fail
 refine eK 3 (fun J0 hJ0=>?_)
 go_wp2_with fail
 refine HK.out.mono ?_
 rintro e w1 ⟨rfl,hx1⟩
 have HX1:=hD hx1
 clear HK
 have r44:=xc hx1 hg p44
 have r50:=xc hx1 hg p50
 have r45:=xc hx1 hg p45
 have r87:=xc hx1 hg p87
 have r8:=xc hx1 hg p8
 have r31:=xc hx1 hg p31
 have r14:=xc hx1 hg p14
 have r13:=xc hx1 hg p13
 have s4:=xc hx1 hX q4
 have s6:=xc hx1 hX q6
 have d17:=xc hx1 hX c17
 have hgr:∀j,w1.frozen? ⟨g,j,none⟩=false:=fun j=>(H.out.ext hx1).frozen j
 clear hx1 c17 hfr q4 q6 p44 p50 p45 p87 p8 p31 p14 p13
 go_wp2_with fail
 try go_step3
 show J0 (Exit.goto 0) _ _
 refine gL hJ0 rfl (fun J1 hJ1=>?_)
 clear hJ0
 go_wp2_with fail
 try go_step3
 show J1 (Exit.goto 2) _ _
 refine gL hJ1 rfl (fun J2 hJ2=>?_)
 clear hJ1
 go_wp2_with fail
 have hfin:=(((H.out.ext HX1.out).setp (k:=k) (j:=31) hk (by decide) (.bool true)).setp (k:=k) (j:=8) hk (by decide) (.int .i64 (B.hi 4)))
 have hmut:=((((Ext.mut HX1.out (fun n=>N n∧n<w.heap.size))).setCell (p:=⟨g,k*89+31,none⟩) (.inl hF2) (.bool true)).setCell (p:=⟨g,k*89+8,none⟩) (.inl hF2) (.int .i64 (B.hi 4)))
 refine fO hJ2 ?_
 go_ret
 exact⟨rfl,hfin.mono (fun n hn=>⟨hn.1,by simp only[World.size_setCell];exact nL hn.2 (Below.size HX1.out)⟩),hmut.mono (fun n _ hn=>hn.1)⟩
theorem aJQ(w:World)(N:Nat→Prop)(X g k:Nat)(B:Br)(h:BrG w (fun n=>N n∧n<w.heap.size) X g B)(ho:B.ok)(hk:k<B.np)(hn:B.np<1000)(h44:B.gb k 44=true)(h50:B.gb k 50=false)(h8:B.gi k 8=0)(h87:B.gi k 87=3)(h13:B.gi k 13=0):
    Calls Tryz.prog 44 #[.pointer (some ⟨X,0,none⟩),.int .i64 k] w (fun e w'=>e=.returned (.bool true)∧BrG w' (fun n=>N n∧n<w'.heap.size) X g ((B.setp k 8 (.int .i64 (B.hi 4))))∧Mut (fun n=>N n) w w'):=by
 obtain⟨hX,hg,hne⟩:=h.lt
 obtain⟨cap,c17,hc1,hc2⟩:=h.cell17 ho
 have p44:=qb h ho hk 44
 have p50:=qb h ho hk 50
 have p45:=qb h ho hk 45
 have p87:=qi h ho hk 87 rfl
 have p8:=qi h ho hk 8 rfl
 have p31:=qb h ho hk 31
 have p14:=qi h ho hk 14 rfl
 have p13:=qi h ho hk 13 rfl
 have q4:=(h.cellX ho (i:=4) (by omega)).trans (ho.hi 4 rfl)
 have q6:=(h.cellX ho (i:=6) (by omega)).trans (ho.hi 6 rfl)
 rw[h44]at p44
 rw[h50]at p50
 rw[h8]at p8
 rw[h87]at p87
 rw[h13]at p13
 have hF1:=h.F1
 have hF2:=h.F2
 have hfr:=h.frozen
 have H:=hD h
 clear h
 have HK:=hD (gW g (k*89) _ _ w p45 p87)
 go_enter Tryz.func44,Tryz.ntmps44
 go_wp2_with fail
 refine eK 3 (fun J0 hJ0=>?_)
 go_wp2_with fail
 refine HK.out.mono ?_
 rintro e w1 ⟨rfl,hx1⟩
 have HX1:=hD hx1
 clear HK
 have r44:=xc hx1 hg p44
 have r50:=xc hx1 hg p50
 have r45:=xc hx1 hg p45
 have r87:=xc hx1 hg p87
 have r8:=xc hx1 hg p8
 have r31:=xc hx1 hg p31
 have r14:=xc hx1 hg p14
 have r13:=xc hx1 hg p13
 have s4:=xc hx1 hX q4
 have s6:=xc hx1 hX q6
 have d17:=xc hx1 hX c17
 have hgr:∀j,w1.frozen? ⟨g,j,none⟩=false:=fun j=>(H.out.ext hx1).frozen j
 clear hx1 c17 hfr q4 q6 p44 p50 p45 p87 p8 p31 p14 p13
 go_wp2_with fail
 try go_step3
 show J0 (Exit.goto 0) _ _
 refine gL hJ0 rfl (fun J1 hJ1=>?_)
 clear hJ0
 go_wp2_with fail
 try go_step3
 show J1 (Exit.goto 2) _ _
 refine gL hJ1 rfl (fun J2 hJ2=>?_)
 clear hJ1
 go_wp2_with fail
 have hfin:=((H.out.ext HX1.out).setp (k:=k) (j:=8) hk (by decide) (.int .i64 (B.hi 4)))
 have hmut:=(((Ext.mut HX1.out (fun n=>N n∧n<w.heap.size))).setCell (p:=⟨g,k*89+8,none⟩) (.inl hF2) (.int .i64 (B.hi 4)))
 refine fO hJ2 ?_
 go_ret
 exact⟨rfl,hfin.mono (fun n hn=>⟨hn.1,by simp only[World.size_setCell];exact nL hn.2 (Below.size HX1.out)⟩),hmut.mono (fun n _ hn=>hn.1)⟩
theorem aLE(w:World)(N:Nat→Prop)(X g k:Nat)(B:Br)(h:BrG w (fun n=>N n∧n<w.heap.size) X g B)(ho:B.ok)(hk:k<B.np)(hn:B.np<1000)(h44:B.gb k 44=true)(h50:B.gb k 50=false)(h8:B.gi k 8=0)(n4:(B.gi k 87 == 4)=false)(n3:(B.gi k 87 == 3)=false):
    Calls Tryz.prog 44 #[.pointer (some ⟨X,0,none⟩),.int .i64 k] w (fun e w'=>e=.returned (.bool true)∧BrG w' (fun n=>N n∧n<w'.heap.size) X g ((B.setp k 8 (.int .i64 (B.hi 4))))∧Mut (fun n=>N n) w w'):=by
 obtain⟨hX,hg,hne⟩:=h.lt
 obtain⟨cap,c17,hc1,hc2⟩:=h.cell17 ho
 have p44:=qb h ho hk 44
 have p50:=qb h ho hk 50
 have p45:=qb h ho hk 45
 have p87:=qi h ho hk 87 rfl
 have p8:=qi h ho hk 8 rfl
 have p31:=qb h ho hk 31
 have p14:=qi h ho hk 14 rfl
 have p13:=qi h ho hk 13 rfl
 have q4:=(h.cellX ho (i:=4) (by omega)).trans (ho.hi 4 rfl)
 have q6:=(h.cellX ho (i:=6) (by omega)).trans (ho.hi 6 rfl)
 rw[h44]at p44
 rw[h50]at p50
 rw[h8]at p8
 have hF1:=h.F1
 have hF2:=h.F2
 have hfr:=h.frozen
 have H:=hD h
 clear h
 have HK:=hD (gW g (k*89) _ _ w p45 p87)
 go_enter Tryz.func44,Tryz.ntmps44
 go_wp2_with fail
 refine eK 3 (fun J0 hJ0=>?_)
 go_wp2_with fail
 refine HK.out.mono ?_
 rintro e w1 ⟨rfl,hx1⟩
 have HX1:=hD hx1
 clear HK
 have r44:=xc hx1 hg p44
 have r50:=xc hx1 hg p50
 have r45:=xc hx1 hg p45
 have r87:=xc hx1 hg p87
 have r8:=xc hx1 hg p8
 have r31:=xc hx1 hg p31
 have r14:=xc hx1 hg p14
 have r13:=xc hx1 hg p13
 have s4:=xc hx1 hX q4
 have s6:=xc hx1 hX q6
 have d17:=xc hx1 hX c17
 have hgr:∀j,w1.frozen? ⟨g,j,none⟩=false:=fun j=>(H.out.ext hx1).frozen j
 clear hx1 c17 hfr q4 q6 p44 p50 p45 p87 p8 p31 p14 p13
 go_wp2_with fail
 try go_step3
 show J0 (Exit.goto 0) _ _
 refine gL hJ0 rfl (fun J1 hJ1=>?_)
 clear hJ0
 go_wp2_with fail
 try go_step3
 show J1 (Exit.goto 2) _ _
 refine gL hJ1 rfl (fun J2 hJ2=>?_)
 clear hJ1
 go_wp2_with fail
 have hfin:=((H.out.ext HX1.out).setp (k:=k) (j:=8) hk (by decide) (.int .i64 (B.hi 4)))
 have hmut:=(((Ext.mut HX1.out (fun n=>N n∧n<w.heap.size))).setCell (p:=⟨g,k*89+8,none⟩) (.inl hF2) (.int .i64 (B.hi 4)))
 refine fO hJ2 ?_
 go_ret
 exact⟨rfl,hfin.mono (fun n hn=>⟨hn.1,by simp only[World.size_setCell];exact nL hn.2 (Below.size HX1.out)⟩),hmut.mono (fun n _ hn=>hn.1)⟩
theorem aLF(w:World)(N:Nat→Prop)(X g k:Nat)(B:Br)(h:BrG w (fun n=>N n∧n<w.heap.size) X g B)(ho:B.ok)(hk:k<B.np)(hn:B.np<1000)(h44:B.gb k 44=true)(h50:B.gb k 50=false)(n8:(B.gi k 8 == 0)=false)(ht:fR (B.gb k 45) (B.gi k 87)=false):
    Calls Tryz.prog 44 #[.pointer (some ⟨X,0,none⟩),.int .i64 k] w (fun e w'=>e=.returned (.bool false)∧BrG w' (fun n=>N n∧n<w'.heap.size) X g (B)∧Mut (fun n=>N n) w w'):=by
 obtain⟨hX,hg,hne⟩:=h.lt
 obtain⟨cap,c17,hc1,hc2⟩:=h.cell17 ho
 have p44:=qb h ho hk 44
 have p50:=qb h ho hk 50
 have p45:=qb h ho hk 45
 have p87:=qi h ho hk 87 rfl
 have p8:=qi h ho hk 8 rfl
 have p31:=qb h ho hk 31
 have p14:=qi h ho hk 14 rfl
 have p13:=qi h ho hk 13 rfl
 have q4:=(h.cellX ho (i:=4) (by omega)).trans (ho.hi 4 rfl)
 have q6:=(h.cellX ho (i:=6) (by omega)).trans (ho.hi 6 rfl)
 rw[h44]at p44
 rw[h50]at p50
 have hF1:=h.F1
 have hF2:=h.F2
 have hfr:=h.frozen
 have H:=hD h
 clear h
 have HK0:=gW g (k*89) _ _ w p45 p87
 rw[ht]at HK0
 have HK:=hD HK0
 clear HK0 ht
 go_enter Tryz.func44,Tryz.ntmps44
 go_wp2_with fail
 refine eK 3 (fun J0 hJ0=>?_)
 go_wp2_with fail
 refine HK.out.mono ?_
 rintro e w1 ⟨rfl,hx1⟩
 have HX1:=hD hx1
 clear HK
 have r44:=xc hx1 hg p44
 have r50:=xc hx1 hg p50
 have r45:=xc hx1 hg p45
 have r87:=xc hx1 hg p87
 have r8:=xc hx1 hg p8
 have r31:=xc hx1 hg p31
 have r14:=xc hx1 hg p14
 have r13:=xc hx1 hg p13
 have s4:=xc hx1 hX q4
 have s6:=xc hx1 hX q6
 have d17:=xc hx1 hX c17
 have hgr:∀j,w1.frozen? ⟨g,j,none⟩=false:=fun j=>(H.out.ext hx1).frozen j
 clear hx1 c17 hfr q4 q6 p44 p50 p45 p87 p8 p31 p14 p13
 go_wp2_with fail
 go_quiet (fail)
 go_wp2_with fail
 refine fO hJ0 ?_
 go_ret
 exact⟨rfl,(H.out.ext ((Ext.trans HX1.out ((Ext.refl _).drewN _)))).mono (fun n hn=>⟨hn.1,nL hn.2 (Below.size (Ext.trans HX1.out ((Ext.refl _).drewN _)))⟩),(Ext.mut (Ext.trans HX1.out ((Ext.refl _).drewN _)) _)⟩
theorem aLG(w:World)(N:Nat→Prop)(X g k:Nat)(B:Br)(h:BrG w (fun n=>N n∧n<w.heap.size) X g B)(ho:B.ok)(hk:k<B.np)(hn:B.np<1000)(h44:B.gb k 44=true)(h50:B.gb k 50=false)(n8:(B.gi k 8 == 0)=false)(ht:fR (B.gb k 45) (B.gi k 87)=true)(h31:B.gb k 31=false):
    Calls Tryz.prog 44 #[.pointer (some ⟨X,0,none⟩),.int .i64 k] w (fun e w'=>e=.returned (.bool false)∧BrG w' (fun n=>N n∧n<w'.heap.size) X g (B)∧Mut (fun n=>N n) w w'):=by
 obtain⟨hX,hg,hne⟩:=h.lt
 obtain⟨cap,c17,hc1,hc2⟩:=h.cell17 ho
 have p44:=qb h ho hk 44
 have p50:=qb h ho hk 50
 have p45:=qb h ho hk 45
 have p87:=qi h ho hk 87 rfl
 have p8:=qi h ho hk 8 rfl
 have p31:=qb h ho hk 31
 have p14:=qi h ho hk 14 rfl
 have p13:=qi h ho hk 13 rfl
 have q4:=(h.cellX ho (i:=4) (by omega)).trans (ho.hi 4 rfl)
 have q6:=(h.cellX ho (i:=6) (by omega)).trans (ho.hi 6 rfl)
 rw[h44]at p44
 rw[h50]at p50
 rw[h31]at p31
 have hF1:=h.F1
 have hF2:=h.F2
 have hfr:=h.frozen
 have H:=hD h
 clear h
 have HK0:=gW g (k*89) _ _ w p45 p87
 rw[ht]at HK0
 have HK:=hD HK0
 clear HK0 ht
 go_enter Tryz.func44,Tryz.ntmps44
 go_wp2_with fail
 refine eK 3 (fun J0 hJ0=>?_)
 go_wp2_with fail
 refine HK.out.mono ?_
 rintro e w1 ⟨rfl,hx1⟩
 have HX1:=hD hx1
 clear HK
 have r44:=xc hx1 hg p44
 have r50:=xc hx1 hg p50
 have r45:=xc hx1 hg p45
 have r87:=xc hx1 hg p87
 have r8:=xc hx1 hg p8
 have r31:=xc hx1 hg p31
 have r14:=xc hx1 hg p14
 have r13:=xc hx1 hg p13
 have s4:=xc hx1 hX q4
 have s6:=xc hx1 hX q6
 have d17:=xc hx1 hX c17
 have hgr:∀j,w1.frozen? ⟨g,j,none⟩=false:=fun j=>(H.out.ext hx1).frozen j
 clear hx1 c17 hfr q4 q6 p44 p50 p45 p87 p8 p31 p14 p13
 go_wp2_with fail
 go_quiet (fail)
 go_wp2_with fail
 refine fO hJ0 ?_
 go_ret
 exact⟨rfl,(H.out.ext ((Ext.trans HX1.out ((Ext.refl _).drewN _)))).mono (fun n hn=>⟨hn.1,nL hn.2 (Below.size (Ext.trans HX1.out ((Ext.refl _).drewN _)))⟩),(Ext.mut (Ext.trans HX1.out ((Ext.refl _).drewN _)) _)⟩
theorem aLH(w:World)(N:Nat→Prop)(X g k:Nat)(B:Br)(h:BrG w (fun n=>N n∧n<w.heap.size) X g B)(ho:B.ok)(hk:k<B.np)(hn:B.np<1000)(h44:B.gb k 44=true)(h50:B.gb k 50=false)(n8:(B.gi k 8 == 0)=false)(ht:fR (B.gb k 45) (B.gi k 87)=true)(h31:B.gb k 31=true)(hlt:¬B.gi k 14<B.hi 6):
    Calls Tryz.prog 44 #[.pointer (some ⟨X,0,none⟩),.int .i64 k] w (fun e w'=>e=.returned (.bool false)∧BrG w' (fun n=>N n∧n<w'.heap.size) X g (B)∧Mut (fun n=>N n) w w'):=by
 obtain⟨hX,hg,hne⟩:=h.lt
 obtain⟨cap,c17,hc1,hc2⟩:=h.cell17 ho
 have p44:=qb h ho hk 44
 have p50:=qb h ho hk 50
 have p45:=qb h ho hk 45
 have p87:=qi h ho hk 87 rfl
 have p8:=qi h ho hk 8 rfl
 have p31:=qb h ho hk 31
 have p14:=qi h ho hk 14 rfl
 have p13:=qi h ho hk 13 rfl
 have q4:=(h.cellX ho (i:=4) (by omega)).trans (ho.hi 4 rfl)
 have q6:=(h.cellX ho (i:=6) (by omega)).trans (ho.hi 6 rfl)
 rw[h44]at p44
 rw[h50]at p50
 rw[h31]at p31
 have hF1:=h.F1
 have hF2:=h.F2
 have hfr:=h.frozen
 have H:=hD h
 clear h
 have HK0:=gW g (k*89) _ _ w p45 p87
 rw[ht]at HK0
 have HK:=hD HK0
 clear HK0 ht
 have hlt2:decide (B.gi k 14<B.hi 6)=false:=by simpa using hlt
 go_enter Tryz.func44,Tryz.ntmps44
 go_wp2_with fail
 refine eK 3 (fun J0 hJ0=>?_)
 go_wp2_with fail
 refine HK.out.mono ?_
 rintro e w1 ⟨rfl,hx1⟩
 have HX1:=hD hx1
 clear HK
 have r44:=xc hx1 hg p44
 have r50:=xc hx1 hg p50
 have r45:=xc hx1 hg p45
 have r87:=xc hx1 hg p87
 have r8:=xc hx1 hg p8
 have r31:=xc hx1 hg p31
 have r14:=xc hx1 hg p14
 have r13:=xc hx1 hg p13
 have s4:=xc hx1 hX q4
 have s6:=xc hx1 hX q6
 have d17:=xc hx1 hX c17
 have hgr:∀j,w1.frozen? ⟨g,j,none⟩=false:=fun j=>(H.out.ext hx1).frozen j
 clear hx1 c17 hfr q4 q6 p44 p50 p45 p87 p8 p31 p14 p13
 go_wp2_with fail
 go_quiet (fail)
 go_wp2_with fail
 refine fO hJ0 ?_
 go_ret
 exact⟨rfl,(H.out.ext ((Ext.trans HX1.out ((Ext.refl _).drewN _)))).mono (fun n hn=>⟨hn.1,nL hn.2 (Below.size (Ext.trans HX1.out ((Ext.refl _).drewN _)))⟩),(Ext.mut (Ext.trans HX1.out ((Ext.refl _).drewN _)) _)⟩
theorem aG9(w:World)(N:Nat→Prop)(X g k:Nat)(B:Br)(h:BrG w (fun n=>N n∧n<w.heap.size) X g B)(ho:B.ok)(hk:k<B.np)(hn:B.np<1000)(hQ:∀n,w.heap.size≤n→N n)(h44:B.gb k 44=true)(h50:B.gb k 50=false)(n8:(B.gi k 8 == 0)=false)(ht:fR (B.gb k 45) (B.gi k 87)=true)(h31:B.gb k 31=true)(hlt:B.gi k 14<B.hi 6)(h14:0≤B.gi k 14∧B.gi k 14≤100000)(hno:B.no≤100000):
    Calls Tryz.prog 44 #[.pointer (some ⟨X,0,none⟩),.int .i64 k] w (fun e w'=>e=.returned (.bool true)∧BrG w' (fun n=>N n∧n<w'.heap.size) X g (kE B k)∧Mut (fun n=>N n) w w'):=by
 obtain⟨hX,hg,hne⟩:=h.lt
 obtain⟨cap,c17,hc1,hc2⟩:=h.cell17 ho
 have p44:=qb h ho hk 44
 have p50:=qb h ho hk 50
 have p45:=qb h ho hk 45
 have p87:=qi h ho hk 87 rfl
 have p8:=qi h ho hk 8 rfl
 have p31:=qb h ho hk 31
 have p14:=qi h ho hk 14 rfl
 have p13:=qi h ho hk 13 rfl
 have q4:=(h.cellX ho (i:=4) (by omega)).trans (ho.hi 4 rfl)
 have q6:=(h.cellX ho (i:=6) (by omega)).trans (ho.hi 6 rfl)
 rw[h44]at p44
 rw[h50]at p50
 rw[h31]at p31
 have hF1:=h.F1
 have hF2:=h.F2
 have hfr:=h.frozen
 have H:=hD h
 clear h
 have HK0:=gW g (k*89) _ _ w p45 p87
 rw[ht]at HK0
 have HK:=hD HK0
 clear HK0 ht
 have hlt2:decide (B.gi k 14<B.hi 6)=true:=by simpa using hlt
 go_enter Tryz.func44,Tryz.ntmps44
 go_wp2_with fail
 refine eK 3 (fun J0 hJ0=>?_)
 go_wp2_with fail
 refine HK.out.mono ?_
 rintro e w1 ⟨rfl,hx1⟩
 have HX1:=hD hx1
 clear HK
 have r44:=xc hx1 hg p44
 have r50:=xc hx1 hg p50
 have r45:=xc hx1 hg p45
 have r87:=xc hx1 hg p87
 have r8:=xc hx1 hg p8
 have r31:=xc hx1 hg p31
 have r14:=xc hx1 hg p14
 have r13:=xc hx1 hg p13
 have s4:=xc hx1 hX q4
 have s6:=xc hx1 hX q6
 have d17:=xc hx1 hX c17
 have hgr:∀j,w1.frozen? ⟨g,j,none⟩=false:=fun j=>(H.out.ext hx1).frozen j
 clear hx1 c17 hfr q4 q6 p44 p50 p45 p87 p8 p31 p14 p13
 go_wp2_with fail
 go_quiet (fail)
 go_wp2_with fail
 try go_step3
 show J0 (Exit.goto 1) _ _
 refine gL hJ0 rfl (fun J1 hJ1=>?_)
 clear hJ0
 go_wp2_with fail
 have HXn:∀q,Ext w (w1.drewN q):=fun q=>Ext.trans HX1.out ((Ext.refl _).drewN q)
 clear hgr d17 r44 r50 r45 r87 r8 r31 r14 r13 s4 s6
 refine(aG8 _ (fun n=>N n∧n<w.heap.size) X g k B (iA (B.gb k 45) (B.gi k 87)) (H.out.ext (HXn _)) ho hk hn h14 hno).mono ?_
 rintro e w2 ⟨rfl,hB2,hM2⟩
 have okS:=rJ ho hk (by omega:k<1000) (iA (B.gb k 45) (B.gi k 87)) h14
 have hkS:k<(dZ B k (iA (B.gb k 45) (B.gi k 87))).np:=by rw[rI];exact hk
 have HB2:=hD hB2
 have HM2:=hD ((Ext.mut (HXn _) (fun n=>N n∧n<w.heap.size)).trans hM2)
 have hsz:w.heap.size≤w2.heap.size:=Nat.le_trans (Below.size (HXn _)) hM2.2.2.2.1
 have HMo:=hD (show BrG w2 (fun n=>N n∧n<w2.heap.size) X g (dZ B k (iA (B.gb k 45) (B.gi k 87)))from hB2.mono (fun n hn=>hn.elim (fun hn=>⟨hn.1,by have:=hn.2;omega⟩) (fun hn=>⟨hQ n (Nat.le_trans (Below.size (HXn _)) hn.1),hn.2⟩)))
 clear hB2 hM2 hsz
 obtain⟨hX2,hg2,hne2⟩:=HMo.out.lt
 have t4:=(HMo.out.cellX okS (i:=4) (by omega)).trans (okS.hi 4 rfl)
 rw[show(dZ B k (iA (B.gb k 45) (B.gi k 87))).hi 4=B.hi 4 by unfold Br.hi;rw[aB6]]at t4
 have t8:=(HMo.out.cellg (i:=k*89+8) (bZ hkS (by decide))).trans (okS.gi hkS 8 rfl)
 have hf2:=HMo.out.frozen
 have hfin:=hD (HMo.out.setp (k:=k) (j:=8) hkS (by decide) (.int .i64 (B.hi 4)))
 have hmut:=hD (HM2.out.setCell (p:=⟨g,k*89+8,none⟩) (.inl hF2) (.int .i64 (B.hi 4)))
 go_wp2_with fail
 try go_step3
 go_wp2_with fail
 refine fO hJ1 ?_
 go_ret
 exact⟨rfl,hfin.out.mono (fun n hn=>⟨hn.1,by simp only[World.size_setCell];exact hn.2⟩),hmut.out.mono (fun n _ hn=>hn.1)⟩
theorem aEK(w:World)(N:Nat→Prop)(X g k:Nat)(B:Br)(h:BrG w (fun n=>N n∧n<w.heap.size) X g B)(ho:B.ok)(hk:k<B.np)(hn:B.np<1000)(hQ:∀n,w.heap.size≤n→N n)(h14:0≤B.gi k 14∧B.gi k 14≤100000)(hno:B.no≤100000):
    Calls Tryz.prog 44 #[.pointer (some ⟨X,0,none⟩),.int .i64 k] w fun e w'=>e=.returned (.bool (wC B k).1)∧BrG w' (fun n=>N n∧n<w'.heap.size) X g (wC B k).2∧Mut (fun n=>N n) w w':=by
 unfold wC kV
 cases h44:B.gb k 44
 ·exact aLC w N X g k B h ho hk hn h44
 cases h50:B.gb k 50
 case true=>exact aJO w N X g k B h ho hk hn h44 h50
 rw[if_neg (show ¬((!true || false)=true) by simp)]
 by_cases h8:B.gi k 8=0
 ·rw [if_pos h8]
  unfold gM
  by_cases h4:B.gi k 87=4
  ·rw[h4]
   exact aLD w N X g k B h ho hk hn h44 h50 h8 h4
  by_cases h3:B.gi k 87=3
  ·rw [h3]
   by_cases h13:B.gi k 13=0
   ·rw[h13]
    exact aJQ w N X g k B h ho hk hn h44 h50 h8 h3 h13
   ·have h13b:(B.gi k 13 != 0)=true:=by simpa using h13
    rw[h13b]
    exact aJP w N X g k B h ho hk hn h44 h50 h8 h3 h13b
  have n4:(B.gi k 87 == 4)=false:=by simpa using h4
  have n3:(B.gi k 87 == 3)=false:=by simpa using h3
  rw[n4,n3]
  exact aLE w N X g k B h ho hk hn h44 h50 h8 n4 n3
 have n8:(B.gi k 8 == 0)=false:=by simpa using h8
 rw[if_neg h8]
 cases ht:fR (B.gb k 45) (B.gi k 87)
 ·exact aLF w N X g k B h ho hk hn h44 h50 n8 ht
 cases h31:B.gb k 31
 ·exact aLG w N X g k B h ho hk hn h44 h50 n8 ht h31
 by_cases hlt:B.gi k 14<B.hi 6
 ·have e:decide (B.gi k 14<B.hi 6)=true:=by simpa using hlt
  rw[e]
  exact aG9 w N X g k B h ho hk hn hQ h44 h50 n8 ht h31 hlt h14 hno
 ·have e:decide (B.gi k 14<B.hi 6)=false:=by simpa using hlt
  rw[e]
  exact aLH w N X g k B h ho hk hn h44 h50 n8 ht h31 hlt
theorem BrG.there{w:World}{F:Nat→Prop}{X g:Nat}{B:Br}(h:BrG w F X g B){k:Nat}(hk:k<B.np):w.there g (k*89) 89:=by
 obtain⟨h1,h2,cap,cur,s2,s3,a,b,c,d,_⟩:=h
 have:(k+1)*89≤cap*89:=Nat.mul_le_mul_right _ (by omega)
 exact fun j hj=>⟨by rw[cell_of_row _ _ _ _ _ _ b,Array.getElem?_eq_getElem (by omega)];rfl,frozen_of_row _ _ _ _ _ b⟩
theorem aHA{B:Br}{k:Nat}(ho:B.ok)(hk:k<B.np):(gD B k).2.ok:=by
 have hL:(cX B k).ok:=((ho.setB hk 37 _ rfl).setB hk 38 _ rfl).setI hk 16 .i64 _ rfl (by decide)
 have hB:(dW B k).ok:=(((ho.setB hk 30 _ rfl).setB hk 45 _ rfl).setI hk 9 .i64 _ rfl (by decide)).setI hk 16 .i64 _ rfl (by decide)
 have hY:(fL B k).ok:=((ho.setB hk 45 _ rfl).setI hk 9 .i64 _ rfl (by decide)).setI hk 16 .i64 _ rfl (by decide)
 unfold gD
 split<;>(try split)<;>(try split)<;>(try split)<;>first|exact ho|exact hL|exact hB|exact hY
theorem aEL(B:Br)(j:Nat)(v:Nat→Value):∀n,(B.upd j v n).hd=B.hd
 | 0=>rfl
 | n+1=>aEL B j v n
theorem kW(B:Br)(j:Nat)(v:Nat→Value):∀n,(B.upd j v n).no=B.no∧(B.upd j v n).os=B.os∧(B.upd j v n).nf=B.nf∧(B.upd j v n).fl=B.fl
 | 0=>⟨rfl,rfl,rfl,rfl⟩
 | n+1=>kW B j v n
theorem jI{B:Br}{k j:Nat}(hj:j<89):pI (a9 B.ps k) j=B.gi k j:=by
 unfold pI Br.gi
 rw[aI hj]
 rcases B.ps[k*89+j]? with _|v
 ·rfl
 ·cases v<;>rfl
theorem aHB{B:Br}{k j:Nat}(hj:j<89):pB (a9 B.ps k) j=B.gb k j:=by
 unfold pB Br.gb
 rw[aI hj]
 rcases B.ps[k*89+j]? with _|v
 ·rfl
 ·cases v<;>rfl
theorem aEM:Typed [] []:=⟨rfl,fun j k h=>by cases h⟩
theorem iO{l:List (Option IntKind)}{L:List Value}{K:IntKind}{z:Int}(h:Typed l L)(hz:(Lit.int K z).wf=true):Typed (some K :: l) (.int K z :: L):=⟨by simp[h.1],fun j k hj=>by
 cases j with
 | zero =>
  obtain rfl:some K=k:=by simpa using hj
  exact⟨.int K z,rfl,z,rfl,hz⟩
 | succ n=>exact h.2 n k hj⟩
theorem aEN{a b c d e:Int}(h1:(Lit.int .u64 a).wf=true)(h2:(Lit.int .u32 b).wf=true)(h3:(Lit.int .u64 c).wf=true)(h4:(Lit.int .u16 d).wf=true)(h5:(Lit.int .u16 e).wf=true):
    Typed [some .u64,some .u32,some .u64,some .u16,some .u16] [.int .u64 a,.int .u32 b,.int .u64 c,.int .u16 d,.int .u16 e]:=iO (iO (iO (iO (iO aEM h5) h4) h3) h2) h1
theorem vC{a b c d:Int}(h1:(Lit.int .i64 a).wf=true)(h2:(Lit.int .i64 b).wf=true)(h3:(Lit.int .i64 c).wf=true)(h4:(Lit.int .i64 d).wf=true):
    Typed [some .i64,some .i64,some .i64,some .i64] [.int .i64 a,.int .i64 b,.int .i64 c,.int .i64 d]:=iO (iO (iO (iO aEM h4) h3) h2) h1
theorem vD{L vs:List Value}(h:Typed PL L)(hv:Typed [some .u64,some .u32,some .u64,some .u16,some .u16] vs):Typed PL (setL L 68 vs):=by
 have hz:vs.length=5:=hv.1
 exact Typed.setL h (j:=68) (by rw[hz];exact(by decide:68+5≤PL.length)) (by rw[hz];exact hv)
theorem vE{L vs:List Value}(h:Typed PL L)(hv:Typed [some .i64,some .i64,some .i64,some .i64] vs):Typed PL (setL L 78 vs):=by
 have hz:vs.length=4:=hv.1
 exact Typed.setL h (j:=78) (by rw[hz];exact(by decide:78+4≤PL.length)) (by rw[hz];exact hv)
theorem xW{L:List Value}(h:Typed PL L):Typed PL (nB L):=bW (bW h 43 _ rfl) 44 _ rfl
theorem zP{L:List Value}(h:Typed PL L)(b:Bool):Typed PL (dU b L):=by
 cases b
 ·exact h
 ·exact bW h 33 _ rfl
theorem xX{L:List Value}(h:Typed PL L)(b:Bool):Typed PL (iF b L):=by
 cases b
 ·exact bW h 23 _ rfl
 ·exact bW (bW h 23 _ rfl) 34 _ rfl
theorem xY{L:List Value}(h:Typed PL L)(a b:Bool):Typed PL (l8 a b L):=bW (bW h 39 _ rfl) 40 _ rfl
theorem aJR{L:List Value}(h:Typed PL L)(b:Bool):Typed PL (aAW b L):=by
 cases b
 ·exact h
 ·exact bW (bW h 24 _ rfl) 23 _ rfl
theorem aJS{L:List Value}(h:Typed PL L)(b:Bool):Typed PL (aAX b L):=by
 cases b
 ·exact h
 ·exact bW h 41 _ rfl
theorem vF{L:List Value}(hR:lE L):(Lit.int .i64 (dT (pI L 64) (pI L 65) (pI L 66))).wf=true:=by
 obtain⟨r1,r2,r3,r4,r5,r6,-,-⟩:=hR
 have:0≤dT (pI L 64) (pI L 65) (pI L 66)∧dT (pI L 64) (pI L 65) (pI L 66)≤200000:=by
  unfold dT
  split<;>omega
 simp[Lit.wf,IntKind.min,IntKind.max,IntKind.signed,IntKind.bits]
 omega
theorem aJT{L:List Value}(hT:Typed PL L)(hR:lE L)(rst:Bool):Typed PL (lJ 0 rst L):=(xW (eL (eL (vE (vD (bW (xX ((bW (xY (zP (bW (bW hT 23 _ rfl) 34 _ rfl) _) _ _) 22 _ rfl)) _) 47 _ rfl) (aEN (oI hT 59 rfl) (oI hT 60 rfl) (oI hT 61 rfl) (oI hT 62 rfl) (oI hT 63 rfl))) (vC (oI hT 64 rfl) (oI hT 65 rfl) (oI hT 66 rfl) (oI hT 67 rfl))) 11 .i64 _ rfl (vF hR)) 86 .i64 _ rfl (by decide)))
theorem aJU{L:List Value}(hT:Typed PL L)(hR:lE L)(rst:Bool):Typed PL (lJ 1 rst L):=(eL (xX (xY (zP hT _) _ _) _) 11 .i64 _ rfl (vF hR))
theorem aHC{L:List Value}(hT:Typed PL L)(hR:lE L)(rst:Bool)(n:Nat):Typed PL (lJ n rst L):=by
 match n with
 | 0=>exact aJT hT hR rst
 | 1=>exact aJU hT hR rst
 | 2=>exact aJR hT _
 | 3=>exact xY (xX hT _) _ _
 | n+4=>exact aJS hT _
theorem aHD{L:List Value}(hT:Typed PL L)(hR:lE L)(rst:Bool):Typed PL (j7 rst L):=eL (bW (aHC hT hR rst _) 36 _ rfl) 18 .i64 2 rfl (by decide)
theorem aJV{L:List Value}(hT:Typed PL L):Typed PL (qI L):=(eL (xW (eL (eL (bW (bW (bW (bW (bW hT 36 _ rfl) 34 _ rfl) 33 _ rfl) 22 _ rfl) 23 _ rfl) 11 .i64 _ rfl (by decide)) 86 .i64 _ rfl (by decide))) 18 .i64 _ rfl (by decide))
theorem aJW{L:List Value}(hT:Typed PL L):Typed PL (qJ L):=(eL (xW (eL hT 86 .i64 _ rfl (by decide))) 18 .i64 _ rfl (by decide))
theorem aJX{L:List Value}(hT:Typed PL L):Typed PL (lK L):=(eL (bW (eL (bW (vE (vD (bW (bW (bW (bW hT 34 _ rfl) 33 _ rfl) 23 _ rfl) 47 _ rfl) (aEN (oI hT 73 rfl) (oI hT 74 rfl) (oI hT 75 rfl) (oI hT 76 rfl) (oI hT 77 rfl))) (vC (oI hT 82 rfl) (oI hT 83 rfl) (oI hT 84 rfl) (oI hT 85 rfl))) 50 _ rfl) 86 .i64 _ rfl (by decide)) 31 _ rfl) 18 .i64 _ rfl (by decide))
theorem lT{L:List Value}(hT:Typed PL L)(hR:lE L)(rst:Bool):Typed PL (lD rst L).2:=by
 unfold lD
 rcases kR L with h|h|h|h|h<;>rw[h]
 ·exact hT
 ·exact aJV hT
 ·exact aJW hT
 ·exact aJX hT
 ·exact aHD hT hR rst
theorem mS{B:Br}{k:Nat}{l:List Value}(hl:l.length=89)(hk:k*89+89≤B.ps.length):a9 (B.setPort k l).ps k=l:=by
 apply List.ext_getElem?
 intro i
 by_cases hi:i<89
 ·rw[aI hi,eR hl hk,if_pos (by omega)]
  congr 1;omega
 ·rw[List.getElem?_eq_none (by simp[a9];omega),List.getElem?_eq_none (by omega)]
theorem lU{B:Br}{k j:Nat}{l:List Value}(hl:l.length=89)(hk:k*89+89≤B.ps.length)(hj:j<89):(B.setPort k l).gi k j=pI l j:=by
 rw[←jI (k:=k) hj,mS hl hk]
theorem vG{B:Br}{k:Nat}{l:List Value}(hl:l.length=89)(hk:k*89+89≤B.ps.length):(B.setPort k l).ps.length=B.ps.length:=by
 simp[Br.setPort,hl];omega
theorem xZ{B:Br}(ho:B.ok){k:Nat}(hk:k<B.np){l:List Value}(hl:Typed PL l):(B.setPort k l).ok:=by
 have h89:=fH ho hk
 obtain⟨a,b,c,d⟩:=ho
 refine⟨a,?_,c,d⟩
 refine(bY (l:=PL)).2 ⟨?_,fun i hi j cc hj=>?_⟩
 ·rw[vG (nT hl) h89]
  exact b.1
 ·have hj89:j<89:=(List.getElem?_eq_some_iff.1 hj).1
  have hb:=((bY (l:=PL)).1 b).2 i hi j cc hj
  rw[show PL.length=89 from rfl]at hb ⊢
  rw[eR (nT hl) h89]
  by_cases e:i=k
  ·subst e
   rw[if_pos (by omega)]
   obtain⟨v,hv,hc⟩:=hl.2 j cc hj
   exact⟨v,by rw[←hv];congr 1;omega,hc⟩
  ·rw[if_neg (by omega)]
   exact hb
theorem aHE{B:Br}(ho:B.ok){k:Nat}(hk:k<B.np)(hR:lE (a9 B.ps k)):(mJ B k).2.ok:=xZ ho hk (lT (dI ho hk) hR _)
theorem nJ(B:Br):∀n,(eF B n).no=B.no∧(eF B n).os=B.os∧(eF B n).nf=B.nf∧(eF B n).fl=B.fl|0=>⟨rfl,rfl,rfl,rfl⟩|n+1=>nJ B n
theorem pR{C:Br}(ho:C.ok)(hn:C.np<1000)(hR:∀k,k<C.np→0≤C.gi k 78∧C.gi k 78≤65535):(dO C).ok:=by
 have ok1:=tZ ho hn
 have hq:=qZ ok1 (a:=(cR C).hi 12) (by rw[o5 ho];exact mA _ _) hR
 unfold dO
 rw[o5 ho]at hq
 exact mB ok1 (j:=13) (m:=4) (by decide) hq.2 hq.1
theorem aHF{B:Br}(ho:B.ok)(hn:B.np<1000)(hR:∀k,k<B.np→0≤B.gi k 78∧B.gi k 78≤65535):(gA B).2.ok:=by
 have okN:=o4 ho (Nat.le_refl B.np)
 have npN:(lW B B.np).np=B.np:=gS B 43 _ _
 have ok2:(dO (lW B B.np)).ok:=pR okN (by rw[npN];exact hn) (fun k hk=>by
  rw[wM ho (by decide) (by decide)]
  exact hR k (by rw[←npN];exact hk))
 unfold gA
 split
 ·exact k6 ok2 B.np (by rw[show(dO (lW B B.np)).np=B.np from npN];exact Nat.le_refl _)
 ·exact okN
theorem pS(B:Br)(k:Nat):∀n,(kL B k n).hd=B.hd
 | 0=>rfl
 | n+1=>by
  unfold kL
  split
  ·exact pS B k n
  ·exact pS B k n
theorem pT(B:Br)(k:Nat):∀n,(kL B k n).no=B.no∧(kL B k n).os=B.os∧(kL B k n).nf=B.nf∧(kL B k n).fl=B.fl
 | 0=>⟨rfl,rfl,rfl,rfl⟩
 | n+1=>by
  unfold kL
  split
  ·exact pT B k n
  ·exact pT B k n
theorem vH{B:Br}(ho:B.ok){k:Nat}(hk:k<B.np):(dM B k).ok:=nH (lA ho hk) k B.np (Nat.le_refl _)
theorem vJ(B:Br)(k:Nat):(dM B k).np=B.np:=kB _ _ _
theorem x9{B:Br}(ho:B.ok){k:Nat}(hk:k<B.np):(dR B k).ok:=((((ho.setB hk 39 false rfl).setB (k:=k) hk 41 false rfl).setB (k:=k) hk 40 false rfl).setB (k:=k) hk 49 false rfl).setI (k:=k) hk 21 .i64 1 rfl (by decide)
theorem aHG{B:Br}(ho:B.ok){k:Nat}(hk:k<B.np):(pH B k).ok:=(ho.setI hk 13 .i64 0 rfl (by decide)).setB (k:=k) hk 40 false rfl
theorem yA{B:Br}(ho:B.ok){k:Nat}(hk:k<B.np)(hT:TR (B.hi 2) (B.hi 3) (B.hi 4) (B.hi 5)):(gG B k).ok :=
 ((iS ho hk hT).setB (k:=k) (by rw[cF];exact hk) 25 true rfl).setB (k:=k) (by show k<(bF B k).np;rw[cF];exact hk) 49 false rfl
theorem aEO{B:Br}(ho:B.ok){k:Nat}(hk:k<1000):(B.flush k).ok:=by
 refine⟨ho.hd,ho.ps,ho.os,?_⟩
 obtain⟨h1,h2⟩:=bY.1 ho.fl
 simp only[List.length_singleton,Nat.mul_one]at h1 h2
 refine bY.2 ⟨?_,?_⟩
 ·show(B.fl++[Value.int IntKind.i64 k]).length=(B.nf+1)*1
  simp[h1]
 ·intro i hi j c hj
  have hj0:j=0:=by
   have:=(List.getElem?_eq_some_iff.1 hj).1
   simpa using this
  subst hj0
  obtain rfl:some IntKind.i64=c:=by simpa using hj
  show ∃v,(B.fl++[Value.int IntKind.i64 k])[i*1+0]?=some v∧jL (some IntKind.i64) v
  have hi':i<B.nf+1:=hi
  by_cases e:i<B.nf
  ·obtain⟨v,hv,hc⟩:=h2 i e 0 (some IntKind.i64) rfl
   refine⟨v,?_,hc⟩
   rw[Nat.mul_one,Nat.add_zero,List.getElem?_append_left (by rw[h1];exact e)]
   simpa using hv
  ·have:i=B.nf:=by omega
   subst this
   refine⟨.int .i64 k,by simp[h1],_,rfl,?_⟩
   simp[Lit.wf,IntKind.min,IntKind.max,IntKind.signed,IntKind.bits]
   omega
theorem aB7{B:Br}(ho:B.ok){k:Nat}(hk:k<B.np):(i5 B k).ok:=(((ho.setB hk 25 true rfl).setB (k:=k) hk 48 false rfl).setI (k:=k) hk 13 .i64 0 rfl (by decide)).setI (k:=k) hk 21 .i64 0 rfl (by decide)
theorem aB8{B:Br}(ho:B.ok){k:Nat}(hk:k<B.np)(hT:TR (B.hi 2) (B.hi 3) (B.hi 4) (B.hi 5)):(fT B k).ok:=by
 have h1:(kL (bF B k) k B.np).ok:=nH (iS ho hk hT) k B.np (by rw[cF];exact Nat.le_refl _)
 have h2:k<(kL (bF B k) k B.np).np:=by rw[kB,cF];exact hk
 exact(h1.setB h2 31 true rfl).setI (k:=k) h2 21 .i64 2 rfl (by decide)
theorem nK(B:Br)(k:Nat):(bF B k).nf=B.nf:=by
 unfold bF
 split
 ·split<;>rfl
 ·rfl
theorem yB(B:Br)(k n:Nat):(kL B k n).nf=B.nf:=(pT B k n).2.2.1
theorem yC{B:Br}(ho:B.ok){k:Nat}(hk:k<B.np)(hT:TR (B.hi 2) (B.hi 3) (B.hi 4) (B.hi 5)):(pJ B k).2.ok∧(pJ B k).2.np=B.np∧(pJ B k).2.hd=B.hd∧(pJ B k).2.nf=B.nf:=by
 have f:(dR B k).ok∧(dR B k).np=B.np∧(dR B k).hd=B.hd∧(dR B k).nf=B.nf:=⟨x9 ho hk,rfl,rfl,rfl⟩
 have b0:B.ok∧B.np=B.np∧B.hd=B.hd∧B.nf=B.nf:=⟨ho,rfl,rfl,rfl⟩
 have l:(i5 B k).ok∧(i5 B k).np=B.np∧(i5 B k).hd=B.hd∧(i5 B k).nf=B.nf:=⟨aB7 ho hk,rfl,rfl,rfl⟩
 have a:(fT B k).ok∧(fT B k).np=B.np∧(fT B k).hd=B.hd∧(fT B k).nf=B.nf :=
  ⟨aB8 ho hk hT,(kB _ _ _).trans (cF B k),(pS _ _ _).trans (k9 B k),(yB _ _ _).trans (nK B k)⟩
 have p:(dM B k).ok∧(dM B k).np=B.np∧(dM B k).hd=B.hd∧(dM B k).nf=B.nf:=⟨vH ho hk,vJ B k,pS _ _ _,yB _ _ _⟩
 have okb:=iS ho hk hT
 have hkb:k<(bF B k).np:=by rw[cF];exact hk
 have q:(dM (bF B k) k).ok∧(dM (bF B k) k).np=B.np∧(dM (bF B k) k).hd=B.hd∧(dM (bF B k) k).nf=B.nf :=
  ⟨vH okb hkb,(vJ _ _).trans (cF B k),(pS _ _ _).trans (k9 B k),(yB _ _ _).trans (nK B k)⟩
 have s:(gG B k).ok∧(gG B k).np=B.np∧(gG B k).hd=B.hd∧(gG B k).nf=B.nf:=⟨yA ho hk hT,cF B k,k9 B k,nK B k⟩
 have c:(pH B k).ok∧(pH B k).np=B.np∧(pH B k).hd=B.hd∧(pH B k).nf=B.nf:=⟨aHG ho hk,rfl,rfl,rfl⟩
 unfold pJ
 by_cases h0:B.gi k 21=0
 ·rw[if_pos h0]
  cases B.gb k 28
  ·exact b0
  ·exact f
 rw[if_neg h0]
 by_cases h1:B.gi k 21=1
 ·rw[if_pos h1]
  rcases pK B k with ha|ha|ha|ha<;>rw[ha]
  ·exact b0
  ·exact a
  ·exact l
  ·exact f
 rw[if_neg h1]
 by_cases h2:B.gi k 21=2
 ·rw[if_pos h2]
  rcases pM B k with ha|ha|ha|ha|ha|ha<;>rw[ha]
  ·exact b0
  ·exact f
  ·exact q
  ·exact p
  ·exact s
  ·exact c
 rw[if_neg h2]
 exact b0
theorem yD{B:Br}(ho:B.ok){k:Nat}(hk:k<B.np)(hn:B.np<1000)(hT:TR (B.hi 2) (B.hi 3) (B.hi 4) (B.hi 5)):(jN B k).2.ok∧(jN B k).2.np=B.np∧(jN B k).2.hd=B.hd∧(jN B k).2.nf≤B.nf+1:=by
 unfold jN
 split
 ·exact⟨(aEO ho (by omega)).setB (k:=k) hk 25 false rfl,rfl,rfl,Nat.le_refl _⟩
 ·obtain⟨a,b,c,d⟩:=yC ho hk hT
  exact⟨a,b,c,by omega⟩
theorem aB9{B:Br}{k:Nat}(ho:B.ok)(hk:k<B.np):(lP B k).ok:=((((((ho.setB hk 35 false rfl).setB hk 37 false rfl).setB hk 38 false rfl).setB hk 36 false rfl).setI hk 6 .i64 3 rfl (by decide)).setI hk 15 .i64 0 rfl (by decide))
theorem aCA{B:Br}{k:Nat}(ho:B.ok)(hk:k<B.np):(nD B k).ok:=((((((ho.setB hk 37 true rfl).setB hk 32 false rfl).setB hk 35 false rfl).setB hk 36 true rfl).setI hk 6 .i64 3 rfl (by decide)).setI hk 15 .i64 1 rfl (by decide))
theorem aCB{B:Br}{k:Nat}(ho:B.ok)(hk:k<B.np):(nE B k).ok:=((((((ho.setB hk 38 true rfl).setB hk 32 false rfl).setB hk 35 false rfl).setB hk 36 true rfl).setI hk 6 .i64 3 rfl (by decide)).setI hk 15 .i64 1 rfl (by decide))
theorem aJY{B:Br}{k:Nat}(ho:B.ok)(hk:k<B.np):(tD B k).2.ok:=by
 unfold tD nY
 split
 ·exact aB9 ho hk
 ·split
  ·split
   ·exact aCA ho hk
   ·exact aCB ho hk
  ·exact ho
theorem BrG.thereAt{w:World}{F:Nat→Prop}{X g:Nat}{B:Br}(h:BrG w F X g B){k j n:Nat}(hk:k<B.np)(hj:j+n≤89):w.there g (k*89+j) n:=fun i hi=>by
 have:=h.there hk (j+i) (by omega)
 rw[show k*89+(j+i)=k*89+j+i by omega]at this
 exact this
theorem jJ{P:Program}{ops:Array Oper}{rest:List Oper}{op:Oper}{a:Act}{w:World}{Q:Exit→Act→World→Prop}(hgd:op.guard=none)(hdst:op.dst=none)(ty:TypeId)(x y:Operand)(ho:op.op=.store ty x y)(b o:Nat)(cells:Array Value)(hx:a.eval x=.pointer (some ⟨b,o,none⟩))(hy:a.eval y=.agg cells)(ht:w.there b o cells.size)(hi:(P.info? ty).map (·.size)=some cells.size)(h1:cells.all (·.oneCell')=true)(h:∀w':World,w'=w.setCells b o cells.toList→wpList P ops Q rest a w'):wpList P ops Q (op :: rest) a w :=
 wpList_store_mid hgd ty x y ho b o cells hx hy ht hi h1 (by rw[show a.put op.dst undef=a by rw[hdst];rfl];exact h _ rfl)
theorem aJZ(i:Nat)(hi:i<17):PL[51+i]?=ML[i]?:=by
 match i,hi with
 | 0,_=>exact rfl
 | 1,_=>exact rfl
 | 2,_=>exact rfl
 | 3,_=>exact rfl
 | 4,_=>exact rfl
 | 5,_=>exact rfl
 | 6,_=>exact rfl
 | 7,_=>exact rfl
 | 8,_=>exact rfl
 | 9,_=>exact rfl
 | 10,_=>exact rfl
 | 11,_=>exact rfl
 | 12,_=>exact rfl
 | 13,_=>exact rfl
 | 14,_=>exact rfl
 | 15,_=>exact rfl
 | 16,_=>exact rfl
 | n+17,h=>exact absurd h (by omega)
def fE(B:Br)(k:Nat)(m:List Value):Br:=(B.setr k 51 m).setp k 35 (.bool true)
def kH(B:Br)(i:Int)(m:List Value):Bool × Br :=
 if 0≤i∧i.toNat<B.np then if(!B.gb i.toNat 2 || B.gb i.toNat 35 || ((mi m 0 == 2) && !B.hb 1))=true then(false,B)else(true,fE B i.toNat m)else(false,B)
theorem kX{B:Br}(ho:B.ok){k:Nat}(hk:k<B.np){m:List Value}(hm:Typed ML m):(B.setr k 51 m).ok:=by
 have hz:m.length=17:=hm.1
 refine ho.setr hk (by omega) (fun i v hv c hc=>?_)
 have hi:i<17:=by
  have:=(List.getElem?_eq_some_iff.1 hv).1
  omega
 rw[aJZ i hi]at hc
 obtain⟨u,hu,hcu⟩:=hm.2 i c hc
 rw[hv]at hu
 cases hu
 exact hcu
theorem aCC{B:Br}(ho:B.ok){k:Nat}(hk:k<B.np){m:List Value}(hm:Typed ML m):(fE B k m).ok :=
 (kX ho hk hm).setB (k:=k) hk 35 true rfl
theorem aEP{B:Br}(ho:B.ok)(i:Int){m:List Value}(hm:Typed ML m):(kH B i m).2.ok:=by
 unfold kH
 split
 ·rename_i hi
  split
  ·exact ho
  ·exact aCC ho hi.2 hm
 ·exact ho
theorem aLI(w:World)(F:Nat→Prop)(X g:Nat)(B:Br)(h:BrG w F X g B)(ho:B.ok)(m:List Value)(hm:Typed ML m)(k:Nat)(hk:k<B.np)(hk2:k<1000)(e2:B.gb k 2=true)(e35:B.gb k 35=false)(em:(mi m 0 == 2)=false):Calls Tryz.prog 29 #[.pointer (some ⟨X,0,none⟩),.int .i64 k,.agg m.toArray] w (aN w F X g (true,fE B k m)):=by
 obtain⟨hX,hg,hne⟩:=h.lt
 obtain⟨cap,c17,hc1,hc2⟩:=h.cell17 ho
 have p2:=qb h ho hk 2
 have p35:=qb h ho hk 35
 have q1:=(h.cellX ho (i:=1) (by omega)).trans (ho.hb 1 rfl)
 have m0:=hm.gi 0 rfl
 rw[e2]at p2
 rw[e35]at p35
 have hf:=h.frozen
 have H:=hD h
 have HTM:=hD hm
 have hmn:=hD (show m.length=17 from hm.1)
 have hmi:=hD (show(Tryz.prog.info? 46).map (·.size)=some m.toArray.size by rw[List.size_toArray,hmn.out];exact fI)
 have hmo:=hD (all_oneCell_toArray hm.one)
 clear h hm e2 e35
 go_enter Tryz.func29,Tryz.ntmps29
 go_wp2_with (first|fail|((with_reducible refine aG 46 ?_);refine wpList_load_row rfl 46 _ rfl _ rfl 46 m.toArray (0,0) _ (heap_alloc_new _ _) Tryz.underlying46 rfl hmi.out ?_)|((with_reducible refine aD 46 ?_);refine jJ rfl rfl 46 _ _ rfl g (k*89+51) m.toArray rfl rfl (by rw[List.size_toArray];exact((H.out.alloc _).thereAt hk (by rw[hmn.out];decide))) hmi.out hmo.out ?_;intro w5 hw5;have hB5:BrG w5 F X g (B.setr k 51 m):=(by rw[hw5];exact(H.out.alloc _).setr hk (j:=51) (by rw[hmn.out];decide));have hM5:Mut F w w5:=(by rw[hw5];exact Mut.setCells (.inl H.out.F2) _ _ ((Mut.refl F w).alloc _));have HB5:=hD hB5;have HM5:=hD hM5;have p35x:=(HB5.out.cellg (i:=k*89+35) (bZ (N:=B.np) hk (by decide))).trans ((kX ho hk HTM.out).gb (k:=k) hk 35 rfl);have hf5:=HB5.out.frozen;obtain⟨cap5,c17x,hc5,hd5⟩:=HB5.out.cell17 (kX ho hk HTM.out);simp only[y9]at c17x hc5;clear hw5 hB5 hM5 p2 p35 q1 c17 hf))
 go_ret
 exact⟨rfl,HB5.out.setp (k:=k) (j:=35) hk (by decide) _,HM5.out.setCell (.inl HB5.out.F2) _⟩
theorem aLJ(w:World)(F:Nat→Prop)(X g:Nat)(B:Br)(h:BrG w F X g B)(ho:B.ok)(m:List Value)(hm:Typed ML m)(k:Nat)(hk:k<B.np)(hk2:k<1000)(e2:B.gb k 2=true)(e35:B.gb k 35=false)(em:mi m 0=2)(er:B.hb 1=true):Calls Tryz.prog 29 #[.pointer (some ⟨X,0,none⟩),.int .i64 k,.agg m.toArray] w (aN w F X g (true,fE B k m)):=by
 obtain⟨hX,hg,hne⟩:=h.lt
 obtain⟨cap,c17,hc1,hc2⟩:=h.cell17 ho
 have p2:=qb h ho hk 2
 have p35:=qb h ho hk 35
 have q1:=(h.cellX ho (i:=1) (by omega)).trans (ho.hb 1 rfl)
 have m0:=hm.gi 0 rfl
 rw[e2]at p2
 rw[e35]at p35
 rw[em]at m0
 rw[er]at q1
 have hf:=h.frozen
 have H:=hD h
 have HTM:=hD hm
 have hmn:=hD (show m.length=17 from hm.1)
 have hmi:=hD (show(Tryz.prog.info? 46).map (·.size)=some m.toArray.size by rw[List.size_toArray,hmn.out];exact fI)
 have hmo:=hD (all_oneCell_toArray hm.one)
 clear h hm e2 e35 em er
 go_enter Tryz.func29,Tryz.ntmps29
 go_wp2_with (first|fail|((with_reducible refine aG 46 ?_);refine wpList_load_row rfl 46 _ rfl _ rfl 46 m.toArray (0,0) _ (heap_alloc_new _ _) Tryz.underlying46 rfl hmi.out ?_)|((with_reducible refine aD 46 ?_);refine jJ rfl rfl 46 _ _ rfl g (k*89+51) m.toArray rfl rfl (by rw[List.size_toArray];exact((H.out.alloc _).thereAt hk (by rw[hmn.out];decide))) hmi.out hmo.out ?_;intro w5 hw5;have hB5:BrG w5 F X g (B.setr k 51 m):=(by rw[hw5];exact(H.out.alloc _).setr hk (j:=51) (by rw[hmn.out];decide));have hM5:Mut F w w5:=(by rw[hw5];exact Mut.setCells (.inl H.out.F2) _ _ ((Mut.refl F w).alloc _));have HB5:=hD hB5;have HM5:=hD hM5;have p35x:=(HB5.out.cellg (i:=k*89+35) (bZ (N:=B.np) hk (by decide))).trans ((kX ho hk HTM.out).gb (k:=k) hk 35 rfl);have hf5:=HB5.out.frozen;obtain⟨cap5,c17x,hc5,hd5⟩:=HB5.out.cell17 (kX ho hk HTM.out);simp only[y9]at c17x hc5;clear hw5 hB5 hM5 p2 p35 q1 c17 hf))
 go_ret
 exact⟨rfl,HB5.out.setp (k:=k) (j:=35) hk (by decide) _,HM5.out.setCell (.inl HB5.out.F2) _⟩
theorem aEQ(w:World)(F:Nat→Prop)(X g:Nat)(B:Br)(h:BrG w F X g B)(ho:B.ok)(m:List Value)(hm:Typed ML m)(hn:B.np<1000)(i:Int):Calls Tryz.prog 29 #[.pointer (some ⟨X,0,none⟩),.int .i64 i,.agg m.toArray] w (aN w F X g (kH B i m)):=by
 unfold kH
 by_cases h0:0≤i
 ·obtain ⟨k,rfl⟩:∃k:Nat,i=k:=⟨i.toNat,by omega⟩
  by_cases hk:k<B.np
  ·rw [if_pos ⟨h0,by simpa using hk⟩]
   simp only[Int.toNat_natCast]
   cases e2:B.gb k 2
   ·simpa using aK3 w F X g B h ho m hm k hk (by omega) e2
   ·cases e35:B.gb k 35
    ·cases em:(mi m 0 == 2)
     ·simpa using aLI w F X g B h ho m hm k hk (by omega) e2 e35 em
     ·cases er:B.hb 1
      ·simpa using aK5 w F X g B h ho m hm k hk (by omega) e2 e35 (by simpa using em) er
      ·simpa using aLJ w F X g B h ho m hm k hk (by omega) e2 e35 (by simpa using em) er
    ·simpa using aK4 w F X g B h ho m hm k hk (by omega) e2 e35
  ·rw[if_neg (fun h=>hk (by simpa using h.2))]
   exact aI8 w F X g B h ho m hm k h0 (by omega)
 ·rw[if_neg (fun h=>h0 h.1)]
  exact aI7 w F X g B h ho m hm i (by omega)
theorem aER{B:Br}(ho:B.ok){k:Nat}(hk:k<B.np)(h4:0≤B.hi 4∧B.hi 4≤1000){r:Nat}(hr:r≤24):(mO B k r).2.ok∧(mO B k r).2.np=B.np:=by
 unfold mO
 split
 ·exact⟨ho,rfl⟩
 ·have h:=zN ho hk h4 (r:=r) (by omega)
  split
  ·exact h
  ·refine⟨h.1.setI (k:=k) (by rw[h.2];exact hk) 19 .i64 _ rfl ?_,h.2⟩
   have:r<24:=by omega
   rcases(by omega:r=0∨r=1∨r=2∨r=3∨r=4∨r=5∨r=6∨r=7∨r=8∨r=9∨r=10∨r=11∨r=12∨r=13∨r=14∨r=15∨r=16∨r=17∨r=18∨r=19∨r=20∨r=21∨r=22∨r=23)with rfl|rfl|rfl|rfl|rfl|rfl|rfl|rfl|rfl|rfl|rfl|rfl|rfl|rfl|rfl|rfl|rfl|rfl|rfl|rfl|rfl|rfl|rfl|rfl<;>decide
theorem aJ0{B:Br}(ho:B.ok){k:Nat}(hk:k<B.np)(h4:0≤B.hi 4∧B.hi 4≤1000):(oM B k).2.ok:=by
 unfold oM
 split
 ·exact(aER ho hk h4 sR).1
 ·exact ho
theorem aHH{B:Br}{k:Nat}(ho:B.ok)(hk:k<B.np):(gT B k).2.ok:=by
 have h1:(fN B k).ok:=(ho.setB hk 29 _ rfl).setI hk 20 .i64 _ rfl (by decide)
 have h2:(fA B k).ok:=((ho.setB hk 29 _ rfl).setB hk 27 _ rfl).setI hk 20 .i64 _ rfl (by decide)
 have h3:(dN B k).ok:=(ho.setB hk 27 _ rfl).setI hk 20 .i64 _ rfl (by decide)
 unfold gT
 split<;>(try split)<;>(try split)<;>(try split)<;>first|exact ho|exact h1|exact h2|exact h3
theorem yE{Z:Br}(ho:Z.ok){k:Nat}(hk:k<Z.np):(gM Z k).ok:=by
 unfold gM
 split
 ·exact(ho.setB (k:=k) hk 31 true rfl).setI (k:=k) hk 8 .i64 _ rfl (ho.hw 4 rfl)
 ·exact ho.setI (k:=k) hk 8 .i64 _ rfl (ho.hw 4 rfl)
theorem aCD{Z:Br}(ho:Z.ok){k:Nat}(hk:k<Z.np)(hk8:k<1000)(h14:0≤Z.gi k 14∧Z.gi k 14≤100000):(kE Z k).ok :=
 (rJ ho hk hk8 _ h14).setI (k:=k) (by rw[rI];exact hk) 8 .i64 _ rfl (ho.hw 4 rfl)
theorem aCE(Z:Br)(k:Nat):wC Z k=(false,Z)∨(wC Z k=(true,gM Z k))∨(wC Z k=(true,kE Z k)∧Z.gi k 14<Z.hi 6):=by
 unfold wC
 by_cases h1:kV Z k=1
 ·rw[if_pos h1];exact .inr (.inl rfl)
 rw[if_neg h1]
 by_cases h2:kV Z k=2
 ·rw[if_pos h2]
  refine .inr (.inr ⟨rfl,?_⟩)
  unfold kV at h2
  split at h2
  ·simp at h2
  split at h2
  ·simp at h2
  split at h2
  ·rename_i h;simp at h;exact h.2
  ·simp at h2
 ·rw[if_neg h2];exact .inl rfl
theorem aES{B:Br}{k:Nat}(ho:B.ok)(hk:k<B.np):(fM B k).2.ok:=by
 have h1:(iM B k).ok:=(ho.setB hk 32 _ rfl).setI hk 17 .i64 _ rfl (by decide)
 have h2:(j6 B k).ok:=(ho.setB hk 32 _ rfl).setI hk 17 .i64 _ rfl (by decide)
 unfold fM
 split<;>(try split)<;>(try split)<;>first|exact ho|exact h1|exact h2
end Go.Proofs.YtpanapepcbbagaaGreat
namespace Go.Proofs.YtpanapepcbbagaaGreat
open Go.RowKit Go.BigFrame Go.WideShapes Go.ChangeShapes Go.Deep
structure Fr (A:Nat→Bool) (B C:Br):Prop where
 np:C.np=B.np
 hd:C.hd=B.hd
 os:C.os=B.os
 no:C.no=B.no
 nf:C.nf≤B.nf+1
 ps:∀i j,j<89→A j=false→C.ps[i*89+j]?=B.ps[i*89+j]?
variable {A:Nat→Bool} {B C:Br}
theorem Fr.rf(A:Nat→Bool)(B:Br):Fr A B B:=⟨rfl,rfl,rfl,rfl,by omega,fun _ _ _ _=>rfl⟩
theorem Fr.setp(h:Fr A B C){k j:Nat}{v:Value}(hj:j<89)(hA:A j=true):Fr A B (C.setp k j v):=by
 refine⟨h.np,h.hd,h.os,h.no,h.nf,fun i j' hj' hA'=>?_⟩
 have hne:j≠j':=fun e=>by subst e;rw[hA]at hA';cases hA'
 show(C.ps.set (k*89+j) v)[i*89+j']?=_
 rw[List.getElem?_set_ne (by omega)]
 exact h.ps i j' hj' hA'
theorem Fr.upd(h:Fr A B C){j:Nat}{v:Nat→Value}(hj:j<89)(hA:A j=true):∀n,Fr A B (C.upd j v n)
 | 0=>h
 | n+1=>(Fr.upd h hj hA n).setp hj hA
theorem Fr.tcpn(h:Fr A B C){k:Nat}(hA:A 49=true):∀n,Fr A B (kL C k n)
 | 0=>h
 | n+1=>by
  unfold kL
  split
  ·exact Fr.tcpn h hA n
  ·exact(Fr.tcpn h hA n).setp (by decide) hA
theorem Fr.gi(h:Fr A B C)(i:Nat){j:Nat}(hj:j<89)(hA:A j=false):C.gi i j=B.gi i j:=by
 unfold Br.gi
 rw[h.ps i j hj hA]
theorem Fr.hi(h:Fr A B C)(j:Nat):C.hi j=B.hi j:=by
 unfold Br.hi
 rw[h.hd]
def FA(j:Nat):Bool:=!(j == 14 || (decide (51≤j) && decide (j<68)) || j == 78 || j == 82 || j == 86)
theorem aIH(B:Br)(k:Nat):Fr FA B (tD B k).2:=by
 unfold tD lP nY nD nE
 repeat' split
 all_goals repeat (first|exact Fr.rf _ B|refine Fr.setp ?_ (by decide) (by decide))
theorem aET(B:Br)(k:Nat):Fr FA B (gD B k).2:=by
 unfold gD cX dW fL
 repeat' split
 all_goals repeat (first|exact Fr.rf _ B|refine Fr.setp ?_ (by decide) (by decide))
theorem zQ(B:Br)(k:Nat):Fr FA B (fM B k).2:=by
 unfold fM iM j6
 repeat' split
 all_goals repeat (first|exact Fr.rf _ B|refine Fr.setp ?_ (by decide) (by decide))
theorem aEU(B:Br)(k:Nat):Fr FA B (gT B k).2:=by
 unfold gT fN fA dN
 repeat' split
 all_goals repeat (first|exact Fr.rf _ B|refine Fr.setp ?_ (by decide) (by decide))
theorem zR(B:Br)(k r:Nat):Fr FA B (dY B k r):=by
 unfold dY kT eG jU oL gF iN jV
 split
 all_goals repeat (first|exact Fr.rf _ B|refine Fr.setp ?_ (by decide) (by decide)|refine Fr.upd ?_ (by decide) (by decide) _)
theorem aII(B:Br)(k:Nat):Fr FA B (oM B k).2:=by
 unfold oM mO
 repeat' split
 all_goals first|exact Fr.rf _ B|exact zR B k _|exact(zR B k _).setp (by decide) (by decide)
theorem nM(B:Br)(k:Nat):Fr FA B (bF B k):=by
 unfold bF
 repeat' split
 all_goals repeat (first|exact Fr.rf _ B|refine Fr.setp ?_ (by decide) (by decide))
theorem vK(h:Fr FA B C)(k:Nat):Fr FA B (dM C k):=by
 unfold dM dH
 refine Fr.tcpn ?_ (by decide) _
 repeat (first|exact h|refine Fr.setp ?_ (by decide) (by decide))
theorem aEV(B:Br)(k:Nat):Fr FA B (jN B k).2:=by
 unfold jN
 split
 ·have h:Fr FA B (B.flush k):=⟨rfl,rfl,rfl,rfl,Nat.le_refl _,fun _ _ _ _=>rfl⟩
  exact Fr.setp (k:=k) (j:=25) (v:=.bool false) h (by decide) (by decide)
 ·unfold pJ dR fT i5 gG pH
  repeat' split
  all_goals repeat (first
   | exact Fr.rf _ B
   | exact nM B k
   | exact vK (Fr.rf _ B) k
   | exact vK (nM B k) k
   | exact Fr.tcpn (nM B k) (by decide) _
   | refine Fr.setp ?_ (by decide) (by decide))
def IR(L M:List Value):Prop:=(M[78]?=L[78]?∧(M[86]?=L[86]?∨M[86]?=some (.int .i64 0)∨M[86]?=some (.int .i64 1)))∨(M[78]?=some (.int .i64 (pI L 82))∧M[86]?=some (.int .i64 2))∨(M[78]?=some (.int .i64 (pI L 64))∧M[86]?=some (.int .i64 3))
def KC(j:Nat):Prop:=j=14∨j=64∨j=65∨j=66∨j=67∨j=82
theorem sX{a b:Bool}{L:List Value}{j:Nat}(h:39≠j)(h2:40≠j):(l8 a b L)[j]?=L[j]?:=(aF h2).trans (aF h)
theorem aHI{a:Bool}{L:List Value}{j:Nat}(h:24≠j)(h2:23≠j):(aAW a L)[j]?=L[j]?:=by
 cases a
 ·rfl
 ·exact(aF h2).trans (aF h)
theorem aHJ{a:Bool}{L:List Value}{j:Nat}(h:41≠j):(aAX a L)[j]?=L[j]?:=by
 cases a
 ·rfl
 ·exact aF h
theorem aEW{a b:Bool}{L:List Value}(h:L.length=89):(l8 a b L).length=89:=aB (aB h)
theorem sY{g22 g47:Bool}{is:Int}{p a c1 c2 less:Bool}{v t:List Value}{k:Int}{L:List Value}(hl:L.length=89)(hv:v.length=5)(ht:t.length=4){j:Nat}(hj:KC j∨j=86∨(78≤j∧j<82)):
    (aDU g22 g47 is p a c1 c2 less v t k L)[j]?=if j=86 then some (.int .i64 3)else if 78≤j∧j<82 then t[j - 78]? else L[j]?:=by
 have l1:((iF a ((l8 c1 c2 (dU p ((L.set 23 (.bool false)).set 34 (.bool false)))).set 22 (.bool (g22 && (is == 3) && !less)))).set 47 (.bool (g47 && a))).length=89:=aB (cS (aB (aEW (bM (aB (aB hl))))))
 unfold aDU nB
 have h1:43≠j∧44≠j∧11≠j∧47≠j∧22≠j∧23≠j∧34≠j∧33≠j∧39≠j∧40≠j∧(j<68∨73≤j):=by unfold KC at hj;omega
 rw[aF h1.2.1,aF h1.1]
 by_cases h86:j=86
 ·subst h86
  rw[if_pos rfl]
  exact cE (aB (bH (bH l1 (by omega)) (by omega))) (by decide)
 ·rw[if_neg h86,aF (fun e=>h86 e.symm),aF h1.2.2.1]
  rw[eB (by rw[bH l1 (by omega)];omega),ht]
  by_cases h78:78≤j∧j<82
  ·rw[if_pos (by omega),if_pos h78]
  ·rw[if_neg (by omega),if_neg h78,eD l1 (by omega) (by omega),aF h1.2.2.2.1,dE (by omega) (by omega),aF (by omega),sX (by omega) (by omega),bD (by omega),aF (by omega),aF (by omega)]
theorem aHK{L:List Value}(hl:L.length=89)(n:Nat)(rst:Bool):(∀j,KC j→(lJ n rst L)[j]?=L[j]?)∧IR L (lJ n rst L):=by
 unfold lJ
 split
 ·refine ⟨fun j hj=>?_,.inr (.inr ⟨?_,?_⟩)⟩
  ·rw[sY hl rfl rfl (.inl hj),if_neg (by unfold KC at hj;omega),if_neg (by unfold KC at hj;omega)]
  ·rw[sY hl rfl rfl (.inr (.inr (by omega))),if_neg (by decide),if_pos (by omega)]
   rfl
  ·rw[sY hl rfl rfl (.inr (.inl rfl)),if_pos rfl]
 ·have f:∀j,KC j∨j=78∨j=86→((iF (rst && !(pB L 3) && ((pI L 51) == 2) && (pB L 55)) (l8 ((pB L 39) || (pB L 52)) ((pB L 40) || (pB L 53)) (dU (((pI L 51) == 2) && ((pI L 58) == 4) && (pB L 54)) L))).set 11 (.int .i64 (dT (pI L 64) (pI L 65) (pI L 66))))[j]?=L[j]?:=fun j hj=>by
   unfold KC at hj
   rw[aF (by omega),dE (by omega) (by omega),sX (by omega) (by omega),bD (by omega)]
  exact⟨fun j hj=>f j (.inl hj),.inl ⟨f 78 (.inr (.inl rfl)),.inl (f 86 (.inr (.inr rfl)))⟩⟩
 ·have f:∀j,KC j∨j=78∨j=86→(aAW (((pI L 51) == 2) && (pB L 56)) L)[j]?=L[j]?:=fun j hj=>by
   unfold KC at hj
   exact aHI (by omega) (by omega)
  exact⟨fun j hj=>f j (.inl hj),.inl ⟨f 78 (.inr (.inl rfl)),.inl (f 86 (.inr (.inr rfl)))⟩⟩
 ·have f:∀j,KC j∨j=78∨j=86→(l8 ((pB L 39) || (pB L 52)) ((pB L 40) || (pB L 53)) (iF (rst && !(pB L 3) && ((pI L 51) == 2) && (pB L 55)) L))[j]?=L[j]?:=fun j hj=>by
   unfold KC at hj
   rw[sX (by omega) (by omega),dE (by omega) (by omega)]
  exact⟨fun j hj=>f j (.inl hj),.inl ⟨f 78 (.inr (.inl rfl)),.inl (f 86 (.inr (.inr rfl)))⟩⟩
 ·have f:∀j,KC j∨j=78∨j=86→(aAX ((pI L 51) == 1) L)[j]?=L[j]?:=fun j hj=>by
   unfold KC at hj
   exact aHJ (by omega)
  exact⟨fun j hj=>f j (.inl hj),.inl ⟨f 78 (.inr (.inl rfl)),.inl (f 86 (.inr (.inr rfl)))⟩⟩
theorem aJ1{L:List Value}(hl:L.length=89):(∀j,KC j→(lK L)[j]?=L[j]?)∧(lK L)[78]?=some (.int .i64 (pI L 82))∧(lK L)[86]?=some (.int .i64 2):=by
 unfold lK aGG aDV
 have l1:∀(a b:Value),((((L.set 34 (.bool false)).set 33 (.bool false)).set 23 a).set 47 b).length=89:=fun a b=>aB (aB (aB (aB hl)))
 refine⟨fun j hj=>?_,?_,?_⟩
 ·unfold KC at hj
  rw[aF (by omega),aF (by omega),aF (by omega),aF (by omega),eD (bH (l1 _ _) (by exact(by decide:68+5≤89))) (by exact(by decide:78+4≤89)) (by show j<78∨78+4≤j;omega),eD (l1 _ _) (by exact(by decide:68+5≤89)) (by show j<68∨68+5≤j;omega),aF (by omega),aF (by omega),aF (by omega),aF (by omega)]
 ·rw[aF (by decide),aF (by decide),aF (by decide),aF (by decide),eB (by rw[bH (l1 _ _) (by exact(by decide:68+5≤89))];exact(by decide:78+4≤89)),if_pos (by exact(by decide:78≤78∧78<78+4))]
  rfl
 ·rw[aF (by decide),aF (by decide)]
  exact cE (aB (bH (bH (l1 _ _) (by exact(by decide:68+5≤89))) (by exact(by decide:78+4≤89)))) (by decide)
theorem aJ2{L:List Value}(hl:L.length=89)(rst:Bool):(∀j,KC j→(lD rst L).2[j]?=L[j]?)∧IR L (lD rst L).2:=by
 unfold lD
 rcases kR L with h|h|h|h|h<;>rw[h]
 ·exact⟨fun _ _=>rfl,.inl ⟨rfl,.inl rfl⟩⟩
 ·have f:∀j,KC j∨j=78→(qI L)[j]?=L[j]?:=fun j hj=>by
   unfold KC at hj
   unfold qI nB
   rw[aF (by omega),aF (by omega),aF (by omega),aF (by omega),aF (by omega),aF (by omega),aF (by omega),aF (by omega),aF (by omega),aF (by omega)]
  refine⟨fun j hj=>f j (.inl hj),.inl ⟨f 78 (.inr rfl),.inr (.inl ?_)⟩⟩
  show(qI L)[86]?=_
  unfold qI nB
  rw[aF (by decide),aF (by decide),aF (by decide)]
  exact cE (by simpa using hl) (by decide)
 ·have f:∀j,KC j∨j=78→(qJ L)[j]?=L[j]?:=fun j hj=>by
   unfold KC at hj
   unfold qJ nB
   rw[aF (by omega),aF (by omega),aF (by omega),aF (by omega)]
  refine⟨fun j hj=>f j (.inl hj),.inl ⟨f 78 (.inr rfl),.inr (.inr ?_)⟩⟩
  show(qJ L)[86]?=_
  unfold qJ nB
  rw[aF (by decide),aF (by decide),aF (by decide)]
  exact cE (by simpa using hl) (by decide)
 ·obtain⟨a,b,c⟩:=aJ1 hl
  exact⟨a,.inr (.inl ⟨b,c⟩)⟩
 ·obtain ⟨a,b⟩:=aHK hl (aBE L) rst
  have f:∀j,KC j∨j=78∨j=86→(j7 rst L)[j]?=(lJ (aBE L) rst L)[j]?:=fun j hj=>by
   unfold KC at hj
   unfold j7
   rw[aF (by omega),aF (by omega)]
  refine⟨fun j hj=>(f j (.inl hj)).trans (a j hj),?_⟩
  show IR L (j7 rst L)
  unfold IR
  rw[f 78 (.inr (.inl rfl)),f 86 (.inr (.inr rfl))]
  exact b
end Go.Proofs.YtpanapepcbbagaaGreat
