/- Part 18 of what BridgeRests stands on. No statement is proved here. -/
import Derived.Deep.DeepCutAuto
import Derived.Maps.Own
import Derived.Maps.Views
import Derived.Deep.QuietTactic
import Derived.WalkMore
import Derived.ScopeJumps
import Derived.Test.YtpanapepcbbagaaGreatBvl
set_option linter.unusedVariables false
set_option linter.unusedSimpArgs false
set_option maxRecDepth 100000
set_option maxHeartbeats 8000000
namespace Go.Proofs.YtpanapepcbbagaaGreat
open Go.RowKit Go.BigFrame Go.WideShapes Go.ChangeShapes Go.Deep
theorem aED(fl:List Value)(b:Bool)(w:World)(h:fl[6]?=some (.bool b)):Calls Tryz.prog 121 #[.agg fl.toArray] w fun e w'=>e=.returned (.bool b)∧Ext w w':=by
 go_enter Tryz.func121,Tryz.ntmps121
 go_wp2
 go_ret
 exact⟨rfl,(Ext.refl w).alloc _⟩
theorem xH(fl:List Value)(b:Bool)(w:World)(h:fl[6]?=some (.bool b)):Calls Tryz.prog 123 #[.agg fl.toArray] w fun e w'=>e=.returned (.bool (!b))∧Ext w w':=by
 go_enter Tryz.func123,Tryz.ntmps123
 go_wp2
 go_ret
 exact⟨rfl,(Ext.refl w).alloc _⟩
theorem aEE(fl:List Value)(b:Bool)(w:World)(h:fl[4]?=some (.bool b)):Calls Tryz.prog 125 #[.agg fl.toArray] w fun e w'=>e=.returned (.bool b)∧Ext w w':=by
 go_enter Tryz.func125,Tryz.ntmps125
 go_wp2
 go_ret
 exact⟨rfl,(Ext.refl w).alloc _⟩
theorem aEF(fl:List Value)(b:Bool)(w:World)(h:fl[4]?=some (.bool b)):Calls Tryz.prog 127 #[.agg fl.toArray] w fun e w'=>e=.returned (.bool (!b))∧Ext w w':=by
 go_enter Tryz.func127,Tryz.ntmps127
 go_wp2
 go_ret
 exact⟨rfl,(Ext.refl w).alloc _⟩
theorem aBV(g o:Nat)(u:Value)(w:World)(h7:w.cell? ⟨g,o+7,none⟩=some u)(hf:∀j,w.frozen? ⟨g,j,none⟩=false):
    Calls Tryz.prog 122 #[.pointer (some ⟨g,o,none⟩)] w fun e w'=>e=.returned (.tuple #[])∧w'=w.setCell ⟨g,o+7,none⟩ (.bool true):=by
 go_enter Tryz.func122,Tryz.ntmps122
 go_wp2
 go_end0
 exact⟨rfl,rfl⟩
theorem uP(g o:Nat)(u:Value)(w:World)(h5:w.cell? ⟨g,o+5,none⟩=some u)(hf:∀j,w.frozen? ⟨g,j,none⟩=false):
    Calls Tryz.prog 126 #[.pointer (some ⟨g,o,none⟩)] w fun e w'=>e=.returned (.tuple #[])∧w'=w.setCell ⟨g,o+5,none⟩ (.bool true):=by
 go_enter Tryz.func126,Tryz.ntmps126
 go_wp2
 go_end0
 exact⟨rfl,rfl⟩
theorem uQ(g o:Nat)(u v:Value)(w:World)(h7:w.cell? ⟨g,o+7,none⟩=some u)(h5:w.cell? ⟨g,o+5,none⟩=some v)(hf:∀j,w.frozen? ⟨g,j,none⟩=false):
    Calls Tryz.prog 124 #[.pointer (some ⟨g,o,none⟩)] w fun e w'=>e=.returned (.tuple #[])∧w'=(w.setCell ⟨g,o+7,none⟩ (.bool false)).setCell ⟨g,o+5,none⟩ (.bool false):=by
 go_enter Tryz.func124,Tryz.ntmps124
 go_wp2
 go_end0
 exact⟨rfl,rfl⟩
def pasRows:Array Value:=#[.int .i64 0,.func (.func 121) #[] #[],.func (.func 122) #[] #[],.int .i64 1,.int .i64 1,.func (.func 123) #[] #[],.func (.func 124) #[] #[],.int .i64 0,.int .i64 1,.func (.func 125) #[] #[],.func (.func 126) #[] #[],.int .i64 2,.int .i64 2,.func (.func 127) #[] #[],.func (.func 124) #[] #[],.int .i64 0]
theorem xI:(Tryz.prog.info? 124).map (·.size)=some pasRows.size:=by kernel_rfl
theorem fZ:(Tryz.prog.info? 123).map (·.size)=some 4:=by kernel_rfl
theorem gZ(w:World):Calls Tryz.prog 56 #[] w fun e w'=>e=.returned (.agg pasRows)∧Ext w w':=by
 have hi:=hD xI
 go_enter Tryz.func56,Tryz.ntmps56
 go_wp2_with (first|fail|((with_reducible refine aD 124 ?_);refine aE rfl rfl 124 _ _ _ rfl _ pasRows _ rfl ?_ rfl hi.out rfl rfl ?_;· rfl))
 exact bodyPost_ret (results_cell_row rfl _ _ _ _ pasRows (0,0) _ rfl (heap_alloc_new _ _) Tryz.underlying124 rfl hi.out) rfl ⟨rfl,(Ext.refl w).alloc _⟩
theorem jE(w:World):(Instr.index 124 (.agg pasRows) (.int .i64 0)).run Tryz.prog w=.ok (.agg #[.int .i64 0,.func (.func 121) #[] #[],.func (.func 122) #[] #[],.int .i64 1]) w:=by kernel_rfl
theorem jF(w:World):(Instr.index 124 (.agg pasRows) (.int .i64 1)).run Tryz.prog w=.ok (.agg #[.int .i64 1,.func (.func 123) #[] #[],.func (.func 124) #[] #[],.int .i64 0]) w:=by kernel_rfl
theorem jG(w:World):(Instr.index 124 (.agg pasRows) (.int .i64 2)).run Tryz.prog w=.ok (.agg #[.int .i64 1,.func (.func 125) #[] #[],.func (.func 126) #[] #[],.int .i64 2]) w:=by kernel_rfl
theorem jH(w:World):(Instr.index 124 (.agg pasRows) (.int .i64 3)).run Tryz.prog w=.ok (.agg #[.int .i64 2,.func (.func 127) #[] #[],.func (.func 124) #[] #[],.int .i64 0]) w:=by kernel_rfl
theorem bU{P:Program}{ops:Array Oper}{w:World}{Q:Act→Prop}{a:Act}{o:Oper}{rest:List Oper}(hw:Region.wanted o (yielded ops a.tmps)=true)(ty:TypeId)(x:Operand)(ho:o.op=.load ty x)(b off:Nat)(hx:a.eval x=.pointer (some ⟨b,off,none⟩))(cs:List Value)(d:TypeDesc)(hc:w.rangeAt b off cs)(hu:P.underlying ty=some d)(hd:d.isRow=true)(hi:(P.info? ty).map (·.size)=some cs.length)(h:wpStill P ops w Q rest (a.put o.dst (.agg cs.toArray))):wpStill P ops w Q (o :: rest) a :=
 wpStill_step fun K hK=>by
  rw[if_pos hw]
  unfold Oper.still execOp
  simp only[ho,hx,Instr.loadAt,Instr.sureAddr,Sem.run_bind,Sem.run_pure,Result.andThen_ok,run_loadVar_mid w b off ty cs d hc hu hd hi]
  exact⟨rfl,hK _ h⟩
def flags(ps:List Value)(k:Nat):List Value:=(ps.drop (k*89+22)).take 29
theorem cK{B:Br}{k j:Nat}(hj:j<29):(flags B.ps k)[j]?=B.ps[k*89+(22+j)]?:=by
 unfold flags
 rw[List.getElem?_take,if_pos hj,List.getElem?_drop,Nat.add_assoc]
theorem dL{w:World}{F:Nat→Prop}{X g:Nat}{B:Br}(h:BrG w F X g B){k:Nat}(hk:k<B.np):w.rangeAt g (k*89+22) (flags B.ps k):=fun j v hv=>by
 have hj:j<29:=by
  have:=(List.getElem?_eq_some_iff.1 hv).1
  simp[flags]at this;omega
 rw[Nat.add_assoc,h.cellg (bZ hk (by omega)),←cK hj]
 exact hv
theorem f5{B:Br}(ho:B.ok){k:Nat}(hk:k<B.np):(flags B.ps k).length=29:=by
 have:=fH ho hk
 simp[flags];omega
def fN(B:Br)(k:Nat):Br:=(B.setp k 29 (.bool true)).setp k 20 (.int .i64 1)
def fA(B:Br)(k:Nat):Br:=((B.setp k 29 (.bool false)).setp k 27 (.bool false)).setp k 20 (.int .i64 0)
def dN(B:Br)(k:Nat):Br:=(B.setp k 27 (.bool true)).setp k 20 (.int .i64 2)
def gT(B:Br)(k:Nat):Bool × Br :=
 if B.gi k 20=0 then if B.gb k 28=true then(true,fN B k)else(false,B)
 else if B.gi k 20=1 then if B.gb k 28=false then(true,fA B k)else if B.gb k 26=true then(true,dN B k)else(false,B)
 else if B.gi k 20=2 then if B.gb k 26=false then(true,fA B k)else(false,B)
 else(false,B)
theorem aGY(w:World)(F:Nat→Prop)(X g k:Nat)(B:Br)(h:BrG w F X g B)(ho:B.ok)(hk:k<B.np)(hk2:k<1000)(s0:B.gi k 20=0)(v0:B.gb k 28=true):
    Calls Tryz.prog 42 #[.pointer (some ⟨X,0,none⟩),.int .i64 k] w (aN w F X g (true,fN B k)):=by
 obtain⟨hX,hg,hne⟩:=h.lt
 obtain⟨cap,c17,hc1,hc2⟩:=h.cell17 ho
 have P20:=hD (qi h ho hk 20 rfl)
 have P27:=hD (qb h ho hk 27)
 have P29:=hD (qb h ho hk 29)
 have f6:=hD ((cK (B:=B) (k:=k) (j:=6) (by decide)).trans (ho.gb hk 28 rfl))
 have f4:=hD ((cK (B:=B) (k:=k) (j:=4) (by decide)).trans (ho.gb hk 26 rfl))
 have hfi:=hD (show(Tryz.prog.info? 58).map (·.size)=some (flags B.ps k).length by rw[f5 ho hk];exact b7)
 have H:=hD h
 have V0:=hD v0
 clear h v0
 have S20:=hD s0
 clear s0
 have hi:=hD fZ
 have i0:=jE
 have i1:=jF
 have i2:=jG
 have i3:=jH
 go_enter Tryz.func42,Tryz.ntmps42
 go_wp2_with fail
 refine(gZ _).mono ?_
 rintro e w0 ⟨rfl,hx0⟩
 have hg0:=nL hg hx0.size
 have hX0:=nL hX hx0.size
 clear c17
 go_wp2_with fail
 refine wp_loop_rounds 5 ?_
 rw[rounds_succ]
 go_wp2_with (first|fail|((with_reducible refine aD 123 ?_);refine aE rfl rfl 123 _ _ _ rfl _ #[.int .i64 0,.func (.func 121) #[] #[],.func (.func 122) #[] #[],.int .i64 1] _ rfl ?_ rfl hi.out rfl rfl ?_;· simp))
 refine aS 15 (by kernel_rfl) (by kernel_rfl) ?_
 intro u1 hu1
 have hy1:Ext w u1:=by
  rw[hu1]
  exact(hx0.alloc _).drew
 have b0_1:u1.cell? ⟨w0.heap.size,0,none⟩=some (.int .i64 0):=by
  rw[hu1,World.cell?_drew]
  exact World.cell?_alloc_at _ _ _ _ rfl
 have b1_1:u1.cell? ⟨w0.heap.size,1,none⟩=some (.func (.func 121) #[] #[]):=by
  rw[hu1,World.cell?_drew]
  exact World.cell?_alloc_at _ _ _ _ rfl
 have b2_1:u1.cell? ⟨w0.heap.size,2,none⟩=some (.func (.func 122) #[] #[]):=by
  rw[hu1,World.cell?_drew]
  exact World.cell?_alloc_at _ _ _ _ rfl
 have b3_1:u1.cell? ⟨w0.heap.size,3,none⟩=some (.int .i64 1):=by
  rw[hu1,World.cell?_drew]
  exact World.cell?_alloc_at _ _ _ _ rfl
 have hz1:w0.heap.size<u1.heap.size:=by rw[hu1];simp
 have hgn1:g≠w0.heap.size:=Nat.ne_of_lt hg0
 clear hu1
 have q20:=xc hy1 hg P20.out
 rw[S20.out]at q20
 have hr1:=hD (dL (H.out.ext hy1) hk)
 simp only[List.take_succ_cons,List.take_zero,List.drop_succ_cons,List.drop_zero]
 iterate 14 still_step
 refine bU rfl 58 _ rfl g (k*89+22) rfl (flags B.ps k) _ hr1.out Tryz.underlying58 rfl hfi.out ?_
 simp only[Act.put,List.setIfInBounds_toArray,List.set_cons_succ,List.set_cons_zero]
 refine wpStill_nil ?_
 go_wp2_with fail
 refine(aED _ _ _ f6.out).mono ?_
 rw[V0.out]
 rintro e w1 ⟨rfl,hxx1⟩
 have hx1:=hy1.trans hxx1
 have d2:=xc hxx1 hz1 b2_1
 have d3:=xc hxx1 hz1 b3_1
 clear b0_1 b1_1 q20 hxx1 b2_1 b3_1
 have hg1:=nL hg hx1.size
 have hX1:=nL hX hx1.size
 go_wp2_with fail
 refine aS 5 (by kernel_rfl) (by kernel_rfl) ?_
 intro w9 hw9
 have hx9:Ext w w9:=by
  rw[hw9]
  exact hx1.drew
 have e2:w9.cell? ⟨w0.heap.size,2,none⟩=some _:=(show w9.cell? _=w1.cell? _ by rw[hw9,World.cell?_drew]).trans d2
 have e3:w9.cell? ⟨w0.heap.size,3,none⟩=some _:=(show w9.cell? _=w1.cell? _ by rw[hw9,World.cell?_drew]).trans d3
 clear hw9 d2 d3
 have p20:=xc hx9 hg P20.out
 have p27:=xc hx9 hg P27.out
 have p29:=xc hx9 hg P29.out
 have hf9:∀j,w9.frozen? ⟨g,j,none⟩=false:=fun j=>(H.out.ext hx9).frozen j
 simp only[List.take_succ_cons,List.take_zero,List.drop_succ_cons,List.drop_zero]
 repeat still_step
 refine wpStill_nil ?_
 go_wp2_with fail
 refine(aBV g (k*89+22) _ w9 p29 hf9).mono ?_
 rintro e w3 ⟨rfl,rfl⟩
 go_wp2_with fail
 go_ret
 exact⟨rfl,(((H.out.ext hx9).setp (j:=29) hk (by decide) _).setp (j:=20) hk (by decide) _),(((hx9.mut F).setCell (.inl H.out.F2) _).setCell (.inl H.out.F2) _)⟩
theorem aGZ(w:World)(F:Nat→Prop)(X g k:Nat)(B:Br)(h:BrG w F X g B)(ho:B.ok)(hk:k<B.np)(hk2:k<1000)(s0:B.gi k 20=0)(v0:B.gb k 28=false):
    Calls Tryz.prog 42 #[.pointer (some ⟨X,0,none⟩),.int .i64 k] w (aN w F X g (false,B)):=by
 obtain⟨hX,hg,hne⟩:=h.lt
 obtain⟨cap,c17,hc1,hc2⟩:=h.cell17 ho
 have P20:=hD (qi h ho hk 20 rfl)
 have P27:=hD (qb h ho hk 27)
 have P29:=hD (qb h ho hk 29)
 have f6:=hD ((cK (B:=B) (k:=k) (j:=6) (by decide)).trans (ho.gb hk 28 rfl))
 have f4:=hD ((cK (B:=B) (k:=k) (j:=4) (by decide)).trans (ho.gb hk 26 rfl))
 have hfi:=hD (show(Tryz.prog.info? 58).map (·.size)=some (flags B.ps k).length by rw[f5 ho hk];exact b7)
 have H:=hD h
 have V0:=hD v0
 clear h v0
 have S20:=hD s0
 clear s0
 have hi:=hD fZ
 have i0:=jE
 have i1:=jF
 have i2:=jG
 have i3:=jH
 go_enter Tryz.func42,Tryz.ntmps42
 go_wp2_with fail
 refine(gZ _).mono ?_
 rintro e w0 ⟨rfl,hx0⟩
 have hg0:=nL hg hx0.size
 have hX0:=nL hX hx0.size
 clear c17
 go_wp2_with fail
 refine wp_loop_rounds 5 ?_
 rw[rounds_succ]
 go_wp2_with (first|fail|((with_reducible refine aD 123 ?_);refine aE rfl rfl 123 _ _ _ rfl _ #[.int .i64 0,.func (.func 121) #[] #[],.func (.func 122) #[] #[],.int .i64 1] _ rfl ?_ rfl hi.out rfl rfl ?_;· simp))
 refine aS 15 (by kernel_rfl) (by kernel_rfl) ?_
 intro u1 hu1
 have hy1:Ext w u1:=by
  rw[hu1]
  exact(hx0.alloc _).drew
 have b0_1:u1.cell? ⟨w0.heap.size,0,none⟩=some (.int .i64 0):=by
  rw[hu1,World.cell?_drew]
  exact World.cell?_alloc_at _ _ _ _ rfl
 have b1_1:u1.cell? ⟨w0.heap.size,1,none⟩=some (.func (.func 121) #[] #[]):=by
  rw[hu1,World.cell?_drew]
  exact World.cell?_alloc_at _ _ _ _ rfl
 have hz1:w0.heap.size<u1.heap.size:=by rw[hu1];simp
 have hgn1:g≠w0.heap.size:=Nat.ne_of_lt hg0
 clear hu1
 have q20:=xc hy1 hg P20.out
 rw[S20.out]at q20
 have hr1:=hD (dL (H.out.ext hy1) hk)
 simp only[List.take_succ_cons,List.take_zero,List.drop_succ_cons,List.drop_zero]
 iterate 14 still_step
 refine bU rfl 58 _ rfl g (k*89+22) rfl (flags B.ps k) _ hr1.out Tryz.underlying58 rfl hfi.out ?_
 simp only[Act.put,List.setIfInBounds_toArray,List.set_cons_succ,List.set_cons_zero]
 refine wpStill_nil ?_
 go_wp2_with fail
 refine(aED _ _ _ f6.out).mono ?_
 rw[V0.out]
 rintro e w1 ⟨rfl,hxx1⟩
 have hx1:=hy1.trans hxx1
 clear b0_1 b1_1 q20 hxx1
 have hg1:=nL hg hx1.size
 have hX1:=nL hX hx1.size
 go_wp2_with fail
 rw[rounds_succ]
 go_wp2_with (first|fail|((with_reducible refine aD 123 ?_);refine aE rfl rfl 123 _ _ _ rfl _ #[.int .i64 1,.func (.func 123) #[] #[],.func (.func 124) #[] #[],.int .i64 0] _ rfl ?_ rfl hi.out rfl rfl ?_;· simp))
 have q20:=xc hx1 hg P20.out
 rw[S20.out]at q20
 go_quiet (fail)
 have hy:Ext w (World.drewN (w1.alloc (.cells #[.int .i64 1,.func (.func 123) #[] #[],.func (.func 124) #[] #[],.int .i64 0] 123)) nq):=(hx1.alloc _).drewN _
 go_wp2_with fail
 generalize World.drewN _ nq=w2 at hy ⊢
 have hx2:=hy
 clear q20 hg1 hX1 hy
 have hg2:=nL hg hx2.size
 have hX2:=nL hX hx2.size
 rw[rounds_succ]
 go_wp2_with (first|fail|((with_reducible refine aD 123 ?_);refine aE rfl rfl 123 _ _ _ rfl _ #[.int .i64 1,.func (.func 125) #[] #[],.func (.func 126) #[] #[],.int .i64 2] _ rfl ?_ rfl hi.out rfl rfl ?_;· simp))
 have q20:=xc hx2 hg P20.out
 rw[S20.out]at q20
 go_quiet (fail)
 have hy:Ext w (World.drewN (w2.alloc (.cells #[.int .i64 1,.func (.func 125) #[] #[],.func (.func 126) #[] #[],.int .i64 2] 123)) nq):=(hx2.alloc _).drewN _
 go_wp2_with fail
 generalize World.drewN _ nq=w3 at hy ⊢
 have hx3:=hy
 clear q20 hg2 hX2 hy
 have hg3:=nL hg hx3.size
 have hX3:=nL hX hx3.size
 rw[rounds_succ]
 go_wp2_with (first|fail|((with_reducible refine aD 123 ?_);refine aE rfl rfl 123 _ _ _ rfl _ #[.int .i64 2,.func (.func 127) #[] #[],.func (.func 124) #[] #[],.int .i64 0] _ rfl ?_ rfl hi.out rfl rfl ?_;· simp))
 have q20:=xc hx3 hg P20.out
 rw[S20.out]at q20
 go_quiet (fail)
 have hy:Ext w (World.drewN (w3.alloc (.cells #[.int .i64 2,.func (.func 127) #[] #[],.func (.func 124) #[] #[],.int .i64 0] 123)) nq):=(hx3.alloc _).drewN _
 go_wp2_with fail
 generalize World.drewN _ nq=w4 at hy ⊢
 have hx4:=hy
 clear q20 hg3 hX3 hy
 have hg4:=nL hg hx4.size
 have hX4:=nL hX hx4.size
 rw[rounds_succ]
 go_wp2_with fail
 go_ret
 exact⟨rfl,H.out.ext hx4,hx4.mut F⟩
theorem aG0(w:World)(F:Nat→Prop)(X g k:Nat)(B:Br)(h:BrG w F X g B)(ho:B.ok)(hk:k<B.np)(hk2:k<1000)(s0:B.gi k 20=1)(v0:B.gb k 28=false):
    Calls Tryz.prog 42 #[.pointer (some ⟨X,0,none⟩),.int .i64 k] w (aN w F X g (true,fA B k)):=by
 obtain⟨hX,hg,hne⟩:=h.lt
 obtain⟨cap,c17,hc1,hc2⟩:=h.cell17 ho
 have P20:=hD (qi h ho hk 20 rfl)
 have P27:=hD (qb h ho hk 27)
 have P29:=hD (qb h ho hk 29)
 have f6:=hD ((cK (B:=B) (k:=k) (j:=6) (by decide)).trans (ho.gb hk 28 rfl))
 have f4:=hD ((cK (B:=B) (k:=k) (j:=4) (by decide)).trans (ho.gb hk 26 rfl))
 have hfi:=hD (show(Tryz.prog.info? 58).map (·.size)=some (flags B.ps k).length by rw[f5 ho hk];exact b7)
 have H:=hD h
 have V0:=hD v0
 clear h v0
 have S20:=hD s0
 clear s0
 have hi:=hD fZ
 have i0:=jE
 have i1:=jF
 have i2:=jG
 have i3:=jH
 go_enter Tryz.func42,Tryz.ntmps42
 go_wp2_with fail
 refine(gZ _).mono ?_
 rintro e w0 ⟨rfl,hx0⟩
 have hg0:=nL hg hx0.size
 have hX0:=nL hX hx0.size
 clear c17
 go_wp2_with fail
 refine wp_loop_rounds 5 ?_
 rw[rounds_succ]
 go_wp2_with (first|fail|((with_reducible refine aD 123 ?_);refine aE rfl rfl 123 _ _ _ rfl _ #[.int .i64 0,.func (.func 121) #[] #[],.func (.func 122) #[] #[],.int .i64 1] _ rfl ?_ rfl hi.out rfl rfl ?_;· simp))
 have q20:=xc hx0 hg P20.out
 rw[S20.out]at q20
 go_quiet (fail)
 have hy:Ext w (World.drewN (w0.alloc (.cells #[.int .i64 0,.func (.func 121) #[] #[],.func (.func 122) #[] #[],.int .i64 1] 123)) nq):=(hx0.alloc _).drewN _
 go_wp2_with fail
 generalize World.drewN _ nq=w1 at hy ⊢
 have hx1:=hy
 clear q20 hg0 hX0 hy
 have hg1:=nL hg hx1.size
 have hX1:=nL hX hx1.size
 rw[rounds_succ]
 go_wp2_with (first|fail|((with_reducible refine aD 123 ?_);refine aE rfl rfl 123 _ _ _ rfl _ #[.int .i64 1,.func (.func 123) #[] #[],.func (.func 124) #[] #[],.int .i64 0] _ rfl ?_ rfl hi.out rfl rfl ?_;· simp))
 refine aS 15 (by kernel_rfl) (by kernel_rfl) ?_
 intro u2 hu2
 have hy2:Ext w u2:=by
  rw[hu2]
  exact(hx1.alloc _).drew
 have b0_2:u2.cell? ⟨w1.heap.size,0,none⟩=some (.int .i64 1):=by
  rw[hu2,World.cell?_drew]
  exact World.cell?_alloc_at _ _ _ _ rfl
 have b1_2:u2.cell? ⟨w1.heap.size,1,none⟩=some (.func (.func 123) #[] #[]):=by
  rw[hu2,World.cell?_drew]
  exact World.cell?_alloc_at _ _ _ _ rfl
 have b2_2:u2.cell? ⟨w1.heap.size,2,none⟩=some (.func (.func 124) #[] #[]):=by
  rw[hu2,World.cell?_drew]
  exact World.cell?_alloc_at _ _ _ _ rfl
 have b3_2:u2.cell? ⟨w1.heap.size,3,none⟩=some (.int .i64 0):=by
  rw[hu2,World.cell?_drew]
  exact World.cell?_alloc_at _ _ _ _ rfl
 have hz2:w1.heap.size<u2.heap.size:=by rw[hu2];simp
 have hgn2:g≠w1.heap.size:=Nat.ne_of_lt hg1
 clear hu2
 have q20:=xc hy2 hg P20.out
 rw[S20.out]at q20
 have hr2:=hD (dL (H.out.ext hy2) hk)
 simp only[List.take_succ_cons,List.take_zero,List.drop_succ_cons,List.drop_zero]
 iterate 14 still_step
 refine bU rfl 58 _ rfl g (k*89+22) rfl (flags B.ps k) _ hr2.out Tryz.underlying58 rfl hfi.out ?_
 simp only[Act.put,List.setIfInBounds_toArray,List.set_cons_succ,List.set_cons_zero]
 refine wpStill_nil ?_
 go_wp2_with fail
 refine(xH _ _ _ f6.out).mono ?_
 rw[V0.out]
 rintro e w2 ⟨rfl,hxx2⟩
 have hx2:=hy2.trans hxx2
 have d2:=xc hxx2 hz2 b2_2
 have d3:=xc hxx2 hz2 b3_2
 clear b0_2 b1_2 q20 hxx2 b2_2 b3_2
 have hg2:=nL hg hx2.size
 have hX2:=nL hX hx2.size
 go_wp2_with fail
 refine aS 5 (by kernel_rfl) (by kernel_rfl) ?_
 intro w9 hw9
 have hx9:Ext w w9:=by
  rw[hw9]
  exact hx2.drew
 have e2:w9.cell? ⟨w1.heap.size,2,none⟩=some _:=(show w9.cell? _=w2.cell? _ by rw[hw9,World.cell?_drew]).trans d2
 have e3:w9.cell? ⟨w1.heap.size,3,none⟩=some _:=(show w9.cell? _=w2.cell? _ by rw[hw9,World.cell?_drew]).trans d3
 clear hw9 d2 d3
 have p20:=xc hx9 hg P20.out
 have p27:=xc hx9 hg P27.out
 have p29:=xc hx9 hg P29.out
 have hf9:∀j,w9.frozen? ⟨g,j,none⟩=false:=fun j=>(H.out.ext hx9).frozen j
 simp only[List.take_succ_cons,List.take_zero,List.drop_succ_cons,List.drop_zero]
 repeat still_step
 refine wpStill_nil ?_
 go_wp2_with fail
 refine(uQ g (k*89+22) _ _ w9 p29 p27 hf9).mono ?_
 rintro e w3 ⟨rfl,rfl⟩
 go_wp2_with fail
 go_ret
 exact⟨rfl,((((H.out.ext hx9).setp (j:=29) hk (by decide) _).setp (j:=27) hk (by decide) _).setp (j:=20) hk (by decide) _),((((hx9.mut F).setCell (.inl H.out.F2) _).setCell (.inl H.out.F2) _).setCell (.inl H.out.F2) _)⟩
theorem aG1(w:World)(F:Nat→Prop)(X g k:Nat)(B:Br)(h:BrG w F X g B)(ho:B.ok)(hk:k<B.np)(hk2:k<1000)(s0:B.gi k 20=1)(v0:B.gb k 28=true)(v1:B.gb k 26=true):
    Calls Tryz.prog 42 #[.pointer (some ⟨X,0,none⟩),.int .i64 k] w (aN w F X g (true,dN B k)):=by
 obtain⟨hX,hg,hne⟩:=h.lt
 obtain⟨cap,c17,hc1,hc2⟩:=h.cell17 ho
 have P20:=hD (qi h ho hk 20 rfl)
 have P27:=hD (qb h ho hk 27)
 have P29:=hD (qb h ho hk 29)
 have f6:=hD ((cK (B:=B) (k:=k) (j:=6) (by decide)).trans (ho.gb hk 28 rfl))
 have f4:=hD ((cK (B:=B) (k:=k) (j:=4) (by decide)).trans (ho.gb hk 26 rfl))
 have hfi:=hD (show(Tryz.prog.info? 58).map (·.size)=some (flags B.ps k).length by rw[f5 ho hk];exact b7)
 have H:=hD h
 have V0:=hD v0
 have V1:=hD v1
 clear h v0 v1
 have S20:=hD s0
 clear s0
 have hi:=hD fZ
 have i0:=jE
 have i1:=jF
 have i2:=jG
 have i3:=jH
 go_enter Tryz.func42,Tryz.ntmps42
 go_wp2_with fail
 refine(gZ _).mono ?_
 rintro e w0 ⟨rfl,hx0⟩
 have hg0:=nL hg hx0.size
 have hX0:=nL hX hx0.size
 clear c17
 go_wp2_with fail
 refine wp_loop_rounds 5 ?_
 rw[rounds_succ]
 go_wp2_with (first|fail|((with_reducible refine aD 123 ?_);refine aE rfl rfl 123 _ _ _ rfl _ #[.int .i64 0,.func (.func 121) #[] #[],.func (.func 122) #[] #[],.int .i64 1] _ rfl ?_ rfl hi.out rfl rfl ?_;· simp))
 have q20:=xc hx0 hg P20.out
 rw[S20.out]at q20
 go_quiet (fail)
 have hy:Ext w (World.drewN (w0.alloc (.cells #[.int .i64 0,.func (.func 121) #[] #[],.func (.func 122) #[] #[],.int .i64 1] 123)) nq):=(hx0.alloc _).drewN _
 go_wp2_with fail
 generalize World.drewN _ nq=w1 at hy ⊢
 have hx1:=hy
 clear q20 hg0 hX0 hy
 have hg1:=nL hg hx1.size
 have hX1:=nL hX hx1.size
 rw[rounds_succ]
 go_wp2_with (first|fail|((with_reducible refine aD 123 ?_);refine aE rfl rfl 123 _ _ _ rfl _ #[.int .i64 1,.func (.func 123) #[] #[],.func (.func 124) #[] #[],.int .i64 0] _ rfl ?_ rfl hi.out rfl rfl ?_;· simp))
 refine aS 15 (by kernel_rfl) (by kernel_rfl) ?_
 intro u2 hu2
 have hy2:Ext w u2:=by
  rw[hu2]
  exact(hx1.alloc _).drew
 have b0_2:u2.cell? ⟨w1.heap.size,0,none⟩=some (.int .i64 1):=by
  rw[hu2,World.cell?_drew]
  exact World.cell?_alloc_at _ _ _ _ rfl
 have b1_2:u2.cell? ⟨w1.heap.size,1,none⟩=some (.func (.func 123) #[] #[]):=by
  rw[hu2,World.cell?_drew]
  exact World.cell?_alloc_at _ _ _ _ rfl
 have hz2:w1.heap.size<u2.heap.size:=by rw[hu2];simp
 have hgn2:g≠w1.heap.size:=Nat.ne_of_lt hg1
 clear hu2
 have q20:=xc hy2 hg P20.out
 rw[S20.out]at q20
 have hr2:=hD (dL (H.out.ext hy2) hk)
 simp only[List.take_succ_cons,List.take_zero,List.drop_succ_cons,List.drop_zero]
 iterate 14 still_step
 refine bU rfl 58 _ rfl g (k*89+22) rfl (flags B.ps k) _ hr2.out Tryz.underlying58 rfl hfi.out ?_
 simp only[Act.put,List.setIfInBounds_toArray,List.set_cons_succ,List.set_cons_zero]
 refine wpStill_nil ?_
 go_wp2_with fail
 refine(xH _ _ _ f6.out).mono ?_
 rw[V0.out]
 rintro e w2 ⟨rfl,hxx2⟩
 have hx2:=hy2.trans hxx2
 clear b0_2 b1_2 q20 hxx2
 have hg2:=nL hg hx2.size
 have hX2:=nL hX hx2.size
 go_wp2_with fail
 rw[rounds_succ]
 go_wp2_with (first|fail|((with_reducible refine aD 123 ?_);refine aE rfl rfl 123 _ _ _ rfl _ #[.int .i64 1,.func (.func 125) #[] #[],.func (.func 126) #[] #[],.int .i64 2] _ rfl ?_ rfl hi.out rfl rfl ?_;· simp))
 refine aS 15 (by kernel_rfl) (by kernel_rfl) ?_
 intro u3 hu3
 have hy3:Ext w u3:=by
  rw[hu3]
  exact(hx2.alloc _).drew
 have b0_3:u3.cell? ⟨w2.heap.size,0,none⟩=some (.int .i64 1):=by
  rw[hu3,World.cell?_drew]
  exact World.cell?_alloc_at _ _ _ _ rfl
 have b1_3:u3.cell? ⟨w2.heap.size,1,none⟩=some (.func (.func 125) #[] #[]):=by
  rw[hu3,World.cell?_drew]
  exact World.cell?_alloc_at _ _ _ _ rfl
 have b2_3:u3.cell? ⟨w2.heap.size,2,none⟩=some (.func (.func 126) #[] #[]):=by
  rw[hu3,World.cell?_drew]
  exact World.cell?_alloc_at _ _ _ _ rfl
 have b3_3:u3.cell? ⟨w2.heap.size,3,none⟩=some (.int .i64 2):=by
  rw[hu3,World.cell?_drew]
  exact World.cell?_alloc_at _ _ _ _ rfl
 have hz3:w2.heap.size<u3.heap.size:=by rw[hu3];simp
 have hgn3:g≠w2.heap.size:=Nat.ne_of_lt hg2
 clear hu3
 have q20:=xc hy3 hg P20.out
 rw[S20.out]at q20
 have hr3:=hD (dL (H.out.ext hy3) hk)
 simp only[List.take_succ_cons,List.take_zero,List.drop_succ_cons,List.drop_zero]
 iterate 14 still_step
 refine bU rfl 58 _ rfl g (k*89+22) rfl (flags B.ps k) _ hr3.out Tryz.underlying58 rfl hfi.out ?_
 simp only[Act.put,List.setIfInBounds_toArray,List.set_cons_succ,List.set_cons_zero]
 refine wpStill_nil ?_
 go_wp2_with fail
 refine(aEE _ _ _ f4.out).mono ?_
 rw[V1.out]
 rintro e w3 ⟨rfl,hxx3⟩
 have hx3:=hy3.trans hxx3
 have d2:=xc hxx3 hz3 b2_3
 have d3:=xc hxx3 hz3 b3_3
 clear b0_3 b1_3 q20 hxx3 b2_3 b3_3
 have hg3:=nL hg hx3.size
 have hX3:=nL hX hx3.size
 go_wp2_with fail
 refine aS 5 (by kernel_rfl) (by kernel_rfl) ?_
 intro w9 hw9
 have hx9:Ext w w9:=by
  rw[hw9]
  exact hx3.drew
 have e2:w9.cell? ⟨w2.heap.size,2,none⟩=some _:=(show w9.cell? _=w3.cell? _ by rw[hw9,World.cell?_drew]).trans d2
 have e3:w9.cell? ⟨w2.heap.size,3,none⟩=some _:=(show w9.cell? _=w3.cell? _ by rw[hw9,World.cell?_drew]).trans d3
 clear hw9 d2 d3
 have p20:=xc hx9 hg P20.out
 have p27:=xc hx9 hg P27.out
 have p29:=xc hx9 hg P29.out
 have hf9:∀j,w9.frozen? ⟨g,j,none⟩=false:=fun j=>(H.out.ext hx9).frozen j
 simp only[List.take_succ_cons,List.take_zero,List.drop_succ_cons,List.drop_zero]
 repeat still_step
 refine wpStill_nil ?_
 go_wp2_with fail
 refine(uP g (k*89+22) _ w9 p27 hf9).mono ?_
 rintro e w3 ⟨rfl,rfl⟩
 go_wp2_with fail
 go_ret
 exact⟨rfl,(((H.out.ext hx9).setp (j:=27) hk (by decide) _).setp (j:=20) hk (by decide) _),(((hx9.mut F).setCell (.inl H.out.F2) _).setCell (.inl H.out.F2) _)⟩
theorem aG2(w:World)(F:Nat→Prop)(X g k:Nat)(B:Br)(h:BrG w F X g B)(ho:B.ok)(hk:k<B.np)(hk2:k<1000)(s0:B.gi k 20=1)(v0:B.gb k 28=true)(v1:B.gb k 26=false):
    Calls Tryz.prog 42 #[.pointer (some ⟨X,0,none⟩),.int .i64 k] w (aN w F X g (false,B)):=by
 obtain⟨hX,hg,hne⟩:=h.lt
 obtain⟨cap,c17,hc1,hc2⟩:=h.cell17 ho
 have P20:=hD (qi h ho hk 20 rfl)
 have P27:=hD (qb h ho hk 27)
 have P29:=hD (qb h ho hk 29)
 have f6:=hD ((cK (B:=B) (k:=k) (j:=6) (by decide)).trans (ho.gb hk 28 rfl))
 have f4:=hD ((cK (B:=B) (k:=k) (j:=4) (by decide)).trans (ho.gb hk 26 rfl))
 have hfi:=hD (show(Tryz.prog.info? 58).map (·.size)=some (flags B.ps k).length by rw[f5 ho hk];exact b7)
 have H:=hD h
 have V0:=hD v0
 have V1:=hD v1
 clear h v0 v1
 have S20:=hD s0
 clear s0
 have hi:=hD fZ
 have i0:=jE
 have i1:=jF
 have i2:=jG
 have i3:=jH
 go_enter Tryz.func42,Tryz.ntmps42
 go_wp2_with fail
 refine(gZ _).mono ?_
 rintro e w0 ⟨rfl,hx0⟩
 have hg0:=nL hg hx0.size
 have hX0:=nL hX hx0.size
 clear c17
 go_wp2_with fail
 refine wp_loop_rounds 5 ?_
 rw[rounds_succ]
 go_wp2_with (first|fail|((with_reducible refine aD 123 ?_);refine aE rfl rfl 123 _ _ _ rfl _ #[.int .i64 0,.func (.func 121) #[] #[],.func (.func 122) #[] #[],.int .i64 1] _ rfl ?_ rfl hi.out rfl rfl ?_;· simp))
 have q20:=xc hx0 hg P20.out
 rw[S20.out]at q20
 go_quiet (fail)
 have hy:Ext w (World.drewN (w0.alloc (.cells #[.int .i64 0,.func (.func 121) #[] #[],.func (.func 122) #[] #[],.int .i64 1] 123)) nq):=(hx0.alloc _).drewN _
 go_wp2_with fail
 generalize World.drewN _ nq=w1 at hy ⊢
 have hx1:=hy
 clear q20 hg0 hX0 hy
 have hg1:=nL hg hx1.size
 have hX1:=nL hX hx1.size
 rw[rounds_succ]
 go_wp2_with (first|fail|((with_reducible refine aD 123 ?_);refine aE rfl rfl 123 _ _ _ rfl _ #[.int .i64 1,.func (.func 123) #[] #[],.func (.func 124) #[] #[],.int .i64 0] _ rfl ?_ rfl hi.out rfl rfl ?_;· simp))
 refine aS 15 (by kernel_rfl) (by kernel_rfl) ?_
 intro u2 hu2
 have hy2:Ext w u2:=by
  rw[hu2]
  exact(hx1.alloc _).drew
 have b0_2:u2.cell? ⟨w1.heap.size,0,none⟩=some (.int .i64 1):=by
  rw[hu2,World.cell?_drew]
  exact World.cell?_alloc_at _ _ _ _ rfl
 have b1_2:u2.cell? ⟨w1.heap.size,1,none⟩=some (.func (.func 123) #[] #[]):=by
  rw[hu2,World.cell?_drew]
  exact World.cell?_alloc_at _ _ _ _ rfl
 have hz2:w1.heap.size<u2.heap.size:=by rw[hu2];simp
 have hgn2:g≠w1.heap.size:=Nat.ne_of_lt hg1
 clear hu2
 have q20:=xc hy2 hg P20.out
 rw[S20.out]at q20
 have hr2:=hD (dL (H.out.ext hy2) hk)
 simp only[List.take_succ_cons,List.take_zero,List.drop_succ_cons,List.drop_zero]
 iterate 14 still_step
 refine bU rfl 58 _ rfl g (k*89+22) rfl (flags B.ps k) _ hr2.out Tryz.underlying58 rfl hfi.out ?_
 simp only[Act.put,List.setIfInBounds_toArray,List.set_cons_succ,List.set_cons_zero]
 refine wpStill_nil ?_
 go_wp2_with fail
 refine(xH _ _ _ f6.out).mono ?_
 rw[V0.out]
 rintro e w2 ⟨rfl,hxx2⟩
 have hx2:=hy2.trans hxx2
 clear b0_2 b1_2 q20 hxx2
 have hg2:=nL hg hx2.size
 have hX2:=nL hX hx2.size
 go_wp2_with fail
 rw[rounds_succ]
 go_wp2_with (first|fail|((with_reducible refine aD 123 ?_);refine aE rfl rfl 123 _ _ _ rfl _ #[.int .i64 1,.func (.func 125) #[] #[],.func (.func 126) #[] #[],.int .i64 2] _ rfl ?_ rfl hi.out rfl rfl ?_;· simp))
 refine aS 15 (by kernel_rfl) (by kernel_rfl) ?_
 intro u3 hu3
 have hy3:Ext w u3:=by
  rw[hu3]
  exact(hx2.alloc _).drew
 have b0_3:u3.cell? ⟨w2.heap.size,0,none⟩=some (.int .i64 1):=by
  rw[hu3,World.cell?_drew]
  exact World.cell?_alloc_at _ _ _ _ rfl
 have b1_3:u3.cell? ⟨w2.heap.size,1,none⟩=some (.func (.func 125) #[] #[]):=by
  rw[hu3,World.cell?_drew]
  exact World.cell?_alloc_at _ _ _ _ rfl
 have hz3:w2.heap.size<u3.heap.size:=by rw[hu3];simp
 have hgn3:g≠w2.heap.size:=Nat.ne_of_lt hg2
 clear hu3
 have q20:=xc hy3 hg P20.out
 rw[S20.out]at q20
 have hr3:=hD (dL (H.out.ext hy3) hk)
 simp only[List.take_succ_cons,List.take_zero,List.drop_succ_cons,List.drop_zero]
 iterate 14 still_step
 refine bU rfl 58 _ rfl g (k*89+22) rfl (flags B.ps k) _ hr3.out Tryz.underlying58 rfl hfi.out ?_
 simp only[Act.put,List.setIfInBounds_toArray,List.set_cons_succ,List.set_cons_zero]
 refine wpStill_nil ?_
 go_wp2_with fail
 refine(aEE _ _ _ f4.out).mono ?_
 rw[V1.out]
 rintro e w3 ⟨rfl,hxx3⟩
 have hx3:=hy3.trans hxx3
 clear b0_3 b1_3 q20 hxx3
 have hg3:=nL hg hx3.size
 have hX3:=nL hX hx3.size
 go_wp2_with fail
 rw[rounds_succ]
 go_wp2_with (first|fail|((with_reducible refine aD 123 ?_);refine aE rfl rfl 123 _ _ _ rfl _ #[.int .i64 2,.func (.func 127) #[] #[],.func (.func 124) #[] #[],.int .i64 0] _ rfl ?_ rfl hi.out rfl rfl ?_;· simp))
 have q20:=xc hx3 hg P20.out
 rw[S20.out]at q20
 go_quiet (fail)
 have hy:Ext w (World.drewN (w3.alloc (.cells #[.int .i64 2,.func (.func 127) #[] #[],.func (.func 124) #[] #[],.int .i64 0] 123)) nq):=(hx3.alloc _).drewN _
 go_wp2_with fail
 generalize World.drewN _ nq=w4 at hy ⊢
 have hx4:=hy
 clear q20 hg3 hX3 hy
 have hg4:=nL hg hx4.size
 have hX4:=nL hX hx4.size
 rw[rounds_succ]
 go_wp2_with fail
 go_ret
 exact⟨rfl,H.out.ext hx4,hx4.mut F⟩
theorem aG3(w:World)(F:Nat→Prop)(X g k:Nat)(B:Br)(h:BrG w F X g B)(ho:B.ok)(hk:k<B.np)(hk2:k<1000)(s0:B.gi k 20=2)(v0:B.gb k 26=false):
    Calls Tryz.prog 42 #[.pointer (some ⟨X,0,none⟩),.int .i64 k] w (aN w F X g (true,fA B k)):=by
 obtain⟨hX,hg,hne⟩:=h.lt
 obtain⟨cap,c17,hc1,hc2⟩:=h.cell17 ho
 have P20:=hD (qi h ho hk 20 rfl)
 have P27:=hD (qb h ho hk 27)
 have P29:=hD (qb h ho hk 29)
 have f6:=hD ((cK (B:=B) (k:=k) (j:=6) (by decide)).trans (ho.gb hk 28 rfl))
 have f4:=hD ((cK (B:=B) (k:=k) (j:=4) (by decide)).trans (ho.gb hk 26 rfl))
 have hfi:=hD (show(Tryz.prog.info? 58).map (·.size)=some (flags B.ps k).length by rw[f5 ho hk];exact b7)
 have H:=hD h
 have V0:=hD v0
 clear h v0
 have S20:=hD s0
 clear s0
 have hi:=hD fZ
 have i0:=jE
 have i1:=jF
 have i2:=jG
 have i3:=jH
 go_enter Tryz.func42,Tryz.ntmps42
 go_wp2_with fail
 refine(gZ _).mono ?_
 rintro e w0 ⟨rfl,hx0⟩
 have hg0:=nL hg hx0.size
 have hX0:=nL hX hx0.size
 clear c17
 go_wp2_with fail
 refine wp_loop_rounds 5 ?_
 rw[rounds_succ]
 go_wp2_with (first|fail|((with_reducible refine aD 123 ?_);refine aE rfl rfl 123 _ _ _ rfl _ #[.int .i64 0,.func (.func 121) #[] #[],.func (.func 122) #[] #[],.int .i64 1] _ rfl ?_ rfl hi.out rfl rfl ?_;· simp))
 have q20:=xc hx0 hg P20.out
 rw[S20.out]at q20
 go_quiet (fail)
 have hy:Ext w (World.drewN (w0.alloc (.cells #[.int .i64 0,.func (.func 121) #[] #[],.func (.func 122) #[] #[],.int .i64 1] 123)) nq):=(hx0.alloc _).drewN _
 go_wp2_with fail
 generalize World.drewN _ nq=w1 at hy ⊢
 have hx1:=hy
 clear q20 hg0 hX0 hy
 have hg1:=nL hg hx1.size
 have hX1:=nL hX hx1.size
 rw[rounds_succ]
 go_wp2_with (first|fail|((with_reducible refine aD 123 ?_);refine aE rfl rfl 123 _ _ _ rfl _ #[.int .i64 1,.func (.func 123) #[] #[],.func (.func 124) #[] #[],.int .i64 0] _ rfl ?_ rfl hi.out rfl rfl ?_;· simp))
 have q20:=xc hx1 hg P20.out
 rw[S20.out]at q20
 go_quiet (fail)
 have hy:Ext w (World.drewN (w1.alloc (.cells #[.int .i64 1,.func (.func 123) #[] #[],.func (.func 124) #[] #[],.int .i64 0] 123)) nq):=(hx1.alloc _).drewN _
 go_wp2_with fail
 generalize World.drewN _ nq=w2 at hy ⊢
 have hx2:=hy
 clear q20 hg1 hX1 hy
 have hg2:=nL hg hx2.size
 have hX2:=nL hX hx2.size
 rw[rounds_succ]
 go_wp2_with (first|fail|((with_reducible refine aD 123 ?_);refine aE rfl rfl 123 _ _ _ rfl _ #[.int .i64 1,.func (.func 125) #[] #[],.func (.func 126) #[] #[],.int .i64 2] _ rfl ?_ rfl hi.out rfl rfl ?_;· simp))
 have q20:=xc hx2 hg P20.out
 rw[S20.out]at q20
 go_quiet (fail)
 have hy:Ext w (World.drewN (w2.alloc (.cells #[.int .i64 1,.func (.func 125) #[] #[],.func (.func 126) #[] #[],.int .i64 2] 123)) nq):=(hx2.alloc _).drewN _
 go_wp2_with fail
 generalize World.drewN _ nq=w3 at hy ⊢
 have hx3:=hy
 clear q20 hg2 hX2 hy
 have hg3:=nL hg hx3.size
 have hX3:=nL hX hx3.size
 rw[rounds_succ]
 go_wp2_with (first|fail|((with_reducible refine aD 123 ?_);refine aE rfl rfl 123 _ _ _ rfl _ #[.int .i64 2,.func (.func 127) #[] #[],.func (.func 124) #[] #[],.int .i64 0] _ rfl ?_ rfl hi.out rfl rfl ?_;· simp))
 refine aS 15 (by kernel_rfl) (by kernel_rfl) ?_
 intro u4 hu4
 have hy4:Ext w u4:=by
  rw[hu4]
  exact(hx3.alloc _).drew
 have b0_4:u4.cell? ⟨w3.heap.size,0,none⟩=some (.int .i64 2):=by
  rw[hu4,World.cell?_drew]
  exact World.cell?_alloc_at _ _ _ _ rfl
 have b1_4:u4.cell? ⟨w3.heap.size,1,none⟩=some (.func (.func 127) #[] #[]):=by
  rw[hu4,World.cell?_drew]
  exact World.cell?_alloc_at _ _ _ _ rfl
 have b2_4:u4.cell? ⟨w3.heap.size,2,none⟩=some (.func (.func 124) #[] #[]):=by
  rw[hu4,World.cell?_drew]
  exact World.cell?_alloc_at _ _ _ _ rfl
 have b3_4:u4.cell? ⟨w3.heap.size,3,none⟩=some (.int .i64 0):=by
  rw[hu4,World.cell?_drew]
  exact World.cell?_alloc_at _ _ _ _ rfl
 have hz4:w3.heap.size<u4.heap.size:=by rw[hu4];simp
 have hgn4:g≠w3.heap.size:=Nat.ne_of_lt hg3
 clear hu4
 have q20:=xc hy4 hg P20.out
 rw[S20.out]at q20
 have hr4:=hD (dL (H.out.ext hy4) hk)
 simp only[List.take_succ_cons,List.take_zero,List.drop_succ_cons,List.drop_zero]
 iterate 14 still_step
 refine bU rfl 58 _ rfl g (k*89+22) rfl (flags B.ps k) _ hr4.out Tryz.underlying58 rfl hfi.out ?_
 simp only[Act.put,List.setIfInBounds_toArray,List.set_cons_succ,List.set_cons_zero]
 refine wpStill_nil ?_
 go_wp2_with fail
 refine(aEF _ _ _ f4.out).mono ?_
 rw[V0.out]
 rintro e w4 ⟨rfl,hxx4⟩
 have hx4:=hy4.trans hxx4
 have d2:=xc hxx4 hz4 b2_4
 have d3:=xc hxx4 hz4 b3_4
 clear b0_4 b1_4 q20 hxx4 b2_4 b3_4
 have hg4:=nL hg hx4.size
 have hX4:=nL hX hx4.size
 go_wp2_with fail
 refine aS 5 (by kernel_rfl) (by kernel_rfl) ?_
 intro w9 hw9
 have hx9:Ext w w9:=by
  rw[hw9]
  exact hx4.drew
 have e2:w9.cell? ⟨w3.heap.size,2,none⟩=some _:=(show w9.cell? _=w4.cell? _ by rw[hw9,World.cell?_drew]).trans d2
 have e3:w9.cell? ⟨w3.heap.size,3,none⟩=some _:=(show w9.cell? _=w4.cell? _ by rw[hw9,World.cell?_drew]).trans d3
 clear hw9 d2 d3
 have p20:=xc hx9 hg P20.out
 have p27:=xc hx9 hg P27.out
 have p29:=xc hx9 hg P29.out
 have hf9:∀j,w9.frozen? ⟨g,j,none⟩=false:=fun j=>(H.out.ext hx9).frozen j
 simp only[List.take_succ_cons,List.take_zero,List.drop_succ_cons,List.drop_zero]
 repeat still_step
 refine wpStill_nil ?_
 go_wp2_with fail
 refine(uQ g (k*89+22) _ _ w9 p29 p27 hf9).mono ?_
 rintro e w3 ⟨rfl,rfl⟩
 go_wp2_with fail
 go_ret
 exact⟨rfl,((((H.out.ext hx9).setp (j:=29) hk (by decide) _).setp (j:=27) hk (by decide) _).setp (j:=20) hk (by decide) _),((((hx9.mut F).setCell (.inl H.out.F2) _).setCell (.inl H.out.F2) _).setCell (.inl H.out.F2) _)⟩
theorem aG4(w:World)(F:Nat→Prop)(X g k:Nat)(B:Br)(h:BrG w F X g B)(ho:B.ok)(hk:k<B.np)(hk2:k<1000)(s0:B.gi k 20=2)(v0:B.gb k 26=true):
    Calls Tryz.prog 42 #[.pointer (some ⟨X,0,none⟩),.int .i64 k] w (aN w F X g (false,B)):=by
 obtain⟨hX,hg,hne⟩:=h.lt
 obtain⟨cap,c17,hc1,hc2⟩:=h.cell17 ho
 have P20:=hD (qi h ho hk 20 rfl)
 have P27:=hD (qb h ho hk 27)
 have P29:=hD (qb h ho hk 29)
 have f6:=hD ((cK (B:=B) (k:=k) (j:=6) (by decide)).trans (ho.gb hk 28 rfl))
 have f4:=hD ((cK (B:=B) (k:=k) (j:=4) (by decide)).trans (ho.gb hk 26 rfl))
 have hfi:=hD (show(Tryz.prog.info? 58).map (·.size)=some (flags B.ps k).length by rw[f5 ho hk];exact b7)
 have H:=hD h
 have V0:=hD v0
 clear h v0
 have S20:=hD s0
 clear s0
 have hi:=hD fZ
 have i0:=jE
 have i1:=jF
 have i2:=jG
 have i3:=jH
 go_enter Tryz.func42,Tryz.ntmps42
 go_wp2_with fail
 refine(gZ _).mono ?_
 rintro e w0 ⟨rfl,hx0⟩
 have hg0:=nL hg hx0.size
 have hX0:=nL hX hx0.size
 clear c17
 go_wp2_with fail
 refine wp_loop_rounds 5 ?_
 rw[rounds_succ]
 go_wp2_with (first|fail|((with_reducible refine aD 123 ?_);refine aE rfl rfl 123 _ _ _ rfl _ #[.int .i64 0,.func (.func 121) #[] #[],.func (.func 122) #[] #[],.int .i64 1] _ rfl ?_ rfl hi.out rfl rfl ?_;· simp))
 have q20:=xc hx0 hg P20.out
 rw[S20.out]at q20
 go_quiet (fail)
 have hy:Ext w (World.drewN (w0.alloc (.cells #[.int .i64 0,.func (.func 121) #[] #[],.func (.func 122) #[] #[],.int .i64 1] 123)) nq):=(hx0.alloc _).drewN _
 go_wp2_with fail
 generalize World.drewN _ nq=w1 at hy ⊢
 have hx1:=hy
 clear q20 hg0 hX0 hy
 have hg1:=nL hg hx1.size
 have hX1:=nL hX hx1.size
 rw[rounds_succ]
 go_wp2_with (first|fail|((with_reducible refine aD 123 ?_);refine aE rfl rfl 123 _ _ _ rfl _ #[.int .i64 1,.func (.func 123) #[] #[],.func (.func 124) #[] #[],.int .i64 0] _ rfl ?_ rfl hi.out rfl rfl ?_;· simp))
 have q20:=xc hx1 hg P20.out
 rw[S20.out]at q20
 go_quiet (fail)
 have hy:Ext w (World.drewN (w1.alloc (.cells #[.int .i64 1,.func (.func 123) #[] #[],.func (.func 124) #[] #[],.int .i64 0] 123)) nq):=(hx1.alloc _).drewN _
 go_wp2_with fail
 generalize World.drewN _ nq=w2 at hy ⊢
 have hx2:=hy
 clear q20 hg1 hX1 hy
 have hg2:=nL hg hx2.size
 have hX2:=nL hX hx2.size
 rw[rounds_succ]
 go_wp2_with (first|fail|((with_reducible refine aD 123 ?_);refine aE rfl rfl 123 _ _ _ rfl _ #[.int .i64 1,.func (.func 125) #[] #[],.func (.func 126) #[] #[],.int .i64 2] _ rfl ?_ rfl hi.out rfl rfl ?_;· simp))
 have q20:=xc hx2 hg P20.out
 rw[S20.out]at q20
 go_quiet (fail)
 have hy:Ext w (World.drewN (w2.alloc (.cells #[.int .i64 1,.func (.func 125) #[] #[],.func (.func 126) #[] #[],.int .i64 2] 123)) nq):=(hx2.alloc _).drewN _
 go_wp2_with fail
 generalize World.drewN _ nq=w3 at hy ⊢
 have hx3:=hy
 clear q20 hg2 hX2 hy
 have hg3:=nL hg hx3.size
 have hX3:=nL hX hx3.size
 rw[rounds_succ]
 go_wp2_with (first|fail|((with_reducible refine aD 123 ?_);refine aE rfl rfl 123 _ _ _ rfl _ #[.int .i64 2,.func (.func 127) #[] #[],.func (.func 124) #[] #[],.int .i64 0] _ rfl ?_ rfl hi.out rfl rfl ?_;· simp))
 refine aS 15 (by kernel_rfl) (by kernel_rfl) ?_
 intro u4 hu4
 have hy4:Ext w u4:=by
  rw[hu4]
  exact(hx3.alloc _).drew
 have b0_4:u4.cell? ⟨w3.heap.size,0,none⟩=some (.int .i64 2):=by
  rw[hu4,World.cell?_drew]
  exact World.cell?_alloc_at _ _ _ _ rfl
 have b1_4:u4.cell? ⟨w3.heap.size,1,none⟩=some (.func (.func 127) #[] #[]):=by
  rw[hu4,World.cell?_drew]
  exact World.cell?_alloc_at _ _ _ _ rfl
 have hz4:w3.heap.size<u4.heap.size:=by rw[hu4];simp
 have hgn4:g≠w3.heap.size:=Nat.ne_of_lt hg3
 clear hu4
 have q20:=xc hy4 hg P20.out
 rw[S20.out]at q20
 have hr4:=hD (dL (H.out.ext hy4) hk)
 simp only[List.take_succ_cons,List.take_zero,List.drop_succ_cons,List.drop_zero]
 iterate 14 still_step
 refine bU rfl 58 _ rfl g (k*89+22) rfl (flags B.ps k) _ hr4.out Tryz.underlying58 rfl hfi.out ?_
 simp only[Act.put,List.setIfInBounds_toArray,List.set_cons_succ,List.set_cons_zero]
 refine wpStill_nil ?_
 go_wp2_with fail
 refine(aEF _ _ _ f4.out).mono ?_
 rw[V0.out]
 rintro e w4 ⟨rfl,hxx4⟩
 have hx4:=hy4.trans hxx4
 clear b0_4 b1_4 q20 hxx4
 have hg4:=nL hg hx4.size
 have hX4:=nL hX hx4.size
 go_wp2_with fail
 rw[rounds_succ]
 go_wp2_with fail
 go_ret
 exact⟨rfl,H.out.ext hx4,hx4.mut F⟩
theorem aJI(w:World)(F:Nat→Prop)(X g k:Nat)(B:Br)(h:BrG w F X g B)(ho:B.ok)(hk:k<B.np)(hk2:k<1000)(s0:((0:Int) == B.gi k 20)=false)(s1:((1:Int) == B.gi k 20)=false)(s2:((2:Int) == B.gi k 20)=false):
    Calls Tryz.prog 42 #[.pointer (some ⟨X,0,none⟩),.int .i64 k] w (aN w F X g (false,B)):=by
 obtain⟨hX,hg,hne⟩:=h.lt
 obtain⟨cap,c17,hc1,hc2⟩:=h.cell17 ho
 have P20:=hD (qi h ho hk 20 rfl)
 have P27:=hD (qb h ho hk 27)
 have P29:=hD (qb h ho hk 29)
 have f6:=hD ((cK (B:=B) (k:=k) (j:=6) (by decide)).trans (ho.gb hk 28 rfl))
 have f4:=hD ((cK (B:=B) (k:=k) (j:=4) (by decide)).trans (ho.gb hk 26 rfl))
 have hfi:=hD (show(Tryz.prog.info? 58).map (·.size)=some (flags B.ps k).length by rw[f5 ho hk];exact b7)
 have H:=hD h
 clear h
 have hi:=hD fZ
 have i0:=jE
 have i1:=jF
 have i2:=jG
 have i3:=jH
 go_enter Tryz.func42,Tryz.ntmps42
 go_wp2_with fail
 refine(gZ _).mono ?_
 rintro e w0 ⟨rfl,hx0⟩
 have hg0:=nL hg hx0.size
 have hX0:=nL hX hx0.size
 clear c17
 go_wp2_with fail
 refine wp_loop_rounds 5 ?_
 rw[rounds_succ]
 go_wp2_with (first|fail|((with_reducible refine aD 123 ?_);refine aE rfl rfl 123 _ _ _ rfl _ #[.int .i64 0,.func (.func 121) #[] #[],.func (.func 122) #[] #[],.int .i64 1] _ rfl ?_ rfl hi.out rfl rfl ?_;· simp))
 have q20:=xc hx0 hg P20.out
 go_quiet (fail)
 have hy:Ext w (World.drewN (w0.alloc (.cells #[.int .i64 0,.func (.func 121) #[] #[],.func (.func 122) #[] #[],.int .i64 1] 123)) nq):=(hx0.alloc _).drewN _
 go_wp2_with fail
 generalize World.drewN _ nq=w1 at hy ⊢
 have hx1:=hy
 clear q20 hg0 hX0 hy
 have hg1:=nL hg hx1.size
 have hX1:=nL hX hx1.size
 rw[rounds_succ]
 go_wp2_with (first|fail|((with_reducible refine aD 123 ?_);refine aE rfl rfl 123 _ _ _ rfl _ #[.int .i64 1,.func (.func 123) #[] #[],.func (.func 124) #[] #[],.int .i64 0] _ rfl ?_ rfl hi.out rfl rfl ?_;· simp))
 have q20:=xc hx1 hg P20.out
 go_quiet (fail)
 have hy:Ext w (World.drewN (w1.alloc (.cells #[.int .i64 1,.func (.func 123) #[] #[],.func (.func 124) #[] #[],.int .i64 0] 123)) nq):=(hx1.alloc _).drewN _
 go_wp2_with fail
 generalize World.drewN _ nq=w2 at hy ⊢
 have hx2:=hy
 clear q20 hg1 hX1 hy
 have hg2:=nL hg hx2.size
 have hX2:=nL hX hx2.size
 rw[rounds_succ]
 go_wp2_with (first|fail|((with_reducible refine aD 123 ?_);refine aE rfl rfl 123 _ _ _ rfl _ #[.int .i64 1,.func (.func 125) #[] #[],.func (.func 126) #[] #[],.int .i64 2] _ rfl ?_ rfl hi.out rfl rfl ?_;· simp))
 have q20:=xc hx2 hg P20.out
 go_quiet (fail)
 have hy:Ext w (World.drewN (w2.alloc (.cells #[.int .i64 1,.func (.func 125) #[] #[],.func (.func 126) #[] #[],.int .i64 2] 123)) nq):=(hx2.alloc _).drewN _
 go_wp2_with fail
 generalize World.drewN _ nq=w3 at hy ⊢
 have hx3:=hy
 clear q20 hg2 hX2 hy
 have hg3:=nL hg hx3.size
 have hX3:=nL hX hx3.size
 rw[rounds_succ]
 go_wp2_with (first|fail|((with_reducible refine aD 123 ?_);refine aE rfl rfl 123 _ _ _ rfl _ #[.int .i64 2,.func (.func 127) #[] #[],.func (.func 124) #[] #[],.int .i64 0] _ rfl ?_ rfl hi.out rfl rfl ?_;· simp))
 have q20:=xc hx3 hg P20.out
 go_quiet (fail)
 have hy:Ext w (World.drewN (w3.alloc (.cells #[.int .i64 2,.func (.func 127) #[] #[],.func (.func 124) #[] #[],.int .i64 0] 123)) nq):=(hx3.alloc _).drewN _
 go_wp2_with fail
 generalize World.drewN _ nq=w4 at hy ⊢
 have hx4:=hy
 clear q20 hg3 hX3 hy
 have hg4:=nL hg hx4.size
 have hX4:=nL hX hx4.size
 rw[rounds_succ]
 go_wp2_with fail
 go_ret
 exact⟨rfl,H.out.ext hx4,hx4.mut F⟩
theorem aEG(w:World)(F:Nat→Prop)(X g k:Nat)(B:Br)(h:BrG w F X g B)(ho:B.ok)(hk:k<B.np)(hk2:k<1000):
    Calls Tryz.prog 42 #[.pointer (some ⟨X,0,none⟩),.int .i64 k] w (aN w F X g (gT B k)):=by
 by_cases s0:B.gi k 20=0
 ·cases v:B.gb k 28
  ·have e:gT B k=(false,B):=by simp[gT,s0,v]
   rw[e]
   exact aGZ w F X g k B h ho hk hk2 s0 v
  ·have e:gT B k=(true,fN B k):=by simp[gT,s0,v]
   rw[e]
   exact aGY w F X g k B h ho hk hk2 s0 v
 ·by_cases s1:B.gi k 20=1
  ·cases v:B.gb k 28
   ·have e:gT B k=(true,fA B k):=by simp[gT,s1,v]
    rw[e]
    exact aG0 w F X g k B h ho hk hk2 s1 v
   ·cases u:B.gb k 26
    ·have e:gT B k=(false,B):=by simp[gT,s1,v,u]
     rw[e]
     exact aG2 w F X g k B h ho hk hk2 s1 v u
    ·have e:gT B k=(true,dN B k):=by simp[gT,s1,v,u]
     rw[e]
     exact aG1 w F X g k B h ho hk hk2 s1 v u
  ·by_cases s2:B.gi k 20=2
   ·cases v:B.gb k 26
    ·have e:gT B k=(true,fA B k):=by simp[gT,s2,v]
     rw[e]
     exact aG3 w F X g k B h ho hk hk2 s2 v
    ·have e:gT B k=(false,B):=by simp[gT,s2,v]
     rw[e]
     exact aG4 w F X g k B h ho hk hk2 s2 v
   ·have e:gT B k=(false,B):=by simp[gT,s0,s1,s2]
    rw[e]
    exact aJI w F X g k B h ho hk hk2 (by simp;omega) (by simp;omega) (by simp;omega)
def kL(B:Br)(k:Nat):Nat→Br
 | 0=>B
 | n+1=>if n=k then kL B k n else(kL B k n).setp n 49 (.bool true)
theorem kB(B:Br)(k:Nat):∀n,(kL B k n).np=B.np
 | 0=>rfl
 | n+1=>by
  unfold kL
  split
  ·exact kB B k n
  ·exact kB B k n
theorem nH{B:Br}(ho:B.ok)(k:Nat):∀n,n≤B.np→(kL B k n).ok
 | 0,_=>ho
 | n+1,h=>by
  unfold kL
  split
  ·exact nH ho k n (by omega)
  ·exact(nH ho k n (by omega)).setB (by rw[kB];omega) 49 true rfl
theorem mQ(w:World)(F:Nat→Prop)(X g k:Nat)(B:Br)(h:BrG w F X g B)(ho:B.ok)(hn:B.np<1000)(hk:k<1000)(b1 b2:Nat)(h1:w.cell? ⟨b1,0,none⟩=some (.pointer (some ⟨X,0,none⟩)))(h2:w.cell? ⟨b2,0,none⟩=some (.int .i64 k))(f1:¬F b1)(f2:¬F b2):
    Calls Tryz.prog 128 #[.pointer (some ⟨b1,0,none⟩),.pointer (some ⟨b2,0,none⟩)] w fun e w'=>e=.returned (.tuple #[])∧BrG w' F X g (kL B k B.np)∧Mut F w w':=by
 obtain⟨hX,hg,hne⟩:=h.lt
 obtain⟨cap,c17,hc1,hc2⟩:=h.cell17 ho
 have H:=hD h
 clear h
 have C1:=hD h1
 have C2:=hD h2
 have F1:=hD f1
 have F2:=hD f2
 have L1:=hD (World.block_lt_of_cell? w _ h1)
 have L2:=hD (World.block_lt_of_cell? w _ h2)
 clear f1 f2
 go_enter Tryz.func128,Tryz.ntmps128
 go_wp2_with fail
 go_loopw [8] (fun v wr=>∃n:Nat,n≤B.np∧v=.int .i64 n∧BrG wr F X g (kL B k n)∧Mut F w wr) (fun v _=>B.np - (intOf v).toNat)
 case atStart=>exact⟨0,by omega,rfl,H.out,Mut.refl F w⟩
 case round =>
  clear c17 h1 h2
  obtain⟨n,hn2,rfl,hB,hm⟩:=hrel
  have HB:=hD hB
  have HM:=hD hm
  clear hB hm
  have okn:=nH ho k n hn2
  obtain⟨cap2,c17,hc3,hc4⟩:=HB.out.cell17 okn
  rw[kB]at c17 hc3
  have d1:=(HM.out.cell (p:=⟨b1,0,none⟩) L1.out F1.out).trans C1.out
  have d2:=(HM.out.cell (p:=⟨b2,0,none⟩) L2.out F2.out).trans C2.out
  by_cases hlt:n<B.np
  ·have hkn:n<(kL B k n).np:=by rw[kB];exact hlt
   have p49:=(HB.out.cellg (i:=n*89+49) (bZ hkn (by decide))).trans (okn.gb hkn 49 rfl)
   have hfr:=HB.out.frozen
   have HE:=hD (show kL B k (n+1)=if n=k then kL B k n else(kL B k n).setp n 49 (.bool true)from rfl)
   by_cases hnk:n=k
   ·have hb:((n:Int) != (k:Int))=false:=by rw[hnk];simp
    have HK:=hD hnk
    clear hnk
    go_wp2_with fail
    go_roundw
    case rel =>
     refine⟨n+1,by omega,by go_num,?_,HM.out⟩
     rw[HE.out,if_pos HK.out]
     exact HB.out
    case measure=>simp[intOf];omega
   ·have hb:((n:Int) != (k:Int))=true:=by
     have:(n:Int)≠(k:Int):=by omega
     simpa using this
    have HK:=hD hnk
    clear hnk
    go_wp2_with fail
    go_roundw
    case rel =>
     refine⟨n+1,by omega,by go_num,?_,HM.out.setCell (.inl HB.out.F2) _⟩
     rw[HE.out,if_neg HK.out]
     exact HB.out.setp (k:=n) (j:=49) hkn (by decide) _
    case measure=>simp[intOf];omega
  ·obtain rfl:n=B.np:=by omega
   go_wp2_with fail
   go_end0
   exact⟨rfl,HB.out,HM.out⟩
theorem eU(g o:Nat)(ta tm th td:Int)(b1 b2:Nat)(r:Int)(w:World)(hg:g<w.heap.size)(h87:w.cell? ⟨g,o+87,none⟩=some (.int .i64 r)):
    Calls Tryz.prog 154 #[.agg #[.pointer (some ⟨g,o,none⟩),.int .i64 ta,.int .i64 tm,.int .i64 th,.int .i64 td,.func (.func 128) #[] #[.pointer (some ⟨b1,0,none⟩),.pointer (some ⟨b2,0,none⟩)]]] w fun e w'=>e=.returned (.bool ((r == 3) || (r == 4)))∧Ext w w':=by
 by_cases h3:r=3
 ·subst h3
  go_enter Tryz.func154,Tryz.ntmps154
  go_wp2
  go_ret
  exact⟨rfl,(Ext.refl w).alloc _⟩
 ·have hb:(r == 3)=false:=by simpa using h3
  go_enter Tryz.func154,Tryz.ntmps154
  go_wp2
  go_ret
  exact⟨lY (by rw[hb];rfl),(Ext.refl w).alloc _⟩
def fS(cnt edge tcn tc prop ack:Bool):Nat:=if(!cnt || edge)=true then 1 else if tcn=true then 2 else if tc=true then 3 else if prop=true then 4 else if ack=true then 5 else 0
def kC(n:Nat)(m:Value):Value :=
 if n=1 then .func (.func 129) #[m] #[]else if n=2 then .func (.func 158) #[m] #[]else if n=3 then .func (.func 159) #[m] #[]
 else if n=4 then .func (.func 160) #[m] #[]else if n=5 then .func (.func 161) #[m] #[]
 else if n=6 then .func (.func 155) #[m] #[]else if n=7 then .func (.func 157) #[m] #[]else Value.nilFunc
theorem xJ(g o:Nat)(ta tm th td:Int)(b1 b2:Nat)(r:Int)(cnt:Bool)(hcnt:((r == 3) || (r == 4))=cnt)(edge tcn tc prop ack:Bool)(fl:List Value)(w:World)(hg:g<w.heap.size)(h87:w.cell? ⟨g,o+87,none⟩=some (.int .i64 r))(hfl:w.rangeAt g (o+22) fl)(hfn:fl.length=29)(hone:∀v∈fl,v.oneCell'=true)(f10:fl[10]?=some (.bool edge))(f19:fl[19]?=some (.bool tcn))(f17:fl[17]?=some (.bool tc))(f27:fl[27]?=some (.bool prop))(f18:fl[18]?=some (.bool ack)):
    Calls Tryz.prog 131 #[.agg #[.pointer (some ⟨g,o,none⟩),.int .i64 ta,.int .i64 tm,.int .i64 th,.int .i64 td,.func (.func 128) #[] #[.pointer (some ⟨b1,0,none⟩),.pointer (some ⟨b2,0,none⟩)]]] w fun e w'=>e=.returned (kC (fS cnt edge tcn tc prop ack) (.agg #[.pointer (some ⟨g,o,none⟩),.int .i64 ta,.int .i64 tm,.int .i64 th,.int .i64 td,.func (.func 128) #[] #[.pointer (some ⟨b1,0,none⟩),.pointer (some ⟨b2,0,none⟩)]]))∧Ext w w':=by
 have HF:=hD hfl
 have H87:=hD h87
 have hfi:=hD (show(Tryz.prog.info? 58).map (·.size)=some fl.length by rw[hfn];exact b7)
 have hfi2:=hD (show(Tryz.prog.info? 58).map (·.size)=some fl.toArray.size by rw[List.size_toArray,hfn];exact b7)
 have hfs:=hD (show FZ.size=fl.toArray.size by rw[List.size_toArray];exact hfn.symm)
 have hfo:=hD (all_oneCell_toArray hone)
 have hzf:=iV
 have HCN:=hD hcnt
 clear hfl hfn hone h87 hcnt
 go_enter Tryz.func131,Tryz.ntmps131
 go_wp2_with (first|fail|((with_reducible refine aG 58 ?_);refine wpList_load_mid rfl 58 _ rfl g (o+22) rfl fl _ (aQ HF.out ((Ext.refl w).alloc _) hg) Tryz.underlying58 rfl hfi.out ?_)|((with_reducible refine aD 58 ?_);refine aE rfl rfl 58 _ _ _ rfl FZ fl.toArray _ rfl ?_ rfl hfi2.out hfs.out (by rw[Array.all_toList];exact hfo.out) ?_;· simp))
 refine(eM (eU g o ta tm th td b1 b2 r _ (by simp;omega) ((((Ext.refl w).alloc _).alloc _).cell (p:=⟨g,o+87,none⟩) hg |>.trans H87.out)) HCN.out).mono ?_
 rintro e w1 ⟨rfl,hx1⟩
 have hx0:=((((Ext.refl w).alloc (.cells #[.pointer (some ⟨g,o,none⟩),.int .i64 ta,.int .i64 tm,.int .i64 th,.int .i64 td,.func (.func 128) #[] #[.pointer (some ⟨b1,0,none⟩),.pointer (some ⟨b2,0,none⟩)]] 130)).alloc (.cells fl.toArray 58)).trans hx1)
 have m1:∀j,w1.cell? ⟨w.heap.size,j,none⟩=(#[.pointer (some ⟨g,o,none⟩),.int .i64 ta,.int .i64 tm,.int .i64 th,.int .i64 td,.func (.func 128) #[] #[.pointer (some ⟨b1,0,none⟩),.pointer (some ⟨b2,0,none⟩)]]:Array Value)[j]?:=fun j=>(hx1.cell (by simp;omega)).trans ((World.cell?_alloc_past _ _ _ (by simp)).trans (World.cell?_alloc_at _ _ _ _ rfl))
 have n1:∀j,w1.cell? ⟨w.heap.size+1,j,none⟩=fl[j]?:=fun j=>(hx1.cell (by simp)).trans ((World.cell?_alloc_at _ _ _ _ (by simp)).trans (by simp))
 have HX:=hD hx0
 have q10:=(n1 10).trans f10
 have q17:=(n1 17).trans f17
 have q18:=(n1 18).trans f18
 have q19:=(n1 19).trans f19
 have q27:=(n1 27).trans f27
 have m0_:=(m1 0).trans (show(#[.pointer (some ⟨g,o,none⟩),.int .i64 ta,.int .i64 tm,.int .i64 th,.int .i64 td,.func (.func 128) #[] #[.pointer (some ⟨b1,0,none⟩),.pointer (some ⟨b2,0,none⟩)]]:Array Value)[0]?=some _ from rfl)
 have m1_:=(m1 1).trans (show(#[.pointer (some ⟨g,o,none⟩),.int .i64 ta,.int .i64 tm,.int .i64 th,.int .i64 td,.func (.func 128) #[] #[.pointer (some ⟨b1,0,none⟩),.pointer (some ⟨b2,0,none⟩)]]:Array Value)[1]?=some _ from rfl)
 have m2_:=(m1 2).trans (show(#[.pointer (some ⟨g,o,none⟩),.int .i64 ta,.int .i64 tm,.int .i64 th,.int .i64 td,.func (.func 128) #[] #[.pointer (some ⟨b1,0,none⟩),.pointer (some ⟨b2,0,none⟩)]]:Array Value)[2]?=some _ from rfl)
 have m3_:=(m1 3).trans (show(#[.pointer (some ⟨g,o,none⟩),.int .i64 ta,.int .i64 tm,.int .i64 th,.int .i64 td,.func (.func 128) #[] #[.pointer (some ⟨b1,0,none⟩),.pointer (some ⟨b2,0,none⟩)]]:Array Value)[3]?=some _ from rfl)
 have m4_:=(m1 4).trans (show(#[.pointer (some ⟨g,o,none⟩),.int .i64 ta,.int .i64 tm,.int .i64 th,.int .i64 td,.func (.func 128) #[] #[.pointer (some ⟨b1,0,none⟩),.pointer (some ⟨b2,0,none⟩)]]:Array Value)[4]?=some _ from rfl)
 have m5_:=(m1 5).trans (show(#[.pointer (some ⟨g,o,none⟩),.int .i64 ta,.int .i64 tm,.int .i64 th,.int .i64 td,.func (.func 128) #[] #[.pointer (some ⟨b1,0,none⟩),.pointer (some ⟨b2,0,none⟩)]]:Array Value)[5]?=some _ from rfl)
 clear hx1 hx0 m1 n1 f10 f17 f18 f19 f27
 clear H87 HCN
 cases cnt
 ·go_wp2_with fail
  go_ret
  refine⟨?_,HX.out⟩
  simp[kC,fS]
 ·cases edge
  ·cases tcn
   ·cases tc
    ·cases prop
     ·cases ack
      ·go_wp2_with fail
       go_ret
       refine⟨?_,HX.out⟩
       simp[kC,fS]
      ·go_wp2_with fail
       go_ret
       refine⟨?_,HX.out⟩
       simp[kC,fS]
     ·go_wp2_with fail
      go_ret
      refine⟨?_,HX.out⟩
      simp[kC,fS]
    ·go_wp2_with fail
     go_ret
     refine⟨?_,HX.out⟩
     simp[kC,fS]
   ·go_wp2_with fail
    go_ret
    refine⟨?_,HX.out⟩
    simp[kC,fS]
  ·go_wp2_with fail
   go_ret
   refine⟨?_,HX.out⟩
   simp[kC,fS]
end Go.Proofs.YtpanapepcbbagaaGreat
