/- Part 9 of what BridgeRests stands on. No statement is proved here. -/
import Derived.Test.YtpanapepcbbagaaGreatBvg
set_option linter.unusedVariables false
set_option linter.unusedSimpArgs false
set_option maxRecDepth 100000
set_option maxHeartbeats 8000000
namespace Go.Proofs.YtpanapepcbbagaaGreat
open Go.RowKit Go.BigFrame Go.WideShapes Go.ChangeShapes Go.Deep
def mi(l:List Value)(j:Nat):Int:=match l[j]? with|some (.int _ z)=>z|_=>0
def mb(l:List Value)(j:Nat):Bool:=match l[j]? with|some (.bool z)=>z|_=>false
theorem Typed.gi{L:List (Option IntKind)}{l:List Value}(h:Typed L l)(j:Nat){K:IntKind}(hj:L[j]?=some (some K)):l[j]?=some (.int K (mi l j)):=by
 obtain⟨z,hv,_⟩:=h.int j K hj
 rw[hv,mi,hv]
theorem aI7(w:World)(F:Nat→Prop)(X g:Nat)(B:Br)(h:BrG w F X g B)(ho:B.ok)(m:List Value)(hm:Typed ML m)(i:Int)(hi:i<0):Calls Tryz.prog 29 #[.pointer (some ⟨X,0,none⟩),.int .i64 i,.agg m.toArray] w (aN w F X g (false,B)):=by
 obtain⟨hX,hg,hne⟩:=h.lt
 obtain⟨cap,c17,hc1,hc2⟩:=h.cell17 ho
 have H:=hD h
 clear h
 go_enter Tryz.func29,Tryz.ntmps29
 go_wp2
 go_ret
 exact⟨rfl,H.out.alloc _,(Mut.refl F w).alloc _⟩
theorem aI8(w:World)(F:Nat→Prop)(X g:Nat)(B:Br)(h:BrG w F X g B)(ho:B.ok)(m:List Value)(hm:Typed ML m)(i:Int)(hi0:0≤i)(hi:((B.np:Nat):Int)≤i):Calls Tryz.prog 29 #[.pointer (some ⟨X,0,none⟩),.int .i64 i,.agg m.toArray] w (aN w F X g (false,B)):=by
 obtain⟨hX,hg,hne⟩:=h.lt
 obtain⟨cap,c17,hc1,hc2⟩:=h.cell17 ho
 have H:=hD h
 clear h
 go_enter Tryz.func29,Tryz.ntmps29
 go_wp2
 go_ret
 exact⟨rfl,H.out.alloc _,(Mut.refl F w).alloc _⟩
theorem aK3(w:World)(F:Nat→Prop)(X g:Nat)(B:Br)(h:BrG w F X g B)(ho:B.ok)(m:List Value)(hm:Typed ML m)(k:Nat)(hk:k<B.np)(hk2:k<1000)(e2:B.gb k 2=false):Calls Tryz.prog 29 #[.pointer (some ⟨X,0,none⟩),.int .i64 k,.agg m.toArray] w (aN w F X g (false,B)):=by
 obtain⟨hX,hg,hne⟩:=h.lt
 obtain⟨cap,c17,hc1,hc2⟩:=h.cell17 ho
 have p2:=qb h ho hk 2
 have p35:=qb h ho hk 35
 have q1:=(h.cellX ho (i:=1) (by omega)).trans (ho.hb 1 rfl)
 have m0:=hm.gi 0 rfl
 rw[e2]at p2
 have hf:=h.frozen
 have H:=hD h
 have HTM:=hD hm
 have hmn:=hD (show m.length=17 from hm.1)
 have hmi:=hD (show(Tryz.prog.info? 46).map (·.size)=some m.toArray.size by rw[List.size_toArray,hmn.out];exact fI)
 have hmo:=hD (all_oneCell_toArray hm.one)
 clear h hm e2
 go_enter Tryz.func29,Tryz.ntmps29
 go_wp2_with (first|fail|((with_reducible refine aG 46 ?_);refine wpList_load_row rfl 46 _ rfl _ rfl 46 m.toArray (0,0) _ (heap_alloc_new _ _) Tryz.underlying46 rfl hmi.out ?_))
 go_ret
 exact⟨rfl,H.out.alloc _,(Mut.refl F w).alloc _⟩
theorem aK4(w:World)(F:Nat→Prop)(X g:Nat)(B:Br)(h:BrG w F X g B)(ho:B.ok)(m:List Value)(hm:Typed ML m)(k:Nat)(hk:k<B.np)(hk2:k<1000)(e2:B.gb k 2=true)(e35:B.gb k 35=true):Calls Tryz.prog 29 #[.pointer (some ⟨X,0,none⟩),.int .i64 k,.agg m.toArray] w (aN w F X g (false,B)):=by
 obtain⟨hX,hg,hne⟩:=h.lt
 obtain⟨cap,c17,hc1,hc2⟩:=h.cell17 ho
 have p2:=qb h ho hk 2
 have p35:=qb h ho hk 35
 have q1:=(h.cellX ho (i:=1) (by omega)).trans (ho.hb 1 rfl)
 have m0:=hm.gi 0 rfl
 rw[e2]at p2
 rw[e35]at p35
 have hf:=h.frozen
 have H:=hD h
 have HTM:=hD hm
 have hmn:=hD (show m.length=17 from hm.1)
 have hmi:=hD (show(Tryz.prog.info? 46).map (·.size)=some m.toArray.size by rw[List.size_toArray,hmn.out];exact fI)
 have hmo:=hD (all_oneCell_toArray hm.one)
 clear h hm e2 e35
 go_enter Tryz.func29,Tryz.ntmps29
 go_wp2_with (first|fail|((with_reducible refine aG 46 ?_);refine wpList_load_row rfl 46 _ rfl _ rfl 46 m.toArray (0,0) _ (heap_alloc_new _ _) Tryz.underlying46 rfl hmi.out ?_))
 go_ret
 exact⟨rfl,H.out.alloc _,(Mut.refl F w).alloc _⟩
theorem aK5(w:World)(F:Nat→Prop)(X g:Nat)(B:Br)(h:BrG w F X g B)(ho:B.ok)(m:List Value)(hm:Typed ML m)(k:Nat)(hk:k<B.np)(hk2:k<1000)(e2:B.gb k 2=true)(e35:B.gb k 35=false)(em:mi m 0=2)(er:B.hb 1=false):Calls Tryz.prog 29 #[.pointer (some ⟨X,0,none⟩),.int .i64 k,.agg m.toArray] w (aN w F X g (false,B)):=by
 obtain⟨hX,hg,hne⟩:=h.lt
 obtain⟨cap,c17,hc1,hc2⟩:=h.cell17 ho
 have p2:=qb h ho hk 2
 have p35:=qb h ho hk 35
 have q1:=(h.cellX ho (i:=1) (by omega)).trans (ho.hb 1 rfl)
 have m0:=hm.gi 0 rfl
 rw[e2]at p2
 rw[e35]at p35
 rw[em]at m0
 rw[er]at q1
 have hf:=h.frozen
 have H:=hD h
 have HTM:=hD hm
 have hmn:=hD (show m.length=17 from hm.1)
 have hmi:=hD (show(Tryz.prog.info? 46).map (·.size)=some m.toArray.size by rw[List.size_toArray,hmn.out];exact fI)
 have hmo:=hD (all_oneCell_toArray hm.one)
 clear h hm e2 e35 em er
 go_enter Tryz.func29,Tryz.ntmps29
 go_wp2_with (first|fail|((with_reducible refine aG 46 ?_);refine wpList_load_row rfl 46 _ rfl _ rfl 46 m.toArray (0,0) _ (heap_alloc_new _ _) Tryz.underlying46 rfl hmi.out ?_))
 go_ret
 exact⟨rfl,H.out.alloc _,(Mut.refl F w).alloc _⟩
theorem wQ(r:Bool)(g o:Nat)(m:Int)(w:World)(h9:w.cell? ⟨g,o+9,none⟩=some (.int .i64 m)):
    Calls Tryz.prog 70 #[.bool r,.pointer (some ⟨g,o,none⟩)] w fun e w'=>e=.returned (.bool (m == 0))∧w=w':=by
 go_enter Tryz.func70,Tryz.ntmps70
 go_wp2
 go_ret
 exact⟨rfl,rfl⟩
theorem aDK(r:Bool)(g o:Nat)(m:Int)(en:Bool)(w:World)(h9:w.cell? ⟨g,o+9,none⟩=some (.int .i64 m))(h2:w.cell? ⟨g,o+2,none⟩=some (.bool en)):
    Calls Tryz.prog 72 #[.bool r,.pointer (some ⟨g,o,none⟩)] w fun e w'=>e=.returned (.bool ((m != 3) && !en))∧w=w':=by
 go_enter Tryz.func72,Tryz.ntmps72
 go_wp2
 all_goals (go_ret;exact⟨lY (by simp[*]),rfl⟩)
theorem wR(r:Bool)(g o:Nat)(en mc rr sr:Bool)(w:World)(h2:w.cell? ⟨g,o+2,none⟩=some (.bool en))(h30:w.cell? ⟨g,o+30,none⟩=some (.bool mc))(h37:w.cell? ⟨g,o+37,none⟩=some (.bool rr))(h45:w.cell? ⟨g,o+45,none⟩=some (.bool sr)):
    Calls Tryz.prog 74 #[.bool r,.pointer (some ⟨g,o,none⟩)] w fun e w'=>e=.returned (.bool (!en || mc || r && rr && !sr))∧w=w':=by
 cases en<;>cases mc<;>cases r<;>cases rr
 all_goals
  go_enter Tryz.func74,Tryz.ntmps74
  go_wp2
  go_ret
  exact⟨lY (by simp),rfl⟩
theorem aDL(r:Bool)(g o:Nat)(sr rp:Bool)(w:World)(h45:w.cell? ⟨g,o+45,none⟩=some (.bool sr))(h38:w.cell? ⟨g,o+38,none⟩=some (.bool rp)):
    Calls Tryz.prog 75 #[.bool r,.pointer (some ⟨g,o,none⟩)] w fun e w'=>e=.returned (.bool (sr && rp))∧w=w':=by
 cases sr
 all_goals
  go_enter Tryz.func75,Tryz.ntmps75
  go_wp2
  go_ret
  exact⟨lY (by simp),rfl⟩
theorem aDM(r:Bool)(g o:Nat)(m:Int)(en mc:Bool)(w:World)(h9:w.cell? ⟨g,o+9,none⟩=some (.int .i64 m))(h2:w.cell? ⟨g,o+2,none⟩=some (.bool en))(h30:w.cell? ⟨g,o+30,none⟩=some (.bool mc)):
    Calls Tryz.prog 77 #[.bool r,.pointer (some ⟨g,o,none⟩)] w fun e w'=>e=.returned (.bool ((m == 0) || !en || mc))∧w=w':=by
 cases en
 all_goals
  go_enter Tryz.func77,Tryz.ntmps77
  go_wp2
  all_goals (go_ret;exact⟨lY (by simp[*]),rfl⟩)
theorem o7(r:Bool)(g o:Nat)(u v:Value)(w:World)(h37:w.cell? ⟨g,o+37,none⟩=some u)(h38:w.cell? ⟨g,o+38,none⟩=some v)(hf:∀j,w.frozen? ⟨g,j,none⟩=false):
    Calls Tryz.prog 71 #[.bool r,.pointer (some ⟨g,o,none⟩)] w fun e w'=>e=.returned (.tuple #[])∧w'=(w.setCell ⟨g,o+37,none⟩ (.bool false)).setCell ⟨g,o+38,none⟩ (.bool false):=by
 go_enter Tryz.func71,Tryz.ntmps71
 go_wp2
 go_end0
 exact⟨rfl,rfl⟩
theorem q8(r:Bool)(g o:Nat)(u v x:Value)(w:World)(h9:w.cell? ⟨g,o+9,none⟩=some x)(h30:w.cell? ⟨g,o+30,none⟩=some u)(h45:w.cell? ⟨g,o+45,none⟩=some v)(hf:∀j,w.frozen? ⟨g,j,none⟩=false):
    Calls Tryz.prog 73 #[.bool r,.pointer (some ⟨g,o,none⟩)] w fun e w'=>e=.returned (.tuple #[])∧w'=((w.setCell ⟨g,o+30,none⟩ (.bool false)).setCell ⟨g,o+45,none⟩ (.bool r)).setCell ⟨g,o+9,none⟩ (.int .i64 3):=by
 go_enter Tryz.func73,Tryz.ntmps73
 go_wp2
 go_end0
 exact⟨rfl,rfl⟩
theorem aA8(r:Bool)(g o:Nat)(v x:Value)(w:World)(h9:w.cell? ⟨g,o+9,none⟩=some x)(h45:w.cell? ⟨g,o+45,none⟩=some v)(hf:∀j,w.frozen? ⟨g,j,none⟩=false):
    Calls Tryz.prog 76 #[.bool r,.pointer (some ⟨g,o,none⟩)] w fun e w'=>e=.returned (.tuple #[])∧w'=(w.setCell ⟨g,o+45,none⟩ (.bool false)).setCell ⟨g,o+9,none⟩ (.int .i64 3):=by
 go_enter Tryz.func76,Tryz.ntmps76
 go_wp2
 go_end0
 exact⟨rfl,rfl⟩
def migRows:Array Value:=#[.int .i64 0,.func (.func 70) #[] #[],.func (.func 71) #[] #[],.int .i64 2,.int .i64 0,.func (.func 72) #[] #[],.func (.func 73) #[] #[],.int .i64 0,.int .i64 2,.func (.func 74) #[] #[],.func (.func 73) #[] #[],.int .i64 0,.int .i64 2,.func (.func 75) #[] #[],.func (.func 76) #[] #[],.int .i64 1,.int .i64 1,.func (.func 77) #[] #[],.func (.func 71) #[] #[],.int .i64 2]
theorem wS:(Tryz.prog.info? 104).map (·.size)=some migRows.size:=by kernel_rfl
theorem gC(w:World):Calls Tryz.prog 52 #[] w fun e w'=>e=.returned (.agg migRows)∧Ext w w':=by
 have hi:=hD wS
 go_enter Tryz.func52,Tryz.ntmps52
 go_wp2_with (first|fail|((with_reducible refine aD 104 ?_);refine aE rfl rfl 104 _ _ _ rfl _ migRows _ rfl ?_ rfl hi.out rfl rfl ?_;· rfl))
 exact bodyPost_ret (results_cell_row rfl _ _ _ _ migRows (0,0) _ rfl (heap_alloc_new _ _) Tryz.underlying104 rfl hi.out) rfl ⟨rfl,(Ext.refl w).alloc _⟩
theorem eZ:(Tryz.prog.info? 103).map (·.size)=some 4:=by kernel_rfl
theorem iH(w:World):(Instr.index 104 (.agg migRows) (.int .i64 0)).run Tryz.prog w=.ok (.agg #[.int .i64 0,.func (.func 70) #[] #[],.func (.func 71) #[] #[],.int .i64 2]) w:=by kernel_rfl
theorem iI(w:World):(Instr.index 104 (.agg migRows) (.int .i64 1)).run Tryz.prog w=.ok (.agg #[.int .i64 0,.func (.func 72) #[] #[],.func (.func 73) #[] #[],.int .i64 0]) w:=by kernel_rfl
theorem iJ(w:World):(Instr.index 104 (.agg migRows) (.int .i64 2)).run Tryz.prog w=.ok (.agg #[.int .i64 2,.func (.func 74) #[] #[],.func (.func 73) #[] #[],.int .i64 0]) w:=by kernel_rfl
theorem iK(w:World):(Instr.index 104 (.agg migRows) (.int .i64 3)).run Tryz.prog w=.ok (.agg #[.int .i64 2,.func (.func 75) #[] #[],.func (.func 76) #[] #[],.int .i64 1]) w:=by kernel_rfl
theorem iL(w:World):(Instr.index 104 (.agg migRows) (.int .i64 4)).run Tryz.prog w=.ok (.agg #[.int .i64 1,.func (.func 77) #[] #[],.func (.func 71) #[] #[],.int .i64 2]) w:=by kernel_rfl
def cX(B:Br)(k:Nat):Br:=((B.setp k 37 (.bool false)).setp k 38 (.bool false)).setp k 16 (.int .i64 2)
def dW(B:Br)(k:Nat):Br:=(((B.setp k 30 (.bool false)).setp k 45 (.bool (B.hb 1))).setp k 9 (.int .i64 3)).setp k 16 (.int .i64 0)
def fL(B:Br)(k:Nat):Br:=((B.setp k 45 (.bool false)).setp k 9 (.int .i64 3)).setp k 16 (.int .i64 1)
def mh1(B:Br)(k:Nat):Bool:=B.gi k 9 == 0
def mh2(B:Br)(k:Nat):Bool:=(B.gi k 9 != 3) && !B.gb k 2
def mh3(B:Br)(k:Nat):Bool:=!B.gb k 2 || B.gb k 30 || B.hb 1 && B.gb k 37 && !B.gb k 45
def mh4(B:Br)(k:Nat):Bool:=B.gb k 45 && B.gb k 38
def mh5(B:Br)(k:Nat):Bool:=(B.gi k 9 == 0) || !B.gb k 2 || B.gb k 30
def gD(B:Br)(k:Nat):Bool × Br :=
 if B.gi k 16=0 then if mh1 B k=true then(true,cX B k)else if mh2 B k=true then(true,dW B k)else(false,B)
 else if B.gi k 16=2 then if mh3 B k=true then(true,dW B k)else if mh4 B k=true then(true,fL B k)else(false,B)
 else if B.gi k 16=1 then if mh5 B k=true then(true,cX B k)else(false,B)
 else(false,B)
theorem aF7(w:World)(F:Nat→Prop)(X g k:Nat)(B:Br)(h:BrG w F X g B)(ho:B.ok)(hk:k<B.np)(hk2:k<1000)(s0:B.gi k 16=0)(v1:mh1 B k=true):
    Calls Tryz.prog 38 #[.pointer (some ⟨X,0,none⟩),.int .i64 k] w (aN w F X g (true,cX B k)):=by
 obtain⟨hX,hg,hne⟩:=h.lt
 obtain⟨cap,c17,hc1,hc2⟩:=h.cell17 ho
 have P1:=hD ((h.cellX ho (i:=1) (by omega)).trans (ho.hb 1 rfl))
 have P2:=hD (qb h ho hk 2)
 have P9:=hD (qi h ho hk 9 rfl)
 have P16:=hD (qi h ho hk 16 rfl)
 have P30:=hD (qb h ho hk 30)
 have P37:=hD (qb h ho hk 37)
 have P38:=hD (qb h ho hk 38)
 have P45:=hD (qb h ho hk 45)
 have H:=hD h
 have V1:=hD v1
 clear h v1
 have S16:=hD s0
 clear s0
 have hi:=hD eZ
 have i0:=iH
 have i1:=iI
 have i2:=iJ
 have i3:=iK
 have i4:=iL
 go_enter Tryz.func38,Tryz.ntmps38
 go_wp2_with fail
 refine(gC _).mono ?_
 rintro e w0 ⟨rfl,hx0⟩
 have hg0:=nL hg hx0.size
 have hX0:=nL hX hx0.size
 have qa0:=xc hx0 hX P1.out
 have qb0:=xc hx0 hg P16.out
 rw[S16.out]at qb0
 clear c17
 go_wp2_with fail
 refine wp_loop_rounds 6 ?_
 rw[rounds_succ]
 go_wp2_with (first|fail|((with_reducible refine aD 103 ?_);refine aE rfl rfl 103 _ _ _ rfl _ #[.int .i64 0,.func (.func 70) #[] #[],.func (.func 71) #[] #[],.int .i64 2] _ rfl ?_ rfl hi.out rfl rfl ?_;· simp))
 go_quiet ((exact eP (eM (y:=true) (wQ _ g (k*89) _ _ (((hx0.alloc _).drewN _).cell (p:=⟨g,k*89+9,none⟩) hg |>.trans P9.out)) V1.out)))
 have bx:∀j,(World.drewN (w0.alloc (.cells #[.int .i64 0,.func (.func 70) #[] #[],.func (.func 71) #[] #[],.int .i64 2] 103)) nq).cell? ⟨w0.heap.size,j,none⟩=#[.int .i64 0,.func (.func 70) #[] #[],.func (.func 71) #[] #[],.int .i64 2][j]?:=fun j=>by
  rw[World.cell?_drewN]
  exact World.cell?_alloc_at _ _ _ _ rfl
 have hy:Ext w (World.drewN (w0.alloc (.cells #[.int .i64 0,.func (.func 70) #[] #[],.func (.func 71) #[] #[],.int .i64 2] 103)) nq):=(hx0.alloc _).drewN _
 go_wp2_with fail
 refine aS 7 (by kernel_rfl) (by kernel_rfl) ?_
 intro w9 hw9
 have hx9:Ext w w9:=by
  rw[hw9]
  exact hy.drew
 have b2:w9.cell? ⟨w0.heap.size,2,none⟩=some (.func (.func 71) #[] #[]):=by
  rw[hw9,World.cell?_drew,bx]
  rfl
 have b3:w9.cell? ⟨w0.heap.size,3,none⟩=some (.int .i64 2):=by
  rw[hw9,World.cell?_drew,bx]
  rfl
 have hgz:g≠w0.heap.size:=Nat.ne_of_lt hg0
 clear hw9 bx hy qa0 qb0
 have q1:=xc hx9 hX P1.out
 have p9:=xc hx9 hg P9.out
 have p16:=xc hx9 hg P16.out
 have p30:=xc hx9 hg P30.out
 have p37:=xc hx9 hg P37.out
 have p38:=xc hx9 hg P38.out
 have p45:=xc hx9 hg P45.out
 have hf9:∀j,w9.frozen? ⟨g,j,none⟩=false:=fun j=>(H.out.ext hx9).frozen j
 simp only[List.take_succ_cons,List.take_zero,List.drop_succ_cons,List.drop_zero]
 repeat still_step
 refine wpStill_nil ?_
 go_wp2_with fail
 refine(o7 _ g (k*89) _ _ w9 p37 p38 hf9).mono ?_
 rintro e w3 ⟨rfl,rfl⟩
 go_wp2_with fail
 go_ret
 exact⟨rfl,((((H.out.ext hx9).setp (j:=37) hk (by decide) _).setp (j:=38) hk (by decide) _).setp (j:=16) hk (by decide) _),((((hx9.mut F).setCell (.inl H.out.F2) _).setCell (.inl H.out.F2) _).setCell (.inl H.out.F2) _)⟩
theorem aF8(w:World)(F:Nat→Prop)(X g k:Nat)(B:Br)(h:BrG w F X g B)(ho:B.ok)(hk:k<B.np)(hk2:k<1000)(s0:B.gi k 16=0)(v1:mh1 B k=false)(v2:mh2 B k=true):
    Calls Tryz.prog 38 #[.pointer (some ⟨X,0,none⟩),.int .i64 k] w (aN w F X g (true,dW B k)):=by
 obtain⟨hX,hg,hne⟩:=h.lt
 obtain⟨cap,c17,hc1,hc2⟩:=h.cell17 ho
 have P1:=hD ((h.cellX ho (i:=1) (by omega)).trans (ho.hb 1 rfl))
 have P2:=hD (qb h ho hk 2)
 have P9:=hD (qi h ho hk 9 rfl)
 have P16:=hD (qi h ho hk 16 rfl)
 have P30:=hD (qb h ho hk 30)
 have P37:=hD (qb h ho hk 37)
 have P38:=hD (qb h ho hk 38)
 have P45:=hD (qb h ho hk 45)
 have H:=hD h
 have V1:=hD v1
 have V2:=hD v2
 clear h v1 v2
 have S16:=hD s0
 clear s0
 have hi:=hD eZ
 have i0:=iH
 have i1:=iI
 have i2:=iJ
 have i3:=iK
 have i4:=iL
 go_enter Tryz.func38,Tryz.ntmps38
 go_wp2_with fail
 refine(gC _).mono ?_
 rintro e w0 ⟨rfl,hx0⟩
 have hg0:=nL hg hx0.size
 have hX0:=nL hX hx0.size
 have qa0:=xc hx0 hX P1.out
 have qb0:=xc hx0 hg P16.out
 rw[S16.out]at qb0
 clear c17
 go_wp2_with fail
 refine wp_loop_rounds 6 ?_
 rw[rounds_succ]
 go_wp2_with (first|fail|((with_reducible refine aD 103 ?_);refine aE rfl rfl 103 _ _ _ rfl _ #[.int .i64 0,.func (.func 70) #[] #[],.func (.func 71) #[] #[],.int .i64 2] _ rfl ?_ rfl hi.out rfl rfl ?_;· simp))
 go_quiet ((exact eP (eM (y:=false) (wQ _ g (k*89) _ _ (((hx0.alloc _).drewN _).cell (p:=⟨g,k*89+9,none⟩) hg |>.trans P9.out)) V1.out)))
 have hy:Ext w (World.drewN (w0.alloc (.cells #[.int .i64 0,.func (.func 70) #[] #[],.func (.func 71) #[] #[],.int .i64 2] 103)) nq):=(hx0.alloc _).drewN _
 go_wp2_with fail
 generalize World.drewN _ nq=w1 at hy ⊢
 have hx1:=hy
 clear qa0 qb0 hg0 hX0 hy
 have hg1:=nL hg hx1.size
 have hX1:=nL hX hx1.size
 have qa1:=xc hx1 hX P1.out
 have qb1:=xc hx1 hg P16.out
 rw[S16.out]at qb1
 rw[rounds_succ]
 go_wp2_with (first|fail|((with_reducible refine aD 103 ?_);refine aE rfl rfl 103 _ _ _ rfl _ #[.int .i64 0,.func (.func 72) #[] #[],.func (.func 73) #[] #[],.int .i64 0] _ rfl ?_ rfl hi.out rfl rfl ?_;· simp))
 go_quiet ((exact eP (eM (y:=true) (aDK _ g (k*89) _ _ _ (((hx1.alloc _).drewN _).cell (p:=⟨g,k*89+9,none⟩) hg |>.trans P9.out) (((hx1.alloc _).drewN _).cell (p:=⟨g,k*89+2,none⟩) hg |>.trans P2.out)) V2.out)))
 have bx:∀j,(World.drewN (w1.alloc (.cells #[.int .i64 0,.func (.func 72) #[] #[],.func (.func 73) #[] #[],.int .i64 0] 103)) nq).cell? ⟨w1.heap.size,j,none⟩=#[.int .i64 0,.func (.func 72) #[] #[],.func (.func 73) #[] #[],.int .i64 0][j]?:=fun j=>by
  rw[World.cell?_drewN]
  exact World.cell?_alloc_at _ _ _ _ rfl
 have hy:Ext w (World.drewN (w1.alloc (.cells #[.int .i64 0,.func (.func 72) #[] #[],.func (.func 73) #[] #[],.int .i64 0] 103)) nq):=(hx1.alloc _).drewN _
 go_wp2_with fail
 refine aS 7 (by kernel_rfl) (by kernel_rfl) ?_
 intro w9 hw9
 have hx9:Ext w w9:=by
  rw[hw9]
  exact hy.drew
 have b2:w9.cell? ⟨w1.heap.size,2,none⟩=some (.func (.func 73) #[] #[]):=by
  rw[hw9,World.cell?_drew,bx]
  rfl
 have b3:w9.cell? ⟨w1.heap.size,3,none⟩=some (.int .i64 0):=by
  rw[hw9,World.cell?_drew,bx]
  rfl
 have hgz:g≠w1.heap.size:=Nat.ne_of_lt hg1
 clear hw9 bx hy qa1 qb1
 have q1:=xc hx9 hX P1.out
 have p9:=xc hx9 hg P9.out
 have p16:=xc hx9 hg P16.out
 have p30:=xc hx9 hg P30.out
 have p37:=xc hx9 hg P37.out
 have p38:=xc hx9 hg P38.out
 have p45:=xc hx9 hg P45.out
 have hf9:∀j,w9.frozen? ⟨g,j,none⟩=false:=fun j=>(H.out.ext hx9).frozen j
 simp only[List.take_succ_cons,List.take_zero,List.drop_succ_cons,List.drop_zero]
 repeat still_step
 refine wpStill_nil ?_
 go_wp2_with fail
 refine(q8 _ g (k*89) _ _ _ w9 p9 p30 p45 hf9).mono ?_
 rintro e w3 ⟨rfl,rfl⟩
 go_wp2_with fail
 go_ret
 exact⟨rfl,(((((H.out.ext hx9).setp (j:=30) hk (by decide) _).setp (j:=45) hk (by decide) _).setp (j:=9) hk (by decide) _).setp (j:=16) hk (by decide) _),(((((hx9.mut F).setCell (.inl H.out.F2) _).setCell (.inl H.out.F2) _).setCell (.inl H.out.F2) _).setCell (.inl H.out.F2) _)⟩
theorem aF9(w:World)(F:Nat→Prop)(X g k:Nat)(B:Br)(h:BrG w F X g B)(ho:B.ok)(hk:k<B.np)(hk2:k<1000)(s0:B.gi k 16=0)(v1:mh1 B k=false)(v2:mh2 B k=false):
    Calls Tryz.prog 38 #[.pointer (some ⟨X,0,none⟩),.int .i64 k] w (aN w F X g (false,B)):=by
 obtain⟨hX,hg,hne⟩:=h.lt
 obtain⟨cap,c17,hc1,hc2⟩:=h.cell17 ho
 have P1:=hD ((h.cellX ho (i:=1) (by omega)).trans (ho.hb 1 rfl))
 have P2:=hD (qb h ho hk 2)
 have P9:=hD (qi h ho hk 9 rfl)
 have P16:=hD (qi h ho hk 16 rfl)
 have P30:=hD (qb h ho hk 30)
 have P37:=hD (qb h ho hk 37)
 have P38:=hD (qb h ho hk 38)
 have P45:=hD (qb h ho hk 45)
 have H:=hD h
 have V1:=hD v1
 have V2:=hD v2
 clear h v1 v2
 have S16:=hD s0
 clear s0
 have hi:=hD eZ
 have i0:=iH
 have i1:=iI
 have i2:=iJ
 have i3:=iK
 have i4:=iL
 go_enter Tryz.func38,Tryz.ntmps38
 go_wp2_with fail
 refine(gC _).mono ?_
 rintro e w0 ⟨rfl,hx0⟩
 have hg0:=nL hg hx0.size
 have hX0:=nL hX hx0.size
 have qa0:=xc hx0 hX P1.out
 have qb0:=xc hx0 hg P16.out
 rw[S16.out]at qb0
 clear c17
 go_wp2_with fail
 refine wp_loop_rounds 6 ?_
 rw[rounds_succ]
 go_wp2_with (first|fail|((with_reducible refine aD 103 ?_);refine aE rfl rfl 103 _ _ _ rfl _ #[.int .i64 0,.func (.func 70) #[] #[],.func (.func 71) #[] #[],.int .i64 2] _ rfl ?_ rfl hi.out rfl rfl ?_;· simp))
 go_quiet ((exact eP (eM (y:=false) (wQ _ g (k*89) _ _ (((hx0.alloc _).drewN _).cell (p:=⟨g,k*89+9,none⟩) hg |>.trans P9.out)) V1.out)))
 have hy:Ext w (World.drewN (w0.alloc (.cells #[.int .i64 0,.func (.func 70) #[] #[],.func (.func 71) #[] #[],.int .i64 2] 103)) nq):=(hx0.alloc _).drewN _
 go_wp2_with fail
 generalize World.drewN _ nq=w1 at hy ⊢
 have hx1:=hy
 clear qa0 qb0 hg0 hX0 hy
 have hg1:=nL hg hx1.size
 have hX1:=nL hX hx1.size
 have qa1:=xc hx1 hX P1.out
 have qb1:=xc hx1 hg P16.out
 rw[S16.out]at qb1
 rw[rounds_succ]
 go_wp2_with (first|fail|((with_reducible refine aD 103 ?_);refine aE rfl rfl 103 _ _ _ rfl _ #[.int .i64 0,.func (.func 72) #[] #[],.func (.func 73) #[] #[],.int .i64 0] _ rfl ?_ rfl hi.out rfl rfl ?_;· simp))
 go_quiet ((exact eP (eM (y:=false) (aDK _ g (k*89) _ _ _ (((hx1.alloc _).drewN _).cell (p:=⟨g,k*89+9,none⟩) hg |>.trans P9.out) (((hx1.alloc _).drewN _).cell (p:=⟨g,k*89+2,none⟩) hg |>.trans P2.out)) V2.out)))
 have hy:Ext w (World.drewN (w1.alloc (.cells #[.int .i64 0,.func (.func 72) #[] #[],.func (.func 73) #[] #[],.int .i64 0] 103)) nq):=(hx1.alloc _).drewN _
 go_wp2_with fail
 generalize World.drewN _ nq=w2 at hy ⊢
 have hx2:=hy
 clear qa1 qb1 hg1 hX1 hy
 have hg2:=nL hg hx2.size
 have hX2:=nL hX hx2.size
 have qa2:=xc hx2 hX P1.out
 have qb2:=xc hx2 hg P16.out
 rw[S16.out]at qb2
 rw[rounds_succ]
 go_wp2_with (first|fail|((with_reducible refine aD 103 ?_);refine aE rfl rfl 103 _ _ _ rfl _ #[.int .i64 2,.func (.func 74) #[] #[],.func (.func 73) #[] #[],.int .i64 0] _ rfl ?_ rfl hi.out rfl rfl ?_;· simp))
 go_quiet (fail)
 have hy:Ext w (World.drewN (w2.alloc (.cells #[.int .i64 2,.func (.func 74) #[] #[],.func (.func 73) #[] #[],.int .i64 0] 103)) nq):=(hx2.alloc _).drewN _
 go_wp2_with fail
 generalize World.drewN _ nq=w3 at hy ⊢
 have hx3:=hy
 clear qa2 qb2 hg2 hX2 hy
 have hg3:=nL hg hx3.size
 have hX3:=nL hX hx3.size
 have qa3:=xc hx3 hX P1.out
 have qb3:=xc hx3 hg P16.out
 rw[S16.out]at qb3
 rw[rounds_succ]
 go_wp2_with (first|fail|((with_reducible refine aD 103 ?_);refine aE rfl rfl 103 _ _ _ rfl _ #[.int .i64 2,.func (.func 75) #[] #[],.func (.func 76) #[] #[],.int .i64 1] _ rfl ?_ rfl hi.out rfl rfl ?_;· simp))
 go_quiet (fail)
 have hy:Ext w (World.drewN (w3.alloc (.cells #[.int .i64 2,.func (.func 75) #[] #[],.func (.func 76) #[] #[],.int .i64 1] 103)) nq):=(hx3.alloc _).drewN _
 go_wp2_with fail
 generalize World.drewN _ nq=w4 at hy ⊢
 have hx4:=hy
 clear qa3 qb3 hg3 hX3 hy
 have hg4:=nL hg hx4.size
 have hX4:=nL hX hx4.size
 have qa4:=xc hx4 hX P1.out
 have qb4:=xc hx4 hg P16.out
 rw[S16.out]at qb4
 rw[rounds_succ]
 go_wp2_with (first|fail|((with_reducible refine aD 103 ?_);refine aE rfl rfl 103 _ _ _ rfl _ #[.int .i64 1,.func (.func 77) #[] #[],.func (.func 71) #[] #[],.int .i64 2] _ rfl ?_ rfl hi.out rfl rfl ?_;· simp))
 go_quiet (fail)
 have hy:Ext w (World.drewN (w4.alloc (.cells #[.int .i64 1,.func (.func 77) #[] #[],.func (.func 71) #[] #[],.int .i64 2] 103)) nq):=(hx4.alloc _).drewN _
 go_wp2_with fail
 generalize World.drewN _ nq=w5 at hy ⊢
 have hx5:=hy
 clear qa4 qb4 hg4 hX4 hy
 have hg5:=nL hg hx5.size
 have hX5:=nL hX hx5.size
 have qa5:=xc hx5 hX P1.out
 have qb5:=xc hx5 hg P16.out
 rw[S16.out]at qb5
 rw[rounds_succ]
 go_wp2_with fail
 go_ret
 exact⟨rfl,H.out.ext hx5,hx5.mut F⟩
theorem aGA(w:World)(F:Nat→Prop)(X g k:Nat)(B:Br)(h:BrG w F X g B)(ho:B.ok)(hk:k<B.np)(hk2:k<1000)(s0:B.gi k 16=2)(v3:mh3 B k=true):
    Calls Tryz.prog 38 #[.pointer (some ⟨X,0,none⟩),.int .i64 k] w (aN w F X g (true,dW B k)):=by
 obtain⟨hX,hg,hne⟩:=h.lt
 obtain⟨cap,c17,hc1,hc2⟩:=h.cell17 ho
 have P1:=hD ((h.cellX ho (i:=1) (by omega)).trans (ho.hb 1 rfl))
 have P2:=hD (qb h ho hk 2)
 have P9:=hD (qi h ho hk 9 rfl)
 have P16:=hD (qi h ho hk 16 rfl)
 have P30:=hD (qb h ho hk 30)
 have P37:=hD (qb h ho hk 37)
 have P38:=hD (qb h ho hk 38)
 have P45:=hD (qb h ho hk 45)
 have H:=hD h
 have V3:=hD v3
 clear h v3
 have S16:=hD s0
 clear s0
 have hi:=hD eZ
 have i0:=iH
 have i1:=iI
 have i2:=iJ
 have i3:=iK
 have i4:=iL
 go_enter Tryz.func38,Tryz.ntmps38
 go_wp2_with fail
 refine(gC _).mono ?_
 rintro e w0 ⟨rfl,hx0⟩
 have hg0:=nL hg hx0.size
 have hX0:=nL hX hx0.size
 have qa0:=xc hx0 hX P1.out
 have qb0:=xc hx0 hg P16.out
 rw[S16.out]at qb0
 clear c17
 go_wp2_with fail
 refine wp_loop_rounds 6 ?_
 rw[rounds_succ]
 go_wp2_with (first|fail|((with_reducible refine aD 103 ?_);refine aE rfl rfl 103 _ _ _ rfl _ #[.int .i64 0,.func (.func 70) #[] #[],.func (.func 71) #[] #[],.int .i64 2] _ rfl ?_ rfl hi.out rfl rfl ?_;· simp))
 go_quiet (fail)
 have hy:Ext w (World.drewN (w0.alloc (.cells #[.int .i64 0,.func (.func 70) #[] #[],.func (.func 71) #[] #[],.int .i64 2] 103)) nq):=(hx0.alloc _).drewN _
 go_wp2_with fail
 generalize World.drewN _ nq=w1 at hy ⊢
 have hx1:=hy
 clear qa0 qb0 hg0 hX0 hy
 have hg1:=nL hg hx1.size
 have hX1:=nL hX hx1.size
 have qa1:=xc hx1 hX P1.out
 have qb1:=xc hx1 hg P16.out
 rw[S16.out]at qb1
 rw[rounds_succ]
 go_wp2_with (first|fail|((with_reducible refine aD 103 ?_);refine aE rfl rfl 103 _ _ _ rfl _ #[.int .i64 0,.func (.func 72) #[] #[],.func (.func 73) #[] #[],.int .i64 0] _ rfl ?_ rfl hi.out rfl rfl ?_;· simp))
 go_quiet (fail)
 have hy:Ext w (World.drewN (w1.alloc (.cells #[.int .i64 0,.func (.func 72) #[] #[],.func (.func 73) #[] #[],.int .i64 0] 103)) nq):=(hx1.alloc _).drewN _
 go_wp2_with fail
 generalize World.drewN _ nq=w2 at hy ⊢
 have hx2:=hy
 clear qa1 qb1 hg1 hX1 hy
 have hg2:=nL hg hx2.size
 have hX2:=nL hX hx2.size
 have qa2:=xc hx2 hX P1.out
 have qb2:=xc hx2 hg P16.out
 rw[S16.out]at qb2
 rw[rounds_succ]
 go_wp2_with (first|fail|((with_reducible refine aD 103 ?_);refine aE rfl rfl 103 _ _ _ rfl _ #[.int .i64 2,.func (.func 74) #[] #[],.func (.func 73) #[] #[],.int .i64 0] _ rfl ?_ rfl hi.out rfl rfl ?_;· simp))
 go_quiet ((exact eP (eM (y:=true) (wR _ g (k*89) _ _ _ _ _ (((hx2.alloc _).drewN _).cell (p:=⟨g,k*89+2,none⟩) hg |>.trans P2.out) (((hx2.alloc _).drewN _).cell (p:=⟨g,k*89+30,none⟩) hg |>.trans P30.out) (((hx2.alloc _).drewN _).cell (p:=⟨g,k*89+37,none⟩) hg |>.trans P37.out) (((hx2.alloc _).drewN _).cell (p:=⟨g,k*89+45,none⟩) hg |>.trans P45.out)) V3.out)))
 have bx:∀j,(World.drewN (w2.alloc (.cells #[.int .i64 2,.func (.func 74) #[] #[],.func (.func 73) #[] #[],.int .i64 0] 103)) nq).cell? ⟨w2.heap.size,j,none⟩=#[.int .i64 2,.func (.func 74) #[] #[],.func (.func 73) #[] #[],.int .i64 0][j]?:=fun j=>by
  rw[World.cell?_drewN]
  exact World.cell?_alloc_at _ _ _ _ rfl
 have hy:Ext w (World.drewN (w2.alloc (.cells #[.int .i64 2,.func (.func 74) #[] #[],.func (.func 73) #[] #[],.int .i64 0] 103)) nq):=(hx2.alloc _).drewN _
 go_wp2_with fail
 refine aS 7 (by kernel_rfl) (by kernel_rfl) ?_
 intro w9 hw9
 have hx9:Ext w w9:=by
  rw[hw9]
  exact hy.drew
 have b2:w9.cell? ⟨w2.heap.size,2,none⟩=some (.func (.func 73) #[] #[]):=by
  rw[hw9,World.cell?_drew,bx]
  rfl
 have b3:w9.cell? ⟨w2.heap.size,3,none⟩=some (.int .i64 0):=by
  rw[hw9,World.cell?_drew,bx]
  rfl
 have hgz:g≠w2.heap.size:=Nat.ne_of_lt hg2
 clear hw9 bx hy qa2 qb2
 have q1:=xc hx9 hX P1.out
 have p9:=xc hx9 hg P9.out
 have p16:=xc hx9 hg P16.out
 have p30:=xc hx9 hg P30.out
 have p37:=xc hx9 hg P37.out
 have p38:=xc hx9 hg P38.out
 have p45:=xc hx9 hg P45.out
 have hf9:∀j,w9.frozen? ⟨g,j,none⟩=false:=fun j=>(H.out.ext hx9).frozen j
 simp only[List.take_succ_cons,List.take_zero,List.drop_succ_cons,List.drop_zero]
 repeat still_step
 refine wpStill_nil ?_
 go_wp2_with fail
 refine(q8 _ g (k*89) _ _ _ w9 p9 p30 p45 hf9).mono ?_
 rintro e w3 ⟨rfl,rfl⟩
 go_wp2_with fail
 go_ret
 exact⟨rfl,(((((H.out.ext hx9).setp (j:=30) hk (by decide) _).setp (j:=45) hk (by decide) _).setp (j:=9) hk (by decide) _).setp (j:=16) hk (by decide) _),(((((hx9.mut F).setCell (.inl H.out.F2) _).setCell (.inl H.out.F2) _).setCell (.inl H.out.F2) _).setCell (.inl H.out.F2) _)⟩
theorem aGB(w:World)(F:Nat→Prop)(X g k:Nat)(B:Br)(h:BrG w F X g B)(ho:B.ok)(hk:k<B.np)(hk2:k<1000)(s0:B.gi k 16=2)(v3:mh3 B k=false)(v4:mh4 B k=true):
    Calls Tryz.prog 38 #[.pointer (some ⟨X,0,none⟩),.int .i64 k] w (aN w F X g (true,fL B k)):=by
 obtain⟨hX,hg,hne⟩:=h.lt
 obtain⟨cap,c17,hc1,hc2⟩:=h.cell17 ho
 have P1:=hD ((h.cellX ho (i:=1) (by omega)).trans (ho.hb 1 rfl))
 have P2:=hD (qb h ho hk 2)
 have P9:=hD (qi h ho hk 9 rfl)
 have P16:=hD (qi h ho hk 16 rfl)
 have P30:=hD (qb h ho hk 30)
 have P37:=hD (qb h ho hk 37)
 have P38:=hD (qb h ho hk 38)
 have P45:=hD (qb h ho hk 45)
 have H:=hD h
 have V3:=hD v3
 have V4:=hD v4
 clear h v3 v4
 have S16:=hD s0
 clear s0
 have hi:=hD eZ
 have i0:=iH
 have i1:=iI
 have i2:=iJ
 have i3:=iK
 have i4:=iL
 go_enter Tryz.func38,Tryz.ntmps38
 go_wp2_with fail
 refine(gC _).mono ?_
 rintro e w0 ⟨rfl,hx0⟩
 have hg0:=nL hg hx0.size
 have hX0:=nL hX hx0.size
 have qa0:=xc hx0 hX P1.out
 have qb0:=xc hx0 hg P16.out
 rw[S16.out]at qb0
 clear c17
 go_wp2_with fail
 refine wp_loop_rounds 6 ?_
 rw[rounds_succ]
 go_wp2_with (first|fail|((with_reducible refine aD 103 ?_);refine aE rfl rfl 103 _ _ _ rfl _ #[.int .i64 0,.func (.func 70) #[] #[],.func (.func 71) #[] #[],.int .i64 2] _ rfl ?_ rfl hi.out rfl rfl ?_;· simp))
 go_quiet (fail)
 have hy:Ext w (World.drewN (w0.alloc (.cells #[.int .i64 0,.func (.func 70) #[] #[],.func (.func 71) #[] #[],.int .i64 2] 103)) nq):=(hx0.alloc _).drewN _
 go_wp2_with fail
 generalize World.drewN _ nq=w1 at hy ⊢
 have hx1:=hy
 clear qa0 qb0 hg0 hX0 hy
 have hg1:=nL hg hx1.size
 have hX1:=nL hX hx1.size
 have qa1:=xc hx1 hX P1.out
 have qb1:=xc hx1 hg P16.out
 rw[S16.out]at qb1
 rw[rounds_succ]
 go_wp2_with (first|fail|((with_reducible refine aD 103 ?_);refine aE rfl rfl 103 _ _ _ rfl _ #[.int .i64 0,.func (.func 72) #[] #[],.func (.func 73) #[] #[],.int .i64 0] _ rfl ?_ rfl hi.out rfl rfl ?_;· simp))
 go_quiet (fail)
 have hy:Ext w (World.drewN (w1.alloc (.cells #[.int .i64 0,.func (.func 72) #[] #[],.func (.func 73) #[] #[],.int .i64 0] 103)) nq):=(hx1.alloc _).drewN _
 go_wp2_with fail
 generalize World.drewN _ nq=w2 at hy ⊢
 have hx2:=hy
 clear qa1 qb1 hg1 hX1 hy
 have hg2:=nL hg hx2.size
 have hX2:=nL hX hx2.size
 have qa2:=xc hx2 hX P1.out
 have qb2:=xc hx2 hg P16.out
 rw[S16.out]at qb2
 rw[rounds_succ]
 go_wp2_with (first|fail|((with_reducible refine aD 103 ?_);refine aE rfl rfl 103 _ _ _ rfl _ #[.int .i64 2,.func (.func 74) #[] #[],.func (.func 73) #[] #[],.int .i64 0] _ rfl ?_ rfl hi.out rfl rfl ?_;· simp))
 go_quiet ((exact eP (eM (y:=false) (wR _ g (k*89) _ _ _ _ _ (((hx2.alloc _).drewN _).cell (p:=⟨g,k*89+2,none⟩) hg |>.trans P2.out) (((hx2.alloc _).drewN _).cell (p:=⟨g,k*89+30,none⟩) hg |>.trans P30.out) (((hx2.alloc _).drewN _).cell (p:=⟨g,k*89+37,none⟩) hg |>.trans P37.out) (((hx2.alloc _).drewN _).cell (p:=⟨g,k*89+45,none⟩) hg |>.trans P45.out)) V3.out)))
 have hy:Ext w (World.drewN (w2.alloc (.cells #[.int .i64 2,.func (.func 74) #[] #[],.func (.func 73) #[] #[],.int .i64 0] 103)) nq):=(hx2.alloc _).drewN _
 go_wp2_with fail
 generalize World.drewN _ nq=w3 at hy ⊢
 have hx3:=hy
 clear qa2 qb2 hg2 hX2 hy
 have hg3:=nL hg hx3.size
 have hX3:=nL hX hx3.size
 have qa3:=xc hx3 hX P1.out
 have qb3:=xc hx3 hg P16.out
 rw[S16.out]at qb3
 rw[rounds_succ]
 go_wp2_with (first|fail|((with_reducible refine aD 103 ?_);refine aE rfl rfl 103 _ _ _ rfl _ #[.int .i64 2,.func (.func 75) #[] #[],.func (.func 76) #[] #[],.int .i64 1] _ rfl ?_ rfl hi.out rfl rfl ?_;· simp))
 go_quiet ((exact eP (eM (y:=true) (aDL _ g (k*89) _ _ _ (((hx3.alloc _).drewN _).cell (p:=⟨g,k*89+45,none⟩) hg |>.trans P45.out) (((hx3.alloc _).drewN _).cell (p:=⟨g,k*89+38,none⟩) hg |>.trans P38.out)) V4.out)))
 have bx:∀j,(World.drewN (w3.alloc (.cells #[.int .i64 2,.func (.func 75) #[] #[],.func (.func 76) #[] #[],.int .i64 1] 103)) nq).cell? ⟨w3.heap.size,j,none⟩=#[.int .i64 2,.func (.func 75) #[] #[],.func (.func 76) #[] #[],.int .i64 1][j]?:=fun j=>by
  rw[World.cell?_drewN]
  exact World.cell?_alloc_at _ _ _ _ rfl
 have hy:Ext w (World.drewN (w3.alloc (.cells #[.int .i64 2,.func (.func 75) #[] #[],.func (.func 76) #[] #[],.int .i64 1] 103)) nq):=(hx3.alloc _).drewN _
 go_wp2_with fail
 refine aS 7 (by kernel_rfl) (by kernel_rfl) ?_
 intro w9 hw9
 have hx9:Ext w w9:=by
  rw[hw9]
  exact hy.drew
 have b2:w9.cell? ⟨w3.heap.size,2,none⟩=some (.func (.func 76) #[] #[]):=by
  rw[hw9,World.cell?_drew,bx]
  rfl
 have b3:w9.cell? ⟨w3.heap.size,3,none⟩=some (.int .i64 1):=by
  rw[hw9,World.cell?_drew,bx]
  rfl
 have hgz:g≠w3.heap.size:=Nat.ne_of_lt hg3
 clear hw9 bx hy qa3 qb3
 have q1:=xc hx9 hX P1.out
 have p9:=xc hx9 hg P9.out
 have p16:=xc hx9 hg P16.out
 have p30:=xc hx9 hg P30.out
 have p37:=xc hx9 hg P37.out
 have p38:=xc hx9 hg P38.out
 have p45:=xc hx9 hg P45.out
 have hf9:∀j,w9.frozen? ⟨g,j,none⟩=false:=fun j=>(H.out.ext hx9).frozen j
 simp only[List.take_succ_cons,List.take_zero,List.drop_succ_cons,List.drop_zero]
 repeat still_step
 refine wpStill_nil ?_
 go_wp2_with fail
 refine(aA8 _ g (k*89) _ _ w9 p9 p45 hf9).mono ?_
 rintro e w3 ⟨rfl,rfl⟩
 go_wp2_with fail
 go_ret
 exact⟨rfl,((((H.out.ext hx9).setp (j:=45) hk (by decide) _).setp (j:=9) hk (by decide) _).setp (j:=16) hk (by decide) _),((((hx9.mut F).setCell (.inl H.out.F2) _).setCell (.inl H.out.F2) _).setCell (.inl H.out.F2) _)⟩
theorem aGC(w:World)(F:Nat→Prop)(X g k:Nat)(B:Br)(h:BrG w F X g B)(ho:B.ok)(hk:k<B.np)(hk2:k<1000)(s0:B.gi k 16=2)(v3:mh3 B k=false)(v4:mh4 B k=false):
    Calls Tryz.prog 38 #[.pointer (some ⟨X,0,none⟩),.int .i64 k] w (aN w F X g (false,B)):=by
 obtain⟨hX,hg,hne⟩:=h.lt
 obtain⟨cap,c17,hc1,hc2⟩:=h.cell17 ho
 have P1:=hD ((h.cellX ho (i:=1) (by omega)).trans (ho.hb 1 rfl))
 have P2:=hD (qb h ho hk 2)
 have P9:=hD (qi h ho hk 9 rfl)
 have P16:=hD (qi h ho hk 16 rfl)
 have P30:=hD (qb h ho hk 30)
 have P37:=hD (qb h ho hk 37)
 have P38:=hD (qb h ho hk 38)
 have P45:=hD (qb h ho hk 45)
 have H:=hD h
 have V3:=hD v3
 have V4:=hD v4
 clear h v3 v4
 have S16:=hD s0
 clear s0
 have hi:=hD eZ
 have i0:=iH
 have i1:=iI
 have i2:=iJ
 have i3:=iK
 have i4:=iL
 go_enter Tryz.func38,Tryz.ntmps38
 go_wp2_with fail
 refine(gC _).mono ?_
 rintro e w0 ⟨rfl,hx0⟩
 have hg0:=nL hg hx0.size
 have hX0:=nL hX hx0.size
 have qa0:=xc hx0 hX P1.out
 have qb0:=xc hx0 hg P16.out
 rw[S16.out]at qb0
 clear c17
 go_wp2_with fail
 refine wp_loop_rounds 6 ?_
 rw[rounds_succ]
 go_wp2_with (first|fail|((with_reducible refine aD 103 ?_);refine aE rfl rfl 103 _ _ _ rfl _ #[.int .i64 0,.func (.func 70) #[] #[],.func (.func 71) #[] #[],.int .i64 2] _ rfl ?_ rfl hi.out rfl rfl ?_;· simp))
 go_quiet (fail)
 have hy:Ext w (World.drewN (w0.alloc (.cells #[.int .i64 0,.func (.func 70) #[] #[],.func (.func 71) #[] #[],.int .i64 2] 103)) nq):=(hx0.alloc _).drewN _
 go_wp2_with fail
 generalize World.drewN _ nq=w1 at hy ⊢
 have hx1:=hy
 clear qa0 qb0 hg0 hX0 hy
 have hg1:=nL hg hx1.size
 have hX1:=nL hX hx1.size
 have qa1:=xc hx1 hX P1.out
 have qb1:=xc hx1 hg P16.out
 rw[S16.out]at qb1
 rw[rounds_succ]
 go_wp2_with (first|fail|((with_reducible refine aD 103 ?_);refine aE rfl rfl 103 _ _ _ rfl _ #[.int .i64 0,.func (.func 72) #[] #[],.func (.func 73) #[] #[],.int .i64 0] _ rfl ?_ rfl hi.out rfl rfl ?_;· simp))
 go_quiet (fail)
 have hy:Ext w (World.drewN (w1.alloc (.cells #[.int .i64 0,.func (.func 72) #[] #[],.func (.func 73) #[] #[],.int .i64 0] 103)) nq):=(hx1.alloc _).drewN _
 go_wp2_with fail
 generalize World.drewN _ nq=w2 at hy ⊢
 have hx2:=hy
 clear qa1 qb1 hg1 hX1 hy
 have hg2:=nL hg hx2.size
 have hX2:=nL hX hx2.size
 have qa2:=xc hx2 hX P1.out
 have qb2:=xc hx2 hg P16.out
 rw[S16.out]at qb2
 rw[rounds_succ]
 go_wp2_with (first|fail|((with_reducible refine aD 103 ?_);refine aE rfl rfl 103 _ _ _ rfl _ #[.int .i64 2,.func (.func 74) #[] #[],.func (.func 73) #[] #[],.int .i64 0] _ rfl ?_ rfl hi.out rfl rfl ?_;· simp))
 go_quiet ((exact eP (eM (y:=false) (wR _ g (k*89) _ _ _ _ _ (((hx2.alloc _).drewN _).cell (p:=⟨g,k*89+2,none⟩) hg |>.trans P2.out) (((hx2.alloc _).drewN _).cell (p:=⟨g,k*89+30,none⟩) hg |>.trans P30.out) (((hx2.alloc _).drewN _).cell (p:=⟨g,k*89+37,none⟩) hg |>.trans P37.out) (((hx2.alloc _).drewN _).cell (p:=⟨g,k*89+45,none⟩) hg |>.trans P45.out)) V3.out)))
 have hy:Ext w (World.drewN (w2.alloc (.cells #[.int .i64 2,.func (.func 74) #[] #[],.func (.func 73) #[] #[],.int .i64 0] 103)) nq):=(hx2.alloc _).drewN _
 go_wp2_with fail
 generalize World.drewN _ nq=w3 at hy ⊢
 have hx3:=hy
 clear qa2 qb2 hg2 hX2 hy
 have hg3:=nL hg hx3.size
 have hX3:=nL hX hx3.size
 have qa3:=xc hx3 hX P1.out
 have qb3:=xc hx3 hg P16.out
 rw[S16.out]at qb3
 rw[rounds_succ]
 go_wp2_with (first|fail|((with_reducible refine aD 103 ?_);refine aE rfl rfl 103 _ _ _ rfl _ #[.int .i64 2,.func (.func 75) #[] #[],.func (.func 76) #[] #[],.int .i64 1] _ rfl ?_ rfl hi.out rfl rfl ?_;· simp))
 go_quiet ((exact eP (eM (y:=false) (aDL _ g (k*89) _ _ _ (((hx3.alloc _).drewN _).cell (p:=⟨g,k*89+45,none⟩) hg |>.trans P45.out) (((hx3.alloc _).drewN _).cell (p:=⟨g,k*89+38,none⟩) hg |>.trans P38.out)) V4.out)))
 have hy:Ext w (World.drewN (w3.alloc (.cells #[.int .i64 2,.func (.func 75) #[] #[],.func (.func 76) #[] #[],.int .i64 1] 103)) nq):=(hx3.alloc _).drewN _
 go_wp2_with fail
 generalize World.drewN _ nq=w4 at hy ⊢
 have hx4:=hy
 clear qa3 qb3 hg3 hX3 hy
 have hg4:=nL hg hx4.size
 have hX4:=nL hX hx4.size
 have qa4:=xc hx4 hX P1.out
 have qb4:=xc hx4 hg P16.out
 rw[S16.out]at qb4
 rw[rounds_succ]
 go_wp2_with (first|fail|((with_reducible refine aD 103 ?_);refine aE rfl rfl 103 _ _ _ rfl _ #[.int .i64 1,.func (.func 77) #[] #[],.func (.func 71) #[] #[],.int .i64 2] _ rfl ?_ rfl hi.out rfl rfl ?_;· simp))
 go_quiet (fail)
 have hy:Ext w (World.drewN (w4.alloc (.cells #[.int .i64 1,.func (.func 77) #[] #[],.func (.func 71) #[] #[],.int .i64 2] 103)) nq):=(hx4.alloc _).drewN _
 go_wp2_with fail
 generalize World.drewN _ nq=w5 at hy ⊢
 have hx5:=hy
 clear qa4 qb4 hg4 hX4 hy
 have hg5:=nL hg hx5.size
 have hX5:=nL hX hx5.size
 have qa5:=xc hx5 hX P1.out
 have qb5:=xc hx5 hg P16.out
 rw[S16.out]at qb5
 rw[rounds_succ]
 go_wp2_with fail
 go_ret
 exact⟨rfl,H.out.ext hx5,hx5.mut F⟩
theorem aGD(w:World)(F:Nat→Prop)(X g k:Nat)(B:Br)(h:BrG w F X g B)(ho:B.ok)(hk:k<B.np)(hk2:k<1000)(s0:B.gi k 16=1)(v5:mh5 B k=true):
    Calls Tryz.prog 38 #[.pointer (some ⟨X,0,none⟩),.int .i64 k] w (aN w F X g (true,cX B k)):=by
 obtain⟨hX,hg,hne⟩:=h.lt
 obtain⟨cap,c17,hc1,hc2⟩:=h.cell17 ho
 have P1:=hD ((h.cellX ho (i:=1) (by omega)).trans (ho.hb 1 rfl))
 have P2:=hD (qb h ho hk 2)
 have P9:=hD (qi h ho hk 9 rfl)
 have P16:=hD (qi h ho hk 16 rfl)
 have P30:=hD (qb h ho hk 30)
 have P37:=hD (qb h ho hk 37)
 have P38:=hD (qb h ho hk 38)
 have P45:=hD (qb h ho hk 45)
 have H:=hD h
 have V5:=hD v5
 clear h v5
 have S16:=hD s0
 clear s0
 have hi:=hD eZ
 have i0:=iH
 have i1:=iI
 have i2:=iJ
 have i3:=iK
 have i4:=iL
 go_enter Tryz.func38,Tryz.ntmps38
 go_wp2_with fail
 refine(gC _).mono ?_
 rintro e w0 ⟨rfl,hx0⟩
 have hg0:=nL hg hx0.size
 have hX0:=nL hX hx0.size
 have qa0:=xc hx0 hX P1.out
 have qb0:=xc hx0 hg P16.out
 rw[S16.out]at qb0
 clear c17
 go_wp2_with fail
 refine wp_loop_rounds 6 ?_
 rw[rounds_succ]
 go_wp2_with (first|fail|((with_reducible refine aD 103 ?_);refine aE rfl rfl 103 _ _ _ rfl _ #[.int .i64 0,.func (.func 70) #[] #[],.func (.func 71) #[] #[],.int .i64 2] _ rfl ?_ rfl hi.out rfl rfl ?_;· simp))
 go_quiet (fail)
 have hy:Ext w (World.drewN (w0.alloc (.cells #[.int .i64 0,.func (.func 70) #[] #[],.func (.func 71) #[] #[],.int .i64 2] 103)) nq):=(hx0.alloc _).drewN _
 go_wp2_with fail
 generalize World.drewN _ nq=w1 at hy ⊢
 have hx1:=hy
 clear qa0 qb0 hg0 hX0 hy
 have hg1:=nL hg hx1.size
 have hX1:=nL hX hx1.size
 have qa1:=xc hx1 hX P1.out
 have qb1:=xc hx1 hg P16.out
 rw[S16.out]at qb1
 rw[rounds_succ]
 go_wp2_with (first|fail|((with_reducible refine aD 103 ?_);refine aE rfl rfl 103 _ _ _ rfl _ #[.int .i64 0,.func (.func 72) #[] #[],.func (.func 73) #[] #[],.int .i64 0] _ rfl ?_ rfl hi.out rfl rfl ?_;· simp))
 go_quiet (fail)
 have hy:Ext w (World.drewN (w1.alloc (.cells #[.int .i64 0,.func (.func 72) #[] #[],.func (.func 73) #[] #[],.int .i64 0] 103)) nq):=(hx1.alloc _).drewN _
 go_wp2_with fail
 generalize World.drewN _ nq=w2 at hy ⊢
 have hx2:=hy
 clear qa1 qb1 hg1 hX1 hy
 have hg2:=nL hg hx2.size
 have hX2:=nL hX hx2.size
 have qa2:=xc hx2 hX P1.out
 have qb2:=xc hx2 hg P16.out
 rw[S16.out]at qb2
 rw[rounds_succ]
 go_wp2_with (first|fail|((with_reducible refine aD 103 ?_);refine aE rfl rfl 103 _ _ _ rfl _ #[.int .i64 2,.func (.func 74) #[] #[],.func (.func 73) #[] #[],.int .i64 0] _ rfl ?_ rfl hi.out rfl rfl ?_;· simp))
 go_quiet (fail)
 have hy:Ext w (World.drewN (w2.alloc (.cells #[.int .i64 2,.func (.func 74) #[] #[],.func (.func 73) #[] #[],.int .i64 0] 103)) nq):=(hx2.alloc _).drewN _
 go_wp2_with fail
 generalize World.drewN _ nq=w3 at hy ⊢
 have hx3:=hy
 clear qa2 qb2 hg2 hX2 hy
 have hg3:=nL hg hx3.size
 have hX3:=nL hX hx3.size
 have qa3:=xc hx3 hX P1.out
 have qb3:=xc hx3 hg P16.out
 rw[S16.out]at qb3
 rw[rounds_succ]
 go_wp2_with (first|fail|((with_reducible refine aD 103 ?_);refine aE rfl rfl 103 _ _ _ rfl _ #[.int .i64 2,.func (.func 75) #[] #[],.func (.func 76) #[] #[],.int .i64 1] _ rfl ?_ rfl hi.out rfl rfl ?_;· simp))
 go_quiet (fail)
 have hy:Ext w (World.drewN (w3.alloc (.cells #[.int .i64 2,.func (.func 75) #[] #[],.func (.func 76) #[] #[],.int .i64 1] 103)) nq):=(hx3.alloc _).drewN _
 go_wp2_with fail
 generalize World.drewN _ nq=w4 at hy ⊢
 have hx4:=hy
 clear qa3 qb3 hg3 hX3 hy
 have hg4:=nL hg hx4.size
 have hX4:=nL hX hx4.size
 have qa4:=xc hx4 hX P1.out
 have qb4:=xc hx4 hg P16.out
 rw[S16.out]at qb4
 rw[rounds_succ]
 go_wp2_with (first|fail|((with_reducible refine aD 103 ?_);refine aE rfl rfl 103 _ _ _ rfl _ #[.int .i64 1,.func (.func 77) #[] #[],.func (.func 71) #[] #[],.int .i64 2] _ rfl ?_ rfl hi.out rfl rfl ?_;· simp))
 go_quiet ((exact eP (eM (y:=true) (aDM _ g (k*89) _ _ _ _ (((hx4.alloc _).drewN _).cell (p:=⟨g,k*89+9,none⟩) hg |>.trans P9.out) (((hx4.alloc _).drewN _).cell (p:=⟨g,k*89+2,none⟩) hg |>.trans P2.out) (((hx4.alloc _).drewN _).cell (p:=⟨g,k*89+30,none⟩) hg |>.trans P30.out)) V5.out)))
 have bx:∀j,(World.drewN (w4.alloc (.cells #[.int .i64 1,.func (.func 77) #[] #[],.func (.func 71) #[] #[],.int .i64 2] 103)) nq).cell? ⟨w4.heap.size,j,none⟩=#[.int .i64 1,.func (.func 77) #[] #[],.func (.func 71) #[] #[],.int .i64 2][j]?:=fun j=>by
  rw[World.cell?_drewN]
  exact World.cell?_alloc_at _ _ _ _ rfl
 have hy:Ext w (World.drewN (w4.alloc (.cells #[.int .i64 1,.func (.func 77) #[] #[],.func (.func 71) #[] #[],.int .i64 2] 103)) nq):=(hx4.alloc _).drewN _
 go_wp2_with fail
 refine aS 7 (by kernel_rfl) (by kernel_rfl) ?_
 intro w9 hw9
 have hx9:Ext w w9:=by
  rw[hw9]
  exact hy.drew
 have b2:w9.cell? ⟨w4.heap.size,2,none⟩=some (.func (.func 71) #[] #[]):=by
  rw[hw9,World.cell?_drew,bx]
  rfl
 have b3:w9.cell? ⟨w4.heap.size,3,none⟩=some (.int .i64 2):=by
  rw[hw9,World.cell?_drew,bx]
  rfl
 have hgz:g≠w4.heap.size:=Nat.ne_of_lt hg4
 clear hw9 bx hy qa4 qb4
 have q1:=xc hx9 hX P1.out
 have p9:=xc hx9 hg P9.out
 have p16:=xc hx9 hg P16.out
 have p30:=xc hx9 hg P30.out
 have p37:=xc hx9 hg P37.out
 have p38:=xc hx9 hg P38.out
 have p45:=xc hx9 hg P45.out
 have hf9:∀j,w9.frozen? ⟨g,j,none⟩=false:=fun j=>(H.out.ext hx9).frozen j
 simp only[List.take_succ_cons,List.take_zero,List.drop_succ_cons,List.drop_zero]
 repeat still_step
 refine wpStill_nil ?_
 go_wp2_with fail
 refine(o7 _ g (k*89) _ _ w9 p37 p38 hf9).mono ?_
 rintro e w3 ⟨rfl,rfl⟩
 go_wp2_with fail
 go_ret
 exact⟨rfl,((((H.out.ext hx9).setp (j:=37) hk (by decide) _).setp (j:=38) hk (by decide) _).setp (j:=16) hk (by decide) _),((((hx9.mut F).setCell (.inl H.out.F2) _).setCell (.inl H.out.F2) _).setCell (.inl H.out.F2) _)⟩
theorem aGE(w:World)(F:Nat→Prop)(X g k:Nat)(B:Br)(h:BrG w F X g B)(ho:B.ok)(hk:k<B.np)(hk2:k<1000)(s0:B.gi k 16=1)(v5:mh5 B k=false):
    Calls Tryz.prog 38 #[.pointer (some ⟨X,0,none⟩),.int .i64 k] w (aN w F X g (false,B)):=by
 obtain⟨hX,hg,hne⟩:=h.lt
 obtain⟨cap,c17,hc1,hc2⟩:=h.cell17 ho
 have P1:=hD ((h.cellX ho (i:=1) (by omega)).trans (ho.hb 1 rfl))
 have P2:=hD (qb h ho hk 2)
 have P9:=hD (qi h ho hk 9 rfl)
 have P16:=hD (qi h ho hk 16 rfl)
 have P30:=hD (qb h ho hk 30)
 have P37:=hD (qb h ho hk 37)
 have P38:=hD (qb h ho hk 38)
 have P45:=hD (qb h ho hk 45)
 have H:=hD h
 have V5:=hD v5
 clear h v5
 have S16:=hD s0
 clear s0
 have hi:=hD eZ
 have i0:=iH
 have i1:=iI
 have i2:=iJ
 have i3:=iK
 have i4:=iL
 go_enter Tryz.func38,Tryz.ntmps38
 go_wp2_with fail
 refine(gC _).mono ?_
 rintro e w0 ⟨rfl,hx0⟩
 have hg0:=nL hg hx0.size
 have hX0:=nL hX hx0.size
 have qa0:=xc hx0 hX P1.out
 have qb0:=xc hx0 hg P16.out
 rw[S16.out]at qb0
 clear c17
 go_wp2_with fail
 refine wp_loop_rounds 6 ?_
 rw[rounds_succ]
 go_wp2_with (first|fail|((with_reducible refine aD 103 ?_);refine aE rfl rfl 103 _ _ _ rfl _ #[.int .i64 0,.func (.func 70) #[] #[],.func (.func 71) #[] #[],.int .i64 2] _ rfl ?_ rfl hi.out rfl rfl ?_;· simp))
 go_quiet (fail)
 have hy:Ext w (World.drewN (w0.alloc (.cells #[.int .i64 0,.func (.func 70) #[] #[],.func (.func 71) #[] #[],.int .i64 2] 103)) nq):=(hx0.alloc _).drewN _
 go_wp2_with fail
 generalize World.drewN _ nq=w1 at hy ⊢
 have hx1:=hy
 clear qa0 qb0 hg0 hX0 hy
 have hg1:=nL hg hx1.size
 have hX1:=nL hX hx1.size
 have qa1:=xc hx1 hX P1.out
 have qb1:=xc hx1 hg P16.out
 rw[S16.out]at qb1
 rw[rounds_succ]
 go_wp2_with (first|fail|((with_reducible refine aD 103 ?_);refine aE rfl rfl 103 _ _ _ rfl _ #[.int .i64 0,.func (.func 72) #[] #[],.func (.func 73) #[] #[],.int .i64 0] _ rfl ?_ rfl hi.out rfl rfl ?_;· simp))
 go_quiet (fail)
 have hy:Ext w (World.drewN (w1.alloc (.cells #[.int .i64 0,.func (.func 72) #[] #[],.func (.func 73) #[] #[],.int .i64 0] 103)) nq):=(hx1.alloc _).drewN _
 go_wp2_with fail
 generalize World.drewN _ nq=w2 at hy ⊢
 have hx2:=hy
 clear qa1 qb1 hg1 hX1 hy
 have hg2:=nL hg hx2.size
 have hX2:=nL hX hx2.size
 have qa2:=xc hx2 hX P1.out
 have qb2:=xc hx2 hg P16.out
 rw[S16.out]at qb2
 rw[rounds_succ]
 go_wp2_with (first|fail|((with_reducible refine aD 103 ?_);refine aE rfl rfl 103 _ _ _ rfl _ #[.int .i64 2,.func (.func 74) #[] #[],.func (.func 73) #[] #[],.int .i64 0] _ rfl ?_ rfl hi.out rfl rfl ?_;· simp))
 go_quiet (fail)
 have hy:Ext w (World.drewN (w2.alloc (.cells #[.int .i64 2,.func (.func 74) #[] #[],.func (.func 73) #[] #[],.int .i64 0] 103)) nq):=(hx2.alloc _).drewN _
 go_wp2_with fail
 generalize World.drewN _ nq=w3 at hy ⊢
 have hx3:=hy
 clear qa2 qb2 hg2 hX2 hy
 have hg3:=nL hg hx3.size
 have hX3:=nL hX hx3.size
 have qa3:=xc hx3 hX P1.out
 have qb3:=xc hx3 hg P16.out
 rw[S16.out]at qb3
 rw[rounds_succ]
 go_wp2_with (first|fail|((with_reducible refine aD 103 ?_);refine aE rfl rfl 103 _ _ _ rfl _ #[.int .i64 2,.func (.func 75) #[] #[],.func (.func 76) #[] #[],.int .i64 1] _ rfl ?_ rfl hi.out rfl rfl ?_;· simp))
 go_quiet (fail)
 have hy:Ext w (World.drewN (w3.alloc (.cells #[.int .i64 2,.func (.func 75) #[] #[],.func (.func 76) #[] #[],.int .i64 1] 103)) nq):=(hx3.alloc _).drewN _
 go_wp2_with fail
 generalize World.drewN _ nq=w4 at hy ⊢
 have hx4:=hy
 clear qa3 qb3 hg3 hX3 hy
 have hg4:=nL hg hx4.size
 have hX4:=nL hX hx4.size
 have qa4:=xc hx4 hX P1.out
 have qb4:=xc hx4 hg P16.out
 rw[S16.out]at qb4
 rw[rounds_succ]
 go_wp2_with (first|fail|((with_reducible refine aD 103 ?_);refine aE rfl rfl 103 _ _ _ rfl _ #[.int .i64 1,.func (.func 77) #[] #[],.func (.func 71) #[] #[],.int .i64 2] _ rfl ?_ rfl hi.out rfl rfl ?_;· simp))
 go_quiet ((exact eP (eM (y:=false) (aDM _ g (k*89) _ _ _ _ (((hx4.alloc _).drewN _).cell (p:=⟨g,k*89+9,none⟩) hg |>.trans P9.out) (((hx4.alloc _).drewN _).cell (p:=⟨g,k*89+2,none⟩) hg |>.trans P2.out) (((hx4.alloc _).drewN _).cell (p:=⟨g,k*89+30,none⟩) hg |>.trans P30.out)) V5.out)))
 have hy:Ext w (World.drewN (w4.alloc (.cells #[.int .i64 1,.func (.func 77) #[] #[],.func (.func 71) #[] #[],.int .i64 2] 103)) nq):=(hx4.alloc _).drewN _
 go_wp2_with fail
 generalize World.drewN _ nq=w5 at hy ⊢
 have hx5:=hy
 clear qa4 qb4 hg4 hX4 hy
 have hg5:=nL hg hx5.size
 have hX5:=nL hX hx5.size
 have qa5:=xc hx5 hX P1.out
 have qb5:=xc hx5 hg P16.out
 rw[S16.out]at qb5
 rw[rounds_succ]
 go_wp2_with fail
 go_ret
 exact⟨rfl,H.out.ext hx5,hx5.mut F⟩
theorem aI9(w:World)(F:Nat→Prop)(X g k:Nat)(B:Br)(h:BrG w F X g B)(ho:B.ok)(hk:k<B.np)(hk2:k<1000)(s0:((0:Int) == B.gi k 16)=false)(s1:((1:Int) == B.gi k 16)=false)(s2:((2:Int) == B.gi k 16)=false):
    Calls Tryz.prog 38 #[.pointer (some ⟨X,0,none⟩),.int .i64 k] w (aN w F X g (false,B)):=by
 obtain⟨hX,hg,hne⟩:=h.lt
 obtain⟨cap,c17,hc1,hc2⟩:=h.cell17 ho
 have P1:=hD ((h.cellX ho (i:=1) (by omega)).trans (ho.hb 1 rfl))
 have P2:=hD (qb h ho hk 2)
 have P9:=hD (qi h ho hk 9 rfl)
 have P16:=hD (qi h ho hk 16 rfl)
 have P30:=hD (qb h ho hk 30)
 have P37:=hD (qb h ho hk 37)
 have P38:=hD (qb h ho hk 38)
 have P45:=hD (qb h ho hk 45)
 have H:=hD h
 clear h
 have hi:=hD eZ
 have i0:=iH
 have i1:=iI
 have i2:=iJ
 have i3:=iK
 have i4:=iL
 go_enter Tryz.func38,Tryz.ntmps38
 go_wp2_with fail
 refine(gC _).mono ?_
 rintro e w0 ⟨rfl,hx0⟩
 have hg0:=nL hg hx0.size
 have hX0:=nL hX hx0.size
 have qa0:=xc hx0 hX P1.out
 have qb0:=xc hx0 hg P16.out
 clear c17
 go_wp2_with fail
 refine wp_loop_rounds 6 ?_
 rw[rounds_succ]
 go_wp2_with (first|fail|((with_reducible refine aD 103 ?_);refine aE rfl rfl 103 _ _ _ rfl _ #[.int .i64 0,.func (.func 70) #[] #[],.func (.func 71) #[] #[],.int .i64 2] _ rfl ?_ rfl hi.out rfl rfl ?_;· simp))
 go_quiet (fail)
 have hy:Ext w (World.drewN (w0.alloc (.cells #[.int .i64 0,.func (.func 70) #[] #[],.func (.func 71) #[] #[],.int .i64 2] 103)) nq):=(hx0.alloc _).drewN _
 go_wp2_with fail
 generalize World.drewN _ nq=w1 at hy ⊢
 have hx1:=hy
 clear qa0 qb0 hg0 hX0 hy
 have hg1:=nL hg hx1.size
 have hX1:=nL hX hx1.size
 have qa1:=xc hx1 hX P1.out
 have qb1:=xc hx1 hg P16.out
 rw[rounds_succ]
 go_wp2_with (first|fail|((with_reducible refine aD 103 ?_);refine aE rfl rfl 103 _ _ _ rfl _ #[.int .i64 0,.func (.func 72) #[] #[],.func (.func 73) #[] #[],.int .i64 0] _ rfl ?_ rfl hi.out rfl rfl ?_;· simp))
 go_quiet (fail)
 have hy:Ext w (World.drewN (w1.alloc (.cells #[.int .i64 0,.func (.func 72) #[] #[],.func (.func 73) #[] #[],.int .i64 0] 103)) nq):=(hx1.alloc _).drewN _
 go_wp2_with fail
 generalize World.drewN _ nq=w2 at hy ⊢
 have hx2:=hy
 clear qa1 qb1 hg1 hX1 hy
 have hg2:=nL hg hx2.size
 have hX2:=nL hX hx2.size
 have qa2:=xc hx2 hX P1.out
 have qb2:=xc hx2 hg P16.out
 rw[rounds_succ]
 go_wp2_with (first|fail|((with_reducible refine aD 103 ?_);refine aE rfl rfl 103 _ _ _ rfl _ #[.int .i64 2,.func (.func 74) #[] #[],.func (.func 73) #[] #[],.int .i64 0] _ rfl ?_ rfl hi.out rfl rfl ?_;· simp))
 go_quiet (fail)
 have hy:Ext w (World.drewN (w2.alloc (.cells #[.int .i64 2,.func (.func 74) #[] #[],.func (.func 73) #[] #[],.int .i64 0] 103)) nq):=(hx2.alloc _).drewN _
 go_wp2_with fail
 generalize World.drewN _ nq=w3 at hy ⊢
 have hx3:=hy
 clear qa2 qb2 hg2 hX2 hy
 have hg3:=nL hg hx3.size
 have hX3:=nL hX hx3.size
 have qa3:=xc hx3 hX P1.out
 have qb3:=xc hx3 hg P16.out
 rw[rounds_succ]
 go_wp2_with (first|fail|((with_reducible refine aD 103 ?_);refine aE rfl rfl 103 _ _ _ rfl _ #[.int .i64 2,.func (.func 75) #[] #[],.func (.func 76) #[] #[],.int .i64 1] _ rfl ?_ rfl hi.out rfl rfl ?_;· simp))
 go_quiet (fail)
 have hy:Ext w (World.drewN (w3.alloc (.cells #[.int .i64 2,.func (.func 75) #[] #[],.func (.func 76) #[] #[],.int .i64 1] 103)) nq):=(hx3.alloc _).drewN _
 go_wp2_with fail
 generalize World.drewN _ nq=w4 at hy ⊢
 have hx4:=hy
 clear qa3 qb3 hg3 hX3 hy
 have hg4:=nL hg hx4.size
 have hX4:=nL hX hx4.size
 have qa4:=xc hx4 hX P1.out
 have qb4:=xc hx4 hg P16.out
 rw[rounds_succ]
 go_wp2_with (first|fail|((with_reducible refine aD 103 ?_);refine aE rfl rfl 103 _ _ _ rfl _ #[.int .i64 1,.func (.func 77) #[] #[],.func (.func 71) #[] #[],.int .i64 2] _ rfl ?_ rfl hi.out rfl rfl ?_;· simp))
 go_quiet (fail)
 have hy:Ext w (World.drewN (w4.alloc (.cells #[.int .i64 1,.func (.func 77) #[] #[],.func (.func 71) #[] #[],.int .i64 2] 103)) nq):=(hx4.alloc _).drewN _
 go_wp2_with fail
 generalize World.drewN _ nq=w5 at hy ⊢
 have hx5:=hy
 clear qa4 qb4 hg4 hX4 hy
 have hg5:=nL hg hx5.size
 have hX5:=nL hX hx5.size
 have qa5:=xc hx5 hX P1.out
 have qb5:=xc hx5 hg P16.out
 rw[rounds_succ]
 go_wp2_with fail
 go_ret
 exact⟨rfl,H.out.ext hx5,hx5.mut F⟩
theorem aDN(w:World)(F:Nat→Prop)(X g k:Nat)(B:Br)(h:BrG w F X g B)(ho:B.ok)(hk:k<B.np)(hk2:k<1000):
    Calls Tryz.prog 38 #[.pointer (some ⟨X,0,none⟩),.int .i64 k] w (aN w F X g (gD B k)):=by
 by_cases s0:B.gi k 16=0
 ·cases v1:mh1 B k
  ·cases v2:mh2 B k
   ·have e:gD B k=(false,B):=by simp[gD,s0,v1,v2]
    rw[e]
    exact aF9 w F X g k B h ho hk hk2 s0 v1 v2
   ·have e:gD B k=(true,dW B k):=by simp[gD,s0,v1,v2]
    rw[e]
    exact aF8 w F X g k B h ho hk hk2 s0 v1 v2
  ·have e:gD B k=(true,cX B k):=by simp[gD,s0,v1]
   rw[e]
   exact aF7 w F X g k B h ho hk hk2 s0 v1
 ·by_cases s2:B.gi k 16=2
  ·cases v1:mh3 B k
   ·cases v2:mh4 B k
    ·have e:gD B k=(false,B):=by simp[gD,s2,v1,v2]
     rw[e]
     exact aGC w F X g k B h ho hk hk2 s2 v1 v2
    ·have e:gD B k=(true,fL B k):=by simp[gD,s2,v1,v2]
     rw[e]
     exact aGB w F X g k B h ho hk hk2 s2 v1 v2
   ·have e:gD B k=(true,dW B k):=by simp[gD,s2,v1]
    rw[e]
    exact aGA w F X g k B h ho hk hk2 s2 v1
  ·by_cases s1:B.gi k 16=1
   ·cases v1:mh5 B k
    ·have e:gD B k=(false,B):=by simp[gD,s1,v1]
     rw[e]
     exact aGE w F X g k B h ho hk hk2 s1 v1
    ·have e:gD B k=(true,cX B k):=by simp[gD,s1,v1]
     rw[e]
     exact aGD w F X g k B h ho hk hk2 s1 v1
   ·have e:gD B k=(false,B):=by simp[gD,s0,s1,s2]
    rw[e]
    exact aI9 w F X g k B h ho hk hk2 (by simp;omega) (by simp;omega) (by simp;omega)
def el0(B:Br)(k:Nat):Bool:=!B.gb k 32 || (!B.gb k 2 && !B.gb k 4)
def el1(B:Br)(k:Nat):Bool:=(!B.gb k 2 && B.gb k 4) || ((B.gi k 6 == 0) && B.gb k 5 && B.gb k 45 && B.gb k 34)
def iM(B:Br)(k:Nat):Br:=(B.setp k 32 (.bool false)).setp k 17 (.int .i64 1)
def j6(B:Br)(k:Nat):Br:=(B.setp k 32 (.bool true)).setp k 17 (.int .i64 0)
def fM(B:Br)(k:Nat):Bool × Br :=
 if B.gi k 17=0 then if el0 B k=true then(true,iM B k)else(false,B)
 else if B.gi k 17=1 then if el1 B k=true then(true,j6 B k)else(false,B)
 else(false,B)
theorem jD(p:List Value)(en ad au oe pr sr:Bool)(ed:Int)(w:World)(p2:p[2]?=some (.bool en))(p4:p[4]?=some (.bool ad))(p5:p[5]?=some (.bool au))(p6:p[6]?=some (.int .i64 ed))(p32:p[32]?=some (.bool oe))(p34:p[34]?=some (.bool pr))(p45:p[45]?=some (.bool sr)):
    Calls Tryz.prog 53 #[.agg p.toArray] w fun e w'=>e=.returned (.agg #[.bool (!oe || (!en && !ad)),.bool ((!en && ad) || ((ed == 0) && au && sr && pr))])∧Ext w w':=by
 obtain⟨z,hz⟩:∃z:Bool,(ed == 0)=z:=⟨_,rfl⟩
 rw[hz]
 obtain⟨x0,h0⟩:∃x,(!oe || (!en && !ad))=x:=⟨_,rfl⟩
 obtain⟨x1,h1⟩:∃x,((!en && ad) || (z && au && sr && pr))=x:=⟨_,rfl⟩
 rw[h0,h1]
 go_enter Tryz.func53,Tryz.ntmps53
 go_wp2_with fail
 all_goals
  refine bodyPost_ret (v:=.agg #[.bool x0,.bool x1]) ?_ rfl ⟨rfl,((Ext.refl w).alloc _).alloc _⟩
  subst h0
  subst h1
  clear hz
  simp[results,Tryz.results53,go_sem, *]
theorem mC(a b:Bool)(w:World):(Instr.index 106 (.agg #[.bool a,.bool b]) (.int .i64 0)).run Tryz.prog w=.ok (.bool a) w:=by kernel_rfl
theorem mD(a b:Bool)(w:World):(Instr.index 106 (.agg #[.bool a,.bool b]) (.int .i64 1)).run Tryz.prog w=.ok (.bool b) w:=by kernel_rfl
theorem mE(w:World):(Instr.index 108 (.agg #[.int .i64 1,.int .i64 0]) (.int .i64 0)).run Tryz.prog w=.ok (.int .i64 1) w:=by kernel_rfl
theorem mF(w:World):(Instr.index 108 (.agg #[.int .i64 1,.int .i64 0]) (.int .i64 1)).run Tryz.prog w=.ok (.int .i64 0) w:=by kernel_rfl
end Go.Proofs.YtpanapepcbbagaaGreat
