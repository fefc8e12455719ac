/- Part 8 of what BridgeHold stands on. No statement is proved here. -/
import Derived.Deep.Light
import Derived.StillTailTactics
import Derived.Test.YtpanapepcbbagaaGreatBpg
set_option linter.unusedVariables false
set_option linter.unusedSimpArgs false
set_option maxRecDepth 100000
set_option maxHeartbeats 8000000
namespace Go.Proofs.YtpanapepcbbagaaGreat
open Go.RowKit Go.BigFrame Go.WideShapes Go.ChangeShapes Go.Deep
theorem mig_s0a(w:World)(F:Nat→Prop)(X g k:Nat)(B:Br)(h:BrG w F X g B)(ho:B.ok)(hk:k<B.np)(hk2:k<1000)(s0:B.gi k 16=0)(v1:mh1 B k=true):
    Calls Tryz.prog 38 #[.pointer (some ⟨X,0,none⟩),.int .i64 k] w (Stepped w F X g (true,migListen B k)):=by
 obtain⟨hX,hg,hne⟩:=h.lt
 obtain⟨cap,c17,hc1,hc2⟩:=h.cell17 ho
 have P1:=hD ((h.cellX ho (i:=1) (by omega)).trans (ho.hb 1 rfl))
 have P2:=hD ((h.cellg (i:=k*89+2) (by omega)).trans (ho.gb hk 2 rfl))
 have P9:=hD ((h.cellg (i:=k*89+9) (by omega)).trans (ho.gi hk 9 rfl))
 have P16:=hD ((h.cellg (i:=k*89+16) (by omega)).trans (ho.gi hk 16 rfl))
 have P30:=hD ((h.cellg (i:=k*89+30) (by omega)).trans (ho.gb hk 30 rfl))
 have P37:=hD ((h.cellg (i:=k*89+37) (by omega)).trans (ho.gb hk 37 rfl))
 have P38:=hD ((h.cellg (i:=k*89+38) (by omega)).trans (ho.gb hk 38 rfl))
 have P45:=hD ((h.cellg (i:=k*89+45) (by omega)).trans (ho.gb hk 45 rfl))
 have H:=hD h
 have V1:=hD v1
 clear h v1
 have S16:=hD s0
 clear s0
 have hi:=hD size_mrow
 have i0:=mig_ix0
 have i1:=mig_ix1
 have i2:=mig_ix2
 have i3:=mig_ix3
 have i4:=mig_ix4
 go_enter Tryz.func38,Tryz.ntmps38
 go_wp2_with fail
 refine(mig_rows _).mono ?_
 rintro e w0 ⟨rfl,hx0⟩
 have hg0:=nL hg hx0.size
 have hX0:=nL hX hx0.size
 have qa0:=(hx0.cell (p:=⟨X,1,none⟩) hX).trans P1.out
 have qb0:=(hx0.cell (p:=⟨g,k*89+16,none⟩) hg).trans P16.out
 rw[S16.out]at qb0
 clear c17
 go_wp2_with fail
 refine wp_loop_rounds 6 ?_
 rw[rounds_succ]
 go_wp2_with (first|fail|((with_reducible refine at_store 103 ?_);refine wpList_store_new2 rfl rfl 103 _ _ _ rfl _ #[.int .i64 0,.func (.func 70) #[] #[],.func (.func 71) #[] #[],.int .i64 2] _ rfl ?_ rfl hi.out rfl rfl ?_;· simp))
 go_quiet ((exact quietL (asb (y:=true) (mig_h1 _ g (k*89) _ _ (((hx0.alloc _).drewN _).cell (p:=⟨g,k*89+9,none⟩) hg |>.trans P9.out)) V1.out)))
 have bx:∀j,(World.drewN (w0.alloc (.cells #[.int .i64 0,.func (.func 70) #[] #[],.func (.func 71) #[] #[],.int .i64 2] 103)) nq).cell? ⟨w0.heap.size,j,none⟩=#[.int .i64 0,.func (.func 70) #[] #[],.func (.func 71) #[] #[],.int .i64 2][j]?:=fun j=>by
  rw[World.cell?_drewN]
  exact World.cell?_alloc_at _ _ _ _ rfl
 have hy:Ext w (World.drewN (w0.alloc (.cells #[.int .i64 0,.func (.func 70) #[] #[],.func (.func 71) #[] #[],.int .i64 2] 103)) nq):=(hx0.alloc _).drewN _
 go_wp2_with fail
 refine wp_region_tail 7 (by kernel_rfl) (by kernel_rfl) ?_
 intro w9 hw9
 have hx9:Ext w w9:=by
  rw[hw9]
  exact hy.drew
 have b2:w9.cell? ⟨w0.heap.size,2,none⟩=some (.func (.func 71) #[] #[]):=by
  rw[hw9,World.cell?_drew,bx]
  rfl
 have b3:w9.cell? ⟨w0.heap.size,3,none⟩=some (.int .i64 2):=by
  rw[hw9,World.cell?_drew,bx]
  rfl
 have hgz:g≠w0.heap.size:=Nat.ne_of_lt hg0
 clear hw9 bx hy qa0 qb0
 have q1:=(hx9.cell (p:=⟨X,1,none⟩) hX).trans P1.out
 have p9:=(hx9.cell (p:=⟨g,k*89+9,none⟩) hg).trans P9.out
 have p16:=(hx9.cell (p:=⟨g,k*89+16,none⟩) hg).trans P16.out
 have p30:=(hx9.cell (p:=⟨g,k*89+30,none⟩) hg).trans P30.out
 have p37:=(hx9.cell (p:=⟨g,k*89+37,none⟩) hg).trans P37.out
 have p38:=(hx9.cell (p:=⟨g,k*89+38,none⟩) hg).trans P38.out
 have p45:=(hx9.cell (p:=⟨g,k*89+45,none⟩) hg).trans P45.out
 have hf9:∀j,w9.frozen? ⟨g,j,none⟩=false:=fun j=>(H.out.ext hx9).frozen j
 simp only[List.take_succ_cons,List.take_zero,List.drop_succ_cons,List.drop_zero]
 repeat still_step
 refine wpStill_nil ?_
 go_wp2_with fail
 refine(mig_listen _ g (k*89) _ _ w9 p37 p38 hf9).mono ?_
 rintro e w3 ⟨rfl,rfl⟩
 go_wp2_with fail
 go_ret
 exact⟨rfl,((((H.out.ext hx9).setp (j:=37) hk (by decide) _).setp (j:=38) hk (by decide) _).setp (j:=16) hk (by decide) _),((((hx9.mut F).setCell (.inl H.out.F2) _).setCell (.inl H.out.F2) _).setCell (.inl H.out.F2) _)⟩
theorem mig_s0b(w:World)(F:Nat→Prop)(X g k:Nat)(B:Br)(h:BrG w F X g B)(ho:B.ok)(hk:k<B.np)(hk2:k<1000)(s0:B.gi k 16=0)(v1:mh1 B k=false)(v2:mh2 B k=true):
    Calls Tryz.prog 38 #[.pointer (some ⟨X,0,none⟩),.int .i64 k] w (Stepped w F X g (true,migBegin B k)):=by
 obtain⟨hX,hg,hne⟩:=h.lt
 obtain⟨cap,c17,hc1,hc2⟩:=h.cell17 ho
 have P1:=hD ((h.cellX ho (i:=1) (by omega)).trans (ho.hb 1 rfl))
 have P2:=hD ((h.cellg (i:=k*89+2) (by omega)).trans (ho.gb hk 2 rfl))
 have P9:=hD ((h.cellg (i:=k*89+9) (by omega)).trans (ho.gi hk 9 rfl))
 have P16:=hD ((h.cellg (i:=k*89+16) (by omega)).trans (ho.gi hk 16 rfl))
 have P30:=hD ((h.cellg (i:=k*89+30) (by omega)).trans (ho.gb hk 30 rfl))
 have P37:=hD ((h.cellg (i:=k*89+37) (by omega)).trans (ho.gb hk 37 rfl))
 have P38:=hD ((h.cellg (i:=k*89+38) (by omega)).trans (ho.gb hk 38 rfl))
 have P45:=hD ((h.cellg (i:=k*89+45) (by omega)).trans (ho.gb hk 45 rfl))
 have H:=hD h
 have V1:=hD v1
 have V2:=hD v2
 clear h v1 v2
 have S16:=hD s0
 clear s0
 have hi:=hD size_mrow
 have i0:=mig_ix0
 have i1:=mig_ix1
 have i2:=mig_ix2
 have i3:=mig_ix3
 have i4:=mig_ix4
 go_enter Tryz.func38,Tryz.ntmps38
 go_wp2_with fail
 refine(mig_rows _).mono ?_
 rintro e w0 ⟨rfl,hx0⟩
 have hg0:=nL hg hx0.size
 have hX0:=nL hX hx0.size
 have qa0:=(hx0.cell (p:=⟨X,1,none⟩) hX).trans P1.out
 have qb0:=(hx0.cell (p:=⟨g,k*89+16,none⟩) hg).trans P16.out
 rw[S16.out]at qb0
 clear c17
 go_wp2_with fail
 refine wp_loop_rounds 6 ?_
 rw[rounds_succ]
 go_wp2_with (first|fail|((with_reducible refine at_store 103 ?_);refine wpList_store_new2 rfl rfl 103 _ _ _ rfl _ #[.int .i64 0,.func (.func 70) #[] #[],.func (.func 71) #[] #[],.int .i64 2] _ rfl ?_ rfl hi.out rfl rfl ?_;· simp))
 go_quiet ((exact quietL (asb (y:=false) (mig_h1 _ g (k*89) _ _ (((hx0.alloc _).drewN _).cell (p:=⟨g,k*89+9,none⟩) hg |>.trans P9.out)) V1.out)))
 have hy:Ext w (World.drewN (w0.alloc (.cells #[.int .i64 0,.func (.func 70) #[] #[],.func (.func 71) #[] #[],.int .i64 2] 103)) nq):=(hx0.alloc _).drewN _
 go_wp2_with fail
 generalize World.drewN _ nq=w1 at hy ⊢
 have hx1:=hy
 clear qa0 qb0 hg0 hX0 hy
 have hg1:=nL hg hx1.size
 have hX1:=nL hX hx1.size
 have qa1:=(hx1.cell (p:=⟨X,1,none⟩) hX).trans P1.out
 have qb1:=(hx1.cell (p:=⟨g,k*89+16,none⟩) hg).trans P16.out
 rw[S16.out]at qb1
 rw[rounds_succ]
 go_wp2_with (first|fail|((with_reducible refine at_store 103 ?_);refine wpList_store_new2 rfl rfl 103 _ _ _ rfl _ #[.int .i64 0,.func (.func 72) #[] #[],.func (.func 73) #[] #[],.int .i64 0] _ rfl ?_ rfl hi.out rfl rfl ?_;· simp))
 go_quiet ((exact quietL (asb (y:=true) (mig_h2 _ g (k*89) _ _ _ (((hx1.alloc _).drewN _).cell (p:=⟨g,k*89+9,none⟩) hg |>.trans P9.out) (((hx1.alloc _).drewN _).cell (p:=⟨g,k*89+2,none⟩) hg |>.trans P2.out)) V2.out)))
 have bx:∀j,(World.drewN (w1.alloc (.cells #[.int .i64 0,.func (.func 72) #[] #[],.func (.func 73) #[] #[],.int .i64 0] 103)) nq).cell? ⟨w1.heap.size,j,none⟩=#[.int .i64 0,.func (.func 72) #[] #[],.func (.func 73) #[] #[],.int .i64 0][j]?:=fun j=>by
  rw[World.cell?_drewN]
  exact World.cell?_alloc_at _ _ _ _ rfl
 have hy:Ext w (World.drewN (w1.alloc (.cells #[.int .i64 0,.func (.func 72) #[] #[],.func (.func 73) #[] #[],.int .i64 0] 103)) nq):=(hx1.alloc _).drewN _
 go_wp2_with fail
 refine wp_region_tail 7 (by kernel_rfl) (by kernel_rfl) ?_
 intro w9 hw9
 have hx9:Ext w w9:=by
  rw[hw9]
  exact hy.drew
 have b2:w9.cell? ⟨w1.heap.size,2,none⟩=some (.func (.func 73) #[] #[]):=by
  rw[hw9,World.cell?_drew,bx]
  rfl
 have b3:w9.cell? ⟨w1.heap.size,3,none⟩=some (.int .i64 0):=by
  rw[hw9,World.cell?_drew,bx]
  rfl
 have hgz:g≠w1.heap.size:=Nat.ne_of_lt hg1
 clear hw9 bx hy qa1 qb1
 have q1:=(hx9.cell (p:=⟨X,1,none⟩) hX).trans P1.out
 have p9:=(hx9.cell (p:=⟨g,k*89+9,none⟩) hg).trans P9.out
 have p16:=(hx9.cell (p:=⟨g,k*89+16,none⟩) hg).trans P16.out
 have p30:=(hx9.cell (p:=⟨g,k*89+30,none⟩) hg).trans P30.out
 have p37:=(hx9.cell (p:=⟨g,k*89+37,none⟩) hg).trans P37.out
 have p38:=(hx9.cell (p:=⟨g,k*89+38,none⟩) hg).trans P38.out
 have p45:=(hx9.cell (p:=⟨g,k*89+45,none⟩) hg).trans P45.out
 have hf9:∀j,w9.frozen? ⟨g,j,none⟩=false:=fun j=>(H.out.ext hx9).frozen j
 simp only[List.take_succ_cons,List.take_zero,List.drop_succ_cons,List.drop_zero]
 repeat still_step
 refine wpStill_nil ?_
 go_wp2_with fail
 refine(mig_begin _ g (k*89) _ _ _ w9 p9 p30 p45 hf9).mono ?_
 rintro e w3 ⟨rfl,rfl⟩
 go_wp2_with fail
 go_ret
 exact⟨rfl,(((((H.out.ext hx9).setp (j:=30) hk (by decide) _).setp (j:=45) hk (by decide) _).setp (j:=9) hk (by decide) _).setp (j:=16) hk (by decide) _),(((((hx9.mut F).setCell (.inl H.out.F2) _).setCell (.inl H.out.F2) _).setCell (.inl H.out.F2) _).setCell (.inl H.out.F2) _)⟩
theorem mig_s0c(w:World)(F:Nat→Prop)(X g k:Nat)(B:Br)(h:BrG w F X g B)(ho:B.ok)(hk:k<B.np)(hk2:k<1000)(s0:B.gi k 16=0)(v1:mh1 B k=false)(v2:mh2 B k=false):
    Calls Tryz.prog 38 #[.pointer (some ⟨X,0,none⟩),.int .i64 k] w (Stepped w F X g (false,B)):=by
 obtain⟨hX,hg,hne⟩:=h.lt
 obtain⟨cap,c17,hc1,hc2⟩:=h.cell17 ho
 have P1:=hD ((h.cellX ho (i:=1) (by omega)).trans (ho.hb 1 rfl))
 have P2:=hD ((h.cellg (i:=k*89+2) (by omega)).trans (ho.gb hk 2 rfl))
 have P9:=hD ((h.cellg (i:=k*89+9) (by omega)).trans (ho.gi hk 9 rfl))
 have P16:=hD ((h.cellg (i:=k*89+16) (by omega)).trans (ho.gi hk 16 rfl))
 have P30:=hD ((h.cellg (i:=k*89+30) (by omega)).trans (ho.gb hk 30 rfl))
 have P37:=hD ((h.cellg (i:=k*89+37) (by omega)).trans (ho.gb hk 37 rfl))
 have P38:=hD ((h.cellg (i:=k*89+38) (by omega)).trans (ho.gb hk 38 rfl))
 have P45:=hD ((h.cellg (i:=k*89+45) (by omega)).trans (ho.gb hk 45 rfl))
 have H:=hD h
 have V1:=hD v1
 have V2:=hD v2
 clear h v1 v2
 have S16:=hD s0
 clear s0
 have hi:=hD size_mrow
 have i0:=mig_ix0
 have i1:=mig_ix1
 have i2:=mig_ix2
 have i3:=mig_ix3
 have i4:=mig_ix4
 go_enter Tryz.func38,Tryz.ntmps38
 go_wp2_with fail
 refine(mig_rows _).mono ?_
 rintro e w0 ⟨rfl,hx0⟩
 have hg0:=nL hg hx0.size
 have hX0:=nL hX hx0.size
 have qa0:=(hx0.cell (p:=⟨X,1,none⟩) hX).trans P1.out
 have qb0:=(hx0.cell (p:=⟨g,k*89+16,none⟩) hg).trans P16.out
 rw[S16.out]at qb0
 clear c17
 go_wp2_with fail
 refine wp_loop_rounds 6 ?_
 rw[rounds_succ]
 go_wp2_with (first|fail|((with_reducible refine at_store 103 ?_);refine wpList_store_new2 rfl rfl 103 _ _ _ rfl _ #[.int .i64 0,.func (.func 70) #[] #[],.func (.func 71) #[] #[],.int .i64 2] _ rfl ?_ rfl hi.out rfl rfl ?_;· simp))
 go_quiet ((exact quietL (asb (y:=false) (mig_h1 _ g (k*89) _ _ (((hx0.alloc _).drewN _).cell (p:=⟨g,k*89+9,none⟩) hg |>.trans P9.out)) V1.out)))
 have hy:Ext w (World.drewN (w0.alloc (.cells #[.int .i64 0,.func (.func 70) #[] #[],.func (.func 71) #[] #[],.int .i64 2] 103)) nq):=(hx0.alloc _).drewN _
 go_wp2_with fail
 generalize World.drewN _ nq=w1 at hy ⊢
 have hx1:=hy
 clear qa0 qb0 hg0 hX0 hy
 have hg1:=nL hg hx1.size
 have hX1:=nL hX hx1.size
 have qa1:=(hx1.cell (p:=⟨X,1,none⟩) hX).trans P1.out
 have qb1:=(hx1.cell (p:=⟨g,k*89+16,none⟩) hg).trans P16.out
 rw[S16.out]at qb1
 rw[rounds_succ]
 go_wp2_with (first|fail|((with_reducible refine at_store 103 ?_);refine wpList_store_new2 rfl rfl 103 _ _ _ rfl _ #[.int .i64 0,.func (.func 72) #[] #[],.func (.func 73) #[] #[],.int .i64 0] _ rfl ?_ rfl hi.out rfl rfl ?_;· simp))
 go_quiet ((exact quietL (asb (y:=false) (mig_h2 _ g (k*89) _ _ _ (((hx1.alloc _).drewN _).cell (p:=⟨g,k*89+9,none⟩) hg |>.trans P9.out) (((hx1.alloc _).drewN _).cell (p:=⟨g,k*89+2,none⟩) hg |>.trans P2.out)) V2.out)))
 have hy:Ext w (World.drewN (w1.alloc (.cells #[.int .i64 0,.func (.func 72) #[] #[],.func (.func 73) #[] #[],.int .i64 0] 103)) nq):=(hx1.alloc _).drewN _
 go_wp2_with fail
 generalize World.drewN _ nq=w2 at hy ⊢
 have hx2:=hy
 clear qa1 qb1 hg1 hX1 hy
 have hg2:=nL hg hx2.size
 have hX2:=nL hX hx2.size
 have qa2:=(hx2.cell (p:=⟨X,1,none⟩) hX).trans P1.out
 have qb2:=(hx2.cell (p:=⟨g,k*89+16,none⟩) hg).trans P16.out
 rw[S16.out]at qb2
 rw[rounds_succ]
 go_wp2_with (first|fail|((with_reducible refine at_store 103 ?_);refine wpList_store_new2 rfl rfl 103 _ _ _ rfl _ #[.int .i64 2,.func (.func 74) #[] #[],.func (.func 73) #[] #[],.int .i64 0] _ rfl ?_ rfl hi.out rfl rfl ?_;· simp))
 go_quiet (fail)
 have hy:Ext w (World.drewN (w2.alloc (.cells #[.int .i64 2,.func (.func 74) #[] #[],.func (.func 73) #[] #[],.int .i64 0] 103)) nq):=(hx2.alloc _).drewN _
 go_wp2_with fail
 generalize World.drewN _ nq=w3 at hy ⊢
 have hx3:=hy
 clear qa2 qb2 hg2 hX2 hy
 have hg3:=nL hg hx3.size
 have hX3:=nL hX hx3.size
 have qa3:=(hx3.cell (p:=⟨X,1,none⟩) hX).trans P1.out
 have qb3:=(hx3.cell (p:=⟨g,k*89+16,none⟩) hg).trans P16.out
 rw[S16.out]at qb3
 rw[rounds_succ]
 go_wp2_with (first|fail|((with_reducible refine at_store 103 ?_);refine wpList_store_new2 rfl rfl 103 _ _ _ rfl _ #[.int .i64 2,.func (.func 75) #[] #[],.func (.func 76) #[] #[],.int .i64 1] _ rfl ?_ rfl hi.out rfl rfl ?_;· simp))
 go_quiet (fail)
 have hy:Ext w (World.drewN (w3.alloc (.cells #[.int .i64 2,.func (.func 75) #[] #[],.func (.func 76) #[] #[],.int .i64 1] 103)) nq):=(hx3.alloc _).drewN _
 go_wp2_with fail
 generalize World.drewN _ nq=w4 at hy ⊢
 have hx4:=hy
 clear qa3 qb3 hg3 hX3 hy
 have hg4:=nL hg hx4.size
 have hX4:=nL hX hx4.size
 have qa4:=(hx4.cell (p:=⟨X,1,none⟩) hX).trans P1.out
 have qb4:=(hx4.cell (p:=⟨g,k*89+16,none⟩) hg).trans P16.out
 rw[S16.out]at qb4
 rw[rounds_succ]
 go_wp2_with (first|fail|((with_reducible refine at_store 103 ?_);refine wpList_store_new2 rfl rfl 103 _ _ _ rfl _ #[.int .i64 1,.func (.func 77) #[] #[],.func (.func 71) #[] #[],.int .i64 2] _ rfl ?_ rfl hi.out rfl rfl ?_;· simp))
 go_quiet (fail)
 have hy:Ext w (World.drewN (w4.alloc (.cells #[.int .i64 1,.func (.func 77) #[] #[],.func (.func 71) #[] #[],.int .i64 2] 103)) nq):=(hx4.alloc _).drewN _
 go_wp2_with fail
 generalize World.drewN _ nq=w5 at hy ⊢
 have hx5:=hy
 clear qa4 qb4 hg4 hX4 hy
 have hg5:=nL hg hx5.size
 have hX5:=nL hX hx5.size
 have qa5:=(hx5.cell (p:=⟨X,1,none⟩) hX).trans P1.out
 have qb5:=(hx5.cell (p:=⟨g,k*89+16,none⟩) hg).trans P16.out
 rw[S16.out]at qb5
 rw[rounds_succ]
 go_wp2_with fail
 go_ret
 exact⟨rfl,H.out.ext hx5,hx5.mut F⟩
theorem mig_s2a(w:World)(F:Nat→Prop)(X g k:Nat)(B:Br)(h:BrG w F X g B)(ho:B.ok)(hk:k<B.np)(hk2:k<1000)(s0:B.gi k 16=2)(v3:mh3 B k=true):
    Calls Tryz.prog 38 #[.pointer (some ⟨X,0,none⟩),.int .i64 k] w (Stepped w F X g (true,migBegin B k)):=by
 obtain⟨hX,hg,hne⟩:=h.lt
 obtain⟨cap,c17,hc1,hc2⟩:=h.cell17 ho
 have P1:=hD ((h.cellX ho (i:=1) (by omega)).trans (ho.hb 1 rfl))
 have P2:=hD ((h.cellg (i:=k*89+2) (by omega)).trans (ho.gb hk 2 rfl))
 have P9:=hD ((h.cellg (i:=k*89+9) (by omega)).trans (ho.gi hk 9 rfl))
 have P16:=hD ((h.cellg (i:=k*89+16) (by omega)).trans (ho.gi hk 16 rfl))
 have P30:=hD ((h.cellg (i:=k*89+30) (by omega)).trans (ho.gb hk 30 rfl))
 have P37:=hD ((h.cellg (i:=k*89+37) (by omega)).trans (ho.gb hk 37 rfl))
 have P38:=hD ((h.cellg (i:=k*89+38) (by omega)).trans (ho.gb hk 38 rfl))
 have P45:=hD ((h.cellg (i:=k*89+45) (by omega)).trans (ho.gb hk 45 rfl))
 have H:=hD h
 have V3:=hD v3
 clear h v3
 have S16:=hD s0
 clear s0
 have hi:=hD size_mrow
 have i0:=mig_ix0
 have i1:=mig_ix1
 have i2:=mig_ix2
 have i3:=mig_ix3
 have i4:=mig_ix4
 go_enter Tryz.func38,Tryz.ntmps38
 go_wp2_with fail
 refine(mig_rows _).mono ?_
 rintro e w0 ⟨rfl,hx0⟩
 have hg0:=nL hg hx0.size
 have hX0:=nL hX hx0.size
 have qa0:=(hx0.cell (p:=⟨X,1,none⟩) hX).trans P1.out
 have qb0:=(hx0.cell (p:=⟨g,k*89+16,none⟩) hg).trans P16.out
 rw[S16.out]at qb0
 clear c17
 go_wp2_with fail
 refine wp_loop_rounds 6 ?_
 rw[rounds_succ]
 go_wp2_with (first|fail|((with_reducible refine at_store 103 ?_);refine wpList_store_new2 rfl rfl 103 _ _ _ rfl _ #[.int .i64 0,.func (.func 70) #[] #[],.func (.func 71) #[] #[],.int .i64 2] _ rfl ?_ rfl hi.out rfl rfl ?_;· simp))
 go_quiet (fail)
 have hy:Ext w (World.drewN (w0.alloc (.cells #[.int .i64 0,.func (.func 70) #[] #[],.func (.func 71) #[] #[],.int .i64 2] 103)) nq):=(hx0.alloc _).drewN _
 go_wp2_with fail
 generalize World.drewN _ nq=w1 at hy ⊢
 have hx1:=hy
 clear qa0 qb0 hg0 hX0 hy
 have hg1:=nL hg hx1.size
 have hX1:=nL hX hx1.size
 have qa1:=(hx1.cell (p:=⟨X,1,none⟩) hX).trans P1.out
 have qb1:=(hx1.cell (p:=⟨g,k*89+16,none⟩) hg).trans P16.out
 rw[S16.out]at qb1
 rw[rounds_succ]
 go_wp2_with (first|fail|((with_reducible refine at_store 103 ?_);refine wpList_store_new2 rfl rfl 103 _ _ _ rfl _ #[.int .i64 0,.func (.func 72) #[] #[],.func (.func 73) #[] #[],.int .i64 0] _ rfl ?_ rfl hi.out rfl rfl ?_;· simp))
 go_quiet (fail)
 have hy:Ext w (World.drewN (w1.alloc (.cells #[.int .i64 0,.func (.func 72) #[] #[],.func (.func 73) #[] #[],.int .i64 0] 103)) nq):=(hx1.alloc _).drewN _
 go_wp2_with fail
 generalize World.drewN _ nq=w2 at hy ⊢
 have hx2:=hy
 clear qa1 qb1 hg1 hX1 hy
 have hg2:=nL hg hx2.size
 have hX2:=nL hX hx2.size
 have qa2:=(hx2.cell (p:=⟨X,1,none⟩) hX).trans P1.out
 have qb2:=(hx2.cell (p:=⟨g,k*89+16,none⟩) hg).trans P16.out
 rw[S16.out]at qb2
 rw[rounds_succ]
 go_wp2_with (first|fail|((with_reducible refine at_store 103 ?_);refine wpList_store_new2 rfl rfl 103 _ _ _ rfl _ #[.int .i64 2,.func (.func 74) #[] #[],.func (.func 73) #[] #[],.int .i64 0] _ rfl ?_ rfl hi.out rfl rfl ?_;· simp))
 go_quiet ((exact quietL (asb (y:=true) (mig_h3 _ g (k*89) _ _ _ _ _ (((hx2.alloc _).drewN _).cell (p:=⟨g,k*89+2,none⟩) hg |>.trans P2.out) (((hx2.alloc _).drewN _).cell (p:=⟨g,k*89+30,none⟩) hg |>.trans P30.out) (((hx2.alloc _).drewN _).cell (p:=⟨g,k*89+37,none⟩) hg |>.trans P37.out) (((hx2.alloc _).drewN _).cell (p:=⟨g,k*89+45,none⟩) hg |>.trans P45.out)) V3.out)))
 have bx:∀j,(World.drewN (w2.alloc (.cells #[.int .i64 2,.func (.func 74) #[] #[],.func (.func 73) #[] #[],.int .i64 0] 103)) nq).cell? ⟨w2.heap.size,j,none⟩=#[.int .i64 2,.func (.func 74) #[] #[],.func (.func 73) #[] #[],.int .i64 0][j]?:=fun j=>by
  rw[World.cell?_drewN]
  exact World.cell?_alloc_at _ _ _ _ rfl
 have hy:Ext w (World.drewN (w2.alloc (.cells #[.int .i64 2,.func (.func 74) #[] #[],.func (.func 73) #[] #[],.int .i64 0] 103)) nq):=(hx2.alloc _).drewN _
 go_wp2_with fail
 refine wp_region_tail 7 (by kernel_rfl) (by kernel_rfl) ?_
 intro w9 hw9
 have hx9:Ext w w9:=by
  rw[hw9]
  exact hy.drew
 have b2:w9.cell? ⟨w2.heap.size,2,none⟩=some (.func (.func 73) #[] #[]):=by
  rw[hw9,World.cell?_drew,bx]
  rfl
 have b3:w9.cell? ⟨w2.heap.size,3,none⟩=some (.int .i64 0):=by
  rw[hw9,World.cell?_drew,bx]
  rfl
 have hgz:g≠w2.heap.size:=Nat.ne_of_lt hg2
 clear hw9 bx hy qa2 qb2
 have q1:=(hx9.cell (p:=⟨X,1,none⟩) hX).trans P1.out
 have p9:=(hx9.cell (p:=⟨g,k*89+9,none⟩) hg).trans P9.out
 have p16:=(hx9.cell (p:=⟨g,k*89+16,none⟩) hg).trans P16.out
 have p30:=(hx9.cell (p:=⟨g,k*89+30,none⟩) hg).trans P30.out
 have p37:=(hx9.cell (p:=⟨g,k*89+37,none⟩) hg).trans P37.out
 have p38:=(hx9.cell (p:=⟨g,k*89+38,none⟩) hg).trans P38.out
 have p45:=(hx9.cell (p:=⟨g,k*89+45,none⟩) hg).trans P45.out
 have hf9:∀j,w9.frozen? ⟨g,j,none⟩=false:=fun j=>(H.out.ext hx9).frozen j
 simp only[List.take_succ_cons,List.take_zero,List.drop_succ_cons,List.drop_zero]
 repeat still_step
 refine wpStill_nil ?_
 go_wp2_with fail
 refine(mig_begin _ g (k*89) _ _ _ w9 p9 p30 p45 hf9).mono ?_
 rintro e w3 ⟨rfl,rfl⟩
 go_wp2_with fail
 go_ret
 exact⟨rfl,(((((H.out.ext hx9).setp (j:=30) hk (by decide) _).setp (j:=45) hk (by decide) _).setp (j:=9) hk (by decide) _).setp (j:=16) hk (by decide) _),(((((hx9.mut F).setCell (.inl H.out.F2) _).setCell (.inl H.out.F2) _).setCell (.inl H.out.F2) _).setCell (.inl H.out.F2) _)⟩
theorem mig_s2b(w:World)(F:Nat→Prop)(X g k:Nat)(B:Br)(h:BrG w F X g B)(ho:B.ok)(hk:k<B.np)(hk2:k<1000)(s0:B.gi k 16=2)(v3:mh3 B k=false)(v4:mh4 B k=true):
    Calls Tryz.prog 38 #[.pointer (some ⟨X,0,none⟩),.int .i64 k] w (Stepped w F X g (true,migYield B k)):=by
 obtain⟨hX,hg,hne⟩:=h.lt
 obtain⟨cap,c17,hc1,hc2⟩:=h.cell17 ho
 have P1:=hD ((h.cellX ho (i:=1) (by omega)).trans (ho.hb 1 rfl))
 have P2:=hD ((h.cellg (i:=k*89+2) (by omega)).trans (ho.gb hk 2 rfl))
 have P9:=hD ((h.cellg (i:=k*89+9) (by omega)).trans (ho.gi hk 9 rfl))
 have P16:=hD ((h.cellg (i:=k*89+16) (by omega)).trans (ho.gi hk 16 rfl))
 have P30:=hD ((h.cellg (i:=k*89+30) (by omega)).trans (ho.gb hk 30 rfl))
 have P37:=hD ((h.cellg (i:=k*89+37) (by omega)).trans (ho.gb hk 37 rfl))
 have P38:=hD ((h.cellg (i:=k*89+38) (by omega)).trans (ho.gb hk 38 rfl))
 have P45:=hD ((h.cellg (i:=k*89+45) (by omega)).trans (ho.gb hk 45 rfl))
 have H:=hD h
 have V3:=hD v3
 have V4:=hD v4
 clear h v3 v4
 have S16:=hD s0
 clear s0
 have hi:=hD size_mrow
 have i0:=mig_ix0
 have i1:=mig_ix1
 have i2:=mig_ix2
 have i3:=mig_ix3
 have i4:=mig_ix4
 go_enter Tryz.func38,Tryz.ntmps38
 go_wp2_with fail
 refine(mig_rows _).mono ?_
 rintro e w0 ⟨rfl,hx0⟩
 have hg0:=nL hg hx0.size
 have hX0:=nL hX hx0.size
 have qa0:=(hx0.cell (p:=⟨X,1,none⟩) hX).trans P1.out
 have qb0:=(hx0.cell (p:=⟨g,k*89+16,none⟩) hg).trans P16.out
 rw[S16.out]at qb0
 clear c17
 go_wp2_with fail
 refine wp_loop_rounds 6 ?_
 rw[rounds_succ]
 go_wp2_with (first|fail|((with_reducible refine at_store 103 ?_);refine wpList_store_new2 rfl rfl 103 _ _ _ rfl _ #[.int .i64 0,.func (.func 70) #[] #[],.func (.func 71) #[] #[],.int .i64 2] _ rfl ?_ rfl hi.out rfl rfl ?_;· simp))
 go_quiet (fail)
 have hy:Ext w (World.drewN (w0.alloc (.cells #[.int .i64 0,.func (.func 70) #[] #[],.func (.func 71) #[] #[],.int .i64 2] 103)) nq):=(hx0.alloc _).drewN _
 go_wp2_with fail
 generalize World.drewN _ nq=w1 at hy ⊢
 have hx1:=hy
 clear qa0 qb0 hg0 hX0 hy
 have hg1:=nL hg hx1.size
 have hX1:=nL hX hx1.size
 have qa1:=(hx1.cell (p:=⟨X,1,none⟩) hX).trans P1.out
 have qb1:=(hx1.cell (p:=⟨g,k*89+16,none⟩) hg).trans P16.out
 rw[S16.out]at qb1
 rw[rounds_succ]
 go_wp2_with (first|fail|((with_reducible refine at_store 103 ?_);refine wpList_store_new2 rfl rfl 103 _ _ _ rfl _ #[.int .i64 0,.func (.func 72) #[] #[],.func (.func 73) #[] #[],.int .i64 0] _ rfl ?_ rfl hi.out rfl rfl ?_;· simp))
 go_quiet (fail)
 have hy:Ext w (World.drewN (w1.alloc (.cells #[.int .i64 0,.func (.func 72) #[] #[],.func (.func 73) #[] #[],.int .i64 0] 103)) nq):=(hx1.alloc _).drewN _
 go_wp2_with fail
 generalize World.drewN _ nq=w2 at hy ⊢
 have hx2:=hy
 clear qa1 qb1 hg1 hX1 hy
 have hg2:=nL hg hx2.size
 have hX2:=nL hX hx2.size
 have qa2:=(hx2.cell (p:=⟨X,1,none⟩) hX).trans P1.out
 have qb2:=(hx2.cell (p:=⟨g,k*89+16,none⟩) hg).trans P16.out
 rw[S16.out]at qb2
 rw[rounds_succ]
 go_wp2_with (first|fail|((with_reducible refine at_store 103 ?_);refine wpList_store_new2 rfl rfl 103 _ _ _ rfl _ #[.int .i64 2,.func (.func 74) #[] #[],.func (.func 73) #[] #[],.int .i64 0] _ rfl ?_ rfl hi.out rfl rfl ?_;· simp))
 go_quiet ((exact quietL (asb (y:=false) (mig_h3 _ g (k*89) _ _ _ _ _ (((hx2.alloc _).drewN _).cell (p:=⟨g,k*89+2,none⟩) hg |>.trans P2.out) (((hx2.alloc _).drewN _).cell (p:=⟨g,k*89+30,none⟩) hg |>.trans P30.out) (((hx2.alloc _).drewN _).cell (p:=⟨g,k*89+37,none⟩) hg |>.trans P37.out) (((hx2.alloc _).drewN _).cell (p:=⟨g,k*89+45,none⟩) hg |>.trans P45.out)) V3.out)))
 have hy:Ext w (World.drewN (w2.alloc (.cells #[.int .i64 2,.func (.func 74) #[] #[],.func (.func 73) #[] #[],.int .i64 0] 103)) nq):=(hx2.alloc _).drewN _
 go_wp2_with fail
 generalize World.drewN _ nq=w3 at hy ⊢
 have hx3:=hy
 clear qa2 qb2 hg2 hX2 hy
 have hg3:=nL hg hx3.size
 have hX3:=nL hX hx3.size
 have qa3:=(hx3.cell (p:=⟨X,1,none⟩) hX).trans P1.out
 have qb3:=(hx3.cell (p:=⟨g,k*89+16,none⟩) hg).trans P16.out
 rw[S16.out]at qb3
 rw[rounds_succ]
 go_wp2_with (first|fail|((with_reducible refine at_store 103 ?_);refine wpList_store_new2 rfl rfl 103 _ _ _ rfl _ #[.int .i64 2,.func (.func 75) #[] #[],.func (.func 76) #[] #[],.int .i64 1] _ rfl ?_ rfl hi.out rfl rfl ?_;· simp))
 go_quiet ((exact quietL (asb (y:=true) (mig_h4 _ g (k*89) _ _ _ (((hx3.alloc _).drewN _).cell (p:=⟨g,k*89+45,none⟩) hg |>.trans P45.out) (((hx3.alloc _).drewN _).cell (p:=⟨g,k*89+38,none⟩) hg |>.trans P38.out)) V4.out)))
 have bx:∀j,(World.drewN (w3.alloc (.cells #[.int .i64 2,.func (.func 75) #[] #[],.func (.func 76) #[] #[],.int .i64 1] 103)) nq).cell? ⟨w3.heap.size,j,none⟩=#[.int .i64 2,.func (.func 75) #[] #[],.func (.func 76) #[] #[],.int .i64 1][j]?:=fun j=>by
  rw[World.cell?_drewN]
  exact World.cell?_alloc_at _ _ _ _ rfl
 have hy:Ext w (World.drewN (w3.alloc (.cells #[.int .i64 2,.func (.func 75) #[] #[],.func (.func 76) #[] #[],.int .i64 1] 103)) nq):=(hx3.alloc _).drewN _
 go_wp2_with fail
 refine wp_region_tail 7 (by kernel_rfl) (by kernel_rfl) ?_
 intro w9 hw9
 have hx9:Ext w w9:=by
  rw[hw9]
  exact hy.drew
 have b2:w9.cell? ⟨w3.heap.size,2,none⟩=some (.func (.func 76) #[] #[]):=by
  rw[hw9,World.cell?_drew,bx]
  rfl
 have b3:w9.cell? ⟨w3.heap.size,3,none⟩=some (.int .i64 1):=by
  rw[hw9,World.cell?_drew,bx]
  rfl
 have hgz:g≠w3.heap.size:=Nat.ne_of_lt hg3
 clear hw9 bx hy qa3 qb3
 have q1:=(hx9.cell (p:=⟨X,1,none⟩) hX).trans P1.out
 have p9:=(hx9.cell (p:=⟨g,k*89+9,none⟩) hg).trans P9.out
 have p16:=(hx9.cell (p:=⟨g,k*89+16,none⟩) hg).trans P16.out
 have p30:=(hx9.cell (p:=⟨g,k*89+30,none⟩) hg).trans P30.out
 have p37:=(hx9.cell (p:=⟨g,k*89+37,none⟩) hg).trans P37.out
 have p38:=(hx9.cell (p:=⟨g,k*89+38,none⟩) hg).trans P38.out
 have p45:=(hx9.cell (p:=⟨g,k*89+45,none⟩) hg).trans P45.out
 have hf9:∀j,w9.frozen? ⟨g,j,none⟩=false:=fun j=>(H.out.ext hx9).frozen j
 simp only[List.take_succ_cons,List.take_zero,List.drop_succ_cons,List.drop_zero]
 repeat still_step
 refine wpStill_nil ?_
 go_wp2_with fail
 refine(mig_yield _ g (k*89) _ _ w9 p9 p45 hf9).mono ?_
 rintro e w3 ⟨rfl,rfl⟩
 go_wp2_with fail
 go_ret
 exact⟨rfl,((((H.out.ext hx9).setp (j:=45) hk (by decide) _).setp (j:=9) hk (by decide) _).setp (j:=16) hk (by decide) _),((((hx9.mut F).setCell (.inl H.out.F2) _).setCell (.inl H.out.F2) _).setCell (.inl H.out.F2) _)⟩
theorem mig_s2c(w:World)(F:Nat→Prop)(X g k:Nat)(B:Br)(h:BrG w F X g B)(ho:B.ok)(hk:k<B.np)(hk2:k<1000)(s0:B.gi k 16=2)(v3:mh3 B k=false)(v4:mh4 B k=false):
    Calls Tryz.prog 38 #[.pointer (some ⟨X,0,none⟩),.int .i64 k] w (Stepped w F X g (false,B)):=by
 obtain⟨hX,hg,hne⟩:=h.lt
 obtain⟨cap,c17,hc1,hc2⟩:=h.cell17 ho
 have P1:=hD ((h.cellX ho (i:=1) (by omega)).trans (ho.hb 1 rfl))
 have P2:=hD ((h.cellg (i:=k*89+2) (by omega)).trans (ho.gb hk 2 rfl))
 have P9:=hD ((h.cellg (i:=k*89+9) (by omega)).trans (ho.gi hk 9 rfl))
 have P16:=hD ((h.cellg (i:=k*89+16) (by omega)).trans (ho.gi hk 16 rfl))
 have P30:=hD ((h.cellg (i:=k*89+30) (by omega)).trans (ho.gb hk 30 rfl))
 have P37:=hD ((h.cellg (i:=k*89+37) (by omega)).trans (ho.gb hk 37 rfl))
 have P38:=hD ((h.cellg (i:=k*89+38) (by omega)).trans (ho.gb hk 38 rfl))
 have P45:=hD ((h.cellg (i:=k*89+45) (by omega)).trans (ho.gb hk 45 rfl))
 have H:=hD h
 have V3:=hD v3
 have V4:=hD v4
 clear h v3 v4
 have S16:=hD s0
 clear s0
 have hi:=hD size_mrow
 have i0:=mig_ix0
 have i1:=mig_ix1
 have i2:=mig_ix2
 have i3:=mig_ix3
 have i4:=mig_ix4
 go_enter Tryz.func38,Tryz.ntmps38
 go_wp2_with fail
 refine(mig_rows _).mono ?_
 rintro e w0 ⟨rfl,hx0⟩
 have hg0:=nL hg hx0.size
 have hX0:=nL hX hx0.size
 have qa0:=(hx0.cell (p:=⟨X,1,none⟩) hX).trans P1.out
 have qb0:=(hx0.cell (p:=⟨g,k*89+16,none⟩) hg).trans P16.out
 rw[S16.out]at qb0
 clear c17
 go_wp2_with fail
 refine wp_loop_rounds 6 ?_
 rw[rounds_succ]
 go_wp2_with (first|fail|((with_reducible refine at_store 103 ?_);refine wpList_store_new2 rfl rfl 103 _ _ _ rfl _ #[.int .i64 0,.func (.func 70) #[] #[],.func (.func 71) #[] #[],.int .i64 2] _ rfl ?_ rfl hi.out rfl rfl ?_;· simp))
 go_quiet (fail)
 have hy:Ext w (World.drewN (w0.alloc (.cells #[.int .i64 0,.func (.func 70) #[] #[],.func (.func 71) #[] #[],.int .i64 2] 103)) nq):=(hx0.alloc _).drewN _
 go_wp2_with fail
 generalize World.drewN _ nq=w1 at hy ⊢
 have hx1:=hy
 clear qa0 qb0 hg0 hX0 hy
 have hg1:=nL hg hx1.size
 have hX1:=nL hX hx1.size
 have qa1:=(hx1.cell (p:=⟨X,1,none⟩) hX).trans P1.out
 have qb1:=(hx1.cell (p:=⟨g,k*89+16,none⟩) hg).trans P16.out
 rw[S16.out]at qb1
 rw[rounds_succ]
 go_wp2_with (first|fail|((with_reducible refine at_store 103 ?_);refine wpList_store_new2 rfl rfl 103 _ _ _ rfl _ #[.int .i64 0,.func (.func 72) #[] #[],.func (.func 73) #[] #[],.int .i64 0] _ rfl ?_ rfl hi.out rfl rfl ?_;· simp))
 go_quiet (fail)
 have hy:Ext w (World.drewN (w1.alloc (.cells #[.int .i64 0,.func (.func 72) #[] #[],.func (.func 73) #[] #[],.int .i64 0] 103)) nq):=(hx1.alloc _).drewN _
 go_wp2_with fail
 generalize World.drewN _ nq=w2 at hy ⊢
 have hx2:=hy
 clear qa1 qb1 hg1 hX1 hy
 have hg2:=nL hg hx2.size
 have hX2:=nL hX hx2.size
 have qa2:=(hx2.cell (p:=⟨X,1,none⟩) hX).trans P1.out
 have qb2:=(hx2.cell (p:=⟨g,k*89+16,none⟩) hg).trans P16.out
 rw[S16.out]at qb2
 rw[rounds_succ]
 go_wp2_with (first|fail|((with_reducible refine at_store 103 ?_);refine wpList_store_new2 rfl rfl 103 _ _ _ rfl _ #[.int .i64 2,.func (.func 74) #[] #[],.func (.func 73) #[] #[],.int .i64 0] _ rfl ?_ rfl hi.out rfl rfl ?_;· simp))
 go_quiet ((exact quietL (asb (y:=false) (mig_h3 _ g (k*89) _ _ _ _ _ (((hx2.alloc _).drewN _).cell (p:=⟨g,k*89+2,none⟩) hg |>.trans P2.out) (((hx2.alloc _).drewN _).cell (p:=⟨g,k*89+30,none⟩) hg |>.trans P30.out) (((hx2.alloc _).drewN _).cell (p:=⟨g,k*89+37,none⟩) hg |>.trans P37.out) (((hx2.alloc _).drewN _).cell (p:=⟨g,k*89+45,none⟩) hg |>.trans P45.out)) V3.out)))
 have hy:Ext w (World.drewN (w2.alloc (.cells #[.int .i64 2,.func (.func 74) #[] #[],.func (.func 73) #[] #[],.int .i64 0] 103)) nq):=(hx2.alloc _).drewN _
 go_wp2_with fail
 generalize World.drewN _ nq=w3 at hy ⊢
 have hx3:=hy
 clear qa2 qb2 hg2 hX2 hy
 have hg3:=nL hg hx3.size
 have hX3:=nL hX hx3.size
 have qa3:=(hx3.cell (p:=⟨X,1,none⟩) hX).trans P1.out
 have qb3:=(hx3.cell (p:=⟨g,k*89+16,none⟩) hg).trans P16.out
 rw[S16.out]at qb3
 rw[rounds_succ]
 go_wp2_with (first|fail|((with_reducible refine at_store 103 ?_);refine wpList_store_new2 rfl rfl 103 _ _ _ rfl _ #[.int .i64 2,.func (.func 75) #[] #[],.func (.func 76) #[] #[],.int .i64 1] _ rfl ?_ rfl hi.out rfl rfl ?_;· simp))
 go_quiet ((exact quietL (asb (y:=false) (mig_h4 _ g (k*89) _ _ _ (((hx3.alloc _).drewN _).cell (p:=⟨g,k*89+45,none⟩) hg |>.trans P45.out) (((hx3.alloc _).drewN _).cell (p:=⟨g,k*89+38,none⟩) hg |>.trans P38.out)) V4.out)))
 have hy:Ext w (World.drewN (w3.alloc (.cells #[.int .i64 2,.func (.func 75) #[] #[],.func (.func 76) #[] #[],.int .i64 1] 103)) nq):=(hx3.alloc _).drewN _
 go_wp2_with fail
 generalize World.drewN _ nq=w4 at hy ⊢
 have hx4:=hy
 clear qa3 qb3 hg3 hX3 hy
 have hg4:=nL hg hx4.size
 have hX4:=nL hX hx4.size
 have qa4:=(hx4.cell (p:=⟨X,1,none⟩) hX).trans P1.out
 have qb4:=(hx4.cell (p:=⟨g,k*89+16,none⟩) hg).trans P16.out
 rw[S16.out]at qb4
 rw[rounds_succ]
 go_wp2_with (first|fail|((with_reducible refine at_store 103 ?_);refine wpList_store_new2 rfl rfl 103 _ _ _ rfl _ #[.int .i64 1,.func (.func 77) #[] #[],.func (.func 71) #[] #[],.int .i64 2] _ rfl ?_ rfl hi.out rfl rfl ?_;· simp))
 go_quiet (fail)
 have hy:Ext w (World.drewN (w4.alloc (.cells #[.int .i64 1,.func (.func 77) #[] #[],.func (.func 71) #[] #[],.int .i64 2] 103)) nq):=(hx4.alloc _).drewN _
 go_wp2_with fail
 generalize World.drewN _ nq=w5 at hy ⊢
 have hx5:=hy
 clear qa4 qb4 hg4 hX4 hy
 have hg5:=nL hg hx5.size
 have hX5:=nL hX hx5.size
 have qa5:=(hx5.cell (p:=⟨X,1,none⟩) hX).trans P1.out
 have qb5:=(hx5.cell (p:=⟨g,k*89+16,none⟩) hg).trans P16.out
 rw[S16.out]at qb5
 rw[rounds_succ]
 go_wp2_with fail
 go_ret
 exact⟨rfl,H.out.ext hx5,hx5.mut F⟩
theorem mig_s1a(w:World)(F:Nat→Prop)(X g k:Nat)(B:Br)(h:BrG w F X g B)(ho:B.ok)(hk:k<B.np)(hk2:k<1000)(s0:B.gi k 16=1)(v5:mh5 B k=true):
    Calls Tryz.prog 38 #[.pointer (some ⟨X,0,none⟩),.int .i64 k] w (Stepped w F X g (true,migListen B k)):=by
 obtain⟨hX,hg,hne⟩:=h.lt
 obtain⟨cap,c17,hc1,hc2⟩:=h.cell17 ho
 have P1:=hD ((h.cellX ho (i:=1) (by omega)).trans (ho.hb 1 rfl))
 have P2:=hD ((h.cellg (i:=k*89+2) (by omega)).trans (ho.gb hk 2 rfl))
 have P9:=hD ((h.cellg (i:=k*89+9) (by omega)).trans (ho.gi hk 9 rfl))
 have P16:=hD ((h.cellg (i:=k*89+16) (by omega)).trans (ho.gi hk 16 rfl))
 have P30:=hD ((h.cellg (i:=k*89+30) (by omega)).trans (ho.gb hk 30 rfl))
 have P37:=hD ((h.cellg (i:=k*89+37) (by omega)).trans (ho.gb hk 37 rfl))
 have P38:=hD ((h.cellg (i:=k*89+38) (by omega)).trans (ho.gb hk 38 rfl))
 have P45:=hD ((h.cellg (i:=k*89+45) (by omega)).trans (ho.gb hk 45 rfl))
 have H:=hD h
 have V5:=hD v5
 clear h v5
 have S16:=hD s0
 clear s0
 have hi:=hD size_mrow
 have i0:=mig_ix0
 have i1:=mig_ix1
 have i2:=mig_ix2
 have i3:=mig_ix3
 have i4:=mig_ix4
 go_enter Tryz.func38,Tryz.ntmps38
 go_wp2_with fail
 refine(mig_rows _).mono ?_
 rintro e w0 ⟨rfl,hx0⟩
 have hg0:=nL hg hx0.size
 have hX0:=nL hX hx0.size
 have qa0:=(hx0.cell (p:=⟨X,1,none⟩) hX).trans P1.out
 have qb0:=(hx0.cell (p:=⟨g,k*89+16,none⟩) hg).trans P16.out
 rw[S16.out]at qb0
 clear c17
 go_wp2_with fail
 refine wp_loop_rounds 6 ?_
 rw[rounds_succ]
 go_wp2_with (first|fail|((with_reducible refine at_store 103 ?_);refine wpList_store_new2 rfl rfl 103 _ _ _ rfl _ #[.int .i64 0,.func (.func 70) #[] #[],.func (.func 71) #[] #[],.int .i64 2] _ rfl ?_ rfl hi.out rfl rfl ?_;· simp))
 go_quiet (fail)
 have hy:Ext w (World.drewN (w0.alloc (.cells #[.int .i64 0,.func (.func 70) #[] #[],.func (.func 71) #[] #[],.int .i64 2] 103)) nq):=(hx0.alloc _).drewN _
 go_wp2_with fail
 generalize World.drewN _ nq=w1 at hy ⊢
 have hx1:=hy
 clear qa0 qb0 hg0 hX0 hy
 have hg1:=nL hg hx1.size
 have hX1:=nL hX hx1.size
 have qa1:=(hx1.cell (p:=⟨X,1,none⟩) hX).trans P1.out
 have qb1:=(hx1.cell (p:=⟨g,k*89+16,none⟩) hg).trans P16.out
 rw[S16.out]at qb1
 rw[rounds_succ]
 go_wp2_with (first|fail|((with_reducible refine at_store 103 ?_);refine wpList_store_new2 rfl rfl 103 _ _ _ rfl _ #[.int .i64 0,.func (.func 72) #[] #[],.func (.func 73) #[] #[],.int .i64 0] _ rfl ?_ rfl hi.out rfl rfl ?_;· simp))
 go_quiet (fail)
 have hy:Ext w (World.drewN (w1.alloc (.cells #[.int .i64 0,.func (.func 72) #[] #[],.func (.func 73) #[] #[],.int .i64 0] 103)) nq):=(hx1.alloc _).drewN _
 go_wp2_with fail
 generalize World.drewN _ nq=w2 at hy ⊢
 have hx2:=hy
 clear qa1 qb1 hg1 hX1 hy
 have hg2:=nL hg hx2.size
 have hX2:=nL hX hx2.size
 have qa2:=(hx2.cell (p:=⟨X,1,none⟩) hX).trans P1.out
 have qb2:=(hx2.cell (p:=⟨g,k*89+16,none⟩) hg).trans P16.out
 rw[S16.out]at qb2
 rw[rounds_succ]
 go_wp2_with (first|fail|((with_reducible refine at_store 103 ?_);refine wpList_store_new2 rfl rfl 103 _ _ _ rfl _ #[.int .i64 2,.func (.func 74) #[] #[],.func (.func 73) #[] #[],.int .i64 0] _ rfl ?_ rfl hi.out rfl rfl ?_;· simp))
 go_quiet (fail)
 have hy:Ext w (World.drewN (w2.alloc (.cells #[.int .i64 2,.func (.func 74) #[] #[],.func (.func 73) #[] #[],.int .i64 0] 103)) nq):=(hx2.alloc _).drewN _
 go_wp2_with fail
 generalize World.drewN _ nq=w3 at hy ⊢
 have hx3:=hy
 clear qa2 qb2 hg2 hX2 hy
 have hg3:=nL hg hx3.size
 have hX3:=nL hX hx3.size
 have qa3:=(hx3.cell (p:=⟨X,1,none⟩) hX).trans P1.out
 have qb3:=(hx3.cell (p:=⟨g,k*89+16,none⟩) hg).trans P16.out
 rw[S16.out]at qb3
 rw[rounds_succ]
 go_wp2_with (first|fail|((with_reducible refine at_store 103 ?_);refine wpList_store_new2 rfl rfl 103 _ _ _ rfl _ #[.int .i64 2,.func (.func 75) #[] #[],.func (.func 76) #[] #[],.int .i64 1] _ rfl ?_ rfl hi.out rfl rfl ?_;· simp))
 go_quiet (fail)
 have hy:Ext w (World.drewN (w3.alloc (.cells #[.int .i64 2,.func (.func 75) #[] #[],.func (.func 76) #[] #[],.int .i64 1] 103)) nq):=(hx3.alloc _).drewN _
 go_wp2_with fail
 generalize World.drewN _ nq=w4 at hy ⊢
 have hx4:=hy
 clear qa3 qb3 hg3 hX3 hy
 have hg4:=nL hg hx4.size
 have hX4:=nL hX hx4.size
 have qa4:=(hx4.cell (p:=⟨X,1,none⟩) hX).trans P1.out
 have qb4:=(hx4.cell (p:=⟨g,k*89+16,none⟩) hg).trans P16.out
 rw[S16.out]at qb4
 rw[rounds_succ]
 go_wp2_with (first|fail|((with_reducible refine at_store 103 ?_);refine wpList_store_new2 rfl rfl 103 _ _ _ rfl _ #[.int .i64 1,.func (.func 77) #[] #[],.func (.func 71) #[] #[],.int .i64 2] _ rfl ?_ rfl hi.out rfl rfl ?_;· simp))
 go_quiet ((exact quietL (asb (y:=true) (mig_h5 _ g (k*89) _ _ _ _ (((hx4.alloc _).drewN _).cell (p:=⟨g,k*89+9,none⟩) hg |>.trans P9.out) (((hx4.alloc _).drewN _).cell (p:=⟨g,k*89+2,none⟩) hg |>.trans P2.out) (((hx4.alloc _).drewN _).cell (p:=⟨g,k*89+30,none⟩) hg |>.trans P30.out)) V5.out)))
 have bx:∀j,(World.drewN (w4.alloc (.cells #[.int .i64 1,.func (.func 77) #[] #[],.func (.func 71) #[] #[],.int .i64 2] 103)) nq).cell? ⟨w4.heap.size,j,none⟩=#[.int .i64 1,.func (.func 77) #[] #[],.func (.func 71) #[] #[],.int .i64 2][j]?:=fun j=>by
  rw[World.cell?_drewN]
  exact World.cell?_alloc_at _ _ _ _ rfl
 have hy:Ext w (World.drewN (w4.alloc (.cells #[.int .i64 1,.func (.func 77) #[] #[],.func (.func 71) #[] #[],.int .i64 2] 103)) nq):=(hx4.alloc _).drewN _
 go_wp2_with fail
 refine wp_region_tail 7 (by kernel_rfl) (by kernel_rfl) ?_
 intro w9 hw9
 have hx9:Ext w w9:=by
  rw[hw9]
  exact hy.drew
 have b2:w9.cell? ⟨w4.heap.size,2,none⟩=some (.func (.func 71) #[] #[]):=by
  rw[hw9,World.cell?_drew,bx]
  rfl
 have b3:w9.cell? ⟨w4.heap.size,3,none⟩=some (.int .i64 2):=by
  rw[hw9,World.cell?_drew,bx]
  rfl
 have hgz:g≠w4.heap.size:=Nat.ne_of_lt hg4
 clear hw9 bx hy qa4 qb4
 have q1:=(hx9.cell (p:=⟨X,1,none⟩) hX).trans P1.out
 have p9:=(hx9.cell (p:=⟨g,k*89+9,none⟩) hg).trans P9.out
 have p16:=(hx9.cell (p:=⟨g,k*89+16,none⟩) hg).trans P16.out
 have p30:=(hx9.cell (p:=⟨g,k*89+30,none⟩) hg).trans P30.out
 have p37:=(hx9.cell (p:=⟨g,k*89+37,none⟩) hg).trans P37.out
 have p38:=(hx9.cell (p:=⟨g,k*89+38,none⟩) hg).trans P38.out
 have p45:=(hx9.cell (p:=⟨g,k*89+45,none⟩) hg).trans P45.out
 have hf9:∀j,w9.frozen? ⟨g,j,none⟩=false:=fun j=>(H.out.ext hx9).frozen j
 simp only[List.take_succ_cons,List.take_zero,List.drop_succ_cons,List.drop_zero]
 repeat still_step
 refine wpStill_nil ?_
 go_wp2_with fail
 refine(mig_listen _ g (k*89) _ _ w9 p37 p38 hf9).mono ?_
 rintro e w3 ⟨rfl,rfl⟩
 go_wp2_with fail
 go_ret
 exact⟨rfl,((((H.out.ext hx9).setp (j:=37) hk (by decide) _).setp (j:=38) hk (by decide) _).setp (j:=16) hk (by decide) _),((((hx9.mut F).setCell (.inl H.out.F2) _).setCell (.inl H.out.F2) _).setCell (.inl H.out.F2) _)⟩
theorem mig_s1b(w:World)(F:Nat→Prop)(X g k:Nat)(B:Br)(h:BrG w F X g B)(ho:B.ok)(hk:k<B.np)(hk2:k<1000)(s0:B.gi k 16=1)(v5:mh5 B k=false):
    Calls Tryz.prog 38 #[.pointer (some ⟨X,0,none⟩),.int .i64 k] w (Stepped w F X g (false,B)):=by
 obtain⟨hX,hg,hne⟩:=h.lt
 obtain⟨cap,c17,hc1,hc2⟩:=h.cell17 ho
 have P1:=hD ((h.cellX ho (i:=1) (by omega)).trans (ho.hb 1 rfl))
 have P2:=hD ((h.cellg (i:=k*89+2) (by omega)).trans (ho.gb hk 2 rfl))
 have P9:=hD ((h.cellg (i:=k*89+9) (by omega)).trans (ho.gi hk 9 rfl))
 have P16:=hD ((h.cellg (i:=k*89+16) (by omega)).trans (ho.gi hk 16 rfl))
 have P30:=hD ((h.cellg (i:=k*89+30) (by omega)).trans (ho.gb hk 30 rfl))
 have P37:=hD ((h.cellg (i:=k*89+37) (by omega)).trans (ho.gb hk 37 rfl))
 have P38:=hD ((h.cellg (i:=k*89+38) (by omega)).trans (ho.gb hk 38 rfl))
 have P45:=hD ((h.cellg (i:=k*89+45) (by omega)).trans (ho.gb hk 45 rfl))
 have H:=hD h
 have V5:=hD v5
 clear h v5
 have S16:=hD s0
 clear s0
 have hi:=hD size_mrow
 have i0:=mig_ix0
 have i1:=mig_ix1
 have i2:=mig_ix2
 have i3:=mig_ix3
 have i4:=mig_ix4
 go_enter Tryz.func38,Tryz.ntmps38
 go_wp2_with fail
 refine(mig_rows _).mono ?_
 rintro e w0 ⟨rfl,hx0⟩
 have hg0:=nL hg hx0.size
 have hX0:=nL hX hx0.size
 have qa0:=(hx0.cell (p:=⟨X,1,none⟩) hX).trans P1.out
 have qb0:=(hx0.cell (p:=⟨g,k*89+16,none⟩) hg).trans P16.out
 rw[S16.out]at qb0
 clear c17
 go_wp2_with fail
 refine wp_loop_rounds 6 ?_
 rw[rounds_succ]
 go_wp2_with (first|fail|((with_reducible refine at_store 103 ?_);refine wpList_store_new2 rfl rfl 103 _ _ _ rfl _ #[.int .i64 0,.func (.func 70) #[] #[],.func (.func 71) #[] #[],.int .i64 2] _ rfl ?_ rfl hi.out rfl rfl ?_;· simp))
 go_quiet (fail)
 have hy:Ext w (World.drewN (w0.alloc (.cells #[.int .i64 0,.func (.func 70) #[] #[],.func (.func 71) #[] #[],.int .i64 2] 103)) nq):=(hx0.alloc _).drewN _
 go_wp2_with fail
 generalize World.drewN _ nq=w1 at hy ⊢
 have hx1:=hy
 clear qa0 qb0 hg0 hX0 hy
 have hg1:=nL hg hx1.size
 have hX1:=nL hX hx1.size
 have qa1:=(hx1.cell (p:=⟨X,1,none⟩) hX).trans P1.out
 have qb1:=(hx1.cell (p:=⟨g,k*89+16,none⟩) hg).trans P16.out
 rw[S16.out]at qb1
 rw[rounds_succ]
 go_wp2_with (first|fail|((with_reducible refine at_store 103 ?_);refine wpList_store_new2 rfl rfl 103 _ _ _ rfl _ #[.int .i64 0,.func (.func 72) #[] #[],.func (.func 73) #[] #[],.int .i64 0] _ rfl ?_ rfl hi.out rfl rfl ?_;· simp))
 go_quiet (fail)
 have hy:Ext w (World.drewN (w1.alloc (.cells #[.int .i64 0,.func (.func 72) #[] #[],.func (.func 73) #[] #[],.int .i64 0] 103)) nq):=(hx1.alloc _).drewN _
 go_wp2_with fail
 generalize World.drewN _ nq=w2 at hy ⊢
 have hx2:=hy
 clear qa1 qb1 hg1 hX1 hy
 have hg2:=nL hg hx2.size
 have hX2:=nL hX hx2.size
 have qa2:=(hx2.cell (p:=⟨X,1,none⟩) hX).trans P1.out
 have qb2:=(hx2.cell (p:=⟨g,k*89+16,none⟩) hg).trans P16.out
 rw[S16.out]at qb2
 rw[rounds_succ]
 go_wp2_with (first|fail|((with_reducible refine at_store 103 ?_);refine wpList_store_new2 rfl rfl 103 _ _ _ rfl _ #[.int .i64 2,.func (.func 74) #[] #[],.func (.func 73) #[] #[],.int .i64 0] _ rfl ?_ rfl hi.out rfl rfl ?_;· simp))
 go_quiet (fail)
 have hy:Ext w (World.drewN (w2.alloc (.cells #[.int .i64 2,.func (.func 74) #[] #[],.func (.func 73) #[] #[],.int .i64 0] 103)) nq):=(hx2.alloc _).drewN _
 go_wp2_with fail
 generalize World.drewN _ nq=w3 at hy ⊢
 have hx3:=hy
 clear qa2 qb2 hg2 hX2 hy
 have hg3:=nL hg hx3.size
 have hX3:=nL hX hx3.size
 have qa3:=(hx3.cell (p:=⟨X,1,none⟩) hX).trans P1.out
 have qb3:=(hx3.cell (p:=⟨g,k*89+16,none⟩) hg).trans P16.out
 rw[S16.out]at qb3
 rw[rounds_succ]
 go_wp2_with (first|fail|((with_reducible refine at_store 103 ?_);refine wpList_store_new2 rfl rfl 103 _ _ _ rfl _ #[.int .i64 2,.func (.func 75) #[] #[],.func (.func 76) #[] #[],.int .i64 1] _ rfl ?_ rfl hi.out rfl rfl ?_;· simp))
 go_quiet (fail)
 have hy:Ext w (World.drewN (w3.alloc (.cells #[.int .i64 2,.func (.func 75) #[] #[],.func (.func 76) #[] #[],.int .i64 1] 103)) nq):=(hx3.alloc _).drewN _
 go_wp2_with fail
 generalize World.drewN _ nq=w4 at hy ⊢
 have hx4:=hy
 clear qa3 qb3 hg3 hX3 hy
 have hg4:=nL hg hx4.size
 have hX4:=nL hX hx4.size
 have qa4:=(hx4.cell (p:=⟨X,1,none⟩) hX).trans P1.out
 have qb4:=(hx4.cell (p:=⟨g,k*89+16,none⟩) hg).trans P16.out
 rw[S16.out]at qb4
 rw[rounds_succ]
 go_wp2_with (first|fail|((with_reducible refine at_store 103 ?_);refine wpList_store_new2 rfl rfl 103 _ _ _ rfl _ #[.int .i64 1,.func (.func 77) #[] #[],.func (.func 71) #[] #[],.int .i64 2] _ rfl ?_ rfl hi.out rfl rfl ?_;· simp))
 go_quiet ((exact quietL (asb (y:=false) (mig_h5 _ g (k*89) _ _ _ _ (((hx4.alloc _).drewN _).cell (p:=⟨g,k*89+9,none⟩) hg |>.trans P9.out) (((hx4.alloc _).drewN _).cell (p:=⟨g,k*89+2,none⟩) hg |>.trans P2.out) (((hx4.alloc _).drewN _).cell (p:=⟨g,k*89+30,none⟩) hg |>.trans P30.out)) V5.out)))
 have hy:Ext w (World.drewN (w4.alloc (.cells #[.int .i64 1,.func (.func 77) #[] #[],.func (.func 71) #[] #[],.int .i64 2] 103)) nq):=(hx4.alloc _).drewN _
 go_wp2_with fail
 generalize World.drewN _ nq=w5 at hy ⊢
 have hx5:=hy
 clear qa4 qb4 hg4 hX4 hy
 have hg5:=nL hg hx5.size
 have hX5:=nL hX hx5.size
 have qa5:=(hx5.cell (p:=⟨X,1,none⟩) hX).trans P1.out
 have qb5:=(hx5.cell (p:=⟨g,k*89+16,none⟩) hg).trans P16.out
 rw[S16.out]at qb5
 rw[rounds_succ]
 go_wp2_with fail
 go_ret
 exact⟨rfl,H.out.ext hx5,hx5.mut F⟩
theorem mig_sx(w:World)(F:Nat→Prop)(X g k:Nat)(B:Br)(h:BrG w F X g B)(ho:B.ok)(hk:k<B.np)(hk2:k<1000)(s0:((0:Int) == B.gi k 16)=false)(s1:((1:Int) == B.gi k 16)=false)(s2:((2:Int) == B.gi k 16)=false):
    Calls Tryz.prog 38 #[.pointer (some ⟨X,0,none⟩),.int .i64 k] w (Stepped w F X g (false,B)):=by
 obtain⟨hX,hg,hne⟩:=h.lt
 obtain⟨cap,c17,hc1,hc2⟩:=h.cell17 ho
 have P1:=hD ((h.cellX ho (i:=1) (by omega)).trans (ho.hb 1 rfl))
 have P2:=hD ((h.cellg (i:=k*89+2) (by omega)).trans (ho.gb hk 2 rfl))
 have P9:=hD ((h.cellg (i:=k*89+9) (by omega)).trans (ho.gi hk 9 rfl))
 have P16:=hD ((h.cellg (i:=k*89+16) (by omega)).trans (ho.gi hk 16 rfl))
 have P30:=hD ((h.cellg (i:=k*89+30) (by omega)).trans (ho.gb hk 30 rfl))
 have P37:=hD ((h.cellg (i:=k*89+37) (by omega)).trans (ho.gb hk 37 rfl))
 have P38:=hD ((h.cellg (i:=k*89+38) (by omega)).trans (ho.gb hk 38 rfl))
 have P45:=hD ((h.cellg (i:=k*89+45) (by omega)).trans (ho.gb hk 45 rfl))
 have H:=hD h
 clear h
 have hi:=hD size_mrow
 have i0:=mig_ix0
 have i1:=mig_ix1
 have i2:=mig_ix2
 have i3:=mig_ix3
 have i4:=mig_ix4
 go_enter Tryz.func38,Tryz.ntmps38
 go_wp2_with fail
 refine(mig_rows _).mono ?_
 rintro e w0 ⟨rfl,hx0⟩
 have hg0:=nL hg hx0.size
 have hX0:=nL hX hx0.size
 have qa0:=(hx0.cell (p:=⟨X,1,none⟩) hX).trans P1.out
 have qb0:=(hx0.cell (p:=⟨g,k*89+16,none⟩) hg).trans P16.out
 clear c17
 go_wp2_with fail
 refine wp_loop_rounds 6 ?_
 rw[rounds_succ]
 go_wp2_with (first|fail|((with_reducible refine at_store 103 ?_);refine wpList_store_new2 rfl rfl 103 _ _ _ rfl _ #[.int .i64 0,.func (.func 70) #[] #[],.func (.func 71) #[] #[],.int .i64 2] _ rfl ?_ rfl hi.out rfl rfl ?_;· simp))
 go_quiet (fail)
 have hy:Ext w (World.drewN (w0.alloc (.cells #[.int .i64 0,.func (.func 70) #[] #[],.func (.func 71) #[] #[],.int .i64 2] 103)) nq):=(hx0.alloc _).drewN _
 go_wp2_with fail
 generalize World.drewN _ nq=w1 at hy ⊢
 have hx1:=hy
 clear qa0 qb0 hg0 hX0 hy
 have hg1:=nL hg hx1.size
 have hX1:=nL hX hx1.size
 have qa1:=(hx1.cell (p:=⟨X,1,none⟩) hX).trans P1.out
 have qb1:=(hx1.cell (p:=⟨g,k*89+16,none⟩) hg).trans P16.out
 rw[rounds_succ]
 go_wp2_with (first|fail|((with_reducible refine at_store 103 ?_);refine wpList_store_new2 rfl rfl 103 _ _ _ rfl _ #[.int .i64 0,.func (.func 72) #[] #[],.func (.func 73) #[] #[],.int .i64 0] _ rfl ?_ rfl hi.out rfl rfl ?_;· simp))
 go_quiet (fail)
 have hy:Ext w (World.drewN (w1.alloc (.cells #[.int .i64 0,.func (.func 72) #[] #[],.func (.func 73) #[] #[],.int .i64 0] 103)) nq):=(hx1.alloc _).drewN _
 go_wp2_with fail
 generalize World.drewN _ nq=w2 at hy ⊢
 have hx2:=hy
 clear qa1 qb1 hg1 hX1 hy
 have hg2:=nL hg hx2.size
 have hX2:=nL hX hx2.size
 have qa2:=(hx2.cell (p:=⟨X,1,none⟩) hX).trans P1.out
 have qb2:=(hx2.cell (p:=⟨g,k*89+16,none⟩) hg).trans P16.out
 rw[rounds_succ]
 go_wp2_with (first|fail|((with_reducible refine at_store 103 ?_);refine wpList_store_new2 rfl rfl 103 _ _ _ rfl _ #[.int .i64 2,.func (.func 74) #[] #[],.func (.func 73) #[] #[],.int .i64 0] _ rfl ?_ rfl hi.out rfl rfl ?_;· simp))
 go_quiet (fail)
 have hy:Ext w (World.drewN (w2.alloc (.cells #[.int .i64 2,.func (.func 74) #[] #[],.func (.func 73) #[] #[],.int .i64 0] 103)) nq):=(hx2.alloc _).drewN _
 go_wp2_with fail
 generalize World.drewN _ nq=w3 at hy ⊢
 have hx3:=hy
 clear qa2 qb2 hg2 hX2 hy
 have hg3:=nL hg hx3.size
 have hX3:=nL hX hx3.size
 have qa3:=(hx3.cell (p:=⟨X,1,none⟩) hX).trans P1.out
 have qb3:=(hx3.cell (p:=⟨g,k*89+16,none⟩) hg).trans P16.out
 rw[rounds_succ]
 go_wp2_with (first|fail|((with_reducible refine at_store 103 ?_);refine wpList_store_new2 rfl rfl 103 _ _ _ rfl _ #[.int .i64 2,.func (.func 75) #[] #[],.func (.func 76) #[] #[],.int .i64 1] _ rfl ?_ rfl hi.out rfl rfl ?_;· simp))
 go_quiet (fail)
 have hy:Ext w (World.drewN (w3.alloc (.cells #[.int .i64 2,.func (.func 75) #[] #[],.func (.func 76) #[] #[],.int .i64 1] 103)) nq):=(hx3.alloc _).drewN _
 go_wp2_with fail
 generalize World.drewN _ nq=w4 at hy ⊢
 have hx4:=hy
 clear qa3 qb3 hg3 hX3 hy
 have hg4:=nL hg hx4.size
 have hX4:=nL hX hx4.size
 have qa4:=(hx4.cell (p:=⟨X,1,none⟩) hX).trans P1.out
 have qb4:=(hx4.cell (p:=⟨g,k*89+16,none⟩) hg).trans P16.out
 rw[rounds_succ]
 go_wp2_with (first|fail|((with_reducible refine at_store 103 ?_);refine wpList_store_new2 rfl rfl 103 _ _ _ rfl _ #[.int .i64 1,.func (.func 77) #[] #[],.func (.func 71) #[] #[],.int .i64 2] _ rfl ?_ rfl hi.out rfl rfl ?_;· simp))
 go_quiet (fail)
 have hy:Ext w (World.drewN (w4.alloc (.cells #[.int .i64 1,.func (.func 77) #[] #[],.func (.func 71) #[] #[],.int .i64 2] 103)) nq):=(hx4.alloc _).drewN _
 go_wp2_with fail
 generalize World.drewN _ nq=w5 at hy ⊢
 have hx5:=hy
 clear qa4 qb4 hg4 hX4 hy
 have hg5:=nL hg hx5.size
 have hX5:=nL hX hx5.size
 have qa5:=(hx5.cell (p:=⟨X,1,none⟩) hX).trans P1.out
 have qb5:=(hx5.cell (p:=⟨g,k*89+16,none⟩) hg).trans P16.out
 rw[rounds_succ]
 go_wp2_with fail
 go_ret
 exact⟨rfl,H.out.ext hx5,hx5.mut F⟩
theorem mig_step(w:World)(F:Nat→Prop)(X g k:Nat)(B:Br)(h:BrG w F X g B)(ho:B.ok)(hk:k<B.np)(hk2:k<1000):
    Calls Tryz.prog 38 #[.pointer (some ⟨X,0,none⟩),.int .i64 k] w (Stepped w F X g (migF B k)):=by
 by_cases s0:B.gi k 16=0
 ·cases v1:mh1 B k
  ·cases v2:mh2 B k
   ·have e:migF B k=(false,B):=by simp[migF,s0,v1,v2]
    rw[e]
    exact mig_s0c w F X g k B h ho hk hk2 s0 v1 v2
   ·have e:migF B k=(true,migBegin B k):=by simp[migF,s0,v1,v2]
    rw[e]
    exact mig_s0b w F X g k B h ho hk hk2 s0 v1 v2
  ·have e:migF B k=(true,migListen B k):=by simp[migF,s0,v1]
   rw[e]
   exact mig_s0a w F X g k B h ho hk hk2 s0 v1
 ·by_cases s2:B.gi k 16=2
  ·cases v1:mh3 B k
   ·cases v2:mh4 B k
    ·have e:migF B k=(false,B):=by simp[migF,s2,v1,v2]
     rw[e]
     exact mig_s2c w F X g k B h ho hk hk2 s2 v1 v2
    ·have e:migF B k=(true,migYield B k):=by simp[migF,s2,v1,v2]
     rw[e]
     exact mig_s2b w F X g k B h ho hk hk2 s2 v1 v2
   ·have e:migF B k=(true,migBegin B k):=by simp[migF,s2,v1]
    rw[e]
    exact mig_s2a w F X g k B h ho hk hk2 s2 v1
  ·by_cases s1:B.gi k 16=1
   ·cases v1:mh5 B k
    ·have e:migF B k=(false,B):=by simp[migF,s1,v1]
     rw[e]
     exact mig_s1b w F X g k B h ho hk hk2 s1 v1
    ·have e:migF B k=(true,migListen B k):=by simp[migF,s1,v1]
     rw[e]
     exact mig_s1a w F X g k B h ho hk hk2 s1 v1
   ·have e:migF B k=(false,B):=by simp[migF,s0,s1,s2]
    rw[e]
    exact mig_sx w F X g k B h ho hk hk2 (by simp;omega) (by simp;omega) (by simp;omega)
def el0(B:Br)(k:Nat):Bool:=!B.gb k 32 || (!B.gb k 2 && !B.gb k 4)
def el1(B:Br)(k:Nat):Bool:=(!B.gb k 2 && B.gb k 4) || ((B.gi k 6 == 0) && B.gb k 5 && B.gb k 45 && B.gb k 34)
def edgeOff(B:Br)(k:Nat):Br:=(B.setp k 32 (.bool false)).setp k 17 (.int .i64 1)
def edgeOn(B:Br)(k:Nat):Br:=(B.setp k 32 (.bool true)).setp k 17 (.int .i64 0)
def edgeF(B:Br)(k:Nat):Bool × Br :=
 if B.gi k 17=0 then if el0 B k=true then(true,edgeOff B k)else(false,B)
 else if B.gi k 17=1 then if el1 B k=true then(true,edgeOn B k)else(false,B)
 else(false,B)
theorem edge_leaves(p:List Value)(en ad au oe pr sr:Bool)(ed:Int)(w:World)(p2:p[2]?=some (.bool en))(p4:p[4]?=some (.bool ad))(p5:p[5]?=some (.bool au))(p6:p[6]?=some (.int .i64 ed))(p32:p[32]?=some (.bool oe))(p34:p[34]?=some (.bool pr))(p45:p[45]?=some (.bool sr)):
    Calls Tryz.prog 53 #[.agg p.toArray] w fun e w'=>e=.returned (.agg #[.bool (!oe || (!en && !ad)),.bool ((!en && ad) || ((ed == 0) && au && sr && pr))])∧Ext w w':=by
 obtain⟨z,hz⟩:∃z:Bool,(ed == 0)=z:=⟨_,rfl⟩
 rw[hz]
 obtain⟨x0,h0⟩:∃x,(!oe || (!en && !ad))=x:=⟨_,rfl⟩
 obtain⟨x1,h1⟩:∃x,((!en && ad) || (z && au && sr && pr))=x:=⟨_,rfl⟩
 rw[h0,h1]
 go_enter Tryz.func53,Tryz.ntmps53
 go_wp2_with fail
 all_goals
  refine bodyPost_ret (v:=.agg #[.bool x0,.bool x1]) ?_ rfl ⟨rfl,((Ext.refl w).alloc _).alloc _⟩
  subst h0
  subst h1
  clear hz
  simp[results,Tryz.results53,go_sem, *]
theorem edge_ix0(a b:Bool)(w:World):(Instr.index 106 (.agg #[.bool a,.bool b]) (.int .i64 0)).run Tryz.prog w=.ok (.bool a) w:=by kernel_rfl
theorem edge_ix1(a b:Bool)(w:World):(Instr.index 106 (.agg #[.bool a,.bool b]) (.int .i64 1)).run Tryz.prog w=.ok (.bool b) w:=by kernel_rfl
theorem edge_iy0(w:World):(Instr.index 108 (.agg #[.int .i64 1,.int .i64 0]) (.int .i64 0)).run Tryz.prog w=.ok (.int .i64 1) w:=by kernel_rfl
theorem edge_iy1(w:World):(Instr.index 108 (.agg #[.int .i64 1,.int .i64 0]) (.int .i64 1)).run Tryz.prog w=.ok (.int .i64 0) w:=by kernel_rfl
theorem edge_s0a(w:World)(F:Nat→Prop)(X g k:Nat)(B:Br)(h:BrG w F X g B)(ho:B.ok)(hk:k<B.np)(hk2:k<1000)(s0:B.gi k 17=0)(v:el0 B k=true):
    Calls Tryz.prog 39 #[.pointer (some ⟨X,0,none⟩),.int .i64 k] w (Stepped w F X g (true,edgeOff B k)):=by
 obtain⟨hX,hg,hne⟩:=h.lt
 obtain⟨cap,c17,hc1,hc2⟩:=h.cell17 ho
 have hpr:=hD (h.range hk)
 have hpt:=hD (port_typed ho hk)
 have r2:=hD ((port_at (B:=B) (k:=k) (j:=2) (by decide)).trans (ho.gb hk 2 rfl))
 have r4:=hD ((port_at (B:=B) (k:=k) (j:=4) (by decide)).trans (ho.gb hk 4 rfl))
 have r5:=hD ((port_at (B:=B) (k:=k) (j:=5) (by decide)).trans (ho.gb hk 5 rfl))
 have r6:=hD ((port_at (B:=B) (k:=k) (j:=6) (by decide)).trans (ho.gi hk 6 rfl))
 have r32:=hD ((port_at (B:=B) (k:=k) (j:=32) (by decide)).trans (ho.gb hk 32 rfl))
 have r34:=hD ((port_at (B:=B) (k:=k) (j:=34) (by decide)).trans (ho.gb hk 34 rfl))
 have r45:=hD ((port_at (B:=B) (k:=k) (j:=45) (by decide)).trans (ho.gb hk 45 rfl))
 have p17:=(h.cellg (i:=k*89+17) (lt89 hk (by decide))).trans (ho.gi hk 17 rfl)
 have p32:=(h.cellg (i:=k*89+32) (lt89 hk (by decide))).trans (ho.gb hk 32 rfl)
 have hf:=h.frozen
 have H:=hD h
 clear h
 rw[s0]at p17
 clear s0
 have V:=hD v
 clear v
 have hpz:=hD (show(Tryz.prog.info? 60).map (·.size)=some (port B.ps k).length by rw[hpt.out.1];exact size_port)
 go_enter Tryz.func39,Tryz.ntmps39
 go_wp2_with (first|fail|((with_reducible refine at_loadG 60 ?_);refine wpList_load_midG rfl 60 _ rfl g (k*89) rfl (port B.ps k) _ hpr.out Tryz.underlying60 rfl hpz.out ?_))
 refine(asv (v':=.agg #[.bool true,.bool (el1 B k)]) (edge_leaves (port B.ps k) _ _ _ _ _ _ _ w r2.out r4.out r5.out r6.out r32.out r34.out r45.out) (by rw[←V.out];rfl)).mono ?_
 rintro e w1 ⟨rfl,hx1⟩
 have i0:=edge_ix0
 have i1:=edge_ix1
 have j0:=edge_iy0
 have j1:=edge_iy1
 have q17:=(hx1.cell (p:=⟨g,k*89+17,none⟩) hg).trans p17
 have q32:=(hx1.cell (p:=⟨g,k*89+32,none⟩) hg).trans p32
 have hf1:∀j,w1.frozen? ⟨g,j,none⟩=false:=(H.out.ext hx1).frozen
 clear p17 p32 hf c17
 go_wp2_with fail
 go_ret
 exact⟨rfl,((H.out.ext hx1).setp (j:=32) hk (by decide) _).setp (j:=17) hk (by decide) _,((hx1.mut F).setCell (.inl H.out.F2) _).setCell (.inl H.out.F2) _⟩
theorem edge_s0b(w:World)(F:Nat→Prop)(X g k:Nat)(B:Br)(h:BrG w F X g B)(ho:B.ok)(hk:k<B.np)(hk2:k<1000)(s0:B.gi k 17=0)(v:el0 B k=false):
    Calls Tryz.prog 39 #[.pointer (some ⟨X,0,none⟩),.int .i64 k] w (Stepped w F X g (false,B)):=by
 obtain⟨hX,hg,hne⟩:=h.lt
 obtain⟨cap,c17,hc1,hc2⟩:=h.cell17 ho
 have hpr:=hD (h.range hk)
 have hpt:=hD (port_typed ho hk)
 have r2:=hD ((port_at (B:=B) (k:=k) (j:=2) (by decide)).trans (ho.gb hk 2 rfl))
 have r4:=hD ((port_at (B:=B) (k:=k) (j:=4) (by decide)).trans (ho.gb hk 4 rfl))
 have r5:=hD ((port_at (B:=B) (k:=k) (j:=5) (by decide)).trans (ho.gb hk 5 rfl))
 have r6:=hD ((port_at (B:=B) (k:=k) (j:=6) (by decide)).trans (ho.gi hk 6 rfl))
 have r32:=hD ((port_at (B:=B) (k:=k) (j:=32) (by decide)).trans (ho.gb hk 32 rfl))
 have r34:=hD ((port_at (B:=B) (k:=k) (j:=34) (by decide)).trans (ho.gb hk 34 rfl))
 have r45:=hD ((port_at (B:=B) (k:=k) (j:=45) (by decide)).trans (ho.gb hk 45 rfl))
 have p17:=(h.cellg (i:=k*89+17) (lt89 hk (by decide))).trans (ho.gi hk 17 rfl)
 have p32:=(h.cellg (i:=k*89+32) (lt89 hk (by decide))).trans (ho.gb hk 32 rfl)
 have hf:=h.frozen
 have H:=hD h
 clear h
 rw[s0]at p17
 clear s0
 have V:=hD v
 clear v
 have hpz:=hD (show(Tryz.prog.info? 60).map (·.size)=some (port B.ps k).length by rw[hpt.out.1];exact size_port)
 go_enter Tryz.func39,Tryz.ntmps39
 go_wp2_with (first|fail|((with_reducible refine at_loadG 60 ?_);refine wpList_load_midG rfl 60 _ rfl g (k*89) rfl (port B.ps k) _ hpr.out Tryz.underlying60 rfl hpz.out ?_))
 refine(asv (v':=.agg #[.bool false,.bool (el1 B k)]) (edge_leaves (port B.ps k) _ _ _ _ _ _ _ w r2.out r4.out r5.out r6.out r32.out r34.out r45.out) (by rw[←V.out];rfl)).mono ?_
 rintro e w1 ⟨rfl,hx1⟩
 have i0:=edge_ix0
 have i1:=edge_ix1
 have j0:=edge_iy0
 have j1:=edge_iy1
 have q17:=(hx1.cell (p:=⟨g,k*89+17,none⟩) hg).trans p17
 have q32:=(hx1.cell (p:=⟨g,k*89+32,none⟩) hg).trans p32
 have hf1:∀j,w1.frozen? ⟨g,j,none⟩=false:=(H.out.ext hx1).frozen
 clear p17 p32 hf c17
 go_wp2_with fail
 go_ret
 exact⟨rfl,H.out.ext hx1,hx1.mut F⟩
theorem edge_s1a(w:World)(F:Nat→Prop)(X g k:Nat)(B:Br)(h:BrG w F X g B)(ho:B.ok)(hk:k<B.np)(hk2:k<1000)(s0:B.gi k 17=1)(v:el1 B k=true):
    Calls Tryz.prog 39 #[.pointer (some ⟨X,0,none⟩),.int .i64 k] w (Stepped w F X g (true,edgeOn B k)):=by
 obtain⟨hX,hg,hne⟩:=h.lt
 obtain⟨cap,c17,hc1,hc2⟩:=h.cell17 ho
 have hpr:=hD (h.range hk)
 have hpt:=hD (port_typed ho hk)
 have r2:=hD ((port_at (B:=B) (k:=k) (j:=2) (by decide)).trans (ho.gb hk 2 rfl))
 have r4:=hD ((port_at (B:=B) (k:=k) (j:=4) (by decide)).trans (ho.gb hk 4 rfl))
 have r5:=hD ((port_at (B:=B) (k:=k) (j:=5) (by decide)).trans (ho.gb hk 5 rfl))
 have r6:=hD ((port_at (B:=B) (k:=k) (j:=6) (by decide)).trans (ho.gi hk 6 rfl))
 have r32:=hD ((port_at (B:=B) (k:=k) (j:=32) (by decide)).trans (ho.gb hk 32 rfl))
 have r34:=hD ((port_at (B:=B) (k:=k) (j:=34) (by decide)).trans (ho.gb hk 34 rfl))
 have r45:=hD ((port_at (B:=B) (k:=k) (j:=45) (by decide)).trans (ho.gb hk 45 rfl))
 have p17:=(h.cellg (i:=k*89+17) (lt89 hk (by decide))).trans (ho.gi hk 17 rfl)
 have p32:=(h.cellg (i:=k*89+32) (lt89 hk (by decide))).trans (ho.gb hk 32 rfl)
 have hf:=h.frozen
 have H:=hD h
 clear h
 rw[s0]at p17
 clear s0
 have V:=hD v
 clear v
 have hpz:=hD (show(Tryz.prog.info? 60).map (·.size)=some (port B.ps k).length by rw[hpt.out.1];exact size_port)
 go_enter Tryz.func39,Tryz.ntmps39
 go_wp2_with (first|fail|((with_reducible refine at_loadG 60 ?_);refine wpList_load_midG rfl 60 _ rfl g (k*89) rfl (port B.ps k) _ hpr.out Tryz.underlying60 rfl hpz.out ?_))
 refine(asv (v':=.agg #[.bool (el0 B k),.bool true]) (edge_leaves (port B.ps k) _ _ _ _ _ _ _ w r2.out r4.out r5.out r6.out r32.out r34.out r45.out) (by rw[←V.out];rfl)).mono ?_
 rintro e w1 ⟨rfl,hx1⟩
 have i0:=edge_ix0
 have i1:=edge_ix1
 have j0:=edge_iy0
 have j1:=edge_iy1
 have q17:=(hx1.cell (p:=⟨g,k*89+17,none⟩) hg).trans p17
 have q32:=(hx1.cell (p:=⟨g,k*89+32,none⟩) hg).trans p32
 have hf1:∀j,w1.frozen? ⟨g,j,none⟩=false:=(H.out.ext hx1).frozen
 clear p17 p32 hf c17
 go_wp2_with fail
 go_ret
 exact⟨rfl,((H.out.ext hx1).setp (j:=32) hk (by decide) _).setp (j:=17) hk (by decide) _,((hx1.mut F).setCell (.inl H.out.F2) _).setCell (.inl H.out.F2) _⟩
theorem edge_s1b(w:World)(F:Nat→Prop)(X g k:Nat)(B:Br)(h:BrG w F X g B)(ho:B.ok)(hk:k<B.np)(hk2:k<1000)(s0:B.gi k 17=1)(v:el1 B k=false):
    Calls Tryz.prog 39 #[.pointer (some ⟨X,0,none⟩),.int .i64 k] w (Stepped w F X g (false,B)):=by
 obtain⟨hX,hg,hne⟩:=h.lt
 obtain⟨cap,c17,hc1,hc2⟩:=h.cell17 ho
 have hpr:=hD (h.range hk)
 have hpt:=hD (port_typed ho hk)
 have r2:=hD ((port_at (B:=B) (k:=k) (j:=2) (by decide)).trans (ho.gb hk 2 rfl))
 have r4:=hD ((port_at (B:=B) (k:=k) (j:=4) (by decide)).trans (ho.gb hk 4 rfl))
 have r5:=hD ((port_at (B:=B) (k:=k) (j:=5) (by decide)).trans (ho.gb hk 5 rfl))
 have r6:=hD ((port_at (B:=B) (k:=k) (j:=6) (by decide)).trans (ho.gi hk 6 rfl))
 have r32:=hD ((port_at (B:=B) (k:=k) (j:=32) (by decide)).trans (ho.gb hk 32 rfl))
 have r34:=hD ((port_at (B:=B) (k:=k) (j:=34) (by decide)).trans (ho.gb hk 34 rfl))
 have r45:=hD ((port_at (B:=B) (k:=k) (j:=45) (by decide)).trans (ho.gb hk 45 rfl))
 have p17:=(h.cellg (i:=k*89+17) (lt89 hk (by decide))).trans (ho.gi hk 17 rfl)
 have p32:=(h.cellg (i:=k*89+32) (lt89 hk (by decide))).trans (ho.gb hk 32 rfl)
 have hf:=h.frozen
 have H:=hD h
 clear h
 rw[s0]at p17
 clear s0
 have V:=hD v
 clear v
 have hpz:=hD (show(Tryz.prog.info? 60).map (·.size)=some (port B.ps k).length by rw[hpt.out.1];exact size_port)
 go_enter Tryz.func39,Tryz.ntmps39
 go_wp2_with (first|fail|((with_reducible refine at_loadG 60 ?_);refine wpList_load_midG rfl 60 _ rfl g (k*89) rfl (port B.ps k) _ hpr.out Tryz.underlying60 rfl hpz.out ?_))
 refine(asv (v':=.agg #[.bool (el0 B k),.bool false]) (edge_leaves (port B.ps k) _ _ _ _ _ _ _ w r2.out r4.out r5.out r6.out r32.out r34.out r45.out) (by rw[←V.out];rfl)).mono ?_
 rintro e w1 ⟨rfl,hx1⟩
 have i0:=edge_ix0
 have i1:=edge_ix1
 have j0:=edge_iy0
 have j1:=edge_iy1
 have q17:=(hx1.cell (p:=⟨g,k*89+17,none⟩) hg).trans p17
 have q32:=(hx1.cell (p:=⟨g,k*89+32,none⟩) hg).trans p32
 have hf1:∀j,w1.frozen? ⟨g,j,none⟩=false:=(H.out.ext hx1).frozen
 clear p17 p32 hf c17
 go_wp2_with fail
 go_ret
 exact⟨rfl,H.out.ext hx1,hx1.mut F⟩
theorem edge_slo(w:World)(F:Nat→Prop)(X g k:Nat)(B:Br)(h:BrG w F X g B)(ho:B.ok)(hk:k<B.np)(hk2:k<1000)(s0:B.gi k 17<0):
    Calls Tryz.prog 39 #[.pointer (some ⟨X,0,none⟩),.int .i64 k] w (Stepped w F X g (false,B)):=by
 obtain⟨hX,hg,hne⟩:=h.lt
 obtain⟨cap,c17,hc1,hc2⟩:=h.cell17 ho
 have hpr:=hD (h.range hk)
 have hpt:=hD (port_typed ho hk)
 have r2:=hD ((port_at (B:=B) (k:=k) (j:=2) (by decide)).trans (ho.gb hk 2 rfl))
 have r4:=hD ((port_at (B:=B) (k:=k) (j:=4) (by decide)).trans (ho.gb hk 4 rfl))
 have r5:=hD ((port_at (B:=B) (k:=k) (j:=5) (by decide)).trans (ho.gb hk 5 rfl))
 have r6:=hD ((port_at (B:=B) (k:=k) (j:=6) (by decide)).trans (ho.gi hk 6 rfl))
 have r32:=hD ((port_at (B:=B) (k:=k) (j:=32) (by decide)).trans (ho.gb hk 32 rfl))
 have r34:=hD ((port_at (B:=B) (k:=k) (j:=34) (by decide)).trans (ho.gb hk 34 rfl))
 have r45:=hD ((port_at (B:=B) (k:=k) (j:=45) (by decide)).trans (ho.gb hk 45 rfl))
 have p17:=(h.cellg (i:=k*89+17) (lt89 hk (by decide))).trans (ho.gi hk 17 rfl)
 have p32:=(h.cellg (i:=k*89+32) (lt89 hk (by decide))).trans (ho.gb hk 32 rfl)
 have hf:=h.frozen
 have H:=hD h
 clear h
 have hpz:=hD (show(Tryz.prog.info? 60).map (·.size)=some (port B.ps k).length by rw[hpt.out.1];exact size_port)
 go_enter Tryz.func39,Tryz.ntmps39
 go_wp2_with fail
 go_ret
 exact⟨rfl,H.out,Mut.refl F w⟩
theorem edge_shi(w:World)(F:Nat→Prop)(X g k:Nat)(B:Br)(h:BrG w F X g B)(ho:B.ok)(hk:k<B.np)(hk2:k<1000)(s0:1<B.gi k 17):
    Calls Tryz.prog 39 #[.pointer (some ⟨X,0,none⟩),.int .i64 k] w (Stepped w F X g (false,B)):=by
 obtain⟨hX,hg,hne⟩:=h.lt
 obtain⟨cap,c17,hc1,hc2⟩:=h.cell17 ho
 have hpr:=hD (h.range hk)
 have hpt:=hD (port_typed ho hk)
 have r2:=hD ((port_at (B:=B) (k:=k) (j:=2) (by decide)).trans (ho.gb hk 2 rfl))
 have r4:=hD ((port_at (B:=B) (k:=k) (j:=4) (by decide)).trans (ho.gb hk 4 rfl))
 have r5:=hD ((port_at (B:=B) (k:=k) (j:=5) (by decide)).trans (ho.gb hk 5 rfl))
 have r6:=hD ((port_at (B:=B) (k:=k) (j:=6) (by decide)).trans (ho.gi hk 6 rfl))
 have r32:=hD ((port_at (B:=B) (k:=k) (j:=32) (by decide)).trans (ho.gb hk 32 rfl))
 have r34:=hD ((port_at (B:=B) (k:=k) (j:=34) (by decide)).trans (ho.gb hk 34 rfl))
 have r45:=hD ((port_at (B:=B) (k:=k) (j:=45) (by decide)).trans (ho.gb hk 45 rfl))
 have p17:=(h.cellg (i:=k*89+17) (lt89 hk (by decide))).trans (ho.gi hk 17 rfl)
 have p32:=(h.cellg (i:=k*89+32) (lt89 hk (by decide))).trans (ho.gb hk 32 rfl)
 have hf:=h.frozen
 have H:=hD h
 clear h
 have hpz:=hD (show(Tryz.prog.info? 60).map (·.size)=some (port B.ps k).length by rw[hpt.out.1];exact size_port)
 go_enter Tryz.func39,Tryz.ntmps39
 go_wp2_with fail
 go_ret
 exact⟨rfl,H.out,Mut.refl F w⟩
theorem edge_step(w:World)(F:Nat→Prop)(X g k:Nat)(B:Br)(h:BrG w F X g B)(ho:B.ok)(hk:k<B.np)(hk2:k<1000):
    Calls Tryz.prog 39 #[.pointer (some ⟨X,0,none⟩),.int .i64 k] w (Stepped w F X g (edgeF B k)):=by
 by_cases s0:B.gi k 17=0
 ·cases v:el0 B k
  ·have e:edgeF B k=(false,B):=by simp[edgeF,s0,v]
   rw[e]
   exact edge_s0b w F X g k B h ho hk hk2 s0 v
  ·have e:edgeF B k=(true,edgeOff B k):=by simp[edgeF,s0,v]
   rw[e]
   exact edge_s0a w F X g k B h ho hk hk2 s0 v
 ·by_cases s1:B.gi k 17=1
  ·cases v:el1 B k
   ·have e:edgeF B k=(false,B):=by simp[edgeF,s1,v]
    rw[e]
    exact edge_s1b w F X g k B h ho hk hk2 s1 v
   ·have e:edgeF B k=(true,edgeOn B k):=by simp[edgeF,s1,v]
    rw[e]
    exact edge_s1a w F X g k B h ho hk hk2 s1 v
  ·have e:edgeF B k=(false,B):=by simp[edgeF,s0,s1]
   rw[e]
   by_cases s2:B.gi k 17<0
   ·exact edge_slo w F X g k B h ho hk hk2 s2
   ·exact edge_shi w F X g k B h ho hk hk2 (by omega)
end Go.Proofs.YtpanapepcbbagaaGreat
