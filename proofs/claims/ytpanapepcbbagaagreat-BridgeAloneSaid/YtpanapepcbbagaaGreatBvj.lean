/- Part 10 of what BridgeRests stands on. No statement is proved here. -/
import Derived.Test.YtpanapepcbbagaaGreatBvi
set_option linter.unusedVariables false
set_option linter.unusedSimpArgs false
set_option maxRecDepth 100000
set_option maxHeartbeats 8000000
namespace Go.Proofs.YtpanapepcbbagaaGreat
open Go.RowKit Go.BigFrame Go.WideShapes Go.ChangeShapes Go.Deep
theorem aDO(w:World)(F:Nat→Prop)(X g k:Nat)(B:Br)(h:BrG w F X g B)(ho:B.ok)(hk:k<B.np)(hk2:k<1000)(s0:B.gi k 17=0)(v:el0 B k=true):
    Calls Tryz.prog 39 #[.pointer (some ⟨X,0,none⟩),.int .i64 k] w (aN w F X g (true,iM B k)):=by
 obtain⟨hX,hg,hne⟩:=h.lt
 obtain⟨cap,c17,hc1,hc2⟩:=h.cell17 ho
 have hpr:=hD (h.range hk)
 have hpt:=hD (gR ho hk)
 have r2:=hD ((aI (B:=B) (k:=k) (j:=2) (by decide)).trans (ho.gb hk 2 rfl))
 have r4:=hD ((aI (B:=B) (k:=k) (j:=4) (by decide)).trans (ho.gb hk 4 rfl))
 have r5:=hD ((aI (B:=B) (k:=k) (j:=5) (by decide)).trans (ho.gb hk 5 rfl))
 have r6:=hD ((aI (B:=B) (k:=k) (j:=6) (by decide)).trans (ho.gi hk 6 rfl))
 have r32:=hD ((aI (B:=B) (k:=k) (j:=32) (by decide)).trans (ho.gb hk 32 rfl))
 have r34:=hD ((aI (B:=B) (k:=k) (j:=34) (by decide)).trans (ho.gb hk 34 rfl))
 have r45:=hD ((aI (B:=B) (k:=k) (j:=45) (by decide)).trans (ho.gb hk 45 rfl))
 have p17:=qi h ho hk 17 rfl
 have p32:=qb h ho hk 32
 have hf:=h.frozen
 have H:=hD h
 clear h
 rw[s0]at p17
 clear s0
 have V:=hD v
 clear v
 have hpz:=hD (show(Tryz.prog.info? 60).map (·.size)=some (a9 B.ps k).length by rw[hpt.out.1];exact gQ)
 go_enter Tryz.func39,Tryz.ntmps39
 go_wp2_with (first|fail|((with_reducible refine aW 60 ?_);refine aU rfl 60 _ rfl g (k*89) rfl (a9 B.ps k) _ hpr.out Tryz.underlying60 rfl hpz.out ?_))
 refine(qG (v':=.agg #[.bool true,.bool (el1 B k)]) (jD (a9 B.ps k) _ _ _ _ _ _ _ w r2.out r4.out r5.out r6.out r32.out r34.out r45.out) (by rw[←V.out];rfl)).mono ?_
 rintro e w1 ⟨rfl,hx1⟩
 have i0:=mC
 have i1:=mD
 have j0:=mE
 have j1:=mF
 have q17:=xc hx1 hg p17
 have q32:=xc hx1 hg p32
 have hf1:∀j,w1.frozen? ⟨g,j,none⟩=false:=(H.out.ext hx1).frozen
 clear p17 p32 hf c17
 go_wp2_with fail
 go_ret
 exact⟨rfl,((H.out.ext hx1).setp (j:=32) hk (by decide) _).setp (j:=17) hk (by decide) _,((hx1.mut F).setCell (.inl H.out.F2) _).setCell (.inl H.out.F2) _⟩
theorem aDP(w:World)(F:Nat→Prop)(X g k:Nat)(B:Br)(h:BrG w F X g B)(ho:B.ok)(hk:k<B.np)(hk2:k<1000)(s0:B.gi k 17=0)(v:el0 B k=false):
    Calls Tryz.prog 39 #[.pointer (some ⟨X,0,none⟩),.int .i64 k] w (aN w F X g (false,B)):=by
 obtain⟨hX,hg,hne⟩:=h.lt
 obtain⟨cap,c17,hc1,hc2⟩:=h.cell17 ho
 have hpr:=hD (h.range hk)
 have hpt:=hD (gR ho hk)
 have r2:=hD ((aI (B:=B) (k:=k) (j:=2) (by decide)).trans (ho.gb hk 2 rfl))
 have r4:=hD ((aI (B:=B) (k:=k) (j:=4) (by decide)).trans (ho.gb hk 4 rfl))
 have r5:=hD ((aI (B:=B) (k:=k) (j:=5) (by decide)).trans (ho.gb hk 5 rfl))
 have r6:=hD ((aI (B:=B) (k:=k) (j:=6) (by decide)).trans (ho.gi hk 6 rfl))
 have r32:=hD ((aI (B:=B) (k:=k) (j:=32) (by decide)).trans (ho.gb hk 32 rfl))
 have r34:=hD ((aI (B:=B) (k:=k) (j:=34) (by decide)).trans (ho.gb hk 34 rfl))
 have r45:=hD ((aI (B:=B) (k:=k) (j:=45) (by decide)).trans (ho.gb hk 45 rfl))
 have p17:=qi h ho hk 17 rfl
 have p32:=qb h ho hk 32
 have hf:=h.frozen
 have H:=hD h
 clear h
 rw[s0]at p17
 clear s0
 have V:=hD v
 clear v
 have hpz:=hD (show(Tryz.prog.info? 60).map (·.size)=some (a9 B.ps k).length by rw[hpt.out.1];exact gQ)
 go_enter Tryz.func39,Tryz.ntmps39
 go_wp2_with (first|fail|((with_reducible refine aW 60 ?_);refine aU rfl 60 _ rfl g (k*89) rfl (a9 B.ps k) _ hpr.out Tryz.underlying60 rfl hpz.out ?_))
 refine(qG (v':=.agg #[.bool false,.bool (el1 B k)]) (jD (a9 B.ps k) _ _ _ _ _ _ _ w r2.out r4.out r5.out r6.out r32.out r34.out r45.out) (by rw[←V.out];rfl)).mono ?_
 rintro e w1 ⟨rfl,hx1⟩
 have i0:=mC
 have i1:=mD
 have j0:=mE
 have j1:=mF
 have q17:=xc hx1 hg p17
 have q32:=xc hx1 hg p32
 have hf1:∀j,w1.frozen? ⟨g,j,none⟩=false:=(H.out.ext hx1).frozen
 clear p17 p32 hf c17
 go_wp2_with fail
 go_ret
 exact⟨rfl,H.out.ext hx1,hx1.mut F⟩
theorem aDQ(w:World)(F:Nat→Prop)(X g k:Nat)(B:Br)(h:BrG w F X g B)(ho:B.ok)(hk:k<B.np)(hk2:k<1000)(s0:B.gi k 17=1)(v:el1 B k=true):
    Calls Tryz.prog 39 #[.pointer (some ⟨X,0,none⟩),.int .i64 k] w (aN w F X g (true,j6 B k)):=by
 obtain⟨hX,hg,hne⟩:=h.lt
 obtain⟨cap,c17,hc1,hc2⟩:=h.cell17 ho
 have hpr:=hD (h.range hk)
 have hpt:=hD (gR ho hk)
 have r2:=hD ((aI (B:=B) (k:=k) (j:=2) (by decide)).trans (ho.gb hk 2 rfl))
 have r4:=hD ((aI (B:=B) (k:=k) (j:=4) (by decide)).trans (ho.gb hk 4 rfl))
 have r5:=hD ((aI (B:=B) (k:=k) (j:=5) (by decide)).trans (ho.gb hk 5 rfl))
 have r6:=hD ((aI (B:=B) (k:=k) (j:=6) (by decide)).trans (ho.gi hk 6 rfl))
 have r32:=hD ((aI (B:=B) (k:=k) (j:=32) (by decide)).trans (ho.gb hk 32 rfl))
 have r34:=hD ((aI (B:=B) (k:=k) (j:=34) (by decide)).trans (ho.gb hk 34 rfl))
 have r45:=hD ((aI (B:=B) (k:=k) (j:=45) (by decide)).trans (ho.gb hk 45 rfl))
 have p17:=qi h ho hk 17 rfl
 have p32:=qb h ho hk 32
 have hf:=h.frozen
 have H:=hD h
 clear h
 rw[s0]at p17
 clear s0
 have V:=hD v
 clear v
 have hpz:=hD (show(Tryz.prog.info? 60).map (·.size)=some (a9 B.ps k).length by rw[hpt.out.1];exact gQ)
 go_enter Tryz.func39,Tryz.ntmps39
 go_wp2_with (first|fail|((with_reducible refine aW 60 ?_);refine aU rfl 60 _ rfl g (k*89) rfl (a9 B.ps k) _ hpr.out Tryz.underlying60 rfl hpz.out ?_))
 refine(qG (v':=.agg #[.bool (el0 B k),.bool true]) (jD (a9 B.ps k) _ _ _ _ _ _ _ w r2.out r4.out r5.out r6.out r32.out r34.out r45.out) (by rw[←V.out];rfl)).mono ?_
 rintro e w1 ⟨rfl,hx1⟩
 have i0:=mC
 have i1:=mD
 have j0:=mE
 have j1:=mF
 have q17:=xc hx1 hg p17
 have q32:=xc hx1 hg p32
 have hf1:∀j,w1.frozen? ⟨g,j,none⟩=false:=(H.out.ext hx1).frozen
 clear p17 p32 hf c17
 go_wp2_with fail
 go_ret
 exact⟨rfl,((H.out.ext hx1).setp (j:=32) hk (by decide) _).setp (j:=17) hk (by decide) _,((hx1.mut F).setCell (.inl H.out.F2) _).setCell (.inl H.out.F2) _⟩
theorem aDR(w:World)(F:Nat→Prop)(X g k:Nat)(B:Br)(h:BrG w F X g B)(ho:B.ok)(hk:k<B.np)(hk2:k<1000)(s0:B.gi k 17=1)(v:el1 B k=false):
    Calls Tryz.prog 39 #[.pointer (some ⟨X,0,none⟩),.int .i64 k] w (aN w F X g (false,B)):=by
 obtain⟨hX,hg,hne⟩:=h.lt
 obtain⟨cap,c17,hc1,hc2⟩:=h.cell17 ho
 have hpr:=hD (h.range hk)
 have hpt:=hD (gR ho hk)
 have r2:=hD ((aI (B:=B) (k:=k) (j:=2) (by decide)).trans (ho.gb hk 2 rfl))
 have r4:=hD ((aI (B:=B) (k:=k) (j:=4) (by decide)).trans (ho.gb hk 4 rfl))
 have r5:=hD ((aI (B:=B) (k:=k) (j:=5) (by decide)).trans (ho.gb hk 5 rfl))
 have r6:=hD ((aI (B:=B) (k:=k) (j:=6) (by decide)).trans (ho.gi hk 6 rfl))
 have r32:=hD ((aI (B:=B) (k:=k) (j:=32) (by decide)).trans (ho.gb hk 32 rfl))
 have r34:=hD ((aI (B:=B) (k:=k) (j:=34) (by decide)).trans (ho.gb hk 34 rfl))
 have r45:=hD ((aI (B:=B) (k:=k) (j:=45) (by decide)).trans (ho.gb hk 45 rfl))
 have p17:=qi h ho hk 17 rfl
 have p32:=qb h ho hk 32
 have hf:=h.frozen
 have H:=hD h
 clear h
 rw[s0]at p17
 clear s0
 have V:=hD v
 clear v
 have hpz:=hD (show(Tryz.prog.info? 60).map (·.size)=some (a9 B.ps k).length by rw[hpt.out.1];exact gQ)
 go_enter Tryz.func39,Tryz.ntmps39
 go_wp2_with (first|fail|((with_reducible refine aW 60 ?_);refine aU rfl 60 _ rfl g (k*89) rfl (a9 B.ps k) _ hpr.out Tryz.underlying60 rfl hpz.out ?_))
 refine(qG (v':=.agg #[.bool (el0 B k),.bool false]) (jD (a9 B.ps k) _ _ _ _ _ _ _ w r2.out r4.out r5.out r6.out r32.out r34.out r45.out) (by rw[←V.out];rfl)).mono ?_
 rintro e w1 ⟨rfl,hx1⟩
 have i0:=mC
 have i1:=mD
 have j0:=mE
 have j1:=mF
 have q17:=xc hx1 hg p17
 have q32:=xc hx1 hg p32
 have hf1:∀j,w1.frozen? ⟨g,j,none⟩=false:=(H.out.ext hx1).frozen
 clear p17 p32 hf c17
 go_wp2_with fail
 go_ret
 exact⟨rfl,H.out.ext hx1,hx1.mut F⟩
theorem aDS(w:World)(F:Nat→Prop)(X g k:Nat)(B:Br)(h:BrG w F X g B)(ho:B.ok)(hk:k<B.np)(hk2:k<1000)(s0:B.gi k 17<0):
    Calls Tryz.prog 39 #[.pointer (some ⟨X,0,none⟩),.int .i64 k] w (aN w F X g (false,B)):=by
 obtain⟨hX,hg,hne⟩:=h.lt
 obtain⟨cap,c17,hc1,hc2⟩:=h.cell17 ho
 have hpr:=hD (h.range hk)
 have hpt:=hD (gR ho hk)
 have r2:=hD ((aI (B:=B) (k:=k) (j:=2) (by decide)).trans (ho.gb hk 2 rfl))
 have r4:=hD ((aI (B:=B) (k:=k) (j:=4) (by decide)).trans (ho.gb hk 4 rfl))
 have r5:=hD ((aI (B:=B) (k:=k) (j:=5) (by decide)).trans (ho.gb hk 5 rfl))
 have r6:=hD ((aI (B:=B) (k:=k) (j:=6) (by decide)).trans (ho.gi hk 6 rfl))
 have r32:=hD ((aI (B:=B) (k:=k) (j:=32) (by decide)).trans (ho.gb hk 32 rfl))
 have r34:=hD ((aI (B:=B) (k:=k) (j:=34) (by decide)).trans (ho.gb hk 34 rfl))
 have r45:=hD ((aI (B:=B) (k:=k) (j:=45) (by decide)).trans (ho.gb hk 45 rfl))
 have p17:=qi h ho hk 17 rfl
 have p32:=qb h ho hk 32
 have hf:=h.frozen
 have H:=hD h
 clear h
 have hpz:=hD (show(Tryz.prog.info? 60).map (·.size)=some (a9 B.ps k).length by rw[hpt.out.1];exact gQ)
 go_enter Tryz.func39,Tryz.ntmps39
 go_wp2_with fail
 go_ret
 exact⟨rfl,H.out,Mut.refl F w⟩
theorem aDT(w:World)(F:Nat→Prop)(X g k:Nat)(B:Br)(h:BrG w F X g B)(ho:B.ok)(hk:k<B.np)(hk2:k<1000)(s0:1<B.gi k 17):
    Calls Tryz.prog 39 #[.pointer (some ⟨X,0,none⟩),.int .i64 k] w (aN w F X g (false,B)):=by
 obtain⟨hX,hg,hne⟩:=h.lt
 obtain⟨cap,c17,hc1,hc2⟩:=h.cell17 ho
 have hpr:=hD (h.range hk)
 have hpt:=hD (gR ho hk)
 have r2:=hD ((aI (B:=B) (k:=k) (j:=2) (by decide)).trans (ho.gb hk 2 rfl))
 have r4:=hD ((aI (B:=B) (k:=k) (j:=4) (by decide)).trans (ho.gb hk 4 rfl))
 have r5:=hD ((aI (B:=B) (k:=k) (j:=5) (by decide)).trans (ho.gb hk 5 rfl))
 have r6:=hD ((aI (B:=B) (k:=k) (j:=6) (by decide)).trans (ho.gi hk 6 rfl))
 have r32:=hD ((aI (B:=B) (k:=k) (j:=32) (by decide)).trans (ho.gb hk 32 rfl))
 have r34:=hD ((aI (B:=B) (k:=k) (j:=34) (by decide)).trans (ho.gb hk 34 rfl))
 have r45:=hD ((aI (B:=B) (k:=k) (j:=45) (by decide)).trans (ho.gb hk 45 rfl))
 have p17:=qi h ho hk 17 rfl
 have p32:=qb h ho hk 32
 have hf:=h.frozen
 have H:=hD h
 clear h
 have hpz:=hD (show(Tryz.prog.info? 60).map (·.size)=some (a9 B.ps k).length by rw[hpt.out.1];exact gQ)
 go_enter Tryz.func39,Tryz.ntmps39
 go_wp2_with fail
 go_ret
 exact⟨rfl,H.out,Mut.refl F w⟩
theorem aA9(w:World)(F:Nat→Prop)(X g k:Nat)(B:Br)(h:BrG w F X g B)(ho:B.ok)(hk:k<B.np)(hk2:k<1000):
    Calls Tryz.prog 39 #[.pointer (some ⟨X,0,none⟩),.int .i64 k] w (aN w F X g (fM B k)):=by
 by_cases s0:B.gi k 17=0
 ·cases v:el0 B k
  ·have e:fM B k=(false,B):=by simp[fM,s0,v]
   rw[e]
   exact aDP w F X g k B h ho hk hk2 s0 v
  ·have e:fM B k=(true,iM B k):=by simp[fM,s0,v]
   rw[e]
   exact aDO w F X g k B h ho hk hk2 s0 v
 ·by_cases s1:B.gi k 17=1
  ·cases v:el1 B k
   ·have e:fM B k=(false,B):=by simp[fM,s1,v]
    rw[e]
    exact aDR w F X g k B h ho hk hk2 s1 v
   ·have e:fM B k=(true,j6 B k):=by simp[fM,s1,v]
    rw[e]
    exact aDQ w F X g k B h ho hk hk2 s1 v
  ·have e:fM B k=(false,B):=by simp[fM,s0,s1]
   rw[e]
   by_cases s2:B.gi k 17<0
   ·exact aDS w F X g k B h ho hk hk2 s2
   ·exact aDT w F X g k B h ho hk hk2 (by omega)
def MZ:Array Value:=(ML.map zc).toArray
theorem mG:∀w,(zeroValue 46).run Tryz.prog w=.ok (.agg MZ) w:=(zero_of_info (P:=Tryz.prog) (t:=46) (v:=.agg MZ) (n:=17) (by kernel_rfl)).1
def iY(kd ro c:Int)(tl te:Bool):Int :=
 if lO kd ro=true then(if((c == 0) && te)=true then 1 else if(decide (c<0) || tl)=true then 0 else 2)else if(aDA kd ro && !(decide (c<0)))=true then 3 else 4
theorem lQ(r c b p x r' c' b' p' x':Int)(w:World):Calls Tryz.prog 139 #[.agg #[.int .u64 r,.int .u32 c,.int .u64 b,.int .u16 p,.int .u16 x],.agg #[.int .u64 r',.int .u32 c',.int .u64 b',.int .u16 p',.int .u16 x']] w fun e w'=>e=.returned (.bool (decide (c4 r c b p r' c' b' p'<0)))∧Ext w w':=by
 have h5:decide (c5 r c b p 0 r' c' b' p' 0<0)=decide (c4 r c b p r' c' b' p'<0):=by
  rw[aIB]
  split
  ·rename_i h;rw[h];decide
  ·rfl
 have H5:=hD h5
 clear h5
 go_enter Tryz.func139,Tryz.ntmps139
 go_wp2_with (first
  | fail
  | ((with_reducible refine bP 30 ?_);refine bQ rfl 30 _ rfl #[.int .u64 r,.int .u32 c,.int .u64 b,.int .u16 p,.int .u16 x] rfl ?_
     intro A0 z1 hq hs hx
     have E_z1:Ext w z1:=hx
     have hA_z1:z1.heap[A0]?=some (.cells #[.int .u64 r,.int .u32 c,.int .u64 b,.int .u16 p,.int .u16 x] 30 (0,0)):=hq
     have hb_A0:w.heap.size≤A0:=by omega
     clear hq hs hx)
  | ((with_reducible refine bP 30 ?_);refine bQ rfl 30 _ rfl #[.int .u64 r',.int .u32 c',.int .u64 b',.int .u16 p',.int .u16 x'] rfl ?_
     intro B0 z2 hq hs hx
     have E_z2:Ext w z2:=E_z1.trans hx
     have hA_z2:z2.heap[A0]?=some (.cells #[.int .u64 r,.int .u32 c,.int .u64 b,.int .u16 p,.int .u16 x] 30 (0,0)):=(hx.block _ (aC hA_z1)).trans hA_z1
     have hB_z2:z2.heap[B0]?=some (.cells #[.int .u64 r',.int .u32 c',.int .u64 b',.int .u16 p',.int .u16 x'] 30 (0,0)):=hq
     have hb_B0:w.heap.size≤B0:=by have:=E_z1.size;omega
     have hn_A0B0:A0≠B0:=by have:=aC hA_z1;omega
     clear hA_z1 E_z1
     clear hq hs hx)
  | ((with_reducible refine aD 28 ?_);refine dS rfl rfl 28 _ _ rfl A0 4 _ #[.int .u16 0] _ #[.int .u64 r,.int .u32 c,.int .u64 b,.int .u16 p,.int .u16 0] _ rfl rfl rfl hA_z2 (by exact(by decide:4+1≤5)) (by kernel_rfl) rfl rfl ?_
     intro z3 hq hm
     have hA_z3:z3.heap[A0]?=some (.cells #[.int .u64 r,.int .u32 c,.int .u64 b,.int .u16 p,.int .u16 0] 30 (0,0)):=hq
     have hB_z3:z3.heap[B0]?=some (.cells #[.int .u64 r',.int .u32 c',.int .u64 b',.int .u16 p',.int .u16 x'] 30 (0,0)):=(hm.heap (aC hB_z2) (show ¬B0=A0 by omega)).trans hB_z2
     have E_z3:Ext w z3:=Ext.mutE E_z2 hm (fun n hn h=>by have h2:n=A0:=h;omega)
     clear hA_z2 hB_z2 E_z2
     clear hq hm)
  | ((with_reducible refine aD 28 ?_);refine dS rfl rfl 28 _ _ rfl B0 4 _ #[.int .u16 0] _ #[.int .u64 r',.int .u32 c',.int .u64 b',.int .u16 p',.int .u16 0] _ rfl rfl rfl hB_z3 (by exact(by decide:4+1≤5)) (by kernel_rfl) rfl rfl ?_
     intro z4 hq hm
     have hB_z4:z4.heap[B0]?=some (.cells #[.int .u64 r',.int .u32 c',.int .u64 b',.int .u16 p',.int .u16 0] 30 (0,0)):=hq
     have hA_z4:z4.heap[A0]?=some (.cells #[.int .u64 r,.int .u32 c,.int .u64 b,.int .u16 p,.int .u16 0] 30 (0,0)):=(hm.heap (aC hA_z3) (show ¬A0=B0 by omega)).trans hA_z3
     have E_z4:Ext w z4:=Ext.mutE E_z3 hm (fun n hn h=>by have h2:n=B0:=h;omega)
     clear hA_z3 hB_z3 E_z3
     clear hq hm)
  | ((with_reducible refine aG 30 ?_);refine wpList_load_row rfl 30 _ rfl A0 rfl 30 #[.int .u64 r,.int .u32 c,.int .u64 b,.int .u16 p,.int .u16 0] (0,0) _ hA_z4 Tryz.underlying30 rfl (by kernel_rfl) ?_)
  | ((with_reducible refine aG 30 ?_);refine wpList_load_row rfl 30 _ rfl B0 rfl 30 #[.int .u64 r',.int .u32 c',.int .u64 b',.int .u16 p',.int .u16 0] (0,0) _ hB_z4 Tryz.underlying30 rfl (by kernel_rfl) ?_))
 refine(eM (fW _ _ _ _ _ _ _ _ _ _ _) H5.out).mono ?_
 rintro e z5 ⟨rfl,hx⟩
 have E_z5:Ext w z5:=E_z4.trans hx
 have hA_z5:z5.heap[A0]?=some (.cells #[.int .u64 r,.int .u32 c,.int .u64 b,.int .u16 p,.int .u16 0] 30 (0,0)):=(hx.block _ (aC hA_z4)).trans hA_z4
 have hB_z5:z5.heap[B0]?=some (.cells #[.int .u64 r',.int .u32 c',.int .u64 b',.int .u16 p',.int .u16 0] 30 (0,0)):=(hx.block _ (aC hB_z4)).trans hB_z4
 clear hA_z4 hB_z4 E_z4
 clear hx
 go_wp2_with fail
 go_ret
 exact⟨rfl,E_z5⟩
theorem aBA{w:World}(L:List Value)(hl:L.length=89)(x51:Int)(h51:L[51]?=some (.int .i64 x51))(x52:Bool)(h52:L[52]?=some (.bool x52))(x53:Bool)(h53:L[53]?=some (.bool x53))(x54:Bool)(h54:L[54]?=some (.bool x54))(x55:Bool)(h55:L[55]?=some (.bool x55))(x56:Bool)(h56:L[56]?=some (.bool x56))(x57:Bool)(h57:L[57]?=some (.bool x57))(x58:Int)(h58:L[58]?=some (.int .i64 x58))(x59:Int)(h59:L[59]?=some (.int .u64 x59))(x60:Int)(h60:L[60]?=some (.int .u32 x60))(x61:Int)(h61:L[61]?=some (.int .u64 x61))(x62:Int)(h62:L[62]?=some (.int .u16 x62))(x63:Int)(h63:L[63]?=some (.int .u16 x63))(x64:Int)(h64:L[64]?=some (.int .i64 x64))(x65:Int)(h65:L[65]?=some (.int .i64 x65))(x66:Int)(h66:L[66]?=some (.int .i64 x66))(x67:Int)(h67:L[67]?=some (.int .i64 x67))(x68:Int)(h68:L[68]?=some (.int .u64 x68))(x69:Int)(h69:L[69]?=some (.int .u32 x69))(x70:Int)(h70:L[70]?=some (.int .u64 x70))(x71:Int)(h71:L[71]?=some (.int .u16 x71))(x72:Int)(h72:L[72]?=some (.int .u16 x72))(x78:Int)(h78:L[78]?=some (.int .i64 x78))(x79:Int)(h79:L[79]?=some (.int .i64 x79))(x80:Int)(h80:L[80]?=some (.int .i64 x80))(x81:Int)(h81:L[81]?=some (.int .i64 x81))(g61:0≤x61∧x61<18446744073709551616)(g70:0≤x70∧x70<18446744073709551616)(g62:0≤x62∧x62<65536)(g71:0≤x71∧x71<65536):Calls Tryz.prog 145 #[.agg L.toArray] w fun e w'=>e=.returned (.int .i64 (iY x51 x58 (c4 x59 x60 x61 x62 x68 x69 x70 x71) (tG x61 x62 x70 x71) (x64 == x78 && x65 == x79 && x66 == x80 && x67 == x81)))∧Ext w w':=by
 have HLEN:=hD hl
 have HL_51:=hD h51
 have HL_52:=hD h52
 have HL_53:=hD h53
 have HL_54:=hD h54
 have HL_55:=hD h55
 have HL_56:=hD h56
 have HL_57:=hD h57
 have HL_58:=hD h58
 have HL_59:=hD h59
 have HL_60:=hD h60
 have HL_61:=hD h61
 have HL_62:=hD h62
 have HL_63:=hD h63
 have HL_64:=hD h64
 have HL_65:=hD h65
 have HL_66:=hD h66
 have HL_67:=hD h67
 have HL_68:=hD h68
 have HL_69:=hD h69
 have HL_70:=hD h70
 have HL_71:=hD h71
 have HL_72:=hD h72
 have HL_78:=hD h78
 have HL_79:=hD h79
 have HL_80:=hD h80
 have HL_81:=hD h81
 have HS_51:=hD (a7 (L:=L) (j:=51) (l:=[.int .i64 x51,.bool x52,.bool x53,.bool x54,.bool x55,.bool x56,.bool x57,.int .i64 x58,.int .u64 x59,.int .u32 x60,.int .u64 x61,.int .u16 x62,.int .u16 x63,.int .i64 x64,.int .i64 x65,.int .i64 x66,.int .i64 x67]) (by rw[hl];exact(by decide:51+17≤89)) (fun i hi=>by
  match i,hi with
  | 0,_=>exact HL_51.out
  | 1,_=>exact HL_52.out
  | 2,_=>exact HL_53.out
  | 3,_=>exact HL_54.out
  | 4,_=>exact HL_55.out
  | 5,_=>exact HL_56.out
  | 6,_=>exact HL_57.out
  | 7,_=>exact HL_58.out
  | 8,_=>exact HL_59.out
  | 9,_=>exact HL_60.out
  | 10,_=>exact HL_61.out
  | 11,_=>exact HL_62.out
  | 12,_=>exact HL_63.out
  | 13,_=>exact HL_64.out
  | 14,_=>exact HL_65.out
  | 15,_=>exact HL_66.out
  | 16,_=>exact HL_67.out
  | i+17,hi=>simp at hi;omega))
 have HS_59:=hD (a7 (L:=L) (j:=59) (l:=[.int .u64 x59,.int .u32 x60,.int .u64 x61,.int .u16 x62,.int .u16 x63]) (by rw[hl];exact(by decide:59+5≤89)) (fun i hi=>by
  match i,hi with
  | 0,_=>exact HL_59.out
  | 1,_=>exact HL_60.out
  | 2,_=>exact HL_61.out
  | 3,_=>exact HL_62.out
  | 4,_=>exact HL_63.out
  | i+5,hi=>simp at hi;omega))
 have HS_64:=hD (a7 (L:=L) (j:=64) (l:=[.int .i64 x64,.int .i64 x65,.int .i64 x66,.int .i64 x67]) (by rw[hl];exact(by decide:64+4≤89)) (fun i hi=>by
  match i,hi with
  | 0,_=>exact HL_64.out
  | 1,_=>exact HL_65.out
  | 2,_=>exact HL_66.out
  | 3,_=>exact HL_67.out
  | i+4,hi=>simp at hi;omega))
 have HS_68:=hD (a7 (L:=L) (j:=68) (l:=[.int .u64 x68,.int .u32 x69,.int .u64 x70,.int .u16 x71,.int .u16 x72]) (by rw[hl];exact(by decide:68+5≤89)) (fun i hi=>by
  match i,hi with
  | 0,_=>exact HL_68.out
  | 1,_=>exact HL_69.out
  | 2,_=>exact HL_70.out
  | 3,_=>exact HL_71.out
  | 4,_=>exact HL_72.out
  | i+5,hi=>simp at hi;omega))
 have HS_78:=hD (a7 (L:=L) (j:=78) (l:=[.int .i64 x78,.int .i64 x79,.int .i64 x80,.int .i64 x81]) (by rw[hl];exact(by decide:78+4≤89)) (fun i hi=>by
  match i,hi with
  | 0,_=>exact HL_78.out
  | 1,_=>exact HL_79.out
  | 2,_=>exact HL_80.out
  | 3,_=>exact HL_81.out
  | i+4,hi=>simp at hi;omega))
 clear hl h51 h52 h53 h54 h55 h56 h57 h58 h59 h60 h61 h62 h63 h64 h65 h66 h67 h68 h69 h70 h71 h72 h78 h79 h80 h81
 have hz:=mG
 obtain⟨g61a,g61b⟩:=g61
 obtain⟨g70a,g70b⟩:=g70
 obtain⟨g62a,g62b⟩:=g62
 obtain⟨g71a,g71b⟩:=g71
 obtain⟨l_ht,ht⟩:∃b,lO x51 x58=b:=⟨_,rfl⟩
 have H_ht:=hD ht
 clear ht
 obtain⟨l_hc,hc⟩:∃b,((c4 x59 x60 x61 x62 x68 x69 x70 x71) == 0)=b:=⟨_,rfl⟩
 have H_hc:=hD hc
 clear hc
 obtain⟨l_he,he⟩:∃b,(x64 == x78 && x65 == x79 && x66 == x80 && x67 == x81)=b:=⟨_,rfl⟩
 have H_he:=hD he
 clear he
 obtain⟨l_hs,hs⟩:∃b,(decide ((c4 x59 x60 x61 x62 x68 x69 x70 x71)<0) || (tG x61 x62 x70 x71))=b:=⟨_,rfl⟩
 have H_hs:=hD hs
 clear hs
 obtain⟨l_ha,ha⟩:∃b,aDA x51 x58=b:=⟨_,rfl⟩
 have H_ha:=hD ha
 clear ha
 obtain⟨l_hl2,hl2⟩:∃b,decide ((c4 x59 x60 x61 x62 x68 x69 x70 x71)<0)=b:=⟨_,rfl⟩
 have H_hl2:=hD hl2
 clear hl2
 have heq:=fun w=>(aC9 w x64 x65 x66 x67 x78 x79 x80 x81).trans (by rw[H_he.out])
 go_enter Tryz.func145,Tryz.ntmps145
 go_wp2_with (first
  | fail
  | ((with_reducible refine bP 60 ?_);refine bQ rfl 60 _ rfl L.toArray rfl ?_
     intro P0 z1 hq hs hx
     have E_z1:Ext w z1:=hx
     have hP_z1:Pv z1 P0 0 L:=Pv.box hq HLEN.out
     have hb_P0:w.heap.size≤P0:=by omega
     clear hq hs hx)
  | ((with_reducible refine aG 46 ?_);refine wpList_load_mid rfl 46 _ rfl P0 (51) rfl [.int .i64 x51,.bool x52,.bool x53,.bool x54,.bool x55,.bool x56,.bool x57,.int .i64 x58,.int .u64 x59,.int .u32 x60,.int .u64 x61,.int .u16 x62,.int .u16 x63,.int .i64 x64,.int .i64 x65,.int .i64 x66,.int .i64 x67] _ (hP_z1.range (j:=51) (n:=17) HS_51.out (by decide)) Tryz.underlying46 rfl (by kernel_rfl) ?_)
  | ((with_reducible refine bS 46 ?_);refine b6 rfl 46 rfl MZ mG ?_
     intro M0 z2 hq hs hx
     have hn_P0M0:P0≠M0:=by have:=hP_z1.lt;omega
     have E_z2:Ext w z2:=E_z1.trans hx
     have hP_z2:Pv z2 P0 0 L:=hP_z1.ext hx
     have hM_z2:z2.heap[M0]?=some (.cells #[.int .i64 0,.bool false,.bool false,.bool false,.bool false,.bool false,.bool false,.int .i64 0,.int .u64 0,.int .u32 0,.int .u64 0,.int .u16 0,.int .u16 0,.int .i64 0,.int .i64 0,.int .i64 0,.int .i64 0] 46 (0,0)):=hq
     have hb_M0:w.heap.size≤M0:=by have:=E_z1.size;omega
     clear hP_z1 E_z1
     clear hq hs hx)
  | ((with_reducible refine aD 46 ?_);refine dS rfl rfl 46 _ _ rfl M0 0 _ #[.int .i64 x51,.bool x52,.bool x53,.bool x54,.bool x55,.bool x56,.bool x57,.int .i64 x58,.int .u64 x59,.int .u32 x60,.int .u64 x61,.int .u16 x62,.int .u16 x63,.int .i64 x64,.int .i64 x65,.int .i64 x66,.int .i64 x67] _ #[.int .i64 x51,.bool x52,.bool x53,.bool x54,.bool x55,.bool x56,.bool x57,.int .i64 x58,.int .u64 x59,.int .u32 x60,.int .u64 x61,.int .u16 x62,.int .u16 x63,.int .i64 x64,.int .i64 x65,.int .i64 x66,.int .i64 x67] _ rfl rfl rfl hM_z2 (by exact(by decide:0+17≤17)) (by kernel_rfl) rfl rfl ?_
     intro z3 hq hm
     have hM_z3:z3.heap[M0]?=some (.cells #[.int .i64 x51,.bool x52,.bool x53,.bool x54,.bool x55,.bool x56,.bool x57,.int .i64 x58,.int .u64 x59,.int .u32 x60,.int .u64 x61,.int .u16 x62,.int .u16 x63,.int .i64 x64,.int .i64 x65,.int .i64 x66,.int .i64 x67] 46 (0,0)):=hq
     have E_z3:Ext w z3:=Ext.mutE E_z2 hm (fun n hn h=>by have h2:n=M0:=h;omega)
     have hP_z3:Pv z3 P0 0 L:=hP_z2.mut hm (show P0≠M0 by omega)
     clear hM_z2 hP_z2 E_z2
     clear hq hm)
  | ((with_reducible refine aG 46 ?_);refine wpList_load_row rfl 46 _ rfl M0 rfl 46 #[.int .i64 x51,.bool x52,.bool x53,.bool x54,.bool x55,.bool x56,.bool x57,.int .i64 x58,.int .u64 x59,.int .u32 x60,.int .u64 x61,.int .u16 x62,.int .u16 x63,.int .i64 x64,.int .i64 x65,.int .i64 x66,.int .i64 x67] (0,0) _ hM_z3 Tryz.underlying46 rfl (by kernel_rfl) ?_))
 refine(eM (dV _ _ _ _ _ _ _ _ _ _ _ _ _ _ _ _ _ _) H_ht.out).mono ?_
 rintro e z4 ⟨rfl,hx⟩
 have E_z4:Ext w z4:=E_z3.trans hx
 have hM_z4:z4.heap[M0]?=some (.cells #[.int .i64 x51,.bool x52,.bool x53,.bool x54,.bool x55,.bool x56,.bool x57,.int .i64 x58,.int .u64 x59,.int .u32 x60,.int .u64 x61,.int .u16 x62,.int .u16 x63,.int .i64 x64,.int .i64 x65,.int .i64 x66,.int .i64 x67] 46 (0,0)):=(hx.block _ (aC hM_z3)).trans hM_z3
 have hP_z4:Pv z4 P0 0 L:=hP_z3.ext hx
 clear hM_z3 hP_z3 E_z3
 clear hx
 cases l_ht
 ·go_wp2_with (first
   | fail
   | ((with_reducible refine aG 46 ?_);refine wpList_load_row rfl 46 _ rfl M0 rfl 46 #[.int .i64 x51,.bool x52,.bool x53,.bool x54,.bool x55,.bool x56,.bool x57,.int .i64 x58,.int .u64 x59,.int .u32 x60,.int .u64 x61,.int .u16 x62,.int .u16 x63,.int .i64 x64,.int .i64 x65,.int .i64 x66,.int .i64 x67] (0,0) _ hM_z4 Tryz.underlying46 rfl (by kernel_rfl) ?_))
  refine(eM (dV _ _ _ _ _ _ _ _ _ _ _ _ _ _ _ _ _ _) H_ht.out).mono ?_
  rintro e z5 ⟨rfl,hx⟩
  have E_z5:Ext w z5:=E_z4.trans hx
  have hM_z5:z5.heap[M0]?=some (.cells #[.int .i64 x51,.bool x52,.bool x53,.bool x54,.bool x55,.bool x56,.bool x57,.int .i64 x58,.int .u64 x59,.int .u32 x60,.int .u64 x61,.int .u16 x62,.int .u16 x63,.int .i64 x64,.int .i64 x65,.int .i64 x66,.int .i64 x67] 46 (0,0)):=(hx.block _ (aC hM_z4)).trans hM_z4
  have hP_z5:Pv z5 P0 0 L:=hP_z4.ext hx
  clear hM_z4 hP_z4 E_z4
  clear hx
  go_wp2_with (first
   | fail
   | ((with_reducible refine aG 46 ?_);refine wpList_load_row rfl 46 _ rfl M0 rfl 46 #[.int .i64 x51,.bool x52,.bool x53,.bool x54,.bool x55,.bool x56,.bool x57,.int .i64 x58,.int .u64 x59,.int .u32 x60,.int .u64 x61,.int .u16 x62,.int .u16 x63,.int .i64 x64,.int .i64 x65,.int .i64 x66,.int .i64 x67] (0,0) _ hM_z5 Tryz.underlying46 rfl (by kernel_rfl) ?_))
  refine(eM (dV _ _ _ _ _ _ _ _ _ _ _ _ _ _ _ _ _ _) H_ht.out).mono ?_
  rintro e z6 ⟨rfl,hx⟩
  have E_z6:Ext w z6:=E_z5.trans hx
  have hM_z6:z6.heap[M0]?=some (.cells #[.int .i64 x51,.bool x52,.bool x53,.bool x54,.bool x55,.bool x56,.bool x57,.int .i64 x58,.int .u64 x59,.int .u32 x60,.int .u64 x61,.int .u16 x62,.int .u16 x63,.int .i64 x64,.int .i64 x65,.int .i64 x66,.int .i64 x67] 46 (0,0)):=(hx.block _ (aC hM_z5)).trans hM_z5
  have hP_z6:Pv z6 P0 0 L:=hP_z5.ext hx
  clear hM_z5 hP_z5 E_z5
  clear hx
  go_wp2_with (first
   | fail
   | ((with_reducible refine aG 46 ?_);refine wpList_load_row rfl 46 _ rfl M0 rfl 46 #[.int .i64 x51,.bool x52,.bool x53,.bool x54,.bool x55,.bool x56,.bool x57,.int .i64 x58,.int .u64 x59,.int .u32 x60,.int .u64 x61,.int .u16 x62,.int .u16 x63,.int .i64 x64,.int .i64 x65,.int .i64 x66,.int .i64 x67] (0,0) _ hM_z6 Tryz.underlying46 rfl (by kernel_rfl) ?_))
  refine(eM (tJ _ _ _ _ _ _ _ _ _ _ _ _ _ _ _ _ _ _) H_ha.out).mono ?_
  rintro e z7 ⟨rfl,hx⟩
  have E_z7:Ext w z7:=E_z6.trans hx
  have hM_z7:z7.heap[M0]?=some (.cells #[.int .i64 x51,.bool x52,.bool x53,.bool x54,.bool x55,.bool x56,.bool x57,.int .i64 x58,.int .u64 x59,.int .u32 x60,.int .u64 x61,.int .u16 x62,.int .u16 x63,.int .i64 x64,.int .i64 x65,.int .i64 x66,.int .i64 x67] 46 (0,0)):=(hx.block _ (aC hM_z6)).trans hM_z6
  have hP_z7:Pv z7 P0 0 L:=hP_z6.ext hx
  clear hM_z6 hP_z6 E_z6
  clear hx
  cases l_ha
  ·go_wp2_with fail
   all_goals
    go_ret
    exact⟨by unfold iY;simp only[H_ht.out,H_ha.out];rfl,E_z7⟩
  ·go_wp2_with (first
    | fail
    | ((with_reducible refine aW 30 ?_);refine aU rfl 30 _ rfl M0 8 rfl [.int .u64 x59,.int .u32 x60,.int .u64 x61,.int .u16 x62,.int .u16 x63] _ (iQ hM_z7 8 (by rfl)) Tryz.underlying30 rfl (by kernel_rfl) ?_)
    | ((with_reducible refine aW 30 ?_);refine aU rfl 30 _ rfl P0 (68) rfl [.int .u64 x68,.int .u32 x69,.int .u64 x70,.int .u16 x71,.int .u16 x72] _ (hP_z7.range (j:=68) (n:=5) HS_68.out (by decide)) Tryz.underlying30 rfl (by kernel_rfl) ?_))
   refine(eM (lQ _ _ _ _ _ _ _ _ _ _ _) H_hl2.out).mono ?_
   rintro e z8 ⟨rfl,hx⟩
   have E_z8:Ext w z8:=E_z7.trans hx
   have hM_z8:z8.heap[M0]?=some (.cells #[.int .i64 x51,.bool x52,.bool x53,.bool x54,.bool x55,.bool x56,.bool x57,.int .i64 x58,.int .u64 x59,.int .u32 x60,.int .u64 x61,.int .u16 x62,.int .u16 x63,.int .i64 x64,.int .i64 x65,.int .i64 x66,.int .i64 x67] 46 (0,0)):=(hx.block _ (aC hM_z7)).trans hM_z7
   have hP_z8:Pv z8 P0 0 L:=hP_z7.ext hx
   clear hM_z7 hP_z7 E_z7
   clear hx
   cases l_hl2
   ·go_wp2_with fail
    all_goals
     go_ret
     exact⟨by unfold iY;simp only[H_ht.out,H_ha.out,H_hl2.out];rfl,E_z8⟩
   ·go_wp2_with fail
    all_goals
     go_ret
     exact⟨by unfold iY;simp only[H_ht.out,H_ha.out,H_hl2.out];rfl,E_z8⟩
 ·go_wp2_with (first
   | fail
   | ((with_reducible refine aW 30 ?_);refine aU rfl 30 _ rfl M0 8 rfl [.int .u64 x59,.int .u32 x60,.int .u64 x61,.int .u16 x62,.int .u16 x63] _ (iQ hM_z4 8 (by rfl)) Tryz.underlying30 rfl (by kernel_rfl) ?_)
   | ((with_reducible refine aW 30 ?_);refine aU rfl 30 _ rfl P0 (68) rfl [.int .u64 x68,.int .u32 x69,.int .u64 x70,.int .u16 x71,.int .u16 x72] _ (hP_z4.range (j:=68) (n:=5) HS_68.out (by decide)) Tryz.underlying30 rfl (by kernel_rfl) ?_))
  refine(eM (eJ _ _ _ _ _ _ _ _ _ _ _) H_hc.out).mono ?_
  rintro e z5 ⟨rfl,hx⟩
  have E_z5:Ext w z5:=E_z4.trans hx
  have hM_z5:z5.heap[M0]?=some (.cells #[.int .i64 x51,.bool x52,.bool x53,.bool x54,.bool x55,.bool x56,.bool x57,.int .i64 x58,.int .u64 x59,.int .u32 x60,.int .u64 x61,.int .u16 x62,.int .u16 x63,.int .i64 x64,.int .i64 x65,.int .i64 x66,.int .i64 x67] 46 (0,0)):=(hx.block _ (aC hM_z4)).trans hM_z4
  have hP_z5:Pv z5 P0 0 L:=hP_z4.ext hx
  clear hM_z4 hP_z4 E_z4
  clear hx
  cases l_hc
  ·go_wp2_with (first
    | fail
    | ((with_reducible refine aG 46 ?_);refine wpList_load_row rfl 46 _ rfl M0 rfl 46 #[.int .i64 x51,.bool x52,.bool x53,.bool x54,.bool x55,.bool x56,.bool x57,.int .i64 x58,.int .u64 x59,.int .u32 x60,.int .u64 x61,.int .u16 x62,.int .u16 x63,.int .i64 x64,.int .i64 x65,.int .i64 x66,.int .i64 x67] (0,0) _ hM_z5 Tryz.underlying46 rfl (by kernel_rfl) ?_))
   refine(eM (dV _ _ _ _ _ _ _ _ _ _ _ _ _ _ _ _ _ _) H_ht.out).mono ?_
   rintro e z6 ⟨rfl,hx⟩
   have E_z6:Ext w z6:=E_z5.trans hx
   have hM_z6:z6.heap[M0]?=some (.cells #[.int .i64 x51,.bool x52,.bool x53,.bool x54,.bool x55,.bool x56,.bool x57,.int .i64 x58,.int .u64 x59,.int .u32 x60,.int .u64 x61,.int .u16 x62,.int .u16 x63,.int .i64 x64,.int .i64 x65,.int .i64 x66,.int .i64 x67] 46 (0,0)):=(hx.block _ (aC hM_z5)).trans hM_z5
   have hP_z6:Pv z6 P0 0 L:=hP_z5.ext hx
   clear hM_z5 hP_z5 E_z5
   clear hx
   go_wp2_with (first
    | fail
    | ((with_reducible refine aW 30 ?_);refine aU rfl 30 _ rfl M0 8 rfl [.int .u64 x59,.int .u32 x60,.int .u64 x61,.int .u16 x62,.int .u16 x63] _ (iQ hM_z6 8 (by rfl)) Tryz.underlying30 rfl (by kernel_rfl) ?_)
    | ((with_reducible refine aW 30 ?_);refine aU rfl 30 _ rfl P0 (68) rfl [.int .u64 x68,.int .u32 x69,.int .u64 x70,.int .u16 x71,.int .u16 x72] _ (hP_z6.range (j:=68) (n:=5) HS_68.out (by decide)) Tryz.underlying30 rfl (by kernel_rfl) ?_))
   refine(eM (lH _ _ _ _ _ _ _ _ _ _ _ ⟨g61a,g61b⟩ ⟨g70a,g70b⟩ ⟨g62a,g62b⟩ ⟨g71a,g71b⟩) H_hs.out).mono ?_
   rintro e z7 ⟨rfl,hx⟩
   have E_z7:Ext w z7:=E_z6.trans hx
   have hM_z7:z7.heap[M0]?=some (.cells #[.int .i64 x51,.bool x52,.bool x53,.bool x54,.bool x55,.bool x56,.bool x57,.int .i64 x58,.int .u64 x59,.int .u32 x60,.int .u64 x61,.int .u16 x62,.int .u16 x63,.int .i64 x64,.int .i64 x65,.int .i64 x66,.int .i64 x67] 46 (0,0)):=(hx.block _ (aC hM_z6)).trans hM_z6
   have hP_z7:Pv z7 P0 0 L:=hP_z6.ext hx
   clear hM_z6 hP_z6 E_z6
   clear hx
   cases l_hs
   ·go_wp2_with (first
     | fail
     | ((with_reducible refine aG 46 ?_);refine wpList_load_row rfl 46 _ rfl M0 rfl 46 #[.int .i64 x51,.bool x52,.bool x53,.bool x54,.bool x55,.bool x56,.bool x57,.int .i64 x58,.int .u64 x59,.int .u32 x60,.int .u64 x61,.int .u16 x62,.int .u16 x63,.int .i64 x64,.int .i64 x65,.int .i64 x66,.int .i64 x67] (0,0) _ hM_z7 Tryz.underlying46 rfl (by kernel_rfl) ?_))
    refine(eM (dV _ _ _ _ _ _ _ _ _ _ _ _ _ _ _ _ _ _) H_ht.out).mono ?_
    rintro e z8 ⟨rfl,hx⟩
    have E_z8:Ext w z8:=E_z7.trans hx
    have hM_z8:z8.heap[M0]?=some (.cells #[.int .i64 x51,.bool x52,.bool x53,.bool x54,.bool x55,.bool x56,.bool x57,.int .i64 x58,.int .u64 x59,.int .u32 x60,.int .u64 x61,.int .u16 x62,.int .u16 x63,.int .i64 x64,.int .i64 x65,.int .i64 x66,.int .i64 x67] 46 (0,0)):=(hx.block _ (aC hM_z7)).trans hM_z7
    have hP_z8:Pv z8 P0 0 L:=hP_z7.ext hx
    clear hM_z7 hP_z7 E_z7
    clear hx
    go_wp2_with fail
    all_goals
     go_ret
     exact⟨by unfold iY;simp only[H_ht.out,H_hc.out,H_hs.out];rfl,E_z8⟩
   ·go_wp2_with fail
    all_goals
     go_ret
     exact⟨by unfold iY;simp only[H_ht.out,H_hc.out,H_hs.out];rfl,E_z7⟩
  ·cases l_he
   ·go_wp2_with (first
     | fail
     | ((with_reducible refine aW 24 ?_);refine aU rfl 24 _ rfl M0 13 rfl [.int .i64 x64,.int .i64 x65,.int .i64 x66,.int .i64 x67] _ (iQ hM_z5 13 (by rfl)) Tryz.underlying24 rfl (by kernel_rfl) ?_)
     | ((with_reducible refine aW 24 ?_);refine aU rfl 24 _ rfl P0 (78) rfl [.int .i64 x78,.int .i64 x79,.int .i64 x80,.int .i64 x81] _ (hP_z5.range (j:=78) (n:=4) HS_78.out (by decide)) Tryz.underlying24 rfl (by kernel_rfl) ?_)
     | ((with_reducible refine aG 46 ?_);refine wpList_load_row rfl 46 _ rfl M0 rfl 46 #[.int .i64 x51,.bool x52,.bool x53,.bool x54,.bool x55,.bool x56,.bool x57,.int .i64 x58,.int .u64 x59,.int .u32 x60,.int .u64 x61,.int .u16 x62,.int .u16 x63,.int .i64 x64,.int .i64 x65,.int .i64 x66,.int .i64 x67] (0,0) _ hM_z5 Tryz.underlying46 rfl (by kernel_rfl) ?_))
    refine(eM (dV _ _ _ _ _ _ _ _ _ _ _ _ _ _ _ _ _ _) H_ht.out).mono ?_
    rintro e z6 ⟨rfl,hx⟩
    have E_z6:Ext w z6:=E_z5.trans hx
    have hM_z6:z6.heap[M0]?=some (.cells #[.int .i64 x51,.bool x52,.bool x53,.bool x54,.bool x55,.bool x56,.bool x57,.int .i64 x58,.int .u64 x59,.int .u32 x60,.int .u64 x61,.int .u16 x62,.int .u16 x63,.int .i64 x64,.int .i64 x65,.int .i64 x66,.int .i64 x67] 46 (0,0)):=(hx.block _ (aC hM_z5)).trans hM_z5
    have hP_z6:Pv z6 P0 0 L:=hP_z5.ext hx
    clear hM_z5 hP_z5 E_z5
    clear hx
    go_wp2_with (first
     | fail
     | ((with_reducible refine aW 30 ?_);refine aU rfl 30 _ rfl M0 8 rfl [.int .u64 x59,.int .u32 x60,.int .u64 x61,.int .u16 x62,.int .u16 x63] _ (iQ hM_z6 8 (by rfl)) Tryz.underlying30 rfl (by kernel_rfl) ?_)
     | ((with_reducible refine aW 30 ?_);refine aU rfl 30 _ rfl P0 (68) rfl [.int .u64 x68,.int .u32 x69,.int .u64 x70,.int .u16 x71,.int .u16 x72] _ (hP_z6.range (j:=68) (n:=5) HS_68.out (by decide)) Tryz.underlying30 rfl (by kernel_rfl) ?_))
    refine(eM (lH _ _ _ _ _ _ _ _ _ _ _ ⟨g61a,g61b⟩ ⟨g70a,g70b⟩ ⟨g62a,g62b⟩ ⟨g71a,g71b⟩) H_hs.out).mono ?_
    rintro e z7 ⟨rfl,hx⟩
    have E_z7:Ext w z7:=E_z6.trans hx
    have hM_z7:z7.heap[M0]?=some (.cells #[.int .i64 x51,.bool x52,.bool x53,.bool x54,.bool x55,.bool x56,.bool x57,.int .i64 x58,.int .u64 x59,.int .u32 x60,.int .u64 x61,.int .u16 x62,.int .u16 x63,.int .i64 x64,.int .i64 x65,.int .i64 x66,.int .i64 x67] 46 (0,0)):=(hx.block _ (aC hM_z6)).trans hM_z6
    have hP_z7:Pv z7 P0 0 L:=hP_z6.ext hx
    clear hM_z6 hP_z6 E_z6
    clear hx
    cases l_hs
    ·go_wp2_with (first
      | fail
      | ((with_reducible refine aG 46 ?_);refine wpList_load_row rfl 46 _ rfl M0 rfl 46 #[.int .i64 x51,.bool x52,.bool x53,.bool x54,.bool x55,.bool x56,.bool x57,.int .i64 x58,.int .u64 x59,.int .u32 x60,.int .u64 x61,.int .u16 x62,.int .u16 x63,.int .i64 x64,.int .i64 x65,.int .i64 x66,.int .i64 x67] (0,0) _ hM_z7 Tryz.underlying46 rfl (by kernel_rfl) ?_))
     refine(eM (dV _ _ _ _ _ _ _ _ _ _ _ _ _ _ _ _ _ _) H_ht.out).mono ?_
     rintro e z8 ⟨rfl,hx⟩
     have E_z8:Ext w z8:=E_z7.trans hx
     have hM_z8:z8.heap[M0]?=some (.cells #[.int .i64 x51,.bool x52,.bool x53,.bool x54,.bool x55,.bool x56,.bool x57,.int .i64 x58,.int .u64 x59,.int .u32 x60,.int .u64 x61,.int .u16 x62,.int .u16 x63,.int .i64 x64,.int .i64 x65,.int .i64 x66,.int .i64 x67] 46 (0,0)):=(hx.block _ (aC hM_z7)).trans hM_z7
     have hP_z8:Pv z8 P0 0 L:=hP_z7.ext hx
     clear hM_z7 hP_z7 E_z7
     clear hx
     go_wp2_with fail
     all_goals
      go_ret
      exact⟨by unfold iY;simp only[H_ht.out,H_hc.out,H_he.out,H_hs.out];rfl,E_z8⟩
    ·go_wp2_with fail
     all_goals
      go_ret
      exact⟨by unfold iY;simp only[H_ht.out,H_hc.out,H_he.out,H_hs.out];rfl,E_z7⟩
   ·go_wp2_with (first
     | fail
     | ((with_reducible refine aW 24 ?_);refine aU rfl 24 _ rfl M0 13 rfl [.int .i64 x64,.int .i64 x65,.int .i64 x66,.int .i64 x67] _ (iQ hM_z5 13 (by rfl)) Tryz.underlying24 rfl (by kernel_rfl) ?_)
     | ((with_reducible refine aW 24 ?_);refine aU rfl 24 _ rfl P0 (78) rfl [.int .i64 x78,.int .i64 x79,.int .i64 x80,.int .i64 x81] _ (hP_z5.range (j:=78) (n:=4) HS_78.out (by decide)) Tryz.underlying24 rfl (by kernel_rfl) ?_))
    all_goals
     go_ret
     exact⟨by unfold iY;simp only[H_ht.out,H_hc.out,H_he.out];rfl,E_z5⟩
end Go.Proofs.YtpanapepcbbagaaGreat
