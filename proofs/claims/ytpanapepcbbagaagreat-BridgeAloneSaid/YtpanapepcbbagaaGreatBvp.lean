/- Part 16 of what BridgeRests stands on. No statement is proved here. -/
import Derived.WalkMore
import Derived.ScopeJumps
import Derived.Test.YtpanapepcbbagaaGreatBvo
set_option linter.unusedVariables false
set_option linter.unusedSimpArgs false
set_option maxRecDepth 100000
set_option maxHeartbeats 8000000
namespace Go.Proofs.YtpanapepcbbagaaGreat
open Go.RowKit Go.BigFrame Go.WideShapes Go.ChangeShapes Go.Deep
theorem fQ(w:World)(F:Nat→Prop)(X g k:Nat)(B:Br)(h:BrG w F X g B)(ho:B.ok)(hk:k<B.np):Calls Tryz.prog 149 #[aJ g k X] w fun e w'=>e=.returned (.int .i64 (cD B k))∧Ext w w':=by
 obtain⟨hX,hg,hne⟩:=h.lt
 have hEz:=(Ext.refl w).alloc (.cells #[.pointer (some ⟨g,k*89,none⟩),.pointer (some ⟨X,0,none⟩),.int .i64 k] 112)
 have hBz:=h.alloc (.cells #[.pointer (some ⟨g,k*89,none⟩),.pointer (some ⟨X,0,none⟩),.int .i64 k] 112)
 have hPz:=heap_alloc_new w (.cells #[.pointer (some ⟨g,k*89,none⟩),.pointer (some ⟨X,0,none⟩),.int .i64 k] 112)
 have hb0:w.heap.size<(w.alloc (.cells #[.pointer (some ⟨g,k*89,none⟩),.pointer (some ⟨X,0,none⟩),.int .i64 k] 112)).heap.size:=by simp
 have hbg:w.heap.size≠g:=by omega
 have hbX:w.heap.size≠X:=by omega
 have HEz:=hD hEz
 have HBz:=hD hBz
 have HPz:=hD hPz
 have HZ0:=hD hb0
 clear hEz hBz hPz hb0 h
 unfold aJ
 go_enter Tryz.func149,Tryz.ntmps149
 go_wp2_with fail
 generalize w.alloc (.cells #[.pointer (some ⟨g,k*89,none⟩),.pointer (some ⟨X,0,none⟩),.int .i64 k] 112)=wz at *
 obtain⟨b0,hb00⟩:∃b,w.heap.size=b:=⟨_,rfl⟩
 rw[hb00]at HPz HZ0 hbg hbX ⊢
 clear hb00
 have hb0:=HZ0.out
 have hBz:=HBz.out
 have c0:wz.cell? ⟨b0,0,none⟩=some (.pointer (some ⟨g,k*89,none⟩)):=(cell_of_row _ _ _ _ _ _ HPz.out).trans rfl
 have c1:wz.cell? ⟨b0,1,none⟩=some (.pointer (some ⟨X,0,none⟩)):=(cell_of_row _ _ _ _ _ _ HPz.out).trans rfl
 have c2:wz.cell? ⟨b0,2,none⟩=some (.int .i64 k):=(cell_of_row _ _ _ _ _ _ HPz.out).trans rfl
 have hgz:g<wz.heap.size:=hBz.lt.2.1
 have hXz:X<wz.heap.size:=hBz.lt.1
 obtain⟨C,hC,hCb,hCz⟩:=hBz.br (by omega)
 have HC:=hD hC
 have HCb:=hD hCb
 have HCi:=hD (show(Tryz.prog.info? 35).map (·.size)=some C.size by rw[hCz,ho.hd.1];exact kZ)
 clear hC hCb hCz
 refine aT (S:=fun W'=>Ext wz W') (by kernel_rfl) ?_
 intro wd hqx
 have hq0:Ext wz wd:=hqx
 refine aH 0 b0 1 rfl hq0 ?_
 refine tL 1 (_) rfl (aA rfl 52 _ rfl ⟨b0,1,none⟩ rfl (.pointer (some ⟨X,0,none⟩)) _ (fun W' hW'=>(hW'.cell (p:=⟨b0,1,none⟩) hb0).trans c1) Tryz.underlying52 rfl) hq0 ?_
 refine aH 2 X 0 rfl hq0 ?_
 refine tL 3 (_) rfl (a4 rfl 35 _ rfl X rfl C _ _ (fun W' hW'=>(hW'.block _ hXz).trans HC.out) Tryz.underlying35 rfl HCi.out) hq0 ?_
 refine aH 4 b0 2 rfl hq0 ?_
 refine tL 5 (_) rfl (aA rfl 3 _ rfl ⟨b0,2,none⟩ rfl (.int .i64 k) _ (fun W' hW'=>(hW'.cell (p:=⟨b0,2,none⟩) hb0).trans c2) Tryz.underlying3 rfl) hq0 ?_
 refine bB (i:=6) rfl rfl (by kernel_rfl) (fun K hK=>?_)
 go_simp
 refine(aD7 C B k _ (HCb.out.ext hq0) ho hk).mono ?_
 rintro e wc1 ⟨he,hx⟩
 obtain rfl:e=.returned (.int .i64 (cD B k)):=he
 have hq1:=hq0.trans hx
 refine hK.out _ _ hq1 (fun hHeld=>?_)
 try simp only[ps]
 clear hK K hHeld
 refine bO 7 ((.int .i64 (cD B k))) rfl hq1 ?_
 refine wpAnyH_done (by kernel_rfl) ?_ _
 go_wp2_with fail
 go_ret
 exact⟨rfl,HEz.out.trans hq1⟩
theorem mP(w:World)(F:Nat→Prop)(X g k:Nat)(B:Br)(h:BrG w F X g B)(ho:B.ok)(hk:k<B.np)(fd:Int):Calls Tryz.prog 148 #[aJ g k X,.int .i64 fd] w fun e w'=>e=.returned (.bool (B.gi k 7 != fd || B.gb k 46 || B.gb k 42 || !B.gb k 47))∧Ext w w':=by
 obtain⟨hX,hg,hne⟩:=h.lt
 have p46:=qb h ho hk 46
 have p42:=qb h ho hk 42
 have p47:=qb h ho hk 47
 have p7:=qi h ho hk 7 rfl
 clear h
 obtain⟨x46,e46⟩:∃b,B.gb k 46=b:=⟨_,rfl⟩
 rw[e46]at p46 ⊢
 obtain⟨x42,e42⟩:∃b,B.gb k 42=b:=⟨_,rfl⟩
 rw[e42]at p42 ⊢
 obtain⟨x47,e47⟩:∃b,B.gb k 47=b:=⟨_,rfl⟩
 rw[e47]at p47 ⊢
 obtain⟨x7,e7⟩:∃b,B.gi k 7=b:=⟨_,rfl⟩
 rw[e7]at p7 ⊢
 have hs:w.heap.size≠g:=by omega
 clear e46 e42 e47 e7
 unfold aJ
 go_enter Tryz.func148,Tryz.ntmps148
 cases hb:(x7 != fd)<;>cases x46<;>cases x42
 all_goals
  go_wp2_with fail
  go_ret
  exact⟨by simp_all,(Ext.refl w).alloc _⟩
theorem qP(w:World)(F:Nat→Prop)(X g k:Nat)(B:Br)(h:BrG w F X g B)(ho:B.ok)(hk:k<B.np):Calls Tryz.prog 91 #[aJ g k X] w fun e w'=>e=.returned (.bool (dK B k (B.hi 3)))∧Ext w w':=by
 obtain⟨hX,hg,hne⟩:=h.lt
 have hEz:=(Ext.refl w).alloc (.cells #[.pointer (some ⟨g,k*89,none⟩),.pointer (some ⟨X,0,none⟩),.int .i64 k] 112)
 have hBz:=h.alloc (.cells #[.pointer (some ⟨g,k*89,none⟩),.pointer (some ⟨X,0,none⟩),.int .i64 k] 112)
 have hPz:=heap_alloc_new w (.cells #[.pointer (some ⟨g,k*89,none⟩),.pointer (some ⟨X,0,none⟩),.int .i64 k] 112)
 have hb0:w.heap.size<(w.alloc (.cells #[.pointer (some ⟨g,k*89,none⟩),.pointer (some ⟨X,0,none⟩),.int .i64 k] 112)).heap.size:=by simp
 have hbg:w.heap.size≠g:=by omega
 have hbX:w.heap.size≠X:=by omega
 have HEz:=hD hEz
 have HBz:=hD hBz
 have HPz:=hD hPz
 have HZ0:=hD hb0
 clear hEz hBz hPz hb0 h
 unfold aJ
 go_enter Tryz.func91,Tryz.ntmps91
 go_wp2_with fail
 generalize w.alloc (.cells #[.pointer (some ⟨g,k*89,none⟩),.pointer (some ⟨X,0,none⟩),.int .i64 k] 112)=wz at *
 obtain⟨b0,hb00⟩:∃b,w.heap.size=b:=⟨_,rfl⟩
 rw[hb00]at HPz HZ0 hbg hbX ⊢
 clear hb00
 have hb0:=HZ0.out
 have hBz:=HBz.out
 have c0:wz.cell? ⟨b0,0,none⟩=some (.pointer (some ⟨g,k*89,none⟩)):=(cell_of_row _ _ _ _ _ _ HPz.out).trans rfl
 have c1:wz.cell? ⟨b0,1,none⟩=some (.pointer (some ⟨X,0,none⟩)):=(cell_of_row _ _ _ _ _ _ HPz.out).trans rfl
 have c2:wz.cell? ⟨b0,2,none⟩=some (.int .i64 k):=(cell_of_row _ _ _ _ _ _ HPz.out).trans rfl
 have hgz:g<wz.heap.size:=hBz.lt.2.1
 have hXz:X<wz.heap.size:=hBz.lt.1
 have q3:=(hBz.cellX ho (i:=3) (by decide)).trans (ho.hi 3 rfl)
 refine aT (S:=fun W'=>Ext wz W') (by kernel_rfl) ?_
 intro wd hqx
 have hq0:Ext wz wd:=hqx
 refine tL 0 (_) rfl (a4 rfl 112 _ rfl b0 rfl #[.pointer (some ⟨g,k*89,none⟩),.pointer (some ⟨X,0,none⟩),.int .i64 k] _ _ (fun W' hW'=>(hW'.block _ hb0).trans HPz.out) Tryz.underlying112 rfl b8) hq0 ?_
 refine aH 1 b0 1 rfl hq0 ?_
 refine tL 2 (_) rfl (aA rfl 52 _ rfl ⟨b0,1,none⟩ rfl (.pointer (some ⟨X,0,none⟩)) _ (fun W' hW'=>(hW'.cell (p:=⟨b0,1,none⟩) hb0).trans c1) Tryz.underlying52 rfl) hq0 ?_
 refine aH 3 X 0 rfl hq0 ?_
 refine aH 4 X 2 rfl hq0 ?_
 refine aH 5 X 3 rfl hq0 ?_
 refine tL 6 (_) rfl (aA rfl 3 _ rfl ⟨X,3,none⟩ rfl (.int .i64 (B.hi 3)) _ (fun W' hW'=>(hW'.cell (p:=⟨X,3,none⟩) hXz).trans q3) Tryz.underlying3 rfl) hq0 ?_
 refine bB (i:=7) rfl rfl (by kernel_rfl) (fun K hK=>?_)
 go_simp
 refine(mP wd F X g k B (HBz.out.ext hq0) ho hk (B.hi 3)).mono ?_
 rintro e wc1 ⟨he,hx⟩
 obtain rfl:e=.returned (.bool (dK B k (B.hi 3))):=he
 have hq1:=hq0.trans hx
 refine hK.out _ _ hq1 (fun hHeld=>?_)
 try simp only[ps]
 clear hK K hHeld
 refine bO 8 ((.bool (dK B k (B.hi 3)))) rfl hq1 ?_
 refine wpAnyH_done (by kernel_rfl) ?_ _
 go_wp2_with fail
 go_ret
 exact⟨rfl,HEz.out.trans hq1⟩
theorem sS(w:World)(F:Nat→Prop)(X g k:Nat)(B:Br)(h:BrG w F X g B)(ho:B.ok)(hk:k<B.np):Calls Tryz.prog 99 #[aJ g k X] w fun e w'=>e=.returned (.bool (dK B k (cD B k)))∧Ext w w':=by
 obtain⟨hX,hg,hne⟩:=h.lt
 have hEz:=(Ext.refl w).alloc (.cells #[.pointer (some ⟨g,k*89,none⟩),.pointer (some ⟨X,0,none⟩),.int .i64 k] 112)
 have hBz:=h.alloc (.cells #[.pointer (some ⟨g,k*89,none⟩),.pointer (some ⟨X,0,none⟩),.int .i64 k] 112)
 have hPz:=heap_alloc_new w (.cells #[.pointer (some ⟨g,k*89,none⟩),.pointer (some ⟨X,0,none⟩),.int .i64 k] 112)
 have hb0:w.heap.size<(w.alloc (.cells #[.pointer (some ⟨g,k*89,none⟩),.pointer (some ⟨X,0,none⟩),.int .i64 k] 112)).heap.size:=by simp
 have hbg:w.heap.size≠g:=by omega
 have hbX:w.heap.size≠X:=by omega
 have HEz:=hD hEz
 have HBz:=hD hBz
 have HPz:=hD hPz
 have HZ0:=hD hb0
 clear hEz hBz hPz hb0 h
 unfold aJ
 go_enter Tryz.func99,Tryz.ntmps99
 go_wp2_with fail
 generalize w.alloc (.cells #[.pointer (some ⟨g,k*89,none⟩),.pointer (some ⟨X,0,none⟩),.int .i64 k] 112)=wz at *
 obtain⟨b0,hb00⟩:∃b,w.heap.size=b:=⟨_,rfl⟩
 rw[hb00]at HPz HZ0 hbg hbX ⊢
 clear hb00
 have hb0:=HZ0.out
 have hBz:=HBz.out
 have c0:wz.cell? ⟨b0,0,none⟩=some (.pointer (some ⟨g,k*89,none⟩)):=(cell_of_row _ _ _ _ _ _ HPz.out).trans rfl
 have c1:wz.cell? ⟨b0,1,none⟩=some (.pointer (some ⟨X,0,none⟩)):=(cell_of_row _ _ _ _ _ _ HPz.out).trans rfl
 have c2:wz.cell? ⟨b0,2,none⟩=some (.int .i64 k):=(cell_of_row _ _ _ _ _ _ HPz.out).trans rfl
 have hgz:g<wz.heap.size:=hBz.lt.2.1
 have hXz:X<wz.heap.size:=hBz.lt.1
 refine aT (S:=fun W'=>Ext wz W') (by kernel_rfl) ?_
 intro wd hqx
 have hq0:Ext wz wd:=hqx
 refine tL 0 (_) rfl (a4 rfl 112 _ rfl b0 rfl #[.pointer (some ⟨g,k*89,none⟩),.pointer (some ⟨X,0,none⟩),.int .i64 k] _ _ (fun W' hW'=>(hW'.block _ hb0).trans HPz.out) Tryz.underlying112 rfl b8) hq0 ?_
 refine tL 1 (_) rfl (a4 rfl 112 _ rfl b0 rfl #[.pointer (some ⟨g,k*89,none⟩),.pointer (some ⟨X,0,none⟩),.int .i64 k] _ _ (fun W' hW'=>(hW'.block _ hb0).trans HPz.out) Tryz.underlying112 rfl b8) hq0 ?_
 refine bB (i:=2) rfl rfl (by kernel_rfl) (fun K hK=>?_)
 go_simp
 refine(fQ wd F X g k B (HBz.out.ext hq0) ho hk).mono ?_
 rintro e wc1 ⟨rfl,hx⟩
 have hq1:=hq0.trans hx
 refine hK.out _ _ hq1 (fun hHeld=>?_)
 try simp only[ps]
 clear hK K hHeld
 refine bB (i:=3) rfl rfl (by kernel_rfl) (fun K hK=>?_)
 go_simp
 refine(mP wc1 F X g k B (HBz.out.ext hq1) ho hk (cD B k)).mono ?_
 rintro e wc2 ⟨he,hx⟩
 obtain rfl:e=.returned (.bool (dK B k (cD B k))):=he
 have hq2:=hq1.trans hx
 refine hK.out _ _ hq2 (fun hHeld=>?_)
 try simp only[ps]
 clear hK K hHeld
 refine bO 4 ((.bool (dK B k (cD B k)))) rfl hq2 ?_
 refine wpAnyH_done (by kernel_rfl) ?_ _
 go_wp2_with fail
 go_ret
 exact⟨rfl,HEz.out.trans hq2⟩
theorem nG(w:World)(F:Nat→Prop)(X g k:Nat)(B:Br)(h:BrG w F X g B)(ho:B.ok)(hk:k<B.np):Calls Tryz.prog 109 #[aJ g k X] w fun e w'=>e=.returned (.bool (B.gi k 12 != B.hi 5))∧Ext w w':=by
 obtain⟨hX,hg,hne⟩:=h.lt
 have hEz:=(Ext.refl w).alloc (.cells #[.pointer (some ⟨g,k*89,none⟩),.pointer (some ⟨X,0,none⟩),.int .i64 k] 112)
 have hBz:=h.alloc (.cells #[.pointer (some ⟨g,k*89,none⟩),.pointer (some ⟨X,0,none⟩),.int .i64 k] 112)
 have hPz:=heap_alloc_new w (.cells #[.pointer (some ⟨g,k*89,none⟩),.pointer (some ⟨X,0,none⟩),.int .i64 k] 112)
 have hb0:w.heap.size<(w.alloc (.cells #[.pointer (some ⟨g,k*89,none⟩),.pointer (some ⟨X,0,none⟩),.int .i64 k] 112)).heap.size:=by simp
 have hbg:w.heap.size≠g:=by omega
 have hbX:w.heap.size≠X:=by omega
 have HEz:=hD hEz
 have HBz:=hD hBz
 have HPz:=hD hPz
 have HZ0:=hD hb0
 clear hEz hBz hPz hb0 h
 unfold aJ
 go_enter Tryz.func109,Tryz.ntmps109
 go_wp2_with fail
 generalize w.alloc (.cells #[.pointer (some ⟨g,k*89,none⟩),.pointer (some ⟨X,0,none⟩),.int .i64 k] 112)=wz at *
 obtain⟨b0,hb00⟩:∃b,w.heap.size=b:=⟨_,rfl⟩
 rw[hb00]at HPz HZ0 hbg hbX ⊢
 clear hb00
 have hb0:=HZ0.out
 have hBz:=HBz.out
 have c0:wz.cell? ⟨b0,0,none⟩=some (.pointer (some ⟨g,k*89,none⟩)):=(cell_of_row _ _ _ _ _ _ HPz.out).trans rfl
 have c1:wz.cell? ⟨b0,1,none⟩=some (.pointer (some ⟨X,0,none⟩)):=(cell_of_row _ _ _ _ _ _ HPz.out).trans rfl
 have c2:wz.cell? ⟨b0,2,none⟩=some (.int .i64 k):=(cell_of_row _ _ _ _ _ _ HPz.out).trans rfl
 have hgz:g<wz.heap.size:=hBz.lt.2.1
 have hXz:X<wz.heap.size:=hBz.lt.1
 have p12:=qi hBz ho hk 12 rfl
 have q5:=(hBz.cellX ho (i:=5) (by decide)).trans (ho.hi 5 rfl)
 refine aT (S:=fun W'=>Ext wz W') (by kernel_rfl) ?_
 intro wd hqx
 have hq0:Ext wz wd:=hqx
 refine aH 0 b0 0 rfl hq0 ?_
 refine tL 1 (_) rfl (aA rfl 79 _ rfl ⟨b0,0,none⟩ rfl (.pointer (some ⟨g,k*89,none⟩)) _ (fun W' hW'=>(hW'.cell (p:=⟨b0,0,none⟩) hb0).trans c0) Tryz.underlying79 rfl) hq0 ?_
 refine aH 2 g (k*89) rfl hq0 ?_
 refine aH 3 g (k*89+6) rfl hq0 ?_
 refine aH 4 g (k*89+12) rfl hq0 ?_
 refine tL 5 (_) rfl (aA rfl 3 _ rfl ⟨g,k*89+12,none⟩ rfl (.int .i64 (B.gi k 12)) _ (fun W' hW'=>(hW'.cell (p:=⟨g,k*89+12,none⟩) hgz).trans p12) Tryz.underlying3 rfl) hq0 ?_
 refine aH 6 b0 1 rfl hq0 ?_
 refine tL 7 (_) rfl (aA rfl 52 _ rfl ⟨b0,1,none⟩ rfl (.pointer (some ⟨X,0,none⟩)) _ (fun W' hW'=>(hW'.cell (p:=⟨b0,1,none⟩) hb0).trans c1) Tryz.underlying52 rfl) hq0 ?_
 refine aH 8 X 0 rfl hq0 ?_
 refine aH 9 X 2 rfl hq0 ?_
 refine aH 10 X 5 rfl hq0 ?_
 refine tL 11 (_) rfl (aA rfl 3 _ rfl ⟨X,5,none⟩ rfl (.int .i64 (B.hi 5)) _ (fun W' hW'=>(hW'.cell (p:=⟨X,5,none⟩) hXz).trans q5) Tryz.underlying3 rfl) hq0 ?_
 refine tL 12 ((.bool (B.gi k 12 != B.hi 5))) rfl (Or.inl ⟨rfl,fun W' _=>by go_simp⟩) hq0 ?_
 refine bO 13 ((.bool (B.gi k 12 != B.hi 5))) rfl hq0 ?_
 refine wpAnyH_done (by kernel_rfl) ?_ _
 go_wp2_with fail
 go_ret
 exact⟨rfl,HEz.out.trans hq0⟩
theorem xD(w:World)(F:Nat→Prop)(X g k:Nat)(B:Br)(h:BrG w F X g B)(ho:B.ok)(hk:k<B.np)(h4:0≤B.hi 4∧B.hi 4≤1000):Calls Tryz.prog 97 #[aJ g k X] w fun e w'=>e=.returned (.bool (B.gi k 87 == 2 && B.gi k 10 != 2*B.hi 4))∧Ext w w':=by
 obtain⟨hX,hg,hne⟩:=h.lt
 have hEz:=(Ext.refl w).alloc (.cells #[.pointer (some ⟨g,k*89,none⟩),.pointer (some ⟨X,0,none⟩),.int .i64 k] 112)
 have hBz:=h.alloc (.cells #[.pointer (some ⟨g,k*89,none⟩),.pointer (some ⟨X,0,none⟩),.int .i64 k] 112)
 have hPz:=heap_alloc_new w (.cells #[.pointer (some ⟨g,k*89,none⟩),.pointer (some ⟨X,0,none⟩),.int .i64 k] 112)
 have hb0:w.heap.size<(w.alloc (.cells #[.pointer (some ⟨g,k*89,none⟩),.pointer (some ⟨X,0,none⟩),.int .i64 k] 112)).heap.size:=by simp
 have hbg:w.heap.size≠g:=by omega
 have hbX:w.heap.size≠X:=by omega
 have HEz:=hD hEz
 have HBz:=hD hBz
 have HPz:=hD hPz
 have HZ0:=hD hb0
 clear hEz hBz hPz hb0 h
 unfold aJ
 go_enter Tryz.func97,Tryz.ntmps97
 go_wp2_with fail
 generalize w.alloc (.cells #[.pointer (some ⟨g,k*89,none⟩),.pointer (some ⟨X,0,none⟩),.int .i64 k] 112)=wz at *
 obtain⟨b0,hb00⟩:∃b,w.heap.size=b:=⟨_,rfl⟩
 rw[hb00]at HPz HZ0 hbg hbX ⊢
 clear hb00
 have hb0:=HZ0.out
 have hBz:=HBz.out
 have c0:wz.cell? ⟨b0,0,none⟩=some (.pointer (some ⟨g,k*89,none⟩)):=(cell_of_row _ _ _ _ _ _ HPz.out).trans rfl
 have c1:wz.cell? ⟨b0,1,none⟩=some (.pointer (some ⟨X,0,none⟩)):=(cell_of_row _ _ _ _ _ _ HPz.out).trans rfl
 have c2:wz.cell? ⟨b0,2,none⟩=some (.int .i64 k):=(cell_of_row _ _ _ _ _ _ HPz.out).trans rfl
 have hgz:g<wz.heap.size:=hBz.lt.2.1
 have hXz:X<wz.heap.size:=hBz.lt.1
 have p87:=qi hBz ho hk 87 rfl
 have p10:=qi hBz ho hk 10 rfl
 have q4:=(hBz.cellX ho (i:=4) (by decide)).trans (ho.hi 4 rfl)
 have hwr:IntKind.i64.wrap (2*B.hi 4)=2*B.hi 4:=by rw[IntKind.wrap_i64];omega
 cases hb:(B.gi k 87 == 2)
 ·have hb1:(B.gi k 87 == 2)=false:=hb
  refine aT (S:=fun W'=>Ext wz W') (by kernel_rfl) ?_
  intro wd hqx
  have hq0:Ext wz wd:=hqx
  refine aH 0 b0 0 rfl hq0 ?_
  refine tL 1 (_) rfl (aA rfl 79 _ rfl ⟨b0,0,none⟩ rfl (.pointer (some ⟨g,k*89,none⟩)) _ (fun W' hW'=>(hW'.cell (p:=⟨b0,0,none⟩) hb0).trans c0) Tryz.underlying79 rfl) hq0 ?_
  refine aH 2 g (k*89) rfl hq0 ?_
  refine aH 3 g (k*89+87) rfl hq0 ?_
  refine tL 4 (_) rfl (aA rfl 3 _ rfl ⟨g,k*89+87,none⟩ rfl (.int .i64 (B.gi k 87)) _ (fun W' hW'=>(hW'.cell (p:=⟨g,k*89+87,none⟩) hgz).trans p87) Tryz.underlying3 rfl) hq0 ?_
  refine tL 5 ((.bool false)) rfl (Or.inl ⟨rfl,fun W' _=>by go_simp⟩) hq0 ?_
  refine bO 6 ((.bool false)) rfl hq0 ?_
  refine tL 7 (undef) rfl (Or.inr ⟨rfl,rfl⟩) hq0 ?_
  refine tL 8 (undef) rfl (Or.inr ⟨rfl,rfl⟩) hq0 ?_
  refine tL 9 (undef) rfl (Or.inr ⟨rfl,rfl⟩) hq0 ?_
  refine tL 10 (undef) rfl (Or.inr ⟨rfl,rfl⟩) hq0 ?_
  refine tL 11 (undef) rfl (Or.inr ⟨rfl,rfl⟩) hq0 ?_
  refine tL 12 (undef) rfl (Or.inr ⟨rfl,rfl⟩) hq0 ?_
  refine tL 13 (undef) rfl (Or.inr ⟨rfl,rfl⟩) hq0 ?_
  refine tL 14 (undef) rfl (Or.inr ⟨rfl,rfl⟩) hq0 ?_
  refine tL 15 (undef) rfl (Or.inr ⟨rfl,rfl⟩) hq0 ?_
  refine tL 16 (undef) rfl (Or.inr ⟨rfl,rfl⟩) hq0 ?_
  refine tL 17 (undef) rfl (Or.inr ⟨rfl,rfl⟩) hq0 ?_
  refine tL 18 (undef) rfl (Or.inr ⟨rfl,rfl⟩) hq0 ?_
  refine tL 19 (undef) rfl (Or.inr ⟨rfl,rfl⟩) hq0 ?_
  refine tL 20 (undef) rfl (Or.inr ⟨rfl,rfl⟩) hq0 ?_
  refine bO 21 ((.bool false)) rfl hq0 ?_
  refine bO 22 ((.bool false)) rfl hq0 ?_
  refine wpAnyH_done (by kernel_rfl) ?_ _
  go_wp2_with fail
  go_ret
  exact⟨by rw[hb];rfl,HEz.out.trans hq0⟩
 ·have hb1:(B.gi k 87 == 2)=true:=hb
  refine aT (S:=fun W'=>Ext wz W') (by kernel_rfl) ?_
  intro wd hqx
  have hq0:Ext wz wd:=hqx
  refine aH 0 b0 0 rfl hq0 ?_
  refine tL 1 (_) rfl (aA rfl 79 _ rfl ⟨b0,0,none⟩ rfl (.pointer (some ⟨g,k*89,none⟩)) _ (fun W' hW'=>(hW'.cell (p:=⟨b0,0,none⟩) hb0).trans c0) Tryz.underlying79 rfl) hq0 ?_
  refine aH 2 g (k*89) rfl hq0 ?_
  refine aH 3 g (k*89+87) rfl hq0 ?_
  refine tL 4 (_) rfl (aA rfl 3 _ rfl ⟨g,k*89+87,none⟩ rfl (.int .i64 (B.gi k 87)) _ (fun W' hW'=>(hW'.cell (p:=⟨g,k*89+87,none⟩) hgz).trans p87) Tryz.underlying3 rfl) hq0 ?_
  refine tL 5 ((.bool true)) rfl (Or.inl ⟨rfl,fun W' _=>by go_simp⟩) hq0 ?_
  refine bO 6 ((.bool true)) rfl hq0 ?_
  refine aH 7 b0 0 rfl hq0 ?_
  refine tL 8 (_) rfl (aA rfl 79 _ rfl ⟨b0,0,none⟩ rfl (.pointer (some ⟨g,k*89,none⟩)) _ (fun W' hW'=>(hW'.cell (p:=⟨b0,0,none⟩) hb0).trans c0) Tryz.underlying79 rfl) hq0 ?_
  refine aH 9 g (k*89) rfl hq0 ?_
  refine aH 10 g (k*89+6) rfl hq0 ?_
  refine aH 11 g (k*89+10) rfl hq0 ?_
  refine tL 12 (_) rfl (aA rfl 3 _ rfl ⟨g,k*89+10,none⟩ rfl (.int .i64 (B.gi k 10)) _ (fun W' hW'=>(hW'.cell (p:=⟨g,k*89+10,none⟩) hgz).trans p10) Tryz.underlying3 rfl) hq0 ?_
  refine aH 13 b0 1 rfl hq0 ?_
  refine tL 14 (_) rfl (aA rfl 52 _ rfl ⟨b0,1,none⟩ rfl (.pointer (some ⟨X,0,none⟩)) _ (fun W' hW'=>(hW'.cell (p:=⟨b0,1,none⟩) hb0).trans c1) Tryz.underlying52 rfl) hq0 ?_
  refine aH 15 X 0 rfl hq0 ?_
  refine aH 16 X 2 rfl hq0 ?_
  refine aH 17 X 4 rfl hq0 ?_
  refine tL 18 (_) rfl (aA rfl 3 _ rfl ⟨X,4,none⟩ rfl (.int .i64 (B.hi 4)) _ (fun W' hW'=>(hW'.cell (p:=⟨X,4,none⟩) hXz).trans q4) Tryz.underlying3 rfl) hq0 ?_
  refine tL 19 ((.int .i64 (2*B.hi 4))) rfl (Or.inl ⟨rfl,fun W' _=>by go_simp⟩) hq0 ?_
  refine tL 20 ((.bool (B.gi k 10 != 2*B.hi 4))) rfl (Or.inl ⟨rfl,fun W' _=>by go_simp⟩) hq0 ?_
  refine bO 21 ((.bool (B.gi k 10 != 2*B.hi 4))) rfl hq0 ?_
  refine bO 22 ((.bool (B.gi k 10 != 2*B.hi 4))) rfl hq0 ?_
  refine wpAnyH_done (by kernel_rfl) ?_ _
  go_wp2_with fail
  go_ret
  exact⟨by rw[hb];rfl,HEz.out.trans hq0⟩
theorem aEB(c:Array Value)(B:Br)(k:Nat)(w:World)(hb:BrC w c B)(ho:B.ok):Calls Tryz.prog 178 #[.agg c,.int .i64 k] w fun e w'=>e=.returned (.bool (rB B k))∧Ext w w' :=
 (sN c B k w hb ho).mono fun e w' ⟨f,he,hx,hf⟩=>⟨by rw[he,show f=rB B k from Bool.eq_iff_iff.2 (hf.trans (aBS B k).symm)],hx⟩
theorem aGU(c:Array Value)(B:Br)(w:World)(hb:BrC w c B)(ho:B.ok):Calls Tryz.prog 150 #[.agg c] w fun e w'=>e=.returned (.bool (rA B))∧Ext w w' :=
 (qL c B w hb ho).mono fun e w' ⟨f,he,hx,hf⟩=>⟨by rw[he,show f=rA B from Bool.eq_iff_iff.2 (hf.trans (aBR B).symm)],hx⟩
theorem pE(w:World)(F:Nat→Prop)(X g k:Nat)(B:Br)(h:BrG w F X g B)(ho:B.ok)(hk:k<B.np):Calls Tryz.prog 151 #[aJ g k X] w fun e w'=>e=.returned (.bool (dF B k))∧Ext w w':=by
 obtain⟨hX,hg,hne⟩:=h.lt
 have hEz:=(Ext.refl w).alloc (.cells #[.pointer (some ⟨g,k*89,none⟩),.pointer (some ⟨X,0,none⟩),.int .i64 k] 112)
 have hBz:=h.alloc (.cells #[.pointer (some ⟨g,k*89,none⟩),.pointer (some ⟨X,0,none⟩),.int .i64 k] 112)
 have hPz:=heap_alloc_new w (.cells #[.pointer (some ⟨g,k*89,none⟩),.pointer (some ⟨X,0,none⟩),.int .i64 k] 112)
 have hb0:w.heap.size<(w.alloc (.cells #[.pointer (some ⟨g,k*89,none⟩),.pointer (some ⟨X,0,none⟩),.int .i64 k] 112)).heap.size:=by simp
 have hbg:w.heap.size≠g:=by omega
 have hbX:w.heap.size≠X:=by omega
 have HEz:=hD hEz
 have HBz:=hD hBz
 have HPz:=hD hPz
 have HZ0:=hD hb0
 clear hEz hBz hPz hb0 h
 unfold aJ
 go_enter Tryz.func151,Tryz.ntmps151
 go_wp2_with fail
 generalize w.alloc (.cells #[.pointer (some ⟨g,k*89,none⟩),.pointer (some ⟨X,0,none⟩),.int .i64 k] 112)=wz at *
 obtain⟨b0,hb00⟩:∃b,w.heap.size=b:=⟨_,rfl⟩
 rw[hb00]at HPz HZ0 hbg hbX ⊢
 clear hb00
 have hb0:=HZ0.out
 have hBz:=HBz.out
 have c0:wz.cell? ⟨b0,0,none⟩=some (.pointer (some ⟨g,k*89,none⟩)):=(cell_of_row _ _ _ _ _ _ HPz.out).trans rfl
 have c1:wz.cell? ⟨b0,1,none⟩=some (.pointer (some ⟨X,0,none⟩)):=(cell_of_row _ _ _ _ _ _ HPz.out).trans rfl
 have c2:wz.cell? ⟨b0,2,none⟩=some (.int .i64 k):=(cell_of_row _ _ _ _ _ _ HPz.out).trans rfl
 have hgz:g<wz.heap.size:=hBz.lt.2.1
 have hXz:X<wz.heap.size:=hBz.lt.1
 have p7:=qi hBz ho hk 7 rfl
 have p10:=qi hBz ho hk 10 rfl
 have q1:=(hBz.cellX ho (i:=1) (by decide)).trans (ho.hb 1 rfl)
 obtain⟨C,hC,hCb,hCz⟩:=hBz.br (by omega)
 have HC:=hD hC
 have HCb:=hD hCb
 have HCi:=hD (show(Tryz.prog.info? 35).map (·.size)=some C.size by rw[hCz,ho.hd.1];exact kZ)
 clear hC hCb hCz
 cases h7:(B.gi k 7 == 0)
 ·cases h1:B.hb 1
  ·rw[h1]at q1
   refine aT (S:=fun W'=>Ext wz W') (by kernel_rfl) ?_
   intro wd hqx
   have hq0:Ext wz wd:=hqx
   refine aH 0 b0 0 rfl hq0 ?_
   refine tL 1 (_) rfl (aA rfl 79 _ rfl ⟨b0,0,none⟩ rfl (.pointer (some ⟨g,k*89,none⟩)) _ (fun W' hW'=>(hW'.cell (p:=⟨b0,0,none⟩) hb0).trans c0) Tryz.underlying79 rfl) hq0 ?_
   refine aH 2 g (k*89) rfl hq0 ?_
   refine aH 3 g (k*89+6) rfl hq0 ?_
   refine aH 4 g (k*89+7) rfl hq0 ?_
   refine tL 5 (_) rfl (aA rfl 3 _ rfl ⟨g,k*89+7,none⟩ rfl (.int .i64 (B.gi k 7)) _ (fun W' hW'=>(hW'.cell (p:=⟨g,k*89+7,none⟩) hgz).trans p7) Tryz.underlying3 rfl) hq0 ?_
   refine tL 6 ((.bool false)) rfl (Or.inl ⟨rfl,fun W' _=>by go_simp⟩) hq0 ?_
   refine bO 7 ((.bool false)) rfl hq0 ?_
   refine aH 8 b0 1 rfl hq0 ?_
   refine tL 9 (_) rfl (aA rfl 52 _ rfl ⟨b0,1,none⟩ rfl (.pointer (some ⟨X,0,none⟩)) _ (fun W' hW'=>(hW'.cell (p:=⟨b0,1,none⟩) hb0).trans c1) Tryz.underlying52 rfl) hq0 ?_
   refine aH 10 X 0 rfl hq0 ?_
   refine aH 11 X 1 rfl hq0 ?_
   refine tL 12 (_) rfl (aA rfl 4 _ rfl ⟨X,1,none⟩ rfl (.bool false) _ (fun W' hW'=>(hW'.cell (p:=⟨X,1,none⟩) hXz).trans q1) Tryz.underlying4 rfl) hq0 ?_
   refine bO 13 ((.bool false)) rfl hq0 ?_
   refine tL 14 (undef) rfl (Or.inr ⟨rfl,rfl⟩) hq0 ?_
   refine tL 15 (undef) rfl (Or.inr ⟨rfl,rfl⟩) hq0 ?_
   refine tL 16 (undef) rfl (Or.inr ⟨rfl,rfl⟩) hq0 ?_
   refine tL 17 (undef) rfl (Or.inr ⟨rfl,rfl⟩) hq0 ?_
   refine tL 18 (undef) rfl (Or.inr ⟨rfl,rfl⟩) hq0 ?_
   refine tL 19 (undef) rfl (Or.inr ⟨rfl,rfl⟩) hq0 ?_
   refine tL 20 (undef) rfl (Or.inr ⟨rfl,rfl⟩) hq0 ?_
   refine bO 21 ((.bool false)) rfl hq0 ?_
   refine bO 22 ((.bool false)) rfl hq0 ?_
   refine tL 23 (undef) rfl (Or.inr ⟨rfl,rfl⟩) hq0 ?_
   refine tL 24 (undef) rfl (Or.inr ⟨rfl,rfl⟩) hq0 ?_
   refine tL 25 (undef) rfl (Or.inr ⟨rfl,rfl⟩) hq0 ?_
   refine tL 26 (undef) rfl (Or.inr ⟨rfl,rfl⟩) hq0 ?_
   refine tL 27 (undef) rfl (Or.inr ⟨rfl,rfl⟩) hq0 ?_
   refine tL 28 (undef) rfl (Or.inr ⟨rfl,rfl⟩) hq0 ?_
   refine tL 29 (undef) rfl (Or.inr ⟨rfl,rfl⟩) hq0 ?_
   refine bO 30 ((.bool false)) rfl hq0 ?_
   refine bO 31 ((.bool false)) rfl hq0 ?_
   refine bO 32 ((.bool false)) rfl hq0 ?_
   refine wpAnyH_done (by kernel_rfl) ?_ _
   go_wp2_with fail
   go_ret
   exact⟨by simp[dF,h7,h1],HEz.out.trans hq0⟩
  ·rw [h1]at q1
   cases hrr:rB B k
   ·refine aT (S:=fun W'=>Ext wz W') (by kernel_rfl) ?_
    intro wd hqx
    have hq0:Ext wz wd:=hqx
    refine aH 0 b0 0 rfl hq0 ?_
    refine tL 1 (_) rfl (aA rfl 79 _ rfl ⟨b0,0,none⟩ rfl (.pointer (some ⟨g,k*89,none⟩)) _ (fun W' hW'=>(hW'.cell (p:=⟨b0,0,none⟩) hb0).trans c0) Tryz.underlying79 rfl) hq0 ?_
    refine aH 2 g (k*89) rfl hq0 ?_
    refine aH 3 g (k*89+6) rfl hq0 ?_
    refine aH 4 g (k*89+7) rfl hq0 ?_
    refine tL 5 (_) rfl (aA rfl 3 _ rfl ⟨g,k*89+7,none⟩ rfl (.int .i64 (B.gi k 7)) _ (fun W' hW'=>(hW'.cell (p:=⟨g,k*89+7,none⟩) hgz).trans p7) Tryz.underlying3 rfl) hq0 ?_
    refine tL 6 ((.bool false)) rfl (Or.inl ⟨rfl,fun W' _=>by go_simp⟩) hq0 ?_
    refine bO 7 ((.bool false)) rfl hq0 ?_
    refine aH 8 b0 1 rfl hq0 ?_
    refine tL 9 (_) rfl (aA rfl 52 _ rfl ⟨b0,1,none⟩ rfl (.pointer (some ⟨X,0,none⟩)) _ (fun W' hW'=>(hW'.cell (p:=⟨b0,1,none⟩) hb0).trans c1) Tryz.underlying52 rfl) hq0 ?_
    refine aH 10 X 0 rfl hq0 ?_
    refine aH 11 X 1 rfl hq0 ?_
    refine tL 12 (_) rfl (aA rfl 4 _ rfl ⟨X,1,none⟩ rfl (.bool true) _ (fun W' hW'=>(hW'.cell (p:=⟨X,1,none⟩) hXz).trans q1) Tryz.underlying4 rfl) hq0 ?_
    refine bO 13 ((.bool true)) rfl hq0 ?_
    refine aH 14 b0 1 rfl hq0 ?_
    refine tL 15 (_) rfl (aA rfl 52 _ rfl ⟨b0,1,none⟩ rfl (.pointer (some ⟨X,0,none⟩)) _ (fun W' hW'=>(hW'.cell (p:=⟨b0,1,none⟩) hb0).trans c1) Tryz.underlying52 rfl) hq0 ?_
    refine aH 16 X 0 rfl hq0 ?_
    refine tL 17 (_) rfl (a4 rfl 35 _ rfl X rfl C _ _ (fun W' hW'=>(hW'.block _ hXz).trans HC.out) Tryz.underlying35 rfl HCi.out) hq0 ?_
    refine aH 18 b0 2 rfl hq0 ?_
    refine tL 19 (_) rfl (aA rfl 3 _ rfl ⟨b0,2,none⟩ rfl (.int .i64 k) _ (fun W' hW'=>(hW'.cell (p:=⟨b0,2,none⟩) hb0).trans c2) Tryz.underlying3 rfl) hq0 ?_
    refine kI (i:=20) rfl (by rfl) (by kernel_rfl) (fun K hK=>?_)
    go_simp
    refine(aEB C B k _ (HCb.out.ext hq0) ho).mono ?_
    rintro e wc1 ⟨he,hx⟩
    rw[hrr]at he
    obtain rfl:e=.returned (.bool false):=he
    have hq1:=hq0.trans hx
    refine hK.out _ _ hq1 (fun hHeld=>?_)
    try simp only[ps]
    clear hK K hHeld
    refine bO 21 ((.bool false)) rfl hq1 ?_
    refine bO 22 ((.bool false)) rfl hq1 ?_
    refine tL 23 (undef) rfl (Or.inr ⟨rfl,rfl⟩) hq1 ?_
    refine tL 24 (undef) rfl (Or.inr ⟨rfl,rfl⟩) hq1 ?_
    refine tL 25 (undef) rfl (Or.inr ⟨rfl,rfl⟩) hq1 ?_
    refine tL 26 (undef) rfl (Or.inr ⟨rfl,rfl⟩) hq1 ?_
    refine tL 27 (undef) rfl (Or.inr ⟨rfl,rfl⟩) hq1 ?_
    refine tL 28 (undef) rfl (Or.inr ⟨rfl,rfl⟩) hq1 ?_
    refine tL 29 (undef) rfl (Or.inr ⟨rfl,rfl⟩) hq1 ?_
    refine bO 30 ((.bool false)) rfl hq1 ?_
    refine bO 31 ((.bool false)) rfl hq1 ?_
    refine bO 32 ((.bool false)) rfl hq1 ?_
    refine wpAnyH_done (by kernel_rfl) ?_ _
    go_wp2_with fail
    go_ret
    exact⟨by simp[dF,h7,h1,hrr],HEz.out.trans hq1⟩
   ·refine aT (S:=fun W'=>Ext wz W') (by kernel_rfl) ?_
    intro wd hqx
    have hq0:Ext wz wd:=hqx
    refine aH 0 b0 0 rfl hq0 ?_
    refine tL 1 (_) rfl (aA rfl 79 _ rfl ⟨b0,0,none⟩ rfl (.pointer (some ⟨g,k*89,none⟩)) _ (fun W' hW'=>(hW'.cell (p:=⟨b0,0,none⟩) hb0).trans c0) Tryz.underlying79 rfl) hq0 ?_
    refine aH 2 g (k*89) rfl hq0 ?_
    refine aH 3 g (k*89+6) rfl hq0 ?_
    refine aH 4 g (k*89+7) rfl hq0 ?_
    refine tL 5 (_) rfl (aA rfl 3 _ rfl ⟨g,k*89+7,none⟩ rfl (.int .i64 (B.gi k 7)) _ (fun W' hW'=>(hW'.cell (p:=⟨g,k*89+7,none⟩) hgz).trans p7) Tryz.underlying3 rfl) hq0 ?_
    refine tL 6 ((.bool false)) rfl (Or.inl ⟨rfl,fun W' _=>by go_simp⟩) hq0 ?_
    refine bO 7 ((.bool false)) rfl hq0 ?_
    refine aH 8 b0 1 rfl hq0 ?_
    refine tL 9 (_) rfl (aA rfl 52 _ rfl ⟨b0,1,none⟩ rfl (.pointer (some ⟨X,0,none⟩)) _ (fun W' hW'=>(hW'.cell (p:=⟨b0,1,none⟩) hb0).trans c1) Tryz.underlying52 rfl) hq0 ?_
    refine aH 10 X 0 rfl hq0 ?_
    refine aH 11 X 1 rfl hq0 ?_
    refine tL 12 (_) rfl (aA rfl 4 _ rfl ⟨X,1,none⟩ rfl (.bool true) _ (fun W' hW'=>(hW'.cell (p:=⟨X,1,none⟩) hXz).trans q1) Tryz.underlying4 rfl) hq0 ?_
    refine bO 13 ((.bool true)) rfl hq0 ?_
    refine aH 14 b0 1 rfl hq0 ?_
    refine tL 15 (_) rfl (aA rfl 52 _ rfl ⟨b0,1,none⟩ rfl (.pointer (some ⟨X,0,none⟩)) _ (fun W' hW'=>(hW'.cell (p:=⟨b0,1,none⟩) hb0).trans c1) Tryz.underlying52 rfl) hq0 ?_
    refine aH 16 X 0 rfl hq0 ?_
    refine tL 17 (_) rfl (a4 rfl 35 _ rfl X rfl C _ _ (fun W' hW'=>(hW'.block _ hXz).trans HC.out) Tryz.underlying35 rfl HCi.out) hq0 ?_
    refine aH 18 b0 2 rfl hq0 ?_
    refine tL 19 (_) rfl (aA rfl 3 _ rfl ⟨b0,2,none⟩ rfl (.int .i64 k) _ (fun W' hW'=>(hW'.cell (p:=⟨b0,2,none⟩) hb0).trans c2) Tryz.underlying3 rfl) hq0 ?_
    refine kI (i:=20) rfl (by rfl) (by kernel_rfl) (fun K hK=>?_)
    go_simp
    refine(aEB C B k _ (HCb.out.ext hq0) ho).mono ?_
    rintro e wc1 ⟨he,hx⟩
    rw[hrr]at he
    obtain rfl:e=.returned (.bool true):=he
    have hq1:=hq0.trans hx
    refine hK.out _ _ hq1 (fun hHeld=>?_)
    try simp only[ps]
    clear hK K hHeld
    refine bO 21 ((.bool true)) rfl hq1 ?_
    refine bO 22 ((.bool true)) rfl hq1 ?_
    refine aH 23 b0 0 rfl hq1 ?_
    refine tL 24 (_) rfl (aA rfl 79 _ rfl ⟨b0,0,none⟩ rfl (.pointer (some ⟨g,k*89,none⟩)) _ (fun W' hW'=>(hW'.cell (p:=⟨b0,0,none⟩) hb0).trans c0) Tryz.underlying79 rfl) hq1 ?_
    refine aH 25 g (k*89) rfl hq1 ?_
    refine aH 26 g (k*89+6) rfl hq1 ?_
    refine aH 27 g (k*89+10) rfl hq1 ?_
    refine tL 28 (_) rfl (aA rfl 3 _ rfl ⟨g,k*89+10,none⟩ rfl (.int .i64 (B.gi k 10)) _ (fun W' hW'=>(hW'.cell (p:=⟨g,k*89+10,none⟩) hgz).trans p10) Tryz.underlying3 rfl) hq1 ?_
    refine tL 29 ((.bool (B.gi k 10 == 0))) rfl (Or.inl ⟨rfl,fun W' _=>by go_simp⟩) hq1 ?_
    refine bO 30 ((.bool (B.gi k 10 == 0))) rfl hq1 ?_
    refine bO 31 ((.bool (B.gi k 10 == 0))) rfl hq1 ?_
    refine bO 32 ((.bool (B.gi k 10 == 0))) rfl hq1 ?_
    refine wpAnyH_done (by kernel_rfl) ?_ _
    go_wp2_with fail
    go_ret
    exact⟨by simp[dF,h7,h1,hrr],HEz.out.trans hq1⟩
 ·refine aT (S:=fun W'=>Ext wz W') (by kernel_rfl) ?_
  intro wd hqx
  have hq0:Ext wz wd:=hqx
  refine aH 0 b0 0 rfl hq0 ?_
  refine tL 1 (_) rfl (aA rfl 79 _ rfl ⟨b0,0,none⟩ rfl (.pointer (some ⟨g,k*89,none⟩)) _ (fun W' hW'=>(hW'.cell (p:=⟨b0,0,none⟩) hb0).trans c0) Tryz.underlying79 rfl) hq0 ?_
  refine aH 2 g (k*89) rfl hq0 ?_
  refine aH 3 g (k*89+6) rfl hq0 ?_
  refine aH 4 g (k*89+7) rfl hq0 ?_
  refine tL 5 (_) rfl (aA rfl 3 _ rfl ⟨g,k*89+7,none⟩ rfl (.int .i64 (B.gi k 7)) _ (fun W' hW'=>(hW'.cell (p:=⟨g,k*89+7,none⟩) hgz).trans p7) Tryz.underlying3 rfl) hq0 ?_
  refine tL 6 ((.bool true)) rfl (Or.inl ⟨rfl,fun W' _=>by go_simp⟩) hq0 ?_
  refine bO 7 ((.bool true)) rfl hq0 ?_
  refine tL 8 (undef) rfl (Or.inr ⟨rfl,rfl⟩) hq0 ?_
  refine tL 9 (undef) rfl (Or.inr ⟨rfl,rfl⟩) hq0 ?_
  refine tL 10 (undef) rfl (Or.inr ⟨rfl,rfl⟩) hq0 ?_
  refine tL 11 (undef) rfl (Or.inr ⟨rfl,rfl⟩) hq0 ?_
  refine tL 12 (undef) rfl (Or.inr ⟨rfl,rfl⟩) hq0 ?_
  refine tL 13 (undef) rfl (Or.inr ⟨rfl,rfl⟩) hq0 ?_
  refine tL 14 (undef) rfl (Or.inr ⟨rfl,rfl⟩) hq0 ?_
  refine tL 15 (undef) rfl (Or.inr ⟨rfl,rfl⟩) hq0 ?_
  refine tL 16 (undef) rfl (Or.inr ⟨rfl,rfl⟩) hq0 ?_
  refine tL 17 (undef) rfl (Or.inr ⟨rfl,rfl⟩) hq0 ?_
  refine tL 18 (undef) rfl (Or.inr ⟨rfl,rfl⟩) hq0 ?_
  refine tL 19 (undef) rfl (Or.inr ⟨rfl,rfl⟩) hq0 ?_
  refine tL 20 (undef) rfl (Or.inr ⟨rfl,rfl⟩) hq0 ?_
  refine tL 21 (undef) rfl (Or.inr ⟨rfl,rfl⟩) hq0 ?_
  refine tL 22 (undef) rfl (Or.inr ⟨rfl,rfl⟩) hq0 ?_
  refine tL 23 (undef) rfl (Or.inr ⟨rfl,rfl⟩) hq0 ?_
  refine tL 24 (undef) rfl (Or.inr ⟨rfl,rfl⟩) hq0 ?_
  refine tL 25 (undef) rfl (Or.inr ⟨rfl,rfl⟩) hq0 ?_
  refine tL 26 (undef) rfl (Or.inr ⟨rfl,rfl⟩) hq0 ?_
  refine tL 27 (undef) rfl (Or.inr ⟨rfl,rfl⟩) hq0 ?_
  refine tL 28 (undef) rfl (Or.inr ⟨rfl,rfl⟩) hq0 ?_
  refine tL 29 (undef) rfl (Or.inr ⟨rfl,rfl⟩) hq0 ?_
  refine tL 30 (undef) rfl (Or.inr ⟨rfl,rfl⟩) hq0 ?_
  refine bO 31 ((.bool true)) rfl hq0 ?_
  refine bO 32 ((.bool true)) rfl hq0 ?_
  refine wpAnyH_done (by kernel_rfl) ?_ _
  go_wp2_with fail
  go_ret
  exact⟨by simp[dF,h7],HEz.out.trans hq0⟩
theorem qQ(w:World)(F:Nat→Prop)(X g k:Nat)(B:Br)(h:BrG w F X g B)(ho:B.ok)(hk:k<B.np):Calls Tryz.prog 103 #[aJ g k X] w fun e w'=>e=.returned (.bool (dF B k && !B.gb k 28))∧Ext w w':=by
 obtain⟨hX,hg,hne⟩:=h.lt
 have H:=hD h
 obtain⟨m,hm⟩:∃m,dF B k=m:=⟨_,rfl⟩
 rw[hm]
 have HM:=hD hm
 clear hm
 obtain⟨x28,e28⟩:∃b,B.gb k 28=b:=⟨_,rfl⟩
 rw[e28]
 have HE28:=hD e28
 clear e28
 unfold aJ
 go_enter Tryz.func103,Tryz.ntmps103
 go_wp2_with fail
 refine(pE _ F X g k B (H.out.ext ((Ext.refl w).alloc _)) ho hk).mono ?_
 rintro e w1 ⟨he,hx⟩
 rw[HM.out]at he
 obtain rfl:e=.returned (.bool m):=he
 have hP:=(hx.block _ (by simp)).trans (heap_alloc_new w _)
 have c0:w1.cell? ⟨w.heap.size,0,none⟩=some (.pointer (some ⟨g,k*89,none⟩)):=(cell_of_row _ _ _ _ _ _ hP).trans rfl
 have hB1:=H.out.ext (((Ext.refl w).alloc _).trans hx)
 have HX:=hD hx
 have p28:=qb hB1 ho hk 28
 rw[HE28.out]at p28
 clear h hX hg hne hx hP hB1
 cases m
 all_goals
  go_wp2_with fail
  go_ret
  exact⟨by simp,((Ext.refl w).alloc _).trans HX.out⟩
theorem oF(w:World)(F:Nat→Prop)(X g k:Nat)(B:Br)(h:BrG w F X g B)(ho:B.ok)(hk:k<B.np):Calls Tryz.prog 105 #[aJ g k X] w fun e w'=>e=.returned (.bool (dF B k && B.gb k 28 && !B.gb k 26))∧Ext w w':=by
 obtain⟨hX,hg,hne⟩:=h.lt
 have H:=hD h
 obtain⟨m,hm⟩:∃m,dF B k=m:=⟨_,rfl⟩
 rw[hm]
 have HM:=hD hm
 clear hm
 obtain⟨x28,e28⟩:∃b,B.gb k 28=b:=⟨_,rfl⟩
 rw[e28]
 have HE28:=hD e28
 clear e28
 obtain⟨x26,e26⟩:∃b,B.gb k 26=b:=⟨_,rfl⟩
 rw[e26]
 have HE26:=hD e26
 clear e26
 unfold aJ
 go_enter Tryz.func105,Tryz.ntmps105
 go_wp2_with fail
 refine(pE _ F X g k B (H.out.ext ((Ext.refl w).alloc _)) ho hk).mono ?_
 rintro e w1 ⟨he,hx⟩
 rw[HM.out]at he
 obtain rfl:e=.returned (.bool m):=he
 have hP:=(hx.block _ (by simp)).trans (heap_alloc_new w _)
 have c0:w1.cell? ⟨w.heap.size,0,none⟩=some (.pointer (some ⟨g,k*89,none⟩)):=(cell_of_row _ _ _ _ _ _ hP).trans rfl
 have hB1:=H.out.ext (((Ext.refl w).alloc _).trans hx)
 have HX:=hD hx
 have p28:=qb hB1 ho hk 28
 rw[HE28.out]at p28
 have p26:=qb hB1 ho hk 26
 rw[HE26.out]at p26
 clear h hX hg hne hx hP hB1
 cases m<;>cases x28
 all_goals
  go_wp2_with fail
  go_ret
  exact⟨by simp,((Ext.refl w).alloc _).trans HX.out⟩
theorem rC(w:World)(F:Nat→Prop)(X g k:Nat)(B:Br)(h:BrG w F X g B)(ho:B.ok)(hk:k<B.np):Calls Tryz.prog 95 #[aJ g k X] w fun e w'=>e=.returned (.bool (eT B k))∧Ext w w':=by
 unfold eT
 obtain⟨m,hm⟩:∃m,rA B=m:=⟨_,rfl⟩
 rw[hm]
 have HM:=hD hm
 clear hm
 obtain⟨x22,e22⟩:∃b,B.gb k 22=b:=⟨_,rfl⟩
 rw[e22]
 have HE22:=hD e22
 clear e22
 obtain⟨x33,e33⟩:∃b,B.gb k 33=b:=⟨_,rfl⟩
 rw[e33]
 have HE33:=hD e33
 clear e33
 obtain⟨hX,hg,hne⟩:=h.lt
 have hB0:=h.alloc (.cells #[.pointer (some ⟨g,k*89,none⟩),.pointer (some ⟨X,0,none⟩),.int .i64 k] 112)
 obtain⟨C,hC,hCb,hCz⟩:=hB0.br (by omega)
 have HC:=hD hC
 have HCb:=hD hCb
 have HCi:=hD (show(Tryz.prog.info? 35).map (·.size)=some C.size by rw[hCz,ho.hd.1];exact kZ)
 have H0:=hD hB0
 clear hC hCb hCz hB0 h
 unfold aJ
 go_enter Tryz.func95,Tryz.ntmps95
 have hs:w.heap.size≠X:=by omega
 go_wp2_with (first|fail|((with_reducible refine aG 35 ?_);refine wpList_load_row rfl 35 _ rfl X rfl 35 C (0,0) _ HC.out Tryz.underlying35 rfl HCi.out ?_))
 refine(aGU C B _ HCb.out ho).mono ?_
 rintro e w1 ⟨he,hx⟩
 rw[HM.out]at he
 obtain rfl:e=.returned (.bool m):=he
 have hB1:=H0.out.ext hx
 have p22:=qb hB1 ho hk 22
 have p33:=qb hB1 ho hk 33
 rw[HE22.out]at p22
 rw[HE33.out]at p33
 have HX:=hD hx
 clear hx hB1 hX hg hne hs
 cases m<;>cases x22<;>cases x33
 all_goals
  go_wp2_with fail
  go_ret
  exact⟨by simp,((Ext.refl w).alloc _).trans HX.out⟩
theorem aEC(w:World)(F:Nat→Prop)(X g k:Nat)(B:Br)(h:BrG w F X g B)(ho:B.ok)(hk:k<B.np):Calls Tryz.prog 113 #[aJ g k X] w fun e w'=>e=.returned (.bool (if B.gb k 47=true then B.gb k 46 else(!B.gb k 29 && !B.gb k 27) || B.gb k 23 || B.gb k 32))∧Ext w w':=by
 obtain⟨m,hm⟩:∃m,(!B.gb k 29 && !B.gb k 27)=m:=⟨_,rfl⟩
 rw[hm]
 have HM:=hD hm
 clear hm
 obtain⟨x23,e23⟩:∃b,B.gb k 23=b:=⟨_,rfl⟩
 rw[e23]
 have HE23:=hD e23
 clear e23
 obtain⟨x32,e32⟩:∃b,B.gb k 32=b:=⟨_,rfl⟩
 rw[e32]
 have HE32:=hD e32
 clear e32
 obtain⟨hX,hg,hne⟩:=h.lt
 have p47:=qb h ho hk 47
 have p46:=qb h ho hk 46
 have H:=hD h
 have hs:w.heap.size≠g:=by omega
 clear h
 unfold aJ
 go_enter Tryz.func113,Tryz.ntmps113
 cases h47:B.gb k 47
 ·rw [h47]at p47
  go_wp2_with fail
  refine(pC _ F X g k B (H.out.ext ((Ext.refl w).alloc _)) ho hk).mono ?_
  rintro e w1 ⟨he,hx⟩
  rw[HM.out]at he
  obtain rfl:e=.returned (.bool m):=he
  have hB1:=H.out.ext (((Ext.refl w).alloc _).trans hx)
  have p23:=qb hB1 ho hk 23
  have p32:=qb hB1 ho hk 32
  rw[HE23.out]at p23
  rw[HE32.out]at p32
  have HX:=hD hx
  clear hx hB1 p46 p47 h47
  cases m<;>cases x23
  all_goals
   go_wp2_with fail
   go_ret
   exact⟨by simp,((Ext.refl w).alloc _).trans HX.out⟩
 ·rw[h47]at p47
  go_wp2_with fail
  go_ret
  exact⟨by simp,(Ext.refl w).alloc _⟩
theorem xE(w:World)(F:Nat→Prop)(X g k:Nat)(B:Br)(h:BrG w F X g B)(ho:B.ok)(hk:k<B.np):Calls Tryz.prog 116 #[aJ g k X] w fun e w'=>e=.returned (.bool ((B.gb k 28 || B.gb k 26) && !B.gb k 32 && ((B.gb k 46 && !B.gb k 47) || (B.gb k 42 && B.gi k 12 != 0) || B.gb k 24)))∧Ext w w':=by
 obtain⟨hX,hg,hne⟩:=h.lt
 have p46:=qb h ho hk 46
 have p47:=qb h ho hk 47
 have p42:=qb h ho hk 42
 have p24:=qb h ho hk 24
 have p28:=qb h ho hk 28
 have p26:=qb h ho hk 26
 have p32:=qb h ho hk 32
 have p12:=qi h ho hk 12 rfl
 have hs:w.heap.size≠g:=by omega
 clear h
 obtain⟨x46,e46⟩:∃b,B.gb k 46=b:=⟨_,rfl⟩
 rw[e46]at p46 ⊢
 obtain⟨x47,e47⟩:∃b,B.gb k 47=b:=⟨_,rfl⟩
 rw[e47]at p47 ⊢
 obtain⟨x42,e42⟩:∃b,B.gb k 42=b:=⟨_,rfl⟩
 rw[e42]at p42 ⊢
 obtain⟨x24,e24⟩:∃b,B.gb k 24=b:=⟨_,rfl⟩
 rw[e24]at p24 ⊢
 obtain⟨x28,e28⟩:∃b,B.gb k 28=b:=⟨_,rfl⟩
 rw[e28]at p28 ⊢
 obtain⟨x26,e26⟩:∃b,B.gb k 26=b:=⟨_,rfl⟩
 rw[e26]at p26 ⊢
 obtain⟨x32,e32⟩:∃b,B.gb k 32=b:=⟨_,rfl⟩
 rw[e32]at p32 ⊢
 obtain⟨x12,e12⟩:∃b,B.gi k 12=b:=⟨_,rfl⟩
 rw[e12]at p12 ⊢
 clear e46 e47 e42 e24 e28 e26 e32 e12
 unfold aJ
 go_enter Tryz.func116,Tryz.ntmps116
 cases x46
 ·cases x42
  ·cases x28
   ·cases x26
    ·go_wp2_with fail
     go_ret
     exact⟨by first|(simp;done)|simp[hz],(Ext.refl w).alloc _⟩
    ·cases x32
     ·go_wp2_with fail
      go_ret
      exact⟨by first|(simp;done)|simp[hz],(Ext.refl w).alloc _⟩
     ·go_wp2_with fail
      go_ret
      exact⟨by first|(simp;done)|simp[hz],(Ext.refl w).alloc _⟩
   ·cases x32
    ·go_wp2_with fail
     go_ret
     exact⟨by first|(simp;done)|simp[hz],(Ext.refl w).alloc _⟩
    ·go_wp2_with fail
     go_ret
     exact⟨by first|(simp;done)|simp[hz],(Ext.refl w).alloc _⟩
  ·cases hz:(x12 != 0)
   ·cases x28
    ·cases x26
     ·go_wp2_with fail
      go_ret
      exact⟨by first|(simp;done)|simp[hz],(Ext.refl w).alloc _⟩
     ·cases x32
      ·go_wp2_with fail
       go_ret
       exact⟨by first|(simp;done)|simp[hz],(Ext.refl w).alloc _⟩
      ·go_wp2_with fail
       go_ret
       exact⟨by first|(simp;done)|simp[hz],(Ext.refl w).alloc _⟩
    ·cases x32
     ·go_wp2_with fail
      go_ret
      exact⟨by first|(simp;done)|simp[hz],(Ext.refl w).alloc _⟩
     ·go_wp2_with fail
      go_ret
      exact⟨by first|(simp;done)|simp[hz],(Ext.refl w).alloc _⟩
   ·cases x28
    ·cases x26
     ·go_wp2_with fail
      go_ret
      exact⟨by first|(simp;done)|simp[hz],(Ext.refl w).alloc _⟩
     ·cases x32
      ·go_wp2_with fail
       go_ret
       exact⟨by first|(simp;done)|simp[hz],(Ext.refl w).alloc _⟩
      ·go_wp2_with fail
       go_ret
       exact⟨by first|(simp;done)|simp[hz],(Ext.refl w).alloc _⟩
    ·cases x32
     ·go_wp2_with fail
      go_ret
      exact⟨by first|(simp;done)|simp[hz],(Ext.refl w).alloc _⟩
     ·go_wp2_with fail
      go_ret
      exact⟨by first|(simp;done)|simp[hz],(Ext.refl w).alloc _⟩
 ·cases x47
  ·cases x28
   ·cases x26
    ·go_wp2_with fail
     go_ret
     exact⟨by first|(simp;done)|simp[hz],(Ext.refl w).alloc _⟩
    ·cases x32
     ·go_wp2_with fail
      go_ret
      exact⟨by first|(simp;done)|simp[hz],(Ext.refl w).alloc _⟩
     ·go_wp2_with fail
      go_ret
      exact⟨by first|(simp;done)|simp[hz],(Ext.refl w).alloc _⟩
   ·cases x32
    ·go_wp2_with fail
     go_ret
     exact⟨by first|(simp;done)|simp[hz],(Ext.refl w).alloc _⟩
    ·go_wp2_with fail
     go_ret
     exact⟨by first|(simp;done)|simp[hz],(Ext.refl w).alloc _⟩
  ·cases x42
   ·cases x28
    ·cases x26
     ·go_wp2_with fail
      go_ret
      exact⟨by first|(simp;done)|simp[hz],(Ext.refl w).alloc _⟩
     ·cases x32
      ·go_wp2_with fail
       go_ret
       exact⟨by first|(simp;done)|simp[hz],(Ext.refl w).alloc _⟩
      ·go_wp2_with fail
       go_ret
       exact⟨by first|(simp;done)|simp[hz],(Ext.refl w).alloc _⟩
    ·cases x32
     ·go_wp2_with fail
      go_ret
      exact⟨by first|(simp;done)|simp[hz],(Ext.refl w).alloc _⟩
     ·go_wp2_with fail
      go_ret
      exact⟨by first|(simp;done)|simp[hz],(Ext.refl w).alloc _⟩
   ·cases hz:(x12 != 0)
    ·cases x28
     ·cases x26
      ·go_wp2_with fail
       go_ret
       exact⟨by first|(simp;done)|simp[hz],(Ext.refl w).alloc _⟩
      ·cases x32
       ·go_wp2_with fail
        go_ret
        exact⟨by first|(simp;done)|simp[hz],(Ext.refl w).alloc _⟩
       ·go_wp2_with fail
        go_ret
        exact⟨by first|(simp;done)|simp[hz],(Ext.refl w).alloc _⟩
     ·cases x32
      ·go_wp2_with fail
       go_ret
       exact⟨by first|(simp;done)|simp[hz],(Ext.refl w).alloc _⟩
      ·go_wp2_with fail
       go_ret
       exact⟨by first|(simp;done)|simp[hz],(Ext.refl w).alloc _⟩
    ·cases x28
     ·cases x26
      ·go_wp2_with fail
       go_ret
       exact⟨by first|(simp;done)|simp[hz],(Ext.refl w).alloc _⟩
      ·cases x32
       ·go_wp2_with fail
        go_ret
        exact⟨by first|(simp;done)|simp[hz],(Ext.refl w).alloc _⟩
       ·go_wp2_with fail
        go_ret
        exact⟨by first|(simp;done)|simp[hz],(Ext.refl w).alloc _⟩
     ·cases x32
      ·go_wp2_with fail
       go_ret
       exact⟨by first|(simp;done)|simp[hz],(Ext.refl w).alloc _⟩
      ·go_wp2_with fail
       go_ret
       exact⟨by first|(simp;done)|simp[hz],(Ext.refl w).alloc _⟩
end Go.Proofs.YtpanapepcbbagaaGreat
